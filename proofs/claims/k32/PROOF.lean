import PyProof.Rows.All
import Wide.All
import OpenK.AllK
import Wide.FinOn
import Lean
import PyProof.EqAt
import PyProof.EqKinds
import PyProof.TupleCall
import PyProof.P3In
import PyProof.NeData
import PyProof.MaxThree
import PySem.Challenge.RW_stavemill_k32_what_a_page_has
set_option compiler.extract_closed false
set_option bootstrap.genMatcherCode false
set_option genSizeOf false
local macro_rules(kind:=Lean.Parser.Command.declaration)|s=>do
 if (s[1].isOfKind ``Lean.Parser.Command.definition||s[1].isOfKind ``Lean.Parser.Command.abbrev)&&s[0].getArgs.all (·.isNone) then return s.setArg 0 (<-`(command|noncomputable def x:=0)).raw[0] else Lean.Macro.throwUnsupported
set_option Elab.async false
set_option linter.all false
set_option maxRecDepth 100000
local macro_rules | `(tactic| trivial) => `(tactic| first | exact True.intro | exact Or.inl rfl | exact Or.inr rfl | exact Or.inr (Or.inl rfl) | exact Or.inr (Or.inr rfl) | exact ⟨rfl, by trivial, by decide, by decide⟩)
set_option Elab.async false
set_option linter.all false
set_option maxRecDepth 100000
set_option maxHeartbeats 4000000
noncomputable section
def t9:=@decide_eq_false
def tL:=@decide_eq_true
def po:=@beq_eq_false_iff_ne
def pA:=@getElem?_pos
def pW:=@beq_self_eq_true
def cK:=@if_false
def dz:=@if_true
def bN:=@or_false
def bZ:=@not_false_eq_true
open PySem renaming wpAny_bind->gg,wpAny_pure->gC,boot_len->t6,wpAny_newObj_type->tZ,wpAny_Call_Name_kw->fB,wpAny_seqItems->fG,wpAny_callSpecial?_slot->fJ,wpAny_holding->fS,wpAny_field->fW,wpAny_call_entry->p7,sizeLine_eq->pE,wpAny_truthy_bool->pN,wpAny_letGo->pR,wpAny_rule->pX,plainId_quiet->cq,wpAny_setField_rec->cw,wpAny_mono->cA,wpAny_passesOwn->cB,wpAny_updateSeq->cF,mem_of_lookup->cJ,wpAny_typeNameOfWhole_keyiter->cO,wpAny_tryCatch->cT,wpAny_execs_cons->dh,wpAny_Tuple_spliced->du,wpAny_typeNameOf_keyiter->dC,tupleKind_room_in1->dI,codeAny_builtin->dL,wpAny_Assign_Name->dU,wpAny_dictEntries->dX,wpAny_setField->b8,call_meetsIn->bg,wpAny_isOneOf_keyiter->bj,wpAny_updateSeq_pair->bv,wpAny_pyIter_revIter->bw,typeIs_int->bz,call_meets->bA,wpAny_execs_nil->bC,wpAny_pyIter_tuple->bJ,wpAny_Return_some->bV,wpAny_assign_Name->bW,wpAny_Call_method->bY,wpAny_standAt->m9,nums_intItems->mf,wpAny_attempt->mm,wpAny_onRaise->mn
open List renaming length_map->gj,mem_cons_of_mem->gu,getElem?_eq_some_iff->gw,mem_append->gD,mem_cons->gG,length_append->gH,getElem?_eq_getElem->gJ,mem_map->gK,getElem?_map->gM,length_cons->gQ,map_cons->gW,size_toArray->gZ,pairwise_append->h9,map_map->hE,getElem?_set_ne->hU,mem_of_getElem?->hV,getElem?_append_right->hZ,map_congr_left->t3,mem_cons_self->t4,getElem?_append_left->t8,append_assoc->tf,mem_append_left->tj,mem_append_right->tq,map_append->tw,length_take->tB,mem_iff_getElem->tF,getD_eq_getElem?_getD->tG,nodup_cons->tJ,flatten_cons->tP,mem_singleton->tQ,take_append_drop->tS,append_nil->tT,all_eq_true->tV,pairwise_iff_getElem->tW,take_of_length_le->tX,length_eq_zero_iff->fm,pairwise_map->fq,mem_of_mem_take->fy,mem_of_mem_drop->fA,pairwise_cons->fC,length_drop->fF,getElem?_replicate->fH,nodup_append->fL,filter_cons_of_pos->fN,filter_eq_nil_iff->fP,length_nil->fQ,drop_eq_getElem_cons->fR,getElem_mem->fT,length_singleton->fU,nil_append->fX,set_cons_zero->fY,pairwise_singleton->fZ,set_cons_succ->p6,not_mem_nil->p9,drop_of_length_le->pj,getElem?_range->pt,getLast?_eq_none_iff->px,all_cons->pH,getElem?_cons_succ->pI,sum_cons->pK,length_range->pO,replicate_succ->pP,foldl_cons->pS,map_nil->c9,countP_append->cg,getElem?_take->cj,filter_append->cy,filter_cons_of_neg->cM,drop_append_of_le_length->cP,take_append_of_le_length->cQ,find?_eq_none->cX,find?_cons->cZ,range_succ->d7,mem_of_getLast?->dg,drop_length->dj,take_length->dm,reverse_append->dA,filter_eq_self->dB,mem_filter->dH,find?_cons_of_neg->dS,ext_getElem?->dY,getLast?_map->dZ,mem_range->b7,take_take->b9,zipIdx_cons->bq,any_cons->bx,filterMap_cons->bB,length_set->bD,forIn_cons->bE,sum_append->bG,length_reverse->bI,zip_cons_cons->bK,set_set->bM,findIdx?_cons->bQ,nodup_nil->bS,take_zero->bU,reverse_cons->bX
open PySem.Heap renaming get?_push_of_some->gy,get?_push_size->gN,lt_size->gU,get?_update_other->tR,get?_update_self->f9,get?_push_ne->cG,size_push->cR,size_update->dq
open Nat renaming le_refl->gE,ne_of_lt->t7,lt_of_lt_of_le->tu,zero_le->tK,le_trans->fw,min_eq_left->pB,lt_irrefl->pG,zero_add->pL,ne_of_gt->c6,le_of_lt->cY,lt_succ_of_lt->dW,lt_succ_self->bn,le_succ->bF,lt_trans->bL,lt_or_ge->bO
open PySem.PassesOwn renaming never->gP
open Bool renaming and_eq_true->hX,false_eq_true->f8,false_ne_true->pZ,true_and->dP,false_and->bR
open PySem.Calls renaming spliced_cons->t5,spliced_nil->tN,callWith_builtin->pT,evalArgs_plain->d9
open Ne renaming symm->tm
open PyProof.Rows renaming callWith_type1->tD,boot_max->pz,boot_min->pC,slot_tuple_getitem->cC,callWith_builtin1->cH,boot_list->cV,boot_sorted->dE,boot_sum->bm,wpS_get->bT,wpS_lift->mw
open Option.some renaming inj->tH
open Int renaming mul_le_mul_of_nonneg_right->tM,toNat_natCast->tY,le_refl->pF,eq_ofNat_of_zero_le->pJ,mul_ediv_add_emod->cz,le_of_lt->cI,emod_nonneg->dO,ediv_nonneg->bH,emod_lt_of_pos->bP
open Array renaming toList_append->tU,length_toList->fj,perm_iff_toList_perm->fO,toList_push->d8,toList_reverse->de,getElem?_eq_none->dQ
open PySem.F renaming plainAttrs_list->fK,slot_dict_get->fV,slot_tuple_iterator_next->pf,plain_min_loop->pi,plain_max_loop->pU,slot_dict_keyiterator_next->pV,slot_list_append->cD,type_list_append->cE,plainAttrs_dict->cL,entry_dict_get->cU,slot_zip_next->d6,args_tuple_iterator_next_1->dF,args_dict_get_3->dJ,entry_tuple_iterator_next->dM,entry_min_loop->dR,type_dict_get->bi
open PySem.Heap.SameBut renaming update->pp
open PySem.W renaming kia_one->pQ,mg_of->mr
open Option renaming bind_some->pY,map_eq_some_iff->cW
open List.Perm renaming append_left->cx
open List.Pairwise renaming imp_of_mem->dD
open PySem.Paired renaming length->dG
open PySem.Obj renaming data_mapFields->dN
open PySem.Around renaming under_plainId->bu
open PySem.W(methodObj Frag cellsFrom_some codeIn keepIn nsIn callWith_K kitOne kitx_dict tailIn kIn_of)
open Nat(ble ble_eq succ_pos sub_self add_assoc reduceAdd)
open PySem(KeysOf Pairs)
open PyProof.Rows(neg_int listMul_foldl_if boot_tuple)
open PySem renaming Value→aa,Shared→ab,Program→ag,Around→aj
open PyProof.Rows renaming Keyed→am,SortSt→ao
local macro_rules|`(↑$x)=>`(some $x)
def rF(_:True:=by rfl):=True
def rT(_:True:=by trivial):=True
def rD(_:True:=by decide):=True
set_option hygiene false
local macro_rules
|`($x["r"])=>`(autoParam $x rF._auto_1)
|`($x["t"])=>`(autoParam $x rT._auto_1)
|`($x["d"])=>`(autoParam $x rD._auto_1)
|`($x[0])=>`(($x).heap.objs.size)
|`($x[1])=>`(($x).length)
|`($x[2])=>`(($x).toList)
|`($x[3])=>`(wpAny (model ($x).prog ($x).w) ($x).A)
|`($x[5])=>`(eC (.int $x))
|`($x[6])=>`(.int $x)
|`($x[7])=>`(.fz (.int $x))
|`($x[8])=>`(.fz $x)
|`($x[9])=>`(.ow $x)
|`($x[""])=>`(by simpa using $x)
local macro_rules
|`("")=>`(by lia)
|`("o")=>`(by omega)
|`("s")=>`(by simp)
|`("d")=>`(by decide)
|`("I")=>`(Inv X pins σ)
|`("S")=>`(SE X F0 H0)
set_option hygiene true
local macro_rules
|`(#[$x])=>`(⟨$x⟩)
|`(#[$x,$xs,*])=>`(⟨$x,$xs,*⟩)
|`(!$x)=>`(some $x)
namespace PySem.W.Fast
def tw11198592867260556878:=0
def tw5008696349710096730:=0
def tw14055422489016844964:=0
def tw8652088840760207974:=0
def tw13770766699614147426:=0
def tw10025248847400256353:=0
def tw9004576963575559216:=0
def tw17287252696925618571:=0
def tw10359190604433397823:=0
def tw18253605793508407477:=0
def tw2369506159449693250:=0
def tw10059277205818354591:=0
def tw15315641828647440006:=0
def tw2619521162240312165:=0
def tw701645124161760055:=0
def tw10841650364788026637:=0
def tw13759141978736199944:=0
def tw2692742391661531609:=0
def tw7911190136060335595:=0
def tw10239521171230546249:=0
def tw14625858390985355143:=0
def tw17014798531549024048:=0
def tw13554977721288377550:=0
def tw12333688413077380201:=0
def tw3054596751603804844:=0
def tw11687841235973691129:=0
def tw14078340460631578014:=0
def tw15217305757129658840:=0
def tw1426771336923252594:=0
def tw3382840095415732695:=0
def tw12896837204237690453:=0
def tw9985148441019745233:=0
def tw9818001089156056724:=0
def tw3030155925518266174:=0
def tw8829456477347235812:=0
def tw11260714359774936389:=0
def tw2142209879530153701:=0
def tw9930789044685509185:=0
def tw1409668397064483255:=0
def tw4740912700550667718:=0
def tw5539094948720936536:=0
def tw17262296267175884809:=0
def tw3282111851975067197:=0
def tw16907682478019761924:=0
def tw1603431034353851836:=0
def tw7007436968951998472:=0
def tw5231508862995826107:=0
def tw8270607924177374861:=0
def tw13434420431207057799:=0
def tw14882095062521019381:=0
def tw7602999840411987152:=0
def tw821332015246910850:=0
def tw1582597152342635156:=0
def tw11711084705295426293:=0
def tw5179763914608268687:=0
def tw11245539250214490482:=0
def tw12142205707954632516:=0
def tw15148228444252235813:=0
def tw14676097344240249070:=0
def tw12231761203149167010:=0
def tw13184837214920693382:=0
def tw7187252648128155749:=0
def tw2316049064107007591:=0
def tw15879520196245564872:=0
def tw10159135082272827532:=0
def tw12332463366660826194:=0
def tw16818939259379666521:=0
def tw8495021884643748397:=0
def tw1333359558699058673:=0
def tw7710996233134741223:=0
def tw10015200010696001322:=0
def tw9026759335822395587:=0
def tw18151377641790316882:=0
def tw3295240042253705404:=0
def tw3715481015846554121:=0
def tw10621499632015690384:=0
def tw453795095179187304:=0
def tw10462674861773214048:=0
def tw3448007190817406827:=0
def tw8489695035833029772:=0
def tw2500840340950137521:=0
def tw8958908961746245552:=0
def tw13556143422386531787:=0
def tw13043885078945078127:=0
def tw6790205593824267576:=0
def tw11759762541918222064:=0
def tw700189239179705233:=0
def tw4798254387889704165:=0
def tw9838638677837772697:=0
def tw1498212665421591039:=0
def tw18083166385744160418:=0
def tw10653179628718178982:=0
def tw14174591846340260949:=0
def tw12699000698691297787:=0
def tw17519132458725173062:=0
def tw16238580200353966914:=0
def tw15644354643336646760:=0
def tw5990737456690370028:=0
def tw7610994303746359893:=0
def tw16991628096043666557:=0
def tw18437505521509522054:=0
def tw765234631332604737:=0
def tw15851226842034315985:=0
def tw86595839850045364:=0
def tw17766715258062559316:=0
def tw1435353857369049806:=0
def tw16250382790657839191:=0
def tw11947716560611026263:=0
def tw16349617850493757158:=0
def tw15726796563475124350:=0
def tw16354653853368599994:=0
def tw7183144303562539156:=0
def tw8359733320880884384:=0
def tw7964908260944578737:=0
def tw15433394612918791182:=0
def tw5656612481988373147:=0
def tw15721276675193398077:=0
def tw6122616037684877578:=0
def tw9925597451702521990:=0
def tw3273778136105949802:=0
def tw5884145407811529157:=0
def tw6497794774552381720:=0
def tw288163541764289221:=0
def tw15787876678636776454:=0
def tw7808534366923076438:=0
def tw6793408981570293935:=0
def tw11874037502814109015:=0
def tw10866416784516918591:=0
def tw5417162487155156958:=0
def tw17116526698913688147:=0
def tw18003057330851302467:=0
def tw464500641437138147:=0
def tw17860442451359351556:=0
def tw5808976548273373258:=0
def tw7171893371531345270:=0
def tw12522465571159391553:=0
def tw11712924796957867512:=0
def tw16769633978888185753:=0
def tw16924385752820646951:=0
def tw10024507312819212136:=0
def tw17988712303246965148:=0
def tw9989732553814313102:=0
def tw1074164021357245997:=0
def tw16067629193023893532:=0
def tw874297274751624799:=0
def tw14564242910257338382:=0
def tw15877828672006065036:=0
def tw14189645147115492749:=0
def tw7764478496314103467:=0
def tw14668816555373882002:=0
def tw111954097671020219:=0
def tw7950646607675096090:=0
def tw7157116178843937471:=0
def tw16465437737532001033:=0
def tw422106160475517249:=0
def tw11043567798767744715:=0
def tw6438383305377343730:=0
def tw543590526525721658:=0
def tw15000541842044899866:=0
def tw8082554152852543559:=0
def tw12996362001332327346:=0
def tw7945429593860617634:=0
def tw5038548886316509944:=0
def tw9744266296003487623:=0
def tw15441136729855453371:=0
def tw17143175592672936840:=0
def tw13040277601206657282:=0
def tw2215934601152859493:=0
def tw3392918487628070610:=0
def tw9091289791181021846:=0
def tw18220025930966057572:=0
def tw11605350888113063225:=0
def tw13734093221959257279:=0
def tw11412159669819524427:=0
def tw7064064804695816594:=0
def tw6518986685814253885:=0
def tw14796043095467637741:=0
def tw7192793247215617403:=0
def tw11024582460167269850:=0
def tw283511855946137482:=0
def tw15797959480794530975:=0
def tw4405508254368199019:=0
def tw12317766284692456597:=0
def tw14031895695897783879:=0
def tw5445647203947040060:=0
def tw8531089762443634605:=0
def tw11297490145915182636:=0
def tw12680519293306597826:=0
def tw3667679809690732826:=0
def tw5152527072459221450:=0
def tw14469410192712115923:=0
def tw13312577404500827114:=0
def tw14760660796045391787:=0
def tw4330364899777027488:=0
def tw10003055977950712744:=0
def tw12127530067945280305:=0
def tw5019497579427883188:=0
def tw9122420446125473588:=0
def tw15575113663852362991:=0
def tw15479155180639398580:=0
def tw1832421597036287790:=0
def tw14945031248262652798:=0
def tw5437046015414015275:=0
def tw12304858607716196516:=0
def tw6551889156158604188:=0
def tw4528860602465588059:=0
def tw3191756206533218278:=0
def tw12900566104268917499:=0
def tw3586184279495927239:=0
def tw480271295688111973:=0
def tw12437305714126959655:=0
def tw1780745717753945331:=0
def tw16396910809105598592:=0
def tw16605879764933106196:=0
def tw1083536036753669548:=0
def tw45097396589451180:=0
def tw1266932679789650603:=0
def tw5311454955640014121:=0
def tw6374266452664264331:=0
def tw1823415477387100737:=0
def tw7344420427093356590:=0
def tw616401900669219159:=0
def tw15267324314426135431:=0
def tw15830596990658050924:=0
def tw7922235591020569693:=0
def tw11041672982961647750:=0
def tw2507881412872993680:=0
def tw14915335139718026158:=0
def tw13276942287825495271:=0
def tw5778322804584063919:=0
def tw5029281268211645040:=0
def tw14638680610917845361:=0
def tw6102463967479560540:=0
def tw3561404696618991510:=0
def tw4204654298220031293:=0
def tw332491405588536609:=0
def tw1378251951998606573:=0
def tw5899908278510036123:=0
def tw7323665931347277252:=0
def tw13329598435862933767:=0
def tw14756100968870228553:=0
def tw7543869811527970743:=0
def tw1876818126788936597:=0
def tw16520284410325158508:=0
def tw11354547796715057664:=0
def tw3225488023268964714:=0
def tw3097766978831892385:=0
def tw16659808851685529506:=0
def tw8612095210976219512:=0
def tw7424357656533630982:=0
def tw17894557258590585339:=0
def tw8380511544626098469:=0
def tw3820023427322628250:=0
def tw11603128184625712823:=0
def tw4099696719069169924:=0
def tw7669390838076968890:=0
def tw1923509935034297356:=0
def tw11563411228283472:=0
def tw8632377257889134150:=0
def tw3835238177533520989:=0
def tw15992177128717729004:=0
def tw15878524456802637714:=0
def tw5131868247521480991:=0
def tw7735419727324563203:=0
def tw13686536218868000259:=0
def tw7971018378113945721:=0
def tw6514818311104946350:=0
def tw16317865909725734898:=0
def tw9807929428620179350:=0
def tw6501345687275290837:=0
def tw238700198315546724:=0
def tw12047890678616492902:=0
def tw10865877439111398797:=0
def tw1726350936869191602:=0
def tw17435601939603342261:=0
def tw11355158266091662967:=0
def tw814708417481999390:=0
def tw6218808897547891194:=0
def tw10389373910796221566:=0
def tw1529217761124849087:=0
def tw16894759093650899332:=0
def tw14003673702558825408:=0
def tw17858846668916302331:=0
def tw17755718803950106238:=0
def tw927123810132158730:=0
def tw6704426046395927803:=0
def tw16995476991616395952:=0
def tw9790091187434835941:=0
def tw12011096824549012707:=0
def tw15492142149260232481:=0
def tw4780753248092300364:=0
def tw10981770121417342639:=0
def tw13649115627269644099:=0
def tw589739377599542459:=0
def tw5641412553093227142:=0
def tw16143567346913630135:=0
def tw11402775424829803344:=0
def tw16892993495609880723:=0
def tw13169454583282891123:=0
def tw10804474781989088163:=0
def tw17092814794047191504:=0
def tw8147836084096224251:=0
def tw6332769185553691377:=0
def tw10906003789014329390:=0
def tw15805553958478512688:=0
def tw14099553435571004460:=0
def tw5802385752727640558:=0
def tw15147806741826809783:=0
def tw10069511362577352720:=0
def tw15287942518306253352:=0
def tw12352062457907043950:=0
def tw5818028436364023815:=0
def tw4908923270181016916:=0
def tw14200557797433264627:=0
def tw10975385602924043535:=0
def tw2744669482887933531:=0
def tw17409495022894641791:=0
def tw11069571022678830695:=0
def tw591323287020504945:=0
def tw16474775868975748695:=0
def tw12427594236312135274:=0
def tw15874256480905293435:=0
def tw9931244061710505460:=0
def tw15654485312406618669:=0
def tw8178028623679910791:=0
def tw3787726659948345005:=0
def tw13242432251861999538:=0
def tw17212652936913888385:=0
def tw4739275893283360748:=0
def tw11528812919794217794:=0
def tw4186148810422059346:=0
def tw7007777988533287932:=0
def tw8404504134536181154:=0
def tw12526541063792561980:=0
def tw11509434076783337458:=0
def tw10866433143490213392:=0
def tw13451373288305512579:=0
def tw12172502014179396633:=0
def tw12160655991969318935:=0
def tw13553190037880552442:=0
def tw9573279386209341031:=0
def tw14531935332362670196:=0
def tw401454483420125338:=0
def tw11240772167327360332:=0
end PySem.W.Fast
namespace L2
open PySem PySem.Spec PyProof.Rows
abbrev Key:=Sum Int Str
def yY:Key->aa->Bool
 | .inl k,v=>Value.isInt k v
 | .inr x,v=>Value.isStrOf x v
def M3(w:World):Key->Int
 | .inl k=>hashInt k
 | .inr x=>hashStr w x
theorem vZ:∀{k} {v},yY k v=true->(∃ i t,k=Sum.inl i/\v=Value.int i t)\/(∃ x t,k=Sum.inr x/\v=Value.str x t)
 | .inl i,v,h=>by
  obtain⟨t,e⟩:=Value.isInt_shape (k:=i) (v:=v) h;exact .inl #[i,t,rfl,e]
 | .inr x,v,h=>by
  obtain⟨t,e⟩:=Value.isStrOf_shape (x:=x) (v:=v) h;exact .inr #[x,t,rfl,e]
def M4(i)(t):yY (.inl i) (.int i t)=true:=by simp[yY,Value.isInt]
def M5(x)(t):yY (.inr x) (.str x t)=true:=by simp[yY,Value.isStrOf]
def M6(a b):decide ((Sum.inl a:Key)=Sum.inl b)=(a==b):=by
 by_cases e:a=b
 .subst e;simp
 have h:¬ (Sum.inl a:Key)=Sum.inl b:=λq=>e (Sum.inl.inj q)
 rw[t9 h];exact(po.mpr e).symm
def M7(a b):decide ((Sum.inr a:Key)=Sum.inr b)=decide (a=b):=by
 by_cases e:a=b
 .subst e;simp
 have h:¬ (Sum.inr a:Key)=Sum.inr b:=λq=>e (Sum.inr.inj q)
 rw[t9 h,t9 e]
def M8(a)(b):decide ((Sum.inl a:Key)=Sum.inr b)=false:=t9 (λq=>nomatch q)
def M9(a)(b):decide ((Sum.inr a:Key)=Sum.inl b)=false:=t9 (λq=>nomatch q)
def jk(prog:ag)(w:World):PySem.KeyKind prog w Key where
 is:=yY
 hash:=M3 w
 inj:=λv a b ha hb=>by
  rcases vZ ha with⟨i,t,rfl,rfl⟩|⟨x,t,rfl,rfl⟩
  .rcases vZ hb with⟨j,u,rfl,e⟩|⟨y,u,rfl,e⟩
   .injection e with e1 _;rw[e1]
   exact nomatch e
  rcases vZ hb with⟨j,u,rfl,e⟩|⟨y,u,rfl,e⟩
  .exact nomatch e
  injection e with e1 _;rw[e1]
 byValue:=λk v h=>by
  rcases vZ h with⟨i,t,rfl,rfl⟩|⟨x,t,rfl,rfl⟩<;>rfl
 pyHash:=λhv h=>by
  rcases vZ hv with⟨i,t,rfl,rfl⟩|⟨x,t,rfl,rfl⟩
  .exact wpAny_pyHash_int h
  exact wpAny_pyHash_str h
 eqBool:=λhu hv h=>by
  rcases vZ hu with⟨i,t,rfl,rfl⟩|⟨x,t,rfl,rfl⟩
  .rcases vZ hv with⟨j,u,rfl,rfl⟩|⟨y,u,rfl,rfl⟩
   .rw[M6]at h;exact wpAny_eqBool_int h
   rw[M8]at h;exact SeqAt.EqAt.int_str i t y u _ _ _ _ h
  rcases vZ hv with⟨j,u,rfl,rfl⟩|⟨y,u,rfl,rfl⟩
  .rw[M9]at h;exact SeqAt.EqAt.str_int x t j u _ _ _ _ h
  rw[M7]at h;exact wpAny_eqBool_str h
 «strs»:=λk x t v h=>by
  rcases vZ h with⟨i,u,rfl,e⟩|⟨y,u,rfl,e⟩
  .exact nomatch e
  injection e with e1 _;subst e1;cases v<;>rfl
def Wa(prog)(w)(i)(t):(jk prog w).is (.inl i) (.int i t)=true:=M4 i t
def Wb(prog)(w)(x)(t):(jk prog w).is (.inr x) (.str x t)=true:=M5 x t
inductive V where
 | non|bl (b:Bool)|int (i:Int)|str (x:Str)|byt (b:Array UInt8)|flt (b:UInt64)|ref (a:Addr)|ty (n:String)
 deriving DecidableEq
def RelV:V->aa->Prop
 | .non,u=>u=Value.none
 | .bl b,u=>u=Value.bool b
 | .int i,u=>∃ t,u=Value.int i t
 | .str x,u=>∃ t,u=Value.str x t
 | .byt b,u=>∃ t,u=Value.bytes b t
 | .flt b,u=>∃ t,u=Value.float b t
 | .ref a,u=>u=Value.ref a
 | .ty n,u=>u=Value.type n
abbrev Vals:List V->List aa->Prop:=Paired RelV
def Vals.length(r:Vals xs us):xs[1]=us[1]:=dG r
theorem Vals.get:∀{xs} {us} {i:Nat} {x},Vals xs us->xs[i]?=!x->∃ u,us[i]?=!u/\RelV x u
 | _,_,_,_,.nil,e=>by simp at e
 | _,_,0,_,.cons r _,e=>by simp at e;subst e;exact#[_,rfl,r]
 | _,_,i+1,x,.cons _ t,e=>by
  obtain⟨u,h1,h2⟩:=Vals.get (i:=i) (x:=x) t e[""]
  exact#[u,by simpa using h1,h2]
theorem Vals.set(r:RelV x u):∀{xs} {us} i,Vals xs us->Vals (xs.set i x) (us.set i u)
 | _,_,_,.nil=>.nil
 | _,_,0,.cons _ t=>.cons r t
 | _,_,i+1,.cons q t=>.cons q (Vals.set r i t)
theorem Vals.append:∀{xs ys} {us ws},Vals xs us->Vals ys ws->Vals (xs++ys) (us++ws)
 | _,_,_,_,.nil,s=>s
 | _,_,_,_,.cons r t,s=>.cons r (Vals.append t s)
theorem Vals.take:∀{xs} {us} n,Vals xs us->Vals (xs.take n) (us.take n)
 | _,_,0,_=>.nil
 | _,_,_+1,.nil=>.nil
 | _,_,n+1,.cons r t=>.cons r (Vals.take n t)
theorem Vals.drop:∀{xs} {us} n,Vals xs us->Vals (xs.drop n) (us.drop n)
 | _,_,0,r=>r
 | _,_,_+1,.nil=>.nil
 | _,_,n+1,.cons _ t=>Vals.drop n t
def RelO:Option V->Option aa->Prop
 | some v,!u=>RelV v u
 | none,none=>True
 | _,_=>False
def KV{κ:Type}:List (κ×V)->List (κ×aa)->Prop:=Paired λ(p:κ×V) (q:κ×aa)=>p.1=q.1/\RelV p.2 q.2
def kV:Key->V
 | .inl i=>.int i
 | .inr x=>.str x
inductive HO where
 | lst (xs:List V)
 | tup (xs:List V)
 | dK (kvs:List (Key×V))|dT (kvs:List (List Key×V))
 | set (S:Int->Bool) (n:Nat)
 | ins (C dx:Addr) (fs:List (Str×V))
 | own (x:Addr)
 | xd (fs:List (Str×V))
 | met (f x:Addr)
 | rng (lo hi:Int)
 | frz (o:Obj) (u:HO)
 | tbl (ps:Array Value)
 | ext (φ:Heap->Prop)
abbrev Hp:=Addr->Option HO
def upd(H:Hp)(a:Addr)(o:HO):Hp:=λb=>if b=a then !o else H b
def qP:upd H a o a=!o:=by delta upd;rw[if_pos rfl]
def qu{H:Hp}(h:b≠a):upd H a o b=H b:=by delta upd;rw[if_neg h]
def Wc{H:Hp}(h:H a=!o)(h':H b=!u)(d:o≠u):a≠b:=by
 intro e;subst e;rw[h]at h';exact d (tH h')
def jH{H:Hp}(h:H a=!o)(h':H b=none):a≠b:=by
 intro e;subst e;rw[h]at h';cases h'
section
variable(P:ag)(w:World)
def ObjOk(H:Hp)(h:Heap)(a:Addr):HO->Prop
 | .lst xs=>xs[1]<=sizeLine/\∃(its:List aa) (n:Nat),Vals xs its/\h.get? a=some {cls:=.type "list",data:=.seq its.toArray n}
 | .tup xs=>xs[1]<=sizeLine/\∃ its:List aa,Vals xs its/\IsTup h a its.toArray
 | .dK kvs=>kvs[1]<=sizeLine/\(a==sysModules)=false/\∃ vs,KV kvs vs/\h.DictOf (jk P w) a vs
 | .dT kvs=>kvs[1]<=sizeLine/\(a==sysModules)=false/\∃ xs:List (List Key×Addr×aa),
   Paired (λ(p:List Key×V) (q:List Key×Addr×aa)=>p.1=q.1/\H q.2.1=!(.tup (p.1.map kV))/\RelV p.2 q.2.2) kvs xs /\
   ∃ o es ep,h.get? a=!o/\o.ExactDict/\o.data=.dict es ep/\es[2]=xs.map (entryOfKey (tupleKind (jk P w)))/\(xs.map (·.1)).Nodup
 | .set S n=>h.SetOf (intKind P w) a S n
 | .ins C dx fs=>H dx=!(.own a)/\fs[1]<=1000/\dx≠a/\h.get? a=↑(PySem.W.instObj C dx) /\
   ∃ mA,h.Ns1 dx mA/\(∀ f,RelO (fs.lookup f) (mA f))/\PySem.Within mA (fs.map (·.1))
 | .own _=>∃ o,h.get? a=!o
 | .xd fs=>∃ mA,h.Ns1 a mA/\∀ f,RelO (fs.lookup f) (mA f)
 | .rng lo hi=>∃ t u v,h.get? a=some {cls:=.type "range",data:=.fields (List.toArray [.int lo t,.int hi u,.int 1 v])}
 | .frz o u=>h.get? a=!o/\ObjOk H h a u
 | .tbl ps=>h.get? a=some {cls:=.none,data:=.fields ps}
 | .met f x=>h.get? a=!(methodObj (.ref f) (.ref x))
 | .ext φ=>φ h/\(∃ o,h.get? a=!o)/\∀ h1 h2:Heap,φ h1->(∀ o,h1.get? a=!o->h2.get? a=!o)->φ h2
def HOk(H:Hp)(h:Heap):Prop:=∀ a o,H a=!o->ObjOk P w H h a o
end
section
variable{P:ag}{w:World}{H H':Hp}{h h':Heap}{a:Addr}{o:HO}
def ObjOk.lt(x:ObjOk P w H h a o):a<h.objs.size:=by
 cases o with
 | lst xs=>obtain⟨_,_,_,_,e⟩:=x;exact gU e
 | tup xs=>obtain⟨_,_,_,p⟩:=x;exact p.lt
 | dK kvs=>obtain⟨_,_,_,_,o,_,_,e,_⟩:=x;exact gU e
 | dT kvs=>obtain⟨_,_,_,_,o,_,_,e,_⟩:=x;exact gU e
 | set S n=>obtain⟨o,_,_,_,e,_⟩:=x;exact gU e
 | ins C dx fs=>obtain⟨_,_,_,e,_⟩:=x;exact gU e
 | own y=>obtain⟨_,e⟩:=x;exact gU e
 | xd fs=>obtain⟨_,⟨_,_,_,e,_⟩,_⟩:=x;exact gU e
 | rng lo hi=>obtain⟨_,_,_,e⟩:=x;exact gU e
 | frz ob u=>obtain⟨e,_⟩:=x;exact gU e
 | tbl ps=>exact gU (show h.get? a=!_ from x)
 | met f y=>exact gU (show h.get? a=!_ from x)
 | ext φ=>obtain⟨_,⟨_,e⟩,_⟩:=x;exact gU e
theorem Paired.mapP:∀{l₁} {l₂},Paired F l₁ l₂->(∀ a b,F a b->G a b)->Paired G l₁ l₂
 | _,_,.nil,_=>.nil
 | _,_,.cons r t,f=>.cons (f _ _ r) (Paired.mapP t f)
def ObjOk.stay(x:ObjOk P w H h a o)(k:∀ b u,(b=a\/H b=!(.own a))->h.get? b=!u->h'.get? b=!u)
  (B:∀ b,H b=!(.own a)->H' b=!(.own a))(O:∀ b xs,H b=!(.tup xs)->H' b=!(.tup xs)):ObjOk P w H' h' a o:=by
 induction o with
 | lst xs=>obtain⟨z,its,n,r,e⟩:=x;exact#[z,its,n,r,k _ _ (.inl rfl) e]
 | tup xs=>obtain⟨z,its,r,ob,e,c⟩:=x;exact#[z,its,r,ob,k _ _ (.inl rfl) e,c]
 | dK kvs=>obtain⟨z,y,vs,r,ob,es,ep,e,c⟩:=x;exact#[z,y,vs,r,ob,es,ep,k _ _ (.inl rfl) e,c]
 | dT kvs =>
  obtain⟨z,y,xs,r,ob,es,ep,e,c⟩:=x;exact#[z,y,xs,Paired.mapP r λp q z=>#[z.1,O _ _ z.2.1,z.2.2],ob,es,ep,k _ _ (.inl rfl) e,c]
 | set S n=>obtain⟨ob,es,ep,t,e,c⟩:=x;exact#[ob,es,ep,t,k _ _ (.inl rfl) e,c]
 | ins C dx fs =>
  obtain⟨d,z,ne,e,mA,⟨od,es,ep,e2,c⟩,r⟩:=x;exact#[B _ d,z,ne,k _ _ (.inl rfl) e,mA,#[od,es,ep,k _ _ (.inr d) e2,c],r]
 | own y=>obtain⟨ob,e⟩:=x;exact#[ob,k _ _ (.inl rfl) e]
 | xd fs=>obtain⟨mA,⟨od,es,ep,e,c⟩,r⟩:=x;exact#[mA,#[od,es,ep,k _ _ (.inl rfl) e,c],r]
 | rng lo hi=>obtain⟨t,u,v,e⟩:=x;exact#[t,u,v,k _ _ (.inl rfl) e]
 | frz ob u ih=>obtain⟨e,q⟩:=x;exact#[k _ _ (.inl rfl) e,ih q]
 | tbl ps =>
  have e:h.get? a=some {cls:=.none,data:=.fields ps}:=x;show h'.get? a=some {cls:=.none,data:=.fields ps};exact k a _ (.inl rfl) e
 | met f y =>
  have e:h.get? a=!(methodObj (.ref f) (.ref y)):=x;show h'.get? a=!(methodObj (.ref f) (.ref y));exact k a _ (.inl rfl) e
 | ext φ=>obtain⟨p,⟨o,e⟩,st⟩:=x;exact#[st _ _ p λo q=>k _ _ (.inl rfl) q,#[o,k _ _ (.inl rfl) e],st]
def HOk.lt(x:HOk P w H h)(e:H a=!o):a<h.objs.size:=(x a o e).lt
def HOk.fresh(x:HOk P w H h)(e:h.objs.size<=a):H a=none:=by
 cases q:H a with
 | none=>rfl
 | some u=>exact absurd (tu (x.lt q) e) (pG _)
def HOk.kept(x:HOk P w H h)(k:∀ b u,h.get? b=!u->h'.get? b=!u):HOk P w H h':=λa o e =>
 (x a o e).stay (λb u _ q=>k b u q) (λ_ q=>q) λ_ _ q=>q
def HOk.laid(x:HOk P w H h)(k:∀ b u,h.get? b=!u->h'.get? b=!u)(hp:h.objs.size<=a)(z:ObjOk P w (upd H a o) h' a o):HOk P w (upd H a o) h':=λb u e=>by
 have hn:=x.fresh hp;by_cases hb:b=a
 .subst hb;rw[qP]at e;cases e;exact z
 rw[qu hb]at e;exact(x b u e).stay (λc v _ q=>k c v q) (λc q=>by rw[qu (jH q hn)];exact q) λc xs q=>by rw[qu (jH q hn)];exact q
end
def Rd(H:Hp)(a:Addr)(u:HO):Prop:=H a=!u\/∃ o,H a=!(.frz o u)
def Rd.ok(r:Rd H a u)(x:HOk P w H h):ObjOk P w H h a u:=by
 rcases r with r|⟨o,r⟩
 .exact x a u r
 obtain⟨_,q⟩:=x a _ r;exact q
def Mut:Option HO->Prop
 | some (.lst _)=>True
 | some (.dK _)=>True
 | some (.dT _)=>True
 | some (.set _ _)=>True
 | some (.ins _ _ _)=>True
 | some (.ext _)=>True
 | _=>False
section
variable{P:ag}{w:World}{H:Hp}{h h':Heap}{x e:Addr}{o':HO}
def HOk.write(ok:HOk P w H h)(U:Mut (H x))(he:e=x\/H e=!(.own x))(k:∀ b u,b≠e->h.get? b=!u->h'.get? b=!u)(Y:∃ u,h'.get? e=!u)
  (Z:ObjOk P w (upd H x o') h' x o'):HOk P w (upd H x o') h':=λb u q=>by
 have B:∀ c y,H c=!(.own y)->c≠x:=λc y r z=>by subst z;rw[r]at U;exact U
 have O:∀ c xs,H c=!(.tup xs)->c≠x:=λc xs r z=>by subst z;rw[r]at U;exact U
 by_cases hb:b=x
 .subst hb;rw[qP]at q;cases q;exact Z
 rw[qu hb]at q;by_cases hbe:b=e
 .have q':H b=!(.own x):=by
   rcases he with z|z
   .exact absurd (hbe.trans z) hb
   rw[hbe];exact z
  rw[q]at q';cases q';obtain⟨v,hv⟩:=Y;exact#[v,by rw[hbe];exact hv]
 refine(ok b u q).stay (λc v hc r=>k c v ?_ r) (λc r=>by rw[qu (B c b r)];exact r) λc xs r=>by rw[qu (O c xs r)];exact r
 rcases hc with rfl|hc
 .exact hbe
 rintro rfl;rcases he with z|z
 .exact B c b hc z
 rw[hc]at z;cases z;exact hb rfl
end
structure Un(fs ex:List Addr)(H H':Hp)(h h':Heap):Prop where
 keep:∀ b o,h.get? b=!o->H b=none->b∉fs->b∉ex->h'.get? b=!o
 slot:∀ b o,h.get? b=!o->H b=none->b∈fs->b∉ex->∃ sl,h'.get? b=some {o with slots:=sl}
 free:∀ b o,h.get? b=!o->H b=none->b∉ex->H' b=none
 there:∀ b o,h.get? b=!o->b∉ex->∃ o',h'.get? b=!o'
 tups:∀ b xs,H b=!(.tup xs)->H' b=!(.tup xs)
 frzs:∀ b o u,H b=!(.frz o u)->H' b=!(.frz o u)
 tbls:∀ b ps,H b=!(.tbl ps)->∃ z,H' b=!(.tbl (ps++z))
section
variable{fs fs' ex ex':List Addr}{H H1 H2:Hp}{h h1 h2 h':Heap}{a x e:Addr}{o:HO}
def Un.any(u:Un fs ex H H1 h h1)(q:h.get? b=!ob)(n:H b=none)(z:b∉ex):∃ sl,h1.get? b=some {ob with slots:=sl}:=by
 by_cases hb:b∈fs
 .exact u.slot b ob q n hb z
 exact#[ob.slots,u.keep b ob q n hb z]
def Un.kept(k:∀ b u,h.get? b=!u->h'.get? b=!u):Un fs ex H H h h' :=
 #[λb ob q _ _ _=>k b ob q,λb ob q _ _ _=>#[ob.slots,k b ob q],λ_ _ _ n _=>n,λb ob q _=>#[ob,k b ob q],λ_ _ q=>q,λ_ _ _ q=>q,λ_ ps q=>#[#[],by rw[q];simp]]
def Un.refl:Un fs ex H H h h:=Un.kept λ_ _ q=>q
theorem Un.laid(k:∀ b u,h.get? b=!u->h'.get? b=!u)(hp:h.objs.size<=a)(z:H a=none):Un fs ex H (upd H a o) h h' where
 keep:=λb u q _ _ _=>k b u q
 slot:=λb u q _ _ _=>#[u.slots,k b u q]
 free:=λb u q n _=>by rw[qu (t7 (tu (gU q) hp))];exact n
 there:=λb u q _=>#[u,k b u q]
 tups:=λb xs q=>by rw[qu (jH q z)];exact q
 frzs:=λb u xs q=>by rw[qu (jH q z)];exact q
 tbls:=λb ps q=>#[#[],by rw[qu (jH q z),q];simp]
def Un.write(B:Mut (H x))(U:e=x\/H e=!(.own x))(k:∀ b u,b≠e->h.get? b=!u->h'.get? b=!u)(O:∃ u,h'.get? e=!u):Un fs ex H (upd H x o) h h':=by
 have hx:∀ b,H b=none->b≠x:=λb n z=>by subst z;rw[n]at B;exact B
 have hb:∀ b,H b=none->b≠e:=λb n z=>by
  subst z;rcases U with r|r
  .exact hx b n r
  rw[n]at r;cases r
 have hm:∀ b u,H b=!u->¬ Mut !u->b≠x:=λb u q nm z=>by subst z;rw[q]at B;exact nm B
 refine#[λb u q n _ _=>k b u (hb b n) q,λb u q n _ _=>#[u.slots,k b u (hb b n) q],λb u q n _=>by rw[qu (hx b n)];exact n,λb u q _=>?_,
  λb xs q=>by rw[qu (hm b _ q λz=>z)];exact q,λb u xs q=>by rw[qu (hm b _ q λz=>z)];exact q,λb ps q=>#[#[],by rw[qu (hm b _ q λz=>z),q];simp]]
 by_cases hbe:b=e
 .subst hbe;exact O
 exact#[u,k b u hbe q]
end
def trk(h:Heap)(H:Hp):List Addr:=(List.range h.objs.size).filter λa=>(H a).isSome
def wB(h:Heap)(H:Hp):Heap:=PySem.W.hideAll h (trk h H)
def Ma(h)(H):(wB h H).objs.size=h.objs.size:=PySem.W.hideAll_size _ _
def Mb{h:Heap}{H:Hp}(e:h.get? b=!o)(n:H b=none):(wB h H).get? b=↑o :=
 PySem.W.hideAll_get _ e λhm=>by
  have q:(H b).isSome=true:=(dH.mp hm).2;rw[n]at q;simp at q
def Mc{h:Heap}{H:Hp}(e:(wB h H).get? b=!o):h.get? b=!o/\H b=none:=by
 have e':h.get? b=!o:=PySem.W.of_hideAll (trk h H) e;refine#[e',?_];cases q:H b with
 | none=>rfl
 | some x =>
  have hm:b∈trk h H:=dH.mpr #[b7.mpr (gU e'),by simp[q]]
  have z:(wB h H).get? b=none:=PySem.W.hideAll_none (trk h H) hm;rw[z]at e;cases e
def Me(g h:Heap)(L:Addr):List (Addr×Obj):=(List.range h.objs.size).filterMap λa=>if a=L\/(g.get? a).isSome=true then none else(h.get? a).map λo=>(a,o)
def rest(g h:Heap)(L d:Addr):List (Addr×Obj):=(Me g h L).filter λp=>decide (p.1≠d)
structure Mod(K:Frag)(mg:Str->Option Value)(base:Heap):Prop where
 kin:K.In base
 glob:base.Ns mainGlobals mg
 blt:∃ mb,base.Ns builtinsNs mb/\∀ x:Str,x≠"__name__"->mb x=bootBuiltins x
 nolimit:base.NoLimit
structure Cx where
 prog:Program
 w:World
 K:Frag
 mg:Str->Option Value
 base:Heap
 A:Around
 N:List Str
 s₀:Shared
 H₀:Hp
 env:Env
 outer:List Env
 stack:List Env
 ex:List Addr
 fn:Str->Bool
 calm:Bool
 pn:List (Addr×Obj)
 xe:Value->Shared->Prop
def frs(l:List Env):List Addr:=l.filterMap (·.frame)
abbrev Cx.fs(X:Cx):List Addr:=frs X.outer
def Vis(z:Scope)(x:Str):Prop:=z.names.lookup x=some .local\/z.names.lookup x=some .cell\/z.names.lookup x=some .free
def Loc(z:Scope)(x:Str):Prop:=z.names.lookup x=some .local\/z.names.lookup x=some .cell
def Look(env:Env)(h:Heap)(m:Str->Option aa)(x:Str)(u:aa):Prop :=
 (env.kindOf x=some .local/\m x=!u)\/((env.kindOf x=some .cell\/env.kindOf x=some .free)/\∃ c,env.cells.lookup x=!c/\h.IsCell c !u)
structure Cx.Ok(X:Cx):Prop where
 mod:Mod X.K X.mg X.base
 kind:X.env.scope.kind=.function
 glob:X.env.globals=mainGlobals
 blt:X.env.builtins=builtinsNs
 above:X.s₀[0]<=X.env.locals
 inj:∀ x y c,X.env.cells.lookup x=!c->X.env.cells.lookup y=!c->x=y
 has:∀ x,(X.env.kindOf x=some .cell\/X.env.kindOf x=some .free)->∃ c,X.env.cells.lookup x=!c
 cab:∀ x c,X.fn x=true->X.env.cells.lookup x=!c->X.s₀[0]<=c
 hd:X.calm=true->X.A.handled=none
 frames:X.A.frames=!X.stack
 stk:X.stack=X.outer\/(X.stack=X.env::X.outer/\X.env.frame=!X.env.locals)
 exf:∀ b∈X.ex,b≠X.env.locals/\∀ x c,X.env.cells.lookup x=!c->c≠b
 bs:∀ b o,X.base.get? b=!o->X.s₀.heap.get? b=!o/\X.H₀ b=none
 bsz:X.base.objs.size<=X.s₀[0]
 noex:∀ b o,X.base.get? b=!o->b∉X.ex
 exfs:∀ b∈X.ex,b∉X.fs
 funs:X.s₀.heap.FunFrames X.base X.outer
 frf:∀ b∈X.fs,X.H₀ b=none
structure Inv(X:Cx)(pins:List (Addr×Obj))(σ:List (Option V))(H:Hp)(s:Shared):Prop where
 ok:X.Ok
 os:s.os=X.s₀.os
 bare:AllBare s.gens
 base:Un X.fs X.ex X.H₀ H X.s₀.heap s.heap
 loc:∃ m,s.heap.Ns X.env.locals m/\∀(i:Nat) (x:Str) (v:V),X.N[i]?=!x->σ[i]?=!(!v)->Vis X.env.scope x->∃ u,RelV v u/\Look X.env s.heap m x u
 cell:∀ x c,X.env.cells.lookup x=!c->∃ v,s.heap.IsCell c v
 free:H X.env.locals=none
 freeC:∀ x c,X.env.cells.lookup x=!c->H c=none
 pin:∀ p∈X.pn++pins,s.heap.get? p.1=!p.2/\H p.1=none/\p.1≠X.env.locals/\p.1∉X.fs/\∀ v,p.2.data≠.cell v
 hok:HOk X.prog X.w H s.heap
 len:σ.length=X.N.length
section
variable{X:Cx}{pins:List (Addr×Obj)}{σ:List (Option V)}{H H':Hp}{s:ab}{h':Heap}
def Cx.Ok.nofr(z:X.Ok)(e:X.base.get? b=!o):b∉X.fs:=λhb=>by
 have:=(z.funs.mem hb).1;rw[e]at this;cases this
def Inv.bs(I:"I" H s):∀ b o,X.base.get? b=!o->s.heap.get? b=!o/\H b=none:=λb o e =>
 #[I.base.keep b o (I.ok.bs b o e).1 (I.ok.bs b o e).2 (I.ok.nofr e) (I.ok.noex b o e),I.base.free b o (I.ok.bs b o e).1 (I.ok.bs b o e).2 (I.ok.noex b o e)]
def Inv.bk(I:"I" H s):∀ b o,X.base.get? b=!o->s.heap.get? b=!o:=λb o e=>(I.bs b o e).1
def Inv.mod(I:"I" H s):Mod X.K X.mg X.base:=I.ok.mod
def Inv.kIn(I:"I" H s):X.K.In s.heap:=I.ok.mod.kin.keeps I.bk
def Inv.lt(I:"I" H s):X.env.locals<s[0]:=let #[_,hn,_]:=I.loc;hn.lt
def Inv.sz(I:"I" H s):X.s₀[0]<=s[0]:=fw I.ok.above (cY I.lt)
def Inv.nofs(I:"I" H s)(h:s[0]<=a):a∉X.fs:=λhb=>by
 obtain⟨_,o,ho,_⟩:=I.ok.funs.mem hb;exact absurd (tu (gU ho) (fw I.sz h)) (pG _)
def Inv.cne(I:"I" H s):∀ x c,X.env.cells.lookup x=!c->c≠X.env.locals:=λx c e z=>by
 obtain⟨v,o,ho,hd⟩:=I.cell x c e;obtain⟨m,⟨o',es,ep,B,O,_⟩,_⟩:=I.loc;rw[z,B]at ho;cases ho;rw[O]at hd;cases hd
def Inv.funs(I:"I" H s):s.heap.FunFrames X.base X.outer:=by
 have B:∀(l:List Env),(∀ b∈frs l,b∈X.fs)->X.s₀.heap.FunFrames X.base l->s.heap.FunFrames X.base l:=by
  intro l
  induction l with
  | nil=>intro _ _;trivial
  | cons env r ih =>
   intro hs hl;obtain⟨hk,⟨L,o,hf,hn,ho,hd⟩,hr⟩:=hl;have hL:L∈X.fs:=hs L (by delta frs;rw[bB,hf];exact t4)
   obtain⟨sl,e⟩:=I.base.slot L o ho (I.ok.frf L hL) hL λz=>I.ok.exfs L z hL
   exact#[hk,#[L,_,hf,hn,e,hd],ih (λb hb=>hs b (by delta frs;rw[bB,hf];exact gu _ hb)) hr]
 exact B X.outer (λ_ hb=>hb) I.ok.funs
def Inv.stack(I:"I" H s):s.heap.FunFrames X.base X.stack:=by
 rcases I.ok.stk with e|⟨e,hf⟩
 .rw[e];exact I.funs
 rw[e];obtain⟨m,hn,_⟩:=I.loc;refine .cons (by rw[I.ok.kind];decide) hf hn ?_ I.funs
 exact Heap.get?_none_of_le (fw I.ok.bsz I.ok.above)
def Inv.stkSub(I:"I" H s):∀ b∈frs X.stack,b∈X.env.locals::X.fs:=λb hb=>by
 rcases I.ok.stk with e|⟨e,hf⟩
 .rw[e]at hb;exact gu _ hb
 rw[e]at hb
 delta frs at hb
 rw[bB,hf]at hb;exact hb
def Inv.stkFree(I:"I" H s):∀ b∈frs X.stack,H b=none:=λb hb=>by
 rcases gG.mp (I.stkSub b hb)with e|hb
 .rw[e];exact I.free
 obtain⟨_,o,ho,_⟩:=I.ok.funs.mem hb;exact I.base.free b o ho (I.ok.frf b hb) λz=>I.ok.exfs b z hb
def Inv.step{d':Drawn}{ch:List Addr}(I:"I" H s)
  (B:∀ b∈ch,(b∈X.ex\/X.s₀[0]<=b)/\b≠X.env.locals/\(∀ x c,X.env.cells.lookup x=!c->c≠b)/\∀ p∈X.pn++pins,p.1≠b)
  (keep:∀ b o,b≠X.env.locals->b∉X.fs->b∉ch->s.heap.get? b=!o->H b=none->h'.get? b=!o)
  (slot:∀ b o,b≠X.env.locals->b∈X.fs->b∉ch->s.heap.get? b=!o->H b=none->∃ sl,h'.get? b=some {o with slots:=sl})(free:∀ b o,b∉ch->s.heap.get? b=!o->H b=none->H' b=none)
  (there:∀ b o,b∉ch->s.heap.get? b=!o->∃ o',h'.get? b=!o')
  (tups:∀ b xs,H b=!(.tup xs)->H' b=!(.tup xs))(frzs:∀ b o u,H b=!(.frz o u)->H' b=!(.frz o u))(tbls:∀ b ps,H b=!(.tbl ps)->∃ h3,H' b=!(.tbl (ps++h3)))
  (ns:∀ m,s.heap.Ns X.env.locals m->h'.Ns X.env.locals m)(hok:HOk X.prog X.w H' h')(hg:AllBare g') :
  "I" H' {s with heap:=h',gens:=g',drawn:=d',toks:=t'}:=by
 have Z:∀ b o,X.s₀.heap.get? b=!o->b≠X.env.locals:=λb o e=>t7 (tu (gU e) I.ok.above)
 have Y:∀ b o,X.s₀.heap.get? b=!o->b∉X.ex->b∉ch:=λb o e hx hb=>by
  rcases(B b hb).1 with z|z
  .exact hx z
  exact absurd (tu (gU e) z) (pG _)
 have O:∀ x c,X.env.cells.lookup x=!c->∀ v,s.heap.IsCell c v->h'.IsCell c v:=λx c e v #[o,ho,hd]=>by
  have U:c∉ch:=λz=>(B c z).2.2.1 x c e rfl
  by_cases hc:c∈X.fs
  .obtain⟨sl,q⟩:=slot c o (I.cne x c e) hc U ho (I.freeC x c e);exact#[_,q,hd]
  exact#[o,keep c o (I.cne x c e) hc U ho (I.freeC x c e),hd]
 refine#[I.ok,I.os,hg,#[λb o e n hb hx=>?_,λb o e n hb hx=>?_,λb o e n hx=>?_,λb o e hx=>?_,λb xs e=>tups b xs (I.base.tups b xs e),λb o xs e=>frzs b o xs (I.base.frzs b o xs e),λb ps e=>?_],?_,λx c e=>?_,?_,λx c e=>?_,λp hp=>?_,hok,I.len]
 .exact keep b o (Z b o e) hb (Y b o e hx) (I.base.keep b o e n hb hx) (I.base.free b o e n hx)
 .obtain⟨sl,e1⟩:=I.base.slot b o e n hb hx;obtain⟨sl',e2⟩:=slot b _ (Z b o e) hb (Y b o e hx) e1 (I.base.free b o e n hx);exact#[sl',e2]
 .obtain⟨o',e1⟩:=I.base.there b o e hx;exact free b o' (Y b o e hx) e1 (I.base.free b o e n hx)
 .obtain⟨o',e1⟩:=I.base.there b o e hx;exact there b o' (Y b o e hx) e1
 .obtain⟨m1,e1⟩:=I.base.tbls b ps e;obtain⟨m2,e2⟩:=tbls b _ e1;exact#[m1++m2,by rw[e2,Array.append_assoc]]
 .obtain⟨m,hn,hl⟩:=I.loc;refine#[m,ns m hn,λi x v e1 e2 e3=>?_]
  obtain⟨u,r,l⟩:=hl i x v e1 e2 e3;refine#[u,r,?_];rcases l with l|⟨k,c,e,z⟩
  .exact .inl l
  exact .inr #[k,c,e,O x c e _ z]
 .obtain⟨v,z⟩:=I.cell x c e;exact#[v,O x c e v z]
 .obtain⟨m,⟨o,_,_,ho,_⟩,_⟩:=I.loc;exact free _ o (λz=>(B _ z).2.1 rfl) ho I.free
 .obtain⟨v,o,ho,hd⟩:=I.cell x c e;exact free c o (λz=>(B c z).2.2.1 x c e rfl) ho (I.freeC x c e)
 obtain⟨e,n,ne,nf,d⟩:=I.pin p hp;have U:p.1∉ch:=λz=>(B p.1 z).2.2.2 p hp rfl
 exact#[keep p.1 p.2 ne nf U e n,free p.1 p.2 U e n,ne,nf,d]
def Inv.un(I:"I" H s)(u:Un X.fs [] H H' s.heap h')(O:HOk X.prog X.w H' h'):"I" H' {s with heap:=h',toks:=t'}:=by
 obtain⟨m,⟨o,es,ep,ho,r⟩,_⟩:=id I.loc;obtain⟨sl,hL⟩:=u.any ho I.free "s"
 exact I.step (g':=s.gens) (d':=s.drawn) (ch:=[]) (λ_ z=>nomatch z) (λb o _ hb _ e n=>u.keep b o e n hb "s") (λb o _ hb _ e n=>u.slot b o e n hb "s") (λb o _ e n=>u.free b o e n "s") (λb o _ e=>u.there b o e "s") u.tups u.frzs u.tbls (λm' hm=>by
  obtain⟨o',U,Y,B,r'⟩:=hm;rw[ho]at B;cases B;exact#[_,U,Y,hL,r']) O I.bare
def Inv.call{d':Drawn}{ch:List Addr}(I:"I" H s)(u:Un (frs X.stack) ch H H' s.heap h')(U:HOk X.prog X.w H' h')(hg:AllBare g')
  (B:∀ b∈ch,(b∈X.ex\/X.s₀[0]<=b)/\b≠X.env.locals/\(∀ x c,X.env.cells.lookup x=!c->c≠b)/\∀ p∈X.pn++pins,p.1≠b) :
  "I" H' {s with heap:=h',gens:=g',drawn:=d',toks:=t'}:=by
 obtain⟨m,⟨o,es,ep,ho,r⟩,_⟩:=id I.loc;obtain⟨sl,hL⟩:=u.any ho I.free λz=>(B _ z).2.1 rfl
 exact I.step (ch:=ch) B (λb o hL hb hc e n=>u.keep b o e n (λz=>(gG.mp (I.stkSub b z)).elim hL hb) hc) (λb o _ _ hc e n=>u.any e n hc) (λb o hc e n=>u.free b o e n hc) (λb o hc e=>u.there b o e hc) u.tups u.frzs u.tbls (λm' hm=>by
  obtain⟨o',Y,Z,O,r'⟩:=hm;rw[ho]at O;cases O;exact#[_,Y,Z,hL,r']) U hg
def Inv.turned{it:Addr}(I:"I" H s)(k:∀ b o,b≠it->s.heap.get? b=!o->h'.get? b=!o)(U:H it=none)(O:it≠X.env.locals)
  (h1:it∈X.ex\/X.s₀[0]<=it)(h2:∀ x c,X.env.cells.lookup x=!c->c≠it)(Y:∀ p∈X.pn++pins,p.1≠it):"I" H {s with heap:=h',toks:=t'}:=by
 have B:∀ b u,H b=!u->b≠it:=λb u e z=>by rw[z,U]at e;cases e
 refine I.step (g':=s.gens) (d':=s.drawn) (ch:=[it]) (λb hb=>?_) (λb o _ _ hc e _=>k b o (λz=>hc (by simp[z])) e) (λb o _ _ hc e _=>#[o.slots,k b o (λz=>hc (by simp[z])) e]) (λ_ _ _ _ n=>n)
  (λb o hc e=>#[o,k b o (λz=>hc (by simp[z])) e]) (λ_ _ e=>e) (λ_ _ _ e=>e) (λb ps e=>#[#[],by rw[e];simp]) (λm hm=>?_) (λb u e=>?_) I.bare
 .have e:b=it:=by simpa using hb
  subst e;exact#[h1,O,h2,Y]
 .obtain⟨o,es,ep,ho,r⟩:=hm;exact#[o,es,ep,k _ o (tm O) ho,r]
 refine(I.hok b u e).stay (λc v hc q=>k c v ?_ q) (λ_ q=>q) λ_ _ q=>q
 rcases hc with z|z
 .rw[z];exact B b u e
 exact B c _ z
def Inv.tok(I:"I" H s)(t):"I" H {s with toks:=t}:=I.un (h':=s.heap) (t':=t) Un.refl I.hok
def Inv.kept(I:"I" H s)(k:∀ b u,s.heap.get? b=!u->h'.get? b=!u):"I" H {s with heap:=h',toks:=t'}:=I.un (Un.kept k) (I.hok.kept k)
def Inv.laid(I:"I" H s)(k:∀ b u,s.heap.get? b=!u->h'.get? b=!u)(hp:s[0]<=a)(z:ObjOk X.prog X.w (upd H a o) h' a o) :
  "I" (upd H a o) {s with heap:=h',toks:=t'}:=I.un (Un.laid k hp (I.hok.fresh hp)) (I.hok.laid k hp z)
def Inv.write(I:"I" H s)(O:Mut (H x))(U:e=x\/H e=!(.own x))(k:∀ b u,b≠e->s.heap.get? b=!u->h'.get? b=!u)(z:∃ u,h'.get? e=!u)
  (B:ObjOk X.prog X.w (upd H x o) h' x o):"I" (upd H x o) {s with heap:=h',toks:=t'}:=I.un (Un.write O U k z) (I.hok.write O U k z B)
def Inv.pins_of(I:"I" H s)(h:∀ p∈pins',s.heap.get? p.1=!p.2/\H p.1=none/\p.1≠X.env.locals/\p.1∉X.fs/\∀ v,p.2.data≠.cell v):Inv X pins' σ H s :=
 #[I.ok,I.os,I.bare,I.base,I.loc,I.cell,I.free,I.freeC,λp hp=>(gD.mp hp).elim (λz=>I.pin p (tj _ z)) (h p),I.hok,I.len]
def We{N:List Str}(z:N.Nodup){i j:Nat}(a:N[i]?=!x)(b:N[j]?=!x):i=j:=by
 obtain⟨h1,e1⟩:=gw.mp a;obtain⟨h2,e2⟩:=gw.mp b;exact(List.getElem_inj z).mp (e1.trans e2.symm)
def JT{i:Nat}{Q:Unit->ab->Prop}(I:"I" H s)(hN:X.N.Nodup)(hi:X.N[i]?=!x)(O:Loc X.env.scope x)(r:RelV v u)
  (h:∀ s',Inv X pins (σ.set i !v) H s'->(∃ a,Heap.SameBut a s.heap s'.heap/\(a=X.env.locals\/X.env.cells.lookup x=!a))->Q () s')(hf:(X.fn x=true\/X.env.scope.names.lookup x=some .local)["t"]):wpAny M A (storeName X.env x u) Q E s:=by
 obtain⟨m,hn,hl⟩:=id I.loc;have h3:(X.env.scope.kind==.class||(X.env.scope.kind==.module&&X.env.locals != X.env.globals))=false:=by rw[I.ok.kind];rfl
 have Y:i<σ.length:=by rw[I.len];exact(gw.mp hi).1
 have cne:=I.cne;have B:∀{a:Addr} {h':Heap},(∃ o,s.heap.get? a=!o/\H a=none)->Heap.SameBut a s.heap h'->HOk X.prog X.w H h':=λ{a h'} ha hs b ob e=>by
  obtain⟨_,_,U⟩:=ha;refine(I.hok b ob e).stay (λc w' hc q=>(hs.2 c ?_).trans q) (λ_ q=>q) λ_ _ q=>q
  rintro rfl;rcases hc with rfl|hc
  .rw[U]at e;cases e
  rw[U]at hc;cases hc
 rcases O with hk|hk
 .refine wpAny_storeName_local hk hn (λh' hn' hs=>?_) h3
  obtain⟨oL,_,_,hoL,_⟩:=id hn;refine h _ #[I.ok,I.os,I.bare,#[λb o e n hb O=>?_,λb o e n hb O=>?_,I.base.free,λb o e O=>?_,I.base.tups,I.base.frzs,I.base.tbls],#[_,hn',λj y v' e1 e2 e3=>?_],λy c e=>?_,I.free,I.freeC,λp hp=>?_,B #[oL,hoL,I.free] hs,by simpa using I.len] #[_,hs,.inl rfl]
  .exact(hs.2 b (t7 (tu (gU e) I.ok.above))).trans (I.base.keep b o e n hb O)
  .obtain⟨sl,e1⟩:=I.base.slot b o e n hb O;exact#[sl,(hs.2 b (t7 (tu (gU e) I.ok.above))).trans e1]
  .obtain⟨o',e1⟩:=I.base.there b o e O;exact#[o',(hs.2 b (t7 (tu (gU e) I.ok.above))).trans e1]
  .by_cases hj:j=i
   .subst hj;rw[hi]at e1;cases e1;rw[List.getElem?_set_self Y]at e2;cases e2;exact#[u,r,.inl #[hk,by simp]]
   rw[hU (tm hj)]at e2;obtain⟨u',r',q⟩:=hl j y v' e1 e2 e3;refine#[u',r',?_];rcases q with⟨k,e⟩|⟨k,c,e,z⟩
   .refine .inl #[k,?_];have:y≠x:=λe=>hj (We hN e1 (e▸hi))
    simp[this,e]
   exact .inr #[k,c,e,z.sameBut hs (cne y c e)]
  .obtain⟨w',z⟩:=I.cell y c e;exact#[w',z.sameBut hs (cne y c e)]
  obtain⟨e,n,ne,nf,d⟩:=I.pin p hp;exact#[(hs.2 p.1 ne).trans e,n,ne,nf,d]
 have Z:X.fn x=true:=by
  rcases hf with z|z
  .exact z
  rw[z]at hk;cases hk
 obtain⟨c,hc⟩:=I.ok.has x (.inl hk);obtain⟨w',z⟩:=I.cell x c hc;refine wpAny_storeName_cell I.ok.kind hk hc z (λh' hc' hs=>?_)
 obtain⟨oc,hoc,h4⟩:=id z;refine h {s with heap:=h'} #[I.ok,I.os,I.bare,#[λb o e n hb O=>?_,λb o e n hb O=>?_,I.base.free,λb o e O=>?_,I.base.tups,I.base.frzs,I.base.tbls],#[m,hn.sameBut hs (tm (cne x c hc)),λj y v' e1 e2 e3=>?_],λy c' e=>?_,I.free,I.freeC,λp hp=>?_,B #[oc,hoc,I.freeC x c hc] hs,by simpa using I.len] #[c,hs,.inr hc]
 .exact(hs.2 b (t7 (tu (gU e) (I.ok.cab x c Z hc)))).trans (I.base.keep b o e n hb O)
 .obtain⟨sl,e1⟩:=I.base.slot b o e n hb O;exact#[sl,(hs.2 b (t7 (tu (gU e) (I.ok.cab x c Z hc)))).trans e1]
 .obtain⟨o',e1⟩:=I.base.there b o e O;exact#[o',(hs.2 b (t7 (tu (gU e) (I.ok.cab x c Z hc)))).trans e1]
 .by_cases hj:j=i
  .subst hj;rw[hi]at e1;cases e1;rw[List.getElem?_set_self Y]at e2;cases e2;exact#[u,r,.inr #[.inl hk,c,hc,hc']]
  rw[hU (tm hj)]at e2;obtain⟨u',r',q⟩:=hl j y v' e1 e2 e3;refine#[u',r',?_];rcases q with q|⟨k,c',e,z'⟩
  .exact .inl q
  refine .inr #[k,c',e,z'.sameBut hs ?_];rintro rfl;exact hj (We hN e1 (I.ok.inj _ _ _ e hc▸hi))
 .by_cases hcc:c'=c
  .subst hcc;exact#[_,hc']
  obtain⟨w2,z2⟩:=I.cell y c' e;exact#[w2,z2.sameBut hs hcc]
 obtain⟨e,n,ne,nf,d⟩:=I.pin p hp;refine#[(hs.2 p.1 ?_).trans e,n,ne,nf,d];intro q;rw[q,hoc]at e;have q':oc=p.2:=tH e;exact d w' (by rw[<- q'];exact h4)
def yZ{i:Nat}{Q:Unit->ab->Prop}(I:"I" H s)(z:X.N.Nodup)(hi:X.N[i]?=!x)(B:Loc X.env.scope x)(r:RelV v u)
  (h:∀ s',Inv X pins (σ.set i !v) H s'->Q () s')(O:(X.fn x=true\/X.env.scope.names.lookup x=some .local)["t"]):wpAny M A (storeName X.env x u) Q E s :=
 JT I z hi B r (λs' I' _=>h s' I') O
def Inv.call'(I:"I" H s)(O:s'.os=s.os)(u:Un (frs X.stack) ch H H' s.heap s'.heap)(z:HOk X.prog X.w H' s'.heap)(U:AllBare s'.gens)
  (B:∀ b∈ch,(b∈X.ex\/X.s₀[0]<=b)/\b≠X.env.locals/\(∀ x c,X.env.cells.lookup x=!c->c≠b)/\∀ p∈X.pn++pins,p.1≠b):"I" H' s':=by
 obtain⟨h',g',d',t',o'⟩:=s';have e:o'=s.os:=O;subst e;exact I.call (g':=g') (t':=t') (d':=d') u z U B
end
abbrev XK:=aa->Option Addr->Hp->Prop
abbrev St:=List (Option V)
abbrev VK:=V->Hp->Prop
abbrev TE:=St->Hp->VK->Prop
abbrev TT:=St->Hp->(Bool->Hp->Prop)->Prop
abbrev TA:=St->Hp->(List V->Hp->Prop)->Prop
structure Ends where
 nx:St->Hp->Prop
 rt:VK
 bk:St->Hp->Prop:=λ_ _=>False
 ct:St->Hp->Prop:=λ_ _=>False
abbrev TS:=Ends->St->Hp->Prop
def EP(X:Cx)(pins:List (Addr×Obj))(σ:St)(Q:VK)(u:aa)(s':ab):Prop:=∃ v H',"I" H' s'/\RelV v u/\Q v H'
def TP(X:Cx)(pins:List (Addr×Obj))(σ:St)(Q:Bool->Hp->Prop)(b:Bool)(s':ab):Prop:=∃ H',"I" H' s'/\Q b H'
def AP(X:Cx)(pins:List (Addr×Obj))(σ:St)(Q:List V->Hp->Prop)(us:List aa)(s':ab):Prop:=∃ vs H',"I" H' s'/\Vals vs us/\Q vs H'
def SP(X:Cx)(pins:List (Addr×Obj))(D:Ends)(f:Flow)(s':ab):Prop :=
 match f with
 | .next=>∃ z H',Inv X pins z H' s'/\D.nx z H'
 | .brk=>∃ z H',Inv X pins z H' s'/\D.bk z H'
 | .cont=>∃ z H',Inv X pins z H' s'/\D.ct z H'
 | .ret u=>∃ v z H',Inv X pins z H' s'/\RelV v u/\D.rt v H'
def PE(X:Cx)(e:Expr)(t:TE):Prop :=
 ∀(pins:List (Addr×Obj)) (s:ab) (σ:St) (H:Hp) (Q:VK),"I" H s->t σ H Q->X[3] (eval e X.env) (EP X pins σ Q) X.xe s
def PT(X:Cx)(e:Expr)(t:TT):Prop :=
 ∀(pins:List (Addr×Obj)) (s:ab) (σ:St) (H:Hp) (Q:Bool->Hp->Prop),"I" H s->t σ H Q->X[3] (isTrue e X.env (eval e X.env)) (TP X pins σ Q) X.xe s
def PA(X:Cx)(es:List Expr)(t:TA):Prop :=
 ∀(pos:Pos) (pins:List (Addr×Obj)) (s:ab) (σ:St) (H:Hp) (Q:List V->Hp->Prop),"I" H s->t σ H Q->X[3] (spliced (backTo pos (starEach es X.env))) (AP X pins σ Q) X.xe s
def PS(X:Cx)(st:Stmt)(t:TS):Prop :=
 ∀(pins:List (Addr×Obj)) (s:ab) (σ:St) (H:Hp) (D:Ends),"I" H s->t D σ H->X[3] (exec st X.env) (SP X pins D) X.xe s
def PSs(X:Cx)(st:List Stmt)(t:TS):Prop :=
 ∀(pins:List (Addr×Obj)) (s:ab) (σ:St) (H:Hp) (D:Ends),"I" H s->t D σ H->X[3] (execs st X.env) (SP X pins D) X.xe s
def thn{M:Model}{A:aj}{E:aa->ab->Prop}{s:ab}(h:wpAny M A t Q E s)(z:∀ a s,Q a s->Q' a s):wpAny M A t Q' E s:=cA h z λ_ _ x=>x
section
variable{X:Cx}
def uX(i:Nat):TE:=λσ H Q=>∃ v,σ[i]?=!(!v)/\Q v H
def tC(v:V):TE:=λ_ H Q=>Q v H
def Wf{i:Nat}(O:X.N[i]?=!x)(U:Vis X.env.scope x)(hd:((x==("__debug__"))=false)["d"])(B:((x==("__classdict__"))=false)["d"]):PE X (.Name x pos) (uX i):=by
 intro pins s σ H Q I h;obtain⟨v,e,h⟩:=h;obtain⟨m,hn,hl⟩:=I.loc;obtain⟨u,r,l⟩:=hl i x v O e U;have fin:EP X pins σ Q u s:=#[v,H,I,r,h];rcases l with⟨hk,hm⟩|⟨hk,c,hc,z⟩
 .exact wpAny_Name (wpAny_loadName_local I.ok.kind hk hn hm fin) hd
 rcases hk with hk|hk
 .exact wpAny_Name (wpAny_loadName_cell I.ok.kind hk hc z fin) hd
 exact wpAny_Name (wpAny_loadName_free I.ok.kind hk hc z fin B) hd
def Mf{i j pos}:PE X (.Constant i[6] j pos) (tC i[6]):=λ_ _ _ H _ I h=>wpAny_Constant_int #[.int i,H,I.tok _,#[_,rfl],h]
def Mg{b j pos}:PE X (.Constant (.bool b) j pos) (tC (.bl b)):=λ_ _ _ H _ I h=>Constant_bool #[.bl b,H,I,rfl,h]
def Mh{j pos}:PE X (.Constant .none j pos) (tC .non):=λ_ _ _ H _ I h=>Constant_none #[.non,H,I,rfl,h]
def Mi{x j pos}:PE X (.Constant (.str x) j pos) (tC (.str x)):=λ_ _ _ H _ I h=>Calls.Constant_str #[.str x,H,I.tok _,#[_,rfl],h]
def Gl(X:Cx)(x:Str):Prop:=X.env.kindOf x=some .globalImplicit
def JU{Q:aa->ab->Prop}(I:"I" H s)(z:Gl X x)(B:X.mg x=!u)(h:Q u s)
  (hd:((x==("__debug__"))=false)["d"]):X[3] (eval (.Name x pos) X.env) Q E s :=
 Calls.Name_function_global I.ok.kind z (Calls.loadGlobal_global (by rw[I.ok.glob];exact I.mod.glob.keeps I.bk) B h) hd
def zL{E:aa->ab->Prop}{Q:aa->ab->Prop}(I:"I" H s)(z:Gl X x)(B:X.mg x=none)(O:bootBuiltins x=!u)(h:Q u s)
  (U:(x≠"__name__")["d"])(hd:((x==("__debug__"))=false)["d"]):X[3] (eval (.Name x pos) X.env) Q E s:=by
 obtain⟨mb,h1,h2⟩:=I.mod.blt;exact Calls.Name_function_global I.ok.kind z (Calls.loadGlobal_builtin (by rw[I.ok.glob];exact I.mod.glob.keeps I.bk) B (by rw[I.ok.blt];exact h1.keeps I.bk) ((h2 x U).trans O) h) hd
def Mj(z:Gl X x)(B:X.mg x=!u)(r:RelV v u)(hd:((x==("__debug__"))=false)["d"]):PE X (.Name x pos) (tC v) :=
 λ_ _ _ H _ I h=>JU I z B #[v,H,I,r,h] hd
variable{a b:Expr}{ta tb:TE}{pos:Pos}
def Wg(b)(h:op≠.In)(h2:op≠.NotIn):behindInMarks op b=false:=by
 have e1:(op==CmpOp.In)=false:=by cases op<;>first|rfl|exact absurd rfl h
 have e2:(op==CmpOp.NotIn)=false:=by cases op<;>first|rfl|exact absurd rfl h2
 cases b<;>simp[behindInMarks,e1,e2]
variable{tA tB':TT}{rest:List Expr}
end
def SqL(K:Frag)(H:Hp)(a:Addr)(xs:List V):Prop :=
 Rd H a (.lst xs) \/
  ∃(o:Obj) (its:Array aa) (n:Nat),K.lookup a=!o/\o.cls=.type "list"/\o.dict=none/\o.data=.seq its n/\its.size<=sizeLine/\Vals xs its[2]
def SqT(K:Frag)(H:Hp)(a:Addr)(xs:List V):Prop :=
 Rd H a (.tup xs) \/
  ∃(o:Obj) (its:Array aa) (n:Nat),K.lookup a=!o/\o.cls=.type "tuple"/\o.data=.seq its n/\its.size<=sizeLine/\Vals xs its[2]
def Mk:aa->Option V
 | .none=>some .non
 | .bool b=>!(.bl b)
 | .int i _=>!i[6]
 | .str x _=>!(.str x)
 | .bytes b _=>!(.byt b)
 | .float b _=>!(.flt b)
 | .ref a=>!(.ref a)
 | .type n=>!(.ty n)
 | _=>none
def RelV.abs(r:RelV x u):Mk u=!x:=by
 cases x with
 | non=>cases r;rfl
 | bl _=>cases r;rfl
 | int _=>obtain⟨t,rfl⟩:=r;rfl
 | str _=>obtain⟨t,rfl⟩:=r;rfl
 | byt _=>obtain⟨t,rfl⟩:=r;rfl
 | flt _=>obtain⟨t,rfl⟩:=r;rfl
 | ref _=>cases r;rfl
 | ty _=>cases r;rfl
def RelV.inj(r:RelV x u)(q:RelV y u):x=y:=tH (r.abs.symm.trans q.abs)
theorem Vals.inj:∀{xs ys} {us},Vals xs us->Vals ys us->xs=ys
 | _,_,_,.nil,.nil=>rfl
 | _,_,_,.cons r t,.cons r' t'=>by rw[r.inj r',Vals.inj t t']
section
variable{X:Cx}{pins:List (Addr×Obj)}{σ:St}{H:Hp}{s:ab}{a:Addr}{xs ys:List V}
def SqL.of{K:Frag}(h:H a=!(.lst xs)):SqL K H a xs:=.inl (.inl h)
def SqT.of{K:Frag}(h:H a=!(.tup xs)):SqT K H a xs:=.inl (.inl h)
def Inv.list(I:"I" H s)(h:SqL X.K H a xs):∃ its,Vals xs its/\PlainL s.heap a its.toArray/\xs[1]<=sizeLine:=by
 rcases h with h|⟨o,its,n,hk,hc,hd,hs,hz,r⟩
 .obtain⟨z,its,n,r,e⟩:=h.ok I.hok;exact#[its,r,#[_,n,e,rfl,rfl,rfl],z]
 refine#[its[2],r,#[o,n,I.kIn a o hk,hc,hd,by simpa using hs],?_]
 have e:=r[1];simp only[fj]at e;lia
def Inv.tuple(I:"I" H s)(h:SqT X.K H a xs):∃ its,Vals xs its/\IsTup s.heap a its.toArray/\xs[1]<=sizeLine:=by
 rcases h with h|⟨o,its,n,hk,hc,hs,hz,r⟩
 .obtain⟨z,its,r,p⟩:=h.ok I.hok;exact#[its,r,p,z]
 refine#[its[2],r,#[o,I.kIn a o hk,hc,n,by simpa using hs],?_]
 have e:=r[1];simp only[fj]at e;lia
def Inv.list_inj(I:"I" H s)(h:SqL X.K H a xs)(h':SqL X.K H a ys):xs=ys:=by
 obtain⟨its,r,⟨o,n,e,_,_,d⟩,_⟩:=I.list h;obtain⟨its',r',⟨o',n',e',_,_,d'⟩,_⟩:=I.list h';rw[e]at e';cases e';rw[d]at d';injection d' with d1 _;have:its=its':=by simpa using congrArg Array.toList d1
 subst this;exact r.inj r'
def Inv.tuple_inj(I:"I" H s)(h:SqT X.K H a xs)(h':SqT X.K H a ys):xs=ys:=by
 obtain⟨its,r,⟨o,e,_,n,d⟩,_⟩:=I.tuple h;obtain⟨its',r',⟨o',e',_,n',d'⟩,_⟩:=I.tuple h';rw[e]at e';cases e';rw[d]at d';injection d' with d1 _;have:its=its':=by simpa using congrArg Array.toList d1
 subst this;exact r.inj r'
end
abbrev Cx.wish(X:Cx)(E:aa->ab->Prop):Cx:={X with xe:=E}
abbrev Cx.nox(X:Cx):Cx:=X.wish λ_ _=>False
def Cx.Ok.wish{X:Cx}(z:X.Ok)(E):(X.wish E).Ok :=
 #[z.mod,z.kind,z.glob,z.blt,z.above,z.inj,z.has,z.cab,z.hd,z.frames,z.stk,z.exf,z.bs,z.bsz,z.noex,z.exfs,z.funs,z.frf]
def Cx.Ok.unwish{X:Cx}{E:aa->ab->Prop}(z:(X.wish E).Ok):X.Ok :=
 #[z.mod,z.kind,z.glob,z.blt,z.above,z.inj,z.has,z.cab,z.hd,z.frames,z.stk,z.exf,z.bs,z.bsz,z.noex,z.exfs,z.funs,z.frf]
section
variable{X:Cx}{pins:List (Addr×Obj)}{σ:St}{H:Hp}{s:ab}{E:aa->ab->Prop}
def Inv.wish(I:"I" H s)(E):Inv (X.wish E) pins σ H s:=#[I.ok.wish E,I.os,I.bare,I.base,I.loc,I.cell,I.free,I.freeC,I.pin,I.hok,I.len]
def Inv.unwish(I:Inv (X.wish E) pins σ H s):"I" H s:=#[I.ok.unwish,I.os,I.bare,I.base,I.loc,I.cell,I.free,I.freeC,I.pin,I.hok,I.len]
def SP.unwish(h:SP (X.wish E) pins D f s'):SP X pins D f s':=by
 cases f with
 | next=>obtain⟨z,H',I,q⟩:=h;exact#[z,H',I.unwish,q]
 | brk=>obtain⟨z,H',I,q⟩:=h;exact#[z,H',I.unwish,q]
 | cont=>obtain⟨z,H',I,q⟩:=h;exact#[z,H',I.unwish,q]
 | ret u=>obtain⟨v,z,H',I,r,q⟩:=h;exact#[v,z,H',I.unwish,r,q]
def PSs.nox{st:List Stmt}(h:PSs X.nox st t):PSs X st t:=λpins s σ H D I hw =>
 cA (h pins s σ H D (I.wish _) hw) (λ_ _ q=>q.unwish) λ_ _ z=>False.elim z
end
section
variable{X:Cx}{st:Stmt}{rest:List Stmt}{t u:TS}{e:Expr}{te:TE}{pos:Pos}
def Inv.quiet(I:"I" H s):interactive X.env=false:=by simp[interactive,I.ok.kind]
def Ml(te:TE):TS:=λD σ H=>te σ H λ_ H1=>D.nx σ H1
def k8(z:PE X e te)(B:(swapsWith e none pos.line X.env=pure false)["r"]):PS X (.Expr e pos) (Ml te):=by
 intro pins s σ H D I h;exact wpAny_Expr_any (thn (z pins s σ H _ I h) λv s1 #[x,H1,I1,r1,q1]=>#[σ,H1,I1,q1]) I.quiet B
def Mn(te:TE):TS:=λD σ H=>te σ H D.rt
def Mo(z:PE X e te):PS X (.Return ↑e pos) (Mn te):=by
 intro pins s σ H D I h;exact bV (thn (z pins s σ H _ I h) λv s1 #[x,H1,I1,r1,q1]=>#[x,σ,H1,I1,r1,q1])
end
abbrev TG:=V->St->Hp->(St->Hp->Prop)->Prop
abbrev TGs:=List V->St->Hp->(St->Hp->Prop)->Prop
def PG(X:Cx)(z:Expr)(t:TG):Prop :=
 ∀(pins:List (Addr×Obj)) (s:ab) (σ:St) (H:Hp) (v:V) (u:aa) (Q:St->Hp->Prop),"I" H s->RelV v u->t v σ H Q ->
  X[3] (assign z X.env u) (λ_ s'=>∃ B H',Inv X pins B H' s'/\Q B H') X.xe s
def PGs(X:Cx)(B:List Expr)(t:TGs):Prop :=
 ∀(pins:List (Addr×Obj)) (s:ab) (σ:St) (H:Hp) (vs:List V) (us:List aa) (Q:St->Hp->Prop),"I" H s->Vals vs us->t vs σ H Q ->
  X[3] (assignInOrder ((assignEach B X.env).map (·.2)) us) (λ_ s'=>∃ z H',Inv X pins z H' s'/\Q z H') X.xe s
abbrev TSet:=V->V->V->Hp->(Hp->Prop)->Prop
def PSet(X:Cx)(t:TSet):Prop :=
 ∀(pins:List (Addr×Obj)) (s:ab) (σ:St) (H:Hp) (o i v:V) (ov iv u:aa) (Q:Hp->Prop),"I" H s->RelV o ov->RelV i iv->RelV v u->t o i v H Q ->
  X[3] (setItem ov iv u) (λ_ s'=>∃ H',"I" H' s'/\Q H') X.xe s
abbrev TIp:=V->V->Hp->VK->Prop
def PIp(X:Cx)(op:Operator)(t:TIp):Prop :=
 ∀(pins:List (Addr×Obj)) (s:ab) (σ:St) (H:Hp) (x y:V) (v u:aa) (Q:VK),"I" H s->RelV x v->RelV y u->t x y H Q ->
  X[3] (inplaceOp op v u) (EP X pins σ Q) X.xe s
section
variable{X:Cx}{pos:Pos}
def Wh(i:Nat):TG:=λv σ H Q=>Q (σ.set i !v) H
def Wi{i:Nat}(z:X.N.Nodup)(hi:X.N[i]?=!x)(B:Loc X.env.scope x)(O:(X.fn x=true\/X.env.scope.names.lookup x=some .local)["t"]):PG X (.Name x pos) (Wh i):=by
 intro pins s σ H v u Q I r h;exact bW (yZ I z hi B r (λs' I'=>#[_,H,I',h]) O)
def Mp:TGs:=λvs σ H Q=>vs=[]/\Q σ H
def Mq(t:TG)(u:TGs):TGs:=λvs σ H Q=>∃ v r,vs=v::r/\t v σ H λz H'=>u r z H' Q
def Mr:PGs X [] Mp:=by
 intro pins s σ H vs us Q I r h;obtain⟨e,h⟩:=h;subst e;cases r;exact assignInOrder_nil #[σ,H,I,h]
def Ms{t:TG}{u:TGs}(h1:PG X e t)(h2:PGs X es u)
  (z:((assignEach (e::es) X.env).map (·.2)=assign e X.env::(assignEach es X.env).map (·.2))["r"]):PGs X (e::es) (Mq t u):=by
 intro pins s σ H vs us Q I r h;obtain⟨v,vr,e1,h⟩:=h;subst e1;cases r with
 | cons r rr =>
  rw[z];refine assignInOrder_cons (thn (h1 pins s σ H _ _ _ I r h) λ_ s1 #[σ1,H1,I1,q1]=>?_)
  exact h2 pins s1 σ1 H1 _ _ Q I1 rr q1
def Mt(K:Frag)(n:Nat)(t:TGs):TG:=λv σ H Q=>∃ a xs,v=.ref a/\SqT K H a xs/\xs[1]=n/\t xs σ H Q
def Mu{k:Nat}{n:Nat}(B:X.calm=true)(h:PGs X es t)
  (O:((assignEach es X.env)[1]=n)["r"])(z:((assignEach es X.env).findIdx? (·.1)=none)["r"]):PG X (.Tuple es k pos) (Mt X.K n t):=by
 intro pins s σ H v u Q I r hw;obtain⟨a,xs,e1,hq,hl,hw⟩:=hw;subst e1;cases r;obtain⟨its,rv,ht,hz⟩:=I.tuple hq;refine assign_Tuple_tuple (I.ok.hd B) ht (by simp[O,<- hl,rv[1]]) z λh' hx=>?_
 have I1:"I" H {s with heap:=h'}:=I.kept (t':=s.toks) λb o e=>hx b o (t7 (gU e)) e
 exact h pins _ σ H xs _ Q I1 rv[""] hw
def Mv(to z:TE)(t:TSet):TG:=λv σ H Q=>to σ H λo H1=>z σ H1 λi H2=>t o i v H2 λH3=>Q σ H3
def Mw{to z:TE}{t:TSet}(B:PE X o to)(hi:PE X i z)(O:PSet X t)
  (U:∀ v,assign (.Subscript o i pos) X.env v=(do
   let ov <- holding [v] (eval o X.env)
   let iv <- holding [v,ov] (eval i X.env)
   standAt pos
   holding [v,ov,iv] (setItem ov iv v)
   release [v,ov,iv] []):=by intro _;rfl):PG X (.Subscript o i pos) (Mv to z t):=by
 intro pins s σ H v u Q I r h;rw[U];refine gg (fS (thn (B pins s σ H _ I h) λov s1 #[x,H1,I1,r1,q1]=>?_))
 refine gg (fS (thn (hi pins s1 σ H1 _ I1 q1) λiv s2 #[y,H2,I2,r2,q2]=>?_))
 refine gg (m9 (gg (fS (thn (O pins s2 σ H2 x y v ov iv u _ I2 r1 r2 r q2) λ_ s3 #[H3,I3,q3]=>?_))))
 exact wpAny_release #[σ,H3,I3,q3]
def Wj(te:TE)(g:TG):TS:=λD σ H=>te σ H λx H1=>g x σ H1 D.nx
def Mx{tg e:Expr}{te:TE}{g:TG}(z:PE X e te)(B:PG X tg g)(O:(swapsWithSole [tg] e pos.line X.env=pure false)["r"])(U:(swappedStores [tg] e X.env=pure none)["r"])
  (h1:((assignEach [tg] X.env).map (·.2)=[assign tg X.env])["r"]):PS X (.Assign [tg] e pos) (Wj te g):=by
 intro pins s σ H D I h;refine wpAny_Assign_stores (thn (z pins s σ H _ I h) λv s1 #[x,H1,I1,r1,q1]=>?_) O U
 rw[h1];exact thn (B pins s1 σ H1 x v _ I1 r1 q1) λ_ s2 q=>q
def Mz{i:Nat}{x:Str}{e:Expr}{te:TE}{pos':Pos}(z:X.N.Nodup)(hi:X.N[i]?=!x)(B:Loc X.env.scope x)(O:PE X e te)(U:(swapsWith e (!(.Name x pos')) pos.line X.env=pure false)["r"])(Y:(X.fn x=true\/X.env.scope.names.lookup x=some .local)["t"]) :
  PS X (.Assign [.Name x pos'] e pos) (Wj te (Wh i)):=by
 intro pins s σ H D I h;refine dU (thn (O pins s σ H _ I h) λv s1 #[y,H1,I1,r1,q1]=>?_) U
 exact yZ I1 z hi B r1 (λs2 I2=>#[_,H1,I2,q1]) Y
def MA(i:Nat)(te:TE)(B:TIp):TS:=λD σ H=>∃ x,σ[i]?=!(!x)/\te σ H λy H1=>B x y H1 λz H2=>D.nx (σ.set i !z) H2
def MB(Z:X.N.Nodup)(hi:X.N[i]?=!x)(U:Loc X.env.scope x)(he:PE X e te)(ho:PIp X op ti)(hf:(X.fn x=true\/X.env.scope.names.lookup x=some .local)["t"]) :
  PS X (.AugAssign (.Name x pos') op e pos) (MA i te ti):=by
 intro pins s σ H D I h;obtain⟨v,e1,h⟩:=h;obtain⟨m,hn,hl⟩:=I.loc;have Y:Vis X.env.scope x:=by rcases U with k|k;exact .inl k;exact .inr (.inl k)
 obtain⟨u,r,l⟩:=hl i x v hi e1 Y;refine wpAny_AugAssign_Name ?_;have go:X[3] (eval e X.env) (λw s₂=>X[3] (inplaceOp op u w) (λr O=>X[3] (storeName X.env x r) (λ_=>SP X pins D .next) X.xe O) X.xe s₂) X.xe s:=by
  refine thn (he pins s σ H _ I h) λw s1 #[y,H1,I1,r1,q1]=>?_
  refine thn (ho pins s1 σ H1 v y u w _ I1 r r1 q1) λz s2 #[zv,H2,I2,r2,q2]=>?_
  exact yZ I2 Z hi U r2 (λs3 I3=>#[_,H2,I3,q2]) hf
 rcases l with⟨hk,hm⟩|⟨hk,c,hc,B⟩
 .exact wpAny_loadName_local I.ok.kind hk hn hm go
 rcases hk with hk|hk
 .exact wpAny_loadName_cell I.ok.kind hk hc B go
 rcases U with k|k
 .have:X.env.scope.names.lookup x=some .free:=hk;rw[k]at this;cases this
 have:X.env.scope.names.lookup x=some .free:=hk;rw[k]at this;cases this
def MC(c:TT)(tb:TS):TS:=λD σ H=>∃ W:Nat->St->Hp->Prop,(∃ m,W m σ H)/\∀ m σ H,W m σ H ->
 c σ H λb H1=>if b=true then ∃ N:St->Hp->Prop,(∀ z H',N z H'->∃ m',m'<m/\W m' z H')/\tb {D with nx:=N,ct:=N,bk:=D.nx} σ H1 else D.nx σ H1
def MD{tc:TT}{tb:TS}(hp:PassesOwn (model X.prog X.w) X.A X.env X.xe)(O:PT X c tc)(U:PSs X body tb):PS X (.While c body [] pos) (MC tc tb):=by
 intro pins s σ H D I h;obtain⟨W,⟨m0,w0⟩,turn⟩:=h;refine wpAny_While (codeAny_whileLoop (λn s'=>∃ B H',Inv X pins B H' s'/\W n B H') ?_ m0 #[σ,H,I,w0])
 rintro n s1 ⟨σ1,H1,I1,w1⟩;refine cB hp (thn (O pins s1 σ1 H1 _ I1 (turn n σ1 H1 w1)) λb s2 #[H2,I2,q2]=>?_)
 cases b with
 | true =>
  obtain⟨N,hN,q2⟩:=q2;rw[if_pos rfl];refine cB hp (thn (U pins s2 σ1 H2 _ I2 q2) λf s3 q3=>?_)
  cases f with
  | next =>
   obtain⟨z,H3,I3,n3⟩:=q3;obtain⟨m',hm,w3⟩:=hN z H3 n3;exact#[m',hm,z,H3,I3,w3]
  | cont =>
   obtain⟨z,H3,I3,n3⟩:=q3;obtain⟨m',hm,w3⟩:=hN z H3 n3;exact#[m',hm,z,H3,I3,w3]
  | brk=>exact q3
  | ret v=>exact q3
 | false =>
  rw[if_neg pZ];exact bC #[σ1,H2,I2,q2]
end
structure It where
 go:Nat->Hp->Prop
 yld:Nat->Hp->V->Hp->Prop
 stop:Nat->Hp->Prop
def FpOk(X:Cx)(pins:List (Addr×Obj))(H:Hp)(b:Addr):Prop :=
 H b=none/\b≠X.env.locals/\b∉X.fs/\(b∈X.ex\/X.s₀[0]<=b)/\(∀ x c,X.env.cells.lookup x=!c->c≠b)/\∀ p∈X.pn++pins,p.1≠b
def Inv.fpOk{H H':Hp}{s:ab}(I:"I" H s)(B:s[0]<=b)(O:H' b=none):FpOk X pins H' b:=by
 refine#[O,c6 (tu I.lt B),I.nofs B,.inr (fw I.sz B),λx c e z=>?_,λp hp z=>?_]
 .obtain⟨v,q⟩:=I.cell x c e;exact absurd (tu q.lt (by rw[z];exact B)) (pG _)
 exact absurd (tu (gU (I.pin p hp).1) (by rw[z];exact B)) (pG _)
structure Turn(P:Program)(w:World)(K:Frag)(tg:Expr)(J:It)(fp:List Addr)(it:Addr)(tn:Nat->Heap->Prop):Prop where
 mem:it∈fp
 obj:∀ i h,tn i h->∀ b∈fp,∃ o,h.get? b=!o/\∀ v,o.data≠.cell v
 keep:∀ i h h',tn i h->(∀ b∈fp,∀ o,h.get? b=!o->h'.get? b=!o)->tn i h'
 item:∀(X:Cx),X.prog=P->X.w=w->X.K=K->X.calm=true->∀(i:Nat) (pins:List (Addr×Obj)) (s:Shared) (σ:St) (H:Hp) (E:Value->Shared->Prop),"I" H s->(∀ b∈fp,FpOk X pins H b)->tn i s.heap->J.go i H ->
  wpAny (model P w) X.A (pyNext (.ref it)) (λr s1=>∃ u,r=↑u /\
   wpAny (model P w) X.A (letOwnedTupleGo tg (.ref it) u) (λ_ s2=>∃ x H',"I" H' s2/\RelV x u/\J.yld i H x H'/\tn (i+1) s2.heap/\∀ b∈fp,H' b=none) E s1) E s
 done:∀(X:Cx),X.prog=P->X.w=w->X.K=K->X.calm=true->∀(i:Nat) (pins:List (Addr×Obj)) (s:Shared) (σ:St) (H:Hp) (E:Value->Shared->Prop),"I" H s->(∀ b∈fp,FpOk X pins H b)->tn i s.heap->J.stop i H ->
  wpAny (model P w) X.A (pyNext (.ref it)) (λr s1=>r=none/\"I" H s1) E s
 self:∀(A:Around) (i:Nat) (s:Shared) (Q:Value->Shared->Prop) (E:Value->Shared->Prop),tn i s.heap->Q (.ref it) s->wpAny (model P w) A (pyIter (.ref it)) Q E s
abbrev TI:=St->Hp->(It->Hp->Prop)->Prop
def PIE(X:Cx)(pins:List (Addr×Obj))(σ:St)(tg:Expr)(R:It->Hp->Prop)(z:aa)(B:ab):Prop :=
 ∃(it:Addr) (fp:List Addr) (tn:Nat->Heap->Prop) (J:It) (H':Hp),z=.ref it/\"I" H' B/\Turn X.prog X.w X.K tg J fp it tn/\tn 0 B.heap/\(∀ b∈fp,FpOk X pins H' b)/\R J H'
def PI(X:Cx)(tg iter:Expr)(z:TI):Prop :=
 ∀(pins:List (Addr×Obj)) (s:ab) (σ:St) (H:Hp) (R:It->Hp->Prop),"I" H s->z σ H R ->
  X[3] (eval iter X.env) (λv s1=>X[3] (pyIter v) (PIE X pins σ tg R) X.xe s1) X.xe s
def yi{s:ab}{o:Obj}{Q:Unit->ab->Prop}(B:s.heap.get? it=!o)(O:o.cls=.type n)(hd:o.data=.fields vs)
    (U:["enumerate","zip","dict_itemiterator","dict_reverseitemiterator","odict_iterator","itertools.zip_longest","itertools.pairwise"].contains n=false)(z:Q () s):wpAny M A (letOwnedTupleGo tg (.ref it) u) Q E s:=by
  delta letOwnedTupleGo
  cases tg<;>first
    | exact gC z
    | (cases u<;>first
        | exact gC z
        | (refine gg (wpAny_load B ?_)
           rw[O,hd];show wpAny M A (if (["enumerate","zip","dict_itemiterator","dict_reverseitemiterator","odict_iterator","itertools.zip_longest","itertools.pairwise"].contains n&&vs[0]?==!(rawInt _))=true then _ else _) Q E s
           rw[if_neg (by intro h;rw[U,bR]at h;cases h)]
           exact gC z))
def Itl(K:Frag)(a:Addr):It :=
 #[λi H=>∃ xs x,SqL K H a xs/\xs[i]?=!x,λi H x H'=>H'=H/\∀ xs,SqL K H a xs->xs[i]?=!x,λi H=>∃ xs,SqL K H a xs/\xs[1]<=i]
def Itt(K:Frag)(a:Addr):It :=
 #[λi H=>∃ xs x,SqT K H a xs/\xs[i]?=!x,λi H x H'=>H'=H/\∀ xs,SqT K H a xs->xs[i]?=!x,λi H=>∃ xs,SqT K H a xs/\xs[1]<=i]
def Itr(lo:Int)(n:Nat):It:=#[λi _=>i<n,λi H x H'=>H'=H/\x=.int (lo+i),λi _=>n<=i]
def ME{K:Frag}(a it:Addr):Turn P w K tg (Itl K a) [it] it (λi h=>h.IsListIter it a i)where
 mem:=by simp
 obj:=λi h st b hb=>by
  have e:b=it:=by simpa using hb
  subst e;obtain⟨o,e,c,d⟩:=st;exact#[o,e,λv z=>by rw[d]at z;cases z]
 keep:=λi h h' st k=>st.at λo e=>k it "s" o e
 item:=by
  intro X hP hw hK hc i pins s σ H E I hf st hg;subst hP hw hK;obtain⟨xs,x,hq,hx⟩:=hg;obtain⟨its,rv,p,hz⟩:=I.list hq;obtain⟨u,hu,ru⟩:=rv.get hx;obtain⟨f0,f1,f2,f3,f4,f5⟩:=hf it "s"
  refine wpAny_pyNext_list_item st p.isList (x:=u) hu[""] λh' B sb=>?_
  have I1:"I" H {s with heap:=h'}:=I.turned (t':=s.toks) (λb o hb e=>(sb.2 b hb).trans e) f0 f1 f3 f4 f5
  obtain⟨o,e,c,d⟩:=id B;exact#[u,rfl,yi (s:={s with heap:=h'}) e c d "d" #[x,H,I1,ru,#[rfl,λys hy=>by rw[I.list_inj hy hq];exact hx],B,λb hb=>(hf b hb).1]]
 done:=by
  intro X hP hw hK hc i pins s σ H E I hf st hg;subst hP hw hK;obtain⟨xs,hq,hx⟩:=hg;obtain⟨its,rv,p,hz⟩:=I.list hq;obtain⟨f0,f1,f2,f3,f4,f5⟩:=hf it "s"
  have hl:=rv[1];exact wpAny_pyNext_list_end (I.ok.hd hc) st p.isList (by simp;lia) λh' eb=>#[rfl,I.turned (t':=s.toks) (λb o hb e=>eb b o hb e) f0 f1 f3 f4 f5]
 self:=λ_ _ _ _ _ st h=>wpAny_pyIter_listiter st h
def MF{K:Frag}(a it:Addr):Turn P w K tg (Itt K a) [it] it (λi h=>h.IsTupleIter it a i)where
 mem:=by simp
 obj:=λi h st b hb=>by
  have e:b=it:=by simpa using hb
  subst e;obtain⟨o,e,c,d⟩:=st;exact#[o,e,λv z=>by rw[d]at z;cases z]
 keep:=λi h h' st k=>st.at λo e=>k it "s" o e
 item:=by
  intro X hP hw hK hc i pins s σ H E I hf st hg;subst hP hw hK;obtain⟨xs,x,hq,hx⟩:=hg;obtain⟨its,rv,p,hz⟩:=I.tuple hq;obtain⟨u,hu,ru⟩:=rv.get hx;obtain⟨f0,f1,f2,f3,f4,f5⟩:=hf it "s"
  refine wpAny_pyNext_tuple_item st (show s.heap.IsTuple a its.toArray from p) (x:=u) hu[""] λh' B sb=>?_
  have I1:"I" H {s with heap:=h'}:=I.turned (t':=s.toks) (λb o hb e=>(sb.2 b hb).trans e) f0 f1 f3 f4 f5
  obtain⟨o,e,c,d⟩:=id B;exact#[u,rfl,yi (s:={s with heap:=h'}) e c d "d" #[x,H,I1,ru,#[rfl,λys hy=>by rw[I.tuple_inj hy hq];exact hx],B,λb hb=>(hf b hb).1]]
 done:=by
  intro X hP hw hK hc i pins s σ H E I hf st hg;subst hP hw hK;obtain⟨xs,hq,hx⟩:=hg;obtain⟨its,rv,p,hz⟩:=I.tuple hq;obtain⟨f0,f1,f2,f3,f4,f5⟩:=hf it "s"
  have hl:=rv[1];exact wpAny_pyNext_tuple_end (I.ok.hd hc) st (show s.heap.IsTuple a its.toArray from p) (by simp;lia) λh' eb=>#[rfl,I.turned (t':=s.toks) (λb o hb e=>eb b o hb e) f0 f1 f3 f4 f5]
 self:=λ_ _ _ _ _ st h=>wpAny_pyIter_tupleiter st h
def MG{K:Frag}(it:Addr)(lo:Int)(n:Nat):Turn P w K tg (Itr lo n) [it] it (λi h=>IsRangeIter h it (lo+(i:Nat)*1) ((n:Int)-(i:Nat)) 1)where
 mem:=by simp
 obj:=λi h st b hb=>by
  have e:b=it:=by simpa using hb
  subst e;exact#[_,st,λv z=>by
   have z':Data.fields _=Data.cell v:=z;cases z']
 keep:=λi h h' st k=>k it "s" _ st
 item:=by
  intro X hP hw hK hc i pins s σ H E I hf st hg;subst hP hw hK;obtain⟨f0,f1,f2,f3,f4,f5⟩:=hf it "s"
  have W:=Walks.range (prog:=X.prog) (w:=X.w) (I.ok.hd hc) it lo 1 n;refine W.item i s _ _ hg st λv h' tk hv B kk=>?_
  obtain⟨t,rfl⟩:=hv;have I1:"I" H {s with heap:=h',toks:=tk}:=I.turned (λb o hb e=>kk b o hb[""] e) f0 f1 f3 f4 f5
  refine#[_,rfl,yi (s:={s with heap:=h',toks:=tk}) (n:="range_iterator") B rfl rfl "d" #[.int (lo+i),H,I1,#[t,?_],#[rfl,rfl],B,λb hb=>(hf b hb).1]]
  rw[Int.mul_one]
 done:=by
  intro X hP hw hK hc i pins s σ H E I hf st hg;subst hP hw hK;obtain⟨f0,f1,f2,f3,f4,f5⟩:=hf it "s"
  exact wpAny_pyNext_range_end (I.ok.hd hc) st (by have:n<=i:=hg;lia) λh' eb=>#[rfl,I.turned (t':=s.toks) (λb o hb e=>eb b o hb e) f0 f1 f3 f4 f5]
 self:=λ_ _ _ _ _ st h=>wpAny_pyIter_rangeiter st h
section
variable{X:Cx}{tg:Expr}
def Wl(K:Frag)(tl:TE):TI:=λσ H R=>tl σ H λx H1=>∃ a,x=.ref a/\(∃ xs,SqL K H1 a xs)/\R (Itl K a) H1
def Wm(K:Frag)(tl:TE):TI:=λσ H R=>tl σ H λx H1=>∃ a,x=.ref a/\(∃ xs,SqT K H1 a xs)/\R (Itt K a) H1
def JV(z:PE X l tl):PI X tg l (Wl X.K tl):=by
 intro pins s σ H R I h;refine thn (z pins s σ H _ I h) λv s1 #[x,H1,I1,r1,q1]=>?_
 obtain⟨a,e,⟨xs,hq⟩,q⟩:=q1;subst e;cases r1;obtain⟨its,rv,p,hz⟩:=I1.list hq;refine wpAny_pyIter_list p.isList ?_;refine#[s1[0],[s1[0]],_,_,H1,rfl,I1.kept (t':=s1.toks) λb o e=>gy _ e,ME a _,#[_,gN _ rfl,rfl,rfl],λb hb=>?_,q]
 have e:b=s1[0]:=by simpa using hb
 subst e;exact I1.fpOk (gE _) (I1.hok.fresh (gE _))
def JW(z:PE X l tl):PI X tg l (Wm X.K tl):=by
 intro pins s σ H R I h;refine thn (z pins s σ H _ I h) λv s1 #[x,H1,I1,r1,q1]=>?_
 obtain⟨a,e,⟨xs,hq⟩,q⟩:=q1;subst e;cases r1;obtain⟨its,rv,p,hz⟩:=I1.tuple hq;refine bJ (show s1.heap.IsTuple a its.toArray from p) ?_
 refine#[s1[0],[s1[0]],_,_,H1,rfl,I1.kept (t':=s1.toks) λb o e=>gy _ e,MF a _,#[_,gN _ rfl,rfl,rfl],λb hb=>?_,q]
 have e:b=s1[0]:=by simpa using hb
 subst e;exact I1.fpOk (gE _) (I1.hok.fresh (gE _))
def Wn{s:ab}{R:It->Hp->Prop}{E:aa->ab->Prop}{lo hi:Int}{tk:Nat}(I:"I" H s)(h1:-(2 ^ 62)<=lo)(h2:lo<2 ^ 62)(z:-(2 ^ 62)<=hi)(B:hi<2 ^ 62)
  (q:R (Itr lo (hi-lo).toNat) H):X[3] (pyIter (.ref s[0])) (PIE X pins σ tg R) E {s with heap:=s.heap.push {cls:=.type "range",data:=.fields (List.toArray [.int lo t,.int hi u,.int 1 v])},toks:=tk}:=by
 refine wpAny_pyIter_range (IsRange.new ..) (small_one h1 h2 z B) ?_;have I1:"I" H {s with heap:=s.heap.push {cls:=.type "range",data:=.fields (List.toArray [.int lo t,.int hi u,.int 1 v])},toks:=tk}:=I.kept λb o e=>gy _ e
 refine#[(s.heap.push {cls:=.type "range",data:=.fields (List.toArray [.int lo t,.int hi u,.int 1 v])}).objs.size,[(s.heap.push {cls:=.type "range",data:=.fields (List.toArray [.int lo t,.int hi u,.int 1 v])}).objs.size],_,_,H,rfl,
  I1.kept (t':=tk) λb o e=>gy _ e,MG _ lo (hi-lo).toNat,?_,λb hb=>?_,q]
 .have e1:lo+((0:Nat):Int)*1=lo:=by simp
  have e2:(((hi-lo).toNat:Nat):Int)-((0:Nat):Int)=Builtin.Range.rangeSize lo hi 1:=by rw[rangeSize_one];split<;>lia
  show IsRangeIter _ _ (lo+((0:Nat):Int)*1) ((((hi-lo).toNat:Nat):Int)-((0:Nat):Int)) 1;rw[e1,e2];exact gN _ rfl
 have e:b=(s.heap.push {cls:=.type "range",data:=.fields (List.toArray [.int lo t,.int hi u,.int 1 v])}).objs.size:=by simpa using hb
 subst e;exact I1.fpOk (gE _) (I1.hok.fresh (gE _))
def MH(ta:TA):TI:=λσ H R=>ta σ H λvs H1=>∃ j:Int,vs=[.int j]/\-(2 ^ 62)<=j/\j<2 ^ 62/\R (Itr 0 j.toNat) H1
def MI(ta:TA):TI:=λσ H R=>ta σ H λvs H1=>∃ i j:Int,vs=[.int i,.int j]/\(-(2 ^ 62)<=i/\i<2 ^ 62/\-(2 ^ 62)<=j/\j<2 ^ 62)/\R (Itr i (j-i).toNat) H1
def MJ(z:Gl X "range")(B:X.mg "range"=none)(O:PA X [a] ta)(U:(starEach [a] X.env=[(false,eval a X.env)])["r"]):PI X tg (.Call (.Name "range" p) [a] [] pos) (MH ta):=by
 intro pins s σ H R I h;refine Call_ (zL I z B boot_range (tD (thn (O pos pins s σ H _ I h) λus s1 #[vs,H1,I1,r1,q1]=>?_) U rfl))
 obtain⟨j,e,q1,q2,q⟩:=q1;subst e;cases r1 with
 | cons r rr =>
  cases rr;obtain⟨t,rfl⟩:=r;exact call_range_1 (Wn I1 "" "" q1 q2 q[""])
def MK{p pos:Pos}(B:Gl X "range")(O:X.mg "range"=none)(U:PA X [a,b] ta)(Y:(starEach [a,b] X.env=[(false,eval a X.env),(false,eval b X.env)])["r"])(z:(starEach [b] X.env=[(false,eval b X.env)])["r"]) :
  PI X tg (.Call (.Name "range" p) [a,b] [] pos) (MI ta):=by
 intro pins s σ H R I h;refine Call_ (zL I B O boot_range (tD (thn (U pos pins s σ H _ I h) λus s1 #[vs,H1,I1,r1,q1]=>?_) (by rw[Y,z]) (by rw[z];rfl)))
 obtain⟨i,j,e,⟨q1,q2,q3,q4⟩,q⟩:=q1;subst e;cases r1 with
 | cons r rr =>
  cases rr with
  | cons r' rr =>
   cases rr;obtain⟨t,rfl⟩:=r;obtain⟨t',rfl⟩:=r';exact call_range_2 (Wn I1 q1 q2 q3 q4 q)
def ML(O:TI)(g:TG)(tb:TS):TS:=λD σ H=>O σ H λJ H1=>∃ W:Nat->Nat->St->Hp->Prop,(∃ m,W 0 m σ H1)/\∀ i m σ H,W i m σ H ->
 (J.stop i H/\D.nx σ H)\/(J.go i H/\∃ N:St->Hp->Prop,(∀ z H',N z H'->∃ m',m'<m/\W (i+1) m' z H')/\∀ x H',J.yld i H x H'->g x σ H' λB H2=>tb {D with nx:=N,ct:=N,bk:=D.nx} B H2)
def xC(fp:List Addr)(h:Heap):List (Addr×Obj):=fp.filterMap λb=>(h.get? b).map λo=>(b,o)
def uY(z:b∈fp)(e:h.get? b=!o):(b,o)∈xC fp h:=List.mem_filterMap.mpr #[b,z,by rw[e];rfl]
def MM(hp:p∈xC fp h):p.1∈fp/\h.get? p.1=!p.2:=by
 obtain⟨b,hb,e⟩:=List.mem_filterMap.mp hp;cases q:h.get? b with
 | none=>rw[q]at e;cases e
 | some o =>
  rw[q]at e;have e':(b,o)=p:=tH e;subst e';exact#[hb,q]
def Inv.pinned{s:ab}(I:"I" H s)(B:∀ b∈fp,FpOk X pins H b)(O:∀ b∈fp,∃ o,s.heap.get? b=!o/\∀ v,o.data≠.cell v):Inv X (pins++xC fp s.heap) σ H s :=
 I.pins_of λp hp=>(gD.mp hp).elim (λz=>I.pin p (tq _ z)) λz=>by
  obtain⟨hb,e⟩:=MM z;obtain⟨f0,f1,f2,_⟩:=B p.1 hb;obtain⟨o,e',d⟩:=O p.1 hb;rw[e]at e';cases e';exact#[e,f0,f1,f2,d]
def Inv.unpinned(I:Inv X (pins++pl) σ H s):"I" H s:=I.pins_of λp hp=>I.pin p (tq _ (tj _ hp))
def MN{wi:TI}{g:TG}{tb:TS}{pos:Pos}(hp:PassesOwn (model X.prog X.w) X.A X.env X.xe)(hc:X.calm=true)(hi:PI X tg iter wi)(hg:PG X tg g)(B:PSs X body tb)
  (hs:∀ x,foldedSetIterable iter X.env x=pure x:=by intro _;rfl):PS X (.For tg iter body [] pos) (ML wi g tb):=by
 intro pins s σ H D I h;refine wpAny_For (thn (hi pins s σ H _ I h) λv s1 h1=>thn h1 λitv s2 h2=>?_) hs
 obtain⟨it,fp,tn,J,H2,e,I2,T,st2,f2,W,⟨m0,w0⟩,turn⟩:=h2;subst e;have O:∀{H':Hp},(∀ b∈fp,H' b=none)->∀ b∈fp,FpOk X pins H' b:=λhn b B=>#[hn b B,(f2 b B).2]
 refine codeAny_forLoop_any (λn s'=>∃ i Y H',Inv X pins Y H' s'/\tn i s'.heap/\(∀ b∈fp,H' b=none)/\W i n Y H') ?_ m0 #[0,σ,H2,I2,st2,λb B=>(f2 b B).1,w0]
 rintro n s3 ⟨i,σ3,H3,I3,st3,fr3,w3⟩;rcases turn i n σ3 H3 w3 with⟨stop,qn⟩|⟨go,N,hN,step⟩
 .refine cB hp (thn (T.done X rfl rfl rfl hc i pins s3 σ3 H3 X.xe I3 (O fr3) st3 stop) λr s4 #[hr,I4]=>?_)
  subst hr;exact bC #[σ3,H3,I4,qn]
 refine cB hp (thn (T.item X rfl rfl rfl hc i pins s3 σ3 H3 X.xe I3 (O fr3) st3 go) λr s4 #[u,hr,h4]=>?_)
 subst hr;refine cB hp (thn h4 λ_ s5 #[x,H5,I5,r5,y5,st5,fr5]=>?_)
 have Z:=I5.pinned (O fr5) (T.obj _ _ st5);refine cB hp (thn (hg _ s5 σ3 H5 x u _ Z r5 (step x H5 y5)) λ_ s6 #[σ6,H6,I6,q6]=>?_)
 refine cB hp (thn (B _ s6 σ6 H6 _ I6 q6) λf s7 q7=>?_)
 have U:∀{z:St} {H7:Hp},Inv X (pins++xC fp s5.heap) z H7 s7->N z H7->∃ m,m<n/\∃ i Y H',Inv X pins Y H' s7/\tn i s7.heap/\(∀ b∈fp,H' b=none)/\W i m Y H':=λ{z H7} I7 n7=>by
  obtain⟨m',hm,w7⟩:=hN z H7 n7;refine#[m',hm,i+1,z,H7,I7.unpinned,T.keep _ _ _ st5 λb B o e=>(I7.pin (b,o) (tq _ (tq _ (uY B e)))).1,λb B=>?_,w7]
  obtain⟨o,e,d⟩:=T.obj _ _ st5 b B;exact(I7.pin (b,o) (tq _ (tq _ (uY B e)))).2.1
 cases f with
 | next=>obtain⟨z,H7,I7,n7⟩:=q7;exact U I7 n7
 | cont=>obtain⟨z,H7,I7,n7⟩:=q7;exact U I7 n7
 | brk=>obtain⟨z,H7,I7,q7⟩:=q7;exact#[z,H7,I7.unpinned,q7]
 | ret v=>obtain⟨x7,z,H7,I7,r7,q7⟩:=q7;exact#[x7,z,H7,I7.unpinned,r7,q7]
end
abbrev R2:=V->V->Hp->VK->Prop
def OpR(X:Cx)(f:aa->aa->Sem aa)(r:R2):Prop :=
 ∀(pins:List (Addr×Obj)) (s:ab) (σ:St) (H:Hp) (x y:V) (v u:aa) (Q:VK),"I" H s->RelV x v->RelV y u->r x y H Q ->
  X[3] (f v u) (EP X pins σ Q) X.xe s
def yj(X:Cx)(f:aa)(r:List V->Hp->VK->Prop):Prop :=
 ∀(pins:List (Addr×Obj)) (s:ab) (σ:St) (H:Hp) (xs:List V) (us:List aa) (Q:VK),"I" H s->Vals xs us->r xs H Q ->
  X[3] (call f us) (EP X pins σ Q) X.xe s
def TruR(X:Cx)(r:V->Hp->(Bool->Hp->Prop)->Prop):Prop :=
 ∀(pins:List (Addr×Obj)) (s:ab) (σ:St) (H:Hp) (x:V) (v:aa) (Q:Bool->Hp->Prop),"I" H s->RelV x v->r x H Q ->
  X[3] (truthy v) (TP X pins σ Q) X.xe s
def tOp(r:R2)(ta tb:TE):TE:=λσ H Q=>ta σ H λx H1=>tb σ H1 λy H2=>r x y H2 Q
def rI(C:Int->Int->Prop)(g:Int->Int->V):R2:=λx y H Q=>∃ i j,x=.int i/\y=.int j/\C i j/\Q (g i j) H
def rI0(g:Int->Int->V):R2:=λx y H Q=>∃ i j,x=.int i/\y=.int j/\Q (g i j) H
section
variable{X:Cx}{a b c:Expr}{ta tb tc:TE}{pos:Pos}
def MO(B:PE X a ta)(O:PE X b tb){pins:List (Addr×Obj)}{s:ab}{σ:St}{H:Hp}{R:V->V->Hp->Prop}(I:"I" H s)
  (h:ta σ H λx H1=>tb σ H1 λy H2=>R x y H2){Q:aa->ab->Prop}{f:aa->aa->Sem aa}
  (U:∀ v u s2 x y H2,"I" H2 s2->RelV x v->RelV y u->R x y H2->X[3] (f v u) Q X.xe s2) :
  X[3] (eval a X.env) (λv z=>X[3] (eval b X.env) (λu s₂=>X[3] (f v u) Q X.xe s₂) X.xe z) X.xe s:=by
 refine thn (B pins s σ H _ I h) λv s1 #[x,H1,I1,r1,q1]=>?_
 refine thn (O pins s1 σ H1 _ I1 q1) λu s2 #[y,H2,I2,r2,q2]=>?_
 exact U v u s2 x y H2 I2 r1 r2 q2
def augR{r:R2}(z:OpR X (inplaceOp op) r)(I:"I" H s)
  (B:RelV x v)(O:RelV y u)(q:r x y H Q):X[3] (inplaceOp op v u) (EP X pins σ Q) X.xe s:=z pins s σ H x y v u Q I B O q
def opI{C:Int->Int->Prop}{g:Int->Int->Int}
  (z:∀ i j t u s Q E,C i j->Q (.int (g i j) s.toks) {s with toks:=s.toks+1}->X[3] (f (.int i t) (.int j u)) Q E s) :
  OpR X f (rI C λi j=>.int (g i j)):=by
 intro pins s σ H x y v u Q I rx ry h;obtain⟨i,j,rfl,rfl,hc,q⟩:=h;obtain⟨t,rfl⟩:=rx;obtain⟨t',rfl⟩:=ry;exact z i j t t' s _ _ hc #[.int (g i j),H,I.tok _,#[_,rfl],q]
def opI0{g:Int->Int->Int}
  (z:∀ i j t u s Q E,Q (.int (g i j) s.toks) {s with toks:=s.toks+1}->X[3] (f (.int i t) (.int j u)) Q E s) :
  OpR X f (rI0 λi j=>.int (g i j)):=by
 intro pins s σ H x y v u Q I rx ry h;obtain⟨i,j,rfl,rfl,q⟩:=h;obtain⟨t,rfl⟩:=rx;obtain⟨t',rfl⟩:=ry;exact z i j t t' s _ _ #[.int (g i j),H,I.tok _,#[_,rfl],q]
def opB0{g:Int->Int->Bool}
  (z:∀ i j t u s Q E,Q (.bool (g i j)) s->X[3] (f (.int i t) (.int j u)) Q E s) :
  OpR X f (rI0 λi j=>.bl (g i j)):=by
 intro pins s σ H x y v u Q I rx ry h;obtain⟨i,j,rfl,rfl,q⟩:=h;obtain⟨t,rfl⟩:=rx;obtain⟨t',rfl⟩:=ry;exact z i j t t' s _ _ #[.bl (g i j),H,I,rfl,q]
def CDiv(i j:Int):Prop:=0<j/\j<1073741824
def CMul(i j:Int):Prop:=(-(2 ^ 64)<i/\i<2 ^ 64)\/(-(2 ^ 64)<j/\j<2 ^ 64)
def CMul.ok(h:CMul i j):IntMulOk i j:=by
 rcases h with⟨h1,h2⟩|⟨h1,h2⟩
 .exact .of_left (intBits_le_64 h1 h2)
 exact .of_right (intBits_le_64 h1 h2)
def MP:OpR X (binaryOp .Add) (rI0 λi j=>.int (i+j)):=opI0 λ_ _ _ _ _ _ _ q=>add_int q
def MQ:OpR X (binaryOp .Sub) (rI0 λi j=>.int (i-j)):=opI0 λ_ _ _ _ _ _ _ q=>sub_int q
def MR:OpR X (binaryOp .Mult) (rI CMul λi j=>.int (i*j)):=opI λ_ _ _ _ _ _ _ hc q=>mul_int q hc.ok
def MS:OpR X (binaryOp .FloorDiv) (rI CDiv λi j=>.int (i/j)):=opI λi j _ _ _ _ _ hc q=>by
 have h1:(0:Int)<j:=hc.1;have h2:j<1073741824:=hc.2;exact floordiv_int "" (by rw[Int.fdiv_eq_ediv_of_nonneg i ""];exact q) (.inl (PyProof.noPylong_small "o"))
def MT:OpR X (binaryOp .Mod) (rI (λ_ j=>0<j) λi j=>.int (i%j)):=opI λi j _ _ _ _ _ hc q=>by
 have h1:(0:Int)<j:=hc;exact mod_int' "" (by rw[Int.fmod_eq_emod_of_nonneg i ""];exact q)
def MU:OpR X (inplaceOp .Add) (rI0 λi j=>.int (i+j)):=opI0 λ_ _ _ _ _ _ _ q=>iadd_int q
def MV:OpR X (inplaceOp .Sub) (rI0 λi j=>.int (i-j)):=opI0 λ_ _ _ _ _ _ _ q=>isub_int q
def Wo(I:"I" H s)(q:Q (.bl k) H)(e:k=k'):EP X pins σ Q (.bool k') s:=by
 subst e;exact#[.bl k,H,I,rfl,q]
def MW:OpR X (compareOp .Lt) (rI0 λi j=>.bl (decide (i<j))):=opB0 λ_ _ _ _ _ _ _ q=>lt_int q
def MX:OpR X (compareOp .LtE) (rI0 λi j=>.bl (decide (i<=j))):=opB0 λ_ _ _ _ _ _ _ q=>le_int q
def MY:OpR X (compareOp .Gt) (rI0 λi j=>.bl (decide (j<i))):=opB0 λ_ _ _ _ _ _ _ q=>gt_int q
def MZ:OpR X (compareOp .Is) (λx y H Q=>y=.non/\Q (.bl (decide (x=.non))) H):=by
 intro pins s σ H x y v u Q I rx ry h;obtain⟨rfl,q⟩:=h;cases ry;refine is_none_gen (Wo I q ?_);cases x<;>first
  | (cases rx;rfl)
  | (obtain⟨t,rfl⟩:=rx;rfl)
def G0:OpR X (compareOp .IsNot) (λx y H Q=>y=.non/\Q (.bl (not (decide (x=.non)))) H):=by
 intro pins s σ H x y v u Q I rx ry h;obtain⟨rfl,q⟩:=h;cases ry;refine isnot_none_gen (Wo I q ?_);cases x<;>first
  | (cases rx;rfl)
  | (obtain⟨t,rfl⟩:=rx;rfl)
def TruV(K:Frag)(x:V)(H:Hp)(k:Bool):Prop :=
 match x with
 | .non=>k=false
 | .bl b=>k=b
 | .int i=>k=(i != 0)
 | .str y=>y[1]<=sizeLine/\k=((y[1]:Int) != 0)
 | .byt y=>y.size<=sizeLine/\k=((y.size:Int) != 0)
 | .ref p=>(∃ xs,SqL K H p xs/\k=not xs.isEmpty)\/(∃ xs,SqT K H p xs/\k=not xs.isEmpty)\/∃ kvs,H p=!(.dK kvs)/\k=not kvs.isEmpty
 | _=>False
def G5(r:KV kvs vs):(not vs.isEmpty)=not kvs.isEmpty:=by
 cases r<;>rfl
def Wp(r:Vals xs its):(not its.toArray.isEmpty)=not xs.isEmpty:=by
 cases r<;>simp
def k9:sizeLine<2 ^ 63:=by rw[pE];decide
def G6:TruR X (λx H Q=>∃ k,TruV X.K x H k/\Q k H):=by
 intro pins s σ H x v Q I rx h;obtain⟨k,e,q⟩:=h;have hl:=k9;have hs:sizeLine=16777216:=pE;cases x with
 | non =>
  cases rx;have e':k=false:=e;subst e';exact truthy_none #[H,I,q]
 | bl b =>
  cases rx;have e':k=b:=e;subst e';exact pN #[H,I,q]
 | int i =>
  obtain⟨t,rfl⟩:=rx;have e':k=(i != 0):=e;subst e';exact PySem.P.truthy_int #[H,I,q]
 | str y =>
  obtain⟨t,rfl⟩:=rx;obtain⟨hy,e'⟩:y[1]<=sizeLine/\k=((y[1]:Int) != 0):=e;subst e';exact PySem.P.truthy_str "" #[H,I.tok _,q]
 | byt y =>
  obtain⟨t,rfl⟩:=rx;obtain⟨hy,e'⟩:y.size<=sizeLine/\k=((y.size:Int) != 0):=e;subst e';exact PySem.W.truthy_bytes "" #[H,I.tok _,q]
 | ref p =>
  cases rx;have e':(∃ xs,SqL X.K H p xs/\k=not xs.isEmpty)\/(∃ xs,SqT X.K H p xs/\k=not xs.isEmpty)\/∃ kvs,H p=!(.dK kvs)/\k=not kvs.isEmpty:=e;rcases e' with⟨xs,hx,e'⟩|⟨xs,hx,e'⟩|⟨kvs,hx,e'⟩
  .subst e';obtain⟨its,r,pl,hz⟩:=I.list hx;have z:=r[1];exact wpAny_truthy_list pl.isList (by simp only[gZ];lia) #[H,I.tok _,by rw[Wp r];exact q]
  .subst e';obtain⟨its,r,pl,hz⟩:=I.tuple hx;have z:=r[1];exact truthy_tuple pl (by simp only[gZ];lia) #[H,I.tok _,by rw[Wp r];exact q]
  subst e';obtain⟨hz,hS,vs,r,m⟩:kvs[1]<=sizeLine/\(p==sysModules)=false/\∃ vs,KV kvs vs/\s.heap.DictOf (jk X.prog X.w) p vs:=I.hok p _ hx;have z:kvs[1]=vs[1]:=dG r;exact wpAny_truthy_dict hS m "" #[H,I.tok _,by rw[G5 r];exact q]
 | _=>exact(show False from e).elim
def JX(r:Vals [x] us):∃ u,us=[u]/\RelV x u:=by
 cases r with
 | cons r1 r2=>cases r2;exact#[_,rfl,r1]
def Wq(r:Vals [x,y] us):∃ u w',us=[u,w']/\RelV x u/\RelV y w':=by
 cases r with
 | cons r1 r2 =>
  cases r2 with
  | cons r3 r4=>cases r4;exact#[_,_,rfl,r1,r3]
def G7(z:X.calm=true):yj X (.builtin "max") (λxs H Q=>∃ i j,xs=[.int i,.int j]/\Q (if j>i then j else i)[6] H):=by
 intro pins s σ H xs us Q I r h;obtain⟨i,j,rfl,q⟩:=h;obtain⟨u,w',rfl,⟨t,rfl⟩,⟨t',rfl⟩⟩:=Wq r;refine max_two_ints (I.ok.hd z) λh' tk k=>#[_,H,I.kept k,?_,q]
 by_cases hj:j>i
 .rw[if_pos hj,if_pos hj];exact#[_,rfl]
 rw[if_neg hj,if_neg hj];exact#[_,rfl]
def G8(z:X.calm=true):yj X (.builtin "min") (λxs H Q=>∃ i j,xs=[.int i,.int j]/\Q (if j<i then j else i)[6] H):=by
 intro pins s σ H xs us Q I r h;obtain⟨i,j,rfl,q⟩:=h;obtain⟨u,w',rfl,⟨t,rfl⟩,⟨t',rfl⟩⟩:=Wq r;refine min_two_ints (I.ok.hd z) λh' tk k=>#[_,H,I.kept k,?_,q]
 by_cases hj:j<i
 .rw[if_pos hj,if_pos hj];exact#[_,rfl]
 rw[if_neg hj,if_neg hj];exact#[_,rfl]
variable{prog:ag}{w:World}{A:aj}{E:aa->ab->Prop}{s:ab}{K:Frag}{x dx C f:Addr}{mA:Str->Option aa}{name:Str}{v:aa}
end
def RelO.some_of(r:RelO ↑v o):∃ u,o=!u/\RelV v u:=by
 cases o with
 | none=>exact(show False from r).elim
 | some u=>exact#[u,rfl,r]
section
variable{P:ag}{w:World}{H H':Hp}{h h':Heap}{a C dx:Addr}{fs fs':List (Str×V)}
variable{X:Cx}{pins:List (Addr×Obj)}{σ:St}{s:ab}{f:Str}{v:V}{A:aj}{E:aa->ab->Prop}
variable{o e value:Expr}{pos pos' tpos:Pos}{ta tv:TE}
variable{Q:aa->ab->Prop}{c:aa}{b:Bool}
end
structure Room(k:Nat)(A:Around):Prop where
 hd:A.handled=none
 dp:A.depth+3*k+5<recursionLimit
 un:A.units+16*k+200<cLine
def Room.mono{j k:Nat}(r:Room k A)(h:j<=k):Room j A:=#[r.hd,by have:=r.dp;lia,by have:=r.un;lia]
def Room.deeper(r:Room (k+1) A)(env):Room k (A.deeper env) :=
 #[r.hd,by have:=r.dp;show A.depth+1+3*k+5<_;lia,by have:=r.un;show A.units+3+16*k+200<_;lia]
def Room.depth(r:Room k A):A.depth<recursionLimit:=by have:=r.dp;lia
def Wr:TA:=λ_ H Q=>Q [] H
def uZ(ta:TE)(z:TA):TA:=λσ H Q=>ta σ H λx H1=>z σ H1 λxs H2=>Q (x::xs) H2
section
variable{X:Cx}{e:Expr}{es:List Expr}{te:TE}{t:TA}{pos:Pos}
def vC:PA X [] Wr:=λ_ _ _ _ H Q I h=>tN #[[],H,I,.nil,h]
def zo(z:PE X e te)(B:PA X es t)(O:(starEach (e::es) X.env=(false,eval e X.env)::starEach es X.env)["r"]):PA X (e::es) (uZ te t):=by
 intro pos pins s σ H Q I h;rw[O];show wpAny _ _ (spliced ((false,eval e X.env)::backTo pos (starEach es X.env))) _ _ s;refine t5 (thn (z pins s σ H _ I h) λu s1 #[x,H1,I1,r1,q1]=>?_)
 exact thn (B pos pins s1 σ H1 _ I1 q1) λus s2 #[xs,H2,I2,r2,q2]=>#[x::xs,H2,I2,.cons r1 r2,q2]
def G9(t:TA):TE:=λσ H Q=>t σ H λxs H1=>xs[1]<=sizeLine/\∀ p,H1 p=none->Q (.ref p) (upd H1 p (.tup xs))
def Ga{x1}(h:PA X es t):PE X (.Tuple es x1 pos) (G9 t):=by
 intro pins s σ H Q I hq;refine du (thn (h pos pins s σ H _ I hq) λus s1 #[xs,H1,I1,r,z,q]=>#[by rw[<- r[1]];exact z,?_])
 have hf:H1 s1[0]=none:=I1.hok.fresh (gE _);refine#[.ref s1[0],upd H1 s1[0] (.tup xs),I1.laid (t':=s1.toks) (λb u e=>gy _ e) (gE _) ?_,rfl,q _ hf]
 exact#[z,us,r,#[_,gN _ rfl,rfl,_,rfl]]
end
abbrev Sp:=List V->Hp->VK->XK->Prop
abbrev CXT:=List Env->Hp->ab->XK->aa->ab->Prop
structure Env0(P:Program)(w:World)(K:Frag)(mg:Str->Option Value)(base:Heap)(A:Around)(outer:List Env)(s:Shared)(H:Hp):Prop where
 frames:A.frames=!outer
 mod:Mod K mg base
 bs:∀ b o,base.get? b=!o->s.heap.get? b=!o/\H b=none
 bsz:base.objs.size<=s[0]
 funs:s.heap.FunFrames base outer
 frf:∀ b∈frs outer,H b=none
 hok:HOk P w H s.heap
 bare:AllBare s.gens
def CE(outer:List Env)(P:ag)(w:World)(H:Hp)(s:ab)(Q:VK)(u:aa)(s':ab):Prop :=
 ∃ v H',s'.os=s.os/\AllBare s'.gens/\Un (frs outer) [] H H' s.heap s'.heap/\HOk P w H' s'.heap/\RelV v u/\Q v H'
def CR(CX:CXT)(outer:List Env)(P:ag)(w:World)(H:Hp)(s:ab)(Q:VK)(E:XK)(r:Result)(s':ab):Prop :=
 match r with
 | .ok (.ret u)=>CE outer P w H s Q u s'
 | .ok _=>False
 | .error e=>CX outer H s E e s'
structure FnOk(P:Program)(w:World)(K:Frag)(mg:Str->Option Value)(base:Heap)(CX:CXT)(k:Nat)(f:Addr)(fd:FuncData)(ps:List Str)(sp:Sp):Prop where
 len:∀ vs H Q E,sp vs H Q E->vs[1]=ps[1]
 run:∀(A:Around) (outer:List Env) (s:Shared) (H:Hp) (args:Args) (us:List Value) (vs:List V) (Q:VK) (E:XK),Room k A->Env0 P w K mg base A outer s H->BindsTo s fd args (ps.zip us)->Vals vs us->sp vs H Q E ->
  codeAny (model P w) A (.call (.ref f) args) (CR CX outer P w H s Q E) s
section
variable{X:Cx}{pins:List (Addr×Obj)}{σ:St}{H:Hp}{s s':ab}
def Inv.env0(I:"I" H s):Env0 X.prog X.w X.K X.mg X.base X.A X.stack s H :=
 #[I.ok.frames,I.ok.mod,I.bs,fw I.ok.bsz I.sz,I.stack,I.stkFree,I.hok,I.bare]
def Inv.after(I:"I" H s)(h:CE X.stack X.prog X.w H s Q u s'):EP X pins σ Q u s':=by
 obtain⟨v,H',os,B,un,O,r,q⟩:=h;obtain⟨hh,g,d,t,U⟩:=s';obtain rfl:U=s.os:=os;exact#[v,H',I.call (h':=hh) (g':=g) (d':=d) (t':=t) (ch:=[]) un O B λb z=>absurd z "s",r,q]
end
def Binds(K:Frag)(fd:FuncData)(ps:List Str)(ds:List aa):Prop :=
 ∀(s:ab) (us:List aa),K.In s.heap->(us++ds)[1]=ps[1]->BindsTo s fd #[us,[]] (ps.zip (us++ds))
def Binds.all{K:Frag}{ps:List Str}(h:∀ us,us[1]=ps[1]->bindArgs fd #[us,[]]=pure (ps.zip us)):Binds K fd ps []:=λs us _ hl=>by
 rw[tT]at hl ⊢;exact .of_eq (h us hl)
def Ws(CX:CXT)(X:Cx)(E:XK):Prop:=∀(pins:List (Addr×Obj)) (σ:St) (H:Hp) (s:ab) (e:aa) (s':ab),"I" H s->CX X.stack H s E e s'->X.xe e s'
section
variable{X:Cx}{CX:CXT}{k:Nat}{f C:Addr}{fd:FuncData}{ps:List Str}{sp:Sp}{dvs:List V}{ds:List aa}{E:XK}{x m:Str}{p pos apos:Pos}{e o:Expr}{es:List Expr}{ta:TE}{t:TA}
def Wt(F:FnOk X.prog X.w X.K X.mg X.base CX k f fd ps sp)(z:Room k X.A)(B:Binds X.K fd ps ds)(hd:Vals dvs ds)(O:Ws CX X E)
  (I:"I" H s)(r:Vals vs us)(h:sp (vs++dvs) H Q E):X[3] (call (.ref f) us) (EP X pins σ Q) X.xe s:=by
 have r2:Vals (vs++dvs) (us++ds):=r.append hd;have hl:(us++ds)[1]=ps[1]:=by rw[<- r2[1]];exact F.len _ _ _ _ h
 refine wpAny_call (codeAny_mono (F.run X.A X.stack s H #[us,[]] (us++ds) (vs++dvs) Q E z I.env0 (B s us I.kIn hl) r2 h) λr s' hq=>?_)
 cases r with
 | error e=>exact O pins σ H s e s' I hq
 | ok fl =>
  cases fl with
  | ret u=>exact I.after hq
  | next=>exact False.elim hq
  | brk=>exact False.elim hq
  | cont=>exact False.elim hq
end
section
variable{X:Cx}{CX:CXT}{k:Nat}{f C:Addr}{fd:FuncData}{ps ks:List Str}{sp:Sp}{E:XK}{x m:Str}{p pos apos kpos:Pos}{e o:Expr}{es:List Expr}{kws:List Keyword}{te ta:TE}{t tk:TA}{nm:Option Str}
variable{g:List aa->List aa->List aa}{gV:List V->List V->List V}
end
structure FnScope(N P:List Str)(sc:Scope):Prop where
 kind:sc.kind=.function
 co:sc.isCoroutine=false
 gen:sc.isGenerator=false
 nd:N.Nodup
 pre:N.take P[1]=P
 par:∀ x∈P,sc.names.lookup x=some .local\/sc.names.lookup x=some .cell
 nofree:∀ y∈sc.names,y.2≠.free
theorem Wu{z:Str->Option NameKind}:∀{binds} {m},(∀ v,(x,v)∉binds)->bindL z binds m x=m x
 | [],_,_=>rfl
 | (n,v)::r,m,h=>by
  unfold bindL;rw[Wu λw hw=>h w (gu _ hw)]
  split
  .have:x≠n:=by rintro rfl;exact h v t4
   simp[this]
  rfl
theorem Wv{z:Str->Option NameKind}:∀{binds} {m},(∀ v,(x,v)∉binds)->bindC z binds m x=m x
 | [],_,_=>rfl
 | (n,v)::r,m,h=>by
  unfold bindC;rw[Wv λw hw=>h w (gu _ hw)]
  split
  .rfl
  have:x≠n:=by rintro rfl;exact h v t4
  simp[this]
theorem Ww{z:Str->Option NameKind}:∀{P:List Str} {vs} {i:Nat} {m},P.Nodup->P[i]?=!x->vs[i]?=!v->z x=some .local ->
  bindL z (P.zip vs) m x=!v
 | [],_,_,_,_,h,_,_=>by simp at h
 | _::_,[],_,_,_,_,h,_=>by simp at h
 | p::P,w::vs,0,m,nd,h1,h2,hk=>by
  simp at h1 h2;subst h1;subst h2;show bindL z ((p,w)::P.zip vs) m p=_;unfold bindL;rw[Wu λv hv=>(tJ.mp nd).1 (List.of_mem_zip hv).1,if_pos hk]
  simp
 | p::P,w::vs,i+1,m,nd,h1,h2,hk=>by
  show bindL z ((p,w)::P.zip vs) m x=_;unfold bindL;exact Ww (i:=i) (tJ.mp nd).2 h1[""] h2[""] hk
theorem Wx{z:Str->Option NameKind}:∀{P:List Str} {vs} {i:Nat} {m},P.Nodup->P[i]?=!x->vs[i]?=!v->z x≠some .local ->
  bindC z (P.zip vs) m x=!v
 | [],_,_,_,_,h,_,_=>by simp at h
 | _::_,[],_,_,_,_,h,_=>by simp at h
 | p::P,w::vs,0,m,nd,h1,h2,hk=>by
  simp at h1 h2;subst h1;subst h2;show bindC z ((p,w)::P.zip vs) m p=_;unfold bindC;rw[Wv λv hv=>(tJ.mp nd).1 (List.of_mem_zip hv).1,if_neg hk]
  simp
 | p::P,w::vs,i+1,m,nd,h1,h2,hk=>by
  show bindC z ((p,w)::P.zip vs) m x=_;unfold bindC;exact Wx (i:=i) (tJ.mp nd).2 h1[""] h2[""] hk
def z9(N:List Str)(vs:List V):St:=vs.map some++List.replicate (N[1]-vs[1]) none
def cxOf(CX:CXT)(P:ag)(w:World)(K:Frag)(mg:Str->Option aa)(base:Heap)(N:List Str)(z:Str)(scope:Scope)(f:Addr)(cd:aa)(A:aj)(outer:List Env)(s:ab)(H:Hp)(E:XK):Cx where
 prog:=P
 w:=w
 K:=K
 mg:=mg
 base:=base
 A:=A.deeper (envOfC z scope s[0] f cd)
 N:=N
 s₀:=s
 H₀:=H
 env:=envOfC z scope s[0] f cd
 outer:=outer
 stack:=envOfC z scope s[0] f cd::outer
 ex:=[]
 calm:=true
 fn:=λ_=>true
 pn:=[]
 xe:=λe s'=>wpAny (model P w) (A.deeper (envOfC z scope s[0] f cd)) (leaving (envOfC z scope s[0] f cd) e) (λ_ B=>CX outer H s E e B) (λe' B=>CX outer H s E e' B) s'
def Wy{z:Scope}{n:Nat}(h:z.names.lookup x=some .cell):∃ c,(cellsFrom n z.names []).lookup x=!c:=by
 have q:=cellsFrom_some z.names n [] (.inl h);exact Option.isSome_iff_exists.mp q
def Gb{K:Frag}{mg:Str->Option aa}{N ps:List Str}{scope:Scope}{A:aj}{s Y:ab}{vs:List V}
  (S:FnScope N ps scope)(hd:A.handled=none)(B:Env0 P w K mg base A outer s H)(hl:vs[1]=ps[1])(r:Vals vs us)
  (x:InCallC s s[0] (bindL (envOfC qual scope s[0] f cd).kindOf (ps.zip us) λ_=>none) (cellsFrom (s[0]+1) scope.names []) (bindC (envOfC qual scope s[0] f cd).kindOf (ps.zip us) λ_=>none) Y) :
  Inv (cxOf CX P w K mg base N qual scope f cd A outer s H E) [] (z9 N vs) H Y:=by
 have Z:ps[1]<=N[1]:=by have:=congrArg List.length S.pre;rw[tB]at this;lia
 obtain⟨h1,tk,rfl,hk⟩:=x.done;have O:∀ b:Addr,b∉(cxOf CX P w K mg base N qual scope f cd A outer s H E).ex:=λb z=>absurd (show b∈([]:List Addr)from z) "s"
 refine#[#[B.mod,S.kind,rfl,rfl,gE _,λy z c h1 h2=>?_,λy hy=>?_,λy c _ h=>?_,λ_=>hd,Around.frames_deeper B.frames,.inr #[rfl,rfl],λb z=>absurd z (O b),B.bs,B.bsz,λb _ _=>O b,λb z=>absurd z (O b),B.funs,B.frf],
  rfl,B.bare,Un.kept hk,#[_,x.toInCall.ns,λi y v h1 h2 h3=>?_],λy c h=>#[_,x.cell y c h],B.hok.fresh (gE _),λy c h=>?_,λp hp=>absurd (show p∈([]:List (Addr×Obj))from hp) "s",B.hok.kept hk,?_]
 .exact name_of_addr x.apart (cJ h1) (cJ h2)
 .have hy:scope.names.lookup y=some .cell\/scope.names.lookup y=some .free:=hy;rcases hy with hy|hy
  .exact Wy hy
  exact absurd rfl (S.nofree _ (cJ hy))
 .exact cY (x.above y c (cJ h))
 .have hi:i<vs[1]:=by
   unfold z9 at h2;by_cases hi:i<vs[1]
   .exact hi
   rw[hZ hi[""]]at h2
   rw[fH]at h2;split at h2<;>cases h2
  have ha:vs[i]?=!v:=by
   unfold z9 at h2;rw[t8 hi[""],gM]at h2
   cases e:vs[i]? with
   | none=>rw[e]at h2;cases h2
   | some a=>rw[e]at h2;cases h2;rfl
  obtain⟨u,hu,rv⟩:=r.get ha;have hp:ps[i]?=!y:=by
   rw[<- S.pre,List.getElem?_take_of_lt ""];exact h1
  have U:ps.Nodup:=by rw[<- S.pre];exact S.nd.sublist (List.take_sublist _ _)
  refine#[u,rv,?_];rcases S.par y (hV hp)with k|k
  .exact .inl #[k,Ww U hp hu k]
  obtain⟨c,e⟩:=Wy (n:=s[0]+1) k;refine .inr #[.inl k,c,e,?_];have q:=x.cell y c e;rw[Wx U hp hu (by show scope.names.lookup y≠_;rw[k];decide)]at q
  exact q
 .exact B.hok.fresh (cY (x.above y c (cJ h)))
 delta z9
 show _=N[1];rw[gH,gj,List.length_replicate];lia
def Gc{K:Frag}{mg:Str->Option aa}{base:Heap}{k:Nat}{f:Addr}{name z:Str}{O:Arguments}{body:List Stmt}{scope:Scope}{dV kV doc pm B ct oc:aa}{an od:Option Addr}
  {osl:Array (Option aa)}{N ps:List Str}{sp:Sp}(lk:K.lookup f=↑#[oc,od,.func (PySem.W.fnOf name z O body scope dV kV doc pm an B ct),osl])(hcd:codeIn K B z=true)(S:FnScope N ps scope)
  (len:∀ vs H Q E,sp vs H Q E->vs[1]=ps[1])
  (Y:∀ A outer s H vs Q E,Room k (A.deeper (envOfC z scope s[0] f B))->sp vs H Q E ->
   ∃ t,PSs (cxOf CX P w K mg base N z scope f B A outer s H E) body t/\t {nx:=λ_ H'=>Q .non H',rt:=Q} (z9 N vs) H) :
  FnOk P w K mg base CX (k+1) f (PySem.W.fnOf name z O body scope dV kV doc pm an B ct) ps sp:=by
 refine#[len,λA outer s H args us vs Q E hr e0 hb r hsp=>?_]
 have hl:=len _ _ _ _ hsp;have KX:K.In s.heap:=e0.mod.kin.keeps λb o e=>(e0.bs b o e).1
 have lim:s.heap.NoLimit:=e0.mod.nolimit.keeps λb o e=>(e0.bs b o e).1
 have Z:∀ y∈ps.zip us,scope.names.lookup y.1=some .local\/(scope.names.lookup y.1=some .cell/\((cellsFrom (s[0]+1) scope.names []).lookup y.1).isSome=true):=λ#[n,v] hy=>by
  rcases S.par n (List.of_mem_zip hy).1 with q|q
  .exact .inl q
  exact .inr #[q,cellsFrom_some _ _ _ (.inl q)]
 refine codeAny_call_function hr.depth (KX _ _ lk) rfl S.co S.gen rfl (PySem.W.codeRec_of KX hcd) (hb _ _ _ _ ?_);refine wpAny_newFunctionEnv_cells S.kind Z λenv he s1 x=>?_
 subst he;refine#[lim.keeps x.toInCall.keep,codeAny_func ?_];obtain⟨t,ht,hq⟩:=Y A outer s H vs Q E (hr.deeper _) hsp;have I:Inv (cxOf CX P w K mg base N z scope f B A outer s H E) [] (z9 N vs) H s1:=Gb S hr.hd e0 hl r x;refine cA (ht [] s1 (z9 N vs) H _ I hq) (λfl s' hs=>?_) λe s' hs=>hs
 have fin:∀{U:St} {H':Hp} {v:V} {u:aa},Inv (cxOf CX P w K mg base N z scope f B A outer s H E) [] U H' s'->RelV v u->Q v H'->CE outer P w H s Q u s' :=
  λ{U H' v u} J rv q=>#[v,H',J.os,J.bare,J.base,J.hok,rv,q]
 cases fl with
 | ret u =>
  obtain⟨v,U,H',J,rv,q⟩:=hs;exact fin J rv q
 | next =>
  obtain⟨U,H',J,q⟩:=hs;exact fin (v:=V.non) (u:=Value.none) J rfl q
 | brk =>
  obtain⟨_,_,_,q⟩:=hs;exact False.elim q
 | cont =>
  obtain⟨_,_,_,q⟩:=hs;exact False.elim q
section
variable{X:Cx}{x:Str}{p pos:Pos}{e:Expr}{es:List Expr}{t:TA}{id T:String}{r:List V->Hp->VK->Prop}
end
end L2
namespace HT
open PySem PyProof.Rows
def lexLt:List Int->List Int->Bool
 | [],[]=>false
 | [],_::_=>true
 | _::_,[]=>false
 | x::xs,y::ys=>if x=y then lexLt xs ys else decide (x<y)
def lexLt_cons(x y)(xs ys):lexLt (x::xs) (y::ys)=if x=y then lexLt xs ys else decide (x<y):=rfl
def lexLt_nil_nil:lexLt [] []=false:=rfl
def lexLt_nil_cons(y)(ys):lexLt [] (y::ys)=true:=rfl
def lexLt_cons_nil(x)(xs):lexLt (x::xs) []=false:=rfl
def Gd(A)(s)(a)(t)(c)(u):∃ e,SeqAt.EqAt A s (.int a t) (.int c u) e/\(e=true↔a=c) :=
 #[(a==c),SeqAt.EqAt.int_int a t c u,by simp]
def Ge(A)(s)(a)(t)(c)(u)(prog)(w)(E)(Q)(h:Q (.bool (decide (a<c))) s) :
  wpAny (model prog w) A (richCompare .Lt (.int a t) (.int c u)) Q E s :=
 (PyProof.Rows.lt_int h:wpAny (model prog w) A (compareOp .Lt (.int a t) (.int c u)) Q E s)
section
open PySem.SeqAt
open PySem.AutoSeq1 (wpAny_loadPart')
open PySem.MeetsSeq PySem.MeetsSeq2 PySem.MeetsSeq3
def Gf(l b)(items items2)(n n2)(dd dd2)(sl sl2)(ns ms)(hi:IntsAre items[2] ns)(O:IntsAre items2[2] ms) :
  Meets (Builtin.«tuple.__lt__» #[[.ref l,.ref b],[]])
   (λ_ R s=>s.heap.get? l=some {cls:=.type "tuple",dict:=dd,data:=.seq items n,slots:=sl}/\s.heap.get? b=some {cls:=.type "tuple",dict:=dd2,data:=.seq items2 n2,slots:=sl2} /\
    R (.ok (.ret (.bool (lexLt ns ms)))) s) :=
 .of_wp λprog w A R s h=>by
  obtain⟨hp,g,d,tk,os⟩:=s;obtain⟨hl,hb,h⟩:=h;have f2:=AutoSeq1.sub_tuple_tuple;have z1:items.size=ns[1]:=by rw[<- hi[1]];simp
  have z2:items2.size=ms[1]:=by rw[<- O[1]];simp
  wp_walk using wpAny_loadPart' hl,wpAny_loadPart' hb,wpAny_forIn_list _ (λrest b s'=>b.1=none/\s'=#[hp,g,d,tk,os]/\∃(vs ws:List aa) (ns' ms':List Int),rest=vs.zip ws /\
   IntsAre vs ns'/\IntsAre ws ms'/\ns'[1]+items2.size=ms'[1]+items.size/\R (.ok (.ret (.bool (lexLt ns' ms')))) #[hp,g,d,tk,os]) _
  case turn =>
   rintro⟨y,x⟩ rest b s' ⟨hb',rfl,vs,ws,ns',ms',hz,hvi,hwi,hlen,hR⟩;cases hvi with
   | nil=>rw[List.zip_nil_left]at hz;cases hz
   | cons a t hvi' =>
    cases hwi with
    | nil=>rw[List.zip_nil_right]at hz;cases hz
    | cons c u hwi' =>
     rw[bK]at hz;injection hz with hyx hrest;injection hyx with hy hx;subst hy hx;rw[lexLt_cons]at hR;simp only[gQ]at hlen;obtain⟨e,he,z⟩:=Gd A.in1 #[hp,g,d,tk,os] a t c u;refine gg (he prog w _ _ ?_);cases e with
     | true =>
      rw[if_pos (z.mp rfl)]at hR
      wp_walk
      exact#[rfl,rfl,_,_,_,_,hrest,hvi',hwi',"",hR]
     | false =>
      rw[if_neg λq=>absurd (z.mpr q) pZ]at hR
      have B:=Ge A.in1 #[hp,g,d,tk,os] a t c u prog w
      wp_walk using B
      exact#[_,rfl,by simpa using hR]
  case fin =>
   rintro⟨b1,b2⟩ s' ⟨hb',rfl,vs,ws,ns',ms',hz,hvi,hwi,hlen,hR⟩;simp only at hb';subst hb';have hv:lexLt ns' ms'=decide (items.size<items2.size):=by
    cases hvi with
    | nil =>
     cases hwi with
     | nil =>
      simp only[fQ]at hlen;rw[lexLt_nil_nil];exact(t9 "").symm
     | cons c u hw =>
      simp only[fQ,gQ]at hlen;rw[lexLt_nil_cons];exact(tL "").symm
    | cons a t hv =>
     cases hwi with
     | nil =>
      simp only[fQ,gQ]at hlen;rw[lexLt_cons_nil];exact(t9 "").symm
     | cons c u hw =>
      rw[bK]at hz;cases hz
   rw[hv]at hR
   wp_walk
   exact#[_,rfl,by simpa[Builtin.Tuple.tupleCompareSizes]using hR]
  case h =>
   exact#[rfl,rfl,items[2],items2[2],ns,ms,rfl,hi,O,"",h]
end
section
variable{prog:ag}{w:World}{A:aj}{E:aa->ab->Prop}{s:ab}
def lt_tupInts{items z:Array aa}{B ms:List Int}{Q:aa->ab->Prop}(hl:IsTup s.heap l items)(hb:IsTup s.heap b z)(hi:IntsAre items[2] B)(hj:IntsAre z[2] ms)
  (hu:A.units<cLine)(h:Q (.bool (lexLt B ms)) s):wpAny (model prog w) A (compareOp .Lt (.ref l) (.ref b)) Q E s:=by
 obtain⟨⟨cls,dd,data,sl⟩,ho,hc,n,hd⟩:=id hl;obtain⟨⟨h4,Z,h3,sl2⟩,O,U,n2,Y⟩:=id hb;simp only at hc hd U Y;subst hc hd U Y;exact richCompare_meets_room (op:=.Lt) #[_,ho,rfl] #[_,O,rfl] PySem.F.slot_tuple_lt PySem.F.entry_tuple_lt (PySem.F.args_tuple_lt_2 _ _) (Gf l b items z n n2 dd Z sl sl2 B ms hi hj)
  #[ho,O,show Value.bool (lexLt B ms)≠Value.notImplemented/\Q (.bool (lexLt B ms)) s from#[(λx=>nomatch x),h]] hu
def cat_tup(ht:IsTup s.heap t vs.toArray)(hb:IsTup s.heap b ws.toArray)(hv:vs≠[])
  (h1:ws=[]->Q (.ref t) s)(h2:ws≠[]->Q (.ref s[0]) {s with heap:=s.heap.push {cls:=.type "tuple",data:=.seq (vs++ws).toArray}})
  (hsz:vs[1]+ws[1]<=sizeLine):wpAny (model prog w) A (binaryOp .Add (.ref t) (.ref b)) Q E s:=by
 obtain⟨⟨cls,dd,data,sl⟩,ho,hc,n,hd⟩:=id ht;obtain⟨⟨h3,B,Z,O⟩,z,U,n2,Y⟩:=id hb;simp only at hc hd U Y;subst hc hd U Y;have e:vs.toArray++ws.toArray=(vs++ws).toArray:=by simp
 by_cases hw:ws=[]
 .exact concat_meets #[_,ho,rfl] #[_,z,rfl] noFill_tuple_add seq_tuple_add PySem.F.slot_tuple_add PySem.F.entry_tuple_add (PySem.F.args_tuple_add_2 _ _)
   (tuple_addW1 t b vs.toArray ws.toArray n n2 dd B sl O hv[""] (by simp[hw])) #[ho,z,h1 hw]
 refine concat_meets #[_,ho,rfl] #[_,z,rfl] noFill_tuple_add seq_tuple_add PySem.F.slot_tuple_add PySem.F.entry_tuple_add (PySem.F.args_tuple_add_2 _ _)
  (tuple_addW2 t b vs.toArray ws.toArray n n2 dd B sl O hv[""] hw[""] (by rw[gZ,gZ];exact hsz)) #[ho,z,?_]
 rw[e];exact h2 hw
def sIx(n d:Nat):Option Int->Nat
 | none=>d
 | some v=>if v<0 then(v+(n:Int)).toNat else min v.toNat n
def sIx_none(n d):sIx n d none=d:=rfl
def sIx_nat(n d k:Nat):sIx n d ↑k=min k n:=by
 show(if (k:Int)<0 then((k:Int)+(n:Int)).toNat else min (k:Int).toNat n)=min k n
 rw[if_neg "",tY]
def Gg(n d)(hd:d<=n)(o):sIx n d o<=n:=by
 cases o with
 | none=>exact hd
 | some v =>
  show(if v<0 then(v+(n:Int)).toNat else min v.toNat n)<=n
  by_cases hv:v<0
  .rw[if_pos hv];lia
  rw[if_neg hv];exact Nat.min_le_right _ _
def Wz(v)(n d:Nat):(if v<0 then max (v+(n:Int)) 0 else min v n)=(sIx n d !v):=by
 show(if v<0 then max (v+(n:Int)) 0 else min v (n:Int))=(((if v<0 then(v+(n:Int)).toNat else min v.toNat n):Nat):Int)
 by_cases hv:v<0
 .simp only[if_pos hv];lia
 simp only[if_neg hv];lia
def Gh(lo hi)(n:Nat):Builtin.Slice.sliceAdjust lo hi 1 n=(((sIx n 0 lo):Int),((sIx n n hi):Int)):=by
 have h1:¬ ((1:Int)<0):=""
 delta Builtin.Slice.sliceAdjust
 simp only[h1,cK];refine Prod.ext ?_ ?_
 .cases lo with
  | none=>rfl
  | some v=>exact Wz v n 0
 cases hi with
 | none=>rfl
 | some v=>exact Wz v n n
def Gi(i j:Nat):Builtin.Slice.slicePlaces i j 1=j-i:=by
 delta Builtin.Slice.slicePlaces
 have h1:(1:Int)>0:=""
 simp only[h1,dz,Int.ediv_one];split<;>lia
def WA(p:IsPart v o)(h:Q o s):wpAny (model prog w) A (Builtin.Slice.slicePartIndex v) Q E s:=by
 cases p with
 | none=>exact slicePart_none h
 | int i t=>exact slicePart_int h
def Gj{lo hi:Option Int}{n:Nat}{Q:Int×Int×Nat->ab->Prop}(O:s.heap.IsSliceOf sl vl vu .none)(U:IsPart vl lo)(Y:IsPart vu hi)
  (h:Q ((sIx n 0 lo),1,sIx n n hi-sIx n 0 lo) s):wpAny (model prog w) A (Builtin.Slice.sliceApplied (.ref sl) (pure n)) Q E s:=by
 obtain⟨os,z,Z,B⟩:=id O
 delta Builtin.Slice.sliceApplied Builtin.Slice.sliceFields
 refine gg (gg (fW z B (x:=vl) rfl (gg (fW z B (x:=vu) rfl (gg (fW z B (x:=.none) rfl (gC ?_)))))));refine gg (slicePart_none ?_);show wpAny _ _ (if ((1:Int)==0)=true then _ else _) _ _ s
 rw[if_neg "d"]
 refine gg (WA U (gg (WA Y (gg (gC ?_)))));show wpAny _ _ (match Builtin.Slice.sliceAdjust lo hi 1 (n:Int)with|(lo,hi)=>pure (lo,(1:Int),Builtin.Slice.slicePlaces lo hi 1)) _ _ s
 rw[Gh lo hi n];show wpAny _ _ (pure (((sIx n 0 lo:Nat):Int),(1:Int),Builtin.Slice.slicePlaces ((sIx n 0 lo:Nat):Int) ((sIx n n hi:Nat):Int) 1)) _ _ s;rw[Gi];exact gC h
def Gm(xs:Array aa)(i k:Nat):((List.range k).filterMap λ(m:Nat)=>xs[(i+(m:Int)*1).toNat]?).toArray=((xs[2].drop i).take k).toArray:=by
 have e:(λ(m:Nat)=>xs[((i:Int)+(m:Int)*1).toNat]?)=λm=>xs[i+m]?:=by
  funext m;have:((i:Int)+(m:Int)*1).toNat=i+m:=""
  rw[this]
 rw[e];have:=pick_run xs i k;rw[List.filterMap_map]at this;have e2:((λx=>xs[x]?)∘λx=>i+x)=λm=>xs[i+m]?:=rfl
 rw[e2]at this;rw[this]
def getItem_tuple_cut{items:Array aa}{lo hi:Option Int}{Q:aa->ab->Prop}(B:IsTup s.heap t items)(hs:s.heap.IsSliceOf sl vl vu .none)(pl:IsPart vl lo)(pu:IsPart vu hi)
  (hw:¬ (sIx items.size 0 lo=0/\sIx items.size items.size hi=items.size))
  (h:Q (.ref s[0]) {s with heap:=s.heap.push {cls:=.type "tuple",data:=.seq ((items[2].drop (sIx items.size 0 lo)).take (sIx items.size items.size hi-sIx items.size 0 lo)).toArray}})
  (hsz:items.size<=sizeLine):wpAny (model prog w) A (getItem (.ref t) (.ref sl)) Q E s:=by
 have z:sizeOk (.seq ((items[2].drop (sIx items.size 0 lo)).take (sIx items.size items.size hi-sIx items.size 0 lo)).toArray):=by
  show((items[2].drop (sIx items.size 0 lo)).take (sIx items.size items.size hi-sIx items.size 0 lo)).toArray.size<=sizeLine;rw[gZ,tB,fF,fj]
  omega
 have hj:sIx items.size items.size hi<=items.size:=Gg _ _ (gE _) hi;obtain⟨os,Y,Z,hds⟩:=id hs;have O:s.TypeIs (.ref sl) "slice":=#[os,Y,Z]
 delta getItem
 try with_reducible refine fS ?_
 first|refine gg (gC ?_)|skip
 refine gg (wpAny_sequenceKey B.typeIs "d" ?_)
 refine gg (fJ (name:=Str.ofString "__getitem__") B.typeIs cC
  (p7 cC B.typeIs entry_tuple_getitem ?_ (args_tuple_getitem _ _)))
 show wpAny _ _ (Builtin.Tuple.tupleItemsOf (.ref t) >>= _) _ _ s;refine gg (tupleItemsOf_ B ?_);refine gg (wpAny_typeOf O ?_);rw[if_pos "d"]
 refine gg (Gj hs pl pu ?_);have U:¬ ((((sIx items.size 0 lo:Nat):Int)==0&&(1:Int)==1&&(sIx items.size items.size hi-sIx items.size 0 lo)==items.size)=true):=by
  intro q;rw[hX,hX]at q;have q1:((sIx items.size 0 lo:Nat):Int)=0:=eq_of_beq q.1.1;have q2:sIx items.size items.size hi-sIx items.size 0 lo=items.size:=eq_of_beq q.2;exact hw #["","o"]
 show wpAny _ _ (if (((sIx items.size 0 lo:Nat):Int)==0&&(1:Int)==1&&(sIx items.size items.size hi-sIx items.size 0 lo)==items.size)=true then _ else _) _ _ s
 rw[if_neg U,Gm]
 first
  | exact gg (m:=Builtin.Tuple.tupleExact _) (tZ (gC #[_,rfl,gC h]) z)
  | exact gg (m:=Builtin.Tuple.tupleExact _) (tZ (gg (gC (gC #[_,rfl,gC h]))) z)
  | exact gg (gg (m:=Builtin.Tuple.tupleExact _) (tZ (gC (gC #[_,rfl,gC h])) z))
  | exact gg (gg (m:=Builtin.Tuple.tupleExact _) (tZ (gC #[_,rfl,gC h]) z))
end
end HT
namespace L2
open PySem PySem.Spec PyProof.Rows
abbrev TO:=St->Hp->(Option Int->Hp->Prop)->Prop
def PO(X:Cx)(e:Option Expr)(t:TO):Prop :=
 ∀(pins:List (Addr×Obj)) (s:ab) (σ:St) (H:Hp) (Q:Option Int->Hp->Prop),"I" H s->t σ H Q ->
  X[3] (evalPart e X.env) (λu s'=>∃ o H',"I" H' s'/\IsPart u o/\Q o H') X.xe s
def Gn:TO:=λ_ H Q=>Q none H
def Go(t:TE):TO:=λσ H Q=>t σ H λx H1=>∃ i,x=.int i/\Q ↑i H1
def yk:∀{us},Vals (ns.map V.int) us->IntsAre us ns:=by
 induction ns with
 | nil=>intro us r;rw[c9]at r;cases r;exact .nil
 | cons n ns ih =>
  intro us r;rw[gW]at r;cases r with
  | cons r1 r2 =>
   obtain⟨t,e⟩:=r1;subst e;exact .cons n t (ih r2)
section
variable{X:Cx}{e:Expr}{te:TE}{lo hi:Option Expr}{tl th:TO}{pos p2:Pos}
def Gp:PO X none Gn:=by
 intro pins s σ H Q I h;rw[evalPart_none];exact gC #[none,H,I,.none,h]
def Gq(h:PE X e te):PO X ↑e (Go te):=by
 intro pins s σ H Q I hw;rw[evalPart_some];refine thn (h pins s σ H _ I hw) λu s1 #[x,H1,I1,r1,q1]=>?_
 obtain⟨i,rfl,q⟩:=q1;obtain⟨t,rfl⟩:=r1;exact#[!i,H1,I1,.int i t,q]
def SlR(X:Cx)(r:V->Option Int->Option Int->Hp->VK->Prop):Prop :=
 ∀(pins:List (Addr×Obj)) (s:ab) (σ:St) (H:Hp) (x:V) (v vl vu:aa) (lo hi:Option Int) (sl:Addr) (Q:VK),"I" H s->RelV x v->s.heap.IsSliceOf sl vl vu .none->IsPart vl lo->IsPart vu hi->r x lo hi H Q ->
  ∃ T id,typeLookup (.type T) "__getitem__"=pure (!(.builtin id))/\s.TypeIs v T/\X[3] (getItem v (.ref sl)) (EP X pins σ Q) X.xe s
def SlR.or(h:SlR X r)(h':SlR X r'):SlR X (λx lo hi H Q=>r x lo hi H Q\/r' x lo hi H Q):=by
 intro pins s σ H x v vl vu lo hi sl Q I rx hs pl pu q;rcases q with q|q
 .exact h pins s σ H x v vl vu lo hi sl Q I rx hs pl pu q
 exact h' pins s σ H x v vl vu lo hi sl Q I rx hs pl pu q
def tSl(r:V->Option Int->Option Int->Hp->VK->Prop)(te:TE)(tl th:TO):TE:=λσ H Q=>te σ H λx H1=>tl σ H1 λl H2=>th σ H2 λu H3=>r x l u H3 Q
def Gs(z:SlR X r)(B:PE X e te)(O:PO X lo tl)(U:PO X hi th):PE X (.Subscript e (.Slice lo hi none p2) pos) (tSl r te tl th):=by
 intro pins s σ H Q I h;refine Subscript_ (thn (B pins s σ H _ I h) λv s1 #[x,H1,I1,r1,q1]=>?_)
 refine wpAny_Slice (thn (O pins s1 σ H1 _ I1 q1) λvl s2 #[l,H2,I2,pl,q2]=>thn (U pins s2 σ H2 _ I2 q2) λvu s3 #[u,H3,I3,pu,q3]=>?_)
 rw[evalPart_none];refine gC ?_;have I4:"I" H3 {s3 with heap:=s3.heap.push {cls:=.type "slice",data:=.fields (List.toArray [vl,vu,.none])}}:=I3.kept (t':=s3.toks) λb ob q=>gy _ q
 obtain⟨T,id,hT,ht,hg⟩:=z pins {s3 with heap:=s3.heap.push {cls:=.type "slice",data:=.fields (List.toArray [vl,vu,.none])}} σ H3 x v vl vu l u s3[0] Q I4 r1 (Heap.IsSliceOf.new ..) pl pu q3;show X[3] (subscriptTail e (.Slice lo hi none p2) v (.ref s3[0])) (EP X pins σ Q) X.xe {s3 with heap:=s3.heap.push {cls:=.type "slice",data:=.fields (List.toArray [vl,vu,.none])}};exact tail_any (ops:=[.ref s3[0],v]) ht hT hg (by with_unfolding_all rfl)
def wC(xs:List V)(lo hi:Option Int):List V:=(xs.drop (HT.sIx xs[1] 0 lo)).take (HT.sIx xs[1] xs[1] hi-HT.sIx xs[1] 0 lo)
def WB(xs)(lo hi):(wC xs lo hi)[1]<=xs[1]:=by
 delta wC
 rw[tB,fF];lia
def Gu(K:Frag):V->Option Int->Option Int->Hp->VK->Prop:=λx lo hi H Q=>∃ a xs,x=.ref a/\SqT K H a xs /\
 ¬ (HT.sIx xs[1] 0 lo=0/\HT.sIx xs[1] xs[1] hi=xs[1])/\∀ p,H p=none->Q (.ref p) (upd H p (.tup (wC xs lo hi)))
def Gv:SlR X (Gu X.K):=by
 intro pins s σ H x v vl vu lo hi sl Q I rx hs pl pu h;obtain⟨a,xs,rfl,hx,hw,q⟩:=h;cases rx;obtain⟨its,r,ht,hz⟩:=I.tuple hx;have z:its.toArray.size=xs[1]:=by rw[gZ];exact r.length.symm
 refine#["tuple",_,cC.lookup,ht.typeIs,?_];refine HT.getItem_tuple_cut ht hs pl pu (by rw[z];exact hw) ?_ (by rw[z];exact hz)
 rw[z];refine#[.ref s[0],_,I.laid (t':=s.toks) (o:=.tup (wC xs lo hi)) (λb ob q=>gy _ q) (gE _) ?_,rfl,q _ (I.hok.fresh (gE _))]
 exact#[fw (WB xs lo hi) hz,_,(r.drop (HT.sIx xs[1] 0 lo)).take (HT.sIx xs[1] xs[1] hi-HT.sIx xs[1] 0 lo),IsTup.new _ _]
def Gw(K:Frag):R2:=λx y H Q=>∃ a b xs ys,x=.ref a/\y=.ref b/\SqT K H a xs/\SqT K H b ys/\xs≠[]/\xs[1]+ys[1]<=sizeLine /\
 (ys=[]->Q (.ref a) H)/\(ys≠[]->∀ p,H p=none->Q (.ref p) (upd H p (.tup (xs++ys))))
def Vals.nil_iff(r:Vals xs us):us=[]↔xs=[]:=by
 cases r with
 | nil=>simp
 | cons _ _=>simp
def Gx:OpR X (binaryOp .Add) (Gw X.K):=by
 intro pins s σ H x y v u Q I rx ry h;obtain⟨a,b,xs,ys,rfl,rfl,ha,hb,hx,hz,q1,q2⟩:=h;cases rx;cases ry;obtain⟨its,r1,p1,_⟩:=I.tuple ha;obtain⟨B,r2,p2,_⟩:=I.tuple hb;refine HT.cat_tup p1 p2 (λz=>hx (r1.nil_iff.mp z)) (λz=>#[.ref a,H,I,rfl,q1 (r2.nil_iff.mp z)]) (λz=>?_) (by rw[<- r1[1],<- r2[1]];exact hz)
 refine#[.ref s[0],_,I.laid (t':=s.toks) (o:=.tup (xs++ys)) (λb ob q=>gy _ q) (gE _) ?_,rfl,q2 (λw=>z (r2.nil_iff.mpr w)) _ (I.hok.fresh (gE _))]
 exact#[by rw[gH];exact hz,_,r1.append r2,IsTup.new _ _]
end
def ixN(n:Nat)(i:Int):Option Nat:=if 0<=i then(if i<n then !i.toNat else none)else if -(n:Int)<=i then !(i+n).toNat else none
def atI{α:Type}(xs:List α)(i:Int):Option α:=(ixN xs[1] i).bind λj=>xs[j]?
def WC(h:ixN n i=!j):seqIndex? i n=!j/\j<n/\-n<=i/\i<n:=by
 delta ixN at h
 by_cases h0:0<=i
 .rw[if_pos h0]at h;by_cases h1:i<n
  .rw[if_pos h1]at h;have e:i.toNat=j:=tH h;exact#[by rw[seqIndex_of h0 h1,e],"","",h1]
  rw[if_neg h1]at h;cases h
 rw[if_neg h0]at h;by_cases h1:-(n:Int)<=i
 .rw[if_pos h1]at h;have e:(i+n).toNat=j:=tH h;exact#[by rw[seqIndex_neg "" h1,e],"",h1,""]
 rw[if_neg h1]at h;cases h
def JY(h:atI xs i=!v):∃ j,seqIndex? i xs[1]=!j/\xs[j]?=!v/\j<xs[1]/\-(xs[1])<=i/\i<xs[1]:=by
 delta atI at h
 cases e:ixN xs[1] i with
 | none=>rw[e]at h;cases h
 | some j =>
  rw[e]at h;obtain⟨h1,h2,h3,h4⟩:=WC e;exact#[j,h1,h,h2,h3,h4]
def ym(b:Expr):Prop:=∀ o i,subscripted b false o i=operate [o,i] (getItem o i)
def IxR(X:Cx)(r:R2):Prop :=
 ∀(value z:Expr) (pins:List (Addr×Obj)) (s:ab) (σ:St) (H:Hp) (x y:V) (v u:aa) (Q:VK),"I" H s->RelV x v->RelV y u->r x y H Q ->
  subscripted z false v u=operate [v,u] (getItem v u)->X[3] (subscriptTail value z v u) (EP X pins σ Q) X.xe s
def MtR(X:Cx)(id:String)(r:V->List V->Hp->VK->Prop):Prop :=
 ∀(pins:List (Addr×Obj)) (s:ab) (σ:St) (H:Hp) (x:V) (xs:List V) (v:aa) (us:List aa) (Q:VK),"I" H s->RelV x v->Vals xs us->r x xs H Q ->
  X[3] (call (.builtin id) (v::us)) (EP X pins σ Q) X.xe s
section
variable{X:Cx}{a b:Expr}{ta tb:TE}{pos:Pos}
def Gy(z:IxR X r)(B:PE X a ta)(O:PE X b tb)(U:ym b):PE X (.Subscript a b pos) (tOp r ta tb):=by
 intro pins s σ H Q I h;exact Subscript_ (MO B O I h λv u s2 x y H2 I2 rx ry q=>z a b pins s2 σ H2 x y v u Q I2 rx ry q (U _ _))
def Gz(K:Frag):R2:=λx y H Q=>∃ p xs i v,x=.ref p/\y=.int i/\SqL K H p xs/\atI xs i=!v/\Q v H
def GA(K:Frag):R2:=λx y H Q=>∃ p xs i v,x=.ref p/\y=.int i/\SqT K H p xs/\atI xs i=!v/\Q v H
def GB:R2:=λx y H Q=>∃ z i c,x=.str z/\y=.int i/\z[1]<=sizeLine/\atI z.cps.toList i=!c/\Q (.str #[(List.toArray [c])]) H
def ix_list:IxR X (Gz X.K):=by
 intro value B pins s σ H x y v u Q I rx ry h hs;obtain⟨p,xs,i,z,rfl,rfl,hq,he,q⟩:=h;cases rx;obtain⟨t,rfl⟩:=ry;obtain⟨its,r,pl,hz⟩:=I.list hq;obtain⟨j,h1,h2,h3,h4,h5⟩:=JY he;obtain⟨w,ew,O⟩:=r.get h2;have hl:=r[1];have hn:=k9;have fin:EP X pins σ Q w s:=#[z,H,I,O,q];by_cases h0:0<=i
 .have hj:i.toNat=j:=by
   rw[seqIndex_of h0 h5]at h1;exact tH h1
  exact item_listR pl.isList h0 "" (by rw[hj];simpa using ew) fin hs
 have hj:(i+(its.toArray.size:Int)).toNat=j:=by
  rw[seqIndex_neg "" h4]at h1
  rw[gZ,<- hl];exact tH h1
 exact subscriptTail_builtinR (x:=w) pl.isList.typeIs slot_list_getitem.lookup
  (wpAny_getItem_list_neg (Q:=λr s'=>r=w/\EP X pins σ Q r s') pl.isList "" (by rw[gZ]<;>lia) "" (by rw[hj];simpa using ew) #[rfl,fin]) hs
def GC:IxR X (GA X.K):=by
 intro value B pins s σ H x y v u Q I rx ry h hs;obtain⟨p,xs,i,z,rfl,rfl,hq,he,q⟩:=h;cases rx;obtain⟨t,rfl⟩:=ry;obtain⟨its,r,pl,hz⟩:=I.tuple hq;obtain⟨j,h1,h2,h3,h4,h5⟩:=JY he;obtain⟨w,ew,O⟩:=r.get h2;have hl:=r[1];have hn:=k9;have fin:EP X pins σ Q w s:=#[z,H,I,O,q];exact subscriptTail_builtinR (x:=w) pl.typeIs slot_tuple_getitem.lookup
  (getItem_tuple (j:=j) (Q:=λr s'=>r=w/\EP X pins σ Q r s') pl "" "" (by rw[gZ,<- hl];exact h1) ew[""] #[rfl,fin]) hs
def GD:IxR X GB:=by
 intro value B pins s σ H x y v u Q I rx ry h hs;obtain⟨z,i,c,rfl,rfl,hz,he,q⟩:=h;obtain⟨t,rfl⟩:=rx;obtain⟨t',rfl⟩:=ry;obtain⟨j,h1,h2,h3,h4,h5⟩:=JY he;have hl:z.cps.toList.length=z[1]:=by simp[Str.length]
 rw[hl]at h1 h4 h5;have hn:=k9;exact tail_any (typeIs_str s z t) slot_str_getitem.lookup (getItem_str (c:=c) (by
  have e1:decide (i < -(2 ^ 63:Int))=false:=t9 ""
  have e2:decide (i≥2 ^ 63)=false:=t9 ""
  rw[e1,e2,Bool.or_false]) (by rw[h1];simpa using h2) #[.str #[(List.toArray [c])],H,I.tok _,#[_,rfl],q]) hs
def GG(its:List aa)(n j)(u):Obj.mapSeq (·.setIfInBounds j u) {cls:=.type "list",data:=.seq its.toArray n}={cls:=.type "list",data:=.seq (its.set j u).toArray n}:=by
 simp[Obj.mapSeq]
def Inv.lst{σ:St}{H:Hp}{s:ab}{p:Addr}{xs:List V}(I:"I" H s)(h:H p=!(.lst xs)) :
  ∃ its n,Vals xs its/\s.heap.get? p=some {cls:=.type "list",data:=.seq its.toArray n}/\xs[1]<=sizeLine:=by
 obtain⟨z,its,n,r,e⟩:=I.hok p _ h;exact#[its,n,r,e,z]
def Inv.lstUpd{H:Hp}{s:ab}{xs ys:List V}{its its':List aa}{n z:Nat}{f:Obj->Obj}(I:"I" H s)(h:H p=!(.lst xs))
  (O:s.heap.get? p=some {cls:=.type "list",data:=.seq its.toArray n})(B:f {cls:=.type "list",data:=.seq its.toArray n}={cls:=.type "list",data:=.seq its'.toArray z})(r:Vals ys its')(hz:ys[1]<=sizeLine)(t) :
  "I" (upd H p (.lst ys)) {s with heap:=s.heap.update p f,toks:=t}:=by
 have e:(s.heap.update p f).get? p=some {cls:=.type "list",data:=.seq its'.toArray z}:=by
  rw[f9 f O (by rw[B]<;>rfl),B]
 refine I.write (x:=p) (e:=p) (by rw[h];trivial) (.inl rfl) (λb u hb q=>(tR _ _ (tm hb)).trans q) #[_,e] ?_
 exact#[hz,its',z,r,e]
def GH:V->V->V->Hp->(Hp->Prop)->Prop:=λo i v H Q=>∃ p xs k j,o=.ref p/\i=.int k/\H p=!(.lst xs)/\ixN xs[1] k=!j/\Q (upd H p (.lst (xs.set j v)))
def GI:PSet X GH:=by
 intro pins s σ H o i v ov iv u Q I ro ri rv h;obtain⟨p,xs,k,j,rfl,rfl,hp,hj,q⟩:=h;cases ro;obtain⟨t,rfl⟩:=ri;obtain⟨its,n,r,ho,hz⟩:=I.lst hp;obtain⟨h1,h2,h3,h4⟩:=WC hj;have hl:=r[1];have hn:=k9;have I':"I" (upd H p (.lst (xs.set j v))) {s with heap:=s.heap.update p (Obj.mapSeq (·.setIfInBounds j u))} :=
  I.lstUpd hp ho (GG its n j u) (r.set rv j) (by rw[bD];exact hz) s.toks
 by_cases h0:0<=k
 .have hk:k.toNat=j:=by
   rw[seqIndex_of h0 h4]at h1;exact tH h1
  exact PySem.W.ki_setAt ho h0 "" (by rw[gZ,<- hl];exact h4) (by rw[hk];exact#[_,I',q])
 have hk:(k+(its.toArray.size:Int)).toNat=j:=by
  rw[seqIndex_neg "" h3]at h1
  rw[gZ,<- hl];exact tH h1
 exact PySem.W.ki_setBack ho "" (by rw[gZ,<- hl];exact h3) "" (by rw[hk];exact#[_,I',q])
def GJ(lo hi)(n):(sliceBounds lo hi none n).1=(HT.sIx n 0 lo)/\(sliceBounds lo hi none n).2.1=(HT.sIx n n hi)/\(sliceBounds lo hi none n).2.2=1:=by
 refine#[?_,?_,rfl]
 .cases lo with
  | none=>simp[sliceBounds,HT.sIx]
  | some i =>
   simp only[sliceBounds,HT.sIx,Option.getD_none,show(1:Int)>0 by decide,dz]
   by_cases h:i<0
   .simp only[h,dz]<;>lia
   simp only[h,cK]<;>lia
 cases hi with
 | none=>simp[sliceBounds,HT.sIx]
 | some i =>
  simp only[sliceBounds,HT.sIx,Option.getD_none,show(1:Int)>0 by decide,dz]
  by_cases h:i<0
  .simp only[h,dz]<;>lia
  simp only[h,cK]<;>lia
def GK(its:List aa)(lo hi):slicePick its.toArray lo hi none=((its.drop (HT.sIx its[1] 0 lo)).take (HT.sIx its[1] its[1] hi-HT.sIx its[1] 0 lo)).toArray:=by
 obtain⟨h1,h2,h3⟩:=GJ lo hi its.toArray.size
 delta slicePick
 rw[h1,h2,h3];simp only[sliceRange_one,pick_run,gZ]<;>rfl
def GL(K:Frag):V->Option Int->Option Int->Hp->VK->Prop:=λx lo hi H Q=>∃ a xs,x=.ref a/\SqL K H a xs/\∀ p,H p=none->Q (.ref p) (upd H p (.lst (wC xs lo hi)))
def GO:SlR X (GL X.K):=by
 intro pins s σ H x v vl vu lo hi sl Q I rx hs pl pu h;obtain⟨a,xs,rfl,hx,q⟩:=h;cases rx;obtain⟨its,r,ht,hz⟩:=I.list hx;have z:=r[1];refine#["list",_,slot_list_getitem.lookup,ht.isList.typeIs,?_];refine wpAny_getItem_list_slice ht.isList hs pl pu .none "s" ?_ (by rw[gZ]<;>lia)
 rw[GK,<- z];refine#[.ref s[0],_,I.laid (t':=s.toks) (o:=.lst (wC xs lo hi)) (λb ob q=>gy _ q) (gE _) ?_,rfl,q _ (I.hok.fresh (gE _))]
 exact#[fw (WB xs lo hi) hz,_,0,(r.drop (HT.sIx xs[1] 0 lo)).take (HT.sIx xs[1] xs[1] hi-HT.sIx xs[1] 0 lo),gN _ rfl]
def GP:yj X (.builtin "len") (λxs H Q=>∃ p ys,xs=[.ref p]/\(SqL X.K H p ys\/SqT X.K H p ys)/\Q (.int ys[1]) H):=by
 intro pins s σ H xs us Q I r h;obtain⟨p,ys,rfl,hq,q⟩:=h;obtain⟨u,rfl,rx⟩:=JX r;cases rx;have hn:=k9;rcases hq with hq|hq
 .obtain⟨its,r',pl,hz⟩:=I.list hq;have z:=r'[1];exact Calls.call_len_list pl.isList (by simp only[gZ]<;>lia) #[.int ys[1],H,I.tok _,#[s.toks+1,by rw[gZ,z]],q]
 obtain⟨its,r',pl,hz⟩:=I.tuple hq;have z:=r'[1];exact len_tuple pl (by simp only[gZ]<;>lia) #[.int ys[1],H,I.tok _,#[s.toks+1,by rw[gZ,z]],q]
def GQ:yj X (.type "list") (λxs H Q=>∃ p ys,xs=[.ref p]/\(SqL X.K H p ys\/SqT X.K H p ys)/\∀ l,H l=none->Q (.ref l) (upd H l (.lst ys))):=by
 intro pins s σ H xs us Q I r h;obtain⟨p,ys,rfl,hq,q⟩:=h;obtain⟨u,rfl,rx⟩:=JX r;cases rx;have fin:∀(its:List aa),Vals ys its->ys[1]<=sizeLine->∀(h':Heap) (c':Nat),(∀ b o',s.heap.get? b=!o'->h'.get? b=!o') ->
   h'.get? s[0]=some {cls:=.type "list",dict:=none,data:=.seq its.toArray c',slots:=#[]}->EP X pins σ Q (.ref s[0]) {s with heap:=h'}:=λits r' hz h' c' kp e =>
  #[.ref s[0],_,I.laid (t':=s.toks) kp (gE _) (show ObjOk X.prog X.w _ h' _ (.lst ys)from#[hz,its,c',r',e]),rfl,q _ (I.hok.fresh (gE _))]
 rcases hq with hq|hq
 .obtain⟨its,r',pl,hz⟩:=I.list hq;have z:=r'[1];obtain⟨o,ho,hc,n,hd⟩:=pl.isList;exact call_list_seq p (.inl rfl) ho hc hd (λh' c' kp e=>fin its r' hz h' c' kp e) (by simp only[gZ]<;>lia)
 obtain⟨its,r',pl,hz⟩:=I.tuple hq;have z:=r'[1];obtain⟨o,ho,hc,n,hd⟩:=pl;exact call_list_seq p (.inr rfl) ho hc hd (λh' c' kp e=>fin its r' hz h' c' kp e) (by simp only[gZ]<;>lia)
def GR:yj X (.type "tuple") (λxs H Q=>∃ p ys,xs=[.ref p]/\((SqL X.K H p ys/\∀ l,H l=none->Q (.ref l) (upd H l (.tup ys)))\/(SqT X.K H p ys/\Q (.ref p) H))):=by
 intro pins s σ H xs us Q I r h;obtain⟨p,ys,rfl,h⟩:=h;obtain⟨u,rfl,rx⟩:=JX r;cases rx;rcases h with⟨hq,q⟩|⟨hq,q⟩
 .obtain⟨its,r',pl,hz⟩:=I.list hq;have z:=r'[1];refine call_tuple_list pl.isList (λh' kp=>?_) (by simp only[gZ]<;>lia)
  have I1:"I" H {s with heap:=h'}:=I.kept (t':=s.toks) kp;have I2:"I" (upd H h'.objs.size (.tup ys)) {s with heap:=h'.push {cls:=.type "tuple",data:=.seq its.toArray}} :=
   I1.laid (t':=s.toks) (λb o e=>gy _ e) (gE _) (show ObjOk X.prog X.w _ _ _ (.tup ys)from#[hz,its,r',IsTup.new _ _])
  exact#[.ref h'.objs.size,_,I2,rfl,q _ (I1.hok.fresh (gE _))]
 obtain⟨its,r',pl,hz⟩:=I.tuple hq;exact call_tuple_same pl #[.ref p,H,I,rfl,q]
def tyV(K:Frag)(T:String)(x:V)(H:Hp):Prop:=match x with
 | .str _=>T="str"
 | .int _=>T="int"
 | .ref p=>(T="list"/\∃ xs,SqL K H p xs)\/(T="tuple"/\∃ o,K.lookup p=!o/\o.cls=.type "tuple"/\o.dict=none) \/
   (T="dict"/\((∃ kvs,H p=!(.dK kvs))\/∃ kvs,H p=!(.dT kvs)))\/(T="set"/\∃ S n,H p=!(.set S n))
 | _=>False
def WD{s:ab}(I:"I" H s)(r:RelV x v)(ty:tyV X.K T x H) :
  s.TypeIs v T/\∀ a,v=.ref a->∃ ob,s.heap.get? a=!ob/\ob.dict=none:=by
 cases x with
 | str z =>
  obtain⟨t,rfl⟩:=r;cases (show T="str" from ty)
  exact#[typeIs_str s z t,λ_ e=>nomatch e]
 | int i =>
  obtain⟨t,rfl⟩:=r;cases (show T="int" from ty)
  exact#[bz s i t,λ_ e=>nomatch e]
 | ref p =>
  cases r;rcases ty with⟨rfl,xs,hq⟩|⟨rfl,o,hk,hc,hd⟩|⟨rfl,hk⟩|⟨rfl,S,n,hk⟩
  .obtain⟨its,_,pl,_⟩:=I.list hq;refine#[pl.isList.typeIs,λa e=>?_]
   cases e;obtain⟨o,n,e,c,hd,_⟩:=pl;exact#[o,e,hd]
  .refine#[#[o,I.kIn p o hk,hc],λa e=>?_]
   cases e;exact#[o,I.kIn _ o hk,hd]
  .have z:∃ o,s.heap.get? p=!o/\o.ExactDict:=by
    rcases hk with⟨kvs,hk⟩|⟨kvs,hk⟩
    .obtain⟨_,_,_,_,o,_,_,e,ex,_⟩:=I.hok p _ hk;exact#[o,e,ex]
    obtain⟨_,_,_,_,o,_,_,e,ex,_⟩:=I.hok p _ hk;exact#[o,e,ex]
   obtain⟨o,e,ex⟩:=z;refine#[#[o,e,ex.1],λa e2=>?_]
   cases e2;exact#[o,e,ex.2.1]
  obtain⟨o,_,_,_,e,ex,_⟩:=I.hok p _ hk;refine#[#[o,e,ex.1],λa e2=>?_]
  cases e2;exact#[o,e,ex.2.1]
 | _=>exact False.elim ty
def tBM0(K:Frag)(T:String)(r:V->List V->Hp->VK->Prop)(to:TE):TE:=λσ H Q=>to σ H λx H1=>tyV K T x H1/\r x [] H1 Q
def tBM(K:Frag)(T:String)(r:V->List V->Hp->VK->Prop)(to:TE)(t:TA):TE:=λσ H Q=>to σ H λx H1=>tyV K T x H1/\t σ H1 λxs H2=>r x xs H2 Q
variable{o e:Expr}{es:List Expr}{to:TE}{t:TA}{name:Str}{apos cpos:Pos}{T id:String}{r:V->List V->Hp->VK->Prop}
def GS(U:PlainAttrs T)(slot:Slot T name id)(O:typeOf (.builtin id)=pure (.type "method_descriptor"))(Y:MtR X id r)(Z:PE X o to)
  (z:(attributeBase o name X.env (eval o X.env)=eval o X.env)["r"])(B:((apos.endLine==cpos.line)=true)["r"]):PE X (.Call (.Attribute o name apos) [] [] cpos) (tBM0 X.K T r to):=by
 intro pins s σ H Q I h;refine wpAny_Call_method0_late z B (thn (Z pins s σ H _ I h) λv s1 #[x,H1,I1,r1,ty,q1]=>?_)
 obtain⟨h1,h2⟩:=WD I1 r1 ty;exact#[T,id,U,slot,O,h1,h2,pT rfl (PySem.evalArgs_none (Y pins s1 σ H1 x [] v [] Q I1 r1 .nil q1))]
def wP(Z:PlainAttrs T)(slot:Slot T name id)(Y:typeOf (.builtin id)=pure (.type "method_descriptor"))(hm:MtR X id r)(ho:PE X o to)(ha:PA X (e::es) t)
  (B:(attributeBase o name X.env (eval o X.env)=eval o X.env)["r"])
  (U:(((backTo cpos (starEach (e::es) X.env)).all (λx=>not x.1)&&(backToKw cpos (keywordEach [] X.env)).all (λx=>x.1.isSome)
   && decide ((e::es)[1]+([]:List Keyword)[1]+(if ([]:List Keyword).isEmpty then 0 else 1)<30))=true)["r"])
  (O:((apos.endLine==cpos.line)=true)["r"]) (hs:(starEach (e::es) X.env=(false,eval e X.env)::starEach es X.env)["r"]) (z:((backTo cpos (starEach es X.env)).any (·.1)=false)["r"]) :
  PE X (.Call (.Attribute o name apos) (e::es) [] cpos) (tBM X.K T r to t):=by
 intro pins s σ H Q I h;refine wpAny_Call_method_late B U O rfl (thn (ho pins s σ H _ I h) λv s1 #[x,H1,I1,r1,ty,q1]=>?_)
 obtain⟨h1,h2⟩:=WD I1 r1 ty;refine#[T,id,Z,slot,Y,h1,h2,?_];have hA:=ha cpos pins s1 σ H1 _ I1 q1;rw[hs]at hA ⊢;refine pT (by show(false||(backTo cpos (starEach es X.env)).any (·.1))=false;rw[z]<;>rfl) (d9 ?_)
 exact thn hA λus s2 #[vs,H2,I2,r2,q2]=>hm pins s2 σ H2 x vs v us Q I2 r1 r2 q2
end
def MtM(X:Cx)(id:String)(r:V->List V->Hp->VK->Prop):Prop :=
 ∀(pins:List (Addr×Obj)) (s:ab) (σ:St) (H:Hp) (x:V) (xs:List V) (v:aa) (us:List aa) (Q:VK),"I" H s->RelV x v->Vals xs us->r x xs H Q ->
  X[3] (call (.builtin id) (v::us)) (EP X pins σ Q) X.xe s
theorem Vals.one:∀{x} {us},Vals [x] us->∃ u,us=[u]/\RelV x u
 | _,_,.cons r .nil=>#[_,rfl,r]
theorem Vals.two:∀{x y} {us},Vals [x,y] us->∃ u v,us=[u,v]/\RelV x u/\RelV y v
 | _,_,_,.cons r (.cons q .nil)=>#[_,_,rfl,r,q]
theorem Vals.zero:∀{us},Vals [] us->us=[]
 | _,.nil=>rfl
def Vals.reverse(h:Vals xs us):Vals xs.reverse us.reverse:=by
 induction h with
 | nil=>exact .nil
 | cons r t ih=>rw[bX,bX];exact Vals.append ih (.cons r .nil)
def Vals.rep(h:Vals xs us):∀ k:Nat,Vals (List.replicate k xs).flatten (List.replicate k us).flatten:=λk=>k.recAux
 (.nil)
 λk IH=>by
  rw[pP,pP,tP,tP];exact Vals.append h (IH)
section
variable{X:Cx}{pins:List (Addr×Obj)}{σ:St}{H:Hp}{s:ab}{l b:Addr}{xs ys zs:List V}
def Inv.lset{its its':List aa}{n:Nat}{f:Array aa->Array aa}{t':Nat}(I:"I" H s)(z:H l=!(.lst xs))
  (e:s.heap.get? l=some {cls:=.type "list",data:=.seq its.toArray n})(B:f its.toArray=its'.toArray)(O:Vals ys its')(hz:ys[1]<=sizeLine) :
  "I" (upd H l (.lst ys)) {s with heap:=s.heap.update l (Obj.mapSeq f),toks:=t'}:=by
 have q:=PySem.IsL.update e f;rw[B]at q;refine I.write (x:=l) (e:=l) (by rw[z];exact trivial) (.inl rfl) (λb' u hb hu=>(tR s.heap (Obj.mapSeq f) (tm hb)).trans hu) #[_,q] ?_
 exact#[hz,its',_,O,q]
def Inv.lstM(I:"I" H s)(B:H l=!(.lst xs)):xs[1]<=sizeLine/\∃ its n,Vals xs its/\xs[1]=its[1]/\s.heap.get? l=some {cls:=.type "list",data:=.seq its.toArray n}:=by
 obtain⟨z,its,n,r,e⟩:=I.hok l _ B;exact#[z,its,n,r,r[1],e]
def GT(h:n<=sizeLine):Builtin.List.listTooLong n=false:=by
 delta Builtin.List.listTooLong
 exact t9 ""
end
section
variable{X:Cx}
def GU:V->List V->Hp->VK->Prop:=λx vs H Q=>∃ l xs y,x=.ref l/\vs=[y]/\H l=!(.lst xs)/\xs[1]<sizeLine/\Q .non (upd H l (.lst (xs++[y])))
def xD:MtM X "list.append" GU:=by
 intro pins s σ H x vs v us Q I rx rv h;obtain⟨l,xs,y,rfl,rfl,hH,hz,q⟩:=h;cases rx;obtain⟨u,rfl,ru⟩:=rv.one;obtain⟨z,its,n,r,hl,e⟩:=I.lstM hH;refine bA F.slot_list_append #[_,e,rfl] F.entry_list_append (F.args_list_append_2 _ _) (PySem.list_append l its.toArray n u (by rw[gZ];lia)) #[e,?_]
 refine#[.non,_,I.lset (its':=its++[u]) hH e "s" (r.append (.cons ru .nil)) ?_,rfl,q]
 rw[gH,fU];lia
def GV:V->List V->Hp->VK->Prop:=λx vs H Q=>∃ l b xs zs,x=.ref l/\vs=[.ref b]/\H l=!(.lst xs)/\H b=!(.lst zs)/\xs[1]+zs[1]<=sizeLine/\Q .non (upd H l (.lst (xs++zs)))
def GW:MtM X "list.extend" GV:=by
 intro pins s σ H x vs v us Q I rx rv h;obtain⟨l,b,xs,zs,rfl,rfl,hH,hB,hz,q⟩:=h;cases rx;obtain⟨u,rfl,ru⟩:=rv.one;cases ru;obtain⟨z,its,n,r,hl,e⟩:=I.lstM hH;obtain⟨z2,B,n2,r2,U,e2⟩:=I.lstM hB;have hsz:its.toArray.size+B.toArray.size<=sizeLine:=by rw[gZ,gZ];lia
 have O:¬ (not its.toArray.isEmpty&&Builtin.List.listTooLong (its.toArray.size+B.toArray.size))=true:=by
  rw[GT hsz,Bool.and_false];exact pZ
 refine bA F.slot_list_extend #[_,e,rfl] F.entry_list_extend (F.args_list_extend_2 _ _)
  (AutoSeq1.list_extend_list_list_0 l its.toArray n b B.toArray n2 O (by rw[gZ];lia) "") #[e,e2,?_]
 refine#[.non,_,I.lset (its':=its++B) hH e "s" (r.append r2) ?_,rfl,q]
 rw[gH]
 omega
def GX:V->List V->Hp->VK->Prop:=λx vs H Q=>∃ l xs,x=.ref l/\vs=[]/\H l=!(.lst xs)/\Q .non (upd H l (.lst []))
def GY:MtM X "list.clear" GX:=by
 intro pins s σ H x vs v us Q I rx rv h;obtain⟨l,xs,rfl,rfl,hH,q⟩:=h;cases rx;have B:=rv.zero;subst B;obtain⟨z,its,n,r,hl,e⟩:=I.lstM hH;refine bA F.slot_list_clear #[_,e,rfl] F.entry_list_clear (F.args_list_clear_1 _) (AutoSeq1.list_clear_list_0 l its.toArray n (by rw[gZ];lia)) #[e,?_]
 exact#[.non,_,I.lset (its':=[]) (ys:=[]) hH e rfl .nil (tK _),rfl,q]
end
section
variable{prog:ag}{w:World}{A:aj}{E:aa->ab->Prop}{s:ab}
set_option maxRecDepth 100000 in
end
section
variable{X:Cx}
end
section
variable{κ:Type} [DecidableEq κ]
def js(kvs:List (κ×V))(k:κ):Option V:=(kvs.find? λkv=>decide (kv.1=k)).map (·.2)
def jN(kvs:List (κ×V))(k:κ)(v:V):List (κ×V) :=
 if (kvs.any λkv=>decide (kv.1=k))=true then kvs.map (λkv=>if kv.1=k then(kv.1,v)else kv)else kvs++[(k,v)]
def xE{p:κ×V}{k:κ}(e:p.1=k):js (p::r) k=!p.2:=by simp[js,cZ,e]
def xF{p:κ×V}{k:κ}(e:¬ p.1=k):js (p::r) k=js r k:=by simp[js,cZ,e]
def WE(k:κ):∀ kvs:List (κ×V),(kvs.any λkv=>decide (kv.1=k))=(js kvs k).isSome:=λr=>r.rec
 (rfl)
 λp r IH=>by
  rw[bx];by_cases e:p.1=k
  .simp only[xE e,tL e,Bool.true_or,Option.isSome_some]
  rw[xF e,t9 e,Bool.false_or];exact IH
def JZ(kvs)(k:κ)(v):(jN kvs k v)[1]<=kvs[1]+1:=by
 delta jN
 split
 .rw[gj];lia
 rw[gH,gQ,fQ];lia
def GZ{k:κ}(v)(h:js kvs k=none):jN kvs k v=kvs++[(k,v)]:=by
 delta jN
 rw[WE,h];exact if_neg "d"
def RelO.isSome_eq(r:RelO o u):o.isSome=u.isSome:=by
 cases o with
 | none=>cases u with
  | none=>rfl
  | some _=>exact(show False from r).elim
 | some _=>cases u with
  | none=>exact(show False from r).elim
  | some _=>rfl
def RelO.getD{o:Option V}{u:Option aa}(r:RelO o u)(z:RelV d d'):RelV (o.getD d) (u.getD d'):=by
 cases o with
 | none=>cases u with
  | none=>exact z
  | some _=>exact(show False from r).elim
 | some _=>cases u with
  | none=>exact(show False from r).elim
  | some _=>exact r
def KV.val(r:KV kvs vs)(k:κ):RelO (js kvs k) (valueAt vs k):=by
 delta KV at r
 induction r with
 | nil=>exact True.intro
 | @cons p q ps qs h t ih =>
  obtain⟨h1,h2⟩:=h;by_cases e:p.1=k
  .have e':q.1=k:=h1.symm.trans e;have b:valueAt (q::qs) k=!q.2:=by simp[valueAt,cZ,e']
   rw[xE e,b];exact h2
  have e':¬ q.1=k:=λz=>e (h1.trans z)
  have b:valueAt (q::qs) k=valueAt qs k:=by simp[valueAt,cZ,e']
  rw[xF e,b];exact ih
def KV.any(r:KV kvs vs)(k:κ):(kvs.any λkv=>decide (kv.1=k))=vs.any λkv=>decide (kv.1=k):=by
 delta KV at r
 induction r with
 | nil=>rfl
 | cons h t ih=>rw[bx,bx,ih,h.1]
def KV.repl{kvs:List (κ×V)}{vs:List (κ×aa)}(r:KV kvs vs)(k)(B:RelV y u) :
  KV (kvs.map λkv=>if kv.1=k then(kv.1,y)else kv) (vs.map λkv=>if kv.1=k then(kv.1,u)else kv):=by
 delta KV at r ⊢
 induction r with
 | nil=>exact .nil
 | @cons p q ps qs h t ih =>
  rw[gW,gW];refine .cons ?_ ih;obtain⟨h1,h2⟩:=h;by_cases e:p.1=k
  .rw[if_pos e,if_pos (h1.symm.trans e)];exact#[h1,B]
  rw[if_neg e,if_neg λz=>e (h1.trans z)];exact#[h1,h2]
def KV.put(r:KV kvs vs)(k:κ)(z:RelV y u):KV (jN kvs k y) (stored vs k u):=by
 delta jN stored
 rw[r.any k];by_cases e:(vs.any λkv=>decide (kv.1=k))=true
 .rw[if_pos e,if_pos e];exact r.repl k z
 rw[if_neg e,if_neg e];exact Paired.snoc r #[rfl,z]
def KV.keys{vs:List (κ×aa)}(r:KV kvs vs):kvs.map (·.1)=vs.map (·.1):=by
 delta KV at r
 induction r with
 | nil=>rfl
 | cons h t ih=>rw[gW,gW,ih,h.1]
def KV.length{vs:List (κ×aa)}(r:KV kvs vs):kvs[1]=vs[1]:=dG r
end
def kc(r:RelV (kV k) u):(jk P w).is k u=true:=by
 cases k with
 | inl i=>obtain⟨t,e⟩:=(show ∃ t,u=Value.int i t from r);subst e;exact Wa P w i t
 | inr x=>obtain⟨t,e⟩:=(show ∃ t,u=Value.str x t from r);subst e;exact Wb P w x t
theorem Z0:∀{ks} {us},Vals (ks.map kV) us->ItemsAre (jk P w) ks us
 | [],_,r=>by rw[c9]at r;cases r;exact .nil
 | k::ks,_,r=>by
  rw[gW]at r;cases r with
  | cons h t=>exact .cons (kc h) (Z0 t)
abbrev KT(H:Hp):List (List Key×V)->List (List Key×Addr×aa)->Prop:=Paired λp q=>p.1=q.1/\H q.2.1=!(.tup (p.1.map kV))/\RelV p.2 q.2.2
def KT.val(r:KT H kvs xs)(k):RelO (js kvs k) ((atKey xs k).map (·.2)):=by
 induction r with
 | nil=>exact True.intro
 | @cons p q ps qs h t ih =>
  obtain⟨h1,_,h2⟩:=h;by_cases e:p.1=k
  .have e':q.1=k:=h1.symm.trans e;have b:atKey (q::qs) k=!q.2:=by simp[atKey,cZ,e']
   rw[xE e,b];exact h2
  have e':¬ q.1=k:=λz=>e (h1.trans z)
  have b:atKey (q::qs) k=atKey qs k:=by simp[atKey,cZ,e']
  rw[xF e,b];exact ih
def KT.repl{kvs:List (List Key×V)}{xs:List (List Key×Addr×aa)}(r:KT H kvs xs)(k)(B:RelV y u) :
  KT H (kvs.map λkv=>if kv.1=k then(kv.1,y)else kv) (xs.map (putAt k u)):=by
 induction r with
 | nil=>exact .nil
 | @cons p q ps qs h t ih =>
  rw[gW,gW];refine .cons ?_ ih;obtain⟨h1,h2,h3⟩:=h
  delta putAt
  by_cases e:p.1=k
  .rw[if_pos e,if_pos (h1.symm.trans e)];exact#[h1,h2,B]
  rw[if_neg e,if_neg λz=>e (h1.trans z)];exact#[h1,h2,h3]
def KT.put{H:Hp}(r:KT H kvs xs)(k)(B:H b=!(.tup (k.map kV)))(z:RelV y u) :
  KT H (jN kvs k y) (storedH xs k b u):=by
 have e:(kvs.any λkv=>decide (kv.1=k))=(atKey xs k).isSome:=by
  rw[WE,(r.val k).isSome_eq,Option.isSome_map]
 delta jN storedH
 rw[e];by_cases q:(atKey xs k).isSome=true
 .rw[if_pos q,if_pos q];exact r.repl k z
 rw[if_neg q,if_neg q];exact Paired.snoc r #[rfl,B,z]
def KT.keeps{H H':Hp}(r:KT H kvs xs)(B:∀ b ys,H b=!(.tup ys)->H' b=!(.tup ys)):KT H' kvs xs :=
 Paired.mapP r λ_ _ z=>#[z.1,B _ _ z.2.1,z.2.2]
section
variable{P:ag}{w:World}{H:Hp}{h:Heap}{a:Addr}
def WF(ok:HOk P w H h)(e:Rd H a u):ObjOk P w H h a u:=e.ok ok
def Q1(z:HOk P w H h)(e:Rd H a (.dK kvs)):kvs[1]<=sizeLine/\(a==sysModules)=false/\∃ vs,KV kvs vs/\h.DictOf (jk P w) a vs :=
 show ObjOk P w H h a (.dK kvs)from WF z e
def T0(z:HOk P w H h)(e:H a=!(.dK kvs)):kvs[1]<=sizeLine/\(a==sysModules)=false/\∃ vs,KV kvs vs/\h.DictOf (jk P w) a vs:=Q1 z (.inl e)
def Q2(z:HOk P w H h)(e:H a=!(.tup (ks.map kV))):(tupleKind (jk P w)).is h ks a:=by
 obtain⟨_,its,r,o,h1,h2,n,h3⟩:=(show ObjOk P w H h a (.tup (ks.map kV))from z a _ e)
 exact#[o,its.toArray,n,h1,h2,h3,by simpa using Z0 r]
def Q3(O:HOk P w H h)(e:Rd H a (.dT kvs)):kvs[1]<=sizeLine/\(a==sysModules)=false /\
  ∃ xs,KT H kvs xs/\h.DictOfH (tupleKind (jk P w)) a xs:=by
 obtain⟨z,y,xs,r,o,es,ep,h1,h2,h3,h4,h5⟩:=(show ObjOk P w H h a (.dT kvs)from WF O e)
 refine#[z,y,xs,r,o,es,ep,h1,h2,h3,h4,λx hx=>?_,h5]
 have B:∀{l:List (List Key×V)} {m:List (List Key×Addr×aa)},KT H l m->∀ x∈m,(tupleKind (jk P w)).is h x.1 x.2.1:=by
  intro l m q
  induction q with
  | nil=>intro x hx;exact nomatch hx
  | @cons p q ps qs hq t ih =>
   intro x hx;rcases gG.mp hx with e|hx
   .subst e;exact Q2 O (by rw[<- hq.1];exact hq.2.1)
   exact ih x hx
 exact B r x hx
def WG(z:HOk P w H h)(e:H a=!(.dT kvs)):kvs[1]<=sizeLine/\(a==sysModules)=false /\
  ∃ xs,KT H kvs xs/\h.DictOfH (tupleKind (jk P w)) a xs:=Q3 z (.inl e)
end
def DGet(H:Hp)(a:Addr)(y:V)(r:Option V):Prop :=
 (∃ kvs k,Rd H a (.dK kvs)/\y=kV k/\r=js kvs k)\/∃ kvs k b,Rd H a (.dT kvs)/\y=.ref b/\H b=!(.tup (k.map kV))/\r=js kvs k
def DPut(H:Hp)(a:Addr)(y v:V)(H':Hp):Prop :=
 (∃ kvs k,H a=!(.dK kvs)/\y=kV k/\kvs[1]<sizeLine/\H'=upd H a (.dK (jN kvs k v))) \/
 ∃ kvs k b,H a=!(.dT kvs)/\y=.ref b/\H b=!(.tup (k.map kV))/\kvs[1]<sizeLine/\H'=upd H a (.dT (jN kvs k v))
def DGet.t{H:Hp}{k:List Key}(e:H a=!(.dT kvs))(z:H b=!(.tup (k.map kV))):DGet H a (.ref b) (js kvs k):=.inr #[kvs,k,b,.inl e,rfl,z,rfl]
theorem DPut.k{k:Key}{v:V}(e:H a=!(.dK kvs))(z:kvs[1]<sizeLine):DPut H a (kV k) v (upd H a (.dK (jN kvs k v))):=.inl #[kvs,k,e,rfl,z,rfl]
def DPut.t{H:Hp}{kvs:List (List Key×V)}{k:List Key}(e:H a=!(.dT kvs))(z:H b=!(.tup (k.map kV)))(B:kvs[1]<sizeLine) :
  DPut H a (.ref b) v (upd H a (.dT (jN kvs k v))):=.inr #[kvs,k,b,e,rfl,z,B,rfl]
section
variable{X:Cx}{pins:List (Addr×Obj)}{σ:St}{H:Hp}{s:ab}{a:Addr}{y v:V}{u r:aa}{o:Option V}{A:aj}{E:aa->ab->Prop}
def Inv.big(I:"I" H s):sysModules<s[0]:=by
 have h:mainGlobals<s[0]:=(I.mod.glob.keeps I.bk).lt;exact bL "d" h
def Z1{h':Heap}{t':Nat}(I:"I" H s)(O:Mut (H a))(U:Heap.SameBut a s.heap h')(Y:∃ q,h'.get? a=!q)(B:ObjOk X.prog X.w (upd H a ob) h' a ob) :
  "I" (upd H a ob) {s with heap:=h',toks:=t'} :=
 I.write (x:=a) (e:=a) O (.inl rfl) (λb q hb z=>(U.2 b hb).trans z) Y B
def T1{kvs:List (Key×V)}(z:kvs[1]<=sizeLine)(hd:(a==sysModules)=false)(B:KV kvs vs)(dd:h'.DictOf (jk P w) a vs) :
  ObjOk P w H' h' a (.dK kvs):=#[z,hd,vs,B,dd]
def T3(Z:A.units+1<cLine)(I:"I" H s)(g:DPut H a y v H')(U:RelV y u)(Y:RelV v r)(h:∀ s',"I" H' s'->Q () s') :
  wpAny (model X.prog X.w) A (setItem (.ref a) u r) Q E s:=by
 rcases g with⟨kvs,k,e,ey,l,eH⟩|⟨kvs,k,b,e,ey,eb,l,eH⟩
 .subst ey eH;obtain⟨z,hd,vs,B,dd⟩:=T0 I.hok e;have hz:vs[1]<=sizeLine:=by rw[<- B[1]];exact z
  have hl:(jN kvs k v)[1]<=sizeLine:=by have:=JZ kvs k v;lia
  refine wpAny_setItem_pairs (hsz:=hz) (kc U) dd λh' O hs=>h _ ?_
  have he:∃ q,h'.get? a=!q:=let #[q,_,_,hq,_]:=O;#[q,hq]
  exact Z1 I (by rw[e];exact True.intro) hs he (T1 hl hd (B.put k Y) O)
 subst ey eH;cases (show u=Value.ref b from U)
 obtain⟨z,hd,xs,B,dd⟩:=WG I.hok e;have hz:xs[1]<=sizeLine:=by rw[<- dG B];exact z
 have hl:(jN kvs k v)[1]<=sizeLine:=by have:=JZ kvs k v;lia
 refine wpAny_setItem_heap (hsz:=hz) (dI Z) (Q2 I.hok eb) dd λh' O hs=>h _ ?_
 obtain⟨q,es,ep,hq,h2,h3,h4,_,h5⟩:=O;refine Z1 I (by rw[e];exact True.intro) hs #[q,hq] #[hl,hd,_,(B.put k eb Y).keeps λc ys ec=>?_,q,es,ep,hq,h2,h3,h4,h5]
 rw[qu (Wc ec e λz=>nomatch z)]
 exact ec
variable{kvs:List (Key×V)}{k:Key}
end
def T4(td ty tv:TE):TS:=λD σ H=>tv σ H λv H1=>td σ H1 λx H2=>ty σ H2 λy H3=>∃ a H4,x=.ref a/\DPut H3 a y v H4/\D.nx σ H4
section
variable{X:Cx}{o i e value:Expr}{pos pos' tpos:Pos}{td ty tv:TE}
def Z2(z:X.A.units+1<cLine)(B:PE X o td)(hi:PE X i ty)(O:PE X value tv)(U:swapsWith value (!(.Subscript o i pos')) pos.line X.env=pure false) :
  PS X (.Assign [.Subscript o i pos'] value pos) (T4 td ty tv):=by
 intro pins s σ H D I h;refine wpAny_Assign_Subscript (thn (O pins s σ H _ I h) λr s1 #[v,H1,I1,rv,q1]=>thn (B pins s1 σ H1 _ I1 q1) λu s2 #[x,H2,I2,rx,q2]=>thn (hi pins s2 σ H2 _ I2 q2) λiv s3 #[y,H3,I3,ry,a,H4,ex,g,q3]=>?_) U
 subst ex;obtain rfl:u=Value.ref a:=rx;exact T3 z I3 g ry rv λs4 I4=>#[σ,H4,I4,q3]
end
def T5(h:Heap)(z:sysModules<h.objs.size):ObjOk P w H (h.push {cls:=.type "dict",data:=.dict #[]}) h.objs.size (.dK []) :=
 #[tK _,po.mpr (tm (t7 z)),[],.nil,Heap.DictOf.new h]
def T6(h:Heap)(z:sysModules<h.objs.size):ObjOk P w H (h.push {cls:=.type "dict",data:=.dict #[]}) h.objs.size (.dT []) :=
 #[tK _,po.mpr (tm (t7 z)),[],.nil,_,#[],0,gN _ rfl,#[rfl,rfl,rfl],rfl,rfl,bS]
def T7:TE:=λ_ H Q=>∀ p,H p=none->Q (.ref p) (upd H p (.dK []))
def T8:TE:=λ_ H Q=>∀ p,H p=none->Q (.ref p) (upd H p (.dT []))
section
variable{X:Cx}{pos:Pos}
def T9:PE X (.Dict [] [] pos) T7:=λpins s σ H Q I h =>
 wpAny_Dict_empty #[.ref s[0],_,I.laid (a:=s[0]) (o:=.dK []) (t':=s.toks) (λ_ _ q=>gy _ q) (gE _) (T5 s.heap I.big),rfl,h _ (I.hok.fresh (gE _))]
def Ta:PE X (.Dict [] [] pos) T8:=λpins s σ H Q I h =>
 wpAny_Dict_empty #[.ref s[0],_,I.laid (a:=s[0]) (o:=.dT []) (t':=s.toks) (λ_ _ q=>gy _ q) (gE _) (T6 s.heap I.big),rfl,h _ (I.hok.fresh (gE _))]
end
structure M1(X:Cx)(o:Expr)(m:Str)(apos:Pos)(e:Expr)(cpos:Pos):Prop where
 base:attributeBase o m X.env (eval o X.env)=eval o X.env
 few:((backTo cpos (starEach [e] X.env)).all (λx=>not x.1)&&(backToKw cpos (keywordEach [] X.env)).all (λx=>x.1.isSome)
  && decide (([e]:List Expr)[1]+([]:List Keyword)[1]+(if ([]:List Keyword).isEmpty then 0 else 1)<30))=true
 line:(apos.endLine==cpos.line)=true
 trees:backTo cpos (starEach [e] X.env)=[(false,eval e X.env)]
structure M2(X:Cx)(o:Expr)(m:Str)(apos:Pos)(e f:Expr)(cpos:Pos):Prop where
 base:attributeBase o m X.env (eval o X.env)=eval o X.env
 few:((backTo cpos (starEach [e,f] X.env)).all (λx=>not x.1)&&(backToKw cpos (keywordEach [] X.env)).all (λx=>x.1.isSome)
  && decide (([e,f]:List Expr)[1]+([]:List Keyword)[1]+(if ([]:List Keyword).isEmpty then 0 else 1)<30))=true
 line:(apos.endLine==cpos.line)=true
 trees:backTo cpos (starEach [e,f] X.env)=[(false,eval e X.env),(false,eval f X.env)]
def IsD(H:Hp)(a:Addr):Prop:=(∃ kvs,Rd H a (.dK kvs))\/∃ kvs,Rd H a (.dT kvs)
def Tb{s:ab}(I:"I" H s)(d:IsD H a) :
  s.TypeIs (.ref a) "dict"/\(∀ b,Value.ref a=.ref b->∃ ob,s.heap.get? b=!ob/\ob.dict=none)/\(a==sysModules)=false:=by
 rcases d with⟨kvs,e⟩|⟨kvs,e⟩
 .obtain⟨_,hd,vs,_,dd⟩:=Q1 I.hok e;refine#[dd.typeIs,λb q=>?_,hd]
  cases q;obtain⟨ob,_,_,h1,h2,_⟩:=dd;exact#[ob,h1,h2.2.1]
 obtain⟨_,hd,xs,_,dd⟩:=Q3 I.hok e;refine#[dd.typeIs,λb q=>?_,hd]
 cases q;obtain⟨ob,_,_,h1,h2,_⟩:=dd;exact#[ob,h1,h2.2.1]
section
variable{X:Cx}{pins:List (Addr×Obj)}{σ:St}{H:Hp}{s:ab}{a:Addr}{y d:V}{u r:aa}{o:Option V}{A:aj}{E:aa->ab->Prop}
def Tc(Y:A.units+1<cLine)(I:"I" H s)(g:DGet H a y o)(O:RelV y u)(U:RelV d r)(h:∀ w' s',"I" H s'->RelV (o.getD d) w'->Q w' s') :
  wpAny (model X.prog X.w) A (call (.builtin "dict.get") [.ref a,u,r]) Q E s:=by
 rcases g with⟨kvs,k,e,ey,l⟩|⟨kvs,k,b,e,ey,eb,l⟩
 .subst ey;obtain⟨z,hd,vs,B,dd⟩:=Q1 I.hok e;refine bg fV dd.typeIs cU (dJ _ _ _) (meets_dict_get_default (jk X.prog X.w) a (kc O) hd r) #[_,dd.mapOf,h _ _ (I.tok _) ?_];rw[l];exact(B.val k).getD U
 subst ey;cases (show u=Value.ref b from O)
 obtain⟨z,hd,xs,B,dd⟩:=Q3 I.hok e;refine bg fV dd.typeIs cU (dJ _ _ _) (meetsH_dict_get_default (tupleKind (jk X.prog X.w)) a b hd r) #[dI Y,k,xs,Q2 I.hok eb,dd,h _ _ (I.tok _) ?_];rw[l];exact(B.val k).getD U
end
def Td(td ty tx:TE):TE:=λσ H Q=>td σ H λx H1=>∃ a,x=.ref a/\IsD H1 a/\ty σ H1 λy H2=>tx σ H2 λz H3=>∃ o,DGet H3 a y o/\Q (o.getD z) H3
section
variable{X:Cx}{o e f:Expr}{apos cpos:Pos}{td ty tx:TE}
def Te(O:X.A.units+1<cLine)(U:PE X o td)(Y:PE X e ty)(Z:PE X f tx)(m:M2 X o "get" apos e f cpos):PE X (.Call (.Attribute o "get" apos) [e,f] [] cpos) (Td td ty tx):=by
 intro pins s σ H Q I h;refine bY m.base m.few m.line cL fV bi (thn (U pins s σ H _ I h) λu s1 #[x,H1,I1,rx,a,ex,d,q1]=>?_)
 subst ex;obtain rfl:u=Value.ref a:=rx;obtain⟨t1,t2,_⟩:=Tb I1 d;refine#[t1,t2,?_];rw[m.trees];refine pT rfl (d9 (t5 (thn (Y pins s1 σ H1 _ I1 q1) λiv s2 #[y,H2,I2,ry,q2] =>
  t5 (thn (Z pins s2 σ H2 _ I2 q2) λfv s3 #[z,H3,I3,rz,ov,g,q3]=>tN ?_))))
 exact Tc O I3 g ry rz λw' s4 I4 B=>#[_,H3,I4,B,q3]
variable{pins:List (Addr×Obj)}{σ:St}{H:Hp}{s:ab}{a:Addr}{kvs:List (Key×V)}{A:aj}{E:aa->ab->Prop}
variable{y:V}{u:aa}
end
end L2
namespace Att
open PySem PySem.W PySem.Calls PyProof.Rows
def Tf:∀ ns vs,WellAll P h vs (ns.map WData.int)->IntsAre vs ns:=by
 intro ns
 induction ns with
 | nil =>
  intro vs w;rw[c9]at w;cases w;exact .nil
 | cons n ns ih =>
  intro vs w;rw[gW]at w;cases w with
  | cons a b =>
   cases a;exact .cons _ _ (ih _ b)
def Tg{l:OpenLaw}{n:Nat}(Y:l.most=!n){h:Heap}
  (z:l.row.toRowW.claim.pre args=true)(O:WellAll P h vals args) :
  ∃ a vs ns,vals=[Value.ref a]/\args=[WData.list (ns.map WData.int)]/\h.get? a=some {cls:=.type "list",data:=.seq vs.toArray}/\IntsAre vs ns/\ns[1]<=n:=by
 have U:WShape.hasAll [] args [.list .int]=true:=(pre_splitW z).1;have hc:l.pre.holds [] {args:=args}=true:=(pre_splitW z).2;obtain⟨d,r,rfl,h1,h2⟩:=hasAllW_cons U;obtain rfl:=hasAllW_nil h2;obtain⟨xs,rfl,h3⟩:=hasW_list h1;obtain⟨ns,rfl⟩:=items_int h3;have B:ns[1]<=n:=by
  delta OpenLaw.pre at hc
  have h4:(WTm.not (.lt (.lit (n:Int)[6]) (.len (.arg 0)))).holds [] {args:=[.list (ns.map .int)]}=true:=by
   have h4:=(holds_andW hc).1;rw[Y]at h4;exact h4
  have h5:=condW_of h4 (w_not (w_lt w_lit (w_len_list (w_arg rfl))));rw[gj]at h5;refine Nat.le_of_not_lt λq=>?_
  have q':(n:Int)<((ns[1]:Nat):Int):="o"
  first
   | (rw[tL q']at h5;exact absurd h5 "d")
   | (simp at h5;lia)
 cases O with
 | cons w1 w2 =>
  cases w2;cases w1 with
  | list ho hall=>exact#[_,_,ns,rfl,rfl,ho,Tf ns _ hall,B]
def Th(l:OpenLaw)(args):l.row.toRowW.claim.post args (.bool true) args=true :=
 postW_of (r:=l.row.toRowW) (X:=(true==true))
  (show WShape.has [] (.bool true) .bool=true by first|rfl|decide|simp[WShape.has,WShape.arms,WShape.armsAll])
  (show(WTm.eq .res (.lit (.bool true))).value [] {args:=args,res:=!(.bool true),after:=args}=↑(.bool (true==true))from w_eq_bool (w_res rfl) w_lit) rfl
def attach_call{l:OpenLaw}{n:Nat}{XP:(Str->Option aa)->Heap->Prop}{YP:World->Heap->Prop}{d:DefRec}
  (hn:l.most=!n)(hdf:d.params.defaults=[])
  (call:∀ w s₀ z mg mb fa o pm cd B a vs ns,
   Ground q loose [] XP w s₀ mg mb z.heap->YP w z.heap ->
   z.heap.get? fa=!o->o.data=.func (docDef d.name d.params d.body d.scope pm cd B)->z.heap.CodeRec cd d.name->mg d.name=↑(.ref fa) ->
   z.heap.get? a=some {cls:=.type "list",data:=.seq vs.toArray}->IntsAre vs ns->ns[1]<=n->z.gens=#[] ->
   codeAny (model l.prog w) callerA (.call (.ref fa) #[[.ref a],[]]) (λr s'=>r=.ok (.ret (.bool true))/\OldK z.heap s'.heap/\s'.os=z.os/\AllBare s'.gens) z) :
  WalkO q loose XP YP l.row.toRowW d [] (λf vs=>PySem.call f vs):=by
 intro w s₀ z mg mb G Y fa o pm cd B dV kV ho hd hcd hD hmg hg args h6 as U h7 hrd hwl hlo;obtain rfl:dV=.none:=Dflts.none hD hdf;obtain rfl:kV=.none:=Dflts.noKw hD;obtain⟨a,vs,ns,rfl,rfl,Z,O,h5⟩:=Tg hn U hwl;refine enter_call (codeAny_mono (call w s₀ z mg mb fa o pm cd B a vs ns G Y ho (fd_plain hd) hcd hmg Z O h5 hg) λr s' hq=>?_)
 obtain⟨rfl,h2,h3,h4⟩:=hq;exact#[.inl #[.bool true,.bool true,[],rfl,λ_=>rfl,.bool true,Th l _,λ_=>#[List.Pairwise.nil,λ_ hm=>(nomatch hm)]],h2,h3,h4]
section
variable{prog:ag}{w:World}{A:aj}{E:aa->ab->Prop}{s:ab}{K:Frag}
end
end Att
namespace L2
open PySem PySem.Spec PyProof.Rows
theorem WH:∀{vs} {ns},IntsAre vs ns->Vals (ns.map V.int) vs
 | _,_,.nil=>.nil
 | _,_,.cons n t h=>.cons #[t,rfl] (WH h)
def Only(H:Hp):Prop:=∀ b,H b=none\/∃ o xs,H b=!(.frz o (.lst xs))
def Ti{K:Frag}{mg mb:Str->Option aa}{k:Nat}{sp:Sp}{B:ab}{vs:List aa}{ns:List Int}
  (KX:K.In B.heap)(hns:B.heap.Ns mainGlobals mg)(U:B.heap.Ns builtinsNs mb)(hbb:∀ x:Str,x≠"__name__"->mb x=bootBuiltins x)(h4:B.heap.NoLimit)(hg:B.gens=#[])
  (ha:B.heap.get? a=some {cls:=.type "list",data:=.seq vs.toArray})(hi:IntsAre vs ns)(hl:ns[1]<=sizeLine)(hr:Room k callerA)
  (F:∀ base,K.In base->base.Ns mainGlobals mg->FnOk P w K mg base CX k fa fd [x] sp)(h3:∀ s u,BindsTo s fd #[[u],[]] [(x,u)])
  (hsp:∀ H,Only H->SqL K H a (ns.map V.int)->sp [.ref a] H (λv _=>v=.bl true) λ_ _ _=>False)
  (hCX:∀ H e s',CX [] H B (λ_ _ _=>False) e s'->False) :
  codeAny (model P w) callerA (.call (.ref fa) #[[.ref a],[]]) (λr s'=>r=.ok (.ret (.bool true))/\OldK B.heap s'.heap/\s'.os=B.os/\AllBare s'.gens) B:=by
 have rv:=WH hi;have h5:=hi[1];have Z:∀ H:Hp,Only H->SqL K H a (ns.map V.int)->HOk P w H B.heap->(∀ b,H b≠none->b=a)->(H a≠none->K.lookup a=none) ->
   codeAny (model P w) callerA (.call (.ref fa) #[[.ref a],[]]) (λr s'=>r=.ok (.ret (.bool true))/\OldK B.heap s'.heap/\s'.os=B.os/\AllBare s'.gens) B:=by
  intro H hO hS hok hA hK;have O:∀{b:Addr} {o:Obj},B.heap.get? b=!o->H b=none->(wB B.heap H).get? b=!o:=λe n=>Mb e n
  have noA:∀{b:Addr} {o:Obj} {es:Array DictEntry} {ep:Nat},B.heap.get? b=!o->o.data=.dict es ep->H b=none:=λ{b o es ep} e d=>by
   cases q:H b with
   | none=>rfl
   | some u =>
    have e':b=a:=hA b (by rw[q];simp)
    subst e';rw[ha]at e;cases e;have d':Data.seq vs.toArray _=Data.dict es ep:=d;cases d'
  have Y:∀{b:Addr} {m:Str->Option aa},B.heap.Ns b m->(wB B.heap H).Ns b m:=λ{b m} #[o,es,ep,e,d,r]=>#[o,es,ep,O e (noA e d),d,r]
  have hKb:K.In (wB B.heap H):=λb o e=>O (KX b o e) (by
   cases q:H b with
   | none=>rfl
   | some u =>
    have e':b=a:=hA b (by rw[q];simp)
    subst e';rw[hK (by rw[q];simp)]at e;cases e)
  have hM:Mod K mg (wB B.heap H):=#[hKb,Y hns,#[mb,Y U,hbb],let #[mc,h1,h2]:=h4;#[mc,Y h1,h2]]
  have e0:Env0 P w K mg (wB B.heap H) callerA [] B H:=#[rfl,hM,λb o e=>Mc e,Nat.le_of_eq (Ma _ _),trivial,λb U=>absurd (show b∈([]:List Addr)from U) "s",hok,.of_eq hg]
  refine codeAny_mono ((F _ hKb (Y hns)).run callerA [] B H #[[.ref a],[]] [.ref a] [.ref a] _ _ hr e0 (h3 B (.ref a)) (.cons rfl .nil) (hsp H hO hS)) λr s' h=>?_
  cases r with
  | error e=>exact(hCX H e s' h).elim
  | ok fl =>
   cases fl with
   | next=>exact False.elim h
   | brk=>exact False.elim h
   | cont=>exact False.elim h
   | ret u =>
    obtain⟨v,H',os,h6,un,h7,r',q⟩:=h;have q':v=.bl true:=q;subst q';obtain rfl:u=Value.bool true:=r';refine#[rfl,OldK.of_keep λb o e=>?_,os,h6]
    cases q:H b with
    | none=>exact un.keep b o e q (by intro z;exact absurd (show b∈([]:List Addr)from z) "s") "s"
    | some u =>
     rcases hO b with z|⟨ob,xs,z⟩
     .rw[q]at z;cases z
     have z2:=un.frzs b ob _ z;obtain⟨e1,_⟩:=hok b _ z;obtain⟨e2,_⟩:=h7 b _ z2;rw[e]at e1;cases e1;exact e2
 cases hk:K.lookup a with
 | some o =>
  have e:=KX a o hk;rw[ha]at e;cases e;refine Z (λ_=>none) (λ_=>.inl rfl) (.inr #[_,vs.toArray,_,hk,rfl,rfl,rfl,by rw[gZ,h5];exact hl,by simpa using rv]) (λb u z=>by have z':(none:Option HO)=!u:=z;cases z') (λb z=>absurd rfl z) λz=>absurd rfl z
 | none =>
  refine Z (λb=>if b=a then !(.frz {cls:=.type "list",data:=.seq vs.toArray} (.lst (ns.map V.int)))else none) (λb=>?_) (.inl (.inr #[{cls:=.type "list",data:=.seq vs.toArray},if_pos rfl])) (λb u z=>?_) (λb z=>?_) λ_=>hk
  .by_cases U:b=a
   .exact .inr #[_,_,if_pos U]
   exact .inl (if_neg U)
  .by_cases U:b=a
   .have z':=(if_pos U).symm.trans z;cases z';subst U;exact#[ha,by rw[gj];exact hl,vs,_,rv,ha]
   have z':=(if_neg U).symm.trans z;cases z'
  by_cases U:b=a
  .exact U
  exact absurd (if_neg U) z
def Tj{l:PySem.W.OpenLaw}{n k:Nat}{XP:(Str->Option aa)->Heap->Prop}{YP:World->Heap->Prop}{d:DefRec}{K:Params->Frag}{CX:World->CXT}{sp:World->Sp}
  (hn:l.most=!n)(Z:n<=sizeLine)(hdf:d.params.defaults=[])(hr:Room k callerA)
  (hY:∀ w h,YP w h->(K w.params).In h)
  (F:∀ w mg fa h,(K w.params).In h->h.Ns mainGlobals mg->mg d.name=↑(.ref fa) ->
   ∃ fd,(∀ s u,BindsTo s fd #[[u],[]] [(x,u)]) /\
    ∀ base,(K w.params).In base->base.Ns mainGlobals mg->FnOk l.prog w (K w.params) mg base (CX w) k fa fd [x] (sp w))
  (hsp:∀ w H a (ns:List Int),ns[1]<=n->Only H->SqL (K w.params) H a (ns.map V.int)->sp w [.ref a] H (λv _=>v=.bl true) λ_ _ _=>False)
  (hCX:∀ w H s e s',CX w [] H s (λ_ _ _=>False) e s'->False) :
  PySem.W.WalkO q loose XP YP l.row.toRowW d [] (λf vs=>PySem.call f vs):=by
 refine Att.attach_call hn hdf λw s₀ O mg mb fa o pm cd doc a vs ns G Y ho hd hcd hmg U B z hg=>?_
 have KX:=hY w _ Y;obtain⟨fd,hb,hF⟩:=F w mg fa _ KX G.T.g hmg;exact Ti KX G.T.g G.T.b G.T.builtins G.T.nolimit hg U B (fw z Z) hr hF hb (λH hO hS=>hsp w H a ns z hO hS) λH e s'=>hCX w H O e s'
def defArgs(s:Stmt):Arguments:=match s with
 | .FunctionDef _ a _ _ _ _ _ _ _ _=>a
 | _=>{posonlyargs:=[],args:=[],vararg:=none,kwonlyargs:=[],kw_defaults:=[],kwarg:=none,defaults:=[]}
def defBody(s:Stmt):List Stmt:=match s with
 | .FunctionDef _ _ b _ _ _ _ _ _ _=>b
 | _=>[]
def defScope(s:Stmt):Scope:=match s with
 | .FunctionDef _ _ _ _ _ _ sc _ _ _=>sc
 | _=>{kind:=.function,names:=[],isGenerator:=false,isCoroutine:=false}
abbrev CX0:CXT:=λ_ _ _ _ _ _=>False
abbrev E0:XK:=λ_ _ _=>False
def WI:Ws CX0 X E0:=λ_ _ _ _ _ _ _ h=>h.elim
structure Fun(K:Frag)(x qual:Str)(st:Stmt)(f:Addr)(fd:FuncData):Prop where
 ex:∃(oc:Value) (od:Option Addr) (kV doc pm:Value) (an:Option Addr) (cdv ct:Value) (osl:Array (Option Value)),
  fd=PySem.W.fnOf x qual (defArgs st) (defBody st) (defScope st) .none kV doc pm an cdv ct/\K.lookup f=↑#[oc,od,.func fd,osl]/\codeIn K cdv qual=true
 kp:keepIn K (.ref f)=true
section
variable{P:ag}{w:World}{K:Frag}{mg:Str->Option aa}{base:Heap}
def Fun.ok{st:Stmt}{N ps:List Str}{k:Nat}{sp:Sp}(F:Fun K x qual st f fd)(S:FnScope N ps (defScope st))(len:∀ vs H Q E,sp vs H Q E->vs[1]=ps[1])
  (B:∀ z A outer s H vs Q E,Room k (A.deeper (envOfC qual (defScope st) s[0] f z))->sp vs H Q E ->
   ∃ t,PSs (cxOf CX0 P w K mg base N qual (defScope st) f z A outer s H E).nox (defBody st) t/\t {nx:=λ_ H'=>Q .non H',rt:=Q} (z9 N vs) H):FnOk P w K mg base CX0 (k+1) f fd ps sp:=by
 obtain⟨oc,od,kV,Y,pm,an,z,ct,Z,rfl,lk,U⟩:=F.ex;refine Gc lk U S len λA outer s H vs Q E hr O=>?_
 obtain⟨t,h,q⟩:=B z A outer s H vs Q E hr O;exact#[t,h.nox,q]
def Fun.binds{st:Stmt}{ps:List Str}(F:Fun K x qual st f fd)
  (h:∀ kV z pm an B ct us,us[1]=ps[1]->bindArgs (PySem.W.fnOf x qual (defArgs st) (defBody st) (defScope st) .none kV z pm an B ct) #[us,[]]=pure (ps.zip us)):Binds K fd ps []:=by
 obtain⟨oc,od,kV,z,pm,an,B,ct,O,rfl,lk,U⟩:=F.ex;exact .all (h kV z pm an B ct)
def Z3{st:Stmt}{f:Addr}{oc:aa}{od U:Option Addr}{O:Array (Option aa)}{Y B Z z ct:aa}(l:K.lookup f=↑#[oc,od,.func (PySem.W.fnOf x qual (defArgs st) (defBody st) (defScope st) .none Y B Z U z ct),O])
  (c:codeIn K z qual=true)(k:keepIn K (.ref f)=true):Fun K x qual st f (PySem.W.fnOf x qual (defArgs st) (defBody st) (defScope st) .none Y B Z U z ct):=#[#[oc,od,Y,B,Z,U,z,ct,O,rfl,l,c],k]
variable{X:Cx}
end
section
variable{κ:Type} [DecidableEq κ]
end
end L2
namespace L3
open PySem
inductive D where
 | non|bl (b:Bool)|int (i:Int)|str (x:Str)|tup (xs:List D)|lst (xs:List D)
 | dK (kvs:List (Sum Int Str×D))|dT (kvs:List (List (Sum Int Str)×D))|xc (cls:Str) (fs:List (Str×D))
 deriving Inhabited
inductive En where
 | fz (d:D)|ow (d:D)|br (d:D)|lk (d:D)|od (d:D)
 deriving Inhabited
@[reducible] def En.d:En->D
 | .fz d=>d|.ow d=>d|.br d=>d|.lk d=>d|.od _=>.xc "_" []
structure Xc where
 cls:Str
 fs:List (Str×D)
inductive R(α:Type)where
 | ok (a:α)|exc (x:Xc)|stuck
@[reducible] noncomputable def R.bind {α β:Type} (r:R α) (f:α->R β):R β:=match r with
 | .ok a=>f a|.exc x=>.exc x|.stuck=>.stuck
@[simp] theorem R.bind_ok {α β:Type} (a:α) (f:α->R β):(R.ok a).bind f=f a:=rfl
@[simp] theorem R.bind_exc {α β:Type} (x:Xc) (f:α->R β):(R.exc x:R α).bind f=.exc x:=rfl
@[simp] theorem R.bind_stuck {α β:Type} (f:α->R β):(R.stuck:R α).bind f=.stuck:=rfl
abbrev Rho:=List (Option En)
abbrev EF:=Rho->R En
abbrev TF:=Rho->R Bool
inductive Out where
 | nx (ρ:Rho)|rt (w:En)|bk (ρ:Rho)|ct (ρ:Rho)|exc (x:Xc)|stuck
abbrev SF:=Rho->Out
abbrev Den:=List En->R En
@[reducible] def En.st:En->R D
 | .fz d=>.ok d|.ow d=>.ok d|_=>.stuck
@[reducible] def En.arg:En->R En
 | .fz d=>.ok d[8]|.ow d=>.ok d[8]|.br d=>.ok (.br d)|.lk _=>.stuck|.od (.dK kds)=>.ok (.lst (kds.map Prod.snd))[8]|.od _=>.stuck
@[reducible] def En.nm:En->R En
 | .fz d=>.ok d[8]|.ow d=>.ok d[9]|_=>.stuck
def stAll:List En->R (List D)
 | []=>.ok []
 | x::r=>x.st.bind λd=>(stAll r).bind λds=>.ok (d::ds)
def jW:List En->R (List En)
 | []=>.ok []
 | x::r=>x.arg.bind λd=>(jW r).bind λds=>.ok (d::ds)
def q9(i:Nat):EF:=λρ=>match ρ[i]? with
 | some (!d[8])=>.ok d[8]
 | some (!d[9])=>.ok (.br d)
 | some (!(.br d))=>.ok (.br d)
 | some (!(.lk d))=>.ok d[8]
 | _=>.stuck
def eC(d:D):EF:=λ_=>.ok d[8]
def eOp(g:D->D->R En)(a b:EF):EF:=λρ=>(a ρ).bind λx=>(b ρ).bind λy=>g x.d y.d
def eUn(g:D->R En)(a:EF):EF:=λρ=>(a ρ).bind λx=>g x.d
def evs:List EF->Rho->R (List En)
 | [],_=>.ok []
 | a::r,ρ=>(a ρ).bind λx=>(evs r ρ).bind λxs=>.ok (x::xs)
def sz:Nat:=16777216
def ji(a:List EF):EF:=λρ=>(evs a ρ).bind λxs=>(stAll xs).bind λds=>if ds[1]<=sz then .ok (.lst ds)[9]else .stuck
def jx(a:List EF):EF:=λρ=>(evs a ρ).bind λxs=>(stAll xs).bind λds=>if ds[1]<=sz then .ok (.tup ds)[8]else .stuck
def qh(z:Den)(a:List EF):EF:=λρ=>(evs a ρ).bind λxs=>(jW xs).bind λys=>z ys
def eB(g:List D->R En)(a:List EF):EF:=λρ=>(evs a ρ).bind λxs=>g (xs.map En.d)
@[reducible] def okI (i:Int):R En:=.ok i[7]
@[reducible] def okB (b:Bool):R En:=.ok (.bl b)[8]
def jc:D->D->R En
 | .int i,.int j=>okI (i-j)
 | _,_=>.stuck
def fits(b:Nat):Int->Bool
 | .ofNat n=>ble n b
 | .negSucc n=>ble n b
def fits_iff:fits b i=true↔-(b+1)<=i/\i<=b:=by
 cases i with
 | ofNat n =>
  show ble n b=true↔_;rw[ble_eq];lia
 | negSucc n =>
  show ble n b=true↔_;rw[ble_eq];lia
abbrev b64:Nat:=18446744073709551614
abbrev b62:Nat:=4611686018427387903
def b64e:(b64:Int)=18446744073709551614:=rfl
def b62e:(b62:Int)=4611686018427387903:=rfl
def jJ:D->D->R En
 | .int i,.int j=>if (fits b64 i||fits b64 j)=true then okI (i*j)else .stuck
 | _,_=>.stuck
def vq:D->D->R En
 | .int i,.int j=>if 0<j then okI (i%j)else .stuck
 | _,_=>.stuck
def vR:D->D->R En
 | .int i,.int j=>if 0<j/\j<1073741824 then okI (i/j)else .stuck
 | _,_=>.stuck
def dLt:D->D->R En
 | .int i,.int j=>okB (decide (i<j))
 | _,_=>.stuck
def dLe:D->D->R En
 | .int i,.int j=>okB (decide (i<=j))
 | _,_=>.stuck
def dGt:D->D->R En
 | .int i,.int j=>okB (decide (j<i))
 | _,_=>.stuck
def b2i(b:Bool):Int:=if b then 1 else 0
mutual
def deq:D->D->Bool
 | .non,.non=>true
 | .bl a,.bl b=>a==b
 | .bl a,.int b=>b2i a==b
 | .int a,.bl b=>a==b2i b
 | .int a,.int b=>a==b
 | .str a,.str b=>a==b
 | .tup a,.tup b=>deqs a b
 | .lst a,.lst b=>deqs a b
 | _,_=>false
def deqs:List D->List D->Bool
 | [],[]=>true
 | x::xs,y::ys=>deq x y&&deqs xs ys
 | _,_=>false
end
def qK:Nat->D->Bool
 | _,.non=>true|_,.bl _=>true|_,.int _=>true|_,.str x=>PyData.strOk x
 | n+1,.tup a=>a.all (qK n)
 | n+1,.lst a=>a.all (qK n)
 | _,_=>false
def eqok(d:D):Bool:=qK 8 d
def dEq(a b:D):R En:=if eqok a&&eqok b then okB (deq a b)else .stuck
def dNe(a b:D):R En:=if eqok a&&eqok b then okB (not (deq a b))else .stuck
def din(x:D)(ys:List D):Bool:=ys.any λy=>deq y x
def ixn(n:Nat)(i:Int):Option Nat:=if 0<=i then(if i<n then !i.toNat else none)else if -(n:Int)<=i then !(i+n).toNat else none
def ati{α:Type}(xs:List α)(i:Int):Option α:=(ixn xs[1] i).bind λj=>xs[j]?
def zq:D->Option (Sum Int Str)
 | .int i=>!(.inl i)
 | .str x=>!(.inr x)
 | _=>none
def jQ:List D->Option (List (Sum Int Str))
 | []=>↑[]
 | x::r=>(zq x).bind λk=>(jQ r).map λks=>k::ks
def look{κ:Type} [DecidableEq κ](k:κ):List (κ×D)->Option D
 | []=>none
 | (x,d)::r=>if x=k then !d else look k r
def okD (o:Option D):R En:=match o with
 | some d=>.ok d[8]
 | none=>.stuck
def yn:List D->R En
 | [.lst xs]=>.ok (.lst xs)[9]
 | [.tup xs]=>.ok (.lst xs)[9]
 | _=>.stuck
def yo:List D->R En
 | [.lst xs]=>.ok (.tup xs)[8]
 | [.tup xs]=>.ok (.tup xs)[8]
 | _=>.stuck
def xG:List D->R En
 | [.int i,.int j]=>okI (if j<i then j else i)
 | _=>.stuck
inductive Ty|int|bool|str|list|tuple|dict
def tyIs:D->Ty->Bool
 | .int _,.int=>true|.bl _,.int=>true|.bl _,.bool=>true|.str _,.str=>true
 | .lst _,.list=>true|.tup _,.tuple=>true|.dK _,.dict=>true|.dT _,.dict=>true
 | _,_=>false
def dIs(t:Ty):D->R En
 | .xc _ _=>.stuck
 | d=>okB (tyIs d t)
def kf:D->R Bool
 | .non=>.ok false|.bl b=>.ok b|.int i=>.ok (i != 0)|.str x=>if x[1]<=sz then .ok ((x[1]:Int) != 0)else .stuck
 | .lst xs=>.ok (not xs.isEmpty)|.tup xs=>.ok (not xs.isEmpty)|_=>.stuck
def tE(e:EF):TF:=λρ=>(e ρ).bind λx=>kf x.d
def qG(t:TF):TF:=λρ=>(t ρ).bind λb=>.ok (not b)
def zF(t u:TF):TF:=λρ=>(t ρ).bind λb=>if b=true then u ρ else .ok false
def tOr(t u:TF):TF:=λρ=>(t ρ).bind λb=>if b=true then .ok true else u ρ
def isB:D->R Bool
 | .bl b=>.ok b
 | _=>.stuck
def Z4(e:EF):EF:=λρ=>(e ρ).bind λx=>(isB x.d).bind λb=>okB (not b)
def w6(a b:EF):EF:=λρ=>(a ρ).bind λx=>(isB x.d).bind λc=>if c=true then b ρ else okB false
def eIf(t:TF)(a b:EF):EF:=λρ=>(t ρ).bind λc=>if c=true then a ρ else b ρ
def qq:SF:=λρ=>.nx ρ
def qf(a b:SF):SF:=λρ=>match a ρ with
 | .nx ρ'=>b ρ'
 | o=>o
def sOf (r:R α) (k:α->Out):Out:=match r with
 | .ok a=>k a|.exc _=>.stuck|.stuck=>.stuck
def qk(i:Nat)(e:EF):SF:=λρ=>sOf ((e ρ).bind En.nm) λw=>.nx (ρ.set i !w)
def qp(e:EF):SF:=λρ=>sOf ((e ρ).bind En.nm) .rt
def jy(i:Nat):SF:=λρ=>match ρ[i]? with
 | some (!d[8])=>.rt d[8]
 | some (!d[9])=>.rt d[9]
 | _=>.stuck
def sIf(t:TF)(a b:SF):SF:=λρ=>sOf (t ρ) λc=>if c=true then a ρ else b ρ
def yp:SF:=λρ=>.bk ρ
def xH(e:EF):SF:=λρ=>sOf (e ρ) λ_=>.nx ρ
def za(i:Nat)(g:D->D->R En)(e:EF):SF:=λρ=>match ρ[i]? with
 | some (!x[8])=>sOf ((e ρ).bind λy=>(g x y.d).bind En.nm) λw=>.nx (ρ.set i !w)
 | _=>.stuck
def qY(i:Nat)(e:EF):SF:=λρ=>match ρ[i]? with
 | some (!(.lst xs)[9])=>sOf ((e ρ).bind En.st) λd=>if xs[1]<sz then .nx (ρ.set i (!(.lst (xs++[d]))[9]))else .stuck
 | _=>.stuck
def frz(i:Nat)(ρ:Rho):Rho:=match ρ[i]? with
 | some (!d[9])=>ρ.set i (!d[8])
 | _=>ρ
def jn(i:Nat)(s:SF):SF:=λρ=>s (frz i ρ)
abbrev GF:=D->Rho->R Rho
def gV(i:Nat):GF:=λd ρ=>.ok (ρ.set i (!d[8]))
def gVs:List Nat->List D->Rho->R Rho
 | [],[],ρ=>.ok ρ
 | i::is,d::ds,ρ=>gVs is ds (ρ.set i (!d[8]))
 | _,_,_=>.stuck
def gT(is:List Nat):GF:=λd ρ=>match d with
 | .tup ds=>gVs is ds ρ
 | _=>.stuck
def qH (g:GF) (b:SF):List D->Rho->Out
 | [],ρ=>.nx ρ
 | x::xs,ρ=>match g x ρ with
  | .ok ρ1=>(match b ρ1 with
   | .nx ρ2=>qH g b xs ρ2
   | .ct ρ2=>qH g b xs ρ2
   | .bk ρ2=>.nx ρ2
   | o=>o)
  | .exc _=>.stuck
  | .stuck=>.stuck
def items:D->R (List D)
 | .lst xs=>.ok xs
 | .tup xs=>.ok xs
 | .dK kvs=>.ok (kvs.map λp=>match p.1 with|.inl i=>.int i|.inr x=>.str x)
 | _=>.stuck
abbrev IF:=Rho->R (List D)
def xI:D->R (List D)
 | .lst xs=>.ok xs
 | .tup xs=>.ok xs
 | _=>.stuck
def iV(i:Nat):IF:=λρ=>match ρ[i]? with
 | some (!d[8])=>xI d
 | some (!(.br d))=>xI d
 | _=>.stuck
def iVc(i:Nat):IF:=λρ=>match ρ[i]? with
 | some (!(.od _))=>.stuck
 | some (!(.lk _))=>.stuck
 | some !w=>xI w.d
 | _=>.stuck
def qZ(e:EF):IF:=λρ=>(e ρ).bind λw=>w.st.bind xI
def zG(lo:Int):Nat->List D
 | 0=>[]
 | n+1=>.int lo::zG (lo+1) n
def iR1(a:EF):IF:=λρ=>(a ρ).bind λx=>match x.d with
 | .int j=>if fits b62 j=true then .ok (zG 0 j.toNat)else .stuck
 | _=>.stuck
def iR2(a b:EF):IF:=λρ=>(a ρ).bind λx=>(b ρ).bind λy=>match x.d,y.d with
 | .int i,.int j=>if (fits b62 i&&fits b62 j)=true then .ok (zG i (j-i).toNat)else .stuck
 | _,_=>.stuck
def qI(it:IF)(g:GF)(b:SF):SF:=λρ=>sOf (it ρ) λxs=>qH g b xs ρ
def zk (t:TF) (b:SF):Nat->Rho->Out
 | 0,_=>.stuck
 | n+1,ρ=>sOf (t ρ) λc=>if c=true then(match b ρ with
   | .nx ρ2=>zk t b n ρ2
   | .ct ρ2=>zk t b n ρ2
   | .bk ρ2=>.nx ρ2
   | o=>o)else .nx ρ
def wQ(n:Nat)(t:TF)(b:SF):SF:=zk t b n
def fin:Out->R En
 | .nx _=>.ok (.fz .non)
 | .rt w=>.ok w
 | .exc x=>.exc x
 | _=>.stuck
def den (n:Nat) (b:SF):Den:=λas=>fin (b (as.map some++List.replicate (n-as[1]) none))
def Z5{a b:SF}(h:a ρ=.nx ρ'):qf a b ρ=b ρ':=by delta qf;rw[h]
open PySem PySem.Spec PyProof.Rows L2
abbrev St:=L2.St
structure Kx where
 P:Program
 w:World
 K:Frag
abbrev kx(X:Cx):Kx:=#[X.prog,X.w,X.K]
def SqK(κ:Kx)(F:Hp)(a:Addr)(kvs:List (Key×V)):Prop :=
 Rd F a (.dK kvs)\/(a==sysModules)=false/\∃(o:Obj) (es:Array DictEntry) (ep:Nat) (vs:List (Key×aa)),κ.K.lookup a=!o/\o.ExactDict/\o.data=.dict es ep /\
  KeysOf (jk κ.P κ.w) es/\Pairs (jk κ.P κ.w) es[2] vs/\(vs.map (·.1)).Nodup/\KV kvs vs
def FnV(κ:Kx)(v:V)(c:Str)(fs:List (Str×D)):Prop:=match fs with
 | [(_,.non)]=>∀ f:Addr,nsIn κ.K mainGlobals c=!(!(.ref f))->v=.ref f
 | [(_,.int a)]=>v=.ref a.toNat
 | _=>True
mutual
def Rep(κ:Kx)(F:Hp):V->D->Prop
 | v,.non=>v=.non
 | v,.bl b=>v=.bl b
 | v,.int i=>v=.int i
 | v,.str x=>v=.str x
 | v,.tup ds=>∃ a vs,v=.ref a/\SqT κ.K F a vs/\Reps κ F vs ds
 | v,.lst ds=>∃ a vs,v=.ref a/\SqL κ.K F a vs/\Reps κ F vs ds
 | v,.dK kds=>∃ a kvs,v=.ref a/\SqK κ F a kvs/\RepK κ F kvs kds
 | v,.dT kds=>∃ a kvs,v=.ref a/\Rd F a (.dT kvs)/\RepT κ F kvs kds
 | v,.xc c fs=>FnV κ v c fs
def Reps(κ:Kx)(F:Hp):List V->List D->Prop
 | vs,[]=>vs=[]
 | vs,d::ds=>∃ v r,vs=v::r/\Rep κ F v d/\Reps κ F r ds
def RepK(κ:Kx)(F:Hp):List (Key×V)->List (Sum Int Str×D)->Prop
 | kvs,[]=>kvs=[]
 | kvs,(k,d)::r=>∃ v kr,kvs=(k,v)::kr/\Rep κ F v d/\RepK κ F kr r
def RepT(κ:Kx)(F:Hp):List (List Key×V)->List (List (Sum Int Str)×D)->Prop
 | kvs,[]=>kvs=[]
 | kvs,(k,d)::r=>∃ v kr,kvs=(k,v)::kr/\Rep κ F v d/\RepT κ F kr r
end
abbrev Le(F H:Hp):Prop:=∀ a o,F a=!o->H a=!o
def Rd.le(l:Le F F')(h:Rd F a u):Rd F' a u:=by
 rcases h with h|⟨o,h⟩
 .exact .inl (l _ _ h)
 exact .inr #[o,l _ _ h]
def SqL.le{K:Frag}(l:Le F F')(h:SqL K F a vs):SqL K F' a vs:=by
 rcases h with h|h
 .exact .inl (Rd.le l h)
 exact .inr h
def SqT.le{K:Frag}(l:Le F F')(h:SqT K F a vs):SqT K F' a vs:=by
 rcases h with h|h
 .exact .inl (Rd.le l h)
 exact .inr h
def SqK.le(l:Le F F')(h:SqK κ F a vs):SqK κ F' a vs:=by
 rcases h with h|h
 .exact .inl (Rd.le l h)
 exact .inr h
mutual
theorem Rep.le(l:Le F F'):∀(d:D) {v:V},Rep κ F v d->Rep κ F' v d
 | .non,_,h=>h
 | .bl _,_,h=>h
 | .int _,_,h=>h
 | .str _,_,h=>h
 | .tup ds,_,h=>by
  obtain⟨a,vs,e,q,r⟩:=h;exact#[a,vs,e,SqT.le l q,Reps.le l ds r]
 | .lst ds,_,h=>by
  obtain⟨a,vs,e,q,r⟩:=h;exact#[a,vs,e,SqL.le l q,Reps.le l ds r]
 | .dK ds,_,h=>by
  obtain⟨a,vs,e,q,r⟩:=h;exact#[a,vs,e,SqK.le l q,RepK.le l ds r]
 | .dT ds,_,h=>by
  obtain⟨a,vs,e,q,r⟩:=h;exact#[a,vs,e,Rd.le l q,RepT.le l ds r]
 | .xc _ _,_,h=>h
theorem Reps.le(l:Le F F'):∀(ds:List D) {vs:List V},Reps κ F vs ds->Reps κ F' vs ds
 | [],_,h=>h
 | d::ds,_,h=>by
  obtain⟨v,r,e,h1,h2⟩:=h;exact#[v,r,e,Rep.le l d h1,Reps.le l ds h2]
theorem RepK.le(l:Le F F'):∀(ds:List (Sum Int Str×D)) {vs:List (Key×V)},RepK κ F vs ds->RepK κ F' vs ds
 | [],_,h=>h
 | (k,d)::ds,_,h=>by
  obtain⟨v,r,e,h1,h2⟩:=h;exact#[v,r,e,Rep.le l d h1,RepK.le l ds h2]
theorem RepT.le(l:Le F F'):∀(ds:List (List (Sum Int Str)×D)) {vs:List (List Key×V)},RepT κ F vs ds->RepT κ F' vs ds
 | [],_,h=>h
 | (k,d)::ds,_,h=>by
  obtain⟨v,r,e,h1,h2⟩:=h;exact#[v,r,e,Rep.le l d h1,RepT.le l ds h2]
end
section
variable{κ:Kx}{F:Hp}
theorem Reps.length:∀{ds} {vs},Reps κ F vs ds->vs[1]=ds[1]
 | [],_,h=>by cases (h);rfl
 | d::ds,_,h=>by
  obtain⟨v,r,rfl,h1,h2⟩:=h;simp[Reps.length h2]
theorem Reps.get:∀{ds} {vs} {i:Nat} {d},Reps κ F vs ds->ds[i]?=!d->∃ v,vs[i]?=!v/\Rep κ F v d
 | [],_,_,_,_,e=>by simp at e
 | d::ds,_,0,_,h,e=>by
  obtain⟨v,r,rfl,h1,h2⟩:=h;simp at e;subst e;exact#[v,rfl,h1]
 | d::ds,_,i+1,d',h,e=>by
  obtain⟨v,r,rfl,h1,h2⟩:=h;obtain⟨u,e1,e2⟩:=Reps.get h2 e[""]
  exact#[u,by simpa using e1,e2]
theorem Reps.append:∀{ds es} {vs us},Reps κ F vs ds->Reps κ F us es->Reps κ F (vs++us) (ds++es)
 | [],_,_,_,h,k=>by cases (h);exact k
 | d::ds,_,_,_,h,k=>by
  obtain⟨v,r,rfl,h1,h2⟩:=h;exact#[v,r++_,rfl,h1,Reps.append h2 k]
def Reps.one(h:Rep κ F v d):Reps κ F [v] [d]:=#[v,[],rfl,h,rfl]
end
structure Gr(F H F' H':Hp):Prop where
 f:Le F F'
 h:Le H H'
 s:Le F' H'
 n:∀ a,F' a≠none->F a≠none\/H a=none\/∃ xs,H a=!(.tup xs)
def Le.refl:Le F F:=λ_ _ h=>h
def Le.trans(a:Le F G)(b:Le G H):Le F H:=λx o h=>b x o (a x o h)
def Gr.refl(s:Le F H):Gr F H F H:=#[Le.refl,Le.refl,s,λ_ h=>.inl h]
theorem Le.none{F H:Hp}(l:Le F H)(h:H a=none):F a=none:=by
 cases e:F a with
 | none=>rfl
 | some o=>rw[l a o e]at h;cases h
def Gr.trans(a:Gr F H F1 H1)(b:Gr F1 H1 F2 H2):Gr F H F2 H2 :=
 #[Le.trans a.f b.f,Le.trans a.h b.h,b.s,λx h=>by
  rcases b.n x h with q|q|⟨xs,q⟩
  .exact a.n x q
  .exact .inr (.inl (Le.none a.h q))
  cases e:H x with
  | none=>exact .inr (.inl rfl)
  | some o =>
   have:=a.h x o e;rw[q]at this;cases this;exact .inr (.inr #[xs,rfl])]
def Gr.new{F H:Hp}(s:Le F H)(hp:H p=none):Gr F H F (upd H p o) :=
 #[Le.refl,λa u h=>by rw[qu (jH h hp)];exact h,λa u h=>by rw[qu (jH (s a u h) hp)];exact s a u h,λ_ h=>.inl h]
def Gr.newF{F H:Hp}(s:Le F H)(hp:H p=none):Gr F H (upd F p o) (upd H p o):=by
 refine#[λa u h=>by rw[qu (jH h (Le.none s hp))];exact h,λa u h=>by rw[qu (jH h hp)];exact h,λa u h=>?_,λa h=>?_]
 .by_cases e:a=p
  .subst e;rw[qP]at h ⊢;exact h
  rw[qu e]at h ⊢;exact s a u h
 by_cases e:a=p
 .subst e;exact .inr (.inl hp)
 rw[qu e]at h;exact .inl h
def jK(H F' H':Hp):Hp:=λb=>match H b with
 | none=>H' b
 | some _=>F' b
def vt(s:Le F H)(g:Gr F H F' H'):Gr F H (jK H F' H') H'/\Le F' (jK H F' H'):=by
 refine#[#[λa u h=>?_,g.h,λa u h=>?_,λa h=>?_],λa u h=>?_]
 .delta jK;rw[s a u h];exact g.f a u h
 .unfold jK at h;cases e:H a with
  | none=>rw[e]at h;exact h
  | some o=>rw[e]at h;exact g.s a u h
 .cases e:H a with
  | none=>exact .inr (.inl rfl)
  | some o =>
   unfold jK at h;rw[e]at h;rcases g.n a h with q|q|q
   .exact .inl q
   .simp_all
   rw[e]at q;exact .inr (.inr q)
 delta jK
 cases e:H a with
 | none=>exact g.s a u h
 | some o=>exact h
def OwnO(κ:Kx)(F:Hp):HO->D->Prop
 | .lst vs,.lst ds=>Reps κ F vs ds
 | .dK kvs,.dK kds=>RepK κ F kvs kds
 | .dT kvs,.dT kds=>RepT κ F kvs kds
 | _,_=>False
def OwnO.le(l:Le F F')(h:OwnO κ F o d):OwnO κ F' o d:=by
 cases o<;>cases d<;>first
  | exact h
  | exact Reps.le l _ h
  | exact RepK.le l _ h
  | exact RepT.le l _ h
def RdV(κ:Kx)(F H:Hp)(v:V)(d:D):Prop:=Rep κ F v d\/∃ a o,v=.ref a/\H a=!o/\OwnO κ F o d
def Inn(κ:Kx)(H0 F H:Hp):List Addr->List D->Prop
 | [],[]=>True
 | b::bs,e::es=>(∃ us xs,e=.lst xs/\H0 b=none/\F b=none/\H b=!(.lst us)/\Reps κ F us xs)/\Inn κ H0 F H bs es
 | _,_=>False
def In2(κ:Kx)(H0 F H:Hp):List Addr->List (List Addr)->List D->Prop
 | [],[],[]=>True
 | b::bs,cs::css,e::es=>(∃ xs,e=.lst xs/\H0 b=none/\F b=none/\H b=!(.lst (cs.map V.ref))/\Inn κ H0 F H cs xs)/\In2 κ H0 F H bs css es
 | _,_,_=>False
def DV2(κ:Kx)(H F H':Hp)(v:V)(ds:List D):Prop:=∃ a bs,v=.ref a/\H a=none/\F a=none/\(a::bs).Nodup/\H' a=!(.lst (bs.map V.ref))/\Inn κ H F H' bs ds
def DV3(κ:Kx)(H F H':Hp)(v:V)(ds:List D):Prop:=∃ a bs z,v=.ref a/\H a=none/\F a=none/\(a::(bs++z.flatten)).Nodup/\H' a=!(.lst (bs.map V.ref))/\In2 κ H F H' bs z ds
def DVp(κ:Kx)(H F H':Hp)(v:V)(ds:List D)(g:D):Prop:=∃ t b us vg,v=.ref t/\H t=none/\H' t=!(.tup [.ref b,vg])/\H b=none/\F b=none/\H' b=!(.lst us)/\Reps κ F us ds/\Rep κ F vg g
def DVi(κ:Kx)(H F H':Hp)(v:V)(a:Addr)(dd g:D):Prop:=∃ o,H a=none/\F a=none/\H' a=!o/\OwnO κ F o dd/\Rep κ F v g
def DV(κ:Kx)(H F H':Hp)(v:V)(d:D):Prop :=
 (∃ ds,d=.lst ds/\DV2 κ H F H' v ds)\/(∃ kds:List (Sum Int Str×D),d=.dK kds/\DV3 κ H F H' v (kds.map Prod.snd))\/(∃ ds g,d=.tup [.lst ds,g]/\DVp κ H F H' v ds g)\/∃(a:Addr) (dd g:D),d=.tup [.int (a:Int),dd,g]/\DVi κ H F H' v a dd g
def Vok(κ:Kx)(H F' H':Hp)(v:V):En->Prop
 | .fz d=>Rep κ F' v d
 | .ow d=>∃ a o,v=.ref a/\H a=none/\F' a=none/\H' a=!o/\OwnO κ F' o d
 | .br d=>∃ a o,v=.ref a/\H' a=!o/\OwnO κ F' o d
 | .lk _=>False
 | .od d=>DV κ H F' H' v d
section
variable{κ:Kx}{H F F' H' F1 H1 F2 H2:Hp}{v:V}{w:En}{d:D}
def Vok.rd(h:Vok κ H F' H' v w):RdV κ F' H' v w.d:=by
 cases w with
 | fz d=>exact .inl h
 | ow d=>obtain⟨a,o,e,_,_,e2,r⟩:=h;exact .inr #[a,o,e,e2,r]
 | br d=>obtain⟨a,o,e,e2,r⟩:=h;exact .inr #[a,o,e,e2,r]
 | lk d=>exact h.elim
 | od d=>exact .inl trivial
def OwnO.noTup(h:OwnO κ F o d):∀ xs,o≠.tup xs:=λxs z=>by
 subst z;cases d<;>exact h.elim
def Gr.no(g:Gr F H F' H')(B:F a=none)(O:H a=!o)(U:∀ xs,o≠.tup xs:=by intro _ z;cases z):F' a=none:=by
 cases q:F' a with
 | none=>rfl
 | some u =>
  rcases g.n a (by rw[q];exact Option.some_ne_none _)with z|z|⟨xs,z⟩
  .simp_all
  .lia
  grind
theorem Inn.gr(g:Gr F H F' H'):∀{bs} {ds},Inn κ H0 F H bs ds->Inn κ H0 F' H' bs ds
 | [],[],h=>h
 | [],_::_,h=>h
 | _::_,[],h=>h
 | b::bs,e::es,#[#[us,xs,e1,h0,hf,hh,r],h]=>#[#[us,xs,e1,h0,g.no hf hh,g.h _ _ hh,Reps.le g.f _ r],Inn.gr g h]
theorem In2.gr(g:Gr F H F' H'):∀{bs} {css} {ds},In2 κ H0 F H bs css ds->In2 κ H0 F' H' bs css ds
 | [],[],[],h=>h
 | [],_::_,_,h=>by cases h
 | [],[],_::_,h=>by cases h
 | _::_,[],_,h=>by cases h
 | _::_,_::_,[],h=>by cases h
 | b::bs,cs::css,e::es,#[#[xs,e1,h0,hf,hh,r],h]=>#[#[xs,e1,h0,g.no hf hh,g.h _ _ hh,Inn.gr g r],In2.gr g h]
theorem Inn.older(l:∀ a,H a=none->G a=none):∀{bs} {ds},Inn κ H F' H' bs ds->Inn κ G F' H' bs ds
 | [],[],h=>h
 | [],_::_,h=>h
 | _::_,[],h=>h
 | b::bs,e::es,#[#[us,xs,e1,h0,r],h]=>#[#[us,xs,e1,l _ h0,r],Inn.older l h]
theorem In2.older(l:∀ a,H a=none->G a=none):∀{bs} {css} {ds},In2 κ H F' H' bs css ds->In2 κ G F' H' bs css ds
 | [],[],[],h=>h
 | [],_::_,_,h=>by cases h
 | [],[],_::_,h=>by cases h
 | _::_,[],_,h=>by cases h
 | _::_,_::_,[],h=>by cases h
 | b::bs,cs::css,e::es,#[#[xs,e1,h0,hf,hh,r],h]=>#[#[xs,e1,l _ h0,hf,hh,Inn.older l r],In2.older l h]
theorem Inn.reps:∀{bs} {ds},Inn κ H0 F H bs ds->(∀ b∈bs,G b=H b)->Le F G->Reps κ G (bs.map V.ref) ds
 | [],[],_,_,_=>rfl
 | [],_::_,h,_,_=>h.elim
 | _::_,[],h,_,_=>h.elim
 | b::bs,e::es,#[#[us,xs,e1,_,_,hh,r],h],k,l=>by
  subst e1;exact#[.ref b,bs.map V.ref,rfl,#[b,us,rfl,SqL.of ((k b "s").trans hh),Reps.le l _ r],Inn.reps h (λc m=>k c (gu _ m)) l]
theorem In2.reps:∀{bs} {css} {ds},In2 κ H0 F H bs css ds->(∀ b∈bs++css.flatten,G b=H b)->Le F G->Reps κ G (bs.map V.ref) ds
 | [],[],[],_,_,_=>rfl
 | [],_::_,_,h,_,_=>by cases h
 | [],[],_::_,h,_,_=>by cases h
 | _::_,[],_,h,_,_=>by cases h
 | _::_,_::_,[],h,_,_=>by cases h
 | b::bs,cs::css,e::es,#[#[xs,e1,_,_,hh,r],h],k,l=>by
  subst e1;have B:∀ c∈bs++css.flatten,c∈(b::bs)++(cs::css).flatten:=λc m=>by
   grind
  have z:∀ c∈cs,c∈(b::bs)++(cs::css).flatten:=λc m=>by
   simp_all
  exact#[.ref b,bs.map V.ref,rfl,#[b,cs.map V.ref,rfl,SqL.of ((k b "s").trans hh),Inn.reps r (λc m=>k c (z c m)) l],In2.reps h (λc m=>k c (B c m)) l]
def DV.gr(g:Gr F1 H1 F2 H2)(h:DV κ H F1 H1 v d):DV κ H F2 H2 v d:=by
 rcases h with⟨ds,e,a,bs,e1,h0,hf,nd,hh,i⟩|⟨ds,e,a,bs,z,e1,h0,hf,nd,hh,i⟩|⟨ds,y,e,t,b,us,vg,e1,t0,th,b0,bf,bh,rs,r⟩|⟨a,dd,y,e,o,h0,hf,hh,ro,r⟩
 .exact .inl #[ds,e,a,bs,e1,h0,g.no hf hh,nd,g.h _ _ hh,Inn.gr g i]
 .exact .inr (.inl #[ds,e,a,bs,z,e1,h0,g.no hf hh,nd,g.h _ _ hh,In2.gr g i])
 .exact .inr (.inr (.inl #[ds,y,e,t,b,us,vg,e1,t0,g.h _ _ th,b0,g.no bf bh,g.h _ _ bh,Reps.le g.f _ rs,Rep.le g.f _ r]))
 exact .inr (.inr (.inr #[a,dd,y,e,o,h0,g.no hf hh (OwnO.noTup ro),g.h _ _ hh,OwnO.le g.f ro,Rep.le g.f _ r]))
def DV.older(l:∀ a,H a=none->G a=none)(h:DV κ H F' H' v d):DV κ G F' H' v d:=by
 rcases h with⟨ds,e,a,bs,e1,h0,hf,nd,hh,i⟩|⟨ds,e,a,bs,z,e1,h0,hf,nd,hh,i⟩|⟨ds,y,e,t,b,us,vg,e1,t0,th,b0,bf,bh,rs,r⟩|⟨a,dd,y,e,o,h0,hf,hh,ro,r⟩
 .exact .inl #[ds,e,a,bs,e1,l _ h0,hf,nd,hh,Inn.older l i]
 .exact .inr (.inl #[ds,e,a,bs,z,e1,l _ h0,hf,nd,hh,In2.older l i])
 .exact .inr (.inr (.inl #[ds,y,e,t,b,us,vg,e1,l _ t0,th,l _ b0,bf,bh,rs,r]))
 exact .inr (.inr (.inr #[a,dd,y,e,o,l _ h0,hf,hh,ro,r]))
def Vok.gr(g:Gr F1 H1 F2 H2)(h:Vok κ H F1 H1 v w):Vok κ H F2 H2 v w:=by
 cases w with
 | fz d=>exact Rep.le g.f d h
 | ow d =>
  obtain⟨a,o,e,e1,e3,e2,r⟩:=h;exact#[a,o,e,e1,g.no e3 e2 (OwnO.noTup r),g.h _ _ e2,OwnO.le g.f r]
 | br d=>obtain⟨a,o,e,e2,r⟩:=h;exact#[a,o,e,g.h _ _ e2,OwnO.le g.f r]
 | lk d=>exact h
 | od d=>exact DV.gr g h
def RdV.gr(g:Gr F1 H1 F2 H2)(h:RdV κ F1 H1 v d):RdV κ F2 H2 v d:=by
 rcases h with h|⟨a,o,e,e2,r⟩
 .exact .inl (Rep.le g.f d h)
 exact .inr #[a,o,e,g.h _ _ e2,OwnO.le g.f r]
def Tk(h:OwnO κ F o d):(∃ ds,d=.lst ds)\/(∃ ds,d=.dK ds)\/∃ ds,d=.dT ds:=by
 cases o<;>cases d<;>first
  | exact h.elim
  | exact .inl #[_,rfl]
  | exact .inr (.inl #[_,rfl])
  | exact .inr (.inr #[_,rfl])
def RdV.flat(h:RdV κ F H v d)(B:∀ ds,d≠.lst ds)(O:∀ ds,d≠.dK ds)(U:∀ ds,d≠.dT ds):Rep κ F v d:=by
 rcases h with h|⟨a,o,e,e2,r⟩
 .exact h
 rcases Tk r with⟨ds,z⟩|⟨ds,z⟩|⟨ds,z⟩
 .exact absurd z (B ds)
 .exact absurd z (O ds)
 exact absurd z (U ds)
def RdV.int(h:RdV κ F H v i[6]):v=.int i:=RdV.flat h (λ_ e=>nomatch e) (λ_ e=>nomatch e) λ_ e=>nomatch e
def RdV.bl(h:RdV κ F H v (.bl b)):v=.bl b:=RdV.flat h (λ_ e=>nomatch e) (λ_ e=>nomatch e) λ_ e=>nomatch e
def RdV.str(h:RdV κ F H v (.str x)):v=.str x:=RdV.flat h (λ_ e=>nomatch e) (λ_ e=>nomatch e) λ_ e=>nomatch e
def RdV.non(h:RdV κ F H v .non):v=.non:=RdV.flat h (λ_ e=>nomatch e) (λ_ e=>nomatch e) λ_ e=>nomatch e
def RdV.tup(s:Le F H)(h:RdV κ F H v (.tup ds)):∃ a vs,v=.ref a/\SqT κ.K H a vs/\SqT κ.K F a vs/\Reps κ F vs ds:=by
 obtain⟨a,vs,e,q,r⟩:=RdV.flat h (λ_ e=>nomatch e) (λ_ e=>nomatch e) λ_ e=>nomatch e
 exact#[a,vs,e,SqT.le s q,q,r]
theorem RdV.lst(s:Le F H)(h:RdV κ F H v (.lst ds)):∃ a vs,v=.ref a/\SqL κ.K H a vs/\Reps κ F vs ds:=by
 rcases h with⟨a,vs,e,q,r⟩|⟨a,o,e,e2,r⟩
 .exact#[a,vs,e,SqL.le s q,r]
 cases o with
 | lst vs=>exact#[a,vs,e,SqL.of e2,r]
 | _=>exact r.elim
theorem RdV.dK(s:Le F H)(h:RdV κ F H v (.dK ds)):∃ a kvs,v=.ref a/\SqK κ H a kvs/\RepK κ F kvs ds:=by
 rcases h with⟨a,vs,e,q,r⟩|⟨a,o,e,e2,r⟩
 .exact#[a,vs,e,SqK.le s q,r]
 cases o with
 | dK vs=>exact#[a,vs,e,.inl (.inl e2),r]
 | _=>exact r.elim
def Vok.st(s:Le F H)(g:Gr F H F' H')(h:Vok κ H F' H' v w)(e:w.st=.ok d):Rep κ (jK H F' H') v d:=by
 obtain⟨_,l⟩:=vt s g;cases w with
 | fz d'=>cases e;exact Rep.le l d h
 | ow d' =>
  cases e;obtain⟨a,o,ea,e1,e3,e2,r⟩:=h;have q:jK H F' H' a=!o:=by delta jK;rw[e1];exact e2
  have r:=OwnO.le l r;cases o<;>cases d<;>first
   | exact r.elim
   | exact#[a,_,ea,.inl (.inl q),r]
   | exact#[a,_,ea,.inl q,r]
 | br d'=>cases e
 | lk d'=>cases e
 | od d'=>cases e
end
def Voks(κ:Kx)(H F' H':Hp):List V->List En->Prop
 | vs,[]=>vs=[]
 | vs,w::ws=>∃ v r,vs=v::r/\Vok κ H F' H' v w/\Voks κ H F' H' r ws
section
variable{κ:Kx}{H F F' H' F1 H1 F2 H2:Hp}
def Vok.older{G:Hp}(l:∀ a,H a=none->G a=none)(h:Vok κ H F' H' v w):Vok κ G F' H' v w:=by
 cases w with
 | fz d=>exact h
 | ow d=>obtain⟨a,o,e,e1,r⟩:=h;exact#[a,o,e,l a e1,r]
 | br d=>exact h
 | lk d=>exact h
 | od d=>exact DV.older l h
theorem Voks.older(l:∀ a,H a=none->G a=none):∀{ws} {vs},Voks κ H F' H' vs ws->Voks κ G F' H' vs ws
 | [],_,h=>h
 | w::ws,_,h=>by
  obtain⟨v,r,e,h1,h2⟩:=h;exact#[v,r,e,Vok.older l h1,Voks.older l h2]
theorem Voks.stAll(s:Le F H)(g:Gr F H F' H'):∀{ws:List En} {vs:List V} {ds:List D},Voks κ H F' H' vs ws->stAll ws=.ok ds->Reps κ (jK H F' H') vs ds
 | [],_,_,h,e=>by cases e;exact h
 | w::ws,_,ds,h,e=>by
  obtain⟨v,r,rfl,h1,h2⟩:=h;unfold L3.stAll at e;cases e1:w.st with
  | ok d =>
   cases e2:L3.stAll ws with
   | ok ds' =>
    rw[e1,e2]at e;cases e;exact#[v,r,rfl,Vok.st s g h1 e1,Voks.stAll s g h2 e2]
   | exc x=>rw[e1,e2]at e;cases e
   | stuck=>rw[e1,e2]at e;cases e
  | exc x=>rw[e1]at e;cases e
  | stuck=>rw[e1]at e;cases e
theorem Voks.rd:∀{ws} {vs},Voks κ H F' H' vs ws->Paired (RdV κ F' H') vs (ws.map En.d)
 | [],_,h=>by cases (h);exact .nil
 | w::ws,_,h=>by
  obtain⟨v,r,rfl,h1,h2⟩:=h;exact .cons (Vok.rd h1) (Voks.rd h2)
end
def Tl(κ:Kx)(F H:Hp)(a:Addr)(bs:List Addr)(xs:List D):Prop:=bs=[]/\∃ o d,xs=[.int (a:Int),d]/\H a=!o/\OwnO κ F o d
def Deep(κ:Kx)(H0 F H:Hp)(a:Addr)(bs:List Addr):D->Prop
 | .lst ds=>H a=!(.lst (bs.map V.ref))/\Inn κ H0 F H bs ds
 | .dT kds=>H a=!(.dT ((kds.map Prod.fst).zip (bs.map V.ref)))/\Inn κ H0 F H bs (kds.map Prod.snd)
 | .dK kds=>∃ b1 z,bs=b1++List.flatten z/\H a=!(.lst (b1.map V.ref))/\In2 κ H0 F H b1 z (kds.map Prod.snd)
 | .tup xs=>Tl κ F H a bs xs
 | _=>False
def RawT(F:Hp)(v:V):Prop:=∃ a ob kvs,v=.ref a/\F a=!(.frz ob (.dT kvs))
def RawT.le(l:Le F F')(h:RawT F v):RawT F' v:=let #[a,ob,kvs,e,q]:=h;#[a,ob,kvs,e,l _ _ q]
def Eok(κ:Kx)(H0 F H:Hp)(v:V):En->Prop
 | .fz d=>Rep κ F v d
 | .ow d=>∃ a o,v=.ref a/\H0 a=none/\F a=none/\H a=!o/\OwnO κ F o d
 | .lk d=>Rep κ F v d/\RawT F v
 | .br d=>∃ a o,v=.ref a/\H0 a=!o/\OwnO κ F o d
 | .od _=>∃ a o,v=.ref a/\H0 a=none/\F a=none/\H a=!o/\∀ xs,o≠.tup xs
def En.own:En->Bool
 | .ow _=>true|.od _=>true|_=>false
def shal(i:Nat)(ρ:Rho):Prop:=∀(j:Nat) (d:D),j≠i->ρ[j]?≠!(!(.od d))
structure StOk(κ:Kx)(F0 H0 F H:Hp)(ρ:Rho)(σ:St):Prop where
 gr:Gr F0 H0 F H
 len:ρ.length=σ.length
 val:∀(i:Nat) (w:En),ρ[i]?=!(!w)->∃ v,σ[i]?=!(!v)/\Eok κ H0 F H v w
 sep:∀(i j:Nat) (w w':En) (a:Addr),i≠j->ρ[i]?=!(!w)->ρ[j]?=!(!w')->w.own=true->w'.own=true->σ[i]?=!(!(.ref a))->σ[j]?=!(!(.ref a))->False
 dp:∀(i:Nat) (d:D),ρ[i]?=!(!(.od d))->shal i ρ/\∃ a bs,σ[i]?=!(!(.ref a))/\H0 a=none/\F a=none/\(a::bs).Nodup/\Deep κ H0 F H a bs d /\
  ∀(j:Nat) (w:En) (b:Addr),j≠i->ρ[j]?=!(!w)->w.own=true->b∈a::bs->σ[j]?≠!(!(.ref b))
section
variable{κ:Kx}{F0 H0 F H F' H':Hp}{ρ:Rho}{σ:St}
def Deep.gr(g:Gr F H F' H')(h:Deep κ H0 F H a bs d):Deep κ H0 F' H' a bs d:=by
 cases d<;>first|exact(False.elim h)|exact#[g.h _ _ h.1,Inn.gr g h.2]|skip
 .obtain⟨e,o,d,ex,h1,h2⟩:=h;exact#[e,o,d,ex,g.h _ _ h1,OwnO.le g.f h2]
 obtain⟨b1,z,e,h1,h2⟩:=h;exact#[b1,z,e,g.h _ _ h1,In2.gr g h2]
theorem Inn.at:∀{bs} {ds} {b},Inn κ H0 F H bs ds->b∈bs->∃ us,H0 b=none/\F b=none/\H b=!(.lst us)
 | [],_,_,_,m=>by cases m
 | _::_,[],_,h,_=>h.elim
 | c::bs,e::es,b,#[#[us,xs,e1,h0,hf,hh,r],h],m=>by
  rcases gG.mp m with rfl|m
  .exact#[us,h0,hf,hh]
  exact Inn.at h m
theorem In2.at:∀{bs} {css} {ds} {b},In2 κ H0 F H bs css ds->b∈bs++css.flatten->∃ us,H0 b=none/\F b=none/\H b=!(.lst us)
 | [],[],[],_,_,m=>by simp at m
 | [],_::_,_,_,h,_=>by cases h
 | [],[],_::_,_,h,_=>by cases h
 | _::_,[],_,_,h,_=>by cases h
 | _::_,_::_,[],_,h,_=>by cases h
 | c::bs,cs::css,e::es,b,#[#[xs,e1,h0,hf,hh,r],h],m=>by
  rcases gG.mp m with rfl|m
  .exact#[_,h0,hf,hh]
  rcases gD.mp m with m|m
  .exact In2.at h (tj _ m)
  rcases gD.mp m with m|m
  .exact Inn.at r m
  exact In2.at h (tq _ m)
def Deep.top(h:Deep κ H0 F H a bs d):∃ o,H a=!o/\∀ xs,o≠.tup xs:=by
 cases d<;>first|exact(False.elim h)|exact#[_,h.1,λ_ z=>nomatch z]|skip
 .obtain⟨e,o,d,ex,h1,h2⟩:=h;exact#[o,h1,OwnO.noTup h2]
 obtain⟨b1,B,e,h1,h2⟩:=h;exact#[_,h1,λ_ z=>nomatch z]
def Deep.inn(h:Deep κ H0 F H a bs d)(m:b∈bs):∃ us,H0 b=none/\F b=none/\H b=!(.lst us):=by
 cases d<;>first|exact(False.elim h)|exact Inn.at h.2 m|skip
 .obtain⟨e,_⟩:=h;subst e;cases m
 obtain⟨b1,z,e,h1,h2⟩:=h;subst e;exact In2.at h2 m
theorem Inn.same{G G':Hp}:∀{bs} {ds},(∀ b∈bs,H b=H' b)->(∀ b∈bs,F b=none->F' b=none)->Le F F'->Inn κ H0 F H bs ds->Inn κ H0 F' H' bs ds
 | [],[],_,_,_,h=>h
 | [],_::_,_,_,_,h=>h
 | _::_,[],_,_,_,h=>h
 | b::bs,e::es,k,n,l,#[#[us,xs,e1,h0,hf,hh,r],h] =>
  #[#[us,xs,e1,h0,n b "s" hf,(k b "s").symm.trans hh,Reps.le l _ r],Inn.same (G:=G) (G':=G') (λc m=>k c (gu _ m)) (λc m=>n c (gu _ m)) l h]
theorem In2.same:∀{bs} {css} {ds},(∀ b∈bs++css.flatten,H b=H' b)->(∀ b∈bs++css.flatten,F b=none->F' b=none)->Le F F'->In2 κ H0 F H bs css ds->In2 κ H0 F' H' bs css ds
 | [],[],[],_,_,_,h=>h
 | [],_::_,_,_,_,_,h=>by cases h
 | [],[],_::_,_,_,_,h=>by cases h
 | _::_,[],_,_,_,_,h=>by cases h
 | _::_,_::_,[],_,_,_,h=>by cases h
 | b::bs,cs::css,e::es,k,n,l,#[#[xs,e1,h0,hf,hh,r],h]=>by
  have B:∀ c∈bs++css.flatten,c∈(b::bs)++(cs::css).flatten:=λc m=>by
   grind
  have z:∀ c∈cs,c∈(b::bs)++(cs::css).flatten:=λc m=>by
   simp_all
  exact#[#[xs,e1,h0,n b "s" hf,(k b "s").symm.trans hh,Inn.same (G:=H) (G':=H) (λc m=>k c (z c m)) (λc m=>n c (z c m)) l r],In2.same (λc m=>k c (B c m)) (λc m=>n c (B c m)) l h]
def Deep.same(k:∀ b∈a::bs,H b=H' b)(n:∀ b∈bs,F b=none->F' b=none)(l:Le F F')(h:Deep κ H0 F H a bs d):Deep κ H0 F' H' a bs d:=by
 cases d<;>first|exact(False.elim h)|exact#[(k a "s").symm.trans h.1,Inn.same (G:=H) (G':=H) (λc m=>k c (gu _ m)) n l h.2]|skip
 .obtain⟨e,o,d,ex,h1,h2⟩:=h;exact#[e,o,d,ex,(k a "s").symm.trans h1,OwnO.le l h2]
 obtain⟨b1,z,e,h1,h2⟩:=h;subst e;exact#[b1,z,rfl,(k a "s").symm.trans h1,In2.same (λc m=>k c (gu _ m)) n l h2]
def Eok.gr(g:Gr F H F' H')(h:Eok κ H0 F H v w):Eok κ H0 F' H' v w:=by
 cases w with
 | fz d=>exact Rep.le g.f d h
 | ow d=>obtain⟨a,o,e,e1,e3,e2,r⟩:=h;exact#[a,o,e,e1,g.no e3 e2 (OwnO.noTup r),g.h _ _ e2,OwnO.le g.f r]
 | lk d=>exact#[Rep.le g.f d h.1,RawT.le g.f h.2]
 | br d=>obtain⟨a,o,e,e2,r⟩:=h;exact#[a,o,e,e2,OwnO.le g.f r]
 | od d=>obtain⟨a,o,e,e1,e3,e2,nt⟩:=h;exact#[a,o,e,e1,g.no e3 e2 nt,g.h _ _ e2,nt]
def StOk.grow(S:StOk κ F0 H0 F H ρ σ)(g:Gr F H F' H'):StOk κ F0 H0 F' H' ρ σ :=
 #[S.gr.trans g,S.len,λi w e=>let #[v,e1,q]:=S.val i w e;#[v,e1,Eok.gr g q],S.sep,λi d e=>by
  obtain⟨s1,a,bs,e1,h0,hf,nd,dp,sp⟩:=S.dp i d e;obtain⟨o,ho,nt⟩:=Deep.top dp;exact#[s1,a,bs,e1,h0,g.no hf ho nt,nd,Deep.gr g dp,sp]]
def StOk.s(S:StOk κ F0 H0 F H ρ σ):Le F H:=S.gr.s
def qB{α:Type}{l:List α}{i j:Nat}{x y:α}(h:(l.set i x)[j]?=!y):(j=i/\y=x)\/(j≠i/\l[j]?=!y):=by
 by_cases e:j=i
 .subst e;by_cases hl:j<l[1]
  .simp_all
  simp_all
 rw[hU (tm e)]at h;exact .inr #[e,h]
def StOk.setF(S:StOk κ F0 H0 F H ρ σ){i:Nat}(r:Rep κ F v d):StOk κ F0 H0 F H (ρ.set i (!d[8])) (σ.set i !v):=by
 refine#[S.gr,by simp[S.len],λj w e=>?_,λj k w w' a B ej ek oj ok sj sk=>?_,λj y e=>?_]
 .rcases qB e with⟨rfl,z⟩|⟨ne,z⟩
  .cases z;have hl:j<σ.length:=by
    rw[<- S.len];have:=(gw.mp e).1;simpa using this
   exact#[v,List.getElem?_set_self hl,r]
  obtain⟨u,e1,q⟩:=S.val j w z;exact#[u,by rw[hU (tm ne)];exact e1,q]
 .rcases qB ej with⟨_,z⟩|⟨nj,ej⟩
  .cases z;cases oj
  rcases qB ek with⟨_,z⟩|⟨nk,ek⟩
  .cases z;cases ok
  rw[hU (tm nj)]at sj;rw[hU (tm nk)]at sk;exact S.sep j k w w' a B ej ek oj ok sj sk
 rcases qB e with⟨_,z⟩|⟨nj,ej⟩
 .lia
 obtain⟨s1,a,bs,e1,h0,hf,nd,dp,sp⟩:=S.dp j y ej;refine#[λk z hk ek=>?_,a,bs,by rw[hU (tm nj)];exact e1,h0,hf,nd,dp,λk w b hk ek ok m sk=>?_]
 .rcases qB ek with⟨_,q⟩|⟨_,q⟩
  .lia
  exact s1 k z hk q
 rcases qB ek with⟨_,q⟩|⟨nk,q⟩
 .cases q;cases ok
 rw[hU (tm nk)]at sk;exact sp k w b hk q ok m sk
def StOk.setO(S:StOk κ F0 H0 F H ρ σ){i:Nat}(h0:H0 a=none)(hf:F a=none)(ha:H a=!o)(r:OwnO κ F o d)
  (Z:∀ j w,j≠i->ρ[j]?=!(!w)->w.own=true->σ[j]?≠!(!(.ref a)))
  (Y:∀ j y,j≠i->ρ[j]?=!(!(.od y))->shal j ρ/\∃ c bs,σ[j]?=!(!(.ref c))/\H0 c=none/\F c=none/\(c::bs).Nodup/\Deep κ H0 F H c bs y /\
   (∀ k w b,k≠j->ρ[k]?=!(!w)->w.own=true->b∈c::bs->σ[k]?≠!(!(.ref b)))/\a∉c::bs):StOk κ F0 H0 F H (ρ.set i (!d[9])) (σ.set i (!(.ref a))):=by
 refine#[S.gr,by simp[S.len],λj w e=>?_,λj k w w' b O ej ek oj ok sj sk=>?_,λj y e=>?_]
 .rcases qB e with⟨rfl,z⟩|⟨ne,z⟩
  .cases z;have hl:j<σ.length:=by
    rw[<- S.len];have:=(gw.mp e).1;simpa using this
   exact#[.ref a,List.getElem?_set_self hl,a,o,rfl,h0,hf,ha,r]
  obtain⟨u,e1,q⟩:=S.val j w z;exact#[u,by rw[hU (tm ne)];exact e1,q]
 .have at_:∀{m},m≠i->(σ.set i (!(.ref a)))[m]?=!(!(.ref b))->σ[m]?=!(!(.ref b)):=λ{m} hm h=>by
   rw[hU (tm hm)]at h;exact h
  rcases qB ej with⟨e1,z⟩|⟨nj,U⟩
  .rcases qB ek with⟨e2,_⟩|⟨nk,B⟩
   .exact O (e1.trans e2.symm)
   subst e1;have hl:j<σ.length:=by have:=(gw.mp sj).1;simpa using this
   rw[List.getElem?_set_self hl]at sj;cases sj;exact Z k w' nk B ok (at_ nk sk)
  rcases qB ek with⟨e2,z⟩|⟨nk,B⟩
  .subst e2;have hl:k<σ.length:=by have:=(gw.mp sk).1;simpa using this
   rw[List.getElem?_set_self hl]at sk;cases sk;exact Z j w nj U oj (at_ nj sj)
  exact S.sep j k w w' b O U B oj ok (at_ nj sj) (at_ nk sk)
 rcases qB e with⟨_,z⟩|⟨nj,ej⟩
 .lia
 obtain⟨s1,c,bs,e1,c0,cf,nd,dp,sp,nc⟩:=Y j y nj ej;refine#[λk z hk ek=>?_,c,bs,by rw[hU (tm nj)];exact e1,c0,cf,nd,dp,λk w b hk ek ok m sk=>?_]
 .rcases qB ek with⟨_,q⟩|⟨_,q⟩
  .lia
  exact s1 k z hk q
 rcases qB ek with⟨rfl,_⟩|⟨nk,q⟩
 .have hl:k<σ.length:=by have:=(gw.mp sk).1;simpa using this
  rw[List.getElem?_set_self hl]at sk;cases sk;exact nc m
 rw[hU (tm nk)]at sk;exact sp k w b hk q ok m sk
def StOk.ownAt(S:StOk κ F0 H0 F H ρ σ){j:Nat}{w:En}(e:ρ[j]?=!(!w))(o:w.own=true)(s:σ[j]?=!(!(.ref a))):∃ u,H a=!u:=by
 obtain⟨v,e1,q⟩:=S.val j w e;rw[s]at e1;cases e1;cases w with
 | ow d=>obtain⟨b,u,eb,_,_,e2,_⟩:=q;cases eb;exact#[u,e2]
 | lk d=>cases o
 | od d=>obtain⟨b,u,eb,_,_,e2,_⟩:=q;cases eb;exact#[u,e2]
 | fz d=>cases o
 | br d=>cases o
def StOk.setW(S:StOk κ F0 H0 F H ρ σ)(g:Gr F H F' H'){i:Nat}{w w':En}(q:Vok κ H F' H' v w)(e:w.nm=.ok w'):StOk κ F0 H0 F' H' (ρ.set i !w') (σ.set i !v):=by
 have S':=S.grow g;cases w with
 | fz d=>cases e;exact S'.setF q
 | ow d =>
  cases e;obtain⟨a,o,rfl,e1,e3,e2,r⟩:=q;refine S'.setO (Le.none S.gr.h e1) e3 e2 r (λj w hj ej oj sj=>?_) λj y hj ej=>?_
  .obtain⟨u,z⟩:=S.ownAt ej oj sj;lia
  obtain⟨s1,c,bs,sj,h0,hf,nd,dp,sp⟩:=S.dp j y ej;obtain⟨o',B,O⟩:=Deep.top dp;refine#[s1,c,bs,sj,h0,g.no hf B O,nd,Deep.gr g dp,sp,λm=>?_]
  rcases gG.mp m with rfl|m
  .lia
  obtain⟨us,_,_,z⟩:=Deep.inn dp m;lia
 | br d=>cases e
 | lk d=>cases e
 | od d=>cases e
end
def Way(H:Hp)(n:Nat)(h:Heap)(e:Addr)(cl:aa)(dd:Option Addr)(q:Option aa):Prop :=
 ∃ oe vs,h.get? e=!oe/\oe.cls=cl/\oe.dict=dd/\oe.data=.fields vs/\1<vs.size/\n<=e/\H e=none /\
  ((vs[1]?=some .none/\q=none) \/
   ∃ T oT ts fl,vs[1]?=!(.ref T)/\T≠e/\n<=T/\H T=none/\h.get? T=!oT/\oT.data=.fields ts/\ts[3]?=!fl/\q=!fl)
structure Chg(H:Hp)(n:Nat)(fs:List Addr)(h h':Heap):Prop where
 ex:∃ ch:List Addr,(∀ b∈ch,n<=b/\H b=none/\∀ o,h.get? b=!o->∃ vs,o.data=.fields vs)/\(∀ b o,h.get? b=!o->b∉fs->b∉ch->h'.get? b=!o) /\
  (∀ b o,h.get? b=!o->b∉ch->∃ sl,h'.get? b=some {o with slots:=sl})/\(∀ b o,h.get? b=!o->∃ o',h'.get? b=!o')
 sz:h.objs.size<=h'.objs.size
section
variable{H:Hp}{n:Nat}{fs:List Addr}{h h' h'':Heap}{e:Addr}{cl:aa}{dd:Option Addr}{q:Option aa}
variable{M:Model}{A:aj}{E:aa->ab->Prop}{s:ab}{base:Heap}{env:Env}{outer:List Env}{L:Addr}
end
def Tn:D->aa->Prop
 | .non,u=>u=.none
 | .int i,u=>∃ t,u=.int i t
 | _,_=>False
def AtIs(H:Hp)(n:Nat)(h:Heap)(dd:Option Addr):List (Str×D)->Prop
 | []=>dd=none
 | (nm,d)::_=>∃ dx mA u,dd=!dx/\n<=dx/\H dx=none/\h.Ns1 dx mA/\mA nm=!u/\Tn d u
inductive XOk:Xc->Prop
 | nof (c:Str):XOk (Xc.mk c [])
 | nonf (c:Str):XOk (Xc.mk c [("at",D.non)])
 | intf (c:Str) (n:Nat):XOk (Xc.mk c [("at",D.int n)])
def atc(x:Xc):Option Addr:=match x.fs with
 | []=>none
 | [(_,.int i)]=>!(i.toNat+1)
 | _=>!0
structure Fl(P:Program)(w:World)(mg:Str->Option Value)(outer:List Env)(H:Hp)(s:Shared)(H':Hp)(s':Shared)(e:Addr)(x:Xc)(q:Option Value):Prop where
 os:s'.os=s.os
 bare:AllBare s'.gens
 un:Un (frs outer) [] H H' s.heap s'.heap
 hok:HOk P w H' s'.heap
 sz:s[0]<=s'[0]
 ok:XOk x
 way:∃ C dd,mg x.cls=!(.ref C)/\Way H' s[0] s'.heap e (.ref C) dd q/\AtIs H' s[0] s'.heap dd x.fs
def KE(x:Xc->Prop)(r:R α)(k:α->Prop):Prop:=match r with
 | .ok a=>k a
 | .exc e=>x e
 | .stuck=>False
def KE.bind{f:α->R β}{k:β->Prop}(h:KE x (r.bind f) k):KE x r λa=>KE x (f a) k:=by
 cases r<;>exact h
def KE.imp{k z:α->Prop}(h:KE x r k)(i:∀ a,k a->z a):KE x r z:=by
 cases r with
 | ok a=>exact i a h
 | exc e=>exact h
 | stuck=>exact h
def KE.impX{r:R α}{k z:α->Prop}(h:KE x r k)(i:∀ a,k a->z a)(j:∀ e,x e->x' e):KE x' r z:=by
 cases r with
 | ok a=>exact i a h
 | exc e=>exact j e h
 | stuck=>exact h
def Q4{k:α->Prop}:KE x (R.ok a) k=k a:=rfl
def XP(X:Cx)(F0 H0:Hp)(x:Xc):Prop:=False
def XPS(X:Cx)(F0 H0:Hp)(x:Xc):Prop:=∀(pins:List (Addr×Obj)) (σ:St) (H:Hp) (s:ab) (F' H':Hp) (s':ab) (e:Addr) (q:Option aa),(q=none\/q=some .none)->Gr F0 H0 F' H'->"I" H s ->
 Fl X.prog X.w X.mg X.stack H s H' s' e x q->X.xe (.ref e) s'
def SE(X:Cx)(F0 H0:Hp)(e:Expr)(f:EF):Prop :=
 ∀(pins:List (Addr×Obj)) (s:ab) (σ:St) (F H:Hp) (ρ:Rho) (Q:aa->ab->Prop),StOk (kx X) F0 H0 F H ρ σ->"I" H s ->
  KE (XP X F0 H0) (f ρ) (λw=>∀ v u F' H' s',Gr F H F' H'->Vok (kx X) H F' H' v w->RelV v u->"I" H' s'->Q u s') ->
  X[3] (eval e X.env) Q X.xe s
def ST(X:Cx)(F0 H0:Hp)(e:Expr)(f:TF):Prop :=
 ∀(pins:List (Addr×Obj)) (s:ab) (σ:St) (F H:Hp) (ρ:Rho) (Q:Bool->ab->Prop),StOk (kx X) F0 H0 F H ρ σ->"I" H s ->
  KE (XP X F0 H0) (f ρ) (λb=>∀ F' H' s',Gr F H F' H'->"I" H' s'->Q b s') ->
  X[3] (isTrue e X.env (eval e X.env)) Q X.xe s
def SW(X:Cx)(F0 H0:Hp)(e:Expr)(f:TF):Prop :=
 ∀(z:Sem aa) (pins:List (Addr×Obj)) (s:ab) (σ:St) (F H:Hp) (ρ:Rho) (Q:Bool->ab->Prop),StOk (kx X) F0 H0 F H ρ σ->"I" H s ->
  KE (XP X F0 H0) (f ρ) (λb=>∀ F' H' s',Gr F H F' H'->"I" H' s'->Q b s') ->
  X[3] (isTrue e X.env z) Q X.xe s
def SA(X:Cx)(F0 H0:Hp)(es:List Expr)(f:List EF):Prop :=
 ∀(pos:Pos) (pins:List (Addr×Obj)) (s:ab) (σ:St) (F H:Hp) (ρ:Rho) (Q:List aa->ab->Prop),StOk (kx X) F0 H0 F H ρ σ->"I" H s ->
  KE (XP X F0 H0) (evs f ρ) (λws=>∀ vs us F' H' s',Gr F H F' H'->Voks (kx X) H F' H' vs ws->Vals vs us->"I" H' s'->Q us s') ->
  X[3] (spliced (backTo pos (starEach es X.env))) Q X.xe s
def PostS(X:Cx)(F0 H0 F:Hp)(D:Ends):Out->Prop
 | .nx ρ'=>∀ z F' H',Le F F'->StOk (kx X) F0 H0 F' H' ρ' z->D.nx z H'
 | .bk ρ'=>∀ z F' H',Le F F'->StOk (kx X) F0 H0 F' H' ρ' z->D.bk z H'
 | .ct ρ'=>∀ z F' H',Le F F'->StOk (kx X) F0 H0 F' H' ρ' z->D.ct z H'
 | .rt w=>∀ v F' H',Gr F0 H0 F' H'->Vok (kx X) H0 F' H' v w->D.rt v H'
 | .exc x=>XPS X F0 H0 x
 | .stuck=>False
def SS(X:Cx)(F0 H0:Hp)(st:Stmt)(f:SF):Prop :=
 ∀(pins:List (Addr×Obj)) (s:ab) (σ:St) (F H:Hp) (ρ:Rho) (D:Ends),StOk (kx X) F0 H0 F H ρ σ->"I" H s->PostS X F0 H0 F D (f ρ) ->
  X[3] (exec st X.env) (SP X pins D) X.xe s
def SSs(X:Cx)(F0 H0:Hp)(z:List Stmt)(f:SF):Prop :=
 ∀(pins:List (Addr×Obj)) (s:ab) (σ:St) (F H:Hp) (ρ:Rho) (D:Ends),StOk (kx X) F0 H0 F H ρ σ->"I" H s->PostS X F0 H0 F D (f ρ) ->
  X[3] (execs z X.env) (SP X pins D) X.xe s
def PostS.le{F0 H0 F F':Hp}{D:Ends}(l:Le F F'){o:Out}(h:PostS X F0 H0 F D o):PostS X F0 H0 F' D o:=by
 cases o with
 | nx ρ=>exact λz F2 H2 l2 S=>h z F2 H2 (Le.trans l l2) S
 | bk ρ=>exact λz F2 H2 l2 S=>h z F2 H2 (Le.trans l l2) S
 | ct ρ=>exact λz F2 H2 l2 S=>h z F2 H2 (Le.trans l l2) S
 | rt w=>exact h
 | exc x=>exact h
 | stuck=>exact h
def PostS.of{D:Ends}{r:R α}{k:α->Out}(h:PostS X F0 H0 F D (sOf r k)):KE (XP X F0 H0) r λa=>PostS X F0 H0 F D (k a):=by
 cases r<;>exact h
def kg(X:Cx)(e:Expr):TE:=λσ H Q=>∀(pins:List (Addr×Obj)) (s:ab),"I" H s->X[3] (eval e X.env) (EP X pins σ Q) X.xe s
def jd:PE X e (kg X e):=λpins s σ H Q I h=>h pins s I
def SE.sem(h:"S" e f){σ:St}{F H:Hp}{ρ:Rho}{Q:VK}(S:StOk (kx X) F0 H0 F H ρ σ)
  (k:KE (XP X F0 H0) (f ρ) λw=>∀ v F' H',Gr F H F' H'->Vok (kx X) H F' H' v w->Q v H'):kg X e σ H Q :=
 λpins s I=>h pins s σ F H ρ _ S I (k.imp λw q v u F' H' s' g vo r I'=>#[v,H',I',r,q v F' H' g vo])
def To(X:Cx)(e:Expr):TT:=λσ H Q=>∀(pins:List (Addr×Obj)) (s:ab),"I" H s->X[3] (isTrue e X.env (eval e X.env)) (TP X pins σ Q) X.xe s
def Tp:PT X e (To X e):=λpins s σ H Q I h=>h pins s I
def Q5(X:Cx)(st:List Stmt):TS:=λD σ H=>∀(pins:List (Addr×Obj)) (s:ab),"I" H s->X[3] (execs st X.env) (SP X pins D) X.xe s
def xJ{st:List Stmt}:PSs X st (Q5 X st):=λpins s σ H D I h=>h pins s I
structure Nm(X:Cx)(i:Nat)(x:Str):Prop where
 n:X.N[i]?=!x
 v:Vis X.env.scope x
 d:(x==("__debug__":Str))=false
 c:(x==("__classdict__":Str))=false
def pvN{i:Nat}(h:Nm X i x):PE X (.Name x pos) (uX i):=Wf h.n h.v h.d h.c
section
variable{X:Cx}{F0 H0:Hp}
def qa(i){x:Str}{pos:Pos}(z:(Nm X i x)["t"]):"S" (.Name x pos) (q9 i):=by
 intro pins s σ F H ρ Q S I h;have go:∀ w w',ρ[i]?=!(!w)->(∀ v,Eok (kx X) H0 F H v w->Vok (kx X) H F H v w') ->
   (∀ v u F' H' s',Gr F H F' H'->Vok (kx X) H F' H' v w'->RelV v u->"I" H' s'->Q u s')->X[3] (eval (.Name x pos) X.env) Q X.xe s:=λw w' e t k=>by
  obtain⟨v,e1,q⟩:=S.val i w e;refine thn (pvN z pins s σ H (λv' H'=>v'=v/\H'=H) I #[v,e1,rfl,rfl]) λu s' #[v',H',I',r,ev,eh]=>?_
  subst ev eh;exact k v' u F H' s' (Gr.refl S.s) (t v' q) r I'
 cases e:ρ[i]? with
 | none=>delta q9 at h;rw[e]at h;exact h.elim
 | some w =>
  cases w with
  | none=>delta q9 at h;rw[e]at h;exact h.elim
  | some w =>
   delta q9 at h
   rw[e]at h;cases w with
   | fz d=>exact go _ d[8] e (λv q=>q) h
   | ow d=>exact go _ (.br d) e (λv #[a,o,e1,_,_,e2,r]=>#[a,o,e1,e2,r]) h
   | lk d=>exact go _ d[8] e (λv q=>q.1) h
   | od d=>exact h.elim
   | br d=>exact go _ (.br d) e (λv #[a,o,e1,e2,r]=>#[a,o,e1,S.gr.h _ _ e2,r]) h
def xK(h:PE X e (tC v))(r:∀ F,Rep (kx X) F v d):"S" e (eC d):=by
 refine λpins s σ F H ρ Q S I k=>thn (h pins s σ H (λv' H'=>v'=v/\H'=H) I #[rfl,rfl]) λu s' #[v',H',I',rv,ev,eh]=>?_
 subst ev eh;exact k v' u F H' s' (Gr.refl S.s) (r F) rv I'
def qe{j pos}:"S" (.Constant i[6] j pos) i[5]:=xK Mf λ_=>rfl
def jI{j pos}:"S" (.Constant (.bool b) j pos) (eC (.bl b)):=xK Mg λ_=>rfl
def xL{j pos}:"S" (.Constant .none j pos) (eC .non):=xK Mh λ_=>rfl
def wD{j pos}:"S" (.Constant (.str x) j pos) (eC (.str x)):=xK Mi λ_=>rfl
def WJ(z:X.mg x=!u)(r:RelV v u)(q:∀ F,Rep (kx X) F v d)(B:(Gl X x)["r"])(hd:((x==("__debug__"))=false)["d"]) :
  "S" (.Name x pos) (eC d):=xK (Mj B z r hd) q
abbrev Wish(X:Cx)(F H:Hp)(r:R En)(Q:VK):Prop:=KE (λ_=>False) r λw=>∀ v F' H',Gr F H F' H'->Vok (kx X) H F' H' v w->Q v H'
def OpD(X:Cx)(f:aa->aa->Sem aa)(g:D->D->R En):Prop :=
 ∀(pins:List (Addr×Obj)) (s:ab) (σ:St) (F H:Hp) (x y:V) (v u:aa) (dx dy:D) (Q:VK),"I" H s->Le F H->RelV x v->RelV y u->RdV (kx X) F H x dx->RdV (kx X) F H y dy->Wish X F H (g dx dy) Q ->
  X[3] (f v u) (EP X pins σ Q) X.xe s
def zM(X:Cx)(f:aa)(g:List D->R En):Prop :=
 ∀(pins:List (Addr×Obj)) (s:ab) (σ:St) (F H:Hp) (xs:List V) (us:List aa) (ds:List D) (Q:VK),"I" H s->Le F H->Vals xs us->Paired (RdV (kx X) F H) xs ds->Wish X F H (g ds) Q ->
  X[3] (call f us) (EP X pins σ Q) X.xe s
variable{a b:Expr}{fa fb:EF}{pos:Pos}{g:D->D->R En}
def yq{Q:aa->ab->Prop}{pins:List (Addr×Obj)}{σ:St}(B:Gr F H F2 H2)
  (h:KE (XP X F0 H0) r λw=>∀ v u F' H' s',Gr F H F' H'->Vok (kx X) H F' H' v w->RelV v u->"I" H' s'->Q u s') :
  Wish X F2 H2 r λv H'=>∀ u s',RelV v u->"I" H' s'->Q u s':=by
 exact KE.impX h (λw k v F' H' g' q u s' r I=>(k v u F' H' s' (B.trans g') (Vok.older (λa e=>Le.none B.h e) q) r I)) λ_ z=>z.elim
def vE{pins:List (Addr×Obj)}{σ:St}{t:Sem aa}{s:ab}
  (h:X[3] t (EP X pins σ λv H'=>∀ u s',RelV v u->"I" H' s'->Q u s') X.xe s):X[3] t Q X.xe s :=
 thn h λu s' #[v,H',I',r,q]=>q u s' r I'
def two{f:aa->aa->Sem aa}(B:"S" a fa)(O:"S" b fb){pins:List (Addr×Obj)}{s:ab}{σ:St}{F H:Hp}{ρ:Rho}{Q:aa->ab->Prop}(S:StOk (kx X) F0 H0 F H ρ σ)(I:"I" H s)
  (h:KE (XP X F0 H0) (eOp g fa fb ρ) λw=>∀ v u F' H' s',Gr F H F' H'->Vok (kx X) H F' H' v w->RelV v u->"I" H' s'->Q u s')
  (U:∀ s F H x y v u dx dy Q,"I" H s->Le F H->RelV x v->RelV y u->RdV (kx X) F H x dx->RdV (kx X) F H y dy->Wish X F H (g dx dy) Q ->
   X[3] (f v u) (EP X pins σ Q) X.xe s) :
  X[3] (eval a X.env) (λv z=>X[3] (eval b X.env) (λu s₂=>X[3] (f v u) Q X.xe s₂) X.xe z) X.xe s:=by
 exact B pins s σ F H ρ _ S I ((KE.bind h).imp λwx h1 v u F1 H1 s1 g1 q1 r1 I1=>(O pins s1 σ F1 H1 ρ _ (S.grow g1) I1 ((KE.bind h1).imp λwy h2 v2 u2 F2 H2 s2 g2 q2 r2 I2=>(vE (U s2 F2 H2 v v2 u u2 wx.d wy.d _ I2 g2.s r1 r2 (RdV.gr g2 (Vok.rd q1)) (Vok.rd q2) (yq (g1.trans g2) h2))))))
def qt(z:OpD X (binaryOp op) g)(B:"S" a fa)(O:"S" b fb):"S" (.BinOp a op b pos) (eOp g fa fb) :=
 λpins s σ F H ρ Q S I h=>wpAny_BinOp (two B O S I h λs F H x y v u dx dy Q=>z pins s σ F H x y v u dx dy Q)
def vF(z:OpD X (compareOp op) g)(B:"S" a fa)(O:"S" b fb)(U:behindInMarks op b=false:=by first|exact Wg _ "d" "d"|rfl) :
  "S" (.Compare a [op] [b] pos) (eOp g fa fb) :=
 λpins s σ F H ρ Q S I h=>wpAny_Compare1 (two B O S I h λs F H x y v u dx dy Q=>z pins s σ F H x y v u dx dy Q) U
def jo{Q:VK}(s:Le F H)(h:Wish X F H (.ok d[8]) Q)(r:Rep (kx X) F v d):Q v H:=h v F H (Gr.refl s) r
def vG(z:OpR X f r)
  (h:∀ F H x y dx dy Q,Le F H->RdV (kx X) F H x dx->RdV (kx X) F H y dy->Wish X F H (g dx dy) Q->r x y H Q):OpD X f g :=
 λpins s σ F H x y v u dx dy Q I l rx ry qx qy w=>z pins s σ H x y v u Q I rx ry (h F H x y dx dy Q l qx qy w)
def jR:OpD X (binaryOp .Sub) jc:=vG MQ λF H x y dx dy Q l qx qy w=>by
 cases dx<;>first|exact w.elim|skip
 cases dy<;>first|exact w.elim|skip
 exact#[_,_,RdV.int qx,RdV.int qy,jo l w rfl]
def v7:OpD X (binaryOp .Mult) jJ:=vG MR λF H x y dx dy Q l qx qy w=>by
 cases dx<;>first|exact w.elim|skip
 cases dy<;>first|exact w.elim|skip
 rename_i i j
 delta jJ at w
 dsimp only at w;by_cases c:(fits b64 i||fits b64 j)=true
 .rw[if_pos c]at w;have c:(-(2 ^ 64)<i/\i<2 ^ 64)\/(-(2 ^ 64)<j/\j<2 ^ 64):=by
   rw[Bool.or_eq_true,fits_iff,fits_iff]at c;lia
  exact#[_,_,RdV.int qx,RdV.int qy,c,jo l w rfl]
 rw[if_neg c]at w;exact w.elim
def wR:OpD X (binaryOp .Mod) vq:=vG MT λF H x y dx dy Q l qx qy w=>by
 cases dx<;>first|exact w.elim|skip
 cases dy<;>first|exact w.elim|skip
 rename_i i j
 delta vq at w
 dsimp only at w;by_cases c:0<j
 .rw[if_pos c]at w;exact#[_,_,RdV.int qx,RdV.int qy,c,jo l w rfl]
 rw[if_neg c]at w;exact w.elim
def kj:OpD X (binaryOp .FloorDiv) vR:=vG MS λF H x y dx dy Q l qx qy w=>by
 cases dx<;>first|exact w.elim|skip
 cases dy<;>first|exact w.elim|skip
 rename_i i j
 delta vR at w
 dsimp only at w;by_cases c:0<j/\j<1073741824
 .rw[if_pos c]at w;exact#[_,_,RdV.int qx,RdV.int qy,c,jo l w rfl]
 rw[if_neg c]at w;exact w.elim
def zH:OpD X (compareOp .Lt) dLt:=vG MW λF H x y dx dy Q l qx qy w=>by
 cases dx<;>first|exact w.elim|skip
 cases dy<;>first|exact w.elim|skip
 exact#[_,_,RdV.int qx,RdV.int qy,jo l w rfl]
def vS:OpD X (compareOp .LtE) dLe:=vG MX λF H x y dx dy Q l qx qy w=>by
 cases dx<;>first|exact w.elim|skip
 cases dy<;>first|exact w.elim|skip
 exact#[_,_,RdV.int qx,RdV.int qy,jo l w rfl]
def xM:OpD X (compareOp .Gt) dGt:=vG MY λF H x y dx dy Q l qx qy w=>by
 cases dx<;>first|exact w.elim|skip
 cases dy<;>first|exact w.elim|skip
 exact#[_,_,RdV.int qx,RdV.int qy,jo l w rfl]
end
mutual
def toPy:D->PyData
 | .non=>.none|.bl b=>.bool b|.int i=>.int i|.str x=>.str x
 | .tup xs=>.tuple (zc xs)|.lst xs=>.list (zc xs)
 | _=>.none
def zc:List D->List PyData
 | []=>[]
 | x::xs=>toPy x::zc xs
end
mutual
theorem Q6:∀(n m:Nat) (a b:D),qK n a=true->qK m b=true->PyData.eqv (toPy a) (toPy b)=deq a b
 | n,m,a,b,ha,hb=>by
  cases a<;>cases b<;>first
   | rfl
   | (simp[qK]at ha;done)
   | (simp[qK]at hb;done)
   | skip
  .rename_i xs ys;cases n with
   | zero=>simp[qK]at ha
   | succ n =>
    cases m with
    | zero=>simp[qK]at hb
    | succ m=>exact Z6 n m xs ys ha hb
  rename_i xs ys;cases n with
  | zero=>simp[qK]at ha
  | succ n =>
   cases m with
   | zero=>simp[qK]at hb
   | succ m=>exact Z6 n m xs ys ha hb
theorem Z6:∀(n m:Nat) (a b:List D),a.all (qK n)=true->b.all (qK m)=true->PyData.eqvAll (zc a) (zc b)=deqs a b
 | _,_,[],[],_,_=>rfl
 | _,_,[],_::_,_,_=>rfl
 | _,_,_::_,[],_,_=>rfl
 | n,m,x::xs,y::ys,ha,hb=>by
  rw[pH,hX]at ha hb;show(PyData.eqv (toPy x) (toPy y)&&PyData.eqvAll (zc xs) (zc ys))=(deq x y&&deqs xs ys);rw[Q6 n m x y ha.1 hb.1,Z6 n m xs ys ha.2 hb.2]
end
def Tq(x:D)(n m:Nat)(z:qK n x=true):∀ ys:List D,ys.all (qK m)=true->((zc ys).any λy=>PyData.eqv y (toPy x))=din x ys:=λys=>ys.rec
 (λ_=>rfl)
 λy ys IH h=>by
  rw[pH,hX]at h;show(PyData.eqv (toPy y) (toPy x)||(zc ys).any λy=>PyData.eqv y (toPy x))=(deq y x||din x ys)
  rw[Q6 m n y x h.1 z,IH h.2]
theorem wS:∀ n d,qK n d=true->(toPy d).canLay0=true/\(toPy d).depth<=n
 | n,.non,_=>#[rfl,tK _]
 | n,.bl _,_=>#[rfl,tK _]
 | n,.int _,_=>#[rfl,tK _]
 | n,.str x,h=>#[by cases n<;>exact h,tK _]
 | 0,.tup _,h=>by simp[qK]at h
 | 0,.lst _,h=>by simp[qK]at h
 | n+1,.tup xs,h=>by
  have k:∀ ys,ys.all (qK n)=true->PyData.canLayAll0 (zc ys)=true/\PyData.depthAll (zc ys)<=n:=by
   intro ys
   induction ys with
   | nil=>intro _;exact#[rfl,tK _]
   | cons y ys ih =>
    intro hy;rw[pH,hX]at hy;obtain⟨a1,a2⟩:=wS n y hy.1;obtain⟨b1,b2⟩:=ih hy.2;refine#[?_,?_]
    .show((toPy y).canLay0&&PyData.canLayAll0 (zc ys))=true;rw[a1,b1];rfl
    show max (toPy y).depth (PyData.depthAll (zc ys))<=n;lia
  obtain⟨k1,k2⟩:=k xs h;exact#[k1,Nat.succ_le_succ k2]
 | n+1,.lst xs,h=>by
  have k:∀ ys,ys.all (qK n)=true->PyData.canLayAll0 (zc ys)=true/\PyData.depthAll (zc ys)<=n:=by
   intro ys
   induction ys with
   | nil=>intro _;exact#[rfl,tK _]
   | cons y ys ih =>
    intro hy;rw[pH,hX]at hy;obtain⟨a1,a2⟩:=wS n y hy.1;obtain⟨b1,b2⟩:=ih hy.2;refine#[?_,?_]
    .show((toPy y).canLay0&&PyData.canLayAll0 (zc ys))=true;rw[a1,b1];rfl
    show max (toPy y).depth (PyData.depthAll (zc ys))<=n;lia
  obtain⟨k1,k2⟩:=k xs h;exact#[k1,Nat.succ_le_succ k2]
 | n,.dK _,h=>by cases n<;>simp[qK]at h
 | n,.dT _,h=>by cases n<;>simp[qK]at h
 | n,.xc _ _,h=>by cases n<;>simp[qK]at h
section
variable{X:Cx}{pins:List (Addr×Obj)}{σ:St}{F H:Hp}{s:ab}
mutual
theorem Z7(I:"I" H s)(l:Le F H):∀(n:Nat) (d:D) {v:V} {u:aa},qK n d=true->Rep (kx X) F v d->RelV v u->∃ as,Reads s.heap u (toPy d) as
 | _,.non,v,u,_,r,q=>by cases (show v=.non from r);cases (show u=Value.none from q);exact#[_,.none]
 | _,.bl b,v,u,_,r,q=>by cases (show v=.bl b from r);cases (show u=Value.bool b from q);exact#[_,.bool b]
 | _,.int i,v,u,_,r,q=>by cases (show v=.int i from r);obtain⟨t,rfl⟩:=(show ∃ t,u=Value.int i t from q);exact#[_,.int i t]
 | _,.str x,v,u,_,r,q=>by cases (show v=.str x from r);obtain⟨t,rfl⟩:=(show ∃ t,u=Value.str x t from q);exact#[_,.str x t]
 | 0,.tup _,_,_,h,_,_=>by simp[qK]at h
 | 0,.lst _,_,_,h,_,_=>by simp[qK]at h
 | n+1,.tup ds,v,u,h,r,q=>by
  obtain⟨a,vs,rfl,hq,rs⟩:=r;cases (show u=Value.ref a from q)
  obtain⟨its,rv,⟨o,e1,e2,m,e3⟩,hz⟩:=I.tuple (SqT.le l hq);obtain⟨as,hr⟩:=Q7 I l n ds h rs rv;exact#[_,.tuple e1 e2 e3 hr[""]]
 | n+1,.lst ds,v,u,h,r,q=>by
  obtain⟨a,vs,rfl,hq,rs⟩:=r;cases (show u=Value.ref a from q)
  obtain⟨its,rv,⟨o,m,e1,e2,_,e3⟩,hz⟩:=I.list (SqL.le l hq);obtain⟨as,hr⟩:=Q7 I l n ds h rs rv;exact#[_,.list e1 e2 e3 hr[""]]
 | n,.dK _,_,_,h,_,_=>by cases n<;>simp[qK]at h
 | n,.dT _,_,_,h,_,_=>by cases n<;>simp[qK]at h
 | n,.xc _ _,_,_,h,_,_=>by cases n<;>simp[qK]at h
theorem Q7(I:"I" H s)(l:Le F H):∀(n:Nat) (ds:List D) {vs:List V} {us:List aa},ds.all (qK n)=true->Reps (kx X) F vs ds->Vals vs us->∃ as,ReadsAll s.heap us (zc ds) as
 | n,[],vs,us,_,r,q=>by
  cases (show vs=[]from r)
  cases q;exact#[_,.nil]
 | n,d::ds,vs,us,h,r,q=>by
  obtain⟨v,r',rfl,r1,r2⟩:=r;rw[pH,hX]at h;cases q with
  | cons q1 q2 =>
   obtain⟨as,h1⟩:=Z7 I l n d h.1 r1 q1;obtain⟨bs,h2⟩:=Q7 I l n ds h.2 r2 q2;exact#[_,.cons h1 h2]
end
def km(I:"I" H s)(l:Le F H){n:Nat}(h:qK n d=true)(r:RdV (kx X) F H v d)(q:RelV v u):∃ as,Reads s.heap u (toPy d) as:=by
 rcases r with r|⟨a,o,rfl,e2,r⟩
 .exact Z7 I l n d h r q
 cases d with
 | lst ds =>
  cases n with
  | zero=>simp[qK]at h
  | succ n =>
   cases o with
   | lst vs =>
    cases (q);obtain⟨its,rv,⟨o,m,e1,e2,_,e3⟩,hz⟩:=I.list (SqL.of e2);obtain⟨as,hr⟩:=Q7 I l n ds h r rv;exact#[_,.list e1 e2 e3 hr[""]]
   | _=>exact r.elim
 | _=>exact Z7 I l n _ h (RdV.flat (.inr #[a,o,rfl,e2,r]) (λ_ e=>nomatch e) (λ_ e=>by cases e<;>(cases n<;>simp[qK]at h)) λ_ e=>by cases e<;>(cases n<;>simp[qK]at h)) q
end
section
variable{X:Cx}{F0 H0:Hp}
def jX(z:X.A.units+10<cLine):OpD X (compareOp .Eq) dEq:=by
 intro pins s σ F H x y v u dx dy Q I l rx ry qx qy w
 delta dEq at w
 by_cases c:(eqok dx&&eqok dy)=true
 .rw[if_pos c]at w;rw[hX]at c;obtain⟨as,h1⟩:=km I l c.1 qx rx;obtain⟨bs,h2⟩:=km I l c.2 qy ry;obtain⟨a1,a2⟩:=wS 8 dx c.1;obtain⟨b1,b2⟩:=wS 8 dy c.2;refine SeqAt.compareEq_reads h1 h2 a1 b1 "" ?_
  rw[Q6 8 8 dx dy c.1 c.2];exact#[.bl _,H,I,rfl,jo l w rfl]
 rw[if_neg c]at w;exact w.elim
def zN(z:X.A.units+10<cLine):OpD X (compareOp .NotEq) dNe:=by
 intro pins s σ F H x y v u dx dy Q I l rx ry qx qy w
 delta dNe at w
 by_cases c:(eqok dx&&eqok dy)=true
 .rw[if_pos c]at w;rw[hX]at c;obtain⟨as,h1⟩:=km I l c.1 qx rx;obtain⟨bs,h2⟩:=km I l c.2 qy ry;obtain⟨a1,a2⟩:=wS 8 dx c.1;obtain⟨b1,b2⟩:=wS 8 dy c.2;refine SeqAt.compareNe_reads h1 h2 a1 b1 "" ?_
  rw[Q6 8 8 dx dy c.1 c.2];exact#[.bl _,H,I,rfl,jo l w rfl]
 rw[if_neg c]at w;exact w.elim
theorem RepK.look:∀{kds:List (Sum Int Str×D)} {kvs:List (Key×V)} (k:Key),RepK κ F kvs kds->(∃ v d,js kvs k=!v/\look k kds=!d/\Rep κ F v d)\/(js kvs k=none/\look k kds=none)
 | [],_,k,h=>by cases (h);exact .inr #[rfl,rfl]
 | (q,d)::r,_,k,h=>by
  obtain⟨v,kr,rfl,h1,h2⟩:=h;by_cases e:q=k
  .refine .inl #[v,d,?_,?_,h1]
   .simp[js,e]
   simp[L3.look,e]
  rcases RepK.look k h2 with⟨v',d',a,b,c⟩|⟨a,b⟩
  .refine .inl #[v',d',?_,?_,c]
   .simpa[js,e]using a
   simpa[L3.look,e]using b
  refine .inr #[?_,?_]
  .simpa[js,e]using a
  simpa[L3.look,e]using b
theorem RepK.length:∀{kds} {kvs},RepK κ F kvs kds->kvs[1]=kds[1]
 | [],_,h=>by cases (h);rfl
 | (q,d)::r,_,h=>by
  obtain⟨v,kr,rfl,h1,h2⟩:=h;simp[RepK.length h2]
def Inv.dictK{s:ab}(I:"I" H s)(h:SqK (kx X) H a kvs) :
  (a==sysModules)=false/\∃ vs,KV kvs vs/\s.heap.DictOf (jk X.prog X.w) a vs:=by
 rcases h with h|⟨hs,o,es,ep,vs,hk,h1,h2,h3,h4,h5,h6⟩
 .obtain⟨_,hd,vs,z,dd⟩:=Q1 I.hok h;exact#[hd,vs,z,dd]
 exact#[hs,vs,h6,o,es,ep,I.kIn a o hk,h1,h2,h3,h4,h5]
def Z8(e:zq d=!k)(r:RdV κ F H v d)(q:RelV v u):RelV (kV k) u:=by
 cases d with
 | int i=>cases e;cases RdV.int r;exact q
 | str x=>cases e;cases RdV.str r;exact q
 | _=>cases e
def IxD(X:Cx)(g:D->D->R En):Prop :=
 ∀(value z:Expr) (pins:List (Addr×Obj)) (s:ab) (σ:St) (F H:Hp) (x y:V) (v u:aa) (dx dy:D) (Q:VK),"I" H s->Le F H->RelV x v->RelV y u->RdV (kx X) F H x dx->RdV (kx X) F H y dy->Wish X F H (g dx dy) Q ->
  subscripted z false v u=operate [v,u] (getItem v u)->X[3] (subscriptTail value z v u) (EP X pins σ Q) X.xe s
variable{a b:Expr}{fa fb:EF}{pos:Pos}{g:D->D->R En}
def Q8(z:IxD X g)(B:"S" a fa)(O:"S" b fb)(U:ym b:=by exact λ_ _=>rfl):"S" (.Subscript a b pos) (eOp g fa fb) :=
 λpins s σ F H ρ Q S I h=>Subscript_ (two B O S I h λs F H x y v u dx dy Q I l rx ry qx qy w=>z a b pins s σ F H x y v u dx dy Q I l rx ry qx qy w (U _ _))
def WK{xs:List α}{ys:List β}(h:xs[1]=ys[1]){i:Int}{x:α}(e:ati xs i=!x):∃ j:Nat,xs[j]?=!x/\∀ y,ys[j]?=!y->atI ys i=!y:=by
 delta ati at e
 cases q:ixn xs[1] i with
 | none=>rw[q]at e;cases e
 | some j =>
  rw[q]at e;refine#[j,e,λy hy=>?_]
  delta atI
  have:ixN ys[1] i=!j:=by rw[<- h];exact q
  rw[this];exact hy
def qc:D->D->R En
 | .lst xs,.int i=>okD (ati xs i)
 | .tup xs,.int i=>okD (ati xs i)
 | _,_=>.stuck
def WL:IxD X qc:=by
 intro value B pins s σ F H x y v u dx dy Q I l rx ry qx qy w hs;cases dx<;>first|exact w.elim|skip
 .rename_i ds;cases dy<;>first|exact w.elim|skip
  rename_i i
  delta qc at w
  dsimp only at w;cases e:ati ds i with
  | none=>rw[e]at w;exact w.elim
  | some d =>
   rw[e]at w;obtain⟨p,vs,rfl,hq,_,rs⟩:=RdV.tup l qx;obtain⟨j,ej,k⟩:=WK (Reps.length rs).symm e;obtain⟨z,ez,rz⟩:=Reps.get rs ej;exact GC value B pins s σ H _ _ v u Q I rx ry #[p,vs,i,z,rfl,RdV.int qy,hq,k z ez,jo l w rz] hs
 rename_i ds;cases dy<;>first|exact w.elim|skip
 rename_i i
 delta qc at w
 dsimp only at w;cases e:ati ds i with
 | none=>rw[e]at w;exact w.elim
 | some d =>
  rw[e]at w;obtain⟨p,vs,rfl,hq,rs⟩:=RdV.lst l qx;obtain⟨j,ej,k⟩:=WK (Reps.length rs).symm e;obtain⟨z,ez,rz⟩:=Reps.get rs ej;exact ix_list value B pins s σ H _ _ v u Q I rx ry #[p,vs,i,z,rfl,RdV.int qy,hq,k z ez,jo l w rz] hs
def qm(z:"S" a fa)(B:"S" b fb)(O:ym b:=by exact λ_ _=>rfl):"S" (.Subscript a b pos) (eOp qc fa fb):=Q8 WL z B O
def xN:D->D->R En
 | .dK kvs,k=>(match zq k with|some q=>okD (look q kvs)|none=>.stuck)
 | _,_=>.stuck
def Ts:IxD X xN:=by
 intro value B pins s σ F H x y v u dx dy Q I l rx ry qx qy w hs;cases dx<;>first|exact w.elim|skip
 delta xN at w
 dsimp only at w;cases e:zq dy with
 | none=>rw[e]at w;exact w.elim
 | some k =>
  rw[e]at w;dsimp only at w;obtain⟨p,kvs,rfl,hq,rk⟩:=RdV.dK l qx;cases (rx);obtain⟨hd,vs,O,dd⟩:=Inv.dictK I hq;rcases RepK.look k rk with⟨z,d,a1,a2,rz⟩|⟨_,a2⟩
  .rw[a2]at w;obtain⟨w',hw,U⟩:=RelO.some_of (by rw[<- a1];exact O.val k)
   exact tail_any dd.typeIs PySem.F.slot_dict_getitem.lookup (wpAny_getItem_of (kc (Z8 e qy ry)) dd.mapOf hw #[z,H,I.tok _,U,jo l w rz]) hs
  rw[a2]at w;exact w.elim
def Tt(z:"S" a fa)(B:"S" b fb)(O:ym b:=by exact λ_ _=>rfl):"S" (.Subscript a b pos) (eOp xN fa fb):=Q8 Ts z B O
def qg:SA X F0 H0 [] []:=λpos pins s σ F H ρ Q S I h=>tN (h [] [] F H s (Gr.refl S.s) rfl .nil I)
def qb{f:EF}{r:List EF}(z:"S" e f)(B:SA X F0 H0 es r)(O:(starEach (e::es) X.env=(false,eval e X.env)::starEach es X.env)["r"]):SA X F0 H0 (e::es) (f::r):=by
 intro pos pins s σ F H ρ Q S I h;rw[O];exact t5 (z pins s σ F H ρ _ S I ((KE.bind h).imp λw h1 v u F1 H1 s1 g1 q1 r1 I1=>(B pos pins s1 σ F1 H1 ρ _ (S.grow g1) I1 ((KE.bind h1).imp λws h2 vs us F2 H2 s2 g2 q2 r2 I2=>(h2 (v::vs) (u::us) F2 H2 s2 (g1.trans g2) #[v,vs,rfl,Vok.gr g2 q1,Voks.older (λa e=>Le.none g1.h e) q2] (.cons r1 r2) I2)))))
def zO:sz=sizeLine:=pE.symm
def Tu{F H F1 H1:Hp}(s:Le F H)(g:Gr F H F1 H1)(hp:H1 p=none)(r:Reps (kx X) (jK H F1 H1) vs ds) :
  Gr F H (jK H F1 H1) (upd H1 p (.lst vs))/\Vok (kx X) H (jK H F1 H1) (upd H1 p (.lst vs)) (.ref p) (.lst ds)[9]:=by
 obtain⟨g2,_⟩:=vt s g;exact#[(g2.trans (Gr.new g2.s hp)),p,_,rfl,Le.none g.h hp,Le.none g2.s hp,qP,r]
def Tv{F H F1 H1:Hp}(s:Le F H)(g:Gr F H F1 H1)(hp:H1 p=none)(r:Reps (kx X) (jK H F1 H1) vs ds) :
  Gr F H (upd (jK H F1 H1) p (.tup vs)) (upd H1 p (.tup vs))/\Vok (kx X) H (upd (jK H F1 H1) p (.tup vs)) (upd H1 p (.tup vs)) (.ref p) (.tup ds)[8]:=by
 obtain⟨g2,_⟩:=vt s g;have g3:=Gr.newF (o:=.tup vs) g2.s hp;exact#[g2.trans g3,p,vs,rfl,SqT.of qP,Reps.le g3.f _ r]
def jE(h:SA X F0 H0 es f):"S" (.List es pos) (ji f):=by
 refine λpins s σ F H ρ Q S I k=>wpAny_List_spliced (h pos pins s σ F H ρ _ S I ((KE.bind k).imp λws k1 vs us F1 H1 s1 g1 q1 r1 I1=>?_))
 cases e:stAll ws with
 | exc x=>rw[e]at k1;exact k1.elim
 | stuck=>rw[e]at k1;cases k1
 | ok ds =>
  rw[e]at k1;have rs:=Voks.stAll S.s g1 q1 e;by_cases c:ds[1]<=sz
  .have k2:KE (XP X F0 H0) (R.ok (En.ow (.lst ds))) λw=>∀ v u F' H' s',Gr F H F' H'->Vok (kx X) H F' H' v w->RelV v u->"I" H' s'->Q u s':=by
    simpa[if_pos c]using k1
   have hz:vs[1]<=sizeLine:=by rw[Reps.length rs];exact c
   refine#[by rw[<- r1[1]];exact hz,?_]
   obtain⟨g3,q3⟩:=Tu S.s g1 (I1.hok.fresh (gE _)) rs;exact k2 _ _ _ _ _ g3 q3 rfl (I1.laid (λb u e=>gy _ e) (gE _) #[hz,us,0,r1,gN _ rfl])
  have:False:=by simpa[if_neg c,KE]using k1
  cases this
def zP(h:SA X F0 H0 es f):"S" (.Tuple es x1 pos) (jx f):=by
 refine λpins s σ F H ρ Q S I k=>du (h pos pins s σ F H ρ _ S I ((KE.bind k).imp λws k1 vs us F1 H1 s1 g1 q1 r1 I1=>?_))
 cases e:stAll ws with
 | exc x=>rw[e]at k1;exact k1.elim
 | stuck=>rw[e]at k1;cases k1
 | ok ds =>
  rw[e]at k1;have rs:=Voks.stAll S.s g1 q1 e;by_cases c:ds[1]<=sz
  .have k2:KE (XP X F0 H0) (R.ok (En.fz (.tup ds))) λw=>∀ v u F' H' s',Gr F H F' H'->Vok (kx X) H F' H' v w->RelV v u->"I" H' s'->Q u s':=by
    simpa[if_pos c]using k1
   have hz:vs[1]<=sizeLine:=by rw[Reps.length rs];exact c
   refine#[by rw[<- r1[1]];exact hz,?_]
   obtain⟨g3,q3⟩:=Tv S.s g1 (I1.hok.fresh (gE _)) rs;exact k2 _ _ _ _ _ g3 q3 rfl (I1.laid (λb u e=>gy _ e) (gE _) #[hz,us,r1,#[_,gN _ rfl,rfl,_,rfl]])
  have:False:=by simpa[if_neg c,KE]using k1
  cases this
variable{x:Str}{e:Expr}{es:List Expr}{p:Pos}{id T:String}{gc:List D->R En}{f:List EF}
def qM(O:zM X (.builtin id) gc)(U:X.mg x=none)(Y:bootBuiltins x=!(.builtin id))(Z:SA X F0 H0 (e::es) f)(hg:(Gl X x)["r"])(hn:(x≠"__name__")["d"])(z:((x==("__debug__"))=false)["d"])
  (he:(starEach (e::es) X.env=(false,eval e X.env)::starEach es X.env)["r"])(B:((backTo pos (starEach es X.env)).any (·.1)=false)["r"]):"S" (.Call (.Name x p) (e::es) [] pos) (eB gc f):=by
 exact λpins s σ F H ρ Q S I h=>fB (zL I hg U Y (cH (Z pos pins s σ F H ρ _ S I ((KE.bind h).imp λws h1 vs us F1 H1 s1 g1 q1 r1 I1=>(vE (O pins s1 σ F1 H1 vs us _ _ I1 g1.s r1 (Voks.rd q1) (yq g1 h1))))) he B) hn z)
def xO(O:zM X (.type T) gc)(U:X.mg x=none)(Y:bootBuiltins x=!(.type T))(Z:SA X F0 H0 (e::es) f)(hg:(Gl X x)["r"])(hn:(x≠"__name__")["d"])(z:((x==("__debug__"))=false)["d"])
  (he:(starEach (e::es) X.env=(false,eval e X.env)::starEach es X.env)["r"])(B:((backTo pos (starEach es X.env)).any (·.1)=false)["r"]):"S" (.Call (.Name x p) (e::es) [] pos) (eB gc f):=by
 exact λpins s σ F H ρ Q S I h=>fB (zL I hg U Y (tD (Z pos pins s σ F H ρ _ S I ((KE.bind h).imp λws h1 vs us F1 H1 s1 g1 q1 r1 I1=>(vE (O pins s1 σ F1 H1 vs us _ _ I1 g1.s r1 (Voks.rd q1) (yq g1 h1))))) he B) hn z)
def kn(z:yj X fv r)(h:∀ F H xs ds Q,Le F H->Paired (RdV (kx X) F H) xs ds->Wish X F H (gc ds) Q->r xs H Q):zM X fv gc :=
 λpins s σ F H xs us ds Q I l rx qx w=>z pins s σ H xs us Q I rx (h F H xs ds Q l qx w)
def Tw:List D->R En
 | [.lst xs]=>okI xs[1]
 | [.tup xs]=>okI xs[1]
 | _=>.stuck
def WM:zM X (.builtin "len") Tw:=kn GP λF H xs ds Q l qx w=>by
 cases qx with
 | nil=>exact w.elim
 | @cons x d xs ds q1 q2 =>
  cases q2 with
  | cons _ _=>cases d<;>exact w.elim
  | nil =>
   cases d<;>first|exact w.elim|skip
   .obtain⟨p,vs,rfl,hq,_,rs⟩:=RdV.tup l q1;refine#[p,vs,rfl,.inr hq,?_];rw[Reps.length rs];exact jo l w rfl
   obtain⟨p,vs,rfl,hq,rs⟩:=RdV.lst l q1;refine#[p,vs,rfl,.inl hq,?_];rw[Reps.length rs];exact jo l w rfl
def Z9:zM X (.type "list") yn:=kn GQ λF H xs ds Q l qx w=>by
 cases qx with
 | nil=>exact w.elim
 | @cons x d xs ds q1 q2 =>
  cases q2 with
  | cons _ _=>cases d<;>exact w.elim
  | nil =>
   cases d<;>first|exact w.elim|skip
   .obtain⟨p,vs,rfl,hq,_,rs⟩:=RdV.tup l q1;exact#[p,vs,rfl,.inr hq,λq hn=>(w _ _ _ (Gr.new l hn) #[q,_,rfl,hn,Le.none l hn,qP,rs])]
   obtain⟨p,vs,rfl,hq,rs⟩:=RdV.lst l q1;exact#[p,vs,rfl,.inl hq,λq hn=>(w _ _ _ (Gr.new l hn) #[q,_,rfl,hn,Le.none l hn,qP,rs])]
end
section
variable{X:Cx}{F0 H0:Hp}{a b e:Expr}{fa fb f:EF}{pos:Pos}{g:D->D->R En}{t u:TF}
def WN{σ:St}{F H:Hp}{x:V}{v:aa}{d:D}{Q:Bool->ab->Prop}(I:"I" H s)(l:Le F H)(z:RelV x v)(q:RdV (kx X) F H x d)
  (h:KE (XP X F0 H0) (kf d) λb=>∀ s',"I" H s'->Q b s'):X[3] (truthy v) Q X.xe s:=by
 have go:∀ b,TruV X.K x H b->(∀ s',"I" H s'->Q b s')->X[3] (truthy v) Q X.xe s:=λb tv k =>
  thn (G6 pins s σ H x v (λb' H'=>b'=b/\H'=H) I z #[b,tv,rfl,rfl]) λb' s' #[H',I',eb,eh]=>by
   simp_all
 cases d with
 | non=>cases RdV.non q;exact go false rfl h
 | bl b=>cases RdV.bl q;exact go b rfl h
 | int i=>cases RdV.int q;exact go (i != 0) rfl h
 | str y =>
  cases RdV.str q
  delta kf at h
  dsimp only at h;by_cases c:y[1]<=sz
  .rw[if_pos c]at h;exact go _ #[by rw[<- zO];exact c,rfl] h
  rw[if_neg c]at h;exact h.elim
 | tup ds =>
  obtain⟨p,vs,rfl,hq,_,rs⟩:=RdV.tup l q;refine go (not ds.isEmpty) (.inr (.inl #[vs,hq,?_])) h;have:=Reps.length rs
  grind
 | lst ds =>
  obtain⟨p,vs,rfl,hq,rs⟩:=RdV.lst l q;refine go (not ds.isEmpty) (.inl #[vs,hq,?_]) h;have:=Reps.length rs
  grind
 | dK _=>exact h.elim
 | dT _=>exact h.elim
 | xc _ _=>exact h.elim
def qC(z:OpD X (compareOp op) g)(B:"S" a fa)(O:"S" b fb)(U:behindInMarks op b=false:=by first|exact Wg _ "d" "d"|rfl) :
  ST X F0 H0 (.Compare a [op] [b] pos) (tE (eOp g fa fb)):=by
 exact λpins s σ F H ρ Q S I h=>wpAny_isTrue_Compare1 (two B O S I ((KE.bind h).imp λw h1 v u F' H' s' g' q r I'=>(WN I' g'.s r (Vok.rd q) (h1.imp λb k s2 I2=>k F' H' s2 g' I2))) λs F H x y v u dx dy Q=>z pins s σ F H x y v u dx dy Q) U
def je(B:"S" e f)(hp:∀ z,isTrue e X.env z=(do let v <- z;standAt e.pos;holding [v] (truthy v)):=by intro _;rfl):ST X F0 H0 e (tE f):=by
 exact λpins s σ F H ρ Q S I h=>isTrue_plain (B pins s σ F H ρ _ S I ((KE.bind h).imp λw h1 v u F' H' s' g' q r I'=>(WN I' g'.s r (Vok.rd q) (h1.imp λb k s2 I2=>k F' H' s2 g' I2)))) (hp _)
def jF(z:ST X F0 H0 a t):ST X F0 H0 (.UnaryOp .Not a pos) (qG t):=by
 exact λpins s σ F H ρ Q S I h=>isTrue_not (z pins s σ F H ρ _ S I ((KE.bind h).imp λb k F' H' s' g' I'=>k F' H' s' g' I'))
variable{rest:List Expr}
def yr(z:ST X F0 H0 a t):SW X F0 H0 (.BoolOp .And [a] pos) t:=by
 refine λwh pins s σ F H ρ Q S I h=>isTrue_and (z pins s σ F H ρ _ S I (h.imp λc k F' H' s' g' I'=>?_))
 cases c with
 | true=>exact isTrue_and_nil (k F' H' s' g' I')
 | false=>exact k F' H' s' g' I'
def zQ(z:ST X F0 H0 a t):SW X F0 H0 (.BoolOp .Or [a] pos) t:=by
 refine λwh pins s σ F H ρ Q S I h=>isTrue_or (z pins s σ F H ρ _ S I (h.imp λc k F' H' s' g' I'=>?_))
 cases c with
 | false=>exact isTrue_or_nil (k F' H' s' g' I')
 | true=>exact k F' H' s' g' I'
def WO{σ:St}{Q:Bool->ab->Prop}(g':Gr F H F' H'){r:R Bool}(h:KE (XP X F0 H0) r λb=>∀ F2 H2 s2,Gr F H F2 H2->"I" H2 s2->Q b s2) :
  KE (XP X F0 H0) r λb=>∀ F2 H2 s2,Gr F' H' F2 H2->"I" H2 s2->Q b s2:=h.imp λb k F2 H2 s2 g2 I2=>k F2 H2 s2 (g'.trans g2) I2
def wE(z:ST X F0 H0 a t)(B:SW X F0 H0 (.BoolOp .And (b::rest) pos) u):SW X F0 H0 (.BoolOp .And (a::b::rest) pos) (zF t u):=by
 refine λwh pins s σ F H ρ Q S I h=>isTrue_and (z pins s σ F H ρ _ S I ((KE.bind h).imp λc k F' H' s' g' I'=>?_))
 cases c with
 | true=>exact B wh pins s' σ F' H' ρ Q (S.grow g') I' (WO g' k)
 | false=>exact k F' H' s' g' I'
def jS(z:ST X F0 H0 a t)(B:SW X F0 H0 (.BoolOp .Or (b::rest) pos) u):SW X F0 H0 (.BoolOp .Or (a::b::rest) pos) (tOr t u):=by
 refine λwh pins s σ F H ρ Q S I h=>isTrue_or (z pins s σ F H ρ _ S I ((KE.bind h).imp λc k F' H' s' g' I'=>?_))
 cases c with
 | false=>exact B wh pins s' σ F' H' ρ Q (S.grow g') I' (WO g' k)
 | true=>exact k F' H' s' g' I'
def st_w(h:SW X F0 H0 e t):ST X F0 H0 e t:=h _
def Za{σ:St}{Q:aa->ab->Prop}(g':Gr F H F' H'){r:R En}
  (h:KE (XP X F0 H0) r λw=>∀ v u F2 H2 s2,Gr F H F2 H2->Vok (kx X) H F2 H2 v w->RelV v u->"I" H2 s2->Q u s2) :
  KE (XP X F0 H0) r λw=>∀ v u F2 H2 s2,Gr F' H' F2 H2->Vok (kx X) H' F2 H2 v w->RelV v u->"I" H2 s2->Q u s2 :=
 h.imp λw k v u F2 H2 s2 g2 q r I2=>k v u F2 H2 s2 (g'.trans g2) (Vok.older (λa e=>Le.none g'.h e) q) r I2
def Zb(q:RdV (kx X) F H x d)(r:RelV x v)(h:KE (XP X F0 H0) (isB d) P):∃ b,v=.bool b/\P b:=by
 cases d<;>first|exact h.elim|skip
 cases RdV.bl q;cases r;exact#[_,rfl,h]
def yt{op}(h:"S" a fa):"S" (.BoolOp op [a] pos) fa:=λpins s σ F H ρ Q S I k=>BoolOp_one (h pins s σ F H ρ Q S I k)
def wT(z:"S" a fa)(B:"S" (.BoolOp .And (b::rest) pos) fb):"S" (.BoolOp .And (a::b::rest) pos) (w6 fa fb):=by
 refine λpins s σ F H ρ Q S I h=>BoolOp_and (z pins s σ F H ρ _ S I ((KE.bind h).imp λw h1 v u F' H' s' g' q r I'=>?_))
 obtain⟨c,rfl,h2⟩:=Zb (Vok.rd q) r (KE.bind h1);refine pN ?_;cases c with
 | true=>exact B pins s' σ F' H' ρ Q (S.grow g') I' (Za g' h2)
 | false=>exact h2 (.bl false) _ F' H' s' g' rfl rfl I'
def WP(z:"S" a fa):"S" (.UnaryOp .Not a pos) (Z4 fa):=by
 refine λpins s σ F H ρ Q S I h=>UnaryOp_ (z pins s σ F H ρ _ S I ((KE.bind h).imp λw h1 v u F' H' s' g' q r I'=>?_))
 obtain⟨c,rfl,h2⟩:=Zb (Vok.rd q) r (KE.bind h1);exact not_of (pN (h2 (.bl (not c)) _ F' H' s' g' rfl rfl I'))
def Zc(z:ST X F0 H0 c t)(B:"S" a fa)(O:"S" b fb):"S" (.IfExp c a b pos) (eIf t fa fb):=by
 refine λpins s σ F H ρ Q S I h=>wpAny_IfExp (z pins s σ F H ρ _ S I ((KE.bind h).imp λd k F' H' s' g' I'=>?_))
 cases d with
 | true=>exact B pins s' σ F' H' ρ Q (S.grow g') I' (Za g' k)
 | false=>exact O pins s' σ F' H' ρ Q (S.grow g') I' (Za g' k)
end
section
variable{X:Cx}{F0 H0:Hp}{e:Expr}{f:EF}{pos pos':Pos}{st:Stmt}{rest:List Stmt}{p q:SF}{t:TF}
def qE:SSs X F0 H0 [] qq:=λpins s σ F H ρ D S I h=>bC #[σ,H,I,h σ F H Le.refl S]
def qi(h1:SS X F0 H0 st p)(h2:SSs X F0 H0 rest q):SSs X F0 H0 (st::rest) (qf p q):=by
 intro pins s σ F H ρ D S I h;have go:∀ D',D'.rt=D.rt->D'.bk=D.bk->D'.ct=D.ct->PostS X F0 H0 F D' (p ρ)->(∀ B H' s',D'.nx B H'->Inv X pins B H' s'->X[3] (execs rest X.env) (SP X pins D) X.xe s') ->
   X[3] (execs (st::rest) X.env) (SP X pins D) X.xe s:=λD' er eb ec hp hn=>by
  refine dh (thn (h1 pins s σ F H ρ D' S I hp) λfl s1 r=>?_)
  cases fl with
  | next=>obtain⟨B,H',I',r⟩:=r;exact hn B H' s1 r I'
  | ret v=>obtain⟨x,B,H',I',rv,r⟩:=r;exact#[x,B,H',I',rv,by rw[<- er];exact r]
  | brk=>obtain⟨B,H',I',r⟩:=r;exact#[B,H',I',by rw[<- eb];exact r]
  | cont=>obtain⟨B,H',I',r⟩:=r;exact#[B,H',I',by rw[<- ec];exact r]
 delta qf at h
 cases ep:p ρ with
 | nx ρ' =>
  rw[ep]at h;exact go {D with nx:=λB H'=>∃ F',Le F F'/\StOk (kx X) F0 H0 F' H' ρ' B} rfl rfl rfl (by rw[ep];exact λB F' H' l S'=>#[F',l,S']) λB H' s' #[F',l,S'] I'=>(h2 pins s' B F' H' ρ' D S' I' (PostS.le l h))
 | rt w=>rw[ep]at h;exact go {D with nx:=λ_ _=>False} rfl rfl rfl (by rw[ep];exact h) λ_ _ _ z=>z.elim
 | bk ρ'=>rw[ep]at h;exact go {D with nx:=λ_ _=>False} rfl rfl rfl (by rw[ep];exact h) λ_ _ _ z=>z.elim
 | ct ρ'=>rw[ep]at h;exact go {D with nx:=λ_ _=>False} rfl rfl rfl (by rw[ep];exact h) λ_ _ _ z=>z.elim
 | exc x=>rw[ep]at h;exact go {D with nx:=λ_ _=>False} rfl rfl rfl (by rw[ep];exact h) λ_ _ _ z=>z.elim
 | stuck=>rw[ep]at h;cases h
def qj(h1:SS X F0 H0 st p):SSs X F0 H0 [st] p:=by
 refine λpins s σ F H ρ D S I h=>dh (thn (h1 pins s σ F H ρ D S I h) λfl s1 r=>?_)
 cases fl with
 | next=>exact bC r
 | ret v=>exact r
 | brk=>exact r
 | cont=>exact r
def WQ:SS X F0 H0 (.Break pos) yp:=λpins s σ F H ρ D S I h=>wpAny_Break #[σ,H,I,h σ F H Le.refl S]
def Zd(z:"S" e f)(B:(swapsWith e none pos.line X.env=pure false)["r"]):SS X F0 H0 (.Expr e pos) (xH f):=by
 exact λpins s σ F H ρ D S I h=>wpAny_Expr_any (z pins s σ F H ρ _ S I ((PostS.of h).imp λw k v u F' H' s' g q r I'=>(#[σ,H',I',k σ F' H' g.f (S.grow g)]))) I.quiet B
def Q9{P:En->Prop}(h:KE (XP X F0 H0) w.nm P):∃ w',w.nm=.ok w'/\P w'/\w'=w:=by
 cases w with
 | fz d=>exact#[_,rfl,h,rfl]
 | ow d=>exact#[_,rfl,h,rfl]
 | br d=>exact h.elim
 | lk d=>exact h.elim
 | od d=>exact h.elim
def qo(i){x:Str}(z:X.N.Nodup)(B:"S" e f)(hi:(X.N[i]?=!x)["r"])(O:(Loc X.env.scope x)["t"])
  (U:(swapsWith e (!(.Name x pos')) pos.line X.env=pure false)["r"])(Y:(X.fn x=true\/X.env.scope.names.lookup x=some .local)["t"]) :
  SS X F0 H0 (.Assign [.Name x pos'] e pos) (qk i f):=by
 refine λpins s σ F H ρ D S I h=>dU (B pins s σ F H ρ _ S I ((KE.bind (PostS.of h)).imp λw k v u F' H' s' g q r I'=>?_)) U
 obtain⟨w',e1,k2,rfl⟩:=Q9 k;exact yZ I' z hi O r (λs2 I2=>#[_,H',I2,k2 _ F' H' g.f (S.setW g q e1)]) Y
def qw(z:"S" e f):SS X F0 H0 (.Return ↑e pos) (qp f):=by
 refine λpins s σ F H ρ D S I h=>bV (z pins s σ F H ρ _ S I ((KE.bind (PostS.of h)).imp λw k v u F' H' s' g q r I'=>?_))
 obtain⟨w',e1,k2,rfl⟩:=Q9 k;exact#[v,σ,H',I',r,k2 v F' H' (S.gr.trans g) (Vok.older (λa e=>Le.none S.gr.h e) q)]
def zd(i){x:Str}{pos':Pos}(z:(Nm X i x)["t"]):SS X F0 H0 (.Return (!(.Name x pos')) pos) (jy i):=by
 intro pins s σ F H ρ D S I h;have go:∀ w,ρ[i]?=!(!w)->(∀ v,Eok (kx X) H0 F H v w->Vok (kx X) H0 F H v w)->(∀ v F' H',Gr F0 H0 F' H'->Vok (kx X) H0 F' H' v w->D.rt v H') ->
   X[3] (exec (.Return (!(.Name x pos')) pos) X.env) (SP X pins D) X.xe s:=λw ew t k=>by
  obtain⟨v,e1,q⟩:=S.val i w ew;refine bV (thn (pvN z pins s σ H (λv' H'=>v'=v/\H'=H) I #[v,e1,rfl,rfl]) λu s' #[v',H',I',r,ev,eh]=>?_)
  subst ev eh;exact#[v',σ,H',I',r,k v' F H' S.gr (t v' q)]
 delta jy at h
 cases ew:ρ[i]? with
 | none=>rw[ew]at h;cases h
 | some w =>
  rw[ew]at h;cases w with
  | none=>cases h
  | some w =>
   cases w with
   | fz d=>exact go _ ew (λv q=>q) h
   | ow d=>exact go _ ew (λv q=>q) h
   | br d=>exact h.elim
   | lk d=>exact h.elim
   | od d=>exact h.elim
def qF(z:ST X F0 H0 c t)(B:SSs X F0 H0 as p)(O:SSs X F0 H0 bs q):SS X F0 H0 (.If c as bs pos) (sIf t p q):=by
 refine λpins s σ F H ρ D S I h=>wpAny_If (z pins s σ F H ρ _ S I ((PostS.of h).imp λd k F' H' s' g I'=>?_))
 cases d with
 | true=>exact B pins s' σ F' H' ρ D (S.grow g) I' (PostS.le g.f k)
 | false=>exact O pins s' σ F' H' ρ D (S.grow g) I' (PostS.le g.f k)
def ko(i){x:Str}{op:Operator}{g:D->D->R En}(B:X.N.Nodup)(O:OpD X (inplaceOp op) g)(U:"S" e f)(hi:(X.N[i]?=!x)["r"])(Y:(Loc X.env.scope x)["t"])
  (Z:(X.fn x=true\/X.env.scope.names.lookup x=some .local)["t"]):SS X F0 H0 (.AugAssign (.Name x pos') op e pos) (za i g f):=by
 intro pins s σ F H ρ D S I h
 delta za at h
 cases ew:ρ[i]? with
 | none=>rw[ew]at h;exact h.elim
 | some w =>
  rw[ew]at h;cases w with
  | none=>exact h.elim
  | some w =>
   cases w with
   | ow d=>exact h.elim
   | br d=>exact h.elim
   | lk d=>exact h.elim
   | od d=>exact h.elim
   | fz d =>
    obtain⟨v,e1,q⟩:=S.val i _ ew;have ip:PIp X op (λx y H' Q'=>∃ F' dx dy,Le F' H'/\RdV (kx X) F' H' x dx/\RdV (kx X) F' H' y dy/\Wish X F' H' (g dx dy) Q'):=λpins s σ H x y v u Q I rx ry #[F',dx,dy,l,qx,qy,w]=>O pins s σ F' H x y v u dx dy Q I l rx ry qx qy w
    refine MB B hi Y (jd) ip Z pins s σ H D I #[v,e1,U.sem S ((KE.bind (PostS.of h)).imp λwy k y F1 H1 g1 q1=>#[F1,d,wy.d,g1.s,Rep.le g1.f d q |> Or.inl,Vok.rd q1,?_])]
    refine KE.impX (KE.bind k) (λw k2 z F2 H2 g2 q2=>?_) λ_ z=>z.elim
    obtain⟨w',e2,k3,rfl⟩:=Q9 k2;exact k3 _ F2 H2 (Le.trans g1.f g2.f) ((S.grow g1).setW g2 q2 e2)
def StOk.mut{ρ:Rho}{i:Nat}(S:StOk κ F0 H0 F H ρ σ)(B:ρ[i]?=!(!d[9]))(O:σ[i]?=!(!(.ref a)))(r:OwnO κ F o d') :
  StOk κ F0 H0 F (upd H a o) (ρ.set i (!d'[9])) σ:=by
 obtain⟨v,e1,q⟩:=S.val i _ B;rw[O]at e1;cases e1;obtain⟨b,ob,eb,h0,hf,hh,_⟩:=q;cases eb;refine#[#[S.gr.f,λc u h=>?_,λc u h=>?_,S.gr.n],by simpa using S.len,λj w e=>?_,λj k w w' c U ej ek oj ok sj sk=>?_,λj y e=>?_]
 .rw[qu (jH h h0)];exact S.gr.h c u h
 .rw[qu (jH h hf)];exact S.gr.s c u h
 .rcases qB e with⟨rfl,z⟩|⟨ne,z⟩
  .cases z;exact#[_,O,a,o,rfl,h0,hf,qP,r]
  obtain⟨v,e1,q⟩:=S.val j w z;refine#[v,e1,?_];have nb:∀{c},v=.ref c->w.own=true->c≠a:=λ{c} ev ow ec=>by
   subst ev ec;exact S.sep j i w _ c ne z B ow rfl e1 O
  cases w with
  | fz d=>exact q
  | br d=>exact q
  | ow d =>
   obtain⟨c,oc,ec,c0,cf,ch,cr⟩:=q;exact#[c,oc,ec,c0,cf,by rw[qu (nb ec rfl)];exact ch,cr]
  | lk d=>exact q
  | od d =>
   obtain⟨c,oc,ec,c0,cf,ch⟩:=q;exact#[c,oc,ec,c0,cf,by rw[qu (nb ec rfl)];exact ch]
 .have at_:∀{m:Nat} {y},(ρ.set i (!d'[9]))[m]?=!(!y)->y.own=true->∃ y',ρ[m]?=!(!y')/\y'.own=true:=λ{m y} h oy=>by
   rcases qB h with⟨rfl,_⟩|⟨_,z⟩
   .exact#[_,B,rfl]
   exact#[y,z,oy]
  obtain⟨y,Y,Z⟩:=at_ ej oj;obtain⟨y',ek',ok'⟩:=at_ ek ok;exact S.sep j k y y' c U Y ek' Z ok' sj sk
 rcases qB e with⟨_,z⟩|⟨nj,ej⟩
 .cases z
 obtain⟨s1,c,bs,e1,c0,cf,nd,dp,sp⟩:=S.dp j y ej;refine#[λk z hk ek=>?_,c,bs,e1,c0,cf,nd,Deep.same (λb m=>?_) (λ_ _ z=>z) Le.refl dp,λk w b hk ek ok m=>?_]
 .rcases qB ek with⟨_,q⟩|⟨_,q⟩
  .lia
  exact s1 k z hk q
 .refine(qu λz=>?_).symm
  subst z;exact sp i _ _ (tm nj) B rfl m O
 rcases qB ek with⟨rfl,_⟩|⟨_,q⟩
 .exact sp k _ b hk B rfl m
 exact sp k w b hk q ok m
def zR(i){x:Str}{apos cpos np:Pos}(Z:"S" e f)(hN:(Nm X i x)["t"])(B:(attributeBase (.Name x np) "append" X.env (eval (.Name x np) X.env)=eval (.Name x np) X.env)["r"])
  (U:(((backTo cpos (starEach [e] X.env)).all (λx=>not x.1)&&(backToKw cpos (keywordEach [] X.env)).all (λx=>x.1.isSome)
   && decide ([e].length+([]:List Keyword)[1]+(if ([]:List Keyword).isEmpty then 0 else 1)<30))=true)["r"])
  (O:((apos.endLine==cpos.line)=true)["r"]) (Y:(starEach [e] X.env=(false,eval e X.env)::starEach [] X.env)["r"]) (z:((backTo cpos (starEach [] X.env)).any (·.1)=false)["r"])
  (hs:(swapsWith (.Call (.Attribute (.Name x np) "append" apos) [e] [] cpos) none pos.line X.env=pure false)["r"]) :
  SS X F0 H0 (.Expr (.Call (.Attribute (.Name x np) "append" apos) [e] [] cpos) pos) (qY i f):=by
 intro pins s σ F H ρ D S I h
 delta qY at h
 cases ew:ρ[i]? with
 | none=>rw[ew]at h;exact h.elim
 | some w =>
  rw[ew]at h;cases w with
  | none=>cases h
  | some w =>
   cases w with
   | fz d=>exact h.elim
   | br d=>exact h.elim
   | lk d=>exact h.elim
   | od d=>exact h.elim
   | ow d =>
    cases d<;>first|exact h.elim|skip
    rename_i ds;have h:=KE.bind (PostS.of h);obtain⟨v,e1,a,o,rfl,h0,hf,hh,ro⟩:=S.val i _ ew;cases o<;>first|exact ro.elim|skip
    rename_i vs;have P:=k8 (wP (X:=X) fK cD cE xD (pvN (pos:=np) hN) (zo (jd (e:=e)) vC Y) B U O Y z) hs;refine P pins s σ H D I #[_,e1,.inl #[rfl,vs,SqL.of hh],Z.sem S (h.imp λw k y F1 H1 g1 q1=>?_)]
    cases es:w.st with
    | exc x=>rw[es]at k;exact k.elim
    | stuck=>rw[es]at k;exact k.elim
    | ok d =>
     rw[es]at k;have ry:=Vok.st S.s g1 q1 es;obtain⟨g2,_⟩:=vt S.s g1;have lv:vs[1]=ds[1]:=Reps.length ro;by_cases c:ds[1]<sz
     .have k2:PostS X F0 H0 F D (.nx (ρ.set i (!(.lst (ds++[d]))[9]))):=by simpa[if_pos c,KE]using k
      refine#[a,vs,y,rfl,rfl,g1.h _ _ hh,by rw[lv];exact c,?_]
      exact k2 σ _ _ g2.f ((S.grow g2).mut ew e1 (o:=.lst (vs++[y])) (Reps.append (Reps.le g2.f _ ro) (Reps.one ry)))
     have:False:=by simpa[if_neg c,PostS,KE]using k
     exact this.elim
end
section
variable{X:Cx}{F0 H0:Hp}{pos:Pos}{t:TF}{p:SF}
def Ze(n){c:Expr}{body:List Stmt}(hp:PassesOwn (model X.prog X.w) X.A X.env X.xe)(Y:ST X F0 H0 c t)(Z:SSs X F0 H0 body p):SS X F0 H0 (.While c body [] pos) (wQ n t p):=by
 refine λpins s σ F H ρ D S I h=>MD hp (Tp) (xJ) pins s σ H D I
  #[λm σ H=>∃ F' ρ,Le F F'/\StOk (kx X) F0 H0 F' H ρ σ/\PostS X F0 H0 F' D (zk t p m ρ),#[n,F,ρ,Le.refl,S,h],?_]
 rintro m B H1 ⟨F1,ρ1,l1,S1,h1⟩;cases m with
 | zero=>exact h1.elim
 | succ m =>
  refine λO s' I'=>Y O s' B F1 H1 ρ1 _ S1 I' ((PostS.of h1).imp λb k F2 H2 s2 g2 I2=>#[H2,I2,?_])
  cases b with
  | false=>exact k B F2 H2 g2.f (S1.grow g2)
  | true =>
   refine#[λz H'=>∃ F' ρ,Le F F'/\StOk (kx X) F0 H0 F' H' ρ z/\PostS X F0 H0 F' D (zk t p m ρ),λz H' q=>#[m,bn m,q],λU s3 I3=>?_]
   refine Z U s3 B F2 H2 ρ1 _ (S1.grow g2) I3 ?_;cases ep:p ρ1 with
   | nx ρ2=>rw[ep]at k;exact λz F' H' l S'=>#[F',ρ2,Le.trans l1 (Le.trans g2.f l),S',PostS.le (Le.trans g2.f l) k]
   | ct ρ2=>rw[ep]at k;exact λz F' H' l S'=>#[F',ρ2,Le.trans l1 (Le.trans g2.f l),S',PostS.le (Le.trans g2.f l) k]
   | bk ρ2=>rw[ep]at k;exact λz F' H' l S'=>k z F' H' (Le.trans g2.f l) S'
   | rt w=>rw[ep]at k;exact k
   | exc x=>rw[ep]at k;exact k
   | stuck=>rw[ep]at k;exact k
end
structure Walk(κ:Kx)(J:It)(F1 G:Hp)(ds:List D):Prop where
 go:∀(i:Nat) (d:D) (F H:Hp),ds[i]?=!d->Le F1 F->Le F H->Le G H->J.go i H/\∀ x H',J.yld i H x H'->∃ F',Gr F H F' H'/\Rep κ F' x d
 stop:∀(i:Nat) (F H:Hp),ds[1]<=i->Le F1 F->Le F H->Le G H->J.stop i H
def Walk.more(W:Walk κ J F1 G ds)(l:Le G G'):Walk κ J F1 G' ds :=
 #[λi d F H e l1 l2 l3=>W.go i d F H e l1 l2 (Le.trans l l3),λi F H e l1 l2 l3=>W.stop i F H e l1 l2 (Le.trans l l3)]
def SI(X:Cx)(F0 H0:Hp)(tg iter:Expr)(fi:IF):Prop :=
 ∃ wi,PI X tg iter wi/\∀(σ:St) (F H:Hp) (ρ:Rho) (R:It->Hp->Prop),StOk (kx X) F0 H0 F H ρ σ ->
  KE (XP X F0 H0) (fi ρ) (λds=>∀ F1 H1 J,Gr F H F1 H1->Walk (kx X) J F1 H0 ds->R J H1)->wi σ H R
def SIc(X:Cx)(F0 H0:Hp)(tg iter:Expr)(fi:IF):Prop :=
 ∃ wi,PI X tg iter wi/\∀(σ:St) (F H:Hp) (ρ:Rho) (R:It->Hp->Prop),StOk (kx X) F0 H0 F H ρ σ ->
  KE (XP X F0 H0) (fi ρ) (λds=>∀ F1 H1 J,Gr F H F1 H1->Walk (kx X) J F1 H1 ds->R J H1)->wi σ H R
def SI.c(h:SI X F0 H0 tg iter fi):SIc X F0 H0 tg iter fi:=by
 obtain⟨wi,P,k⟩:=h;exact#[wi,P,λσ F H ρ R S q=>k σ F H ρ R S (q.imp λds z F1 H1 J g W=>z F1 H1 J g (W.more (Le.trans S.gr.h g.h)))]
def SG(X:Cx)(F0 H0:Hp)(tg:Expr)(gf:GF):Prop :=
 ∃ z,PG X tg z/\∀(σ:St) (F H:Hp) (ρ:Rho) (v:V) (d:D) (Q:St->Hp->Prop),StOk (kx X) F0 H0 F H ρ σ->Rep (kx X) F v d ->
  KE (λ_=>False) (gf d ρ) (λρ1=>∀ B,StOk (kx X) F0 H0 F H ρ1 B->Q B H)->z v σ H Q
section
variable{X:Cx}{F0 H0:Hp}{pos:Pos}{tg iter:Expr}{fi:IF}{gf:GF}{p:SF}{f:EF}
def qL(i)(z:X.N.Nodup)(hi:(X.N[i]?=!x)["r"])(B:(Loc X.env.scope x)["t"])
  (O:(X.fn x=true\/X.env.scope.names.lookup x=some .local)["t"]):SG X F0 H0 (.Name x pos) (gV i) :=
 #[_,Wi z hi B O,λσ F H ρ v d Q S r h=>h _ (S.setF r)]
theorem WR{Q:St->Hp->Prop}:∀ is ds vs ρ σ,StOk (kx X) F0 H0 F H ρ σ->Reps (kx X) F vs ds ->
  KE (λ_=>False) (gVs is ds ρ) (λρ1=>∀ z,StOk (kx X) F0 H0 F H ρ1 z->Q z H)->Q (List.foldl (λs iv=>s.set iv.1 (!iv.2)) σ (is.zip vs)) H/\is[1]=vs[1]
 | [],[],vs,ρ,σ,S,r,h=>by cases (r);exact#[h σ S,rfl]
 | [],_::_,_,_,_,_,_,h=>h.elim
 | _::_,[],_,_,_,_,_,h=>h.elim
 | i::is,d::ds,_,ρ,σ,S,r,h=>by
  obtain⟨v,vr,rfl,r1,r2⟩:=r;obtain⟨q1,q2⟩:=WR is ds vr _ _ (S.setF r1) r2 h
  simp_all
def SGs(X:Cx)(es:List Expr)(is:List Nat):Prop:=PGs X es (λvs σ H Q=>is[1]=vs[1]/\Q (List.foldl (λs (iv:Nat×V)=>s.set iv.1 (!iv.2)) σ (is.zip vs)) H)
def yu:SGs X [] []:=by
 intro pins s σ H vs us Q I r h;obtain⟨e,q⟩:=h;cases r with
 | nil=>exact Mr pins s σ H [] [] Q I .nil #[rfl,q]
 | cons _ _=>cases e
def v8(i){is:List Nat}(z:X.N.Nodup)(h:SGs X es is)(hi:(X.N[i]?=!x)["r"])(B:(Loc X.env.scope x)["t"])
  (O:(X.fn x=true\/X.env.scope.names.lookup x=some .local)["t"])
  (U:((assignEach (.Name x xp::es) X.env).map (·.2)=assign (.Name x xp) X.env::(assignEach es X.env).map (·.2))["r"]):SGs X (.Name x xp::es) (i::is):=by
 intro pins s σ H vs us Q I r k;obtain⟨e,q⟩:=k;cases r with
 | nil=>cases e
 | cons r1 r2=>exact Ms (Wi z hi B O) h U pins s σ H _ _ Q I (.cons r1 r2) #[_,_,rfl,by simpa using e,q]
def yv{k:Nat}{is:List Nat}(B:X.calm=true)(h:SGs X es is)(O:((assignEach es X.env)[1]=is[1])["r"])(z:((assignEach es X.env).findIdx? (·.1)=none)["r"]):SG X F0 H0 (.Tuple es k pos) (gT is):=by
 refine#[_,Mu B h O z,λσ F H ρ v d Q S r w=>?_]
 cases d<;>first|exact w.elim|skip
 rename_i ds;obtain⟨a,vs,rfl,hq,rs⟩:=r;obtain⟨q1,q2⟩:=WR is ds vs ρ σ S rs w;exact#[a,vs,rfl,SqT.le S.s hq,q2.symm,q2,q1]
def qW(hp:PassesOwn (model X.prog X.w) X.A X.env X.xe)(hc:X.calm=true)(hi:SI X F0 H0 tg iter fi)(hg:SG X F0 H0 tg gf)(hb:SSs X F0 H0 body p)
  (hs:∀ x,foldedSetIterable iter X.env x=pure x:=by intro _;rfl):SS X F0 H0 (.For tg iter body [] pos) (qI fi gf p):=by
 intro pins s σ F H ρ D S I h;obtain⟨wi,Z,hwi⟩:=hi;obtain⟨tgv,PGv,hgv⟩:=hg;refine MN hp hc Z PGv (xJ (st:=body)) hs pins s σ H D I (hwi σ F H ρ _ S ((PostS.of h).imp λds k F1 H1 J g1 W=>?_))
 refine#[λi m σ H=>m=ds[1]-i/\i<=ds[1]/\∃ F' ρ,Le F F'/\Le F1 F'/\StOk (kx X) F0 H0 F' H ρ σ/\PostS X F0 H0 F' D (qH gf p (ds.drop i) ρ),
  #[ds[1],by simp,tK _,F1,ρ,g1.f,Le.refl,S.grow g1,PostS.le g1.f k[""]],?_]
 rintro i m O H2 ⟨rfl,hi,F2,ρ2,lF,l1,S2,h2⟩;by_cases hlt:i<ds[1]
 .have ed:ds[i]?=!ds[i]:=by simp[hlt]
  have Y:ds.drop i=ds[i]::ds.drop (i+1):=fR hlt;obtain⟨go,yl⟩:=W.go i ds[i] F2 H2 ed l1 S2.s S2.gr.h;refine .inr #[go,λz H'=>∃ F' ρ,Le F F'/\Le F1 F'/\StOk (kx X) F0 H0 F' H' ρ z/\PostS X F0 H0 F' D (qH gf p (ds.drop (i+1)) ρ),λz H' q=>#[ds[1]-(i+1),"o",rfl,hlt,q],λx H' y=>?_]
  obtain⟨F3,g3,rx⟩:=yl x H' y;rw[Y]at h2;have S3:=S2.grow g3;refine hgv O F3 H' ρ2 x ds[i] _ S3 rx ?_;cases eg:gf ds[i] ρ2 with
  | exc e=>unfold qH at h2;rw[eg]at h2;exact h2.elim
  | stuck=>unfold qH at h2;rw[eg]at h2;exact h2.elim
  | ok ρ3 =>
   have h3:PostS X F0 H0 F2 D (match p ρ3 with|.nx ρ4=>qH gf p (ds.drop (i+1)) ρ4|.ct ρ4=>qH gf p (ds.drop (i+1)) ρ4|.bk ρ4=>.nx ρ4|o=>o):=by
    unfold qH at h2;rw[eg]at h2;exact h2
   refine λU S4 B s3 I3=>hb B s3 U F3 H' ρ3 _ S4 I3 ?_
   cases ep:p ρ3 with
   | nx ρ4=>rw[ep]at h3;exact λz F' H' l S'=>#[F',ρ4,Le.trans lF (Le.trans g3.f l),Le.trans l1 (Le.trans g3.f l),S',PostS.le (Le.trans g3.f l) h3]
   | ct ρ4=>rw[ep]at h3;exact λz F' H' l S'=>#[F',ρ4,Le.trans lF (Le.trans g3.f l),Le.trans l1 (Le.trans g3.f l),S',PostS.le (Le.trans g3.f l) h3]
   | bk ρ4=>rw[ep]at h3;exact λz F' H' l S'=>h3 z F' H' (Le.trans g3.f l) S'
   | rt w=>rw[ep]at h3;exact h3
   | exc x=>rw[ep]at h3;exact h3
   | stuck=>rw[ep]at h3;exact h3
 have e:i=ds[1]:=""
 subst e;rw[dj]at h2;exact .inl #[W.stop _ F2 H2 (gE _) l1 S2.s S2.gr.h,h2 O F2 H2 Le.refl S2]
theorem Zf{κ:Kx}(z:SqL κ.K F1 a vs)(rs:Reps κ F1 vs ds):Walk κ (Itl κ.K a) F1 G ds where
 go:=λi d F H ed l1 l _=>by
  obtain⟨v,ev,rv⟩:=Reps.get rs ed;have q:=SqL.le l (SqL.le l1 z);refine#[#[vs,v,q,ev],λx H' y=>?_]
  obtain⟨e,y⟩:=y;subst e;have:=y vs q;rw[ev]at this;cases this;exact#[F,Gr.refl l,Rep.le l1 d rv]
 stop:=λi F H hi l1 l _=>#[vs,SqL.le l (SqL.le l1 z),by rw[Reps.length rs];exact hi]
theorem Zg{κ:Kx}(z:SqT κ.K F1 a vs)(rs:Reps κ F1 vs ds):Walk κ (Itt κ.K a) F1 G ds where
 go:=λi d F H ed l1 l _=>by
  obtain⟨v,ev,rv⟩:=Reps.get rs ed;have q:=SqT.le l (SqT.le l1 z);refine#[#[vs,v,q,ev],λx H' y=>?_]
  obtain⟨e,y⟩:=y;subst e;have:=y vs q;rw[ev]at this;cases this;exact#[F,Gr.refl l,Rep.le l1 d rv]
 stop:=λi F H hi l1 l _=>#[vs,SqT.le l (SqT.le l1 z),by rw[Reps.length rs];exact hi]
theorem WS{κ:Kx}(z:SqL κ.K G a vs)(rs:Reps κ F1 vs ds):Walk κ (Itl κ.K a) F1 G ds where
 go:=λi d F H ed l1 l lg=>by
  obtain⟨v,ev,rv⟩:=Reps.get rs ed;have q:=SqL.le lg z;refine#[#[vs,v,q,ev],λx H' y=>?_]
  obtain⟨e,y⟩:=y;subst e;have:=y vs q;rw[ev]at this;cases this;exact#[F,Gr.refl l,Rep.le l1 d rv]
 stop:=λi F H hi l1 l lg=>#[vs,SqL.le lg z,by rw[Reps.length rs];exact hi]
def PI.or(h1:PI X tg iter w1)(h2:PI X tg iter w2):PI X tg iter (λσ H R=>w1 σ H R\/w2 σ H R):=λpins s σ H R I h=>by
 rcases h with h|h
 .exact h1 pins s σ H R I h
 exact h2 pins s σ H R I h
def zr(z:"S" iter f):SI X F0 H0 tg iter (qZ f):=by
 refine#[_,PI.or (JV (jd)) (JW (jd)),λσ F H ρ R S h=>?_]
 have h:=KE.bind h;cases ew:f ρ with
 | exc x=>rw[ew]at h;exact h.elim
 | stuck=>rw[ew]at h;exact h.elim
 | ok w =>
  rw[ew]at h;cases es:w.st with
  | exc x=>rw[Q4,es]at h;exact h.elim
  | stuck=>rw[Q4,es]at h;exact h.elim
  | ok d =>
   rw[Q4,es]at h;cases d<;>first|exact h.elim|skip
   .rename_i ds;refine .inr (z.sem S ?_);rw[ew];intro v F1 H1 g1 q1;obtain⟨g2,_⟩:=vt S.s g1;obtain⟨a,vs,rfl,hq,rs⟩:=Vok.st S.s g1 q1 es;exact#[a,rfl,#[vs,SqT.le g2.s hq],h _ H1 _ g2 (Zg (κ:=kx X) hq rs)]
   rename_i ds;refine .inl (z.sem S ?_);rw[ew];intro v F1 H1 g1 q1;obtain⟨g2,_⟩:=vt S.s g1;obtain⟨a,vs,rfl,hq,rs⟩:=Vok.st S.s g1 q1 es;exact#[a,rfl,#[vs,SqL.le g2.s hq],h _ H1 _ g2 (Zf (κ:=kx X) hq rs)]
def zS(i)(z:(Nm X i x)["t"]):SI X F0 H0 tg (.Name x pos) (iV i):=by
 refine#[_,PI.or (JV (pvN z)) (JW (pvN z)),λσ F H ρ R S h=>?_]
 unfold iV at h;cases ew:ρ[i]? with
 | none=>rw[ew]at h;exact h.elim
 | some w =>
  rw[ew]at h;cases w with
  | none=>exact h.elim
  | some w =>
   obtain⟨v,e1,q⟩:=S.val i w ew;cases w with
   | ow d=>exact h.elim
   | lk d=>exact h.elim
   | od d=>exact h.elim
   | fz d =>
    cases d<;>first|exact h.elim|skip
    .obtain⟨a,vs,rfl,hq,rs⟩:=q;exact .inr #[_,e1,a,rfl,#[vs,SqT.le S.s hq],h F H _ (Gr.refl S.s) (Zg hq rs)]
    obtain⟨a,vs,rfl,hq,rs⟩:=q;exact .inl #[_,e1,a,rfl,#[vs,SqL.le S.s hq],h F H _ (Gr.refl S.s) (Zf hq rs)]
   | br d =>
    obtain⟨a,o,rfl,eh,ro⟩:=q;cases d<;>first|exact h.elim|skip
    .cases o<;>exact ro.elim
    cases o<;>first|exact ro.elim|skip
    exact .inl #[_,e1,a,rfl,#[_,SqL.of (S.gr.h _ _ eh)],h F H _ (Gr.refl S.s) (WS (κ:=kx X) (SqL.of eh) ro)]
def wU(i)(B:(Nm X i x)["t"]):SIc X F0 H0 tg (.Name x pos) (iVc i):=by
 refine#[_,PI.or (JV (pvN B)) (JW (pvN B)),λσ F H ρ R S h=>?_]
 unfold iVc at h;cases ew:ρ[i]? with
 | none=>rw[ew]at h;cases h
 | some w =>
  rw[ew]at h;cases w with
  | none=>cases h
  | some w =>
   obtain⟨v,e1,q⟩:=S.val i w ew;have z:∀{d} {a} {o},v=.ref a->H a=!o->OwnO (kx X) F o d->KE (XP X F0 H0) (xI d) (λds=>∀ F1 H1 J,Gr F H F1 H1->Walk (kx X) J F1 H1 ds->R J H1) ->
     Wl X.K (uX i) σ H R\/Wm X.K (uX i) σ H R:=λ{d a o} ev eh ro h=>by
    subst ev;cases d<;>first|exact h.elim|skip
    .cases o<;>exact ro.elim
    cases o<;>first|exact ro.elim|skip
    exact .inl #[_,e1,a,rfl,#[_,SqL.of eh],h F H _ (Gr.refl S.s) (WS (SqL.of eh) ro)]
   cases w with
   | ow d=>obtain⟨a,o,ev,_,_,eh,ro⟩:=q;exact z ev eh ro h
   | lk d=>cases h
   | od d=>cases h
   | br d=>obtain⟨a,o,ev,eh,ro⟩:=q;exact z ev (S.gr.h _ _ eh) ro h
   | fz d =>
    dsimp only at h;cases d<;>first|exact h.elim|skip
    .obtain⟨a,vs,rfl,hq,rs⟩:=q;exact .inr #[_,e1,a,rfl,#[vs,SqT.le S.s hq],h F H _ (Gr.refl S.s) (Zg (κ:=kx X) hq rs)]
    obtain⟨a,vs,rfl,hq,rs⟩:=q;exact .inl #[_,e1,a,rfl,#[vs,SqL.le S.s hq],h F H _ (Gr.refl S.s) (Zf (κ:=kx X) hq rs)]
theorem Qa:∀ n lo i,(zG lo n)[i]?=if i<n then !(lo+i)[6]else none
 | 0,lo,i=>by simp[zG]
 | n+1,lo,0=>by simp[zG]
 | n+1,lo,i+1=>by
  have:=Qa n (lo+1) i;simp[zG,pI,this];lia
def Zh:∀(n:Nat) (lo:Int),(zG lo n)[1]=n:=λn=>n.recAux
 (λ_=>rfl)
 λn IH lo=>by simp[zG,IH]
def WT(lo:Int)(n:Nat):Walk κ (Itr lo n) F1 G (zG lo n)where
 go:=λi d F H ed l1 l _=>by
  rw[Qa]at ed;by_cases h:i<n
  .rw[if_pos h]at ed;cases ed;refine#[h,λx H' y=>?_]
   obtain⟨e,y⟩:=y;subst e y;exact#[F,Gr.refl l,rfl]
  simp_all
 stop:=λi F H hi l1 l _=>by rw[Zh]at hi;exact hi
def Qb{np cp:Pos}(B:"S" a fa)(O:X.mg "range"=none)(U:(Gl X "range")["r"])(z:(starEach [a] X.env=[(false,eval a X.env)])["r"]):SI X F0 H0 tg (.Call (.Name "range" np) [a] [] cp) (iR1 fa):=by
 refine#[_,MJ U O (zo (jd) vC z) z,λσ F H ρ R S h=>B.sem S ((KE.bind h).imp λw k v F1 H1 g1 q1=>?_)]
 have r:=Vok.rd q1
 revert k
 generalize w.d=d at r;intro k;cases d<;>first|exact k.elim|skip
 rename_i j;dsimp only at k;by_cases c:fits b62 j=true
 .rw[if_pos c]at k;have c:-(2 ^ 62)<=j/\j<2 ^ 62:=by
   rw[fits_iff]at c;lia
  cases RdV.int r;exact#[j,rfl,c.1,c.2,k F1 H1 _ g1 (WT 0 j.toNat)]
 rw[if_neg c]at k;exact k.elim
end
def Args(κ:Kx)(F H:Hp):List V->List En->Prop
 | vs,[]=>vs=[]
 | vs,.fz d::ws=>∃ v r,vs=v::r/\Rep κ F v d/\Args κ F H r ws
 | vs,.br d::ws=>∃ v r,vs=v::r/\(∃ a o,v=.ref a/\H a=!o/\OwnO κ F o d)/\Args κ F H r ws
 | _,_=>False
def spD(κ:Kx)(dn:Den)(n:Nat):Sp:=λvs H Q _=>vs[1]=n/\∃ F ws,Le F H/\Args κ F H vs ws /\
 KE (λ_=>False) (dn ws) λw=>∀ v F' H',Gr F H F' H'->Vok κ H F' H' v w->Q v H'
section
variable{P:ag}{w:World}{K:Frag}{mg:Str->Option aa}{base:Heap}
theorem yw:∀{vs} {ws},Args κ F H vs ws->∀(i:Nat) w,(ws.map some)[i]?=!(!w)->∃ v,(vs.map some)[i]?=!(!v)/\Eok κ H F H v w/\w.own=false
 | _,[],_,i,w,e=>by simp at e
 | _,.fz d::ws,h,0,w,e=>by
  obtain⟨v,r,rfl,h1,h2⟩:=h;simp at e;subst e;exact#[v,rfl,h1,rfl]
 | _,.br d::ws,h,0,w,e=>by
  obtain⟨v,r,rfl,h1,h2⟩:=h;simp at e;subst e;exact#[v,rfl,h1,rfl]
 | _,.fz d::ws,h,i+1,w,e=>by
  obtain⟨v,r,rfl,h1,h2⟩:=h;simpa using yw h2 i w e[""]
 | _,.br d::ws,h,i+1,w,e=>by
  obtain⟨v,r,rfl,h1,h2⟩:=h;simpa using yw h2 i w e[""]
theorem xP:∀{vs} {ws},Args κ F H vs ws->vs[1]=ws[1]
 | _,[],h=>by cases (h);rfl
 | _,.fz d::ws,h=>by obtain⟨v,r,rfl,h1,h2⟩:=h;simp[xP h2]
 | _,.br d::ws,h=>by obtain⟨v,r,rfl,h1,h2⟩:=h;simp[xP h2]
def Tx{ws:List En}(l:Le F H)(h:Args κ F H vs ws):StOk κ F H F H (ws.map some++List.replicate (N[1]-ws[1]) none) (L2.z9 N vs):=by
 have at_:∀ i w,(ws.map some++List.replicate (N[1]-ws[1]) none)[i]?=!(!w)->(ws.map some)[i]?=!(!w):=λi w e=>by
  by_cases hi:i<ws[1]
  .rwa [t8 hi[""]]at e
  rw[hZ hi[""],fH]at e
  lia
 refine#[Gr.refl l,by simp[L2.z9,(xP h)],λi w e=>?_,λi j w w' a B ei ej oi oj si sj=>?_,λi y e=>by obtain⟨v,e1,q,z⟩:=yw h i _ (at_ i _ e);cases z]
 .obtain⟨v,e1,q,_⟩:=yw h i w (at_ i w e);refine#[v,?_,q]
  delta L2.z9
  have hi:i<vs[1]:=by have:=(gw.mp e1).1;simpa using this
  rw[t8 hi[""]]
  exact e1
 obtain⟨v,_,_,z⟩:=yw h i w (at_ i w ei);lia
def fnD{st:Stmt}{N ps:List Str}{k:Nat}(F:Fun K x qual st f fd)(S:FnScope N ps (defScope st))
  (h:∀ z A outer s H F0,Room k (A.deeper (envOfC qual (defScope st) s[0] f z)) ->
   SSs (cxOf CX0 P w K mg base N qual (defScope st) f z A outer s H E0).nox F0 H (defBody st) body):FnOk P w K mg base CX0 (k+1) f fd ps (spD #[P,w,K] (den N[1] body) ps[1]):=by
 refine F.ok S (λvs H Q E q=>q.1) (λz A outer s H vs Q E hr q=>?_)
 obtain⟨hl,F0,ws,l,ha,q⟩:=q;refine#[Q5 _ _,xJ,λpins s' I=>?_]
 refine((h z A outer s H F0 hr)) pins s' (L2.z9 N vs) F0 H _ _ (Tx l ha) I ?_;have e:=q;unfold den at e;cases eb:body (ws.map some++List.replicate (N[1]-ws[1]) none)with
 | nx ρ=>rw[eb]at e;exact λB F' H' l' S'=>e .non F' H' S'.gr rfl
 | rt w'=>rw[eb]at e;exact e
 | bk ρ=>rw[eb]at e;exact e.elim
 | ct ρ=>rw[eb]at e;exact e.elim
 | exc x=>rw[eb]at e;exact e.elim
 | stuck=>rw[eb]at e;exact e.elim
end
section
variable{X:Cx}{F0 H0:Hp}{pos p:Pos}{e:Expr}{es:List Expr}{fa:List EF}{x:Str}{k n:Nat}{f:Addr}{fd:FuncData}{ps:List Str}{dn:Den}
theorem Qc{H F' H':Hp}(s:Le F' H'):∀{vs} {ws ys},Voks κ H F' H' vs ws->jW ws=.ok ys->∀ G,Le F' G->(∀ a o,H a=none->H' a=!o->G a=!o)->Args κ G H' vs ys
 | _,[],ys,h,e,G,l,lk=>by cases e;exact h
 | _,w::ws,ys,h,e,G,l,lk=>by
  obtain⟨v,r,rfl,h1,h2⟩:=h;unfold jW at e;cases e1:w.arg with
  | exc x=>rw[e1]at e;cases e
  | stuck=>rw[e1]at e;cases e
  | ok y =>
   cases e2:jW ws with
   | exc x=>rw[e1,e2]at e;cases e
   | stuck=>rw[e1,e2]at e;cases e
   | ok ys' =>
    rw[e1,e2]at e;cases e;have rest:=Qc s h2 e2 G l lk;cases w with
    | fz d=>cases e1;exact#[v,r,rfl,Rep.le l d h1,rest]
    | br d =>
     cases e1;obtain⟨a,o,ea,B,ro⟩:=h1;exact#[v,r,rfl,#[a,o,ea,B,OwnO.le l ro],rest]
    | lk d=>cases e1
    | od d =>
     cases d<;>first|(cases e1;done)|skip
     cases e1;rcases h1 with⟨_,z,_⟩|⟨ds,z,a,bs,O,rfl,h0,hf,nd,hh,i⟩|⟨_,_,z,_⟩|⟨_,_,_,z,_⟩
     .cases z
     .cases z;have at_:∀ b∈bs++O.flatten,G b=H' b:=λb m=>by
       obtain⟨us,z0,z1,z2⟩:=In2.at i m;rw[z2];exact lk b _ z0 z2
      exact#[.ref a,r,rfl,#[a,bs.map V.ref,rfl,SqL.of (lk a _ h0 hh),In2.reps i at_ l],rest]
     .cases z
     cases z
    | ow d =>
     cases e1;obtain⟨a,o,ea,e0,ef,B,ro⟩:=h1;have q:=lk a o e0 B;have ro:=OwnO.le l ro;refine#[v,r,rfl,?_,rest];cases o<;>cases d<;>first
      | exact ro.elim
      | exact#[a,_,ea,.inl (.inl q),ro]
      | exact#[a,_,ea,.inl q,ro]
def Zi:∀(fs:List EF) (ρ:Rho) (ws:List En),evs fs ρ=.ok ws->ws[1]=fs[1]:=λr=>r.rec
 (λ_ _ h=>by cases h;rfl)
 λa r IH ρ ws h=>by
  unfold evs at h;cases ea:a ρ with
  | exc x=>rw[ea]at h;cases h
  | stuck=>rw[ea]at h;cases h
  | ok x =>
   cases er:evs r ρ with
   | exc x=>rw[ea,er]at h;cases h
   | stuck=>rw[ea,er]at h;cases h
   | ok xs=>rw[ea,er]at h;cases h;simp[IH ρ xs er]
def Tz(G:FnOk X.prog X.w X.K X.mg X.base CX0 k f fd ps (spD (kx X) dn n))(U:Room k X.A)(Y:X.mg x=!(.ref f))(Z:keepIn X.K (.ref f)=true)(hb:Binds X.K fd ps [])(ha:SA X F0 H0 (e::es) fa)
  (hn:(fa[1]=n)["r"])
  (hg:(Gl X x)["r"])(B:((x==("__debug__"))=false)["d"])(he:(starEach (e::es) X.env=(false,eval e X.env)::starEach es X.env)["r"])(O:((backTo pos (starEach es X.env)).any (·.1)=false)["r"]) :
  "S" (.Call (.Name x p) (e::es) [] pos) (qh dn fa):=by
 refine λpins s σ F H ρ Q S I h=>fB (JU I hg Y ?_ B)
 refine callWith_K I.ok.mod.kin Z (ha pos pins s σ F H ρ _ S I ?_) he O;cases ef:evs fa ρ with
 | exc x=>have h:=KE.bind h;rw[ef]at h;exact h
 | stuck=>have h:=KE.bind h;rw[ef]at h;exact h
 | ok ws =>
  have h:=KE.bind h;rw[ef]at h;refine λvs us F1 H1 s1 g1 q1 r1 I1=>#[I1.kIn,?_]
  have h:KE (XP X F0 H0) ((jW ws).bind λys=>dn ys) _:=h
  cases ea:jW ws with
  | exc x=>rw[ea]at h;exact h.elim
  | stuck=>rw[ea]at h;cases h
  | ok ys =>
   rw[ea]at h;obtain⟨g2,l2⟩:=vt S.s g1;have A:=Qc g1.s q1 ea (jK H F1 H1) l2 (λa o e0 e2=>by delta jK;rw[e0];exact e2)
   have hl:vs[1]=n:=by
    rw[<- hn,<- Zi fa ρ ws ef];clear A ea h r1
    revert vs
    have:∀ ws vs,Voks (kx X) H F1 H1 vs ws->vs[1]=ws[1]:=by
     intro ws
     induction ws with
     | nil=>intro vs h;cases (show vs=[]from h);rfl
     | cons w ws ih =>
      intro vs h;obtain⟨v,r,rfl,_,h2⟩:=h;simp[ih r h2]
    exact λvs h=>this ws vs h
   refine vE (Wt G U hb (dvs:=[]) .nil WI I1 r1 ?_);rw[tT];refine#[hl,jK H F1 H1,ys,g2.s,A,KE.impX h (λw k v F' H' g' q' u s' r' I'=>?_) λ_ z=>z.elim]
   exact k v u F' H' s' (g2.trans g') (Vok.older (λa e=>Le.none g1.h e) q') r' I'
end
def hu10(z:Room k A):A.units+10<cLine:=by have:=z.un;lia
section
variable{X:Cx}{F0 H0:Hp}{pos p:Pos}{x:Str}{k:Nat}{f:Addr}{fd:FuncData}{dn:Den}
def Ty.nm:Ty->String
 | .int=>"int"|.bool=>"bool"|.str=>"str"|.list=>"list"|.tuple=>"tuple"|.dict=>"dict"
def dTy:D->String
 | .non=>"NoneType"|.bl _=>"bool"|.int _=>"int"|.str _=>"str"|.tup _=>"tuple"|.lst _=>"list"|.dK _=>"dict"|.dT _=>"dict"|.xc _ _=>"?"
def TC(K)(d)(t)(h:∀ c fs,d≠.xc c fs):kitOne K (.type (dTy d)) (.type t.nm)=!(tyIs d t):=by
 cases d<;>first
  | exact absurd rfl (h _ _)
  | (cases t<;>first|rfl|kernel_rfl)
def TD{Q:aa->ab->Prop}(I:"I" H s)(l:Le F H)(r:RelV v u)(q:RdV (kx X) F H v d)(B:∀ c fs,d≠.xc c fs)
  (h:∀ tk,Q (.bool (tyIs d t)) {s with toks:=tk}):X[3] (call (.builtin "isinstance") [u,.type t.nm]) Q X.xe s:=by
 have e:=TC X.K d t B;cases d with
 | non=>cases RdV.non q;cases (r);exact pQ PySem.W.kitx_none I.kIn True.intro e (λz=>nomatch z) h
 | bl b=>cases RdV.bl q;cases (r);exact pQ PySem.W.kitx_bool I.kIn True.intro e (λz=>nomatch z) h
 | int i=>cases RdV.int q;obtain⟨tk,rfl⟩:=(show ∃ tk,u=Value.int i tk from r);exact pQ PySem.W.kitx_int I.kIn True.intro e (λz=>nomatch z) h
 | str y=>cases RdV.str q;obtain⟨tk,rfl⟩:=(show ∃ tk,u=Value.str y tk from r);exact pQ PySem.W.kitx_str I.kIn True.intro e (λz=>nomatch z) h
 | tup ds =>
  obtain⟨a,vs,rfl,hq,_,_⟩:=RdV.tup l q;cases (show u=Value.ref a from r)
  obtain⟨its,_,⟨o,e1,e2,_⟩,_⟩:=I.tuple hq;exact pQ PySem.W.kitx_tuple I.kIn #[o,e1,e2] e (λz=>nomatch z) h
 | lst ds =>
  obtain⟨a,vs,rfl,hq,_⟩:=RdV.lst l q;cases (show u=Value.ref a from r)
  obtain⟨its,_,⟨o,n,e1,e2,_⟩,_⟩:=I.list hq;exact pQ PySem.W.kitx_list I.kIn #[o,e1,e2] e (λz=>nomatch z) h
 | dK ds =>
  obtain⟨a,vs,rfl,hq,_⟩:=RdV.dK l q;cases (show u=Value.ref a from r)
  obtain⟨_,vs,_,o,es,ep,e1,e2,_⟩:=Inv.dictK I hq;exact pQ kitx_dict I.kIn #[o,e1,e2.1] e (λz=>nomatch z) h
 | dT ds =>
  have hq:∃ a kvs,v=.ref a/\Rd H a (.dT kvs):=by
   rcases q with⟨a,vs,e,q,_⟩|⟨a,o,e,e2,r⟩
   .exact#[a,vs,e,Rd.le l q]
   cases o<;>first|exact r.elim|exact#[a,_,e,.inl e2]
  obtain⟨a,kvs,rfl,hq⟩:=hq;cases (show u=Value.ref a from r)
  obtain⟨_,_,xs,_,o,es,ep,e1,e2,_⟩:=hq.ok I.hok;exact pQ kitx_dict I.kIn #[o,e1,e2.1] e (λz=>nomatch z) h
 | xc c fs=>exact absurd rfl (B c fs)
def TH(t:Ty):bootBuiltins t.nm=!(.type t.nm):=by cases t<;>decide +kernel
def zT(t){e:Expr}{fe:EF}{p2:Pos}(he:"S" e fe)(hm:X.mg "isinstance"=none)(B:X.mg t.nm=none)(hg:(Gl X "isinstance")["r"])(O:(Gl X t.nm)["r"])
  (U:((Str.ofString t.nm)≠"__name__")["d"])(Y:(((Str.ofString t.nm)==("__debug__"))=false)["d"])
  (z:(starEach [e,.Name t.nm p2] X.env=(false,eval e X.env)::starEach [.Name t.nm p2] X.env)["r"])(hs2:(starEach [.Name t.nm p2] X.env=[(false,eval (.Name t.nm p2) X.env)])["r"])
  (Z:((backTo pos (starEach [.Name t.nm p2] X.env)).any (·.1)=false)["r"]):"S" (.Call (.Name "isinstance" p) [e,.Name t.nm p2] [] pos) (eUn (dIs t) fe):=by
 refine λpins s σ F H ρ Q S I h=>fB (zL I hg hm boot_isinstance ?_)
 refine cH ?_ z Z;rw[z];refine t5 (he pins s σ F H ρ _ S I ((KE.bind h).imp λw k v u F' H' s' g q r I'=>?_))
 refine t5 (zL I' O B (TH t) (tN ?_) U Y);have k2:∀ c fs,w.d≠.xc c fs:=λc fs e=>by rw[e]at k;exact k.elim
 have k3:KE (XP X F0 H0) (okB (tyIs w.d t)) λw=>∀ v u F' H' s',Gr F H F' H'->Vok (kx X) H F' H' v w->RelV v u->"I" H' s'->Q u s':=by
  revert k
  generalize w.d=d at *;intro k;cases d<;>first|exact k|exact absurd rfl (k2 _ _)
 exact TD I' g.s r (Vok.rd q) k2 λtk=>k3 (.bl _) _ F' H' _ g rfl rfl (I'.tok tk)
def jL:D->R En
 | .int i=>okI (-i)
 | _=>.stuck
def v9(z:"S" e fe):"S" (.UnaryOp .USub e pos) (eUn jL fe):=by
 refine λpins s σ F H ρ Q S I h=>UnaryOp_ (z pins s σ F H ρ _ S I ((KE.bind h).imp λw k v u F' H' s' g q r I'=>?_))
 have q:=Vok.rd q
 revert k
 generalize w.d=d at q;intro k;cases d<;>first|exact k.elim|skip
 cases RdV.int q;obtain⟨t,rfl⟩:=r;exact neg_int (k _[6] _ F' H' _ g rfl #[_,rfl] (I'.tok _))
def zU:D->D->R En
 | .int i,.int j=>okI (i+j)
 | _,_=>.stuck
def TJ:OpD X (binaryOp .Add) zU:=vG MP λF H x y dx dy Q l qx qy w=>by
 cases dx<;>first|exact w.elim|skip
 cases dy<;>first|exact w.elim|skip
 exact#[_,_,RdV.int qx,RdV.int qy,jo l w rfl]
end
def WU{κ:Kx}:∀ ns:List Int,Reps κ F (ns.map V.int) (ns.map D.int):=λns=>ns.rec
 (rfl)
 λn ns IH=>#[.int n,ns.map V.int,rfl,rfl,IH]
def TK{κ:Kx}(dn)(z:List Int)(B:SqL κ.K H a (z.map V.int))(h:dn [.fz (.lst (z.map D.int))]=.ok (.bl true)[8]):spD κ dn 1 [.ref a] H (λv _=>v=.bl true) E :=
 #[rfl,H,[.fz (.lst (z.map D.int))],Le.refl,#[.ref a,[],rfl,#[a,_,rfl,B,WU z],rfl],by rw[h];exact λv F' H' g q=>q]
section
variable{X:Cx}
def WV:OpD X (inplaceOp .Sub) jc:=vG MV λF H x y dx dy Q l qx qy w=>by
 cases dx<;>first|exact w.elim|skip
 cases dy<;>first|exact w.elim|skip
 exact#[_,_,RdV.int qx,RdV.int qy,jo l w rfl]
def Qd:OpD X (inplaceOp .Add) zU:=vG MU λF H x y dx dy Q l qx qy w=>by
 cases dx<;>first|exact w.elim|skip
 cases dy<;>first|exact w.elim|skip
 exact#[_,_,RdV.int qx,RdV.int qy,jo l w rfl]
end
def vv{α β:Type}(f:α->Option β):List α->Option (List β)
 | []=>↑[]
 | x::r=>match f x with
  | some y=>(match vv f r with|some ys=>↑(y::ys)|none=>none)
  | none=>none
def WW{r:List α}{l:List β}(h:vv f (x::r)=!l):∃ y ys,f x=!y/\vv f r=!ys/\l=y::ys:=by
 unfold vv at h;cases e:f x with
 | none=>rw[e]at h;cases h
 | some y =>
  cases e2:vv f r with
  | none=>rw[e,e2]at h;cases h
  | some ys=>rw[e,e2]at h;cases h;exact#[y,ys,rfl,rfl,rfl]
def vH(K:Frag):Nat->aa->Option D
 | 0,_=>none
 | n+1,v=>match v with
  | .none=>some .non
  | .bool b=>!(.bl b)
  | .int i _=>!i[6]
  | .str x _=>!(.str x)
  | .ref a=>(match K.lookup a with
   | some o=>(match o.data with
    | .seq its _ =>
     if its.size<=100000 then
      (if o.cls==.type "tuple" then(vv (vH K n) its[2]).map .tup
      else if o.cls==.type "list"&&o.dict==none then(vv (vH K n) its[2]).map .lst else none)
     else none
    | .dict es _ =>
     if o.cls==.type "dict"&&o.dict==none&&o.slots.size==0&&not (a==sysModules)then
      (match vv (λe:DictEntry=>match e.key with
       | .int i _=>if e.hash=hashInt i then(vH K n e.val).map λd=>((Sum.inl i:Sum Int Str),d)else none
       | _=>none) es[2] with
      | some l=>if (l.map (·.1)).Nodup then !(.dK l)else none
      | none=>none)
     else none
    | _=>none)
   | none=>none)
  | _=>none
def WX:∀ n v d,vH κ.K n v=!d->∃ x,RelV x v/\∀ F,Rep κ F x d:=by
 intro n
 induction n with
 | zero=>intro v d h;cases h
 | succ n ih =>
  have z:∀ vs ds,vv (vH κ.K n) vs=!ds->∃ xs,Vals xs vs/\∀ F,Reps κ F xs ds:=by
   intro vs
   induction vs with
   | nil=>intro ds h;cases h;exact#[[],.nil,λ_=>rfl]
   | cons v vs ihv =>
    intro ds h;obtain⟨d,U,h1,h2,rfl⟩:=WW h;obtain⟨x,rx,qx⟩:=ih v d h1;obtain⟨xs,rs,qs⟩:=ihv U h2;exact#[x::xs,.cons rx rs,λF=>#[x,xs,rfl,qx F,qs F]]
  have B:∀ es l,vv (λe=>match e.key with
       | .int i _=>if e.hash=hashInt i then(vH κ.K n e.val).map λd=>((Sum.inl i),d)else none
       | _=>none) es=↑l ->
    ∃ kvs vs,KV kvs vs/\Pairs (jk κ.P κ.w) es vs/\vs.map (·.1)=l.map (·.1)/\(∀ e∈es,∃ k,(jk κ.P κ.w).is k e.key=true/\e.hash=(jk κ.P κ.w).hash k)/\∀ F,RepK κ F kvs l:=by
   intro es
   induction es with
   | nil=>intro l h;cases h;exact#[[],[],.nil,.nil,rfl,λe he=>(nomatch he),λ_=>rfl]
   | cons e es ihe =>
    intro l h;obtain⟨y,ys,h1,h2,rfl⟩:=WW h;obtain⟨kvs,vs,r1,r2,r3,r4,r5⟩:=ihe ys h2;cases ek:e.key with
    | int i t =>
     rw[ek]at h1;dsimp only at h1;by_cases c:e.hash=hashInt i
     .rw[if_pos c]at h1;cases ed:vH κ.K n e.val with
      | none=>rw[ed]at h1;cases h1
      | some d =>
       rw[ed]at h1;cases h1;obtain⟨x,rx,qx⟩:=ih e.val d ed;have hk:(jk κ.P κ.w).is (Sum.inl i) e.key=true:=by rw[ek];exact Wa _ _ i t
       refine#[(Sum.inl i,x)::kvs,(Sum.inl i,e.val)::vs,.cons #[rfl,rx] r1,.cons hk rfl r2,by simp[r3],λe' he=>?_,λF=>#[x,kvs,rfl,qx F,r5 F]]
       rcases gG.mp he with rfl|he
       .exact#[Sum.inl i,hk,c]
       exact r4 e' he
     rw[if_neg c]at h1;cases h1
    | _=>rw[ek]at h1;cases h1
  intro v d h;unfold vH at h;cases v<;>first|(cases h;done)|skip
  .cases h;exact#[.non,rfl,λ_=>rfl]
  .cases h;exact#[.bl _,rfl,λ_=>rfl]
  .cases h;exact#[.int _,#[_,rfl],λ_=>rfl]
  .cases h;exact#[.str _,#[_,rfl],λ_=>rfl]
  rename_i a;dsimp only at h;cases ek:κ.K.lookup a with
  | none=>rw[ek]at h;cases h
  | some o =>
   rw[ek]at h;dsimp only at h;cases ed:o.data with
   | seq its m =>
    rw[ed]at h;dsimp only at h;by_cases c:its.size<=100000
    .rw[if_pos c]at h;have hz:its.size<=sizeLine:=by rw[pE];omega
     by_cases c1:(o.cls==Value.type "tuple")=true
     .rw[if_pos c1]at h;cases e2:vv (vH κ.K n) its[2] with
      | none=>rw[e2]at h;cases h
      | some ds =>
       rw[e2]at h;cases h;obtain⟨xs,rs,qs⟩:=z its[2] ds e2;exact#[.ref a,rfl,λF=>#[a,xs,rfl,.inr #[o,its,m,ek,by simpa using c1,ed,hz,rs],qs F]]
     rw[if_neg c1]at h;by_cases c2:(o.cls==Value.type "list"&&o.dict==none)=true
     .rw[if_pos c2]at h;rw[hX]at c2;cases e2:vv (vH κ.K n) its[2] with
      | none=>rw[e2]at h;cases h
      | some ds =>
       rw[e2]at h;cases h;obtain⟨xs,rs,qs⟩:=z its[2] ds e2;exact#[.ref a,rfl,λF=>#[a,xs,rfl,.inr #[o,its,m,ek,by simpa using c2.1,by simpa using c2.2,ed,hz,rs],qs F]]
     rw[if_neg c2]at h;cases h
    rw[if_neg c]at h;cases h
   | dict es ep =>
    rw[ed]at h;dsimp only at h;by_cases c:(o.cls==Value.type "dict"&&o.dict==none&&o.slots.size==0&&not (a==sysModules))=true
    .rw[if_pos c]at h;simp[hX]at c;obtain⟨⟨⟨c1,c2⟩,c3⟩,c4⟩:=c
     revert h
     generalize e2:vv _ es[2]=ol;intro h;cases ol with
     | none=>cases h
     | some l =>
      dsimp only at h;by_cases c5:(l.map (·.1)).Nodup
      .rw[if_pos c5]at h;cases h;obtain⟨kvs,vs,r1,r2,r3,r4,r5⟩:=B es[2] l e2;have O:o.slots=#[]:=by
        have:o.slots.size=0:=by simpa using c3
        exact Array.eq_empty_of_size_eq_zero this
       refine#[.ref a,rfl,λF=>#[a,kvs,rfl,.inr #[by simpa using c4,o,es,ep,vs,ek,#[by simpa using c1,by simpa using c2,O],ed,λe he=>r4 e he[""],r2,by rw[r3];exact c5,r1],r5 F]]
      rw[if_neg c5]at h;cases h
    rw[if_neg c]at h;cases h
   | _=>rw[ed]at h;cases h
def ro:Option En->Option En
 | some d[9]=>!(.br d)
 | some (.od _)=>none
 | o=>o
def zt(ad:En->R D)(gf:GF)(t:TF)(e:EF):List D->Rho->R (List D)
 | [],_=>.ok []
 | d::r,ρ=>(gf d ρ).bind λρ1=>(t ρ1).bind λb=>if b=true then(e ρ1).bind λw=>(ad w).bind λy=>(zt ad gf t e r ρ1).bind λys=>.ok (y::ys)else zt ad gf t e r ρ1
def jj(n:Nat)(ρ:Rho):Rho:=ρ.map ro++List.replicate n none
def xQ(ad:En->R D)(fi:List D->En)(n:Nat)(it:IF)(gf:GF)(t:TF)(e:EF):EF:=λρ=>(it ρ).bind λds=>if ds[1]<=sz then(zt ad gf t e ds (jj n ρ)).bind λys=>.ok (fi ys)else .stuck
abbrev qS:=xQ En.st λys=>.ow (.lst ys)
def qX:TF:=λ_=>.ok true
def compLoop{R:Result->ab->Prop}(I:Nat->ab->Prop)
  (Z:∀ n s,I n s->wpAny (model prog w) A (pyNext it) (λr z=>match r with
   | none=>R (.ok .next) z
   | some v=>wpAny (model prog w) A (letOwnedTupleGo target it v) (λ_ s₀=>wpAny (model prog w) A (assign target env v) (λ_ s₂ =>
     wpAny (model prog w) A (forIn ifs true λc r=>if r=true then do let ok <- isTrue c env (eval c env);pure (ForInStep.yield ok)else pure (ForInStep.yield r)) (λok B =>
      if ok=true then wpAny (model prog w) A (eval elt env) (λx O =>
       wpAny (model prog w) A (call (.builtin "list.append") [acc,x]) (λ_ U=>∃ m,m<n/\I m U) (λ_ _=>False) O) (λ_ _=>False) B
      else ∃ m,m<n/\I m B) (λ_ _=>False) s₂) (λ_ _=>False) s₀) (λ_ _=>False) z) (λ_ _=>False) s)
  (n) (h:I n s):codeAny (model prog w) A (.compLoop (.ListComp elt [#[target,iter,ifs,0]] scope pos) 0 it acc env) R s:=by
 refine codeAny_loop rfl I (λn s hI=>?_) n h
 refine wpAny_noted ?_;rw[compTurn_list];refine gg (m9 (gg (cA (Z n s hI) (λr z h₁=>?_) λ_ _ h'=>h'.elim)))
 cases r with
 | none=>exact gC h₁
 | some v =>
  refine gg (cA h₁ (λ_ s₀ h₀=>gg (cA h₀ (λ_ s₂ h3=>gg (cA h3 (λok B Y=>?_) λ_ _ h'=>h'.elim)) λ_ _ h'=>h'.elim)) λ_ _ h'=>h'.elim)
  cases ok with
  | false=>exact gC #[rfl,Y]
  | true=>exact gg (gg (cA Y (λx O h4=>gg (cA h4 (λ_ U h5=>gC (gC #[rfl,h5])) λ_ _ h'=>h'.elim)) λ_ _ h'=>h'.elim))
def Cap(env:Env)(cl:List (Str×Addr)):List (Str×NameKind)->Prop
 | []=>True
 | (n,k)::r=>(k≠.cell/\(k=.free->env.kindOf n=some .cell/\cl.lookup n=env.cells.lookup n))/\Cap env cl r
def ClIn(env:Env):List (Str×Addr)->Prop
 | []=>True
 | (n,c)::r=>env.cells.lookup n=!c/\ClIn env r
def ClIn.look{env:Env}:∀{cl:List (Str×Addr)},ClIn env cl->∀{x c},cl.lookup x=!c->env.cells.lookup x=!c:=λ{r}=>r.rec
 (@λ_ x c h=>by simp at h)
 λ#[n,a] r IH=>@λq x c h=>by
  obtain⟨q1,q2⟩:=q;by_cases e:x=n
  .simp_all
  have:(x==n)=false:=by simpa using e
  simp[List.lookup,this]at h;exact IH q2 h
def Cap.mem{env:Env}{cl:List (Str×Addr)}:∀{names:List (Str×NameKind)},Cap env cl names->∀ y∈names,y.2≠.cell/\(y.2=.free->env.kindOf y.1=some .cell/\cl.lookup y.1=env.cells.lookup y.1):=λ{r}=>r.rec
 (@λ_ y hy=>by cases hy)
 λ#[n,k] r IH=>@λh y hy=>by
  rcases gG.mp hy with rfl|hy
  .exact h.1
  exact IH h.2 y hy
theorem Zj{env:Env}:∀{names:List (Str×NameKind)} {x},(∀ y∈names,y.2≠.cell) ->
    ((names.map λ(n,k)=>if (k==NameKind.free&&env.scope.kind==.function&&env.kindOf n==some .cell)then(n,NameKind.cell)else(n,k)).lookup x=some .cell \/
     (names.map λ(n,k)=>if (k==NameKind.free&&env.scope.kind==.function&&env.kindOf n==some .cell)then(n,NameKind.cell)else(n,k)).lookup x=some .free)->(x,NameKind.free)∈names
  | [],_,_,h=>by rcases h with h|h<;>simp at h
  | (n,k)::r,x,hc,h=>by
    rw[gW]at h;by_cases hx:x=n
    · subst hx
      by_cases q:(k==NameKind.free&&env.scope.kind==.function&&env.kindOf x==some .cell)=true
      · simp_all
      simp_all
    have hb:(x==n)=false:=by simpa using hx
    refine gu _ ((@Zj env r x λy hy=>hc y (gu _ hy)) ?_)
    dsimp only at h;by_cases q:(k==NameKind.free&&env.scope.kind==.function&&env.kindOf n==some .cell)=true
    · rw[if_pos q]at h
      simpa only[List.lookup_cons,hb]using h
    rw[if_neg q]at h
    simpa only[List.lookup_cons,hb]using h
def cxF(fn:Str->Bool)(X:Cx)(s₂:ab)(H₂:Hp)(scope:Scope)(cl:List (Str×Addr))(C:Addr)(fp:List Addr)(N:List Str):Cx where
 prog:=X.prog
 w:=X.w
 K:=X.K
 mg:=X.mg
 base:=X.base
 A:=X.A
 N:=N
 s₀:=s₂
 H₀:=H₂
 env:=compEnvC scope cl C X.env
 outer:=X.stack
 stack:=X.stack
 ex:=fp
 fn:=fn
 calm:=X.calm
 pn:=[]
 xe:=λ_ _=>False
abbrev cxC:Cx->ab->Hp->Scope->List (Str×Addr)->Addr->List Addr->List Str->Cx:=cxF λ_=>false
def wV(z:List (Str×NameKind)):List Str->List Str->Bool
 | a::as,b::bs=>(match z.lookup b with|some .local=>false|some .free=>false|some .cell=>a==b|_=>true)&&wV z as bs
 | [],_=>true
 | _::_,[]=>true
def WY(z:Scope)(M N:List Str):Prop:=∀(i:Nat) (x:Str),i<M[1]->N[i]?=!x->Vis z x->M[i]?=!x/\z.names.lookup x=some .cell
theorem WZ:∀{M N},wV sc.names M N=true->WY sc M N
 | [],_,_,i,x,hi,_,_=>by simp at hi
 | _::_,[],_,i,x,_,e,_=>by simp at e
 | a::as,b::bs,h,0,x,_,e,v=>by
  unfold wV at h;rw[hX]at h;simp at e;subst e;cases q:sc.names.lookup b with
  | none=>rcases v with v|v|v<;>rw[q]at v<;>cases v
  | some k =>
   rw[q]at h;rcases v with v|v|v
   .rw[q]at v;cases v;exact absurd h.1 pZ
   .rw[q]at v;cases v
    simp_all
   rw[q]at v;cases v;exact absurd h.1 pZ
 | a::as,b::bs,h,i+1,x,hi,e,v=>by
  unfold wV at h;rw[hX]at h;have:=WZ h.2 i x hi[""] e[""] v
  assumption
def TL(n)(S:StOk κ F0 H0 F H ρ σ):StOk κ F H F H (jj n ρ) (σ++List.replicate n none):=by
 have at_:∀(i:Nat) w,(jj n ρ)[i]?=!(!w)->∃ w',ρ[i]?=!(!w')/\ro ↑w'=!w:=λi w e=>by
  delta jj at e
  by_cases hi:i<ρ.length
  .rw[t8 hi[""],gM]at e
   cases q:ρ[i]? with
   | none=>rw[q]at e;cases e
   | some y =>
    rw[q]at e;cases y with
    | none=>cases e
    | some w'=>exact#[w',rfl,by simpa using e]
  rw[hZ hi[""],fH]at e
  lia
 refine#[Gr.refl S.s,by simp[jj,S.len],λi w e=>?_,λi j w w' a z ei ej oi oj si sj=>?_,λi y e=>?_]
 .obtain⟨w',e1,e2⟩:=at_ i w e;obtain⟨v,ev,q⟩:=S.val i w' e1;refine#[v,by rw[t8 ((gw.mp ev).1)];exact ev,?_]
  cases w' with
  | fz d=>cases e2;exact q
  | ow d=>cases e2;obtain⟨a,o,e,_,_,eh,r⟩:=q;exact#[a,o,e,eh,r]
  | lk d=>cases e2;exact q
  | od d=>cases e2
  | br d=>cases e2;obtain⟨a,o,e,eh,r⟩:=q;exact#[a,o,e,S.gr.h _ _ eh,r]
 .obtain⟨w1,e1,e2⟩:=at_ i w ei;cases w1<;>cases e2<;>cases oi
 obtain⟨w',e1,e2⟩:=at_ i _ e;cases w'<;>cases e2
def StOk.side{F0 H0 F H:Hp}(S:StOk κ F0 H0 F H ρ σ)(h0:H0 p=none)(B:F p=none)(z:∀(i:Nat) w,ρ[i]?=!(!w)->w.own=false):StOk κ F0 H0 F (upd H p o) ρ σ:=by
 refine#[#[S.gr.f,λa u h=>?_,λa u h=>?_,S.gr.n],S.len,λi w e=>?_,S.sep,λi d e=>by cases z i _ e]
 .rw[qu (jH h h0)];exact S.gr.h a u h
 .rw[qu (jH h B)];exact S.gr.s a u h
 obtain⟨v,e1,q⟩:=S.val i w e;refine#[v,e1,?_];have:=z i w e;cases w with
 | fz d=>exact q
 | br d=>exact q
 | ow d=>cases this
 | lk d=>exact q
 | od d=>cases this
section
variable{X:Cx}{pins:List (Addr×Obj)}{σ:St}{H₂:Hp}{s₂:ab}{fp:List Addr}{it:Addr}{tn:Nat->Heap->Prop}{J:It}{tg:Expr}{scope:Scope}{cl:List (Str×Addr)}{N:List Str}{n:Nat}
def TM(B:"I" H₂ s₂)(T:Turn X.prog X.w X.K tg J fp it tn)(st:tn 0 s₂.heap)(f2:∀ b∈fp,FpOk X pins H₂ b)(U:scope.kind=.function)(O:Cap X.env cl scope.names)(Y:ClIn X.env cl)
  (hC:s₂[0]<=C):(cxC X s₂ H₂ scope cl C fp N).Ok:=by
 have Z:∀ x,((cxC X s₂ H₂ scope cl C fp N).env.kindOf x=some .cell\/(cxC X s₂ H₂ scope cl C fp N).env.kindOf x=some .free)->(x,NameKind.free)∈scope.names:=λx h =>
  Zj (λy hy=>(Cap.mem O y hy).1) h
 refine#[B.ok.mod,U,B.ok.glob,B.ok.blt,hC,λx y c h1 h2=>B.ok.inj x y c (ClIn.look Y h1) (ClIn.look Y h2),λx hx=>?_,λx c h=>(by cases h),B.ok.hd,B.ok.frames,.inl rfl,λb hb=>?_,B.bs,fw B.ok.bsz B.sz,λb o e hb=>?_,λb hb z=>?_,B.stack,B.stkFree]
 .obtain⟨q1,q2⟩:=(Cap.mem O _ (Z x hx)).2 rfl;obtain⟨c,hc⟩:=B.ok.has x (.inl q1);exact#[c,q2.trans hc]
 .obtain⟨f0,f1,f3,f4,f5,f6⟩:=f2 b hb;obtain⟨o,ho,_⟩:=T.obj 0 _ st b hb;exact#[t7 (tu (gU ho) hC),λx c e=>f5 x c (ClIn.look Y e)]
 .obtain⟨f0,f1,f3,f4,f5,f6⟩:=f2 b hb;rcases f4 with f4|f4
  .exact B.ok.noex b o e f4
  exact absurd (tu (gU (B.ok.bs b o e).1) f4) (pG _)
 obtain⟨f0,f1,f3,f4,f5,f6⟩:=f2 b hb;rcases gG.mp (B.stkSub b z)with q|q
 .exact f1 q
 exact f3 q
def TN(O:"I" H₂ s₂)(T:Turn X.prog X.w X.K tg J fp it tn)(st:tn 0 s₂.heap)(f2:∀ b∈fp,FpOk X pins H₂ b)(Z:scope.kind=.function)(U:Cap X.env cl scope.names)(Y:ClIn X.env cl)
  (hsl:WY (relabel scope X.env) X.N N)(h4:N[1]=X.N.length+n){C tk:Nat}{h₁:Heap}{m:Str->Option aa}(hC:s₂[0]<C)(hns:h₁.Ns C m)(old:∀ b o,s₂.heap.get? b=!o->h₁.get? b=!o)
  (h5:h₁.get? s₂[0]=some {cls:=.type "list",data:=.seq #[] 0}) :
  Inv (cxC X s₂ H₂ scope cl C fp N) [] (σ++List.replicate n none) (upd H₂ s₂[0] (.lst [])) {s₂ with heap:=h₁,toks:=tk}:=by
 have hf:H₂ s₂[0]=none:=O.hok.fresh (gE _);have hfC:H₂ C=none:=O.hok.fresh (cY hC);have B:∀ x c,X.env.cells.lookup x=!c->∀ v,s₂.heap.IsCell c v->h₁.IsCell c v:=λx c _ v #[o,ho,hd]=>#[o,old _ _ ho,hd]
 have cne:∀ x c,X.env.cells.lookup x=!c->c<s₂[0]:=λx c e=>by
  obtain⟨v,o,ho,_⟩:=O.cell x c e;exact gU ho
 refine#[TM O T st f2 Z U Y (cY hC),rfl,O.bare,Un.laid old (gE _) hf,#[m,hns,λi x v e1 e2 e3=>?_],λx c e=>?_,?_,λx c e=>?_,λp hp=>absurd (show p∈[]from hp) "s",?_,?_]
 .have hi:i<σ.length:=by
   by_cases hi:i<σ.length
   .exact hi
   rw[hZ "",fH]at e2
   simp_all
  rw[t8 hi]at e2;obtain⟨q1,q2⟩:=hsl i x (by rw[<- O.len];exact hi) e1 e3
  have q3:(x,NameKind.free)∈scope.names:=Zj (env:=X.env) (λy hy=>(Cap.mem U y hy).1) (.inl q2)
  obtain⟨k1,k2⟩:=(Cap.mem U _ q3).2 rfl;obtain⟨m2,hn2,hl⟩:=O.loc;obtain⟨u,ru,lk⟩:=hl i x v q1 e2 (.inr (.inl k1));refine#[u,ru,?_];rcases lk with⟨z,_⟩|⟨_,c,hc,h3⟩
  .simp_all
  exact .inr #[.inl q2,c,by show cl.lookup x=!c;exact k2.trans hc,B x c hc _ h3]
 .obtain⟨v,q⟩:=O.cell x c (ClIn.look Y e);exact#[v,B x c (ClIn.look Y e) v q]
 .show upd H₂ s₂[0] (.lst []) C=none;rw[qu (c6 hC)];exact hfC
 .have:=cne x c (ClIn.look Y e);rw[qu (t7 this)];exact O.freeC x c (ClIn.look Y e)
 .exact O.hok.laid old (gE _) #[tK _,[],0,.nil,h5]
 simp[O.len,h4,cxC,cxF]
def wW(ρ:Rho):Prop:=∀(i:Nat) (w:En),ρ[i]?=!(!w)->w.own=false
def kq(gf:GF):Prop:=∀ d ρ ρ1,wW ρ->gf d ρ=.ok ρ1->wW ρ1
def TQ(h:wW ρ)(i)(d):wW (ρ.set i (!d[8])):=λj w e=>by
 rcases qB e with⟨_,z⟩|⟨_,z⟩
 .cases z;rfl
 exact h j w z
def zI(i):kq (gV i):=λd ρ ρ1 h e=>by cases e;exact TQ h i d
def TR(n)(ρ):wW (jj n ρ):=λi w e=>by
 delta jj at e
 by_cases hi:i<ρ.length
 .rw[t8 hi[""],gM]at e
  cases q:ρ[i]? with
  | none=>rw[q]at e;cases e
  | some y =>
   rw[q]at e;cases y with
   | none=>cases e
   | some w'=>cases w'<;>first|(simp[ro]at e;done)|(simp[ro]at e;subst e;rfl)
 rw[hZ hi[""],fH]at e
 lia
inductive Tests(X:Cx)(F0 H0:Hp):List Expr->TF->Prop
 | nil:Tests X F0 H0 [] qX
 | one {c:Expr} {t:TF}:ST X F0 H0 c t->Tests X F0 H0 [c] t
def TU{X:Cx}{t:TF}(h:Tests X F0 H0 ifs t){Q:Bool->ab->Prop}(S:StOk (kx X) F0 H0 F H ρ σ)(I:"I" H s)
  (k:KE (XP X F0 H0) (t ρ) λb=>∀ F' H' s',Gr F H F' H'->"I" H' s'->Q b s') :
  X[3] (forIn ifs true λc r=>if r=true then do let ok <- isTrue c X.env (eval c X.env);pure (ForInStep.yield ok)else pure (ForInStep.yield r)) Q X.xe s:=by
 cases h with
 | nil=>exact wpAny_tests_nil (k F H s (Gr.refl S.s) I)
 | one h=>exact wpAny_tests_one (h pins s σ F H ρ Q S I k)
structure Mm(κ:Kx)(H₂:Hp)(p:Addr)(ad:En->R D)where
 RL:Hp->Hp->List V->List D->Prop
 nil:∀ F H,RL F H [] []
 len:∀{F H vs as},RL F H vs as->vs[1]=as[1]
 gr:∀{F H F' H' vs as},Gr F H F' H'->RL F H vs as->RL F' H' vs as
 step:∀{F H F' H' vs as v w y},Gr F H F' H'->Le F H->Le H₂ H->H p=!(.lst vs)->Vok κ H F' H' v w->ad w=.ok y->RL F H vs as->∃ F9,Gr F H F9 H'/\RL F9 (upd H' p (.lst (vs++[v]))) (vs++[v]) (as++[y])
def Zk(κ:Kx)(H₂:Hp)(p:Addr):Mm κ H₂ p En.st where
 RL F _ vs as:=Reps κ F vs as
 nil _ _:=rfl
 len:=Reps.length
 gr g r:=Reps.le g.f _ r
 step g l _ _ q e r:=by
  obtain⟨g9,_⟩:=vt l g;exact#[_,g9,Reps.append (Reps.le g9.f _ r) (Reps.one (Vok.st l g q e))]
def TV{X:Cx}{pins:List (Addr×Obj)}{σ:St}{F₂ H₂:Hp}{s₂ O:ab}{fp:List Addr}{it:Addr}{tn:Nat->Heap->Prop}{J:It}{tg elt iter:Expr}{ifs:List Expr}{scope:Scope}{cl:List (Str×Addr)}{N:List Str}{C p:Addr}
  {σ':St}{ρ':Rho}{ds:List D}{pos:Pos}{gf:GF}{t:TF}{e:EF}{RR:Result->ab->Prop}{ad:En->R D}(M:Mm (kx X) H₂ p ad)(h3:Le F₂ H₂)(T:Turn X.prog X.w X.K tg J fp it tn)(hc:X.calm=true)(st:tn 0 O.heap)(Wk:Walk (kx X) J F₂ H₂ ds)
  (hfp:∀ b∈fp,FpOk (cxF fn X s₂ H₂ scope cl C fp N) [] (upd H₂ p (.lst [])) b)(hp:H₂ p=none)(I4:Inv (cxF fn X s₂ H₂ scope cl C fp N) [] σ' (upd H₂ p (.lst [])) O)(S4:StOk (kx X) F₂ H₂ F₂ H₂ ρ' σ')(no:wW ρ')(hno:kq gf)
  (hg:SG (cxF fn X s₂ H₂ scope cl C fp N) F₂ H₂ tg gf)(ht:Tests (cxF fn X s₂ H₂ scope cl C fp N) F₂ H₂ ifs t)(he:SE (cxF fn X s₂ H₂ scope cl C fp N) F₂ H₂ elt e)(hsz:ds[1]<=sz)
  (k:KE (λ_=>False) (zt ad gf t e ds ρ') λys=>∀ B F1 H1 vs s1,Gr F₂ H₂ F1 H1->F1 p=none->H1 p=!(.lst vs)->M.RL F1 H1 vs ys->Inv (cxF fn X s₂ H₂ scope cl C fp N) [] B H1 s1->RR (.ok .next) s1) :
  codeAny (model X.prog X.w) X.A (.compLoop (.ListComp elt [#[tg,iter,ifs,0]] scope pos) 0 (.ref it) (.ref p) (compEnvC scope cl C X.env)) RR O:=by
 have Y:∀{H'},(∀ b∈fp,H' b=none)->∀ b∈fp,FpOk (cxF fn X s₂ H₂ scope cl C fp N) [] H' b:=λhn b hb=>#[hn b hb,(hfp b hb).2]
 obtain⟨tgv,PGv,hgv⟩:=hg;refine compLoop (λm s=>∃ i B F1 H1 ρ1 vs,∃ as,m=ds[1]-i/\i<=ds[1]/\Inv (cxF fn X s₂ H₂ scope cl C fp N) [] B H1 s/\tn i s.heap/\(∀ b∈fp,H1 b=none)/\StOk (kx X) F₂ H₂ F1 H1 ρ1 B/\wW ρ1 /\
  F1 p=none/\H1 p=!(.lst vs)/\M.RL F1 H1 vs as/\as[1]<=i /\
  KE (λ_=>False) (zt ad gf t e (ds.drop i) ρ1) λys=>∀ B F1 H1 vs s1,Gr F₂ H₂ F1 H1->F1 p=none->H1 p=!(.lst vs)->M.RL F1 H1 vs (as++ys)->Inv (cxF fn X s₂ H₂ scope cl C fp N) [] B H1 s1->RR (.ok .next) s1) ?_ ds[1]
  #[0,σ',F₂,upd H₂ p (.lst []),ρ',[],[],by simp,tK _,I4,st,λb hb=>(hfp b hb).1,S4.side hp (Le.none h3 hp) no,no,Le.none h3 hp,qP,M.nil _ _,gE _,by simpa using k]
 rintro m s ⟨i,B,F1,H1,ρ1,vs,as,rfl,hi,I1,st1,fr1,S1,no1,fp1,hp1,rs1,la,k1⟩;by_cases hlt:i<ds[1]
 .have ed:ds[i]?=!ds[i]:=by simp[hlt]
  have edr:ds.drop i=ds[i]::ds.drop (i+1):=fR hlt;obtain⟨go,yl⟩:=Wk.go i ds[i] F1 H1 ed S1.gr.f S1.s S1.gr.h;rw[edr]at k1;refine thn (T.item (cxF fn X s₂ H₂ scope cl C fp N) rfl rfl rfl hc i [] s B H1 _ I1 (Y fr1) st1 go) λr s1' #[u,hr,h4]=>?_
  subst hr;refine thn h4 λ_ s5 #[x,H5,I5,r5,y5,st5,fr5]=>?_
  obtain⟨F5,g5,rx⟩:=yl x H5 y5;have I5':=I5.pinned (Y fr5) (T.obj _ _ st5);have S5:=S1.grow g5;have k1:=KE.bind k1;cases eg:gf ds[i] ρ1 with
  | exc z=>rw[eg]at k1;cases k1
  | stuck=>rw[eg]at k1;cases k1
  | ok ρ2 =>
   rw[eg]at k1;have no2:=hno _ _ _ no1 eg;have k1:KE (λ_=>False) (t ρ2) _:=KE.bind k1
   refine thn (PGv _ s5 B H5 x u (λσ6 H6=>H6=H5/\StOk (kx X) F₂ H₂ F5 H5 ρ2 σ6) I5' r5 (hgv B F5 H5 ρ1 x ds[i] _ S5 rx (by rw[eg];exact λB S=>#[rfl,S]))) λ_ s6 #[σ6,H6,I6,e6,S6]=>?_
   subst e6;have Z:∀{σ7} {F7 H7} {s7} {vs7} {U},Inv (cxF fn X s₂ H₂ scope cl C fp N) ([]++xC fp s5.heap) σ7 H7 s7->StOk (kx X) F₂ H₂ F7 H7 ρ2 σ7->F7 p=none->H7 p=!(.lst vs7)->M.RL F7 H7 vs7 U->U[1]<=i+1 ->
     KE (λ_=>False) (zt ad gf t e (ds.drop (i+1)) ρ2) (λys=>∀ B F1 H1 vs s1,Gr F₂ H₂ F1 H1->F1 p=none->H1 p=!(.lst vs)->M.RL F1 H1 vs (U++ys)->Inv (cxF fn X s₂ H₂ scope cl C fp N) [] B H1 s1->RR (.ok .next) s1) ->
     ∃ m,m<ds[1]-i/\∃ i B F1 H1 ρ1 vs,∃ as,m=ds[1]-i/\i<=ds[1]/\Inv (cxF fn X s₂ H₂ scope cl C fp N) [] B H1 s7/\tn i s7.heap/\(∀ b∈fp,H1 b=none)/\StOk (kx X) F₂ H₂ F1 H1 ρ1 B/\wW ρ1 /\
      F1 p=none/\H1 p=!(.lst vs)/\M.RL F1 H1 vs as/\as[1]<=i /\
      KE (λ_=>False) (zt ad gf t e (ds.drop i) ρ1) (λys=>∀ B F1 H1 vs s1,Gr F₂ H₂ F1 H1->F1 p=none->H1 p=!(.lst vs)->M.RL F1 H1 vs (as++ys)->Inv (cxF fn X s₂ H₂ scope cl C fp N) [] B H1 s1->RR (.ok .next) s1):=by
    intro σ7 F7 H7 s7 vs7 U I7 S7 f7 h7 r7 l7 k7;refine#[ds[1]-(i+1),"o",i+1,σ7,F7,H7,ρ2,vs7,U,rfl,hlt,I7.unpinned,T.keep _ _ _ st5 λb hb o e=>(I7.pin (b,o) (tq _ (tq _ (uY hb e)))).1,λb hb=>?_,S7,no2,f7,h7,r7,l7,k7]
    obtain⟨o,e,d⟩:=T.obj _ _ st5 b hb;exact(I7.pin (b,o) (tq _ (tq _ (uY hb e)))).2.1
   have nf5:F5 p=none:=g5.no fp1 (hp1);refine TU ht S6 I6 (KE.impX k1 (λb kb F7 H7 s7 g7 I7=>?_) λ_ z=>z)
   have nf7:F7 p=none:=g7.no nf5 (g5.h _ _ hp1);have hp7:H7 p=!(.lst vs):=g7.h _ _ (g5.h _ _ hp1);have g17:Gr F1 H1 F7 H7:=g5.trans g7;have l27:Le H₂ H7:=Le.trans S1.gr.h g17.h;cases b with
   | false =>
    rw[if_neg pZ];exact Z I7 (S6.grow g7) nf7 hp7 (M.gr g17 rs1) "" kb
   | true =>
    rw[if_pos rfl];have kb:KE (λ_=>False) ((e ρ2).bind λw=>(ad w).bind λy=>(zt ad gf t e (ds.drop (i+1)) ρ2).bind λys=>.ok (y::ys)) _:=kb
    refine he _ s7 σ6 F7 H7 ρ2 _ (S6.grow g7) I7 (KE.impX (KE.bind kb) (λwv kw v u F8 H8 s8 g8 q8 r8 I8=>?_) λ_ z=>z)
    cases es:ad wv with
    | exc z=>rw[es]at kw;exact kw.elim
    | stuck=>rw[es]at kw;cases kw
    | ok y =>
     rw[es]at kw;have kw:KE (λ_=>False) ((zt ad gf t e (ds.drop (i+1)) ρ2).bind λys=>.ok (y::ys)) _:=kw
     have kw:=KE.bind kw;obtain⟨F9,g9,r9⟩:=M.step g8 g7.s l27 hp7 q8 es (M.gr g17 rs1);have S9:=(S6.grow g7).grow g9;have nf9:F9 p=none:=g9.no nf7 hp7;have lv:vs[1]=as[1]:=M.len rs1;refine thn (xD (X:=cxF fn X s₂ H₂ scope cl C fp N) _ s8 σ6 H8 (.ref p) [v] (.ref p) [u] (λ_ H9=>H9=upd H8 p (.lst (vs++[v]))) I8 rfl (.cons r8 .nil) #[p,vs,v,rfl,rfl,g8.h _ _ hp7,by rw[lv,<- zO];lia,rfl]) λ_ s9 #[_,H9,I9,_,e9]=>?_
     subst e9;refine Z I9 (S9.side hp nf9 no2) nf9 qP r9 (by simp;omega) ?_
     exact kw.imp λys q B F1 H1 vs s1=>by
      have:(as++[y])++ys=as++(y::ys):=by simp
      rw[this];exact q B F1 H1 vs s1
 have ei:i=ds[1]:=""
 subst ei;rw[dj]at k1;refine thn (T.done (cxF fn X s₂ H₂ scope cl C fp N) rfl rfl rfl hc _ [] s B H1 _ I1 (Y fr1) st1 (Wk.stop _ F1 H1 (gE _) S1.gr.f S1.s S1.gr.h)) λr s4' #[hr,I4']=>?_
 subst hr;exact k1 B F1 H1 vs s4' S1.gr fp1 hp1 rs1[""] I4'
end
def clOf(env:Env):List (Str×NameKind)->List (Str×Addr)->List (Str×Addr)
 | [],cs=>cs
 | (n,k)::r,cs=>if k==.free then clOf env r ((n,(env.cells.lookup n).getD 0)::cs)else clOf env r cs
def vI(env:Env)(names:List (Str×NameKind)):Bool:=names.all λy=>y.2 != .cell&&(y.2 != .free||env.kindOf y.1==some .cell)
def TW{env:Env}(z:vI env scope.names=true)(B:∀ n,env.kindOf n=some .cell->∃ c,env.cells.lookup n=!c):closureFor scope env=pure (clOf env scope.names []):=by
 have go:∀ names cs,vI env names=true ->
   (forIn names cs λx r=>match x with|(name,kind)=>if (kind==NameKind.free)=true then do let y <- cellOf env name;pure (ForInStep.yield ((name,y)::r))else pure (ForInStep.yield r))=pure (clOf env names cs):=by
  intro names
  induction names with
  | nil=>intro cs _;rfl
  | cons y r ih =>
   intro cs z;obtain⟨n,k⟩:=y
   delta vI at z
   rw[pH,hX,hX]at z;rw[bE];by_cases hk:(k==NameKind.free)=true
   .have O:k=.free:=by simpa using hk
    have:env.kindOf n=some .cell:=by
     have:=z.1.2;simp[O]at this;simpa using this
    obtain⟨c,hc⟩:=B n this;have e:cellOf env n=pure c:=by simp[cellOf,hc]
    simp only[hk,e,clOf,hc];exact ih _ z.2
   simp only[hk,clOf];exact ih _ z.2
 exact congrArg (λm=>m >>= λs=>pure s) (go scope.names [] z)
def Y0{env:Env}:∀(names:List (Str×NameKind)) (cs:List (Str×Addr)),vI env names=true->(∀ n,env.kindOf n=some .cell->∃ c,env.cells.lookup n=!c)->ClIn env cs->ClIn env (clOf env names cs):=λr=>r.rec
 (λcs _ _ h=>h)
 λ#[n,k] r IH cs hb has h=>by
  delta vI at hb
  rw[pH,hX,hX]at hb;unfold clOf;by_cases hk:(k==NameKind.free)=true
  .rw[if_pos hk];have z:k=.free:=by simpa using hk
   have:env.kindOf n=some .cell:=by
    have:=hb.1.2;simp[z]at this;simpa using this
   obtain⟨c,hc⟩:=has n this;exact IH _ hb.2 has #[by rw[hc];rfl,h]
  rw[if_neg hk];exact IH _ hb.2 has h
def TX{env:Env}:∀(names:List (Str×NameKind)) (cs:List (Str×Addr)),vI env names=true->(∀ n,env.kindOf n=some .cell->∃ c,env.cells.lookup n=!c)->ClIn env cs ->
  ∀ n,((n,NameKind.free)∈names\/(∃ c,cs.lookup n=!c))->∃ c,(clOf env names cs).lookup n=!c:=λr=>r.rec
 (λcs _ _ _ n h=>by
  rcases h with h|h
  .grind
  exact h)
 λ#[m,k] r IH cs hb has hcs n h=>by
  delta vI at hb
  rw[pH,hX,hX]at hb;unfold clOf;by_cases hk:(k==NameKind.free)=true
  .rw[if_pos hk];have z:k=.free:=by simpa using hk
   have hc:env.kindOf m=some .cell:=by
    have:=hb.1.2;simp[z]at this;simpa using this
   obtain⟨c,hc⟩:=has m hc;refine IH ((m,(env.cells.lookup m).getD 0)::cs) hb.2 has (And.intro (by rw[hc];rfl) hcs) n ?_
   by_cases e:n=m
   .simp_all
   rcases h with h|⟨c',h⟩
   .grind
   have:(n==m)=false:=by simpa using e
   exact .inr #[c',by simp[List.lookup,this,h]]
  rw[if_neg hk];refine IH _ hb.2 has hcs n ?_
  grind
def TY{scope:Scope}{env:Env}(O:vI env scope.names=true)(B:∀ n,env.kindOf n=some .cell->∃ c,env.cells.lookup n=!c):Cap env (clOf env scope.names []) scope.names:=by
 have U:∀ names,(∀ y∈names,y∈scope.names)->Cap env (clOf env scope.names []) names:=by
  intro names
  induction names with
  | nil=>intro _;trivial
  | cons y r ih =>
   intro h;obtain⟨n,k⟩:=y;have hy:=h (n,k) t4;have q:=tV.mp O (n,k) hy;simp only[hX]at q;refine#[#[by simpa using q.1,λhk=>?_],ih λz hz=>h z (gu _ hz)]
   subst hk;have q2:env.kindOf n=some .cell:=by
    simp_all
   obtain⟨c,hc⟩:=TX scope.names [] O B trivial n (.inl hy);exact#[q2,hc.trans (ClIn.look (Y0 scope.names [] O B trivial) hc).symm]
 exact U scope.names λy hy=>hy
section
variable{X:Cx}{F0 H0:Hp}{pos:Pos}{tg elt iter:Expr}{ifs:List Expr}{scope:Scope}{fi:IF}{gf:GF}{t:TF}{e:EF}
abbrev cxD(X:Cx)(scope:Scope)(N:List Str)(s₂:ab)(H₂:Hp)(C:Addr)(fp:List Addr):Cx:=cxC X s₂ H₂ scope (clOf X.env scope.names []) C fp N
def okP{H H₂ F1 H1:Hp}(l:∀ c,H₂ c=none->H c=none)(h0:H₂ p=none)(z:F1 p=none)(B:H1 p=!(.lst vs))(rs:(Zk κ H₂ p).RL F1 H1 vs ys):Vok κ H F1 H1 (.ref p) (.lst ys)[9]:=#[_,_,rfl,l _ h0,z,B,rs]
def Zl(N){ad:En->R D}{fn:List D->En}(M:∀ H₂ p,Mm (kx X) H₂ p ad)(hfn:∀{H H₂ F1 H1 p vs ys},(∀ c,H₂ c=none->H c=none)->H₂ p=none->F1 p=none->H1 p=!(.lst vs)->(M H₂ p).RL F1 H1 vs ys->Vok (kx X) H F1 H1 (.ref p) (fn ys)){use:Option (aa->Sem Unit)}(hi:SIc X F0 H0 tg iter fi)(hno:kq gf)
  (hg:∀ s₂ F₂ H₂ C fp,SG (cxD X scope N s₂ H₂ C fp) F₂ H₂ tg gf)(ht:∀ s₂ F₂ H₂ C fp,Tests (cxD X scope N s₂ H₂ C fp) F₂ H₂ ifs t)(he:∀ s₂ F₂ H₂ C fp,SE (cxD X scope N s₂ H₂ C fp) F₂ H₂ elt e)
  (hc:X.calm=true)(U:scope.kind=.function)(Z:vI X.env scope.names=true)(h4:wV (relabel scope X.env).names X.N N=true)(h6:N[1]=X.N.length+n)
  (h5:∀ x∈scope.names,x.2=.local->scope.names.lookup x.1=some .local)(hs:∀ x,foldedSetIterable iter X.env x=pure x)
  {pins:List (Addr×Obj)}{s:ab}{σ:St}{F H:Hp}{ρ:Rho}{Q:aa->ab->Prop}{h7:Pos}(S:StOk (kx X) F0 H0 F H ρ σ)(I:"I" H s)
  (h:KE (XP X F0 H0) (xQ ad fn n fi gf t e ρ) λw=>∀ p C F1 H1 s1 m,Gr F H F1 H1->Vok (kx X) H F1 H1 (.ref p) w->"I" H1 s1->s1.heap.Ns C m ->
   (∀ s2 H2 h' (σ':St),Inv X pins σ' H2 s2->H2 C=none->(∀ b o,b≠C->s2.heap.get? b=!o->h'.get? b=!o)->Inv X pins σ' H2 {s2 with heap:=h'})->H1 C=none->C≠X.env.locals->(∀ x c,X.env.cells.lookup x=!c->c≠C) ->
   compPost (model X.prog X.w) X.A X.xe use Q (.ref p) C (.ok .next) s1) :
  X[3] (comprehension (.ListComp elt [#[tg,iter,ifs,0]] scope pos) scope X.env h7 (newList []) false (eval iter X.env) use) Q X.xe s:=by
 have has:∀ n,X.env.kindOf n=some .cell->∃ c,X.env.cells.lookup n=!c:=λn hn=>I.ok.has n (.inl hn)
 have hCl:=Y0 scope.names [] Z has trivial;have hCp:=TY Z has;refine wpAny_comprehension_free rfl hs (TW Z has) U h5 ?_;obtain⟨wi,PIv,hwi⟩:=hi;cases ed:fi ρ with
 | exc x=>have h:=KE.bind h;rw[ed]at h;exact h.elim
 | stuck=>have h:=KE.bind h;rw[ed]at h;cases h
 | ok ds =>
  have h:=KE.bind h;rw[ed]at h;refine thn (PIv pins s σ H (λJ H1=>∃ F1,Gr F H F1 H1/\Walk (kx X) J F1 H1 ds) I (hwi σ F H ρ _ S (by rw[ed];exact λF1 H1 J g W=>#[F1,g,W]))) λv s1 h1=>thn h1 λitv s₂ h2=>?_
  obtain⟨it,fp,tn,J,H₂,rfl,I2,T,st2,f2,F₂,g2,Wk⟩:=h2;refine tZ (wpAny_newFunctionEnv (λx hx=>(Cap.mem hCp x hx).1) (by intro y hy;simp at hy) (λh₁ Y O=>?_) U)
  generalize hH2:s₂.heap.push {cls:=.type "list",dict:=none,data:=.seq [].toArray}=HP at Y O ⊢;have hC:HP.objs.size=s₂[0]+1:=by rw[<- hH2,cR]
  have hDC:s₂[0]≠HP.objs.size:=by rw[hC];exact t7 (bn _)
  have old:∀ b o,s₂.heap.get? b=!o->h₁.get? b=!o:=λb o e =>
   O.extBut b o (t7 (by rw[hC];exact dW (gU e))) (gy _ (hH2▸gy _ e))
  have h8:h₁.get? s₂[0]=some {cls:=.type "list",data:=.seq #[] 0}:=O.extBut _ _ hDC (gy _ (hH2▸gN _ rfl));have hp:H₂ s₂[0]=none:=I2.hok.fresh (gE _);have B:s₂[0]<HP.objs.size:=by rw[hC];exact bn _
  have I4:=TN (N:=N) (n:=n) (tk:=s₂.toks+([]:List (Str×aa))[1]) I2 T st2 f2 U hCp hCl (WZ h4) h6 B Y old h8;have st4:tn 0 h₁:=T.keep _ _ _ st2 λb hb o e=>old b o e
  have S4:StOk (kx X) F₂ H₂ F₂ H₂ (jj n ρ) (σ++List.replicate n none):=TL n (S.grow g2);have h9:∀ b∈fp,FpOk (cxD X scope N s₂ H₂ HP.objs.size fp) [] (upd H₂ s₂[0] (.lst [])) b:=λb hb=>by
   obtain⟨f0,f1,f3,f4,f5,f6⟩:=f2 b hb;obtain⟨o,ho,_⟩:=T.obj 0 _ st2 b hb;have lb:=gU ho;refine#[by rw[qu (t7 lb)];exact f0,(show b≠HP.objs.size from t7 (bL lb B)),λz=>?_,.inl hb,λx c e=>f5 x c (ClIn.look hCl e),λq hq=>absurd (show q∈[]from hq) "s"]
   rcases gG.mp (I2.stkSub b z)with q|q
   .exact f1 q
   exact f3 q
  rw[Q4]at h;by_cases csz:ds[1]<=sz
  .rw[if_pos csz]at h;have run:∀ h3,h3={s₂ with heap:=h₁,toks:=s₂.toks+([]:List (Str×aa))[1]} ->
     codeAny (model X.prog X.w) X.A (.compLoop (.ListComp elt [#[tg,iter,ifs,0]] scope pos) 0 (.ref it) (.ref s₂[0]) (compEnvC scope (clOf X.env scope.names []) HP.objs.size X.env))
      (compPost (model X.prog X.w) X.A X.xe use Q (.ref s₂[0]) HP.objs.size) h3:=by
    rintro h3 rfl;refine TV (pins:=pins) (σ:=σ) (N:=N) (s₂:=s₂) (F₂:=F₂) (M H₂ _) g2.s T hc st4 Wk h9 hp I4 S4 (TR n ρ) hno (hg _ _ _ _ _) (ht _ _ _ _ _) (he _ _ _ _ _) csz (KE.impX (KE.bind h) (λys k σ1 F1 H1 vs s1 g1 nf hv rs I1=>?_) λ_ z=>z)
    have J1:"I" H1 s1:=I2.call' (ch:=fp) I1.os I1.base I1.hok I1.bare λb hb=>by
     obtain⟨f0,f1,f3,f4,f5,f6⟩:=f2 b hb;exact#[f4,f1,f5,f6]
    obtain⟨m1,hn1,_⟩:=I1.loc;have cl2:∀ x c,X.env.cells.lookup x=!c->c≠HP.objs.size:=λx c e z=>by
     obtain⟨v,o,ho,_⟩:=I2.cell x c e;exact pG _ (bL (gU ho) (z▸B))
    have lne:HP.objs.size≠X.env.locals:=tm (t7 (bL I2.lt B));refine k s₂[0] HP.objs.size F1 H1 s1 m1 (g2.trans g1) (hfn (λc z=>Le.none g2.h z) hp nf hv rs) J1 hn1 (λs2 H2 h' σ' J2 hn kk=>?_) I1.free lne cl2
    refine J2.turned (t':=s2.toks) kk hn lne (.inr (fw I2.sz (cY B))) cl2 λq hq z=>?_
    exact pG _ (bL (gU (I2.pin q hq).1) (z▸B))
   exact codeAny_compStart_list (run _ rfl) (T.self _ 0 _ _ _ st4 (run _ rfl))
  rw[if_neg csz]at h;cases h
def vw{n:Nat}(N)(hi:SIc X F0 H0 tg iter fi)(Z:kq gf)
  (hg:∀ s₂ F₂ H₂ C fp,SG (cxD X scope N s₂ H₂ C fp) F₂ H₂ tg gf)(ht:∀ s₂ F₂ H₂ C fp,Tests (cxD X scope N s₂ H₂ C fp) F₂ H₂ ifs t)(he:∀ s₂ F₂ H₂ C fp,SE (cxD X scope N s₂ H₂ C fp) F₂ H₂ elt e)
  (hc:(X.calm=true)["r"])(O:(scope.kind=.function)["r"])(U:(vI X.env scope.names=true)["r"])(z:(wV (relabel scope X.env).names X.N N=true)["r"])(Y:(N[1]=X.N.length+n)["r"])
  (B:∀ x∈scope.names,x.2=.local->scope.names.lookup x.1=some .local:=by decide +kernel)(hs:∀ x,foldedSetIterable iter X.env x=pure x:=by intro _;rfl) :
  "S" (.ListComp elt [#[tg,iter,ifs,0]] scope pos) (qS n fi gf t e):=by
 exact λpins s σ F H ρ Q S I h=>Zl N (λ_ _=>Zk _ _ _) okP hi Z hg ht he hc O U z Y B hs S I (h.imp λw k p C F1 H1 s1 m g q I1 hn turn hC _ _=>#[m,hn,λh' sb=>(k (.ref p) (.ref p) F1 H1 _ g q rfl (turn s1 H1 h' σ I1 hC λb o hb e=>(sb.2 b hb).trans e))])
def Y1(i){x:Str}{pos' B:Pos}{n:Nat}(N)(hN:X.N.Nodup)(hi:SIc X F0 H0 tg iter fi)(hno:kq gf)
  (hg:∀ s₂ F₂ H₂ C fp,SG (cxD X scope N s₂ H₂ C fp) F₂ H₂ tg gf)(ht:∀ s₂ F₂ H₂ C fp,Tests (cxD X scope N s₂ H₂ C fp) F₂ H₂ ifs t)(he:∀ s₂ F₂ H₂ C fp,SE (cxD X scope N s₂ H₂ C fp) F₂ H₂ elt e)
  (hix:(X.N[i]?=!x)["r"])(hx:(Loc X.env.scope x)["t"])(hsw:(swapsWith (.ListComp elt [#[tg,iter,ifs,0]] scope pos) (!(.Name x pos')) B.line X.env=pure true)["r"])
  (hf:(X.fn x=true\/X.env.scope.names.lookup x=some .local)["t"])
  (hc:(X.calm=true)["r"])(Y:(scope.kind=.function)["r"])(Z:(vI X.env scope.names=true)["r"])(O:(wV (relabel scope X.env).names X.N N=true)["r"])(h3:(N[1]=X.N.length+n)["r"])
  (U:∀ x∈scope.names,x.2=.local->scope.names.lookup x.1=some .local:=by decide +kernel)(hs:∀ x,foldedSetIterable iter X.env x=pure x:=by intro _;rfl) :
  SS X F0 H0 (.Assign [.Name x pos'] (.ListComp elt [#[tg,iter,ifs,0]] scope pos) B) (qk i (qS n fi gf t e)):=by
 intro pins s σ F H ρ D S I h;rw[exec_Assign_Name_used _ _ _ _ hsw];refine gg (m9 (gg ?_));refine gg (cA (Zl N (λ_ _=>Zk _ _ _) okP hi hno hg ht he hc Y Z O h3 U hs S I ((KE.bind (PostS.of h)).imp λw k p C F1 H1 s1 m g q I1 hn turn hC hL hcl=>?_)) (λ_ s' hq=>gC (gC hq)) λ_ _ e=>e)
 obtain⟨w',e1,k2,rfl⟩:=Q9 k;refine bW (JT I1 hN hix hx (v:=.ref p) rfl (λs2 I2 hch=>?_) hf)
 obtain⟨a,sb,ha⟩:=hch;have aC:C≠a:=by
  rcases ha with z|z
  .rw[z];exact hL
  exact λq=>hcl x a z q.symm
 refine#[m,hn.sameBut sb aC,λh' sb2=>#[_,H1,turn s2 H1 h' _ I2 hC λb o hb e=>(sb2.2 b hb).trans e,k2 _ F1 H1 g.f (S.setW g q e1)]]
end
def jO:List D->Option (List Int)
 | []=>↑[]
 | .int i::r=>(match jO r with|some l=>↑(i::l)|none=>none)
 | _::_=>none
def vT:Int->List Int->Int
 | m,[]=>m
 | m,x::r=>vT (if x>m then x else m) r
def kt:List D->R En
 | [.lst ds]=>(match jO ds with|some (i::r)=>okI (vT i r)|_=>.stuck)
 | _=>.stuck
def Qe:∀(r:List Int) (m:Int),(vT m r∈m::r)/\∀ a∈m::r,a<=vT m r:=λr=>r.rec
 (λm=>#[t4,λa ha=>by simp at ha;subst ha;exact pF _])
 λx r IH m=>by
  obtain⟨h1,h2⟩:=IH (if x>m then x else m)
  have e:vT m (x::r)=vT (if x>m then x else m) r:=rfl
  rw[e];by_cases c:x>m
  .rw[if_pos c]at h1 h2 ⊢;refine#[gu _ h1,λa ha=>?_]
   rcases gG.mp ha with rfl|ha
   .have:=h2 x t4;lia
   exact h2 a ha
  rw[if_neg c]at h1 h2 ⊢;refine#[?_,λa ha=>?_]
  .grind
  rcases gG.mp ha with rfl|ha
  .exact h2 _ t4
  rcases gG.mp ha with rfl|ha
  .have:=h2 m t4;lia
  simp_all
theorem wX:∀{ds} {vs} {ns},jO ds=!ns->Reps κ F vs ds->vs=ns.map V.int
 | [],vs,ns,h,r=>by cases h;exact r
 | d::ds,vs,ns,h,r=>by
  obtain⟨v,vr,rfl,r1,r2⟩:=r;cases d<;>first|(cases h;done)|skip
  unfold jO at h;cases e:jO ds with
  | none=>rw[e]at h;cases h
  | some l =>
   rw[e]at h;cases h;cases (r1);rw[wX e r2];rfl
section
variable{X:Cx}{F0 H0:Hp}
def Y2(B:(X.calm=true)["r"]):zM X (.builtin "max") kt:=by
 intro pins s σ F H xs us ds Q I l rx qx w;cases qx with
 | nil=>exact w.elim
 | @cons x d xs ds q1 q2 =>
  cases q2 with
  | cons _ _=>cases d<;>exact w.elim
  | nil =>
   cases d<;>first|exact w.elim|skip
   rename_i ds;unfold kt at w;dsimp only at w;cases e:jO ds with
   | none=>rw[e]at w;exact w.elim
   | some ns =>
    rw[e]at w;cases ns with
    | nil=>exact w.elim
    | cons i r =>
     dsimp only at w;obtain⟨p,vs,rfl,hq,rs⟩:=RdV.lst l q1;have ev:=wX e rs;subst ev;cases rx with
     | cons r1 r2 =>
      cases r2;cases r1;obtain⟨its,rv,pl,hz⟩:=I.list hq;have hi:IntsAre its (i::r):=yk rv;obtain⟨ys,ey⟩:=hi.allInts.items;have z:(i::r)=ys[2].map (·.1):=by rw[<- hi.numsOf,<- mf,<- ey]
      have hsz:0<ys.size:=by
       have h3:0<(i::r)[1]:=succ_pos _;rw[z,gj,fj]at h3;exact h3
      have hl:=pl.isList;rw[ey]at hl;refine max_intList (I.ok.hd B) hl hsz λv h' tk hv hk=>?_
      obtain⟨t,rfl⟩:=intItems_at hv;obtain⟨h1,h2⟩:=argBest_gt (numAt ys) (ys.size-1);have m1:numAt ys (argBest (λi j=>decide (numAt ys i>numAt ys j)) (ys.size-1))∈i::r:=by
       rw[z,numAt_eq];exact getD_mem (by rw[gj,fj];lia)
      have m2:∀ a∈i::r,a<=numAt ys (argBest (λi j=>decide (numAt ys i>numAt ys j)) (ys.size-1)):=λa ha=>by
       rw[z]at ha;obtain⟨j,hj,rfl⟩:=mem_getD ha;rw[gj,fj]at hj;rw[<- numAt_eq];exact h2 j ""
      obtain⟨k1,k2⟩:=Qe r i;have em:numAt ys (argBest (λi j=>decide (numAt ys i>numAt ys j)) (ys.size-1))=vT i r:=Int.le_antisymm (k2 _ m1) (m2 _ k1)
      rw[em];exact#[.int _,H,I.kept hk,#[_,rfl],jo (X:=X) l (v:=.int _) w rfl]
def Qf:Sum Int Str->D
 | .inl i=>.int i
 | .inr x=>.str x
def Zm(e:EF):IF:=λρ=>(e ρ).bind λw=>w.st.bind λd=>match d with
 | .dK kvs=>.ok (kvs.map λp=>Qf p.1)
 | _=>.stuck
def ItK(ks:List Key):It:=#[λi _=>i<ks[1],λi H x H'=>H'=H/\∃ k,ks[i]?=!k/\x=kV k,λi _=>ks[1]<=i]
def TZ(h:(jk P w).is k u=true):RelV (kV k) u:=by
 rcases vZ h with⟨i,t,rfl,rfl⟩|⟨x,t,rfl,rfl⟩
 .exact#[t,rfl]
 exact#[t,rfl]
def qa0{K:Frag}{o:Obj}{es:Array DictEntry}{ep:Nat}{vs:List (Key×aa)}(B:K.lookup a=!o)(h1:o.ExactDict)(h2:o.data=.dict es ep)
  (O:KeysOf (jk P w) es)(U:Pairs (jk P w) es[2] vs)(Y:(vs.map (·.1)).Nodup):Turn P w K tg (ItK (vs.map (·.1))) [it] it (λi h=>h.IsKeyIter it a i vs[1] ep)where
 mem:=by simp
 obj:=λi h st b hb=>by
  obtain⟨o,e,c,d⟩:=st
  simp_all
 keep:=λi h h' st k=>by
  obtain⟨o,e,r⟩:=st;exact#[o,k it "s" o e,r]
 item:=by
  intro X hP hw hK hc i pins s σ H E I hf st hg;subst hP hw hK;have hm:s.heap.DictAt (jk X.prog X.w) a vs ep:=#[o,es,I.kIn a o B,h1,h2,O,U,Y];have hg:i<(vs.map (·.1))[1]:=hg
  rw[gj]at hg;obtain⟨f0,f1,f2,f3,f4,f5⟩:=hf it "s"
  have hx:vs[i]?=!((vs[i]).1,(vs[i]).2):=by simp[hg]
  refine wpAny_pyNext_dict_item st hm hx λkey h' ik z sb=>?_
  have I1:"I" H {s with heap:=h'}:=I.turned (λb o hb e=>(sb.2 b hb).trans e) f0 f1 f3 f4 f5
  obtain⟨o',e,c,d⟩:=id z;exact#[key,rfl,yi (s:={s with heap:=h'}) e c d "d" #[kV (vs[i]).1,H,I1,TZ ik,#[rfl,(vs[i]).1,by simp[hg],rfl],z,λb hb=>(hf b hb).1]]
 done:=by
  intro X hP hw hK hc i pins s σ H E I hf st hg;subst hP hw hK;have hm:s.heap.DictAt (jk X.prog X.w) a vs ep:=#[o,es,I.kIn a o B,h1,h2,O,U,Y];have hg:(vs.map (·.1))[1]<=i:=hg
  rw[gj]at hg;obtain⟨f0,f1,f2,f3,f4,f5⟩:=hf it "s"
  exact wpAny_pyNext_dict_end (I.ok.hd hc) st hm (by simp;omega) λh' eb=>#[rfl,I.turned (t':=s.toks) (λb o hb e=>eb b o hb e) f0 f1 f3 f4 f5]
 self:=λ_ _ _ _ _ st h=>wpAny_pyIter_keyiter st h
theorem Zn:∀{kds} {kvs},RepK κ F kvs kds->kvs.map (·.1)=kds.map (·.1)
 | [],_,h=>by cases (h);rfl
 | (k,d)::r,_,h=>by
  obtain⟨v,kr,rfl,h1,h2⟩:=h;simp[Zn h2]
def qa1(B:X.mg x=!u)(r:RelV v u)(q:∀ F,Rep (kx X) F v d)(O:(Gl X x)["r"])(hd:((x==("__debug__"))=false)["d"]) :
  SI X F0 H0 tg (.Name x pos) (Zm (eC d)):=by
 refine#[λσ H R=>∃ kds,d=.dK kds/\R (ItK (kds.map (·.1))) H,?_,λσ F H ρ R S h=>?_]
 .intro pins s σ H R I ⟨kds,ed,hR⟩;subst ed;obtain⟨a,kvs,ev,hq,rk⟩:=q (λ_=>none)
  subst ev;cases (show u=Value.ref a from r)
  rcases hq with(hq|⟨_,hq⟩)|⟨hs,o,es,ep,vs,hk,h1,h2,h3,h4,h5,h6⟩
  .cases hq
  .cases hq
  refine JU I O B ?_ hd;have z:s.heap.DictAt (jk X.prog X.w) a vs ep:=#[o,es,I.kIn a o hk,h1,h2,h3,h4,h5];have ek:vs.map (·.1)=kds.map (·.1):=by rw[<- Zn rk];exact(KV.keys h6).symm
  refine wpAny_pyIter_dict hs z ?_;refine#[s[0],[s[0]],_,_,H,rfl,I.kept λb o e=>gy _ e,qa0 hk h1 h2 h3 h4 h5,#[_,gN _ rfl,rfl,rfl],λb hb=>?_,?_]
  .have e:b=s[0]:=by simpa using hb
   subst e;exact I.fpOk (gE _) (I.hok.fresh (gE _))
  rw[ek];exact hR
 cases d<;>first|exact h.elim|skip
 rename_i kds;refine#[kds,rfl,?_];refine h F H _ (Gr.refl S.s) #[λi dd F2 H2 e l1 l2 _=>?_,λi F2 H2 hi l1 l2 _=>?_]
 .rw[gM]at e;cases ek:kds[i]? with
  | none=>rw[ek]at e;cases e
  | some p =>
   rw[ek]at e;have e:Qf p.1=dd:=by simpa using e
   have hi:i<kds[1]:=(gw.mp ek).1;refine#[by simpa[ItK]using hi,λy H' hy=>?_]
   obtain⟨eh,k,e1,e2⟩:=hy;subst eh;refine#[F2,Gr.refl l2,?_];rw[gM,ek]at e1;have e1:p.1=k:=by simpa using e1
   subst e1 e2 e;cases p.1<;>rfl
 simpa[ItK]using hi
end
def StOk.frz{a:Addr}(S:StOk κ F0 H0 F H ρ σ)(B:ρ[i]?=!(!d[9])):∃ F',Le F F'/\StOk κ F0 H0 F' H (ρ.set i (!d[8])) σ:=by
 obtain⟨v,si,b,o,rfl,h0,hf,hh,ro⟩:=S.val i _ B;have l:Le F (upd F b o):=λc u h=>by rw[qu (jH h hf)];exact h
 refine#[upd F b o,l,#[#[Le.trans S.gr.f l,S.gr.h,λc u h=>?_,λc h=>?_],by simpa using S.len,λj w e=>?_,λj k w w' c O ej ek oj ok sj sk=>?_,λj y e=>?_]]
 .by_cases e:c=b
  .subst e;rw[qP]at h;cases h;exact hh
  rw[qu e]at h;exact S.gr.s c u h
 .by_cases e:c=b
  .subst e;exact .inr (.inl h0)
  rw[qu e]at h;exact S.gr.n c h
 .rcases qB e with⟨rfl,z⟩|⟨ne,z⟩
  .cases z;refine#[_,si,?_];have r:=OwnO.le l ro;cases o<;>cases d<;>first
    | exact r.elim
    | exact#[b,_,rfl,.inl (.inl qP),r]
    | exact#[b,_,rfl,.inl qP,r]
  obtain⟨v,e1,q⟩:=S.val j w z;refine#[v,e1,?_];have nb:∀{c},v=.ref c->w.own=true->c≠b:=λ{c} ev ow ec=>by
   subst ev ec;exact S.sep j i w _ c ne z B ow rfl e1 si
  cases w with
  | fz d=>exact Rep.le l d q
  | br d=>obtain⟨c,oc,ec,eh,cr⟩:=q;exact#[c,oc,ec,eh,OwnO.le l cr]
  | ow d=>obtain⟨c,oc,ec,c0,cf,ch,cr⟩:=q;exact#[c,oc,ec,c0,by rw[qu (nb ec rfl)];exact cf,ch,OwnO.le l cr]
  | lk d=>exact#[Rep.le l d q.1,RawT.le l q.2]
  | od d=>obtain⟨c,oc,ec,c0,cf,ch⟩:=q;exact#[c,oc,ec,c0,by rw[qu (nb ec rfl)];exact cf,ch]
 .rcases qB ej with⟨_,z⟩|⟨nj,ej⟩
  .cases z;cases oj
  rcases qB ek with⟨_,z⟩|⟨nk,ek⟩
  .cases z;cases ok
  exact S.sep j k w w' c O ej ek oj ok sj sk
 rcases qB e with⟨_,z⟩|⟨nj,ej⟩
 .lia
 obtain⟨s1,c,bs,e1,c0,cf,nd,dp,sp⟩:=S.dp j y ej;have nb:∀ x∈c::bs,x≠b:=λx m z=>by subst z;exact sp i _ _ (tm nj) B rfl m si
 refine#[λk z hk ek=>?_,c,bs,e1,c0,by rw[qu (nb c "s")];exact cf,nd,Deep.same (λ_ _=>rfl) (λx m z=>by rw[qu (nb x (gu _ m))];exact z) l dp,λk w x hk ek ok m=>?_]
 .rcases qB ek with⟨_,q⟩|⟨_,q⟩
  .cases q
  exact s1 k z hk q
 rcases qB ek with⟨_,q⟩|⟨_,q⟩
 .cases q;cases ok
 exact sp k w x hk q ok m
def jY{st:Stmt}(i)(h:SS X F0 H0 st f):SS X F0 H0 st (jn i f):=by
 intro pins s σ F H ρ D S I k
 delta jn L3.frz at k
 split at k
 .rename_i d e;obtain⟨F',l,S'⟩:=S.frz (a:=0) e;exact h pins s σ F' H _ D S' I (PostS.le l k)
 exact h pins s σ F H ρ D S I k
def jm{κ:Type} [DecidableEq κ](k:κ)(v:D)(kds:List (κ×D)):List (κ×D) :=
 if (kds.any λkv=>decide (kv.1=k))=true then kds.map (λkv=>if kv.1=k then(kv.1,v)else kv)else kds++[(k,v)]
def eDK:EF:=λ_=>.ok (.dK [])[9]
def eDT:EF:=λ_=>.ok (.dT [])[9]
theorem Y3:∀{kds es} {kvs us},RepK κ F kvs kds->RepK κ F us es->RepK κ F (kvs++us) (kds++es)
 | [],_,_,_,h,k=>by cases (h);exact k
 | (q,d)::r,_,_,_,h,k=>by
  obtain⟨v,kr,rfl,h1,h2⟩:=h;exact#[v,kr++_,rfl,h1,Y3 h2 k]
theorem Zo(z:Rep κ F v d):∀{kds} {kvs},RepK κ F kvs kds ->
  RepK κ F (kvs.map λkv=>if kv.1=k then(kv.1,v)else kv) (kds.map λkv=>if kv.1=k then(kv.1,d)else kv)
 | [],_,h=>by cases (h);rfl
 | (q,e)::r,_,h=>by
  obtain⟨u,kr,rfl,h1,h2⟩:=h;by_cases c:q=k
  .subst c;simp[gW];exact#[v,_,rfl,z,(Zo z h2)]
  simp[gW,if_neg c];exact#[u,_,rfl,h1,(Zo z h2)]
def qa2(k){kds:List (Sum Int Str×D)}{kvs:List (Key×V)}(h:RepK κ F kvs kds):(kvs.any λkv=>decide (kv.1=k))=(kds.any λkv=>decide (kv.1=k)):=by
 have a:∀{α} (l:List (Key×α)),(l.any λkv=>decide (kv.1=k))=(l.map (·.1)).any λq=>decide (q=k):=λl=>by rw[List.any_map];rfl
 rw[a,a,(Zn h)]
def qa3(z:Rep κ F v d)(h:RepK κ F kvs kds):RepK κ F (jN kvs k v) (jm k d kds):=by
 delta jN jm
 rw[qa2 k h];by_cases c:(kds.any λkv=>decide (kv.1=k))=true
 .rw[if_pos c,if_pos c];exact Zo z h
 rw[if_neg c,if_neg c];exact Y3 h #[v,[],rfl,z,rfl]
section
variable{X:Cx}{F0 H0:Hp}{pos pos':Pos}
def Y4:"S" (.Dict [] [] pos) eDK:=by
 refine λpins s σ F H ρ Q S I h=>thn (T9 pins s σ H (λv H'=>∃ p,v=.ref p/\H p=none/\H'=upd H p (.dK [])) I λp hp=>#[p,rfl,hp,rfl]) λu s' #[v,H',I',r,p,ev,hp,eh]=>?_
 subst ev eh;exact h (.ref p) u F (upd H p (.dK [])) s' (Gr.new S.s hp) #[p,_,rfl,hp,Le.none S.s hp,qP,rfl] r I'
def Zp:"S" (.Dict [] [] pos) eDT:=by
 refine λpins s σ F H ρ Q S I h=>thn (Ta pins s σ H (λv H'=>∃ p,v=.ref p/\H p=none/\H'=upd H p (.dT [])) I λp hp=>#[p,rfl,hp,rfl]) λu s' #[v,H',I',r,p,ev,hp,eh]=>?_
 subst ev eh;exact h (.ref p) u F (upd H p (.dT [])) s' (Gr.new S.s hp) #[p,_,rfl,hp,Le.none S.s hp,qP,rfl] r I'
def w9(i:Nat)(k e:EF):SF:=λρ=>match ρ[i]? with
 | some (!(.dK kvs)[9])=>sOf ((e ρ).bind En.st) λd=>sOf (k ρ) λq=>match zq q.d with
  | some key=>if kvs[1]<sz then .nx (ρ.set i (!(.dK (jm key d kvs))[9]))else .stuck
  | none=>.stuck
 | _=>.stuck
def Y5(i)(Y:X.A.units+10<cLine)(z:"S" k fk)(B:"S" e fe)(O:(Nm X i x)["t"])(U:(swapsWith e (!(.Subscript (.Name x np) k pos')) pos.line X.env=pure false)["r"]) :
  SS X F0 H0 (.Assign [.Subscript (.Name x np) k pos'] e pos) (w9 i fk fe):=by
 intro pins s σ F H ρ D S I h
 delta w9 at h
 cases ew:ρ[i]? with
 | none=>rw[ew]at h;exact h.elim
 | some w =>
  rw[ew]at h;cases w with
  | none=>exact h.elim
  | some w =>
   cases w with
   | fz d=>exact h.elim
   | br d=>exact h.elim
   | lk d=>exact h.elim
   | od d=>exact h.elim
   | ow d =>
    cases d<;>first|exact h.elim|skip
    rename_i kds;have h:=KE.bind (PostS.of h);obtain⟨v,e1,a,o,rfl,h0,hf,hh,ro⟩:=S.val i _ ew;cases o<;>first|exact ro.elim|skip
    rename_i kvs;refine Z2 (pos:=pos) (pos':=pos') "o" (pvN (pos:=np) O) (jd (e:=k)) (jd (e:=e)) U pins s σ H D I (B.sem S (h.imp λw k1 y F1 H1 g1 q1=>?_))
    cases es:w.st with
    | exc x=>rw[es]at k1;exact k1.elim
    | stuck=>rw[es]at k1;exact k1.elim
    | ok d =>
     rw[es]at k1;have ry:=Vok.st S.s g1 q1 es;obtain⟨g2,_⟩:=vt S.s g1;have S2:=S.grow g2;refine#[_,e1,z.sem S2 ((PostS.of (show PostS X F0 H0 F D _ from k1)).imp λwk k2 y2 F3 H3 g3 q3=>?_)]
     cases ek:zq wk.d with
     | none=>rw[ek]at k2;exact k2.elim
     | some key =>
      rw[ek]at k2;have ey:y2=kV key:=by
       have r:=Vok.rd q3;cases ed:wk.d with
       | int j=>rw[ed]at ek r;cases ek;exact RdV.int r
       | str j=>rw[ed]at ek r;cases ek;exact RdV.str r
       | _=>rw[ed]at ek;cases ek
      subst ey;have lv:kvs[1]=kds[1]:=RepK.length ro;by_cases c:kds[1]<sz
      .have k3:PostS X F0 H0 F D (.nx (ρ.set i (!(.dK (jm key d kds))[9]))):=by simpa[if_pos c]using k2
       refine#[a,_,rfl,DPut.k (g3.h _ _ (g1.h _ _ hh)) (by rw[lv];exact c),?_]
       refine k3 σ _ _ (Le.trans g2.f g3.f) ((S2.grow g3).mut ew e1 (o:=.dK (jN kvs key y)) ?_);exact qa3 (Rep.le g3.f _ ry) (RepK.le (Le.trans g2.f g3.f) _ ro)
      have:False:=by simpa[if_neg c,PostS,KE]using k2
      exact this.elim
def xR(d k x:EF):EF:=λρ=>(d ρ).bind λwd=>match wd.d with
 | .dK kvs=>(k ρ).bind λwk=>(x ρ).bind λwx=>(match zq wk.d with
  | some q=>(match look q kvs with|some d=>.ok d[8]|none=>.ok wx)
  | none=>.stuck)
 | _=>.stuck
def qa4(Y:"S" o fo)(Z:"S" e fe)(hf:"S" f ff)(m:M2 X o "get" apos e f cpos:=by exact#[rfl,rfl,rfl,rfl]) :
  "S" (.Call (.Attribute o "get" apos) [e,f] [] cpos) (xR fo fe ff):=by
 refine λpins s σ F H ρ Q S I h=>bY m.base m.few m.line cL fV bi (Y pins s σ F H ρ _ S I ((KE.bind h).imp λwd h1 v u F1 H1 s1 g1 q1 r1 I1=>?_))
 have qd:=Vok.rd q1
 revert h1 qd
 generalize wd.d=dd;intro h1 qd;cases dd<;>first|exact h1.elim|skip
 obtain⟨p,kvs,rfl,hq,rk⟩:=RdV.dK g1.s qd;cases (show u=Value.ref p from r1)
 obtain⟨hd,vs,rel,dd⟩:=Inv.dictK I1 hq;refine#[dd.typeIs,λb q=>?_,?_]
 .cases q;obtain⟨ob,_,_,e1,e2,_⟩:=dd;exact#[ob,e1,e2.2.1]
 rw[m.trees];refine pT rfl (d9 (t5 (Z pins s1 σ F1 H1 ρ _ (S.grow g1) I1 ((KE.bind h1).imp λwk h2 v2 u2 F2 H2 s2 g2 q2 r2 I2 =>
  t5 (hf pins s2 σ F2 H2 ρ _ (S.grow (g1.trans g2)) I2 ((KE.bind h2).imp λwx h3 v3 u3 F3 H3 s3 g3 q3 r3 I3=>tN ?_))))))
 cases ek:zq wk.d with
 | none=>rw[ek]at h3;exact h3.elim
 | some key =>
  rw[ek]at h3;dsimp only at h3;have ry:RelV (kV key) u2:=Z8 ek (RdV.gr g3 (Vok.rd q2)) r2;obtain⟨hd3,vs3,O,U⟩:=Inv.dictK I3 (SqK.le (Le.trans g2.h g3.h) hq);refine bg fV U.typeIs cU (dJ _ _ _) (meets_dict_get_default (jk X.prog X.w) p (kc ry) hd3 u3) #[_,U.mapOf,?_];have rg:=(O.val key).getD r3;have B:=g1.trans (g2.trans g3);rcases RepK.look key rk with⟨z,d,a1,a2,rz⟩|⟨a1,a2⟩
  .rw[a2]at h3;rw[a1]at rg;exact h3 z _ F3 H3 _ B (Rep.le (Le.trans g2.f g3.f) _ rz) rg (I3.tok _)
  rw[a2]at h3;rw[a1]at rg;exact h3 v3 _ F3 H3 _ B (Vok.older (λa e=>Le.none (Le.trans g1.h g2.h) e) q3) rg (I3.tok _)
def xS:List D->R En
 | [.int i,.int j]=>okI (if j>i then j else i)
 | _=>.stuck
def Y6(z:(X.calm=true)["r"]):zM X (.builtin "max") xS:=kn (G7 z) λF H xs ds Q l qx w=>by
 cases qx with
 | nil=>exact w.elim
 | @cons x d xs ds q1 q2 =>
  cases q2 with
  | nil=>cases d<;>exact w.elim
  | @cons y e ys es q2 q3 =>
   cases q3 with
   | cons _ _=>cases d<;>first|exact w.elim|(cases e<;>exact w.elim)
   | nil =>
    cases d<;>first|exact w.elim|skip
    cases e<;>first|exact w.elim|skip
    cases RdV.int q1;cases RdV.int q2;exact#[_,_,rfl,jo l w rfl]
def Y7(z:(X.calm=true)["r"]):zM X (.builtin "min") xG:=kn (G8 z) λF H xs ds Q l qx w=>by
 cases qx with
 | nil=>exact w.elim
 | @cons x d xs ds q1 q2 =>
  cases q2 with
  | nil=>cases d<;>exact w.elim
  | @cons y e ys es q2 q3 =>
   cases q3 with
   | cons _ _=>cases d<;>first|exact w.elim|(cases e<;>exact w.elim)
   | nil =>
    cases d<;>first|exact w.elim|skip
    cases e<;>first|exact w.elim|skip
    cases RdV.int q1;cases RdV.int q2;exact#[_,_,rfl,jo l w rfl]
def vU:List D->R En
 | [.lst ds]=>(match jO ds with|some ns=>okI ns.sum|none=>.stuck)
 | _=>.stuck
def Zq(B:(X.calm=true)["r"]):zM X (.builtin "sum") vU:=by
 intro pins s σ F H xs us ds Q I l rx qx w;cases qx with
 | nil=>exact w.elim
 | @cons x d xs ds q1 q2 =>
  cases q2 with
  | cons _ _=>cases d<;>exact w.elim
  | nil =>
   cases d<;>first|exact w.elim|skip
   rename_i ds
   delta vU at w
   dsimp only at w;cases e:jO ds with
   | none=>rw[e]at w;exact w.elim
   | some ns =>
    rw[e]at w;obtain⟨p,vs,rfl,hq,rs⟩:=RdV.lst l q1;have ev:=wX e rs;subst ev;cases rx with
    | cons r1 r2 =>
     cases r2;cases r1;obtain⟨its,rv,pl,hz⟩:=I.list hq;have hi:=yk rv;obtain⟨ys,ey⟩:=hi.allInts.items;have z:ns=ys[2].map (·.1):=by rw[<- hi.numsOf,<- mf,<- ey]
     have hl:=pl.isList;rw[ey]at hl;refine sum_intListG (I.ok.hd B) hl λh' tk t' hk=>?_
     rw[preSum_eq,tX "s",<- z]
     exact#[.int _,H,I.kept hk,#[_,rfl],jo l w rfl]
def xT(g g':D->D->R En)(a b c:EF):EF:=λρ=>(a ρ).bind λx=>(b ρ).bind λy=>(g x.d y.d).bind λr=>(isB r.d).bind λt=>if t=true then(c ρ).bind λz=>g' y.d z.d else okB false
section
variable{a b c:Expr}{fa fb fc:EF}{g g':D->D->R En}{op op':CmpOp}
def Zr(U:OpD X (compareOp op) g)(O:OpD X (compareOp op') g')(Y:"S" a fa)(Z:"S" b fb)(hc:"S" c fc)
  (hm:lastMarks [op,op'] [b,c]=false:=by with_unfolding_all rfl):"S" (.Compare a [op,op'] [b,c] pos) (xT g g' fa fb fc):=by
 refine λpins s σ F H ρ Q S I h=>Compare_chain (Y pins s σ F H ρ _ S I ((KE.bind h).imp λwx h1 v u F1 H1 s1 g1 q1 r1 I1=>chain_link (Z pins s1 σ F1 H1 ρ _ (S.grow g1) I1 ((KE.bind h1).imp λwy h2 v2 u2 F2 H2 s2 g2 q2 r2 I2=>?_)))) hm
 refine thn (U pins s2 σ F2 H2 v v2 u u2 wx.d wy.d (λv3 H3=>∃ F3 w3,Gr F2 H2 F3 H3/\Vok (kx X) H2 F3 H3 v3 w3/\KE (XP X F0 H0) ((isB w3.d).bind λt=>if t=true then(fc ρ).bind λz=>g' wy.d z.d else okB false) _) I2 g2.s r1 r2 (RdV.gr g2 (Vok.rd q1)) (Vok.rd q2) (KE.impX (KE.bind h2) (λw k v3 F3 H3 g3 q3=>#[F3,w,g3,q3,k]) λ_ z=>z.elim)) λcv s3 #[z,H3,I3,rz,F3,w3,g3,q3,k]=>?_
 obtain⟨t,rfl,k2⟩:=Zb (Vok.rd q3) rz (KE.bind k);refine pN ?_;have B:=g1.trans (g2.trans g3);cases t with
 | false=>exact k2 (.bl false) _ F3 H3 s3 B rfl rfl I3
 | true =>
  exact chain_last (hc pins s3 σ F3 H3 ρ _ (S.grow B) I3 ((KE.bind k2).imp λwz k4 v4 u4 F4 H4 s4 g4 q4 r4 I4=>(vE (O pins s4 σ F4 H4 v2 v4 u2 u4 wy.d wz.d _ I4 g4.s r2 r4 (RdV.gr (g3.trans g4) (Vok.rd q2)) (Vok.rd q4) (yq (B.trans g4) k4)))))
end
def zu:SF:=λ_=>.stuck
def wF{st:Stmt}:SS X F0 H0 st zu:=λpins s σ F H ρ D S I h=>h.elim
end
def qa5(I:Rho->Prop)(Q:Out->Prop):Out->Prop
 | .nx ρ=>I ρ
 | .ct ρ=>I ρ
 | .bk ρ=>Q (.nx ρ)
 | o=>Q o
def Zs{b:SF}{Q:Out->Prop}:∀(xs:List D) (I:Nat->Rho->Prop) {ρ:Rho},I 0 ρ ->
  (∀ i x ρ,xs[i]?=!x->I i ρ->∃ ρ1,g x ρ=.ok ρ1/\qa5 (I (i+1)) Q (b ρ1))->(∀ ρ,I xs[1] ρ->Q (.nx ρ))->Q (qH g b xs ρ):=λxs=>xs.rec
 (@λI ρ h0 _ fin=>fin ρ h0)
 λx xs IH=>@λI ρ h0 step fin=>by
  obtain⟨ρ1,e1,t⟩:=step 0 x ρ rfl h0;have B:∀ z,I 1 z->Q (qH g b xs z):=λz h =>
   IH (λi=>I (i+1)) h (λi y ρ e hi=>step (i+1) y ρ e[""] hi) (λρ h=>fin ρ h[""])
  unfold qH;rw[e1];dsimp only;cases eb:b ρ1 with
  | nx z=>rw[eb]at t;exact B z t
  | ct z=>rw[eb]at t;exact B z t
  | bk z=>rw[eb]at t;exact t
  | rt w=>rw[eb]at t;exact t
  | exc w=>rw[eb]at t;exact t
  | stuck=>rw[eb]at t;exact t
def vx(xs)(I:Nat->Rho->Prop)(h0:I 0 ρ)(step:∀ i x ρ,xs[i]?=!x->I i ρ->∃ ρ1 z,g x ρ=.ok ρ1/\(b ρ1=.nx z\/b ρ1=.ct z)/\I (i+1) z) :
  ∃ ρ',qH g b xs ρ=.nx ρ'/\I xs[1] ρ':=by
 refine Zs (Q:=λo=>∃ ρ',o=.nx ρ'/\I xs[1] ρ') xs I h0 (λi x ρ e hi=>?_) λρ h=>#[ρ,rfl,h]
 obtain⟨ρ1,z,e1,e2,h⟩:=step i x ρ e hi;refine#[ρ1,e1,?_];rcases e2 with e2|e2<;>(rw[e2];exact h)
def Qg(n)(I:Nat->Rho->Prop)(h0:I 0 ρ)(step:∀ i ρ,i<n->I i ρ->∃ ρ1 z,g i[6] ρ=.ok ρ1/\(b ρ1=.nx z\/b ρ1=.ct z)/\I (i+1) z) :
  ∃ ρ',qH g b (zG 0 n) ρ=.nx ρ'/\I n ρ':=by
 have:=vx (zG 0 n) I h0 λi x ρ e hi=>by
  rw[Qa]at e;by_cases h:i<n
  .rw[if_pos h]at e;cases e;have:=step i ρ h hi;simpa using this
  simp_all
 rw[Zh]at this;exact this
def Zt{ad:En->R D}(i:Nat)(p:D->Bool)(f:D->D):∀(ds:List D) (ρ:Rho),
  (∀ d∈ds,t (ρ.set i (!d[8]))=.ok (p d)/\(p d=true->∃ w,e (ρ.set i (!d[8]))=.ok w/\ad w=.ok (f d)))->zt ad (gV i) t e ds ρ=.ok ((ds.filter p).map f):=λds=>ds.rec
 (λ_ _=>rfl)
 λd ds IH ρ h=>by
  obtain⟨h1,h2⟩:=h d t4;have z:=IH (ρ.set i (!d[8])) λx hx=>by
   rw[bM];exact h x (gu _ hx)
  show(R.bind (t (ρ.set i (!d[8]))) λb=>if b=true then(e (ρ.set i (!d[8]))).bind λw=>(ad w).bind λy=>(zt ad (gV i) t e ds (ρ.set i (!d[8]))).bind λys=>.ok (y::ys)else zt ad (gV i) t e ds (ρ.set i (!d[8])))=_
  grind
def ku{ad:En->R D}(i:Nat)(f:D->D)(ds:List D)(ρ:Rho)(h:∀ d∈ds,∃ w,e (ρ.set i (!d[8]))=.ok w/\ad w=.ok (f d)):zt ad (gV i) qX e ds ρ=.ok (ds.map f):=by
 have:=Zt i (t:=qX) (λ_=>true) f ds ρ λd hd=>#[rfl,λ_=>h d hd]
 rw[this];congr 2;simp
def zm{i:Nat}:ati xs i=xs[i]?:=by
 delta ati ixn
 by_cases h:i<xs[1]
 .simp_all
 simp_all
def Qh:ati xs (-1)=xs.getLast?:=by
 delta ati ixn
 cases xs with
 | nil=>rfl
 | cons x r =>
  rw[if_neg "d",if_pos (by simp;lia)]
  have:((-1)+((x::r)[1]:Int)).toNat=(x::r)[1]-1:=""
  rw[this,List.getLast?_eq_getElem?];rfl
def Y8{ad:En->R D}{fi:List D->En}{n:Nat}{it:IF}{ds ys:List D}(h:it ρ=.ok ds)(z:ds[1]<=sz)(h2:zt ad gf t e ds (jj n ρ)=.ok ys):xQ ad fi n it gf t e ρ=.ok (fi ys):=by
 delta xQ
 lia
def yx{it:IF}{ds ys:List D}(h:it ρ=.ok ds)(z:ds[1]<=sz)(h2:zt En.st gf t e ds (jj n ρ)=.ok ys):qS n it gf t e ρ=.ok (.lst ys)[9]:=Y8 h z h2
def Out.th(o:Out)(b:SF):Out:=match o with
 | .nx ρ=>b ρ
 | o=>o
def Zu(a b:SF)(ρ:Rho)(c:Bool):Out:=if c=true then a ρ else b ρ
def xU(a b:EF)(ρ:Rho)(c:Bool):R En:=if c=true then a ρ else b ρ
def Qi(a b:TF)(ρ:Rho)(c:Bool):R Bool:=if c=true then a ρ else b ρ
def kF:EF:=λ_=>okB false
def kfB:TF:=λ_=>.ok false
def ktB:TF:=λ_=>.ok true
def ky(o:Option (Option En)):R En:=match o with
 | some (!d[8])=>.ok d[8]
 | some (!d[9])=>.ok (.br d)
 | some (!(.br d))=>.ok (.br d)
 | some (!(.lk d))=>.ok d[8]
 | _=>.stuck
def Zv(o:Option (Option En)):Out:=match o with
 | some (!d[8])=>.rt d[8]
 | some (!d[9])=>.rt d[9]
 | _=>.stuck
def R.b (r:R α) (f:α->R β):R β:=r.bind f
theorem xV{f:α->R β}:(R.ok a).b f=f a:=rfl
def kC(ds:List D):R En:=if ds[1]<=sz then .ok (.lst ds)[9]else .stuck
def Qj(ds:List D):R En:=if ds[1]<=sz then .ok (.tup ds)[8]else .stuck
def En.dd(w:En):D:=w.d
def En.sto(w:En):R D:=w.st
def En.argo(w:En):R En:=w.arg
def En.nmo(w:En):R En:=w.nm
section
variable{a b:SF}{ρ ρ':Rho}{w:En}{x:Xc}{d:D}{e f:EF}{t u:TF}{i j:Nat}{α β:Type}{k:α->Out}{v:α}{l:List EF}
theorem jT:Out.th (.nx ρ) b=b ρ:=rfl
theorem qgT:Out.th (.rt w) b=.rt w:=rfl
theorem qa6:Out.th (.bk ρ) b=.bk ρ:=rfl
theorem qgU:Out.th .stuck b=.stuck:=rfl
def jG:qf a b ρ=Out.th (a ρ) b:=by delta Out.th;cases ρ<;>rfl
theorem zw:sOf (.ok v) k=k v:=rfl
theorem Y9:Zu a b ρ true=a ρ:=rfl
theorem Ya:Zu a b ρ false=b ρ:=rfl
theorem qgV:xU e f ρ true=e ρ:=rfl
theorem qgW:xU e f ρ false=f ρ:=rfl
theorem qgX:Qi t u ρ true=t ρ:=rfl
theorem qgY:Qi t u ρ false=u ρ:=rfl
theorem qgZ:kF ρ=.ok (.bl false)[8]:=rfl
theorem qh0:kfB ρ=.ok false:=rfl
theorem qh1:ktB ρ=.ok true:=rfl
theorem Qk:qk i e ρ=sOf ((e ρ).b En.nmo) λw=>.nx (ρ.set i !w):=rfl
theorem Yb:qp e ρ=sOf ((e ρ).b En.nmo) .rt:=rfl
theorem qh2:jy i ρ=Zv ρ[i]?:=rfl
theorem qh3:Zv (!(!d[8]))=.rt d[8]:=rfl
theorem qh4:Zv (!(!d[9]))=.rt d[9]:=rfl
theorem Yc:qq ρ=.nx ρ:=rfl
theorem qh5:yp ρ=.bk ρ:=rfl
theorem qh6:xH e ρ=sOf (e ρ) λ_=>.nx ρ:=rfl
theorem Ql:sIf t a b ρ=sOf (t ρ) (Zu a b ρ):=rfl
theorem qh7:En.nmo d[8]=.ok d[8]:=rfl
theorem qh8:En.nmo d[9]=.ok d[9]:=rfl
theorem qh9:En.sto d[8]=.ok d:=rfl
theorem qha:En.sto d[9]=.ok d:=rfl
theorem Yd:En.argo d[8]=.ok d[8]:=rfl
theorem qa7:En.argo d[9]=.ok d[8]:=rfl
theorem Ye:En.argo (.br d)=.ok (.br d):=rfl
theorem qa8:En.dd d[8]=d:=rfl
theorem qhb:En.dd d[9]=d:=rfl
theorem qhc:En.dd (.br d)=d:=rfl
theorem yy:q9 i ρ=ky ρ[i]?:=rfl
theorem qhd:ky (!(!d[8]))=.ok d[8]:=rfl
theorem qhe:ky (!(!d[9]))=.ok (.br d):=rfl
theorem qhf:ky (!(!(.br d)))=.ok (.br d):=rfl
theorem qhg:ky (!(!(.lk d)))=.ok d[8]:=rfl
theorem x_c:eC d ρ=.ok d[8]:=rfl
theorem Qm:eOp g e f ρ=(e ρ).b λx=>(f ρ).b λy=>g x.dd y.dd:=rfl
theorem qhh:eUn g e ρ=(e ρ).b λx=>g x.dd:=rfl
theorem Qn:evs [] ρ=.ok []:=rfl
theorem Qo:evs (e::l) ρ=(e ρ).b λx=>(evs l ρ).b λxs=>.ok (x::xs):=rfl
theorem qhi:stAll []=.ok []:=rfl
theorem qhj:stAll (w::ws)=w.sto.b λd=>(stAll ws).b λds=>.ok (d::ds):=rfl
theorem Qp:jW []=.ok []:=rfl
theorem Qq:jW (w::ws)=w.argo.b λd=>(jW ws).b λds=>.ok (d::ds):=rfl
theorem qhk:ji l ρ=(evs l ρ).b λxs=>(stAll xs).b kC:=rfl
theorem qhl:jx l ρ=(evs l ρ).b λxs=>(stAll xs).b Qj:=rfl
theorem Qr:qh dn l ρ=(evs l ρ).b λxs=>(jW xs).b λys=>dn ys:=rfl
theorem x_B:eB g l ρ=(evs l ρ).b λxs=>g (xs.map En.dd):=rfl
theorem qhm:tE e ρ=(e ρ).b λx=>kf x.dd:=rfl
theorem qhn:qG t ρ=(t ρ).b λb=>.ok (not b):=rfl
theorem qho:zF t u ρ=(t ρ).b (Qi u kfB ρ):=rfl
theorem qhp:tOr t u ρ=(t ρ).b (Qi ktB u ρ):=rfl
theorem qhq:w6 e f ρ=(e ρ).b λx=>(isB x.dd).b (xU f kF ρ):=rfl
theorem qhr:eIf t e f ρ=(t ρ).b (xU e f ρ):=rfl
theorem qhs:isB (.bl c)=.ok c:=rfl
theorem qht:kf (.bl c)=.ok c:=rfl
theorem qhu:kf (.lst c)=.ok (not c.isEmpty):=rfl
theorem Qt:qI it g a ρ=sOf (it ρ) λxs=>qH g a xs ρ:=rfl
theorem qhv{i j:Int}:zU i[6] j[6]=.ok (i+j)[7]:=rfl
theorem qhw{i j:Int}:jc i[6] j[6]=.ok (i-j)[7]:=rfl
theorem qhx{i j:Int}:dLt i[6] j[6]=.ok (.bl (decide (i<j)))[8]:=rfl
theorem qhy{i j:Int}:dLe i[6] j[6]=.ok (.bl (decide (i<=j)))[8]:=rfl
theorem qhz{i j:Int}:dGt i[6] j[6]=.ok (.bl (decide (j<i)))[8]:=rfl
theorem qhA{i j:Int}:dEq i[6] j[6]=.ok (.bl (i==j))[8]:=rfl
theorem qhB{i j:Int}:dNe i[6] j[6]=.ok (.bl (not (i==j)))[8]:=rfl
theorem qhC{i:Int}:jL i[6]=.ok (-i)[7]:=rfl
def yz{i j:Int}(h:0<j):vq i[6] j[6]=.ok (i%j)[7]:=by delta vq;dsimp only;rw[if_pos h]
def Qu{i j:Int}(h:0<j)(h2:j<1073741824):vR i[6] j[6]=.ok (i/j)[7]:=by delta vR;dsimp only;rw[if_pos #[h,h2]]
def Zw{i j:Int}(h1:-1000000000000<j)(h2:j<1000000000000):jJ i[6] j[6]=.ok (i*j)[7]:=by
 delta jJ;dsimp only;rw[if_pos];rw[Bool.or_eq_true];exact .inr (fits_iff.mpr (by rw[b64e];lia))
def yA{i j:Int}(h1:-1000000000000<i)(h2:i<1000000000000):jJ i[6] j[6]=.ok (i*j)[7]:=by
 delta jJ;dsimp only;rw[if_pos];rw[Bool.or_eq_true];exact .inl (fits_iff.mpr (by rw[b64e];lia))
theorem qhD:yn [.lst xs]=.ok (.lst xs)[9]:=rfl
theorem qhE:yo [.lst xs]=.ok (.tup xs)[8]:=rfl
theorem qhF{i j:Int}:xG [.int i,.int j]=.ok (if j<i then j else i)[7]:=rfl
theorem qhG{i j:Int}:xS [.int i,.int j]=.ok (if j>i then j else i)[7]:=rfl
theorem qhH{i:Int}:qc (.lst xs) i[6]=okD (ati xs i):=rfl
theorem qhI{i:Int}:qc (.tup xs) i[6]=okD (ati xs i):=rfl
def Yf:okD (ati (d::r) 0)=.ok d[8]:=by
 rw[show 0=((0:Nat):Int)from rfl,zm];rfl
def Yg{c d:D}{r:List D}:okD (ati (c::d::r) 1)=.ok d[8]:=by
 rw[show 1=((1:Nat):Int)from rfl,zm];rfl
def Yh{b c d:D}{r:List D}:okD (ati (b::c::d::r) 2)=.ok d[8]:=by
 rw[show 2=((2:Nat):Int)from rfl,zm];rfl
def Yi{a b c d:D}{r:List D}:okD (ati (a::b::c::d::r) 3)=.ok d[8]:=by
 rw[show 3=((3:Nat):Int)from rfl,zm];rfl
theorem qhJ:okD ↑d=.ok d[8]:=rfl
theorem qhK:dIs .list (.lst n)=.ok (.bl true)[8]:=rfl
theorem qhL:dIs .tuple (.tup n)=.ok (.bl true)[8]:=rfl
theorem qhM:zu ρ=.stuck:=rfl
theorem kD:gV i d ρ=.ok (ρ.set i (!d[8])):=rfl
theorem qhN:eDK ρ=.ok (.dK [])[9]:=rfl
theorem qhO:eDT ρ=.ok (.dT [])[9]:=rfl
theorem Qv:den n a ws=fin (a (ws.map some++List.replicate (n-ws[1]) none)):=rfl
theorem qhP:fin (.rt w)=.ok w:=rfl
def xW(h:ρ[i]?=!(!(.lst ds)[8])):iV i ρ=.ok ds:=by delta iV;rw[h];rfl
def Yj(h:ρ[i]?=!(!(.br (.lst ds)))):iV i ρ=.ok ds:=by delta iV;rw[h];rfl
def wY{w:En}(h:ρ[i]?=!(!w))(h2:w.d=.lst ds)(z:((match w with|.od _=>true|.lk _=>true|_=>false)=false)["r"]):iVc i ρ=.ok ds:=by
 delta iVc;rw[h];cases w<;>first|(cases z;done)|(cases h2;rfl)
def qa9{j:Int}(h:e ρ=.ok j[7])(c:fits b62 j=true):iR1 e ρ=.ok (zG 0 j.toNat):=by
 delta iR1
 rw[h,R.bind_ok]
 simp_all
def Qw{n:Nat}(h:e ρ=.ok n[7])(z:n<1000000):iR1 e ρ=.ok (zG 0 n):=by
 rw[qa9 h (fits_iff.mpr (by rw[b62e];lia)),tY]
def zy{i:Nat}(h:ρ[i]?=!(!(.lst xs)[9]))(z:xs[1]<sz)(h2:(e ρ).b En.sto=.ok d):qY i e ρ=.nx (ρ.set i (!(.lst (xs++[d]))[9])):=by
 delta qY;have h2:(e ρ).bind En.st=.ok d:=h2
 rw[h];rw[h2];delta sOf;dsimp only;rw[if_pos z]
def Yk{kvs:List (Sum Int Str×D)}{i:Nat}{k:EF}{w:En}(h:ρ[i]?=!(!(.dK kvs)[9]))(h2:(e ρ).b En.sto=.ok d)(z:k ρ=.ok w)(B:zq w.d=!key)(O:kvs[1]<sz) :
  w9 i k e ρ=.nx (ρ.set i (!(.dK (jm key d kvs))[9])):=by
 have h2:(e ρ).bind En.st=.ok d:=h2
 delta w9
 rw[h];rw[h2];delta sOf;rw[z];dsimp only;rw[B];dsimp only;rw[if_pos O]
def Qx(o:Option D)(w:En):R En:=match o with|some d=>.ok d[8]|none=>.ok w
def qaa{dd k x:EF}{wd wk wx:En}(h1:dd ρ=.ok wd)(h2:wd.d=.dK kvs)(z:k ρ=.ok wk)(B:zq wk.d=!q)(O:x ρ=.ok wx) :
  xR dd k x ρ=Qx (look q kvs) wx:=by
 delta xR
 rw[h1,R.bind_ok];cases wd<;>first|(subst h2;dsimp only;rw[z,O,R.bind_ok,B];rfl)|(cases h2;done)
theorem Zx:∀ n d,qK n d=true->deq d d=true
 | _,.non,_=>rfl
 | _,.bl _,_=>by simp[deq]
 | _,.int _,_=>by simp[deq]
 | _,.str _,_=>by simp[deq]
 | 0,.tup _,h=>by simp[qK]at h
 | 0,.lst _,h=>by simp[qK]at h
 | n+1,.tup xs,h=>by
  have k:∀ ys,ys.all (qK n)=true->deqs ys ys=true:=by
   intro ys
   induction ys with
   | nil=>intro _;rfl
   | cons y ys ih =>
    intro hy;rw[pH,hX]at hy;show(deq y y&&deqs ys ys)=true;rw[Zx n y hy.1,ih hy.2];rfl
  exact k xs h
 | n+1,.lst xs,h=>by
  have k:∀ ys,ys.all (qK n)=true->deqs ys ys=true:=by
   intro ys
   induction ys with
   | nil=>intro _;rfl
   | cons y ys ih =>
    intro hy;rw[pH,hX]at hy;show(deq y y&&deqs ys ys)=true;rw[Zx n y hy.1,ih hy.2];rfl
  exact k xs h
 | n,.dK _,h=>by cases n<;>simp[qK]at h
 | n,.dT _,h=>by cases n<;>simp[qK]at h
 | n,.xc _ _,h=>by cases n<;>simp[qK]at h
def Yl(h:eqok d=true):dNe d d=.ok (.bl false)[8]:=by
 unfold dNe;rw[h,Zx 8 d h];rfl
def qab(h:∀ x∈xs,qK 7 x=true):eqok (.lst xs)=true:=by
 exact tV.mpr h
end
section
variable{prog:ag}{w:World}{A:aj}{E:aa->ab->Prop}{s:ab}{kd:SortKind}{rk:aa->Int}{ini:Array am}
def av(rk:aa->Int)(xs:Array am)(i:Nat):Int:=match xs[i]? with
 | some p=>rk p.1
 | none=>0
def Ym{a d:Nat}(h1:a<xs.size)(h2:d<=a)(k) :
  av rk (bubble xs a d) k=if k=a-d then av rk xs a else if a-d<k/\k<=a then av rk xs (k-1)else av rk xs k:=by
 have e:=getElem?_bubble h1 d h2 k;by_cases c1:k=a-d
 .rw[if_pos c1]at e ⊢
  delta av;rw[e]
 rw[if_neg c1]at e ⊢;by_cases c2:a-d<k/\k<=a
 .rw[if_pos c2]at e ⊢
  delta av;rw[e]
 rw[if_neg c2]at e ⊢
 delta av;rw[e]
def Yn{i j:Nat}(h:j<=xs.size)(k):av rk (mirror xs i j ((j-i)/2)) k=if i<=k/\k<j then av rk xs (i+j-1-k)else av rk xs k:=by
 have e:=getElem?_mirror_all (i:=i) h k;by_cases c:i<=k/\k<j
 .rw[if_pos c]at e ⊢
  delta av;rw[e]
 rw[if_neg c]at e ⊢
 delta av;rw[e]
structure Tells(prog:Program)(w:World)(A:Around)(s:Shared)(kd:SortKind)(rk:Value->Int)(ini:Array Keyed):Prop where
 lt:∀ p∈ini[2],∀ q∈ini[2],∀(E:Value->Shared->Prop) (Q:Bool->Shared->Prop),Q (decide (rk p.1<rk q.1)) s->wpAny (model prog w) A (keyLt' kd p.1 q.1) Q E s
 nd:(ini[2].map λp=>rk p.1).Nodup
end
def Yo:∀ a:List Int,HT.lexLt a a=false:=λr=>r.rec
 (rfl)
 λx r IH=>by rw[HT.lexLt_cons,if_pos rfl];exact IH
theorem xX:∀{a b c},HT.lexLt a b=true->HT.lexLt b c=true->HT.lexLt a c=true
 | [],[],_,h,_=>by simp[HT.lexLt_nil_nil]at h
 | [],_::_,[],_,h=>by simp[HT.lexLt_cons_nil]at h
 | [],_::_,_::_,_,_=>rfl
 | _::_,[],_,h,_=>by simp[HT.lexLt_cons_nil]at h
 | _::_,_::_,[],_,h=>by simp[HT.lexLt_cons_nil]at h
 | x::a,y::b,z::c,h,k=>by
  rw[HT.lexLt_cons]at h k ⊢;by_cases e1:x=y
  .subst e1;rw[if_pos rfl]at h;by_cases e2:x=z
   .subst e2;rw[if_pos rfl]at k ⊢;exact xX h k
   rw[if_neg e2]at k ⊢;exact k
  rw[if_neg e1]at h
  grind
theorem xY:∀{a b},HT.lexLt a b=false->HT.lexLt b a=false->a=b
 | [],[],_,_=>rfl
 | [],_::_,h,_=>by simp[HT.lexLt_nil_cons]at h
 | _::_,[],_,h=>by simp[HT.lexLt_nil_cons]at h
 | x::a,y::b,h,k=>by
  rw[HT.lexLt_cons]at h k;by_cases e:x=y
  .subst e;rw[if_pos rfl]at h k;rw[xY h k]
  rw[if_neg e]at h;rw[if_neg (tm e)]at k;simp at h k;lia
def wa(a b:List Int):Bool:=not (HT.lexLt b a)
def qac(a b c)(h:wa a b=true)(k:wa b c=true):wa a c=true:=by
 delta wa at *
 cases e:HT.lexLt c a with
 | false=>rfl
 | true =>
  simp at h k;cases e2:HT.lexLt a b with
  | true=>rw[xX e e2]at k;cases k
  | false=>rw[xY e2 h,k]at e;cases e
def qad(a b):(wa a b||wa b a)=true:=by
 delta wa
 cases e:HT.lexLt b a with
 | false=>rfl
 | true =>
  cases e2:HT.lexLt a b with
  | false=>rfl
  | true=>have:=xX e e2;rw[Yo]at this;cases this
def jq(rs:List (List Int)):List (List Int):=rs.mergeSort wa
def wZ(rs):(jq rs).Perm rs:=List.mergeSort_perm rs wa
def Qy(rs):(jq rs).Pairwise λa b=>HT.lexLt b a=false:=by
 exact(List.pairwise_mergeSort qac qad rs).imp λ{a b} q=>by simpa[wa]using q
theorem Zy:∀{xs ys:List (List Int)},xs.Perm ys->xs.Pairwise (λa b=>HT.lexLt b a=false)->ys.Pairwise (λa b=>HT.lexLt b a=false)->xs=ys
 | [],ys,p,_,_=>by rw[List.nil_perm.mp p]
 | x::xs,[],p,_,_=>by have:=p.length_eq;simp at this
 | x::xs,y::ys,p,hx,hy=>by
  rw[fC]at hx hy;have e:x=y:=by
   rcases gG.mp (p.mem_iff.mp t4)with q|q
   .exact q
   rcases gG.mp (p.mem_iff.mpr t4)with q2|q2
   .exact q2.symm
   exact xY (hy.1 x q) (hx.1 y q2)
  subst e;rw[Zy (List.Perm.cons_inv p) hx.2 hy.2]
def vy(rs:List (List Int))(r:List Int):Int:=(rs.countP λq=>HT.lexLt q r:Nat)
def Qz(z:a∈rs):(vy rs a<vy rs b)↔HT.lexLt a b=true:=by
 delta vy
 constructor
 .intro h;cases e:HT.lexLt a b with
  | true=>rfl
  | false =>
   have:(rs.countP λq=>HT.lexLt q b)<=rs.countP λq=>HT.lexLt q a:=List.countP_mono_left λq _ hq=>by
    cases e2:HT.lexLt b a with
    | true=>exact xX hq e2
    | false=>rw[xY e e2];exact hq
   lia
 intro h;have:(rs.countP λq=>HT.lexLt q a)<rs.countP λq=>HT.lexLt q b:=by
  obtain⟨l,r,rfl⟩:=List.append_of_mem z;have m:∀ l:List (List Int),(l.countP λq=>HT.lexLt q a)<=l.countP λq=>HT.lexLt q b:=λl=>List.countP_mono_left λq _ hq=>xX hq h
  have m1:=m l;have m2:=m r;rw[cg,cg,List.countP_cons_of_neg (by simp[Yo]),List.countP_cons_of_pos (p:=λq=>HT.lexLt q b) h]
  lia
 lia
section
variable{prog:ag}{w:World}{A:aj}{E:aa->ab->Prop}{s:ab}
def qae(f){a b:Int}{Q:Bool->ab->Prop}(h:Q (decide (a<b)) s):wpAny (model prog w) A (oneLt' f (.int a t) (.int b u)) Q E s:=by
 cases f with
 | true=>exact oneLt_int h
 | false =>
  exact gg (wpAny_richCompare_same (bz s a t) (bz s b u) slot_int_lt (call_int_lt #[(λz=>nomatch z),pN h]))
theorem Yp(f){Q:Option Bool×Unit->ab->Prop}:∀{xs ys} {ns ms} k,IntsAre xs ns->IntsAre ys ms ->
  (∀ r:Option Bool×Unit,(match r.1 with|some b=>b=HT.lexLt ns ms|none=>HT.lexLt ns ms=decide (xs[1]<ys[1]))->Q r s) ->
  wpAny (model prog w) A (forIn ((xs.zip ys).zipIdx k) (none,()) λx _=>match x with
   | ((p,q),i)=>do
    let e <- eqBool p q
    if (not e)=true then do
     let l <- oneLt' (f&&i==0) p q
     pure (ForInStep.done (!l,()))
    else pure (ForInStep.yield (none,()))) Q E s
 | _,_,_,_,k,.nil,.nil,h=>gC (h (none,()) (by rfl))
 | _,_,_,_,k,.nil,.cons _ _ _,h=>gC (h (none,()) (by simp[HT.lexLt_nil_cons]))
 | _,_,_,_,k,.cons _ _ _,.nil,h=>gC (h (none,()) (by simp[HT.lexLt_cons_nil]))
 | _,_,_,_,k,.cons a t hx,.cons b u hy,h=>by
  rw[bK,bq,bE];refine gg (gg (wpAny_eqBool_int ?_));by_cases c:a=b
  .subst c;rw[pW];refine gC (Yp f (k+1) hx hy λr hr=>h r ?_)
   obtain⟨r1,_⟩:=r;cases r1 with
   | none=>dsimp only at hr ⊢;rw[HT.lexLt_cons,hr];simp
   | some v=>dsimp only at hr ⊢;rw[HT.lexLt_cons,if_pos rfl];exact hr
  have:(a==b)=false:=by simpa using c
  rw[this];refine gg (qae _ (gC (gC (h (!(decide (a<b)),()) ?_))));rw[HT.lexLt_cons,if_neg c]
def qaf{z ms:List Int}{Q:Bool->ab->Prop}(B:IsTup s.heap a xs.toArray)(O:IsTup s.heap b ys.toArray)(U:IntsAre xs z)(Y:IntsAre ys ms)(h:Q (HT.lexLt z ms) s) :
  wpAny (model prog w) A (keyLt' (tuples' true) (.ref a) (.ref b)) Q E s:=by
 obtain⟨oa,ea,ca,na,da⟩:=B;obtain⟨ob,eb,cb,nb,db⟩:=O;refine gg (listItems_at ea da ?_);refine gg (listItems_at eb db ?_);refine gg (Yp true 0 U Y λr hr=>?_)
 obtain⟨r1,_⟩:=r;cases r1 with
 | some v=>dsimp only at hr ⊢;subst hr;exact gC h
 | none=>dsimp only at hr ⊢;rw[hr]at h;simpa using gC h
def qU(h:Heap):aa->List Int
 | .ref a=>(match h.get? a with
  | some o=>(match o.data with|.seq its _=>numsOf its[2]|_=>[])
  | none=>[])
 | _=>[]
def Rows(h:Heap)(vs:List aa):Prop:=∀ v∈vs,∃ a its ns,v=.ref a/\IsTup h a (its:List aa).toArray/\IntsAre its (ns:List Int)/\ns≠[]
def wG(p:IsTup h a its.toArray)(q:IntsAre its ns):qU h (.ref a)=ns:=by
 obtain⟨o,e,c,n,d⟩:=p
 delta qU
 dsimp only;rw[e];dsimp only;rw[d];exact q.numsOf
def Rows.stay{h h':Heap}(R:Rows h vs)(k:∀ b o,h.get? b=!o->h'.get? b=!o):Rows h' vs/\∀ v∈vs,qU h' v=qU h v:=by
 have go:∀ v∈vs,∃ a its ns,v=.ref a/\IsTup h a its.toArray/\IsTup h' a its.toArray/\IntsAre its ns/\ns≠[]:=λv hv=>by
  obtain⟨a,its,ns,e,p,q,n⟩:=R v hv;obtain⟨o,e2,c⟩:=p;exact#[a,its,ns,e,#[o,e2,c],#[o,k _ _ e2,c],q,n]
 refine#[λv hv=>?_,λv hv=>?_]
 .obtain⟨a,its,ns,e,_,p,q,n⟩:=go v hv;exact#[a,its,ns,e,p,q,n]
 obtain⟨a,its,ns,rfl,p,p',q,n⟩:=go v hv;rw[wG p q,wG p' q]
theorem Yq:∀{vs} {Q},Rows s.heap vs->(∀ fs:List aa,fs[1]=vs[1]->(∀ f∈fs,∃ n t,f=.int n t)->Q (fs.map some) s)->wpAny (model prog w) A (vs.mapM firstOfTuple') Q E s
 | [],Q,_,h=>by rw[List.mapM_nil];exact gC (h [] rfl λf hf=>by simp at hf)
 | v::vs,Q,R,h=>by
  obtain⟨a,its,ns,rfl,p,q,n⟩:=R v t4;obtain⟨o,e,c,m,d⟩:=p;rw[List.mapM_cons];have first:∃ x t r,its=.int x t::r:=by
   cases q with
   | nil=>exact absurd rfl n
   | cons x t r=>exact#[x,t,_,rfl]
  obtain⟨x,t,r,rfl⟩:=first
  refine gg (gg (wpAny_typeOf #[o,e,c] ?_));refine gg (listItems_at e d (gC ?_));refine gg (Yq (λv hv=>R v (gu _ hv)) λfs hl hf=>gC ?_)
  have:=h (.int x t::fs) (by simp[hl]) λf z=>by
   grind
  simpa using this
def qag:∀{fs:List aa},(∀ f∈fs,∃ n t,f=.int n t)->fs.mapM typeOf=pure (fs.map λ_=>Value.type "int"):=λ{fs}=>fs.rec
 (@λ_=>by simp)
 λf fs IH=>@λh=>by
  obtain⟨n,t,rfl⟩:=h f t4;rw[List.mapM_cons,IH λf hf=>h f (gu _ hf)]
  rfl
def qah(R:Rows s.heap vs)(z:vs≠[])(h:Q (tuples' true) s):wpAny (model prog w) A (keyKind' vs.toArray) Q E s:=by
 rw[keyKind'_eq,List.mapM_toArray,map_eq_pure_bind,bind_assoc];refine gg (Yq R λfs hl hf=>?_)
 simp only[pure_bind];rw[if_pos "s"]
 refine gg (pX ?_);have e:(fs.map some).toArray.filterMap id=fs.toArray:=by simp
 rw[e,oneTypeOnly'_eq,List.mapM_toArray,qag hf];simp only[map_pure,pure_bind];cases fs with
 | nil=>simp at hl;exact absurd (fm.mp hl.symm) z
 | cons f fs =>
  have h0:(List.map (λ_=>Value.type "int") (f::fs)).toArray[0]?=!(Value.type "int"):=by simp
  have ha:((List.map (λ_=>Value.type "int") (f::fs)).toArray.all λx=>x==Value.type "int")=true:=by
   simp only[List.all_toArray,List.all_map,tV];intro _ _;rfl
  rw[h0];simp only[ha,dz,pure_bind];exact gC h
end
def qN(r:List Int):D:=.tup (r.map .int)
def vJ:List D->Option (List (List Int))
 | []=>↑[]
 | .tup xs::r=>(match jO xs,vJ r with|some a,!b=>↑(a::b)|_,_=>none)
 | _::_=>none
def toV:aa->V
 | .ref a=>.ref a
 | _=>.non
theorem Zz{s:ab}(I:"I" H s)(l:Le F H):∀{ds} {rs} {vs} {us},vJ ds=!rs->Reps (kx X) F vs ds->Vals vs us ->
  us.map (qU s.heap)=rs/\∀ u∈us,∃ a its ns,u=.ref a/\IsTup s.heap a its.toArray/\IntsAre its ns/\Rep (kx X) F (.ref a) (qN ns)/\ns∈rs
 | [],rs,vs,us,h,r,q=>by
  cases h;cases (r);cases q;exact#[rfl,λu hu=>by simp at hu]
 | d::ds,rs,vs,us,h,r,q=>by
  obtain⟨v,vr,rfl,r1,r2⟩:=r;cases d<;>first|(cases h;done)|skip
  rename_i xs;unfold vJ at h;cases e1:jO xs with
  | none=>rw[e1]at h;cases h
  | some ns =>
   cases e2:vJ ds with
   | none=>rw[e1,e2]at h;cases h
   | some rs' =>
    rw[e1,e2]at h;cases h;cases q with
    | cons q1 q2 =>
     obtain⟨m,k⟩:=Zz I l e2 r2 q2;obtain⟨a,ws,rfl,hq,B⟩:=id r1;cases (q1);have ev:=wX e1 B;subst ev;obtain⟨its,rv,ht,_⟩:=I.tuple (SqT.le l hq);have hi:=yk rv;have z:Rep (kx X) F (.ref a) (qN ns):=by
      exact#[a,_,rfl,hq,(WU ns)]
     refine#[by rw[gW,m,wG ht hi],λu hu=>?_]
     rcases gG.mp hu with rfl|hu
     .exact#[a,its,ns,rfl,ht,hi,z,t4]
     obtain⟨a',its',O,e,p1,p2,p3,p4⟩:=k u hu;exact#[a',its',O,e,p1,p2,p3,gu _ p4]
section
variable{X:Cx}{F0 H0:Hp}
end
def vK{α:Type}(xs:List α)(lo hi:Option Int):List α:=(xs.drop (HT.sIx xs[1] 0 lo)).take (HT.sIx xs[1] xs[1] hi-HT.sIx xs[1] 0 lo)
def dSl:D->Option Int->Option Int->R En
 | .lst xs,lo,hi=>.ok (.lst (vK xs lo hi))[9]
 | .tup xs,lo,hi=>if HT.sIx xs[1] 0 lo=0/\HT.sIx xs[1] xs[1] hi=xs[1] then .stuck else .ok (.tup (vK xs lo hi))[8]
 | _,_,_=>.stuck
abbrev OF:=Rho->R (Option Int)
def oNo:OF:=λ_=>.ok none
def isI:D->R (Option Int)
 | .int i=>.ok !i
 | _=>.stuck
def oE(e:EF):OF:=λρ=>(e ρ).bind λw=>isI w.d
def eSl(a:EF)(lo hi:OF):EF:=λρ=>(a ρ).bind λx=>(lo ρ).bind λl=>(hi ρ).bind λu=>dSl x.d l u
theorem Reps.take:∀ n {ds} {vs},Reps κ F vs ds->Reps κ F (vs.take n) (ds.take n)
 | 0,_,_,_=>rfl
 | n+1,[],_,h=>by cases (h);rfl
 | n+1,d::ds,_,h=>by
  obtain⟨v,r,rfl,h1,h2⟩:=h;exact#[v,r.take n,rfl,h1,Reps.take n h2]
theorem Reps.drop:∀ n {ds} {vs},Reps κ F vs ds->Reps κ F (vs.drop n) (ds.drop n)
 | 0,_,_,h=>h
 | n+1,[],_,h=>by cases (h);rfl
 | n+1,d::ds,_,h=>by
  obtain⟨v,r,rfl,h1,h2⟩:=h;exact Reps.drop n h2
def Reps.cut(h:Reps κ F vs ds)(lo hi):Reps κ F (wC vs lo hi) (vK ds lo hi):=by
 delta wC
 rw[Reps.length h];exact Reps.take _ (Reps.drop _ h)
section
variable{X:Cx}{F0 H0:Hp}{pos p2:Pos}
def SO(X:Cx)(F0 H0:Hp)(e:Option Expr)(f:OF):Prop :=
 ∃ t,PO X e t/\∀(σ:St) (F H:Hp) (ρ:Rho) (Q:Option Int->Hp->Prop),StOk (kx X) F0 H0 F H ρ σ->KE (XP X F0 H0) (f ρ) (λo=>∀ F' H',Gr F H F' H'->Q o H')->t σ H Q
def Yr:SO X F0 H0 none oNo:=#[_,Gp,λσ F H ρ Q S h=>h F H (Gr.refl S.s)]
def kE(z:"S" e f):SO X F0 H0 ↑e (oE f) :=
 #[_,Gq (jd),λσ F H ρ Q S h=>z.sem S ((KE.bind h).imp λw k v F1 H1 g q=>by
  have r:=Vok.rd q
  revert k r
  generalize w.d=d;intro k r;cases d<;>first|exact k.elim|skip
  exact#[_,RdV.int r,k F1 H1 g])]
def QA{lo hi:Option Expr}(B:"S" e f)(O:SO X F0 H0 lo fl)(U:SO X F0 H0 hi fh):"S" (.Subscript e (.Slice lo hi none p2) pos) (eSl f fl fh):=by
 intro pins s σ F H ρ Q S I h;obtain⟨tl,pl,kl⟩:=O;obtain⟨th,ph,kh⟩:=U;refine vE (Gs (SlR.or GO Gv) (jd) pl ph pins s σ H (λv H'=>∀ u s',RelV v u->"I" H' s'->Q u s') I ?_)
 refine B.sem S ((KE.bind h).imp λw h1 v F1 H1 g1 q1=>?_)
 refine kl σ F1 H1 ρ _ (S.grow g1) ((KE.bind h1).imp λo1 h2 F2 H2 g2=>?_)
 refine kh σ F2 H2 ρ _ (S.grow (g1.trans g2)) ((KE.bind h2).imp λo2 h3 F3 H3 g3=>?_)
 have r:=RdV.gr (g2.trans g3) (Vok.rd q1);have z:=yq (g1.trans (g2.trans g3)) h3
 revert z r
 generalize w.d=d;intro r z;cases d<;>first|exact z.elim|skip
 .rename_i ds;obtain⟨a,vs,rfl,hq,_,rs⟩:=RdV.tup g3.s r
  delta dSl at z
  dsimp only at z;by_cases c:HT.sIx ds[1] 0 o1=0/\HT.sIx ds[1] ds[1] o2=ds[1]
  .rw[if_pos c]at z;exact z.elim
  rw[if_neg c]at z;refine .inr #[a,vs,rfl,hq,by rw[Reps.length rs];exact c,λp hp=>?_]
  have gn:=Gr.newF (o:=.tup (wC vs o1 o2)) g3.s hp;exact z (.ref p) _ _ gn #[p,_,rfl,.inl (.inl qP),Reps.le gn.f _ (Reps.cut rs o1 o2)]
 rename_i ds;obtain⟨a,vs,rfl,hq,rs⟩:=RdV.lst g3.s r;refine .inl #[a,vs,rfl,hq,λp hp=>?_]
 exact z (.ref p) _ _ (Gr.new g3.s hp) #[p,_,rfl,hp,Le.none g3.s hp,qP,Reps.cut rs o1 o2]
def kG(i:Nat)(k e:EF):SF:=λρ=>match ρ[i]? with
 | some (!(.lst xs)[9])=>sOf ((e ρ).bind En.st) λd=>sOf ((k ρ).bind λq=>isI q.d) λj=>match ixn xs[1] (j.getD 0)with
  | some n=>.nx (ρ.set i (!(.lst (xs.set n d))[9]))
  | none=>.stuck
 | _=>.stuck
theorem Reps.set(h:Rep κ F v d):∀ n {ds} {vs},Reps κ F vs ds->Reps κ F (vs.set n v) (ds.set n d)
 | _,[],_,h2=>by cases (h2);rfl
 | 0,_::ds,_,h2=>by
  obtain⟨u,r,rfl,h3,h4⟩:=h2;exact#[v,r,rfl,h,h4]
 | n+1,_::ds,_,h2=>by
  obtain⟨u,r,rfl,h3,h4⟩:=h2;exact#[u,r.set n v,rfl,h3,Reps.set h n h4]
def qai(i)(z:"S" k fk)(B:"S" e fe)(O:(Nm X i x)["t"])
  (U:∀ v,assign (.Subscript (.Name x np) k pos') X.env v=(do
   let ov <- holding [v] (eval (.Name x np) X.env);let iv <- holding [v,ov] (eval k X.env);standAt pos';holding [v,ov,iv] (setItem ov iv v);release [v,ov,iv] []):=by intro _;rfl)
  (Y:(swapsWithSole [.Subscript (.Name x np) k pos'] e pos.line X.env=pure false)["r"]) (Z:(swappedStores [.Subscript (.Name x np) k pos'] e X.env=pure none)["r"])
  (h1:((assignEach [.Subscript (.Name x np) k pos'] X.env).map (·.2)=[assign (.Subscript (.Name x np) k pos') X.env])["r"]) :
  SS X F0 H0 (.Assign [.Subscript (.Name x np) k pos'] e pos) (kG i fk fe):=by
 intro pins s σ F H ρ D S I h
 delta kG at h
 cases ew:ρ[i]? with
 | none=>rw[ew]at h;exact h.elim
 | some w =>
  rw[ew]at h;cases w with
  | none=>exact h.elim
  | some w =>
   cases w with
   | fz d=>exact h.elim
   | br d=>exact h.elim
   | lk d=>exact h.elim
   | od d=>exact h.elim
   | ow d =>
    cases d<;>first|exact h.elim|skip
    rename_i ds;have h:=KE.bind (PostS.of h);obtain⟨v,e1,a,o,rfl,h0,hf,hh,ro⟩:=S.val i _ ew;cases o<;>first|exact ro.elim|skip
    rename_i vs;refine Mx (jd) (Mw (pos:=pos') (pvN (pos:=np) O) (jd (e:=k)) GI U) Y Z h1 pins s σ H D I (B.sem S (h.imp λw k1 y F1 H1 g1 q1=>?_))
    cases es:w.st with
    | exc x=>rw[es]at k1;exact k1.elim
    | stuck=>rw[es]at k1;exact k1.elim
    | ok d =>
     rw[es]at k1;have ry:=Vok.st S.s g1 q1 es;obtain⟨g2,_⟩:=vt S.s g1;have S2:=S.grow g2;refine#[_,e1,z.sem S2 ((KE.bind (PostS.of (show PostS X F0 H0 F D _ from k1))).imp λwk k2 y2 F3 H3 g3 q3=>?_)]
     have r:=Vok.rd q3
     revert k2 r
     generalize wk.d=dk;intro k2 r;cases dk<;>first|exact k2.elim|skip
     rename_i j;have k2:PostS X F0 H0 F D (match ixn ds[1] j with|some n=>.nx (ρ.set i (!(.lst (ds.set n d))[9]))|none=>.stuck):=k2
     cases ej:ixn ds[1] j with
     | none=>rw[ej]at k2;exact k2.elim
     | some n =>
      rw[ej]at k2;refine#[a,vs,j,n,rfl,RdV.int r,g3.h _ _ (g1.h _ _ hh),by rw[Reps.length ro];exact ej,?_]
      refine k2 σ _ _ (Le.trans g2.f g3.f) ((S2.grow g3).mut ew e1 (o:=.lst (vs.set n y)) ?_);exact Reps.set (Rep.le g3.f _ ry) n (Reps.le (Le.trans g2.f g3.f) _ ro)
def qA:D->D->R En
 | .int i,.int j=>okI (i+j)
 | .lst xs,.lst ys=>if xs[1]+ys[1]<=sz then .ok (.lst (xs++ys))[9]else .stuck
 | .tup xs,.tup ys=>if xs[1]+ys[1]<=sz/\xs≠[]/\ys≠[]then .ok (.tup (xs++ys))[8]else .stuck
 | _,_=>.stuck
def jg:OpD X (binaryOp .Add) qA:=by
 intro pins s σ F H x y v u dx dy Q I l rx ry qx qy w;cases dx<;>first|exact w.elim|skip
 .cases dy<;>first|exact w.elim|skip
  exact TJ pins s σ F H x y v u _ _ Q I l rx ry qx qy w
 .rename_i xs;cases dy<;>first|exact w.elim|skip
  rename_i ys
  delta qA at w
  dsimp only at w;by_cases c:xs[1]+ys[1]<=sz/\xs≠[]/\ys≠[]
  .rw[if_pos c]at w;obtain⟨a,vs,rfl,hq,_,rs⟩:=RdV.tup l qx;obtain⟨b,us,rfl,U,_,O⟩:=RdV.tup l qy;have n1:vs≠[]:=λz=>by subst z;have:=Reps.length rs;simp at this;exact c.2.1 (fm.mp this.symm)
   have n2:us≠[]:=λz=>by subst z;have:=Reps.length O;simp at this;exact c.2.2 (fm.mp this.symm)
   refine Gx pins s σ H _ _ v u Q I rx ry #[a,b,vs,us,rfl,rfl,hq,U,n1,by rw[Reps.length rs,Reps.length O,<- zO];exact c.1,λz=>absurd z n2,λ_ p hp=>?_]
   have gn:=Gr.newF (o:=.tup (vs++us)) l hp;exact w (.ref p) _ _ gn #[p,_,rfl,.inl (.inl qP),Reps.le gn.f _ (Reps.append rs O)]
  rw[if_neg c]at w;exact w.elim
 rename_i xs;cases dy<;>first|exact w.elim|skip
 rename_i ys
 delta qA at w
 dsimp only at w;by_cases c:xs[1]+ys[1]<=sz
 .rw[if_pos c]at w;obtain⟨a,vs,rfl,hq,rs⟩:=RdV.lst l qx;obtain⟨b,us,rfl,U,O⟩:=RdV.lst l qy;cases (show v=Value.ref a from rx)
  cases (show u=Value.ref b from ry)
  obtain⟨its,rv,pl,hz⟩:=I.list hq;obtain⟨B,Y,pl2,hz2⟩:=I.list U;obtain⟨⟨cls,dd,data,sl⟩,ho,hc,n,hd⟩:=pl.isList;obtain⟨⟨h4,dd2,h3,sl2⟩,Z,hc2,n2,hd2⟩:=pl2.isList;subst hc hd hc2 hd2;have hl:its[1]+B[1]<=sizeLine:=by rw[<- rv[1],<- Y[1],Reps.length rs,Reps.length O,<- zO];exact c
  refine concat_meets #[_,ho,rfl] #[_,Z,rfl] noFill_list_add seq_list_add PySem.F.slot_list_add PySem.F.entry_list_add (PySem.F.args_list_add_2 _ _) (list_addW a b its.toArray B.toArray n n2 dd dd2 sl sl2 hl[""]) #[ho,Z,?_]
  have ea:its.toArray++B.toArray=(its++B).toArray:=by simp
  rw[ea];have hp:H s[0]=none:=I.hok.fresh (gE _);refine#[.ref s[0],upd H s[0] (.lst (vs++us)),I.laid (t':=s.toks) (λb o q=>gy _ q) (gE _) #[?_,its++B,0,rv.append Y,gN _ rfl],rfl,?_]
  .rw[gH,rv[1],Y[1]];exact hl
  exact w _ _ _ (Gr.new l hp) #[_,_,rfl,hp,Le.none l hp,qP,Reps.append rs O]
 rw[if_neg c]at w;exact w.elim
def QB:D->D->R En
 | x,.lst xs=>if eqok x&&xs.all (qK 8)then okB (not (din x xs))else .stuck
 | x,.tup xs=>if eqok x&&xs.all (qK 8)then okB (not (din x xs))else .stuck
 | _,_=>.stuck
def qaj(h:xs.all (qK n)=true):PyData.canLayAll0 (zc xs)=true/\PyData.depthAll (zc xs)<=n:=by
 obtain⟨a,b⟩:=wS (n+1) (.lst xs) h;exact#[a,Nat.le_of_succ_le_succ b]
def qak(z:X.A.units+10<cLine):OpD X (compareOp .NotIn) QB:=by
 intro pins s σ F H x y v u dx dy Q I l rx ry qx qy w;cases dy<;>first|exact w.elim|skip
 all_goals
  rename_i xs
  delta QB at w
  dsimp only at w;by_cases c:(eqok dx&&xs.all (qK 8))=true
  .rw[if_pos c]at w;rw[hX]at c;obtain⟨as,ha⟩:=km I l c.1 qx rx;obtain⟨bs,hb⟩:=km (n:=9) I l (by exact c.2) qy ry
   obtain⟨l1,l2⟩:=qaj c.2;obtain⟨k1,k2⟩:=wS 8 dx c.1
   first
    | refine SeqAt.notIn_list_reads hb ha l1 k1 "" ?_
    | refine SeqAt.notIn_tuple_reads hb ha l1 k1 "" ?_
   rw[Tq dx 8 8 c.1 xs c.2];exact#[.bl _,H,I,rfl,jo l w rfl]
  rw[if_neg c]at w;exact w.elim
variable{prog:ag}{w:World}{A:aj}{E:aa->ab->Prop}{s:ab}
def qal(d)(hd:(d==sysModules)=false) :
  MeetsIn prog w (Builtin.«dict.__len__» #[[.ref d],[]]) (λ_ R s=>∃ o es ep,s.heap.get? d=!o/\o.data=.dict es ep/\R (.ok (.ret (.int es.size s.toks))) {s with toks:=s.toks+1}) :=
 .of_wp λA R s #[o,es,ep,ho,hdat,h]=>by
  refine gg (m:=dictSize d) (gg (dX ho hdat (gC ?_)));refine gg (wpAny_pendingCount_other hd (wpAny_ret_mkInt ?_))
  simp_all
def Ys(hd:(d==sysModules)=false)(B:s.heap.get? d=!o)(O:o.ExactDict)(z:o.data=.dict es ep)(hz:es.size<=sizeLine)
  (h:Q (.int es.size (s.toks+1)) {s with toks:=s.toks+1+1}):wpAny (model prog w) A (call (.builtin "len") [.ref d]) Q E s:=by
 rw[pE]at hz;have ty:s.TypeIs (.ref d) "dict":=#[o,B,O.1];refine Calls.call_function_entry kind_len plain_len entry_len (args_len1 _) ?_;refine gg (m:=callSpecial? (.ref d) (Str.ofString "__len__")) (fJ ty PySem.F.slot_dict_len
  (bg PySem.F.slot_dict_len ty PySem.F.entry_dict_len (PySem.F.args_dict_len_1 _) (qal d hd) #[o,es,ep,B,z,?_]))
 have c2:¬ ((es.size):Int)≥2 ^ 63:=""
 show wpAny _ _ (if ((es.size):Int)≥2 ^ 63 then _ else _) _ _ _
 rw[if_neg c2];exact gg (wpAny_mkInt (gC #[_,rfl,h]))
end
def qJ:List D->R En
 | [.lst xs]=>okI xs[1]
 | [.tup xs]=>okI xs[1]
 | [.dK kvs]=>if kvs[1]<=sz then okI kvs[1] else .stuck
 | [.dT kvs]=>okI kvs[1]
 | _=>.stuck
theorem RepT.length:∀{kds} {kvs},RepT κ F kvs kds->kvs[1]=kds[1]
 | [],_,h=>by cases (h);rfl
 | (q,d)::r,_,h=>by
  obtain⟨v,kr,rfl,h1,h2⟩:=h;simp[RepT.length h2]
theorem RdV.dT{F H:Hp}{v:V}{ds:List (List (Sum Int Str)×D)}(s:Le F H)(h:RdV κ F H v (.dT ds)):∃ a kvs,v=.ref a/\Rd H a (.dT kvs)/\RepT κ F kvs ds:=by
 rcases h with⟨a,vs,e,q,r⟩|⟨a,o,e,e2,r⟩
 .exact#[a,vs,e,Rd.le s q,r]
 cases o with
 | dT vs=>exact#[a,vs,e,.inl e2,r]
 | _=>exact r.elim
section
variable{X:Cx}{F0 H0:Hp}
def jA:zM X (.builtin "len") qJ:=by
 intro pins s σ F H xs us ds Q I l rx qx w;cases qx with
 | nil=>exact w.elim
 | @cons x d xs ds q1 q2 =>
  cases q2 with
  | cons _ _=>cases d<;>exact w.elim
  | nil =>
   cases d<;>first|exact w.elim|skip
   .exact WM pins s σ F H _ _ [.tup _] Q I l rx (.cons q1 .nil) w
   .exact WM pins s σ F H _ _ [.lst _] Q I l rx (.cons q1 .nil) w
   .rename_i kds;obtain⟨p,kvs,rfl,hq,rk⟩:=RdV.dK l q1;cases rx with
    | cons r1 r2 =>
     cases r2;cases r1;obtain⟨hd,vs,B,o,es,ep,ho,hx,z,hk,hp,hn⟩:=Inv.dictK I hq;have e1:es.size=kds[1]:=by
      have a1:es[2].length=vs[1]:=hp[1];have a2:=B[1];have a3:=RepK.length rk
      simp_all
     delta qJ at w
     dsimp only at w;by_cases c:kds[1]<=sz
     .rw[if_pos c]at w;refine Ys hd ho hx z (by rw[e1];exact c) ?_
      rw[e1];exact#[.int _,H,I.tok _,#[_,rfl],jo (X:=X) l (v:=.int _) w rfl]
     rw[if_neg c]at w;exact w.elim
   rename_i kds;obtain⟨p,kvs,rfl,hq,rk⟩:=RdV.dT l q1;cases rx with
   | cons r1 r2 =>
    cases r2;cases r1;obtain⟨hz,hd,zs,B,o,es,ep,ho,hx,z,h4,h5⟩:=hq.ok I.hok;have e1:es.size=kvs[1]:=by
     have a1:es[2].length=zs[1]:=by rw[h4,gj]
     have a2:=B[1]
     grind
    refine Ys hd ho hx z "" ?_
    rw[e1,RepT.length rk];exact#[.int _,H,I.tok _,#[_,rfl],jo (X:=X) l (v:=.int _) w rfl]
theorem Yt:∀{kds} {kvs},RepT κ F kvs kds->kvs.map (·.1)=kds.map (·.1)
 | [],_,h=>by cases (h);rfl
 | (k,d)::r,_,h=>by
  obtain⟨v,kr,rfl,h1,h2⟩:=h;simp[Yt h2]
theorem Yu:∀{kds es} {kvs us},RepT κ F kvs kds->RepT κ F us es->RepT κ F (kvs++us) (kds++es)
 | [],_,_,_,h,k=>by cases (h);exact k
 | (q,d)::r,_,_,_,h,k=>by
  obtain⟨v,kr,rfl,h1,h2⟩:=h;exact#[v,kr++_,rfl,h1,Yu h2 k]
theorem Yv(z:Rep κ F v d):∀{kds} {kvs},RepT κ F kvs kds ->
  RepT κ F (kvs.map λkv=>if kv.1=k then(kv.1,v)else kv) (kds.map λkv=>if kv.1=k then(kv.1,d)else kv)
 | [],_,h=>by cases (h);rfl
 | (q,e)::r,_,h=>by
  obtain⟨u,kr,rfl,h1,h2⟩:=h;have hr:=Yv (k:=k) z h2;by_cases c:q=k
  .simp[gW,if_pos c];exact#[v,_,rfl,z,hr]
  simp[gW,if_neg c];exact#[u,_,rfl,h1,hr]
def Yw(z:Rep κ F v d)(h:RepT κ F kvs kds):RepT κ F (jN kvs k v) (jm k d kds):=by
 have a:∀{α} (l:List (List Key×α)),(l.any λkv=>decide (kv.1=k))=(l.map (·.1)).any λq=>decide (q=k):=λl=>by rw[List.any_map];rfl
 delta jN jm
 rw[a,a,(Yt h)];by_cases c:((kds.map (·.1)).any λq=>decide (q=k))=true
 .rw[if_pos c,if_pos c];exact Yv z h
 rw[if_neg c,if_neg c];exact Yu h #[v,[],rfl,z,rfl]
theorem xZ:∀{ws} {vs} {q:List Key},Voks κ H F' H' vs ws->jQ (ws.map En.d)=!q->vs=q.map kV
 | [],vs,q,h,e=>by cases e;exact h
 | w::ws,vs,q,h,e=>by
  obtain⟨v,r,rfl,h1,h2⟩:=h;rw[gW]at e;unfold jQ at e;cases e1:zq w.d with
  | none=>rw[e1]at e;cases e
  | some k =>
   cases e2:jQ (ws.map En.d)with
   | none=>rw[e1,e2]at e;cases e
   | some ks =>
    rw[e1,e2]at e;cases e;have r1:=Vok.rd h1;have ev:v=kV k:=by
     cases ed:w.d with
     | int j=>rw[ed]at e1 r1;cases e1;exact RdV.int r1
     | str j=>rw[ed]at e1 r1;cases e1;exact RdV.str r1
     | _=>rw[ed]at e1;cases e1
    rw[ev,xZ h2 e2];rfl
def QC{k:Nat}(B:SA X F0 H0 es fs){Q:VK}(S:StOk (kx X) F0 H0 F H ρ σ)
  (h:KE (XP X F0 H0) (evs fs ρ) λws=>∀ vs F' H' p,Gr F H F' H'->Voks (kx X) H F' H' vs ws->H' p=none->vs[1]<=sizeLine/\Q (.ref p) (upd H' p (.tup vs))):kg X (.Tuple es k tp) σ H Q:=by
 refine λpins s I=>du (B tp pins s σ F H ρ _ S I (h.imp λws k1 vs us F1 H1 s1 g1 q1 r1 I1=>?_))
 obtain⟨z,q⟩:=k1 vs F1 H1 s1[0] g1 q1 (I1.hok.fresh (gE _));exact#[by rw[<- r1[1]];exact z,(#[.ref s1[0],upd H1 s1[0] (.tup vs),I1.laid (λb u e=>gy _ e) (gE _) (#[z,us,r1,#[_,gN _ rfl,rfl,_,rfl]]),rfl,q])]
def kH(i:Nat)(k:List EF)(e:EF):SF:=λρ=>match ρ[i]? with
 | some (!(.dT kvs)[9])=>sOf ((e ρ).bind En.st) λd=>sOf (evs k ρ) λws=>match jQ (ws.map En.d)with
  | some key=>if kvs[1]<sz/\key[1]<=sz then .nx (ρ.set i (!(.dT (jm key d kvs))[9]))else .stuck
  | none=>.stuck
 | _=>.stuck
def qam(i){np tp pos pos':Pos}{n:Nat}(Y:X.A.units+10<cLine)(z:SA X F0 H0 ks fk)(B:"S" e fe)(O:(Nm X i x)["t"])(U:(swapsWith e (!(.Subscript (.Name x np) (.Tuple ks n tp) pos')) pos.line X.env=pure false)["r"]) :
  SS X F0 H0 (.Assign [.Subscript (.Name x np) (.Tuple ks n tp) pos'] e pos) (kH i fk fe):=by
 intro pins s σ F H ρ D S I h
 delta kH at h
 cases ew:ρ[i]? with
 | none=>rw[ew]at h;exact h.elim
 | some w =>
  rw[ew]at h;cases w with
  | none=>exact h.elim
  | some w =>
   cases w with
   | fz d=>exact h.elim
   | br d=>exact h.elim
   | lk d=>exact h.elim
   | od d=>exact h.elim
   | ow d =>
    cases d<;>first|exact h.elim|skip
    rename_i kds;have h:=KE.bind (PostS.of h);obtain⟨v,e1,a,o,rfl,h0,hf,hh,ro⟩:=S.val i _ ew;cases o<;>first|exact ro.elim|skip
    rename_i kvs;refine Z2 (pos:=pos) (pos':=pos') "o" (pvN (pos:=np) O) (jd (e:=.Tuple ks n tp)) (jd (e:=e)) U pins s σ H D I (B.sem S (h.imp λw k1 y F1 H1 g1 q1=>?_))
    cases es:w.st with
    | exc x=>rw[es]at k1;exact k1.elim
    | stuck=>rw[es]at k1;exact k1.elim
    | ok d =>
     rw[es]at k1;have ry:=Vok.st S.s g1 q1 es;obtain⟨g2,_⟩:=vt S.s g1;have S2:=S.grow g2;refine#[_,e1,QC z S2 ((PostS.of (show PostS X F0 H0 F D _ from k1)).imp λws k2 vs F3 H3 p g3 q3 hp=>?_)]
     cases ek:jQ (ws.map En.d)with
     | none=>rw[ek]at k2;exact k2.elim
     | some key =>
      rw[ek]at k2;have ev:=xZ q3 ek;subst ev;have lv:kvs[1]=kds[1]:=RepT.length ro;by_cases c:kds[1]<sz/\key[1]<=sz
      .have k3:PostS X F0 H0 F D (.nx (ρ.set i (!(.dT (jm key d kds))[9]))):=by simpa[if_pos c]using k2
       refine#[by rw[gj];exact c.2,a,_,rfl,DPut.t (e:=?_) qP (by rw[lv];exact c.1),?_]
       .rw[qu (jH (g3.h _ _ (g1.h _ _ hh)) hp)];exact g3.h _ _ (g1.h _ _ hh)
       have g4:=Gr.new (o:=.tup (key.map kV)) g3.s hp;refine k3 σ _ _ (Le.trans g2.f (Le.trans g3.f g4.f)) (((S2.grow g3).grow g4).mut ew e1 (o:=.dT (jN kvs key y)) ?_);exact Yw (Rep.le g3.f _ ry) (RepT.le (Le.trans g2.f g3.f) _ ro)
      have:False:=by simpa[if_neg c,PostS,KE]using k2
      exact this.elim
end
def chE(g:D->D->R En)(y:D)(c:EF):EF:=λρ=>(c ρ).bind λz=>g y z.d
section
variable{ρ:Rho}{d:D}{e f:EF}{i:Nat}{a b c:EF}
theorem qhQ{i j:Int}:qA i[6] j[6]=.ok (i+j)[7]:=rfl
theorem qhR:qJ [.lst xs]=.ok (.int xs[1])[8]:=rfl
theorem qhS:qJ [.tup xs]=.ok (.int xs[1])[8]:=rfl
theorem qhT{lo hi:OF}:eSl a lo hi ρ=(a ρ).b λx=>(lo ρ).b λl=>(hi ρ).b λu=>dSl x.dd l u:=rfl
theorem qhU:oNo ρ=.ok none:=rfl
theorem qhV:oE e ρ=(e ρ).b λw=>isI w.dd:=rfl
theorem qhW:isI j[6]=.ok !j:=rfl
theorem qhX{lo hi:Option Int}:dSl (.lst xs) lo hi=.ok (.lst (vK xs lo hi))[9]:=rfl
theorem qhY:xT g g' a b c ρ=(a ρ).b λx=>(b ρ).b λy=>(g x.dd y.dd).b λr=>(isB r.dd).b (xU (chE g' y.dd c) kF ρ):=rfl
theorem qhZ:chE g d c ρ=(c ρ).b λz=>g d z.dd:=rfl
def qan{j:Int}{n:Nat}(h:ρ[i]?=!(!(.lst xs)[9]))(h2:(e ρ).b En.sto=.ok d)(z:k ρ=.ok w)(B:w.d=.int j)(O:ixn xs[1] j=!n) :
  kG i k e ρ=.nx (ρ.set i (!(.lst (xs.set n d))[9])):=by
 have h2:(e ρ).bind En.st=.ok d:=h2
 delta kG
 rw[h];rw[h2];rw[z,R.bind_ok,B];show(match ixn xs[1] j with|some n=>_|none=>_)=_
 rw[O]
def qao{kvs:List (List (Sum Int Str)×D)}{ws:List En}{key:List (Sum Int Str)}(h:ρ[i]?=!(!(.dT kvs)[9]))(h2:(e ρ).b En.sto=.ok d)(B:evs k ρ=.ok ws)(O:jQ (ws.map En.d)=!key)
  (U:kvs[1]<sz)(z:key[1]<=sz):kH i k e ρ=.nx (ρ.set i (!(.dT (jm key d kvs))[9])):=by
 have h2:(e ρ).bind En.st=.ok d:=h2
 delta kH
 rw[h];rw[h2];delta sOf;rw[B];dsimp only;rw[O];dsimp only;rw[if_pos #[U,z]]
def qap(xs:List α)(a m:Nat):vK xs ↑a (!(a+m))=(xs.drop a).take m:=by
 delta vK
 rw[HT.sIx_nat,show a+m=((a+m:Nat):Int)by lia,HT.sIx_nat]
 by_cases h:a<=xs[1]
 .rw[show min a xs[1]=a by lia]
  apply dY;intro i;rw[cj,cj,List.getElem?_drop]
  grind
 rw[List.drop_eq_nil_of_le (by lia:xs[1]<=min a xs[1]),List.drop_eq_nil_of_le ""]
 simp
def vV{w:En}(h:e ρ=.ok w)(h2:w.st=.ok (.lst ds)):qZ e ρ=.ok ds:=by delta qZ;rw[h,R.bind_ok,h2];rfl
def Yx{a b c d:Int}:dNe (.tup [.int a,.int b]) (.tup [.int c,.int d])=.ok (.bl (not (a==c&&b==d)))[8]:=by
 show okB (not (deq _ _))=_;simp[deq,deqs]
def qaq:∀ rs:List (List Int),vJ (rs.map qN)=!rs:=λrs=>rs.rec
 (rfl)
 λr rs IH=>by
  show(match jO (r.map .int),vJ (rs.map qN)with|some a,!b=>↑(a::b)|_,_=>none)=_
  have e:∀ ns,jO (ns.map D.int)=!ns:=by
   intro ns
   induction ns with
   | nil=>rfl
   | cons n ns ih =>
    show(match jO (ns.map D.int)with|some l=>↑(n::l)|none=>none)=_
    rw[ih]
  rw[e,IH]
end
section
variable{prog:ag}{w:World}{A:aj}{R:Result->ab->Prop}{it:Addr}{fp wr:List Addr}{n:Nat}{P:Nat->aa->Prop}{St:Nat->Heap->Prop}
def qar:Option aa->Array aa
 | none=>#[]
 | some v=>(List.toArray [v,v])
def qas(W:Walks prog w A.in1 it fp wr n P St)(bt)(cmp:CmpOf prog w A.in1 .Gt P bt)(p)(np:p∉fp)(dv) :
  ∀ k j s ob c,n-j=k->j<=n->St j s.heap->(match ob with|none=>j=0|some v=>0<j/\P (argBest bt (j-1)) v) ->
  s.heap.get? p=some {cls:=.type "list",dict:=none,data:=.seq (qar ob) c,slots:=#[]} ->
  (∀ v h' tk,(n=0/\v=dv\/0<n/\P (argBest bt (n-1)) v)->(∀ b o,b∉wr->b≠p->s.heap.get? b=!o->h'.get? b=!o)->R (.ok (.ret v)) {s with heap:=h',toks:=tk}) ->
  codeAny (model prog w) A (.builtin "max.loop" #[[.ref it,.none,.ref p],[(Str.ofString "default",dv)]]) R s:=by
 have pw:p∉wr:=λz=>np (W.sub _ z)
 have nm:(toString "max"++toString ".loop")="max.loop":=by decide
 intro k
 induction k with
 | zero =>
  intro j s ob c hk hj st hb hp hR;have e:j=n:="o"
  subst e;refine dL PySem.F.entry_max_loop ?_;refine gg (m:=seqItems? (.ref p)) (fG hp rfl ?_);refine gg (cT (W.done s _ _ st λh' tk kp=>?_))
  have U:=kp p _ pw hp;cases ob with
  | none =>
   refine gg (pX (gC (hR dv _ tk (.inl #[hb,rfl]) λb o O _ e=>kp b o O e)))
  | some v =>
   refine gg (m:=updateSeq p λ_=>#[]) (cF U rfl (gg (pR (gC ?_))) (by show 2<=sizeLine;decide) "s")
   exact hR v _ tk (.inr #[hb.1,hb.2]) λb o O B e=>(tR _ _ (tm B)).trans (kp b o O e)
 | succ k ih =>
  intro j s ob c hk hj st hb hp hR;have lt:j<n:="o"
  refine dL PySem.F.entry_max_loop ?_;rw[bu pU _];refine gg (m:=seqItems? (.ref p)) (fG hp rfl ?_);refine gg (cT (W.item j s _ _ lt st λv h' tk hP st' kp=>?_))
  have U:=kp p _ pw hp;have frame:∀ h'',(∀ b o,b≠p->h'.get? b=!o->h''.get? b=!o)->St (j+1) h'':=λh'' q=>W.frame _ _ _ st' λb hbf o e=>q b o (λz=>np (by rw[<- z];exact hbf)) e
  cases ob with
  | none =>
   have e:j=0:=hb;subst e;refine gg (m:=updateSeq p λ_=>(List.toArray [v,v])) (cF U rfl ?_ (by show 0<=sizeLine;decide) (by show 2<=sizeLine+1;decide))
   rw[nm];refine gC #[cq pU _,ih 1 _ ↑v _ "" lt (frame _ λb o B e=>(tR _ _ (tm B)).trans e) #[by decide,hP] (f9 _ U rfl) λv' h2 Y q Z=>?_]
   exact hR v' h2 Y q λb o O B e=>Z b o O B ((tR _ _ (tm B)).trans (kp b o O e))
  | some vb =>
   obtain⟨j0,hPb⟩:=hb;refine gg (gC (gg (cT (fS (gg (cmp j (argBest bt (j-1)) v vb _ _ _ hP hPb (gg (fS (pN (gg (pR (gC ?_))))))))))));have ea:argBest bt j=if bt j (argBest bt (j-1))then j else argBest bt (j-1):=by
    obtain⟨i,rfl⟩:∃ i,j=i+1:=#[j-1,""]
    rfl
   by_cases cb:bt j (argBest bt (j-1))=true
   .rw[if_pos cb];rw[if_pos cb]at ea;refine gg (m:=updateSeq p λ_=>(List.toArray [v,v])) (cF U rfl (gg (pR ?_)) (by show 2<=sizeLine;decide) (by show 2<=sizeLine+1;decide))
    rw[nm];refine gC #[cq pU _,ih (j+1) _ ↑v _ "" lt (frame _ λb o B e=>(tR _ _ (tm B)).trans e) #["",?_] (f9 _ U rfl) λv' h2 Y q Z=>?_]
    .rw[Nat.add_sub_cancel,ea];exact hP
    exact hR v' h2 Y q λb o O B e=>Z b o O B ((tR _ _ (tm B)).trans (kp b o O e))
   rw[if_neg cb];rw[if_neg cb]at ea;refine gg (pR ?_);rw[nm];refine gC #[cq pU _,ih (j+1) _ ↑vb c "" lt st' #["",?_] U λv' h2 Y q Z=>?_]
   .rw[Nat.add_sub_cancel,ea];exact hPb
   exact hR v' h2 Y q λb o O B e=>Z b o O B (kp b o O e)
variable{E:aa->ab->Prop}{s:ab}
def qat(a b):argsOk "max" #[[a],[(Str.ofString "default",b)]]:=by delta argsOk;kernel_rfl
def qau{xs:Array (Int×Tok)}{Q:aa->ab->Prop}(Y:A.handled=none)(Z:s.heap.IsList l (intItems xs))
  (h:∀ v h' tk,(xs.size=0/\v=dv\/0<xs.size/\(intItems xs)[argBest (λi j=>decide (numAt xs i>numAt xs j)) (xs.size-1)]?=!v)->(∀ b o,s.heap.get? b=!o->h'.get? b=!o)->Q v {s with heap:=h',toks:=tk}) :
  wpAny (model prog w) A (call (.builtin "max") [.ref l] [(Str.ofString "default",dv)]) Q E s:=by
 have U:(intItems xs).size=xs.size:=by simp[intItems]
 refine wpAny_call (codeAny_call_builtin PySem.F.plain_max PySem.F.entry_max ?_);have body:wpAny (model prog w) A.in1 (Builtin.«max» #[[.ref l],[(Str.ofString "default",dv)]]) (λfin s'=>match fin with
   | .done f=>(match (Except.ok f)with|.ok (.ret v)=>Q v s'|.ok _=>False|.error e=>E e s')
   | .again c'=>c'.quiet=true/\codeAny (model prog w) A c' (λr s'=>match r with|.ok (.ret v)=>Q v s'|.ok _=>False|.error e=>E e s') s') E s:=by
  refine gg (m:=Builtin.Builtins.bindParams "max" ["key","default"] 0 #[[],[(Str.ofString "default",dv)]]) (wpAny_of_eq (show Builtin.Builtins.bindParams "max" ["key","default"] 0 #[[],[(Str.ofString "default",dv)]]=pure [none,!dv]from rfl) ?_)
  refine gg (gC (gg (iter_intList Z λs₂ e st B O=>?_)))
  subst e;refine gg (tZ ?_);have W:=Walks.list (prog:=prog) (w:=w) (A:=A.in1) Y s[0] l O (intItems xs);refine gC #[cq pU _,qas W _ (CmpOf.ints_gt (numAt xs) λ_ _=>intItems_at) _ (λz=>pG _ (B _ z)) dv _ 0 _ none 0 rfl (tK _) (W.frame _ _ _ st λb _ o e=>gy _ e) rfl (gN _ rfl) λv h' tk q kp=>?_]
  refine h v h' tk ?_ (old_kept λb o hb e=>kp b o hb (t7 (gU e)) (gy _ e))
  rw[U]at q;exact q
 have ok:=qat (.ref l) dv;unfold argsOk at ok
 revert ok
 generalize Manifest.signature? "max"=sg;intro ok;cases sg with
 | none=>exact gC body
 | some sg =>
  have ok:Bind.checkArgs "max" sg #[[.ref l],[(Str.ofString "default",dv)]]=pure ():=ok;simp[ok];exact gC body
end
def yB:D->D->R En
 | .lst ds,.int d=>(match jO ds with|some []=>okI d|some (i::r)=>okI (vT i r)|none=>.stuck)
 | _,_=>.stuck
section
variable{X:Cx}{F0 H0:Hp}{pos p kp:Pos}
def Yy(Y:"S" e fe)(hd:"S" d fd)(Z:X.mg "max"=none)(hc:(X.calm=true)["r"])(hg:(Gl X "max")["r"])
  (h1:(backTo pos (starEach [e] X.env)=(false,eval e X.env)::backTo pos (starEach [] X.env))["r"])(h2:((backTo pos (starEach [e] X.env)).any (·.1)=false)["r"])
  (h3:((backToKw pos (keywordEach [#[some "default",d,kp]] X.env)).all (·.1.isSome)=true)["r"])(h4:((backToKw pos (keywordEach [#[some "default",d,kp]] X.env)).any (·.1.isNone)=false)["r"])
  (h5:((backToKw pos (keywordEach [#[some "default",d,kp]] X.env)).filterMap (·.1)=[Str.ofString "default"])["r"])
  (U:(starEach [e] X.env=[(false,eval e X.env)])["r"]) :
  "S" (.Call (.Name "max" p) [e] [#[some "default",d,kp]] pos) (eOp yB fe fd):=by
 refine λpins s σ F H ρ Q S I h=>fB (zL I hg Z pz ?_)
 refine callWith_kw ?_ h1 h2 h3 h4;rw[U];refine t5 (Y pins s σ F H ρ _ S I ((KE.bind h).imp λwx k1 v u F1 H1 s1 g1 q1 r1 I1=>tN ?_))
 refine kws_cons (hd pins s1 σ F1 H1 ρ _ (S.grow g1) I1 ((KE.bind k1).imp λwy k2 v2 u2 F2 H2 s2 g2 q2 r2 I2=>kws_nil ?_))
 rw[h5];have qx:=RdV.gr g2 (Vok.rd q1);have qy:=Vok.rd q2;have B:=yq (g1.trans g2) k2
 revert B qx qy
 generalize wx.d=dx;generalize wy.d=dy;intro qx qy B;cases dx<;>first|exact B.elim|skip
 rename_i ds;cases dy<;>first|exact B.elim|skip
 rename_i dv
 delta yB at B
 dsimp only at B;cases RdV.int qy;obtain⟨td,rfl⟩:=r2;cases ei:jO ds with
 | none=>rw[ei]at B;exact B.elim
 | some ns =>
  rw[ei]at B;obtain⟨a,vs,rfl,hq,rs⟩:=RdV.lst g2.s qx;have ev:=wX ei rs;subst ev;cases r1;obtain⟨its,rv,pl,hz⟩:=I2.list hq;have hi:IntsAre its ns:=yk rv;obtain⟨ys,ey⟩:=hi.allInts.items;have O:ns=ys[2].map (·.1):=by rw[<- hi.numsOf,<- mf,<- ey]
  have hl:=pl.isList;rw[ey]at hl;have hsz:ys.size=ns[1]:=by rw[O];simp
  refine vE (pins:=pins) (σ:=σ) (qau (I2.ok.hd hc) hl λv h' tk hv kp=>?_)
  cases ns with
  | nil =>
   rcases hv with⟨_,rfl⟩|⟨z,_⟩
   .exact#[.int dv,H2,I2.kept kp,#[_,rfl],jo (X:=X) g2.s (v:=.int _) B rfl]
   rw[hsz]at z;simp at z
  | cons i r =>
   rcases hv with⟨z,_⟩|⟨_,hv⟩
   .rw[hsz]at z;simp at z
   obtain⟨t,rfl⟩:=intItems_at hv;obtain⟨b1,b2⟩:=argBest_gt (numAt ys) (ys.size-1);have m1:numAt ys (argBest (λi j=>decide (numAt ys i>numAt ys j)) (ys.size-1))∈i::r:=by
    rw[O,numAt_eq];exact getD_mem (by rw[gj,fj];simp at hsz;lia)
   have m2:∀ a∈i::r,a<=numAt ys (argBest (λi j=>decide (numAt ys i>numAt ys j)) (ys.size-1)):=λa ha=>by
    rw[O]at ha;obtain⟨j,hj,rfl⟩:=mem_getD ha;rw[gj,fj]at hj;rw[<- numAt_eq];exact b2 j ""
   obtain⟨k1,k2⟩:=Qe r i;have em:numAt ys (argBest (λi j=>decide (numAt ys i>numAt ys j)) (ys.size-1))=vT i r:=Int.le_antisymm (k2 _ m1) (m2 _ k1)
   rw[em];exact#[.int _,H2,I2.kept kp,#[_,rfl],jo (X:=X) g2.s (v:=.int _) B rfl]
def vL(i:Nat)(e:EF):SF:=λρ=>match ρ[i]? with
 | some (!(.lst xs)[9])=>sOf (e ρ) λw=>match w with
  | .ow (.lst ys)=>if xs[1]+ys[1]<=sz then .nx (ρ.set i (!(.lst (xs++ys))[9]))else .stuck
  | _=>.stuck
 | _=>.stuck
def QD(i){x:Str}{apos cpos np:Pos}(Z:"S" e f)(hN:(Nm X i x)["t"])(B:(attributeBase (.Name x np) "extend" X.env (eval (.Name x np) X.env)=eval (.Name x np) X.env)["r"])
  (U:(((backTo cpos (starEach [e] X.env)).all (λx=>not x.1)&&(backToKw cpos (keywordEach [] X.env)).all (λx=>x.1.isSome)
   && decide ([e].length+([]:List Keyword)[1]+(if ([]:List Keyword).isEmpty then 0 else 1)<30))=true)["r"])
  (O:((apos.endLine==cpos.line)=true)["r"]) (Y:(starEach [e] X.env=(false,eval e X.env)::starEach [] X.env)["r"]) (z:((backTo cpos (starEach [] X.env)).any (·.1)=false)["r"])
  (hs:(swapsWith (.Call (.Attribute (.Name x np) "extend" apos) [e] [] cpos) none pos.line X.env=pure false)["r"]) :
  SS X F0 H0 (.Expr (.Call (.Attribute (.Name x np) "extend" apos) [e] [] cpos) pos) (vL i f):=by
 intro pins s σ F H ρ D S I h
 delta vL at h
 cases ew:ρ[i]? with
 | none=>rw[ew]at h;exact h.elim
 | some w =>
  rw[ew]at h;cases w with
  | none=>cases h
  | some w =>
   cases w with
   | fz d=>exact h.elim
   | br d=>exact h.elim
   | lk d=>exact h.elim
   | od d=>exact h.elim
   | ow d =>
    cases d<;>first|exact h.elim|skip
    rename_i ds;have h:=PostS.of h;obtain⟨v,e1,a,o,rfl,h0,hf,hh,ro⟩:=S.val i _ ew;cases o<;>first|exact ro.elim|skip
    rename_i vs;have P:=k8 (wP fK PySem.F.slot_list_extend PySem.F.type_list_extend GW (pvN (pos:=np) hN) (zo (jd (e:=e)) vC Y) B U O Y z) hs;refine P pins s σ H D I #[_,e1,.inl #[rfl,vs,SqL.of hh],Z.sem S (h.imp λw k y F1 H1 g1 q1=>?_)]
    cases w with
    | fz d=>exact k.elim
    | br d=>exact k.elim
    | lk d=>exact k.elim
    | od d=>exact k.elim
    | ow d =>
     cases d<;>first|exact k.elim|skip
     rename_i es;obtain⟨b,o,rfl,b0,bf,bh,rb⟩:=q1;cases o<;>first|exact rb.elim|skip
     rename_i us;dsimp only at k;by_cases c:ds[1]+es[1]<=sz
     .rw[if_pos c]at k;have hl:vs[1]+us[1]<=sizeLine:=by rw[Reps.length ro,Reps.length rb];exact c
      refine#[a,b,vs,us,rfl,rfl,g1.h _ _ hh,bh,hl,?_];exact k σ _ _ g1.f ((S.grow g1).mut ew e1 (o:=.lst (vs++us)) (Reps.append (Reps.le g1.f _ ro) rb))
     rw[if_neg c]at k;exact k.elim
def u8:D->Bool
 | .non=>true
 | _=>false
def wH:D->D->R En
 | .xc _ _,_=>.stuck
 | d,.non=>okB (u8 d)
 | _,_=>.stuck
def wI:D->D->R En
 | .xc _ _,_=>.stuck
 | d,.non=>okB (not (u8 d))
 | _,_=>.stuck
def Yz(l:Le F H)(q:RdV κ F H v d)(z:∀ c fs,d≠.xc c fs):decide (v=.non)=u8 d:=by
 cases d with
 | non=>rw[RdV.non q];rfl
 | bl b=>rw[RdV.bl q];rfl
 | int b=>rw[RdV.int q];rfl
 | str b=>rw[RdV.str q];rfl
 | tup ds=>obtain⟨a,vs,rfl,_⟩:=RdV.tup l q;rfl
 | lst ds=>obtain⟨a,vs,rfl,_⟩:=RdV.lst l q;rfl
 | dK ds=>obtain⟨a,vs,rfl,_⟩:=RdV.dK l q;rfl
 | dT ds=>obtain⟨a,vs,rfl,_⟩:=RdV.dT l q;rfl
 | xc c fs=>exact absurd rfl (z c fs)
def YA:OpD X (compareOp .Is) wH:=vG MZ λF H x y dx dy Q l qx qy w=>by
 have hx:∀ c fs,dx≠.xc c fs:=λc fs z=>by subst z;exact w.elim
 cases dy<;>first|(cases dx<;>exact w.elim)|skip
 have w:Wish X F H (okB (u8 dx)) Q:=by cases dx<;>first|exact w|exact w.elim
 refine#[RdV.non qy,?_];rw[Yz l qx hx];exact jo l w rfl
def qav:OpD X (compareOp .IsNot) wI:=vG G0 λF H x y dx dy Q l qx qy w=>by
 have hx:∀ c fs,dx≠.xc c fs:=λc fs z=>by subst z;exact w.elim
 cases dy<;>first|(cases dx<;>exact w.elim)|skip
 have w:Wish X F H (okB (not (u8 dx))) Q:=by cases dx<;>first|exact w|exact w.elim
 refine#[RdV.non qy,?_];rw[Yz l qx hx];exact jo l w rfl
variable{ρ:Rho}{d:D}{e:EF}{i:Nat}
def augR(o:Option (Option En))(i:Nat)(g:D->D->R En)(e:EF)(ρ:Rho):Out:=match o with
 | some (!x[8])=>sOf ((e ρ).b λy=>(g x y.dd).b En.nmo) λw=>.nx (ρ.set i !w)
 | _=>.stuck
theorem qi0:za i g e ρ=augR ρ[i]? i g e ρ:=rfl
theorem qi1:augR (!(!d[8])) i g e ρ=sOf ((e ρ).b λy=>(g d y.dd).b En.nmo) λw=>.nx (ρ.set i !w):=rfl
def QE(h:ρ[i]?=!(!(.lst xs)[9]))(h2:e ρ=.ok (.lst ys)[9])(z:xs[1]+ys[1]<=sz):vL i e ρ=.nx (ρ.set i (!(.lst (xs++ys))[9])):=by
 delta vL;rw[h];rw[h2];delta sOf;dsimp only;rw[if_pos z]
theorem qi2:wH (.tup xs) .non=.ok (.bl false)[8]:=rfl
theorem qi3:wI .non .non=.ok (.bl false)[8]:=rfl
theorem qi4:wI (.tup xs) .non=.ok (.bl true)[8]:=rfl
theorem qi5:wI j[6] .non=.ok (.bl true)[8]:=rfl
end
def kI(o:Option (Option En))(i:Nat)(ρ:Rho):Rho:=match o with
 | some (!d[9])=>ρ.set i (!d[8])
 | _=>ρ
section
variable{i:Nat}{ρ:Rho}{a:SF}{d:D}
def qaw:jn i a ρ=a (kI ρ[i]? i ρ):=rfl
theorem qi6:kI (!(!d[9])) i ρ=ρ.set i (!d[8]):=rfl
theorem qi7:kI (!(!d[8])) i ρ=ρ:=rfl
theorem qi8:kI (!(!(.br d))) i ρ=ρ:=rfl
end
open PySem.Builtin PySem.Builtin.ObjectAttr
abbrev bmV:List aa:=[.type "ValueError",.type "Exception",.type "BaseException",.type "object"]
def qax:List aa->Bool
 | .ref _::r=>qax r
 | l=>l==bmV
section
variable{prog:ag}{w:World}{A:aj}{E:aa->ab->Prop}{s:ab}{K:Frag}{x C:Addr}{vs:Array aa}{sl:Array (Option aa)}{cd:ClassData}{name:Str}{v:aa}
end
def qi9(K:Frag)(C:Addr):Bool:=match K.lookup C with
 | some #[.type "type",_,.cls k,z]=>match k.mro,z[2] with
  | .ref D::r,[_,_,_,_,!(.builtin m),_]=>D==C&&m=="ValueError.__new__"&&not k.hasDel&&tailIn K bmV r
  | _,_=>false
 | _=>false
section
variable{prog:ag}{w:World}{A:aj}{E:aa->ab->Prop}{s:ab}{K:Frag}{C f:Addr}{rest:List aa}{R:Result->ab->Prop}
variable{P:ag}{mg:Str->Option aa}{base:Heap}
variable{X:Cx}{F0 H0:Hp}
end
def CX1(P:ag)(w:World)(mg:Str->Option aa):CXT:=λouter H s E e s'=>∃(x:Xc) (H':Hp) (a:Addr),e=.ref a/\Fl P w mg outer H s H' s' a x (some .none)/\E (.str x.cls 0) (atc x) H'
def spX(κ:Kx)(dn:Den)(n:Nat):Sp:=λvs H Q E=>vs[1]=n/\∃ F ws,Le F H/\Args κ F H vs ws /\
 KE (λx=>∀ F' H',Gr F H F' H'->E (.str x.cls 0) (atc x) H') (dn ws) λw=>∀ v F' H',Gr F H F' H'->Vok κ H F' H' v w->Q v H'
section
variable{P:ag}{w:World}{K:Frag}{mg:Str->Option aa}{base:Heap}
def calm(G:FnOk P w K mg base (CX1 P w mg) k f fd ps (spX κ dn n)):FnOk P w K mg base CX0 k f fd ps (spD κ dn n):=by
 have B:∀ vs H Q,spD κ dn n vs H Q E0->spX κ dn n vs H Q E0:=λvs H Q q=>by
  obtain⟨l,F,ws,a,b,c⟩:=q;exact#[l,F,ws,a,b,KE.impX c (λ_ z=>z) λ_ z=>z.elim]
 refine#[λvs H Q E q=>G.len vs H Q E0 (B vs H Q q),λA outer s H args us vs Q E hr e0 hb hv hs=>?_]
 refine codeAny_mono (G.run A outer s H args us vs Q E0 hr e0 hb hv (B vs H Q hs)) λr s' z=>?_
 cases r with
 | error e=>obtain⟨_,_,_,_,_,z⟩:=z;exact z.elim
 | ok fl=>cases fl<;>exact z
variable{X:Cx}{F0 H0:Hp}{pos p pos2:Pos}{e:Expr}{es:List Expr}{fa:List EF}{x:Str}{k n:Nat}{f:Addr}{fd:FuncData}{ps:List Str}{dn:Den}
def nrm(x:Xc):Xc:=#[x.cls,match atc x with
 | none=>[]
 | some 0=>[("at",.non)]
 | some (n+1)=>[("at",.int n)]]
end
section
variable{M:Model}{A:aj}{E:aa->ab->Prop}{s:ab}{K:Frag}{C S e:Addr}{oe:Obj}
variable{X:Cx}{pins pn:List (Addr×Obj)}{σ:St}{H:Hp}{D:Ends}{fl:Flow}
variable{F0 H0:Hp}{cN n:Str}{i:Nat}{ex:Expr}{cs:List Str}{hd:Xc->R En}{cp rp hp:Pos}
variable{np apos tp bp vp ip:Pos}{j1 j2:Nat}
end
section
variable{X:Cx}{pins:List (Addr×Obj)}{σ:St}{H:Hp}{s:ab}{h':Heap}{fp:List Addr}{t':Nat}
def QF(O:∀ b∈fp,FpOk X pins H b)(B:H b=!u):b∉fp:=λz=>by rw[(O b z).1]at B;cases B
def YB(I:"I" H s)(B:∀ b∈fp,FpOk X pins H b)(k:∀ b o,b∉fp->s.heap.get? b=!o->h'.get? b=!o):"I" H {s with heap:=h',toks:=t'}:=by
 refine I.call #[λb o e _ _ nc=>k b o nc e,λb o e _ _ nc=>#[o.slots,k b o nc e],λ_ _ _ n _=>n,λb o e nc=>#[o,k b o nc e],λ_ _ z=>z,λ_ _ _ z=>z,λb ps z=>#[#[],by rw[z];simp]] (λb u hb=>?_) I.bare
  λb hb=>#[(B b hb).2.2.2.1,(B b hb).2.1,(B b hb).2.2.2.2.1,(B b hb).2.2.2.2.2]
 refine(I.hok b u hb).stay (λd v hd q=>k d v ?_ q) (λ_ z=>z) λ_ _ z=>z
 rcases hd with rfl|z
 .exact QF B hb
 exact QF B z
def YC{xs:List V}(I:"I" H s)(B:∀ b∈fp,FpOk X pins H b)(k:∀ b o,b∉fp->s.heap.get? b=!o->h'.get? b=!o)(O:s[0]<=T)(tup:IsTup h' T its.toArray)(r:Vals xs its)(hz:xs[1]<=sizeLine) :
  "I" (upd H T (.tup xs)) {s with heap:=h',toks:=t'}:=by
 have ne:∀ b o,s.heap.get? b=!o->b≠T:=λb o e z=>absurd (tu (gU e) (z▸O)) (pG _)
 have up:∀ b u,H b=!u->upd H T (.tup xs) b=!u:=λb u e=>by rw[qu (jH e (I.hok.fresh O))];exact e
 refine I.call #[λb o e _ _ nc=>k b o nc e,λb o e _ _ nc=>#[o.slots,k b o nc e],λb o e n _=>?_,λb o e nc=>#[o,k b o nc e],λb _ z=>up b _ z,λb _ _ z=>up b _ z,λb ps z=>#[#[],by rw[up b _ z];simp]] (λb u hb=>?_) I.bare
  λb hb=>#[(B b hb).2.2.2.1,(B b hb).2.1,(B b hb).2.2.2.2.1,(B b hb).2.2.2.2.2]
 .rw[qu (ne b o e)];exact n
 by_cases z:b=T
 .subst z;rw[qP]at hb;cases hb;exact#[hz,its,r,tup]
 rw[qu z]at hb;refine(I.hok b u hb).stay (λd v hd q=>k d v ?_ q) (λc y=>up c _ y) λc ys y=>up c _ y
 rcases hd with rfl|y
 .exact QF B hb
 exact QF B y
end
def Ite(K:Frag)(a:Addr):It :=
 #[λi H=>∃ xs x,SqL K H a xs/\xs[i]?=!x,λi H x H'=>∃ p y,H p=none/\x=.ref p/\H'=upd H p (.tup [.int i,y])/\∀ xs,SqL K H a xs->xs[i]?=!y,λi H=>∃ xs,SqL K H a xs/\xs[1]<=i]
def qay{K:Frag}{k:Nat}(a it e:Addr)(ne:e≠it) :
  Turn P w K (.Tuple es k tp) (Ite K a) [e,it] e (λi h=>(∃ B,IsEnum h e it i B)/\h.IsListIter it a i)where
 mem:=by simp
 obj:=λi h #[#[B,he],hi] b hb=>by
  rcases gG.mp hb with rfl|hb
  .simp_all
  obtain rfl:b=it:=by simpa using hb
  obtain⟨o,e,c,d⟩:=hi
  simp_all
 keep:=λi h h' #[#[B,he],hi] kk=>#[#[B,kk e "s" _ he],hi.at λo q=>kk it "s" o q]
 item:=by
  intro X hP hw hK hc i pins s σ H E I hf ⟨⟨B,he⟩,hi⟩ hg;subst hP hw hK;obtain⟨xs,x,hq,hx⟩:=hg;obtain⟨its,rv,p,hz⟩:=I.list hq;obtain⟨u,hu,ru⟩:=rv.get hx;refine wpAny_pyNext_enum_item he hi p.isList hu[""] ne λh1 ho Y hT hsz hk=>#[_,rfl,?_]
  refine wpAny_letOwnedTupleGo_enum (s:={s with heap:=h1,toks:=s.toks+1}) ho λh2 Z sb=>?_
  have O:s[0]≠e:=c6 (gU he);have T2:h2.get? s[0]=some {cls:=.type "tuple",data:=.seq (List.toArray [.int i s.toks,u])}:=(sb.2 _ O).trans hT;refine#[.ref s[0],upd H s[0] (.tup [.int i,x]),YC (s:=s) (t':=s.toks+1) (its:=[.int i s.toks,u]) I hf (λb o nb ho=>?_) (gE _) #[_,T2,rfl,_,rfl] (.cons #[_,rfl] (.cons ru .nil)) (by simp[pE]),rfl,
   #[_,x,I.hok.fresh (gE _),rfl,rfl,λys hy=>by rw[I.list_inj hy hq];exact hx],#[#[u,by simpa using Z],Y.at λo q=>(sb.2 it (tm ne)).trans q],λb hb=>?_]
  .have U:b≠e:=λz=>nb (by simp[z])
   have nb2:b≠it:=λz=>nb (by simp[z])
   exact(sb.2 b U).trans (hk b o U nb2 ho)
  rw[qu]
  .exact(hf b hb).1
  rcases gG.mp hb with rfl|hb
  .exact tm O
  obtain rfl:b=it:=by simpa using hb
  obtain⟨o,q,_⟩:=hi;exact t7 (gU q)
 done:=by
  intro X hP hw hK hc i pins s σ H E I hf ⟨⟨B,he⟩,hi⟩ hg;subst hP hw hK;obtain⟨xs,hq,hx⟩:=hg;obtain⟨its,rv,p,hz⟩:=I.list hq;have hl:=rv[1];refine wpAny_pyNext_enum_end (I.ok.hd hc) he hi p.isList (by simp;lia) λh1 eb=>#[rfl,YB (t':=s.toks) I hf λb o nb ho=>eb b o (λz=>nb (by simp[z])) ho]
 self:=λ_ _ _ _ _ #[#[B,he],_] h=>wpAny_pyIter_enum he h
def numd:Nat->List D->List D
 | _,[]=>[]
 | n,d::r=>.tup [.int n,d]::numd (n+1) r
theorem ZB:∀ ds n i (x:D),(numd n ds)[i]?=!x->∃ d,ds[i]?=!d/\x=.tup [.int (n+i:Nat),d]
 | [],_,_,_,h=>by simp[numd]at h
 | d::r,n,0,x,h=>by simp[numd]at h;exact#[d,rfl,by rw[<- h];rfl]
 | d::r,n,i+1,x,h=>by
  obtain⟨y,e1,e2⟩:=ZB r (n+1) i x (by simpa[numd]using h)
  exact#[y,by simpa using e1,by rw[e2];lia]
def qaz:∀(ds:List D) (n:Nat),(numd n ds)[1]=ds[1]:=λr=>r.rec
 (λ_=>rfl)
 λd r IH n=>by simp[numd,IH]
def YD{κ:Kx}(B:∀ F H,Le F1 F->Le F H->Le G H->SqL κ.K H a vs)(rs:Reps κ F1 vs ds):Walk κ (Ite κ.K a) F1 G (numd 0 ds)where
 go:=λi x F H ed l1 l lg=>by
  obtain⟨d,e1,rfl⟩:=ZB ds 0 i x ed;obtain⟨v,ev,rv⟩:=Reps.get rs e1;have q:=B F H l1 l lg;refine#[#[vs,v,q,ev],λy H' z=>?_]
  obtain⟨p,y,hp,rfl,rfl,w⟩:=z;have:=w vs q;rw[ev]at this;cases this;exact#[_,Gr.newF l hp,p,[.int i,v],rfl,.inl (.inl qP),(#[_,_,rfl,by rw[pL];rfl,_,_,rfl,Rep.le (λb o z=>by rw[qu (jH z (Le.none l hp))];exact z) d (Rep.le l1 d rv),rfl])]
 stop:=λi F H hi l1 l lg=>#[vs,B F H l1 l lg,by rw[Reps.length rs];rw[qaz]at hi;exact hi]
def zz(i:Nat):IF:=λρ=>match ρ[i]? with
 | some (!(.lst ds)[8])=>.ok (numd 0 ds)
 | some (!(.br (.lst ds)))=>.ok (numd 0 ds)
 | _=>.stuck
def kJ(i){X:Cx}{k:Nat}(z:X.mg "enumerate"=none)(B:(Nm X i x)["t"])(O:(Gl X "enumerate")["r"])(U:(starEach [.Name x pos] X.env=[(false,eval (.Name x pos) X.env)])["r"]) :
  SI X F0 H0 (.Tuple es k tp) (.Call (.Name "enumerate" np) [.Name x pos] [] cp) (zz i):=by
 refine#[λσ H R=>∃ a,σ[i]?=!(!(.ref a))/\(∃ xs,SqL X.K H a xs)/\R (Ite X.K a) H,λpins s σ H R I #[a,hσ,#[xs,hq],hR]=>?_,λσ F H ρ R S h=>?_]
 .refine Call_ (zL I O z boot_enumerate (tD ?_ U rfl));refine t5 (thn (pvN B pins s σ H (λv' H'=>v'=.ref a/\H'=H) I #[_,hσ,rfl,rfl]) λu s1 #[v1,H1,I1,r1,e1,e2]=>?_)
  subst e1 e2;obtain rfl:u=Value.ref a:=r1;refine tN ?_;obtain⟨its,rv,p,hz⟩:=I1.list hq;refine call_enumerate_list p.isList λh' he hi hsz kp=>?_
  refine wpAny_pyIter_enum (s:={s1 with heap:=h'}) he ?_;refine#[_,_,_,_,H1,rfl,I1.kept (t':=s1.toks) kp,qay a s1[0] (s1[0]+1) (c6 (bn _)),#[#[_,he],hi],λb hb=>?_,hR]
  have lb:s1[0]<=b:=by
   rcases gG.mp hb with rfl|hb
   .simp
   simp_all
  exact I1.fpOk lb (I1.hok.fresh lb)
 unfold zz at h;cases ew:ρ[i]? with
 | none=>rw[ew]at h;exact h.elim
 | some w =>
  rw[ew]at h;cases w with
  | none=>exact h.elim
  | some w =>
   obtain⟨v,e1,q⟩:=S.val i w ew;cases w with
   | ow d=>exact h.elim
   | lk d=>exact h.elim
   | od d=>exact h.elim
   | fz d =>
    cases d<;>first|exact h.elim|skip
    obtain⟨a,vs,rfl,hq,rs⟩:=q;exact#[a,e1,#[vs,SqL.le S.s hq],h F H _ (Gr.refl S.s) (YD (κ:=kx X) (λF' H' l1 l _=>SqL.le l (SqL.le l1 hq)) rs)]
   | br d =>
    obtain⟨a,o,rfl,eh,ro⟩:=q;cases d<;>first|exact h.elim|skip
    cases o<;>first|exact ro.elim|skip
    exact#[a,e1,#[_,SqL.of (S.gr.h _ _ eh)],h F H _ (Gr.refl S.s) (YD (κ:=kx X) (λF' H' _ _ lg=>SqL.le lg (SqL.of eh)) ro)]
section
variable{prog:ag}{w:World}{A:aj}{E:aa->ab->Prop}{s:ab}
def ZC{i:Nat}{Q:aa->ab->Prop}(z:s.heap.IsTupleIter ia t i)(B:s.heap.IsTuple t vs)(O:vs[i]?=!x)
  (k:∀ h',h'.IsTupleIter ia t (i+1)->Heap.SameBut ia s.heap h'->Q x {s with heap:=h'}):wpAny (model prog w) A (Builtin.SmallTypes.nextOf (.ref ia)) Q E s:=by
 obtain⟨o,g1,g2,g3⟩:=id z;obtain⟨ot,g4,_,nt,g5⟩:=B
 delta Builtin.SmallTypes.nextOf;refine gg (fJ z.typeIs pf (p7 pf z.typeIs dM ?_ (dF _)))
 show wpAny _ _ (field (.ref ia) 0 >>= _) _ _ s;refine gg (fW g1 g3 (x:=.ref t) rfl ?_);refine gg (fW g1 g3 rfl ?_);show wpAny _ _ (seqItems? (.ref t) >>= _) _ _ s;refine gg (fG g4 g5 ?_);simp[tY,O];refine gg (b8 g1 g3 "s" (gC #[x,rfl,gC (k _ #[_,f9 _ g1 (Obj.isFreed_of_fields (dN g3 _)),(Obj.cls_mapFields ..).trans g2,?_] (pp ..))]))
 rw[dN g3];simp[rawInt]
def YE{i:Nat}{Q:aa->ab->Prop}(B:A.handled=none)(z:s.heap.IsTupleIter ia t i)(O:s.heap.IsTuple t vs)(U:vs[i]?=none)
  (k:∀ h' e,Heap.ExtBut ia s.heap h'->(∃ o,h'.get? e=!o/\o.cls=.type "StopIteration")->E (.ref e) {s with heap:=h'}):wpAny (model prog w) A (Builtin.SmallTypes.nextOf (.ref ia)) Q E s:=by
 obtain⟨o,g1,g2,g3⟩:=id z;obtain⟨ot,g4,_,nt,g5⟩:=O
 delta Builtin.SmallTypes.nextOf;refine gg (fJ z.typeIs pf (p7 pf z.typeIs dM ?_ (dF _)))
 show wpAny _ _ (field (.ref ia) 0 >>= _) _ _ s;refine gg (fW g1 g3 (x:=.ref t) rfl ?_);refine gg (fW g1 g3 rfl ?_);show wpAny _ _ (seqItems? (.ref t) >>= _) _ _ s;refine gg (fG g4 g5 ?_);simp[tY,U];refine gg (pX (gg (b8 g1 g3 "s" ?_)))
 show wpAny _ _ (newExc (.type "StopIteration") [] >>= _) _ _ _;refine gg ?_;refine gg (tZ (gg (wpAny_of_eq (a:=Value.none) (by first|rfl|(rfl)) (tZ ?_ (by size_fits)))) (by size_fits))
 refine gg (wpAny_handled ?_);first|rw[show A.in1.handled=none from B]|rw[B]
 exact gg (gC (wpAny_throw (k _ _ (((pp ..).extBut.push _).push _) #[_,gN _ rfl,rfl])))
structure ZA(zp tI tO ja jb t1 t2:Addr):Prop where
 nd:[zp,tI,tO,ja,jb].Nodup
 n1:t1∉[zp,tI,tO,ja,jb]
 n2:t2∉[zp,tI,tO,ja,jb]
def qaA{B O:Nat}{Q:Option aa->ab->Prop}(D:ZA zp tI tO ja jb t1 t2)(z:IsZip s.heap zp tI tO .none)(U:IsPair s.heap tI (.ref ja) (.ref jb))(Y:IsPair s.heap tO a b)
  (Z:s.heap.IsTupleIter ja t1 B)(g2:s.heap.IsTupleIter jb t2 O)(q1:s.heap.IsTuple t1 xs)(q2:s.heap.IsTuple t2 ys)(ex:xs[B]?=!x)(ey:ys[O]?=!y)
  (k:∀ h',IsZip h' zp tI tO (rawInt s[0])->IsPair h' tO x y->h'.IsTupleIter ja t1 (B+1)->h'.IsTupleIter jb t2 (O+1)->IsPair h' s[0] x y ->
   (∀ c o,c≠zp->c≠tO->c≠ja->c≠jb->s.heap.get? c=!o->h'.get? c=!o)->Q (!(.ref s[0])) {s with heap:=h'}):wpAny (model prog w) A (pyNext (.ref zp)) Q E s:=by
 obtain⟨nd,m1,m2⟩:=D;simp[tJ,gG,p9,bN,not_or,bS,and_true,bZ]at nd m1 m2;obtain⟨⟨a1,a2,a3,a4⟩,⟨b1,b2,b3⟩,⟨c1,c2⟩,d1⟩:=nd;obtain⟨e1,e2,e3,e4,e5⟩:=m1;obtain⟨f1,f2,f3,f4,f5⟩:=m2;have tz:s.TypeIs (.ref zp) "zip":=#[_,z,rfl];refine gg (mm (fJ (name:=Str.ofString "__next__") tz d6 (p7 d6 tz PySem.F.entry_zip_next ?_ (PySem.F.args_zip_next_1 _))));show wpAny _ _ (field (.ref zp) 2 >>= _) _ _ _;refine gg (fW z rfl (x:=.bool false) rfl ?_);refine gg (fW z rfl (x:=.ref tI) rfl (gg (fG U rfl ?_)));refine gg ?_;unfold Builtin.SmallTypes.ownedTupleIsFree;refine gg (fW z rfl (x:=.none) rfl (gC ?_));refine gg (pX (gg (fW z rfl (x:=.ref tO) rfl (gg (cw z "s" λh1 z1 s1=>?_)))))
 refine gg ?_;simp only[bq,List.zipIdx_nil,bE,List.forIn_nil];refine gg (gg (mn ?_));refine gg (ZC (Z.extBut s1.extBut (tm a3)) (q1.extBut s1.extBut e1) ex λh2 w2 s2=>gC ?_)
 have o2:IsPair h2 tO a b:=s2.extBut _ _ c1 (s1.extBut _ _ (tm a2) Y);refine gg (fG o2 rfl (gg (bv o2 λh3 o3 s3=>?_)))
 refine gg (pR (gC (gg (gg (mn ?_)))));refine gg (ZC (((g2.extBut s1.extBut (tm a4)).extBut s2.extBut (tm d1)).extBut s3.extBut (tm c2)) (((q2.extBut s1.extBut f1).extBut s2.extBut f4).extBut s3.extBut f3) ey λh4 w4 s4=>gC ?_)
 have o4:IsPair h4 tO x b:=s4.extBut _ _ c2 o3;refine gg (fG o4 rfl (gg (bv o4 λh5 o5 s5=>?_)))
 replace o5:IsPair h5 tO x y:=o5
 refine gg (pR (gC (gC (gg (fG o5 rfl (gg (wpAny_newTuple ?_)))))));have sz:h5.objs.size=s[0]:=by rw[s5.1,s4.1,s3.1,s2.1,s1.1]
 have z5:IsZip h5 zp tI tO .ellipsis:=s5.extBut _ _ a2 (s4.extBut _ _ a4 (s3.extBut _ _ a2 (s2.extBut _ _ a3 z1)));have w5:h5.IsTupleIter ja t1 (B+1):=((w2.extBut s3.extBut (tm c1)).extBut s4.extBut d1).extBut s5.extBut (tm c1);have v5:h5.IsTupleIter jb t2 (O+1):=w4.extBut s5.extBut (tm c2);have lz:zp<h5.objs.size:=gU z5;show wpAny _ _ (Builtin.SmallTypes.ownedTupleHandOut (.ref zp) (.ref h5.objs.size) >>= _) _ _ _;refine gg ?_;unfold Builtin.SmallTypes.ownedTupleHandOut;have z6:IsZip (h5.push {cls:=.type "tuple",data:=.seq (List.toArray [x,y])}) zp tI tO .ellipsis:=gy _ z5;refine gg (cw z6 "s" λh7 z7 s7=>?_)
 replace z7:IsZip h7 zp tI tO (rawInt h5.objs.size):=z7
 refine cw z7 "s" λh8 z8 s8=>?_
 replace z8:IsZip h8 zp tI tO (rawInt h5.objs.size):=z8
 have up:∀ c o,c≠zp->h5.get? c=!o->h8.get? c=!o:=λc o n e=>s8.extBut _ _ n (s7.extBut _ _ n (gy _ e))
 have p8:IsPair h8 h5.objs.size x y:=s8.extBut _ _ (c6 lz) (s7.extBut _ _ (c6 lz) (gN _ rfl));rw[sz]at z8 p8;refine gC #[_,rfl,gC ?_];show Q (!(.ref h5.objs.size)) _;rw[sz];refine k h8 z8 (up _ _ (tm a2) o5) (w5.at λo e=>up _ o (tm a3) e) (v5.at λo e=>up _ o (tm a4) e) p8 λc o n1 n2 n3 n4 e=>up c o n1 ?_
 exact s5.extBut _ _ n2 (s4.extBut _ _ n4 (s3.extBut _ _ n2 (s2.extBut _ _ n3 (s1.extBut _ _ n1 e))))
def qaB{B O:Nat}{Q:Option aa->ab->Prop}(U:A.handled=none)(D:ZA zp tI tO ja jb t1 t2)(z:IsZip s.heap zp tI tO .none)(gI:IsPair s.heap tI (.ref ja) (.ref jb))(gO:IsPair s.heap tO a b)
  (Y:s.heap.IsTupleIter ja t1 B)(g2:s.heap.IsTupleIter jb t2 O)(Z:s.heap.IsTuple t1 xs)(q2:s.heap.IsTuple t2 ys)(en:xs[B]?=none\/ys[O]?=none)
  (k:∀ h',(∀ c o,c≠zp->c≠tO->c≠ja->c≠jb->s.heap.get? c=!o->h'.get? c=!o)->Q none {s with heap:=h'}):wpAny (model prog w) A (pyNext (.ref zp)) Q E s:=by
 obtain⟨nd,m1,m2⟩:=D;simp[tJ,gG,p9,bN,not_or,bS,and_true,bZ]at nd m1 m2;obtain⟨⟨a1,a2,a3,a4⟩,⟨b1,b2,b3⟩,⟨c1,c2⟩,d1⟩:=nd;obtain⟨e1,e2,e3,e4,e5⟩:=m1;obtain⟨f1,f2,f3,f4,f5⟩:=m2;have tz:s.TypeIs (.ref zp) "zip":=#[_,z,rfl];have fin:∀ h' e,(∀ c o,c≠zp->c≠tO->c≠ja->c≠jb->s.heap.get? c=!o->h'.get? c=!o)->(∃ o,h'.get? e=!o/\o.cls=.type "StopIteration") ->
   wpAny (model prog w) A (do if <- isInstance (.ref e) (.type "StopIteration")then pure none else throw (.ref e)) Q E {s with heap:=h'}:=λh' e kp #[o,ho,hc] =>
  gg (wpAny_isInstance (T:="StopIteration") (b:=true) #[o,ho,hc] isSubtype_stop (gC (k h' kp)))
 refine gg (mm (fJ (name:=Str.ofString "__next__") tz d6 (p7 d6 tz PySem.F.entry_zip_next ?_ (PySem.F.args_zip_next_1 _))));show wpAny _ _ (field (.ref zp) 2 >>= _) _ _ _;refine gg (fW z rfl (x:=.bool false) rfl ?_);refine gg (fW z rfl (x:=.ref tI) rfl (gg (fG gI rfl ?_)));refine gg ?_;unfold Builtin.SmallTypes.ownedTupleIsFree;refine gg (fW z rfl (x:=.none) rfl (gC ?_));refine gg (pX (gg (fW z rfl (x:=.ref tO) rfl (gg (cw z "s" λh1 z1 s1=>?_)))))
 replace z1:IsZip h1 zp tI tO .ellipsis:=z1
 refine gg ?_;simp only[bq,List.zipIdx_nil,bE,List.forIn_nil];refine gg (gg (mn ?_));show wpAny _ _ (Builtin.SmallTypes.nextOf (.ref ja) >>= _) _ _ _;cases ex:xs[B]? with
 | none =>
  refine gg (YE U (Y.extBut s1.extBut (tm a3)) (Z.extBut s1.extBut e1) ex λh2 er s2 #[oe,w1,w2]=>?_)
  have z2:IsZip h2 zp tI tO .ellipsis:=s2 _ _ a3 z1;have nz:er≠zp:=λq=>by subst q;rw[z2]at w1;cases w1;simp at w2
  refine cw z2 "s" λh3 _ s3=>fin h3 er (λc o n1 _ n3 _ q=>s3.extBut _ _ n1 (s2 _ _ n3 (s1.extBut _ _ n1 q))) #[oe,s3.extBut _ _ nz w1,w2]
 | some x =>
  have ey:ys[O]?=none:=en.resolve_left (by rw[ex];exact λq=>nomatch q)
  refine gg (ZC (Y.extBut s1.extBut (tm a3)) (Z.extBut s1.extBut e1) ex λh2 w2 s2=>gC ?_)
  have o2:IsPair h2 tO a b:=s2.extBut _ _ c1 (s1.extBut _ _ (tm a2) gO);refine gg (fG o2 rfl (gg (bv o2 λh3 o3 s3=>gg (pR (gC (gg (gg (mn ?_))))))))
  show wpAny _ _ (Builtin.SmallTypes.nextOf (.ref jb) >>= _) _ _ _;refine gg (YE U (((g2.extBut s1.extBut (tm a4)).extBut s2.extBut (tm d1)).extBut s3.extBut (tm c2)) (((q2.extBut s1.extBut f1).extBut s2.extBut f4).extBut s3.extBut f3) ey λh4 er s4 #[oe,w1,w2]=>?_)
  have z4:IsZip h4 zp tI tO .ellipsis:=s4 _ _ a4 (s3.extBut _ _ a2 (s2.extBut _ _ a3 z1));have nz:er≠zp:=λq=>by subst q;rw[z4]at w1;cases w1;simp at w2
  refine cw z4 "s" λh5 _ s5=>fin h5 er (λc o n1 n2 n3 n4 q=>s5.extBut _ _ n1 (s4 _ _ n4 (s3.extBut _ _ n2 (s2.extBut _ _ n3 (s1.extBut _ _ n1 q))))) #[oe,s5.extBut _ _ nz w1,w2]
def qaC(t1 t2)(xs ys):Meets (Builtin.«zip.__new__» #[[.type "zip",.ref t1,.ref t2],[]]) (λ_ R s=>s.heap.IsTuple t1 xs/\s.heap.IsTuple t2 ys /\
   ∀ h',IsZip h' (s[0]+4) (s[0]+2) (s[0]+3) .none->IsPair h' (s[0]+2) (.ref s[0]) (.ref (s[0]+1))->IsPair h' (s[0]+3) .none .none ->
    h'.IsTupleIter s[0] t1 0->h'.IsTupleIter (s[0]+1) t2 0->(∀ c o,s.heap.get? c=!o->h'.get? c=!o)->R (.ok (.ret (.ref (s[0]+4)))) {s with heap:=h'}) :=
 .of_wp λprog w A R s h=>by
  obtain⟨hp,g,d,tk,os⟩:=s;obtain⟨u1,u2,k⟩:=h;have z:=sub_zip;have U1:Heap.IsTuple (Shared.heap #[hp,g,d,tk,os]) t1 xs:=u1;have U2:Heap.IsTuple (Shared.heap #[hp.push {cls:=.type "tuple_iterator",data:=.fields (List.toArray [.ref t1,.int 0 0])},g,d,tk,os]) t2 ys:=Heap.IsTuple.push u2 _
  wp_walk using bJ U1,bJ U2
  refine#[_,rfl,?_];have z1:(hp.push {cls:=.type "tuple_iterator",data:=.fields (List.toArray [.ref t1,.int 0 0])}).objs.size=hp.objs.size+1:=cR ..;generalize e1:hp.push {cls:=.type "tuple_iterator",data:=.fields (List.toArray [.ref t1,.int 0 0])}=H1 at *;have z2:(H1.push {cls:=.type "tuple_iterator",data:=.fields (List.toArray [.ref t2,.int 0 0])}).objs.size=hp.objs.size+2:=by rw[cR,z1]
  generalize e2:H1.push {cls:=.type "tuple_iterator",data:=.fields (List.toArray [.ref t2,.int 0 0])}=H2 at *;rw[z1];have q2:∀ c o,hp.get? c=!o->H2.get? c=!o:=λc o q=>by rw[<- e2,<- e1];exact gy _ (gy _ q)
  have ja:H2.get? hp.objs.size=some {cls:=.type "tuple_iterator",data:=.fields (List.toArray [.ref t1,.int 0 0])}:=by rw[<- e2,<- e1];exact gy _ (gN _ rfl)
  have jb:H2.get? (hp.objs.size+1)=some {cls:=.type "tuple_iterator",data:=.fields (List.toArray [.ref t2,.int 0 0])}:=by rw[<- e2,<- z1];exact gN _ rfl
  generalize e3:H2.push {cls:=.type "tuple",data:=.seq (List.toArray [.ref hp.objs.size,.ref (hp.objs.size+1)])}=H3;have z3:H3.objs.size=hp.objs.size+3:=by rw[<- e3,cR,z2]
  generalize e4:H3.push {cls:=.type "tuple",data:=.seq (List.toArray [.none,.none])}=H4;have z4:H4.objs.size=hp.objs.size+4:=by rw[<- e4,cR,z3]
  have p3:∀ c o,H2.get? c=!o->H3.get? c=!o:=λc o q=>by rw[<- e3];exact gy _ q
  have p4:∀ c o,H3.get? c=!o->H4.get? c=!o:=λc o q=>by rw[<- e4];exact gy _ q
  have w3:H3.get? (hp.objs.size+2)=some {cls:=.type "tuple",data:=.seq (List.toArray [.ref hp.objs.size,.ref (hp.objs.size+1)])}:=by rw[<- e3,<- z2];exact gN _ rfl
  have w4:H4.get? (hp.objs.size+3)=some {cls:=.type "tuple",data:=.seq (List.toArray [.none,.none])}:=by rw[<- e4,<- z3];exact gN _ rfl
  have fin:R (.ok (.ret (.ref H4.objs.size))) #[H4.push {cls:=.type "zip",data:=.fields (List.toArray [.none,.bool false,.bool false,.ref H2.objs.size,.ref H3.objs.size])},g,d,tk,os]:=by
   rw[z2,z3,z4];have w5:(H4.push {cls:=.type "zip",data:=.fields (List.toArray [.none,.bool false,.bool false,.ref (hp.objs.size+2),.ref (hp.objs.size+3)])}).get? (hp.objs.size+4)=some {cls:=.type "zip",data:=.fields (List.toArray [.none,.bool false,.bool false,.ref (hp.objs.size+2),.ref (hp.objs.size+3)])}:=by
    rw[<- z4];exact gN _ rfl
   exact k _ w5 (gy _ (p4 _ _ w3)) (gy _ w4) #[_,gy _ (p4 _ _ (p3 _ _ ja)),rfl,rfl] #[_,gy _ (p4 _ _ (p3 _ _ jb)),rfl,rfl] λc o q=>gy _ (p4 _ _ (p3 _ _ (q2 c o q)))
  rw[<- e4,<- e3]at fin;exact fin
def qaD{xs ys:Array aa}{Q:aa->ab->Prop}(z:s.heap.IsTuple t1 xs)(B:s.heap.IsTuple t2 ys)
  (k:∀ h',IsZip h' (s[0]+4) (s[0]+2) (s[0]+3) .none->IsPair h' (s[0]+2) (.ref s[0]) (.ref (s[0]+1))->IsPair h' (s[0]+3) .none .none ->
    h'.IsTupleIter s[0] t1 0->h'.IsTupleIter (s[0]+1) t2 0->(∀ c o,s.heap.get? c=!o->h'.get? c=!o)->Q (.ref (s[0]+4)) {s with heap:=h'}) :
  wpAny (model prog w) A (call (.type "zip") [.ref t1,.ref t2]) Q E s :=
 callType_new PySem.F.called_zip "d" (PySem.F.typeCall_zip_2 _ _) (PySem.F.newCall_zip_2 _ _) (λobj=>PySem.F.args_object_init_3 obj _ _) PySem.F.entry_zip_new (qaC t1 t2 xs ys)
  #[z,B,λh' b1 b2 b3 b4 b5 b6=>#[#[_,b1,rfl],k h' b1 b2 b3 b4 b5 b6]]
end
def Itz(K:Frag)(a b:Addr):It :=
 #[λi H=>∃ xs x ys y,SqT K H a xs/\xs[i]?=!x/\SqT K H b ys/\ys[i]?=!y,λi H v H'=>∃ p x y,H p=none/\v=.ref p/\H'=upd H p (.tup [x,y])/\(∀ xs,SqT K H a xs->xs[i]?=!x)/\∀ ys,SqT K H b ys->ys[i]?=!y,
  λi H=>∃ xs ys,SqT K H a xs/\SqT K H b ys/\(xs[1]<=i\/ys[1]<=i)]
def kK{h:Heap}(p:IsTup h a vs):h.IsTuple a vs:=p
def qaE{K:Frag}{k:Nat}(a b z B U Y Z:Addr)(D:ZA z B U Y Z a b) :
  Turn P w K (.Tuple es k tp) (Itz K a b) [z,B,U,Y,Z] z (λi h=>IsZip h z B U .none/\IsPair h B (.ref Y) (.ref Z)/\(∃ u v,IsPair h U u v)/\h.IsTupleIter Y a i/\h.IsTupleIter Z b i)where
 mem:=by simp
 obj:=λi h #[q1,q2,#[u,v,q3],#[o4,q4,_,d4],#[o5,q5,_,d5]] c hc=>by
  grind
 keep:=λi h h' #[q1,q2,#[u,v,q3],q4,q5] kk=>#[kk z "s" _ q1,kk B "s" _ q2,#[u,v,kk U "s" _ q3],q4.at λo q=>kk Y "s" o q,q5.at λo q=>kk Z "s" o q]
 item:=by
  intro X hP hw hK hc i pins s σ H E I hf ⟨q1,q2,⟨u,v,q3⟩,q4,q5⟩ ⟨xs,x,ys,y,sx,hx,sy,hy⟩;subst hP hw hK;obtain⟨its,rv,p,_⟩:=I.tuple sx;obtain⟨ux,hu,ru⟩:=rv.get hx;obtain⟨its',O,p',_⟩:=I.tuple sy;obtain⟨uy,hu',ru'⟩:=O.get hy;obtain⟨nd,m1,m2⟩:=id D;simp[tJ,gG,p9,bN,not_or,bS,and_true,bZ]at nd m1 m2;obtain⟨⟨a1,a2,a3,a4⟩,⟨b1,b2,b3⟩,⟨c1,c2⟩,d1⟩:=nd;refine qaA D q1 q2 q3 q4 q5 (kK p) (kK p') (x:=ux) (y:=uy) hu[""] hu'[""] λh1 g1 g2 g3 g4 g5 kp=>#[_,rfl,?_]
  refine wpAny_letOwnedTupleGo_zip (s:={s with heap:=h1}) g1 λh2 gz sb=>?_
  have neZ:s[0]≠z:=c6 (gU q1);have T2:h2.get? s[0]=some {cls:=.type "tuple",data:=.seq (List.toArray [ux,uy])}:=(sb.2 _ neZ).trans g5;refine#[.ref s[0],upd H s[0] (.tup [x,y]),YC (s:=s) (t':=s.toks) (its:=[ux,uy]) I hf (λc o nc ho=>?_) (gE _) #[_,T2,rfl,_,rfl] (.cons ru (.cons ru' .nil)) (by simp[pE]),rfl,
   #[_,x,y,I.hok.fresh (gE _),rfl,rfl,λzs hz=>by rw[I.tuple_inj hz sx];exact hx,λzs hz=>by rw[I.tuple_inj hz sy];exact hy],
   #[gz,(sb.2 B (tm a1)).trans (kp B _ (tm a1) b1 b2 b3 q2),#[ux,uy,(sb.2 U (tm a2)).trans g2],g3.at λo q=>(sb.2 Y (tm a3)).trans q,g4.at λo q=>(sb.2 Z (tm a4)).trans q],λc hc=>?_]
  .have n1:c≠z:=λq=>nc (by simp[q])
   exact(sb.2 c n1).trans (kp c o n1 (λq=>nc (by simp[q])) (λq=>nc (by simp[q])) (λq=>nc (by simp[q])) ho)
  rw[qu]
  .exact(hf c hc).1
  have lt:∀{c o},s.heap.get? c=!o->c≠s[0]:=λq=>t7 (gU q)
  simp[gG,p9,bN]at hc;rcases hc with rfl|rfl|rfl|rfl|rfl
  .exact lt q1
  .exact lt q2
  .exact lt q3
  .obtain⟨o,q,_⟩:=q4;exact lt q
  obtain⟨o,q,_⟩:=q5;exact lt q
 done:=by
  intro X hP hw hK hc i pins s σ H E I hf ⟨q1,q2,⟨u,v,q3⟩,q4,q5⟩ ⟨xs,ys,sx,sy,hl⟩;subst hP hw hK;obtain⟨its,rv,p,_⟩:=I.tuple sx;obtain⟨its',O,p',_⟩:=I.tuple sy;have l1:=rv[1];have l2:=O[1];refine qaB (I.ok.hd hc) D q1 q2 q3 q4 q5 (kK p) (kK p') (by rcases hl with hl|hl;exact .inl (by simp;lia);exact .inr (by simp;lia)) λh1 kp=>#[rfl,YB (t':=s.toks) I hf λc o nc ho=>?_]
  exact kp c o (λq=>nc (by simp[q])) (λq=>nc (by simp[q])) (λq=>nc (by simp[q])) (λq=>nc (by simp[q])) ho
 self:=λ_ _ _ _ _ #[q1,_] h=>wpAny_pyIter_zip q1 h
def zipd:List D->List D->List D
 | x::xs,y::ys=>.tup [x,y]::zipd xs ys
 | _,_=>[]
theorem YF:∀ xs ys (i:Nat) d,(zipd xs ys)[i]?=!d->∃ x y,xs[i]?=!x/\ys[i]?=!y/\d=.tup [x,y]
 | [],_,_,_,h=>by simp[zipd]at h
 | _::_,[],_,_,h=>by simp[zipd]at h
 | x::xs,y::ys,0,d,h=>by simp[zipd]at h;exact#[x,y,rfl,rfl,h.symm]
 | x::xs,y::ys,i+1,d,h=>by
  obtain⟨u,v,e1,e2,e3⟩:=YF xs ys i d (by simpa[zipd]using h)
  exact#[u,v,by simpa using e1,by simpa using e2,e3]
theorem YG:∀ xs ys i,(zipd xs ys)[1]<=i->xs[1]<=i\/ys[1]<=i
 | [],_,_,_=>.inl "s"
 | _::_,[],_,_=>.inr "s"
 | x::xs,y::ys,0,h=>by simp[zipd]at h
 | x::xs,y::ys,i+1,h=>by
  have:=YG xs ys i (by simpa[zipd]using h)
  simpa using this
def qaF{κ:Kx}(h1:SqT κ.K F1 a vs)(z:Reps κ F1 vs ds)(h2:SqT κ.K F1 b us)(B:Reps κ F1 us es):Walk κ (Itz κ.K a b) F1 G (zipd ds es)where
 go:=λi x F H ed l1 l lg=>by
  obtain⟨d,e,e1,e2,rfl⟩:=YF ds es i x ed;obtain⟨v,ev,rv⟩:=Reps.get z e1;obtain⟨u,eu,ru⟩:=Reps.get B e2;have q1:=SqT.le l (SqT.le l1 h1);have q2:=SqT.le l (SqT.le l1 h2);refine#[#[vs,v,us,u,q1,ev,q2,eu],λy H' zp=>?_]
  obtain⟨p,y1,y2,hp,rfl,rfl,w1,w2⟩:=zp;have z1:=w1 vs q1;rw[ev]at z1;cases z1;have z2:=w2 us q2;rw[eu]at z2;cases z2;have up:Le F (upd F p (.tup [v,u])):=λc o zp=>by rw[qu (jH zp (Le.none l hp))];exact zp
  exact#[_,Gr.newF l hp,p,[v,u],rfl,.inl (.inl qP),_,_,rfl,Rep.le up d (Rep.le l1 d rv),_,_,rfl,Rep.le up e (Rep.le l1 e ru),rfl]
 stop:=λi F H hi l1 l lg=>#[vs,us,SqT.le l (SqT.le l1 h1),SqT.le l (SqT.le l1 h2),by rw[Reps.length z,Reps.length B];exact YG ds es i hi]
def u9(i j:Nat):IF:=λρ=>match ρ[i]?,ρ[j]? with
 | some (!(.tup ds)[8]),!(!(.tup es)[8])=>.ok (zipd ds es)
 | _,_=>.stuck
def qaG(i j){X:Cx}{k:Nat}(hm:X.mg "zip"=none)(hN:(Nm X i x)["t"])(U:(X.N[j]?=!y)["r"])(Y:(Vis X.env.scope y)["t"])(Z:((y==("__debug__"))=false)["d"])
  (O:((y==("__classdict__"))=false)["d"])(hg:(Gl X "zip")["r"])(hs:(starEach [.Name x pos,.Name y pos2] X.env=(false,eval (.Name x pos) X.env)::starEach [.Name y pos2] X.env)["r"])(hs2:(starEach [.Name y pos2] X.env=[(false,eval (.Name y pos2) X.env)])["r"])
  (hpl:((backTo cp (starEach [.Name y pos2] X.env)).any (·.1)=false)["r"]):SI X F0 H0 (.Tuple es k tp) (.Call (.Name "zip" np) [.Name x pos,.Name y pos2] [] cp) (u9 i j):=by
 refine#[λσ H R=>∃ a b,σ[i]?=!(!(.ref a))/\σ[j]?=!(!(.ref b))/\(∃ xs,SqT X.K H a xs)/\(∃ xs,SqT X.K H b xs)/\R (Itz X.K a b) H,λpins s σ H R I #[a,b,hσ,hσ2,#[xs,hq],#[ys,B],hR]=>?_,λσ F H ρ R S h=>?_]
 .refine Call_ (zL I hg hm boot_zip (tD ?_ hs hpl));refine t5 (thn (pvN (pos:=pos) hN pins s σ H (λv' H'=>v'=.ref a/\H'=H) I #[_,hσ,rfl,rfl]) λu s1 #[v1,H1,I1,r1,e1,e2]=>?_)
  subst e1 e2;obtain rfl:u=Value.ref a:=r1;refine t5 (thn (Wf (pos:=pos2) U Y Z O pins s1 σ H1 (λv' H'=>v'=.ref b/\H'=H1) I1 #[_,hσ2,rfl,rfl]) λu s2 #[v2,H2,I2,r2,e1,e2]=>?_)
  subst e1 e2;obtain rfl:u=Value.ref b:=r2;refine tN ?_;obtain⟨its,rv,p,hz⟩:=I2.tuple hq;obtain⟨its',rv',p',hz'⟩:=I2.tuple B;refine qaD (kK p) (kK p') λh' g1 g2 g3 g4 g5 kp=>?_
  refine wpAny_pyIter_zip (s:={s2 with heap:=h'}) g1 ?_;have la:a<s2[0]:=by obtain⟨o,q,_⟩:=p;exact gU q
  have lb:b<s2[0]:=by obtain⟨o,q,_⟩:=p';exact gU q
  have z:∀{t m},t<m->∀ k,t≠m+k:=λh k=>t7 (tu h (Nat.le_add_right _ _))
  refine#[_,_,_,_,H2,rfl,I2.kept (t':=s2.toks) kp,qaE a b (s2[0]+4) (s2[0]+2) (s2[0]+3) s2[0] (s2[0]+1) #[by simp,?_,?_],#[g1,g2,#[_,_,g3],g4,g5],λc hc=>?_,hR]
  .simp[gG,p9,bN,not_or];exact#[z la 4,z la 2,z la 3,z la 0,z la 1]
  .simp[gG,p9,bN,not_or];exact#[z lb 4,z lb 2,z lb 3,z lb 0,z lb 1]
  have lc:s2[0]<=c:=by
   simp[gG,p9,bN]at hc;rcases hc with rfl|rfl|rfl|rfl|rfl<;>lia
  exact I2.fpOk lc (I2.hok.fresh lc)
 unfold u9 at h;cases e1:ρ[i]? with
 | none=>rw[e1]at h;exact h.elim
 | some w1 =>
  cases e2:ρ[j]? with
  | none=>rw[e1,e2]at h;cases w1 with|none=>cases h|some w=>cases w<;>first|exact h.elim|(rename_i d;cases d<;>exact h.elim)
  | some w2 =>
   rw[e1,e2]at h;cases w1 with
   | none=>cases h
   | some w1 =>
    cases w1<;>first|exact h.elim|skip
    rename_i d1;cases d1<;>first|exact h.elim|skip
    cases w2 with
    | none=>cases h
    | some w2 =>
     cases w2<;>first|exact h.elim|skip
     rename_i d2;cases d2<;>first|exact h.elim|skip
     obtain⟨v,q1,a,vs,rfl,hq,rs⟩:=S.val i _ e1;obtain⟨v2,q2,b,vs2,rfl,B,rs2⟩:=S.val j _ e2;exact#[a,b,q1,q2,#[vs,SqT.le S.s hq],#[vs2,SqT.le S.s B],h F H _ (Gr.refl S.s) (qaF (κ:=kx X) hq rs B rs2)]
section
variable{X:Cx}
def YH:zM X (.type "tuple") yo:=kn GR λF H xs ds Q l qx w=>by
 cases qx with
 | nil=>exact w.elim
 | @cons x d xs ds q1 q2 =>
  cases q2 with
  | cons _ _=>cases d<;>exact w.elim
  | nil =>
   cases d<;>first|exact w.elim|skip
   .obtain⟨p,vs,rfl,hq,B,rs⟩:=RdV.tup l q1;exact#[p,vs,rfl,.inr #[hq,w _ F H (Gr.refl l) #[p,vs,rfl,B,rs]]]
   obtain⟨p,vs,rfl,hq,rs⟩:=RdV.lst l q1;refine#[p,vs,rfl,.inl #[hq,λq hn=>?_]]
   have up:Le F (upd F q (.tup vs)):=λc o z=>by rw[qu (jH z (Le.none l hn))];exact z
   exact w _ _ _ (Gr.newF l hn) #[q,vs,rfl,.inl (.inl qP),Reps.le up _ rs]
end
def qaH:typeLookup (.type "list_reverseiterator") "__len__"=pure none:=by rw[typeLookup_type,builtinLookup_eq_fast];kernel_rfl
def qaI:typeLookup (.type "list_reverseiterator") "__length_hint__"=pure (!(.builtin "list_reverseiterator.__length_hint__")):=by rw[typeLookup_type,builtinLookup_eq_fast];kernel_rfl
def qaJ:isSubtype (.type "list_reverseiterator") (.type "list_reverseiterator")=pure true:=by rw[isSubtype_type];kernel_rfl
def qia:splitId "list_reverseiterator.__length_hint__"=!("list_reverseiterator","__length_hint__"):=by decide +kernel
section
variable{prog:ag}{w:World}{A:aj}{E:aa->ab->Prop}{s:ab}{I l:Addr}{items:Array aa}
def qaK{R:Result->ab->Prop}{z:Nat}(Y:A.in1.handled=none)(Z:s.heap.IsList l items)(O:s.heap.IsRevIter I l ((items.size)-1))(ne:l≠I)(s1:S≠l)(U:S≠I)(hn:items.size<=sizeLine)
  (gS:s.heap.get? S=↑#[.type "list",none,.seq #[] z,#[]])
  (hR:∀ s' B c',Moved [S,I] (λa b=>b=a) s s'->s'.heap.get? S=some {cls:=.type "list",dict:=none,data:=.seq B c',slots:=#[]}->ItemsOf (λi v=>items[items.size-1-i]?=!v) B items.size->R (.ok (.ret .none)) s') :
  wpAny (model prog w) A.in1 (Builtin.List.listExtendWith (.ref S) (.ref I) .none)
   (λy t=>match y with|.done f=>R (.ok f) t|.again q=>q.quiet=true/\codeAny (model prog w) A q R t) (λe t=>R (.error e) t) s:=by
 have W:=(Walks.listRev (prog:=prog) (w:=w) (A:=A.in1) Y I l ne items).toS;have T:=O.typeIs
 delta Builtin.List.listExtendWith;refine gg (wpAny_typeOf T ?_)
 have q1:Builtin.List.listSameRef (.ref S) (.ref I)=false:=by simp[Builtin.List.listSameRef,U]
 have q3:(Value.type "list_reverseiterator"==Value.type "tuple")=false:=by decide
 simp only[q1,q3,Bool.or_false,f8,cK];refine gg (bw O ?_);refine gg (fS ?_);refine gg (wpAny_specialOf T qaH ?_);refine gg (wpAny_specialOf T qaI ?_);refine gg (wpAny_isInstance T qaJ ?_);refine gC ?_;refine gC #[cq F.plain_extend_loop _,codeAny_extend_loopS W hn S (by simp[s1,U]) .none items.size 0 s #[] z rfl (tK _) #[tK _,by simpa using O,Z] gS (ItemsOf.nil _) hR]
def qaL{K:aa->ab->Prop}(U:A.handled=none)(B:s.heap.IsList l items)(O:s.heap.IsRevIter I l ((items.size)-1))(ne:l≠I)(Y:items.size<=sizeLine)
  (Z:∀ h' tk c,(∀ b o,b≠I->s.heap.get? b=!o->h'.get? b=!o)->h'.get? s[0]=some {cls:=.type "list",dict:=none,data:=.seq items[2].reverse.toArray c,slots:=#[]}->K (.ref s[0]) {s with heap:=h',toks:=tk}) :
  wpAny (model prog w) A (call (.type "list") [.ref I]) K E s:=by
 obtain⟨oI,gI,rI⟩:=id O;obtain⟨oL,gL,rL⟩:=id B;have nI:s[0]≠I:=c6 (gU gI);have nL:s[0]≠l:=c6 (gU gL);refine callType_codes (Q₁:=λob t=>ob=.ref s[0]/\t={s with heap:=s.heap.push {cls:=.type "list",data:=.seq #[]}}) F.called_list (F.typeCall_list_1 _) F.entry_list_init (code_list_new _ #[rfl,rfl]) λob t h1=>?_
 obtain⟨rfl,rfl⟩:=h1;have gS:(s.heap.push {cls:=.type "list",data:=.seq #[]}).get? s[0]=some {cls:=.type "list",data:=.seq #[]}:=gN _ rfl;refine#[#[_,gS,rfl],F.args_list_init_2 _ _,?_];refine gg (m:=Builtin.List.listItems (.ref s[0])) (wpAny_listItems gS rfl (gg (m:=updateSeq s[0] λ_=>#[]) (cF gS rfl (gg (pR ?_)))))
 have g2:=f9 (Obj.mapSeq λ_=>(#[])) gS rfl
 have kp:∀ b o,b≠s[0]->s.heap.get? b=!o->((s.heap.push {cls:=.type "list",data:=.seq #[]}).update s[0] (Obj.mapSeq λ_=>(#[]))).get? b=↑o :=
  λb o nb e=>(tR _ _ (tm nb)).trans (gy _ e)
 refine qaK (A:=A.in1) U (B.at λo e=>kp l o (tm nL) e) (O.at λo e=>kp I o (tm nI) e) ne nL nI Y g2 λs' z c mv gA ia=>#[rfl,?_]
 have ea:z=items[2].reverse.toArray:=by
  refine Array.ext_getElem? λi=>?_
  by_cases c:i<items.size
  .have:=ia.2 i (z[i]'(by rw[ia.1];exact c)) (Array.getElem?_eq_getElem _)
   rw[Array.getElem?_eq_getElem (by rw[ia.1];exact c),<- this]
   simp[List.getElem?_toArray];rw[List.getElem?_reverse c[""]]
   simp
  rw[dQ (by rw[ia.1];lia),dQ (by simp;lia)]
 subst ea;obtain⟨h',g',d',t',os'⟩:=s';obtain⟨mh,mg,md,mo,mt⟩:=mv;dsimp only at mh mg md mo gA;subst mg md mo;exact Z h' t' c (λb o nb e=>mh b o (by simp[nb,t7 (gU e)]) (kp b o (t7 (gU e)) e)) gA
end
def ZD(f:EF):EF:=λρ=>(f ρ).bind λw=>match w.d with
 | .lst ds=>.ok (.lst ds.reverse)[9]
 | _=>.stuck
theorem YI:∀{ds} {vs},Reps κ F vs ds->Reps κ F vs.reverse ds.reverse
 | [],vs,h=>by cases (show vs=[]from h);exact h
 | d::r,vs,h=>by
  obtain⟨v,us,rfl,q1,q2⟩:=h;simp[bX];exact Reps.append (YI q2) (Reps.one q1)
section
variable{X:Cx}{F0 H0:Hp}{p p2 c1 c2:Pos}
def qaM(Z:"S" e f)(hm:X.mg "list"=none)(z:X.mg "reversed"=none)(hc:(X.calm=true)["r"])(hg:(Gl X "list")["r"])(B:(Gl X "reversed")["r"])
  (U:(starEach [e] X.env=[(false,eval e X.env)])["r"])(O:(starEach [.Call (.Name "reversed" p2) [e] [] c2] X.env=[(false,eval (.Call (.Name "reversed" p2) [e] [] c2) X.env)])["r"]) :
  "S" (.Call (.Name "list" p) [.Call (.Name "reversed" p2) [e] [] c2] [] c1) (ZD f):=by
 refine λpins s σ F H ρ Q S I h=>fB (zL I hg hm cV (tD ?_ O rfl))
 refine t5 ?_;refine fB (zL I B z PyProof.Rows.boot_reversed (tD ?_ U rfl));rw[U];refine t5 (Z pins s σ F H ρ _ S I ((KE.bind h).imp λw k v u F1 H1 s1 g1 q1 r1 I1=>tN ?_))
 have qx:=Vok.rd q1
 revert k qx
 generalize w.d=d;intro k qx;cases d<;>first|exact k.elim|skip
 rename_i ds;obtain⟨a,vs,rfl,hq,rs⟩:=RdV.lst g1.s qx;cases r1;obtain⟨its,rv,pl,hz⟩:=I1.list hq;have hl:=pl.isList;have Y:=rv[1];refine call_reversed_list hl (tN ?_);have na:a≠s1[0]:=by
  obtain⟨o,go,_⟩:=hl;exact t7 (gU go)
 refine qaL (I:=s1[0]) (l:=a) (items:=its.toArray) (I1.ok.hd hc) (hl.at λo e=>gy _ e) #[_,gN _ rfl,rfl,rfl] na (by rw[gZ];lia) λh' tk c kp gA=>?_
 have lt:s1[0]<=(s1.heap.push (revObj a ((its.toArray.size)-1))).objs.size:=by rw[cR];exact bF _
 have hn:=I1.hok.fresh lt;refine k (.ref _) _ F1 _ _ (g1.trans (Gr.new g1.s hn)) #[_,.lst vs.reverse,rfl,Le.none g1.h hn,Le.none g1.s hn,qP,YI rs] rfl (I1.laid (t':=tk) (λb o e=>kp b o (t7 (gU e)) (gy _ e)) lt ?_)
 exact#[by simpa using hz,its.reverse,c,rv.reverse,by simpa using gA]
variable{pos:Pos}
end
section
open PySem.SeqAt PySem.MeetsSeq PySem.MeetsSeq2 PySem.MeetsSeq3
open PySem.AutoSeq1 (wpAny_loadPart')
end
section
variable{X:Cx}
end
def fzIn(F H:Hp)(bs:List Addr):Hp:=λa=>if a∈bs then H a else F a
section
variable{κ:Kx}{F0 H0 F H:Hp}{ρ:Rho}{σ:St}
theorem Inn.repT:∀{bs} {kds},Inn κ H0 F H bs (kds.map Prod.snd)->(∀ b∈bs,G b=H b)->Le F G->RepT κ G ((kds.map Prod.fst).zip (bs.map V.ref)) kds
 | [],[],_,_,_=>rfl
 | [],_::_,h,_,_=>h.elim
 | _::_,[],h,_,_=>h.elim
 | b::bs,(k0,e)::es,h,k,l=>by
  obtain⟨⟨us,xs,e1,_,_,hh,r⟩,h⟩:=h;subst e1;exact#[.ref b,(es.map Prod.fst).zip (bs.map V.ref),rfl,#[b,us,rfl,SqL.of ((k b "s").trans hh),Reps.le l _ r],Inn.repT h (λc m=>k c (gu _ m)) l]
theorem Inn.len:∀{bs} {ds},Inn κ H0 F H bs ds->bs[1]=ds[1]
 | [],[],_=>rfl
 | [],_::_,h=>h.elim
 | _::_,[],h=>h.elim
 | b::bs,e::es,h=>by rw[gQ,gQ,Inn.len h.2]
def StOk.shutG{i:Nat}(S:StOk κ F0 H0 F H ρ σ)(ei:ρ[i]?=!(!(.od d)))
  (ow:∀ a bs o,Deep κ H0 F H a bs d->(∀ c∈bs,fzIn F H bs c=H c)->Le F (fzIn F H bs)->H a=!o->OwnO κ (fzIn F H bs) o d'):∃ F',Le F F'/\StOk κ F0 H0 F' H (ρ.set i (!d'[9])) σ:=by
 obtain⟨sh,a,bs,si,h0,hf,nd,dp,sp⟩:=S.dp i d ei;have na:=(tJ.mp nd).1;have B:∀{c},c∉bs->fzIn F H bs c=F c:=λ{c} n=>if_neg n
 have inn:∀{c},c∈bs->fzIn F H bs c=H c:=λ{c} n=>if_pos n
 have l:Le F (fzIn F H bs):=λc u h=>by
  by_cases m:c∈bs
  .rw[inn m];exact S.s c u h
  rw[B m];exact h
 have own:∀{o},H a=!o->OwnO κ (fzIn F H bs) o d':=λ{o} ho=>ow a bs o dp (λc m=>inn m) l ho
 refine#[fzIn F H bs,l,#[#[Le.trans S.gr.f l,S.gr.h,λc u h=>?_,λc h=>?_],by simpa using S.len,λj w e=>?_,λj k w w' c O ej ek oj ok sj sk=>?_,λj y e=>?_]]
 .by_cases m:c∈bs
  .rw[inn m]at h;exact h
  rw[B m]at h;exact S.s c u h
 .by_cases m:c∈bs
  .obtain⟨us,z,_⟩:=Deep.inn dp m;exact .inr (.inl z)
  rw[B m]at h;exact S.gr.n c h
 .rcases qB e with⟨rfl,z⟩|⟨ne,z⟩
  .cases z;obtain⟨o,ho,_⟩:=Deep.top dp;exact#[_,si,a,o,rfl,h0,by rw[B na];exact hf,ho,own ho]
  obtain⟨v,e1,q⟩:=S.val j w z;refine#[v,e1,?_];have nb:∀{c},v=.ref c->w.own=true->c∉bs:=λ{c} ev ow m=>by
   subst ev;exact sp j w c ne z ow (gu _ m) e1
  cases w with
  | fz d=>exact Rep.le l d q
  | br d=>obtain⟨c,oc,ec,eh,cr⟩:=q;exact#[c,oc,ec,eh,OwnO.le l cr]
  | ow d=>obtain⟨c,oc,ec,c0,cf,ch,cr⟩:=q;exact#[c,oc,ec,c0,by rw[B (nb ec rfl)];exact cf,ch,OwnO.le l cr]
  | lk d=>exact#[Rep.le l d q.1,RawT.le l q.2]
  | od d=>exact(sh j d ne z).elim
 .have at_:∀{m:Nat} {y},(ρ.set i (!d'[9]))[m]?=!(!y)->y.own=true->∃ y',ρ[m]?=!(!y')/\y'.own=true:=λ{m y} h oy=>by
   rcases qB h with⟨rfl,_⟩|⟨_,z⟩
   .exact#[_,ei,rfl]
   exact#[y,z,oy]
  obtain⟨y,U,Y⟩:=at_ ej oj;obtain⟨y',Z,ok'⟩:=at_ ek ok;exact S.sep j k y y' c O U Z Y ok' sj sk
 rcases qB e with⟨_,z⟩|⟨ne,z⟩
 .lia
 exact(sh j y ne z).elim
def StOk.shut{i:Nat}(S:StOk κ F0 H0 F H ρ σ)(B:ρ[i]?=!(!(.od d)))(O:∀ k,d≠.dK k)(U:∀ k,d≠.tup k):∃ F',Le F F'/\StOk κ F0 H0 F' H (ρ.set i (!d[9])) σ :=
 S.shutG B λa bs o dp z l ho=>by
  cases d<;>first|exact(False.elim dp)|exact(O _ rfl).elim|exact(U _ rfl).elim|skip
  .have e:=dp.1;rw[ho]at e;cases e;exact Inn.reps dp.2 (λb m=>z b m) l
  have e:=dp.1;rw[ho]at e;cases e;exact Inn.repT dp.2 (λb m=>z b m) l
def vM(i:Nat)(ρ:Rho):Bool:=(ρ.set i none).all λo=>match o with|some (.od _)=>false|_=>true
def YJ(h:vM i ρ=true):shal i ρ:=λj d hj e=>by
 have m:(ρ.set i none)[j]?=!(!(.od d)):=by rw[hU (tm hj)];exact e
 have:=tV.mp h _ (hV m);cases this
def StOk.open0{i:Nat}(S:StOk κ F0 H0 F H ρ σ)(U:ρ[i]?=!(!d[9]))(hd:d=.lst []\/d=.dT [])(sh:shal i ρ):StOk κ F0 H0 F H (ρ.set i (!(.od d))) σ:=by
 obtain⟨v,si,a,o,rfl,h0,hf,hh,ro⟩:=S.val i _ U;have dp:Deep κ H0 F H a [] d:=by
  rcases hd with rfl|rfl
  .cases o<;>first|exact ro.elim|skip
   cases (ro);exact#[hh,trivial]
  cases o<;>first|exact ro.elim|skip
  cases (ro);exact#[hh,trivial]
 have at_:∀{m:Nat} {y},(ρ.set i (!(.od d)))[m]?=!(!y)->y.own=true->∃ y',ρ[m]?=!(!y')/\y'.own=true:=λ{m y} h oy=>by
  rcases qB h with⟨rfl,_⟩|⟨_,z⟩
  .exact#[_,U,rfl]
  exact#[y,z,oy]
 refine#[S.gr,by simpa using S.len,λj w e=>?_,λj k w w' c Y ej ek oj ok sj sk=>?_,λj y e=>?_]
 .rcases qB e with⟨rfl,z⟩|⟨ne,z⟩
  .cases z;exact#[_,si,a,o,rfl,h0,hf,hh,OwnO.noTup ro]
  exact S.val j w z
 .obtain⟨y,Z,oj'⟩:=at_ ej oj;obtain⟨y',B,O⟩:=at_ ek ok;exact S.sep j k y y' c Y Z B oj' O sj sk
 rcases qB e with⟨rfl,z⟩|⟨ne,z⟩
 .cases z;refine#[λk z hk ek=>?_,a,[],si,h0,hf,by simp,dp,λk w b hk ek ok m sk=>?_]
  .rcases qB ek with⟨rfl,_⟩|⟨_,q⟩
   .exact hk rfl
   exact sh k z hk q
  obtain rfl:b=a:=by simpa using m
  obtain⟨y',B,O⟩:=at_ ek ok;exact S.sep k j y' _ b hk B U O rfl sk si
 exact(sh j y ne z).elim
def StOk.turn{d d':D}{a:Addr}{bs bs':List Addr}{H':Hp}(S:StOk κ F0 H0 F H ρ σ)(ei:ρ[i]?=!(!(.od d)))(si:σ[i]?=!(!(.ref a)))(Z:shal i ρ)
  (sp:∀ j w b,j≠i->ρ[j]?=!(!w)->w.own=true->b∈a::bs->σ[j]?≠!(!(.ref b)))
  (B:∀ c,c∉a::bs'->H' c=H c)(sub:∀ b∈bs',b∈bs\/∀(j:Nat) w,ρ[j]?=!(!w)->w.own=true->σ[j]?≠!(!(.ref b)))
  (h0:∀ c∈a::bs',H0 c=none)(hf:∀ c∈a::bs',F c=none)(nd:(a::bs').Nodup)(dp:Deep κ H0 F H' a bs' d'):StOk κ F0 H0 F H' (ρ.set i (!(.od d'))) σ:=by
 have O:∀ j w b,j≠i->ρ[j]?=!(!w)->w.own=true->b∈a::bs'->σ[j]?≠!(!(.ref b)):=λj w b hj ej ow m=>by
  rcases gG.mp m with rfl|m
  .exact sp j w _ hj ej ow "s"
  rcases sub b m with z|z
  .exact sp j w b hj ej ow (gu _ z)
  exact z j w ej ow
 have at_:∀{m:Nat} {y},(ρ.set i (!(.od d')))[m]?=!(!y)->y.own=true->∃ y',ρ[m]?=!(!y')/\y'.own=true:=λ{m y} h oy=>by
  rcases qB h with⟨rfl,_⟩|⟨_,z⟩
  .exact#[_,ei,rfl]
  exact#[y,z,oy]
 have U:∀{c u},H0 c=!u->c∉a::bs':=λ{c u} e m=>by rw[h0 c m]at e;cases e
 have Y:∀{c u},F c=!u->c∉a::bs':=λ{c u} e m=>by rw[hf c m]at e;cases e
 refine#[#[S.gr.f,λc u h=>(B c (U h)).trans (S.gr.h c u h),λc u h=>(B c (Y h)).trans (S.s c u h),S.gr.n],by simpa using S.len,λj w e=>?_,λj k w w' c hjk ej ek oj ok sj sk=>?_,λj y e=>?_]
 .rcases qB e with⟨rfl,z⟩|⟨ne,z⟩
  .cases z;obtain⟨o,ho,nt⟩:=Deep.top dp;exact#[_,si,a,o,rfl,h0 a "s",hf a "s",ho,nt]
  obtain⟨v,e1,q⟩:=S.val j w z;refine#[v,e1,?_];have nb:∀{c},v=.ref c->w.own=true->c∉a::bs':=λ{c} ev ow m=>by
   subst ev;exact O j w c ne z ow m e1
  cases w with
  | fz d=>exact q
  | br d=>exact q
  | ow d=>obtain⟨c,oc,ec,c0,cf,ch,cr⟩:=q;exact#[c,oc,ec,c0,cf,(B c (nb ec rfl)).trans ch,cr]
  | lk d=>exact q
  | od d=>exact(Z j d ne z).elim
 .obtain⟨y,ej',oj'⟩:=at_ ej oj;obtain⟨y',ek',ok'⟩:=at_ ek ok;exact S.sep j k y y' c hjk ej' ek' oj' ok' sj sk
 rcases qB e with⟨rfl,z⟩|⟨ne,z⟩
 .cases z;refine#[λk z hk ek=>?_,a,bs',si,h0 a "s",hf a "s",nd,dp,λk w b hk ek ok m=>?_]
  .rcases qB ek with⟨rfl,_⟩|⟨_,q⟩
   .exact hk rfl
   exact Z k z hk q
  rcases qB ek with⟨rfl,_⟩|⟨_,q⟩
  .exact(hk rfl).elim
  exact O k w b hk q ok m
 exact(Z j y ne z).elim
theorem Inn.app(U:Rep κ F y d):∀{bs} {ds} {k},Inn κ H0 F H bs ds->bs.Nodup->bs[k]?=↑b ->
  ∃ us xs,ds[k]?=!(.lst xs)/\H b=!(.lst us)/\us[1]=xs[1]/\Inn κ H0 F (upd H b (.lst (us++[y]))) bs (ds.set k (.lst (xs++[d])))
 | [],_,_,_,_,e=>by simp at e
 | _::_,[],_,h,_,_=>h.elim
 | c::bs,e::es,0,h,nd,ek=>by
  obtain⟨⟨us,xs,e1,c0,cf,ch,r⟩,h⟩:=h;obtain rfl:c=b:=by simpa using ek
  subst e1;have nb:=(tJ.mp nd).1;exact#[us,xs,rfl,ch,Reps.length r,#[us++[y],xs++[d],rfl,c0,cf,qP,Reps.append r (Reps.one U)],(Inn.same (G:=H) (G':=H) (λx m=>(qu λz=>nb (by rw[<- z];exact m)).symm) (λ_ _ z=>z) Le.refl h)]
 | c::bs,e::es,k+1,h,nd,ek=>by
  obtain⟨⟨us,xs,e1,c0,cf,ch,r⟩,h⟩:=h;obtain⟨nb,nd⟩:=tJ.mp nd;obtain⟨B,O,q1,q2,q3,q4⟩:=Inn.app U h nd ek[""]
  exact#[B,O,by simpa using q1,q2,q3,#[us,xs,e1,c0,cf,(qu λz=>nb (by rw[z];exact(hV ek[""]))).trans ch,r],q4]
theorem Inn.snoc(h0:H0 b=none)(z:F b=none)(B:H b=!(.lst us))(r:Reps κ F us xs):∀{bs} {ds},Inn κ H0 F H bs ds->Inn κ H0 F H (bs++[b]) (ds++[.lst xs])
 | [],[],_=>#[#[us,xs,rfl,h0,z,B,r],trivial]
 | [],_::_,h=>h.elim
 | _::_,[],h=>h.elim
 | _::_,_::_,h=>#[h.1,Inn.snoc h0 z B r h.2]
end
def scal:D->Bool
 | .non=>true
 | .bl _=>true
 | .int _=>true
 | .str _=>true
 | _=>false
def ZE:En->R En
 | .fz x=>if scal x=true then .ok x[8]else .stuck
 | _=>.stuck
def wc(i:Nat)(e:EF):EF:=λρ=>match ρ[i]? with
 | some (!(.od (.dK _)))=>.stuck
 | some (!(.od (.tup _)))=>.stuck
 | some (!(.od d))=>(e (ρ.set i (!d[9]))).bind ZE
 | _=>.stuck
section
variable{X:Cx}{F0 H0:Hp}{pos pos':Pos}
def YK(i)(B:"S" e f):"S" e (wc i f):=by
 intro pins s σ F H ρ Q S I h
 delta wc at h
 split at h
 .exact h.elim
 .exact h.elim
 .rename_i d nk nt ei;obtain⟨F',l,S'⟩:=S.shut ei (λk z=>nk k (by rw[z])) (λk z=>nt k (by rw[z]))
  refine B pins s σ F' H _ _ S' I ((KE.bind h).imp λw k v u F2 H2 s2 g q r I2=>?_)
  cases w<;>first|exact k.elim|skip
  rename_i x
  delta ZE at k
  dsimp only at k;by_cases c:scal x=true
  .rw[if_pos c]at k;refine k v u F H2 s2 #[Le.refl,g.h,Le.trans S.s g.h,λ_ z=>.inl z] ?_ r I2
   cases x<;>first|exact q|cases c
  rw[if_neg c]at k;exact k.elim
 exact h.elim
def shut(i:Nat)(ρ:Rho):Rho:=match ρ[i]? with
 | some (!(.od (.dK _)))=>ρ
 | some (!(.od (.tup _)))=>ρ
 | some (!(.od d))=>ρ.set i (!d[9])
 | _=>ρ
def y3(i:Nat)(s:SF):SF:=λρ=>s (shut i ρ)
def YL{st:Stmt}(i)(h:SS X F0 H0 st f):SS X F0 H0 st (y3 i f):=by
 intro pins s σ F H ρ D S I k
 delta y3 L3.shut at k
 split at k
 .exact h pins s σ F H ρ D S I k
 .exact h pins s σ F H ρ D S I k
 .rename_i d nk nt e;obtain⟨F',l,S'⟩:=S.shut e (λk z=>nk k (by rw[z])) (λk z=>nt k (by rw[z]))
  exact h pins s σ F' H _ D S' I (PostS.le l k)
 exact h pins s σ F H ρ D S I k
def yC(i:Nat)(ρ:Rho):En->Out
 | .ow (.lst [])=>if vM i ρ=true then .nx (ρ.set i (!(.od (.lst []))))else .stuck
 | .ow (.dT [])=>if vM i ρ=true then .nx (ρ.set i (!(.od (.dT []))))else .stuck
 | _=>.stuck
def yD(i:Nat)(e:EF):SF:=λρ=>sOf (e ρ) (yC i ρ)
def YM(i)(B:X.N.Nodup)(O:"S" e f)(hi:(X.N[i]?=!x)["r"])(U:(Loc X.env.scope x)["t"])
  (Y:(swapsWith e (!(.Name x pos')) pos.line X.env=pure false)["r"])(Z:(X.fn x=true\/X.env.scope.names.lookup x=some .local)["t"]) :
  SS X F0 H0 (.Assign [.Name x pos'] e pos) (yD i f):=by
 refine λpins s σ F H ρ D S I h=>dU (O pins s σ F H ρ _ S I ((PostS.of h).imp λw k v u F' H' s' g q r I'=>?_)) Y
 have go:∀ d,w=.ow d->(d=.lst []\/d=.dT [])->vM i ρ=true->PostS X F0 H0 F D (.nx (ρ.set i (!(.od d))))->X[3] (storeName X.env x u) (λ_ s2=>SP X pins D .next s2) X.xe s':=λd ew hd z k3=>by
  subst ew;refine yZ I' B hi U r (λs2 I2=>?_) Z
  have S1:=S.setW (i:=i) g q rfl;by_cases hl:i<ρ.length
  .have S2:=S1.open0 (List.getElem?_set_self hl) hd λj y hj ej=>by
    rw[hU (tm hj)]at ej;exact YJ z j y hj ej
   rw[bM]at S2;exact#[_,H',I2,k3 _ F' H' g.f S2]
  have e0:∀ y,ρ.set i y=ρ:=λy=>List.set_eq_of_length_le ""
  rw[e0]at S1 k3;exact#[_,H',I2,k3 _ F' H' g.f S1]
 cases w<;>first|cases k|skip
 rename_i d;cases d<;>first|exact k.elim|skip
 .rename_i xs;cases xs with
  | cons _ _=>cases k
  | nil =>
   delta yC at k
   dsimp only at k;by_cases c:vM i ρ=true
   .rw[if_pos c]at k;exact go _ rfl (.inl rfl) c k
   rw[if_neg c]at k;cases k
 rename_i xs;cases xs with
 | cons _ _=>cases k
 | nil =>
  delta yC at k
  dsimp only at k;by_cases c:vM i ρ=true
  .rw[if_pos c]at k;exact go _ rfl (.inr rfl) c k
  rw[if_neg c]at k;cases k
end
def QG(i:Nat)(ρ:Rho)(ds:List D):En->Out
 | .ow (.lst es)=>if ds[1]<sz then .nx (ρ.set i (!(.od (.lst (ds++[.lst es])))))else .stuck
 | _=>.stuck
def kL(i:Nat)(e:EF):SF:=λρ=>match ρ[i]? with
 | some (!(.od (.lst ds)))=>sOf (e ρ) (QG i ρ ds)
 | _=>.stuck
def QH(i:Nat)(ρ:Rho)(ds:List D)(k:Nat)(d:D):Option D->Out
 | some (.lst xs)=>if xs[1]<sz then .nx (ρ.set i (!(.od (.lst (ds.set k (.lst (xs++[d])))))))else .stuck
 | _=>.stuck
def yE(i:Nat)(ρ:Rho)(ds:List D):En->En->Out
 | .fz k[6],.fz d=>if 0<=k then QH i ρ ds k.toNat d ds[k.toNat]? else .stuck
 | _,_=>.stuck
def wJ(i:Nat)(z e:EF):SF:=λρ=>match ρ[i]? with
 | some (!(.od (.lst ds)))=>sOf (z ρ) λwk=>sOf (e ρ) λw=>yE i ρ ds wk w
 | _=>.stuck
def qaN{i:Nat}{P:Out->Prop}(z:P .stuck->False):∀{wk w},P (yE i ρ ds wk w)->∃ kk xs,wk=.fz kk[6]/\0<=kk/\ds[kk.toNat]?=!(.lst xs)/\xs[1]<sz:=by
 intro wk w k;have go:∀ kk d,P (yE i ρ ds kk[7] d[8])->0<=kk/\∃ xs,ds[kk.toNat]?=!(.lst xs)/\xs[1]<sz:=λkk d k=>by
  delta yE at k
  dsimp only at k;by_cases c:0<=kk
  .rw[if_pos c]at k;refine#[c,?_];generalize ds[kk.toNat]?=o at k;cases o with
   | none=>exact(z k).elim
   | some y =>
    cases y with
    | lst xs =>
     delta QH at k
     by_cases c2:xs[1]<sz
     .exact#[xs,rfl,c2]
     simp_all
    | _=>exact(z k).elim
  simp_all
 cases wk with
 | fz d =>
  cases d with
  | int kk =>
   cases w with
   | fz y=>obtain⟨c,xs,h1,h2⟩:=go kk y k;exact#[kk,xs,rfl,c,h1,h2]
   | _=>exact(z k).elim
  | _=>exact(z k).elim
 | _=>exact(z k).elim
section
variable{X:Cx}{F0 H0:Hp}{pos:Pos}
def qaO(i){x:Str}{apos cpos np:Pos}(he:"S" e f)(hN:(Nm X i x)["t"])(O:(attributeBase (.Name x np) "append" X.env (eval (.Name x np) X.env)=eval (.Name x np) X.env)["r"])
  (Y:(((backTo cpos (starEach [e] X.env)).all (λx=>not x.1)&&(backToKw cpos (keywordEach [] X.env)).all (λx=>x.1.isSome)
   && decide ([e].length+([]:List Keyword)[1]+(if ([]:List Keyword).isEmpty then 0 else 1)<30))=true)["r"])
  (U:((apos.endLine==cpos.line)=true)["r"]) (Z:(starEach [e] X.env=(false,eval e X.env)::starEach [] X.env)["r"]) (B:((backTo cpos (starEach [] X.env)).any (·.1)=false)["r"])
  (hs:(swapsWith (.Call (.Attribute (.Name x np) "append" apos) [e] [] cpos) none pos.line X.env=pure false)["r"]) :
  SS X F0 H0 (.Expr (.Call (.Attribute (.Name x np) "append" apos) [e] [] cpos) pos) (kL i f):=by
 intro pins s σ F H ρ D S I h
 delta kL at h
 split at h
 .rename_i ds ei;have h:=PostS.of h;obtain⟨sh,a,bs,si,h0,hf,nd,dp,sp⟩:=S.dp i _ ei;have P:=k8 (pos:=pos) (wP (X:=X) fK cD cE xD (pvN (pos:=np) hN) (zo (jd (e:=e)) vC Z) O Y U Z B) hs;refine P pins s σ H D I #[_,si,.inl #[rfl,bs.map V.ref,SqL.of dp.1],he.sem S (h.imp λw k y F1 H1 g1 q1=>?_)]
  cases w<;>first|exact k.elim|skip
  rename_i d;cases d<;>first|exact k.elim|skip
  delta QG at k
  dsimp only at k;by_cases c:ds[1]<sz
  .rw[if_pos c]at k;obtain⟨b,o,rfl,b0,bf,bh,rb⟩:=q1;cases o<;>first|exact rb.elim|skip
   have lb:bs[1]=ds[1]:=Inn.len dp.2;have nb:b∉a::bs:=λm=>by
    rcases gG.mp m with rfl|m
    .rw[dp.1]at b0;cases b0
    obtain⟨_,_,_,z⟩:=Deep.inn dp m;lia
   have nab:a≠b:=λz=>nb (by rw[z];simp)
   refine#[a,bs.map V.ref,.ref b,rfl,rfl,g1.h _ _ dp.1,by rw[gj,lb,<- zO];exact c,?_]
   refine k σ _ _ g1.f ((S.grow g1).turn (bs:=bs) (bs':=bs++[b]) ei si sh sp (λz hz=>qu λe=>hz (by rw[e];simp)) (λz hz=>?_) (λz hz=>?_) (λz hz=>?_) ?_ #[?_,?_])
   .rcases gD.mp hz with hz|hz
    .exact .inl hz
    obtain rfl:z=b:=by simpa using hz
    refine .inr λj w ej ow sj=>?_
    obtain⟨u,e2⟩:=S.ownAt ej ow sj
    simp_all
   .rcases gG.mp hz with rfl|hz
    .exact h0
    rcases gD.mp hz with hz|hz
    .obtain⟨_,e2,_⟩:=Deep.inn dp hz;exact e2
    obtain rfl:z=b:=by simpa using hz
    exact Le.none S.gr.h b0
   .rcases gG.mp hz with rfl|hz
    .exact g1.no hf dp.1
    rcases gD.mp hz with hz|hz
    .obtain⟨_,_,e2,e3⟩:=Deep.inn dp hz;exact g1.no e2 e3
    obtain rfl:z=b:=by simpa using hz
    exact bf
   .have nd2:((a::bs)++[b]).Nodup:=fL.mpr #[nd,by simp,λx hx y hy e=>by
     obtain rfl:y=b:=by simpa using hy
     exact nb (by rw[<- e];exact hx)]
    exact nd2
   .rw[qP,tw];rfl
   refine Inn.same (G:=H) (G':=H) (H:=H1) (λz hz=>(qu λe=>?_).symm) (λ_ _ q=>q) Le.refl (Inn.snoc (Le.none S.gr.h b0) bf bh rb (Inn.gr g1 dp.2))
   subst e;rcases gD.mp hz with hz|hz
   .exact(tJ.mp nd).1 hz
   exact nab hz[""]
  rw[if_neg c]at k;exact k.elim
 exact h.elim
def YN(i){x:Str}{apos cpos np Y:Pos}(hk:"S" ek fk)(he:"S" e f)(hsx:ym ek:=by exact λ_ _=>rfl)(hN:(Nm X i x)["t"])(O:(attributeBase (.Subscript (.Name x np) ek Y) "append" X.env (eval (.Subscript (.Name x np) ek Y) X.env)=eval (.Subscript (.Name x np) ek Y) X.env)["r"])
  (Z:(((backTo cpos (starEach [e] X.env)).all (λx=>not x.1)&&(backToKw cpos (keywordEach [] X.env)).all (λx=>x.1.isSome)
   && decide ([e].length+([]:List Keyword)[1]+(if ([]:List Keyword).isEmpty then 0 else 1)<30))=true)["r"])
  (U:((apos.endLine==cpos.line)=true)["r"]) (hst:(starEach [e] X.env=(false,eval e X.env)::starEach [] X.env)["r"]) (B:((backTo cpos (starEach [] X.env)).any (·.1)=false)["r"])
  (hs:(swapsWith (.Call (.Attribute (.Subscript (.Name x np) ek Y) "append" apos) [e] [] cpos) none pos.line X.env=pure false)["r"]) :
  SS X F0 H0 (.Expr (.Call (.Attribute (.Subscript (.Name x np) ek Y) "append" apos) [e] [] cpos) pos) (wJ i fk f):=by
 intro pins s σ F H ρ D S I h
 delta wJ at h
 split at h
 .rename_i ds ei;have h:=PostS.of h;obtain⟨sh,a,bs,si,h0,hf,nd,dp,sp⟩:=S.dp i _ ei;have P:=k8 (pos:=pos) (wP (X:=X) fK cD cE xD (Gy (pos:=Y) ix_list (pvN (pos:=np) hN) (jd (e:=ek)) hsx) (zo (jd (e:=e)) vC hst) O Z U hst B) hs;refine P pins s σ H D I #[_,si,hk.sem S (h.imp λwk k y F1 H1 g1 q1=>?_)]
  have k:=PostS.of k;have h3:∃ kk xs,wk=.fz kk[6]/\0<=kk/\ds[kk.toNat]?=!(.lst xs)/\xs[1]<sz:=by
   cases fe:f ρ with
   | exc _=>rw[fe]at k;cases k
   | stuck=>rw[fe]at k;cases k
   | ok w =>
    rw[fe]at k;exact qaN (P:=PostS X F0 H0 F D) (λz=>z) k
  obtain⟨kk,xs,rfl,c0,ed,c2⟩:=h3;obtain rfl:y=V.int kk:=q1;have lb:bs[1]=ds[1]:=Inn.len dp.2;have kl:kk.toNat<bs[1]:=by rw[lb];exact(gw.mp ed).1
  have eb:bs[kk.toNat]?=!bs[kk.toNat]:=gJ kl;generalize bs[kk.toNat]=b at eb;have mb:b∈bs:=hV eb;have at_:atI (bs.map V.ref) kk=!(.ref b):=by
   delta atI ixN
   rw[if_pos c0,if_pos (by rw[gj];lia),pY,gM,eb]
   rfl
  obtain⟨us0,_,_,hb⟩:=Deep.inn dp mb;refine#[a,bs.map V.ref,kk,.ref b,rfl,rfl,SqL.of (g1.h _ _ dp.1),at_,.inl #[rfl,us0,SqL.of (g1.h _ _ hb)],he.sem (S.grow g1) (k.imp λw k y F2 H2 g2 q2=>?_)]
  cases w<;>first|cases k|skip
  rename_i d
  delta yE at k
  dsimp only at k;rw[if_pos c0,ed]at k
  delta QH at k
  dsimp only at k;rw[if_pos c2]at k;have G:=g1.trans g2;obtain⟨ndA,ndB⟩:=tJ.mp nd;obtain⟨us,xs',e1,e2,e3,inn⟩:=Inn.app (y:=y) (d:=d) q2 (Inn.gr G dp.2) ndB eb;rw[ed]at e1;cases e1;refine#[b,us,y,rfl,rfl,e2,by rw[e3,<- zO];exact c2,?_]
  refine k σ _ _ G.f ((S.grow G).turn (bs:=bs) (bs':=bs) ei si sh sp (λz hz=>qu λe=>hz (by rw[e];exact gu _ mb)) (λz hz=>.inl hz) (λz hz=>?_) (λz hz=>?_) nd #[?_,inn])
  .rcases gG.mp hz with rfl|hz
   .exact h0
   obtain⟨_,e4,_⟩:=Deep.inn dp hz;exact e4
  .rcases gG.mp hz with rfl|hz
   .exact G.no hf dp.1
   obtain⟨_,_,e4,e5⟩:=Deep.inn dp hz;exact G.no e4 e5
  exact(qu λe=>ndA (by rw[e];exact mb)).trans (G.h _ _ dp.1)
 cases h
end
section
variable{prog:ag}{w:World}{K:Type} [DecidableEq K]{knd:HeapKind prog w K}{A:aj}{E:aa->ab->Prop}{s:ab}{d a:Addr}{k:K}{xs:List (K×Addr×aa)}{dv:aa}
def qaP(U:knd.room A)(O:knd.is s.heap k a)(Y:s.heap.DictOfH knd d xs)(hz:xs[1]<=sizeLine)
  (h1:∀ p,atKey xs k=!p->Q p.2 {s with toks:=s.toks+knd.draws k})
  (h2:atKey xs k=none->∀ h',h'.DictOfH knd d (storedH xs k a dv)->Heap.SameBut d s.heap h'->Q dv {s with heap:=h',toks:=s.toks+knd.draws k}) :
  wpAny (model prog w) A (dictSetDefault d (.ref a) dv) Q E s:=by
 obtain⟨o,es,ep,go,gc,gd,ge,gi,gn⟩:=Y;have z:=size_of_entries ge;refine fS (gg (knd.pyHash U O (gg (wpAny_dictFind_heap U O go gd ge gi gn (λno=>?_) λj p hj=>?_))))
 .have B:=atKey_none_of_get no;have nk:k∉xs.map (·.1):=not_mem_keys_of_get no
  have sn:=storedH_new (a:=a) B;refine gg (pX (gg (wpAny_updateDictKeys (hz:=by lia) (s:={s with toks:=s.toks+knd.draws k}) go gd (gC (h2 B _ ?_ (pp ..))))))
  rw[sn];refine#[_,_,ep+1,f9 _ go (Obj.isFreed_of_dict (Obj.data_mapDictKeys gd _)),gc.mapDictKeys _,Obj.data_mapDictKeys gd _,by simp[ge,entryOfKey],λx hx=>?_,?_]
  .have hx:x∈xs\/x=(k,a,dv):=by simpa using hx
   rcases hx with hx|rfl
   .exact knd.keeps (gi x hx) go gd (pp ..)
   exact knd.keeps O go gd (pp ..)
  rw[tw];refine fL.mpr #[gn,by simp,λx hx y hy e=>nk ?_]
  have hy:y=k:=by simpa using hy
  rw[<- hy,<- e];exact hx
 have ak:=atKey_of_get gn hj;refine gg (dX (s:={s with toks:=s.toks+knd.draws k}) go gd ?_);rw[entry_at ge j,hj];exact gg (pX (gC (h1 p ak)))
def qaQ(hd:(d==sysModules)=false)(B:knd.room A.in1)(O:knd.is s.heap k a)(z:s.heap.DictOfH knd d xs)(hz:xs[1]<=sizeLine)
  (h1:∀ p,atKey xs k=!p->Q p.2 {s with toks:=s.toks+knd.draws k})
  (h2:atKey xs k=none->∀ h',h'.DictOfH knd d (storedH xs k a dv)->Heap.SameBut d s.heap h'->Q dv {s with heap:=h',toks:=s.toks+knd.draws k}) :
  wpAny (model prog w) A (call (.builtin "dict.setdefault") [.ref d,.ref a,dv]) Q E s:=by
 have ty:=z.typeIs;refine p7 PySem.F.slot_dict_setdefault ty PySem.F.entry_dict_setdefault ?_ (PySem.F.args_dict_setdefault_3 _ _ _);refine gg (gg (wpAny_notOrdered_dict ty (gC ?_)));show wpAny _ _ (if (d==sysModules)=true then _ else(dictSetDefault d (.ref a) dv >>= _)) _ _ s
 rw[if_neg (by rw[hd];decide)]
 exact gg (qaP B O z hz (λp e=>gC #[_,rfl,h1 p e]) λe h' q sb=>gC #[_,rfl,h2 e h' q sb])
end
def rSd:V->List V->Hp->VK->Prop:=λx vs H Q=>∃ a kvs k b y,x=.ref a/\vs=[.ref b,y]/\H a=!(.dT kvs)/\H b=!(.tup (k.map kV))/\kvs[1]<sizeLine/\(∀ v,js kvs k=!v->Q v H)/\(js kvs k=none->Q y (upd H a (.dT (jN kvs k y))))
section
variable{X:Cx}
def qaR(Z:X.A.units+1<cLine):MtR X "dict.setdefault" rSd:=by
 intro pins s σ H x vs v us Q I rx rv h;obtain⟨a,kvs,k,b,y,rfl,rfl,hH,hb,hl,q1,q2⟩:=h;cases rx;obtain⟨u1,u2,rfl,Y,O⟩:=rv.two;cases Y;obtain⟨z,hd,xs,B,dd⟩:=WG I.hok hH;have hz:xs[1]<=sizeLine:=by rw[<- dG B];exact z
 have hp:(jN kvs k y)[1]<=sizeLine:=by have:=JZ kvs k y;lia
 refine qaQ hd (dI Z) (Q2 I.hok hb) dd hz (λp e=>?_) λe h' U sb=>?_
 .have r:=B.val k;rw[e]at r;cases ev:js kvs k with
  | none=>rw[ev]at r;exact r.elim
  | some v =>
   rw[ev]at r;exact#[v,H,I.tok _,r,q1 v ev]
 have r:=B.val k;rw[e]at r;have ev:js kvs k=none:=by
  cases ev:js kvs k with
  | none=>rfl
  | some v=>rw[ev]at r;exact r.elim
 obtain⟨q,es,ep,hq,g2,g3,g4,_,g5⟩:=U;refine#[y,_,Z1 (ob:=.dT (jN kvs k y)) I (by rw[hH];exact True.intro) sb #[q,hq] #[hp,hd,_,(B.put k hb O).keeps λc ys ec=>?_,q,es,ep,hq,g2,g3,g4,g5],O,q2 ev]
 rw[qu (Wc ec hH λz=>nomatch z)]
 exact ec
end
def QJ:D->D->D
 | .lst xs,d=>.lst (xs++[d])
 | e,_=>e
def zV(key:List (Sum Int Str))(d:D):List (List (Sum Int Str)×D)->List (List (Sum Int Str)×D)
 | []=>[(key,.lst [d])]
 | (k,e)::r=>if k=key then(k,QJ e d)::r else(k,e)::zV key d r
theorem ZF(key):∀ kds (bs:List Addr),bs[1]=kds[1] ->
  (js ((kds.map Prod.fst).zip (bs.map V.ref)) key=none/\∀ d,zV key d kds=kds++[(key,.lst [d])]) \/
  ∃ j b e,bs[j]?=!b/\(kds.map Prod.snd)[j]?=!e/\js ((kds.map Prod.fst).zip (bs.map V.ref)) key=↑(.ref b) /\
   ∀ d,(zV key d kds).map Prod.fst=kds.map Prod.fst/\(zV key d kds).map Prod.snd=(kds.map Prod.snd).set j (QJ e d)
 | [],[],_=>.inl #[rfl,λ_=>rfl]
 | [],_::_,h=>by cases h
 | _::_,[],h=>by cases h
 | (k,e)::r,b::bs,h=>by
  by_cases c:k=key
  .refine .inr #[0,b,e,rfl,rfl,xE c,λd=>?_]
   unfold zV;rw[if_pos c];exact#[rfl,rfl]
  have nv:js ((((k,e)::r).map Prod.fst).zip ((b::bs).map V.ref)) key=js ((r.map Prod.fst).zip (bs.map V.ref)) key:=xF c;rcases ZF key r bs h[""]with⟨h1,h2⟩|⟨j,b',e',h1,h2,h3,h4⟩
  .refine .inl #[nv.trans h1,λd=>?_]
   unfold zV
   simp_all
  refine .inr #[j+1,b',e',by simpa using h1,by simpa using h2,nv.trans h3,λd=>?_]
  unfold zV
  simp_all
def kN:D->Bool
 | .lst xs=>decide (xs[1]<sz)
 | _=>false
def YO(i:Nat)(ρ:Rho)(kds:List (List (Sum Int Str)×D))(key:List (Sum Int Str)):En->Out
 | .fz d=>.nx (ρ.set i (!(.od (.dT (zV key d kds)))))
 | _=>.stuck
def kO(i:Nat)(e:EF)(ρ:Rho)(kds:List (List (Sum Int Str)×D))(key:List (Sum Int Str)):En->Out
 | .ow (.lst [])=>if kds[1]<sz/\key[1]<=sz/\(kds.all λkv=>kN kv.2)=true then sOf (e (ρ.set i none)) (YO i ρ kds key)else .stuck
 | _=>.stuck
def YQ(i:Nat)(z e:EF)(ρ:Rho)(kds:List (List (Sum Int Str)×D)):Option (List (Sum Int Str))->Out
 | some key=>sOf (z ρ) (kO i e ρ kds key)
 | none=>.stuck
def sSd(i:Nat)(ks:List EF)(z e:EF):SF:=λρ=>match ρ[i]? with
 | some (!(.od (.dT kds)))=>sOf (evs ks ρ) λws=>YQ i z e ρ kds (jQ (ws.map En.d))
 | _=>.stuck
def StOk.drop(i)(S:StOk κ F0 H0 F H ρ σ):StOk κ F0 H0 F H (ρ.set i none) σ:=by
 have at_:∀{m:Nat} {y},(ρ.set i none)[m]?=!(!y)->ρ[m]?=!(!y):=λ{m y} h=>by
  rcases qB h with⟨_,z⟩|⟨_,z⟩
  .lia
  exact z
 refine#[S.gr,by simpa using S.len,λj w e=>S.val j w (at_ e),λj k w w' c B ej ek=>S.sep j k w w' c B (at_ ej) (at_ ek),λj y e=>?_]
 obtain⟨s1,a,bs,e1,h0,hf,nd,dp,sp⟩:=S.dp j y (at_ e);exact#[λk z hk ek=>s1 k z hk (at_ ek),a,bs,e1,h0,hf,nd,dp,λk w b hk ek=>sp k w b hk (at_ ek)]
def Inn.short_at{κ:Kx}{H0 F H:Hp}{kds:List (List (Sum Int Str)×D)}{j:Nat}{e:D}(h:(kds.all λkv=>kN kv.2)=true)(B:(kds.map Prod.snd)[j]?=!e):∃ xs,e=.lst xs/\xs[1]<sz:=by
 rw[gM]at B;obtain⟨kv,hk,rfl⟩:=cW.mp B;have:=tV.mp h kv (hV hk)
 revert this
 cases kv.2<;>intro z<;>first|exact#[_,rfl,of_decide_eq_true z]|cases z
section
variable{X:Cx}{F0 H0:Hp}{pos:Pos}
def qaS(i){x:Str}{Z B ap2 cp2 np tp:Pos}{ks:List Expr}{Y e:Expr}{n:Nat}{fk:List EF}{fl f:EF}(hu:X.A.units+10<cLine)(hk:SA X F0 H0 ks fk)(hl:"S" Y fl)(he:"S" e f)
  (hN:(Nm X i x)["t"])
  (hb1:(attributeBase (.Name x np) "setdefault" X.env (eval (.Name x np) X.env)=eval (.Name x np) X.env)["r"])
  (hf1:(((backTo B (starEach [.Tuple ks n tp,Y] X.env)).all (λx=>not x.1)&&(backToKw B (keywordEach [] X.env)).all (λx=>x.1.isSome)
   && decide ([.Tuple ks n tp,Y].length+([]:List Keyword)[1]+(if ([]:List Keyword).isEmpty then 0 else 1)<30))=true)["r"])
  (hl1:((Z.endLine==B.line)=true)["r"]) (hs1:(starEach [.Tuple ks n tp,Y] X.env=(false,eval (.Tuple ks n tp) X.env)::starEach [Y] X.env)["r"]) (hs2:(starEach [Y] X.env=(false,eval Y X.env)::starEach [] X.env)["r"])
  (hp1:((backTo B (starEach [Y] X.env)).any (·.1)=false)["r"])
  (hb2:(attributeBase (.Call (.Attribute (.Name x np) "setdefault" Z) [.Tuple ks n tp,Y] [] B) "append" X.env (eval (.Call (.Attribute (.Name x np) "setdefault" Z) [.Tuple ks n tp,Y] [] B) X.env)=eval (.Call (.Attribute (.Name x np) "setdefault" Z) [.Tuple ks n tp,Y] [] B) X.env)["r"])
  (hf2:(((backTo cp2 (starEach [e] X.env)).all (λx=>not x.1)&&(backToKw cp2 (keywordEach [] X.env)).all (λx=>x.1.isSome)
   && decide ([e].length+([]:List Keyword)[1]+(if ([]:List Keyword).isEmpty then 0 else 1)<30))=true)["r"])
  (hl2:((ap2.endLine==cp2.line)=true)["r"]) (hs3:(starEach [e] X.env=(false,eval e X.env)::starEach [] X.env)["r"]) (hp2:((backTo cp2 (starEach [] X.env)).any (·.1)=false)["r"])
  (hs:(swapsWith (.Call (.Attribute (.Call (.Attribute (.Name x np) "setdefault" Z) [.Tuple ks n tp,Y] [] B) "append" ap2) [e] [] cp2) none pos.line X.env=pure false)["r"]) :
  SS X F0 H0 (.Expr (.Call (.Attribute (.Call (.Attribute (.Name x np) "setdefault" Z) [.Tuple ks n tp,Y] [] B) "append" ap2) [e] [] cp2) pos) (sSd i fk fl f):=by
 intro pins s σ F H ρ D S I h
 delta sSd at h
 split at h
 .rename_i kds ei;have h:=PostS.of h;obtain⟨sh,a,bs,si,h0,hf,nd,dp,sp⟩:=S.dp i _ ei;obtain⟨ha,U⟩:=dp;have P:=k8 (pos:=pos) (wP (X:=X) fK cD cE xD
   (wP (X:=X) cL PySem.F.slot_dict_setdefault PySem.F.type_dict_setdefault (qaR "o") (pvN (pos:=np) hN) (zo (jd (e:=.Tuple ks n tp)) (zo (jd (e:=Y)) vC hs2) hs1) hb1 hf1 hl1 hs1 hp1)
   (zo (jd (e:=e)) vC hs3) hb2 hf2 hl2 hs3 hp2) hs
  refine P pins s σ H D I #[_,si,.inr (.inr (.inl #[rfl,.inr #[_,ha]])),QC hk S (h.imp λws k1 vs F1 H1 p g1 q1 hp=>?_)]
  cases ek:jQ (ws.map En.d)with
  | none=>rw[ek]at k1;cases k1
  | some key =>
   rw[ek]at k1;have ev:=xZ q1 ek;subst ev;have k2:=PostS.of (show PostS X F0 H0 F D (sOf (fl ρ) (kO i f ρ kds key))from k1)
   have g2:=Gr.new (o:=.tup (key.map kV)) g1.s hp;have G2:=g1.trans g2;have h6:kds[1]<sz/\key[1]<=sz/\(kds.all λkv=>kN kv.2)=true:=by
    cases fe:fl ρ with
    | exc _=>rw[fe]at k2;cases k2
    | stuck=>rw[fe]at k2;cases k2
    | ok w =>
     rw[fe]at k2;have k2:PostS X F0 H0 F D (kO i f ρ kds key w):=k2
     delta kO at k2
     split at k2
     .by_cases c:kds[1]<sz/\key[1]<=sz/\(kds.all λkv=>kN kv.2)=true
      .exact c
      rw[if_neg c]at k2;cases k2
     cases k2
   obtain⟨c1,c2,c3⟩:=h6;have lb:bs[1]=kds[1]:=(Inn.len U).trans "s"
   refine#[by rw[gj,<- zO];exact c2,hl.sem (S.grow G2) (k2.imp λw k3 y F3 H3 g3 q3=>?_)]
   unfold kO at k3;split at k3
   .rw[if_pos #[c1,c2,c3]]at k3;have k3:=PostS.of k3;obtain⟨b,o,rfl,b0,bf,bh,rb⟩:=q3;cases o<;>first|exact rb.elim|skip
    cases (show _=[]from rb)
    have G3:=G2.trans g3;have S3:=S.grow G3;have O:H b=none:=Le.none G2.h b0;have nb:b∉a::bs:=λm=>by
     rcases gG.mp m with rfl|m
     .rw[ha]at O;cases O
     obtain⟨_,_,_,z⟩:=Inn.at U m;rw[z]at O;cases O
    have nab:a≠b:=λz=>nb (by rw[z];simp)
    have ntp:H3 p=!(.tup (key.map kV)):=g3.h _ _ qP;refine#[a,_,key,p,.ref b,rfl,rfl,G3.h _ _ ha,ntp,by rw[List.length_zip,gj,gj,lb,Nat.min_self,<- zO];exact c1,λv ev=>?_,λev=>?_]
    .rcases ZF key kds bs lb with⟨z,_⟩|⟨j,b',e',m1,m2,m3,m4⟩
     .rw[ev]at z;cases z
     rw[ev]at m3;cases m3;obtain⟨xs0,rfl,lx⟩:=Inn.short_at (κ:=kx X) (H0:=H0) (F:=F) (H:=H) c3 m2;have mb:b'∈bs:=hV m1;obtain⟨us0,_,_,hb⟩:=Inn.at U mb;refine#[.inl #[rfl,us0,SqL.of (G3.h _ _ hb)],he.sem (S3.drop i) (k3.imp λw k4 y F4 H4 g4 q4=>?_)]
     cases w<;>first|cases k4|skip
     rename_i d;have k4:PostS X F0 H0 F D (.nx (ρ.set i (!(.od (.dT (zV key d kds)))))):=k4;have G4:=G3.trans g4;obtain⟨ndA,ndB⟩:=tJ.mp nd;obtain⟨us,xs',e1,e2,e3,h4⟩:=Inn.app (y:=y) (d:=d) q4 (Inn.gr G4 U) ndB m1;rw[m2]at e1;cases e1;obtain⟨s1,s2⟩:=m4 d;refine#[b',us,y,rfl,rfl,e2,by rw[e3,<- zO];exact lx,?_]
     refine k4 σ _ _ G4.f ((S.grow G4).turn (bs:=bs) (bs':=bs) ei si sh sp (λz hz=>qu λe=>hz (by rw[e];exact gu _ mb)) (λz hz=>.inl hz) (λz hz=>?_) (λz hz=>?_) nd #[?_,?_])
     .rcases gG.mp hz with rfl|hz
      .exact h0
      obtain⟨_,e4,_⟩:=Inn.at U hz;exact e4
     .rcases gG.mp hz with rfl|hz
      .exact G4.no hf ha
      obtain⟨_,_,e4,e5⟩:=Inn.at U hz;exact G4.no e4 e5
     .rw[qu λe=>ndA (by rw[e];exact mb),s1]
      exact G4.h _ _ ha
     rw[s2];exact h4
    rcases ZF key kds bs lb with⟨_,app⟩|⟨j,b',e',_,_,z,_⟩
    .have pk:=GZ (V.ref b) ev;rw[pk];have h5:(kds.map Prod.fst).zip (bs.map V.ref)++[(key,V.ref b)]=((kds++[(key,L3.D.lst [])]).map Prod.fst).zip ((bs++[b]).map V.ref):=by
      rw[tw,tw,List.zip_append (by rw[gj,gj,lb])]
      rfl
     have nd2:(a::(bs++[b])).Nodup:=by
      have:((a::bs)++[b]).Nodup:=fL.mpr #[nd,by simp,λx hx y hy e=>by
       obtain rfl:y=b:=by simpa using hy
       exact nb (by rw[<- e];exact hx)]
      exact this
     have all0:∀ z∈a::(bs++[b]),H0 z=none/\F3 z=none:=λz hz=>by
      rcases gG.mp hz with rfl|hz
      .exact#[h0,G3.no hf ha]
      rcases gD.mp hz with hz|hz
      .obtain⟨_,e4,e5,e6⟩:=Inn.at U hz;exact#[e4,G3.no e5 e6]
      obtain rfl:z=b:=by simpa using hz
      exact#[Le.none S.gr.h O,bf]
     have h3:Inn (kx X) H0 F3 (upd H3 a (.dT ((kds.map Prod.fst).zip (bs.map V.ref)++[(key,V.ref b)]))) (bs++[b]) ((kds++[(key,L3.D.lst [])]).map Prod.snd):=by
      rw[tw];refine Inn.same (G:=H) (G':=H) (H:=H3) (λz hz=>(qu λe=>?_).symm) (λ_ _ q=>q) Le.refl (Inn.snoc (Le.none S.gr.h O) bf bh (show Reps (kx X) F3 [] []from rb) (Inn.gr G3 U))
      subst e;exact(tJ.mp nd2).1 hz
     have S4:=S3.turn (bs:=bs) (bs':=bs++[b]) (d':=.dT (kds++[(key,.lst [])])) (H':=upd H3 a (.dT ((kds.map Prod.fst).zip (bs.map V.ref)++[(key,V.ref b)]))) ei si sh sp (λz hz=>qu λe=>hz (by rw[e];simp)) (λz hz=>by
       rcases gD.mp hz with hz|hz
       .exact .inl hz
       obtain rfl:z=b:=by simpa using hz
       refine .inr λj w ej ow sj=>?_
       obtain⟨u,e2⟩:=S.ownAt ej ow sj;rw[O]at e2;cases e2) (λz hz=>(all0 z hz).1) (λz hz=>(all0 z hz).2) nd2 #[by rw[qP,h5],h3]
     have SD:=S4.drop i;rw[bM]at SD;have bh4:(upd H3 a (.dT ((kds.map Prod.fst).zip (bs.map V.ref)++[(key,V.ref b)]))) b=!(.lst []):=(qu (tm nab)).trans bh;refine#[.inl #[rfl,[],SqL.of bh4],he.sem SD (k3.imp λw k4 y F4 H4 g4 q4=>?_)]
     cases w<;>first|cases k4|skip
     rename_i d;have k4:PostS X F0 H0 F D (.nx (ρ.set i (!(.od (.dT (zV key d kds)))))):=k4;have i4:i<ρ.length:=(gw.mp ei).1;have S5:=S4.grow g4;have ei5:(ρ.set i (!(.od (.dT (kds++[(key,.lst [])])))))[i]?=!(!(.od (.dT (kds++[(key,.lst [])])))):=List.getElem?_set_self i4;have eb:(bs++[b])[bs[1]]?=!b:=by simp
     obtain⟨us,xs',e1,e2,e3,h4⟩:=Inn.app (y:=y) (d:=d) q4 (Inn.gr g4 h3) (tJ.mp nd2).2 eb;have eq0:((kds++[(key,L3.D.lst [])]).map Prod.snd)[bs[1]]?=!(.lst []):=by rw[lb];simp
     rw[eq0]at e1;cases e1;have us0:us=[]:=fm.mp e3;subst us0;refine#[b,[],y,rfl,rfl,e2,by rw[pE];decide,?_]
     have sh5:shal i (ρ.set i (!(.od (.dT (kds++[(key,.lst [])]))))):=λj z hj ej=>by
      rw[hU (tm hj)]at ej;exact sh j z hj ej
     have sp5:∀ j w c,j≠i->(ρ.set i (!(.od (.dT (kds++[(key,.lst [])])))))[j]?=!(!w)->w.own=true->c∈a::(bs++[b])->σ[j]?≠!(!(.ref c)):=λj w c hj ej ow m sj=>by
      rw[hU (tm hj)]at ej;rcases gG.mp m with rfl|m
      .exact sp j w _ hj ej ow "s" sj
      rcases gD.mp m with m|m
      .exact sp j w c hj ej ow (gu _ m) sj
      obtain rfl:c=b:=by simpa using m
      obtain⟨u,e2⟩:=S.ownAt ej ow sj;rw[O]at e2;cases e2
     have S6:=S5.turn (bs:=bs++[b]) (bs':=bs++[b]) (d':=.dT (zV key d kds)) (H':=upd H4 b (.lst ([]++[y]))) ei5 si sh5 sp5 (λz hz=>qu λe=>hz (by rw[e];simp)) (λz hz=>.inl hz) (λz hz=>(all0 z hz).1) (λz hz=>?_) nd2 #[?_,?_]
     .rw[bM]at S6;exact k4 σ _ _ (Le.trans G3.f g4.f) S6
     .rcases gG.mp hz with rfl|hz
      .exact g4.no (all0 _ "s").2 qP
      obtain⟨_,_,e5,e6⟩:=Inn.at h3 hz;exact g4.no e5 e6
     .rw[qu nab,g4.h _ _ qP,h5,app d];simp only[tw];rfl
     have es:(zV key d kds).map Prod.snd=((kds++[(key,L3.D.lst [])]).map Prod.snd).set bs[1] (.lst ([]++[d])):=by
      rw[app d,lb];simp
     rw[es];exact h4
    rw[ev]at z;cases z
   cases k3
 cases h
variable{prog:ag}{w:World}{A:aj}{E:aa->ab->Prop}{s:ab}{d it:Addr}{o:Obj}{es:Array DictEntry}{ep i:Nat}
def qaT(hd:(d==sysModules)=false)(B:s.heap.get? d=!o)(O:o.ExactDict)(z:o.data=.dict es ep)
  (h:Q (.ref s[0]) {s with heap:=s.heap.push {cls:=.type "dict_keyiterator",data:=.fields (List.toArray [.ref d,.int 0 0,.int es.size 0,.int ep 0])}}):wpAny (model prog w) A (pyIter (.ref d)) Q E s:=by
 have ty:s.TypeIs (.ref d) "dict":=#[o,B,O.1];refine wpAny_pyIter_slot ty PySem.F.slot_dict_iter (p7 PySem.F.slot_dict_iter ty PySem.F.entry_dict_iter ?_ (PySem.F.args_dict_iter_1 _));refine gg (gg (wpAny_notOrdered_dict ty (show wpAny _ _ (pure (Value.ref d)) _ _ s from gC (show wpAny _ _ (Builtin.Dict.showsAll d >>= _) _ _ s from ?_))))
 delta Builtin.Dict.showsAll
 rw[if_neg (by rw[hd];decide)]
 refine gg (gC (gg (dX B z (gg (wpAny_dictEpoch B z (gg (tZ (gC #[_,rfl,"dict_keyiterator",_,#[_,gN _ rfl,rfl],pV.lookup,?_]))))))));simpa[rawInt]using h
def YR(U:A.handled=none)(z:s.heap.IsKeyIter it d i es.size ep)(O:s.heap.get? d=!o)(B:o.data=.dict es ep)
  (h1:∀ e h',es[i]?=!e->h'.IsKeyIter it d (i+1) es.size ep->Heap.SameBut it s.heap h'->Q (!e.key) {s with heap:=h'})
  (h2:es[i]?=none->∀ h',Heap.ExtBut it s.heap h'->Q none {s with heap:=h'}):wpAny (model prog w) A (pyNext (.ref it)) Q E s:=by
 obtain⟨oi,gi,ci,di⟩:=id z;refine gg (mm (fJ (name:=Str.ofString "__next__") z.typeIs pV (p7 pV z.typeIs PySem.F.entry_dict_keyiterator_next ?_ (PySem.F.args_dict_keyiterator_next_1 _))));refine gg (gC (gg (gg ?_)))
 first|refine gg (cO z.typeIs (gC (gg (wpAny_fieldsOf gi di ?_))))|refine gg (dC z.typeIs (gC (gg (wpAny_fieldsOf gi di ?_))))
 refine gg (gC (gg (dX O B ?_)));rw[if_neg "s"]
 refine gg (gC (gg (wpAny_dictEpoch O B ?_)));rw[if_neg "s"]
 refine gC ?_;cases he:es[i]? with
 | none =>
  simp[show ¬ (i<0)by lia,cK,tY,he]
  refine gg ?_
  first|refine gg (cO z.typeIs (gC (show wpAny _ _ (setField (.ref it) 0 .none >>= _) _ _ s from gg (b8 gi di "s" ?_))))|refine gg (dC z.typeIs (gC (show wpAny _ _ (setField (.ref it) 0 .none >>= _) _ _ s from gg (b8 gi di "s" ?_))))
  show wpAny _ _ (newExc (.type "StopIteration") [] >>= _) _ _ _;refine gg ?_;simp[newExc,newTuple];refine gg (tZ (gg (m:=firstArgMember _ _) (wpAny_of_eq (a:=Value.none) (by first|rfl|(simp[firstArgMember];rfl)) (tZ ?_ (by size_fits)))) (by size_fits))
  simp only[raiseNew];refine gg (wpAny_handled ?_);rw[show A.in1.handled=none from U];refine gg (gC (wpAny_throw (gg ?_)))
  refine(wpAny_isInstance (T:="StopIteration") (b:=true) #[_,gN _ rfl,rfl] isSubtype_stop (gC (h2 he _ ?_)));exact((pp ..).extBut.push _).push _
 | some e =>
  simp[show ¬ (i<0)by lia,cK,tY,he]
  have nx:(s.heap.update it (Obj.mapFields (·.setIfInBounds 1 (rawInt (i+1))))).IsKeyIter it d (i+1) es.size ep :=
   #[_,f9 _ gi (Obj.isFreed_of_fields (dN di _)),(Obj.cls_mapFields ..).trans ci,by rw[dN di];simp[rawInt]]
  refine gg ?_
  first|refine gg (cO z.typeIs (gC (gg (bj z.typeIs ?_))))|refine gg (dC z.typeIs (gC (gg (bj z.typeIs ?_))))
  show wpAny _ _ (setField (.ref it) 1 (rawInt (i+1)) >>= _) _ _ s;refine gg (b8 gi di "s" (gg (fS (gg (bj (s:={s with heap:=s.heap.update it (Obj.mapFields (·.setIfInBounds 1 (rawInt (i+1))))}) nx.typeIs ?_)))))
  show wpAny _ _ (pure e.key) _ _ _;exact gC (gC #[_,rfl,gC (h1 e _ he nx (pp ..))])
end
def ItT(a:Addr)(ob:Obj):It:=#[λi H=>∃ kvs,H a=!(.frz ob (.dT kvs))/\i<kvs[1],
 λi H x H'=>H'=H/\∃ kvs k v q,H a=!(.frz ob (.dT kvs))/\kvs[i]?=!(k,v)/\x=.ref q/\H q=!(.tup (k.map kV)),λi H=>∃ kvs,H a=!(.frz ob (.dT kvs))/\kvs[1]<=i]
theorem YS{R:α->β->Prop}:∀{l} {m} {i:Nat} {x},Paired R l m->l[i]?=!x->∃ y,m[i]?=!y/\R x y
 | _,_,i,_,.nil,h=>by simp at h
 | _,_,0,x,.cons r t,h=>by simp at h;subst h;exact#[_,rfl,r]
 | _,_,i+1,x,.cons r t,h=>by
  obtain⟨y,e,q⟩:=YS t h[""]
  exact#[y,by simpa using e,q]
def qaU{K:Frag}{ob:Obj}{es:Array DictEntry}{ep:Nat}(h2:ob.data=.dict es ep):Turn P w K tg (ItT a ob) [it] it (λi h=>h.IsKeyIter it a i es.size ep)where
 mem:=by simp
 obj:=λi h st b hb=>by
  obtain⟨o,e,c,d⟩:=st
  simp_all
 keep:=λi h h' st k=>by
  obtain⟨o,e,r⟩:=st;exact#[o,k it "s" o e,r]
 item:=by
  intro X hP hw hK hc i pins s σ H E I hf st hg;obtain⟨kvs,hH,hi⟩:=hg;obtain⟨go,z,y,xs,r,o,O,U,e1,e2,e3,e4,e5⟩:=(show ObjOk X.prog X.w H s.heap a (.frz ob (.dT kvs))from I.hok a _ hH)
  rw[go]at e1;cases e1;rw[h2]at e3;cases e3;obtain⟨⟨k,q,u⟩,ex,ek,eq,eu⟩:=YS r (gJ hi);have ee:es[i]?=!(entryOfKey (tupleKind (jk X.prog X.w)) (k,q,u)):=by
   rw[<- Array.getElem?_toList,e4,gM,ex];rfl
  obtain⟨f0,f1,f2,f3,f4,f5⟩:=hf it "s"
  refine YR (I.ok.hd hc) st go h2 (λe h' he B sb=>?_) λhe=>by rw[ee]at he;cases he
  rw[ee]at he;cases he;have I1:"I" H {s with heap:=h'}:=I.turned (t':=s.toks) (λb o hb e=>(sb.2 b hb).trans e) f0 f1 f3 f4 f5
  obtain⟨o',e,c,d⟩:=id B;exact#[_,rfl,yi (s:={s with heap:=h'}) e c d "d" #[.ref q,H,I1,rfl,#[rfl,kvs,_,_,q,hH,gJ hi,rfl,eq],B,λb hb=>(hf b hb).1]]
 done:=by
  intro X hP hw hK hc i pins s σ H E I hf st hg;obtain⟨kvs,hH,hi⟩:=hg;obtain⟨go,z,y,xs,r,o,O,U,e1,e2,e3,e4,e5⟩:=(show ObjOk X.prog X.w H s.heap a (.frz ob (.dT kvs))from I.hok a _ hH)
  rw[go]at e1;cases e1;rw[h2]at e3;cases e3;have el:es.size=kvs[1]:=by
   have a1:es[2].length=xs[1]:=by rw[e4,gj]
   have a2:=dG r;simp at a1;lia
  obtain⟨f0,f1,f2,f3,f4,f5⟩:=hf it "s"
  refine YR (I.ok.hd hc) st go h2 (λe h' he _ _=>?_) λhe h' eb=>#[rfl,I.turned (t':=s.toks) (λb o hb e=>eb b o hb e) f0 f1 f3 f4 f5]
  rw[dQ ""]at he
  cases he
 self:=λ_ _ _ _ _ st h=>wpAny_pyIter_keyiter st h
def Gr.tup(s:Le F H){q:Addr}{xs:List V}(z:H q=!(.tup xs)):Gr F H (upd F q (.tup xs)) H:=by
 refine#[λa u h=>?_,Le.refl,λa u h=>?_,λa h=>?_]
 .by_cases e:a=q
  .subst e;have:=s a u h;rw[z]at this;cases this;exact qP
  rw[qu e];exact h
 .by_cases e:a=q
  .subst e;rw[qP]at h;cases h;exact z
  rw[qu e]at h;exact s a u h
 by_cases e:a=q
 .subst e;exact .inr (.inr #[xs,z])
 rw[qu e]at h;exact .inl h
def qaV:∀ k:List (Sum Int Str),Reps κ F (k.map kV) (k.map Qf):=λr=>r.rec
 (rfl)
 λx r IH=>#[kV x,r.map kV,rfl,by cases x<;>rfl,IH]
def YT(k:List (Sum Int Str)):D:=.tup (k.map Qf)
def iT(i:Nat):IF:=λρ=>match ρ[i]? with
 | some (!(.lk (.dT kds)))=>.ok (kds.map λkv=>YT kv.1)
 | _=>.stuck
theorem YU:∀{kds} {kvs} {i:Nat} {k} {d},RepT κ F kvs kds->kds[i]?=!(k,d)->∃ v,kvs[i]?=!(k,v)
 | [],_,i,_,_,_,h=>by simp at h
 | (q,e)::r,_,0,k,d,h,ek=>by
  obtain⟨v,kr,rfl,_,_⟩:=h;simp at ek;rw[<- ek.1];exact#[v,rfl]
 | (q,e)::r,_,i+1,k,d,h,ek=>by
  obtain⟨v,kr,rfl,_,h2⟩:=h;obtain⟨u,eu⟩:=YU h2 ek[""]
  exact#[u,by simpa using eu]
def si_T(i)(U:(Nm X i x)["t"]):SI X F0 H0 tg (.Name x pos) (iT i):=by
 refine#[λσ H R=>∃ a ob kvs,σ[i]?=!(!(.ref a))/\H a=!(.frz ob (.dT kvs))/\R (ItT a ob) H,λpins s σ H R I #[a,ob,kvs,hσ,hH,hR]=>?_,λσ F H ρ R S h=>?_]
 .refine thn (pvN (pos:=pos) U pins s σ H (λv' H'=>v'=.ref a/\H'=H) I #[_,hσ,rfl,rfl]) λu s1 #[v1,H1,I1,r1,e1,e2]=>?_
  subst e1 e2;obtain rfl:u=Value.ref a:=r1;obtain⟨go,z,y,xs,r,o,es,ep,g1,g2,g3,g4,g5⟩:=(show ObjOk X.prog X.w H1 s1.heap a (.frz ob (.dT kvs))from I1.hok a _ hH)
  rw[go]at g1;cases g1;refine qaT y go g2 g3 ?_;refine#[s1[0],[s1[0]],_,_,H1,rfl,I1.kept (t':=s1.toks) λb o e=>gy _ e,qaU g3,#[_,gN _ rfl,rfl,rfl],λb hb=>?_,hR]
  obtain rfl:b=s1[0]:=by simpa using hb
  exact I1.fpOk (gE _) (I1.hok.fresh (gE _))
 unfold iT at h;split at h
 .rename_i kds ei;obtain⟨v,e1,rp,a,ob,kvs,rfl,fa⟩:=S.val i _ ei;obtain⟨a',B,ea,rd,rt⟩:=rp;have ek:B=kvs:=by
   rcases rd with q|⟨_,q⟩
   .simp_all
   simp_all
  subst ek;refine#[a,ob,B,e1,S.s _ _ fa,?_];refine h F H _ (Gr.refl S.s) #[λj dd F2 H2 e l1 l2 _=>?_,λj F2 H2 hj l1 l2 _=>#[B,l2 _ _ (l1 _ _ fa),?_]]
  .rw[gM]at e;obtain⟨⟨k,d⟩,ek,rfl⟩:=cW.mp e;obtain⟨v,ev⟩:=YU rt ek;refine#[#[B,l2 _ _ (l1 _ _ fa),(gw.mp ev).1],λy H' hy=>?_]
   obtain⟨rfl,O,k2,v2,q,g1,g2,rfl,g3⟩:=hy;rw[l2 _ _ (l1 _ _ fa)]at g1;cases g1;rw[ev]at g2;cases g2;exact#[_,Gr.tup l2 g3,q,k.map kV,rfl,.inl (.inl qP),qaV k]
  rw[RepT.length rt];simpa using hj
 exact h.elim
section
variable{κ:Kx}{F0 H0 F H:Hp}{ρ:Rho}{σ:St}
def StOk.fix{i:Nat}(S:StOk κ F0 H0 F H ρ σ)(Z:ρ[i]?=!(!(.od (.dT kds)))):∃ a kvs,H a=↑(.dT kvs) /\
  ∀ ob,∃ F',Le F F'/\StOk κ F0 H0 F' (upd H a (.frz ob (.dT kvs))) (ρ.set i (!(.lk (.dT kds)))) σ:=by
 obtain⟨sh,a,bs,si,h0,hf,nd,⟨ha,U⟩,sp⟩:=S.dp i _ Z;have na:a∉bs:=(tJ.mp nd).1;refine#[a,_,ha,λob=>?_]
 generalize hk:(kds.map Prod.fst).zip (bs.map V.ref)=kvs at ha;have B:∀{c},c∉a::bs->upd (fzIn F H bs) a (.frz ob (.dT kvs)) c=F c:=λ{c} n=>by
  rw[qu λe=>n (by rw[e];simp)]
  exact if_neg λm=>n (gu _ m)
 have O:∀{c},c∈bs->upd (fzIn F H bs) a (.frz ob (.dT kvs)) c=H c:=λ{c} m=>by
  rw[qu λe=>na (by rw[<- e];exact m)]
  exact if_pos m
 have fn:∀ c∈a::bs,F c=none/\H0 c=none:=λc m=>by
  rcases gG.mp m with rfl|m
  .exact#[hf,h0]
  obtain⟨_,e1,e2,_⟩:=Inn.at U m;exact#[e2,e1]
 have l:Le F (upd (fzIn F H bs) a (.frz ob (.dT kvs))):=λc u h=>by
  rw[B λm=>by rw[(fn c m).1]at h;cases h];exact h
 have rt:RepT κ (upd (fzIn F H bs) a (.frz ob (.dT kvs))) kvs kds:=by
  have:=Inn.repT (G:=upd (fzIn F H bs) a (.frz ob (.dT kvs))) U (λb m=>O m) l
  simp_all
 refine#[upd (fzIn F H bs) a (.frz ob (.dT kvs)),l,#[#[Le.trans S.gr.f l,λc u h=>?_,λc u h=>?_,λc h=>?_],by simpa using S.len,λj w e=>?_,λj k w w' c Y ej ek oj ok sj sk=>?_,λj y e=>?_]]
 .rw[qu (jH h h0)];exact S.gr.h c u h
 .by_cases e:c=a
  .subst e;rw[qP]at h ⊢;exact h
  rw[qu e];by_cases m:c∈bs
  .rw[O m]at h;exact h
  rw[B (by simp[e,m])]at h;exact S.s c u h
 .by_cases m:c∈a::bs
  .exact .inr (.inl (fn c m).2)
  rw[B m]at h;exact S.gr.n c h
 .rcases qB e with⟨rfl,z⟩|⟨ne,z⟩
  .cases z;exact#[_,si,#[a,kvs,rfl,.inr #[ob,qP],rt],a,ob,kvs,rfl,qP]
  obtain⟨v,e1,q⟩:=S.val j w z;refine#[v,e1,?_];have nb:∀{c},v=.ref c->w.own=true->c∉a::bs:=λ{c} ev ow m=>by
   subst ev;exact sp j w c ne z ow m e1
  cases w with
  | fz d=>exact Rep.le l d q
  | br d=>obtain⟨c,oc,ec,eh,cr⟩:=q;exact#[c,oc,ec,eh,OwnO.le l cr]
  | ow d=>obtain⟨c,oc,ec,c0,cf,ch,cr⟩:=q;exact#[c,oc,ec,c0,by rw[B (nb ec rfl)];exact cf,by rw[qu λe=>nb ec rfl (by rw[e];simp)];exact ch,OwnO.le l cr]
  | lk d=>exact#[Rep.le l d q.1,RawT.le l q.2]
  | od d=>exact(sh j d ne z).elim
 .rcases qB ej with⟨_,z⟩|⟨nj,ej⟩
  .cases z;cases oj
  rcases qB ek with⟨_,z⟩|⟨nk,ek⟩
  .cases z;cases ok
  exact S.sep j k w w' c Y ej ek oj ok sj sk
 rcases qB e with⟨_,z⟩|⟨ne,z⟩
 .cases z
 exact(sh j y ne z).elim
end
def fix(i:Nat)(ρ:Rho):Rho:=match ρ[i]? with
 | some (!(.od (.dT kds)))=>ρ.set i (!(.lk (.dT kds)))
 | _=>ρ
def ua(i:Nat)(s:SF):SF:=λρ=>s (fix i ρ)
def qaW{st:Stmt}(i)(h:SS X F0 H0 st f):SS X F0 H0 st (ua i f):=by
 intro pins s σ F H ρ D S I k
 delta ua L3.fix at k
 split at k
 .rename_i kds e;obtain⟨a,kvs,ha,go⟩:=S.fix e;have ok:=(I.hok a _ ha);obtain⟨z,y,xs,r,o,es,ep,g1,g2⟩:=id ok;obtain⟨F',l,S'⟩:=go o;have I':"I" (upd H a (.frz o (.dT kvs))) s:=I.write (by rw[ha];exact True.intro) (.inl rfl) (λb u _ q=>q) #[o,g1]
   #[g1,ok.stay (λb u _ q=>q) (λb hb=>by
    have:b≠a:=λe=>by rw[e,ha]at hb;cases hb
    rw[qu this];exact hb) λb xs hb=>by
    have:b≠a:=λe=>by rw[e,ha]at hb;cases hb
    rw[qu this];exact hb]
  exact h pins s σ F' _ _ D S' I' (PostS.le l k)
 exact h pins s σ F H ρ D S I k
def y4:D->D->R En
 | .dT kvs,.tup ks=>(match jQ ks with|some key=>okD (look key kvs)|none=>.stuck)
 | _,_=>.stuck
theorem YV(k:List (Sum Int Str)):∀{kds} {kvs},RepT κ F kvs kds->(∃ z d,js kvs k=!z/\look k kds=!d/\Rep κ F z d)\/look k kds=none
 | [],_,h=>.inr rfl
 | (q,d)::r,_,h=>by
  obtain⟨v,kr,rfl,h1,h2⟩:=h;by_cases c:q=k
  .exact .inl #[v,d,xE c,by unfold look;rw[if_pos c],h1]
  have e2:look k ((q,d)::r)=look k r:=by
   show(if q=k then !d else look k r)=_
   rw[if_neg c]
  rw[(xF c),e2];exact YV k h2
theorem YW:∀{ks} {vs} {key},Reps κ F vs ks->jQ ks=!key->vs=key.map kV
 | [],vs,key,h,e=>by cases e;exact h
 | d::ks,vs,key,h,e=>by
  obtain⟨v,r,rfl,h1,h2⟩:=h;unfold jQ at e;cases e1:zq d with
  | none=>rw[e1]at e;cases e
  | some k =>
   cases e2:jQ ks with
   | none=>rw[e1,e2]at e;cases e
   | some key' =>
    rw[e1,e2]at e;cases e;rw[YW h2 e2];have:v=kV k:=by
     cases d with
     | int j=>cases e1;exact h1
     | str j=>cases e1;exact h1
     | _=>cases e1
    rw[this];rfl
section
variable{X:Cx}{F0 H0:Hp}{a b:Expr}{fa fb:EF}{pos:Pos}
def qaX(hu:X.A.units+10<cLine):IxD X y4:=by
 intro value B pins s σ F H x y v u dx dy Q I l rx ry qx qy w hs;cases dx<;>first|exact w.elim|skip
 cases dy<;>first|exact w.elim|skip
 rename_i ks
 delta y4 at w
 dsimp only at w;cases e:jQ ks with
 | none=>rw[e]at w;exact w.elim
 | some key =>
  rw[e]at w;dsimp only at w;obtain⟨p,kvs,rfl,hq,rk⟩:=RdV.dT l qx;cases (rx);obtain⟨q,vs,rfl,O,_,rs⟩:=RdV.tup l qy;cases (ry);have ev:=YW rs e;subst ev;obtain⟨its,r2,⟨o,g1,g2,n,g3⟩,_⟩:=I.tuple O;obtain⟨z,hd,xs,U,dd⟩:=Q3 I.hok hq;rcases YV key rk with⟨z,d,a1,a2,rz⟩|a2
  .rw[a2]at w;obtain⟨w',hw,Y⟩:=RelO.some_of (by rw[<- a1];exact U.val key)
   obtain⟨pr,hp,Z⟩:=cW.mp hw;refine tail_any dd.typeIs PySem.F.slot_dict_getitem.lookup (wpAny_getItem_heap (dI "") (#[o,its.toArray,n,g1,g2,g3,by simpa using Z0 r2]) dd hp ?_) hs
   rw[Z];exact#[z,H,I.tok _,Y,jo l w rz]
  rw[a2]at w;exact w.elim
def qaY(z:X.A.units+10<cLine)(B:"S" a fa)(O:"S" b fb)(U:ym b:=by exact λ_ _=>rfl):"S" (.Subscript a b pos) (eOp y4 fa fb):=Q8 (qaX z) B O U
end
open PySem.Builtin PySem.Builtin.Str
section
variable{X:Cx}{F0 H0:Hp}{tg:Expr}{pos:Pos}
def YX(c:fits b62 j=true):-(2 ^ 62)<=j/\j<2 ^ 62:=by
 rw[fits_iff]at c;lia
def qaZ(O:"S" a fa)(U:"S" b fb)(Y:X.mg "range"=none)(Z:(Gl X "range")["r"])(B:(starEach [a,b] X.env=[(false,eval a X.env),(false,eval b X.env)])["r"])(z:(starEach [b] X.env=[(false,eval b X.env)])["r"]) :
  SI X F0 H0 tg (.Call (.Name "range" np) [a,b] [] cp) (iR2 fa fb):=by
 refine#[_,MK Z Y (zo (jd) (zo (jd) vC z) (by rw[B,z])) B z,λσ F H ρ R S h=>O.sem S ((KE.bind h).imp λw k v F1 H1 g1 q1=>U.sem (S.grow g1) ((KE.bind k).imp λw2 k v2 F2 H2 g2 q2=>?_))]
 have r:=RdV.gr g2 (Vok.rd q1);have r2:=Vok.rd q2
 revert k
 generalize w.d=d at r;generalize w2.d=d2 at r2;intro k;cases d<;>first|exact k.elim|skip
 cases d2<;>first|exact k.elim|skip
 rename_i i j;dsimp only at k;by_cases c':(fits b62 i&&fits b62 j)=true
 .rw[if_pos c']at k;have c:=Bool.and_eq_true_iff.mp c';obtain⟨a1,a2⟩:=YX c.1;obtain⟨a3,a4⟩:=YX c.2;cases RdV.int r;cases RdV.int r2;exact#[i,j,rfl,#[a1,a2,a3,a4],k F2 H2 _ (g1.trans g2) (WT i (j-i).toNat)]
 rw[if_neg c']at k;exact k.elim
def qb0:V->List V->Hp->VK->Prop:=λx vs H Q=>∃ a b i r,x=.str a/\vs=[.str b]/\occurrences a b 0 a[1] 1=i::r/\Q i[6] H
def qb1:MtR X "str.index" qb0:=by
 intro pins s σ H x vs v us Q I rx rv h;obtain⟨a,b,i,r,rfl,rfl,ho,q⟩:=h;obtain⟨t,rfl⟩:=rx;obtain⟨u,rfl,ru⟩:=rv.one;obtain⟨t2,rfl⟩:=ru;exact call_gives PySem.F.slot_str_index (typeIs_str s a t) PySem.F.entry_str_index (PySem.F.args_str_index_2 _ _) (gives_str_index a b t t2 i r ho) (#[.int i,H,I.tok _,#[_,rfl],q])
def kQ:D->D->R En
 | .str x,.str y=>(match occurrences x y 0 x[1] 1 with|i::_=>okI i|[]=>.stuck)
 | _,_=>.stuck
def YY{apos cpos:Pos}(Z:"S" o fo)(he:"S" e f)
  (B:(attributeBase o "index" X.env (eval o X.env)=eval o X.env)["r"])
  (U:(((backTo cpos (starEach [e] X.env)).all (λx=>not x.1)&&(backToKw cpos (keywordEach [] X.env)).all (λx=>x.1.isSome)
   && decide ([e].length+([]:List Keyword)[1]+(if ([]:List Keyword).isEmpty then 0 else 1)<30))=true)["r"])
  (O:((apos.endLine==cpos.line)=true)["r"]) (Y:(starEach [e] X.env=(false,eval e X.env)::starEach [] X.env)["r"]) (z:((backTo cpos (starEach [] X.env)).any (·.1)=false)["r"]) :
  "S" (.Call (.Attribute o "index" apos) [e] [] cpos) (eOp kQ fo f):=by
 intro pins s σ F H ρ Q S I h;have P:=wP PySem.F.plainAttrs_str PySem.F.slot_str_index PySem.F.type_str_index qb1 (jd) (zo (jd) vC Y) B U O Y z;refine vE (P pins s σ H _ I (Z.sem S ((KE.bind h).imp λw0 k0 y0 F0' H0' g0 q0=>?_)))
 have r0:=Vok.rd q0
 revert k0
 generalize w0.d=d0 at r0;intro k0;cases d0<;>first|(cases fe:f ρ with|exc _=>rw[fe]at k0;exact k0.elim|stuck=>rw[fe]at k0;exact k0.elim|ok w=>rw[fe]at k0;exact(k0).elim)|skip
 rename_i x;cases RdV.str r0;refine#[rfl,he.sem (S.grow g0) ((KE.bind k0).imp λw k y F1 H1 g1 q1=>?_)]
 have r:=Vok.rd q1
 revert k
 generalize w.d=d at r;intro k;cases d<;>first|exact k.elim|skip
 rename_i y'
 delta kQ at k
 dsimp only at k;cases eo:occurrences x y' 0 x[1] 1 with
 | nil=>rw[eo]at k;exact k.elim
 | cons i r' =>
  rw[eo]at k;cases RdV.str r;exact#[x,y',i,r',rfl,rfl,eo,λu s' rv I'=>k i[6] u F1 H1 s' (g0.trans g1) rfl rv I']
end
def one(c:Nat):D:=.str #[(List.toArray [c])]
def okC:Option Nat->R En
 | some c=>.ok (one c)[8]
 | none=>.stuck
def wK:D->D->R En
 | .str x,.int i=>if x[1]<=sz then okC (ati x.cps.toList i)else .stuck
 | x,y=>qc x y
section
variable{X:Cx}{F0 H0:Hp}{a b:Expr}{fa fb:EF}{pos:Pos}
def qb2:IxD X wK:=by
 intro value B pins s σ F H x y v u dx dy Q I l rx ry qx qy w hs;by_cases c:∃ z i,dx=.str z/\dy=.int i
 .obtain⟨z,i,rfl,rfl⟩:=c
  delta wK at w
  dsimp only at w;by_cases hz:z[1]<=sz
  .rw[if_pos hz]at w;cases e:ati z.cps.toList i with
   | none=>rw[e]at w;exact w.elim
   | some ch =>
    rw[e]at w;exact GD value B pins s σ H _ _ v u Q I rx ry #[z,i,ch,RdV.str qx,RdV.int qy,by rw[<- zO];exact hz,e,jo l w rfl] hs
  rw[if_neg hz]at w;exact w.elim
 refine WL value B pins s σ F H x y v u dx dy Q I l rx ry qx qy ?_ hs
 delta wK at w
 simp_all
def ZG(z:"S" a fa)(B:"S" b fb)(O:ym b:=by exact λ_ _=>rfl):"S" (.Subscript a b pos) (eOp wK fa fb):=Q8 qb2 z B O
end
def kR(lo st:Int)(n:Nat):List D:=(List.range n).map λk:Nat=>D.int (lo+k*st)
def Itr3(lo st:Int)(n:Nat):It:=#[λi _=>i<n,λi H x H'=>H'=H/\x=.int (lo+i*st),λi _=>n<=i]
def qb3{K:Frag}(it:Addr)(lo st:Int)(n:Nat):Turn P w K tg (Itr3 lo st n) [it] it (λi h=>IsRangeIter h it (lo+(i:Nat)*st) ((n:Int)-(i:Nat)) st)where
 mem:=by simp
 obj:=λi h z b hb=>by
  simp_all
 keep:=λi h h' z k=>k it "s" _ z
 item:=by
  intro X hP hw hK hc i pins s σ H E I hf z hg;obtain⟨f0,f1,f2,f3,f4,f5⟩:=hf it "s"
  refine(Walks.range (I.ok.hd hc) it lo st n).item i s _ _ hg z λv h' tk hv z' kk=>?_
  obtain⟨t,rfl⟩:=hv;have I1:"I" H {s with heap:=h',toks:=tk}:=I.turned (λb o hb e=>kk b o hb[""] e) f0 f1 f3 f4 f5
  exact#[_,rfl,yi z' rfl rfl "d" #[.int (lo+i*st),H,I1,#[t,rfl],#[rfl,rfl],z',λb hb=>(hf b hb).1]]
 done:=by
  intro X hP hw hK hc i pins s σ H E I hf z hg;obtain⟨f0,f1,f2,f3,f4,f5⟩:=hf it "s"
  exact wpAny_pyNext_range_end (I.ok.hd hc) z (by have:n<=i:=hg;lia) λh' eb=>#[rfl,I.turned (λb o hb e=>eb b o hb e) f0 f1 f3 f4 f5]
 self:=λ_ _ _ _ _ z h=>wpAny_pyIter_rangeiter z h
def vz:Int->List Int->Int
 | m,[]=>m
 | m,a::r=>vz (if a<m then a else m) r
theorem QK:∀ r m,vz m r∈m::r/\∀ a∈m::r,vz m r<=a
 | [],m=>#[by simp[vz],λa ha=>by simp at ha;subst ha;exact pF _]
 | b::r,m=>by
  unfold vz;obtain⟨h1,h2⟩:=QK r (if b<m then b else m)
  have hm:=h2 _ t4
  grind
def vN:List D->R En
 | [.lst ds]=>(match jO ds with|some (i::r)=>okI (vz i r)|_=>.stuck)
 | _=>.stuck
def ZH(O:(X.calm=true)["r"]):zM X (.builtin "min") vN:=by
 intro pins s σ F H xs us ds Q I l rx qx w;cases qx with
 | nil=>exact w.elim
 | cons q1 q2 =>
  rename_i d _ _;cases q2 with
  | cons _ _=>cases d<;>exact w.elim
  | nil =>
   cases d<;>first|exact w.elim|skip
   rename_i ds
   delta vN at w
   dsimp only at w;cases e:jO ds with
   | none=>rw[e]at w;exact w.elim
   | some ns =>
    rw[e]at w;cases ns with
    | nil=>exact w.elim
    | cons i r =>
     obtain⟨p,vs,rfl,hq,rs⟩:=RdV.lst l q1;have ev:=wX e rs;subst ev;cases rx with
     | cons r1 r2 =>
      cases r2;cases r1;obtain⟨its,rv,pl,hz⟩:=I.list hq;have hi:=yk rv;obtain⟨ys,ey⟩:=hi.allInts.items;have z:(i::r)=ys[2].map (·.1):=by rw[<- hi.numsOf,<- mf,<- ey]
      have B:ys.size=r[1]+1:=by
       grind
      have hl:=pl.isList;rw[ey]at hl;refine min_intList (I.ok.hd O) hl "" λv h' tk hv hk=>?_
      obtain⟨t,rfl⟩:=intItems_at hv;obtain⟨b1,b2⟩:=argBest_lt (numAt ys) (ys.size-1);generalize argBest (λi j=>decide (numAt ys i<numAt ys j)) (ys.size-1)=k at b1 b2
      have m1:numAt ys k∈i::r:=by
       rw[z,numAt_eq];exact getD_mem (by rw[gj,fj];lia)
      have m2:∀ a∈i::r,numAt ys k<=a:=λa ha=>by
       rw[z]at ha;obtain⟨j,hj,rfl⟩:=mem_getD ha;rw[gj,fj]at hj;rw[<- numAt_eq];exact b2 j ""
      obtain⟨k1,k2⟩:=QK r i;have em:=Int.le_antisymm (m2 _ k1) (k2 _ m1);rw[em];exact#[.int _,H,I.kept hk,#[_,rfl],jo l w rfl]
section
variable{X:Cx}{F0 H0:Hp}{pos:Pos}
end
section
open PySem PySem.Spec PyProof.Rows L2
variable{X:Cx}
def ZI:List D->R En
 | [.int i,.int j,.int k]=>okI (if j>i then(if k>j then k else j)else(if k>i then k else i))
 | _=>.stuck
def qb4(z:X.calm=true):yj X (.builtin "max") (λxs H Q=>∃ i j k,xs=[.int i,.int j,.int k]/\Q (if j>i then(if k>j then k else j)else(if k>i then k else i))[6] H):=by
 intro pins s σ H xs us Q I r h;obtain⟨i,j,k,rfl,q⟩:=h;cases r with
 | cons r1 r=>cases r with
  | cons r2 r=>cases r with
   | cons r3 r=>cases r with
    | nil =>
     obtain⟨t,rfl⟩:=r1;obtain⟨t',rfl⟩:=r2;obtain⟨B,rfl⟩:=r3;refine max_three_ints (I.ok.hd z) λh' tk kk=>#[_,H,I.kept kk,?_,q]
     by_cases hj:j>i
     .rw[if_pos hj,if_pos hj];by_cases hk:k>j
      .rw[if_pos hk,if_pos hk];exact#[_,rfl]
      rw[if_neg hk,if_neg hk];exact#[_,rfl]
     rw[if_neg hj,if_neg hj];by_cases hk:k>i
     .rw[if_pos hk,if_pos hk];exact#[_,rfl]
     rw[if_neg hk,if_neg hk];exact#[_,rfl]
def qb5(B:(X.calm=true)["r"]):zM X (.builtin "max") ZI:=kn (qb4 B) λF H xs ds Q l qx w=>by
 cases qx with
 | nil=>exact w.elim
 | @cons x d xs ds q1 q2 =>
  cases q2 with
  | nil=>cases d<;>exact w.elim
  | @cons y e ys es q2 q3 =>
   cases q3 with
   | nil=>cases d<;>first|exact w.elim|(cases e<;>exact w.elim)
   | @cons z g zs gs q3 q4 =>
    cases q4 with
    | cons _ _=>cases d<;>first|exact w.elim|(cases e<;>first|exact w.elim|(cases g<;>exact w.elim))
    | nil =>
     cases d<;>first|exact w.elim|skip
     cases e<;>first|exact w.elim|skip
     cases g<;>first|exact w.elim|skip
     cases RdV.int q1;cases RdV.int q2;cases RdV.int q3;exact#[_,_,_,rfl,jo l w rfl]
end
def adO:En->R D
 | .ow (.lst xs)=>.ok (.lst xs)
 | _=>.stuck
abbrev ZJ(ad:En->R D)(mk:List D->D)(n:Nat)(it:IF)(gf:GF)(e:EF):EF:=xQ ad (λys=>.od (mk ys)) n it gf qX e
abbrev YZ:=ZJ adO D.lst
structure Mem(κ:Kx)(H₂:Hp)(p:Addr)(ad:En->R D)(mk:List D->D) extends Mm κ H₂ p ad where
 fin:∀{F H vs as},H₂ p=none->F p=none->H p=!(.lst vs)->RL F H vs as->DV κ H₂ F H (.ref p) (mk as)
section
variable{κ:Kx}{H0 F H F' H':Hp}
theorem In2.len:∀{bs} {css} {ds},In2 κ H0 F H bs css ds->bs[1]=ds[1]
 | [],[],[],_=>rfl
 | [],_::_,_,h=>by cases h
 | [],[],_::_,h=>by cases h
 | _::_,[],_,h=>by cases h
 | _::_,_::_,[],h=>by cases h
 | b::bs,cs::css,e::es,h=>by rw[gQ,gQ,In2.len h.2]
end
def qb6(κ:Kx)(H₂:Hp)(p:Addr):Mem κ H₂ p adO D.lst where
 RL F H vs as:=∃ bs:List Addr,vs=bs.map V.ref/\(p::bs).Nodup/\Inn κ H₂ F H bs as
 nil F H:=#[[],rfl,by simp,trivial]
 len:=λ#[bs,e,_,i]=>by subst e;rw[gj];exact Inn.len i
 gr:=λg #[bs,e,nd,i]=>#[bs,e,nd,Inn.gr g i]
 step:=λ{F H F' H' vs as v w y} g _ l hp q e #[bs,ev,nd,i]=>by
  cases w<;>first|(cases e;done)|skip
  rename_i d;cases d<;>first|(cases e;done)|skip
  cases e;obtain⟨a,o,rfl,h0,hf,hh,r⟩:=q;cases o<;>first|exact r.elim|skip
  rename_i us;subst ev;have na:a∉p::bs:=λm=>by
   rcases gG.mp m with rfl|m
   .rw[hp]at h0;cases h0
   obtain⟨_,_,_,z⟩:=Inn.at i m;rw[z]at h0;cases h0
  have B:((p::bs)++[a]).Nodup:=fL.mpr #[nd,by simp,λx hx y hy e=>by
   obtain rfl:y=a:=by simpa using hy
   exact na (by rw[<- e];exact hx)]
  refine#[F',g,bs++[a],by simp,B,?_]
  refine Inn.same (G:=H) (G':=H) (H:=H') (λz hz=>(qu λe=>?_).symm) (λ_ _ q=>q) Le.refl (Inn.snoc (Le.none l h0) hf hh r (Inn.gr g i))
  subst e;exact(tJ.mp B).1 hz
 fin:=λ{F H vs as} h0 hf hh #[bs,e,nd,i]=>by
  subst e;exact .inl #[as,rfl,p,bs,rfl,h0,hf,nd,hh,i]
section
variable{X:Cx}{F0 H0:Hp}{pos:Pos}{tg elt iter:Expr}{scope:Scope}{fi:IF}{gf:GF}{e:EF}{ad:En->R D}{mk:List D->D}
def DV.deep(h:DV κ H F' H' v d)(O:∀ xs,d≠.tup xs):∃ a bs,v=.ref a/\(∀ c∈a::bs,H c=none)/\F' a=none/\(a::bs).Nodup/\Deep κ H F' H' a bs d:=by
 rcases h with⟨ds,rfl,a,bs,e1,h0,hf,nd,hh,i⟩|⟨ds,rfl,a,bs,B,e1,h0,hf,nd,hh,i⟩|⟨ds,y,e,_⟩|⟨_,_,_,e,_⟩
 .refine#[a,bs,e1,λc m=>?_,hf,nd,hh,i]
  rcases gG.mp m with rfl|m
  .exact h0
  obtain⟨_,z,_⟩:=Inn.at i m;exact z
 .refine#[a,bs++B.flatten,e1,λc m=>?_,hf,nd,bs,B,rfl,hh,i]
  rcases gG.mp m with rfl|m
  .exact h0
  obtain⟨_,z,_⟩:=In2.at i m;exact z
 .exact(O _ e).elim
 exact(O _ e).elim
def Deep.older{H G F' H':Hp}{a:Addr}{bs:List Addr}{d:D}(l:∀ a,H a=none->G a=none)(h:Deep κ H F' H' a bs d):Deep κ G F' H' a bs d:=by
 cases d<;>first|exact(False.elim h)|exact#[h.1,Inn.older l h.2]|exact h|skip
 obtain⟨b1,z,e,h1,h2⟩:=h;exact#[b1,z,e,h1,In2.older l h2]
def StOk.setD{ρ:Rho}{σ:St}(S:StOk κ F0 H0 F H ρ σ)(g:Gr F H F' H'){i:Nat}(q:DV κ H F' H' v d)(nt:∀ xs,d≠.tup xs)(Z:shal i ρ) :
  StOk κ F0 H0 F' H' (ρ.set i (!(.od d))) (σ.set i !v):=by
 obtain⟨a,bs,rfl,hn,hf,nd,dp⟩:=DV.deep q nt;have S':=S.grow g;obtain⟨o,ho,no⟩:=Deep.top dp;have h0:∀ c∈a::bs,H0 c=none:=λc m=>Le.none S.gr.h (hn c m)
 have B:∀ k w b,k≠i->ρ[k]?=!(!w)->w.own=true->b∈a::bs->σ[k]?≠!(!(.ref b)):=λk w b hk ek ok m sk=>by
  obtain⟨u,z⟩:=S.ownAt ek ok sk
  grind
 refine#[S'.gr,by simp[S.len],λj w e=>?_,λj k w w' b Y ej ek oj ok sj sk=>?_,λj y e=>?_]
 .rcases qB e with⟨rfl,z⟩|⟨ne,z⟩
  .cases z;have hl:j<σ.length:=by
    rw[<- S.len];have:=(gw.mp e).1;simpa using this
   exact#[.ref a,List.getElem?_set_self hl,a,o,rfl,h0 a "s",hf,ho,no]
  obtain⟨u,e1,q⟩:=S'.val j w z;exact#[u,by rw[hU (tm ne)];exact e1,q]
 .have at_:∀{m},m≠i->(σ.set i (!(.ref a)))[m]?=!(!(.ref b))->σ[m]?=!(!(.ref b)):=λ{m} hm h=>by
   rw[hU (tm hm)]at h;exact h
  rcases qB ej with⟨e1,z⟩|⟨nj,U⟩
  .rcases qB ek with⟨e2,_⟩|⟨nk,O⟩
   .simp_all
   subst e1;have hl:j<σ.length:=by have:=(gw.mp sj).1;simpa using this
   rw[List.getElem?_set_self hl]at sj;cases sj;exact B k w' a nk O ok "s" (at_ nk sk)
  rcases qB ek with⟨e2,z⟩|⟨nk,O⟩
  .subst e2;have hl:k<σ.length:=by have:=(gw.mp sk).1;simpa using this
   rw[List.getElem?_set_self hl]at sk;cases sk;exact B j w a nj U oj "s" (at_ nj sj)
  exact S.sep j k w w' b Y U O oj ok (at_ nj sj) (at_ nk sk)
 rcases qB e with⟨rfl,z⟩|⟨nj,ej⟩
 .cases z;have hl:j<σ.length:=by
   rw[<- S.len];have:=(gw.mp e).1;simpa using this
  refine#[λk z hk ek=>?_,a,bs,List.getElem?_set_self hl,h0 a "s",hf,nd,Deep.older (λc z=>Le.none S.gr.h z) dp,λk w b hk ek ok m sk=>?_]
  .rcases qB ek with⟨rfl,_⟩|⟨_,q⟩
   .exact hk rfl
   exact Z k z hk q
  rcases qB ek with⟨rfl,_⟩|⟨nk,q⟩
  .exact hk rfl
  rw[hU (tm nk)]at sk;exact B k w b hk q ok m sk
 exact(Z j y nj ej).elim
def ub(i:Nat)(ρ:Rho):En->Out
 | .od (.tup _)=>.stuck
 | .od d=>if vM i ρ=true then .nx (ρ.set i (!(.od d)))else .stuck
 | _=>.stuck
def uc(i:Nat)(e:EF):SF:=λρ=>sOf (e ρ) (ub i ρ)
def qb7{i:Nat}{ρ:Rho}{P:Out->Prop}(B:P .stuck->False)(h:P (ub i ρ w)):∃ d,w=.od d/\(∀ xs,d≠.tup xs)/\vM i ρ=true/\P (.nx (ρ.set i (!(.od d)))):=by
 delta ub at h
 split at h
 .exact(B h).elim
 .rename_i d nt;by_cases c:vM i ρ=true
  .rw[if_pos c]at h;exact#[d,rfl,λxs z=>nt xs (by rw[z]),c,h]
  simp_all
 exact(B h).elim
def qb8(i){x:Str}{pos' B:Pos}{n:Nat}(N)(M:∀ H₂ p,Mem (kx X) H₂ p ad mk)(hN:X.N.Nodup)(hi:SIc X F0 H0 tg iter fi)(hno:kq gf)
  (hg:∀ s₂ F₂ H₂ C fp,SG (cxD X scope N s₂ H₂ C fp) F₂ H₂ tg gf)(he:∀ s₂ F₂ H₂ C fp,SE (cxD X scope N s₂ H₂ C fp) F₂ H₂ elt e)
  (hix:(X.N[i]?=!x)["r"])(hx:(Loc X.env.scope x)["t"])(hsw:(swapsWith (.ListComp elt [#[tg,iter,[],0]] scope pos) (!(.Name x pos')) B.line X.env=pure true)["r"])
  (hf:(X.fn x=true\/X.env.scope.names.lookup x=some .local)["t"])
  (hc:(X.calm=true)["r"])(Y:(scope.kind=.function)["r"])(Z:(vI X.env scope.names=true)["r"])(O:(wV (relabel scope X.env).names X.N N=true)["r"])(h3:(N[1]=X.N.length+n)["r"])
  (U:∀ x∈scope.names,x.2=.local->scope.names.lookup x.1=some .local:=by decide +kernel)(hs:∀ x,foldedSetIterable iter X.env x=pure x:=by intro _;rfl) :
  SS X F0 H0 (.Assign [.Name x pos'] (.ListComp elt [#[tg,iter,[],0]] scope pos) B) (uc i (ZJ ad mk n fi gf e)):=by
 intro pins s σ F H ρ D S I h;rw[exec_Assign_Name_used _ _ _ _ hsw];refine gg (m9 (gg ?_));refine gg (cA (Zl (fn:=λys=>.od (mk ys)) N (λa b=>(M a b).toMm) (λl h0 nf hv rs=>DV.older l ((M _ _).fin h0 nf hv rs)) hi hno hg (λ_ _ _ _ _=>.nil) he hc Y Z O h3 U hs S I ((PostS.of h).imp λw k p C F1 H1 s1 m g q I1 hn turn hC hL hcl=>?_)) (λ_ s' hq=>gC (gC hq)) λ_ _ e=>e)
 obtain⟨d,rfl,nt,c,k2⟩:=qb7 (P:=PostS X F0 H0 F D) (λz=>z) k
 refine bW (JT I1 hN hix hx (v:=.ref p) rfl (λs2 I2 hch=>?_) hf)
 obtain⟨a,sb,ha⟩:=hch;have aC:C≠a:=by
  rcases ha with z|z
  .rw[z];exact hL
  exact λq=>hcl x a z q.symm
 refine#[m,hn.sameBut sb aC,λh' sb2=>#[_,H1,turn s2 H1 h' _ I2 hC λb o hb e=>(sb2.2 b hb).trans e,k2 _ F1 H1 g.f (S.setD g q nt (YJ c))]]
end
def but(H:Hp)(a:Addr):Hp:=λc=>if c=a then none else H c
def yF:but H a a=none:=if_pos rfl
def yG(h:c≠a):but H a c=H c:=if_neg h
def QL:Le (but H a) H:=λc u h=>by
 by_cases e:c=a
 .subst e;rw[yF]at h;cases h
 rw[yG e]at h;exact h
def spM(κ:Kx)(dn:Den):Sp:=λvs H Q _=>∃ F a o d,vs=[.ref a]/\Le F (but H a)/\H a=!o/\OwnO κ F o d /\
 KE (λ_=>False) (dn [.ow d]) λw=>∀ v F' H',Gr F (but H a) F' H'->Vok κ (but H a) F' H' v w->Q v H'
section
variable{P:ag}{w:World}{K:Frag}{mg:Str->Option aa}{base:Heap}
def fnM{st:Stmt}{N:List Str}{k:Nat}(F:Fun K x qual st f fd)(S:FnScope N [p] (defScope st))(hN:0<N[1])
  (h:∀ O A outer s H F0 H0,Room k (A.deeper (envOfC qual (defScope st) s[0] f O)) ->
   SSs (cxOf CX0 P w K mg base N qual (defScope st) f O A outer s H E0).nox F0 H0 (defBody st) body):FnOk P w K mg base CX0 (k+1) f fd [p] (spM #[P,w,K] (den N[1] body)):=by
 refine F.ok S (λvs H Q E q=>by obtain⟨_,_,_,_,rfl,_⟩:=q;rfl) (λO A outer s H vs Q E hr q=>?_)
 obtain⟨F0,a,o,d,rfl,l,ho,ro,q⟩:=q;refine#[Q5 _ _,xJ,λpins s' I=>?_]
 have B:=h O A outer s H F0 (but H a) hr;have B':SSs (cxOf CX0 P w K mg base N qual (defScope st) f O A outer s H E).nox F0 (but H a) (defBody st) body:=B;have fa:F0 a=none:=Le.none l yF;have Y:StOk #[P,w,K] F0 (but H a) F0 H ([En.ow d].map some++List.replicate (N[1] - [En.ow d].length) none) (L2.z9 N [.ref a]):=by
  have at_:∀ i (w:En),([En.ow d].map some++List.replicate (N[1] - [En.ow d].length) none)[i]?=!(!w)->i=0/\w=.ow d:=λi w e=>by
   cases i with
   | zero=>simp at e;exact#[rfl,e.symm]
   | succ i =>
    simp only[gW,c9,List.cons_append,fX,pI,fH]at e;lia
  refine#[#[Le.refl,QL,Le.trans l QL,λ_ z=>.inl z],by simp[L2.z9],λi w e=>?_,λi j w w' b U ei ej oi oj si sj=>?_,λi y e=>?_]
  .obtain⟨rfl,rfl⟩:=at_ i w e;exact#[.ref a,by simp[L2.z9],a,o,rfl,yF,fa,ho,ro]
  .exact U ((at_ i w ei).1.trans (at_ j w' ej).1.symm)
  cases (at_ i _ e).2
 refine B' pins s' (L2.z9 N [.ref a]) F0 H _ _ Y I ?_;have e:KE (λ_=>False) (den N[1] body [.ow d]) λw'=>∀ v F' H',Gr F0 (but H a) F' H'->Vok #[P,w,K] (but H a) F' H' v w'->Q v H':=q
 delta den fin at e
 cases eb:body ([En.ow d].map some++List.replicate (N[1] - [En.ow d].length) none)with
 | nx ρ=>rw[eb]at e;exact λZ F' H' l' S'=>e .non F' H' S'.gr rfl
 | rt w'=>rw[eb]at e;exact e
 | bk ρ=>rw[eb]at e;exact e.elim
 | ct ρ=>rw[eb]at e;exact e.elim
 | exc x=>rw[eb]at e;exact e.elim
 | stuck=>rw[eb]at e;cases e
end
def StOk.forget{ρ:Rho}{i:Nat}(S:StOk κ F0 H0 F H ρ σ)(B:ρ[i]?=!(!d[9]))(O:σ[i]?=!(!(.ref a))):StOk κ F0 H0 F (but H a) (ρ.set i none) σ:=by
 obtain⟨v,e1,b,o,rfl,h0,hf,hh,ro⟩:=S.val i _ B;rw[O]at e1;cases e1;refine#[#[S.gr.f,λc u h=>?_,λc u h=>?_,S.gr.n],by simpa using S.len,λj w e=>?_,λj k w w' c U ej ek oj ok sj sk=>?_,λj y e=>?_]
 .rw[yG (jH h h0)];exact S.gr.h c u h
 .rw[yG (jH h hf)];exact S.gr.s c u h
 .rcases qB e with⟨_,z⟩|⟨ne,z⟩
  .lia
  obtain⟨v,e1,q⟩:=S.val j w z;refine#[v,e1,?_];have nb:∀{c},v=.ref c->w.own=true->c≠a:=λ{c} ev ow ec=>by
   subst ev ec;exact S.sep j i w _ c ne z B ow rfl e1 O
  cases w with
  | fz d=>exact q
  | br d=>exact q
  | ow d=>obtain⟨c,oc,ec,c0,cf,ch,cr⟩:=q;exact#[c,oc,ec,c0,cf,(yG (nb ec rfl)).trans ch,cr]
  | lk d=>exact q
  | od d=>obtain⟨c,oc,ec,c0,cf,ch,nt⟩:=q;exact#[c,oc,ec,c0,cf,(yG (nb ec rfl)).trans ch,nt]
 .rcases qB ej with⟨_,z⟩|⟨nj,ej⟩
  .lia
  rcases qB ek with⟨_,z⟩|⟨nk,ek⟩
  .lia
  exact S.sep j k w w' c U ej ek oj ok sj sk
 rcases qB e with⟨_,z⟩|⟨nj,ej⟩
 .cases z
 obtain⟨s1,c,bs,e1,c0,cf,nd,dp,sp⟩:=S.dp j y ej;have nb:∀ x∈c::bs,x≠a:=λx m z=>by subst z;exact sp i _ _ (tm nj) B rfl m O
 refine#[λk z hk ek=>?_,c,bs,e1,c0,cf,nd,Deep.same (λx m=>(yG (nb x m)).symm) (λx m z=>z) Le.refl dp,λk w x hk ek ok m=>?_]
 .rcases qB ek with⟨_,q⟩|⟨_,q⟩
  .lia
  exact s1 k z hk q
 rcases qB ek with⟨_,q⟩|⟨_,q⟩
 .lia
 exact sp k w x hk q ok m
section
variable{X:Cx}{F0 H0:Hp}{pos:Pos}
variable{κ:Kx}{F H:Hp}
end
def Itv(K:Frag)(a:Addr)(n:Nat):It :=
 #[λi H=>∃ xs x,SqL K H a xs/\xs[1]=n/\i<n/\xs[n-1-i]?=!x,λi H x H'=>H'=H/\∀ xs,SqL K H a xs->xs[n-1-i]?=!x,λi H=>n<=i]
def qb9{K:Frag}(a it:Addr)(n:Nat):Turn P w K tg (Itv K a n) [it] it (λi h=>i<=n/\h.IsRevIter it a ((n:Int)-1-(i:Int)))where
 mem:=by simp
 obj:=λi h #[_,st] b hb=>by
  have e:b=it:=by simpa using hb
  subst e;obtain⟨o,e,c,d⟩:=st;exact#[o,e,λv z=>by rw[d]at z;cases z]
 keep:=λi h h' #[l,st] k=>#[l,st.at λo e=>k it "s" o e]
 item:=by
  intro X hP hw hK hc i pins s σ H E I hf ⟨le,st⟩ hg;subst hP hw hK;obtain⟨xs,x,hq,hn,hi,hx⟩:=hg;obtain⟨its,rv,p,hz⟩:=I.list hq;obtain⟨u,hu,ru⟩:=rv.get hx;obtain⟨f0,f1,f2,f3,f4,f5⟩:=hf it "s"
  have e1:n-1-i=((n-1-i:Nat):Int):=""
  rw[e1]at st;refine wpAny_pyNext_rev_item st p.isList (x:=u) hu[""] λh' B sb=>?_
  have I1:"I" H {s with heap:=h'}:=I.turned (t':=s.toks) (λb o hb e=>(sb.2 b hb).trans e) f0 f1 f3 f4 f5
  have e2:(n-1-i:Nat)-1=n-1-((i+1):Int):=""
  rw[e2]at B;obtain⟨o,e,c,d⟩:=id B;exact#[u,rfl,yi (s:={s with heap:=h'}) e c d "d" #[x,H,I1,ru,#[rfl,λys hy=>by rw[I.list_inj hy hq];exact hx],#[hi,B],λb hb=>(hf b hb).1]]
 done:=by
  intro X hP hw hK hc i pins s σ H E I hf ⟨le,st⟩ hg;subst hP hw hK;obtain⟨f0,f1,f2,f3,f4,f5⟩:=hf it "s"
  have hg:n<=i:=hg;have e1:n-1-(i:Int)=-1:=""
  rw[e1]at st;exact wpAny_pyNext_rev_end (I.ok.hd hc) st λh' eb=>#[rfl,I.turned (t':=s.toks) (λb o hb e=>eb b o hb e) f0 f1 f3 f4 f5]
 self:=λ_ _ _ _ _ #[_,st] h=>bw st h
theorem K0{κ:Kx}{vs:List V}{ds:List D}(B:∀ F H,Le F1 F->Le F H->Le G H->SqL κ.K H a vs)(rs:Reps κ F1 vs ds):Walk κ (Itv κ.K a vs[1]) F1 G ds.reverse where
 go:=λi x F H ed l1 l lg=>by
  have ll:=Reps.length rs;have hi:i<ds[1]:=by have:=(gw.mp ed).1;simpa using this
  rw[List.getElem?_reverse hi]at ed;obtain⟨v,ev,rv⟩:=Reps.get rs ed;have q:=B F H l1 l lg;rw[<- ll]at ev;refine#[#[vs,v,q,rfl,"",ev],λy H' z=>?_]
  obtain⟨rfl,w⟩:=z;have:=w vs q;rw[ev]at this;cases this;exact#[F,Gr.refl l,Rep.le l1 x rv]
 stop:=λi F H hi l1 l lg=>by
  show vs[1]<=i;rw[Reps.length rs];simpa using hi
def QM(i:Nat):IF:=λρ=>match ρ[i]? with
 | some (!(.lst ds)[8])=>.ok ds.reverse
 | some (!(.br (.lst ds)))=>.ok ds.reverse
 | _=>.stuck
section
variable{X:Cx}{F0 H0:Hp}{tg:Expr}{pos:Pos}
def qba(i)(O:X.mg "reversed"=none)(U:(Nm X i x)["t"])(Y:(Gl X "reversed")["r"])(Z:(starEach [.Name x pos] X.env=[(false,eval (.Name x pos) X.env)])["r"]) :
  SI X F0 H0 tg (.Call (.Name "reversed" np) [.Name x pos] [] cp) (QM i):=by
 refine#[λσ H R=>∃ a xs,σ[i]?=!(!(.ref a))/\SqL X.K H a xs/\R (Itv X.K a xs[1]) H,λpins s σ H R I #[p,xs,hσ,hq,hR]=>?_,λσ F H ρ R S h=>?_]
 .refine Call_ (zL I Y O boot_reversed (tD ?_ Z rfl));refine t5 (thn (pvN U pins s σ H (λv' H'=>v'=.ref p/\H'=H) I #[_,hσ,rfl,rfl]) λu s1 #[v1,H1,I1,r1,e1,e2]=>?_)
  subst e1 e2;obtain rfl:u=Value.ref p:=r1;refine tN ?_;obtain⟨its,rv,pl,hz⟩:=I1.list hq;have z:=rv[1];refine call_reversed_list pl.isList ?_;have B:(s1.heap.push (revObj p ((its.toArray.size)-1))).IsRevIter s1[0] p ((xs[1])-1-0):=by
   refine#[_,gN _ rfl,rfl,?_];rw[z];simp[revObj]
  refine bw (s:={s1 with heap:=s1.heap.push (revObj p ((its.toArray.size)-1))}) B ?_;refine#[_,_,_,_,H1,rfl,I1.kept (t':=s1.toks) λb o e=>gy _ e,qb9 p s1[0] xs[1],#[tK _,B],λb hb=>?_,hR]
  obtain rfl:b=s1[0]:=by simpa using hb
  exact I1.fpOk (gE _) (I1.hok.fresh (gE _))
 unfold QM at h;cases ew:ρ[i]? with
 | none=>rw[ew]at h;exact h.elim
 | some w =>
  rw[ew]at h;cases w with
  | none=>cases h
  | some w =>
   obtain⟨v,e1,q⟩:=S.val i w ew;cases w with
   | ow d=>cases h
   | lk d=>cases h
   | od d=>cases h
   | fz d =>
    cases d<;>first|exact h.elim|skip
    obtain⟨a,vs,rfl,hq,rs⟩:=q;exact#[a,vs,e1,SqL.le S.s hq,h F H _ (Gr.refl S.s) (K0 (κ:=kx X) (λF' H' l1 l _=>SqL.le l (SqL.le l1 hq)) rs)]
   | br d =>
    obtain⟨a,o,rfl,eh,ro⟩:=q;cases d<;>first|exact h.elim|skip
    cases o<;>first|exact ro.elim|skip
    exact#[a,_,e1,SqL.of (S.gr.h _ _ eh),h F H _ (Gr.refl S.s) (K0 (κ:=kx X) (λF' H' _ _ lg=>SqL.le lg (SqL.of eh)) ro)]
end
inductive EntS(w:World)(K:Frag):List DictEntry->List (Sum Int Str×D)->Prop
 | nil:EntS w K [] []
 | cons {e:DictEntry} {es:List DictEntry} {x:Str} {t:Tok} {d:D} {r:List (Sum Int Str×D)}:e.key=.str x t->e.hash=hashStr w x->vH K 8 e.val=!d->EntS w K es r->EntS w K (e::es) ((.inr x,d)::r)
def DatS(w:World)(K:Frag)(a:Addr)(l:List (Sum Int Str×D)):Prop:=∃ o es ep,K.lookup a=!o/\o.data=.dict es ep/\(o.cls==Value.type "dict"&&o.dict==none&&o.slots.size==0&&not (a==sysModules))=true/\(l.map (·.1)).Nodup/\EntS w K es[2] l
def qbb{l:List (Sum Int Str×D)}(h:EntS κ.w κ.K es l) :
  ∃ kvs vs,KV kvs vs/\Pairs (jk κ.P κ.w) es vs/\vs.map (·.1)=l.map (·.1)/\(∀ e∈es,∃ k,(jk κ.P κ.w).is k e.key=true/\e.hash=(jk κ.P κ.w).hash k)/\∀ F,RepK κ F kvs l:=by
 induction h with
 | nil=>exact#[[],[],.nil,.nil,rfl,λe he=>(nomatch he),λ_=>rfl]
 | @cons e es x t d r ek eh ed _ ih =>
  obtain⟨kvs,vs,r1,r2,r3,r4,r5⟩:=ih;obtain⟨v,rv,qv⟩:=WX 8 e.val d ed;have hk:(jk κ.P κ.w).is (Sum.inr x) e.key=true:=by rw[ek];exact Wb _ _ x t
  refine#[(Sum.inr x,v)::kvs,(Sum.inr x,e.val)::vs,.cons #[rfl,rv] r1,.cons hk rfl r2,by simp[r3],λe' he=>?_,λF=>#[v,kvs,rfl,qv F,r5 F]]
  rcases gG.mp he with z|he
  .subst z;exact#[Sum.inr x,hk,eh]
  exact r4 e' he
def qbc(h:DatS κ.w κ.K a l):∃ x,RelV x (.ref a)/\∀ F,Rep κ F x (.dK l):=by
 obtain⟨o,es,ep,lk,ed,c,nd,en⟩:=h;simp only[hX]at c;obtain⟨⟨⟨c1,c2⟩,c3⟩,c4⟩:=c;obtain⟨kvs,vs,r1,r2,r3,r4,r5⟩:=qbb en;have z:o.slots=#[]:=by
  simp_all
 exact#[.ref a,rfl,λF=>#[a,kvs,rfl,.inr #[by simpa using c4,o,es,ep,vs,lk,#[by simpa using c1,by simpa using c2,z],ed,λe he=>r4 e he[""],r2,by rw[r3];exact nd,r1],r5 F]]
theorem ZK:∀{xs} {ns} {i:Nat} {v},IntsAre xs ns->xs[i]?=!v->∃ a t,v=.int a t/\ns[i]?=!a
 | _,_,i,v,.nil,h=>by simp at h
 | _,_,0,v,.cons a t _,h=>by simp at h;exact#[a,t,h.symm,rfl]
 | _,_,i+1,v,.cons a t r,h=>by
  obtain⟨b,u,e1,e2⟩:=ZK r h[""]
  exact#[b,u,e1,by simpa using e2]
section
open PySem.SeqAt PySem.MeetsSeq PySem.MeetsSeq2 PySem.MeetsSeq3
open PySem.AutoSeq1 (wpAny_loadPart')
end
section
variable{X:Cx}
end
def qbd(K:Frag):V->List V->Hp->VK->Prop:=λx vs H Q=>∃(p:Addr) (ns:List Int) (v:Int) (j:Nat),x=.ref p/\SqL K H p (ns.map V.int)/\vs=[.int v]/\ns.findIdx? (λn:Int=>n==v)=!j/\Q (j:Int)[6] H
def isV(v:Int):aa->Bool
 | .int a _=>a==v
 | _=>false
section
variable{X:Cx}
def qbe:MtR X "list.index" (qbd X.K):=by
 intro pins s σ H x vs v us Q I rx rv h;obtain⟨p,ns,n0,j,rfl,hq,rfl,hj,q⟩:=h;cases rx;obtain⟨u,rfl,ru⟩:=rv.one;obtain⟨t2,rfl⟩:=ru;obtain⟨its,r1,p1,hz⟩:=I.list hq;have ia:IntsAre its ns:=yk r1;have il:=ia[1];obtain⟨⟨cls,dd,data,sl⟩,n,ho,hc,Y,hd⟩:=id p1;subst hc hd;obtain⟨jl,jt,jf⟩:=List.findIdx?_eq_some_iff_getElem.mp hj;have U:its.toArray.size=ns[1]:=by simp;omega
 have at_:∀ m hm (z:m<ns[1]),isV n0 its.toArray[m]=(ns[m]==n0):=λm hm z=>by
  obtain⟨a,t,e1,e2⟩:=ZK ia (gJ hm[""])
  have e3:its.toArray[m]=.int a t:=by simpa using e1
  have e4:ns[m]=a:=by rw[gJ z]at e2;exact tH e2
  rw[e3,e4];rfl
 refine bg (prog:=X.prog) (w:=X.w) PySem.F.slot_list_index #[_,ho,rfl] PySem.F.entry_list_index (PySem.F.args_list_index_2 _ _) (PySem.SeqAt.list_indexAt p its.toArray n dd sl (.int n0 t2) (isV n0) j "" (by rw[pE]at hz;simp at hz;lia) (by rw[at_ j "" jl];exact jt) (λm hm B=>by
  rw[at_ m hm ""]
  have:=jf m B;simpa using this) X.prog X.w) #[ho,λy hy=>?_,?_]
 .obtain⟨i,hi,O⟩:=Array.mem_iff_getElem.mp hy;obtain⟨a,t,e1,e2⟩:=ZK (i:=i) ia (gJ hi[""])
  have e3:its.toArray[i]=.int a t:=by simpa using e1
  rw[<- O,e3];exact PySem.SeqAt.EqAt.int_int a t n0 t2
 exact#[.int j,H,I.tok _,#[_,rfl],q]
end
def ud:D->D->R En
 | .lst xs,.int v=>(match jO xs with
  | some ns=>(match ns.findIdx? (λn:Int=>n==v)with|some j=>okI (j:Int)|none=>.stuck)
  | none=>.stuck)
 | _,_=>.stuck
section
variable{X:Cx}{F0 H0:Hp}
def qbf{apos cpos:Pos}(Z:"S" o fo)(he:"S" e f)
  (B:(attributeBase o "index" X.env (eval o X.env)=eval o X.env)["r"])
  (U:(((backTo cpos (starEach [e] X.env)).all (λx=>not x.1)&&(backToKw cpos (keywordEach [] X.env)).all (λx=>x.1.isSome)
   && decide ([e].length+([]:List Keyword)[1]+(if ([]:List Keyword).isEmpty then 0 else 1)<30))=true)["r"])
  (O:((apos.endLine==cpos.line)=true)["r"]) (Y:(starEach [e] X.env=(false,eval e X.env)::starEach [] X.env)["r"]) (z:((backTo cpos (starEach [] X.env)).any (·.1)=false)["r"]) :
  "S" (.Call (.Attribute o "index" apos) [e] [] cpos) (eOp ud fo f):=by
 intro pins s σ F H ρ Q S I h;have P:=wP fK PySem.F.slot_list_index PySem.F.type_list_index qbe (jd (e:=o)) (zo (jd (e:=e)) vC Y) B U O Y z;refine vE (pins:=pins) (σ:=σ) (P pins s σ H _ I (Z.sem S ((KE.bind h).imp λw0 k0 y0 F0' H0' g0 q0=>?_)))
 have r0:=Vok.rd q0
 revert k0
 generalize w0.d=d0 at r0;intro k0;cases d0<;>first|(cases fe:f ρ with|exc _=>rw[fe]at k0;exact k0.elim|stuck=>rw[fe]at k0;exact k0.elim|ok w=>rw[fe]at k0;exact(show False from k0).elim)|skip
 rename_i xs;obtain⟨p,vs,rfl,hq,rs⟩:=RdV.lst g0.s r0;refine#[.inl #[rfl,vs,hq],he.sem (S.grow g0) ((KE.bind k0).imp λw k y F1 H1 g1 q1=>?_)]
 have r:=Vok.rd q1
 revert k
 generalize w.d=d at r;intro k;cases d<;>first|exact k.elim|skip
 rename_i v
 delta ud at k
 dsimp only at k;cases ei:jO xs with
 | none=>rw[ei]at k;exact k.elim
 | some ns =>
  rw[ei]at k;dsimp only at k;have ev:=wX ei rs;subst ev;cases ej:ns.findIdx? (λn=>n==v)with
  | none=>rw[ej]at k;exact k.elim
  | some j =>
   rw[ej]at k;cases RdV.int r;exact#[p,ns,v,j,rfl,SqL.le g1.h hq,rfl,ej,λu s' rv I'=>k j[6] u F1 H1 s' (g0.trans g1) rfl rv I']
end
open PySem L2
def zW{α:Type}(n:Nat)(xs:List α):List α:=(List.replicate n xs).flatten
def K1{α:Type}(xs:List α):∀ n,(zW n xs)[1]=xs[1]*n:=λn=>n.recAux
 (by simp[zW])
 λn IH=>by
  have:=IH;unfold zW at this ⊢;rw[pP,tP,gH,this,Nat.mul_succ];lia
def Reps.rep(h:Reps κ F vs ds):∀ n,Reps κ F (zW n vs) (zW n ds):=λn=>n.recAux
 (rfl)
 λn IH=>by
  have:=IH;exact Reps.append h this
def Vals.rep(h:Vals vs us):∀ n,Vals (zW n vs) (zW n us):=λn=>n.recAux
 (.nil)
 λn IH=>by
  have:=IH;exact Vals.append h this
def kS:D->D->R En
 | .int i,.lst xs=>if i<1048576/\-1048576<=i/\xs[1]*i.toNat<=sz then .ok (.lst (zW i.toNat xs))[9]else .stuck
 | .lst xs,.int i=>if i<1048576/\-1048576<=i/\xs[1]*i.toNat<=sz then .ok (.lst (zW i.toNat xs))[9]else .stuck
 | x,y=>jJ x y
section
variable{X:Cx}
def qbg:OpD X (binaryOp .Mult) kS:=by
 intro pins s σ F H x y v u dx dy Q I l rx ry qx qy w;cases dx<;>first|exact w.elim|skip
 .rename_i i;cases dy<;>first|exact w.elim|skip
  .exact v7 pins s σ F H x y v u _ _ Q I l rx ry qx qy w
  rename_i xs
  delta kS at w
  dsimp only at w;split at w
  .rename_i c;obtain⟨b,us,rfl,hq,rs⟩:=RdV.lst l qy;cases RdV.int qx;obtain⟨t1,rfl⟩:=rx;cases (show u=Value.ref b from ry)
   obtain⟨its,rv,pl,hz⟩:=I.list hq;obtain⟨⟨cls,dd,data,sl⟩,ho,hc,n,hd⟩:=pl.isList;simp only at hc hd;subst hc hd;have hl:its.toArray.size*i.toNat<=sizeLine:=by
    rw[gZ,<- rv[1],Reps.length rs,<- zO];exact c.2.2
   have z:its.toArray.size*i.toNat<=16777216:=hl;have B:((2 ^ 63-1)/8)=1152921504606846975:=by decide
   refine lm_binaryOp_repeat_right (T:="list") (U:="int") "d" (λs'=>bz s' i t1) #[_,ho,rfl] PySem.F.fills_int_mul noFill_list_mul PySem.F.slot_int_mul lm_noRepeat_int repeat_list PySem.F.slot_int_index.lookup (bA PySem.F.slot_int_mul (bz s i t1) PySem.F.entry_int_mul (PySem.F.args_int_mul_2 _ _) (lm_int_mul_list_any i t1 b its.toArray n dd sl) #[ho,rfl,#[_,ho,rfl],bA PySem.F.slot_list_mul #[_,ho,rfl] PySem.F.entry_list_mul (PySem.F.args_list_mul_2 _ _) (lm_list_mul_any b its.toArray n dd sl i t1 (by simp[Builtin.List.listFitsIndex];lia) (by rw[B];lia) (by simp[Builtin.List.listTooLong,sizeLine];simpa using z)) #[ho,?_]])
   rw[listMul_foldl_if];have hp:H s[0]=none:=I.hok.fresh (gE _);refine#[.ref s[0],upd H s[0] (.lst (zW i.toNat us)),I.laid (t':=s.toks) (λb o q=>gy _ q) (gE _) #[?_,zW i.toNat its,0,Vals.rep rv _,gN _ rfl],rfl,?_]
   .rw[K1,rv[1]];simpa using hl
   exact w _ _ _ (Gr.new l hp) #[_,_,rfl,hp,Le.none l hp,qP,Reps.rep rs _]
  exact w.elim
 rename_i xs;cases dy<;>first|exact w.elim|skip
 rename_i i
 delta kS at w
 dsimp only at w;split at w
 .rename_i c;obtain⟨b,us,rfl,hq,rs⟩:=RdV.lst l qx;cases RdV.int qy;obtain⟨t1,rfl⟩:=ry;cases (show v=Value.ref b from rx)
  obtain⟨its,rv,pl,hz⟩:=I.list hq;obtain⟨⟨cls,dd,data,sl⟩,ho,hc,n,hd⟩:=pl.isList;simp only at hc hd;subst hc hd;have hl:its.toArray.size*i.toNat<=sizeLine:=by
   rw[gZ,<- rv[1],Reps.length rs,<- zO];exact c.2.2
  have z:its.toArray.size*i.toNat<=16777216:=hl;have B:((2 ^ 63-1)/8)=1152921504606846975:=by decide
  refine wpAny_binaryOp_repeat_ref (T:="list") (U:="int") "d" #[_,ho,rfl] (λs'=>bz s' i t1) noFill_list_mul PySem.F.fills_int_mul PySem.F.slot_int_rmul repeat_list PySem.F.slot_int_index.lookup (bA PySem.F.slot_int_rmul (bz s i t1) PySem.F.entry_int_rmul (PySem.F.args_int_rmul_2 _ _) (lm_int_rmul_list_any i t1 b its.toArray n dd sl) #[ho,rfl,#[_,ho,rfl],bA PySem.F.slot_list_mul #[_,ho,rfl] PySem.F.entry_list_mul (PySem.F.args_list_mul_2 _ _) (lm_list_mul_any b its.toArray n dd sl i t1 (by simp[Builtin.List.listFitsIndex];lia) (by rw[B];lia) (by simp[Builtin.List.listTooLong,sizeLine];simpa using z)) #[ho,?_]])
  rw[listMul_foldl_if];have hp:H s[0]=none:=I.hok.fresh (gE _);refine#[.ref s[0],upd H s[0] (.lst (zW i.toNat us)),I.laid (t':=s.toks) (λb o q=>gy _ q) (gE _) #[?_,zW i.toNat its,0,Vals.rep rv _,gN _ rfl],rfl,?_]
  .rw[K1,rv[1]];simpa using hl
  exact w _ _ _ (Gr.new l hp) #[_,_,rfl,hp,Le.none l hp,qP,Reps.rep rs _]
 exact w.elim
end
def y6:List Int->List (List Int)->List Int
 | m,[]=>m
 | m,q::r=>y6 (if HT.lexLt q m=true then q else m) r
section
variable{prog:ag}{w:World}{A:aj}{R:Result->ab->Prop}{I l S:Addr}{us:List aa}{rk:aa->List Int}{h0:Heap}{M:List Int}
def y7(h0 h:Heap):Prop:=∀ b o,h0.get? b=!o->h.get? b=!o
def qbh{s0:ab}(hh:A.handled=none)(ne:l≠I)(nS:S≠I)(nl:S≠l)(hI:h0.get? I=none)(hS0:h0.get? S=none)
  (cmp:∀ u∈us,∀ v∈us,∀ s Q E,y7 h0 s.heap->Q (.bool (HT.lexLt (rk u) (rk v))) s->wpAny (model prog w) A.in1 (richCompare .Lt u v) Q E s)
  (fin:∀ v h' tk,v∈us->rk v=M->y7 h0 h'->R (.ok (.ret v)) {s0 with heap:=h',toks:=tk}) :
  ∀ k j h t vb c,us[1]-(j+1)=k->j+1<=us[1]->h.IsListIter I l (j+1)->h.IsList l us.toArray->vb∈us->y6 (rk vb) ((us.drop (j+1)).map rk)=M ->
   h.get? S=↑#[.type "list",none,.seq (List.toArray [vb,vb]) c,#[]]->y7 h0 h ->
   codeAny (model prog w) A (.builtin "min.loop" #[[.ref I,.none,.ref S],[]]) R {s0 with heap:=h,toks:=t}:=by
 have W:=Walks.list (prog:=prog) (w:=w) (A:=A.in1) hh I l ne us.toArray;have U:(toString "min"++toString ".loop")="min.loop":=by decide
 have zl:us.toArray.size=us[1]:=gZ ..;have nSw:S∉[I]:=by simp[nS]
 have no:∀{b} {o},h0.get? b=!o->b≠I/\b≠S:=by
  lia
 intro k
 induction k with
 | zero =>
  intro j h t vb c hk hj it il hb hm hS kp;have hin:j+1=us[1]:=""
  refine dL dR ?_;rw[bu pi _];refine(show wpAny _ A.in1 (seqItems? (.ref S) >>= _) _ _ _ from gg (fG (s:={s0 with heap:=h,toks:=t}) hS rfl ?_))
  refine(show wpAny _ A.in1 (tryCatch (pyNext (.ref I)) _ >>= _) _ _ _ from gg (cT (W.done {s0 with heap:=h,toks:=t} _ _ #[by rw[zl,<- hin];exact it,il] λh1 t1 k1=>?_)))
  have z:=k1 S _ nSw hS;refine(show wpAny _ A.in1 (updateSeq S (λ_=>#[]) >>= _) _ _ _ from gg (cF z rfl (gg (pR (gC ?_)))))
  refine fin vb _ t1 hb ?_ λb o e=>?_
  .rw[hin,dj]at hm;exact hm
  exact(tR _ _ (tm (no e).2)).trans (k1 b o (by simp[(no e).1]) (kp b o e))
 | succ k ih =>
  intro j h t vb c hk hj it il hb hm hS kp;have B:j+1<us[1]:=""
  refine dL dR ?_;rw[bu pi _];refine(show wpAny _ A.in1 (seqItems? (.ref S) >>= _) _ _ _ from gg (fG (s:={s0 with heap:=h,toks:=t}) hS rfl ?_))
  refine(show wpAny _ A.in1 (tryCatch (pyNext (.ref I)) _ >>= _) _ _ _ from gg (cT (W.item (j+1) {s0 with heap:=h,toks:=t} _ _ (by rw[zl];exact B) #[it,il] λv h1 t1 hP O k1=>?_)))
  have z:=k1 S _ nSw hS;have Y:us[j+1]?=!v:=by simpa using hP
  have hv:v∈us:=hV Y;have dr:us.drop (j+1)=v::us.drop (j+1+1):=by
   rw[fR B];congr 1;rw[gJ B]at Y;exact tH Y
  have Z:y7 h0 h1:=λb o e=>k1 b o (by simp[(no e).1]) (kp b o e)
  rw[dr,gW]at hm;refine(show wpAny _ A.in1 (tryCatch (holding [v,v] (richCompare .Lt v vb >>= _)) _ >>= _) _ _ _ from gg (cT (fS (gg (cmp v hv vb hb _ _ _ Z ?_)))))
  refine gg (fS (pN (gg (pR (gC ?_)))));unfold y6 at hm;cases hl:HT.lexLt (rk v) (rk vb)with
  | true =>
   rw[hl]at hm;simp only[dz]at hm ⊢;refine gg (cF z rfl (gg (pR ?_)));rw[U];have oth:∀ b,b≠S->∀ o,h1.get? b=!o->(h1.update S (Obj.mapSeq λ_=>(List.toArray [v,v]))).get? b=!o:=λb nb o e=>(tR _ _ (tm nb)).trans e
   exact gC #[cq pi _,ih (j+1) _ _ v _ "" B (O.1.at λo e=>oth I (tm nS) o e) (O.2.at λo e=>oth l (tm nl) o e) hv hm (f9 _ z rfl) λb o e=>oth b (no e).2 o (Z b o e)]
  | false =>
   rw[hl]at hm;simp only[f8,cK]at hm ⊢;refine gg (pR ?_);rw[U];exact gC #[cq pi _,ih (j+1) _ _ vb c "" B O.1 O.2 hb hm z Z]
def qbi{Q:aa->ab->Prop}{E:aa->ab->Prop}(hh:A.handled=none)(hl:s.heap.IsList l us.toArray){u0:aa}{ur:List aa}(U:us=u0::ur)(hM:y6 (rk u0) (ur.map rk)=M)
  (cmp:∀ u∈us,∀ v∈us,∀ s' Q E,y7 s.heap s'.heap->Q (.bool (HT.lexLt (rk u) (rk v))) s'->wpAny (model prog w) A.in1 (richCompare .Lt u v) Q E s')
  (fin:∀ v h' tk,v∈us->rk v=M->y7 s.heap h'->Q v {s with heap:=h',toks:=tk}) :
  wpAny (model prog w) A (call (.builtin "min") [.ref l]) Q E s:=by
 have Z:(toString "min"++toString ".loop")="min.loop":=by decide
 have hlt:l<s[0]:=by
  obtain⟨oo,eo,_⟩:=id hl;exact gU eo
 refine call_function_tree PySem.F.kind_min PySem.F.plain_min PySem.F.entry_min (PySem.F.args_min1 _) ?_;refine(show wpAny _ A.in1 (Builtin.Builtins.bindParams "min" ["key","default"] 0 #[[],[]] >>= _) _ _ s from gg (wpAny_of_eq (show Builtin.Builtins.bindParams "min" ["key","default"] 0 #[[],[]]=pure [none,none]from rfl) (gg (gC ?_))))
 refine gg (wpAny_pyIter_list hl (gg (tZ ?_)));refine gC #[cq pi _,dL dR ?_];generalize eh:(s.heap.push {cls:=.type "list_iterator",data:=.fields (List.toArray [.ref l,.int 0 0])})=hA;have zA:hA.objs.size=s[0]+1:=by rw[<- eh];exact cR ..
 have kA:y7 s.heap hA:=λb o e=>by rw[<- eh];exact gy _ e
 have itA:hA.IsListIter s[0] l 0:=by rw[<- eh];exact#[_,gN _ rfl,rfl,rfl]
 have B:hA.objs.size≠s[0]:=""
 have lB:hA.IsList l us.toArray:=hl.at λo e=>kA _ _ e
 have far:∀ b,s[0]<=b->s.heap.get? b=none:=λb hb=>by
  cases e:s.heap.get? b with
  | none=>rfl
  | some o=>exact absurd (gU e) (Nat.not_lt.mpr hb)
 have nI:s.heap.get? s[0]=none:=far _ (gE _);have nS:s.heap.get? hA.objs.size=none:=far _ (by rw[zA];exact bF _)
 generalize eB:(hA.push {cls:=.type "list",data:=.seq #[]})=hB;have kB:y7 hA hB:=λb o e=>by rw[<- eB];exact gy _ e
 have hS:hB.get? hA.objs.size=↑#[.type "list",none,.seq #[] 0,#[]]:=by rw[<- eB];exact gN _ rfl
 have ne:l≠s[0]:=t7 hlt;have nl:hA.objs.size≠l:=λz=>by rw[zA]at z;exact absurd hlt (by rw[<- z];exact Nat.not_lt.mpr (bF _))
 have W:=Walks.list (prog:=prog) (w:=w) (A:=A.in1) hh s[0] l ne us.toArray;have e0:us[0]?=!u0:=by rw[U];rfl
 refine(show wpAny _ A.in1 (seqItems? (.ref hA.objs.size) >>= _) _ _ _ from gg (fG (s:={s with heap:=hB}) hS rfl ?_))
 refine(show wpAny _ A.in1 (tryCatch (pyNext (.ref s[0])) _ >>= _) _ _ _ from gg (cT (W.item 0 {s with heap:=hB} _ _ (by rw[U];simp) #[itA.at λo e=>kB _ _ e,lB.at λo e=>kB _ _ e] λv h1 t1 hP Y k1=>?_)))
 have hv:v=u0:=by
  have:us[0]?=!v:=by simpa using hP
  rw[e0]at this;exact(tH this).symm
 subst hv;have hS1:=k1 hA.objs.size _ (by simp[B]) hS
 refine(show wpAny _ A.in1 (updateSeq hA.objs.size (λ_=>(List.toArray [v,v])) >>= _) _ _ _ from gg (cF hS1 rfl ?_))
 rw[Z];have O:∀ b,b≠hA.objs.size->∀ o,h1.get? b=!o->(h1.update hA.objs.size (Obj.mapSeq λ_=>(List.toArray [v,v]))).get? b=!o:=λb nb o e=>(tR _ _ (tm nb)).trans e
 refine gC #[cq pi _,qbh (s0:=s) (h0:=s.heap) (M:=M) (rk:=rk) hh ne B nl nI nS cmp (λv h' tk hv he kp=>fin v h' tk hv he kp) _ 0 _ _ v _ rfl (by rw[U];simp) (Y.1.at λo e=>O _ (tm B) o e) (Y.2.at λo e=>O l (tm nl) o e) (by rw[U];exact t4) (by rw[U];exact hM) (f9 _ hS1 rfl) λb o e=>?_]
 have n1:b≠s[0]:=λz=>by rw[z,nI]at e;cases e
 have n2:b≠hA.objs.size:=λz=>by rw[z,nS]at e;cases e
 exact O b n2 o (k1 b o (by simp[n1]) (kB _ _ (kA _ _ e)))
end
def kT:List D->R En
 | [.lst ds]=>(match vJ ds with|some (a::r)=>.ok (qN (y6 a r))[8]|_=>.stuck)
 | _=>.stuck
def qbj(Y:X.A.units+10<cLine)(U:(X.calm=true)["r"]):zM X (.builtin "min") kT:=by
 intro pins s σ F H xs us ds Q I l rx qx w;cases qx with
 | nil=>cases w
 | cons q1 q2 =>
  rename_i d _ _;cases q2 with
  | cons _ _=>cases d<;>exact w.elim
  | nil =>
   cases d<;>first|exact w.elim|skip
   rename_i ds
   delta kT at w
   dsimp only at w;cases e:vJ ds with
   | none=>rw[e]at w;cases w
   | some rs =>
    rw[e]at w;cases rs with
    | nil=>cases w
    | cons a r =>
     obtain⟨p,vs,rfl,hq,O⟩:=RdV.lst l q1;cases rx with
     | cons r1 r2 =>
      cases r2;cases r1;obtain⟨its,rv,pl,hz⟩:=I.list hq;obtain⟨m,k⟩:=Zz I l e O rv;cases its with
      | nil=>cases m
      | cons u0 ur =>
       injection m with m1 m2;refine qbi (rk:=qU s.heap) (I.ok.hd U) pl.isList rfl (by rw[m1,m2]) (λu B v z s' Q' E' kp q=>?_) λv h' tk z hm kp=>?_
       .obtain⟨b1,i1,n1,rfl,t1,j1,_,_⟩:=k u B;obtain⟨b2,i2,n2,rfl,t2,j2,_,_⟩:=k v z;rw[wG t1 j1,wG t2 j2]at q;have up:∀{b} {i:List aa},PyProof.Rows.IsTup s.heap b i.toArray->PyProof.Rows.IsTup s'.heap b i.toArray:=by
         intro b i t;obtain⟨o,eo,rest⟩:=t;exact#[o,kp b o eo,rest]
        exact HT.lt_tupInts (up t1) (up t2) j1 j2 (by show X.A.units+1<cLine;lia) q
       obtain⟨b1,i1,n1,rfl,t1,j1,rp,_⟩:=k v z;rw[wG t1 j1]at hm;subst hm;exact#[.ref b1,H,I.kept kp,rfl,jo l w rp]
def vc(a b c:Int):Int:=if a>b then a-b else 0
def ZL:D->D->D->R (List D)
 | .int a,.int b,.int c=>if -1000000<=a/\a<=1000000/\-1000000<=b/\b<=1000000/\c=-1 then .ok (kR a c (vc a b c).toNat)else .stuck
 | _,_,_=>.stuck
def iR3d(a b c:EF):IF:=λρ=>(a ρ).bind λx=>(b ρ).bind λy=>(c ρ).bind λz=>ZL x.d y.d z.d
def K2{a b c:Int}(h:c=-1):Builtin.Range.rangeSize a b c=vc a b c:=by
 subst h
 delta Builtin.Range.rangeSize vc
 simp
def qbk(h1:-1000000<=a)(h2:a<=1000000)(z:-1000000<=b)(B:b<=1000000)(h:c=-1):Builtin.Range.small a b c=true:=by
 delta Builtin.Range.small
 rw[K2 h]
 delta vc
 simp only[Builtin.Range.rangeFitsLong,hX,decide_eq_true_eq];subst h
 grind
def qbl{X:Cx}(ha:"S" a fa)(B:"S" b fb)(hc:"S" c fc)(z:X.mg "range"=none)(hg:(Gl X "range")["r"])
  (hs:(starEach [a,b,c] X.env=(false,eval a X.env)::starEach [b,c] X.env)["r"])(O:(starEach [b,c] X.env=(false,eval b X.env)::starEach [c] X.env)["r"])(U:(starEach [c] X.env=[(false,eval c X.env)])["r"])(Y:((backTo cp (starEach [b,c] X.env)).any (·.1)=false)["r"]) :
  SI X F0 H0 tg (.Call (.Name "range" np) [a,b,c] [] cp) (iR3d fa fb fc):=by
 refine#[λσ H R=>(uZ (kg X a) (uZ (kg X b) (uZ (kg X c) Wr))) σ H λvs H1=>∃ i j k,vs=[.int i,.int j,.int k]/\(-1000000<=i/\i<=1000000/\-1000000<=j/\j<=1000000/\k=-1)/\R (Itr3 i k (vc i j k).toNat) H1,λpins s σ H R I h=>?_,λσ F H ρ R S h=>?_]
 .refine Call_ (zL I hg z boot_range (tD (thn ((zo (jd (e:=a)) (zo (jd (e:=b)) (zo (jd (e:=c)) vC U) O) hs) cp pins s σ H _ I h) λus s1 #[vs,H1,I1,r1,q1]=>?_) hs Y))
  obtain⟨i,j,k,rfl,⟨b1,b2,b3,b4,b5⟩,hR⟩:=q1;cases r1 with
  | cons r r1 =>
   cases r1 with
   | cons r' r1 =>
    cases r1 with
    | cons r'' r1 =>
     cases r1;obtain⟨t,rfl⟩:=r;obtain⟨t',rfl⟩:=r';obtain⟨Z,rfl⟩:=r'';refine call_range_3 "" ?_ (.inl (PyProof.noPylong_small ""))
     refine wpAny_pyIter_range (IsRange.new ..) (qbk b1 b2 b3 b4 b5) ?_;have I2:"I" H1 {s1 with heap:=s1.heap.push {cls:=.type "range",data:=.fields (List.toArray [.int i t,.int j t',.int k Z])}}:=I1.kept (t':=s1.toks) λb o e=>gy _ e
     have n0:0<=vc i j k:=by delta vc;split<;>lia
     refine#[_,[_],_,_,H1,rfl,I2.kept (t':=s1.toks) λb o e=>gy _ e,qb3 _ i k (vc i j k).toNat,?_,λb B=>?_,hR]
     .have e1:i+(0:Nat)*k=i:=by simp
      have e2:((vc i j k).toNat)-(0:Nat)=Builtin.Range.rangeSize i j k:=by rw[K2 b5];lia
      rw[e1,e2];exact gN _ rfl
     rw[tQ]at B;subst B;exact I2.fpOk (gE _) (I2.hok.fresh (gE _))
 refine ha.sem S ((KE.bind h).imp λw1 k1 v1 F1 H1 g1 q1=>B.sem (S.grow g1) ((KE.bind k1).imp λw2 k2 v2 F2 H2 g2 q2=>hc.sem ((S.grow g1).grow g2) ((KE.bind k2).imp λw3 k3 v3 F3 H3 g3 q3=>?_)))
 have r1:=RdV.gr g3 (RdV.gr g2 (Vok.rd q1));have r2:=RdV.gr g3 (Vok.rd q2);have r3:=Vok.rd q3
 revert k3
 generalize w1.d=d1 at r1;generalize w2.d=d2 at r2;generalize w3.d=d3 at r3;intro k3;cases d1<;>first|exact k3.elim|skip
 cases d2<;>first|exact k3.elim|skip
 cases d3<;>first|exact k3.elim|skip
 rename_i i j k
 delta ZL at k3
 dsimp only at k3;by_cases cc:-1000000<=i/\i<=1000000/\-1000000<=j/\j<=1000000/\k=-1
 .rw[if_pos cc]at k3;cases RdV.int r1;cases RdV.int r2;cases RdV.int r3;have k3:∀ F' H' J,Gr F H F' H'->Walk (kx X) J F' H0 (kR i k (vc i j k).toNat)->R J H':=k3;refine#[i,j,k,rfl,cc,k3 F3 H3 _ ((g1.trans g2).trans g3) #[λm d F' H' ed l1 l2 _=>?_,λm F' H' z l1 l2 _=>?_]]
  .unfold kR at ed;rw[gM]at ed;obtain⟨q,eq,rfl⟩:=cW.mp ed;have hq:=gw.mp eq;have z:m<(vc i j k).toNat:=by simpa using hq.1
   have em:q=m:=by
    rw[pt z]at eq;exact(tH eq).symm
   subst em;refine#[z,λy H2' hy=>?_]
   obtain⟨rfl,rfl⟩:=hy;exact#[F',Gr.refl l2,rfl]
  show(vc i j k).toNat<=m;simpa[kR]using z
 rw[if_neg cc]at k3;exact k3.elim
section
variable{prog:ag}{w:World}{A:aj}{E:aa->ab->Prop}{s:ab}
end
def qbm(dn:Den)(fa:List EF)(ρ:Rho):Option Xc:=match evs fa ρ with
 | .ok ws=>(match jW ws with
  | .ok ys=>(match dn ys with
   | .exc x=>!x
   | _=>none)
  | _=>none)
 | _=>none
def sX(dn:Den)(fa:List EF)(st:SF):SF:=λρ=>match qbm dn fa ρ with
 | some x=>.exc (nrm x)
 | none=>st ρ
section
variable{X:Cx}{F0 H0:Hp}{pos p pos2:Pos}{e:Expr}{es:List Expr}{fa:List EF}{x:Str}{k n:Nat}{f:Addr}{fd:FuncData}{ps:List Str}{dn:Den}{st:SF}
end
def qbn:Bool->am->Array am->Nat->Nat->Nat->StateT ao Sem (Option Nat):=sortPriv% PySem.Builtin.gallop
def qbo:Nat->StateT ao Sem Unit:=sortPriv% PySem.Builtin.setMinGallop
def qbp:Array am->Array am->StateT ao Sem (Array am):=sortPriv% PySem.Builtin.mergeLo
def qbq:Array am->Array am->StateT ao Sem (Array am):=sortPriv% PySem.Builtin.mergeHi
section
variable{prog:ag}{w:World}{A:aj}{E:aa->ab->Prop}{s:ab}{kd:SortKind}{rk:aa->Int}{ini:Array am}
def ask2{st:ao}{p q:am}{Q:Option Bool->ao->Prop}(T:Tells prog w A s kd rk ini)(z:kindOf st=kd)(hp:p∈ini[2])(B:q∈ini[2])(h:Q (!(decide (rk p.1<rk q.1))) st):wpS (model prog w) A E s (lt' p q) Q st:=by
 rw[lt'_eq];refine wpS_bind (bT ?_);rw[z];exact wpS_bind (mw (mm (T.lt p hp q B _ _ #[rfl,wpS_pure h])))
def jU{st:ao}{i:Nat}{Q:am->ao->Prop}(h:xs[i]?=!p)(q:Q p st):wpS (model prog w) A E s (elem' xs i) Q st:=by
 rw[elem'_eq,h];exact wpS_pure q
abbrev bey(z:Bool)(key:am)(B:Array am)(base i:Nat):StateT ao Sem (Option Bool):=elem' B (base+i) >>= λx=>if z=true then lt' x key else lt' key x >>= λo=>pure (o.map not)
def qbr{st:ao}{z:Bool}{key p:am}{base i:Nat}{Q:Option Bool->ao->Prop}(T:Tells prog w A s kd rk ini)(O:kindOf st=kd)(hkey:key∈ini[2])(hp:arr[base+i]?=!p)(B:p∈ini[2])(ne:rk p.1≠rk key.1)
  (h:Q (!(decide (rk p.1<rk key.1))) st):wpS (model prog w) A E s (bey z key arr base i) Q st:=by
 refine wpS_bind (jU hp ?_);cases z
 .rw[if_neg "d"]
  refine wpS_bind (ask2 T O hkey B ?_);refine wpS_pure ?_;have e:(not (decide (rk key.1<rk p.1)))=decide (rk p.1<rk key.1):=by
   lia
  simpa[e]using h
 rw[if_pos rfl];exact ask2 T O B hkey h
structure Seg(rk:Value->Int)(ini arr:Array Keyed)(key:Keyed)(base n:Nat):Prop where
 sz:base+n<=arr.size
 mem:∀ p∈arr[2],p∈ini[2]
 hkey:key∈ini[2]
 up:∀ i j,i<j->j<n->av rk arr (base+i)<av rk arr (base+j)
 ne:∀ i,i<n->av rk arr (base+i)≠rk key.1
def Seg.get(S:Seg rk ini arr key base n){i:Nat}(h:i<n):∃ p,arr[base+i]?=!p/\p∈ini[2]/\av rk arr (base+i)=rk p.1:=by
 have hi:base+i<arr.size:=by have:=S.sz;lia
 refine#[arr[base+i],pA arr (base+i) hi,S.mem _ "s",?_]
 delta av
 simp_all
def Seg.ask{st:ao}{z:Bool}{key:am}{base n i:Nat}{Q:Option Bool->ao->Prop}(T:Tells prog w A s kd rk ini)(B:kindOf st=kd)(S:Seg rk ini arr key base n)(h:i<n)
  (q:Q (!(decide (av rk arr (base+i)<rk key.1))) st):wpS (model prog w) A E s (bey z key arr base i) Q st:=by
 obtain⟨p,h1,h2,h3⟩:=S.get h;have ne:=S.ne i h;rw[h3]at ne q;exact qbr T B S.hkey h1 h2 ne q
def Seg.le(S:Seg rk ini arr key base n){i j:Nat}(h:i<=j)(z:j<n):av rk arr (base+i)<=av rk arr (base+j):=by
 rcases bO i j with c|c
 .exact cI (S.up i j c z)
 rw[show i=j by lia];exact pF _
def QN(rk:aa->Int)(z:Array am)(key:am)(base n k:Nat):Prop:=k<=n/\(∀ i,i<k->av rk z (base+i)<rk key.1)/\∀ i,k<=i->i<n->rk key.1<av rk z (base+i)
def kU{st:ao}{O:Bool}{base n B:Nat}{Q:Option Nat->ao->Prop}(T:Tells prog w A s kd rk ini)(U:kindOf st=kd)(S:Seg rk ini arr key base n)(Y:B<n)
  (h:∀ k,QN rk arr key base n k->Q ↑k st):wpS (model prog w) A E s (qbn O key arr base n B) Q st:=by
 have fin:∀ f lo hi,
   (∀ x l r R,r<=n->(r<=l->R (.done (none,l,r)) st)->(l<r->R (if av rk arr (base+(l+(r-l)/2))<rk key.1 then .yield (none,l+(r-l)/2+1,r)else .yield (none,l,l+(r-l)/2)) st)->wpS (model prog w) A E s (f x (none,l,r)) R st) ->
   lo<=hi->hi<=n->(∀ i,i<lo->av rk arr (base+i)<rk key.1)->(∀ i,hi<=i->i<n->rk key.1<av rk arr (base+i)) ->
   wpS (model prog w) A E s (forIn [:n] ((none,lo,hi):Option (Option Nat)×Nat×Nat) f) (λc z=>c.1=none/\z=st/\QN rk arr key base n c.2.2) st:=by
  refine λf lo hi hf l1 l2 l3 l4=>wpS_forRange (λx c z=>z=st/\∃ lo hi,c=(none,lo,hi)/\lo<=hi/\hi<=n/\hi-lo<=n-x/\(∀ i,i<lo->av rk arr (base+i)<rk key.1)/\(∀ i,hi<=i->i<n->rk key.1<av rk arr (base+i))) (λx c z _ lx hI=>?_) (λc z hI=>?_) #[rfl,lo,hi,rfl,l1,l2,"",l3,l4]
  .obtain⟨rfl,lo,hi,rfl,a1,a2,a3,a4,a5⟩:=hI;refine hf x lo hi _ a2 (λc=>?_) λc=>?_
   .have e:lo=hi:=""
    subst e;exact#[rfl,rfl,a2,a4,a5]
   by_cases d:av rk arr (base+(lo+(hi-lo)/2))<rk key.1
   .rw[if_pos d];refine#[rfl,_,_,rfl,"",a2,"o",λi Z=>?_,a5]
    have:=S.le (i:=i) (j:=lo+(hi-lo)/2) "" ""
    lia
   rw[if_neg d];refine#[rfl,_,_,rfl,"","","o",a4,λi g1 g2=>?_]
   have:=S.le (i:=lo+(hi-lo)/2) (j:=i) g1 g2;have:=S.ne (lo+(hi-lo)/2) ""
   lia
  obtain⟨rfl,lo,hi,rfl,a1,a2,a3,a4,a5⟩:=hI;have e:lo=hi:=""
  subst e;exact#[rfl,rfl,a2,a4,a5]
 refine wpS_bind (m:=bey O key arr base B) (S.ask T U Y ?_);dsimp only;by_cases c:av rk arr (base+B)<rk key.1
 .rw[tL c,if_pos rfl];refine wpS_bind (wpS_mono (wpS_forRange (λx c z=>z=st/\∃ lf of,c=(none,lf,of)/\lf<of/\lf<n-B/\x+1<=of/\av rk arr (base+(B+lf))<rk key.1)
   (Q:=λc z=>z=st/\∃ lf of,c=(none,lf,of)/\lf<of/\lf<n-B/\av rk arr (base+(B+lf))<rk key.1/\(n-B<=of\/rk key.1<av rk arr (base+(B+of)))) (λx c z _ lx hI=>?_) (λc z hI=>?_) #[rfl,0,1,rfl,"","","",by simpa using c]) λc z hc=>?_)
  .obtain⟨rfl,lf,of,rfl,a1,a2,a3,a4⟩:=hI;dsimp only;by_cases d:of≥n-B
   .rw[if_pos d];exact wpS_pure #[rfl,lf,of,rfl,a1,a2,a4,.inl d]
   rw[if_neg d];refine wpS_bind (m:=bey O key arr base (B+of)) (S.ask T U "" ?_)
   by_cases e:av rk arr (base+(B+of))<rk key.1
   .rw[tL e];exact wpS_pure #[rfl,of,2*of+1,rfl,"","","",e]
   rw[t9 e];have:=S.ne (B+of) ""
   exact wpS_pure #[rfl,lf,of,rfl,a1,a2,a4,.inr ""]
  .obtain⟨rfl,lf,of,rfl,a1,a2,a3,a4⟩:=hI;exact#[rfl,lf,of,rfl,a1,a2,a4,.inl ""]
  obtain⟨rfl,lf,of,rfl,a1,a2,a4,a5⟩:=hc;dsimp only;refine wpS_bind (wpS_mono (fin _ (B+lf+1) (B+min of (n-B)) (λx l r R hr g1 g2=>by
   dsimp only;by_cases d:l≥r
   .rw[if_pos d];exact wpS_pure (g1 d)
   rw[if_neg d];have g2:=g2 ""
   refine wpS_bind (m:=bey O key arr base (l+(r-l)/2)) (S.ask T U "" ?_)
   by_cases e:av rk arr (base+(l+(r-l)/2))<rk key.1
   .rw[if_pos e]at g2;rw[tL e];exact wpS_pure g2
   rw[if_neg e]at g2;rw[t9 e];exact wpS_pure g2) "" "" (λi hi=>?_) λi g1 g2=>?_) λc z hc=>?_)
  .have:=S.le (i:=i) (j:=B+lf) "" ""
   lia
  .rcases a5 with a5|a5
   .omega
   have:=S.le (i:=B+of) (j:=i) "" g2
   lia
  obtain⟨c1,rfl,pl⟩:=hc;rw[c1];exact wpS_pure (h _ pl)
 rw[t9 c,if_neg "d"]
 have ne0:=S.ne B Y;refine wpS_bind (wpS_mono (wpS_forRange (λx c z=>z=st/\∃ lf of,c=(none,lf,of)/\lf<of/\lf<=B/\x+1<=of/\rk key.1<av rk arr (base+(B-lf)))
  (Q:=λc z=>z=st/\∃ lf of,c=(none,lf,of)/\lf<of/\lf<=B/\rk key.1<av rk arr (base+(B-lf))/\(B+1<=of\/(of<=B/\av rk arr (base+(B-of))<rk key.1))) (λx c z _ lx hI=>?_) (λc z hI=>?_) #[rfl,0,1,rfl,"","","",by simp;lia]) λc z hc=>?_)
 .obtain⟨rfl,lf,of,rfl,a1,a2,a3,a4⟩:=hI;dsimp only;by_cases d:of≥B+1
  .rw[if_pos d];exact wpS_pure #[rfl,lf,of,rfl,a1,a2,a4,.inl d]
  rw[if_neg d];refine wpS_bind (m:=bey O key arr base (B-of)) (S.ask T U "" ?_)
  by_cases e:av rk arr (base+(B-of))<rk key.1
  .rw[tL e];exact wpS_pure #[rfl,lf,of,rfl,a1,a2,a4,.inr #["",e]]
  rw[t9 e];have:=S.ne (B-of) ""
  exact wpS_pure #[rfl,of,2*of+1,rfl,"","","",""]
 .obtain⟨rfl,lf,of,rfl,a1,a2,a3,a4⟩:=hI;exact#[rfl,lf,of,rfl,a1,a2,a4,.inl ""]
 obtain⟨rfl,lf,of,rfl,a1,a2,a4,a5⟩:=hc;dsimp only;refine wpS_bind (wpS_mono (fin _ (B+1-min of (B+1)) (B-lf) (λx l r R hr g1 g2=>by
  dsimp only;by_cases d:l≥r
  .rw[if_pos d];exact wpS_pure (g1 d)
  rw[if_neg d];have g2:=g2 ""
  refine wpS_bind (m:=bey O key arr base (l+(r-l)/2)) (S.ask T U "" ?_)
  by_cases e:av rk arr (base+(l+(r-l)/2))<rk key.1
  .rw[if_pos e]at g2;rw[tL e];exact wpS_pure g2
  rw[if_neg e]at g2;rw[t9 e];exact wpS_pure g2) "o" "" (λi hi=>?_) λi g1 g2=>?_) λc z hc=>?_)
 .rcases a5 with a5|⟨a5,a6⟩
  .omega
  have:=S.le (i:=i) (j:=B-of) "o" ""
  lia
 .have:=S.le (i:=B-lf) (j:=i) g1 g2;lia
 obtain⟨c1,rfl,pl⟩:=hc;rw[c1];exact wpS_pure (h _ pl)
abbrev Ris(rk:aa->Int)(l:List am):Prop:=l.Pairwise λp q=>rk p.1<rk q.1
abbrev Blw(rk:aa->Int)(l m:List am):Prop:=∀ p∈l,∀ q∈m,rk p.1<rk q.1
structure JL(rk:Value->Int)(a b:List Keyed)(o:List Keyed)(ia ib:Nat):Prop where
 la:ia<=a[1]
 lb:ib<=b[1]
 pm:o.Perm (a.take ia++b.take ib)
 up:Ris rk o
 ba:Blw rk o (a.drop ia)
 bb:Blw rk o (b.drop ib)
def JL.len(J:JL rk a b o ia ib):o[1]=ia+ib:=by
 have:=J.pm.length_eq;rw[gH,tB,tB,pB J.la,pB J.lb]at this;exact this
def K3(h:Ris rk l):Blw rk ((l.drop i).take k) (l.drop (i+k))/\Ris rk ((l.drop i).take k):=by
 have h1:Ris rk (l.drop i):=h.drop;have e:l.drop i=(l.drop i).take k++l.drop (i+k):=by rw[<- List.drop_drop,tS]
 rw[e]at h1;obtain⟨x,_,z⟩:=h9.mp h1;exact#[λp hp q hq=>z p hp q hq,x]
def JL.chunkA(J:JL rk a b o ia ib)(O:Ris rk a){k:Nat}(U:ia+k<=a[1])(h:Blw rk ((a.drop ia).take k) (b.drop ib)):JL rk a b (o++(a.drop ia).take k) (ia+k) ib:=by
 obtain⟨c1,c2⟩:=K3 O;have B:∀ p∈(a.drop ia).take k,p∈a.drop ia:=λp hp=>fy hp
 have z:∀ p∈a.drop (ia+k),p∈a.drop ia:=λp hp=>by rw[<- List.drop_drop]at hp;exact fA hp
 refine#[U,J.lb,?_,h9.mpr #[J.up,c2,λp hp q hq=>J.ba p hp q (B q hq)],λp hp q hq=>?_,λp hp q hq=>?_]
 .rw[List.take_add];refine(J.pm.append_right _).trans ?_;rw[tf,tf];exact cx _ List.perm_append_comm
 .rcases gD.mp hp with hp|hp
  .exact J.ba p hp q (z q hq)
  exact c1 p hp q hq
 rcases gD.mp hp with hp|hp
 .exact J.bb p hp q hq
 exact h p hp q hq
def JL.chunkB(J:JL rk a b o ia ib)(O:Ris rk b){k:Nat}(U:ib+k<=b[1])(h:Blw rk ((b.drop ib).take k) (a.drop ia)):JL rk a b (o++(b.drop ib).take k) ia (ib+k):=by
 obtain⟨c1,c2⟩:=K3 O;have B:∀ p∈(b.drop ib).take k,p∈b.drop ib:=λp hp=>fy hp
 have z:∀ p∈b.drop (ib+k),p∈b.drop ib:=λp hp=>by rw[<- List.drop_drop]at hp;exact fA hp
 refine#[J.la,U,?_,h9.mpr #[J.up,c2,λp hp q hq=>J.bb p hp q (B q hq)],λp hp q hq=>?_,λp hp q hq=>?_]
 .rw[List.take_add,<- tf];exact J.pm.append_right _
 .rcases gD.mp hp with hp|hp
  .exact J.ba p hp q hq
  exact h p hp q hq
 rcases gD.mp hp with hp|hp
 .exact J.bb p hp q (z q hq)
 exact c1 p hp q hq
def Fin2(rk:aa->Int)(a b o:List am):Prop:=o.Perm (a++b)/\Ris rk o
def JL.endA(J:JL rk a b o ia ib)(z:Ris rk a)(h:ib=b[1]):Fin2 rk a b (o++a.drop ia):=by
 have:=J.chunkA z (k:=a[1]-ia) (by have:=J.la;lia) (by rw[h,dj];exact λp _ q hq=>nomatch hq)
 rw[(tX (by rw[fF];exact gE _))]at this
 refine#[?_,this.up];have p:=this.pm;rw[h,dm,tX (by have:=J.la;lia)]at p
 exact p
def JL.endB(J:JL rk a b o ia ib)(z:Ris rk b)(h:ia=a[1]):Fin2 rk a b (o++b.drop ib):=by
 have:=J.chunkB z (k:=b[1]-ib) (by have:=J.lb;lia) (by rw[h,dj];exact λp _ q hq=>nomatch hq)
 rw[(tX (by rw[fF];exact gE _))]at this
 refine#[?_,this.up];have p:=this.pm;rw[h,dm,tX (by have:=J.lb;lia)]at p
 exact p
def JL.endL(J:JL rk a b o ia ib)(z:Ris rk a)(B:Ris rk b)(h:Blw rk b (a.drop ia)):Fin2 rk a b (o++b.drop ib++a.drop ia):=by
 have e:(b.drop ib).take (b[1]-ib)=b.drop ib:=tX (by rw[fF];exact gE _)
 have j2:=J.chunkB B (k:=b[1]-ib) (by have:=J.lb;lia) (λp hp q hq=>h p (by rw[e]at hp;exact fA hp) q hq)
 rw[e]at j2;exact j2.endA z (by have:=J.lb;lia)
structure JH(rk:Value->Int)(a b:List Keyed)(o:List Keyed)(na nb:Nat):Prop where
 la:na<=a[1]
 lb:nb<=b[1]
 pm:o.Perm (a.drop na++b.drop nb)
 up:Ris rk o
 ba:Blw rk (a.take na) o
 bb:Blw rk (b.take nb) o
def JH.len(J:JH rk a b o na nb):o[1]+na+nb=a[1]+b[1]:=by
 have:=J.pm.length_eq;rw[gH,fF,fF]at this;have:=J.la;have:=J.lb;lia
def K4(h:Ris rk l)(hi:i<=n):Blw rk (l.take i) ((l.take n).drop i)/\Ris rk ((l.take n).drop i):=by
 have h1:Ris rk (l.take n):=h.take;have e:l.take n=l.take i++(l.take n).drop i:=by
  have:=tS i (l.take n);rw[b9,pB hi]at this;exact this.symm
 rw[e]at h1;obtain⟨_,y,z⟩:=h9.mp h1;exact#[λp hp q hq=>z p hp q hq,y]
def JH.chunkA(J:JH rk a b o na nb)(O:Ris rk a){i:Nat}(hi:i<=na)(h:Blw rk (b.take nb) ((a.take na).drop i)):JH rk a b ((a.take na).drop i++o) i nb:=by
 obtain⟨c1,c2⟩:=K4 O hi;have B:∀ p∈(a.take na).drop i,p∈a.take na:=λp hp=>fA hp
 have z:∀ p∈a.take i,p∈a.take na:=λp hp=>by
  have e:a.take i=(a.take na).take i:=by rw[b9,pB hi]
  rw[e]at hp;exact fy hp
 refine#[by have:=J.la;lia,J.lb,?_,h9.mpr #[c2,J.up,λp hp q hq=>J.ba p (B p hp) q hq],λp hp q hq=>?_,λp hp q hq=>?_]
 .have e:a.drop i=(a.take na).drop i++a.drop na:=by
   conv=>lhs;rw[<- tS na a]
   rw[cP (by rw[tB];have:=J.la;lia)]
  rw[e,tf];exact cx _ J.pm
 .rcases gD.mp hq with hq|hq
  .exact c1 p hp q hq
  exact J.ba p (z p hp) q hq
 rcases gD.mp hq with hq|hq
 .exact h p hp q hq
 exact J.bb p hp q hq
def JH.chunkB(J:JH rk a b o na nb)(O:Ris rk b){i:Nat}(hi:i<=nb)(h:Blw rk (a.take na) ((b.take nb).drop i)):JH rk a b ((b.take nb).drop i++o) na i:=by
 obtain⟨c1,c2⟩:=K4 O hi;have B:∀ p∈(b.take nb).drop i,p∈b.take nb:=λp hp=>fA hp
 have z:∀ p∈b.take i,p∈b.take nb:=λp hp=>by
  have e:b.take i=(b.take nb).take i:=by rw[b9,pB hi]
  rw[e]at hp;exact fy hp
 refine#[J.la,by have:=J.lb;lia,?_,h9.mpr #[c2,J.up,λp hp q hq=>J.bb p (B p hp) q hq],λp hp q hq=>?_,λp hp q hq=>?_]
 .have e:b.drop i=(b.take nb).drop i++b.drop nb:=by
   conv=>lhs;rw[<- tS nb b]
   rw[cP (by rw[tB];have:=J.lb;lia)]
  rw[e];refine(cx _ J.pm).trans ?_;rw[<- tf,<- tf];exact List.Perm.append_right _ List.perm_append_comm
 .rcases gD.mp hq with hq|hq
  .exact h p hp q hq
  exact J.ba p hp q hq
 rcases gD.mp hq with hq|hq
 .exact c1 p hp q hq
 exact J.bb p (z p hp) q hq
def JH.endA(J:JH rk a b o na nb)(z:Ris rk a)(h:nb=0):Fin2 rk a b (a.take na++o):=by
 have j:=J.chunkA z (tK _) (by rw[h,bU];exact λp hp=>nomatch hp)
 refine#[?_,j.up];have p:=j.pm
 simp_all
def JH.endB(J:JH rk a b o na nb)(z:Ris rk b)(h:na=0):Fin2 rk a b (b.take nb++o):=by
 have j:=J.chunkB z (tK _) (by rw[h,bU];exact λp hp=>nomatch hp)
 refine#[?_,j.up];have p:=j.pm
 simp_all
def JH.endF(J:JH rk a b o na nb)(z:Ris rk a)(B:Ris rk b)(h:Blw rk (b.take nb) a):Fin2 rk a b (b.take nb++(a.take na++o)):=by
 exact(J.chunkA z (tK _) λp hp q hq=>h p hp q (by rw[List.drop_zero]at hq;exact fy hq)).endB B rfl
structure Two(rk:Value->Int)(ini a b:Array Keyed):Prop where
 ra:Ris rk a[2]
 rb:Ris rk b[2]
 ma:∀ p∈a[2],p∈ini[2]
 mb:∀ p∈b[2],p∈ini[2]
 ne:∀ p∈a[2],∀ q∈b[2],rk p.1≠rk q.1
structure Same(st z:SortSt):Prop where
 kd:kindOf z=kindOf st
 ar:arrOf z=arrOf st
 pd:pendingOf z=pendingOf st
 fl:failedOf z=failedOf st
def Same.rfl'(st):Same st st:=#[rfl,rfl,rfl,rfl]
def Same.tr(h:Same x y)(k:Same y z):Same x z:=#[k.kd.trans h.kd,k.ar.trans h.ar,k.pd.trans h.pd,k.fl.trans h.fl]
def QO{st:ao}{g:Nat}{Q:Unit->ao->Prop}(h:∀ z,Same st z->Q () z):wpS (model prog w) A E s (qbo g) Q st:=by
 refine wpS_modify (h _ #[rfl,rfl,rfl,rfl])
def zB(h):av rk a i=rk a[i].1:=by delta av;rw[pA a i h]
def ZM(B:Ris rk a[2]){i j:Nat}(h:i<j)(z:j<a.size):av rk a i<av rk a j:=by
 rw[zB "",zB z]
 have:=tW.mp B i j (by simp;lia) z[""] h
 simpa using this
theorem QP{a:Array am}{key:am}{base n:Nat}(z:Ris rk a[2])(B:∀ p∈a[2],p∈ini[2])(O:key∈ini[2])(ne:∀ p∈a[2],rk p.1≠rk key.1)(U:base+n<=a.size):Seg rk ini a key base n where
 sz:=U
 mem:=B
 hkey:=O
 up:=λi j h hj=>ZM z "" ""
 ne:=λi h=>by rw[zB ""];exact ne _ "s"
def qbs{a:Array am}{i k:Nat}(h:p∈(a[2].drop i).take k):∃ j,j<k/\∃ hj,p=a[i+j]:=by
 obtain⟨j,hj,e⟩:=tF.mp h
 grind
def ZN{a:Array am}{i:Nat}(h:p∈a[2].drop i):∃ j,i<=j/\∃ hj,p=a[j]:=by
 obtain⟨j,hj,e⟩:=tF.mp h;have hs:i+j<a.size:=by simp at hj;omega
 refine#[i+j,"",hs,?_]
 rw[<- e];simp
def K5(P:QN rk a key base n k)(z:base+n=a.size):(∀ p∈(a[2].drop base).take k,rk p.1<rk key.1)/\∀ p∈a[2].drop (base+k),rk key.1<rk p.1:=by
 obtain⟨p1,p2,p3⟩:=P;constructor
 .intro p hp;obtain⟨j,hj,hs,rfl⟩:=qbs hp;have:=p2 j hj
  rwa [zB hs]at this
 intro p hp;obtain⟨j,hj,hs,rfl⟩:=ZN hp;have:=p3 (j-base) "" ""
 rwa [show base+(j-base)=j by lia,zB hs]at this
def QQ{a:Array am}{i:Nat}(h):(a[2].drop i).take 1=[a[i]]:=by
 rw[fR h[""]]
 simp
def QR{a:Array am}(z:Ris rk a[2]){i:Nat}(h){p:am}(hp:p∈a[2].drop i):rk a[i].1<=rk p.1:=by
 obtain⟨j,hj,hs,rfl⟩:=ZN hp;rcases bO i j with c|c
 .have:=ZM z c hs;rw[zB h,zB hs]at this;lia
 have:i=j:=""
 simp_all
def ZO(a:Array am)(i k):(a.extract i (i+k)).toList=(a[2].drop i).take k:=by
 simp
def QS(a:Array am)(i):(a.extract i).toList=a[2].drop i:=by
 rw[Array.toList_extract];exact tX "s"
def jZ{σ α:Type}{c:Prop} [Decidable c]{x y:StateT σ Sem α}{Q:α->σ->Prop}{st:σ}(h1:c->wpS M A E s x Q st)(h2:¬c->wpS M A E s y Q st):wpS M A E s (if c then x else y) Q st:=by
 lia
def kW{σ:Type}{β U:Type}{a b:Nat}{f:Nat->β->StateT σ Sem (ForInStep β)}{g:β->StateT σ Sem U}(I:Nat->β->σ->Prop){Q:β->σ->Prop}{R:U->σ->Prop}
  (B:∀ F P,F=f->∀ i c st,a<=i->i<b->I i c st->(∀ c' z,Q c' z->P (.done c') z)->(∀ c' z,I (i+1) c' z->P (.yield c') z)->wpS M A E s (F i c) P st)
  (O:∀ c st,I (max a b) c st->Q c st){c:β}{st:σ}(h:I a c st)(post:∀ G,G=g->∀ c st,Q c st->wpS M A E s (G c) R st):wpS M A E s (forIn [a:b] c f >>= g) R st :=
 wpS_bind (wpS_mono (wpS_forRange I (λi c st h1 h2 h3=>B f _ rfl i c st h1 h2 h3 (λ_ _ h=>h) λ_ _ h=>h) O h) (post g rfl))
def K6{c:Prop}{z:Decidable c}{M:Model}{f:Nat->StateT σ Sem α}{m n:Nat}{Q:α->σ->Prop}{st:σ}(h:∀ m,wpS M A E s (f m) Q st):wpS M A E s (if c then f m else f n) Q st:=jZ (λ_=>h m) (λ_=>h n)
def K7{f:Array am->Nat->StateT σ Sem α}{P:Array am->Nat->Prop}{x:StateT σ Sem α}{Q:α->σ->Prop}{st:σ}(h:∀ o i,P o i->wpS M A E s (f o i) Q st)(k:(∀ o i,P o i->wpS M A E s (f o i) Q st)->wpS M A E s x Q st):wpS M A E s x Q st:=k h
def K8{f:Nat->Array am->StateT σ Sem α}{P:Nat->Array am->Prop}{x:StateT σ Sem α}{Q:α->σ->Prop}{st:σ}(h:∀ i o,P i o->wpS M A E s (f i o) Q st)(k:(∀ i o,P i o->wpS M A E s (f i o) Q st)->wpS M A E s x Q st):wpS M A E s x Q st:=k h
def qbt{st:ao}{a b:Array am}{Q:Array am->ao->Prop}(T:Tells prog w A s kd rk ini)(hk:kindOf st=kd)(W:Two rk ini a b)(ha:1<=a.size)(hb:1<=b.size)
  (h3:∀ p∈a[2],rk b[0+0].1<rk p.1)(h4:∀ q∈b[2],rk q.1<rk a[a.size-1].1)
  (h:∀ o z,Fin2 rk a[2] b[2] o[2]->Same st z->Q o z):wpS (model prog w) A E s (qbp a b) Q st:=by
 have la:a[2].length=a.size:=by simp
 have lb:b[2].length=b.size:=by simp
 have lst:∀ ia,ia+1=a.size->Blw rk b[2] (a[2].drop ia):=λia e p hp q hq=>by
  obtain⟨j,hj,hs,rfl⟩:=ZN hq;have:=h4 p hp;have e2:a[j]=a[a.size-1]:=by congr 1;lia
  rw[e2];exact this
 have dn:∀ o ia ib z,JL rk a[2] b[2] o[2] ia ib->Same st z->(ia=a.size\/ib=b.size)->Q (o++a.extract ia++b.extract ib) z:=λo ia ib z J hz hc=>by
  refine h _ z ?_ hz;rw[tU,tU,QS,QS];rcases hc with hc|hc
  .rw[pj (i:=ia) "",tT]
   exact J.endB W.rb "o"
  rw[pj (i:=ib) (l:=b[2]) "",tT]
  exact J.endA W.ra "o"
 have dl:∀ o ia ib z,JL rk a[2] b[2] o[2] ia ib->Same st z->ia+1=a.size->Q (o++b.extract ib++a.extract ia) z:=λo ia ib z J hz hc=>by
  refine h _ z ?_ hz;rw[tU,tU,QS,QS];exact J.endL W.ra W.rb (lst ia hc)
 have U:∀(o:Array am) ia ib hi,JL rk a[2] b[2] o[2] ia ib->(∀ q∈a[2].drop ia,rk b[ib].1<rk q.1)->JL rk a[2] b[2] (o.push b[ib]).toList ia (ib+1):=λo ia ib hi J hq=>by
  have:=J.chunkB W.rb (k:=1) "" (by rw[QQ hi];intro p hp q hq';rw[tQ.mp hp];exact hq q hq')
  rw[QQ hi]at this;rw[d8];exact this
 have Y:∀(o:Array am) ia ib hi,JL rk a[2] b[2] o[2] ia ib->(∀ q∈b[2].drop ib,rk a[ia].1<rk q.1)->JL rk a[2] b[2] (o.push a[ia]).toList (ia+1) ib:=λo ia ib hi J hq=>by
  have:=J.chunkA W.ra (k:=1) "" (by rw[QQ hi];intro p hp q hq';rw[tQ.mp hp];exact hq q hq')
  rw[QQ hi]at this;rw[d8];exact this
 have gA:∀{i} (hi:i<a.size),a[i]?=!a[i]:=λhi=>pA a _ hi
 have gB:∀{i} (hi:i<b.size),b[i]?=!b[i]:=λhi=>pA b _ hi
 refine wpS_bind (mw (pX #[rfl,?_]))
 try dsimp -zeta -zetaHave only
 refine wpS_bind (jU (gB (show 0<b.size by lia)) ?_)
 try dsimp -zeta -zetaHave only
 have J0:JL rk a[2] b[2] (#[]).toList 0 0:=#[tK _,tK _,by simp,by simp,λp hp=>by simp at hp,λp hp=>by simp at hp]
 have J1:JL rk a[2] b[2] ((List.toArray [b[0+0]])).toList 0 1:=U #[] 0 0 "" J0 (λq hq=>h3 q hq[""])
 by_cases c1:1=b.size
 .rw[if_pos c1[""]]
  exact wpS_pure (dn _ 0 1 st J1 (.rfl' st) (.inr c1))
 rw[if_neg c1[""]]
 by_cases c2:0+1=a.size
 .rw[if_pos c2[""]]
  exact wpS_pure (dl _ 0 1 st J1 (.rfl' st) c2)
 rw[if_neg c2[""]]
 refine wpS_bind (bT ?_);refine kW
  (λx c z=>Same st z/\∃ o ia ib mg,c=(none,o,ia,ib,mg)/\JL rk a[2] b[2] o[2] ia ib/\ia+1<a.size/\ib<b.size/\x+1<=ia+ib)
  (Q:=λc z=>∃ o,c.1=!o/\Q o z) (λF P hF x c z _ lx hI hD hY=>?_) (λc z hI=>?_) #[.rfl' st,_,_,_,_,rfl,J1,"","",""] λG hG c z hc=>?_
 .obtain⟨hz,o,ia,ib,mg,rfl,J,i1,i2,i3⟩:=hI;subst hF;dsimp -zeta -zetaHave only;refine kW
   (λx c y=>y=z/\∃ o B O ac bc,c=(none,o,B,O,ac,bc)/\JL rk a[2] b[2] o[2] B O/\B+1<a.size/\O<b.size/\ia+ib<=B+O)
   (Q:=λc y=>(∃ o,c.1=!o/\Q o y)\/(y=z/\∃ o B O ac bc,c=(none,o,B,O,ac,bc)/\JL rk a[2] b[2] o[2] B O/\B+1<a.size/\O<b.size/\ia+ib<=B+O)) (λF P hF x2 c y _ lx2 hK hD hY=>?_) (λc y hK=>.inr hK) #[rfl,_,_,_,_,_,rfl,J,i1,i2,gE _] λG hG c y hc=>?_
  .obtain⟨rfl,o,ja,jb,ac,bc,rfl,J,k1,k2,k3⟩:=hK;subst hF;dsimp -zeta -zetaHave only;have Z:ja<a.size:=""
   refine wpS_bind (jU (gB k2) (wpS_bind (jU (gA Z) (wpS_bind (ask2 T (hz.kd.trans hk) (W.mb _ "s") (W.ma _ "s") ?_)))))
   by_cases d:rk b[jb].1<rk a[ja].1
   .rw[tL d]
    try dsimp -zeta -zetaHave only
    rw[if_pos rfl];refine wpS_bind (jU (gB k2) ?_)
    try dsimp -zeta -zetaHave only
    have J':=U o ja jb k2 J (λq hq=>by have:=QR W.ra Z hq;lia)
    by_cases e:jb+1=b.size
    .rw[if_pos e[""]]
     exact wpS_pure (hD _ _ (.inl #[_,rfl,dn _ _ _ _ J' hz (.inr e)]))
    rw[if_neg e[""]]
    by_cases f:bc+1≥mg
    .rw[if_pos f];exact wpS_pure (hD _ _ (.inr #[rfl,_,_,_,_,_,rfl,J',k1,"",""]))
    rw[if_neg f];exact wpS_pure (hY _ _ #[rfl,_,_,_,_,_,rfl,J',k1,"",""])
   rw[t9 d]
   try dsimp -zeta -zetaHave only
   rw[if_neg "d"]
   refine wpS_bind (jU (gA Z) ?_)
   try dsimp -zeta -zetaHave only
   have ne:=W.ne a[ja] "s" b[jb] "s"
   have J':=Y o ja jb Z J (λq hq=>by have:=QR W.rb k2 hq;lia)
   by_cases e:ja+1+1=a.size
   .rw[if_pos e[""]]
    exact wpS_pure (hD _ _ (.inl #[_,rfl,dl _ _ _ _ J' hz e]))
   rw[if_neg e[""]]
   by_cases f:ac+1≥mg
   .rw[if_pos f];exact wpS_pure (hD _ _ (.inr #[rfl,_,_,_,_,_,rfl,J',"",k2,""]))
   rw[if_neg f];exact wpS_pure (hY _ _ #[rfl,_,_,_,_,_,rfl,J',"",k2,""])
  rcases hc with⟨o,e,q⟩|⟨rfl,o,ja,jb,ac,bc,rfl,J,k1,k2,k3⟩
  .subst hG;dsimp -zeta -zetaHave only;rw[e];exact wpS_pure (hD _ _ #[o,rfl,q])
  subst hG;dsimp -zeta -zetaHave only;refine wpS_bind (mw (pX #[rfl,?_]));refine kW
   (λx c y=>Same st y/\∃ o B O mg ac bc,c=(none,o,B,O,mg,ac,bc)/\JL rk a[2] b[2] o[2] B O/\B+1<a.size/\O<b.size/\ia+ib+min x 1<=B+O)
   (Q:=λc y=>(∃ o,c.1=!o/\Q o y)\/(Same st y/\∃ o B O mg ac bc,c=(none,o,B,O,mg,ac,bc)/\JL rk a[2] b[2] o[2] B O/\B+1<a.size/\O<b.size/\ia+ib+1<=B+O)) (λF P hF x3 c y _ lx3 hK hD hY=>?_) (λc y hK=>?_) #[hz,_,_,_,_,_,_,rfl,J,k1,k2,by show _<=ja+jb;lia] λG hG c y hc=>?_
  .clear J k1 k2 k3;obtain⟨hy0,o,ja,jb,mg2,ac,bc,rfl,J,k1,k2,k3⟩:=hK;subst hF;dsimp -zeta -zetaHave only
   extract_lets n1 n2 n3 n4 n5 n6 n7 n8 n9 n10 n11 n12 jp
   revert jp
   dsimp -zeta -zetaHave only[n1,n2,n3,n4,n5,n6,n7,n8,n9,n10,n11,n12];intro jp;refine K6 ?_;refine λmg3=>wpS_bind (QO λy2 hy2=>?_)
   have hy:=hy0.tr hy2;have Z:ja<a.size:=""
   refine wpS_bind (jU (gB k2) ?_);refine wpS_bind (kU T (hy.kd.trans hk) (QP W.ra W.ma (W.mb _ "s") (λp hp=>W.ne p hp b[jb] "s") "o") "o" λka P=>?_)
   try dsimp -zeta -zetaHave only
   extract_lets acc jpB
   obtain⟨pa1,pa2⟩:=K5 P "o"
   have kal:=P.1;refine K7 (f:=jpB ()) (P:=λo1 i1=>JL rk a[2] b[2] o1[2] i1 jb/\i1+1<a.size/\(∀ p∈a[2].drop i1,rk b[jb].1<rk p.1)/\ja<=i1) ?_ λKB=>?_
   .intro o1 i1 ⟨J1,hl1,pl2,ile⟩;refine wpS_bind (jU (gB k2) ?_)
    try dsimp -zeta -zetaHave only
    extract_lets o2 i4
    have J2:JL rk a[2] b[2] o2[2] i1 (jb+1):=U o1 i1 jb k2 J1 pl2;refine jZ (λe3=>?_) λe3=>?_
    .have e3:jb+1=b.size:=by simpa using e3
     exact wpS_pure (hD _ _ (.inl #[_,rfl,dn _ _ _ _ J2 hy (.inr e3)]))
    have e3:¬ jb+1=b.size:=by simpa using e3
    have hi1:i1<a.size:=""
    refine wpS_bind (jU (gA hi1) ?_);refine wpS_bind (kU T (hy.kd.trans hk) (QP W.rb W.mb (W.ma _ "s") (λp hp=>(W.ne a[i1] "s" p hp).symm) "o") "o" λkb P2=>?_)
    try dsimp -zeta -zetaHave only
    extract_lets bcc jpC
    obtain⟨pb1,pb2⟩:=K5 P2 "o"
    have kbl:=P2.1;refine K7 (f:=jpC ()) (P:=λo3 j3=>JL rk a[2] b[2] o3[2] i1 j3/\j3<b.size/\(∀ p∈b[2].drop j3,rk a[i1].1<rk p.1)/\jb+1<=j3) ?_ λKC=>?_
    .intro o3 j3 ⟨J3,hj3,pb,jle⟩;refine wpS_bind (jU (gA hi1) ?_)
     try dsimp -zeta -zetaHave only
     extract_lets o4
     have J4:JL rk a[2] b[2] o4[2] (i1+1) j3:=Y o3 i1 j3 hi1 J3 pb;refine jZ (λe5=>?_) λe5=>?_
     .have e5:i1+1+1=a.size:=by simpa using e5
      exact wpS_pure (hD _ _ (.inl #[_,rfl,dl _ _ _ _ J4 hy e5]))
     have e5:¬ i1+1+1=a.size:=by simpa using e5
     have f1:i1+1+1<a.size:=""
     have f2:ia+ib+1<=i1+1+j3:=""
     refine jZ (λ_=>wpS_pure (hD _ _ (.inr #[hy,_,_,_,_,_,_,rfl,J4,f1,hj3,f2]))) λ_=>wpS_pure (hY _ _ #[hy,_,_,_,_,_,_,rfl,J4,f1,hj3,"o"])
    refine jZ (λkp2=>?_) λkp2=>?_
    .have J3:=J2.chunkB W.rb (k:=kb) "o" (λp hp q hq=>by have:=pb1 p hp;have:=QR W.ra hi1 hq;lia)
     rw[<- ZO,<- tU]at J3;refine jZ (λe4=>?_) λe4=>?_
     .have e4:jb+1+kb=b.size:=by simpa using e4
      exact wpS_pure (hD _ _ (.inl #[_,rfl,dn _ _ _ _ J3 hy (.inr e4)]))
     have e4:¬ jb+1+kb=b.size:=by simpa using e4
     exact KC _ _ #[J3,"o",pb2,""]
    have kz:kb=0:=""
    exact KC _ _ #[J2,"",by rw[kz]at pb2;simpa using pb2,gE _]
   refine jZ (λkp=>?_) λkp=>?_
   .have J1:=J.chunkA W.ra (k:=ka) "o" (λp hp q hq=>by have:=pa1 p hp;have:=QR W.rb k2 hq;lia)
    rw[<- ZO,<- tU]at J1;refine jZ (λe1=>?_) λe1=>?_
    .have e1:ja+ka+1=a.size:=by simpa using e1
     exact wpS_pure (hD _ _ (.inl #[_,rfl,dl _ _ _ _ J1 hy e1]))
    have e1:¬ ja+ka+1=a.size:=by simpa using e1
    refine jZ (λe2=>?_) λe2=>?_
    .have e2:ja+ka=a.size:=by simpa using e2
     exact wpS_pure (hD _ _ (.inl #[_,rfl,dn _ _ _ _ J1 hy (.inl e2)]))
    have e2:¬ ja+ka=a.size:=by simpa using e2
    exact KB _ _ #[J1,"o",pa2,""]
   have kz0:ka=0:=""
   exact KB _ _ #[J,k1,by rw[kz0]at pa2;simpa using pa2,gE _]
  .obtain⟨hy,o,ja,jb,mg2,ac,bc,rfl,J,k1,k2,k3⟩:=hK;have mx:min (max 0 (a.size+b.size)) 1=1:=""
   rw[mx]at k3;exact .inr #[hy,_,_,_,_,_,_,rfl,J,k1,k2,k3]
  rcases hc with⟨o,e,q⟩|⟨hy,o,ja,jb,mg2,ac,bc,rfl,J,k1,k2,k3⟩
  .subst hG;dsimp -zeta -zetaHave only;rw[e];exact wpS_pure (hD _ _ #[o,rfl,q])
  subst hG
  try dsimp -zeta -zetaHave only
  refine wpS_bind (QO λy2 hy2=>wpS_pure (hY _ _ #[hy.tr hy2,_,_,_,_,rfl,J,k1,k2,by show _<=ja+jb;lia]))
 .obtain⟨hz,o,ia,ib,mg,rfl,J,i1,i2,i3⟩:=hI;lia
 obtain⟨o,e,q⟩:=hc;subst hG;dsimp -zeta -zetaHave only;rw[e];exact wpS_pure q
def ZP{a:Array am}{n:Nat}(h:p∈a[2].take n):∃ j,j<n/\∃ hj,p=a[j]:=by
 obtain⟨j,hj,e⟩:=tF.mp h;rw[tB]at hj;have hs:j<a.size:=by simp at hj;lia
 refine#[j,"",hs,?_]
 rw[<- e];simp
def qbu{a:Array am}{i n:Nat}(h:p∈(a[2].take n).drop i):∃ j,i<=j/\j<n/\∃ hj,p=a[j]:=by
 obtain⟨j,hj,e⟩:=tF.mp h
 grind
def K9(P:QN rk a key 0 n k)(B:n<=a.size):(∀ p∈a[2].take k,rk p.1<rk key.1)/\∀ p∈(a[2].take n).drop k,rk key.1<rk p.1:=by
 obtain⟨p1,p2,p3⟩:=P;constructor
 .intro p hp;obtain⟨j,hj,hs,rfl⟩:=ZP hp;have:=p2 j hj
  rwa [pL,zB hs]at this
 intro p hp;obtain⟨j,hj,z,hs,rfl⟩:=qbu hp;have:=p3 j hj z
 rwa [pL,zB hs]at this
def QT{a:Array am}{n:Nat}(h1:1<=n)(h:n<=a.size):(a[2].take n).drop (n-1)=[a[n-1]]:=by
 rw[fR (by rw[tB];simp;lia),pj (by rw[tB];lia)]
 simp
def QU{a:Array am}(z:Ris rk a[2]){n:Nat}(h1:1<=n)(h:n<=a.size){p:am}(hp:p∈a[2].take n):rk p.1<=rk a[n-1].1:=by
 obtain⟨j,hj,hs,rfl⟩:=ZP hp;rcases bO j (n-1)with c|c
 .have:=ZM z c ""
  rw[zB hs,zB ""]at this
  lia
 have:j=n-1:=""
 simp_all
def ZQ(a:Array am){i n:Nat}(h:i<=n):(a.extract i n).toList=(a[2].take n).drop i:=by
 rw[Array.toList_extract,List.drop_take]
def QV(a:Array am)(n):(a.extract 0 n).toList=a[2].take n:=by
 simp
def qbv{st:ao}{a b:Array am}{Q:Array am->ao->Prop}(T:Tells prog w A s kd rk ini)(hk:kindOf st=kd)(W:Two rk ini a b)(ha:1<=a.size)(hb:1<=b.size)
  (h3:∀ p∈a[2],rk b[0+0].1<rk p.1)(h4:∀ q∈b[2],rk q.1<rk a[a.size-1].1)
  (h:∀ o z,Fin2 rk a[2] b[2] o[2]->Same st z->Q o z):wpS (model prog w) A E s (qbq a b) Q st:=by
 have la:a[2].length=a.size:=by simp
 have lb:b[2].length=b.size:=by simp
 have dn:∀(o:Array am) na nb z,JH rk a[2] b[2] o[2].reverse na nb->Same st z->(na=0\/nb=0)->Q (a.extract 0 na++b.extract 0 nb++o.reverse) z:=λo na nb z J hz hc=>by
  refine h _ z ?_ hz;rw[tU,tU,QV,QV,de];rcases hc with hc|hc
  .subst hc;rw[bU,fX];exact J.endB W.rb rfl
  subst hc;rw[bU,tT];exact J.endA W.ra rfl
 have df:∀(o:Array am) na nb z,JH rk a[2] b[2] o[2].reverse na nb->Same st z->nb=1->Q (b.extract 0 nb++a.extract 0 na++o.reverse) z:=λo na nb z J hz hc=>by
  refine h _ z ?_ hz;rw[tU,tU,QV,QV,de,tf];refine J.endF W.ra W.rb λp hp q hq=>?_
  obtain⟨j,hj,hs,rfl⟩:=ZP hp;have e:b[j]=b[0+0]:=by congr 1;lia
  rw[e];exact h3 q hq
 have Z:∀(o:Array am) na nb (h1:1<=nb) (hi:nb<=b.size),JH rk a[2] b[2] o[2].reverse na nb->(∀ q∈a[2].take na,rk q.1<rk b[nb-1].1)->JH rk a[2] b[2] (o.push b[nb-1]).toList.reverse na (nb-1):=λo na nb h1 hi J hq=>by
  have:=J.chunkB W.rb (i:=nb-1) "" (by rw[QT h1 hi];intro p hp q hq';rw[tQ.mp hq'];exact hq p hp)
  rw[QT h1 hi]at this;rw[d8,dA];exact this
 have U:∀(o:Array am) na nb (h1:1<=na) (hi:na<=a.size),JH rk a[2] b[2] o[2].reverse na nb->(∀ q∈b[2].take nb,rk q.1<rk a[na-1].1)->JH rk a[2] b[2] (o.push a[na-1]).toList.reverse (na-1) nb:=λo na nb h1 hi J hq=>by
  have:=J.chunkA W.ra (i:=na-1) "" (by rw[QT h1 hi];intro p hp q hq';rw[tQ.mp hq'];exact hq p hp)
  rw[QT h1 hi]at this;rw[d8,dA];exact this
 have h5:∀ o i n,i<=n->(o++(a.extract i n).reverse).toList.reverse=(a[2].take n).drop i++o[2].reverse:=λo i n hi=>by
  rw[tU,dA,de,List.reverse_reverse,ZQ a hi]
 have h6:∀ o i n,i<=n->(o++(b.extract i n).reverse).toList.reverse=(b[2].take n).drop i++o[2].reverse:=λo i n hi=>by
  rw[tU,dA,de,List.reverse_reverse,ZQ b hi]
 have gA:∀{i} (hi:i<a.size),a[i]?=!a[i]:=λhi=>pA a _ hi
 have gB:∀{i} (hi:i<b.size),b[i]?=!b[i]:=λhi=>pA b _ hi
 refine wpS_bind (mw (pX #[rfl,?_]))
 try dsimp -zeta -zetaHave only
 refine wpS_bind (jU (gA (show a.size-1<a.size by lia)) ?_)
 have J0:JH rk a[2] b[2] (#[]:Array am).toList.reverse a.size b.size:=#["","",by simp,by simp,λp _ q hq=>by simp at hq,λp _ q hq=>by simp at hq]
 have J1:JH rk a[2] b[2] ((List.toArray [a[a.size-1]]):Array am).toList.reverse (a.size-1) b.size:=U #[] a.size b.size ha (gE _) J0 (λq hq=>h4 q (fy hq))
 by_cases c1:a.size-1=0
 .rw[if_pos c1[""]]
  exact wpS_pure (dn _ _ _ st J1 (.rfl' st) (.inl c1))
 rw[if_neg c1[""]]
 by_cases c2:b.size=1
 .rw[if_pos c2[""]]
  exact wpS_pure (df _ _ _ st J1 (.rfl' st) c2)
 rw[if_neg c2[""]]
 refine wpS_bind (bT ?_);refine kW
  (λx c z=>Same st z/\∃ na nb o mg,c=(none,na,nb,o,mg)/\JH rk a[2] b[2] o[2].reverse na nb/\1<=na/\2<=nb/\x+1+(na+nb)<=a.size+b.size)
  (Q:=λc z=>∃ o,c.1=!o/\Q o z) (λF P hF x c z _ lx hI hD hY=>?_) (λc z hI=>?_) #[.rfl' st,_,_,_,_,rfl,J1,"","",""] λG hG c z hc=>?_
 .obtain⟨hz,na,nb,o,mg,rfl,J,i1,i2,i3⟩:=hI;subst hF;dsimp -zeta -zetaHave only;refine kW
   (λx c y=>y=z/\∃ B O o ac bc,c=(none,B,O,o,ac,bc)/\JH rk a[2] b[2] o[2].reverse B O/\1<=B/\2<=O/\B+O<=na+nb)
   (Q:=λc y=>(∃ o,c.1=!o/\Q o y)\/(y=z/\∃ B O o ac bc,c=(none,B,O,o,ac,bc)/\JH rk a[2] b[2] o[2].reverse B O/\1<=B/\2<=O/\B+O<=na+nb)) (λF P hF x2 c y _ lx2 hK hD hY=>?_) (λc y hK=>.inr hK) #[rfl,_,_,_,_,_,rfl,J,i1,i2,gE _] λG hG c y hc=>?_
  .obtain⟨rfl,ja,jb,o,ac,bc,rfl,J,k1,k2,k3⟩:=hK;subst hF;dsimp -zeta -zetaHave only;have jal:ja<=a.size:=by have:=J.la;omega
   have jbl:jb<=b.size:=by have:=J.lb;omega
   have ja':ja-1<a.size:=""
   have jb':jb-1<b.size:=""
   refine wpS_bind (jU (gB jb') (wpS_bind (jU (gA ja') (wpS_bind (ask2 T (hz.kd.trans hk) (W.mb _ "s") (W.ma _ "s") ?_)))))
   by_cases d:rk b[jb-1].1<rk a[ja-1].1
   .rw[tL d]
    try dsimp -zeta -zetaHave only
    rw[if_pos rfl];refine wpS_bind (jU (gA ja') ?_)
    try dsimp -zeta -zetaHave only
    have J':=U o ja jb k1 jal J (λq hq=>by have:=QU W.rb "" jbl hq;omega)
    by_cases e:ja-1=0
    .rw[if_pos e[""]]
     exact wpS_pure (hD _ _ (.inl #[_,rfl,dn _ _ _ _ J' hz (.inl e)]))
    rw[if_neg e[""]]
    refine jZ (λ_=>wpS_pure (hD _ _ (.inr #[rfl,_,_,_,_,_,rfl,J',"",k2,""]))) λ_=>wpS_pure (hY _ _ #[rfl,_,_,_,_,_,rfl,J',"",k2,""])
   rw[t9 d]
   try dsimp -zeta -zetaHave only
   rw[if_neg "d"]
   refine wpS_bind (jU (gB jb') ?_)
   try dsimp -zeta -zetaHave only
   have ne:=W.ne a[ja-1] "s" b[jb-1] "s"
   have J':=Z o ja jb "" jbl J (λq hq=>by have:=QU W.ra k1 jal hq;lia)
   by_cases e:jb-1=1
   .rw[if_pos e[""]]
    exact wpS_pure (hD _ _ (.inl #[_,rfl,df _ _ _ _ J' hz e]))
   rw[if_neg e[""]]
   refine jZ (λ_=>wpS_pure (hD _ _ (.inr #[rfl,_,_,_,_,_,rfl,J',k1,"",""]))) λ_=>wpS_pure (hY _ _ #[rfl,_,_,_,_,_,rfl,J',k1,"",""])
  rcases hc with⟨o,e,q⟩|⟨rfl,ja,jb,o,ac,bc,rfl,J,k1,k2,k3⟩
  .subst hG;dsimp -zeta -zetaHave only;rw[e];exact wpS_pure (hD _ _ #[o,rfl,q])
  subst hG
  try dsimp -zeta -zetaHave only
  refine wpS_bind (mw (pX #[rfl,?_]));refine kW
   (λx c y=>Same st y/\∃ B O o mg ac bc,c=(none,B,O,o,mg,ac,bc)/\JH rk a[2] b[2] o[2].reverse B O/\1<=B/\2<=O/\B+O+min x 1<=na+nb)
   (Q:=λc y=>(∃ o,c.1=!o/\Q o y)\/(Same st y/\∃ B O o mg ac bc,c=(none,B,O,o,mg,ac,bc)/\JH rk a[2] b[2] o[2].reverse B O/\1<=B/\2<=O/\B+O+1<=na+nb)) (λF P hF x3 c y _ lx3 hK hD hY=>?_) (λc y hK=>?_) #[hz,_,_,_,_,_,_,rfl,J,k1,k2,by show ja+jb+_<=_;lia] λG hG c y hc=>?_
  .clear J k1 k2 k3;obtain⟨hy0,ja,jb,o,mg2,ac,bc,rfl,J,k1,k2,k3⟩:=hK;subst hF;dsimp -zeta -zetaHave only
   extract_lets n1 n2 n3 n4 n5 n6 n7 n8 n9 n10 n11 n12 jp
   revert jp
   dsimp -zeta -zetaHave only[n1,n2,n3,n4,n5,n6,n7,n8,n9,n10,n11,n12];intro jp;refine K6 ?_;refine λmg3=>wpS_bind (QO λy2 hy2=>?_)
   have hy:=hy0.tr hy2;have jal:ja<=a.size:=by have:=J.la;omega
   have jbl:jb<=b.size:=by have:=J.lb;omega
   have jb':jb-1<b.size:="o"
   refine wpS_bind (jU (gB jb') ?_);refine wpS_bind (kU T (hy.kd.trans hk) (QP W.ra W.ma (W.mb _ "s") (λp hp=>W.ne p hp b[jb-1] "s") "") "o" λka P=>?_)
   try dsimp -zeta -zetaHave only
   extract_lets k0 acc jpB
   obtain⟨pa1,pa2⟩:=K9 P "o"
   have kal:=P.1;refine K8 (f:=jpB ()) (P:=λ(i1:Nat) (o1:Array am)=>JH rk a[2] b[2] o1[2].reverse i1 jb/\1<=i1/\i1<=a.size/\(∀ p∈a[2].take i1,rk p.1<rk b[jb-1].1)/\i1<=ja) ?_ λKB=>?_
   .intro i1 o1 ⟨J1,hi1,ial,pl2,ile⟩;refine wpS_bind (jU (gB jb') ?_)
    try dsimp -zeta -zetaHave only
    extract_lets o2
    have J2:JH rk a[2] b[2] o2[2].reverse i1 (jb-1):=Z o1 i1 jb "" jbl J1 pl2
    refine jZ (λe3=>?_) λe3=>?_
    .have e3:jb-1=1:=by simpa using e3
     exact wpS_pure (hD _ _ (.inl #[_,rfl,df _ _ _ _ J2 hy e3]))
    have e3:¬ jb-1=1:=by simpa using e3
    refine wpS_bind (jU (gA (show i1-1<a.size by omega)) ?_)
    refine wpS_bind (kU T (hy.kd.trans hk) (QP W.rb W.mb (W.ma _ "s") (λp hp=>(W.ne a[i1-1] "s" p hp).symm) "") "o" λkb P2=>?_)
    try dsimp -zeta -zetaHave only
    extract_lets k5 bcc jpC
    obtain⟨pb1,pb2⟩:=K9 P2 ""
    have kbl:=P2.1;refine K8 (f:=jpC ()) (P:=λ(j3:Nat) (o3:Array am)=>JH rk a[2] b[2] o3[2].reverse i1 j3/\2<=j3/\(∀ p∈b[2].take j3,rk p.1<rk a[i1-1].1)/\j3<jb) ?_ λKC=>?_
    .intro j3 o3 ⟨J3,hj3,pb,jle⟩;refine wpS_bind (jU (gA (show i1-1<a.size by lia)) ?_)
     try dsimp -zeta -zetaHave only
     extract_lets o4
     have J4:JH rk a[2] b[2] o4[2].reverse (i1-1) j3:=U o3 i1 j3 hi1 ial J3 pb;refine jZ (λe5=>?_) λe5=>?_
     .have e5:i1-1=0:=by simpa using e5
      exact wpS_pure (hD _ _ (.inl #[_,rfl,dn _ _ _ _ J4 hy (.inl e5)]))
     have e5:¬ i1-1=0:=by simpa using e5
     have f1:1<=i1-1:=""
     have f2:i1-1+j3+1<=na+nb:=""
     refine jZ (λ_=>wpS_pure (hD _ _ (.inr #[hy,_,_,_,_,_,_,rfl,J4,f1,hj3,f2]))) λ_=>wpS_pure (hY _ _ #[hy,_,_,_,_,_,_,rfl,J4,f1,hj3,"o"])
    refine jZ (λY=>?_) λY=>?_
    .have Y:jb-1-kb>0:=Y;have J3:=J2.chunkB W.rb (i:=kb) "o" (λp hp q hq=>by have:=pb2 q hq;have:=QU W.ra hi1 ial hp;lia)
     rw[<- h6 _ _ _ "o"]at J3
     refine jZ (λe4=>?_) λe4=>?_
     .have e4:kb=1:=by simpa using e4
      exact wpS_pure (hD _ _ (.inl #[_,rfl,df _ _ _ _ J3 hy e4]))
     have e4:¬ kb=1:=by simpa using e4
     refine jZ (λe6=>?_) λe6=>?_
     .have e6:kb=0:=by simpa using e6
      exact wpS_pure (hD _ _ (.inl #[_,rfl,dn _ _ _ _ J3 hy (.inr e6)]))
     have e6:¬ kb=0:=by simpa using e6
     exact KC _ _ #[J3,"",pb1,"o"]
    have Y:¬ jb-1-kb>0:=Y;have kz:kb=jb-1:="o"
    exact KC _ _ #[J2,"o",by rw[kz]at pb1;exact pb1,"o"]
   refine jZ (λkp=>?_) λkp=>?_
   .have kp:ja-ka>0:=kp;have J1:=J.chunkA W.ra (i:=ka) "o" (λp hp q hq=>by have:=pa2 q hq;have:=QU W.rb "" jbl hp;lia)
    rw[<- h5 _ _ _ "o"]at J1
    refine jZ (λe1=>?_) λe1=>?_
    .have e1:ka=0:=by simpa using e1
     exact wpS_pure (hD _ _ (.inl #[_,rfl,dn _ _ _ _ J1 hy (.inl e1)]))
    have e1:¬ ka=0:=by simpa using e1
    exact KB _ _ #[J1,"","",pa1,"o"]
   have kp:¬ ja-ka>0:=kp;have kz0:ka=ja:="o"
   exact KB _ _ #[J,k1,jal,by rw[kz0]at pa1;exact pa1,gE _]
  .obtain⟨hy,ja,jb,o,mg2,ac,bc,rfl,J,k1,k2,k3⟩:=hK;have mx:min (max 0 (a.size+b.size)) 1=1:=""
   rw[mx]at k3;exact .inr #[hy,_,_,_,_,_,_,rfl,J,k1,k2,k3]
  rcases hc with⟨o,e,q⟩|⟨hy,ja,jb,o,mg2,ac,bc,rfl,J,k1,k2,k3⟩
  .subst hG;dsimp -zeta -zetaHave only;rw[e];exact wpS_pure (hD _ _ #[o,rfl,q])
  subst hG
  try dsimp -zeta -zetaHave only
  refine wpS_bind (QO λy2 hy2=>wpS_pure (hY _ _ #[hy.tr hy2,_,_,_,_,rfl,J,k1,k2,by show _+(ja+jb)<=_;lia]))
 .obtain⟨hz,na,nb,o,mg,rfl,J,i1,i2,i3⟩:=hI;lia
 obtain⟨o,e,q⟩:=hc;subst hG;dsimp -zeta -zetaHave only;rw[e];exact wpS_pure q
def qbw{σ:Type}{x st:σ}{Q:PUnit->σ->Prop}(h:Q ⟨⟩ x):wpS M A E s (set x) Q st:=by
 exact gC #[rfl,h]
def qbx:∀(m:List am) (k:Nat) (xs:Array am) (i:Nat),i+k+m[1]<=xs[2].length ->
  ((m.zipIdx k).foldl (λ(a:Array am) (p:am×Nat)=>a.setIfInBounds (i+p.2) p.1) xs).toList=xs[2].take (i+k)++m++xs[2].drop (i+k+m[1]):=λm=>m.rec
 (λk xs i h=>by simp)
 λp m IH k xs i h=>by
  rw[gQ]at h;have hs:i+k<xs[2].length:=""
  have ln:(xs.setIfInBounds (i+k) p).toList.length=xs[2].length:=by simp
  rw[bq,pS,IH (k+1) _ i (by rw[ln];lia)]
  simp only[Array.toList_setIfInBounds];rw[List.take_set,List.drop_set,if_pos ""]
  have e1:(xs[2].take (i+(k+1))).set (i+k) p=xs[2].take (i+k)++[p]:=by
   rw[show i+(k+1)=i+k+1 by lia,List.take_succ_eq_append_getElem hs,List.set_append_right _ _ (by rw[tB];lia),tB,pB "",sub_self]
   rfl
  rw[e1,tf,tf,tf,show i+(k+1)+m[1]=i+k+(m[1]+1)by lia]
  rfl
def Ka{P X R:List am}(e:arr[2]=P++(X++R)){i:Nat}(h):arr[P[1]+i]?=!X[i]/\av rk arr (P[1]+i)=rk X[i].1:=by
 have g:arr[P[1]+i]?=!X[i]:=by
  have:arr[P[1]+i]?=arr[2][P[1]+i]?:=by simp
  rw[this,e,hZ "",Nat.add_sub_cancel_left,t8 h,gJ h]
 exact#[g,by delta av;rw[g]]
def qby{st:ao}{i pw pw2:Nat}{P X Y R:List am}{Q:Bool->ao->Prop}(T:Tells prog w A s kd rk ini)(hk:kindOf st=kd)(hf:failedOf st=none)(ar:(arrOf st).toList=P++(X++(Y++R)))(pm:(arrOf st).toList.Perm ini[2])
  (hx:1<=X[1])(hy:1<=Y[1])(rx:Ris rk X)(ry:Ris rk Y)(p1:(pendingOf st)[i]?=!(P[1],X[1],pw))(p2:(pendingOf st)[i+1]?=!(P[1]+X[1],Y[1],pw2))
  (h:∀ z M,M.Perm (X++Y)->Ris rk M->(arrOf z).toList=P++(M++R)->kindOf z=kd->failedOf z=none->pendingOf z=((pendingOf st).setIfInBounds i (P[1],X[1]+Y[1],pw)).eraseIdxIfInBounds (i+1)->Q true z) :
  wpS (model prog w) A E s (mergeAt' i) Q st:=by
 have ar2:(arrOf st).toList=(P++X)++(Y++R):=by rw[ar,tf]
 have lpx:(P++X)[1]=P[1]+X[1]:=gH;have mem:∀ p∈(arrOf st).toList,p∈ini[2]:=λp hp=>pm.mem_iff.mp hp
 have mX:∀ p∈X,p∈ini[2]:=λp hp=>mem p (by rw[ar];simp[hp])
 have mY:∀ p∈Y,p∈ini[2]:=λp hp=>mem p (by rw[ar];simp[hp])
 have nd:((arrOf st).toList.map λp=>rk p.1).Nodup:=(pm.map _).nodup_iff.mpr T.nd
 have dis:∀ p∈X,∀ q∈Y,rk p.1≠rk q.1:=by
  rw[ar,tw,tw,tw]at nd;have n2:=(fL.mp nd).2.1;have n3:=(fL.mp n2).2.2;exact λp hp q hq=>n3 _ (gK.mpr #[p,hp,rfl]) _ (tj _ (gK.mpr #[q,hq,rfl]))
 have size:(arrOf st).size=P[1]+X[1]+Y[1]+R.length:=by
  have:=congrArg List.length ar;simp at this;lia
 have gX:∀{j} hj,(arrOf st)[P[1]+j]?=!X[j]/\av rk (arrOf st) (P[1]+j)=rk X[j].1:=λhj=>Ka ar hj
 have gY:∀{j} hj,(arrOf st)[P[1]+X[1]+j]?=!Y[j]/\av rk (arrOf st) (P[1]+X[1]+j)=rk Y[j].1:=λ{j} hj=>by
  have:=Ka (rk:=rk) ar2 hj
  rwa [lpx]at this
 have rX:∀ i j (h:i<j) (hj:j<X[1]),rk (X[i]'"").1<rk X[j].1:=λi j h hj=>tW.mp rx i j "" hj h
 have rY:∀ i j (h:i<j) (hj:j<Y[1]),rk (Y[i]'"").1<rk Y[j].1:=λi j h hj=>tW.mp ry i j "" hj h
 have y0:0<Y[1]:=""
 have h4:(∀ p∈X,∀ q∈Y,rk p.1<rk q.1)->Ris rk (X++Y):=λz=>h9.mpr #[rx,ry,z]
 have B:∀ q∈Y,rk (Y[0]'y0).1<=rk q.1:=λq hq=>by
  obtain⟨j,hj,rfl⟩:=tF.mp hq;rcases Nat.eq_zero_or_pos j with c|c
  .subst c;exact pF _
  exact cI (rY 0 j c hj)
 have O:∀ p∈X,rk p.1<=rk (X[X[1]-1]'"").1:=λp hp=>by
  obtain⟨j,hj,rfl⟩:=tF.mp hp;rcases bO j (X[1]-1)with c|c
  .exact cI (rX j _ c "")
  have:j=X[1]-1:=""
  subst this;exact pF _
 refine wpS_bind (bT ?_)
 try dsimp only
 rw[show(pendingOf st)[i]?=_ from p1,show(pendingOf st)[i+1]?=_ from p2]
 try dsimp only
 refine wpS_bind (qbw ?_);show wpS (model prog w) A E s _ Q (SortSt.mk' (kindOf st) (arrOf st) (((pendingOf st).setIfInBounds i (P[1],X[1]+Y[1],pw)).eraseIdxIfInBounds (i+1)) (gallopOf st) (failedOf st));generalize ez:SortSt.mk' (kindOf st) (arrOf st) (((pendingOf st).setIfInBounds i (P[1],X[1]+Y[1],pw)).eraseIdxIfInBounds (i+1)) (gallopOf st) (failedOf st)=z0;have z1:arrOf z0=arrOf st:=by rw[<- ez]
 have z2:kindOf z0=kd:=by rw[<- ez];exact hk
 have z3:failedOf z0=none:=by rw[<- ez];exact hf
 have z4:pendingOf z0=((pendingOf st).setIfInBounds i (P[1],X[1]+Y[1],pw)).eraseIdxIfInBounds (i+1):=by rw[<- ez]
 have fin:(∀ p∈X,∀ q∈Y,rk p.1<rk q.1)->Q true z0:=λhh=>h z0 (X++Y) (List.Perm.refl _) (h4 hh) (by rw[z1,ar,tf]) z2 z3 z4
 have sg1:Seg rk ini (arrOf st) (Y[0]'y0) P[1] X[1]:=#["",mem,mY _ "s",λa b hab hb=>by rw[(gX "").2,(gX hb).2];exact rX a b hab hb,λa ha=>by rw[(gX ha).2];exact dis _ "s" _ "s"]
 refine wpS_bind (jU (p:=Y[0]'y0) (by have:=(gY y0).1;simpa using this) ?_)
 refine wpS_bind (kU T z2 sg1 "" λk P1=>?_)
 obtain⟨q1,q2,q3⟩:=P1;have q2:∀ j (hj:j<k),rk (X[j]'"").1<rk (Y[0]'y0).1:=λj hj=>by have:=q2 j hj;rwa [(gX "").2]at this
 have q3:∀ j h1 (hj:j<X[1]),rk (Y[0]'y0).1<rk X[j].1:=λj h1 hj=>by have:=q3 j h1 hj;rwa [(gX hj).2]at this
 try dsimp only
 by_cases c1:X[1]-k=0
 .rw[if_pos c1[""]]
  refine wpS_pure (fin λp hp q hq=>?_)
  obtain⟨j,hj,rfl⟩:=tF.mp hp;have:=q2 j ""
  have:=B q hq;lia
 rw[if_neg c1[""]]
 have xl:X[1]-1<X[1]:=""
 have sg2:Seg rk ini (arrOf st) X[X[1]-1] (P[1]+X[1]) Y[1]:=#["",mem,mX _ "s",λa b hab hb=>by rw[(gY "").2,(gY hb).2];exact rY a b hab hb,λa ha=>by rw[(gY ha).2];exact(dis _ "s" _ "s").symm]
 refine wpS_bind (jU (p:=X[X[1]-1]) (by
  have:=(gX xl).1;rw[show P[1]+k+(X[1]-k)-1=P[1]+(X[1]-1)by lia]
  exact this) ?_)
 refine wpS_bind (kU T z2 sg2 "" λkb P2=>?_)
 obtain⟨r1,r2,r3⟩:=P2;have r2:∀ j (hj:j<kb),rk (Y[j]'"").1<rk X[X[1]-1].1:=λj hj=>by have:=r2 j hj;rwa [(gY "").2]at this
 have r3:∀ j (h1:kb<=j) (hj:j<Y[1]),rk X[X[1]-1].1<rk Y[j].1:=λj h1 hj=>by have:=r3 j h1 hj;rwa [(gY hj).2]at this
 try dsimp only
 by_cases c2:kb=0
 .rw[if_pos c2[""]]
  refine wpS_pure (fin λp hp q hq=>?_)
  obtain⟨j,hj,rfl⟩:=tF.mp hq;have:=r3 j "" hj
  have:=O p hp;lia
 rw[if_neg c2[""]]
 generalize eX:(arrOf st).extract (P[1]+k) (P[1]+X[1])=x;generalize eY:(arrOf st).extract (P[1]+X[1]) (P[1]+X[1]+kb)=y;have lx:x[2]=X.drop k:=by
  rw[<- eX,ZQ _ "",ar,List.take_append,tX "",List.drop_append,pj "",fX,show P[1]+X[1]-P[1]=X[1] by lia,cQ (gE _),dm,show P[1]+k-P[1]=k by lia]
 have ly:y[2]=Y.take kb:=by
  rw[<- eY,ZO,ar2,List.drop_append,pj "",fX,lpx,sub_self,List.drop_zero,cQ r1]
 have sx:x.size=X[1]-k:=by have:=congrArg List.length lx;rw[fF]at this;simpa using this
 have sy:y.size=kb:=by have:=congrArg List.length ly;rw[tB,pB r1]at this;simpa using this
 have W:Two rk ini x y:=#[by rw[lx];exact rx.drop,by rw[ly];exact ry.take,λp hp=>mX p (by rw[lx]at hp;exact fA hp),λp hp=>mY p (by rw[ly]at hp;exact fy hp),λp hp q hq=>dis p (by rw[lx]at hp;exact fA hp) q (by rw[ly]at hq;exact fy hq)]
 have eY0:y[0+0]=Y[0]'y0:=by
  have:y[0]?=(Y[0]?):=by
   have e:y[0]?=y[2][0]?:=by simp
   rw[e,ly,cj,if_pos ""]
  rw[pA y 0 "",gJ y0]at this
  exact tH this
 have eXl:x[x.size-1]'""=X[X[1]-1]:=by
  have:x[x.size-1]?=X[X[1]-1]?:=by
   have e:x[x.size-1]?=x[2][x.size-1]?:=by simp
   rw[e,lx,List.getElem?_drop,sx];congr 1;lia
  rw[pA x (x.size-1) "",gJ xl]at this
  exact tH this
 have first:∀ p∈x[2],rk (y[0]'"").1<rk p.1:=λp hp=>by
  rw[lx]at hp;obtain⟨j,hj,rfl⟩:=tF.mp hp;rw[fF]at hj;rw[eY0,List.getElem_drop];exact q3 (k+j) "" ""
 have U:∀ q∈y[2],rk q.1<rk (x[x.size-1]'"").1:=λq hq=>by
  rw[ly]at hq;obtain⟨j,hj,rfl⟩:=tF.mp hq;rw[tB]at hj;rw[eXl,List.getElem_take];exact r2 j ""
 have Z:∀(o:Array am) (z:ao),Fin2 rk x[2] y[2] o[2]->Same z0 z->Q true (SortSt.mk' (kindOf z) (o[2].zipIdx.foldl (λa p=>a.setIfInBounds (P[1]+k+p.2) p.1) (arrOf z)) (pendingOf z) (gallopOf z) (failedOf z)):=λo z F hz=>by
  obtain⟨fp,fu⟩:=F;rw[lx,ly]at fp;have ol:o[2].length=X[1]-k+kb:=by
   have:=fp.length_eq;rw[gH,fF,tB,pB r1]at this;exact this
  have h3:∀ p∈o[2],p∈X.drop k\/p∈Y.take kb:=λp hp=>gD.mp (fp.mem_iff.mp hp)
  have az:arrOf z=arrOf st:=hz.ar.trans z1;have wl:=qbx o[2] 0 (arrOf st) (P[1]+k) (by
   have e:(arrOf st).toList.length=(arrOf st).size:=by simp
   rw[e,size,ol];lia)
  rw[Nat.add_zero]at wl;have t1:(arrOf st).toList.take (P[1]+k)=P++X.take k:=by
   rw[ar,List.take_append,tX "",show P[1]+k-P[1]=k by lia,cQ q1]
  have t2:(arrOf st).toList.drop (P[1]+k+o[2].length)=Y.drop kb++R:=by
   rw[ar2,ol,List.drop_append,pj "",fX,lpx,show P[1]+k+(X[1]-k+kb)-(P[1]+X[1])=kb by lia,cP r1]
  rw[t1,t2]at wl;refine h _ (X.take k++(o[2]++Y.drop kb)) ?_ ?_ ?_ (hz.kd.trans z2) (hz.fl.trans z3) (hz.pd.trans z4)
  .have e:X++Y=X.take k++((X.drop k++Y.take kb)++Y.drop kb):=by
    rw[tf,tS,<- tf,tS]
   rw[e];exact cx _ (fp.append_right _)
  .have lo:∀ p∈X.take k,∀ q∈Y,rk p.1<rk q.1:=λp hp q hq=>by
    obtain⟨j,hj,rfl⟩:=tF.mp hp;rw[tB]at hj;rw[List.getElem_take];have:=q2 j ""
    have:=B q hq;lia
   have hi:∀ p∈X,∀ q∈Y.drop kb,rk p.1<rk q.1:=λp hp q hq=>by
    obtain⟨j,hj,rfl⟩:=tF.mp hq;rw[fF]at hj;rw[List.getElem_drop];have:=r3 (kb+j) "" ""
    have:=O p hp;lia
   have sX:=h9.mp (show Ris rk (X.take k++X.drop k)by rw[tS];exact rx)
   have sY:=h9.mp (show Ris rk (Y.take kb++Y.drop kb)by rw[tS];exact ry)
   refine h9.mpr #[rx.take,h9.mpr #[fu,ry.drop,λp hp q hq=>?_],λp hp q hq=>?_]
   .rcases h3 p hp with hp|hp
    .exact hi p (fA hp) q hq
    exact sY.2.2 p hp q hq
   rcases gD.mp hq with hq|hq
   .rcases h3 q hq with hq|hq
    .exact sX.2.2 p hp q hq
    exact lo p hp q (fy hq)
   exact lo p hp q (fA hq)
  show(o[2].zipIdx.foldl (λa p=>a.setIfInBounds (P[1]+k+p.2) p.1) (arrOf z)).toList=_
  rw[az,wl];simp
 refine jZ (λ_=>?_) λ_=>?_
 .refine wpS_bind (qbt T z2 W "" "" first U λo z F hz=>?_)
  refine wpS_bind (wpS_modify ?_);refine wpS_bind (bT ?_);have e:(failedOf z).isNone=true:=by rw[hz.fl,z3];rfl
  have:=Z o z F hz;refine wpS_pure ?_;show Q (failedOf z).isNone _;rw[e];exact this
 refine wpS_bind (qbv T z2 W "" "" first U λo z F hz=>?_)
 refine wpS_bind (wpS_modify ?_);refine wpS_bind (bT ?_);have e:(failedOf z).isNone=true:=by rw[hz.fl,z3];rfl
 have:=Z o z F hz;refine wpS_pure ?_;show Q (failedOf z).isNone _;rw[e];exact this
variable{pd:Array (Nat×Nat×Nat)}{hd:List am}
structure Md(kd:SortKind)(ini:Array Keyed)(pd:Array (Nat×Nat×Nat))(hd:List Keyed)(z:SortSt):Prop where
 pm:(arrOf z).Perm ini
 kd:kindOf z=kd
 fl:failedOf z=none
 pn:pendingOf z=pd
 hd:(arrOf z).toList.take hd[1]=hd
def Md.sz(m:Md kd ini pd hd z):(arrOf z).size=ini.size:=m.pm.size_eq
def Md.le(m:Md kd ini pd hd z):hd[1]<=ini.size:=by
 have:=congrArg List.length m.hd;rw[tB]at this;have e:(arrOf z).toList.length=ini.size:=by simp;exact m.sz
 lia
def Md.put(m:Md kd ini pd hd z){xs:Array am}(p:xs.Perm (arrOf z))(B:∀ i,i<hd[1]->xs[i]?=(arrOf z)[i]?):Md kd ini pd hd (setArr z xs):=by
 refine#[p.trans m.pm,m.kd,m.fl,m.pn,?_];rw[<- m.hd];apply dY;intro i;have hl:min hd[1] (arrOf z).toList.length=hd[1]:=by
  have:=m.le;have e:(arrOf z).toList.length=ini.size:=by simp;exact m.sz
  lia
 rw[cj,cj]
 simp_all
def Md.get(m:Md kd ini pd hd z){i:Nat}(hi:i<ini.size):∃ p,(arrOf z)[i]?=!p/\p∈ini[2]/\av rk (arrOf z) i=rk p.1:=by
 have h:i<(arrOf z).size:=by rw[m.sz];exact hi
 have e:(arrOf z)[i]?=!(arrOf z)[i]:=pA _ i h;refine#[(arrOf z)[i],e,((fO.mp m.pm).mem_iff.mp "s"),?_]
 delta av;rw[e]
def Md.ask(T:Tells prog w A s kd rk ini)(m:Md kd ini pd hd z)(hi:i<ini.size)(B:j<ini.size)(h:Q (!(decide (av rk (arrOf z) i<av rk (arrOf z) j))) z) :
  wpS (model prog w) A E s (ltAt' i j) Q z:=by
 obtain⟨p,e1,m1,a1⟩:=m.get hi;obtain⟨q,e2,m2,a2⟩:=m.get B;rw[a1,a2]at h;exact wpS_bind (bT (wpS_bind (jU e1 (wpS_bind (jU e2 (ask2 T m.kd m1 m2 h))))))
def Md.ne(T:Tells prog w A s kd rk ini)(m:Md kd ini pd hd z){i j:Nat}(hi:i<ini.size)(B:j<ini.size)(h:i≠j):av rk (arrOf z) i≠av rk (arrOf z) j:=by
 have li:i<(arrOf z).size:=by rw[m.sz];exact hi
 have lj:j<(arrOf z).size:=by rw[m.sz];exact B
 rw[zB li,zB lj];refine λq=>h ((List.getElem_inj (h₀:=by simpa using li) (h₁:=by simpa using lj) (((fO.mp m.pm).map λp=>rk p.1).nodup_iff.mpr T.nd)).mp ?_)
 simpa using q
abbrev Upl(rk:aa->Int)(z:ao)(lo k:Nat):Prop:=∀ i j,i<j->j<k->av rk (arrOf z) (lo+i)<av rk (arrOf z) (lo+j)
abbrev Dnl(rk:aa->Int)(z:ao)(lo k:Nat):Prop:=∀ i j,i<j->j<k->av rk (arrOf z) (lo+j)<av rk (arrOf z) (lo+i)
def Upl.more{lo x:Nat}(u:Upl rk z lo x)(B:1<=x)(h:av rk (arrOf z) (lo+x-1)<av rk (arrOf z) (lo+x)):Upl rk z lo (x+1):=λi j h1 h2=>by
 by_cases c:j<x
 .exact u i j h1 c
 have ej:j=x:=""
 subst ej;by_cases ci:i=j-1
 .subst ci;rw[show lo+(j-1)=lo+j-1 by lia]
  exact h
 have:=u i (j-1) "" ""
 rw[show lo+(j-1)=lo+j-1 by lia]at this
 lia
def Dnl.more{lo x:Nat}(u:Dnl rk z lo x)(B:1<=x)(h:av rk (arrOf z) (lo+x)<av rk (arrOf z) (lo+x-1)):Dnl rk z lo (x+1):=λi j h1 h2=>by
 by_cases c:j<x
 .exact u i j h1 c
 have ej:j=x:=""
 subst ej;by_cases ci:i=j-1
 .subst ci;rw[show lo+(j-1)=lo+j-1 by lia]
  exact h
 have:=u i (j-1) "" ""
 rw[show lo+(j-1)=lo+j-1 by lia]at this
 lia
def qbz(T:Tells prog w A s kd rk ini)(m:Md kd ini pd hd z)(B:hd[1]+n=ini.size)(h1:1<=n)
  (h:∀ r y,Md kd ini pd hd y->1<=r->r<=n->Upl rk y hd[1] r->Q ↑r y):wpS (model prog w) A E s (countRun' hd[1] n) Q z:=by
 generalize el:hd[1]=lo at *;refine wpS_bind (wpS_mono (wpS_forRange (λx c y=>y=z/\c=(none,x)/\Upl rk z lo x) (Q:=λc y=>y=z/\∃ x,c=(none,x)/\1<=x/\x<=n/\Upl rk z lo x/\(x=n\/av rk (arrOf z) (lo+x)<av rk (arrOf z) (lo+x-1))) (λx c y lx hx hI=>?_) (λc y hI=>?_) #[rfl,rfl,λi j a b=>by lia]) λc y hc=>?_)
 .obtain⟨rfl,rfl,u⟩:=hI
  try dsimp only
  refine wpS_bind (m.ask T "" "" ?_)
  by_cases c:av rk (arrOf y) (lo+x)<av rk (arrOf y) (lo+x-1)
  .rw[tL c];exact wpS_pure #[rfl,x,rfl,lx,"",u,.inr c]
  rw[t9 c];have:=m.ne T (i:=lo+x) (j:=lo+x-1) "" "" ""
  exact wpS_pure #[rfl,rfl,u.more lx ""]
 .obtain⟨rfl,rfl,u⟩:=hI;have e:max 1 n=n:=""
  rw[e]at u ⊢;exact#[rfl,n,rfl,h1,gE _,u,.inl rfl]
 obtain⟨rfl,k,rfl,k1,k2,u,o⟩:=hc
 try dsimp only
 by_cases c:k=n
 .rw[if_pos c[""]]
  exact wpS_pure (h k y m k1 k2 u)
 rw[if_neg c[""]]
 have lt:=o.resolve_left c;by_cases c1:k>1
 .rw[if_pos c1];refine wpS_bind (m.ask T "" "" ?_)
  have le:=u 0 (k-1) "" ""
  rw[Nat.add_zero,show lo+(k-1)=lo+k-1 by lia]at le
  rw[tL le];exact wpS_pure (h k y m k1 k2 u)
 rw[if_neg c1];have e:k=1:=""
 subst e;refine wpS_bind (mw (pX #[rfl,?_]));refine wpS_bind (wpS_mono (wpS_forRange (λx c v=>v=y/\c=(none,x,0)/\Dnl rk y lo x) (Q:=λc v=>v=y/\∃ x,c=(none,x,0)/\2<=x/\x<=n/\Dnl rk y lo x) (λx c v lx hx hI=>?_) (λc v hI=>?_) #[rfl,rfl,λi j a b=>?_]) λc v hc=>?_)
 .obtain⟨rfl,rfl,u'⟩:=hI
  try dsimp only
  refine wpS_bind (m.ask T "" "" ?_)
  by_cases c:av rk (arrOf v) (lo+x)<av rk (arrOf v) (lo+x-1)
  .rw[tL c]
   try dsimp only
   rw[if_pos rfl,if_neg ""]
   exact wpS_pure #[rfl,rfl,u'.more "" c]
  rw[t9 c]
  try dsimp only
  rw[if_neg "d"]
  have:=m.ne T (i:=lo+x) (j:=lo+x-1) "" "" ""
  refine wpS_bind (m.ask T "" "" ?_)
  rw[tL (show av rk (arrOf v) (lo+x-1)<av rk (arrOf v) (lo+x)by lia)]
  exact wpS_pure #[rfl,x,rfl,"o","",u']
 .obtain⟨rfl,rfl,u'⟩:=hI;have e:max (1+1) n=n:=""
  rw[e]at u' ⊢;exact#[rfl,n,rfl,"",gE _,u']
 .have e1:i=0:=""
  have e2:j=1:=""
  subst e1 e2;simpa using lt
 obtain⟨rfl,x,rfl,x1,x2,u'⟩:=hc
 try dsimp only
 rw[if_neg ""]
 have hz:lo+x<=(arrOf v).size:=by rw[m.sz];lia
 have gm:=λk=>getElem?_mirror_all (i:=lo) hz k
 have m2:Md kd ini pd hd (setArr v (mirror (arrOf v) lo (lo+x) ((lo+x-lo)/2))):=m.put (mirror_perm _ _ _ _) (λi hi=>by rw[gm,if_neg ""])
 refine wpS_bind (wpS_reverse ?_);generalize ey:setArr v (mirror (arrOf v) lo (lo+x) ((lo+x-lo)/2))=y2 at m2;have u2:Upl rk y2 lo x:=λi j a b=>by
  rw[<- ey];show av rk (mirror (arrOf v) lo (lo+x) ((lo+x-lo)/2)) (lo+i)<av rk (mirror (arrOf v) lo (lo+x) ((lo+x-lo)/2)) (lo+j);rw[Yn hz,Yn hz,if_pos "",if_pos ""]
  have:=u' (x-1-j) (x-1-i) "" ""
  rw[show lo+(lo+x)-1-(lo+i)=lo+(x-1-i)by lia,show lo+(lo+x)-1-(lo+j)=lo+(x-1-j)by lia]
  exact this
 refine wpS_bind (wpS_mono (wpS_forRange (λt c v=>v=y2/\c=(none,t)/\Upl rk y2 lo t) (Q:=λc v=>v=y2/\∃ t,c=(none,t)/\1<=t/\t<=n/\Upl rk y2 lo t) (λt c v lx hx hI=>?_) (λc v hI=>?_) #[rfl,rfl,u2]) λc v hc=>?_)
 .obtain⟨rfl,rfl,u3⟩:=hI
  try dsimp only
  refine wpS_bind (m2.ask T "" "" ?_)
  by_cases c:av rk (arrOf v) (lo+t)<av rk (arrOf v) (lo+t-1)
  .rw[tL c];exact wpS_pure #[rfl,t,rfl,"","",u3]
  rw[t9 c];have:=m2.ne T (i:=lo+t) (j:=lo+t-1) "" "" ""
  exact wpS_pure #[rfl,rfl,u3.more "" ""]
 .obtain⟨rfl,rfl,u3⟩:=hI;have e:max x n=n:=""
  rw[e]at u3 ⊢;exact#[rfl,n,rfl,h1,gE _,u3]
 obtain⟨rfl,t,rfl,t1,t2,u3⟩:=hc;exact wpS_pure (h t v m2 t1 t2 u3)
def qbA(T:Tells prog w A s kd rk ini)(m:Md kd ini pd hd z)(Z:hd[1]+n<=ini.size)(h2:ok<=n)(u:Upl rk z hd[1] ok)
  (h:∀ y,Md kd ini pd hd y->Upl rk y hd[1] n->Q true y):wpS (model prog w) A E s (binarySort' hd[1] n ok) Q z:=by
 generalize el:hd[1]=lo at *;refine wpS_bind (wpS_mono (wpS_forRange (λk c y=>c=(none,())/\Md kd ini pd hd y/\Upl rk y lo (min k n)) (Q:=λc y=>c=(none,())/\Md kd ini pd hd y/\Upl rk y lo n) (λk c y l1 l2 hI=>?_) (λc y hI=>?_) #[rfl,m,?_]) λc y hc=>?_)
 .obtain⟨rfl,m',u'⟩:=hI;have ek:min k n=k:=""
  rw[ek]at u';have ul:∀ i j,i<=j->j<k->av rk (arrOf y) (lo+i)<=av rk (arrOf y) (lo+j):=λi j a b=>by
   rcases bO i j with c|c
   .exact cI (u' i j c b)
   rw[show i=j by lia];exact pF _
  refine wpS_bind (wpS_mono (wpS_forRange (λx c v=>v=y/\∃ l r,c=(none,l,r)/\l<=r/\r<=k/\r-l<=k-x/\(∀ i,i<l->av rk (arrOf y) (lo+i)<av rk (arrOf y) (lo+k))/\∀ i,r<=i->i<k->av rk (arrOf y) (lo+k)<av rk (arrOf y) (lo+i))
   (Q:=λc v=>v=y/\∃ l r,c=(none,l,r)/\l<=k/\(∀ i,i<l->av rk (arrOf y) (lo+i)<av rk (arrOf y) (lo+k))/\∀ i,l<=i->i<k->av rk (arrOf y) (lo+k)<av rk (arrOf y) (lo+i))
   (λx c v _ lx hJ=>?_) (λc v hJ=>?_) #[rfl,0,k,rfl,"","","",λi hi=>by lia,λi a b=>by lia]) λc v hJ=>?_)
  .obtain⟨rfl,l,r,rfl,lr,O,U,B,hi⟩:=hJ
   try dsimp only
   by_cases ge:l≥r
   .rw[if_pos ge];have:l=r:=""
    subst this;exact wpS_pure #[rfl,l,l,rfl,O,B,hi]
   rw[if_neg ge];refine wpS_bind (m'.ask T "" "" ?_)
   have ne:=m'.ne T (i:=lo+k) (j:=lo+(l+r)/2) "" "" ""
   by_cases c:av rk (arrOf v) (lo+k)<av rk (arrOf v) (lo+(l+r)/2)
   .rw[tL c];refine wpS_pure #[rfl,l,(l+r)/2,rfl,"","","",B,λi a b=>?_]
    have:=ul ((l+r)/2) i a b;lia
   rw[t9 c];refine wpS_pure #[rfl,(l+r)/2+1,r,rfl,"","o","",λi a=>?_,hi]
   have:=ul i ((l+r)/2) "" ""
   lia
  .obtain⟨rfl,l,r,rfl,lr,O,U,B,hi⟩:=hJ;have:l=r:=""
   subst this;exact#[rfl,l,l,rfl,O,B,hi]
  obtain⟨rfl,l,r,rfl,lk,B,hi⟩:=hJ
  try dsimp only
  have hz:lo+k<(arrOf v).size:=by rw[m'.sz];lia
  have gb:=λt=>getElem?_bubble hz (lo+k-(lo+l)) "" t
  refine wpS_bind (wpS_modify (wpS_pure #[rfl,m'.put (bubble_perm _ _ _) λi Y=>?_,?_]))
  .have:=gb i;rw[if_neg "",if_neg ""]at this
   exact this
  have e1:min (k+1) n=k+1:=""
  have e2:lo+k-(lo+k-(lo+l))=lo+l:=""
  rw[e1];intro i j a b;show av rk (bubble (arrOf v) (lo+k) (lo+k-(lo+l))) (lo+i)<av rk (bubble (arrOf v) (lo+k) (lo+k-(lo+l))) (lo+j);rw[Ym hz "",Ym hz "",e2]
  by_cases i1:i=l
  .rw[if_pos "",if_neg "",if_pos "",show lo+j-1=lo+(j-1)by lia]
   exact hi _ "" ""
  rw[if_neg ""]
  by_cases i2:l<i/\i<=k
  .rw[if_pos "",if_neg "",if_pos "",show lo+i-1=lo+(i-1)by lia,show lo+j-1=lo+(j-1)by lia]
   exact u' _ _ "" ""
  rw[if_neg ""]
  by_cases j1:j=l
  .rw[if_pos ""]
   exact B _ ""
  rw[if_neg ""]
  by_cases j2:l<j/\j<=k
  .rw[if_pos "",show lo+j-1=lo+(j-1)by lia]
   by_cases q:i<j-1
   .exact u' _ _ q ""
   lia
  rw[if_neg ""]
  exact u' _ _ a ""
 .obtain⟨hc,m',u'⟩:=hI;have e:min (max (max ok 1) n) n=n:=""
  rw[e]at u';exact#[hc,m',u']
 .exact λi j a b=>u i j a ""
 obtain⟨rfl,m',u'⟩:=hc;exact wpS_pure (h y m' u')
end
section
variable{prog:ag}{w:World}{A:aj}{E:aa->ab->Prop}{s:ab}{kd:SortKind}{rk:aa->Int}{ini:Array am}
def PM:Nat->List (Nat×Nat×Nat)->List (List am)->Prop
 | _,[],[]=>True
 | off,p::pd,R::rs=>p.1=off/\p.2.1=R.length/\PM (off+R.length) pd rs
 | _,_,_=>False
theorem PM.len:∀{off} {pd} {rs},PM off pd rs->pd[1]=rs[1]
 | _,[],[],_=>rfl
 | _,p::pd,R::rs,h=>by rw[gQ,gQ,PM.len h.2.2]
 | _,[],_::_,h=>h.elim
 | _,_::_,[],h=>h.elim
theorem PM.split:∀{pre} {off} {pd} {rs},PM off pd (pre++rs)->∃ p1 p2,pd=p1++p2/\PM off p1 pre/\PM (off+pre.flatten.length) p2 rs
 | [],off,pd,rs,h=>#[[],pd,rfl,trivial,by simpa using h]
 | R::pre,off,[],rs,h=>h.elim
 | R::pre,off,p::pd,rs,h=>by
  obtain⟨h1,h2,h3⟩:=h;obtain⟨p1,p2,e,g1,g2⟩:=PM.split h3;refine#[p::p1,p2,by rw[e];rfl,#[h1,h2,g1],?_]
  rw[tP,gH,<- add_assoc];exact g2
theorem PM.join:∀{pre} {off} {p1 p2} {rs},PM off p1 pre->PM (off+pre.flatten.length) p2 rs->PM off (p1++p2) (pre++rs)
 | [],off,[],p2,rs,_,h=>by simpa using h
 | [],off,_::_,p2,rs,h,_=>h.elim
 | R::pre,off,[],p2,rs,h,_=>h.elim
 | R::pre,off,p::p1,p2,rs,h,k=>by
  obtain⟨h1,h2,h3⟩:=h;rw[tP,gH,<- add_assoc]at k;exact#[h1,h2,PM.join h3 k]
structure Rn(kd:SortKind)(rk:Value->Int)(ini:Array Keyed)(runs:List (List Keyed))(rest:List Keyed)(z:SortSt):Prop where
 ar:(arrOf z).toList=runs.flatten++rest
 pm:(arrOf z).Perm ini
 kd:kindOf z=kd
 fl:failedOf z=none
 ok:∀ R∈runs,1<=R.length/\Ris rk R
 st:PM 0 (pendingOf z).toList runs
def Rn.merge{B:List (List am)}{rest:List am}{i:Nat}{Q:Bool->ao->Prop}(T:Tells prog w A s kd rk ini)(R:Rn kd rk ini B rest z)(hi:i+1<B[1])
  (h:∀ y rs,rs.flatten.length=B.flatten.length->rs[1]+1=B[1]->Rn kd rk ini rs rest y->Q true y):wpS (model prog w) A E s (mergeAt' i) Q z:=by
 have e1:B=B.take i++(B[i]::B[i+1]::B.drop (i+2)):=by
  simp
 generalize hp:B.take i=pre at e1;generalize B[i]=X at e1;generalize B[i+1]=Y at e1;generalize B.drop (i+2)=post at e1;have pl:pre[1]=i:=by rw[<- hp,tB];lia
 have O:=R.ok X (by rw[e1];simp)
 have okY:=R.ok Y (by rw[e1];simp)
 have st:=R.st;rw[e1]at st;obtain⟨p1,p2,ep,g1,g2⟩:=st.split;have l1:=g1.len;cases p2 with
 | nil=>exact g2.elim
 | cons q1 p2 =>
  cases p2 with
  | nil=>exact g2.2.2.elim
  | cons q2 p3 =>
   obtain⟨a1,a2,b1,b2,g3⟩:=g2;have x1:(pendingOf z)[i]?=!(pre.flatten.length,X[1],q1.2.2):=by
    have e:(pendingOf z)[i]?=(pendingOf z).toList[i]?:=by simp
    rw[e,ep,hZ "",show i-p1[1]=0 by lia]
    grind
   have x2:(pendingOf z)[i+1]?=!(pre.flatten.length+X[1],Y[1],q2.2.2):=by
    have e:(pendingOf z)[i+1]?=(pendingOf z).toList[i+1]?:=by simp
    rw[e,ep,hZ "",show i+1-p1[1]=1 by lia]
    obtain⟨u,v,t⟩:=q2;simp at b1 b2 ⊢;exact#[b1,b2]
   refine qby (P:=pre.flatten) (X:=X) (Y:=Y) (R:=post.flatten++rest) T R.kd R.fl (by rw[R.ar,e1];simp) (fO.mp R.pm) O.1 okY.1 O.2 okY.2 x1 x2 λy M U uM Z kM fM pM=>?_
   have ml:M[1]=X[1]+Y[1]:=by rw[U.length_eq,gH]
   refine h y (pre++(M::post)) (by rw[e1];simp;lia) (by rw[e1];simp;lia) #[by rw[Z];simp,?_,kM,fM,λS hS=>?_,?_]
   .refine fO.mpr (List.Perm.trans ?_ (fO.mp R.pm));rw[Z,R.ar,e1];simp[List.flatten_append,tP,tf];refine cx _ ?_;rw[<- tf X Y];exact U.append_right _
   .rcases gD.mp hS with hS|hS
    .exact R.ok S (by rw[e1];exact tj _ hS)
    rcases gG.mp hS with rfl|hS
    .exact#[by have:=O.1;lia,uM]
    exact R.ok S (by rw[e1];simp[hS])
   have ep2:(pendingOf y).toList=p1++((pre.flatten.length,X[1]+Y[1],q1.2.2)::p3):=by
    rw[pM];have:(((pendingOf z).setIfInBounds i (pre.flatten.length,X[1]+Y[1],q1.2.2)).eraseIdxIfInBounds (i+1)).toList=((pendingOf z).toList.set i (pre.flatten.length,X[1]+Y[1],q1.2.2)).eraseIdx (i+1):=by
     simp[Array.toList_eraseIdxIfInBounds]
    rw[this,ep,List.set_append_right _ _ "",show i-p1[1]=0 by lia,fY,List.eraseIdx_append_of_length_le "",show i+1-p1[1]=1 by lia]
    rfl
   rw[ep2];refine g1.join #[by rw[pL],ml.symm,?_]
   rw[ml,<- add_assoc];exact g3
theorem PM.repower:∀{off} {pd} {rs} f k,(∀ p,(f p).1=p.1/\(f p).2.1=p.2.1)->PM off pd rs->PM off (pd.modify k f) rs
 | _,[],[],f,k,_,_=>by simp[PM]
 | _,[],_::_,f,k,_,h=>h.elim
 | _,_::_,[],f,k,_,h=>h.elim
 | off,p::pd,R::rs,f,0,hf,h=>by
  obtain⟨h1,h2,h3⟩:=h;exact#[(hf p).1.trans h1,(hf p).2.trans h2,h3]
 | off,p::pd,R::rs,f,k+1,hf,h=>by
  obtain⟨h1,h2,h3⟩:=h;exact#[h1,h2,PM.repower f k hf h3]
def qbB:∀{rs:List (List am)},(∀ R∈rs,1<=R.length)->rs[1]<=rs.flatten.length:=λ{rs}=>rs.rec
 (@λ_=>gE _)
 λR rs IH=>@λh=>by
  have b:=IH λS hS=>h S (gu _ hS)
  grind
def qbC(m:Md kd ini pd hd y)(B:hd[1]+n<=ini.size)(u:Upl rk y hd[1] n):∃ N rest,(arrOf y).toList=hd++(N++rest)/\N[1]=n/\Ris rk N:=by
 have e:(arrOf y).toList.length=ini.size:=by simp;exact m.sz
 refine#[((arrOf y).toList.drop hd[1]).take n,((arrOf y).toList.drop hd[1]).drop n,?_,?_,?_]
 .rw[tS]
  conv=>lhs;rw[<- tS hd[1] (arrOf y).toList,m.hd]
 .grind
 refine tW.mpr ?_;intro i j hi hj z;rw[tB]at hi hj;have:=u i j z ""
 rw[zB (by rw[m.sz];lia),zB (by rw[m.sz];lia)]at this
 simpa using this
def qbD [Decidable c]{a b n:Nat}(h1:a<=n)(h2:b<=n):(if c then a else b)<=n:=by by_cases h:c<;>simp[h,h1,h2]
def qbE{f:Nat->StateT σ Sem α}{P:Nat->σ->Prop}{x:StateT σ Sem α}{Q:α->σ->Prop}{st:σ}(h:∀ r y,P r y->wpS M A E s (f r) Q y)(k:(∀ r y,P r y->wpS M A E s (f r) Q y)->wpS M A E s x Q st):wpS M A E s x Q st:=k h
def qbF{st:ao}{Q:Unit->ao->Prop}(T:Tells prog w A s kd rk ini)(p0:(arrOf st).Perm ini)(k0:kindOf st=kd)(f0:failedOf st=none)(d0:pendingOf st=#[])
  (h:∀ z,(arrOf z).Perm ini->failedOf z=none->Ris rk (arrOf z).toList->Q () z):wpS (model prog w) A E s sortRuns' Q st:=by
 refine wpS_bind (bT ?_);have sz0:(arrOf st).size=ini.size:=p0.size_eq;rw[show(arrOf st).size=ini.size from sz0]
 have R0:Rn kd rk ini [] (arrOf st).toList st:=#[rfl,p0,k0,f0,(λ_ hr=>nomatch hr),by rw[d0];trivial]
 refine wpS_bind (wpS_mono (wpS_forRange (λx c z=>∃ lo B rest,c=(none,lo)/\Rn kd rk ini B rest z/\lo=B.flatten.length/\x<=lo) (Q:=λc z=>c.1=none/\∃ B,Rn kd rk ini B [] z) (λx c z _ lx hI=>?_) (λc z hI=>?_) #[0,[],_,rfl,R0,rfl,gE _]) λc z hc=>?_)
 .obtain⟨lo,B,rest,rfl,R,rfl,hx⟩:=hI;have zl:(arrOf z).toList.length=ini.size:=by simp;exact R.pm.size_eq
  have ll:B.flatten.length+rest[1]=ini.size:=by rw[<- zl,R.ar,gH]
  by_cases c:B.flatten.length≥ini.size
  .rw[if_pos c];have er:rest=[]:=fm.mp ""
   subst er;exact wpS_pure #[rfl,B,R]
  rw[if_neg c];have M0:Md kd ini (pendingOf z) B.flatten z:=#[R.pm,R.kd,R.fl,rfl,by rw[R.ar,List.take_left]]
  refine wpS_bind (qbz T M0 "" "" λr y my r1 r2 uy=>?_)
  try dsimp -zeta -zetaHave only
  extract_lets n0 jp force0
  refine qbE (f:=jp ()) (P:=λO y=>Md kd ini (pendingOf z) B.flatten y/\Upl rk y B.flatten.length O/\1<=O/\B.flatten.length+O<=ini.size) ?_ λK=>?_
  .intro O y ⟨my,uy,fo1,hrun⟩;refine wpS_bind (bT ?_);obtain⟨N,U,ey,nl,un⟩:=qbC my hrun uy;have Ry:Rn kd rk ini B (N++U) y:=#[ey,my.pm,my.kd,my.fl,R.ok,by rw[my.pn];exact R.st]
   have Y:∀ v rs,Rn kd rk ini rs (N++U) v->rs.flatten.length=B.flatten.length->Rn kd rk ini (rs++[N]) U (setPending v ((pendingOf v).push (B.flatten.length,O,0))):=λv rs Rv hl=>by
    refine#[by rw[show arrOf (setPending v ((pendingOf v).push (B.flatten.length,O,0)))=arrOf v from rfl,Rv.ar];simp,Rv.pm,Rv.kd,Rv.fl,λS hS=>?_,?_]
    .rcases gD.mp hS with hS|hS
     .exact Rv.ok S hS
     rw[tQ.mp hS];exact#["",un]
    show PM 0 ((pendingOf v).push (B.flatten.length,O,0)).toList (rs++[N]);rw[d8];exact Rv.st.join #[by rw[pL];exact hl.symm,nl.symm,trivial]
   have fl2:∀ rs,rs.flatten.length=B.flatten.length->(rs++[N]).flatten.length=B.flatten.length+O:=λrs hl=>by rw[List.flatten_append,gH,hl,tP,List.flatten_nil,tT,nl]
   cases hb:(pendingOf y).back? with
   | none =>
    try rw[hb]
    exact wpS_bind (wpS_modify (wpS_pure #[_,_,_,rfl,Y y B Ry rfl,(fl2 B rfl).symm,""]))
   | some q =>
    try rw[hb]
    obtain⟨s1,n1,w1⟩:=q
    try dsimp only
    refine wpS_bind (wpS_mono (wpS_forRange (λ_ c v=>c=(none,())/\∃ rs,Rn kd rk ini rs (N++U) v/\rs.flatten.length=B.flatten.length) (Q:=λc v=>c=(none,())/\∃ rs,Rn kd rk ini rs (N++U) v/\rs.flatten.length=B.flatten.length) (λx2 c v _ _ hK=>?_) (λc v hK=>hK) #[rfl,B,Ry,rfl]) λc v hc=>?_)
    .obtain⟨rfl,rs,Rv,hl⟩:=hK;refine wpS_bind (bT ?_);have pl:(pendingOf v).size=rs[1]:=by rw[<- Rv.st.len];simp
     by_cases c:(pendingOf v).size>1
     .rw[if_pos c];have g:(pendingOf v)[(pendingOf v).size-2]?=!((pendingOf v)[(pendingOf v).size-2]'""):=pA _ _ ""
      rw[g];generalize ((pendingOf v)[(pendingOf v).size-2]'"")=q
      obtain⟨u1,u2,u3⟩:=q
      try dsimp only
      refine jZ (λ_=>wpS_pure #[rfl,rs,Rv,hl]) λ_=>?_
      have hm:(pendingOf v).size-2+1<rs[1]:=""
      refine wpS_bind (Rv.merge T hm λv2 Z e1 e2 Rv2=>?_)
      exact wpS_pure #[rfl,Z,Rv2,e1.trans hl]
     rw[if_neg c];exact wpS_pure #[rfl,rs,Rv,hl]
    obtain⟨rfl,rs,Rv,hl⟩:=hc
    try dsimp only
    refine wpS_bind (wpS_modify (wpS_bind (wpS_modify (wpS_pure #[_,_,_,rfl,Y _ rs #[Rv.ar,Rv.pm,Rv.kd,Rv.fl,Rv.ok,?_] hl,(fl2 rs hl).symm,""]))))
    show PM 0 ((pendingOf v).modify ((pendingOf v).size-1) _).toList rs;rw[Array.toList_modify];exact Rv.st.repower _ _ (λp=>#[rfl,rfl])
  refine jZ (λc2=>?_) λ_=>?_
  .refine wpS_bind (mw (pX #[rfl,?_]));have f1:r<=force0:=by
    show r<=min _ _;have c3:r<_:=c2;lia
   have f2:force0<=ini.size-B.flatten.length:=Nat.min_le_left _ _;refine wpS_bind (qbA T my "" f1 uy λy my uy=>?_)
   rw[if_neg "d"]
   exact K _ _ #[my,uy,"",""]
  exact K _ _ #[my,uy,"o",""]
 .obtain⟨lo,B,rest,rfl,R,rfl,hx⟩:=hI;have zl:(arrOf z).toList.length=ini.size:=by simp;exact R.pm.size_eq
  have ll:B.flatten.length+rest[1]=ini.size:=by rw[<- zl,R.ar,gH]
  have er:rest=[]:=fm.mp ""
  subst er;exact#[rfl,B,R]
 obtain⟨c1,B,R⟩:=hc;rw[c1]
 try dsimp only
 have zl:(arrOf z).toList.length=ini.size:=by simp;exact R.pm.size_eq
 have ll:B.flatten.length=ini.size:=by rw[<- zl,R.ar,tT]
 refine wpS_bind (wpS_mono (wpS_forRange (λx c v=>c=(none,())/\∃ rs,Rn kd rk ini rs [] v/\(rs[1]<=1\/rs[1]+x<=ini.size)) (Q:=λc v=>c=(none,())/\∃ rs,Rn kd rk ini rs [] v/\rs[1]<=1) (λx c v _ lx hK=>?_) (λc v hK=>?_) #[rfl,B,R,.inr (by have:=qbB λS hS=>(R.ok S hS).1;lia)]) λc v hc=>?_)
 .obtain⟨rfl,rs,Rv,hl⟩:=hK;refine wpS_bind (bT ?_);have pl:(pendingOf v).size=rs[1]:=by rw[<- Rv.st.len];simp
  try dsimp only
  by_cases c:(pendingOf v).size<=1
  .rw[if_pos c];exact wpS_pure #[rfl,rs,Rv,""]
  rw[if_neg c];generalize hij:(if (Option.any _ _)=true then _ else _)=ij
  have hlt:ij+1<rs[1]:=by
   have:ij<=(pendingOf v).size-2:=by
    rw[<- hij];exact qbD (Nat.sub_le_sub_left (show 2<=3 by decide) _) (gE _)
   lia
  refine wpS_bind (Rv.merge T hlt λv2 Z e1 e2 Rv2=>?_)
  exact wpS_pure #[rfl,Z,Rv2,.inr ""]
 .obtain⟨hc,rs,Rv,hl⟩:=hK;exact#[hc,rs,Rv,""]
 obtain⟨rfl,rs,Rv,hl⟩:=hc;refine wpS_pure (h v Rv.pm Rv.fl ?_);rw[Rv.ar,tT];cases rs with
 | nil=>exact List.Pairwise.nil
 | cons S rs =>
  have:rs=[]:=fm.mp (by rw[gQ]at hl;lia)
  subst this;rw[tP,List.flatten_nil,tT];exact(Rv.ok S "s").2
end
section
variable{prog:ag}{w:World}{A:aj}{E:aa->ab->Prop}{s:ab}
def qbG{n:Nat}(B:a.size=n)(h:Ris rk a[2]):∀ i j,i<=j->j<n->av rk a i<=av rk a j:=by
 intro i j z hj;rw[zB "",zB ""]
 rcases Nat.eq_or_lt_of_le z with e|e
 .simp_all
 have:=tW.mp h i j (by simp;lia) (by simp;lia) e
 simp[Array.getElem_toList]at this
 omega
def qbH{n:Nat}{P:Fin->ab->Prop}(Z:s.heap.get? a=!(seqObj "list" vs.toArray n))(R:Rows s.heap vs)(na:.ref a∉vs)(nd:(vs.map (qU s.heap)).Nodup)(h64:vs[1]<=5000)
  (h:∀ us:List aa,us.Perm vs->(us.map (qU s.heap)).Pairwise (λx y=>HT.lexLt y x=false)->P (.done (.ret .none)) {s with heap:=sortedHeap s.heap a vs us.toArray}) :
  wpAny (model prog w) A (Builtin.«list.sort» #[[.ref a],[]]) P E s:=by
 have la:a<s[0]:=gU Z;rw[list_sort_plain];refine gg (listItems_at Z rfl (gg (listUpdate_at Z rfl ?_)));obtain⟨c1,o1⟩:∃ c1,(s.heap.update a (Obj.mapSeq λ_=>#[])).get? a=!(seqObj "list" #[] c1):=#[_,get?_update_seq Z λ_=>#[]]
 refine gg (seqEpoch_at o1 rfl (gg (wpAny_newTuple (gg (wpAny_newList (fS ?_))))));show wpAny (model prog w) A _ P E {s with heap:=((s.heap.update a (Obj.mapSeq λ_=>#[])).push (seqObj "tuple" vs.toArray 0)).push (seqObj "list" #[] 0)}
 generalize eM:((s.heap.update a (Obj.mapSeq λ_=>#[])).push (seqObj "tuple" vs.toArray 0)).push (seqObj "list" #[] 0)=hM
 have old:∀ b o,b≠a->s.heap.get? b=!o->hM.get? b=!o:=λb o ne e=>by
  have lb:=gU e;rw[<- eM,cG _ _ _ (by rw[size_push',dq];exact t7 (dW lb)),cG _ _ _ (by rw[dq];exact t7 lb),Heap.get?_update_ne _ _ _ _ ne]
  exact e
 have o2:hM.get? a=!(seqObj "list" #[] c1):=by
  rw[<- eM,cG _ _ _ (by rw[size_push',dq];exact t7 (dW la)),cG _ _ _ (by rw[dq];exact t7 la)]
  exact o1
 have B:∀ v∈vs,∃ b its ns,v=.ref b/\IsTup s.heap b its.toArray/\IsTup hM b its.toArray/\IntsAre its ns/\ns≠[]:=λv hv=>by
  obtain⟨b,its,ns,e,⟨o,e2,c⟩,q,nn⟩:=R v hv;refine#[b,its,ns,e,#[o,e2,c],#[o,old b o (λz=>?_) e2,c],q,nn]
  subst z e;exact na hv
 have R2:Rows hM vs:=λv hv=>let #[b,its,ns,e,_,p,q,nn]:=B v hv;#[b,its,ns,e,p,q,nn]
 dsimp only;have O:∀ st,(arrOf st).Perm (pairsOf vs)->(∀ i j,i<=j->j<(pairsOf vs).size->av (λv=>vy (vs.map (qU s.heap)) (qU s.heap v)) (arrOf st) i<=av (λv=>vy (vs.map (qU s.heap)) (qU s.heap v)) (arrOf st) j) ->
   P (.done (.ret .none)) {s with heap:=hM.update a (Obj.mapSeq λ_=>(arrOf st).map (·.2))}:=λst pm up=>by
  have hp:(arrOf st).toList.Perm (vs.zip vs):=by rw[<- pairsOf_toList];exact fO.mp pm
  have mem:∀ p∈(arrOf st).toList,p.1=p.2/\p.1∈vs:=λp U=>mem_zip_self (hp.mem_iff.mp U)
  have e2:((arrOf st).map (·.2)).toList=(arrOf st).toList.map (·.1):=by
   rw[Array.toList_map];exact t3 λp U=>(mem p U).1.symm
  have pv:((arrOf st).map (·.2)).toList.Perm vs:=by
   rw[e2];have:=hp.map Prod.fst
   rwa [List.map_fst_zip (gE _)]at this
  have q:=h ((arrOf st).map (·.2)).toList pv (by
   rw[e2,hE,fq,tW];intro i j hi hj hij;have hi':i<(arrOf st).size:=by simpa using hi
   have Y:j<(arrOf st).size:=by simpa using hj
   have u:=up i j (cY hij) (by rw[<- pm.size_eq];exact Y)
   unfold av at u;rw[pA _ i hi',pA _ j Y]at u;dsimp only at u;show HT.lexLt (qU s.heap (arrOf st).toList[j].1) (qU s.heap (arrOf st).toList[i].1)=false;cases el:HT.lexLt (qU s.heap (arrOf st).toList[j].1) (qU s.heap (arrOf st).toList[i].1)with
   | false=>rfl
   | true =>
    have mj:=(mem (arrOf st).toList[j] (fT _)).2;have:=(Qz (rs:=vs.map (qU s.heap)) (gK.mpr #[_,mj,rfl])).mpr el;simp[Array.getElem_toList]at this;lia)
  rw[Array.toArray_toList]at q;have:sortedHeap s.heap a vs ((arrOf st).map (·.2))=hM.update a (Obj.mapSeq λ_=>(arrOf st).map (·.2)):=by delta sortedHeap;rw[eM]
  rw[<- this];exact q
 have hz:vs.toArray.size=vs[1]:=by simp
 by_cases c2:vs.toArray.size<2
 .rw[if_pos c2,if_pos c2];refine gg (gC ?_);rw[StateT.run_pure];refine gg (gC ?_);dsimp only;refine gg (seqEpoch_at o2 rfl (gg (listUpdate_at o2 rfl ?_ (hsz2:=by rw[Array.size_map];show(pairsOf vs).size<=_;rw[pairsOf_size,pE];lia))))
  simp only[bne_self_eq_false,f8,cK];refine gC (O (SortSt.mk' general' (vs.toArray.zip vs.toArray) #[] 7 none) (Array.Perm.refl _) λi j l1 l2=>?_)
  rw[pairsOf_size]at l2;have:i=j:=""
  subst this;exact pF _
 rw[if_neg c2,if_neg c2];have hv:vs≠[]:=λz=>by subst z;simp at c2
 refine gg (qah R2 hv ?_);have T:Tells prog w A {s with heap:=hM} (tuples' true) (λv=>vy (vs.map (qU s.heap)) (qU s.heap v)) (pairsOf vs):=by
  refine#[λp hp q hq E Q hQ=>?_,?_]
  .rw[pairsOf_toList]at hp hq;have mp:=(mem_zip_self hp).2;have mq:=(mem_zip_self hq).2;obtain⟨b1,i1,n1,e1,p1,p1',q1,_⟩:=B _ mp;obtain⟨b2,i2,n2,e2,p2,p2',q2,_⟩:=B _ mq;have r1:=wG p1 q1;have r2:=wG p2 q2;rw[e1,e2]at hQ ⊢;refine qaf p1' p2' q1 q2 ?_;have:=Qz (rs:=vs.map (qU s.heap)) (a:=qU s.heap (.ref b1)) (b:=qU s.heap (.ref b2)) (gK.mpr #[_,mp,by rw[e1]])
   rw[r1,r2]at this;rw[r1,r2]at hQ;have e3:decide (vy (vs.map (qU s.heap)) n1<vy (vs.map (qU s.heap)) n2)=HT.lexLt n1 n2:=by
    cases el:HT.lexLt n1 n2 with
    | true=>exact tL (this.mpr el)
    | false=>exact t9 λz=>by rw[this.mp z]at el;cases el
   rw[e3]at hQ;exact hQ
  rw[pairsOf_toList];have e:(vs.zip vs).map (λp=>vy (vs.map (qU s.heap)) (qU s.heap p.1))=(vs.map (qU s.heap)).map (vy (vs.map (qU s.heap))):=by
   have:(vs.zip vs).map (λp=>vy (vs.map (qU s.heap)) (qU s.heap p.1))=((vs.zip vs).map Prod.fst).map λv=>vy (vs.map (qU s.heap)) (qU s.heap v):=by rw[hE];rfl
   rw[this,List.map_fst_zip (gE _),hE];rfl
  rw[e];show List.Pairwise _ _;rw[fq];refine dD (λ{x y} hx hy ne z=>?_) nd
  have k1:=Qz (rs:=vs.map (qU s.heap)) (b:=y) hx;have k2:=Qz (rs:=vs.map (qU s.heap)) (b:=x) hy;refine ne (xY ?_ ?_)
  .cases el:HT.lexLt x y with
   | false=>rfl
   | true=>have:=k1.mpr el;lia
  cases el:HT.lexLt y x with
  | false=>rfl
  | true=>have:=k2.mpr el;lia
 refine gg (cA (qbF (E:=E) (st:=SortSt.mk' (tuples' true) (vs.toArray.zip vs.toArray) #[] 7 none) (ini:=pairsOf vs)
  (Q:=λ_ z=>(arrOf z).Perm (pairsOf vs)/\failedOf z=none/\Ris (λv=>vy (vs.map (qU s.heap)) (qU s.heap v)) (arrOf z).toList) T (Array.Perm.refl _) rfl rfl rfl λz a1 a2 a3=>#[a1,a2,a3]) ?_ λ_ _ e=>e)
 rintro⟨⟨⟩,z⟩ s' ⟨rfl,pm,fl,up⟩;dsimp only;refine gg (seqEpoch_at o2 rfl (gg (listUpdate_at o2 rfl ?_ (hsz2:=by refine fw (Nat.le_of_eq ((Array.size_map ..).trans (pm.size_eq.trans (pairsOf_size _)))) ?_;rw[pE];lia))))
 rw[fl];simp[bne_self_eq_false,f8,cK];exact gC (O z pm (qbG (by rw[pm.size_eq]) up))
def qbI(Y:s.heap.IsList l vs.toArray)(R:Rows s.heap vs)(Z:(vs.map (qU s.heap)).Nodup)(O:vs[1]<=5000)
  (h:∀ us:List aa,us.Perm vs->(us.map (qU s.heap)).Pairwise (λx y=>HT.lexLt y x=false)->Q (.ref (s[0]+1)) {s with heap:=sortedAll s.heap vs us.toArray}) :
  wpAny (model prog w) A (call (.builtin "sorted") [.ref l]) Q E s:=by
 refine Calls.call_function_entry kind_sorted plain_sorted entry_sorted (args_sorted1 _) ?_;refine gg (m:=checkCount "sorted" 1 1 _) (gC (gg (collect_list Y (gg (wpAny_newList ?_)) (by rw[pE];lia))))
 have z1:((s.heap.push (seqObj "list" #[] 0)).update s[0] (Obj.mapSeq (·++vs.toArray))).objs.size=s[0]+1:=by rw[dq,size_push']
 show wpAny _ _ _ _ _ {s with heap:=((s.heap.push (seqObj "list" #[] 0)).update s[0] (Obj.mapSeq (·++vs.toArray))).push (seqObj "list" vs.toArray 0)}
 rw[z1];generalize eM:((s.heap.push (seqObj "list" #[] 0)).update s[0] (Obj.mapSeq (·++vs.toArray))).push (seqObj "list" vs.toArray 0)=hM
 have o1:hM.get? (s[0]+1)=!(seqObj "list" vs.toArray 0):=by
  rw[<- eM,<- z1];exact gN _ rfl
 have U:∀ b o,s.heap.get? b=!o->hM.get? b=!o:=λb o e=>by
  have lb:=gU e;rw[<- eM,cG _ _ _ (by rw[z1];exact t7 (dW lb)),Heap.get?_update_ne _ _ _ _ (t7 lb),cG _ _ _ (t7 lb)]
  exact e
 obtain⟨R2,B⟩:=R.stay U;have mp:vs.map (qU hM)=vs.map (qU s.heap):=t3 B;have na:Value.ref (s[0]+1)∉vs:=λz=>by
  obtain⟨a,its,ns,e,⟨o,e2,_⟩,_⟩:=R _ z;cases e;exact absurd (gU e2) (Nat.not_lt.mpr (bF _))
 refine gg (fS (p7 slot_list_sort #[_,o1,rfl] entry_list_sort ?_ (args_list_sort _)));refine qbH (s:={s with heap:=hM}) o1 R2 na (by rw[mp];exact Z) O λus pm up=>#[_,rfl,gC #[_,rfl,?_]]
 have q:=h us pm (by
  have:us.map (qU hM)=us.map (qU s.heap):=t3 λv hv=>B v (pm.mem_iff.mp hv)
  rw[<- this];exact up)
 unfold sortedAll at q;rw[eM]at q;exact q
end
def wg:List D->R En
 | [.lst ds]=>(match vJ ds with
  | some rs=>if rs.Nodup/\rs[1]<=5000/\[]∉rs then .ok (.lst ((jq rs).map qN))[9]else .stuck
  | none=>.stuck)
 | _=>.stuck
section
variable{X:Cx}{F0 H0:Hp}
def ZR:zM X (.builtin "sorted") wg:=by
 intro pins s σ F H xs us ds Q I l rx qx w;cases qx with
 | nil=>cases w
 | @cons x d xs ds q1 q2 =>
  cases q2 with
  | cons _ _=>cases d<;>exact w.elim
  | nil =>
   cases d<;>first|exact w.elim|skip
   rename_i ds
   delta wg at w
   dsimp only at w;cases e:vJ ds with
   | none=>rw[e]at w;cases w
   | some rs =>
    rw[e]at w;dsimp only at w;by_cases c:rs.Nodup/\rs[1]<=5000/\[]∉rs
    .rw[if_pos c]at w;obtain⟨p,vs,rfl,hq,O⟩:=RdV.lst l q1;cases rx with
     | cons r1 r2 =>
      cases r2;cases r1;obtain⟨its,rv,pl,hz⟩:=I.list hq;obtain⟨m,k⟩:=Zz I l e O rv;have len:its[1]=rs[1]:=by rw[<- m,gj]
      refine qbI pl.isList (λv hv=>?_) (by rw[m];exact c.1) (by rw[len];exact c.2.1) λys pm up=>?_
      .obtain⟨a,i2,ns,e,p1,p2,_,p4⟩:=k v hv;exact#[a,i2,ns,e,p1,p2,λz=>c.2.2 (z▸p4)]
      have em:=Zy ((pm.map _).trans (by rw[m];exact(wZ rs).symm)) up (Qy rs)
      have go:∀ zs,(∀ u∈zs,u∈its)->Vals (zs.map toV) zs/\Reps (kx X) F (zs.map toV) ((zs.map (qU s.heap)).map qN):=by
       intro zs
       induction zs with
       | nil=>intro _;exact#[.nil,rfl]
       | cons z zs ih =>
        intro hz;obtain⟨i1,i2⟩:=ih λu hu=>hz u (gu _ hu)
        obtain⟨a,i3,ns,rfl,p1,p2,p3,_⟩:=k z (hz z t4);refine#[.cons rfl i1,#[.ref a,_,rfl,?_,i2]];rw[wG p1 p2];exact p3
      obtain⟨g1,g2⟩:=go ys λu hu=>pm.mem_iff.mp hu
      rw[em]at g2;obtain⟨c',he⟩:=sortedAll_at s.heap its ys.toArray;have hp:H (s[0]+1)=none:=I.hok.fresh (bF _);have B:(ys.map toV)[1]<=sizeLine:=by
       rw[gj,pm.length_eq,pE];lia
      refine#[.ref (s[0]+1),upd H (s[0]+1) (.lst (ys.map toV)),I.laid (λb o q=>sortedAll_old q) (bF _) #[B,ys,c',g1,he],rfl,?_]
      exact w _ _ _ (Gr.new l hp) #[_,_,rfl,hp,Le.none l hp,qP,g2]
    rw[if_neg c]at w;exact w.elim
end
def yH(z:List Int):List Int:=z.foldl step_dedup []
def QW:D->R En
 | .lst ds=>(match jO ds with
  | some ns=>if ns[1]<=4000 then okI (yH ns)[1] else .stuck
  | none=>.stuck)
 | _=>.stuck
def ZS(f:EF):EF:=λρ=>(f ρ).bind λw=>QW w.d
def Kb(ns):firstMet (λi=>ns.getD i 0) ns[1]=yH ns:=by
 delta firstMet
 congr 1;refine List.ext_getElem "s" λi h1 h2=>?_
 simp_all
def qbJ(ns):(yH ns)[1]<=ns[1]:=by
 rw[<- Kb];exact firstMet_length_le _ _
section
variable{X:Cx}{F0 H0:Hp}{pos pos2 p p2:Pos}
def qbK(he:"S" e f)(hm:X.mg "len"=none)(O:X.mg "set"=none)(hc:(X.calm=true)["r"])(hg:(Gl X "len")["r"])(U:(Gl X "set")["r"])
  (h1:(starEach [Expr.Call (.Name "set" p2) [e] [] pos2] X.env=[(false,eval (Expr.Call (.Name "set" p2) [e] [] pos2) X.env)])["r"])
  (h2:(starEach [e] X.env=[(false,eval e X.env)])["r"]) :
  "S" (.Call (.Name "len" p) [.Call (.Name "set" p2) [e] [] pos2] [] pos) (ZS f):=by
 refine λpins s σ F H ρ Q S I h=>fB (zL I hg hm (show bootBuiltins (Str.ofString "len")=↑(.builtin "len")by rfl) ?_)
 refine cH ?_ (by rw[h1];rfl) rfl
 refine t5 ?_;refine fB (zL I U O (show bootBuiltins (Str.ofString "set")=↑(.type "set")by rfl) ?_)
 refine tD ?_ (by rw[h2];rfl) rfl
 rw[h2];refine t5 (he pins s σ F H ρ _ S I ((KE.bind h).imp λwx k1 v u F1 H1 s1 g1 q1 r1 I1=>tN ?_))
 have qx:=Vok.rd q1;have z:=yq g1 k1
 revert z qx
 generalize wx.d=dx;intro qx z;cases dx<;>first|exact z.elim|skip
 rename_i ds
 delta QW at z
 dsimp only at z;cases ei:jO ds with
 | none=>rw[ei]at z;exact z.elim
 | some ns =>
  rw[ei]at z;dsimp only at z;by_cases c:ns[1]<=4000
  .rw[if_pos c]at z;obtain⟨a,vs,rfl,hq,rs⟩:=RdV.lst g1.s qx;have ev:=wX ei rs;subst ev;cases r1;obtain⟨its,rv,pl,hz⟩:=I1.list hq;have hi:IntsAre its ns:=yk rv;have B:its[1]=ns[1]:=IntsAre.length hi;refine call_set_list (I1.ok.hd hc) pl.isList hi[""] (by rw[gZ,B];delta scanBound;lia) λh' tk hS hk=>?_
   have Y:its.toArray.size=ns[1]:=by rw[gZ,B]
   rw[Y,Kb]at hS;refine tN ?_;obtain⟨o,ho,Z,es,ep,t,hd,_,_,hn,hf⟩:=hS.objOf;have hle:=qbJ ns;have I2:"I" H1 {s1 with heap:=h',toks:=tk}:=I1.kept (λb o q=>hk b o (gU q) q)
   refine vE (pins:=pins) (σ:=σ) (call_len_set ho Z hd hf (by rw[hn];lia) ?_)
   rw[hn];exact#[.int _,H1,I2.tok _,#[_,rfl],jo (X:=X) g1.s (v:=.int _) z rfl]
  rw[if_neg c]at z;exact z.elim
end
theorem ZT:∀{vs} {ws},(ws.all λw=>match w with|.fz _=>true|_=>false)=true->Args κ F H vs ws->Args κ F G vs ws
 | _,[],_,h=>h
 | _,.fz d::ws,c,h=>by
  obtain⟨v,r,e,h1,h2⟩:=h;exact#[v,r,e,h1,ZT c[""] h2]
 | _,.br d::ws,c,h=>by simp at c
 | _,.ow d::ws,c,h=>by simp at c
 | _,.lk d::ws,c,h=>by simp at c
 | _,.od d::ws,c,h=>by simp at c
def ioD(a:Addr)(d:D):En:=.od (.tup [.int (a:Int),d])
def spI(κ:Kx)(dn:Den)(n:Nat):Sp:=λvs H Q _=>vs[1]=n/\∃ F a o d pre post v1 v2,vs=v1++.ref a::v2/\Le F (but H a)/\H a=!o/\OwnO κ F o d/\Args κ F (but H a) v1 pre/\Args κ F (but H a) v2 post /\
 KE (λ_=>False) (dn (pre++ioD a d::post)) λw=>∀ v F' H',Gr F (but H a) F' H'->Vok κ (but H a) F' H' v w->Q v H'
def qbL{w:En}(h:Eok κ H0 F H v w)(o:w.own=false):Eok κ H0 F H' v w:=by
 cases w with
 | fz d=>exact h
 | ow d=>cases o
 | lk d=>exact h
 | br d=>exact h
 | od d=>cases o
def qbM{F H:Hp}{N:List Str}(l:Le F (but H a))(O:H a=!o)(U:OwnO κ F o d)(h1:Args κ F (but H a) v1 pre)(h2:Args κ F (but H a) v2 post) :
  StOk κ F (but H a) F H ((pre++ioD a d::post).map some++List.replicate (N[1]-(pre++ioD a d::post)[1]) none) (L2.z9 N (v1++.ref a::v2)):=by
 have l1:=xP h1;have l2:=xP h2;have fa:F a=none:=Le.none l yF;have sv:∀ i v,(v1++.ref a::v2)[i]?=!v->(L2.z9 N (v1++.ref a::v2))[i]?=!(!v):=λi v e=>by
  delta L2.z9
  have hi:=(gw.mp e).1;rw[t8 hi[""],gM,e]
  rfl
 have at_:∀(i:Nat) w,((pre++ioD a d::post).map some++List.replicate (N[1]-(pre++ioD a d::post)[1]) none)[i]?=!(!w)->(pre++ioD a d::post)[i]?=!w:=λi w e=>by
  by_cases hi:i<(pre++ioD a d::post)[1]
  .rw[t8 hi[""],gM]at e
   simp_all
  rw[hZ hi[""],fH]at e
  lia
 have cs:∀ i w,(pre++ioD a d::post)[i]?=!w->(i=pre[1]/\w=ioD a d)\/(i≠pre[1]/\w.own=false/\∃ v,(v1++.ref a::v2)[i]?=!v/\Eok κ (but H a) F (but H a) v w):=λi w e=>by
  rcases Nat.lt_trichotomy i pre[1] with c|c|c
  .rw[t8 c]at e;obtain⟨v,q1,q2,q3⟩:=yw h1 i w (by rw[gM,e];rfl)
   refine .inr #[t7 c,q3,v,?_,q2];rw[t8 ""]
   simp_all
  .subst c;exact .inl #[rfl,by simpa using e.symm]
  rw[hZ (cY c)]at e;obtain⟨j,hj⟩:∃ j,i-pre[1]=j+1:=#[i-pre[1]-1,""]
  rw[hj,pI]at e;obtain⟨v,q1,q2,q3⟩:=yw h2 j w (by rw[gM,e];rfl)
  refine .inr #[c6 c,q3,v,?_,q2];rw[hZ "",show i-v1[1]=j+1 by lia,pI]
  rw[gM]at q1;cases z:v2[j]? with
  | none=>rw[z]at q1;cases q1
  | some y=>rw[z]at q1;simpa using q1
 have sa:(v1++.ref a::v2)[pre[1]]?=!(.ref a):=by rw[<- l1,hZ (gE _),sub_self];rfl
 refine#[#[Le.refl,QL,Le.trans l QL,λ_ z=>.inl z],by simp[L2.z9,l1,l2],λi w e=>?_,λi j w w' b B ei ej oi oj si sj=>?_,λi y e=>?_]
 .rcases cs i w (at_ i w e)with⟨rfl,rfl⟩|⟨_,ow,v,q1,q2⟩
  .exact#[.ref a,sv _ _ sa,a,o,rfl,yF,fa,O,OwnO.noTup U]
  exact#[v,sv i v q1,qbL q2 ow]
 .rcases cs i w (at_ i w ei)with⟨rfl,_⟩|⟨_,z,_⟩
  .rcases cs j w' (at_ j w' ej)with⟨rfl,_⟩|⟨_,z,_⟩
   .exact B rfl
   rw[oj]at z;cases z
  rw[oi]at z;cases z
 rcases cs i _ (at_ i _ e)with⟨rfl,z⟩|⟨_,z,_⟩
 .cases z;refine#[λj z hj ej=>?_,a,[],sv _ _ sa,yF,fa,by simp,#[rfl,o,d,rfl,O,U],λj w b hj ej oj m sj=>?_]
  .rcases cs j _ (at_ j _ ej)with⟨q,_⟩|⟨_,q,_⟩
   .exact hj q
   cases q
  rcases cs j _ (at_ j _ ej)with⟨q,_⟩|⟨_,q,_⟩
  .exact hj q
  rw[oj]at q;cases q
 cases z
section
variable{P:ag}{w:World}{K:Frag}{mg:Str->Option aa}{base:Heap}
def fnI{st:Stmt}{N ps:List Str}{k:Nat}(F:Fun K x qual st f fd)(S:FnScope N ps (defScope st))
  (h:∀ z A outer s H F0 H0,Room k (A.deeper (envOfC qual (defScope st) s[0] f z)) ->
   SSs (cxOf CX0 P w K mg base N qual (defScope st) f z A outer s H E0).nox F0 H0 (defBody st) body):FnOk P w K mg base CX0 (k+1) f fd ps (spI #[P,w,K] (den N[1] body) ps[1]):=by
 refine F.ok S (λvs H Q E q=>q.1) (λz A outer s H vs Q E hr q=>?_)
 obtain⟨hl,F0,a,o,d,pre,post,v1,v2,rfl,l,ho,ro,a1,a2,q⟩:=q;refine#[Q5 _ _,xJ,λpins s' I=>?_]
 refine((h z A outer s H F0 (but H a) hr)) pins s' (L2.z9 N (v1++.ref a::v2)) F0 H _ _ (qbM l ho ro a1 a2) I ?_;have e:=q;unfold den at e;cases eb:body ((pre++ioD a d::post).map some++List.replicate (N[1]-(pre++ioD a d::post)[1]) none)with
 | nx ρ=>rw[eb]at e;exact λB F' H' l' S'=>e .non F' H' S'.gr rfl
 | rt w'=>rw[eb]at e;exact e
 | bk ρ=>rw[eb]at e;exact e.elim
 | ct ρ=>rw[eb]at e;exact e.elim
 | exc x=>rw[eb]at e;exact e.elim
 | stuck=>rw[eb]at e;exact e.elim
end
def ioR(o:Option (Option En)):Option (Int×D):=match o with
 | some (!(.od (.tup [.int a,d])))=>!(a,d)
 | _=>none
def ZU{a:Int}(h:ioR o=!(a,d)):o=!(!(.od (.tup [.int a,d]))):=by
 delta ioR at h
 split at h
 .lia
 cases h
def yI(i:Nat):EF:=λρ=>match ioR ρ[i]? with
 | some (_,d)=>.ok (.br d)
 | none=>.stuck
def StOk.io{F0 H0 F H:Hp}{i:Nat}{z:Int}(S:StOk κ F0 H0 F H ρ σ)(e:ρ[i]?=!(!(.od (.tup [.int z,d])))) :
  shal i ρ/\∃(a:Addr) (o:HO),z=a/\σ[i]?=!(!(.ref a))/\H0 a=none/\F a=none/\H a=!o/\OwnO κ F o d /\
   ∀ j w b,j≠i->ρ[j]?=!(!w)->w.own=true->b∈a::[]->σ[j]?≠!(!(.ref b)):=by
 obtain⟨sh,a,bs,si,h0,hf,nd,dp,sp⟩:=S.dp i _ e;obtain⟨eb,o,d',ex,ho,ro⟩:=dp;subst eb;injection ex with e1 e2;injection e1 with e1;injection e2 with e2 _;subst e2;exact#[sh,a,o,e1,si,h0,hf,ho,ro,sp]
section
variable{X:Cx}{F0 H0:Hp}{pos:Pos}
def qbN(i)(z:(Nm X i x)["t"]):"S" (.Name x pos) (yI i):=by
 intro pins s σ F H ρ Q S I h
 delta yI at h
 cases e:ioR ρ[i]? with
 | none=>rw[e]at h;exact h.elim
 | some p =>
  rw[e]at h;obtain⟨_,a,o,_,si,h0,hf,ho,ro,_⟩:=S.io (ZU e);refine thn (pvN z pins s σ H (λv' H'=>v'=.ref a/\H'=H) I #[.ref a,si,rfl,rfl]) λu s' #[v',H',I',r,ev,eh]=>?_
  subst ev eh;exact h (.ref a) u F H' s' (Gr.refl S.s) #[a,o,rfl,ho,ro] r I'
def qbO(a:Int)(d:D):En->Out
 | .fz g=>.rt (.od (.tup [.int a,d,g]))
 | _=>.stuck
def ue(i:Nat)(e:EF):SF:=λρ=>match ioR ρ[i]? with
 | some (a,d)=>sOf (e ρ) (qbO a d)
 | none=>.stuck
def qbP(i)(z:"S" e f):SS X F0 H0 (.Return ↑e pos) (ue i f):=by
 intro pins s σ F H ρ D S I h
 delta ue at h
 cases ei:ioR ρ[i]? with
 | none=>rw[ei]at h;exact h.elim
 | some p =>
  obtain⟨ai,d⟩:=p;rw[ei]at h;obtain⟨_,a,o,ea,si,h0,hf,ho,ro,_⟩:=S.io (ZU ei);refine Mo (jd) pins s σ H D I (z.sem S ((PostS.of h).imp λw k v F1 H1 g1 q1=>?_))
  cases w<;>first|exact k.elim|skip
  rename_i g;subst ea;exact k v F1 H1 (S.gr.trans g1) (.inr (.inr (.inr #[a,d,g,rfl,o,h0,g1.no hf ho (OwnO.noTup ro),g1.h _ _ ho,OwnO.le g1.f ro,q1])))
def kX(i:Nat)(k:List EF)(e:EF):SF:=λρ=>match ioR ρ[i]? with
 | some (a,.dT kvs)=>sOf ((e ρ).bind En.st) λd=>sOf (evs k ρ) λws=>match jQ (ws.map En.d)with
  | some key=>if kvs[1]<sz/\key[1]<=sz then .nx (ρ.set i (!(.od (.tup [.int a,.dT (jm key d kvs)]))))else .stuck
  | none=>.stuck
 | _=>.stuck
def qbQ(i){np tp pos pos':Pos}{n:Nat}(hu:X.A.units+10<cLine)(Y:SA X F0 H0 ks fk)(Z:"S" e fe)(hN:(Nm X i x)["t"])(hs:(swapsWith e (!(.Subscript (.Name x np) (.Tuple ks n tp) pos')) pos.line X.env=pure false)["r"]) :
  SS X F0 H0 (.Assign [.Subscript (.Name x np) (.Tuple ks n tp) pos'] e pos) (kX i fk fe):=by
 intro pins s σ F H ρ D S I h
 delta kX at h
 cases ei:ioR ρ[i]? with
 | none=>rw[ei]at h;exact h.elim
 | some p =>
  obtain⟨ai,d⟩:=p;rw[ei]at h;cases d<;>first|exact h.elim|skip
  rename_i kds;have ew:=ZU ei;obtain⟨sh,a,o,ea,e1,h0,hf,hh,ro,sp⟩:=S.io ew;cases o<;>first|exact ro.elim|skip
  rename_i kvs;have h:=KE.bind (PostS.of h);refine Z2 (pos:=pos) (pos':=pos') "o" (pvN (pos:=np) hN) (jd (e:=.Tuple ks n tp)) (jd (e:=e)) hs pins s σ H D I (Z.sem S (h.imp λw k1 y F1 H1 g1 q1=>?_))
  cases es:w.st with
  | exc x=>rw[es]at k1;exact k1.elim
  | stuck=>rw[es]at k1;exact k1.elim
  | ok d =>
   rw[es]at k1;have ry:=Vok.st S.s g1 q1 es;obtain⟨g2,_⟩:=vt S.s g1;have S2:=S.grow g2;refine#[_,e1,QC Y S2 ((PostS.of (show PostS X F0 H0 F D _ from k1)).imp λws k2 vs F3 H3 p g3 q3 hp=>?_)]
   cases ek:jQ (ws.map En.d)with
   | none=>rw[ek]at k2;exact k2.elim
   | some key =>
    rw[ek]at k2;have ev:=xZ q3 ek;subst ev;have lv:kvs[1]=kds[1]:=RepT.length ro;by_cases c:kds[1]<sz/\key[1]<=sz
    .have k3:PostS X F0 H0 F D (.nx (ρ.set i (!(.od (.tup [.int ai,.dT (jm key d kds)]))))):=by simpa[if_pos c,KE]using k2
     refine#[by rw[gj,<- zO];exact c.2,a,_,rfl,DPut.t (e:=?_) qP (by rw[lv,<- zO];exact c.1),?_]
     .rw[qu (jH (g3.h _ _ (g1.h _ _ hh)) hp)];exact g3.h _ _ (g1.h _ _ hh)
     have g4:=Gr.new (o:=.tup (key.map kV)) g3.s hp;have S4:=(S2.grow g3).grow g4;obtain⟨B,a4,o4,ea4,e4,h04,O,hh4,ro4,U⟩:=S4.io ew;rw[e1]at e4;cases e4;refine k3 σ _ _ (Le.trans g2.f (Le.trans g3.f g4.f)) (S4.turn (bs:=[]) (bs':=[]) ew e1 B U (λc hc=>qu λz=>hc (by rw[z];simp)) (λb hb=>by cases hb) (λc hc=>?_) (λc hc=>?_) "s" #[rfl,.dT (jN kvs key y),_,by rw[ea],qP,?_])
     .simp_all
     .rw[tQ.mp hc];exact O
     exact Yw (Rep.le (Le.trans g3.f g4.f) _ ry) (RepT.le (Le.trans g2.f (Le.trans g3.f g4.f)) _ ro)
    have:False:=by simpa[if_neg c,PostS,KE]using k2
    exact this.elim
abbrev IOF:=Rho->R (D×Rho)
def SIO(X:Cx)(F0 H0:Hp)(e:Expr)(f:IOF):Prop :=
 ∀(pins:List (Addr×Obj)) (s:ab) (σ:St) (F H:Hp) (ρ:Rho) (Q:aa->ab->Prop),StOk (kx X) F0 H0 F H ρ σ->"I" H s ->
  KE (XP X F0 H0) (f ρ) (λp=>∀ v u F' H' s',Le F F'->StOk (kx X) F0 H0 F' H' p.2 σ->Rep (kx X) F' v p.1->RelV v u->"I" H' s'->Q u s') ->
  X[3] (eval e X.env) Q X.xe s
def SAI(X:Cx)(F0 H0:Hp)(i:Nat)(es:List Expr)(pre post:List EF):Prop :=
 ∀(pos:Pos) (pins:List (Addr×Obj)) (s:ab) (σ:St) (F H:Hp) (ρ:Rho) (Q:List aa->ab->Prop) (a:Addr),StOk (kx X) F0 H0 F H ρ σ->"I" H s->σ[i]?=↑(!(.ref a)) ->
  KE (XP X F0 H0) (evs pre ρ) (λws=>KE (XP X F0 H0) (evs post ρ) λz=>∀ v1 v2 us F' H' s',Gr F H F' H'->Voks (kx X) H F' H' v1 ws->Voks (kx X) H F' H' v2 z->Vals (v1++.ref a::v2) us->"I" H' s'->Q us s') ->
  X[3] (spliced (backTo pos (starEach es X.env))) Q X.xe s
def qbR(i)(z:SA X F0 H0 es post)(B:(Nm X i x)["t"])(U:(starEach (.Name x np::es) X.env=(false,eval (.Name x np) X.env)::starEach es X.env)["r"]):SAI X F0 H0 i (.Name x np::es) [] post:=by
 refine λpos pins s σ F H ρ Q a S I si h=>t5 (thn (pvN B pins s σ H (λv' H'=>v'=.ref a/\H'=H) I #[.ref a,si,rfl,rfl]) λu s1 #[v',H',I1,r,ev,eh]=>?_)
 subst ev eh;exact z pos pins s1 σ F H' ρ _ S I1 (KE.imp (h) λO k vs us F2 H2 s2 g q r2 I2=>(k [] vs (u::us) F2 H2 s2 g rfl q (.cons r r2) I2))
def Kc{i:Nat}(z:"S" e f)(B:SAI X F0 H0 i es pre post)(O:(starEach (e::es) X.env=(false,eval e X.env)::starEach es X.env)["r"]):SAI X F0 H0 i (e::es) (f::pre) post:=by
 intro pos pins s σ F H ρ Q a S I si h;rw[O];refine t5 (z pins s σ F H ρ _ S I ((KE.bind h).imp λw h1 v u F1 H1 s1 g1 q1 r1 I1=>?_))
 refine B pos pins s1 σ F1 H1 ρ _ a (S.grow g1) I1 si ((KE.bind h1).imp λws h2=>?_)
 have h2:KE (XP X F0 H0) (evs post ρ) _:=h2;exact h2.imp λU k v1 v2 us F2 H2 s2 g2 q2 q3 r2 I2=>(k (v::v1) v2 (u::us) F2 H2 s2 (g1.trans g2) #[v,v1,rfl,Vok.gr g2 q1,Voks.older (λa e=>Le.none g1.h e) q2] (Voks.older (λa e=>Le.none g1.h e) q3) (.cons r1 r2) I2)
def vd(ys:List En):Bool:=ys.all λw=>match w with|.fz _=>true|_=>false
open Classical in
def wL(dn:Den)(pre:List En)(d:D)(post:List En):R (D×D) :=
 if h:∃ r:D×D,∀ a:Addr,dn (pre++ioD a d::post)=.ok (.od (.tup [.int (a:Int),r.1,r.2]))then .ok h.choose else .stuck
def qbS(h:∀ a,dn (pre++ioD a d::post)=.ok (.od (.tup [.int a,d',g]))):wL dn pre d post=.ok (d',g):=by
 delta wL
 have ex:∃ r:D×D,∀ a,dn (pre++ioD a d::post)=.ok (.od (.tup [.int a,r.1,r.2])):=#[(d',g),h];rw[dif_pos ex];have q:=ex.choose_spec 0;rw[h 0]at q;injection q with q;injection q with q;injection q with q;injection q with _ q;injection q with q1 q;injection q with q2 _;rw[<- show ex.choose.1=d' from q1.symm,<- show ex.choose.2=g from q2.symm]
def eIO(dn:Den)(i:Nat)(pre post:List EF):IOF:=λρ=>match ρ[i]? with
 | some (!d[9])=>(evs pre ρ).bind λxs=>(jW xs).bind λys=>(evs post ρ).bind λB=>(jW B).bind λz=>if (vd ys&&vd z)=true then(wL dn ys d z).bind λr=>.ok (r.2,ρ.set i (!(.ow r.1)))else .stuck
 | _=>.stuck
theorem ZV:∀{ws} {vs},Voks κ H F H' vs ws->vs[1]=ws[1]
 | [],vs,h=>by cases (h);rfl
 | w::ws,vs,h=>by obtain⟨v,r,rfl,_,h2⟩:=h;simp[ZV h2]
def qbT{k n i:Nat}{pre post:List EF}(G:FnOk X.prog X.w X.K X.mg X.base CX0 k f fd ps (spI (kx X) dn n))(Y:Room k X.A)(Z:keepIn X.K (.ref f)=true)(hb:Binds X.K fd ps [])
  (ha:SAI X F0 H0 i (e::es) pre post)(hn:pre[1]+(post[1]+1)=n)(he:starEach (e::es) X.env=(false,eval e X.env)::starEach es X.env)(U:(backTo pos (starEach es X.env)).any (·.1)=false)
  {Q:aa->ab->Prop}(S:StOk (kx X) F0 H0 F H ρ σ)(I:"I" H s)
  (h:KE (XP X F0 H0) (eIO dn i pre post ρ) λp=>∀ v u F' H' s',Le F F'->StOk (kx X) F0 H0 F' H' p.2 σ->Rep (kx X) F' v p.1->RelV v u->"I" H' s'->Q u s') :
  X[3] (callWith pos (.ref f) [] (backTo pos (starEach (e::es) X.env)) []) Q X.xe s:=by
 delta eIO at h
 split at h
 .rename_i d ei;obtain⟨v0,si,a,o,rfl,h0,hf,hh,ro⟩:=S.val i _ ei;refine callWith_K (h₀:=X.base) I.ok.mod.kin Z (ha pos pins s σ F H ρ _ a S I si ?_) he U;have h:=KE.bind h;cases ef:evs pre ρ with
  | exc x=>rw[ef]at h;exact h
  | stuck=>rw[ef]at h;exact h
  | ok ws =>
   rw[ef]at h;have h:KE (XP X F0 H0) ((jW ws).bind λys=>(evs post ρ).bind λO=>(jW O).bind λB=>if (vd ys&&vd B)=true then(wL dn ys d B).bind λr=>.ok (r.2,ρ.set i (!(.ow r.1)))else .stuck) _:=h
   cases ea:jW ws with
   | exc x=>rw[ea]at h;exact h.elim
   | stuck=>rw[ea]at h;cases h
   | ok ys =>
    rw[ea]at h;have h:=KE.bind (show KE (XP X F0 H0) ((evs post ρ).bind λO=>(jW O).bind λB=>if (vd ys&&vd B)=true then(wL dn ys d B).bind λr=>.ok (r.2,ρ.set i (!(.ow r.1)))else .stuck) _ from h)
    show KE (XP X F0 H0) (evs post ρ) _;cases ef2:evs post ρ with
    | exc x=>rw[ef2]at h;exact h
    | stuck=>rw[ef2]at h;exact h
    | ok ws2 =>
     rw[ef2]at h;refine λv1 v2 us F1 H1 s1 g1 q1 q2 r1 I1=>#[I1.kIn,?_]
     have h:KE (XP X F0 H0) ((jW ws2).bind λB=>if (vd ys&&vd B)=true then(wL dn ys d B).bind λr=>.ok (r.2,ρ.set i (!(.ow r.1)))else .stuck) _:=h
     cases ea2:jW ws2 with
     | exc x=>rw[ea2]at h;cases h
     | stuck=>rw[ea2]at h;cases h
     | ok B =>
      rw[ea2]at h;have h:KE (XP X F0 H0) (if (vd ys&&vd B)=true then(wL dn ys d B).bind λr=>.ok (r.2,ρ.set i (!(.ow r.1)))else .stuck) _:=h
      by_cases c:(vd ys&&vd B)=true
      .rw[if_pos c]at h;rw[hX]at c;obtain⟨g2,l2⟩:=vt S.s g1;have A1:=ZT (G:=but H1 a) c.1 (Qc (κ:=kx X) g1.s q1 ea (jK H F1 H1) l2 λa o e0 e2=>by delta jK;rw[e0];exact e2)
       have A2:=ZT (G:=but H1 a) c.2 (Qc (κ:=kx X) g1.s q2 ea2 (jK H F1 H1) l2 λa o e0 e2=>by delta jK;rw[e0];exact e2)
       have ga:jK H F1 H1 a=none:=g2.no hf hh (OwnO.noTup ro);have S1:=(S.grow g2).forget ei si;refine vE (Wt G Y hb (dvs:=[]) .nil WI I1 r1 ?_);rw[tT];refine#[?_,jK H F1 H1,a,o,d,ys,B,v1,v2,rfl,λc u z=>(yG (jH z ga)).trans (g2.s c u z),g1.h _ _ hh,OwnO.le g2.f ro,A1,A2,?_]
       .rw[gH,gQ,ZV q1,ZV q2,Zi pre ρ ws ef,Zi post ρ ws2 ef2];exact hn
       have h:=KE.bind h;unfold wL at h;by_cases ex:∃ r:D×D,∀ a,dn (ys++ioD a d::B)=.ok (.od (.tup [.int a,r.1,r.2]))
       .rw[dif_pos ex]at h;have sp:=ex.choose_spec a;generalize ex.choose=r at h sp;rw[sp];intro v F' H' g q u s' r' I';have q:DV (kx X) (but H1 a) F' H' v (.tup [.int a,r.1,r.2]):=q;rcases q with⟨_,z,_⟩|⟨_,z,_⟩|⟨_,_,z,_⟩|⟨a',dd,y,z,o',c0,cf,ch,co,cr⟩
        .cases z
        .cases z
        .cases z
        injection z with z;injection z with z1 z;injection z with z2 z;injection z with z3 _;injection z1 with z1;have:a'=a:=(Int.ofNat.inj z1).symm;subst this;subst z2;subst z3;have S2:=S1.setW g (i:=i) (v:=.ref a') (w:=.ow r.1) (w':=.ow r.1) #[a',o',rfl,yF,cf,ch,co] rfl;rw[bM]at S2;have se:σ.set i (!(.ref a'))=σ:=by
         obtain⟨hl,e2⟩:=gw.mp si;rw[<- e2,List.set_getElem_self]
        rw[se]at S2;exact h v u F' H' s' (Le.trans g2.f g.f) S2 cr r' I'
       rw[dif_neg ex]at h;exact h.elim
      rw[if_neg c]at h;exact h.elim
 exact h.elim
def dFn(x:Str):D:=.xc x [("fn",.non)]
def qbU(B:X.mg x=!(.ref f))(z:nsIn X.K mainGlobals x=!(!(.ref f)))(O:(Gl X x)["r"])(hd:((x==("__debug__"))=false)["d"]):"S" (.Name x p) (eC (dFn x)) :=
 WJ (v:=.ref f) B rfl (λF=>show FnV (kx X) (.ref f) x [("fn",.non)]from λf' e=>by rw[z]at e;cases e;rfl) O hd
def fnOf(o:Option (Option En)):Option Str:=match o with
 | some (!(.xc x [(_,.non)])[8])=>!x
 | _=>none
def eIOV(j:Nat)(x1:Str)(z:Den)(i:Nat)(pre post:List EF):IOF:=λρ=>match fnOf ρ[j]? with
 | some x=>if x=x1 then eIO z i pre post ρ else .stuck
 | none=>.stuck
def qbV(h:fnOf o=!x):∃ y,o=!(!(.xc x [(y,.non)])[8]):=by
 delta fnOf at h
 split at h
 .cases h;exact#[_,rfl]
 cases h
def qbW(j:Nat){Z n i:Nat}{pre post:List EF}
  (G1:FnOk X.prog X.w X.K X.mg X.base CX0 Z f1 fd1 ps1 (spI (kx X) d1 n))(B:Room Z X.A)(O:keepIn X.K (.ref f1)=true)(U:Binds X.K fd1 ps1 [])(n1:nsIn X.K mainGlobals x1=!(!(.ref f1)))
  (ha:SAI X F0 H0 i (e::es) pre post)(hn:(pre[1]+(post[1]+1)=n)["r"])(hN:(Nm X j x)["t"])(he:(starEach (e::es) X.env=(false,eval e X.env)::starEach es X.env)["r"])(Y:((backTo pos (starEach es X.env)).any (·.1)=false)["r"]) :
  SIO X F0 H0 (.Call (.Name x p) (e::es) [] pos) (eIOV j x1 d1 i pre post):=by
 intro pins s σ F H ρ Q S I h;unfold eIOV at h;cases ef:fnOf ρ[j]? with
 | none=>rw[ef]at h;exact h.elim
 | some y =>
  rw[ef]at h;dsimp only at h;obtain⟨z,ej⟩:=qbV ef;obtain⟨v,sj,r⟩:=S.val j _ ej;have r:∀ f:Addr,nsIn X.K mainGlobals y=!(!(.ref f))->v=.ref f:=r;refine fB (thn (pvN hN pins s σ H (λv' H'=>v'=v/\H'=H) I #[v,sj,rfl,rfl]) λu s1 #[v',H',I1,rv,ev,eh]=>?_)
  subst ev eh;by_cases c1:y=x1
  .rw[if_pos c1]at h;subst c1;cases r f1 n1;cases (show u=Value.ref f1 from rv)
   exact qbT G1 B O U ha hn he Y S I1 h
  rw[if_neg c1]at h;exact h.elim
end
theorem RepT.look:∀{kds} {kvs} k,RepT κ F kvs kds->(∃ v d,js kvs k=!v/\L3.look k kds=!d/\Rep κ F v d)\/(js kvs k=none/\L3.look k kds=none)
 | [],_,k,h=>by cases (h);exact .inr #[rfl,rfl]
 | (q,d)::r,_,k,h=>by
  obtain⟨v,kr,rfl,h1,h2⟩:=h;by_cases e:q=k
  .subst e;exact .inl #[v,d,by delta js;simp,by unfold L3.look;rw[if_pos rfl],h1]
  rcases RepT.look k h2 with⟨v',d',a1,a2,a3⟩|⟨a1,a2⟩
  .refine .inl #[v',d',?_,by unfold L3.look;rw[if_neg e];exact a2,a3]
   delta js at ⊢
   rw[dS e[""]]
   exact a1
  refine .inr #[?_,by unfold L3.look;rw[if_neg e];exact a2]
  delta js at ⊢
  rw[dS e[""]]
  exact a1
def QX(kvs:List (List (Sum Int Str)×D))(q:List (Sum Int Str))(wx:En):R En:=match look q kvs with|some d=>.ok d[8]|none=>.ok wx
def QY(k:Option (List (Sum Int Str)))(g:List (Sum Int Str)->R En):R En:=match k with
 | some q=>if q[1]<=sz then g q else .stuck
 | none=>.stuck
def uf(d:EF)(k:List EF)(x:EF):EF:=λρ=>(d ρ).bind λwd=>match wd.d with
 | .dT kvs=>(evs k ρ).bind λws=>QY (jQ (ws.map En.d)) λq=>(x ρ).bind λwx=>QX kvs q wx
 | _=>.stuck
section
variable{X:Cx}{F0 H0:Hp}{pos:Pos}
def qbX{n:Nat}(Z:X.A.units+10<cLine)(O:"S" o fo)(U:SA X F0 H0 ks fk)(Y:"S" f ff)(m:M2 X o "get" apos (.Tuple ks n tp) f cpos:=by exact#[rfl,rfl,rfl,rfl]) :
  "S" (.Call (.Attribute o "get" apos) [.Tuple ks n tp,f] [] cpos) (uf fo fk ff):=by
 refine λpins s σ F H ρ Q S I h=>vE (Te "" (jd (e:=o)) (jd (e:=.Tuple ks n tp)) (jd (e:=f)) m pins s σ H (λv H'=>∀ u s',RelV v u->"I" H' s'->Q u s') I ?_)
 refine O.sem S ((KE.bind h).imp λwd h1 v F1 H1 g1 q1=>?_)
 have qd:=Vok.rd q1
 revert h1 qd
 generalize wd.d=dd;intro h1 qd;cases dd<;>first|exact h1.elim|skip
 obtain⟨p,kvs,rfl,hq,rk⟩:=RdV.dT g1.s qd;refine#[p,rfl,.inr #[_,hq],QC U (S.grow g1) ((KE.bind h1).imp λws h2 vs F2 H2 b g2 q2 hb=>?_)]
 unfold QY at h2;cases ek:jQ (ws.map En.d)with
 | none=>rw[ek]at h2;exact h2.elim
 | some key =>
  rw[ek]at h2;dsimp only at h2;by_cases c:key[1]<=sz
  .rw[if_pos c]at h2;have ev:=xZ q2 ek;subst ev;have g4:=Gr.new (o:=.tup (key.map kV)) g2.s hb;refine#[by rw[gj];exact c,Y.sem (S.grow (g1.trans (g2.trans g4))) ((KE.bind h2).imp λwx h3 v3 F3 H3 g3 q3=>?_)]
   have B:Le H1 H3:=Le.trans (g2.trans g4).h g3.h;have gA:=g1.trans ((g2.trans g4).trans g3);refine#[js kvs key,.inr #[kvs,key,b,Rd.le B hq,rfl,g3.h _ _ qP,rfl],λu s' ru I'=>?_]
   unfold QX at h3;rcases RepT.look key rk with⟨z,d,a1,a2,rz⟩|⟨a1,a2⟩
   .rw[a2]at h3;rw[a1]at ru;exact h3 z u F3 H3 s' gA (Rep.le (Le.trans (g2.trans g4).f g3.f) _ rz) ru I'
   rw[a2]at h3;rw[a1]at ru;exact h3 v3 u F3 H3 s' gA (Vok.older (λa e=>Le.none (Le.trans g1.h (g2.trans g4).h) e) q3) ru I'
  rw[if_neg c]at h2;exact h2.elim
def yJ(d k:EF):EF:=λρ=>(d ρ).bind λwd=>match wd.d with
 | .dK kvs=>(k ρ).bind λwk=>(match zq wk.d with
  | some q=>(match look q kvs with|some d=>.ok d[8]|none=>.ok (.fz .non))
  | none=>.stuck)
 | _=>.stuck
def qbY(Y:"S" o fo)(Z:"S" e fe)(m:M1 X o "get" apos e cpos:=by exact#[rfl,rfl,rfl,rfl]) :
  "S" (.Call (.Attribute o "get" apos) [e] [] cpos) (yJ fo fe):=by
 refine λpins s σ F H ρ Q S I h=>bY m.base m.few m.line cL fV bi (Y pins s σ F H ρ _ S I ((KE.bind h).imp λwd h1 v u F1 H1 s1 g1 q1 r1 I1=>?_))
 have qd:=Vok.rd q1
 revert h1 qd
 generalize wd.d=dd;intro h1 qd;cases dd<;>first|exact h1.elim|skip
 obtain⟨p,kvs,rfl,hq,rk⟩:=RdV.dK g1.s qd;cases (show u=Value.ref p from r1)
 obtain⟨hd,vs,rel,dd⟩:=Inv.dictK I1 hq;refine#[dd.typeIs,λb q=>?_,?_]
 .cases q;obtain⟨ob,_,_,e1,e2,_⟩:=dd;exact#[ob,e1,e2.2.1]
 rw[m.trees];refine pT rfl (d9 (t5 (Z pins s1 σ F1 H1 ρ _ (S.grow g1) I1 ((KE.bind h1).imp λwk h2 v2 u2 F2 H2 s2 g2 q2 r2 I2=>tN ?_))))
 cases ek:zq wk.d with
 | none=>rw[ek]at h2;exact h2.elim
 | some key =>
  rw[ek]at h2;dsimp only at h2;have ry:RelV (kV key) u2:=Z8 ek (Vok.rd q2) r2;obtain⟨hd3,vs3,O,U⟩:=Inv.dictK I2 (SqK.le g2.h hq);refine bg fV U.typeIs cU (PySem.F.args_dict_get_2 _ _) (meets_dict_get (jk X.prog X.w) p (kc ry) hd3) #[_,U.mapOf,?_];have rg:=(O.val key).getD (show RelV V.non Value.none from rfl)
  have B:=g1.trans g2;rcases RepK.look key rk with⟨z,d,a1,a2,rz⟩|⟨a1,a2⟩
  .rw[a2]at h2;rw[a1]at rg;exact h2 z _ F2 H2 _ B (Rep.le g2.f _ rz) rg (I2.tok _)
  rw[a2]at h2;rw[a1]at rg;exact h2 .non _ F2 H2 _ B rfl rg (I2.tok _)
abbrev XF:=Rho->R (List D×Rho)
def SAX(X:Cx)(F0 H0:Hp)(es:List Expr)(f:XF):Prop :=
 ∀(pos:Pos) (pins:List (Addr×Obj)) (s:ab) (σ:St) (F H:Hp) (ρ:Rho) (Q:List aa->ab->Prop),StOk (kx X) F0 H0 F H ρ σ->"I" H s ->
  KE (XP X F0 H0) (f ρ) (λp=>∀ vs us F' H' s',Le F F'->StOk (kx X) F0 H0 F' H' p.2 σ->Reps (kx X) F' vs p.1->Vals vs us->"I" H' s'->Q us s') ->
  X[3] (spliced (backTo pos (starEach es X.env))) Q X.xe s
def ug:XF:=λρ=>.ok ([],ρ)
def fzR:En->R D
 | .fz d=>.ok d
 | _=>.stuck
def vf(f:EF)(r:XF):XF:=λρ=>(f ρ).bind λw=>(fzR w).bind λd=>(r ρ).bind λq=>.ok (d::q.1,q.2)
def xIO(f:IOF)(r:XF):XF:=λρ=>(f ρ).bind λp=>(r p.2).bind λq=>.ok (p.1::q.1,q.2)
def qbZ:SAX X F0 H0 [] ug:=λpos pins s σ F H ρ Q S I h=>tN (h [] [] F H s Le.refl S rfl .nil I)
def ZW(z:"S" e f)(B:SAX X F0 H0 es r)(O:(starEach (e::es) X.env=(false,eval e X.env)::starEach es X.env)["r"]):SAX X F0 H0 (e::es) (vf f r):=by
 intro pos pins s σ F H ρ Q S I h;rw[O];refine t5 (z pins s σ F H ρ _ S I ((KE.bind h).imp λw h1 v u F1 H1 s1 g1 q1 r1 I1=>?_))
 cases w<;>first|exact h1.elim|skip
 rename_i d;exact B pos pins s1 σ F1 H1 ρ _ (S.grow g1) I1 ((KE.bind (show KE (XP X F0 H0) ((r ρ).bind λq=>.ok (d::q.1,q.2)) _ from h1)).imp λq h2 vs us F2 H2 s2 l2 S2 rs r2 I2=>(h2 (v::vs) (u::us) F2 H2 s2 (Le.trans g1.f l2) S2 #[v,vs,rfl,Rep.le l2 _ q1,rs] (.cons r1 r2) I2))
def qc0(z:SIO X F0 H0 e f)(B:SAX X F0 H0 es r)(O:(starEach (e::es) X.env=(false,eval e X.env)::starEach es X.env)["r"]):SAX X F0 H0 (e::es) (xIO f r):=by
 intro pos pins s σ F H ρ Q S I h;rw[O];exact t5 (z pins s σ F H ρ _ S I ((KE.bind h).imp λp h1 v u F1 H1 s1 l1 S1 q1 r1 I1=>(B pos pins s1 σ F1 H1 p.2 _ S1 I1 ((KE.bind (h1)).imp λq h2 vs us F2 H2 s2 l2 S2 rs r2 I2=>(h2 (v::vs) (u::us) F2 H2 s2 (Le.trans l1 l2) S2 #[v,vs,rfl,Rep.le l2 _ q1,rs] (.cons r1 r2) I2)))))
def eIOT(f:XF):IOF:=λρ=>(f ρ).bind λp=>if p.1.length<=sz then .ok (.tup p.1,p.2)else .stuck
def qc1(h:SAX X F0 H0 es f):SIO X F0 H0 (.Tuple es x1 pos) (eIOT f):=by
 refine λpins s σ F H ρ Q S I k=>du (h pos pins s σ F H ρ _ S I ((KE.bind k).imp λp k1 vs us F1 H1 s1 l1 S1 rs r1 I1=>?_))
 by_cases c:p.1.length<=sz
 .rw[if_pos c]at k1;have hz:vs[1]<=sizeLine:=by rw[Reps.length rs];exact c
  refine#[by rw[<- r1[1]];exact hz,?_]
  have gn:=Gr.newF (o:=.tup vs) S1.s (I1.hok.fresh (gE _));exact k1 (.ref s1[0]) _ _ _ _ (Le.trans l1 gn.f) (S1.grow gn) #[_,vs,rfl,.inl (.inl qP),Reps.le gn.f _ rs] rfl (I1.laid (λb u e=>gy _ e) (gE _) #[hz,us,r1,#[_,gN _ rfl,rfl,_,rfl]])
 rw[if_neg c]at k1;exact k1.elim
def sIO(i:Nat)(f:IOF):SF:=λρ=>sOf (f ρ) λp=>.nx (p.2.set i (!(.fz p.1)))
def qc2(i)(z:X.N.Nodup)(B:SIO X F0 H0 e f)(hi:(X.N[i]?=!x)["r"])(O:(Loc X.env.scope x)["t"])
  (U:(swapsWith e (!(.Name x pos')) pos.line X.env=pure false)["r"])(Y:(X.fn x=true\/X.env.scope.names.lookup x=some .local)["t"]) :
  SS X F0 H0 (.Assign [.Name x pos'] e pos) (sIO i f):=by
 exact λpins s σ F H ρ D S I h=>dU (B pins s σ F H ρ _ S I ((PostS.of h).imp λp k v u F' H' s' l S' q r I'=>(yZ I' z hi O r (λs2 I2=>#[_,H',I2,k _ F' H' l (S'.setF q)]) Y))) U
end
theorem len1{α:Type}:∀{us:List α},us[1]=1->∃ a,us=[a]
 | [a],_=>#[a,rfl]
theorem len2{α:Type}:∀{us:List α},us[1]=2->∃ a b,us=[a,b]
 | [a,b],_=>#[a,b,rfl]
theorem len3{α:Type}:∀{us:List α},us[1]=3->∃ a b c,us=[a,b,c]
 | [a,b,c],_=>#[a,b,c,rfl]
theorem len4{α:Type}:∀{us:List α},us[1]=4->∃ a b c d,us=[a,b,c,d]
 | [a,b,c,d],_=>#[a,b,c,d,rfl]
section
variable{X:Cx}{F0 H0:Hp}
variable{pos p kp:Pos}
variable{w:World}{prog:ag}{A:aj}{E:aa->ab->Prop}
variable{s:ab}
variable{R:Result->ab->Prop}{I:Addr}{fp wr:List Addr}{G:Array GenState->Array GenState->Prop}{n:Nat}{P:Nat->aa->Prop}{St:Nat->ab->Prop}
variable{S:Addr}{es:Array (Int×aa)}{ep i:Nat}{t:SetTable}
variable{T:Addr}
variable{pos2 p2:Pos}
variable{K:Frag}{C x:Addr}{ox:Obj}{od:Option Obj}
end
def exD(a:Addr):D:=.xc "_" [("_",.int (a:Int))]
def Ke(κ:Kx)(F:Hp)(a:Addr):Rep κ F (.ref a) (exD a):=by
 show V.ref a=.ref ((a:Int).toNat);rw[tY]
def QZ(h:Rep κ F v (exD a)):v=.ref a:=by
 have h:v=.ref ((a:Int).toNat):=h;rw[h,tY]
section
variable{X:Cx}{F0 H0:Hp}{n cN:Str}{S C e:Addr}{i:Nat}{x:Xc}{np vp ip cp apos:Pos}
variable{pins:List (Addr×Obj)}{σ:St}{H:Hp}{s:ab}
variable{cs:List Str}{hp:Pos}{b0:Stmt}{bd:List Stmt}{m:Addr->Xc->SF}
end
section
variable{X:Cx}{F0 H0:Hp}{pos p pos2 pos3:Pos}{e:Expr}{es:List Expr}{fa:List EF}{x:Str}{k n:Nat}{f L:Addr}{fd:FuncData}{ps:List Str}{dn:Den}{h0:ExceptHandler}{cs:List Str}{hd:Xc->Rho->Out}{outer:List Env}
end
section
variable{X:Cx}{F0 H0:Hp}{pos p pos2:Pos}{e:Expr}{es:List Expr}{fa:List EF}{g:Str}{fg:Addr}{dn:Den}{st:SF}{f:EF}{pre:List EF}
end
section
variable{X:Cx}{F0 H0:Hp}{S C e:Addr}{L:List (Str×Addr)}{c cS:Str}{x:Xc}{cs:List Str}
def all1{α:Type}{P:α->Prop}{a:α}{l:List α}(h:P a)(r:∀ p∈l,P p):∀ p∈a::l,P p:=λp hp=>by
 grind
def all0{α:Type}{P:α->Prop}:∀ p∈[],P p:=λ_ h=>nomatch h
variable{pos pos' pos2:Pos}{fa:List EF}{dn:Den}{st:SF}{y:Str}
end
def rm{j k:Nat}(z:Room k A)(h:(j<=k)["d"]):Room j A:=z.mono h
inductive FunE(K:Frag)(x:Str)(s:Stmt):Prop
 | mk {f:Addr} {od an:Option Addr} {sl:Array (Option Value)} {oc kV dc pm cd ct:Value} (a:nsIn K mainGlobals x=!(!(.ref f)))
   (l:K.lookup f=↑#[oc,od,.func (PySem.W.fnOf x x (defArgs s) (defBody s) (defScope s) .none kV dc pm an cd ct),sl]) (c:codeIn K cd x=true) (k:keepIn K (.ref f)=true):FunE K x s
inductive DatE(K:Frag)(x:Str)(c:D):Prop
 | mk {u:Value} (n:nsIn K mainGlobals x=!(!u)) (d:vH K 9 u=!c):DatE K x c
structure Cal(K:Frag)(mg:Str->Option Value)(x:Str)(ps:List Str)(f:Addr)(fd:FuncData):Prop where
 m:mg x=!(.ref f)
 k:keepIn K (.ref f)=true
 b:Binds K fd ps []
 n:nsIn K mainGlobals x=!(!(.ref f))
def FunF(K:Frag)(mg:Str->Option aa)(x:Str)(s:Stmt)(ps:List Str):Prop:=∃ f fd,Fun K x x s f fd/\Cal K mg x ps f fd
def C0(P:ag)(w:World)(K:Frag)(mg:Str->Option aa)(base:Heap)(k:Nat)(x:Str)(ps:List Str)(dn:Den):Prop:=∃ f fd,FnOk P w K mg base CX0 k f fd ps (spD #[P,w,K] dn ps[1])/\Cal K mg x ps f fd
def CI(P:ag)(w:World)(K:Frag)(mg:Str->Option aa)(base:Heap)(k:Nat)(x:Str)(ps:List Str)(dn:Den):Prop:=∃ f fd,FnOk P w K mg base CX0 k f fd ps (spI #[P,w,K] dn ps[1])/\Cal K mg x ps f fd
def CM(P:ag)(w:World)(K:Frag)(mg:Str->Option aa)(base:Heap)(k:Nat)(x:Str)(ps:List Str)(dn:Den):Prop:=∃ f fd,FnOk P w K mg base CX0 k f fd ps (spM #[P,w,K] dn)/\Cal K mg x ps f fd
def CC(P:ag)(w:World)(K:Frag)(mg:Str->Option aa)(x:Str)(c:D):Prop:=∃ u v,mg x=!u/\RelV v u/\∀ F,Rep #[P,w,K] F v c
section
variable{P:ag}{w:World}{K:Frag}{mg:Str->Option aa}{h:Heap}{x:Str}{s:Stmt}{ps:List Str}{c:D}
def qc3(X:K.In h)(G:h.Ns mainGlobals mg)(E:FunE K x s)(O:∀ kV z pm an B ct us,us[1]=ps[1]->bindArgs (PySem.W.fnOf x x (defArgs s) (defBody s) (defScope s) .none kV z pm an B ct) #[us,[]]=pure (ps.zip us)):FunF K mg x s ps:=by
 obtain⟨a,l,cd,k⟩:=E;exact#[_,_,Z3 l cd k,mr X G a,k,(Z3 l cd k).binds O,a]
def qc4(X:K.In h)(G:h.Ns mainGlobals mg)(E:DatE K x c):CC P w K mg x c:=by
 obtain⟨n,d⟩:=E;obtain⟨v,r,q⟩:=WX (κ:=#[P,w,K]) 9 _ _ d;exact#[_,v,mr X G n,r,q]
def qc5(X:K.In h)(G:h.Ns mainGlobals mg)(n:nsIn K mainGlobals x=!(!(.ref a)))(d:DatS w K a l):CC P w K mg x (.dK l):=by
 obtain⟨v,r,q⟩:=qbc (κ:=#[P,w,K]) d;exact#[_,v,mr X G n,r,q]
end
section
variable{P:ag}{w:World}{K:Frag}{mg:Str->Option aa}{base:Heap}{x:Str}{st:Stmt}{N ps:List Str}{p:Str}{k:Nat}{body:SF}
def fD(F:FunF K mg x st ps)(S:FnScope N ps (defScope st))(h:∀ f z A outer s H F0,Room k (A.deeper (envOfC x (defScope st) s[0] f z)) ->
  SSs (cxOf CX0 P w K mg base N x (defScope st) f z A outer s H E0).nox F0 H (defBody st) body):C0 P w K mg base (k+1) x ps (den N[1] body):=by
 obtain⟨f,fd,F,J⟩:=F;exact#[f,fd,fnD F S (h f),J]
def fI(F:FunF K mg x st ps)(S:FnScope N ps (defScope st))(h:∀ f z A outer s H F0 H0,Room k (A.deeper (envOfC x (defScope st) s[0] f z)) ->
  SSs (cxOf CX0 P w K mg base N x (defScope st) f z A outer s H E0).nox F0 H0 (defBody st) body):CI P w K mg base (k+1) x ps (den N[1] body):=by
 obtain⟨f,fd,F,J⟩:=F;exact#[f,fd,fnI F S (h f),J]
def fM(F:FunF K mg x st [p])(S:FnScope N [p] (defScope st))(B:0<N[1])(h:∀ f z A outer s H F0 H0,Room k (A.deeper (envOfC x (defScope st) s[0] f z)) ->
  SSs (cxOf CX0 P w K mg base N x (defScope st) f z A outer s H E0).nox F0 H0 (defBody st) body):CM P w K mg base (k+1) x [p] (den N[1] body):=by
 obtain⟨f,fd,F,J⟩:=F;exact#[f,fd,fnM F S B (h f),J]
end
section
variable{X:Cx}{F0 H0:Hp}{pos p:Pos}{e:Expr}{es:List Expr}{fa:List EF}{x:Str}{k:Nat}{ps:List Str}{dn:Den}{d:D}
def cl(G:C0 X.prog X.w X.K X.mg X.base k x ps dn)(O:Room k X.A)(U:SA X F0 H0 (e::es) fa)(Y:(fa[1]=ps[1])["r"])
  (Z:(Gl X x)["r"])(z:((x==("__debug__"))=false)["d"])(he:(starEach (e::es) X.env=(false,eval e X.env)::starEach es X.env)["r"])(B:((backTo pos (starEach es X.env)).any (·.1)=false)["r"]) :
  "S" (.Call (.Name x p) (e::es) [] pos) (qh dn fa):=by
 obtain⟨_,_,G,J⟩:=G;exact Tz G O J.m J.k J.b U Y Z z he B
def gb(q:CC X.prog X.w X.K X.mg x d)(z:(Gl X x)["r"])(hd:((x==("__debug__"))=false)["d"]):"S" (.Name x pos) (eC d):=by
 obtain⟨_,_,m,r,q⟩:=q;exact WJ m r q z hd
variable{pins:List (Addr×Obj)}{σ:St}{H₂:Hp}{s₂:ab}{fp:List Addr}{it:Addr}{tn:Nat->Heap->Prop}{J:It}{tg:Expr}{scope:Scope}{cl:List (Str×Addr)}{N:List Str}{n:Nat}{x0:Str}
end
section
variable{X:Cx}{F0 H0:Hp}{pos:Pos}{tg elt iter:Expr}{ifs:List Expr}{scope:Scope}{fi:IF}{gf:GF}{t:TF}{e:EF}
variable{a b:SF}{ρ ρ':Rho}{w:En}{x:Xc}{d:D}{f:EF}{u:TF}{i j:Nat}
theorem qib:qf a b ρ=Out.th (a ρ) b:=rfl
theorem qic:jn i a ρ=a (kI ρ[i]? i ρ):=rfl
theorem qid:kC []=.ok (.lst [])[9]:=rfl
theorem qie:kC [a0]=.ok (.lst [a0])[9]:=rfl
theorem qif:kC [a0,a1,a2]=.ok (.lst [a0,a1,a2])[9]:=rfl
theorem qig:kC [a0,a1,a2,a3,a4]=.ok (.lst [a0,a1,a2,a3,a4])[9]:=rfl
theorem qih:kC [a0,a1,a2,a3,a4,a5,a6]=.ok (.lst [a0,a1,a2,a3,a4,a5,a6])[9]:=rfl
theorem qii:Qj [a0,a1]=.ok (.tup [a0,a1])[8]:=rfl
theorem qij:Qj [a0,a1,a2]=.ok (.tup [a0,a1,a2])[8]:=rfl
theorem qik:Qj [a0,a1,a2,a3]=.ok (.tup [a0,a1,a2,a3])[8]:=rfl
end
section
variable{α β:Type}{f:α->β}{a b:α}{l r:List α}{n i:Nat}
theorem qil:List.map f []=[]:=rfl
theorem qim:List.map f (a::l)=f a::List.map f l:=rfl
theorem qin:[]++l=l:=rfl
theorem qio:(a::l)++r=a::(l++r):=rfl
theorem qip:([]:List α)[1]=0:=rfl
theorem qiq:(a::l)[1]=l[1]+1:=rfl
theorem qir:List.replicate 0 a=[]:=rfl
theorem qis:List.replicate (n+1) a=a::List.replicate n a:=rfl
theorem qit:(a::l)[0]?=!a:=rfl
theorem qiu:(a::l)[i+1]?=l[i]?:=rfl
theorem qiv:(a::l).set 0 b=b::l:=rfl
theorem qiw:(a::l).set (i+1) b=a::l.set i b:=rfl
theorem y_nt:(not true)=false:=rfl
theorem y_nf:(not false)=true:=rfl
end
abbrev FnT:=List (Str×Stmt)
def fnm(Fs:FnT)(n:Nat):Str:=(Fs.getD n ("_",.Pass #[0,0,0,0])).1
def fst(Fs:FnT)(n:Nat):Stmt:=(Fs.getD n ("_",.Pass #[0,0,0,0])).2
def psS(s:Stmt):List Str:=(defArgs s).args.map Arg.arg
structure Wd where
 P:Program
 w:World
 K:Frag
 mg:Str->Option Value
 base:Heap
structure Al(W:Wd)(Fs:FnT)(Bl:List Str)(Cs:List (Str×D)):Prop where
 h:∃ h:Heap,W.K.In h/\h.Ns mainGlobals W.mg
 f:∀ p∈Fs,FunE W.K p.1 p.2
 b:∀ x∈Bl,nsIn W.K mainGlobals x=!none
 c:∀ p∈Cs,CC W.P W.w W.K W.mg p.1 p.2
section
variable{W:Wd}{Fs:FnT}{Bl:List Str}{Cs:List (Str×D)}
def Al.bl(A:Al W Fs Bl Cs)(h:x∈Bl:=by decide +kernel):W.mg x=none:=by
 obtain⟨_,X,G⟩:=A.h;exact PySem.W.mg_none_of X G (A.b x h)
def Al.q(A:Al W Fs Bl Cs)(n:Nat)(h:(Cs[n]?=!(x,d))["r"]):CC W.P W.w W.K W.mg x d:=A.c _ (hV h)
abbrev apS(N M:List Str):List Str:=N++M
def ndc(_:N.Nodup)(M)(h:(apS N M).Nodup:=by decide +kernel):(apS N M).Nodup:=h
def Al.fn(A:Al W Fs Bl Cs)(n){ps:List Str}(O:n<Fs.length)
  (U:∀ kV z pm an B ct us,us[1]=ps[1]->bindArgs (PySem.W.fnOf (fnm Fs n) (fnm Fs n) (defArgs (fst Fs n)) (defBody (fst Fs n)) (defScope (fst Fs n)) .none kV z pm an B ct) #[us,[]]=pure (ps.zip us)) :
  FunF W.K W.mg (fnm Fs n) (fst Fs n) ps:=by
 obtain⟨_,X,G⟩:=A.h;have e:Fs.getD n ("_",.Pass #[0,0,0,0])∈Fs:=by rw[tG,gJ O];exact fT O
 exact qc3 X G (A.f _ e) U
def fE(A:Al W Fs Bl Cs)(n)(N){k:Nat}
  (h:∀{f} {z} {Ar} {outer} {s} {H F0},Room k (Ar.deeper (envOfC (fnm Fs n) (defScope (fst Fs n)) s[0] f z))->N.Nodup->(Ar.deeper (envOfC (fnm Fs n) (defScope (fst Fs n)) s[0] f z)).units+10<cLine ->
   SSs (cxOf CX0 W.P W.w W.K W.mg W.base N (fnm Fs n) (defScope (fst Fs n)) f z Ar outer s H E0).nox F0 H (defBody (fst Fs n)) body)
  (O:(n<Fs.length)["d"]) (S:FnScope N (psS (fst Fs n)) (defScope (fst Fs n)):=by constructor<;>first|rfl|decide +kernel)
  (U:∀ kV B pm an z ct us,us[1]=(psS (fst Fs n))[1]->bindArgs (PySem.W.fnOf (fnm Fs n) (fnm Fs n) (defArgs (fst Fs n)) (defBody (fst Fs n)) (defScope (fst Fs n)) .none kV B pm an z ct) #[us,[]]=pure ((psS (fst Fs n)).zip us):=by
   intro _ _ _ _ _ _ us hl;first|(obtain⟨_,rfl⟩:=len1 hl;rfl)|(obtain⟨_,_,rfl⟩:=len2 hl;rfl)|(obtain⟨_,_,_,rfl⟩:=len3 hl;rfl)|(obtain⟨_,_,_,_,rfl⟩:=len4 hl;rfl)) :
  C0 W.P W.w W.K W.mg W.base (k+1) (fnm Fs n) (psS (fst Fs n)) (den N[1] body):=fD (A.fn n O U) S λ_ _ _ _ _ _ _ hr=>h hr S.nd (hu10 hr)
def fEI(A:Al W Fs Bl Cs)(n)(N){k:Nat}
  (h:∀{f} {z} {Ar} {outer} {s} {H F0 H0},Room k (Ar.deeper (envOfC (fnm Fs n) (defScope (fst Fs n)) s[0] f z))->N.Nodup->(Ar.deeper (envOfC (fnm Fs n) (defScope (fst Fs n)) s[0] f z)).units+10<cLine ->
   SSs (cxOf CX0 W.P W.w W.K W.mg W.base N (fnm Fs n) (defScope (fst Fs n)) f z Ar outer s H E0).nox F0 H0 (defBody (fst Fs n)) body)
  (O:(n<Fs.length)["d"]) (S:FnScope N (psS (fst Fs n)) (defScope (fst Fs n)):=by constructor<;>first|rfl|decide +kernel)
  (U:∀ kV B pm an z ct us,us[1]=(psS (fst Fs n))[1]->bindArgs (PySem.W.fnOf (fnm Fs n) (fnm Fs n) (defArgs (fst Fs n)) (defBody (fst Fs n)) (defScope (fst Fs n)) .none kV B pm an z ct) #[us,[]]=pure ((psS (fst Fs n)).zip us):=by
   intro _ _ _ _ _ _ us hl;obtain⟨_,_,_,_,rfl⟩:=len4 hl;rfl) :
  CI W.P W.w W.K W.mg W.base (k+1) (fnm Fs n) (psS (fst Fs n)) (den N[1] body):=fI (A.fn n O U) S λ_ _ _ _ _ _ _ _ hr=>h hr S.nd (hu10 hr)
def fEL(F:Fun W.K "law" "law" s f fd)(N){k:Nat}
  (h:∀{cdv} {Ar} {outer} {st} {H F0},Room k (Ar.deeper (envOfC "law" (defScope s) st[0] f cdv))->N.Nodup->(Ar.deeper (envOfC "law" (defScope s) st[0] f cdv)).units+10<cLine ->
   SSs (cxOf CX0 W.P W.w W.K W.mg W.base N "law" (defScope s) f cdv Ar outer st H E0).nox F0 H (defBody s) body)
  (S:FnScope N ["_law_script"] (defScope s):=by constructor<;>first|rfl|decide +kernel) :
  FnOk W.P W.w W.K W.mg W.base CX0 (k+1) f fd ["_law_script"] (spD #[W.P,W.w,W.K] (den N[1] body) 1):=fnD F S λ_ _ _ _ _ _ hr=>h hr S.nd (hu10 hr)
end
def qc6{K:Frag}{mg:Str->Option aa}{h:Heap}{k:Nat}(X:K.In h)(G:h.Ns mainGlobals mg)(z:mg "law"=!(.ref fa))(E:FunE K "law" s)
  (U:∀ kV B pm an O ct st v,BindsTo st (PySem.W.fnOf "law" "law" (defArgs s) (defBody s) (defScope s) .none kV B pm an O ct) #[[v],[]] [("_law_script",v)])
  (H:∀ base f fd,Fun K "law" "law" s f fd->FnOk P w K mg base CX0 k f fd ["_law_script"] (spD #[P,w,K] dn 1)) :
  ∃ fd,(∀ st v,BindsTo st fd #[[v],[]] [("_law_script",v)])/\∀ base,K.In base->base.Ns mainGlobals mg->FnOk P w K mg base CX0 k fa fd ["_law_script"] (spD #[P,w,K] dn 1):=by
 obtain⟨a,l,c,kk⟩:=E;have e:=z.symm.trans (mr X G a);cases e;exact#[_,λst v=>U _ _ _ _ _ _ st v,λbase _ _=>H base _ _ (Z3 l c kk)]
end L3
namespace HT
open PySem PyProof.Rows L2
section
variable{prog:ag}{w:World}{A:aj}{E:aa->ab->Prop}{s:ab}
end
end HT
namespace L3
open PySem PySem.Spec PyProof.Rows L2
section
variable{X:Cx}{F0 H0:Hp}{pos p2:Pos}
variable{pos' np apos cpos:Pos}
variable{prog:ag}{w:World}{A:aj}{E:aa->ab->Prop}{s:ab}
end
def vO(ρ:Rho):Bool:=ρ.all λo=>match o with
 | some _[8]=>true
 | none=>true
 | _=>false
def ZX{j:Nat}(h:vO ρ=true)(e:ρ[j]?=!(!w)):∃ d,w=.fz d:=by
 have q:=tV.mp h _ (hV e);cases w<;>first|exact#[_,rfl]|cases q
def Kf{ρ:Rho}{i:Nat}(h:vO ρ=true)(z:vO [o]=true):vO (ρ.set i o)=true:=by
 refine tV.mpr λx m=>?_
 rcases List.mem_or_eq_of_mem_set m with m|rfl
 .exact tV.mp h x m
 exact tV.mp z x "s"
def kP(a b:Addr):En:=.fz (.tup [exD a,exD b])
section
variable{κ:Kx}{F0 H0 F H F1 H1:Hp}{ρ:Rho}{σ:St}{i:Nat}{a b:Addr}
def StOk.kp(S:StOk κ F0 H0 F H ρ σ)(e:ρ[i]?=!(!(kP a b))):∃ t,σ[i]?=!(!(.ref t))/\SqT κ.K F t [.ref a,.ref b]:=by
 obtain⟨v,s,t,vs,rfl,q,v0,r0,rfl,h0,v1,r1,rfl,h1,h2⟩:=S.val i _ e;cases QZ h0;cases QZ h1;cases (show r1=[]from h2)
 exact#[t,s,q]
def StOk.mkF(g:Gr F0 H0 F H)(len:ρ.length=σ.length)(B:vO ρ=true)(O:∀(j:Nat) (d:D),ρ[j]?=!(!d[8])->∃ v,σ[j]?=!(!v)/\Rep κ F v d):StOk κ F0 H0 F H ρ σ :=
 #[g,len,λj w e=>by obtain⟨d,rfl⟩:=ZX B e;exact O j d e,λj k w w' c _ ej _ oj=>(by obtain⟨d,rfl⟩:=ZX B ej;cases oj),λj d e=>by obtain⟨_,z⟩:=ZX B e;cases z]
def StOk.enter(S:StOk κ F0 H0 F H ρ σ)(z:vO ρ=true)(g:Gr F H F1 H1):StOk κ F1 H1 F1 H1 ρ σ :=
 .mkF (Gr.refl g.s) S.len z λj d e=>let #[v,s,q]:=S.val j _ e;#[v,s,Rep.le g.f d q]
def StOk.leave(S:StOk κ F1 H1 F H ρ σ)(B:vO ρ=true)(g:Gr F0 H0 F1 H1)(b0:H0 b=none)(O:F1 b=none)(U:H1 b=!(.lst vs)):StOk κ F0 H0 F (upd H b (.lst [])) (ρ.set i none) σ:=by
 have G:=g.trans S.gr;refine .mkF #[G.f,λc u h=>?_,λc u h=>?_,G.n] S.len[""] (Kf B rfl) λj d e=>?_
 .rw[qu (jH h b0)];exact G.h c u h
 .rw[qu (jH h (S.gr.no O U))];exact G.s c u h
 rcases qB e with⟨_,z⟩|⟨_,z⟩
 .cases z
 exact S.val j _ z
end
def eBr(i:Nat)(a b:Addr)(zs:List D):EF:=λρ=>open Classical in if ρ[i]?=!(!(kP a b))then .ok (.br (.lst zs))else .stuck
def kY(i:Nat)(a b:Addr)(xs ys:List D)(f:TF):TF:=λρ=>open Classical in if ρ[i]?=!(!(kP a b))/\vO ρ=true then f (ρ.set i (!(.tup [.lst xs,.lst ys])[8]))else .stuck
def qc7{i:Nat}(h:ρ[i]?=!(!(kP a b))):eBr i a b zs ρ=.ok (.br (.lst zs)):=if_pos h
def qc8{i:Nat}{f:TF}{ρ:Rho}(h:ρ[i]?=!(!(kP a b)))(z:vO ρ=true):kY i a b xs ys f ρ=f (ρ.set i (!(.tup [.lst xs,.lst ys])[8])):=if_pos #[h,z]
section
variable{X:Cx}{F0 H0:Hp}{i:Nat}{a b c:Addr}{e:Expr}{n:Int}{us vs:List V}{xs ys zs:List D}
def Kg(z:ati [exD a,exD b] n=!(exD c))(h:H0 c=!(.lst us))(r:Reps (kx X) F0 us zs)(B:"S" e (eOp qc (q9 i) n[5])):"S" e (eBr i a b zs):=by
 intro pins s σ F H ρ Q S I k;unfold eBr at k;split at k
 .rename_i ek;refine B pins s σ F H ρ Q S I ?_;have e:eOp qc (q9 i) n[5] ρ=.ok (exD c)[8]:=by
   unfold eOp q9 eC;rw[ek];show okD (ati _ n)=_;rw[z];rfl
  rw[e];intro v u F' H' s' g q rv I';exact k v u F' H' s' g #[c,.lst us,QZ (κ:=kx X) (F:=F') q,g.h _ _ (S.gr.h _ _ h),Reps.le (Le.trans S.gr.f g.f) _ r] rv I'
 exact k.elim
def qc9(B:H0 a=!(.lst us))(O:Reps (kx X) F0 us xs)(U:H0 b=!(.lst vs))(Y:Reps (kx X) F0 vs ys)(Z:∀ F0 H0,ST X F0 H0 e f):ST X F0 H0 e (kY i a b xs ys f):=by
 intro pins s σ F H ρ Q S I k;unfold kY at k;split at k
 .rename_i c;obtain⟨ek,af⟩:=c;obtain⟨t,st,q⟩:=S.kp ek;have l:Le F (fzIn F H [a,b]):=λx o h=>by
   unfold fzIn;split
   .exact S.s x o h
   exact h
  have l':Le (fzIn F H [a,b]) H:=λx o h=>by
   unfold fzIn at h;split at h
   .exact h
   exact S.s x o h
  have at_:∀{x:Addr} {ws:List V},x∈[a,b]->H0 x=!(.lst ws)->fzIn F H [a,b] x=!(.lst ws):=λ{x ws} m h=>by
   unfold fzIn;rw[if_pos m];exact S.gr.h _ _ h
  have lr:=Le.trans S.gr.f l;refine Z (fzIn F H [a,b]) H pins s σ (fzIn F H [a,b]) H _ Q (.mkF (Gr.refl l') S.len[""] (Kf af rfl) λj d e=>?_) I (k.imp λb k F' H' s2 g I2=>k F H' s2 #[Le.refl,g.h,Le.trans S.s g.h,λ_ z=>.inl z] I2)
  rcases qB e with⟨rfl,z⟩|⟨_,z⟩
  .cases z;exact#[.ref t,st,t,_,rfl,SqT.le l q,_,_,rfl,#[a,us,rfl,SqL.of (at_ "s" B),Reps.le lr _ O],_,_,rfl,#[b,vs,rfl,SqL.of (at_ "s" U),Reps.le lr _ Y],rfl]
  obtain⟨v,s1,q1⟩:=S.val j _ z;exact#[v,s1,Rep.le l d q1]
 exact k.elim
end
def KOut(i:Nat)(o:Addr->Addr->Out)(ρ':Rho):Prop:=∀ a b:Addr,∃ q,o a b=.nx q/\q[i]?=!(!(kP a b))/\vO q=true/\q.set i none=ρ'
def J5(i:Nat)(o:Addr->Addr->Out)(r:SF):Out:=open Classical in if h:∃ ρ',KOut i o ρ' then r h.choose else .stuck
def qca{i:Nat}{o:Addr->Addr->Out}{r:SF}(h:KOut i o ρ'):J5 i o r=r ρ':=by
 unfold J5;have ex:∃ ρ',KOut i o ρ':=#[ρ',h];rw[dif_pos ex];obtain⟨q,e1,_,_,e2⟩:=ex.choose_spec 0 0;obtain⟨q',f1,_,_,f2⟩:=h 0 0;rw[e1]at f1;cases f1;rw[<- e2,f2]
def kZ(i:Nat)(z B:EF)(m:Addr->Addr->List D->List D->SF)(r:SF):SF:=λρ=>if vO ρ=true then(match z ρ,B ρ with
 | .ok (.lst xs)[9],.ok (.lst ys)[9]=>J5 i (λa b=>m a b xs ys (ρ.set i (!(kP a b)))) r
 | _,_=>.stuck)else .stuck
def ZY{p q:SF}(h:qf p q ρ=.nx r):∃ ρ',p ρ=.nx ρ'/\q ρ'=.nx r:=by
 unfold qf at h;split at h
 .rename_i ρ' e;exact#[ρ',e,h]
 rename_i o;exact absurd h (o r)
section
variable{X:Cx}{F0 H0 F1 H1:Hp}{pins:List (Addr×Obj)}{s:ab}{σ:St}{F H:Hp}{ρ ρ':Rho}
def J6{st:Stmt}{p:SF}(h1:SS X F1 H1 st p)(S:StOk (kx X) F1 H1 F H ρ σ)(I:"I" H s)(e:p ρ=.nx ρ')
  (k:∀ B F' H' s',StOk (kx X) F1 H1 F' H' ρ' B->Inv X pins B H' s'->X[3] (execs stz X.env) (SP X pins E) X.xe s'):X[3] (execs (st::stz) X.env) (SP X pins E) X.xe s:=by
 refine dh (thn (h1 pins s σ F H ρ {nx:=λB H'=>∃ F',StOk (kx X) F1 H1 F' H' ρ' B,rt:=λ_ _=>False} S I (by rw[e];exact λB F' H' _ S'=>#[F',S'])) λfl s1 r=>?_)
 cases fl with
 | next=>obtain⟨B,H',I',F',S'⟩:=r;exact k B F' H' s1 S' I'
 | ret v=>obtain⟨_,_,_,_,_,z⟩:=r;exact z.elim
 | brk=>obtain⟨_,_,_,z⟩:=r;exact z.elim
 | cont=>obtain⟨_,_,_,z⟩:=r;exact z.elim
def qcb(i:Nat){kp tp pos np sp apos cpos pos2:Pos}{n:Nat}{g1 g2 O g4:Addr->Addr->List D->List D->SF}(hN:X.N.Nodup)
  (h0:"S" e0 f0)(h1:"S" e1 f1)
  (hm:∀ F0 H0 a b us vs xs ys,H0 a=!(.lst us)->Reps (kx X) F0 us xs->H0 b=!(.lst vs)->Reps (kx X) F0 vs ys->SS X F0 H0 m1 (g1 a b xs ys)/\SS X F0 H0 m2 (g2 a b xs ys)/\SS X F0 H0 m3 (O a b xs ys)/\SS X F0 H0 m4 (g4 a b xs ys))
  (hc:∀ F0 H0,"S" (.Subscript (.Name k np) c sp) (eOp qc (q9 i) 1[5]))(hr:SSs X F0 H0 stz r)
  (hi:(X.N[i]?=!k)["r"])(li:(Loc X.env.scope k)["t"])(hf:(X.fn k=true\/X.env.scope.names.lookup k=some .local)["t"])
  (s1:(starEach [e0,e1] X.env=(false,eval e0 X.env)::starEach [e1] X.env)["r"])(s2:(starEach [e1] X.env=(false,eval e1 X.env)::starEach [] X.env)["r"])
  (hs:(swapsWith (.Tuple [e0,e1] n tp) (!(.Name k kp)) pos.line X.env=pure false)["r"])
  (U:(attributeBase (.Subscript (.Name k np) c sp) "clear" X.env (eval (.Subscript (.Name k np) c sp) X.env)=eval (.Subscript (.Name k np) c sp) X.env)["r"])(Y:((apos.endLine==cpos.line)=true)["r"])
  (hs2:(swapsWith (.Call (.Attribute (.Subscript (.Name k np) c sp) "clear" apos) [] [] cpos) none pos2.line X.env=pure false)["r"]) :
  SSs X F0 H0 (.Assign [.Name k kp] (.Tuple [e0,e1] n tp) pos::m1::m2::m3::m4::.Expr (.Call (.Attribute (.Subscript (.Name k np) c sp) "clear" apos) [] [] cpos) pos2::stz)
   (kZ i f0 f1 (λa b xs ys=>qf (g1 a b xs ys) (qf (g2 a b xs ys) (qf (O a b xs ys) (g4 a b xs ys)))) r):=by
 intro pins s σ F H ρ E S I h;unfold kZ at h;split at h
 .rename_i af;split at h
  .rename_i xs ys q0 q1;unfold J5 at h;split at h
   .rename_i ex;have B:=ex.choose_spec
    revert h B
    generalize ex.choose=ρ';intro h B;refine dh (thn (Mz (pos:=pos) (pos':=kp) hN hi li (Ga (pos:=tp) (x1:=n) (zo (jd (e:=e0)) (zo (jd (e:=e1)) vC s2) s1)) hs hf pins s σ H
     {nx:=λZ H1=>∃ F1 a b us vs,Gr F H F1 H1/\H b=none/\F1 b=none/\H1 a=!(.lst us)/\Reps (kx X) F1 us xs/\H1 b=!(.lst vs)/\Reps (kx X) F1 vs ys/\StOk (kx X) F1 H1 F1 H1 (ρ.set i (!(kP a b))) Z,rt:=λ_ _=>False} I ?_) λfl s3 q=>?_)
    .refine h0.sem S ?_;rw[q0];intro v F2 H2 g2 ⟨a,o,ev,a0,af2,ah,ra⟩;subst ev;cases o<;>first|exact ra.elim|skip
     rename_i us;refine h1.sem (S.grow g2) ?_;rw[q1];intro v F3 H3 O ⟨b,o,ev,b0,bf,bh,rb⟩;subst ev;cases o<;>first|exact rb.elim|skip
     rename_i vs;refine#[by rw[<- zO];show 2<=sz;decide,λp hp=>?_]
     have gp:Gr F3 H3 (upd F3 p (.tup [.ref a,.ref b])) (upd H3 p (.tup [.ref a,.ref b])):=Gr.newF O.s hp;have ha:=gp.h _ _ (O.h _ _ ah);have hb:=gp.h _ _ bh;have G:=(g2.trans O).trans gp;refine#[_,a,b,us,vs,G,Le.none g2.h b0,gp.no bf bh,ha,Reps.le (Le.trans O.f gp.f) _ ra,hb,Reps.le gp.f _ rb,(S.enter af G).setF #[p,_,rfl,SqT.of qP,_,_,rfl,Ke _ _ _,_,_,rfl,Ke _ _ _,rfl]]
    cases fl with
    | ret v=>obtain⟨_,_,_,_,_,z⟩:=q;exact z.elim
    | brk=>obtain⟨_,_,_,z⟩:=q;exact z.elim
    | cont=>obtain⟨_,_,_,z⟩:=q;exact z.elim
    | next =>
     obtain⟨σ1,H1,I1,F1,a,b,us,vs,G,b0,bf,ha,ra,hb,rb,S1⟩:=q;obtain⟨t,et,ek,aft,er⟩:=B a b;obtain⟨ρ1,w1,et⟩:=ZY et;obtain⟨ρ2,w2,et⟩:=ZY et;obtain⟨ρ3,w3,w4⟩:=ZY et;obtain⟨n1,n2,n3,n4⟩:=hm F1 H1 a b us vs xs ys ha ra hb rb;refine J6 n1 S1 I1 w1 λσ2 F2 H2 s4 S2 I2=>J6 n2 S2 I2 w2 λσ3 F3 H3 s5 S3 I3=>J6 n3 S3 I3 w3 λσ4 F4 H4 s6 S4 I4=>J6 n4 S4 I4 w4 λσ5 F5 H5 s7 S5 I5=>?_
     have P:=k8 (pos:=pos2) (GS (X:=X) fK PySem.F.slot_list_clear PySem.F.type_list_clear GY (jd (e:=.Subscript (.Name k np) c sp)) U Y) hs2;refine dh (thn (P pins s7 σ5 H5 {nx:=λZ H'=>∃ F',StOk (kx X) F0 H0 F' H' ρ' Z/\Le F F',rt:=λ_ _=>False} I5 ((hc F1 H1).sem S5 ?_)) λfl s8 q=>?_)
     .have e:eOp qc (q9 i) 1[5] t=.ok (exD b)[8]:=by
       unfold eOp q9 eC;rw[ek];rfl
      rw[e];intro v F6 H6 g6 q6;cases QZ (κ:=kx X) (F:=F6) q6;have S6:=S5.grow g6;have hb6:=S6.gr.h _ _ hb;refine#[.inl #[rfl,vs,SqL.of hb6],b,vs,rfl,rfl,hb6,F6,?_,Le.trans G.f S6.gr.f];rw[<- er];exact S6.leave aft (S.gr.trans G) (Le.none S.gr.h b0) bf hb
     cases fl with
     | ret v=>obtain⟨_,_,_,_,_,z⟩:=q;exact z.elim
     | brk=>obtain⟨_,_,_,z⟩:=q;exact z.elim
     | cont=>obtain⟨_,_,_,z⟩:=q;exact z.elim
     | next =>
      obtain⟨σ9,H9,I9,F9,S9,l9⟩:=q;exact hr pins s8 σ9 F9 H9 ρ' E S9 I9 (PostS.le l9 h)
   exact h.elim
  exact h.elim
 exact h.elim
end
end L3
namespace My
open PySem PySem.Spec PyProof.Rows L2 L3
def top (i:Nat):Stmt:=PySem.Challenge.pw_stavemill_k32_what_a_page_has.main.body.getD i (.Pass #[0,0,0,0])
def ZZ:D:=.str "CDEFGAB"
def x4:D:=.tup [.int 0,.int 1,.int 2]
def V0:D:=.tup [.int 37,.int 31,.int 25]
def V1:D:=.int 8
def Kh:D:=.int 4
def J7:D:=.int 60
def uh:D:=.tup [.tup [.int 0,.int 1000],.tup [.int 1,.int 400],.tup [.int 0,.int 127]]
def V2:D:=.dK [(.inl (112),.tup [.int 64,.int 2]),(.inl (96),.tup [.int 64,.int 1]),(.inl (64),.tup [.int 64,.int 0]),(.inl (56),.tup [.int 32,.int 2]),(.inl (48),.tup [.int 32,.int 1]),(.inl (32),.tup [.int 32,.int 0]),(.inl (28),.tup [.int 16,.int 2]),(.inl (24),.tup [.int 16,.int 1]),(.inl (16),.tup [.int 16,.int 0]),(.inl (14),.tup [.int 8,.int 2]),(.inl (12),.tup [.int 8,.int 1]),(.inl (8),.tup [.int 8,.int 0]),(.inl (7),.tup [.int 4,.int 2]),(.inl (6),.tup [.int 4,.int 1]),(.inl (4),.tup [.int 4,.int 0]),(.inl (3),.tup [.int 2,.int 1]),(.inl (2),.tup [.int 2,.int 0]),(.inl (1),.tup [.int 1,.int 0])]
def V3:D:=.int (-7)
def V4:D:=.int 7
def ui:D:=.str "FCGDAEB"
def Ki:List (Sum Int Str×D):=[(.inr "C",.int 0),(.inr "D",.int 2),(.inr "E",.int 4),(.inr "F",.int 5),(.inr "G",.int 7),(.inr "A",.int 9),(.inr "B",.int 11)]
def V5:D:=.dK Ki
def V6:D:=.int 1
def V7:D:=.int 5000
def V8:D:=.int 4
def V9:D:=.int 3
def J8:D:=.int 20
def Va:D:=.tup [.tup [.int 0,.int 1000],.tup [.int 1,.int 24],.tup [.int 1,.int 64]]
def Vb:D:=.tup [.int 1,.int 2,.int 4,.int 8,.int 16,.int 32,.int 64]
def Vc:D:=.int 8
def Vd:D:=.int 512
def J9:D:=.int 8
def Kj:SF :=
 (qp (eOp qA (eOp jJ 7[5] (eOp wK (q9 0) 1[5])) (eOp kQ (eC ZZ) (eOp wK (q9 0) 0[5]))))
def yK:Den:=den 1 Kj
def Kk:SF :=
 (qf (qk 2 (eOp qc (eC V0) (q9 1)))
 (qf (qk 3 (eOp jc (eOp jc (q9 0) (q9 2)) (eC V1)))
 (qf (qk 4 (eOp jc (q9 2) (q9 0)))
 (qp (eOp vR (eB ZI [(q9 3),(q9 4),0[5]]) 2[5])))))
def uj:Den:=den 5 Kk
def qcc:SF :=
 (qp (qS 1 (qZ (eC x4)) (gV 2) qX (eIf (tE (eOp dEq (q9 2) (q9 1))) (eOp qc (q9 0) (q9 2)) (eOp qA (eOp qc (q9 0) (q9 2)) (eC Kh)))))
def wj:Den:=den 2 qcc
def qcd:SF :=
 (qp (w6 (eUn (dIs .int) (q9 0)) (Z4 (eUn (dIs .bool) (q9 0)))))
def uk:Den:=den 1 qcd
def Ve:SF :=
 (qp (w6 (eUn (dIs .list) (q9 0)) (xT dLe dLe (q9 1) (eB qJ [(q9 0)]) (q9 2))))
def yL:Den:=den 3 Ve
def qce:SF :=
 (qp (eOp qA (eOp qc (q9 0) 0[5]) (eOp qc (q9 0) 1[5])))
def zJ:Den:=den 1 qce
def Kl:SF :=
 (qf (yD 1 eDT)
 (qf (qI (qZ (eB wg [(q9 0)])) (gV 2) (sSd 1 [(eOp qc (q9 2) 0[5]),(eOp qc (q9 2) 1[5])] (ji []) (eOp qc (q9 2) 2[5])))
 (ua 1 (qp (qS 1 (iT 1) (gV 3) qX (jx [(eOp qc (q9 3) 0[5]),(eOp qc (q9 3) 1[5]),(eB yo [(eOp y4 (q9 1) (q9 3))])]))))))
def y8:Den:=den 3 Kl
def Km:SF :=
 (qf (qk 1 (ji []))
 (qf (qk 2 (q9 0))
 (qf (qI (Zm (eC V2)) (gV 3) (wQ 520 (tE (eOp dLe (q9 3) (q9 2))) (qf (qY 1 (q9 3))
 (za 2 jc (q9 3)))))
 (jy 1))))
def uo:Den:=den 4 Km
def Kn:SF :=
 (qp (eOp qA (q9 0) (eOp vq (eOp jc (q9 1) (q9 0)) (q9 2))))
def uq:Den:=den 3 Kn
def qcf:SF :=
 (qp (eOp vR (eOp qA (q9 0) 1[5]) 7[5]))
def Ja:Den:=den 1 qcf
def Ko:SF :=
 (qf (qk 1 (ji []))
 (qf (qI (zz 0) (gT [2,3]) (qf (qk 4 0[5])
 (qI (zz 3) (gT [5,6]) (qf (qY 1 (jx [(q9 4),(q9 2),(q9 5)]))
 (za 4 zU (eOp qc (q9 6) 1[5]))))))
 (qp (eB wg [(q9 1)]))))
def wm:Den:=den 7 Ko
def Jb:SF :=
 (qf (sIf (tOr (tE (eOp wH (q9 0) (eC .non))) (tOr (tE (eOp dEq (eOp qc (q9 0) 0[5]) (eC (.str "rest")))) (qG (tE (eOp qc (q9 0) 3[5]))))) (qp (eC .non)) qq)
 (qp (eOp qc (q9 0) 2[5])))
def y9:Den:=den 1 Jb
def Kp:SF :=
 (qf (qk 1 0[5])
 (qf (jn 0 (qI (iV 0) (gV 2) (jn 2 (qI (iV 2) (gV 3) (sIf (tE (eOp dEq (eOp qc (q9 3) 0[5]) (eC (.str "note")))) (za 1 zU (eB qJ [(qS 1 (qZ (eOp qc (q9 3) 2[5])) (gV 4) (tE (eOp wI (eOp qc (q9 4) 2[5]) (eC .non))) (q9 4))])) qq)))))
 (jy 1)))
def Jc:Den:=den 4 Kp
def Kq:SF :=
 (qI (zz 0) (gT [2,3]) (sIf (tE (eOp dGt (q9 3) (q9 1))) zu qq))
def Jd:Den:=den 4 Kq
def Kr:SF :=
 (qf (qk 4 (ji []))
 (qf (qk 5 (q9 1))
 (qf (qI (iR2 (eOp qA (q9 2) 1[5]) (eOp qA (eB qJ [(q9 0)]) 1[5])) (gV 6) (qf (za 5 jc (eOp qc (q9 0) (eOp jc (q9 6) 1[5])))
 (qf (sIf (tE (eOp dLt (q9 5) 0[5])) yp qq)
 (qf (qk 7 (eIf (tE (eOp dEq (q9 6) (eB qJ [(q9 0)]))) 0[5] (eOp qA (eOp jJ (q9 5) (q9 5)) (eOp qc (eOp qc (q9 3) (q9 6)) 0[5]))))
 (qY 4 (jx [(q9 7),(eUn jL (q9 6))]))))))
 (jy 4))))
def ut:Den:=den 8 Kr
def Ks:SF :=
 (qp (eOp jJ (eOp qc (q9 0) 1[5]) (eOp qc (q9 0) 2[5])))
def wo:Den:=den 1 Ks
def Vf:SF :=
 (qf (sIf (tE (eOp dEq (q9 1) 0[5])) (qp (eOp dEq (eOp qc (eOp qc (q9 0) 0[5]) 0[5]) 0[5])) qq)
 (qp (eOp dGt (eOp qc (eOp qc (q9 0) (q9 1)) 0[5]) (eOp qc (eOp qc (q9 0) (eOp jc (q9 1) 1[5])) 0[5]))))
def ya:Den:=den 2 Vf
def Kt:SF :=
 (qf (sIf (tE (eOp dLt (q9 1) (eB qJ [(q9 0)]))) (qp (eOp qc (q9 0) (q9 1))) qq)
 (qp 0[5]))
def zX:Den:=den 2 Kt
def Ku:SF :=
 (qp (eOp vq (eOp vq (eOp jJ (q9 0) 48271[5]) (q9 1)) (q9 2)))
def zh:Den:=den 3 Ku
def qcg:SF :=
 (qp (w6 (eUn (dIs .int) (q9 0)) (Z4 (eUn (dIs .bool) (q9 0)))))
def vW:Den:=den 1 qcg
def qch:SF :=
 (qf (jn 1 (qI (iV 1) (gV 2) (sIf (zF (tE (eOp dEq (eOp qc (q9 0) 2[5]) (eOp qc (q9 2) 2[5]))) (zF (tE (eOp dLt (eOp qc (q9 0) 0[5]) (eOp qA (eOp qc (q9 2) 0[5]) (eOp qc (q9 2) 1[5])))) (tE (eOp dLt (eOp qc (q9 2) 0[5]) (eOp qA (eOp qc (q9 0) 0[5]) (eOp qc (q9 0) 1[5])))))) (qp (eC (.bl false))) qq)))
 (qp (eC (.bl true))))
def Je:Den:=den 3 qch
def qci:SF :=
 (qf (qk 2 eDT)
 (qf (jn 1 (qI (iV 1) (gV 3) (sIf (zF (tE (eOp dLt (eOp qc (q9 3) 0[5]) (eOp qA (eOp qc (q9 0) 0[5]) (eOp qc (q9 0) 1[5])))) (tE (eOp dLt (eOp qc (q9 0) 0[5]) (eOp qA (eOp qc (q9 3) 0[5]) (eOp qc (q9 3) 1[5]))))) (sIf (tE (eOp dNe (jx [(eOp qc (q9 3) 0[5]),(eOp qc (q9 3) 1[5])]) (jx [(eOp qc (q9 0) 0[5]),(eOp qc (q9 0) 1[5])]))) (kH 2 [(eOp qc (q9 3) 0[5]),(eOp qc (q9 3) 1[5])] (eC (.bl true))) qq) qq)))
 (qp (eB qJ [(q9 2)]))))
def Jf:Den:=den 4 qci
def qcj:SF :=
 (qf (qI (qZ (ji [1[5],2[5],4[5],8[5],16[5],32[5],64[5]])) (gV 1) (qI (qZ (ji [1[5],2[5],4[5]])) (gV 2) (sIf (zF (tE (eOp dEq (eOp vq (q9 1) (q9 2)) 0[5])) (tE (eOp dEq (eOp jJ (q9 1) (eOp jc (eOp jJ 2[5] (q9 2)) 1[5])) (eOp jJ (q9 0) (q9 2))))) (qp (eC (.bl true))) qq)))
 (qp (eC (.bl false))))
def uu:Den:=den 3 qcj
def Kv:SF :=
 (qf (qk 2 (ji []))
 (qf (wQ 180 (tOr (qG (tE (q9 2))) (tE (eOp dLt (eB vU [(q9 2)]) (q9 1)))) (qY 2 (eOp qc (qS 1 (iVc 0) (gV 3) (tE (eOp dLe (eOp qc (q9 3) 0[5]) (eB qJ [(q9 2)]))) (eOp jJ (eOp qc (q9 3) 1[5]) (eOp qc (q9 3) 2[5]))) (eUn jL 1[5]))))
 (jy 2)))
def Jg:Den:=den 3 Kv
def Kw:SF :=
 (qf (qk 1 (ji []))
 (qf (jn 0 (qI (iV 0) (gV 2) (jn 2 (qI (iV 2) (gV 3) (sIf (tE (eOp dEq (eOp qc (q9 3) 0[5]) (eC (.str "note")))) (vL 1 (qS 1 (qZ (eOp qc (q9 3) 2[5])) (gV 4) qX (qh yK [(q9 4)]))) qq)))))
 (jy 1)))
def uv:Den:=den 4 Kw
def Ky:SF :=
 (qp (eB vU [(qS 1 (iVc 0) (gV 2) qX (qh uj [(q9 2),(q9 1)]))]))
def yM:Den:=den 2 Ky
def Kz:SF :=
 (qp (w6 (qh uk [(q9 0)]) (xT dLe dLe (q9 1) (q9 0) (q9 2))))
def x8:Den:=den 3 Kz
def KA:SF :=
 (qp (w6 (eOp dEq (eOp qc (q9 0) 2[5]) (eOp qc (q9 1) 2[5])) (w6 (eOp dLt (eOp qc (q9 0) 0[5]) (qh zJ [(q9 1)])) (eOp dLt (eOp qc (q9 1) 0[5]) (qh zJ [(q9 0)])))))
def uw:Den:=den 2 KA
def KD:SF :=
 (qp (qS 1 (qZ (qh uo [(q9 0)])) (gV 1) qX (jx [(eC (.str "rest")),(q9 1)])))
def x9:Den:=den 1 KD
def KF:SF :=
 (qf (qk 3 (qh zJ [(q9 0)]))
 (qf (qk 4 (ji []))
 (qf (qk 5 (q9 1))
 (qf (qI (qZ (qh uo [(eOp jc (q9 2) (q9 1))])) (gV 6) (qf (za 5 zU (q9 6))
 (qY 4 (jx [(eC (.str "note")),(q9 6),(eOp qc (q9 0) 2[5]),(eOp dLt (q9 5) (q9 3))]))))
 (jy 4)))))
def xa:Den:=den 7 KF
def qck:SF :=
 (qp (qh uq [(eOp jc (q9 1) 4[5]),(eOp jJ 7[5] (q9 0)),12[5]]))
def Vg:Den:=den 2 qck
def KG:SF :=
 (qp (qh Ja [(qh uq [(eOp jc (q9 1) 1[5]),(eOp jc (eOp kQ (eC ui) (q9 0)) 1[5]),7[5]])]))
def yN:Den:=den 2 KG
def KH:SF :=
 (qf (qk 1 (ZS (qS 1 (qZ (qh wm [(q9 0)])) (gV 2) qX (eOp qc (q9 2) 0[5]))))
 (qp (eOp qA (eOp qA (eC V8) (eOp jJ (eC V9) (q9 1))) (qh Jc [(q9 0)]))))
def yb:Den:=den 2 KH
def KJ:SF :=
 (qf (sIf (qG (tE (qh uk [(q9 1)]))) zu qq)
 (qf (xH (qh Jd [(q9 0),(q9 1)]))
 (qf (qk 2 (eOp kS (ji [(jx [0[5],0[5]])]) (eB qJ [(q9 0)])))
 (qf (qI (iR3d (eOp jc (eB qJ [(q9 0)]) 1[5]) (eUn jL 1[5]) (eUn jL 1[5])) (gV 3) (kG 2 (q9 3) (eB kT [(qh ut [(q9 0),(q9 1),(q9 3),(q9 2)])])))
 (jy 2)))))
def Jh:Den:=den 4 KJ
def KL:SF :=
 (qf (qk 2 eDK)
 (qf (jn 0 (qI (iV 0) (gV 3) (w9 2 (eOp qc (q9 3) 0[5]) (qh wo [(q9 3)]))))
 (qf (qk 4 (ji []))
 (qf (qk 5 0[5])
 (qf (qI (iR1 (q9 1)) (gV 6) (qf (qk 5 (xR (q9 2) (q9 6) (q9 5)))
 (qY 4 (q9 5))))
 (jy 4))))))
def uz:Den:=den 7 KL
def KM:SF :=
 (qf (qk 2 0[5])
 (qf (qk 3 0[5])
 (qf (qk 4 0[5])
 (qf (jn 0 (qI (iV 0) (gV 5) (qf (qk 6 (eOp qA (q9 3) (eOp jJ (eOp jc (eOp qc (q9 5) 0[5]) (q9 2)) (q9 4))))
 (qf (sIf (tE (eOp dLt (q9 1) (q9 6))) yp qq)
 (qf (qk 2 (eOp qc (q9 5) 0[5]))
 (qf (qk 3 (q9 6))
 (qk 4 (qh wo [(q9 5)]))))))))
 (qp (jx [(eOp qA (q9 2) (eOp vR (eOp jc (q9 1) (q9 3)) (q9 4))),(eOp vq (eOp jc (q9 1) (q9 3)) (q9 4))]))))))
def Ji:Den:=den 7 KM
def qcl:SF :=
 (qf (qI (zz 0) (gT [2,3]) (sIf (tE (eOp dLe (qh zJ [(eOp qc (q9 3) (eUn jL 1[5]))]) (q9 1))) (jy 2) qq))
 (qp (eB qJ [(q9 0)])))
def uA:Den:=den 4 qcl
def KN:SF :=
 (qp (eOp dEq (qh zh [(eOp qA (qh zX [(q9 0),0[5]]) (eOp jJ 7[5] (eB qJ [(q9 0)]))),9871[5],8[5]]) 3[5]))
def Jj:Den:=den 1 KN
def Vh:SF :=
 (qf (qk 7 (qh zh [(q9 0),9949[5],4[5]]))
 (qf (sIf (zF (tE (q9 1)) (tE (eOp dEq (q9 7) 0[5]))) (qf (qk 3 (eOp qc (eOp qc (q9 1) (eUn jL 1[5])) 0[5]))
 (qk 4 (eOp qc (eOp qc (q9 1) (eUn jL 1[5])) 1[5]))) qq)
 (qf (sIf (zF (tE (q9 1)) (zF (tE (eOp dEq (q9 7) 1[5])) (tE (eOp dLe (eOp qA (eOp qc (eOp qc (q9 1) (eUn jL 1[5])) 0[5]) (eOp qc (eOp qc (q9 1) (eUn jL 1[5])) 1[5])) (q9 6))))) (qf (qk 3 (eOp qA (eOp qc (eOp qc (q9 1) (eUn jL 1[5])) 0[5]) (eOp qc (eOp qc (q9 1) (eUn jL 1[5])) 1[5])))
 (sIf (tE (eOp dEq (qh zh [(q9 0),9941[5],2[5]]) 0[5])) (qk 5 (eOp qc (eOp qc (q9 1) (eUn jL 1[5])) 2[5])) qq)) qq)
 (qp (jx [(q9 3),(q9 4),(q9 5)])))))
def KO:SF :=
 (qf (qk 3 (qh zh [(q9 0),10007[5],97[5]]))
 (qf (qk 4 (eOp qA 1[5] (qh zh [(q9 0),9973[5],48[5]])))
 (qf (qk 5 (eOp qA 52[5] (qh zh [(q9 0),9967[5],25[5]])))
 (qf (qk 6 96[5])
 (qf (sIf (tE (q9 2)) (qf (qk 3 (qh zh [(q9 0),10007[5],1001[5]]))
 (qf (qk 4 (eOp qA 1[5] (qh zh [(q9 0),9973[5],400[5]])))
 (qf (qk 5 (qh zh [(q9 0),9967[5],128[5]]))
 (qk 6 1000[5])))) qq)
 Vh)))))
def uB:Den:=den 8 KO
def KP:SF :=
 (qp (eOp dEq (eOp vq (qh zX [(q9 0),0[5]]) 4[5]) 3[5]))
def Jk:Den:=den 1 KP
def KQ:SF :=
 (qf (qk 3 (ji [1[5],2[5],4[5],8[5],16[5],32[5],64[5]]))
 (qf (qk 4 8[5])
 (qf (qk 5 96[5])
 (qf (sIf (tE (q9 2)) (qf (qk 3 (ji [4[5],8[5],16[5],32[5],64[5]]))
 (qf (qk 4 64[5])
 (qk 5 512[5]))) qq)
 (qf (qk 6 (eOp qc (q9 3) (qh zh [(q9 0),10007[5],(eB qJ [(q9 3)])])))
 (qf (qk 7 (eOp vR (eOp jc (eOp qA (q9 4) (q9 6)) 1[5]) (q9 6)))
 (qf (qk 8 (eB xG [24[5],(eOp vR (q9 5) (q9 6))]))
 (qp (jx [(q9 1),(eOp qA (q9 7) (qh zh [(q9 0),9973[5],(eOp qA (eOp jc (q9 8) (q9 7)) 1[5])])),(q9 6)])))))))))
def uC:Den:=den 9 KQ
def KR:SF :=
 (qp (eOp jc (qh zh [(qh zX [(q9 0),5[5]]),9883[5],15[5]]) 7[5]))
def Jl:Den:=den 1 KR
def KS:SF :=
 (qf (sIf (tE (q9 1)) (qp (eOp qA 2000[5] (qh zh [(qh zX [(q9 0),4[5]]),9887[5],3001[5]]))) qq)
 (qp (eOp qA 400[5] (qh zh [(qh zX [(q9 0),4[5]]),9887[5],400[5]]))))
def Jm:Den:=den 2 KS
def KU:SF :=
 (qf (sIf (tOr (qG (tE (eUn (dIs .tuple) (q9 0)))) (tOr (tE (eOp dLt (eB qJ [(q9 0)]) 2[5])) (qG (tE (qh vW [(eOp qc (q9 0) 1[5])]))))) (qp (eC (.bl false))) qq)
 (qf (sIf (qG (tE (qh uu [(eOp qc (q9 0) 1[5])]))) (qp (eC (.bl false))) qq)
 (qf (sIf (tE (eOp dEq (eOp qc (q9 0) 0[5]) (eC (.str "rest")))) (qp (eOp dEq (eB qJ [(q9 0)]) 2[5])) qq)
 (qf (sIf (tOr (tE (eOp dNe (eOp qc (q9 0) 0[5]) (eC (.str "note")))) (tOr (tE (eOp dNe (eB qJ [(q9 0)]) 4[5])) (qG (tE (eUn (dIs .bool) (eOp qc (q9 0) 3[5])))))) (qp (eC (.bl false))) qq)
 (qp (w6 (eUn (dIs .tuple) (eOp qc (q9 0) 2[5])) (eOp dGt (eB qJ [(eOp qc (q9 0) 2[5])]) 0[5])))))))
def yO:Den:=den 1 KU
def KW:SF :=
 (qf (qI (qZ (eSl (q9 0) (oE 3[5]) (oE 5[5]))) (gV 2) (qf (sIf (qG (tE (eUn (dIs .list) (q9 2)))) (qp (eC (.bl false))) qq)
 (jn 2 (qI (iV 2) (gV 3) (sIf (qG (tE (qh vW [(q9 3)]))) (qp (eC (.bl false))) qq)))))
 (qf (sIf (tOr (tE (eOp dNe (eB qJ [(eOp qc (q9 0) 3[5])]) (q9 1))) (tOr (tE (eOp dGt (eB kt [(eOp qc (q9 0) 3[5])]) 2[5])) (tE (eOp dLt (eB vN [(eOp qc (q9 0) 3[5])]) 0[5])))) (qp (eC (.bl false))) qq)
 (qp (w6 (eOp dEq (eSl (eOp qc (q9 0) 4[5]) oNo (oE 1[5])) (ji [0[5]])) (eOp dLt (eB kt [(eOp qc (q9 0) 4[5])]) (q9 1))))))
def Jn:Den:=den 4 KW
def KY:SF :=
 (qf (qk 1 (ji []))
 (qf (qk 2 (ji [0[5],0[5],0[5]]))
 (qf (qI (QM 0) (gV 3) (qf (qk 4 (qh uv [(q9 3)]))
 (qf (qk 2 (qS 1 (qZ (eC x4)) (gV 5) qX (eOp qA (qh yM [(q9 4),(q9 5)]) (eB vN [(qh wj [(q9 2),(q9 5)])]))))
 (jn 2 (qY 1 (q9 2))))))
 (qp (ZD (q9 1))))))
def uD:Den:=den 5 KY
def KZ:SF :=
 (qf (sIf (tOr (qG (tE (eUn (dIs .tuple) (q9 0)))) (tE (eOp dNe (eB qJ [(q9 0)]) (eB qJ [(q9 1)])))) (qp (eC (.bl false))) qq)
 (qf (qI (u9 0 1) (gT [2,3]) (sIf (qG (tE (qh x8 [(q9 2),(eOp qc (q9 3) 0[5]),(eOp qc (q9 3) 1[5])]))) (qp (eC (.bl false))) qq))
 (qp (eC (.bl true)))))
def yc:Den:=den 4 KZ
def X0:SF :=
 (qf (qI (qZ (eSl (q9 0) oNo (oE (q9 1)))) (gV 2) (sIf (tE (qh uw [(q9 2),(eOp qc (q9 0) (q9 1))])) (qp (eC (.bl true))) qq))
 (qp (eC (.bl false))))
def xf:Den:=den 3 X0
def X1:SF :=
 (qf (qk 3 (ji []))
 (qf (qk 4 (q9 1))
 (qf (jn 0 (qI (iV 0) (gV 5) (qf (qk 6 (eB xS [(eOp qc (q9 5) 0[5]),(q9 1)]))
 (qf (qk 7 (eB xG [(qh zJ [(q9 5)]),(q9 2)]))
 (sIf (tE (eOp dLt (q9 6) (q9 7))) (qf (vL 3 (qh x9 [(eOp jc (q9 6) (q9 4))]))
 (qf (vL 3 (qh xa [(q9 5),(q9 6),(q9 7)]))
 (qk 4 (q9 7)))) qq)))))
 (qf (vL 3 (qh x9 [(eOp jc (q9 2) (q9 4))]))
 (jy 3)))))
def uE:Den:=den 8 X1
def X2:SF :=
 (qf (sIf (qG (tE (qh x8 [(q9 0),(eC V3),(eC V4)]))) zu qq)
 (jy 0))
def Jo:Den:=den 1 X2
def X3:SF :=
 (qf (qk 2 (qh Vg [(q9 0),(q9 1)]))
 (qf (qk 3 (eOp wK (eC ui) (eOp vq (eOp qA (q9 2) 1[5]) 7[5])))
 (qf (qk 4 (qh Ja [(q9 2)]))
 (qf (qk 5 (eOp vR (eOp jc (eOp jc (q9 0) (eOp xN (eC V5) (q9 3))) (q9 4)) 12[5]))
 (qp (jx [(q9 3),(q9 4),(q9 5)]))))))
def uF:Den:=den 6 X3
def qcm:SF :=
 (qp (uf (q9 2) [(q9 0),(q9 1)] (qh yN [(q9 0),(q9 3)])))
def Jp:Den:=den 4 qcm
def X4:SF :=
 (qf (sIf (qG (tE (qh x8 [(q9 0),(eC V6),(eC V7)]))) zu qq)
 (jy 0))
def Jq:Den:=den 1 X4
def X5:SF :=
 (qf (qk 2 (qh Jh [(q9 0),(q9 1)]))
 (qf (qk 3 (ji []))
 (qf (qk 4 0[5])
 (qf (wQ 180 (tE (eOp dLt (q9 4) (eB qJ [(q9 0)]))) (qf (qY 3 (q9 4))
 (qk 4 (eUn jL (eOp qc (eOp qc (q9 2) (q9 4)) 1[5])))))
 (jy 3)))))
def Jr:Den:=den 5 X5
def X6:SF :=
 (qf (qk 2 (eB xS [(eOp jc (q9 1) 1[5]),0[5]]))
 (qp (eOp qA (eOp qc (qh Ji [(q9 0),(q9 2)]) 0[5]) 1[5])))
def xg:Den:=den 3 X6
def qcn:SF :=
 (qf (yD 1 (ji []))
 (qf (jn 0 (qI (iV 0) (gV 2) (qf (qk 3 (wc 1 (qh uA [(q9 1),(eOp qc (q9 2) 0[5])])))
 (qf (sIf (tE (eOp dEq (q9 3) (eC J9))) zu qq)
 (qf (sIf (tE (eOp dEq (q9 3) (wc 1 (eB qJ [(q9 1)])))) (kL 1 (ji [])) qq)
 (wJ 1 (q9 3) (q9 2)))))))
 (y3 1 (jy 1))))
def yP:Den:=den 4 qcn
def X7:SF :=
 (qf (qk 2 12[5])
 (qf (sIf (tE (qh Jj [(q9 0)])) (qk 2 24[5]) qq)
 (qf (sIf (tE (eOp dGt (eB qJ [(q9 0)]) 63[5])) (qk 2 60[5]) qq)
 (qf (qk 3 (ji []))
 (qf (qI (qZ (eSl (q9 0) (oE 6[5]) (oE (eOp qA 6[5] (q9 2))))) (gV 4) (qf (qk 5 (qh uB [(q9 4),(q9 3),(q9 1)]))
 (sIf (zF (tE (qh Je [(q9 5),(q9 3)])) (tE (eOp dLe (qh Jf [(q9 5),(q9 3)]) 7[5]))) (qY 3 (q9 5)) qq)))
 (jy 3))))))
def Js:Den:=den 6 X7
def X8:SF :=
 (qf (qk 2 (ji []))
 (qf (qk 3 0[5])
 (qf (qI (iR1 (eOp qA 1[5] (eOp vq (qh zX [(q9 0),1[5]]) 3[5]))) (gV 4) (qf (qk 5 (eOp qA (qh zX [(q9 0),1[5]]) (eOp jJ 7[5] (qh zX [(q9 0),(eOp qA 2[5] (q9 4))]))))
 (qf (qY 2 (qh uC [(q9 5),(q9 3),(q9 1)]))
 (qk 3 (eOp qA (eOp qA (q9 3) 1[5]) (qh zh [(q9 5),9967[5],3[5]]))))))
 (jy 2))))
def Jt:Den:=den 6 X8
def X9:SF :=
 (qf (qI (iR1 (eB qJ [(q9 0)])) (gV 2) (qf (sIf (tOr (qG (tE (eUn (dIs .list) (eOp qc (q9 0) (q9 2))))) (tE (eOp dNe (eB qJ [(eOp qc (q9 0) (q9 2))]) (eB qJ [(eOp qc (q9 0) 0[5])])))) (qp (eC (.bl false))) qq)
 (qI (qZ (eOp qc (q9 0) (q9 2))) (gV 3) (qf (sIf (tOr (qG (tE (eUn (dIs .list) (q9 3)))) (tE (eOp dNe (eB vU [(qS 1 (iVc 3) (gV 5) qX (eOp qc (q9 5) 1[5]))]) (eOp qc (q9 1) (q9 2))))) (qp (eC (.bl false))) qq)
 (jn 3 (qI (iV 3) (gV 4) (sIf (qG (tE (qh yO [(q9 4)]))) (qp (eC (.bl false))) qq)))))))
 (qp (eC (.bl true))))
def Ju:Den:=den 5 X9
def Xa:SF :=
 (qf (qk 1 (ji []))
 (qf (qI (qZ (qh uD [(q9 0)])) (gV 2) (qf (qk 3 (eIf (tE (q9 1)) (qh wj [(q9 2),(eOp qc (q9 1) (eUn jL 1[5]))]) (q9 2)))
 (qY 1 (eOp ud (q9 3) (eB vN [(q9 3)])))))
 (jy 1)))
def Jv:Den:=den 4 Xa
def Xb:SF :=
 (qf (sIf (qG (tE (qh yL [(q9 0),0[5],(eC J7)]))) zu qq)
 (qf (qI (zz 0) (gT [1,2]) (sIf (tOr (qG (tE (qh yc [(q9 2),(eC uh)]))) (tE (qh xf [(q9 0),(q9 1)]))) zu qq))
 (qp (eB wg [(q9 0)]))))
def uG:Den:=den 3 Xb
def Xd:SF :=
 (qf (qk 2 (ji []))
 (qf (qk 3 0[5])
 (qf (jn 1 (qI (iV 1) (gV 4) (qf (qY 2 (qh uE [(q9 0),(q9 3),(eOp qA (q9 3) (q9 4))]))
 (za 3 zU (q9 4)))))
 (jy 2))))
def xh:Den:=den 5 Xd
def qco:SF :=
 (qf (qk 4 (ji []))
 (qf (jn 0 (qI (iV 0) (gV 5) (qf (qk 6 (qh uF [(q9 5),(q9 3)]))
 (qf (qk 7 (eOp qc (q9 6) 0[5]))
 (qf (qk 8 (eOp qc (q9 6) 2[5]))
 (qf (qk 9 (eC .non))
 (qf (sIf (zF (tE (eOp wH (q9 1) (eC .non))) (tE (eOp dNe (qh Jp [(q9 7),(q9 8),(yI 2),(q9 3)]) (eOp qc (q9 6) 1[5])))) (qf (qk 9 (eOp qc (q9 6) 1[5]))
 (kX 2 [(q9 7),(q9 8)] (q9 9))) qq)
 (qY 4 (jx [(q9 7),(q9 8),(q9 9)])))))))))
 (ue 2 (eB yo [(q9 4)]))))
def Jw:Den:=den 10 qco
def Xe:SF :=
 (qf (sIf (tOr (qG (tE (qh yc [(q9 0),(eC Va)]))) (tE (eOp QB (eOp qc (q9 0) 2[5]) (eC Vb)))) (qp (eC (.bl false))) qq)
 (qp (xT dLe dLe (eC Vc) (qh wo [(q9 0)]) (eC Vd))))
def xi:Den:=den 1 Xe
def qcp:SF :=
 (qf (qk 3 (ji []))
 (qf (qk 4 eDK)
 (qf (jn 0 (qI (iV 0) (gV 5) (qf (qk 6 eDT)
 (qf (uc 7 (YZ 1 (iVc 5) (gV 12) (ji [])))
 (qf (qI (qZ (qh wm [(q9 5)])) (gV 8) (qf (qk 9 (eOp qc (q9 8) 1[5]))
 (qf (qk 10 (eOp qc (eOp qc (q9 5) (q9 9)) (eOp qc (q9 8) 2[5])))
 (qf (sIf (tE (eOp dEq (eOp qc (q9 10) 0[5]) (eC (.str "note")))) (qf (qk 11 (qh y9 [(yJ (q9 4) (q9 9))]))
 (sIO 10 (eIOT (vf (eC (.str "note")) (vf (eOp qc (q9 10) 1[5]) (xIO (eIOV 2 "heads_of" Jw 6 [(eOp qc (q9 10) 2[5]),(q9 11)] [(q9 1)]) (vf (eOp qc (q9 10) 3[5]) ug))))))) qq)
 (qf (wJ 7 (q9 9) (q9 10))
 (w9 4 (q9 9) (q9 10)))))))
 (y3 7 (jn 7 (qY 3 (q9 7)))))))))
 (jy 3))))
def xj:Den:=den 12 qcp
def Xf:SF :=
 (qf (sIf (qG (tE (qh yL [(q9 0),1[5],(eC J8)]))) zu qq)
 (qf (qI (zz 0) (gT [1,2]) (sIf (tOr (qG (tE (qh xi [(q9 2)]))) (qG (tE (qh ya [(q9 0),(q9 1)])))) zu qq))
 (qp (eB yn [(q9 0)]))))
def Jx:Den:=den 3 Xf
def qcq:SF :=
 (qf (qk 2 (eOp yB (qS 1 (iVc 0) (gV 7) qX (qh zJ [(q9 7)])) 0[5]))
 (qf (qk 3 (qh uz [(q9 1),(qh xg [(q9 1),(q9 2)])]))
 (qf (qk 4 (qS 1 (qZ (qh yP [(qh y8 [(q9 0)])])) (gV 7) qX (qh xh [(q9 7),(q9 3)])))
 (qf (qk 5 (ji []))
 (qf (qI (iR1 (eB qJ [(q9 3)])) (gV 6) (qY 5 (qS 1 (iVc 4) (gV 7) qX (eOp qc (q9 7) (q9 6)))))
 (jy 5))))))
def Vi:Den:=den 7 qcq
def qcr:SF :=
 (qp (qh xj [(q9 0),(q9 1),(eC (dFn "heads_of"))]))
def Jy:Den:=den 2 qcr
def Xg:SF :=
 (qf (xH (qh Jo [(q9 1)]))
 (qf (qk 4 (qh Jx [(q9 2)]))
 (qf (qk 5 (qh uG [(q9 0)]))
 (qf (xH (qh Jq [(q9 3)]))
 (qf (qk 6 (qh Jy [(qh Vi [(q9 5),(q9 4)]),(q9 1)]))
 (qf (qk 7 (qS 1 (iVc 6) (gV 8) qX (qh yb [(q9 8)])))
 (jn 7 (jn 6 (jn 4 (qp (jx [(q9 1),(q9 4),(q9 3),(qh Jv [(q9 6)]),(qh Jr [(q9 7),(q9 3)]),(q9 6)])))))))))))
def uH:Den:=den 8 Xg
abbrev Xh:Stmt:=top 111
def Jz:SF :=
 (qf (sIf (tE (eOp dNe (eOp qc (q9 7) 1[5]) (q9 4))) (qp (eC (.bl false))) qq)
 (qf (qk 8 (qh Jg [(q9 4),(eOp yB (qS 1 (iVc 2) (gV 9) qX (eOp qA (eOp qc (q9 9) 0[5]) (eOp qc (q9 9) 1[5]))) 0[5])]))
 (qf (sIf (tOr (tE (eOp dNe (eB qJ [(eOp qc (q9 7) 5[5])]) (eB qJ [(q9 8)]))) (qG (tE (qh Jn [(q9 7),(eB qJ [(q9 8)])])))) (qp (eC (.bl false))) qq)
 (qp (qh Ju [(eOp qc (q9 7) 5[5]),(q9 8)])))))
def Xi:SF :=
 (qf (qk 1 (qh Jk [(q9 0)]))
 (qf (qk 2 (qh Js [(q9 0),(q9 1)]))
 (qf (qk 3 (qh Jl [(q9 0)]))
 (qf (qk 4 (qh Jt [(q9 0),(q9 1)]))
 (qf (jn 4 (jn 2 (qk 5 (qh Jm [(q9 0),(q9 1)]))))
 (kZ 6 (eB yn [(q9 2)]) (eB yn [(q9 4)]) (λka kb xs ys=>qf (qk 7 (qh uH [(eBr 6 ka kb xs),(q9 3),(eBr 6 ka kb ys),(q9 5)]))
 (qf (sIf (tOr (kY 6 ka kb xs ys (tE (eOp dNe (q9 6) (jx [(q9 2),(q9 4)])))) (tOr (qG (tE (eUn (dIs .tuple) (q9 7)))) (tE (eOp dNe (eB qJ [(q9 7)]) 6[5])))) (qp (eC (.bl false))) qq)
 (qf (sIf (tOr (qG (tE (qh vW [(eOp qc (q9 7) 0[5])]))) (tOr (tE (eOp dNe (eOp qc (q9 7) 0[5]) (q9 3))) (tOr (qG (tE (eUn (dIs .list) (eOp qc (q9 7) 1[5])))) (tE (eOp dNe (eOp qc (q9 7) 1[5]) (q9 4)))))) (qp (eC (.bl false))) qq)
 (sIf (tOr (qG (tE (qh vW [(eOp qc (q9 7) 2[5])]))) (tOr (tE (eOp dNe (eOp qc (q9 7) 2[5]) (q9 5))) (qG (tE (eUn (dIs .list) (eOp qc (q9 7) 5[5])))))) (qp (eC (.bl false))) qq))))
 Jz))))))
def xk:Den:=den 9 Xi
def FS:FnT:=(apS (apS ["step_of","small_lines","prices_behind","is_whole","is_list_within","end_of","chords","pieces","first_alike","alter_at","in_order","tied_to_next","signs_in","refuse_too_wide","line_choices","told_length","rises","_law_cell","_law_mix","_law_whole","_law_apart","_law_meets","_law_written","_law_lengths","steps_of"] ["lines_of","is_whole_within","overlap","rest_events","note_events","fifth","own_alter","width","best_lines","bar_lengths","stands","free_voice","_law_large","_law_note","_law_wide","_law_step","_law_key","_law_space","_law_event","_law_rows","clef_prices","is_tuple_within","overlaps_one_ahead","bar_events","checked_key"]) ["name_of","alter_by_then","checked_room","firsts","bars_needed","voiced","_law_notes","_law_meter","_law_filled","clefs","checked_notes","events","heads_of","is_told","turned","checked_meter","bars_of","signed","page"]).zip ([6,7,10,22,25,29,33,36,48,50,54,55,66,68,69,78,80,93,94,96,97,98,106,107,8,9,23,30,38,39,49,52,67,70,82,83,87,95,99,101,102,104,105,108,110,11,24,31,40,47,51,56,65,71,84,88,100,103,109,12,32,41,57,79,58,81,90,59,91].map top)
def BL:List Str:=["max","isinstance","int","bool","list","len","sorted","tuple","enumerate","range","sum","set","min","reversed","zip"]
def C0S:List (Str×D):=(["LETTERS_BY_STEPS","LOWEST_LINES","STEPS_BETWEEN","CLEFS","CHANGE","SHAPES","LETTERS_BY_FIFTHS","BAR_WIDTH","PLACE_WIDTH","LOWEST_KEY","HIGHEST_KEY","LEAST_ROOM","MOST_ROOM","MOST_VOICES","MOST_NOTES","BOUNDS_sounds","BOUNDS_meters","UNITS","SHORTEST_BAR","LONGEST_BAR","MOST_TUPLES"]:List Str).zip [ZZ,V0,V1,x4,Kh,V2,ui,V8,V9,V3,V4,V6,V7,J9,J7,uh,Va,Vb,Vc,Vd,J8]
def CS:List (Str×D):=C0S++[(("PITCHES":Str),V5)]
abbrev Q(W:Wd)(k n:Nat)(d:Den):Prop:=C0 W.P W.w W.K W.mg W.base k (fnm FS n) (psS (fst FS n)) d
abbrev QI(W:Wd)(k n:Nat)(d:Den):Prop:=CI W.P W.w W.K W.mg W.base k (fnm FS n) (psS (fst FS n)) d
local macro_rules
 | `(tactic| nofun)=>do
  let xs:=("Qv qhP qim qil qiq qip qis qir qio qin jT qgT qa6 qgU qib zw Y9 Ya qgV qgW qgX qgY qgZ qh0 qh1 Qk Yb qh2 qh3 qh4 Yc qh5 qh6 Ql qh7 qh8 qh9 qha Yd qa7 Ye qa8 qhb qhc yy qhd qhe qhf qhg x_c Qm qhh Qn Qo qhi qhj Qp Qq qhk qhl Qr x_B qhm qhn qho qhp qhq qhr qhs qht qhu Qt qhv qhw qhx qhy qhz qhA qhB qhC qhD qhE qhF qhG qhH qhI qhJ qhK qhL qhM kD qhN qhO xV qit qiu qiv qiw y_nt y_nf qid qie qif qig qih qii qij qik Int.cast_ofNat_Int qhQ qhR qhS qhT qhU qhV qhW qhX qhY qhZ qi0 qi1 qi2 qi3 qi4 qi5 qic qi6 qi7 qi8 Nat.reduceAdd Nat.reduceSub Nat.reduceLeDiff".splitOn " ").toArray.map λs=>Lean.mkIdent s.toName
  `(tactic| try dsimp only[$[$xs:ident],*])
local macro_rules
 | `(tactic| simp![$xs,*])=>`(tactic| (nofun;repeat (simp only[pL,Yf,Yg,Yh,Yi,dz,Yx,$xs,*];nofun)))
 | `(tactic| left)=>`(tactic| (nofun;repeat (simp only[pL,Yf,Yg,Yh,Yi,dz,Yx];nofun)))
def cell(z:List Int)(k:Nat):Int:=z.getD k 0
def xm(ns)(k:Nat):zX [.fz (.lst (ns.map D.int)),.fz k[6]]=.ok (cell ns k)[7]:=by
 delta zX Kt
 simp![gj,cell];by_cases h:k<(ns[1]:Int)
 .have h2:k<ns[1]:=""
  simp![tL h,zm];simp[h2];rfl
 have h2:¬ k<ns[1]:=""
 simp![t9 h];simp[h2]
def qT(c p m:Int):Int:=c*48271%p%m
def zY(c p m)(hp:0<p)(z:0<m):zh [.fz c[6],.fz p[6],.fz m[6]]=.ok (qT c p m)[7]:=by
 delta zh Ku
 simp![Zw (j:=48271) "d" "d",yz hp,yz z,qT]
def zZ(c p m)(z:0<m):0<=qT c p m/\qT c p m<m:=#[dO _ "",bP _ z]
def vA(wd:Bool):List Int:=if wd then [4,8,16,32,64]else [1,2,4,8,16,32,64]
def yQ(wd:Bool):Int:=if wd then 64 else 8
def wM(wd:Bool):Int:=if wd then 512 else 96
def jB(c:Int)(wd:Bool):Int:=(vA wd).getD (qT c 10007 (vA wd)[1]).toNat 1
def wp(wd:Bool)(u:Int):Int:=(yQ wd+u-1)/u
def wN(wd:Bool)(u:Int):Int:=if wM wd/u<24 then wM wd/u else 24
def vh(c:Int)(wd:Bool):Int:=wp wd (jB c wd)+qT c 9973 (wN wd (jB c wd)-wp wd (jB c wd)+1)
def xn(c)(wd):jB c wd∈vA wd:=by
 delta jB
 have h:=zZ c 10007 (vA wd)[1] (by cases wd<;>decide)
 simp_all
def xo(wd):∀ u∈vA wd,0<u/\u<=64/\0<wp wd u/\wp wd u<=wN wd u/\wN wd u<=24/\yQ wd<=wp wd u*u/\wN wd u*u<=wM wd:=by
 cases wd<;>decide
def JA(c)(wd):wp wd (jB c wd)<=vh c wd/\vh c wd<=wN wd (jB c wd):=by
 obtain⟨_,_,h1,h2,_⟩:=xo wd _ (xn c wd);have h:=zZ c 9973 (wN wd (jB c wd)-wp wd (jB c wd)+1) ""
 delta vh
 lia
def qr(p:Int×Int×Int):D:=.tup [.int p.1,.int p.2.1,.int p.2.2]
def ix_list(us:List Int)(dflt)(j:Int)(h0:0<=j)(h1:j<us[1]):okD (ati (us.map D.int) j)=.ok (us.getD j.toNat dflt)[7]:=by
 obtain⟨n,rfl⟩:=pJ h0;rw[zm,gM,tG,tY,gJ ""]
 rfl
def qcs(c bar)(wd):uC [.fz c[6],.fz bar[6],.fz (.bl wd)]=.ok (qr (bar,vh c wd,jB c wd))[8]:=by
 obtain⟨u1,u2,h1,h2,h3,_⟩:=xo wd _ (xn c wd);have hm:=zZ c 10007 (vA wd)[1] (by cases wd<;>decide)
 have mx:=zY c 9973 (wN wd (jB c wd)-wp wd (jB c wd)+1) "d" ""
 have ix:=ix_list (vA wd) 1 _ hm.1 hm.2;have z:=zY c 10007 (vA wd)[1] "d" (by cases wd<;>decide)
 have d1:=Qu (i:=yQ wd+jB c wd-1) u1 ""
 have d2:=Qu (i:=wM wd) u1 ""
 rw[show(vA wd).getD (qT c 10007 (vA wd)[1]).toNat 1=jB c wd from rfl]at ix
 delta uC KQ
 cases wd
 .simp[vA,yQ,wM,cK,f8,gW,c9,gQ,fQ,reduceAdd,Int.cast_ofNat_Int]at ix z d1 d2;simp![z,ix,d1,d2];rw[show(8+jB c false-1)/jB c false=wp false (jB c false)from rfl,show(if 96/jB c false<24 then 96/jB c false else 24)=wN false (jB c false)from rfl]
  simp![mx,qr,vh]
 simp[vA,yQ,wM,dz,gW,c9,gQ,fQ,reduceAdd,Int.cast_ofNat_Int]at ix z d1 d2;simp![z,ix,d1,d2];rw[show(64+jB c true-1)/jB c true=wp true (jB c true)from rfl,show(if 512/jB c true<24 then 512/jB c true else 24)=wN true (jB c true)from rfl]
 simp![mx,qr,vh]
def jz(z:List Int)(k:Nat):Int:=cell z 1+7*cell z (2+k)
def mbar(z:List Int):Nat->Int
 | 0=>0
 | k+1=>mbar z k+1+qT (jz z k) 9967 3
def mtup(z:List Int)(wd:Bool)(k:Nat):Int×Int×Int:=(mbar z k,vh (jz z k) wd,jB (jz z k) wd)
def yR(z:List Int):Nat:=(1+cell z 1%3).toNat
def vP(z:List Int)(wd:Bool):List (Int×Int×Int):=(List.range (yR z)).map (mtup z wd)
def JB(ns):1<=yR ns/\yR ns<=3/\(yR ns)=1+cell ns 1%3:=by
 delta yR
 lia
def qct(ns)(wd):Jt [.fz (.lst (ns.map D.int)),.fz (.bl wd)]=.ok (.lst ((vP ns wd).map qr))[9]:=by
 obtain⟨m1,m2,m3⟩:=JB ns;have c1:=xm ns 1;have hz:sz=16777216:=rfl
 delta Jt X8
 left;rw[show((1:Nat):Int)=1 from rfl]at c1
 rw[Qw (n:=yR ns) (by simp![c1,yz (j:=3) "d",m3]) ""]
 left;obtain⟨ρ',e,j4,j5,hI⟩:=Qg (yR ns) (λk ρ=>∃ j4 j5,ρ=[!(.lst (ns.map D.int))[8],!(.bl wd)[8],!(.lst (((List.range k).map (mtup ns wd)).map qr))[9],!(mbar ns k)[7],j4,j5])
  (g:=gV 4) (b:=qf (qk 5 (eOp qA (qh zX [(q9 0),1[5]]) (eOp jJ 7[5] (qh zX [(q9 0),(eOp qA 2[5] (q9 4))]))))
   (qf (qY 2 (qh uC [(q9 5),(q9 3),(q9 1)])) (qk 3 (eOp qA (eOp qA (q9 3) 1[5]) (qh zh [(q9 5),9967[5],3[5]])))))
  (ρ:=[!(.lst (ns.map D.int))[8],!(.bl wd)[8],!(.lst [])[9],!0[7],none,none]) #[none,none,rfl] (λk ρ hk #[j4,j5,hρ]=>by
   subst hρ;refine#[_,_,rfl,.inl ?_,!k[7],!(jz ns k)[7],rfl];have c2:=xm ns (2+k);rw[show(2+k:Nat)=2+(k:Int)by lia]at c2
   simp![c1,c2,yA (i:=7) "d" "d"]
   rw[show cell ns 1+7*cell ns (2+k)=jz ns k from rfl,zy (d:=qr (mtup ns wd k)) rfl (by simp;lia) (by simp![(qcs (jz ns k) (mbar ns k) wd)];rfl)]
   simp![(zY (jz ns k) 9967 3 "d" "d")]
   simp[d7,mbar])
 rw[e];subst hI;rfl
def ju(p:Int×Int×Int):Int:=p.2.1*p.2.2
def Fine(ms:List (Int×Int×Int)):Prop:=ms.Pairwise (λp q=>p.1<q.1)/\(∀ p∈ms,0<=p.1/\0<=p.2.1/\p.2.1<=24)/\(∃ p∈ms,p.1=0)/\ms[1]<=20
def zC(ms:List (Int×Int×Int))(b:Int):List Int:=(ms.filter λp=>decide (p.1<=b)).map ju
def jh(ms:List (Int×Int×Int))(b:Int):Int:=(zC ms b).getLast?.getD 0
def pD(b:Int):D->Bool
 | .tup (.int q::_)=>decide (q<=b)
 | _=>false
def Xj:D->D
 | .tup [_,.int t,.int u]=>.int (t*u)
 | _=>.non
def qcu(ms)(b):((ms.map qr).filter (pD b)).map Xj=(zC ms b).map D.int:=by
 unfold zC
 induction ms with
 | nil=>rfl
 | cons p r ih =>
  by_cases c:p.1<=b
  .rw[gW,fN (by simpa[qr,pD]using c),fN c[""],gW,ih]
   rfl
  rw[gW,cM (by simpa[qr,pD]using c),cM c[""],ih]
def Vj(ns){i j:Nat}(h:i<j):mbar ns i<mbar ns j:=by
 induction j with
 | zero=>lia
 | succ j ih =>
  have:=zZ (jz ns j) 9967 3 "d"
  have e:mbar ns (j+1)=mbar ns j+1+qT (jz ns j) 9967 3:=rfl
  grind
def Vk(ns)(wd):Fine (vP ns wd):=by
 obtain⟨m1,m2,_⟩:=JB ns;refine#[?_,λp hp=>?_,#[mtup ns wd 0,gK.mpr #[0,by simp;lia,rfl],rfl],by simp[vP];lia]
 .delta vP
  rw[fq];exact List.pairwise_lt_range.imp λh=>Vj ns h
 obtain⟨k,_,rfl⟩:=gK.mp hp;have h1:=JA (jz ns k) wd;have h2:=xo wd _ (xn (jz ns k) wd);refine#[?_,?_,?_]
 .show 0<=mbar ns k;cases k with
  | zero=>exact pF _
  | succ k=>exact cI (Vj ns (succ_pos k))
 .show 0<=vh (jz ns k) wd;lia
 show vh (jz ns k) wd<=24;lia
def Xk(f:Fine ms)(i:Nat):(zC ms i).getLast?=!(jh ms i):=by
 obtain⟨p,hp,B⟩:=f.2.2.1;have ne:zC ms i≠[]:=λz=>by
  have:ju p∈zC ms i:=gK.mpr #[p,dH.mpr #[hp,by simp;lia],rfl]
  simp_all
 delta jh
 cases h:(zC ms i).getLast? with
 | none=>exact absurd (px.mp h) ne
 | some v=>rfl
def Lens(ms:List (Int×Int×Int)):Prop:=∀ p∈ms,8<=ju p/\ju p<=512/\p.1<=1000
def Xl(f:Fine ms)(i:Nat):∃ p∈ms,jh ms i=ju p:=by
 obtain⟨p,hp,e⟩:=gK.mp (dg (Xk f i));exact#[p,(dH.mp hp).1,e.symm]
def JC(f:Fine ms)(l:Lens ms)(i:Nat):8<=jh ms i/\jh ms i<=512:=by
 obtain⟨p,hp,e⟩:=Xl f i;have:=l p hp;lia
def qD(ms:List (Int×Int×Int))(b:Nat):Int:=((List.range b).map λk:Nat=>jh ms k).sum
def qcv(ms):qD ms 0=0:=rfl
def yd(ms)(b):qD ms (b+1)=qD ms b+jh ms b:=by
 delta qD
 rw[d7];simp
def Xm(f:Fine ms)(l:Lens ms)(a k):qD ms a+8*k<=qD ms (a+k):=by
 induction k with
 | zero=>simp
 | succ k ih =>
  have:=JC f l (a+k);rw[show a+(k+1)=a+k+1 from rfl,yd]
  lia
def Xn{p:Int×Int×Int}{b:Int}(e:ms=pre++p::post)(z:p.1<=b)(B:∀ q∈post,b<q.1):jh ms b=ju p:=by
 subst e;have:post.filter (λq=>decide (q.1<=b))=[]:=fP.mpr λq h=>by
  have:=B q h;simp;omega
 delta jh zC
 rw[cy,fN z[""],this]
 simp
def Xo{p:Int×Int×Int}(e:ms=pre++p::post)(hp:0<=p.1)(k:Nat)(z:∀ q∈post,p.1+k<=q.1):qD ms (p.1.toNat+k)=qD ms p.1.toNat+k*ju p:=by
 induction k with
 | zero=>simp
 | succ k ih =>
  rw[show p.1.toNat+(k+1)=p.1.toNat+k+1 from rfl,yd,ih (λq h=>by have:=z q h;lia),(Xn e "" λq h=>by have:=z q h;lia)]
  lia
def qcw(ns)(wd):Lens (vP ns wd):=λp hp=>by
 obtain⟨m1,m2,_⟩:=JB ns;obtain⟨k,hk,rfl⟩:=gK.mp hp;have hk:=b7.mp hk;have h1:=JA (jz ns k) wd;obtain⟨u1,u2,u3,u4,u5,u6,u7⟩:=xo wd _ (xn (jz ns k) wd);have lo:=tM h1.1 (cI u1);have hi:=tM h1.2 (cI u1);have hb:∀ j,mbar ns j<=3*j:=λj=>by
  induction j with
  | zero=>simp[mbar]
  | succ j ih =>
   have:=zZ (jz ns j) 9967 3 "d"
   show mbar ns j+1+qT (jz ns j) 9967 3<=_;lia
 have hb:=hb k;have w8:8<=yQ wd/\wM wd<=512:=by cases wd<;>decide
 refine#[?_,?_,?_]
 .show 8<=vh (jz ns k) wd*jB (jz ns k) wd;lia
 .show vh (jz ns k) wd*jB (jz ns k) wd<=512;lia
 show mbar ns k<=1000;lia
def Vl(p)(h:0<=p.2.1/\p.2.1<=24):wo [.fz (qr p)]=.ok (ju p)[7]:=by
 delta wo Ks
 simp![qr,yA (i:=p.2.1) "" "",ju]
def JD:qH g b [] ρ=.nx ρ:=rfl
def turn(g:GF)(b:SF)(xs:List D)(o:Out):Out:=match o with
 | .nx ρ2=>qH g b xs ρ2
 | .ct ρ2=>qH g b xs ρ2
 | .bk ρ2=>.nx ρ2
 | o=>o
def vj{g:GF}{b:SF}(h:g x ρ=.ok ρ1):qH g b (x::xs) ρ=turn g b xs (b ρ1):=by
 show(match g x ρ with|.ok ρ1=>_|.exc x=>_|.stuck=>_)=_
 rw[h];rfl
def ye:turn g b xs (.nx ρ)=qH g b xs ρ:=rfl
def qix:turn g b xs (.rt w)=.rt w:=rfl
def uI:D->Bool
 | .xc _ _=>false
 | _=>true
def zD(lo hi:Int):D->Bool
 | .int i=>decide (lo<=i)&&decide (i<=hi)
 | _=>false
def Xp:D->Bool
 | .int _=>true
 | _=>false
def qcx(d)(h:uI d=true):uk [.fz d]=.ok (.bl (Xp d))[8]:=by
 cases d<;>first|rfl|cases h
def uJ(d)(lo hi)(h:uI d=true):x8 [.fz d,.fz lo[6],.fz hi[6]]=.ok (.bl (zD lo hi d))[8]:=by
 delta x8 Kz
 simp![(qcx d h)];cases d<;>first|rfl|(done)|skip
 rename_i i;simp![Xp,zD];by_cases c:lo<=i
 .simp![c,decide_true,dP]
 simp![c,decide_false,bR]
def qcy{i j:Nat}(h:ρ[i]?=!(!(.tup ds)[8]))(h2:ρ[j]?=!(!(.tup es)[8])):u9 i j ρ=.ok (zipd ds es):=by unfold u9;rw[h,h2]
def Xq(a b c)(l1 h1 l2 h2 l3 h3)(z:uI a=true)(B:uI b=true)(O:uI c=true) :
  yc [.fz (.tup [a,b,c]),.fz (.tup [.tup [.int l1,.int h1],.tup [.int l2,.int h2],.tup [.int l3,.int h3]])]=.ok (.bl (zD l1 h1 a&&(zD l2 h2 b&&zD l3 h3 c)))[8]:=by
 delta yc KZ
 left;rw[show(not (((3:Int))==3))=false from rfl]
 left;rw[qcy rfl rfl];simp![zipd];rw[vj rfl];simp![uJ a l1 h1 z];cases zD l1 h1 a
 .rfl
 simp![ye];rw[vj rfl];simp![uJ b l2 h2 B];cases zD l2 h2 b
 .rfl
 simp![ye];rw[vj rfl];simp![uJ c l3 h3 O];cases zD l3 h3 c
 .rfl
 rfl
def qcz{i:Nat}(h:ρ[i]?=!(!(.br (.lst ds)))):zz i ρ=.ok (numd 0 ds):=by delta zz;rw[h]
def Vm{i:Nat}(h:(numd 0 ds)[i]?=!x):∃ d,ds[i]?=!d/\x=.tup [.int i,d]:=by
 obtain⟨d,e1,e2⟩:=ZB ds 0 i x h;rw[pL]at e2;exact#[d,e1,e2]
def Xr(xs:List D)(n:Nat):L3.vK xs none ↑n=xs.take n:=by
 delta L3.vK
 rw[HT.sIx_none,HT.sIx_nat];simp
abbrev Nt:=Int×Int×Int
def ntR(n:Nt):List Int:=[n.1,n.2.1,n.2.2]
def ntD(n:Nt):D:=.tup [.int n.1,.int n.2.1,.int n.2.2]
def qcA(z:List Nt)(q)(h:z.getLast?=!q):okD (ati (z.map ntD) (-1))=.ok (ntD q)[8]:=by
 rw[Qh,dZ,h];rfl
def nS(c:Int)(wd:Bool):Int:=if wd then qT c 10007 1001 else qT c 10007 97
def nL(c:Int)(wd:Bool):Int:=1+if wd then qT c 9973 400 else qT c 9973 48
def nP(c:Int)(wd:Bool):Int:=if wd then qT c 9967 128 else 52+qT c 9967 25
def JE(wd:Bool):Int:=if wd then 1000 else 96
def jV(c:Int)(z:List Nt)(wd:Bool):Nt:=match z.getLast? with
 | none=>(nS c wd,nL c wd,nP c wd)
 | some q=>if qT c 9949 4=0 then(q.1,q.2.1,nP c wd)else if qT c 9949 4=1/\q.1+q.2.1<=JE wd then(q.1+q.2.1,nL c wd,if qT c 9941 2=0 then q.2.2 else nP c wd)else(nS c wd,nL c wd,nP c wd)
def qcB(c)(ns)(wd):uB [.fz c[6],.br (.lst (ns.map ntD)),.fz (.bl wd)]=.ok (ntD (jV c ns wd))[8]:=by
 have m1:=zY c 10007 97 "d" "d"
 have m2:=zY c 9973 48 "d" "d"
 have m3:=zY c 9967 25 "d" "d"
 have m4:=zY c 10007 1001 "d" "d"
 have m5:=zY c 9973 400 "d" "d"
 have m6:=zY c 9967 128 "d" "d"
 have m7:=zY c 9949 4 "d" "d"
 have m8:=zY c 9941 2 "d" "d"
 have B:∀ S L P T,nS c wd=S->nL c wd=L->nP c wd=P->JE wd=T ->
   fin (Vh [!c[7],!(.br (.lst (ns.map ntD))),!(.bl wd)[8],!S[7],!L[7],!P[7],!T[7],none])=.ok (ntD (jV c ns wd))[8]:=by
  intro S L P T hS hL hP hT
  delta jV Vh
  rw[hS,hL,hP,hT];cases hq:ns.getLast? with
  | none =>
   have hn:ns=[]:=px.mp hq;subst hn;simp![m7,List.isEmpty_nil,ntD]
  | some q =>
   have hn:(ns.map ntD).isEmpty=false:=by
    cases ns with
    | nil=>simp at hq
    | cons a b=>rfl
   have lq:=qcA ns q hq;dsimp only;by_cases c0:qT c 9949 4=0
   .have b0:(qT c 9949 4==0)=true:=by simpa using c0
    have b1:(qT c 9949 4==1)=false:=by rw[c0];rfl
    rw[if_pos c0];simp![hn,m7,b0,b1,Int.reduceNeg,lq,ntD]
   have b0:(qT c 9949 4==0)=false:=by simpa using c0
   rw[if_neg c0];by_cases c1:qT c 9949 4=1
   .have b1:(qT c 9949 4==1)=true:=by simpa using c1
    by_cases c2:q.1+q.2.1<=T
    .have b2:decide (q.1+q.2.1<=T)=true:=by simpa using c2
     rw[if_pos #[c1,c2]];by_cases c3:qT c 9941 2=0
     .have b3:(qT c 9941 2==0)=true:=by simpa using c3
      rw[if_pos c3];simp![hn,m7,m8,b0,b1,b2,b3,Int.reduceNeg,lq,ntD]
     have b3:(qT c 9941 2==0)=false:=by simpa using c3
     rw[if_neg c3];simp![hn,m7,m8,b0,b1,b2,b3,Int.reduceNeg,lq,ntD]
    have b2:decide (q.1+q.2.1<=T)=false:=by simpa using c2
    rw[if_neg λz=>c2 z.2]
    simp![hn,m7,b0,b1,b2,Int.reduceNeg,lq,ntD]
   have b1:(qT c 9949 4==1)=false:=by simpa using c1
   rw[if_neg λz=>c1 z.1]
   simp![hn,m7,b0,b1,ntD]
 delta uB KO
 cases wd
 .have:=B (qT c 10007 97) (1+qT c 9973 48) (52+qT c 9967 25) 96 rfl rfl rfl rfl;simp![m1,m2,m3];left;exact this
 have:=B (qT c 10007 1001) (1+qT c 9973 400) (qT c 9967 128) 1000 rfl rfl rfl rfl;simp![m1,m2,m3,m4,m5,m6];left;exact this
def hits(n o:Nt):Bool:=n.2.2==o.2.2&&(decide (n.1<o.1+o.2.1)&&decide (o.1<n.1+n.2.1))
def xr(n:Nt)(z:List Nt):Bool:=z.all λo=>not (hits n o)
def qcC(n)(ns):Je [.fz (ntD n),.br (.lst (ns.map ntD))]=.ok (.bl (xr n ns))[8]:=by
 have go:∀ os j2,fin ((qH (gV 2) (sIf (L3.zF (tE (eOp dEq (eOp qc (q9 0) 2[5]) (eOp qc (q9 2) 2[5]))) (L3.zF (tE (eOp dLt (eOp qc (q9 0) 0[5]) (eOp qA (eOp qc (q9 2) 0[5]) (eOp qc (q9 2) 1[5])))) (tE (eOp dLt (eOp qc (q9 2) 0[5]) (eOp qA (eOp qc (q9 0) 0[5]) (eOp qc (q9 0) 1[5])))))) (qp (eC (.bl false))) qq) (os.map ntD)
   [!(ntD n)[8],!(.br (.lst (ns.map ntD))),j2]).th (qp (eC (.bl true))))=.ok (.bl (xr n os))[8]:=by
  intro os
  induction os with
  | nil=>intro j2;rfl
  | cons o os ih =>
   intro j2;unfold qH;simp![ntD];have e:xr n (o::os)=(not (hits n o)&&xr n os):=rfl;rw[e]
   delta hits
   cases h1:(n.2.2==o.2.2)
   .simp![dP];exact ih _
   cases h2:decide (n.1<o.1+o.2.1)
   .simp![h2];exact ih _
   cases h3:decide (o.1<n.1+n.2.1)
   .simp![h2,h3];exact ih _
   simp![dP,bR,h2,h3]
 exact go ns none
def meet(n o:Nt):Bool:=decide (o.1<n.1+n.2.1)&&decide (n.1<o.1+o.2.1)&&not (o.1==n.1&&o.2.1==n.2.1)
def JF(o:Nt):List (Sum Int Str):=[.inl o.1,.inl o.2.1]
def seen(n:Nt):List Nt->List (List (Sum Int Str)×D)->List (List (Sum Int Str)×D)
 | [],acc=>acc
 | o::os,acc=>seen n os (if meet n o then jm (JF o) (.bl true) acc else acc)
def qcD [DecidableEq κ](k)(d)(kvs:List (κ×D)):(jm k d kvs)[1]<=kvs[1]+1:=by
 delta jm
 split
 .simp
 simp
def xt(n:Nt)(z:List Nt):Nat:=(seen n z [])[1]
def qcE(n)(ns)(B:ns[1]<=100):Jf [.fz (ntD n),.br (.lst (ns.map ntD))]=.ok (xt n ns)[7]:=by
 have hz:sz=16777216:=rfl;have go:∀ os z j3,z[1]+os[1]<=100->fin ((qH (gV 3) (sIf (L3.zF (tE (eOp dLt (eOp qc (q9 3) 0[5]) (eOp qA (eOp qc (q9 0) 0[5]) (eOp qc (q9 0) 1[5])))) (tE (eOp dLt (eOp qc (q9 0) 0[5]) (eOp qA (eOp qc (q9 3) 0[5]) (eOp qc (q9 3) 1[5]))))) (sIf (tE (eOp dNe (jx [(eOp qc (q9 3) 0[5]),(eOp qc (q9 3) 1[5])]) (jx [(eOp qc (q9 0) 0[5]),(eOp qc (q9 0) 1[5])]))) (kH 2 [(eOp qc (q9 3) 0[5]),(eOp qc (q9 3) 1[5])] (eC (.bl true))) qq) qq) (os.map ntD)
   [!(ntD n)[8],!(.br (.lst (ns.map ntD))),!(.dT z)[9],j3]).th (qp (eB qJ [(q9 2)])))=.ok (.int (seen n os z)[1])[8]:=by
  intro os
  induction os with
  | nil=>intro z j3 _;rfl
  | cons o os ih =>
   intro z j3 hb;rw[gQ]at hb;unfold qH seen;simp![ntD]
   delta meet
   have keep:=ih z (!(ntD o)[8]) ""
   cases h1:decide (o.1<n.1+n.2.1)
   .assumption
   cases h2:decide (n.1<o.1+o.2.1)
   .simp![h2];exact keep
   cases h3:(not (o.1==n.1&&o.2.1==n.2.1))
   .simp![dP,Bool.and_true,f8,cK,h2,h3];exact keep
   simp![dP,Bool.and_true,dz,h2,h3];rw[qao (kvs:=z) (d:=.bl true) (ws:=[.fz (.int o.1),.fz (.int o.2.1)]) (key:=JF o) rfl rfl (by left) rfl "" (by show 2<=sz;lia)]
   have:=qcD (JF o) (.bl true) z;exact ih _ _ ""
 exact go ns [] none B[""]
def yS(wd:Bool)(z:List Nt)(c:Int):List Nt:=if xr (jV c z wd) z&&decide (xt (jV c z wd) z<=7)then z++[jV c z wd]else z
def yT(wd:Bool):List Int->List Nt->List Nt
 | [],ns=>ns
 | c::cs,ns=>yT wd cs (yS wd ns c)
def uK(z:List Int):Nat:=if qT (cell z 0+7*(z[1]:Int)) 9871 8=3 then 24 else 12
def xu(z:List Int)(wd:Bool):List Nt:=yT wd ((z.drop 6).take (uK z)) []
def qcF(wd)(ns)(c):(yS wd ns c)[1]<=ns[1]+1:=by
 delta yS
 split
 .simp
 simp
def qcG(ns)(z:ns[1]<=63):Jj [.fz (.lst (ns.map D.int))]=.ok (.bl (qT (cell ns 0+7*(ns[1])) 9871 8==3))[8]:=by
 have c0:=xm ns 0;rw[show((0:Nat):Int)=0 from rfl]at c0
 delta Jj KN
 simp![c0,gj,yA (i:=7) "d" "d",(zY (cell ns 0+7*(ns[1])) 9871 8 "d" "d")]
def qcH(ns)(Y:ns[1]<=63)(wd):Js [.fz (.lst (ns.map D.int)),.fz (.bl wd)]=.ok (.lst ((xu ns wd).map ntD))[9]:=by
 have hz:sz=16777216:=rfl;have lg:=qcG ns Y;have O:decide (63<(ns[1]:Int))=false:=by simp;lia
 have go:∀ cs z B j4 j5,z[1]+cs[1]<=24 ->
   fin ((qH (gV 4) (qf (qk 5 (qh uB [(q9 4),(q9 3),(q9 1)])) (sIf (L3.zF (tE (qh Je [(q9 5),(q9 3)])) (tE (eOp dLe (qh Jf [(q9 5),(q9 3)]) 7[5]))) (qY 3 (q9 5)) qq)) (cs.map D.int)
    [!(.lst (ns.map D.int))[8],!(.bl wd)[8],!B[7],!(.lst (z.map ntD))[9],j4,j5]).th (jy 3))=.ok (.lst ((yT wd cs z).map ntD))[9]:=by
  intro cs
  induction cs with
  | nil=>intro z B j4 j5 _;rfl
  | cons c cs ih =>
   intro z B j4 j5 hb;rw[gQ]at hb;unfold qH yT;have ne:=qcB c z wd;have ae:=qcC (jV c z wd) z;have me:=qcE (jV c z wd) z ""
   simp![ne,ae]
   delta yS
   cases h1:xr (jV c z wd) z
   .simp![bR,f8,cK];exact ih z B _ _ ""
   simp![me,dP];have e7:decide (((xt (jV c z wd) z):Int)<=7)=decide (xt (jV c z wd) z<=7):=by
    lia
   rw[e7];cases h2:decide (xt (jV c z wd) z<=7)
   .simp![f8,cK];exact ih z B _ _ ""
   left;rw[zy (xs:=z.map ntD) (d:=ntD (jV c z wd)) rfl (by rw[gj];lia) (by left)]
   have:=ih (z++[jV c z wd]) B (!c[7]) (!(ntD (jV c z wd))[8]) (by rw[gH];simp;lia)
   rw[tw]at this;exact this
 have U:∀ m:Nat,m<=24->vK (ns.map D.int) ↑6 (!(6+m))=((ns.drop 6).take m).map D.int:=λm hm=>by
  have:=qap (ns.map D.int) 6 m;rw[show(((6:Nat):Int))=6 from rfl]at this
  rw[this,<- List.map_drop,<- List.map_take]
 delta Js X7 xu uK
 simp![lg];have len:∀ m,m<=24->([]:List Nt)[1]+((ns.drop 6).take m)[1]<=24:=λm hm=>by simp;omega
 by_cases c:qT (cell ns 0+7*(ns[1])) 9871 8=3
 .have b:(qT (cell ns 0+7*(ns[1])) 9871 8==3)=true:=by simpa using c
  rw[if_pos c];simp![b,gj,O];rw[vV (w:=.ow (.lst (vK (ns.map D.int) ↑6 (!(6+(24:Nat)))))) (by left) rfl,U 24 "d"]
  left;exact go _ [] 24 none none (len 24 "d")
 have b:(qT (cell ns 0+7*(ns[1])) 9871 8==3)=false:=by simpa using c
 rw[if_neg c];simp![b,gj,O];rw[vV (w:=.ow (.lst (vK (ns.map D.int) ↑6 (!(6+(12:Nat)))))) (by left) rfl,U 12 "d"]
 left;exact go _ [] 12 none none (len 12 "d")
def qcI(ns):Jk [.fz (.lst (ns.map D.int))]=.ok (.bl (cell ns 0%4==3))[8]:=by
 have c0:=xm ns 0;rw[show((0:Nat):Int)=0 from rfl]at c0
 delta Jk KP
 simp![c0,yz (j:=4) "d"]
structure NotesOk(ns:List Nt):Prop where
 b:∀ n∈ns,0<=n.1/\n.1<=1000/\1<=n.2.1/\n.2.1<=400/\0<=n.2.2/\n.2.2<=127
 ap:ns.Pairwise λo n=>hits n o=false
 mt:∀ pre n post,ns=pre++n::post->xt n pre<=7
def qcJ(c)(ns)(wd)(h:∀ n∈ns,0<=n.1/\n.1<=1000/\1<=n.2.1/\n.2.1<=400/\0<=n.2.2/\n.2.2<=127) :
  0<=(jV c ns wd).1/\(jV c ns wd).1<=1000/\1<=(jV c ns wd).2.1/\(jV c ns wd).2.1<=400/\0<=(jV c ns wd).2.2/\(jV c ns wd).2.2<=127:=by
 have m1:=zZ c 10007 97 "d"
 have m2:=zZ c 9973 48 "d"
 have m3:=zZ c 9967 25 "d"
 have m4:=zZ c 10007 1001 "d"
 have m5:=zZ c 9973 400 "d"
 have m6:=zZ c 9967 128 "d"
 have hs:0<=nS c wd/\nS c wd<=1000:=by delta nS;split<;>lia
 have hl:1<=nL c wd/\nL c wd<=400:=by delta nL;split<;>lia
 have hp:0<=nP c wd/\nP c wd<=127:=by delta nP;split<;>lia
 delta jV
 cases hq:ns.getLast? with
 | none=>dsimp only;lia
 | some q =>
  have hb:=h q (dg hq);have ht:JE wd<=1000:=by delta JE;split<;>lia
  dsimp only;split
  .simp_all
  split
  .lia
  dsimp only;lia
def qcK(h:NotesOk ns):NotesOk (yS wd ns c):=by
 delta yS
 split
 .rename_i k;rw[hX]at k;refine#[λn hn=>?_,?_,λpre n post e=>?_]
  .rcases gD.mp hn with hn|hn
   .exact h.b n hn
   simp at hn;subst hn;exact(qcJ c ns wd h.b)
  .rw[h9];refine#[h.ap,fZ _ _,λo ho n hn=>?_]
   simp at hn;subst hn;have:=tV.mp k.1 o ho;simpa using this
  rcases List.eq_nil_or_concat post with rfl|⟨post',x,rfl⟩
  .have:=List.append_inj_right' e rfl
   simp_all
  have e':ns++[jV c ns wd]=(pre++n::post')++[x]:=by rw[e];simp
  exact h.mt pre n post' (List.append_inj_left' e' rfl)
 exact h
def qcL(wd:Bool):∀(cs:List Int) (ns:List Nt),NotesOk ns->NotesOk (yT wd cs ns):=λcs=>cs.rec
 (λns h=>h)
 λc cs IH ns h=>IH _ (qcK h)
def qcM(wd:Bool):∀(cs:List Int) (ns:List Nt),(yT wd cs ns)[1]<=ns[1]+cs[1]:=λcs=>cs.rec
 (λns=>gE _)
 λc cs IH ns=>by
  have h1:=IH (yS wd ns c);have h2:=qcF wd ns c;simp only[yT,gQ];lia
def qcN(ns)(wd):NotesOk (xu ns wd) :=
 qcL wd _ [] #[λn hn=>by simp at hn,.nil,λpre n post e=>by simp at e]
def qcO(ns)(wd):(xu ns wd)[1]<=24:=by
 have h:=qcM wd ((ns.drop 6).take (uK ns)) [];have:uK ns<=24:=by delta uK;split<;>decide
 delta xu
 simp at h ⊢;lia
def Xs(h:ntR a=ntR b):a=b:=by
 obtain⟨a1,a2,a3⟩:=a;simp[ntR]at h;simp[h]
def NotesOk.nodup(h:NotesOk ns):(ns.map ntR).Nodup:=by
 show List.Pairwise _ _;rw[fq];refine dD (λ{o n} ho hn q z=>?_) h.ap
 have e:=Xs z;subst e;have hb:=h.b o ho
 delta hits at q
 simp at q
 omega
def ofR:List Int->Nt
 | [a,b,c]=>(a,b,c)
 | _=>(0,0,0)
def qQ(z:List Nt):List Nt:=(jq (z.map ntR)).map ofR
def uL(ns):(qQ ns).map ntR=jq (ns.map ntR):=by
 delta qQ
 rw[hE];have:∀ r∈jq (ns.map ntR),(ntR∘ofR) r=r:=λr hr=>by
  obtain⟨n,_,rfl⟩:=gK.mp ((wZ _).mem_iff.mp hr);rfl
 rw[t3 this];simp
def wt(ns):(qQ ns).Perm ns:=by
 have h:=(wZ (ns.map ntR)).map ofR;rw[hE]at h;have:(ofR∘ntR)=(λn=>n):=by funext n;rfl
 rw[this]at h;simpa[qQ]using h
def leN(a b:Nt):Prop:=a.1<b.1\/a.1=b.1/\(a.2.1<b.2.1\/a.2.1=b.2.1/\a.2.2<=b.2.2)
def lex3(h:HT.lexLt (ntR b) (ntR a)=false):leN a b:=by
 delta ntR at h
 rw[HT.lexLt_cons]at h
 delta leN
 by_cases e1:b.1=a.1
 .rw[if_pos e1,HT.lexLt_cons]at h;by_cases e2:b.2.1=a.2.1
  .rw[if_pos e2,HT.lexLt_cons]at h;lia
  rw[if_neg e2]at h;simp at h;lia
 rw[if_neg e1]at h;simp at h;lia
def Vn(ns):(qQ ns).Pairwise leN:=by
 have h:=Qy (ns.map ntR);rw[<- uL,fq]at h;exact h.imp lex3
abbrev Ch:=Int×Int×List Int
def chD(c:Ch):D:=.tup [.int c.1,.int c.2.1,.tup (c.2.2.map D.int)]
def grp(z:List Ch)(n:Nt):List Ch:=match z.getLast? with
 | some c=>if c.1=n.1/\c.2.1=n.2.1 then z.dropLast++[(n.1,n.2.1,c.2.2++[n.2.2])]else z++[(n.1,n.2.1,[n.2.2])]
 | none=>z++[(n.1,n.2.1,[n.2.2])]
def rowOf(z:List Nt):List Ch:=(qQ z).foldl grp []
def ltC(a b:Ch):Prop:=a.1<b.1\/a.1=b.1/\a.2.1<b.2.1
structure RowOk(ns:List Nt)(row:List Ch):Prop where
 up:row.Pairwise ltC
 ne:∀ c∈row,c.2.2≠[]
 ri:∀ c∈row,c.2.2.Pairwise (· < ·)
 of:∀ c∈row,∀ p∈c.2.2,(c.1,c.2.1,p)∈ns
 all:∀ n∈ns,∃ c∈row,c.1=n.1/\c.2.1=n.2.1/\n.2.2∈c.2.2
def Xt{n:Nt}(nd:n∉done)(R:RowOk done acc)(Z:∀ m∈done,leN m n)(O:∀ c,acc.getLast?=!c->∃ m∈done,c.1=m.1/\c.2.1=m.2.1):RowOk (done++[n]) (grp acc n) /\
  ∃ c,(grp acc n).getLast?=!c/\c.1=n.1/\c.2.1=n.2.1:=by
 have U:(∀ c∈acc,ltC c (n.1,n.2.1,[n.2.2]))->RowOk (done++[n]) (acc++[(n.1,n.2.1,[n.2.2])]):=λY=>by
  refine#[?_,λc hc=>?_,λc hc=>?_,λc hc p hp=>?_,λm hm=>?_]
  .rw[h9];exact#[R.up,fZ _ _,λa ha b hb=>by simp at hb;subst hb;exact Y a ha]
  .rcases gD.mp hc with hc|hc
   .exact R.ne c hc
   simp_all
  .rcases gD.mp hc with hc|hc
   .exact R.ri c hc
   simp_all
  .rcases gD.mp hc with hc|hc
   .exact tj _ (R.of c hc p hp)
   simp at hc;subst hc;simp at hp;subst hp;simp
  rcases gD.mp hm with hm|hm
  .obtain⟨c,hc,q⟩:=R.all m hm;exact#[c,tj _ hc,q]
  simp at hm;subst hm;exact#[_,tq _ (tQ.mpr rfl),rfl,rfl,by simp]
 delta grp
 cases hg:acc.getLast? with
 | none =>
  have hn:=px.mp hg;subst hn;exact#[U λc hc=>by simp at hc,(n.1,n.2.1,[n.2.2]),by simp,rfl,rfl]
 | some c0 =>
  dsimp only;obtain⟨B,rfl⟩:∃ B,acc=B++[c0]:=by
   obtain⟨h,e⟩:=List.getLast?_eq_some_iff.mp hg;exact#[h,e]
  have z:=R.up;rw[h9]at z;by_cases c:c0.1=n.1/\c0.2.1=n.2.1
  .rw[if_pos c];simp only[List.dropLast_concat];refine#[#[?_,λx hx=>?_,λx hx=>?_,λx hx p hp=>?_,λm hm=>?_],(n.1,n.2.1,c0.2.2++[n.2.2]),by simp,rfl,rfl]
   .rw[h9];refine#[z.1,fZ _ _,λa ha b hb=>?_]
    simp at hb;subst hb;have:=z.2.2 a ha c0 "s"
    unfold ltC at this ⊢;dsimp only;lia
   .rcases gD.mp hx with hx|hx
    .exact R.ne x (tj _ hx)
    simp at hx;subst hx;simp
   .rcases gD.mp hx with hx|hx
    .exact R.ri x (tj _ hx)
    simp at hx;subst hx;dsimp only;rw[h9];refine#[R.ri c0 "s",fZ _ _,λa ha b hb=>?_]
    simp at hb;subst hb;have hm:=R.of c0 "s" a ha
    have le:=Z _ hm;unfold leN at le;dsimp only at le;by_cases e:a=n.2.2
    .exfalso;apply nd;have:n=(c0.1,c0.2.1,a):=by rw[c.1,c.2,e]
     rw[this];exact hm
    lia
   .rcases gD.mp hx with hx|hx
    .exact tj _ (R.of x (tj _ hx) p hp)
    simp at hx;subst hx;dsimp only at hp ⊢;rcases gD.mp hp with hp|hp
    .have:=R.of c0 "s" p hp
     rw[c.1,c.2]at this;exact tj _ this
    simp at hp;subst hp;simp
   rcases gD.mp hm with hm|hm
   .obtain⟨x,hx,q1,q2,q3⟩:=R.all m hm;rcases gD.mp hx with hx|hx
    .exact#[x,tj _ hx,q1,q2,q3]
    simp at hx;subst hx;exact#[_,tq _ (tQ.mpr rfl),by dsimp only;lia,by dsimp only;lia,by simp[q3]]
   simp at hm;subst hm;exact#[_,tq _ (tQ.mpr rfl),rfl,rfl,by simp]
  rw[if_neg c];refine#[U λa ha=>?_,(n.1,n.2.1,[n.2.2]),by simp,rfl,rfl]
  have l0:ltC c0 (n.1,n.2.1,[n.2.2]):=by
   obtain⟨m,hm,e1,e2⟩:=O c0 hg;have le:=Z m hm;unfold leN at le
   delta ltC
   dsimp only;lia
  rcases gD.mp ha with ha|ha
  .have:=z.2.2 a ha c0 "s"
   unfold ltC at this l0 ⊢;dsimp only at *;lia
  simp at ha;subst ha;exact l0
def Xu:∀(rest done:List Nt) (B:List Ch),(done++rest).Nodup->(done++rest).Pairwise leN->RowOk done B->(∀ c,B.getLast?=!c->∃ m∈done,c.1=m.1/\c.2.1=m.2.1)->RowOk (done++rest) (rest.foldl grp B):=λrest=>rest.rec
 (λdone B _ _ R _=>by simpa using R)
 λn rest IH done B nd pw R O=>by
  have e:done++n::rest=(done++[n])++rest:=by simp
  have n1:n∉done:=λz=>(fL.mp nd).2.2 n z n "s" rfl
  have le:∀ m∈done,leN m n:=λm hm=>(h9.mp pw).2.2 m hm n "s"
  obtain⟨R2,c,hc,c1,c2⟩:=Xt n1 R le O;rw[pS,e];refine IH (done++[n]) _ (by rw[<- e];exact nd) (by rw[<- e];exact pw) R2 λx hx=>?_
  rw[hc]at hx;cases hx;exact#[n,by simp,c1,c2]
def Xv(h:NotesOk ns):RowOk ns (rowOf ns):=by
 have nd:(qQ ns).Nodup:=by
  have:=h.nodup;exact(wt ns).nodup_iff.mpr ((fq.mp this).imp λ{a b} q e=>q (by rw[e]))
 have R:=Xu (qQ ns) [] [] nd[""] (by simpa using Vn ns) #[.nil,λc hc=>by simp at hc,λc hc=>by simp at hc,λc hc=>by simp at hc,λn hn=>by simp at hn] (λc hc=>by simp at hc)
 have m:∀ n,n∈qQ ns↔n∈ns:=λn=>(wt ns).mem_iff
 exact#[R.up,R.ne,R.ri,λc hc p hp=>(m _).mp (R.of c hc p hp),λn hn=>R.all n ((m n).mpr hn)]
def Xw(h:NotesOk ns)(R:RowOk ns row):∀ c∈row,0<=c.1/\c.1<=1000/\1<=c.2.1/\c.2.1<=400:=λc hc=>by
 cases e:c.2.2 with
 | nil=>exact absurd e (R.ne c hc)
 | cons p r =>
  have:=h.b _ (R.of c hc p (by rw[e];simp))
  simp_all
def Xx(acc)(n):(grp acc n)[1]<=acc[1]+1:=by
 delta grp
 split
 .split
  .simp
  simp
 simp
def qcP:∀(ns:List Nt) (z:List Ch),(ns.foldl grp z)[1]<=z[1]+ns[1]:=λns=>ns.rec
 (λz=>gE _)
 λn ns IH z=>by
  have h1:=IH (grp z n);have h2:=Xx z n;simp only[pS,gQ];lia
def Vp(ns):(rowOf ns)[1]<=ns[1]:=by
 have h:=qcP (qQ ns) [];rw[(wt ns).length_eq]at h;simpa[rowOf]using h
def qcQ{e:EF}{ρ:Rho}(h:e ρ=.ok (.dT [])[9])(z:vM i ρ=true):yD i e ρ=.nx (ρ.set i (!(.od (.dT [])))):=by
 delta yD
 rw[h];show yC i ρ (.dT [])[9]=_
 delta yC
 simp_all
def qcR{i:Nat}{z e:EF}{ρ:Rho}{ws:List En}{key:List (Sum Int Str)}{kds:List (List (Sum Int Str)×D)}(h:ρ[i]?=!(!(.od (.dT kds))))(h1:evs ks ρ=.ok ws)(h2:jQ (ws.map En.d)=!key)(B:z ρ=.ok (.lst [])[9])
  (O:kds[1]<sz/\key[1]<=sz/\(kds.all λkv=>kN kv.2)=true)(U:e (ρ.set i none)=.ok d[8]):sSd i ks z e ρ=.nx (ρ.set i (!(.od (.dT (zV key d kds))))):=by
 delta sSd
 rw[h,h1];show YQ i z e ρ kds (jQ (ws.map En.d))=_;rw[h2];show sOf (z ρ) (kO i e ρ kds key)=_;rw[B];show(if kds[1]<sz/\key[1]<=sz/\(kds.all λkv=>kN kv.2)=true then sOf (e (ρ.set i none)) (YO i ρ kds key)else .stuck)=_
 rw[if_pos O,U];rfl
def ze(a b:Int):List (Sum Int Str):=[.inl a,.inl b]
def zi(z:List Ch):List (List (Sum Int Str)×D):=z.map λc=>(ze c.1 c.2.1,D.lst (c.2.2.map D.int))
def Xy(h:ze a b=ze c d):a=c/\b=d:=by simpa[ze]using h
def qcS(c){rest:List Ch}(h:rest≠[])(n):grp (c::rest) n=c::grp rest n:=by
 obtain⟨r,rs,rfl⟩:∃ r rs,rest=r::rs:=by
  cases rest with
  | nil=>exact absurd rfl h
  | cons r rs=>exact#[r,rs,rfl]
 have e:(c::r::rs).getLast?=(r::rs).getLast?:=by simp[List.getLast?_cons_cons]
 delta grp
 rw[e];cases h2:(r::rs).getLast? with
 | none=>simp at h2
 | some l =>
  dsimp only;split<;>simp
def qcT(n:Nt):∀(B:List Ch),B.Pairwise ltC->(∀ c∈B,c.1<n.1\/c.1=n.1/\c.2.1<=n.2.1)->zV (ze n.1 n.2.1) (.int n.2.2) (zi B)=zi (grp B n):=λrest=>rest.rec
 (λ_ _=>rfl)
 λc rest IH up le=>by
  obtain⟨u1,u2⟩:=fC.mp up;show(if ze c.1 c.2.1=ze n.1 n.2.1 then(ze c.1 c.2.1,QJ (D.lst (c.2.2.map D.int)) (.int n.2.2))::zi rest else(ze c.1 c.2.1,D.lst (c.2.2.map D.int))::zV (ze n.1 n.2.1) (.int n.2.2) (zi rest))=_
  by_cases k:ze c.1 c.2.1=ze n.1 n.2.1
  .obtain⟨k1,k2⟩:=Xy k;have re:rest=[]:=by
    cases rest with
    | nil=>rfl
    | cons r rs =>
     have a1:=u1 r "s"
     have a2:=le r "s"
     unfold ltC at a1;lia
   subst re;have eg:grp [c] n=[(n.1,n.2.1,c.2.2++[n.2.2])]:=by simp[grp,k1,k2]
   rw[eg];simp[zi,QJ,k1,k2]
  rw[if_neg k,IH u2 λx hx=>le x (gu _ hx)]
  by_cases re:rest=[]
  .subst re;have ne:¬ (c.1=n.1/\c.2.1=n.2.1):=λz=>k (by rw[z.1,z.2])
   have eg:grp [c] n=[c,(n.1,n.2.1,[n.2.2])]:=by simp[grp,ne]
   rw[eg];rfl
  rw[qcS c re];rfl
def Xz{c:Ch}:∀{B:List Ch},B.Pairwise ltC->c∈B->look (ze c.1 c.2.1) (zi B)=!(.lst (c.2.2.map D.int)):=λ{B}=>B.rec
 (@λ_ h=>by simp at h)
 λx B IH=>@λup h=>by
  obtain⟨u1,u2⟩:=fC.mp up;show(if ze x.1 x.2.1=ze c.1 c.2.1 then !(D.lst (x.2.2.map D.int))else look (ze c.1 c.2.1) (zi B))=_
  rcases gG.mp h with rfl|h
  .simp
  have:=u1 c h;unfold ltC at this;rw[if_neg λz=>by have:=Xy z;lia,IH u2 h]
def jv(z:List Ch):Nat:=(z.map λc=>c.2.2.length).sum
def qcU(acc)(n):jv (grp acc n)=jv acc+1:=by
 delta grp
 cases h:acc.getLast? with
 | none =>
  have:=px.mp h;subst this;rfl
 | some c =>
  dsimp only;obtain⟨i,rfl⟩:∃ i,acc=i++[c]:=List.getLast?_eq_some_iff.mp h |>.imp λ_ e=>e
  split
  .simp[jv];lia
  simp[jv];lia
def qcV:∀(ns:List Nt) (z:List Ch),jv (ns.foldl grp z)=jv z+ns[1]:=λns=>ns.rec
 (λz=>rfl)
 λn ns IH z=>by
  rw[pS,IH,qcU,gQ];lia
def XA(ns):jv (rowOf ns)=ns[1]:=by
 delta rowOf
 rw[qcV,(wt ns).length_eq];show 0+_=_;lia
def JG(kds:List (List (Sum Int Str)×D)):D->D
 | .tup [.int a,.int b]=>.tup [.int a,.int b,(match look (ze a b) kds with|some (.lst xs)=>.tup xs|_=>.non)]
 | _=>.non
def Vq(h1:rs.Nodup)(h2:rs[1]<=5000)(z:[]∉rs):wg [.lst (rs.map qN)]=.ok (.lst ((jq rs).map qN))[9]:=by
 delta wg
 dsimp only;rw[qaq]
 simp_all
def qcW(h:(ns.map ntR).Nodup):RowOk ns (rowOf ns):=by
 have nd:(qQ ns).Nodup:=by
  have:=h;exact(wt ns).nodup_iff.mpr ((fq.mp this).imp λ{a b} q e=>q (by rw[e]))
 have R:=Xu (qQ ns) [] [] nd[""] (by simpa using Vn ns) #[.nil,λc hc=>by simp at hc,λc hc=>by simp at hc,λc hc=>by simp at hc,λn hn=>by simp at hn] (λc hc=>by simp at hc)
 have m:∀ n,n∈qQ ns↔n∈ns:=λn=>(wt ns).mem_iff
 exact#[R.up,R.ne,R.ri,λc hc p hp=>(m _).mp (R.of c hc p hp),λn hn=>R.all n ((m n).mpr hn)]
def qcX(ns)(N:(ns.map ntR).Nodup)(nl:ns[1]<=24):y8 [.br (.lst (ns.map ntD))]=.ok (.lst ((rowOf ns).map chD))[9]:=by
 have hz:sz=16777216:=rfl;have e1:ns.map ntD=(ns.map ntR).map qN:=by rw[hE];rfl
 have srt:=Vq (rs:=ns.map ntR) N (by rw[gj];lia) (λz=>by obtain⟨n,_,e⟩:=gK.mp z;cases e)
 have U:wg [.lst (ns.map ntD)]=.ok (.lst ((qQ ns).map ntD))[9]:=by
  rw[e1,srt,<- uL,hE];rfl
 have R:=qcW N;have Y:∀ j2,fin (ua 1 (qp (qS 1 (iT 1) (gV 3) qX (jx [(eOp qc (q9 3) 0[5]),(eOp qc (q9 3) 1[5]),(eB yo [(eOp y4 (q9 1) (q9 3))])]))) [!(.br (.lst (ns.map ntD))),!(.od (.dT (zi (rowOf ns)))),j2])=.ok (.lst ((rowOf ns).map chD))[9]:=λj2=>by
  show fin (qp _ [!(.br (.lst (ns.map ntD))),!(.lk (.dT (zi (rowOf ns)))),j2])=_;have cm:qS 1 (iT 1) (gV 3) qX (jx [(eOp qc (q9 3) 0[5]),(eOp qc (q9 3) 1[5]),(eB yo [(eOp y4 (q9 1) (q9 3))])]) [!(.br (.lst (ns.map ntD))),!(.lk (.dT (zi (rowOf ns)))),j2]=.ok (.lst ((rowOf ns).map chD))[9]:=by
   have ek:(zi (rowOf ns)).map (λkv=>YT kv.1)=(rowOf ns).map λc=>D.tup [.int c.1,.int c.2.1]:=by
    delta zi
    rw[hE];rfl
   have eo:(rowOf ns).map chD=((rowOf ns).map λc=>D.tup [.int c.1,.int c.2.1]).map (JG (zi (rowOf ns))):=by
    rw[hE];refine t3 λc hc=>?_
    show chD c=JG (zi (rowOf ns)) (.tup [.int c.1,.int c.2.1])
    delta JG
    dsimp only;rw[Xz R.up hc];rfl
   have rl:=Vp ns;rw[eo];refine yx (ds:=(rowOf ns).map λc=>D.tup [.int c.1,.int c.2.1]) (by rw[<- ek];rfl) (by rw[gj,hz];lia) (ku 3 _ _ _ λd hd=>?_)
   obtain⟨c,hc,rfl⟩:=gK.mp hd;have lk:=Xz R.up hc;have ix:y4 (.dT (zi (rowOf ns))) (.tup [.int c.1,.int c.2.1])=.ok (.lst (c.2.2.map D.int))[8]:=by
    show okD (look (ze c.1 c.2.1) (zi (rowOf ns)))=_;rw[lk];rfl
   refine#[.fz (.tup [.int c.1,.int c.2.1,.tup (c.2.2.map D.int)]),by simp![jj,ro,ix],?_]
   show(L3.R.ok (D.tup [.int c.1,.int c.2.1,.tup (c.2.2.map D.int)]))=_
   delta JG
   dsimp only;rw[lk]
  simp![cm]
 delta y8 Kl
 simp[Qv,gW,c9,gQ,fQ,reduceAdd,Nat.reduceSub,pP,List.replicate_zero,List.cons_append,fX,jG];rw[qcQ (by left) rfl]
 left;rw[vV (w:=.ow (.lst ((qQ ns).map ntD))) (by simp![U]) rfl]
 left;have go:∀ rest done B k j2,(done++rest).Nodup->(done++rest).Pairwise leN->RowOk done B->(∀ c,B.getLast?=!c->∃ m∈done,c.1=m.1/\c.2.1=m.2.1)->B[1]+rest[1]<=100/\k+rest[1]<=100->(∀ c∈B,c.2.2.length<=k)->rest.foldl grp B=rowOf ns ->
   fin ((qH (gV 2) (sSd 1 [(eOp qc (q9 2) 0[5]),(eOp qc (q9 2) 1[5])] (ji []) (eOp qc (q9 2) 2[5])) (rest.map ntD) [!(.br (.lst (ns.map ntD))),!(.od (.dT (zi B))),j2]).th
    (ua 1 (qp (qS 1 (iT 1) (gV 3) qX (jx [(eOp qc (q9 3) 0[5]),(eOp qc (q9 3) 1[5]),(eB yo [(eOp y4 (q9 1) (q9 3))])])))))=.ok (.lst ((rowOf ns).map chD))[9]:=by
  intro rest
  induction rest with
  | nil =>
   intro done B k j2 _ _ _ _ _ _ e;have e:B=rowOf ns:=e;subst e;rw[c9,JD];exact Y j2
  | cons n rest ih =>
   intro done B k j2 nd pw Rk O hb hk e;rw[gQ]at hb;have eq:done++n::rest=(done++[n])++rest:=by simp
   have n1:n∉done:=λz=>(fL.mp nd).2.2 n z n "s" rfl
   have le:∀ m∈done,leN m n:=λm hm=>(h9.mp pw).2.2 m hm n "s"
   obtain⟨R2,c,hc,c1,c2⟩:=Xt n1 Rk le O;have leC:∀ c∈B,c.1<n.1\/c.1=n.1/\c.2.1<=n.2.1:=λc hc=>by
    cases ep:c.2.2 with
    | nil=>exact absurd ep (Rk.ne c hc)
    | cons p r =>
     have:=le _ (Rk.of c hc p (by rw[ep];simp))
     unfold leN at this;dsimp only at this;lia
   have gl:=Xx B n;have gk:∀ c∈grp B n,c.2.2.length<=k+1:=λc hc=>by
    delta grp at hc
    cases hl:B.getLast? with
    | none =>
     rw[hl]at hc;rcases gD.mp hc with hc|hc
     .have:=hk c hc;lia
     simp at hc;subst hc;simp
    | some l =>
     rw[hl]at hc;dsimp only at hc;split at hc
     .rcases gD.mp hc with hc|hc
      .have:=hk c (List.dropLast_subset _ hc);lia
      simp at hc;subst hc;have:=hk l (dg hl);simp;lia
     rcases gD.mp hc with hc|hc
     .have:=hk c hc;lia
     simp at hc;subst hc;simp
   rw[gW,vj rfl];left;rw[qcR (kds:=zi B) (ws:=[.fz (.int n.1),.fz (.int n.2.1)]) (key:=ze n.1 n.2.1) (d:=.int n.2.2) rfl (by simp![ntD]) rfl (by left)
    #[by simp[zi,hz];lia,by simp[ze,hz],tV.mpr λkv Z=>by
     obtain⟨c,hc,rfl⟩:=gK.mp Z;have:=hk c hc;show decide ((c.2.2.map D.int)[1]<sz)=true;rw[gj,hz];exact tL ""] (by simp![ntD]),qcT n B Rk.up leC]
   simp![ye];refine ih (done++[n]) (grp B n) (k+1) _ (by rw[<- eq];exact nd) (by rw[<- eq];exact pw) R2 (λx hx=>?_) "" gk e
   rw[hc]at hx;cases hx;exact#[n,by simp,c1,c2]
 have nd:(qQ ns).Nodup:=(wt ns).nodup_iff.mpr ((fq.mp N).imp λ{a b} q e=>q (by rw[e]))
 exact go (qQ ns) [] [] 0 none nd[""] (by simpa using Vn ns) #[.nil,λc hc=>by simp at hc,λc hc=>by simp at hc,λc hc=>by simp at hc,λn hn=>by simp at hn] (λc hc=>by simp at hc) (by rw[(wt ns).length_eq];simp;lia) (λc hc=>by simp at hc) rfl
def qcY(h:c∈row):c.2.2.length<=jv row:=by
 obtain⟨i,hi,rfl⟩:=List.getElem_of_mem h;have e:row=row.take i++row[i]::row.drop (i+1):=by rw[<- fR hi,tS]
 have:jv row=jv (row.take i)+((row[i]).2.2.length+jv (row.drop (i+1))):=by
  conv=>lhs;rw[e]
  simp only[jv,tw,bG,gW,pK]
 lia
def qiy{e:EF}{ρ:Rho}(h:e ρ=.ok (.lst [])[9])(z:vM i ρ=true):yD i e ρ=.nx (ρ.set i (!(.od (.lst [])))):=by
 delta yD
 rw[h];show yC i ρ (.lst [])[9]=_
 delta yC
 rw[if_pos z]
def XB{i:Nat}{e:EF}{ρ:Rho}(h:ρ[i]?=!(!(.od d)))(h2:e (ρ.set i (!d[9]))=.ok x[8])(B:scal x=true)(O:∀ k,d≠.dK k:=by intro _ z;cases z)(U:∀ k,d≠.tup k:=by intro _ z;cases z):wc i e ρ=.ok x[8]:=by
 delta wc
 rw[h];cases d<;>first
  | exact absurd rfl (O _)
  | exact absurd rfl (U _)
  | (dsimp only;rw[h2,R.bind_ok];delta ZE;dsimp only;rw[if_pos B])
def qcZ{ρ:Rho}{ds es:List D}(h:ρ[i]?=!(!(.od (.lst ds))))(h2:e ρ=.ok (.lst es)[9])(z:ds[1]<sz):kL i e ρ=.nx (ρ.set i (!(.od (.lst (ds++[.lst es]))))):=by
 delta kL
 rw[h,h2];show QG i ρ ds (.lst es)[9]=_
 delta QG
 simp_all
def Vr{i k:Nat}{z e:EF}{ρ:Rho}{ds xs:List D}(h:ρ[i]?=!(!(.od (.lst ds))))(h1:z ρ=.ok k[7])(h2:e ρ=.ok d[8])(B:ds[k]?=!(.lst xs))(O:xs[1]<sz) :
  wJ i z e ρ=.nx (ρ.set i (!(.od (.lst (ds.set k (.lst (xs++[d]))))))):=by
 delta wJ
 rw[h,h1,h2];show yE i ρ ds k[7] d[8]=_
 delta yE
 delta QH
 simp_all
def qiz{i:Nat}(h:ρ[i]?=!(!(.od d)))(B:∀ k,d≠.dK k:=by intro _ z;cases z)(O:∀ k,d≠.tup k:=by intro _ z;cases z):y3 i (jy i) ρ=.rt d[9]:=by
 have hl:=(gw.mp h).1
 delta y3 L3.shut
 rw[h];cases d<;>first
  | exact absurd rfl (B _)
  | exact absurd rfl (O _)
  | (delta jy;rw[List.getElem?_set_self hl])
def at_(t:Int)(c:Ch):Bool:=decide (c.1<=t)&&decide (t<c.1+c.2.1)
def many(z:List Ch)(t:Int):Nat:=z.countP (at_ t)
abbrev Vs:=List (List Ch)
def vD(v:List Ch):D:=.lst (v.map chD)
def endL(v:List Ch):Int:=match v.getLast? with
 | some c=>c.1+c.2.1
 | none=>0
def qV:Vs->Int->Nat
 | [],_=>0
 | v::vs,t=>if endL v<=t then 0 else qV vs t+1
def zb:Vs->Ch->Vs
 | [],c=>[[c]]
 | v::vs,c=>if endL v<=c.1 then(v++[c])::vs else v::zb vs c
def qd0:∀(vs:Vs) (t:Int),qV vs t<=vs[1]:=λvs=>vs.rec
 (λ_=>gE _)
 λv vs IH t=>by
  unfold qV;have:=IH t;split<;>simp<;>omega
def XC:∀(vs:Vs) (c:Ch),(zb vs c)[1]=if qV vs c.1=vs[1] then vs[1]+1 else vs[1]:=λvs=>vs.rec
 (λc=>rfl)
 λv vs IH c=>by
  have:=IH c;unfold zb qV;split
  .rfl
  simp only[gQ,this];split<;>split<;>lia
def qd1(p:Ch->Bool):∀(vs:Vs) (c:Ch),(zb vs c).flatten.countP p=vs.flatten.countP p+[c].countP p:=λvs=>vs.rec
 (λc=>by simp[zb])
 λv vs IH c=>by
  unfold zb;split
  .simp only[tP,cg];lia
  simp only[tP,cg,(IH c)];lia
theorem uN:∀{vs} {c},x∈zb vs c->x∈vs\/x=[c]\/∃ v∈vs,endL v<=c.1/\x=v++[c]
 | [],c,h=>by simp[zb]at h;exact .inr (.inl h)
 | v::vs,c,h=>by
  unfold zb at h;split at h
  .rename_i e;rcases gG.mp h with rfl|h
   .exact .inr (.inr #[v,by simp,e,rfl])
   exact .inl (gu _ h)
  rcases gG.mp h with rfl|h
  .exact .inl "s"
  rcases uN h with q|q|⟨w,hw,q⟩
  .exact .inl (gu _ q)
  .exact .inr (.inl q)
  exact .inr (.inr #[w,gu _ hw,q])
structure VOk(pre:List Ch)(vs:Vs):Prop where
 ne:∀ v∈vs,v≠[]
 cnt:∀ t,vs.flatten.countP (at_ t)=many pre t
 ap:∀ v∈vs,v.Pairwise λc d=>c.1+c.2.1<=d.1
 old:∀ v∈vs,∀ c∈v,c∈pre
 len:∀ v∈vs,v[1]<=pre[1]
def XD:VOk [] []:=#[λ_ h=>by simp at h,λ_=>rfl,λ_ h=>by simp at h,λ_ h=>by simp at h,λ_ h=>by simp at h]
def Vt(h:v≠[]):∃ c∈v,endL v=c.1+c.2.1/\∃ i,v=i++[c]:=by
 obtain⟨i,c,rfl⟩:∃ i c,v=i++[c]:=#[v.dropLast,v.getLast h,(List.dropLast_concat_getLast h).symm];exact#[c,by simp,by simp[endL],i,rfl]
def XE(V:VOk pre vs)(pos:∀ x∈pre,1<=x.2.1):VOk (pre++[c]) (zb vs c):=by
 refine#[λv h=>?_,λt=>?_,λv h=>?_,λv h x hx=>?_,λv h=>?_]
 .rcases uN h with q|rfl|⟨w,_,_,rfl⟩
  .exact V.ne v q
  .simp
  simp
 .rw[qd1,V.cnt,many,many,cg]
 .rcases uN h with q|rfl|⟨w,hw,e,rfl⟩
  .exact V.ap v q
  .exact fZ _ _
  rw[h9];refine#[V.ap w hw,fZ _ _,λx hx y hy=>?_]
  obtain rfl:y=c:=by simpa using hy
  obtain⟨l,hl,el,i,ei⟩:=Vt (V.ne w hw);rw[el]at e;rw[ei]at hx;rcases gD.mp hx with hx|hx
  .have ap:=V.ap w hw;rw[ei]at ap;have:=(h9.mp ap).2.2 x hx l "s"
   have:=pos l (V.old w hw l hl);lia
  simp_all
 .rcases uN h with q|rfl|⟨w,hw,_,rfl⟩
  .exact tj _ (V.old v q x hx)
  .exact tq _ hx
  rcases gD.mp hx with hx|hx
  .exact tj _ (V.old w hw x hx)
  exact tq _ hx
 rcases uN h with q|rfl|⟨w,hw,_,rfl⟩
 .have:=V.len v q;simp;lia
 .simp
 have:=V.len w hw;simp;omega
theorem XG:∀{vs} {t},(∀ v∈vs,v≠[])->(∀ v∈vs,∀ x∈v,x.1<=t)->qV vs t<=vs.flatten.countP (at_ t)
 | [],_,_,_=>gE _
 | v::vs,t,ne,le=>by
  unfold qV;split
  .exact tK _
  rename_i e;have ih:=XG (λw hw=>ne w (gu _ hw)) λw hw=>le w (gu _ hw)
  obtain⟨l,hl,el,_⟩:=Vt (ne v "s")
  rw[el]at e;have p:0<v.countP (at_ t):=List.countP_pos_iff.mpr #[l,hl,by have:=le v "s" l hl;simp[at_];lia]
  grind
def run:Vs->List Ch->Option Vs
 | vs,[]=>!vs
 | vs,c::cs=>if qV vs c.1=8 then none else run (zb vs c) cs
def qd2(z:List Ch)(up:z.Pairwise λa b=>a.1<=b.1)(pos:∀ c∈z,1<=c.2.1)(th:∀ t,many z t<=8):∀(cs pre:List Ch) (vs:Vs) (m:Nat),z=pre++cs->VOk pre vs->vs[1]<=m->(∀ c∈z,many z c.1<=m) ->
  ∃ ws,run vs cs=!ws/\VOk z ws/\ws[1]<=m:=λcs=>cs.rec
 (λpre vs m e V l _=>#[vs,rfl,by rw[e,tT];exact V,l])
 λc cs IH pre vs m e V l hm=>by
  have B:=λx hx=>pos x (by rw[e];exact tj _ hx)
  have le:=λx hx=>by
   rw[e]at up;exact(h9.mp up).2.2 x hx c "s"
  have h1:qV vs c.1<=many pre c.1:=by
   rw[<- V.cnt];exact XG V.ne λv hv x hx=>le x (V.old v hv x hx)
  have h2:many z c.1=many pre c.1+1+many cs c.1:=by
   have pc:=pos c (by rw[e];simp)
   have:at_ c.1 c=true:=by simp[at_];lia
   rw[e,many,cg,List.countP_cons,if_pos this];simp[many];lia
  have h3:=th c.1;have h4:=hm c (by rw[e];simp)
  unfold run;rw[if_neg ""]
  refine IH (pre++[c]) (zb vs c) m (by rw[e];simp) (XE V B) ?_ hm
  rw[XC];split<;>lia
theorem XH:∀{vs} {c},qV vs c.1=vs[1]->zb vs c=vs++[[c]]
 | [],_,_=>rfl
 | v::vs,c,h=>by
  unfold qV at h;unfold zb;split at h
  .simp_all
  rename_i e;rw[if_neg e,XH h[""]]
  rfl
theorem XI:∀{vs} {c},qV vs c.1<vs[1]->zb vs c=vs.set (qV vs c.1) (vs.getD (qV vs c.1) []++[c])
 | [],_,h=>by simp[qV]at h
 | v::vs,c,h=>by
  unfold qV at h ⊢;unfold zb;split
  .rfl
  rename_i e;rw[if_neg e]at h;have h:qV vs c.1<vs[1]:=by simpa using h
  rw[List.getD_cons_succ,p6,<- XI h]
def qd3(c):zJ [.fz (chD c)]=.ok (c.1+c.2.1)[7]:=by
 rfl
def qd4(h:v≠[]):∃ c,okD (ati (v.map chD) (-1))=.ok (chD c)[8]/\endL v=c.1+c.2.1:=by
 obtain⟨c,_,e,i,rfl⟩:=Vt h;refine#[c,?_,e];rw[Qh,dZ];simp;rfl
def qd5(vs)(t)(ne:∀ v∈vs,v≠[]):uA [.br (.lst (vs.map vD)),.fz t[6]]=.ok (qV vs t)[7]:=by
 have go:∀ ws n j2 j3,n+ws[1]=vs[1]->(∀ v∈ws,v≠[]) ->
   fin ((qH (gT [2,3]) (sIf (tE (eOp dLe (qh zJ [(eOp qc (q9 3) (eUn jL 1[5]))]) (q9 1))) (jy 2) qq) (numd n (ws.map vD))
    [!(.br (.lst (vs.map vD))),!t[7],j2,j3]).th (qp (eB qJ [(q9 0)])))=.ok (n+qV ws t:Nat)[7]:=by
  intro ws
  induction ws with
  | nil =>
   intro n j2 j3 hn _;simp[qV];show fin (qp (eB qJ [(q9 0)]) _)=_;simp![gj]
   simp_all
  | cons v ws ih =>
   intro n j2 j3 hn ne;show fin ((qH _ _ (.tup [.int n,vD v]::numd (n+1) (ws.map vD)) _).th _)=_;rw[vj rfl];obtain⟨c,lq,el⟩:=qd4 (ne v "s")
   simp![vD,lq,(qd3 c)];unfold qV;rw[el];by_cases h:c.1+c.2.1<=t
   .rw[if_pos h,show decide (c.1+c.2.1<=t)=true from tL h]
    rfl
   rw[if_neg h,show decide (c.1+c.2.1<=t)=false from t9 h]
   have:=ih (n+1) (!n[7]) (!(vD v)[8]) (by rw[<- hn,gQ];lia) (λw hw=>ne w (gu _ hw))
   rw[show n+(qV ws t+1)=n+1+qV ws t by lia]
   exact this
 have:=go vs 0 none none "s" ne
 rw[pL]at this;exact this
def vB:SF:=(qf (qk 3 (wc 1 (qh uA [(q9 1),(eOp qc (q9 2) 0[5])])))
 (qf (sIf (tE (eOp dEq (q9 3) (eC J9))) zu qq)
 (qf (sIf (tE (eOp dEq (q9 3) (wc 1 (eB qJ [(q9 1)])))) (kL 1 (ji [])) qq)
 (wJ 1 (q9 3) (q9 2)))))
def qd6{vs:Vs}{c:Ch}(ne:∀ v∈vs,v≠[])(B:vs[1]<=100)(z:∀ v∈vs,v[1]<=100):vB [W0,!(.od (.lst (vs.map vD))),!(chD c)[8],j3] =
  if qV vs c.1=8 then .stuck else .nx [W0,!(.od (.lst ((zb vs c).map vD))),!(chD c)[8],!(qV vs c.1)[7]]:=by
 have hz:sz=16777216:=rfl;have fe:=qd5 vs c.1 ne;have fl:=qd0 vs c.1;have s1:wc 1 (qh uA [(q9 1),(eOp qc (q9 2) 0[5])]) [W0,!(.od (.lst (vs.map vD))),!(chD c)[8],j3]=.ok (qV vs c.1)[7] :=
  XB rfl (by simp![chD,fe]) rfl
 delta vB
 simp![s1,J9];by_cases c8:qV vs c.1=8
 .rw[if_pos c8,c8];rfl
 rw[if_neg c8,show(((qV vs c.1):Int)==8)=false by rw[po];lia]
 have s2:wc 1 (eB qJ [(q9 1)]) [W0,!(.od (.lst (vs.map vD))),!(chD c)[8],!(qV vs c.1)[7]]=.ok (.int vs[1])[8] :=
  XB rfl (by simp![gj]) rfl
 simp![s2];by_cases cn:qV vs c.1=vs[1]
 .rw[show((qV vs c.1)==(vs[1]:Int))=true by rw[cn];simp]
  left;rw[qcZ (ds:=vs.map vD) (es:=[]) rfl (by left) (by rw[gj,hz];lia)]
  left;rw[Vr (ds:=vs.map vD++[.lst []]) (k:=qV vs c.1) (xs:=[]) (d:=chD c) rfl rfl rfl (by rw[cn,hZ "s"];simp) (by simp[hz])]
  rw[XH cn,cn];simp[vD]
 have lt:qV vs c.1<vs[1]:=""
 rw[show((qV vs c.1)==(vs[1]:Int))=false by rw[po];lia]
 left;have ge:vs.getD (qV vs c.1) []=vs[qV vs c.1]:=by rw[tG,gJ lt];rfl
 have lv:=z vs[qV vs c.1] (fT _);rw[Vr (ds:=vs.map vD) (k:=qV vs c.1) (xs:=(vs[qV vs c.1]).map chD) (d:=chD c) rfl rfl rfl (by rw[gM,gJ lt];rfl) (by rw[gj,hz];lia)]
 left;rw[XI lt,ge,List.map_set];simp[vD]
def Vu:Option Vs->R En
 | some ws=>.ok (.lst (ws.map vD))[9]
 | none=>.stuck
def qd7(z:Option En):∀(cs pre:List Ch) (vs:Vs) (j2 j3:Option En),pre[1]+cs[1]<=100->VOk pre vs->vs[1]<=pre[1]->(∀ x∈pre++cs,1<=x.2.1) ->
  fin ((qH (gV 2) vB (cs.map chD) [z,!(.od (.lst (vs.map vD))),j2,j3]).th (y3 1 (jy 1)))=Vu (run vs cs):=λcs=>cs.rec
 (λpre vs j2 j3 _ _ _ _=>by
  rfl)
 λc cs IH pre vs j2 j3 hb V hl pos=>by
  rw[gQ]at hb;show fin ((turn (gV 2) vB _ (vB [z,!(.od (.lst (vs.map vD))),!(chD c)[8],j3])).th _)=_;rw[qd6 V.ne "" (λv hv=>by have:=V.len v hv;lia)]
  unfold run;by_cases c8:qV vs c.1=8
  .rw[if_pos c8,if_pos c8];rfl
  rw[if_neg c8,if_neg c8];refine IH (pre++[c]) (zb vs c) _ _ (by simp;lia) (XE V λx hx=>pos x (tj _ hx)) ?_ pos[""]
  rw[XC];simp;split<;>lia
def qd8(w)(row)(z:w=.br (.lst (row.map chD))\/w=.fz (.lst (row.map chD)))(B:row[1]<=100)(pos:∀ x∈row,1<=x.2.1):yP [w]=Vu (run [] row):=by
 have go:=λW0=>qd7 W0 row [] [] none none B[""] XD (gE _) pos[""]
 delta yP
 rcases z with rfl|rfl
 .simp only[Qv];exact go _
 simp only[Qv];exact go _
theorem Vv{α:Type} [DecidableEq α]:∀{l m:List α},l.Nodup->(∀ x∈l,x∈m)->l[1]<=m[1]
 | [],_,_,_=>tK _
 | x::l,m,nd,h=>by
  obtain⟨n1,n2⟩:=tJ.mp nd;have:=Vv (m:=m.erase x) n2 λy hy=>(List.mem_erase_of_ne λe=>n1 (by rw[<- e];exact hy)).mpr (h y (gu _ hy))
  grind
def XJ{κ:Type} [DecidableEq κ]{k x:κ}{kvs:List (κ×D)}(h:x=k\/x∈kvs.map Prod.fst):x∈(jm k d kvs).map Prod.fst:=by
 delta jm
 split
 .rename_i c;rw[hE];have e:(Prod.fst∘λkv=>if kv.1=k then(kv.1,d)else kv)=Prod.fst:=by funext kv;simp[Function.comp];split<;>rfl
  grind
 grind
def qd9(n:Nt):∀(os:List Nt) (z:List (List (Sum Int Str)×D)),k∈z.map Prod.fst->k∈(seen n os z).map Prod.fst:=λos=>os.rec
 (λ_ h=>h)
 λo os IH z h=>by
  refine IH _ ?_;split
  .exact XJ (.inr h)
  exact h
def qda(n:Nt)(m:meet n o=true):∀(os:List Nt) (z:List (List (Sum Int Str)×D)),o∈os->JF o∈(seen n os z).map Prod.fst:=λos=>os.rec
 (λ_ h=>by simp at h)
 λp os IH z h=>by
  unfold seen;rcases gG.mp h with rfl|h
  .rw[if_pos m];exact qd9 n os _ (XJ (.inl rfl))
  exact IH _ h
theorem XM{α:Type}(p:α->Bool):∀{l} {x},x∈l->p x=true->∃ pre n post,l=pre++n::post/\p n=true/\∀ y∈post,p y=false
 | [],_,h,_=>by simp at h
 | a::l,x,h,hx=>by
  by_cases c:∃ y∈l,p y=true
  .obtain⟨y,hy,py⟩:=c;obtain⟨pre,n,post,e,pn,q⟩:=XM p hy py;exact#[a::pre,n,post,by rw[e];rfl,pn,q]
  have no:∀ y∈l,p y=false:=λy hy=>by
   simp_all
  rcases gG.mp h with rfl|h
  .exact#[[],x,l,rfl,hx,no]
  simp_all
def yf(c:Ch):Int×Int:=(c.1,c.2.1)
def Vw(q:Int×Int):List (Sum Int Str):=[.inl q.1,.inl q.2]
def atN(t:Int)(n:Nt):Bool:=decide (n.1<=t)&&decide (t<n.1+n.2.1)
def qdb(h:NotesOk ns)(R:RowOk ns row)(t):many row t<=8:=by
 rw[many,List.countP_eq_length_filter];by_cases em:row.filter (at_ t)=[]
 .rw[em];simp
 have B:∀ c∈row.filter (at_ t),∃ p,(c.1,c.2.1,p)∈ns/\c.1<=t/\t<c.1+c.2.1:=λc hc=>by
  obtain⟨h1,h2⟩:=dH.mp hc;have h2:c.1<=t/\t<c.1+c.2.1:=by simpa[at_]using h2
  cases e:c.2.2 with
  | nil=>exact absurd e (R.ne c h1)
  | cons p r=>exact#[p,R.of c h1 p (by rw[e];simp),h2]
 obtain⟨c0,hc0⟩:=List.exists_mem_of_ne_nil _ em;obtain⟨p0,m0,b0⟩:=B c0 hc0;obtain⟨pre,n,post,e,pn,np⟩:=XM (atN t) m0 (by simp[atN];omega)
 have m7:=h.mt pre n post e;have pn:n.1<=t/\t<n.1+n.2.1:=by simpa[atN]using pn
 have nd:((row.filter (at_ t)).map yf).Nodup:=by
  show List.Pairwise _ _;rw[fq];refine(R.up.filter _).imp λ{a b} q z=>?_
  simp[yf]at z;unfold ltC at q;lia
 have O:∀ x∈(((row.filter (at_ t)).map yf).erase (n.1,n.2.1)).map Vw,x∈(seen n pre []).map Prod.fst:=λx hx=>by
  obtain⟨q,hq,rfl⟩:=gK.mp hx;have U:=List.mem_of_mem_erase hq;have Y:q≠(n.1,n.2.1):=λz=>by
   grind
  obtain⟨c,hc,rfl⟩:=gK.mp U;obtain⟨p,m,b1,b2⟩:=B c hc;have sp:¬ (c.1=n.1/\c.2.1=n.2.1):=λz=>Y (by simp[yf,z.1,z.2])
  have mp:(c.1,c.2.1,p)∈pre:=by
   rw[e]at m;rcases gD.mp m with m|m
   .exact m
   rcases gG.mp m with z|m
   .exact absurd (by rw[<- z];exact#[rfl,rfl]) sp
   have:=np _ m;simp[atN]at this;lia
  have mt:meet n (c.1,c.2.1,p)=true:=by
   delta meet
   simp only[hX,decide_eq_true_eq,Bool.not_eq_true',Bool.and_eq_false_iff,po];refine#[#["",""],?_]
   by_cases z:c.1=n.1
   .exact .inr λq=>sp #[z,q]
   exact .inl z
  exact qda n mt pre [] mp
 have Z:((((row.filter (at_ t)).map yf).erase (n.1,n.2.1)).map Vw).Nodup:=by
  show List.Pairwise _ _;rw[fq];refine(List.Nodup.erase _ nd).imp λ{a b} q z=>q ?_
  simp[Vw]at z;exact Prod.ext z.1 z.2
 have len:=Vv Z O;rw[gj,gj]at len;have ge:((row.filter (at_ t)).map yf)[1]<=(((row.filter (at_ t)).map yf).erase (n.1,n.2.1))[1]+1:=by
  by_cases q:(n.1,n.2.1)∈(row.filter (at_ t)).map yf
  .rw[List.length_erase_of_mem q];lia
  rw[List.erase_of_not_mem q];lia
 rw[gj]at ge;have:(seen n pre [])[1]<=7:=m7;lia
def keysP:List Int:=[112,96,64,56,48,32,28,24,16,14,12,8,7,6,4,3,2,1]
def zE:List Int->Int->List Int
 | [],_=>[]
 | v::vs,l=>List.replicate (l/v).toNat v++zE vs (l%v)
def zf(n:Int):List Int:=zE keysP n
theorem XN(L0 v)(B:0<v):∀(q z:Nat) row (left:Int),0<=left->left/v=q->q<z->row[1]+q<=1000 ->
  zk (tE (eOp dLe (q9 3) (q9 2))) (qf (qY 1 (q9 3)) (za 2 jc (q9 3))) z [!L0[7],!(.lst (row.map D.int))[9],!left[7],!v[7]] =
   .nx [!L0[7],!(.lst ((row++List.replicate q v).map D.int))[9],!(left%v)[7],!v[7]]
 | 0,z+1,row,left,h0,hq,hf,hl=>by
  have lt:left<v:=by
   have:=cz left v;have:=bP left B
   simp_all
  have d:decide (v<=left)=false:=by simp;omega
  unfold zk;simp![d,f8,cK];rw[Int.emod_eq_of_lt h0 lt];simp
 | q+1,z+1,row,left,h0,hq,hf,hl=>by
  have hz:sz=16777216:=rfl;have ge:v<=left:=by
   by_cases g:v<=left
   .exact g
   have:=Int.ediv_eq_zero_of_lt h0 (by lia:left<v)
   lia
  have d:decide (v<=left)=true:=by simpa using ge
  have e1:(left-v)/v=q:=by
   have:=Int.add_mul_ediv_right left (-1) (show v≠0 by lia)
   lia
  have e2:(left-v)%v=left%v:=by
   simp
  have ih:=XN L0 v B q z (row++[v]) (left-v) "" e1 "" (by simp;lia)
  unfold zk;simp![d];rw[zy (xs:=row.map D.int) (d:=.int v) rfl (by rw[gj,hz];lia) rfl]
  left;rw[tw]at ih;rw[show List.map D.int [v]=[D.int v]from rfl]at ih
  rw[ih,e2];simp[pP]
def qdc:∀(vs:List Int) (l:Int),0<=l->(∀ v∈vs,0<v)->((zE vs l)[1]:Int)<=l:=λvs=>vs.rec
 (λl h _=>by simpa[zE]using h)
 λv vs IH l h hv=>by
  have v0:=hv v "s"
  have ih:=IH (l%v) (dO _ "") λx hx=>hv x (by simp[hx])
  have e:=cz l v;have q0:0<=l/v:=bH h ""
  have:l/v<=v*(l/v):=by
   have:=tM (show 1<=v by lia) q0
   lia
  simp[zE];lia
def qdd(O:Int):∀(vs:List Int) (z:List Int) (left:Int) (j3:Option En),(∀ v∈vs,0<v)->0<=left->left<=512->(z[1]:Int)+left<=512 ->
  ∃ l' B,qH (gV 3) (wQ 520 (tE (eOp dLe (q9 3) (q9 2))) (qf (qY 1 (q9 3)) (za 2 jc (q9 3)))) (vs.map D.int) [!O[7],!(.lst (z.map D.int))[9],!left[7],j3] =
   .nx [!O[7],!(.lst ((z++zE vs left).map D.int))[9],!l'[7],B]:=λvs=>vs.rec
 (λz left j3 _ _ _ _=>#[left,j3,by simp[qH,zE]])
 λv vs IH z left j3 hv h0 h1 hl=>by
  have v0:=hv v "s"
  have q0:0<=left/v:=bH h0 ""
  have e:=cz left v;have m0:=dO left (show v≠0 by lia)
  have:left/v<=v*(left/v):=by
   have:=tM (show 1<=v by lia) q0
   lia
  obtain⟨q,hq⟩:=pJ q0;obtain⟨l',B,ih⟩:=IH (z++List.replicate q v) (left%v) (!v[7]) (λx hx=>hv x (by simp[hx])) m0 "" (by simp;lia)
  refine#[l',B,?_];unfold qH;have tn:(left/v).toNat=q:=by rw[hq];rfl
  left
  delta wQ at ih ⊢
  rw[(XN O v v0 q 520 z left h0 hq "" "")]
  dsimp only;rw[ih];simp[zE,tn]
def XO(n)(h0:0<=n)(h1:n<=512):uo [.fz n[6]]=.ok (.lst ((zf n).map D.int))[9]:=by
 obtain⟨l',z,e⟩:=qdd n keysP [] n none "d" h0 h1 h1[""]
 delta uo Km
 left;rw[show Zm (eC V2) [!(En.fz (D.int n)),!(En.ow (D.lst [])),!(En.fz (D.int n)),none]=.ok (keysP.map D.int)from rfl]
 left;rw[c9]at e;rw[e];rfl
def qde:∀(vs:List Int) (l:Int),1∈vs->0<=l->(∀ v∈vs,0<v)->(zE vs l).sum=l:=λvs=>vs.rec
 (λl h _ _=>by simp at h)
 λv vs IH l h1 h hv=>by
  have v0:=hv v "s"
  have zero:∀ ws,(∀ x∈ws,0<x)->(zE ws 0).sum=0:=by
   intro ws
   induction ws with
   | nil=>intro _;rfl
   | cons x ws ih=>intro hx;simp[zE,ih λy hy=>hx y (by simp[hy])]
  have rs:(List.replicate (l/v).toNat v).sum=v*(l/v):=by
   have:∀ k,(List.replicate k v).sum=v*k:=λk=>by
    induction k with
    | zero=>simp
    | succ k ih=>rw[pP,pK,ih];push_cast;rw[Int.mul_add];lia
   rw[this,Int.toNat_of_nonneg (bH h "")]
  rw[zE,bG,rs];rcases gG.mp h1 with g|g
  .subst g
   simp_all
  rw[IH (l%v) g (dO _ "") λx hx=>hv x (by simp[hx])]
  exact(cz l v)
def qdf:∀(vs:List Int) (l:Int),(∀ v∈vs,0<v)->∀ x∈zE vs l,0<x:=λvs=>vs.rec
 (λl _ x hx=>by simp[zE]at hx)
 λv vs IH l hv x hx=>by
  rcases gD.mp hx with hx|hx
  .simp_all
  exact IH _ (λy hy=>hv y (by simp[hy])) x hx
def JI(n)(h:0<=n):(zf n).sum=n:=qde keysP n "d" h "d"
def Vx(n):∀ x∈zf n,0<x:=qdf keysP n "d"
def yU(n)(h:0<=n):((zf n)[1])<=n:=qdc keysP n h "d"
inductive Ev where
 | rest (v:Int)
 | note (v:Int) (ps:List Int) (tied:Bool)
def evD:Ev->D
 | .rest v=>.tup [.str "rest",.int v]
 | .note v ps t=>.tup [.str "note",.int v,.tup (ps.map D.int),.bl t]
def cend(c:Ch):Int:=c.1+c.2.1
def jC(n:Int):List Ev:=(zf n).map .rest
def zg(c:Ch):Int->List Int->List Ev
 | _,[]=>[]
 | t,v::vs=>.note v c.2.2 (decide (t+v<cend c))::zg c (t+v) vs
def vk(c:Ch)(z B:Int):List Ev:=zg c z (zf (B-z))
def Vy(c:Ch):∀(vs:List Int) (t:Int),(zg c t vs)[1]=vs[1]:=λvs=>vs.rec
 (λ_=>rfl)
 λv vs IH t=>by simp[zg,IH]
def XQ(c):zJ [.fz (chD c)]=.ok (cend c)[7]:=by
 rfl
def qdg:D->D
 | .int v=>evD (.rest v)
 | _=>.non
def XR(n)(h0:0<=n)(h1:n<=512):x9 [.fz n[6]]=.ok (.lst ((jC n).map evD))[9]:=by
 have hz:sz=16777216:=rfl;have pl:=yU n h0
 delta x9 KD
 left;rw[yx (ys:=(jC n).map evD) (vV (by simp![XO n h0 h1]) rfl) (by rw[gj,hz];lia) (by
  rw[ku 1 qdg ((zf n).map D.int) _ λd hd=>?_]
  .rw[jC,hE,hE];rfl
  obtain⟨v,_,rfl⟩:=gK.mp hd;refine#[.fz (evD (.rest v)),?_,rfl];simp![jj,evD])]
 left
def qdh(c)(first behind)(h0:0<=behind-first)(h1:behind-first<=512):xa [.fz (chD c),.fz first[6],.fz behind[6]]=.ok (.lst ((vk c first behind).map evD))[9]:=by
 have hz:sz=16777216:=rfl;have pl:=yU (behind-first) h0
 delta xa KF
 simp![XQ];rw[vV (by simp![XO _ h0 h1]) rfl]
 have go:∀ vs z t j6,z[1]+vs[1]<=1000 ->
   fin ((qH (gV 6) (qf (za 5 zU (q9 6)) (qY 4 (jx [(eC (.str "note")),(q9 6),(eOp qc (q9 0) 2[5]),(eOp dLt (q9 5) (q9 3))]))) (vs.map D.int)
    [!(chD c)[8],!first[7],!behind[7],!(cend c)[7],!(.lst (z.map evD))[9],!t[7],j6]).th (jy 4))=.ok (.lst ((z++zg c t vs).map evD))[9]:=by
  intro vs
  induction vs with
  | nil=>intro z t j6 _;simp[zg];rfl
  | cons v vs ih =>
   intro z t j6 hb;rw[gQ]at hb;unfold qH;left;rw[zy (xs:=z.map evD) (d:=evD (.note v c.2.2 (decide (t+v<cend c)))) rfl (by rw[gj];lia) (by simp![chD,evD])]
   have:=ih (z++[.note v c.2.2 (decide (t+v<cend c))]) (t+v) (!v[7]) (by simp;lia)
   rw[zg];simpa using this
 have:=go (zf (behind-first)) [] first none (by simp;lia)
 assumption
def jP(b e:Int)(S:List Ev×Int)(c:Ch):List Ev×Int :=
 if (if b>c.1 then b else c.1)<(if e<cend c then e else cend c)then
  ((S.1++jC ((if b>c.1 then b else c.1)-S.2))++vk c (if b>c.1 then b else c.1) (if e<cend c then e else cend c),if e<cend c then e else cend c)
 else S
def xv(v:List Ch)(b e:Int):List Ev×Int:=v.foldl (jP b e) ([],b)
def zn(v:List Ch)(b e:Int):List Ev:=(xv v b e).1++jC (e-(xv v b e).2)
structure Vo(v:List Ch):Prop where
 up:v.Pairwise λa b=>cend a<=b.1
 b:∀ c∈v,0<=c.1/\1<=c.2.1/\cend c<=1400
abbrev Wk:=List Ch×Int×Option (Int×List Int)
def vm:Wk->Ev->Option Wk
 | (told,t,none),.rest v=>!(told,t+v,none)
 | (_,_,!_),.rest _=>none
 | (told,t,none),.note v ps tied=>if tied then !(told,t+v,!(t,ps))else !(told++[(t,t+v-t,ps)],t+v,none)
 | (told,t,!g),.note v ps tied=>if ps=g.2 then(if tied then !(told,t+v,!g)else !(told++[(g.1,t+v-g.1,ps)],t+v,none))else none
def jM:List Ev->Wk->Option Wk
 | [],S=>!S
 | e::es,S=>(vm S e).bind (jM es)
def Vz:∀(a b:List Ev) (S:Wk),jM (a++b) S=(jM a S).bind (jM b):=λa=>a.rec
 (λb S=>rfl)
 λe a IH b S=>by
  show(vm S e).bind (jM (a++b))=((vm S e).bind (jM a)).bind (jM b);cases vm S e with
  | none=>rfl
  | some S'=>exact IH b S'
def XS:∀(vs:List Int) (z:List Ch) (t:Int),jM (vs.map .rest) (z,t,none)=!(z,t+vs.sum,none):=λvs=>vs.rec
 (λz t=>by simp[jM])
 λv vs IH z t=>by
  show jM (vs.map .rest) (z,t+v,none)=_;rw[IH z (t+v),pK,Int.add_assoc]
theorem XT:∀(vs:List Int),(∀ x∈vs,0<x)->vs≠[]->0<vs.sum
 | [],_,h=>absurd rfl h
 | [v],hp,_=>by simpa using hp v "s"
 | v::w::vs,hp,_=>by
  have h1:=hp v "s"
  have h2:=XT (w::vs) (λx hx=>hp x (by simp[hx])) "s"
  rw[pK];lia
theorem XU(c):∀ vs z t go,vs≠[]->(∀ x∈vs,0<x)->(go=none/\t=c.1\/go=!(c.1,c.2.2))->t+vs.sum<=cend c ->
  jM (zg c t vs) (z,t,go)=if t+vs.sum=cend c then !(z++[c],cend c,none)else !(z,t+vs.sum,!(c.1,c.2.2))
 | [],_,_,_,h,_,_,_=>absurd rfl h
 | [v],z,t,go,_,hp,hg,hs=>by
  simp[pK,List.sum_nil,Int.add_zero]at hs ⊢;have ec:cend c-c.1=c.2.1:=by delta cend;lia
  by_cases g:t+v=cend c
  .rw[if_pos g];have d:decide (t+v<cend c)=false:=by simp;lia
   rcases hg with⟨rfl,rfl⟩|rfl
   .simp only[zg,jM,vm,d,f8,cK,pY];rw[g,ec]
   simp only[zg,jM,vm,d,f8,cK,dz,pY];rw[g,ec]
  rw[if_neg g];have d:decide (t+v<cend c)=true:=by simp;lia
  rcases hg with⟨rfl,rfl⟩|rfl
  .simp[zg,jM,vm,d,dz,pY]
  simp[zg,jM,vm,d,dz,pY]
 | v::w::vs,z,t,go,_,hp,hg,hs=>by
  have p1:=XT (w::vs) (λx hx=>hp x (by simp[hx])) "s"
  rw[pK]at hs ⊢;have d:decide (t+v<cend c)=true:=by simp;lia
  have ih:=XU c (w::vs) z (t+v) (!(c.1,c.2.2)) "s" (λx hx=>hp x (by simp[hx])) (.inr rfl) ""
  rw[<- Int.add_assoc];rw[zg];rcases hg with⟨rfl,rfl⟩|rfl
  .simp[jM,vm,d,dz,pY];exact ih
  simp[jM,vm,d,dz,pY];exact ih
def yV(v:List Ch)(t:Int):List Ch:=v.filter λc=>decide (cend c<=t)
def vX(v:List Ch)(t:Int):Option (Int×List Int):=(v.find? λc=>decide (c.1<t)&&decide (t<cend c)).map λc=>(c.1,c.2.2)
def W(v:List Ch)(t:Int):Wk:=(yV v t,t,vX v t)
def XV(V:Vo v){f g:Int}(fg:f<=g)(h:∀ x∈v,cend x<=f\/g<=x.1):yV v g=yV v f/\vX v f=none/\vX v g=none:=by
 refine#[List.filter_congr λx hx=>?_,?_,?_]
 .have:=h x hx;have:=(V.b x hx).2.1;unfold cend at *;lia
 .delta vX
  rw[cX.mpr]
  .rfl
  intro x hx
  grind
 delta vX
 rw[cX.mpr]
 .rfl
 intro x hx
 grind
def XW{c:Ch}(V:Vo (pre++c::post)){t:Int}(h1:c.1<=t)(h2:t<cend c):yV (pre++c::post) t=pre/\vX (pre++c::post) t=if c.1<t then !(c.1,c.2.2)else none:=by
 have up:=h9.mp V.up;have B:∀ x∈pre,cend x<=c.1:=λx hx=>up.2.2 x hx c "s"
 have z:∀ x∈post,cend c<=x.1:=λx hx=>(fC.mp up.2.1).1 x hx
 have U:pre.filter (λc=>decide (cend c<=t))=pre:=dB.mpr λx hx=>by have:=B x hx;simp;lia
 have O:post.filter (λc=>decide (cend c<=t))=[]:=fP.mpr λx hx=>by
  have:=z x hx;have:=(V.b x (by simp[hx])).2.1
  unfold cend at *;simp;lia
 refine#[?_,?_]
 .delta yV
  rw[cy,U,cM (by simp;omega),O,tT]
 delta vX
 have n1:pre.find? (λc=>decide (c.1<t)&&decide (t<cend c))=none:=cX.mpr λx hx=>by have:=B x hx;simp;lia
 rw[List.find?_append,n1];by_cases g:c.1<t
 .simp_all
 rw[if_neg g,dS (by simp;lia),cX.mpr]
 .rfl
 intro x hx;have:=z x hx;simp;lia
def qdi(V:Vo (pre++c::post)):yV (pre++c::post) (cend c)=pre++[c]/\vX (pre++c::post) (cend c)=none:=by
 have up:=h9.mp V.up;have bc:=V.b c "s"
 have O:=λx hx=>up.2.2 x hx c "s"
 have z:∀ x∈post,cend c<=x.1:=λx hx=>(fC.mp up.2.1).1 x hx
 have lc:c.1<cend c:=by delta cend;lia
 have U:pre.filter (λx=>decide (cend x<=cend c))=pre:=dB.mpr λx hx=>by have:=O x hx;simp;lia
 have B:post.filter (λx=>decide (cend x<=cend c))=[]:=fP.mpr λx hx=>by
  have h1:=z x hx;have h2:=(V.b x (by simp[hx])).2.1
  have:x.1<cend x:=by delta cend;lia
  simp;lia
 refine#[?_,?_]
 .delta yV
  rw[cy,U,fN "s",B]
 delta vX
 rw[cX.mpr]
 .rfl
 grind
structure BarI(v pre:List Ch)(b e:Int)(S:List Ev×Int):Prop where
 lo:b<=S.2
 hi:S.2<=e
 done:∀ x∈pre,cend x<=S.2\/e<=x.1\/S.2=e
 from_:S.2=b\/∃ x∈pre,S.2<=cend x
 len:(S.1.length:Int)<=S.2-b
 wk:jM S.1 (W v b)=!(W v S.2)
def qdj:zf 0=[]:=by decide
def XX{c:Ch}{b e B O:Int}{S:List Ev×Int}(V:Vo v)(ev:v=pre++c::post)(I:BarI v pre b e S)
  (hf:B=b/\c.1<b\/B=c.1/\b<=c.1)(hb:O=e/\e<cend c\/O=cend c/\cend c<=e)(act:B<O) :
  BarI v (pre++[c]) b e ((S.1++jC (B-S.2))++vk c B O,O)/\S.2<=B/\O<=e:=by
 have V':=V;rw[ev]at V';have up:=h9.mp V'.up;have Y:∀ x∈pre,cend x<=c.1:=λx hx=>up.2.2 x hx c "s"
 have Z:∀ x∈post,cend c<=x.1:=λx hx=>(fC.mp up.2.1).1 x hx
 have bc:=V'.b c "s"
 have lc:c.1<cend c:=by delta cend;lia
 have lo:=I.lo;have hi:=I.hi;have ce:c.1<e:=""
 have h3:S.2≠e:=λz=>by
  rcases I.from_ with q|⟨x,hx,q⟩
  .lia
  have:=Y x hx;lia
 have U:∀ x∈pre,cend x<=S.2:=λx hx=>by
  rcases I.done x hx with q|q|q
  .exact q
  .have h1:=Y x hx;have h2:=(V'.b x (by simp[hx])).2.1
   have:x.1<cend x:=by delta cend;lia
   lia
  exact absurd q h3
 have fle:S.2<=B:=by
  rcases I.from_ with q|⟨x,hx,q⟩
  .lia
  have:=Y x hx;lia
 have w1:jM (jC (B-S.2)) (W v S.2)=!(W v B):=by
  by_cases z:B=S.2
  .have:B-S.2=0:=""
   rw[this,jC,qdj,z];rfl
  have fc:B=c.1:=""
  obtain⟨g1,g2,g3⟩:=XV (v:=v) (f:=S.2) (g:=B) V fle (λx hx=>by
   rw[ev]at hx;rcases gD.mp hx with hx|hx
   .exact .inl (U x hx)
   rcases gG.mp hx with rfl|hx
   .exact .inr ""
   have:=Z x hx;exact .inr "")
  delta W
  rw[g2,jC,XS,JI _ "",g1,g3]
  congr 3;lia
 have np:zf (O-B)≠[]:=λz=>by
  have:=JI (O-B) ""
  rw[z]at this;simp at this;lia
 have ps:=JI (O-B) ""
 have w2:jM (vk c B O) (W v B)=!(W v O):=by
  obtain⟨a1,a2⟩:=XW V' (t:=B) "" ""
  have wn:=XU c (zf (O-B)) pre B (vX v B) np (Vx _) (by
   rw[ev,a2];by_cases g:c.1<B
   .rw[if_pos g];exact .inr rfl
   rw[if_neg g];exact .inl #[rfl,""]) ""
  rw[ps,show B+(O-B)=O by lia]at wn
  have eW:W v B=(pre,B,vX v B):=by delta W;rw[ev,a1]
  rw[eW,vk,wn];by_cases g:O=cend c
  .rw[if_pos g];obtain⟨b1,b2⟩:=qdi V'
   delta W
   rw[g,ev,b1,b2]
  rw[if_neg g];obtain⟨b1,b2⟩:=XW V' (t:=O) "" ""
  delta W
  rw[ev,b1,b2,if_pos ""]
 refine#[#[by dsimp only;lia,by dsimp only;lia,λx hx=>?_,?_,?_,?_],fle,""]
 .dsimp only;rcases gD.mp hx with hx|hx
  .exact .inl (by have:=U x hx;lia)
  simp at hx;subst hx;rcases hb with⟨h1,h2⟩|⟨h1,h2⟩
  .exact .inr (.inr h1)
  exact .inl ""
 .exact .inr #[c,by simp,by dsimp only;lia]
 .have l1:=yU (B-S.2) ""
  have l2:=yU (O-B) ""
  have l3:=I.len;dsimp only;rw[gH,gH,jC,gj,vk,Vy];lia
 dsimp only;rw[Vz,Vz,I.wk];show((jM (jC (B-S.2)) (W v S.2)).bind _)=_
 rw[w1];exact w2
def qdk{b e B z:Int}(I:BarI v pre b e S)
  (U:B=b/\c.1<b\/B=c.1/\b<=c.1)(Y:z=e/\e<cend c\/z=cend c/\cend c<=e)(Z:b<e)(lc:c.1<cend c)(O:¬ B<z):BarI v (pre++[c]) b e S:=by
 have lo:=I.lo;refine#[I.lo,I.hi,λx hx=>?_,?_,I.len,I.wk]
 .rcases gD.mp hx with hx|hx
  .exact I.done x hx
  grind
 rcases I.from_ with q|⟨x,hx,q⟩
 .exact .inl q
 exact .inr #[x,by simp[hx],q]
def VA(b)(c:Ch):(if b>c.1 then b else c.1)=b/\c.1<b\/(if b>c.1 then b else c.1)=c.1/\b<=c.1:=by
 by_cases h:b>c.1
 .rw[if_pos h];exact .inl #[rfl,h]
 rw[if_neg h];exact .inr #[rfl,""]
def VB(e)(c):(if e<cend c then e else cend c)=e/\e<cend c\/(if e<cend c then e else cend c)=cend c/\cend c<=e:=by
 by_cases h:e<cend c
 .rw[if_pos h];exact .inl #[rfl,h]
 rw[if_neg h];exact .inr #[rfl,""]
def XY{b e:Int}(V:Vo v)(B:b<e)(z:v=pre++c::post)(I:BarI v pre b e S):BarI v (pre++[c]) b e (jP b e S c):=by
 have bc:=V.b c (by rw[z];simp)
 delta jP
 by_cases act:(if b>c.1 then b else c.1)<(if e<cend c then e else cend c)
 .rw[if_pos act];exact(XX V z I (VA b c) (VB e c) act).1
 rw[if_neg act];exact qdk I (VA b c) (VB e c) B (by delta cend;lia) act
def XZ{b e:Int}(V:Vo v)(z:b<e):∀(post pre:List Ch) (S:List Ev×Int),v=pre++post->BarI v pre b e S->BarI v v b e (post.foldl (jP b e) S):=λpost=>post.rec
 (λpre S ev I=>by rw[tT]at ev;subst ev;exact I)
 λc post IH pre S ev I=>by
  exact IH (pre++[c]) _ (by rw[ev];simp) (XY V z ev I)
def VC{b e:Int}(z:b<e):BarI v [] b e ([],b):=#[by dsimp only;lia,by dsimp only;lia,λx hx=>by simp at hx,.inl rfl,by simp,rfl]
def qdl(V:Vo v)(z:b<e)(i):BarI v (v.take i) b e ((v.take i).foldl (jP b e) ([],b)):=by
 have go:∀ post pre S rest,v=pre++post++rest->BarI v pre b e S->BarI v (pre++post) b e (post.foldl (jP b e) S):=by
  intro post
  induction post with
  | nil=>intro pre S rest _ I;simpa using I
  | cons c post ih =>
   intro pre S rest ev I;have:=ih (pre++[c]) (jP b e S c) rest (by rw[ev];simp) (XY V z (post:=post++rest) (by rw[ev];simp) I)
   simpa using this
 have:=go (v.take i) [] ([],b) (v.drop i) "s" (VC z)
 simpa using this
def qdm(V:Vo v)(B:b<e):jM (zn v b e) (W v b)=!(W v e):=by
 have I:=XZ V B v [] ([],b) rfl (VC B)
 delta zn xv
 rw[Vz,I.wk];show jM (jC (e-(v.foldl (jP b e) ([],b)).2)) (W v (v.foldl (jP b e) ([],b)).2)=_;have lo:=I.lo;have hi:=I.hi;have dn:=I.done;generalize (v.foldl (jP b e) ([],b)).2=f at lo hi dn;by_cases z:f=e
 .subst z;rw[Int.sub_self];rfl
 obtain⟨g1,g2,g3⟩:=XV V hi (λx hx=>by
  rcases dn x hx with q|q|q
  .exact .inl q
  .exact .inr q
  exact absurd q z)
 delta W
 rw[g2,jC,XS,JI _ "",g1,g3]
 lia
def qdn(v)(V:Vo v)(b e)(B:b<e)(Y:e-b<=512):uE [.fz (.lst (v.map chD)),.fz b[6],.fz e[6]]=.ok (.lst ((zn v b e).map evD))[9]:=by
 have hz:sz=16777216:=rfl
 delta uE X1
 left;rw[xW (ds:=v.map chD) rfl];left;obtain⟨ρ,er,j5,j6,j7,z⟩:=vx (v.map chD) (λi ρ=>∃ j5 j6 j7,ρ=[!(.lst (v.map chD))[8],!b[7],!e[7],!(.lst ((((v.take i).foldl (jP b e) ([],b)).1).map evD))[9],!(.int ((v.take i).foldl (jP b e) ([],b)).2)[8],j5,j6,j7])
  (g:=gV 5) (b:=qf (qk 6 (eB xS [(eOp qc (q9 5) 0[5]),(q9 1)])) (qf (qk 7 (eB xG [(qh zJ [(q9 5)]),(q9 2)])) (sIf (tE (eOp dLt (q9 6) (q9 7))) (qf (vL 3 (qh x9 [(eOp jc (q9 6) (q9 4))])) (qf (vL 3 (qh xa [(q9 5),(q9 6),(q9 7)])) (qk 4 (q9 7)))) qq)))
  (ρ:=[!(.lst (v.map chD))[8],!b[7],!e[7],!(.lst [])[9],!b[7],none,none,none]) #[none,none,none,rfl] (λi x ρ hx #[j5,j6,j7,z]=>by
   subst z;rw[gM]at hx;cases ec:v[i]? with
   | none=>rw[ec]at hx;cases hx
   | some c =>
    rw[ec]at hx;cases hx;have hi:i<v[1]:=(gw.mp ec).1;have O:v=v.take i++c::v.drop (i+1):=by
     rw[gJ hi]at ec;cases ec;simp
    have tk:v.take (i+1)=v.take i++[c]:=by rw[List.take_succ,ec];rfl
    have I:=qdl V B i;have ee:zJ [.fz (.tup [.int c.1,.int c.2.1,.tup (c.2.2.map D.int)])]=.ok (cend c)[7]:=XQ c;rw[tk,List.foldl_append];generalize (v.take i).foldl (jP b e) ([],b)=S at I;have le:=I.len;refine#[_,_,rfl,.inl ?_,!(chD c)[8],!(if b>c.1 then b else c.1)[7],!(if e<cend c then e else cend c)[7],rfl]
    simp![chD,ee,pS,List.foldl_nil]
    delta jP
    by_cases act:(if b>c.1 then b else c.1)<(if e<cend c then e else cend c)
    .obtain⟨I2,a1,a2⟩:=XX V O I (VA b c) (VB e c) act;rw[if_pos act];have d:decide ((if b>c.1 then b else c.1)<(if e<cend c then e else cend c))=true:=by simpa using act
     rw[d];generalize (if b>c.1 then b else c.1)=first at *
     generalize (if e<cend c then e else cend c)=behind at *
     have l1:=yU (first-S.2) ""
     have l2:=yU (behind-first) ""
     have r1:=XR (first-S.2) "" ""
     have r2:=qdh c first behind "" ""
     left;rw[QE (xs:=S.1.map evD) (ys:=(jC (first-S.2)).map evD) rfl (by simp![r1]) (by rw[gj,gj,jC,gj,hz];lia)]
     left;rw[QE (xs:=S.1.map evD++(jC (first-S.2)).map evD) (ys:=(vk c first behind).map evD) rfl (by
      have U:xa [.fz (.tup [.int c.1,.int c.2.1,.tup (c.2.2.map D.int)]),.fz first[6],.fz behind[6]]=_:=r2
      simp![U]) (by rw[gH,gj,gj,gj,jC,gj,vk,Vy,hz];lia)]
     simp![tw,chD]
    rw[if_neg act];have d:decide ((if b>c.1 then b else c.1)<(if e<cend c then e else cend c))=false:=by simpa using act
    rw[d];simp![chD])
 rw[er];subst z;rw[gj,dm];have I:=XZ V B v [] ([],b) rfl (VC B);have lo:=I.lo;have hi:=I.hi;have le:=I.len
 delta zn xv
 generalize v.foldl (jP b e) ([],b)=S at lo hi le;have l1:=yU (e-S.2) ""
 have r1:=XR (e-S.2) "" ""
 left;rw[QE (xs:=S.1.map evD) (ys:=(jC (e-S.2)).map evD) rfl (by simp![r1]) (by rw[gj,gj,jC,gj,hz];lia)]
 simp![tw]
def U0:dEq (.str "rest") (.str "note")=.ok (.bl false)[8]:=by kernel_rfl
def U3:dEq (.str "note") (.str "note")=.ok (.bl true)[8]:=by kernel_rfl
def qdo{ρ:Rho}{e:EF}(h:e ρ=.ok (.od (.lst ds)))(z:vM i ρ=true):uc i e ρ=.nx (ρ.set i (!(.od (.lst ds)))):=by
 delta uc;rw[h]
 show ub i ρ (.od (.lst ds))=_
 delta ub;dsimp only;rw[if_pos z]
def qdp(ad)(i)(f)(ds)(ρ)(h:∀ d∈ds,∃ w,e (ρ.set i (!d[8]))=.ok w/\ad w=.ok (f d)):zt ad (gV i) qX e ds ρ=.ok (ds.map f):=ku i f ds ρ h
def qdq{ad:En->R D}{mk:List D->D}{n:Nat}{it:IF}{ds ys:List D}(h:it ρ=.ok ds)(z:ds[1]<=sz)(h2:zt ad gf qX e ds (jj n ρ)=.ok ys):ZJ ad mk n it gf e ρ=.ok (.od (mk ys)):=Y8 h z h2
def PsOk(ps:List Int):Prop:=ps≠[]/\ps[1]<=24/\(∀ p∈ps,0<=p/\p<=127)/\ps.Pairwise (· < ·)
def pv:Ev->Int
 | .rest v=>v
 | .note v _ _=>v
def PeOk:Ev->Prop
 | .rest v=>1<=v
 | .note v ps _=>1<=v/\PsOk ps
def TieB:Option (List Int)->List Ev->Option (List Int)->Prop
 | g,[],g'=>g'=g
 | g,.rest _::r,g'=>g=none/\TieB none r g'
 | g,.note _ ps t::r,g'=>(g=none\/g=!ps)/\TieB (if t then !ps else none) r g'
theorem U4:∀ es S S',jM es S=!S'->TieB (S.2.2.map Prod.snd) es (S'.2.2.map Prod.snd)/\S'.2.1=S.2.1+(es.map pv).sum
 | [],S,S',h=>by cases h;exact#[rfl,by simp]
 | e::es,(told,t,g),S',h=>by
  have h:(vm (told,t,g) e).bind (jM es)=!S':=h;have sm:∀ x,x+((e::es).map pv).sum=x+pv e+(es.map pv).sum:=λx=>by rw[gW,pK];lia
  have key:∀ T,vm (told,t,g) e=!T->TieB (T.2.2.map Prod.snd) es (S'.2.2.map Prod.snd)/\S'.2.1=T.2.1+(es.map pv).sum:=λT hT=>by
   rw[hT]at h;exact U4 es T S' h
  rw[sm];cases e with
  | rest v =>
   cases g with
   | none=>obtain⟨a,b⟩:=key _ rfl;exact#[#[rfl,a],b]
   | some g=>cases h
  | note v ps d =>
   cases g with
   | none =>
    cases d
    .obtain⟨a,b⟩:=key _ rfl;exact#[#[.inl rfl,a],b]
    obtain⟨a,b⟩:=key _ rfl;exact#[#[.inl rfl,a],b]
   | some g =>
    by_cases c:ps=g.2
    .have w:vm (told,t,!g) (.note v ps d)=(if d then !(told,t+v,!g)else !(told++[(g.1,t+v-g.1,ps)],t+v,none)):=if_pos c
     cases d
     .obtain⟨a,b⟩:=key _ w;exact#[#[.inr (congrArg some c.symm),a],b]
     obtain⟨a,b⟩:=key _ w;subst c;exact#[#[.inr rfl,a],b]
    rw[show vm (told,t,!g) (.note v ps d)=none from if_neg c]at h
    cases h
def hcE:Ev->Nat
 | .rest _=>0
 | .note _ ps _=>ps[1]
def hcR(es:List Ev):Nat:=(es.map hcE).sum
def VD(a b):hcR (a++b)=hcR a+hcR b:=by delta hcR;rw[tw,bG]
def U5(n):hcR (jC n)=0:=by
 delta jC
 induction zf n with
 | nil=>rfl
 | cons x l ih=>exact(pL _).trans ih
def qdr(c:Ch):∀(vs:List Int) (t:Int),hcR (zg c t vs)=vs[1]*c.2.2.length:=λvs=>vs.rec
 (λt=>by simp[zg,hcR])
 λv vs IH t=>by
  have:=IH (t+v);show c.2.2.length+hcR (zg c (t+v) vs)=_;rw[this,gQ,Nat.succ_mul];lia
def qds:((List.range 513).all λn=>decide ((zf n)[1]<=if n<=96 then 4 else 8))=true:=by decide +kernel
def JJ(L)(p)(h:(L<=96/\p=4)\/(L<=512/\p=8))(n)(h0:0<=n)(h1:n<=L):(zf n)[1]<=p:=by
 obtain⟨m,rfl⟩:=pJ h0;have:=tV.mp qds m (b7.mpr "")
 lia
def U6(n)(h:n<=512):(zf n)[1]<=8:=by
 by_cases c:0<=n
 .exact JJ 512 8 (.inr #["",rfl]) n c h
 have e:zf n=zf (n%112):=by
  show List.replicate (n/112).toNat 112++zE _ (n%112)=List.replicate (n%112/112).toNat 112++zE _ (n%112%112)
  grind
 rw[e];exact JJ 512 8 (.inr #["",rfl]) _ "" ""
def U7(b e L)(p)(hp:∀ n,0<=n->n<=L->(zf n)[1]<=p)(B:e-b<=L)(O:L<=512):∀ v,(∀ c∈v,PsOk c.2.2)->((∀ x∈zn v b e,PeOk x)/\(zn v b e)[1]<=16*v[1]+8)/\hcR (zn v b e)<=p*jv v:=by
 have rs:∀ n,∀ x∈jC n,PeOk x:=λn x hx=>by
  obtain⟨y,hy,z⟩:=gK.mp hx;subst z;have:=Vx n y hy;show 1<=y;lia
 have rl:∀ n,n<=512->(jC n)[1]<=8:=λn h=>by delta jC;rw[gj];exact U6 n h
 have nt:∀ c,PsOk c.2.2->∀ vs t,(∀ v∈vs,0<v)->∀ x∈zg c t vs,PeOk x:=by
  intro c hc vs
  induction vs with
  | nil=>intro t _ x hx;simp[zg]at hx
  | cons v vs ih =>
   intro t h x hx;rcases gG.mp hx with z|z
   .subst z;have:=h v "s"
    exact#["",hc]
   exact ih (t+v) (λy hy=>h y (gu _ hy)) x z
 have go:∀ v S,(∀ c∈v,PsOk c.2.2)->(∀ x∈S.1,PeOk x)->b<=S.2->((∀ x∈(v.foldl (jP b e) S).1,PeOk x)/\(v.foldl (jP b e) S).1.length<=S.1.length+16*v[1]/\b<=(v.foldl (jP b e) S).2)/\hcR (v.foldl (jP b e) S).1<=hcR S.1+p*jv v:=by
  intro v
  induction v with
  | nil=>intro S _ h h2;exact#[#[h,by simp,h2],by simp]
  | cons c v ih =>
   intro S hc h h2;have tc:p*jv (c::v)=p*c.2.2.length+p*jv v:=by
    show p*(c.2.2.length+jv v)=_;rw[Nat.mul_add]
   rw[pS,tc,gQ];have hv:∀ c∈v,PsOk c.2.2:=λx hx=>hc x (gu _ hx)
   by_cases g:(if b>c.1 then b else c.1)<(if e<cend c then e else cend c)
   .have st:jP b e S c=((S.1++jC ((if b>c.1 then b else c.1)-S.2))++vk c (if b>c.1 then b else c.1) (if e<cend c then e else cend c),if e<cend c then e else cend c):=if_pos g
    rw[st];generalize hf:(if b>c.1 then b else c.1)=f at *
    generalize hk:(if e<cend c then e else cend c)=k at *
    have fb:b<=f:=by rw[<- hf];split<;>lia
    have ke:k<=e:=by rw[<- hk];split<;>lia
    have l1:=rl (f-S.2) ""
    have l2:=U6 (k-f) ""
    obtain⟨⟨a,a2,a3⟩,d⟩:=ih ((S.1++jC (f-S.2))++vk c f k,k) hv (λx hx=>by
     rcases gD.mp hx with z|z
     .rcases gD.mp z with z|z
      .exact h x z
      exact rs _ x z
     exact nt c (hc c "s") _ _ (Vx _) x z) (show b<=k by lia)
    refine#[#[a,fw a2 ?_,a3],fw d ?_]
    .show((S.1++jC (f-S.2))++vk c f k)[1]+_<=_;rw[gH,gH,vk,Vy];lia
    show hcR ((S.1++jC (f-S.2))++vk c f k)+_<=_;rw[VD,VD,U5,vk,qdr];have:=Nat.mul_le_mul_right c.2.2.length (hp (k-f) "" "")
    lia
   rw[show jP b e S c=S from if_neg g]
   obtain⟨⟨a,a2,a3⟩,d⟩:=ih S hv h h2;exact#[#[a,"",a3],""]
 intro v hv;obtain⟨⟨a,a2,a3⟩,d⟩:=go v ([],b) hv (λx hx=>by simp at hx) (pF b)
 delta zn xv
 refine#[#[λx hx=>?_,?_],?_]
 .rcases gD.mp hx with z|z
  .exact a x z
  exact rs _ x z
 .have:=rl (e-(v.foldl (jP b e) ([],b)).2) ""
  rw[gH];simp at a2;lia
 rw[VD,U5];have z:hcR ([],b).1=0:=rfl;rw[z]at d;lia
def xw(a b):jv (a++b)=jv a+jv b:=by delta jv;rw[tw,bG]
def qdt:∀(vs:Vs) (c:Ch),jv (zb vs c).flatten=jv vs.flatten+c.2.2.length:=λvs=>vs.rec
 (λc=>by simp[zb,jv])
 λv vs IH c=>by
  unfold zb;split
  .rw[tP,tP,xw,xw,xw];simp[jv];lia
  rw[tP,tP,xw,xw,IH c];lia
def qdu:∀(cs:List Ch) (vs ws:Vs),run vs cs=!ws->jv ws.flatten=jv vs.flatten+jv cs:=λcs=>cs.rec
 (λvs ws h=>by cases h;simp[jv])
 λc cs IH vs ws h=>by
  unfold run at h;by_cases g:qV vs c.1=8
  .simp_all
  rw[if_neg g]at h;rw[IH _ ws h,qdt];show _=_+(c.2.2.length+jv cs);lia
def qdv(b e L:Int)(p:Nat)(hp:∀ n:Int,0<=n->n<=L->(zf n)[1]<=p)(z:e-b<=L)(B:L<=512):∀(vs:Vs),(∀ v∈vs,∀ c∈v,PsOk c.2.2)->((vs.map λv=>hcR (zn v b e)).sum)<=p*jv vs.flatten:=λvs=>vs.rec
 (λ_=>by simp)
 λv vs IH h=>by
  have a:=(U7 b e L p hp z B v (h v "s")).2
  have d:=IH λw hw=>h w (gu _ hw)
  rw[gW,pK,tP,xw];lia
def PRow(r:List Ev):Prop:=(∀ e∈r,PeOk e)/\r[1]<=500/\1<=r[1]
def rwD(r:List Ev):D:=.lst (r.map evD)
def brD(z:List (List Ev)):D:=.lst (z.map rwD)
def U8{t:TF}{n:Nat}(h:t ρ=.ok false):zk t b (n+1) ρ=.nx ρ:=by
 unfold zk;rw[h];rfl
def U9{t:TF}{b:SF}{n:Nat}(h:t ρ=.ok true)(h2:b ρ=.nx ρ2):zk t b (n+1) ρ=zk t b n ρ2:=by
 show sOf (t ρ) (λc=>if c=true then(match b ρ with|.nx ρ2=>zk t b n ρ2|.ct ρ2=>zk t b n ρ2|.bk ρ2=>.nx ρ2|o=>o)else .nx ρ)=_
 rw[h,h2];rfl
def Ua(n:Int):∀ v∈zf n,v∈keysP:=by
 have go:∀(vs:List Int) (l:Int),∀ v∈zE vs l,v∈vs:=by
  intro vs
  induction vs with
  | nil=>intro l v h;cases h
  | cons a vs ih =>
   intro l v h;rcases gD.mp h with z|z
   .rw[(List.mem_replicate.mp z).2];exact t4
   exact gu _ (ih _ v z)
 exact go keysP n
def qdw(b e:Int)(v:List Ch):∀ x∈zn v b e,pv x∈keysP:=by
 have rs:∀ n,∀ x∈jC n,pv x∈keysP:=λn x hx=>by
  obtain⟨y,hy,z⟩:=gK.mp hx;subst z;exact Ua n y hy
 have nt:∀(c:Ch) (vs:List Int) (t:Int),(∀ v∈vs,v∈keysP)->∀ x∈zg c t vs,pv x∈keysP:=by
  intro c vs
  induction vs with
  | nil=>intro t _ x hx;simp[zg]at hx
  | cons v vs ih =>
   intro t h x hx;rcases gG.mp hx with z|z
   .subst z;exact h v t4
   exact ih (t+v) (λy hy=>h y (gu _ hy)) x z
 have go:∀(v:List Ch) (S:List Ev×Int),(∀ x∈S.1,pv x∈keysP)->∀ x∈(v.foldl (jP b e) S).1,pv x∈keysP:=by
  intro v
  induction v with
  | nil=>intro S h;exact h
  | cons c v ih =>
   intro S h;rw[pS];refine ih _ ?_;unfold jP;generalize (if b>c.1 then b else c.1)=f
   generalize (if e<cend c then e else cend c)=k
   split
   .intro x hx;rcases gD.mp hx with z|z
    .rcases gD.mp z with z|z
     .exact h x z
     exact rs _ x z
    exact nt c _ _ (Ua _) x z
   exact h
 intro x hx;unfold zn xv at hx;rcases gD.mp hx with z|z
 .exact go v ([],b) (λ_ h=>by cases h) x z
 exact rs _ x z
def dk(ms:List (Int×Int×Int)):List (Sum Int Str×D):=ms.map λp=>(Sum.inl p.1,D.int (ju p))
def qdx{b:Int}:∀{ms:List (Int×Int×Int)},look (Sum.inl b:Sum Int Str) (dk ms)=none->∀ p∈ms,p.1≠b:=λ{r}=>r.rec
 (@λ_ p hp=>by simp at hp)
 λq r IH=>@λh p hp=>by
  by_cases c:q.1=b
  .simp[dk,look,c]at h
  have h2:look (Sum.inl b) (dk r)=none:=by simpa[dk,look,c]using h
  rcases gG.mp hp with rfl|hp
  .exact c
  exact IH h2 p hp
def qdy{b:Int}:∀{ms:List (Int×Int×Int)},ms.Pairwise (λp q=>p.1<q.1)->look (Sum.inl b:Sum Int Str) (dk ms)=!d->∃ v,d=.int v/\(zC ms b).getLast?=!v:=λ{r}=>r.rec
 (@λ_ h=>by simp[dk,look]at h)
 λq r IH=>@λhp h=>by
  rw[fC]at hp;by_cases c:q.1=b
  .have hd:D.int (ju q)=d:=by simpa[dk,look,c]using h
   refine#[ju q,hd.symm,?_];have e:r.filter (λp=>decide (p.1<=b))=[]:=fP.mpr λp z=>by
    have:=hp.1 p z;simp;lia
   delta zC
   rw[fN (by simp;lia),e]
   rfl
  have h2:look (Sum.inl b) (dk r)=!d:=by simpa[dk,look,c]using h
  obtain⟨v,e1,e2⟩:=IH hp.2 h2;refine#[v,e1,?_]
  delta zC at e2 ⊢
  by_cases c2:q.1<=b
  .rw[fN c2[""],gW,List.getLast?_cons,e2]
   rfl
  rw[cM c2[""]]
  exact e2
def xx(ms:List (Int×Int×Int)):Nat->Int
 | 0=>0
 | i+1=>jh ms i
def qdz(f:Fine ms)(i:Nat):Qx (look (Sum.inl (i:Int)) (dk ms)) (xx ms i)[7]=.ok (jh ms i)[7]:=by
 cases e:look (Sum.inl (i:Int)) (dk ms)with
 | some d =>
  obtain⟨v,rfl,e2⟩:=qdy f.1 e;simp[jh,e2,Qx]
 | none =>
  have n:=qdx e;have:xx ms i=jh ms i:=by
   cases i with
   | zero =>
    have:zC ms 0=[]:=by
     delta zC
     rw[fP.mpr,c9];intro p hp;have h1:=n p hp;have h2:=f.2.1 p hp;lia
    simp[xx,jh,this]
   | succ i =>
    have:zC ms (i+1)=zC ms i:=by
     delta zC
     congr 1;apply List.filter_congr;intro p hp;have h1:=n p hp;simp at h1 ⊢;lia
    show jh ms i=jh ms (i+1)
    delta jh
    rw[this]
  simp[this,Qx]
def qdA(ms)(b):((dk ms).any λkv=>decide (kv.1=Sum.inl b))=ms.any λp=>decide (p.1=b):=by
 delta dk
 rw[List.any_map];congr 1;funext p;simp
def qdB(f:Fine ms)(z:Nat)(O:z<=200) :
  uz [.br (.lst (ms.map qr)),.fz z[6]]=.ok (.lst ((List.range z).map λb:Nat=>D.int (jh ms b)))[9]:=by
 have hz:sz=16777216:=rfl;have hl:=f.2.2.2;unfold uz KL;left;rw[Yj (ds:=ms.map qr) rfl];left;obtain⟨ρ1,e1,j3,h1⟩:=vx (ms.map qr) (λi ρ=>∃ j3,ρ=[!(.br (.lst (ms.map qr))),!z[7],!(.dK (dk (ms.take i)))[9],j3,none,none,none])
  (g:=gV 3) (b:=w9 2 (eOp qc (q9 3) 0[5]) (qh wo [(q9 3)]))
  (ρ:=[!(.br (.lst (ms.map qr))),!z[7],!(.dK [])[9],none,none,none,none]) #[none,by simp[dk]] (λi x ρ hx #[j3,hρ]=>by
   subst hρ;rw[gM]at hx;cases ep:ms[i]? with
   | none=>rw[ep]at hx;cases hx
   | some p =>
    rw[ep]at hx;cases hx;have hp:=f.2.1 p (hV ep);have hi:i<ms[1]:=(gw.mp ep).1;refine#[_,_,rfl,.inl ?_,!(qr p)[8],rfl];have tl:=Vl p hp.2;rw[Yk (kvs:=dk (ms.take i)) (d:=.int (ju p)) (w:=.fz (.int p.1)) (key:=.inl p.1) rfl (by simp![tl]) (by simp![qr]) rfl (by simp[dk,hz];lia)]
    have nk:¬ ((dk (ms.take i)).any λkv=>decide (kv.1=Sum.inl p.1))=true:=by
     rw[qdA,List.any_eq_true];rintro⟨q,hq,e⟩;have e3:ms=ms.take i++p::ms.drop (i+1):=by
      rw[gJ hi]at ep;cases ep;simp
     have pw:=f.1;rw[e3,h9]at pw;have:=pw.2.2 q hq p t4;lia
    have e4:jm (Sum.inl p.1) (D.int (ju p)) (dk (ms.take i))=dk (ms.take (i+1)):=by
     unfold jm;rw[if_neg nk,List.take_succ,ep];simp[dk]
    rw[e4];rfl)
 rw[e1];subst h1;rw[gj,dm];left;rw[Qw (n:=z) (by left) ""]
 left;obtain⟨B,e2,j6,h2⟩:=Qg z (λi ρ=>∃ j6,ρ=[!(.br (.lst (ms.map qr))),!z[7],!(.dK (dk ms))[9],j3,!(.lst ((List.range i).map λb:Nat=>D.int (jh ms b)))[9],!(xx ms i)[7],j6])
  (g:=gV 6) (b:=qf (qk 5 (xR (q9 2) (q9 6) (q9 5))) (qY 4 (q9 5)))
  (ρ:=[!(.br (.lst (ms.map qr))),!z[7],!(.dK (dk ms))[9],j3,!(.lst [])[9],!0[7],none]) #[none,rfl] (λi ρ hi #[j6,hρ]=>by
   subst hρ;refine#[_,_,rfl,.inl ?_,!i[7],rfl];left;rw[qaa (kvs:=dk ms) (wd:=.br (.dK (dk ms))) (wk:=.fz i[6]) (wx:=.fz (xx ms i)[6]) (q:=.inl i) rfl rfl rfl rfl rfl,qdz f i];left;rw[zy (xs:=(List.range i).map λb:Nat=>D.int (jh ms b)) (d:=.int (jh ms i)) rfl (by simp[hz];lia) rfl]
   simp[d7,xx])
 rw[e2];subst h2;left
def VE(ms:List (Int×Int×Int))(t:Int)(B:Nat)(P:Int):Prop:=0<=P/\P<jh ms B/\qD ms B+P=t
abbrev Ub:SF:=qp (jx [(eOp qA (q9 2) (eOp vR (eOp jc (q9 1) (q9 3)) (q9 4))),(eOp vq (eOp jc (q9 1) (q9 3)) (q9 4))])
def Uc{p:Int×Int×Int}(f:Fine ms)(l:Lens ms)(e:ms=pre++p::post){t:Int}(h1:qD ms p.1.toNat<=t)(h2:∀ q∈post,t-qD ms p.1.toNat<(q.1-p.1)*ju p)(w)(j5 j6) :
  ∃ B P,fin ((Out.nx [w,!t[7],!(.int p.1)[8],!(qD ms p.1.toNat)[7],!(ju p)[7],j5,j6]).th Ub)=.ok (.tup [.int (B:Nat),.int P])[8]/\VE ms t B P:=by
 have hp:p∈ms:=by rw[e];simp
 have f1:=f.2.1 p hp;have l1:=l p hp;have hx:0<=t-qD ms p.1.toNat:=""
 have d0:0<=(t-qD ms p.1.toNat)/ju p:=bH hx ""
 have z:∀ q∈post,p.1+(t-qD ms p.1.toNat)/ju p<q.1:=λq hq=>by
  have:=Int.ediv_lt_of_lt_mul "" (h2 q hq)
  lia
 obtain⟨k,hk⟩:=pJ d0;have eB:(p.1.toNat+k:Nat)=p.1+(t-qD ms p.1.toNat)/ju p:=by rw[hk];lia
 refine#[p.1.toNat+k,(t-qD ms p.1.toNat)%ju p,?_,dO _ "",?_,?_]
 .simp![Qu (j:=ju p) "" "",yz (j:=ju p) "",eB]
 .rw[Xn e "" λq hq=>by have:=z q hq;lia]
  exact bP _ ""
 rw[Xo e f1.1 k λq hq=>by have:=z q hq;lia]
 have:=cz (t-qD ms p.1.toNat) (ju p);rw[hk,Int.mul_comm]at this;lia
def qdC(f:Fine ms)(l:Lens ms)(t)(Z:0<=t) :
  ∃ B P,Ji [.br (.lst (ms.map qr)),.fz t[6]]=.ok (.tup [.int (B:Nat),.int P])[8]/\VE ms t B P:=by
 delta Ji KM
 left;refine Zs (Q:=λo=>∃ B P,fin (o.th Ub)=.ok (.tup [.int (B:Nat),.int P])[8]/\VE ms t B P) (ms.map qr)
  (λi ρ=>∃ b g n j5 j6,ρ=[!(.br (.lst (ms.map qr))),!t[7],!b[7],!g[7],!n[7],j5,j6] /\
   ((i=0/\b=0/\g=0/\n=0)\/∃ pre p post,ms=pre++p::post/\pre[1]+1=i/\b=p.1/\g=qD ms p.1.toNat/\n=ju p/\g<=t))
  #[0,0,0,none,none,rfl,.inl #[rfl,rfl,rfl,rfl]] (λi x ρ hx #[b,g,n,j5,j6,hρ,hI]=>?_) (λρ #[b,g,n,j5,j6,hρ,hI]=>?_)
 .subst hρ;rw[gM]at hx;cases eq:ms[i]? with
  | none=>rw[eq]at hx;cases hx
  | some q =>
   rw[eq]at hx;cases hx;have hq:=hV eq;have f1:=f.2.1 q hq;have tl:=Vl q f1.2;have hi:i<ms[1]:=(gw.mp eq).1;refine#[_,rfl,?_];rcases hI with⟨rfl,rfl,rfl,rfl⟩|⟨pre,p,post,e,hl,rfl,rfl,rfl,hg⟩
   .have q0:q.1=0:=by
     obtain⟨p,hp,Y⟩:=f.2.2.1;cases ms with
     | nil=>simp at hi
     | cons m r =>
      simp at eq;subst eq;rcases gG.mp hp with rfl|hp
      .exact Y
      have:=(fC.mp f.1).1 p hp;lia
    have hd:decide (t<0)=false:=by simp;omega
    simp![qr,Zw (i:=q.1-0) (j:=0) "d" "d",Int.mul_zero,Int.add_zero,hd]
    have tl:wo [.fz (.tup [.int q.1,.int q.2.1,.int q.2.2])]=.ok (ju q)[7]:=tl;simp![tl];refine#[q.1,0,ju q,!(qr q)[8],!0[7],rfl,.inr ?_];cases ms with
    | nil=>simp at hi
    | cons m r =>
     simp at eq;subst eq;exact#[[],m,r,rfl,rfl,rfl,by rw[q0];rfl,rfl,Z]
   have hp:p∈ms:=by rw[e];simp
   have fp:=f.2.1 p hp;have lp:=l p hp;obtain⟨z,rfl⟩:∃ z,post=q::z:=by
    rw[e,<- hl,hZ ""]at eq
    cases post with
    | nil=>simp[show pre[1]+1-pre[1]=1 by lia]at eq
    | cons m r =>
     simp[show pre[1]+1-pre[1]=1 by lia]at eq
     exact#[r,by rw[eq]]
   have pw:=f.1;rw[e,h9]at pw;have U:=fC.mp pw.2.1;have pq:p.1<q.1:=U.1 q t4;have after:∀ r∈z,q.1<r.1:=(fC.mp U.2).1;have O:=Xo e fp.1 (q.1-p.1).toNat λr hr=>by
    rcases gG.mp hr with rfl|hr
    .omega
    have:=after r hr;omega
   rw[show p.1.toNat+(q.1-p.1).toNat=q.1.toNat by omega,show((q.1-p.1).toNat)=q.1-p.1 by omega]at O
   have tl:wo [.fz (.tup [.int q.1,.int q.2.1,.int q.2.2])]=.ok (ju q)[7]:=tl;simp![qr,Zw (i:=q.1-p.1) (j:=ju p) "" ""]
   rw[<- O];by_cases c:t<qD ms q.1.toNat
   .have hd:decide (t<qD ms q.1.toNat)=true:=by simpa using c
    simp![hd];refine Uc f l e hg (λr hr=>?_) _ _ _
    rw[O]at c;rcases gG.mp hr with rfl|hr
    .lia
    have a1:=after r hr;have:=tM (show q.1-p.1<=r.1-p.1 by lia) (show 0<=ju p by lia)
    lia
   have hd:decide (t<qD ms q.1.toNat)=false:=by simpa using c
   simp![hd,tl];refine#[q.1,qD ms q.1.toNat,ju q,!(qr q)[8],!(qD ms q.1.toNat)[7],rfl,.inr #[pre++[p],q,z,by rw[e];simp,by simp;omega,rfl,rfl,rfl,""]]
 subst hρ;rcases hI with⟨h0,_⟩|⟨pre,p,post,e,hl,rfl,rfl,rfl,hg⟩
 .obtain⟨p,hp,_⟩:=f.2.2.1;rw[gj]at h0;rw[fm.mp h0]at hp;simp at hp
 have:post=[]:=by
  rw[gj,e]at hl;simp at hl;exact hl
 subst this;exact Uc f l e hg (λq hq=>by simp at hq) _ _ _
def Ud{f:D->En}(B:f=.fz\/f=.br)(d):ky (!(!(f d)))=.ok (f d):=by rcases B with z|z<;>(subst z;rfl)
def qdD{f:D->En}(B:f=.fz\/f=.br)(d):(f d).dd=d:=by rcases B with z|z<;>(subst z;rfl)
def qdE{f:D->En}(B:f=.fz\/f=.br)(d):(f d).argo=.ok (f d):=by rcases B with z|z<;>(subst z;rfl)
def qdF{i:Nat}{f:D->En}(B:f=.fz\/f=.br)(h:ρ[i]?=!(!(f (.lst ds)))):zz i ρ=.ok (numd 0 ds):=by rcases B with z|z<;>(subst z;unfold zz;rw[h])
def JK(p:Nt):Bool:=zD 0 1000 (.int p.1)&&(zD 1 400 (.int p.2.1)&&zD 0 127 (.int p.2.2))
def qdG(p):yc [.fz (ntD p),.fz uh]=.ok (.bl (JK p))[8]:=Xq (.int p.1) (.int p.2.1) (.int p.2.2) 0 1000 1 400 0 127 rfl rfl rfl
def Ue(n):zJ [.fz (ntD n)]=.ok (n.1+n.2.1)[7]:=by
 rfl
def qdH(n o):uw [.fz (ntD n),.fz (ntD o)]=.ok (.bl (hits n o))[8]:=by
 have e2:zJ [.fz (.tup [.int o.1,.int o.2.1,.int o.2.2])]=.ok (o.1+o.2.1)[7]:=Ue o
 delta uw KA hits
 simp![ntD];cases (n.2.2==o.2.2)
 .rfl
 simp![e2];cases decide (n.1<o.1+o.2.1)
 .rfl
 rfl
def qdI(n o):hits n o=hits o n:=by
 delta hits
 rw[Bool.and_comm (decide (n.1<o.1+o.2.1)),show(n.2.2==o.2.2)=(o.2.2==n.2.2)from Bool.beq_comm]
def qdJ{f:D->En}(B:f=.fz\/f=.br)(ds)(n:Nat)(pre:List Nt)(p)(hp:ds.take n=pre.map ntD)(hd:ds[n]?=!(ntD p)):xf [f (.lst ds),.fz n[6]]=.ok (.bl (pre.any λo=>hits o p))[8]:=by
 have ix:okD (ati ds n)=.ok (ntD p)[8]:=by rw[zm,hd];rfl
 unfold xf X0;left;rw[vV (by rcases B with z|z<;>(subst z;left)) rfl,((Xr ds n).trans hp)]
 have go:∀(os:List Nt) j2,fin ((qH (gV 2) (sIf (tE (qh uw [(q9 2),(eOp qc (q9 0) (q9 1))])) (qp (eC (.bl true))) qq) (os.map ntD)
   [!(f (.lst ds)),!n[7],j2]).th (qp (eC (.bl false))))=.ok (.bl (os.any λo=>hits o p))[8]:=by
  intro os
  induction os with
  | nil=>intro j2;rfl
  | cons o os ih =>
   intro j2;rw[gW,vj rfl];simp![Ud B,qdD B,ix,(qdH o p),bx];cases hits o p
   .simp![Bool.false_or];exact ih _
   rfl
 exact go pre none
def VF(ds:List D)(n:Nat):Prop:=∃(p:Nt) (pre:List Nt),ds[n]?=!(ntD p)/\JK p=true/\ds.take n=pre.map ntD/\(pre.any λo=>hits o p)=false
def qdK{f:D->En}(B:f=.fz\/f=.br)(ds)(h2:ds[1]<=60):yL [f (.lst ds),.fz 0[6],.fz J7]=.ok (.bl true)[8]:=by
 unfold yL Ve;rcases B with z|z<;>(
  subst z;simp![J7];rw[show decide (0<=(ds[1]:Int))=true by simp]
  left;rw[show decide ((ds[1]:Int)<=60)=true by simp;lia])
def VG:SF:=(sIf (tOr (qG (tE (qh yc [(q9 2),(eC uh)]))) (tE (qh xf [(q9 0),(q9 1)]))) zu qq)
def qdL{f:D->En}(B:f=.fz\/f=.br){n:Nat}(g:VF ds n)(hd:ds[n]?=!d):VG [!(f (.lst ds)),!n[7],!d[8]]=.nx [!(f (.lst ds)),!n[7],!d[8]]:=by
 obtain⟨p,pre,e1,tb,ep,ea⟩:=g;rw[e1]at hd;cases hd;have a:=qdJ B ds n pre p ep e1;unfold VG;rcases B with z|z<;>(subst z;simp![(qdG p),tb,a,ea])
def qdM{f:D->En}(B:f=.fz\/f=.br){ds es:List D}(h2:ds[1]<=60)(g:∀ n,n<ds[1]->VF ds n)(O:wg [.lst ds]=.ok (.lst es)[9]):uG [f (.lst ds)]=.ok (.lst es)[9]:=by
 unfold uG Xb;simp![Ud B,qdE B,(qdK B ds h2)];rw[qdF B rfl];left;obtain⟨ρ',e,j1,j2,hI⟩:=vx (numd 0 ds) (λi ρ=>∃ j1 j2,ρ=[!(f (.lst ds)),j1,j2]) (g:=gT [1,2]) #[none,none,rfl] (λi x ρ hx #[j1,j2,hρ]=>by
  subst hρ;obtain⟨d,e1,rfl⟩:=Vm hx;exact#[_,_,rfl,.inl (qdL B (g i (gw.mp e1).1) e1),_,_,rfl])
 rw[show(sIf (tOr (qG (tE (qh yc [(q9 2),(eC uh)]))) (tE (qh xf [(q9 0),(q9 1)]))) zu qq)=VG from rfl,e]
 subst hI;rcases B with z|z<;>(subst z;simp![O])
structure GN(ns:List Nt):Prop where
 l:ns[1]<=24
 b:∀ n∈ns,0<=n.1/\n.1<=1000/\1<=n.2.1/\n.2.1<=400/\0<=n.2.2/\n.2.2<=127
 ap:ns.Pairwise λo n=>hits o n=false
def qdN(h:NotesOk ns)(z:ns[1]<=24):GN ns:=#[z,h.b,h.ap.imp λ{o n} q=>by rw[qdI];exact q]
def qdO(h:0<=p.1/\p.1<=1000/\1<=p.2.1/\p.2.1<=400/\0<=p.2.2/\p.2.2<=127):JK p=true:=by
 obtain⟨h1,h2,h3,h4,h5,h6⟩:=h;simp[JK,zD,h1,h2,h3,h4,h5,h6]
def qdP(g:GN ns){ds:List D}{n m:Nat}(B:ds.take n=(ns.take n).map ntD)(O:m<n)(U:n<=ns[1]):VF ds m:=by
 have z:m<ns[1]:=""
 have em:ds[m]?=!(ntD ns[m]):=by
  have:(ds.take n)[m]?=ds[m]?:=by rw[cj,if_pos O]
  simp_all
 refine#[ns[m],ns.take m,em,qdO (g.b _ (fT _)),?_,?_]
 .have:=congrArg (List.take m) B;rw[b9,<- List.map_take,b9,pB ""]at this
  exact this
 rw[List.any_eq_false];intro o ho;obtain⟨k,hk,rfl⟩:=List.getElem_of_mem ho;rw[tB]at hk;have:=tW.mp g.ap k m "" z ""
 simp_all
def qdQ(g:GN ns):(ns.map ntR).Nodup:=by
 show List.Pairwise _ _;rw[fq];refine dD (λ{o n} ho hn q z=>?_) g.ap
 have e:=Xs z;subst e;have hb:=g.b o ho
 delta hits at q
 simp at q
 omega
def qdR(g:GN ns):wg [.lst (ns.map ntD)]=.ok (.lst ((qQ ns).map ntD))[9]:=by
 have e1:ns.map ntD=(ns.map ntR).map qN:=by rw[hE];rfl
 have l:=g.l;rw[e1,Vq (qdQ g) (by rw[gj];lia) (λz=>by obtain⟨n,_,e⟩:=gK.mp z;cases e),<- uL,hE]
 rfl
def qdS{f:D->En}(B:f=.fz\/f=.br){z:List Nt}(g:GN z):uG [f (.lst (z.map ntD))]=.ok (.lst ((qQ z).map ntD))[9] :=
 qdM B (by have:=g.l;rw[gj];lia) (λn hn=>qdP g (by rw[<- List.map_take]) hn[""] (gE _)) (qdR g)
def TB(p:Int×Int×Int):Prop:=0<=p.1/\p.1<=1000/\1<=p.2.1/\p.2.1<=24/\p.2.2∈([1,2,4,8,16,32,64]:List Int)/\8<=ju p/\ju p<=512
def qdT(p)(h:TB p):xi [.fz (qr p)]=.ok (.bl true)[8]:=by
 obtain⟨a1,a2,b1,b2,u,l1,l2⟩:=h;have u1:1<=p.2.2/\p.2.2<=64/\QB (.int p.2.2) Vb=.ok (.bl false)[8]:=by
  simp[gG,p9,bN]at u;rcases u with u|u|u|u|u|u|u<;>(rw[u];exact#[by decide,by decide,by kernel_rfl])
 have e:=Xq (.int p.1) (.int p.2.1) (.int p.2.2) 0 1000 1 24 1 64 rfl rfl rfl;simp[zD,a1,a2,b1,b2,u1.1,u1.2.1,Bool.and_self]at e;have tl:wo [.fz (.tup [.int p.1,.int p.2.1,.int p.2.2])]=.ok (ju p)[7]:=Vl p #["",b2]
 delta xi Xe qr
 simp![Va,e,u1.2.2,tl,Vc,Vd,l1,l2,decide_true]
def qdU(ds:List D)(p:Int×Int×Int)(h:ds[0]?=!(qr p)):ya [.br (.lst ds),.fz 0[6]]=.ok (.bl (p.1==0))[8]:=by
 have e:okD (ati ds 0)=.ok (qr p)[8]:=by rw[show(0:Int)=((0:Nat):Int)from rfl,zm,h];rfl
 unfold ya Vf;left;rw[show((0:Int)==0)=true from rfl]
 simp![e,qr]
def qdV(ds:List D)(n:Nat)(p q:Int×Int×Int)(h:ds[n+1]?=!(qr p))(z:ds[n]?=!(qr q)):ya [.br (.lst ds),.fz ((n+1:Nat):Int)[6]]=.ok (.bl (decide (q.1<p.1)))[8]:=by
 have e:okD (ati ds ((n+1:Nat):Int))=.ok (qr p)[8]:=by rw[zm,h];rfl
 have e2:okD (ati ds (((n+1:Nat):Int)-1))=.ok (qr q)[8]:=by rw[show((n+1:Nat):Int)-1=(n:Int)by lia,zm,z];rfl
 unfold ya Vf;left;rw[show(((n+1:Nat):Int)==0)=false by simp;lia]
 simp![e,e2,qr]
def VH(ds:List D)(n:Nat):Prop:=∃ p,ds[n]?=!(qr p)/\TB p/\(n=0->p.1=0)/\∀ m,n=m+1->∃ q,ds[m]?=!(qr q)/\q.1<p.1
def qdW(d:D)(ds:List D)(h1:1<=ds[1])(h2:ds[1]<=20):yL [.br (.lst ds),.fz 1[6],.fz J8]=.ok (.bl true)[8]:=by
 unfold yL Ve;simp![J8];rw[show decide ((1:Int)<=(ds[1]:Int))=true by simp;lia]
 left;rw[show decide ((ds[1]:Int)<=20)=true by simp;lia]
def JM:SF:=(sIf (tOr (qG (tE (qh xi [(q9 2)]))) (qG (tE (qh ya [(q9 0),(q9 1)])))) zu qq)
def qdX{ds:List D}{n:Nat}{d:D}{j1 j2:Option En}(g:VH ds n)(hd:ds[n]?=!d):JM [!(.br (.lst ds)),!n[7],!d[8]]=.nx [!(.br (.lst ds)),!n[7],!d[8]]:=by
 obtain⟨p,e1,tb,z0,zs⟩:=g;rw[e1]at hd;cases hd;have t:=qdT p tb;unfold JM;simp![t];cases n with
 | zero =>
  have r:=qdU ds p e1;rw[show((0:Nat):Int)=0 from rfl]
  simp![r,z0 rfl,pW]
 | succ m =>
  obtain⟨q,e2,lt⟩:=zs m rfl;have r:=qdV ds m p q e1 e2;simp![r,lt,decide_true]
def qdY{ds:List D}(h1:1<=ds[1])(h2:ds[1]<=20)(g:∀ n,n<ds[1]->VH ds n):Jx [.br (.lst ds)]=.ok (.lst ds)[9]:=by
 unfold Jx Xf;simp![qdW .non ds h1 h2];rw[qcz (ds:=ds) rfl];left;obtain⟨ρ',e,j1,j2,hI⟩:=vx (numd 0 ds) (λi ρ=>∃ j1 j2,ρ=[!(.br (.lst ds)),j1,j2]) (g:=gT [1,2]) (b:=JM) (ρ:=[!(.br (.lst ds)),none,none]) #[none,none,rfl] (λi x ρ hx #[j1,j2,hρ]=>by
  subst hρ;obtain⟨d,e1,rfl⟩:=Vm hx;exact#[_,_,rfl,.inl (qdX (j1:=none) (j2:=none) (g i (gw.mp e1).1) e1),_,_,rfl])
 rw[show(sIf (tOr (qG (tE (qh xi [(q9 2)]))) (qG (tE (qh ya [(q9 0),(q9 1)])))) zu qq)=JM from rfl,e]
 subst hI;left
structure GM(ms:List (Int×Int×Int)):Prop where
 l1:1<=ms[1]
 l2:ms[1]<=20
 told:∀ p∈ms,TB p
 pw:ms.Pairwise λp q=>p.1<q.1
 z:∀ p,ms[0]?=!p->p.1=0
def Uf{ms:List (Int×Int×Int)}{n:Nat}(h):(ms.map qr)[n]?=!(qr ms[n]):=by rw[gM,gJ h];rfl
def qdZ(g:GM ms){ds:List D}{n:Nat}(O:∀ m,m<=n->ds[m]?=(ms.map qr)[m]?)(B:n<ms[1]):VH ds n:=by
 refine#[ms[n],(O n (gE _)).trans (Uf B),g.told _ (fT _),λz=>?_,λm e=>?_]
 .subst z;exact g.z _ (gJ B)
 subst e;exact#[ms[m],(O m "").trans (Uf ""),(tW.mp g.pw m (m+1) "" B "")]
def qe0(z:List Int):∀ k,mbar z k<=3*k:=λk=>k.recAux
 (by simp[mbar])
 λk IH=>by
  have:=IH;have:=zZ (jz z k) 9967 3 "d"
  show mbar z k+1+qT (jz z k) 9967 3<=_;lia
def qe1(wd):∀ u∈vA wd,u∈([1,2,4,8,16,32,64])/\8<=yQ wd/\wM wd<=512:=by cases wd<;>decide
def qe2(ns)(wd):GM (vP ns wd):=by
 obtain⟨m1,m2,_⟩:=JB ns;refine#[by simp[vP];omega,by simp[vP];lia,λp hp=>?_,(Vk ns wd).1,λp h=>?_]
 .obtain⟨k,hk,rfl⟩:=gK.mp hp;have hk:=b7.mp hk;have t:=JA (jz ns k) wd;have um:=xn (jz ns k) wd;obtain⟨u1,u2,u3,u4,u5,u6,u7⟩:=xo wd _ um;obtain⟨k1,k2,k3⟩:=qe1 wd _ um;have b1:=qe0 ns k;have b0:0<=mbar ns k:=by
   cases k with
   | zero=>exact pF _
   | succ k=>exact cI (Vj ns (succ_pos k))
  have p2:=Int.le_trans (tM t.2 "") (Int.le_trans u7 k3)
  exact#[b0,by show mbar ns k<=1000;lia,by show 1<=vh (jz ns k) wd;lia,by show vh (jz ns k) wd<=24;lia,k1,(Int.le_trans (Int.le_trans k2 u6) (tM t.1 "")),p2]
 unfold vP at h;rw[gM,pt ""]at h
 cases h;rfl
def qe3{i j:Int}(z:a ρ=.ok i[7])(B:b ρ=.ok j[7])(h1:-1000000<i)(h2:i<1000000)(O:-1000000<j)(U:j<1000000):iR2 a b ρ=.ok (zG i (j-i).toNat):=by
 delta iR2
 rw[z,R.bind_ok,B,R.bind_ok];dsimp[En.d];rw[if_pos];rw[hX];exact#[fits_iff.mpr (by rw[b62e];lia),fits_iff.mpr (by rw[b62e];lia)]
def yW:Nat->List D
 | 0=>[]
 | n+1=>.int (n:Int)::yW n
def qe4:∀ n:Nat,kR ((n:Int)-1) (-1) n=yW n:=λn=>n.recAux
 (rfl)
 λn IH=>by
  delta kR at ⊢
  rw[List.range_succ_eq_map,gW,hE];show D.int _::_=D.int n::yW n;rw[<- (IH)];congr 1
  .simp
  apply t3;intro k _;show D.int _=D.int _;congr 1
  push_cast
  lia
def qe5{a b c:EF}{n:Nat}(z:a ρ=.ok (n-1)[7])(B:b ρ=.ok (-1)[7])(O:c ρ=.ok (-1)[7])(U:n<100000):iR3d a b c ρ=.ok (yW n):=by
 delta iR3d
 rw[z,R.bind_ok,B,R.bind_ok,O,R.bind_ok]
 delta ZL
 dsimp only;rw[if_pos #["","",by decide,by decide,rfl]]
 have:(vc (n-1) (-1) (-1)).toNat=n:=by delta vc;split<;>lia
 rw[this,qe4]
def uO:∀ xs:List Int,jO (xs.map D.int)=!xs:=λr=>r.rec
 (rfl)
 λx r IH=>by
  show(match jO (r.map D.int)with|some ns=>↑(x::ns)|none=>none)=_
  rw[IH]
def jD(v:Int):Int->Int->List Int->List (List Int)
 | _,_,[]=>[]
 | p,n,x::r=>[p,v,n]::jD v (p+x) (n+1) r
def qR:Int->List (List Int)->List (List Int)
 | _,[]=>[]
 | v,r::rs=>jD v 0 0 r++qR (v+1) rs
def VI(v:Int):∀(r:List Int) (p n:Int),(jD v p n r)[1]=r[1]:=λr=>r.rec
 (λ_ _=>rfl)
 λx r IH p n=>by simp[jD,IH]
def uP(v:Int):∀(r:List Int) (p n:Int) (x:List Int),x∈jD v p n r->∃ q m,x=[q,v,m]/\n<=m:=λr=>r.rec
 (λ_ _ x h=>by simp[jD]at h)
 λy r IH p n x h=>by
  rcases gG.mp h with z|h
  .exact#[p,n,z,pF _]
  obtain⟨q,m,e,l⟩:=IH (p+y) (n+1) x h;exact#[q,m,e,""]
def qe6(v:Int):∀(r:List Int) (p n:Int),(jD v p n r).Nodup:=λr=>r.rec
 (λ_ _=>List.Pairwise.nil)
 λy r IH p n=>by
  refine tJ.mpr #[λh=>?_,IH (p+y) (n+1)]
  obtain⟨q,m,e,l⟩:=uP v r (p+y) (n+1) _ h;lia
def uQ:∀(rs:List (List Int)) (v:Int) (x:List Int),x∈qR v rs->∃ q u m,x=[q,u,m]/\v<=u:=λrs=>rs.rec
 (λ_ x h=>by simp[qR]at h)
 λr rs IH v x h=>by
  rcases gD.mp h with h|h
  .obtain⟨q,m,e,_⟩:=uP v r 0 0 x h;exact#[q,v,m,e,pF _]
  obtain⟨q,u,m,e,l⟩:=IH (v+1) x h;exact#[q,u,m,e,""]
def qe7:∀(rs:List (List Int)) (v:Int),(qR v rs).Nodup:=λrs=>rs.rec
 (λ_=>List.Pairwise.nil)
 λr rs IH v=>by
  refine fL.mpr #[qe6 v r 0 0,IH (v+1),λa ha b hb e=>?_]
  obtain⟨q,m,e1,_⟩:=uP v r 0 0 a ha;obtain⟨q2,u,m2,e2,l⟩:=uQ rs (v+1) b hb;lia
def Ug(k:Nat):∀(rs:List (List Int)) (v:Int),(∀ r∈rs,r[1]<=k)->(qR v rs)[1]<=k*rs[1]:=λrs=>rs.rec
 (λ_ _=>by simp[qR])
 λr rs IH v h=>by
  have a:=h r "s"
  have b:=IH (v+1) λx hx=>h x (gu _ hx)
  rw[qR,gH,VI,gQ];lia
abbrev EvS:=D×Int
def VJ(e:EvS):Prop:=qc e.1 1[6]=.ok (.int e.2)[8]
def evSB(rs:List (List EvS)):D:=.lst (rs.map λr=>.lst (r.map Prod.fst))
def qe8(W R3)(v):∀(r:List EvS) z p n j5 j6,(∀ e∈r,VJ e)->z[1]+r[1]<=100000->∃ q i5 i6,
  qH (gT [5,6]) (qf (qY 1 (jx [(q9 4),(q9 2),(q9 5)])) (za 4 zU (eOp qc (q9 6) 1[5]))) (numd n (r.map Prod.fst)) [W,!(.lst (z.map qN))[9],!v[7],R3,!p[7],j5,j6]
  = .nx [W,!(.lst ((z++jD v p n (r.map Prod.snd)).map qN))[9],!v[7],R3,!q[7],i5,i6]:=by
 have hz:sz=16777216:=rfl;intro r
 induction r with
 | nil=>intro z p n j5 j6 _ _;exact#[p,j5,j6,by simp[jD,numd,JD]]
 | cons e r ih =>
  intro z p n j5 j6 B hl;rw[gQ]at hl;have ek:qc e.1 1[6]=.ok (.int e.2)[8]:=B e "s"
  obtain⟨q,i5,i6,h⟩:=ih (z++[[p,v,n]]) (p+e.2) (n+1) (!n[7]) (!(.fz e.1)) (λx hx=>B x (gu _ hx)) (by rw[gH];simp;lia)
  refine#[q,i5,i6,?_];show qH _ _ (.tup [.int n,e.1]::numd (n+1) (r.map Prod.fst)) _=_;rw[vj (ρ1:=[W,!(.lst (z.map qN))[9],!v[7],R3,!p[7],!n[7],!(.fz e.1)]) rfl];rw[jG,zy (xs:=z.map qN) (d:=qN [p,v,n]) rfl (by rw[gj];lia) (rfl)]
  have au:∀ A,(za 4 zU (eOp qc (q9 6) 1[5])) [W,!A[9],!v[7],R3,!p[7],!n[7],!(.fz e.1)]=.nx [W,!A[9],!v[7],R3,!(p+e.2)[7],!n[7],!(.fz e.1)]:=λA=>by
   simp![ek]
  rw[jT];simp only[fY,p6];rw[au];have e2:(z++[[p,v,n]])++jD v (p+e.2) (n+1:Nat) (r.map Prod.snd)=z++jD v p n ((e::r).map Prod.snd):=by
   rw[tf,gW,jD];simp
  rw[e2]at h;rw[<- h,tw];rfl
def qe9(W):∀(rs:List (List EvS)) z v j2 j3 j4 j5 j6,(∀ r∈rs,∀ e∈r,VJ e)->(∀ r∈rs,r[1]<=600)->z[1]+600*rs[1]<=100000->∃ i2 i3 i4 i5 i6,
  qH (gT [2,3]) (qf (qk 4 0[5]) (qI (zz 3) (gT [5,6]) (qf (qY 1 (jx [(q9 4),(q9 2),(q9 5)])) (za 4 zU (eOp qc (q9 6) 1[5]))))) (numd v (rs.map λr=>.lst (r.map Prod.fst))) [W,!(.lst (z.map qN))[9],j2,j3,j4,j5,j6]
  = .nx [W,!(.lst ((z++qR v (rs.map (·.map Prod.snd))).map qN))[9],i2,i3,i4,i5,i6]:=by
 intro rs
 induction rs with
 | nil=>intro z v j2 j3 j4 j5 j6 _ _ _;exact#[j2,j3,j4,j5,j6,by simp[qR,numd,JD]]
 | cons r rs ih =>
  intro z v j2 j3 j4 j5 j6 B hr hl;rw[gQ]at hl;have r1:=hr r "s"
  obtain⟨q,k5,k6,h1⟩:=qe8 W (!(.lst (r.map Prod.fst))[8]) v r z 0 0 j5 j6 (B r "s") ""
  obtain⟨i2,i3,i4,i5,i6,h2⟩:=ih (z++jD v 0 (0:Nat) (r.map Prod.snd)) (v+1) (!v[7]) (!(.lst (r.map Prod.fst))[8]) (!q[7]) k5 k6 (λx hx=>B x (gu _ hx)) (λx hx=>hr x (gu _ hx)) (by rw[gH,VI,gj];lia)
  refine#[i2,i3,i4,i5,i6,?_];show qH _ _ (.tup [.int v,.lst (r.map Prod.fst)]::numd (v+1) (rs.map λr=>.lst (r.map Prod.fst))) _=_
  rw[vj (ρ1:=[W,!(.lst (z.map qN))[9],!v[7],!(.lst (r.map Prod.fst))[8],j4,j5,j6]) rfl,jG];have s4:(qk 4 0[5]) [W,!(.lst (z.map qN))[9],!v[7],!(.lst (r.map Prod.fst))[8],j4,j5,j6]=.nx [W,!(.lst (z.map qN))[9],!v[7],!(.lst (r.map Prod.fst))[8],!0[7],j5,j6]:=by left
  rw[s4,jT,Qt];have it:zz 3 [W,!(.lst (z.map qN))[9],!v[7],!(.lst (r.map Prod.fst))[8],!0[7],j5,j6]=.ok (numd 0 (r.map Prod.fst)):=rfl;rw[it,zw,h1,ye,h2];have e3:(z++jD v 0 (0:Nat) (r.map Prod.snd))++qR (v+1:Nat) (rs.map (·.map Prod.snd))=z++qR v ((r::rs).map (·.map Prod.snd)):=by
   rw[tf];rfl
  rw[e3]
def qea(rs)(B:∀ r∈rs,∀ e∈r,VJ e)(Y:∀ r∈rs,r[1]<=600)(hl:rs[1]<=8)(w)(Z:w=.fz (evSB rs)\/w=.br (evSB rs)) :
  wm [w]=.ok (.lst ((jq (qR 0 (rs.map (·.map Prod.snd)))).map qN))[9]:=by
 obtain⟨i2,i3,i4,i5,i6,h⟩:=qe9 ↑w rs [] 0 none none none none none B Y (by simp;lia)
 have it:zz 0 [!w,!(.lst [])[9],none,none,none,none,none]=.ok (numd 0 (rs.map λr=>.lst (r.map Prod.fst))):=by rcases Z with z|z<;>(subst z;rfl)
 have bl:=Ug 600 (rs.map (·.map Prod.snd)) 0 (λr O=>by
  obtain⟨x,hx,U⟩:=gK.mp O;subst U;rw[gj];exact Y x hx)
 rw[gj]at bl;have so:=Vq (qe7 (rs.map (·.map Prod.snd)) 0) "" (λz=>by
  obtain⟨_,_,_,e,_⟩:=uQ _ _ _ z;cases e)
 delta wm Ko
 simp![it];have h:qH (gT [2,3]) (qf (qk 4 0[5]) (qI (zz 3) (gT [5,6]) (qf (qY 1 (jx [(q9 4),(q9 2),(q9 5)])) (za 4 zU (eOp qc (q9 6) 1[5]))))) (numd 0 (rs.map λr=>.lst (r.map Prod.fst))) [!w,!(.lst [])[9],none,none,none,none,none]=.nx [!w,!(.lst ((qR 0 (rs.map (·.map Prod.snd))).map qN))[9],i2,i3,i4,i5,i6]:=h
 rw[h];simp![so]
def fcg:Nat->Str
 | 0=>"F"|1=>"C"|2=>"G"|3=>"D"|4=>"A"|5=>"E"|_=>"B"
def grd:Nat->Int
 | 0=>5|1=>0|2=>7|3=>2|4=>9|5=>4|_=>11
theorem Uh:∀ m:Nat,m<7->wK (.str "FCGDAEB") m[6]=.ok (.str (fcg m))[8]/\kQ (.str "FCGDAEB") (.str (fcg m))=.ok m[7]/\xN V5 (.str (fcg m))=.ok (grd m)[7]/\zq (.str (fcg m))=!(Sum.inr (fcg m))/\PyData.strOk (fcg m)=true
 | 0,_=>#[by kernel_rfl,by kernel_rfl,by kernel_rfl,rfl,by kernel_rfl]
 | 1,_=>#[by kernel_rfl,by kernel_rfl,by kernel_rfl,rfl,by kernel_rfl]
 | 2,_=>#[by kernel_rfl,by kernel_rfl,by kernel_rfl,rfl,by kernel_rfl]
 | 3,_=>#[by kernel_rfl,by kernel_rfl,by kernel_rfl,rfl,by kernel_rfl]
 | 4,_=>#[by kernel_rfl,by kernel_rfl,by kernel_rfl,rfl,by kernel_rfl]
 | 5,_=>#[by kernel_rfl,by kernel_rfl,by kernel_rfl,rfl,by kernel_rfl]
 | 6,_=>#[by kernel_rfl,by kernel_rfl,by kernel_rfl,rfl,by kernel_rfl]
 | n+7,h=>absurd h ""
def ffN(p k:Int):Int:=k-4+(7*p-(k-4))%12
def ltN(p k:Int):Nat:=((ffN p k+1)%7).toNat
def alN(p k:Int):Int:=(ffN p k+1)/7
def ocN(p k:Int):Int:=(p-grd (ltN p k)-alN p k)/12
def uR(m:Nat)(k:Int):Int:=(k-1+((m:Int)-1-(k-1))%7+1)/7
def VL(p k):ltN p k<7:=by delta ltN;lia
def qeb(p k):(ltN p k)=(ffN p k+1)%7:=by delta ltN;lia
def qec(a b c)(z:0<c):uq [.fz a[6],.fz b[6],.fz c[6]]=.ok (a+(b-a)%c)[7]:=by
 delta uq Kn
 simp![yz z]
def Ui(f):Ja [.fz f[6]]=.ok ((f+1)/7)[7]:=by
 rfl
def qed(p k):Vg [.fz p[6],.fz k[6]]=.ok (ffN p k)[7]:=by
 rfl
def qee(p k):uF [.fz p[6],.fz k[6]]=.ok (.tup [.str (fcg (ltN p k)),.int (alN p k),.int (ocN p k)])[8]:=by
 obtain⟨a,b,c,_⟩:=Uh (ltN p k) (VL p k);rw[qeb]at a
 delta uF X3
 simp![qed,ui,yz (j:=7) "d",a,Ui,c,Qu (j:=12) "d" "d",alN,ocN]
def qef(m)(z:m<7)(k):yN [.fz (.str (fcg m)),.fz k[6]]=.ok (uR m k)[7]:=by
 obtain⟨a,b,c,_⟩:=Uh m z
 delta yN KG
 simp![ui,b,qec _ _ 7 "d",Ui,uR]
abbrev Kd:=List (List (Sum Int Str)×D)
def KI(kds:Kd):Prop:=∀ kv∈kds,∃ n:Int,kv.2=.int n
def kyN(p k:Int):List (Sum Int Str):=[.inr (fcg (ltN p k)),.inl (ocN p k)]
def byN(kds:Kd)(p k:Int):Int:=match look (kyN p k) kds with|some n[6]=>n|_=>uR (ltN p k) k
def wr(kds:Kd)(go:Bool)(p k:Int):Bool:=not go&&not (byN kds p k==alN p k)
def hdK(kds:Kd)(go:Bool)(p k:Int):Kd:=if wr kds go p k=true then jm (kyN p k) (alN p k)[6] kds else kds
def hdH(kds:Kd)(go:Bool)(p k:Int):D:=.tup [.str (fcg (ltN p k)),.int (ocN p k),if wr kds go p k=true then .int (alN p k)else .non]
def vY(go:Bool)(k:Int):Kd->List Int->Kd
 | kds,[]=>kds
 | kds,p::ps=>vY go k (hdK kds go p k) ps
def wO(go:Bool)(k:Int):Kd->List Int->List D
 | _,[]=>[]
 | kds,p::ps=>hdH kds go p k::wO go k (hdK kds go p k) ps
def qeg(h:KI kds)(q):look q kds=none\/∃ n,look q kds=!n[6]:=by
 induction kds with
 | nil=>exact .inl rfl
 | cons kv r ih =>
  obtain⟨x,d⟩:=kv;unfold look;by_cases c:x=q
  .rw[if_pos c];obtain⟨n,e⟩:=h (x,d) "s"
   exact .inr #[n,by rw[show d=.int n from e]]
  rw[if_neg c];exact ih λkv hk=>h kv (gu _ hk)
def qeh(h:KI kds)(q)(n):KI (jm q n[6] kds)/\(jm q n[6] kds)[1]<=kds[1]+1:=by
 delta jm
 split
 .refine#[λkv hk=>?_,by simp]
  obtain⟨x,hx,rfl⟩:=gK.mp hk;by_cases c:x.1=q
  .rw[if_pos c];exact#[n,rfl]
  rw[if_neg c];exact h x hx
 refine#[λkv hk=>?_,by simp]
 rcases gD.mp hk with hk|hk
 .exact h kv hk
 simp_all
def Uj(h:KI kds)(go)(p k):KI (hdK kds go p k)/\(hdK kds go p k)[1]<=kds[1]+1:=by
 delta hdK
 split
 .exact qeh h _ _
 exact#[h,""]
def qei(go:Bool)(k:Int):∀(ps:List Int) (kds:Kd),KI kds->KI (vY go k kds ps)/\(vY go k kds ps)[1]<=kds[1]+ps[1]:=λps=>ps.rec
 (λkds h=>#[h,by simp[vY]])
 λp ps IH kds h=>by
  obtain⟨a,b⟩:=Uj h go p k;obtain⟨c,d⟩:=IH _ a;exact#[c,by rw[vY,gQ];lia]
def Uk(p k):jQ [.str (fcg (ltN p k)),.int (ocN p k)]=!(kyN p k):=rfl
def qej(h:KI kds)(p k):QX kds (kyN p k) (uR (ltN p k) k)[7]=.ok (byN kds p k)[7]:=by
 delta QX byN
 rcases qeg h (kyN p k)with e|⟨n,e⟩<;>rw[e]
def qek(h:KI kds)(p k)(w)(B:w=.br (.dT kds)\/w=.fz (.dT kds)):Jp [.fz (.str (fcg (ltN p k))),.fz (ocN p k)[6],w,.fz k[6]]=.ok (byN kds p k)[7]:=by
 have hz:sz=16777216:=rfl;show fin ((qp (uf (q9 2) [(q9 0),(q9 1)] (qh yN [(q9 0),(q9 3)]))) [!(.str (fcg (ltN p k)))[8],!(ocN p k)[7],!w,!k[7]])=_;have e:uf (q9 2) [(q9 0),(q9 1)] (qh yN [(q9 0),(q9 3)]) [!(.str (fcg (ltN p k)))[8],!(ocN p k)[7],!w,!k[7]]=.ok (byN kds p k)[7]:=by
  have ve:(q9 2) [!(.str (fcg (ltN p k)))[8],!(ocN p k)[7],!w,!k[7]]=.ok w:=by rcases B with z|z<;>(subst z;rfl)
  have oe:(qh yN [(q9 0),(q9 3)]) [!(.str (fcg (ltN p k)))[8],!(ocN p k)[7],!w,!k[7]]=.ok (uR (ltN p k) k)[7]:=by simp![(qef (ltN p k) (VL p k) k)]
  have wd:w.d=.dT kds:=by rcases B with z|z<;>(subst z;rfl)
  delta uf
  rw[ve,R.bind_ok,wd];show QY (jQ [.str (fcg (ltN p k)),.int (ocN p k)]) _=_;rw[Uk]
  delta QY
  dsimp only;rw[if_pos (by show 2<=sz;omega),oe,R.bind_ok,(qej h p k)]
 rw[Yb,e];rfl
abbrev Ul:SF:=(qf (qk 6 (qh uF [(q9 5),(q9 3)]))
 (qf (qk 7 (eOp qc (q9 6) 0[5]))
 (qf (qk 8 (eOp qc (q9 6) 2[5]))
 (qf (qk 9 (eC .non))
 (qf (sIf (L3.zF (tE (eOp wH (q9 1) (eC .non))) (tE (eOp dNe (qh Jp [(q9 7),(q9 8),(yI 2),(q9 3)]) (eOp qc (q9 6) 1[5])))) (qf (qk 9 (eOp qc (q9 6) 1[5]))
 (kX 2 [(q9 7),(q9 8)] (q9 9))) qq)
 (qY 4 (jx [(q9 7),(q9 8),(q9 9)])))))))
def qel{i:Nat}{e:EF}{ρ:Rho}{a:Int}{kds:Kd}{ws:List En}{q:List (Sum Int Str)}(h:ρ[i]?=!(!(.od (.tup [.int a,.dT kds]))))(z:e ρ=.ok d[8])(B:evs k ρ=.ok ws)(O:jQ (ws.map En.d)=!q)(h1:kds[1]<sz)(h2:q[1]<=sz) :
  kX i k e ρ=.nx (ρ.set i (!(.od (.tup [.int a,.dT (jm q d kds)])))):=by
 delta kX
 rw[h,z];show sOf (R.ok d) _=_
 delta sOf
 simp_all
def qem{i:Nat}{a:Int}(h:ρ[i]?=!(!(.od (.tup [.int a,d])))):yI i ρ=.ok (.br d):=by
 delta yI
 rw[h];rfl
def qen(a)(T)(go)(k)(O:wH T .non=.ok (.bl (not go))[8])(R0):∀ ps kds z j5 j6 j7 j8 j9,KI kds->kds[1]+ps[1]<=1000000->z[1]+ps[1]<=1000000->∃ i5 i6 i7 i8 i9,
  qH (gV 5) Ul (ps.map D.int) [R0,!T[8],!(ioD a (.dT kds)),!k[7],!(.lst z)[9],j5,j6,j7,j8,j9]
  = .nx [R0,!T[8],!(ioD a (.dT (vY go k kds ps))),!k[7],!(.lst (z++wO go k kds ps))[9],i5,i6,i7,i8,i9]:=by
 have hz:sz=16777216:=rfl;intro ps
 induction ps with
 | nil=>intro kds z j5 j6 j7 j8 j9 _ _ _;exact#[j5,j6,j7,j8,j9,by simp[vY,wO,JD]]
 | cons p ps ih =>
  intro kds z j5 j6 j7 j8 j9 hk hl ha;rw[gQ]at hl ha;obtain⟨k1,k2⟩:=Uj hk go p k;obtain⟨i5,i6,i7,i8,i9,h⟩:=ih (hdK kds go p k) (z++[hdH kds go p k]) (!p[7]) (!(.tup [.str (fcg (ltN p k)),.int (alN p k),.int (ocN p k)])[8]) (!(.str (fcg (ltN p k)))[8]) (!(ocN p k)[7]) (!(if wr kds go p k=true then .int (alN p k)else .non)[8]) k1 "" (by rw[gH];simp;lia)
  refine#[i5,i6,i7,i8,i9,?_];rw[gW,vj (kD)];simp[fY,p6];have be:=λw hw=>qek hk p k w hw
  have bd:Ul [R0,!T[8],!(ioD a (.dT kds)),!k[7],!(.lst z)[9],!p[7],j6,j7,j8,j9]=.nx [R0,!T[8],!(ioD a (.dT (hdK kds go p k))),!k[7],!(.lst (z++[hdH kds go p k]))[9],!p[7],!(.tup [.str (fcg (ltN p k)),.int (alN p k),.int (ocN p k)])[8],!(.str (fcg (ltN p k)))[8],!(ocN p k)[7],!(if wr kds go p k=true then .int (alN p k)else .non)[8]]:=by
   simp![qee];have vi:∀ A B C D E F,(yI 2) [R0,!T[8],!(ioD a (.dT kds)),!k[7],A,B,C,D,E,F]=.ok (.br (.dT kds)):=λA B C D E F=>qem (a:=a) rfl
   have be:=be (.br (.dT kds)) (.inl rfl);cases go
   .cases c:(byN kds p k==alN p k)
    .have w:wr kds false p k=true:=by delta wr;rw[c];rfl
     simp![O,Bool.not_false,vi,be,c];rw[qel (a:=a) (kds:=kds) (d:=.int (alN p k)) (ws:=[.fz (.str (fcg (ltN p k))),.fz (ocN p k)[6]]) (q:=kyN p k) rfl (by left) rfl (Uk p k) "" (by show 2<=sz;lia)]
     left;rw[zy (xs:=z) (d:=hdH kds false p k) rfl "" (by simp![hdH,w])]
     simp![hdK,w];rfl
    have w:wr kds false p k=false:=by delta wr;rw[c];rfl
    simp![O,Bool.not_false,Bool.not_true,vi,be,c];rw[zy (xs:=z) (d:=hdH kds false p k) rfl "" (by simp![hdH,w];rfl)]
    simp![hdK,w];rfl
   have w:wr kds true p k=false:=rfl;simp![O,Bool.not_true];rw[zy (xs:=z) (d:=hdH kds true p k) rfl "" (by simp![hdH,w];rfl)]
   simp![hdK,w];rfl
  rw[bd,ye,h,vY,wO];simp
def qiA{i:Nat}{e:EF}{a:Int}(h:ρ[i]?=!(!(.od (.tup [.int a,d]))))(z:e ρ=.ok g[8]):ue i e ρ=.rt (.od (.tup [.int a,d,g])):=by
 delta ue
 rw[h,z];rfl
def qeo(a)(T)(go)(k)(z:wH T .non=.ok (.bl (not go))[8])(ps)(kds)(B:KI kds)(O:kds[1]+ps[1]<=1000000) :
  Jw [.fz (.tup (ps.map D.int)),.fz T,ioD a (.dT kds),.fz k[6]]=.ok (.od (.tup [.int a,.dT (vY go k kds ps),.tup (wO go k kds ps)])):=by
 obtain⟨i5,i6,i7,i8,i9,h⟩:=qen a T go k z (!(.tup (ps.map D.int))[8]) ps kds [] none none none none none B O (by simp;lia)
 show fin (qf (qk 4 (ji [])) _ [!(.tup (ps.map D.int))[8],!T[8],!(ioD a (.dT kds)),!k[7],none,none,none,none,none,none])=_;left;have it:iV 0 [!(.tup (ps.map D.int))[8],!T[8],!(ioD a (.dT kds)),!k[7],!(.lst [])[9],none,none,none,none,none]=.ok (ps.map D.int):=rfl;rw[it,zw,h];rfl
def vof(s:List Int):Int:=s.getD 1 0
def pof(s:List Int):Int:=s.getD 0 0
def qep(v:Int):∀(r:List Int) (p n:Int),(∀ x∈r,0<=x)->∀ s∈jD v p n r,p<=pof s:=λr=>r.rec
 (λ_ _ _ s h=>by simp[jD]at h)
 λx r IH p n hx s h=>by
  rcases gG.mp h with z|h
  .subst z;exact pF _
  have a:=hx x "s"
  have:=IH (p+x) (n+1) (λy hy=>hx y (gu _ hy)) s h
  lia
def qeq{p q v u n m:Int}(h:p<q):HT.lexLt [q,v,n] [p,u,m]=false:=by
 rw[HT.lexLt_cons,if_neg ""]
 simp;lia
def qer(v:Int):∀(r:List Int) (p n:Int),(∀ x∈r,1<=x)->(jD v p n r).Pairwise λa b=>HT.lexLt b a=false:=λr=>r.rec
 (λ_ _ _=>List.Pairwise.nil)
 λx r IH p n hx=>by
  refine List.Pairwise.cons (λs hs=>?_) (IH (p+x) (n+1) λy hy=>hx y (gu _ hy))
  have a:=hx x "s"
  have b:=qep v r (p+x) (n+1) (λy hy=>by have:=hx y (gu _ hy);lia) s hs
  obtain⟨q,m,e,_⟩:=uP v r (p+x) (n+1) s hs;subst e;exact qeq (show p<q by have:p+x<=q:=b;lia)
def VM(v){r:List Int}{p n:Int}{s:List Int}(h:s∈jD v p n r):vof s=v:=by
 obtain⟨q,m,e,_⟩:=uP v r p n s h;subst e;rfl
theorem Um:∀ rs w (v:Nat) r,rs[v]?=!r->(qR w rs).filter (λs=>vof s==w+v)=jD (w+v) 0 0 r
 | [],_,_,_,h=>by simp at h
 | q::rs,w,0,r,h=>by
  obtain rfl:q=r:=by simpa using h
  rw[qR,cy];have b:(qR (w+1) rs).filter (λs=>vof s==w+(0:Nat))=[]:=fP.mpr λs hs=>by
   obtain⟨x,u,m,e,l⟩:=uQ rs (w+1) s hs;subst e;simp[vof];lia
  rw[(dB.mpr λs hs=>by rw[VM w hs];simp),b]
  simp
 | q::rs,w,v+1,r,h=>by
  rw[qR,cy];have e:w+(v+1:Nat)=w+1+v:=""
  rw[(fP.mpr λs hs=>by rw[VM w hs];simp;lia),e]
  exact(Um rs (w+1) v r h[""])
def Uo{T:List (List Int)}(P)(h:S.filter P=T)(up:T.Pairwise λa b=>HT.lexLt b a=false):(jq S).filter P=T:=by
 refine Zy ?_ ((Qy S).filter P) up
 rw[<- h];exact(wZ S).filter P
def VN(rs)(hp:∀ r∈rs,∀ x∈r,1<=x)(v:Nat)(r)(h:rs[v]?=!r):(jq (qR 0 rs)).filter (λs=>vof s==v)=jD v 0 0 r:=by
 have e:=Um rs 0 v r h;rw[Int.zero_add]at e;exact Uo _ e (qer _ r 0 0 (hp r (hV h)))
theorem Up(v):∀ r p n (i:Nat) s,(jD v p n r)[i]?=!s->∃ q,s=[q,v,n+i]/\i<r[1]
 | [],_,_,_,_,h=>by simp[jD]at h
 | x::r,p,n,0,s,h=>by
  have:s=[p,v,n]:=by simpa[jD]using h.symm
  simp_all
 | x::r,p,n,i+1,s,h=>by
  obtain⟨q,e,l⟩:=Up v r (p+x) (n+1) i s (by simpa[jD]using h)
  exact#[q,by rw[e];simp;lia]
def qes:∀(rs:List (List Int)) (w:Int) (s:List Int),s∈qR w rs->∃(v:Nat) (r:List Int),vof s=w+(v:Int)/\rs[v]?=!r:=λrs=>rs.rec
 (λ_ s h=>by simp[qR]at h)
 λq rs IH w s h=>by
  rcases gD.mp h with h|h
  .exact#[0,q,by rw[VM w h];simp,rfl]
  obtain⟨v,r,e,l⟩:=IH (w+1) s h;exact#[v+1,r,by rw[e];lia,by simpa using l]
def qet(rs)(hp:∀ r∈rs,∀ x∈r,1<=x){z B:List (List Int)}{s:List Int}(h:jq (qR 0 rs)=z++s::B) :
  ∃(q:Int) (v n:Nat) (r:List Int),s=[q,v,n]/\rs[v]?=!r/\n<r[1]/\n=(z.filter λt=>vof t==v)[1]:=by
 obtain⟨v,r,e,er⟩:=qes rs 0 s ((wZ _).mem_iff.mp (by rw[h];simp))
 have sv:=VN rs hp v r er;rw[h,cy,fN e[""]]at sv
 have g:(jD v 0 0 r)[(z.filter λt=>vof t==v)[1]]?=!s:=by rw[<- sv,hZ (gE _),sub_self];rfl
 obtain⟨q,e2,l⟩:=Up v r 0 0 _ s g;exact#[q,v,_,r,by rw[e2,Int.zero_add],er,l,rfl]
def wu:Option D->Bool
 | some (.tup [_,_,_,.bl b])=>b
 | _=>false
def JN:Option D->D
 | some (.tup [_,_,h,.bl true])=>h
 | _=>.non
def TeOk(d:D):Prop:=(∃ v:Int,d=.tup [.str "rest",.int v])\/∃(v:Int) (hs:List D) (t:Bool),d=.tup [.str "note",.int v,.tup hs,.bl t]
def Uq:dEq (.str "rest") (.str "rest")=.ok (.bl true)[8]:=by kernel_rfl
def VO:dEq (.str "note") (.str "rest")=.ok (.bl false)[8]:=by kernel_rfl
def qeu(o)(h:∀ d,o=!d->TeOk d):y9 [.fz (o.getD .non)]=.ok (JN o)[8]/\wH (JN o) .non=.ok (.bl (not (wu o)))[8]:=by
 cases o with
 | none=>exact#[by kernel_rfl,rfl]
 | some d =>
  rcases h d rfl with⟨v,e⟩|⟨v,hs,t,e⟩
  .subst e;refine#[?_,rfl]
   delta y9 Jb
   simp![Option.getD_some,Uq];rfl
  subst e;cases t
  .refine#[?_,rfl]
   delta y9 Jb
   simp![Option.getD_some,VO];rfl
  refine#[?_,rfl]
  delta y9 Jb
  simp![Option.getD_some,VO];rfl
structure TS where
 kds:Kd
 rows:List (List D)
 ah:List (Sum Int Str×D)
inductive GE(α:Type)where
 | rest (v:Int)
 | note (v:Int) (x:α) (t:Bool)
structure TF(α:Type)where
 enc:α->D
 fx:α->D->Kd->D
 fk:α->D->Kd->Kd
 ok:α->Prop
def geD(F:TF α):GE α->D
 | .rest v=>.tup [.str "rest",.int v]
 | .note v x t=>.tup [.str "note",.int v,F.enc x,.bl t]
def gv:GE α->Int
 | .rest v=>v
 | .note v _ _=>v
def GeOk(F:TF α):GE α->Prop
 | .rest v=>1<=v
 | .note v x _=>1<=v/\F.ok x
def gwD(F:TF α)(r:List (GE α)):D:=.lst (r.map (geD F))
def grD(F:TF α)(R:List (List (GE α))):D:=.lst (R.map (gwD F))
def gEv(F:TF α)(T:D)(kds:Kd):GE α->D
 | .rest v=>.tup [.str "rest",.int v]
 | .note v x t=>.tup [.str "note",.int v,F.fx x T kds,.bl t]
def gKd(F:TF α)(T:D)(kds:Kd):GE α->Kd
 | .rest _=>kds
 | .note _ x _=>F.fk x T kds
def tOf(st:TS)(v:Nat):D:=JN (look (Sum.inl (v:Int)) st.ah)
def yX(F:TF α)(st:TS)(v:Nat)(e:GE α):TS :=
 #[gKd F (tOf st v) st.kds e,st.rows.set v ((st.rows.getD v [])++[gEv F (tOf st v) st.kds e]),jm (Sum.inl (v:Int)) (gEv F (tOf st v) st.kds e) st.ah]
def evAt(R:List (List (GE α)))(s:List Int):Option (GE α):=(R[(vof s).toNat]?).bind λr=>r[(s.getD 2 0).toNat]?
def zK(F:TF α)(R:List (List (GE α)))(st:TS)(s:List Int):TS:=match evAt R s with
 | some e=>yX F st (vof s).toNat e
 | none=>st
def TnOk(T:D):Prop:=T=.non\/∃ hs,T=.tup hs
structure TurnOk{α:Type}(F:TF α)(k:Int)(fn:D)(io:IOF):Prop where
 run:∀(R0 z A:Option En) (ah:List (Sum Int Str×D)) (br:D) (kds:Kd) (rows:D) (v va:Int) (x:α) (t:Bool) (T:D),F.ok x->TnOk T->KI kds->kds[1]<=200000 ->
  io [R0,!k[7],!fn[8],z,!(.dK ah)[9],!br[8],!(.dT kds)[9],!(.od rows),A,!v[7],!(geD F (.note va x t))[8],!T[8]]
   = .ok (F.fx x T kds,[R0,!k[7],!fn[8],z,!(.dK ah)[9],!br[8],!(.dT (F.fk x T kds))[9],!(.od rows),A,!v[7],!(geD F (.note va x t))[8],!T[8]])
 ki:∀(x:α) (T:D) (kds:Kd),F.ok x->TnOk T->KI kds->KI (F.fk x T kds)/\(F.fk x T kds)[1]<=kds[1]+24
 tp:∀(x:α) (T:D) (kds:Kd),F.ok x->TnOk T->KI kds->∃ hs,F.fx x T kds=.tup hs
abbrev uS(io:IOF):SF:=(qf (qk 9 (eOp qc (q9 8) 1[5]))
 (qf (qk 10 (eOp qc (eOp qc (q9 5) (q9 9)) (eOp qc (q9 8) 2[5])))
 (qf (sIf (tE (eOp dEq (eOp qc (q9 10) 0[5]) (eC (.str "note")))) (qf (qk 11 (qh y9 [(yJ (q9 4) (q9 9))]))
 (sIO 10 (eIOT (vf (eC (.str "note")) (vf (eOp qc (q9 10) 1[5]) (xIO io (vf (eOp qc (q9 10) 3[5]) ug))))))) qq)
 (qf (wJ 7 (q9 9) (q9 10))
 (w9 4 (q9 9) (q9 10))))))
def qev{d k:EF}{wd wk:En}(hd:d ρ=.ok wd)(h1:wd.d=.dK kvs)(z:k ρ=.ok wk)(h2:zq wk.d=!q):yJ d k ρ=.ok ((look q kvs).getD .non)[8]:=by
 delta yJ
 rw[hd,R.bind_ok,h1];dsimp only;rw[z,R.bind_ok,h2];dsimp only;cases look q kvs<;>rfl
def qew{kvs:List (Sum Int Str×D)}{i:Nat}{k e:EF}{ρ:Rho}{w:En}(h:ρ[i]?=!(!(.dK kvs)[9]))(h2:e ρ=.ok d[8])(z:k ρ=.ok w)(B:zq w.d=!key)(O:kvs[1]<sz) :
  w9 i k e ρ=.nx (ρ.set i (!(.dK (jm key d kvs))[9])):=Yk h (by rw[h2];rfl) z B O
def AhOk(z:List (Sum Int Str×D)):Prop:=∀ kv∈z,TeOk kv.2
def Ur:∀{l:List (Sum Int Str×D)},look q l=!d->∃ kv∈l,kv.2=d:=λ{l}=>l.rec
 (@λh=>by cases h)
 λ#[x,y] l IH=>@λh=>by
  unfold look at h;by_cases c:x=q
  .rw[if_pos c]at h;exact#[(x,y),by simp,by simpa using h]
  rw[if_neg c]at h;obtain⟨kv,m,e⟩:=IH h;exact#[kv,gu _ m,e]
def qex{z:List (Sum Int Str×D)}(h:AhOk z)(hd:TeOk d):AhOk (jm q d z)/\(jm q d z)[1]<=z[1]+1:=by
 delta jm
 split
 .refine#[λkv hk=>?_,by simp]
  obtain⟨x,hx,rfl⟩:=gK.mp hk;by_cases c:x.1=q
  .rw[if_pos c];exact hd
  rw[if_neg c];exact h x hx
 refine#[λkv hk=>?_,by simp]
 rcases gD.mp hk with hk|hk
 .exact h kv hk
 simp_all
def Us{κ:Type} [DecidableEq κ]{q B:κ}:∀ l,look B (jm q d l)=if q=B then !d else look B l:=by
 intro l;have mp:∀ l,look B (l.map λkv=>if kv.1=q then(kv.1,d)else kv)=if q=B/\(l.any λkv=>decide (kv.1=q))=true then !d else look B l:=by
  intro l
  induction l with
  | nil=>simp[look]
  | cons kv r ih =>
   obtain⟨x,y⟩:=kv;rw[gW];by_cases c:x=q
   .rw[if_pos c];unfold look
    simp_all
   rw[if_neg c];unfold look
   grind
 have ap:∀ l,(l.any λkv=>decide (kv.1=q))=false->look B (l++[(q,d)])=if q=B then !d else look B l:=by
  intro l
  induction l with
  | nil=>intro _;simp[look]
  | cons kv r ih =>
   intro h;obtain⟨x,y⟩:=kv;rw[bx,Bool.or_eq_false_iff]at h;have xq:x≠q:=by simpa using h.1
   rw[List.cons_append];unfold look;by_cases c2:x=B
   .rw[if_pos c2,if_neg λz=>xq (c2.trans z.symm),if_pos c2]
   rw[if_neg c2,ih h.2,if_neg c2]
 unfold jm;cases c:(l.any λkv=>decide (kv.1=q))
 .rw[if_neg "s",ap l c]
 rw[if_pos rfl,mp l,c];simp
structure TsOk{α:Type}(L:Nat)(R:List (List (GE α)))(st:TS)(m:Nat):Prop where
 ki:KI st.kds
 kl:st.kds.length<=24*m
 ah:AhOk st.ah
 al:st.ah.length<=L+m
 rl:st.rows.length=R.length
 rr:∀ r∈st.rows,r[1]<=m
def qey(o)(h:∀ d,o=!d->TeOk d):TnOk (JN o):=by
 cases o with
 | none=>exact .inl rfl
 | some d =>
  rcases h d rfl with⟨v,e⟩|⟨v,hs,t,e⟩
  .subst e;exact .inl rfl
  subst e;cases t
  .exact .inl rfl
  exact .inr #[hs,rfl]
def VP{st:TS}(h:AhOk st.ah)(v):TnOk (tOf st v):=qey _ λd hd=>by obtain⟨kv,m1,m2⟩:=Ur hd;rw[<- m2];exact h kv m1
def qez{F:TF α}{k:Int}{fn:D}{io:IOF}(z:TurnOk F k fn io){T:D}{kds:Kd}(B:TnOk T)(O:KI kds)(e)(U:GeOk F e):TeOk (gEv F T kds e):=by
 cases e with
 | rest v=>exact .inl #[v,rfl]
 | note v x t =>
  obtain⟨hs,h⟩:=z.tp x T kds U.2 B O;exact .inr #[v,hs,t,by show D.tup [.str "note",.int v,F.fx x T kds,.bl t]=_;rw[h]]
def qeA{F:TF α}{k:Int}{fn:D}{io:IOF}(B:TurnOk F k fn io){T:D}{kds:Kd}(O:TnOk T)(z:KI kds)(e)(U:GeOk F e):KI (gKd F T kds e)/\(gKd F T kds e)[1]<=kds[1]+24:=by
 cases e with
 | rest v=>exact#[z,by simp[gKd]]
 | note v x t=>exact B.ki x T kds U.2 O z
def qeB{F:TF α}{k:Int}{fn:D}{io:IOF}(O:TurnOk F k fn io){L:Nat}{R:List (List (GE α))}{st:TS}{m v:Nat}(h:TsOk L R st m)(Y:v<R.length)(e)(U:GeOk F e):TsOk L R (yX F st v e) (m+1):=by
 obtain⟨a,b⟩:=qeA O (VP h.ah v) h.ki e U;obtain⟨c,d⟩:=qex h.ah (qez O (VP h.ah v) h.ki e U);refine#[a,by have:=h.kl;show(gKd F (tOf st v) st.kds e)[1]<=_;lia,c,by have:=h.al;show(jm _ _ st.ah)[1]<=_;lia,by show(st.rows.set v _)[1]=_;rw[bD];exact h.rl,λr hr=>?_]
 rcases List.mem_or_eq_of_mem_set hr with z|z
 .have:=h.rr r z;lia
 subst z;have B:v<st.rows.length:=by rw[h.rl];exact Y
 have:(st.rows.getD v [])[1]<=m:=by
  rw[tG,gJ B];exact h.rr _ (fT B)
 simp_all
def qeC{i:Nat}{ρ:Rho}(h:ρ[i]?=!(!d[9]))(z:evs pre ρ=.ok ws)(B:jW ws=.ok ys)(O:evs post ρ=.ok ws2)(U:jW ws2=.ok ys2)(f:(vd ys&&vd ys2)=true)(io:wL dn ys d ys2=.ok (d',g)) :
  eIO dn i pre post ρ=.ok (g,ρ.set i (!d'[9])):=by
 delta eIO
 rw[h];dsimp only;rw[z,R.bind_ok,B,R.bind_ok,O,R.bind_ok,U,R.bind_ok,if_pos f,io]
def qeD{j:Nat}{i:Nat}(h:fnOf ρ[j]?=!x1)(e:eIO d1 i pre post ρ=r):eIOV j x1 d1 i pre post ρ=r:=by
 unfold eIOV
 simp_all
def qeE{F:TF α}{k:Int}{fn:D}{io:IOF}(hF:TurnOk F k fn io)(R)(R0 told)(st)(m L)(h:TsOk L R st m)(hL:L<=1000000)(hm:m<=5000)(v n:Nat)(q)(r)(e)(Z:R[v]?=!r)(ee:r[n]?=!e)(he:GeOk F e)(j9 j10)(z:Option D):∃ Y:Option D,
  uS io [R0,!k[7],!fn[8],told,!(.dK st.ah)[9],!(grD F R)[8],!(.dT st.kds)[9],!(.od (.lst (st.rows.map D.lst))),!(qN [q,v,n])[8],j9,j10,z.map En.fz]
  = .nx [R0,!k[7],!fn[8],told,!(.dK (yX F st v e).ah)[9],!(grD F R)[8],!(.dT (yX F st v e).kds)[9],!(.od (.lst ((yX F st v e).rows.map D.lst))),!(qN [q,v,n])[8],!v[7],!(gEv F (tOf st v) st.kds e)[8],Y.map En.fz]:=by
 have hz:sz=16777216:=rfl;have hv:v<R.length:=(gw.mp Z).1;have B:v<st.rows.length:=by rw[h.rl];exact hv
 have i1:qc (qN [q,v,n]) 1[6]=.ok v[7]:=rfl;have i2:qc (qN [q,v,n]) 2[6]=.ok n[7]:=rfl;have b1:qc (grD F R) v[6]=.ok (gwD F r)[8]:=by
  show okD (ati (R.map (gwD F)) v)=_;rw[zm,gM,Z];rfl
 have b2:qc (gwD F r) n[6]=.ok (geD F e)[8]:=by
  show okD (ati (r.map (geD F)) n)=_;rw[zm,gM,ee];rfl
 have tl:∀ A C K x,(qf (wJ 7 (q9 9) (q9 10)) (w9 4 (q9 9) (q9 10))) [R0,!k[7],!fn[8],told,!(.dK st.ah)[9],!(grD F R)[8],!(.dT K)[9],!(.od (.lst (st.rows.map D.lst))),A,!v[7],!x[8],C]
   = .nx [R0,!k[7],!fn[8],told,!(.dK (jm (Sum.inl v) x st.ah))[9],!(grD F R)[8],!(.dT K)[9],!(.od (.lst ((st.rows.set v ((st.rows.getD v [])++[x])).map D.lst))),A,!v[7],!x[8],C]:=λA C K x=>by
  have gd:st.rows.getD v []=st.rows[v]:=by rw[tG,gJ B];rfl
  have rl:=h.rr _ (fT B);rw[jG,Vr (k:=v) (ds:=st.rows.map D.lst) (xs:=st.rows[v]) (d:=x) rfl (by left) (by left) (by rw[gM,gJ B];rfl) "",jT]
  rw[qew (kvs:=st.ah) (d:=x) (w:=.fz v[6]) (key:=Sum.inl v) rfl (by left) (by left) rfl (by have:=h.al;lia)]
  rw[gd,List.map_set];rfl
 have s9:(qk 9 (eOp qc (q9 8) 1[5])) [R0,!k[7],!fn[8],told,!(.dK st.ah)[9],!(grD F R)[8],!(.dT st.kds)[9],!(.od (.lst (st.rows.map D.lst))),!(qN [q,v,n])[8],j9,j10,z.map En.fz]=.nx [R0,!k[7],!fn[8],told,!(.dK st.ah)[9],!(grD F R)[8],!(.dT st.kds)[9],!(.od (.lst (st.rows.map D.lst))),!(qN [q,v,n])[8],!v[7],j10,z.map En.fz]:=by simp![i1]
 have O:(qk 10 (eOp qc (eOp qc (q9 5) (q9 9)) (eOp qc (q9 8) 2[5]))) [R0,!k[7],!fn[8],told,!(.dK st.ah)[9],!(grD F R)[8],!(.dT st.kds)[9],!(.od (.lst (st.rows.map D.lst))),!(qN [q,v,n])[8],!v[7],j10,z.map En.fz]=.nx [R0,!k[7],!fn[8],told,!(.dK st.ah)[9],!(grD F R)[8],!(.dT st.kds)[9],!(.od (.lst (st.rows.map D.lst))),!(qN [q,v,n])[8],!v[7],!(geD F e)[8],z.map En.fz]:=by simp![b1,i2,b2]
 cases e with
 | rest va =>
  refine#[z,?_];have i0:qc (geD F (.rest va)) 0[6]=.ok (.str "rest")[8]:=rfl;have nq:(tE (eOp dEq (eOp qc (q9 10) 0[5]) (eC (.str "note")))) [R0,!k[7],!fn[8],told,!(.dK st.ah)[9],!(grD F R)[8],!(.dT st.kds)[9],!(.od (.lst (st.rows.map D.lst))),!(qN [q,v,n])[8],!v[7],!(geD F (.rest va))[8],z.map En.fz]=.ok false:=by simp![i0,U0]
  delta uS
  rw[jG,s9,jT,jG,O,jT,jG,Ql,nq,zw,Ya,Yc,jT,tl];rfl
 | note va x t =>
  obtain⟨te,_⟩:=qeu (look (Sum.inl (v:Int)) st.ah) (λd hd=>by obtain⟨kv,m1,m2⟩:=Ur hd;rw[<- m2];exact h.ah kv m1)
  have i0:qc (geD F (.note va x t)) 0[6]=.ok (.str "note")[8]:=rfl;refine#[!(tOf st v),?_];have go:∀ A,(sIO 10 (eIOT (vf (eC (.str "note")) (vf (eOp qc (q9 10) 1[5]) (xIO io (vf (eOp qc (q9 10) 3[5]) ug)))))) [R0,!k[7],!fn[8],told,!(.dK st.ah)[9],!(grD F R)[8],!(.dT st.kds)[9],!(.od (.lst (st.rows.map D.lst))),A,!v[7],!(geD F (.note va x t))[8],!(tOf st v)[8]]
    = .nx [R0,!k[7],!fn[8],told,!(.dK st.ah)[9],!(grD F R)[8],!(.dT (F.fk x (tOf st v) st.kds))[9],!(.od (.lst (st.rows.map D.lst))),A,!v[7],!(gEv F (tOf st v) st.kds (.note va x t))[8],!(tOf st v)[8]]:=λA=>by
   have iv:=hF.run R0 told A st.ah (grD F R) st.kds (.lst (st.rows.map D.lst)) v va x t (tOf st v) he.2 (VP h.ah v) h.ki (by have:=h.kl;lia)
   have xe:(eIOT (vf (eC (.str "note")) (vf (eOp qc (q9 10) 1[5]) (xIO io (vf (eOp qc (q9 10) 3[5]) ug))))) [R0,!k[7],!fn[8],told,!(.dK st.ah)[9],!(grD F R)[8],!(.dT st.kds)[9],!(.od (.lst (st.rows.map D.lst))),A,!v[7],!(geD F (.note va x t))[8],!(tOf st v)[8]]
     = .ok (gEv F (tOf st v) st.kds (.note va x t),[R0,!k[7],!fn[8],told,!(.dK st.ah)[9],!(grD F R)[8],!(.dT (F.fk x (tOf st v) st.kds))[9],!(.od (.lst (st.rows.map D.lst))),A,!v[7],!(geD F (.note va x t))[8],!(tOf st v)[8]]):=by
    delta eIOT vf xIO
    rw[show(eC (.str "note")) [R0,!k[7],!fn[8],told,!(.dK st.ah)[9],!(grD F R)[8],!(.dT st.kds)[9],!(.od (.lst (st.rows.map D.lst))),A,!v[7],!(geD F (.note va x t))[8],!(tOf st v)[8]]=.ok (.str "note")[8]from rfl]
    rw[show(eOp qc (q9 10) 1[5]) [R0,!k[7],!fn[8],told,!(.dK st.ah)[9],!(grD F R)[8],!(.dT st.kds)[9],!(.od (.lst (st.rows.map D.lst))),A,!v[7],!(geD F (.note va x t))[8],!(tOf st v)[8]]=.ok va[7]from rfl,iv]
    rfl
   delta sIO
   rw[xe];rfl
  have nq:(tE (eOp dEq (eOp qc (q9 10) 0[5]) (eC (.str "note")))) [R0,!k[7],!fn[8],told,!(.dK st.ah)[9],!(grD F R)[8],!(.dT st.kds)[9],!(.od (.lst (st.rows.map D.lst))),!(qN [q,v,n])[8],!v[7],!(geD F (.note va x t))[8],z.map En.fz]=.ok true:=by simp![i0,U3]
  have ge:(yJ (q9 4) (q9 9)) [R0,!k[7],!fn[8],told,!(.dK st.ah)[9],!(grD F R)[8],!(.dT st.kds)[9],!(.od (.lst (st.rows.map D.lst))),!(qN [q,v,n])[8],!v[7],!(geD F (.note va x t))[8],z.map En.fz]=.ok ((look (Sum.inl (v:Int)) st.ah).getD .non)[8]:=qev (wd:=.br (.dK st.ah)) (wk:=.fz v[6]) rfl rfl rfl rfl;have U:(qk 11 (qh y9 [(yJ (q9 4) (q9 9))])) [R0,!k[7],!fn[8],told,!(.dK st.ah)[9],!(grD F R)[8],!(.dT st.kds)[9],!(.od (.lst (st.rows.map D.lst))),!(qN [q,v,n])[8],!v[7],!(geD F (.note va x t))[8],z.map En.fz]=.nx [R0,!k[7],!fn[8],told,!(.dK st.ah)[9],!(grD F R)[8],!(.dT st.kds)[9],!(.od (.lst (st.rows.map D.lst))),!(qN [q,v,n])[8],!v[7],!(geD F (.note va x t))[8],!(tOf st v)[8]]:=by simp![ge,te,tOf]
  delta uS
  rw[jG,s9,jT,jG,O,jT,jG,Ql,nq,zw,Y9,jG,U,jT,go,jT,tl];rfl
section
variable{α:Type}{F:TF α}{k:Int}{fn:D}{io:IOF}
def qeF(h:GeOk F e):1<=gv e:=by
 cases e with
 | rest v=>exact h
 | note v x t=>exact h.1
abbrev jr{α:Type}(R:List (List (GE α))):List (List Int):=R.map (·.map gv)
def JO{R:List (List (GE α))}(z:∀ r∈R,∀ e∈r,GeOk F e):∀ r∈jr R,∀ x∈r,1<=x:=by
 intro r hr x hx;obtain⟨q,hq,rfl⟩:=gK.mp hr;obtain⟨e,he,rfl⟩:=gK.mp hx;exact qeF (z q hq e he)
def JP{R:List (List (GE α))}(B:∀ r∈R,∀ e∈r,GeOk F e){z O:List (List Int)}{s:List Int}(h:jq (qR 0 (jr R))=z++s::O) :
  ∃(q:Int) (v n:Nat) (r:List (GE α)) (e:GE α),s=[q,v,n]/\R[v]?=!r/\r[n]?=!e/\n=(z.filter λt=>vof t==v)[1]/\evAt R s=!e/\∀ st,zK F R st s=yX F st v e:=by
 obtain⟨q,v,n,r',e1,e2,e3,e4⟩:=qet (jr R) (JO B) h;rw[gM]at e2;cases er:R[v]? with
 | none=>rw[er]at e2;cases e2
 | some r =>
  rw[er]at e2;obtain rfl:r.map gv=r':=by simpa using e2
  rw[gj]at e3;have ee:=gJ e3;have ev:evAt R s=!r[n]:=by
   subst e1;show(R[((v:Int)).toNat]?).bind _=_;rw[tY,er]
   assumption
  refine#[q,v,n,r,r[n],e1,er,ee,e4,ev,λst=>?_]
  delta zK
  rw[ev];subst e1;rfl
def Ut(Z:TurnOk F k fn io)(R)(hR:∀ r∈R,∀ e∈r,GeOk F e)(R0 told)(L)(hL:L<=1000000)(hl:(jq (qR 0 (jr R)))[1]<=5000):∀ S2 S1 st (j8 j9 z B:Option D),jq (qR 0 (jr R))=S1++S2->TsOk L R st S1.length ->
  (∃ i8 i9 O U:Option D,qH (gV 8) (uS io) (S2.map qN) [R0,!k[7],!fn[8],told,!(.dK st.ah)[9],!(grD F R)[8],!(.dT st.kds)[9],!(.od (.lst (st.rows.map D.lst))),j8.map En.fz,j9.map En.fz,z.map En.fz,B.map En.fz]
  = .nx [R0,!k[7],!fn[8],told,!(.dK (S2.foldl (zK F R) st).ah)[9],!(grD F R)[8],!(.dT (S2.foldl (zK F R) st).kds)[9],!(.od (.lst ((S2.foldl (zK F R) st).rows.map D.lst))),i8.map En.fz,i9.map En.fz,O.map En.fz,U.map En.fz])/\TsOk L R (S2.foldl (zK F R) st) (S1++S2)[1]:=by
 intro S2
 induction S2 with
 | nil=>intro S1 st j8 j9 z B _ h;exact#[#[j8,j9,z,B,rfl],by simpa using h]
 | cons s S2 ih =>
  intro S1 st j8 j9 z B e h;obtain⟨q,v,n,r,ev,e1,er,ee,_,_,sp⟩:=JP hR e;have pe:=hR r (hV er) ev (hV ee);have hm:S1.length<=5000:=by rw[e,gH]at hl;lia
  obtain⟨U,se⟩:=qeE Z R R0 told st S1.length L h hL hm v n q r ev er ee pe (j9.map En.fz) (z.map En.fz) B;obtain⟨⟨i8,i9,O,Y,f⟩,t⟩:=ih (S1++[s]) (yX F st v ev) (!(qN s)) (!v[6]) (!(gEv F (tOf st v) st.kds ev)) U (by rw[e];simp) (by rw[gH];exact(qeB Z h (gw.mp er).1 ev pe))
  rw[pS,sp];refine#[#[i8,i9,O,Y,?_],by simpa using t]
  rw[gW,vj (kD)];simp[fY,p6];subst e1;rw[se];exact f
def bar0(R:List (List (GE α)))(z:List (Sum Int Str×D)):TS:=#[[],R.map λ_=>[],z]
def jw(F:TF α)(R:List (List (GE α)))(z:List (Sum Int Str×D)):TS:=(jq (qR 0 (jr R))).foldl (zK F R) (bar0 R z)
def brT(t:TS):D:=.lst (t.rows.map D.lst)
def JQ{R:List (List (GE α))}(z:R.length<=8)(B:∀ r∈R,r[1]<=500):(jq (qR 0 (jr R)))[1]<=4000:=by
 rw[(wZ _).length_eq];have:=Ug 500 (jr R) 0 λr hr=>by
  obtain⟨q,hq,rfl⟩:=gK.mp hr
  simp_all
 grind
def Uu{R:List (List (GE α))}{z:List (Sum Int Str×D)}(B:AhOk z)(O:z[1]<=L):TsOk L R (bar0 R z) 0:=by
 refine#[λ_ h=>(by cases h),tK _,B,O,?_,λr hr=>?_]
 .show(R.map λ_=>[])[1]=_
  simp
 obtain⟨x,_,e⟩:=gK.mp (hr)
 simp_all
def VQ(F:TF α)(r:List (GE α)):Prop:=(∀ e∈r,GeOk F e)/\r[1]<=500/\1<=r[1]
def zj(F:TF α)(R:List (List (GE α))):Prop:=R.length<=8/\∀ r∈R,VQ F r
abbrev uT(io:IOF):SF:=(qf (qk 6 eDT)
 (qf (uc 7 (YZ 1 (iVc 5) (gV 12) (ji [])))
 (qf (qI (qZ (qh wm [(q9 5)])) (gV 8) (uS io))
 (y3 7 (jn 7 (qY 3 (q9 7)))))))
def xy(F:TF α)(R:List (List (GE α))):List (List EvS):=R.map λr=>r.map λe=>(geD F e,gv e)
def qeG(R):evSB (xy F R)=grD F R:=by
 delta evSB xy
 rw[hE];congr 1;apply t3;intro r _;show D.lst ((r.map λe=>(geD F e,gv e)).map Prod.fst)=_
 rw[hE];rfl
def qeH(R):(xy F R).map (·.map Prod.snd)=jr R:=by
 delta xy
 simp
def Uv(R)(h:zj F R)(w)(z:w=.fz (grD F R)\/w=.br (grD F R)):wm [w]=.ok (.lst ((jq (qR 0 (jr R))).map qN))[9]:=by
 have io:=qea (xy F R) (λr hr e he=>by
  obtain⟨q,hq,rfl⟩:=gK.mp hr;obtain⟨x,hx,rfl⟩:=gK.mp he;cases x<;>rfl) (λr hr=>by
  obtain⟨q,hq,rfl⟩:=gK.mp hr;rw[gj];have:=(h.2 q hq).2.1;lia) (by delta xy;rw[gj];have:=h.1;omega) w (by rw[qeG];exact z)
 rw[qeH]at io;exact io
def qeI(hF:TurnOk F k fn io)(R)(h:zj F R)(W)(B)(hW:W=.fz B\/W=.br B)(T)(hT:T[1]<=1000)(ah)(ha:AhOk ah)(L)(hL:L<=1000000)(hb:ah[1]<=L)(x6:Option Kd)(j7 j8 j9 O U:Option D):∃ i8 i9 Y Z:Option D,
  (uT io) [!W,!k[7],!fn[8],!(.lst T)[9],!(.dK ah)[9],!(grD F R)[8],x6.map λq=>En.ow (.dT q),j7.map En.fz,j8.map En.fz,j9.map En.fz,O.map En.fz,U.map En.fz]
  = .nx [!W,!k[7],!fn[8],!(.lst (T++[brT (jw F R ah)]))[9],!(.dK (jw F R ah).ah)[9],!(grD F R)[8],!(.dT (jw F R ah).kds)[9],!(brT (jw F R ah))[8],i8.map En.fz,i9.map En.fz,Y.map En.fz,Z.map En.fz]:=by
 have hz:sz=16777216:=rfl;have hR:∀ r∈R,∀ e∈r,GeOk F e:=λr hr=>(h.2 r hr).1
 have ln:=JQ h.1 λr hr=>(h.2 r hr).2.1
 have r0:(bar0 R ah).rows.map D.lst=(R.map (gwD F)).map λ_=>D.lst []:=by
  show(R.map λ_=>[]).map D.lst=_
  simp
 obtain⟨⟨i8,i9,Y,Z,f⟩,t⟩:=Ut hF R hR ↑W (!(.lst T)[9]) L hL "" (jq (qR 0 (jr R))) [] (bar0 R ah) j8 j9 O U rfl (Uu ha hb)
 rw[show(bar0 R ah).ah=ah from rfl,show(bar0 R ah).kds=[]from rfl,r0]at f
 refine#[i8,i9,Y,Z,?_]
 delta uT
 rw[jG,show(qk 6 eDT) [!W,!k[7],!fn[8],!(.lst T)[9],!(.dK ah)[9],!(grD F R)[8],x6.map λq=>En.ow (.dT q),j7.map En.fz,j8.map En.fz,j9.map En.fz,O.map En.fz,U.map En.fz]=.nx [!W,!k[7],!fn[8],!(.lst T)[9],!(.dK ah)[9],!(grD F R)[8],!(.dT [])[9],j7.map En.fz,j8.map En.fz,j9.map En.fz,O.map En.fz,U.map En.fz]from rfl,jT]
 rw[jG,qdo (ds:=(R.map (gwD F)).map λ_=>D.lst []) (qdq (ds:=R.map (gwD F)) (wY (w:=.fz (grD F R)) rfl rfl) (by rw[gj];have:=h.1;lia) (qdp adO 12 (λ_=>D.lst []) _ _ λd _=>#[.ow (.lst []),rfl,rfl])) (by rcases hW with z|z<;>(subst z;cases j7<;>cases j8<;>cases j9<;>cases O<;>cases U<;>rfl)),jT]
 simp only[fY,p6];have it:qZ (qh wm [(q9 5)]) [!W,!k[7],!fn[8],!(.lst T)[9],!(.dK ah)[9],!(grD F R)[8],!(.dT [])[9],!(.od (.lst ((R.map (gwD F)).map λ_=>D.lst []))),j8.map En.fz,j9.map En.fz,O.map En.fz,U.map En.fz]=.ok ((jq (qR 0 (jr R))).map qN) :=
  vV (w:=.ow (.lst ((jq (qR 0 (jr R))).map qN))) (by simp![Uv R h _ (.inl rfl)]) rfl
 rw[jG,Qt,it,zw,f];show(qY 3 (q9 7)) [!W,!k[7],!fn[8],!(.lst T)[9],!(.dK (jw F R ah).ah)[9],!(grD F R)[8],!(.dT (jw F R ah).kds)[9],!(brT (jw F R ah))[8],i8.map En.fz,i9.map En.fz,Y.map En.fz,Z.map En.fz]=_;rw[zy (xs:=T) (d:=brT (jw F R ah)) rfl "" rfl]
 rfl
def yg(F:TF α):List (List (List (GE α)))->List (Sum Int Str×D)->List TS
 | [],_=>[]
 | R::Rs,ah=>jw F R ah::yg F Rs (jw F R ah).ah
def qeJ(z:TurnOk F k fn io)(R)(h:zj F R)(ah)(B:AhOk ah)(L)(O:L<=1000000)(U:ah[1]<=L):TsOk L R (jw F R ah) (jq (qR 0 (jr R)))[1]:=by
 have hR:=λr hr=>(h.2 r hr).1
 have ln:=JQ h.1 λr hr=>(h.2 r hr).2.1
 have:=(Ut z R hR none none L O "" (jq (qR 0 (jr R))) [] (bar0 R ah) none none none none rfl (Uu B U)).2
 exact this
def qeK(Z:TurnOk F k fn io)(W)(B)(hW:W=.fz B\/W=.br B):∀ Rs T ah L (x5:Option D) (x6:Option Kd) (j7 j8 j9 z O:Option D),(∀ R∈Rs,zj F R)->T[1]+Rs.length<=1000->AhOk ah->ah[1]<=L->L+4096*Rs.length<=1000000->∃ ρ,
  qH (gV 5) (uT io) (Rs.map (grD F)) [!W,!k[7],!fn[8],!(.lst T)[9],!(.dK ah)[9],x5.map En.fz,x6.map λq=>En.ow (.dT q),j7.map En.fz,j8.map En.fz,j9.map En.fz,z.map En.fz,O.map En.fz]=.nx ρ/\ρ[3]?=!(!(.lst (T++(yg F Rs ah).map brT))[9]):=by
 intro Rs
 induction Rs with
 | nil=>intro T ah L x5 x6 j7 j8 j9 z O _ _ _ _ _;exact#[_,rfl,by simp[yg]]
 | cons R Rs ih =>
  intro T ah L x5 x6 j7 j8 j9 z O hk hT ha hl hL;rw[gQ]at hT hL;have h:=hk R "s"
  have ln:=JQ h.1 λr hr=>(h.2 r hr).2.1
  obtain⟨i8,i9,U,Y,e⟩:=qeI Z R h W B hW T "" ah ha L "" hl x6 j7 j8 j9 z O
  have to:=qeJ Z R h ah ha L "" hl
  obtain⟨ρ,e2,e3⟩:=ih (T++[brT (jw F R ah)]) (jw F R ah).ah (L+4096) (!(grD F R)) (!(jw F R ah).kds) (!(brT (jw F R ah))) i8 i9 U Y (λx hx=>hk x (gu _ hx)) (by rw[gH];simp;lia) to.ah (by have:=to.al;lia) ""
  refine#[ρ,?_,by rw[e3];simp[yg]]
  rw[gW,vj (kD)];simp[fY,p6];rw[e];exact e2
abbrev Uw(io:IOF):SF:=(qf (qk 3 (ji []))
 (qf (qk 4 eDK)
 (qf (jn 0 (qI (iV 0) (gV 5) (uT io)))
 (jy 3))))
def qeL(O:TurnOk F k fn io)(Rs)(h:∀ R∈Rs,zj F R)(U:Rs.length<=200)(w)(B:w=.fz (.lst (Rs.map (grD F)))\/w=.br (.lst (Rs.map (grD F)))) :
  den 12 (Uw io) [w,.fz k[6],.fz fn]=.ok (.lst ((yg F Rs []).map brT))[9]:=by
 obtain⟨ρ,e,e3⟩:=qeK O w (.lst (Rs.map (grD F))) B Rs [] [] 0 none none none none none none none h (by simp;lia) (λ_ z=>(by cases z)) (gE _) ""
 have it:iV 0 [!w,!k[7],!fn[8],!(.lst [])[9],!(.dK [])[9],none,none,none,none,none,none,none]=.ok (Rs.map (grD F)):=by rcases B with z|z<;>(subst z;rfl)
 have fr:kI (!(!w)) 0 [!w,!k[7],!fn[8],!(.lst [])[9],!(.dK [])[9],none,none,none,none,none,none,none]=[!w,!k[7],!fn[8],!(.lst [])[9],!(.dK [])[9],none,none,none,none,none,none,none]:=by rcases B with z|z<;>(subst z;rfl)
 show fin (qf (qk 3 (ji [])) _ [!w,!k[7],!fn[8],none,none,none,none,none,none,none,none,none])=_;rw[jG,show(qk 3 (ji [])) [!w,!k[7],!fn[8],none,none,none,none,none,none,none,none,none]=.nx [!w,!k[7],!fn[8],!(.lst [])[9],none,none,none,none,none,none,none,none]from rfl,jT,jG,show(qk 4 eDK) [!w,!k[7],!fn[8],!(.lst [])[9],none,none,none,none,none,none,none,none]=.nx [!w,!k[7],!fn[8],!(.lst [])[9],!(.dK [])[9],none,none,none,none,none,none,none]from rfl,jT,jG,qaw,show([!w,!k[7],!fn[8],!(.lst [])[9],!(.dK [])[9],none,none,none,none,none,none,none])[0]?=↑(!w)from rfl,fr,Qt,it,zw]
 have e:qH (gV 5) (uT io) (Rs.map (grD F)) [!w,!k[7],!fn[8],!(.lst [])[9],!(.dK [])[9],none,none,none,none,none,none,none]=.nx ρ:=e;rw[e,jT]
 delta jy
 rw[e3];rfl
def VR:GE α->Bool
 | .rest _=>false
 | .note _ _ t=>t
def qeM(T)(kds)(e):wu (!(gEv F T kds e))=VR e:=by cases e<;>rfl
def cnt(z:List (List Int))(v:Nat):Nat:=(z.filter λt=>vof t==(v:Int))[1]
def VS(r:List (GE α))(c:Nat)(b:Bool):Bool:=match c with
 | 0=>b
 | c+1=>match r[c]? with|some e=>VR e|none=>false
def Tr(R:List (List (GE α)))(ah:List (Sum Int Str×D))(z:List (List Int))(st:TS):Prop :=
 st.rows.length=R.length/\∀(v:Nat) (r:List (GE α)),R[v]?=!r->(st.rows.getD v [])[1]=cnt z v/\wu (look (Sum.inl (v:Int)) st.ah)=VS r (cnt z v) (wu (look (Sum.inl (v:Int)) ah))
def tr_0(R:List (List (GE α)))(ah):Tr R ah [] (bar0 R ah):=by
 refine#[by show(R.map λ_=>[])[1]=_;rw[gj],λv r h=>#[?_,rfl]]
 show((R.map λ_=>[]).getD v [])[1]=0
 simp_all
def qeN(S1)(s)(v):cnt (S1++[s]) v=cnt S1 v+if vof s=v then 1 else 0:=by
 delta cnt
 by_cases c:vof s=v
 .simp_all
 simp_all
def VT{R:List (List (GE α))}(O:∀ r∈R,∀ e∈r,GeOk F e){ah:List (Sum Int Str×D)}{B U:List (List Int)}{s:List Int}{st:TS}(h:jq (qR 0 (jr R))=B++s::U)(t:Tr R ah B st):Tr R ah (B++[s]) (zK F R st s):=by
 obtain⟨q,v,n,r,e,e1,er,ee,en,_,sp⟩:=JP O h;rw[sp];obtain⟨tl,tt⟩:=t;have hv:v<st.rows.length:=by rw[tl];exact(gw.mp er).1
 have vs:vof s=v:=by subst e1;rfl
 refine#[by show(st.rows.set v _)[1]=_;rw[bD];exact tl,λu ru hu=>?_]
 obtain⟨a,b⟩:=tt u ru hu;rw[qeN];by_cases c:u=v
 .subst c;rw[er]at hu;cases hu;rw[if_pos vs];constructor
  .show((st.rows.set u _).getD u [])[1]=_;rw[tG,List.getElem?_set_self hv];show(st.rows.getD u []++[_])[1]=_;rw[gH,a];rfl
  show wu (look (Sum.inl (u:Int)) (jm (Sum.inl u) _ st.ah))=_;rw[Us,if_pos rfl,qeM];show _=(match r[cnt B u]? with|some e=>VR e|none=>false)
  rw[show cnt B u=n from en.symm,ee]
 have ne:¬ (vof s=u):=by rw[vs];lia
 rw[if_neg ne];constructor
 .show((st.rows.set v _).getD u [])[1]=_;rw[tG,hU (tm c)];exact a
 show wu (look (Sum.inl (u:Int)) (jm (Sum.inl v) _ st.ah))=_;rw[Us,if_neg (by intro z;lia)]
 exact b
def qeO{R:List (List (GE α))}(z:∀ r∈R,∀ e∈r,GeOk F e){B:List (Sum Int Str×D)}:∀ S2 S1 st,jq (qR 0 (jr R))=S1++S2->Tr R B S1 st->∀(v n:Nat) x,(st.rows.getD v [])[n]?=!x->((S2.foldl (zK F R) st).rows.getD v [])[n]?=!x:=by
 intro S2
 induction S2 with
 | nil=>intro S1 st _ _ v n x h;exact h
 | cons s S2 ih =>
  refine λS1 st h t u n x hx=>ih (S1++[s]) (zK F R st s) (by rw[h];simp) (VT z h t) u n x ?_
  obtain⟨q,v,m,r,e,e1,er,ee,en,_,sp⟩:=JP z h;rw[sp];have hv:v<st.rows.length:=by rw[t.1];exact(gw.mp er).1
  show((st.rows.set v _).getD u [])[n]?=!x;by_cases c:u=v
  .subst c;rw[tG,List.getElem?_set_self hv];show(st.rows.getD u []++[_])[n]?=_;rw[t8 (gw.mp hx).1];exact hx
  rw[tG,hU (tm c)];exact hx
def qeP{R:List (List (GE α))}(B:∀ r∈R,∀ e∈r,GeOk F e){ah:List (Sum Int Str×D)}{z O:List (List Int)}{s:List Int}{st:TS}(h:jq (qR 0 (jr R))=z++s::O)(t:Tr R ah z st)(Y:jw F R ah=(s::O).foldl (zK F R) st)
  {q:Int}{v n:Nat}{r:List (GE α)}{e:GE α}(Z:s=[q,(v:Int),n])(U:R[v]?=!r)(ee:r[n]?=!e):((jw F R ah).rows.getD v [])[n]?=!(gEv F (tOf st v) st.kds e)/\wu (look (Sum.inl (v:Int)) st.ah)=VS r n (wu (look (Sum.inl (v:Int)) ah)):=by
 obtain⟨q',v',n',r',e',f1,f2,f3,f4,_,sp⟩:=JP B h;have z1:v=v':=""
 have z2:n=n':=""
 subst z1 z2;obtain⟨a,b⟩:=t.2 v r U;have cn:cnt z v=n:=f4.symm;rw[cn]at a b;refine#[?_,b];rw[Y];refine qeO B O (z++[s]) (zK F R st s) (by rw[h];simp) (VT B h t) v n _ ?_
 rw[sp];have hv:v<st.rows.length:=by rw[t.1];exact(gw.mp U).1
 show((st.rows.set v _).getD v [])[n]?=_
 simp_all
def Ux{R:List (List (GE α))}(O:∀ r∈R,∀ e∈r,GeOk F e){z:List (Sum Int Str×D)}:∀(A S1 B:List (List Int)) (st:TS),jq (qR 0 (jr R))=S1++(A++B)->Tr R z S1 st->Tr R z (S1++A) (A.foldl (zK F R) st):=λA=>A.rec
 (λS1 B st _ t=>by rw[tT];exact t)
 λs A IH S1 B st h t=>by
  have h1:=h;have:=IH (S1++[s]) B (zK F R st s) (by rw[h1];simp) (VT O h1 t)
  simpa using this
def qeQ{R:List (List (GE α))}(z:∀ r∈R,∀ e∈r,GeOk F e)(ah):Tr R ah (jq (qR 0 (jr R))) (jw F R ah):=by
 have:=Ux z (jq (qR 0 (jr R))) [] [] (bar0 R ah) "s" (tr_0 R ah)
 exact this
def qeR{R:List (List (GE α))}(z:∀ r∈R,∀ e∈r,GeOk F e){v:Nat}{r:List (GE α)}(B:R[v]?=!r):cnt (jq (qR 0 (jr R))) v=r[1]:=by
 delta cnt
 rw[(VN (jr R) (JO z) v (r.map gv) (by rw[gM,B];rfl)),VI,gj]
def VU{R:List (List (GE α))}(z:∀ r∈R,∀ e∈r,GeOk F e)(ah):(jw F R ah).rows.length=R.length/\∀ v r,R[v]?=!r->((jw F R ah).rows.getD v [])[1]=r[1]/\wu (look (Sum.inl (v:Int)) (jw F R ah).ah)=VS r r[1] (wu (look (Sum.inl (v:Int)) ah)):=by
 obtain⟨a,b⟩:=qeQ z ah;refine#[a,λv r er=>?_]
 obtain⟨c,d⟩:=b v r er;rw[qeR z er]at c d;exact#[c,d]
theorem Uy(v):∀ r p n (i:Nat),i<r[1]->∃ q,(jD v p n r)[i]?=↑[q,v,n+i]
 | [],_,_,_,hz=>by simp at hz
 | x::r,p,n,0,h=>#[p,by simp[jD]]
 | x::r,p,n,i+1,h=>by
  obtain⟨q,e⟩:=Uy v r (p+x) (n+1) i h[""]
  exact#[q,by rw[jD,pI,e];simp;lia]
def qeS{R:List (List (GE α))}(z:∀ r∈R,∀ e∈r,GeOk F e){v n:Nat}{r:List (GE α)}(B:R[v]?=!r)(O:n<r[1]):∃ q S1 S2,jq (qR 0 (jr R))=S1++[q,(v:Int),n]::S2:=by
 obtain⟨q,e⟩:=Uy v (r.map gv) 0 0 n (by rw[gj];exact O)
 rw[Int.zero_add]at e;have m:[q,v,n]∈jq (qR 0 (jr R)):=by
  have:[q,v,n]∈(jq (qR 0 (jr R))).filter λs=>vof s==v:=by
   rw[(VN (jr R) (JO z) v (r.map gv) (by rw[gM,B];rfl))]
   exact hV e
  simp_all
 obtain⟨S1,S2,h⟩:=List.append_of_mem m;exact#[q,S1,S2,h]
def qeT{R:List (List (GE α))}(z:∀ r∈R,∀ e∈r,GeOk F e)(ah){v n:Nat}{r:List (GE α)}{e:GE α}(B:R[v]?=!r)(O:r[n]?=!e):∃ T kds,((jw F R ah).rows.getD v [])[n]?=!(gEv F T kds e):=by
 obtain⟨q,S1,S2,h⟩:=qeS z B (gw.mp O).1;have ht:jw F R ah=([q,v,n]::S2).foldl (zK F R) (S1.foldl (zK F R) (bar0 R ah)):=by
  delta jw
  simp_all
 exact#[_,_,(qeP z h (Ux z S1 [] ([q,v,n]::S2) (bar0 R ah) (by rw[fX];exact h) (tr_0 R ah)) ht rfl B O).1]
end
structure H3 where
 m:Nat
 o:Int
 s:Option Int
def sD:Option Int->D
 | none=>.non
 | some n=>.int n
def h3D(h:H3):D:=.tup [.str (fcg h.m),.int h.o,sD h.s]
abbrev io0:IOF:=eIOV 2 "heads_of" Jw 6 [(eOp qc (q9 10) 2[5]),(q9 11)] [(q9 1)]
def isT:D->Bool
 | .non=>false
 | _=>true
def FH(k:Int):TF (List Int):=#[λps=>.tup (ps.map D.int),λps T kds=>.tup (wO (isT T) k kds ps),λps T kds=>vY (isT T) k kds ps,PsOk]
theorem qeU(k:Int):TurnOk (FH k) k (dFn "heads_of") io0 where
 run:=λR0 B A ah br kds O v va x t T hx hT hk hl=>by
  have hn:wH T .non=.ok (.bl (not (isT T)))[8]:=by rcases hT with z|⟨hs,z⟩<;>(subst z;rfl)
  exact qeD rfl (qeC rfl rfl rfl rfl rfl rfl (qbS λa=>qeo a T (isT T) k hn x kds hk (by have:x[1]<=24:=hx.2.1;lia)))
 ki:=λx T kds hx hT hk=>by
  obtain⟨a,b⟩:=qei (isT T) k x kds hk;have:x[1]<=24:=hx.2.1;exact#[a,by show(vY (isT T) k kds x)[1]<=_;lia]
 tp:=λx T kds _ _ _=>#[_,rfl]
def FP(_:Int):TF (List H3):=#[λhs=>.tup (hs.map h3D),λ_ T _=>T,λ_ _ kds=>kds,λhs=>hs[1]<=24/\∀ h∈hs,h.m<7]
def hd3(kds:Kd)(go:Bool)(p k:Int):H3:=#[ltN p k,ocN p k,if wr kds go p k=true then !(alN p k)else none]
def qeV(kds)(go)(p k):h3D (hd3 kds go p k)=hdH kds go p k:=by
 delta hd3 hdH
 cases c:wr kds go p k<;>rfl
def hds3(go:Bool)(k:Int):Kd->List Int->List H3
 | _,[]=>[]
 | kds,p::ps=>hd3 kds go p k::hds3 go k (hdK kds go p k) ps
def Uz(go:Bool)(k:Int):∀(ps:List Int) (kds:Kd),(hds3 go k kds ps).map h3D=wO go k kds ps:=λps=>ps.rec
 (λ_=>rfl)
 λp ps IH kds=>by rw[hds3,wO,gW,qeV,IH]
def VV(go:Bool)(k:Int):∀(ps:List Int) (kds:Kd),(hds3 go k kds ps)[1]=ps[1]/\∀ h∈hds3 go k kds ps,h.m<7:=λps=>ps.rec
 (λ_=>#[rfl,λ_ h=>by cases h])
 λp ps IH kds=>by
  obtain⟨a,b⟩:=IH (hdK kds go p k);refine#[by rw[hds3,gQ,gQ,a],λh hh=>?_]
  rcases gG.mp hh with z|z
  .subst z;exact VL p k
  exact b h z
def uU(x:Str):Nat:=if x=fcg 0 then 0 else if x=fcg 1 then 1 else if x=fcg 2 then 2 else if x=fcg 3 then 3 else if x=fcg 4 then 4 else if x=fcg 5 then 5 else 6
theorem qeW:∀ m,m<7->uU (fcg m)=m
 | 0,_=>by decide
 | 1,_=>by decide
 | 2,_=>by decide
 | 3,_=>by decide
 | 4,_=>by decide
 | 5,_=>by decide
 | 6,_=>by decide
 | n+7,h=>absurd h ""
def uV:D->H3
 | .tup [.str x,.int o,.int n]=>#[uU x,o,!n]
 | .tup [.str x,.int o,_]=>#[uU x,o,none]
 | _=>#[0,0,none]
def qeX(h)(z:h.m<7):uV (h3D h)=h:=by
 obtain⟨m,o,s⟩:=h;have e:=qeW m z;cases s with
 | none=>show(#[uU (fcg m),o,none]:H3)=_;rw[e]
 | some n=>show(#[uU (fcg m),o,!n]:H3)=_;rw[e]
def dec:D->GE (List H3)
 | .tup [_,.int v]=>.rest v
 | .tup [_,.int v,.tup hs,.bl t]=>.note v (hs.map uV) t
 | _=>.rest 0
def hEv(k:Int)(T:D)(kds:Kd):GE (List Int)->GE (List H3)
 | .rest v=>.rest v
 | .note v ps t=>.note v (hds3 (isT T) k kds ps) t
def VW(k)(T)(kds)(e):dec (gEv (FH k) T kds e)=hEv k T kds e:=by
 cases e with
 | rest v=>rfl
 | note v ps t =>
  show GE.note v ((wO (isT T) k kds ps).map uV) t=GE.note v (hds3 (isT T) k kds ps) t;rw[<- Uz,hE];congr 1;have:∀ l:List H3,(∀ h∈l,h.m<7)->l.map (uV∘h3D)=l:=by
   intro l
   induction l with
   | nil=>intro _;rfl
   | cons a l ih =>
    intro h;rw[gW,ih λx hx=>h x (gu _ hx)]
    show uV (h3D a)::l=_;rw[qeX a (h a "s")]
  exact this _ (VV (isT T) k ps kds).2
def qeY(k)(T)(kds)(e):geD (FP k) (hEv k T kds e)=gEv (FH k) T kds e:=by
 cases e with
 | rest v=>rfl
 | note v ps t =>
  show D.tup [.str "note",.int v,.tup ((hds3 (isT T) k kds ps).map h3D),.bl t]=_;rw[Uz];rfl
def qeZ(k)(T)(kds)(e)(h:GeOk (FH k) e):GeOk (FP k) (hEv k T kds e):=by
 cases e with
 | rest v=>exact h
 | note v ps t =>
  have l3:=h.2.2.1;obtain⟨a,b⟩:=VV (isT T) k ps kds;exact#[h.1,"",b]
def Qof(k:Int)(R:List (List (GE (List Int))))(z:List (Sum Int Str×D)):List (List (GE (List H3))):=(jw (FH k) R z).rows.map (·.map dec)
def UA{R:List (List (GE (List Int)))}(O:∀ r∈R,∀ e∈r,GeOk (FH k) e)(ah){v:Nat}{r:List (GE (List Int))}(B:R[v]?=!r) :
  ∃ z,(jw (FH k) R ah).rows[v]?=!z/\z[1]=r[1]/\(Qof k R ah)[v]?=!(z.map dec)/\∀(n:Nat) e,r[n]?=!e->∃ T kds,z[n]?=!(gEv (FH k) T kds e):=by
 obtain⟨a,b⟩:=VU O ah;have hv:v<(jw (FH k) R ah).rows.length:=by rw[a];exact(gw.mp B).1
 have e1:=gJ hv;have gd:(jw (FH k) R ah).rows.getD v []=(jw (FH k) R ah).rows[v]:=by rw[tG,e1];rfl
 refine#[_,e1,by rw[<- gd];exact(b v r B).1,by delta Qof;rw[gM,e1];rfl,λn e ee=>?_]
 obtain⟨T,kds,f⟩:=qeT O ah B ee;rw[gd]at f;exact#[T,kds,f]
def UB{R:List (List (GE (List Int)))}(z:∀ r∈R,∀ e∈r,GeOk (FH k) e)(ah):(Qof k R ah)[1]=R.length:=by
 delta Qof
 rw[gj,(VU z ah).1]
def qf0{β:Type}(g)(g':GE (List Int)->β){k:Int}(O:∀ T kds e,g (hEv k T kds e)=g' e){R:List (List (GE (List Int)))}(B:∀ r∈R,∀ e∈r,GeOk (FH k) e)(ah):(Qof k R ah).map (·.map g)=R.map (·.map g'):=by
 apply dY;intro v;rw[gM,gM];cases er:R[v]? with
 | none =>
  have:(Qof k R ah)[v]?=none:=by
   rw[List.getElem?_eq_none_iff]at er ⊢;rw[UB B ah];exact er
  rw[this];rfl
 | some r =>
  obtain⟨z,e1,e2,e3,e4⟩:=UA B ah er;rw[e3];show ↑((z.map dec).map g)=!(r.map g');congr 1;apply dY;intro n;rw[gM,gM,gM];cases ee:r[n]? with
  | none =>
   simp_all
  | some e =>
   obtain⟨T,kds,f⟩:=e4 n e ee;rw[f];show ↑(g (dec (gEv (FH k) T kds e)))=!(g' e);rw[VW,O]
def Q_ev{R:List (List (GE (List Int)))}(U:∀ r∈R,∀ e∈r,GeOk (FH k) e)(ah){z:List D}(Y:z∈(jw (FH k) R ah).rows):∃ r∈R,z[1]=r[1]/\∀ d∈z,∃ T kds,∃ e∈r,d=gEv (FH k) T kds e:=by
 obtain⟨v,hv,e0⟩:=tF.mp Y;have B:v<R.length:=by rw[<- (VU U ah).1];exact hv
 obtain⟨O,e1,e2,e3,e4⟩:=UA U ah (gJ B);have:O=z:=by
  simp_all
 subst this;refine#[R[v],fT B,e2,λd hd=>?_]
 obtain⟨n,hn,en⟩:=tF.mp hd;obtain⟨T,kds,f⟩:=e4 n _ (gJ "")
 rw[gJ hn,en]at f;exact#[T,kds,R[v][n],fT _,tH f]
def Q_D{R:List (List (GE (List Int)))}(O:∀ r∈R,∀ e∈r,GeOk (FH k) e)(ah):grD (FP k) (Qof k R ah)=brT (jw (FH k) R ah):=by
 delta grD Qof
 rw[hE];congr 1;apply t3;intro B hm;show D.lst ((B.map dec).map (geD (FP k)))=D.lst B;rw[hE];congr 1;obtain⟨r,_,_,h⟩:=Q_ev O ah hm;refine Eq.trans (t3 λd hd=>?_) (List.map_id' _)
 obtain⟨T,kds,e,_,z⟩:=h d hd;subst z;show geD (FP k) (dec (gEv (FH k) T kds e))=_;rw[VW,qeY]
def Q_ok{R:List (List (GE (List Int)))}(h:zj (FH k) R)(ah):zj (FP k) (Qof k R ah):=by
 have hR:=λr hr=>(h.2 r hr).1
 refine#[by rw[UB hR ah];exact h.1,λrq hq=>?_]
 obtain⟨B,hm,e0⟩:=gK.mp hq;obtain⟨r,hr,hl,he⟩:=Q_ev hR ah hm;obtain⟨a,b,c⟩:=h.2 r hr;subst e0;refine#[λx hx=>?_,by rw[gj];lia]
 obtain⟨d,hd,ed⟩:=gK.mp hx;obtain⟨T,kds,e,me,z⟩:=he d hd;subst z;subst ed;rw[VW];exact qeZ k T kds e (a e me)
def gOf:Ev->GE (List Int)
 | .rest v=>.rest v
 | .note v ps t=>.note v ps t
def gR(R:List (List Ev)):List (List (GE (List Int))):=R.map (·.map gOf)
def qf1(k)(e):geD (FH k) (gOf e)=evD e:=by cases e<;>rfl
def gR_D(k)(R):grD (FH k) (gR R)=brD R:=by
 delta grD gR
 rw[hE];congr 1;apply t3;intro r _;show D.lst ((r.map gOf).map (geD (FH k)))=D.lst (r.map evD);rw[hE];congr 1;apply t3;exact λe _=>qf1 k e
def qf2(k)(R)(h:R.length<=8/\∀ r∈R,PRow r):zj (FH k) (gR R):=by
 refine#[by delta gR;rw[gj];exact h.1,λr hr=>?_]
 obtain⟨q,hq,e⟩:=gK.mp hr;subst e;obtain⟨a,b,c⟩:=h.2 q hq;refine#[λx hx=>?_,by rw[gj];exact b,by rw[gj];exact c]
 obtain⟨y,hy,ey⟩:=gK.mp hx;subst ey;have:=a y hy;cases y with
 | rest v=>exact this
 | note v ps t=>exact this
def QsOf(k:Int):List (List (List Ev))->List (Sum Int Str×D)->List (List (List (GE (List H3))))
 | [],_=>[]
 | R::Rs,ah=>Qof k (gR R) ah::QsOf k Rs (jw (FH k) (gR R) ah).ah
theorem Qs_D(k):∀ Rs ah,(∀ R∈Rs,zj (FH k) (gR R))->(QsOf k Rs ah).map (grD (FP k))=(yg (FH k) (Rs.map gR) ah).map brT/\∀ Q∈QsOf k Rs ah,zj (FP k) Q
 | [],_,_=>#[rfl,λ_ z=>by cases z]
 | R::Rs,ah,h=>by
  have hR:=h R "s"
  obtain⟨a,b⟩:=Qs_D k Rs (jw (FH k) (gR R) ah).ah λx hx=>h x (gu _ hx)
  refine#[?_,λQ hQ=>?_]
  .rw[QsOf,gW,gW,yg,gW,a,Q_D λr hr=>(hR.2 r hr).1]
  rcases gG.mp hQ with z|z
  .subst z;exact Q_ok hR ah
  exact b Q z
def UC{p:Int->Prop}:∀(ys:List D),(∀ y∈ys,∃ n:Int,y=.int n/\p n)->∃ xs:List Int,ys=xs.map D.int/\(∀ x∈xs,p x)/\xs[1]=ys[1]:=λys=>ys.rec
 (λ_=>#[[],rfl,λ_ h=>(by cases h),rfl])
 λy ys IH h=>by
  obtain⟨n,e,hp⟩:=h y "s"
  obtain⟨xs,e2,hq,hl⟩:=IH λz hz=>h z (gu _ hz)
  refine#[n::xs,by rw[e,e2];rfl,λx hx=>?_,by simp[hl]]
  grind
def VX{it:IF}{i:Nat}{ds:List D}(p:Int->Prop)(h:it ρ=.ok ds)(B:ds[1]<=sz)(O:∀ d∈ds,∃ n,e ((jj 1 ρ).set i (!d[8]))=.ok n[7]/\p n) :
  ∃ xs:List Int,qS 1 it (gV i) qX e ρ=.ok (.lst (xs.map D.int))[9]/\(∀ x∈xs,p x)/\xs[1]=ds[1]:=by
 classical
 let f:D->D:=λd=>if g:∃ n,e ((jj 1 ρ).set i (!d[8]))=.ok n[7]/\p n then .int g.choose else .non
 have q:∀ d∈ds,e ((jj 1 ρ).set i (!d[8]))=.ok (f d)[8]/\∃ n,f d=.int n/\p n:=λd hd=>by
  have g:=O d hd;have fe:f d=.int g.choose:=dif_pos g;rw[fe];exact#[g.choose_spec.1,_,rfl,g.choose_spec.2]
 obtain⟨xs,e2,hp,l2⟩:=UC (ds.map f) λy hy=>by
  obtain⟨d,hd,z⟩:=gK.mp hy;rw[<- z];exact(q d hd).2
 refine#[xs,?_,hp,by rw[l2,gj]]
 rw[yx h B (ku i f _ _ λd hd=>#[_,(q d hd).1,rfl]),e2]
def gh:GE (List H3)->Nat
 | .rest _=>0
 | .note _ hs _=>hs[1]
def ghR(r:List (GE (List H3))):Nat:=(r.map gh).sum
def VY:D->Bool
 | .tup [_,_,s]=>(match s with|.non=>false|_=>true)
 | _=>false
def qf3(i)(B:List H3)(U:B[1]<=24)(it)(ρ)(hi:it ρ=.ok (B.map h3D))(O:ρ.length=i) :
  ∃ ds,ds[1]<=B[1]/\qS 1 it (gV i) (tE (eOp wI (eOp qc (q9 i) 2[5]) (eC .non))) (q9 i) ρ=.ok (.lst ds)[9]:=by
 have hz:sz=16777216:=rfl;have at_:∀ d,((jj 1 ρ).set i (!d[8]))[i]?=!(!d[8]):=λd=>List.getElem?_set_self (by delta jj;simp;lia)
 refine#[((B.map h3D).filter VY).map id,by rw[gj];exact fw (List.length_filter_le _ _) "s",yx hi (by rw[gj];lia) (Zt i VY id _ _ λd hd=>?_)]
 obtain⟨h,hh,he⟩:=gK.mp hd;subst he;have v:(q9 i) ((jj 1 ρ).set i (!(h3D h)[8]))=.ok (h3D h)[8]:=by rw[yy,at_];rfl
 refine#[?_,λ_=>#[_,v,rfl]]
 have i2:qc (h3D h) 2[6]=.ok (sD h.s)[8]:=rfl;have z:wI (sD h.s) .non=.ok (.bl (VY (h3D h)))[8]:=by
  delta h3D
  cases h.s<;>rfl
 rw[yy]at v;simp![v,i2,z]
def UD(N)(k)(BODY)(R0)(P:List (List (GE (List H3)))->En->Prop)
  (step:∀ pre r w j3,P pre w->pre[1]<N->VQ (FP k) r->∃ w' i3,qH (gV 3) BODY (r.map (geD (FP k))) [R0,!w,!(gwD (FP k) r)[8],j3]=.nx [R0,!w',!(gwD (FP k) r)[8],i3]/\P (pre++[r]) w') :
  ∀ Q pre w j2 j3,P pre w->pre[1]+Q[1]<=N->(∀ r∈Q,VQ (FP k) r)->∃ w' i2 i3,qH (gV 2) (jn 2 (qI (iV 2) (gV 3) BODY)) (Q.map (gwD (FP k))) [R0,!w,j2,j3]=.nx [R0,!w',i2,i3]/\P (pre++Q) w':=by
 intro Q
 induction Q with
 | nil=>intro pre w j2 j3 h _ _;exact#[w,j2,j3,rfl,by rw[tT];exact h]
 | cons r Q ih =>
  intro pre w j2 j3 h hN hk;rw[gQ]at hN;obtain⟨w1,i3,q,p1⟩:=step pre r w j3 h "" (hk r "s")
  obtain⟨w2,k2,k3,q2,p2⟩:=ih (pre++[r]) w1 (!(gwD (FP k) r)[8]) i3 p1 (by rw[gH,fU];lia) λx hx=>hk x (gu _ hx)
  refine#[w2,k2,k3,?_,by rw[tf]at p2;exact p2]
  rw[gW,vj (kD)];simp[fY,p6];rw[<- q2];have e:(jn 2 (qI (iV 2) (gV 3) BODY)) [R0,!w,!(gwD (FP k) r)[8],j3]=.nx [R0,!w1,!(gwD (FP k) r)[8],i3]:=by
   assumption
  rw[e,ye]
def UE(k v)(hs)(t)(R0 W R2):qZ (eOp qc (q9 3) 2[5]) [R0,W,R2,!(geD (FP k) (.note v hs t))[8]]=.ok (hs.map h3D):=by
 rfl
def qf4(k v)(hs)(t)(R0 W R2):(tE (eOp dEq (eOp qc (q9 3) 0[5]) (eC (.str "note")))) [R0,W,R2,!(geD (FP k) (.note v hs t))[8]]=.ok true:=by
 have i0:qc (geD (FP k) (.note v hs t)) 0[6]=.ok (.str "note")[8]:=rfl;simp![i0,U3]
def qf5(k v)(R0 W R2):(tE (eOp dEq (eOp qc (q9 3) 0[5]) (eC (.str "note")))) [R0,W,R2,!(geD (FP k) (.rest v))[8]]=.ok false:=by
 have i0:qc (geD (FP k) (.rest v)) 0[6]=.ok (.str "rest")[8]:=rfl;simp![i0,U0]
def UF(N)(k)(ST)(R0 R2)(P:List (GE (List H3))->En->Prop)(B:∀ pre v w,P pre w->P (pre++[.rest v]) w)
  (step:∀ pre v hs t w,P pre w->pre[1]<N->GeOk (FP k) (.note v hs t)->∃ w',ST [R0,!w,R2,!(geD (FP k) (.note v hs t))[8]]=.nx [R0,!w',R2,!(geD (FP k) (.note v hs t))[8]]/\P (pre++[.note v hs t]) w') :
  ∀ r pre w j3,P pre w->pre[1]+r[1]<=N->(∀ e∈r,GeOk (FP k) e)->∃ w' i3,qH (gV 3) (sIf (tE (eOp dEq (eOp qc (q9 3) 0[5]) (eC (.str "note")))) ST qq) (r.map (geD (FP k))) [R0,!w,R2,j3]=.nx [R0,!w',R2,i3]/\P (pre++r) w':=by
 intro r
 induction r with
 | nil=>intro pre w j3 h _ _;exact#[w,j3,rfl,by rw[tT];exact h]
 | cons e r ih =>
  intro pre w j3 h hN hk;rw[gQ]at hN;rw[gW,vj (kD)];simp only[fY,p6];have z:=λx hx=>hk x (gu _ hx)
  cases e with
  | rest v =>
   obtain⟨w2,i3,q,p⟩:=ih (pre++[.rest v]) w (!(geD (FP k) (.rest v))[8]) (B pre v w h) (by rw[gH,fU];lia) z
   rw[tf]at p;exact#[w2,i3,by rw[Ql,qf5,zw,Ya,Yc,ye,q],p]
  | note v hs t =>
   obtain⟨w1,s,p1⟩:=step pre v hs t w h "" (hk (.note v hs t) "s")
   obtain⟨w2,i3,q,p⟩:=ih (pre++[.note v hs t]) w1 (!(geD (FP k) (.note v hs t))[8]) p1 (by rw[gH,fU];lia) z
   rw[tf]at p;exact#[w2,i3,by rw[Ql,qf4,zw,Y9,s,ye,q],p]
def UG(pre)(e):ghR (pre++[e])=ghR pre+gh e:=by delta ghR;simp
def qf6(k)(Q)(h:zj (FP k) Q):∃ n:Nat,Jc [.fz (grD (FP k) Q)]=.ok n[7]/\n<=(Q.map ghR).sum:=by
 obtain⟨w,i2,i3,q,n,rfl,hn⟩:=UD 8 k (sIf (tE (eOp dEq (eOp qc (q9 3) 0[5]) (eC (.str "note")))) (za 1 zU (eB qJ [(qS 1 (qZ (eOp qc (q9 3) 2[5])) (gV 4) (tE (eOp wI (eOp qc (q9 4) 2[5]) (eC .non))) (q9 4))])) qq) (!(grD (FP k) Q)[8])
  (λpre w=>∃ n:Nat,w=.fz n[6]/\n<=(pre.map ghR).sum) (λpre r w j3 #[n,hw,hn] _ hr=>by
   subst hw;obtain⟨w',i3,q,n',z,B⟩:=UF 512 k (za 1 zU (eB qJ [(qS 1 (qZ (eOp qc (q9 3) 2[5])) (gV 4) (tE (eOp wI (eOp qc (q9 4) 2[5]) (eC .non))) (q9 4))])) (!(grD (FP k) Q)[8]) (!(gwD (FP k) r)[8])
    (λp w=>∃ m:Nat,w=.fz m[6]/\m<=n+ghR p) (λp v w #[m,a,b]=>#[m,a,by rw[UG];show m<=n+(ghR p+0);lia]) (λp v hs t w #[m,a,b] _ ok=>by
     subst a;obtain⟨ds,dl,cm⟩:=qf3 4 hs ok.2.1 _ _ (UE k v hs t (!(grD (FP k) Q)[8]) (!m[7]) (!(gwD (FP k) r)[8])) rfl;refine#[.fz (m+ds[1]:Nat)[6],?_,m+ds[1],rfl,by rw[UG];show m+ds[1]<=n+(ghR p+hs[1]);lia]
     simp![cm];rfl) r [] n[7] j3 #[n,rfl,""] (by rw[fQ];have:=hr.2.1;lia) hr.1
   refine#[w',i3,q,n',z,?_];rw[fX]at B;simp;lia) Q [] 0[7] none none #[0,rfl,tK _] (by rw[fQ];have:=h.1;lia) h.2
 refine#[n,?_,hn]
 delta Jc Kp
 left;rw[xW rfl];left;rw[q];left
def qf7:∀(ns σ:List Int),σ.Nodup->(ns.foldl step_dedup σ).Nodup/\∀ x,x∈ns.foldl step_dedup σ->x∈σ\/x∈ns:=λns=>ns.rec
 (λσ h=>#[h,λx hx=>.inl hx])
 λn ns IH σ h=>by
  have st:(step_dedup σ n).Nodup/\∀ x,x∈step_dedup σ n->x∈σ\/x=n:=by
   delta step_dedup
   by_cases c:(σ.any (·==n))=true
   .rw[if_pos c];exact#[h,λx z=>.inl z]
   rw[if_neg c];refine#[fL.mpr #[h,by simp,λa ha b hb e=>?_],λx=>by simp]
   simp_all
  obtain⟨a,b⟩:=IH (step_dedup σ n) st.1
  grind
def qf8(z:List Int)(L:Nat)(h:∀ x∈z,0<=x/\x<L):(yH z)[1]<=L:=by
 obtain⟨a,b⟩:=qf7 z [] List.Pairwise.nil;have:=Vv (m:=(List.range L).map λt:Nat=>(t:Int)) a λx hx=>by
  obtain⟨h0,h1⟩:=h x ((b x hx).resolve_left "s")
  obtain⟨t,rfl⟩:=pJ h0;exact gK.mpr #[t,b7.mpr "",rfl]
 rw[gj,pO]at this;exact this
def qf9:∀(r:List Int),(∀ x∈r,1<=x)->0<=r.sum:=λr=>r.rec
 (λ_=>by simp)
 λx r IH h=>by
  have:=h x "s"
  have:=IH λy hy=>h y (gu _ hy)
  rw[pK];lia
def qfa(v:Int):∀(r:List Int) (p n:Int),(∀ x∈r,1<=x)->∀ s∈jD v p n r,p<=s.headD 0/\s.headD 0<p+r.sum:=λr=>r.rec
 (λ_ _ _ _ hs=>by cases hs)
 λx r IH p n h s hs=>by
  have h1:=h x "s"
  have h2:=λy hy=>h y (gu _ hy)
  have nn:=qf9 r h2;rw[pK];rcases gG.mp hs with z|z
  .subst z;show p<=p/\p<_;lia
  have:=IH (p+x) (n+1) h2 s z;lia
def qfb(L:Int):∀(rs:List (List Int)) (v:Int),(∀ r∈rs,(∀ x∈r,1<=x)/\r.sum<=L)->∀ s∈qR v rs,0<=s.headD 0/\s.headD 0<L:=λrs=>rs.rec
 (λ_ _ _ hs=>by cases hs)
 λr rs IH v h s hs=>by
  rcases gD.mp hs with z|z
  .have a:=h r "s"
   have:=qfa v r 0 0 a.1 s z;lia
  exact IH (v+1) (λx hx=>h x (gu _ hx)) s z
def UH:D->D
 | .tup (.int p::_)=>.int p
 | _=>.non
def qfc(k)(Q)(h:zj (FP k) Q)(L:Nat)(O:∀ r∈jr Q,r.sum<=L):∃ w,yb [.fz (grD (FP k) Q)]=.ok w[7]/\1<=w/\w<=4+3*L+(Q.map ghR).sum:=by
 have hz:sz=16777216:=rfl;have io:=Uv (F:=FP k) Q h (grD (FP k) Q)[8] (.inl rfl);have vp:∀ r∈jr Q,∀ x∈r,1<=x:=JO (F:=FP k) λr hr=>(h.2 r hr).1
 have pm:=wZ (qR 0 (jr Q));have ln:=JQ h.1 λr hr=>(h.2 r hr).2.1
 obtain⟨n,sg,sl⟩:=qf6 k Q h;generalize hS:jq (qR 0 (jr Q))=S at *;have cm:(qS 1 (qZ (qh wm [(q9 0)])) (gV 2) qX (eOp qc (q9 2) 0[5])) [!(grD (FP k) Q)[8],none]=.ok (.lst ((S.map (·.headD 0)).map D.int))[9]:=by
  have it:qZ (qh wm [(q9 0)]) [!(grD (FP k) Q)[8],none]=.ok (S.map qN):=vV (w:=.ow (.lst (S.map qN))) (by simp![io]) rfl
  rw[yx (ds:=S.map qN) (ys:=(S.map qN).map UH) it (by rw[gj];lia) (ku 2 UH _ _ λd hd=>?_)]
  .congr 3;rw[hE,hE];apply t3;intro r hr;obtain⟨q,u,m,e,_⟩:=uQ _ _ _ (pm.mem_iff.mp hr);subst e;rfl
  obtain⟨r,hr,B⟩:=gK.mp hd;subst B;obtain⟨q,u,m,e,_⟩:=uQ _ _ _ (pm.mem_iff.mp hr);subst e;refine#[.fz q[6],?_,rfl];rfl
 have dl:=qf8 (S.map (·.headD 0)) L λx hx=>by
  obtain⟨s,hs,z⟩:=gK.mp hx;subst z;exact qfb L (jr Q) 0 (λr hr=>#[vp r hr,O r hr]) s (pm.mem_iff.mp hs)
 have ls:QW (.lst ((S.map (·.headD 0)).map D.int))=.ok ((yH (S.map (·.headD 0)))[1])[7]:=by
  delta QW
  dsimp only;rw[uO]
  simp_all
 have m3:=yA (i:=3) (j:=((yH (S.map (·.headD 0)))[1])) "d" "d"
 refine#[4+3*((yH (S.map (·.headD 0)))[1])+n,?_,"",""]
 delta yb KH
 simp![ZS,cm,ls,V8,V9,m3,sg]
def VZ:Nat->Int
 | 0=>37|1=>31|_=>25
theorem qfd:∀ c:Nat,c<3->okD (ati [D.int 37,.int 31,.int 25] c)=.ok (VZ c)[7]
 | 0,_=>rfl
 | 1,_=>rfl
 | 2,_=>rfl
 | n+3,h=>absurd h ""
def qfe:wK (.tup xs) i[6]=okD (ati xs i):=rfl
def qff(st)(c:Nat)(z:c<3):∃ n,uj [.fz st[6],.fz c[6]]=.ok n[7]/\True:=by
 obtain⟨m,m3⟩:∃ m,ZI [.int (st-VZ c-8),.int (VZ c-st),.int 0]=.ok m[7]:=#[_,rfl];refine#[m/2,?_,trivial]
 delta uj Kk
 simp![V0,V1,(qfd c z),m3];rfl
theorem qfg:∀ m,m<7->∃ k,kQ (.str "CDEFGAB") (.str (fcg m))=.ok k[7]
 | 0,_=>#[3,by kernel_rfl]
 | 1,_=>#[0,by kernel_rfl]
 | 2,_=>#[4,by kernel_rfl]
 | 3,_=>#[1,by kernel_rfl]
 | 4,_=>#[5,by kernel_rfl]
 | 5,_=>#[2,by kernel_rfl]
 | 6,_=>#[6,by kernel_rfl]
 | n+7,h=>absurd h ""
def qfh(h)(z:h.m<7):∃ n,yK [.fz (h3D h)]=.ok n[7]/\True:=by
 obtain⟨k,e⟩:=qfg h.m z;refine#[7*h.o+k,?_,trivial]
 delta yK Kj
 simp![h3D,qfe,yA (i:=7) "d" "d",ZZ,e]
def qfi(k)(Q)(h:zj (FP k) Q):∃ xs:List Int,uv [.fz (grD (FP k) Q)]=.ok (.lst (xs.map D.int))[9]/\xs[1]<=100000:=by
 have hz:sz=16777216:=rfl;have hq:=h.1;obtain⟨w,i2,i3,q,xs,rfl,hn⟩:=UD 8 k (sIf (tE (eOp dEq (eOp qc (q9 3) 0[5]) (eC (.str "note")))) (vL 1 (qS 1 (qZ (eOp qc (q9 3) 2[5])) (gV 4) qX (qh yK [(q9 4)]))) qq) (!(grD (FP k) Q)[8])
  (λpre w=>∃ xs,w=.ow (.lst (xs.map D.int))/\xs[1]<=12288*pre[1]) (λpre r w j3 #[xs,hw,hn] p8 hr=>by
   subst hw;have rl:=hr.2.1;obtain⟨w',i3,q,ys,B,O⟩:=UF 512 k (vL 1 (qS 1 (qZ (eOp qc (q9 3) 2[5])) (gV 4) qX (qh yK [(q9 4)]))) (!(grD (FP k) Q)[8]) (!(gwD (FP k) r)[8])
    (λp w=>∃ ys,w=.ow (.lst (ys.map D.int))/\ys[1]<=xs[1]+24*p[1]) (λp v w #[m,a,b]=>#[m,a,by rw[gH];lia]) (λp v hs t w #[ys,a,b] p5 ok=>by
     subst a;have U:=ok.2.1;obtain⟨zs,cm,_,zl⟩:=VX (i:=4) (λ_=>True) (UE k v hs t (!(grD (FP k) Q)[8]) (!(.lst (ys.map D.int))[9]) (!(gwD (FP k) r)[8])) (by rw[gj];lia) (λd hd=>by
      obtain⟨x,hx,z⟩:=gK.mp hd;subst z;obtain⟨n,e,_⟩:=qfh x (ok.2.2 x hx);refine#[n,?_,trivial];show(qh yK [(q9 4)]) [_,_,_,_,!(h3D x)[8]]=_;simp![e])
     rw[gj]at zl;refine#[.ow (.lst ((ys++zs).map D.int)),?_,ys++zs,rfl,by rw[gH,gH,fU];lia]
     rw[QE rfl cm (by rw[gj,gj];lia),tw]
     rfl) r [] (.lst (xs.map D.int))[9] j3 #[xs,rfl,by simp] (by rw[fQ];lia) hr.1
   refine#[w',i3,q,ys,B,?_];rw[fX]at O;rw[gH,fU];lia) Q [] (.lst [])[9] none none #[[],rfl,by simp] (by rw[fQ];lia) h.2
 refine#[xs,?_,by rw[fX]at hn;lia]
 delta uv Kw
 left;rw[xW rfl];left;rw[q];left
def W1(z:List Int):vU [.lst (z.map D.int)]=.ok z.sum[7]:=by
 delta vU
 dsimp only;rw[uO]
def qfj(xs:List Int)(O:xs[1]<=100000)(c:Nat)(B:c<3):∃ n,yM [.br (.lst (xs.map D.int)),.fz c[6]]=.ok n[7]:=by
 have hz:sz=16777216:=rfl;obtain⟨ys,cm,_,_⟩:=VX (it:=iVc 0) (i:=2) (e:=qh uj [(q9 2),(q9 1)]) (ρ:=[!(.br (.lst (xs.map D.int))),!c[7]]) (λ_=>True) (wY rfl rfl) (by rw[gj];lia) (λd hd=>by
  obtain⟨s,hs,z⟩:=gK.mp hd;subst z;obtain⟨n,e,_⟩:=qff s c B;exact#[n,by simp![jj,ro,e],trivial])
 refine#[ys.sum,?_]
 delta yM Ky
 simp![cm,W1]
abbrev P3:=Int×Int×Int
def p3D(p:P3):D:=.lst [.int p.1,.int p.2.1,.int p.2.2]
theorem W2(p)(w)(B:w=.fz (p3D p)\/w=.br (p3D p)):∀ c:Nat,c<3->∃ p',wj [w,.fz c[6]]=.ok (p3D p')[9]
 | 0,_=>#[(p.1,p.2.1+4,p.2.2+4),by rcases B with z|z<;>(subst z;kernel_rfl)]
 | 1,_=>#[(p.1+4,p.2.1,p.2.2+4),by rcases B with z|z<;>(subst z;kernel_rfl)]
 | 2,_=>#[(p.1+4,p.2.1+4,p.2.2),by rcases B with z|z<;>(subst z;kernel_rfl)]
 | n+3,h=>absurd h ""
def min3(p):vN [p3D p]=.ok (vz p.1 [p.2.1,p.2.2])[7]:=rfl
def qfk(xs:List Int)(B:xs[1]<=100000)(p)(w)(O:w=.fz (p3D p)\/w=.ow (p3D p))(R0 R1 R3) :
  ∃ p',qS 1 (qZ (eC x4)) (gV 5) qX (eOp qA (qh yM [(q9 4),(q9 5)]) (eB vN [(qh wj [(q9 2),(q9 5)])])) [R0,R1,!w,R3,!(.lst (xs.map D.int))[9]]=.ok (p3D p')[9]:=by
 have one:∀ c:Nat,c<3->∃ n,(eOp qA (qh yM [(q9 4),(q9 5)]) (eB vN [(qh wj [(q9 2),(q9 5)])])) ((jj 1 [R0,R1,!w,R3,!(.lst (xs.map D.int))[9]]).set 5 (!c[7]))=.ok n[7]/\True:=λc hc=>by
  obtain⟨n,l⟩:=qfj xs B c hc;obtain⟨p1,b1⟩:=W2 p (p3D p)[8] (.inl rfl) c hc;obtain⟨p2,b2⟩:=W2 p (.br (p3D p)) (.inr rfl) c hc;rcases O with rfl|rfl
  .exact#[n+vz p1.1 [p1.2.1,p1.2.2],by simp![jj,ro,l,b1,min3],trivial]
  exact#[n+vz p2.1 [p2.2.1,p2.2.2],by simp![jj,ro,l,b2,min3],trivial]
 obtain⟨ys,cm,_,yl⟩:=VX (it:=qZ (eC x4)) (λ_=>True) rfl "d" (λd hd=>by
  rcases gG.mp hd with z|hd
  .subst z;exact one 0 "d"
  rcases gG.mp hd with z|hd
  .subst z;exact one 1 "d"
  rcases gG.mp hd with z|hd
  .subst z;exact one 2 "d"
  cases hd)
 obtain⟨a,b,c,rfl⟩:∃ a b c,ys=[a,b,c]:=by
  match ys,yl with
  | [a,b,c],_=>exact#[a,b,c,rfl]
 exact#[(a,b,c),cm]
def qfl(k)(B:List (List (List (GE (List H3)))))(U:B[1]<=200)(h:∀ Q∈B,zj (FP k) Q):∃ ps:List P3,uD [.fz (.lst (B.map (grD (FP k))))]=.ok (.lst (ps.map p3D))[9]/\ps[1]=B[1]:=by
 have hz:sz=16777216:=rfl;obtain⟨ρ,e,ps,p,w,j3,j4,pl,hw,O⟩:=vx ((B.map (grD (FP k))).reverse) (λi ρ=>∃ ps p w j3 j4,ps[1]=i/\(w=.fz (p3D p)\/w=.ow (p3D p))/\ρ=[!(.lst (B.map (grD (FP k))))[8],!(.lst (ps.map p3D))[9],!w,j3,j4])
  (g:=gV 3) (b:=qf (qk 4 (qh uv [(q9 3)])) (qf (qk 2 (qS 1 (qZ (eC x4)) (gV 5) qX (eOp qA (qh yM [(q9 4),(q9 5)]) (eB vN [(qh wj [(q9 2),(q9 5)])])))) (jn 2 (qY 1 (q9 2)))))
  (ρ:=[!(.lst (B.map (grD (FP k))))[8],!(.lst [])[9],!(.lst [.int 0,.int 0,.int 0])[9],none,none]) #[[],(0,0,0),_,none,none,rfl,.inr rfl,rfl] (λi x ρ hx #[ps,p,w,j3,j4,pl,hw,O]=>by
   subst O;have hi:=(gw.mp hx).1;rw[bI,gj]at hi;obtain⟨Q,hQ,z⟩:=gK.mp (List.mem_reverse.mp (hV hx));subst z;obtain⟨xs,st,sl⟩:=qfi k Q (h Q hQ);obtain⟨p',nc⟩:=qfk xs sl p w hw (!(.lst (B.map (grD (FP k))))[8]) (!(.lst (ps.map p3D))[9]) (!(grD (FP k) Q)[8]);refine#[_,_,rfl,.inl ?_,ps++[p'],p',.fz (p3D p'),!(grD (FP k) Q)[8],!(.lst (xs.map D.int))[9],by rw[gH,pl];rfl,.inl rfl,rfl]
   simp![st,nc];rw[zy rfl (by rw[gj];lia) (by left)]
   simp![tw])
 subst O;refine#[ps.reverse,?_,by rw[bI,pl,bI,gj]]
 have it:QM 0 [!(.lst (B.map (grD (FP k))))[8],!(.lst [])[9],!(.lst [.int 0,.int 0,.int 0])[9],none,none]=.ok ((B.map (grD (FP k))).reverse):=rfl
 delta uD KY
 left;rw[it];left;rw[e];left;have rv:ZD (q9 1) [!(.lst (B.map (grD (FP k))))[8],!(.lst (ps.map p3D))[9],!w,j3,j4]=.ok (.lst (ps.reverse.map p3D))[9]:=by
  show R.ok (En.ow (.lst (ps.map p3D).reverse))=_;simp
 rw[rv];left
def qfm(p):∃ j:Nat,j<3/\ud (p3D p) (vz p.1 [p.2.1,p.2.2])[6]=.ok j[7]:=by
 obtain⟨x,y,z⟩:=p;obtain⟨m1,_⟩:=QK [y,z] x;show ∃ j,j<3/\(match [x,y,z].findIdx? (λn=>n==vz x [y,z])with|some j=>okI j|none=>.stuck)=_
 generalize vz x [y,z]=m at m1;by_cases a:x=m
 .refine#[0,by decide,?_]
  simp[bQ,a]
 by_cases b:y=m
 .refine#[1,by decide,?_]
  simp[bQ,a,b]
 have c:z=m:=by
  grind
 refine#[2,by decide,?_]
 simp[bQ,a,b,c]
def qz(n:Nat):D:=.int (n:Int)
def qfn(k)(B:List (List (List (GE (List H3)))))(hl:B[1]<=200)(h:∀ Q∈B,zj (FP k) Q):∃ cs:List Nat,Jv [.fz (.lst (B.map (grD (FP k))))]=.ok (.lst (cs.map qz))[9]/\cs[1]=B[1]/\∀ c∈cs,c<3:=by
 have hz:sz=16777216:=rfl;obtain⟨ps,pe,pl⟩:=qfl k B hl h;obtain⟨ρ,e,cs,j2,j3,cl,c3,O⟩:=vx (ps.map p3D) (λi ρ=>∃ cs j2 j3,cs[1]=i/\(∀ c∈cs,c<3)/\ρ=[!(.lst (B.map (grD (FP k))))[8],!(.lst (cs.map qz))[9],j2,j3])
  (g:=gV 2) (b:=qf (qk 3 (eIf (tE (q9 1)) (qh wj [(q9 2),(eOp qc (q9 1) (eUn jL 1[5]))]) (q9 2))) (qY 1 (eOp ud (q9 3) (eB vN [(q9 3)]))))
  (ρ:=[!(.lst (B.map (grD (FP k))))[8],!(.lst [])[9],none,none]) #[[],none,none,rfl,λ_ z=>(by cases z),rfl] (λi x ρ hx #[cs,j2,j3,cl,c3,O]=>by
   subst O;have hi:=(gw.mp hx).1;rw[gj]at hi;obtain⟨p,hp,z⟩:=gK.mp (hV hx);subst z;obtain⟨p',w3,s3,hw⟩:∃ p' w3,(eIf (tE (q9 1)) (qh wj [(q9 2),(eOp qc (q9 1) (eUn jL 1[5]))]) (q9 2)) [!(.lst (B.map (grD (FP k))))[8],!(.lst (cs.map qz))[9],!(p3D p)[8],j3]=.ok w3/\(w3=.fz (p3D p')\/w3=.ow (p3D p')):=by
    cases hg:cs.getLast? with
    | none =>
     have:=px.mp hg;subst this;exact#[p,.fz (p3D p),rfl,.inl rfl]
    | some c =>
     have U:(cs.map qz).isEmpty=false:=by
      cases cs with
      | nil=>cases hg
      | cons a l=>rfl
     have la:okD (ati (cs.map qz) (-1))=.ok c[7]:=by rw[Qh,dZ,hg];rfl
     obtain⟨p',b⟩:=W2 p (p3D p)[8] (.inl rfl) c (c3 c (dg hg));exact#[p',.ow (p3D p'),by simp![U,la,b],.inr rfl]
   obtain⟨j,Z,ix⟩:=qfm p';refine#[_,_,rfl,.inl ?_,cs++[j],!(p3D p)[8],!w3,by rw[gH,cl];rfl,λc hc=>?_,rfl]
   .show(qf (qk 3 _) _) [!(.lst (B.map (grD (FP k))))[8],!(.lst (cs.map qz))[9],!(p3D p)[8],j3]=_;have Y:(qk 3 (eIf (tE (q9 1)) (qh wj [(q9 2),(eOp qc (q9 1) (eUn jL 1[5]))]) (q9 2))) [!(.lst (B.map (grD (FP k))))[8],!(.lst (cs.map qz))[9],!(p3D p)[8],j3]=.nx [!(.lst (B.map (grD (FP k))))[8],!(.lst (cs.map qz))[9],!(p3D p)[8],!w3]:=by
     rcases hw with z|z<;>(subst z;rw[Qk,s3];rfl)
    rw[jG,Y,jT,zy (xs:=cs.map qz) (d:=qz j) rfl (by rw[gj];lia) (by rcases hw with z|z<;>(subst z;simp![min3,ix];rfl)),tw]
    rfl
   rcases gD.mp hc with z|z
   .exact c3 c z
   rw[tQ.mp z];exact Z)
 subst O;refine#[cs,?_,by rw[cl,gj,pl],c3]
 have it:qZ (qh uD [(q9 0)]) [!(.lst (B.map (grD (FP k))))[8],!(.lst [])[9],none,none]=.ok (ps.map p3D):=vV (w:=.ow (.lst (ps.map p3D))) (by simp![pe]) rfl
 delta Jv Xa
 left;rw[it];left;rw[e];left
def eD(e:Int×Nat):D:=.tup [.int e.1,.int (-(e.2:Int))]
def qfo:∀ es:List (Int×Nat),vJ (es.map eD)=!(es.map λe=>[e.1,-(e.2:Int)]):=λr=>r.rec
 (rfl)
 λe r IH=>by
  show(match jO [D.int e.1,D.int (-(e.2))],vJ (r.map eD)with|some a,!b=>↑(a::b)|_,_=>none)=_
  rw[IH];rfl
def qfp:∀(r:List (List Int)) (m:List Int),y6 m r∈m::r:=λr=>r.rec
 (λm=>by simp[y6])
 λq r IH m=>by
  unfold y6;rcases gG.mp (IH (if HT.lexLt q m=true then q else m))with z|z
  .grind
  simp_all
def qfq(es)(ne:es≠[]):∃ e∈es,kT [.lst (es.map eD)]=.ok (eD e)[8]:=by
 cases es with
 | nil=>exact absurd rfl ne
 | cons a r =>
  have m:=qfp (r.map λe=>[e.1,-(e.2)]) [a.1,-(a.2)]
  rw[<- gW (f:=λe:Int×Nat=>[e.1,-(e.2)])]at m
  obtain⟨e,he,z⟩:=gK.mp m;refine#[e,he,?_]
  delta kT
  dsimp only;rw[qfo,gW];dsimp only;rw[<- z];rfl
abbrev ρC(ws:List Int)(r:Int)(k:Nat)(bs:List D)(es:List (Int×Nat))(z B O:Option En):Rho:=[!(.lst (ws.map D.int))[8],!r[7],!(k:Int)[7],!(.br (.lst bs)),!(.lst (es.map eD))[9],z,B,O]
def qfr(ws:List Int)(r)(k)(bs)(U:r<=5000)(Z:ws[1]<=177)(hk:k<ws[1])(hp:∀ w∈ws,1<=w/\w<=r)
  (Y:∀ j,k<j->j<ws[1]->∃ e,bs[j]?=!(eD e)) :
  ∃ es,es≠[]/\(∀ e∈es,k<e.2/\e.2<=ws[1])/\ut [.fz (.lst (ws.map D.int)),.fz r[6],.fz k[6],.br (.lst bs)]=.ok (.lst (es.map eD))[9]:=by
 have hz:sz=16777216:=rfl
 delta ut Kr
 left;rw[qe3 (i:=k+1) (j:=(ws[1])+1) (by left) (by simp![gj]) "" "" "" "",zw]
 rw[show((ws[1])+1-((k:Int)+1)).toNat=ws[1]-k by lia]
 have key:=Zs (Q:=λo=>∃(es:List (Int×Nat)) (i5 i6 i7:Option En),es≠[]/\(∀ e∈es,k<e.2/\e.2<=ws[1])/\o=.nx (ρC ws r k bs es i5 i6 i7)) (zG (k+1) (ws[1]-k))
  (λi ρ=>∃(es:List (Int×Nat)) (l:Int) (i6 i7:Option En),es[1]=i/\l<=5000/\(i=0->l=r)/\(∀ e∈es,k<e.2/\e.2<=ws[1])/\ρ=ρC ws r k bs es (!l[7]) i6 i7)
  (g:=gV 6) (b:=(qf (za 5 jc (eOp qc (q9 0) (eOp jc (q9 6) 1[5])))
 (qf (sIf (tE (eOp dLt (q9 5) 0[5])) yp qq)
 (qf (qk 7 (eIf (tE (eOp dEq (q9 6) (eB qJ [(q9 0)]))) 0[5] (eOp qA (eOp jJ (q9 5) (q9 5)) (eOp qc (eOp qc (q9 3) (q9 6)) 0[5]))))
 (qY 4 (jx [(q9 7),(eUn jL (q9 6))]))))))
  (ρ:=ρC ws r k bs [] (!r[7]) none none) #[[],r,none,none,rfl,U,λ_=>rfl,λ_ z=>(by cases z),rfl] (λi x ρ hx #[es,l,i6,i7,el,hl,h0,he,hρ]=>by
   subst hρ;rw[Qa]at hx;by_cases hi:i<ws[1]-k
   .rw[if_pos hi]at hx;cases hx;have wk:ws[k+i]?=!ws[k+i]:=gJ ""
    have hw:=hp ws[k+i] (fT _);generalize ws[k+i]=w at wk hw;have g0:(ws.map D.int)[k+i]?=!w[6]:=by rw[gM,wk];rfl
    have e1:(k+1+i)-1=((k+i:Nat):Int):=""
    have e2:((k:Int)+1+(i:Int))=((k+1+i:Nat):Int):=""
    refine#[ρC ws r k bs es (!l[7]) (!((k:Int)+1+(i:Int))[7]) i7,rfl,?_];have s1:(za 5 jc (eOp qc (q9 0) (eOp jc (q9 6) 1[5]))) (ρC ws r k bs es (!l[7]) (!((k:Int)+1+(i:Int))[7]) i7)=.nx (ρC ws r k bs es (!(l-w)[7]) (!((k:Int)+1+(i:Int))[7]) i7):=by
     simp![e1,zm,g0]
    rw[jG,s1,jT,jG];by_cases c:l-w<0
    .have s2:(sIf (tE (eOp dLt (q9 5) 0[5])) yp qq) (ρC ws r k bs es (!(l-w)[7]) (!((k:Int)+1+(i:Int))[7]) i7)=.bk (ρC ws r k bs es (!(l-w)[7]) (!((k:Int)+1+(i:Int))[7]) i7):=by
      simp![c,decide_true]
     rw[s2,qa6];refine#[es,_,_,_,λz=>?_,he,rfl]
     subst z;have:=h0 el.symm[""]
     lia
    have s2:(sIf (tE (eOp dLt (q9 5) 0[5])) yp qq) (ρC ws r k bs es (!(l-w)[7]) (!((k:Int)+1+(i:Int))[7]) i7)=.nx (ρC ws r k bs es (!(l-w)[7]) (!((k:Int)+1+(i:Int))[7]) i7):=by
     simp![c,decide_false]
    obtain⟨c7,q⟩:∃ c7:Int,(qk 7 (eIf (tE (eOp dEq (q9 6) (eB qJ [(q9 0)]))) 0[5] (eOp qA (eOp jJ (q9 5) (q9 5)) (eOp qc (eOp qc (q9 3) (q9 6)) 0[5])))) (ρC ws r k bs es (!(l-w)[7]) (!((k:Int)+1+(i:Int))[7]) i7)=.nx (ρC ws r k bs es (!(l-w)[7]) (!((k:Int)+1+(i:Int))[7]) (!c7[7])):=by
     by_cases z:k+1+i=ws[1]
     .have ec:((k:Int)+1+(i:Int)==((ws.map D.int)[1]:Int))=true:=by rw[gj,e2,z];simp
      exact#[0,by simp![ec]]
     have ec:((k:Int)+1+(i:Int)==((ws.map D.int)[1]:Int))=false:=by rw[gj,e2,po];lia
     obtain⟨e,hx⟩:=Y (k+1+i) "" "o"
     have g1:ati bs ((k:Int)+1+(i:Int))=!(.tup [.int e.1,.int (-(e.2:Int))]):=by rw[e2,zm,hx];rfl
     have O:=yA (i:=l-w) (j:=l-w) "" ""
     exact#[(l-w)*(l-w)+e.1,by simp![ec,O,g1]]
    rw[s2,jT,jG,q,jT,zy (xs:=es.map eD) (d:=eD (c7,k+1+i)) rfl (by rw[gj];omega) (by simp![eD,e2])]
    refine#[es++[(c7,k+1+i)],l-w,_,_,by rw[gH,el];rfl,"",λz=>by lia,λe B=>?_,by delta ρC;rw[tw];rfl]
    rcases gD.mp B with z|z
    .exact he e z
    rw[tQ.mp z];show k<k+1+i/\k+1+i<=ws[1];omega
   rw[if_neg hi]at hx;cases hx) (λρ #[es,l,i6,i7,el,hl,h0,he,hρ]=>#[es,!l[7],i6,i7,λz=>by subst z;rw[Zh]at el;simp at el;omega,he,congrArg Out.nx hρ])
 obtain⟨es,i5,i6,i7,ne,he,q⟩:=key;refine#[es,ne,he,?_];have q:qH _ _ _ [_,_,_,_,!(.lst [])[9],_,_,_]=_:=q;rw[q];left
def W3(n q:Nat)(bs:List D):Prop:=bs[1]=n/\∀ j,q<=j->j<n->∃ e:Int×Nat,bs[j]?=!(eD e)/\j<e.2/\e.2<=n
def qfs{g:D->D->R En}{e f:EF}{x y:En}(h1:e ρ=.ok x)(h2:f ρ=.ok y)(z:g x.dd y.dd=r):eOp g e f ρ=r:=by rw[Qm,h1,h2];exact z
def qft(ws:List Int)(r)(U:r<=5000)(Y:ws[1]<=177)(hp:∀ w∈ws,1<=w/\w<=r):∃ bs,W3 ws[1] 0 bs/\Jh [.fz (.lst (ws.map D.int)),.fz r[6]]=.ok (.lst bs)[9]:=by
 have hz:sz=16777216:=rfl;have go:∀ q bs j3,q<=ws[1]->W3 ws[1] q bs->∃ bs' i3,W3 ws[1] 0 bs' /\
   qH (gV 3) (kG 2 (q9 3) (eB kT [(qh ut [(q9 0),(q9 1),(q9 3),(q9 2)])])) (yW q) [!(.lst (ws.map D.int))[8],!r[7],!(.lst bs)[9],j3]=.nx [!(.lst (ws.map D.int))[8],!r[7],!(.lst bs')[9],i3]:=by
  intro q
  induction q with
  | zero=>intro bs j3 _ h;exact#[bs,j3,h,rfl]
  | succ q ih =>
   intro bs j3 hq ⟨b1,b2⟩;obtain⟨es,ne,he,ch⟩:=qfr ws r q bs U Y "" hp λj h1 h2=>by obtain⟨e,x,_⟩:=b2 j h1 h2;exact#[e,x]
   obtain⟨m,hm,mt⟩:=qfq es ne;have B:=he m hm;obtain⟨bs',i3,h',O⟩:=ih (bs.set q (eD m)) (!q[7]) "" #[by rw[bD];exact b1,λj h1 h2=>by
    by_cases c:q=j
    .subst c;exact#[m,List.getElem?_set_self "",B]
    rw[hU c];exact b2 j "" h2]
   refine#[bs',i3,h',?_];rw[yW,vj (kD)];rw[qan (xs:=bs) (d:=eD m) (w:=.fz q[6]) (j:=q) (n:=q) rfl (by simp![ch,mt]) rfl rfl (by delta ixn;rw[if_pos "",if_pos ""];simp)]
   exact O
 obtain⟨b0,bl,st⟩:∃ bs,bs[1]=ws[1]/\kS (.lst [.tup [.int 0,.int 0]]) (ws[1])[6]=.ok (.lst bs)[9]:=by
  refine#[zW ws[1] [.tup [.int 0,.int 0]],by simp[zW],?_]
  delta kS
  dsimp only;rw[if_pos #["","",by rw[tY];simp;lia],tY]
 obtain⟨bs,i3,hb,q⟩:=go ws[1] b0 none (gE _) #[bl,λj h1 h2=>by lia]
 refine#[bs,hb,?_];have rf:Jd [.fz (.lst (ws.map D.int)),.fz r[6]]=.ok (.fz .non):=by
  obtain⟨ρ,e,i2,i3,z⟩:=vx (numd 0 (ws.map D.int)) (λ_ ρ=>∃ i2 i3,ρ=[!(.lst (ws.map D.int))[8],!r[7],i2,i3]) (g:=gT [2,3]) (b:=sIf (tE (eOp dGt (q9 3) (q9 1))) zu qq) (ρ:=[!(.lst (ws.map D.int))[8],!r[7],none,none]) #[none,none,rfl] (λi x ρ hx #[i2,i3,z]=>by
   subst z;obtain⟨d,e1,rfl⟩:=Vm hx;obtain⟨w,hw,rfl⟩:=gK.mp (hV e1);have dw:decide (r<w)=false:=by have:=hp w hw;simp;lia
   exact#[[!(.lst (ws.map D.int))[8],!r[7],!i[7],!w[7]],[!(.lst (ws.map D.int))[8],!r[7],!i[7],!w[7]],rfl,.inl (by simp![dw]),_,_,rfl])
  delta Jd Kq
  left;rw[show zz 0 [!(.lst (ws.map D.int))[8],!r[7],none,none]=.ok (numd 0 (ws.map D.int))from rfl,zw,e]
  rfl
 have wr:uk [.fz r[6]]=.ok (.bl true)[8]:=rfl;have len:((ws.map D.int)[1])=(ws[1]):=by rw[gj]
 have it:iR3d (eOp jc (eB qJ [(q9 0)]) 1[5]) (eUn jL 1[5]) (eUn jL 1[5]) [!(.lst (ws.map D.int))[8],!r[7],!(.lst b0)[9],none]=.ok (yW ws[1]):=by
  refine qe5 ?_ ?_ ?_ ""
  .simp![len]
  .left
  left
 delta Jh KJ
 rw[Qv,Z5 (ρ':=[!(.lst (ws.map D.int))[8],!r[7],none,none]),Z5 (ρ':=[!(.lst (ws.map D.int))[8],!r[7],none,none]),Z5 (ρ':=[!(.lst (ws.map D.int))[8],!r[7],!(.lst b0)[9],none]),jG,Qt,it,zw,q]
 .rfl
 .rw[Qk,qfs (x:=.ow (.lst [.tup [.int 0,.int 0]])) (y:=.fz (ws[1])[6]) rfl (by simp![len]) st]
  rfl
 .simp![rf]
 simp![wr]
def qfu(ws:List Int)(r:Int)(O:r<=5000)(h0:0<ws[1])(U:ws[1]<=177)(hp:∀ w∈ws,1<=w/\w<=r):∃ fs t:List Nat,fs=0::t/\(∀ x∈fs,x<ws[1])/\Jr [.fz (.lst (ws.map D.int)),.fz r[6]]=.ok (.lst (fs.map qz))[9]:=by
 have hz:sz=16777216:=rfl;obtain⟨bs,⟨b1,b2⟩,be⟩:=qft ws r O U hp;have len:((ws.map D.int)[1]:Int)=(ws[1]:Int):=by rw[gj]
 have go:∀(q f:Nat) (B:List Nat),f<=ws[1]->ws[1]-f<q->B[1]<=f->(∀ x∈B,x<ws[1])->(B++[f]).head?=!0->∃(fs t:List Nat) (i4:Option En),fs=0::t/\(∀ x∈fs,x<ws[1]) /\
   zk (tE (eOp dLt (q9 4) (eB qJ [(q9 0)]))) (qf (qY 3 (q9 4)) (qk 4 (eUn jL (eOp qc (eOp qc (q9 2) (q9 4)) 1[5])))) q [!(.lst (ws.map D.int))[8],!r[7],!(.lst bs)[9],!(.lst (B.map qz))[9],!(f:Int)[7]]
   = .nx [!(.lst (ws.map D.int))[8],!r[7],!(.lst bs)[9],!(.lst (fs.map qz))[9],i4]:=by
  intro q
  induction q with
  | zero=>intro f B _ h;lia
  | succ q ih =>
   intro f B h1 h2 h3 h4 h5;by_cases c:f<ws[1]
   .obtain⟨e,ge,e1,e2⟩:=b2 f (tK _) c;have lt:decide ((f:Int)<(ws[1]:Int))=true:=by simp;lia
    have g2:ati bs (f:Int)=!(.tup [.int e.1,.int (-(e.2:Int))]):=by rw[zm,ge];rfl
    obtain⟨fs,t,i4,t1,t2,q2⟩:=ih e.2 (B++[f]) e2 "" (by rw[gH,fU];lia) (λx hx=>by
     rcases gD.mp hx with z|z
     .exact h4 x z
     rw[tQ.mp z];exact c) (by cases B<;>exact h5)
    refine#[fs,t,i4,t1,t2,?_];rw[<- q2];refine U9 ?_ ?_
    .simp![len,lt]
    rw[jG,zy (xs:=B.map qz) (d:=qz f) rfl (by rw[gj];lia) (by simp![qz]),jT]
    simp![g2,Int.neg_neg,tw]
   have lt:decide ((f:Int)<(ws[1]:Int))=false:=by simp;lia
   cases B with
   | nil=>cases h5;lia
   | cons a t=>cases h5;exact#[_,t,_,rfl,h4,U8 (by simp![len,lt])]
 obtain⟨fs,t,i4,t1,t2,q⟩:=go 180 0 [] (tK _) "" "s" (λ_ z=>by cases z) rfl
 refine#[fs,t,t1,t2,?_];unfold Jr X5;simp![be,wQ];have q:zk _ _ 180 [_,_,_,!(.lst [])[9],!0[7]]=_:=q;rw[q];left
def ww(v:List Ch)(ms:List (Int×Int×Int))(n:Nat):List (List Ev):=(List.range n).map λi=>zn v (qD ms i) (qD ms (i+1))
def uW(bs:List (List Ev)):List D:=bs.map λes=>D.lst (es.map evD)
def W4(xs):∃ en,yB (.lst (xs.map D.int)) 0[6]=.ok en[7]/\(∀ x∈xs,x<=en)/\(en∈xs\/(xs=[]/\en=0)):=by
 cases xs with
 | nil=>exact#[0,rfl,λ_ h=>(by cases h),.inr #[rfl,rfl]]
 | cons x r =>
  obtain⟨k1,k2⟩:=Qe r x;refine#[vT x r,?_,k2,.inl k1]
  delta yB
  dsimp only;rw[uO]
def UI(h:∀ x,x∈xs↔x∈ys){a b:Int}(h1:∀ x∈xs,x<=a)(h2:a∈xs\/(xs=[]/\a=0))(z:∀ x∈ys,x<=b)(B:b∈ys\/(ys=[]/\b=0)):a=b:=by
 grind
structure Need(ms:List (Int×Int×Int))(en:Int)(n:Nat):Prop where
 pos:1<=n
 few:n<=177
 end_:en<=qD ms n
 least:∀ i,1<=i->i<n->qD ms i<en
def qfv(f:Fine ms)(l:Lens ms)(en)(h0:0<=en)(z:en<=1401):∃ n,Need ms en n/\xg [.br (.lst (ms.map qr)),.fz en[6]]=.ok n[7]:=by
 obtain⟨B,P,e,s1,s2,s3⟩:=qdC f l (if 0>en-1 then 0 else en-1) (by split<;>lia)
 have a0:=Xm f l 0 B;rw[qcv,pL]at a0;have tb:(if 0>en-1 then 0 else en-1)<=1400:=by split<;>lia
 refine#[B+1,#["","",?_,λi h1 h2=>?_],?_]
 .rw[yd];split at s3<;>lia
 .have m:=Xm f l i (B-i);rw[show i+(B-i)=B by lia]at m
  split at s3<;>lia
 delta xg X6
 simp![e];rfl
def qO(ms:List (Int×Int×Int))(n:Nat):List D:=(List.range n).map λk:Nat=>D.int (jh ms k)
structure Voi(ns:List Nt)(ws:Vs):Prop where
 run:run [] (rowOf ns)=!ws
 l8:ws[1]<=8
 vo:∀ v∈ws,Vo v
 ps:∀ v∈ws,∀ c∈v,PsOk c.2.2
 vl:∀ v∈ws,v[1]<=24
 tot:jv ws.flatten<=24
def qfw(ns)(N:NotesOk ns)(B:ns[1]<=24):∃ ws,Voi ns ws:=by
 have R:=Xv N;have rb:=Xw N R;have th:=λt=>qdb N R t
 obtain⟨ws,r,V,l⟩:=qd2 (rowOf ns) (R.up.imp λ{a b} h=>by delta ltC at h;lia) (λc hc=>(rb c hc).2.2.1) th (rowOf ns) [] [] 8 rfl XD "s" (λc _=>th c.1)
 refine#[ws,r,l,λv hv=>#[V.ap v hv,λc hc=>?_],λv hv c hc=>?_,λv hv=>fw (V.len v hv) (fw (Vp ns) B),?_]
 .have:=rb c (V.old v hv c hc)
  delta cend
  lia
 .have hr:=V.old v hv c hc;have:=qcY hr;rw[XA]at this;exact#[R.ne c hr,"",λp hp=>by have:=N.b _ (R.of c hr p hp);exact#[this.2.2.2.2.1,this.2.2.2.2.2],R.ri c hr]
 have:=qdu _ _ _ r;rw[XA]at this;have z:jv [].flatten=0:=rfl;lia
def qfx(ns):qQ (qQ ns)=qQ ns:=by
 have ft:∀ l:List (List Int),l.filter (λ_=>true)=l:=λl=>dB.mpr λ_ _=>rfl
 have h:=Uo (λ_=>true) (ft _) (Qy (ns.map ntR))
 rw[ft]at h;show(jq ((qQ ns).map ntR)).map ofR=_;rw[uL,h];rfl
def qfy(ns):rowOf (qQ ns)=rowOf ns:=by delta rowOf;rw[qfx]
def wA(ws:Vs)(ms:List (Int×Int×Int))(n:Nat):List (List (List Ev)):=ws.map λv=>ww v ms n
def vn(r:List (List Ev)):D:=.lst (uW r)
def xz{α:Type}{it:IF}{i:Nat}(xs:List α)(g h)(hi:it ρ=.ok (xs.map g))(O:xs[1]<=sz)(B:∀ x∈xs,∃ w,e ((jj 1 ρ).set i (!(g x)[8]))=.ok w/\w.st=.ok (h x)) :
  qS 1 it (gV i) qX e ρ=.ok (.lst (xs.map h))[9]:=by
 classical
 let f:D->D:=λd=>if q:∃ x,x∈xs/\g x=d then h q.choose else .non
 have key:∀ x∈xs,(∃ w,e ((jj 1 ρ).set i (!(g x)[8]))=.ok w/\w.st=.ok (f (g x)))/\f (g x)=h x:=λx hx=>by
  have q:∃ y,y∈xs/\g y=g x:=#[x,hx,rfl];have fe:f (g x)=h q.choose:=dif_pos q;obtain⟨y1,y2⟩:=q.choose_spec;obtain⟨w,a,b⟩:=B _ y1;obtain⟨w2,a2,b2⟩:=B x hx
  simp_all
 rw[yx hi (by rw[gj];exact O) (ku i f _ _ λd hd=>by
  obtain⟨x,hx,z⟩:=gK.mp hd;subst z;exact(key x hx).1)]
 simp_all
def W5{i:Nat}(z:ρ.length=i)(d):((jj 1 ρ).set i d)[i]?=!d:=List.getElem?_set_self (by delta jj;simp;lia)
def UJ{i j:Nat}(z:ρ.length=i)(B:j<i)(d):((jj 1 ρ).set i d)[j]?=(ρ[j]?).map ro:=by
 rw[hU ""]
 delta jj
 rw[t8 (by simp;lia),gM]
def qfz(f:Fine ms)(l:Lens ms)(v)(V:Vo v)(n)(B:n<=177):xh [.fz (vD v),.br (.lst (qO ms n))]=.ok (vn (ww v ms n))[9]:=by
 have hz:sz=16777216:=rfl
 delta xh Xd
 left;rw[Yj rfl];left;obtain⟨ρ,er,j4,z⟩:=vx (qO ms n) (λi ρ=>∃ j4,ρ=[!(vD v)[8],!(.br (.lst (qO ms n))),!(vn (ww v ms i))[9],!(qD ms i)[7],j4])
  (g:=gV 4) (b:=qf (qY 2 (qh uE [(q9 0),(q9 3),(eOp qA (q9 3) (q9 4))])) (za 3 zU (q9 4)))
  (ρ:=[!(vD v)[8],!(.br (.lst (qO ms n))),!(.lst [])[9],!0[7],none]) #[none,rfl] (λi x ρ hx #[j4,z]=>by
   subst z
   delta qO at hx
   rw[gM]at hx;cases ei:(List.range n)[i]? with
   | none=>rw[ei]at hx;cases hx
   | some k =>
    rw[ei]at hx;cases hx;have hi:i<n:=by have:=(gw.mp ei).1;simpa using this
    rw[pt hi]at ei;cases ei;have dp:=JC f l i;have be:=qdn v V (qD ms i) (qD ms i+jh ms i) "" ""
    rw[show D.lst (v.map chD)=vD v from rfl]at be
    refine#[_,_,rfl,.inl ?_,!(jh ms i)[7],rfl];left;rw[zy (d:=.lst ((zn v (qD ms i) (qD ms (i+1))).map evD)) rfl (by simp[uW,ww,hz];lia) (by
     rw[yd];simp![be])]
    simp![yd];simp[vn,uW,ww,d7,yd])
 rw[er];subst z
 delta qO
 rw[gj,pO];left
def qfA(V:Voi ns ws)(pos:∀ c∈rowOf ns,1<=c.2.1)(xs)(O:rowOf xs=rowOf ns)(U:(xs.map ntR).Nodup)(Y:xs[1]<=24)(f:Fine ms)(l:Lens ms)(n)(Z:n<=177)(a b i)(ρ)(z:ρ.length=i)(B:b<i)
  (ha:(q9 a) ρ=.ok (.br (.lst (xs.map ntD))))(hb:ρ[b]?=!(!(.lst (qO ms n))[9])) :
  qS 1 (qZ (qh yP [(qh y8 [(q9 a)])])) (gV i) qX (qh xh [(q9 i),(q9 b)]) ρ=.ok (.lst ((wA ws ms n).map vn))[9]:=by
 have hz:sz=16777216:=rfl;have ch:=qcX xs U Y;rw[O]at ch;have rl:=Vp xs;rw[O]at rl;have vo:=qd8 (.lst ((rowOf ns).map chD))[8] (rowOf ns) (.inr rfl) "" pos
 rw[V.run]at vo;have it:qZ (qh yP [(qh y8 [(q9 a)])]) ρ=.ok (ws.map vD):=vV (w:=.ow (.lst (ws.map vD))) (by
  have c1:(qh y8 [(q9 a)]) ρ=.ok (.lst ((rowOf ns).map chD))[9]:=by simp[Qr,Qo,Qn,ha,xV,Qq,Qp,Ye,ch]
  rw[Qr,Qo,c1];simp[Qn,xV,Qq,Qp,qa7,vo,Vu]) rfl
 have l8:=V.l8;rw[xz ws vD (λv=>vn (ww v ms n)) it "" λv hv=>#[.ow (vn (ww v ms n)),?_,rfl]]
 .delta wA
  rw[hE];rfl
 have v1:(q9 i) ((jj 1 ρ).set i (!(vD v)[8]))=.ok (vD v)[8]:=by rw[yy,W5 z];rfl
 have v2:(q9 b) ((jj 1 ρ).set i (!(vD v)[8]))=.ok (.br (.lst (qO ms n))):=by rw[yy,UJ z B,hb];rfl
 simp[Qr,Qo,Qn,v1,v2,xV,Qq,Qp,Yd,Ye,qfz f l v (V.vo v hv) n Z]
def vQ(ws:Vs)(ms:List (Int×Int×Int))(b:Nat):List (List Ev):=ws.map λv=>zn v (qD ms b) (qD ms (b+1))
def barsB(ws:Vs)(ms:List (Int×Int×Int))(n:Nat):List (List (List Ev)):=(List.range n).map (vQ ws ms)
def qfB(ws)(Z:ws[1]<=8)(ms)(n k)(O:k<n)(j m i)(ρ)(z:ρ.length=i)(U:m<i)(B:iVc j ρ=.ok ((wA ws ms n).map vn))(Y:ρ[m]?=!(!k[7])) :
  qS 1 (iVc j) (gV i) qX (eOp qc (q9 i) (q9 m)) ρ=.ok (brD (vQ ws ms k))[9]:=by
 have hz:sz=16777216:=rfl
 delta wA at B
 rw[hE]at B;rw[xz ws _ (λv=>rwD (zn v (qD ms k) (qD ms (k+1)))) B "" λv hv=>#[.fz (rwD (zn v (qD ms k) (qD ms (k+1)))),?_,rfl]]
 .delta brD vQ
  rw[hE];rfl
 have v1:∀ d,(q9 i) ((jj 1 ρ).set i (!d[8]))=.ok d[8]:=λd=>by rw[yy,W5 z];rfl
 have v2:∀ d,(q9 m) ((jj 1 ρ).set i d)=.ok k[7]:=λd=>by rw[yy,UJ z U,Y];rfl
 have ix:qc (vn (ww v ms n)) k[6]=.ok (rwD (zn v (qD ms k) (qD ms (k+1))))[8]:=by
  show okD (ati (uW (ww v ms n)) k)=_
  delta uW ww
  rw[zm,hE,gM,pt O];rfl
 simp[Qm,v1,v2,xV,qa8,ix]
def UK{ws:Vs}(V:Voi ns ws)(f:Fine ms)(l:Lens ms)(b):(vQ ws ms b)[1]=ws[1]/\∀ r∈vQ ws ms b,PRow r/\(r.map pv).sum=jh ms b:=by
 have d:=JC f l b;have s:=yd ms b;refine#[by delta vQ;rw[gj],λr hr=>?_]
 obtain⟨v,hv,z⟩:=gK.mp hr;subst z;have sm:=(U4 _ _ _ (qdm (V.vo v hv) (b:=qD ms b) (e:=qD ms (b+1)) "")).2
 have sm:qD ms (b+1)=qD ms b+((zn v (qD ms b) (qD ms (b+1))).map pv).sum:=sm;have vl:=V.vl v hv;obtain⟨be,bl⟩:=(U7 (qD ms b) (qD ms (b+1)) 512 8 (JJ 512 8 (.inr #["",rfl])) "" "" v (V.ps v hv)).1
 refine#[#[be,"",?_],""]
 grind
def UL(V:Voi ns ws)(b:Nat)(p)(hp:(jh ms b<=96/\p=4)\/(jh ms b<=512/\p=8)):((vQ ws ms b).map hcR).sum<=p*24:=by
 delta vQ
 rw[hE];exact fw (qdv (qD ms b) (qD ms (b+1)) (jh ms b) p (JJ _ p hp) (by rw[yd];lia) "" ws V.ps) (Nat.mul_le_mul_left p V.tot)
def endsOf(z:List Nt):List Int:=z.map λp=>p.1+p.2.1
def qfC(ns):∀ x,x∈endsOf (qQ ns)↔x∈endsOf ns:=λx=>((wt ns).map _).mem_iff
structure EndOf(ns:List Nt)(en:Int):Prop where
 up:∀ x∈endsOf ns,x<=en
 is:en∈endsOf ns\/(endsOf ns=[]/\en=0)
def qfD(N:NotesOk ns){B:Int}(E:EndOf ns B):0<=B/\B<=1401:=by
 rcases E.is with h|⟨_,h⟩
 .obtain⟨p,hp,z⟩:=gK.mp h;have:=N.b p hp;lia
 lia
def qfE(ns)(N:NotesOk ns)(nl:ns[1]<=24)(V:Voi ns ws){ms:List (Int×Int×Int)}(f:Fine ms)(l:Lens ms){O:Int}(E:EndOf ns O){n:Nat}(Y:Need ms O n)(Z:xg [.br (.lst (ms.map qr)),.fz O[6]]=.ok n[7]) :
  Vi [.br (.lst ((qQ ns).map ntD)),.br (.lst (ms.map qr))]=.ok (.lst ((barsB ws ms n).map brD))[9]:=by
 have hz:sz=16777216:=rfl;have sl:(qQ ns)[1]=ns[1]:=(wt ns).length_eq;have nf:=Y.few;have R:=Xv N;have rb:=Xw N R;have cm:qS 1 (iVc 0) (gV 7) qX (qh zJ [(q9 7)]) [!(.br (.lst ((qQ ns).map ntD))),!(.br (.lst (ms.map qr))),none,none,none,none,none]=.ok (.lst ((endsOf (qQ ns)).map D.int))[9]:=by
  rw[xz (qQ ns) ntD (λp=>.int (p.1+p.2.1)) (wY (w:=.br (.lst ((qQ ns).map ntD))) rfl rfl) "" λp hp=>#[.fz (p.1+p.2.1)[6],by simp![jj,Ue],rfl]]
  delta endsOf
  rw[hE];rfl
 obtain⟨z,me,u1,u2⟩:=W4 (endsOf (qQ ns));have ee:z=O:=UI (qfC ns) u1 u2 E.up E.is;subst ee;have bl:=qdB f n ""
 have U:=qfA V (λc hc=>(rb c hc).2.2.1) (qQ ns) (qfy ns) (by rw[uL];exact(wZ _).nodup_iff.mpr N.nodup) "" f l n nf 0 3 7 [!(.br (.lst ((qQ ns).map ntD))),!(.br (.lst (ms.map qr))),!z[7],!(.lst (qO ms n))[9],none,none,none] rfl "d" rfl rfl
 have s2:(qk 2 (eOp yB (qS 1 (iVc 0) (gV 7) qX (qh zJ [(q9 7)])) 0[5])) [!(.br (.lst ((qQ ns).map ntD))),!(.br (.lst (ms.map qr))),none,none,none,none,none]=.nx [!(.br (.lst ((qQ ns).map ntD))),!(.br (.lst (ms.map qr))),!z[7],none,none,none,none]:=by
  simp![Qk,Qm,cm,me]
 have s3:(qk 3 (qh uz [(q9 1),(qh xg [(q9 1),(q9 2)])])) [!(.br (.lst ((qQ ns).map ntD))),!(.br (.lst (ms.map qr))),!z[7],none,none,none,none]=.nx [!(.br (.lst ((qQ ns).map ntD))),!(.br (.lst (ms.map qr))),!z[7],!(.lst (qO ms n))[9],none,none,none]:=by
  simp![Z,bl];rfl
 have s4:(qk 4 (qS 1 (qZ (qh yP [(qh y8 [(q9 0)])])) (gV 7) qX (qh xh [(q9 7),(q9 3)]))) [!(.br (.lst ((qQ ns).map ntD))),!(.br (.lst (ms.map qr))),!z[7],!(.lst (qO ms n))[9],none,none,none]=.nx [!(.br (.lst ((qQ ns).map ntD))),!(.br (.lst (ms.map qr))),!z[7],!(.lst (qO ms n))[9],!(.lst ((wA ws ms n).map vn))[9],none,none]:=by
  rw[Qk,U];rfl
 show fin ((qf (qk 2 _) _) [!(.br (.lst ((qQ ns).map ntD))),!(.br (.lst (ms.map qr))),none,none,none,none,none])=_;rw[jG,s2,jT,jG,s3,jT,jG,s4,jT,jG];obtain⟨ρ,e,j6,B⟩:=Qg n (λi ρ=>∃ j6,ρ=[!(.br (.lst ((qQ ns).map ntD))),!(.br (.lst (ms.map qr))),!z[7],!(.lst (qO ms n))[9],!(.lst ((wA ws ms n).map vn))[9],!(.lst ((barsB ws ms i).map brD))[9],j6])
  (g:=gV 6) (b:=qY 5 (qS 1 (iVc 4) (gV 7) qX (eOp qc (q9 7) (q9 6)))) (ρ:=[!(.br (.lst ((qQ ns).map ntD))),!(.br (.lst (ms.map qr))),!z[7],!(.lst (qO ms n))[9],!(.lst ((wA ws ms n).map vn))[9],!(.lst [])[9],none]) #[none,rfl] (λi ρ hi #[j6,B]=>by
   subst B;have ce:=qfB ws V.l8 ms n i hi 4 6 7 [!(.br (.lst ((qQ ns).map ntD))),!(.br (.lst (ms.map qr))),!z[7],!(.lst (qO ms n))[9],!(.lst ((wA ws ms n).map vn))[9],!(.lst ((barsB ws ms i).map brD))[9],!i[7]] rfl "d" (wY (w:=.ow (.lst ((wA ws ms n).map vn))) rfl rfl) rfl
   refine#[_,_,rfl,.inl ?_,!i[7],rfl];show(qY 5 _) [!(.br (.lst ((qQ ns).map ntD))),!(.br (.lst (ms.map qr))),!z[7],!(.lst (qO ms n))[9],!(.lst ((wA ws ms n).map vn))[9],!(.lst ((barsB ws ms i).map brD))[9],!i[7]]=_;rw[zy (xs:=(barsB ws ms i).map brD) (d:=brD (vQ ws ms i)) rfl (by delta barsB;rw[gj,gj,pO];lia) (by rw[ce];rfl)]
   simp[barsB,d7])
 have ln:(qO ms n)[1]=n:=by delta qO;rw[gj,pO]
 left;rw[Qw (n:=n) (by simp![ln]) "",zw,e]
 subst B;left
def qiB:xj=den 12 (Uw io0):=rfl
def qfF(fn)(k)(w)(B r)(O:w=.fz B\/w=.br B)(t:xj [w,.fz k[6],.fz fn]=.ok r[9]):fin ((qp (qh xj [(q9 0),(q9 1),(eC fn)])) [!w,!k[7]])=.ok r[9]:=by
 have c:(qh xj [(q9 0),(q9 1),(eC fn)]) [!w,!k[7]]=.ok r[9]:=by
  rcases O with z|z<;>(subst z;simp![t])
 rw[Yb,c];rfl
def qfG(k)(Rs)(h:∀ R∈Rs,zj (FH k) R)(B:Rs.length<=200)(w)(z:w=.fz (.lst (Rs.map (grD (FH k))))\/w=.br (.lst (Rs.map (grD (FH k))))) :
  Jy [w,.fz k[6]]=.ok (.lst ((yg (FH k) Rs []).map brT))[9]:=by
 exact qfF _ k w _ _ z (qeL (qeU k) Rs h B w z)
def gq:GE (List H3)->Option Nat×Int
 | .rest v=>(none,v)
 | .note v hs _=>(!hs[1],v)
def eq3:Ev->Option Nat×Int
 | .rest v=>(none,v)
 | .note v ps _=>(!ps[1],v)
def iq:GE (List Int)->Option Nat×Int
 | .rest v=>(none,v)
 | .note v ps _=>(!ps[1],v)
theorem UM(k:Int):∀(Rs:List (List (List Ev))) (ah:List (Sum Int Str×D)),(∀ R∈Rs,∀ r∈gR R,∀ e∈r,GeOk (FH k) e)->(QsOf k Rs ah).map (·.map (·.map gq))=Rs.map (·.map (·.map eq3))
 | [],_,_=>rfl
 | R::Rs,ah,h=>by
  have a:=qf0 gq iq (k:=k) (λT kds e=>by
   cases e with
   | rest v=>rfl
   | note v ps t=>show(!_,v)=(!_,v);rw[(VV (isT T) k ps kds).1]) (h R t4) ah
  rw[QsOf,gW,gW,a,UM k Rs _ λx hx=>h x (gu _ hx)]
  congr 1;unfold gR;rw[hE];apply t3;intro r _;show(r.map gOf).map iq=r.map eq3;rw[hE];apply t3;intro e _;cases e<;>rfl
def q_gh{Q:List (List (GE (List H3)))}{R:List (List Ev)}(h:Q.map (·.map gq)=R.map (·.map eq3)):Q.map ghR=R.map hcR/\jr Q=R.map (·.map pv):=by
 have a:ghR=λr=>((r.map gq).map λp=>p.1.getD 0).sum:=funext λr=>by
  unfold ghR;rw[hE];congr 1;apply t3;intro e _;cases e<;>rfl
 have b:hcR=λr=>((r.map eq3).map λp=>p.1.getD 0).sum:=funext λr=>by
  unfold hcR;rw[hE];congr 1;apply t3;intro e _;cases e<;>rfl
 have c:(λr:List (GE (List H3))=>r.map gv)=λr=>(r.map gq).map Prod.snd:=funext λr=>by
  rw[hE];apply t3;intro e _;cases e<;>rfl
 have d:(λr:List Ev=>r.map pv)=λr=>(r.map eq3).map Prod.snd:=funext λr=>by
  rw[hE];apply t3;intro e _;cases e<;>rfl
 constructor
 .have:=congrArg (List.map λl:List (Option Nat×Int)=>(l.map λp=>p.1.getD 0).sum) h
  rw[hE,hE]at this;rw[a,b];exact this
 have:=congrArg (List.map λl:List (Option Nat×Int)=>l.map Prod.snd) h
 rw[hE,hE]at this;unfold jr;rw[c,d];exact this
def wf(k:Int)(Q:List (List (GE (List H3)))):D:=match yb [.fz (grD (FP k) Q)]with
 | .ok d[8]=>d
 | _=>.non
def qfH(k)(h0:-7<=k)(h1:k<=7):Jo [.fz k[6]]=.ok k[7]:=by
 delta Jo X2
 have w:=uJ k[6] (-7) 7 rfl;rw[show zD (-7) 7 k[6]=true by simp[zD,h0,h1]]at w
 simp![V3,V4,w]
def qfI(r)(h0:1<=r)(h1:r<=5000):Jq [.fz r[6]]=.ok r[7]:=by
 delta Jq X4
 have w:=uJ r[6] 1 5000 rfl;rw[show zD 1 5000 r[6]=true by simp[zD,h0,h1]]at w
 simp![V6,V7,w]
structure Pg(ns:List Nt)(k:Int)(ms:List (Int×Int×Int))(r en:Int)(n:Nat)(ws:Vs)(Qs:List (List (List (GE (List H3)))))(cs fs:List Nat):Prop where
 V:Voi ns ws
 E:EndOf ns en
 N:Need ms en n
 ok:∀ Q∈Qs,zj (FP k) Q
 qs:Qs.map (·.map (·.map gq))=(barsB ws ms n).map (·.map (·.map eq3))
 cl:cs[1]=n/\∀ c∈cs,c<3
 fi:∃ t,fs=0::t/\∀ x∈fs,x<n
 pg:uH [.br (.lst (ns.map ntD)),.fz k[6],.br (.lst (ms.map qr)),.fz r[6]]=.ok (.tup [.int k,.lst (ms.map qr),.int r,.lst (cs.map qz),.lst (fs.map qz),.lst (Qs.map (grD (FP k)))])[8]
def qfJ(B:List Nt)(N:NotesOk B)(Y:B[1]<=24)(k:Int)(k0:-7<=k)(k7:k<=7)(ms:List (Int×Int×Int))(g:GM ms)(f:Fine ms)(l:Lens ms)(r:Int)(r5:r<=5000)(O:((∀ b:Nat,jh ms b<=96)/\400<=r)\/2000<=r) :
  ∃ en n ws Qs cs fs,Pg B k ms r en n ws Qs cs fs:=by
 have hz:sz=16777216:=rfl;obtain⟨ws,V⟩:=qfw B N Y;obtain⟨en,_,u1,u2⟩:=W4 (endsOf B);have E:EndOf B en:=#[u1,u2];obtain⟨e0,e1⟩:=qfD N E;obtain⟨n,hn,nd⟩:=qfv f l en e0 e1;have nf:=hn.few;have np:=hn.pos;have bo:=qfE B N Y V f l E hn nd;have l8:=V.l8;have bk:=UK V f l;have Rk:∀ R∈barsB ws ms n,R.length=ws[1]/\∀ r∈R,PRow r:=λR hR=>by
  obtain⟨b,_,z⟩:=gK.mp hR;subst z;exact#[(bk b).1,λr O=>((bk b).2 r O).1]
 have bl:(barsB ws ms n)[1]=n:=by unfold barsB;rw[gj,pO]
 have Gk:∀ R∈barsB ws ms n,zj (FH k) (gR R):=λR hR=>qf2 k R #[by rw[(Rk R hR).1];exact l8,(Rk R hR).2]
 obtain⟨l2,l3⟩:=Qs_D k (barsB ws ms n) [] Gk;have qs:=UM k (barsB ws ms n) [] λR hR r O=>((Gk R hR).2 r O).1
 generalize hQ:QsOf k (barsB ws ms n) []=Qs at *;have ql:Qs.length=n:=by have:=congrArg List.length qs;rw[gj,gj,bl]at this;exact this
 have gF:(barsB ws ms n).map brD=((barsB ws ms n).map gR).map (grD (FH k)):=by
  rw[hE];apply t3;intro R _;exact(gR_D k R).symm
 have sg:∀ w,(w=.fz (.lst ((barsB ws ms n).map brD))\/w=.br (.lst ((barsB ws ms n).map brD)))->Jy [w,.fz k[6]]=.ok (.lst (Qs.map (grD (FP k))))[9]:=λw hw=>by
  rw[l2];exact qfG k ((barsB ws ms n).map gR) (λR hR=>by
   obtain⟨Q,hQ,e⟩:=gK.mp hR;subst e;exact Gk Q hQ) (by rw[gj];lia) w (by rw[<- gF];exact hw)
 have wx:∀ Q∈Qs,∃ w:Int,yb [.fz (grD (FP k) Q)]=.ok w[7]/\1<=w/\w<=r:=λQ hQ=>by
  obtain⟨b,hb⟩:=List.mem_iff_getElem?.mp hQ;have hb2:b<n:=by have:=(gw.mp hb).1;lia
  have z:=congrArg (·[b]?) qs
  unfold barsB at z;simp only[gM,hb,pt hb2,Option.map_some]at z;obtain⟨q1,q2⟩:=q_gh (tH z);have d:=JC f l b;obtain⟨w,we,w1,w2⟩:=qfc k Q (l3 Q hQ) (jh ms b).toNat (λx hx=>by
   rw[q2]at hx;obtain⟨y,hy,z⟩:=gK.mp hx;subst z;have:=((bk b).2 y hy).2;lia)
  refine#[w,we,w1,?_];rw[q1]at w2;rcases O with⟨U,O⟩|O
  .have:=UL V (ms:=ms) b 4 (.inl #[U b,rfl]);have:=U b;lia
  have:=UL V (ms:=ms) b 8 (.inr #[d.2,rfl]);lia
 have wq:∀ Q∈Qs,yb [.fz (grD (FP k) Q)]=.ok (wf k Q)[8]/\∃ w:Int,wf k Q=.int w/\1<=w/\w<=r:=λQ hQ=>by
  obtain⟨w,we,wb⟩:=wx Q hQ;have e:wf k Q=.int w:=by unfold wf;rw[we]
  rw[e];exact#[we,w,rfl,wb]
 obtain⟨xs,xe,xb,xl⟩:=UC (p:=λw=>1<=w/\w<=r) (Qs.map (wf k)) λy hy=>by
  obtain⟨Q,hQ,z⟩:=gK.mp hy;subst z;exact(wq Q hQ).2
 rw[gj]at xl;obtain⟨cs,ce,c1,c2⟩:=qfn k Qs "" l3
 obtain⟨fs,t,t1,t2,ff⟩:=qfu xs r r5 "" "" xb
 refine#[en,n,ws,Qs,cs,fs,V,E,hn,l3,qs,#["",c2],#[t,t1,λx hx=>by have:=t2 x hx;lia],?_]
 have ck:=qfH k k0 k7;have cm:=qdY (ds:=ms.map qr) (by rw[gj];exact g.l1) (by rw[gj];exact g.l2) (λj hj=>qdZ g (λ_ _=>rfl) hj[""])
 have cn:=qdS (f:=.br) (.inr rfl) (qdN N Y);have cr:=qfI r "" r5
 have s6:=sg _ (.inl rfl);have c7:∀ ρ:Rho,ρ.length=8->ρ[6]?=!(!(.lst (Qs.map (grD (FP k))))[9])->qS 1 (iVc 6) (gV 8) qX (qh yb [(q9 8)]) ρ=.ok (.lst (xs.map D.int))[9]:=λρ Z h6=>by
  rw[<- xe];refine xz Qs (grD (FP k)) (wf k) (wY (w:=.ow (.lst (Qs.map (grD (FP k))))) h6 rfl) "" λQ hQ=>#[.fz (wf k Q),?_,rfl]
  have v1:(q9 8) ((jj 1 ρ).set 8 (!(grD (FP k) Q)[8]))=.ok (grD (FP k) Q)[8]:=by rw[yy,W5 Z];rfl
  simp only[Qr,Qo,Qn,v1,xV,Qq,Qp,Yd,(wq Q hQ).1]
 unfold uH Xg;simp![ck,cm,cn,cr,bo,s6];rw[c7 _ rfl rfl];simp![ce,ff];rfl
def qfK(ns)(b:Nat):jh (vP ns false) b<=96:=by
 obtain⟨p,hp,e⟩:=Xl (Vk ns false) b;obtain⟨k,hk,z⟩:=gK.mp hp;subst z;obtain⟨u1,u2,u3,u4,u5,u6,u7⟩:=xo false _ (xn (jz ns k) false);have hi:=tM (JA (jz ns k) false).2 (cI u1);have m:wM false=96:=rfl;rw[e];show vh (jz ns k) false*jB (jz ns k) false<=96;lia
def qfL(z:List Int)(wd):∃ r,Jm [.fz (.lst (z.map D.int)),.fz (.bl wd)]=.ok r[7]/\r<=5000/\((wd=false/\400<=r)\/2000<=r):=by
 have c4:zX [.fz (.lst (z.map D.int)),.fz 4[6]]=.ok (cell z 4)[7]:=xm z 4
 delta Jm KS
 cases wd
 .have b:=zZ (cell z 4) 9887 400 "d"
  exact#[400+qT (cell z 4) 9887 400,by simp![c4,(zY (cell z 4) 9887 400 "d" "d")],"",.inl #[rfl,""]]
 have b:=zZ (cell z 4) 9887 3001 "d"
 exact#[2000+qT (cell z 4) 9887 3001,by simp![c4,(zY (cell z 4) 9887 3001 "d" "d")],"",.inr ""]
def qfM(z:List Int):∃ k,Jl [.fz (.lst (z.map D.int))]=.ok k[7]/\-7<=k/\k<=7:=by
 have c5:zX [.fz (.lst (z.map D.int)),.fz 5[6]]=.ok (cell z 5)[7]:=xm z 5;have b:=zZ (cell z 5) 9883 15 "d"
 delta Jl KR
 exact#[qT (cell z 5) 9883 15-7,by simp![c5,(zY (cell z 5) 9883 15 "d" "d")],"",""]
def JR(n:Int):vW [.fz n[6]]=.ok (.bl true)[8]:=rfl
def qfN(v:Int)(z:v∈keysP):uu [.fz v[6]]=.ok (.bl true)[8]:=by
 simp only[keysP,gG,p9,bN]at z;rcases z with h|h|h|h|h|h|h|h|h|h|h|h|h|h|h|h|h|h<;>(subst h;kernel_rfl)
def qfO:dNe (.str "note") (.str "note")=.ok (.bl false)[8]:=by kernel_rfl
def qfP(k:Int)(e:GE (List H3))(h1:(gq e).2∈keysP)(h2:(gq e).1≠!0):yO [.fz (geD (FP k) e)]=.ok (.bl true)[8]:=by
 have w:=qfN _ h1;unfold yO KU;cases e with
 | rest v =>
  show fin _=_;have w:uu [.fz v[6]]=.ok (.bl true)[8]:=w;have d:decide ((2:Int)<2)=false:=rfl;have b:((2:Int)==2)=true:=rfl;simp![geD,JR,w,Uq,d,b]
 | note v hs t =>
  have w:uu [.fz v[6]]=.ok (.bl true)[8]:=w;have d:decide ((4:Int)<2)=false:=rfl;have b:(not ((4:Int)==4))=false:=rfl;have ib:dIs .bool (.bl t)=.ok (.bl true)[8]:=rfl;have it:dIs .tuple (.tup (hs.map h3D))=.ok (.bl true)[8]:=rfl;have p:decide ((0:Int)<((hs.map h3D)[1]:Int))=true:=by
   cases hs with
   | nil=>exact absurd rfl h2
   | cons x l=>simp
  have g:geD (FP k) (.note v hs t)=.tup [.str "note",.int v,.tup (hs.map h3D),.bl t]:=rfl;rw[g];simp![JR,w,VO,qfO,d,b,ib,it,p]
def qfQ{ms:List (Int×Int×Int)}(f:Fine ms){B:Int}{n:Nat}(O:Need ms B n):Jg [.fz (.lst (ms.map qr)),.fz B[6]]=.ok (.lst (qO ms n))[9]:=by
 have hz:sz=16777216:=rfl;have nf:=O.few;have np:=O.pos;have ml:=f.2.2.2;have dl:∀ i,(qO ms i)[1]=i:=λi=>by unfold qO;rw[gj,pO]
 have sm:∀ i,vU [.lst (qO ms i)]=.ok (qD ms i)[7]:=λi=>by
  have:qO ms i=((List.range i).map λk:Nat=>jh ms k).map D.int:=by unfold qO;rw[hE];rfl
  rw[this,W1];rfl
 have go:∀ q i:Nat,i<=n->n-i<q->zk (tOr (qG (tE (q9 2))) (tE (eOp dLt (eB vU [(q9 2)]) (q9 1)))) (qY 2 (eOp qc (qS 1 (iVc 0) (gV 3) (tE (eOp dLe (eOp qc (q9 3) 0[5]) (eB qJ [(q9 2)]))) (eOp jJ (eOp qc (q9 3) 1[5]) (eOp qc (q9 3) 2[5]))) (eUn jL 1[5]))) q
   [!(.lst (ms.map qr))[8],!B[7],!(.lst (qO ms i))[9]]=.nx [!(.lst (ms.map qr))[8],!B[7],!(.lst (qO ms n))[9]]:=by
  intro q
  induction q with
  | zero=>intro i _ h;lia
  | succ q ih =>
   intro i hi hq;have e1:i≠0->(qO ms i).isEmpty=false:=λh=>by rw[List.isEmpty_eq_false_iff];intro z;have:=dl i;rw[z]at this;exact h this.symm
   by_cases c:i=n
   .subst c;refine U8 ?_;have e2:decide (qD ms i<B)=false:=by have:=O.end_;simp;lia
    simp![e1 "",sm,e2]
   refine(U9 ?_ ?_).trans (ih (i+1) "" "")
   .by_cases z:i=0
    .subst z;rfl
    have e2:decide (qD ms i<B)=true:=by have:=O.least i "" "";simpa using this
    simp![e1 z,sm,e2]
   have cm:(qS 1 (iVc 0) (gV 3) (tE (eOp dLe (eOp qc (q9 3) 0[5]) (eB qJ [(q9 2)]))) (eOp jJ (eOp qc (q9 3) 1[5]) (eOp qc (q9 3) 2[5]))) [!(.lst (ms.map qr))[8],!B[7],!(.lst (qO ms i))[9]]=.ok (.lst ((zC ms i).map D.int))[9]:=by
    refine yx (ds:=ms.map qr) (wY (w:=.fz (.lst (ms.map qr))) rfl rfl) (by rw[gj];lia) ?_
    rw[<- qcu];refine Zt 3 (pD i) Xj _ _ λd hd=>?_
    obtain⟨p,hp,z⟩:=gK.mp hd;subst z;have hb:=f.2.1 p hp;refine#[by simp![jj,ro,qr,pD,dl],λ_=>#[.fz (p.2.1*p.2.2)[6],?_,rfl]]
    simp![jj,ro,qr,yA (i:=p.2.1) (j:=p.2.2) "" ""]
   rw[zy (xs:=qO ms i) (d:=.int (jh ms i)) rfl (by rw[dl];lia) (by
    rw[Qm,cm];simp![Int.reduceNeg,Qh,dZ,Xk f i,Option.map_some])]
   simp[qO,d7]
 unfold Jg Kv;have g:=go 180 0 (tK _) ""
 have g:zk _ _ 180 [_,_,!(.lst [])[9]]=_:=g;simp![wQ];rw[g];left
def UN(xs:List Nat)(h0:xs≠[])(N:Nat)(h:∀ x∈xs,x<N):∃ a b:Int,kt [.lst (xs.map qz)]=.ok a[7]/\a<N/\vN [.lst (xs.map qz)]=.ok b[7]/\0<=b:=by
 have e:xs.map qz=(xs.map λx:Nat=>(x:Int)).map D.int:=by rw[hE];rfl
 cases xs with
 | nil=>exact absurd rfl h0
 | cons x r =>
  obtain⟨p,_⟩:=Qe (r.map λx:Nat=>(x:Int)) (x:Int)
  obtain⟨q,_⟩:=QK (r.map λx:Nat=>(x:Int)) (x:Int)
  rw[<- gW (f:=λx:Nat=>(x:Int))]at p q
  obtain⟨y,hy,p⟩:=gK.mp p;obtain⟨z,hz,q⟩:=gK.mp q;refine#[vT x (r.map λx:Nat=>(x:Int)),vz x (r.map λx:Nat=>(x:Int)),?_,?_,?_,?_]
  .unfold kt;dsimp only;rw[e,uO];rfl
  .rw[<- p];have:=h y hy;lia
  .unfold vN;dsimp only;rw[e,uO];rfl
  rw[<- q];lia
def qfR{k r:Int}{cs fs t:List Nat}{n:Nat}(c1:cs[1]=n)(Z:1<=n)(c2:∀ c∈cs,c<3)(O:fs=0::t)(Y:∀ x∈fs,x<n) :
  Jn [.fz (.tup [.int k,.lst a,.int r,.lst (cs.map qz),.lst (fs.map qz),b]),.fz (n:Int)[6]]=.ok (.bl true)[8]:=by
 obtain⟨ma,mi,m1,m2,m3,m4⟩:=UN cs (λz=>by subst z;simp at c1;lia) 3 c2
 obtain⟨fa,fi,o1,o2,_,_⟩:=UN fs (λz=>by rw[z]at O;cases O) n Y
 have sl:dSl (.tup [.int k,.lst a,.int r,.lst (cs.map qz),.lst (fs.map qz),b]) ↑3 ↑5=.ok (.tup [.lst (cs.map qz),.lst (fs.map qz)])[8]:=rfl;have i3:qc (.tup [.int k,.lst a,.int r,.lst (cs.map qz),.lst (fs.map qz),b]) 3[6]=.ok (.lst (cs.map qz))[8]:=rfl;have i4:qc (.tup [.int k,.lst a,.int r,.lst (cs.map qz),.lst (fs.map qz),b]) 4[6]=.ok (.lst (fs.map qz))[8]:=rfl;generalize D.tup [.int k,.lst a,.int r,.lst (cs.map qz),.lst (fs.map qz),b]=PG at sl i3 i4;have U:∀(R2:Option En) (xs:List Nat) (j3:Option En),∃ i3,qH (gV 3) (sIf (qG (tE (qh vW [(q9 3)]))) (qp (eC (.bl false))) qq) (xs.map qz) [!PG[8],!(n:Int)[7],R2,j3]=.nx [!PG[8],!(n:Int)[7],R2,i3]:=λR2 xs j3=>by
  obtain⟨ρ,e,i3,B⟩:=vx (xs.map qz) (λ_ ρ=>∃ i3,ρ=[!PG[8],!(n:Int)[7],R2,i3]) (g:=gV 3) (b:=sIf (qG (tE (qh vW [(q9 3)]))) (qp (eC (.bl false))) qq) (ρ:=[!PG[8],!(n:Int)[7],R2,j3]) #[j3,rfl] (λi x ρ hx #[i3,B]=>by
   subst B;obtain⟨m,_,z⟩:=gK.mp (hV hx);subst z;exact#[_,_,rfl,.inl (by simp![qz,JR]),!(qz m)[8],rfl])
  subst B;exact#[i3,e]
 obtain⟨ρ,e,j2,j3,B⟩:=vx [.lst (cs.map qz),.lst (fs.map qz)] (λ_ ρ=>∃ j2 j3,ρ=[!PG[8],!(n:Int)[7],j2,j3]) (g:=gV 2) (b:=qf (sIf (qG (tE (eUn (dIs .list) (q9 2)))) (qp (eC (.bl false))) qq) (jn 2 (qI (iV 2) (gV 3) (sIf (qG (tE (qh vW [(q9 3)]))) (qp (eC (.bl false))) qq))))
  (ρ:=[!PG[8],!(n:Int)[7],none,none]) #[none,none,rfl] (λi x ρ hx #[j2,j3,B]=>by
   subst B;obtain⟨xs,z⟩:∃ xs:List Nat,x=.lst (xs.map qz):=by
    rcases gG.mp (hV hx)with z|z
    .exact#[cs,z]
    exact#[fs,tQ.mp z]
   subst z;obtain⟨i3,q⟩:=U (!(.lst (xs.map qz))[8]) xs j3;refine#[_,_,rfl,.inl ?_,!(.lst (xs.map qz))[8],i3,rfl];show qf _ _ [!PG[8],!(n:Int)[7],!(.lst (xs.map qz))[8],j3]=.nx [!PG[8],!(n:Int)[7],!(.lst (xs.map qz))[8],i3];left;rw[xW (ds:=xs.map qz) rfl,zw,q])
 subst B;have lc:((cs.map qz)[1]:Int)=(n:Int):=by rw[gj,c1]
 have d1:decide ((2:Int)<ma)=false:=by simp;lia
 have d2:decide (mi<(0:Int))=false:=by simp;lia
 have d3:decide (fa<(n:Int))=true:=by simp;lia
 have cu:vK (fs.map qz) none ↑1=[.int 0]:=by
  rw[O];exact(Xr _ 1).trans rfl
 have q0:dEq (.lst [.int 0]) (.lst [.int 0])=.ok (.bl true)[8]:=rfl;have it:qZ (eSl (q9 0) (oE 3[5]) (oE 5[5])) [!PG[8],!(n:Int)[7],none,none]=.ok [.lst (cs.map qz),.lst (fs.map qz)]:=by
  have z:(eSl (q9 0) (oE 3[5]) (oE 5[5])) [!PG[8],!(n:Int)[7],none,none]=.ok (.tup [.lst (cs.map qz),.lst (fs.map qz)])[8]:=by simp![sl]
  unfold qZ;rw[z];rfl
 unfold Jn KW;left;rw[it,zw,e];simp![i3,i4,lc,pW,m1,m3,d1,d2,cu,q0,o1,d3]
def qfS{k:Int}{O:List (List (List (GE (List H3))))}{n m:Nat}(ok:∀ Q∈O,zj (FP k) Q)(Y:O[1]=n)(Z:n<=177)
  (h:∀(b:Nat) (Q:List (List (GE (List H3)))),O[b]?=!Q->Q[1]=m/\∀ r∈Q,(r.map gv).sum=jh ms b/\∀ e∈r,(gq e).2∈keysP/\(gq e).1≠!0) :
  Ju [.fz (.lst (O.map (grD (FP k)))),.br (.lst (qO ms n))]=.ok (.bl true)[8]:=by
 have hz:sz=16777216:=rfl;have ix:∀(b:Nat) (Q:List (List (GE (List H3)))),O[b]?=!Q->okD (ati (O.map (grD (FP k))) (b:Int))=.ok (grD (FP k) Q)[8]/\qJ [grD (FP k) Q]=.ok (m:Int)[7]:=λb Q e=>by
  refine#[by rw[zm,gM,e];rfl,?_]
  show okI ((Q.map (gwD (FP k)))[1]:Nat)=_;rw[gj,(h b Q e).1]
 have dx:∀ b:Nat,b<n->okD (ati (qO ms n) (b:Int))=.ok (jh ms b)[7]:=λb hb=>by
  unfold qO;rw[zm,gM,pt hb];rfl
 obtain⟨ρ,e,j2,j3,j4,B⟩:=Qg O[1] (λ_ ρ=>∃ j2 j3 j4,ρ=[!(.lst (O.map (grD (FP k))))[8],!(.br (.lst (qO ms n))),j2,j3,j4]) (g:=gV 2) (b:=(qf (sIf (tOr (qG (tE (eUn (dIs .list) (eOp qc (q9 0) (q9 2))))) (tE (eOp dNe (eB qJ [(eOp qc (q9 0) (q9 2))]) (eB qJ [(eOp qc (q9 0) 0[5])])))) (qp (eC (.bl false))) qq)
 (qI (qZ (eOp qc (q9 0) (q9 2))) (gV 3) (qf (sIf (tOr (qG (tE (eUn (dIs .list) (q9 3)))) (tE (eOp dNe (eB vU [(qS 1 (iVc 3) (gV 5) qX (eOp qc (q9 5) 1[5]))]) (eOp qc (q9 1) (q9 2))))) (qp (eC (.bl false))) qq)
 (jn 3 (qI (iV 3) (gV 4) (sIf (qG (tE (qh yO [(q9 4)]))) (qp (eC (.bl false))) qq)))))))
  (ρ:=[!(.lst (O.map (grD (FP k))))[8],!(.br (.lst (qO ms n))),none,none,none]) #[none,none,none,rfl] (λi ρ hi #[j2,j3,j4,B]=>by
   subst B;obtain⟨Q,eQ⟩:∃ Q,O[i]?=!Q:=#[_,gJ hi];obtain⟨Q0,e0⟩:∃ Q,O[0]?=!Q:=#[_,gJ ""]
   obtain⟨x1,x2⟩:=ix i Q eQ;obtain⟨y1,y2⟩:=ix 0 Q0 e0;have y1:okD (ati (O.map (grD (FP k))) 0)=_:=y1;have d:=dx i ""
   have hQ:=(h i Q eQ).2;have U:=(ok Q (hV eQ)).2;have il:dIs .list (grD (FP k) Q)=.ok (.bl true)[8]:=rfl;obtain⟨ρ,e,i3,i4,B⟩:=vx (Q.map (gwD (FP k))) (λ_ ρ=>∃ i3 i4,ρ=[!(.lst (O.map (grD (FP k))))[8],!(.br (.lst (qO ms n))),!(i:Int)[7],i3,i4]) (g:=gV 3) (b:=(qf (sIf (tOr (qG (tE (eUn (dIs .list) (q9 3)))) (tE (eOp dNe (eB vU [(qS 1 (iVc 3) (gV 5) qX (eOp qc (q9 5) 1[5]))]) (eOp qc (q9 1) (q9 2))))) (qp (eC (.bl false))) qq)
 (jn 3 (qI (iV 3) (gV 4) (sIf (qG (tE (qh yO [(q9 4)]))) (qp (eC (.bl false))) qq)))))
    (ρ:=[!(.lst (O.map (grD (FP k))))[8],!(.br (.lst (qO ms n))),!(i:Int)[7],j3,j4]) #[j3,j4,rfl] (λ_ x ρ hx #[i3,i4,B]=>by
     subst B;obtain⟨r,hr,z⟩:=gK.mp (hV hx);subst z;obtain⟨s1,s2⟩:=hQ r hr;have rl:=(U r hr).2.1;have ir:dIs .list (gwD (FP k) r)=.ok (.bl true)[8]:=rfl;have cm:(qS 1 (iVc 3) (gV 5) qX (eOp qc (q9 5) 1[5])) [!(.lst (O.map (grD (FP k))))[8],!(.br (.lst (qO ms n))),!(i:Int)[7],!(gwD (FP k) r)[8],i4]=.ok (.lst ((r.map gv).map D.int))[9]:=by
      rw[hE];refine xz r (geD (FP k)) _ (wY (w:=.fz (gwD (FP k) r)) rfl rfl) "" λe _=>#[.fz (gv e)[6],?_,rfl]
      cases e<;>rfl
     have sm:=W1 (r.map gv);rw[s1]at sm;obtain⟨ρ,e,k4,B⟩:=vx (r.map (geD (FP k))) (λ_ ρ=>∃ i4,ρ=[!(.lst (O.map (grD (FP k))))[8],!(.br (.lst (qO ms n))),!(i:Int)[7],!(gwD (FP k) r)[8],i4]) (g:=gV 4) (b:=sIf (qG (tE (qh yO [(q9 4)]))) (qp (eC (.bl false))) qq)
      (ρ:=[!(.lst (O.map (grD (FP k))))[8],!(.br (.lst (qO ms n))),!(i:Int)[7],!(gwD (FP k) r)[8],i4]) #[i4,rfl] (λ_ x ρ hx #[i4,B]=>by
       subst B;obtain⟨e,he,z⟩:=gK.mp (hV hx);subst z;have ev:=qfP k e (s2 e he).1 (s2 e he).2;exact#[_,_,rfl,.inl (by simp![ev]),!(geD (FP k) e)[8],rfl])
     subst B;refine#[_,_,rfl,.inl ?_,!(gwD (FP k) r)[8],k4,rfl];show qf _ _ [!(.lst (O.map (grD (FP k))))[8],!(.br (.lst (qO ms n))),!(i:Int)[7],!(gwD (FP k) r)[8],i4]=.nx [!(.lst (O.map (grD (FP k))))[8],!(.br (.lst (qO ms n))),!(i:Int)[7],!(gwD (FP k) r)[8],k4];simp![ir,cm,sm,d,pW];rw[xW (ds:=r.map (geD (FP k))) rfl,zw,e])
   subst B;refine#[_,_,rfl,.inl ?_,!(i:Int)[7],i3,i4,rfl];show qf _ _ [!(.lst (O.map (grD (FP k))))[8],!(.br (.lst (qO ms n))),!(i:Int)[7],j3,j4]=.nx [!(.lst (O.map (grD (FP k))))[8],!(.br (.lst (qO ms n))),!(i:Int)[7],i3,i4];simp![x1,x2,y1,y2,il,pW];rw[vV (w:=.fz (grD (FP k) Q)) (ds:=Q.map (gwD (FP k))) (by simp![x1]) rfl,zw,e])
 subst B;unfold Ju X9;left;rw[Qw (n:=O[1]) (by simp![gj]) "",zw,e]
 left
def qfT{i:Nat}{z B:EF}{m:Addr->Addr->List D->List D->SF}{r:SF}{ρ ρ':Rho}(O:vO ρ=true)(h0:z ρ=.ok (.lst xs)[9])(h1:B ρ=.ok (.lst ys)[9])(h:KOut i (λa b=>m a b xs ys (ρ.set i (!(kP a b)))) ρ'):kZ i z B m r ρ=r ρ':=by
 unfold kZ;rw[if_pos O,h0,h1];exact qca h
def qfU(B:List Nt)(ms:List (Int×Int×Int)):eqok (.tup [.lst (B.map ntD),.lst (ms.map qr)])=true:=by
 have a:(B.map ntD).all (qK 6)=true:=tV.mpr λx hx=>by
  obtain⟨n,_,z⟩:=gK.mp hx;subst z;rfl
 have b:(ms.map qr).all (qK 6)=true:=tV.mpr λx hx=>by
  obtain⟨n,_,z⟩:=gK.mp hx;subst z;rfl
 show((B.map ntD).all (qK 6)&&((ms.map qr).all (qK 6)&&true))=true;rw[a,b];rfl
def qfV(ms:List (Int×Int×Int)):eqok (.lst (ms.map qr))=true:=qab λx hx=>by
 obtain⟨n,_,z⟩:=gK.mp hx;subst z;rfl
def q_at{n:Nat}{B:List (List (List (GE (List H3))))}(U:B.map (·.map (·.map gq))=(barsB ws ms n).map (·.map (·.map eq3))){b:Nat}{Q:List (List (GE (List H3)))}(Y:B[b]?=!Q):Q.map (·.map gq)=(vQ ws ms b).map (·.map eq3):=by
 have ql:B[1]=n:=by have:=congrArg List.length U;unfold barsB at this;simpa using this
 have O:b<n:=by have:=(gw.mp Y).1;lia
 have z:=congrArg (·[b]?) U
 unfold barsB at z;simp only[gM,Y,pt O,Option.map_some]at z;exact tH z
def q_ok{ws:Vs}(V:Voi ns ws)(f:Fine ms)(l:Lens ms){b:Nat}{Q:List (List (GE (List H3)))}(h:Q.map (·.map gq)=(vQ ws ms b).map (·.map eq3)) :
  Q[1]=ws[1]/\∀ r∈Q,(r.map gv).sum=jh ms b/\∀ e∈r,(gq e).2∈keysP/\(gq e).1≠!0:=by
 obtain⟨k1,k2⟩:=UK V f l b;have l1:=congrArg List.length h;rw[gj,gj]at l1;refine#["",λr hr=>?_]
 have m:r.map gq∈(vQ ws ms b).map (·.map eq3):=by rw[<- h];exact gK.mpr #[r,hr,rfl]
 obtain⟨y,hy,z⟩:=gK.mp m;obtain⟨p1,p2⟩:=k2 y hy;constructor
 .have a:r.map gv=(r.map gq).map Prod.snd:=by
   rw[hE];apply t3;intro e _;cases e<;>rfl
  have b:y.map pv=(y.map eq3).map Prod.snd:=by
   rw[hE];apply t3;intro e _;cases e<;>rfl
  rw[a,<- z,<- b];exact p2
 intro e he;have m2:gq e∈y.map eq3:=by rw[z];exact gK.mpr #[e,he,rfl]
 obtain⟨x,hx,zx⟩:=gK.mp m2;rw[<- zx];have pk:=p1.1 x hx;obtain⟨v,_,ev⟩:=gK.mp hy;have kk:pv x∈keysP:=by rw[<- ev]at hx;exact qdw _ _ v x hx
 cases x with
 | rest u=>exact#[kk,λz=>by cases z]
 | note u ps t =>
  refine#[kk,λz=>pk.2.1 ?_]
  cases ps with
  | nil=>rfl
  | cons a l=>cases z
def qfW(B:List Int)(hl:B[1]<=63):xk [.fz (.lst (B.map D.int))]=.ok (.bl true)[8]:=by
 have hz:sz=16777216:=rfl;obtain⟨k,ke,k0,k7⟩:=qfM B;have hw:=qcI B;generalize (cell B 0%4==3)=wd at hw;obtain⟨r,re,r5,hr⟩:=qfL B wd;have ne:=qcH B hl wd;have N:=qcN B wd;have nl:=qcO B wd;have me:=qct B wd;have f:=Vk B wd;have l:=qcw B wd;have g:=qe2 B wd;have O:((∀ b:Nat,jh (vP B wd) b<=96)/\400<=r)\/2000<=r:=by
  rcases hr with⟨z,hr⟩|hr
  .subst z;exact .inl #[qfK B,hr]
  exact .inr hr
 generalize xu B wd=nt at ne N nl;generalize vP B wd=ms at me f l g O;obtain⟨en,n,ws,Qs,cs,fs,P⟩:=qfJ nt N nl k k0 k7 ms g f l r r5 O;have nf:=P.N.few;have np:=P.N.pos;obtain⟨t,f1,f2⟩:=P.fi;have ql:Qs.length=n:=by have:=congrArg List.length P.qs;unfold barsB at this;simpa using this
 have pg:=P.pg;have lr:=qfR (k:=k) (r:=r) (a:=ms.map qr) (b:=.lst (Qs.map (grD (FP k)))) P.cl.1 np P.cl.2 f1 f2;have fe:=qfS (m:=ws[1]) (ms:=ms) P.ok ql nf λb Q e=>q_ok P.V f l (q_at P.qs e)
 have le:=qfQ f P.N;have i0:qc (.tup [.int k,.lst (ms.map qr),.int r,.lst (cs.map qz),.lst (fs.map qz),.lst (Qs.map (grD (FP k)))]) 0[6]=.ok k[7]:=rfl;have i1:qc (.tup [.int k,.lst (ms.map qr),.int r,.lst (cs.map qz),.lst (fs.map qz),.lst (Qs.map (grD (FP k)))]) 1[6]=.ok (.lst (ms.map qr))[8]:=rfl;have i2:qc (.tup [.int k,.lst (ms.map qr),.int r,.lst (cs.map qz),.lst (fs.map qz),.lst (Qs.map (grD (FP k)))]) 2[6]=.ok r[7]:=rfl;have i5:qc (.tup [.int k,.lst (ms.map qr),.int r,.lst (cs.map qz),.lst (fs.map qz),.lst (Qs.map (grD (FP k)))]) 5[6]=.ok (.lst (Qs.map (grD (FP k))))[8]:=rfl;have it:dIs .tuple (.tup [.int k,.lst (ms.map qr),.int r,.lst (cs.map qz),.lst (fs.map qz),.lst (Qs.map (grD (FP k)))])=.ok (.bl true)[8]:=rfl;have i6:qJ [.tup [.int k,.lst (ms.map qr),.int r,.lst (cs.map qz),.lst (fs.map qz),.lst (Qs.map (grD (FP k)))]]=.ok 6[7]:=rfl;generalize D.tup [.int k,.lst (ms.map qr),.int r,.lst (cs.map qz),.lst (fs.map qz),.lst (Qs.map (grD (FP k)))]=PG at pg lr i0 i1 i2 i5 it i6;have nb:=Yl (qfV ms);have U:=Yl (qfU nt ms);have Y:((Qs.map (grD (FP k)))[1]:Int)=(n:Int):=by rw[gj,ql]
 have dl:((qO ms n)[1]:Int)=(n:Int):=by unfold qO;rw[gj,pO]
 generalize B.map D.int=sc at *;have kd:kZ 6 (eB yn [(q9 2)]) (eB yn [(q9 4)]) (λka kb xs ys=>qf (qk 7 (qh uH [(eBr 6 ka kb xs),(q9 3),(eBr 6 ka kb ys),(q9 5)]))
 (qf (sIf (tOr (kY 6 ka kb xs ys (tE (eOp dNe (q9 6) (jx [(q9 2),(q9 4)])))) (tOr (qG (tE (eUn (dIs .tuple) (q9 7)))) (tE (eOp dNe (eB qJ [(q9 7)]) 6[5])))) (qp (eC (.bl false))) qq)
 (qf (sIf (tOr (qG (tE (qh vW [(eOp qc (q9 7) 0[5])]))) (tOr (tE (eOp dNe (eOp qc (q9 7) 0[5]) (q9 3))) (tOr (qG (tE (eUn (dIs .list) (eOp qc (q9 7) 1[5])))) (tE (eOp dNe (eOp qc (q9 7) 1[5]) (q9 4)))))) (qp (eC (.bl false))) qq)
 (sIf (tOr (qG (tE (qh vW [(eOp qc (q9 7) 2[5])]))) (tOr (tE (eOp dNe (eOp qc (q9 7) 2[5]) (q9 5))) (qG (tE (eUn (dIs .list) (eOp qc (q9 7) 5[5])))))) (qp (eC (.bl false))) qq)))) Jz
   [!(.lst sc)[8],!(.bl wd)[8],!(.lst (nt.map ntD))[8],!k[7],!(.lst (ms.map qr))[8],!r[7],none,none,none]
   = Jz [!(.lst sc)[8],!(.bl wd)[8],!(.lst (nt.map ntD))[8],!k[7],!(.lst (ms.map qr))[8],!r[7],none,!PG[8],none]:=by
  refine qfT (xs:=nt.map ntD) (ys:=ms.map qr) rfl rfl rfl λa b=>#[[!(.lst sc)[8],!(.bl wd)[8],!(.lst (nt.map ntD))[8],!k[7],!(.lst (ms.map qr))[8],!r[7],!(kP a b),!PG[8],none],?_,rfl,rfl,rfl]
  have b0:∀ zs,eBr 6 a b zs [!(.lst sc)[8],!(.bl wd)[8],!(.lst (nt.map ntD))[8],!k[7],!(.lst (ms.map qr))[8],!r[7],!(kP a b),none,none]=.ok (.br (.lst zs)):=λzs=>qc7 rfl
  have t0:(kY 6 a b (nt.map ntD) (ms.map qr) (tE (eOp dNe (q9 6) (jx [(q9 2),(q9 4)])))) [!(.lst sc)[8],!(.bl wd)[8],!(.lst (nt.map ntD))[8],!k[7],!(.lst (ms.map qr))[8],!r[7],!(kP a b),!PG[8],none]=.ok false:=by
   rw[qc8 rfl rfl];simp![U]
  dsimp only;simp![b0,pg,t0,it,i6,pW,i0,JR,i1,nb,i2,i5]
 have cm:(qS 1 (iVc 2) (gV 9) qX (eOp qA (eOp qc (q9 9) 0[5]) (eOp qc (q9 9) 1[5]))) [!(.lst sc)[8],!(.bl wd)[8],!(.lst (nt.map ntD))[8],!k[7],!(.lst (ms.map qr))[8],!r[7],none,!PG[8],none]=.ok (.lst ((endsOf nt).map D.int))[9]:=by
  unfold endsOf;rw[hE];refine xz nt ntD _ (wY (w:=.fz (.lst (nt.map ntD))) rfl rfl) "" λp _=>#[.fz (p.1+p.2.1)[6],rfl,rfl]
 obtain⟨Z,mx,u1,u2⟩:=W4 (endsOf nt);have ee:Z=en:=UI (λ_=>Iff.rfl) u1 u2 P.E.up P.E.is
 subst ee;unfold xk Xi;simp![hw,ne,ke,me,re];rw[kd];unfold Jz;simp![i1,nb,cm,mx,le,i5,Y,dl,pW,lr,fe]
section
variable{P:ag}{w:World}{K:Frag}{mg:Str->Option aa}{base:Heap}
variable{W:Wd}(A:Al W FS BL CS)
include A
def qfX:Q W 1 0 yK:=by
 exact fE A 0 ["head"] λhr nd hu=>((qj (qw (qt jg (qt v7 qe (ZG (qa 0) qe)) (YY (gb (A.q 0)) (ZG (qa 0) qe))))))
def qfY:Q W 1 1 uj:=by
 refine fE A 1 ["step","clef","lowest","above","below"] λhr nd hu=>?_
 exact(qi (qo 2 nd (qm (gb (A.q 1)) (qa 1)))
 (qi (qo 3 nd (qt jR (qt jR (qa 0) (qa 2)) (gb (A.q 2))))
 (qi (qo 4 nd (qt jR (qa 2) (qa 0)))
 (qj (qw (qt kj (qM (qb5 rfl) A.bl pz (qb (qa 3) (qb (qa 4) (qb qe qg)))) qe))))))
def UO:Q W 1 2 wj:=by
 exact fE A 2 ["prices","ahead"] λhr nd hu=>((qj (qw (vw (apS _ ["clef"]) (SI.c (zr (gb (A.q 3)))) (zI 2) (λ_ _ _ _ _=>(qL 2 (ndc nd ["clef"]))) (λ_ _ _ _ _=>.nil) λ_ _ _ _ _=>(Zc (qC (jX hu) (qa 2) (qa 1)) (qm (qa 0) (qa 2)) (qt jg (qm (qa 0) (qa 2)) (gb (A.q 4))))))))
def UP:Q W 1 3 uk:=by
 exact fE A 3 ["thing"] λhr nd hu=>((qj (qw (wT (zT .int (qa 0) A.bl A.bl) (yt (WP (zT .bool (qa 0) A.bl A.bl)))))))
def UQ:Q W 1 4 yL:=by
 exact fE A 4 ["thing","least","most"] λhr nd hu=>((qj (qw (wT (zT .list (qa 0) A.bl A.bl) (yt (Zr vS vS (qa 1) (qM jA A.bl t6 (qb (qa 0) qg)) (qa 2)))))))
def xA:Q W 1 5 zJ:=by
 exact fE A 5 ["sound"] λhr nd hu=>((qj (qw (qt jg (qm (qa 0) qe) (qm (qa 0) qe)))))
def qfZ:Q W 1 6 y8:=by
 refine fE A 6 ["notes","pitches","note"] λhr nd hu=>?_
 exact(qi (YM 1 nd Zp)
 (qi (qW gP rfl (zr (qM ZR A.bl dE (qb (qa 0) qg))) (qL 2 nd) (qj (qaS 1 hu (qb (qm (qa 2) qe) (qb (qm (qa 2) qe) qg)) (jE qg) (qm (qa 2) qe))))
 (qj (qaW 1 (qw (vw (apS _ ["span"]) (SI.c (si_T 1)) (zI 3) (λ_ _ _ _ _=>(qL 3 (ndc nd ["span"]))) (λ_ _ _ _ _=>.nil) λ_ _ _ _ _=>(zP (qb (qm (qa 3) qe) (qb (qm (qa 3) qe) (qb (xO YH A.bl boot_tuple (qb (qaY hu (qa 1) (qa 3)) qg)) qg))))))))))
def UR:Q W 1 7 uo:=by
 refine fE A 7 ["length","row","left","value"] λhr nd hu=>?_
 obtain⟨_,_,z,B,O⟩:=A.q 5;exact(qi (qo 1 nd (jE qg))
 (qi (qo 2 nd (qa 0))
 (qi (qW gP rfl (qa1 z B O) (qL 3 nd) (qj (Ze 520 gP (qC vS (qa 3) (qa 2)) (qi (zR 1 (qa 3))
 (qj (ko 2 nd WV (qa 3)))))))
 (qj (zd 1)))))
def US:Q W 1 8 uq:=by
 exact fE A 8 ["low","number","divisor"] λhr nd hu=>((qj (qw (qt jg (qa 0) (qt wR (qt jR (qa 1) (qa 0)) (qa 2))))))
def UT:Q W 1 9 Ja:=by
 exact fE A 9 ["fifths"] λhr nd hu=>((qj (qw (qt kj (qt jg (qa 0) qe) qe))))
def UU:Q W 1 10 wm:=by
 refine fE A 10 ["bar","spots","voice","row","place","number","event"] λhr nd hu=>?_
 exact(qi (qo 1 nd (jE qg))
 (qi (qW gP rfl (kJ 0 A.bl) (yv rfl (v8 2 nd (v8 3 nd yu))) (qi (qo 4 nd qe)
 (qj (qW gP rfl (kJ 3 A.bl) (yv rfl (v8 5 nd (v8 6 nd yu))) (qi (zR 1 (zP (qb (qa 4) (qb (qa 2) (qb (qa 5) qg)))))
 (qj (ko 4 nd Qd (qm (qa 6) qe))))))))
 (qj (qw (qM ZR A.bl dE (qb (qa 1) qg))))))
def qg0:Q W 1 11 y9:=by
 refine fE A 11 ["event"] λhr nd hu=>?_
 exact(qi (qF (st_w (jS (qC YA (qa 0) xL) (jS (qC (jX hu) (qm (qa 0) qe) wD) (zQ (jF (je (qm (qa 0) qe))))))) (qj (qw xL)) qE)
 (qj (qw (qm (qa 0) qe))))
def qg1:Q W 1 12 Jc:=by
 refine fE A 12 ["bar","many","voice","event"] λhr nd hu=>?_
 have z:=ndc nd ["head"];exact(qi (qo 1 nd qe)
 (qi (jY 0 (qW gP rfl (zS 0) (qL 2 nd) (qj (jY 2 (qW gP rfl (zS 2) (qL 3 nd) (qj (qF (qC (jX hu) (qm (qa 3) qe) wD) (qj (ko 1 nd Qd (qM jA A.bl t6 (qb (vw (n:=1) (apS _ ["head"]) (SI.c (zr (qm (qa 3) qe))) (zI 4) (λ_ _ _ _ _=>(qL 4 z)) (λ_ _ _ _ _=>(.one (qC qav (qm (qa 4) qe) xL))) λ_ _ _ _ _=>(qa 4)) qg)))) qE)))))))
 (qj (zd 1))))
def qg2:Q W 1 13 Jd:=by
 refine fE A 13 ["widths","room","bar","wide"] λhr nd hu=>?_
 exact(qj (qW gP rfl (kJ 0 A.bl) (yv rfl (v8 2 nd (v8 3 nd yu))) (qj (qF (qC xM (qa 3) (qa 1)) (qj wF) qE))))
def qg3:Q W 1 14 ut:=by
 refine fE A 14 ["widths","room","first","best","choices","left","behind","cost"] λhr nd hu=>?_
 exact(qi (qo 4 nd (jE qg))
 (qi (qo 5 nd (qa 1))
 (qi (qW gP rfl (qaZ (qt jg (qa 2) qe) (qt jg (qM jA A.bl t6 (qb (qa 0) qg)) qe) A.bl) (qL 6 nd) (qi (ko 5 nd WV (qm (qa 0) (qt jR (qa 6) qe)))
 (qi (qF (qC zH (qa 5) qe) (qj WQ) qE)
 (qi (qo 7 nd (Zc (qC (jX hu) (qa 6) (qM jA A.bl t6 (qb (qa 0) qg))) qe (qt jg (qt v7 (qa 5) (qa 5)) (qm (qm (qa 3) (qa 6)) qe))))
 (qj (zR 4 (zP (qb (qa 7) (qb (v9 (qa 6)) qg)))))))))
 (qj (zd 4)))))
def W6:Q W 1 15 wo:=by
 refine fE A 15 ["told"] λhr nd hu=>?_
 exact(qj (qw (qt v7 (qm (qa 0) qe) (qm (qa 0) qe))))
def qg4:Q W 1 16 ya:=by
 refine fE A 16 ["meter","at"] λhr nd hu=>?_
 exact(qi (qF (qC (jX hu) (qa 1) qe) (qj (qw (vF (jX hu) (qm (qm (qa 0) qe) qe) qe))) qE)
 (qj (qw (vF xM (qm (qm (qa 0) (qa 1)) qe) (qm (qm (qa 0) (qt jR (qa 1) qe)) qe)))))
def yh:Q W 1 17 zX:=by
 refine fE A 17 ["_law_script","_law_k"] λhr nd hu=>?_
 exact(qi (qF (qC zH (qa 1) (qM jA A.bl t6 (qb (qa 0) qg))) (qj (qw (qm (qa 0) (qa 1)))) qE)
 (qj (qw qe)))
def v6:Q W 1 18 zh:=by
 refine fE A 18 ["_law_cell_here","_law_prime","_law_many"] λhr nd hu=>?_
 exact(qj (qw (qt wR (qt wR (qt v7 (qa 0) qe) (qa 1)) (qa 2))))
def JS:Q W 1 19 vW:=by
 refine fE A 19 ["_law_found"] λhr nd hu=>?_
 exact(qj (qw (wT (zT .int (qa 0) A.bl A.bl) (yt (WP (zT .bool (qa 0) A.bl A.bl))))))
def qg5:Q W 1 20 Je:=by
 refine fE A 20 ["_law_note_here","_law_notes_here","_law_other"] λhr nd hu=>?_
 exact(qi (jY 1 (qW gP rfl (zS 1) (qL 2 nd) (qj (qF (st_w (wE (qC (jX hu) (qm (qa 0) qe) (qm (qa 2) qe)) (wE (qC zH (qm (qa 0) qe) (qt jg (qm (qa 2) qe) (qm (qa 2) qe))) (yr (qC zH (qm (qa 2) qe) (qt jg (qm (qa 0) qe) (qm (qa 0) qe))))))) (qj (qw jI)) qE))))
 (qj (qw jI)))
def qg6:Q W 1 21 Jf:=by
 refine fE A 21 ["_law_note_here","_law_notes_here","_law_seen","_law_other"] λhr nd hu=>?_
 exact(qi (qo 2 nd Zp)
 (qi (jY 1 (qW gP rfl (zS 1) (qL 3 nd) (qj (qF (st_w (wE (qC zH (qm (qa 3) qe) (qt jg (qm (qa 0) qe) (qm (qa 0) qe))) (yr (qC zH (qm (qa 0) qe) (qt jg (qm (qa 3) qe) (qm (qa 3) qe)))))) (qj (qF (qC (zN hu) (zP (qb (qm (qa 3) qe) (qb (qm (qa 3) qe) qg))) (zP (qb (qm (qa 0) qe) (qb (qm (qa 0) qe) qg)))) (qj (qam 2 hu (qb (qm (qa 3) qe) (qb (qm (qa 3) qe) qg)) jI)) qE)) qE))))
 (qj (qw (qM jA A.bl t6 (qb (qa 2) qg))))))
def qg7:Q W 1 22 uu:=by
 refine fE A 22 ["_law_length","_law_base","_law_part"] λhr nd hu=>?_
 exact(qi (qW gP rfl (zr (jE (qb qe (qb qe (qb qe (qb qe (qb qe (qb qe (qb qe qg))))))))) (qL 1 nd) (qj (qW gP rfl (zr (jE (qb qe (qb qe (qb qe qg))))) (qL 2 nd) (qj (qF (st_w (wE (qC (jX hu) (qt wR (qa 1) (qa 2)) qe) (yr (qC (jX hu) (qt v7 (qa 1) (qt jR (qt v7 qe (qa 2)) qe)) (qt v7 (qa 0) (qa 2)))))) (qj (qw jI)) qE)))))
 (qj (qw jI)))
def qg8:Q W 1 23 Jg:=by
 refine fE A 23 ["_law_meter_here","_law_end","_law_found"] λhr nd hu=>?_
 have z:=ndc nd ["_law_step_here"];exact(qi (qo 2 nd (jE qg))
 (qi (Ze 180 gP (st_w (jS (jF (je (qa 2))) (zQ (qC zH (qM (Zq rfl) A.bl bm (qb (qa 2) qg)) (qa 1))))) (qj (zR 2 (qm (vw (n:=1) (apS _ ["_law_step_here"]) (wU 0) (zI 3) (λ_ _ _ _ _=>(qL 3 z)) (λ_ _ _ _ _=>(.one (qC vS (qm (qa 3) qe) (qM jA A.bl t6 (qb (qa 2) qg))))) λ_ _ _ _ _=>(qt v7 (qm (qa 3) qe) (qm (qa 3) qe))) (v9 qe)))))
 (qj (zd 2))))
def qg9:Q W 2 24 uv:=by
 refine fE A 24 ["bar","row","voice","event"] λhr nd hu=>?_
 have z:=ndc nd ["head"];exact(qi (qo 1 nd (jE qg))
 (qi (jY 0 (qW gP rfl (zS 0) (qL 2 nd) (qj (jY 2 (qW gP rfl (zS 2) (qL 3 nd) (qj (qF (qC (jX hu) (qm (qa 3) qe) wD) (qj (QD 1 (vw (n:=1) (apS _ ["head"]) (SI.c (zr (qm (qa 3) qe))) (zI 4) (λ_ _ _ _ _=>(qL 4 z)) (λ_ _ _ _ _=>.nil) λ_ _ _ _ _=>(cl (qfX A) (rm hr) (qb (qa 4) qg))))) qE)))))))
 (qj (zd 1))))
def qga:Q W 2 25 yM:=by
 refine fE A 25 ["steps","clef"] λhr nd hu=>?_
 have z:=ndc nd ["step"];exact(qj (qw (qM (Zq rfl) A.bl bm (qb (vw (n:=1) (apS _ ["step"]) (wU 0) (zI 2) (λ_ _ _ _ _=>(qL 2 z)) (λ_ _ _ _ _=>.nil) λ_ _ _ _ _=>(cl (qfY A) (rm hr) (qb (qa 2) (qb (qa 1) qg)))) qg))))
def W7:Q W 2 26 x8:=by
 refine fE A 26 ["thing","low","high"] λhr nd hu=>?_
 exact(qj (qw (wT (cl (UP A) (rm hr) (qb (qa 0) qg)) (yt (Zr vS vS (qa 1) (qa 0) (qa 2))))))
def qgb:Q W 2 27 uw:=by
 refine fE A 27 ["one","other"] λhr nd hu=>?_
 exact(qj (qw (wT (vF (jX hu) (qm (qa 0) qe) (qm (qa 1) qe)) (wT (vF zH (qm (qa 0) qe) (cl (xA A) (rm hr) (qb (qa 1) qg))) (yt (vF zH (qm (qa 1) qe) (cl (xA A) (rm hr) (qb (qa 0) qg))))))))
def UV:Q W 2 28 x9:=by
 refine fE A 28 ["length"] λhr nd hu=>?_
 have z:=ndc nd ["value"];exact(qj (qw (vw (n:=1) (apS _ ["value"]) (SI.c (zr (cl (UR A) (rm hr) (qb (qa 0) qg)))) (zI 1) (λ_ _ _ _ _=>(qL 1 z)) (λ_ _ _ _ _=>.nil) λ_ _ _ _ _=>(zP (qb wD (qb (qa 1) qg))))))
def qgc:Q W 2 29 xa:=by
 refine fE A 29 ["chord","first","behind","end","row","tick","value"] λhr nd hu=>?_
 exact(qi (qo 3 nd (cl (xA A) (rm hr) (qb (qa 0) qg)))
 (qi (qo 4 nd (jE qg))
 (qi (qo 5 nd (qa 1))
 (qi (qW gP rfl (zr (cl (UR A) (rm hr) (qb (qt jR (qa 2) (qa 1)) qg))) (qL 6 nd) (qi (ko 5 nd Qd (qa 6))
 (qj (zR 4 (zP (qb wD (qb (qa 6) (qb (qm (qa 0) qe) (qb (vF zH (qa 5) (qa 3)) qg)))))))))
 (qj (zd 4))))))
def qgd:Q W 2 30 Vg:=by
 refine fE A 30 ["pitch","key"] λhr nd hu=>?_
 exact(qj (qw (cl (US A) (rm hr) (qb (qt jR (qa 1) qe) (qb (qt v7 qe (qa 0)) (qb qe qg))))))
def qge:Q W 2 31 yN:=by
 refine fE A 31 ["letter","key"] λhr nd hu=>?_
 exact(qj (qw (cl (UT A) (rm hr) (qb (cl (US A) (rm hr) (qb (qt jR (qa 1) qe) (qb (qt jR (YY (gb (A.q 6)) (qa 0)) qe) (qb qe qg)))) qg))))
def qgf:Q W 2 32 yb:=by
 refine fE A 32 ["bar","places"] λhr nd hu=>?_
 have z:=ndc nd ["spot"];exact(qi (qo 1 nd (qbK (vw (n:=1) (apS _ ["spot"]) (SI.c (zr (cl (UU A) (rm hr) (qb (qa 0) qg)))) (zI 2) (λ_ _ _ _ _=>(qL 2 z)) (λ_ _ _ _ _=>.nil) λ_ _ _ _ _=>(qm (qa 2) qe)) A.bl A.bl))
 (qj (qw (qt jg (qt jg (gb (A.q 7)) (qt v7 (gb (A.q 8)) (qa 1))) (cl (qg1 A) (rm hr) (qb (qa 0) qg))))))
def qgg:Q W 2 33 Jh:=by
 refine fE A 33 ["widths","room","best","first"] λhr nd hu=>?_
 exact(qi (qF (jF (je (cl (UP A) (rm hr) (qb (qa 1) qg)))) (qj wF) qE)
 (qi (Zd (cl (qg2 A) (rm hr) (qb (qa 0) (qb (qa 1) qg))))
 (qi (qo 2 nd (qt qbg (jE (qb (zP (qb qe (qb qe qg))) qg)) (qM jA A.bl t6 (qb (qa 0) qg))))
 (qi (qW gP rfl (qbl (qt jR (qM jA A.bl t6 (qb (qa 0) qg)) qe) (v9 qe) (v9 qe) A.bl) (qL 3 nd) (qj (qai 2 (qa 3) (qM (qbj hu rfl) A.bl pC (qb (cl (qg3 A) (rm hr) (qb (qa 0) (qb (qa 1) (qb (qa 3) (qb (qa 2) qg))))) qg)))))
 (qj (zd 2))))))
def qgh:Q W 2 34 uz:=by
 refine fE A 34 ["meter","many","changes","told","row","length","bar"] λhr nd hu=>?_
 exact(qi (qo 2 nd Y4)
 (qi (jY 0 (qW gP rfl (zS 0) (qL 3 nd) (qj (Y5 2 hu (qm (qa 3) qe) (cl (W6 A) (rm hr) (qb (qa 3) qg))))))
 (qi (qo 4 nd (jE qg))
 (qi (qo 5 nd qe)
 (qi (qW gP rfl (Qb (qa 1) A.bl) (qL 6 nd) (qi (qo 5 nd (qa4 (qa 2) (qa 6) (qa 5)))
 (qj (zR 4 (qa 5)))))
 (qj (zd 4)))))))
def qgi:Q W 2 35 Ji:=by
 refine fE A 35 ["meter","tick","bar","begin","length","told","told_begin"] λhr nd hu=>?_
 exact(qi (qo 2 nd qe)
 (qi (qo 3 nd qe)
 (qi (qo 4 nd qe)
 (qi (jY 0 (qW gP rfl (zS 0) (qL 5 nd) (qi (qo 6 nd (qt jg (qa 3) (qt v7 (qt jR (qm (qa 5) qe) (qa 2)) (qa 4))))
 (qi (qF (qC zH (qa 1) (qa 6)) (qj WQ) qE)
 (qi (qo 2 nd (qm (qa 5) qe))
 (qi (qo 3 nd (qa 6))
 (qj (qo 4 nd (cl (W6 A) (rm hr) (qb (qa 5) qg))))))))))
 (qj (qw (zP (qb (qt jg (qa 2) (qt kj (qt jR (qa 1) (qa 3)) (qa 4))) (qb (qt wR (qt jR (qa 1) (qa 3)) (qa 4)) qg)))))))))
def qgj:Q W 2 36 uA:=by
 refine fE A 36 ["voices","tick","number","voice"] λhr nd hu=>?_
 exact(qi (qW gP rfl (kJ 0 A.bl) (yv rfl (v8 2 nd (v8 3 nd yu))) (qj (qF (qC vS (cl (xA A) (rm hr) (qb (qm (qa 3) (v9 qe)) qg)) (qa 1)) (qj (zd 2)) qE)))
 (qj (qw (qM jA A.bl t6 (qb (qa 0) qg)))))
def qgk:Q W 2 37 Jj:=by
 refine fE A 37 ["_law_script"] λhr nd hu=>?_
 exact(qj (qw (vF (jX hu) (cl (v6 A) (rm hr) (qb (qt jg (cl (yh A) (rm hr) (qb (qa 0) (qb qe qg))) (qt v7 qe (qM jA A.bl t6 (qb (qa 0) qg)))) (qb qe (qb qe qg)))) qe)))
def qgl:Q W 2 38 uB:=by
 refine fE A 38 ["_law_cell_here","_law_notes_here","_law_wide_here","_law_start","_law_length","_law_pitch","_law_last","_law_turn"] λhr nd hu=>?_
 exact(qi (qo 3 nd (cl (v6 A) (rm hr) (qb (qa 0) (qb qe (qb qe qg)))))
 (qi (qo 4 nd (qt jg qe (cl (v6 A) (rm hr) (qb (qa 0) (qb qe (qb qe qg))))))
 (qi (qo 5 nd (qt jg qe (cl (v6 A) (rm hr) (qb (qa 0) (qb qe (qb qe qg))))))
 (qi (qo 6 nd qe)
 (qi (qF (je (qa 2)) (qi (qo 3 nd (cl (v6 A) (rm hr) (qb (qa 0) (qb qe (qb qe qg)))))
 (qi (qo 4 nd (qt jg qe (cl (v6 A) (rm hr) (qb (qa 0) (qb qe (qb qe qg))))))
 (qi (qo 5 nd (cl (v6 A) (rm hr) (qb (qa 0) (qb qe (qb qe qg)))))
 (qj (qo 6 nd qe))))) qE)
 (qi (qo 7 nd (cl (v6 A) (rm hr) (qb (qa 0) (qb qe (qb qe qg)))))
 (qi (qF (st_w (wE (je (qa 1)) (yr (qC (jX hu) (qa 7) qe)))) (qi (qo 3 nd (qm (qm (qa 1) (v9 qe)) qe))
 (qj (qo 4 nd (qm (qm (qa 1) (v9 qe)) qe)))) qE)
 (qi (qF (st_w (wE (je (qa 1)) (wE (qC (jX hu) (qa 7) qe) (yr (qC vS (qt jg (qm (qm (qa 1) (v9 qe)) qe) (qm (qm (qa 1) (v9 qe)) qe)) (qa 6)))))) (qi (qo 3 nd (qt jg (qm (qm (qa 1) (v9 qe)) qe) (qm (qm (qa 1) (v9 qe)) qe)))
 (qj (qF (qC (jX hu) (cl (v6 A) (rm hr) (qb (qa 0) (qb qe (qb qe qg)))) qe) (qj (qo 5 nd (qm (qm (qa 1) (v9 qe)) qe))) qE))) qE)
 (qj (qw (zP (qb (qa 3) (qb (qa 4) (qb (qa 5) qg))))))))))))))
def qgm:Q W 2 39 Jk:=by
 refine fE A 39 ["_law_script"] λhr nd hu=>?_
 exact(qj (qw (vF (jX hu) (qt wR (cl (yh A) (rm hr) (qb (qa 0) (qb qe qg))) qe) qe)))
def qgn:Q W 2 40 uC:=by
 refine fE A 40 ["_law_cell_here","_law_bar","_law_wide_here","_law_units","_law_least","_law_most","_law_unit","_law_low","_law_high"] λhr nd hu=>?_
 exact(qi (qo 3 nd (jE (qb qe (qb qe (qb qe (qb qe (qb qe (qb qe (qb qe qg)))))))))
 (qi (qo 4 nd qe)
 (qi (qo 5 nd qe)
 (qi (qF (je (qa 2)) (qi (qo 3 nd (jE (qb qe (qb qe (qb qe (qb qe (qb qe qg)))))))
 (qi (qo 4 nd qe)
 (qj (qo 5 nd qe)))) qE)
 (qi (qo 6 nd (qm (qa 3) (cl (v6 A) (rm hr) (qb (qa 0) (qb qe (qb (qM jA A.bl t6 (qb (qa 3) qg)) qg))))))
 (qi (qo 7 nd (qt kj (qt jR (qt jg (qa 4) (qa 6)) qe) (qa 6)))
 (qi (qo 8 nd (qM (Y7 rfl) A.bl pC (qb qe (qb (qt kj (qa 5) (qa 6)) qg))))
 (qj (qw (zP (qb (qa 1) (qb (qt jg (qa 7) (cl (v6 A) (rm hr) (qb (qa 0) (qb qe (qb (qt jg (qt jR (qa 8) (qa 7)) qe) qg))))) (qb (qa 6) qg)))))))))))))
def qgo:Q W 2 41 Jl:=by
 refine fE A 41 ["_law_script"] λhr nd hu=>?_
 exact(qj (qw (qt jR (cl (v6 A) (rm hr) (qb (cl (yh A) (rm hr) (qb (qa 0) (qb qe qg))) (qb qe (qb qe qg)))) qe)))
def qgp:Q W 2 42 Jm:=by
 refine fE A 42 ["_law_script","_law_wide_here"] λhr nd hu=>?_
 exact(qi (qF (je (qa 1)) (qj (qw (qt jg qe (cl (v6 A) (rm hr) (qb (cl (yh A) (rm hr) (qb (qa 0) (qb qe qg))) (qb qe (qb qe qg))))))) qE)
 (qj (qw (qt jg qe (cl (v6 A) (rm hr) (qb (cl (yh A) (rm hr) (qb (qa 0) (qb qe qg))) (qb qe (qb qe qg))))))))
def qgq:Q W 2 43 yO:=by
 refine fE A 43 ["_law_event_here"] λhr nd hu=>?_
 exact(qi (qF (st_w (jS (jF (je (zT .tuple (qa 0) A.bl A.bl))) (jS (qC zH (qM jA A.bl t6 (qb (qa 0) qg)) qe) (zQ (jF (je (cl (JS A) (rm hr) (qb (qm (qa 0) qe) qg)))))))) (qj (qw jI)) qE)
 (qi (qF (jF (je (cl (qg7 A) (rm hr) (qb (qm (qa 0) qe) qg)))) (qj (qw jI)) qE)
 (qi (qF (qC (jX hu) (qm (qa 0) qe) wD) (qj (qw (vF (jX hu) (qM jA A.bl t6 (qb (qa 0) qg)) qe))) qE)
 (qi (qF (st_w (jS (qC (zN hu) (qm (qa 0) qe) wD) (jS (qC (zN hu) (qM jA A.bl t6 (qb (qa 0) qg)) qe) (zQ (jF (je (zT .bool (qm (qa 0) qe) A.bl A.bl))))))) (qj (qw jI)) qE)
 (qj (qw (wT (zT .tuple (qm (qa 0) qe) A.bl A.bl) (yt (vF xM (qM jA A.bl t6 (qb (qm (qa 0) qe) qg)) qe)))))))))
def qgr:Q W 2 44 Jn:=by
 refine fE A 44 ["_law_sheet","_law_many","_law_row","_law_one"] λhr nd hu=>?_
 exact(qi (qW gP rfl (zr (QA (qa 0) (kE qe) (kE qe))) (qL 2 nd) (qi (qF (jF (je (zT .list (qa 2) A.bl A.bl))) (qj (qw jI)) qE)
 (qj (jY 2 (qW gP rfl (zS 2) (qL 3 nd) (qj (qF (jF (je (cl (JS A) (rm hr) (qb (qa 3) qg)))) (qj (qw jI)) qE)))))))
 (qi (qF (st_w (jS (qC (zN hu) (qM jA A.bl t6 (qb (qm (qa 0) qe) qg)) (qa 1)) (jS (qC xM (qM (Y2 rfl) A.bl pz (qb (qm (qa 0) qe) qg)) qe) (zQ (qC zH (qM (ZH rfl) A.bl pC (qb (qm (qa 0) qe) qg)) qe))))) (qj (qw jI)) qE)
 (qj (qw (wT (vF (jX hu) (QA (qm (qa 0) qe) Yr (kE qe)) (jE (qb qe qg))) (yt (vF zH (qM (Y2 rfl) A.bl pz (qb (qm (qa 0) qe) qg)) (qa 1))))))))
def qgs:Q W 3 45 uD:=by
 refine fE A 45 ["bars","told","prices","bar","steps"] λhr nd hu=>?_
 have z:=ndc nd ["clef"];exact(qi (qo 1 nd (jE qg))
 (qi (qo 2 nd (jE (qb qe (qb qe (qb qe qg)))))
 (qi (qW gP rfl (qba 0 A.bl) (qL 3 nd) (qi (qo 4 nd (cl (qg9 A) (rm hr) (qb (qa 3) qg)))
 (qi (qo 2 nd (vw (n:=1) (apS _ ["clef"]) (SI.c (zr (gb (A.q 3)))) (zI 5) (λ_ _ _ _ _=>(qL 5 z)) (λ_ _ _ _ _=>.nil) λ_ _ _ _ _=>(qt jg (cl (qga A) (rm hr) (qb (qa 4) (qb (qa 5) qg))) (qM (ZH rfl) A.bl pC (qb (cl (UO A) (rm hr) (qb (qa 2) (qb (qa 5) qg))) qg)))))
 (qj (jY 2 (zR 1 (qa 2)))))))
 (qj (qw (qaM (qa 1) A.bl A.bl))))))
def UW:Q W 3 46 yc:=by
 refine fE A 46 ["thing","bounds","number","bound"] λhr nd hu=>?_
 exact(qi (qF (st_w (jS (jF (je (zT .tuple (qa 0) A.bl A.bl))) (zQ (qC (zN hu) (qM jA A.bl t6 (qb (qa 0) qg)) (qM jA A.bl t6 (qb (qa 1) qg)))))) (qj (qw jI)) qE)
 (qi (qW gP rfl (qaG 0 1 A.bl) (yv rfl (v8 2 nd (v8 3 nd yu))) (qj (qF (jF (je (cl (W7 A) (rm hr) (qb (qa 2) (qb (qm (qa 3) qe) (qb (qm (qa 3) qe) qg)))))) (qj (qw jI)) qE)))
 (qj (qw jI))))
def qgt:Q W 3 47 xf:=by
 refine fE A 47 ["notes","at","ahead"] λhr nd hu=>?_
 exact(qi (qW gP rfl (zr (QA (qa 0) Yr (kE (qa 1)))) (qL 2 nd) (qj (qF (je (cl (qgb A) (rm hr) (qb (qa 2) (qb (qm (qa 0) (qa 1)) qg)))) (qj (qw jI)) qE)))
 (qj (qw jI)))
def qgu:Q W 3 48 uE:=by
 refine fE A 48 ["voice","begin","end","row","filled","chord","first","behind"] λhr nd hu=>?_
 exact(qi (qo 3 nd (jE qg))
 (qi (qo 4 nd (qa 1))
 (qi (jY 0 (qW gP rfl (zS 0) (qL 5 nd) (qi (qo 6 nd (qM (Y6 rfl) A.bl pz (qb (qm (qa 5) qe) (qb (qa 1) qg))))
 (qi (qo 7 nd (qM (Y7 rfl) A.bl pC (qb (cl (xA A) (rm hr) (qb (qa 5) qg)) (qb (qa 2) qg))))
 (qj (qF (qC zH (qa 6) (qa 7)) (qi (QD 3 (cl (UV A) (rm hr) (qb (qt jR (qa 6) (qa 4)) qg)))
 (qi (QD 3 (cl (qgc A) (rm hr) (qb (qa 5) (qb (qa 6) (qb (qa 7) qg)))))
 (qj (qo 4 nd (qa 7))))) qE))))))
 (qi (QD 3 (cl (UV A) (rm hr) (qb (qt jR (qa 2) (qa 4)) qg)))
 (qj (zd 3))))))
def qgv:Q W 3 49 Jo:=by
 refine fE A 49 ["key"] λhr nd hu=>?_
 exact(qi (qF (jF (je (cl (W7 A) (rm hr) (qb (qa 0) (qb (gb (A.q 9)) (qb (gb (A.q 10)) qg)))))) (qj wF) qE)
 (qj (zd 0)))
def qgw:Q W 3 50 uF:=by
 refine fE A 50 ["pitch","key","fifths","letter","alter","octave"] λhr nd hu=>?_
 exact(qi (qo 2 nd (cl (qgd A) (rm hr) (qb (qa 0) (qb (qa 1) qg))))
 (qi (qo 3 nd (ZG (gb (A.q 6)) (qt wR (qt jg (qa 2) qe) qe)))
 (qi (qo 4 nd (cl (UT A) (rm hr) (qb (qa 2) qg)))
 (qi (qo 5 nd (qt kj (qt jR (qt jR (qa 0) (Tt (gb (A.q 21)) (qa 3))) (qa 4)) qe))
 (qj (qw (zP (qb (qa 3) (qb (qa 4) (qb (qa 5) qg))))))))))
def qgx:Q W 3 51 Jp:=by
 refine fE A 51 ["letter","octave","alters","key"] λhr nd hu=>?_
 exact(qj (qw (qbX hu (qa 2) (qb (qa 0) (qb (qa 1) qg)) (cl (qge A) (rm hr) (qb (qa 0) (qb (qa 3) qg))))))
def qgy:Q W 3 52 Jq:=by
 refine fE A 52 ["room"] λhr nd hu=>?_
 exact(qi (qF (jF (je (cl (W7 A) (rm hr) (qb (qa 0) (qb (gb (A.q 11)) (qb (gb (A.q 12)) qg)))))) (qj wF) qE)
 (qj (zd 0)))
def qgz:Q W 3 53 Jr:=by
 refine fE A 53 ["widths","room","best","row","first"] λhr nd hu=>?_
 exact(qi (qo 2 nd (cl (qgg A) (rm hr) (qb (qa 0) (qb (qa 1) qg))))
 (qi (qo 3 nd (jE qg))
 (qi (qo 4 nd qe)
 (qi (Ze 180 gP (qC zH (qa 4) (qM jA A.bl t6 (qb (qa 0) qg))) (qi (zR 3 (qa 4))
 (qj (qo 4 nd (v9 (qm (qm (qa 2) (qa 4)) qe))))))
 (qj (zd 3))))))
def qgA:Q W 3 54 xg:=by
 refine fE A 54 ["meter","end","last"] λhr nd hu=>?_
 exact(qi (qo 2 nd (qM (Y6 rfl) A.bl pz (qb (qt jR (qa 1) qe) (qb qe qg))))
 (qj (qw (qt jg (qm (cl (qgi A) (rm hr) (qb (qa 0) (qb (qa 2) qg))) qe) qe))))
def qgB:Q W 3 55 yP:=by
 refine fE A 55 ["row","voices","chord","number"] λhr nd hu=>?_
 exact(qi (YM 1 nd (jE qg))
 (qi (jY 0 (qW gP rfl (zS 0) (qL 2 nd) (qi (qo 3 nd (YK 1 (cl (qgj A) (rm hr) (qb (qa 1) (qb (qm (qa 2) qe) qg)))))
 (qi (qF (qC (jX hu) (qa 3) (gb (A.q 13))) (qj wF) qE)
 (qi (qF (qC (jX hu) (qa 3) (YK 1 (qM jA A.bl t6 (qb (qa 1) qg)))) (qj (qaO 1 (jE qg))) qE)
 (qj (YN 1 (qa 3) (qa 2))))))))
 (qj (YL 1 (zd 1)))))
def qgC:Q W 3 56 Js:=by
 refine fE A 56 ["_law_script","_law_wide_here","_law_most","_law_found","_law_cell_here","_law_note_here"] λhr nd hu=>?_
 exact(qi (qo 2 nd qe)
 (qi (qF (je (cl (qgk A) (rm hr) (qb (qa 0) qg))) (qj (qo 2 nd qe)) qE)
 (qi (qF (qC xM (qM jA A.bl t6 (qb (qa 0) qg)) qe) (qj (qo 2 nd qe)) qE)
 (qi (qo 3 nd (jE qg))
 (qi (qW gP rfl (zr (QA (qa 0) (kE qe) (kE (qt jg qe (qa 2))))) (qL 4 nd) (qi (qo 5 nd (cl (qgl A) (rm hr) (qb (qa 4) (qb (qa 3) (qb (qa 1) qg)))))
 (qj (qF (st_w (wE (je (cl (qg5 A) (rm hr) (qb (qa 5) (qb (qa 3) qg)))) (yr (qC vS (cl (qg6 A) (rm hr) (qb (qa 5) (qb (qa 3) qg))) qe)))) (qj (zR 3 (qa 5))) qE))))
 (qj (zd 3)))))))
def qgD:Q W 3 57 Jt:=by
 refine fE A 57 ["_law_script","_law_wide_here","_law_found","_law_bar","_law_k","_law_cell_here"] λhr nd hu=>?_
 exact(qi (qo 2 nd (jE qg))
 (qi (qo 3 nd qe)
 (qi (qW gP rfl (Qb (qt jg qe (qt wR (cl (yh A) (rm hr) (qb (qa 0) (qb qe qg))) qe)) A.bl) (qL 4 nd) (qi (qo 5 nd (qt jg (cl (yh A) (rm hr) (qb (qa 0) (qb qe qg))) (qt v7 qe (cl (yh A) (rm hr) (qb (qa 0) (qb (qt jg qe (qa 4)) qg))))))
 (qi (zR 2 (cl (qgn A) (rm hr) (qb (qa 5) (qb (qa 3) (qb (qa 1) qg)))))
 (qj (qo 3 nd (qt jg (qt jg (qa 3) qe) (cl (v6 A) (rm hr) (qb (qa 5) (qb qe (qb qe qg))))))))))
 (qj (zd 2)))))
def qgE:Q W 3 58 Ju:=by
 refine fE A 58 ["_law_bars","_law_lengths_here","_law_b","_law_row","_law_event_here"] λhr nd hu=>?_
 have z:(["_law_bars","_law_lengths_here","_law_b","_law_row","?_law_event_here","_law_event_here"]:List Str).Nodup:=by decide +kernel
 exact(qi (qW gP rfl (Qb (qM jA A.bl t6 (qb (qa 0) qg)) A.bl) (qL 2 nd) (qi (qF (st_w (jS (jF (je (zT .list (qm (qa 0) (qa 2)) A.bl A.bl))) (zQ (qC (zN hu) (qM jA A.bl t6 (qb (qm (qa 0) (qa 2)) qg)) (qM jA A.bl t6 (qb (qm (qa 0) qe) qg)))))) (qj (qw jI)) qE)
 (qj (qW gP rfl (zr (qm (qa 0) (qa 2))) (qL 3 nd) (qi (qF (st_w (jS (jF (je (zT .list (qa 3) A.bl A.bl))) (zQ (qC (zN hu) (qM (Zq rfl) A.bl bm (qb (vw (n:=1) ["_law_bars","_law_lengths_here","_law_b","_law_row","?_law_event_here","_law_event_here"] (wU 3) (zI 5) (λ_ _ _ _ _=>(qL 5 z)) (λ_ _ _ _ _=>.nil) λ_ _ _ _ _=>(qm (qa 5) qe)) qg)) (qm (qa 1) (qa 2)))))) (qj (qw jI)) qE)
 (qj (jY 3 (qW gP rfl (zS 3) (qL 4 nd) (qj (qF (jF (je (cl (qgq A) (rm hr) (qb (qa 4) qg)))) (qj (qw jI)) qE))))))))))
 (qj (qw jI)))
def qgF:Q W 4 59 Jv:=by
 refine fE A 59 ["bars","row","prices","costs"] λhr nd hu=>?_
 exact(qi (qo 1 nd (jE qg))
 (qi (qW gP rfl (zr (cl (qgs A) (rm hr) (qb (qa 0) qg))) (qL 2 nd) (qi (qo 3 nd (Zc (je (qa 1)) (cl (UO A) (rm hr) (qb (qa 2) (qb (qm (qa 1) (v9 qe)) qg))) (qa 2)))
 (qj (zR 1 (qbf (qa 3) (qM (ZH rfl) A.bl pC (qb (qa 3) qg)))))))
 (qj (zd 1))))
def qgG:Q W 4 60 uG:=by
 refine fE A 60 ["notes","at","note"] λhr nd hu=>?_
 exact(qi (qF (jF (je (cl (UQ A) (rm hr) (qb (qa 0) (qb qe (qb (gb (A.q 14)) qg)))))) (qj wF) qE)
 (qi (qW gP rfl (kJ 0 A.bl) (yv rfl (v8 1 nd (v8 2 nd yu))) (qj (qF (st_w (jS (jF (je (cl (UW A) (rm hr) (qb (qa 2) (qb (gb (A.q 15)) qg))))) (zQ (je (cl (qgt A) (rm hr) (qb (qa 0) (qb (qa 1) qg))))))) (qj wF) qE)))
 (qj (qw (qM ZR A.bl dE (qb (qa 0) qg))))))
def qgH:Q W 4 61 xh:=by
 refine fE A 61 ["voice","lengths","bars","begin","length"] λhr nd hu=>?_
 exact(qi (qo 2 nd (jE qg))
 (qi (qo 3 nd qe)
 (qi (jY 1 (qW gP rfl (zS 1) (qL 4 nd) (qi (zR 2 (cl (qgu A) (rm hr) (qb (qa 0) (qb (qa 3) (qb (qt jg (qa 3) (qa 4)) qg)))))
 (qj (ko 3 nd Qd (qa 4))))))
 (qj (zd 2)))))
def UX:QI W 4 62 Jw:=by
 refine fEI A 62 ["pitches","tied","alters","key","heads","pitch","name","letter","octave","sign"] λhr nd hu=>?_
 exact(qi (qo 4 nd (jE qg))
 (qi (jY 0 (qW gP rfl (zS 0) (qL 5 nd) (qi (qo 6 nd (cl (qgw A) (rm hr) (qb (qa 5) (qb (qa 3) qg))))
 (qi (qo 7 nd (qm (qa 6) qe))
 (qi (qo 8 nd (qm (qa 6) qe))
 (qi (qo 9 nd xL)
 (qi (qF (st_w (wE (qC YA (qa 1) xL) (yr (qC (zN hu) (cl (qgx A) (rm hr) (qb (qa 7) (qb (qa 8) (qb (qbN 2) (qb (qa 3) qg))))) (qm (qa 6) qe))))) (qi (qo 9 nd (qm (qa 6) qe))
 (qj (qbQ 2 hu (qb (qa 7) (qb (qa 8) qg)) (qa 9)))) qE)
 (qj (zR 4 (zP (qb (qa 7) (qb (qa 8) (qb (qa 9) qg)))))))))))))
 (qj (qbP 2 (xO YH A.bl boot_tuple (qb (qa 4) qg))))))
def qgI:Q W 4 63 xi:=by
 refine fE A 63 ["thing"] λhr nd hu=>?_
 exact(qi (qF (st_w (jS (jF (je (cl (UW A) (rm hr) (qb (qa 0) (qb (gb (A.q 16)) qg))))) (zQ (qC (qak hu) (qm (qa 0) qe) (gb (A.q 17)))))) (qj (qw jI)) qE)
 (qj (qw (Zr vS vS (gb (A.q 18)) (cl (W6 A) (rm hr) (qb (qa 0) qg)) (gb (A.q 19))))))
def qgJ:Q W 5 64 xj:=by
 refine fE A 64 ["bars","key","turn","told","ahead","bar","alters","rows","spot","voice","event","tied"] λhr nd hu=>?_
 obtain⟨_,_,UY,xB⟩:=id (UX A);have z:=ndc nd ["row"];exact(qi (qo 3 nd (jE qg))
 (qi (qo 4 nd Y4)
 (qi (jY 0 (qW gP rfl (zS 0) (qL 5 nd) (qi (qo 6 nd Zp)
 (qi (qb8 7 (n:=1) (apS _ ["row"]) (λ_ _=>qb6 _ _ _) nd (wU 5) (zI 12) (λ_ _ _ _ _=>(qL 12 z)) λ_ _ _ _ _=>(jE qg))
 (qi (qW gP rfl (zr (cl (UU A) (rm hr) (qb (qa 5) qg))) (qL 8 nd) (qi (qo 9 nd (qm (qa 8) qe))
 (qi (qo 10 nd (qm (qm (qa 5) (qa 9)) (qm (qa 8) qe)))
 (qi (qF (qC (jX hu) (qm (qa 10) qe) wD) (qi (qo 11 nd (cl (qg0 A) (rm hr) (qb (qbY (qa 4) (qa 9)) qg)))
 (qj (qc2 10 nd (qc1 (ZW wD (ZW (qm (qa 10) qe) (qc0 (qbW 2 UY (rm hr) xB.2 xB.3 xB.4 (Kc (qm (qa 10) qe) (Kc (qa 11) (qbR 6 (qb (qa 1) qg))))) (ZW (qm (qa 10) qe) qbZ)))))))) qE)
 (qi (YN 7 (qa 9) (qa 10))
 (qj (Y5 4 hu (qa 9) (qa 10))))))))
 (qj (YL 7 (jY 7 (zR 3 (qa 7))))))))))
 (qj (zd 3)))))
def qgK:Q W 5 65 Jx:=by
 refine fE A 65 ["meter","at","told"] λhr nd hu=>?_
 exact(qi (qF (jF (je (cl (UQ A) (rm hr) (qb (qa 0) (qb qe (qb (gb (A.q 20)) qg)))))) (qj wF) qE)
 (qi (qW gP rfl (kJ 0 A.bl) (yv rfl (v8 1 nd (v8 2 nd yu))) (qj (qF (st_w (jS (jF (je (cl (qgI A) (rm hr) (qb (qa 2) qg)))) (zQ (jF (je (cl (qg4 A) (rm hr) (qb (qa 0) (qb (qa 1) qg)))))))) (qj wF) qE)))
 (qj (qw (xO Z9 A.bl cV (qb (qa 0) qg))))))
def qgL:Q W 5 66 Vi:=by
 refine fE A 66 ["notes","meter","end","lengths","voices","bars","number"] λhr nd hu=>?_
 have B:=ndc nd ["note"];have z:=ndc nd ["voice"];exact(qi (qo 2 nd (Yy (vw (n:=1) (apS _ ["note"]) (wU 0) (zI 7) (λ_ _ _ _ _=>(qL 7 B)) (λ_ _ _ _ _=>.nil) λ_ _ _ _ _=>(cl (xA A) (rm hr) (qb (qa 7) qg))) qe A.bl))
 (qi (qo 3 nd (cl (qgh A) (rm hr) (qb (qa 1) (qb (cl (qgA A) (rm hr) (qb (qa 1) (qb (qa 2) qg))) qg))))
 (qi (Y1 4 (n:=1) (apS _ ["voice"]) nd (SI.c (zr (cl (qgB A) (rm hr) (qb (cl (qfZ A) (rm hr) (qb (qa 0) qg)) qg)))) (zI 7) (λ_ _ _ _ _=>(qL 7 z)) (λ_ _ _ _ _=>.nil) λ_ _ _ _ _=>(cl (qgH A) (rm hr) (qb (qa 7) (qb (qa 3) qg))))
 (qi (qo 5 nd (jE qg))
 (qi (qW gP rfl (Qb (qM jA A.bl t6 (qb (qa 3) qg)) A.bl) (qL 6 nd) (qj (zR 5 (vw (n:=1) (apS _ ["voice"]) (wU 4) (zI 7) (λ_ _ _ _ _=>(qL 7 z)) (λ_ _ _ _ _=>.nil) λ_ _ _ _ _=>(qm (qa 7) (qa 6))))))
 (qj (zd 5)))))))
def qgM:Q W 6 67 Jy:=by
 refine fE A 67 ["bars","key"] λhr nd hu=>?_
 obtain⟨_,_,UY,xB⟩:=id (UX A);exact(qj (qw (cl (qgJ A) (rm hr) (qb (qa 0) (qb (qa 1) (qb (qbU xB.1 xB.4) qg))))))
def qgN:Q W 7 68 uH:=by
 refine fE A 68 ["notes","key","meter","room","told_meter","told_notes","bars","widths"] λhr nd hu=>?_
 have z:=ndc nd ["bar"];exact(qi (Zd (cl (qgv A) (rm hr) (qb (qa 1) qg)))
 (qi (qo 4 nd (cl (qgK A) (rm hr) (qb (qa 2) qg)))
 (qi (qo 5 nd (cl (qgG A) (rm hr) (qb (qa 0) qg)))
 (qi (Zd (cl (qgy A) (rm hr) (qb (qa 3) qg)))
 (qi (qo 6 nd (cl (qgM A) (rm hr) (qb (cl (qgL A) (rm hr) (qb (qa 5) (qb (qa 4) qg))) (qb (qa 1) qg))))
 (qi (Y1 7 (n:=1) (apS _ ["bar"]) nd (wU 6) (zI 8) (λ_ _ _ _ _=>(qL 8 z)) (λ_ _ _ _ _=>.nil) λ_ _ _ _ _=>(cl (qgf A) (rm hr) (qb (qa 8) qg)))
 (qj (jY 7 (jY 6 (jY 4 (qw (zP (qb (qa 1) (qb (qa 4) (qb (qa 3) (qb (cl (qgF A) (rm hr) (qb (qa 6) qg)) (qb (cl (qgz A) (rm hr) (qb (qa 7) (qb (qa 3) qg))) (qb (qa 6) qg))))))))))))))))))
def qgO(F:Fun W.K "law" "law" Xh f fd) :
  FnOk W.P W.w W.K W.mg W.base CX0 8 f fd ["_law_script"] (spD #[W.P,W.w,W.K] xk 1):=by
 refine fEL F ["_law_script","_law_wide_here","_law_notes_here","_law_key_here","_law_meter_here","_law_room","_law_kept","_law_sheet","_law_lengths_here"] λhr nd hu=>?_
 have z:=ndc nd ["_law_note_here"];exact(qi (qo 1 nd (cl (qgm A) (rm hr) (qb (qa 0) qg)))
 (qi (qo 2 nd (cl (qgC A) (rm hr) (qb (qa 0) (qb (qa 1) qg))))
 (qi (qo 3 nd (cl (qgo A) (rm hr) (qb (qa 0) qg)))
 (qi (qo 4 nd (cl (qgD A) (rm hr) (qb (qa 0) (qb (qa 1) qg))))
 (qi (jY 4 (jY 2 (qo 5 nd (cl (qgp A) (rm hr) (qb (qa 0) (qb (qa 1) qg))))))
 (qcb 6 nd (xO Z9 A.bl cV (qb (qa 2) qg)) (xO Z9 A.bl cV (qb (qa 4) qg)) (λ_ _ ka kb _ _ xs ys ha ra hb rb=>#[(qo 7 nd (cl (qgN A) (rm hr) (qb (Kg rfl ha ra (qm (qa 6) qe)) (qb (qa 3) (qb (Kg rfl hb rb (qm (qa 6) qe)) (qb (qa 5) qg)))))),(qF (st_w (jS (qc9 ha ra hb rb λ_ _=>(qC (zN hu) (qa 6) (zP (qb (qa 2) (qb (qa 4) qg))))) (jS (jF (je (zT .tuple (qa 7) A.bl A.bl))) (zQ (qC (zN hu) (qM jA A.bl t6 (qb (qa 7) qg)) qe))))) (qj (qw jI)) qE),(qF (st_w (jS (jF (je (cl (JS A) (rm hr) (qb (qm (qa 7) qe) qg)))) (jS (qC (zN hu) (qm (qa 7) qe) (qa 3)) (jS (jF (je (zT .list (qm (qa 7) qe) A.bl A.bl))) (zQ (qC (zN hu) (qm (qa 7) qe) (qa 4))))))) (qj (qw jI)) qE),(qF (st_w (jS (jF (je (cl (JS A) (rm hr) (qb (qm (qa 7) qe) qg)))) (jS (qC (zN hu) (qm (qa 7) qe) (qa 5)) (zQ (jF (je (zT .list (qm (qa 7) qe) A.bl A.bl))))))) (qj (qw jI)) qE)]) (λ_ _=>qm (qa 6) qe)
 (qi (qF (qC (zN hu) (qm (qa 7) qe) (qa 4)) (qj (qw jI)) qE)
 (qi (qo 8 nd (cl (qg8 A) (rm hr) (qb (qa 4) (qb (Yy (vw (n:=1) (apS _ ["_law_note_here"]) (wU 2) (zI 9) (λ_ _ _ _ _=>(qL 9 z)) (λ_ _ _ _ _=>.nil) λ_ _ _ _ _=>(qt jg (qm (qa 9) qe) (qm (qa 9) qe))) qe A.bl) qg))))
 (qi (qF (st_w (jS (qC (zN hu) (qM jA A.bl t6 (qb (qm (qa 7) qe) qg)) (qM jA A.bl t6 (qb (qa 8) qg))) (zQ (jF (je (cl (qgr A) (rm hr) (qb (qa 7) (qb (qM jA A.bl t6 (qb (qa 8) qg)) qg)))))))) (qj (qw jI)) qE)
 (qj (qw (cl (qgE A) (rm hr) (qb (qm (qa 7) qe) (qb (qa 8) qg))))))))))))))
end
def qgP{l:PySem.W.OpenLaw}{w:World}{K:Frag}{h:Heap}{mg:Str->Option aa}{fa:Addr}(X:K.In h)(G:h.Ns mainGlobals mg)(z:mg "law"=!(.ref fa))
  {B:Addr}(L:FunE K "law" Xh)(E:∀ p∈FS,FunE K p.1 p.2)(Z:∀ x∈BL,nsIn K mainGlobals x=!none)(V:∀ p∈C0S,DatE K p.1 p.2)(O:nsIn K mainGlobals "PITCHES"=!(!(.ref B)))(U:DatS w K B Ki) :
  ∃ fd,(∀ s v,BindsTo s fd #[[v],[]] [("_law_script",v)])/\∀ base,K.In base->base.Ns mainGlobals mg->FnOk l.prog w K mg base CX0 8 fa fd ["_law_script"] (spD #[l.prog,w,K] xk 1) :=
 qc6 X G z L (λ_ _ _ _ _ _ _ _=>.of_eq rfl) λbase _ _ F=>qgO (W:=#[l.prog,w,K,mg,base]) #[#[h,X,G],E,Z,λp hp=>(gD.mp hp).elim (λq=>qc4 X G (V p q)) ((all1 (P:=λp:Str×D=>CC l.prog w K mg p.1 p.2) (qc5 X G O U) all0) p)] F
def walk{l:PySem.W.OpenLaw}{q:ag}{B:List Str}{Y:(Str->Option aa)->Heap->Prop}{U:World->Heap->Prop}{d:DefRec}{K:Params->Frag}(Z:l.most=!63)(O:d.params.defaults=[])
  (hY:∀ w h,U w h->(K w.params).In h)
  (F:∀ w mg fa h,(K w.params).In h->h.Ns mainGlobals mg->mg d.name=↑(.ref fa) ->
   ∃ fd,(∀ s u,BindsTo s fd #[[u],[]] [("_law_script",u)])/\∀ base,(K w.params).In base->base.Ns mainGlobals mg->FnOk l.prog w (K w.params) mg base CX0 8 fa fd ["_law_script"] (spD #[l.prog,w,K w.params] xk 1)) :
  PySem.W.WalkO q B Y U l.row.toRowW d [] (λf vs=>PySem.call f vs) :=
 L2.Tj Z "d" O #[rfl,by decide,by decide] hY F (λw H a ns hl _ hS=>TK xk ns hS (qfW ns hl)) λ_ _ _ _ _ z=>z
end My
end
open PySem PySem.W PyProof.Rows
set_option maxRecDepth 100000 in
set_option maxHeartbeats 0 in
theorem PySem.Challenge.cw_stavemill_k32_what_a_page_has_holds : PySem.Challenge.rw_stavemill_k32_what_a_page_has.Holds := by
 w_on; o_law; k_head; (case hw=>w_witness2)
 k_fill
 refine My.walk (l:=PySem.Challenge.rw_stavemill_k32_what_a_page_has) rfl rfl (fun w h Y=>kIn_of Y) ?F
 case F =>
  intro w mg fa h KX G hmg
  refine' My.qgP KX G hmg ?L ?E ?Z ?V ?W8 ?W9
  (case L=>(refine' .mk ?a ?l ?c ?k; (case a=>k_is); (case l=>k_is); (case c=>k_is); (case k=>k_is)))
  (case E=>(repeat' refine L3.all1 ?_ ?_); all_goals first|exact L3.all0|(dsimp only; (refine' .mk ?a ?l ?c ?k; (case a=>k_is); (case l=>k_is); (case c=>k_is); (case k=>k_is))))
  (case Z=>(repeat' refine L3.all1 ?_ ?_); all_goals first|exact L3.all0|k_is)
  (case V=>(repeat' refine L3.all1 ?_ ?_); all_goals first|exact L3.all0|(dsimp only; refine' .mk ?a ?d; (case a=>k_is); (case d=>kernel_rfl)))
  (case W8=>k_is)
  (case W9=>refine ⟨?o,?es,?ep,?lk,?dt,?cl,?nd,?en⟩; (case lk=>exact rfl); (case dt=>rfl); (case cl=>kernel_rfl); (case nd=>decide +kernel); (case en=>exact .cons rfl rfl rfl (.cons rfl rfl rfl (.cons rfl rfl rfl (.cons rfl rfl rfl (.cons rfl rfl rfl (.cons rfl rfl rfl (.cons rfl rfl rfl (.nil)))))))))
#print axioms PySem.Challenge.cw_stavemill_k32_what_a_page_has_holds