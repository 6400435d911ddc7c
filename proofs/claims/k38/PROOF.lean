import PyProof.Rows.All
import Wide.All
import OpenK.AllK
import Wide.FinOn
import Lean
import PyProof.EqAt
import PyProof.EqKinds
import PyProof.TupleCall
import PyProof.P3In
import PyProof.NeData
import PyProof.MaxThree
import PySem.Challenge.RW_stavemill_k38_whole_a_fifth_higher
set_option compiler.extract_closed false
set_option bootstrap.genMatcherCode false
set_option genSizeOf false
local macro_rules(kind:=Lean.Parser.Command.declaration)|s=>do
 if (s[1].isOfKind ``Lean.Parser.Command.definition||s[1].isOfKind ``Lean.Parser.Command.abbrev)&&s[0].getArgs.all (·.isNone) then return s.setArg 0 (<-`(command|noncomputable def x:=0)).raw[0] else Lean.Macro.throwUnsupported
set_option Elab.async false
set_option linter.all false
set_option maxRecDepth 100000
local macro_rules | `(tactic| trivial) => `(tactic| first | exact True.intro | exact Or.inl rfl | exact Or.inr rfl | exact Or.inr (Or.inl rfl) | exact Or.inr (Or.inr rfl) | exact ⟨rfl, by trivial, by decide, by decide⟩)
set_option Elab.async false
set_option linter.all false
set_option maxRecDepth 100000
set_option maxHeartbeats 4000000
noncomputable section
def t6:=@decide_eq_false
def tF:=@decide_eq_true
def fN:=@beq_self_eq_true
def p6:=@beq_eq_false_iff_ne
def pi:=@getElem?_pos
def pZ:=@if_false
def d8:=@if_true
def bS:=@not_false_eq_true
def bU:=@or_false
open PySem renaming wpAny_bind->g6,wpAny_pure->gu,boot_len->hV,wpAny_newObj_type->tX,wpAny_callSpecial?_slot->f8,wpAny_Call_Name_kw->fw,wpAny_seqItems->fA,wpAny_holding->fB,wpAny_call_entry->fL,wpAny_field->fR,sizeLine_eq->pp,wpAny_truthy_bool->pF,wpAny_rule->pG,wpAny_letGo->pJ,plainId_quiet->pU,wpAny_setField_rec->pV,wpAny_mono->c6,wpAny_passesOwn->c9,wpAny_updateSeq->cu,mem_of_lookup->cA,wpAny_typeNameOfWhole_keyiter->cD,wpAny_tryCatch->cH,wpAny_typeNameOf_keyiter->dj,tupleKind_room_in1->dA,codeAny_builtin->dC,wpAny_dictEntries->dN,wpAny_setField->dR,call_meetsIn->dU,wpAny_isOneOf_keyiter->dY,wpAny_updateSeq_pair->b9,wpAny_pyIter_revIter->bg,typeIs_int->bj,wpAny_execs_nil->bn,wpAny_Tuple_spliced->bu,wpAny_pyIter_tuple->bB,wpAny_typeOf->bD,wpAny_Return_some->bM,wpAny_assign_Name->bN,call_meets->bP,wpAny_Call_method->bQ,wpAny_Assign_Name->bR,wpAny_standAt->bT,wpAny_attempt->bV,wpAny_onRaise->bW
open List renaming length_map->gg,mem_cons_of_mem->gj,getElem?_eq_some_iff->gp,getElem?_eq_getElem->gw,getElem?_map->gC,mem_append->gD,mem_cons->gE,length_append->gG,map_map->gH,mem_map->gJ,length_cons->gK,map_cons->gN,size_toArray->gU,pairwise_append->gW,map_congr_left->gZ,getElem?_set_ne->h9,getElem?_append_right->hU,map_append->hX,getElem?_append_left->t4,mem_append_left->t5,append_assoc->t7,mem_of_getElem?->t8,mem_append_right->tf,mem_cons_self->tj,getD_eq_getElem?_getD->tm,mem_iff_getElem->tw,length_take->tB,nodup_cons->tD,take_append_drop->tL,append_nil->tM,flatten_cons->tQ,getElem_mem->tR,mem_singleton->tT,pairwise_iff_getElem->tU,take_of_length_le->tW,pairwise_map->tY,length_eq_zero_iff->f9,nodup_append->fj,mem_of_mem_take->fm,mem_of_mem_drop->fq,pairwise_cons->fy,filter_eq_nil_iff->fG,length_nil->fH,drop_eq_getElem_cons->fJ,foldl_cons->fK,length_singleton->fO,getElem?_replicate->fQ,set_cons_zero->fT,pairwise_singleton->fU,set_cons_succ->fV,length_drop->fW,drop_of_length_le->fZ,getLast?_eq_none_iff->pf,nil_append->pj,not_mem_nil->px,all_cons->pA,filter_cons_of_pos->pC,sum_cons->pD,mem_filter->pH,all_eq_true->pO,countP_append->pS,getElem?_take->pT,filter_append->pX,map_nil->cy,getElem?_cons_succ->cC,drop_append_of_le_length->cE,take_append_of_le_length->cF,find?_eq_none->cL,find?_cons->cO,getLast?_map->cU,length_range->cV,mem_of_getLast?->cY,drop_length->cZ,take_length->d6,replicate_succ->d9,getElem?_range->de,reverse_append->dg,filter_eq_self->dh,range_succ->dG,find?_cons_of_neg->dL,ext_getElem?->dO,mem_range->dP,nodup_nil->dQ,take_take->dS,set_set->dX,zipIdx_cons->b7,any_cons->bi,filterMap_cons->bm,length_set->bq,forIn_cons->bv,sum_append->bx,length_reverse->bA,zip_cons_cons->bC,findIdx?_cons->bI,take_zero->bL,reverse_cons->bO
open PySem.Heap renaming get?_push_of_some->gq,get?_push_size->gM,lt_size->gP,get?_update_other->tJ,get?_update_self->tZ,get?_push_ne->cx,size_push->cG,size_update->d7
open Nat renaming le_refl->gy,ne_of_lt->t3,lt_of_lt_of_le->tq,zero_le->tK,le_trans->tV,lt_irrefl->pz,zero_add->pE,ne_of_gt->pR,min_eq_left->cw,le_of_lt->cM,lt_succ_of_lt->dM,lt_succ_self->dZ,le_succ->bw,lt_trans->bE,lt_or_ge->bF
open PySem.PassesOwn renaming never->gQ
open Bool renaming and_eq_true->hE,false_eq_true->tS,false_ne_true->pQ,true_and->dH,false_and->bJ
open PySem.Calls renaming spliced_cons->hZ,spliced_nil->tH,callWith_builtin->cI,evalArgs_plain->cW
open Ne renaming symm->t9
open PyProof.Rows renaming callWith_type1->tu,boot_min->po,boot_list->pL,slot_tuple_getitem->cg,callWith_builtin1->cz,boot_max->cP,boot_sorted->dq,wpS_get->bK,wpS_lift->bY
open Option.some renaming inj->tG
open Array renaming toList_append->tN,perm_iff_toList_perm->fF,length_toList->p7,toList_push->cT,toList_reverse->cX,getElem?_eq_none->dI
open Int renaming mul_le_mul_of_nonneg_right->tP,toNat_natCast->fC,le_refl->pt,eq_ofNat_of_zero_le->pB,mul_ediv_add_emod->pY,le_of_lt->cR,emod_nonneg->dF,ediv_nonneg->bz,emod_lt_of_pos->bG,zero_add->bH
open PySem.F renaming slot_dict_get->fP,plainAttrs_list->fS,slot_tuple_iterator_next->fX,plain_min_loop->fY,plain_max_loop->pK,slot_dict_keyiterator_next->pN,slot_list_append->cj,type_list_append->cq,plainAttrs_dict->cB,entry_dict_get->cJ,slot_zip_next->cQ,args_tuple_iterator_next_1->du,args_dict_get_3->dB,entry_tuple_iterator_next->dD,entry_min_loop->dJ,type_dict_get->dW
open PySem.Heap.SameBut renaming update->p9
open PySem.W renaming kia_one->pI,mg_of->bX
open Option renaming bind_some->pP,map_eq_some_iff->cK
open List.Perm renaming append_left->pW
open List.Pairwise renaming imp_of_mem->dm
open PySem.Paired renaming length->dz
open PySem.Obj renaming data_mapFields->dE
open PySem.Around renaming under_plainId->b8
open PySem.W(methodObj Frag cellsFrom_some codeIn keepIn nsIn callWith_K kitOne kitx_dict tailIn kIn_of)
open Nat(ble ble_eq sub_self add_assoc reduceAdd mod_lt)
open PySem(KeysOf Pairs)
open PyProof.Rows(neg_int listMul_foldl_if boot_tuple boot_sum boot_int)
open PySem renaming Value→aa,Shared→ab,Program→af,Around→ag
open PyProof.Rows renaming Keyed→aj,SortSt→am
local macro_rules|`(↑$x)=>`(some $x)
def rF(_:True:=by rfl):=True
def rT(_:True:=by trivial):=True
def rD(_:True:=by decide):=True
set_option hygiene false
local macro_rules
|`($x["r"])=>`(autoParam $x rF._auto_1)
|`($x["t"])=>`(autoParam $x rT._auto_1)
|`($x["d"])=>`(autoParam $x rD._auto_1)
|`($x[0])=>`(($x).heap.objs.size)
|`($x[1])=>`(($x).length)
|`($x[2])=>`(($x).toList)
|`($x[3])=>`(wpAny (model ($x).prog ($x).w) ($x).A)
|`($x[5])=>`(eC (.int $x))
|`($x[6])=>`(.int $x)
|`($x[7])=>`(.fz (.int $x))
|`($x[8])=>`(.fz $x)
|`($x[9])=>`(.ow $x)
|`($x[""])=>`(by simpa using $x)
local macro_rules
|`("")=>`(by lia)
|`("s")=>`(by simp)
|`("d")=>`(by decide)
|`("I")=>`(Inv X pins σ)
|`("S")=>`(SE X F0 H0)
set_option hygiene true
local macro_rules
|`(#[$x])=>`(⟨$x⟩)
|`(#[$x,$xs,*])=>`(⟨$x,$xs,*⟩)
|`(!$x)=>`(some $x)
namespace PySem.W.Fast
def tw5495828086555293696:=0
def tw14391186338663062940:=0
def tw3904018905076939383:=0
def tw2293537818659985789:=0
def tw8497358132197605227:=0
def tw929013243010190580:=0
def tw6354113736673354578:=0
def tw2300720201204457016:=0
def tw17505029134941470227:=0
def tw9601065416360042900:=0
def tw15518148304179660060:=0
def tw17201769218706251406:=0
def tw17537283158293414831:=0
def tw3723332291513704820:=0
def tw8410920572145509536:=0
def tw8864158762354743237:=0
def tw7073678022523383450:=0
def tw8102070685668723954:=0
def tw9157863364015372955:=0
def tw16807472319388448531:=0
def tw17015312823766784979:=0
def tw9719850826066466967:=0
def tw11900760601511577707:=0
def tw13971762259385448718:=0
def tw11908365740538196416:=0
def tw3618395380459077093:=0
def tw6758834791553623863:=0
def tw4507142814851647945:=0
def tw7156289105383271684:=0
def tw15528974995666837245:=0
def tw3153279665173016183:=0
def tw4273152477572253805:=0
def tw18346437195202460045:=0
def tw11989068027043498:=0
def tw10579544644884206129:=0
def tw13908315800676556093:=0
def tw12508825795621730522:=0
def tw7692402295104200552:=0
def tw11443739391440057659:=0
def tw9683133433260696854:=0
def tw10688391501700508614:=0
def tw874602616471516910:=0
def tw2817452913324986757:=0
def tw151067166242696604:=0
def tw8044811804412023325:=0
def tw6479268927307049937:=0
def tw12429001667277099093:=0
def tw13195366708801475689:=0
def tw7339940017274182483:=0
def tw8407068715233449874:=0
def tw9046025388390442289:=0
def tw1047205367524305142:=0
def tw6031576181773851245:=0
def tw12446317399084628146:=0
def tw10481950235979258108:=0
def tw9068622645699281458:=0
def tw5785657559814059012:=0
def tw7153984165325069314:=0
def tw9484305499949244041:=0
def tw11227101669250160779:=0
def tw16767106359558349060:=0
def tw1235829757908535994:=0
def tw8700631309504602216:=0
def tw1899592368839964633:=0
def tw11663656518096576960:=0
def tw11202619249716587835:=0
def tw10796546239531693667:=0
def tw6422963385370549423:=0
def tw720725605658862758:=0
def tw6248413301593529804:=0
def tw15584007195795745603:=0
def tw6353486974590191140:=0
def tw8350669502443201079:=0
def tw1760576874934015222:=0
def tw656676329180614792:=0
def tw3790178456553060526:=0
def tw15857142885893221164:=0
def tw8758924085155514647:=0
def tw545052595444408239:=0
def tw5400642321824979167:=0
def tw15221182233674710832:=0
def tw13395216577269360142:=0
def tw6830207394787064210:=0
def tw6136588919738449954:=0
def tw6089335139084016001:=0
def tw10764116712254350324:=0
def tw10384772596897281655:=0
def tw6711920090430054709:=0
def tw8426642271467698295:=0
def tw14869863060995554306:=0
def tw16694188494028757336:=0
def tw12111382061372629811:=0
def tw1875490699934373433:=0
def tw12258106499942649477:=0
def tw7496472685444957251:=0
def tw1712451345051889764:=0
def tw14450588888415396141:=0
def tw4008645807059639337:=0
def tw11393263123027196887:=0
def tw8933193357885494550:=0
def tw10836162661348933624:=0
def tw4311127590705682943:=0
def tw4290191023306943897:=0
def tw13007049057468889070:=0
def tw11046205627056026870:=0
def tw8528372771179618232:=0
def tw7148354405046085583:=0
def tw14377894049078675091:=0
def tw17887765906166068883:=0
def tw8059547705800094189:=0
def tw3308401028179653074:=0
def tw18156714846749980773:=0
def tw13908752255393183295:=0
def tw12258719479458302171:=0
def tw7965604109002388555:=0
def tw1918106217288981506:=0
def tw10120967787473021990:=0
def tw4983878329971125183:=0
def tw11976667976169466821:=0
def tw17179292637949599883:=0
def tw409614649370836862:=0
def tw6578929355884519832:=0
def tw4958214559256003478:=0
def tw5318746576179591874:=0
def tw790703812306077111:=0
def tw15363601531311590133:=0
def tw1601944797376232681:=0
def tw7557532441809282399:=0
def tw11429654394536106003:=0
def tw12939295064694077699:=0
def tw2301496893643581017:=0
def tw15807405528088819261:=0
def tw14390167978295730421:=0
def tw12284509988105566139:=0
def tw4562987492335584038:=0
def tw44654006931738031:=0
def tw15097191296199671036:=0
def tw14342898169578376215:=0
def tw431222302181511643:=0
def tw4458182517373873729:=0
def tw12478020462628518964:=0
def tw8903442196718049002:=0
def tw646087693075782516:=0
def tw424799057521633055:=0
def tw583144495501832423:=0
def tw1864637699764902887:=0
def tw4661697762938220796:=0
def tw14465261304084485250:=0
def tw13532201038489949051:=0
def tw7414171992003188855:=0
def tw18435327634997363680:=0
def tw5733049796827148498:=0
def tw15601264684507375999:=0
def tw10466439761529543869:=0
def tw15942308749165947477:=0
def tw4145966333593207956:=0
def tw4147060916875619649:=0
def tw7822282688858404669:=0
def tw5037953856199173931:=0
def tw12097231429848232361:=0
def tw7761565921204225195:=0
def tw7753779389185286200:=0
def tw15486662241856496893:=0
def tw3989600026394189937:=0
def tw386512524826394405:=0
def tw7587423345707263605:=0
def tw15301821857810357255:=0
def tw7247511301136611881:=0
def tw2569646229957189328:=0
def tw18092281147074948845:=0
def tw9142008197295246787:=0
def tw10468205554720813419:=0
def tw12639479013187555030:=0
def tw451214593590435123:=0
def tw9697914765603270250:=0
def tw5132154137381413435:=0
def tw10242693569008567658:=0
def tw4954012629199025011:=0
def tw9494107043503463732:=0
def tw1481232392553839826:=0
def tw8130875472772229612:=0
def tw9914073886349493190:=0
def tw2958311297465425252:=0
def tw5344438837395115461:=0
def tw2933065641346162934:=0
def tw17247093332297453212:=0
def tw16677852979059603583:=0
def tw13215635393628834050:=0
def tw10912025211605187169:=0
def tw15073191931909609641:=0
def tw2386281663120452617:=0
def tw18252308382234372212:=0
def tw1441562039350187966:=0
def tw3800864952520310532:=0
def tw10662674375301942111:=0
def tw6281428544448938822:=0
def tw7921786461086360315:=0
def tw16954117003236135002:=0
def tw13696362812507898818:=0
def tw5164195822103523213:=0
def tw4681558871149678518:=0
def tw7613725926184366462:=0
def tw542405828118750646:=0
def tw15961276683994013731:=0
def tw16072382474513506723:=0
def tw5569614890715968462:=0
def tw16105463879248065763:=0
def tw16319450629161628319:=0
def tw15943987268273333200:=0
def tw12394689900343172776:=0
def tw4257973990852598396:=0
def tw15625467547902847393:=0
def tw15239414584757964561:=0
def tw1248671472851809387:=0
def tw13757198623856797242:=0
def tw17001849956411180251:=0
def tw14957109922558168149:=0
def tw2797275885236484450:=0
def tw14979996131298868235:=0
def tw9519203956001862408:=0
def tw3681048598082106166:=0
def tw5142998491201291138:=0
def tw4713207268363998846:=0
def tw11924874869632667580:=0
def tw10331454600035270309:=0
def tw4157976265573147913:=0
def tw4271814121346360780:=0
def tw17702654207218266626:=0
def tw9070521751361828235:=0
def tw17622431014009755613:=0
def tw17290359882494021182:=0
def tw15871706093732703938:=0
def tw4235391082435108134:=0
def tw8950866743036956776:=0
def tw17221473979898366850:=0
def tw6264477981098214242:=0
def tw11117017844288104862:=0
def tw13922472998626811658:=0
def tw2908919789089056036:=0
def tw2310309439131278622:=0
def tw13804422440373912341:=0
def tw1094992634021850909:=0
def tw10874787528855347808:=0
def tw12523517022777045497:=0
def tw1866312296459178403:=0
def tw13284404987659100873:=0
def tw4983027666292285507:=0
def tw18037707273388232003:=0
def tw5794732745412420059:=0
def tw7808098096475780374:=0
def tw3653599539636828157:=0
def tw9649116875990232084:=0
def tw5621042871880280536:=0
def tw4032639309252577354:=0
def tw16801762661727378874:=0
def tw10136318096396956581:=0
def tw7468574779277882529:=0
def tw907012008198029125:=0
def tw8027868808044034803:=0
def tw9983003047868129663:=0
def tw10372675112936790029:=0
def tw4223541853676958830:=0
def tw8368132764993942834:=0
def tw17837611495377097582:=0
def tw13509159414921688948:=0
def tw10885448800944126783:=0
def tw2579706506951869683:=0
def tw17364502300441388680:=0
def tw475105047988047684:=0
def tw856140375069640742:=0
def tw18371217860500799599:=0
def tw2032912377025235163:=0
def tw3618285185912824533:=0
def tw15375731299787481068:=0
def tw7056994977961693544:=0
def tw1356602601965967427:=0
def tw17395587984764457975:=0
def tw10557168904570556809:=0
def tw6721911267882324176:=0
def tw9103201182431840043:=0
def tw7073421140000549419:=0
def tw3558832779036020424:=0
def tw12331326494493671225:=0
def tw12829280002623539201:=0
def tw14083864672027771504:=0
def tw7153446787616143591:=0
def tw18097451799856470544:=0
def tw8939555679182238194:=0
def tw7546169514552390208:=0
def tw1138637956164907136:=0
def tw14255814499599968554:=0
def tw4038088838283297345:=0
def tw12267103720459179083:=0
def tw4566516774884374566:=0
def tw4508382246811618385:=0
def tw10584755397287049234:=0
def tw7763663483547428301:=0
def tw15032443622351663627:=0
def tw15507154504272026953:=0
def tw10121286319066477444:=0
def tw10498074149606899581:=0
def tw6044076296887407222:=0
def tw1079390610900781432:=0
def tw11935476766372222652:=0
def tw15107263605879291606:=0
def tw14847955670833732386:=0
def tw2574135907774505035:=0
def tw16562297280121725985:=0
def tw2051478616728143042:=0
def tw16545768382743229656:=0
def tw13585273465691446089:=0
def tw8547132392845855980:=0
def tw8388912313112787686:=0
def tw15377651204009474916:=0
def tw7074714082606962679:=0
def tw1585497717203872143:=0
def tw11123236291064593094:=0
def tw4527395751494456117:=0
def tw10188688002504460034:=0
def tw295532500538602862:=0
def tw12811063449366222555:=0
def tw1880671736449368138:=0
def tw4718056749357527837:=0
def tw17073943877179482518:=0
def tw15257341734456853111:=0
def tw17473141001708374447:=0
def tw1964932222111193021:=0
def tw1186609924223767849:=0
def tw8340921766469043984:=0
def tw2273531820966453503:=0
def tw6056277713469526390:=0
def tw7364449084918707180:=0
def tw16281850891626571640:=0
end PySem.W.Fast
namespace L2
open PySem PySem.Spec PyProof.Rows
abbrev Key:=Sum Int Str
def yX:Key->aa->Bool
 | .inl k,v=>Value.isInt k v
 | .inr x,v=>Value.isStrOf x v
def MU(w:World):Key->Int
 | .inl k=>hashInt k
 | .inr x=>hashStr w x
theorem vT:∀{k} {v},yX k v=true->(∃ i t,k=Sum.inl i/\v=Value.int i t)\/(∃ x t,k=Sum.inr x/\v=Value.str x t)
 | .inl i,v,h=>by
  obtain⟨t,e⟩:=Value.isInt_shape (k:=i) (v:=v) h;exact .inl #[i,t,rfl,e]
 | .inr x,v,h=>by
  obtain⟨t,e⟩:=Value.isStrOf_shape (x:=x) (v:=v) h;exact .inr #[x,t,rfl,e]
def MV(i)(t):yX (.inl i) (.int i t)=true:=by simp[yX,Value.isInt]
def MW(x)(t):yX (.inr x) (.str x t)=true:=by simp[yX,Value.isStrOf]
def MX(a b):decide ((Sum.inl a:Key)=Sum.inl b)=(a==b):=by
 by_cases e:a=b
 .subst e;simp
 have h:¬ (Sum.inl a:Key)=Sum.inl b:=λq=>e (Sum.inl.inj q)
 rw[t6 h];exact(p6.mpr e).symm
def MY(a b):decide ((Sum.inr a:Key)=Sum.inr b)=decide (a=b):=by
 by_cases e:a=b
 .subst e;simp
 have h:¬ (Sum.inr a:Key)=Sum.inr b:=λq=>e (Sum.inr.inj q)
 rw[t6 h,t6 e]
def MZ(a)(b):decide ((Sum.inl a:Key)=Sum.inr b)=false:=t6 (λq=>nomatch q)
def G0(a)(b):decide ((Sum.inr a:Key)=Sum.inl b)=false:=t6 (λq=>nomatch q)
def jd(prog:af)(w:World):PySem.KeyKind prog w Key where
 is:=yX
 hash:=MU w
 inj:=λv a b ha hb=>by
  rcases vT ha with⟨i,t,rfl,rfl⟩|⟨x,t,rfl,rfl⟩
  .rcases vT hb with⟨j,u,rfl,e⟩|⟨y,u,rfl,e⟩
   .injection e with e1 _;rw[e1]
   exact nomatch e
  rcases vT hb with⟨j,u,rfl,e⟩|⟨y,u,rfl,e⟩
  .exact nomatch e
  injection e with e1 _;rw[e1]
 byValue:=λk v h=>by
  rcases vT h with⟨i,t,rfl,rfl⟩|⟨x,t,rfl,rfl⟩<;>rfl
 pyHash:=λhv h=>by
  rcases vT hv with⟨i,t,rfl,rfl⟩|⟨x,t,rfl,rfl⟩
  .exact wpAny_pyHash_int h
  exact wpAny_pyHash_str h
 eqBool:=λhu hv h=>by
  rcases vT hu with⟨i,t,rfl,rfl⟩|⟨x,t,rfl,rfl⟩
  .rcases vT hv with⟨j,u,rfl,rfl⟩|⟨y,u,rfl,rfl⟩
   .rw[MX]at h;exact wpAny_eqBool_int h
   rw[MZ]at h;exact SeqAt.EqAt.int_str i t y u _ _ _ _ h
  rcases vT hv with⟨j,u,rfl,rfl⟩|⟨y,u,rfl,rfl⟩
  .rw[G0]at h;exact SeqAt.EqAt.str_int x t j u _ _ _ _ h
  rw[MY]at h;exact wpAny_eqBool_str h
 «strs»:=λk x t v h=>by
  rcases vT h with⟨i,u,rfl,e⟩|⟨y,u,rfl,e⟩
  .exact nomatch e
  injection e with e1 _;subst e1;cases v<;>rfl
def Wp(prog)(w)(i)(t):(jd prog w).is (.inl i) (.int i t)=true:=MV i t
def Wq(prog)(w)(x)(t):(jd prog w).is (.inr x) (.str x t)=true:=MW x t
inductive V where
 | non|bl (b:Bool)|int (i:Int)|str (x:Str)|byt (b:Array UInt8)|flt (b:UInt64)|ref (a:Addr)|ty (n:String)
 deriving DecidableEq
def RelV:V->aa->Prop
 | .non,u=>u=Value.none
 | .bl b,u=>u=Value.bool b
 | .int i,u=>∃ t,u=Value.int i t
 | .str x,u=>∃ t,u=Value.str x t
 | .byt b,u=>∃ t,u=Value.bytes b t
 | .flt b,u=>∃ t,u=Value.float b t
 | .ref a,u=>u=Value.ref a
 | .ty n,u=>u=Value.type n
abbrev Vals:List V->List aa->Prop:=Paired RelV
def Vals.length(r:Vals xs us):xs[1]=us[1]:=dz r
theorem Vals.get:∀{xs} {us} {i:Nat} {x},Vals xs us->xs[i]?=!x->∃ u,us[i]?=!u/\RelV x u
 | _,_,_,_,.nil,e=>by simp at e
 | _,_,0,_,.cons r _,e=>by simp at e;subst e;exact#[_,rfl,r]
 | _,_,i+1,x,.cons _ t,e=>by
  obtain⟨u,h1,h2⟩:=Vals.get (i:=i) (x:=x) t e[""]
  exact#[u,by simpa using h1,h2]
theorem Vals.set(r:RelV x u):∀{xs} {us} i,Vals xs us->Vals (xs.set i x) (us.set i u)
 | _,_,_,.nil=>.nil
 | _,_,0,.cons _ t=>.cons r t
 | _,_,i+1,.cons q t=>.cons q (Vals.set r i t)
theorem Vals.append:∀{xs ys} {us ws},Vals xs us->Vals ys ws->Vals (xs++ys) (us++ws)
 | _,_,_,_,.nil,s=>s
 | _,_,_,_,.cons r t,s=>.cons r (Vals.append t s)
theorem Vals.take:∀{xs} {us} n,Vals xs us->Vals (xs.take n) (us.take n)
 | _,_,0,_=>.nil
 | _,_,_+1,.nil=>.nil
 | _,_,n+1,.cons r t=>.cons r (Vals.take n t)
theorem Vals.drop:∀{xs} {us} n,Vals xs us->Vals (xs.drop n) (us.drop n)
 | _,_,0,r=>r
 | _,_,_+1,.nil=>.nil
 | _,_,n+1,.cons _ t=>Vals.drop n t
def RelO:Option V->Option aa->Prop
 | some v,!u=>RelV v u
 | none,none=>True
 | _,_=>False
def KV{κ:Type}:List (κ×V)->List (κ×aa)->Prop:=Paired λ(p:κ×V) (q:κ×aa)=>p.1=q.1/\RelV p.2 q.2
def kV:Key->V
 | .inl i=>.int i
 | .inr x=>.str x
inductive HO where
 | lst (xs:List V)
 | tup (xs:List V)
 | dK (kvs:List (Key×V))|dT (kvs:List (List Key×V))
 | set (S:Int->Bool) (n:Nat)
 | ins (C dx:Addr) (fs:List (Str×V))
 | own (x:Addr)
 | xd (fs:List (Str×V))
 | met (f x:Addr)
 | rng (lo hi:Int)
 | frz (o:Obj) (u:HO)
 | tbl (ps:Array Value)
 | ext (φ:Heap->Prop)
abbrev Hp:=Addr->Option HO
def upd(H:Hp)(a:Addr)(o:HO):Hp:=λb=>if b=a then !o else H b
def qH:upd H a o a=!o:=by unfold upd;rw[if_pos rfl]
def qt{H:Hp}(h:b≠a):upd H a o b=H b:=by unfold upd;rw[if_neg h]
def Wr{H:Hp}(h:H a=!o)(h':H b=!u)(d:o≠u):a≠b:=by
 intro e;subst e;rw[h]at h';exact d (tG h')
def jG{H:Hp}(h:H a=!o)(h':H b=none):a≠b:=by
 intro e;subst e;rw[h]at h';cases h'
section
variable(P:af)(w:World)
def ObjOk(H:Hp)(h:Heap)(a:Addr):HO->Prop
 | .lst xs=>xs[1]<=sizeLine/\∃(its:List aa) (n:Nat),Vals xs its/\h.get? a=some {cls:=.type "list",data:=.seq its.toArray n}
 | .tup xs=>xs[1]<=sizeLine/\∃ its:List aa,Vals xs its/\IsTup h a its.toArray
 | .dK kvs=>kvs[1]<=sizeLine/\(a==sysModules)=false/\∃ vs,KV kvs vs/\h.DictOf (jd P w) a vs
 | .dT kvs=>kvs[1]<=sizeLine/\(a==sysModules)=false/\∃ xs:List (List Key×Addr×aa),
   Paired (λ(p:List Key×V) (q:List Key×Addr×aa)=>p.1=q.1/\H q.2.1=!(.tup (p.1.map kV))/\RelV p.2 q.2.2) kvs xs /\
   ∃ o es ep,h.get? a=!o/\o.ExactDict/\o.data=.dict es ep/\es[2]=xs.map (entryOfKey (tupleKind (jd P w)))/\(xs.map (·.1)).Nodup
 | .set S n=>h.SetOf (intKind P w) a S n
 | .ins C dx fs=>H dx=!(.own a)/\fs[1]<=1000/\dx≠a/\h.get? a=↑(PySem.W.instObj C dx) /\
   ∃ mA,h.Ns1 dx mA/\(∀ f,RelO (fs.lookup f) (mA f))/\PySem.Within mA (fs.map (·.1))
 | .own _=>∃ o,h.get? a=!o
 | .xd fs=>∃ mA,h.Ns1 a mA/\∀ f,RelO (fs.lookup f) (mA f)
 | .rng lo hi=>∃ t u v,h.get? a=some {cls:=.type "range",data:=.fields (List.toArray [.int lo t,.int hi u,.int 1 v])}
 | .frz o u=>h.get? a=!o/\ObjOk H h a u
 | .tbl ps=>h.get? a=some {cls:=.none,data:=.fields ps}
 | .met f x=>h.get? a=!(methodObj (.ref f) (.ref x))
 | .ext φ=>φ h/\(∃ o,h.get? a=!o)/\∀ h1 h2:Heap,φ h1->(∀ o,h1.get? a=!o->h2.get? a=!o)->φ h2
def HOk(H:Hp)(h:Heap):Prop:=∀ a o,H a=!o->ObjOk P w H h a o
end
section
variable{P:af}{w:World}{H H':Hp}{h h':Heap}{a:Addr}{o:HO}
def ObjOk.lt(x:ObjOk P w H h a o):a<h.objs.size:=by
 cases o with
 | lst xs=>obtain⟨_,_,_,_,e⟩:=x;exact gP e
 | tup xs=>obtain⟨_,_,_,p⟩:=x;exact p.lt
 | dK kvs=>obtain⟨_,_,_,_,o,_,_,e,_⟩:=x;exact gP e
 | dT kvs=>obtain⟨_,_,_,_,o,_,_,e,_⟩:=x;exact gP e
 | set S n=>obtain⟨o,_,_,_,e,_⟩:=x;exact gP e
 | ins C dx fs=>obtain⟨_,_,_,e,_⟩:=x;exact gP e
 | own y=>obtain⟨_,e⟩:=x;exact gP e
 | xd fs=>obtain⟨_,⟨_,_,_,e,_⟩,_⟩:=x;exact gP e
 | rng lo hi=>obtain⟨_,_,_,e⟩:=x;exact gP e
 | frz ob u=>obtain⟨e,_⟩:=x;exact gP e
 | tbl ps=>exact gP (show h.get? a=!_ from x)
 | met f y=>exact gP (show h.get? a=!_ from x)
 | ext φ=>obtain⟨_,⟨_,e⟩,_⟩:=x;exact gP e
theorem Paired.mapP:∀{l₁} {l₂},Paired F l₁ l₂->(∀ a b,F a b->G a b)->Paired G l₁ l₂
 | _,_,.nil,_=>.nil
 | _,_,.cons r t,f=>.cons (f _ _ r) (Paired.mapP t f)
def ObjOk.stay(x:ObjOk P w H h a o)(k:∀ b u,(b=a\/H b=!(.own a))->h.get? b=!u->h'.get? b=!u)
  (B:∀ b,H b=!(.own a)->H' b=!(.own a))(O:∀ b xs,H b=!(.tup xs)->H' b=!(.tup xs)):ObjOk P w H' h' a o:=by
 induction o with
 | lst xs=>obtain⟨z,its,n,r,e⟩:=x;exact#[z,its,n,r,k _ _ (.inl rfl) e]
 | tup xs=>obtain⟨z,its,r,ob,e,c⟩:=x;exact#[z,its,r,ob,k _ _ (.inl rfl) e,c]
 | dK kvs=>obtain⟨z,y,vs,r,ob,es,ep,e,c⟩:=x;exact#[z,y,vs,r,ob,es,ep,k _ _ (.inl rfl) e,c]
 | dT kvs =>
  obtain⟨z,y,xs,r,ob,es,ep,e,c⟩:=x;exact#[z,y,xs,Paired.mapP r λp q z=>#[z.1,O _ _ z.2.1,z.2.2],ob,es,ep,k _ _ (.inl rfl) e,c]
 | set S n=>obtain⟨ob,es,ep,t,e,c⟩:=x;exact#[ob,es,ep,t,k _ _ (.inl rfl) e,c]
 | ins C dx fs =>
  obtain⟨d,z,ne,e,mA,⟨od,es,ep,e2,c⟩,r⟩:=x;exact#[B _ d,z,ne,k _ _ (.inl rfl) e,mA,#[od,es,ep,k _ _ (.inr d) e2,c],r]
 | own y=>obtain⟨ob,e⟩:=x;exact#[ob,k _ _ (.inl rfl) e]
 | xd fs=>obtain⟨mA,⟨od,es,ep,e,c⟩,r⟩:=x;exact#[mA,#[od,es,ep,k _ _ (.inl rfl) e,c],r]
 | rng lo hi=>obtain⟨t,u,v,e⟩:=x;exact#[t,u,v,k _ _ (.inl rfl) e]
 | frz ob u ih=>obtain⟨e,q⟩:=x;exact#[k _ _ (.inl rfl) e,ih q]
 | tbl ps =>
  have e:h.get? a=some {cls:=.none,data:=.fields ps}:=x;show h'.get? a=some {cls:=.none,data:=.fields ps};exact k a _ (.inl rfl) e
 | met f y =>
  have e:h.get? a=!(methodObj (.ref f) (.ref y)):=x;show h'.get? a=!(methodObj (.ref f) (.ref y));exact k a _ (.inl rfl) e
 | ext φ=>obtain⟨p,⟨o,e⟩,st⟩:=x;exact#[st _ _ p λo q=>k _ _ (.inl rfl) q,#[o,k _ _ (.inl rfl) e],st]
def HOk.lt(x:HOk P w H h)(e:H a=!o):a<h.objs.size:=(x a o e).lt
def HOk.fresh(x:HOk P w H h)(e:h.objs.size<=a):H a=none:=by
 cases q:H a with
 | none=>rfl
 | some u=>exact absurd (tq (x.lt q) e) (pz _)
def HOk.kept(x:HOk P w H h)(k:∀ b u,h.get? b=!u->h'.get? b=!u):HOk P w H h':=λa o e =>
 (x a o e).stay (λb u _ q=>k b u q) (λ_ q=>q) λ_ _ q=>q
def HOk.laid(x:HOk P w H h)(k:∀ b u,h.get? b=!u->h'.get? b=!u)(hp:h.objs.size<=a)(z:ObjOk P w (upd H a o) h' a o):HOk P w (upd H a o) h':=λb u e=>by
 have hn:=x.fresh hp;by_cases hb:b=a
 .subst hb;rw[qH]at e;cases e;exact z
 rw[qt hb]at e;exact(x b u e).stay (λc v _ q=>k c v q) (λc q=>by rw[qt (jG q hn)];exact q) λc xs q=>by rw[qt (jG q hn)];exact q
end
def Rd(H:Hp)(a:Addr)(u:HO):Prop:=H a=!u\/∃ o,H a=!(.frz o u)
def Rd.ok(r:Rd H a u)(x:HOk P w H h):ObjOk P w H h a u:=by
 rcases r with r|⟨o,r⟩
 .exact x a u r
 obtain⟨_,q⟩:=x a _ r;exact q
def Mut:Option HO->Prop
 | some (.lst _)=>True
 | some (.dK _)=>True
 | some (.dT _)=>True
 | some (.set _ _)=>True
 | some (.ins _ _ _)=>True
 | some (.ext _)=>True
 | _=>False
section
variable{P:af}{w:World}{H:Hp}{h h':Heap}{x e:Addr}{o':HO}
def HOk.write(ok:HOk P w H h)(U:Mut (H x))(he:e=x\/H e=!(.own x))(k:∀ b u,b≠e->h.get? b=!u->h'.get? b=!u)(Y:∃ u,h'.get? e=!u)
  (Z:ObjOk P w (upd H x o') h' x o'):HOk P w (upd H x o') h':=λb u q=>by
 have B:∀ c y,H c=!(.own y)->c≠x:=λc y r z=>by subst z;rw[r]at U;exact U
 have O:∀ c xs,H c=!(.tup xs)->c≠x:=λc xs r z=>by subst z;rw[r]at U;exact U
 by_cases hb:b=x
 .subst hb;rw[qH]at q;cases q;exact Z
 rw[qt hb]at q;by_cases hbe:b=e
 .have q':H b=!(.own x):=by
   rcases he with z|z
   .exact absurd (hbe.trans z) hb
   rw[hbe];exact z
  rw[q]at q';cases q';obtain⟨v,hv⟩:=Y;exact#[v,by rw[hbe];exact hv]
 refine(ok b u q).stay (λc v hc r=>k c v ?_ r) (λc r=>by rw[qt (B c b r)];exact r) λc xs r=>by rw[qt (O c xs r)];exact r
 rcases hc with rfl|hc
 .exact hbe
 rintro rfl;rcases he with z|z
 .exact B c b hc z
 rw[hc]at z;cases z;exact hb rfl
end
structure Un(fs ex:List Addr)(H H':Hp)(h h':Heap):Prop where
 keep:∀ b o,h.get? b=!o->H b=none->b∉fs->b∉ex->h'.get? b=!o
 slot:∀ b o,h.get? b=!o->H b=none->b∈fs->b∉ex->∃ sl,h'.get? b=some {o with slots:=sl}
 free:∀ b o,h.get? b=!o->H b=none->b∉ex->H' b=none
 there:∀ b o,h.get? b=!o->b∉ex->∃ o',h'.get? b=!o'
 tups:∀ b xs,H b=!(.tup xs)->H' b=!(.tup xs)
 frzs:∀ b o u,H b=!(.frz o u)->H' b=!(.frz o u)
 tbls:∀ b ps,H b=!(.tbl ps)->∃ z,H' b=!(.tbl (ps++z))
section
variable{fs fs' ex ex':List Addr}{H H1 H2:Hp}{h h1 h2 h':Heap}{a x e:Addr}{o:HO}
def Un.any(u:Un fs ex H H1 h h1)(q:h.get? b=!ob)(n:H b=none)(z:b∉ex):∃ sl,h1.get? b=some {ob with slots:=sl}:=by
 by_cases hb:b∈fs
 .exact u.slot b ob q n hb z
 exact#[ob.slots,u.keep b ob q n hb z]
def Un.kept(k:∀ b u,h.get? b=!u->h'.get? b=!u):Un fs ex H H h h' :=
 #[λb ob q _ _ _=>k b ob q,λb ob q _ _ _=>#[ob.slots,k b ob q],λ_ _ _ n _=>n,λb ob q _=>#[ob,k b ob q],λ_ _ q=>q,λ_ _ _ q=>q,λ_ ps q=>#[#[],by rw[q];simp]]
def Un.refl:Un fs ex H H h h:=Un.kept λ_ _ q=>q
theorem Un.laid(k:∀ b u,h.get? b=!u->h'.get? b=!u)(hp:h.objs.size<=a)(z:H a=none):Un fs ex H (upd H a o) h h' where
 keep:=λb u q _ _ _=>k b u q
 slot:=λb u q _ _ _=>#[u.slots,k b u q]
 free:=λb u q n _=>by rw[qt (t3 (tq (gP q) hp))];exact n
 there:=λb u q _=>#[u,k b u q]
 tups:=λb xs q=>by rw[qt (jG q z)];exact q
 frzs:=λb u xs q=>by rw[qt (jG q z)];exact q
 tbls:=λb ps q=>#[#[],by rw[qt (jG q z),q];simp]
def Un.write(B:Mut (H x))(U:e=x\/H e=!(.own x))(k:∀ b u,b≠e->h.get? b=!u->h'.get? b=!u)(O:∃ u,h'.get? e=!u):Un fs ex H (upd H x o) h h':=by
 have hx:∀ b,H b=none->b≠x:=λb n z=>by subst z;rw[n]at B;exact B
 have hb:∀ b,H b=none->b≠e:=λb n z=>by
  subst z;rcases U with r|r
  .exact hx b n r
  rw[n]at r;cases r
 have hm:∀ b u,H b=!u->¬ Mut !u->b≠x:=λb u q nm z=>by subst z;rw[q]at B;exact nm B
 refine#[λb u q n _ _=>k b u (hb b n) q,λb u q n _ _=>#[u.slots,k b u (hb b n) q],λb u q n _=>by rw[qt (hx b n)];exact n,λb u q _=>?_,
  λb xs q=>by rw[qt (hm b _ q λz=>z)];exact q,λb u xs q=>by rw[qt (hm b _ q λz=>z)];exact q,λb ps q=>#[#[],by rw[qt (hm b _ q λz=>z),q];simp]]
 by_cases hbe:b=e
 .subst hbe;exact O
 exact#[u,k b u hbe q]
end
def trk(h:Heap)(H:Hp):List Addr:=(List.range h.objs.size).filter λa=>(H a).isSome
def wB(h:Heap)(H:Hp):Heap:=PySem.W.hideAll h (trk h H)
def G5(h)(H):(wB h H).objs.size=h.objs.size:=PySem.W.hideAll_size _ _
def G6{h:Heap}{H:Hp}(e:h.get? b=!o)(n:H b=none):(wB h H).get? b=↑o :=
 PySem.W.hideAll_get _ e λhm=>by
  have q:(H b).isSome=true:=(pH.mp hm).2;rw[n]at q;simp at q
def G7{h:Heap}{H:Hp}(e:(wB h H).get? b=!o):h.get? b=!o/\H b=none:=by
 have e':h.get? b=!o:=PySem.W.of_hideAll (trk h H) e;refine#[e',?_];cases q:H b with
 | none=>rfl
 | some x =>
  have hm:b∈trk h H:=pH.mpr #[dP.mpr (gP e'),by simp[q]]
  have z:(wB h H).get? b=none:=PySem.W.hideAll_none (trk h H) hm;rw[z]at e;cases e
structure Mod(K:Frag)(mg:Str->Option Value)(base:Heap):Prop where
 kin:K.In base
 glob:base.Ns mainGlobals mg
 blt:∃ mb,base.Ns builtinsNs mb/\∀ x:Str,x≠"__name__"->mb x=bootBuiltins x
 nolimit:base.NoLimit
structure Cx where
 prog:Program
 w:World
 K:Frag
 mg:Str->Option Value
 base:Heap
 A:Around
 N:List Str
 s₀:Shared
 H₀:Hp
 env:Env
 outer:List Env
 stack:List Env
 ex:List Addr
 fn:Str->Bool
 calm:Bool
 pn:List (Addr×Obj)
 xe:Value->Shared->Prop
def frs(l:List Env):List Addr:=l.filterMap (·.frame)
abbrev Cx.fs(X:Cx):List Addr:=frs X.outer
def Vis(z:Scope)(x:Str):Prop:=z.names.lookup x=some .local\/z.names.lookup x=some .cell\/z.names.lookup x=some .free
def Loc(z:Scope)(x:Str):Prop:=z.names.lookup x=some .local\/z.names.lookup x=some .cell
def Look(env:Env)(h:Heap)(m:Str->Option aa)(x:Str)(u:aa):Prop :=
 (env.kindOf x=some .local/\m x=!u)\/((env.kindOf x=some .cell\/env.kindOf x=some .free)/\∃ c,env.cells.lookup x=!c/\h.IsCell c !u)
structure Cx.Ok(X:Cx):Prop where
 mod:Mod X.K X.mg X.base
 kind:X.env.scope.kind=.function
 glob:X.env.globals=mainGlobals
 blt:X.env.builtins=builtinsNs
 above:X.s₀[0]<=X.env.locals
 inj:∀ x y c,X.env.cells.lookup x=!c->X.env.cells.lookup y=!c->x=y
 has:∀ x,(X.env.kindOf x=some .cell\/X.env.kindOf x=some .free)->∃ c,X.env.cells.lookup x=!c
 cab:∀ x c,X.fn x=true->X.env.cells.lookup x=!c->X.s₀[0]<=c
 hd:X.calm=true->X.A.handled=none
 frames:X.A.frames=!X.stack
 stk:X.stack=X.outer\/(X.stack=X.env::X.outer/\X.env.frame=!X.env.locals)
 exf:∀ b∈X.ex,b≠X.env.locals/\∀ x c,X.env.cells.lookup x=!c->c≠b
 bs:∀ b o,X.base.get? b=!o->X.s₀.heap.get? b=!o/\X.H₀ b=none
 bsz:X.base.objs.size<=X.s₀[0]
 noex:∀ b o,X.base.get? b=!o->b∉X.ex
 exfs:∀ b∈X.ex,b∉X.fs
 funs:X.s₀.heap.FunFrames X.base X.outer
 frf:∀ b∈X.fs,X.H₀ b=none
structure Inv(X:Cx)(pins:List (Addr×Obj))(σ:List (Option V))(H:Hp)(s:Shared):Prop where
 ok:X.Ok
 os:s.os=X.s₀.os
 bare:AllBare s.gens
 base:Un X.fs X.ex X.H₀ H X.s₀.heap s.heap
 loc:∃ m,s.heap.Ns X.env.locals m/\∀(i:Nat) (x:Str) (v:V),X.N[i]?=!x->σ[i]?=!(!v)->Vis X.env.scope x->∃ u,RelV v u/\Look X.env s.heap m x u
 cell:∀ x c,X.env.cells.lookup x=!c->∃ v,s.heap.IsCell c v
 free:H X.env.locals=none
 freeC:∀ x c,X.env.cells.lookup x=!c->H c=none
 pin:∀ p∈X.pn++pins,s.heap.get? p.1=!p.2/\H p.1=none/\p.1≠X.env.locals/\p.1∉X.fs/\∀ v,p.2.data≠.cell v
 hok:HOk X.prog X.w H s.heap
 len:σ.length=X.N.length
section
variable{X:Cx}{pins:List (Addr×Obj)}{σ:List (Option V)}{H H':Hp}{s:ab}{h':Heap}
def Cx.Ok.nofr(z:X.Ok)(e:X.base.get? b=!o):b∉X.fs:=λhb=>by
 have:=(z.funs.mem hb).1;rw[e]at this;cases this
def Inv.bs(I:"I" H s):∀ b o,X.base.get? b=!o->s.heap.get? b=!o/\H b=none:=λb o e =>
 #[I.base.keep b o (I.ok.bs b o e).1 (I.ok.bs b o e).2 (I.ok.nofr e) (I.ok.noex b o e),I.base.free b o (I.ok.bs b o e).1 (I.ok.bs b o e).2 (I.ok.noex b o e)]
def Inv.bk(I:"I" H s):∀ b o,X.base.get? b=!o->s.heap.get? b=!o:=λb o e=>(I.bs b o e).1
def Inv.mod(I:"I" H s):Mod X.K X.mg X.base:=I.ok.mod
def Inv.kIn(I:"I" H s):X.K.In s.heap:=I.ok.mod.kin.keeps I.bk
def Inv.lt(I:"I" H s):X.env.locals<s[0]:=let #[_,hn,_]:=I.loc;hn.lt
def Inv.sz(I:"I" H s):X.s₀[0]<=s[0]:=tV I.ok.above (cM I.lt)
def Inv.nofs(I:"I" H s)(h:s[0]<=a):a∉X.fs:=λhb=>by
 obtain⟨_,o,ho,_⟩:=I.ok.funs.mem hb;exact absurd (tq (gP ho) (tV I.sz h)) (pz _)
def Inv.cne(I:"I" H s):∀ x c,X.env.cells.lookup x=!c->c≠X.env.locals:=λx c e z=>by
 obtain⟨v,o,ho,hd⟩:=I.cell x c e;obtain⟨m,⟨o',es,ep,B,O,_⟩,_⟩:=I.loc;rw[z,B]at ho;cases ho;rw[O]at hd;cases hd
def Inv.funs(I:"I" H s):s.heap.FunFrames X.base X.outer:=by
 have B:∀(l:List Env),(∀ b∈frs l,b∈X.fs)->X.s₀.heap.FunFrames X.base l->s.heap.FunFrames X.base l:=by
  intro l
  induction l with
  | nil=>intro _ _;trivial
  | cons env r ih =>
   intro hs hl;obtain⟨hk,⟨L,o,hf,hn,ho,hd⟩,hr⟩:=hl;have hL:L∈X.fs:=hs L (by unfold frs;rw[bm,hf];exact tj)
   obtain⟨sl,e⟩:=I.base.slot L o ho (I.ok.frf L hL) hL λz=>I.ok.exfs L z hL
   exact#[hk,#[L,_,hf,hn,e,hd],ih (λb hb=>hs b (by unfold frs;rw[bm,hf];exact gj _ hb)) hr]
 exact B X.outer (λ_ hb=>hb) I.ok.funs
def Inv.stack(I:"I" H s):s.heap.FunFrames X.base X.stack:=by
 rcases I.ok.stk with e|⟨e,hf⟩
 .rw[e];exact I.funs
 rw[e];obtain⟨m,hn,_⟩:=I.loc;refine .cons (by rw[I.ok.kind];decide) hf hn ?_ I.funs
 exact Heap.get?_none_of_le (tV I.ok.bsz I.ok.above)
def Inv.stkSub(I:"I" H s):∀ b∈frs X.stack,b∈X.env.locals::X.fs:=λb hb=>by
 rcases I.ok.stk with e|⟨e,hf⟩
 .rw[e]at hb;exact gj _ hb
 rw[e]at hb;unfold frs at hb;rw[bm,hf]at hb;exact hb
def Inv.stkFree(I:"I" H s):∀ b∈frs X.stack,H b=none:=λb hb=>by
 rcases gE.mp (I.stkSub b hb)with e|hb
 .rw[e];exact I.free
 obtain⟨_,o,ho,_⟩:=I.ok.funs.mem hb;exact I.base.free b o ho (I.ok.frf b hb) λz=>I.ok.exfs b z hb
def Inv.step{d':Drawn}{ch:List Addr}(I:"I" H s)
  (B:∀ b∈ch,(b∈X.ex\/X.s₀[0]<=b)/\b≠X.env.locals/\(∀ x c,X.env.cells.lookup x=!c->c≠b)/\∀ p∈X.pn++pins,p.1≠b)
  (keep:∀ b o,b≠X.env.locals->b∉X.fs->b∉ch->s.heap.get? b=!o->H b=none->h'.get? b=!o)
  (slot:∀ b o,b≠X.env.locals->b∈X.fs->b∉ch->s.heap.get? b=!o->H b=none->∃ sl,h'.get? b=some {o with slots:=sl})(free:∀ b o,b∉ch->s.heap.get? b=!o->H b=none->H' b=none)
  (there:∀ b o,b∉ch->s.heap.get? b=!o->∃ o',h'.get? b=!o')
  (tups:∀ b xs,H b=!(.tup xs)->H' b=!(.tup xs))(frzs:∀ b o u,H b=!(.frz o u)->H' b=!(.frz o u))(tbls:∀ b ps,H b=!(.tbl ps)->∃ h3,H' b=!(.tbl (ps++h3)))
  (ns:∀ m,s.heap.Ns X.env.locals m->h'.Ns X.env.locals m)(hok:HOk X.prog X.w H' h')(hg:AllBare g') :
  "I" H' {s with heap:=h',gens:=g',drawn:=d',toks:=t'}:=by
 have Z:∀ b o,X.s₀.heap.get? b=!o->b≠X.env.locals:=λb o e=>t3 (tq (gP e) I.ok.above)
 have Y:∀ b o,X.s₀.heap.get? b=!o->b∉X.ex->b∉ch:=λb o e hx hb=>by
  rcases(B b hb).1 with z|z
  .exact hx z
  exact absurd (tq (gP e) z) (pz _)
 have O:∀ x c,X.env.cells.lookup x=!c->∀ v,s.heap.IsCell c v->h'.IsCell c v:=λx c e v #[o,ho,hd]=>by
  have U:c∉ch:=λz=>(B c z).2.2.1 x c e rfl
  by_cases hc:c∈X.fs
  .obtain⟨sl,q⟩:=slot c o (I.cne x c e) hc U ho (I.freeC x c e);exact#[_,q,hd]
  exact#[o,keep c o (I.cne x c e) hc U ho (I.freeC x c e),hd]
 refine#[I.ok,I.os,hg,#[λb o e n hb hx=>?_,λb o e n hb hx=>?_,λb o e n hx=>?_,λb o e hx=>?_,λb xs e=>tups b xs (I.base.tups b xs e),λb o xs e=>frzs b o xs (I.base.frzs b o xs e),λb ps e=>?_],?_,λx c e=>?_,?_,λx c e=>?_,λp hp=>?_,hok,I.len]
 .exact keep b o (Z b o e) hb (Y b o e hx) (I.base.keep b o e n hb hx) (I.base.free b o e n hx)
 .obtain⟨sl,e1⟩:=I.base.slot b o e n hb hx;obtain⟨sl',e2⟩:=slot b _ (Z b o e) hb (Y b o e hx) e1 (I.base.free b o e n hx);exact#[sl',e2]
 .obtain⟨o',e1⟩:=I.base.there b o e hx;exact free b o' (Y b o e hx) e1 (I.base.free b o e n hx)
 .obtain⟨o',e1⟩:=I.base.there b o e hx;exact there b o' (Y b o e hx) e1
 .obtain⟨m1,e1⟩:=I.base.tbls b ps e;obtain⟨m2,e2⟩:=tbls b _ e1;exact#[m1++m2,by rw[e2,Array.append_assoc]]
 .obtain⟨m,hn,hl⟩:=I.loc;refine#[m,ns m hn,λi x v e1 e2 e3=>?_]
  obtain⟨u,r,l⟩:=hl i x v e1 e2 e3;refine#[u,r,?_];rcases l with l|⟨k,c,e,z⟩
  .exact .inl l
  exact .inr #[k,c,e,O x c e _ z]
 .obtain⟨v,z⟩:=I.cell x c e;exact#[v,O x c e v z]
 .obtain⟨m,⟨o,_,_,ho,_⟩,_⟩:=I.loc;exact free _ o (λz=>(B _ z).2.1 rfl) ho I.free
 .obtain⟨v,o,ho,hd⟩:=I.cell x c e;exact free c o (λz=>(B c z).2.2.1 x c e rfl) ho (I.freeC x c e)
 obtain⟨e,n,ne,nf,d⟩:=I.pin p hp;have U:p.1∉ch:=λz=>(B p.1 z).2.2.2 p hp rfl
 exact#[keep p.1 p.2 ne nf U e n,free p.1 p.2 U e n,ne,nf,d]
def Inv.un(I:"I" H s)(u:Un X.fs [] H H' s.heap h')(O:HOk X.prog X.w H' h'):"I" H' {s with heap:=h',toks:=t'}:=by
 obtain⟨m,⟨o,es,ep,ho,r⟩,_⟩:=id I.loc;obtain⟨sl,hL⟩:=u.any ho I.free "s"
 exact I.step (g':=s.gens) (d':=s.drawn) (ch:=[]) (λ_ z=>nomatch z) (λb o _ hb _ e n=>u.keep b o e n hb "s") (λb o _ hb _ e n=>u.slot b o e n hb "s") (λb o _ e n=>u.free b o e n "s") (λb o _ e=>u.there b o e "s") u.tups u.frzs u.tbls (λm' hm=>by
  obtain⟨o',U,Y,B,r'⟩:=hm;rw[ho]at B;cases B;exact#[_,U,Y,hL,r']) O I.bare
def Inv.call{d':Drawn}{ch:List Addr}(I:"I" H s)(u:Un (frs X.stack) ch H H' s.heap h')(U:HOk X.prog X.w H' h')(hg:AllBare g')
  (B:∀ b∈ch,(b∈X.ex\/X.s₀[0]<=b)/\b≠X.env.locals/\(∀ x c,X.env.cells.lookup x=!c->c≠b)/\∀ p∈X.pn++pins,p.1≠b) :
  "I" H' {s with heap:=h',gens:=g',drawn:=d',toks:=t'}:=by
 obtain⟨m,⟨o,es,ep,ho,r⟩,_⟩:=id I.loc;obtain⟨sl,hL⟩:=u.any ho I.free λz=>(B _ z).2.1 rfl
 exact I.step (ch:=ch) B (λb o hL hb hc e n=>u.keep b o e n (λz=>(gE.mp (I.stkSub b z)).elim hL hb) hc) (λb o _ _ hc e n=>u.any e n hc) (λb o hc e n=>u.free b o e n hc) (λb o hc e=>u.there b o e hc) u.tups u.frzs u.tbls (λm' hm=>by
  obtain⟨o',Y,Z,O,r'⟩:=hm;rw[ho]at O;cases O;exact#[_,Y,Z,hL,r']) U hg
def Inv.turned{it:Addr}(I:"I" H s)(k:∀ b o,b≠it->s.heap.get? b=!o->h'.get? b=!o)(U:H it=none)(O:it≠X.env.locals)
  (h1:it∈X.ex\/X.s₀[0]<=it)(h2:∀ x c,X.env.cells.lookup x=!c->c≠it)(Y:∀ p∈X.pn++pins,p.1≠it):"I" H {s with heap:=h',toks:=t'}:=by
 have B:∀ b u,H b=!u->b≠it:=λb u e z=>by rw[z,U]at e;cases e
 refine I.step (g':=s.gens) (d':=s.drawn) (ch:=[it]) (λb hb=>?_) (λb o _ _ hc e _=>k b o (λz=>hc (by simp[z])) e) (λb o _ _ hc e _=>#[o.slots,k b o (λz=>hc (by simp[z])) e]) (λ_ _ _ _ n=>n)
  (λb o hc e=>#[o,k b o (λz=>hc (by simp[z])) e]) (λ_ _ e=>e) (λ_ _ _ e=>e) (λb ps e=>#[#[],by rw[e];simp]) (λm hm=>?_) (λb u e=>?_) I.bare
 .have e:b=it:=by simpa using hb
  subst e;exact#[h1,O,h2,Y]
 .obtain⟨o,es,ep,ho,r⟩:=hm;exact#[o,es,ep,k _ o (t9 O) ho,r]
 refine(I.hok b u e).stay (λc v hc q=>k c v ?_ q) (λ_ q=>q) λ_ _ q=>q
 rcases hc with z|z
 .rw[z];exact B b u e
 exact B c _ z
def Inv.tok(I:"I" H s)(t):"I" H {s with toks:=t}:=I.un (h':=s.heap) (t':=t) Un.refl I.hok
def Inv.kept(I:"I" H s)(k:∀ b u,s.heap.get? b=!u->h'.get? b=!u):"I" H {s with heap:=h',toks:=t'}:=I.un (Un.kept k) (I.hok.kept k)
def Inv.laid(I:"I" H s)(k:∀ b u,s.heap.get? b=!u->h'.get? b=!u)(hp:s[0]<=a)(z:ObjOk X.prog X.w (upd H a o) h' a o) :
  "I" (upd H a o) {s with heap:=h',toks:=t'}:=I.un (Un.laid k hp (I.hok.fresh hp)) (I.hok.laid k hp z)
def Inv.write(I:"I" H s)(O:Mut (H x))(U:e=x\/H e=!(.own x))(k:∀ b u,b≠e->s.heap.get? b=!u->h'.get? b=!u)(z:∃ u,h'.get? e=!u)
  (B:ObjOk X.prog X.w (upd H x o) h' x o):"I" (upd H x o) {s with heap:=h',toks:=t'}:=I.un (Un.write O U k z) (I.hok.write O U k z B)
def Inv.pins_of(I:"I" H s)(h:∀ p∈pins',s.heap.get? p.1=!p.2/\H p.1=none/\p.1≠X.env.locals/\p.1∉X.fs/\∀ v,p.2.data≠.cell v):Inv X pins' σ H s :=
 #[I.ok,I.os,I.bare,I.base,I.loc,I.cell,I.free,I.freeC,λp hp=>(gD.mp hp).elim (λz=>I.pin p (t5 _ z)) (h p),I.hok,I.len]
def Ws{N:List Str}(z:N.Nodup){i j:Nat}(a:N[i]?=!x)(b:N[j]?=!x):i=j:=by
 obtain⟨h1,e1⟩:=gp.mp a;obtain⟨h2,e2⟩:=gp.mp b;exact(List.getElem_inj z).mp (e1.trans e2.symm)
def JR{i:Nat}{Q:Unit->ab->Prop}(I:"I" H s)(hN:X.N.Nodup)(hi:X.N[i]?=!x)(O:Loc X.env.scope x)(r:RelV v u)
  (h:∀ s',Inv X pins (σ.set i !v) H s'->(∃ a,Heap.SameBut a s.heap s'.heap/\(a=X.env.locals\/X.env.cells.lookup x=!a))->Q () s')(hf:(X.fn x=true\/X.env.scope.names.lookup x=some .local)["t"]):wpAny M A (storeName X.env x u) Q E s:=by
 obtain⟨m,hn,hl⟩:=id I.loc;have h3:(X.env.scope.kind==.class||(X.env.scope.kind==.module&&X.env.locals != X.env.globals))=false:=by rw[I.ok.kind];rfl
 have Y:i<σ.length:=by rw[I.len];exact(gp.mp hi).1
 have cne:=I.cne;have B:∀{a:Addr} {h':Heap},(∃ o,s.heap.get? a=!o/\H a=none)->Heap.SameBut a s.heap h'->HOk X.prog X.w H h':=λ{a h'} ha hs b ob e=>by
  obtain⟨_,_,U⟩:=ha;refine(I.hok b ob e).stay (λc w' hc q=>(hs.2 c ?_).trans q) (λ_ q=>q) λ_ _ q=>q
  rintro rfl;rcases hc with rfl|hc
  .rw[U]at e;cases e
  rw[U]at hc;cases hc
 rcases O with hk|hk
 .refine wpAny_storeName_local hk hn (λh' hn' hs=>?_) h3
  obtain⟨oL,_,_,hoL,_⟩:=id hn;refine h _ #[I.ok,I.os,I.bare,#[λb o e n hb O=>?_,λb o e n hb O=>?_,I.base.free,λb o e O=>?_,I.base.tups,I.base.frzs,I.base.tbls],#[_,hn',λj y v' e1 e2 e3=>?_],λy c e=>?_,I.free,I.freeC,λp hp=>?_,B #[oL,hoL,I.free] hs,by simpa using I.len] #[_,hs,.inl rfl]
  .exact(hs.2 b (t3 (tq (gP e) I.ok.above))).trans (I.base.keep b o e n hb O)
  .obtain⟨sl,e1⟩:=I.base.slot b o e n hb O;exact#[sl,(hs.2 b (t3 (tq (gP e) I.ok.above))).trans e1]
  .obtain⟨o',e1⟩:=I.base.there b o e O;exact#[o',(hs.2 b (t3 (tq (gP e) I.ok.above))).trans e1]
  .by_cases hj:j=i
   .subst hj;rw[hi]at e1;cases e1;rw[List.getElem?_set_self Y]at e2;cases e2;exact#[u,r,.inl #[hk,by simp]]
   rw[h9 (t9 hj)]at e2;obtain⟨u',r',q⟩:=hl j y v' e1 e2 e3;refine#[u',r',?_];rcases q with⟨k,e⟩|⟨k,c,e,z⟩
   .refine .inl #[k,?_];have:y≠x:=λe=>hj (Ws hN e1 (e▸hi))
    simp[this,e]
   exact .inr #[k,c,e,z.sameBut hs (cne y c e)]
  .obtain⟨w',z⟩:=I.cell y c e;exact#[w',z.sameBut hs (cne y c e)]
  obtain⟨e,n,ne,nf,d⟩:=I.pin p hp;exact#[(hs.2 p.1 ne).trans e,n,ne,nf,d]
 have Z:X.fn x=true:=by
  rcases hf with z|z
  .exact z
  rw[z]at hk;cases hk
 obtain⟨c,hc⟩:=I.ok.has x (.inl hk);obtain⟨w',z⟩:=I.cell x c hc;refine wpAny_storeName_cell I.ok.kind hk hc z (λh' hc' hs=>?_)
 obtain⟨oc,hoc,h4⟩:=id z;refine h {s with heap:=h'} #[I.ok,I.os,I.bare,#[λb o e n hb O=>?_,λb o e n hb O=>?_,I.base.free,λb o e O=>?_,I.base.tups,I.base.frzs,I.base.tbls],#[m,hn.sameBut hs (t9 (cne x c hc)),λj y v' e1 e2 e3=>?_],λy c' e=>?_,I.free,I.freeC,λp hp=>?_,B #[oc,hoc,I.freeC x c hc] hs,by simpa using I.len] #[c,hs,.inr hc]
 .exact(hs.2 b (t3 (tq (gP e) (I.ok.cab x c Z hc)))).trans (I.base.keep b o e n hb O)
 .obtain⟨sl,e1⟩:=I.base.slot b o e n hb O;exact#[sl,(hs.2 b (t3 (tq (gP e) (I.ok.cab x c Z hc)))).trans e1]
 .obtain⟨o',e1⟩:=I.base.there b o e O;exact#[o',(hs.2 b (t3 (tq (gP e) (I.ok.cab x c Z hc)))).trans e1]
 .by_cases hj:j=i
  .subst hj;rw[hi]at e1;cases e1;rw[List.getElem?_set_self Y]at e2;cases e2;exact#[u,r,.inr #[.inl hk,c,hc,hc']]
  rw[h9 (t9 hj)]at e2;obtain⟨u',r',q⟩:=hl j y v' e1 e2 e3;refine#[u',r',?_];rcases q with q|⟨k,c',e,z'⟩
  .exact .inl q
  refine .inr #[k,c',e,z'.sameBut hs ?_];rintro rfl;exact hj (Ws hN e1 (I.ok.inj _ _ _ e hc▸hi))
 .by_cases hcc:c'=c
  .subst hcc;exact#[_,hc']
  obtain⟨w2,z2⟩:=I.cell y c' e;exact#[w2,z2.sameBut hs hcc]
 obtain⟨e,n,ne,nf,d⟩:=I.pin p hp;refine#[(hs.2 p.1 ?_).trans e,n,ne,nf,d];intro q;rw[q,hoc]at e;have q':oc=p.2:=tG e;exact d w' (by rw[<- q'];exact h4)
def xD{i:Nat}{Q:Unit->ab->Prop}(I:"I" H s)(z:X.N.Nodup)(hi:X.N[i]?=!x)(B:Loc X.env.scope x)(r:RelV v u)
  (h:∀ s',Inv X pins (σ.set i !v) H s'->Q () s')(O:(X.fn x=true\/X.env.scope.names.lookup x=some .local)["t"]):wpAny M A (storeName X.env x u) Q E s :=
 JR I z hi B r (λs' I' _=>h s' I') O
def Inv.call'(I:"I" H s)(O:s'.os=s.os)(u:Un (frs X.stack) ch H H' s.heap s'.heap)(z:HOk X.prog X.w H' s'.heap)(U:AllBare s'.gens)
  (B:∀ b∈ch,(b∈X.ex\/X.s₀[0]<=b)/\b≠X.env.locals/\(∀ x c,X.env.cells.lookup x=!c->c≠b)/\∀ p∈X.pn++pins,p.1≠b):"I" H' s':=by
 obtain⟨h',g',d',t',o'⟩:=s';have e:o'=s.os:=O;subst e;exact I.call (g':=g') (t':=t') (d':=d') u z U B
end
abbrev XK:=aa->Option Addr->Hp->Prop
abbrev St:=List (Option V)
abbrev VK:=V->Hp->Prop
abbrev TE:=St->Hp->VK->Prop
abbrev TT:=St->Hp->(Bool->Hp->Prop)->Prop
abbrev TA:=St->Hp->(List V->Hp->Prop)->Prop
structure Ends where
 nx:St->Hp->Prop
 rt:VK
 bk:St->Hp->Prop:=λ_ _=>False
 ct:St->Hp->Prop:=λ_ _=>False
abbrev TS:=Ends->St->Hp->Prop
def EP(X:Cx)(pins:List (Addr×Obj))(σ:St)(Q:VK)(u:aa)(s':ab):Prop:=∃ v H',"I" H' s'/\RelV v u/\Q v H'
def TP(X:Cx)(pins:List (Addr×Obj))(σ:St)(Q:Bool->Hp->Prop)(b:Bool)(s':ab):Prop:=∃ H',"I" H' s'/\Q b H'
def AP(X:Cx)(pins:List (Addr×Obj))(σ:St)(Q:List V->Hp->Prop)(us:List aa)(s':ab):Prop:=∃ vs H',"I" H' s'/\Vals vs us/\Q vs H'
def SP(X:Cx)(pins:List (Addr×Obj))(D:Ends)(f:Flow)(s':ab):Prop :=
 match f with
 | .next=>∃ z H',Inv X pins z H' s'/\D.nx z H'
 | .brk=>∃ z H',Inv X pins z H' s'/\D.bk z H'
 | .cont=>∃ z H',Inv X pins z H' s'/\D.ct z H'
 | .ret u=>∃ v z H',Inv X pins z H' s'/\RelV v u/\D.rt v H'
def PE(X:Cx)(e:Expr)(t:TE):Prop :=
 ∀(pins:List (Addr×Obj)) (s:ab) (σ:St) (H:Hp) (Q:VK),"I" H s->t σ H Q->X[3] (eval e X.env) (EP X pins σ Q) X.xe s
def PT(X:Cx)(e:Expr)(t:TT):Prop :=
 ∀(pins:List (Addr×Obj)) (s:ab) (σ:St) (H:Hp) (Q:Bool->Hp->Prop),"I" H s->t σ H Q->X[3] (isTrue e X.env (eval e X.env)) (TP X pins σ Q) X.xe s
def PA(X:Cx)(es:List Expr)(t:TA):Prop :=
 ∀(pos:Pos) (pins:List (Addr×Obj)) (s:ab) (σ:St) (H:Hp) (Q:List V->Hp->Prop),"I" H s->t σ H Q->X[3] (spliced (backTo pos (starEach es X.env))) (AP X pins σ Q) X.xe s
def PS(X:Cx)(st:Stmt)(t:TS):Prop :=
 ∀(pins:List (Addr×Obj)) (s:ab) (σ:St) (H:Hp) (D:Ends),"I" H s->t D σ H->X[3] (exec st X.env) (SP X pins D) X.xe s
def PSs(X:Cx)(st:List Stmt)(t:TS):Prop :=
 ∀(pins:List (Addr×Obj)) (s:ab) (σ:St) (H:Hp) (D:Ends),"I" H s->t D σ H->X[3] (execs st X.env) (SP X pins D) X.xe s
def thn{M:Model}{A:ag}{E:aa->ab->Prop}{s:ab}(h:wpAny M A t Q E s)(z:∀ a s,Q a s->Q' a s):wpAny M A t Q' E s:=c6 h z λ_ _ x=>x
section
variable{X:Cx}
def Q5(i:Nat):TE:=λσ H Q=>∃ v,σ[i]?=!(!v)/\Q v H
def tC(v:V):TE:=λ_ H Q=>Q v H
def Wt{i:Nat}(O:X.N[i]?=!x)(U:Vis X.env.scope x)(hd:((x==("__debug__"))=false)["d"])(B:((x==("__classdict__"))=false)["d"]):PE X (.Name x pos) (Q5 i):=by
 intro pins s σ H Q I h;obtain⟨v,e,h⟩:=h;obtain⟨m,hn,hl⟩:=I.loc;obtain⟨u,r,l⟩:=hl i x v O e U;have fin:EP X pins σ Q u s:=#[v,H,I,r,h];rcases l with⟨hk,hm⟩|⟨hk,c,hc,z⟩
 .exact wpAny_Name (wpAny_loadName_local I.ok.kind hk hn hm fin) hd
 rcases hk with hk|hk
 .exact wpAny_Name (wpAny_loadName_cell I.ok.kind hk hc z fin) hd
 exact wpAny_Name (wpAny_loadName_free I.ok.kind hk hc z fin B) hd
def G8{i j pos}:PE X (.Constant i[6] j pos) (tC i[6]):=λ_ _ _ H _ I h=>wpAny_Constant_int #[.int i,H,I.tok _,#[_,rfl],h]
def G9{b j pos}:PE X (.Constant (.bool b) j pos) (tC (.bl b)):=λ_ _ _ H _ I h=>Constant_bool #[.bl b,H,I,rfl,h]
def Ga{j pos}:PE X (.Constant .none j pos) (tC .non):=λ_ _ _ H _ I h=>Constant_none #[.non,H,I,rfl,h]
def Gb{x j pos}:PE X (.Constant (.str x) j pos) (tC (.str x)):=λ_ _ _ H _ I h=>Calls.Constant_str #[.str x,H,I.tok _,#[_,rfl],h]
def Gl(X:Cx)(x:Str):Prop:=X.env.kindOf x=some .globalImplicit
def JS{Q:aa->ab->Prop}(I:"I" H s)(z:Gl X x)(B:X.mg x=!u)(h:Q u s)
  (hd:((x==("__debug__"))=false)["d"]):X[3] (eval (.Name x pos) X.env) Q E s :=
 Calls.Name_function_global I.ok.kind z (Calls.loadGlobal_global (by rw[I.ok.glob];exact I.mod.glob.keeps I.bk) B h) hd
def zD{E:aa->ab->Prop}{Q:aa->ab->Prop}(I:"I" H s)(z:Gl X x)(B:X.mg x=none)(O:bootBuiltins x=!u)(h:Q u s)
  (U:(x≠"__name__")["d"])(hd:((x==("__debug__"))=false)["d"]):X[3] (eval (.Name x pos) X.env) Q E s:=by
 obtain⟨mb,h1,h2⟩:=I.mod.blt;exact Calls.Name_function_global I.ok.kind z (Calls.loadGlobal_builtin (by rw[I.ok.glob];exact I.mod.glob.keeps I.bk) B (by rw[I.ok.blt];exact h1.keeps I.bk) ((h2 x U).trans O) h) hd
def Gc(z:Gl X x)(B:X.mg x=!u)(r:RelV v u)(hd:((x==("__debug__"))=false)["d"]):PE X (.Name x pos) (tC v) :=
 λ_ _ _ H _ I h=>JS I z B #[v,H,I,r,h] hd
variable{a b:Expr}{ta tb:TE}{pos:Pos}
def Wu(b)(h:op≠.In)(h2:op≠.NotIn):behindInMarks op b=false:=by
 have e1:(op==CmpOp.In)=false:=by cases op<;>first|rfl|exact absurd rfl h
 have e2:(op==CmpOp.NotIn)=false:=by cases op<;>first|rfl|exact absurd rfl h2
 cases b<;>simp[behindInMarks,e1,e2]
variable{tA tB':TT}{rest:List Expr}
end
def SqL(K:Frag)(H:Hp)(a:Addr)(xs:List V):Prop :=
 Rd H a (.lst xs) \/
  ∃(o:Obj) (its:Array aa) (n:Nat),K.lookup a=!o/\o.cls=.type "list"/\o.dict=none/\o.data=.seq its n/\its.size<=sizeLine/\Vals xs its[2]
def SqT(K:Frag)(H:Hp)(a:Addr)(xs:List V):Prop :=
 Rd H a (.tup xs) \/
  ∃(o:Obj) (its:Array aa) (n:Nat),K.lookup a=!o/\o.cls=.type "tuple"/\o.data=.seq its n/\its.size<=sizeLine/\Vals xs its[2]
def Gd:aa->Option V
 | .none=>some .non
 | .bool b=>!(.bl b)
 | .int i _=>!i[6]
 | .str x _=>!(.str x)
 | .bytes b _=>!(.byt b)
 | .float b _=>!(.flt b)
 | .ref a=>!(.ref a)
 | .type n=>!(.ty n)
 | _=>none
def RelV.abs(r:RelV x u):Gd u=!x:=by
 cases x with
 | non=>cases r;rfl
 | bl _=>cases r;rfl
 | int _=>obtain⟨t,rfl⟩:=r;rfl
 | str _=>obtain⟨t,rfl⟩:=r;rfl
 | byt _=>obtain⟨t,rfl⟩:=r;rfl
 | flt _=>obtain⟨t,rfl⟩:=r;rfl
 | ref _=>cases r;rfl
 | ty _=>cases r;rfl
def RelV.inj(r:RelV x u)(q:RelV y u):x=y:=tG (r.abs.symm.trans q.abs)
theorem Vals.inj:∀{xs ys} {us},Vals xs us->Vals ys us->xs=ys
 | _,_,_,.nil,.nil=>rfl
 | _,_,_,.cons r t,.cons r' t'=>by rw[r.inj r',Vals.inj t t']
section
variable{X:Cx}{pins:List (Addr×Obj)}{σ:St}{H:Hp}{s:ab}{a:Addr}{xs ys:List V}
def SqL.of{K:Frag}(h:H a=!(.lst xs)):SqL K H a xs:=.inl (.inl h)
def SqT.of{K:Frag}(h:H a=!(.tup xs)):SqT K H a xs:=.inl (.inl h)
def Inv.list(I:"I" H s)(h:SqL X.K H a xs):∃ its,Vals xs its/\PlainL s.heap a its.toArray/\xs[1]<=sizeLine:=by
 rcases h with h|⟨o,its,n,hk,hc,hd,hs,hz,r⟩
 .obtain⟨z,its,n,r,e⟩:=h.ok I.hok;exact#[its,r,#[_,n,e,rfl,rfl,rfl],z]
 refine#[its[2],r,#[o,n,I.kIn a o hk,hc,hd,by simpa using hs],?_]
 have e:=r[1];simp only[p7]at e;lia
def Inv.tuple(I:"I" H s)(h:SqT X.K H a xs):∃ its,Vals xs its/\IsTup s.heap a its.toArray/\xs[1]<=sizeLine:=by
 rcases h with h|⟨o,its,n,hk,hc,hs,hz,r⟩
 .obtain⟨z,its,r,p⟩:=h.ok I.hok;exact#[its,r,p,z]
 refine#[its[2],r,#[o,I.kIn a o hk,hc,n,by simpa using hs],?_]
 have e:=r[1];simp only[p7]at e;lia
def Inv.list_inj(I:"I" H s)(h:SqL X.K H a xs)(h':SqL X.K H a ys):xs=ys:=by
 obtain⟨its,r,⟨o,n,e,_,_,d⟩,_⟩:=I.list h;obtain⟨its',r',⟨o',n',e',_,_,d'⟩,_⟩:=I.list h';rw[e]at e';cases e';rw[d]at d';injection d' with d1 _;have:its=its':=by simpa using congrArg Array.toList d1
 subst this;exact r.inj r'
def Inv.tuple_inj(I:"I" H s)(h:SqT X.K H a xs)(h':SqT X.K H a ys):xs=ys:=by
 obtain⟨its,r,⟨o,e,_,n,d⟩,_⟩:=I.tuple h;obtain⟨its',r',⟨o',e',_,n',d'⟩,_⟩:=I.tuple h';rw[e]at e';cases e';rw[d]at d';injection d' with d1 _;have:its=its':=by simpa using congrArg Array.toList d1
 subst this;exact r.inj r'
end
abbrev Cx.wish(X:Cx)(E:aa->ab->Prop):Cx:={X with xe:=E}
abbrev Cx.nox(X:Cx):Cx:=X.wish λ_ _=>False
def Cx.Ok.wish{X:Cx}(z:X.Ok)(E):(X.wish E).Ok :=
 #[z.mod,z.kind,z.glob,z.blt,z.above,z.inj,z.has,z.cab,z.hd,z.frames,z.stk,z.exf,z.bs,z.bsz,z.noex,z.exfs,z.funs,z.frf]
def Cx.Ok.unwish{X:Cx}{E:aa->ab->Prop}(z:(X.wish E).Ok):X.Ok :=
 #[z.mod,z.kind,z.glob,z.blt,z.above,z.inj,z.has,z.cab,z.hd,z.frames,z.stk,z.exf,z.bs,z.bsz,z.noex,z.exfs,z.funs,z.frf]
section
variable{X:Cx}{pins:List (Addr×Obj)}{σ:St}{H:Hp}{s:ab}{E:aa->ab->Prop}
def Inv.wish(I:"I" H s)(E):Inv (X.wish E) pins σ H s:=#[I.ok.wish E,I.os,I.bare,I.base,I.loc,I.cell,I.free,I.freeC,I.pin,I.hok,I.len]
def Inv.unwish(I:Inv (X.wish E) pins σ H s):"I" H s:=#[I.ok.unwish,I.os,I.bare,I.base,I.loc,I.cell,I.free,I.freeC,I.pin,I.hok,I.len]
def SP.unwish(h:SP (X.wish E) pins D f s'):SP X pins D f s':=by
 cases f with
 | next=>obtain⟨z,H',I,q⟩:=h;exact#[z,H',I.unwish,q]
 | brk=>obtain⟨z,H',I,q⟩:=h;exact#[z,H',I.unwish,q]
 | cont=>obtain⟨z,H',I,q⟩:=h;exact#[z,H',I.unwish,q]
 | ret u=>obtain⟨v,z,H',I,r,q⟩:=h;exact#[v,z,H',I.unwish,r,q]
def PSs.nox{st:List Stmt}(h:PSs X.nox st t):PSs X st t:=λpins s σ H D I hw =>
 c6 (h pins s σ H D (I.wish _) hw) (λ_ _ q=>q.unwish) λ_ _ z=>False.elim z
end
section
variable{X:Cx}{st:Stmt}{rest:List Stmt}{t u:TS}{e:Expr}{te:TE}{pos:Pos}
def Inv.quiet(I:"I" H s):interactive X.env=false:=by simp[interactive,I.ok.kind]
def Ge(te:TE):TS:=λD σ H=>te σ H λ_ H1=>D.nx σ H1
def xE(z:PE X e te)(B:(swapsWith e none pos.line X.env=pure false)["r"]):PS X (.Expr e pos) (Ge te):=by
 intro pins s σ H D I h;exact wpAny_Expr_any (thn (z pins s σ H _ I h) λv s1 #[x,H1,I1,r1,q1]=>#[σ,H1,I1,q1]) I.quiet B
def Gf(te:TE):TS:=λD σ H=>te σ H D.rt
def Gg(z:PE X e te):PS X (.Return ↑e pos) (Gf te):=by
 intro pins s σ H D I h;exact bM (thn (z pins s σ H _ I h) λv s1 #[x,H1,I1,r1,q1]=>#[x,σ,H1,I1,r1,q1])
end
abbrev TG:=V->St->Hp->(St->Hp->Prop)->Prop
abbrev TGs:=List V->St->Hp->(St->Hp->Prop)->Prop
def PG(X:Cx)(z:Expr)(t:TG):Prop :=
 ∀(pins:List (Addr×Obj)) (s:ab) (σ:St) (H:Hp) (v:V) (u:aa) (Q:St->Hp->Prop),"I" H s->RelV v u->t v σ H Q ->
  X[3] (assign z X.env u) (λ_ s'=>∃ B H',Inv X pins B H' s'/\Q B H') X.xe s
def PGs(X:Cx)(B:List Expr)(t:TGs):Prop :=
 ∀(pins:List (Addr×Obj)) (s:ab) (σ:St) (H:Hp) (vs:List V) (us:List aa) (Q:St->Hp->Prop),"I" H s->Vals vs us->t vs σ H Q ->
  X[3] (assignInOrder ((assignEach B X.env).map (·.2)) us) (λ_ s'=>∃ z H',Inv X pins z H' s'/\Q z H') X.xe s
abbrev TSet:=V->V->V->Hp->(Hp->Prop)->Prop
def PSet(X:Cx)(t:TSet):Prop :=
 ∀(pins:List (Addr×Obj)) (s:ab) (σ:St) (H:Hp) (o i v:V) (ov iv u:aa) (Q:Hp->Prop),"I" H s->RelV o ov->RelV i iv->RelV v u->t o i v H Q ->
  X[3] (setItem ov iv u) (λ_ s'=>∃ H',"I" H' s'/\Q H') X.xe s
abbrev TIp:=V->V->Hp->VK->Prop
def PIp(X:Cx)(op:Operator)(t:TIp):Prop :=
 ∀(pins:List (Addr×Obj)) (s:ab) (σ:St) (H:Hp) (x y:V) (v u:aa) (Q:VK),"I" H s->RelV x v->RelV y u->t x y H Q ->
  X[3] (inplaceOp op v u) (EP X pins σ Q) X.xe s
section
variable{X:Cx}{pos:Pos}
def Gh(i:Nat):TG:=λv σ H Q=>Q (σ.set i !v) H
def Wv{i:Nat}(z:X.N.Nodup)(hi:X.N[i]?=!x)(B:Loc X.env.scope x)(O:(X.fn x=true\/X.env.scope.names.lookup x=some .local)["t"]):PG X (.Name x pos) (Gh i):=by
 intro pins s σ H v u Q I r h;exact bN (xD I z hi B r (λs' I'=>#[_,H,I',h]) O)
def Gi:TGs:=λvs σ H Q=>vs=[]/\Q σ H
def Gj(t:TG)(u:TGs):TGs:=λvs σ H Q=>∃ v r,vs=v::r/\t v σ H λz H'=>u r z H' Q
def Gm:PGs X [] Gi:=by
 intro pins s σ H vs us Q I r h;obtain⟨e,h⟩:=h;subst e;cases r;exact assignInOrder_nil #[σ,H,I,h]
def Gn{t:TG}{u:TGs}(h1:PG X e t)(h2:PGs X es u)
  (z:((assignEach (e::es) X.env).map (·.2)=assign e X.env::(assignEach es X.env).map (·.2))["r"]):PGs X (e::es) (Gj t u):=by
 intro pins s σ H vs us Q I r h;obtain⟨v,vr,e1,h⟩:=h;subst e1;cases r with
 | cons r rr =>
  rw[z];refine assignInOrder_cons (thn (h1 pins s σ H _ _ _ I r h) λ_ s1 #[σ1,H1,I1,q1]=>?_)
  exact h2 pins s1 σ1 H1 _ _ Q I1 rr q1
def Go(K:Frag)(n:Nat)(t:TGs):TG:=λv σ H Q=>∃ a xs,v=.ref a/\SqT K H a xs/\xs[1]=n/\t xs σ H Q
def Gp{k:Nat}{n:Nat}(B:X.calm=true)(h:PGs X es t)
  (O:((assignEach es X.env)[1]=n)["r"])(z:((assignEach es X.env).findIdx? (·.1)=none)["r"]):PG X (.Tuple es k pos) (Go X.K n t):=by
 intro pins s σ H v u Q I r hw;obtain⟨a,xs,e1,hq,hl,hw⟩:=hw;subst e1;cases r;obtain⟨its,rv,ht,hz⟩:=I.tuple hq;refine assign_Tuple_tuple (I.ok.hd B) ht (by simp[O,<- hl,rv[1]]) z λh' hx=>?_
 have I1:"I" H {s with heap:=h'}:=I.kept (t':=s.toks) λb o e=>hx b o (t3 (gP e)) e
 exact h pins _ σ H xs _ Q I1 rv[""] hw
def Gq(to z:TE)(t:TSet):TG:=λv σ H Q=>to σ H λo H1=>z σ H1 λi H2=>t o i v H2 λH3=>Q σ H3
def Gs{to z:TE}{t:TSet}(B:PE X o to)(hi:PE X i z)(O:PSet X t)
  (U:∀ v,assign (.Subscript o i pos) X.env v=(do
   let ov <- holding [v] (eval o X.env)
   let iv <- holding [v,ov] (eval i X.env)
   standAt pos
   holding [v,ov,iv] (setItem ov iv v)
   release [v,ov,iv] []):=by intro _;rfl):PG X (.Subscript o i pos) (Gq to z t):=by
 intro pins s σ H v u Q I r h;rw[U];refine g6 (fB (thn (B pins s σ H _ I h) λov s1 #[x,H1,I1,r1,q1]=>?_))
 refine g6 (fB (thn (hi pins s1 σ H1 _ I1 q1) λiv s2 #[y,H2,I2,r2,q2]=>?_))
 refine g6 (bT (g6 (fB (thn (O pins s2 σ H2 x y v ov iv u _ I2 r1 r2 r q2) λ_ s3 #[H3,I3,q3]=>?_))))
 exact wpAny_release #[σ,H3,I3,q3]
def Gu(te:TE)(g:TG):TS:=λD σ H=>te σ H λx H1=>g x σ H1 D.nx
def Gv{tg e:Expr}{te:TE}{g:TG}(z:PE X e te)(B:PG X tg g)(O:(swapsWithSole [tg] e pos.line X.env=pure false)["r"])(U:(swappedStores [tg] e X.env=pure none)["r"])
  (h1:((assignEach [tg] X.env).map (·.2)=[assign tg X.env])["r"]):PS X (.Assign [tg] e pos) (Gu te g):=by
 intro pins s σ H D I h;refine wpAny_Assign_stores (thn (z pins s σ H _ I h) λv s1 #[x,H1,I1,r1,q1]=>?_) O U
 rw[h1];exact thn (B pins s1 σ H1 x v _ I1 r1 q1) λ_ s2 q=>q
def Gw(i:Nat)(te:TE)(B:TIp):TS:=λD σ H=>∃ x,σ[i]?=!(!x)/\te σ H λy H1=>B x y H1 λz H2=>D.nx (σ.set i !z) H2
def Gx(Z:X.N.Nodup)(hi:X.N[i]?=!x)(U:Loc X.env.scope x)(he:PE X e te)(ho:PIp X op ti)(hf:(X.fn x=true\/X.env.scope.names.lookup x=some .local)["t"]) :
  PS X (.AugAssign (.Name x pos') op e pos) (Gw i te ti):=by
 intro pins s σ H D I h;obtain⟨v,e1,h⟩:=h;obtain⟨m,hn,hl⟩:=I.loc;have Y:Vis X.env.scope x:=by rcases U with k|k;exact .inl k;exact .inr (.inl k)
 obtain⟨u,r,l⟩:=hl i x v hi e1 Y;refine wpAny_AugAssign_Name ?_;have go:X[3] (eval e X.env) (λw s₂=>X[3] (inplaceOp op u w) (λr O=>X[3] (storeName X.env x r) (λ_=>SP X pins D .next) X.xe O) X.xe s₂) X.xe s:=by
  refine thn (he pins s σ H _ I h) λw s1 #[y,H1,I1,r1,q1]=>?_
  refine thn (ho pins s1 σ H1 v y u w _ I1 r r1 q1) λz s2 #[zv,H2,I2,r2,q2]=>?_
  exact xD I2 Z hi U r2 (λs3 I3=>#[_,H2,I3,q2]) hf
 rcases l with⟨hk,hm⟩|⟨hk,c,hc,B⟩
 .exact wpAny_loadName_local I.ok.kind hk hn hm go
 rcases hk with hk|hk
 .exact wpAny_loadName_cell I.ok.kind hk hc B go
 rcases U with k|k
 .have:X.env.scope.names.lookup x=some .free:=hk;rw[k]at this;cases this
 have:X.env.scope.names.lookup x=some .free:=hk;rw[k]at this;cases this
def Gy(c:TT)(tb:TS):TS:=λD σ H=>∃ W:Nat->St->Hp->Prop,(∃ m,W m σ H)/\∀ m σ H,W m σ H ->
 c σ H λb H1=>if b=true then ∃ N:St->Hp->Prop,(∀ z H',N z H'->∃ m',m'<m/\W m' z H')/\tb {D with nx:=N,ct:=N,bk:=D.nx} σ H1 else D.nx σ H1
def Gz{tc:TT}{tb:TS}(hp:PassesOwn (model X.prog X.w) X.A X.env X.xe)(O:PT X c tc)(U:PSs X body tb):PS X (.While c body [] pos) (Gy tc tb):=by
 intro pins s σ H D I h;obtain⟨W,⟨m0,w0⟩,turn⟩:=h;refine wpAny_While (codeAny_whileLoop (λn s'=>∃ B H',Inv X pins B H' s'/\W n B H') ?_ m0 #[σ,H,I,w0])
 rintro n s1 ⟨σ1,H1,I1,w1⟩;refine c9 hp (thn (O pins s1 σ1 H1 _ I1 (turn n σ1 H1 w1)) λb s2 #[H2,I2,q2]=>?_)
 cases b with
 | true =>
  obtain⟨N,hN,q2⟩:=q2;rw[if_pos rfl];refine c9 hp (thn (U pins s2 σ1 H2 _ I2 q2) λf s3 q3=>?_)
  cases f with
  | next =>
   obtain⟨z,H3,I3,n3⟩:=q3;obtain⟨m',hm,w3⟩:=hN z H3 n3;exact#[m',hm,z,H3,I3,w3]
  | cont =>
   obtain⟨z,H3,I3,n3⟩:=q3;obtain⟨m',hm,w3⟩:=hN z H3 n3;exact#[m',hm,z,H3,I3,w3]
  | brk=>exact q3
  | ret v=>exact q3
 | false =>
  rw[if_neg pQ];exact bn #[σ1,H2,I2,q2]
end
structure It where
 go:Nat->Hp->Prop
 yld:Nat->Hp->V->Hp->Prop
 stop:Nat->Hp->Prop
def FpOk(X:Cx)(pins:List (Addr×Obj))(H:Hp)(b:Addr):Prop :=
 H b=none/\b≠X.env.locals/\b∉X.fs/\(b∈X.ex\/X.s₀[0]<=b)/\(∀ x c,X.env.cells.lookup x=!c->c≠b)/\∀ p∈X.pn++pins,p.1≠b
def Inv.fpOk{H H':Hp}{s:ab}(I:"I" H s)(B:s[0]<=b)(O:H' b=none):FpOk X pins H' b:=by
 refine#[O,pR (tq I.lt B),I.nofs B,.inr (tV I.sz B),λx c e z=>?_,λp hp z=>?_]
 .obtain⟨v,q⟩:=I.cell x c e;exact absurd (tq q.lt (by rw[z];exact B)) (pz _)
 exact absurd (tq (gP (I.pin p hp).1) (by rw[z];exact B)) (pz _)
structure Turn(P:Program)(w:World)(K:Frag)(tg:Expr)(J:It)(fp:List Addr)(it:Addr)(tn:Nat->Heap->Prop):Prop where
 mem:it∈fp
 obj:∀ i h,tn i h->∀ b∈fp,∃ o,h.get? b=!o/\∀ v,o.data≠.cell v
 keep:∀ i h h',tn i h->(∀ b∈fp,∀ o,h.get? b=!o->h'.get? b=!o)->tn i h'
 item:∀(X:Cx),X.prog=P->X.w=w->X.K=K->X.calm=true->∀(i:Nat) (pins:List (Addr×Obj)) (s:Shared) (σ:St) (H:Hp) (E:Value->Shared->Prop),"I" H s->(∀ b∈fp,FpOk X pins H b)->tn i s.heap->J.go i H ->
  wpAny (model P w) X.A (pyNext (.ref it)) (λr s1=>∃ u,r=↑u /\
   wpAny (model P w) X.A (letOwnedTupleGo tg (.ref it) u) (λ_ s2=>∃ x H',"I" H' s2/\RelV x u/\J.yld i H x H'/\tn (i+1) s2.heap/\∀ b∈fp,H' b=none) E s1) E s
 done:∀(X:Cx),X.prog=P->X.w=w->X.K=K->X.calm=true->∀(i:Nat) (pins:List (Addr×Obj)) (s:Shared) (σ:St) (H:Hp) (E:Value->Shared->Prop),"I" H s->(∀ b∈fp,FpOk X pins H b)->tn i s.heap->J.stop i H ->
  wpAny (model P w) X.A (pyNext (.ref it)) (λr s1=>r=none/\"I" H s1) E s
 self:∀(A:Around) (i:Nat) (s:Shared) (Q:Value->Shared->Prop) (E:Value->Shared->Prop),tn i s.heap->Q (.ref it) s->wpAny (model P w) A (pyIter (.ref it)) Q E s
abbrev TI:=St->Hp->(It->Hp->Prop)->Prop
def PIE(X:Cx)(pins:List (Addr×Obj))(σ:St)(tg:Expr)(R:It->Hp->Prop)(z:aa)(B:ab):Prop :=
 ∃(it:Addr) (fp:List Addr) (tn:Nat->Heap->Prop) (J:It) (H':Hp),z=.ref it/\"I" H' B/\Turn X.prog X.w X.K tg J fp it tn/\tn 0 B.heap/\(∀ b∈fp,FpOk X pins H' b)/\R J H'
def PI(X:Cx)(tg iter:Expr)(z:TI):Prop :=
 ∀(pins:List (Addr×Obj)) (s:ab) (σ:St) (H:Hp) (R:It->Hp->Prop),"I" H s->z σ H R ->
  X[3] (eval iter X.env) (λv s1=>X[3] (pyIter v) (PIE X pins σ tg R) X.xe s1) X.xe s
def yf{s:ab}{o:Obj}{Q:Unit->ab->Prop}(B:s.heap.get? it=!o)(O:o.cls=.type n)(hd:o.data=.fields vs)
    (U:["enumerate","zip","dict_itemiterator","dict_reverseitemiterator","odict_iterator","itertools.zip_longest","itertools.pairwise"].contains n=false)(z:Q () s):wpAny M A (letOwnedTupleGo tg (.ref it) u) Q E s:=by
  unfold letOwnedTupleGo;cases tg<;>first
    | exact gu z
    | (cases u<;>first
        | exact gu z
        | (refine g6 (wpAny_load B ?_)
           rw[O,hd];show wpAny M A (if (["enumerate","zip","dict_itemiterator","dict_reverseitemiterator","odict_iterator","itertools.zip_longest","itertools.pairwise"].contains n&&vs[0]?==!(rawInt _))=true then _ else _) Q E s
           rw[if_neg (by intro h;rw[U,bJ]at h;cases h)]
           exact gu z))
def Itl(K:Frag)(a:Addr):It :=
 #[λi H=>∃ xs x,SqL K H a xs/\xs[i]?=!x,λi H x H'=>H'=H/\∀ xs,SqL K H a xs->xs[i]?=!x,λi H=>∃ xs,SqL K H a xs/\xs[1]<=i]
def Itt(K:Frag)(a:Addr):It :=
 #[λi H=>∃ xs x,SqT K H a xs/\xs[i]?=!x,λi H x H'=>H'=H/\∀ xs,SqT K H a xs->xs[i]?=!x,λi H=>∃ xs,SqT K H a xs/\xs[1]<=i]
def Itr(lo:Int)(n:Nat):It:=#[λi _=>i<n,λi H x H'=>H'=H/\x=.int (lo+i),λi _=>n<=i]
def GA{K:Frag}(a it:Addr):Turn P w K tg (Itl K a) [it] it (λi h=>h.IsListIter it a i)where
 mem:=by simp
 obj:=λi h st b hb=>by
  have e:b=it:=by simpa using hb
  subst e;obtain⟨o,e,c,d⟩:=st;exact#[o,e,λv z=>by rw[d]at z;cases z]
 keep:=λi h h' st k=>st.at λo e=>k it "s" o e
 item:=by
  intro X hP hw hK hc i pins s σ H E I hf st hg;subst hP hw hK;obtain⟨xs,x,hq,hx⟩:=hg;obtain⟨its,rv,p,hz⟩:=I.list hq;obtain⟨u,hu,ru⟩:=rv.get hx;obtain⟨f0,f1,f2,f3,f4,f5⟩:=hf it "s"
  refine wpAny_pyNext_list_item st p.isList (x:=u) hu[""] λh' B sb=>?_
  have I1:"I" H {s with heap:=h'}:=I.turned (t':=s.toks) (λb o hb e=>(sb.2 b hb).trans e) f0 f1 f3 f4 f5
  obtain⟨o,e,c,d⟩:=id B;exact#[u,rfl,yf (s:={s with heap:=h'}) e c d "d" #[x,H,I1,ru,#[rfl,λys hy=>by rw[I.list_inj hy hq];exact hx],B,λb hb=>(hf b hb).1]]
 done:=by
  intro X hP hw hK hc i pins s σ H E I hf st hg;subst hP hw hK;obtain⟨xs,hq,hx⟩:=hg;obtain⟨its,rv,p,hz⟩:=I.list hq;obtain⟨f0,f1,f2,f3,f4,f5⟩:=hf it "s"
  have hl:=rv[1];exact wpAny_pyNext_list_end (I.ok.hd hc) st p.isList (by simp;lia) λh' eb=>#[rfl,I.turned (t':=s.toks) (λb o hb e=>eb b o hb e) f0 f1 f3 f4 f5]
 self:=λ_ _ _ _ _ st h=>wpAny_pyIter_listiter st h
def GB{K:Frag}(a it:Addr):Turn P w K tg (Itt K a) [it] it (λi h=>h.IsTupleIter it a i)where
 mem:=by simp
 obj:=λi h st b hb=>by
  have e:b=it:=by simpa using hb
  subst e;obtain⟨o,e,c,d⟩:=st;exact#[o,e,λv z=>by rw[d]at z;cases z]
 keep:=λi h h' st k=>st.at λo e=>k it "s" o e
 item:=by
  intro X hP hw hK hc i pins s σ H E I hf st hg;subst hP hw hK;obtain⟨xs,x,hq,hx⟩:=hg;obtain⟨its,rv,p,hz⟩:=I.tuple hq;obtain⟨u,hu,ru⟩:=rv.get hx;obtain⟨f0,f1,f2,f3,f4,f5⟩:=hf it "s"
  refine wpAny_pyNext_tuple_item st (show s.heap.IsTuple a its.toArray from p) (x:=u) hu[""] λh' B sb=>?_
  have I1:"I" H {s with heap:=h'}:=I.turned (t':=s.toks) (λb o hb e=>(sb.2 b hb).trans e) f0 f1 f3 f4 f5
  obtain⟨o,e,c,d⟩:=id B;exact#[u,rfl,yf (s:={s with heap:=h'}) e c d "d" #[x,H,I1,ru,#[rfl,λys hy=>by rw[I.tuple_inj hy hq];exact hx],B,λb hb=>(hf b hb).1]]
 done:=by
  intro X hP hw hK hc i pins s σ H E I hf st hg;subst hP hw hK;obtain⟨xs,hq,hx⟩:=hg;obtain⟨its,rv,p,hz⟩:=I.tuple hq;obtain⟨f0,f1,f2,f3,f4,f5⟩:=hf it "s"
  have hl:=rv[1];exact wpAny_pyNext_tuple_end (I.ok.hd hc) st (show s.heap.IsTuple a its.toArray from p) (by simp;lia) λh' eb=>#[rfl,I.turned (t':=s.toks) (λb o hb e=>eb b o hb e) f0 f1 f3 f4 f5]
 self:=λ_ _ _ _ _ st h=>wpAny_pyIter_tupleiter st h
def GC{K:Frag}(it:Addr)(lo:Int)(n:Nat):Turn P w K tg (Itr lo n) [it] it (λi h=>IsRangeIter h it (lo+(i:Nat)*1) ((n:Int)-(i:Nat)) 1)where
 mem:=by simp
 obj:=λi h st b hb=>by
  have e:b=it:=by simpa using hb
  subst e;exact#[_,st,λv z=>by
   have z':Data.fields _=Data.cell v:=z;cases z']
 keep:=λi h h' st k=>k it "s" _ st
 item:=by
  intro X hP hw hK hc i pins s σ H E I hf st hg;subst hP hw hK;obtain⟨f0,f1,f2,f3,f4,f5⟩:=hf it "s"
  have W:=Walks.range (prog:=X.prog) (w:=X.w) (I.ok.hd hc) it lo 1 n;refine W.item i s _ _ hg st λv h' tk hv B kk=>?_
  obtain⟨t,rfl⟩:=hv;have I1:"I" H {s with heap:=h',toks:=tk}:=I.turned (λb o hb e=>kk b o hb[""] e) f0 f1 f3 f4 f5
  refine#[_,rfl,yf (s:={s with heap:=h',toks:=tk}) (n:="range_iterator") B rfl rfl "d" #[.int (lo+i),H,I1,#[t,?_],#[rfl,rfl],B,λb hb=>(hf b hb).1]]
  rw[Int.mul_one]
 done:=by
  intro X hP hw hK hc i pins s σ H E I hf st hg;subst hP hw hK;obtain⟨f0,f1,f2,f3,f4,f5⟩:=hf it "s"
  exact wpAny_pyNext_range_end (I.ok.hd hc) st (by have:n<=i:=hg;lia) λh' eb=>#[rfl,I.turned (t':=s.toks) (λb o hb e=>eb b o hb e) f0 f1 f3 f4 f5]
 self:=λ_ _ _ _ _ st h=>wpAny_pyIter_rangeiter st h
section
variable{X:Cx}{tg:Expr}
def Ww(K:Frag)(tl:TE):TI:=λσ H R=>tl σ H λx H1=>∃ a,x=.ref a/\(∃ xs,SqL K H1 a xs)/\R (Itl K a) H1
def Wx(K:Frag)(tl:TE):TI:=λσ H R=>tl σ H λx H1=>∃ a,x=.ref a/\(∃ xs,SqT K H1 a xs)/\R (Itt K a) H1
def JT(z:PE X l tl):PI X tg l (Ww X.K tl):=by
 intro pins s σ H R I h;refine thn (z pins s σ H _ I h) λv s1 #[x,H1,I1,r1,q1]=>?_
 obtain⟨a,e,⟨xs,hq⟩,q⟩:=q1;subst e;cases r1;obtain⟨its,rv,p,hz⟩:=I1.list hq;refine wpAny_pyIter_list p.isList ?_;refine#[s1[0],[s1[0]],_,_,H1,rfl,I1.kept (t':=s1.toks) λb o e=>gq _ e,GA a _,#[_,gM _ rfl,rfl,rfl],λb hb=>?_,q]
 have e:b=s1[0]:=by simpa using hb
 subst e;exact I1.fpOk (gy _) (I1.hok.fresh (gy _))
def JU(z:PE X l tl):PI X tg l (Wx X.K tl):=by
 intro pins s σ H R I h;refine thn (z pins s σ H _ I h) λv s1 #[x,H1,I1,r1,q1]=>?_
 obtain⟨a,e,⟨xs,hq⟩,q⟩:=q1;subst e;cases r1;obtain⟨its,rv,p,hz⟩:=I1.tuple hq;refine bB (show s1.heap.IsTuple a its.toArray from p) ?_
 refine#[s1[0],[s1[0]],_,_,H1,rfl,I1.kept (t':=s1.toks) λb o e=>gq _ e,GB a _,#[_,gM _ rfl,rfl,rfl],λb hb=>?_,q]
 have e:b=s1[0]:=by simpa using hb
 subst e;exact I1.fpOk (gy _) (I1.hok.fresh (gy _))
def Wy{s:ab}{R:It->Hp->Prop}{E:aa->ab->Prop}{lo hi:Int}{tk:Nat}(I:"I" H s)(h1:-(2 ^ 62)<=lo)(h2:lo<2 ^ 62)(z:-(2 ^ 62)<=hi)(B:hi<2 ^ 62)
  (q:R (Itr lo (hi-lo).toNat) H):X[3] (pyIter (.ref s[0])) (PIE X pins σ tg R) E {s with heap:=s.heap.push {cls:=.type "range",data:=.fields (List.toArray [.int lo t,.int hi u,.int 1 v])},toks:=tk}:=by
 refine wpAny_pyIter_range (IsRange.new ..) (small_one h1 h2 z B) ?_;have I1:"I" H {s with heap:=s.heap.push {cls:=.type "range",data:=.fields (List.toArray [.int lo t,.int hi u,.int 1 v])},toks:=tk}:=I.kept λb o e=>gq _ e
 refine#[(s.heap.push {cls:=.type "range",data:=.fields (List.toArray [.int lo t,.int hi u,.int 1 v])}).objs.size,[(s.heap.push {cls:=.type "range",data:=.fields (List.toArray [.int lo t,.int hi u,.int 1 v])}).objs.size],_,_,H,rfl,
  I1.kept (t':=tk) λb o e=>gq _ e,GC _ lo (hi-lo).toNat,?_,λb hb=>?_,q]
 .have e1:lo+((0:Nat):Int)*1=lo:=by simp
  have e2:(((hi-lo).toNat:Nat):Int)-((0:Nat):Int)=Builtin.Range.rangeSize lo hi 1:=by rw[rangeSize_one];split<;>lia
  show IsRangeIter _ _ (lo+((0:Nat):Int)*1) ((((hi-lo).toNat:Nat):Int)-((0:Nat):Int)) 1;rw[e1,e2];exact gM _ rfl
 have e:b=(s.heap.push {cls:=.type "range",data:=.fields (List.toArray [.int lo t,.int hi u,.int 1 v])}).objs.size:=by simpa using hb
 subst e;exact I1.fpOk (gy _) (I1.hok.fresh (gy _))
def GD(ta:TA):TI:=λσ H R=>ta σ H λvs H1=>∃ j:Int,vs=[.int j]/\-(2 ^ 62)<=j/\j<2 ^ 62/\R (Itr 0 j.toNat) H1
def GG(ta:TA):TI:=λσ H R=>ta σ H λvs H1=>∃ i j:Int,vs=[.int i,.int j]/\(-(2 ^ 62)<=i/\i<2 ^ 62/\-(2 ^ 62)<=j/\j<2 ^ 62)/\R (Itr i (j-i).toNat) H1
def GH(z:Gl X "range")(B:X.mg "range"=none)(O:PA X [a] ta)(U:(starEach [a] X.env=[(false,eval a X.env)])["r"]):PI X tg (.Call (.Name "range" p) [a] [] pos) (GD ta):=by
 intro pins s σ H R I h;refine Call_ (zD I z B boot_range (tu (thn (O pos pins s σ H _ I h) λus s1 #[vs,H1,I1,r1,q1]=>?_) U rfl))
 obtain⟨j,e,q1,q2,q⟩:=q1;subst e;cases r1 with
 | cons r rr =>
  cases rr;obtain⟨t,rfl⟩:=r;exact call_range_1 (Wy I1 "" "" q1 q2 q[""])
def GI{p pos:Pos}(B:Gl X "range")(O:X.mg "range"=none)(U:PA X [a,b] ta)(Y:(starEach [a,b] X.env=[(false,eval a X.env),(false,eval b X.env)])["r"])(z:(starEach [b] X.env=[(false,eval b X.env)])["r"]) :
  PI X tg (.Call (.Name "range" p) [a,b] [] pos) (GG ta):=by
 intro pins s σ H R I h;refine Call_ (zD I B O boot_range (tu (thn (U pos pins s σ H _ I h) λus s1 #[vs,H1,I1,r1,q1]=>?_) (by rw[Y,z]) (by rw[z];rfl)))
 obtain⟨i,j,e,⟨q1,q2,q3,q4⟩,q⟩:=q1;subst e;cases r1 with
 | cons r rr =>
  cases rr with
  | cons r' rr =>
   cases rr;obtain⟨t,rfl⟩:=r;obtain⟨t',rfl⟩:=r';exact call_range_2 (Wy I1 q1 q2 q3 q4 q)
def GJ(O:TI)(g:TG)(tb:TS):TS:=λD σ H=>O σ H λJ H1=>∃ W:Nat->Nat->St->Hp->Prop,(∃ m,W 0 m σ H1)/\∀ i m σ H,W i m σ H ->
 (J.stop i H/\D.nx σ H)\/(J.go i H/\∃ N:St->Hp->Prop,(∀ z H',N z H'->∃ m',m'<m/\W (i+1) m' z H')/\∀ x H',J.yld i H x H'->g x σ H' λB H2=>tb {D with nx:=N,ct:=N,bk:=D.nx} B H2)
def xF(fp:List Addr)(h:Heap):List (Addr×Obj):=fp.filterMap λb=>(h.get? b).map λo=>(b,o)
def Q6(z:b∈fp)(e:h.get? b=!o):(b,o)∈xF fp h:=List.mem_filterMap.mpr #[b,z,by rw[e];rfl]
def GK(hp:p∈xF fp h):p.1∈fp/\h.get? p.1=!p.2:=by
 obtain⟨b,hb,e⟩:=List.mem_filterMap.mp hp;cases q:h.get? b with
 | none=>rw[q]at e;cases e
 | some o =>
  rw[q]at e;have e':(b,o)=p:=tG e;subst e';exact#[hb,q]
def Inv.pinned{s:ab}(I:"I" H s)(B:∀ b∈fp,FpOk X pins H b)(O:∀ b∈fp,∃ o,s.heap.get? b=!o/\∀ v,o.data≠.cell v):Inv X (pins++xF fp s.heap) σ H s :=
 I.pins_of λp hp=>(gD.mp hp).elim (λz=>I.pin p (tf _ z)) λz=>by
  obtain⟨hb,e⟩:=GK z;obtain⟨f0,f1,f2,_⟩:=B p.1 hb;obtain⟨o,e',d⟩:=O p.1 hb;rw[e]at e';cases e';exact#[e,f0,f1,f2,d]
def Inv.unpinned(I:Inv X (pins++pl) σ H s):"I" H s:=I.pins_of λp hp=>I.pin p (tf _ (t5 _ hp))
def GL{wi:TI}{g:TG}{tb:TS}{pos:Pos}(hp:PassesOwn (model X.prog X.w) X.A X.env X.xe)(hc:X.calm=true)(hi:PI X tg iter wi)(hg:PG X tg g)(B:PSs X body tb)
  (hs:∀ x,foldedSetIterable iter X.env x=pure x:=by intro _;rfl):PS X (.For tg iter body [] pos) (GJ wi g tb):=by
 intro pins s σ H D I h;refine wpAny_For (thn (hi pins s σ H _ I h) λv s1 h1=>thn h1 λitv s2 h2=>?_) hs
 obtain⟨it,fp,tn,J,H2,e,I2,T,st2,f2,W,⟨m0,w0⟩,turn⟩:=h2;subst e;have O:∀{H':Hp},(∀ b∈fp,H' b=none)->∀ b∈fp,FpOk X pins H' b:=λhn b B=>#[hn b B,(f2 b B).2]
 refine codeAny_forLoop_any (λn s'=>∃ i Y H',Inv X pins Y H' s'/\tn i s'.heap/\(∀ b∈fp,H' b=none)/\W i n Y H') ?_ m0 #[0,σ,H2,I2,st2,λb B=>(f2 b B).1,w0]
 rintro n s3 ⟨i,σ3,H3,I3,st3,fr3,w3⟩;rcases turn i n σ3 H3 w3 with⟨stop,qn⟩|⟨go,N,hN,step⟩
 .refine c9 hp (thn (T.done X rfl rfl rfl hc i pins s3 σ3 H3 X.xe I3 (O fr3) st3 stop) λr s4 #[hr,I4]=>?_)
  subst hr;exact bn #[σ3,H3,I4,qn]
 refine c9 hp (thn (T.item X rfl rfl rfl hc i pins s3 σ3 H3 X.xe I3 (O fr3) st3 go) λr s4 #[u,hr,h4]=>?_)
 subst hr;refine c9 hp (thn h4 λ_ s5 #[x,H5,I5,r5,y5,st5,fr5]=>?_)
 have Z:=I5.pinned (O fr5) (T.obj _ _ st5);refine c9 hp (thn (hg _ s5 σ3 H5 x u _ Z r5 (step x H5 y5)) λ_ s6 #[σ6,H6,I6,q6]=>?_)
 refine c9 hp (thn (B _ s6 σ6 H6 _ I6 q6) λf s7 q7=>?_)
 have U:∀{z:St} {H7:Hp},Inv X (pins++xF fp s5.heap) z H7 s7->N z H7->∃ m,m<n/\∃ i Y H',Inv X pins Y H' s7/\tn i s7.heap/\(∀ b∈fp,H' b=none)/\W i m Y H':=λ{z H7} I7 n7=>by
  obtain⟨m',hm,w7⟩:=hN z H7 n7;refine#[m',hm,i+1,z,H7,I7.unpinned,T.keep _ _ _ st5 λb B o e=>(I7.pin (b,o) (tf _ (tf _ (Q6 B e)))).1,λb B=>?_,w7]
  obtain⟨o,e,d⟩:=T.obj _ _ st5 b B;exact(I7.pin (b,o) (tf _ (tf _ (Q6 B e)))).2.1
 cases f with
 | next=>obtain⟨z,H7,I7,n7⟩:=q7;exact U I7 n7
 | cont=>obtain⟨z,H7,I7,n7⟩:=q7;exact U I7 n7
 | brk=>obtain⟨z,H7,I7,q7⟩:=q7;exact#[z,H7,I7.unpinned,q7]
 | ret v=>obtain⟨x7,z,H7,I7,r7,q7⟩:=q7;exact#[x7,z,H7,I7.unpinned,r7,q7]
end
abbrev R2:=V->V->Hp->VK->Prop
def OpR(X:Cx)(f:aa->aa->Sem aa)(r:R2):Prop :=
 ∀(pins:List (Addr×Obj)) (s:ab) (σ:St) (H:Hp) (x y:V) (v u:aa) (Q:VK),"I" H s->RelV x v->RelV y u->r x y H Q ->
  X[3] (f v u) (EP X pins σ Q) X.xe s
def yg(X:Cx)(f:aa)(r:List V->Hp->VK->Prop):Prop :=
 ∀(pins:List (Addr×Obj)) (s:ab) (σ:St) (H:Hp) (xs:List V) (us:List aa) (Q:VK),"I" H s->Vals xs us->r xs H Q ->
  X[3] (call f us) (EP X pins σ Q) X.xe s
def TruR(X:Cx)(r:V->Hp->(Bool->Hp->Prop)->Prop):Prop :=
 ∀(pins:List (Addr×Obj)) (s:ab) (σ:St) (H:Hp) (x:V) (v:aa) (Q:Bool->Hp->Prop),"I" H s->RelV x v->r x H Q ->
  X[3] (truthy v) (TP X pins σ Q) X.xe s
def tOp(r:R2)(ta tb:TE):TE:=λσ H Q=>ta σ H λx H1=>tb σ H1 λy H2=>r x y H2 Q
def rI(C:Int->Int->Prop)(g:Int->Int->V):R2:=λx y H Q=>∃ i j,x=.int i/\y=.int j/\C i j/\Q (g i j) H
def rI0(g:Int->Int->V):R2:=λx y H Q=>∃ i j,x=.int i/\y=.int j/\Q (g i j) H
section
variable{X:Cx}{a b c:Expr}{ta tb tc:TE}{pos:Pos}
def GO(B:PE X a ta)(O:PE X b tb){pins:List (Addr×Obj)}{s:ab}{σ:St}{H:Hp}{R:V->V->Hp->Prop}(I:"I" H s)
  (h:ta σ H λx H1=>tb σ H1 λy H2=>R x y H2){Q:aa->ab->Prop}{f:aa->aa->Sem aa}
  (U:∀ v u s2 x y H2,"I" H2 s2->RelV x v->RelV y u->R x y H2->X[3] (f v u) Q X.xe s2) :
  X[3] (eval a X.env) (λv z=>X[3] (eval b X.env) (λu s₂=>X[3] (f v u) Q X.xe s₂) X.xe z) X.xe s:=by
 refine thn (B pins s σ H _ I h) λv s1 #[x,H1,I1,r1,q1]=>?_
 refine thn (O pins s1 σ H1 _ I1 q1) λu s2 #[y,H2,I2,r2,q2]=>?_
 exact U v u s2 x y H2 I2 r1 r2 q2
def opI{C:Int->Int->Prop}{g:Int->Int->Int}
  (z:∀ i j t u s Q E,C i j->Q (.int (g i j) s.toks) {s with toks:=s.toks+1}->X[3] (f (.int i t) (.int j u)) Q E s) :
  OpR X f (rI C λi j=>.int (g i j)):=by
 intro pins s σ H x y v u Q I rx ry h;obtain⟨i,j,rfl,rfl,hc,q⟩:=h;obtain⟨t,rfl⟩:=rx;obtain⟨t',rfl⟩:=ry;exact z i j t t' s _ _ hc #[.int (g i j),H,I.tok _,#[_,rfl],q]
def opI0{g:Int->Int->Int}
  (z:∀ i j t u s Q E,Q (.int (g i j) s.toks) {s with toks:=s.toks+1}->X[3] (f (.int i t) (.int j u)) Q E s) :
  OpR X f (rI0 λi j=>.int (g i j)):=by
 intro pins s σ H x y v u Q I rx ry h;obtain⟨i,j,rfl,rfl,q⟩:=h;obtain⟨t,rfl⟩:=rx;obtain⟨t',rfl⟩:=ry;exact z i j t t' s _ _ #[.int (g i j),H,I.tok _,#[_,rfl],q]
def opB0{g:Int->Int->Bool}
  (z:∀ i j t u s Q E,Q (.bool (g i j)) s->X[3] (f (.int i t) (.int j u)) Q E s) :
  OpR X f (rI0 λi j=>.bl (g i j)):=by
 intro pins s σ H x y v u Q I rx ry h;obtain⟨i,j,rfl,rfl,q⟩:=h;obtain⟨t,rfl⟩:=rx;obtain⟨t',rfl⟩:=ry;exact z i j t t' s _ _ #[.bl (g i j),H,I,rfl,q]
def CDiv(i j:Int):Prop:=0<j/\j<1073741824
def CMul(i j:Int):Prop:=(-(2 ^ 64)<i/\i<2 ^ 64)\/(-(2 ^ 64)<j/\j<2 ^ 64)
def CMul.ok(h:CMul i j):IntMulOk i j:=by
 rcases h with⟨h1,h2⟩|⟨h1,h2⟩
 .exact .of_left (intBits_le_64 h1 h2)
 exact .of_right (intBits_le_64 h1 h2)
def GP:OpR X (binaryOp .Add) (rI0 λi j=>.int (i+j)):=opI0 λ_ _ _ _ _ _ _ q=>add_int q
def GQ:OpR X (binaryOp .Sub) (rI0 λi j=>.int (i-j)):=opI0 λ_ _ _ _ _ _ _ q=>sub_int q
def GR:OpR X (binaryOp .Mult) (rI CMul λi j=>.int (i*j)):=opI λ_ _ _ _ _ _ _ hc q=>mul_int q hc.ok
def GS:OpR X (binaryOp .FloorDiv) (rI CDiv λi j=>.int (i/j)):=opI λi j _ _ _ _ _ hc q=>by
 have h1:(0:Int)<j:=hc.1;have h2:j<1073741824:=hc.2;exact floordiv_int "" (by rw[Int.fdiv_eq_ediv_of_nonneg i ""];exact q) (.inl (PyProof.noPylong_small ""))
def GT:OpR X (binaryOp .Mod) (rI (λ_ j=>0<j) λi j=>.int (i%j)):=opI λi j _ _ _ _ _ hc q=>by
 have h1:(0:Int)<j:=hc;exact mod_int' "" (by rw[Int.fmod_eq_emod_of_nonneg i ""];exact q)
def GU:OpR X (inplaceOp .Add) (rI0 λi j=>.int (i+j)):=opI0 λ_ _ _ _ _ _ _ q=>iadd_int q
def GV:OpR X (inplaceOp .Sub) (rI0 λi j=>.int (i-j)):=opI0 λ_ _ _ _ _ _ _ q=>isub_int q
def Wz(I:"I" H s)(q:Q (.bl k) H)(e:k=k'):EP X pins σ Q (.bool k') s:=by
 subst e;exact#[.bl k,H,I,rfl,q]
def GW:OpR X (compareOp .Lt) (rI0 λi j=>.bl (decide (i<j))):=opB0 λ_ _ _ _ _ _ _ q=>lt_int q
def GX:OpR X (compareOp .LtE) (rI0 λi j=>.bl (decide (i<=j))):=opB0 λ_ _ _ _ _ _ _ q=>le_int q
def GY:OpR X (compareOp .Gt) (rI0 λi j=>.bl (decide (j<i))):=opB0 λ_ _ _ _ _ _ _ q=>gt_int q
def GZ:OpR X (compareOp .Is) (λx y H Q=>y=.non/\Q (.bl (decide (x=.non))) H):=by
 intro pins s σ H x y v u Q I rx ry h;obtain⟨rfl,q⟩:=h;cases ry;refine is_none_gen (Wz I q ?_);cases x<;>first
  | (cases rx;rfl)
  | (obtain⟨t,rfl⟩:=rx;rfl)
def T0:OpR X (compareOp .IsNot) (λx y H Q=>y=.non/\Q (.bl (not (decide (x=.non)))) H):=by
 intro pins s σ H x y v u Q I rx ry h;obtain⟨rfl,q⟩:=h;cases ry;refine isnot_none_gen (Wz I q ?_);cases x<;>first
  | (cases rx;rfl)
  | (obtain⟨t,rfl⟩:=rx;rfl)
def TruV(K:Frag)(x:V)(H:Hp)(k:Bool):Prop :=
 match x with
 | .non=>k=false
 | .bl b=>k=b
 | .int i=>k=(i != 0)
 | .str y=>y[1]<=sizeLine/\k=((y[1]:Int) != 0)
 | .byt y=>y.size<=sizeLine/\k=((y.size:Int) != 0)
 | .ref p=>(∃ xs,SqL K H p xs/\k=not xs.isEmpty)\/(∃ xs,SqT K H p xs/\k=not xs.isEmpty)\/∃ kvs,H p=!(.dK kvs)/\k=not kvs.isEmpty
 | _=>False
def T1(r:KV kvs vs):(not vs.isEmpty)=not kvs.isEmpty:=by
 cases r<;>rfl
def WA(r:Vals xs its):(not its.toArray.isEmpty)=not xs.isEmpty:=by
 cases r<;>simp
def yY:sizeLine<2 ^ 63:=by rw[pp];decide
def T3:TruR X (λx H Q=>∃ k,TruV X.K x H k/\Q k H):=by
 intro pins s σ H x v Q I rx h;obtain⟨k,e,q⟩:=h;have hl:=yY;have hs:sizeLine=16777216:=pp;cases x with
 | non =>
  cases rx;have e':k=false:=e;subst e';exact truthy_none #[H,I,q]
 | bl b =>
  cases rx;have e':k=b:=e;subst e';exact pF #[H,I,q]
 | int i =>
  obtain⟨t,rfl⟩:=rx;have e':k=(i != 0):=e;subst e';exact PySem.P.truthy_int #[H,I,q]
 | str y =>
  obtain⟨t,rfl⟩:=rx;obtain⟨hy,e'⟩:y[1]<=sizeLine/\k=((y[1]:Int) != 0):=e;subst e';exact PySem.P.truthy_str "" #[H,I.tok _,q]
 | byt y =>
  obtain⟨t,rfl⟩:=rx;obtain⟨hy,e'⟩:y.size<=sizeLine/\k=((y.size:Int) != 0):=e;subst e';exact PySem.W.truthy_bytes "" #[H,I.tok _,q]
 | ref p =>
  cases rx;have e':(∃ xs,SqL X.K H p xs/\k=not xs.isEmpty)\/(∃ xs,SqT X.K H p xs/\k=not xs.isEmpty)\/∃ kvs,H p=!(.dK kvs)/\k=not kvs.isEmpty:=e;rcases e' with⟨xs,hx,e'⟩|⟨xs,hx,e'⟩|⟨kvs,hx,e'⟩
  .subst e';obtain⟨its,r,pl,hz⟩:=I.list hx;have z:=r[1];exact wpAny_truthy_list pl.isList (by simp only[gU];lia) #[H,I.tok _,by rw[WA r];exact q]
  .subst e';obtain⟨its,r,pl,hz⟩:=I.tuple hx;have z:=r[1];exact truthy_tuple pl (by simp only[gU];lia) #[H,I.tok _,by rw[WA r];exact q]
  subst e';obtain⟨hz,hS,vs,r,m⟩:kvs[1]<=sizeLine/\(p==sysModules)=false/\∃ vs,KV kvs vs/\s.heap.DictOf (jd X.prog X.w) p vs:=I.hok p _ hx;have z:kvs[1]=vs[1]:=dz r;exact wpAny_truthy_dict hS m "" #[H,I.tok _,by rw[T1 r];exact q]
 | _=>exact(show False from e).elim
def JV(r:Vals [x] us):∃ u,us=[u]/\RelV x u:=by
 cases r with
 | cons r1 r2=>cases r2;exact#[_,rfl,r1]
def WB(r:Vals [x,y] us):∃ u w',us=[u,w']/\RelV x u/\RelV y w':=by
 cases r with
 | cons r1 r2 =>
  cases r2 with
  | cons r3 r4=>cases r4;exact#[_,_,rfl,r1,r3]
def T4(z:X.calm=true):yg X (.builtin "max") (λxs H Q=>∃ i j,xs=[.int i,.int j]/\Q (if j>i then j else i)[6] H):=by
 intro pins s σ H xs us Q I r h;obtain⟨i,j,rfl,q⟩:=h;obtain⟨u,w',rfl,⟨t,rfl⟩,⟨t',rfl⟩⟩:=WB r;refine max_two_ints (I.ok.hd z) λh' tk k=>#[_,H,I.kept k,?_,q]
 by_cases hj:j>i
 .rw[if_pos hj,if_pos hj];exact#[_,rfl]
 rw[if_neg hj,if_neg hj];exact#[_,rfl]
def T5(z:X.calm=true):yg X (.builtin "min") (λxs H Q=>∃ i j,xs=[.int i,.int j]/\Q (if j<i then j else i)[6] H):=by
 intro pins s σ H xs us Q I r h;obtain⟨i,j,rfl,q⟩:=h;obtain⟨u,w',rfl,⟨t,rfl⟩,⟨t',rfl⟩⟩:=WB r;refine min_two_ints (I.ok.hd z) λh' tk k=>#[_,H,I.kept k,?_,q]
 by_cases hj:j<i
 .rw[if_pos hj,if_pos hj];exact#[_,rfl]
 rw[if_neg hj,if_neg hj];exact#[_,rfl]
variable{prog:af}{w:World}{A:ag}{E:aa->ab->Prop}{s:ab}{K:Frag}{x dx C f:Addr}{mA:Str->Option aa}{name:Str}{v:aa}
end
def RelO.some_of(r:RelO ↑v o):∃ u,o=!u/\RelV v u:=by
 cases o with
 | none=>exact(show False from r).elim
 | some u=>exact#[u,rfl,r]
section
variable{P:af}{w:World}{H H':Hp}{h h':Heap}{a C dx:Addr}{fs fs':List (Str×V)}
variable{X:Cx}{pins:List (Addr×Obj)}{σ:St}{s:ab}{f:Str}{v:V}{A:ag}{E:aa->ab->Prop}
variable{o e value:Expr}{pos pos' tpos:Pos}{ta tv:TE}
variable{Q:aa->ab->Prop}{c:aa}{b:Bool}
end
structure Room(k:Nat)(A:Around):Prop where
 hd:A.handled=none
 dp:A.depth+3*k+5<recursionLimit
 un:A.units+16*k+200<cLine
def Room.mono{j k:Nat}(r:Room k A)(h:j<=k):Room j A:=#[r.hd,by have:=r.dp;lia,by have:=r.un;lia]
def Room.deeper(r:Room (k+1) A)(env):Room k (A.deeper env) :=
 #[r.hd,by have:=r.dp;show A.depth+1+3*k+5<_;lia,by have:=r.un;show A.units+3+16*k+200<_;lia]
def Room.depth(r:Room k A):A.depth<recursionLimit:=by have:=r.dp;lia
def WC:TA:=λ_ H Q=>Q [] H
def Q7(ta:TE)(z:TA):TA:=λσ H Q=>ta σ H λx H1=>z σ H1 λxs H2=>Q (x::xs) H2
section
variable{X:Cx}{e:Expr}{es:List Expr}{te:TE}{t:TA}{pos:Pos}
def vJ:PA X [] WC:=λ_ _ _ _ H Q I h=>tH #[[],H,I,.nil,h]
def zE(z:PE X e te)(B:PA X es t)(O:(starEach (e::es) X.env=(false,eval e X.env)::starEach es X.env)["r"]):PA X (e::es) (Q7 te t):=by
 intro pos pins s σ H Q I h;rw[O];show wpAny _ _ (spliced ((false,eval e X.env)::backTo pos (starEach es X.env))) _ _ s;refine hZ (thn (z pins s σ H _ I h) λu s1 #[x,H1,I1,r1,q1]=>?_)
 exact thn (B pos pins s1 σ H1 _ I1 q1) λus s2 #[xs,H2,I2,r2,q2]=>#[x::xs,H2,I2,.cons r1 r2,q2]
end
abbrev Sp:=List V->Hp->VK->XK->Prop
abbrev CXT:=List Env->Hp->ab->XK->aa->ab->Prop
structure Env0(P:Program)(w:World)(K:Frag)(mg:Str->Option Value)(base:Heap)(A:Around)(outer:List Env)(s:Shared)(H:Hp):Prop where
 frames:A.frames=!outer
 mod:Mod K mg base
 bs:∀ b o,base.get? b=!o->s.heap.get? b=!o/\H b=none
 bsz:base.objs.size<=s[0]
 funs:s.heap.FunFrames base outer
 frf:∀ b∈frs outer,H b=none
 hok:HOk P w H s.heap
 bare:AllBare s.gens
def CE(outer:List Env)(P:af)(w:World)(H:Hp)(s:ab)(Q:VK)(u:aa)(s':ab):Prop :=
 ∃ v H',s'.os=s.os/\AllBare s'.gens/\Un (frs outer) [] H H' s.heap s'.heap/\HOk P w H' s'.heap/\RelV v u/\Q v H'
def CR(CX:CXT)(outer:List Env)(P:af)(w:World)(H:Hp)(s:ab)(Q:VK)(E:XK)(r:Result)(s':ab):Prop :=
 match r with
 | .ok (.ret u)=>CE outer P w H s Q u s'
 | .ok _=>False
 | .error e=>CX outer H s E e s'
structure FnOk(P:Program)(w:World)(K:Frag)(mg:Str->Option Value)(base:Heap)(CX:CXT)(k:Nat)(f:Addr)(fd:FuncData)(ps:List Str)(sp:Sp):Prop where
 len:∀ vs H Q E,sp vs H Q E->vs[1]=ps[1]
 run:∀(A:Around) (outer:List Env) (s:Shared) (H:Hp) (args:Args) (us:List Value) (vs:List V) (Q:VK) (E:XK),Room k A->Env0 P w K mg base A outer s H->BindsTo s fd args (ps.zip us)->Vals vs us->sp vs H Q E ->
  codeAny (model P w) A (.call (.ref f) args) (CR CX outer P w H s Q E) s
section
variable{X:Cx}{pins:List (Addr×Obj)}{σ:St}{H:Hp}{s s':ab}
def Inv.env0(I:"I" H s):Env0 X.prog X.w X.K X.mg X.base X.A X.stack s H :=
 #[I.ok.frames,I.ok.mod,I.bs,tV I.ok.bsz I.sz,I.stack,I.stkFree,I.hok,I.bare]
def Inv.after(I:"I" H s)(h:CE X.stack X.prog X.w H s Q u s'):EP X pins σ Q u s':=by
 obtain⟨v,H',os,B,un,O,r,q⟩:=h;obtain⟨hh,g,d,t,U⟩:=s';obtain rfl:U=s.os:=os;exact#[v,H',I.call (h':=hh) (g':=g) (d':=d) (t':=t) (ch:=[]) un O B λb z=>absurd z "s",r,q]
end
def Binds(K:Frag)(fd:FuncData)(ps:List Str)(ds:List aa):Prop :=
 ∀(s:ab) (us:List aa),K.In s.heap->(us++ds)[1]=ps[1]->BindsTo s fd #[us,[]] (ps.zip (us++ds))
def Binds.all{K:Frag}{ps:List Str}(h:∀ us,us[1]=ps[1]->bindArgs fd #[us,[]]=pure (ps.zip us)):Binds K fd ps []:=λs us _ hl=>by
 rw[tM]at hl ⊢;exact .of_eq (h us hl)
def WD(CX:CXT)(X:Cx)(E:XK):Prop:=∀(pins:List (Addr×Obj)) (σ:St) (H:Hp) (s:ab) (e:aa) (s':ab),"I" H s->CX X.stack H s E e s'->X.xe e s'
section
variable{X:Cx}{CX:CXT}{k:Nat}{f C:Addr}{fd:FuncData}{ps:List Str}{sp:Sp}{dvs:List V}{ds:List aa}{E:XK}{x m:Str}{p pos apos:Pos}{e o:Expr}{es:List Expr}{ta:TE}{t:TA}
def WE(F:FnOk X.prog X.w X.K X.mg X.base CX k f fd ps sp)(z:Room k X.A)(B:Binds X.K fd ps ds)(hd:Vals dvs ds)(O:WD CX X E)
  (I:"I" H s)(r:Vals vs us)(h:sp (vs++dvs) H Q E):X[3] (call (.ref f) us) (EP X pins σ Q) X.xe s:=by
 have r2:Vals (vs++dvs) (us++ds):=r.append hd;have hl:(us++ds)[1]=ps[1]:=by rw[<- r2[1]];exact F.len _ _ _ _ h
 refine wpAny_call (codeAny_mono (F.run X.A X.stack s H #[us,[]] (us++ds) (vs++dvs) Q E z I.env0 (B s us I.kIn hl) r2 h) λr s' hq=>?_)
 cases r with
 | error e=>exact O pins σ H s e s' I hq
 | ok fl =>
  cases fl with
  | ret u=>exact I.after hq
  | next=>exact False.elim hq
  | brk=>exact False.elim hq
  | cont=>exact False.elim hq
end
section
variable{X:Cx}{CX:CXT}{k:Nat}{f C:Addr}{fd:FuncData}{ps ks:List Str}{sp:Sp}{E:XK}{x m:Str}{p pos apos kpos:Pos}{e o:Expr}{es:List Expr}{kws:List Keyword}{te ta:TE}{t tk:TA}{nm:Option Str}
variable{g:List aa->List aa->List aa}{gV:List V->List V->List V}
end
structure FnScope(N P:List Str)(sc:Scope):Prop where
 kind:sc.kind=.function
 co:sc.isCoroutine=false
 gen:sc.isGenerator=false
 nd:N.Nodup
 pre:N.take P[1]=P
 par:∀ x∈P,sc.names.lookup x=some .local\/sc.names.lookup x=some .cell
 nofree:∀ y∈sc.names,y.2≠.free
theorem WF{z:Str->Option NameKind}:∀{binds} {m},(∀ v,(x,v)∉binds)->bindL z binds m x=m x
 | [],_,_=>rfl
 | (n,v)::r,m,h=>by
  unfold bindL;rw[WF λw hw=>h w (gj _ hw)]
  split
  .have:x≠n:=by rintro rfl;exact h v tj
   simp[this]
  rfl
theorem WG{z:Str->Option NameKind}:∀{binds} {m},(∀ v,(x,v)∉binds)->bindC z binds m x=m x
 | [],_,_=>rfl
 | (n,v)::r,m,h=>by
  unfold bindC;rw[WG λw hw=>h w (gj _ hw)]
  split
  .rfl
  have:x≠n:=by rintro rfl;exact h v tj
  simp[this]
theorem WH{z:Str->Option NameKind}:∀{P:List Str} {vs} {i:Nat} {m},P.Nodup->P[i]?=!x->vs[i]?=!v->z x=some .local ->
  bindL z (P.zip vs) m x=!v
 | [],_,_,_,_,h,_,_=>by simp at h
 | _::_,[],_,_,_,_,h,_=>by simp at h
 | p::P,w::vs,0,m,nd,h1,h2,hk=>by
  simp at h1 h2;subst h1;subst h2;show bindL z ((p,w)::P.zip vs) m p=_;unfold bindL;rw[WF λv hv=>(tD.mp nd).1 (List.of_mem_zip hv).1,if_pos hk]
  simp
 | p::P,w::vs,i+1,m,nd,h1,h2,hk=>by
  show bindL z ((p,w)::P.zip vs) m x=_;unfold bindL;exact WH (i:=i) (tD.mp nd).2 h1[""] h2[""] hk
theorem WI{z:Str->Option NameKind}:∀{P:List Str} {vs} {i:Nat} {m},P.Nodup->P[i]?=!x->vs[i]?=!v->z x≠some .local ->
  bindC z (P.zip vs) m x=!v
 | [],_,_,_,_,h,_,_=>by simp at h
 | _::_,[],_,_,_,_,h,_=>by simp at h
 | p::P,w::vs,0,m,nd,h1,h2,hk=>by
  simp at h1 h2;subst h1;subst h2;show bindC z ((p,w)::P.zip vs) m p=_;unfold bindC;rw[WG λv hv=>(tD.mp nd).1 (List.of_mem_zip hv).1,if_neg hk]
  simp
 | p::P,w::vs,i+1,m,nd,h1,h2,hk=>by
  show bindC z ((p,w)::P.zip vs) m x=_;unfold bindC;exact WI (i:=i) (tD.mp nd).2 h1[""] h2[""] hk
def zm(N:List Str)(vs:List V):St:=vs.map some++List.replicate (N[1]-vs[1]) none
def cxOf(CX:CXT)(P:af)(w:World)(K:Frag)(mg:Str->Option aa)(base:Heap)(N:List Str)(z:Str)(scope:Scope)(f:Addr)(cd:aa)(A:ag)(outer:List Env)(s:ab)(H:Hp)(E:XK):Cx where
 prog:=P
 w:=w
 K:=K
 mg:=mg
 base:=base
 A:=A.deeper (envOfC z scope s[0] f cd)
 N:=N
 s₀:=s
 H₀:=H
 env:=envOfC z scope s[0] f cd
 outer:=outer
 stack:=envOfC z scope s[0] f cd::outer
 ex:=[]
 calm:=true
 fn:=λ_=>true
 pn:=[]
 xe:=λe s'=>wpAny (model P w) (A.deeper (envOfC z scope s[0] f cd)) (leaving (envOfC z scope s[0] f cd) e) (λ_ B=>CX outer H s E e B) (λe' B=>CX outer H s E e' B) s'
def WJ{z:Scope}{n:Nat}(h:z.names.lookup x=some .cell):∃ c,(cellsFrom n z.names []).lookup x=!c:=by
 have q:=cellsFrom_some z.names n [] (.inl h);exact Option.isSome_iff_exists.mp q
def T6{K:Frag}{mg:Str->Option aa}{N ps:List Str}{scope:Scope}{A:ag}{s Y:ab}{vs:List V}
  (S:FnScope N ps scope)(hd:A.handled=none)(B:Env0 P w K mg base A outer s H)(hl:vs[1]=ps[1])(r:Vals vs us)
  (x:InCallC s s[0] (bindL (envOfC qual scope s[0] f cd).kindOf (ps.zip us) λ_=>none) (cellsFrom (s[0]+1) scope.names []) (bindC (envOfC qual scope s[0] f cd).kindOf (ps.zip us) λ_=>none) Y) :
  Inv (cxOf CX P w K mg base N qual scope f cd A outer s H E) [] (zm N vs) H Y:=by
 have Z:ps[1]<=N[1]:=by have:=congrArg List.length S.pre;rw[tB]at this;lia
 obtain⟨h1,tk,rfl,hk⟩:=x.done;have O:∀ b:Addr,b∉(cxOf CX P w K mg base N qual scope f cd A outer s H E).ex:=λb z=>absurd (show b∈([]:List Addr)from z) "s"
 refine#[#[B.mod,S.kind,rfl,rfl,gy _,λy z c h1 h2=>?_,λy hy=>?_,λy c _ h=>?_,λ_=>hd,Around.frames_deeper B.frames,.inr #[rfl,rfl],λb z=>absurd z (O b),B.bs,B.bsz,λb _ _=>O b,λb z=>absurd z (O b),B.funs,B.frf],
  rfl,B.bare,Un.kept hk,#[_,x.toInCall.ns,λi y v h1 h2 h3=>?_],λy c h=>#[_,x.cell y c h],B.hok.fresh (gy _),λy c h=>?_,λp hp=>absurd (show p∈([]:List (Addr×Obj))from hp) "s",B.hok.kept hk,?_]
 .exact name_of_addr x.apart (cA h1) (cA h2)
 .have hy:scope.names.lookup y=some .cell\/scope.names.lookup y=some .free:=hy;rcases hy with hy|hy
  .exact WJ hy
  exact absurd rfl (S.nofree _ (cA hy))
 .exact cM (x.above y c (cA h))
 .have hi:i<vs[1]:=by
   unfold zm at h2;by_cases hi:i<vs[1]
   .exact hi
   rw[hU hi[""]]at h2
   rw[fQ]at h2;split at h2<;>cases h2
  have ha:vs[i]?=!v:=by
   unfold zm at h2;rw[t4 hi[""],gC]at h2
   cases e:vs[i]? with
   | none=>rw[e]at h2;cases h2
   | some a=>rw[e]at h2;cases h2;rfl
  obtain⟨u,hu,rv⟩:=r.get ha;have hp:ps[i]?=!y:=by
   rw[<- S.pre,List.getElem?_take_of_lt ""];exact h1
  have U:ps.Nodup:=by rw[<- S.pre];exact S.nd.sublist (List.take_sublist _ _)
  refine#[u,rv,?_];rcases S.par y (t8 hp)with k|k
  .exact .inl #[k,WH U hp hu k]
  obtain⟨c,e⟩:=WJ (n:=s[0]+1) k;refine .inr #[.inl k,c,e,?_];have q:=x.cell y c e;rw[WI U hp hu (by show scope.names.lookup y≠_;rw[k];decide)]at q
  exact q
 .exact B.hok.fresh (cM (x.above y c (cA h)))
 unfold zm;show _=N[1];rw[gG,gg,List.length_replicate];lia
def T7{K:Frag}{mg:Str->Option aa}{base:Heap}{k:Nat}{f:Addr}{name z:Str}{O:Arguments}{body:List Stmt}{scope:Scope}{dV kV doc pm B ct oc:aa}{an od:Option Addr}
  {osl:Array (Option aa)}{N ps:List Str}{sp:Sp}(lk:K.lookup f=↑#[oc,od,.func (PySem.W.fnOf name z O body scope dV kV doc pm an B ct),osl])(hcd:codeIn K B z=true)(S:FnScope N ps scope)
  (len:∀ vs H Q E,sp vs H Q E->vs[1]=ps[1])
  (Y:∀ A outer s H vs Q E,Room k (A.deeper (envOfC z scope s[0] f B))->sp vs H Q E ->
   ∃ t,PSs (cxOf CX P w K mg base N z scope f B A outer s H E) body t/\t {nx:=λ_ H'=>Q .non H',rt:=Q} (zm N vs) H) :
  FnOk P w K mg base CX (k+1) f (PySem.W.fnOf name z O body scope dV kV doc pm an B ct) ps sp:=by
 refine#[len,λA outer s H args us vs Q E hr e0 hb r hsp=>?_]
 have hl:=len _ _ _ _ hsp;have KX:K.In s.heap:=e0.mod.kin.keeps λb o e=>(e0.bs b o e).1
 have lim:s.heap.NoLimit:=e0.mod.nolimit.keeps λb o e=>(e0.bs b o e).1
 have Z:∀ y∈ps.zip us,scope.names.lookup y.1=some .local\/(scope.names.lookup y.1=some .cell/\((cellsFrom (s[0]+1) scope.names []).lookup y.1).isSome=true):=λ#[n,v] hy=>by
  rcases S.par n (List.of_mem_zip hy).1 with q|q
  .exact .inl q
  exact .inr #[q,cellsFrom_some _ _ _ (.inl q)]
 refine codeAny_call_function hr.depth (KX _ _ lk) rfl S.co S.gen rfl (PySem.W.codeRec_of KX hcd) (hb _ _ _ _ ?_);refine wpAny_newFunctionEnv_cells S.kind Z λenv he s1 x=>?_
 subst he;refine#[lim.keeps x.toInCall.keep,codeAny_func ?_];obtain⟨t,ht,hq⟩:=Y A outer s H vs Q E (hr.deeper _) hsp;have I:Inv (cxOf CX P w K mg base N z scope f B A outer s H E) [] (zm N vs) H s1:=T6 S hr.hd e0 hl r x;refine c6 (ht [] s1 (zm N vs) H _ I hq) (λfl s' hs=>?_) λe s' hs=>hs
 have fin:∀{U:St} {H':Hp} {v:V} {u:aa},Inv (cxOf CX P w K mg base N z scope f B A outer s H E) [] U H' s'->RelV v u->Q v H'->CE outer P w H s Q u s' :=
  λ{U H' v u} J rv q=>#[v,H',J.os,J.bare,J.base,J.hok,rv,q]
 cases fl with
 | ret u =>
  obtain⟨v,U,H',J,rv,q⟩:=hs;exact fin J rv q
 | next =>
  obtain⟨U,H',J,q⟩:=hs;exact fin (v:=V.non) (u:=Value.none) J rfl q
 | brk =>
  obtain⟨_,_,_,q⟩:=hs;exact False.elim q
 | cont =>
  obtain⟨_,_,_,q⟩:=hs;exact False.elim q
section
variable{X:Cx}{x:Str}{p pos:Pos}{e:Expr}{es:List Expr}{t:TA}{id T:String}{r:List V->Hp->VK->Prop}
end
end L2
namespace HT
open PySem PyProof.Rows
def lexLt:List Int->List Int->Bool
 | [],[]=>false
 | [],_::_=>true
 | _::_,[]=>false
 | x::xs,y::ys=>if x=y then lexLt xs ys else decide (x<y)
def lexLt_cons(x y)(xs ys):lexLt (x::xs) (y::ys)=if x=y then lexLt xs ys else decide (x<y):=rfl
def lexLt_nil_nil:lexLt [] []=false:=rfl
def lexLt_nil_cons(y)(ys):lexLt [] (y::ys)=true:=rfl
def lexLt_cons_nil(x)(xs):lexLt (x::xs) []=false:=rfl
def T8(A)(s)(a)(t)(c)(u):∃ e,SeqAt.EqAt A s (.int a t) (.int c u) e/\(e=true↔a=c) :=
 #[(a==c),SeqAt.EqAt.int_int a t c u,by simp]
def T9(A)(s)(a)(t)(c)(u)(prog)(w)(E)(Q)(h:Q (.bool (decide (a<c))) s) :
  wpAny (model prog w) A (richCompare .Lt (.int a t) (.int c u)) Q E s :=
 (PyProof.Rows.lt_int h:wpAny (model prog w) A (compareOp .Lt (.int a t) (.int c u)) Q E s)
section
open PySem.SeqAt
open PySem.AutoSeq1 (wpAny_loadPart')
open PySem.MeetsSeq PySem.MeetsSeq2 PySem.MeetsSeq3
def Ta(l b)(items items2)(n n2)(dd dd2)(sl sl2)(ns ms)(hi:IntsAre items[2] ns)(O:IntsAre items2[2] ms) :
  Meets (Builtin.«tuple.__lt__» #[[.ref l,.ref b],[]])
   (λ_ R s=>s.heap.get? l=some {cls:=.type "tuple",dict:=dd,data:=.seq items n,slots:=sl}/\s.heap.get? b=some {cls:=.type "tuple",dict:=dd2,data:=.seq items2 n2,slots:=sl2} /\
    R (.ok (.ret (.bool (lexLt ns ms)))) s) :=
 .of_wp λprog w A R s h=>by
  obtain⟨hp,g,d,tk,os⟩:=s;obtain⟨hl,hb,h⟩:=h;have f2:=AutoSeq1.sub_tuple_tuple;have z1:items.size=ns[1]:=by rw[<- hi[1]];simp
  have z2:items2.size=ms[1]:=by rw[<- O[1]];simp
  wp_walk using wpAny_loadPart' hl,wpAny_loadPart' hb,wpAny_forIn_list _ (λrest b s'=>b.1=none/\s'=#[hp,g,d,tk,os]/\∃(vs ws:List aa) (ns' ms':List Int),rest=vs.zip ws /\
   IntsAre vs ns'/\IntsAre ws ms'/\ns'[1]+items2.size=ms'[1]+items.size/\R (.ok (.ret (.bool (lexLt ns' ms')))) #[hp,g,d,tk,os]) _
  case turn =>
   rintro⟨y,x⟩ rest b s' ⟨hb',rfl,vs,ws,ns',ms',hz,hvi,hwi,hlen,hR⟩;cases hvi with
   | nil=>rw[List.zip_nil_left]at hz;cases hz
   | cons a t hvi' =>
    cases hwi with
    | nil=>rw[List.zip_nil_right]at hz;cases hz
    | cons c u hwi' =>
     rw[bC]at hz;injection hz with hyx hrest;injection hyx with hy hx;subst hy hx;rw[lexLt_cons]at hR;simp only[gK]at hlen;obtain⟨e,he,z⟩:=T8 A.in1 #[hp,g,d,tk,os] a t c u;refine g6 (he prog w _ _ ?_);cases e with
     | true =>
      rw[if_pos (z.mp rfl)]at hR
      wp_walk
      exact#[rfl,rfl,_,_,_,_,hrest,hvi',hwi',"",hR]
     | false =>
      rw[if_neg λq=>absurd (z.mpr q) pQ]at hR
      have B:=T9 A.in1 #[hp,g,d,tk,os] a t c u prog w
      wp_walk using B
      exact#[_,rfl,by simpa using hR]
  case fin =>
   rintro⟨b1,b2⟩ s' ⟨hb',rfl,vs,ws,ns',ms',hz,hvi,hwi,hlen,hR⟩;simp only at hb';subst hb';have hv:lexLt ns' ms'=decide (items.size<items2.size):=by
    cases hvi with
    | nil =>
     cases hwi with
     | nil =>
      simp only[fH]at hlen;rw[lexLt_nil_nil];exact(t6 "").symm
     | cons c u hw =>
      simp only[fH,gK]at hlen;rw[lexLt_nil_cons];exact(tF "").symm
    | cons a t hv =>
     cases hwi with
     | nil =>
      simp only[fH,gK]at hlen;rw[lexLt_cons_nil];exact(t6 "").symm
     | cons c u hw =>
      rw[bC]at hz;cases hz
   rw[hv]at hR
   wp_walk
   exact#[_,rfl,by simpa[Builtin.Tuple.tupleCompareSizes]using hR]
  case h =>
   exact#[rfl,rfl,items[2],items2[2],ns,ms,rfl,hi,O,"",h]
end
section
variable{prog:af}{w:World}{A:ag}{E:aa->ab->Prop}{s:ab}
def lt_tupInts{items z:Array aa}{B ms:List Int}{Q:aa->ab->Prop}(hl:IsTup s.heap l items)(hb:IsTup s.heap b z)(hi:IntsAre items[2] B)(hj:IntsAre z[2] ms)
  (hu:A.units<cLine)(h:Q (.bool (lexLt B ms)) s):wpAny (model prog w) A (compareOp .Lt (.ref l) (.ref b)) Q E s:=by
 obtain⟨⟨cls,dd,data,sl⟩,ho,hc,n,hd⟩:=id hl;obtain⟨⟨h4,Z,h3,sl2⟩,O,U,n2,Y⟩:=id hb;simp only at hc hd U Y;subst hc hd U Y;exact richCompare_meets_room (op:=.Lt) #[_,ho,rfl] #[_,O,rfl] PySem.F.slot_tuple_lt PySem.F.entry_tuple_lt (PySem.F.args_tuple_lt_2 _ _) (Ta l b items z n n2 dd Z sl sl2 B ms hi hj)
  #[ho,O,show Value.bool (lexLt B ms)≠Value.notImplemented/\Q (.bool (lexLt B ms)) s from#[(λx=>nomatch x),h]] hu
def cat_tup(ht:IsTup s.heap t vs.toArray)(hb:IsTup s.heap b ws.toArray)(hv:vs≠[])
  (h1:ws=[]->Q (.ref t) s)(h2:ws≠[]->Q (.ref s[0]) {s with heap:=s.heap.push {cls:=.type "tuple",data:=.seq (vs++ws).toArray}})
  (hsz:vs[1]+ws[1]<=sizeLine):wpAny (model prog w) A (binaryOp .Add (.ref t) (.ref b)) Q E s:=by
 obtain⟨⟨cls,dd,data,sl⟩,ho,hc,n,hd⟩:=id ht;obtain⟨⟨h3,B,Z,O⟩,z,U,n2,Y⟩:=id hb;simp only at hc hd U Y;subst hc hd U Y;have e:vs.toArray++ws.toArray=(vs++ws).toArray:=by simp
 by_cases hw:ws=[]
 .exact concat_meets #[_,ho,rfl] #[_,z,rfl] noFill_tuple_add seq_tuple_add PySem.F.slot_tuple_add PySem.F.entry_tuple_add (PySem.F.args_tuple_add_2 _ _)
   (tuple_addW1 t b vs.toArray ws.toArray n n2 dd B sl O hv[""] (by simp[hw])) #[ho,z,h1 hw]
 refine concat_meets #[_,ho,rfl] #[_,z,rfl] noFill_tuple_add seq_tuple_add PySem.F.slot_tuple_add PySem.F.entry_tuple_add (PySem.F.args_tuple_add_2 _ _)
  (tuple_addW2 t b vs.toArray ws.toArray n n2 dd B sl O hv[""] hw[""] (by rw[gU,gU];exact hsz)) #[ho,z,?_]
 rw[e];exact h2 hw
def sIx(n d:Nat):Option Int->Nat
 | none=>d
 | some v=>if v<0 then(v+(n:Int)).toNat else min v.toNat n
def sIx_none(n d):sIx n d none=d:=rfl
def sIx_nat(n d k:Nat):sIx n d ↑k=min k n:=by
 show(if (k:Int)<0 then((k:Int)+(n:Int)).toNat else min (k:Int).toNat n)=min k n
 rw[if_neg "",fC]
def Tb(n d)(hd:d<=n)(o):sIx n d o<=n:=by
 cases o with
 | none=>exact hd
 | some v =>
  show(if v<0 then(v+(n:Int)).toNat else min v.toNat n)<=n
  by_cases hv:v<0
  .rw[if_pos hv];lia
  rw[if_neg hv];exact Nat.min_le_right _ _
def WK(v)(n d:Nat):(if v<0 then max (v+(n:Int)) 0 else min v n)=(sIx n d !v):=by
 show(if v<0 then max (v+(n:Int)) 0 else min v (n:Int))=(((if v<0 then(v+(n:Int)).toNat else min v.toNat n):Nat):Int)
 by_cases hv:v<0
 .simp only[if_pos hv];lia
 simp only[if_neg hv];lia
def Tc(lo hi)(n:Nat):Builtin.Slice.sliceAdjust lo hi 1 n=(((sIx n 0 lo):Int),((sIx n n hi):Int)):=by
 have h1:¬ ((1:Int)<0):=""
 unfold Builtin.Slice.sliceAdjust;simp only[h1,pZ];refine Prod.ext ?_ ?_
 .cases lo with
  | none=>rfl
  | some v=>exact WK v n 0
 cases hi with
 | none=>rfl
 | some v=>exact WK v n n
def Td(i j:Nat):Builtin.Slice.slicePlaces i j 1=j-i:=by
 unfold Builtin.Slice.slicePlaces;have h1:(1:Int)>0:=""
 simp only[h1,d8,Int.ediv_one];split<;>lia
def WL(p:IsPart v o)(h:Q o s):wpAny (model prog w) A (Builtin.Slice.slicePartIndex v) Q E s:=by
 cases p with
 | none=>exact slicePart_none h
 | int i t=>exact slicePart_int h
def WM{lo hi:Option Int}{n:Nat}{Q:Int×Int×Nat->ab->Prop}(O:s.heap.IsSliceOf sl vl vu .none)(U:IsPart vl lo)(Y:IsPart vu hi)
  (h:Q ((sIx n 0 lo),1,sIx n n hi-sIx n 0 lo) s):wpAny (model prog w) A (Builtin.Slice.sliceApplied (.ref sl) (pure n)) Q E s:=by
 obtain⟨os,z,Z,B⟩:=id O;unfold Builtin.Slice.sliceApplied Builtin.Slice.sliceFields;refine g6 (g6 (fR z B (x:=vl) rfl (g6 (fR z B (x:=vu) rfl (g6 (fR z B (x:=.none) rfl (gu ?_)))))));refine g6 (slicePart_none ?_);show wpAny _ _ (if ((1:Int)==0)=true then _ else _) _ _ s
 rw[if_neg "d"]
 refine g6 (WL U (g6 (WL Y (g6 (gu ?_)))));show wpAny _ _ (match Builtin.Slice.sliceAdjust lo hi 1 (n:Int)with|(lo,hi)=>pure (lo,(1:Int),Builtin.Slice.slicePlaces lo hi 1)) _ _ s
 rw[Tc lo hi n];show wpAny _ _ (pure (((sIx n 0 lo:Nat):Int),(1:Int),Builtin.Slice.slicePlaces ((sIx n 0 lo:Nat):Int) ((sIx n n hi:Nat):Int) 1)) _ _ s;rw[Td];exact gu h
def Te(xs:Array aa)(i k:Nat):((List.range k).filterMap λ(m:Nat)=>xs[(i+(m:Int)*1).toNat]?).toArray=((xs[2].drop i).take k).toArray:=by
 have e:(λ(m:Nat)=>xs[((i:Int)+(m:Int)*1).toNat]?)=λm=>xs[i+m]?:=by
  funext m;have:((i:Int)+(m:Int)*1).toNat=i+m:=""
  rw[this]
 rw[e];have:=pick_run xs i k;rw[List.filterMap_map]at this;have e2:((λx=>xs[x]?)∘λx=>i+x)=λm=>xs[i+m]?:=rfl
 rw[e2]at this;rw[this]
def getItem_tuple_cut{items:Array aa}{lo hi:Option Int}{Q:aa->ab->Prop}(B:IsTup s.heap t items)(hs:s.heap.IsSliceOf sl vl vu .none)(pl:IsPart vl lo)(pu:IsPart vu hi)
  (hw:¬ (sIx items.size 0 lo=0/\sIx items.size items.size hi=items.size))
  (h:Q (.ref s[0]) {s with heap:=s.heap.push {cls:=.type "tuple",data:=.seq ((items[2].drop (sIx items.size 0 lo)).take (sIx items.size items.size hi-sIx items.size 0 lo)).toArray}})
  (hsz:items.size<=sizeLine):wpAny (model prog w) A (getItem (.ref t) (.ref sl)) Q E s:=by
 have z:sizeOk (.seq ((items[2].drop (sIx items.size 0 lo)).take (sIx items.size items.size hi-sIx items.size 0 lo)).toArray):=by
  show((items[2].drop (sIx items.size 0 lo)).take (sIx items.size items.size hi-sIx items.size 0 lo)).toArray.size<=sizeLine;rw[gU,tB,fW,p7];lia
 have hj:sIx items.size items.size hi<=items.size:=Tb _ _ (gy _) hi;obtain⟨os,Y,Z,hds⟩:=id hs;have O:s.TypeIs (.ref sl) "slice":=#[os,Y,Z];unfold getItem
 try with_reducible refine fB ?_
 first|refine g6 (gu ?_)|skip
 refine g6 (wpAny_sequenceKey B.typeIs "d" ?_)
 refine g6 (f8 (name:=Str.ofString "__getitem__") B.typeIs cg
  (fL cg B.typeIs entry_tuple_getitem ?_ (args_tuple_getitem _ _)))
 show wpAny _ _ (Builtin.Tuple.tupleItemsOf (.ref t) >>= _) _ _ s;refine g6 (tupleItemsOf_ B ?_);refine g6 (bD O ?_);rw[if_pos "d"]
 refine g6 (WM hs pl pu ?_);have U:¬ ((((sIx items.size 0 lo:Nat):Int)==0&&(1:Int)==1&&(sIx items.size items.size hi-sIx items.size 0 lo)==items.size)=true):=by
  intro q;rw[hE,hE]at q;have q1:((sIx items.size 0 lo:Nat):Int)=0:=eq_of_beq q.1.1;have q2:sIx items.size items.size hi-sIx items.size 0 lo=items.size:=eq_of_beq q.2;exact hw #["",""]
 show wpAny _ _ (if (((sIx items.size 0 lo:Nat):Int)==0&&(1:Int)==1&&(sIx items.size items.size hi-sIx items.size 0 lo)==items.size)=true then _ else _) _ _ s
 rw[if_neg U,Te]
 first
  | exact g6 (m:=Builtin.Tuple.tupleExact _) (tX (gu #[_,rfl,gu h]) z)
  | exact g6 (m:=Builtin.Tuple.tupleExact _) (tX (g6 (gu (gu #[_,rfl,gu h]))) z)
  | exact g6 (g6 (m:=Builtin.Tuple.tupleExact _) (tX (gu (gu #[_,rfl,gu h])) z))
  | exact g6 (g6 (m:=Builtin.Tuple.tupleExact _) (tX (gu #[_,rfl,gu h]) z))
end
end HT
namespace L2
open PySem PySem.Spec PyProof.Rows
abbrev TO:=St->Hp->(Option Int->Hp->Prop)->Prop
def PO(X:Cx)(e:Option Expr)(t:TO):Prop :=
 ∀(pins:List (Addr×Obj)) (s:ab) (σ:St) (H:Hp) (Q:Option Int->Hp->Prop),"I" H s->t σ H Q ->
  X[3] (evalPart e X.env) (λu s'=>∃ o H',"I" H' s'/\IsPart u o/\Q o H') X.xe s
def Tf:TO:=λ_ H Q=>Q none H
def Tg(t:TE):TO:=λσ H Q=>t σ H λx H1=>∃ i,x=.int i/\Q ↑i H1
def yZ:∀{us},Vals (ns.map V.int) us->IntsAre us ns:=by
 induction ns with
 | nil=>intro us r;rw[cy]at r;cases r;exact .nil
 | cons n ns ih =>
  intro us r;rw[gN]at r;cases r with
  | cons r1 r2 =>
   obtain⟨t,e⟩:=r1;subst e;exact .cons n t (ih r2)
section
variable{X:Cx}{e:Expr}{te:TE}{lo hi:Option Expr}{tl th:TO}{pos p2:Pos}
def Th:PO X none Tf:=by
 intro pins s σ H Q I h;rw[evalPart_none];exact gu #[none,H,I,.none,h]
def Ti(h:PE X e te):PO X ↑e (Tg te):=by
 intro pins s σ H Q I hw;rw[evalPart_some];refine thn (h pins s σ H _ I hw) λu s1 #[x,H1,I1,r1,q1]=>?_
 obtain⟨i,rfl,q⟩:=q1;obtain⟨t,rfl⟩:=r1;exact#[!i,H1,I1,.int i t,q]
def SlR(X:Cx)(r:V->Option Int->Option Int->Hp->VK->Prop):Prop :=
 ∀(pins:List (Addr×Obj)) (s:ab) (σ:St) (H:Hp) (x:V) (v vl vu:aa) (lo hi:Option Int) (sl:Addr) (Q:VK),"I" H s->RelV x v->s.heap.IsSliceOf sl vl vu .none->IsPart vl lo->IsPart vu hi->r x lo hi H Q ->
  ∃ T id,typeLookup (.type T) "__getitem__"=pure (!(.builtin id))/\s.TypeIs v T/\X[3] (getItem v (.ref sl)) (EP X pins σ Q) X.xe s
def SlR.or(h:SlR X r)(h':SlR X r'):SlR X (λx lo hi H Q=>r x lo hi H Q\/r' x lo hi H Q):=by
 intro pins s σ H x v vl vu lo hi sl Q I rx hs pl pu q;rcases q with q|q
 .exact h pins s σ H x v vl vu lo hi sl Q I rx hs pl pu q
 exact h' pins s σ H x v vl vu lo hi sl Q I rx hs pl pu q
def tSl(r:V->Option Int->Option Int->Hp->VK->Prop)(te:TE)(tl th:TO):TE:=λσ H Q=>te σ H λx H1=>tl σ H1 λl H2=>th σ H2 λu H3=>r x l u H3 Q
def WN(z:SlR X r)(B:PE X e te)(O:PO X lo tl)(U:PO X hi th):PE X (.Subscript e (.Slice lo hi none p2) pos) (tSl r te tl th):=by
 intro pins s σ H Q I h;refine Subscript_ (thn (B pins s σ H _ I h) λv s1 #[x,H1,I1,r1,q1]=>?_)
 refine wpAny_Slice (thn (O pins s1 σ H1 _ I1 q1) λvl s2 #[l,H2,I2,pl,q2]=>thn (U pins s2 σ H2 _ I2 q2) λvu s3 #[u,H3,I3,pu,q3]=>?_)
 rw[evalPart_none];refine gu ?_;have I4:"I" H3 {s3 with heap:=s3.heap.push {cls:=.type "slice",data:=.fields (List.toArray [vl,vu,.none])}}:=I3.kept (t':=s3.toks) λb ob q=>gq _ q
 obtain⟨T,id,hT,ht,hg⟩:=z pins {s3 with heap:=s3.heap.push {cls:=.type "slice",data:=.fields (List.toArray [vl,vu,.none])}} σ H3 x v vl vu l u s3[0] Q I4 r1 (Heap.IsSliceOf.new ..) pl pu q3;show X[3] (subscriptTail e (.Slice lo hi none p2) v (.ref s3[0])) (EP X pins σ Q) X.xe {s3 with heap:=s3.heap.push {cls:=.type "slice",data:=.fields (List.toArray [vl,vu,.none])}};exact tail_any (ops:=[.ref s3[0],v]) ht hT hg (by with_unfolding_all rfl)
def vU(xs:List V)(lo hi:Option Int):List V:=(xs.drop (HT.sIx xs[1] 0 lo)).take (HT.sIx xs[1] xs[1] hi-HT.sIx xs[1] 0 lo)
def WO(xs)(lo hi):(vU xs lo hi)[1]<=xs[1]:=by
 unfold vU;rw[tB,fW];lia
def Tj(K:Frag):V->Option Int->Option Int->Hp->VK->Prop:=λx lo hi H Q=>∃ a xs,x=.ref a/\SqT K H a xs /\
 ¬ (HT.sIx xs[1] 0 lo=0/\HT.sIx xs[1] xs[1] hi=xs[1])/\∀ p,H p=none->Q (.ref p) (upd H p (.tup (vU xs lo hi)))
def WP:SlR X (Tj X.K):=by
 intro pins s σ H x v vl vu lo hi sl Q I rx hs pl pu h;obtain⟨a,xs,rfl,hx,hw,q⟩:=h;cases rx;obtain⟨its,r,ht,hz⟩:=I.tuple hx;have z:its.toArray.size=xs[1]:=by rw[gU];exact r.length.symm
 refine#["tuple",_,cg.lookup,ht.typeIs,?_];refine HT.getItem_tuple_cut ht hs pl pu (by rw[z];exact hw) ?_ (by rw[z];exact hz)
 rw[z];refine#[.ref s[0],_,I.laid (t':=s.toks) (o:=.tup (vU xs lo hi)) (λb ob q=>gq _ q) (gy _) ?_,rfl,q _ (I.hok.fresh (gy _))]
 exact#[tV (WO xs lo hi) hz,_,(r.drop (HT.sIx xs[1] 0 lo)).take (HT.sIx xs[1] xs[1] hi-HT.sIx xs[1] 0 lo),IsTup.new _ _]
def Tk(K:Frag):R2:=λx y H Q=>∃ a b xs ys,x=.ref a/\y=.ref b/\SqT K H a xs/\SqT K H b ys/\xs≠[]/\xs[1]+ys[1]<=sizeLine /\
 (ys=[]->Q (.ref a) H)/\(ys≠[]->∀ p,H p=none->Q (.ref p) (upd H p (.tup (xs++ys))))
def Vals.nil_iff(r:Vals xs us):us=[]↔xs=[]:=by
 cases r with
 | nil=>simp
 | cons _ _=>simp
def Tl:OpR X (binaryOp .Add) (Tk X.K):=by
 intro pins s σ H x y v u Q I rx ry h;obtain⟨a,b,xs,ys,rfl,rfl,ha,hb,hx,hz,q1,q2⟩:=h;cases rx;cases ry;obtain⟨its,r1,p1,_⟩:=I.tuple ha;obtain⟨B,r2,p2,_⟩:=I.tuple hb;refine HT.cat_tup p1 p2 (λz=>hx (r1.nil_iff.mp z)) (λz=>#[.ref a,H,I,rfl,q1 (r2.nil_iff.mp z)]) (λz=>?_) (by rw[<- r1[1],<- r2[1]];exact hz)
 refine#[.ref s[0],_,I.laid (t':=s.toks) (o:=.tup (xs++ys)) (λb ob q=>gq _ q) (gy _) ?_,rfl,q2 (λw=>z (r2.nil_iff.mpr w)) _ (I.hok.fresh (gy _))]
 exact#[by rw[gG];exact hz,_,r1.append r2,IsTup.new _ _]
end
def ixN(n:Nat)(i:Int):Option Nat:=if 0<=i then(if i<n then !i.toNat else none)else if -(n:Int)<=i then !(i+n).toNat else none
def atI{α:Type}(xs:List α)(i:Int):Option α:=(ixN xs[1] i).bind λj=>xs[j]?
def WQ(h:ixN n i=!j):seqIndex? i n=!j/\j<n/\-n<=i/\i<n:=by
 unfold ixN at h;by_cases h0:0<=i
 .rw[if_pos h0]at h;by_cases h1:i<n
  .rw[if_pos h1]at h;have e:i.toNat=j:=tG h;exact#[by rw[seqIndex_of h0 h1,e],"","",h1]
  rw[if_neg h1]at h;cases h
 rw[if_neg h0]at h;by_cases h1:-(n:Int)<=i
 .rw[if_pos h1]at h;have e:(i+n).toNat=j:=tG h;exact#[by rw[seqIndex_neg "" h1,e],"",h1,""]
 rw[if_neg h1]at h;cases h
def JW(h:atI xs i=!v):∃ j,seqIndex? i xs[1]=!j/\xs[j]?=!v/\j<xs[1]/\-(xs[1])<=i/\i<xs[1]:=by
 unfold atI at h;cases e:ixN xs[1] i with
 | none=>rw[e]at h;cases h
 | some j =>
  rw[e]at h;obtain⟨h1,h2,h3,h4⟩:=WQ e;exact#[j,h1,h,h2,h3,h4]
def yh(b:Expr):Prop:=∀ o i,subscripted b false o i=operate [o,i] (getItem o i)
def IxR(X:Cx)(r:R2):Prop :=
 ∀(value z:Expr) (pins:List (Addr×Obj)) (s:ab) (σ:St) (H:Hp) (x y:V) (v u:aa) (Q:VK),"I" H s->RelV x v->RelV y u->r x y H Q ->
  subscripted z false v u=operate [v,u] (getItem v u)->X[3] (subscriptTail value z v u) (EP X pins σ Q) X.xe s
def MtR(X:Cx)(id:String)(r:V->List V->Hp->VK->Prop):Prop :=
 ∀(pins:List (Addr×Obj)) (s:ab) (σ:St) (H:Hp) (x:V) (xs:List V) (v:aa) (us:List aa) (Q:VK),"I" H s->RelV x v->Vals xs us->r x xs H Q ->
  X[3] (call (.builtin id) (v::us)) (EP X pins σ Q) X.xe s
section
variable{X:Cx}{a b:Expr}{ta tb:TE}{pos:Pos}
def Tn(z:IxR X r)(B:PE X a ta)(O:PE X b tb)(U:yh b):PE X (.Subscript a b pos) (tOp r ta tb):=by
 intro pins s σ H Q I h;exact Subscript_ (GO B O I h λv u s2 x y H2 I2 rx ry q=>z a b pins s2 σ H2 x y v u Q I2 rx ry q (U _ _))
def To(K:Frag):R2:=λx y H Q=>∃ p xs i v,x=.ref p/\y=.int i/\SqL K H p xs/\atI xs i=!v/\Q v H
def Tp(K:Frag):R2:=λx y H Q=>∃ p xs i v,x=.ref p/\y=.int i/\SqT K H p xs/\atI xs i=!v/\Q v H
def Tq:R2:=λx y H Q=>∃ z i c,x=.str z/\y=.int i/\z[1]<=sizeLine/\atI z.cps.toList i=!c/\Q (.str #[(List.toArray [c])]) H
def ix_list:IxR X (To X.K):=by
 intro value B pins s σ H x y v u Q I rx ry h hs;obtain⟨p,xs,i,z,rfl,rfl,hq,he,q⟩:=h;cases rx;obtain⟨t,rfl⟩:=ry;obtain⟨its,r,pl,hz⟩:=I.list hq;obtain⟨j,h1,h2,h3,h4,h5⟩:=JW he;obtain⟨w,ew,O⟩:=r.get h2;have hl:=r[1];have hn:=yY;have fin:EP X pins σ Q w s:=#[z,H,I,O,q];by_cases h0:0<=i
 .have hj:i.toNat=j:=by
   rw[seqIndex_of h0 h5]at h1;exact tG h1
  exact item_listR pl.isList h0 "" (by rw[hj];simpa using ew) fin hs
 have hj:(i+(its.toArray.size:Int)).toNat=j:=by
  rw[seqIndex_neg "" h4]at h1
  rw[gU,<- hl];exact tG h1
 exact subscriptTail_builtinR (x:=w) pl.isList.typeIs slot_list_getitem.lookup
  (wpAny_getItem_list_neg (Q:=λr s'=>r=w/\EP X pins σ Q r s') pl.isList "" (by rw[gU]<;>lia) "" (by rw[hj];simpa using ew) #[rfl,fin]) hs
def Ts:IxR X (Tp X.K):=by
 intro value B pins s σ H x y v u Q I rx ry h hs;obtain⟨p,xs,i,z,rfl,rfl,hq,he,q⟩:=h;cases rx;obtain⟨t,rfl⟩:=ry;obtain⟨its,r,pl,hz⟩:=I.tuple hq;obtain⟨j,h1,h2,h3,h4,h5⟩:=JW he;obtain⟨w,ew,O⟩:=r.get h2;have hl:=r[1];have hn:=yY;have fin:EP X pins σ Q w s:=#[z,H,I,O,q];exact subscriptTail_builtinR (x:=w) pl.typeIs slot_tuple_getitem.lookup
  (getItem_tuple (j:=j) (Q:=λr s'=>r=w/\EP X pins σ Q r s') pl "" "" (by rw[gU,<- hl];exact h1) ew[""] #[rfl,fin]) hs
def Tt:IxR X Tq:=by
 intro value B pins s σ H x y v u Q I rx ry h hs;obtain⟨z,i,c,rfl,rfl,hz,he,q⟩:=h;obtain⟨t,rfl⟩:=rx;obtain⟨t',rfl⟩:=ry;obtain⟨j,h1,h2,h3,h4,h5⟩:=JW he;have hl:z.cps.toList.length=z[1]:=by simp[Str.length]
 rw[hl]at h1 h4 h5;have hn:=yY;exact tail_any (typeIs_str s z t) slot_str_getitem.lookup (getItem_str (c:=c) (by
  have e1:decide (i < -(2 ^ 63:Int))=false:=t6 ""
  have e2:decide (i≥2 ^ 63)=false:=t6 ""
  rw[e1,e2,Bool.or_false]) (by rw[h1];simpa using h2) #[.str #[(List.toArray [c])],H,I.tok _,#[_,rfl],q]) hs
def Tu(its:List aa)(n j)(u):Obj.mapSeq (·.setIfInBounds j u) {cls:=.type "list",data:=.seq its.toArray n}={cls:=.type "list",data:=.seq (its.set j u).toArray n}:=by
 simp[Obj.mapSeq]
def Inv.lst{σ:St}{H:Hp}{s:ab}{p:Addr}{xs:List V}(I:"I" H s)(h:H p=!(.lst xs)) :
  ∃ its n,Vals xs its/\s.heap.get? p=some {cls:=.type "list",data:=.seq its.toArray n}/\xs[1]<=sizeLine:=by
 obtain⟨z,its,n,r,e⟩:=I.hok p _ h;exact#[its,n,r,e,z]
def Inv.lstUpd{H:Hp}{s:ab}{xs ys:List V}{its its':List aa}{n z:Nat}{f:Obj->Obj}(I:"I" H s)(h:H p=!(.lst xs))
  (O:s.heap.get? p=some {cls:=.type "list",data:=.seq its.toArray n})(B:f {cls:=.type "list",data:=.seq its.toArray n}={cls:=.type "list",data:=.seq its'.toArray z})(r:Vals ys its')(hz:ys[1]<=sizeLine)(t) :
  "I" (upd H p (.lst ys)) {s with heap:=s.heap.update p f,toks:=t}:=by
 have e:(s.heap.update p f).get? p=some {cls:=.type "list",data:=.seq its'.toArray z}:=by
  rw[tZ f O (by rw[B]<;>rfl),B]
 refine I.write (x:=p) (e:=p) (by rw[h];trivial) (.inl rfl) (λb u hb q=>(tJ _ _ (t9 hb)).trans q) #[_,e] ?_
 exact#[hz,its',z,r,e]
def Tv:V->V->V->Hp->(Hp->Prop)->Prop:=λo i v H Q=>∃ p xs k j,o=.ref p/\i=.int k/\H p=!(.lst xs)/\ixN xs[1] k=!j/\Q (upd H p (.lst (xs.set j v)))
def Tw:PSet X Tv:=by
 intro pins s σ H o i v ov iv u Q I ro ri rv h;obtain⟨p,xs,k,j,rfl,rfl,hp,hj,q⟩:=h;cases ro;obtain⟨t,rfl⟩:=ri;obtain⟨its,n,r,ho,hz⟩:=I.lst hp;obtain⟨h1,h2,h3,h4⟩:=WQ hj;have hl:=r[1];have hn:=yY;have I':"I" (upd H p (.lst (xs.set j v))) {s with heap:=s.heap.update p (Obj.mapSeq (·.setIfInBounds j u))} :=
  I.lstUpd hp ho (Tu its n j u) (r.set rv j) (by rw[bq];exact hz) s.toks
 by_cases h0:0<=k
 .have hk:k.toNat=j:=by
   rw[seqIndex_of h0 h4]at h1;exact tG h1
  exact PySem.W.ki_setAt ho h0 "" (by rw[gU,<- hl];exact h4) (by rw[hk];exact#[_,I',q])
 have hk:(k+(its.toArray.size:Int)).toNat=j:=by
  rw[seqIndex_neg "" h3]at h1
  rw[gU,<- hl];exact tG h1
 exact PySem.W.ki_setBack ho "" (by rw[gU,<- hl];exact h3) "" (by rw[hk];exact#[_,I',q])
def Tx(lo hi)(n):(sliceBounds lo hi none n).1=(HT.sIx n 0 lo)/\(sliceBounds lo hi none n).2.1=(HT.sIx n n hi)/\(sliceBounds lo hi none n).2.2=1:=by
 refine#[?_,?_,rfl]
 .cases lo with
  | none=>simp[sliceBounds,HT.sIx]
  | some i =>
   simp only[sliceBounds,HT.sIx,Option.getD_none,show(1:Int)>0 by decide,d8]
   by_cases h:i<0
   .simp only[h,d8]<;>lia
   simp only[h,pZ]<;>lia
 cases hi with
 | none=>simp[sliceBounds,HT.sIx]
 | some i =>
  simp only[sliceBounds,HT.sIx,Option.getD_none,show(1:Int)>0 by decide,d8]
  by_cases h:i<0
  .simp only[h,d8]<;>lia
  simp only[h,pZ]<;>lia
def Tz(its:List aa)(lo hi):slicePick its.toArray lo hi none=((its.drop (HT.sIx its[1] 0 lo)).take (HT.sIx its[1] its[1] hi-HT.sIx its[1] 0 lo)).toArray:=by
 obtain⟨h1,h2,h3⟩:=Tx lo hi its.toArray.size;unfold slicePick;rw[h1,h2,h3];simp only[sliceRange_one,pick_run,gU]<;>rfl
def TC(K:Frag):V->Option Int->Option Int->Hp->VK->Prop:=λx lo hi H Q=>∃ a xs,x=.ref a/\SqL K H a xs/\∀ p,H p=none->Q (.ref p) (upd H p (.lst (vU xs lo hi)))
def WR:SlR X (TC X.K):=by
 intro pins s σ H x v vl vu lo hi sl Q I rx hs pl pu h;obtain⟨a,xs,rfl,hx,q⟩:=h;cases rx;obtain⟨its,r,ht,hz⟩:=I.list hx;have z:=r[1];refine#["list",_,slot_list_getitem.lookup,ht.isList.typeIs,?_];refine wpAny_getItem_list_slice ht.isList hs pl pu .none "s" ?_ (by rw[gU]<;>lia)
 rw[Tz,<- z];refine#[.ref s[0],_,I.laid (t':=s.toks) (o:=.lst (vU xs lo hi)) (λb ob q=>gq _ q) (gy _) ?_,rfl,q _ (I.hok.fresh (gy _))]
 exact#[tV (WO xs lo hi) hz,_,0,(r.drop (HT.sIx xs[1] 0 lo)).take (HT.sIx xs[1] xs[1] hi-HT.sIx xs[1] 0 lo),gM _ rfl]
def TD:yg X (.builtin "len") (λxs H Q=>∃ p ys,xs=[.ref p]/\(SqL X.K H p ys\/SqT X.K H p ys)/\Q (.int ys[1]) H):=by
 intro pins s σ H xs us Q I r h;obtain⟨p,ys,rfl,hq,q⟩:=h;obtain⟨u,rfl,rx⟩:=JV r;cases rx;have hn:=yY;rcases hq with hq|hq
 .obtain⟨its,r',pl,hz⟩:=I.list hq;have z:=r'[1];exact Calls.call_len_list pl.isList (by simp only[gU]<;>lia) #[.int ys[1],H,I.tok _,#[s.toks+1,by rw[gU,z]],q]
 obtain⟨its,r',pl,hz⟩:=I.tuple hq;have z:=r'[1];exact len_tuple pl (by simp only[gU]<;>lia) #[.int ys[1],H,I.tok _,#[s.toks+1,by rw[gU,z]],q]
def TH:yg X (.type "list") (λxs H Q=>∃ p ys,xs=[.ref p]/\(SqL X.K H p ys\/SqT X.K H p ys)/\∀ l,H l=none->Q (.ref l) (upd H l (.lst ys))):=by
 intro pins s σ H xs us Q I r h;obtain⟨p,ys,rfl,hq,q⟩:=h;obtain⟨u,rfl,rx⟩:=JV r;cases rx;have fin:∀(its:List aa),Vals ys its->ys[1]<=sizeLine->∀(h':Heap) (c':Nat),(∀ b o',s.heap.get? b=!o'->h'.get? b=!o') ->
   h'.get? s[0]=some {cls:=.type "list",dict:=none,data:=.seq its.toArray c',slots:=#[]}->EP X pins σ Q (.ref s[0]) {s with heap:=h'}:=λits r' hz h' c' kp e =>
  #[.ref s[0],_,I.laid (t':=s.toks) kp (gy _) (show ObjOk X.prog X.w _ h' _ (.lst ys)from#[hz,its,c',r',e]),rfl,q _ (I.hok.fresh (gy _))]
 rcases hq with hq|hq
 .obtain⟨its,r',pl,hz⟩:=I.list hq;have z:=r'[1];obtain⟨o,ho,hc,n,hd⟩:=pl.isList;exact call_list_seq p (.inl rfl) ho hc hd (λh' c' kp e=>fin its r' hz h' c' kp e) (by simp only[gU]<;>lia)
 obtain⟨its,r',pl,hz⟩:=I.tuple hq;have z:=r'[1];obtain⟨o,ho,hc,n,hd⟩:=pl;exact call_list_seq p (.inr rfl) ho hc hd (λh' c' kp e=>fin its r' hz h' c' kp e) (by simp only[gU]<;>lia)
def TJ:yg X (.type "tuple") (λxs H Q=>∃ p ys,xs=[.ref p]/\((SqL X.K H p ys/\∀ l,H l=none->Q (.ref l) (upd H l (.tup ys)))\/(SqT X.K H p ys/\Q (.ref p) H))):=by
 intro pins s σ H xs us Q I r h;obtain⟨p,ys,rfl,h⟩:=h;obtain⟨u,rfl,rx⟩:=JV r;cases rx;rcases h with⟨hq,q⟩|⟨hq,q⟩
 .obtain⟨its,r',pl,hz⟩:=I.list hq;have z:=r'[1];refine call_tuple_list pl.isList (λh' kp=>?_) (by simp only[gU]<;>lia)
  have I1:"I" H {s with heap:=h'}:=I.kept (t':=s.toks) kp;have I2:"I" (upd H h'.objs.size (.tup ys)) {s with heap:=h'.push {cls:=.type "tuple",data:=.seq its.toArray}} :=
   I1.laid (t':=s.toks) (λb o e=>gq _ e) (gy _) (show ObjOk X.prog X.w _ _ _ (.tup ys)from#[hz,its,r',IsTup.new _ _])
  exact#[.ref h'.objs.size,_,I2,rfl,q _ (I1.hok.fresh (gy _))]
 obtain⟨its,r',pl,hz⟩:=I.tuple hq;exact call_tuple_same pl #[.ref p,H,I,rfl,q]
def tyV(K:Frag)(T:String)(x:V)(H:Hp):Prop:=match x with
 | .str _=>T="str"
 | .int _=>T="int"
 | .ref p=>(T="list"/\∃ xs,SqL K H p xs)\/(T="tuple"/\∃ o,K.lookup p=!o/\o.cls=.type "tuple"/\o.dict=none) \/
   (T="dict"/\((∃ kvs,H p=!(.dK kvs))\/∃ kvs,H p=!(.dT kvs)))\/(T="set"/\∃ S n,H p=!(.set S n))
 | _=>False
def TK{s:ab}(I:"I" H s)(r:RelV x v)(ty:tyV X.K T x H) :
  s.TypeIs v T/\∀ a,v=.ref a->∃ ob,s.heap.get? a=!ob/\ob.dict=none:=by
 cases x with
 | str z =>
  obtain⟨t,rfl⟩:=r;cases (show T="str" from ty)
  exact#[typeIs_str s z t,λ_ e=>nomatch e]
 | int i =>
  obtain⟨t,rfl⟩:=r;cases (show T="int" from ty)
  exact#[bj s i t,λ_ e=>nomatch e]
 | ref p =>
  cases r;rcases ty with⟨rfl,xs,hq⟩|⟨rfl,o,hk,hc,hd⟩|⟨rfl,hk⟩|⟨rfl,S,n,hk⟩
  .obtain⟨its,_,pl,_⟩:=I.list hq;refine#[pl.isList.typeIs,λa e=>?_]
   cases e;obtain⟨o,n,e,c,hd,_⟩:=pl;exact#[o,e,hd]
  .refine#[#[o,I.kIn p o hk,hc],λa e=>?_]
   cases e;exact#[o,I.kIn _ o hk,hd]
  .have z:∃ o,s.heap.get? p=!o/\o.ExactDict:=by
    rcases hk with⟨kvs,hk⟩|⟨kvs,hk⟩
    .obtain⟨_,_,_,_,o,_,_,e,ex,_⟩:=I.hok p _ hk;exact#[o,e,ex]
    obtain⟨_,_,_,_,o,_,_,e,ex,_⟩:=I.hok p _ hk;exact#[o,e,ex]
   obtain⟨o,e,ex⟩:=z;refine#[#[o,e,ex.1],λa e2=>?_]
   cases e2;exact#[o,e,ex.2.1]
  obtain⟨o,_,_,_,e,ex,_⟩:=I.hok p _ hk;refine#[#[o,e,ex.1],λa e2=>?_]
  cases e2;exact#[o,e,ex.2.1]
 | _=>exact False.elim ty
def tBM(K:Frag)(T:String)(r:V->List V->Hp->VK->Prop)(to:TE)(t:TA):TE:=λσ H Q=>to σ H λx H1=>tyV K T x H1/\t σ H1 λxs H2=>r x xs H2 Q
variable{o e:Expr}{es:List Expr}{to:TE}{t:TA}{name:Str}{apos cpos:Pos}{T id:String}{r:V->List V->Hp->VK->Prop}
def wO(Z:PlainAttrs T)(slot:Slot T name id)(Y:typeOf (.builtin id)=pure (.type "method_descriptor"))(hm:MtR X id r)(ho:PE X o to)(ha:PA X (e::es) t)
  (B:(attributeBase o name X.env (eval o X.env)=eval o X.env)["r"])
  (U:(((backTo cpos (starEach (e::es) X.env)).all (λx=>not x.1)&&(backToKw cpos (keywordEach [] X.env)).all (λx=>x.1.isSome)
   && decide ((e::es)[1]+([]:List Keyword)[1]+(if ([]:List Keyword).isEmpty then 0 else 1)<30))=true)["r"])
  (O:((apos.endLine==cpos.line)=true)["r"]) (hs:(starEach (e::es) X.env=(false,eval e X.env)::starEach es X.env)["r"]) (z:((backTo cpos (starEach es X.env)).any (·.1)=false)["r"]) :
  PE X (.Call (.Attribute o name apos) (e::es) [] cpos) (tBM X.K T r to t):=by
 intro pins s σ H Q I h;refine wpAny_Call_method_late B U O rfl (thn (ho pins s σ H _ I h) λv s1 #[x,H1,I1,r1,ty,q1]=>?_)
 obtain⟨h1,h2⟩:=TK I1 r1 ty;refine#[T,id,Z,slot,Y,h1,h2,?_];have hA:=ha cpos pins s1 σ H1 _ I1 q1;rw[hs]at hA ⊢;refine cI (by show(false||(backTo cpos (starEach es X.env)).any (·.1))=false;rw[z]<;>rfl) (cW ?_)
 exact thn hA λus s2 #[vs,H2,I2,r2,q2]=>hm pins s2 σ H2 x vs v us Q I2 r1 r2 q2
end
def MtM(X:Cx)(id:String)(r:V->List V->Hp->VK->Prop):Prop :=
 ∀(pins:List (Addr×Obj)) (s:ab) (σ:St) (H:Hp) (x:V) (xs:List V) (v:aa) (us:List aa) (Q:VK),"I" H s->RelV x v->Vals xs us->r x xs H Q ->
  X[3] (call (.builtin id) (v::us)) (EP X pins σ Q) X.xe s
theorem Vals.one:∀{x} {us},Vals [x] us->∃ u,us=[u]/\RelV x u
 | _,_,.cons r .nil=>#[_,rfl,r]
theorem Vals.two:∀{x y} {us},Vals [x,y] us->∃ u v,us=[u,v]/\RelV x u/\RelV y v
 | _,_,_,.cons r (.cons q .nil)=>#[_,_,rfl,r,q]
def Vals.reverse(h:Vals xs us):Vals xs.reverse us.reverse:=by
 induction h with
 | nil=>exact .nil
 | cons r t ih=>rw[bO,bO];exact Vals.append ih (.cons r .nil)
section
variable{X:Cx}{pins:List (Addr×Obj)}{σ:St}{H:Hp}{s:ab}{l b:Addr}{xs ys zs:List V}
def Inv.lset{its its':List aa}{n:Nat}{f:Array aa->Array aa}{t':Nat}(I:"I" H s)(z:H l=!(.lst xs))
  (e:s.heap.get? l=some {cls:=.type "list",data:=.seq its.toArray n})(B:f its.toArray=its'.toArray)(O:Vals ys its')(hz:ys[1]<=sizeLine) :
  "I" (upd H l (.lst ys)) {s with heap:=s.heap.update l (Obj.mapSeq f),toks:=t'}:=by
 have q:=PySem.IsL.update e f;rw[B]at q;refine I.write (x:=l) (e:=l) (by rw[z];exact trivial) (.inl rfl) (λb' u hb hu=>(tJ s.heap (Obj.mapSeq f) (t9 hb)).trans hu) #[_,q] ?_
 exact#[hz,its',_,O,q]
def Inv.lstM(I:"I" H s)(B:H l=!(.lst xs)):xs[1]<=sizeLine/\∃ its n,Vals xs its/\xs[1]=its[1]/\s.heap.get? l=some {cls:=.type "list",data:=.seq its.toArray n}:=by
 obtain⟨z,its,n,r,e⟩:=I.hok l _ B;exact#[z,its,n,r,r[1],e]
def TL(h:n<=sizeLine):Builtin.List.listTooLong n=false:=by
 unfold Builtin.List.listTooLong;exact t6 ""
end
section
variable{X:Cx}
def TM:V->List V->Hp->VK->Prop:=λx vs H Q=>∃ l xs y,x=.ref l/\vs=[y]/\H l=!(.lst xs)/\xs[1]<sizeLine/\Q .non (upd H l (.lst (xs++[y])))
def xG:MtM X "list.append" TM:=by
 intro pins s σ H x vs v us Q I rx rv h;obtain⟨l,xs,y,rfl,rfl,hH,hz,q⟩:=h;cases rx;obtain⟨u,rfl,ru⟩:=rv.one;obtain⟨z,its,n,r,hl,e⟩:=I.lstM hH;refine bP F.slot_list_append #[_,e,rfl] F.entry_list_append (F.args_list_append_2 _ _) (PySem.list_append l its.toArray n u (by rw[gU];lia)) #[e,?_]
 refine#[.non,_,I.lset (its':=its++[u]) hH e "s" (r.append (.cons ru .nil)) ?_,rfl,q]
 rw[gG,fO];lia
def TN:V->List V->Hp->VK->Prop:=λx vs H Q=>∃ l b xs zs,x=.ref l/\vs=[.ref b]/\H l=!(.lst xs)/\H b=!(.lst zs)/\xs[1]+zs[1]<=sizeLine/\Q .non (upd H l (.lst (xs++zs)))
def TQ:MtM X "list.extend" TN:=by
 intro pins s σ H x vs v us Q I rx rv h;obtain⟨l,b,xs,zs,rfl,rfl,hH,hB,hz,q⟩:=h;cases rx;obtain⟨u,rfl,ru⟩:=rv.one;cases ru;obtain⟨z,its,n,r,hl,e⟩:=I.lstM hH;obtain⟨z2,B,n2,r2,U,e2⟩:=I.lstM hB;have hsz:its.toArray.size+B.toArray.size<=sizeLine:=by rw[gU,gU];lia
 have O:¬ (not its.toArray.isEmpty&&Builtin.List.listTooLong (its.toArray.size+B.toArray.size))=true:=by
  rw[TL hsz,Bool.and_false];exact pQ
 refine bP F.slot_list_extend #[_,e,rfl] F.entry_list_extend (F.args_list_extend_2 _ _)
  (AutoSeq1.list_extend_list_list_0 l its.toArray n b B.toArray n2 O (by rw[gU];lia) "") #[e,e2,?_]
 refine#[.non,_,I.lset (its':=its++B) hH e "s" (r.append r2) ?_,rfl,q]
 rw[gG];lia
end
section
variable{prog:af}{w:World}{A:ag}{E:aa->ab->Prop}{s:ab}
set_option maxRecDepth 100000 in
end
section
variable{X:Cx}
end
section
variable{κ:Type} [DecidableEq κ]
def jo(kvs:List (κ×V))(k:κ):Option V:=(kvs.find? λkv=>decide (kv.1=k)).map (·.2)
def jH(kvs:List (κ×V))(k:κ)(v:V):List (κ×V) :=
 if (kvs.any λkv=>decide (kv.1=k))=true then kvs.map (λkv=>if kv.1=k then(kv.1,v)else kv)else kvs++[(k,v)]
def xH{p:κ×V}{k:κ}(e:p.1=k):jo (p::r) k=!p.2:=by simp[jo,cO,e]
def xI{p:κ×V}{k:κ}(e:¬ p.1=k):jo (p::r) k=jo r k:=by simp[jo,cO,e]
theorem JX(k):∀ kvs:List (κ×V),(kvs.any λkv=>decide (kv.1=k))=(jo kvs k).isSome
 | []=>rfl
 | p::r=>by
  rw[bi];by_cases e:p.1=k
  .simp only[xH e,tF e,Bool.true_or,Option.isSome_some]
  rw[xI e,t6 e,Bool.false_or];exact JX k r
def JY(kvs)(k:κ)(v):(jH kvs k v)[1]<=kvs[1]+1:=by
 unfold jH;split
 .rw[gg];lia
 rw[gG,gK,fH];lia
def TR{k:κ}(v)(h:jo kvs k=none):jH kvs k v=kvs++[(k,v)]:=by
 unfold jH;rw[JX,h];exact if_neg "d"
def RelO.isSome_eq(r:RelO o u):o.isSome=u.isSome:=by
 cases o with
 | none=>cases u with
  | none=>rfl
  | some _=>exact(show False from r).elim
 | some _=>cases u with
  | none=>exact(show False from r).elim
  | some _=>rfl
def RelO.getD{o:Option V}{u:Option aa}(r:RelO o u)(z:RelV d d'):RelV (o.getD d) (u.getD d'):=by
 cases o with
 | none=>cases u with
  | none=>exact z
  | some _=>exact(show False from r).elim
 | some _=>cases u with
  | none=>exact(show False from r).elim
  | some _=>exact r
def KV.val(r:KV kvs vs)(k:κ):RelO (jo kvs k) (valueAt vs k):=by
 unfold KV at r
 induction r with
 | nil=>exact True.intro
 | @cons p q ps qs h t ih =>
  obtain⟨h1,h2⟩:=h;by_cases e:p.1=k
  .have e':q.1=k:=h1.symm.trans e;have b:valueAt (q::qs) k=!q.2:=by simp[valueAt,cO,e']
   rw[xH e,b];exact h2
  have e':¬ q.1=k:=λz=>e (h1.trans z)
  have b:valueAt (q::qs) k=valueAt qs k:=by simp[valueAt,cO,e']
  rw[xI e,b];exact ih
def KV.any(r:KV kvs vs)(k:κ):(kvs.any λkv=>decide (kv.1=k))=vs.any λkv=>decide (kv.1=k):=by
 unfold KV at r
 induction r with
 | nil=>rfl
 | cons h t ih=>rw[bi,bi,ih,h.1]
def KV.repl{kvs:List (κ×V)}{vs:List (κ×aa)}(r:KV kvs vs)(k)(B:RelV y u) :
  KV (kvs.map λkv=>if kv.1=k then(kv.1,y)else kv) (vs.map λkv=>if kv.1=k then(kv.1,u)else kv):=by
 unfold KV at r ⊢
 induction r with
 | nil=>exact .nil
 | @cons p q ps qs h t ih =>
  rw[gN,gN];refine .cons ?_ ih;obtain⟨h1,h2⟩:=h;by_cases e:p.1=k
  .rw[if_pos e,if_pos (h1.symm.trans e)];exact#[h1,B]
  rw[if_neg e,if_neg λz=>e (h1.trans z)];exact#[h1,h2]
def KV.put(r:KV kvs vs)(k:κ)(z:RelV y u):KV (jH kvs k y) (stored vs k u):=by
 unfold jH stored;rw[r.any k];by_cases e:(vs.any λkv=>decide (kv.1=k))=true
 .rw[if_pos e,if_pos e];exact r.repl k z
 rw[if_neg e,if_neg e];exact Paired.snoc r #[rfl,z]
def KV.keys{vs:List (κ×aa)}(r:KV kvs vs):kvs.map (·.1)=vs.map (·.1):=by
 unfold KV at r
 induction r with
 | nil=>rfl
 | cons h t ih=>rw[gN,gN,ih,h.1]
def KV.length{vs:List (κ×aa)}(r:KV kvs vs):kvs[1]=vs[1]:=dz r
end
def k8(r:RelV (kV k) u):(jd P w).is k u=true:=by
 cases k with
 | inl i=>obtain⟨t,e⟩:=(show ∃ t,u=Value.int i t from r);subst e;exact Wp P w i t
 | inr x=>obtain⟨t,e⟩:=(show ∃ t,u=Value.str x t from r);subst e;exact Wq P w x t
theorem JZ:∀{ks} {us},Vals (ks.map kV) us->ItemsAre (jd P w) ks us
 | [],_,r=>by rw[cy]at r;cases r;exact .nil
 | k::ks,_,r=>by
  rw[gN]at r;cases r with
  | cons h t=>exact .cons (k8 h) (JZ t)
abbrev KT(H:Hp):List (List Key×V)->List (List Key×Addr×aa)->Prop:=Paired λp q=>p.1=q.1/\H q.2.1=!(.tup (p.1.map kV))/\RelV p.2 q.2.2
def KT.val(r:KT H kvs xs)(k):RelO (jo kvs k) ((atKey xs k).map (·.2)):=by
 induction r with
 | nil=>exact True.intro
 | @cons p q ps qs h t ih =>
  obtain⟨h1,_,h2⟩:=h;by_cases e:p.1=k
  .have e':q.1=k:=h1.symm.trans e;have b:atKey (q::qs) k=!q.2:=by simp[atKey,cO,e']
   rw[xH e,b];exact h2
  have e':¬ q.1=k:=λz=>e (h1.trans z)
  have b:atKey (q::qs) k=atKey qs k:=by simp[atKey,cO,e']
  rw[xI e,b];exact ih
def KT.repl{kvs:List (List Key×V)}{xs:List (List Key×Addr×aa)}(r:KT H kvs xs)(k)(B:RelV y u) :
  KT H (kvs.map λkv=>if kv.1=k then(kv.1,y)else kv) (xs.map (putAt k u)):=by
 induction r with
 | nil=>exact .nil
 | @cons p q ps qs h t ih =>
  rw[gN,gN];refine .cons ?_ ih;obtain⟨h1,h2,h3⟩:=h;unfold putAt;by_cases e:p.1=k
  .rw[if_pos e,if_pos (h1.symm.trans e)];exact#[h1,h2,B]
  rw[if_neg e,if_neg λz=>e (h1.trans z)];exact#[h1,h2,h3]
def KT.put{H:Hp}(r:KT H kvs xs)(k)(B:H b=!(.tup (k.map kV)))(z:RelV y u) :
  KT H (jH kvs k y) (storedH xs k b u):=by
 have e:(kvs.any λkv=>decide (kv.1=k))=(atKey xs k).isSome:=by
  rw[JX,(r.val k).isSome_eq,Option.isSome_map]
 unfold jH storedH;rw[e];by_cases q:(atKey xs k).isSome=true
 .rw[if_pos q,if_pos q];exact r.repl k z
 rw[if_neg q,if_neg q];exact Paired.snoc r #[rfl,B,z]
def KT.keeps{H H':Hp}(r:KT H kvs xs)(B:∀ b ys,H b=!(.tup ys)->H' b=!(.tup ys)):KT H' kvs xs :=
 Paired.mapP r λ_ _ z=>#[z.1,B _ _ z.2.1,z.2.2]
section
variable{P:af}{w:World}{H:Hp}{h:Heap}{a:Addr}
def WS(ok:HOk P w H h)(e:Rd H a u):ObjOk P w H h a u:=e.ok ok
def Q8(z:HOk P w H h)(e:Rd H a (.dK kvs)):kvs[1]<=sizeLine/\(a==sysModules)=false/\∃ vs,KV kvs vs/\h.DictOf (jd P w) a vs :=
 show ObjOk P w H h a (.dK kvs)from WS z e
def TU(z:HOk P w H h)(e:H a=!(.dK kvs)):kvs[1]<=sizeLine/\(a==sysModules)=false/\∃ vs,KV kvs vs/\h.DictOf (jd P w) a vs:=Q8 z (.inl e)
def Q9(z:HOk P w H h)(e:H a=!(.tup (ks.map kV))):(tupleKind (jd P w)).is h ks a:=by
 obtain⟨_,its,r,o,h1,h2,n,h3⟩:=(show ObjOk P w H h a (.tup (ks.map kV))from z a _ e)
 exact#[o,its.toArray,n,h1,h2,h3,by simpa using JZ r]
def Qa(O:HOk P w H h)(e:Rd H a (.dT kvs)):kvs[1]<=sizeLine/\(a==sysModules)=false /\
  ∃ xs,KT H kvs xs/\h.DictOfH (tupleKind (jd P w)) a xs:=by
 obtain⟨z,y,xs,r,o,es,ep,h1,h2,h3,h4,h5⟩:=(show ObjOk P w H h a (.dT kvs)from WS O e)
 refine#[z,y,xs,r,o,es,ep,h1,h2,h3,h4,λx hx=>?_,h5]
 have B:∀{l:List (List Key×V)} {m:List (List Key×Addr×aa)},KT H l m->∀ x∈m,(tupleKind (jd P w)).is h x.1 x.2.1:=by
  intro l m q
  induction q with
  | nil=>intro x hx;exact nomatch hx
  | @cons p q ps qs hq t ih =>
   intro x hx;rcases gE.mp hx with e|hx
   .subst e;exact Q9 O (by rw[<- hq.1];exact hq.2.1)
   exact ih x hx
 exact B r x hx
def WT(z:HOk P w H h)(e:H a=!(.dT kvs)):kvs[1]<=sizeLine/\(a==sysModules)=false /\
  ∃ xs,KT H kvs xs/\h.DictOfH (tupleKind (jd P w)) a xs:=Qa z (.inl e)
end
def DGet(H:Hp)(a:Addr)(y:V)(r:Option V):Prop :=
 (∃ kvs k,Rd H a (.dK kvs)/\y=kV k/\r=jo kvs k)\/∃ kvs k b,Rd H a (.dT kvs)/\y=.ref b/\H b=!(.tup (k.map kV))/\r=jo kvs k
def DPut(H:Hp)(a:Addr)(y v:V)(H':Hp):Prop :=
 (∃ kvs k,H a=!(.dK kvs)/\y=kV k/\kvs[1]<sizeLine/\H'=upd H a (.dK (jH kvs k v))) \/
 ∃ kvs k b,H a=!(.dT kvs)/\y=.ref b/\H b=!(.tup (k.map kV))/\kvs[1]<sizeLine/\H'=upd H a (.dT (jH kvs k v))
theorem DPut.k{k:Key}{v:V}(e:H a=!(.dK kvs))(z:kvs[1]<sizeLine):DPut H a (kV k) v (upd H a (.dK (jH kvs k v))):=.inl #[kvs,k,e,rfl,z,rfl]
def DPut.t{H:Hp}{kvs:List (List Key×V)}{k:List Key}(e:H a=!(.dT kvs))(z:H b=!(.tup (k.map kV)))(B:kvs[1]<sizeLine) :
  DPut H a (.ref b) v (upd H a (.dT (jH kvs k v))):=.inr #[kvs,k,b,e,rfl,z,B,rfl]
section
variable{X:Cx}{pins:List (Addr×Obj)}{σ:St}{H:Hp}{s:ab}{a:Addr}{y v:V}{u r:aa}{o:Option V}{A:ag}{E:aa->ab->Prop}
def Inv.big(I:"I" H s):sysModules<s[0]:=by
 have h:mainGlobals<s[0]:=(I.mod.glob.keeps I.bk).lt;exact bE "d" h
def Z0{h':Heap}{t':Nat}(I:"I" H s)(O:Mut (H a))(U:Heap.SameBut a s.heap h')(Y:∃ q,h'.get? a=!q)(B:ObjOk X.prog X.w (upd H a ob) h' a ob) :
  "I" (upd H a ob) {s with heap:=h',toks:=t'} :=
 I.write (x:=a) (e:=a) O (.inl rfl) (λb q hb z=>(U.2 b hb).trans z) Y B
def TV{kvs:List (Key×V)}(z:kvs[1]<=sizeLine)(hd:(a==sysModules)=false)(B:KV kvs vs)(dd:h'.DictOf (jd P w) a vs) :
  ObjOk P w H' h' a (.dK kvs):=#[z,hd,vs,B,dd]
def TW(Z:A.units+1<cLine)(I:"I" H s)(g:DPut H a y v H')(U:RelV y u)(Y:RelV v r)(h:∀ s',"I" H' s'->Q () s') :
  wpAny (model X.prog X.w) A (setItem (.ref a) u r) Q E s:=by
 rcases g with⟨kvs,k,e,ey,l,eH⟩|⟨kvs,k,b,e,ey,eb,l,eH⟩
 .subst ey eH;obtain⟨z,hd,vs,B,dd⟩:=TU I.hok e;have hz:vs[1]<=sizeLine:=by rw[<- B[1]];exact z
  have hl:(jH kvs k v)[1]<=sizeLine:=by have:=JY kvs k v;lia
  refine wpAny_setItem_pairs (hsz:=hz) (k8 U) dd λh' O hs=>h _ ?_
  have he:∃ q,h'.get? a=!q:=let #[q,_,_,hq,_]:=O;#[q,hq]
  exact Z0 I (by rw[e];exact True.intro) hs he (TV hl hd (B.put k Y) O)
 subst ey eH;cases (show u=Value.ref b from U)
 obtain⟨z,hd,xs,B,dd⟩:=WT I.hok e;have hz:xs[1]<=sizeLine:=by rw[<- dz B];exact z
 have hl:(jH kvs k v)[1]<=sizeLine:=by have:=JY kvs k v;lia
 refine wpAny_setItem_heap (hsz:=hz) (dA Z) (Q9 I.hok eb) dd λh' O hs=>h _ ?_
 obtain⟨q,es,ep,hq,h2,h3,h4,_,h5⟩:=O;refine Z0 I (by rw[e];exact True.intro) hs #[q,hq] #[hl,hd,_,(B.put k eb Y).keeps λc ys ec=>?_,q,es,ep,hq,h2,h3,h4,h5]
 rw[qt (Wr ec e λz=>nomatch z)]
 exact ec
variable{kvs:List (Key×V)}{k:Key}
end
def TX(td ty tv:TE):TS:=λD σ H=>tv σ H λv H1=>td σ H1 λx H2=>ty σ H2 λy H3=>∃ a H4,x=.ref a/\DPut H3 a y v H4/\D.nx σ H4
section
variable{X:Cx}{o i e value:Expr}{pos pos' tpos:Pos}{td ty tv:TE}
def Z1(z:X.A.units+1<cLine)(B:PE X o td)(hi:PE X i ty)(O:PE X value tv)(U:swapsWith value (!(.Subscript o i pos')) pos.line X.env=pure false) :
  PS X (.Assign [.Subscript o i pos'] value pos) (TX td ty tv):=by
 intro pins s σ H D I h;refine wpAny_Assign_Subscript (thn (O pins s σ H _ I h) λr s1 #[v,H1,I1,rv,q1]=>thn (B pins s1 σ H1 _ I1 q1) λu s2 #[x,H2,I2,rx,q2]=>thn (hi pins s2 σ H2 _ I2 q2) λiv s3 #[y,H3,I3,ry,a,H4,ex,g,q3]=>?_) U
 subst ex;obtain rfl:u=Value.ref a:=rx;exact TW z I3 g ry rv λs4 I4=>#[σ,H4,I4,q3]
end
def TY(h:Heap)(z:sysModules<h.objs.size):ObjOk P w H (h.push {cls:=.type "dict",data:=.dict #[]}) h.objs.size (.dK []) :=
 #[tK _,p6.mpr (t9 (t3 z)),[],.nil,Heap.DictOf.new h]
def TZ(h:Heap)(z:sysModules<h.objs.size):ObjOk P w H (h.push {cls:=.type "dict",data:=.dict #[]}) h.objs.size (.dT []) :=
 #[tK _,p6.mpr (t9 (t3 z)),[],.nil,_,#[],0,gM _ rfl,#[rfl,rfl,rfl],rfl,rfl,dQ]
def qa0:TE:=λ_ H Q=>∀ p,H p=none->Q (.ref p) (upd H p (.dK []))
def qa1:TE:=λ_ H Q=>∀ p,H p=none->Q (.ref p) (upd H p (.dT []))
section
variable{X:Cx}{pos:Pos}
def qa2:PE X (.Dict [] [] pos) qa0:=λpins s σ H Q I h =>
 wpAny_Dict_empty #[.ref s[0],_,I.laid (a:=s[0]) (o:=.dK []) (t':=s.toks) (λ_ _ q=>gq _ q) (gy _) (TY s.heap I.big),rfl,h _ (I.hok.fresh (gy _))]
def qa3:PE X (.Dict [] [] pos) qa1:=λpins s σ H Q I h =>
 wpAny_Dict_empty #[.ref s[0],_,I.laid (a:=s[0]) (o:=.dT []) (t':=s.toks) (λ_ _ q=>gq _ q) (gy _) (TZ s.heap I.big),rfl,h _ (I.hok.fresh (gy _))]
end
structure M1(X:Cx)(o:Expr)(m:Str)(apos:Pos)(e:Expr)(cpos:Pos):Prop where
 base:attributeBase o m X.env (eval o X.env)=eval o X.env
 few:((backTo cpos (starEach [e] X.env)).all (λx=>not x.1)&&(backToKw cpos (keywordEach [] X.env)).all (λx=>x.1.isSome)
  && decide (([e]:List Expr)[1]+([]:List Keyword)[1]+(if ([]:List Keyword).isEmpty then 0 else 1)<30))=true
 line:(apos.endLine==cpos.line)=true
 trees:backTo cpos (starEach [e] X.env)=[(false,eval e X.env)]
structure M2(X:Cx)(o:Expr)(m:Str)(apos:Pos)(e f:Expr)(cpos:Pos):Prop where
 base:attributeBase o m X.env (eval o X.env)=eval o X.env
 few:((backTo cpos (starEach [e,f] X.env)).all (λx=>not x.1)&&(backToKw cpos (keywordEach [] X.env)).all (λx=>x.1.isSome)
  && decide (([e,f]:List Expr)[1]+([]:List Keyword)[1]+(if ([]:List Keyword).isEmpty then 0 else 1)<30))=true
 line:(apos.endLine==cpos.line)=true
 trees:backTo cpos (starEach [e,f] X.env)=[(false,eval e X.env),(false,eval f X.env)]
def IsD(H:Hp)(a:Addr):Prop:=(∃ kvs,Rd H a (.dK kvs))\/∃ kvs,Rd H a (.dT kvs)
def qa4{s:ab}(I:"I" H s)(d:IsD H a) :
  s.TypeIs (.ref a) "dict"/\(∀ b,Value.ref a=.ref b->∃ ob,s.heap.get? b=!ob/\ob.dict=none)/\(a==sysModules)=false:=by
 rcases d with⟨kvs,e⟩|⟨kvs,e⟩
 .obtain⟨_,hd,vs,_,dd⟩:=Q8 I.hok e;refine#[dd.typeIs,λb q=>?_,hd]
  cases q;obtain⟨ob,_,_,h1,h2,_⟩:=dd;exact#[ob,h1,h2.2.1]
 obtain⟨_,hd,xs,_,dd⟩:=Qa I.hok e;refine#[dd.typeIs,λb q=>?_,hd]
 cases q;obtain⟨ob,_,_,h1,h2,_⟩:=dd;exact#[ob,h1,h2.2.1]
section
variable{X:Cx}{pins:List (Addr×Obj)}{σ:St}{H:Hp}{s:ab}{a:Addr}{y d:V}{u r:aa}{o:Option V}{A:ag}{E:aa->ab->Prop}
def qa5(Y:A.units+1<cLine)(I:"I" H s)(g:DGet H a y o)(O:RelV y u)(U:RelV d r)(h:∀ w' s',"I" H s'->RelV (o.getD d) w'->Q w' s') :
  wpAny (model X.prog X.w) A (call (.builtin "dict.get") [.ref a,u,r]) Q E s:=by
 rcases g with⟨kvs,k,e,ey,l⟩|⟨kvs,k,b,e,ey,eb,l⟩
 .subst ey;obtain⟨z,hd,vs,B,dd⟩:=Q8 I.hok e;refine dU fP dd.typeIs cJ (dB _ _ _) (meets_dict_get_default (jd X.prog X.w) a (k8 O) hd r) #[_,dd.mapOf,h _ _ (I.tok _) ?_];rw[l];exact(B.val k).getD U
 subst ey;cases (show u=Value.ref b from O)
 obtain⟨z,hd,xs,B,dd⟩:=Qa I.hok e;refine dU fP dd.typeIs cJ (dB _ _ _) (meetsH_dict_get_default (tupleKind (jd X.prog X.w)) a b hd r) #[dA Y,k,xs,Q9 I.hok eb,dd,h _ _ (I.tok _) ?_];rw[l];exact(B.val k).getD U
end
def qa6(td ty tx:TE):TE:=λσ H Q=>td σ H λx H1=>∃ a,x=.ref a/\IsD H1 a/\ty σ H1 λy H2=>tx σ H2 λz H3=>∃ o,DGet H3 a y o/\Q (o.getD z) H3
section
variable{X:Cx}{o e f:Expr}{apos cpos:Pos}{td ty tx:TE}
def qa7(O:X.A.units+1<cLine)(U:PE X o td)(Y:PE X e ty)(Z:PE X f tx)(m:M2 X o "get" apos e f cpos):PE X (.Call (.Attribute o "get" apos) [e,f] [] cpos) (qa6 td ty tx):=by
 intro pins s σ H Q I h;refine bQ m.base m.few m.line cB fP dW (thn (U pins s σ H _ I h) λu s1 #[x,H1,I1,rx,a,ex,d,q1]=>?_)
 subst ex;obtain rfl:u=Value.ref a:=rx;obtain⟨t1,t2,_⟩:=qa4 I1 d;refine#[t1,t2,?_];rw[m.trees];refine cI rfl (cW (hZ (thn (Y pins s1 σ H1 _ I1 q1) λiv s2 #[y,H2,I2,ry,q2] =>
  hZ (thn (Z pins s2 σ H2 _ I2 q2) λfv s3 #[z,H3,I3,rz,ov,g,q3]=>tH ?_))))
 exact qa5 O I3 g ry rz λw' s4 I4 B=>#[_,H3,I4,B,q3]
variable{pins:List (Addr×Obj)}{σ:St}{H:Hp}{s:ab}{a:Addr}{kvs:List (Key×V)}{A:ag}{E:aa->ab->Prop}
variable{y:V}{u:aa}
end
end L2
namespace Att
open PySem PySem.W PySem.Calls PyProof.Rows
def qa8:∀ ns vs,WellAll P h vs (ns.map WData.int)->IntsAre vs ns:=by
 intro ns
 induction ns with
 | nil =>
  intro vs w;rw[cy]at w;cases w;exact .nil
 | cons n ns ih =>
  intro vs w;rw[gN]at w;cases w with
  | cons a b =>
   cases a;exact .cons _ _ (ih _ b)
def qa9{l:OpenLaw}{n:Nat}(Y:l.most=!n){h:Heap}
  (z:l.row.toRowW.claim.pre args=true)(O:WellAll P h vals args) :
  ∃ a vs ns,vals=[Value.ref a]/\args=[WData.list (ns.map WData.int)]/\h.get? a=some {cls:=.type "list",data:=.seq vs.toArray}/\IntsAre vs ns/\ns[1]<=n:=by
 have U:WShape.hasAll [] args [.list .int]=true:=(pre_splitW z).1;have hc:l.pre.holds [] {args:=args}=true:=(pre_splitW z).2;obtain⟨d,r,rfl,h1,h2⟩:=hasAllW_cons U;obtain rfl:=hasAllW_nil h2;obtain⟨xs,rfl,h3⟩:=hasW_list h1;obtain⟨ns,rfl⟩:=items_int h3;have B:ns[1]<=n:=by
  unfold OpenLaw.pre at hc;have h4:(WTm.not (.lt (.lit (n:Int)[6]) (.len (.arg 0)))).holds [] {args:=[.list (ns.map .int)]}=true:=by
   have h4:=(holds_andW hc).1;rw[Y]at h4;exact h4
  have h5:=condW_of h4 (w_not (w_lt w_lit (w_len_list (w_arg rfl))));rw[gg]at h5;refine Nat.le_of_not_lt λq=>?_
  have q':(n:Int)<((ns[1]:Nat):Int):=""
  first
   | (rw[tF q']at h5;exact absurd h5 "d")
   | (simp at h5;lia)
 cases O with
 | cons w1 w2 =>
  cases w2;cases w1 with
  | list ho hall=>exact#[_,_,ns,rfl,rfl,ho,qa8 ns _ hall,B]
def qaa(l:OpenLaw)(args):l.row.toRowW.claim.post args (.bool true) args=true :=
 postW_of (r:=l.row.toRowW) (X:=(true==true))
  (show WShape.has [] (.bool true) .bool=true by first|rfl|decide|simp[WShape.has,WShape.arms,WShape.armsAll])
  (show(WTm.eq .res (.lit (.bool true))).value [] {args:=args,res:=!(.bool true),after:=args}=↑(.bool (true==true))from w_eq_bool (w_res rfl) w_lit) rfl
def attach_call{l:OpenLaw}{n:Nat}{XP:(Str->Option aa)->Heap->Prop}{YP:World->Heap->Prop}{d:DefRec}
  (hn:l.most=!n)(hdf:d.params.defaults=[])
  (call:∀ w s₀ z mg mb fa o pm cd B a vs ns,
   Ground q loose [] XP w s₀ mg mb z.heap->YP w z.heap ->
   z.heap.get? fa=!o->o.data=.func (docDef d.name d.params d.body d.scope pm cd B)->z.heap.CodeRec cd d.name->mg d.name=↑(.ref fa) ->
   z.heap.get? a=some {cls:=.type "list",data:=.seq vs.toArray}->IntsAre vs ns->ns[1]<=n->z.gens=#[] ->
   codeAny (model l.prog w) callerA (.call (.ref fa) #[[.ref a],[]]) (λr s'=>r=.ok (.ret (.bool true))/\OldK z.heap s'.heap/\s'.os=z.os/\AllBare s'.gens) z) :
  WalkO q loose XP YP l.row.toRowW d [] (λf vs=>PySem.call f vs):=by
 intro w s₀ z mg mb G Y fa o pm cd B dV kV ho hd hcd hD hmg hg args h6 as U h7 hrd hwl hlo;obtain rfl:dV=.none:=Dflts.none hD hdf;obtain rfl:kV=.none:=Dflts.noKw hD;obtain⟨a,vs,ns,rfl,rfl,Z,O,h5⟩:=qa9 hn U hwl;refine enter_call (codeAny_mono (call w s₀ z mg mb fa o pm cd B a vs ns G Y ho (fd_plain hd) hcd hmg Z O h5 hg) λr s' hq=>?_)
 obtain⟨rfl,h2,h3,h4⟩:=hq;exact#[.inl #[.bool true,.bool true,[],rfl,λ_=>rfl,.bool true,qaa l _,λ_=>#[List.Pairwise.nil,λ_ hm=>(nomatch hm)]],h2,h3,h4]
section
variable{prog:af}{w:World}{A:ag}{E:aa->ab->Prop}{s:ab}{K:Frag}
end
end Att
namespace L2
open PySem PySem.Spec PyProof.Rows
theorem WU:∀{vs} {ns},IntsAre vs ns->Vals (ns.map V.int) vs
 | _,_,.nil=>.nil
 | _,_,.cons n t h=>.cons #[t,rfl] (WU h)
def Only(H:Hp):Prop:=∀ b,H b=none\/∃ o xs,H b=!(.frz o (.lst xs))
def qab{K:Frag}{mg mb:Str->Option aa}{k:Nat}{sp:Sp}{B:ab}{vs:List aa}{ns:List Int}
  (KX:K.In B.heap)(hns:B.heap.Ns mainGlobals mg)(U:B.heap.Ns builtinsNs mb)(hbb:∀ x:Str,x≠"__name__"->mb x=bootBuiltins x)(h4:B.heap.NoLimit)(hg:B.gens=#[])
  (ha:B.heap.get? a=some {cls:=.type "list",data:=.seq vs.toArray})(hi:IntsAre vs ns)(hl:ns[1]<=sizeLine)(hr:Room k callerA)
  (F:∀ base,K.In base->base.Ns mainGlobals mg->FnOk P w K mg base CX k fa fd [x] sp)(h3:∀ s u,BindsTo s fd #[[u],[]] [(x,u)])
  (hsp:∀ H,Only H->SqL K H a (ns.map V.int)->sp [.ref a] H (λv _=>v=.bl true) λ_ _ _=>False)
  (hCX:∀ H e s',CX [] H B (λ_ _ _=>False) e s'->False) :
  codeAny (model P w) callerA (.call (.ref fa) #[[.ref a],[]]) (λr s'=>r=.ok (.ret (.bool true))/\OldK B.heap s'.heap/\s'.os=B.os/\AllBare s'.gens) B:=by
 have rv:=WU hi;have h5:=hi[1];have Z:∀ H:Hp,Only H->SqL K H a (ns.map V.int)->HOk P w H B.heap->(∀ b,H b≠none->b=a)->(H a≠none->K.lookup a=none) ->
   codeAny (model P w) callerA (.call (.ref fa) #[[.ref a],[]]) (λr s'=>r=.ok (.ret (.bool true))/\OldK B.heap s'.heap/\s'.os=B.os/\AllBare s'.gens) B:=by
  intro H hO hS hok hA hK;have O:∀{b:Addr} {o:Obj},B.heap.get? b=!o->H b=none->(wB B.heap H).get? b=!o:=λe n=>G6 e n
  have noA:∀{b:Addr} {o:Obj} {es:Array DictEntry} {ep:Nat},B.heap.get? b=!o->o.data=.dict es ep->H b=none:=λ{b o es ep} e d=>by
   cases q:H b with
   | none=>rfl
   | some u =>
    have e':b=a:=hA b (by rw[q];simp)
    subst e';rw[ha]at e;cases e;have d':Data.seq vs.toArray _=Data.dict es ep:=d;cases d'
  have Y:∀{b:Addr} {m:Str->Option aa},B.heap.Ns b m->(wB B.heap H).Ns b m:=λ{b m} #[o,es,ep,e,d,r]=>#[o,es,ep,O e (noA e d),d,r]
  have hKb:K.In (wB B.heap H):=λb o e=>O (KX b o e) (by
   cases q:H b with
   | none=>rfl
   | some u =>
    have e':b=a:=hA b (by rw[q];simp)
    subst e';rw[hK (by rw[q];simp)]at e;cases e)
  have hM:Mod K mg (wB B.heap H):=#[hKb,Y hns,#[mb,Y U,hbb],let #[mc,h1,h2]:=h4;#[mc,Y h1,h2]]
  have e0:Env0 P w K mg (wB B.heap H) callerA [] B H:=#[rfl,hM,λb o e=>G7 e,Nat.le_of_eq (G5 _ _),trivial,λb U=>absurd (show b∈([]:List Addr)from U) "s",hok,.of_eq hg]
  refine codeAny_mono ((F _ hKb (Y hns)).run callerA [] B H #[[.ref a],[]] [.ref a] [.ref a] _ _ hr e0 (h3 B (.ref a)) (.cons rfl .nil) (hsp H hO hS)) λr s' h=>?_
  cases r with
  | error e=>exact(hCX H e s' h).elim
  | ok fl =>
   cases fl with
   | next=>exact False.elim h
   | brk=>exact False.elim h
   | cont=>exact False.elim h
   | ret u =>
    obtain⟨v,H',os,h6,un,h7,r',q⟩:=h;have q':v=.bl true:=q;subst q';obtain rfl:u=Value.bool true:=r';refine#[rfl,OldK.of_keep λb o e=>?_,os,h6]
    cases q:H b with
    | none=>exact un.keep b o e q (by intro z;exact absurd (show b∈([]:List Addr)from z) "s") "s"
    | some u =>
     rcases hO b with z|⟨ob,xs,z⟩
     .rw[q]at z;cases z
     have z2:=un.frzs b ob _ z;obtain⟨e1,_⟩:=hok b _ z;obtain⟨e2,_⟩:=h7 b _ z2;rw[e]at e1;cases e1;exact e2
 cases hk:K.lookup a with
 | some o =>
  have e:=KX a o hk;rw[ha]at e;cases e;refine Z (λ_=>none) (λ_=>.inl rfl) (.inr #[_,vs.toArray,_,hk,rfl,rfl,rfl,by rw[gU,h5];exact hl,by simpa using rv]) (λb u z=>by have z':(none:Option HO)=!u:=z;cases z') (λb z=>absurd rfl z) λz=>absurd rfl z
 | none =>
  refine Z (λb=>if b=a then !(.frz {cls:=.type "list",data:=.seq vs.toArray} (.lst (ns.map V.int)))else none) (λb=>?_) (.inl (.inr #[{cls:=.type "list",data:=.seq vs.toArray},if_pos rfl])) (λb u z=>?_) (λb z=>?_) λ_=>hk
  .by_cases U:b=a
   .exact .inr #[_,_,if_pos U]
   exact .inl (if_neg U)
  .by_cases U:b=a
   .have z':=(if_pos U).symm.trans z;cases z';subst U;exact#[ha,by rw[gg];exact hl,vs,_,rv,ha]
   have z':=(if_neg U).symm.trans z;cases z'
  by_cases U:b=a
  .exact U
  exact absurd (if_neg U) z
def qac{l:PySem.W.OpenLaw}{n k:Nat}{XP:(Str->Option aa)->Heap->Prop}{YP:World->Heap->Prop}{d:DefRec}{K:Params->Frag}{CX:World->CXT}{sp:World->Sp}
  (hn:l.most=!n)(Z:n<=sizeLine)(hdf:d.params.defaults=[])(hr:Room k callerA)
  (hY:∀ w h,YP w h->(K w.params).In h)
  (F:∀ w mg fa h,(K w.params).In h->h.Ns mainGlobals mg->mg d.name=↑(.ref fa) ->
   ∃ fd,(∀ s u,BindsTo s fd #[[u],[]] [(x,u)]) /\
    ∀ base,(K w.params).In base->base.Ns mainGlobals mg->FnOk l.prog w (K w.params) mg base (CX w) k fa fd [x] (sp w))
  (hsp:∀ w H a (ns:List Int),ns[1]<=n->Only H->SqL (K w.params) H a (ns.map V.int)->sp w [.ref a] H (λv _=>v=.bl true) λ_ _ _=>False)
  (hCX:∀ w H s e s',CX w [] H s (λ_ _ _=>False) e s'->False) :
  PySem.W.WalkO q loose XP YP l.row.toRowW d [] (λf vs=>PySem.call f vs):=by
 refine Att.attach_call hn hdf λw s₀ O mg mb fa o pm cd doc a vs ns G Y ho hd hcd hmg U B z hg=>?_
 have KX:=hY w _ Y;obtain⟨fd,hb,hF⟩:=F w mg fa _ KX G.T.g hmg;exact qab KX G.T.g G.T.b G.T.builtins G.T.nolimit hg U B (tV z Z) hr hF hb (λH hO hS=>hsp w H a ns z hO hS) λH e s'=>hCX w H O e s'
def defArgs(s:Stmt):Arguments:=match s with
 | .FunctionDef _ a _ _ _ _ _ _ _ _=>a
 | _=>{posonlyargs:=[],args:=[],vararg:=none,kwonlyargs:=[],kw_defaults:=[],kwarg:=none,defaults:=[]}
def defBody(s:Stmt):List Stmt:=match s with
 | .FunctionDef _ _ b _ _ _ _ _ _ _=>b
 | _=>[]
def defScope(s:Stmt):Scope:=match s with
 | .FunctionDef _ _ _ _ _ _ sc _ _ _=>sc
 | _=>{kind:=.function,names:=[],isGenerator:=false,isCoroutine:=false}
abbrev CX0:CXT:=λ_ _ _ _ _ _=>False
abbrev E0:XK:=λ_ _ _=>False
def WV:WD CX0 X E0:=λ_ _ _ _ _ _ _ h=>h.elim
structure Fun(K:Frag)(x qual:Str)(st:Stmt)(f:Addr)(fd:FuncData):Prop where
 ex:∃(oc:Value) (od:Option Addr) (kV doc pm:Value) (an:Option Addr) (cdv ct:Value) (osl:Array (Option Value)),
  fd=PySem.W.fnOf x qual (defArgs st) (defBody st) (defScope st) .none kV doc pm an cdv ct/\K.lookup f=↑#[oc,od,.func fd,osl]/\codeIn K cdv qual=true
 kp:keepIn K (.ref f)=true
section
variable{P:af}{w:World}{K:Frag}{mg:Str->Option aa}{base:Heap}
def Fun.ok{st:Stmt}{N ps:List Str}{k:Nat}{sp:Sp}(F:Fun K x qual st f fd)(S:FnScope N ps (defScope st))(len:∀ vs H Q E,sp vs H Q E->vs[1]=ps[1])
  (B:∀ z A outer s H vs Q E,Room k (A.deeper (envOfC qual (defScope st) s[0] f z))->sp vs H Q E ->
   ∃ t,PSs (cxOf CX0 P w K mg base N qual (defScope st) f z A outer s H E).nox (defBody st) t/\t {nx:=λ_ H'=>Q .non H',rt:=Q} (zm N vs) H):FnOk P w K mg base CX0 (k+1) f fd ps sp:=by
 obtain⟨oc,od,kV,Y,pm,an,z,ct,Z,rfl,lk,U⟩:=F.ex;refine T7 lk U S len λA outer s H vs Q E hr O=>?_
 obtain⟨t,h,q⟩:=B z A outer s H vs Q E hr O;exact#[t,h.nox,q]
def Fun.binds{st:Stmt}{ps:List Str}(F:Fun K x qual st f fd)
  (h:∀ kV z pm an B ct us,us[1]=ps[1]->bindArgs (PySem.W.fnOf x qual (defArgs st) (defBody st) (defScope st) .none kV z pm an B ct) #[us,[]]=pure (ps.zip us)):Binds K fd ps []:=by
 obtain⟨oc,od,kV,z,pm,an,B,ct,O,rfl,lk,U⟩:=F.ex;exact .all (h kV z pm an B ct)
def Z2{st:Stmt}{f:Addr}{oc:aa}{od U:Option Addr}{O:Array (Option aa)}{Y B Z z ct:aa}(l:K.lookup f=↑#[oc,od,.func (PySem.W.fnOf x qual (defArgs st) (defBody st) (defScope st) .none Y B Z U z ct),O])
  (c:codeIn K z qual=true)(k:keepIn K (.ref f)=true):Fun K x qual st f (PySem.W.fnOf x qual (defArgs st) (defBody st) (defScope st) .none Y B Z U z ct):=#[#[oc,od,Y,B,Z,U,z,ct,O,rfl,l,c],k]
variable{X:Cx}
end
section
variable{κ:Type} [DecidableEq κ]
end
end L2
namespace L3
open PySem
inductive D where
 | non|bl (b:Bool)|int (i:Int)|str (x:Str)|tup (xs:List D)|lst (xs:List D)
 | dK (kvs:List (Sum Int Str×D))|dT (kvs:List (List (Sum Int Str)×D))|xc (cls:Str) (fs:List (Str×D))
 deriving Inhabited
inductive En where
 | fz (d:D)|ow (d:D)|br (d:D)|lk (d:D)|od (d:D)
 deriving Inhabited
@[reducible] def En.d:En->D
 | .fz d=>d|.ow d=>d|.br d=>d|.lk d=>d|.od _=>.xc "_" []
structure Xc where
 cls:Str
 fs:List (Str×D)
inductive R(α:Type)where
 | ok (a:α)|exc (x:Xc)|stuck
@[reducible] noncomputable def R.bind {α β:Type} (r:R α) (f:α->R β):R β:=match r with
 | .ok a=>f a|.exc x=>.exc x|.stuck=>.stuck
@[simp] theorem R.bind_ok {α β:Type} (a:α) (f:α->R β):(R.ok a).bind f=f a:=rfl
@[simp] theorem R.bind_exc {α β:Type} (x:Xc) (f:α->R β):(R.exc x:R α).bind f=.exc x:=rfl
@[simp] theorem R.bind_stuck {α β:Type} (f:α->R β):(R.stuck:R α).bind f=.stuck:=rfl
abbrev Rho:=List (Option En)
abbrev EF:=Rho->R En
abbrev TF:=Rho->R Bool
inductive Out where
 | nx (ρ:Rho)|rt (w:En)|bk (ρ:Rho)|ct (ρ:Rho)|exc (x:Xc)|stuck
abbrev SF:=Rho->Out
abbrev Den:=List En->R En
@[reducible] def En.st:En->R D
 | .fz d=>.ok d|.ow d=>.ok d|_=>.stuck
@[reducible] def En.arg:En->R En
 | .fz d=>.ok d[8]|.ow d=>.ok d[8]|.br d=>.ok (.br d)|.lk _=>.stuck|.od (.dK kds)=>.ok (.lst (kds.map Prod.snd))[8]|.od _=>.stuck
@[reducible] def En.nm:En->R En
 | .fz d=>.ok d[8]|.ow d=>.ok d[9]|_=>.stuck
def stAll:List En->R (List D)
 | []=>.ok []
 | x::r=>x.st.bind λd=>(stAll r).bind λds=>.ok (d::ds)
def jT:List En->R (List En)
 | []=>.ok []
 | x::r=>x.arg.bind λd=>(jT r).bind λds=>.ok (d::ds)
def q9(i:Nat):EF:=λρ=>match ρ[i]? with
 | some (!d[8])=>.ok d[8]
 | some (!d[9])=>.ok (.br d)
 | some (!(.br d))=>.ok (.br d)
 | some (!(.lk d))=>.ok d[8]
 | _=>.stuck
def eC(d:D):EF:=λ_=>.ok d[8]
def eOp(g:D->D->R En)(a b:EF):EF:=λρ=>(a ρ).bind λx=>(b ρ).bind λy=>g x.d y.d
def eUn(g:D->R En)(a:EF):EF:=λρ=>(a ρ).bind λx=>g x.d
def evs:List EF->Rho->R (List En)
 | [],_=>.ok []
 | a::r,ρ=>(a ρ).bind λx=>(evs r ρ).bind λxs=>.ok (x::xs)
def sz:Nat:=16777216
def jk(a:List EF):EF:=λρ=>(evs a ρ).bind λxs=>(stAll xs).bind λds=>if ds[1]<=sz then .ok (.lst ds)[9]else .stuck
def js(a:List EF):EF:=λρ=>(evs a ρ).bind λxs=>(stAll xs).bind λds=>if ds[1]<=sz then .ok (.tup ds)[8]else .stuck
def qi(z:Den)(a:List EF):EF:=λρ=>(evs a ρ).bind λxs=>(jT xs).bind λys=>z ys
def eB(g:List D->R En)(a:List EF):EF:=λρ=>(evs a ρ).bind λxs=>g (xs.map En.d)
@[reducible] def okI (i:Int):R En:=.ok i[7]
@[reducible] def okB (b:Bool):R En:=.ok (.bl b)[8]
def qX:D->D->R En
 | .int i,.int j=>okI (i-j)
 | _,_=>.stuck
def fits(b:Nat):Int->Bool
 | .ofNat n=>ble n b
 | .negSucc n=>ble n b
def fits_iff:fits b i=true↔-(b+1)<=i/\i<=b:=by
 cases i with
 | ofNat n =>
  show ble n b=true↔_;rw[ble_eq];lia
 | negSucc n =>
  show ble n b=true↔_;rw[ble_eq];lia
abbrev b64:Nat:=18446744073709551614
abbrev b62:Nat:=4611686018427387903
def b64e:(b64:Int)=18446744073709551614:=rfl
def b62e:(b62:Int)=4611686018427387903:=rfl
def jX:D->D->R En
 | .int i,.int j=>if (fits b64 i||fits b64 j)=true then okI (i*j)else .stuck
 | _,_=>.stuck
def vv:D->D->R En
 | .int i,.int j=>if 0<j then okI (i%j)else .stuck
 | _,_=>.stuck
def vK:D->D->R En
 | .int i,.int j=>if 0<j/\j<1073741824 then okI (i/j)else .stuck
 | _,_=>.stuck
def dLt:D->D->R En
 | .int i,.int j=>okB (decide (i<j))
 | _,_=>.stuck
def dLe:D->D->R En
 | .int i,.int j=>okB (decide (i<=j))
 | _,_=>.stuck
def dGt:D->D->R En
 | .int i,.int j=>okB (decide (j<i))
 | _,_=>.stuck
def b2i(b:Bool):Int:=if b then 1 else 0
mutual
def deq:D->D->Bool
 | .non,.non=>true
 | .bl a,.bl b=>a==b
 | .bl a,.int b=>b2i a==b
 | .int a,.bl b=>a==b2i b
 | .int a,.int b=>a==b
 | .str a,.str b=>a==b
 | .tup a,.tup b=>deqs a b
 | .lst a,.lst b=>deqs a b
 | _,_=>false
def deqs:List D->List D->Bool
 | [],[]=>true
 | x::xs,y::ys=>deq x y&&deqs xs ys
 | _,_=>false
end
def qI:Nat->D->Bool
 | _,.non=>true|_,.bl _=>true|_,.int _=>true|_,.str x=>PyData.strOk x
 | n+1,.tup a=>a.all (qI n)
 | n+1,.lst a=>a.all (qI n)
 | _,_=>false
def eqok(d:D):Bool:=qI 8 d
def dEq(a b:D):R En:=if eqok a&&eqok b then okB (deq a b)else .stuck
def dNe(a b:D):R En:=if eqok a&&eqok b then okB (not (deq a b))else .stuck
def din(x:D)(ys:List D):Bool:=ys.any λy=>deq y x
def ixn(n:Nat)(i:Int):Option Nat:=if 0<=i then(if i<n then !i.toNat else none)else if -(n:Int)<=i then !(i+n).toNat else none
def ati{α:Type}(xs:List α)(i:Int):Option α:=(ixn xs[1] i).bind λj=>xs[j]?
def zn:D->Option (Sum Int Str)
 | .int i=>!(.inl i)
 | .str x=>!(.inr x)
 | _=>none
def jL:List D->Option (List (Sum Int Str))
 | []=>↑[]
 | x::r=>(zn x).bind λk=>(jL r).map λks=>k::ks
def look{κ:Type} [DecidableEq κ](k:κ):List (κ×D)->Option D
 | []=>none
 | (x,d)::r=>if x=k then !d else look k r
def okD (o:Option D):R En:=match o with
 | some d=>.ok d[8]
 | none=>.stuck
def k9:List D->R En
 | [.lst xs]=>.ok (.lst xs)[9]
 | [.tup xs]=>.ok (.lst xs)[9]
 | _=>.stuck
def yi:List D->R En
 | [.lst xs]=>.ok (.tup xs)[8]
 | [.tup xs]=>.ok (.tup xs)[8]
 | _=>.stuck
def kc:List D->R En
 | [.int i,.int j]=>okI (if j<i then j else i)
 | _=>.stuck
inductive Ty|int|bool|str|list|tuple|dict
def tyIs:D->Ty->Bool
 | .int _,.int=>true|.bl _,.int=>true|.bl _,.bool=>true|.str _,.str=>true
 | .lst _,.list=>true|.tup _,.tuple=>true|.dK _,.dict=>true|.dT _,.dict=>true
 | _,_=>false
def dIs(t:Ty):D->R En
 | .xc _ _=>.stuck
 | d=>okB (tyIs d t)
def kf:D->R Bool
 | .non=>.ok false|.bl b=>.ok b|.int i=>.ok (i != 0)|.str x=>if x[1]<=sz then .ok ((x[1]:Int) != 0)else .stuck
 | .lst xs=>.ok (not xs.isEmpty)|.tup xs=>.ok (not xs.isEmpty)|_=>.stuck
def tE(e:EF):TF:=λρ=>(e ρ).bind λx=>kf x.d
def jA(t:TF):TF:=λρ=>(t ρ).bind λb=>.ok (not b)
def zo(t u:TF):TF:=λρ=>(t ρ).bind λb=>if b=true then u ρ else .ok false
def tOr(t u:TF):TF:=λρ=>(t ρ).bind λb=>if b=true then .ok true else u ρ
def isB:D->R Bool
 | .bl b=>.ok b
 | _=>.stuck
def WW(e:EF):EF:=λρ=>(e ρ).bind λx=>(isB x.d).bind λb=>okB (not b)
def wP(a b:EF):EF:=λρ=>(a ρ).bind λx=>(isB x.d).bind λc=>if c=true then b ρ else okB false
def eIf(t:TF)(a b:EF):EF:=λρ=>(t ρ).bind λc=>if c=true then a ρ else b ρ
def qr:SF:=λρ=>.nx ρ
def qe(a b:SF):SF:=λρ=>match a ρ with
 | .nx ρ'=>b ρ'
 | o=>o
def sOf (r:R α) (k:α->Out):Out:=match r with
 | .ok a=>k a|.exc _=>.stuck|.stuck=>.stuck
def qj(i:Nat)(e:EF):SF:=λρ=>sOf ((e ρ).bind En.nm) λw=>.nx (ρ.set i !w)
def qp(e:EF):SF:=λρ=>sOf ((e ρ).bind En.nm) .rt
def ju(i:Nat):SF:=λρ=>match ρ[i]? with
 | some (!d[8])=>.rt d[8]
 | some (!d[9])=>.rt d[9]
 | _=>.stuck
def sIf(t:TF)(a b:SF):SF:=λρ=>sOf (t ρ) λc=>if c=true then a ρ else b ρ
def yj:SF:=λρ=>.bk ρ
def xJ(e:EF):SF:=λρ=>sOf (e ρ) λ_=>.nx ρ
def jU(i:Nat)(g:D->D->R En)(e:EF):SF:=λρ=>match ρ[i]? with
 | some (!x[8])=>sOf ((e ρ).bind λy=>(g x y.d).bind En.nm) λw=>.nx (ρ.set i !w)
 | _=>.stuck
def qY(i:Nat)(e:EF):SF:=λρ=>match ρ[i]? with
 | some (!(.lst xs)[9])=>sOf ((e ρ).bind En.st) λd=>if xs[1]<sz then .nx (ρ.set i (!(.lst (xs++[d]))[9]))else .stuck
 | _=>.stuck
def frz(i:Nat)(ρ:Rho):Rho:=match ρ[i]? with
 | some (!d[9])=>ρ.set i (!d[8])
 | _=>ρ
def jB(i:Nat)(s:SF):SF:=λρ=>s (frz i ρ)
abbrev GF:=D->Rho->R Rho
def gV(i:Nat):GF:=λd ρ=>.ok (ρ.set i (!d[8]))
def gVs:List Nat->List D->Rho->R Rho
 | [],[],ρ=>.ok ρ
 | i::is,d::ds,ρ=>gVs is ds (ρ.set i (!d[8]))
 | _,_,_=>.stuck
def gT(is:List Nat):GF:=λd ρ=>match d with
 | .tup ds=>gVs is ds ρ
 | _=>.stuck
def qC (g:GF) (b:SF):List D->Rho->Out
 | [],ρ=>.nx ρ
 | x::xs,ρ=>match g x ρ with
  | .ok ρ1=>(match b ρ1 with
   | .nx ρ2=>qC g b xs ρ2
   | .ct ρ2=>qC g b xs ρ2
   | .bk ρ2=>.nx ρ2
   | o=>o)
  | .exc _=>.stuck
  | .stuck=>.stuck
def items:D->R (List D)
 | .lst xs=>.ok xs
 | .tup xs=>.ok xs
 | .dK kvs=>.ok (kvs.map λp=>match p.1 with|.inl i=>.int i|.inr x=>.str x)
 | _=>.stuck
abbrev IF:=Rho->R (List D)
def xK:D->R (List D)
 | .lst xs=>.ok xs
 | .tup xs=>.ok xs
 | _=>.stuck
def iV(i:Nat):IF:=λρ=>match ρ[i]? with
 | some (!d[8])=>xK d
 | some (!(.br d))=>xK d
 | _=>.stuck
def iVc(i:Nat):IF:=λρ=>match ρ[i]? with
 | some (!(.od _))=>.stuck
 | some (!(.lk _))=>.stuck
 | some !w=>xK w.d
 | _=>.stuck
def ji(e:EF):IF:=λρ=>(e ρ).bind λw=>w.st.bind xK
def zb(lo:Int):Nat->List D
 | 0=>[]
 | n+1=>.int lo::zb (lo+1) n
def iR1(a:EF):IF:=λρ=>(a ρ).bind λx=>match x.d with
 | .int j=>if fits b62 j=true then .ok (zb 0 j.toNat)else .stuck
 | _=>.stuck
def iR2(a b:EF):IF:=λρ=>(a ρ).bind λx=>(b ρ).bind λy=>match x.d,y.d with
 | .int i,.int j=>if (fits b62 i&&fits b62 j)=true then .ok (zb i (j-i).toNat)else .stuck
 | _,_=>.stuck
def qJ(it:IF)(g:GF)(b:SF):SF:=λρ=>sOf (it ρ) λxs=>qC g b xs ρ
def zy (t:TF) (b:SF):Nat->Rho->Out
 | 0,_=>.stuck
 | n+1,ρ=>sOf (t ρ) λc=>if c=true then(match b ρ with
   | .nx ρ2=>zy t b n ρ2
   | .ct ρ2=>zy t b n ρ2
   | .bk ρ2=>.nx ρ2
   | o=>o)else .nx ρ
def kg(n:Nat)(t:TF)(b:SF):SF:=zy t b n
def fin:Out->R En
 | .nx _=>.ok (.fz .non)
 | .rt w=>.ok w
 | .exc x=>.exc x
 | _=>.stuck
def den (n:Nat) (b:SF):Den:=λas=>fin (b (as.map some++List.replicate (n-as[1]) none))
def Z3{a b:SF}(h:a ρ=.nx ρ'):qe a b ρ=b ρ':=by unfold qe;rw[h]
open PySem PySem.Spec PyProof.Rows L2
abbrev St:=L2.St
structure Kx where
 P:Program
 w:World
 K:Frag
abbrev kx(X:Cx):Kx:=#[X.prog,X.w,X.K]
def SqK(κ:Kx)(F:Hp)(a:Addr)(kvs:List (Key×V)):Prop :=
 Rd F a (.dK kvs)\/(a==sysModules)=false/\∃(o:Obj) (es:Array DictEntry) (ep:Nat) (vs:List (Key×aa)),κ.K.lookup a=!o/\o.ExactDict/\o.data=.dict es ep /\
  KeysOf (jd κ.P κ.w) es/\Pairs (jd κ.P κ.w) es[2] vs/\(vs.map (·.1)).Nodup/\KV kvs vs
def FnV(κ:Kx)(v:V)(c:Str)(fs:List (Str×D)):Prop:=match fs with
 | [(_,.non)]=>∀ f:Addr,nsIn κ.K mainGlobals c=!(!(.ref f))->v=.ref f
 | [(_,.int a)]=>v=.ref a.toNat
 | _=>True
mutual
def Rep(κ:Kx)(F:Hp):V->D->Prop
 | v,.non=>v=.non
 | v,.bl b=>v=.bl b
 | v,.int i=>v=.int i
 | v,.str x=>v=.str x
 | v,.tup ds=>∃ a vs,v=.ref a/\SqT κ.K F a vs/\Reps κ F vs ds
 | v,.lst ds=>∃ a vs,v=.ref a/\SqL κ.K F a vs/\Reps κ F vs ds
 | v,.dK kds=>∃ a kvs,v=.ref a/\SqK κ F a kvs/\RepK κ F kvs kds
 | v,.dT kds=>∃ a kvs,v=.ref a/\Rd F a (.dT kvs)/\RepT κ F kvs kds
 | v,.xc c fs=>FnV κ v c fs
def Reps(κ:Kx)(F:Hp):List V->List D->Prop
 | vs,[]=>vs=[]
 | vs,d::ds=>∃ v r,vs=v::r/\Rep κ F v d/\Reps κ F r ds
def RepK(κ:Kx)(F:Hp):List (Key×V)->List (Sum Int Str×D)->Prop
 | kvs,[]=>kvs=[]
 | kvs,(k,d)::r=>∃ v kr,kvs=(k,v)::kr/\Rep κ F v d/\RepK κ F kr r
def RepT(κ:Kx)(F:Hp):List (List Key×V)->List (List (Sum Int Str)×D)->Prop
 | kvs,[]=>kvs=[]
 | kvs,(k,d)::r=>∃ v kr,kvs=(k,v)::kr/\Rep κ F v d/\RepT κ F kr r
end
abbrev Le(F H:Hp):Prop:=∀ a o,F a=!o->H a=!o
def Rd.le(l:Le F F')(h:Rd F a u):Rd F' a u:=by
 rcases h with h|⟨o,h⟩
 .exact .inl (l _ _ h)
 exact .inr #[o,l _ _ h]
def SqL.le{K:Frag}(l:Le F F')(h:SqL K F a vs):SqL K F' a vs:=by
 rcases h with h|h
 .exact .inl (Rd.le l h)
 exact .inr h
def SqT.le{K:Frag}(l:Le F F')(h:SqT K F a vs):SqT K F' a vs:=by
 rcases h with h|h
 .exact .inl (Rd.le l h)
 exact .inr h
def SqK.le(l:Le F F')(h:SqK κ F a vs):SqK κ F' a vs:=by
 rcases h with h|h
 .exact .inl (Rd.le l h)
 exact .inr h
mutual
theorem Rep.le(l:Le F F'):∀(d:D) {v:V},Rep κ F v d->Rep κ F' v d
 | .non,_,h=>h
 | .bl _,_,h=>h
 | .int _,_,h=>h
 | .str _,_,h=>h
 | .tup ds,_,h=>by
  obtain⟨a,vs,e,q,r⟩:=h;exact#[a,vs,e,SqT.le l q,Reps.le l ds r]
 | .lst ds,_,h=>by
  obtain⟨a,vs,e,q,r⟩:=h;exact#[a,vs,e,SqL.le l q,Reps.le l ds r]
 | .dK ds,_,h=>by
  obtain⟨a,vs,e,q,r⟩:=h;exact#[a,vs,e,SqK.le l q,RepK.le l ds r]
 | .dT ds,_,h=>by
  obtain⟨a,vs,e,q,r⟩:=h;exact#[a,vs,e,Rd.le l q,RepT.le l ds r]
 | .xc _ _,_,h=>h
theorem Reps.le(l:Le F F'):∀(ds:List D) {vs:List V},Reps κ F vs ds->Reps κ F' vs ds
 | [],_,h=>h
 | d::ds,_,h=>by
  obtain⟨v,r,e,h1,h2⟩:=h;exact#[v,r,e,Rep.le l d h1,Reps.le l ds h2]
theorem RepK.le(l:Le F F'):∀(ds:List (Sum Int Str×D)) {vs:List (Key×V)},RepK κ F vs ds->RepK κ F' vs ds
 | [],_,h=>h
 | (k,d)::ds,_,h=>by
  obtain⟨v,r,e,h1,h2⟩:=h;exact#[v,r,e,Rep.le l d h1,RepK.le l ds h2]
theorem RepT.le(l:Le F F'):∀(ds:List (List (Sum Int Str)×D)) {vs:List (List Key×V)},RepT κ F vs ds->RepT κ F' vs ds
 | [],_,h=>h
 | (k,d)::ds,_,h=>by
  obtain⟨v,r,e,h1,h2⟩:=h;exact#[v,r,e,Rep.le l d h1,RepT.le l ds h2]
end
section
variable{κ:Kx}{F:Hp}
theorem Reps.length:∀{ds} {vs},Reps κ F vs ds->vs[1]=ds[1]
 | [],_,h=>by cases (h);rfl
 | d::ds,_,h=>by
  obtain⟨v,r,rfl,h1,h2⟩:=h;simp[Reps.length h2]
theorem Reps.get:∀{ds} {vs} {i:Nat} {d},Reps κ F vs ds->ds[i]?=!d->∃ v,vs[i]?=!v/\Rep κ F v d
 | [],_,_,_,_,e=>by simp at e
 | d::ds,_,0,_,h,e=>by
  obtain⟨v,r,rfl,h1,h2⟩:=h;simp at e;subst e;exact#[v,rfl,h1]
 | d::ds,_,i+1,d',h,e=>by
  obtain⟨v,r,rfl,h1,h2⟩:=h;obtain⟨u,e1,e2⟩:=Reps.get h2 e[""]
  exact#[u,by simpa using e1,e2]
theorem Reps.append:∀{ds es} {vs us},Reps κ F vs ds->Reps κ F us es->Reps κ F (vs++us) (ds++es)
 | [],_,_,_,h,k=>by cases (h);exact k
 | d::ds,_,_,_,h,k=>by
  obtain⟨v,r,rfl,h1,h2⟩:=h;exact#[v,r++_,rfl,h1,Reps.append h2 k]
def Reps.one(h:Rep κ F v d):Reps κ F [v] [d]:=#[v,[],rfl,h,rfl]
end
structure Gr(F H F' H':Hp):Prop where
 f:Le F F'
 h:Le H H'
 s:Le F' H'
 n:∀ a,F' a≠none->F a≠none\/H a=none\/∃ xs,H a=!(.tup xs)
def Le.refl:Le F F:=λ_ _ h=>h
def Le.trans(a:Le F G)(b:Le G H):Le F H:=λx o h=>b x o (a x o h)
def Gr.refl(s:Le F H):Gr F H F H:=#[Le.refl,Le.refl,s,λ_ h=>.inl h]
theorem Le.none{F H:Hp}(l:Le F H)(h:H a=none):F a=none:=by
 cases e:F a with
 | none=>rfl
 | some o=>rw[l a o e]at h;cases h
def Gr.trans(a:Gr F H F1 H1)(b:Gr F1 H1 F2 H2):Gr F H F2 H2 :=
 #[Le.trans a.f b.f,Le.trans a.h b.h,b.s,λx h=>by
  rcases b.n x h with q|q|⟨xs,q⟩
  .exact a.n x q
  .exact .inr (.inl (Le.none a.h q))
  cases e:H x with
  | none=>exact .inr (.inl rfl)
  | some o =>
   have:=a.h x o e;rw[q]at this;cases this;exact .inr (.inr #[xs,rfl])]
def Gr.new{F H:Hp}(s:Le F H)(hp:H p=none):Gr F H F (upd H p o) :=
 #[Le.refl,λa u h=>by rw[qt (jG h hp)];exact h,λa u h=>by rw[qt (jG (s a u h) hp)];exact s a u h,λ_ h=>.inl h]
def Gr.newF{F H:Hp}(s:Le F H)(hp:H p=none):Gr F H (upd F p o) (upd H p o):=by
 refine#[λa u h=>by rw[qt (jG h (Le.none s hp))];exact h,λa u h=>by rw[qt (jG h hp)];exact h,λa u h=>?_,λa h=>?_]
 .by_cases e:a=p
  .subst e;rw[qH]at h ⊢;exact h
  rw[qt e]at h ⊢;exact s a u h
 by_cases e:a=p
 .subst e;exact .inr (.inl hp)
 rw[qt e]at h;exact .inl h
def jE(H F' H':Hp):Hp:=λb=>match H b with
 | none=>H' b
 | some _=>F' b
def v8(s:Le F H)(g:Gr F H F' H'):Gr F H (jE H F' H') H'/\Le F' (jE H F' H'):=by
 refine#[#[λa u h=>?_,g.h,λa u h=>?_,λa h=>?_],λa u h=>?_]
 .unfold jE;rw[s a u h];exact g.f a u h
 .unfold jE at h;cases e:H a with
  | none=>rw[e]at h;exact h
  | some o=>rw[e]at h;exact g.s a u h
 .cases e:H a with
  | none=>exact .inr (.inl rfl)
  | some o =>
   unfold jE at h;rw[e]at h;rcases g.n a h with q|q|q
   .exact .inl q
   .simp_all
   rw[e]at q;exact .inr (.inr q)
 unfold jE;cases e:H a with
 | none=>exact g.s a u h
 | some o=>exact h
def OwnO(κ:Kx)(F:Hp):HO->D->Prop
 | .lst vs,.lst ds=>Reps κ F vs ds
 | .dK kvs,.dK kds=>RepK κ F kvs kds
 | .dT kvs,.dT kds=>RepT κ F kvs kds
 | _,_=>False
def OwnO.le(l:Le F F')(h:OwnO κ F o d):OwnO κ F' o d:=by
 cases o<;>cases d<;>first
  | exact h
  | exact Reps.le l _ h
  | exact RepK.le l _ h
  | exact RepT.le l _ h
def RdV(κ:Kx)(F H:Hp)(v:V)(d:D):Prop:=Rep κ F v d\/∃ a o,v=.ref a/\H a=!o/\OwnO κ F o d
def Inn(κ:Kx)(H0 F H:Hp):List Addr->List D->Prop
 | [],[]=>True
 | b::bs,e::es=>(∃ us xs,e=.lst xs/\H0 b=none/\F b=none/\H b=!(.lst us)/\Reps κ F us xs)/\Inn κ H0 F H bs es
 | _,_=>False
def In2(κ:Kx)(H0 F H:Hp):List Addr->List (List Addr)->List D->Prop
 | [],[],[]=>True
 | b::bs,cs::css,e::es=>(∃ xs,e=.lst xs/\H0 b=none/\F b=none/\H b=!(.lst (cs.map V.ref))/\Inn κ H0 F H cs xs)/\In2 κ H0 F H bs css es
 | _,_,_=>False
def DV2(κ:Kx)(H F H':Hp)(v:V)(ds:List D):Prop:=∃ a bs,v=.ref a/\H a=none/\F a=none/\(a::bs).Nodup/\H' a=!(.lst (bs.map V.ref))/\Inn κ H F H' bs ds
def DV3(κ:Kx)(H F H':Hp)(v:V)(ds:List D):Prop:=∃ a bs z,v=.ref a/\H a=none/\F a=none/\(a::(bs++z.flatten)).Nodup/\H' a=!(.lst (bs.map V.ref))/\In2 κ H F H' bs z ds
def DVp(κ:Kx)(H F H':Hp)(v:V)(ds:List D)(g:D):Prop:=∃ t b us vg,v=.ref t/\H t=none/\H' t=!(.tup [.ref b,vg])/\H b=none/\F b=none/\H' b=!(.lst us)/\Reps κ F us ds/\Rep κ F vg g
def DVi(κ:Kx)(H F H':Hp)(v:V)(a:Addr)(dd g:D):Prop:=∃ o,H a=none/\F a=none/\H' a=!o/\OwnO κ F o dd/\Rep κ F v g
def DV(κ:Kx)(H F H':Hp)(v:V)(d:D):Prop :=
 (∃ ds,d=.lst ds/\DV2 κ H F H' v ds)\/(∃ kds:List (Sum Int Str×D),d=.dK kds/\DV3 κ H F H' v (kds.map Prod.snd))\/(∃ ds g,d=.tup [.lst ds,g]/\DVp κ H F H' v ds g)\/∃(a:Addr) (dd g:D),d=.tup [.int (a:Int),dd,g]/\DVi κ H F H' v a dd g
def Vok(κ:Kx)(H F' H':Hp)(v:V):En->Prop
 | .fz d=>Rep κ F' v d
 | .ow d=>∃ a o,v=.ref a/\H a=none/\F' a=none/\H' a=!o/\OwnO κ F' o d
 | .br d=>∃ a o,v=.ref a/\H' a=!o/\OwnO κ F' o d
 | .lk _=>False
 | .od d=>DV κ H F' H' v d
section
variable{κ:Kx}{H F F' H' F1 H1 F2 H2:Hp}{v:V}{w:En}{d:D}
def Vok.rd(h:Vok κ H F' H' v w):RdV κ F' H' v w.d:=by
 cases w with
 | fz d=>exact .inl h
 | ow d=>obtain⟨a,o,e,_,_,e2,r⟩:=h;exact .inr #[a,o,e,e2,r]
 | br d=>obtain⟨a,o,e,e2,r⟩:=h;exact .inr #[a,o,e,e2,r]
 | lk d=>exact h.elim
 | od d=>exact .inl trivial
def OwnO.noTup(h:OwnO κ F o d):∀ xs,o≠.tup xs:=λxs z=>by
 subst z;cases d<;>exact h.elim
def Gr.no(g:Gr F H F' H')(B:F a=none)(O:H a=!o)(U:∀ xs,o≠.tup xs:=by intro _ z;cases z):F' a=none:=by
 cases q:F' a with
 | none=>rfl
 | some u =>
  rcases g.n a (by rw[q];exact Option.some_ne_none _)with z|z|⟨xs,z⟩
  .simp_all
  .lia
  grind
theorem Inn.gr(g:Gr F H F' H'):∀{bs} {ds},Inn κ H0 F H bs ds->Inn κ H0 F' H' bs ds
 | [],[],h=>h
 | [],_::_,h=>h
 | _::_,[],h=>h
 | b::bs,e::es,#[#[us,xs,e1,h0,hf,hh,r],h]=>#[#[us,xs,e1,h0,g.no hf hh,g.h _ _ hh,Reps.le g.f _ r],Inn.gr g h]
theorem In2.gr(g:Gr F H F' H'):∀{bs} {css} {ds},In2 κ H0 F H bs css ds->In2 κ H0 F' H' bs css ds
 | [],[],[],h=>h
 | [],_::_,_,h=>by cases h
 | [],[],_::_,h=>by cases h
 | _::_,[],_,h=>by cases h
 | _::_,_::_,[],h=>by cases h
 | b::bs,cs::css,e::es,#[#[xs,e1,h0,hf,hh,r],h]=>#[#[xs,e1,h0,g.no hf hh,g.h _ _ hh,Inn.gr g r],In2.gr g h]
theorem Inn.older(l:∀ a,H a=none->G a=none):∀{bs} {ds},Inn κ H F' H' bs ds->Inn κ G F' H' bs ds
 | [],[],h=>h
 | [],_::_,h=>h
 | _::_,[],h=>h
 | b::bs,e::es,#[#[us,xs,e1,h0,r],h]=>#[#[us,xs,e1,l _ h0,r],Inn.older l h]
theorem In2.older(l:∀ a,H a=none->G a=none):∀{bs} {css} {ds},In2 κ H F' H' bs css ds->In2 κ G F' H' bs css ds
 | [],[],[],h=>h
 | [],_::_,_,h=>by cases h
 | [],[],_::_,h=>by cases h
 | _::_,[],_,h=>by cases h
 | _::_,_::_,[],h=>by cases h
 | b::bs,cs::css,e::es,#[#[xs,e1,h0,hf,hh,r],h]=>#[#[xs,e1,l _ h0,hf,hh,Inn.older l r],In2.older l h]
theorem Inn.reps:∀{bs} {ds},Inn κ H0 F H bs ds->(∀ b∈bs,G b=H b)->Le F G->Reps κ G (bs.map V.ref) ds
 | [],[],_,_,_=>rfl
 | [],_::_,h,_,_=>h.elim
 | _::_,[],h,_,_=>h.elim
 | b::bs,e::es,#[#[us,xs,e1,_,_,hh,r],h],k,l=>by
  subst e1;exact#[.ref b,bs.map V.ref,rfl,#[b,us,rfl,SqL.of ((k b "s").trans hh),Reps.le l _ r],Inn.reps h (λc m=>k c (gj _ m)) l]
theorem In2.reps:∀{bs} {css} {ds},In2 κ H0 F H bs css ds->(∀ b∈bs++css.flatten,G b=H b)->Le F G->Reps κ G (bs.map V.ref) ds
 | [],[],[],_,_,_=>rfl
 | [],_::_,_,h,_,_=>by cases h
 | [],[],_::_,h,_,_=>by cases h
 | _::_,[],_,h,_,_=>by cases h
 | _::_,_::_,[],h,_,_=>by cases h
 | b::bs,cs::css,e::es,#[#[xs,e1,_,_,hh,r],h],k,l=>by
  subst e1;have B:∀ c∈bs++css.flatten,c∈(b::bs)++(cs::css).flatten:=λc m=>by
   grind
  have z:∀ c∈cs,c∈(b::bs)++(cs::css).flatten:=λc m=>by
   simp_all
  exact#[.ref b,bs.map V.ref,rfl,#[b,cs.map V.ref,rfl,SqL.of ((k b "s").trans hh),Inn.reps r (λc m=>k c (z c m)) l],In2.reps h (λc m=>k c (B c m)) l]
def DV.gr(g:Gr F1 H1 F2 H2)(h:DV κ H F1 H1 v d):DV κ H F2 H2 v d:=by
 rcases h with⟨ds,e,a,bs,e1,h0,hf,nd,hh,i⟩|⟨ds,e,a,bs,z,e1,h0,hf,nd,hh,i⟩|⟨ds,y,e,t,b,us,vg,e1,t0,th,b0,bf,bh,rs,r⟩|⟨a,dd,y,e,o,h0,hf,hh,ro,r⟩
 .exact .inl #[ds,e,a,bs,e1,h0,g.no hf hh,nd,g.h _ _ hh,Inn.gr g i]
 .exact .inr (.inl #[ds,e,a,bs,z,e1,h0,g.no hf hh,nd,g.h _ _ hh,In2.gr g i])
 .exact .inr (.inr (.inl #[ds,y,e,t,b,us,vg,e1,t0,g.h _ _ th,b0,g.no bf bh,g.h _ _ bh,Reps.le g.f _ rs,Rep.le g.f _ r]))
 exact .inr (.inr (.inr #[a,dd,y,e,o,h0,g.no hf hh (OwnO.noTup ro),g.h _ _ hh,OwnO.le g.f ro,Rep.le g.f _ r]))
def DV.older(l:∀ a,H a=none->G a=none)(h:DV κ H F' H' v d):DV κ G F' H' v d:=by
 rcases h with⟨ds,e,a,bs,e1,h0,hf,nd,hh,i⟩|⟨ds,e,a,bs,z,e1,h0,hf,nd,hh,i⟩|⟨ds,y,e,t,b,us,vg,e1,t0,th,b0,bf,bh,rs,r⟩|⟨a,dd,y,e,o,h0,hf,hh,ro,r⟩
 .exact .inl #[ds,e,a,bs,e1,l _ h0,hf,nd,hh,Inn.older l i]
 .exact .inr (.inl #[ds,e,a,bs,z,e1,l _ h0,hf,nd,hh,In2.older l i])
 .exact .inr (.inr (.inl #[ds,y,e,t,b,us,vg,e1,l _ t0,th,l _ b0,bf,bh,rs,r]))
 exact .inr (.inr (.inr #[a,dd,y,e,o,l _ h0,hf,hh,ro,r]))
def Vok.gr(g:Gr F1 H1 F2 H2)(h:Vok κ H F1 H1 v w):Vok κ H F2 H2 v w:=by
 cases w with
 | fz d=>exact Rep.le g.f d h
 | ow d =>
  obtain⟨a,o,e,e1,e3,e2,r⟩:=h;exact#[a,o,e,e1,g.no e3 e2 (OwnO.noTup r),g.h _ _ e2,OwnO.le g.f r]
 | br d=>obtain⟨a,o,e,e2,r⟩:=h;exact#[a,o,e,g.h _ _ e2,OwnO.le g.f r]
 | lk d=>exact h
 | od d=>exact DV.gr g h
def RdV.gr(g:Gr F1 H1 F2 H2)(h:RdV κ F1 H1 v d):RdV κ F2 H2 v d:=by
 rcases h with h|⟨a,o,e,e2,r⟩
 .exact .inl (Rep.le g.f d h)
 exact .inr #[a,o,e,g.h _ _ e2,OwnO.le g.f r]
def qad(h:OwnO κ F o d):(∃ ds,d=.lst ds)\/(∃ ds,d=.dK ds)\/∃ ds,d=.dT ds:=by
 cases o<;>cases d<;>first
  | exact h.elim
  | exact .inl #[_,rfl]
  | exact .inr (.inl #[_,rfl])
  | exact .inr (.inr #[_,rfl])
def RdV.flat(h:RdV κ F H v d)(B:∀ ds,d≠.lst ds)(O:∀ ds,d≠.dK ds)(U:∀ ds,d≠.dT ds):Rep κ F v d:=by
 rcases h with h|⟨a,o,e,e2,r⟩
 .exact h
 rcases qad r with⟨ds,z⟩|⟨ds,z⟩|⟨ds,z⟩
 .exact absurd z (B ds)
 .exact absurd z (O ds)
 exact absurd z (U ds)
def RdV.int(h:RdV κ F H v i[6]):v=.int i:=RdV.flat h (λ_ e=>nomatch e) (λ_ e=>nomatch e) λ_ e=>nomatch e
def RdV.bl(h:RdV κ F H v (.bl b)):v=.bl b:=RdV.flat h (λ_ e=>nomatch e) (λ_ e=>nomatch e) λ_ e=>nomatch e
def RdV.str(h:RdV κ F H v (.str x)):v=.str x:=RdV.flat h (λ_ e=>nomatch e) (λ_ e=>nomatch e) λ_ e=>nomatch e
def RdV.non(h:RdV κ F H v .non):v=.non:=RdV.flat h (λ_ e=>nomatch e) (λ_ e=>nomatch e) λ_ e=>nomatch e
def RdV.tup(s:Le F H)(h:RdV κ F H v (.tup ds)):∃ a vs,v=.ref a/\SqT κ.K H a vs/\SqT κ.K F a vs/\Reps κ F vs ds:=by
 obtain⟨a,vs,e,q,r⟩:=RdV.flat h (λ_ e=>nomatch e) (λ_ e=>nomatch e) λ_ e=>nomatch e
 exact#[a,vs,e,SqT.le s q,q,r]
theorem RdV.lst(s:Le F H)(h:RdV κ F H v (.lst ds)):∃ a vs,v=.ref a/\SqL κ.K H a vs/\Reps κ F vs ds:=by
 rcases h with⟨a,vs,e,q,r⟩|⟨a,o,e,e2,r⟩
 .exact#[a,vs,e,SqL.le s q,r]
 cases o with
 | lst vs=>exact#[a,vs,e,SqL.of e2,r]
 | _=>exact r.elim
theorem RdV.dK(s:Le F H)(h:RdV κ F H v (.dK ds)):∃ a kvs,v=.ref a/\SqK κ H a kvs/\RepK κ F kvs ds:=by
 rcases h with⟨a,vs,e,q,r⟩|⟨a,o,e,e2,r⟩
 .exact#[a,vs,e,SqK.le s q,r]
 cases o with
 | dK vs=>exact#[a,vs,e,.inl (.inl e2),r]
 | _=>exact r.elim
def Vok.st(s:Le F H)(g:Gr F H F' H')(h:Vok κ H F' H' v w)(e:w.st=.ok d):Rep κ (jE H F' H') v d:=by
 obtain⟨_,l⟩:=v8 s g;cases w with
 | fz d'=>cases e;exact Rep.le l d h
 | ow d' =>
  cases e;obtain⟨a,o,ea,e1,e3,e2,r⟩:=h;have q:jE H F' H' a=!o:=by unfold jE;rw[e1];exact e2
  have r:=OwnO.le l r;cases o<;>cases d<;>first
   | exact r.elim
   | exact#[a,_,ea,.inl (.inl q),r]
   | exact#[a,_,ea,.inl q,r]
 | br d'=>cases e
 | lk d'=>cases e
 | od d'=>cases e
end
def Voks(κ:Kx)(H F' H':Hp):List V->List En->Prop
 | vs,[]=>vs=[]
 | vs,w::ws=>∃ v r,vs=v::r/\Vok κ H F' H' v w/\Voks κ H F' H' r ws
section
variable{κ:Kx}{H F F' H' F1 H1 F2 H2:Hp}
def Vok.older{G:Hp}(l:∀ a,H a=none->G a=none)(h:Vok κ H F' H' v w):Vok κ G F' H' v w:=by
 cases w with
 | fz d=>exact h
 | ow d=>obtain⟨a,o,e,e1,r⟩:=h;exact#[a,o,e,l a e1,r]
 | br d=>exact h
 | lk d=>exact h
 | od d=>exact DV.older l h
theorem Voks.older(l:∀ a,H a=none->G a=none):∀{ws} {vs},Voks κ H F' H' vs ws->Voks κ G F' H' vs ws
 | [],_,h=>h
 | w::ws,_,h=>by
  obtain⟨v,r,e,h1,h2⟩:=h;exact#[v,r,e,Vok.older l h1,Voks.older l h2]
theorem Voks.stAll(s:Le F H)(g:Gr F H F' H'):∀{ws:List En} {vs:List V} {ds:List D},Voks κ H F' H' vs ws->stAll ws=.ok ds->Reps κ (jE H F' H') vs ds
 | [],_,_,h,e=>by cases e;exact h
 | w::ws,_,ds,h,e=>by
  obtain⟨v,r,rfl,h1,h2⟩:=h;unfold L3.stAll at e;cases e1:w.st with
  | ok d =>
   cases e2:L3.stAll ws with
   | ok ds' =>
    rw[e1,e2]at e;cases e;exact#[v,r,rfl,Vok.st s g h1 e1,Voks.stAll s g h2 e2]
   | exc x=>rw[e1,e2]at e;cases e
   | stuck=>rw[e1,e2]at e;cases e
  | exc x=>rw[e1]at e;cases e
  | stuck=>rw[e1]at e;cases e
theorem Voks.rd:∀{ws} {vs},Voks κ H F' H' vs ws->Paired (RdV κ F' H') vs (ws.map En.d)
 | [],_,h=>by cases (h);exact .nil
 | w::ws,_,h=>by
  obtain⟨v,r,rfl,h1,h2⟩:=h;exact .cons (Vok.rd h1) (Voks.rd h2)
end
def qae(κ:Kx)(F H:Hp)(a:Addr)(bs:List Addr)(xs:List D):Prop:=bs=[]/\∃ o d,xs=[.int (a:Int),d]/\H a=!o/\OwnO κ F o d
def Deep(κ:Kx)(H0 F H:Hp)(a:Addr)(bs:List Addr):D->Prop
 | .lst ds=>H a=!(.lst (bs.map V.ref))/\Inn κ H0 F H bs ds
 | .dT kds=>H a=!(.dT ((kds.map Prod.fst).zip (bs.map V.ref)))/\Inn κ H0 F H bs (kds.map Prod.snd)
 | .dK kds=>∃ b1 z,bs=b1++List.flatten z/\H a=!(.lst (b1.map V.ref))/\In2 κ H0 F H b1 z (kds.map Prod.snd)
 | .tup xs=>qae κ F H a bs xs
 | _=>False
def RawT(F:Hp)(v:V):Prop:=∃ a ob kvs,v=.ref a/\F a=!(.frz ob (.dT kvs))
def RawT.le(l:Le F F')(h:RawT F v):RawT F' v:=let #[a,ob,kvs,e,q]:=h;#[a,ob,kvs,e,l _ _ q]
def Eok(κ:Kx)(H0 F H:Hp)(v:V):En->Prop
 | .fz d=>Rep κ F v d
 | .ow d=>∃ a o,v=.ref a/\H0 a=none/\F a=none/\H a=!o/\OwnO κ F o d
 | .lk d=>Rep κ F v d/\RawT F v
 | .br d=>∃ a o,v=.ref a/\H0 a=!o/\OwnO κ F o d
 | .od _=>∃ a o,v=.ref a/\H0 a=none/\F a=none/\H a=!o/\∀ xs,o≠.tup xs
def En.own:En->Bool
 | .ow _=>true|.od _=>true|_=>false
def shal(i:Nat)(ρ:Rho):Prop:=∀(j:Nat) (d:D),j≠i->ρ[j]?≠!(!(.od d))
structure StOk(κ:Kx)(F0 H0 F H:Hp)(ρ:Rho)(σ:St):Prop where
 gr:Gr F0 H0 F H
 len:ρ.length=σ.length
 val:∀(i:Nat) (w:En),ρ[i]?=!(!w)->∃ v,σ[i]?=!(!v)/\Eok κ H0 F H v w
 sep:∀(i j:Nat) (w w':En) (a:Addr),i≠j->ρ[i]?=!(!w)->ρ[j]?=!(!w')->w.own=true->w'.own=true->σ[i]?=!(!(.ref a))->σ[j]?=!(!(.ref a))->False
 dp:∀(i:Nat) (d:D),ρ[i]?=!(!(.od d))->shal i ρ/\∃ a bs,σ[i]?=!(!(.ref a))/\H0 a=none/\F a=none/\(a::bs).Nodup/\Deep κ H0 F H a bs d /\
  ∀(j:Nat) (w:En) (b:Addr),j≠i->ρ[j]?=!(!w)->w.own=true->b∈a::bs->σ[j]?≠!(!(.ref b))
section
variable{κ:Kx}{F0 H0 F H F' H':Hp}{ρ:Rho}{σ:St}
def Deep.gr(g:Gr F H F' H')(h:Deep κ H0 F H a bs d):Deep κ H0 F' H' a bs d:=by
 cases d<;>first|exact(False.elim h)|exact#[g.h _ _ h.1,Inn.gr g h.2]|skip
 .obtain⟨e,o,d,ex,h1,h2⟩:=h;exact#[e,o,d,ex,g.h _ _ h1,OwnO.le g.f h2]
 obtain⟨b1,z,e,h1,h2⟩:=h;exact#[b1,z,e,g.h _ _ h1,In2.gr g h2]
theorem Inn.at:∀{bs} {ds} {b},Inn κ H0 F H bs ds->b∈bs->∃ us,H0 b=none/\F b=none/\H b=!(.lst us)
 | [],_,_,_,m=>by cases m
 | _::_,[],_,h,_=>h.elim
 | c::bs,e::es,b,#[#[us,xs,e1,h0,hf,hh,r],h],m=>by
  rcases gE.mp m with rfl|m
  .exact#[us,h0,hf,hh]
  exact Inn.at h m
theorem In2.at:∀{bs} {css} {ds} {b},In2 κ H0 F H bs css ds->b∈bs++css.flatten->∃ us,H0 b=none/\F b=none/\H b=!(.lst us)
 | [],[],[],_,_,m=>by simp at m
 | [],_::_,_,_,h,_=>by cases h
 | [],[],_::_,_,h,_=>by cases h
 | _::_,[],_,_,h,_=>by cases h
 | _::_,_::_,[],_,h,_=>by cases h
 | c::bs,cs::css,e::es,b,#[#[xs,e1,h0,hf,hh,r],h],m=>by
  rcases gE.mp m with rfl|m
  .exact#[_,h0,hf,hh]
  rcases gD.mp m with m|m
  .exact In2.at h (t5 _ m)
  rcases gD.mp m with m|m
  .exact Inn.at r m
  exact In2.at h (tf _ m)
def Deep.top(h:Deep κ H0 F H a bs d):∃ o,H a=!o/\∀ xs,o≠.tup xs:=by
 cases d<;>first|exact(False.elim h)|exact#[_,h.1,λ_ z=>nomatch z]|skip
 .obtain⟨e,o,d,ex,h1,h2⟩:=h;exact#[o,h1,OwnO.noTup h2]
 obtain⟨b1,B,e,h1,h2⟩:=h;exact#[_,h1,λ_ z=>nomatch z]
def Deep.inn(h:Deep κ H0 F H a bs d)(m:b∈bs):∃ us,H0 b=none/\F b=none/\H b=!(.lst us):=by
 cases d<;>first|exact(False.elim h)|exact Inn.at h.2 m|skip
 .obtain⟨e,_⟩:=h;subst e;cases m
 obtain⟨b1,z,e,h1,h2⟩:=h;subst e;exact In2.at h2 m
theorem Inn.same{G G':Hp}:∀{bs} {ds},(∀ b∈bs,H b=H' b)->(∀ b∈bs,F b=none->F' b=none)->Le F F'->Inn κ H0 F H bs ds->Inn κ H0 F' H' bs ds
 | [],[],_,_,_,h=>h
 | [],_::_,_,_,_,h=>h
 | _::_,[],_,_,_,h=>h
 | b::bs,e::es,k,n,l,#[#[us,xs,e1,h0,hf,hh,r],h] =>
  #[#[us,xs,e1,h0,n b "s" hf,(k b "s").symm.trans hh,Reps.le l _ r],Inn.same (G:=G) (G':=G') (λc m=>k c (gj _ m)) (λc m=>n c (gj _ m)) l h]
theorem In2.same:∀{bs} {css} {ds},(∀ b∈bs++css.flatten,H b=H' b)->(∀ b∈bs++css.flatten,F b=none->F' b=none)->Le F F'->In2 κ H0 F H bs css ds->In2 κ H0 F' H' bs css ds
 | [],[],[],_,_,_,h=>h
 | [],_::_,_,_,_,_,h=>by cases h
 | [],[],_::_,_,_,_,h=>by cases h
 | _::_,[],_,_,_,_,h=>by cases h
 | _::_,_::_,[],_,_,_,h=>by cases h
 | b::bs,cs::css,e::es,k,n,l,#[#[xs,e1,h0,hf,hh,r],h]=>by
  have B:∀ c∈bs++css.flatten,c∈(b::bs)++(cs::css).flatten:=λc m=>by
   grind
  have z:∀ c∈cs,c∈(b::bs)++(cs::css).flatten:=λc m=>by
   simp_all
  exact#[#[xs,e1,h0,n b "s" hf,(k b "s").symm.trans hh,Inn.same (G:=H) (G':=H) (λc m=>k c (z c m)) (λc m=>n c (z c m)) l r],In2.same (λc m=>k c (B c m)) (λc m=>n c (B c m)) l h]
def Deep.same(k:∀ b∈a::bs,H b=H' b)(n:∀ b∈bs,F b=none->F' b=none)(l:Le F F')(h:Deep κ H0 F H a bs d):Deep κ H0 F' H' a bs d:=by
 cases d<;>first|exact(False.elim h)|exact#[(k a "s").symm.trans h.1,Inn.same (G:=H) (G':=H) (λc m=>k c (gj _ m)) n l h.2]|skip
 .obtain⟨e,o,d,ex,h1,h2⟩:=h;exact#[e,o,d,ex,(k a "s").symm.trans h1,OwnO.le l h2]
 obtain⟨b1,z,e,h1,h2⟩:=h;subst e;exact#[b1,z,rfl,(k a "s").symm.trans h1,In2.same (λc m=>k c (gj _ m)) n l h2]
def Eok.gr(g:Gr F H F' H')(h:Eok κ H0 F H v w):Eok κ H0 F' H' v w:=by
 cases w with
 | fz d=>exact Rep.le g.f d h
 | ow d=>obtain⟨a,o,e,e1,e3,e2,r⟩:=h;exact#[a,o,e,e1,g.no e3 e2 (OwnO.noTup r),g.h _ _ e2,OwnO.le g.f r]
 | lk d=>exact#[Rep.le g.f d h.1,RawT.le g.f h.2]
 | br d=>obtain⟨a,o,e,e2,r⟩:=h;exact#[a,o,e,e2,OwnO.le g.f r]
 | od d=>obtain⟨a,o,e,e1,e3,e2,nt⟩:=h;exact#[a,o,e,e1,g.no e3 e2 nt,g.h _ _ e2,nt]
def StOk.grow(S:StOk κ F0 H0 F H ρ σ)(g:Gr F H F' H'):StOk κ F0 H0 F' H' ρ σ :=
 #[S.gr.trans g,S.len,λi w e=>let #[v,e1,q]:=S.val i w e;#[v,e1,Eok.gr g q],S.sep,λi d e=>by
  obtain⟨s1,a,bs,e1,h0,hf,nd,dp,sp⟩:=S.dp i d e;obtain⟨o,ho,nt⟩:=Deep.top dp;exact#[s1,a,bs,e1,h0,g.no hf ho nt,nd,Deep.gr g dp,sp]]
def StOk.s(S:StOk κ F0 H0 F H ρ σ):Le F H:=S.gr.s
def qB{α:Type}{l:List α}{i j:Nat}{x y:α}(h:(l.set i x)[j]?=!y):(j=i/\y=x)\/(j≠i/\l[j]?=!y):=by
 by_cases e:j=i
 .subst e;by_cases hl:j<l[1]
  .simp_all
  simp_all
 rw[h9 (t9 e)]at h;exact .inr #[e,h]
def StOk.setF(S:StOk κ F0 H0 F H ρ σ){i:Nat}(r:Rep κ F v d):StOk κ F0 H0 F H (ρ.set i (!d[8])) (σ.set i !v):=by
 refine#[S.gr,by simp[S.len],λj w e=>?_,λj k w w' a B ej ek oj ok sj sk=>?_,λj y e=>?_]
 .rcases qB e with⟨rfl,z⟩|⟨ne,z⟩
  .cases z;have hl:j<σ.length:=by
    rw[<- S.len];have:=(gp.mp e).1;simpa using this
   exact#[v,List.getElem?_set_self hl,r]
  obtain⟨u,e1,q⟩:=S.val j w z;exact#[u,by rw[h9 (t9 ne)];exact e1,q]
 .rcases qB ej with⟨_,z⟩|⟨nj,ej⟩
  .cases z;cases oj
  rcases qB ek with⟨_,z⟩|⟨nk,ek⟩
  .cases z;cases ok
  rw[h9 (t9 nj)]at sj;rw[h9 (t9 nk)]at sk;exact S.sep j k w w' a B ej ek oj ok sj sk
 rcases qB e with⟨_,z⟩|⟨nj,ej⟩
 .lia
 obtain⟨s1,a,bs,e1,h0,hf,nd,dp,sp⟩:=S.dp j y ej;refine#[λk z hk ek=>?_,a,bs,by rw[h9 (t9 nj)];exact e1,h0,hf,nd,dp,λk w b hk ek ok m sk=>?_]
 .rcases qB ek with⟨_,q⟩|⟨_,q⟩
  .lia
  exact s1 k z hk q
 rcases qB ek with⟨_,q⟩|⟨nk,q⟩
 .cases q;cases ok
 rw[h9 (t9 nk)]at sk;exact sp k w b hk q ok m sk
def StOk.setO(S:StOk κ F0 H0 F H ρ σ){i:Nat}(h0:H0 a=none)(hf:F a=none)(ha:H a=!o)(r:OwnO κ F o d)
  (Z:∀ j w,j≠i->ρ[j]?=!(!w)->w.own=true->σ[j]?≠!(!(.ref a)))
  (Y:∀ j y,j≠i->ρ[j]?=!(!(.od y))->shal j ρ/\∃ c bs,σ[j]?=!(!(.ref c))/\H0 c=none/\F c=none/\(c::bs).Nodup/\Deep κ H0 F H c bs y /\
   (∀ k w b,k≠j->ρ[k]?=!(!w)->w.own=true->b∈c::bs->σ[k]?≠!(!(.ref b)))/\a∉c::bs):StOk κ F0 H0 F H (ρ.set i (!d[9])) (σ.set i (!(.ref a))):=by
 refine#[S.gr,by simp[S.len],λj w e=>?_,λj k w w' b O ej ek oj ok sj sk=>?_,λj y e=>?_]
 .rcases qB e with⟨rfl,z⟩|⟨ne,z⟩
  .cases z;have hl:j<σ.length:=by
    rw[<- S.len];have:=(gp.mp e).1;simpa using this
   exact#[.ref a,List.getElem?_set_self hl,a,o,rfl,h0,hf,ha,r]
  obtain⟨u,e1,q⟩:=S.val j w z;exact#[u,by rw[h9 (t9 ne)];exact e1,q]
 .have at_:∀{m},m≠i->(σ.set i (!(.ref a)))[m]?=!(!(.ref b))->σ[m]?=!(!(.ref b)):=λ{m} hm h=>by
   rw[h9 (t9 hm)]at h;exact h
  rcases qB ej with⟨e1,z⟩|⟨nj,U⟩
  .rcases qB ek with⟨e2,_⟩|⟨nk,B⟩
   .exact O (e1.trans e2.symm)
   subst e1;have hl:j<σ.length:=by have:=(gp.mp sj).1;simpa using this
   rw[List.getElem?_set_self hl]at sj;cases sj;exact Z k w' nk B ok (at_ nk sk)
  rcases qB ek with⟨e2,z⟩|⟨nk,B⟩
  .subst e2;have hl:k<σ.length:=by have:=(gp.mp sk).1;simpa using this
   rw[List.getElem?_set_self hl]at sk;cases sk;exact Z j w nj U oj (at_ nj sj)
  exact S.sep j k w w' b O U B oj ok (at_ nj sj) (at_ nk sk)
 rcases qB e with⟨_,z⟩|⟨nj,ej⟩
 .lia
 obtain⟨s1,c,bs,e1,c0,cf,nd,dp,sp,nc⟩:=Y j y nj ej;refine#[λk z hk ek=>?_,c,bs,by rw[h9 (t9 nj)];exact e1,c0,cf,nd,dp,λk w b hk ek ok m sk=>?_]
 .rcases qB ek with⟨_,q⟩|⟨_,q⟩
  .lia
  exact s1 k z hk q
 rcases qB ek with⟨rfl,_⟩|⟨nk,q⟩
 .have hl:k<σ.length:=by have:=(gp.mp sk).1;simpa using this
  rw[List.getElem?_set_self hl]at sk;cases sk;exact nc m
 rw[h9 (t9 nk)]at sk;exact sp k w b hk q ok m sk
def StOk.ownAt(S:StOk κ F0 H0 F H ρ σ){j:Nat}{w:En}(e:ρ[j]?=!(!w))(o:w.own=true)(s:σ[j]?=!(!(.ref a))):∃ u,H a=!u:=by
 obtain⟨v,e1,q⟩:=S.val j w e;rw[s]at e1;cases e1;cases w with
 | ow d=>obtain⟨b,u,eb,_,_,e2,_⟩:=q;cases eb;exact#[u,e2]
 | lk d=>cases o
 | od d=>obtain⟨b,u,eb,_,_,e2,_⟩:=q;cases eb;exact#[u,e2]
 | fz d=>cases o
 | br d=>cases o
def StOk.setW(S:StOk κ F0 H0 F H ρ σ)(g:Gr F H F' H'){i:Nat}{w w':En}(q:Vok κ H F' H' v w)(e:w.nm=.ok w'):StOk κ F0 H0 F' H' (ρ.set i !w') (σ.set i !v):=by
 have S':=S.grow g;cases w with
 | fz d=>cases e;exact S'.setF q
 | ow d =>
  cases e;obtain⟨a,o,rfl,e1,e3,e2,r⟩:=q;refine S'.setO (Le.none S.gr.h e1) e3 e2 r (λj w hj ej oj sj=>?_) λj y hj ej=>?_
  .obtain⟨u,z⟩:=S.ownAt ej oj sj;lia
  obtain⟨s1,c,bs,sj,h0,hf,nd,dp,sp⟩:=S.dp j y ej;obtain⟨o',B,O⟩:=Deep.top dp;refine#[s1,c,bs,sj,h0,g.no hf B O,nd,Deep.gr g dp,sp,λm=>?_]
  rcases gE.mp m with rfl|m
  .lia
  obtain⟨us,_,_,z⟩:=Deep.inn dp m;lia
 | br d=>cases e
 | lk d=>cases e
 | od d=>cases e
end
def Way(H:Hp)(n:Nat)(h:Heap)(e:Addr)(cl:aa)(dd:Option Addr)(q:Option aa):Prop :=
 ∃ oe vs,h.get? e=!oe/\oe.cls=cl/\oe.dict=dd/\oe.data=.fields vs/\1<vs.size/\n<=e/\H e=none /\
  ((vs[1]?=some .none/\q=none) \/
   ∃ T oT ts fl,vs[1]?=!(.ref T)/\T≠e/\n<=T/\H T=none/\h.get? T=!oT/\oT.data=.fields ts/\ts[3]?=!fl/\q=!fl)
structure Chg(H:Hp)(n:Nat)(fs:List Addr)(h h':Heap):Prop where
 ex:∃ ch:List Addr,(∀ b∈ch,n<=b/\H b=none/\∀ o,h.get? b=!o->∃ vs,o.data=.fields vs)/\(∀ b o,h.get? b=!o->b∉fs->b∉ch->h'.get? b=!o) /\
  (∀ b o,h.get? b=!o->b∉ch->∃ sl,h'.get? b=some {o with slots:=sl})/\(∀ b o,h.get? b=!o->∃ o',h'.get? b=!o')
 sz:h.objs.size<=h'.objs.size
section
variable{H:Hp}{n:Nat}{fs:List Addr}{h h' h'':Heap}{e:Addr}{cl:aa}{dd:Option Addr}{q:Option aa}
variable{M:Model}{A:ag}{E:aa->ab->Prop}{s:ab}{base:Heap}{env:Env}{outer:List Env}{L:Addr}
end
def qaf:D->aa->Prop
 | .non,u=>u=.none
 | .int i,u=>∃ t,u=.int i t
 | _,_=>False
def AtIs(H:Hp)(n:Nat)(h:Heap)(dd:Option Addr):List (Str×D)->Prop
 | []=>dd=none
 | (nm,d)::_=>∃ dx mA u,dd=!dx/\n<=dx/\H dx=none/\h.Ns1 dx mA/\mA nm=!u/\qaf d u
inductive XOk:Xc->Prop
 | nof (c:Str):XOk (Xc.mk c [])
 | nonf (c:Str):XOk (Xc.mk c [("at",D.non)])
 | intf (c:Str) (n:Nat):XOk (Xc.mk c [("at",D.int n)])
def atc(x:Xc):Option Addr:=match x.fs with
 | []=>none
 | [(_,.int i)]=>!(i.toNat+1)
 | _=>!0
structure Fl(P:Program)(w:World)(mg:Str->Option Value)(outer:List Env)(H:Hp)(s:Shared)(H':Hp)(s':Shared)(e:Addr)(x:Xc)(q:Option Value):Prop where
 os:s'.os=s.os
 bare:AllBare s'.gens
 un:Un (frs outer) [] H H' s.heap s'.heap
 hok:HOk P w H' s'.heap
 sz:s[0]<=s'[0]
 ok:XOk x
 way:∃ C dd,mg x.cls=!(.ref C)/\Way H' s[0] s'.heap e (.ref C) dd q/\AtIs H' s[0] s'.heap dd x.fs
def KE(x:Xc->Prop)(r:R α)(k:α->Prop):Prop:=match r with
 | .ok a=>k a
 | .exc e=>x e
 | .stuck=>False
def KE.bind{f:α->R β}{k:β->Prop}(h:KE x (r.bind f) k):KE x r λa=>KE x (f a) k:=by
 cases r<;>exact h
def KE.imp{k z:α->Prop}(h:KE x r k)(i:∀ a,k a->z a):KE x r z:=by
 cases r with
 | ok a=>exact i a h
 | exc e=>exact h
 | stuck=>exact h
def KE.impX{r:R α}{k z:α->Prop}(h:KE x r k)(i:∀ a,k a->z a)(j:∀ e,x e->x' e):KE x' r z:=by
 cases r with
 | ok a=>exact i a h
 | exc e=>exact j e h
 | stuck=>exact h
def Qb{k:α->Prop}:KE x (R.ok a) k=k a:=rfl
def XP(X:Cx)(F0 H0:Hp)(x:Xc):Prop:=False
def XPS(X:Cx)(F0 H0:Hp)(x:Xc):Prop:=∀(pins:List (Addr×Obj)) (σ:St) (H:Hp) (s:ab) (F' H':Hp) (s':ab) (e:Addr) (q:Option aa),(q=none\/q=some .none)->Gr F0 H0 F' H'->"I" H s ->
 Fl X.prog X.w X.mg X.stack H s H' s' e x q->X.xe (.ref e) s'
def SE(X:Cx)(F0 H0:Hp)(e:Expr)(f:EF):Prop :=
 ∀(pins:List (Addr×Obj)) (s:ab) (σ:St) (F H:Hp) (ρ:Rho) (Q:aa->ab->Prop),StOk (kx X) F0 H0 F H ρ σ->"I" H s ->
  KE (XP X F0 H0) (f ρ) (λw=>∀ v u F' H' s',Gr F H F' H'->Vok (kx X) H F' H' v w->RelV v u->"I" H' s'->Q u s') ->
  X[3] (eval e X.env) Q X.xe s
def ST(X:Cx)(F0 H0:Hp)(e:Expr)(f:TF):Prop :=
 ∀(pins:List (Addr×Obj)) (s:ab) (σ:St) (F H:Hp) (ρ:Rho) (Q:Bool->ab->Prop),StOk (kx X) F0 H0 F H ρ σ->"I" H s ->
  KE (XP X F0 H0) (f ρ) (λb=>∀ F' H' s',Gr F H F' H'->"I" H' s'->Q b s') ->
  X[3] (isTrue e X.env (eval e X.env)) Q X.xe s
def SW(X:Cx)(F0 H0:Hp)(e:Expr)(f:TF):Prop :=
 ∀(z:Sem aa) (pins:List (Addr×Obj)) (s:ab) (σ:St) (F H:Hp) (ρ:Rho) (Q:Bool->ab->Prop),StOk (kx X) F0 H0 F H ρ σ->"I" H s ->
  KE (XP X F0 H0) (f ρ) (λb=>∀ F' H' s',Gr F H F' H'->"I" H' s'->Q b s') ->
  X[3] (isTrue e X.env z) Q X.xe s
def SA(X:Cx)(F0 H0:Hp)(es:List Expr)(f:List EF):Prop :=
 ∀(pos:Pos) (pins:List (Addr×Obj)) (s:ab) (σ:St) (F H:Hp) (ρ:Rho) (Q:List aa->ab->Prop),StOk (kx X) F0 H0 F H ρ σ->"I" H s ->
  KE (XP X F0 H0) (evs f ρ) (λws=>∀ vs us F' H' s',Gr F H F' H'->Voks (kx X) H F' H' vs ws->Vals vs us->"I" H' s'->Q us s') ->
  X[3] (spliced (backTo pos (starEach es X.env))) Q X.xe s
def PostS(X:Cx)(F0 H0 F:Hp)(D:Ends):Out->Prop
 | .nx ρ'=>∀ z F' H',Le F F'->StOk (kx X) F0 H0 F' H' ρ' z->D.nx z H'
 | .bk ρ'=>∀ z F' H',Le F F'->StOk (kx X) F0 H0 F' H' ρ' z->D.bk z H'
 | .ct ρ'=>∀ z F' H',Le F F'->StOk (kx X) F0 H0 F' H' ρ' z->D.ct z H'
 | .rt w=>∀ v F' H',Gr F0 H0 F' H'->Vok (kx X) H0 F' H' v w->D.rt v H'
 | .exc x=>XPS X F0 H0 x
 | .stuck=>False
def SS(X:Cx)(F0 H0:Hp)(st:Stmt)(f:SF):Prop :=
 ∀(pins:List (Addr×Obj)) (s:ab) (σ:St) (F H:Hp) (ρ:Rho) (D:Ends),StOk (kx X) F0 H0 F H ρ σ->"I" H s->PostS X F0 H0 F D (f ρ) ->
  X[3] (exec st X.env) (SP X pins D) X.xe s
def SSs(X:Cx)(F0 H0:Hp)(z:List Stmt)(f:SF):Prop :=
 ∀(pins:List (Addr×Obj)) (s:ab) (σ:St) (F H:Hp) (ρ:Rho) (D:Ends),StOk (kx X) F0 H0 F H ρ σ->"I" H s->PostS X F0 H0 F D (f ρ) ->
  X[3] (execs z X.env) (SP X pins D) X.xe s
def PostS.le{F0 H0 F F':Hp}{D:Ends}(l:Le F F'){o:Out}(h:PostS X F0 H0 F D o):PostS X F0 H0 F' D o:=by
 cases o with
 | nx ρ=>exact λz F2 H2 l2 S=>h z F2 H2 (Le.trans l l2) S
 | bk ρ=>exact λz F2 H2 l2 S=>h z F2 H2 (Le.trans l l2) S
 | ct ρ=>exact λz F2 H2 l2 S=>h z F2 H2 (Le.trans l l2) S
 | rt w=>exact h
 | exc x=>exact h
 | stuck=>exact h
def PostS.of{D:Ends}{r:R α}{k:α->Out}(h:PostS X F0 H0 F D (sOf r k)):KE (XP X F0 H0) r λa=>PostS X F0 H0 F D (k a):=by
 cases r<;>exact h
def kj(X:Cx)(e:Expr):TE:=λσ H Q=>∀(pins:List (Addr×Obj)) (s:ab),"I" H s->X[3] (eval e X.env) (EP X pins σ Q) X.xe s
def je:PE X e (kj X e):=λpins s σ H Q I h=>h pins s I
def SE.sem(h:"S" e f){σ:St}{F H:Hp}{ρ:Rho}{Q:VK}(S:StOk (kx X) F0 H0 F H ρ σ)
  (k:KE (XP X F0 H0) (f ρ) λw=>∀ v F' H',Gr F H F' H'->Vok (kx X) H F' H' v w->Q v H'):kj X e σ H Q :=
 λpins s I=>h pins s σ F H ρ _ S I (k.imp λw q v u F' H' s' g vo r I'=>#[v,H',I',r,q v F' H' g vo])
def qag(X:Cx)(e:Expr):TT:=λσ H Q=>∀(pins:List (Addr×Obj)) (s:ab),"I" H s->X[3] (isTrue e X.env (eval e X.env)) (TP X pins σ Q) X.xe s
def qah:PT X e (qag X e):=λpins s σ H Q I h=>h pins s I
def Z4(X:Cx)(st:List Stmt):TS:=λD σ H=>∀(pins:List (Addr×Obj)) (s:ab),"I" H s->X[3] (execs st X.env) (SP X pins D) X.xe s
def Qc{st:List Stmt}:PSs X st (Z4 X st):=λpins s σ H D I h=>h pins s I
structure Nm(X:Cx)(i:Nat)(x:Str):Prop where
 n:X.N[i]?=!x
 v:Vis X.env.scope x
 d:(x==("__debug__":Str))=false
 c:(x==("__classdict__":Str))=false
def pvN{i:Nat}(h:Nm X i x):PE X (.Name x pos) (Q5 i):=Wt h.n h.v h.d h.c
section
variable{X:Cx}{F0 H0:Hp}
def qa(i){x:Str}{pos:Pos}(z:(Nm X i x)["t"]):"S" (.Name x pos) (q9 i):=by
 intro pins s σ F H ρ Q S I h;have go:∀ w w',ρ[i]?=!(!w)->(∀ v,Eok (kx X) H0 F H v w->Vok (kx X) H F H v w') ->
   (∀ v u F' H' s',Gr F H F' H'->Vok (kx X) H F' H' v w'->RelV v u->"I" H' s'->Q u s')->X[3] (eval (.Name x pos) X.env) Q X.xe s:=λw w' e t k=>by
  obtain⟨v,e1,q⟩:=S.val i w e;refine thn (pvN z pins s σ H (λv' H'=>v'=v/\H'=H) I #[v,e1,rfl,rfl]) λu s' #[v',H',I',r,ev,eh]=>?_
  subst ev eh;exact k v' u F H' s' (Gr.refl S.s) (t v' q) r I'
 cases e:ρ[i]? with
 | none=>unfold q9 at h;rw[e]at h;exact h.elim
 | some w =>
  cases w with
  | none=>unfold q9 at h;rw[e]at h;exact h.elim
  | some w =>
   unfold q9 at h;rw[e]at h;cases w with
   | fz d=>exact go _ d[8] e (λv q=>q) h
   | ow d=>exact go _ (.br d) e (λv #[a,o,e1,_,_,e2,r]=>#[a,o,e1,e2,r]) h
   | lk d=>exact go _ d[8] e (λv q=>q.1) h
   | od d=>exact h.elim
   | br d=>exact go _ (.br d) e (λv #[a,o,e1,e2,r]=>#[a,o,e1,S.gr.h _ _ e2,r]) h
def xL(h:PE X e (tC v))(r:∀ F,Rep (kx X) F v d):"S" e (eC d):=by
 refine λpins s σ F H ρ Q S I k=>thn (h pins s σ H (λv' H'=>v'=v/\H'=H) I #[rfl,rfl]) λu s' #[v',H',I',rv,ev,eh]=>?_
 subst ev eh;exact k v' u F H' s' (Gr.refl S.s) (r F) rv I'
def qf{j pos}:"S" (.Constant i[6] j pos) i[5]:=xL G8 λ_=>rfl
def jV{j pos}:"S" (.Constant (.bool b) j pos) (eC (.bl b)):=xL G9 λ_=>rfl
def wC{j pos}:"S" (.Constant .none j pos) (eC .non):=xL Ga λ_=>rfl
def vV{j pos}:"S" (.Constant (.str x) j pos) (eC (.str x)):=xL Gb λ_=>rfl
def WX(z:X.mg x=!u)(r:RelV v u)(q:∀ F,Rep (kx X) F v d)(B:(Gl X x)["r"])(hd:((x==("__debug__"))=false)["d"]) :
  "S" (.Name x pos) (eC d):=xL (Gc B z r hd) q
abbrev Wish(X:Cx)(F H:Hp)(r:R En)(Q:VK):Prop:=KE (λ_=>False) r λw=>∀ v F' H',Gr F H F' H'->Vok (kx X) H F' H' v w->Q v H'
def OpD(X:Cx)(f:aa->aa->Sem aa)(g:D->D->R En):Prop :=
 ∀(pins:List (Addr×Obj)) (s:ab) (σ:St) (F H:Hp) (x y:V) (v u:aa) (dx dy:D) (Q:VK),"I" H s->Le F H->RelV x v->RelV y u->RdV (kx X) F H x dx->RdV (kx X) F H y dy->Wish X F H (g dx dy) Q ->
  X[3] (f v u) (EP X pins σ Q) X.xe s
def zF(X:Cx)(f:aa)(g:List D->R En):Prop :=
 ∀(pins:List (Addr×Obj)) (s:ab) (σ:St) (F H:Hp) (xs:List V) (us:List aa) (ds:List D) (Q:VK),"I" H s->Le F H->Vals xs us->Paired (RdV (kx X) F H) xs ds->Wish X F H (g ds) Q ->
  X[3] (call f us) (EP X pins σ Q) X.xe s
variable{a b:Expr}{fa fb:EF}{pos:Pos}{g:D->D->R En}
def wQ{Q:aa->ab->Prop}{pins:List (Addr×Obj)}{σ:St}(B:Gr F H F2 H2)
  (h:KE (XP X F0 H0) r λw=>∀ v u F' H' s',Gr F H F' H'->Vok (kx X) H F' H' v w->RelV v u->"I" H' s'->Q u s') :
  Wish X F2 H2 r λv H'=>∀ u s',RelV v u->"I" H' s'->Q u s':=by
 exact KE.impX h (λw k v F' H' g' q u s' r I=>(k v u F' H' s' (B.trans g') (Vok.older (λa e=>Le.none B.h e) q) r I)) λ_ z=>z.elim
def v9{pins:List (Addr×Obj)}{σ:St}{t:Sem aa}{s:ab}
  (h:X[3] t (EP X pins σ λv H'=>∀ u s',RelV v u->"I" H' s'->Q u s') X.xe s):X[3] t Q X.xe s :=
 thn h λu s' #[v,H',I',r,q]=>q u s' r I'
def two{f:aa->aa->Sem aa}(B:"S" a fa)(O:"S" b fb){pins:List (Addr×Obj)}{s:ab}{σ:St}{F H:Hp}{ρ:Rho}{Q:aa->ab->Prop}(S:StOk (kx X) F0 H0 F H ρ σ)(I:"I" H s)
  (h:KE (XP X F0 H0) (eOp g fa fb ρ) λw=>∀ v u F' H' s',Gr F H F' H'->Vok (kx X) H F' H' v w->RelV v u->"I" H' s'->Q u s')
  (U:∀ s F H x y v u dx dy Q,"I" H s->Le F H->RelV x v->RelV y u->RdV (kx X) F H x dx->RdV (kx X) F H y dy->Wish X F H (g dx dy) Q ->
   X[3] (f v u) (EP X pins σ Q) X.xe s) :
  X[3] (eval a X.env) (λv z=>X[3] (eval b X.env) (λu s₂=>X[3] (f v u) Q X.xe s₂) X.xe z) X.xe s:=by
 exact B pins s σ F H ρ _ S I ((KE.bind h).imp λwx h1 v u F1 H1 s1 g1 q1 r1 I1=>(O pins s1 σ F1 H1 ρ _ (S.grow g1) I1 ((KE.bind h1).imp λwy h2 v2 u2 F2 H2 s2 g2 q2 r2 I2=>(v9 (U s2 F2 H2 v v2 u u2 wx.d wy.d _ I2 g2.s r1 r2 (RdV.gr g2 (Vok.rd q1)) (Vok.rd q2) (wQ (g1.trans g2) h2))))))
def qq(z:OpD X (binaryOp op) g)(B:"S" a fa)(O:"S" b fb):"S" (.BinOp a op b pos) (eOp g fa fb) :=
 λpins s σ F H ρ Q S I h=>wpAny_BinOp (two B O S I h λs F H x y v u dx dy Q=>z pins s σ F H x y v u dx dy Q)
def vw(z:OpD X (compareOp op) g)(B:"S" a fa)(O:"S" b fb)(U:behindInMarks op b=false:=by first|exact Wu _ "d" "d"|rfl) :
  "S" (.Compare a [op] [b] pos) (eOp g fa fb) :=
 λpins s σ F H ρ Q S I h=>wpAny_Compare1 (two B O S I h λs F H x y v u dx dy Q=>z pins s σ F H x y v u dx dy Q) U
def jj{Q:VK}(s:Le F H)(h:Wish X F H (.ok d[8]) Q)(r:Rep (kx X) F v d):Q v H:=h v F H (Gr.refl s) r
def vx(z:OpR X f r)
  (h:∀ F H x y dx dy Q,Le F H->RdV (kx X) F H x dx->RdV (kx X) F H y dy->Wish X F H (g dx dy) Q->r x y H Q):OpD X f g :=
 λpins s σ F H x y v u dx dy Q I l rx ry qx qy w=>z pins s σ H x y v u Q I rx ry (h F H x y dx dy Q l qx qy w)
def jQ:OpD X (binaryOp .Sub) qX:=vx GQ λF H x y dx dy Q l qx qy w=>by
 cases dx<;>first|exact w.elim|skip
 cases dy<;>first|exact w.elim|skip
 exact#[_,_,RdV.int qx,RdV.int qy,jj l w rfl]
def vL:OpD X (binaryOp .Mult) jX:=vx GR λF H x y dx dy Q l qx qy w=>by
 cases dx<;>first|exact w.elim|skip
 cases dy<;>first|exact w.elim|skip
 rename_i i j;unfold jX at w;dsimp only at w;by_cases c:(fits b64 i||fits b64 j)=true
 .rw[if_pos c]at w;have c:(-(2 ^ 64)<i/\i<2 ^ 64)\/(-(2 ^ 64)<j/\j<2 ^ 64):=by
   rw[Bool.or_eq_true,fits_iff,fits_iff]at c;lia
  exact#[_,_,RdV.int qx,RdV.int qy,c,jj l w rfl]
 rw[if_neg c]at w;exact w.elim
def yk:OpD X (binaryOp .Mod) vv:=vx GT λF H x y dx dy Q l qx qy w=>by
 cases dx<;>first|exact w.elim|skip
 cases dy<;>first|exact w.elim|skip
 rename_i i j;unfold vv at w;dsimp only at w;by_cases c:0<j
 .rw[if_pos c]at w;exact#[_,_,RdV.int qx,RdV.int qy,c,jj l w rfl]
 rw[if_neg c]at w;exact w.elim
def kn:OpD X (binaryOp .FloorDiv) vK:=vx GS λF H x y dx dy Q l qx qy w=>by
 cases dx<;>first|exact w.elim|skip
 cases dy<;>first|exact w.elim|skip
 rename_i i j;unfold vK at w;dsimp only at w;by_cases c:0<j/\j<1073741824
 .rw[if_pos c]at w;exact#[_,_,RdV.int qx,RdV.int qy,c,jj l w rfl]
 rw[if_neg c]at w;exact w.elim
def vy:OpD X (compareOp .Lt) dLt:=vx GW λF H x y dx dy Q l qx qy w=>by
 cases dx<;>first|exact w.elim|skip
 cases dy<;>first|exact w.elim|skip
 exact#[_,_,RdV.int qx,RdV.int qy,jj l w rfl]
def vM:OpD X (compareOp .LtE) dLe:=vx GX λF H x y dx dy Q l qx qy w=>by
 cases dx<;>first|exact w.elim|skip
 cases dy<;>first|exact w.elim|skip
 exact#[_,_,RdV.int qx,RdV.int qy,jj l w rfl]
def Z5:OpD X (compareOp .Gt) dGt:=vx GY λF H x y dx dy Q l qx qy w=>by
 cases dx<;>first|exact w.elim|skip
 cases dy<;>first|exact w.elim|skip
 exact#[_,_,RdV.int qx,RdV.int qy,jj l w rfl]
end
mutual
def toPy:D->PyData
 | .non=>.none|.bl b=>.bool b|.int i=>.int i|.str x=>.str x
 | .tup xs=>.tuple (jY xs)|.lst xs=>.list (jY xs)
 | _=>.none
def jY:List D->List PyData
 | []=>[]
 | x::xs=>toPy x::jY xs
end
mutual
theorem Qd:∀(n m:Nat) (a b:D),qI n a=true->qI m b=true->PyData.eqv (toPy a) (toPy b)=deq a b
 | n,m,a,b,ha,hb=>by
  cases a<;>cases b<;>first
   | rfl
   | (simp[qI]at ha;done)
   | (simp[qI]at hb;done)
   | skip
  .rename_i xs ys;cases n with
   | zero=>simp[qI]at ha
   | succ n =>
    cases m with
    | zero=>simp[qI]at hb
    | succ m=>exact Z6 n m xs ys ha hb
  rename_i xs ys;cases n with
  | zero=>simp[qI]at ha
  | succ n =>
   cases m with
   | zero=>simp[qI]at hb
   | succ m=>exact Z6 n m xs ys ha hb
theorem Z6:∀(n m:Nat) (a b:List D),a.all (qI n)=true->b.all (qI m)=true->PyData.eqvAll (jY a) (jY b)=deqs a b
 | _,_,[],[],_,_=>rfl
 | _,_,[],_::_,_,_=>rfl
 | _,_,_::_,[],_,_=>rfl
 | n,m,x::xs,y::ys,ha,hb=>by
  rw[pA,hE]at ha hb;show(PyData.eqv (toPy x) (toPy y)&&PyData.eqvAll (jY xs) (jY ys))=(deq x y&&deqs xs ys);rw[Qd n m x y ha.1 hb.1,Z6 n m xs ys ha.2 hb.2]
end
theorem WY(x)(n m)(z:qI n x=true):∀ ys,ys.all (qI m)=true->((jY ys).any λy=>PyData.eqv y (toPy x))=din x ys
 | [],_=>rfl
 | y::ys,h=>by
  rw[pA,hE]at h;show(PyData.eqv (toPy y) (toPy x)||(jY ys).any λy=>PyData.eqv y (toPy x))=(deq y x||din x ys)
  rw[Qd m n y x h.1 z,WY x n m z ys h.2]
theorem wR:∀ n d,qI n d=true->(toPy d).canLay0=true/\(toPy d).depth<=n
 | n,.non,_=>#[rfl,tK _]
 | n,.bl _,_=>#[rfl,tK _]
 | n,.int _,_=>#[rfl,tK _]
 | n,.str x,h=>#[by cases n<;>exact h,tK _]
 | 0,.tup _,h=>by simp[qI]at h
 | 0,.lst _,h=>by simp[qI]at h
 | n+1,.tup xs,h=>by
  have k:∀ ys,ys.all (qI n)=true->PyData.canLayAll0 (jY ys)=true/\PyData.depthAll (jY ys)<=n:=by
   intro ys
   induction ys with
   | nil=>intro _;exact#[rfl,tK _]
   | cons y ys ih =>
    intro hy;rw[pA,hE]at hy;obtain⟨a1,a2⟩:=wR n y hy.1;obtain⟨b1,b2⟩:=ih hy.2;refine#[?_,?_]
    .show((toPy y).canLay0&&PyData.canLayAll0 (jY ys))=true;rw[a1,b1];rfl
    show max (toPy y).depth (PyData.depthAll (jY ys))<=n;lia
  obtain⟨k1,k2⟩:=k xs h;exact#[k1,Nat.succ_le_succ k2]
 | n+1,.lst xs,h=>by
  have k:∀ ys,ys.all (qI n)=true->PyData.canLayAll0 (jY ys)=true/\PyData.depthAll (jY ys)<=n:=by
   intro ys
   induction ys with
   | nil=>intro _;exact#[rfl,tK _]
   | cons y ys ih =>
    intro hy;rw[pA,hE]at hy;obtain⟨a1,a2⟩:=wR n y hy.1;obtain⟨b1,b2⟩:=ih hy.2;refine#[?_,?_]
    .show((toPy y).canLay0&&PyData.canLayAll0 (jY ys))=true;rw[a1,b1];rfl
    show max (toPy y).depth (PyData.depthAll (jY ys))<=n;lia
  obtain⟨k1,k2⟩:=k xs h;exact#[k1,Nat.succ_le_succ k2]
 | n,.dK _,h=>by cases n<;>simp[qI]at h
 | n,.dT _,h=>by cases n<;>simp[qI]at h
 | n,.xc _ _,h=>by cases n<;>simp[qI]at h
section
variable{X:Cx}{pins:List (Addr×Obj)}{σ:St}{F H:Hp}{s:ab}
mutual
theorem Z7(I:"I" H s)(l:Le F H):∀(n:Nat) (d:D) {v:V} {u:aa},qI n d=true->Rep (kx X) F v d->RelV v u->∃ as,Reads s.heap u (toPy d) as
 | _,.non,v,u,_,r,q=>by cases (show v=.non from r);cases (show u=Value.none from q);exact#[_,.none]
 | _,.bl b,v,u,_,r,q=>by cases (show v=.bl b from r);cases (show u=Value.bool b from q);exact#[_,.bool b]
 | _,.int i,v,u,_,r,q=>by cases (show v=.int i from r);obtain⟨t,rfl⟩:=(show ∃ t,u=Value.int i t from q);exact#[_,.int i t]
 | _,.str x,v,u,_,r,q=>by cases (show v=.str x from r);obtain⟨t,rfl⟩:=(show ∃ t,u=Value.str x t from q);exact#[_,.str x t]
 | 0,.tup _,_,_,h,_,_=>by simp[qI]at h
 | 0,.lst _,_,_,h,_,_=>by simp[qI]at h
 | n+1,.tup ds,v,u,h,r,q=>by
  obtain⟨a,vs,rfl,hq,rs⟩:=r;cases (show u=Value.ref a from q)
  obtain⟨its,rv,⟨o,e1,e2,m,e3⟩,hz⟩:=I.tuple (SqT.le l hq);obtain⟨as,hr⟩:=Qe I l n ds h rs rv;exact#[_,.tuple e1 e2 e3 hr[""]]
 | n+1,.lst ds,v,u,h,r,q=>by
  obtain⟨a,vs,rfl,hq,rs⟩:=r;cases (show u=Value.ref a from q)
  obtain⟨its,rv,⟨o,m,e1,e2,_,e3⟩,hz⟩:=I.list (SqL.le l hq);obtain⟨as,hr⟩:=Qe I l n ds h rs rv;exact#[_,.list e1 e2 e3 hr[""]]
 | n,.dK _,_,_,h,_,_=>by cases n<;>simp[qI]at h
 | n,.dT _,_,_,h,_,_=>by cases n<;>simp[qI]at h
 | n,.xc _ _,_,_,h,_,_=>by cases n<;>simp[qI]at h
theorem Qe(I:"I" H s)(l:Le F H):∀(n:Nat) (ds:List D) {vs:List V} {us:List aa},ds.all (qI n)=true->Reps (kx X) F vs ds->Vals vs us->∃ as,ReadsAll s.heap us (jY ds) as
 | n,[],vs,us,_,r,q=>by
  cases (show vs=[]from r)
  cases q;exact#[_,.nil]
 | n,d::ds,vs,us,h,r,q=>by
  obtain⟨v,r',rfl,r1,r2⟩:=r;rw[pA,hE]at h;cases q with
  | cons q1 q2 =>
   obtain⟨as,h1⟩:=Z7 I l n d h.1 r1 q1;obtain⟨bs,h2⟩:=Qe I l n ds h.2 r2 q2;exact#[_,.cons h1 h2]
end
def ko(I:"I" H s)(l:Le F H){n:Nat}(h:qI n d=true)(r:RdV (kx X) F H v d)(q:RelV v u):∃ as,Reads s.heap u (toPy d) as:=by
 rcases r with r|⟨a,o,rfl,e2,r⟩
 .exact Z7 I l n d h r q
 cases d with
 | lst ds =>
  cases n with
  | zero=>simp[qI]at h
  | succ n =>
   cases o with
   | lst vs =>
    cases (q);obtain⟨its,rv,⟨o,m,e1,e2,_,e3⟩,hz⟩:=I.list (SqL.of e2);obtain⟨as,hr⟩:=Qe I l n ds h r rv;exact#[_,.list e1 e2 e3 hr[""]]
   | _=>exact r.elim
 | _=>exact Z7 I l n _ h (RdV.flat (.inr #[a,o,rfl,e2,r]) (λ_ e=>nomatch e) (λ_ e=>by cases e<;>(cases n<;>simp[qI]at h)) λ_ e=>by cases e<;>(cases n<;>simp[qI]at h)) q
end
section
variable{X:Cx}{F0 H0:Hp}
def jZ(z:X.A.units+10<cLine):OpD X (compareOp .Eq) dEq:=by
 intro pins s σ F H x y v u dx dy Q I l rx ry qx qy w;unfold dEq at w;by_cases c:(eqok dx&&eqok dy)=true
 .rw[if_pos c]at w;rw[hE]at c;obtain⟨as,h1⟩:=ko I l c.1 qx rx;obtain⟨bs,h2⟩:=ko I l c.2 qy ry;obtain⟨a1,a2⟩:=wR 8 dx c.1;obtain⟨b1,b2⟩:=wR 8 dy c.2;refine SeqAt.compareEq_reads h1 h2 a1 b1 "" ?_
  rw[Qd 8 8 dx dy c.1 c.2];exact#[.bl _,H,I,rfl,jj l w rfl]
 rw[if_neg c]at w;exact w.elim
def vN(z:X.A.units+10<cLine):OpD X (compareOp .NotEq) dNe:=by
 intro pins s σ F H x y v u dx dy Q I l rx ry qx qy w;unfold dNe at w;by_cases c:(eqok dx&&eqok dy)=true
 .rw[if_pos c]at w;rw[hE]at c;obtain⟨as,h1⟩:=ko I l c.1 qx rx;obtain⟨bs,h2⟩:=ko I l c.2 qy ry;obtain⟨a1,a2⟩:=wR 8 dx c.1;obtain⟨b1,b2⟩:=wR 8 dy c.2;refine SeqAt.compareNe_reads h1 h2 a1 b1 "" ?_
  rw[Qd 8 8 dx dy c.1 c.2];exact#[.bl _,H,I,rfl,jj l w rfl]
 rw[if_neg c]at w;exact w.elim
theorem RepK.look:∀{kds:List (Sum Int Str×D)} {kvs:List (Key×V)} (k:Key),RepK κ F kvs kds->(∃ v d,jo kvs k=!v/\look k kds=!d/\Rep κ F v d)\/(jo kvs k=none/\look k kds=none)
 | [],_,k,h=>by cases (h);exact .inr #[rfl,rfl]
 | (q,d)::r,_,k,h=>by
  obtain⟨v,kr,rfl,h1,h2⟩:=h;by_cases e:q=k
  .refine .inl #[v,d,?_,?_,h1]
   .simp[jo,e]
   simp[L3.look,e]
  rcases RepK.look k h2 with⟨v',d',a,b,c⟩|⟨a,b⟩
  .refine .inl #[v',d',?_,?_,c]
   .simpa[jo,e]using a
   simpa[L3.look,e]using b
  refine .inr #[?_,?_]
  .simpa[jo,e]using a
  simpa[L3.look,e]using b
theorem RepK.length:∀{kds} {kvs},RepK κ F kvs kds->kvs[1]=kds[1]
 | [],_,h=>by cases (h);rfl
 | (q,d)::r,_,h=>by
  obtain⟨v,kr,rfl,h1,h2⟩:=h;simp[RepK.length h2]
def Inv.dictK{s:ab}(I:"I" H s)(h:SqK (kx X) H a kvs) :
  (a==sysModules)=false/\∃ vs,KV kvs vs/\s.heap.DictOf (jd X.prog X.w) a vs:=by
 rcases h with h|⟨hs,o,es,ep,vs,hk,h1,h2,h3,h4,h5,h6⟩
 .obtain⟨_,hd,vs,z,dd⟩:=Q8 I.hok h;exact#[hd,vs,z,dd]
 exact#[hs,vs,h6,o,es,ep,I.kIn a o hk,h1,h2,h3,h4,h5]
def Z8(e:zn d=!k)(r:RdV κ F H v d)(q:RelV v u):RelV (kV k) u:=by
 cases d with
 | int i=>cases e;cases RdV.int r;exact q
 | str x=>cases e;cases RdV.str r;exact q
 | _=>cases e
def IxD(X:Cx)(g:D->D->R En):Prop :=
 ∀(value z:Expr) (pins:List (Addr×Obj)) (s:ab) (σ:St) (F H:Hp) (x y:V) (v u:aa) (dx dy:D) (Q:VK),"I" H s->Le F H->RelV x v->RelV y u->RdV (kx X) F H x dx->RdV (kx X) F H y dy->Wish X F H (g dx dy) Q ->
  subscripted z false v u=operate [v,u] (getItem v u)->X[3] (subscriptTail value z v u) (EP X pins σ Q) X.xe s
variable{a b:Expr}{fa fb:EF}{pos:Pos}{g:D->D->R En}
def Qf(z:IxD X g)(B:"S" a fa)(O:"S" b fb)(U:yh b:=by exact λ_ _=>rfl):"S" (.Subscript a b pos) (eOp g fa fb) :=
 λpins s σ F H ρ Q S I h=>Subscript_ (two B O S I h λs F H x y v u dx dy Q I l rx ry qx qy w=>z a b pins s σ F H x y v u dx dy Q I l rx ry qx qy w (U _ _))
def WZ{xs:List α}{ys:List β}(h:xs[1]=ys[1]){i:Int}{x:α}(e:ati xs i=!x):∃ j:Nat,xs[j]?=!x/\∀ y,ys[j]?=!y->atI ys i=!y:=by
 unfold ati at e;cases q:ixn xs[1] i with
 | none=>rw[q]at e;cases e
 | some j =>
  rw[q]at e;refine#[j,e,λy hy=>?_]
  unfold atI;have:ixN ys[1] i=!j:=by rw[<- h];exact q
  rw[this];exact hy
def qc:D->D->R En
 | .lst xs,.int i=>okD (ati xs i)
 | .tup xs,.int i=>okD (ati xs i)
 | _,_=>.stuck
def Y0:IxD X qc:=by
 intro value B pins s σ F H x y v u dx dy Q I l rx ry qx qy w hs;cases dx<;>first|exact w.elim|skip
 .rename_i ds;cases dy<;>first|exact w.elim|skip
  rename_i i;unfold qc at w;dsimp only at w;cases e:ati ds i with
  | none=>rw[e]at w;exact w.elim
  | some d =>
   rw[e]at w;obtain⟨p,vs,rfl,hq,_,rs⟩:=RdV.tup l qx;obtain⟨j,ej,k⟩:=WZ (Reps.length rs).symm e;obtain⟨z,ez,rz⟩:=Reps.get rs ej;exact Ts value B pins s σ H _ _ v u Q I rx ry #[p,vs,i,z,rfl,RdV.int qy,hq,k z ez,jj l w rz] hs
 rename_i ds;cases dy<;>first|exact w.elim|skip
 rename_i i;unfold qc at w;dsimp only at w;cases e:ati ds i with
 | none=>rw[e]at w;exact w.elim
 | some d =>
  rw[e]at w;obtain⟨p,vs,rfl,hq,rs⟩:=RdV.lst l qx;obtain⟨j,ej,k⟩:=WZ (Reps.length rs).symm e;obtain⟨z,ez,rz⟩:=Reps.get rs ej;exact ix_list value B pins s σ H _ _ v u Q I rx ry #[p,vs,i,z,rfl,RdV.int qy,hq,k z ez,jj l w rz] hs
def qm(z:"S" a fa)(B:"S" b fb)(O:yh b:=by exact λ_ _=>rfl):"S" (.Subscript a b pos) (eOp qc fa fb):=Qf Y0 z B O
def xM:D->D->R En
 | .dK kvs,k=>(match zn k with|some q=>okD (look q kvs)|none=>.stuck)
 | _,_=>.stuck
def qai:IxD X xM:=by
 intro value B pins s σ F H x y v u dx dy Q I l rx ry qx qy w hs;cases dx<;>first|exact w.elim|skip
 unfold xM at w;dsimp only at w;cases e:zn dy with
 | none=>rw[e]at w;exact w.elim
 | some k =>
  rw[e]at w;dsimp only at w;obtain⟨p,kvs,rfl,hq,rk⟩:=RdV.dK l qx;cases (rx);obtain⟨hd,vs,O,dd⟩:=Inv.dictK I hq;rcases RepK.look k rk with⟨z,d,a1,a2,rz⟩|⟨_,a2⟩
  .rw[a2]at w;obtain⟨w',hw,U⟩:=RelO.some_of (by rw[<- a1];exact O.val k)
   exact tail_any dd.typeIs PySem.F.slot_dict_getitem.lookup (wpAny_getItem_of (k8 (Z8 e qy ry)) dd.mapOf hw #[z,H,I.tok _,U,jj l w rz]) hs
  rw[a2]at w;exact w.elim
def qaj(z:"S" a fa)(B:"S" b fb)(O:yh b:=by exact λ_ _=>rfl):"S" (.Subscript a b pos) (eOp xM fa fb):=Qf qai z B O
def qg:SA X F0 H0 [] []:=λpos pins s σ F H ρ Q S I h=>tH (h [] [] F H s (Gr.refl S.s) rfl .nil I)
def qb{f:EF}{r:List EF}(z:"S" e f)(B:SA X F0 H0 es r)(O:(starEach (e::es) X.env=(false,eval e X.env)::starEach es X.env)["r"]):SA X F0 H0 (e::es) (f::r):=by
 intro pos pins s σ F H ρ Q S I h;rw[O];exact hZ (z pins s σ F H ρ _ S I ((KE.bind h).imp λw h1 v u F1 H1 s1 g1 q1 r1 I1=>(B pos pins s1 σ F1 H1 ρ _ (S.grow g1) I1 ((KE.bind h1).imp λws h2 vs us F2 H2 s2 g2 q2 r2 I2=>(h2 (v::vs) (u::us) F2 H2 s2 (g1.trans g2) #[v,vs,rfl,Vok.gr g2 q1,Voks.older (λa e=>Le.none g1.h e) q2] (.cons r1 r2) I2)))))
def zQ:sz=sizeLine:=pp.symm
def qak{F H F1 H1:Hp}(s:Le F H)(g:Gr F H F1 H1)(hp:H1 p=none)(r:Reps (kx X) (jE H F1 H1) vs ds) :
  Gr F H (jE H F1 H1) (upd H1 p (.lst vs))/\Vok (kx X) H (jE H F1 H1) (upd H1 p (.lst vs)) (.ref p) (.lst ds)[9]:=by
 obtain⟨g2,_⟩:=v8 s g;exact#[(g2.trans (Gr.new g2.s hp)),p,_,rfl,Le.none g.h hp,Le.none g2.s hp,qH,r]
def qal{F H F1 H1:Hp}(s:Le F H)(g:Gr F H F1 H1)(hp:H1 p=none)(r:Reps (kx X) (jE H F1 H1) vs ds) :
  Gr F H (upd (jE H F1 H1) p (.tup vs)) (upd H1 p (.tup vs))/\Vok (kx X) H (upd (jE H F1 H1) p (.tup vs)) (upd H1 p (.tup vs)) (.ref p) (.tup ds)[8]:=by
 obtain⟨g2,_⟩:=v8 s g;have g3:=Gr.newF (o:=.tup vs) g2.s hp;exact#[g2.trans g3,p,vs,rfl,SqT.of qH,Reps.le g3.f _ r]
def jI(h:SA X F0 H0 es f):"S" (.List es pos) (jk f):=by
 refine λpins s σ F H ρ Q S I k=>wpAny_List_spliced (h pos pins s σ F H ρ _ S I ((KE.bind k).imp λws k1 vs us F1 H1 s1 g1 q1 r1 I1=>?_))
 cases e:stAll ws with
 | exc x=>rw[e]at k1;exact k1.elim
 | stuck=>rw[e]at k1;cases k1
 | ok ds =>
  rw[e]at k1;have rs:=Voks.stAll S.s g1 q1 e;by_cases c:ds[1]<=sz
  .have k2:KE (XP X F0 H0) (R.ok (En.ow (.lst ds))) λw=>∀ v u F' H' s',Gr F H F' H'->Vok (kx X) H F' H' v w->RelV v u->"I" H' s'->Q u s':=by
    simpa[if_pos c]using k1
   have hz:vs[1]<=sizeLine:=by rw[Reps.length rs];exact c
   refine#[by rw[<- r1[1]];exact hz,?_]
   obtain⟨g3,q3⟩:=qak S.s g1 (I1.hok.fresh (gy _)) rs;exact k2 _ _ _ _ _ g3 q3 rfl (I1.laid (λb u e=>gq _ e) (gy _) #[hz,us,0,r1,gM _ rfl])
  have:False:=by simpa[if_neg c,KE]using k1
  cases this
def zG(h:SA X F0 H0 es f):"S" (.Tuple es x1 pos) (js f):=by
 refine λpins s σ F H ρ Q S I k=>bu (h pos pins s σ F H ρ _ S I ((KE.bind k).imp λws k1 vs us F1 H1 s1 g1 q1 r1 I1=>?_))
 cases e:stAll ws with
 | exc x=>rw[e]at k1;exact k1.elim
 | stuck=>rw[e]at k1;cases k1
 | ok ds =>
  rw[e]at k1;have rs:=Voks.stAll S.s g1 q1 e;by_cases c:ds[1]<=sz
  .have k2:KE (XP X F0 H0) (R.ok (En.fz (.tup ds))) λw=>∀ v u F' H' s',Gr F H F' H'->Vok (kx X) H F' H' v w->RelV v u->"I" H' s'->Q u s':=by
    simpa[if_pos c]using k1
   have hz:vs[1]<=sizeLine:=by rw[Reps.length rs];exact c
   refine#[by rw[<- r1[1]];exact hz,?_]
   obtain⟨g3,q3⟩:=qal S.s g1 (I1.hok.fresh (gy _)) rs;exact k2 _ _ _ _ _ g3 q3 rfl (I1.laid (λb u e=>gq _ e) (gy _) #[hz,us,r1,#[_,gM _ rfl,rfl,_,rfl]])
  have:False:=by simpa[if_neg c,KE]using k1
  cases this
variable{x:Str}{e:Expr}{es:List Expr}{p:Pos}{id T:String}{gc:List D->R En}{f:List EF}
def qP(O:zF X (.builtin id) gc)(U:X.mg x=none)(Y:bootBuiltins x=!(.builtin id))(Z:SA X F0 H0 (e::es) f)(hg:(Gl X x)["r"])(hn:(x≠"__name__")["d"])(z:((x==("__debug__"))=false)["d"])
  (he:(starEach (e::es) X.env=(false,eval e X.env)::starEach es X.env)["r"])(B:((backTo pos (starEach es X.env)).any (·.1)=false)["r"]):"S" (.Call (.Name x p) (e::es) [] pos) (eB gc f):=by
 exact λpins s σ F H ρ Q S I h=>fw (zD I hg U Y (cz (Z pos pins s σ F H ρ _ S I ((KE.bind h).imp λws h1 vs us F1 H1 s1 g1 q1 r1 I1=>(v9 (O pins s1 σ F1 H1 vs us _ _ I1 g1.s r1 (Voks.rd q1) (wQ g1 h1))))) he B) hn z)
def ym(O:zF X (.type T) gc)(U:X.mg x=none)(Y:bootBuiltins x=!(.type T))(Z:SA X F0 H0 (e::es) f)(hg:(Gl X x)["r"])(hn:(x≠"__name__")["d"])(z:((x==("__debug__"))=false)["d"])
  (he:(starEach (e::es) X.env=(false,eval e X.env)::starEach es X.env)["r"])(B:((backTo pos (starEach es X.env)).any (·.1)=false)["r"]):"S" (.Call (.Name x p) (e::es) [] pos) (eB gc f):=by
 exact λpins s σ F H ρ Q S I h=>fw (zD I hg U Y (tu (Z pos pins s σ F H ρ _ S I ((KE.bind h).imp λws h1 vs us F1 H1 s1 g1 q1 r1 I1=>(v9 (O pins s1 σ F1 H1 vs us _ _ I1 g1.s r1 (Voks.rd q1) (wQ g1 h1))))) he B) hn z)
def kq(z:yg X fv r)(h:∀ F H xs ds Q,Le F H->Paired (RdV (kx X) F H) xs ds->Wish X F H (gc ds) Q->r xs H Q):zF X fv gc :=
 λpins s σ F H xs us ds Q I l rx qx w=>z pins s σ H xs us Q I rx (h F H xs ds Q l qx w)
def qam:List D->R En
 | [.lst xs]=>okI xs[1]
 | [.tup xs]=>okI xs[1]
 | _=>.stuck
def Y1:zF X (.builtin "len") qam:=kq TD λF H xs ds Q l qx w=>by
 cases qx with
 | nil=>exact w.elim
 | @cons x d xs ds q1 q2 =>
  cases q2 with
  | cons _ _=>cases d<;>exact w.elim
  | nil =>
   cases d<;>first|exact w.elim|skip
   .obtain⟨p,vs,rfl,hq,_,rs⟩:=RdV.tup l q1;refine#[p,vs,rfl,.inr hq,?_];rw[Reps.length rs];exact jj l w rfl
   obtain⟨p,vs,rfl,hq,rs⟩:=RdV.lst l q1;refine#[p,vs,rfl,.inl hq,?_];rw[Reps.length rs];exact jj l w rfl
def Qg:zF X (.type "list") k9:=kq TH λF H xs ds Q l qx w=>by
 cases qx with
 | nil=>exact w.elim
 | @cons x d xs ds q1 q2 =>
  cases q2 with
  | cons _ _=>cases d<;>exact w.elim
  | nil =>
   cases d<;>first|exact w.elim|skip
   .obtain⟨p,vs,rfl,hq,_,rs⟩:=RdV.tup l q1;exact#[p,vs,rfl,.inr hq,λq hn=>(w _ _ _ (Gr.new l hn) #[q,_,rfl,hn,Le.none l hn,qH,rs])]
   obtain⟨p,vs,rfl,hq,rs⟩:=RdV.lst l q1;exact#[p,vs,rfl,.inl hq,λq hn=>(w _ _ _ (Gr.new l hn) #[q,_,rfl,hn,Le.none l hn,qH,rs])]
end
section
variable{X:Cx}{F0 H0:Hp}{a b e:Expr}{fa fb f:EF}{pos:Pos}{g:D->D->R En}{t u:TF}
def Y2{σ:St}{F H:Hp}{x:V}{v:aa}{d:D}{Q:Bool->ab->Prop}(I:"I" H s)(l:Le F H)(z:RelV x v)(q:RdV (kx X) F H x d)
  (h:KE (XP X F0 H0) (kf d) λb=>∀ s',"I" H s'->Q b s'):X[3] (truthy v) Q X.xe s:=by
 have go:∀ b,TruV X.K x H b->(∀ s',"I" H s'->Q b s')->X[3] (truthy v) Q X.xe s:=λb tv k =>
  thn (T3 pins s σ H x v (λb' H'=>b'=b/\H'=H) I z #[b,tv,rfl,rfl]) λb' s' #[H',I',eb,eh]=>by
   simp_all
 cases d with
 | non=>cases RdV.non q;exact go false rfl h
 | bl b=>cases RdV.bl q;exact go b rfl h
 | int i=>cases RdV.int q;exact go (i != 0) rfl h
 | str y =>
  cases RdV.str q;unfold kf at h;dsimp only at h;by_cases c:y[1]<=sz
  .rw[if_pos c]at h;exact go _ #[by rw[<- zQ];exact c,rfl] h
  rw[if_neg c]at h;exact h.elim
 | tup ds =>
  obtain⟨p,vs,rfl,hq,_,rs⟩:=RdV.tup l q;refine go (not ds.isEmpty) (.inr (.inl #[vs,hq,?_])) h;have:=Reps.length rs
  grind
 | lst ds =>
  obtain⟨p,vs,rfl,hq,rs⟩:=RdV.lst l q;refine go (not ds.isEmpty) (.inl #[vs,hq,?_]) h;have:=Reps.length rs
  grind
 | dK _=>exact h.elim
 | dT _=>exact h.elim
 | xc _ _=>exact h.elim
def qF(z:OpD X (compareOp op) g)(B:"S" a fa)(O:"S" b fb)(U:behindInMarks op b=false:=by first|exact Wu _ "d" "d"|rfl) :
  ST X F0 H0 (.Compare a [op] [b] pos) (tE (eOp g fa fb)):=by
 exact λpins s σ F H ρ Q S I h=>wpAny_isTrue_Compare1 (two B O S I ((KE.bind h).imp λw h1 v u F' H' s' g' q r I'=>(Y2 I' g'.s r (Vok.rd q) (h1.imp λb k s2 I2=>k F' H' s2 g' I2))) λs F H x y v u dx dy Q=>z pins s σ F H x y v u dx dy Q) U
def jJ(B:"S" e f)(hp:∀ z,isTrue e X.env z=(do let v <- z;standAt e.pos;holding [v] (truthy v)):=by intro _;rfl):ST X F0 H0 e (tE f):=by
 exact λpins s σ F H ρ Q S I h=>isTrue_plain (B pins s σ F H ρ _ S I ((KE.bind h).imp λw h1 v u F' H' s' g' q r I'=>(Y2 I' g'.s r (Vok.rd q) (h1.imp λb k s2 I2=>k F' H' s2 g' I2)))) (hp _)
def zH(z:ST X F0 H0 a t):ST X F0 H0 (.UnaryOp .Not a pos) (jA t):=by
 exact λpins s σ F H ρ Q S I h=>isTrue_not (z pins s σ F H ρ _ S I ((KE.bind h).imp λb k F' H' s' g' I'=>k F' H' s' g' I'))
variable{rest:List Expr}
def yn(z:ST X F0 H0 a t):SW X F0 H0 (.BoolOp .And [a] pos) t:=by
 refine λwh pins s σ F H ρ Q S I h=>isTrue_and (z pins s σ F H ρ _ S I (h.imp λc k F' H' s' g' I'=>?_))
 cases c with
 | true=>exact isTrue_and_nil (k F' H' s' g' I')
 | false=>exact k F' H' s' g' I'
def yo(z:ST X F0 H0 a t):SW X F0 H0 (.BoolOp .Or [a] pos) t:=by
 refine λwh pins s σ F H ρ Q S I h=>isTrue_or (z pins s σ F H ρ _ S I (h.imp λc k F' H' s' g' I'=>?_))
 cases c with
 | false=>exact isTrue_or_nil (k F' H' s' g' I')
 | true=>exact k F' H' s' g' I'
def Y3{σ:St}{Q:Bool->ab->Prop}(g':Gr F H F' H'){r:R Bool}(h:KE (XP X F0 H0) r λb=>∀ F2 H2 s2,Gr F H F2 H2->"I" H2 s2->Q b s2) :
  KE (XP X F0 H0) r λb=>∀ F2 H2 s2,Gr F' H' F2 H2->"I" H2 s2->Q b s2:=h.imp λb k F2 H2 s2 g2 I2=>k F2 H2 s2 (g'.trans g2) I2
def wD(z:ST X F0 H0 a t)(B:SW X F0 H0 (.BoolOp .And (b::rest) pos) u):SW X F0 H0 (.BoolOp .And (a::b::rest) pos) (zo t u):=by
 refine λwh pins s σ F H ρ Q S I h=>isTrue_and (z pins s σ F H ρ _ S I ((KE.bind h).imp λc k F' H' s' g' I'=>?_))
 cases c with
 | true=>exact B wh pins s' σ F' H' ρ Q (S.grow g') I' (Y3 g' k)
 | false=>exact k F' H' s' g' I'
def wE(z:ST X F0 H0 a t)(B:SW X F0 H0 (.BoolOp .Or (b::rest) pos) u):SW X F0 H0 (.BoolOp .Or (a::b::rest) pos) (tOr t u):=by
 refine λwh pins s σ F H ρ Q S I h=>isTrue_or (z pins s σ F H ρ _ S I ((KE.bind h).imp λc k F' H' s' g' I'=>?_))
 cases c with
 | false=>exact B wh pins s' σ F' H' ρ Q (S.grow g') I' (Y3 g' k)
 | true=>exact k F' H' s' g' I'
def st_w(h:SW X F0 H0 e t):ST X F0 H0 e t:=h _
def Z9{σ:St}{Q:aa->ab->Prop}(g':Gr F H F' H'){r:R En}
  (h:KE (XP X F0 H0) r λw=>∀ v u F2 H2 s2,Gr F H F2 H2->Vok (kx X) H F2 H2 v w->RelV v u->"I" H2 s2->Q u s2) :
  KE (XP X F0 H0) r λw=>∀ v u F2 H2 s2,Gr F' H' F2 H2->Vok (kx X) H' F2 H2 v w->RelV v u->"I" H2 s2->Q u s2 :=
 h.imp λw k v u F2 H2 s2 g2 q r I2=>k v u F2 H2 s2 (g'.trans g2) (Vok.older (λa e=>Le.none g'.h e) q) r I2
def Za(q:RdV (kx X) F H x d)(r:RelV x v)(h:KE (XP X F0 H0) (isB d) P):∃ b,v=.bool b/\P b:=by
 cases d<;>first|exact h.elim|skip
 cases RdV.bl q;cases r;exact#[_,rfl,h]
def xN{op}(h:"S" a fa):"S" (.BoolOp op [a] pos) fa:=λpins s σ F H ρ Q S I k=>BoolOp_one (h pins s σ F H ρ Q S I k)
def kt(z:"S" a fa)(B:"S" (.BoolOp .And (b::rest) pos) fb):"S" (.BoolOp .And (a::b::rest) pos) (wP fa fb):=by
 refine λpins s σ F H ρ Q S I h=>BoolOp_and (z pins s σ F H ρ _ S I ((KE.bind h).imp λw h1 v u F' H' s' g' q r I'=>?_))
 obtain⟨c,rfl,h2⟩:=Za (Vok.rd q) r (KE.bind h1);refine pF ?_;cases c with
 | true=>exact B pins s' σ F' H' ρ Q (S.grow g') I' (Z9 g' h2)
 | false=>exact h2 (.bl false) _ F' H' s' g' rfl rfl I'
def qan(z:"S" a fa):"S" (.UnaryOp .Not a pos) (WW fa):=by
 refine λpins s σ F H ρ Q S I h=>UnaryOp_ (z pins s σ F H ρ _ S I ((KE.bind h).imp λw h1 v u F' H' s' g' q r I'=>?_))
 obtain⟨c,rfl,h2⟩:=Za (Vok.rd q) r (KE.bind h1);exact not_of (pF (h2 (.bl (not c)) _ F' H' s' g' rfl rfl I'))
def Zb(z:ST X F0 H0 c t)(B:"S" a fa)(O:"S" b fb):"S" (.IfExp c a b pos) (eIf t fa fb):=by
 refine λpins s σ F H ρ Q S I h=>wpAny_IfExp (z pins s σ F H ρ _ S I ((KE.bind h).imp λd k F' H' s' g' I'=>?_))
 cases d with
 | true=>exact B pins s' σ F' H' ρ Q (S.grow g') I' (Z9 g' k)
 | false=>exact O pins s' σ F' H' ρ Q (S.grow g') I' (Z9 g' k)
end
section
variable{X:Cx}{F0 H0:Hp}{e:Expr}{f:EF}{pos pos':Pos}{st:Stmt}{rest:List Stmt}{p q:SF}{t:TF}
def qK:SSs X F0 H0 [] qr:=λpins s σ F H ρ D S I h=>bn #[σ,H,I,h σ F H Le.refl S]
def qh(h1:SS X F0 H0 st p)(h2:SSs X F0 H0 rest q):SSs X F0 H0 (st::rest) (qe p q):=by
 intro pins s σ F H ρ D S I h;have go:∀ D',D'.rt=D.rt->D'.bk=D.bk->D'.ct=D.ct->PostS X F0 H0 F D' (p ρ)->(∀ B H' s',D'.nx B H'->Inv X pins B H' s'->X[3] (execs rest X.env) (SP X pins D) X.xe s') ->
   X[3] (execs (st::rest) X.env) (SP X pins D) X.xe s:=λD' er eb ec hp hn=>by
  refine wpAny_execs_cons (thn (h1 pins s σ F H ρ D' S I hp) λfl s1 r=>?_)
  cases fl with
  | next=>obtain⟨B,H',I',r⟩:=r;exact hn B H' s1 r I'
  | ret v=>obtain⟨x,B,H',I',rv,r⟩:=r;exact#[x,B,H',I',rv,by rw[<- er];exact r]
  | brk=>obtain⟨B,H',I',r⟩:=r;exact#[B,H',I',by rw[<- eb];exact r]
  | cont=>obtain⟨B,H',I',r⟩:=r;exact#[B,H',I',by rw[<- ec];exact r]
 unfold qe at h;cases ep:p ρ with
 | nx ρ' =>
  rw[ep]at h;exact go {D with nx:=λB H'=>∃ F',Le F F'/\StOk (kx X) F0 H0 F' H' ρ' B} rfl rfl rfl (by rw[ep];exact λB F' H' l S'=>#[F',l,S']) λB H' s' #[F',l,S'] I'=>(h2 pins s' B F' H' ρ' D S' I' (PostS.le l h))
 | rt w=>rw[ep]at h;exact go {D with nx:=λ_ _=>False} rfl rfl rfl (by rw[ep];exact h) λ_ _ _ z=>z.elim
 | bk ρ'=>rw[ep]at h;exact go {D with nx:=λ_ _=>False} rfl rfl rfl (by rw[ep];exact h) λ_ _ _ z=>z.elim
 | ct ρ'=>rw[ep]at h;exact go {D with nx:=λ_ _=>False} rfl rfl rfl (by rw[ep];exact h) λ_ _ _ z=>z.elim
 | exc x=>rw[ep]at h;exact go {D with nx:=λ_ _=>False} rfl rfl rfl (by rw[ep];exact h) λ_ _ _ z=>z.elim
 | stuck=>rw[ep]at h;cases h
def qk(h1:SS X F0 H0 st p):SSs X F0 H0 [st] p:=by
 refine λpins s σ F H ρ D S I h=>wpAny_execs_cons (thn (h1 pins s σ F H ρ D S I h) λfl s1 r=>?_)
 cases fl with
 | next=>exact bn r
 | ret v=>exact r
 | brk=>exact r
 | cont=>exact r
def Y4:SS X F0 H0 (.Break pos) yj:=λpins s σ F H ρ D S I h=>wpAny_Break #[σ,H,I,h σ F H Le.refl S]
def Zc(z:"S" e f)(B:(swapsWith e none pos.line X.env=pure false)["r"]):SS X F0 H0 (.Expr e pos) (xJ f):=by
 exact λpins s σ F H ρ D S I h=>wpAny_Expr_any (z pins s σ F H ρ _ S I ((PostS.of h).imp λw k v u F' H' s' g q r I'=>(#[σ,H',I',k σ F' H' g.f (S.grow g)]))) I.quiet B
def Qh{P:En->Prop}(h:KE (XP X F0 H0) w.nm P):∃ w',w.nm=.ok w'/\P w'/\w'=w:=by
 cases w with
 | fz d=>exact#[_,rfl,h,rfl]
 | ow d=>exact#[_,rfl,h,rfl]
 | br d=>exact h.elim
 | lk d=>exact h.elim
 | od d=>exact h.elim
def qo(i){x:Str}(z:X.N.Nodup)(B:"S" e f)(hi:(X.N[i]?=!x)["r"])(O:(Loc X.env.scope x)["t"])
  (U:(swapsWith e (!(.Name x pos')) pos.line X.env=pure false)["r"])(Y:(X.fn x=true\/X.env.scope.names.lookup x=some .local)["t"]) :
  SS X F0 H0 (.Assign [.Name x pos'] e pos) (qj i f):=by
 refine λpins s σ F H ρ D S I h=>bR (B pins s σ F H ρ _ S I ((KE.bind (PostS.of h)).imp λw k v u F' H' s' g q r I'=>?_)) U
 obtain⟨w',e1,k2,rfl⟩:=Qh k;exact xD I' z hi O r (λs2 I2=>#[_,H',I2,k2 _ F' H' g.f (S.setW g q e1)]) Y
def qu(z:"S" e f):SS X F0 H0 (.Return ↑e pos) (qp f):=by
 refine λpins s σ F H ρ D S I h=>bM (z pins s σ F H ρ _ S I ((KE.bind (PostS.of h)).imp λw k v u F' H' s' g q r I'=>?_))
 obtain⟨w',e1,k2,rfl⟩:=Qh k;exact#[v,σ,H',I',r,k2 v F' H' (S.gr.trans g) (Vok.older (λa e=>Le.none S.gr.h e) q)]
def zc(i){x:Str}{pos':Pos}(z:(Nm X i x)["t"]):SS X F0 H0 (.Return (!(.Name x pos')) pos) (ju i):=by
 intro pins s σ F H ρ D S I h;have go:∀ w,ρ[i]?=!(!w)->(∀ v,Eok (kx X) H0 F H v w->Vok (kx X) H0 F H v w)->(∀ v F' H',Gr F0 H0 F' H'->Vok (kx X) H0 F' H' v w->D.rt v H') ->
   X[3] (exec (.Return (!(.Name x pos')) pos) X.env) (SP X pins D) X.xe s:=λw ew t k=>by
  obtain⟨v,e1,q⟩:=S.val i w ew;refine bM (thn (pvN z pins s σ H (λv' H'=>v'=v/\H'=H) I #[v,e1,rfl,rfl]) λu s' #[v',H',I',r,ev,eh]=>?_)
  subst ev eh;exact#[v',σ,H',I',r,k v' F H' S.gr (t v' q)]
 unfold ju at h;cases ew:ρ[i]? with
 | none=>rw[ew]at h;cases h
 | some w =>
  rw[ew]at h;cases w with
  | none=>cases h
  | some w =>
   cases w with
   | fz d=>exact go _ ew (λv q=>q) h
   | ow d=>exact go _ ew (λv q=>q) h
   | br d=>exact h.elim
   | lk d=>exact h.elim
   | od d=>exact h.elim
def qL(z:ST X F0 H0 c t)(B:SSs X F0 H0 as p)(O:SSs X F0 H0 bs q):SS X F0 H0 (.If c as bs pos) (sIf t p q):=by
 refine λpins s σ F H ρ D S I h=>wpAny_If (z pins s σ F H ρ _ S I ((PostS.of h).imp λd k F' H' s' g I'=>?_))
 cases d with
 | true=>exact B pins s' σ F' H' ρ D (S.grow g) I' (PostS.le g.f k)
 | false=>exact O pins s' σ F' H' ρ D (S.grow g) I' (PostS.le g.f k)
def ku(i){x:Str}{op:Operator}{g:D->D->R En}(B:X.N.Nodup)(O:OpD X (inplaceOp op) g)(U:"S" e f)(hi:(X.N[i]?=!x)["r"])(Y:(Loc X.env.scope x)["t"])
  (Z:(X.fn x=true\/X.env.scope.names.lookup x=some .local)["t"]):SS X F0 H0 (.AugAssign (.Name x pos') op e pos) (jU i g f):=by
 intro pins s σ F H ρ D S I h;unfold jU at h;cases ew:ρ[i]? with
 | none=>rw[ew]at h;exact h.elim
 | some w =>
  rw[ew]at h;cases w with
  | none=>exact h.elim
  | some w =>
   cases w with
   | ow d=>exact h.elim
   | br d=>exact h.elim
   | lk d=>exact h.elim
   | od d=>exact h.elim
   | fz d =>
    obtain⟨v,e1,q⟩:=S.val i _ ew;have ip:PIp X op (λx y H' Q'=>∃ F' dx dy,Le F' H'/\RdV (kx X) F' H' x dx/\RdV (kx X) F' H' y dy/\Wish X F' H' (g dx dy) Q'):=λpins s σ H x y v u Q I rx ry #[F',dx,dy,l,qx,qy,w]=>O pins s σ F' H x y v u dx dy Q I l rx ry qx qy w
    refine Gx B hi Y (je) ip Z pins s σ H D I #[v,e1,U.sem S ((KE.bind (PostS.of h)).imp λwy k y F1 H1 g1 q1=>#[F1,d,wy.d,g1.s,Rep.le g1.f d q |> Or.inl,Vok.rd q1,?_])]
    refine KE.impX (KE.bind k) (λw k2 z F2 H2 g2 q2=>?_) λ_ z=>z.elim
    obtain⟨w',e2,k3,rfl⟩:=Qh k2;exact k3 _ F2 H2 (Le.trans g1.f g2.f) ((S.grow g1).setW g2 q2 e2)
def StOk.mut{ρ:Rho}{i:Nat}(S:StOk κ F0 H0 F H ρ σ)(B:ρ[i]?=!(!d[9]))(O:σ[i]?=!(!(.ref a)))(r:OwnO κ F o d') :
  StOk κ F0 H0 F (upd H a o) (ρ.set i (!d'[9])) σ:=by
 obtain⟨v,e1,q⟩:=S.val i _ B;rw[O]at e1;cases e1;obtain⟨b,ob,eb,h0,hf,hh,_⟩:=q;cases eb;refine#[#[S.gr.f,λc u h=>?_,λc u h=>?_,S.gr.n],by simpa using S.len,λj w e=>?_,λj k w w' c U ej ek oj ok sj sk=>?_,λj y e=>?_]
 .rw[qt (jG h h0)];exact S.gr.h c u h
 .rw[qt (jG h hf)];exact S.gr.s c u h
 .rcases qB e with⟨rfl,z⟩|⟨ne,z⟩
  .cases z;exact#[_,O,a,o,rfl,h0,hf,qH,r]
  obtain⟨v,e1,q⟩:=S.val j w z;refine#[v,e1,?_];have nb:∀{c},v=.ref c->w.own=true->c≠a:=λ{c} ev ow ec=>by
   subst ev ec;exact S.sep j i w _ c ne z B ow rfl e1 O
  cases w with
  | fz d=>exact q
  | br d=>exact q
  | ow d =>
   obtain⟨c,oc,ec,c0,cf,ch,cr⟩:=q;exact#[c,oc,ec,c0,cf,by rw[qt (nb ec rfl)];exact ch,cr]
  | lk d=>exact q
  | od d =>
   obtain⟨c,oc,ec,c0,cf,ch⟩:=q;exact#[c,oc,ec,c0,cf,by rw[qt (nb ec rfl)];exact ch]
 .have at_:∀{m:Nat} {y},(ρ.set i (!d'[9]))[m]?=!(!y)->y.own=true->∃ y',ρ[m]?=!(!y')/\y'.own=true:=λ{m y} h oy=>by
   rcases qB h with⟨rfl,_⟩|⟨_,z⟩
   .exact#[_,B,rfl]
   exact#[y,z,oy]
  obtain⟨y,Y,Z⟩:=at_ ej oj;obtain⟨y',ek',ok'⟩:=at_ ek ok;exact S.sep j k y y' c U Y ek' Z ok' sj sk
 rcases qB e with⟨_,z⟩|⟨nj,ej⟩
 .cases z
 obtain⟨s1,c,bs,e1,c0,cf,nd,dp,sp⟩:=S.dp j y ej;refine#[λk z hk ek=>?_,c,bs,e1,c0,cf,nd,Deep.same (λb m=>?_) (λ_ _ z=>z) Le.refl dp,λk w b hk ek ok m=>?_]
 .rcases qB ek with⟨_,q⟩|⟨_,q⟩
  .lia
  exact s1 k z hk q
 .refine(qt λz=>?_).symm
  subst z;exact sp i _ _ (t9 nj) B rfl m O
 rcases qB ek with⟨rfl,_⟩|⟨_,q⟩
 .exact sp k _ b hk B rfl m
 exact sp k w b hk q ok m
def zR(i){x:Str}{apos cpos np:Pos}(Z:"S" e f)(hN:(Nm X i x)["t"])(B:(attributeBase (.Name x np) "append" X.env (eval (.Name x np) X.env)=eval (.Name x np) X.env)["r"])
  (U:(((backTo cpos (starEach [e] X.env)).all (λx=>not x.1)&&(backToKw cpos (keywordEach [] X.env)).all (λx=>x.1.isSome)
   && decide ([e].length+([]:List Keyword)[1]+(if ([]:List Keyword).isEmpty then 0 else 1)<30))=true)["r"])
  (O:((apos.endLine==cpos.line)=true)["r"]) (Y:(starEach [e] X.env=(false,eval e X.env)::starEach [] X.env)["r"]) (z:((backTo cpos (starEach [] X.env)).any (·.1)=false)["r"])
  (hs:(swapsWith (.Call (.Attribute (.Name x np) "append" apos) [e] [] cpos) none pos.line X.env=pure false)["r"]) :
  SS X F0 H0 (.Expr (.Call (.Attribute (.Name x np) "append" apos) [e] [] cpos) pos) (qY i f):=by
 intro pins s σ F H ρ D S I h;unfold qY at h;cases ew:ρ[i]? with
 | none=>rw[ew]at h;exact h.elim
 | some w =>
  rw[ew]at h;cases w with
  | none=>cases h
  | some w =>
   cases w with
   | fz d=>exact h.elim
   | br d=>exact h.elim
   | lk d=>exact h.elim
   | od d=>exact h.elim
   | ow d =>
    cases d<;>first|exact h.elim|skip
    rename_i ds;have h:=KE.bind (PostS.of h);obtain⟨v,e1,a,o,rfl,h0,hf,hh,ro⟩:=S.val i _ ew;cases o<;>first|exact ro.elim|skip
    rename_i vs;have P:=xE (wO (X:=X) fS cj cq xG (pvN (pos:=np) hN) (zE (je (e:=e)) vJ Y) B U O Y z) hs;refine P pins s σ H D I #[_,e1,.inl #[rfl,vs,SqL.of hh],Z.sem S (h.imp λw k y F1 H1 g1 q1=>?_)]
    cases es:w.st with
    | exc x=>rw[es]at k;exact k.elim
    | stuck=>rw[es]at k;exact k.elim
    | ok d =>
     rw[es]at k;have ry:=Vok.st S.s g1 q1 es;obtain⟨g2,_⟩:=v8 S.s g1;have lv:vs[1]=ds[1]:=Reps.length ro;by_cases c:ds[1]<sz
     .have k2:PostS X F0 H0 F D (.nx (ρ.set i (!(.lst (ds++[d]))[9]))):=by simpa[if_pos c,KE]using k
      refine#[a,vs,y,rfl,rfl,g1.h _ _ hh,by rw[lv];exact c,?_]
      exact k2 σ _ _ g2.f ((S.grow g2).mut ew e1 (o:=.lst (vs++[y])) (Reps.append (Reps.le g2.f _ ro) (Reps.one ry)))
     have:False:=by simpa[if_neg c,PostS,KE]using k
     exact this.elim
end
section
variable{X:Cx}{F0 H0:Hp}{pos:Pos}{t:TF}{p:SF}
def Y5(n){c:Expr}{body:List Stmt}(hp:PassesOwn (model X.prog X.w) X.A X.env X.xe)(Y:ST X F0 H0 c t)(Z:SSs X F0 H0 body p):SS X F0 H0 (.While c body [] pos) (kg n t p):=by
 refine λpins s σ F H ρ D S I h=>Gz hp (qah) (Qc) pins s σ H D I
  #[λm σ H=>∃ F' ρ,Le F F'/\StOk (kx X) F0 H0 F' H ρ σ/\PostS X F0 H0 F' D (zy t p m ρ),#[n,F,ρ,Le.refl,S,h],?_]
 rintro m B H1 ⟨F1,ρ1,l1,S1,h1⟩;cases m with
 | zero=>exact h1.elim
 | succ m =>
  refine λO s' I'=>Y O s' B F1 H1 ρ1 _ S1 I' ((PostS.of h1).imp λb k F2 H2 s2 g2 I2=>#[H2,I2,?_])
  cases b with
  | false=>exact k B F2 H2 g2.f (S1.grow g2)
  | true =>
   refine#[λz H'=>∃ F' ρ,Le F F'/\StOk (kx X) F0 H0 F' H' ρ z/\PostS X F0 H0 F' D (zy t p m ρ),λz H' q=>#[m,dZ m,q],λU s3 I3=>?_]
   refine Z U s3 B F2 H2 ρ1 _ (S1.grow g2) I3 ?_;cases ep:p ρ1 with
   | nx ρ2=>rw[ep]at k;exact λz F' H' l S'=>#[F',ρ2,Le.trans l1 (Le.trans g2.f l),S',PostS.le (Le.trans g2.f l) k]
   | ct ρ2=>rw[ep]at k;exact λz F' H' l S'=>#[F',ρ2,Le.trans l1 (Le.trans g2.f l),S',PostS.le (Le.trans g2.f l) k]
   | bk ρ2=>rw[ep]at k;exact λz F' H' l S'=>k z F' H' (Le.trans g2.f l) S'
   | rt w=>rw[ep]at k;exact k
   | exc x=>rw[ep]at k;exact k
   | stuck=>rw[ep]at k;exact k
end
structure Walk(κ:Kx)(J:It)(F1 G:Hp)(ds:List D):Prop where
 go:∀(i:Nat) (d:D) (F H:Hp),ds[i]?=!d->Le F1 F->Le F H->Le G H->J.go i H/\∀ x H',J.yld i H x H'->∃ F',Gr F H F' H'/\Rep κ F' x d
 stop:∀(i:Nat) (F H:Hp),ds[1]<=i->Le F1 F->Le F H->Le G H->J.stop i H
def Walk.more(W:Walk κ J F1 G ds)(l:Le G G'):Walk κ J F1 G' ds :=
 #[λi d F H e l1 l2 l3=>W.go i d F H e l1 l2 (Le.trans l l3),λi F H e l1 l2 l3=>W.stop i F H e l1 l2 (Le.trans l l3)]
def SI(X:Cx)(F0 H0:Hp)(tg iter:Expr)(fi:IF):Prop :=
 ∃ wi,PI X tg iter wi/\∀(σ:St) (F H:Hp) (ρ:Rho) (R:It->Hp->Prop),StOk (kx X) F0 H0 F H ρ σ ->
  KE (XP X F0 H0) (fi ρ) (λds=>∀ F1 H1 J,Gr F H F1 H1->Walk (kx X) J F1 H0 ds->R J H1)->wi σ H R
def SIc(X:Cx)(F0 H0:Hp)(tg iter:Expr)(fi:IF):Prop :=
 ∃ wi,PI X tg iter wi/\∀(σ:St) (F H:Hp) (ρ:Rho) (R:It->Hp->Prop),StOk (kx X) F0 H0 F H ρ σ ->
  KE (XP X F0 H0) (fi ρ) (λds=>∀ F1 H1 J,Gr F H F1 H1->Walk (kx X) J F1 H1 ds->R J H1)->wi σ H R
def SI.c(h:SI X F0 H0 tg iter fi):SIc X F0 H0 tg iter fi:=by
 obtain⟨wi,P,k⟩:=h;exact#[wi,P,λσ F H ρ R S q=>k σ F H ρ R S (q.imp λds z F1 H1 J g W=>z F1 H1 J g (W.more (Le.trans S.gr.h g.h)))]
def SG(X:Cx)(F0 H0:Hp)(tg:Expr)(gf:GF):Prop :=
 ∃ z,PG X tg z/\∀(σ:St) (F H:Hp) (ρ:Rho) (v:V) (d:D) (Q:St->Hp->Prop),StOk (kx X) F0 H0 F H ρ σ->Rep (kx X) F v d ->
  KE (λ_=>False) (gf d ρ) (λρ1=>∀ B,StOk (kx X) F0 H0 F H ρ1 B->Q B H)->z v σ H Q
section
variable{X:Cx}{F0 H0:Hp}{pos:Pos}{tg iter:Expr}{fi:IF}{gf:GF}{p:SF}{f:EF}
def qN(i)(z:X.N.Nodup)(hi:(X.N[i]?=!x)["r"])(B:(Loc X.env.scope x)["t"])
  (O:(X.fn x=true\/X.env.scope.names.lookup x=some .local)["t"]):SG X F0 H0 (.Name x pos) (gV i) :=
 #[_,Wv z hi B O,λσ F H ρ v d Q S r h=>h _ (S.setF r)]
theorem Y6{Q:St->Hp->Prop}:∀ is ds vs ρ σ,StOk (kx X) F0 H0 F H ρ σ->Reps (kx X) F vs ds ->
  KE (λ_=>False) (gVs is ds ρ) (λρ1=>∀ z,StOk (kx X) F0 H0 F H ρ1 z->Q z H)->Q (List.foldl (λs iv=>s.set iv.1 (!iv.2)) σ (is.zip vs)) H/\is[1]=vs[1]
 | [],[],vs,ρ,σ,S,r,h=>by cases (r);exact#[h σ S,rfl]
 | [],_::_,_,_,_,_,_,h=>h.elim
 | _::_,[],_,_,_,_,_,h=>h.elim
 | i::is,d::ds,_,ρ,σ,S,r,h=>by
  obtain⟨v,vr,rfl,r1,r2⟩:=r;obtain⟨q1,q2⟩:=Y6 is ds vr _ _ (S.setF r1) r2 h
  simp_all
def SGs(X:Cx)(es:List Expr)(is:List Nat):Prop:=PGs X es (λvs σ H Q=>is[1]=vs[1]/\Q (List.foldl (λs (iv:Nat×V)=>s.set iv.1 (!iv.2)) σ (is.zip vs)) H)
def yp:SGs X [] []:=by
 intro pins s σ H vs us Q I r h;obtain⟨e,q⟩:=h;cases r with
 | nil=>exact Gm pins s σ H [] [] Q I .nil #[rfl,q]
 | cons _ _=>cases e
def zS(i){is:List Nat}(z:X.N.Nodup)(h:SGs X es is)(hi:(X.N[i]?=!x)["r"])(B:(Loc X.env.scope x)["t"])
  (O:(X.fn x=true\/X.env.scope.names.lookup x=some .local)["t"])
  (U:((assignEach (.Name x xp::es) X.env).map (·.2)=assign (.Name x xp) X.env::(assignEach es X.env).map (·.2))["r"]):SGs X (.Name x xp::es) (i::is):=by
 intro pins s σ H vs us Q I r k;obtain⟨e,q⟩:=k;cases r with
 | nil=>cases e
 | cons r1 r2=>exact Gn (Wv z hi B O) h U pins s σ H _ _ Q I (.cons r1 r2) #[_,_,rfl,by simpa using e,q]
def yq{k:Nat}{is:List Nat}(B:X.calm=true)(h:SGs X es is)(O:((assignEach es X.env)[1]=is[1])["r"])(z:((assignEach es X.env).findIdx? (·.1)=none)["r"]):SG X F0 H0 (.Tuple es k pos) (gT is):=by
 refine#[_,Gp B h O z,λσ F H ρ v d Q S r w=>?_]
 cases d<;>first|exact w.elim|skip
 rename_i ds;obtain⟨a,vs,rfl,hq,rs⟩:=r;obtain⟨q1,q2⟩:=Y6 is ds vs ρ σ S rs w;exact#[a,vs,rfl,SqT.le S.s hq,q2.symm,q2,q1]
def qZ(hp:PassesOwn (model X.prog X.w) X.A X.env X.xe)(hc:X.calm=true)(hi:SI X F0 H0 tg iter fi)(hg:SG X F0 H0 tg gf)(hb:SSs X F0 H0 body p)
  (hs:∀ x,foldedSetIterable iter X.env x=pure x:=by intro _;rfl):SS X F0 H0 (.For tg iter body [] pos) (qJ fi gf p):=by
 intro pins s σ F H ρ D S I h;obtain⟨wi,Z,hwi⟩:=hi;obtain⟨tgv,PGv,hgv⟩:=hg;refine GL hp hc Z PGv (Qc (st:=body)) hs pins s σ H D I (hwi σ F H ρ _ S ((PostS.of h).imp λds k F1 H1 J g1 W=>?_))
 refine#[λi m σ H=>m=ds[1]-i/\i<=ds[1]/\∃ F' ρ,Le F F'/\Le F1 F'/\StOk (kx X) F0 H0 F' H ρ σ/\PostS X F0 H0 F' D (qC gf p (ds.drop i) ρ),
  #[ds[1],by simp,tK _,F1,ρ,g1.f,Le.refl,S.grow g1,PostS.le g1.f k[""]],?_]
 rintro i m O H2 ⟨rfl,hi,F2,ρ2,lF,l1,S2,h2⟩;by_cases hlt:i<ds[1]
 .have ed:ds[i]?=!ds[i]:=by simp[hlt]
  have Y:ds.drop i=ds[i]::ds.drop (i+1):=fJ hlt;obtain⟨go,yl⟩:=W.go i ds[i] F2 H2 ed l1 S2.s S2.gr.h;refine .inr #[go,λz H'=>∃ F' ρ,Le F F'/\Le F1 F'/\StOk (kx X) F0 H0 F' H' ρ z/\PostS X F0 H0 F' D (qC gf p (ds.drop (i+1)) ρ),λz H' q=>#[ds[1]-(i+1),"",rfl,hlt,q],λx H' y=>?_]
  obtain⟨F3,g3,rx⟩:=yl x H' y;rw[Y]at h2;have S3:=S2.grow g3;refine hgv O F3 H' ρ2 x ds[i] _ S3 rx ?_;cases eg:gf ds[i] ρ2 with
  | exc e=>unfold qC at h2;rw[eg]at h2;exact h2.elim
  | stuck=>unfold qC at h2;rw[eg]at h2;exact h2.elim
  | ok ρ3 =>
   have h3:PostS X F0 H0 F2 D (match p ρ3 with|.nx ρ4=>qC gf p (ds.drop (i+1)) ρ4|.ct ρ4=>qC gf p (ds.drop (i+1)) ρ4|.bk ρ4=>.nx ρ4|o=>o):=by
    unfold qC at h2;rw[eg]at h2;exact h2
   refine λU S4 B s3 I3=>hb B s3 U F3 H' ρ3 _ S4 I3 ?_
   cases ep:p ρ3 with
   | nx ρ4=>rw[ep]at h3;exact λz F' H' l S'=>#[F',ρ4,Le.trans lF (Le.trans g3.f l),Le.trans l1 (Le.trans g3.f l),S',PostS.le (Le.trans g3.f l) h3]
   | ct ρ4=>rw[ep]at h3;exact λz F' H' l S'=>#[F',ρ4,Le.trans lF (Le.trans g3.f l),Le.trans l1 (Le.trans g3.f l),S',PostS.le (Le.trans g3.f l) h3]
   | bk ρ4=>rw[ep]at h3;exact λz F' H' l S'=>h3 z F' H' (Le.trans g3.f l) S'
   | rt w=>rw[ep]at h3;exact h3
   | exc x=>rw[ep]at h3;exact h3
   | stuck=>rw[ep]at h3;exact h3
 have e:i=ds[1]:=""
 subst e;rw[cZ]at h2;exact .inl #[W.stop _ F2 H2 (gy _) l1 S2.s S2.gr.h,h2 O F2 H2 Le.refl S2]
theorem Zd{κ:Kx}(z:SqL κ.K F1 a vs)(rs:Reps κ F1 vs ds):Walk κ (Itl κ.K a) F1 G ds where
 go:=λi d F H ed l1 l _=>by
  obtain⟨v,ev,rv⟩:=Reps.get rs ed;have q:=SqL.le l (SqL.le l1 z);refine#[#[vs,v,q,ev],λx H' y=>?_]
  obtain⟨e,y⟩:=y;subst e;have:=y vs q;rw[ev]at this;cases this;exact#[F,Gr.refl l,Rep.le l1 d rv]
 stop:=λi F H hi l1 l _=>#[vs,SqL.le l (SqL.le l1 z),by rw[Reps.length rs];exact hi]
theorem Ze{κ:Kx}(z:SqT κ.K F1 a vs)(rs:Reps κ F1 vs ds):Walk κ (Itt κ.K a) F1 G ds where
 go:=λi d F H ed l1 l _=>by
  obtain⟨v,ev,rv⟩:=Reps.get rs ed;have q:=SqT.le l (SqT.le l1 z);refine#[#[vs,v,q,ev],λx H' y=>?_]
  obtain⟨e,y⟩:=y;subst e;have:=y vs q;rw[ev]at this;cases this;exact#[F,Gr.refl l,Rep.le l1 d rv]
 stop:=λi F H hi l1 l _=>#[vs,SqT.le l (SqT.le l1 z),by rw[Reps.length rs];exact hi]
theorem Y7{κ:Kx}(z:SqL κ.K G a vs)(rs:Reps κ F1 vs ds):Walk κ (Itl κ.K a) F1 G ds where
 go:=λi d F H ed l1 l lg=>by
  obtain⟨v,ev,rv⟩:=Reps.get rs ed;have q:=SqL.le lg z;refine#[#[vs,v,q,ev],λx H' y=>?_]
  obtain⟨e,y⟩:=y;subst e;have:=y vs q;rw[ev]at this;cases this;exact#[F,Gr.refl l,Rep.le l1 d rv]
 stop:=λi F H hi l1 l lg=>#[vs,SqL.le lg z,by rw[Reps.length rs];exact hi]
def PI.or(h1:PI X tg iter w1)(h2:PI X tg iter w2):PI X tg iter (λσ H R=>w1 σ H R\/w2 σ H R):=λpins s σ H R I h=>by
 rcases h with h|h
 .exact h1 pins s σ H R I h
 exact h2 pins s σ H R I h
def zT(z:"S" iter f):SI X F0 H0 tg iter (ji f):=by
 refine#[_,PI.or (JT (je)) (JU (je)),λσ F H ρ R S h=>?_]
 have h:=KE.bind h;cases ew:f ρ with
 | exc x=>rw[ew]at h;exact h.elim
 | stuck=>rw[ew]at h;exact h.elim
 | ok w =>
  rw[ew]at h;cases es:w.st with
  | exc x=>rw[Qb,es]at h;exact h.elim
  | stuck=>rw[Qb,es]at h;exact h.elim
  | ok d =>
   rw[Qb,es]at h;cases d<;>first|exact h.elim|skip
   .rename_i ds;refine .inr (z.sem S ?_);rw[ew];intro v F1 H1 g1 q1;obtain⟨g2,_⟩:=v8 S.s g1;obtain⟨a,vs,rfl,hq,rs⟩:=Vok.st S.s g1 q1 es;exact#[a,rfl,#[vs,SqT.le g2.s hq],h _ H1 _ g2 (Ze (κ:=kx X) hq rs)]
   rename_i ds;refine .inl (z.sem S ?_);rw[ew];intro v F1 H1 g1 q1;obtain⟨g2,_⟩:=v8 S.s g1;obtain⟨a,vs,rfl,hq,rs⟩:=Vok.st S.s g1 q1 es;exact#[a,rfl,#[vs,SqL.le g2.s hq],h _ H1 _ g2 (Zd (κ:=kx X) hq rs)]
def vc(i)(z:(Nm X i x)["t"]):SI X F0 H0 tg (.Name x pos) (iV i):=by
 refine#[_,PI.or (JT (pvN z)) (JU (pvN z)),λσ F H ρ R S h=>?_]
 unfold iV at h;cases ew:ρ[i]? with
 | none=>rw[ew]at h;exact h.elim
 | some w =>
  rw[ew]at h;cases w with
  | none=>exact h.elim
  | some w =>
   obtain⟨v,e1,q⟩:=S.val i w ew;cases w with
   | ow d=>exact h.elim
   | lk d=>exact h.elim
   | od d=>exact h.elim
   | fz d =>
    cases d<;>first|exact h.elim|skip
    .obtain⟨a,vs,rfl,hq,rs⟩:=q;exact .inr #[_,e1,a,rfl,#[vs,SqT.le S.s hq],h F H _ (Gr.refl S.s) (Ze hq rs)]
    obtain⟨a,vs,rfl,hq,rs⟩:=q;exact .inl #[_,e1,a,rfl,#[vs,SqL.le S.s hq],h F H _ (Gr.refl S.s) (Zd hq rs)]
   | br d =>
    obtain⟨a,o,rfl,eh,ro⟩:=q;cases d<;>first|exact h.elim|skip
    .cases o<;>exact ro.elim
    cases o<;>first|exact ro.elim|skip
    exact .inl #[_,e1,a,rfl,#[_,SqL.of (S.gr.h _ _ eh)],h F H _ (Gr.refl S.s) (Y7 (κ:=kx X) (SqL.of eh) ro)]
def ky(i)(B:(Nm X i x)["t"]):SIc X F0 H0 tg (.Name x pos) (iVc i):=by
 refine#[_,PI.or (JT (pvN B)) (JU (pvN B)),λσ F H ρ R S h=>?_]
 unfold iVc at h;cases ew:ρ[i]? with
 | none=>rw[ew]at h;cases h
 | some w =>
  rw[ew]at h;cases w with
  | none=>cases h
  | some w =>
   obtain⟨v,e1,q⟩:=S.val i w ew;have z:∀{d} {a} {o},v=.ref a->H a=!o->OwnO (kx X) F o d->KE (XP X F0 H0) (xK d) (λds=>∀ F1 H1 J,Gr F H F1 H1->Walk (kx X) J F1 H1 ds->R J H1) ->
     Ww X.K (Q5 i) σ H R\/Wx X.K (Q5 i) σ H R:=λ{d a o} ev eh ro h=>by
    subst ev;cases d<;>first|exact h.elim|skip
    .cases o<;>exact ro.elim
    cases o<;>first|exact ro.elim|skip
    exact .inl #[_,e1,a,rfl,#[_,SqL.of eh],h F H _ (Gr.refl S.s) (Y7 (SqL.of eh) ro)]
   cases w with
   | ow d=>obtain⟨a,o,ev,_,_,eh,ro⟩:=q;exact z ev eh ro h
   | lk d=>cases h
   | od d=>cases h
   | br d=>obtain⟨a,o,ev,eh,ro⟩:=q;exact z ev (S.gr.h _ _ eh) ro h
   | fz d =>
    dsimp only at h;cases d<;>first|exact h.elim|skip
    .obtain⟨a,vs,rfl,hq,rs⟩:=q;exact .inr #[_,e1,a,rfl,#[vs,SqT.le S.s hq],h F H _ (Gr.refl S.s) (Ze (κ:=kx X) hq rs)]
    obtain⟨a,vs,rfl,hq,rs⟩:=q;exact .inl #[_,e1,a,rfl,#[vs,SqL.le S.s hq],h F H _ (Gr.refl S.s) (Zd (κ:=kx X) hq rs)]
theorem kC:∀ n lo i,(zb lo n)[i]?=if i<n then !(lo+i)[6]else none
 | 0,lo,i=>by simp[zb]
 | n+1,lo,0=>by simp[zb]
 | n+1,lo,i+1=>by
  have:=kC n (lo+1) i;simp[zb,cC,this];lia
theorem Qi:∀ n lo,(zb lo n)[1]=n
 | 0,_=>rfl
 | n+1,lo=>by simp[zb,Qi n]
def Y8(lo:Int)(n:Nat):Walk κ (Itr lo n) F1 G (zb lo n)where
 go:=λi d F H ed l1 l _=>by
  rw[kC]at ed;by_cases h:i<n
  .rw[if_pos h]at ed;cases ed;refine#[h,λx H' y=>?_]
   obtain⟨e,y⟩:=y;subst e y;exact#[F,Gr.refl l,rfl]
  simp_all
 stop:=λi F H hi l1 l _=>by rw[Qi]at hi;exact hi
def yr{np cp:Pos}(B:"S" a fa)(O:X.mg "range"=none)(U:(Gl X "range")["r"])(z:(starEach [a] X.env=[(false,eval a X.env)])["r"]):SI X F0 H0 tg (.Call (.Name "range" np) [a] [] cp) (iR1 fa):=by
 refine#[_,GH U O (zE (je) vJ z) z,λσ F H ρ R S h=>B.sem S ((KE.bind h).imp λw k v F1 H1 g1 q1=>?_)]
 have r:=Vok.rd q1
 revert k
 generalize w.d=d at r;intro k;cases d<;>first|exact k.elim|skip
 rename_i j;dsimp only at k;by_cases c:fits b62 j=true
 .rw[if_pos c]at k;have c:-(2 ^ 62)<=j/\j<2 ^ 62:=by
   rw[fits_iff]at c;lia
  cases RdV.int r;exact#[j,rfl,c.1,c.2,k F1 H1 _ g1 (Y8 0 j.toNat)]
 rw[if_neg c]at k;exact k.elim
end
def Args(κ:Kx)(F H:Hp):List V->List En->Prop
 | vs,[]=>vs=[]
 | vs,.fz d::ws=>∃ v r,vs=v::r/\Rep κ F v d/\Args κ F H r ws
 | vs,.br d::ws=>∃ v r,vs=v::r/\(∃ a o,v=.ref a/\H a=!o/\OwnO κ F o d)/\Args κ F H r ws
 | _,_=>False
def spD(κ:Kx)(dn:Den)(n:Nat):Sp:=λvs H Q _=>vs[1]=n/\∃ F ws,Le F H/\Args κ F H vs ws /\
 KE (λ_=>False) (dn ws) λw=>∀ v F' H',Gr F H F' H'->Vok κ H F' H' v w->Q v H'
section
variable{P:af}{w:World}{K:Frag}{mg:Str->Option aa}{base:Heap}
theorem yt:∀{vs} {ws},Args κ F H vs ws->∀(i:Nat) w,(ws.map some)[i]?=!(!w)->∃ v,(vs.map some)[i]?=!(!v)/\Eok κ H F H v w/\w.own=false
 | _,[],_,i,w,e=>by simp at e
 | _,.fz d::ws,h,0,w,e=>by
  obtain⟨v,r,rfl,h1,h2⟩:=h;simp at e;subst e;exact#[v,rfl,h1,rfl]
 | _,.br d::ws,h,0,w,e=>by
  obtain⟨v,r,rfl,h1,h2⟩:=h;simp at e;subst e;exact#[v,rfl,h1,rfl]
 | _,.fz d::ws,h,i+1,w,e=>by
  obtain⟨v,r,rfl,h1,h2⟩:=h;simpa using yt h2 i w e[""]
 | _,.br d::ws,h,i+1,w,e=>by
  obtain⟨v,r,rfl,h1,h2⟩:=h;simpa using yt h2 i w e[""]
theorem xO:∀{vs} {ws},Args κ F H vs ws->vs[1]=ws[1]
 | _,[],h=>by cases (h);rfl
 | _,.fz d::ws,h=>by obtain⟨v,r,rfl,h1,h2⟩:=h;simp[xO h2]
 | _,.br d::ws,h=>by obtain⟨v,r,rfl,h1,h2⟩:=h;simp[xO h2]
def qao{ws:List En}(l:Le F H)(h:Args κ F H vs ws):StOk κ F H F H (ws.map some++List.replicate (N[1]-ws[1]) none) (L2.zm N vs):=by
 have at_:∀ i w,(ws.map some++List.replicate (N[1]-ws[1]) none)[i]?=!(!w)->(ws.map some)[i]?=!(!w):=λi w e=>by
  by_cases hi:i<ws[1]
  .rwa [t4 hi[""]]at e
  rw[hU hi[""],fQ]at e
  lia
 refine#[Gr.refl l,by simp[L2.zm,(xO h)],λi w e=>?_,λi j w w' a B ei ej oi oj si sj=>?_,λi y e=>by obtain⟨v,e1,q,z⟩:=yt h i _ (at_ i _ e);cases z]
 .obtain⟨v,e1,q,_⟩:=yt h i w (at_ i w e);refine#[v,?_,q];unfold L2.zm;have hi:i<vs[1]:=by have:=(gp.mp e1).1;simpa using this
  rw[t4 hi[""]]
  exact e1
 obtain⟨v,_,_,z⟩:=yt h i w (at_ i w ei);lia
def fnD{st:Stmt}{N ps:List Str}{k:Nat}(F:Fun K x qual st f fd)(S:FnScope N ps (defScope st))
  (h:∀ z A outer s H F0,Room k (A.deeper (envOfC qual (defScope st) s[0] f z)) ->
   SSs (cxOf CX0 P w K mg base N qual (defScope st) f z A outer s H E0).nox F0 H (defBody st) body):FnOk P w K mg base CX0 (k+1) f fd ps (spD #[P,w,K] (den N[1] body) ps[1]):=by
 refine F.ok S (λvs H Q E q=>q.1) (λz A outer s H vs Q E hr q=>?_)
 obtain⟨hl,F0,ws,l,ha,q⟩:=q;refine#[Z4 _ _,Qc,λpins s' I=>?_]
 refine((h z A outer s H F0 hr)) pins s' (L2.zm N vs) F0 H _ _ (qao l ha) I ?_;have e:=q;unfold den at e;cases eb:body (ws.map some++List.replicate (N[1]-ws[1]) none)with
 | nx ρ=>rw[eb]at e;exact λB F' H' l' S'=>e .non F' H' S'.gr rfl
 | rt w'=>rw[eb]at e;exact e
 | bk ρ=>rw[eb]at e;exact e.elim
 | ct ρ=>rw[eb]at e;exact e.elim
 | exc x=>rw[eb]at e;exact e.elim
 | stuck=>rw[eb]at e;exact e.elim
end
section
variable{X:Cx}{F0 H0:Hp}{pos p:Pos}{e:Expr}{es:List Expr}{fa:List EF}{x:Str}{k n:Nat}{f:Addr}{fd:FuncData}{ps:List Str}{dn:Den}
theorem Qj{H F' H':Hp}(s:Le F' H'):∀{vs} {ws ys},Voks κ H F' H' vs ws->jT ws=.ok ys->∀ G,Le F' G->(∀ a o,H a=none->H' a=!o->G a=!o)->Args κ G H' vs ys
 | _,[],ys,h,e,G,l,lk=>by cases e;exact h
 | _,w::ws,ys,h,e,G,l,lk=>by
  obtain⟨v,r,rfl,h1,h2⟩:=h;unfold jT at e;cases e1:w.arg with
  | exc x=>rw[e1]at e;cases e
  | stuck=>rw[e1]at e;cases e
  | ok y =>
   cases e2:jT ws with
   | exc x=>rw[e1,e2]at e;cases e
   | stuck=>rw[e1,e2]at e;cases e
   | ok ys' =>
    rw[e1,e2]at e;cases e;have rest:=Qj s h2 e2 G l lk;cases w with
    | fz d=>cases e1;exact#[v,r,rfl,Rep.le l d h1,rest]
    | br d =>
     cases e1;obtain⟨a,o,ea,B,ro⟩:=h1;exact#[v,r,rfl,#[a,o,ea,B,OwnO.le l ro],rest]
    | lk d=>cases e1
    | od d =>
     cases d<;>first|(cases e1;done)|skip
     cases e1;rcases h1 with⟨_,z,_⟩|⟨ds,z,a,bs,O,rfl,h0,hf,nd,hh,i⟩|⟨_,_,z,_⟩|⟨_,_,_,z,_⟩
     .cases z
     .cases z;have at_:∀ b∈bs++O.flatten,G b=H' b:=λb m=>by
       obtain⟨us,z0,z1,z2⟩:=In2.at i m;rw[z2];exact lk b _ z0 z2
      exact#[.ref a,r,rfl,#[a,bs.map V.ref,rfl,SqL.of (lk a _ h0 hh),In2.reps i at_ l],rest]
     .cases z
     cases z
    | ow d =>
     cases e1;obtain⟨a,o,ea,e0,ef,B,ro⟩:=h1;have q:=lk a o e0 B;have ro:=OwnO.le l ro;refine#[v,r,rfl,?_,rest];cases o<;>cases d<;>first
      | exact ro.elim
      | exact#[a,_,ea,.inl (.inl q),ro]
      | exact#[a,_,ea,.inl q,ro]
theorem Qk:∀ fs ρ ws,evs fs ρ=.ok ws->ws[1]=fs[1]
 | [],_,_,h=>by cases h;rfl
 | a::r,ρ,ws,h=>by
  unfold evs at h;cases ea:a ρ with
  | exc x=>rw[ea]at h;cases h
  | stuck=>rw[ea]at h;cases h
  | ok x =>
   cases er:evs r ρ with
   | exc x=>rw[ea,er]at h;cases h
   | stuck=>rw[ea,er]at h;cases h
   | ok xs=>rw[ea,er]at h;cases h;simp[Qk r ρ xs er]
def qap(G:FnOk X.prog X.w X.K X.mg X.base CX0 k f fd ps (spD (kx X) dn n))(U:Room k X.A)(Y:X.mg x=!(.ref f))(Z:keepIn X.K (.ref f)=true)(hb:Binds X.K fd ps [])(ha:SA X F0 H0 (e::es) fa)
  (hn:(fa[1]=n)["r"])
  (hg:(Gl X x)["r"])(B:((x==("__debug__"))=false)["d"])(he:(starEach (e::es) X.env=(false,eval e X.env)::starEach es X.env)["r"])(O:((backTo pos (starEach es X.env)).any (·.1)=false)["r"]) :
  "S" (.Call (.Name x p) (e::es) [] pos) (qi dn fa):=by
 refine λpins s σ F H ρ Q S I h=>fw (JS I hg Y ?_ B)
 refine callWith_K I.ok.mod.kin Z (ha pos pins s σ F H ρ _ S I ?_) he O;cases ef:evs fa ρ with
 | exc x=>have h:=KE.bind h;rw[ef]at h;exact h
 | stuck=>have h:=KE.bind h;rw[ef]at h;exact h
 | ok ws =>
  have h:=KE.bind h;rw[ef]at h;refine λvs us F1 H1 s1 g1 q1 r1 I1=>#[I1.kIn,?_]
  have h:KE (XP X F0 H0) ((jT ws).bind λys=>dn ys) _:=h
  cases ea:jT ws with
  | exc x=>rw[ea]at h;exact h.elim
  | stuck=>rw[ea]at h;cases h
  | ok ys =>
   rw[ea]at h;obtain⟨g2,l2⟩:=v8 S.s g1;have A:=Qj g1.s q1 ea (jE H F1 H1) l2 (λa o e0 e2=>by unfold jE;rw[e0];exact e2)
   have hl:vs[1]=n:=by
    rw[<- hn,<- Qk fa ρ ws ef];clear A ea h r1
    revert vs
    have:∀ ws vs,Voks (kx X) H F1 H1 vs ws->vs[1]=ws[1]:=by
     intro ws
     induction ws with
     | nil=>intro vs h;cases (show vs=[]from h);rfl
     | cons w ws ih =>
      intro vs h;obtain⟨v,r,rfl,_,h2⟩:=h;simp[ih r h2]
    exact λvs h=>this ws vs h
   refine v9 (WE G U hb (dvs:=[]) .nil WV I1 r1 ?_);rw[tM];refine#[hl,jE H F1 H1,ys,g2.s,A,KE.impX h (λw k v F' H' g' q' u s' r' I'=>?_) λ_ z=>z.elim]
   exact k v u F' H' s' (g2.trans g') (Vok.older (λa e=>Le.none g1.h e) q') r' I'
end
def hu10(z:Room k A):A.units+10<cLine:=by have:=z.un;lia
section
variable{X:Cx}{F0 H0:Hp}{pos p:Pos}{x:Str}{k:Nat}{f:Addr}{fd:FuncData}{dn:Den}
def Ty.nm:Ty->String
 | .int=>"int"|.bool=>"bool"|.str=>"str"|.list=>"list"|.tuple=>"tuple"|.dict=>"dict"
def dTy:D->String
 | .non=>"NoneType"|.bl _=>"bool"|.int _=>"int"|.str _=>"str"|.tup _=>"tuple"|.lst _=>"list"|.dK _=>"dict"|.dT _=>"dict"|.xc _ _=>"?"
def qaq(K)(d)(t)(h:∀ c fs,d≠.xc c fs):kitOne K (.type (dTy d)) (.type t.nm)=!(tyIs d t):=by
 cases d<;>first
  | exact absurd rfl (h _ _)
  | (cases t<;>first|rfl|kernel_rfl)
def qar{Q:aa->ab->Prop}(I:"I" H s)(l:Le F H)(r:RelV v u)(q:RdV (kx X) F H v d)(B:∀ c fs,d≠.xc c fs)
  (h:∀ tk,Q (.bool (tyIs d t)) {s with toks:=tk}):X[3] (call (.builtin "isinstance") [u,.type t.nm]) Q X.xe s:=by
 have e:=qaq X.K d t B;cases d with
 | non=>cases RdV.non q;cases (r);exact pI PySem.W.kitx_none I.kIn True.intro e (λz=>nomatch z) h
 | bl b=>cases RdV.bl q;cases (r);exact pI PySem.W.kitx_bool I.kIn True.intro e (λz=>nomatch z) h
 | int i=>cases RdV.int q;obtain⟨tk,rfl⟩:=(show ∃ tk,u=Value.int i tk from r);exact pI PySem.W.kitx_int I.kIn True.intro e (λz=>nomatch z) h
 | str y=>cases RdV.str q;obtain⟨tk,rfl⟩:=(show ∃ tk,u=Value.str y tk from r);exact pI PySem.W.kitx_str I.kIn True.intro e (λz=>nomatch z) h
 | tup ds =>
  obtain⟨a,vs,rfl,hq,_,_⟩:=RdV.tup l q;cases (show u=Value.ref a from r)
  obtain⟨its,_,⟨o,e1,e2,_⟩,_⟩:=I.tuple hq;exact pI PySem.W.kitx_tuple I.kIn #[o,e1,e2] e (λz=>nomatch z) h
 | lst ds =>
  obtain⟨a,vs,rfl,hq,_⟩:=RdV.lst l q;cases (show u=Value.ref a from r)
  obtain⟨its,_,⟨o,n,e1,e2,_⟩,_⟩:=I.list hq;exact pI PySem.W.kitx_list I.kIn #[o,e1,e2] e (λz=>nomatch z) h
 | dK ds =>
  obtain⟨a,vs,rfl,hq,_⟩:=RdV.dK l q;cases (show u=Value.ref a from r)
  obtain⟨_,vs,_,o,es,ep,e1,e2,_⟩:=Inv.dictK I hq;exact pI kitx_dict I.kIn #[o,e1,e2.1] e (λz=>nomatch z) h
 | dT ds =>
  have hq:∃ a kvs,v=.ref a/\Rd H a (.dT kvs):=by
   rcases q with⟨a,vs,e,q,_⟩|⟨a,o,e,e2,r⟩
   .exact#[a,vs,e,Rd.le l q]
   cases o<;>first|exact r.elim|exact#[a,_,e,.inl e2]
  obtain⟨a,kvs,rfl,hq⟩:=hq;cases (show u=Value.ref a from r)
  obtain⟨_,_,xs,_,o,es,ep,e1,e2,_⟩:=hq.ok I.hok;exact pI kitx_dict I.kIn #[o,e1,e2.1] e (λz=>nomatch z) h
 | xc c fs=>exact absurd rfl (B c fs)
def qas(t:Ty):bootBuiltins t.nm=!(.type t.nm):=by cases t<;>decide +kernel
def Ql(t){e:Expr}{fe:EF}{p2:Pos}(he:"S" e fe)(hm:X.mg "isinstance"=none)(B:X.mg t.nm=none)(hg:(Gl X "isinstance")["r"])(O:(Gl X t.nm)["r"])
  (U:((Str.ofString t.nm)≠"__name__")["d"])(Y:(((Str.ofString t.nm)==("__debug__"))=false)["d"])
  (z:(starEach [e,.Name t.nm p2] X.env=(false,eval e X.env)::starEach [.Name t.nm p2] X.env)["r"])(hs2:(starEach [.Name t.nm p2] X.env=[(false,eval (.Name t.nm p2) X.env)])["r"])
  (Z:((backTo pos (starEach [.Name t.nm p2] X.env)).any (·.1)=false)["r"]):"S" (.Call (.Name "isinstance" p) [e,.Name t.nm p2] [] pos) (eUn (dIs t) fe):=by
 refine λpins s σ F H ρ Q S I h=>fw (zD I hg hm boot_isinstance ?_)
 refine cz ?_ z Z;rw[z];refine hZ (he pins s σ F H ρ _ S I ((KE.bind h).imp λw k v u F' H' s' g q r I'=>?_))
 refine hZ (zD I' O B (qas t) (tH ?_) U Y);have k2:∀ c fs,w.d≠.xc c fs:=λc fs e=>by rw[e]at k;exact k.elim
 have k3:KE (XP X F0 H0) (okB (tyIs w.d t)) λw=>∀ v u F' H' s',Gr F H F' H'->Vok (kx X) H F' H' v w->RelV v u->"I" H' s'->Q u s':=by
  revert k
  generalize w.d=d at *;intro k;cases d<;>first|exact k|exact absurd rfl (k2 _ _)
 exact qar I' g.s r (Vok.rd q) k2 λtk=>k3 (.bl _) _ F' H' _ g rfl rfl (I'.tok tk)
def jM:D->R En
 | .int i=>okI (-i)
 | _=>.stuck
def vd(z:"S" e fe):"S" (.UnaryOp .USub e pos) (eUn jM fe):=by
 refine λpins s σ F H ρ Q S I h=>UnaryOp_ (z pins s σ F H ρ _ S I ((KE.bind h).imp λw k v u F' H' s' g q r I'=>?_))
 have q:=Vok.rd q
 revert k
 generalize w.d=d at q;intro k;cases d<;>first|exact k.elim|skip
 cases RdV.int q;obtain⟨t,rfl⟩:=r;exact neg_int (k _[6] _ F' H' _ g rfl #[_,rfl] (I'.tok _))
def zI:D->D->R En
 | .int i,.int j=>okI (i+j)
 | _,_=>.stuck
def qat:OpD X (binaryOp .Add) zI:=vx GP λF H x y dx dy Q l qx qy w=>by
 cases dx<;>first|exact w.elim|skip
 cases dy<;>first|exact w.elim|skip
 exact#[_,_,RdV.int qx,RdV.int qy,jj l w rfl]
end
theorem Zf{κ:Kx}:∀ ns:List Int,Reps κ F (ns.map V.int) (ns.map D.int)
 | []=>rfl
 | n::ns=>#[.int n,ns.map V.int,rfl,rfl,Zf ns]
def qau{κ:Kx}(dn)(z:List Int)(B:SqL κ.K H a (z.map V.int))(h:dn [.fz (.lst (z.map D.int))]=.ok (.bl true)[8]):spD κ dn 1 [.ref a] H (λv _=>v=.bl true) E :=
 #[rfl,H,[.fz (.lst (z.map D.int))],Le.refl,#[.ref a,[],rfl,#[a,_,rfl,B,Zf z],rfl],by rw[h];exact λv F' H' g q=>q]
section
variable{X:Cx}
def Y9:OpD X (inplaceOp .Sub) qX:=vx GV λF H x y dx dy Q l qx qy w=>by
 cases dx<;>first|exact w.elim|skip
 cases dy<;>first|exact w.elim|skip
 exact#[_,_,RdV.int qx,RdV.int qy,jj l w rfl]
def Qm:OpD X (inplaceOp .Add) zI:=vx GU λF H x y dx dy Q l qx qy w=>by
 cases dx<;>first|exact w.elim|skip
 cases dy<;>first|exact w.elim|skip
 exact#[_,_,RdV.int qx,RdV.int qy,jj l w rfl]
end
def vf{α β:Type}(f:α->Option β):List α->Option (List β)
 | []=>↑[]
 | x::r=>match f x with
  | some y=>(match vf f r with|some ys=>↑(y::ys)|none=>none)
  | none=>none
def Ya{r:List α}{l:List β}(h:vf f (x::r)=!l):∃ y ys,f x=!y/\vf f r=!ys/\l=y::ys:=by
 unfold vf at h;cases e:f x with
 | none=>rw[e]at h;cases h
 | some y =>
  cases e2:vf f r with
  | none=>rw[e,e2]at h;cases h
  | some ys=>rw[e,e2]at h;cases h;exact#[y,ys,rfl,rfl,rfl]
def vz(K:Frag):Nat->aa->Option D
 | 0,_=>none
 | n+1,v=>match v with
  | .none=>some .non
  | .bool b=>!(.bl b)
  | .int i _=>!i[6]
  | .str x _=>!(.str x)
  | .ref a=>(match K.lookup a with
   | some o=>(match o.data with
    | .seq its _ =>
     if its.size<=100000 then
      (if o.cls==.type "tuple" then(vf (vz K n) its[2]).map .tup
      else if o.cls==.type "list"&&o.dict==none then(vf (vz K n) its[2]).map .lst else none)
     else none
    | .dict es _ =>
     if o.cls==.type "dict"&&o.dict==none&&o.slots.size==0&&not (a==sysModules)then
      (match vf (λe:DictEntry=>match e.key with
       | .int i _=>if e.hash=hashInt i then(vz K n e.val).map λd=>((Sum.inl i:Sum Int Str),d)else none
       | _=>none) es[2] with
      | some l=>if (l.map (·.1)).Nodup then !(.dK l)else none
      | none=>none)
     else none
    | _=>none)
   | none=>none)
  | _=>none
def Yb:∀ n v d,vz κ.K n v=!d->∃ x,RelV x v/\∀ F,Rep κ F x d:=by
 intro n
 induction n with
 | zero=>intro v d h;cases h
 | succ n ih =>
  have z:∀ vs ds,vf (vz κ.K n) vs=!ds->∃ xs,Vals xs vs/\∀ F,Reps κ F xs ds:=by
   intro vs
   induction vs with
   | nil=>intro ds h;cases h;exact#[[],.nil,λ_=>rfl]
   | cons v vs ihv =>
    intro ds h;obtain⟨d,U,h1,h2,rfl⟩:=Ya h;obtain⟨x,rx,qx⟩:=ih v d h1;obtain⟨xs,rs,qs⟩:=ihv U h2;exact#[x::xs,.cons rx rs,λF=>#[x,xs,rfl,qx F,qs F]]
  have B:∀ es l,vf (λe=>match e.key with
       | .int i _=>if e.hash=hashInt i then(vz κ.K n e.val).map λd=>((Sum.inl i),d)else none
       | _=>none) es=↑l ->
    ∃ kvs vs,KV kvs vs/\Pairs (jd κ.P κ.w) es vs/\vs.map (·.1)=l.map (·.1)/\(∀ e∈es,∃ k,(jd κ.P κ.w).is k e.key=true/\e.hash=(jd κ.P κ.w).hash k)/\∀ F,RepK κ F kvs l:=by
   intro es
   induction es with
   | nil=>intro l h;cases h;exact#[[],[],.nil,.nil,rfl,λe he=>(nomatch he),λ_=>rfl]
   | cons e es ihe =>
    intro l h;obtain⟨y,ys,h1,h2,rfl⟩:=Ya h;obtain⟨kvs,vs,r1,r2,r3,r4,r5⟩:=ihe ys h2;cases ek:e.key with
    | int i t =>
     rw[ek]at h1;dsimp only at h1;by_cases c:e.hash=hashInt i
     .rw[if_pos c]at h1;cases ed:vz κ.K n e.val with
      | none=>rw[ed]at h1;cases h1
      | some d =>
       rw[ed]at h1;cases h1;obtain⟨x,rx,qx⟩:=ih e.val d ed;have hk:(jd κ.P κ.w).is (Sum.inl i) e.key=true:=by rw[ek];exact Wp _ _ i t
       refine#[(Sum.inl i,x)::kvs,(Sum.inl i,e.val)::vs,.cons #[rfl,rx] r1,.cons hk rfl r2,by simp[r3],λe' he=>?_,λF=>#[x,kvs,rfl,qx F,r5 F]]
       rcases gE.mp he with rfl|he
       .exact#[Sum.inl i,hk,c]
       exact r4 e' he
     rw[if_neg c]at h1;cases h1
    | _=>rw[ek]at h1;cases h1
  intro v d h;unfold vz at h;cases v<;>first|(cases h;done)|skip
  .cases h;exact#[.non,rfl,λ_=>rfl]
  .cases h;exact#[.bl _,rfl,λ_=>rfl]
  .cases h;exact#[.int _,#[_,rfl],λ_=>rfl]
  .cases h;exact#[.str _,#[_,rfl],λ_=>rfl]
  rename_i a;dsimp only at h;cases ek:κ.K.lookup a with
  | none=>rw[ek]at h;cases h
  | some o =>
   rw[ek]at h;dsimp only at h;cases ed:o.data with
   | seq its m =>
    rw[ed]at h;dsimp only at h;by_cases c:its.size<=100000
    .rw[if_pos c]at h;have hz:its.size<=sizeLine:=by rw[pp];lia
     by_cases c1:(o.cls==Value.type "tuple")=true
     .rw[if_pos c1]at h;cases e2:vf (vz κ.K n) its[2] with
      | none=>rw[e2]at h;cases h
      | some ds =>
       rw[e2]at h;cases h;obtain⟨xs,rs,qs⟩:=z its[2] ds e2;exact#[.ref a,rfl,λF=>#[a,xs,rfl,.inr #[o,its,m,ek,by simpa using c1,ed,hz,rs],qs F]]
     rw[if_neg c1]at h;by_cases c2:(o.cls==Value.type "list"&&o.dict==none)=true
     .rw[if_pos c2]at h;rw[hE]at c2;cases e2:vf (vz κ.K n) its[2] with
      | none=>rw[e2]at h;cases h
      | some ds =>
       rw[e2]at h;cases h;obtain⟨xs,rs,qs⟩:=z its[2] ds e2;exact#[.ref a,rfl,λF=>#[a,xs,rfl,.inr #[o,its,m,ek,by simpa using c2.1,by simpa using c2.2,ed,hz,rs],qs F]]
     rw[if_neg c2]at h;cases h
    rw[if_neg c]at h;cases h
   | dict es ep =>
    rw[ed]at h;dsimp only at h;by_cases c:(o.cls==Value.type "dict"&&o.dict==none&&o.slots.size==0&&not (a==sysModules))=true
    .rw[if_pos c]at h;simp[hE]at c;obtain⟨⟨⟨c1,c2⟩,c3⟩,c4⟩:=c
     revert h
     generalize e2:vf _ es[2]=ol;intro h;cases ol with
     | none=>cases h
     | some l =>
      dsimp only at h;by_cases c5:(l.map (·.1)).Nodup
      .rw[if_pos c5]at h;cases h;obtain⟨kvs,vs,r1,r2,r3,r4,r5⟩:=B es[2] l e2;have O:o.slots=#[]:=by
        have:o.slots.size=0:=by simpa using c3
        exact Array.eq_empty_of_size_eq_zero this
       refine#[.ref a,rfl,λF=>#[a,kvs,rfl,.inr #[by simpa using c4,o,es,ep,vs,ek,#[by simpa using c1,by simpa using c2,O],ed,λe he=>r4 e he[""],r2,by rw[r3];exact c5,r1],r5 F]]
      rw[if_neg c5]at h;cases h
    rw[if_neg c]at h;cases h
   | _=>rw[ed]at h;cases h
def ro:Option En->Option En
 | some d[9]=>!(.br d)
 | some (.od _)=>none
 | o=>o
def zq(ad:En->R D)(gf:GF)(t:TF)(e:EF):List D->Rho->R (List D)
 | [],_=>.ok []
 | d::r,ρ=>(gf d ρ).bind λρ1=>(t ρ1).bind λb=>if b=true then(e ρ1).bind λw=>(ad w).bind λy=>(zq ad gf t e r ρ1).bind λys=>.ok (y::ys)else zq ad gf t e r ρ1
def jc(n:Nat)(ρ:Rho):Rho:=ρ.map ro++List.replicate n none
def xP(ad:En->R D)(fi:List D->En)(n:Nat)(it:IF)(gf:GF)(t:TF)(e:EF):EF:=λρ=>(it ρ).bind λds=>if ds[1]<=sz then(zq ad gf t e ds (jc n ρ)).bind λys=>.ok (fi ys)else .stuck
abbrev qV:=xP En.st λys=>.ow (.lst ys)
def jg:TF:=λ_=>.ok true
def compLoop{R:Result->ab->Prop}(I:Nat->ab->Prop)
  (Z:∀ n s,I n s->wpAny (model prog w) A (pyNext it) (λr z=>match r with
   | none=>R (.ok .next) z
   | some v=>wpAny (model prog w) A (letOwnedTupleGo target it v) (λ_ s₀=>wpAny (model prog w) A (assign target env v) (λ_ s₂ =>
     wpAny (model prog w) A (forIn ifs true λc r=>if r=true then do let ok <- isTrue c env (eval c env);pure (ForInStep.yield ok)else pure (ForInStep.yield r)) (λok B =>
      if ok=true then wpAny (model prog w) A (eval elt env) (λx O =>
       wpAny (model prog w) A (call (.builtin "list.append") [acc,x]) (λ_ U=>∃ m,m<n/\I m U) (λ_ _=>False) O) (λ_ _=>False) B
      else ∃ m,m<n/\I m B) (λ_ _=>False) s₂) (λ_ _=>False) s₀) (λ_ _=>False) z) (λ_ _=>False) s)
  (n) (h:I n s):codeAny (model prog w) A (.compLoop (.ListComp elt [#[target,iter,ifs,0]] scope pos) 0 it acc env) R s:=by
 refine codeAny_loop rfl I (λn s hI=>?_) n h
 refine wpAny_noted ?_;rw[compTurn_list];refine g6 (bT (g6 (c6 (Z n s hI) (λr z h₁=>?_) λ_ _ h'=>h'.elim)))
 cases r with
 | none=>exact gu h₁
 | some v =>
  refine g6 (c6 h₁ (λ_ s₀ h₀=>g6 (c6 h₀ (λ_ s₂ h3=>g6 (c6 h3 (λok B Y=>?_) λ_ _ h'=>h'.elim)) λ_ _ h'=>h'.elim)) λ_ _ h'=>h'.elim)
  cases ok with
  | false=>exact gu #[rfl,Y]
  | true=>exact g6 (g6 (c6 Y (λx O h4=>g6 (c6 h4 (λ_ U h5=>gu (gu #[rfl,h5])) λ_ _ h'=>h'.elim)) λ_ _ h'=>h'.elim))
def Cap(env:Env)(cl:List (Str×Addr)):List (Str×NameKind)->Prop
 | []=>True
 | (n,k)::r=>(k≠.cell/\(k=.free->env.kindOf n=some .cell/\cl.lookup n=env.cells.lookup n))/\Cap env cl r
def ClIn(env:Env):List (Str×Addr)->Prop
 | []=>True
 | (n,c)::r=>env.cells.lookup n=!c/\ClIn env r
theorem ClIn.look:∀{cl},ClIn env cl->∀{x c},cl.lookup x=!c->env.cells.lookup x=!c
 | [],_,x,c,h=>by simp at h
 | (n,a)::r,q,x,c,h=>by
  obtain⟨q1,q2⟩:=q;by_cases e:x=n
  .simp_all
  have:(x==n)=false:=by simpa using e
  simp[List.lookup,this]at h;exact ClIn.look q2 h
theorem Cap.mem{cl:List (Str×Addr)}:∀{names},Cap env cl names->∀ y∈names,y.2≠.cell/\(y.2=.free->env.kindOf y.1=some .cell/\cl.lookup y.1=env.cells.lookup y.1)
 | [],_,y,hy=>by cases hy
 | (n,k)::r,h,y,hy=>by
  rcases gE.mp hy with rfl|hy
  .exact h.1
  exact Cap.mem h.2 y hy
theorem Zg{env:Env}:∀{names:List (Str×NameKind)} {x},(∀ y∈names,y.2≠.cell) ->
    ((names.map λ(n,k)=>if (k==NameKind.free&&env.scope.kind==.function&&env.kindOf n==some .cell)then(n,NameKind.cell)else(n,k)).lookup x=some .cell \/
     (names.map λ(n,k)=>if (k==NameKind.free&&env.scope.kind==.function&&env.kindOf n==some .cell)then(n,NameKind.cell)else(n,k)).lookup x=some .free)->(x,NameKind.free)∈names
  | [],_,_,h=>by rcases h with h|h<;>simp at h
  | (n,k)::r,x,hc,h=>by
    rw[gN]at h;by_cases hx:x=n
    · subst hx
      by_cases q:(k==NameKind.free&&env.scope.kind==.function&&env.kindOf x==some .cell)=true
      · simp_all
      simp_all
    have hb:(x==n)=false:=by simpa using hx
    refine gj _ ((@Zg env r x λy hy=>hc y (gj _ hy)) ?_)
    dsimp only at h;by_cases q:(k==NameKind.free&&env.scope.kind==.function&&env.kindOf n==some .cell)=true
    · rw[if_pos q]at h
      simpa only[List.lookup_cons,hb]using h
    rw[if_neg q]at h
    simpa only[List.lookup_cons,hb]using h
def cxF(fn:Str->Bool)(X:Cx)(s₂:ab)(H₂:Hp)(scope:Scope)(cl:List (Str×Addr))(C:Addr)(fp:List Addr)(N:List Str):Cx where
 prog:=X.prog
 w:=X.w
 K:=X.K
 mg:=X.mg
 base:=X.base
 A:=X.A
 N:=N
 s₀:=s₂
 H₀:=H₂
 env:=compEnvC scope cl C X.env
 outer:=X.stack
 stack:=X.stack
 ex:=fp
 fn:=fn
 calm:=X.calm
 pn:=[]
 xe:=λ_ _=>False
abbrev cxC:Cx->ab->Hp->Scope->List (Str×Addr)->Addr->List Addr->List Str->Cx:=cxF λ_=>false
def wS(z:List (Str×NameKind)):List Str->List Str->Bool
 | a::as,b::bs=>(match z.lookup b with|some .local=>false|some .free=>false|some .cell=>a==b|_=>true)&&wS z as bs
 | [],_=>true
 | _::_,[]=>true
def Yc(z:Scope)(M N:List Str):Prop:=∀(i:Nat) (x:Str),i<M[1]->N[i]?=!x->Vis z x->M[i]?=!x/\z.names.lookup x=some .cell
theorem Yd:∀{M N},wS sc.names M N=true->Yc sc M N
 | [],_,_,i,x,hi,_,_=>by simp at hi
 | _::_,[],_,i,x,_,e,_=>by simp at e
 | a::as,b::bs,h,0,x,_,e,v=>by
  unfold wS at h;rw[hE]at h;simp at e;subst e;cases q:sc.names.lookup b with
  | none=>rcases v with v|v|v<;>rw[q]at v<;>cases v
  | some k =>
   rw[q]at h;rcases v with v|v|v
   .rw[q]at v;cases v;exact absurd h.1 pQ
   .rw[q]at v;cases v
    simp_all
   rw[q]at v;cases v;exact absurd h.1 pQ
 | a::as,b::bs,h,i+1,x,hi,e,v=>by
  unfold wS at h;rw[hE]at h;have:=Yd h.2 i x hi[""] e[""] v
  assumption
def qav(n)(S:StOk κ F0 H0 F H ρ σ):StOk κ F H F H (jc n ρ) (σ++List.replicate n none):=by
 have at_:∀(i:Nat) w,(jc n ρ)[i]?=!(!w)->∃ w',ρ[i]?=!(!w')/\ro ↑w'=!w:=λi w e=>by
  unfold jc at e;by_cases hi:i<ρ.length
  .rw[t4 hi[""],gC]at e
   cases q:ρ[i]? with
   | none=>rw[q]at e;cases e
   | some y =>
    rw[q]at e;cases y with
    | none=>cases e
    | some w'=>exact#[w',rfl,by simpa using e]
  rw[hU hi[""],fQ]at e
  lia
 refine#[Gr.refl S.s,by simp[jc,S.len],λi w e=>?_,λi j w w' a z ei ej oi oj si sj=>?_,λi y e=>?_]
 .obtain⟨w',e1,e2⟩:=at_ i w e;obtain⟨v,ev,q⟩:=S.val i w' e1;refine#[v,by rw[t4 ((gp.mp ev).1)];exact ev,?_]
  cases w' with
  | fz d=>cases e2;exact q
  | ow d=>cases e2;obtain⟨a,o,e,_,_,eh,r⟩:=q;exact#[a,o,e,eh,r]
  | lk d=>cases e2;exact q
  | od d=>cases e2
  | br d=>cases e2;obtain⟨a,o,e,eh,r⟩:=q;exact#[a,o,e,S.gr.h _ _ eh,r]
 .obtain⟨w1,e1,e2⟩:=at_ i w ei;cases w1<;>cases e2<;>cases oi
 obtain⟨w',e1,e2⟩:=at_ i _ e;cases w'<;>cases e2
def StOk.side{F0 H0 F H:Hp}(S:StOk κ F0 H0 F H ρ σ)(h0:H0 p=none)(B:F p=none)(z:∀(i:Nat) w,ρ[i]?=!(!w)->w.own=false):StOk κ F0 H0 F (upd H p o) ρ σ:=by
 refine#[#[S.gr.f,λa u h=>?_,λa u h=>?_,S.gr.n],S.len,λi w e=>?_,S.sep,λi d e=>by cases z i _ e]
 .rw[qt (jG h h0)];exact S.gr.h a u h
 .rw[qt (jG h B)];exact S.gr.s a u h
 obtain⟨v,e1,q⟩:=S.val i w e;refine#[v,e1,?_];have:=z i w e;cases w with
 | fz d=>exact q
 | br d=>exact q
 | ow d=>cases this
 | lk d=>exact q
 | od d=>cases this
section
variable{X:Cx}{pins:List (Addr×Obj)}{σ:St}{H₂:Hp}{s₂:ab}{fp:List Addr}{it:Addr}{tn:Nat->Heap->Prop}{J:It}{tg:Expr}{scope:Scope}{cl:List (Str×Addr)}{N:List Str}{n:Nat}
def qaw(B:"I" H₂ s₂)(T:Turn X.prog X.w X.K tg J fp it tn)(st:tn 0 s₂.heap)(f2:∀ b∈fp,FpOk X pins H₂ b)(U:scope.kind=.function)(O:Cap X.env cl scope.names)(Y:ClIn X.env cl)
  (hC:s₂[0]<=C):(cxC X s₂ H₂ scope cl C fp N).Ok:=by
 have Z:∀ x,((cxC X s₂ H₂ scope cl C fp N).env.kindOf x=some .cell\/(cxC X s₂ H₂ scope cl C fp N).env.kindOf x=some .free)->(x,NameKind.free)∈scope.names:=λx h =>
  Zg (λy hy=>(Cap.mem O y hy).1) h
 refine#[B.ok.mod,U,B.ok.glob,B.ok.blt,hC,λx y c h1 h2=>B.ok.inj x y c (ClIn.look Y h1) (ClIn.look Y h2),λx hx=>?_,λx c h=>(by cases h),B.ok.hd,B.ok.frames,.inl rfl,λb hb=>?_,B.bs,tV B.ok.bsz B.sz,λb o e hb=>?_,λb hb z=>?_,B.stack,B.stkFree]
 .obtain⟨q1,q2⟩:=(Cap.mem O _ (Z x hx)).2 rfl;obtain⟨c,hc⟩:=B.ok.has x (.inl q1);exact#[c,q2.trans hc]
 .obtain⟨f0,f1,f3,f4,f5,f6⟩:=f2 b hb;obtain⟨o,ho,_⟩:=T.obj 0 _ st b hb;exact#[t3 (tq (gP ho) hC),λx c e=>f5 x c (ClIn.look Y e)]
 .obtain⟨f0,f1,f3,f4,f5,f6⟩:=f2 b hb;rcases f4 with f4|f4
  .exact B.ok.noex b o e f4
  exact absurd (tq (gP (B.ok.bs b o e).1) f4) (pz _)
 obtain⟨f0,f1,f3,f4,f5,f6⟩:=f2 b hb;rcases gE.mp (B.stkSub b z)with q|q
 .exact f1 q
 exact f3 q
def qax(O:"I" H₂ s₂)(T:Turn X.prog X.w X.K tg J fp it tn)(st:tn 0 s₂.heap)(f2:∀ b∈fp,FpOk X pins H₂ b)(Z:scope.kind=.function)(U:Cap X.env cl scope.names)(Y:ClIn X.env cl)
  (hsl:Yc (relabel scope X.env) X.N N)(h4:N[1]=X.N.length+n){C tk:Nat}{h₁:Heap}{m:Str->Option aa}(hC:s₂[0]<C)(hns:h₁.Ns C m)(old:∀ b o,s₂.heap.get? b=!o->h₁.get? b=!o)
  (h5:h₁.get? s₂[0]=some {cls:=.type "list",data:=.seq #[] 0}) :
  Inv (cxC X s₂ H₂ scope cl C fp N) [] (σ++List.replicate n none) (upd H₂ s₂[0] (.lst [])) {s₂ with heap:=h₁,toks:=tk}:=by
 have hf:H₂ s₂[0]=none:=O.hok.fresh (gy _);have hfC:H₂ C=none:=O.hok.fresh (cM hC);have B:∀ x c,X.env.cells.lookup x=!c->∀ v,s₂.heap.IsCell c v->h₁.IsCell c v:=λx c _ v #[o,ho,hd]=>#[o,old _ _ ho,hd]
 have cne:∀ x c,X.env.cells.lookup x=!c->c<s₂[0]:=λx c e=>by
  obtain⟨v,o,ho,_⟩:=O.cell x c e;exact gP ho
 refine#[qaw O T st f2 Z U Y (cM hC),rfl,O.bare,Un.laid old (gy _) hf,#[m,hns,λi x v e1 e2 e3=>?_],λx c e=>?_,?_,λx c e=>?_,λp hp=>absurd (show p∈[]from hp) "s",?_,?_]
 .have hi:i<σ.length:=by
   by_cases hi:i<σ.length
   .exact hi
   rw[hU "",fQ]at e2
   simp_all
  rw[t4 hi]at e2;obtain⟨q1,q2⟩:=hsl i x (by rw[<- O.len];exact hi) e1 e3
  have q3:(x,NameKind.free)∈scope.names:=Zg (env:=X.env) (λy hy=>(Cap.mem U y hy).1) (.inl q2)
  obtain⟨k1,k2⟩:=(Cap.mem U _ q3).2 rfl;obtain⟨m2,hn2,hl⟩:=O.loc;obtain⟨u,ru,lk⟩:=hl i x v q1 e2 (.inr (.inl k1));refine#[u,ru,?_];rcases lk with⟨z,_⟩|⟨_,c,hc,h3⟩
  .simp_all
  exact .inr #[.inl q2,c,by show cl.lookup x=!c;exact k2.trans hc,B x c hc _ h3]
 .obtain⟨v,q⟩:=O.cell x c (ClIn.look Y e);exact#[v,B x c (ClIn.look Y e) v q]
 .show upd H₂ s₂[0] (.lst []) C=none;rw[qt (pR hC)];exact hfC
 .have:=cne x c (ClIn.look Y e);rw[qt (t3 this)];exact O.freeC x c (ClIn.look Y e)
 .exact O.hok.laid old (gy _) #[tK _,[],0,.nil,h5]
 simp[O.len,h4,cxC,cxF]
def wT(ρ:Rho):Prop:=∀(i:Nat) (w:En),ρ[i]?=!(!w)->w.own=false
def kD(gf:GF):Prop:=∀ d ρ ρ1,wT ρ->gf d ρ=.ok ρ1->wT ρ1
def qay(h:wT ρ)(i)(d):wT (ρ.set i (!d[8])):=λj w e=>by
 rcases qB e with⟨_,z⟩|⟨_,z⟩
 .cases z;rfl
 exact h j w z
def zJ(i):kD (gV i):=λd ρ ρ1 h e=>by cases e;exact qay h i d
def qaz(n)(ρ):wT (jc n ρ):=λi w e=>by
 unfold jc at e;by_cases hi:i<ρ.length
 .rw[t4 hi[""],gC]at e
  cases q:ρ[i]? with
  | none=>rw[q]at e;cases e
  | some y =>
   rw[q]at e;cases y with
   | none=>cases e
   | some w'=>cases w'<;>first|(simp[ro]at e;done)|(simp[ro]at e;subst e;rfl)
 rw[hU hi[""],fQ]at e
 lia
inductive Tests(X:Cx)(F0 H0:Hp):List Expr->TF->Prop
 | nil:Tests X F0 H0 [] jg
 | one {c:Expr} {t:TF}:ST X F0 H0 c t->Tests X F0 H0 [c] t
def qaA{X:Cx}{t:TF}(h:Tests X F0 H0 ifs t){Q:Bool->ab->Prop}(S:StOk (kx X) F0 H0 F H ρ σ)(I:"I" H s)
  (k:KE (XP X F0 H0) (t ρ) λb=>∀ F' H' s',Gr F H F' H'->"I" H' s'->Q b s') :
  X[3] (forIn ifs true λc r=>if r=true then do let ok <- isTrue c X.env (eval c X.env);pure (ForInStep.yield ok)else pure (ForInStep.yield r)) Q X.xe s:=by
 cases h with
 | nil=>exact wpAny_tests_nil (k F H s (Gr.refl S.s) I)
 | one h=>exact wpAny_tests_one (h pins s σ F H ρ Q S I k)
structure Mm(κ:Kx)(H₂:Hp)(p:Addr)(ad:En->R D)where
 RL:Hp->Hp->List V->List D->Prop
 nil:∀ F H,RL F H [] []
 len:∀{F H vs as},RL F H vs as->vs[1]=as[1]
 gr:∀{F H F' H' vs as},Gr F H F' H'->RL F H vs as->RL F' H' vs as
 step:∀{F H F' H' vs as v w y},Gr F H F' H'->Le F H->Le H₂ H->H p=!(.lst vs)->Vok κ H F' H' v w->ad w=.ok y->RL F H vs as->∃ F9,Gr F H F9 H'/\RL F9 (upd H' p (.lst (vs++[v]))) (vs++[v]) (as++[y])
def Zh(κ:Kx)(H₂:Hp)(p:Addr):Mm κ H₂ p En.st where
 RL F _ vs as:=Reps κ F vs as
 nil _ _:=rfl
 len:=Reps.length
 gr g r:=Reps.le g.f _ r
 step g l _ _ q e r:=by
  obtain⟨g9,_⟩:=v8 l g;exact#[_,g9,Reps.append (Reps.le g9.f _ r) (Reps.one (Vok.st l g q e))]
def qaB{X:Cx}{pins:List (Addr×Obj)}{σ:St}{F₂ H₂:Hp}{s₂ O:ab}{fp:List Addr}{it:Addr}{tn:Nat->Heap->Prop}{J:It}{tg elt iter:Expr}{ifs:List Expr}{scope:Scope}{cl:List (Str×Addr)}{N:List Str}{C p:Addr}
  {σ':St}{ρ':Rho}{ds:List D}{pos:Pos}{gf:GF}{t:TF}{e:EF}{RR:Result->ab->Prop}{ad:En->R D}(M:Mm (kx X) H₂ p ad)(h3:Le F₂ H₂)(T:Turn X.prog X.w X.K tg J fp it tn)(hc:X.calm=true)(st:tn 0 O.heap)(Wk:Walk (kx X) J F₂ H₂ ds)
  (hfp:∀ b∈fp,FpOk (cxF fn X s₂ H₂ scope cl C fp N) [] (upd H₂ p (.lst [])) b)(hp:H₂ p=none)(I4:Inv (cxF fn X s₂ H₂ scope cl C fp N) [] σ' (upd H₂ p (.lst [])) O)(S4:StOk (kx X) F₂ H₂ F₂ H₂ ρ' σ')(no:wT ρ')(hno:kD gf)
  (hg:SG (cxF fn X s₂ H₂ scope cl C fp N) F₂ H₂ tg gf)(ht:Tests (cxF fn X s₂ H₂ scope cl C fp N) F₂ H₂ ifs t)(he:SE (cxF fn X s₂ H₂ scope cl C fp N) F₂ H₂ elt e)(hsz:ds[1]<=sz)
  (k:KE (λ_=>False) (zq ad gf t e ds ρ') λys=>∀ B F1 H1 vs s1,Gr F₂ H₂ F1 H1->F1 p=none->H1 p=!(.lst vs)->M.RL F1 H1 vs ys->Inv (cxF fn X s₂ H₂ scope cl C fp N) [] B H1 s1->RR (.ok .next) s1) :
  codeAny (model X.prog X.w) X.A (.compLoop (.ListComp elt [#[tg,iter,ifs,0]] scope pos) 0 (.ref it) (.ref p) (compEnvC scope cl C X.env)) RR O:=by
 have Y:∀{H'},(∀ b∈fp,H' b=none)->∀ b∈fp,FpOk (cxF fn X s₂ H₂ scope cl C fp N) [] H' b:=λhn b hb=>#[hn b hb,(hfp b hb).2]
 obtain⟨tgv,PGv,hgv⟩:=hg;refine compLoop (λm s=>∃ i B F1 H1 ρ1 vs,∃ as,m=ds[1]-i/\i<=ds[1]/\Inv (cxF fn X s₂ H₂ scope cl C fp N) [] B H1 s/\tn i s.heap/\(∀ b∈fp,H1 b=none)/\StOk (kx X) F₂ H₂ F1 H1 ρ1 B/\wT ρ1 /\
  F1 p=none/\H1 p=!(.lst vs)/\M.RL F1 H1 vs as/\as[1]<=i /\
  KE (λ_=>False) (zq ad gf t e (ds.drop i) ρ1) λys=>∀ B F1 H1 vs s1,Gr F₂ H₂ F1 H1->F1 p=none->H1 p=!(.lst vs)->M.RL F1 H1 vs (as++ys)->Inv (cxF fn X s₂ H₂ scope cl C fp N) [] B H1 s1->RR (.ok .next) s1) ?_ ds[1]
  #[0,σ',F₂,upd H₂ p (.lst []),ρ',[],[],by simp,tK _,I4,st,λb hb=>(hfp b hb).1,S4.side hp (Le.none h3 hp) no,no,Le.none h3 hp,qH,M.nil _ _,gy _,by simpa using k]
 rintro m s ⟨i,B,F1,H1,ρ1,vs,as,rfl,hi,I1,st1,fr1,S1,no1,fp1,hp1,rs1,la,k1⟩;by_cases hlt:i<ds[1]
 .have ed:ds[i]?=!ds[i]:=by simp[hlt]
  have edr:ds.drop i=ds[i]::ds.drop (i+1):=fJ hlt;obtain⟨go,yl⟩:=Wk.go i ds[i] F1 H1 ed S1.gr.f S1.s S1.gr.h;rw[edr]at k1;refine thn (T.item (cxF fn X s₂ H₂ scope cl C fp N) rfl rfl rfl hc i [] s B H1 _ I1 (Y fr1) st1 go) λr s1' #[u,hr,h4]=>?_
  subst hr;refine thn h4 λ_ s5 #[x,H5,I5,r5,y5,st5,fr5]=>?_
  obtain⟨F5,g5,rx⟩:=yl x H5 y5;have I5':=I5.pinned (Y fr5) (T.obj _ _ st5);have S5:=S1.grow g5;have k1:=KE.bind k1;cases eg:gf ds[i] ρ1 with
  | exc z=>rw[eg]at k1;cases k1
  | stuck=>rw[eg]at k1;cases k1
  | ok ρ2 =>
   rw[eg]at k1;have no2:=hno _ _ _ no1 eg;have k1:KE (λ_=>False) (t ρ2) _:=KE.bind k1
   refine thn (PGv _ s5 B H5 x u (λσ6 H6=>H6=H5/\StOk (kx X) F₂ H₂ F5 H5 ρ2 σ6) I5' r5 (hgv B F5 H5 ρ1 x ds[i] _ S5 rx (by rw[eg];exact λB S=>#[rfl,S]))) λ_ s6 #[σ6,H6,I6,e6,S6]=>?_
   subst e6;have Z:∀{σ7} {F7 H7} {s7} {vs7} {U},Inv (cxF fn X s₂ H₂ scope cl C fp N) ([]++xF fp s5.heap) σ7 H7 s7->StOk (kx X) F₂ H₂ F7 H7 ρ2 σ7->F7 p=none->H7 p=!(.lst vs7)->M.RL F7 H7 vs7 U->U[1]<=i+1 ->
     KE (λ_=>False) (zq ad gf t e (ds.drop (i+1)) ρ2) (λys=>∀ B F1 H1 vs s1,Gr F₂ H₂ F1 H1->F1 p=none->H1 p=!(.lst vs)->M.RL F1 H1 vs (U++ys)->Inv (cxF fn X s₂ H₂ scope cl C fp N) [] B H1 s1->RR (.ok .next) s1) ->
     ∃ m,m<ds[1]-i/\∃ i B F1 H1 ρ1 vs,∃ as,m=ds[1]-i/\i<=ds[1]/\Inv (cxF fn X s₂ H₂ scope cl C fp N) [] B H1 s7/\tn i s7.heap/\(∀ b∈fp,H1 b=none)/\StOk (kx X) F₂ H₂ F1 H1 ρ1 B/\wT ρ1 /\
      F1 p=none/\H1 p=!(.lst vs)/\M.RL F1 H1 vs as/\as[1]<=i /\
      KE (λ_=>False) (zq ad gf t e (ds.drop i) ρ1) (λys=>∀ B F1 H1 vs s1,Gr F₂ H₂ F1 H1->F1 p=none->H1 p=!(.lst vs)->M.RL F1 H1 vs (as++ys)->Inv (cxF fn X s₂ H₂ scope cl C fp N) [] B H1 s1->RR (.ok .next) s1):=by
    intro σ7 F7 H7 s7 vs7 U I7 S7 f7 h7 r7 l7 k7;refine#[ds[1]-(i+1),"",i+1,σ7,F7,H7,ρ2,vs7,U,rfl,hlt,I7.unpinned,T.keep _ _ _ st5 λb hb o e=>(I7.pin (b,o) (tf _ (tf _ (Q6 hb e)))).1,λb hb=>?_,S7,no2,f7,h7,r7,l7,k7]
    obtain⟨o,e,d⟩:=T.obj _ _ st5 b hb;exact(I7.pin (b,o) (tf _ (tf _ (Q6 hb e)))).2.1
   have nf5:F5 p=none:=g5.no fp1 (hp1);refine qaA ht S6 I6 (KE.impX k1 (λb kb F7 H7 s7 g7 I7=>?_) λ_ z=>z)
   have nf7:F7 p=none:=g7.no nf5 (g5.h _ _ hp1);have hp7:H7 p=!(.lst vs):=g7.h _ _ (g5.h _ _ hp1);have g17:Gr F1 H1 F7 H7:=g5.trans g7;have l27:Le H₂ H7:=Le.trans S1.gr.h g17.h;cases b with
   | false =>
    rw[if_neg pQ];exact Z I7 (S6.grow g7) nf7 hp7 (M.gr g17 rs1) "" kb
   | true =>
    rw[if_pos rfl];have kb:KE (λ_=>False) ((e ρ2).bind λw=>(ad w).bind λy=>(zq ad gf t e (ds.drop (i+1)) ρ2).bind λys=>.ok (y::ys)) _:=kb
    refine he _ s7 σ6 F7 H7 ρ2 _ (S6.grow g7) I7 (KE.impX (KE.bind kb) (λwv kw v u F8 H8 s8 g8 q8 r8 I8=>?_) λ_ z=>z)
    cases es:ad wv with
    | exc z=>rw[es]at kw;exact kw.elim
    | stuck=>rw[es]at kw;cases kw
    | ok y =>
     rw[es]at kw;have kw:KE (λ_=>False) ((zq ad gf t e (ds.drop (i+1)) ρ2).bind λys=>.ok (y::ys)) _:=kw
     have kw:=KE.bind kw;obtain⟨F9,g9,r9⟩:=M.step g8 g7.s l27 hp7 q8 es (M.gr g17 rs1);have S9:=(S6.grow g7).grow g9;have nf9:F9 p=none:=g9.no nf7 hp7;have lv:vs[1]=as[1]:=M.len rs1;refine thn (xG (X:=cxF fn X s₂ H₂ scope cl C fp N) _ s8 σ6 H8 (.ref p) [v] (.ref p) [u] (λ_ H9=>H9=upd H8 p (.lst (vs++[v]))) I8 rfl (.cons r8 .nil) #[p,vs,v,rfl,rfl,g8.h _ _ hp7,by rw[lv,<- zQ];lia,rfl]) λ_ s9 #[_,H9,I9,_,e9]=>?_
     subst e9;refine Z I9 (S9.side hp nf9 no2) nf9 qH r9 (by simp;lia) ?_
     exact kw.imp λys q B F1 H1 vs s1=>by
      have:(as++[y])++ys=as++(y::ys):=by simp
      rw[this];exact q B F1 H1 vs s1
 have ei:i=ds[1]:=""
 subst ei;rw[cZ]at k1;refine thn (T.done (cxF fn X s₂ H₂ scope cl C fp N) rfl rfl rfl hc _ [] s B H1 _ I1 (Y fr1) st1 (Wk.stop _ F1 H1 (gy _) S1.gr.f S1.s S1.gr.h)) λr s4' #[hr,I4']=>?_
 subst hr;exact k1 B F1 H1 vs s4' S1.gr fp1 hp1 rs1[""] I4'
end
def clOf(env:Env):List (Str×NameKind)->List (Str×Addr)->List (Str×Addr)
 | [],cs=>cs
 | (n,k)::r,cs=>if k==.free then clOf env r ((n,(env.cells.lookup n).getD 0)::cs)else clOf env r cs
def vA(env:Env)(names:List (Str×NameKind)):Bool:=names.all λy=>y.2 != .cell&&(y.2 != .free||env.kindOf y.1==some .cell)
def qaC{env:Env}(z:vA env scope.names=true)(B:∀ n,env.kindOf n=some .cell->∃ c,env.cells.lookup n=!c):closureFor scope env=pure (clOf env scope.names []):=by
 have go:∀ names cs,vA env names=true ->
   (forIn names cs λx r=>match x with|(name,kind)=>if (kind==NameKind.free)=true then do let y <- cellOf env name;pure (ForInStep.yield ((name,y)::r))else pure (ForInStep.yield r))=pure (clOf env names cs):=by
  intro names
  induction names with
  | nil=>intro cs _;rfl
  | cons y r ih =>
   intro cs z;obtain⟨n,k⟩:=y;unfold vA at z;rw[pA,hE,hE]at z;rw[bv];by_cases hk:(k==NameKind.free)=true
   .have O:k=.free:=by simpa using hk
    have:env.kindOf n=some .cell:=by
     have:=z.1.2;simp[O]at this;simpa using this
    obtain⟨c,hc⟩:=B n this;have e:cellOf env n=pure c:=by simp[cellOf,hc]
    simp only[hk,e,clOf,hc];exact ih _ z.2
   simp only[hk,clOf];exact ih _ z.2
 exact congrArg (λm=>m >>= λs=>pure s) (go scope.names [] z)
theorem Qn:∀ names cs,vA env names=true->(∀ n,env.kindOf n=some .cell->∃ c,env.cells.lookup n=!c)->ClIn env cs->ClIn env (clOf env names cs)
 | [],cs,_,_,h=>h
 | (n,k)::r,cs,hb,has,h=>by
  unfold vA at hb;rw[pA,hE,hE]at hb;unfold clOf;by_cases hk:(k==NameKind.free)=true
  .rw[if_pos hk];have z:k=.free:=by simpa using hk
   have:env.kindOf n=some .cell:=by
    have:=hb.1.2;simp[z]at this;simpa using this
   obtain⟨c,hc⟩:=has n this;exact Qn r _ hb.2 has #[by rw[hc];rfl,h]
  rw[if_neg hk];exact Qn r _ hb.2 has h
theorem Zi:∀ names cs,vA env names=true->(∀ n,env.kindOf n=some .cell->∃ c,env.cells.lookup n=!c)->ClIn env cs ->
  ∀ n,((n,NameKind.free)∈names\/(∃ c,cs.lookup n=!c))->∃ c,(clOf env names cs).lookup n=!c
 | [],cs,_,_,_,n,h=>by
  rcases h with h|h
  .grind
  exact h
 | (m,k)::r,cs,hb,has,hcs,n,h=>by
  unfold vA at hb;rw[pA,hE,hE]at hb;unfold clOf;by_cases hk:(k==NameKind.free)=true
  .rw[if_pos hk];have z:k=.free:=by simpa using hk
   have hc:env.kindOf m=some .cell:=by
    have:=hb.1.2;simp[z]at this;simpa using this
   obtain⟨c,hc⟩:=has m hc;refine Zi r ((m,(env.cells.lookup m).getD 0)::cs) hb.2 has (And.intro (by rw[hc];rfl) hcs) n ?_
   by_cases e:n=m
   .simp_all
   rcases h with h|⟨c',h⟩
   .grind
   have:(n==m)=false:=by simpa using e
   exact .inr #[c',by simp[List.lookup,this,h]]
  rw[if_neg hk];refine Zi r _ hb.2 has hcs n ?_
  grind
def qaD{scope:Scope}{env:Env}(O:vA env scope.names=true)(B:∀ n,env.kindOf n=some .cell->∃ c,env.cells.lookup n=!c):Cap env (clOf env scope.names []) scope.names:=by
 have U:∀ names,(∀ y∈names,y∈scope.names)->Cap env (clOf env scope.names []) names:=by
  intro names
  induction names with
  | nil=>intro _;trivial
  | cons y r ih =>
   intro h;obtain⟨n,k⟩:=y;have hy:=h (n,k) tj;have q:=pO.mp O (n,k) hy;simp only[hE]at q;refine#[#[by simpa using q.1,λhk=>?_],ih λz hz=>h z (gj _ hz)]
   subst hk;have q2:env.kindOf n=some .cell:=by
    simp_all
   obtain⟨c,hc⟩:=Zi scope.names [] O B trivial n (.inl hy);exact#[q2,hc.trans (ClIn.look (Qn scope.names [] O B trivial) hc).symm]
 exact U scope.names λy hy=>hy
section
variable{X:Cx}{F0 H0:Hp}{pos:Pos}{tg elt iter:Expr}{ifs:List Expr}{scope:Scope}{fi:IF}{gf:GF}{t:TF}{e:EF}
abbrev cxD(X:Cx)(scope:Scope)(N:List Str)(s₂:ab)(H₂:Hp)(C:Addr)(fp:List Addr):Cx:=cxC X s₂ H₂ scope (clOf X.env scope.names []) C fp N
def okP{H H₂ F1 H1:Hp}(l:∀ c,H₂ c=none->H c=none)(h0:H₂ p=none)(z:F1 p=none)(B:H1 p=!(.lst vs))(rs:(Zh κ H₂ p).RL F1 H1 vs ys):Vok κ H F1 H1 (.ref p) (.lst ys)[9]:=#[_,_,rfl,l _ h0,z,B,rs]
def Zj(N){ad:En->R D}{fn:List D->En}(M:∀ H₂ p,Mm (kx X) H₂ p ad)(hfn:∀{H H₂ F1 H1 p vs ys},(∀ c,H₂ c=none->H c=none)->H₂ p=none->F1 p=none->H1 p=!(.lst vs)->(M H₂ p).RL F1 H1 vs ys->Vok (kx X) H F1 H1 (.ref p) (fn ys)){use:Option (aa->Sem Unit)}(hi:SIc X F0 H0 tg iter fi)(hno:kD gf)
  (hg:∀ s₂ F₂ H₂ C fp,SG (cxD X scope N s₂ H₂ C fp) F₂ H₂ tg gf)(ht:∀ s₂ F₂ H₂ C fp,Tests (cxD X scope N s₂ H₂ C fp) F₂ H₂ ifs t)(he:∀ s₂ F₂ H₂ C fp,SE (cxD X scope N s₂ H₂ C fp) F₂ H₂ elt e)
  (hc:X.calm=true)(U:scope.kind=.function)(Z:vA X.env scope.names=true)(h4:wS (relabel scope X.env).names X.N N=true)(h6:N[1]=X.N.length+n)
  (h5:∀ x∈scope.names,x.2=.local->scope.names.lookup x.1=some .local)(hs:∀ x,foldedSetIterable iter X.env x=pure x)
  {pins:List (Addr×Obj)}{s:ab}{σ:St}{F H:Hp}{ρ:Rho}{Q:aa->ab->Prop}{h7:Pos}(S:StOk (kx X) F0 H0 F H ρ σ)(I:"I" H s)
  (h:KE (XP X F0 H0) (xP ad fn n fi gf t e ρ) λw=>∀ p C F1 H1 s1 m,Gr F H F1 H1->Vok (kx X) H F1 H1 (.ref p) w->"I" H1 s1->s1.heap.Ns C m ->
   (∀ s2 H2 h' (σ':St),Inv X pins σ' H2 s2->H2 C=none->(∀ b o,b≠C->s2.heap.get? b=!o->h'.get? b=!o)->Inv X pins σ' H2 {s2 with heap:=h'})->H1 C=none->C≠X.env.locals->(∀ x c,X.env.cells.lookup x=!c->c≠C) ->
   compPost (model X.prog X.w) X.A X.xe use Q (.ref p) C (.ok .next) s1) :
  X[3] (comprehension (.ListComp elt [#[tg,iter,ifs,0]] scope pos) scope X.env h7 (newList []) false (eval iter X.env) use) Q X.xe s:=by
 have has:∀ n,X.env.kindOf n=some .cell->∃ c,X.env.cells.lookup n=!c:=λn hn=>I.ok.has n (.inl hn)
 have hCl:=Qn scope.names [] Z has trivial;have hCp:=qaD Z has;refine wpAny_comprehension_free rfl hs (qaC Z has) U h5 ?_;obtain⟨wi,PIv,hwi⟩:=hi;cases ed:fi ρ with
 | exc x=>have h:=KE.bind h;rw[ed]at h;exact h.elim
 | stuck=>have h:=KE.bind h;rw[ed]at h;cases h
 | ok ds =>
  have h:=KE.bind h;rw[ed]at h;refine thn (PIv pins s σ H (λJ H1=>∃ F1,Gr F H F1 H1/\Walk (kx X) J F1 H1 ds) I (hwi σ F H ρ _ S (by rw[ed];exact λF1 H1 J g W=>#[F1,g,W]))) λv s1 h1=>thn h1 λitv s₂ h2=>?_
  obtain⟨it,fp,tn,J,H₂,rfl,I2,T,st2,f2,F₂,g2,Wk⟩:=h2;refine tX (wpAny_newFunctionEnv (λx hx=>(Cap.mem hCp x hx).1) (by intro y hy;simp at hy) (λh₁ Y O=>?_) U)
  generalize hH2:s₂.heap.push {cls:=.type "list",dict:=none,data:=.seq [].toArray}=HP at Y O ⊢;have hC:HP.objs.size=s₂[0]+1:=by rw[<- hH2,cG]
  have hDC:s₂[0]≠HP.objs.size:=by rw[hC];exact t3 (dZ _)
  have old:∀ b o,s₂.heap.get? b=!o->h₁.get? b=!o:=λb o e =>
   O.extBut b o (t3 (by rw[hC];exact dM (gP e))) (gq _ (hH2▸gq _ e))
  have h8:h₁.get? s₂[0]=some {cls:=.type "list",data:=.seq #[] 0}:=O.extBut _ _ hDC (gq _ (hH2▸gM _ rfl));have hp:H₂ s₂[0]=none:=I2.hok.fresh (gy _);have B:s₂[0]<HP.objs.size:=by rw[hC];exact dZ _
  have I4:=qax (N:=N) (n:=n) (tk:=s₂.toks+([]:List (Str×aa))[1]) I2 T st2 f2 U hCp hCl (Yd h4) h6 B Y old h8;have st4:tn 0 h₁:=T.keep _ _ _ st2 λb hb o e=>old b o e
  have S4:StOk (kx X) F₂ H₂ F₂ H₂ (jc n ρ) (σ++List.replicate n none):=qav n (S.grow g2);have h9:∀ b∈fp,FpOk (cxD X scope N s₂ H₂ HP.objs.size fp) [] (upd H₂ s₂[0] (.lst [])) b:=λb hb=>by
   obtain⟨f0,f1,f3,f4,f5,f6⟩:=f2 b hb;obtain⟨o,ho,_⟩:=T.obj 0 _ st2 b hb;have lb:=gP ho;refine#[by rw[qt (t3 lb)];exact f0,(show b≠HP.objs.size from t3 (bE lb B)),λz=>?_,.inl hb,λx c e=>f5 x c (ClIn.look hCl e),λq hq=>absurd (show q∈[]from hq) "s"]
   rcases gE.mp (I2.stkSub b z)with q|q
   .exact f1 q
   exact f3 q
  rw[Qb]at h;by_cases csz:ds[1]<=sz
  .rw[if_pos csz]at h;have run:∀ h3,h3={s₂ with heap:=h₁,toks:=s₂.toks+([]:List (Str×aa))[1]} ->
     codeAny (model X.prog X.w) X.A (.compLoop (.ListComp elt [#[tg,iter,ifs,0]] scope pos) 0 (.ref it) (.ref s₂[0]) (compEnvC scope (clOf X.env scope.names []) HP.objs.size X.env))
      (compPost (model X.prog X.w) X.A X.xe use Q (.ref s₂[0]) HP.objs.size) h3:=by
    rintro h3 rfl;refine qaB (pins:=pins) (σ:=σ) (N:=N) (s₂:=s₂) (F₂:=F₂) (M H₂ _) g2.s T hc st4 Wk h9 hp I4 S4 (qaz n ρ) hno (hg _ _ _ _ _) (ht _ _ _ _ _) (he _ _ _ _ _) csz (KE.impX (KE.bind h) (λys k σ1 F1 H1 vs s1 g1 nf hv rs I1=>?_) λ_ z=>z)
    have J1:"I" H1 s1:=I2.call' (ch:=fp) I1.os I1.base I1.hok I1.bare λb hb=>by
     obtain⟨f0,f1,f3,f4,f5,f6⟩:=f2 b hb;exact#[f4,f1,f5,f6]
    obtain⟨m1,hn1,_⟩:=I1.loc;have cl2:∀ x c,X.env.cells.lookup x=!c->c≠HP.objs.size:=λx c e z=>by
     obtain⟨v,o,ho,_⟩:=I2.cell x c e;exact pz _ (bE (gP ho) (z▸B))
    have lne:HP.objs.size≠X.env.locals:=t9 (t3 (bE I2.lt B));refine k s₂[0] HP.objs.size F1 H1 s1 m1 (g2.trans g1) (hfn (λc z=>Le.none g2.h z) hp nf hv rs) J1 hn1 (λs2 H2 h' σ' J2 hn kk=>?_) I1.free lne cl2
    refine J2.turned (t':=s2.toks) kk hn lne (.inr (tV I2.sz (cM B))) cl2 λq hq z=>?_
    exact pz _ (bE (gP (I2.pin q hq).1) (z▸B))
   exact codeAny_compStart_list (run _ rfl) (T.self _ 0 _ _ _ st4 (run _ rfl))
  rw[if_neg csz]at h;cases h
def vW{n:Nat}(N)(hi:SIc X F0 H0 tg iter fi)(Z:kD gf)
  (hg:∀ s₂ F₂ H₂ C fp,SG (cxD X scope N s₂ H₂ C fp) F₂ H₂ tg gf)(ht:∀ s₂ F₂ H₂ C fp,Tests (cxD X scope N s₂ H₂ C fp) F₂ H₂ ifs t)(he:∀ s₂ F₂ H₂ C fp,SE (cxD X scope N s₂ H₂ C fp) F₂ H₂ elt e)
  (hc:(X.calm=true)["r"])(O:(scope.kind=.function)["r"])(U:(vA X.env scope.names=true)["r"])(z:(wS (relabel scope X.env).names X.N N=true)["r"])(Y:(N[1]=X.N.length+n)["r"])
  (B:∀ x∈scope.names,x.2=.local->scope.names.lookup x.1=some .local:=by decide +kernel)(hs:∀ x,foldedSetIterable iter X.env x=pure x:=by intro _;rfl) :
  "S" (.ListComp elt [#[tg,iter,ifs,0]] scope pos) (qV n fi gf t e):=by
 exact λpins s σ F H ρ Q S I h=>Zj N (λ_ _=>Zh _ _ _) okP hi Z hg ht he hc O U z Y B hs S I (h.imp λw k p C F1 H1 s1 m g q I1 hn turn hC _ _=>#[m,hn,λh' sb=>(k (.ref p) (.ref p) F1 H1 _ g q rfl (turn s1 H1 h' σ I1 hC λb o hb e=>(sb.2 b hb).trans e))])
def Qo(i){x:Str}{pos' B:Pos}{n:Nat}(N)(hN:X.N.Nodup)(hi:SIc X F0 H0 tg iter fi)(hno:kD gf)
  (hg:∀ s₂ F₂ H₂ C fp,SG (cxD X scope N s₂ H₂ C fp) F₂ H₂ tg gf)(ht:∀ s₂ F₂ H₂ C fp,Tests (cxD X scope N s₂ H₂ C fp) F₂ H₂ ifs t)(he:∀ s₂ F₂ H₂ C fp,SE (cxD X scope N s₂ H₂ C fp) F₂ H₂ elt e)
  (hix:(X.N[i]?=!x)["r"])(hx:(Loc X.env.scope x)["t"])(hsw:(swapsWith (.ListComp elt [#[tg,iter,ifs,0]] scope pos) (!(.Name x pos')) B.line X.env=pure true)["r"])
  (hf:(X.fn x=true\/X.env.scope.names.lookup x=some .local)["t"])
  (hc:(X.calm=true)["r"])(Y:(scope.kind=.function)["r"])(Z:(vA X.env scope.names=true)["r"])(O:(wS (relabel scope X.env).names X.N N=true)["r"])(h3:(N[1]=X.N.length+n)["r"])
  (U:∀ x∈scope.names,x.2=.local->scope.names.lookup x.1=some .local:=by decide +kernel)(hs:∀ x,foldedSetIterable iter X.env x=pure x:=by intro _;rfl) :
  SS X F0 H0 (.Assign [.Name x pos'] (.ListComp elt [#[tg,iter,ifs,0]] scope pos) B) (qj i (qV n fi gf t e)):=by
 intro pins s σ F H ρ D S I h;rw[exec_Assign_Name_used _ _ _ _ hsw];refine g6 (bT (g6 ?_));refine g6 (c6 (Zj N (λ_ _=>Zh _ _ _) okP hi hno hg ht he hc Y Z O h3 U hs S I ((KE.bind (PostS.of h)).imp λw k p C F1 H1 s1 m g q I1 hn turn hC hL hcl=>?_)) (λ_ s' hq=>gu (gu hq)) λ_ _ e=>e)
 obtain⟨w',e1,k2,rfl⟩:=Qh k;refine bN (JR I1 hN hix hx (v:=.ref p) rfl (λs2 I2 hch=>?_) hf)
 obtain⟨a,sb,ha⟩:=hch;have aC:C≠a:=by
  rcases ha with z|z
  .rw[z];exact hL
  exact λq=>hcl x a z q.symm
 refine#[m,hn.sameBut sb aC,λh' sb2=>#[_,H1,turn s2 H1 h' _ I2 hC λb o hb e=>(sb2.2 b hb).trans e,k2 _ F1 H1 g.f (S.setW g q e1)]]
end
def jR:List D->Option (List Int)
 | []=>↑[]
 | .int i::r=>(match jR r with|some l=>↑(i::l)|none=>none)
 | _::_=>none
def wU:Int->List Int->Int
 | m,[]=>m
 | m,x::r=>wU (if x>m then x else m) r
theorem Zk:∀ r m,(wU m r∈m::r)/\∀ a∈m::r,a<=wU m r
 | [],m=>#[tj,λa ha=>by simp at ha;subst ha;exact pt _]
 | x::r,m=>by
  obtain⟨h1,h2⟩:=Zk r (if x>m then x else m)
  have e:wU m (x::r)=wU (if x>m then x else m) r:=rfl
  rw[e];by_cases c:x>m
  .rw[if_pos c]at h1 h2 ⊢;refine#[gj _ h1,λa ha=>?_]
   rcases gE.mp ha with rfl|ha
   .have:=h2 x tj;lia
   exact h2 a ha
  rw[if_neg c]at h1 h2 ⊢;refine#[?_,λa ha=>?_]
  .grind
  rcases gE.mp ha with rfl|ha
  .exact h2 _ tj
  rcases gE.mp ha with rfl|ha
  .have:=h2 m tj;lia
  simp_all
theorem yu:∀{ds} {vs} {ns},jR ds=!ns->Reps κ F vs ds->vs=ns.map V.int
 | [],vs,ns,h,r=>by cases h;exact r
 | d::ds,vs,ns,h,r=>by
  obtain⟨v,vr,rfl,r1,r2⟩:=r;cases d<;>first|(cases h;done)|skip
  unfold jR at h;cases e:jR ds with
  | none=>rw[e]at h;cases h
  | some l =>
   rw[e]at h;cases h;cases (r1);rw[yu e r2];rfl
section
variable{X:Cx}{F0 H0:Hp}
def Qp:Sum Int Str->D
 | .inl i=>.int i
 | .inr x=>.str x
def Zl(e:EF):IF:=λρ=>(e ρ).bind λw=>w.st.bind λd=>match d with
 | .dK kvs=>.ok (kvs.map λp=>Qp p.1)
 | _=>.stuck
def ItK(ks:List Key):It:=#[λi _=>i<ks[1],λi H x H'=>H'=H/\∃ k,ks[i]?=!k/\x=kV k,λi _=>ks[1]<=i]
def qaE(h:(jd P w).is k u=true):RelV (kV k) u:=by
 rcases vT h with⟨i,t,rfl,rfl⟩|⟨x,t,rfl,rfl⟩
 .exact#[t,rfl]
 exact#[t,rfl]
def qaF{K:Frag}{o:Obj}{es:Array DictEntry}{ep:Nat}{vs:List (Key×aa)}(B:K.lookup a=!o)(h1:o.ExactDict)(h2:o.data=.dict es ep)
  (O:KeysOf (jd P w) es)(U:Pairs (jd P w) es[2] vs)(Y:(vs.map (·.1)).Nodup):Turn P w K tg (ItK (vs.map (·.1))) [it] it (λi h=>h.IsKeyIter it a i vs[1] ep)where
 mem:=by simp
 obj:=λi h st b hb=>by
  obtain⟨o,e,c,d⟩:=st
  simp_all
 keep:=λi h h' st k=>by
  obtain⟨o,e,r⟩:=st;exact#[o,k it "s" o e,r]
 item:=by
  intro X hP hw hK hc i pins s σ H E I hf st hg;subst hP hw hK;have hm:s.heap.DictAt (jd X.prog X.w) a vs ep:=#[o,es,I.kIn a o B,h1,h2,O,U,Y];have hg:i<(vs.map (·.1))[1]:=hg
  rw[gg]at hg;obtain⟨f0,f1,f2,f3,f4,f5⟩:=hf it "s"
  have hx:vs[i]?=!((vs[i]).1,(vs[i]).2):=by simp[hg]
  refine wpAny_pyNext_dict_item st hm hx λkey h' ik z sb=>?_
  have I1:"I" H {s with heap:=h'}:=I.turned (λb o hb e=>(sb.2 b hb).trans e) f0 f1 f3 f4 f5
  obtain⟨o',e,c,d⟩:=id z;exact#[key,rfl,yf (s:={s with heap:=h'}) e c d "d" #[kV (vs[i]).1,H,I1,qaE ik,#[rfl,(vs[i]).1,by simp[hg],rfl],z,λb hb=>(hf b hb).1]]
 done:=by
  intro X hP hw hK hc i pins s σ H E I hf st hg;subst hP hw hK;have hm:s.heap.DictAt (jd X.prog X.w) a vs ep:=#[o,es,I.kIn a o B,h1,h2,O,U,Y];have hg:(vs.map (·.1))[1]<=i:=hg
  rw[gg]at hg;obtain⟨f0,f1,f2,f3,f4,f5⟩:=hf it "s"
  exact wpAny_pyNext_dict_end (I.ok.hd hc) st hm (by simp;lia) λh' eb=>#[rfl,I.turned (t':=s.toks) (λb o hb e=>eb b o hb e) f0 f1 f3 f4 f5]
 self:=λ_ _ _ _ _ st h=>wpAny_pyIter_keyiter st h
theorem Zm:∀{kds} {kvs},RepK κ F kvs kds->kvs.map (·.1)=kds.map (·.1)
 | [],_,h=>by cases (h);rfl
 | (k,d)::r,_,h=>by
  obtain⟨v,kr,rfl,h1,h2⟩:=h;simp[Zm h2]
def qaG(B:X.mg x=!u)(r:RelV v u)(q:∀ F,Rep (kx X) F v d)(O:(Gl X x)["r"])(hd:((x==("__debug__"))=false)["d"]) :
  SI X F0 H0 tg (.Name x pos) (Zl (eC d)):=by
 refine#[λσ H R=>∃ kds,d=.dK kds/\R (ItK (kds.map (·.1))) H,?_,λσ F H ρ R S h=>?_]
 .intro pins s σ H R I ⟨kds,ed,hR⟩;subst ed;obtain⟨a,kvs,ev,hq,rk⟩:=q (λ_=>none)
  subst ev;cases (show u=Value.ref a from r)
  rcases hq with(hq|⟨_,hq⟩)|⟨hs,o,es,ep,vs,hk,h1,h2,h3,h4,h5,h6⟩
  .cases hq
  .cases hq
  refine JS I O B ?_ hd;have z:s.heap.DictAt (jd X.prog X.w) a vs ep:=#[o,es,I.kIn a o hk,h1,h2,h3,h4,h5];have ek:vs.map (·.1)=kds.map (·.1):=by rw[<- Zm rk];exact(KV.keys h6).symm
  refine wpAny_pyIter_dict hs z ?_;refine#[s[0],[s[0]],_,_,H,rfl,I.kept λb o e=>gq _ e,qaF hk h1 h2 h3 h4 h5,#[_,gM _ rfl,rfl,rfl],λb hb=>?_,?_]
  .have e:b=s[0]:=by simpa using hb
   subst e;exact I.fpOk (gy _) (I.hok.fresh (gy _))
  rw[ek];exact hR
 cases d<;>first|exact h.elim|skip
 rename_i kds;refine#[kds,rfl,?_];refine h F H _ (Gr.refl S.s) #[λi dd F2 H2 e l1 l2 _=>?_,λi F2 H2 hi l1 l2 _=>?_]
 .rw[gC]at e;cases ek:kds[i]? with
  | none=>rw[ek]at e;cases e
  | some p =>
   rw[ek]at e;have e:Qp p.1=dd:=by simpa using e
   have hi:i<kds[1]:=(gp.mp ek).1;refine#[by simpa[ItK]using hi,λy H' hy=>?_]
   obtain⟨eh,k,e1,e2⟩:=hy;subst eh;refine#[F2,Gr.refl l2,?_];rw[gC,ek]at e1;have e1:p.1=k:=by simpa using e1
   subst e1 e2 e;cases p.1<;>rfl
 simpa[ItK]using hi
end
def StOk.frz{a:Addr}(S:StOk κ F0 H0 F H ρ σ)(B:ρ[i]?=!(!d[9])):∃ F',Le F F'/\StOk κ F0 H0 F' H (ρ.set i (!d[8])) σ:=by
 obtain⟨v,si,b,o,rfl,h0,hf,hh,ro⟩:=S.val i _ B;have l:Le F (upd F b o):=λc u h=>by rw[qt (jG h hf)];exact h
 refine#[upd F b o,l,#[#[Le.trans S.gr.f l,S.gr.h,λc u h=>?_,λc h=>?_],by simpa using S.len,λj w e=>?_,λj k w w' c O ej ek oj ok sj sk=>?_,λj y e=>?_]]
 .by_cases e:c=b
  .subst e;rw[qH]at h;cases h;exact hh
  rw[qt e]at h;exact S.gr.s c u h
 .by_cases e:c=b
  .subst e;exact .inr (.inl h0)
  rw[qt e]at h;exact S.gr.n c h
 .rcases qB e with⟨rfl,z⟩|⟨ne,z⟩
  .cases z;refine#[_,si,?_];have r:=OwnO.le l ro;cases o<;>cases d<;>first
    | exact r.elim
    | exact#[b,_,rfl,.inl (.inl qH),r]
    | exact#[b,_,rfl,.inl qH,r]
  obtain⟨v,e1,q⟩:=S.val j w z;refine#[v,e1,?_];have nb:∀{c},v=.ref c->w.own=true->c≠b:=λ{c} ev ow ec=>by
   subst ev ec;exact S.sep j i w _ c ne z B ow rfl e1 si
  cases w with
  | fz d=>exact Rep.le l d q
  | br d=>obtain⟨c,oc,ec,eh,cr⟩:=q;exact#[c,oc,ec,eh,OwnO.le l cr]
  | ow d=>obtain⟨c,oc,ec,c0,cf,ch,cr⟩:=q;exact#[c,oc,ec,c0,by rw[qt (nb ec rfl)];exact cf,ch,OwnO.le l cr]
  | lk d=>exact#[Rep.le l d q.1,RawT.le l q.2]
  | od d=>obtain⟨c,oc,ec,c0,cf,ch⟩:=q;exact#[c,oc,ec,c0,by rw[qt (nb ec rfl)];exact cf,ch]
 .rcases qB ej with⟨_,z⟩|⟨nj,ej⟩
  .cases z;cases oj
  rcases qB ek with⟨_,z⟩|⟨nk,ek⟩
  .cases z;cases ok
  exact S.sep j k w w' c O ej ek oj ok sj sk
 rcases qB e with⟨_,z⟩|⟨nj,ej⟩
 .lia
 obtain⟨s1,c,bs,e1,c0,cf,nd,dp,sp⟩:=S.dp j y ej;have nb:∀ x∈c::bs,x≠b:=λx m z=>by subst z;exact sp i _ _ (t9 nj) B rfl m si
 refine#[λk z hk ek=>?_,c,bs,e1,c0,by rw[qt (nb c "s")];exact cf,nd,Deep.same (λ_ _=>rfl) (λx m z=>by rw[qt (nb x (gj _ m))];exact z) l dp,λk w x hk ek ok m=>?_]
 .rcases qB ek with⟨_,q⟩|⟨_,q⟩
  .cases q
  exact s1 k z hk q
 rcases qB ek with⟨_,q⟩|⟨_,q⟩
 .cases q;cases ok
 exact sp k w x hk q ok m
def zi{st:Stmt}(i)(h:SS X F0 H0 st f):SS X F0 H0 st (jB i f):=by
 intro pins s σ F H ρ D S I k;unfold jB L3.frz at k;split at k
 .rename_i d e;obtain⟨F',l,S'⟩:=S.frz (a:=0) e;exact h pins s σ F' H _ D S' I (PostS.le l k)
 exact h pins s σ F H ρ D S I k
def qS{κ:Type} [DecidableEq κ](k:κ)(v:D)(kds:List (κ×D)):List (κ×D) :=
 if (kds.any λkv=>decide (kv.1=k))=true then kds.map (λkv=>if kv.1=k then(kv.1,v)else kv)else kds++[(k,v)]
def eDK:EF:=λ_=>.ok (.dK [])[9]
def eDT:EF:=λ_=>.ok (.dT [])[9]
theorem Ye:∀{kds es} {kvs us},RepK κ F kvs kds->RepK κ F us es->RepK κ F (kvs++us) (kds++es)
 | [],_,_,_,h,k=>by cases (h);exact k
 | (q,d)::r,_,_,_,h,k=>by
  obtain⟨v,kr,rfl,h1,h2⟩:=h;exact#[v,kr++_,rfl,h1,Ye h2 k]
theorem Zn(z:Rep κ F v d):∀{kds} {kvs},RepK κ F kvs kds ->
  RepK κ F (kvs.map λkv=>if kv.1=k then(kv.1,v)else kv) (kds.map λkv=>if kv.1=k then(kv.1,d)else kv)
 | [],_,h=>by cases (h);rfl
 | (q,e)::r,_,h=>by
  obtain⟨u,kr,rfl,h1,h2⟩:=h;by_cases c:q=k
  .subst c;simp[gN];exact#[v,_,rfl,z,(Zn z h2)]
  simp[gN,if_neg c];exact#[u,_,rfl,h1,(Zn z h2)]
def qaH(k){kds:List (Sum Int Str×D)}{kvs:List (Key×V)}(h:RepK κ F kvs kds):(kvs.any λkv=>decide (kv.1=k))=(kds.any λkv=>decide (kv.1=k)):=by
 have a:∀{α} (l:List (Key×α)),(l.any λkv=>decide (kv.1=k))=(l.map (·.1)).any λq=>decide (q=k):=λl=>by rw[List.any_map];rfl
 rw[a,a,(Zm h)]
def qaI(z:Rep κ F v d)(h:RepK κ F kvs kds):RepK κ F (jH kvs k v) (qS k d kds):=by
 unfold jH qS;rw[qaH k h];by_cases c:(kds.any λkv=>decide (kv.1=k))=true
 .rw[if_pos c,if_pos c];exact Zn z h
 rw[if_neg c,if_neg c];exact Ye h #[v,[],rfl,z,rfl]
section
variable{X:Cx}{F0 H0:Hp}{pos pos':Pos}
def Yf:"S" (.Dict [] [] pos) eDK:=by
 refine λpins s σ F H ρ Q S I h=>thn (qa2 pins s σ H (λv H'=>∃ p,v=.ref p/\H p=none/\H'=upd H p (.dK [])) I λp hp=>#[p,rfl,hp,rfl]) λu s' #[v,H',I',r,p,ev,hp,eh]=>?_
 subst ev eh;exact h (.ref p) u F (upd H p (.dK [])) s' (Gr.new S.s hp) #[p,_,rfl,hp,Le.none S.s hp,qH,rfl] r I'
def Zo:"S" (.Dict [] [] pos) eDT:=by
 refine λpins s σ F H ρ Q S I h=>thn (qa3 pins s σ H (λv H'=>∃ p,v=.ref p/\H p=none/\H'=upd H p (.dT [])) I λp hp=>#[p,rfl,hp,rfl]) λu s' #[v,H',I',r,p,ev,hp,eh]=>?_
 subst ev eh;exact h (.ref p) u F (upd H p (.dT [])) s' (Gr.new S.s hp) #[p,_,rfl,hp,Le.none S.s hp,qH,rfl] r I'
def vX(i:Nat)(k e:EF):SF:=λρ=>match ρ[i]? with
 | some (!(.dK kvs)[9])=>sOf ((e ρ).bind En.st) λd=>sOf (k ρ) λq=>match zn q.d with
  | some key=>if kvs[1]<sz then .nx (ρ.set i (!(.dK (qS key d kvs))[9]))else .stuck
  | none=>.stuck
 | _=>.stuck
def Yg(i)(Y:X.A.units+10<cLine)(z:"S" k fk)(B:"S" e fe)(O:(Nm X i x)["t"])(U:(swapsWith e (!(.Subscript (.Name x np) k pos')) pos.line X.env=pure false)["r"]) :
  SS X F0 H0 (.Assign [.Subscript (.Name x np) k pos'] e pos) (vX i fk fe):=by
 intro pins s σ F H ρ D S I h;unfold vX at h;cases ew:ρ[i]? with
 | none=>rw[ew]at h;exact h.elim
 | some w =>
  rw[ew]at h;cases w with
  | none=>exact h.elim
  | some w =>
   cases w with
   | fz d=>exact h.elim
   | br d=>exact h.elim
   | lk d=>exact h.elim
   | od d=>exact h.elim
   | ow d =>
    cases d<;>first|exact h.elim|skip
    rename_i kds;have h:=KE.bind (PostS.of h);obtain⟨v,e1,a,o,rfl,h0,hf,hh,ro⟩:=S.val i _ ew;cases o<;>first|exact ro.elim|skip
    rename_i kvs;refine Z1 (pos:=pos) (pos':=pos') "" (pvN (pos:=np) O) (je (e:=k)) (je (e:=e)) U pins s σ H D I (B.sem S (h.imp λw k1 y F1 H1 g1 q1=>?_))
    cases es:w.st with
    | exc x=>rw[es]at k1;exact k1.elim
    | stuck=>rw[es]at k1;exact k1.elim
    | ok d =>
     rw[es]at k1;have ry:=Vok.st S.s g1 q1 es;obtain⟨g2,_⟩:=v8 S.s g1;have S2:=S.grow g2;refine#[_,e1,z.sem S2 ((PostS.of (show PostS X F0 H0 F D _ from k1)).imp λwk k2 y2 F3 H3 g3 q3=>?_)]
     cases ek:zn wk.d with
     | none=>rw[ek]at k2;exact k2.elim
     | some key =>
      rw[ek]at k2;have ey:y2=kV key:=by
       have r:=Vok.rd q3;cases ed:wk.d with
       | int j=>rw[ed]at ek r;cases ek;exact RdV.int r
       | str j=>rw[ed]at ek r;cases ek;exact RdV.str r
       | _=>rw[ed]at ek;cases ek
      subst ey;have lv:kvs[1]=kds[1]:=RepK.length ro;by_cases c:kds[1]<sz
      .have k3:PostS X F0 H0 F D (.nx (ρ.set i (!(.dK (qS key d kds))[9]))):=by simpa[if_pos c]using k2
       refine#[a,_,rfl,DPut.k (g3.h _ _ (g1.h _ _ hh)) (by rw[lv];exact c),?_]
       refine k3 σ _ _ (Le.trans g2.f g3.f) ((S2.grow g3).mut ew e1 (o:=.dK (jH kvs key y)) ?_);exact qaI (Rep.le g3.f _ ry) (RepK.le (Le.trans g2.f g3.f) _ ro)
      have:False:=by simpa[if_neg c,PostS,KE]using k2
      exact this.elim
def xQ(d k x:EF):EF:=λρ=>(d ρ).bind λwd=>match wd.d with
 | .dK kvs=>(k ρ).bind λwk=>(x ρ).bind λwx=>(match zn wk.d with
  | some q=>(match look q kvs with|some d=>.ok d[8]|none=>.ok wx)
  | none=>.stuck)
 | _=>.stuck
def qaJ(Y:"S" o fo)(Z:"S" e fe)(hf:"S" f ff)(m:M2 X o "get" apos e f cpos:=by exact#[rfl,rfl,rfl,rfl]) :
  "S" (.Call (.Attribute o "get" apos) [e,f] [] cpos) (xQ fo fe ff):=by
 refine λpins s σ F H ρ Q S I h=>bQ m.base m.few m.line cB fP dW (Y pins s σ F H ρ _ S I ((KE.bind h).imp λwd h1 v u F1 H1 s1 g1 q1 r1 I1=>?_))
 have qd:=Vok.rd q1
 revert h1 qd
 generalize wd.d=dd;intro h1 qd;cases dd<;>first|exact h1.elim|skip
 obtain⟨p,kvs,rfl,hq,rk⟩:=RdV.dK g1.s qd;cases (show u=Value.ref p from r1)
 obtain⟨hd,vs,rel,dd⟩:=Inv.dictK I1 hq;refine#[dd.typeIs,λb q=>?_,?_]
 .cases q;obtain⟨ob,_,_,e1,e2,_⟩:=dd;exact#[ob,e1,e2.2.1]
 rw[m.trees];refine cI rfl (cW (hZ (Z pins s1 σ F1 H1 ρ _ (S.grow g1) I1 ((KE.bind h1).imp λwk h2 v2 u2 F2 H2 s2 g2 q2 r2 I2 =>
  hZ (hf pins s2 σ F2 H2 ρ _ (S.grow (g1.trans g2)) I2 ((KE.bind h2).imp λwx h3 v3 u3 F3 H3 s3 g3 q3 r3 I3=>tH ?_))))))
 cases ek:zn wk.d with
 | none=>rw[ek]at h3;exact h3.elim
 | some key =>
  rw[ek]at h3;dsimp only at h3;have ry:RelV (kV key) u2:=Z8 ek (RdV.gr g3 (Vok.rd q2)) r2;obtain⟨hd3,vs3,O,U⟩:=Inv.dictK I3 (SqK.le (Le.trans g2.h g3.h) hq);refine dU fP U.typeIs cJ (dB _ _ _) (meets_dict_get_default (jd X.prog X.w) p (k8 ry) hd3 u3) #[_,U.mapOf,?_];have rg:=(O.val key).getD r3;have B:=g1.trans (g2.trans g3);rcases RepK.look key rk with⟨z,d,a1,a2,rz⟩|⟨a1,a2⟩
  .rw[a2]at h3;rw[a1]at rg;exact h3 z _ F3 H3 _ B (Rep.le (Le.trans g2.f g3.f) _ rz) rg (I3.tok _)
  rw[a2]at h3;rw[a1]at rg;exact h3 v3 _ F3 H3 _ B (Vok.older (λa e=>Le.none (Le.trans g1.h g2.h) e) q3) rg (I3.tok _)
def xR:List D->R En
 | [.int i,.int j]=>okI (if j>i then j else i)
 | _=>.stuck
def Yh(z:(X.calm=true)["r"]):zF X (.builtin "max") xR:=kq (T4 z) λF H xs ds Q l qx w=>by
 cases qx with
 | nil=>exact w.elim
 | @cons x d xs ds q1 q2 =>
  cases q2 with
  | nil=>cases d<;>exact w.elim
  | @cons y e ys es q2 q3 =>
   cases q3 with
   | cons _ _=>cases d<;>first|exact w.elim|(cases e<;>exact w.elim)
   | nil =>
    cases d<;>first|exact w.elim|skip
    cases e<;>first|exact w.elim|skip
    cases RdV.int q1;cases RdV.int q2;exact#[_,_,rfl,jj l w rfl]
def Zp(z:(X.calm=true)["r"]):zF X (.builtin "min") kc:=kq (T5 z) λF H xs ds Q l qx w=>by
 cases qx with
 | nil=>exact w.elim
 | @cons x d xs ds q1 q2 =>
  cases q2 with
  | nil=>cases d<;>exact w.elim
  | @cons y e ys es q2 q3 =>
   cases q3 with
   | cons _ _=>cases d<;>first|exact w.elim|(cases e<;>exact w.elim)
   | nil =>
    cases d<;>first|exact w.elim|skip
    cases e<;>first|exact w.elim|skip
    cases RdV.int q1;cases RdV.int q2;exact#[_,_,rfl,jj l w rfl]
def xS:List D->R En
 | [.lst ds]=>(match jR ds with|some ns=>okI ns.sum|none=>.stuck)
 | _=>.stuck
def qaK(B:(X.calm=true)["r"]):zF X (.builtin "sum") xS:=by
 intro pins s σ F H xs us ds Q I l rx qx w;cases qx with
 | nil=>exact w.elim
 | @cons x d xs ds q1 q2 =>
  cases q2 with
  | cons _ _=>cases d<;>exact w.elim
  | nil =>
   cases d<;>first|exact w.elim|skip
   rename_i ds;unfold xS at w;dsimp only at w;cases e:jR ds with
   | none=>rw[e]at w;exact w.elim
   | some ns =>
    rw[e]at w;obtain⟨p,vs,rfl,hq,rs⟩:=RdV.lst l q1;have ev:=yu e rs;subst ev;cases rx with
    | cons r1 r2 =>
     cases r2;cases r1;obtain⟨its,rv,pl,hz⟩:=I.list hq;have hi:=yZ rv;obtain⟨ys,ey⟩:=hi.allInts.items;have z:ns=ys[2].map (·.1):=by rw[<- hi.numsOf,<- nums_intItems,<- ey]
     have hl:=pl.isList;rw[ey]at hl;refine sum_intListG (I.ok.hd B) hl λh' tk t' hk=>?_
     rw[preSum_eq,tW "s",<- z]
     exact#[.int _,H,I.kept hk,#[_,rfl],jj l w rfl]
def xT(g g':D->D->R En)(a b c:EF):EF:=λρ=>(a ρ).bind λx=>(b ρ).bind λy=>(g x.d y.d).bind λr=>(isB r.d).bind λt=>if t=true then(c ρ).bind λz=>g' y.d z.d else okB false
section
variable{a b c:Expr}{fa fb fc:EF}{g g':D->D->R En}{op op':CmpOp}
def Zq(U:OpD X (compareOp op) g)(O:OpD X (compareOp op') g')(Y:"S" a fa)(Z:"S" b fb)(hc:"S" c fc)
  (hm:lastMarks [op,op'] [b,c]=false:=by with_unfolding_all rfl):"S" (.Compare a [op,op'] [b,c] pos) (xT g g' fa fb fc):=by
 refine λpins s σ F H ρ Q S I h=>Compare_chain (Y pins s σ F H ρ _ S I ((KE.bind h).imp λwx h1 v u F1 H1 s1 g1 q1 r1 I1=>chain_link (Z pins s1 σ F1 H1 ρ _ (S.grow g1) I1 ((KE.bind h1).imp λwy h2 v2 u2 F2 H2 s2 g2 q2 r2 I2=>?_)))) hm
 refine thn (U pins s2 σ F2 H2 v v2 u u2 wx.d wy.d (λv3 H3=>∃ F3 w3,Gr F2 H2 F3 H3/\Vok (kx X) H2 F3 H3 v3 w3/\KE (XP X F0 H0) ((isB w3.d).bind λt=>if t=true then(fc ρ).bind λz=>g' wy.d z.d else okB false) _) I2 g2.s r1 r2 (RdV.gr g2 (Vok.rd q1)) (Vok.rd q2) (KE.impX (KE.bind h2) (λw k v3 F3 H3 g3 q3=>#[F3,w,g3,q3,k]) λ_ z=>z.elim)) λcv s3 #[z,H3,I3,rz,F3,w3,g3,q3,k]=>?_
 obtain⟨t,rfl,k2⟩:=Za (Vok.rd q3) rz (KE.bind k);refine pF ?_;have B:=g1.trans (g2.trans g3);cases t with
 | false=>exact k2 (.bl false) _ F3 H3 s3 B rfl rfl I3
 | true =>
  exact chain_last (hc pins s3 σ F3 H3 ρ _ (S.grow B) I3 ((KE.bind k2).imp λwz k4 v4 u4 F4 H4 s4 g4 q4 r4 I4=>(v9 (O pins s4 σ F4 H4 v2 v4 u2 u4 wy.d wz.d _ I4 g4.s r2 r4 (RdV.gr (g3.trans g4) (Vok.rd q2)) (Vok.rd q4) (wQ (B.trans g4) k4)))))
end
def zr:SF:=λ_=>.stuck
def wF{st:Stmt}:SS X F0 H0 st zr:=λpins s σ F H ρ D S I h=>h.elim
end
def qaL(I:Rho->Prop)(Q:Out->Prop):Out->Prop
 | .nx ρ=>I ρ
 | .ct ρ=>I ρ
 | .bk ρ=>Q (.nx ρ)
 | o=>Q o
theorem Qq{Q:Out->Prop}:∀ xs (I:Nat->Rho->Prop) {ρ},I 0 ρ ->
  (∀ i x ρ,xs[i]?=!x->I i ρ->∃ ρ1,g x ρ=.ok ρ1/\qaL (I (i+1)) Q (b ρ1))->(∀ ρ,I xs[1] ρ->Q (.nx ρ))->Q (qC g b xs ρ)
 | [],I,ρ,h0,_,fin=>fin ρ h0
 | x::xs,I,ρ,h0,step,fin=>by
  obtain⟨ρ1,e1,t⟩:=step 0 x ρ rfl h0;have B:∀ z,I 1 z->Q (qC g b xs z):=λz h =>
   Qq xs (λi=>I (i+1)) h (λi y ρ e hi=>step (i+1) y ρ e[""] hi) (λρ h=>fin ρ h[""])
  unfold qC;rw[e1];dsimp only;cases eb:b ρ1 with
  | nx z=>rw[eb]at t;exact B z t
  | ct z=>rw[eb]at t;exact B z t
  | bk z=>rw[eb]at t;exact t
  | rt w=>rw[eb]at t;exact t
  | exc w=>rw[eb]at t;exact t
  | stuck=>rw[eb]at t;exact t
def vO(xs)(I:Nat->Rho->Prop)(h0:I 0 ρ)(step:∀ i x ρ,xs[i]?=!x->I i ρ->∃ ρ1 z,g x ρ=.ok ρ1/\(b ρ1=.nx z\/b ρ1=.ct z)/\I (i+1) z) :
  ∃ ρ',qC g b xs ρ=.nx ρ'/\I xs[1] ρ':=by
 refine Qq (Q:=λo=>∃ ρ',o=.nx ρ'/\I xs[1] ρ') xs I h0 (λi x ρ e hi=>?_) λρ h=>#[ρ,rfl,h]
 obtain⟨ρ1,z,e1,e2,h⟩:=step i x ρ e hi;refine#[ρ1,e1,?_];rcases e2 with e2|e2<;>(rw[e2];exact h)
def Zr(n)(I:Nat->Rho->Prop)(h0:I 0 ρ)(step:∀ i ρ,i<n->I i ρ->∃ ρ1 z,g i[6] ρ=.ok ρ1/\(b ρ1=.nx z\/b ρ1=.ct z)/\I (i+1) z) :
  ∃ ρ',qC g b (zb 0 n) ρ=.nx ρ'/\I n ρ':=by
 have:=vO (zb 0 n) I h0 λi x ρ e hi=>by
  rw[kC]at e;by_cases h:i<n
  .rw[if_pos h]at e;cases e;have:=step i ρ h hi;simpa using this
  simp_all
 rw[Qi]at this;exact this
theorem Qr{ad:En->R D}(i:Nat)(p:D->Bool)(f:D->D):∀(ds:List D) (ρ:Rho),
  (∀ d∈ds,t (ρ.set i (!d[8]))=.ok (p d)/\(p d=true->∃ w,e (ρ.set i (!d[8]))=.ok w/\ad w=.ok (f d)))->zq ad (gV i) t e ds ρ=.ok ((ds.filter p).map f)
 | [],_,_=>rfl
 | d::ds,ρ,h=>by
  obtain⟨h1,h2⟩:=h d tj;have z:=Qr i p f ds (ρ.set i (!d[8])) λx hx=>by
   rw[dX];exact h x (gj _ hx)
  show(R.bind (t (ρ.set i (!d[8]))) λb=>if b=true then(e (ρ.set i (!d[8]))).bind λw=>(ad w).bind λy=>(zq ad (gV i) t e ds (ρ.set i (!d[8]))).bind λys=>.ok (y::ys)else zq ad (gV i) t e ds (ρ.set i (!d[8])))=_
  grind
def kE{ad:En->R D}(i:Nat)(f:D->D)(ds:List D)(ρ:Rho)(h:∀ d∈ds,∃ w,e (ρ.set i (!d[8]))=.ok w/\ad w=.ok (f d)):zq ad (gV i) jg e ds ρ=.ok (ds.map f):=by
 have:=Qr i (t:=jg) (λ_=>true) f ds ρ λd hd=>#[rfl,λ_=>h d hd]
 rw[this];congr 2;simp
def jK{i:Nat}:ati xs i=xs[i]?:=by
 unfold ati ixn;by_cases h:i<xs[1]
 .simp_all
 simp_all
def Zs:ati xs (-1)=xs.getLast?:=by
 unfold ati ixn;cases xs with
 | nil=>rfl
 | cons x r =>
  rw[if_neg "d",if_pos (by simp;lia)]
  have:((-1)+((x::r)[1]:Int)).toNat=(x::r)[1]-1:=""
  rw[this,List.getLast?_eq_getElem?];rfl
def Yi{ad:En->R D}{fi:List D->En}{n:Nat}{it:IF}{ds ys:List D}(h:it ρ=.ok ds)(z:ds[1]<=sz)(h2:zq ad gf t e ds (jc n ρ)=.ok ys):xP ad fi n it gf t e ρ=.ok (fi ys):=by
 unfold xP;lia
def yv{it:IF}{ds ys:List D}(h:it ρ=.ok ds)(z:ds[1]<=sz)(h2:zq En.st gf t e ds (jc n ρ)=.ok ys):qV n it gf t e ρ=.ok (.lst ys)[9]:=Yi h z h2
def Out.th(o:Out)(b:SF):Out:=match o with
 | .nx ρ=>b ρ
 | o=>o
def Zt(a b:SF)(ρ:Rho)(c:Bool):Out:=if c=true then a ρ else b ρ
def xU(a b:EF)(ρ:Rho)(c:Bool):R En:=if c=true then a ρ else b ρ
def Qt(a b:TF)(ρ:Rho)(c:Bool):R Bool:=if c=true then a ρ else b ρ
def kF:EF:=λ_=>okB false
def kfB:TF:=λ_=>.ok false
def ktB:TF:=λ_=>.ok true
def kG(o:Option (Option En)):R En:=match o with
 | some (!d[8])=>.ok d[8]
 | some (!d[9])=>.ok (.br d)
 | some (!(.br d))=>.ok (.br d)
 | some (!(.lk d))=>.ok d[8]
 | _=>.stuck
def Zu(o:Option (Option En)):Out:=match o with
 | some (!d[8])=>.rt d[8]
 | some (!d[9])=>.rt d[9]
 | _=>.stuck
def R.b (r:R α) (f:α->R β):R β:=r.bind f
theorem wV{f:α->R β}:(R.ok a).b f=f a:=rfl
def kH(ds:List D):R En:=if ds[1]<=sz then .ok (.lst ds)[9]else .stuck
def Qu(ds:List D):R En:=if ds[1]<=sz then .ok (.tup ds)[8]else .stuck
def En.dd(w:En):D:=w.d
def En.sto(w:En):R D:=w.st
def En.argo(w:En):R En:=w.arg
def En.nmo(w:En):R En:=w.nm
section
variable{a b:SF}{ρ ρ':Rho}{w:En}{x:Xc}{d:D}{e f:EF}{t u:TF}{i j:Nat}{α β:Type}{k:α->Out}{v:α}{l:List EF}
theorem jN:Out.th (.nx ρ) b=b ρ:=rfl
theorem qh8:Out.th (.rt w) b=.rt w:=rfl
theorem qaM:Out.th (.bk ρ) b=.bk ρ:=rfl
theorem qh9:Out.th .stuck b=.stuck:=rfl
def jv:qe a b ρ=Out.th (a ρ) b:=by unfold Out.th;cases ρ<;>rfl
theorem zt:sOf (.ok v) k=k v:=rfl
theorem Yj:Zt a b ρ true=a ρ:=rfl
theorem Zv:Zt a b ρ false=b ρ:=rfl
theorem qha:xU e f ρ true=e ρ:=rfl
theorem qhb:xU e f ρ false=f ρ:=rfl
theorem qhc:Qt t u ρ true=t ρ:=rfl
theorem qhd:Qt t u ρ false=u ρ:=rfl
theorem qhe:kF ρ=.ok (.bl false)[8]:=rfl
theorem qhf:kfB ρ=.ok false:=rfl
theorem qhg:ktB ρ=.ok true:=rfl
theorem Qv:qj i e ρ=sOf ((e ρ).b En.nmo) λw=>.nx (ρ.set i !w):=rfl
theorem Yk:qp e ρ=sOf ((e ρ).b En.nmo) .rt:=rfl
theorem qhh:ju i ρ=Zu ρ[i]?:=rfl
theorem qhi:Zu (!(!d[8]))=.rt d[8]:=rfl
theorem qhj:Zu (!(!d[9]))=.rt d[9]:=rfl
theorem Zw:qr ρ=.nx ρ:=rfl
theorem qhk:yj ρ=.bk ρ:=rfl
theorem qhl:xJ e ρ=sOf (e ρ) λ_=>.nx ρ:=rfl
theorem kI:sIf t a b ρ=sOf (t ρ) (Zt a b ρ):=rfl
theorem qhm:En.nmo d[8]=.ok d[8]:=rfl
theorem qhn:En.nmo d[9]=.ok d[9]:=rfl
theorem qho:En.sto d[8]=.ok d:=rfl
theorem qhp:En.sto d[9]=.ok d:=rfl
theorem Yl:En.argo d[8]=.ok d[8]:=rfl
theorem qaN:En.argo d[9]=.ok d[8]:=rfl
theorem Ym:En.argo (.br d)=.ok (.br d):=rfl
theorem qaO:En.dd d[8]=d:=rfl
theorem qhq:En.dd d[9]=d:=rfl
theorem qhr:En.dd (.br d)=d:=rfl
theorem yw:q9 i ρ=kG ρ[i]?:=rfl
theorem qhs:kG (!(!d[8]))=.ok d[8]:=rfl
theorem qht:kG (!(!d[9]))=.ok (.br d):=rfl
theorem qhu:kG (!(!(.br d)))=.ok (.br d):=rfl
theorem qhv:kG (!(!(.lk d)))=.ok d[8]:=rfl
theorem x_c:eC d ρ=.ok d[8]:=rfl
theorem xV:eOp g e f ρ=(e ρ).b λx=>(f ρ).b λy=>g x.dd y.dd:=rfl
theorem qhw:eUn g e ρ=(e ρ).b λx=>g x.dd:=rfl
theorem Qw:evs [] ρ=.ok []:=rfl
theorem Qx:evs (e::l) ρ=(e ρ).b λx=>(evs l ρ).b λxs=>.ok (x::xs):=rfl
theorem qhx:stAll []=.ok []:=rfl
theorem qhy:stAll (w::ws)=w.sto.b λd=>(stAll ws).b λds=>.ok (d::ds):=rfl
theorem Qy:jT []=.ok []:=rfl
theorem Qz:jT (w::ws)=w.argo.b λd=>(jT ws).b λds=>.ok (d::ds):=rfl
theorem qhz:jk l ρ=(evs l ρ).b λxs=>(stAll xs).b kH:=rfl
theorem qhA:js l ρ=(evs l ρ).b λxs=>(stAll xs).b Qu:=rfl
theorem QA:qi dn l ρ=(evs l ρ).b λxs=>(jT xs).b λys=>dn ys:=rfl
theorem x_B:eB g l ρ=(evs l ρ).b λxs=>g (xs.map En.dd):=rfl
theorem Yn:tE e ρ=(e ρ).b λx=>kf x.dd:=rfl
theorem qhB:jA t ρ=(t ρ).b λb=>.ok (not b):=rfl
theorem qhC:zo t u ρ=(t ρ).b (Qt u kfB ρ):=rfl
theorem qhD:tOr t u ρ=(t ρ).b (Qt ktB u ρ):=rfl
theorem qhE:wP e f ρ=(e ρ).b λx=>(isB x.dd).b (xU f kF ρ):=rfl
theorem qhF:eIf t e f ρ=(t ρ).b (xU e f ρ):=rfl
theorem qhG:isB (.bl c)=.ok c:=rfl
theorem qhH:kf (.bl c)=.ok c:=rfl
theorem qhI:kf (.lst c)=.ok (not c.isEmpty):=rfl
theorem xW:qJ it g a ρ=sOf (it ρ) λxs=>qC g a xs ρ:=rfl
theorem qhJ{i j:Int}:zI i[6] j[6]=.ok (i+j)[7]:=rfl
theorem qhK{i j:Int}:qX i[6] j[6]=.ok (i-j)[7]:=rfl
theorem qhL{i j:Int}:dLt i[6] j[6]=.ok (.bl (decide (i<j)))[8]:=rfl
theorem qhM{i j:Int}:dLe i[6] j[6]=.ok (.bl (decide (i<=j)))[8]:=rfl
theorem qhN{i j:Int}:dGt i[6] j[6]=.ok (.bl (decide (j<i)))[8]:=rfl
theorem qhO{i j:Int}:dEq i[6] j[6]=.ok (.bl (i==j))[8]:=rfl
theorem qhP{i j:Int}:dNe i[6] j[6]=.ok (.bl (not (i==j)))[8]:=rfl
theorem qhQ{i:Int}:jM i[6]=.ok (-i)[7]:=rfl
def yx{i j:Int}(h:0<j):vv i[6] j[6]=.ok (i%j)[7]:=by unfold vv;dsimp only;rw[if_pos h]
def QB{i j:Int}(h:0<j)(h2:j<1073741824):vK i[6] j[6]=.ok (i/j)[7]:=by unfold vK;dsimp only;rw[if_pos #[h,h2]]
def Zx{i j:Int}(h1:-1000000000000<j)(h2:j<1000000000000):jX i[6] j[6]=.ok (i*j)[7]:=by
 unfold jX;dsimp only;rw[if_pos];rw[Bool.or_eq_true];exact .inr (fits_iff.mpr (by rw[b64e];lia))
def yy{i j:Int}(h1:-1000000000000<i)(h2:i<1000000000000):jX i[6] j[6]=.ok (i*j)[7]:=by
 unfold jX;dsimp only;rw[if_pos];rw[Bool.or_eq_true];exact .inl (fits_iff.mpr (by rw[b64e];lia))
theorem qhR:k9 [.lst xs]=.ok (.lst xs)[9]:=rfl
theorem qhS:yi [.lst xs]=.ok (.tup xs)[8]:=rfl
theorem qhT{i j:Int}:kc [.int i,.int j]=.ok (if j<i then j else i)[7]:=rfl
theorem qhU{i j:Int}:xR [.int i,.int j]=.ok (if j>i then j else i)[7]:=rfl
theorem qhV{i:Int}:qc (.lst xs) i[6]=okD (ati xs i):=rfl
theorem qhW{i:Int}:qc (.tup xs) i[6]=okD (ati xs i):=rfl
def Yo:okD (ati (d::r) 0)=.ok d[8]:=by
 rw[show 0=((0:Nat):Int)from rfl,jK];rfl
def Yp{c d:D}{r:List D}:okD (ati (c::d::r) 1)=.ok d[8]:=by
 rw[show 1=((1:Nat):Int)from rfl,jK];rfl
def Yq{b c d:D}{r:List D}:okD (ati (b::c::d::r) 2)=.ok d[8]:=by
 rw[show 2=((2:Nat):Int)from rfl,jK];rfl
def Yr{a b c d:D}{r:List D}:okD (ati (a::b::c::d::r) 3)=.ok d[8]:=by
 rw[show 3=((3:Nat):Int)from rfl,jK];rfl
theorem qhX:okD ↑d=.ok d[8]:=rfl
theorem qhY:dIs .list (.lst n)=.ok (.bl true)[8]:=rfl
theorem qhZ:dIs .tuple (.tup n)=.ok (.bl true)[8]:=rfl
theorem qi0:zr ρ=.stuck:=rfl
theorem kJ:gV i d ρ=.ok (ρ.set i (!d[8])):=rfl
theorem qi1:eDK ρ=.ok (.dK [])[9]:=rfl
theorem qi2:eDT ρ=.ok (.dT [])[9]:=rfl
theorem xX:den n a ws=fin (a (ws.map some++List.replicate (n-ws[1]) none)):=rfl
theorem qi3:fin (.rt w)=.ok w:=rfl
def Zy(h:ρ[i]?=!(!(.lst ds)[8])):iV i ρ=.ok ds:=by unfold iV;rw[h];rfl
def Ys(h:ρ[i]?=!(!(.br (.lst ds)))):iV i ρ=.ok ds:=by unfold iV;rw[h];rfl
def kK{w:En}(h:ρ[i]?=!(!w))(h2:w.d=.lst ds)(z:((match w with|.od _=>true|.lk _=>true|_=>false)=false)["r"]):iVc i ρ=.ok ds:=by
 unfold iVc;rw[h];cases w<;>first|(cases z;done)|(cases h2;rfl)
def qaP{j:Int}(h:e ρ=.ok j[7])(c:fits b62 j=true):iR1 e ρ=.ok (zb 0 j.toNat):=by
 unfold iR1;rw[h,R.bind_ok]
 simp_all
def yz{n:Nat}(h:e ρ=.ok n[7])(z:n<1000000):iR1 e ρ=.ok (zb 0 n):=by
 rw[qaP h (fits_iff.mpr (by rw[b62e];lia)),fC]
def zz{i:Nat}(h:ρ[i]?=!(!(.lst xs)[9]))(z:xs[1]<sz)(h2:(e ρ).b En.sto=.ok d):qY i e ρ=.nx (ρ.set i (!(.lst (xs++[d]))[9])):=by
 unfold qY;have h2:(e ρ).bind En.st=.ok d:=h2;rw[h];rw[h2];unfold sOf;dsimp only;rw[if_pos z]
def Yt{kvs:List (Sum Int Str×D)}{i:Nat}{k:EF}{w:En}(h:ρ[i]?=!(!(.dK kvs)[9]))(h2:(e ρ).b En.sto=.ok d)(z:k ρ=.ok w)(B:zn w.d=!key)(O:kvs[1]<sz) :
  vX i k e ρ=.nx (ρ.set i (!(.dK (qS key d kvs))[9])):=by
 have h2:(e ρ).bind En.st=.ok d:=h2;unfold vX;rw[h];rw[h2];unfold sOf;rw[z];dsimp only;rw[B];dsimp only;rw[if_pos O]
def QC(o:Option D)(w:En):R En:=match o with|some d=>.ok d[8]|none=>.ok w
def qaQ{dd k x:EF}{wd wk wx:En}(h1:dd ρ=.ok wd)(h2:wd.d=.dK kvs)(z:k ρ=.ok wk)(B:zn wk.d=!q)(O:x ρ=.ok wx) :
  xQ dd k x ρ=QC (look q kvs) wx:=by
 unfold xQ;rw[h1,R.bind_ok];cases wd<;>first|(subst h2;dsimp only;rw[z,O,R.bind_ok,B];rfl)|(cases h2;done)
theorem Zz:∀ n d,qI n d=true->deq d d=true
 | _,.non,_=>rfl
 | _,.bl _,_=>by simp[deq]
 | _,.int _,_=>by simp[deq]
 | _,.str _,_=>by simp[deq]
 | 0,.tup _,h=>by simp[qI]at h
 | 0,.lst _,h=>by simp[qI]at h
 | n+1,.tup xs,h=>by
  have k:∀ ys,ys.all (qI n)=true->deqs ys ys=true:=by
   intro ys
   induction ys with
   | nil=>intro _;rfl
   | cons y ys ih =>
    intro hy;rw[pA,hE]at hy;show(deq y y&&deqs ys ys)=true;rw[Zz n y hy.1,ih hy.2];rfl
  exact k xs h
 | n+1,.lst xs,h=>by
  have k:∀ ys,ys.all (qI n)=true->deqs ys ys=true:=by
   intro ys
   induction ys with
   | nil=>intro _;rfl
   | cons y ys ih =>
    intro hy;rw[pA,hE]at hy;show(deq y y&&deqs ys ys)=true;rw[Zz n y hy.1,ih hy.2];rfl
  exact k xs h
 | n,.dK _,h=>by cases n<;>simp[qI]at h
 | n,.dT _,h=>by cases n<;>simp[qI]at h
 | n,.xc _ _,h=>by cases n<;>simp[qI]at h
def Yu(h:eqok d=true):dNe d d=.ok (.bl false)[8]:=by
 unfold dNe;rw[h,Zz 8 d h];rfl
end
section
variable{prog:af}{w:World}{A:ag}{E:aa->ab->Prop}{s:ab}{kd:SortKind}{rk:aa->Int}{ini:Array aj}
def av(rk:aa->Int)(xs:Array aj)(i:Nat):Int:=match xs[i]? with
 | some p=>rk p.1
 | none=>0
def Yv{a d:Nat}(h1:a<xs.size)(h2:d<=a)(k) :
  av rk (bubble xs a d) k=if k=a-d then av rk xs a else if a-d<k/\k<=a then av rk xs (k-1)else av rk xs k:=by
 have e:=getElem?_bubble h1 d h2 k;by_cases c1:k=a-d
 .rw[if_pos c1]at e ⊢;unfold av;rw[e]
 rw[if_neg c1]at e ⊢;by_cases c2:a-d<k/\k<=a
 .rw[if_pos c2]at e ⊢;unfold av;rw[e]
 rw[if_neg c2]at e ⊢;unfold av;rw[e]
def Yw{i j:Nat}(h:j<=xs.size)(k):av rk (mirror xs i j ((j-i)/2)) k=if i<=k/\k<j then av rk xs (i+j-1-k)else av rk xs k:=by
 have e:=getElem?_mirror_all (i:=i) h k;by_cases c:i<=k/\k<j
 .rw[if_pos c]at e ⊢;unfold av;rw[e]
 rw[if_neg c]at e ⊢;unfold av;rw[e]
structure Tells(prog:Program)(w:World)(A:Around)(s:Shared)(kd:SortKind)(rk:Value->Int)(ini:Array Keyed):Prop where
 lt:∀ p∈ini[2],∀ q∈ini[2],∀(E:Value->Shared->Prop) (Q:Bool->Shared->Prop),Q (decide (rk p.1<rk q.1)) s->wpAny (model prog w) A (keyLt' kd p.1 q.1) Q E s
 nd:(ini[2].map λp=>rk p.1).Nodup
end
theorem ZB:∀ a,HT.lexLt a a=false
 | []=>rfl
 | x::r=>by rw[HT.lexLt_cons,if_pos rfl];exact ZB r
theorem xY:∀{a b c},HT.lexLt a b=true->HT.lexLt b c=true->HT.lexLt a c=true
 | [],[],_,h,_=>by simp[HT.lexLt_nil_nil]at h
 | [],_::_,[],_,h=>by simp[HT.lexLt_cons_nil]at h
 | [],_::_,_::_,_,_=>rfl
 | _::_,[],_,h,_=>by simp[HT.lexLt_cons_nil]at h
 | _::_,_::_,[],_,h=>by simp[HT.lexLt_cons_nil]at h
 | x::a,y::b,z::c,h,k=>by
  rw[HT.lexLt_cons]at h k ⊢;by_cases e1:x=y
  .subst e1;rw[if_pos rfl]at h;by_cases e2:x=z
   .subst e2;rw[if_pos rfl]at k ⊢;exact xY h k
   rw[if_neg e2]at k ⊢;exact k
  rw[if_neg e1]at h
  grind
theorem xZ:∀{a b},HT.lexLt a b=false->HT.lexLt b a=false->a=b
 | [],[],_,_=>rfl
 | [],_::_,h,_=>by simp[HT.lexLt_nil_cons]at h
 | _::_,[],_,h=>by simp[HT.lexLt_nil_cons]at h
 | x::a,y::b,h,k=>by
  rw[HT.lexLt_cons]at h k;by_cases e:x=y
  .subst e;rw[if_pos rfl]at h k;rw[xZ h k]
  rw[if_neg e]at h;rw[if_neg (t9 e)]at k;simp at h k;lia
def vC(a b:List Int):Bool:=not (HT.lexLt b a)
def qaR(a b c)(h:vC a b=true)(k:vC b c=true):vC a c=true:=by
 unfold vC at *;cases e:HT.lexLt c a with
 | false=>rfl
 | true =>
  simp at h k;cases e2:HT.lexLt a b with
  | true=>rw[xY e e2]at k;cases k
  | false=>rw[xZ e2 h,k]at e;cases e
def qaS(a b):(vC a b||vC b a)=true:=by
 unfold vC;cases e:HT.lexLt b a with
 | false=>rfl
 | true =>
  cases e2:HT.lexLt a b with
  | false=>rfl
  | true=>have:=xY e e2;rw[ZB]at this;cases this
def jh(rs:List (List Int)):List (List Int):=rs.mergeSort vC
def wG(rs):(jh rs).Perm rs:=List.mergeSort_perm rs vC
def QD(rs):(jh rs).Pairwise λa b=>HT.lexLt b a=false:=by
 exact(List.pairwise_mergeSort qaR qaS rs).imp λ{a b} q=>by simpa[vC]using q
theorem ZC:∀{xs ys:List (List Int)},xs.Perm ys->xs.Pairwise (λa b=>HT.lexLt b a=false)->ys.Pairwise (λa b=>HT.lexLt b a=false)->xs=ys
 | [],ys,p,_,_=>by rw[List.nil_perm.mp p]
 | x::xs,[],p,_,_=>by have:=p.length_eq;simp at this
 | x::xs,y::ys,p,hx,hy=>by
  rw[fy]at hx hy;have e:x=y:=by
   rcases gE.mp (p.mem_iff.mp tj)with q|q
   .exact q
   rcases gE.mp (p.mem_iff.mpr tj)with q2|q2
   .exact q2.symm
   exact xZ (hy.1 x q) (hx.1 y q2)
  subst e;rw[ZC (List.Perm.cons_inv p) hx.2 hy.2]
def vh(rs:List (List Int))(r:List Int):Int:=(rs.countP λq=>HT.lexLt q r:Nat)
def QE(z:a∈rs):(vh rs a<vh rs b)↔HT.lexLt a b=true:=by
 unfold vh;constructor
 .intro h;cases e:HT.lexLt a b with
  | true=>rfl
  | false =>
   have:(rs.countP λq=>HT.lexLt q b)<=rs.countP λq=>HT.lexLt q a:=List.countP_mono_left λq _ hq=>by
    cases e2:HT.lexLt b a with
    | true=>exact xY hq e2
    | false=>rw[xZ e e2];exact hq
   lia
 intro h;have:(rs.countP λq=>HT.lexLt q a)<rs.countP λq=>HT.lexLt q b:=by
  obtain⟨l,r,rfl⟩:=List.append_of_mem z;have m:∀ l:List (List Int),(l.countP λq=>HT.lexLt q a)<=l.countP λq=>HT.lexLt q b:=λl=>List.countP_mono_left λq _ hq=>xY hq h
  have m1:=m l;have m2:=m r;rw[pS,pS,List.countP_cons_of_neg (by simp[ZB]),List.countP_cons_of_pos (p:=λq=>HT.lexLt q b) h]
  lia
 lia
section
variable{prog:af}{w:World}{A:ag}{E:aa->ab->Prop}{s:ab}
def qaT(f){a b:Int}{Q:Bool->ab->Prop}(h:Q (decide (a<b)) s):wpAny (model prog w) A (oneLt' f (.int a t) (.int b u)) Q E s:=by
 cases f with
 | true=>exact oneLt_int h
 | false =>
  exact g6 (wpAny_richCompare_same (bj s a t) (bj s b u) slot_int_lt (call_int_lt #[(λz=>nomatch z),pF h]))
theorem Yx(f){Q:Option Bool×Unit->ab->Prop}:∀{xs ys} {ns ms} k,IntsAre xs ns->IntsAre ys ms ->
  (∀ r:Option Bool×Unit,(match r.1 with|some b=>b=HT.lexLt ns ms|none=>HT.lexLt ns ms=decide (xs[1]<ys[1]))->Q r s) ->
  wpAny (model prog w) A (forIn ((xs.zip ys).zipIdx k) (none,()) λx _=>match x with
   | ((p,q),i)=>do
    let e <- eqBool p q
    if (not e)=true then do
     let l <- oneLt' (f&&i==0) p q
     pure (ForInStep.done (!l,()))
    else pure (ForInStep.yield (none,()))) Q E s
 | _,_,_,_,k,.nil,.nil,h=>gu (h (none,()) (by rfl))
 | _,_,_,_,k,.nil,.cons _ _ _,h=>gu (h (none,()) (by simp[HT.lexLt_nil_cons]))
 | _,_,_,_,k,.cons _ _ _,.nil,h=>gu (h (none,()) (by simp[HT.lexLt_cons_nil]))
 | _,_,_,_,k,.cons a t hx,.cons b u hy,h=>by
  rw[bC,b7,bv];refine g6 (g6 (wpAny_eqBool_int ?_));by_cases c:a=b
  .subst c;rw[fN];refine gu (Yx f (k+1) hx hy λr hr=>h r ?_)
   obtain⟨r1,_⟩:=r;cases r1 with
   | none=>dsimp only at hr ⊢;rw[HT.lexLt_cons,hr];simp
   | some v=>dsimp only at hr ⊢;rw[HT.lexLt_cons,if_pos rfl];exact hr
  have:(a==b)=false:=by simpa using c
  rw[this];refine g6 (qaT _ (gu (gu (h (!(decide (a<b)),()) ?_))));rw[HT.lexLt_cons,if_neg c]
def qaU{z ms:List Int}{Q:Bool->ab->Prop}(B:IsTup s.heap a xs.toArray)(O:IsTup s.heap b ys.toArray)(U:IntsAre xs z)(Y:IntsAre ys ms)(h:Q (HT.lexLt z ms) s) :
  wpAny (model prog w) A (keyLt' (tuples' true) (.ref a) (.ref b)) Q E s:=by
 obtain⟨oa,ea,ca,na,da⟩:=B;obtain⟨ob,eb,cb,nb,db⟩:=O;refine g6 (listItems_at ea da ?_);refine g6 (listItems_at eb db ?_);refine g6 (Yx true 0 U Y λr hr=>?_)
 obtain⟨r1,_⟩:=r;cases r1 with
 | some v=>dsimp only at hr ⊢;subst hr;exact gu h
 | none=>dsimp only at hr ⊢;rw[hr]at h;simpa using gu h
def qQ(h:Heap):aa->List Int
 | .ref a=>(match h.get? a with
  | some o=>(match o.data with|.seq its _=>numsOf its[2]|_=>[])
  | none=>[])
 | _=>[]
def Rows(h:Heap)(vs:List aa):Prop:=∀ v∈vs,∃ a its ns,v=.ref a/\IsTup h a (its:List aa).toArray/\IntsAre its (ns:List Int)/\ns≠[]
def wH(p:IsTup h a its.toArray)(q:IntsAre its ns):qQ h (.ref a)=ns:=by
 obtain⟨o,e,c,n,d⟩:=p;unfold qQ;dsimp only;rw[e];dsimp only;rw[d];exact q.numsOf
def Rows.stay{h h':Heap}(R:Rows h vs)(k:∀ b o,h.get? b=!o->h'.get? b=!o):Rows h' vs/\∀ v∈vs,qQ h' v=qQ h v:=by
 have go:∀ v∈vs,∃ a its ns,v=.ref a/\IsTup h a its.toArray/\IsTup h' a its.toArray/\IntsAre its ns/\ns≠[]:=λv hv=>by
  obtain⟨a,its,ns,e,p,q,n⟩:=R v hv;obtain⟨o,e2,c⟩:=p;exact#[a,its,ns,e,#[o,e2,c],#[o,k _ _ e2,c],q,n]
 refine#[λv hv=>?_,λv hv=>?_]
 .obtain⟨a,its,ns,e,_,p,q,n⟩:=go v hv;exact#[a,its,ns,e,p,q,n]
 obtain⟨a,its,ns,rfl,p,p',q,n⟩:=go v hv;rw[wH p q,wH p' q]
theorem Yy:∀{vs} {Q},Rows s.heap vs->(∀ fs:List aa,fs[1]=vs[1]->(∀ f∈fs,∃ n t,f=.int n t)->Q (fs.map some) s)->wpAny (model prog w) A (vs.mapM firstOfTuple') Q E s
 | [],Q,_,h=>by rw[List.mapM_nil];exact gu (h [] rfl λf hf=>by simp at hf)
 | v::vs,Q,R,h=>by
  obtain⟨a,its,ns,rfl,p,q,n⟩:=R v tj;obtain⟨o,e,c,m,d⟩:=p;rw[List.mapM_cons];have first:∃ x t r,its=.int x t::r:=by
   cases q with
   | nil=>exact absurd rfl n
   | cons x t r=>exact#[x,t,_,rfl]
  obtain⟨x,t,r,rfl⟩:=first
  refine g6 (g6 (bD #[o,e,c] ?_));refine g6 (listItems_at e d (gu ?_));refine g6 (Yy (λv hv=>R v (gj _ hv)) λfs hl hf=>gu ?_)
  have:=h (.int x t::fs) (by simp[hl]) λf z=>by
   grind
  simpa using this
theorem Yz:∀{fs:List aa},(∀ f∈fs,∃ n t,f=.int n t)->fs.mapM typeOf=pure (fs.map λ_=>Value.type "int")
 | [],_=>by simp
 | f::fs,h=>by
  obtain⟨n,t,rfl⟩:=h f tj;rw[List.mapM_cons,Yz λf hf=>h f (gj _ hf)]
  rfl
def qaV(R:Rows s.heap vs)(z:vs≠[])(h:Q (tuples' true) s):wpAny (model prog w) A (keyKind' vs.toArray) Q E s:=by
 rw[keyKind'_eq,List.mapM_toArray,map_eq_pure_bind,bind_assoc];refine g6 (Yy R λfs hl hf=>?_)
 simp only[pure_bind];rw[if_pos "s"]
 refine g6 (pG ?_);have e:(fs.map some).toArray.filterMap id=fs.toArray:=by simp
 rw[e,oneTypeOnly'_eq,List.mapM_toArray,Yz hf];simp only[map_pure,pure_bind];cases fs with
 | nil=>simp at hl;exact absurd (f9.mp hl.symm) z
 | cons f fs =>
  have h0:(List.map (λ_=>Value.type "int") (f::fs)).toArray[0]?=!(Value.type "int"):=by simp
  have ha:((List.map (λ_=>Value.type "int") (f::fs)).toArray.all λx=>x==Value.type "int")=true:=by
   simp only[List.all_toArray,List.all_map,pO];intro _ _;rfl
  rw[h0];simp only[ha,d8,pure_bind];exact gu h
end
def qM(r:List Int):D:=.tup (r.map .int)
def vE:List D->Option (List (List Int))
 | []=>↑[]
 | .tup xs::r=>(match jR xs,vE r with|some a,!b=>↑(a::b)|_,_=>none)
 | _::_=>none
def toV:aa->V
 | .ref a=>.ref a
 | _=>.non
theorem ZD{s:ab}(I:"I" H s)(l:Le F H):∀{ds} {rs} {vs} {us},vE ds=!rs->Reps (kx X) F vs ds->Vals vs us ->
  us.map (qQ s.heap)=rs/\∀ u∈us,∃ a its ns,u=.ref a/\IsTup s.heap a its.toArray/\IntsAre its ns/\Rep (kx X) F (.ref a) (qM ns)/\ns∈rs
 | [],rs,vs,us,h,r,q=>by
  cases h;cases (r);cases q;exact#[rfl,λu hu=>by simp at hu]
 | d::ds,rs,vs,us,h,r,q=>by
  obtain⟨v,vr,rfl,r1,r2⟩:=r;cases d<;>first|(cases h;done)|skip
  rename_i xs;unfold vE at h;cases e1:jR xs with
  | none=>rw[e1]at h;cases h
  | some ns =>
   cases e2:vE ds with
   | none=>rw[e1,e2]at h;cases h
   | some rs' =>
    rw[e1,e2]at h;cases h;cases q with
    | cons q1 q2 =>
     obtain⟨m,k⟩:=ZD I l e2 r2 q2;obtain⟨a,ws,rfl,hq,B⟩:=id r1;cases (q1);have ev:=yu e1 B;subst ev;obtain⟨its,rv,ht,_⟩:=I.tuple (SqT.le l hq);have hi:=yZ rv;have z:Rep (kx X) F (.ref a) (qM ns):=by
      exact#[a,_,rfl,hq,(Zf ns)]
     refine#[by rw[gN,m,wH ht hi],λu hu=>?_]
     rcases gE.mp hu with rfl|hu
     .exact#[a,its,ns,rfl,ht,hi,z,tj]
     obtain⟨a',its',O,e,p1,p2,p3,p4⟩:=k u hu;exact#[a',its',O,e,p1,p2,p3,gj _ p4]
section
variable{X:Cx}{F0 H0:Hp}
end
def vj{α:Type}(xs:List α)(lo hi:Option Int):List α:=(xs.drop (HT.sIx xs[1] 0 lo)).take (HT.sIx xs[1] xs[1] hi-HT.sIx xs[1] 0 lo)
def dSl:D->Option Int->Option Int->R En
 | .lst xs,lo,hi=>.ok (.lst (vj xs lo hi))[9]
 | .tup xs,lo,hi=>if HT.sIx xs[1] 0 lo=0/\HT.sIx xs[1] xs[1] hi=xs[1] then .stuck else .ok (.tup (vj xs lo hi))[8]
 | _,_,_=>.stuck
abbrev OF:=Rho->R (Option Int)
def oNo:OF:=λ_=>.ok none
def isI:D->R (Option Int)
 | .int i=>.ok !i
 | _=>.stuck
def oE(e:EF):OF:=λρ=>(e ρ).bind λw=>isI w.d
def eSl(a:EF)(lo hi:OF):EF:=λρ=>(a ρ).bind λx=>(lo ρ).bind λl=>(hi ρ).bind λu=>dSl x.d l u
theorem Reps.take:∀ n {ds} {vs},Reps κ F vs ds->Reps κ F (vs.take n) (ds.take n)
 | 0,_,_,_=>rfl
 | n+1,[],_,h=>by cases (h);rfl
 | n+1,d::ds,_,h=>by
  obtain⟨v,r,rfl,h1,h2⟩:=h;exact#[v,r.take n,rfl,h1,Reps.take n h2]
theorem Reps.drop:∀ n {ds} {vs},Reps κ F vs ds->Reps κ F (vs.drop n) (ds.drop n)
 | 0,_,_,h=>h
 | n+1,[],_,h=>by cases (h);rfl
 | n+1,d::ds,_,h=>by
  obtain⟨v,r,rfl,h1,h2⟩:=h;exact Reps.drop n h2
def Reps.cut(h:Reps κ F vs ds)(lo hi):Reps κ F (vU vs lo hi) (vj ds lo hi):=by
 unfold vU;rw[Reps.length h];exact Reps.take _ (Reps.drop _ h)
section
variable{X:Cx}{F0 H0:Hp}{pos p2:Pos}
def SO(X:Cx)(F0 H0:Hp)(e:Option Expr)(f:OF):Prop :=
 ∃ t,PO X e t/\∀(σ:St) (F H:Hp) (ρ:Rho) (Q:Option Int->Hp->Prop),StOk (kx X) F0 H0 F H ρ σ->KE (XP X F0 H0) (f ρ) (λo=>∀ F' H',Gr F H F' H'->Q o H')->t σ H Q
def u8:SO X F0 H0 none oNo:=#[_,Th,λσ F H ρ Q S h=>h F H (Gr.refl S.s)]
def yA(z:"S" e f):SO X F0 H0 ↑e (oE f) :=
 #[_,Ti (je),λσ F H ρ Q S h=>z.sem S ((KE.bind h).imp λw k v F1 H1 g q=>by
  have r:=Vok.rd q
  revert k r
  generalize w.d=d;intro k r;cases d<;>first|exact k.elim|skip
  exact#[_,RdV.int r,k F1 H1 g])]
def YA{lo hi:Option Expr}(B:"S" e f)(O:SO X F0 H0 lo fl)(U:SO X F0 H0 hi fh):"S" (.Subscript e (.Slice lo hi none p2) pos) (eSl f fl fh):=by
 intro pins s σ F H ρ Q S I h;obtain⟨tl,pl,kl⟩:=O;obtain⟨th,ph,kh⟩:=U;refine v9 (WN (SlR.or WR WP) (je) pl ph pins s σ H (λv H'=>∀ u s',RelV v u->"I" H' s'->Q u s') I ?_)
 refine B.sem S ((KE.bind h).imp λw h1 v F1 H1 g1 q1=>?_)
 refine kl σ F1 H1 ρ _ (S.grow g1) ((KE.bind h1).imp λo1 h2 F2 H2 g2=>?_)
 refine kh σ F2 H2 ρ _ (S.grow (g1.trans g2)) ((KE.bind h2).imp λo2 h3 F3 H3 g3=>?_)
 have r:=RdV.gr (g2.trans g3) (Vok.rd q1);have z:=wQ (g1.trans (g2.trans g3)) h3
 revert z r
 generalize w.d=d;intro r z;cases d<;>first|exact z.elim|skip
 .rename_i ds;obtain⟨a,vs,rfl,hq,_,rs⟩:=RdV.tup g3.s r;unfold dSl at z;dsimp only at z;by_cases c:HT.sIx ds[1] 0 o1=0/\HT.sIx ds[1] ds[1] o2=ds[1]
  .rw[if_pos c]at z;exact z.elim
  rw[if_neg c]at z;refine .inr #[a,vs,rfl,hq,by rw[Reps.length rs];exact c,λp hp=>?_]
  have gn:=Gr.newF (o:=.tup (vU vs o1 o2)) g3.s hp;exact z (.ref p) _ _ gn #[p,_,rfl,.inl (.inl qH),Reps.le gn.f _ (Reps.cut rs o1 o2)]
 rename_i ds;obtain⟨a,vs,rfl,hq,rs⟩:=RdV.lst g3.s r;refine .inl #[a,vs,rfl,hq,λp hp=>?_]
 exact z (.ref p) _ _ (Gr.new g3.s hp) #[p,_,rfl,hp,Le.none g3.s hp,qH,Reps.cut rs o1 o2]
def kL(i:Nat)(k e:EF):SF:=λρ=>match ρ[i]? with
 | some (!(.lst xs)[9])=>sOf ((e ρ).bind En.st) λd=>sOf ((k ρ).bind λq=>isI q.d) λj=>match ixn xs[1] (j.getD 0)with
  | some n=>.nx (ρ.set i (!(.lst (xs.set n d))[9]))
  | none=>.stuck
 | _=>.stuck
theorem Reps.set(h:Rep κ F v d):∀ n {ds} {vs},Reps κ F vs ds->Reps κ F (vs.set n v) (ds.set n d)
 | _,[],_,h2=>by cases (h2);rfl
 | 0,_::ds,_,h2=>by
  obtain⟨u,r,rfl,h3,h4⟩:=h2;exact#[v,r,rfl,h,h4]
 | n+1,_::ds,_,h2=>by
  obtain⟨u,r,rfl,h3,h4⟩:=h2;exact#[u,r.set n v,rfl,h3,Reps.set h n h4]
def qaW(i)(z:"S" k fk)(B:"S" e fe)(O:(Nm X i x)["t"])
  (U:∀ v,assign (.Subscript (.Name x np) k pos') X.env v=(do
   let ov <- holding [v] (eval (.Name x np) X.env);let iv <- holding [v,ov] (eval k X.env);standAt pos';holding [v,ov,iv] (setItem ov iv v);release [v,ov,iv] []):=by intro _;rfl)
  (Y:(swapsWithSole [.Subscript (.Name x np) k pos'] e pos.line X.env=pure false)["r"]) (Z:(swappedStores [.Subscript (.Name x np) k pos'] e X.env=pure none)["r"])
  (h1:((assignEach [.Subscript (.Name x np) k pos'] X.env).map (·.2)=[assign (.Subscript (.Name x np) k pos') X.env])["r"]) :
  SS X F0 H0 (.Assign [.Subscript (.Name x np) k pos'] e pos) (kL i fk fe):=by
 intro pins s σ F H ρ D S I h;unfold kL at h;cases ew:ρ[i]? with
 | none=>rw[ew]at h;exact h.elim
 | some w =>
  rw[ew]at h;cases w with
  | none=>exact h.elim
  | some w =>
   cases w with
   | fz d=>exact h.elim
   | br d=>exact h.elim
   | lk d=>exact h.elim
   | od d=>exact h.elim
   | ow d =>
    cases d<;>first|exact h.elim|skip
    rename_i ds;have h:=KE.bind (PostS.of h);obtain⟨v,e1,a,o,rfl,h0,hf,hh,ro⟩:=S.val i _ ew;cases o<;>first|exact ro.elim|skip
    rename_i vs;refine Gv (je) (Gs (pos:=pos') (pvN (pos:=np) O) (je (e:=k)) Tw U) Y Z h1 pins s σ H D I (B.sem S (h.imp λw k1 y F1 H1 g1 q1=>?_))
    cases es:w.st with
    | exc x=>rw[es]at k1;exact k1.elim
    | stuck=>rw[es]at k1;exact k1.elim
    | ok d =>
     rw[es]at k1;have ry:=Vok.st S.s g1 q1 es;obtain⟨g2,_⟩:=v8 S.s g1;have S2:=S.grow g2;refine#[_,e1,z.sem S2 ((KE.bind (PostS.of (show PostS X F0 H0 F D _ from k1))).imp λwk k2 y2 F3 H3 g3 q3=>?_)]
     have r:=Vok.rd q3
     revert k2 r
     generalize wk.d=dk;intro k2 r;cases dk<;>first|exact k2.elim|skip
     rename_i j;have k2:PostS X F0 H0 F D (match ixn ds[1] j with|some n=>.nx (ρ.set i (!(.lst (ds.set n d))[9]))|none=>.stuck):=k2
     cases ej:ixn ds[1] j with
     | none=>rw[ej]at k2;exact k2.elim
     | some n =>
      rw[ej]at k2;refine#[a,vs,j,n,rfl,RdV.int r,g3.h _ _ (g1.h _ _ hh),by rw[Reps.length ro];exact ej,?_]
      refine k2 σ _ _ (Le.trans g2.f g3.f) ((S2.grow g3).mut ew e1 (o:=.lst (vs.set n y)) ?_);exact Reps.set (Rep.le g3.f _ ry) n (Reps.le (Le.trans g2.f g3.f) _ ro)
def qz:D->D->R En
 | .int i,.int j=>okI (i+j)
 | .lst xs,.lst ys=>if xs[1]+ys[1]<=sz then .ok (.lst (xs++ys))[9]else .stuck
 | .tup xs,.tup ys=>if xs[1]+ys[1]<=sz/\xs≠[]/\ys≠[]then .ok (.tup (xs++ys))[8]else .stuck
 | _,_=>.stuck
def qT:OpD X (binaryOp .Add) qz:=by
 intro pins s σ F H x y v u dx dy Q I l rx ry qx qy w;cases dx<;>first|exact w.elim|skip
 .cases dy<;>first|exact w.elim|skip
  exact qat pins s σ F H x y v u _ _ Q I l rx ry qx qy w
 .rename_i xs;cases dy<;>first|exact w.elim|skip
  rename_i ys;unfold qz at w;dsimp only at w;by_cases c:xs[1]+ys[1]<=sz/\xs≠[]/\ys≠[]
  .rw[if_pos c]at w;obtain⟨a,vs,rfl,hq,_,rs⟩:=RdV.tup l qx;obtain⟨b,us,rfl,U,_,O⟩:=RdV.tup l qy;have n1:vs≠[]:=λz=>by subst z;have:=Reps.length rs;simp at this;exact c.2.1 (f9.mp this.symm)
   have n2:us≠[]:=λz=>by subst z;have:=Reps.length O;simp at this;exact c.2.2 (f9.mp this.symm)
   refine Tl pins s σ H _ _ v u Q I rx ry #[a,b,vs,us,rfl,rfl,hq,U,n1,by rw[Reps.length rs,Reps.length O,<- zQ];exact c.1,λz=>absurd z n2,λ_ p hp=>?_]
   have gn:=Gr.newF (o:=.tup (vs++us)) l hp;exact w (.ref p) _ _ gn #[p,_,rfl,.inl (.inl qH),Reps.le gn.f _ (Reps.append rs O)]
  rw[if_neg c]at w;exact w.elim
 rename_i xs;cases dy<;>first|exact w.elim|skip
 rename_i ys;unfold qz at w;dsimp only at w;by_cases c:xs[1]+ys[1]<=sz
 .rw[if_pos c]at w;obtain⟨a,vs,rfl,hq,rs⟩:=RdV.lst l qx;obtain⟨b,us,rfl,U,O⟩:=RdV.lst l qy;cases (show v=Value.ref a from rx)
  cases (show u=Value.ref b from ry)
  obtain⟨its,rv,pl,hz⟩:=I.list hq;obtain⟨B,Y,pl2,hz2⟩:=I.list U;obtain⟨⟨cls,dd,data,sl⟩,ho,hc,n,hd⟩:=pl.isList;obtain⟨⟨h4,dd2,h3,sl2⟩,Z,hc2,n2,hd2⟩:=pl2.isList;subst hc hd hc2 hd2;have hl:its[1]+B[1]<=sizeLine:=by rw[<- rv[1],<- Y[1],Reps.length rs,Reps.length O,<- zQ];exact c
  refine concat_meets #[_,ho,rfl] #[_,Z,rfl] noFill_list_add seq_list_add PySem.F.slot_list_add PySem.F.entry_list_add (PySem.F.args_list_add_2 _ _) (list_addW a b its.toArray B.toArray n n2 dd dd2 sl sl2 hl[""]) #[ho,Z,?_]
  have ea:its.toArray++B.toArray=(its++B).toArray:=by simp
  rw[ea];have hp:H s[0]=none:=I.hok.fresh (gy _);refine#[.ref s[0],upd H s[0] (.lst (vs++us)),I.laid (t':=s.toks) (λb o q=>gq _ q) (gy _) #[?_,its++B,0,rv.append Y,gM _ rfl],rfl,?_]
  .rw[gG,rv[1],Y[1]];exact hl
  exact w _ _ _ (Gr.new l hp) #[_,_,rfl,hp,Le.none l hp,qH,Reps.append rs O]
 rw[if_neg c]at w;exact w.elim
def QF:D->D->R En
 | x,.lst xs=>if eqok x&&xs.all (qI 8)then okB (not (din x xs))else .stuck
 | x,.tup xs=>if eqok x&&xs.all (qI 8)then okB (not (din x xs))else .stuck
 | _,_=>.stuck
def qaX(h:xs.all (qI n)=true):PyData.canLayAll0 (jY xs)=true/\PyData.depthAll (jY xs)<=n:=by
 obtain⟨a,b⟩:=wR (n+1) (.lst xs) h;exact#[a,Nat.le_of_succ_le_succ b]
def qaY(z:X.A.units+10<cLine):OpD X (compareOp .NotIn) QF:=by
 intro pins s σ F H x y v u dx dy Q I l rx ry qx qy w;cases dy<;>first|exact w.elim|skip
 all_goals
  rename_i xs;unfold QF at w;dsimp only at w;by_cases c:(eqok dx&&xs.all (qI 8))=true
  .rw[if_pos c]at w;rw[hE]at c;obtain⟨as,ha⟩:=ko I l c.1 qx rx;obtain⟨bs,hb⟩:=ko (n:=9) I l (by exact c.2) qy ry
   obtain⟨l1,l2⟩:=qaX c.2;obtain⟨k1,k2⟩:=wR 8 dx c.1
   first
    | refine SeqAt.notIn_list_reads hb ha l1 k1 "" ?_
    | refine SeqAt.notIn_tuple_reads hb ha l1 k1 "" ?_
   rw[WY dx 8 8 c.1 xs c.2];exact#[.bl _,H,I,rfl,jj l w rfl]
  rw[if_neg c]at w;exact w.elim
variable{prog:af}{w:World}{A:ag}{E:aa->ab->Prop}{s:ab}
def qaZ(d)(hd:(d==sysModules)=false) :
  MeetsIn prog w (Builtin.«dict.__len__» #[[.ref d],[]]) (λ_ R s=>∃ o es ep,s.heap.get? d=!o/\o.data=.dict es ep/\R (.ok (.ret (.int es.size s.toks))) {s with toks:=s.toks+1}) :=
 .of_wp λA R s #[o,es,ep,ho,hdat,h]=>by
  refine g6 (m:=dictSize d) (g6 (dN ho hdat (gu ?_)));refine g6 (wpAny_pendingCount_other hd (wpAny_ret_mkInt ?_))
  simp_all
def YB(hd:(d==sysModules)=false)(B:s.heap.get? d=!o)(O:o.ExactDict)(z:o.data=.dict es ep)(hz:es.size<=sizeLine)
  (h:Q (.int es.size (s.toks+1)) {s with toks:=s.toks+1+1}):wpAny (model prog w) A (call (.builtin "len") [.ref d]) Q E s:=by
 rw[pp]at hz;have ty:s.TypeIs (.ref d) "dict":=#[o,B,O.1];refine Calls.call_function_entry kind_len plain_len entry_len (args_len1 _) ?_;refine g6 (m:=callSpecial? (.ref d) (Str.ofString "__len__")) (f8 ty PySem.F.slot_dict_len
  (dU PySem.F.slot_dict_len ty PySem.F.entry_dict_len (PySem.F.args_dict_len_1 _) (qaZ d hd) #[o,es,ep,B,z,?_]))
 have c2:¬ ((es.size):Int)≥2 ^ 63:=""
 show wpAny _ _ (if ((es.size):Int)≥2 ^ 63 then _ else _) _ _ _
 rw[if_neg c2];exact g6 (wpAny_mkInt (gu #[_,rfl,h]))
end
def qA:List D->R En
 | [.lst xs]=>okI xs[1]
 | [.tup xs]=>okI xs[1]
 | [.dK kvs]=>if kvs[1]<=sz then okI kvs[1] else .stuck
 | [.dT kvs]=>okI kvs[1]
 | _=>.stuck
theorem RepT.length:∀{kds} {kvs},RepT κ F kvs kds->kvs[1]=kds[1]
 | [],_,h=>by cases (h);rfl
 | (q,d)::r,_,h=>by
  obtain⟨v,kr,rfl,h1,h2⟩:=h;simp[RepT.length h2]
theorem RdV.dT{F H:Hp}{v:V}{ds:List (List (Sum Int Str)×D)}(s:Le F H)(h:RdV κ F H v (.dT ds)):∃ a kvs,v=.ref a/\Rd H a (.dT kvs)/\RepT κ F kvs ds:=by
 rcases h with⟨a,vs,e,q,r⟩|⟨a,o,e,e2,r⟩
 .exact#[a,vs,e,Rd.le s q,r]
 cases o with
 | dT vs=>exact#[a,vs,e,.inl e2,r]
 | _=>exact r.elim
section
variable{X:Cx}{F0 H0:Hp}
def jq:zF X (.builtin "len") qA:=by
 intro pins s σ F H xs us ds Q I l rx qx w;cases qx with
 | nil=>exact w.elim
 | @cons x d xs ds q1 q2 =>
  cases q2 with
  | cons _ _=>cases d<;>exact w.elim
  | nil =>
   cases d<;>first|exact w.elim|skip
   .exact Y1 pins s σ F H _ _ [.tup _] Q I l rx (.cons q1 .nil) w
   .exact Y1 pins s σ F H _ _ [.lst _] Q I l rx (.cons q1 .nil) w
   .rename_i kds;obtain⟨p,kvs,rfl,hq,rk⟩:=RdV.dK l q1;cases rx with
    | cons r1 r2 =>
     cases r2;cases r1;obtain⟨hd,vs,B,o,es,ep,ho,hx,z,hk,hp,hn⟩:=Inv.dictK I hq;have e1:es.size=kds[1]:=by
      have a1:es[2].length=vs[1]:=hp[1];have a2:=B[1];have a3:=RepK.length rk
      simp_all
     unfold qA at w;dsimp only at w;by_cases c:kds[1]<=sz
     .rw[if_pos c]at w;refine YB hd ho hx z (by rw[e1];exact c) ?_
      rw[e1];exact#[.int _,H,I.tok _,#[_,rfl],jj (X:=X) l (v:=.int _) w rfl]
     rw[if_neg c]at w;exact w.elim
   rename_i kds;obtain⟨p,kvs,rfl,hq,rk⟩:=RdV.dT l q1;cases rx with
   | cons r1 r2 =>
    cases r2;cases r1;obtain⟨hz,hd,zs,B,o,es,ep,ho,hx,z,h4,h5⟩:=hq.ok I.hok;have e1:es.size=kvs[1]:=by
     have a1:es[2].length=zs[1]:=by rw[h4,gg]
     have a2:=B[1]
     grind
    refine YB hd ho hx z "" ?_
    rw[e1,RepT.length rk];exact#[.int _,H,I.tok _,#[_,rfl],jj (X:=X) l (v:=.int _) w rfl]
theorem YC:∀{kds} {kvs},RepT κ F kvs kds->kvs.map (·.1)=kds.map (·.1)
 | [],_,h=>by cases (h);rfl
 | (k,d)::r,_,h=>by
  obtain⟨v,kr,rfl,h1,h2⟩:=h;simp[YC h2]
theorem YD:∀{kds es} {kvs us},RepT κ F kvs kds->RepT κ F us es->RepT κ F (kvs++us) (kds++es)
 | [],_,_,_,h,k=>by cases (h);exact k
 | (q,d)::r,_,_,_,h,k=>by
  obtain⟨v,kr,rfl,h1,h2⟩:=h;exact#[v,kr++_,rfl,h1,YD h2 k]
theorem YE(z:Rep κ F v d):∀{kds} {kvs},RepT κ F kvs kds ->
  RepT κ F (kvs.map λkv=>if kv.1=k then(kv.1,v)else kv) (kds.map λkv=>if kv.1=k then(kv.1,d)else kv)
 | [],_,h=>by cases (h);rfl
 | (q,e)::r,_,h=>by
  obtain⟨u,kr,rfl,h1,h2⟩:=h;have hr:=YE (k:=k) z h2;by_cases c:q=k
  .simp[gN,if_pos c];exact#[v,_,rfl,z,hr]
  simp[gN,if_neg c];exact#[u,_,rfl,h1,hr]
def YF(z:Rep κ F v d)(h:RepT κ F kvs kds):RepT κ F (jH kvs k v) (qS k d kds):=by
 have a:∀{α} (l:List (List Key×α)),(l.any λkv=>decide (kv.1=k))=(l.map (·.1)).any λq=>decide (q=k):=λl=>by rw[List.any_map];rfl
 unfold jH qS;rw[a,a,(YC h)];by_cases c:((kds.map (·.1)).any λq=>decide (q=k))=true
 .rw[if_pos c,if_pos c];exact YE z h
 rw[if_neg c,if_neg c];exact YD h #[v,[],rfl,z,rfl]
theorem u9:∀{ws} {vs} {q:List Key},Voks κ H F' H' vs ws->jL (ws.map En.d)=!q->vs=q.map kV
 | [],vs,q,h,e=>by cases e;exact h
 | w::ws,vs,q,h,e=>by
  obtain⟨v,r,rfl,h1,h2⟩:=h;rw[gN]at e;unfold jL at e;cases e1:zn w.d with
  | none=>rw[e1]at e;cases e
  | some k =>
   cases e2:jL (ws.map En.d)with
   | none=>rw[e1,e2]at e;cases e
   | some ks =>
    rw[e1,e2]at e;cases e;have r1:=Vok.rd h1;have ev:v=kV k:=by
     cases ed:w.d with
     | int j=>rw[ed]at e1 r1;cases e1;exact RdV.int r1
     | str j=>rw[ed]at e1 r1;cases e1;exact RdV.str r1
     | _=>rw[ed]at e1;cases e1
    rw[ev,u9 h2 e2];rfl
def QG{k:Nat}(B:SA X F0 H0 es fs){Q:VK}(S:StOk (kx X) F0 H0 F H ρ σ)
  (h:KE (XP X F0 H0) (evs fs ρ) λws=>∀ vs F' H' p,Gr F H F' H'->Voks (kx X) H F' H' vs ws->H' p=none->vs[1]<=sizeLine/\Q (.ref p) (upd H' p (.tup vs))):kj X (.Tuple es k tp) σ H Q:=by
 refine λpins s I=>bu (B tp pins s σ F H ρ _ S I (h.imp λws k1 vs us F1 H1 s1 g1 q1 r1 I1=>?_))
 obtain⟨z,q⟩:=k1 vs F1 H1 s1[0] g1 q1 (I1.hok.fresh (gy _));exact#[by rw[<- r1[1]];exact z,(#[.ref s1[0],upd H1 s1[0] (.tup vs),I1.laid (λb u e=>gq _ e) (gy _) (#[z,us,r1,#[_,gM _ rfl,rfl,_,rfl]]),rfl,q])]
def kN(i:Nat)(k:List EF)(e:EF):SF:=λρ=>match ρ[i]? with
 | some (!(.dT kvs)[9])=>sOf ((e ρ).bind En.st) λd=>sOf (evs k ρ) λws=>match jL (ws.map En.d)with
  | some key=>if kvs[1]<sz/\key[1]<=sz then .nx (ρ.set i (!(.dT (qS key d kvs))[9]))else .stuck
  | none=>.stuck
 | _=>.stuck
def qb0(i){np tp pos pos':Pos}{n:Nat}(Y:X.A.units+10<cLine)(z:SA X F0 H0 ks fk)(B:"S" e fe)(O:(Nm X i x)["t"])(U:(swapsWith e (!(.Subscript (.Name x np) (.Tuple ks n tp) pos')) pos.line X.env=pure false)["r"]) :
  SS X F0 H0 (.Assign [.Subscript (.Name x np) (.Tuple ks n tp) pos'] e pos) (kN i fk fe):=by
 intro pins s σ F H ρ D S I h;unfold kN at h;cases ew:ρ[i]? with
 | none=>rw[ew]at h;exact h.elim
 | some w =>
  rw[ew]at h;cases w with
  | none=>exact h.elim
  | some w =>
   cases w with
   | fz d=>exact h.elim
   | br d=>exact h.elim
   | lk d=>exact h.elim
   | od d=>exact h.elim
   | ow d =>
    cases d<;>first|exact h.elim|skip
    rename_i kds;have h:=KE.bind (PostS.of h);obtain⟨v,e1,a,o,rfl,h0,hf,hh,ro⟩:=S.val i _ ew;cases o<;>first|exact ro.elim|skip
    rename_i kvs;refine Z1 (pos:=pos) (pos':=pos') "" (pvN (pos:=np) O) (je (e:=.Tuple ks n tp)) (je (e:=e)) U pins s σ H D I (B.sem S (h.imp λw k1 y F1 H1 g1 q1=>?_))
    cases es:w.st with
    | exc x=>rw[es]at k1;exact k1.elim
    | stuck=>rw[es]at k1;exact k1.elim
    | ok d =>
     rw[es]at k1;have ry:=Vok.st S.s g1 q1 es;obtain⟨g2,_⟩:=v8 S.s g1;have S2:=S.grow g2;refine#[_,e1,QG z S2 ((PostS.of (show PostS X F0 H0 F D _ from k1)).imp λws k2 vs F3 H3 p g3 q3 hp=>?_)]
     cases ek:jL (ws.map En.d)with
     | none=>rw[ek]at k2;exact k2.elim
     | some key =>
      rw[ek]at k2;have ev:=u9 q3 ek;subst ev;have lv:kvs[1]=kds[1]:=RepT.length ro;by_cases c:kds[1]<sz/\key[1]<=sz
      .have k3:PostS X F0 H0 F D (.nx (ρ.set i (!(.dT (qS key d kds))[9]))):=by simpa[if_pos c]using k2
       refine#[by rw[gg];exact c.2,a,_,rfl,DPut.t (e:=?_) qH (by rw[lv];exact c.1),?_]
       .rw[qt (jG (g3.h _ _ (g1.h _ _ hh)) hp)];exact g3.h _ _ (g1.h _ _ hh)
       have g4:=Gr.new (o:=.tup (key.map kV)) g3.s hp;refine k3 σ _ _ (Le.trans g2.f (Le.trans g3.f g4.f)) (((S2.grow g3).grow g4).mut ew e1 (o:=.dT (jH kvs key y)) ?_);exact YF (Rep.le g3.f _ ry) (RepT.le (Le.trans g2.f g3.f) _ ro)
      have:False:=by simpa[if_neg c,PostS,KE]using k2
      exact this.elim
end
def chE(g:D->D->R En)(y:D)(c:EF):EF:=λρ=>(c ρ).bind λz=>g y z.d
section
variable{ρ:Rho}{d:D}{e f:EF}{i:Nat}{a b c:EF}
theorem qi4{i j:Int}:qz i[6] j[6]=.ok (i+j)[7]:=rfl
theorem qi5:qA [.lst xs]=.ok (.int xs[1])[8]:=rfl
theorem qi6:qA [.tup xs]=.ok (.int xs[1])[8]:=rfl
theorem qi7{lo hi:OF}:eSl a lo hi ρ=(a ρ).b λx=>(lo ρ).b λl=>(hi ρ).b λu=>dSl x.dd l u:=rfl
theorem qi8:oNo ρ=.ok none:=rfl
theorem qi9:oE e ρ=(e ρ).b λw=>isI w.dd:=rfl
theorem qia:isI j[6]=.ok !j:=rfl
theorem qib{lo hi:Option Int}:dSl (.lst xs) lo hi=.ok (.lst (vj xs lo hi))[9]:=rfl
theorem qic:xT g g' a b c ρ=(a ρ).b λx=>(b ρ).b λy=>(g x.dd y.dd).b λr=>(isB r.dd).b (xU (chE g' y.dd c) kF ρ):=rfl
theorem qid:chE g d c ρ=(c ρ).b λz=>g d z.dd:=rfl
def qb1{j:Int}{n:Nat}(h:ρ[i]?=!(!(.lst xs)[9]))(h2:(e ρ).b En.sto=.ok d)(z:k ρ=.ok w)(B:w.d=.int j)(O:ixn xs[1] j=!n) :
  kL i k e ρ=.nx (ρ.set i (!(.lst (xs.set n d))[9])):=by
 have h2:(e ρ).bind En.st=.ok d:=h2;unfold kL;rw[h];rw[h2];rw[z,R.bind_ok,B];show(match ixn xs[1] j with|some n=>_|none=>_)=_
 rw[O]
def qb2{kvs:List (List (Sum Int Str)×D)}{ws:List En}{key:List (Sum Int Str)}(h:ρ[i]?=!(!(.dT kvs)[9]))(h2:(e ρ).b En.sto=.ok d)(B:evs k ρ=.ok ws)(O:jL (ws.map En.d)=!key)
  (U:kvs[1]<sz)(z:key[1]<=sz):kN i k e ρ=.nx (ρ.set i (!(.dT (qS key d kvs))[9])):=by
 have h2:(e ρ).bind En.st=.ok d:=h2;unfold kN;rw[h];rw[h2];unfold sOf;rw[B];dsimp only;rw[O];dsimp only;rw[if_pos #[U,z]]
def qb3(xs:List α)(a m:Nat):vj xs ↑a (!(a+m))=(xs.drop a).take m:=by
 unfold vj;rw[HT.sIx_nat,show a+m=((a+m:Nat):Int)by lia,HT.sIx_nat]
 by_cases h:a<=xs[1]
 .rw[show min a xs[1]=a by lia]
  apply dO;intro i;rw[pT,pT,List.getElem?_drop]
  grind
 rw[List.drop_eq_nil_of_le (by lia:xs[1]<=min a xs[1]),List.drop_eq_nil_of_le ""]
 simp
def vP{w:En}(h:e ρ=.ok w)(h2:w.st=.ok (.lst ds)):ji e ρ=.ok ds:=by unfold ji;rw[h,R.bind_ok,h2];rfl
def YG{a b c d:Int}:dNe (.tup [.int a,.int b]) (.tup [.int c,.int d])=.ok (.bl (not (a==c&&b==d)))[8]:=by
 show okB (not (deq _ _))=_;simp[deq,deqs]
theorem YH:∀ rs,vE (rs.map qM)=!rs
 | []=>rfl
 | r::rs=>by
  show(match jR (r.map .int),vE (rs.map qM)with|some a,!b=>↑(a::b)|_,_=>none)=_
  have e:∀ ns,jR (ns.map D.int)=!ns:=by
   intro ns
   induction ns with
   | nil=>rfl
   | cons n ns ih =>
    show(match jR (ns.map D.int)with|some l=>↑(n::l)|none=>none)=_
    rw[ih]
  rw[e,YH rs]
end
section
variable{prog:af}{w:World}{A:ag}{R:Result->ab->Prop}{it:Addr}{fp wr:List Addr}{n:Nat}{P:Nat->aa->Prop}{St:Nat->Heap->Prop}
def qb4:Option aa->Array aa
 | none=>#[]
 | some v=>(List.toArray [v,v])
def qb5(W:Walks prog w A.in1 it fp wr n P St)(bt)(cmp:CmpOf prog w A.in1 .Gt P bt)(p)(np:p∉fp)(dv) :
  ∀ k j s ob c,n-j=k->j<=n->St j s.heap->(match ob with|none=>j=0|some v=>0<j/\P (argBest bt (j-1)) v) ->
  s.heap.get? p=some {cls:=.type "list",dict:=none,data:=.seq (qb4 ob) c,slots:=#[]} ->
  (∀ v h' tk,(n=0/\v=dv\/0<n/\P (argBest bt (n-1)) v)->(∀ b o,b∉wr->b≠p->s.heap.get? b=!o->h'.get? b=!o)->R (.ok (.ret v)) {s with heap:=h',toks:=tk}) ->
  codeAny (model prog w) A (.builtin "max.loop" #[[.ref it,.none,.ref p],[(Str.ofString "default",dv)]]) R s:=by
 have pw:p∉wr:=λz=>np (W.sub _ z)
 have nm:(toString "max"++toString ".loop")="max.loop":=by decide
 intro k
 induction k with
 | zero =>
  intro j s ob c hk hj st hb hp hR;have e:j=n:=""
  subst e;refine dC PySem.F.entry_max_loop ?_;refine g6 (m:=seqItems? (.ref p)) (fA hp rfl ?_);refine g6 (cH (W.done s _ _ st λh' tk kp=>?_))
  have U:=kp p _ pw hp;cases ob with
  | none =>
   refine g6 (pG (gu (hR dv _ tk (.inl #[hb,rfl]) λb o O _ e=>kp b o O e)))
  | some v =>
   refine g6 (m:=updateSeq p λ_=>#[]) (cu U rfl (g6 (pJ (gu ?_))) (by show 2<=sizeLine;decide) "s")
   exact hR v _ tk (.inr #[hb.1,hb.2]) λb o O B e=>(tJ _ _ (t9 B)).trans (kp b o O e)
 | succ k ih =>
  intro j s ob c hk hj st hb hp hR;have lt:j<n:=""
  refine dC PySem.F.entry_max_loop ?_;rw[b8 pK _];refine g6 (m:=seqItems? (.ref p)) (fA hp rfl ?_);refine g6 (cH (W.item j s _ _ lt st λv h' tk hP st' kp=>?_))
  have U:=kp p _ pw hp;have frame:∀ h'',(∀ b o,b≠p->h'.get? b=!o->h''.get? b=!o)->St (j+1) h'':=λh'' q=>W.frame _ _ _ st' λb hbf o e=>q b o (λz=>np (by rw[<- z];exact hbf)) e
  cases ob with
  | none =>
   have e:j=0:=hb;subst e;refine g6 (m:=updateSeq p λ_=>(List.toArray [v,v])) (cu U rfl ?_ (by show 0<=sizeLine;decide) (by show 2<=sizeLine+1;decide))
   rw[nm];refine gu #[pU pK _,ih 1 _ ↑v _ "" lt (frame _ λb o B e=>(tJ _ _ (t9 B)).trans e) #[by decide,hP] (tZ _ U rfl) λv' h2 Y q Z=>?_]
   exact hR v' h2 Y q λb o O B e=>Z b o O B ((tJ _ _ (t9 B)).trans (kp b o O e))
  | some vb =>
   obtain⟨j0,hPb⟩:=hb;refine g6 (gu (g6 (cH (fB (g6 (cmp j (argBest bt (j-1)) v vb _ _ _ hP hPb (g6 (fB (pF (g6 (pJ (gu ?_))))))))))));have ea:argBest bt j=if bt j (argBest bt (j-1))then j else argBest bt (j-1):=by
    obtain⟨i,rfl⟩:∃ i,j=i+1:=#[j-1,""]
    rfl
   by_cases cb:bt j (argBest bt (j-1))=true
   .rw[if_pos cb];rw[if_pos cb]at ea;refine g6 (m:=updateSeq p λ_=>(List.toArray [v,v])) (cu U rfl (g6 (pJ ?_)) (by show 2<=sizeLine;decide) (by show 2<=sizeLine+1;decide))
    rw[nm];refine gu #[pU pK _,ih (j+1) _ ↑v _ "" lt (frame _ λb o B e=>(tJ _ _ (t9 B)).trans e) #["",?_] (tZ _ U rfl) λv' h2 Y q Z=>?_]
    .rw[Nat.add_sub_cancel,ea];exact hP
    exact hR v' h2 Y q λb o O B e=>Z b o O B ((tJ _ _ (t9 B)).trans (kp b o O e))
   rw[if_neg cb];rw[if_neg cb]at ea;refine g6 (pJ ?_);rw[nm];refine gu #[pU pK _,ih (j+1) _ ↑vb c "" lt st' #["",?_] U λv' h2 Y q Z=>?_]
   .rw[Nat.add_sub_cancel,ea];exact hPb
   exact hR v' h2 Y q λb o O B e=>Z b o O B (kp b o O e)
variable{E:aa->ab->Prop}{s:ab}
def qb6(a b):argsOk "max" #[[a],[(Str.ofString "default",b)]]:=by unfold argsOk;kernel_rfl
def qb7{xs:Array (Int×Tok)}{Q:aa->ab->Prop}(Y:A.handled=none)(Z:s.heap.IsList l (intItems xs))
  (h:∀ v h' tk,(xs.size=0/\v=dv\/0<xs.size/\(intItems xs)[argBest (λi j=>decide (numAt xs i>numAt xs j)) (xs.size-1)]?=!v)->(∀ b o,s.heap.get? b=!o->h'.get? b=!o)->Q v {s with heap:=h',toks:=tk}) :
  wpAny (model prog w) A (call (.builtin "max") [.ref l] [(Str.ofString "default",dv)]) Q E s:=by
 have U:(intItems xs).size=xs.size:=by simp[intItems]
 refine wpAny_call (codeAny_call_builtin PySem.F.plain_max PySem.F.entry_max ?_);have body:wpAny (model prog w) A.in1 (Builtin.«max» #[[.ref l],[(Str.ofString "default",dv)]]) (λfin s'=>match fin with
   | .done f=>(match (Except.ok f)with|.ok (.ret v)=>Q v s'|.ok _=>False|.error e=>E e s')
   | .again c'=>c'.quiet=true/\codeAny (model prog w) A c' (λr s'=>match r with|.ok (.ret v)=>Q v s'|.ok _=>False|.error e=>E e s') s') E s:=by
  refine g6 (m:=Builtin.Builtins.bindParams "max" ["key","default"] 0 #[[],[(Str.ofString "default",dv)]]) (wpAny_of_eq (show Builtin.Builtins.bindParams "max" ["key","default"] 0 #[[],[(Str.ofString "default",dv)]]=pure [none,!dv]from rfl) ?_)
  refine g6 (gu (g6 (iter_intList Z λs₂ e st B O=>?_)))
  subst e;refine g6 (tX ?_);have W:=Walks.list (prog:=prog) (w:=w) (A:=A.in1) Y s[0] l O (intItems xs);refine gu #[pU pK _,qb5 W _ (CmpOf.ints_gt (numAt xs) λ_ _=>intItems_at) _ (λz=>pz _ (B _ z)) dv _ 0 _ none 0 rfl (tK _) (W.frame _ _ _ st λb _ o e=>gq _ e) rfl (gM _ rfl) λv h' tk q kp=>?_]
  refine h v h' tk ?_ (old_kept λb o hb e=>kp b o hb (t3 (gP e)) (gq _ e))
  rw[U]at q;exact q
 have ok:=qb6 (.ref l) dv;unfold argsOk at ok
 revert ok
 generalize Manifest.signature? "max"=sg;intro ok;cases sg with
 | none=>exact gu body
 | some sg =>
  have ok:Bind.checkArgs "max" sg #[[.ref l],[(Str.ofString "default",dv)]]=pure ():=ok;simp[ok];exact gu body
end
def kO:D->D->R En
 | .lst ds,.int d=>(match jR ds with|some []=>okI d|some (i::r)=>okI (wU i r)|none=>.stuck)
 | _,_=>.stuck
section
variable{X:Cx}{F0 H0:Hp}{pos p kp:Pos}
def qb8(Y:"S" e fe)(hd:"S" d fd)(Z:X.mg "max"=none)(hc:(X.calm=true)["r"])(hg:(Gl X "max")["r"])
  (h1:(backTo pos (starEach [e] X.env)=(false,eval e X.env)::backTo pos (starEach [] X.env))["r"])(h2:((backTo pos (starEach [e] X.env)).any (·.1)=false)["r"])
  (h3:((backToKw pos (keywordEach [#[some "default",d,kp]] X.env)).all (·.1.isSome)=true)["r"])(h4:((backToKw pos (keywordEach [#[some "default",d,kp]] X.env)).any (·.1.isNone)=false)["r"])
  (h5:((backToKw pos (keywordEach [#[some "default",d,kp]] X.env)).filterMap (·.1)=[Str.ofString "default"])["r"])
  (U:(starEach [e] X.env=[(false,eval e X.env)])["r"]) :
  "S" (.Call (.Name "max" p) [e] [#[some "default",d,kp]] pos) (eOp kO fe fd):=by
 refine λpins s σ F H ρ Q S I h=>fw (zD I hg Z cP ?_)
 refine callWith_kw ?_ h1 h2 h3 h4;rw[U];refine hZ (Y pins s σ F H ρ _ S I ((KE.bind h).imp λwx k1 v u F1 H1 s1 g1 q1 r1 I1=>tH ?_))
 refine kws_cons (hd pins s1 σ F1 H1 ρ _ (S.grow g1) I1 ((KE.bind k1).imp λwy k2 v2 u2 F2 H2 s2 g2 q2 r2 I2=>kws_nil ?_))
 rw[h5];have qx:=RdV.gr g2 (Vok.rd q1);have qy:=Vok.rd q2;have B:=wQ (g1.trans g2) k2
 revert B qx qy
 generalize wx.d=dx;generalize wy.d=dy;intro qx qy B;cases dx<;>first|exact B.elim|skip
 rename_i ds;cases dy<;>first|exact B.elim|skip
 rename_i dv;unfold kO at B;dsimp only at B;cases RdV.int qy;obtain⟨td,rfl⟩:=r2;cases ei:jR ds with
 | none=>rw[ei]at B;exact B.elim
 | some ns =>
  rw[ei]at B;obtain⟨a,vs,rfl,hq,rs⟩:=RdV.lst g2.s qx;have ev:=yu ei rs;subst ev;cases r1;obtain⟨its,rv,pl,hz⟩:=I2.list hq;have hi:IntsAre its ns:=yZ rv;obtain⟨ys,ey⟩:=hi.allInts.items;have O:ns=ys[2].map (·.1):=by rw[<- hi.numsOf,<- nums_intItems,<- ey]
  have hl:=pl.isList;rw[ey]at hl;have hsz:ys.size=ns[1]:=by rw[O];simp
  refine v9 (pins:=pins) (σ:=σ) (qb7 (I2.ok.hd hc) hl λv h' tk hv kp=>?_)
  cases ns with
  | nil =>
   rcases hv with⟨_,rfl⟩|⟨z,_⟩
   .exact#[.int dv,H2,I2.kept kp,#[_,rfl],jj (X:=X) g2.s (v:=.int _) B rfl]
   rw[hsz]at z;simp at z
  | cons i r =>
   rcases hv with⟨z,_⟩|⟨_,hv⟩
   .rw[hsz]at z;simp at z
   obtain⟨t,rfl⟩:=intItems_at hv;obtain⟨b1,b2⟩:=argBest_gt (numAt ys) (ys.size-1);have m1:numAt ys (argBest (λi j=>decide (numAt ys i>numAt ys j)) (ys.size-1))∈i::r:=by
    rw[O,numAt_eq];exact getD_mem (by rw[gg,p7];simp at hsz;lia)
   have m2:∀ a∈i::r,a<=numAt ys (argBest (λi j=>decide (numAt ys i>numAt ys j)) (ys.size-1)):=λa ha=>by
    rw[O]at ha;obtain⟨j,hj,rfl⟩:=mem_getD ha;rw[gg,p7]at hj;rw[<- numAt_eq];exact b2 j ""
   obtain⟨k1,k2⟩:=Zk r i;have em:numAt ys (argBest (λi j=>decide (numAt ys i>numAt ys j)) (ys.size-1))=wU i r:=Int.le_antisymm (k2 _ m1) (m2 _ k1)
   rw[em];exact#[.int _,H2,I2.kept kp,#[_,rfl],jj (X:=X) g2.s (v:=.int _) B rfl]
def vF(i:Nat)(e:EF):SF:=λρ=>match ρ[i]? with
 | some (!(.lst xs)[9])=>sOf (e ρ) λw=>match w with
  | .ow (.lst ys)=>if xs[1]+ys[1]<=sz then .nx (ρ.set i (!(.lst (xs++ys))[9]))else .stuck
  | _=>.stuck
 | _=>.stuck
def QH(i){x:Str}{apos cpos np:Pos}(Z:"S" e f)(hN:(Nm X i x)["t"])(B:(attributeBase (.Name x np) "extend" X.env (eval (.Name x np) X.env)=eval (.Name x np) X.env)["r"])
  (U:(((backTo cpos (starEach [e] X.env)).all (λx=>not x.1)&&(backToKw cpos (keywordEach [] X.env)).all (λx=>x.1.isSome)
   && decide ([e].length+([]:List Keyword)[1]+(if ([]:List Keyword).isEmpty then 0 else 1)<30))=true)["r"])
  (O:((apos.endLine==cpos.line)=true)["r"]) (Y:(starEach [e] X.env=(false,eval e X.env)::starEach [] X.env)["r"]) (z:((backTo cpos (starEach [] X.env)).any (·.1)=false)["r"])
  (hs:(swapsWith (.Call (.Attribute (.Name x np) "extend" apos) [e] [] cpos) none pos.line X.env=pure false)["r"]) :
  SS X F0 H0 (.Expr (.Call (.Attribute (.Name x np) "extend" apos) [e] [] cpos) pos) (vF i f):=by
 intro pins s σ F H ρ D S I h;unfold vF at h;cases ew:ρ[i]? with
 | none=>rw[ew]at h;exact h.elim
 | some w =>
  rw[ew]at h;cases w with
  | none=>cases h
  | some w =>
   cases w with
   | fz d=>exact h.elim
   | br d=>exact h.elim
   | lk d=>exact h.elim
   | od d=>exact h.elim
   | ow d =>
    cases d<;>first|exact h.elim|skip
    rename_i ds;have h:=PostS.of h;obtain⟨v,e1,a,o,rfl,h0,hf,hh,ro⟩:=S.val i _ ew;cases o<;>first|exact ro.elim|skip
    rename_i vs;have P:=xE (wO fS PySem.F.slot_list_extend PySem.F.type_list_extend TQ (pvN (pos:=np) hN) (zE (je (e:=e)) vJ Y) B U O Y z) hs;refine P pins s σ H D I #[_,e1,.inl #[rfl,vs,SqL.of hh],Z.sem S (h.imp λw k y F1 H1 g1 q1=>?_)]
    cases w with
    | fz d=>exact k.elim
    | br d=>exact k.elim
    | lk d=>exact k.elim
    | od d=>exact k.elim
    | ow d =>
     cases d<;>first|exact k.elim|skip
     rename_i es;obtain⟨b,o,rfl,b0,bf,bh,rb⟩:=q1;cases o<;>first|exact rb.elim|skip
     rename_i us;dsimp only at k;by_cases c:ds[1]+es[1]<=sz
     .rw[if_pos c]at k;have hl:vs[1]+us[1]<=sizeLine:=by rw[Reps.length ro,Reps.length rb];exact c
      refine#[a,b,vs,us,rfl,rfl,g1.h _ _ hh,bh,hl,?_];exact k σ _ _ g1.f ((S.grow g1).mut ew e1 (o:=.lst (vs++us)) (Reps.append (Reps.le g1.f _ ro) rb))
     rw[if_neg c]at k;exact k.elim
def ub:D->Bool
 | .non=>true
 | _=>false
def zK:D->D->R En
 | .xc _ _,_=>.stuck
 | d,.non=>okB (ub d)
 | _,_=>.stuck
def wI:D->D->R En
 | .xc _ _,_=>.stuck
 | d,.non=>okB (not (ub d))
 | _,_=>.stuck
def YI(l:Le F H)(q:RdV κ F H v d)(z:∀ c fs,d≠.xc c fs):decide (v=.non)=ub d:=by
 cases d with
 | non=>rw[RdV.non q];rfl
 | bl b=>rw[RdV.bl q];rfl
 | int b=>rw[RdV.int q];rfl
 | str b=>rw[RdV.str q];rfl
 | tup ds=>obtain⟨a,vs,rfl,_⟩:=RdV.tup l q;rfl
 | lst ds=>obtain⟨a,vs,rfl,_⟩:=RdV.lst l q;rfl
 | dK ds=>obtain⟨a,vs,rfl,_⟩:=RdV.dK l q;rfl
 | dT ds=>obtain⟨a,vs,rfl,_⟩:=RdV.dT l q;rfl
 | xc c fs=>exact absurd rfl (z c fs)
def kP:OpD X (compareOp .Is) zK:=vx GZ λF H x y dx dy Q l qx qy w=>by
 have hx:∀ c fs,dx≠.xc c fs:=λc fs z=>by subst z;exact w.elim
 cases dy<;>first|(cases dx<;>exact w.elim)|skip
 have w:Wish X F H (okB (ub dx)) Q:=by cases dx<;>first|exact w|exact w.elim
 refine#[RdV.non qy,?_];rw[YI l qx hx];exact jj l w rfl
def qb9:OpD X (compareOp .IsNot) wI:=vx T0 λF H x y dx dy Q l qx qy w=>by
 have hx:∀ c fs,dx≠.xc c fs:=λc fs z=>by subst z;exact w.elim
 cases dy<;>first|(cases dx<;>exact w.elim)|skip
 have w:Wish X F H (okB (not (ub dx))) Q:=by cases dx<;>first|exact w|exact w.elim
 refine#[RdV.non qy,?_];rw[YI l qx hx];exact jj l w rfl
variable{ρ:Rho}{d:D}{e:EF}{i:Nat}
def YJ(o:Option (Option En))(i:Nat)(g:D->D->R En)(e:EF)(ρ:Rho):Out:=match o with
 | some (!x[8])=>sOf ((e ρ).b λy=>(g x y.dd).b En.nmo) λw=>.nx (ρ.set i !w)
 | _=>.stuck
theorem qie:jU i g e ρ=YJ ρ[i]? i g e ρ:=rfl
theorem qif:YJ (!(!d[8])) i g e ρ=sOf ((e ρ).b λy=>(g d y.dd).b En.nmo) λw=>.nx (ρ.set i !w):=rfl
def QJ(h:ρ[i]?=!(!(.lst xs)[9]))(h2:e ρ=.ok (.lst ys)[9])(z:xs[1]+ys[1]<=sz):vF i e ρ=.nx (ρ.set i (!(.lst (xs++ys))[9])):=by
 unfold vF;rw[h];rw[h2];unfold sOf;dsimp only;rw[if_pos z]
def qba:zK .non .non=.ok (.bl true)[8]:=rfl
theorem qig:zK (.tup xs) .non=.ok (.bl false)[8]:=rfl
def qbb{j:Int}:zK j[6] .non=.ok (.bl false)[8]:=rfl
theorem qih:wI .non .non=.ok (.bl false)[8]:=rfl
theorem qii:wI (.tup xs) .non=.ok (.bl true)[8]:=rfl
theorem qij:wI j[6] .non=.ok (.bl true)[8]:=rfl
end
def kQ(o:Option (Option En))(i:Nat)(ρ:Rho):Rho:=match o with
 | some (!d[9])=>ρ.set i (!d[8])
 | _=>ρ
section
variable{i:Nat}{ρ:Rho}{a:SF}{d:D}
def qbc:jB i a ρ=a (kQ ρ[i]? i ρ):=rfl
theorem qik:kQ (!(!d[9])) i ρ=ρ.set i (!d[8]):=rfl
theorem qil:kQ (!(!d[8])) i ρ=ρ:=rfl
theorem qim:kQ (!(!(.br d))) i ρ=ρ:=rfl
end
open PySem.Builtin PySem.Builtin.ObjectAttr
abbrev bmV:List aa:=[.type "ValueError",.type "Exception",.type "BaseException",.type "object"]
def qbd:List aa->Bool
 | .ref _::r=>qbd r
 | l=>l==bmV
section
variable{prog:af}{w:World}{A:ag}{E:aa->ab->Prop}{s:ab}{K:Frag}{x C:Addr}{vs:Array aa}{sl:Array (Option aa)}{cd:ClassData}{name:Str}{v:aa}
end
def qin(K:Frag)(C:Addr):Bool:=match K.lookup C with
 | some #[.type "type",_,.cls k,z]=>match k.mro,z[2] with
  | .ref D::r,[_,_,_,_,!(.builtin m),_]=>D==C&&m=="ValueError.__new__"&&not k.hasDel&&tailIn K bmV r
  | _,_=>false
 | _=>false
section
variable{prog:af}{w:World}{A:ag}{E:aa->ab->Prop}{s:ab}{K:Frag}{C f:Addr}{rest:List aa}{R:Result->ab->Prop}
variable{P:af}{mg:Str->Option aa}{base:Heap}
variable{X:Cx}{F0 H0:Hp}
variable{pos p pos2:Pos}{e:Expr}{es:List Expr}{fa:List EF}{x:Str}{k n:Nat}{fd:FuncData}{ps:List Str}{dn:Den}
end
section
variable{M:Model}{A:ag}{E:aa->ab->Prop}{s:ab}{K:Frag}{C S e:Addr}{oe:Obj}
variable{X:Cx}{pins pn:List (Addr×Obj)}{σ:St}{H:Hp}{D:Ends}{fl:Flow}
variable{F0 H0:Hp}{cN n:Str}{i:Nat}{ex:Expr}{cs:List Str}{hd:Xc->R En}{cp rp hp:Pos}
variable{np apos tp bp vp ip:Pos}{j1 j2:Nat}
end
section
variable{X:Cx}{pins:List (Addr×Obj)}{σ:St}{H:Hp}{s:ab}{h':Heap}{fp:List Addr}{t':Nat}
def QK(O:∀ b∈fp,FpOk X pins H b)(B:H b=!u):b∉fp:=λz=>by rw[(O b z).1]at B;cases B
def YK(I:"I" H s)(B:∀ b∈fp,FpOk X pins H b)(k:∀ b o,b∉fp->s.heap.get? b=!o->h'.get? b=!o):"I" H {s with heap:=h',toks:=t'}:=by
 refine I.call #[λb o e _ _ nc=>k b o nc e,λb o e _ _ nc=>#[o.slots,k b o nc e],λ_ _ _ n _=>n,λb o e nc=>#[o,k b o nc e],λ_ _ z=>z,λ_ _ _ z=>z,λb ps z=>#[#[],by rw[z];simp]] (λb u hb=>?_) I.bare
  λb hb=>#[(B b hb).2.2.2.1,(B b hb).2.1,(B b hb).2.2.2.2.1,(B b hb).2.2.2.2.2]
 refine(I.hok b u hb).stay (λd v hd q=>k d v ?_ q) (λ_ z=>z) λ_ _ z=>z
 rcases hd with rfl|z
 .exact QK B hb
 exact QK B z
def YL{xs:List V}(I:"I" H s)(B:∀ b∈fp,FpOk X pins H b)(k:∀ b o,b∉fp->s.heap.get? b=!o->h'.get? b=!o)(O:s[0]<=T)(tup:IsTup h' T its.toArray)(r:Vals xs its)(hz:xs[1]<=sizeLine) :
  "I" (upd H T (.tup xs)) {s with heap:=h',toks:=t'}:=by
 have ne:∀ b o,s.heap.get? b=!o->b≠T:=λb o e z=>absurd (tq (gP e) (z▸O)) (pz _)
 have up:∀ b u,H b=!u->upd H T (.tup xs) b=!u:=λb u e=>by rw[qt (jG e (I.hok.fresh O))];exact e
 refine I.call #[λb o e _ _ nc=>k b o nc e,λb o e _ _ nc=>#[o.slots,k b o nc e],λb o e n _=>?_,λb o e nc=>#[o,k b o nc e],λb _ z=>up b _ z,λb _ _ z=>up b _ z,λb ps z=>#[#[],by rw[up b _ z];simp]] (λb u hb=>?_) I.bare
  λb hb=>#[(B b hb).2.2.2.1,(B b hb).2.1,(B b hb).2.2.2.2.1,(B b hb).2.2.2.2.2]
 .rw[qt (ne b o e)];exact n
 by_cases z:b=T
 .subst z;rw[qH]at hb;cases hb;exact#[hz,its,r,tup]
 rw[qt z]at hb;refine(I.hok b u hb).stay (λd v hd q=>k d v ?_ q) (λc y=>up c _ y) λc ys y=>up c _ y
 rcases hd with rfl|y
 .exact QK B hb
 exact QK B y
end
def Ite(K:Frag)(a:Addr):It :=
 #[λi H=>∃ xs x,SqL K H a xs/\xs[i]?=!x,λi H x H'=>∃ p y,H p=none/\x=.ref p/\H'=upd H p (.tup [.int i,y])/\∀ xs,SqL K H a xs->xs[i]?=!y,λi H=>∃ xs,SqL K H a xs/\xs[1]<=i]
def qbe{K:Frag}{k:Nat}(a it e:Addr)(ne:e≠it) :
  Turn P w K (.Tuple es k tp) (Ite K a) [e,it] e (λi h=>(∃ B,IsEnum h e it i B)/\h.IsListIter it a i)where
 mem:=by simp
 obj:=λi h #[#[B,he],hi] b hb=>by
  rcases gE.mp hb with rfl|hb
  .simp_all
  obtain rfl:b=it:=by simpa using hb
  obtain⟨o,e,c,d⟩:=hi
  simp_all
 keep:=λi h h' #[#[B,he],hi] kk=>#[#[B,kk e "s" _ he],hi.at λo q=>kk it "s" o q]
 item:=by
  intro X hP hw hK hc i pins s σ H E I hf ⟨⟨B,he⟩,hi⟩ hg;subst hP hw hK;obtain⟨xs,x,hq,hx⟩:=hg;obtain⟨its,rv,p,hz⟩:=I.list hq;obtain⟨u,hu,ru⟩:=rv.get hx;refine wpAny_pyNext_enum_item he hi p.isList hu[""] ne λh1 ho Y hT hsz hk=>#[_,rfl,?_]
  refine wpAny_letOwnedTupleGo_enum (s:={s with heap:=h1,toks:=s.toks+1}) ho λh2 Z sb=>?_
  have O:s[0]≠e:=pR (gP he);have T2:h2.get? s[0]=some {cls:=.type "tuple",data:=.seq (List.toArray [.int i s.toks,u])}:=(sb.2 _ O).trans hT;refine#[.ref s[0],upd H s[0] (.tup [.int i,x]),YL (s:=s) (t':=s.toks+1) (its:=[.int i s.toks,u]) I hf (λb o nb ho=>?_) (gy _) #[_,T2,rfl,_,rfl] (.cons #[_,rfl] (.cons ru .nil)) (by simp[pp]),rfl,
   #[_,x,I.hok.fresh (gy _),rfl,rfl,λys hy=>by rw[I.list_inj hy hq];exact hx],#[#[u,by simpa using Z],Y.at λo q=>(sb.2 it (t9 ne)).trans q],λb hb=>?_]
  .have U:b≠e:=λz=>nb (by simp[z])
   have nb2:b≠it:=λz=>nb (by simp[z])
   exact(sb.2 b U).trans (hk b o U nb2 ho)
  rw[qt]
  .exact(hf b hb).1
  rcases gE.mp hb with rfl|hb
  .exact t9 O
  obtain rfl:b=it:=by simpa using hb
  obtain⟨o,q,_⟩:=hi;exact t3 (gP q)
 done:=by
  intro X hP hw hK hc i pins s σ H E I hf ⟨⟨B,he⟩,hi⟩ hg;subst hP hw hK;obtain⟨xs,hq,hx⟩:=hg;obtain⟨its,rv,p,hz⟩:=I.list hq;have hl:=rv[1];refine wpAny_pyNext_enum_end (I.ok.hd hc) he hi p.isList (by simp;lia) λh1 eb=>#[rfl,YK (t':=s.toks) I hf λb o nb ho=>eb b o (λz=>nb (by simp[z])) ho]
 self:=λ_ _ _ _ _ #[#[B,he],_] h=>wpAny_pyIter_enum he h
def numd:Nat->List D->List D
 | _,[]=>[]
 | n,d::r=>.tup [.int n,d]::numd (n+1) r
theorem ZE:∀ ds n i (x:D),(numd n ds)[i]?=!x->∃ d,ds[i]?=!d/\x=.tup [.int (n+i:Nat),d]
 | [],_,_,_,h=>by simp[numd]at h
 | d::r,n,0,x,h=>by simp[numd]at h;exact#[d,rfl,by rw[<- h];rfl]
 | d::r,n,i+1,x,h=>by
  obtain⟨y,e1,e2⟩:=ZE r (n+1) i x (by simpa[numd]using h)
  exact#[y,by simpa using e1,by rw[e2];lia]
theorem YM:∀ ds n,(numd n ds)[1]=ds[1]
 | [],_=>rfl
 | d::r,n=>by simp[numd,YM r]
def YN{κ:Kx}(B:∀ F H,Le F1 F->Le F H->Le G H->SqL κ.K H a vs)(rs:Reps κ F1 vs ds):Walk κ (Ite κ.K a) F1 G (numd 0 ds)where
 go:=λi x F H ed l1 l lg=>by
  obtain⟨d,e1,rfl⟩:=ZE ds 0 i x ed;obtain⟨v,ev,rv⟩:=Reps.get rs e1;have q:=B F H l1 l lg;refine#[#[vs,v,q,ev],λy H' z=>?_]
  obtain⟨p,y,hp,rfl,rfl,w⟩:=z;have:=w vs q;rw[ev]at this;cases this;exact#[_,Gr.newF l hp,p,[.int i,v],rfl,.inl (.inl qH),(#[_,_,rfl,by rw[pE];rfl,_,_,rfl,Rep.le (λb o z=>by rw[qt (jG z (Le.none l hp))];exact z) d (Rep.le l1 d rv),rfl])]
 stop:=λi F H hi l1 l lg=>#[vs,B F H l1 l lg,by rw[Reps.length rs];rw[YM]at hi;exact hi]
def zd(i:Nat):IF:=λρ=>match ρ[i]? with
 | some (!(.lst ds)[8])=>.ok (numd 0 ds)
 | some (!(.br (.lst ds)))=>.ok (numd 0 ds)
 | _=>.stuck
def kR(i){X:Cx}{k:Nat}(z:X.mg "enumerate"=none)(B:(Nm X i x)["t"])(O:(Gl X "enumerate")["r"])(U:(starEach [.Name x pos] X.env=[(false,eval (.Name x pos) X.env)])["r"]) :
  SI X F0 H0 (.Tuple es k tp) (.Call (.Name "enumerate" np) [.Name x pos] [] cp) (zd i):=by
 refine#[λσ H R=>∃ a,σ[i]?=!(!(.ref a))/\(∃ xs,SqL X.K H a xs)/\R (Ite X.K a) H,λpins s σ H R I #[a,hσ,#[xs,hq],hR]=>?_,λσ F H ρ R S h=>?_]
 .refine Call_ (zD I O z boot_enumerate (tu ?_ U rfl));refine hZ (thn (pvN B pins s σ H (λv' H'=>v'=.ref a/\H'=H) I #[_,hσ,rfl,rfl]) λu s1 #[v1,H1,I1,r1,e1,e2]=>?_)
  subst e1 e2;obtain rfl:u=Value.ref a:=r1;refine tH ?_;obtain⟨its,rv,p,hz⟩:=I1.list hq;refine call_enumerate_list p.isList λh' he hi hsz kp=>?_
  refine wpAny_pyIter_enum (s:={s1 with heap:=h'}) he ?_;refine#[_,_,_,_,H1,rfl,I1.kept (t':=s1.toks) kp,qbe a s1[0] (s1[0]+1) (pR (dZ _)),#[#[_,he],hi],λb hb=>?_,hR]
  have lb:s1[0]<=b:=by
   rcases gE.mp hb with rfl|hb
   .simp
   simp_all
  exact I1.fpOk lb (I1.hok.fresh lb)
 unfold zd at h;cases ew:ρ[i]? with
 | none=>rw[ew]at h;exact h.elim
 | some w =>
  rw[ew]at h;cases w with
  | none=>exact h.elim
  | some w =>
   obtain⟨v,e1,q⟩:=S.val i w ew;cases w with
   | ow d=>exact h.elim
   | lk d=>exact h.elim
   | od d=>exact h.elim
   | fz d =>
    cases d<;>first|exact h.elim|skip
    obtain⟨a,vs,rfl,hq,rs⟩:=q;exact#[a,e1,#[vs,SqL.le S.s hq],h F H _ (Gr.refl S.s) (YN (κ:=kx X) (λF' H' l1 l _=>SqL.le l (SqL.le l1 hq)) rs)]
   | br d =>
    obtain⟨a,o,rfl,eh,ro⟩:=q;cases d<;>first|exact h.elim|skip
    cases o<;>first|exact ro.elim|skip
    exact#[a,e1,#[_,SqL.of (S.gr.h _ _ eh)],h F H _ (Gr.refl S.s) (YN (κ:=kx X) (λF' H' _ _ lg=>SqL.le lg (SqL.of eh)) ro)]
section
variable{prog:af}{w:World}{A:ag}{E:aa->ab->Prop}{s:ab}
def ZF{i:Nat}{Q:aa->ab->Prop}(z:s.heap.IsTupleIter ia t i)(B:s.heap.IsTuple t vs)(O:vs[i]?=!x)
  (k:∀ h',h'.IsTupleIter ia t (i+1)->Heap.SameBut ia s.heap h'->Q x {s with heap:=h'}):wpAny (model prog w) A (Builtin.SmallTypes.nextOf (.ref ia)) Q E s:=by
 obtain⟨o,g1,g2,g3⟩:=id z;obtain⟨ot,g4,_,nt,g5⟩:=B;unfold Builtin.SmallTypes.nextOf;refine g6 (f8 z.typeIs fX (fL fX z.typeIs dD ?_ (du _)));show wpAny _ _ (field (.ref ia) 0 >>= _) _ _ s;refine g6 (fR g1 g3 (x:=.ref t) rfl ?_);refine g6 (fR g1 g3 rfl ?_);show wpAny _ _ (seqItems? (.ref t) >>= _) _ _ s;refine g6 (fA g4 g5 ?_);simp[fC,O];refine g6 (dR g1 g3 "s" (gu #[x,rfl,gu (k _ #[_,tZ _ g1 (Obj.isFreed_of_fields (dE g3 _)),(Obj.cls_mapFields ..).trans g2,?_] (p9 ..))]))
 rw[dE g3];simp[rawInt]
def YO{i:Nat}{Q:aa->ab->Prop}(B:A.handled=none)(z:s.heap.IsTupleIter ia t i)(O:s.heap.IsTuple t vs)(U:vs[i]?=none)
  (k:∀ h' e,Heap.ExtBut ia s.heap h'->(∃ o,h'.get? e=!o/\o.cls=.type "StopIteration")->E (.ref e) {s with heap:=h'}):wpAny (model prog w) A (Builtin.SmallTypes.nextOf (.ref ia)) Q E s:=by
 obtain⟨o,g1,g2,g3⟩:=id z;obtain⟨ot,g4,_,nt,g5⟩:=O;unfold Builtin.SmallTypes.nextOf;refine g6 (f8 z.typeIs fX (fL fX z.typeIs dD ?_ (du _)));show wpAny _ _ (field (.ref ia) 0 >>= _) _ _ s;refine g6 (fR g1 g3 (x:=.ref t) rfl ?_);refine g6 (fR g1 g3 rfl ?_);show wpAny _ _ (seqItems? (.ref t) >>= _) _ _ s;refine g6 (fA g4 g5 ?_);simp[fC,U];refine g6 (pG (g6 (dR g1 g3 "s" ?_)))
 show wpAny _ _ (newExc (.type "StopIteration") [] >>= _) _ _ _;refine g6 ?_;refine g6 (tX (g6 (wpAny_of_eq (a:=Value.none) (by first|rfl|(rfl)) (tX ?_ (by size_fits)))) (by size_fits))
 refine g6 (wpAny_handled ?_);first|rw[show A.in1.handled=none from B]|rw[B]
 exact g6 (gu (wpAny_throw (k _ _ (((p9 ..).extBut.push _).push _) #[_,gM _ rfl,rfl])))
structure ZA(zp tI tO ja jb t1 t2:Addr):Prop where
 nd:[zp,tI,tO,ja,jb].Nodup
 n1:t1∉[zp,tI,tO,ja,jb]
 n2:t2∉[zp,tI,tO,ja,jb]
def qbf{B O:Nat}{Q:Option aa->ab->Prop}(D:ZA zp tI tO ja jb t1 t2)(z:IsZip s.heap zp tI tO .none)(U:IsPair s.heap tI (.ref ja) (.ref jb))(Y:IsPair s.heap tO a b)
  (Z:s.heap.IsTupleIter ja t1 B)(g2:s.heap.IsTupleIter jb t2 O)(q1:s.heap.IsTuple t1 xs)(q2:s.heap.IsTuple t2 ys)(ex:xs[B]?=!x)(ey:ys[O]?=!y)
  (k:∀ h',IsZip h' zp tI tO (rawInt s[0])->IsPair h' tO x y->h'.IsTupleIter ja t1 (B+1)->h'.IsTupleIter jb t2 (O+1)->IsPair h' s[0] x y ->
   (∀ c o,c≠zp->c≠tO->c≠ja->c≠jb->s.heap.get? c=!o->h'.get? c=!o)->Q (!(.ref s[0])) {s with heap:=h'}):wpAny (model prog w) A (pyNext (.ref zp)) Q E s:=by
 obtain⟨nd,m1,m2⟩:=D;simp[tD,gE,px,bU,not_or,dQ,and_true,bS]at nd m1 m2;obtain⟨⟨a1,a2,a3,a4⟩,⟨b1,b2,b3⟩,⟨c1,c2⟩,d1⟩:=nd;obtain⟨e1,e2,e3,e4,e5⟩:=m1;obtain⟨f1,f2,f3,f4,f5⟩:=m2;have tz:s.TypeIs (.ref zp) "zip":=#[_,z,rfl];refine g6 (bV (f8 (name:=Str.ofString "__next__") tz cQ (fL cQ tz PySem.F.entry_zip_next ?_ (PySem.F.args_zip_next_1 _))));show wpAny _ _ (field (.ref zp) 2 >>= _) _ _ _;refine g6 (fR z rfl (x:=.bool false) rfl ?_);refine g6 (fR z rfl (x:=.ref tI) rfl (g6 (fA U rfl ?_)));refine g6 ?_;unfold Builtin.SmallTypes.ownedTupleIsFree;refine g6 (fR z rfl (x:=.none) rfl (gu ?_));refine g6 (pG (g6 (fR z rfl (x:=.ref tO) rfl (g6 (pV z "s" λh1 z1 s1=>?_)))))
 refine g6 ?_;simp only[b7,List.zipIdx_nil,bv,List.forIn_nil];refine g6 (g6 (bW ?_));refine g6 (ZF (Z.extBut s1.extBut (t9 a3)) (q1.extBut s1.extBut e1) ex λh2 w2 s2=>gu ?_)
 have o2:IsPair h2 tO a b:=s2.extBut _ _ c1 (s1.extBut _ _ (t9 a2) Y);refine g6 (fA o2 rfl (g6 (b9 o2 λh3 o3 s3=>?_)))
 refine g6 (pJ (gu (g6 (g6 (bW ?_)))));refine g6 (ZF (((g2.extBut s1.extBut (t9 a4)).extBut s2.extBut (t9 d1)).extBut s3.extBut (t9 c2)) (((q2.extBut s1.extBut f1).extBut s2.extBut f4).extBut s3.extBut f3) ey λh4 w4 s4=>gu ?_)
 have o4:IsPair h4 tO x b:=s4.extBut _ _ c2 o3;refine g6 (fA o4 rfl (g6 (b9 o4 λh5 o5 s5=>?_)))
 replace o5:IsPair h5 tO x y:=o5
 refine g6 (pJ (gu (gu (g6 (fA o5 rfl (g6 (wpAny_newTuple ?_)))))));have sz:h5.objs.size=s[0]:=by rw[s5.1,s4.1,s3.1,s2.1,s1.1]
 have z5:IsZip h5 zp tI tO .ellipsis:=s5.extBut _ _ a2 (s4.extBut _ _ a4 (s3.extBut _ _ a2 (s2.extBut _ _ a3 z1)));have w5:h5.IsTupleIter ja t1 (B+1):=((w2.extBut s3.extBut (t9 c1)).extBut s4.extBut d1).extBut s5.extBut (t9 c1);have v5:h5.IsTupleIter jb t2 (O+1):=w4.extBut s5.extBut (t9 c2);have lz:zp<h5.objs.size:=gP z5;show wpAny _ _ (Builtin.SmallTypes.ownedTupleHandOut (.ref zp) (.ref h5.objs.size) >>= _) _ _ _;refine g6 ?_;unfold Builtin.SmallTypes.ownedTupleHandOut;have z6:IsZip (h5.push {cls:=.type "tuple",data:=.seq (List.toArray [x,y])}) zp tI tO .ellipsis:=gq _ z5;refine g6 (pV z6 "s" λh7 z7 s7=>?_)
 replace z7:IsZip h7 zp tI tO (rawInt h5.objs.size):=z7
 refine pV z7 "s" λh8 z8 s8=>?_
 replace z8:IsZip h8 zp tI tO (rawInt h5.objs.size):=z8
 have up:∀ c o,c≠zp->h5.get? c=!o->h8.get? c=!o:=λc o n e=>s8.extBut _ _ n (s7.extBut _ _ n (gq _ e))
 have p8:IsPair h8 h5.objs.size x y:=s8.extBut _ _ (pR lz) (s7.extBut _ _ (pR lz) (gM _ rfl));rw[sz]at z8 p8;refine gu #[_,rfl,gu ?_];show Q (!(.ref h5.objs.size)) _;rw[sz];refine k h8 z8 (up _ _ (t9 a2) o5) (w5.at λo e=>up _ o (t9 a3) e) (v5.at λo e=>up _ o (t9 a4) e) p8 λc o n1 n2 n3 n4 e=>up c o n1 ?_
 exact s5.extBut _ _ n2 (s4.extBut _ _ n4 (s3.extBut _ _ n2 (s2.extBut _ _ n3 (s1.extBut _ _ n1 e))))
def qbg{B O:Nat}{Q:Option aa->ab->Prop}(U:A.handled=none)(D:ZA zp tI tO ja jb t1 t2)(z:IsZip s.heap zp tI tO .none)(gI:IsPair s.heap tI (.ref ja) (.ref jb))(gO:IsPair s.heap tO a b)
  (Y:s.heap.IsTupleIter ja t1 B)(g2:s.heap.IsTupleIter jb t2 O)(Z:s.heap.IsTuple t1 xs)(q2:s.heap.IsTuple t2 ys)(en:xs[B]?=none\/ys[O]?=none)
  (k:∀ h',(∀ c o,c≠zp->c≠tO->c≠ja->c≠jb->s.heap.get? c=!o->h'.get? c=!o)->Q none {s with heap:=h'}):wpAny (model prog w) A (pyNext (.ref zp)) Q E s:=by
 obtain⟨nd,m1,m2⟩:=D;simp[tD,gE,px,bU,not_or,dQ,and_true,bS]at nd m1 m2;obtain⟨⟨a1,a2,a3,a4⟩,⟨b1,b2,b3⟩,⟨c1,c2⟩,d1⟩:=nd;obtain⟨e1,e2,e3,e4,e5⟩:=m1;obtain⟨f1,f2,f3,f4,f5⟩:=m2;have tz:s.TypeIs (.ref zp) "zip":=#[_,z,rfl];have fin:∀ h' e,(∀ c o,c≠zp->c≠tO->c≠ja->c≠jb->s.heap.get? c=!o->h'.get? c=!o)->(∃ o,h'.get? e=!o/\o.cls=.type "StopIteration") ->
   wpAny (model prog w) A (do if <- isInstance (.ref e) (.type "StopIteration")then pure none else throw (.ref e)) Q E {s with heap:=h'}:=λh' e kp #[o,ho,hc] =>
  g6 (wpAny_isInstance (T:="StopIteration") (b:=true) #[o,ho,hc] isSubtype_stop (gu (k h' kp)))
 refine g6 (bV (f8 (name:=Str.ofString "__next__") tz cQ (fL cQ tz PySem.F.entry_zip_next ?_ (PySem.F.args_zip_next_1 _))));show wpAny _ _ (field (.ref zp) 2 >>= _) _ _ _;refine g6 (fR z rfl (x:=.bool false) rfl ?_);refine g6 (fR z rfl (x:=.ref tI) rfl (g6 (fA gI rfl ?_)));refine g6 ?_;unfold Builtin.SmallTypes.ownedTupleIsFree;refine g6 (fR z rfl (x:=.none) rfl (gu ?_));refine g6 (pG (g6 (fR z rfl (x:=.ref tO) rfl (g6 (pV z "s" λh1 z1 s1=>?_)))))
 replace z1:IsZip h1 zp tI tO .ellipsis:=z1
 refine g6 ?_;simp only[b7,List.zipIdx_nil,bv,List.forIn_nil];refine g6 (g6 (bW ?_));show wpAny _ _ (Builtin.SmallTypes.nextOf (.ref ja) >>= _) _ _ _;cases ex:xs[B]? with
 | none =>
  refine g6 (YO U (Y.extBut s1.extBut (t9 a3)) (Z.extBut s1.extBut e1) ex λh2 er s2 #[oe,w1,w2]=>?_)
  have z2:IsZip h2 zp tI tO .ellipsis:=s2 _ _ a3 z1;have nz:er≠zp:=λq=>by subst q;rw[z2]at w1;cases w1;simp at w2
  refine pV z2 "s" λh3 _ s3=>fin h3 er (λc o n1 _ n3 _ q=>s3.extBut _ _ n1 (s2 _ _ n3 (s1.extBut _ _ n1 q))) #[oe,s3.extBut _ _ nz w1,w2]
 | some x =>
  have ey:ys[O]?=none:=en.resolve_left (by rw[ex];exact λq=>nomatch q)
  refine g6 (ZF (Y.extBut s1.extBut (t9 a3)) (Z.extBut s1.extBut e1) ex λh2 w2 s2=>gu ?_)
  have o2:IsPair h2 tO a b:=s2.extBut _ _ c1 (s1.extBut _ _ (t9 a2) gO);refine g6 (fA o2 rfl (g6 (b9 o2 λh3 o3 s3=>g6 (pJ (gu (g6 (g6 (bW ?_))))))))
  show wpAny _ _ (Builtin.SmallTypes.nextOf (.ref jb) >>= _) _ _ _;refine g6 (YO U (((g2.extBut s1.extBut (t9 a4)).extBut s2.extBut (t9 d1)).extBut s3.extBut (t9 c2)) (((q2.extBut s1.extBut f1).extBut s2.extBut f4).extBut s3.extBut f3) ey λh4 er s4 #[oe,w1,w2]=>?_)
  have z4:IsZip h4 zp tI tO .ellipsis:=s4 _ _ a4 (s3.extBut _ _ a2 (s2.extBut _ _ a3 z1));have nz:er≠zp:=λq=>by subst q;rw[z4]at w1;cases w1;simp at w2
  refine pV z4 "s" λh5 _ s5=>fin h5 er (λc o n1 n2 n3 n4 q=>s5.extBut _ _ n1 (s4 _ _ n4 (s3.extBut _ _ n2 (s2.extBut _ _ n3 (s1.extBut _ _ n1 q))))) #[oe,s5.extBut _ _ nz w1,w2]
def qbh(t1 t2)(xs ys):Meets (Builtin.«zip.__new__» #[[.type "zip",.ref t1,.ref t2],[]]) (λ_ R s=>s.heap.IsTuple t1 xs/\s.heap.IsTuple t2 ys /\
   ∀ h',IsZip h' (s[0]+4) (s[0]+2) (s[0]+3) .none->IsPair h' (s[0]+2) (.ref s[0]) (.ref (s[0]+1))->IsPair h' (s[0]+3) .none .none ->
    h'.IsTupleIter s[0] t1 0->h'.IsTupleIter (s[0]+1) t2 0->(∀ c o,s.heap.get? c=!o->h'.get? c=!o)->R (.ok (.ret (.ref (s[0]+4)))) {s with heap:=h'}) :=
 .of_wp λprog w A R s h=>by
  obtain⟨hp,g,d,tk,os⟩:=s;obtain⟨u1,u2,k⟩:=h;have z:=sub_zip;have U1:Heap.IsTuple (Shared.heap #[hp,g,d,tk,os]) t1 xs:=u1;have U2:Heap.IsTuple (Shared.heap #[hp.push {cls:=.type "tuple_iterator",data:=.fields (List.toArray [.ref t1,.int 0 0])},g,d,tk,os]) t2 ys:=Heap.IsTuple.push u2 _
  wp_walk using bB U1,bB U2
  refine#[_,rfl,?_];have z1:(hp.push {cls:=.type "tuple_iterator",data:=.fields (List.toArray [.ref t1,.int 0 0])}).objs.size=hp.objs.size+1:=cG ..;generalize e1:hp.push {cls:=.type "tuple_iterator",data:=.fields (List.toArray [.ref t1,.int 0 0])}=H1 at *;have z2:(H1.push {cls:=.type "tuple_iterator",data:=.fields (List.toArray [.ref t2,.int 0 0])}).objs.size=hp.objs.size+2:=by rw[cG,z1]
  generalize e2:H1.push {cls:=.type "tuple_iterator",data:=.fields (List.toArray [.ref t2,.int 0 0])}=H2 at *;rw[z1];have q2:∀ c o,hp.get? c=!o->H2.get? c=!o:=λc o q=>by rw[<- e2,<- e1];exact gq _ (gq _ q)
  have ja:H2.get? hp.objs.size=some {cls:=.type "tuple_iterator",data:=.fields (List.toArray [.ref t1,.int 0 0])}:=by rw[<- e2,<- e1];exact gq _ (gM _ rfl)
  have jb:H2.get? (hp.objs.size+1)=some {cls:=.type "tuple_iterator",data:=.fields (List.toArray [.ref t2,.int 0 0])}:=by rw[<- e2,<- z1];exact gM _ rfl
  generalize e3:H2.push {cls:=.type "tuple",data:=.seq (List.toArray [.ref hp.objs.size,.ref (hp.objs.size+1)])}=H3;have z3:H3.objs.size=hp.objs.size+3:=by rw[<- e3,cG,z2]
  generalize e4:H3.push {cls:=.type "tuple",data:=.seq (List.toArray [.none,.none])}=H4;have z4:H4.objs.size=hp.objs.size+4:=by rw[<- e4,cG,z3]
  have p3:∀ c o,H2.get? c=!o->H3.get? c=!o:=λc o q=>by rw[<- e3];exact gq _ q
  have p4:∀ c o,H3.get? c=!o->H4.get? c=!o:=λc o q=>by rw[<- e4];exact gq _ q
  have w3:H3.get? (hp.objs.size+2)=some {cls:=.type "tuple",data:=.seq (List.toArray [.ref hp.objs.size,.ref (hp.objs.size+1)])}:=by rw[<- e3,<- z2];exact gM _ rfl
  have w4:H4.get? (hp.objs.size+3)=some {cls:=.type "tuple",data:=.seq (List.toArray [.none,.none])}:=by rw[<- e4,<- z3];exact gM _ rfl
  have fin:R (.ok (.ret (.ref H4.objs.size))) #[H4.push {cls:=.type "zip",data:=.fields (List.toArray [.none,.bool false,.bool false,.ref H2.objs.size,.ref H3.objs.size])},g,d,tk,os]:=by
   rw[z2,z3,z4];have w5:(H4.push {cls:=.type "zip",data:=.fields (List.toArray [.none,.bool false,.bool false,.ref (hp.objs.size+2),.ref (hp.objs.size+3)])}).get? (hp.objs.size+4)=some {cls:=.type "zip",data:=.fields (List.toArray [.none,.bool false,.bool false,.ref (hp.objs.size+2),.ref (hp.objs.size+3)])}:=by
    rw[<- z4];exact gM _ rfl
   exact k _ w5 (gq _ (p4 _ _ w3)) (gq _ w4) #[_,gq _ (p4 _ _ (p3 _ _ ja)),rfl,rfl] #[_,gq _ (p4 _ _ (p3 _ _ jb)),rfl,rfl] λc o q=>gq _ (p4 _ _ (p3 _ _ (q2 c o q)))
  rw[<- e4,<- e3]at fin;exact fin
def qbi{xs ys:Array aa}{Q:aa->ab->Prop}(z:s.heap.IsTuple t1 xs)(B:s.heap.IsTuple t2 ys)
  (k:∀ h',IsZip h' (s[0]+4) (s[0]+2) (s[0]+3) .none->IsPair h' (s[0]+2) (.ref s[0]) (.ref (s[0]+1))->IsPair h' (s[0]+3) .none .none ->
    h'.IsTupleIter s[0] t1 0->h'.IsTupleIter (s[0]+1) t2 0->(∀ c o,s.heap.get? c=!o->h'.get? c=!o)->Q (.ref (s[0]+4)) {s with heap:=h'}) :
  wpAny (model prog w) A (call (.type "zip") [.ref t1,.ref t2]) Q E s :=
 callType_new PySem.F.called_zip "d" (PySem.F.typeCall_zip_2 _ _) (PySem.F.newCall_zip_2 _ _) (λobj=>PySem.F.args_object_init_3 obj _ _) PySem.F.entry_zip_new (qbh t1 t2 xs ys)
  #[z,B,λh' b1 b2 b3 b4 b5 b6=>#[#[_,b1,rfl],k h' b1 b2 b3 b4 b5 b6]]
end
def Itz(K:Frag)(a b:Addr):It :=
 #[λi H=>∃ xs x ys y,SqT K H a xs/\xs[i]?=!x/\SqT K H b ys/\ys[i]?=!y,λi H v H'=>∃ p x y,H p=none/\v=.ref p/\H'=upd H p (.tup [x,y])/\(∀ xs,SqT K H a xs->xs[i]?=!x)/\∀ ys,SqT K H b ys->ys[i]?=!y,
  λi H=>∃ xs ys,SqT K H a xs/\SqT K H b ys/\(xs[1]<=i\/ys[1]<=i)]
def kS{h:Heap}(p:IsTup h a vs):h.IsTuple a vs:=p
def qbj{K:Frag}{k:Nat}(a b z B U Y Z:Addr)(D:ZA z B U Y Z a b) :
  Turn P w K (.Tuple es k tp) (Itz K a b) [z,B,U,Y,Z] z (λi h=>IsZip h z B U .none/\IsPair h B (.ref Y) (.ref Z)/\(∃ u v,IsPair h U u v)/\h.IsTupleIter Y a i/\h.IsTupleIter Z b i)where
 mem:=by simp
 obj:=λi h #[q1,q2,#[u,v,q3],#[o4,q4,_,d4],#[o5,q5,_,d5]] c hc=>by
  grind
 keep:=λi h h' #[q1,q2,#[u,v,q3],q4,q5] kk=>#[kk z "s" _ q1,kk B "s" _ q2,#[u,v,kk U "s" _ q3],q4.at λo q=>kk Y "s" o q,q5.at λo q=>kk Z "s" o q]
 item:=by
  intro X hP hw hK hc i pins s σ H E I hf ⟨q1,q2,⟨u,v,q3⟩,q4,q5⟩ ⟨xs,x,ys,y,sx,hx,sy,hy⟩;subst hP hw hK;obtain⟨its,rv,p,_⟩:=I.tuple sx;obtain⟨ux,hu,ru⟩:=rv.get hx;obtain⟨its',O,p',_⟩:=I.tuple sy;obtain⟨uy,hu',ru'⟩:=O.get hy;obtain⟨nd,m1,m2⟩:=id D;simp[tD,gE,px,bU,not_or,dQ,and_true,bS]at nd m1 m2;obtain⟨⟨a1,a2,a3,a4⟩,⟨b1,b2,b3⟩,⟨c1,c2⟩,d1⟩:=nd;refine qbf D q1 q2 q3 q4 q5 (kS p) (kS p') (x:=ux) (y:=uy) hu[""] hu'[""] λh1 g1 g2 g3 g4 g5 kp=>#[_,rfl,?_]
  refine wpAny_letOwnedTupleGo_zip (s:={s with heap:=h1}) g1 λh2 gz sb=>?_
  have neZ:s[0]≠z:=pR (gP q1);have T2:h2.get? s[0]=some {cls:=.type "tuple",data:=.seq (List.toArray [ux,uy])}:=(sb.2 _ neZ).trans g5;refine#[.ref s[0],upd H s[0] (.tup [x,y]),YL (s:=s) (t':=s.toks) (its:=[ux,uy]) I hf (λc o nc ho=>?_) (gy _) #[_,T2,rfl,_,rfl] (.cons ru (.cons ru' .nil)) (by simp[pp]),rfl,
   #[_,x,y,I.hok.fresh (gy _),rfl,rfl,λzs hz=>by rw[I.tuple_inj hz sx];exact hx,λzs hz=>by rw[I.tuple_inj hz sy];exact hy],
   #[gz,(sb.2 B (t9 a1)).trans (kp B _ (t9 a1) b1 b2 b3 q2),#[ux,uy,(sb.2 U (t9 a2)).trans g2],g3.at λo q=>(sb.2 Y (t9 a3)).trans q,g4.at λo q=>(sb.2 Z (t9 a4)).trans q],λc hc=>?_]
  .have n1:c≠z:=λq=>nc (by simp[q])
   exact(sb.2 c n1).trans (kp c o n1 (λq=>nc (by simp[q])) (λq=>nc (by simp[q])) (λq=>nc (by simp[q])) ho)
  rw[qt]
  .exact(hf c hc).1
  have lt:∀{c o},s.heap.get? c=!o->c≠s[0]:=λq=>t3 (gP q)
  simp[gE,px,bU]at hc;rcases hc with rfl|rfl|rfl|rfl|rfl
  .exact lt q1
  .exact lt q2
  .exact lt q3
  .obtain⟨o,q,_⟩:=q4;exact lt q
  obtain⟨o,q,_⟩:=q5;exact lt q
 done:=by
  intro X hP hw hK hc i pins s σ H E I hf ⟨q1,q2,⟨u,v,q3⟩,q4,q5⟩ ⟨xs,ys,sx,sy,hl⟩;subst hP hw hK;obtain⟨its,rv,p,_⟩:=I.tuple sx;obtain⟨its',O,p',_⟩:=I.tuple sy;have l1:=rv[1];have l2:=O[1];refine qbg (I.ok.hd hc) D q1 q2 q3 q4 q5 (kS p) (kS p') (by rcases hl with hl|hl;exact .inl (by simp;lia);exact .inr (by simp;lia)) λh1 kp=>#[rfl,YK (t':=s.toks) I hf λc o nc ho=>?_]
  exact kp c o (λq=>nc (by simp[q])) (λq=>nc (by simp[q])) (λq=>nc (by simp[q])) (λq=>nc (by simp[q])) ho
 self:=λ_ _ _ _ _ #[q1,_] h=>wpAny_pyIter_zip q1 h
def zipd:List D->List D->List D
 | x::xs,y::ys=>.tup [x,y]::zipd xs ys
 | _,_=>[]
theorem YQ:∀ xs ys (i:Nat) d,(zipd xs ys)[i]?=!d->∃ x y,xs[i]?=!x/\ys[i]?=!y/\d=.tup [x,y]
 | [],_,_,_,h=>by simp[zipd]at h
 | _::_,[],_,_,h=>by simp[zipd]at h
 | x::xs,y::ys,0,d,h=>by simp[zipd]at h;exact#[x,y,rfl,rfl,h.symm]
 | x::xs,y::ys,i+1,d,h=>by
  obtain⟨u,v,e1,e2,e3⟩:=YQ xs ys i d (by simpa[zipd]using h)
  exact#[u,v,by simpa using e1,by simpa using e2,e3]
theorem YR:∀ xs ys i,(zipd xs ys)[1]<=i->xs[1]<=i\/ys[1]<=i
 | [],_,_,_=>.inl "s"
 | _::_,[],_,_=>.inr "s"
 | x::xs,y::ys,0,h=>by simp[zipd]at h
 | x::xs,y::ys,i+1,h=>by
  have:=YR xs ys i (by simpa[zipd]using h)
  simpa using this
def qbk{κ:Kx}(h1:SqT κ.K F1 a vs)(z:Reps κ F1 vs ds)(h2:SqT κ.K F1 b us)(B:Reps κ F1 us es):Walk κ (Itz κ.K a b) F1 G (zipd ds es)where
 go:=λi x F H ed l1 l lg=>by
  obtain⟨d,e,e1,e2,rfl⟩:=YQ ds es i x ed;obtain⟨v,ev,rv⟩:=Reps.get z e1;obtain⟨u,eu,ru⟩:=Reps.get B e2;have q1:=SqT.le l (SqT.le l1 h1);have q2:=SqT.le l (SqT.le l1 h2);refine#[#[vs,v,us,u,q1,ev,q2,eu],λy H' zp=>?_]
  obtain⟨p,y1,y2,hp,rfl,rfl,w1,w2⟩:=zp;have z1:=w1 vs q1;rw[ev]at z1;cases z1;have z2:=w2 us q2;rw[eu]at z2;cases z2;have up:Le F (upd F p (.tup [v,u])):=λc o zp=>by rw[qt (jG zp (Le.none l hp))];exact zp
  exact#[_,Gr.newF l hp,p,[v,u],rfl,.inl (.inl qH),_,_,rfl,Rep.le up d (Rep.le l1 d rv),_,_,rfl,Rep.le up e (Rep.le l1 e ru),rfl]
 stop:=λi F H hi l1 l lg=>#[vs,us,SqT.le l (SqT.le l1 h1),SqT.le l (SqT.le l1 h2),by rw[Reps.length z,Reps.length B];exact YR ds es i hi]
def uc(i j:Nat):IF:=λρ=>match ρ[i]?,ρ[j]? with
 | some (!(.tup ds)[8]),!(!(.tup es)[8])=>.ok (zipd ds es)
 | _,_=>.stuck
def qbl(i j){X:Cx}{k:Nat}(hm:X.mg "zip"=none)(hN:(Nm X i x)["t"])(U:(X.N[j]?=!y)["r"])(Y:(Vis X.env.scope y)["t"])(Z:((y==("__debug__"))=false)["d"])
  (O:((y==("__classdict__"))=false)["d"])(hg:(Gl X "zip")["r"])(hs:(starEach [.Name x pos,.Name y pos2] X.env=(false,eval (.Name x pos) X.env)::starEach [.Name y pos2] X.env)["r"])(hs2:(starEach [.Name y pos2] X.env=[(false,eval (.Name y pos2) X.env)])["r"])
  (hpl:((backTo cp (starEach [.Name y pos2] X.env)).any (·.1)=false)["r"]):SI X F0 H0 (.Tuple es k tp) (.Call (.Name "zip" np) [.Name x pos,.Name y pos2] [] cp) (uc i j):=by
 refine#[λσ H R=>∃ a b,σ[i]?=!(!(.ref a))/\σ[j]?=!(!(.ref b))/\(∃ xs,SqT X.K H a xs)/\(∃ xs,SqT X.K H b xs)/\R (Itz X.K a b) H,λpins s σ H R I #[a,b,hσ,hσ2,#[xs,hq],#[ys,B],hR]=>?_,λσ F H ρ R S h=>?_]
 .refine Call_ (zD I hg hm boot_zip (tu ?_ hs hpl));refine hZ (thn (pvN (pos:=pos) hN pins s σ H (λv' H'=>v'=.ref a/\H'=H) I #[_,hσ,rfl,rfl]) λu s1 #[v1,H1,I1,r1,e1,e2]=>?_)
  subst e1 e2;obtain rfl:u=Value.ref a:=r1;refine hZ (thn (Wt (pos:=pos2) U Y Z O pins s1 σ H1 (λv' H'=>v'=.ref b/\H'=H1) I1 #[_,hσ2,rfl,rfl]) λu s2 #[v2,H2,I2,r2,e1,e2]=>?_)
  subst e1 e2;obtain rfl:u=Value.ref b:=r2;refine tH ?_;obtain⟨its,rv,p,hz⟩:=I2.tuple hq;obtain⟨its',rv',p',hz'⟩:=I2.tuple B;refine qbi (kS p) (kS p') λh' g1 g2 g3 g4 g5 kp=>?_
  refine wpAny_pyIter_zip (s:={s2 with heap:=h'}) g1 ?_;have la:a<s2[0]:=by obtain⟨o,q,_⟩:=p;exact gP q
  have lb:b<s2[0]:=by obtain⟨o,q,_⟩:=p';exact gP q
  have z:∀{t m},t<m->∀ k,t≠m+k:=λh k=>t3 (tq h (Nat.le_add_right _ _))
  refine#[_,_,_,_,H2,rfl,I2.kept (t':=s2.toks) kp,qbj a b (s2[0]+4) (s2[0]+2) (s2[0]+3) s2[0] (s2[0]+1) #[by simp,?_,?_],#[g1,g2,#[_,_,g3],g4,g5],λc hc=>?_,hR]
  .simp[gE,px,bU,not_or];exact#[z la 4,z la 2,z la 3,z la 0,z la 1]
  .simp[gE,px,bU,not_or];exact#[z lb 4,z lb 2,z lb 3,z lb 0,z lb 1]
  have lc:s2[0]<=c:=by
   simp[gE,px,bU]at hc;rcases hc with rfl|rfl|rfl|rfl|rfl<;>lia
  exact I2.fpOk lc (I2.hok.fresh lc)
 unfold uc at h;cases e1:ρ[i]? with
 | none=>rw[e1]at h;exact h.elim
 | some w1 =>
  cases e2:ρ[j]? with
  | none=>rw[e1,e2]at h;cases w1 with|none=>cases h|some w=>cases w<;>first|exact h.elim|(rename_i d;cases d<;>exact h.elim)
  | some w2 =>
   rw[e1,e2]at h;cases w1 with
   | none=>cases h
   | some w1 =>
    cases w1<;>first|exact h.elim|skip
    rename_i d1;cases d1<;>first|exact h.elim|skip
    cases w2 with
    | none=>cases h
    | some w2 =>
     cases w2<;>first|exact h.elim|skip
     rename_i d2;cases d2<;>first|exact h.elim|skip
     obtain⟨v,q1,a,vs,rfl,hq,rs⟩:=S.val i _ e1;obtain⟨v2,q2,b,vs2,rfl,B,rs2⟩:=S.val j _ e2;exact#[a,b,q1,q2,#[vs,SqT.le S.s hq],#[vs2,SqT.le S.s B],h F H _ (Gr.refl S.s) (qbk (κ:=kx X) hq rs B rs2)]
section
variable{X:Cx}
def YS:zF X (.type "tuple") yi:=kq TJ λF H xs ds Q l qx w=>by
 cases qx with
 | nil=>exact w.elim
 | @cons x d xs ds q1 q2 =>
  cases q2 with
  | cons _ _=>cases d<;>exact w.elim
  | nil =>
   cases d<;>first|exact w.elim|skip
   .obtain⟨p,vs,rfl,hq,B,rs⟩:=RdV.tup l q1;exact#[p,vs,rfl,.inr #[hq,w _ F H (Gr.refl l) #[p,vs,rfl,B,rs]]]
   obtain⟨p,vs,rfl,hq,rs⟩:=RdV.lst l q1;refine#[p,vs,rfl,.inl #[hq,λq hn=>?_]]
   have up:Le F (upd F q (.tup vs)):=λc o z=>by rw[qt (jG z (Le.none l hn))];exact z
   exact w _ _ _ (Gr.newF l hn) #[q,vs,rfl,.inl (.inl qH),Reps.le up _ rs]
end
def qbm:typeLookup (.type "list_reverseiterator") "__len__"=pure none:=by rw[typeLookup_type,builtinLookup_eq_fast];kernel_rfl
def qbn:typeLookup (.type "list_reverseiterator") "__length_hint__"=pure (!(.builtin "list_reverseiterator.__length_hint__")):=by rw[typeLookup_type,builtinLookup_eq_fast];kernel_rfl
def qbo:isSubtype (.type "list_reverseiterator") (.type "list_reverseiterator")=pure true:=by rw[isSubtype_type];kernel_rfl
def qio:splitId "list_reverseiterator.__length_hint__"=!("list_reverseiterator","__length_hint__"):=by decide +kernel
section
variable{prog:af}{w:World}{A:ag}{E:aa->ab->Prop}{s:ab}{I l:Addr}{items:Array aa}
def qbp{R:Result->ab->Prop}{z:Nat}(Y:A.in1.handled=none)(Z:s.heap.IsList l items)(O:s.heap.IsRevIter I l ((items.size)-1))(ne:l≠I)(s1:S≠l)(U:S≠I)(hn:items.size<=sizeLine)
  (gS:s.heap.get? S=↑#[.type "list",none,.seq #[] z,#[]])
  (hR:∀ s' B c',Moved [S,I] (λa b=>b=a) s s'->s'.heap.get? S=some {cls:=.type "list",dict:=none,data:=.seq B c',slots:=#[]}->ItemsOf (λi v=>items[items.size-1-i]?=!v) B items.size->R (.ok (.ret .none)) s') :
  wpAny (model prog w) A.in1 (Builtin.List.listExtendWith (.ref S) (.ref I) .none)
   (λy t=>match y with|.done f=>R (.ok f) t|.again q=>q.quiet=true/\codeAny (model prog w) A q R t) (λe t=>R (.error e) t) s:=by
 have W:=(Walks.listRev (prog:=prog) (w:=w) (A:=A.in1) Y I l ne items).toS;have T:=O.typeIs;unfold Builtin.List.listExtendWith;refine g6 (bD T ?_);have q1:Builtin.List.listSameRef (.ref S) (.ref I)=false:=by simp[Builtin.List.listSameRef,U]
 have q3:(Value.type "list_reverseiterator"==Value.type "tuple")=false:=by decide
 simp only[q1,q3,Bool.or_false,tS,pZ];refine g6 (bg O ?_);refine g6 (fB ?_);refine g6 (wpAny_specialOf T qbm ?_);refine g6 (wpAny_specialOf T qbn ?_);refine g6 (wpAny_isInstance T qbo ?_);refine gu ?_;refine gu #[pU F.plain_extend_loop _,codeAny_extend_loopS W hn S (by simp[s1,U]) .none items.size 0 s #[] z rfl (tK _) #[tK _,by simpa using O,Z] gS (ItemsOf.nil _) hR]
def qbq{K:aa->ab->Prop}(U:A.handled=none)(B:s.heap.IsList l items)(O:s.heap.IsRevIter I l ((items.size)-1))(ne:l≠I)(Y:items.size<=sizeLine)
  (Z:∀ h' tk c,(∀ b o,b≠I->s.heap.get? b=!o->h'.get? b=!o)->h'.get? s[0]=some {cls:=.type "list",dict:=none,data:=.seq items[2].reverse.toArray c,slots:=#[]}->K (.ref s[0]) {s with heap:=h',toks:=tk}) :
  wpAny (model prog w) A (call (.type "list") [.ref I]) K E s:=by
 obtain⟨oI,gI,rI⟩:=id O;obtain⟨oL,gL,rL⟩:=id B;have nI:s[0]≠I:=pR (gP gI);have nL:s[0]≠l:=pR (gP gL);refine callType_codes (Q₁:=λob t=>ob=.ref s[0]/\t={s with heap:=s.heap.push {cls:=.type "list",data:=.seq #[]}}) F.called_list (F.typeCall_list_1 _) F.entry_list_init (code_list_new _ #[rfl,rfl]) λob t h1=>?_
 obtain⟨rfl,rfl⟩:=h1;have gS:(s.heap.push {cls:=.type "list",data:=.seq #[]}).get? s[0]=some {cls:=.type "list",data:=.seq #[]}:=gM _ rfl;refine#[#[_,gS,rfl],F.args_list_init_2 _ _,?_];refine g6 (m:=Builtin.List.listItems (.ref s[0])) (wpAny_listItems gS rfl (g6 (m:=updateSeq s[0] λ_=>#[]) (cu gS rfl (g6 (pJ ?_)))))
 have g2:=tZ (Obj.mapSeq λ_=>(#[])) gS rfl
 have kp:∀ b o,b≠s[0]->s.heap.get? b=!o->((s.heap.push {cls:=.type "list",data:=.seq #[]}).update s[0] (Obj.mapSeq λ_=>(#[]))).get? b=↑o :=
  λb o nb e=>(tJ _ _ (t9 nb)).trans (gq _ e)
 refine qbp (A:=A.in1) U (B.at λo e=>kp l o (t9 nL) e) (O.at λo e=>kp I o (t9 nI) e) ne nL nI Y g2 λs' z c mv gA ia=>#[rfl,?_]
 have ea:z=items[2].reverse.toArray:=by
  refine Array.ext_getElem? λi=>?_
  by_cases c:i<items.size
  .have:=ia.2 i (z[i]'(by rw[ia.1];exact c)) (Array.getElem?_eq_getElem _)
   rw[Array.getElem?_eq_getElem (by rw[ia.1];exact c),<- this]
   simp[List.getElem?_toArray];rw[List.getElem?_reverse c[""]]
   simp
  rw[dI (by rw[ia.1];lia),dI (by simp;lia)]
 subst ea;obtain⟨h',g',d',t',os'⟩:=s';obtain⟨mh,mg,md,mo,mt⟩:=mv;dsimp only at mh mg md mo gA;subst mg md mo;exact Z h' t' c (λb o nb e=>mh b o (by simp[nb,t3 (gP e)]) (kp b o (t3 (gP e)) e)) gA
end
def ZG(f:EF):EF:=λρ=>(f ρ).bind λw=>match w.d with
 | .lst ds=>.ok (.lst ds.reverse)[9]
 | _=>.stuck
theorem YT:∀{ds} {vs},Reps κ F vs ds->Reps κ F vs.reverse ds.reverse
 | [],vs,h=>by cases (show vs=[]from h);exact h
 | d::r,vs,h=>by
  obtain⟨v,us,rfl,q1,q2⟩:=h;simp[bO];exact Reps.append (YT q2) (Reps.one q1)
section
variable{X:Cx}{F0 H0:Hp}{p p2 c1 c2:Pos}
def qbr(Z:"S" e f)(hm:X.mg "list"=none)(z:X.mg "reversed"=none)(hc:(X.calm=true)["r"])(hg:(Gl X "list")["r"])(B:(Gl X "reversed")["r"])
  (U:(starEach [e] X.env=[(false,eval e X.env)])["r"])(O:(starEach [.Call (.Name "reversed" p2) [e] [] c2] X.env=[(false,eval (.Call (.Name "reversed" p2) [e] [] c2) X.env)])["r"]) :
  "S" (.Call (.Name "list" p) [.Call (.Name "reversed" p2) [e] [] c2] [] c1) (ZG f):=by
 refine λpins s σ F H ρ Q S I h=>fw (zD I hg hm pL (tu ?_ O rfl))
 refine hZ ?_;refine fw (zD I B z PyProof.Rows.boot_reversed (tu ?_ U rfl));rw[U];refine hZ (Z pins s σ F H ρ _ S I ((KE.bind h).imp λw k v u F1 H1 s1 g1 q1 r1 I1=>tH ?_))
 have qx:=Vok.rd q1
 revert k qx
 generalize w.d=d;intro k qx;cases d<;>first|exact k.elim|skip
 rename_i ds;obtain⟨a,vs,rfl,hq,rs⟩:=RdV.lst g1.s qx;cases r1;obtain⟨its,rv,pl,hz⟩:=I1.list hq;have hl:=pl.isList;have Y:=rv[1];refine call_reversed_list hl (tH ?_);have na:a≠s1[0]:=by
  obtain⟨o,go,_⟩:=hl;exact t3 (gP go)
 refine qbq (I:=s1[0]) (l:=a) (items:=its.toArray) (I1.ok.hd hc) (hl.at λo e=>gq _ e) #[_,gM _ rfl,rfl,rfl] na (by rw[gU];lia) λh' tk c kp gA=>?_
 have lt:s1[0]<=(s1.heap.push (revObj a ((its.toArray.size)-1))).objs.size:=by rw[cG];exact bw _
 have hn:=I1.hok.fresh lt;refine k (.ref _) _ F1 _ _ (g1.trans (Gr.new g1.s hn)) #[_,.lst vs.reverse,rfl,Le.none g1.h hn,Le.none g1.s hn,qH,YT rs] rfl (I1.laid (t':=tk) (λb o e=>kp b o (t3 (gP e)) (gq _ e)) lt ?_)
 exact#[by simpa using hz,its.reverse,c,rv.reverse,by simpa using gA]
variable{pos:Pos}
end
section
open PySem.SeqAt PySem.MeetsSeq PySem.MeetsSeq2 PySem.MeetsSeq3
open PySem.AutoSeq1 (wpAny_loadPart')
end
section
variable{X:Cx}
end
def fzIn(F H:Hp)(bs:List Addr):Hp:=λa=>if a∈bs then H a else F a
section
variable{κ:Kx}{F0 H0 F H:Hp}{ρ:Rho}{σ:St}
theorem Inn.repT:∀{bs} {kds},Inn κ H0 F H bs (kds.map Prod.snd)->(∀ b∈bs,G b=H b)->Le F G->RepT κ G ((kds.map Prod.fst).zip (bs.map V.ref)) kds
 | [],[],_,_,_=>rfl
 | [],_::_,h,_,_=>h.elim
 | _::_,[],h,_,_=>h.elim
 | b::bs,(k0,e)::es,h,k,l=>by
  obtain⟨⟨us,xs,e1,_,_,hh,r⟩,h⟩:=h;subst e1;exact#[.ref b,(es.map Prod.fst).zip (bs.map V.ref),rfl,#[b,us,rfl,SqL.of ((k b "s").trans hh),Reps.le l _ r],Inn.repT h (λc m=>k c (gj _ m)) l]
theorem Inn.len:∀{bs} {ds},Inn κ H0 F H bs ds->bs[1]=ds[1]
 | [],[],_=>rfl
 | [],_::_,h=>h.elim
 | _::_,[],h=>h.elim
 | b::bs,e::es,h=>by rw[gK,gK,Inn.len h.2]
def StOk.shutG{i:Nat}(S:StOk κ F0 H0 F H ρ σ)(ei:ρ[i]?=!(!(.od d)))
  (ow:∀ a bs o,Deep κ H0 F H a bs d->(∀ c∈bs,fzIn F H bs c=H c)->Le F (fzIn F H bs)->H a=!o->OwnO κ (fzIn F H bs) o d'):∃ F',Le F F'/\StOk κ F0 H0 F' H (ρ.set i (!d'[9])) σ:=by
 obtain⟨sh,a,bs,si,h0,hf,nd,dp,sp⟩:=S.dp i d ei;have na:=(tD.mp nd).1;have B:∀{c},c∉bs->fzIn F H bs c=F c:=λ{c} n=>if_neg n
 have inn:∀{c},c∈bs->fzIn F H bs c=H c:=λ{c} n=>if_pos n
 have l:Le F (fzIn F H bs):=λc u h=>by
  by_cases m:c∈bs
  .rw[inn m];exact S.s c u h
  rw[B m];exact h
 have own:∀{o},H a=!o->OwnO κ (fzIn F H bs) o d':=λ{o} ho=>ow a bs o dp (λc m=>inn m) l ho
 refine#[fzIn F H bs,l,#[#[Le.trans S.gr.f l,S.gr.h,λc u h=>?_,λc h=>?_],by simpa using S.len,λj w e=>?_,λj k w w' c O ej ek oj ok sj sk=>?_,λj y e=>?_]]
 .by_cases m:c∈bs
  .rw[inn m]at h;exact h
  rw[B m]at h;exact S.s c u h
 .by_cases m:c∈bs
  .obtain⟨us,z,_⟩:=Deep.inn dp m;exact .inr (.inl z)
  rw[B m]at h;exact S.gr.n c h
 .rcases qB e with⟨rfl,z⟩|⟨ne,z⟩
  .cases z;obtain⟨o,ho,_⟩:=Deep.top dp;exact#[_,si,a,o,rfl,h0,by rw[B na];exact hf,ho,own ho]
  obtain⟨v,e1,q⟩:=S.val j w z;refine#[v,e1,?_];have nb:∀{c},v=.ref c->w.own=true->c∉bs:=λ{c} ev ow m=>by
   subst ev;exact sp j w c ne z ow (gj _ m) e1
  cases w with
  | fz d=>exact Rep.le l d q
  | br d=>obtain⟨c,oc,ec,eh,cr⟩:=q;exact#[c,oc,ec,eh,OwnO.le l cr]
  | ow d=>obtain⟨c,oc,ec,c0,cf,ch,cr⟩:=q;exact#[c,oc,ec,c0,by rw[B (nb ec rfl)];exact cf,ch,OwnO.le l cr]
  | lk d=>exact#[Rep.le l d q.1,RawT.le l q.2]
  | od d=>exact(sh j d ne z).elim
 .have at_:∀{m:Nat} {y},(ρ.set i (!d'[9]))[m]?=!(!y)->y.own=true->∃ y',ρ[m]?=!(!y')/\y'.own=true:=λ{m y} h oy=>by
   rcases qB h with⟨rfl,_⟩|⟨_,z⟩
   .exact#[_,ei,rfl]
   exact#[y,z,oy]
  obtain⟨y,U,Y⟩:=at_ ej oj;obtain⟨y',Z,ok'⟩:=at_ ek ok;exact S.sep j k y y' c O U Z Y ok' sj sk
 rcases qB e with⟨_,z⟩|⟨ne,z⟩
 .lia
 exact(sh j y ne z).elim
def StOk.shut{i:Nat}(S:StOk κ F0 H0 F H ρ σ)(B:ρ[i]?=!(!(.od d)))(O:∀ k,d≠.dK k)(U:∀ k,d≠.tup k):∃ F',Le F F'/\StOk κ F0 H0 F' H (ρ.set i (!d[9])) σ :=
 S.shutG B λa bs o dp z l ho=>by
  cases d<;>first|exact(False.elim dp)|exact(O _ rfl).elim|exact(U _ rfl).elim|skip
  .have e:=dp.1;rw[ho]at e;cases e;exact Inn.reps dp.2 (λb m=>z b m) l
  have e:=dp.1;rw[ho]at e;cases e;exact Inn.repT dp.2 (λb m=>z b m) l
def vG(i:Nat)(ρ:Rho):Bool:=(ρ.set i none).all λo=>match o with|some (.od _)=>false|_=>true
def YU(h:vG i ρ=true):shal i ρ:=λj d hj e=>by
 have m:(ρ.set i none)[j]?=!(!(.od d)):=by rw[h9 (t9 hj)];exact e
 have:=pO.mp h _ (t8 m);cases this
def StOk.open0{i:Nat}(S:StOk κ F0 H0 F H ρ σ)(U:ρ[i]?=!(!d[9]))(hd:d=.lst []\/d=.dT [])(sh:shal i ρ):StOk κ F0 H0 F H (ρ.set i (!(.od d))) σ:=by
 obtain⟨v,si,a,o,rfl,h0,hf,hh,ro⟩:=S.val i _ U;have dp:Deep κ H0 F H a [] d:=by
  rcases hd with rfl|rfl
  .cases o<;>first|exact ro.elim|skip
   cases (ro);exact#[hh,trivial]
  cases o<;>first|exact ro.elim|skip
  cases (ro);exact#[hh,trivial]
 have at_:∀{m:Nat} {y},(ρ.set i (!(.od d)))[m]?=!(!y)->y.own=true->∃ y',ρ[m]?=!(!y')/\y'.own=true:=λ{m y} h oy=>by
  rcases qB h with⟨rfl,_⟩|⟨_,z⟩
  .exact#[_,U,rfl]
  exact#[y,z,oy]
 refine#[S.gr,by simpa using S.len,λj w e=>?_,λj k w w' c Y ej ek oj ok sj sk=>?_,λj y e=>?_]
 .rcases qB e with⟨rfl,z⟩|⟨ne,z⟩
  .cases z;exact#[_,si,a,o,rfl,h0,hf,hh,OwnO.noTup ro]
  exact S.val j w z
 .obtain⟨y,Z,oj'⟩:=at_ ej oj;obtain⟨y',B,O⟩:=at_ ek ok;exact S.sep j k y y' c Y Z B oj' O sj sk
 rcases qB e with⟨rfl,z⟩|⟨ne,z⟩
 .cases z;refine#[λk z hk ek=>?_,a,[],si,h0,hf,by simp,dp,λk w b hk ek ok m sk=>?_]
  .rcases qB ek with⟨rfl,_⟩|⟨_,q⟩
   .exact hk rfl
   exact sh k z hk q
  obtain rfl:b=a:=by simpa using m
  obtain⟨y',B,O⟩:=at_ ek ok;exact S.sep k j y' _ b hk B U O rfl sk si
 exact(sh j y ne z).elim
def StOk.turn{d d':D}{a:Addr}{bs bs':List Addr}{H':Hp}(S:StOk κ F0 H0 F H ρ σ)(ei:ρ[i]?=!(!(.od d)))(si:σ[i]?=!(!(.ref a)))(Z:shal i ρ)
  (sp:∀ j w b,j≠i->ρ[j]?=!(!w)->w.own=true->b∈a::bs->σ[j]?≠!(!(.ref b)))
  (B:∀ c,c∉a::bs'->H' c=H c)(sub:∀ b∈bs',b∈bs\/∀(j:Nat) w,ρ[j]?=!(!w)->w.own=true->σ[j]?≠!(!(.ref b)))
  (h0:∀ c∈a::bs',H0 c=none)(hf:∀ c∈a::bs',F c=none)(nd:(a::bs').Nodup)(dp:Deep κ H0 F H' a bs' d'):StOk κ F0 H0 F H' (ρ.set i (!(.od d'))) σ:=by
 have O:∀ j w b,j≠i->ρ[j]?=!(!w)->w.own=true->b∈a::bs'->σ[j]?≠!(!(.ref b)):=λj w b hj ej ow m=>by
  rcases gE.mp m with rfl|m
  .exact sp j w _ hj ej ow "s"
  rcases sub b m with z|z
  .exact sp j w b hj ej ow (gj _ z)
  exact z j w ej ow
 have at_:∀{m:Nat} {y},(ρ.set i (!(.od d')))[m]?=!(!y)->y.own=true->∃ y',ρ[m]?=!(!y')/\y'.own=true:=λ{m y} h oy=>by
  rcases qB h with⟨rfl,_⟩|⟨_,z⟩
  .exact#[_,ei,rfl]
  exact#[y,z,oy]
 have U:∀{c u},H0 c=!u->c∉a::bs':=λ{c u} e m=>by rw[h0 c m]at e;cases e
 have Y:∀{c u},F c=!u->c∉a::bs':=λ{c u} e m=>by rw[hf c m]at e;cases e
 refine#[#[S.gr.f,λc u h=>(B c (U h)).trans (S.gr.h c u h),λc u h=>(B c (Y h)).trans (S.s c u h),S.gr.n],by simpa using S.len,λj w e=>?_,λj k w w' c hjk ej ek oj ok sj sk=>?_,λj y e=>?_]
 .rcases qB e with⟨rfl,z⟩|⟨ne,z⟩
  .cases z;obtain⟨o,ho,nt⟩:=Deep.top dp;exact#[_,si,a,o,rfl,h0 a "s",hf a "s",ho,nt]
  obtain⟨v,e1,q⟩:=S.val j w z;refine#[v,e1,?_];have nb:∀{c},v=.ref c->w.own=true->c∉a::bs':=λ{c} ev ow m=>by
   subst ev;exact O j w c ne z ow m e1
  cases w with
  | fz d=>exact q
  | br d=>exact q
  | ow d=>obtain⟨c,oc,ec,c0,cf,ch,cr⟩:=q;exact#[c,oc,ec,c0,cf,(B c (nb ec rfl)).trans ch,cr]
  | lk d=>exact q
  | od d=>exact(Z j d ne z).elim
 .obtain⟨y,ej',oj'⟩:=at_ ej oj;obtain⟨y',ek',ok'⟩:=at_ ek ok;exact S.sep j k y y' c hjk ej' ek' oj' ok' sj sk
 rcases qB e with⟨rfl,z⟩|⟨ne,z⟩
 .cases z;refine#[λk z hk ek=>?_,a,bs',si,h0 a "s",hf a "s",nd,dp,λk w b hk ek ok m=>?_]
  .rcases qB ek with⟨rfl,_⟩|⟨_,q⟩
   .exact hk rfl
   exact Z k z hk q
  rcases qB ek with⟨rfl,_⟩|⟨_,q⟩
  .exact(hk rfl).elim
  exact O k w b hk q ok m
 exact(Z j y ne z).elim
theorem Inn.app(U:Rep κ F y d):∀{bs} {ds} {k},Inn κ H0 F H bs ds->bs.Nodup->bs[k]?=↑b ->
  ∃ us xs,ds[k]?=!(.lst xs)/\H b=!(.lst us)/\us[1]=xs[1]/\Inn κ H0 F (upd H b (.lst (us++[y]))) bs (ds.set k (.lst (xs++[d])))
 | [],_,_,_,_,e=>by simp at e
 | _::_,[],_,h,_,_=>h.elim
 | c::bs,e::es,0,h,nd,ek=>by
  obtain⟨⟨us,xs,e1,c0,cf,ch,r⟩,h⟩:=h;obtain rfl:c=b:=by simpa using ek
  subst e1;have nb:=(tD.mp nd).1;exact#[us,xs,rfl,ch,Reps.length r,#[us++[y],xs++[d],rfl,c0,cf,qH,Reps.append r (Reps.one U)],(Inn.same (G:=H) (G':=H) (λx m=>(qt λz=>nb (by rw[<- z];exact m)).symm) (λ_ _ z=>z) Le.refl h)]
 | c::bs,e::es,k+1,h,nd,ek=>by
  obtain⟨⟨us,xs,e1,c0,cf,ch,r⟩,h⟩:=h;obtain⟨nb,nd⟩:=tD.mp nd;obtain⟨B,O,q1,q2,q3,q4⟩:=Inn.app U h nd ek[""]
  exact#[B,O,by simpa using q1,q2,q3,#[us,xs,e1,c0,cf,(qt λz=>nb (by rw[z];exact(t8 ek[""]))).trans ch,r],q4]
theorem Inn.snoc(h0:H0 b=none)(z:F b=none)(B:H b=!(.lst us))(r:Reps κ F us xs):∀{bs} {ds},Inn κ H0 F H bs ds->Inn κ H0 F H (bs++[b]) (ds++[.lst xs])
 | [],[],_=>#[#[us,xs,rfl,h0,z,B,r],trivial]
 | [],_::_,h=>h.elim
 | _::_,[],h=>h.elim
 | _::_,_::_,h=>#[h.1,Inn.snoc h0 z B r h.2]
end
def scal:D->Bool
 | .non=>true
 | .bl _=>true
 | .int _=>true
 | .str _=>true
 | _=>false
def ZH:En->R En
 | .fz x=>if scal x=true then .ok x[8]else .stuck
 | _=>.stuck
def vY(i:Nat)(e:EF):EF:=λρ=>match ρ[i]? with
 | some (!(.od (.dK _)))=>.stuck
 | some (!(.od (.tup _)))=>.stuck
 | some (!(.od d))=>(e (ρ.set i (!d[9]))).bind ZH
 | _=>.stuck
section
variable{X:Cx}{F0 H0:Hp}{pos pos':Pos}
def YV(i)(B:"S" e f):"S" e (vY i f):=by
 intro pins s σ F H ρ Q S I h;unfold vY at h;split at h
 .exact h.elim
 .exact h.elim
 .rename_i d nk nt ei;obtain⟨F',l,S'⟩:=S.shut ei (λk z=>nk k (by rw[z])) (λk z=>nt k (by rw[z]))
  refine B pins s σ F' H _ _ S' I ((KE.bind h).imp λw k v u F2 H2 s2 g q r I2=>?_)
  cases w<;>first|exact k.elim|skip
  rename_i x;unfold ZH at k;dsimp only at k;by_cases c:scal x=true
  .rw[if_pos c]at k;refine k v u F H2 s2 #[Le.refl,g.h,Le.trans S.s g.h,λ_ z=>.inl z] ?_ r I2
   cases x<;>first|exact q|cases c
  rw[if_neg c]at k;exact k.elim
 exact h.elim
def shut(i:Nat)(ρ:Rho):Rho:=match ρ[i]? with
 | some (!(.od (.dK _)))=>ρ
 | some (!(.od (.tup _)))=>ρ
 | some (!(.od d))=>ρ.set i (!d[9])
 | _=>ρ
def wW(i:Nat)(s:SF):SF:=λρ=>s (shut i ρ)
def YW{st:Stmt}(i)(h:SS X F0 H0 st f):SS X F0 H0 st (wW i f):=by
 intro pins s σ F H ρ D S I k;unfold wW L3.shut at k;split at k
 .exact h pins s σ F H ρ D S I k
 .exact h pins s σ F H ρ D S I k
 .rename_i d nk nt e;obtain⟨F',l,S'⟩:=S.shut e (λk z=>nk k (by rw[z])) (λk z=>nt k (by rw[z]))
  exact h pins s σ F' H _ D S' I (PostS.le l k)
 exact h pins s σ F H ρ D S I k
def yB(i:Nat)(ρ:Rho):En->Out
 | .ow (.lst [])=>if vG i ρ=true then .nx (ρ.set i (!(.od (.lst []))))else .stuck
 | .ow (.dT [])=>if vG i ρ=true then .nx (ρ.set i (!(.od (.dT []))))else .stuck
 | _=>.stuck
def yC(i:Nat)(e:EF):SF:=λρ=>sOf (e ρ) (yB i ρ)
def YX(i)(B:X.N.Nodup)(O:"S" e f)(hi:(X.N[i]?=!x)["r"])(U:(Loc X.env.scope x)["t"])
  (Y:(swapsWith e (!(.Name x pos')) pos.line X.env=pure false)["r"])(Z:(X.fn x=true\/X.env.scope.names.lookup x=some .local)["t"]) :
  SS X F0 H0 (.Assign [.Name x pos'] e pos) (yC i f):=by
 refine λpins s σ F H ρ D S I h=>bR (O pins s σ F H ρ _ S I ((PostS.of h).imp λw k v u F' H' s' g q r I'=>?_)) Y
 have go:∀ d,w=.ow d->(d=.lst []\/d=.dT [])->vG i ρ=true->PostS X F0 H0 F D (.nx (ρ.set i (!(.od d))))->X[3] (storeName X.env x u) (λ_ s2=>SP X pins D .next s2) X.xe s':=λd ew hd z k3=>by
  subst ew;refine xD I' B hi U r (λs2 I2=>?_) Z
  have S1:=S.setW (i:=i) g q rfl;by_cases hl:i<ρ.length
  .have S2:=S1.open0 (List.getElem?_set_self hl) hd λj y hj ej=>by
    rw[h9 (t9 hj)]at ej;exact YU z j y hj ej
   rw[dX]at S2;exact#[_,H',I2,k3 _ F' H' g.f S2]
  have e0:∀ y,ρ.set i y=ρ:=λy=>List.set_eq_of_length_le ""
  rw[e0]at S1 k3;exact#[_,H',I2,k3 _ F' H' g.f S1]
 cases w<;>first|cases k|skip
 rename_i d;cases d<;>first|exact k.elim|skip
 .rename_i xs;cases xs with
  | cons _ _=>cases k
  | nil =>
   unfold yB at k;dsimp only at k;by_cases c:vG i ρ=true
   .rw[if_pos c]at k;exact go _ rfl (.inl rfl) c k
   rw[if_neg c]at k;cases k
 rename_i xs;cases xs with
 | cons _ _=>cases k
 | nil =>
  unfold yB at k;dsimp only at k;by_cases c:vG i ρ=true
  .rw[if_pos c]at k;exact go _ rfl (.inr rfl) c k
  rw[if_neg c]at k;cases k
end
def QL(i:Nat)(ρ:Rho)(ds:List D):En->Out
 | .ow (.lst es)=>if ds[1]<sz then .nx (ρ.set i (!(.od (.lst (ds++[.lst es])))))else .stuck
 | _=>.stuck
def kT(i:Nat)(e:EF):SF:=λρ=>match ρ[i]? with
 | some (!(.od (.lst ds)))=>sOf (e ρ) (QL i ρ ds)
 | _=>.stuck
def QM(i:Nat)(ρ:Rho)(ds:List D)(k:Nat)(d:D):Option D->Out
 | some (.lst xs)=>if xs[1]<sz then .nx (ρ.set i (!(.od (.lst (ds.set k (.lst (xs++[d])))))))else .stuck
 | _=>.stuck
def yD(i:Nat)(ρ:Rho)(ds:List D):En->En->Out
 | .fz k[6],.fz d=>if 0<=k then QM i ρ ds k.toNat d ds[k.toNat]? else .stuck
 | _,_=>.stuck
def wJ(i:Nat)(z e:EF):SF:=λρ=>match ρ[i]? with
 | some (!(.od (.lst ds)))=>sOf (z ρ) λwk=>sOf (e ρ) λw=>yD i ρ ds wk w
 | _=>.stuck
def qbs{i:Nat}{P:Out->Prop}(z:P .stuck->False):∀{wk w},P (yD i ρ ds wk w)->∃ kk xs,wk=.fz kk[6]/\0<=kk/\ds[kk.toNat]?=!(.lst xs)/\xs[1]<sz:=by
 intro wk w k;have go:∀ kk d,P (yD i ρ ds kk[7] d[8])->0<=kk/\∃ xs,ds[kk.toNat]?=!(.lst xs)/\xs[1]<sz:=λkk d k=>by
  unfold yD at k;dsimp only at k;by_cases c:0<=kk
  .rw[if_pos c]at k;refine#[c,?_];generalize ds[kk.toNat]?=o at k;cases o with
   | none=>exact(z k).elim
   | some y =>
    cases y with
    | lst xs =>
     unfold QM at k;by_cases c2:xs[1]<sz
     .exact#[xs,rfl,c2]
     simp_all
    | _=>exact(z k).elim
  simp_all
 cases wk with
 | fz d =>
  cases d with
  | int kk =>
   cases w with
   | fz y=>obtain⟨c,xs,h1,h2⟩:=go kk y k;exact#[kk,xs,rfl,c,h1,h2]
   | _=>exact(z k).elim
  | _=>exact(z k).elim
 | _=>exact(z k).elim
section
variable{X:Cx}{F0 H0:Hp}{pos:Pos}
def qbt(i){x:Str}{apos cpos np:Pos}(he:"S" e f)(hN:(Nm X i x)["t"])(O:(attributeBase (.Name x np) "append" X.env (eval (.Name x np) X.env)=eval (.Name x np) X.env)["r"])
  (Y:(((backTo cpos (starEach [e] X.env)).all (λx=>not x.1)&&(backToKw cpos (keywordEach [] X.env)).all (λx=>x.1.isSome)
   && decide ([e].length+([]:List Keyword)[1]+(if ([]:List Keyword).isEmpty then 0 else 1)<30))=true)["r"])
  (U:((apos.endLine==cpos.line)=true)["r"]) (Z:(starEach [e] X.env=(false,eval e X.env)::starEach [] X.env)["r"]) (B:((backTo cpos (starEach [] X.env)).any (·.1)=false)["r"])
  (hs:(swapsWith (.Call (.Attribute (.Name x np) "append" apos) [e] [] cpos) none pos.line X.env=pure false)["r"]) :
  SS X F0 H0 (.Expr (.Call (.Attribute (.Name x np) "append" apos) [e] [] cpos) pos) (kT i f):=by
 intro pins s σ F H ρ D S I h;unfold kT at h;split at h
 .rename_i ds ei;have h:=PostS.of h;obtain⟨sh,a,bs,si,h0,hf,nd,dp,sp⟩:=S.dp i _ ei;have P:=xE (pos:=pos) (wO (X:=X) fS cj cq xG (pvN (pos:=np) hN) (zE (je (e:=e)) vJ Z) O Y U Z B) hs;refine P pins s σ H D I #[_,si,.inl #[rfl,bs.map V.ref,SqL.of dp.1],he.sem S (h.imp λw k y F1 H1 g1 q1=>?_)]
  cases w<;>first|exact k.elim|skip
  rename_i d;cases d<;>first|exact k.elim|skip
  unfold QL at k;dsimp only at k;by_cases c:ds[1]<sz
  .rw[if_pos c]at k;obtain⟨b,o,rfl,b0,bf,bh,rb⟩:=q1;cases o<;>first|exact rb.elim|skip
   have lb:bs[1]=ds[1]:=Inn.len dp.2;have nb:b∉a::bs:=λm=>by
    rcases gE.mp m with rfl|m
    .rw[dp.1]at b0;cases b0
    obtain⟨_,_,_,z⟩:=Deep.inn dp m;lia
   have nab:a≠b:=λz=>nb (by rw[z];simp)
   refine#[a,bs.map V.ref,.ref b,rfl,rfl,g1.h _ _ dp.1,by rw[gg,lb,<- zQ];exact c,?_]
   refine k σ _ _ g1.f ((S.grow g1).turn (bs:=bs) (bs':=bs++[b]) ei si sh sp (λz hz=>qt λe=>hz (by rw[e];simp)) (λz hz=>?_) (λz hz=>?_) (λz hz=>?_) ?_ #[?_,?_])
   .rcases gD.mp hz with hz|hz
    .exact .inl hz
    obtain rfl:z=b:=by simpa using hz
    refine .inr λj w ej ow sj=>?_
    obtain⟨u,e2⟩:=S.ownAt ej ow sj
    simp_all
   .rcases gE.mp hz with rfl|hz
    .exact h0
    rcases gD.mp hz with hz|hz
    .obtain⟨_,e2,_⟩:=Deep.inn dp hz;exact e2
    obtain rfl:z=b:=by simpa using hz
    exact Le.none S.gr.h b0
   .rcases gE.mp hz with rfl|hz
    .exact g1.no hf dp.1
    rcases gD.mp hz with hz|hz
    .obtain⟨_,_,e2,e3⟩:=Deep.inn dp hz;exact g1.no e2 e3
    obtain rfl:z=b:=by simpa using hz
    exact bf
   .have nd2:((a::bs)++[b]).Nodup:=fj.mpr #[nd,by simp,λx hx y hy e=>by
     obtain rfl:y=b:=by simpa using hy
     exact nb (by rw[<- e];exact hx)]
    exact nd2
   .rw[qH,hX];rfl
   refine Inn.same (G:=H) (G':=H) (H:=H1) (λz hz=>(qt λe=>?_).symm) (λ_ _ q=>q) Le.refl (Inn.snoc (Le.none S.gr.h b0) bf bh rb (Inn.gr g1 dp.2))
   subst e;rcases gD.mp hz with hz|hz
   .exact(tD.mp nd).1 hz
   exact nab hz[""]
  rw[if_neg c]at k;exact k.elim
 exact h.elim
def YY(i){x:Str}{apos cpos np Y:Pos}(hk:"S" ek fk)(he:"S" e f)(hsx:yh ek:=by exact λ_ _=>rfl)(hN:(Nm X i x)["t"])(O:(attributeBase (.Subscript (.Name x np) ek Y) "append" X.env (eval (.Subscript (.Name x np) ek Y) X.env)=eval (.Subscript (.Name x np) ek Y) X.env)["r"])
  (Z:(((backTo cpos (starEach [e] X.env)).all (λx=>not x.1)&&(backToKw cpos (keywordEach [] X.env)).all (λx=>x.1.isSome)
   && decide ([e].length+([]:List Keyword)[1]+(if ([]:List Keyword).isEmpty then 0 else 1)<30))=true)["r"])
  (U:((apos.endLine==cpos.line)=true)["r"]) (hst:(starEach [e] X.env=(false,eval e X.env)::starEach [] X.env)["r"]) (B:((backTo cpos (starEach [] X.env)).any (·.1)=false)["r"])
  (hs:(swapsWith (.Call (.Attribute (.Subscript (.Name x np) ek Y) "append" apos) [e] [] cpos) none pos.line X.env=pure false)["r"]) :
  SS X F0 H0 (.Expr (.Call (.Attribute (.Subscript (.Name x np) ek Y) "append" apos) [e] [] cpos) pos) (wJ i fk f):=by
 intro pins s σ F H ρ D S I h;unfold wJ at h;split at h
 .rename_i ds ei;have h:=PostS.of h;obtain⟨sh,a,bs,si,h0,hf,nd,dp,sp⟩:=S.dp i _ ei;have P:=xE (pos:=pos) (wO (X:=X) fS cj cq xG (Tn (pos:=Y) ix_list (pvN (pos:=np) hN) (je (e:=ek)) hsx) (zE (je (e:=e)) vJ hst) O Z U hst B) hs;refine P pins s σ H D I #[_,si,hk.sem S (h.imp λwk k y F1 H1 g1 q1=>?_)]
  have k:=PostS.of k;have h3:∃ kk xs,wk=.fz kk[6]/\0<=kk/\ds[kk.toNat]?=!(.lst xs)/\xs[1]<sz:=by
   cases fe:f ρ with
   | exc _=>rw[fe]at k;cases k
   | stuck=>rw[fe]at k;cases k
   | ok w =>
    rw[fe]at k;exact qbs (P:=PostS X F0 H0 F D) (λz=>z) k
  obtain⟨kk,xs,rfl,c0,ed,c2⟩:=h3;obtain rfl:y=V.int kk:=q1;have lb:bs[1]=ds[1]:=Inn.len dp.2;have kl:kk.toNat<bs[1]:=by rw[lb];exact(gp.mp ed).1
  have eb:bs[kk.toNat]?=!bs[kk.toNat]:=gw kl;generalize bs[kk.toNat]=b at eb;have mb:b∈bs:=t8 eb;have at_:atI (bs.map V.ref) kk=!(.ref b):=by
   unfold atI ixN;rw[if_pos c0,if_pos (by rw[gg];lia),pP,gC,eb]
   rfl
  obtain⟨us0,_,_,hb⟩:=Deep.inn dp mb;refine#[a,bs.map V.ref,kk,.ref b,rfl,rfl,SqL.of (g1.h _ _ dp.1),at_,.inl #[rfl,us0,SqL.of (g1.h _ _ hb)],he.sem (S.grow g1) (k.imp λw k y F2 H2 g2 q2=>?_)]
  cases w<;>first|cases k|skip
  rename_i d;unfold yD at k;dsimp only at k;rw[if_pos c0,ed]at k;unfold QM at k;dsimp only at k;rw[if_pos c2]at k;have G:=g1.trans g2;obtain⟨ndA,ndB⟩:=tD.mp nd;obtain⟨us,xs',e1,e2,e3,inn⟩:=Inn.app (y:=y) (d:=d) q2 (Inn.gr G dp.2) ndB eb;rw[ed]at e1;cases e1;refine#[b,us,y,rfl,rfl,e2,by rw[e3,<- zQ];exact c2,?_]
  refine k σ _ _ G.f ((S.grow G).turn (bs:=bs) (bs':=bs) ei si sh sp (λz hz=>qt λe=>hz (by rw[e];exact gj _ mb)) (λz hz=>.inl hz) (λz hz=>?_) (λz hz=>?_) nd #[?_,inn])
  .rcases gE.mp hz with rfl|hz
   .exact h0
   obtain⟨_,e4,_⟩:=Deep.inn dp hz;exact e4
  .rcases gE.mp hz with rfl|hz
   .exact G.no hf dp.1
   obtain⟨_,_,e4,e5⟩:=Deep.inn dp hz;exact G.no e4 e5
  exact(qt λe=>ndA (by rw[e];exact mb)).trans (G.h _ _ dp.1)
 cases h
end
section
variable{prog:af}{w:World}{K:Type} [DecidableEq K]{knd:HeapKind prog w K}{A:ag}{E:aa->ab->Prop}{s:ab}{d a:Addr}{k:K}{xs:List (K×Addr×aa)}{dv:aa}
def qbu(U:knd.room A)(O:knd.is s.heap k a)(Y:s.heap.DictOfH knd d xs)(hz:xs[1]<=sizeLine)
  (h1:∀ p,atKey xs k=!p->Q p.2 {s with toks:=s.toks+knd.draws k})
  (h2:atKey xs k=none->∀ h',h'.DictOfH knd d (storedH xs k a dv)->Heap.SameBut d s.heap h'->Q dv {s with heap:=h',toks:=s.toks+knd.draws k}) :
  wpAny (model prog w) A (dictSetDefault d (.ref a) dv) Q E s:=by
 obtain⟨o,es,ep,go,gc,gd,ge,gi,gn⟩:=Y;have z:=size_of_entries ge;refine fB (g6 (knd.pyHash U O (g6 (wpAny_dictFind_heap U O go gd ge gi gn (λno=>?_) λj p hj=>?_))))
 .have B:=atKey_none_of_get no;have nk:k∉xs.map (·.1):=not_mem_keys_of_get no
  have sn:=storedH_new (a:=a) B;refine g6 (pG (g6 (wpAny_updateDictKeys (hz:=by lia) (s:={s with toks:=s.toks+knd.draws k}) go gd (gu (h2 B _ ?_ (p9 ..))))))
  rw[sn];refine#[_,_,ep+1,tZ _ go (Obj.isFreed_of_dict (Obj.data_mapDictKeys gd _)),gc.mapDictKeys _,Obj.data_mapDictKeys gd _,by simp[ge,entryOfKey],λx hx=>?_,?_]
  .have hx:x∈xs\/x=(k,a,dv):=by simpa using hx
   rcases hx with hx|rfl
   .exact knd.keeps (gi x hx) go gd (p9 ..)
   exact knd.keeps O go gd (p9 ..)
  rw[hX];refine fj.mpr #[gn,by simp,λx hx y hy e=>nk ?_]
  have hy:y=k:=by simpa using hy
  rw[<- hy,<- e];exact hx
 have ak:=atKey_of_get gn hj;refine g6 (dN (s:={s with toks:=s.toks+knd.draws k}) go gd ?_);rw[entry_at ge j,hj];exact g6 (pG (gu (h1 p ak)))
def qbv(hd:(d==sysModules)=false)(B:knd.room A.in1)(O:knd.is s.heap k a)(z:s.heap.DictOfH knd d xs)(hz:xs[1]<=sizeLine)
  (h1:∀ p,atKey xs k=!p->Q p.2 {s with toks:=s.toks+knd.draws k})
  (h2:atKey xs k=none->∀ h',h'.DictOfH knd d (storedH xs k a dv)->Heap.SameBut d s.heap h'->Q dv {s with heap:=h',toks:=s.toks+knd.draws k}) :
  wpAny (model prog w) A (call (.builtin "dict.setdefault") [.ref d,.ref a,dv]) Q E s:=by
 have ty:=z.typeIs;refine fL PySem.F.slot_dict_setdefault ty PySem.F.entry_dict_setdefault ?_ (PySem.F.args_dict_setdefault_3 _ _ _);refine g6 (g6 (wpAny_notOrdered_dict ty (gu ?_)));show wpAny _ _ (if (d==sysModules)=true then _ else(dictSetDefault d (.ref a) dv >>= _)) _ _ s
 rw[if_neg (by rw[hd];decide)]
 exact g6 (qbu B O z hz (λp e=>gu #[_,rfl,h1 p e]) λe h' q sb=>gu #[_,rfl,h2 e h' q sb])
end
def rSd:V->List V->Hp->VK->Prop:=λx vs H Q=>∃ a kvs k b y,x=.ref a/\vs=[.ref b,y]/\H a=!(.dT kvs)/\H b=!(.tup (k.map kV))/\kvs[1]<sizeLine/\(∀ v,jo kvs k=!v->Q v H)/\(jo kvs k=none->Q y (upd H a (.dT (jH kvs k y))))
section
variable{X:Cx}
def qbw(Z:X.A.units+1<cLine):MtR X "dict.setdefault" rSd:=by
 intro pins s σ H x vs v us Q I rx rv h;obtain⟨a,kvs,k,b,y,rfl,rfl,hH,hb,hl,q1,q2⟩:=h;cases rx;obtain⟨u1,u2,rfl,Y,O⟩:=rv.two;cases Y;obtain⟨z,hd,xs,B,dd⟩:=WT I.hok hH;have hz:xs[1]<=sizeLine:=by rw[<- dz B];exact z
 have hp:(jH kvs k y)[1]<=sizeLine:=by have:=JY kvs k y;lia
 refine qbv hd (dA Z) (Q9 I.hok hb) dd hz (λp e=>?_) λe h' U sb=>?_
 .have r:=B.val k;rw[e]at r;cases ev:jo kvs k with
  | none=>rw[ev]at r;exact r.elim
  | some v =>
   rw[ev]at r;exact#[v,H,I.tok _,r,q1 v ev]
 have r:=B.val k;rw[e]at r;have ev:jo kvs k=none:=by
  cases ev:jo kvs k with
  | none=>rfl
  | some v=>rw[ev]at r;exact r.elim
 obtain⟨q,es,ep,hq,g2,g3,g4,_,g5⟩:=U;refine#[y,_,Z0 (ob:=.dT (jH kvs k y)) I (by rw[hH];exact True.intro) sb #[q,hq] #[hp,hd,_,(B.put k hb O).keeps λc ys ec=>?_,q,es,ep,hq,g2,g3,g4,g5],O,q2 ev]
 rw[qt (Wr ec hH λz=>nomatch z)]
 exact ec
end
def QN:D->D->D
 | .lst xs,d=>.lst (xs++[d])
 | e,_=>e
def zL(key:List (Sum Int Str))(d:D):List (List (Sum Int Str)×D)->List (List (Sum Int Str)×D)
 | []=>[(key,.lst [d])]
 | (k,e)::r=>if k=key then(k,QN e d)::r else(k,e)::zL key d r
theorem ZI(key):∀ kds (bs:List Addr),bs[1]=kds[1] ->
  (jo ((kds.map Prod.fst).zip (bs.map V.ref)) key=none/\∀ d,zL key d kds=kds++[(key,.lst [d])]) \/
  ∃ j b e,bs[j]?=!b/\(kds.map Prod.snd)[j]?=!e/\jo ((kds.map Prod.fst).zip (bs.map V.ref)) key=↑(.ref b) /\
   ∀ d,(zL key d kds).map Prod.fst=kds.map Prod.fst/\(zL key d kds).map Prod.snd=(kds.map Prod.snd).set j (QN e d)
 | [],[],_=>.inl #[rfl,λ_=>rfl]
 | [],_::_,h=>by cases h
 | _::_,[],h=>by cases h
 | (k,e)::r,b::bs,h=>by
  by_cases c:k=key
  .refine .inr #[0,b,e,rfl,rfl,xH c,λd=>?_]
   unfold zL;rw[if_pos c];exact#[rfl,rfl]
  have nv:jo ((((k,e)::r).map Prod.fst).zip ((b::bs).map V.ref)) key=jo ((r.map Prod.fst).zip (bs.map V.ref)) key:=xI c;rcases ZI key r bs h[""]with⟨h1,h2⟩|⟨j,b',e',h1,h2,h3,h4⟩
  .refine .inl #[nv.trans h1,λd=>?_]
   unfold zL
   simp_all
  refine .inr #[j+1,b',e',by simpa using h1,by simpa using h2,nv.trans h3,λd=>?_]
  unfold zL
  simp_all
def kU:D->Bool
 | .lst xs=>decide (xs[1]<sz)
 | _=>false
def YZ(i:Nat)(ρ:Rho)(kds:List (List (Sum Int Str)×D))(key:List (Sum Int Str)):En->Out
 | .fz d=>.nx (ρ.set i (!(.od (.dT (zL key d kds)))))
 | _=>.stuck
def kW(i:Nat)(e:EF)(ρ:Rho)(kds:List (List (Sum Int Str)×D))(key:List (Sum Int Str)):En->Out
 | .ow (.lst [])=>if kds[1]<sz/\key[1]<=sz/\(kds.all λkv=>kU kv.2)=true then sOf (e (ρ.set i none)) (YZ i ρ kds key)else .stuck
 | _=>.stuck
def K0(i:Nat)(z e:EF)(ρ:Rho)(kds:List (List (Sum Int Str)×D)):Option (List (Sum Int Str))->Out
 | some key=>sOf (z ρ) (kW i e ρ kds key)
 | none=>.stuck
def sSd(i:Nat)(ks:List EF)(z e:EF):SF:=λρ=>match ρ[i]? with
 | some (!(.od (.dT kds)))=>sOf (evs ks ρ) λws=>K0 i z e ρ kds (jL (ws.map En.d))
 | _=>.stuck
def StOk.drop(i)(S:StOk κ F0 H0 F H ρ σ):StOk κ F0 H0 F H (ρ.set i none) σ:=by
 have at_:∀{m:Nat} {y},(ρ.set i none)[m]?=!(!y)->ρ[m]?=!(!y):=λ{m y} h=>by
  rcases qB h with⟨_,z⟩|⟨_,z⟩
  .lia
  exact z
 refine#[S.gr,by simpa using S.len,λj w e=>S.val j w (at_ e),λj k w w' c B ej ek=>S.sep j k w w' c B (at_ ej) (at_ ek),λj y e=>?_]
 obtain⟨s1,a,bs,e1,h0,hf,nd,dp,sp⟩:=S.dp j y (at_ e);exact#[λk z hk ek=>s1 k z hk (at_ ek),a,bs,e1,h0,hf,nd,dp,λk w b hk ek=>sp k w b hk (at_ ek)]
def Inn.short_at{κ:Kx}{H0 F H:Hp}{kds:List (List (Sum Int Str)×D)}{j:Nat}{e:D}(h:(kds.all λkv=>kU kv.2)=true)(B:(kds.map Prod.snd)[j]?=!e):∃ xs,e=.lst xs/\xs[1]<sz:=by
 rw[gC]at B;obtain⟨kv,hk,rfl⟩:=cK.mp B;have:=pO.mp h kv (t8 hk)
 revert this
 cases kv.2<;>intro z<;>first|exact#[_,rfl,of_decide_eq_true z]|cases z
section
variable{X:Cx}{F0 H0:Hp}{pos:Pos}
def qbx(i){x:Str}{Z B ap2 cp2 np tp:Pos}{ks:List Expr}{Y e:Expr}{n:Nat}{fk:List EF}{fl f:EF}(hu:X.A.units+10<cLine)(hk:SA X F0 H0 ks fk)(hl:"S" Y fl)(he:"S" e f)
  (hN:(Nm X i x)["t"])
  (hb1:(attributeBase (.Name x np) "setdefault" X.env (eval (.Name x np) X.env)=eval (.Name x np) X.env)["r"])
  (hf1:(((backTo B (starEach [.Tuple ks n tp,Y] X.env)).all (λx=>not x.1)&&(backToKw B (keywordEach [] X.env)).all (λx=>x.1.isSome)
   && decide ([.Tuple ks n tp,Y].length+([]:List Keyword)[1]+(if ([]:List Keyword).isEmpty then 0 else 1)<30))=true)["r"])
  (hl1:((Z.endLine==B.line)=true)["r"]) (hs1:(starEach [.Tuple ks n tp,Y] X.env=(false,eval (.Tuple ks n tp) X.env)::starEach [Y] X.env)["r"]) (hs2:(starEach [Y] X.env=(false,eval Y X.env)::starEach [] X.env)["r"])
  (hp1:((backTo B (starEach [Y] X.env)).any (·.1)=false)["r"])
  (hb2:(attributeBase (.Call (.Attribute (.Name x np) "setdefault" Z) [.Tuple ks n tp,Y] [] B) "append" X.env (eval (.Call (.Attribute (.Name x np) "setdefault" Z) [.Tuple ks n tp,Y] [] B) X.env)=eval (.Call (.Attribute (.Name x np) "setdefault" Z) [.Tuple ks n tp,Y] [] B) X.env)["r"])
  (hf2:(((backTo cp2 (starEach [e] X.env)).all (λx=>not x.1)&&(backToKw cp2 (keywordEach [] X.env)).all (λx=>x.1.isSome)
   && decide ([e].length+([]:List Keyword)[1]+(if ([]:List Keyword).isEmpty then 0 else 1)<30))=true)["r"])
  (hl2:((ap2.endLine==cp2.line)=true)["r"]) (hs3:(starEach [e] X.env=(false,eval e X.env)::starEach [] X.env)["r"]) (hp2:((backTo cp2 (starEach [] X.env)).any (·.1)=false)["r"])
  (hs:(swapsWith (.Call (.Attribute (.Call (.Attribute (.Name x np) "setdefault" Z) [.Tuple ks n tp,Y] [] B) "append" ap2) [e] [] cp2) none pos.line X.env=pure false)["r"]) :
  SS X F0 H0 (.Expr (.Call (.Attribute (.Call (.Attribute (.Name x np) "setdefault" Z) [.Tuple ks n tp,Y] [] B) "append" ap2) [e] [] cp2) pos) (sSd i fk fl f):=by
 intro pins s σ F H ρ D S I h;unfold sSd at h;split at h
 .rename_i kds ei;have h:=PostS.of h;obtain⟨sh,a,bs,si,h0,hf,nd,dp,sp⟩:=S.dp i _ ei;obtain⟨ha,U⟩:=dp;have P:=xE (pos:=pos) (wO (X:=X) fS cj cq xG
   (wO (X:=X) cB PySem.F.slot_dict_setdefault PySem.F.type_dict_setdefault (qbw "") (pvN (pos:=np) hN) (zE (je (e:=.Tuple ks n tp)) (zE (je (e:=Y)) vJ hs2) hs1) hb1 hf1 hl1 hs1 hp1)
   (zE (je (e:=e)) vJ hs3) hb2 hf2 hl2 hs3 hp2) hs
  refine P pins s σ H D I #[_,si,.inr (.inr (.inl #[rfl,.inr #[_,ha]])),QG hk S (h.imp λws k1 vs F1 H1 p g1 q1 hp=>?_)]
  cases ek:jL (ws.map En.d)with
  | none=>rw[ek]at k1;cases k1
  | some key =>
   rw[ek]at k1;have ev:=u9 q1 ek;subst ev;have k2:=PostS.of (show PostS X F0 H0 F D (sOf (fl ρ) (kW i f ρ kds key))from k1)
   have g2:=Gr.new (o:=.tup (key.map kV)) g1.s hp;have G2:=g1.trans g2;have h6:kds[1]<sz/\key[1]<=sz/\(kds.all λkv=>kU kv.2)=true:=by
    cases fe:fl ρ with
    | exc _=>rw[fe]at k2;cases k2
    | stuck=>rw[fe]at k2;cases k2
    | ok w =>
     rw[fe]at k2;have k2:PostS X F0 H0 F D (kW i f ρ kds key w):=k2;unfold kW at k2;split at k2
     .by_cases c:kds[1]<sz/\key[1]<=sz/\(kds.all λkv=>kU kv.2)=true
      .exact c
      rw[if_neg c]at k2;cases k2
     cases k2
   obtain⟨c1,c2,c3⟩:=h6;have lb:bs[1]=kds[1]:=(Inn.len U).trans "s"
   refine#[by rw[gg,<- zQ];exact c2,hl.sem (S.grow G2) (k2.imp λw k3 y F3 H3 g3 q3=>?_)]
   unfold kW at k3;split at k3
   .rw[if_pos #[c1,c2,c3]]at k3;have k3:=PostS.of k3;obtain⟨b,o,rfl,b0,bf,bh,rb⟩:=q3;cases o<;>first|exact rb.elim|skip
    cases (show _=[]from rb)
    have G3:=G2.trans g3;have S3:=S.grow G3;have O:H b=none:=Le.none G2.h b0;have nb:b∉a::bs:=λm=>by
     rcases gE.mp m with rfl|m
     .rw[ha]at O;cases O
     obtain⟨_,_,_,z⟩:=Inn.at U m;rw[z]at O;cases O
    have nab:a≠b:=λz=>nb (by rw[z];simp)
    have ntp:H3 p=!(.tup (key.map kV)):=g3.h _ _ qH;refine#[a,_,key,p,.ref b,rfl,rfl,G3.h _ _ ha,ntp,by rw[List.length_zip,gg,gg,lb,Nat.min_self,<- zQ];exact c1,λv ev=>?_,λev=>?_]
    .rcases ZI key kds bs lb with⟨z,_⟩|⟨j,b',e',m1,m2,m3,m4⟩
     .rw[ev]at z;cases z
     rw[ev]at m3;cases m3;obtain⟨xs0,rfl,lx⟩:=Inn.short_at (κ:=kx X) (H0:=H0) (F:=F) (H:=H) c3 m2;have mb:b'∈bs:=t8 m1;obtain⟨us0,_,_,hb⟩:=Inn.at U mb;refine#[.inl #[rfl,us0,SqL.of (G3.h _ _ hb)],he.sem (S3.drop i) (k3.imp λw k4 y F4 H4 g4 q4=>?_)]
     cases w<;>first|cases k4|skip
     rename_i d;have k4:PostS X F0 H0 F D (.nx (ρ.set i (!(.od (.dT (zL key d kds)))))):=k4;have G4:=G3.trans g4;obtain⟨ndA,ndB⟩:=tD.mp nd;obtain⟨us,xs',e1,e2,e3,h4⟩:=Inn.app (y:=y) (d:=d) q4 (Inn.gr G4 U) ndB m1;rw[m2]at e1;cases e1;obtain⟨s1,s2⟩:=m4 d;refine#[b',us,y,rfl,rfl,e2,by rw[e3,<- zQ];exact lx,?_]
     refine k4 σ _ _ G4.f ((S.grow G4).turn (bs:=bs) (bs':=bs) ei si sh sp (λz hz=>qt λe=>hz (by rw[e];exact gj _ mb)) (λz hz=>.inl hz) (λz hz=>?_) (λz hz=>?_) nd #[?_,?_])
     .rcases gE.mp hz with rfl|hz
      .exact h0
      obtain⟨_,e4,_⟩:=Inn.at U hz;exact e4
     .rcases gE.mp hz with rfl|hz
      .exact G4.no hf ha
      obtain⟨_,_,e4,e5⟩:=Inn.at U hz;exact G4.no e4 e5
     .rw[qt λe=>ndA (by rw[e];exact mb),s1]
      exact G4.h _ _ ha
     rw[s2];exact h4
    rcases ZI key kds bs lb with⟨_,app⟩|⟨j,b',e',_,_,z,_⟩
    .have pk:=TR (V.ref b) ev;rw[pk];have h5:(kds.map Prod.fst).zip (bs.map V.ref)++[(key,V.ref b)]=((kds++[(key,L3.D.lst [])]).map Prod.fst).zip ((bs++[b]).map V.ref):=by
      rw[hX,hX,List.zip_append (by rw[gg,gg,lb])]
      rfl
     have nd2:(a::(bs++[b])).Nodup:=by
      have:((a::bs)++[b]).Nodup:=fj.mpr #[nd,by simp,λx hx y hy e=>by
       obtain rfl:y=b:=by simpa using hy
       exact nb (by rw[<- e];exact hx)]
      exact this
     have all0:∀ z∈a::(bs++[b]),H0 z=none/\F3 z=none:=λz hz=>by
      rcases gE.mp hz with rfl|hz
      .exact#[h0,G3.no hf ha]
      rcases gD.mp hz with hz|hz
      .obtain⟨_,e4,e5,e6⟩:=Inn.at U hz;exact#[e4,G3.no e5 e6]
      obtain rfl:z=b:=by simpa using hz
      exact#[Le.none S.gr.h O,bf]
     have h3:Inn (kx X) H0 F3 (upd H3 a (.dT ((kds.map Prod.fst).zip (bs.map V.ref)++[(key,V.ref b)]))) (bs++[b]) ((kds++[(key,L3.D.lst [])]).map Prod.snd):=by
      rw[hX];refine Inn.same (G:=H) (G':=H) (H:=H3) (λz hz=>(qt λe=>?_).symm) (λ_ _ q=>q) Le.refl (Inn.snoc (Le.none S.gr.h O) bf bh (show Reps (kx X) F3 [] []from rb) (Inn.gr G3 U))
      subst e;exact(tD.mp nd2).1 hz
     have S4:=S3.turn (bs:=bs) (bs':=bs++[b]) (d':=.dT (kds++[(key,.lst [])])) (H':=upd H3 a (.dT ((kds.map Prod.fst).zip (bs.map V.ref)++[(key,V.ref b)]))) ei si sh sp (λz hz=>qt λe=>hz (by rw[e];simp)) (λz hz=>by
       rcases gD.mp hz with hz|hz
       .exact .inl hz
       obtain rfl:z=b:=by simpa using hz
       refine .inr λj w ej ow sj=>?_
       obtain⟨u,e2⟩:=S.ownAt ej ow sj;rw[O]at e2;cases e2) (λz hz=>(all0 z hz).1) (λz hz=>(all0 z hz).2) nd2 #[by rw[qH,h5],h3]
     have SD:=S4.drop i;rw[dX]at SD;have bh4:(upd H3 a (.dT ((kds.map Prod.fst).zip (bs.map V.ref)++[(key,V.ref b)]))) b=!(.lst []):=(qt (t9 nab)).trans bh;refine#[.inl #[rfl,[],SqL.of bh4],he.sem SD (k3.imp λw k4 y F4 H4 g4 q4=>?_)]
     cases w<;>first|cases k4|skip
     rename_i d;have k4:PostS X F0 H0 F D (.nx (ρ.set i (!(.od (.dT (zL key d kds)))))):=k4;have i4:i<ρ.length:=(gp.mp ei).1;have S5:=S4.grow g4;have ei5:(ρ.set i (!(.od (.dT (kds++[(key,.lst [])])))))[i]?=!(!(.od (.dT (kds++[(key,.lst [])])))):=List.getElem?_set_self i4;have eb:(bs++[b])[bs[1]]?=!b:=by simp
     obtain⟨us,xs',e1,e2,e3,h4⟩:=Inn.app (y:=y) (d:=d) q4 (Inn.gr g4 h3) (tD.mp nd2).2 eb;have eq0:((kds++[(key,L3.D.lst [])]).map Prod.snd)[bs[1]]?=!(.lst []):=by rw[lb];simp
     rw[eq0]at e1;cases e1;have us0:us=[]:=f9.mp e3;subst us0;refine#[b,[],y,rfl,rfl,e2,by rw[pp];decide,?_]
     have sh5:shal i (ρ.set i (!(.od (.dT (kds++[(key,.lst [])]))))):=λj z hj ej=>by
      rw[h9 (t9 hj)]at ej;exact sh j z hj ej
     have sp5:∀ j w c,j≠i->(ρ.set i (!(.od (.dT (kds++[(key,.lst [])])))))[j]?=!(!w)->w.own=true->c∈a::(bs++[b])->σ[j]?≠!(!(.ref c)):=λj w c hj ej ow m sj=>by
      rw[h9 (t9 hj)]at ej;rcases gE.mp m with rfl|m
      .exact sp j w _ hj ej ow "s" sj
      rcases gD.mp m with m|m
      .exact sp j w c hj ej ow (gj _ m) sj
      obtain rfl:c=b:=by simpa using m
      obtain⟨u,e2⟩:=S.ownAt ej ow sj;rw[O]at e2;cases e2
     have S6:=S5.turn (bs:=bs++[b]) (bs':=bs++[b]) (d':=.dT (zL key d kds)) (H':=upd H4 b (.lst ([]++[y]))) ei5 si sh5 sp5 (λz hz=>qt λe=>hz (by rw[e];simp)) (λz hz=>.inl hz) (λz hz=>(all0 z hz).1) (λz hz=>?_) nd2 #[?_,?_]
     .rw[dX]at S6;exact k4 σ _ _ (Le.trans G3.f g4.f) S6
     .rcases gE.mp hz with rfl|hz
      .exact g4.no (all0 _ "s").2 qH
      obtain⟨_,_,e5,e6⟩:=Inn.at h3 hz;exact g4.no e5 e6
     .rw[qt nab,g4.h _ _ qH,h5,app d];simp only[hX];rfl
     have es:(zL key d kds).map Prod.snd=((kds++[(key,L3.D.lst [])]).map Prod.snd).set bs[1] (.lst ([]++[d])):=by
      rw[app d,lb];simp
     rw[es];exact h4
    rw[ev]at z;cases z
   cases k3
 cases h
variable{prog:af}{w:World}{A:ag}{E:aa->ab->Prop}{s:ab}{d it:Addr}{o:Obj}{es:Array DictEntry}{ep i:Nat}
def qby(hd:(d==sysModules)=false)(B:s.heap.get? d=!o)(O:o.ExactDict)(z:o.data=.dict es ep)
  (h:Q (.ref s[0]) {s with heap:=s.heap.push {cls:=.type "dict_keyiterator",data:=.fields (List.toArray [.ref d,.int 0 0,.int es.size 0,.int ep 0])}}):wpAny (model prog w) A (pyIter (.ref d)) Q E s:=by
 have ty:s.TypeIs (.ref d) "dict":=#[o,B,O.1];refine wpAny_pyIter_slot ty PySem.F.slot_dict_iter (fL PySem.F.slot_dict_iter ty PySem.F.entry_dict_iter ?_ (PySem.F.args_dict_iter_1 _));refine g6 (g6 (wpAny_notOrdered_dict ty (show wpAny _ _ (pure (Value.ref d)) _ _ s from gu (show wpAny _ _ (Builtin.Dict.showsAll d >>= _) _ _ s from ?_))))
 unfold Builtin.Dict.showsAll;rw[if_neg (by rw[hd];decide)]
 refine g6 (gu (g6 (dN B z (g6 (wpAny_dictEpoch B z (g6 (tX (gu #[_,rfl,"dict_keyiterator",_,#[_,gM _ rfl,rfl],pN.lookup,?_]))))))));simpa[rawInt]using h
def K1(U:A.handled=none)(z:s.heap.IsKeyIter it d i es.size ep)(O:s.heap.get? d=!o)(B:o.data=.dict es ep)
  (h1:∀ e h',es[i]?=!e->h'.IsKeyIter it d (i+1) es.size ep->Heap.SameBut it s.heap h'->Q (!e.key) {s with heap:=h'})
  (h2:es[i]?=none->∀ h',Heap.ExtBut it s.heap h'->Q none {s with heap:=h'}):wpAny (model prog w) A (pyNext (.ref it)) Q E s:=by
 obtain⟨oi,gi,ci,di⟩:=id z;refine g6 (bV (f8 (name:=Str.ofString "__next__") z.typeIs pN (fL pN z.typeIs PySem.F.entry_dict_keyiterator_next ?_ (PySem.F.args_dict_keyiterator_next_1 _))));refine g6 (gu (g6 (g6 ?_)))
 first|refine g6 (cD z.typeIs (gu (g6 (wpAny_fieldsOf gi di ?_))))|refine g6 (dj z.typeIs (gu (g6 (wpAny_fieldsOf gi di ?_))))
 refine g6 (gu (g6 (dN O B ?_)));rw[if_neg "s"]
 refine g6 (gu (g6 (wpAny_dictEpoch O B ?_)));rw[if_neg "s"]
 refine gu ?_;cases he:es[i]? with
 | none =>
  simp[show ¬ (i<0)by lia,pZ,fC,he]
  refine g6 ?_
  first|refine g6 (cD z.typeIs (gu (show wpAny _ _ (setField (.ref it) 0 .none >>= _) _ _ s from g6 (dR gi di "s" ?_))))|refine g6 (dj z.typeIs (gu (show wpAny _ _ (setField (.ref it) 0 .none >>= _) _ _ s from g6 (dR gi di "s" ?_))))
  show wpAny _ _ (newExc (.type "StopIteration") [] >>= _) _ _ _;refine g6 ?_;simp[newExc,newTuple];refine g6 (tX (g6 (m:=firstArgMember _ _) (wpAny_of_eq (a:=Value.none) (by first|rfl|(simp[firstArgMember];rfl)) (tX ?_ (by size_fits)))) (by size_fits))
  simp only[raiseNew];refine g6 (wpAny_handled ?_);rw[show A.in1.handled=none from U];refine g6 (gu (wpAny_throw (g6 ?_)))
  refine(wpAny_isInstance (T:="StopIteration") (b:=true) #[_,gM _ rfl,rfl] isSubtype_stop (gu (h2 he _ ?_)));exact((p9 ..).extBut.push _).push _
 | some e =>
  simp[show ¬ (i<0)by lia,pZ,fC,he]
  have nx:(s.heap.update it (Obj.mapFields (·.setIfInBounds 1 (rawInt (i+1))))).IsKeyIter it d (i+1) es.size ep :=
   #[_,tZ _ gi (Obj.isFreed_of_fields (dE di _)),(Obj.cls_mapFields ..).trans ci,by rw[dE di];simp[rawInt]]
  refine g6 ?_
  first|refine g6 (cD z.typeIs (gu (g6 (dY z.typeIs ?_))))|refine g6 (dj z.typeIs (gu (g6 (dY z.typeIs ?_))))
  show wpAny _ _ (setField (.ref it) 1 (rawInt (i+1)) >>= _) _ _ s;refine g6 (dR gi di "s" (g6 (fB (g6 (dY (s:={s with heap:=s.heap.update it (Obj.mapFields (·.setIfInBounds 1 (rawInt (i+1))))}) nx.typeIs ?_)))))
  show wpAny _ _ (pure e.key) _ _ _;exact gu (gu #[_,rfl,gu (h1 e _ he nx (p9 ..))])
end
def ItT(a:Addr)(ob:Obj):It:=#[λi H=>∃ kvs,H a=!(.frz ob (.dT kvs))/\i<kvs[1],
 λi H x H'=>H'=H/\∃ kvs k v q,H a=!(.frz ob (.dT kvs))/\kvs[i]?=!(k,v)/\x=.ref q/\H q=!(.tup (k.map kV)),λi H=>∃ kvs,H a=!(.frz ob (.dT kvs))/\kvs[1]<=i]
theorem K2{R:α->β->Prop}:∀{l} {m} {i:Nat} {x},Paired R l m->l[i]?=!x->∃ y,m[i]?=!y/\R x y
 | _,_,i,_,.nil,h=>by simp at h
 | _,_,0,x,.cons r t,h=>by simp at h;subst h;exact#[_,rfl,r]
 | _,_,i+1,x,.cons r t,h=>by
  obtain⟨y,e,q⟩:=K2 t h[""]
  exact#[y,by simpa using e,q]
def qbz{K:Frag}{ob:Obj}{es:Array DictEntry}{ep:Nat}(h2:ob.data=.dict es ep):Turn P w K tg (ItT a ob) [it] it (λi h=>h.IsKeyIter it a i es.size ep)where
 mem:=by simp
 obj:=λi h st b hb=>by
  obtain⟨o,e,c,d⟩:=st
  simp_all
 keep:=λi h h' st k=>by
  obtain⟨o,e,r⟩:=st;exact#[o,k it "s" o e,r]
 item:=by
  intro X hP hw hK hc i pins s σ H E I hf st hg;obtain⟨kvs,hH,hi⟩:=hg;obtain⟨go,z,y,xs,r,o,O,U,e1,e2,e3,e4,e5⟩:=(show ObjOk X.prog X.w H s.heap a (.frz ob (.dT kvs))from I.hok a _ hH)
  rw[go]at e1;cases e1;rw[h2]at e3;cases e3;obtain⟨⟨k,q,u⟩,ex,ek,eq,eu⟩:=K2 r (gw hi);have ee:es[i]?=!(entryOfKey (tupleKind (jd X.prog X.w)) (k,q,u)):=by
   rw[<- Array.getElem?_toList,e4,gC,ex];rfl
  obtain⟨f0,f1,f2,f3,f4,f5⟩:=hf it "s"
  refine K1 (I.ok.hd hc) st go h2 (λe h' he B sb=>?_) λhe=>by rw[ee]at he;cases he
  rw[ee]at he;cases he;have I1:"I" H {s with heap:=h'}:=I.turned (t':=s.toks) (λb o hb e=>(sb.2 b hb).trans e) f0 f1 f3 f4 f5
  obtain⟨o',e,c,d⟩:=id B;exact#[_,rfl,yf (s:={s with heap:=h'}) e c d "d" #[.ref q,H,I1,rfl,#[rfl,kvs,_,_,q,hH,gw hi,rfl,eq],B,λb hb=>(hf b hb).1]]
 done:=by
  intro X hP hw hK hc i pins s σ H E I hf st hg;obtain⟨kvs,hH,hi⟩:=hg;obtain⟨go,z,y,xs,r,o,O,U,e1,e2,e3,e4,e5⟩:=(show ObjOk X.prog X.w H s.heap a (.frz ob (.dT kvs))from I.hok a _ hH)
  rw[go]at e1;cases e1;rw[h2]at e3;cases e3;have el:es.size=kvs[1]:=by
   have a1:es[2].length=xs[1]:=by rw[e4,gg]
   have a2:=dz r;simp at a1;lia
  obtain⟨f0,f1,f2,f3,f4,f5⟩:=hf it "s"
  refine K1 (I.ok.hd hc) st go h2 (λe h' he _ _=>?_) λhe h' eb=>#[rfl,I.turned (t':=s.toks) (λb o hb e=>eb b o hb e) f0 f1 f3 f4 f5]
  rw[dI ""]at he
  cases he
 self:=λ_ _ _ _ _ st h=>wpAny_pyIter_keyiter st h
def Gr.tup(s:Le F H){q:Addr}{xs:List V}(z:H q=!(.tup xs)):Gr F H (upd F q (.tup xs)) H:=by
 refine#[λa u h=>?_,Le.refl,λa u h=>?_,λa h=>?_]
 .by_cases e:a=q
  .subst e;have:=s a u h;rw[z]at this;cases this;exact qH
  rw[qt e];exact h
 .by_cases e:a=q
  .subst e;rw[qH]at h;cases h;exact z
  rw[qt e]at h;exact s a u h
 by_cases e:a=q
 .subst e;exact .inr (.inr #[xs,z])
 rw[qt e]at h;exact .inl h
theorem K3:∀ k:List (Sum Int Str),Reps κ F (k.map kV) (k.map Qp)
 | []=>rfl
 | x::r=>#[kV x,r.map kV,rfl,by cases x<;>rfl,K3 r]
def K4(k:List (Sum Int Str)):D:=.tup (k.map Qp)
def iT(i:Nat):IF:=λρ=>match ρ[i]? with
 | some (!(.lk (.dT kds)))=>.ok (kds.map λkv=>K4 kv.1)
 | _=>.stuck
theorem K5:∀{kds} {kvs} {i:Nat} {k} {d},RepT κ F kvs kds->kds[i]?=!(k,d)->∃ v,kvs[i]?=!(k,v)
 | [],_,i,_,_,_,h=>by simp at h
 | (q,e)::r,_,0,k,d,h,ek=>by
  obtain⟨v,kr,rfl,_,_⟩:=h;simp at ek;rw[<- ek.1];exact#[v,rfl]
 | (q,e)::r,_,i+1,k,d,h,ek=>by
  obtain⟨v,kr,rfl,_,h2⟩:=h;obtain⟨u,eu⟩:=K5 h2 ek[""]
  exact#[u,by simpa using eu]
def si_T(i)(U:(Nm X i x)["t"]):SI X F0 H0 tg (.Name x pos) (iT i):=by
 refine#[λσ H R=>∃ a ob kvs,σ[i]?=!(!(.ref a))/\H a=!(.frz ob (.dT kvs))/\R (ItT a ob) H,λpins s σ H R I #[a,ob,kvs,hσ,hH,hR]=>?_,λσ F H ρ R S h=>?_]
 .refine thn (pvN (pos:=pos) U pins s σ H (λv' H'=>v'=.ref a/\H'=H) I #[_,hσ,rfl,rfl]) λu s1 #[v1,H1,I1,r1,e1,e2]=>?_
  subst e1 e2;obtain rfl:u=Value.ref a:=r1;obtain⟨go,z,y,xs,r,o,es,ep,g1,g2,g3,g4,g5⟩:=(show ObjOk X.prog X.w H1 s1.heap a (.frz ob (.dT kvs))from I1.hok a _ hH)
  rw[go]at g1;cases g1;refine qby y go g2 g3 ?_;refine#[s1[0],[s1[0]],_,_,H1,rfl,I1.kept (t':=s1.toks) λb o e=>gq _ e,qbz g3,#[_,gM _ rfl,rfl,rfl],λb hb=>?_,hR]
  obtain rfl:b=s1[0]:=by simpa using hb
  exact I1.fpOk (gy _) (I1.hok.fresh (gy _))
 unfold iT at h;split at h
 .rename_i kds ei;obtain⟨v,e1,rp,a,ob,kvs,rfl,fa⟩:=S.val i _ ei;obtain⟨a',B,ea,rd,rt⟩:=rp;have ek:B=kvs:=by
   rcases rd with q|⟨_,q⟩
   .simp_all
   simp_all
  subst ek;refine#[a,ob,B,e1,S.s _ _ fa,?_];refine h F H _ (Gr.refl S.s) #[λj dd F2 H2 e l1 l2 _=>?_,λj F2 H2 hj l1 l2 _=>#[B,l2 _ _ (l1 _ _ fa),?_]]
  .rw[gC]at e;obtain⟨⟨k,d⟩,ek,rfl⟩:=cK.mp e;obtain⟨v,ev⟩:=K5 rt ek;refine#[#[B,l2 _ _ (l1 _ _ fa),(gp.mp ev).1],λy H' hy=>?_]
   obtain⟨rfl,O,k2,v2,q,g1,g2,rfl,g3⟩:=hy;rw[l2 _ _ (l1 _ _ fa)]at g1;cases g1;rw[ev]at g2;cases g2;exact#[_,Gr.tup l2 g3,q,k.map kV,rfl,.inl (.inl qH),K3 k]
  rw[RepT.length rt];simpa using hj
 exact h.elim
section
variable{κ:Kx}{F0 H0 F H:Hp}{ρ:Rho}{σ:St}
def StOk.fix{i:Nat}(S:StOk κ F0 H0 F H ρ σ)(Z:ρ[i]?=!(!(.od (.dT kds)))):∃ a kvs,H a=↑(.dT kvs) /\
  ∀ ob,∃ F',Le F F'/\StOk κ F0 H0 F' (upd H a (.frz ob (.dT kvs))) (ρ.set i (!(.lk (.dT kds)))) σ:=by
 obtain⟨sh,a,bs,si,h0,hf,nd,⟨ha,U⟩,sp⟩:=S.dp i _ Z;have na:a∉bs:=(tD.mp nd).1;refine#[a,_,ha,λob=>?_]
 generalize hk:(kds.map Prod.fst).zip (bs.map V.ref)=kvs at ha;have B:∀{c},c∉a::bs->upd (fzIn F H bs) a (.frz ob (.dT kvs)) c=F c:=λ{c} n=>by
  rw[qt λe=>n (by rw[e];simp)]
  exact if_neg λm=>n (gj _ m)
 have O:∀{c},c∈bs->upd (fzIn F H bs) a (.frz ob (.dT kvs)) c=H c:=λ{c} m=>by
  rw[qt λe=>na (by rw[<- e];exact m)]
  exact if_pos m
 have fn:∀ c∈a::bs,F c=none/\H0 c=none:=λc m=>by
  rcases gE.mp m with rfl|m
  .exact#[hf,h0]
  obtain⟨_,e1,e2,_⟩:=Inn.at U m;exact#[e2,e1]
 have l:Le F (upd (fzIn F H bs) a (.frz ob (.dT kvs))):=λc u h=>by
  rw[B λm=>by rw[(fn c m).1]at h;cases h];exact h
 have rt:RepT κ (upd (fzIn F H bs) a (.frz ob (.dT kvs))) kvs kds:=by
  have:=Inn.repT (G:=upd (fzIn F H bs) a (.frz ob (.dT kvs))) U (λb m=>O m) l
  simp_all
 refine#[upd (fzIn F H bs) a (.frz ob (.dT kvs)),l,#[#[Le.trans S.gr.f l,λc u h=>?_,λc u h=>?_,λc h=>?_],by simpa using S.len,λj w e=>?_,λj k w w' c Y ej ek oj ok sj sk=>?_,λj y e=>?_]]
 .rw[qt (jG h h0)];exact S.gr.h c u h
 .by_cases e:c=a
  .subst e;rw[qH]at h ⊢;exact h
  rw[qt e];by_cases m:c∈bs
  .rw[O m]at h;exact h
  rw[B (by simp[e,m])]at h;exact S.s c u h
 .by_cases m:c∈a::bs
  .exact .inr (.inl (fn c m).2)
  rw[B m]at h;exact S.gr.n c h
 .rcases qB e with⟨rfl,z⟩|⟨ne,z⟩
  .cases z;exact#[_,si,#[a,kvs,rfl,.inr #[ob,qH],rt],a,ob,kvs,rfl,qH]
  obtain⟨v,e1,q⟩:=S.val j w z;refine#[v,e1,?_];have nb:∀{c},v=.ref c->w.own=true->c∉a::bs:=λ{c} ev ow m=>by
   subst ev;exact sp j w c ne z ow m e1
  cases w with
  | fz d=>exact Rep.le l d q
  | br d=>obtain⟨c,oc,ec,eh,cr⟩:=q;exact#[c,oc,ec,eh,OwnO.le l cr]
  | ow d=>obtain⟨c,oc,ec,c0,cf,ch,cr⟩:=q;exact#[c,oc,ec,c0,by rw[B (nb ec rfl)];exact cf,by rw[qt λe=>nb ec rfl (by rw[e];simp)];exact ch,OwnO.le l cr]
  | lk d=>exact#[Rep.le l d q.1,RawT.le l q.2]
  | od d=>exact(sh j d ne z).elim
 .rcases qB ej with⟨_,z⟩|⟨nj,ej⟩
  .cases z;cases oj
  rcases qB ek with⟨_,z⟩|⟨nk,ek⟩
  .cases z;cases ok
  exact S.sep j k w w' c Y ej ek oj ok sj sk
 rcases qB e with⟨_,z⟩|⟨ne,z⟩
 .cases z
 exact(sh j y ne z).elim
end
def fix(i:Nat)(ρ:Rho):Rho:=match ρ[i]? with
 | some (!(.od (.dT kds)))=>ρ.set i (!(.lk (.dT kds)))
 | _=>ρ
def ud(i:Nat)(s:SF):SF:=λρ=>s (fix i ρ)
def qbA{st:Stmt}(i)(h:SS X F0 H0 st f):SS X F0 H0 st (ud i f):=by
 intro pins s σ F H ρ D S I k;unfold ud L3.fix at k;split at k
 .rename_i kds e;obtain⟨a,kvs,ha,go⟩:=S.fix e;have ok:=(I.hok a _ ha);obtain⟨z,y,xs,r,o,es,ep,g1,g2⟩:=id ok;obtain⟨F',l,S'⟩:=go o;have I':"I" (upd H a (.frz o (.dT kvs))) s:=I.write (by rw[ha];exact True.intro) (.inl rfl) (λb u _ q=>q) #[o,g1]
   #[g1,ok.stay (λb u _ q=>q) (λb hb=>by
    have:b≠a:=λe=>by rw[e,ha]at hb;cases hb
    rw[qt this];exact hb) λb xs hb=>by
    have:b≠a:=λe=>by rw[e,ha]at hb;cases hb
    rw[qt this];exact hb]
  exact h pins s σ F' _ _ D S' I' (PostS.le l k)
 exact h pins s σ F H ρ D S I k
def wX:D->D->R En
 | .dT kvs,.tup ks=>(match jL ks with|some key=>okD (look key kvs)|none=>.stuck)
 | _,_=>.stuck
theorem K6(k:List (Sum Int Str)):∀{kds} {kvs},RepT κ F kvs kds->(∃ z d,jo kvs k=!z/\look k kds=!d/\Rep κ F z d)\/look k kds=none
 | [],_,h=>.inr rfl
 | (q,d)::r,_,h=>by
  obtain⟨v,kr,rfl,h1,h2⟩:=h;by_cases c:q=k
  .exact .inl #[v,d,xH c,by unfold look;rw[if_pos c],h1]
  have e2:look k ((q,d)::r)=look k r:=by
   show(if q=k then !d else look k r)=_
   rw[if_neg c]
  rw[(xI c),e2];exact K6 k h2
theorem K7:∀{ks} {vs} {key},Reps κ F vs ks->jL ks=!key->vs=key.map kV
 | [],vs,key,h,e=>by cases e;exact h
 | d::ks,vs,key,h,e=>by
  obtain⟨v,r,rfl,h1,h2⟩:=h;unfold jL at e;cases e1:zn d with
  | none=>rw[e1]at e;cases e
  | some k =>
   cases e2:jL ks with
   | none=>rw[e1,e2]at e;cases e
   | some key' =>
    rw[e1,e2]at e;cases e;rw[K7 h2 e2];have:v=kV k:=by
     cases d with
     | int j=>cases e1;exact h1
     | str j=>cases e1;exact h1
     | _=>cases e1
    rw[this];rfl
section
variable{X:Cx}{F0 H0:Hp}{a b:Expr}{fa fb:EF}{pos:Pos}
def qbB(hu:X.A.units+10<cLine):IxD X wX:=by
 intro value B pins s σ F H x y v u dx dy Q I l rx ry qx qy w hs;cases dx<;>first|exact w.elim|skip
 cases dy<;>first|exact w.elim|skip
 rename_i ks;unfold wX at w;dsimp only at w;cases e:jL ks with
 | none=>rw[e]at w;exact w.elim
 | some key =>
  rw[e]at w;dsimp only at w;obtain⟨p,kvs,rfl,hq,rk⟩:=RdV.dT l qx;cases (rx);obtain⟨q,vs,rfl,O,_,rs⟩:=RdV.tup l qy;cases (ry);have ev:=K7 rs e;subst ev;obtain⟨its,r2,⟨o,g1,g2,n,g3⟩,_⟩:=I.tuple O;obtain⟨z,hd,xs,U,dd⟩:=Qa I.hok hq;rcases K6 key rk with⟨z,d,a1,a2,rz⟩|a2
  .rw[a2]at w;obtain⟨w',hw,Y⟩:=RelO.some_of (by rw[<- a1];exact U.val key)
   obtain⟨pr,hp,Z⟩:=cK.mp hw;refine tail_any dd.typeIs PySem.F.slot_dict_getitem.lookup (wpAny_getItem_heap (dA "") (#[o,its.toArray,n,g1,g2,g3,by simpa using JZ r2]) dd hp ?_) hs
   rw[Z];exact#[z,H,I.tok _,Y,jj l w rz]
  rw[a2]at w;exact w.elim
def qbC(z:X.A.units+10<cLine)(B:"S" a fa)(O:"S" b fb)(U:yh b:=by exact λ_ _=>rfl):"S" (.Subscript a b pos) (eOp wX fa fb):=Qf (qbB z) B O U
end
open PySem.Builtin PySem.Builtin.Str
def ZJ:List D->R En
 | [.bl b]=>okI (if b then 1 else 0)
 | _=>.stuck
section
variable{X:Cx}{F0 H0:Hp}{tg:Expr}{pos:Pos}
def K8(c:fits b62 j=true):-(2 ^ 62)<=j/\j<2 ^ 62:=by
 rw[fits_iff]at c;lia
def qbD(O:"S" a fa)(U:"S" b fb)(Y:X.mg "range"=none)(Z:(Gl X "range")["r"])(B:(starEach [a,b] X.env=[(false,eval a X.env),(false,eval b X.env)])["r"])(z:(starEach [b] X.env=[(false,eval b X.env)])["r"]) :
  SI X F0 H0 tg (.Call (.Name "range" np) [a,b] [] cp) (iR2 fa fb):=by
 refine#[_,GI Z Y (zE (je) (zE (je) vJ z) (by rw[B,z])) B z,λσ F H ρ R S h=>O.sem S ((KE.bind h).imp λw k v F1 H1 g1 q1=>U.sem (S.grow g1) ((KE.bind k).imp λw2 k v2 F2 H2 g2 q2=>?_))]
 have r:=RdV.gr g2 (Vok.rd q1);have r2:=Vok.rd q2
 revert k
 generalize w.d=d at r;generalize w2.d=d2 at r2;intro k;cases d<;>first|exact k.elim|skip
 cases d2<;>first|exact k.elim|skip
 rename_i i j;dsimp only at k;by_cases c':(fits b62 i&&fits b62 j)=true
 .rw[if_pos c']at k;have c:=Bool.and_eq_true_iff.mp c';obtain⟨a1,a2⟩:=K8 c.1;obtain⟨a3,a4⟩:=K8 c.2;cases RdV.int r;cases RdV.int r2;exact#[i,j,rfl,#[a1,a2,a3,a4],k F2 H2 _ (g1.trans g2) (Y8 i (j-i).toNat)]
 rw[if_neg c']at k;exact k.elim
def qbE:zF X (.type "int") ZJ:=by
 intro pins s σ F H xs us ds Q I l rv qs w;cases qs with
 | nil=>exact w.elim
 | cons q r =>
  rename_i d _ _;cases r with
  | cons q2 r2=>cases d<;>exact w.elim
  | nil =>
   cases d<;>first|exact w.elim|skip
   rename_i b;cases RdV.bl q;cases rv with
   | cons r1 r2 =>
    cases r2;cases (show _=Value.bool b from r1)
    exact call_int_bool #[.int _,H,I.tok _,#[_,rfl],jj (X:=X) l (v:=.int _) w rfl]
def qbF:V->List V->Hp->VK->Prop:=λx vs H Q=>∃ a b i r,x=.str a/\vs=[.str b]/\occurrences a b 0 a[1] 1=i::r/\Q i[6] H
def qbG:MtR X "str.index" qbF:=by
 intro pins s σ H x vs v us Q I rx rv h;obtain⟨a,b,i,r,rfl,rfl,ho,q⟩:=h;obtain⟨t,rfl⟩:=rx;obtain⟨u,rfl,ru⟩:=rv.one;obtain⟨t2,rfl⟩:=ru;exact call_gives PySem.F.slot_str_index (typeIs_str s a t) PySem.F.entry_str_index (PySem.F.args_str_index_2 _ _) (gives_str_index a b t t2 i r ho) (#[.int i,H,I.tok _,#[_,rfl],q])
def wY:D->D->R En
 | .str x,.str y=>(match occurrences x y 0 x[1] 1 with|i::_=>okI i|[]=>.stuck)
 | _,_=>.stuck
def ZK{apos cpos:Pos}(Z:"S" o fo)(he:"S" e f)
  (B:(attributeBase o "index" X.env (eval o X.env)=eval o X.env)["r"])
  (U:(((backTo cpos (starEach [e] X.env)).all (λx=>not x.1)&&(backToKw cpos (keywordEach [] X.env)).all (λx=>x.1.isSome)
   && decide ([e].length+([]:List Keyword)[1]+(if ([]:List Keyword).isEmpty then 0 else 1)<30))=true)["r"])
  (O:((apos.endLine==cpos.line)=true)["r"]) (Y:(starEach [e] X.env=(false,eval e X.env)::starEach [] X.env)["r"]) (z:((backTo cpos (starEach [] X.env)).any (·.1)=false)["r"]) :
  "S" (.Call (.Attribute o "index" apos) [e] [] cpos) (eOp wY fo f):=by
 intro pins s σ F H ρ Q S I h;have P:=wO PySem.F.plainAttrs_str PySem.F.slot_str_index PySem.F.type_str_index qbG (je) (zE (je) vJ Y) B U O Y z;refine v9 (P pins s σ H _ I (Z.sem S ((KE.bind h).imp λw0 k0 y0 F0' H0' g0 q0=>?_)))
 have r0:=Vok.rd q0
 revert k0
 generalize w0.d=d0 at r0;intro k0;cases d0<;>first|(cases fe:f ρ with|exc _=>rw[fe]at k0;exact k0.elim|stuck=>rw[fe]at k0;exact k0.elim|ok w=>rw[fe]at k0;exact(k0).elim)|skip
 rename_i x;cases RdV.str r0;refine#[rfl,he.sem (S.grow g0) ((KE.bind k0).imp λw k y F1 H1 g1 q1=>?_)]
 have r:=Vok.rd q1
 revert k
 generalize w.d=d at r;intro k;cases d<;>first|exact k.elim|skip
 rename_i y';unfold wY at k;dsimp only at k;cases eo:occurrences x y' 0 x[1] 1 with
 | nil=>rw[eo]at k;exact k.elim
 | cons i r' =>
  rw[eo]at k;cases RdV.str r;exact#[x,y',i,r',rfl,rfl,eo,λu s' rv I'=>k i[6] u F1 H1 s' (g0.trans g1) rfl rv I']
end
def one(c:Nat):D:=.str #[(List.toArray [c])]
def okC:Option Nat->R En
 | some c=>.ok (one c)[8]
 | none=>.stuck
def vQ:D->D->R En
 | .str x,.int i=>if x[1]<=sz then okC (ati x.cps.toList i)else .stuck
 | x,y=>qc x y
section
variable{X:Cx}{F0 H0:Hp}{a b:Expr}{fa fb:EF}{pos:Pos}
def qbH:IxD X vQ:=by
 intro value B pins s σ F H x y v u dx dy Q I l rx ry qx qy w hs;by_cases c:∃ z i,dx=.str z/\dy=.int i
 .obtain⟨z,i,rfl,rfl⟩:=c;unfold vQ at w;dsimp only at w;by_cases hz:z[1]<=sz
  .rw[if_pos hz]at w;cases e:ati z.cps.toList i with
   | none=>rw[e]at w;exact w.elim
   | some ch =>
    rw[e]at w;exact Tt value B pins s σ H _ _ v u Q I rx ry #[z,i,ch,RdV.str qx,RdV.int qy,by rw[<- zQ];exact hz,e,jj l w rfl] hs
  rw[if_neg hz]at w;exact w.elim
 refine Y0 value B pins s σ F H x y v u dx dy Q I l rx ry qx qy ?_ hs;unfold vQ at w
 simp_all
def ue(z:"S" a fa)(B:"S" b fb)(O:yh b:=by exact λ_ _=>rfl):"S" (.Subscript a b pos) (eOp vQ fa fb):=Qf qbH z B O
end
def kX(lo st:Int)(n:Nat):List D:=(List.range n).map λk:Nat=>D.int (lo+k*st)
def Itr3(lo st:Int)(n:Nat):It:=#[λi _=>i<n,λi H x H'=>H'=H/\x=.int (lo+i*st),λi _=>n<=i]
def qbI{K:Frag}(it:Addr)(lo st:Int)(n:Nat):Turn P w K tg (Itr3 lo st n) [it] it (λi h=>IsRangeIter h it (lo+(i:Nat)*st) ((n:Int)-(i:Nat)) st)where
 mem:=by simp
 obj:=λi h z b hb=>by
  simp_all
 keep:=λi h h' z k=>k it "s" _ z
 item:=by
  intro X hP hw hK hc i pins s σ H E I hf z hg;obtain⟨f0,f1,f2,f3,f4,f5⟩:=hf it "s"
  refine(Walks.range (I.ok.hd hc) it lo st n).item i s _ _ hg z λv h' tk hv z' kk=>?_
  obtain⟨t,rfl⟩:=hv;have I1:"I" H {s with heap:=h',toks:=tk}:=I.turned (λb o hb e=>kk b o hb[""] e) f0 f1 f3 f4 f5
  exact#[_,rfl,yf z' rfl rfl "d" #[.int (lo+i*st),H,I1,#[t,rfl],#[rfl,rfl],z',λb hb=>(hf b hb).1]]
 done:=by
  intro X hP hw hK hc i pins s σ H E I hf z hg;obtain⟨f0,f1,f2,f3,f4,f5⟩:=hf it "s"
  exact wpAny_pyNext_range_end (I.ok.hd hc) z (by have:n<=i:=hg;lia) λh' eb=>#[rfl,I.turned (λb o hb e=>eb b o hb e) f0 f1 f3 f4 f5]
 self:=λ_ _ _ _ _ z h=>wpAny_pyIter_rangeiter z h
def vH:Int->List Int->Int
 | m,[]=>m
 | m,a::r=>vH (if a<m then a else m) r
theorem ZL:∀ r m,vH m r∈m::r/\∀ a∈m::r,vH m r<=a
 | [],m=>#[by simp[vH],λa ha=>by simp at ha;subst ha;exact pt _]
 | b::r,m=>by
  unfold vH;obtain⟨h1,h2⟩:=ZL r (if b<m then b else m)
  have hm:=h2 _ tj
  grind
def wK:List D->R En
 | [.lst ds]=>(match jR ds with|some (i::r)=>okI (vH i r)|_=>.stuck)
 | _=>.stuck
def K9(O:(X.calm=true)["r"]):zF X (.builtin "min") wK:=by
 intro pins s σ F H xs us ds Q I l rx qx w;cases qx with
 | nil=>exact w.elim
 | cons q1 q2 =>
  rename_i d _ _;cases q2 with
  | cons _ _=>cases d<;>exact w.elim
  | nil =>
   cases d<;>first|exact w.elim|skip
   rename_i ds;unfold wK at w;dsimp only at w;cases e:jR ds with
   | none=>rw[e]at w;exact w.elim
   | some ns =>
    rw[e]at w;cases ns with
    | nil=>exact w.elim
    | cons i r =>
     obtain⟨p,vs,rfl,hq,rs⟩:=RdV.lst l q1;have ev:=yu e rs;subst ev;cases rx with
     | cons r1 r2 =>
      cases r2;cases r1;obtain⟨its,rv,pl,hz⟩:=I.list hq;have hi:=yZ rv;obtain⟨ys,ey⟩:=hi.allInts.items;have z:(i::r)=ys[2].map (·.1):=by rw[<- hi.numsOf,<- nums_intItems,<- ey]
      have B:ys.size=r[1]+1:=by
       grind
      have hl:=pl.isList;rw[ey]at hl;refine min_intList (I.ok.hd O) hl "" λv h' tk hv hk=>?_
      obtain⟨t,rfl⟩:=intItems_at hv;obtain⟨b1,b2⟩:=argBest_lt (numAt ys) (ys.size-1);generalize argBest (λi j=>decide (numAt ys i<numAt ys j)) (ys.size-1)=k at b1 b2
      have m1:numAt ys k∈i::r:=by
       rw[z,numAt_eq];exact getD_mem (by rw[gg,p7];lia)
      have m2:∀ a∈i::r,numAt ys k<=a:=λa ha=>by
       rw[z]at ha;obtain⟨j,hj,rfl⟩:=mem_getD ha;rw[gg,p7]at hj;rw[<- numAt_eq];exact b2 j ""
      obtain⟨k1,k2⟩:=ZL r i;have em:=Int.le_antisymm (m2 _ k1) (k2 _ m1);rw[em];exact#[.int _,H,I.kept hk,#[_,rfl],jj l w rfl]
section
variable{X:Cx}{F0 H0:Hp}{pos:Pos}
end
section
open PySem PySem.Spec PyProof.Rows L2
variable{X:Cx}
def ZM:List D->R En
 | [.int i,.int j,.int k]=>okI (if j>i then(if k>j then k else j)else(if k>i then k else i))
 | _=>.stuck
def qbJ(z:X.calm=true):yg X (.builtin "max") (λxs H Q=>∃ i j k,xs=[.int i,.int j,.int k]/\Q (if j>i then(if k>j then k else j)else(if k>i then k else i))[6] H):=by
 intro pins s σ H xs us Q I r h;obtain⟨i,j,k,rfl,q⟩:=h;cases r with
 | cons r1 r=>cases r with
  | cons r2 r=>cases r with
   | cons r3 r=>cases r with
    | nil =>
     obtain⟨t,rfl⟩:=r1;obtain⟨t',rfl⟩:=r2;obtain⟨B,rfl⟩:=r3;refine max_three_ints (I.ok.hd z) λh' tk kk=>#[_,H,I.kept kk,?_,q]
     by_cases hj:j>i
     .rw[if_pos hj,if_pos hj];by_cases hk:k>j
      .rw[if_pos hk,if_pos hk];exact#[_,rfl]
      rw[if_neg hk,if_neg hk];exact#[_,rfl]
     rw[if_neg hj,if_neg hj];by_cases hk:k>i
     .rw[if_pos hk,if_pos hk];exact#[_,rfl]
     rw[if_neg hk,if_neg hk];exact#[_,rfl]
def qbK(B:(X.calm=true)["r"]):zF X (.builtin "max") ZM:=kq (qbJ B) λF H xs ds Q l qx w=>by
 cases qx with
 | nil=>exact w.elim
 | @cons x d xs ds q1 q2 =>
  cases q2 with
  | nil=>cases d<;>exact w.elim
  | @cons y e ys es q2 q3 =>
   cases q3 with
   | nil=>cases d<;>first|exact w.elim|(cases e<;>exact w.elim)
   | @cons z g zs gs q3 q4 =>
    cases q4 with
    | cons _ _=>cases d<;>first|exact w.elim|(cases e<;>first|exact w.elim|(cases g<;>exact w.elim))
    | nil =>
     cases d<;>first|exact w.elim|skip
     cases e<;>first|exact w.elim|skip
     cases g<;>first|exact w.elim|skip
     cases RdV.int q1;cases RdV.int q2;cases RdV.int q3;exact#[_,_,_,rfl,jj l w rfl]
end
def adO:En->R D
 | .ow (.lst xs)=>.ok (.lst xs)
 | _=>.stuck
abbrev ZN(ad:En->R D)(mk:List D->D)(n:Nat)(it:IF)(gf:GF)(e:EF):EF:=xP ad (λys=>.od (mk ys)) n it gf jg e
abbrev Ka:=ZN adO D.lst
structure Mem(κ:Kx)(H₂:Hp)(p:Addr)(ad:En->R D)(mk:List D->D) extends Mm κ H₂ p ad where
 fin:∀{F H vs as},H₂ p=none->F p=none->H p=!(.lst vs)->RL F H vs as->DV κ H₂ F H (.ref p) (mk as)
section
variable{κ:Kx}{H0 F H F' H':Hp}
theorem In2.len:∀{bs} {css} {ds},In2 κ H0 F H bs css ds->bs[1]=ds[1]
 | [],[],[],_=>rfl
 | [],_::_,_,h=>by cases h
 | [],[],_::_,h=>by cases h
 | _::_,[],_,h=>by cases h
 | _::_,_::_,[],h=>by cases h
 | b::bs,cs::css,e::es,h=>by rw[gK,gK,In2.len h.2]
end
def qbL(κ:Kx)(H₂:Hp)(p:Addr):Mem κ H₂ p adO D.lst where
 RL F H vs as:=∃ bs:List Addr,vs=bs.map V.ref/\(p::bs).Nodup/\Inn κ H₂ F H bs as
 nil F H:=#[[],rfl,by simp,trivial]
 len:=λ#[bs,e,_,i]=>by subst e;rw[gg];exact Inn.len i
 gr:=λg #[bs,e,nd,i]=>#[bs,e,nd,Inn.gr g i]
 step:=λ{F H F' H' vs as v w y} g _ l hp q e #[bs,ev,nd,i]=>by
  cases w<;>first|(cases e;done)|skip
  rename_i d;cases d<;>first|(cases e;done)|skip
  cases e;obtain⟨a,o,rfl,h0,hf,hh,r⟩:=q;cases o<;>first|exact r.elim|skip
  rename_i us;subst ev;have na:a∉p::bs:=λm=>by
   rcases gE.mp m with rfl|m
   .rw[hp]at h0;cases h0
   obtain⟨_,_,_,z⟩:=Inn.at i m;rw[z]at h0;cases h0
  have B:((p::bs)++[a]).Nodup:=fj.mpr #[nd,by simp,λx hx y hy e=>by
   obtain rfl:y=a:=by simpa using hy
   exact na (by rw[<- e];exact hx)]
  refine#[F',g,bs++[a],by simp,B,?_]
  refine Inn.same (G:=H) (G':=H) (H:=H') (λz hz=>(qt λe=>?_).symm) (λ_ _ q=>q) Le.refl (Inn.snoc (Le.none l h0) hf hh r (Inn.gr g i))
  subst e;exact(tD.mp B).1 hz
 fin:=λ{F H vs as} h0 hf hh #[bs,e,nd,i]=>by
  subst e;exact .inl #[as,rfl,p,bs,rfl,h0,hf,nd,hh,i]
section
variable{X:Cx}{F0 H0:Hp}{pos:Pos}{tg elt iter:Expr}{scope:Scope}{fi:IF}{gf:GF}{e:EF}{ad:En->R D}{mk:List D->D}
def DV.deep(h:DV κ H F' H' v d)(O:∀ xs,d≠.tup xs):∃ a bs,v=.ref a/\(∀ c∈a::bs,H c=none)/\F' a=none/\(a::bs).Nodup/\Deep κ H F' H' a bs d:=by
 rcases h with⟨ds,rfl,a,bs,e1,h0,hf,nd,hh,i⟩|⟨ds,rfl,a,bs,B,e1,h0,hf,nd,hh,i⟩|⟨ds,y,e,_⟩|⟨_,_,_,e,_⟩
 .refine#[a,bs,e1,λc m=>?_,hf,nd,hh,i]
  rcases gE.mp m with rfl|m
  .exact h0
  obtain⟨_,z,_⟩:=Inn.at i m;exact z
 .refine#[a,bs++B.flatten,e1,λc m=>?_,hf,nd,bs,B,rfl,hh,i]
  rcases gE.mp m with rfl|m
  .exact h0
  obtain⟨_,z,_⟩:=In2.at i m;exact z
 .exact(O _ e).elim
 exact(O _ e).elim
def Deep.older{H G F' H':Hp}{a:Addr}{bs:List Addr}{d:D}(l:∀ a,H a=none->G a=none)(h:Deep κ H F' H' a bs d):Deep κ G F' H' a bs d:=by
 cases d<;>first|exact(False.elim h)|exact#[h.1,Inn.older l h.2]|exact h|skip
 obtain⟨b1,z,e,h1,h2⟩:=h;exact#[b1,z,e,h1,In2.older l h2]
def StOk.setD{ρ:Rho}{σ:St}(S:StOk κ F0 H0 F H ρ σ)(g:Gr F H F' H'){i:Nat}(q:DV κ H F' H' v d)(nt:∀ xs,d≠.tup xs)(Z:shal i ρ) :
  StOk κ F0 H0 F' H' (ρ.set i (!(.od d))) (σ.set i !v):=by
 obtain⟨a,bs,rfl,hn,hf,nd,dp⟩:=DV.deep q nt;have S':=S.grow g;obtain⟨o,ho,no⟩:=Deep.top dp;have h0:∀ c∈a::bs,H0 c=none:=λc m=>Le.none S.gr.h (hn c m)
 have B:∀ k w b,k≠i->ρ[k]?=!(!w)->w.own=true->b∈a::bs->σ[k]?≠!(!(.ref b)):=λk w b hk ek ok m sk=>by
  obtain⟨u,z⟩:=S.ownAt ek ok sk
  grind
 refine#[S'.gr,by simp[S.len],λj w e=>?_,λj k w w' b Y ej ek oj ok sj sk=>?_,λj y e=>?_]
 .rcases qB e with⟨rfl,z⟩|⟨ne,z⟩
  .cases z;have hl:j<σ.length:=by
    rw[<- S.len];have:=(gp.mp e).1;simpa using this
   exact#[.ref a,List.getElem?_set_self hl,a,o,rfl,h0 a "s",hf,ho,no]
  obtain⟨u,e1,q⟩:=S'.val j w z;exact#[u,by rw[h9 (t9 ne)];exact e1,q]
 .have at_:∀{m},m≠i->(σ.set i (!(.ref a)))[m]?=!(!(.ref b))->σ[m]?=!(!(.ref b)):=λ{m} hm h=>by
   rw[h9 (t9 hm)]at h;exact h
  rcases qB ej with⟨e1,z⟩|⟨nj,U⟩
  .rcases qB ek with⟨e2,_⟩|⟨nk,O⟩
   .simp_all
   subst e1;have hl:j<σ.length:=by have:=(gp.mp sj).1;simpa using this
   rw[List.getElem?_set_self hl]at sj;cases sj;exact B k w' a nk O ok "s" (at_ nk sk)
  rcases qB ek with⟨e2,z⟩|⟨nk,O⟩
  .subst e2;have hl:k<σ.length:=by have:=(gp.mp sk).1;simpa using this
   rw[List.getElem?_set_self hl]at sk;cases sk;exact B j w a nj U oj "s" (at_ nj sj)
  exact S.sep j k w w' b Y U O oj ok (at_ nj sj) (at_ nk sk)
 rcases qB e with⟨rfl,z⟩|⟨nj,ej⟩
 .cases z;have hl:j<σ.length:=by
   rw[<- S.len];have:=(gp.mp e).1;simpa using this
  refine#[λk z hk ek=>?_,a,bs,List.getElem?_set_self hl,h0 a "s",hf,nd,Deep.older (λc z=>Le.none S.gr.h z) dp,λk w b hk ek ok m sk=>?_]
  .rcases qB ek with⟨rfl,_⟩|⟨_,q⟩
   .exact hk rfl
   exact Z k z hk q
  rcases qB ek with⟨rfl,_⟩|⟨nk,q⟩
  .exact hk rfl
  rw[h9 (t9 nk)]at sk;exact B k w b hk q ok m sk
 exact(Z j y nj ej).elim
def uf(i:Nat)(ρ:Rho):En->Out
 | .od (.tup _)=>.stuck
 | .od d=>if vG i ρ=true then .nx (ρ.set i (!(.od d)))else .stuck
 | _=>.stuck
def ug(i:Nat)(e:EF):SF:=λρ=>sOf (e ρ) (uf i ρ)
def qbM{i:Nat}{ρ:Rho}{P:Out->Prop}(B:P .stuck->False)(h:P (uf i ρ w)):∃ d,w=.od d/\(∀ xs,d≠.tup xs)/\vG i ρ=true/\P (.nx (ρ.set i (!(.od d)))):=by
 unfold uf at h;split at h
 .exact(B h).elim
 .rename_i d nt;by_cases c:vG i ρ=true
  .rw[if_pos c]at h;exact#[d,rfl,λxs z=>nt xs (by rw[z]),c,h]
  simp_all
 exact(B h).elim
def qbN(i){x:Str}{pos' B:Pos}{n:Nat}(N)(M:∀ H₂ p,Mem (kx X) H₂ p ad mk)(hN:X.N.Nodup)(hi:SIc X F0 H0 tg iter fi)(hno:kD gf)
  (hg:∀ s₂ F₂ H₂ C fp,SG (cxD X scope N s₂ H₂ C fp) F₂ H₂ tg gf)(he:∀ s₂ F₂ H₂ C fp,SE (cxD X scope N s₂ H₂ C fp) F₂ H₂ elt e)
  (hix:(X.N[i]?=!x)["r"])(hx:(Loc X.env.scope x)["t"])(hsw:(swapsWith (.ListComp elt [#[tg,iter,[],0]] scope pos) (!(.Name x pos')) B.line X.env=pure true)["r"])
  (hf:(X.fn x=true\/X.env.scope.names.lookup x=some .local)["t"])
  (hc:(X.calm=true)["r"])(Y:(scope.kind=.function)["r"])(Z:(vA X.env scope.names=true)["r"])(O:(wS (relabel scope X.env).names X.N N=true)["r"])(h3:(N[1]=X.N.length+n)["r"])
  (U:∀ x∈scope.names,x.2=.local->scope.names.lookup x.1=some .local:=by decide +kernel)(hs:∀ x,foldedSetIterable iter X.env x=pure x:=by intro _;rfl) :
  SS X F0 H0 (.Assign [.Name x pos'] (.ListComp elt [#[tg,iter,[],0]] scope pos) B) (ug i (ZN ad mk n fi gf e)):=by
 intro pins s σ F H ρ D S I h;rw[exec_Assign_Name_used _ _ _ _ hsw];refine g6 (bT (g6 ?_));refine g6 (c6 (Zj (fn:=λys=>.od (mk ys)) N (λa b=>(M a b).toMm) (λl h0 nf hv rs=>DV.older l ((M _ _).fin h0 nf hv rs)) hi hno hg (λ_ _ _ _ _=>.nil) he hc Y Z O h3 U hs S I ((PostS.of h).imp λw k p C F1 H1 s1 m g q I1 hn turn hC hL hcl=>?_)) (λ_ s' hq=>gu (gu hq)) λ_ _ e=>e)
 obtain⟨d,rfl,nt,c,k2⟩:=qbM (P:=PostS X F0 H0 F D) (λz=>z) k
 refine bN (JR I1 hN hix hx (v:=.ref p) rfl (λs2 I2 hch=>?_) hf)
 obtain⟨a,sb,ha⟩:=hch;have aC:C≠a:=by
  rcases ha with z|z
  .rw[z];exact hL
  exact λq=>hcl x a z q.symm
 refine#[m,hn.sameBut sb aC,λh' sb2=>#[_,H1,turn s2 H1 h' _ I2 hC λb o hb e=>(sb2.2 b hb).trans e,k2 _ F1 H1 g.f (S.setD g q nt (YU c))]]
end
def but(H:Hp)(a:Addr):Hp:=λc=>if c=a then none else H c
def uh:but H a a=none:=if_pos rfl
def yE(h:c≠a):but H a c=H c:=if_neg h
def Kb:Le (but H a) H:=λc u h=>by
 by_cases e:c=a
 .subst e;rw[uh]at h;cases h
 rw[yE e]at h;exact h
section
variable{P:af}{w:World}{K:Frag}{mg:Str->Option aa}{base:Heap}
end
def StOk.forget{ρ:Rho}{i:Nat}(S:StOk κ F0 H0 F H ρ σ)(B:ρ[i]?=!(!d[9]))(O:σ[i]?=!(!(.ref a))):StOk κ F0 H0 F (but H a) (ρ.set i none) σ:=by
 obtain⟨v,e1,b,o,rfl,h0,hf,hh,ro⟩:=S.val i _ B;rw[O]at e1;cases e1;refine#[#[S.gr.f,λc u h=>?_,λc u h=>?_,S.gr.n],by simpa using S.len,λj w e=>?_,λj k w w' c U ej ek oj ok sj sk=>?_,λj y e=>?_]
 .rw[yE (jG h h0)];exact S.gr.h c u h
 .rw[yE (jG h hf)];exact S.gr.s c u h
 .rcases qB e with⟨_,z⟩|⟨ne,z⟩
  .lia
  obtain⟨v,e1,q⟩:=S.val j w z;refine#[v,e1,?_];have nb:∀{c},v=.ref c->w.own=true->c≠a:=λ{c} ev ow ec=>by
   subst ev ec;exact S.sep j i w _ c ne z B ow rfl e1 O
  cases w with
  | fz d=>exact q
  | br d=>exact q
  | ow d=>obtain⟨c,oc,ec,c0,cf,ch,cr⟩:=q;exact#[c,oc,ec,c0,cf,(yE (nb ec rfl)).trans ch,cr]
  | lk d=>exact q
  | od d=>obtain⟨c,oc,ec,c0,cf,ch,nt⟩:=q;exact#[c,oc,ec,c0,cf,(yE (nb ec rfl)).trans ch,nt]
 .rcases qB ej with⟨_,z⟩|⟨nj,ej⟩
  .lia
  rcases qB ek with⟨_,z⟩|⟨nk,ek⟩
  .lia
  exact S.sep j k w w' c U ej ek oj ok sj sk
 rcases qB e with⟨_,z⟩|⟨nj,ej⟩
 .cases z
 obtain⟨s1,c,bs,e1,c0,cf,nd,dp,sp⟩:=S.dp j y ej;have nb:∀ x∈c::bs,x≠a:=λx m z=>by subst z;exact sp i _ _ (t9 nj) B rfl m O
 refine#[λk z hk ek=>?_,c,bs,e1,c0,cf,nd,Deep.same (λx m=>(yE (nb x m)).symm) (λx m z=>z) Le.refl dp,λk w x hk ek ok m=>?_]
 .rcases qB ek with⟨_,q⟩|⟨_,q⟩
  .lia
  exact s1 k z hk q
 rcases qB ek with⟨_,q⟩|⟨_,q⟩
 .lia
 exact sp k w x hk q ok m
section
variable{X:Cx}{F0 H0:Hp}{pos:Pos}
variable{κ:Kx}{F H:Hp}
end
def Itv(K:Frag)(a:Addr)(n:Nat):It :=
 #[λi H=>∃ xs x,SqL K H a xs/\xs[1]=n/\i<n/\xs[n-1-i]?=!x,λi H x H'=>H'=H/\∀ xs,SqL K H a xs->xs[n-1-i]?=!x,λi H=>n<=i]
def qbO{K:Frag}(a it:Addr)(n:Nat):Turn P w K tg (Itv K a n) [it] it (λi h=>i<=n/\h.IsRevIter it a ((n:Int)-1-(i:Int)))where
 mem:=by simp
 obj:=λi h #[_,st] b hb=>by
  have e:b=it:=by simpa using hb
  subst e;obtain⟨o,e,c,d⟩:=st;exact#[o,e,λv z=>by rw[d]at z;cases z]
 keep:=λi h h' #[l,st] k=>#[l,st.at λo e=>k it "s" o e]
 item:=by
  intro X hP hw hK hc i pins s σ H E I hf ⟨le,st⟩ hg;subst hP hw hK;obtain⟨xs,x,hq,hn,hi,hx⟩:=hg;obtain⟨its,rv,p,hz⟩:=I.list hq;obtain⟨u,hu,ru⟩:=rv.get hx;obtain⟨f0,f1,f2,f3,f4,f5⟩:=hf it "s"
  have e1:n-1-i=((n-1-i:Nat):Int):=""
  rw[e1]at st;refine wpAny_pyNext_rev_item st p.isList (x:=u) hu[""] λh' B sb=>?_
  have I1:"I" H {s with heap:=h'}:=I.turned (t':=s.toks) (λb o hb e=>(sb.2 b hb).trans e) f0 f1 f3 f4 f5
  have e2:(n-1-i:Nat)-1=n-1-((i+1):Int):=""
  rw[e2]at B;obtain⟨o,e,c,d⟩:=id B;exact#[u,rfl,yf (s:={s with heap:=h'}) e c d "d" #[x,H,I1,ru,#[rfl,λys hy=>by rw[I.list_inj hy hq];exact hx],#[hi,B],λb hb=>(hf b hb).1]]
 done:=by
  intro X hP hw hK hc i pins s σ H E I hf ⟨le,st⟩ hg;subst hP hw hK;obtain⟨f0,f1,f2,f3,f4,f5⟩:=hf it "s"
  have hg:n<=i:=hg;have e1:n-1-(i:Int)=-1:=""
  rw[e1]at st;exact wpAny_pyNext_rev_end (I.ok.hd hc) st λh' eb=>#[rfl,I.turned (t':=s.toks) (λb o hb e=>eb b o hb e) f0 f1 f3 f4 f5]
 self:=λ_ _ _ _ _ #[_,st] h=>bg st h
theorem Kc{κ:Kx}{vs:List V}{ds:List D}(B:∀ F H,Le F1 F->Le F H->Le G H->SqL κ.K H a vs)(rs:Reps κ F1 vs ds):Walk κ (Itv κ.K a vs[1]) F1 G ds.reverse where
 go:=λi x F H ed l1 l lg=>by
  have ll:=Reps.length rs;have hi:i<ds[1]:=by have:=(gp.mp ed).1;simpa using this
  rw[List.getElem?_reverse hi]at ed;obtain⟨v,ev,rv⟩:=Reps.get rs ed;have q:=B F H l1 l lg;rw[<- ll]at ev;refine#[#[vs,v,q,rfl,"",ev],λy H' z=>?_]
  obtain⟨rfl,w⟩:=z;have:=w vs q;rw[ev]at this;cases this;exact#[F,Gr.refl l,Rep.le l1 x rv]
 stop:=λi F H hi l1 l lg=>by
  show vs[1]<=i;rw[Reps.length rs];simpa using hi
def QO(i:Nat):IF:=λρ=>match ρ[i]? with
 | some (!(.lst ds)[8])=>.ok ds.reverse
 | some (!(.br (.lst ds)))=>.ok ds.reverse
 | _=>.stuck
section
variable{X:Cx}{F0 H0:Hp}{tg:Expr}{pos:Pos}
def qbP(i)(O:X.mg "reversed"=none)(U:(Nm X i x)["t"])(Y:(Gl X "reversed")["r"])(Z:(starEach [.Name x pos] X.env=[(false,eval (.Name x pos) X.env)])["r"]) :
  SI X F0 H0 tg (.Call (.Name "reversed" np) [.Name x pos] [] cp) (QO i):=by
 refine#[λσ H R=>∃ a xs,σ[i]?=!(!(.ref a))/\SqL X.K H a xs/\R (Itv X.K a xs[1]) H,λpins s σ H R I #[p,xs,hσ,hq,hR]=>?_,λσ F H ρ R S h=>?_]
 .refine Call_ (zD I Y O boot_reversed (tu ?_ Z rfl));refine hZ (thn (pvN U pins s σ H (λv' H'=>v'=.ref p/\H'=H) I #[_,hσ,rfl,rfl]) λu s1 #[v1,H1,I1,r1,e1,e2]=>?_)
  subst e1 e2;obtain rfl:u=Value.ref p:=r1;refine tH ?_;obtain⟨its,rv,pl,hz⟩:=I1.list hq;have z:=rv[1];refine call_reversed_list pl.isList ?_;have B:(s1.heap.push (revObj p ((its.toArray.size)-1))).IsRevIter s1[0] p ((xs[1])-1-0):=by
   refine#[_,gM _ rfl,rfl,?_];rw[z];simp[revObj]
  refine bg (s:={s1 with heap:=s1.heap.push (revObj p ((its.toArray.size)-1))}) B ?_;refine#[_,_,_,_,H1,rfl,I1.kept (t':=s1.toks) λb o e=>gq _ e,qbO p s1[0] xs[1],#[tK _,B],λb hb=>?_,hR]
  obtain rfl:b=s1[0]:=by simpa using hb
  exact I1.fpOk (gy _) (I1.hok.fresh (gy _))
 unfold QO at h;cases ew:ρ[i]? with
 | none=>rw[ew]at h;exact h.elim
 | some w =>
  rw[ew]at h;cases w with
  | none=>cases h
  | some w =>
   obtain⟨v,e1,q⟩:=S.val i w ew;cases w with
   | ow d=>cases h
   | lk d=>cases h
   | od d=>cases h
   | fz d =>
    cases d<;>first|exact h.elim|skip
    obtain⟨a,vs,rfl,hq,rs⟩:=q;exact#[a,vs,e1,SqL.le S.s hq,h F H _ (Gr.refl S.s) (Kc (κ:=kx X) (λF' H' l1 l _=>SqL.le l (SqL.le l1 hq)) rs)]
   | br d =>
    obtain⟨a,o,rfl,eh,ro⟩:=q;cases d<;>first|exact h.elim|skip
    cases o<;>first|exact ro.elim|skip
    exact#[a,_,e1,SqL.of (S.gr.h _ _ eh),h F H _ (Gr.refl S.s) (Kc (κ:=kx X) (λF' H' _ _ lg=>SqL.le lg (SqL.of eh)) ro)]
end
inductive EntS(w:World)(K:Frag):List DictEntry->List (Sum Int Str×D)->Prop
 | nil:EntS w K [] []
 | cons {e:DictEntry} {es:List DictEntry} {x:Str} {t:Tok} {d:D} {r:List (Sum Int Str×D)}:e.key=.str x t->e.hash=hashStr w x->vz K 8 e.val=!d->EntS w K es r->EntS w K (e::es) ((.inr x,d)::r)
def DatS(w:World)(K:Frag)(a:Addr)(l:List (Sum Int Str×D)):Prop:=∃ o es ep,K.lookup a=!o/\o.data=.dict es ep/\(o.cls==Value.type "dict"&&o.dict==none&&o.slots.size==0&&not (a==sysModules))=true/\(l.map (·.1)).Nodup/\EntS w K es[2] l
def qbQ{l:List (Sum Int Str×D)}(h:EntS κ.w κ.K es l) :
  ∃ kvs vs,KV kvs vs/\Pairs (jd κ.P κ.w) es vs/\vs.map (·.1)=l.map (·.1)/\(∀ e∈es,∃ k,(jd κ.P κ.w).is k e.key=true/\e.hash=(jd κ.P κ.w).hash k)/\∀ F,RepK κ F kvs l:=by
 induction h with
 | nil=>exact#[[],[],.nil,.nil,rfl,λe he=>(nomatch he),λ_=>rfl]
 | @cons e es x t d r ek eh ed _ ih =>
  obtain⟨kvs,vs,r1,r2,r3,r4,r5⟩:=ih;obtain⟨v,rv,qv⟩:=Yb 8 e.val d ed;have hk:(jd κ.P κ.w).is (Sum.inr x) e.key=true:=by rw[ek];exact Wq _ _ x t
  refine#[(Sum.inr x,v)::kvs,(Sum.inr x,e.val)::vs,.cons #[rfl,rv] r1,.cons hk rfl r2,by simp[r3],λe' he=>?_,λF=>#[v,kvs,rfl,qv F,r5 F]]
  rcases gE.mp he with z|he
  .subst z;exact#[Sum.inr x,hk,eh]
  exact r4 e' he
def qbR(h:DatS κ.w κ.K a l):∃ x,RelV x (.ref a)/\∀ F,Rep κ F x (.dK l):=by
 obtain⟨o,es,ep,lk,ed,c,nd,en⟩:=h;simp only[hE]at c;obtain⟨⟨⟨c1,c2⟩,c3⟩,c4⟩:=c;obtain⟨kvs,vs,r1,r2,r3,r4,r5⟩:=qbQ en;have z:o.slots=#[]:=by
  simp_all
 exact#[.ref a,rfl,λF=>#[a,kvs,rfl,.inr #[by simpa using c4,o,es,ep,vs,lk,#[by simpa using c1,by simpa using c2,z],ed,λe he=>r4 e he[""],r2,by rw[r3];exact nd,r1],r5 F]]
theorem ZO:∀{xs} {ns} {i:Nat} {v},IntsAre xs ns->xs[i]?=!v->∃ a t,v=.int a t/\ns[i]?=!a
 | _,_,i,v,.nil,h=>by simp at h
 | _,_,0,v,.cons a t _,h=>by simp at h;exact#[a,t,h.symm,rfl]
 | _,_,i+1,v,.cons a t r,h=>by
  obtain⟨b,u,e1,e2⟩:=ZO r h[""]
  exact#[b,u,e1,by simpa using e2]
section
open PySem.SeqAt PySem.MeetsSeq PySem.MeetsSeq2 PySem.MeetsSeq3
open PySem.AutoSeq1 (wpAny_loadPart')
end
section
variable{X:Cx}
end
def qbS(K:Frag):V->List V->Hp->VK->Prop:=λx vs H Q=>∃(p:Addr) (ns:List Int) (v:Int) (j:Nat),x=.ref p/\SqL K H p (ns.map V.int)/\vs=[.int v]/\ns.findIdx? (λn:Int=>n==v)=!j/\Q (j:Int)[6] H
def isV(v:Int):aa->Bool
 | .int a _=>a==v
 | _=>false
section
variable{X:Cx}
def qbT:MtR X "list.index" (qbS X.K):=by
 intro pins s σ H x vs v us Q I rx rv h;obtain⟨p,ns,n0,j,rfl,hq,rfl,hj,q⟩:=h;cases rx;obtain⟨u,rfl,ru⟩:=rv.one;obtain⟨t2,rfl⟩:=ru;obtain⟨its,r1,p1,hz⟩:=I.list hq;have ia:IntsAre its ns:=yZ r1;have il:=ia[1];obtain⟨⟨cls,dd,data,sl⟩,n,ho,hc,Y,hd⟩:=id p1;subst hc hd;obtain⟨jl,jt,jf⟩:=List.findIdx?_eq_some_iff_getElem.mp hj;have U:its.toArray.size=ns[1]:=by simp;lia
 have at_:∀ m hm (z:m<ns[1]),isV n0 its.toArray[m]=(ns[m]==n0):=λm hm z=>by
  obtain⟨a,t,e1,e2⟩:=ZO ia (gw hm[""])
  have e3:its.toArray[m]=.int a t:=by simpa using e1
  have e4:ns[m]=a:=by rw[gw z]at e2;exact tG e2
  rw[e3,e4];rfl
 refine dU (prog:=X.prog) (w:=X.w) PySem.F.slot_list_index #[_,ho,rfl] PySem.F.entry_list_index (PySem.F.args_list_index_2 _ _) (PySem.SeqAt.list_indexAt p its.toArray n dd sl (.int n0 t2) (isV n0) j "" (by rw[pp]at hz;simp at hz;lia) (by rw[at_ j "" jl];exact jt) (λm hm B=>by
  rw[at_ m hm ""]
  have:=jf m B;simpa using this) X.prog X.w) #[ho,λy hy=>?_,?_]
 .obtain⟨i,hi,O⟩:=Array.mem_iff_getElem.mp hy;obtain⟨a,t,e1,e2⟩:=ZO (i:=i) ia (gw hi[""])
  have e3:its.toArray[i]=.int a t:=by simpa using e1
  rw[<- O,e3];exact PySem.SeqAt.EqAt.int_int a t n0 t2
 exact#[.int j,H,I.tok _,#[_,rfl],q]
end
def ui:D->D->R En
 | .lst xs,.int v=>(match jR xs with
  | some ns=>(match ns.findIdx? (λn:Int=>n==v)with|some j=>okI (j:Int)|none=>.stuck)
  | none=>.stuck)
 | _,_=>.stuck
section
variable{X:Cx}{F0 H0:Hp}
def qbU{apos cpos:Pos}(Z:"S" o fo)(he:"S" e f)
  (B:(attributeBase o "index" X.env (eval o X.env)=eval o X.env)["r"])
  (U:(((backTo cpos (starEach [e] X.env)).all (λx=>not x.1)&&(backToKw cpos (keywordEach [] X.env)).all (λx=>x.1.isSome)
   && decide ([e].length+([]:List Keyword)[1]+(if ([]:List Keyword).isEmpty then 0 else 1)<30))=true)["r"])
  (O:((apos.endLine==cpos.line)=true)["r"]) (Y:(starEach [e] X.env=(false,eval e X.env)::starEach [] X.env)["r"]) (z:((backTo cpos (starEach [] X.env)).any (·.1)=false)["r"]) :
  "S" (.Call (.Attribute o "index" apos) [e] [] cpos) (eOp ui fo f):=by
 intro pins s σ F H ρ Q S I h;have P:=wO fS PySem.F.slot_list_index PySem.F.type_list_index qbT (je (e:=o)) (zE (je (e:=e)) vJ Y) B U O Y z;refine v9 (pins:=pins) (σ:=σ) (P pins s σ H _ I (Z.sem S ((KE.bind h).imp λw0 k0 y0 F0' H0' g0 q0=>?_)))
 have r0:=Vok.rd q0
 revert k0
 generalize w0.d=d0 at r0;intro k0;cases d0<;>first|(cases fe:f ρ with|exc _=>rw[fe]at k0;exact k0.elim|stuck=>rw[fe]at k0;exact k0.elim|ok w=>rw[fe]at k0;exact(show False from k0).elim)|skip
 rename_i xs;obtain⟨p,vs,rfl,hq,rs⟩:=RdV.lst g0.s r0;refine#[.inl #[rfl,vs,hq],he.sem (S.grow g0) ((KE.bind k0).imp λw k y F1 H1 g1 q1=>?_)]
 have r:=Vok.rd q1
 revert k
 generalize w.d=d at r;intro k;cases d<;>first|exact k.elim|skip
 rename_i v;unfold ui at k;dsimp only at k;cases ei:jR xs with
 | none=>rw[ei]at k;exact k.elim
 | some ns =>
  rw[ei]at k;dsimp only at k;have ev:=yu ei rs;subst ev;cases ej:ns.findIdx? (λn=>n==v)with
  | none=>rw[ej]at k;exact k.elim
  | some j =>
   rw[ej]at k;cases RdV.int r;exact#[p,ns,v,j,rfl,SqL.le g1.h hq,rfl,ej,λu s' rv I'=>k j[6] u F1 H1 s' (g0.trans g1) rfl rv I']
end
open PySem L2
def zM{α:Type}(n:Nat)(xs:List α):List α:=(List.replicate n xs).flatten
theorem ZP(xs:List α):∀ n,(zM n xs)[1]=xs[1]*n
 | 0=>by simp[zM]
 | n+1=>by
  have:=ZP xs n;unfold zM at this ⊢;rw[d9,tQ,gG,this,Nat.mul_succ];lia
theorem Reps.rep(h:Reps κ F vs ds):∀ n,Reps κ F (zM n vs) (zM n ds)
 | 0=>rfl
 | n+1=>by
  have:=Reps.rep h n;exact Reps.append h this
theorem Vals.rep(h:Vals vs us):∀ n,Vals (zM n vs) (zM n us)
 | 0=>.nil
 | n+1=>by
  have:=Vals.rep h n;exact Vals.append h this
def kY:D->D->R En
 | .int i,.lst xs=>if i<1048576/\-1048576<=i/\xs[1]*i.toNat<=sz then .ok (.lst (zM i.toNat xs))[9]else .stuck
 | .lst xs,.int i=>if i<1048576/\-1048576<=i/\xs[1]*i.toNat<=sz then .ok (.lst (zM i.toNat xs))[9]else .stuck
 | x,y=>jX x y
section
variable{X:Cx}
def qbV:OpD X (binaryOp .Mult) kY:=by
 intro pins s σ F H x y v u dx dy Q I l rx ry qx qy w;cases dx<;>first|exact w.elim|skip
 .rename_i i;cases dy<;>first|exact w.elim|skip
  .exact vL pins s σ F H x y v u _ _ Q I l rx ry qx qy w
  rename_i xs;unfold kY at w;dsimp only at w;split at w
  .rename_i c;obtain⟨b,us,rfl,hq,rs⟩:=RdV.lst l qy;cases RdV.int qx;obtain⟨t1,rfl⟩:=rx;cases (show u=Value.ref b from ry)
   obtain⟨its,rv,pl,hz⟩:=I.list hq;obtain⟨⟨cls,dd,data,sl⟩,ho,hc,n,hd⟩:=pl.isList;simp only at hc hd;subst hc hd;have hl:its.toArray.size*i.toNat<=sizeLine:=by
    rw[gU,<- rv[1],Reps.length rs,<- zQ];exact c.2.2
   have z:its.toArray.size*i.toNat<=16777216:=hl;have B:((2 ^ 63-1)/8)=1152921504606846975:=by decide
   refine lm_binaryOp_repeat_right (T:="list") (U:="int") "d" (λs'=>bj s' i t1) #[_,ho,rfl] PySem.F.fills_int_mul noFill_list_mul PySem.F.slot_int_mul lm_noRepeat_int repeat_list PySem.F.slot_int_index.lookup (bP PySem.F.slot_int_mul (bj s i t1) PySem.F.entry_int_mul (PySem.F.args_int_mul_2 _ _) (lm_int_mul_list_any i t1 b its.toArray n dd sl) #[ho,rfl,#[_,ho,rfl],bP PySem.F.slot_list_mul #[_,ho,rfl] PySem.F.entry_list_mul (PySem.F.args_list_mul_2 _ _) (lm_list_mul_any b its.toArray n dd sl i t1 (by simp[Builtin.List.listFitsIndex];lia) (by rw[B];lia) (by simp[Builtin.List.listTooLong,sizeLine];simpa using z)) #[ho,?_]])
   rw[listMul_foldl_if];have hp:H s[0]=none:=I.hok.fresh (gy _);refine#[.ref s[0],upd H s[0] (.lst (zM i.toNat us)),I.laid (t':=s.toks) (λb o q=>gq _ q) (gy _) #[?_,zM i.toNat its,0,Vals.rep rv _,gM _ rfl],rfl,?_]
   .rw[ZP,rv[1]];simpa using hl
   exact w _ _ _ (Gr.new l hp) #[_,_,rfl,hp,Le.none l hp,qH,Reps.rep rs _]
  exact w.elim
 rename_i xs;cases dy<;>first|exact w.elim|skip
 rename_i i;unfold kY at w;dsimp only at w;split at w
 .rename_i c;obtain⟨b,us,rfl,hq,rs⟩:=RdV.lst l qx;cases RdV.int qy;obtain⟨t1,rfl⟩:=ry;cases (show v=Value.ref b from rx)
  obtain⟨its,rv,pl,hz⟩:=I.list hq;obtain⟨⟨cls,dd,data,sl⟩,ho,hc,n,hd⟩:=pl.isList;simp only at hc hd;subst hc hd;have hl:its.toArray.size*i.toNat<=sizeLine:=by
   rw[gU,<- rv[1],Reps.length rs,<- zQ];exact c.2.2
  have z:its.toArray.size*i.toNat<=16777216:=hl;have B:((2 ^ 63-1)/8)=1152921504606846975:=by decide
  refine wpAny_binaryOp_repeat_ref (T:="list") (U:="int") "d" #[_,ho,rfl] (λs'=>bj s' i t1) noFill_list_mul PySem.F.fills_int_mul PySem.F.slot_int_rmul repeat_list PySem.F.slot_int_index.lookup (bP PySem.F.slot_int_rmul (bj s i t1) PySem.F.entry_int_rmul (PySem.F.args_int_rmul_2 _ _) (lm_int_rmul_list_any i t1 b its.toArray n dd sl) #[ho,rfl,#[_,ho,rfl],bP PySem.F.slot_list_mul #[_,ho,rfl] PySem.F.entry_list_mul (PySem.F.args_list_mul_2 _ _) (lm_list_mul_any b its.toArray n dd sl i t1 (by simp[Builtin.List.listFitsIndex];lia) (by rw[B];lia) (by simp[Builtin.List.listTooLong,sizeLine];simpa using z)) #[ho,?_]])
  rw[listMul_foldl_if];have hp:H s[0]=none:=I.hok.fresh (gy _);refine#[.ref s[0],upd H s[0] (.lst (zM i.toNat us)),I.laid (t':=s.toks) (λb o q=>gq _ q) (gy _) #[?_,zM i.toNat its,0,Vals.rep rv _,gM _ rfl],rfl,?_]
  .rw[ZP,rv[1]];simpa using hl
  exact w _ _ _ (Gr.new l hp) #[_,_,rfl,hp,Le.none l hp,qH,Reps.rep rs _]
 exact w.elim
end
def wZ:List Int->List (List Int)->List Int
 | m,[]=>m
 | m,q::r=>wZ (if HT.lexLt q m=true then q else m) r
section
variable{prog:af}{w:World}{A:ag}{R:Result->ab->Prop}{I l S:Addr}{us:List aa}{rk:aa->List Int}{h0:Heap}{M:List Int}
def y3(h0 h:Heap):Prop:=∀ b o,h0.get? b=!o->h.get? b=!o
def qbW{s0:ab}(hh:A.handled=none)(ne:l≠I)(nS:S≠I)(nl:S≠l)(hI:h0.get? I=none)(hS0:h0.get? S=none)
  (cmp:∀ u∈us,∀ v∈us,∀ s Q E,y3 h0 s.heap->Q (.bool (HT.lexLt (rk u) (rk v))) s->wpAny (model prog w) A.in1 (richCompare .Lt u v) Q E s)
  (fin:∀ v h' tk,v∈us->rk v=M->y3 h0 h'->R (.ok (.ret v)) {s0 with heap:=h',toks:=tk}) :
  ∀ k j h t vb c,us[1]-(j+1)=k->j+1<=us[1]->h.IsListIter I l (j+1)->h.IsList l us.toArray->vb∈us->wZ (rk vb) ((us.drop (j+1)).map rk)=M ->
   h.get? S=↑#[.type "list",none,.seq (List.toArray [vb,vb]) c,#[]]->y3 h0 h ->
   codeAny (model prog w) A (.builtin "min.loop" #[[.ref I,.none,.ref S],[]]) R {s0 with heap:=h,toks:=t}:=by
 have W:=Walks.list (prog:=prog) (w:=w) (A:=A.in1) hh I l ne us.toArray;have U:(toString "min"++toString ".loop")="min.loop":=by decide
 have zl:us.toArray.size=us[1]:=gU ..;have nSw:S∉[I]:=by simp[nS]
 have no:∀{b} {o},h0.get? b=!o->b≠I/\b≠S:=by
  lia
 intro k
 induction k with
 | zero =>
  intro j h t vb c hk hj it il hb hm hS kp;have hin:j+1=us[1]:=""
  refine dC dJ ?_;rw[b8 fY _];refine(show wpAny _ A.in1 (seqItems? (.ref S) >>= _) _ _ _ from g6 (fA (s:={s0 with heap:=h,toks:=t}) hS rfl ?_))
  refine(show wpAny _ A.in1 (tryCatch (pyNext (.ref I)) _ >>= _) _ _ _ from g6 (cH (W.done {s0 with heap:=h,toks:=t} _ _ #[by rw[zl,<- hin];exact it,il] λh1 t1 k1=>?_)))
  have z:=k1 S _ nSw hS;refine(show wpAny _ A.in1 (updateSeq S (λ_=>#[]) >>= _) _ _ _ from g6 (cu z rfl (g6 (pJ (gu ?_)))))
  refine fin vb _ t1 hb ?_ λb o e=>?_
  .rw[hin,cZ]at hm;exact hm
  exact(tJ _ _ (t9 (no e).2)).trans (k1 b o (by simp[(no e).1]) (kp b o e))
 | succ k ih =>
  intro j h t vb c hk hj it il hb hm hS kp;have B:j+1<us[1]:=""
  refine dC dJ ?_;rw[b8 fY _];refine(show wpAny _ A.in1 (seqItems? (.ref S) >>= _) _ _ _ from g6 (fA (s:={s0 with heap:=h,toks:=t}) hS rfl ?_))
  refine(show wpAny _ A.in1 (tryCatch (pyNext (.ref I)) _ >>= _) _ _ _ from g6 (cH (W.item (j+1) {s0 with heap:=h,toks:=t} _ _ (by rw[zl];exact B) #[it,il] λv h1 t1 hP O k1=>?_)))
  have z:=k1 S _ nSw hS;have Y:us[j+1]?=!v:=by simpa using hP
  have hv:v∈us:=t8 Y;have dr:us.drop (j+1)=v::us.drop (j+1+1):=by
   rw[fJ B];congr 1;rw[gw B]at Y;exact tG Y
  have Z:y3 h0 h1:=λb o e=>k1 b o (by simp[(no e).1]) (kp b o e)
  rw[dr,gN]at hm;refine(show wpAny _ A.in1 (tryCatch (holding [v,v] (richCompare .Lt v vb >>= _)) _ >>= _) _ _ _ from g6 (cH (fB (g6 (cmp v hv vb hb _ _ _ Z ?_)))))
  refine g6 (fB (pF (g6 (pJ (gu ?_)))));unfold wZ at hm;cases hl:HT.lexLt (rk v) (rk vb)with
  | true =>
   rw[hl]at hm;simp only[d8]at hm ⊢;refine g6 (cu z rfl (g6 (pJ ?_)));rw[U];have oth:∀ b,b≠S->∀ o,h1.get? b=!o->(h1.update S (Obj.mapSeq λ_=>(List.toArray [v,v]))).get? b=!o:=λb nb o e=>(tJ _ _ (t9 nb)).trans e
   exact gu #[pU fY _,ih (j+1) _ _ v _ "" B (O.1.at λo e=>oth I (t9 nS) o e) (O.2.at λo e=>oth l (t9 nl) o e) hv hm (tZ _ z rfl) λb o e=>oth b (no e).2 o (Z b o e)]
  | false =>
   rw[hl]at hm;simp only[tS,pZ]at hm ⊢;refine g6 (pJ ?_);rw[U];exact gu #[pU fY _,ih (j+1) _ _ vb c "" B O.1 O.2 hb hm z Z]
def qbX{Q:aa->ab->Prop}{E:aa->ab->Prop}(hh:A.handled=none)(hl:s.heap.IsList l us.toArray){u0:aa}{ur:List aa}(U:us=u0::ur)(hM:wZ (rk u0) (ur.map rk)=M)
  (cmp:∀ u∈us,∀ v∈us,∀ s' Q E,y3 s.heap s'.heap->Q (.bool (HT.lexLt (rk u) (rk v))) s'->wpAny (model prog w) A.in1 (richCompare .Lt u v) Q E s')
  (fin:∀ v h' tk,v∈us->rk v=M->y3 s.heap h'->Q v {s with heap:=h',toks:=tk}) :
  wpAny (model prog w) A (call (.builtin "min") [.ref l]) Q E s:=by
 have Z:(toString "min"++toString ".loop")="min.loop":=by decide
 have hlt:l<s[0]:=by
  obtain⟨oo,eo,_⟩:=id hl;exact gP eo
 refine call_function_tree PySem.F.kind_min PySem.F.plain_min PySem.F.entry_min (PySem.F.args_min1 _) ?_;refine(show wpAny _ A.in1 (Builtin.Builtins.bindParams "min" ["key","default"] 0 #[[],[]] >>= _) _ _ s from g6 (wpAny_of_eq (show Builtin.Builtins.bindParams "min" ["key","default"] 0 #[[],[]]=pure [none,none]from rfl) (g6 (gu ?_))))
 refine g6 (wpAny_pyIter_list hl (g6 (tX ?_)));refine gu #[pU fY _,dC dJ ?_];generalize eh:(s.heap.push {cls:=.type "list_iterator",data:=.fields (List.toArray [.ref l,.int 0 0])})=hA;have zA:hA.objs.size=s[0]+1:=by rw[<- eh];exact cG ..
 have kA:y3 s.heap hA:=λb o e=>by rw[<- eh];exact gq _ e
 have itA:hA.IsListIter s[0] l 0:=by rw[<- eh];exact#[_,gM _ rfl,rfl,rfl]
 have B:hA.objs.size≠s[0]:=""
 have lB:hA.IsList l us.toArray:=hl.at λo e=>kA _ _ e
 have far:∀ b,s[0]<=b->s.heap.get? b=none:=λb hb=>by
  cases e:s.heap.get? b with
  | none=>rfl
  | some o=>exact absurd (gP e) (Nat.not_lt.mpr hb)
 have nI:s.heap.get? s[0]=none:=far _ (gy _);have nS:s.heap.get? hA.objs.size=none:=far _ (by rw[zA];exact bw _)
 generalize eB:(hA.push {cls:=.type "list",data:=.seq #[]})=hB;have kB:y3 hA hB:=λb o e=>by rw[<- eB];exact gq _ e
 have hS:hB.get? hA.objs.size=↑#[.type "list",none,.seq #[] 0,#[]]:=by rw[<- eB];exact gM _ rfl
 have ne:l≠s[0]:=t3 hlt;have nl:hA.objs.size≠l:=λz=>by rw[zA]at z;exact absurd hlt (by rw[<- z];exact Nat.not_lt.mpr (bw _))
 have W:=Walks.list (prog:=prog) (w:=w) (A:=A.in1) hh s[0] l ne us.toArray;have e0:us[0]?=!u0:=by rw[U];rfl
 refine(show wpAny _ A.in1 (seqItems? (.ref hA.objs.size) >>= _) _ _ _ from g6 (fA (s:={s with heap:=hB}) hS rfl ?_))
 refine(show wpAny _ A.in1 (tryCatch (pyNext (.ref s[0])) _ >>= _) _ _ _ from g6 (cH (W.item 0 {s with heap:=hB} _ _ (by rw[U];simp) #[itA.at λo e=>kB _ _ e,lB.at λo e=>kB _ _ e] λv h1 t1 hP Y k1=>?_)))
 have hv:v=u0:=by
  have:us[0]?=!v:=by simpa using hP
  rw[e0]at this;exact(tG this).symm
 subst hv;have hS1:=k1 hA.objs.size _ (by simp[B]) hS
 refine(show wpAny _ A.in1 (updateSeq hA.objs.size (λ_=>(List.toArray [v,v])) >>= _) _ _ _ from g6 (cu hS1 rfl ?_))
 rw[Z];have O:∀ b,b≠hA.objs.size->∀ o,h1.get? b=!o->(h1.update hA.objs.size (Obj.mapSeq λ_=>(List.toArray [v,v]))).get? b=!o:=λb nb o e=>(tJ _ _ (t9 nb)).trans e
 refine gu #[pU fY _,qbW (s0:=s) (h0:=s.heap) (M:=M) (rk:=rk) hh ne B nl nI nS cmp (λv h' tk hv he kp=>fin v h' tk hv he kp) _ 0 _ _ v _ rfl (by rw[U];simp) (Y.1.at λo e=>O _ (t9 B) o e) (Y.2.at λo e=>O l (t9 nl) o e) (by rw[U];exact tj) (by rw[U];exact hM) (tZ _ hS1 rfl) λb o e=>?_]
 have n1:b≠s[0]:=λz=>by rw[z,nI]at e;cases e
 have n2:b≠hA.objs.size:=λz=>by rw[z,nS]at e;cases e
 exact O b n2 o (k1 b o (by simp[n1]) (kB _ _ (kA _ _ e)))
end
def kZ:List D->R En
 | [.lst ds]=>(match vE ds with|some (a::r)=>.ok (qM (wZ a r))[8]|_=>.stuck)
 | _=>.stuck
def qbY(Y:X.A.units+10<cLine)(U:(X.calm=true)["r"]):zF X (.builtin "min") kZ:=by
 intro pins s σ F H xs us ds Q I l rx qx w;cases qx with
 | nil=>cases w
 | cons q1 q2 =>
  rename_i d _ _;cases q2 with
  | cons _ _=>cases d<;>exact w.elim
  | nil =>
   cases d<;>first|exact w.elim|skip
   rename_i ds;unfold kZ at w;dsimp only at w;cases e:vE ds with
   | none=>rw[e]at w;cases w
   | some rs =>
    rw[e]at w;cases rs with
    | nil=>cases w
    | cons a r =>
     obtain⟨p,vs,rfl,hq,O⟩:=RdV.lst l q1;cases rx with
     | cons r1 r2 =>
      cases r2;cases r1;obtain⟨its,rv,pl,hz⟩:=I.list hq;obtain⟨m,k⟩:=ZD I l e O rv;cases its with
      | nil=>cases m
      | cons u0 ur =>
       injection m with m1 m2;refine qbX (rk:=qQ s.heap) (I.ok.hd U) pl.isList rfl (by rw[m1,m2]) (λu B v z s' Q' E' kp q=>?_) λv h' tk z hm kp=>?_
       .obtain⟨b1,i1,n1,rfl,t1,j1,_,_⟩:=k u B;obtain⟨b2,i2,n2,rfl,t2,j2,_,_⟩:=k v z;rw[wH t1 j1,wH t2 j2]at q;have up:∀{b} {i:List aa},PyProof.Rows.IsTup s.heap b i.toArray->PyProof.Rows.IsTup s'.heap b i.toArray:=by
         intro b i t;obtain⟨o,eo,rest⟩:=t;exact#[o,kp b o eo,rest]
        exact HT.lt_tupInts (up t1) (up t2) j1 j2 (by show X.A.units+1<cLine;lia) q
       obtain⟨b1,i1,n1,rfl,t1,j1,rp,_⟩:=k v z;rw[wH t1 j1]at hm;subst hm;exact#[.ref b1,H,I.kept kp,rfl,jj l w rp]
def zU(a b c:Int):Int:=if a>b then a-b else 0
def ZQ:D->D->D->R (List D)
 | .int a,.int b,.int c=>if -1000000<=a/\a<=1000000/\-1000000<=b/\b<=1000000/\c=-1 then .ok (kX a c (zU a b c).toNat)else .stuck
 | _,_,_=>.stuck
def iR3d(a b c:EF):IF:=λρ=>(a ρ).bind λx=>(b ρ).bind λy=>(c ρ).bind λz=>ZQ x.d y.d z.d
def Ke{a b c:Int}(h:c=-1):Builtin.Range.rangeSize a b c=zU a b c:=by
 subst h;unfold Builtin.Range.rangeSize zU;simp
def qbZ(h1:-1000000<=a)(h2:a<=1000000)(z:-1000000<=b)(B:b<=1000000)(h:c=-1):Builtin.Range.small a b c=true:=by
 unfold Builtin.Range.small;rw[Ke h];unfold zU;simp only[Builtin.Range.rangeFitsLong,hE,decide_eq_true_eq];subst h
 grind
def qc0{X:Cx}(ha:"S" a fa)(B:"S" b fb)(hc:"S" c fc)(z:X.mg "range"=none)(hg:(Gl X "range")["r"])
  (hs:(starEach [a,b,c] X.env=(false,eval a X.env)::starEach [b,c] X.env)["r"])(O:(starEach [b,c] X.env=(false,eval b X.env)::starEach [c] X.env)["r"])(U:(starEach [c] X.env=[(false,eval c X.env)])["r"])(Y:((backTo cp (starEach [b,c] X.env)).any (·.1)=false)["r"]) :
  SI X F0 H0 tg (.Call (.Name "range" np) [a,b,c] [] cp) (iR3d fa fb fc):=by
 refine#[λσ H R=>(Q7 (kj X a) (Q7 (kj X b) (Q7 (kj X c) WC))) σ H λvs H1=>∃ i j k,vs=[.int i,.int j,.int k]/\(-1000000<=i/\i<=1000000/\-1000000<=j/\j<=1000000/\k=-1)/\R (Itr3 i k (zU i j k).toNat) H1,λpins s σ H R I h=>?_,λσ F H ρ R S h=>?_]
 .refine Call_ (zD I hg z boot_range (tu (thn ((zE (je (e:=a)) (zE (je (e:=b)) (zE (je (e:=c)) vJ U) O) hs) cp pins s σ H _ I h) λus s1 #[vs,H1,I1,r1,q1]=>?_) hs Y))
  obtain⟨i,j,k,rfl,⟨b1,b2,b3,b4,b5⟩,hR⟩:=q1;cases r1 with
  | cons r r1 =>
   cases r1 with
   | cons r' r1 =>
    cases r1 with
    | cons r'' r1 =>
     cases r1;obtain⟨t,rfl⟩:=r;obtain⟨t',rfl⟩:=r';obtain⟨Z,rfl⟩:=r'';refine call_range_3 "" ?_ (.inl (PyProof.noPylong_small ""))
     refine wpAny_pyIter_range (IsRange.new ..) (qbZ b1 b2 b3 b4 b5) ?_;have I2:"I" H1 {s1 with heap:=s1.heap.push {cls:=.type "range",data:=.fields (List.toArray [.int i t,.int j t',.int k Z])}}:=I1.kept (t':=s1.toks) λb o e=>gq _ e
     have n0:0<=zU i j k:=by unfold zU;split<;>lia
     refine#[_,[_],_,_,H1,rfl,I2.kept (t':=s1.toks) λb o e=>gq _ e,qbI _ i k (zU i j k).toNat,?_,λb B=>?_,hR]
     .have e1:i+(0:Nat)*k=i:=by simp
      have e2:((zU i j k).toNat)-(0:Nat)=Builtin.Range.rangeSize i j k:=by rw[Ke b5];lia
      rw[e1,e2];exact gM _ rfl
     rw[tT]at B;subst B;exact I2.fpOk (gy _) (I2.hok.fresh (gy _))
 refine ha.sem S ((KE.bind h).imp λw1 k1 v1 F1 H1 g1 q1=>B.sem (S.grow g1) ((KE.bind k1).imp λw2 k2 v2 F2 H2 g2 q2=>hc.sem ((S.grow g1).grow g2) ((KE.bind k2).imp λw3 k3 v3 F3 H3 g3 q3=>?_)))
 have r1:=RdV.gr g3 (RdV.gr g2 (Vok.rd q1));have r2:=RdV.gr g3 (Vok.rd q2);have r3:=Vok.rd q3
 revert k3
 generalize w1.d=d1 at r1;generalize w2.d=d2 at r2;generalize w3.d=d3 at r3;intro k3;cases d1<;>first|exact k3.elim|skip
 cases d2<;>first|exact k3.elim|skip
 cases d3<;>first|exact k3.elim|skip
 rename_i i j k;unfold ZQ at k3;dsimp only at k3;by_cases cc:-1000000<=i/\i<=1000000/\-1000000<=j/\j<=1000000/\k=-1
 .rw[if_pos cc]at k3;cases RdV.int r1;cases RdV.int r2;cases RdV.int r3;have k3:∀ F' H' J,Gr F H F' H'->Walk (kx X) J F' H0 (kX i k (zU i j k).toNat)->R J H':=k3;refine#[i,j,k,rfl,cc,k3 F3 H3 _ ((g1.trans g2).trans g3) #[λm d F' H' ed l1 l2 _=>?_,λm F' H' z l1 l2 _=>?_]]
  .unfold kX at ed;rw[gC]at ed;obtain⟨q,eq,rfl⟩:=cK.mp ed;have hq:=gp.mp eq;have z:m<(zU i j k).toNat:=by simpa using hq.1
   have em:q=m:=by
    rw[de z]at eq;exact(tG eq).symm
   subst em;refine#[z,λy H2' hy=>?_]
   obtain⟨rfl,rfl⟩:=hy;exact#[F',Gr.refl l2,rfl]
  show(zU i j k).toNat<=m;simpa[kX]using z
 rw[if_neg cc]at k3;exact k3.elim
section
variable{prog:af}{w:World}{A:ag}{E:aa->ab->Prop}{s:ab}
variable{X:Cx}{F0 H0:Hp}{pos p pos2:Pos}{e:Expr}{es:List Expr}{fa:List EF}{x:Str}{k n:Nat}{f:Addr}{fd:FuncData}{ps:List Str}{dn:Den}{st:SF}
end
def qc1:Bool->aj->Array aj->Nat->Nat->Nat->StateT am Sem (Option Nat):=sortPriv% PySem.Builtin.gallop
def qc2:Nat->StateT am Sem Unit:=sortPriv% PySem.Builtin.setMinGallop
def qc3:Array aj->Array aj->StateT am Sem (Array aj):=sortPriv% PySem.Builtin.mergeLo
def qc4:Array aj->Array aj->StateT am Sem (Array aj):=sortPriv% PySem.Builtin.mergeHi
section
variable{prog:af}{w:World}{A:ag}{E:aa->ab->Prop}{s:ab}{kd:SortKind}{rk:aa->Int}{ini:Array aj}
def ask2{st:am}{p q:aj}{Q:Option Bool->am->Prop}(T:Tells prog w A s kd rk ini)(z:kindOf st=kd)(hp:p∈ini[2])(B:q∈ini[2])(h:Q (!(decide (rk p.1<rk q.1))) st):wpS (model prog w) A E s (lt' p q) Q st:=by
 rw[lt'_eq];refine wpS_bind (bK ?_);rw[z];exact wpS_bind (bY (bV (T.lt p hp q B _ _ #[rfl,wpS_pure h])))
def jO{st:am}{i:Nat}{Q:aj->am->Prop}(h:xs[i]?=!p)(q:Q p st):wpS (model prog w) A E s (elem' xs i) Q st:=by
 rw[elem'_eq,h];exact wpS_pure q
abbrev bey(z:Bool)(key:aj)(B:Array aj)(base i:Nat):StateT am Sem (Option Bool):=elem' B (base+i) >>= λx=>if z=true then lt' x key else lt' key x >>= λo=>pure (o.map not)
def qc5{st:am}{z:Bool}{key p:aj}{base i:Nat}{Q:Option Bool->am->Prop}(T:Tells prog w A s kd rk ini)(O:kindOf st=kd)(hkey:key∈ini[2])(hp:arr[base+i]?=!p)(B:p∈ini[2])(ne:rk p.1≠rk key.1)
  (h:Q (!(decide (rk p.1<rk key.1))) st):wpS (model prog w) A E s (bey z key arr base i) Q st:=by
 refine wpS_bind (jO hp ?_);cases z
 .rw[if_neg "d"]
  refine wpS_bind (ask2 T O hkey B ?_);refine wpS_pure ?_;have e:(not (decide (rk key.1<rk p.1)))=decide (rk p.1<rk key.1):=by
   lia
  simpa[e]using h
 rw[if_pos rfl];exact ask2 T O B hkey h
structure Seg(rk:Value->Int)(ini arr:Array Keyed)(key:Keyed)(base n:Nat):Prop where
 sz:base+n<=arr.size
 mem:∀ p∈arr[2],p∈ini[2]
 hkey:key∈ini[2]
 up:∀ i j,i<j->j<n->av rk arr (base+i)<av rk arr (base+j)
 ne:∀ i,i<n->av rk arr (base+i)≠rk key.1
def Seg.get(S:Seg rk ini arr key base n){i:Nat}(h:i<n):∃ p,arr[base+i]?=!p/\p∈ini[2]/\av rk arr (base+i)=rk p.1:=by
 have hi:base+i<arr.size:=by have:=S.sz;lia
 refine#[arr[base+i],pi arr (base+i) hi,S.mem _ "s",?_]
 unfold av
 simp_all
def Seg.ask{st:am}{z:Bool}{key:aj}{base n i:Nat}{Q:Option Bool->am->Prop}(T:Tells prog w A s kd rk ini)(B:kindOf st=kd)(S:Seg rk ini arr key base n)(h:i<n)
  (q:Q (!(decide (av rk arr (base+i)<rk key.1))) st):wpS (model prog w) A E s (bey z key arr base i) Q st:=by
 obtain⟨p,h1,h2,h3⟩:=S.get h;have ne:=S.ne i h;rw[h3]at ne q;exact qc5 T B S.hkey h1 h2 ne q
def Seg.le(S:Seg rk ini arr key base n){i j:Nat}(h:i<=j)(z:j<n):av rk arr (base+i)<=av rk arr (base+j):=by
 rcases bF i j with c|c
 .exact cR (S.up i j c z)
 rw[show i=j by lia];exact pt _
def QP(rk:aa->Int)(z:Array aj)(key:aj)(base n k:Nat):Prop:=k<=n/\(∀ i,i<k->av rk z (base+i)<rk key.1)/\∀ i,k<=i->i<n->rk key.1<av rk z (base+i)
def x4{st:am}{O:Bool}{base n B:Nat}{Q:Option Nat->am->Prop}(T:Tells prog w A s kd rk ini)(U:kindOf st=kd)(S:Seg rk ini arr key base n)(Y:B<n)
  (h:∀ k,QP rk arr key base n k->Q ↑k st):wpS (model prog w) A E s (qc1 O key arr base n B) Q st:=by
 have fin:∀ f lo hi,
   (∀ x l r R,r<=n->(r<=l->R (.done (none,l,r)) st)->(l<r->R (if av rk arr (base+(l+(r-l)/2))<rk key.1 then .yield (none,l+(r-l)/2+1,r)else .yield (none,l,l+(r-l)/2)) st)->wpS (model prog w) A E s (f x (none,l,r)) R st) ->
   lo<=hi->hi<=n->(∀ i,i<lo->av rk arr (base+i)<rk key.1)->(∀ i,hi<=i->i<n->rk key.1<av rk arr (base+i)) ->
   wpS (model prog w) A E s (forIn [:n] ((none,lo,hi):Option (Option Nat)×Nat×Nat) f) (λc z=>c.1=none/\z=st/\QP rk arr key base n c.2.2) st:=by
  refine λf lo hi hf l1 l2 l3 l4=>wpS_forRange (λx c z=>z=st/\∃ lo hi,c=(none,lo,hi)/\lo<=hi/\hi<=n/\hi-lo<=n-x/\(∀ i,i<lo->av rk arr (base+i)<rk key.1)/\(∀ i,hi<=i->i<n->rk key.1<av rk arr (base+i))) (λx c z _ lx hI=>?_) (λc z hI=>?_) #[rfl,lo,hi,rfl,l1,l2,"",l3,l4]
  .obtain⟨rfl,lo,hi,rfl,a1,a2,a3,a4,a5⟩:=hI;refine hf x lo hi _ a2 (λc=>?_) λc=>?_
   .have e:lo=hi:=""
    subst e;exact#[rfl,rfl,a2,a4,a5]
   by_cases d:av rk arr (base+(lo+(hi-lo)/2))<rk key.1
   .rw[if_pos d];refine#[rfl,_,_,rfl,"",a2,by omega,λi Z=>?_,a5]
    have:=S.le (i:=i) (j:=lo+(hi-lo)/2) "" ""
    lia
   rw[if_neg d];refine#[rfl,_,_,rfl,"","","",a4,λi g1 g2=>?_]
   have:=S.le (i:=lo+(hi-lo)/2) (j:=i) g1 g2;have:=S.ne (lo+(hi-lo)/2) ""
   lia
  obtain⟨rfl,lo,hi,rfl,a1,a2,a3,a4,a5⟩:=hI;have e:lo=hi:=""
  subst e;exact#[rfl,rfl,a2,a4,a5]
 refine wpS_bind (m:=bey O key arr base B) (S.ask T U Y ?_);dsimp only;by_cases c:av rk arr (base+B)<rk key.1
 .rw[tF c,if_pos rfl];refine wpS_bind (wpS_mono (wpS_forRange (λx c z=>z=st/\∃ lf of,c=(none,lf,of)/\lf<of/\lf<n-B/\x+1<=of/\av rk arr (base+(B+lf))<rk key.1)
   (Q:=λc z=>z=st/\∃ lf of,c=(none,lf,of)/\lf<of/\lf<n-B/\av rk arr (base+(B+lf))<rk key.1/\(n-B<=of\/rk key.1<av rk arr (base+(B+of)))) (λx c z _ lx hI=>?_) (λc z hI=>?_) #[rfl,0,1,rfl,"","","",by simpa using c]) λc z hc=>?_)
  .obtain⟨rfl,lf,of,rfl,a1,a2,a3,a4⟩:=hI;dsimp only;by_cases d:of≥n-B
   .rw[if_pos d];exact wpS_pure #[rfl,lf,of,rfl,a1,a2,a4,.inl d]
   rw[if_neg d];refine wpS_bind (m:=bey O key arr base (B+of)) (S.ask T U "" ?_)
   by_cases e:av rk arr (base+(B+of))<rk key.1
   .rw[tF e];exact wpS_pure #[rfl,of,2*of+1,rfl,"","","",e]
   rw[t6 e];have:=S.ne (B+of) ""
   exact wpS_pure #[rfl,lf,of,rfl,a1,a2,a4,.inr ""]
  .obtain⟨rfl,lf,of,rfl,a1,a2,a3,a4⟩:=hI;exact#[rfl,lf,of,rfl,a1,a2,a4,.inl ""]
  obtain⟨rfl,lf,of,rfl,a1,a2,a4,a5⟩:=hc;dsimp only;refine wpS_bind (wpS_mono (fin _ (B+lf+1) (B+min of (n-B)) (λx l r R hr g1 g2=>by
   dsimp only;by_cases d:l≥r
   .rw[if_pos d];exact wpS_pure (g1 d)
   rw[if_neg d];have g2:=g2 ""
   refine wpS_bind (m:=bey O key arr base (l+(r-l)/2)) (S.ask T U "" ?_)
   by_cases e:av rk arr (base+(l+(r-l)/2))<rk key.1
   .rw[if_pos e]at g2;rw[tF e];exact wpS_pure g2
   rw[if_neg e]at g2;rw[t6 e];exact wpS_pure g2) "" "" (λi hi=>?_) λi g1 g2=>?_) λc z hc=>?_)
  .have:=S.le (i:=i) (j:=B+lf) "" ""
   lia
  .rcases a5 with a5|a5
   .lia
   have:=S.le (i:=B+of) (j:=i) "" g2
   lia
  obtain⟨c1,rfl,pl⟩:=hc;rw[c1];exact wpS_pure (h _ pl)
 rw[t6 c,if_neg "d"]
 have ne0:=S.ne B Y;refine wpS_bind (wpS_mono (wpS_forRange (λx c z=>z=st/\∃ lf of,c=(none,lf,of)/\lf<of/\lf<=B/\x+1<=of/\rk key.1<av rk arr (base+(B-lf)))
  (Q:=λc z=>z=st/\∃ lf of,c=(none,lf,of)/\lf<of/\lf<=B/\rk key.1<av rk arr (base+(B-lf))/\(B+1<=of\/(of<=B/\av rk arr (base+(B-of))<rk key.1))) (λx c z _ lx hI=>?_) (λc z hI=>?_) #[rfl,0,1,rfl,"","","",by simp;lia]) λc z hc=>?_)
 .obtain⟨rfl,lf,of,rfl,a1,a2,a3,a4⟩:=hI;dsimp only;by_cases d:of≥B+1
  .rw[if_pos d];exact wpS_pure #[rfl,lf,of,rfl,a1,a2,a4,.inl d]
  rw[if_neg d];refine wpS_bind (m:=bey O key arr base (B-of)) (S.ask T U "" ?_)
  by_cases e:av rk arr (base+(B-of))<rk key.1
  .rw[tF e];exact wpS_pure #[rfl,lf,of,rfl,a1,a2,a4,.inr #["",e]]
  rw[t6 e];have:=S.ne (B-of) ""
  exact wpS_pure #[rfl,of,2*of+1,rfl,"","","",""]
 .obtain⟨rfl,lf,of,rfl,a1,a2,a3,a4⟩:=hI;exact#[rfl,lf,of,rfl,a1,a2,a4,.inl ""]
 obtain⟨rfl,lf,of,rfl,a1,a2,a4,a5⟩:=hc;dsimp only;refine wpS_bind (wpS_mono (fin _ (B+1-min of (B+1)) (B-lf) (λx l r R hr g1 g2=>by
  dsimp only;by_cases d:l≥r
  .rw[if_pos d];exact wpS_pure (g1 d)
  rw[if_neg d];have g2:=g2 ""
  refine wpS_bind (m:=bey O key arr base (l+(r-l)/2)) (S.ask T U "" ?_)
  by_cases e:av rk arr (base+(l+(r-l)/2))<rk key.1
  .rw[if_pos e]at g2;rw[tF e];exact wpS_pure g2
  rw[if_neg e]at g2;rw[t6 e];exact wpS_pure g2) (by omega) "" (λi hi=>?_) λi g1 g2=>?_) λc z hc=>?_)
 .rcases a5 with a5|⟨a5,a6⟩
  .omega
  have:=S.le (i:=i) (j:=B-of) (by omega) ""
  lia
 .have:=S.le (i:=B-lf) (j:=i) g1 g2;lia
 obtain⟨c1,rfl,pl⟩:=hc;rw[c1];exact wpS_pure (h _ pl)
abbrev Ris(rk:aa->Int)(l:List aj):Prop:=l.Pairwise λp q=>rk p.1<rk q.1
abbrev Blw(rk:aa->Int)(l m:List aj):Prop:=∀ p∈l,∀ q∈m,rk p.1<rk q.1
structure JL(rk:Value->Int)(a b:List Keyed)(o:List Keyed)(ia ib:Nat):Prop where
 la:ia<=a[1]
 lb:ib<=b[1]
 pm:o.Perm (a.take ia++b.take ib)
 up:Ris rk o
 ba:Blw rk o (a.drop ia)
 bb:Blw rk o (b.drop ib)
def Kf(h:Ris rk l):Blw rk ((l.drop i).take k) (l.drop (i+k))/\Ris rk ((l.drop i).take k):=by
 have h1:Ris rk (l.drop i):=h.drop;have e:l.drop i=(l.drop i).take k++l.drop (i+k):=by rw[<- List.drop_drop,tL]
 rw[e]at h1;obtain⟨x,_,z⟩:=gW.mp h1;exact#[λp hp q hq=>z p hp q hq,x]
def JL.chunkA(J:JL rk a b o ia ib)(O:Ris rk a){k:Nat}(U:ia+k<=a[1])(h:Blw rk ((a.drop ia).take k) (b.drop ib)):JL rk a b (o++(a.drop ia).take k) (ia+k) ib:=by
 obtain⟨c1,c2⟩:=Kf O;have B:∀ p∈(a.drop ia).take k,p∈a.drop ia:=λp hp=>fm hp
 have z:∀ p∈a.drop (ia+k),p∈a.drop ia:=λp hp=>by rw[<- List.drop_drop]at hp;exact fq hp
 refine#[U,J.lb,?_,gW.mpr #[J.up,c2,λp hp q hq=>J.ba p hp q (B q hq)],λp hp q hq=>?_,λp hp q hq=>?_]
 .rw[List.take_add];refine(J.pm.append_right _).trans ?_;rw[t7,t7];exact pW _ List.perm_append_comm
 .rcases gD.mp hp with hp|hp
  .exact J.ba p hp q (z q hq)
  exact c1 p hp q hq
 rcases gD.mp hp with hp|hp
 .exact J.bb p hp q hq
 exact h p hp q hq
def JL.chunkB(J:JL rk a b o ia ib)(O:Ris rk b){k:Nat}(U:ib+k<=b[1])(h:Blw rk ((b.drop ib).take k) (a.drop ia)):JL rk a b (o++(b.drop ib).take k) ia (ib+k):=by
 obtain⟨c1,c2⟩:=Kf O;have B:∀ p∈(b.drop ib).take k,p∈b.drop ib:=λp hp=>fm hp
 have z:∀ p∈b.drop (ib+k),p∈b.drop ib:=λp hp=>by rw[<- List.drop_drop]at hp;exact fq hp
 refine#[J.la,U,?_,gW.mpr #[J.up,c2,λp hp q hq=>J.bb p hp q (B q hq)],λp hp q hq=>?_,λp hp q hq=>?_]
 .rw[List.take_add,<- t7];exact J.pm.append_right _
 .rcases gD.mp hp with hp|hp
  .exact J.ba p hp q hq
  exact h p hp q hq
 rcases gD.mp hp with hp|hp
 .exact J.bb p hp q (z q hq)
 exact c1 p hp q hq
def Fin2(rk:aa->Int)(a b o:List aj):Prop:=o.Perm (a++b)/\Ris rk o
def JL.endA(J:JL rk a b o ia ib)(z:Ris rk a)(h:ib=b[1]):Fin2 rk a b (o++a.drop ia):=by
 have:=J.chunkA z (k:=a[1]-ia) (by have:=J.la;lia) (by rw[h,cZ];exact λp _ q hq=>nomatch hq)
 rw[(tW (by rw[fW];exact gy _))]at this
 refine#[?_,this.up];have p:=this.pm;rw[h,d6,tW (by have:=J.la;lia)]at p
 exact p
def JL.endB(J:JL rk a b o ia ib)(z:Ris rk b)(h:ia=a[1]):Fin2 rk a b (o++b.drop ib):=by
 have:=J.chunkB z (k:=b[1]-ib) (by have:=J.lb;lia) (by rw[h,cZ];exact λp _ q hq=>nomatch hq)
 rw[(tW (by rw[fW];exact gy _))]at this
 refine#[?_,this.up];have p:=this.pm;rw[h,d6,tW (by have:=J.lb;lia)]at p
 exact p
def JL.endL(J:JL rk a b o ia ib)(z:Ris rk a)(B:Ris rk b)(h:Blw rk b (a.drop ia)):Fin2 rk a b (o++b.drop ib++a.drop ia):=by
 have e:(b.drop ib).take (b[1]-ib)=b.drop ib:=tW (by rw[fW];exact gy _)
 have j2:=J.chunkB B (k:=b[1]-ib) (by have:=J.lb;lia) (λp hp q hq=>h p (by rw[e]at hp;exact fq hp) q hq)
 rw[e]at j2;exact j2.endA z (by have:=J.lb;lia)
structure JH(rk:Value->Int)(a b:List Keyed)(o:List Keyed)(na nb:Nat):Prop where
 la:na<=a[1]
 lb:nb<=b[1]
 pm:o.Perm (a.drop na++b.drop nb)
 up:Ris rk o
 ba:Blw rk (a.take na) o
 bb:Blw rk (b.take nb) o
def Kg(h:Ris rk l)(hi:i<=n):Blw rk (l.take i) ((l.take n).drop i)/\Ris rk ((l.take n).drop i):=by
 have h1:Ris rk (l.take n):=h.take;have e:l.take n=l.take i++(l.take n).drop i:=by
  have:=tL i (l.take n);rw[dS,cw hi]at this;exact this.symm
 rw[e]at h1;obtain⟨_,y,z⟩:=gW.mp h1;exact#[λp hp q hq=>z p hp q hq,y]
def JH.chunkA(J:JH rk a b o na nb)(O:Ris rk a){i:Nat}(hi:i<=na)(h:Blw rk (b.take nb) ((a.take na).drop i)):JH rk a b ((a.take na).drop i++o) i nb:=by
 obtain⟨c1,c2⟩:=Kg O hi;have B:∀ p∈(a.take na).drop i,p∈a.take na:=λp hp=>fq hp
 have z:∀ p∈a.take i,p∈a.take na:=λp hp=>by
  have e:a.take i=(a.take na).take i:=by rw[dS,cw hi]
  rw[e]at hp;exact fm hp
 refine#[by have:=J.la;lia,J.lb,?_,gW.mpr #[c2,J.up,λp hp q hq=>J.ba p (B p hp) q hq],λp hp q hq=>?_,λp hp q hq=>?_]
 .have e:a.drop i=(a.take na).drop i++a.drop na:=by
   conv=>lhs;rw[<- tL na a]
   rw[cE (by rw[tB];have:=J.la;lia)]
  rw[e,t7];exact pW _ J.pm
 .rcases gD.mp hq with hq|hq
  .exact c1 p hp q hq
  exact J.ba p (z p hp) q hq
 rcases gD.mp hq with hq|hq
 .exact h p hp q hq
 exact J.bb p hp q hq
def JH.chunkB(J:JH rk a b o na nb)(O:Ris rk b){i:Nat}(hi:i<=nb)(h:Blw rk (a.take na) ((b.take nb).drop i)):JH rk a b ((b.take nb).drop i++o) na i:=by
 obtain⟨c1,c2⟩:=Kg O hi;have B:∀ p∈(b.take nb).drop i,p∈b.take nb:=λp hp=>fq hp
 have z:∀ p∈b.take i,p∈b.take nb:=λp hp=>by
  have e:b.take i=(b.take nb).take i:=by rw[dS,cw hi]
  rw[e]at hp;exact fm hp
 refine#[J.la,by have:=J.lb;lia,?_,gW.mpr #[c2,J.up,λp hp q hq=>J.bb p (B p hp) q hq],λp hp q hq=>?_,λp hp q hq=>?_]
 .have e:b.drop i=(b.take nb).drop i++b.drop nb:=by
   conv=>lhs;rw[<- tL nb b]
   rw[cE (by rw[tB];have:=J.lb;lia)]
  rw[e];refine(pW _ J.pm).trans ?_;rw[<- t7,<- t7];exact List.Perm.append_right _ List.perm_append_comm
 .rcases gD.mp hq with hq|hq
  .exact h p hp q hq
  exact J.ba p hp q hq
 rcases gD.mp hq with hq|hq
 .exact c1 p hp q hq
 exact J.bb p (z p hp) q hq
def JH.endA(J:JH rk a b o na nb)(z:Ris rk a)(h:nb=0):Fin2 rk a b (a.take na++o):=by
 have j:=J.chunkA z (tK _) (by rw[h,bL];exact λp hp=>nomatch hp)
 refine#[?_,j.up];have p:=j.pm
 simp_all
def JH.endB(J:JH rk a b o na nb)(z:Ris rk b)(h:na=0):Fin2 rk a b (b.take nb++o):=by
 have j:=J.chunkB z (tK _) (by rw[h,bL];exact λp hp=>nomatch hp)
 refine#[?_,j.up];have p:=j.pm
 simp_all
def JH.endF(J:JH rk a b o na nb)(z:Ris rk a)(B:Ris rk b)(h:Blw rk (b.take nb) a):Fin2 rk a b (b.take nb++(a.take na++o)):=by
 exact(J.chunkA z (tK _) λp hp q hq=>h p hp q (by rw[List.drop_zero]at hq;exact fm hq)).endB B rfl
structure Two(rk:Value->Int)(ini a b:Array Keyed):Prop where
 ra:Ris rk a[2]
 rb:Ris rk b[2]
 ma:∀ p∈a[2],p∈ini[2]
 mb:∀ p∈b[2],p∈ini[2]
 ne:∀ p∈a[2],∀ q∈b[2],rk p.1≠rk q.1
structure Same(st z:SortSt):Prop where
 kd:kindOf z=kindOf st
 ar:arrOf z=arrOf st
 pd:pendingOf z=pendingOf st
 fl:failedOf z=failedOf st
def Same.rfl'(st):Same st st:=#[rfl,rfl,rfl,rfl]
def Same.tr(h:Same x y)(k:Same y z):Same x z:=#[k.kd.trans h.kd,k.ar.trans h.ar,k.pd.trans h.pd,k.fl.trans h.fl]
def QQ{st:am}{g:Nat}{Q:Unit->am->Prop}(h:∀ z,Same st z->Q () z):wpS (model prog w) A E s (qc2 g) Q st:=by
 refine wpS_modify (h _ #[rfl,rfl,rfl,rfl])
def zu(h):av rk a i=rk a[i].1:=by unfold av;rw[pi a i h]
def ZR(B:Ris rk a[2]){i j:Nat}(h:i<j)(z:j<a.size):av rk a i<av rk a j:=by
 rw[zu "",zu z]
 have:=tU.mp B i j (by simp;lia) z[""] h
 simpa using this
theorem QR{a:Array aj}{key:aj}{base n:Nat}(z:Ris rk a[2])(B:∀ p∈a[2],p∈ini[2])(O:key∈ini[2])(ne:∀ p∈a[2],rk p.1≠rk key.1)(U:base+n<=a.size):Seg rk ini a key base n where
 sz:=U
 mem:=B
 hkey:=O
 up:=λi j h hj=>ZR z "" ""
 ne:=λi h=>by rw[zu ""];exact ne _ "s"
def qc6{a:Array aj}{i k:Nat}(h:p∈(a[2].drop i).take k):∃ j,j<k/\∃ hj,p=a[i+j]:=by
 obtain⟨j,hj,e⟩:=tw.mp h
 grind
def ZS{a:Array aj}{i:Nat}(h:p∈a[2].drop i):∃ j,i<=j/\∃ hj,p=a[j]:=by
 obtain⟨j,hj,e⟩:=tw.mp h;have hs:i+j<a.size:=by simp at hj;lia
 refine#[i+j,"",hs,?_]
 rw[<- e];simp
def Kh(P:QP rk a key base n k)(z:base+n=a.size):(∀ p∈(a[2].drop base).take k,rk p.1<rk key.1)/\∀ p∈a[2].drop (base+k),rk key.1<rk p.1:=by
 obtain⟨p1,p2,p3⟩:=P;constructor
 .intro p hp;obtain⟨j,hj,hs,rfl⟩:=qc6 hp;have:=p2 j hj
  rwa [zu hs]at this
 intro p hp;obtain⟨j,hj,hs,rfl⟩:=ZS hp;have:=p3 (j-base) "" ""
 rwa [show base+(j-base)=j by lia,zu hs]at this
def QS{a:Array aj}{i:Nat}(h):(a[2].drop i).take 1=[a[i]]:=by
 rw[fJ h[""]]
 simp
def QT{a:Array aj}(z:Ris rk a[2]){i:Nat}(h){p:aj}(hp:p∈a[2].drop i):rk a[i].1<=rk p.1:=by
 obtain⟨j,hj,hs,rfl⟩:=ZS hp;rcases bF i j with c|c
 .have:=ZR z c hs;rw[zu h,zu hs]at this;lia
 have:i=j:=""
 simp_all
def ZT(a:Array aj)(i k):(a.extract i (i+k)).toList=(a[2].drop i).take k:=by
 simp
def QU(a:Array aj)(i):(a.extract i).toList=a[2].drop i:=by
 rw[Array.toList_extract];exact tW "s"
def jS{σ α:Type}{c:Prop} [Decidable c]{x y:StateT σ Sem α}{Q:α->σ->Prop}{st:σ}(h1:c->wpS M A E s x Q st)(h2:¬c->wpS M A E s y Q st):wpS M A E s (if c then x else y) Q st:=by
 lia
def x8{σ:Type}{β U:Type}{a b:Nat}{f:Nat->β->StateT σ Sem (ForInStep β)}{g:β->StateT σ Sem U}(I:Nat->β->σ->Prop){Q:β->σ->Prop}{R:U->σ->Prop}
  (B:∀ F P,F=f->∀ i c st,a<=i->i<b->I i c st->(∀ c' z,Q c' z->P (.done c') z)->(∀ c' z,I (i+1) c' z->P (.yield c') z)->wpS M A E s (F i c) P st)
  (O:∀ c st,I (max a b) c st->Q c st){c:β}{st:σ}(h:I a c st)(post:∀ G,G=g->∀ c st,Q c st->wpS M A E s (G c) R st):wpS M A E s (forIn [a:b] c f >>= g) R st :=
 wpS_bind (wpS_mono (wpS_forRange I (λi c st h1 h2 h3=>B f _ rfl i c st h1 h2 h3 (λ_ _ h=>h) λ_ _ h=>h) O h) (post g rfl))
def Ki{c:Prop}{z:Decidable c}{M:Model}{f:Nat->StateT σ Sem α}{m n:Nat}{Q:α->σ->Prop}{st:σ}(h:∀ m,wpS M A E s (f m) Q st):wpS M A E s (if c then f m else f n) Q st:=jS (λ_=>h m) (λ_=>h n)
def Kj{f:Array aj->Nat->StateT σ Sem α}{P:Array aj->Nat->Prop}{x:StateT σ Sem α}{Q:α->σ->Prop}{st:σ}(h:∀ o i,P o i->wpS M A E s (f o i) Q st)(k:(∀ o i,P o i->wpS M A E s (f o i) Q st)->wpS M A E s x Q st):wpS M A E s x Q st:=k h
def Kk{f:Nat->Array aj->StateT σ Sem α}{P:Nat->Array aj->Prop}{x:StateT σ Sem α}{Q:α->σ->Prop}{st:σ}(h:∀ i o,P i o->wpS M A E s (f i o) Q st)(k:(∀ i o,P i o->wpS M A E s (f i o) Q st)->wpS M A E s x Q st):wpS M A E s x Q st:=k h
def qc7{st:am}{a b:Array aj}{Q:Array aj->am->Prop}(T:Tells prog w A s kd rk ini)(hk:kindOf st=kd)(W:Two rk ini a b)(ha:1<=a.size)(hb:1<=b.size)
  (h3:∀ p∈a[2],rk b[0+0].1<rk p.1)(h4:∀ q∈b[2],rk q.1<rk a[a.size-1].1)
  (h:∀ o z,Fin2 rk a[2] b[2] o[2]->Same st z->Q o z):wpS (model prog w) A E s (qc3 a b) Q st:=by
 have la:a[2].length=a.size:=by simp
 have lb:b[2].length=b.size:=by simp
 have lst:∀ ia,ia+1=a.size->Blw rk b[2] (a[2].drop ia):=λia e p hp q hq=>by
  obtain⟨j,hj,hs,rfl⟩:=ZS hq;have:=h4 p hp;have e2:a[j]=a[a.size-1]:=by congr 1;lia
  rw[e2];exact this
 have dn:∀ o ia ib z,JL rk a[2] b[2] o[2] ia ib->Same st z->(ia=a.size\/ib=b.size)->Q (o++a.extract ia++b.extract ib) z:=λo ia ib z J hz hc=>by
  refine h _ z ?_ hz;rw[tN,tN,QU,QU];rcases hc with hc|hc
  .rw[fZ (i:=ia) "",tM]
   exact J.endB W.rb (by omega)
  rw[fZ (i:=ib) (l:=b[2]) "",tM]
  exact J.endA W.ra ""
 have dl:∀ o ia ib z,JL rk a[2] b[2] o[2] ia ib->Same st z->ia+1=a.size->Q (o++b.extract ib++a.extract ia) z:=λo ia ib z J hz hc=>by
  refine h _ z ?_ hz;rw[tN,tN,QU,QU];exact J.endL W.ra W.rb (lst ia hc)
 have U:∀(o:Array aj) ia ib hi,JL rk a[2] b[2] o[2] ia ib->(∀ q∈a[2].drop ia,rk b[ib].1<rk q.1)->JL rk a[2] b[2] (o.push b[ib]).toList ia (ib+1):=λo ia ib hi J hq=>by
  have:=J.chunkB W.rb (k:=1) "" (by rw[QS hi];intro p hp q hq';rw[tT.mp hp];exact hq q hq')
  rw[QS hi]at this;rw[cT];exact this
 have Y:∀(o:Array aj) ia ib hi,JL rk a[2] b[2] o[2] ia ib->(∀ q∈b[2].drop ib,rk a[ia].1<rk q.1)->JL rk a[2] b[2] (o.push a[ia]).toList (ia+1) ib:=λo ia ib hi J hq=>by
  have:=J.chunkA W.ra (k:=1) "" (by rw[QS hi];intro p hp q hq';rw[tT.mp hp];exact hq q hq')
  rw[QS hi]at this;rw[cT];exact this
 have gA:∀{i} (hi:i<a.size),a[i]?=!a[i]:=λhi=>pi a _ hi
 have gB:∀{i} (hi:i<b.size),b[i]?=!b[i]:=λhi=>pi b _ hi
 refine wpS_bind (bY (pG #[rfl,?_]))
 try dsimp -zeta -zetaHave only
 refine wpS_bind (jO (gB (show 0<b.size by lia)) ?_)
 try dsimp -zeta -zetaHave only
 have J0:JL rk a[2] b[2] (#[]).toList 0 0:=#[tK _,tK _,by simp,by simp,λp hp=>by simp at hp,λp hp=>by simp at hp]
 have J1:JL rk a[2] b[2] ((List.toArray [b[0+0]])).toList 0 1:=U #[] 0 0 "" J0 (λq hq=>h3 q hq[""])
 by_cases c1:1=b.size
 .rw[if_pos c1[""]]
  exact wpS_pure (dn _ 0 1 st J1 (.rfl' st) (.inr c1))
 rw[if_neg c1[""]]
 by_cases c2:0+1=a.size
 .rw[if_pos c2[""]]
  exact wpS_pure (dl _ 0 1 st J1 (.rfl' st) c2)
 rw[if_neg c2[""]]
 refine wpS_bind (bK ?_);refine x8
  (λx c z=>Same st z/\∃ o ia ib mg,c=(none,o,ia,ib,mg)/\JL rk a[2] b[2] o[2] ia ib/\ia+1<a.size/\ib<b.size/\x+1<=ia+ib)
  (Q:=λc z=>∃ o,c.1=!o/\Q o z) (λF P hF x c z _ lx hI hD hY=>?_) (λc z hI=>?_) #[.rfl' st,_,_,_,_,rfl,J1,"","",""] λG hG c z hc=>?_
 .obtain⟨hz,o,ia,ib,mg,rfl,J,i1,i2,i3⟩:=hI;subst hF;dsimp -zeta -zetaHave only;refine x8
   (λx c y=>y=z/\∃ o B O ac bc,c=(none,o,B,O,ac,bc)/\JL rk a[2] b[2] o[2] B O/\B+1<a.size/\O<b.size/\ia+ib<=B+O)
   (Q:=λc y=>(∃ o,c.1=!o/\Q o y)\/(y=z/\∃ o B O ac bc,c=(none,o,B,O,ac,bc)/\JL rk a[2] b[2] o[2] B O/\B+1<a.size/\O<b.size/\ia+ib<=B+O)) (λF P hF x2 c y _ lx2 hK hD hY=>?_) (λc y hK=>.inr hK) #[rfl,_,_,_,_,_,rfl,J,i1,i2,gy _] λG hG c y hc=>?_
  .obtain⟨rfl,o,ja,jb,ac,bc,rfl,J,k1,k2,k3⟩:=hK;subst hF;dsimp -zeta -zetaHave only;have Z:ja<a.size:=""
   refine wpS_bind (jO (gB k2) (wpS_bind (jO (gA Z) (wpS_bind (ask2 T (hz.kd.trans hk) (W.mb _ "s") (W.ma _ "s") ?_)))))
   by_cases d:rk b[jb].1<rk a[ja].1
   .rw[tF d]
    try dsimp -zeta -zetaHave only
    rw[if_pos rfl];refine wpS_bind (jO (gB k2) ?_)
    try dsimp -zeta -zetaHave only
    have J':=U o ja jb k2 J (λq hq=>by have:=QT W.ra Z hq;lia)
    by_cases e:jb+1=b.size
    .rw[if_pos e[""]]
     exact wpS_pure (hD _ _ (.inl #[_,rfl,dn _ _ _ _ J' hz (.inr e)]))
    rw[if_neg e[""]]
    by_cases f:bc+1≥mg
    .rw[if_pos f];exact wpS_pure (hD _ _ (.inr #[rfl,_,_,_,_,_,rfl,J',k1,"",""]))
    rw[if_neg f];exact wpS_pure (hY _ _ #[rfl,_,_,_,_,_,rfl,J',k1,"",""])
   rw[t6 d]
   try dsimp -zeta -zetaHave only
   rw[if_neg "d"]
   refine wpS_bind (jO (gA Z) ?_)
   try dsimp -zeta -zetaHave only
   have ne:=W.ne a[ja] "s" b[jb] "s"
   have J':=Y o ja jb Z J (λq hq=>by have:=QT W.rb k2 hq;lia)
   by_cases e:ja+1+1=a.size
   .rw[if_pos e[""]]
    exact wpS_pure (hD _ _ (.inl #[_,rfl,dl _ _ _ _ J' hz e]))
   rw[if_neg e[""]]
   by_cases f:ac+1≥mg
   .rw[if_pos f];exact wpS_pure (hD _ _ (.inr #[rfl,_,_,_,_,_,rfl,J',"",k2,""]))
   rw[if_neg f];exact wpS_pure (hY _ _ #[rfl,_,_,_,_,_,rfl,J',"",k2,""])
  rcases hc with⟨o,e,q⟩|⟨rfl,o,ja,jb,ac,bc,rfl,J,k1,k2,k3⟩
  .subst hG;dsimp -zeta -zetaHave only;rw[e];exact wpS_pure (hD _ _ #[o,rfl,q])
  subst hG;dsimp -zeta -zetaHave only;refine wpS_bind (bY (pG #[rfl,?_]));refine x8
   (λx c y=>Same st y/\∃ o B O mg ac bc,c=(none,o,B,O,mg,ac,bc)/\JL rk a[2] b[2] o[2] B O/\B+1<a.size/\O<b.size/\ia+ib+min x 1<=B+O)
   (Q:=λc y=>(∃ o,c.1=!o/\Q o y)\/(Same st y/\∃ o B O mg ac bc,c=(none,o,B,O,mg,ac,bc)/\JL rk a[2] b[2] o[2] B O/\B+1<a.size/\O<b.size/\ia+ib+1<=B+O)) (λF P hF x3 c y _ lx3 hK hD hY=>?_) (λc y hK=>?_) #[hz,_,_,_,_,_,_,rfl,J,k1,k2,by show _<=ja+jb;lia] λG hG c y hc=>?_
  .clear J k1 k2 k3;obtain⟨hy0,o,ja,jb,mg2,ac,bc,rfl,J,k1,k2,k3⟩:=hK;subst hF;dsimp -zeta -zetaHave only
   extract_lets n1 n2 n3 n4 n5 n6 n7 n8 n9 n10 n11 n12 jp
   revert jp
   dsimp -zeta -zetaHave only[n1,n2,n3,n4,n5,n6,n7,n8,n9,n10,n11,n12];intro jp;refine Ki ?_;refine λmg3=>wpS_bind (QQ λy2 hy2=>?_)
   have hy:=hy0.tr hy2;have Z:ja<a.size:=""
   refine wpS_bind (jO (gB k2) ?_);refine wpS_bind (x4 T (hy.kd.trans hk) (QR W.ra W.ma (W.mb _ "s") (λp hp=>W.ne p hp b[jb] "s") (by omega)) (by omega) λka P=>?_)
   try dsimp -zeta -zetaHave only
   extract_lets acc jpB
   obtain⟨pa1,pa2⟩:=Kh P (by omega)
   have kal:=P.1;refine Kj (f:=jpB ()) (P:=λo1 i1=>JL rk a[2] b[2] o1[2] i1 jb/\i1+1<a.size/\(∀ p∈a[2].drop i1,rk b[jb].1<rk p.1)/\ja<=i1) ?_ λKB=>?_
   .intro o1 i1 ⟨J1,hl1,pl2,ile⟩;refine wpS_bind (jO (gB k2) ?_)
    try dsimp -zeta -zetaHave only
    extract_lets o2 i4
    have J2:JL rk a[2] b[2] o2[2] i1 (jb+1):=U o1 i1 jb k2 J1 pl2;refine jS (λe3=>?_) λe3=>?_
    .have e3:jb+1=b.size:=by simpa using e3
     exact wpS_pure (hD _ _ (.inl #[_,rfl,dn _ _ _ _ J2 hy (.inr e3)]))
    have e3:¬ jb+1=b.size:=by simpa using e3
    have hi1:i1<a.size:=""
    refine wpS_bind (jO (gA hi1) ?_);refine wpS_bind (x4 T (hy.kd.trans hk) (QR W.rb W.mb (W.ma _ "s") (λp hp=>(W.ne a[i1] "s" p hp).symm) (by omega)) (by omega) λkb P2=>?_)
    try dsimp -zeta -zetaHave only
    extract_lets bcc jpC
    obtain⟨pb1,pb2⟩:=Kh P2 (by omega)
    have kbl:=P2.1;refine Kj (f:=jpC ()) (P:=λo3 j3=>JL rk a[2] b[2] o3[2] i1 j3/\j3<b.size/\(∀ p∈b[2].drop j3,rk a[i1].1<rk p.1)/\jb+1<=j3) ?_ λKC=>?_
    .intro o3 j3 ⟨J3,hj3,pb,jle⟩;refine wpS_bind (jO (gA hi1) ?_)
     try dsimp -zeta -zetaHave only
     extract_lets o4
     have J4:JL rk a[2] b[2] o4[2] (i1+1) j3:=Y o3 i1 j3 hi1 J3 pb;refine jS (λe5=>?_) λe5=>?_
     .have e5:i1+1+1=a.size:=by simpa using e5
      exact wpS_pure (hD _ _ (.inl #[_,rfl,dl _ _ _ _ J4 hy e5]))
     have e5:¬ i1+1+1=a.size:=by simpa using e5
     have f1:i1+1+1<a.size:=""
     have f2:ia+ib+1<=i1+1+j3:=""
     refine jS (λ_=>wpS_pure (hD _ _ (.inr #[hy,_,_,_,_,_,_,rfl,J4,f1,hj3,f2]))) λ_=>wpS_pure (hY _ _ #[hy,_,_,_,_,_,_,rfl,J4,f1,hj3,by omega])
    refine jS (λkp2=>?_) λkp2=>?_
    .have J3:=J2.chunkB W.rb (k:=kb) (by omega) (λp hp q hq=>by have:=pb1 p hp;have:=QT W.ra hi1 hq;lia)
     rw[<- ZT,<- tN]at J3;refine jS (λe4=>?_) λe4=>?_
     .have e4:jb+1+kb=b.size:=by simpa using e4
      exact wpS_pure (hD _ _ (.inl #[_,rfl,dn _ _ _ _ J3 hy (.inr e4)]))
     have e4:¬ jb+1+kb=b.size:=by simpa using e4
     exact KC _ _ #[J3,by omega,pb2,""]
    have kz:kb=0:=""
    exact KC _ _ #[J2,"",by rw[kz]at pb2;simpa using pb2,gy _]
   refine jS (λkp=>?_) λkp=>?_
   .have J1:=J.chunkA W.ra (k:=ka) (by omega) (λp hp q hq=>by have:=pa1 p hp;have:=QT W.rb k2 hq;lia)
    rw[<- ZT,<- tN]at J1;refine jS (λe1=>?_) λe1=>?_
    .have e1:ja+ka+1=a.size:=by simpa using e1
     exact wpS_pure (hD _ _ (.inl #[_,rfl,dl _ _ _ _ J1 hy e1]))
    have e1:¬ ja+ka+1=a.size:=by simpa using e1
    refine jS (λe2=>?_) λe2=>?_
    .have e2:ja+ka=a.size:=by simpa using e2
     exact wpS_pure (hD _ _ (.inl #[_,rfl,dn _ _ _ _ J1 hy (.inl e2)]))
    have e2:¬ ja+ka=a.size:=by simpa using e2
    exact KB _ _ #[J1,by omega,pa2,""]
   have kz0:ka=0:=""
   exact KB _ _ #[J,k1,by rw[kz0]at pa2;simpa using pa2,gy _]
  .obtain⟨hy,o,ja,jb,mg2,ac,bc,rfl,J,k1,k2,k3⟩:=hK;have mx:min (max 0 (a.size+b.size)) 1=1:=""
   rw[mx]at k3;exact .inr #[hy,_,_,_,_,_,_,rfl,J,k1,k2,k3]
  rcases hc with⟨o,e,q⟩|⟨hy,o,ja,jb,mg2,ac,bc,rfl,J,k1,k2,k3⟩
  .subst hG;dsimp -zeta -zetaHave only;rw[e];exact wpS_pure (hD _ _ #[o,rfl,q])
  subst hG
  try dsimp -zeta -zetaHave only
  refine wpS_bind (QQ λy2 hy2=>wpS_pure (hY _ _ #[hy.tr hy2,_,_,_,_,rfl,J,k1,k2,by show _<=ja+jb;lia]))
 .obtain⟨hz,o,ia,ib,mg,rfl,J,i1,i2,i3⟩:=hI;lia
 obtain⟨o,e,q⟩:=hc;subst hG;dsimp -zeta -zetaHave only;rw[e];exact wpS_pure q
def ZU{a:Array aj}{n:Nat}(h:p∈a[2].take n):∃ j,j<n/\∃ hj,p=a[j]:=by
 obtain⟨j,hj,e⟩:=tw.mp h;rw[tB]at hj;have hs:j<a.size:=by simp at hj;lia
 refine#[j,"",hs,?_]
 rw[<- e];simp
def qc8{a:Array aj}{i n:Nat}(h:p∈(a[2].take n).drop i):∃ j,i<=j/\j<n/\∃ hj,p=a[j]:=by
 obtain⟨j,hj,e⟩:=tw.mp h
 grind
def Kl(P:QP rk a key 0 n k)(B:n<=a.size):(∀ p∈a[2].take k,rk p.1<rk key.1)/\∀ p∈(a[2].take n).drop k,rk key.1<rk p.1:=by
 obtain⟨p1,p2,p3⟩:=P;constructor
 .intro p hp;obtain⟨j,hj,hs,rfl⟩:=ZU hp;have:=p2 j hj
  rwa [pE,zu hs]at this
 intro p hp;obtain⟨j,hj,z,hs,rfl⟩:=qc8 hp;have:=p3 j hj z
 rwa [pE,zu hs]at this
def QV{a:Array aj}{n:Nat}(h1:1<=n)(h:n<=a.size):(a[2].take n).drop (n-1)=[a[n-1]]:=by
 rw[fJ (by rw[tB];simp;lia),fZ (by rw[tB];lia)]
 simp
def QW{a:Array aj}(z:Ris rk a[2]){n:Nat}(h1:1<=n)(h:n<=a.size){p:aj}(hp:p∈a[2].take n):rk p.1<=rk a[n-1].1:=by
 obtain⟨j,hj,hs,rfl⟩:=ZU hp;rcases bF j (n-1)with c|c
 .have:=ZR z c ""
  rw[zu hs,zu ""]at this
  lia
 have:j=n-1:=""
 simp_all
def ZV(a:Array aj){i n:Nat}(h:i<=n):(a.extract i n).toList=(a[2].take n).drop i:=by
 rw[Array.toList_extract,List.drop_take]
def QX(a:Array aj)(n):(a.extract 0 n).toList=a[2].take n:=by
 simp
def qc9{st:am}{a b:Array aj}{Q:Array aj->am->Prop}(T:Tells prog w A s kd rk ini)(hk:kindOf st=kd)(W:Two rk ini a b)(ha:1<=a.size)(hb:1<=b.size)
  (h3:∀ p∈a[2],rk b[0+0].1<rk p.1)(h4:∀ q∈b[2],rk q.1<rk a[a.size-1].1)
  (h:∀ o z,Fin2 rk a[2] b[2] o[2]->Same st z->Q o z):wpS (model prog w) A E s (qc4 a b) Q st:=by
 have la:a[2].length=a.size:=by simp
 have lb:b[2].length=b.size:=by simp
 have dn:∀(o:Array aj) na nb z,JH rk a[2] b[2] o[2].reverse na nb->Same st z->(na=0\/nb=0)->Q (a.extract 0 na++b.extract 0 nb++o.reverse) z:=λo na nb z J hz hc=>by
  refine h _ z ?_ hz;rw[tN,tN,QX,QX,cX];rcases hc with hc|hc
  .subst hc;rw[bL,pj];exact J.endB W.rb rfl
  subst hc;rw[bL,tM];exact J.endA W.ra rfl
 have df:∀(o:Array aj) na nb z,JH rk a[2] b[2] o[2].reverse na nb->Same st z->nb=1->Q (b.extract 0 nb++a.extract 0 na++o.reverse) z:=λo na nb z J hz hc=>by
  refine h _ z ?_ hz;rw[tN,tN,QX,QX,cX,t7];refine J.endF W.ra W.rb λp hp q hq=>?_
  obtain⟨j,hj,hs,rfl⟩:=ZU hp;have e:b[j]=b[0+0]:=by congr 1;lia
  rw[e];exact h3 q hq
 have Z:∀(o:Array aj) na nb (h1:1<=nb) (hi:nb<=b.size),JH rk a[2] b[2] o[2].reverse na nb->(∀ q∈a[2].take na,rk q.1<rk b[nb-1].1)->JH rk a[2] b[2] (o.push b[nb-1]).toList.reverse na (nb-1):=λo na nb h1 hi J hq=>by
  have:=J.chunkB W.rb (i:=nb-1) "" (by rw[QV h1 hi];intro p hp q hq';rw[tT.mp hq'];exact hq p hp)
  rw[QV h1 hi]at this;rw[cT,dg];exact this
 have U:∀(o:Array aj) na nb (h1:1<=na) (hi:na<=a.size),JH rk a[2] b[2] o[2].reverse na nb->(∀ q∈b[2].take nb,rk q.1<rk a[na-1].1)->JH rk a[2] b[2] (o.push a[na-1]).toList.reverse (na-1) nb:=λo na nb h1 hi J hq=>by
  have:=J.chunkA W.ra (i:=na-1) "" (by rw[QV h1 hi];intro p hp q hq';rw[tT.mp hq'];exact hq p hp)
  rw[QV h1 hi]at this;rw[cT,dg];exact this
 have h5:∀ o i n,i<=n->(o++(a.extract i n).reverse).toList.reverse=(a[2].take n).drop i++o[2].reverse:=λo i n hi=>by
  rw[tN,dg,cX,List.reverse_reverse,ZV a hi]
 have h6:∀ o i n,i<=n->(o++(b.extract i n).reverse).toList.reverse=(b[2].take n).drop i++o[2].reverse:=λo i n hi=>by
  rw[tN,dg,cX,List.reverse_reverse,ZV b hi]
 have gA:∀{i} (hi:i<a.size),a[i]?=!a[i]:=λhi=>pi a _ hi
 have gB:∀{i} (hi:i<b.size),b[i]?=!b[i]:=λhi=>pi b _ hi
 refine wpS_bind (bY (pG #[rfl,?_]))
 try dsimp -zeta -zetaHave only
 refine wpS_bind (jO (gA (show a.size-1<a.size by lia)) ?_)
 have J0:JH rk a[2] b[2] (#[]:Array aj).toList.reverse a.size b.size:=#["","",by simp,by simp,λp _ q hq=>by simp at hq,λp _ q hq=>by simp at hq]
 have J1:JH rk a[2] b[2] ((List.toArray [a[a.size-1]]):Array aj).toList.reverse (a.size-1) b.size:=U #[] a.size b.size ha (gy _) J0 (λq hq=>h4 q (fm hq))
 by_cases c1:a.size-1=0
 .rw[if_pos c1[""]]
  exact wpS_pure (dn _ _ _ st J1 (.rfl' st) (.inl c1))
 rw[if_neg c1[""]]
 by_cases c2:b.size=1
 .rw[if_pos c2[""]]
  exact wpS_pure (df _ _ _ st J1 (.rfl' st) c2)
 rw[if_neg c2[""]]
 refine wpS_bind (bK ?_);refine x8
  (λx c z=>Same st z/\∃ na nb o mg,c=(none,na,nb,o,mg)/\JH rk a[2] b[2] o[2].reverse na nb/\1<=na/\2<=nb/\x+1+(na+nb)<=a.size+b.size)
  (Q:=λc z=>∃ o,c.1=!o/\Q o z) (λF P hF x c z _ lx hI hD hY=>?_) (λc z hI=>?_) #[.rfl' st,_,_,_,_,rfl,J1,"","",""] λG hG c z hc=>?_
 .obtain⟨hz,na,nb,o,mg,rfl,J,i1,i2,i3⟩:=hI;subst hF;dsimp -zeta -zetaHave only;refine x8
   (λx c y=>y=z/\∃ B O o ac bc,c=(none,B,O,o,ac,bc)/\JH rk a[2] b[2] o[2].reverse B O/\1<=B/\2<=O/\B+O<=na+nb)
   (Q:=λc y=>(∃ o,c.1=!o/\Q o y)\/(y=z/\∃ B O o ac bc,c=(none,B,O,o,ac,bc)/\JH rk a[2] b[2] o[2].reverse B O/\1<=B/\2<=O/\B+O<=na+nb)) (λF P hF x2 c y _ lx2 hK hD hY=>?_) (λc y hK=>.inr hK) #[rfl,_,_,_,_,_,rfl,J,i1,i2,gy _] λG hG c y hc=>?_
  .obtain⟨rfl,ja,jb,o,ac,bc,rfl,J,k1,k2,k3⟩:=hK;subst hF;dsimp -zeta -zetaHave only;have jal:ja<=a.size:=by have:=J.la;lia
   have jbl:jb<=b.size:=by have:=J.lb;lia
   have ja':ja-1<a.size:=""
   have jb':jb-1<b.size:=""
   refine wpS_bind (jO (gB jb') (wpS_bind (jO (gA ja') (wpS_bind (ask2 T (hz.kd.trans hk) (W.mb _ "s") (W.ma _ "s") ?_)))))
   by_cases d:rk b[jb-1].1<rk a[ja-1].1
   .rw[tF d]
    try dsimp -zeta -zetaHave only
    rw[if_pos rfl];refine wpS_bind (jO (gA ja') ?_)
    try dsimp -zeta -zetaHave only
    have J':=U o ja jb k1 jal J (λq hq=>by have:=QW W.rb "" jbl hq;lia)
    by_cases e:ja-1=0
    .rw[if_pos e[""]]
     exact wpS_pure (hD _ _ (.inl #[_,rfl,dn _ _ _ _ J' hz (.inl e)]))
    rw[if_neg e[""]]
    refine jS (λ_=>wpS_pure (hD _ _ (.inr #[rfl,_,_,_,_,_,rfl,J',"",k2,""]))) λ_=>wpS_pure (hY _ _ #[rfl,_,_,_,_,_,rfl,J',"",k2,""])
   rw[t6 d]
   try dsimp -zeta -zetaHave only
   rw[if_neg "d"]
   refine wpS_bind (jO (gB jb') ?_)
   try dsimp -zeta -zetaHave only
   have ne:=W.ne a[ja-1] "s" b[jb-1] "s"
   have J':=Z o ja jb "" jbl J (λq hq=>by have:=QW W.ra k1 jal hq;lia)
   by_cases e:jb-1=1
   .rw[if_pos e[""]]
    exact wpS_pure (hD _ _ (.inl #[_,rfl,df _ _ _ _ J' hz e]))
   rw[if_neg e[""]]
   refine jS (λ_=>wpS_pure (hD _ _ (.inr #[rfl,_,_,_,_,_,rfl,J',k1,"",""]))) λ_=>wpS_pure (hY _ _ #[rfl,_,_,_,_,_,rfl,J',k1,"",""])
  rcases hc with⟨o,e,q⟩|⟨rfl,ja,jb,o,ac,bc,rfl,J,k1,k2,k3⟩
  .subst hG;dsimp -zeta -zetaHave only;rw[e];exact wpS_pure (hD _ _ #[o,rfl,q])
  subst hG
  try dsimp -zeta -zetaHave only
  refine wpS_bind (bY (pG #[rfl,?_]));refine x8
   (λx c y=>Same st y/\∃ B O o mg ac bc,c=(none,B,O,o,mg,ac,bc)/\JH rk a[2] b[2] o[2].reverse B O/\1<=B/\2<=O/\B+O+min x 1<=na+nb)
   (Q:=λc y=>(∃ o,c.1=!o/\Q o y)\/(Same st y/\∃ B O o mg ac bc,c=(none,B,O,o,mg,ac,bc)/\JH rk a[2] b[2] o[2].reverse B O/\1<=B/\2<=O/\B+O+1<=na+nb)) (λF P hF x3 c y _ lx3 hK hD hY=>?_) (λc y hK=>?_) #[hz,_,_,_,_,_,_,rfl,J,k1,k2,by show ja+jb+_<=_;lia] λG hG c y hc=>?_
  .clear J k1 k2 k3;obtain⟨hy0,ja,jb,o,mg2,ac,bc,rfl,J,k1,k2,k3⟩:=hK;subst hF;dsimp -zeta -zetaHave only
   extract_lets n1 n2 n3 n4 n5 n6 n7 n8 n9 n10 n11 n12 jp
   revert jp
   dsimp -zeta -zetaHave only[n1,n2,n3,n4,n5,n6,n7,n8,n9,n10,n11,n12];intro jp;refine Ki ?_;refine λmg3=>wpS_bind (QQ λy2 hy2=>?_)
   have hy:=hy0.tr hy2;have jal:ja<=a.size:=by have:=J.la;lia
   have jbl:jb<=b.size:=by have:=J.lb;lia
   have jb':jb-1<b.size:=""
   refine wpS_bind (jO (gB jb') ?_);refine wpS_bind (x4 T (hy.kd.trans hk) (QR W.ra W.ma (W.mb _ "s") (λp hp=>W.ne p hp b[jb-1] "s") "") "" λka P=>?_)
   try dsimp -zeta -zetaHave only
   extract_lets k0 acc jpB
   obtain⟨pa1,pa2⟩:=Kl P ""
   have kal:=P.1;refine Kk (f:=jpB ()) (P:=λ(i1:Nat) (o1:Array aj)=>JH rk a[2] b[2] o1[2].reverse i1 jb/\1<=i1/\i1<=a.size/\(∀ p∈a[2].take i1,rk p.1<rk b[jb-1].1)/\i1<=ja) ?_ λKB=>?_
   .intro i1 o1 ⟨J1,hi1,ial,pl2,ile⟩;refine wpS_bind (jO (gB jb') ?_)
    try dsimp -zeta -zetaHave only
    extract_lets o2
    have J2:JH rk a[2] b[2] o2[2].reverse i1 (jb-1):=Z o1 i1 jb "" jbl J1 pl2
    refine jS (λe3=>?_) λe3=>?_
    .have e3:jb-1=1:=by simpa using e3
     exact wpS_pure (hD _ _ (.inl #[_,rfl,df _ _ _ _ J2 hy e3]))
    have e3:¬ jb-1=1:=by simpa using e3
    refine wpS_bind (jO (gA (show i1-1<a.size by lia)) ?_)
    refine wpS_bind (x4 T (hy.kd.trans hk) (QR W.rb W.mb (W.ma _ "s") (λp hp=>(W.ne a[i1-1] "s" p hp).symm) "") "" λkb P2=>?_)
    try dsimp -zeta -zetaHave only
    extract_lets k5 bcc jpC
    obtain⟨pb1,pb2⟩:=Kl P2 ""
    have kbl:=P2.1;refine Kk (f:=jpC ()) (P:=λ(j3:Nat) (o3:Array aj)=>JH rk a[2] b[2] o3[2].reverse i1 j3/\2<=j3/\(∀ p∈b[2].take j3,rk p.1<rk a[i1-1].1)/\j3<jb) ?_ λKC=>?_
    .intro j3 o3 ⟨J3,hj3,pb,jle⟩;refine wpS_bind (jO (gA (show i1-1<a.size by lia)) ?_)
     try dsimp -zeta -zetaHave only
     extract_lets o4
     have J4:JH rk a[2] b[2] o4[2].reverse (i1-1) j3:=U o3 i1 j3 hi1 ial J3 pb;refine jS (λe5=>?_) λe5=>?_
     .have e5:i1-1=0:=by simpa using e5
      exact wpS_pure (hD _ _ (.inl #[_,rfl,dn _ _ _ _ J4 hy (.inl e5)]))
     have e5:¬ i1-1=0:=by simpa using e5
     have f1:1<=i1-1:=""
     have f2:i1-1+j3+1<=na+nb:=""
     refine jS (λ_=>wpS_pure (hD _ _ (.inr #[hy,_,_,_,_,_,_,rfl,J4,f1,hj3,f2]))) λ_=>wpS_pure (hY _ _ #[hy,_,_,_,_,_,_,rfl,J4,f1,hj3,""])
    refine jS (λY=>?_) λY=>?_
    .have Y:jb-1-kb>0:=Y;have J3:=J2.chunkB W.rb (i:=kb) "" (λp hp q hq=>by have:=pb2 q hq;have:=QW W.ra hi1 ial hp;lia)
     rw[<- h6 _ _ _ ""]at J3
     refine jS (λe4=>?_) λe4=>?_
     .have e4:kb=1:=by simpa using e4
      exact wpS_pure (hD _ _ (.inl #[_,rfl,df _ _ _ _ J3 hy e4]))
     have e4:¬ kb=1:=by simpa using e4
     refine jS (λe6=>?_) λe6=>?_
     .have e6:kb=0:=by simpa using e6
      exact wpS_pure (hD _ _ (.inl #[_,rfl,dn _ _ _ _ J3 hy (.inr e6)]))
     have e6:¬ kb=0:=by simpa using e6
     exact KC _ _ #[J3,"",pb1,""]
    have Y:¬ jb-1-kb>0:=Y;have kz:kb=jb-1:=""
    exact KC _ _ #[J2,"",by rw[kz]at pb1;exact pb1,""]
   refine jS (λkp=>?_) λkp=>?_
   .have kp:ja-ka>0:=kp;have J1:=J.chunkA W.ra (i:=ka) "" (λp hp q hq=>by have:=pa2 q hq;have:=QW W.rb "" jbl hp;lia)
    rw[<- h5 _ _ _ ""]at J1
    refine jS (λe1=>?_) λe1=>?_
    .have e1:ka=0:=by simpa using e1
     exact wpS_pure (hD _ _ (.inl #[_,rfl,dn _ _ _ _ J1 hy (.inl e1)]))
    have e1:¬ ka=0:=by simpa using e1
    exact KB _ _ #[J1,"","",pa1,""]
   have kp:¬ ja-ka>0:=kp;have kz0:ka=ja:=""
   exact KB _ _ #[J,k1,jal,by rw[kz0]at pa1;exact pa1,gy _]
  .obtain⟨hy,ja,jb,o,mg2,ac,bc,rfl,J,k1,k2,k3⟩:=hK;have mx:min (max 0 (a.size+b.size)) 1=1:=""
   rw[mx]at k3;exact .inr #[hy,_,_,_,_,_,_,rfl,J,k1,k2,k3]
  rcases hc with⟨o,e,q⟩|⟨hy,ja,jb,o,mg2,ac,bc,rfl,J,k1,k2,k3⟩
  .subst hG;dsimp -zeta -zetaHave only;rw[e];exact wpS_pure (hD _ _ #[o,rfl,q])
  subst hG
  try dsimp -zeta -zetaHave only
  refine wpS_bind (QQ λy2 hy2=>wpS_pure (hY _ _ #[hy.tr hy2,_,_,_,_,rfl,J,k1,k2,by show _+(ja+jb)<=_;lia]))
 .obtain⟨hz,na,nb,o,mg,rfl,J,i1,i2,i3⟩:=hI;lia
 obtain⟨o,e,q⟩:=hc;subst hG;dsimp -zeta -zetaHave only;rw[e];exact wpS_pure q
def qca{σ:Type}{x st:σ}{Q:PUnit->σ->Prop}(h:Q ⟨⟩ x):wpS M A E s (set x) Q st:=by
 exact gu #[rfl,h]
theorem Km:∀ m k (xs:Array aj) i,i+k+m[1]<=xs[2].length ->
  ((m.zipIdx k).foldl (λa p=>a.setIfInBounds (i+p.2) p.1) xs).toList=xs[2].take (i+k)++m++xs[2].drop (i+k+m[1])
 | [],k,xs,i,h=>by simp
 | p::m,k,xs,i,h=>by
  rw[gK]at h;have hs:i+k<xs[2].length:=""
  have ln:(xs.setIfInBounds (i+k) p).toList.length=xs[2].length:=by simp
  rw[b7,fK,Km m (k+1) _ i (by rw[ln];lia)]
  simp only[Array.toList_setIfInBounds];rw[List.take_set,List.drop_set,if_pos ""]
  have e1:(xs[2].take (i+(k+1))).set (i+k) p=xs[2].take (i+k)++[p]:=by
   rw[show i+(k+1)=i+k+1 by lia,List.take_succ_eq_append_getElem hs,List.set_append_right _ _ (by rw[tB];lia),tB,cw "",sub_self]
   rfl
  rw[e1,t7,t7,t7,show i+(k+1)+m[1]=i+k+(m[1]+1)by lia]
  rfl
def Kn{P X R:List aj}(e:arr[2]=P++(X++R)){i:Nat}(h):arr[P[1]+i]?=!X[i]/\av rk arr (P[1]+i)=rk X[i].1:=by
 have g:arr[P[1]+i]?=!X[i]:=by
  have:arr[P[1]+i]?=arr[2][P[1]+i]?:=by simp
  rw[this,e,hU "",Nat.add_sub_cancel_left,t4 h,gw h]
 exact#[g,by unfold av;rw[g]]
def qcb{st:am}{i pw pw2:Nat}{P X Y R:List aj}{Q:Bool->am->Prop}(T:Tells prog w A s kd rk ini)(hk:kindOf st=kd)(hf:failedOf st=none)(ar:(arrOf st).toList=P++(X++(Y++R)))(pm:(arrOf st).toList.Perm ini[2])
  (hx:1<=X[1])(hy:1<=Y[1])(rx:Ris rk X)(ry:Ris rk Y)(p1:(pendingOf st)[i]?=!(P[1],X[1],pw))(p2:(pendingOf st)[i+1]?=!(P[1]+X[1],Y[1],pw2))
  (h:∀ z M,M.Perm (X++Y)->Ris rk M->(arrOf z).toList=P++(M++R)->kindOf z=kd->failedOf z=none->pendingOf z=((pendingOf st).setIfInBounds i (P[1],X[1]+Y[1],pw)).eraseIdxIfInBounds (i+1)->Q true z) :
  wpS (model prog w) A E s (mergeAt' i) Q st:=by
 have ar2:(arrOf st).toList=(P++X)++(Y++R):=by rw[ar,t7]
 have lpx:(P++X)[1]=P[1]+X[1]:=gG;have mem:∀ p∈(arrOf st).toList,p∈ini[2]:=λp hp=>pm.mem_iff.mp hp
 have mX:∀ p∈X,p∈ini[2]:=λp hp=>mem p (by rw[ar];simp[hp])
 have mY:∀ p∈Y,p∈ini[2]:=λp hp=>mem p (by rw[ar];simp[hp])
 have nd:((arrOf st).toList.map λp=>rk p.1).Nodup:=(pm.map _).nodup_iff.mpr T.nd
 have dis:∀ p∈X,∀ q∈Y,rk p.1≠rk q.1:=by
  rw[ar,hX,hX,hX]at nd;have n2:=(fj.mp nd).2.1;have n3:=(fj.mp n2).2.2;exact λp hp q hq=>n3 _ (gJ.mpr #[p,hp,rfl]) _ (t5 _ (gJ.mpr #[q,hq,rfl]))
 have size:(arrOf st).size=P[1]+X[1]+Y[1]+R.length:=by
  have:=congrArg List.length ar;simp at this;lia
 have gX:∀{j} hj,(arrOf st)[P[1]+j]?=!X[j]/\av rk (arrOf st) (P[1]+j)=rk X[j].1:=λhj=>Kn ar hj
 have gY:∀{j} hj,(arrOf st)[P[1]+X[1]+j]?=!Y[j]/\av rk (arrOf st) (P[1]+X[1]+j)=rk Y[j].1:=λ{j} hj=>by
  have:=Kn (rk:=rk) ar2 hj
  rwa [lpx]at this
 have rX:∀ i j (h:i<j) (hj:j<X[1]),rk (X[i]'"").1<rk X[j].1:=λi j h hj=>tU.mp rx i j "" hj h
 have rY:∀ i j (h:i<j) (hj:j<Y[1]),rk (Y[i]'"").1<rk Y[j].1:=λi j h hj=>tU.mp ry i j "" hj h
 have y0:0<Y[1]:=""
 have h4:(∀ p∈X,∀ q∈Y,rk p.1<rk q.1)->Ris rk (X++Y):=λz=>gW.mpr #[rx,ry,z]
 have B:∀ q∈Y,rk (Y[0]'y0).1<=rk q.1:=λq hq=>by
  obtain⟨j,hj,rfl⟩:=tw.mp hq;rcases Nat.eq_zero_or_pos j with c|c
  .subst c;exact pt _
  exact cR (rY 0 j c hj)
 have O:∀ p∈X,rk p.1<=rk (X[X[1]-1]'"").1:=λp hp=>by
  obtain⟨j,hj,rfl⟩:=tw.mp hp;rcases bF j (X[1]-1)with c|c
  .exact cR (rX j _ c "")
  have:j=X[1]-1:=""
  subst this;exact pt _
 refine wpS_bind (bK ?_)
 try dsimp only
 rw[show(pendingOf st)[i]?=_ from p1,show(pendingOf st)[i+1]?=_ from p2]
 try dsimp only
 refine wpS_bind (qca ?_);show wpS (model prog w) A E s _ Q (SortSt.mk' (kindOf st) (arrOf st) (((pendingOf st).setIfInBounds i (P[1],X[1]+Y[1],pw)).eraseIdxIfInBounds (i+1)) (gallopOf st) (failedOf st));generalize ez:SortSt.mk' (kindOf st) (arrOf st) (((pendingOf st).setIfInBounds i (P[1],X[1]+Y[1],pw)).eraseIdxIfInBounds (i+1)) (gallopOf st) (failedOf st)=z0;have z1:arrOf z0=arrOf st:=by rw[<- ez]
 have z2:kindOf z0=kd:=by rw[<- ez];exact hk
 have z3:failedOf z0=none:=by rw[<- ez];exact hf
 have z4:pendingOf z0=((pendingOf st).setIfInBounds i (P[1],X[1]+Y[1],pw)).eraseIdxIfInBounds (i+1):=by rw[<- ez]
 have fin:(∀ p∈X,∀ q∈Y,rk p.1<rk q.1)->Q true z0:=λhh=>h z0 (X++Y) (List.Perm.refl _) (h4 hh) (by rw[z1,ar,t7]) z2 z3 z4
 have sg1:Seg rk ini (arrOf st) (Y[0]'y0) P[1] X[1]:=#["",mem,mY _ "s",λa b hab hb=>by rw[(gX "").2,(gX hb).2];exact rX a b hab hb,λa ha=>by rw[(gX ha).2];exact dis _ "s" _ "s"]
 refine wpS_bind (jO (p:=Y[0]'y0) (by have:=(gY y0).1;simpa using this) ?_)
 refine wpS_bind (x4 T z2 sg1 "" λk P1=>?_)
 obtain⟨q1,q2,q3⟩:=P1;have q2:∀ j (hj:j<k),rk (X[j]'"").1<rk (Y[0]'y0).1:=λj hj=>by have:=q2 j hj;rwa [(gX "").2]at this
 have q3:∀ j h1 (hj:j<X[1]),rk (Y[0]'y0).1<rk X[j].1:=λj h1 hj=>by have:=q3 j h1 hj;rwa [(gX hj).2]at this
 try dsimp only
 by_cases c1:X[1]-k=0
 .rw[if_pos c1[""]]
  refine wpS_pure (fin λp hp q hq=>?_)
  obtain⟨j,hj,rfl⟩:=tw.mp hp;have:=q2 j ""
  have:=B q hq;lia
 rw[if_neg c1[""]]
 have xl:X[1]-1<X[1]:=""
 have sg2:Seg rk ini (arrOf st) X[X[1]-1] (P[1]+X[1]) Y[1]:=#["",mem,mX _ "s",λa b hab hb=>by rw[(gY "").2,(gY hb).2];exact rY a b hab hb,λa ha=>by rw[(gY ha).2];exact(dis _ "s" _ "s").symm]
 refine wpS_bind (jO (p:=X[X[1]-1]) (by
  have:=(gX xl).1;rw[show P[1]+k+(X[1]-k)-1=P[1]+(X[1]-1)by lia]
  exact this) ?_)
 refine wpS_bind (x4 T z2 sg2 "" λkb P2=>?_)
 obtain⟨r1,r2,r3⟩:=P2;have r2:∀ j (hj:j<kb),rk (Y[j]'"").1<rk X[X[1]-1].1:=λj hj=>by have:=r2 j hj;rwa [(gY "").2]at this
 have r3:∀ j (h1:kb<=j) (hj:j<Y[1]),rk X[X[1]-1].1<rk Y[j].1:=λj h1 hj=>by have:=r3 j h1 hj;rwa [(gY hj).2]at this
 try dsimp only
 by_cases c2:kb=0
 .rw[if_pos c2[""]]
  refine wpS_pure (fin λp hp q hq=>?_)
  obtain⟨j,hj,rfl⟩:=tw.mp hq;have:=r3 j "" hj
  have:=O p hp;lia
 rw[if_neg c2[""]]
 generalize eX:(arrOf st).extract (P[1]+k) (P[1]+X[1])=x;generalize eY:(arrOf st).extract (P[1]+X[1]) (P[1]+X[1]+kb)=y;have lx:x[2]=X.drop k:=by
  rw[<- eX,ZV _ "",ar,List.take_append,tW "",List.drop_append,fZ "",pj,show P[1]+X[1]-P[1]=X[1] by lia,cF (gy _),d6,show P[1]+k-P[1]=k by lia]
 have ly:y[2]=Y.take kb:=by
  rw[<- eY,ZT,ar2,List.drop_append,fZ "",pj,lpx,sub_self,List.drop_zero,cF r1]
 have sx:x.size=X[1]-k:=by have:=congrArg List.length lx;rw[fW]at this;simpa using this
 have sy:y.size=kb:=by have:=congrArg List.length ly;rw[tB,cw r1]at this;simpa using this
 have W:Two rk ini x y:=#[by rw[lx];exact rx.drop,by rw[ly];exact ry.take,λp hp=>mX p (by rw[lx]at hp;exact fq hp),λp hp=>mY p (by rw[ly]at hp;exact fm hp),λp hp q hq=>dis p (by rw[lx]at hp;exact fq hp) q (by rw[ly]at hq;exact fm hq)]
 have eY0:y[0+0]=Y[0]'y0:=by
  have:y[0]?=(Y[0]?):=by
   have e:y[0]?=y[2][0]?:=by simp
   rw[e,ly,pT,if_pos ""]
  rw[pi y 0 "",gw y0]at this
  exact tG this
 have eXl:x[x.size-1]'""=X[X[1]-1]:=by
  have:x[x.size-1]?=X[X[1]-1]?:=by
   have e:x[x.size-1]?=x[2][x.size-1]?:=by simp
   rw[e,lx,List.getElem?_drop,sx];congr 1;lia
  rw[pi x (x.size-1) "",gw xl]at this
  exact tG this
 have first:∀ p∈x[2],rk (y[0]'"").1<rk p.1:=λp hp=>by
  rw[lx]at hp;obtain⟨j,hj,rfl⟩:=tw.mp hp;rw[fW]at hj;rw[eY0,List.getElem_drop];exact q3 (k+j) "" ""
 have U:∀ q∈y[2],rk q.1<rk (x[x.size-1]'"").1:=λq hq=>by
  rw[ly]at hq;obtain⟨j,hj,rfl⟩:=tw.mp hq;rw[tB]at hj;rw[eXl,List.getElem_take];exact r2 j ""
 have Z:∀(o:Array aj) (z:am),Fin2 rk x[2] y[2] o[2]->Same z0 z->Q true (SortSt.mk' (kindOf z) (o[2].zipIdx.foldl (λa p=>a.setIfInBounds (P[1]+k+p.2) p.1) (arrOf z)) (pendingOf z) (gallopOf z) (failedOf z)):=λo z F hz=>by
  obtain⟨fp,fu⟩:=F;rw[lx,ly]at fp;have ol:o[2].length=X[1]-k+kb:=by
   have:=fp.length_eq;rw[gG,fW,tB,cw r1]at this;exact this
  have h3:∀ p∈o[2],p∈X.drop k\/p∈Y.take kb:=λp hp=>gD.mp (fp.mem_iff.mp hp)
  have az:arrOf z=arrOf st:=hz.ar.trans z1;have wl:=Km o[2] 0 (arrOf st) (P[1]+k) (by
   have e:(arrOf st).toList.length=(arrOf st).size:=by simp
   rw[e,size,ol];lia)
  rw[Nat.add_zero]at wl;have t1:(arrOf st).toList.take (P[1]+k)=P++X.take k:=by
   rw[ar,List.take_append,tW "",show P[1]+k-P[1]=k by lia,cF q1]
  have t2:(arrOf st).toList.drop (P[1]+k+o[2].length)=Y.drop kb++R:=by
   rw[ar2,ol,List.drop_append,fZ "",pj,lpx,show P[1]+k+(X[1]-k+kb)-(P[1]+X[1])=kb by lia,cE r1]
  rw[t1,t2]at wl;refine h _ (X.take k++(o[2]++Y.drop kb)) ?_ ?_ ?_ (hz.kd.trans z2) (hz.fl.trans z3) (hz.pd.trans z4)
  .have e:X++Y=X.take k++((X.drop k++Y.take kb)++Y.drop kb):=by
    rw[t7,tL,<- t7,tL]
   rw[e];exact pW _ (fp.append_right _)
  .have lo:∀ p∈X.take k,∀ q∈Y,rk p.1<rk q.1:=λp hp q hq=>by
    obtain⟨j,hj,rfl⟩:=tw.mp hp;rw[tB]at hj;rw[List.getElem_take];have:=q2 j ""
    have:=B q hq;lia
   have hi:∀ p∈X,∀ q∈Y.drop kb,rk p.1<rk q.1:=λp hp q hq=>by
    obtain⟨j,hj,rfl⟩:=tw.mp hq;rw[fW]at hj;rw[List.getElem_drop];have:=r3 (kb+j) "" ""
    have:=O p hp;lia
   have sX:=gW.mp (show Ris rk (X.take k++X.drop k)by rw[tL];exact rx)
   have sY:=gW.mp (show Ris rk (Y.take kb++Y.drop kb)by rw[tL];exact ry)
   refine gW.mpr #[rx.take,gW.mpr #[fu,ry.drop,λp hp q hq=>?_],λp hp q hq=>?_]
   .rcases h3 p hp with hp|hp
    .exact hi p (fq hp) q hq
    exact sY.2.2 p hp q hq
   rcases gD.mp hq with hq|hq
   .rcases h3 q hq with hq|hq
    .exact sX.2.2 p hp q hq
    exact lo p hp q (fm hq)
   exact lo p hp q (fq hq)
  show(o[2].zipIdx.foldl (λa p=>a.setIfInBounds (P[1]+k+p.2) p.1) (arrOf z)).toList=_
  rw[az,wl];simp
 refine jS (λ_=>?_) λ_=>?_
 .refine wpS_bind (qc7 T z2 W "" "" first U λo z F hz=>?_)
  refine wpS_bind (wpS_modify ?_);refine wpS_bind (bK ?_);have e:(failedOf z).isNone=true:=by rw[hz.fl,z3];rfl
  have:=Z o z F hz;refine wpS_pure ?_;show Q (failedOf z).isNone _;rw[e];exact this
 refine wpS_bind (qc9 T z2 W "" "" first U λo z F hz=>?_)
 refine wpS_bind (wpS_modify ?_);refine wpS_bind (bK ?_);have e:(failedOf z).isNone=true:=by rw[hz.fl,z3];rfl
 have:=Z o z F hz;refine wpS_pure ?_;show Q (failedOf z).isNone _;rw[e];exact this
variable{pd:Array (Nat×Nat×Nat)}{hd:List aj}
structure Md(kd:SortKind)(ini:Array Keyed)(pd:Array (Nat×Nat×Nat))(hd:List Keyed)(z:SortSt):Prop where
 pm:(arrOf z).Perm ini
 kd:kindOf z=kd
 fl:failedOf z=none
 pn:pendingOf z=pd
 hd:(arrOf z).toList.take hd[1]=hd
def Md.sz(m:Md kd ini pd hd z):(arrOf z).size=ini.size:=m.pm.size_eq
def Md.le(m:Md kd ini pd hd z):hd[1]<=ini.size:=by
 have:=congrArg List.length m.hd;rw[tB]at this;have e:(arrOf z).toList.length=ini.size:=by simp;exact m.sz
 lia
def Md.put(m:Md kd ini pd hd z){xs:Array aj}(p:xs.Perm (arrOf z))(B:∀ i,i<hd[1]->xs[i]?=(arrOf z)[i]?):Md kd ini pd hd (setArr z xs):=by
 refine#[p.trans m.pm,m.kd,m.fl,m.pn,?_];rw[<- m.hd];apply dO;intro i;have hl:min hd[1] (arrOf z).toList.length=hd[1]:=by
  have:=m.le;have e:(arrOf z).toList.length=ini.size:=by simp;exact m.sz
  lia
 rw[pT,pT]
 simp_all
def Md.get(m:Md kd ini pd hd z){i:Nat}(hi:i<ini.size):∃ p,(arrOf z)[i]?=!p/\p∈ini[2]/\av rk (arrOf z) i=rk p.1:=by
 have h:i<(arrOf z).size:=by rw[m.sz];exact hi
 have e:(arrOf z)[i]?=!(arrOf z)[i]:=pi _ i h;refine#[(arrOf z)[i],e,((fF.mp m.pm).mem_iff.mp "s"),?_]
 unfold av;rw[e]
def Md.ask(T:Tells prog w A s kd rk ini)(m:Md kd ini pd hd z)(hi:i<ini.size)(B:j<ini.size)(h:Q (!(decide (av rk (arrOf z) i<av rk (arrOf z) j))) z) :
  wpS (model prog w) A E s (ltAt' i j) Q z:=by
 obtain⟨p,e1,m1,a1⟩:=m.get hi;obtain⟨q,e2,m2,a2⟩:=m.get B;rw[a1,a2]at h;exact wpS_bind (bK (wpS_bind (jO e1 (wpS_bind (jO e2 (ask2 T m.kd m1 m2 h))))))
def Md.ne(T:Tells prog w A s kd rk ini)(m:Md kd ini pd hd z){i j:Nat}(hi:i<ini.size)(B:j<ini.size)(h:i≠j):av rk (arrOf z) i≠av rk (arrOf z) j:=by
 have li:i<(arrOf z).size:=by rw[m.sz];exact hi
 have lj:j<(arrOf z).size:=by rw[m.sz];exact B
 rw[zu li,zu lj];refine λq=>h ((List.getElem_inj (h₀:=by simpa using li) (h₁:=by simpa using lj) (((fF.mp m.pm).map λp=>rk p.1).nodup_iff.mpr T.nd)).mp ?_)
 simpa using q
abbrev Upl(rk:aa->Int)(z:am)(lo k:Nat):Prop:=∀ i j,i<j->j<k->av rk (arrOf z) (lo+i)<av rk (arrOf z) (lo+j)
abbrev Dnl(rk:aa->Int)(z:am)(lo k:Nat):Prop:=∀ i j,i<j->j<k->av rk (arrOf z) (lo+j)<av rk (arrOf z) (lo+i)
def Upl.more{lo x:Nat}(u:Upl rk z lo x)(B:1<=x)(h:av rk (arrOf z) (lo+x-1)<av rk (arrOf z) (lo+x)):Upl rk z lo (x+1):=λi j h1 h2=>by
 by_cases c:j<x
 .exact u i j h1 c
 have ej:j=x:=""
 subst ej;by_cases ci:i=j-1
 .subst ci;rw[show lo+(j-1)=lo+j-1 by lia]
  exact h
 have:=u i (j-1) "" ""
 rw[show lo+(j-1)=lo+j-1 by lia]at this
 lia
def Dnl.more{lo x:Nat}(u:Dnl rk z lo x)(B:1<=x)(h:av rk (arrOf z) (lo+x)<av rk (arrOf z) (lo+x-1)):Dnl rk z lo (x+1):=λi j h1 h2=>by
 by_cases c:j<x
 .exact u i j h1 c
 have ej:j=x:=""
 subst ej;by_cases ci:i=j-1
 .subst ci;rw[show lo+(j-1)=lo+j-1 by lia]
  exact h
 have:=u i (j-1) "" ""
 rw[show lo+(j-1)=lo+j-1 by lia]at this
 lia
def qcc(T:Tells prog w A s kd rk ini)(m:Md kd ini pd hd z)(B:hd[1]+n=ini.size)(h1:1<=n)
  (h:∀ r y,Md kd ini pd hd y->1<=r->r<=n->Upl rk y hd[1] r->Q ↑r y):wpS (model prog w) A E s (countRun' hd[1] n) Q z:=by
 generalize el:hd[1]=lo at *;refine wpS_bind (wpS_mono (wpS_forRange (λx c y=>y=z/\c=(none,x)/\Upl rk z lo x) (Q:=λc y=>y=z/\∃ x,c=(none,x)/\1<=x/\x<=n/\Upl rk z lo x/\(x=n\/av rk (arrOf z) (lo+x)<av rk (arrOf z) (lo+x-1))) (λx c y lx hx hI=>?_) (λc y hI=>?_) #[rfl,rfl,λi j a b=>by lia]) λc y hc=>?_)
 .obtain⟨rfl,rfl,u⟩:=hI
  try dsimp only
  refine wpS_bind (m.ask T "" "" ?_)
  by_cases c:av rk (arrOf y) (lo+x)<av rk (arrOf y) (lo+x-1)
  .rw[tF c];exact wpS_pure #[rfl,x,rfl,lx,"",u,.inr c]
  rw[t6 c];have:=m.ne T (i:=lo+x) (j:=lo+x-1) "" "" ""
  exact wpS_pure #[rfl,rfl,u.more lx ""]
 .obtain⟨rfl,rfl,u⟩:=hI;have e:max 1 n=n:=""
  rw[e]at u ⊢;exact#[rfl,n,rfl,h1,gy _,u,.inl rfl]
 obtain⟨rfl,k,rfl,k1,k2,u,o⟩:=hc
 try dsimp only
 by_cases c:k=n
 .rw[if_pos c[""]]
  exact wpS_pure (h k y m k1 k2 u)
 rw[if_neg c[""]]
 have lt:=o.resolve_left c;by_cases c1:k>1
 .rw[if_pos c1];refine wpS_bind (m.ask T "" "" ?_)
  have le:=u 0 (k-1) "" ""
  rw[Nat.add_zero,show lo+(k-1)=lo+k-1 by lia]at le
  rw[tF le];exact wpS_pure (h k y m k1 k2 u)
 rw[if_neg c1];have e:k=1:=""
 subst e;refine wpS_bind (bY (pG #[rfl,?_]));refine wpS_bind (wpS_mono (wpS_forRange (λx c v=>v=y/\c=(none,x,0)/\Dnl rk y lo x) (Q:=λc v=>v=y/\∃ x,c=(none,x,0)/\2<=x/\x<=n/\Dnl rk y lo x) (λx c v lx hx hI=>?_) (λc v hI=>?_) #[rfl,rfl,λi j a b=>?_]) λc v hc=>?_)
 .obtain⟨rfl,rfl,u'⟩:=hI
  try dsimp only
  refine wpS_bind (m.ask T "" "" ?_)
  by_cases c:av rk (arrOf v) (lo+x)<av rk (arrOf v) (lo+x-1)
  .rw[tF c]
   try dsimp only
   rw[if_pos rfl,if_neg ""]
   exact wpS_pure #[rfl,rfl,u'.more "" c]
  rw[t6 c]
  try dsimp only
  rw[if_neg "d"]
  have:=m.ne T (i:=lo+x) (j:=lo+x-1) "" "" ""
  refine wpS_bind (m.ask T "" "" ?_)
  rw[tF (show av rk (arrOf v) (lo+x-1)<av rk (arrOf v) (lo+x)by lia)]
  exact wpS_pure #[rfl,x,rfl,"","",u']
 .obtain⟨rfl,rfl,u'⟩:=hI;have e:max (1+1) n=n:=""
  rw[e]at u' ⊢;exact#[rfl,n,rfl,"",gy _,u']
 .have e1:i=0:=""
  have e2:j=1:=""
  subst e1 e2;simpa using lt
 obtain⟨rfl,x,rfl,x1,x2,u'⟩:=hc
 try dsimp only
 rw[if_neg ""]
 have hz:lo+x<=(arrOf v).size:=by rw[m.sz];lia
 have gm:=λk=>getElem?_mirror_all (i:=lo) hz k
 have m2:Md kd ini pd hd (setArr v (mirror (arrOf v) lo (lo+x) ((lo+x-lo)/2))):=m.put (mirror_perm _ _ _ _) (λi hi=>by rw[gm,if_neg ""])
 refine wpS_bind (wpS_reverse ?_);generalize ey:setArr v (mirror (arrOf v) lo (lo+x) ((lo+x-lo)/2))=y2 at m2;have u2:Upl rk y2 lo x:=λi j a b=>by
  rw[<- ey];show av rk (mirror (arrOf v) lo (lo+x) ((lo+x-lo)/2)) (lo+i)<av rk (mirror (arrOf v) lo (lo+x) ((lo+x-lo)/2)) (lo+j);rw[Yw hz,Yw hz,if_pos "",if_pos ""]
  have:=u' (x-1-j) (x-1-i) "" ""
  rw[show lo+(lo+x)-1-(lo+i)=lo+(x-1-i)by lia,show lo+(lo+x)-1-(lo+j)=lo+(x-1-j)by lia]
  exact this
 refine wpS_bind (wpS_mono (wpS_forRange (λt c v=>v=y2/\c=(none,t)/\Upl rk y2 lo t) (Q:=λc v=>v=y2/\∃ t,c=(none,t)/\1<=t/\t<=n/\Upl rk y2 lo t) (λt c v lx hx hI=>?_) (λc v hI=>?_) #[rfl,rfl,u2]) λc v hc=>?_)
 .obtain⟨rfl,rfl,u3⟩:=hI
  try dsimp only
  refine wpS_bind (m2.ask T "" "" ?_)
  by_cases c:av rk (arrOf v) (lo+t)<av rk (arrOf v) (lo+t-1)
  .rw[tF c];exact wpS_pure #[rfl,t,rfl,"","",u3]
  rw[t6 c];have:=m2.ne T (i:=lo+t) (j:=lo+t-1) "" "" ""
  exact wpS_pure #[rfl,rfl,u3.more "" ""]
 .obtain⟨rfl,rfl,u3⟩:=hI;have e:max x n=n:=""
  rw[e]at u3 ⊢;exact#[rfl,n,rfl,h1,gy _,u3]
 obtain⟨rfl,t,rfl,t1,t2,u3⟩:=hc;exact wpS_pure (h t v m2 t1 t2 u3)
def qcd(T:Tells prog w A s kd rk ini)(m:Md kd ini pd hd z)(Z:hd[1]+n<=ini.size)(h2:ok<=n)(u:Upl rk z hd[1] ok)
  (h:∀ y,Md kd ini pd hd y->Upl rk y hd[1] n->Q true y):wpS (model prog w) A E s (binarySort' hd[1] n ok) Q z:=by
 generalize el:hd[1]=lo at *;refine wpS_bind (wpS_mono (wpS_forRange (λk c y=>c=(none,())/\Md kd ini pd hd y/\Upl rk y lo (min k n)) (Q:=λc y=>c=(none,())/\Md kd ini pd hd y/\Upl rk y lo n) (λk c y l1 l2 hI=>?_) (λc y hI=>?_) #[rfl,m,?_]) λc y hc=>?_)
 .obtain⟨rfl,m',u'⟩:=hI;have ek:min k n=k:=""
  rw[ek]at u';have ul:∀ i j,i<=j->j<k->av rk (arrOf y) (lo+i)<=av rk (arrOf y) (lo+j):=λi j a b=>by
   rcases bF i j with c|c
   .exact cR (u' i j c b)
   rw[show i=j by lia];exact pt _
  refine wpS_bind (wpS_mono (wpS_forRange (λx c v=>v=y/\∃ l r,c=(none,l,r)/\l<=r/\r<=k/\r-l<=k-x/\(∀ i,i<l->av rk (arrOf y) (lo+i)<av rk (arrOf y) (lo+k))/\∀ i,r<=i->i<k->av rk (arrOf y) (lo+k)<av rk (arrOf y) (lo+i))
   (Q:=λc v=>v=y/\∃ l r,c=(none,l,r)/\l<=k/\(∀ i,i<l->av rk (arrOf y) (lo+i)<av rk (arrOf y) (lo+k))/\∀ i,l<=i->i<k->av rk (arrOf y) (lo+k)<av rk (arrOf y) (lo+i))
   (λx c v _ lx hJ=>?_) (λc v hJ=>?_) #[rfl,0,k,rfl,"","","",λi hi=>by lia,λi a b=>by lia]) λc v hJ=>?_)
  .obtain⟨rfl,l,r,rfl,lr,O,U,B,hi⟩:=hJ
   try dsimp only
   by_cases ge:l≥r
   .rw[if_pos ge];have:l=r:=""
    subst this;exact wpS_pure #[rfl,l,l,rfl,O,B,hi]
   rw[if_neg ge];refine wpS_bind (m'.ask T "" "" ?_)
   have ne:=m'.ne T (i:=lo+k) (j:=lo+(l+r)/2) "" "" ""
   by_cases c:av rk (arrOf v) (lo+k)<av rk (arrOf v) (lo+(l+r)/2)
   .rw[tF c];refine wpS_pure #[rfl,l,(l+r)/2,rfl,"","","",B,λi a b=>?_]
    have:=ul ((l+r)/2) i a b;lia
   rw[t6 c];refine wpS_pure #[rfl,(l+r)/2+1,r,rfl,"","","",λi a=>?_,hi]
   have:=ul i ((l+r)/2) "" ""
   lia
  .obtain⟨rfl,l,r,rfl,lr,O,U,B,hi⟩:=hJ;have:l=r:=""
   subst this;exact#[rfl,l,l,rfl,O,B,hi]
  obtain⟨rfl,l,r,rfl,lk,B,hi⟩:=hJ
  try dsimp only
  have hz:lo+k<(arrOf v).size:=by rw[m'.sz];lia
  have gb:=λt=>getElem?_bubble hz (lo+k-(lo+l)) "" t
  refine wpS_bind (wpS_modify (wpS_pure #[rfl,m'.put (bubble_perm _ _ _) λi Y=>?_,?_]))
  .have:=gb i;rw[if_neg "",if_neg ""]at this
   exact this
  have e1:min (k+1) n=k+1:=""
  have e2:lo+k-(lo+k-(lo+l))=lo+l:=""
  rw[e1];intro i j a b;show av rk (bubble (arrOf v) (lo+k) (lo+k-(lo+l))) (lo+i)<av rk (bubble (arrOf v) (lo+k) (lo+k-(lo+l))) (lo+j);rw[Yv hz "",Yv hz "",e2]
  by_cases i1:i=l
  .rw[if_pos "",if_neg "",if_pos "",show lo+j-1=lo+(j-1)by lia]
   exact hi _ "" ""
  rw[if_neg ""]
  by_cases i2:l<i/\i<=k
  .rw[if_pos "",if_neg "",if_pos "",show lo+i-1=lo+(i-1)by lia,show lo+j-1=lo+(j-1)by lia]
   exact u' _ _ "" ""
  rw[if_neg ""]
  by_cases j1:j=l
  .rw[if_pos ""]
   exact B _ ""
  rw[if_neg ""]
  by_cases j2:l<j/\j<=k
  .rw[if_pos "",show lo+j-1=lo+(j-1)by lia]
   by_cases q:i<j-1
   .exact u' _ _ q ""
   lia
  rw[if_neg ""]
  exact u' _ _ a ""
 .obtain⟨hc,m',u'⟩:=hI;have e:min (max (max ok 1) n) n=n:=""
  rw[e]at u';exact#[hc,m',u']
 .exact λi j a b=>u i j a ""
 obtain⟨rfl,m',u'⟩:=hc;exact wpS_pure (h y m' u')
end
section
variable{prog:af}{w:World}{A:ag}{E:aa->ab->Prop}{s:ab}{kd:SortKind}{rk:aa->Int}{ini:Array aj}
def PM:Nat->List (Nat×Nat×Nat)->List (List aj)->Prop
 | _,[],[]=>True
 | off,p::pd,R::rs=>p.1=off/\p.2.1=R.length/\PM (off+R.length) pd rs
 | _,_,_=>False
theorem PM.len:∀{off} {pd} {rs},PM off pd rs->pd[1]=rs[1]
 | _,[],[],_=>rfl
 | _,p::pd,R::rs,h=>by rw[gK,gK,PM.len h.2.2]
 | _,[],_::_,h=>h.elim
 | _,_::_,[],h=>h.elim
theorem PM.split:∀{pre} {off} {pd} {rs},PM off pd (pre++rs)->∃ p1 p2,pd=p1++p2/\PM off p1 pre/\PM (off+pre.flatten.length) p2 rs
 | [],off,pd,rs,h=>#[[],pd,rfl,trivial,by simpa using h]
 | R::pre,off,[],rs,h=>h.elim
 | R::pre,off,p::pd,rs,h=>by
  obtain⟨h1,h2,h3⟩:=h;obtain⟨p1,p2,e,g1,g2⟩:=PM.split h3;refine#[p::p1,p2,by rw[e];rfl,#[h1,h2,g1],?_]
  rw[tQ,gG,<- add_assoc];exact g2
theorem PM.join:∀{pre} {off} {p1 p2} {rs},PM off p1 pre->PM (off+pre.flatten.length) p2 rs->PM off (p1++p2) (pre++rs)
 | [],off,[],p2,rs,_,h=>by simpa using h
 | [],off,_::_,p2,rs,h,_=>h.elim
 | R::pre,off,[],p2,rs,h,_=>h.elim
 | R::pre,off,p::p1,p2,rs,h,k=>by
  obtain⟨h1,h2,h3⟩:=h;rw[tQ,gG,<- add_assoc]at k;exact#[h1,h2,PM.join h3 k]
structure Rn(kd:SortKind)(rk:Value->Int)(ini:Array Keyed)(runs:List (List Keyed))(rest:List Keyed)(z:SortSt):Prop where
 ar:(arrOf z).toList=runs.flatten++rest
 pm:(arrOf z).Perm ini
 kd:kindOf z=kd
 fl:failedOf z=none
 ok:∀ R∈runs,1<=R.length/\Ris rk R
 st:PM 0 (pendingOf z).toList runs
def Rn.merge{B:List (List aj)}{rest:List aj}{i:Nat}{Q:Bool->am->Prop}(T:Tells prog w A s kd rk ini)(R:Rn kd rk ini B rest z)(hi:i+1<B[1])
  (h:∀ y rs,rs.flatten.length=B.flatten.length->rs[1]+1=B[1]->Rn kd rk ini rs rest y->Q true y):wpS (model prog w) A E s (mergeAt' i) Q z:=by
 have e1:B=B.take i++(B[i]::B[i+1]::B.drop (i+2)):=by
  simp
 generalize hp:B.take i=pre at e1;generalize B[i]=X at e1;generalize B[i+1]=Y at e1;generalize B.drop (i+2)=post at e1;have pl:pre[1]=i:=by rw[<- hp,tB];lia
 have O:=R.ok X (by rw[e1];simp)
 have okY:=R.ok Y (by rw[e1];simp)
 have st:=R.st;rw[e1]at st;obtain⟨p1,p2,ep,g1,g2⟩:=st.split;have l1:=g1.len;cases p2 with
 | nil=>exact g2.elim
 | cons q1 p2 =>
  cases p2 with
  | nil=>exact g2.2.2.elim
  | cons q2 p3 =>
   obtain⟨a1,a2,b1,b2,g3⟩:=g2;have x1:(pendingOf z)[i]?=!(pre.flatten.length,X[1],q1.2.2):=by
    have e:(pendingOf z)[i]?=(pendingOf z).toList[i]?:=by simp
    rw[e,ep,hU "",show i-p1[1]=0 by lia]
    grind
   have x2:(pendingOf z)[i+1]?=!(pre.flatten.length+X[1],Y[1],q2.2.2):=by
    have e:(pendingOf z)[i+1]?=(pendingOf z).toList[i+1]?:=by simp
    rw[e,ep,hU "",show i+1-p1[1]=1 by lia]
    obtain⟨u,v,t⟩:=q2;simp at b1 b2 ⊢;exact#[b1,b2]
   refine qcb (P:=pre.flatten) (X:=X) (Y:=Y) (R:=post.flatten++rest) T R.kd R.fl (by rw[R.ar,e1];simp) (fF.mp R.pm) O.1 okY.1 O.2 okY.2 x1 x2 λy M U uM Z kM fM pM=>?_
   have ml:M[1]=X[1]+Y[1]:=by rw[U.length_eq,gG]
   refine h y (pre++(M::post)) (by rw[e1];simp;lia) (by rw[e1];simp;lia) #[by rw[Z];simp,?_,kM,fM,λS hS=>?_,?_]
   .refine fF.mpr (List.Perm.trans ?_ (fF.mp R.pm));rw[Z,R.ar,e1];simp[List.flatten_append,tQ,t7];refine pW _ ?_;rw[<- t7 X Y];exact U.append_right _
   .rcases gD.mp hS with hS|hS
    .exact R.ok S (by rw[e1];exact t5 _ hS)
    rcases gE.mp hS with rfl|hS
    .exact#[by have:=O.1;lia,uM]
    exact R.ok S (by rw[e1];simp[hS])
   have ep2:(pendingOf y).toList=p1++((pre.flatten.length,X[1]+Y[1],q1.2.2)::p3):=by
    rw[pM];have:(((pendingOf z).setIfInBounds i (pre.flatten.length,X[1]+Y[1],q1.2.2)).eraseIdxIfInBounds (i+1)).toList=((pendingOf z).toList.set i (pre.flatten.length,X[1]+Y[1],q1.2.2)).eraseIdx (i+1):=by
     simp[Array.toList_eraseIdxIfInBounds]
    rw[this,ep,List.set_append_right _ _ "",show i-p1[1]=0 by lia,fT,List.eraseIdx_append_of_length_le "",show i+1-p1[1]=1 by lia]
    rfl
   rw[ep2];refine g1.join #[by rw[pE],ml.symm,?_]
   rw[ml,<- add_assoc];exact g3
theorem PM.repower:∀{off} {pd} {rs} f k,(∀ p,(f p).1=p.1/\(f p).2.1=p.2.1)->PM off pd rs->PM off (pd.modify k f) rs
 | _,[],[],f,k,_,_=>by simp[PM]
 | _,[],_::_,f,k,_,h=>h.elim
 | _,_::_,[],f,k,_,h=>h.elim
 | off,p::pd,R::rs,f,0,hf,h=>by
  obtain⟨h1,h2,h3⟩:=h;exact#[(hf p).1.trans h1,(hf p).2.trans h2,h3]
 | off,p::pd,R::rs,f,k+1,hf,h=>by
  obtain⟨h1,h2,h3⟩:=h;exact#[h1,h2,PM.repower f k hf h3]
theorem Ko:∀{rs:List (List aj)},(∀ R∈rs,1<=R.length)->rs[1]<=rs.flatten.length
 | [],_=>gy _
 | R::rs,h=>by
  have b:=Ko λS hS=>h S (gj _ hS)
  grind
def qce(m:Md kd ini pd hd y)(B:hd[1]+n<=ini.size)(u:Upl rk y hd[1] n):∃ N rest,(arrOf y).toList=hd++(N++rest)/\N[1]=n/\Ris rk N:=by
 have e:(arrOf y).toList.length=ini.size:=by simp;exact m.sz
 refine#[((arrOf y).toList.drop hd[1]).take n,((arrOf y).toList.drop hd[1]).drop n,?_,?_,?_]
 .rw[tL]
  conv=>lhs;rw[<- tL hd[1] (arrOf y).toList,m.hd]
 .grind
 refine tU.mpr ?_;intro i j hi hj z;rw[tB]at hi hj;have:=u i j z ""
 rw[zu (by rw[m.sz];lia),zu (by rw[m.sz];lia)]at this
 simpa using this
def qcf [Decidable c]{a b n:Nat}(h1:a<=n)(h2:b<=n):(if c then a else b)<=n:=by by_cases h:c<;>simp[h,h1,h2]
def qcg{f:Nat->StateT σ Sem α}{P:Nat->σ->Prop}{x:StateT σ Sem α}{Q:α->σ->Prop}{st:σ}(h:∀ r y,P r y->wpS M A E s (f r) Q y)(k:(∀ r y,P r y->wpS M A E s (f r) Q y)->wpS M A E s x Q st):wpS M A E s x Q st:=k h
def qch{st:am}{Q:Unit->am->Prop}(T:Tells prog w A s kd rk ini)(p0:(arrOf st).Perm ini)(k0:kindOf st=kd)(f0:failedOf st=none)(d0:pendingOf st=#[])
  (h:∀ z,(arrOf z).Perm ini->failedOf z=none->Ris rk (arrOf z).toList->Q () z):wpS (model prog w) A E s sortRuns' Q st:=by
 refine wpS_bind (bK ?_);have sz0:(arrOf st).size=ini.size:=p0.size_eq;rw[show(arrOf st).size=ini.size from sz0]
 have R0:Rn kd rk ini [] (arrOf st).toList st:=#[rfl,p0,k0,f0,(λ_ hr=>nomatch hr),by rw[d0];trivial]
 refine wpS_bind (wpS_mono (wpS_forRange (λx c z=>∃ lo B rest,c=(none,lo)/\Rn kd rk ini B rest z/\lo=B.flatten.length/\x<=lo) (Q:=λc z=>c.1=none/\∃ B,Rn kd rk ini B [] z) (λx c z _ lx hI=>?_) (λc z hI=>?_) #[0,[],_,rfl,R0,rfl,gy _]) λc z hc=>?_)
 .obtain⟨lo,B,rest,rfl,R,rfl,hx⟩:=hI;have zl:(arrOf z).toList.length=ini.size:=by simp;exact R.pm.size_eq
  have ll:B.flatten.length+rest[1]=ini.size:=by rw[<- zl,R.ar,gG]
  by_cases c:B.flatten.length≥ini.size
  .rw[if_pos c];have er:rest=[]:=f9.mp ""
   subst er;exact wpS_pure #[rfl,B,R]
  rw[if_neg c];have M0:Md kd ini (pendingOf z) B.flatten z:=#[R.pm,R.kd,R.fl,rfl,by rw[R.ar,List.take_left]]
  refine wpS_bind (qcc T M0 "" "" λr y my r1 r2 uy=>?_)
  try dsimp -zeta -zetaHave only
  extract_lets n0 jp force0
  refine qcg (f:=jp ()) (P:=λO y=>Md kd ini (pendingOf z) B.flatten y/\Upl rk y B.flatten.length O/\1<=O/\B.flatten.length+O<=ini.size) ?_ λK=>?_
  .intro O y ⟨my,uy,fo1,hrun⟩;refine wpS_bind (bK ?_);obtain⟨N,U,ey,nl,un⟩:=qce my hrun uy;have Ry:Rn kd rk ini B (N++U) y:=#[ey,my.pm,my.kd,my.fl,R.ok,by rw[my.pn];exact R.st]
   have Y:∀ v rs,Rn kd rk ini rs (N++U) v->rs.flatten.length=B.flatten.length->Rn kd rk ini (rs++[N]) U (setPending v ((pendingOf v).push (B.flatten.length,O,0))):=λv rs Rv hl=>by
    refine#[by rw[show arrOf (setPending v ((pendingOf v).push (B.flatten.length,O,0)))=arrOf v from rfl,Rv.ar];simp,Rv.pm,Rv.kd,Rv.fl,λS hS=>?_,?_]
    .rcases gD.mp hS with hS|hS
     .exact Rv.ok S hS
     rw[tT.mp hS];exact#["",un]
    show PM 0 ((pendingOf v).push (B.flatten.length,O,0)).toList (rs++[N]);rw[cT];exact Rv.st.join #[by rw[pE];exact hl.symm,nl.symm,trivial]
   have fl2:∀ rs,rs.flatten.length=B.flatten.length->(rs++[N]).flatten.length=B.flatten.length+O:=λrs hl=>by rw[List.flatten_append,gG,hl,tQ,List.flatten_nil,tM,nl]
   cases hb:(pendingOf y).back? with
   | none =>
    try rw[hb]
    exact wpS_bind (wpS_modify (wpS_pure #[_,_,_,rfl,Y y B Ry rfl,(fl2 B rfl).symm,""]))
   | some q =>
    try rw[hb]
    obtain⟨s1,n1,w1⟩:=q
    try dsimp only
    refine wpS_bind (wpS_mono (wpS_forRange (λ_ c v=>c=(none,())/\∃ rs,Rn kd rk ini rs (N++U) v/\rs.flatten.length=B.flatten.length) (Q:=λc v=>c=(none,())/\∃ rs,Rn kd rk ini rs (N++U) v/\rs.flatten.length=B.flatten.length) (λx2 c v _ _ hK=>?_) (λc v hK=>hK) #[rfl,B,Ry,rfl]) λc v hc=>?_)
    .obtain⟨rfl,rs,Rv,hl⟩:=hK;refine wpS_bind (bK ?_);have pl:(pendingOf v).size=rs[1]:=by rw[<- Rv.st.len];simp
     by_cases c:(pendingOf v).size>1
     .rw[if_pos c];have g:(pendingOf v)[(pendingOf v).size-2]?=!((pendingOf v)[(pendingOf v).size-2]'""):=pi _ _ ""
      rw[g];generalize ((pendingOf v)[(pendingOf v).size-2]'"")=q
      obtain⟨u1,u2,u3⟩:=q
      try dsimp only
      refine jS (λ_=>wpS_pure #[rfl,rs,Rv,hl]) λ_=>?_
      have hm:(pendingOf v).size-2+1<rs[1]:=""
      refine wpS_bind (Rv.merge T hm λv2 Z e1 e2 Rv2=>?_)
      exact wpS_pure #[rfl,Z,Rv2,e1.trans hl]
     rw[if_neg c];exact wpS_pure #[rfl,rs,Rv,hl]
    obtain⟨rfl,rs,Rv,hl⟩:=hc
    try dsimp only
    refine wpS_bind (wpS_modify (wpS_bind (wpS_modify (wpS_pure #[_,_,_,rfl,Y _ rs #[Rv.ar,Rv.pm,Rv.kd,Rv.fl,Rv.ok,?_] hl,(fl2 rs hl).symm,""]))))
    show PM 0 ((pendingOf v).modify ((pendingOf v).size-1) _).toList rs;rw[Array.toList_modify];exact Rv.st.repower _ _ (λp=>#[rfl,rfl])
  refine jS (λc2=>?_) λ_=>?_
  .refine wpS_bind (bY (pG #[rfl,?_]));have f1:r<=force0:=by
    show r<=min _ _;have c3:r<_:=c2;lia
   have f2:force0<=ini.size-B.flatten.length:=Nat.min_le_left _ _;refine wpS_bind (qcd T my "" f1 uy λy my uy=>?_)
   rw[if_neg "d"]
   exact K _ _ #[my,uy,"",""]
  exact K _ _ #[my,uy,"",""]
 .obtain⟨lo,B,rest,rfl,R,rfl,hx⟩:=hI;have zl:(arrOf z).toList.length=ini.size:=by simp;exact R.pm.size_eq
  have ll:B.flatten.length+rest[1]=ini.size:=by rw[<- zl,R.ar,gG]
  have er:rest=[]:=f9.mp ""
  subst er;exact#[rfl,B,R]
 obtain⟨c1,B,R⟩:=hc;rw[c1]
 try dsimp only
 have zl:(arrOf z).toList.length=ini.size:=by simp;exact R.pm.size_eq
 have ll:B.flatten.length=ini.size:=by rw[<- zl,R.ar,tM]
 refine wpS_bind (wpS_mono (wpS_forRange (λx c v=>c=(none,())/\∃ rs,Rn kd rk ini rs [] v/\(rs[1]<=1\/rs[1]+x<=ini.size)) (Q:=λc v=>c=(none,())/\∃ rs,Rn kd rk ini rs [] v/\rs[1]<=1) (λx c v _ lx hK=>?_) (λc v hK=>?_) #[rfl,B,R,.inr (by have:=Ko λS hS=>(R.ok S hS).1;lia)]) λc v hc=>?_)
 .obtain⟨rfl,rs,Rv,hl⟩:=hK;refine wpS_bind (bK ?_);have pl:(pendingOf v).size=rs[1]:=by rw[<- Rv.st.len];simp
  try dsimp only
  by_cases c:(pendingOf v).size<=1
  .rw[if_pos c];exact wpS_pure #[rfl,rs,Rv,""]
  rw[if_neg c];generalize hij:(if (Option.any _ _)=true then _ else _)=ij
  have hlt:ij+1<rs[1]:=by
   have:ij<=(pendingOf v).size-2:=by
    rw[<- hij];exact qcf (Nat.sub_le_sub_left (show 2<=3 by decide) _) (gy _)
   lia
  refine wpS_bind (Rv.merge T hlt λv2 Z e1 e2 Rv2=>?_)
  exact wpS_pure #[rfl,Z,Rv2,.inr ""]
 .obtain⟨hc,rs,Rv,hl⟩:=hK;exact#[hc,rs,Rv,""]
 obtain⟨rfl,rs,Rv,hl⟩:=hc;refine wpS_pure (h v Rv.pm Rv.fl ?_);rw[Rv.ar,tM];cases rs with
 | nil=>exact List.Pairwise.nil
 | cons S rs =>
  have:rs=[]:=f9.mp (by rw[gK]at hl;lia)
  subst this;rw[tQ,List.flatten_nil,tM];exact(Rv.ok S "s").2
end
section
variable{prog:af}{w:World}{A:ag}{E:aa->ab->Prop}{s:ab}
def qci{n:Nat}(B:a.size=n)(h:Ris rk a[2]):∀ i j,i<=j->j<n->av rk a i<=av rk a j:=by
 intro i j z hj;rw[zu "",zu ""]
 rcases Nat.eq_or_lt_of_le z with e|e
 .simp_all
 have:=tU.mp h i j (by simp;lia) (by simp;lia) e
 simp[Array.getElem_toList]at this;lia
def qcj{n:Nat}{P:Fin->ab->Prop}(Z:s.heap.get? a=!(seqObj "list" vs.toArray n))(R:Rows s.heap vs)(na:.ref a∉vs)(nd:(vs.map (qQ s.heap)).Nodup)(h64:vs[1]<=5000)
  (h:∀ us:List aa,us.Perm vs->(us.map (qQ s.heap)).Pairwise (λx y=>HT.lexLt y x=false)->P (.done (.ret .none)) {s with heap:=sortedHeap s.heap a vs us.toArray}) :
  wpAny (model prog w) A (Builtin.«list.sort» #[[.ref a],[]]) P E s:=by
 have la:a<s[0]:=gP Z;rw[list_sort_plain];refine g6 (listItems_at Z rfl (g6 (listUpdate_at Z rfl ?_)));obtain⟨c1,o1⟩:∃ c1,(s.heap.update a (Obj.mapSeq λ_=>#[])).get? a=!(seqObj "list" #[] c1):=#[_,get?_update_seq Z λ_=>#[]]
 refine g6 (seqEpoch_at o1 rfl (g6 (wpAny_newTuple (g6 (wpAny_newList (fB ?_))))));show wpAny (model prog w) A _ P E {s with heap:=((s.heap.update a (Obj.mapSeq λ_=>#[])).push (seqObj "tuple" vs.toArray 0)).push (seqObj "list" #[] 0)}
 generalize eM:((s.heap.update a (Obj.mapSeq λ_=>#[])).push (seqObj "tuple" vs.toArray 0)).push (seqObj "list" #[] 0)=hM
 have old:∀ b o,b≠a->s.heap.get? b=!o->hM.get? b=!o:=λb o ne e=>by
  have lb:=gP e;rw[<- eM,cx _ _ _ (by rw[size_push',d7];exact t3 (dM lb)),cx _ _ _ (by rw[d7];exact t3 lb),Heap.get?_update_ne _ _ _ _ ne]
  exact e
 have o2:hM.get? a=!(seqObj "list" #[] c1):=by
  rw[<- eM,cx _ _ _ (by rw[size_push',d7];exact t3 (dM la)),cx _ _ _ (by rw[d7];exact t3 la)]
  exact o1
 have B:∀ v∈vs,∃ b its ns,v=.ref b/\IsTup s.heap b its.toArray/\IsTup hM b its.toArray/\IntsAre its ns/\ns≠[]:=λv hv=>by
  obtain⟨b,its,ns,e,⟨o,e2,c⟩,q,nn⟩:=R v hv;refine#[b,its,ns,e,#[o,e2,c],#[o,old b o (λz=>?_) e2,c],q,nn]
  subst z e;exact na hv
 have R2:Rows hM vs:=λv hv=>let #[b,its,ns,e,_,p,q,nn]:=B v hv;#[b,its,ns,e,p,q,nn]
 dsimp only;have O:∀ st,(arrOf st).Perm (pairsOf vs)->(∀ i j,i<=j->j<(pairsOf vs).size->av (λv=>vh (vs.map (qQ s.heap)) (qQ s.heap v)) (arrOf st) i<=av (λv=>vh (vs.map (qQ s.heap)) (qQ s.heap v)) (arrOf st) j) ->
   P (.done (.ret .none)) {s with heap:=hM.update a (Obj.mapSeq λ_=>(arrOf st).map (·.2))}:=λst pm up=>by
  have hp:(arrOf st).toList.Perm (vs.zip vs):=by rw[<- pairsOf_toList];exact fF.mp pm
  have mem:∀ p∈(arrOf st).toList,p.1=p.2/\p.1∈vs:=λp U=>mem_zip_self (hp.mem_iff.mp U)
  have e2:((arrOf st).map (·.2)).toList=(arrOf st).toList.map (·.1):=by
   rw[Array.toList_map];exact gZ λp U=>(mem p U).1.symm
  have pv:((arrOf st).map (·.2)).toList.Perm vs:=by
   rw[e2];have:=hp.map Prod.fst
   rwa [List.map_fst_zip (gy _)]at this
  have q:=h ((arrOf st).map (·.2)).toList pv (by
   rw[e2,gH,tY,tU];intro i j hi hj hij;have hi':i<(arrOf st).size:=by simpa using hi
   have Y:j<(arrOf st).size:=by simpa using hj
   have u:=up i j (cM hij) (by rw[<- pm.size_eq];exact Y)
   unfold av at u;rw[pi _ i hi',pi _ j Y]at u;dsimp only at u;show HT.lexLt (qQ s.heap (arrOf st).toList[j].1) (qQ s.heap (arrOf st).toList[i].1)=false;cases el:HT.lexLt (qQ s.heap (arrOf st).toList[j].1) (qQ s.heap (arrOf st).toList[i].1)with
   | false=>rfl
   | true =>
    have mj:=(mem (arrOf st).toList[j] (tR _)).2;have:=(QE (rs:=vs.map (qQ s.heap)) (gJ.mpr #[_,mj,rfl])).mpr el;simp[Array.getElem_toList]at this;lia)
  rw[Array.toArray_toList]at q;have:sortedHeap s.heap a vs ((arrOf st).map (·.2))=hM.update a (Obj.mapSeq λ_=>(arrOf st).map (·.2)):=by unfold sortedHeap;rw[eM]
  rw[<- this];exact q
 have hz:vs.toArray.size=vs[1]:=by simp
 by_cases c2:vs.toArray.size<2
 .rw[if_pos c2,if_pos c2];refine g6 (gu ?_);rw[StateT.run_pure];refine g6 (gu ?_);dsimp only;refine g6 (seqEpoch_at o2 rfl (g6 (listUpdate_at o2 rfl ?_ (hsz2:=by rw[Array.size_map];show(pairsOf vs).size<=_;rw[pairsOf_size,pp];lia))))
  simp only[bne_self_eq_false,tS,pZ];refine gu (O (SortSt.mk' general' (vs.toArray.zip vs.toArray) #[] 7 none) (Array.Perm.refl _) λi j l1 l2=>?_)
  rw[pairsOf_size]at l2;have:i=j:=""
  subst this;exact pt _
 rw[if_neg c2,if_neg c2];have hv:vs≠[]:=λz=>by subst z;simp at c2
 refine g6 (qaV R2 hv ?_);have T:Tells prog w A {s with heap:=hM} (tuples' true) (λv=>vh (vs.map (qQ s.heap)) (qQ s.heap v)) (pairsOf vs):=by
  refine#[λp hp q hq E Q hQ=>?_,?_]
  .rw[pairsOf_toList]at hp hq;have mp:=(mem_zip_self hp).2;have mq:=(mem_zip_self hq).2;obtain⟨b1,i1,n1,e1,p1,p1',q1,_⟩:=B _ mp;obtain⟨b2,i2,n2,e2,p2,p2',q2,_⟩:=B _ mq;have r1:=wH p1 q1;have r2:=wH p2 q2;rw[e1,e2]at hQ ⊢;refine qaU p1' p2' q1 q2 ?_;have:=QE (rs:=vs.map (qQ s.heap)) (a:=qQ s.heap (.ref b1)) (b:=qQ s.heap (.ref b2)) (gJ.mpr #[_,mp,by rw[e1]])
   rw[r1,r2]at this;rw[r1,r2]at hQ;have e3:decide (vh (vs.map (qQ s.heap)) n1<vh (vs.map (qQ s.heap)) n2)=HT.lexLt n1 n2:=by
    cases el:HT.lexLt n1 n2 with
    | true=>exact tF (this.mpr el)
    | false=>exact t6 λz=>by rw[this.mp z]at el;cases el
   rw[e3]at hQ;exact hQ
  rw[pairsOf_toList];have e:(vs.zip vs).map (λp=>vh (vs.map (qQ s.heap)) (qQ s.heap p.1))=(vs.map (qQ s.heap)).map (vh (vs.map (qQ s.heap))):=by
   have:(vs.zip vs).map (λp=>vh (vs.map (qQ s.heap)) (qQ s.heap p.1))=((vs.zip vs).map Prod.fst).map λv=>vh (vs.map (qQ s.heap)) (qQ s.heap v):=by rw[gH];rfl
   rw[this,List.map_fst_zip (gy _),gH];rfl
  rw[e];show List.Pairwise _ _;rw[tY];refine dm (λ{x y} hx hy ne z=>?_) nd
  have k1:=QE (rs:=vs.map (qQ s.heap)) (b:=y) hx;have k2:=QE (rs:=vs.map (qQ s.heap)) (b:=x) hy;refine ne (xZ ?_ ?_)
  .cases el:HT.lexLt x y with
   | false=>rfl
   | true=>have:=k1.mpr el;lia
  cases el:HT.lexLt y x with
  | false=>rfl
  | true=>have:=k2.mpr el;lia
 refine g6 (c6 (qch (E:=E) (st:=SortSt.mk' (tuples' true) (vs.toArray.zip vs.toArray) #[] 7 none) (ini:=pairsOf vs)
  (Q:=λ_ z=>(arrOf z).Perm (pairsOf vs)/\failedOf z=none/\Ris (λv=>vh (vs.map (qQ s.heap)) (qQ s.heap v)) (arrOf z).toList) T (Array.Perm.refl _) rfl rfl rfl λz a1 a2 a3=>#[a1,a2,a3]) ?_ λ_ _ e=>e)
 rintro⟨⟨⟩,z⟩ s' ⟨rfl,pm,fl,up⟩;dsimp only;refine g6 (seqEpoch_at o2 rfl (g6 (listUpdate_at o2 rfl ?_ (hsz2:=by refine tV (Nat.le_of_eq ((Array.size_map ..).trans (pm.size_eq.trans (pairsOf_size _)))) ?_;rw[pp];lia))))
 rw[fl];simp[bne_self_eq_false,tS,pZ];exact gu (O z pm (qci (by rw[pm.size_eq]) up))
def qck(Y:s.heap.IsList l vs.toArray)(R:Rows s.heap vs)(Z:(vs.map (qQ s.heap)).Nodup)(O:vs[1]<=5000)
  (h:∀ us:List aa,us.Perm vs->(us.map (qQ s.heap)).Pairwise (λx y=>HT.lexLt y x=false)->Q (.ref (s[0]+1)) {s with heap:=sortedAll s.heap vs us.toArray}) :
  wpAny (model prog w) A (call (.builtin "sorted") [.ref l]) Q E s:=by
 refine Calls.call_function_entry kind_sorted plain_sorted entry_sorted (args_sorted1 _) ?_;refine g6 (m:=checkCount "sorted" 1 1 _) (gu (g6 (collect_list Y (g6 (wpAny_newList ?_)) (by rw[pp];lia))))
 have z1:((s.heap.push (seqObj "list" #[] 0)).update s[0] (Obj.mapSeq (·++vs.toArray))).objs.size=s[0]+1:=by rw[d7,size_push']
 show wpAny _ _ _ _ _ {s with heap:=((s.heap.push (seqObj "list" #[] 0)).update s[0] (Obj.mapSeq (·++vs.toArray))).push (seqObj "list" vs.toArray 0)}
 rw[z1];generalize eM:((s.heap.push (seqObj "list" #[] 0)).update s[0] (Obj.mapSeq (·++vs.toArray))).push (seqObj "list" vs.toArray 0)=hM
 have o1:hM.get? (s[0]+1)=!(seqObj "list" vs.toArray 0):=by
  rw[<- eM,<- z1];exact gM _ rfl
 have U:∀ b o,s.heap.get? b=!o->hM.get? b=!o:=λb o e=>by
  have lb:=gP e;rw[<- eM,cx _ _ _ (by rw[z1];exact t3 (dM lb)),Heap.get?_update_ne _ _ _ _ (t3 lb),cx _ _ _ (t3 lb)]
  exact e
 obtain⟨R2,B⟩:=R.stay U;have mp:vs.map (qQ hM)=vs.map (qQ s.heap):=gZ B;have na:Value.ref (s[0]+1)∉vs:=λz=>by
  obtain⟨a,its,ns,e,⟨o,e2,_⟩,_⟩:=R _ z;cases e;exact absurd (gP e2) (Nat.not_lt.mpr (bw _))
 refine g6 (fB (fL slot_list_sort #[_,o1,rfl] entry_list_sort ?_ (args_list_sort _)));refine qcj (s:={s with heap:=hM}) o1 R2 na (by rw[mp];exact Z) O λus pm up=>#[_,rfl,gu #[_,rfl,?_]]
 have q:=h us pm (by
  have:us.map (qQ hM)=us.map (qQ s.heap):=gZ λv hv=>B v (pm.mem_iff.mp hv)
  rw[<- this];exact up)
 unfold sortedAll at q;rw[eM]at q;exact q
end
def vZ:List D->R En
 | [.lst ds]=>(match vE ds with
  | some rs=>if rs.Nodup/\rs[1]<=5000/\[]∉rs then .ok (.lst ((jh rs).map qM))[9]else .stuck
  | none=>.stuck)
 | _=>.stuck
section
variable{X:Cx}{F0 H0:Hp}
def ZW:zF X (.builtin "sorted") vZ:=by
 intro pins s σ F H xs us ds Q I l rx qx w;cases qx with
 | nil=>cases w
 | @cons x d xs ds q1 q2 =>
  cases q2 with
  | cons _ _=>cases d<;>exact w.elim
  | nil =>
   cases d<;>first|exact w.elim|skip
   rename_i ds;unfold vZ at w;dsimp only at w;cases e:vE ds with
   | none=>rw[e]at w;cases w
   | some rs =>
    rw[e]at w;dsimp only at w;by_cases c:rs.Nodup/\rs[1]<=5000/\[]∉rs
    .rw[if_pos c]at w;obtain⟨p,vs,rfl,hq,O⟩:=RdV.lst l q1;cases rx with
     | cons r1 r2 =>
      cases r2;cases r1;obtain⟨its,rv,pl,hz⟩:=I.list hq;obtain⟨m,k⟩:=ZD I l e O rv;have len:its[1]=rs[1]:=by rw[<- m,gg]
      refine qck pl.isList (λv hv=>?_) (by rw[m];exact c.1) (by rw[len];exact c.2.1) λys pm up=>?_
      .obtain⟨a,i2,ns,e,p1,p2,_,p4⟩:=k v hv;exact#[a,i2,ns,e,p1,p2,λz=>c.2.2 (z▸p4)]
      have em:=ZC ((pm.map _).trans (by rw[m];exact(wG rs).symm)) up (QD rs)
      have go:∀ zs,(∀ u∈zs,u∈its)->Vals (zs.map toV) zs/\Reps (kx X) F (zs.map toV) ((zs.map (qQ s.heap)).map qM):=by
       intro zs
       induction zs with
       | nil=>intro _;exact#[.nil,rfl]
       | cons z zs ih =>
        intro hz;obtain⟨i1,i2⟩:=ih λu hu=>hz u (gj _ hu)
        obtain⟨a,i3,ns,rfl,p1,p2,p3,_⟩:=k z (hz z tj);refine#[.cons rfl i1,#[.ref a,_,rfl,?_,i2]];rw[wH p1 p2];exact p3
      obtain⟨g1,g2⟩:=go ys λu hu=>pm.mem_iff.mp hu
      rw[em]at g2;obtain⟨c',he⟩:=sortedAll_at s.heap its ys.toArray;have hp:H (s[0]+1)=none:=I.hok.fresh (bw _);have B:(ys.map toV)[1]<=sizeLine:=by
       rw[gg,pm.length_eq,pp];lia
      refine#[.ref (s[0]+1),upd H (s[0]+1) (.lst (ys.map toV)),I.laid (λb o q=>sortedAll_old q) (bw _) #[B,ys,c',g1,he],rfl,?_]
      exact w _ _ _ (Gr.new l hp) #[_,_,rfl,hp,Le.none l hp,qH,g2]
    rw[if_neg c]at w;exact w.elim
end
def yF(z:List Int):List Int:=z.foldl step_dedup []
def QY:D->R En
 | .lst ds=>(match jR ds with
  | some ns=>if ns[1]<=4000 then okI (yF ns)[1] else .stuck
  | none=>.stuck)
 | _=>.stuck
def ZX(f:EF):EF:=λρ=>(f ρ).bind λw=>QY w.d
def Kp(ns):firstMet (λi=>ns.getD i 0) ns[1]=yF ns:=by
 unfold firstMet;congr 1;refine List.ext_getElem "s" λi h1 h2=>?_
 simp_all
def qcl(ns):(yF ns)[1]<=ns[1]:=by
 rw[<- Kp];exact firstMet_length_le _ _
section
variable{X:Cx}{F0 H0:Hp}{pos pos2 p p2:Pos}
def qcm(he:"S" e f)(hm:X.mg "len"=none)(O:X.mg "set"=none)(hc:(X.calm=true)["r"])(hg:(Gl X "len")["r"])(U:(Gl X "set")["r"])
  (h1:(starEach [Expr.Call (.Name "set" p2) [e] [] pos2] X.env=[(false,eval (Expr.Call (.Name "set" p2) [e] [] pos2) X.env)])["r"])
  (h2:(starEach [e] X.env=[(false,eval e X.env)])["r"]) :
  "S" (.Call (.Name "len" p) [.Call (.Name "set" p2) [e] [] pos2] [] pos) (ZX f):=by
 refine λpins s σ F H ρ Q S I h=>fw (zD I hg hm (show bootBuiltins (Str.ofString "len")=↑(.builtin "len")by rfl) ?_)
 refine cz ?_ (by rw[h1];rfl) rfl
 refine hZ ?_;refine fw (zD I U O (show bootBuiltins (Str.ofString "set")=↑(.type "set")by rfl) ?_)
 refine tu ?_ (by rw[h2];rfl) rfl
 rw[h2];refine hZ (he pins s σ F H ρ _ S I ((KE.bind h).imp λwx k1 v u F1 H1 s1 g1 q1 r1 I1=>tH ?_))
 have qx:=Vok.rd q1;have z:=wQ g1 k1
 revert z qx
 generalize wx.d=dx;intro qx z;cases dx<;>first|exact z.elim|skip
 rename_i ds;unfold QY at z;dsimp only at z;cases ei:jR ds with
 | none=>rw[ei]at z;exact z.elim
 | some ns =>
  rw[ei]at z;dsimp only at z;by_cases c:ns[1]<=4000
  .rw[if_pos c]at z;obtain⟨a,vs,rfl,hq,rs⟩:=RdV.lst g1.s qx;have ev:=yu ei rs;subst ev;cases r1;obtain⟨its,rv,pl,hz⟩:=I1.list hq;have hi:IntsAre its ns:=yZ rv;have B:its[1]=ns[1]:=IntsAre.length hi;refine call_set_list (I1.ok.hd hc) pl.isList hi[""] (by rw[gU,B];unfold scanBound;lia) λh' tk hS hk=>?_
   have Y:its.toArray.size=ns[1]:=by rw[gU,B]
   rw[Y,Kp]at hS;refine tH ?_;obtain⟨o,ho,Z,es,ep,t,hd,_,_,hn,hf⟩:=hS.objOf;have hle:=qcl ns;have I2:"I" H1 {s1 with heap:=h',toks:=tk}:=I1.kept (λb o q=>hk b o (gP q) q)
   refine v9 (pins:=pins) (σ:=σ) (call_len_set ho Z hd hf (by rw[hn];lia) ?_)
   rw[hn];exact#[.int _,H1,I2.tok _,#[_,rfl],jj (X:=X) g1.s (v:=.int _) z rfl]
  rw[if_neg c]at z;exact z.elim
end
theorem ZY:∀{vs} {ws},(ws.all λw=>match w with|.fz _=>true|_=>false)=true->Args κ F H vs ws->Args κ F G vs ws
 | _,[],_,h=>h
 | _,.fz d::ws,c,h=>by
  obtain⟨v,r,e,h1,h2⟩:=h;exact#[v,r,e,h1,ZY c[""] h2]
 | _,.br d::ws,c,h=>by simp at c
 | _,.ow d::ws,c,h=>by simp at c
 | _,.lk d::ws,c,h=>by simp at c
 | _,.od d::ws,c,h=>by simp at c
def ioD(a:Addr)(d:D):En:=.od (.tup [.int (a:Int),d])
def spI(κ:Kx)(dn:Den)(n:Nat):Sp:=λvs H Q _=>vs[1]=n/\∃ F a o d pre post v1 v2,vs=v1++.ref a::v2/\Le F (but H a)/\H a=!o/\OwnO κ F o d/\Args κ F (but H a) v1 pre/\Args κ F (but H a) v2 post /\
 KE (λ_=>False) (dn (pre++ioD a d::post)) λw=>∀ v F' H',Gr F (but H a) F' H'->Vok κ (but H a) F' H' v w->Q v H'
def qcn{w:En}(h:Eok κ H0 F H v w)(o:w.own=false):Eok κ H0 F H' v w:=by
 cases w with
 | fz d=>exact h
 | ow d=>cases o
 | lk d=>exact h
 | br d=>exact h
 | od d=>cases o
def qco{F H:Hp}{N:List Str}(l:Le F (but H a))(O:H a=!o)(U:OwnO κ F o d)(h1:Args κ F (but H a) v1 pre)(h2:Args κ F (but H a) v2 post) :
  StOk κ F (but H a) F H ((pre++ioD a d::post).map some++List.replicate (N[1]-(pre++ioD a d::post)[1]) none) (L2.zm N (v1++.ref a::v2)):=by
 have l1:=xO h1;have l2:=xO h2;have fa:F a=none:=Le.none l uh;have sv:∀ i v,(v1++.ref a::v2)[i]?=!v->(L2.zm N (v1++.ref a::v2))[i]?=!(!v):=λi v e=>by
  unfold L2.zm;have hi:=(gp.mp e).1;rw[t4 hi[""],gC,e]
  rfl
 have at_:∀(i:Nat) w,((pre++ioD a d::post).map some++List.replicate (N[1]-(pre++ioD a d::post)[1]) none)[i]?=!(!w)->(pre++ioD a d::post)[i]?=!w:=λi w e=>by
  by_cases hi:i<(pre++ioD a d::post)[1]
  .rw[t4 hi[""],gC]at e
   simp_all
  rw[hU hi[""],fQ]at e
  lia
 have cs:∀ i w,(pre++ioD a d::post)[i]?=!w->(i=pre[1]/\w=ioD a d)\/(i≠pre[1]/\w.own=false/\∃ v,(v1++.ref a::v2)[i]?=!v/\Eok κ (but H a) F (but H a) v w):=λi w e=>by
  rcases Nat.lt_trichotomy i pre[1] with c|c|c
  .rw[t4 c]at e;obtain⟨v,q1,q2,q3⟩:=yt h1 i w (by rw[gC,e];rfl)
   refine .inr #[t3 c,q3,v,?_,q2];rw[t4 ""]
   simp_all
  .subst c;exact .inl #[rfl,by simpa using e.symm]
  rw[hU (cM c)]at e;obtain⟨j,hj⟩:∃ j,i-pre[1]=j+1:=#[i-pre[1]-1,""]
  rw[hj,cC]at e;obtain⟨v,q1,q2,q3⟩:=yt h2 j w (by rw[gC,e];rfl)
  refine .inr #[pR c,q3,v,?_,q2];rw[hU "",show i-v1[1]=j+1 by lia,cC]
  rw[gC]at q1;cases z:v2[j]? with
  | none=>rw[z]at q1;cases q1
  | some y=>rw[z]at q1;simpa using q1
 have sa:(v1++.ref a::v2)[pre[1]]?=!(.ref a):=by rw[<- l1,hU (gy _),sub_self];rfl
 refine#[#[Le.refl,Kb,Le.trans l Kb,λ_ z=>.inl z],by simp[L2.zm,l1,l2],λi w e=>?_,λi j w w' b B ei ej oi oj si sj=>?_,λi y e=>?_]
 .rcases cs i w (at_ i w e)with⟨rfl,rfl⟩|⟨_,ow,v,q1,q2⟩
  .exact#[.ref a,sv _ _ sa,a,o,rfl,uh,fa,O,OwnO.noTup U]
  exact#[v,sv i v q1,qcn q2 ow]
 .rcases cs i w (at_ i w ei)with⟨rfl,_⟩|⟨_,z,_⟩
  .rcases cs j w' (at_ j w' ej)with⟨rfl,_⟩|⟨_,z,_⟩
   .exact B rfl
   rw[oj]at z;cases z
  rw[oi]at z;cases z
 rcases cs i _ (at_ i _ e)with⟨rfl,z⟩|⟨_,z,_⟩
 .cases z;refine#[λj z hj ej=>?_,a,[],sv _ _ sa,uh,fa,by simp,#[rfl,o,d,rfl,O,U],λj w b hj ej oj m sj=>?_]
  .rcases cs j _ (at_ j _ ej)with⟨q,_⟩|⟨_,q,_⟩
   .exact hj q
   cases q
  rcases cs j _ (at_ j _ ej)with⟨q,_⟩|⟨_,q,_⟩
  .exact hj q
  rw[oj]at q;cases q
 cases z
section
variable{P:af}{w:World}{K:Frag}{mg:Str->Option aa}{base:Heap}
def fnI{st:Stmt}{N ps:List Str}{k:Nat}(F:Fun K x qual st f fd)(S:FnScope N ps (defScope st))
  (h:∀ z A outer s H F0 H0,Room k (A.deeper (envOfC qual (defScope st) s[0] f z)) ->
   SSs (cxOf CX0 P w K mg base N qual (defScope st) f z A outer s H E0).nox F0 H0 (defBody st) body):FnOk P w K mg base CX0 (k+1) f fd ps (spI #[P,w,K] (den N[1] body) ps[1]):=by
 refine F.ok S (λvs H Q E q=>q.1) (λz A outer s H vs Q E hr q=>?_)
 obtain⟨hl,F0,a,o,d,pre,post,v1,v2,rfl,l,ho,ro,a1,a2,q⟩:=q;refine#[Z4 _ _,Qc,λpins s' I=>?_]
 refine((h z A outer s H F0 (but H a) hr)) pins s' (L2.zm N (v1++.ref a::v2)) F0 H _ _ (qco l ho ro a1 a2) I ?_;have e:=q;unfold den at e;cases eb:body ((pre++ioD a d::post).map some++List.replicate (N[1]-(pre++ioD a d::post)[1]) none)with
 | nx ρ=>rw[eb]at e;exact λB F' H' l' S'=>e .non F' H' S'.gr rfl
 | rt w'=>rw[eb]at e;exact e
 | bk ρ=>rw[eb]at e;exact e.elim
 | ct ρ=>rw[eb]at e;exact e.elim
 | exc x=>rw[eb]at e;exact e.elim
 | stuck=>rw[eb]at e;exact e.elim
end
def ioR(o:Option (Option En)):Option (Int×D):=match o with
 | some (!(.od (.tup [.int a,d])))=>!(a,d)
 | _=>none
def ZZ{a:Int}(h:ioR o=!(a,d)):o=!(!(.od (.tup [.int a,d]))):=by
 unfold ioR at h;split at h
 .lia
 cases h
def yG(i:Nat):EF:=λρ=>match ioR ρ[i]? with
 | some (_,d)=>.ok (.br d)
 | none=>.stuck
def StOk.io{F0 H0 F H:Hp}{i:Nat}{z:Int}(S:StOk κ F0 H0 F H ρ σ)(e:ρ[i]?=!(!(.od (.tup [.int z,d])))) :
  shal i ρ/\∃(a:Addr) (o:HO),z=a/\σ[i]?=!(!(.ref a))/\H0 a=none/\F a=none/\H a=!o/\OwnO κ F o d /\
   ∀ j w b,j≠i->ρ[j]?=!(!w)->w.own=true->b∈a::[]->σ[j]?≠!(!(.ref b)):=by
 obtain⟨sh,a,bs,si,h0,hf,nd,dp,sp⟩:=S.dp i _ e;obtain⟨eb,o,d',ex,ho,ro⟩:=dp;subst eb;injection ex with e1 e2;injection e1 with e1;injection e2 with e2 _;subst e2;exact#[sh,a,o,e1,si,h0,hf,ho,ro,sp]
section
variable{X:Cx}{F0 H0:Hp}{pos:Pos}
def qcp(i)(z:(Nm X i x)["t"]):"S" (.Name x pos) (yG i):=by
 intro pins s σ F H ρ Q S I h;unfold yG at h;cases e:ioR ρ[i]? with
 | none=>rw[e]at h;exact h.elim
 | some p =>
  rw[e]at h;obtain⟨_,a,o,_,si,h0,hf,ho,ro,_⟩:=S.io (ZZ e);refine thn (pvN z pins s σ H (λv' H'=>v'=.ref a/\H'=H) I #[.ref a,si,rfl,rfl]) λu s' #[v',H',I',r,ev,eh]=>?_
  subst ev eh;exact h (.ref a) u F H' s' (Gr.refl S.s) #[a,o,rfl,ho,ro] r I'
def qcq(a:Int)(d:D):En->Out
 | .fz g=>.rt (.od (.tup [.int a,d,g]))
 | _=>.stuck
def uj(i:Nat)(e:EF):SF:=λρ=>match ioR ρ[i]? with
 | some (a,d)=>sOf (e ρ) (qcq a d)
 | none=>.stuck
def qcr(i)(z:"S" e f):SS X F0 H0 (.Return ↑e pos) (uj i f):=by
 intro pins s σ F H ρ D S I h;unfold uj at h;cases ei:ioR ρ[i]? with
 | none=>rw[ei]at h;exact h.elim
 | some p =>
  obtain⟨ai,d⟩:=p;rw[ei]at h;obtain⟨_,a,o,ea,si,h0,hf,ho,ro,_⟩:=S.io (ZZ ei);refine Gg (je) pins s σ H D I (z.sem S ((PostS.of h).imp λw k v F1 H1 g1 q1=>?_))
  cases w<;>first|exact k.elim|skip
  rename_i g;subst ea;exact k v F1 H1 (S.gr.trans g1) (.inr (.inr (.inr #[a,d,g,rfl,o,h0,g1.no hf ho (OwnO.noTup ro),g1.h _ _ ho,OwnO.le g1.f ro,q1])))
def x9(i:Nat)(k:List EF)(e:EF):SF:=λρ=>match ioR ρ[i]? with
 | some (a,.dT kvs)=>sOf ((e ρ).bind En.st) λd=>sOf (evs k ρ) λws=>match jL (ws.map En.d)with
  | some key=>if kvs[1]<sz/\key[1]<=sz then .nx (ρ.set i (!(.od (.tup [.int a,.dT (qS key d kvs)]))))else .stuck
  | none=>.stuck
 | _=>.stuck
def qcs(i){np tp pos pos':Pos}{n:Nat}(hu:X.A.units+10<cLine)(Y:SA X F0 H0 ks fk)(Z:"S" e fe)(hN:(Nm X i x)["t"])(hs:(swapsWith e (!(.Subscript (.Name x np) (.Tuple ks n tp) pos')) pos.line X.env=pure false)["r"]) :
  SS X F0 H0 (.Assign [.Subscript (.Name x np) (.Tuple ks n tp) pos'] e pos) (x9 i fk fe):=by
 intro pins s σ F H ρ D S I h;unfold x9 at h;cases ei:ioR ρ[i]? with
 | none=>rw[ei]at h;exact h.elim
 | some p =>
  obtain⟨ai,d⟩:=p;rw[ei]at h;cases d<;>first|exact h.elim|skip
  rename_i kds;have ew:=ZZ ei;obtain⟨sh,a,o,ea,e1,h0,hf,hh,ro,sp⟩:=S.io ew;cases o<;>first|exact ro.elim|skip
  rename_i kvs;have h:=KE.bind (PostS.of h);refine Z1 (pos:=pos) (pos':=pos') "" (pvN (pos:=np) hN) (je (e:=.Tuple ks n tp)) (je (e:=e)) hs pins s σ H D I (Z.sem S (h.imp λw k1 y F1 H1 g1 q1=>?_))
  cases es:w.st with
  | exc x=>rw[es]at k1;exact k1.elim
  | stuck=>rw[es]at k1;exact k1.elim
  | ok d =>
   rw[es]at k1;have ry:=Vok.st S.s g1 q1 es;obtain⟨g2,_⟩:=v8 S.s g1;have S2:=S.grow g2;refine#[_,e1,QG Y S2 ((PostS.of (show PostS X F0 H0 F D _ from k1)).imp λws k2 vs F3 H3 p g3 q3 hp=>?_)]
   cases ek:jL (ws.map En.d)with
   | none=>rw[ek]at k2;exact k2.elim
   | some key =>
    rw[ek]at k2;have ev:=u9 q3 ek;subst ev;have lv:kvs[1]=kds[1]:=RepT.length ro;by_cases c:kds[1]<sz/\key[1]<=sz
    .have k3:PostS X F0 H0 F D (.nx (ρ.set i (!(.od (.tup [.int ai,.dT (qS key d kds)]))))):=by simpa[if_pos c,KE]using k2
     refine#[by rw[gg,<- zQ];exact c.2,a,_,rfl,DPut.t (e:=?_) qH (by rw[lv,<- zQ];exact c.1),?_]
     .rw[qt (jG (g3.h _ _ (g1.h _ _ hh)) hp)];exact g3.h _ _ (g1.h _ _ hh)
     have g4:=Gr.new (o:=.tup (key.map kV)) g3.s hp;have S4:=(S2.grow g3).grow g4;obtain⟨B,a4,o4,ea4,e4,h04,O,hh4,ro4,U⟩:=S4.io ew;rw[e1]at e4;cases e4;refine k3 σ _ _ (Le.trans g2.f (Le.trans g3.f g4.f)) (S4.turn (bs:=[]) (bs':=[]) ew e1 B U (λc hc=>qt λz=>hc (by rw[z];simp)) (λb hb=>by cases hb) (λc hc=>?_) (λc hc=>?_) "s" #[rfl,.dT (jH kvs key y),_,by rw[ea],qH,?_])
     .simp_all
     .rw[tT.mp hc];exact O
     exact YF (Rep.le (Le.trans g3.f g4.f) _ ry) (RepT.le (Le.trans g2.f (Le.trans g3.f g4.f)) _ ro)
    have:False:=by simpa[if_neg c,PostS,KE]using k2
    exact this.elim
abbrev IOF:=Rho->R (D×Rho)
def SIO(X:Cx)(F0 H0:Hp)(e:Expr)(f:IOF):Prop :=
 ∀(pins:List (Addr×Obj)) (s:ab) (σ:St) (F H:Hp) (ρ:Rho) (Q:aa->ab->Prop),StOk (kx X) F0 H0 F H ρ σ->"I" H s ->
  KE (XP X F0 H0) (f ρ) (λp=>∀ v u F' H' s',Le F F'->StOk (kx X) F0 H0 F' H' p.2 σ->Rep (kx X) F' v p.1->RelV v u->"I" H' s'->Q u s') ->
  X[3] (eval e X.env) Q X.xe s
def SAI(X:Cx)(F0 H0:Hp)(i:Nat)(es:List Expr)(pre post:List EF):Prop :=
 ∀(pos:Pos) (pins:List (Addr×Obj)) (s:ab) (σ:St) (F H:Hp) (ρ:Rho) (Q:List aa->ab->Prop) (a:Addr),StOk (kx X) F0 H0 F H ρ σ->"I" H s->σ[i]?=↑(!(.ref a)) ->
  KE (XP X F0 H0) (evs pre ρ) (λws=>KE (XP X F0 H0) (evs post ρ) λz=>∀ v1 v2 us F' H' s',Gr F H F' H'->Voks (kx X) H F' H' v1 ws->Voks (kx X) H F' H' v2 z->Vals (v1++.ref a::v2) us->"I" H' s'->Q us s') ->
  X[3] (spliced (backTo pos (starEach es X.env))) Q X.xe s
def qct(i)(z:SA X F0 H0 es post)(B:(Nm X i x)["t"])(U:(starEach (.Name x np::es) X.env=(false,eval (.Name x np) X.env)::starEach es X.env)["r"]):SAI X F0 H0 i (.Name x np::es) [] post:=by
 refine λpos pins s σ F H ρ Q a S I si h=>hZ (thn (pvN B pins s σ H (λv' H'=>v'=.ref a/\H'=H) I #[.ref a,si,rfl,rfl]) λu s1 #[v',H',I1,r,ev,eh]=>?_)
 subst ev eh;exact z pos pins s1 σ F H' ρ _ S I1 (KE.imp (h) λO k vs us F2 H2 s2 g q r2 I2=>(k [] vs (u::us) F2 H2 s2 g rfl q (.cons r r2) I2))
def Kq{i:Nat}(z:"S" e f)(B:SAI X F0 H0 i es pre post)(O:(starEach (e::es) X.env=(false,eval e X.env)::starEach es X.env)["r"]):SAI X F0 H0 i (e::es) (f::pre) post:=by
 intro pos pins s σ F H ρ Q a S I si h;rw[O];refine hZ (z pins s σ F H ρ _ S I ((KE.bind h).imp λw h1 v u F1 H1 s1 g1 q1 r1 I1=>?_))
 refine B pos pins s1 σ F1 H1 ρ _ a (S.grow g1) I1 si ((KE.bind h1).imp λws h2=>?_)
 have h2:KE (XP X F0 H0) (evs post ρ) _:=h2;exact h2.imp λU k v1 v2 us F2 H2 s2 g2 q2 q3 r2 I2=>(k (v::v1) v2 (u::us) F2 H2 s2 (g1.trans g2) #[v,v1,rfl,Vok.gr g2 q1,Voks.older (λa e=>Le.none g1.h e) q2] (Voks.older (λa e=>Le.none g1.h e) q3) (.cons r1 r2) I2)
def zV(ys:List En):Bool:=ys.all λw=>match w with|.fz _=>true|_=>false
open Classical in
def wL(dn:Den)(pre:List En)(d:D)(post:List En):R (D×D) :=
 if h:∃ r:D×D,∀ a:Addr,dn (pre++ioD a d::post)=.ok (.od (.tup [.int (a:Int),r.1,r.2]))then .ok h.choose else .stuck
def qcu(h:∀ a,dn (pre++ioD a d::post)=.ok (.od (.tup [.int a,d',g]))):wL dn pre d post=.ok (d',g):=by
 unfold wL;have ex:∃ r:D×D,∀ a,dn (pre++ioD a d::post)=.ok (.od (.tup [.int a,r.1,r.2])):=#[(d',g),h];rw[dif_pos ex];have q:=ex.choose_spec 0;rw[h 0]at q;injection q with q;injection q with q;injection q with q;injection q with _ q;injection q with q1 q;injection q with q2 _;rw[<- show ex.choose.1=d' from q1.symm,<- show ex.choose.2=g from q2.symm]
def eIO(dn:Den)(i:Nat)(pre post:List EF):IOF:=λρ=>match ρ[i]? with
 | some (!d[9])=>(evs pre ρ).bind λxs=>(jT xs).bind λys=>(evs post ρ).bind λB=>(jT B).bind λz=>if (zV ys&&zV z)=true then(wL dn ys d z).bind λr=>.ok (r.2,ρ.set i (!(.ow r.1)))else .stuck
 | _=>.stuck
theorem V0:∀{ws} {vs},Voks κ H F H' vs ws->vs[1]=ws[1]
 | [],vs,h=>by cases (h);rfl
 | w::ws,vs,h=>by obtain⟨v,r,rfl,_,h2⟩:=h;simp[V0 h2]
def qcv{k n i:Nat}{pre post:List EF}(G:FnOk X.prog X.w X.K X.mg X.base CX0 k f fd ps (spI (kx X) dn n))(Y:Room k X.A)(Z:keepIn X.K (.ref f)=true)(hb:Binds X.K fd ps [])
  (ha:SAI X F0 H0 i (e::es) pre post)(hn:pre[1]+(post[1]+1)=n)(he:starEach (e::es) X.env=(false,eval e X.env)::starEach es X.env)(U:(backTo pos (starEach es X.env)).any (·.1)=false)
  {Q:aa->ab->Prop}(S:StOk (kx X) F0 H0 F H ρ σ)(I:"I" H s)
  (h:KE (XP X F0 H0) (eIO dn i pre post ρ) λp=>∀ v u F' H' s',Le F F'->StOk (kx X) F0 H0 F' H' p.2 σ->Rep (kx X) F' v p.1->RelV v u->"I" H' s'->Q u s') :
  X[3] (callWith pos (.ref f) [] (backTo pos (starEach (e::es) X.env)) []) Q X.xe s:=by
 unfold eIO at h;split at h
 .rename_i d ei;obtain⟨v0,si,a,o,rfl,h0,hf,hh,ro⟩:=S.val i _ ei;refine callWith_K (h₀:=X.base) I.ok.mod.kin Z (ha pos pins s σ F H ρ _ a S I si ?_) he U;have h:=KE.bind h;cases ef:evs pre ρ with
  | exc x=>rw[ef]at h;exact h
  | stuck=>rw[ef]at h;exact h
  | ok ws =>
   rw[ef]at h;have h:KE (XP X F0 H0) ((jT ws).bind λys=>(evs post ρ).bind λO=>(jT O).bind λB=>if (zV ys&&zV B)=true then(wL dn ys d B).bind λr=>.ok (r.2,ρ.set i (!(.ow r.1)))else .stuck) _:=h
   cases ea:jT ws with
   | exc x=>rw[ea]at h;exact h.elim
   | stuck=>rw[ea]at h;cases h
   | ok ys =>
    rw[ea]at h;have h:=KE.bind (show KE (XP X F0 H0) ((evs post ρ).bind λO=>(jT O).bind λB=>if (zV ys&&zV B)=true then(wL dn ys d B).bind λr=>.ok (r.2,ρ.set i (!(.ow r.1)))else .stuck) _ from h)
    show KE (XP X F0 H0) (evs post ρ) _;cases ef2:evs post ρ with
    | exc x=>rw[ef2]at h;exact h
    | stuck=>rw[ef2]at h;exact h
    | ok ws2 =>
     rw[ef2]at h;refine λv1 v2 us F1 H1 s1 g1 q1 q2 r1 I1=>#[I1.kIn,?_]
     have h:KE (XP X F0 H0) ((jT ws2).bind λB=>if (zV ys&&zV B)=true then(wL dn ys d B).bind λr=>.ok (r.2,ρ.set i (!(.ow r.1)))else .stuck) _:=h
     cases ea2:jT ws2 with
     | exc x=>rw[ea2]at h;cases h
     | stuck=>rw[ea2]at h;cases h
     | ok B =>
      rw[ea2]at h;have h:KE (XP X F0 H0) (if (zV ys&&zV B)=true then(wL dn ys d B).bind λr=>.ok (r.2,ρ.set i (!(.ow r.1)))else .stuck) _:=h
      by_cases c:(zV ys&&zV B)=true
      .rw[if_pos c]at h;rw[hE]at c;obtain⟨g2,l2⟩:=v8 S.s g1;have A1:=ZY (G:=but H1 a) c.1 (Qj (κ:=kx X) g1.s q1 ea (jE H F1 H1) l2 λa o e0 e2=>by unfold jE;rw[e0];exact e2)
       have A2:=ZY (G:=but H1 a) c.2 (Qj (κ:=kx X) g1.s q2 ea2 (jE H F1 H1) l2 λa o e0 e2=>by unfold jE;rw[e0];exact e2)
       have ga:jE H F1 H1 a=none:=g2.no hf hh (OwnO.noTup ro);have S1:=(S.grow g2).forget ei si;refine v9 (WE G Y hb (dvs:=[]) .nil WV I1 r1 ?_);rw[tM];refine#[?_,jE H F1 H1,a,o,d,ys,B,v1,v2,rfl,λc u z=>(yE (jG z ga)).trans (g2.s c u z),g1.h _ _ hh,OwnO.le g2.f ro,A1,A2,?_]
       .rw[gG,gK,V0 q1,V0 q2,Qk pre ρ ws ef,Qk post ρ ws2 ef2];exact hn
       have h:=KE.bind h;unfold wL at h;by_cases ex:∃ r:D×D,∀ a,dn (ys++ioD a d::B)=.ok (.od (.tup [.int a,r.1,r.2]))
       .rw[dif_pos ex]at h;have sp:=ex.choose_spec a;generalize ex.choose=r at h sp;rw[sp];intro v F' H' g q u s' r' I';have q:DV (kx X) (but H1 a) F' H' v (.tup [.int a,r.1,r.2]):=q;rcases q with⟨_,z,_⟩|⟨_,z,_⟩|⟨_,_,z,_⟩|⟨a',dd,y,z,o',c0,cf,ch,co,cr⟩
        .cases z
        .cases z
        .cases z
        injection z with z;injection z with z1 z;injection z with z2 z;injection z with z3 _;injection z1 with z1;have:a'=a:=(Int.ofNat.inj z1).symm;subst this;subst z2;subst z3;have S2:=S1.setW g (i:=i) (v:=.ref a') (w:=.ow r.1) (w':=.ow r.1) #[a',o',rfl,uh,cf,ch,co] rfl;rw[dX]at S2;have se:σ.set i (!(.ref a'))=σ:=by
         obtain⟨hl,e2⟩:=gp.mp si;rw[<- e2,List.set_getElem_self]
        rw[se]at S2;exact h v u F' H' s' (Le.trans g2.f g.f) S2 cr r' I'
       rw[dif_neg ex]at h;exact h.elim
      rw[if_neg c]at h;exact h.elim
 exact h.elim
def dFn(x:Str):D:=.xc x [("fn",.non)]
def qcw(B:X.mg x=!(.ref f))(z:nsIn X.K mainGlobals x=!(!(.ref f)))(O:(Gl X x)["r"])(hd:((x==("__debug__"))=false)["d"]):"S" (.Name x p) (eC (dFn x)) :=
 WX (v:=.ref f) B rfl (λF=>show FnV (kx X) (.ref f) x [("fn",.non)]from λf' e=>by rw[z]at e;cases e;rfl) O hd
def fnOf(o:Option (Option En)):Option Str:=match o with
 | some (!(.xc x [(_,.non)])[8])=>!x
 | _=>none
def eIOV(j:Nat)(z:Str)(B:Den)(i:Nat)(pre post:List EF):IOF:=λρ=>match fnOf ρ[j]? with
 | some x=>if x=z then eIO B i pre post ρ else .stuck
 | none=>.stuck
def qcx(h:fnOf o=!x):∃ y,o=!(!(.xc x [(y,.non)])[8]):=by
 unfold fnOf at h;split at h
 .cases h;exact#[_,rfl]
 cases h
def qcy(j:Nat){Z n i:Nat}{pre post:List EF}
  (G1:FnOk X.prog X.w X.K X.mg X.base CX0 Z f1 fd1 ps1 (spI (kx X) d1 n))(B:Room Z X.A)(O:keepIn X.K (.ref f1)=true)(U:Binds X.K fd1 ps1 [])(n1:nsIn X.K mainGlobals x1=!(!(.ref f1)))
  (ha:SAI X F0 H0 i (e::es) pre post)(hn:(pre[1]+(post[1]+1)=n)["r"])(hN:(Nm X j x)["t"])(he:(starEach (e::es) X.env=(false,eval e X.env)::starEach es X.env)["r"])(Y:((backTo pos (starEach es X.env)).any (·.1)=false)["r"]) :
  SIO X F0 H0 (.Call (.Name x p) (e::es) [] pos) (eIOV j x1 d1 i pre post):=by
 intro pins s σ F H ρ Q S I h;unfold eIOV at h;cases ef:fnOf ρ[j]? with
 | none=>rw[ef]at h;exact h.elim
 | some y =>
  rw[ef]at h;dsimp only at h;obtain⟨z,ej⟩:=qcx ef;obtain⟨v,sj,r⟩:=S.val j _ ej;have r:∀ f:Addr,nsIn X.K mainGlobals y=!(!(.ref f))->v=.ref f:=r;refine fw (thn (pvN hN pins s σ H (λv' H'=>v'=v/\H'=H) I #[v,sj,rfl,rfl]) λu s1 #[v',H',I1,rv,ev,eh]=>?_)
  subst ev eh;by_cases c1:y=x1
  .rw[if_pos c1]at h;subst c1;cases r f1 n1;cases (show u=Value.ref f1 from rv)
   exact qcv G1 B O U ha hn he Y S I1 h
  rw[if_neg c1]at h;exact h.elim
end
theorem RepT.look:∀{kds} {kvs} k,RepT κ F kvs kds->(∃ v d,jo kvs k=!v/\L3.look k kds=!d/\Rep κ F v d)\/(jo kvs k=none/\L3.look k kds=none)
 | [],_,k,h=>by cases (h);exact .inr #[rfl,rfl]
 | (q,d)::r,_,k,h=>by
  obtain⟨v,kr,rfl,h1,h2⟩:=h;by_cases e:q=k
  .subst e;exact .inl #[v,d,by unfold jo;simp,by unfold L3.look;rw[if_pos rfl],h1]
  rcases RepT.look k h2 with⟨v',d',a1,a2,a3⟩|⟨a1,a2⟩
  .refine .inl #[v',d',?_,by unfold L3.look;rw[if_neg e];exact a2,a3]
   unfold jo at ⊢;rw[dL e[""]]
   exact a1
  refine .inr #[?_,by unfold L3.look;rw[if_neg e];exact a2]
  unfold jo at ⊢;rw[dL e[""]]
  exact a1
def QZ(kvs:List (List (Sum Int Str)×D))(q:List (Sum Int Str))(wx:En):R En:=match look q kvs with|some d=>.ok d[8]|none=>.ok wx
def J5(k:Option (List (Sum Int Str)))(g:List (Sum Int Str)->R En):R En:=match k with
 | some q=>if q[1]<=sz then g q else .stuck
 | none=>.stuck
def uk(d:EF)(k:List EF)(x:EF):EF:=λρ=>(d ρ).bind λwd=>match wd.d with
 | .dT kvs=>(evs k ρ).bind λws=>J5 (jL (ws.map En.d)) λq=>(x ρ).bind λwx=>QZ kvs q wx
 | _=>.stuck
section
variable{X:Cx}{F0 H0:Hp}{pos:Pos}
def qcz{n:Nat}(Z:X.A.units+10<cLine)(O:"S" o fo)(U:SA X F0 H0 ks fk)(Y:"S" f ff)(m:M2 X o "get" apos (.Tuple ks n tp) f cpos:=by exact#[rfl,rfl,rfl,rfl]) :
  "S" (.Call (.Attribute o "get" apos) [.Tuple ks n tp,f] [] cpos) (uk fo fk ff):=by
 refine λpins s σ F H ρ Q S I h=>v9 (qa7 "" (je (e:=o)) (je (e:=.Tuple ks n tp)) (je (e:=f)) m pins s σ H (λv H'=>∀ u s',RelV v u->"I" H' s'->Q u s') I ?_)
 refine O.sem S ((KE.bind h).imp λwd h1 v F1 H1 g1 q1=>?_)
 have qd:=Vok.rd q1
 revert h1 qd
 generalize wd.d=dd;intro h1 qd;cases dd<;>first|exact h1.elim|skip
 obtain⟨p,kvs,rfl,hq,rk⟩:=RdV.dT g1.s qd;refine#[p,rfl,.inr #[_,hq],QG U (S.grow g1) ((KE.bind h1).imp λws h2 vs F2 H2 b g2 q2 hb=>?_)]
 unfold J5 at h2;cases ek:jL (ws.map En.d)with
 | none=>rw[ek]at h2;exact h2.elim
 | some key =>
  rw[ek]at h2;dsimp only at h2;by_cases c:key[1]<=sz
  .rw[if_pos c]at h2;have ev:=u9 q2 ek;subst ev;have g4:=Gr.new (o:=.tup (key.map kV)) g2.s hb;refine#[by rw[gg];exact c,Y.sem (S.grow (g1.trans (g2.trans g4))) ((KE.bind h2).imp λwx h3 v3 F3 H3 g3 q3=>?_)]
   have B:Le H1 H3:=Le.trans (g2.trans g4).h g3.h;have gA:=g1.trans ((g2.trans g4).trans g3);refine#[jo kvs key,.inr #[kvs,key,b,Rd.le B hq,rfl,g3.h _ _ qH,rfl],λu s' ru I'=>?_]
   unfold QZ at h3;rcases RepT.look key rk with⟨z,d,a1,a2,rz⟩|⟨a1,a2⟩
   .rw[a2]at h3;rw[a1]at ru;exact h3 z u F3 H3 s' gA (Rep.le (Le.trans (g2.trans g4).f g3.f) _ rz) ru I'
   rw[a2]at h3;rw[a1]at ru;exact h3 v3 u F3 H3 s' gA (Vok.older (λa e=>Le.none (Le.trans g1.h (g2.trans g4).h) e) q3) ru I'
  rw[if_neg c]at h2;exact h2.elim
def yH(d k:EF):EF:=λρ=>(d ρ).bind λwd=>match wd.d with
 | .dK kvs=>(k ρ).bind λwk=>(match zn wk.d with
  | some q=>(match look q kvs with|some d=>.ok d[8]|none=>.ok (.fz .non))
  | none=>.stuck)
 | _=>.stuck
def qcA(Y:"S" o fo)(Z:"S" e fe)(m:M1 X o "get" apos e cpos:=by exact#[rfl,rfl,rfl,rfl]) :
  "S" (.Call (.Attribute o "get" apos) [e] [] cpos) (yH fo fe):=by
 refine λpins s σ F H ρ Q S I h=>bQ m.base m.few m.line cB fP dW (Y pins s σ F H ρ _ S I ((KE.bind h).imp λwd h1 v u F1 H1 s1 g1 q1 r1 I1=>?_))
 have qd:=Vok.rd q1
 revert h1 qd
 generalize wd.d=dd;intro h1 qd;cases dd<;>first|exact h1.elim|skip
 obtain⟨p,kvs,rfl,hq,rk⟩:=RdV.dK g1.s qd;cases (show u=Value.ref p from r1)
 obtain⟨hd,vs,rel,dd⟩:=Inv.dictK I1 hq;refine#[dd.typeIs,λb q=>?_,?_]
 .cases q;obtain⟨ob,_,_,e1,e2,_⟩:=dd;exact#[ob,e1,e2.2.1]
 rw[m.trees];refine cI rfl (cW (hZ (Z pins s1 σ F1 H1 ρ _ (S.grow g1) I1 ((KE.bind h1).imp λwk h2 v2 u2 F2 H2 s2 g2 q2 r2 I2=>tH ?_))))
 cases ek:zn wk.d with
 | none=>rw[ek]at h2;exact h2.elim
 | some key =>
  rw[ek]at h2;dsimp only at h2;have ry:RelV (kV key) u2:=Z8 ek (Vok.rd q2) r2;obtain⟨hd3,vs3,O,U⟩:=Inv.dictK I2 (SqK.le g2.h hq);refine dU fP U.typeIs cJ (PySem.F.args_dict_get_2 _ _) (meets_dict_get (jd X.prog X.w) p (k8 ry) hd3) #[_,U.mapOf,?_];have rg:=(O.val key).getD (show RelV V.non Value.none from rfl)
  have B:=g1.trans g2;rcases RepK.look key rk with⟨z,d,a1,a2,rz⟩|⟨a1,a2⟩
  .rw[a2]at h2;rw[a1]at rg;exact h2 z _ F2 H2 _ B (Rep.le g2.f _ rz) rg (I2.tok _)
  rw[a2]at h2;rw[a1]at rg;exact h2 .non _ F2 H2 _ B rfl rg (I2.tok _)
abbrev XF:=Rho->R (List D×Rho)
def SAX(X:Cx)(F0 H0:Hp)(es:List Expr)(f:XF):Prop :=
 ∀(pos:Pos) (pins:List (Addr×Obj)) (s:ab) (σ:St) (F H:Hp) (ρ:Rho) (Q:List aa->ab->Prop),StOk (kx X) F0 H0 F H ρ σ->"I" H s ->
  KE (XP X F0 H0) (f ρ) (λp=>∀ vs us F' H' s',Le F F'->StOk (kx X) F0 H0 F' H' p.2 σ->Reps (kx X) F' vs p.1->Vals vs us->"I" H' s'->Q us s') ->
  X[3] (spliced (backTo pos (starEach es X.env))) Q X.xe s
def uo:XF:=λρ=>.ok ([],ρ)
def fzR:En->R D
 | .fz d=>.ok d
 | _=>.stuck
def zW(f:EF)(r:XF):XF:=λρ=>(f ρ).bind λw=>(fzR w).bind λd=>(r ρ).bind λq=>.ok (d::q.1,q.2)
def xIO(f:IOF)(r:XF):XF:=λρ=>(f ρ).bind λp=>(r p.2).bind λq=>.ok (p.1::q.1,q.2)
def qcB:SAX X F0 H0 [] uo:=λpos pins s σ F H ρ Q S I h=>tH (h [] [] F H s Le.refl S rfl .nil I)
def V1(z:"S" e f)(B:SAX X F0 H0 es r)(O:(starEach (e::es) X.env=(false,eval e X.env)::starEach es X.env)["r"]):SAX X F0 H0 (e::es) (zW f r):=by
 intro pos pins s σ F H ρ Q S I h;rw[O];refine hZ (z pins s σ F H ρ _ S I ((KE.bind h).imp λw h1 v u F1 H1 s1 g1 q1 r1 I1=>?_))
 cases w<;>first|exact h1.elim|skip
 rename_i d;exact B pos pins s1 σ F1 H1 ρ _ (S.grow g1) I1 ((KE.bind (show KE (XP X F0 H0) ((r ρ).bind λq=>.ok (d::q.1,q.2)) _ from h1)).imp λq h2 vs us F2 H2 s2 l2 S2 rs r2 I2=>(h2 (v::vs) (u::us) F2 H2 s2 (Le.trans g1.f l2) S2 #[v,vs,rfl,Rep.le l2 _ q1,rs] (.cons r1 r2) I2))
def qcC(z:SIO X F0 H0 e f)(B:SAX X F0 H0 es r)(O:(starEach (e::es) X.env=(false,eval e X.env)::starEach es X.env)["r"]):SAX X F0 H0 (e::es) (xIO f r):=by
 intro pos pins s σ F H ρ Q S I h;rw[O];exact hZ (z pins s σ F H ρ _ S I ((KE.bind h).imp λp h1 v u F1 H1 s1 l1 S1 q1 r1 I1=>(B pos pins s1 σ F1 H1 p.2 _ S1 I1 ((KE.bind (h1)).imp λq h2 vs us F2 H2 s2 l2 S2 rs r2 I2=>(h2 (v::vs) (u::us) F2 H2 s2 (Le.trans l1 l2) S2 #[v,vs,rfl,Rep.le l2 _ q1,rs] (.cons r1 r2) I2)))))
def eIOT(f:XF):IOF:=λρ=>(f ρ).bind λp=>if p.1.length<=sz then .ok (.tup p.1,p.2)else .stuck
def qcD(h:SAX X F0 H0 es f):SIO X F0 H0 (.Tuple es x1 pos) (eIOT f):=by
 refine λpins s σ F H ρ Q S I k=>bu (h pos pins s σ F H ρ _ S I ((KE.bind k).imp λp k1 vs us F1 H1 s1 l1 S1 rs r1 I1=>?_))
 by_cases c:p.1.length<=sz
 .rw[if_pos c]at k1;have hz:vs[1]<=sizeLine:=by rw[Reps.length rs];exact c
  refine#[by rw[<- r1[1]];exact hz,?_]
  have gn:=Gr.newF (o:=.tup vs) S1.s (I1.hok.fresh (gy _));exact k1 (.ref s1[0]) _ _ _ _ (Le.trans l1 gn.f) (S1.grow gn) #[_,vs,rfl,.inl (.inl qH),Reps.le gn.f _ rs] rfl (I1.laid (λb u e=>gq _ e) (gy _) #[hz,us,r1,#[_,gM _ rfl,rfl,_,rfl]])
 rw[if_neg c]at k1;exact k1.elim
def sIO(i:Nat)(f:IOF):SF:=λρ=>sOf (f ρ) λp=>.nx (p.2.set i (!(.fz p.1)))
def qcE(i)(z:X.N.Nodup)(B:SIO X F0 H0 e f)(hi:(X.N[i]?=!x)["r"])(O:(Loc X.env.scope x)["t"])
  (U:(swapsWith e (!(.Name x pos')) pos.line X.env=pure false)["r"])(Y:(X.fn x=true\/X.env.scope.names.lookup x=some .local)["t"]) :
  SS X F0 H0 (.Assign [.Name x pos'] e pos) (sIO i f):=by
 exact λpins s σ F H ρ D S I h=>bR (B pins s σ F H ρ _ S I ((PostS.of h).imp λp k v u F' H' s' l S' q r I'=>(xD I' z hi O r (λs2 I2=>#[_,H',I2,k _ F' H' l (S'.setF q)]) Y))) U
end
theorem len1{α:Type}:∀{us:List α},us[1]=1->∃ a,us=[a]
 | [a],_=>#[a,rfl]
theorem len2{α:Type}:∀{us:List α},us[1]=2->∃ a b,us=[a,b]
 | [a,b],_=>#[a,b,rfl]
theorem len3{α:Type}:∀{us:List α},us[1]=3->∃ a b c,us=[a,b,c]
 | [a,b,c],_=>#[a,b,c,rfl]
theorem len4{α:Type}:∀{us:List α},us[1]=4->∃ a b c d,us=[a,b,c,d]
 | [a,b,c,d],_=>#[a,b,c,d,rfl]
section
variable{X:Cx}{F0 H0:Hp}
variable{pos p kp:Pos}
variable{w:World}{prog:af}{A:ag}{E:aa->ab->Prop}
variable{s:ab}
variable{R:Result->ab->Prop}{I:Addr}{fp wr:List Addr}{G:Array GenState->Array GenState->Prop}{n:Nat}{P:Nat->aa->Prop}{St:Nat->ab->Prop}
variable{S:Addr}{es:Array (Int×aa)}{ep i:Nat}{t:SetTable}
variable{T:Addr}
variable{pos2 p2:Pos}
variable{K:Frag}{C x:Addr}{ox:Obj}{od:Option Obj}
end
section
variable{X:Cx}{F0 H0:Hp}{n cN:Str}{S C e:Addr}{i:Nat}{x:Xc}{np vp ip cp apos:Pos}
variable{pins:List (Addr×Obj)}{σ:St}{H:Hp}{s:ab}
variable{cs:List Str}{hp:Pos}{b0:Stmt}{bd:List Stmt}{m:Addr->Xc->SF}
end
section
variable{X:Cx}{F0 H0:Hp}{pos p pos2 pos3:Pos}{e:Expr}{es:List Expr}{fa:List EF}{x:Str}{k n:Nat}{f L:Addr}{fd:FuncData}{ps:List Str}{dn:Den}{h0:ExceptHandler}{cs:List Str}{hd:Xc->Rho->Out}{outer:List Env}
end
section
variable{X:Cx}{F0 H0:Hp}{pos p pos2:Pos}{e:Expr}{es:List Expr}{fa:List EF}{g:Str}{fg:Addr}{dn:Den}{st:SF}{f:EF}{pre:List EF}
end
section
variable{X:Cx}{F0 H0:Hp}{S C e:Addr}{L:List (Str×Addr)}{c cS:Str}{x:Xc}{cs:List Str}
def all1{α:Type}{P:α->Prop}{a:α}{l:List α}(h:P a)(r:∀ p∈l,P p):∀ p∈a::l,P p:=λp hp=>by
 grind
def all0{α:Type}{P:α->Prop}:∀ p∈[],P p:=λ_ h=>nomatch h
variable{pos pos' pos2:Pos}{fa:List EF}{dn:Den}{st:SF}{y:Str}
end
def rm{j k:Nat}(z:Room k A)(h:(j<=k)["d"]):Room j A:=z.mono h
inductive FunE(K:Frag)(x:Str)(s:Stmt):Prop
 | mk {f:Addr} {od an:Option Addr} {sl:Array (Option Value)} {oc kV dc pm cd ct:Value} (a:nsIn K mainGlobals x=!(!(.ref f)))
   (l:K.lookup f=↑#[oc,od,.func (PySem.W.fnOf x x (defArgs s) (defBody s) (defScope s) .none kV dc pm an cd ct),sl]) (c:codeIn K cd x=true) (k:keepIn K (.ref f)=true):FunE K x s
inductive DatE(K:Frag)(x:Str)(c:D):Prop
 | mk {u:Value} (n:nsIn K mainGlobals x=!(!u)) (d:vz K 9 u=!c):DatE K x c
structure Cal(K:Frag)(mg:Str->Option Value)(x:Str)(ps:List Str)(f:Addr)(fd:FuncData):Prop where
 m:mg x=!(.ref f)
 k:keepIn K (.ref f)=true
 b:Binds K fd ps []
 n:nsIn K mainGlobals x=!(!(.ref f))
def FunF(K:Frag)(mg:Str->Option aa)(x:Str)(s:Stmt)(ps:List Str):Prop:=∃ f fd,Fun K x x s f fd/\Cal K mg x ps f fd
def C0(P:af)(w:World)(K:Frag)(mg:Str->Option aa)(base:Heap)(k:Nat)(x:Str)(ps:List Str)(dn:Den):Prop:=∃ f fd,FnOk P w K mg base CX0 k f fd ps (spD #[P,w,K] dn ps[1])/\Cal K mg x ps f fd
def CI(P:af)(w:World)(K:Frag)(mg:Str->Option aa)(base:Heap)(k:Nat)(x:Str)(ps:List Str)(dn:Den):Prop:=∃ f fd,FnOk P w K mg base CX0 k f fd ps (spI #[P,w,K] dn ps[1])/\Cal K mg x ps f fd
def CC(P:af)(w:World)(K:Frag)(mg:Str->Option aa)(x:Str)(c:D):Prop:=∃ u v,mg x=!u/\RelV v u/\∀ F,Rep #[P,w,K] F v c
section
variable{P:af}{w:World}{K:Frag}{mg:Str->Option aa}{h:Heap}{x:Str}{s:Stmt}{ps:List Str}{c:D}
def qcF(X:K.In h)(G:h.Ns mainGlobals mg)(E:FunE K x s)(O:∀ kV z pm an B ct us,us[1]=ps[1]->bindArgs (PySem.W.fnOf x x (defArgs s) (defBody s) (defScope s) .none kV z pm an B ct) #[us,[]]=pure (ps.zip us)):FunF K mg x s ps:=by
 obtain⟨a,l,cd,k⟩:=E;exact#[_,_,Z2 l cd k,bX X G a,k,(Z2 l cd k).binds O,a]
def qcG(X:K.In h)(G:h.Ns mainGlobals mg)(E:DatE K x c):CC P w K mg x c:=by
 obtain⟨n,d⟩:=E;obtain⟨v,r,q⟩:=Yb (κ:=#[P,w,K]) 9 _ _ d;exact#[_,v,bX X G n,r,q]
def qcH(X:K.In h)(G:h.Ns mainGlobals mg)(n:nsIn K mainGlobals x=!(!(.ref a)))(d:DatS w K a l):CC P w K mg x (.dK l):=by
 obtain⟨v,r,q⟩:=qbR (κ:=#[P,w,K]) d;exact#[_,v,bX X G n,r,q]
end
section
variable{P:af}{w:World}{K:Frag}{mg:Str->Option aa}{base:Heap}{x:Str}{st:Stmt}{N ps:List Str}{p:Str}{k:Nat}{body:SF}
def fD(F:FunF K mg x st ps)(S:FnScope N ps (defScope st))(h:∀ f z A outer s H F0,Room k (A.deeper (envOfC x (defScope st) s[0] f z)) ->
  SSs (cxOf CX0 P w K mg base N x (defScope st) f z A outer s H E0).nox F0 H (defBody st) body):C0 P w K mg base (k+1) x ps (den N[1] body):=by
 obtain⟨f,fd,F,J⟩:=F;exact#[f,fd,fnD F S (h f),J]
def fI(F:FunF K mg x st ps)(S:FnScope N ps (defScope st))(h:∀ f z A outer s H F0 H0,Room k (A.deeper (envOfC x (defScope st) s[0] f z)) ->
  SSs (cxOf CX0 P w K mg base N x (defScope st) f z A outer s H E0).nox F0 H0 (defBody st) body):CI P w K mg base (k+1) x ps (den N[1] body):=by
 obtain⟨f,fd,F,J⟩:=F;exact#[f,fd,fnI F S (h f),J]
end
section
variable{X:Cx}{F0 H0:Hp}{pos p:Pos}{e:Expr}{es:List Expr}{fa:List EF}{x:Str}{k:Nat}{ps:List Str}{dn:Den}{d:D}
def cl(G:C0 X.prog X.w X.K X.mg X.base k x ps dn)(O:Room k X.A)(U:SA X F0 H0 (e::es) fa)(Y:(fa[1]=ps[1])["r"])
  (Z:(Gl X x)["r"])(z:((x==("__debug__"))=false)["d"])(he:(starEach (e::es) X.env=(false,eval e X.env)::starEach es X.env)["r"])(B:((backTo pos (starEach es X.env)).any (·.1)=false)["r"]) :
  "S" (.Call (.Name x p) (e::es) [] pos) (qi dn fa):=by
 obtain⟨_,_,G,J⟩:=G;exact qap G O J.m J.k J.b U Y Z z he B
def gb(q:CC X.prog X.w X.K X.mg x d)(z:(Gl X x)["r"])(hd:((x==("__debug__"))=false)["d"]):"S" (.Name x pos) (eC d):=by
 obtain⟨_,_,m,r,q⟩:=q;exact WX m r q z hd
variable{pins:List (Addr×Obj)}{σ:St}{H₂:Hp}{s₂:ab}{fp:List Addr}{it:Addr}{tn:Nat->Heap->Prop}{J:It}{tg:Expr}{scope:Scope}{cl:List (Str×Addr)}{N:List Str}{n:Nat}{x0:Str}
end
section
variable{X:Cx}{F0 H0:Hp}{pos:Pos}{tg elt iter:Expr}{ifs:List Expr}{scope:Scope}{fi:IF}{gf:GF}{t:TF}{e:EF}
variable{a b:SF}{ρ ρ':Rho}{w:En}{x:Xc}{d:D}{f:EF}{u:TF}{i j:Nat}
theorem qip:qe a b ρ=Out.th (a ρ) b:=rfl
theorem qiq:jB i a ρ=a (kQ ρ[i]? i ρ):=rfl
theorem qir:kH []=.ok (.lst [])[9]:=rfl
theorem qis:kH [a0]=.ok (.lst [a0])[9]:=rfl
theorem qit:kH [a0,a1,a2]=.ok (.lst [a0,a1,a2])[9]:=rfl
theorem qiu:kH [a0,a1,a2,a3,a4]=.ok (.lst [a0,a1,a2,a3,a4])[9]:=rfl
theorem qiv:kH [a0,a1,a2,a3,a4,a5,a6]=.ok (.lst [a0,a1,a2,a3,a4,a5,a6])[9]:=rfl
theorem qiw:Qu [a0,a1]=.ok (.tup [a0,a1])[8]:=rfl
theorem qix:Qu [a0,a1,a2]=.ok (.tup [a0,a1,a2])[8]:=rfl
theorem qiy:Qu [a0,a1,a2,a3]=.ok (.tup [a0,a1,a2,a3])[8]:=rfl
end
section
variable{α β:Type}{f:α->β}{a b:α}{l r:List α}{n i:Nat}
theorem qiz:List.map f []=[]:=rfl
theorem qiA:List.map f (a::l)=f a::List.map f l:=rfl
theorem qiB:[]++l=l:=rfl
theorem qiC:(a::l)++r=a::(l++r):=rfl
theorem qiD:([]:List α)[1]=0:=rfl
theorem qiE:(a::l)[1]=l[1]+1:=rfl
theorem qiF:List.replicate 0 a=[]:=rfl
theorem qiG:List.replicate (n+1) a=a::List.replicate n a:=rfl
theorem qiH:(a::l)[0]?=!a:=rfl
theorem qiI:(a::l)[i+1]?=l[i]?:=rfl
theorem qiJ:(a::l).set 0 b=b::l:=rfl
theorem qiK:(a::l).set (i+1) b=a::l.set i b:=rfl
theorem y_nt:(not true)=false:=rfl
theorem y_nf:(not false)=true:=rfl
end
abbrev FnT:=List (Str×Stmt)
def fnm(Fs:FnT)(n:Nat):Str:=(Fs.getD n ("_",.Pass #[0,0,0,0])).1
def fst(Fs:FnT)(n:Nat):Stmt:=(Fs.getD n ("_",.Pass #[0,0,0,0])).2
def psS(s:Stmt):List Str:=(defArgs s).args.map Arg.arg
structure Wd where
 P:Program
 w:World
 K:Frag
 mg:Str->Option Value
 base:Heap
structure Al(W:Wd)(Fs:FnT)(Bl:List Str)(Cs:List (Str×D)):Prop where
 h:∃ h:Heap,W.K.In h/\h.Ns mainGlobals W.mg
 f:∀ p∈Fs,FunE W.K p.1 p.2
 b:∀ x∈Bl,nsIn W.K mainGlobals x=!none
 c:∀ p∈Cs,CC W.P W.w W.K W.mg p.1 p.2
section
variable{W:Wd}{Fs:FnT}{Bl:List Str}{Cs:List (Str×D)}
def Al.bl(A:Al W Fs Bl Cs)(h:x∈Bl:=by decide +kernel):W.mg x=none:=by
 obtain⟨_,X,G⟩:=A.h;exact PySem.W.mg_none_of X G (A.b x h)
def Al.q(A:Al W Fs Bl Cs)(n:Nat)(h:(Cs[n]?=!(x,d))["r"]):CC W.P W.w W.K W.mg x d:=A.c _ (t8 h)
abbrev apS(N M:List Str):List Str:=N++M
def ndc(_:N.Nodup)(M)(h:(apS N M).Nodup:=by decide +kernel):(apS N M).Nodup:=h
def Al.fn(A:Al W Fs Bl Cs)(n){ps:List Str}(O:n<Fs.length)
  (U:∀ kV z pm an B ct us,us[1]=ps[1]->bindArgs (PySem.W.fnOf (fnm Fs n) (fnm Fs n) (defArgs (fst Fs n)) (defBody (fst Fs n)) (defScope (fst Fs n)) .none kV z pm an B ct) #[us,[]]=pure (ps.zip us)) :
  FunF W.K W.mg (fnm Fs n) (fst Fs n) ps:=by
 obtain⟨_,X,G⟩:=A.h;have e:Fs.getD n ("_",.Pass #[0,0,0,0])∈Fs:=by rw[tm,gw O];exact tR O
 exact qcF X G (A.f _ e) U
def fE(A:Al W Fs Bl Cs)(n)(N){k:Nat}
  (h:∀{f} {z} {Ar} {outer} {s} {H F0},Room k (Ar.deeper (envOfC (fnm Fs n) (defScope (fst Fs n)) s[0] f z))->N.Nodup->(Ar.deeper (envOfC (fnm Fs n) (defScope (fst Fs n)) s[0] f z)).units+10<cLine ->
   SSs (cxOf CX0 W.P W.w W.K W.mg W.base N (fnm Fs n) (defScope (fst Fs n)) f z Ar outer s H E0).nox F0 H (defBody (fst Fs n)) body)
  (O:(n<Fs.length)["d"]) (S:FnScope N (psS (fst Fs n)) (defScope (fst Fs n)):=by constructor<;>first|rfl|decide +kernel)
  (U:∀ kV B pm an z ct us,us[1]=(psS (fst Fs n))[1]->bindArgs (PySem.W.fnOf (fnm Fs n) (fnm Fs n) (defArgs (fst Fs n)) (defBody (fst Fs n)) (defScope (fst Fs n)) .none kV B pm an z ct) #[us,[]]=pure ((psS (fst Fs n)).zip us):=by
   intro _ _ _ _ _ _ us hl;first|(obtain⟨_,rfl⟩:=len1 hl;rfl)|(obtain⟨_,_,rfl⟩:=len2 hl;rfl)|(obtain⟨_,_,_,rfl⟩:=len3 hl;rfl)|(obtain⟨_,_,_,_,rfl⟩:=len4 hl;rfl)) :
  C0 W.P W.w W.K W.mg W.base (k+1) (fnm Fs n) (psS (fst Fs n)) (den N[1] body):=fD (A.fn n O U) S λ_ _ _ _ _ _ _ hr=>h hr S.nd (hu10 hr)
def fEI(A:Al W Fs Bl Cs)(n)(N){k:Nat}
  (h:∀{f} {z} {Ar} {outer} {s} {H F0 H0},Room k (Ar.deeper (envOfC (fnm Fs n) (defScope (fst Fs n)) s[0] f z))->N.Nodup->(Ar.deeper (envOfC (fnm Fs n) (defScope (fst Fs n)) s[0] f z)).units+10<cLine ->
   SSs (cxOf CX0 W.P W.w W.K W.mg W.base N (fnm Fs n) (defScope (fst Fs n)) f z Ar outer s H E0).nox F0 H0 (defBody (fst Fs n)) body)
  (O:(n<Fs.length)["d"]) (S:FnScope N (psS (fst Fs n)) (defScope (fst Fs n)):=by constructor<;>first|rfl|decide +kernel)
  (U:∀ kV B pm an z ct us,us[1]=(psS (fst Fs n))[1]->bindArgs (PySem.W.fnOf (fnm Fs n) (fnm Fs n) (defArgs (fst Fs n)) (defBody (fst Fs n)) (defScope (fst Fs n)) .none kV B pm an z ct) #[us,[]]=pure ((psS (fst Fs n)).zip us):=by
   intro _ _ _ _ _ _ us hl;obtain⟨_,_,_,_,rfl⟩:=len4 hl;rfl) :
  CI W.P W.w W.K W.mg W.base (k+1) (fnm Fs n) (psS (fst Fs n)) (den N[1] body):=fI (A.fn n O U) S λ_ _ _ _ _ _ _ _ hr=>h hr S.nd (hu10 hr)
def fEL(F:Fun W.K "law" "law" s f fd)(N){k:Nat}
  (h:∀{cdv} {Ar} {outer} {st} {H F0},Room k (Ar.deeper (envOfC "law" (defScope s) st[0] f cdv))->N.Nodup->(Ar.deeper (envOfC "law" (defScope s) st[0] f cdv)).units+10<cLine ->
   SSs (cxOf CX0 W.P W.w W.K W.mg W.base N "law" (defScope s) f cdv Ar outer st H E0).nox F0 H (defBody s) body)
  (S:FnScope N ["_law_script"] (defScope s):=by constructor<;>first|rfl|decide +kernel) :
  FnOk W.P W.w W.K W.mg W.base CX0 (k+1) f fd ["_law_script"] (spD #[W.P,W.w,W.K] (den N[1] body) 1):=fnD F S λ_ _ _ _ _ _ hr=>h hr S.nd (hu10 hr)
end
def qcI{K:Frag}{mg:Str->Option aa}{h:Heap}{k:Nat}(X:K.In h)(G:h.Ns mainGlobals mg)(z:mg "law"=!(.ref fa))(E:FunE K "law" s)
  (U:∀ kV B pm an O ct st v,BindsTo st (PySem.W.fnOf "law" "law" (defArgs s) (defBody s) (defScope s) .none kV B pm an O ct) #[[v],[]] [("_law_script",v)])
  (H:∀ base f fd,Fun K "law" "law" s f fd->FnOk P w K mg base CX0 k f fd ["_law_script"] (spD #[P,w,K] dn 1)) :
  ∃ fd,(∀ st v,BindsTo st fd #[[v],[]] [("_law_script",v)])/\∀ base,K.In base->base.Ns mainGlobals mg->FnOk P w K mg base CX0 k fa fd ["_law_script"] (spD #[P,w,K] dn 1):=by
 obtain⟨a,l,c,kk⟩:=E;have e:=z.symm.trans (bX X G a);cases e;exact#[_,λst v=>U _ _ _ _ _ _ st v,λbase _ _=>H base _ _ (Z2 l c kk)]
def yI:D->Option Int->Option Int->R En
 | .lst xs,lo,hi=>.ok (.lst (vj xs lo hi))[9]
 | .tup xs,lo,hi=>if HT.sIx xs[1] 0 lo=0/\HT.sIx xs[1] xs[1] hi=xs[1] then .ok (.tup xs)[8]else .ok (.tup (vj xs lo hi))[8]
 | _,_,_=>.stuck
def w6(a:EF)(lo hi:OF):EF:=λρ=>(a ρ).bind λx=>(lo ρ).bind λl=>(hi ρ).bind λu=>yI x.d l u
end L3
namespace HT
open PySem PyProof.Rows L2
section
variable{prog:af}{w:World}{A:ag}{E:aa->ab->Prop}{s:ab}
def tupWhole{items:Array aa}{lo hi:Option Int}{Q:aa->ab->Prop}(z:IsTup s.heap t items)(B:s.heap.IsSliceOf sl vl vu .none)(U:IsPart vl lo)(Y:IsPart vu hi)
  (O:sIx items.size 0 lo=0/\sIx items.size items.size hi=items.size)(h:Q (.ref t) s):wpAny (model prog w) A (getItem (.ref t) (.ref sl)) Q E s:=by
 obtain⟨q,hq,hc,_⟩:=id B;unfold getItem;try (with_reducible refine fB ?_)
 (first|refine g6 (gu ?_)|skip);refine g6 (wpAny_sequenceKey z.typeIs "d" (g6 ?_))
 refine f8 (name:=Str.ofString "__getitem__") z.typeIs slot_tuple_getitem (fL slot_tuple_getitem z.typeIs entry_tuple_getitem ?_ (args_tuple_getitem _ _));show wpAny _ _ (Builtin.Tuple.tupleItemsOf (.ref t) >>= λ_=>_) _ _ s
 refine g6 (tupleItemsOf_ z (g6 (bD (#[q,hq,hc]:s.TypeIs (.ref sl) "slice") ?_)));rw[if_pos "d"];refine g6 (WM B U Y ?_)
 show wpAny _ _ (if (((sIx items.size 0 lo:Nat):Int)==0&&(1:Int)==1&&(sIx items.size items.size hi-sIx items.size 0 lo)==items.size)=true then _ else _) _ _ s
 rw[if_pos (by rw[O.1,O.2];simp)]
 unfold Builtin.Tuple.tupleIsExact;refine g6 (g6 (bD z.typeIs (gu ?_)));rw[if_pos "d"]
 exact g6 (pG (gu #[_,rfl,gu h]))
end
end HT
namespace L3
open PySem PySem.Spec PyProof.Rows L2
section
variable{X:Cx}{F0 H0:Hp}{pos p2:Pos}
def qcJ(K:Frag):V->Option Int->Option Int->Hp->VK->Prop:=λx lo hi H Q=>∃ a xs,x=.ref a/\SqT K H a xs/\(HT.sIx xs[1] 0 lo=0/\HT.sIx xs[1] xs[1] hi=xs[1])/\Q (.ref a) H
def qcK:SlR X (qcJ X.K):=by
 intro pins s σ H x v vl vu lo hi sl Q I rx hs pl pu h;obtain⟨a,xs,rfl,hx,hw,q⟩:=h;cases rx;obtain⟨its,r,ht,hz⟩:=I.tuple hx;have z:its.toArray.size=xs[1]:=by rw[gU];exact r.length.symm
 exact#["tuple",_,slot_tuple_getitem.lookup,ht.typeIs,HT.tupWhole ht hs pl pu (by rw[z];exact hw) #[.ref a,H,I,rfl,q]]
def J6{lo hi:Option Expr}(O:"S" e f)(U:SO X F0 H0 lo fl)(Y:SO X F0 H0 hi fh):"S" (.Subscript e (.Slice lo hi none p2) pos) (w6 f fl fh):=by
 intro pins s σ F H ρ Q S I h;obtain⟨tl,pl,kl⟩:=U;obtain⟨th,ph,kh⟩:=Y;refine v9 (WN (SlR.or WR (SlR.or WP qcK)) (je) pl ph pins s σ H (λv H'=>∀ u s',RelV v u->"I" H' s'->Q u s') I ?_)
 refine O.sem S ((KE.bind h).imp λw h1 v F1 H1 g1 q1=>?_)
 refine kl σ F1 H1 ρ _ (S.grow g1) ((KE.bind h1).imp λo1 h2 F2 H2 g2=>?_)
 refine kh σ F2 H2 ρ _ (S.grow (g1.trans g2)) ((KE.bind h2).imp λo2 h3 F3 H3 g3=>?_)
 have r:=RdV.gr (g2.trans g3) (Vok.rd q1);have z:=wQ (g1.trans (g2.trans g3)) h3
 revert z r
 generalize w.d=d;intro r z;cases d<;>first|exact z.elim|skip
 .rename_i ds;obtain⟨a,vs,rfl,hq,B,rs⟩:=RdV.tup g3.s r;unfold yI at z;dsimp only at z;by_cases c:HT.sIx ds[1] 0 o1=0/\HT.sIx ds[1] ds[1] o2=ds[1]
  .rw[if_pos c]at z;exact .inr (.inr #[a,vs,rfl,hq,by rw[Reps.length rs];exact c,z (.ref a) _ _ (Gr.refl g3.s) #[a,_,rfl,B,rs]])
  rw[if_neg c]at z;refine .inr (.inl #[a,vs,rfl,hq,by rw[Reps.length rs];exact c,λp hp=>?_])
  have gn:=Gr.newF (o:=.tup (vU vs o1 o2)) g3.s hp;exact z (.ref p) _ _ gn #[p,_,rfl,.inl (.inl qH),Reps.le gn.f _ (Reps.cut rs o1 o2)]
 rename_i ds;obtain⟨a,vs,rfl,hq,rs⟩:=RdV.lst g3.s r;exact .inl #[a,vs,rfl,hq,λp hp=>(z (.ref p) _ _ (Gr.new g3.s hp) #[p,_,rfl,hp,Le.none g3.s hp,qH,Reps.cut rs o1 o2])]
end
def Kr{a:EF}{lo hi:OF}:w6 a lo hi ρ=(a ρ).b λx=>(lo ρ).b λl=>(hi ρ).b λu=>yI x.dd l u:=rfl
section
variable{X:Cx}{F0 H0:Hp}{pos pos' np apos cpos:Pos}
end
section
variable{prog:af}{w:World}{A:ag}{E:aa->ab->Prop}{s:ab}
end
end L3
namespace My
open PySem PySem.Spec PyProof.Rows L2 L3
def top (i:Nat):Stmt:=PySem.Challenge.pw_stavemill_k38_whole_a_fifth_higher.main.body.getD i (.Pass #[0,0,0,0])
def V2:D:=.str "CDEFGAB"
def xa:D:=.tup [.int 0,.int 1,.int 2]
def V3:D:=.tup [.int 37,.int 31,.int 25]
def V4:D:=.int 8
def Ks:D:=.int 4
def J7:D:=.int 60
def uq:D:=.tup [.tup [.int 0,.int 1000],.tup [.int 1,.int 400],.tup [.int 0,.int 127]]
def V5:D:=.dK [(.inl (112),.tup [.int 64,.int 2]),(.inl (96),.tup [.int 64,.int 1]),(.inl (64),.tup [.int 64,.int 0]),(.inl (56),.tup [.int 32,.int 2]),(.inl (48),.tup [.int 32,.int 1]),(.inl (32),.tup [.int 32,.int 0]),(.inl (28),.tup [.int 16,.int 2]),(.inl (24),.tup [.int 16,.int 1]),(.inl (16),.tup [.int 16,.int 0]),(.inl (14),.tup [.int 8,.int 2]),(.inl (12),.tup [.int 8,.int 1]),(.inl (8),.tup [.int 8,.int 0]),(.inl (7),.tup [.int 4,.int 2]),(.inl (6),.tup [.int 4,.int 1]),(.inl (4),.tup [.int 4,.int 0]),(.inl (3),.tup [.int 2,.int 1]),(.inl (2),.tup [.int 2,.int 0]),(.inl (1),.tup [.int 1,.int 0])]
def V6:D:=.int (-7)
def V7:D:=.int 7
def ut:D:=.str "FCGDAEB"
def Kt:List (Sum Int Str×D):=[(.inr "C",.int 0),(.inr "D",.int 2),(.inr "E",.int 4),(.inr "F",.int 5),(.inr "G",.int 7),(.inr "A",.int 9),(.inr "B",.int 11)]
def V8:D:=.dK Kt
def V9:D:=.int 1
def Va:D:=.int 5000
def Vb:D:=.int 4
def Vc:D:=.int 3
def J8:D:=.int 20
def Vd:D:=.tup [.tup [.int 0,.int 1000],.tup [.int 1,.int 24],.tup [.int 1,.int 64]]
def Ve:D:=.tup [.int 1,.int 2,.int 4,.int 8,.int 16,.int 32,.int 64]
def Vf:D:=.int 8
def Vg:D:=.int 512
def J9:D:=.int 8
def Ku:SF :=
 (qp (eOp qz (eOp jX 7[5] (eOp vQ (q9 0) 1[5])) (eOp wY (eC V2) (eOp vQ (q9 0) 0[5]))))
def yJ:Den:=den 1 Ku
def Kv:SF :=
 (qe (qj 2 (eOp qc (eC V3) (q9 1)))
 (qe (qj 3 (eOp qX (eOp qX (q9 0) (q9 2)) (eC V4)))
 (qe (qj 4 (eOp qX (q9 2) (q9 0)))
 (qp (eOp vK (eB ZM [(q9 3),(q9 4),0[5]]) 2[5])))))
def uu:Den:=den 5 Kv
def qcL:SF :=
 (qp (qV 1 (ji (eC xa)) (gV 2) jg (eIf (tE (eOp dEq (q9 2) (q9 1))) (eOp qc (q9 0) (q9 2)) (eOp qz (eOp qc (q9 0) (q9 2)) (eC Ks)))))
def w9:Den:=den 2 qcL
def qcM:SF :=
 (qp (wP (eUn (dIs .int) (q9 0)) (WW (eUn (dIs .bool) (q9 0)))))
def uv:Den:=den 1 qcM
def Vh:SF :=
 (qp (wP (eUn (dIs .list) (q9 0)) (xT dLe dLe (q9 1) (eB qA [(q9 0)]) (q9 2))))
def yK:Den:=den 3 Vh
def qcN:SF :=
 (qp (eOp qz (eOp qc (q9 0) 0[5]) (eOp qc (q9 0) 1[5])))
def zB:Den:=den 1 qcN
def Kw:SF :=
 (qe (yC 1 eDT)
 (qe (qJ (ji (eB vZ [(q9 0)])) (gV 2) (sSd 1 [(eOp qc (q9 2) 0[5]),(eOp qc (q9 2) 1[5])] (jk []) (eOp qc (q9 2) 2[5])))
 (ud 1 (qp (qV 1 (iT 1) (gV 3) jg (js [(eOp qc (q9 3) 0[5]),(eOp qc (q9 3) 1[5]),(eB yi [(eOp wX (q9 1) (q9 3))])]))))))
def y4:Den:=den 3 Kw
def Ky:SF :=
 (qe (qj 1 (jk []))
 (qe (qj 2 (q9 0))
 (qe (qJ (Zl (eC V5)) (gV 3) (kg 520 (tE (eOp dLe (q9 3) (q9 2))) (qe (qY 1 (q9 3))
 (jU 2 qX (q9 3)))))
 (ju 1))))
def uw:Den:=den 4 Ky
def Kz:SF :=
 (qp (eOp qz (q9 0) (eOp vv (eOp qX (q9 1) (q9 0)) (q9 2))))
def uz:Den:=den 3 Kz
def qcO:SF :=
 (qp (eOp vK (eOp qz (q9 0) 1[5]) 7[5]))
def Ja:Den:=den 1 qcO
def KA:SF :=
 (qe (qj 1 (jk []))
 (qe (qJ (zd 0) (gT [2,3]) (qe (qj 4 0[5])
 (qJ (zd 3) (gT [5,6]) (qe (qY 1 (js [(q9 4),(q9 2),(q9 5)]))
 (jU 4 zI (eOp qc (q9 6) 1[5]))))))
 (qp (eB vZ [(q9 1)]))))
def wa:Den:=den 7 KA
def Jb:SF :=
 (qe (sIf (tOr (tE (eOp zK (q9 0) (eC .non))) (tOr (tE (eOp dEq (eOp qc (q9 0) 0[5]) (eC (.str "rest")))) (jA (tE (eOp qc (q9 0) 3[5]))))) (qp (eC .non)) qr)
 (qp (eOp qc (q9 0) 2[5])))
def y6:Den:=den 1 Jb
def KD:SF :=
 (qe (qj 1 0[5])
 (qe (jB 0 (qJ (iV 0) (gV 2) (jB 2 (qJ (iV 2) (gV 3) (sIf (tE (eOp dEq (eOp qc (q9 3) 0[5]) (eC (.str "note")))) (jU 1 zI (eB qA [(qV 1 (ji (eOp qc (q9 3) 2[5])) (gV 4) (tE (eOp wI (eOp qc (q9 4) 2[5]) (eC .non))) (q9 4))])) qr)))))
 (ju 1)))
def Jc:Den:=den 4 KD
def KF:SF :=
 (qJ (zd 0) (gT [2,3]) (sIf (tE (eOp dGt (q9 3) (q9 1))) zr qr))
def Jd:Den:=den 4 KF
def KG:SF :=
 (qe (qj 4 (jk []))
 (qe (qj 5 (q9 1))
 (qe (qJ (iR2 (eOp qz (q9 2) 1[5]) (eOp qz (eB qA [(q9 0)]) 1[5])) (gV 6) (qe (jU 5 qX (eOp qc (q9 0) (eOp qX (q9 6) 1[5])))
 (qe (sIf (tE (eOp dLt (q9 5) 0[5])) yj qr)
 (qe (qj 7 (eIf (tE (eOp dEq (q9 6) (eB qA [(q9 0)]))) 0[5] (eOp qz (eOp jX (q9 5) (q9 5)) (eOp qc (eOp qc (q9 3) (q9 6)) 0[5]))))
 (qY 4 (js [(q9 7),(eUn jM (q9 6))]))))))
 (ju 4))))
def uA:Den:=den 8 KG
def KH:SF :=
 (qp (eOp jX (eOp qc (q9 0) 1[5]) (eOp qc (q9 0) 2[5])))
def wc:Den:=den 1 KH
def Vi:SF :=
 (qe (sIf (tE (eOp dEq (q9 1) 0[5])) (qp (eOp dEq (eOp qc (eOp qc (q9 0) 0[5]) 0[5]) 0[5])) qr)
 (qp (eOp dGt (eOp qc (eOp qc (q9 0) (q9 1)) 0[5]) (eOp qc (eOp qc (q9 0) (eOp qX (q9 1) 1[5])) 0[5]))))
def y7:Den:=den 2 Vi
def KJ:SF :=
 (qe (sIf (tE (eOp dLt (q9 1) (eB qA [(q9 0)]))) (qp (eOp qc (q9 0) (q9 1))) qr)
 (qp 0[5]))
def vI:Den:=den 2 KJ
def KL:SF :=
 (qp (eOp vv (eOp vv (eOp jX (q9 0) 48271[5]) (q9 1)) (q9 2)))
def zw:Den:=den 3 KL
def qcP:SF :=
 (qe (jB 1 (qJ (iV 1) (gV 2) (sIf (zo (tE (eOp dEq (eOp qc (q9 0) 2[5]) (eOp qc (q9 2) 2[5]))) (zo (tE (eOp dLt (eOp qc (q9 0) 0[5]) (eOp qz (eOp qc (q9 2) 0[5]) (eOp qc (q9 2) 1[5])))) (tE (eOp dLt (eOp qc (q9 2) 0[5]) (eOp qz (eOp qc (q9 0) 0[5]) (eOp qc (q9 0) 1[5])))))) (qp (eC (.bl false))) qr)))
 (qp (eC (.bl true))))
def Je:Den:=den 3 qcP
def qcQ:SF :=
 (qe (qj 2 eDT)
 (qe (jB 1 (qJ (iV 1) (gV 3) (sIf (zo (tE (eOp dLt (eOp qc (q9 3) 0[5]) (eOp qz (eOp qc (q9 0) 0[5]) (eOp qc (q9 0) 1[5])))) (tE (eOp dLt (eOp qc (q9 0) 0[5]) (eOp qz (eOp qc (q9 3) 0[5]) (eOp qc (q9 3) 1[5]))))) (sIf (tE (eOp dNe (js [(eOp qc (q9 3) 0[5]),(eOp qc (q9 3) 1[5])]) (js [(eOp qc (q9 0) 0[5]),(eOp qc (q9 0) 1[5])]))) (kN 2 [(eOp qc (q9 3) 0[5]),(eOp qc (q9 3) 1[5])] (eC (.bl true))) qr) qr)))
 (qp (eB qA [(q9 2)]))))
def Jf:Den:=den 4 qcQ
def KM:SF :=
 (qp (eOp qz (eOp jX 7[5] (eOp vQ (q9 0) 1[5])) (eOp wY (eC (.str "CDEFGAB")) (eOp vQ (q9 0) 0[5]))))
def uB:Den:=den 1 KM
def KN:SF :=
 (qe (qj 1 (jk []))
 (qe (jB 0 (qJ (iV 0) (gV 2) (jB 2 (qJ (iV 2) (gV 3) (sIf (tE (eOp dEq (eOp qc (q9 3) 0[5]) (eC (.str "note")))) (vF 1 (qV 1 (ji (eOp qc (q9 3) 2[5])) (gV 4) jg (qi yJ [(q9 4)]))) qr)))))
 (ju 1)))
def uC:Den:=den 4 KN
def KO:SF :=
 (qp (eB xS [(qV 1 (iVc 0) (gV 2) jg (qi uu [(q9 2),(q9 1)]))]))
def yL:Den:=den 2 KO
def KP:SF :=
 (qp (wP (qi uv [(q9 0)]) (xT dLe dLe (q9 1) (q9 0) (q9 2))))
def xf:Den:=den 3 KP
def KQ:SF :=
 (qp (wP (eOp dEq (eOp qc (q9 0) 2[5]) (eOp qc (q9 1) 2[5])) (wP (eOp dLt (eOp qc (q9 0) 0[5]) (qi zB [(q9 1)])) (eOp dLt (eOp qc (q9 1) 0[5]) (qi zB [(q9 0)])))))
def uD:Den:=den 2 KQ
def KR:SF :=
 (qp (qV 1 (ji (qi uw [(q9 0)])) (gV 1) jg (js [(eC (.str "rest")),(q9 1)])))
def xg:Den:=den 1 KR
def KS:SF :=
 (qe (qj 3 (qi zB [(q9 0)]))
 (qe (qj 4 (jk []))
 (qe (qj 5 (q9 1))
 (qe (qJ (ji (qi uw [(eOp qX (q9 2) (q9 1))])) (gV 6) (qe (jU 5 zI (q9 6))
 (qY 4 (js [(eC (.str "note")),(q9 6),(eOp qc (q9 0) 2[5]),(eOp dLt (q9 5) (q9 3))]))))
 (ju 4)))))
def xh:Den:=den 7 KS
def qcR:SF :=
 (qp (qi uz [(eOp qX (q9 1) 4[5]),(eOp jX 7[5] (q9 0)),12[5]]))
def Vj:Den:=den 2 qcR
def KU:SF :=
 (qp (qi Ja [(qi uz [(eOp qX (q9 1) 1[5]),(eOp qX (eOp wY (eC ut) (q9 0)) 1[5]),7[5]])]))
def yM:Den:=den 2 KU
def KW:SF :=
 (qe (qj 1 (ZX (qV 1 (ji (qi wa [(q9 0)])) (gV 2) jg (eOp qc (q9 2) 0[5]))))
 (qp (eOp qz (eOp qz (eC Vb) (eOp jX (eC Vc) (q9 1))) (qi Jc [(q9 0)]))))
def y8:Den:=den 2 KW
def KY:SF :=
 (qe (sIf (jA (tE (qi uv [(q9 1)]))) zr qr)
 (qe (xJ (qi Jd [(q9 0),(q9 1)]))
 (qe (qj 2 (eOp kY (jk [(js [0[5],0[5]])]) (eB qA [(q9 0)])))
 (qe (qJ (iR3d (eOp qX (eB qA [(q9 0)]) 1[5]) (eUn jM 1[5]) (eUn jM 1[5])) (gV 3) (kL 2 (q9 3) (eB kZ [(qi uA [(q9 0),(q9 1),(q9 3),(q9 2)])])))
 (ju 2)))))
def Jg:Den:=den 4 KY
def KZ:SF :=
 (qe (qj 2 eDK)
 (qe (jB 0 (qJ (iV 0) (gV 3) (vX 2 (eOp qc (q9 3) 0[5]) (qi wc [(q9 3)]))))
 (qe (qj 4 (jk []))
 (qe (qj 5 0[5])
 (qe (qJ (iR1 (q9 1)) (gV 6) (qe (qj 5 (xQ (q9 2) (q9 6) (q9 5)))
 (qY 4 (q9 5))))
 (ju 4))))))
def uE:Den:=den 7 KZ
def X0:SF :=
 (qe (qj 2 0[5])
 (qe (qj 3 0[5])
 (qe (qj 4 0[5])
 (qe (jB 0 (qJ (iV 0) (gV 5) (qe (qj 6 (eOp qz (q9 3) (eOp jX (eOp qX (eOp qc (q9 5) 0[5]) (q9 2)) (q9 4))))
 (qe (sIf (tE (eOp dLt (q9 1) (q9 6))) yj qr)
 (qe (qj 2 (eOp qc (q9 5) 0[5]))
 (qe (qj 3 (q9 6))
 (qj 4 (qi wc [(q9 5)]))))))))
 (qp (js [(eOp qz (q9 2) (eOp vK (eOp qX (q9 1) (q9 3)) (q9 4))),(eOp vv (eOp qX (q9 1) (q9 3)) (q9 4))]))))))
def Jh:Den:=den 7 X0
def qcS:SF :=
 (qe (qJ (zd 0) (gT [2,3]) (sIf (tE (eOp dLe (qi zB [(eOp qc (q9 3) (eUn jM 1[5]))]) (q9 1))) (ju 2) qr))
 (qp (eB qA [(q9 0)])))
def uF:Den:=den 4 qcS
def X1:SF :=
 (qp (eOp dEq (qi zw [(eOp qz (qi vI [(q9 0),0[5]]) (eOp jX 7[5] (eB qA [(q9 0)]))),9871[5],8[5]]) 3[5]))
def Ji:Den:=den 1 X1
def Vk:SF :=
 (qe (qj 7 (qi zw [(q9 0),9949[5],4[5]]))
 (qe (sIf (zo (tE (q9 1)) (tE (eOp dEq (q9 7) 0[5]))) (qe (qj 3 (eOp qc (eOp qc (q9 1) (eUn jM 1[5])) 0[5]))
 (qj 4 (eOp qc (eOp qc (q9 1) (eUn jM 1[5])) 1[5]))) qr)
 (qe (sIf (zo (tE (q9 1)) (zo (tE (eOp dEq (q9 7) 1[5])) (tE (eOp dLe (eOp qz (eOp qc (eOp qc (q9 1) (eUn jM 1[5])) 0[5]) (eOp qc (eOp qc (q9 1) (eUn jM 1[5])) 1[5])) (q9 6))))) (qe (qj 3 (eOp qz (eOp qc (eOp qc (q9 1) (eUn jM 1[5])) 0[5]) (eOp qc (eOp qc (q9 1) (eUn jM 1[5])) 1[5])))
 (sIf (tE (eOp dEq (qi zw [(q9 0),9941[5],2[5]]) 0[5])) (qj 5 (eOp qc (eOp qc (q9 1) (eUn jM 1[5])) 2[5])) qr)) qr)
 (qp (js [(q9 3),(q9 4),(q9 5)])))))
def X2:SF :=
 (qe (qj 3 (qi zw [(q9 0),10007[5],97[5]]))
 (qe (qj 4 (eOp qz 1[5] (qi zw [(q9 0),9973[5],48[5]])))
 (qe (qj 5 (eOp qz 52[5] (qi zw [(q9 0),9967[5],25[5]])))
 (qe (qj 6 96[5])
 (qe (sIf (tE (q9 2)) (qe (qj 3 (qi zw [(q9 0),10007[5],1001[5]]))
 (qe (qj 4 (eOp qz 1[5] (qi zw [(q9 0),9973[5],400[5]])))
 (qe (qj 5 (qi zw [(q9 0),9967[5],128[5]]))
 (qj 6 1000[5])))) qr)
 Vk)))))
def uG:Den:=den 8 X2
def X3:SF :=
 (qp (eOp dEq (eOp vv (qi vI [(q9 0),0[5]]) 4[5]) 3[5]))
def Jj:Den:=den 1 X3
def X4:SF :=
 (qe (qj 3 (jk [1[5],2[5],4[5],8[5],16[5],32[5],64[5]]))
 (qe (qj 4 8[5])
 (qe (qj 5 96[5])
 (qe (sIf (tE (q9 2)) (qe (qj 3 (jk [4[5],8[5],16[5],32[5],64[5]]))
 (qe (qj 4 64[5])
 (qj 5 512[5]))) qr)
 (qe (qj 6 (eOp qc (q9 3) (qi zw [(q9 0),10007[5],(eB qA [(q9 3)])])))
 (qe (qj 7 (eOp vK (eOp qX (eOp qz (q9 4) (q9 6)) 1[5]) (q9 6)))
 (qe (qj 8 (eB kc [24[5],(eOp vK (q9 5) (q9 6))]))
 (qp (js [(q9 1),(eOp qz (q9 7) (qi zw [(q9 0),9973[5],(eOp qz (eOp qX (q9 8) (q9 7)) 1[5])])),(q9 6)])))))))))
def uH:Den:=den 9 X4
def X5:SF :=
 (qp (eOp qX (qi zw [(qi vI [(q9 0),5[5]]),9883[5],15[5]]) 7[5]))
def Jk:Den:=den 1 X5
def X6:SF :=
 (qe (sIf (tE (eOp dNe (qi uB [(q9 1)]) (eOp qz (qi uB [(q9 0)]) 4[5]))) (qp (eC (.bl false))) qr)
 (qe (sIf (tOr (tE (eOp zK (eOp qc (q9 0) 2[5]) (eC .non))) (tE (eOp zK (eOp qc (q9 1) 2[5]) (eC .non)))) (qp (wP (eOp zK (eOp qc (q9 0) 2[5]) (eC .non)) (eOp zK (eOp qc (q9 1) 2[5]) (eC .non)))) qr)
 (qp (eOp dEq (eOp qc (q9 1) 2[5]) (eOp qz (eOp qc (q9 0) 2[5]) (eB ZJ [(eOp dEq (eOp qc (q9 0) 0[5]) (eC (.str "B")))]))))))
def uI:Den:=den 2 X6
def X7:SF :=
 (qe (qj 1 (jk []))
 (qe (qj 2 (jk [0[5],0[5],0[5]]))
 (qe (qJ (QO 0) (gV 3) (qe (qj 4 (qi uC [(q9 3)]))
 (qe (qj 2 (qV 1 (ji (eC xa)) (gV 5) jg (eOp qz (qi yL [(q9 4),(q9 5)]) (eB wK [(qi w9 [(q9 2),(q9 5)])]))))
 (jB 2 (qY 1 (q9 2))))))
 (qp (ZG (q9 1))))))
def uJ:Den:=den 5 X7
def X8:SF :=
 (qe (sIf (tOr (jA (tE (eUn (dIs .tuple) (q9 0)))) (tE (eOp dNe (eB qA [(q9 0)]) (eB qA [(q9 1)])))) (qp (eC (.bl false))) qr)
 (qe (qJ (uc 0 1) (gT [2,3]) (sIf (jA (tE (qi xf [(q9 2),(eOp qc (q9 3) 0[5]),(eOp qc (q9 3) 1[5])]))) (qp (eC (.bl false))) qr))
 (qp (eC (.bl true)))))
def y9:Den:=den 4 X8
def X9:SF :=
 (qe (qJ (ji (eSl (q9 0) oNo (oE (q9 1)))) (gV 2) (sIf (tE (qi uD [(q9 2),(eOp qc (q9 0) (q9 1))])) (qp (eC (.bl true))) qr))
 (qp (eC (.bl false))))
def xi:Den:=den 3 X9
def Xa:SF :=
 (qe (qj 3 (jk []))
 (qe (qj 4 (q9 1))
 (qe (jB 0 (qJ (iV 0) (gV 5) (qe (qj 6 (eB xR [(eOp qc (q9 5) 0[5]),(q9 1)]))
 (qe (qj 7 (eB kc [(qi zB [(q9 5)]),(q9 2)]))
 (sIf (tE (eOp dLt (q9 6) (q9 7))) (qe (vF 3 (qi xg [(eOp qX (q9 6) (q9 4))]))
 (qe (vF 3 (qi xh [(q9 5),(q9 6),(q9 7)]))
 (qj 4 (q9 7)))) qr)))))
 (qe (vF 3 (qi xg [(eOp qX (q9 2) (q9 4))]))
 (ju 3)))))
def uK:Den:=den 8 Xa
def Xb:SF :=
 (qe (sIf (jA (tE (qi xf [(q9 0),(eC V6),(eC V7)]))) zr qr)
 (ju 0))
def Jl:Den:=den 1 Xb
def Xd:SF :=
 (qe (qj 2 (qi Vj [(q9 0),(q9 1)]))
 (qe (qj 3 (eOp vQ (eC ut) (eOp vv (eOp qz (q9 2) 1[5]) 7[5])))
 (qe (qj 4 (qi Ja [(q9 2)]))
 (qe (qj 5 (eOp vK (eOp qX (eOp qX (q9 0) (eOp xM (eC V8) (q9 3))) (q9 4)) 12[5]))
 (qp (js [(q9 3),(q9 4),(q9 5)]))))))
def uL:Den:=den 6 Xd
def qcT:SF :=
 (qp (uk (q9 2) [(q9 0),(q9 1)] (qi yM [(q9 0),(q9 3)])))
def Jm:Den:=den 4 qcT
def Xe:SF :=
 (qe (sIf (jA (tE (qi xf [(q9 0),(eC V9),(eC Va)]))) zr qr)
 (ju 0))
def Jn:Den:=den 1 Xe
def Xf:SF :=
 (qe (qj 2 (qi Jg [(q9 0),(q9 1)]))
 (qe (qj 3 (jk []))
 (qe (qj 4 0[5])
 (qe (kg 180 (tE (eOp dLt (q9 4) (eB qA [(q9 0)]))) (qe (qY 3 (q9 4))
 (qj 4 (eUn jM (eOp qc (eOp qc (q9 2) (q9 4)) 1[5])))))
 (ju 3)))))
def Jo:Den:=den 5 Xf
def Xg:SF :=
 (qe (qj 2 (eB xR [(eOp qX (q9 1) 1[5]),0[5]]))
 (qp (eOp qz (eOp qc (qi Jh [(q9 0),(q9 2)]) 0[5]) 1[5])))
def yN:Den:=den 3 Xg
def qcU:SF :=
 (qe (yC 1 (jk []))
 (qe (jB 0 (qJ (iV 0) (gV 2) (qe (qj 3 (vY 1 (qi uF [(q9 1),(eOp qc (q9 2) 0[5])])))
 (qe (sIf (tE (eOp dEq (q9 3) (eC J9))) zr qr)
 (qe (sIf (tE (eOp dEq (q9 3) (vY 1 (eB qA [(q9 1)])))) (kT 1 (jk [])) qr)
 (wJ 1 (q9 3) (q9 2)))))))
 (wW 1 (ju 1))))
def yO:Den:=den 4 qcU
def Xh:SF :=
 (qe (qj 2 12[5])
 (qe (sIf (tE (qi Ji [(q9 0)])) (qj 2 24[5]) qr)
 (qe (sIf (tE (eOp dGt (eB qA [(q9 0)]) 63[5])) (qj 2 60[5]) qr)
 (qe (qj 3 (jk []))
 (qe (qJ (ji (eSl (q9 0) (oE 6[5]) (oE (eOp qz 6[5] (q9 2))))) (gV 4) (qe (qj 5 (qi uG [(q9 4),(q9 3),(q9 1)]))
 (sIf (zo (tE (qi Je [(q9 5),(q9 3)])) (tE (eOp dLe (qi Jf [(q9 5),(q9 3)]) 7[5]))) (qY 3 (q9 5)) qr)))
 (ju 3))))))
def uN:Den:=den 6 Xh
def Xi:SF :=
 (qe (qj 2 (jk []))
 (qe (qj 3 0[5])
 (qe (qJ (iR1 (eOp qz 1[5] (eOp vv (qi vI [(q9 0),1[5]]) 3[5]))) (gV 4) (qe (qj 5 (eOp qz (qi vI [(q9 0),1[5]]) (eOp jX 7[5] (qi vI [(q9 0),(eOp qz 2[5] (q9 4))]))))
 (qe (qY 2 (qi uH [(q9 5),(q9 3),(q9 1)]))
 (qj 3 (eOp qz (eOp qz (q9 3) 1[5]) (qi zw [(q9 5),9967[5],3[5]]))))))
 (ju 2))))
def Jp:Den:=den 6 Xi
def Xj:SF :=
 (qe (sIf (tE (eOp dNe (eB qA [(q9 0)]) (eB qA [(q9 1)]))) (qp (eC (.bl false))) qr)
 (qe (qJ (iR1 (eB qA [(q9 0)])) (gV 2) (sIf (jA (tE (qi uI [(eOp qc (q9 0) (q9 2)),(eOp qc (q9 1) (q9 2))]))) (qp (eC (.bl false))) qr))
 (qp (eC (.bl true)))))
def uO:Den:=den 3 Xj
def Xk:SF :=
 (qe (qj 1 (jk []))
 (qe (qJ (ji (qi uJ [(q9 0)])) (gV 2) (qe (qj 3 (eIf (tE (q9 1)) (qi w9 [(q9 2),(eOp qc (q9 1) (eUn jM 1[5]))]) (q9 2)))
 (qY 1 (eOp ui (q9 3) (eB wK [(q9 3)])))))
 (ju 1)))
def Jq:Den:=den 4 Xk
def Xl:SF :=
 (qe (sIf (jA (tE (qi yK [(q9 0),0[5],(eC J7)]))) zr qr)
 (qe (qJ (zd 0) (gT [1,2]) (sIf (tOr (jA (tE (qi y9 [(q9 2),(eC uq)]))) (tE (qi xi [(q9 0),(q9 1)]))) zr qr))
 (qp (eB vZ [(q9 0)]))))
def uP:Den:=den 3 Xl
def Xm:SF :=
 (qe (qj 2 (jk []))
 (qe (qj 3 0[5])
 (qe (jB 1 (qJ (iV 1) (gV 4) (qe (qY 2 (qi uK [(q9 0),(q9 3),(eOp qz (q9 3) (q9 4))]))
 (jU 3 zI (q9 4)))))
 (ju 2))))
def xj:Den:=den 5 Xm
def qcV:SF :=
 (qe (qj 4 (jk []))
 (qe (jB 0 (qJ (iV 0) (gV 5) (qe (qj 6 (qi uL [(q9 5),(q9 3)]))
 (qe (qj 7 (eOp qc (q9 6) 0[5]))
 (qe (qj 8 (eOp qc (q9 6) 2[5]))
 (qe (qj 9 (eC .non))
 (qe (sIf (zo (tE (eOp zK (q9 1) (eC .non))) (tE (eOp dNe (qi Jm [(q9 7),(q9 8),(yG 2),(q9 3)]) (eOp qc (q9 6) 1[5])))) (qe (qj 9 (eOp qc (q9 6) 1[5]))
 (x9 2 [(q9 7),(q9 8)] (q9 9))) qr)
 (qY 4 (js [(q9 7),(q9 8),(q9 9)])))))))))
 (uj 2 (eB yi [(q9 4)]))))
def Jr:Den:=den 10 qcV
def Xn:SF :=
 (qe (sIf (tOr (jA (tE (qi y9 [(q9 0),(eC Vd)]))) (tE (eOp QF (eOp qc (q9 0) 2[5]) (eC Ve)))) (qp (eC (.bl false))) qr)
 (qp (xT dLe dLe (eC Vf) (qi wc [(q9 0)]) (eC Vg))))
def xk:Den:=den 1 Xn
def Xo:SF :=
 (qe (sIf (tE (eOp dNe (eB qA [(q9 0)]) (eB qA [(q9 1)]))) (qp (eC (.bl false))) qr)
 (qe (qJ (iR1 (eB qA [(q9 0)])) (gV 2) (qe (sIf (tOr (tE (eOp dNe (w6 (eOp qc (q9 0) (q9 2)) oNo (oE 2[5])) (w6 (eOp qc (q9 1) (q9 2)) oNo (oE 2[5])))) (tOr (tE (eOp dNe (eB qA [(eOp qc (q9 0) (q9 2))]) (eB qA [(eOp qc (q9 1) (q9 2))]))) (tE (eOp dNe (w6 (eOp qc (q9 0) (q9 2)) (oE 3[5]) oNo) (w6 (eOp qc (q9 1) (q9 2)) (oE 3[5]) oNo))))) (qp (eC (.bl false))) qr)
 (sIf (zo (tE (eOp dEq (eOp qc (eOp qc (q9 0) (q9 2)) 0[5]) (eC (.str "note")))) (jA (tE (qi uO [(eOp qc (eOp qc (q9 0) (q9 2)) 2[5]),(eOp qc (eOp qc (q9 1) (q9 2)) 2[5])])))) (qp (eC (.bl false))) qr)))
 (qp (eC (.bl true)))))
def xm:Den:=den 3 Xo
def qcW:SF :=
 (qe (qj 3 (jk []))
 (qe (qj 4 eDK)
 (qe (jB 0 (qJ (iV 0) (gV 5) (qe (qj 6 eDT)
 (qe (ug 7 (Ka 1 (iVc 5) (gV 12) (jk [])))
 (qe (qJ (ji (qi wa [(q9 5)])) (gV 8) (qe (qj 9 (eOp qc (q9 8) 1[5]))
 (qe (qj 10 (eOp qc (eOp qc (q9 5) (q9 9)) (eOp qc (q9 8) 2[5])))
 (qe (sIf (tE (eOp dEq (eOp qc (q9 10) 0[5]) (eC (.str "note")))) (qe (qj 11 (qi y6 [(yH (q9 4) (q9 9))]))
 (sIO 10 (eIOT (zW (eC (.str "note")) (zW (eOp qc (q9 10) 1[5]) (xIO (eIOV 2 "heads_of" Jr 6 [(eOp qc (q9 10) 2[5]),(q9 11)] [(q9 1)]) (zW (eOp qc (q9 10) 3[5]) uo))))))) qr)
 (qe (wJ 7 (q9 9) (q9 10))
 (vX 4 (q9 9) (q9 10)))))))
 (wW 7 (jB 7 (qY 3 (q9 7)))))))))
 (ju 3))))
def xn:Den:=den 12 qcW
def Xp:SF :=
 (qe (sIf (jA (tE (qi yK [(q9 0),1[5],(eC J8)]))) zr qr)
 (qe (qJ (zd 0) (gT [1,2]) (sIf (tOr (jA (tE (qi xk [(q9 2)]))) (jA (tE (qi y7 [(q9 0),(q9 1)])))) zr qr))
 (qp (eB k9 [(q9 0)]))))
def Js:Den:=den 3 Xp
def qcX:SF :=
 (qe (qj 2 (eOp kO (qV 1 (iVc 0) (gV 7) jg (qi zB [(q9 7)])) 0[5]))
 (qe (qj 3 (qi uE [(q9 1),(qi yN [(q9 1),(q9 2)])]))
 (qe (qj 4 (qV 1 (ji (qi yO [(qi y4 [(q9 0)])])) (gV 7) jg (qi xj [(q9 7),(q9 3)])))
 (qe (qj 5 (jk []))
 (qe (qJ (iR1 (eB qA [(q9 3)])) (gV 6) (qY 5 (qV 1 (iVc 4) (gV 7) jg (eOp qc (q9 7) (q9 6)))))
 (ju 5))))))
def Vl:Den:=den 7 qcX
def qcY:SF :=
 (qp (qi xn [(q9 0),(q9 1),(eC (dFn "heads_of"))]))
def Jt:Den:=den 2 qcY
def Xq:SF :=
 (qe (xJ (qi Jl [(q9 1)]))
 (qe (qj 4 (qi Js [(q9 2)]))
 (qe (qj 5 (qi uP [(q9 0)]))
 (qe (xJ (qi Jn [(q9 3)]))
 (qe (qj 6 (qi Jt [(qi Vl [(q9 5),(q9 4)]),(q9 1)]))
 (qe (qj 7 (qV 1 (iVc 6) (gV 8) jg (qi y8 [(q9 8)])))
 (jB 7 (jB 6 (jB 4 (qp (js [(q9 1),(q9 4),(q9 3),(qi Jq [(q9 6)]),(qi Jo [(q9 7),(q9 3)]),(q9 6)])))))))))))
def uQ:Den:=den 8 Xq
abbrev Xr:Stmt:=top 108
def Vm:SF :=
 (qe (sIf (tE (eOp dNe (eB qA [(q9 5)]) (eB qA [(q9 7)]))) (qp (eC (.bl false))) qr)
 (qe (qJ (iR1 (eB qA [(q9 5)])) (gV 8) (qe (sIf (tE (eOp dNe (eB qA [(eOp qc (q9 5) (q9 8))]) (eB qA [(eOp qc (q9 7) (q9 8))]))) (qp (eC (.bl false))) qr)
 (qJ (iR1 (eB qA [(eOp qc (q9 5) (q9 8))])) (gV 9) (sIf (jA (tE (qi xm [(eOp qc (eOp qc (q9 5) (q9 8)) (q9 9)),(eOp qc (eOp qc (q9 7) (q9 8)) (q9 9))]))) (qp (eC (.bl false))) qr))))
 (qp (eC (.bl true)))))
def Xs:SF :=
 (qe (qj 1 (qi Jj [(q9 0)]))
 (qe (qj 2 (qV 1 (ji (qi uN [(q9 0),(q9 1)])) (gV 10) (tE (eOp dLe (eOp qc (q9 10) 2[5]) 120[5])) (q9 10)))
 (qe (qj 3 (eB kc [6[5],(qi Jk [(q9 0)])]))
 (qe (qj 4 (qi Jp [(q9 0),(q9 1)]))
 (qe (qj 5 (eOp qc (qi uQ [(eB k9 [(q9 2)]),(q9 3),(eB k9 [(q9 4)]),5000[5]]) 5[5]))
 (qe (qj 6 (qV 1 (iVc 2) (gV 10) jg (js [(eOp qc (q9 10) 0[5]),(eOp qc (q9 10) 1[5]),(eOp qz (eOp qc (q9 10) 2[5]) 7[5])])))
 (qe (qj 7 (eOp qc (qi uQ [(q9 6),(eOp qz (q9 3) 1[5]),(eB k9 [(q9 4)]),5000[5]]) 5[5]))
 Vm)))))))
def xo:Den:=den 10 Xs
def FS:FnT:=(apS (apS ["step_of","small_lines","prices_behind","is_whole","is_list_within","end_of","chords","pieces","first_alike","alter_at","in_order","tied_to_next","signs_in","refuse_too_wide","line_choices","told_length","rises","_law_cell","_law_mix","_law_apart","_law_meets","_law_height","steps_of","lines_of","is_whole_within"] ["overlap","rest_events","note_events","fifth","own_alter","width","best_lines","bar_lengths","stands","free_voice","_law_large","_law_note","_law_wide","_law_step","_law_key","_law_higher","clef_prices","is_tuple_within","overlaps_one_ahead","bar_events","checked_key","name_of","alter_by_then","checked_room","firsts"]) ["bars_needed","voiced","_law_notes","_law_meter","_law_heads","clefs","checked_notes","events","heads_of","is_told","_law_events","turned","checked_meter","bars_of","signed","page"]).zip ([6,7,10,22,25,29,33,36,48,50,54,55,66,68,69,78,80,93,94,96,97,104,8,9,23,30,38,39,49,52,67,70,82,83,87,95,98,100,101,103,105,11,24,31,40,47,51,56,65,71,84,88,99,102,106,12,32,41,57,79,107,58,81,90,59,91].map top)
def BL:List Str:=["max","isinstance","int","bool","list","len","sorted","tuple","enumerate","range","sum","set","min","reversed","zip"]
def C0S:List (Str×D):=(["LETTERS_BY_STEPS","LOWEST_LINES","STEPS_BETWEEN","CLEFS","CHANGE","SHAPES","LETTERS_BY_FIFTHS","BAR_WIDTH","PLACE_WIDTH","LOWEST_KEY","HIGHEST_KEY","LEAST_ROOM","MOST_ROOM","MOST_VOICES","MOST_NOTES","BOUNDS_sounds","BOUNDS_meters","UNITS","SHORTEST_BAR","LONGEST_BAR","MOST_TUPLES"]:List Str).zip [V2,V3,V4,xa,Ks,V5,ut,Vb,Vc,V6,V7,V9,Va,J9,J7,uq,Vd,Ve,Vf,Vg,J8]
def CS:List (Str×D):=C0S++[(("PITCHES":Str),V8)]
abbrev Q(W:Wd)(k n:Nat)(d:Den):Prop:=C0 W.P W.w W.K W.mg W.base k (fnm FS n) (psS (fst FS n)) d
abbrev QI(W:Wd)(k n:Nat)(d:Den):Prop:=CI W.P W.w W.K W.mg W.base k (fnm FS n) (psS (fst FS n)) d
local macro_rules
 | `(tactic| nofun)=>do
  let xs:=("xX qi3 qiA qiz qiE qiD qiG qiF qiC qiB jN qh8 qaM qh9 qip zt Yj Zv qha qhb qhc qhd qhe qhf qhg Qv Yk qhh qhi qhj Zw qhk qhl kI qhm qhn qho qhp Yl qaN Ym qaO qhq qhr yw qhs qht qhu qhv x_c xV qhw Qw Qx qhx qhy Qy Qz qhz qhA QA x_B Yn qhB qhC qhD qhE qhF qhG qhH qhI xW qhJ qhK qhL qhM qhN qhO qhP qhQ qhR qhS qhT qhU qhV qhW qhX qhY qhZ qi0 kJ qi1 qi2 wV qiH qiI qiJ qiK y_nt y_nf qir qis qit qiu qiv qiw qix qiy Int.cast_ofNat_Int qi4 qi5 qi6 qi7 qi8 qi9 qia qib qic qid qie qif qig qih qii qij qiq qik qil qim Nat.reduceAdd Nat.reduceSub Nat.reduceLeDiff".splitOn " ").toArray.map λs=>Lean.mkIdent s.toName
  `(tactic| try dsimp only[$[$xs:ident],*])
local macro_rules
 | `(tactic| simp![$xs,*])=>`(tactic| (nofun;repeat (simp only[pE,Yo,Yp,Yq,Yr,d8,YG,$xs,*];nofun)))
 | `(tactic| left)=>`(tactic| (nofun;repeat (simp only[pE,Yo,Yp,Yq,Yr,d8,YG];nofun)))
def cell(z:List Int)(k:Nat):Int:=z.getD k 0
def uR(ns)(k:Nat):vI [.fz (.lst (ns.map D.int)),.fz k[6]]=.ok (cell ns k)[7]:=by
 unfold vI KJ;simp![gg,cell];by_cases h:k<(ns[1]:Int)
 .have h2:k<ns[1]:=""
  simp![tF h,jK];simp[h2];rfl
 have h2:¬ k<ns[1]:=""
 simp![t6 h];simp[h2]
def qR(c p m:Int):Int:=c*48271%p%m
def vk(c p m)(hp:0<p)(z:0<m):zw [.fz c[6],.fz p[6],.fz m[6]]=.ok (qR c p m)[7]:=by
 unfold zw KL;simp![Zx (j:=48271) "d" "d",yx hp,yx z,qR]
def vm(c p m)(z:0<m):0<=qR c p m/\qR c p m<m:=#[dF _ "",bG _ z]
def vn(wd:Bool):List Int:=if wd then [4,8,16,32,64]else [1,2,4,8,16,32,64]
def yP(wd:Bool):Int:=if wd then 64 else 8
def ya(wd:Bool):Int:=if wd then 512 else 96
def jx(c:Int)(wd:Bool):Int:=(vn wd).getD (qR c 10007 (vn wd)[1]).toNat 1
def wg(wd:Bool)(u:Int):Int:=(yP wd+u-1)/u
def wM(wd:Bool)(u:Int):Int:=if ya wd/u<24 then ya wd/u else 24
def vq(c:Int)(wd:Bool):Int:=wg wd (jx c wd)+qR c 9973 (wM wd (jx c wd)-wg wd (jx c wd)+1)
def uS(c)(wd):jx c wd∈vn wd:=by
 unfold jx;have h:=vm c 10007 (vn wd)[1] (by cases wd<;>decide)
 simp_all
def uT(wd):∀ u∈vn wd,0<u/\u<=64/\0<wg wd u/\wg wd u<=wM wd u/\wM wd u<=24/\yP wd<=wg wd u*u/\wM wd u*u<=ya wd:=by
 cases wd<;>decide
def Vn(c)(wd):wg wd (jx c wd)<=vq c wd/\vq c wd<=wM wd (jx c wd):=by
 obtain⟨_,_,h1,h2,_⟩:=uT wd _ (uS c wd);have h:=vm c 9973 (wM wd (jx c wd)-wg wd (jx c wd)+1) ""
 unfold vq;lia
def qw(p:Int×Int×Int):D:=.tup [.int p.1,.int p.2.1,.int p.2.2]
def ix_list(us:List Int)(dflt)(j:Int)(h0:0<=j)(h1:j<us[1]):okD (ati (us.map D.int) j)=.ok (us.getD j.toNat dflt)[7]:=by
 obtain⟨n,rfl⟩:=pB h0;rw[jK,gC,tm,fC,gw ""]
 rfl
def qcZ(c bar)(wd):uH [.fz c[6],.fz bar[6],.fz (.bl wd)]=.ok (qw (bar,vq c wd,jx c wd))[8]:=by
 obtain⟨u1,u2,h1,h2,h3,_⟩:=uT wd _ (uS c wd);have hm:=vm c 10007 (vn wd)[1] (by cases wd<;>decide)
 have mx:=vk c 9973 (wM wd (jx c wd)-wg wd (jx c wd)+1) "d" ""
 have ix:=ix_list (vn wd) 1 _ hm.1 hm.2;have z:=vk c 10007 (vn wd)[1] "d" (by cases wd<;>decide)
 have d1:=QB (i:=yP wd+jx c wd-1) u1 ""
 have d2:=QB (i:=ya wd) u1 ""
 rw[show(vn wd).getD (qR c 10007 (vn wd)[1]).toNat 1=jx c wd from rfl]at ix
 unfold uH X4;cases wd
 .simp[vn,yP,ya,pZ,tS,gN,cy,gK,fH,reduceAdd,Int.cast_ofNat_Int]at ix z d1 d2;simp![z,ix,d1,d2];rw[show(8+jx c false-1)/jx c false=wg false (jx c false)from rfl,show(if 96/jx c false<24 then 96/jx c false else 24)=wM false (jx c false)from rfl]
  simp![mx,qw,vq]
 simp[vn,yP,ya,d8,gN,cy,gK,fH,reduceAdd,Int.cast_ofNat_Int]at ix z d1 d2;simp![z,ix,d1,d2];rw[show(64+jx c true-1)/jx c true=wg true (jx c true)from rfl,show(if 512/jx c true<24 then 512/jx c true else 24)=wM true (jx c true)from rfl]
 simp![mx,qw,vq]
def jC(z:List Int)(k:Nat):Int:=cell z 1+7*cell z (2+k)
def mbar(z:List Int):Nat->Int
 | 0=>0
 | k+1=>mbar z k+1+qR (jC z k) 9967 3
def mtup(z:List Int)(wd:Bool)(k:Nat):Int×Int×Int:=(mbar z k,vq (jC z k) wd,jx (jC z k) wd)
def yQ(z:List Int):Nat:=(1+cell z 1%3).toNat
def wj(z:List Int)(wd:Bool):List (Int×Int×Int):=(List.range (yQ z)).map (mtup z wd)
def Ju(ns):1<=yQ ns/\yQ ns<=3/\(yQ ns)=1+cell ns 1%3:=by
 unfold yQ;lia
def qd0(ns)(wd):Jp [.fz (.lst (ns.map D.int)),.fz (.bl wd)]=.ok (.lst ((wj ns wd).map qw))[9]:=by
 obtain⟨m1,m2,m3⟩:=Ju ns;have c1:=uR ns 1;have hz:sz=16777216:=rfl;unfold Jp Xi;left;rw[show((1:Nat):Int)=1 from rfl]at c1
 rw[yz (n:=yQ ns) (by simp![c1,yx (j:=3) "d",m3]) ""]
 left;obtain⟨ρ',e,j4,j5,hI⟩:=Zr (yQ ns) (λk ρ=>∃ j4 j5,ρ=[!(.lst (ns.map D.int))[8],!(.bl wd)[8],!(.lst (((List.range k).map (mtup ns wd)).map qw))[9],!(mbar ns k)[7],j4,j5])
  (g:=gV 4) (b:=qe (qj 5 (eOp qz (qi vI [(q9 0),1[5]]) (eOp jX 7[5] (qi vI [(q9 0),(eOp qz 2[5] (q9 4))]))))
   (qe (qY 2 (qi uH [(q9 5),(q9 3),(q9 1)])) (qj 3 (eOp qz (eOp qz (q9 3) 1[5]) (qi zw [(q9 5),9967[5],3[5]])))))
  (ρ:=[!(.lst (ns.map D.int))[8],!(.bl wd)[8],!(.lst [])[9],!0[7],none,none]) #[none,none,rfl] (λk ρ hk #[j4,j5,hρ]=>by
   subst hρ;refine#[_,_,rfl,.inl ?_,!k[7],!(jC ns k)[7],rfl];have c2:=uR ns (2+k);rw[show(2+k:Nat)=2+(k:Int)by lia]at c2
   simp![c1,c2,yy (i:=7) "d" "d"]
   rw[show cell ns 1+7*cell ns (2+k)=jC ns k from rfl,zz (d:=qw (mtup ns wd k)) rfl (by simp;lia) (by simp![(qcZ (jC ns k) (mbar ns k) wd)];rfl)]
   simp![(vk (jC ns k) 9967 3 "d" "d")]
   simp[dG,mbar])
 rw[e];subst hI;rfl
def jm(p:Int×Int×Int):Int:=p.2.1*p.2.2
def Fine(ms:List (Int×Int×Int)):Prop:=ms.Pairwise (λp q=>p.1<q.1)/\(∀ p∈ms,0<=p.1/\0<=p.2.1/\p.2.1<=24)/\(∃ p∈ms,p.1=0)/\ms[1]<=20
def zX(ms:List (Int×Int×Int))(b:Int):List Int:=(ms.filter λp=>decide (p.1<=b)).map jm
def jw(ms:List (Int×Int×Int))(b:Int):Int:=(zX ms b).getLast?.getD 0
def Vp(ns){i j:Nat}(h:i<j):mbar ns i<mbar ns j:=by
 induction j with
 | zero=>lia
 | succ j ih =>
  have:=vm (jC ns j) 9967 3 "d"
  have e:mbar ns (j+1)=mbar ns j+1+qR (jC ns j) 9967 3:=rfl
  grind
def Xt(ns)(wd):Fine (wj ns wd):=by
 obtain⟨m1,m2,_⟩:=Ju ns;refine#[?_,λp hp=>?_,#[mtup ns wd 0,gJ.mpr #[0,by simp;lia,rfl],rfl],by simp[wj];lia]
 .unfold wj;rw[tY];exact List.pairwise_lt_range.imp λh=>Vp ns h
 obtain⟨k,_,rfl⟩:=gJ.mp hp;have h1:=Vn (jC ns k) wd;have h2:=uT wd _ (uS (jC ns k) wd);refine#[?_,?_,?_]
 .show 0<=mbar ns k;cases k with
  | zero=>exact pt _
  | succ k=>exact cR (Vp ns (Nat.succ_pos k))
 .show 0<=vq (jC ns k) wd;lia
 show vq (jC ns k) wd<=24;lia
def qd1(f:Fine ms)(i:Nat):(zX ms i).getLast?=!(jw ms i):=by
 obtain⟨p,hp,B⟩:=f.2.2.1;have ne:zX ms i≠[]:=λz=>by
  have:jm p∈zX ms i:=gJ.mpr #[p,pH.mpr #[hp,by simp;lia],rfl]
  simp_all
 unfold jw;cases h:(zX ms i).getLast? with
 | none=>exact absurd (pf.mp h) ne
 | some v=>rfl
def Lens(ms:List (Int×Int×Int)):Prop:=∀ p∈ms,8<=jm p/\jm p<=512/\p.1<=1000
def qd2(f:Fine ms)(i:Nat):∃ p∈ms,jw ms i=jm p:=by
 obtain⟨p,hp,e⟩:=gJ.mp (cY (qd1 f i));exact#[p,(pH.mp hp).1,e.symm]
def Jv(f:Fine ms)(l:Lens ms)(i:Nat):8<=jw ms i/\jw ms i<=512:=by
 obtain⟨p,hp,e⟩:=qd2 f i;have:=l p hp;lia
def qD(ms:List (Int×Int×Int))(b:Nat):Int:=((List.range b).map λk:Nat=>jw ms k).sum
def qd3(ms):qD ms 0=0:=rfl
def yb(ms)(b):qD ms (b+1)=qD ms b+jw ms b:=by
 unfold qD;rw[dG];simp
def Xu(f:Fine ms)(l:Lens ms)(a k):qD ms a+8*k<=qD ms (a+k):=by
 induction k with
 | zero=>simp
 | succ k ih =>
  have:=Jv f l (a+k);rw[show a+(k+1)=a+k+1 from rfl,yb]
  lia
def Xv{p:Int×Int×Int}{b:Int}(e:ms=pre++p::post)(z:p.1<=b)(B:∀ q∈post,b<q.1):jw ms b=jm p:=by
 subst e;have:post.filter (λq=>decide (q.1<=b))=[]:=fG.mpr λq h=>by
  have:=B q h;simp;lia
 unfold jw zX;rw[pX,pC z[""],this]
 simp
def Xw{p:Int×Int×Int}(e:ms=pre++p::post)(hp:0<=p.1)(k:Nat)(z:∀ q∈post,p.1+k<=q.1):qD ms (p.1.toNat+k)=qD ms p.1.toNat+k*jm p:=by
 induction k with
 | zero=>simp
 | succ k ih =>
  rw[show p.1.toNat+(k+1)=p.1.toNat+k+1 from rfl,yb,ih (λq h=>by have:=z q h;lia),(Xv e "" λq h=>by have:=z q h;lia)]
  lia
def qd4(ns)(wd):Lens (wj ns wd):=λp hp=>by
 obtain⟨m1,m2,_⟩:=Ju ns;obtain⟨k,hk,rfl⟩:=gJ.mp hp;have hk:=dP.mp hk;have h1:=Vn (jC ns k) wd;obtain⟨u1,u2,u3,u4,u5,u6,u7⟩:=uT wd _ (uS (jC ns k) wd);have lo:=tP h1.1 (cR u1);have hi:=tP h1.2 (cR u1);have hb:∀ j,mbar ns j<=3*j:=λj=>by
  induction j with
  | zero=>simp[mbar]
  | succ j ih =>
   have:=vm (jC ns j) 9967 3 "d"
   show mbar ns j+1+qR (jC ns j) 9967 3<=_;lia
 have hb:=hb k;have w8:8<=yP wd/\ya wd<=512:=by cases wd<;>decide
 refine#[?_,?_,?_]
 .show 8<=vq (jC ns k) wd*jx (jC ns k) wd;lia
 .show vq (jC ns k) wd*jx (jC ns k) wd<=512;lia
 show mbar ns k<=1000;lia
def Vq(p)(h:0<=p.2.1/\p.2.1<=24):wc [.fz (qw p)]=.ok (jm p)[7]:=by
 unfold wc KH;simp![qw,yy (i:=p.2.1) "" "",jm]
def Jw:qC g b [] ρ=.nx ρ:=rfl
def turn(g:GF)(b:SF)(xs:List D)(o:Out):Out:=match o with
 | .nx ρ2=>qC g b xs ρ2
 | .ct ρ2=>qC g b xs ρ2
 | .bk ρ2=>.nx ρ2
 | o=>o
def zY{g:GF}{b:SF}(h:g x ρ=.ok ρ1):qC g b (x::xs) ρ=turn g b xs (b ρ1):=by
 show(match g x ρ with|.ok ρ1=>_|.exc x=>_|.stuck=>_)=_
 rw[h];rfl
def yc:turn g b xs (.nx ρ)=qC g b xs ρ:=rfl
def qiL:turn g b xs (.rt w)=.rt w:=rfl
def uU:D->Bool
 | .xc _ _=>false
 | _=>true
def zx(lo hi:Int):D->Bool
 | .int i=>decide (lo<=i)&&decide (i<=hi)
 | _=>false
def Xx:D->Bool
 | .int _=>true
 | _=>false
def qd5(d)(h:uU d=true):uv [.fz d]=.ok (.bl (Xx d))[8]:=by
 cases d<;>first|rfl|cases h
def uV(d)(lo hi)(h:uU d=true):xf [.fz d,.fz lo[6],.fz hi[6]]=.ok (.bl (zx lo hi d))[8]:=by
 unfold xf KP;simp![(qd5 d h)];cases d<;>first|rfl|(done)|skip
 rename_i i;simp![Xx,zx];by_cases c:lo<=i
 .simp![c,decide_true,dH]
 simp![c,decide_false,bJ]
def qd6{i j:Nat}(h:ρ[i]?=!(!(.tup ds)[8]))(h2:ρ[j]?=!(!(.tup es)[8])):uc i j ρ=.ok (zipd ds es):=by unfold uc;rw[h,h2]
def Xy(a b c)(l1 h1 l2 h2 l3 h3)(z:uU a=true)(B:uU b=true)(O:uU c=true) :
  y9 [.fz (.tup [a,b,c]),.fz (.tup [.tup [.int l1,.int h1],.tup [.int l2,.int h2],.tup [.int l3,.int h3]])]=.ok (.bl (zx l1 h1 a&&(zx l2 h2 b&&zx l3 h3 c)))[8]:=by
 unfold y9 X8;left;rw[show(not (((3:Int))==3))=false from rfl]
 left;rw[qd6 rfl rfl];simp![zipd];rw[zY rfl];simp![uV a l1 h1 z];cases zx l1 h1 a
 .rfl
 simp![yc];rw[zY rfl];simp![uV b l2 h2 B];cases zx l2 h2 b
 .rfl
 simp![yc];rw[zY rfl];simp![uV c l3 h3 O];cases zx l3 h3 c
 .rfl
 rfl
def qiM{i:Nat}(h:ρ[i]?=!(!(.br (.lst ds)))):zd i ρ=.ok (numd 0 ds):=by unfold zd;rw[h]
def Vr{i:Nat}(h:(numd 0 ds)[i]?=!x):∃ d,ds[i]?=!d/\x=.tup [.int i,d]:=by
 obtain⟨d,e1,e2⟩:=ZE ds 0 i x h;rw[pE]at e2;exact#[d,e1,e2]
def qd7(xs:List D)(n:Nat):L3.vj xs none ↑n=xs.take n:=by
 unfold L3.vj;rw[HT.sIx_none,HT.sIx_nat];simp
abbrev Nt:=Int×Int×Int
def ntR(n:Nt):List Int:=[n.1,n.2.1,n.2.2]
def ntD(n:Nt):D:=.tup [.int n.1,.int n.2.1,.int n.2.2]
def qd8(z:List Nt)(q)(h:z.getLast?=!q):okD (ati (z.map ntD) (-1))=.ok (ntD q)[8]:=by
 rw[Zs,cU,h];rfl
def nS(c:Int)(wd:Bool):Int:=if wd then qR c 10007 1001 else qR c 10007 97
def nL(c:Int)(wd:Bool):Int:=1+if wd then qR c 9973 400 else qR c 9973 48
def nP(c:Int)(wd:Bool):Int:=if wd then qR c 9967 128 else 52+qR c 9967 25
def Jx(wd:Bool):Int:=if wd then 1000 else 96
def jP(c:Int)(z:List Nt)(wd:Bool):Nt:=match z.getLast? with
 | none=>(nS c wd,nL c wd,nP c wd)
 | some q=>if qR c 9949 4=0 then(q.1,q.2.1,nP c wd)else if qR c 9949 4=1/\q.1+q.2.1<=Jx wd then(q.1+q.2.1,nL c wd,if qR c 9941 2=0 then q.2.2 else nP c wd)else(nS c wd,nL c wd,nP c wd)
def qd9(c)(ns)(wd):uG [.fz c[6],.br (.lst (ns.map ntD)),.fz (.bl wd)]=.ok (ntD (jP c ns wd))[8]:=by
 have m1:=vk c 10007 97 "d" "d"
 have m2:=vk c 9973 48 "d" "d"
 have m3:=vk c 9967 25 "d" "d"
 have m4:=vk c 10007 1001 "d" "d"
 have m5:=vk c 9973 400 "d" "d"
 have m6:=vk c 9967 128 "d" "d"
 have m7:=vk c 9949 4 "d" "d"
 have m8:=vk c 9941 2 "d" "d"
 have B:∀ S L P T,nS c wd=S->nL c wd=L->nP c wd=P->Jx wd=T ->
   fin (Vk [!c[7],!(.br (.lst (ns.map ntD))),!(.bl wd)[8],!S[7],!L[7],!P[7],!T[7],none])=.ok (ntD (jP c ns wd))[8]:=by
  intro S L P T hS hL hP hT;unfold jP Vk;rw[hS,hL,hP,hT];cases hq:ns.getLast? with
  | none =>
   have hn:ns=[]:=pf.mp hq;subst hn;simp![m7,List.isEmpty_nil,ntD]
  | some q =>
   have hn:(ns.map ntD).isEmpty=false:=by
    cases ns with
    | nil=>simp at hq
    | cons a b=>rfl
   have lq:=qd8 ns q hq;dsimp only;by_cases c0:qR c 9949 4=0
   .have b0:(qR c 9949 4==0)=true:=by simpa using c0
    have b1:(qR c 9949 4==1)=false:=by rw[c0];rfl
    rw[if_pos c0];simp![hn,m7,b0,b1,Int.reduceNeg,lq,ntD]
   have b0:(qR c 9949 4==0)=false:=by simpa using c0
   rw[if_neg c0];by_cases c1:qR c 9949 4=1
   .have b1:(qR c 9949 4==1)=true:=by simpa using c1
    by_cases c2:q.1+q.2.1<=T
    .have b2:decide (q.1+q.2.1<=T)=true:=by simpa using c2
     rw[if_pos #[c1,c2]];by_cases c3:qR c 9941 2=0
     .have b3:(qR c 9941 2==0)=true:=by simpa using c3
      rw[if_pos c3];simp![hn,m7,m8,b0,b1,b2,b3,Int.reduceNeg,lq,ntD]
     have b3:(qR c 9941 2==0)=false:=by simpa using c3
     rw[if_neg c3];simp![hn,m7,m8,b0,b1,b2,b3,Int.reduceNeg,lq,ntD]
    have b2:decide (q.1+q.2.1<=T)=false:=by simpa using c2
    rw[if_neg λz=>c2 z.2]
    simp![hn,m7,b0,b1,b2,Int.reduceNeg,lq,ntD]
   have b1:(qR c 9949 4==1)=false:=by simpa using c1
   rw[if_neg λz=>c1 z.1]
   simp![hn,m7,b0,b1,ntD]
 unfold uG X2;cases wd
 .have:=B (qR c 10007 97) (1+qR c 9973 48) (52+qR c 9967 25) 96 rfl rfl rfl rfl;simp![m1,m2,m3];left;exact this
 have:=B (qR c 10007 1001) (1+qR c 9973 400) (qR c 9967 128) 1000 rfl rfl rfl rfl;simp![m1,m2,m3,m4,m5,m6];left;exact this
def hits(n o:Nt):Bool:=n.2.2==o.2.2&&(decide (n.1<o.1+o.2.1)&&decide (o.1<n.1+n.2.1))
def xr(n:Nt)(z:List Nt):Bool:=z.all λo=>not (hits n o)
def qda(n)(ns):Je [.fz (ntD n),.br (.lst (ns.map ntD))]=.ok (.bl (xr n ns))[8]:=by
 have go:∀ os j2,fin ((qC (gV 2) (sIf (L3.zo (tE (eOp dEq (eOp qc (q9 0) 2[5]) (eOp qc (q9 2) 2[5]))) (L3.zo (tE (eOp dLt (eOp qc (q9 0) 0[5]) (eOp qz (eOp qc (q9 2) 0[5]) (eOp qc (q9 2) 1[5])))) (tE (eOp dLt (eOp qc (q9 2) 0[5]) (eOp qz (eOp qc (q9 0) 0[5]) (eOp qc (q9 0) 1[5])))))) (qp (eC (.bl false))) qr) (os.map ntD)
   [!(ntD n)[8],!(.br (.lst (ns.map ntD))),j2]).th (qp (eC (.bl true))))=.ok (.bl (xr n os))[8]:=by
  intro os
  induction os with
  | nil=>intro j2;rfl
  | cons o os ih =>
   intro j2;unfold qC;simp![ntD];have e:xr n (o::os)=(not (hits n o)&&xr n os):=rfl;rw[e];unfold hits;cases h1:(n.2.2==o.2.2)
   .simp![dH];exact ih _
   cases h2:decide (n.1<o.1+o.2.1)
   .simp![h2];exact ih _
   cases h3:decide (o.1<n.1+n.2.1)
   .simp![h2,h3];exact ih _
   simp![dH,bJ,h2,h3]
 exact go ns none
def meet(n o:Nt):Bool:=decide (o.1<n.1+n.2.1)&&decide (n.1<o.1+o.2.1)&&not (o.1==n.1&&o.2.1==n.2.1)
def yd(o:Nt):List (Sum Int Str):=[.inl o.1,.inl o.2.1]
def seen(n:Nt):List Nt->List (List (Sum Int Str)×D)->List (List (Sum Int Str)×D)
 | [],acc=>acc
 | o::os,acc=>seen n os (if meet n o then qS (yd o) (.bl true) acc else acc)
def qdb [DecidableEq κ](k)(d)(kvs:List (κ×D)):(qS k d kvs)[1]<=kvs[1]+1:=by
 unfold qS;split
 .simp
 simp
def wm(n:Nt)(z:List Nt):Nat:=(seen n z [])[1]
def qdc(n)(ns)(B:ns[1]<=100):Jf [.fz (ntD n),.br (.lst (ns.map ntD))]=.ok (wm n ns)[7]:=by
 have hz:sz=16777216:=rfl;have go:∀ os z j3,z[1]+os[1]<=100->fin ((qC (gV 3) (sIf (L3.zo (tE (eOp dLt (eOp qc (q9 3) 0[5]) (eOp qz (eOp qc (q9 0) 0[5]) (eOp qc (q9 0) 1[5])))) (tE (eOp dLt (eOp qc (q9 0) 0[5]) (eOp qz (eOp qc (q9 3) 0[5]) (eOp qc (q9 3) 1[5]))))) (sIf (tE (eOp dNe (js [(eOp qc (q9 3) 0[5]),(eOp qc (q9 3) 1[5])]) (js [(eOp qc (q9 0) 0[5]),(eOp qc (q9 0) 1[5])]))) (kN 2 [(eOp qc (q9 3) 0[5]),(eOp qc (q9 3) 1[5])] (eC (.bl true))) qr) qr) (os.map ntD)
   [!(ntD n)[8],!(.br (.lst (ns.map ntD))),!(.dT z)[9],j3]).th (qp (eB qA [(q9 2)])))=.ok (.int (seen n os z)[1])[8]:=by
  intro os
  induction os with
  | nil=>intro z j3 _;rfl
  | cons o os ih =>
   intro z j3 hb;rw[gK]at hb;unfold qC seen;simp![ntD];unfold meet;have keep:=ih z (!(ntD o)[8]) ""
   cases h1:decide (o.1<n.1+n.2.1)
   .assumption
   cases h2:decide (n.1<o.1+o.2.1)
   .simp![tS,pZ,h2];exact keep
   cases h3:(not (o.1==n.1&&o.2.1==n.2.1))
   .simp![dH,Bool.and_true,tS,pZ,h2,h3];exact keep
   simp![dH,Bool.and_true,d8,h2,h3];rw[qb2 (kvs:=z) (d:=.bl true) (ws:=[.fz (.int o.1),.fz (.int o.2.1)]) (key:=yd o) rfl rfl (by left) rfl "" (by show 2<=sz;lia)]
   have:=qdb (yd o) (.bl true) z;exact ih _ _ ""
 exact go ns [] none B[""]
def yR(wd:Bool)(z:List Nt)(c:Int):List Nt:=if xr (jP c z wd) z&&decide (wm (jP c z wd) z<=7)then z++[jP c z wd]else z
def yS(wd:Bool):List Int->List Nt->List Nt
 | [],ns=>ns
 | c::cs,ns=>yS wd cs (yR wd ns c)
def uW(z:List Int):Nat:=if qR (cell z 0+7*(z[1]:Int)) 9871 8=3 then 24 else 12
def xt(z:List Int)(wd:Bool):List Nt:=yS wd ((z.drop 6).take (uW z)) []
def qdd(wd)(ns)(c):(yR wd ns c)[1]<=ns[1]+1:=by
 unfold yR;split
 .simp
 simp
def qde(ns)(z:ns[1]<=63):Ji [.fz (.lst (ns.map D.int))]=.ok (.bl (qR (cell ns 0+7*(ns[1])) 9871 8==3))[8]:=by
 have c0:=uR ns 0;rw[show((0:Nat):Int)=0 from rfl]at c0
 unfold Ji X1;simp![c0,gg,yy (i:=7) "d" "d",(vk (cell ns 0+7*(ns[1])) 9871 8 "d" "d")]
def qdf(ns)(Y:ns[1]<=63)(wd):uN [.fz (.lst (ns.map D.int)),.fz (.bl wd)]=.ok (.lst ((xt ns wd).map ntD))[9]:=by
 have hz:sz=16777216:=rfl;have lg:=qde ns Y;have O:decide (63<(ns[1]:Int))=false:=by simp;lia
 have go:∀ cs z B j4 j5,z[1]+cs[1]<=24 ->
   fin ((qC (gV 4) (qe (qj 5 (qi uG [(q9 4),(q9 3),(q9 1)])) (sIf (L3.zo (tE (qi Je [(q9 5),(q9 3)])) (tE (eOp dLe (qi Jf [(q9 5),(q9 3)]) 7[5]))) (qY 3 (q9 5)) qr)) (cs.map D.int)
    [!(.lst (ns.map D.int))[8],!(.bl wd)[8],!B[7],!(.lst (z.map ntD))[9],j4,j5]).th (ju 3))=.ok (.lst ((yS wd cs z).map ntD))[9]:=by
  intro cs
  induction cs with
  | nil=>intro z B j4 j5 _;rfl
  | cons c cs ih =>
   intro z B j4 j5 hb;rw[gK]at hb;unfold qC yS;have ne:=qd9 c z wd;have ae:=qda (jP c z wd) z;have me:=qdc (jP c z wd) z ""
   simp![ne,ae];unfold yR;cases h1:xr (jP c z wd) z
   .simp![bJ,tS,pZ];exact ih z B _ _ ""
   simp![me,dH];have e7:decide (((wm (jP c z wd) z):Int)<=7)=decide (wm (jP c z wd) z<=7):=by
    lia
   rw[e7];cases h2:decide (wm (jP c z wd) z<=7)
   .simp![tS,pZ];exact ih z B _ _ ""
   left;rw[zz (xs:=z.map ntD) (d:=ntD (jP c z wd)) rfl (by rw[gg];lia) (by left)]
   have:=ih (z++[jP c z wd]) B (!c[7]) (!(ntD (jP c z wd))[8]) (by rw[gG];simp;lia)
   rw[hX]at this;exact this
 have U:∀ m:Nat,m<=24->vj (ns.map D.int) ↑6 (!(6+m))=((ns.drop 6).take m).map D.int:=λm hm=>by
  have:=qb3 (ns.map D.int) 6 m;rw[show(((6:Nat):Int))=6 from rfl]at this
  rw[this,<- List.map_drop,<- List.map_take]
 unfold uN Xh xt uW;simp![lg];have len:∀ m,m<=24->([]:List Nt)[1]+((ns.drop 6).take m)[1]<=24:=λm hm=>by simp;lia
 by_cases c:qR (cell ns 0+7*(ns[1])) 9871 8=3
 .have b:(qR (cell ns 0+7*(ns[1])) 9871 8==3)=true:=by simpa using c
  rw[if_pos c];simp![b,gg,O];rw[vP (w:=.ow (.lst (vj (ns.map D.int) ↑6 (!(6+(24:Nat)))))) (by left) rfl,U 24 "d"]
  left;exact go _ [] 24 none none (len 24 "d")
 have b:(qR (cell ns 0+7*(ns[1])) 9871 8==3)=false:=by simpa using c
 rw[if_neg c];simp![b,gg,O];rw[vP (w:=.ow (.lst (vj (ns.map D.int) ↑6 (!(6+(12:Nat)))))) (by left) rfl,U 12 "d"]
 left;exact go _ [] 12 none none (len 12 "d")
def qdg(ns):Jj [.fz (.lst (ns.map D.int))]=.ok (.bl (cell ns 0%4==3))[8]:=by
 have c0:=uR ns 0;rw[show((0:Nat):Int)=0 from rfl]at c0
 unfold Jj X3;simp![c0,yx (j:=4) "d"]
structure NotesOk(ns:List Nt):Prop where
 b:∀ n∈ns,0<=n.1/\n.1<=1000/\1<=n.2.1/\n.2.1<=400/\0<=n.2.2/\n.2.2<=127
 ap:ns.Pairwise λo n=>hits n o=false
 mt:∀ pre n post,ns=pre++n::post->wm n pre<=7
def qdh(c)(ns)(wd)(h:∀ n∈ns,0<=n.1/\n.1<=1000/\1<=n.2.1/\n.2.1<=400/\0<=n.2.2/\n.2.2<=127) :
  0<=(jP c ns wd).1/\(jP c ns wd).1<=1000/\1<=(jP c ns wd).2.1/\(jP c ns wd).2.1<=400/\0<=(jP c ns wd).2.2/\(jP c ns wd).2.2<=127:=by
 have m1:=vm c 10007 97 "d"
 have m2:=vm c 9973 48 "d"
 have m3:=vm c 9967 25 "d"
 have m4:=vm c 10007 1001 "d"
 have m5:=vm c 9973 400 "d"
 have m6:=vm c 9967 128 "d"
 have hs:0<=nS c wd/\nS c wd<=1000:=by unfold nS;split<;>lia
 have hl:1<=nL c wd/\nL c wd<=400:=by unfold nL;split<;>lia
 have hp:0<=nP c wd/\nP c wd<=127:=by unfold nP;split<;>lia
 unfold jP;cases hq:ns.getLast? with
 | none=>dsimp only;lia
 | some q =>
  have hb:=h q (cY hq);have ht:Jx wd<=1000:=by unfold Jx;split<;>lia
  dsimp only;split
  .simp_all
  split
  .dsimp only;split<;>lia
  dsimp only;lia
def qdi(h:NotesOk ns):NotesOk (yR wd ns c):=by
 unfold yR;split
 .rename_i k;rw[hE]at k;refine#[λn hn=>?_,?_,λpre n post e=>?_]
  .rcases gD.mp hn with hn|hn
   .exact h.b n hn
   simp at hn;subst hn;exact(qdh c ns wd h.b)
  .rw[gW];refine#[h.ap,fU _ _,λo ho n hn=>?_]
   simp at hn;subst hn;have:=pO.mp k.1 o ho;simpa using this
  rcases List.eq_nil_or_concat post with rfl|⟨post',x,rfl⟩
  .have:=List.append_inj_right' e rfl
   simp_all
  have e':ns++[jP c ns wd]=(pre++n::post')++[x]:=by rw[e];simp
  exact h.mt pre n post' (List.append_inj_left' e' rfl)
 exact h
theorem Xz(wd):∀ cs ns,NotesOk ns->NotesOk (yS wd cs ns)
 | [],ns,h=>h
 | c::cs,ns,h=>Xz wd cs _ (qdi h)
theorem XA(wd):∀ cs ns,(yS wd cs ns)[1]<=ns[1]+cs[1]
 | [],ns=>gy _
 | c::cs,ns=>by
  have h1:=XA wd cs (yR wd ns c);have h2:=qdd wd ns c;simp only[yS,gK];lia
def qdj(ns)(wd):NotesOk (xt ns wd) :=
 Xz wd _ [] #[λn hn=>by simp at hn,.nil,λpre n post e=>by simp at e]
def qdk(ns)(wd):(xt ns wd)[1]<=24:=by
 have h:=XA wd ((ns.drop 6).take (uW ns)) [];have:uW ns<=24:=by unfold uW;split<;>decide
 unfold xt;simp at h ⊢;lia
def XB(h:ntR a=ntR b):a=b:=by
 obtain⟨a1,a2,a3⟩:=a;simp[ntR]at h;simp[h]
def NotesOk.nodup(h:NotesOk ns):(ns.map ntR).Nodup:=by
 show List.Pairwise _ _;rw[tY];refine dm (λ{o n} ho hn q z=>?_) h.ap
 have e:=XB z;subst e;have hb:=h.b o ho;unfold hits at q;simp at q;lia
def ofR:List Int->Nt
 | [a,b,c]=>(a,b,c)
 | _=>(0,0,0)
def qE(z:List Nt):List Nt:=(jh (z.map ntR)).map ofR
def uX(ns):(qE ns).map ntR=jh (ns.map ntR):=by
 unfold qE;rw[gH];have:∀ r∈jh (ns.map ntR),(ntR∘ofR) r=r:=λr hr=>by
  obtain⟨n,_,rfl⟩:=gJ.mp ((wG _).mem_iff.mp hr);rfl
 rw[gZ this];simp
def wo(ns):(qE ns).Perm ns:=by
 have h:=(wG (ns.map ntR)).map ofR;rw[gH]at h;have:(ofR∘ntR)=(λn=>n):=by funext n;rfl
 rw[this]at h;simpa[qE]using h
def leN(a b:Nt):Prop:=a.1<b.1\/a.1=b.1/\(a.2.1<b.2.1\/a.2.1=b.2.1/\a.2.2<=b.2.2)
def lex3(h:HT.lexLt (ntR b) (ntR a)=false):leN a b:=by
 unfold ntR at h;rw[HT.lexLt_cons]at h;unfold leN;by_cases e1:b.1=a.1
 .rw[if_pos e1,HT.lexLt_cons]at h;by_cases e2:b.2.1=a.2.1
  .rw[if_pos e2,HT.lexLt_cons]at h;lia
  rw[if_neg e2]at h;simp at h;lia
 rw[if_neg e1]at h;simp at h;lia
def Vt(ns):(qE ns).Pairwise leN:=by
 have h:=QD (ns.map ntR);rw[<- uX,tY]at h;exact h.imp lex3
abbrev Ch:=Int×Int×List Int
def chD(c:Ch):D:=.tup [.int c.1,.int c.2.1,.tup (c.2.2.map D.int)]
def grp(z:List Ch)(n:Nt):List Ch:=match z.getLast? with
 | some c=>if c.1=n.1/\c.2.1=n.2.1 then z.dropLast++[(n.1,n.2.1,c.2.2++[n.2.2])]else z++[(n.1,n.2.1,[n.2.2])]
 | none=>z++[(n.1,n.2.1,[n.2.2])]
def rowOf(z:List Nt):List Ch:=(qE z).foldl grp []
def ltC(a b:Ch):Prop:=a.1<b.1\/a.1=b.1/\a.2.1<b.2.1
structure RowOk(ns:List Nt)(row:List Ch):Prop where
 up:row.Pairwise ltC
 ne:∀ c∈row,c.2.2≠[]
 ri:∀ c∈row,c.2.2.Pairwise (· < ·)
 of:∀ c∈row,∀ p∈c.2.2,(c.1,c.2.1,p)∈ns
 all:∀ n∈ns,∃ c∈row,c.1=n.1/\c.2.1=n.2.1/\n.2.2∈c.2.2
def XC{n:Nt}(nd:n∉done)(R:RowOk done acc)(Z:∀ m∈done,leN m n)(O:∀ c,acc.getLast?=!c->∃ m∈done,c.1=m.1/\c.2.1=m.2.1):RowOk (done++[n]) (grp acc n) /\
  ∃ c,(grp acc n).getLast?=!c/\c.1=n.1/\c.2.1=n.2.1:=by
 have U:(∀ c∈acc,ltC c (n.1,n.2.1,[n.2.2]))->RowOk (done++[n]) (acc++[(n.1,n.2.1,[n.2.2])]):=λY=>by
  refine#[?_,λc hc=>?_,λc hc=>?_,λc hc p hp=>?_,λm hm=>?_]
  .rw[gW];exact#[R.up,fU _ _,λa ha b hb=>by simp at hb;subst hb;exact Y a ha]
  .rcases gD.mp hc with hc|hc
   .exact R.ne c hc
   simp_all
  .rcases gD.mp hc with hc|hc
   .exact R.ri c hc
   simp_all
  .rcases gD.mp hc with hc|hc
   .exact t5 _ (R.of c hc p hp)
   simp at hc;subst hc;simp at hp;subst hp;simp
  rcases gD.mp hm with hm|hm
  .obtain⟨c,hc,q⟩:=R.all m hm;exact#[c,t5 _ hc,q]
  simp at hm;subst hm;exact#[_,tf _ (tT.mpr rfl),rfl,rfl,by simp]
 unfold grp;cases hg:acc.getLast? with
 | none =>
  have hn:=pf.mp hg;subst hn;exact#[U λc hc=>by simp at hc,(n.1,n.2.1,[n.2.2]),by simp,rfl,rfl]
 | some c0 =>
  dsimp only;obtain⟨B,rfl⟩:∃ B,acc=B++[c0]:=by
   obtain⟨h,e⟩:=List.getLast?_eq_some_iff.mp hg;exact#[h,e]
  have z:=R.up;rw[gW]at z;by_cases c:c0.1=n.1/\c0.2.1=n.2.1
  .rw[if_pos c];simp only[List.dropLast_concat];refine#[#[?_,λx hx=>?_,λx hx=>?_,λx hx p hp=>?_,λm hm=>?_],(n.1,n.2.1,c0.2.2++[n.2.2]),by simp,rfl,rfl]
   .rw[gW];refine#[z.1,fU _ _,λa ha b hb=>?_]
    simp at hb;subst hb;have:=z.2.2 a ha c0 "s"
    unfold ltC at this ⊢;dsimp only;lia
   .rcases gD.mp hx with hx|hx
    .exact R.ne x (t5 _ hx)
    simp at hx;subst hx;simp
   .rcases gD.mp hx with hx|hx
    .exact R.ri x (t5 _ hx)
    simp at hx;subst hx;dsimp only;rw[gW];refine#[R.ri c0 "s",fU _ _,λa ha b hb=>?_]
    simp at hb;subst hb;have hm:=R.of c0 "s" a ha
    have le:=Z _ hm;unfold leN at le;dsimp only at le;by_cases e:a=n.2.2
    .exfalso;apply nd;have:n=(c0.1,c0.2.1,a):=by rw[c.1,c.2,e]
     rw[this];exact hm
    lia
   .rcases gD.mp hx with hx|hx
    .exact t5 _ (R.of x (t5 _ hx) p hp)
    simp at hx;subst hx;dsimp only at hp ⊢;rcases gD.mp hp with hp|hp
    .have:=R.of c0 "s" p hp
     rw[c.1,c.2]at this;exact t5 _ this
    simp at hp;subst hp;simp
   rcases gD.mp hm with hm|hm
   .obtain⟨x,hx,q1,q2,q3⟩:=R.all m hm;rcases gD.mp hx with hx|hx
    .exact#[x,t5 _ hx,q1,q2,q3]
    simp at hx;subst hx;exact#[_,tf _ (tT.mpr rfl),by dsimp only;lia,by dsimp only;lia,by simp[q3]]
   simp at hm;subst hm;exact#[_,tf _ (tT.mpr rfl),rfl,rfl,by simp]
  rw[if_neg c];refine#[U λa ha=>?_,(n.1,n.2.1,[n.2.2]),by simp,rfl,rfl]
  have l0:ltC c0 (n.1,n.2.1,[n.2.2]):=by
   obtain⟨m,hm,e1,e2⟩:=O c0 hg;have le:=Z m hm;unfold leN at le;unfold ltC;dsimp only;lia
  rcases gD.mp ha with ha|ha
  .have:=z.2.2 a ha c0 "s"
   unfold ltC at this l0 ⊢;dsimp only at *;lia
  simp at ha;subst ha;exact l0
theorem Vu:∀ rest done B,(done++rest).Nodup->(done++rest).Pairwise leN->RowOk done B->(∀ c,B.getLast?=!c->∃ m∈done,c.1=m.1/\c.2.1=m.2.1)->RowOk (done++rest) (rest.foldl grp B)
 | [],done,B,_,_,R,_=>by simpa using R
 | n::rest,done,B,nd,pw,R,hlast=>by
  have e:done++n::rest=(done++[n])++rest:=by simp
  have n1:n∉done:=λz=>(fj.mp nd).2.2 n z n "s" rfl
  have le:∀ m∈done,leN m n:=λm hm=>(gW.mp pw).2.2 m hm n "s"
  obtain⟨R2,c,hc,c1,c2⟩:=XC n1 R le hlast;rw[fK,e];refine Vu rest (done++[n]) _ (by rw[<- e];exact nd) (by rw[<- e];exact pw) R2 λx hx=>?_
  rw[hc]at hx;cases hx;exact#[n,by simp,c1,c2]
def XD(h:NotesOk ns):RowOk ns (rowOf ns):=by
 have nd:(qE ns).Nodup:=by
  have:=h.nodup;exact(wo ns).nodup_iff.mpr ((tY.mp this).imp λ{a b} q e=>q (by rw[e]))
 have R:=Vu (qE ns) [] [] nd[""] (by simpa using Vt ns) #[.nil,λc hc=>by simp at hc,λc hc=>by simp at hc,λc hc=>by simp at hc,λn hn=>by simp at hn] (λc hc=>by simp at hc)
 have m:∀ n,n∈qE ns↔n∈ns:=λn=>(wo ns).mem_iff
 exact#[R.up,R.ne,R.ri,λc hc p hp=>(m _).mp (R.of c hc p hp),λn hn=>R.all n ((m n).mpr hn)]
def XE(h:NotesOk ns)(R:RowOk ns row):∀ c∈row,0<=c.1/\c.1<=1000/\1<=c.2.1/\c.2.1<=400:=λc hc=>by
 cases e:c.2.2 with
 | nil=>exact absurd e (R.ne c hc)
 | cons p r =>
  have:=h.b _ (R.of c hc p (by rw[e];simp))
  simp_all
def XG(acc)(n):(grp acc n)[1]<=acc[1]+1:=by
 unfold grp;split
 .split
  .simp
  simp
 simp
theorem XH:∀(ns:List Nt) acc,(ns.foldl grp acc)[1]<=acc[1]+ns[1]
 | [],acc=>gy _
 | n::ns,acc=>by
  have h1:=XH ns (grp acc n);have h2:=XG acc n;simp only[fK,gK];lia
def Vv(ns):(rowOf ns)[1]<=ns[1]:=by
 have h:=XH (qE ns) [];rw[(wo ns).length_eq]at h;simpa[rowOf]using h
def qdl{e:EF}{ρ:Rho}(h:e ρ=.ok (.dT [])[9])(z:vG i ρ=true):yC i e ρ=.nx (ρ.set i (!(.od (.dT [])))):=by
 unfold yC;rw[h];show yB i ρ (.dT [])[9]=_;unfold yB
 simp_all
def qdm{i:Nat}{z e:EF}{ρ:Rho}{ws:List En}{key:List (Sum Int Str)}{kds:List (List (Sum Int Str)×D)}(h:ρ[i]?=!(!(.od (.dT kds))))(h1:evs ks ρ=.ok ws)(h2:jL (ws.map En.d)=!key)(B:z ρ=.ok (.lst [])[9])
  (O:kds[1]<sz/\key[1]<=sz/\(kds.all λkv=>kU kv.2)=true)(U:e (ρ.set i none)=.ok d[8]):sSd i ks z e ρ=.nx (ρ.set i (!(.od (.dT (zL key d kds))))):=by
 unfold sSd;rw[h,h1];show K0 i z e ρ kds (jL (ws.map En.d))=_;rw[h2];show sOf (z ρ) (kW i e ρ kds key)=_;rw[B];show(if kds[1]<sz/\key[1]<=sz/\(kds.all λkv=>kU kv.2)=true then sOf (e (ρ.set i none)) (YZ i ρ kds key)else .stuck)=_
 rw[if_pos O,U];rfl
def z9(a b:Int):List (Sum Int Str):=[.inl a,.inl b]
def ze(z:List Ch):List (List (Sum Int Str)×D):=z.map λc=>(z9 c.1 c.2.1,D.lst (c.2.2.map D.int))
def XI(h:z9 a b=z9 c d):a=c/\b=d:=by simpa[z9]using h
def qdn(c){rest:List Ch}(h:rest≠[])(n):grp (c::rest) n=c::grp rest n:=by
 obtain⟨r,rs,rfl⟩:∃ r rs,rest=r::rs:=by
  cases rest with
  | nil=>exact absurd rfl h
  | cons r rs=>exact#[r,rs,rfl]
 have e:(c::r::rs).getLast?=(r::rs).getLast?:=by simp[List.getLast?_cons_cons]
 unfold grp;rw[e];cases h2:(r::rs).getLast? with
 | none=>simp at h2
 | some l =>
  dsimp only;split<;>simp
theorem XJ(n):∀ B,B.Pairwise ltC->(∀ c∈B,c.1<n.1\/c.1=n.1/\c.2.1<=n.2.1)->zL (z9 n.1 n.2.1) (.int n.2.2) (ze B)=ze (grp B n)
 | [],_,_=>rfl
 | c::rest,up,le=>by
  obtain⟨u1,u2⟩:=fy.mp up;show(if z9 c.1 c.2.1=z9 n.1 n.2.1 then(z9 c.1 c.2.1,QN (D.lst (c.2.2.map D.int)) (.int n.2.2))::ze rest else(z9 c.1 c.2.1,D.lst (c.2.2.map D.int))::zL (z9 n.1 n.2.1) (.int n.2.2) (ze rest))=_
  by_cases k:z9 c.1 c.2.1=z9 n.1 n.2.1
  .obtain⟨k1,k2⟩:=XI k;have re:rest=[]:=by
    cases rest with
    | nil=>rfl
    | cons r rs =>
     have a1:=u1 r "s"
     have a2:=le r "s"
     unfold ltC at a1;lia
   subst re;have eg:grp [c] n=[(n.1,n.2.1,c.2.2++[n.2.2])]:=by simp[grp,k1,k2]
   rw[eg];simp[ze,QN,k1,k2]
  rw[if_neg k,XJ n rest u2 λx hx=>le x (gj _ hx)]
  by_cases re:rest=[]
  .subst re;have ne:¬ (c.1=n.1/\c.2.1=n.2.1):=λz=>k (by rw[z.1,z.2])
   have eg:grp [c] n=[c,(n.1,n.2.1,[n.2.2])]:=by simp[grp,ne]
   rw[eg];rfl
  rw[qdn c re];rfl
theorem Vw:∀{acc},acc.Pairwise ltC->c∈acc->look (z9 c.1 c.2.1) (ze acc)=!(.lst (c.2.2.map D.int))
 | [],_,h=>by simp at h
 | x::acc,up,h=>by
  obtain⟨u1,u2⟩:=fy.mp up;show(if z9 x.1 x.2.1=z9 c.1 c.2.1 then !(D.lst (x.2.2.map D.int))else look (z9 c.1 c.2.1) (ze acc))=_
  rcases gE.mp h with rfl|h
  .simp
  have:=u1 c h;unfold ltC at this;rw[if_neg λz=>by have:=XI z;lia,Vw u2 h]
def jn(z:List Ch):Nat:=(z.map λc=>c.2.2.length).sum
def qdo(acc)(n):jn (grp acc n)=jn acc+1:=by
 unfold grp;cases h:acc.getLast? with
 | none =>
  have:=pf.mp h;subst this;rfl
 | some c =>
  dsimp only;obtain⟨i,rfl⟩:∃ i,acc=i++[c]:=List.getLast?_eq_some_iff.mp h |>.imp λ_ e=>e
  split
  .simp[jn];lia
  simp[jn];lia
theorem XM:∀(ns:List Nt) acc,jn (ns.foldl grp acc)=jn acc+ns[1]
 | [],acc=>rfl
 | n::ns,acc=>by
  rw[fK,XM ns,qdo,gK];lia
def XN(ns):jn (rowOf ns)=ns[1]:=by
 unfold rowOf;rw[XM,(wo ns).length_eq];show 0+_=_;lia
def Jy(kds:List (List (Sum Int Str)×D)):D->D
 | .tup [.int a,.int b]=>.tup [.int a,.int b,(match look (z9 a b) kds with|some (.lst xs)=>.tup xs|_=>.non)]
 | _=>.non
def Vx(h1:rs.Nodup)(h2:rs[1]<=5000)(z:[]∉rs):vZ [.lst (rs.map qM)]=.ok (.lst ((jh rs).map qM))[9]:=by
 unfold vZ;dsimp only;rw[YH]
 simp_all
def qdp(h:(ns.map ntR).Nodup):RowOk ns (rowOf ns):=by
 have nd:(qE ns).Nodup:=by
  have:=h;exact(wo ns).nodup_iff.mpr ((tY.mp this).imp λ{a b} q e=>q (by rw[e]))
 have R:=Vu (qE ns) [] [] nd[""] (by simpa using Vt ns) #[.nil,λc hc=>by simp at hc,λc hc=>by simp at hc,λc hc=>by simp at hc,λn hn=>by simp at hn] (λc hc=>by simp at hc)
 have m:∀ n,n∈qE ns↔n∈ns:=λn=>(wo ns).mem_iff
 exact#[R.up,R.ne,R.ri,λc hc p hp=>(m _).mp (R.of c hc p hp),λn hn=>R.all n ((m n).mpr hn)]
def qdq(ns)(N:(ns.map ntR).Nodup)(nl:ns[1]<=24):y4 [.br (.lst (ns.map ntD))]=.ok (.lst ((rowOf ns).map chD))[9]:=by
 have hz:sz=16777216:=rfl;have e1:ns.map ntD=(ns.map ntR).map qM:=by rw[gH];rfl
 have srt:=Vx (rs:=ns.map ntR) N (by rw[gg];lia) (λz=>by obtain⟨n,_,e⟩:=gJ.mp z;cases e)
 have U:vZ [.lst (ns.map ntD)]=.ok (.lst ((qE ns).map ntD))[9]:=by
  rw[e1,srt,<- uX,gH];rfl
 have R:=qdp N;have Y:∀ j2,fin (ud 1 (qp (qV 1 (iT 1) (gV 3) jg (js [(eOp qc (q9 3) 0[5]),(eOp qc (q9 3) 1[5]),(eB yi [(eOp wX (q9 1) (q9 3))])]))) [!(.br (.lst (ns.map ntD))),!(.od (.dT (ze (rowOf ns)))),j2])=.ok (.lst ((rowOf ns).map chD))[9]:=λj2=>by
  show fin (qp _ [!(.br (.lst (ns.map ntD))),!(.lk (.dT (ze (rowOf ns)))),j2])=_;have cm:qV 1 (iT 1) (gV 3) jg (js [(eOp qc (q9 3) 0[5]),(eOp qc (q9 3) 1[5]),(eB yi [(eOp wX (q9 1) (q9 3))])]) [!(.br (.lst (ns.map ntD))),!(.lk (.dT (ze (rowOf ns)))),j2]=.ok (.lst ((rowOf ns).map chD))[9]:=by
   have ek:(ze (rowOf ns)).map (λkv=>K4 kv.1)=(rowOf ns).map λc=>D.tup [.int c.1,.int c.2.1]:=by
    unfold ze;rw[gH];rfl
   have eo:(rowOf ns).map chD=((rowOf ns).map λc=>D.tup [.int c.1,.int c.2.1]).map (Jy (ze (rowOf ns))):=by
    rw[gH];refine gZ λc hc=>?_
    show chD c=Jy (ze (rowOf ns)) (.tup [.int c.1,.int c.2.1]);unfold Jy;dsimp only;rw[Vw R.up hc];rfl
   have rl:=Vv ns;rw[eo];refine yv (ds:=(rowOf ns).map λc=>D.tup [.int c.1,.int c.2.1]) (by rw[<- ek];rfl) (by rw[gg,hz];lia) (kE 3 _ _ _ λd hd=>?_)
   obtain⟨c,hc,rfl⟩:=gJ.mp hd;have lk:=Vw R.up hc;have ix:wX (.dT (ze (rowOf ns))) (.tup [.int c.1,.int c.2.1])=.ok (.lst (c.2.2.map D.int))[8]:=by
    show okD (look (z9 c.1 c.2.1) (ze (rowOf ns)))=_;rw[lk];rfl
   refine#[.fz (.tup [.int c.1,.int c.2.1,.tup (c.2.2.map D.int)]),by simp![jc,ro,ix],?_]
   show(L3.R.ok (D.tup [.int c.1,.int c.2.1,.tup (c.2.2.map D.int)]))=_;unfold Jy;dsimp only;rw[lk]
  simp![cm]
 unfold y4 Kw;simp[xX,gN,cy,gK,fH,reduceAdd,Nat.reduceSub,d9,List.replicate_zero,List.cons_append,pj,jv];rw[qdl (by left) rfl]
 left;rw[vP (w:=.ow (.lst ((qE ns).map ntD))) (by simp![U]) rfl]
 left;have go:∀ rest done B k j2,(done++rest).Nodup->(done++rest).Pairwise leN->RowOk done B->(∀ c,B.getLast?=!c->∃ m∈done,c.1=m.1/\c.2.1=m.2.1)->B[1]+rest[1]<=100/\k+rest[1]<=100->(∀ c∈B,c.2.2.length<=k)->rest.foldl grp B=rowOf ns ->
   fin ((qC (gV 2) (sSd 1 [(eOp qc (q9 2) 0[5]),(eOp qc (q9 2) 1[5])] (jk []) (eOp qc (q9 2) 2[5])) (rest.map ntD) [!(.br (.lst (ns.map ntD))),!(.od (.dT (ze B))),j2]).th
    (ud 1 (qp (qV 1 (iT 1) (gV 3) jg (js [(eOp qc (q9 3) 0[5]),(eOp qc (q9 3) 1[5]),(eB yi [(eOp wX (q9 1) (q9 3))])])))))=.ok (.lst ((rowOf ns).map chD))[9]:=by
  intro rest
  induction rest with
  | nil =>
   intro done B k j2 _ _ _ _ _ _ e;have e:B=rowOf ns:=e;subst e;rw[cy,Jw];exact Y j2
  | cons n rest ih =>
   intro done B k j2 nd pw Rk O hb hk e;rw[gK]at hb;have eq:done++n::rest=(done++[n])++rest:=by simp
   have n1:n∉done:=λz=>(fj.mp nd).2.2 n z n "s" rfl
   have le:∀ m∈done,leN m n:=λm hm=>(gW.mp pw).2.2 m hm n "s"
   obtain⟨R2,c,hc,c1,c2⟩:=XC n1 Rk le O;have leC:∀ c∈B,c.1<n.1\/c.1=n.1/\c.2.1<=n.2.1:=λc hc=>by
    cases ep:c.2.2 with
    | nil=>exact absurd ep (Rk.ne c hc)
    | cons p r =>
     have:=le _ (Rk.of c hc p (by rw[ep];simp))
     unfold leN at this;dsimp only at this;lia
   have gl:=XG B n;have gk:∀ c∈grp B n,c.2.2.length<=k+1:=λc hc=>by
    unfold grp at hc;cases hl:B.getLast? with
    | none =>
     rw[hl]at hc;rcases gD.mp hc with hc|hc
     .have:=hk c hc;lia
     simp at hc;subst hc;simp
    | some l =>
     rw[hl]at hc;dsimp only at hc;split at hc
     .rcases gD.mp hc with hc|hc
      .have:=hk c (List.dropLast_subset _ hc);lia
      simp at hc;subst hc;have:=hk l (cY hl);simp;lia
     rcases gD.mp hc with hc|hc
     .have:=hk c hc;lia
     simp at hc;subst hc;simp
   rw[gN,zY rfl];left;rw[qdm (kds:=ze B) (ws:=[.fz (.int n.1),.fz (.int n.2.1)]) (key:=z9 n.1 n.2.1) (d:=.int n.2.2) rfl (by simp![ntD]) rfl (by left)
    #[by simp[ze,hz];lia,by simp[z9,hz],pO.mpr λkv Z=>by
     obtain⟨c,hc,rfl⟩:=gJ.mp Z;have:=hk c hc;show decide ((c.2.2.map D.int)[1]<sz)=true;rw[gg,hz];exact tF ""] (by simp![ntD]),XJ n B Rk.up leC]
   simp![yc];refine ih (done++[n]) (grp B n) (k+1) _ (by rw[<- eq];exact nd) (by rw[<- eq];exact pw) R2 (λx hx=>?_) "" gk e
   rw[hc]at hx;cases hx;exact#[n,by simp,c1,c2]
 have nd:(qE ns).Nodup:=(wo ns).nodup_iff.mpr ((tY.mp N).imp λ{a b} q e=>q (by rw[e]))
 exact go (qE ns) [] [] 0 none nd[""] (by simpa using Vt ns) #[.nil,λc hc=>by simp at hc,λc hc=>by simp at hc,λc hc=>by simp at hc,λn hn=>by simp at hn] (λc hc=>by simp at hc) (by rw[(wo ns).length_eq];simp;lia) (λc hc=>by simp at hc) rfl
def qdr(h:c∈row):c.2.2.length<=jn row:=by
 obtain⟨i,hi,rfl⟩:=List.getElem_of_mem h;have e:row=row.take i++row[i]::row.drop (i+1):=by rw[<- fJ hi,tL]
 have:jn row=jn (row.take i)+((row[i]).2.2.length+jn (row.drop (i+1))):=by
  conv=>lhs;rw[e]
  simp only[jn,hX,bx,gN,pD]
 lia
def qiN{e:EF}{ρ:Rho}(h:e ρ=.ok (.lst [])[9])(z:vG i ρ=true):yC i e ρ=.nx (ρ.set i (!(.od (.lst [])))):=by
 unfold yC;rw[h];show yB i ρ (.lst [])[9]=_;unfold yB;rw[if_pos z]
def XO{i:Nat}{e:EF}{ρ:Rho}(h:ρ[i]?=!(!(.od d)))(h2:e (ρ.set i (!d[9]))=.ok x[8])(B:scal x=true)(O:∀ k,d≠.dK k:=by intro _ z;cases z)(U:∀ k,d≠.tup k:=by intro _ z;cases z):vY i e ρ=.ok x[8]:=by
 unfold vY;rw[h];cases d<;>first
  | exact absurd rfl (O _)
  | exact absurd rfl (U _)
  | (dsimp only;rw[h2,R.bind_ok];unfold ZH;dsimp only;rw[if_pos B])
def qds{ρ:Rho}{ds es:List D}(h:ρ[i]?=!(!(.od (.lst ds))))(h2:e ρ=.ok (.lst es)[9])(z:ds[1]<sz):kT i e ρ=.nx (ρ.set i (!(.od (.lst (ds++[.lst es]))))):=by
 unfold kT;rw[h,h2];show QL i ρ ds (.lst es)[9]=_;unfold QL
 simp_all
def Vy{i k:Nat}{z e:EF}{ρ:Rho}{ds xs:List D}(h:ρ[i]?=!(!(.od (.lst ds))))(h1:z ρ=.ok k[7])(h2:e ρ=.ok d[8])(B:ds[k]?=!(.lst xs))(O:xs[1]<sz) :
  wJ i z e ρ=.nx (ρ.set i (!(.od (.lst (ds.set k (.lst (xs++[d]))))))):=by
 unfold wJ;rw[h,h1,h2];show yD i ρ ds k[7] d[8]=_;unfold yD;unfold QM
 simp_all
def qiO{i:Nat}(h:ρ[i]?=!(!(.od d)))(B:∀ k,d≠.dK k:=by intro _ z;cases z)(O:∀ k,d≠.tup k:=by intro _ z;cases z):wW i (ju i) ρ=.rt d[9]:=by
 have hl:=(gp.mp h).1;unfold wW L3.shut;rw[h];cases d<;>first
  | exact absurd rfl (B _)
  | exact absurd rfl (O _)
  | (unfold ju;rw[List.getElem?_set_self hl])
def at_(t:Int)(c:Ch):Bool:=decide (c.1<=t)&&decide (t<c.1+c.2.1)
def many(z:List Ch)(t:Int):Nat:=z.countP (at_ t)
abbrev Vs:=List (List Ch)
def vD(v:List Ch):D:=.lst (v.map chD)
def endL(v:List Ch):Int:=match v.getLast? with
 | some c=>c.1+c.2.1
 | none=>0
def qG:Vs->Int->Nat
 | [],_=>0
 | v::vs,t=>if endL v<=t then 0 else qG vs t+1
def jD:Vs->Ch->Vs
 | [],c=>[[c]]
 | v::vs,c=>if endL v<=c.1 then(v++[c])::vs else v::jD vs c
theorem XQ:∀ vs t,qG vs t<=vs[1]
 | [],_=>gy _
 | v::vs,t=>by
  unfold qG;have:=XQ vs t;split<;>simp<;>lia
theorem Vz:∀ vs c,(jD vs c)[1]=if qG vs c.1=vs[1] then vs[1]+1 else vs[1]
 | [],c=>rfl
 | v::vs,c=>by
  have:=Vz vs c;unfold jD qG;split
  .rfl
  simp only[gK,this];split<;>split<;>lia
theorem XR(p):∀ vs c,(jD vs c).flatten.countP p=vs.flatten.countP p+[c].countP p
 | [],c=>by simp[jD]
 | v::vs,c=>by
  unfold jD;split
  .simp only[tQ,pS];lia
  simp only[tQ,pS,(XR p vs c)];lia
theorem uY:∀{vs} {c},x∈jD vs c->x∈vs\/x=[c]\/∃ v∈vs,endL v<=c.1/\x=v++[c]
 | [],c,h=>by simp[jD]at h;exact .inr (.inl h)
 | v::vs,c,h=>by
  unfold jD at h;split at h
  .rename_i e;rcases gE.mp h with rfl|h
   .exact .inr (.inr #[v,by simp,e,rfl])
   exact .inl (gj _ h)
  rcases gE.mp h with rfl|h
  .exact .inl "s"
  rcases uY h with q|q|⟨w,hw,q⟩
  .exact .inl (gj _ q)
  .exact .inr (.inl q)
  exact .inr (.inr #[w,gj _ hw,q])
structure VOk(pre:List Ch)(vs:Vs):Prop where
 ne:∀ v∈vs,v≠[]
 cnt:∀ t,vs.flatten.countP (at_ t)=many pre t
 ap:∀ v∈vs,v.Pairwise λc d=>c.1+c.2.1<=d.1
 old:∀ v∈vs,∀ c∈v,c∈pre
 len:∀ v∈vs,v[1]<=pre[1]
def XS:VOk [] []:=#[λ_ h=>by simp at h,λ_=>rfl,λ_ h=>by simp at h,λ_ h=>by simp at h,λ_ h=>by simp at h]
def VA(h:v≠[]):∃ c∈v,endL v=c.1+c.2.1/\∃ i,v=i++[c]:=by
 obtain⟨i,c,rfl⟩:∃ i c,v=i++[c]:=#[v.dropLast,v.getLast h,(List.dropLast_concat_getLast h).symm];exact#[c,by simp,by simp[endL],i,rfl]
def XT(V:VOk pre vs)(pos:∀ x∈pre,1<=x.2.1):VOk (pre++[c]) (jD vs c):=by
 refine#[λv h=>?_,λt=>?_,λv h=>?_,λv h x hx=>?_,λv h=>?_]
 .rcases uY h with q|rfl|⟨w,_,_,rfl⟩
  .exact V.ne v q
  .simp
  simp
 .rw[XR,V.cnt,many,many,pS]
 .rcases uY h with q|rfl|⟨w,hw,e,rfl⟩
  .exact V.ap v q
  .exact fU _ _
  rw[gW];refine#[V.ap w hw,fU _ _,λx hx y hy=>?_]
  obtain rfl:y=c:=by simpa using hy
  obtain⟨l,hl,el,i,ei⟩:=VA (V.ne w hw);rw[el]at e;rw[ei]at hx;rcases gD.mp hx with hx|hx
  .have ap:=V.ap w hw;rw[ei]at ap;have:=(gW.mp ap).2.2 x hx l "s"
   have:=pos l (V.old w hw l hl);lia
  simp_all
 .rcases uY h with q|rfl|⟨w,hw,_,rfl⟩
  .exact t5 _ (V.old v q x hx)
  .exact tf _ hx
  rcases gD.mp hx with hx|hx
  .exact t5 _ (V.old w hw x hx)
  exact tf _ hx
 rcases uY h with q|rfl|⟨w,hw,_,rfl⟩
 .have:=V.len v q;simp;lia
 .simp
 have:=V.len w hw;simp;lia
theorem XU:∀{vs} {t},(∀ v∈vs,v≠[])->(∀ v∈vs,∀ x∈v,x.1<=t)->qG vs t<=vs.flatten.countP (at_ t)
 | [],_,_,_=>gy _
 | v::vs,t,ne,le=>by
  unfold qG;split
  .exact tK _
  rename_i e;have ih:=XU (λw hw=>ne w (gj _ hw)) λw hw=>le w (gj _ hw)
  obtain⟨l,hl,el,_⟩:=VA (ne v "s")
  rw[el]at e;have p:0<v.countP (at_ t):=List.countP_pos_iff.mpr #[l,hl,by have:=le v "s" l hl;simp[at_];lia]
  grind
def run:Vs->List Ch->Option Vs
 | vs,[]=>!vs
 | vs,c::cs=>if qG vs c.1=8 then none else run (jD vs c) cs
theorem XV(row)(up:row.Pairwise λa b=>a.1<=b.1)(pos:∀ c∈row,1<=c.2.1)(th:∀ t,many row t<=8):∀ cs pre vs m,row=pre++cs->VOk pre vs->vs[1]<=m->(∀ c∈row,many row c.1<=m) ->
  ∃ ws,run vs cs=!ws/\VOk row ws/\ws[1]<=m
 | [],pre,vs,m,e,V,l,_=>#[vs,rfl,by rw[e,tM];exact V,l]
 | c::cs,pre,vs,m,e,V,l,hm=>by
  have z:=λx hx=>pos x (by rw[e];exact t5 _ hx)
  have le:=λx hx=>by
   rw[e]at up;exact(gW.mp up).2.2 x hx c "s"
  have h1:qG vs c.1<=many pre c.1:=by
   rw[<- V.cnt];exact XU V.ne λv hv x hx=>le x (V.old v hv x hx)
  have h2:many row c.1=many pre c.1+1+many cs c.1:=by
   have pc:=pos c (by rw[e];simp)
   have:at_ c.1 c=true:=by simp[at_];lia
   rw[e,many,pS,List.countP_cons,if_pos this];simp[many];lia
  have h3:=th c.1;have h4:=hm c (by rw[e];simp)
  unfold run;rw[if_neg ""]
  refine XV row up pos th cs (pre++[c]) (jD vs c) m (by rw[e];simp) (XT V z) ?_ hm
  rw[Vz];split<;>lia
theorem XW:∀{vs} {c},qG vs c.1=vs[1]->jD vs c=vs++[[c]]
 | [],_,_=>rfl
 | v::vs,c,h=>by
  unfold qG at h;unfold jD;split at h
  .simp_all
  rename_i e;rw[if_neg e,XW h[""]]
  rfl
theorem XX:∀{vs} {c},qG vs c.1<vs[1]->jD vs c=vs.set (qG vs c.1) (vs.getD (qG vs c.1) []++[c])
 | [],_,h=>by simp[qG]at h
 | v::vs,c,h=>by
  unfold qG at h ⊢;unfold jD;split
  .rfl
  rename_i e;rw[if_neg e]at h;have h:qG vs c.1<vs[1]:=by simpa using h
  rw[List.getD_cons_succ,fV,<- XX h]
def qdt(c):zB [.fz (chD c)]=.ok (c.1+c.2.1)[7]:=by
 rfl
def qdu(h:v≠[]):∃ c,okD (ati (v.map chD) (-1))=.ok (chD c)[8]/\endL v=c.1+c.2.1:=by
 obtain⟨c,_,e,i,rfl⟩:=VA h;refine#[c,?_,e];rw[Zs,cU];simp;rfl
def qdv(vs)(t)(ne:∀ v∈vs,v≠[]):uF [.br (.lst (vs.map vD)),.fz t[6]]=.ok (qG vs t)[7]:=by
 have go:∀ ws n j2 j3,n+ws[1]=vs[1]->(∀ v∈ws,v≠[]) ->
   fin ((qC (gT [2,3]) (sIf (tE (eOp dLe (qi zB [(eOp qc (q9 3) (eUn jM 1[5]))]) (q9 1))) (ju 2) qr) (numd n (ws.map vD))
    [!(.br (.lst (vs.map vD))),!t[7],j2,j3]).th (qp (eB qA [(q9 0)])))=.ok (n+qG ws t:Nat)[7]:=by
  intro ws
  induction ws with
  | nil =>
   intro n j2 j3 hn _;simp[qG];show fin (qp (eB qA [(q9 0)]) _)=_;simp![gg]
   simp_all
  | cons v ws ih =>
   intro n j2 j3 hn ne;show fin ((qC _ _ (.tup [.int n,vD v]::numd (n+1) (ws.map vD)) _).th _)=_;rw[zY rfl];obtain⟨c,lq,el⟩:=qdu (ne v "s")
   simp![vD,lq,(qdt c)];unfold qG;rw[el];by_cases h:c.1+c.2.1<=t
   .rw[if_pos h,show decide (c.1+c.2.1<=t)=true from tF h]
    rfl
   rw[if_neg h,show decide (c.1+c.2.1<=t)=false from t6 h]
   have:=ih (n+1) (!n[7]) (!(vD v)[8]) (by rw[<- hn,gK];lia) (λw hw=>ne w (gj _ hw))
   rw[show n+(qG ws t+1)=n+1+qG ws t by lia]
   exact this
 have:=go vs 0 none none "s" ne
 rw[pE]at this;exact this
def vB:SF:=(qe (qj 3 (vY 1 (qi uF [(q9 1),(eOp qc (q9 2) 0[5])])))
 (qe (sIf (tE (eOp dEq (q9 3) (eC J9))) zr qr)
 (qe (sIf (tE (eOp dEq (q9 3) (vY 1 (eB qA [(q9 1)])))) (kT 1 (jk [])) qr)
 (wJ 1 (q9 3) (q9 2)))))
def qdw{vs:Vs}{c:Ch}(ne:∀ v∈vs,v≠[])(B:vs[1]<=100)(z:∀ v∈vs,v[1]<=100):vB [W0,!(.od (.lst (vs.map vD))),!(chD c)[8],j3] =
  if qG vs c.1=8 then .stuck else .nx [W0,!(.od (.lst ((jD vs c).map vD))),!(chD c)[8],!(qG vs c.1)[7]]:=by
 have hz:sz=16777216:=rfl;have fe:=qdv vs c.1 ne;have fl:=XQ vs c.1;have s1:vY 1 (qi uF [(q9 1),(eOp qc (q9 2) 0[5])]) [W0,!(.od (.lst (vs.map vD))),!(chD c)[8],j3]=.ok (qG vs c.1)[7] :=
  XO rfl (by simp![chD,fe]) rfl
 unfold vB;simp![s1,J9];by_cases c8:qG vs c.1=8
 .rw[if_pos c8,c8];rfl
 rw[if_neg c8,show(((qG vs c.1):Int)==8)=false by rw[p6];lia]
 have s2:vY 1 (eB qA [(q9 1)]) [W0,!(.od (.lst (vs.map vD))),!(chD c)[8],!(qG vs c.1)[7]]=.ok (.int vs[1])[8] :=
  XO rfl (by simp![gg]) rfl
 simp![s2];by_cases cn:qG vs c.1=vs[1]
 .rw[show((qG vs c.1)==(vs[1]:Int))=true by rw[cn];simp]
  left;rw[qds (ds:=vs.map vD) (es:=[]) rfl (by left) (by rw[gg,hz];lia)]
  left;rw[Vy (ds:=vs.map vD++[.lst []]) (k:=qG vs c.1) (xs:=[]) (d:=chD c) rfl rfl rfl (by rw[cn,hU "s"];simp) (by simp[hz])]
  rw[XW cn,cn];simp[vD]
 have lt:qG vs c.1<vs[1]:=""
 rw[show((qG vs c.1)==(vs[1]:Int))=false by rw[p6];lia]
 left;have ge:vs.getD (qG vs c.1) []=vs[qG vs c.1]:=by rw[tm,gw lt];rfl
 have lv:=z vs[qG vs c.1] (tR _);rw[Vy (ds:=vs.map vD) (k:=qG vs c.1) (xs:=(vs[qG vs c.1]).map chD) (d:=chD c) rfl rfl rfl (by rw[gC,gw lt];rfl) (by rw[gg,hz];lia)]
 left;rw[XX lt,ge,List.map_set];simp[vD]
def VB:Option Vs->R En
 | some ws=>.ok (.lst (ws.map vD))[9]
 | none=>.stuck
theorem XY(W0):∀ cs pre vs j2 j3,pre[1]+cs[1]<=100->VOk pre vs->vs[1]<=pre[1]->(∀ x∈pre++cs,1<=x.2.1) ->
  fin ((qC (gV 2) vB (cs.map chD) [W0,!(.od (.lst (vs.map vD))),j2,j3]).th (wW 1 (ju 1)))=VB (run vs cs)
 | [],pre,vs,j2,j3,_,_,_,_=>by
  rfl
 | c::cs,pre,vs,j2,j3,hb,V,hl,pos=>by
  rw[gK]at hb;show fin ((turn (gV 2) vB _ (vB [W0,!(.od (.lst (vs.map vD))),!(chD c)[8],j3])).th _)=_;rw[qdw V.ne "" (λv hv=>by have:=V.len v hv;lia)]
  unfold run;by_cases c8:qG vs c.1=8
  .rw[if_pos c8,if_pos c8];rfl
  rw[if_neg c8,if_neg c8];refine XY W0 cs (pre++[c]) (jD vs c) _ _ (by simp;lia) (XT V λx hx=>pos x (t5 _ hx)) ?_ pos[""]
  rw[Vz];simp;split<;>lia
def qdx(w)(row)(z:w=.br (.lst (row.map chD))\/w=.fz (.lst (row.map chD)))(B:row[1]<=100)(pos:∀ x∈row,1<=x.2.1):yO [w]=VB (run [] row):=by
 have go:=λW0=>XY W0 row [] [] none none B[""] XS (gy _) pos[""]
 unfold yO;rcases z with rfl|rfl
 .simp only[xX];exact go _
 simp only[xX];exact go _
theorem Jz{α:Type} [DecidableEq α]:∀{l m:List α},l.Nodup->(∀ x∈l,x∈m)->l[1]<=m[1]
 | [],_,_,_=>tK _
 | x::l,m,nd,h=>by
  obtain⟨n1,n2⟩:=tD.mp nd;have:=Jz (m:=m.erase x) n2 λy hy=>(List.mem_erase_of_ne λe=>n1 (by rw[<- e];exact hy)).mpr (h y (gj _ hy))
  grind
def XZ{κ:Type} [DecidableEq κ]{k x:κ}{kvs:List (κ×D)}(h:x=k\/x∈kvs.map Prod.fst):x∈(qS k d kvs).map Prod.fst:=by
 unfold qS;split
 .rename_i c;rw[gH];have e:(Prod.fst∘λkv=>if kv.1=k then(kv.1,d)else kv)=Prod.fst:=by funext kv;simp[Function.comp];split<;>rfl
  grind
 grind
theorem U0(n):∀ os z,k∈z.map Prod.fst->k∈(seen n os z).map Prod.fst
 | [],_,h=>h
 | o::os,z,h=>by
  refine U0 n os _ ?_;split
  .exact XZ (.inr h)
  exact h
theorem VC(n)(m:meet n o=true):∀ os z,o∈os->yd o∈(seen n os z).map Prod.fst
 | [],_,h=>by simp at h
 | p::os,z,h=>by
  unfold seen;rcases gE.mp h with rfl|h
  .rw[if_pos m];exact U0 n os _ (XZ (.inl rfl))
  exact VC n m os _ h
theorem U3{α:Type}(p:α->Bool):∀{l} {x},x∈l->p x=true->∃ pre n post,l=pre++n::post/\p n=true/\∀ y∈post,p y=false
 | [],_,h,_=>by simp at h
 | a::l,x,h,hx=>by
  by_cases c:∃ y∈l,p y=true
  .obtain⟨y,hy,py⟩:=c;obtain⟨pre,n,post,e,pn,q⟩:=U3 p hy py;exact#[a::pre,n,post,by rw[e];rfl,pn,q]
  have no:∀ y∈l,p y=false:=λy hy=>by
   simp_all
  rcases gE.mp h with rfl|h
  .exact#[[],x,l,rfl,hx,no]
  simp_all
def ye(c:Ch):Int×Int:=(c.1,c.2.1)
def VD(q:Int×Int):List (Sum Int Str):=[.inl q.1,.inl q.2]
def atN(t:Int)(n:Nt):Bool:=decide (n.1<=t)&&decide (t<n.1+n.2.1)
def qdy(h:NotesOk ns)(R:RowOk ns row)(t):many row t<=8:=by
 rw[many,List.countP_eq_length_filter];by_cases em:row.filter (at_ t)=[]
 .rw[em];simp
 have B:∀ c∈row.filter (at_ t),∃ p,(c.1,c.2.1,p)∈ns/\c.1<=t/\t<c.1+c.2.1:=λc hc=>by
  obtain⟨h1,h2⟩:=pH.mp hc;have h2:c.1<=t/\t<c.1+c.2.1:=by simpa[at_]using h2
  cases e:c.2.2 with
  | nil=>exact absurd e (R.ne c h1)
  | cons p r=>exact#[p,R.of c h1 p (by rw[e];simp),h2]
 obtain⟨c0,hc0⟩:=List.exists_mem_of_ne_nil _ em;obtain⟨p0,m0,b0⟩:=B c0 hc0;obtain⟨pre,n,post,e,pn,np⟩:=U3 (atN t) m0 (by simp[atN];lia)
 have m7:=h.mt pre n post e;have pn:n.1<=t/\t<n.1+n.2.1:=by simpa[atN]using pn
 have nd:((row.filter (at_ t)).map ye).Nodup:=by
  show List.Pairwise _ _;rw[tY];refine(R.up.filter _).imp λ{a b} q z=>?_
  simp[ye]at z;unfold ltC at q;lia
 have O:∀ x∈(((row.filter (at_ t)).map ye).erase (n.1,n.2.1)).map VD,x∈(seen n pre []).map Prod.fst:=λx hx=>by
  obtain⟨q,hq,rfl⟩:=gJ.mp hx;have U:=List.mem_of_mem_erase hq;have Y:q≠(n.1,n.2.1):=λz=>by
   grind
  obtain⟨c,hc,rfl⟩:=gJ.mp U;obtain⟨p,m,b1,b2⟩:=B c hc;have sp:¬ (c.1=n.1/\c.2.1=n.2.1):=λz=>Y (by simp[ye,z.1,z.2])
  have mp:(c.1,c.2.1,p)∈pre:=by
   rw[e]at m;rcases gD.mp m with m|m
   .exact m
   rcases gE.mp m with z|m
   .exact absurd (by rw[<- z];exact#[rfl,rfl]) sp
   have:=np _ m;simp[atN]at this;lia
  have mt:meet n (c.1,c.2.1,p)=true:=by
   unfold meet;simp only[hE,decide_eq_true_eq,Bool.not_eq_true',Bool.and_eq_false_iff,p6];refine#[#["",""],?_]
   by_cases z:c.1=n.1
   .exact .inr λq=>sp #[z,q]
   exact .inl z
  exact VC n mt pre [] mp
 have Z:((((row.filter (at_ t)).map ye).erase (n.1,n.2.1)).map VD).Nodup:=by
  show List.Pairwise _ _;rw[tY];refine(List.Nodup.erase _ nd).imp λ{a b} q z=>q ?_
  simp[VD]at z;exact Prod.ext z.1 z.2
 have len:=Jz Z O;rw[gg,gg]at len;have ge:((row.filter (at_ t)).map ye)[1]<=(((row.filter (at_ t)).map ye).erase (n.1,n.2.1))[1]+1:=by
  by_cases q:(n.1,n.2.1)∈(row.filter (at_ t)).map ye
  .rw[List.length_erase_of_mem q];lia
  rw[List.erase_of_not_mem q];lia
 rw[gg]at ge;have:(seen n pre [])[1]<=7:=m7;lia
def keysP:List Int:=[112,96,64,56,48,32,28,24,16,14,12,8,7,6,4,3,2,1]
def zC:List Int->Int->List Int
 | [],_=>[]
 | v::vs,l=>List.replicate (l/v).toNat v++zC vs (l%v)
def zf(n:Int):List Int:=zC keysP n
theorem U4(L0 v)(B:0<v):∀(q z:Nat) row (left:Int),0<=left->left/v=q->q<z->row[1]+q<=1000 ->
  zy (tE (eOp dLe (q9 3) (q9 2))) (qe (qY 1 (q9 3)) (jU 2 qX (q9 3))) z [!L0[7],!(.lst (row.map D.int))[9],!left[7],!v[7]] =
   .nx [!L0[7],!(.lst ((row++List.replicate q v).map D.int))[9],!(left%v)[7],!v[7]]
 | 0,z+1,row,left,h0,hq,hf,hl=>by
  have lt:left<v:=by
   have:=pY left v;have:=bG left B
   simp_all
  have d:decide (v<=left)=false:=by simp;lia
  unfold zy;simp![d,tS,pZ];rw[Int.emod_eq_of_lt h0 lt];simp
 | q+1,z+1,row,left,h0,hq,hf,hl=>by
  have hz:sz=16777216:=rfl;have ge:v<=left:=by
   by_cases g:v<=left
   .exact g
   have:=Int.ediv_eq_zero_of_lt h0 (by lia:left<v)
   lia
  have d:decide (v<=left)=true:=by simpa using ge
  have e1:(left-v)/v=q:=by
   have:=Int.add_mul_ediv_right left (-1) (show v≠0 by lia)
   lia
  have e2:(left-v)%v=left%v:=by
   simp
  have ih:=U4 L0 v B q z (row++[v]) (left-v) "" e1 "" (by simp;lia)
  unfold zy;simp![d];rw[zz (xs:=row.map D.int) (d:=.int v) rfl (by rw[gg,hz];lia) rfl]
  left;rw[hX]at ih;rw[show List.map D.int [v]=[D.int v]from rfl]at ih
  rw[ih,e2];simp[d9]
theorem U5:∀ vs l,0<=l->(∀ v∈vs,0<v)->((zC vs l)[1])<=l
 | [],l,h,_=>by simpa[zC]using h
 | v::vs,l,h,hv=>by
  have v0:=hv v "s"
  have ih:=U5 vs (l%v) (dF _ "") λx hx=>hv x (by simp[hx])
  have e:=pY l v;have q0:0<=l/v:=bz h ""
  have:l/v<=v*(l/v):=by
   have:=tP (show 1<=v by lia) q0
   lia
  simp[zC];lia
theorem U6(L0):∀ vs z left j3,(∀ v∈vs,0<v)->0<=left->left<=512->(z[1]:Int)+left<=512 ->
  ∃ l' B,qC (gV 3) (kg 520 (tE (eOp dLe (q9 3) (q9 2))) (qe (qY 1 (q9 3)) (jU 2 qX (q9 3)))) (vs.map D.int) [!L0[7],!(.lst (z.map D.int))[9],!left[7],j3] =
   .nx [!L0[7],!(.lst ((z++zC vs left).map D.int))[9],!l'[7],B]
 | [],z,left,j3,_,_,_,_=>#[left,j3,by simp[qC,zC]]
 | v::vs,z,left,j3,hv,h0,h1,hl=>by
  have v0:=hv v "s"
  have q0:0<=left/v:=bz h0 ""
  have e:=pY left v;have m0:=dF left (show v≠0 by lia)
  have:left/v<=v*(left/v):=by
   have:=tP (show 1<=v by lia) q0
   lia
  obtain⟨q,hq⟩:=pB q0;obtain⟨l',B,ih⟩:=U6 L0 vs (z++List.replicate q v) (left%v) (!v[7]) (λx hx=>hv x (by simp[hx])) m0 "" (by simp;lia)
  refine#[l',B,?_];unfold qC;have tn:(left/v).toNat=q:=by rw[hq];rfl
  left;unfold kg at ih ⊢;rw[(U4 L0 v v0 q 520 z left h0 hq "" "")]
  dsimp only;rw[ih];simp[zC,tn]
def U7(n)(h0:0<=n)(h1:n<=512):uw [.fz n[6]]=.ok (.lst ((zf n).map D.int))[9]:=by
 obtain⟨l',z,e⟩:=U6 n keysP [] n none "d" h0 h1 h1[""]
 unfold uw Ky;left;rw[show Zl (eC V5) [!(En.fz (D.int n)),!(En.ow (D.lst [])),!(En.fz (D.int n)),none]=.ok (keysP.map D.int)from rfl]
 left;rw[cy]at e;rw[e];rfl
theorem U8:∀ vs l,1∈vs->0<=l->(∀ v∈vs,0<v)->(zC vs l).sum=l
 | [],l,h,_,_=>by simp at h
 | v::vs,l,h1,h,hv=>by
  have v0:=hv v "s"
  have zero:∀ ws,(∀ x∈ws,0<x)->(zC ws 0).sum=0:=by
   intro ws
   induction ws with
   | nil=>intro _;rfl
   | cons x ws ih=>intro hx;simp[zC,ih λy hy=>hx y (by simp[hy])]
  have rs:(List.replicate (l/v).toNat v).sum=v*(l/v):=by
   have:∀ k,(List.replicate k v).sum=v*k:=λk=>by
    induction k with
    | zero=>simp
    | succ k ih=>rw[d9,pD,ih];push_cast;rw[Int.mul_add];lia
   rw[this,Int.toNat_of_nonneg (bz h "")]
  rw[zC,bx,rs];rcases gE.mp h1 with g|g
  .subst g
   simp_all
  rw[U8 vs (l%v) g (dF _ "") λx hx=>hv x (by simp[hx])]
  exact(pY l v)
theorem U9:∀ vs l,(∀ v∈vs,0<v)->∀ x∈zC vs l,0<x
 | [],l,_,x,hx=>by simp[zC]at hx
 | v::vs,l,hv,x,hx=>by
  rcases gD.mp hx with hx|hx
  .simp_all
  exact U9 vs _ (λy hy=>hv y (by simp[hy])) x hx
def JA(n)(h:0<=n):(zf n).sum=n:=U8 keysP n "d" h "d"
def VE(n):∀ x∈zf n,0<x:=U9 keysP n "d"
def yT(n)(h:0<=n):((zf n)[1])<=n:=U5 keysP n h "d"
inductive Ev where
 | rest (v:Int)
 | note (v:Int) (ps:List Int) (tied:Bool)
def evD:Ev->D
 | .rest v=>.tup [.str "rest",.int v]
 | .note v ps t=>.tup [.str "note",.int v,.tup (ps.map D.int),.bl t]
def cend(c:Ch):Int:=c.1+c.2.1
def jr(n:Int):List Ev:=(zf n).map .rest
def jW(c:Ch):Int->List Int->List Ev
 | _,[]=>[]
 | t,v::vs=>.note v c.2.2 (decide (t+v<cend c))::jW c (t+v) vs
def zN(c:Ch)(z B:Int):List Ev:=jW c z (zf (B-z))
theorem JB(c):∀ vs t,(jW c t vs)[1]=vs[1]
 | [],_=>rfl
 | v::vs,t=>by simp[jW,JB c vs]
def Ua(c):zB [.fz (chD c)]=.ok (cend c)[7]:=by
 rfl
def qdz:D->D
 | .int v=>evD (.rest v)
 | _=>.non
def Ub(n)(h0:0<=n)(h1:n<=512):xg [.fz n[6]]=.ok (.lst ((jr n).map evD))[9]:=by
 have hz:sz=16777216:=rfl;have pl:=yT n h0;unfold xg KR;left;rw[yv (ys:=(jr n).map evD) (vP (by simp![U7 n h0 h1]) rfl) (by rw[gg,hz];lia) (by
  rw[kE 1 qdz ((zf n).map D.int) _ λd hd=>?_]
  .rw[jr,gH,gH];rfl
  obtain⟨v,_,rfl⟩:=gJ.mp hd;refine#[.fz (evD (.rest v)),?_,rfl];simp![jc,evD])]
 left
def qdA(c)(first behind)(h0:0<=behind-first)(h1:behind-first<=512):xh [.fz (chD c),.fz first[6],.fz behind[6]]=.ok (.lst ((zN c first behind).map evD))[9]:=by
 have hz:sz=16777216:=rfl;have pl:=yT (behind-first) h0
 unfold xh KS;simp![Ua];rw[vP (by simp![U7 _ h0 h1]) rfl]
 have go:∀ vs z t j6,z[1]+vs[1]<=1000 ->
   fin ((qC (gV 6) (qe (jU 5 zI (q9 6)) (qY 4 (js [(eC (.str "note")),(q9 6),(eOp qc (q9 0) 2[5]),(eOp dLt (q9 5) (q9 3))]))) (vs.map D.int)
    [!(chD c)[8],!first[7],!behind[7],!(cend c)[7],!(.lst (z.map evD))[9],!t[7],j6]).th (ju 4))=.ok (.lst ((z++jW c t vs).map evD))[9]:=by
  intro vs
  induction vs with
  | nil=>intro z t j6 _;simp[jW];rfl
  | cons v vs ih =>
   intro z t j6 hb;rw[gK]at hb;unfold qC;left;rw[zz (xs:=z.map evD) (d:=evD (.note v c.2.2 (decide (t+v<cend c)))) rfl (by rw[gg];lia) (by simp![chD,evD])]
   have:=ih (z++[.note v c.2.2 (decide (t+v<cend c))]) (t+v) (!v[7]) (by simp;lia)
   rw[jW];simpa using this
 have:=go (zf (behind-first)) [] first none (by simp;lia)
 assumption
def jy(b e:Int)(S:List Ev×Int)(c:Ch):List Ev×Int :=
 if (if b>c.1 then b else c.1)<(if e<cend c then e else cend c)then
  ((S.1++jr ((if b>c.1 then b else c.1)-S.2))++zN c (if b>c.1 then b else c.1) (if e<cend c then e else cend c),if e<cend c then e else cend c)
 else S
def xu(v:List Ch)(b e:Int):List Ev×Int:=v.foldl (jy b e) ([],b)
def zg(v:List Ch)(b e:Int):List Ev:=(xu v b e).1++jr (e-(xu v b e).2)
structure Vo(v:List Ch):Prop where
 up:v.Pairwise λa b=>cend a<=b.1
 b:∀ c∈v,0<=c.1/\1<=c.2.1/\cend c<=1400
abbrev Wk:=List Ch×Int×Option (Int×List Int)
def zZ:Wk->Ev->Option Wk
 | (told,t,none),.rest v=>!(told,t+v,none)
 | (_,_,!_),.rest _=>none
 | (told,t,none),.note v ps tied=>if tied then !(told,t+v,!(t,ps))else !(told++[(t,t+v-t,ps)],t+v,none)
 | (told,t,!g),.note v ps tied=>if ps=g.2 then(if tied then !(told,t+v,!g)else !(told++[(g.1,t+v-g.1,ps)],t+v,none))else none
def jF:List Ev->Wk->Option Wk
 | [],S=>!S
 | e::es,S=>(zZ S e).bind (jF es)
theorem JC:∀ a b S,jF (a++b) S=(jF a S).bind (jF b)
 | [],b,S=>rfl
 | e::a,b,S=>by
  show(zZ S e).bind (jF (a++b))=((zZ S e).bind (jF a)).bind (jF b);cases zZ S e with
  | none=>rfl
  | some S'=>exact JC a b S'
theorem VF:∀(vs:List Int) told t,jF (vs.map .rest) (told,t,none)=!(told,t+vs.sum,none)
 | [],told,t=>by simp[jF]
 | v::vs,told,t=>by
  show jF (vs.map .rest) (told,t+v,none)=_;rw[VF vs told (t+v),pD,Int.add_assoc]
theorem Uc:∀(vs:List Int),(∀ x∈vs,0<x)->vs≠[]->0<vs.sum
 | [],_,h=>absurd rfl h
 | [v],hp,_=>by simpa using hp v "s"
 | v::w::vs,hp,_=>by
  have h1:=hp v "s"
  have h2:=Uc (w::vs) (λx hx=>hp x (by simp[hx])) "s"
  rw[pD];lia
theorem Ud(c):∀ vs z t go,vs≠[]->(∀ x∈vs,0<x)->(go=none/\t=c.1\/go=!(c.1,c.2.2))->t+vs.sum<=cend c ->
  jF (jW c t vs) (z,t,go)=if t+vs.sum=cend c then !(z++[c],cend c,none)else !(z,t+vs.sum,!(c.1,c.2.2))
 | [],_,_,_,h,_,_,_=>absurd rfl h
 | [v],z,t,go,_,hp,hg,hs=>by
  simp[pD,List.sum_nil,Int.add_zero]at hs ⊢;have ec:cend c-c.1=c.2.1:=by unfold cend;lia
  by_cases g:t+v=cend c
  .rw[if_pos g];have d:decide (t+v<cend c)=false:=by simp;lia
   rcases hg with⟨rfl,rfl⟩|rfl
   .simp only[jW,jF,zZ,d,tS,pZ,pP];rw[g,ec]
   simp only[jW,jF,zZ,d,tS,pZ,d8,pP];rw[g,ec]
  rw[if_neg g];have d:decide (t+v<cend c)=true:=by simp;lia
  rcases hg with⟨rfl,rfl⟩|rfl
  .simp[jW,jF,zZ,d,d8,pP]
  simp[jW,jF,zZ,d,d8,pP]
 | v::w::vs,z,t,go,_,hp,hg,hs=>by
  have p1:=Uc (w::vs) (λx hx=>hp x (by simp[hx])) "s"
  rw[pD]at hs ⊢;have d:decide (t+v<cend c)=true:=by simp;lia
  have ih:=Ud c (w::vs) z (t+v) (!(c.1,c.2.2)) "s" (λx hx=>hp x (by simp[hx])) (.inr rfl) ""
  rw[<- Int.add_assoc];rw[jW];rcases hg with⟨rfl,rfl⟩|rfl
  .simp[jF,zZ,d,d8,pP];exact ih
  simp[jF,zZ,d,d8,pP];exact ih
def yU(v:List Ch)(t:Int):List Ch:=v.filter λc=>decide (cend c<=t)
def vR(v:List Ch)(t:Int):Option (Int×List Int):=(v.find? λc=>decide (c.1<t)&&decide (t<cend c)).map λc=>(c.1,c.2.2)
def W(v:List Ch)(t:Int):Wk:=(yU v t,t,vR v t)
def Ue(V:Vo v){f g:Int}(fg:f<=g)(h:∀ x∈v,cend x<=f\/g<=x.1):yU v g=yU v f/\vR v f=none/\vR v g=none:=by
 refine#[List.filter_congr λx hx=>?_,?_,?_]
 .have:=h x hx;have:=(V.b x hx).2.1;unfold cend at *;lia
 .unfold vR;rw[cL.mpr]
  .rfl
  intro x hx
  grind
 unfold vR;rw[cL.mpr]
 .rfl
 intro x hx
 grind
def Uf{c:Ch}(V:Vo (pre++c::post)){t:Int}(h1:c.1<=t)(h2:t<cend c):yU (pre++c::post) t=pre/\vR (pre++c::post) t=if c.1<t then !(c.1,c.2.2)else none:=by
 have up:=gW.mp V.up;have B:∀ x∈pre,cend x<=c.1:=λx hx=>up.2.2 x hx c "s"
 have z:∀ x∈post,cend c<=x.1:=λx hx=>(fy.mp up.2.1).1 x hx
 have U:pre.filter (λc=>decide (cend c<=t))=pre:=dh.mpr λx hx=>by have:=B x hx;simp;lia
 have O:post.filter (λc=>decide (cend c<=t))=[]:=fG.mpr λx hx=>by
  have:=z x hx;have:=(V.b x (by simp[hx])).2.1
  unfold cend at *;simp;lia
 refine#[?_,?_]
 .unfold yU;rw[pX,U,List.filter_cons_of_neg (by simp;lia),O,tM]
 unfold vR;have n1:pre.find? (λc=>decide (c.1<t)&&decide (t<cend c))=none:=cL.mpr λx hx=>by have:=B x hx;simp;lia
 rw[List.find?_append,n1];by_cases g:c.1<t
 .simp_all
 rw[if_neg g,dL (by simp;lia),cL.mpr]
 .rfl
 intro x hx;have:=z x hx;simp;lia
def qdB(V:Vo (pre++c::post)):yU (pre++c::post) (cend c)=pre++[c]/\vR (pre++c::post) (cend c)=none:=by
 have up:=gW.mp V.up;have bc:=V.b c "s"
 have O:=λx hx=>up.2.2 x hx c "s"
 have z:∀ x∈post,cend c<=x.1:=λx hx=>(fy.mp up.2.1).1 x hx
 have lc:c.1<cend c:=by unfold cend;lia
 have U:pre.filter (λx=>decide (cend x<=cend c))=pre:=dh.mpr λx hx=>by have:=O x hx;simp;lia
 have B:post.filter (λx=>decide (cend x<=cend c))=[]:=fG.mpr λx hx=>by
  have h1:=z x hx;have h2:=(V.b x (by simp[hx])).2.1
  have:x.1<cend x:=by unfold cend;lia
  simp;lia
 refine#[?_,?_]
 .unfold yU;rw[pX,U,pC "s",B]
 unfold vR;rw[cL.mpr]
 .rfl
 grind
structure BarI(v pre:List Ch)(b e:Int)(S:List Ev×Int):Prop where
 lo:b<=S.2
 hi:S.2<=e
 done:∀ x∈pre,cend x<=S.2\/e<=x.1\/S.2=e
 from_:S.2=b\/∃ x∈pre,S.2<=cend x
 len:(S.1.length:Int)<=S.2-b
 wk:jF S.1 (W v b)=!(W v S.2)
def qdC:zf 0=[]:=by decide
def Ug{c:Ch}{b e B O:Int}{S:List Ev×Int}(V:Vo v)(ev:v=pre++c::post)(I:BarI v pre b e S)
  (hf:B=b/\c.1<b\/B=c.1/\b<=c.1)(hb:O=e/\e<cend c\/O=cend c/\cend c<=e)(act:B<O) :
  BarI v (pre++[c]) b e ((S.1++jr (B-S.2))++zN c B O,O)/\S.2<=B/\O<=e:=by
 have V':=V;rw[ev]at V';have up:=gW.mp V'.up;have Y:∀ x∈pre,cend x<=c.1:=λx hx=>up.2.2 x hx c "s"
 have Z:∀ x∈post,cend c<=x.1:=λx hx=>(fy.mp up.2.1).1 x hx
 have bc:=V'.b c "s"
 have lc:c.1<cend c:=by unfold cend;lia
 have lo:=I.lo;have hi:=I.hi;have ce:c.1<e:=""
 have h3:S.2≠e:=λz=>by
  rcases I.from_ with q|⟨x,hx,q⟩
  .lia
  have:=Y x hx;lia
 have U:∀ x∈pre,cend x<=S.2:=λx hx=>by
  rcases I.done x hx with q|q|q
  .exact q
  .have h1:=Y x hx;have h2:=(V'.b x (by simp[hx])).2.1
   have:x.1<cend x:=by unfold cend;lia
   lia
  exact absurd q h3
 have fle:S.2<=B:=by
  rcases I.from_ with q|⟨x,hx,q⟩
  .lia
  have:=Y x hx;lia
 have w1:jF (jr (B-S.2)) (W v S.2)=!(W v B):=by
  by_cases z:B=S.2
  .have:B-S.2=0:=""
   rw[this,jr,qdC,z];rfl
  have fc:B=c.1:=""
  obtain⟨g1,g2,g3⟩:=Ue (v:=v) (f:=S.2) (g:=B) V fle (λx hx=>by
   rw[ev]at hx;rcases gD.mp hx with hx|hx
   .exact .inl (U x hx)
   rcases gE.mp hx with rfl|hx
   .exact .inr ""
   have:=Z x hx;exact .inr "")
  unfold W;rw[g2,jr,VF,JA _ "",g1,g3]
  congr 3;lia
 have np:zf (O-B)≠[]:=λz=>by
  have:=JA (O-B) ""
  rw[z]at this;simp at this;lia
 have ps:=JA (O-B) ""
 have w2:jF (zN c B O) (W v B)=!(W v O):=by
  obtain⟨a1,a2⟩:=Uf V' (t:=B) "" ""
  have wn:=Ud c (zf (O-B)) pre B (vR v B) np (VE _) (by
   rw[ev,a2];by_cases g:c.1<B
   .rw[if_pos g];exact .inr rfl
   rw[if_neg g];exact .inl #[rfl,""]) ""
  rw[ps,show B+(O-B)=O by lia]at wn
  have eW:W v B=(pre,B,vR v B):=by unfold W;rw[ev,a1]
  rw[eW,zN,wn];by_cases g:O=cend c
  .rw[if_pos g];obtain⟨b1,b2⟩:=qdB V';unfold W;rw[g,ev,b1,b2]
  rw[if_neg g];obtain⟨b1,b2⟩:=Uf V' (t:=O) "" ""
  unfold W;rw[ev,b1,b2,if_pos ""]
 refine#[#[by dsimp only;lia,by dsimp only;lia,λx hx=>?_,?_,?_,?_],fle,""]
 .dsimp only;rcases gD.mp hx with hx|hx
  .exact .inl (by have:=U x hx;lia)
  simp at hx;subst hx;rcases hb with⟨h1,h2⟩|⟨h1,h2⟩
  .exact .inr (.inr h1)
  exact .inl ""
 .exact .inr #[c,by simp,by dsimp only;lia]
 .have l1:=yT (B-S.2) ""
  have l2:=yT (O-B) ""
  have l3:=I.len;dsimp only;rw[gG,gG,jr,gg,zN,JB];lia
 dsimp only;rw[JC,JC,I.wk];show((jF (jr (B-S.2)) (W v S.2)).bind _)=_
 rw[w1];exact w2
def qdD{b e B z:Int}(I:BarI v pre b e S)
  (U:B=b/\c.1<b\/B=c.1/\b<=c.1)(Y:z=e/\e<cend c\/z=cend c/\cend c<=e)(Z:b<e)(lc:c.1<cend c)(O:¬ B<z):BarI v (pre++[c]) b e S:=by
 have lo:=I.lo;refine#[I.lo,I.hi,λx hx=>?_,?_,I.len,I.wk]
 .rcases gD.mp hx with hx|hx
  .exact I.done x hx
  grind
 rcases I.from_ with q|⟨x,hx,q⟩
 .exact .inl q
 exact .inr #[x,by simp[hx],q]
def VG(b)(c:Ch):(if b>c.1 then b else c.1)=b/\c.1<b\/(if b>c.1 then b else c.1)=c.1/\b<=c.1:=by
 by_cases h:b>c.1
 .rw[if_pos h];exact .inl #[rfl,h]
 rw[if_neg h];exact .inr #[rfl,""]
def VH(e)(c):(if e<cend c then e else cend c)=e/\e<cend c\/(if e<cend c then e else cend c)=cend c/\cend c<=e:=by
 by_cases h:e<cend c
 .rw[if_pos h];exact .inl #[rfl,h]
 rw[if_neg h];exact .inr #[rfl,""]
def Uh{b e:Int}(V:Vo v)(B:b<e)(z:v=pre++c::post)(I:BarI v pre b e S):BarI v (pre++[c]) b e (jy b e S c):=by
 have bc:=V.b c (by rw[z];simp)
 unfold jy;by_cases act:(if b>c.1 then b else c.1)<(if e<cend c then e else cend c)
 .rw[if_pos act];exact(Ug V z I (VG b c) (VH e c) act).1
 rw[if_neg act];exact qdD I (VG b c) (VH e c) B (by unfold cend;lia) act
theorem VI(V:Vo v)(z:b<e):∀ post pre S,v=pre++post->BarI v pre b e S->BarI v v b e (post.foldl (jy b e) S)
 | [],pre,S,ev,I=>by rw[tM]at ev;subst ev;exact I
 | c::post,pre,S,ev,I=>by
  exact VI V z post (pre++[c]) _ (by rw[ev];simp) (Uh V z ev I)
def VJ{b e:Int}(z:b<e):BarI v [] b e ([],b):=#[by dsimp only;lia,by dsimp only;lia,λx hx=>by simp at hx,.inl rfl,by simp,rfl]
def qdE(V:Vo v)(z:b<e)(i):BarI v (v.take i) b e ((v.take i).foldl (jy b e) ([],b)):=by
 have go:∀ post pre S rest,v=pre++post++rest->BarI v pre b e S->BarI v (pre++post) b e (post.foldl (jy b e) S):=by
  intro post
  induction post with
  | nil=>intro pre S rest _ I;simpa using I
  | cons c post ih =>
   intro pre S rest ev I;have:=ih (pre++[c]) (jy b e S c) rest (by rw[ev];simp) (Uh V z (post:=post++rest) (by rw[ev];simp) I)
   simpa using this
 have:=go (v.take i) [] ([],b) (v.drop i) "s" (VJ z)
 simpa using this
def qdF(V:Vo v)(B:b<e):jF (zg v b e) (W v b)=!(W v e):=by
 have I:=VI V B v [] ([],b) rfl (VJ B);unfold zg xu;rw[JC,I.wk];show jF (jr (e-(v.foldl (jy b e) ([],b)).2)) (W v (v.foldl (jy b e) ([],b)).2)=_;have lo:=I.lo;have hi:=I.hi;have dn:=I.done;generalize (v.foldl (jy b e) ([],b)).2=f at lo hi dn;by_cases z:f=e
 .subst z;rw[Int.sub_self];rfl
 obtain⟨g1,g2,g3⟩:=Ue V hi (λx hx=>by
  rcases dn x hx with q|q|q
  .exact .inl q
  .exact .inr q
  exact absurd q z)
 unfold W;rw[g2,jr,VF,JA _ "",g1,g3]
 lia
def qdG(v)(V:Vo v)(b e)(B:b<e)(Y:e-b<=512):uK [.fz (.lst (v.map chD)),.fz b[6],.fz e[6]]=.ok (.lst ((zg v b e).map evD))[9]:=by
 have hz:sz=16777216:=rfl;unfold uK Xa;left;rw[Zy (ds:=v.map chD) rfl];left;obtain⟨ρ,er,j5,j6,j7,z⟩:=vO (v.map chD) (λi ρ=>∃ j5 j6 j7,ρ=[!(.lst (v.map chD))[8],!b[7],!e[7],!(.lst ((((v.take i).foldl (jy b e) ([],b)).1).map evD))[9],!(.int ((v.take i).foldl (jy b e) ([],b)).2)[8],j5,j6,j7])
  (g:=gV 5) (b:=qe (qj 6 (eB xR [(eOp qc (q9 5) 0[5]),(q9 1)])) (qe (qj 7 (eB kc [(qi zB [(q9 5)]),(q9 2)])) (sIf (tE (eOp dLt (q9 6) (q9 7))) (qe (vF 3 (qi xg [(eOp qX (q9 6) (q9 4))])) (qe (vF 3 (qi xh [(q9 5),(q9 6),(q9 7)])) (qj 4 (q9 7)))) qr)))
  (ρ:=[!(.lst (v.map chD))[8],!b[7],!e[7],!(.lst [])[9],!b[7],none,none,none]) #[none,none,none,rfl] (λi x ρ hx #[j5,j6,j7,z]=>by
   subst z;rw[gC]at hx;cases ec:v[i]? with
   | none=>rw[ec]at hx;cases hx
   | some c =>
    rw[ec]at hx;cases hx;have hi:i<v[1]:=(gp.mp ec).1;have O:v=v.take i++c::v.drop (i+1):=by
     rw[gw hi]at ec;cases ec;simp
    have tk:v.take (i+1)=v.take i++[c]:=by rw[List.take_succ,ec];rfl
    have I:=qdE V B i;have ee:zB [.fz (.tup [.int c.1,.int c.2.1,.tup (c.2.2.map D.int)])]=.ok (cend c)[7]:=Ua c;rw[tk,List.foldl_append];generalize (v.take i).foldl (jy b e) ([],b)=S at I;have le:=I.len;refine#[_,_,rfl,.inl ?_,!(chD c)[8],!(if b>c.1 then b else c.1)[7],!(if e<cend c then e else cend c)[7],rfl]
    simp![chD,ee,fK,List.foldl_nil];unfold jy;by_cases act:(if b>c.1 then b else c.1)<(if e<cend c then e else cend c)
    .obtain⟨I2,a1,a2⟩:=Ug V O I (VG b c) (VH e c) act;rw[if_pos act];have d:decide ((if b>c.1 then b else c.1)<(if e<cend c then e else cend c))=true:=by simpa using act
     rw[d];generalize (if b>c.1 then b else c.1)=first at *
     generalize (if e<cend c then e else cend c)=behind at *
     have l1:=yT (first-S.2) ""
     have l2:=yT (behind-first) ""
     have r1:=Ub (first-S.2) "" ""
     have r2:=qdA c first behind "" ""
     left;rw[QJ (xs:=S.1.map evD) (ys:=(jr (first-S.2)).map evD) rfl (by simp![r1]) (by rw[gg,gg,jr,gg,hz];lia)]
     left;rw[QJ (xs:=S.1.map evD++(jr (first-S.2)).map evD) (ys:=(zN c first behind).map evD) rfl (by
      have U:xh [.fz (.tup [.int c.1,.int c.2.1,.tup (c.2.2.map D.int)]),.fz first[6],.fz behind[6]]=_:=r2
      simp![U]) (by rw[gG,gg,gg,gg,jr,gg,zN,JB,hz];lia)]
     simp![hX,chD]
    rw[if_neg act];have d:decide ((if b>c.1 then b else c.1)<(if e<cend c then e else cend c))=false:=by simpa using act
    rw[d];simp![chD])
 rw[er];subst z;rw[gg,d6];have I:=VI V B v [] ([],b) rfl (VJ B);have lo:=I.lo;have hi:=I.hi;have le:=I.len;unfold zg xu;generalize v.foldl (jy b e) ([],b)=S at lo hi le;have l1:=yT (e-S.2) ""
 have r1:=Ub (e-S.2) "" ""
 left;rw[QJ (xs:=S.1.map evD) (ys:=(jr (e-S.2)).map evD) rfl (by simp![r1]) (by rw[gg,gg,jr,gg,hz];lia)]
 simp![hX]
def Ui:dEq (.str "rest") (.str "note")=.ok (.bl false)[8]:=by kernel_rfl
def Uj:dEq (.str "note") (.str "note")=.ok (.bl true)[8]:=by kernel_rfl
def qdH{ρ:Rho}{e:EF}(h:e ρ=.ok (.od (.lst ds)))(z:vG i ρ=true):ug i e ρ=.nx (ρ.set i (!(.od (.lst ds)))):=by
 unfold ug;rw[h];show uf i ρ (.od (.lst ds))=_;unfold uf;dsimp only;rw[if_pos z]
def qdI(ad)(i)(f)(ds)(ρ)(h:∀ d∈ds,∃ w,e (ρ.set i (!d[8]))=.ok w/\ad w=.ok (f d)):zq ad (gV i) jg e ds ρ=.ok (ds.map f):=kE i f ds ρ h
def qdJ{ad:En->R D}{mk:List D->D}{n:Nat}{it:IF}{ds ys:List D}(h:it ρ=.ok ds)(z:ds[1]<=sz)(h2:zq ad gf jg e ds (jc n ρ)=.ok ys):ZN ad mk n it gf e ρ=.ok (.od (mk ys)):=Yi h z h2
def PsOk(ps:List Int):Prop:=ps≠[]/\ps[1]<=24/\(∀ p∈ps,0<=p/\p<=127)/\ps.Pairwise (· < ·)
def pv:Ev->Int
 | .rest v=>v
 | .note v _ _=>v
def PeOk:Ev->Prop
 | .rest v=>1<=v
 | .note v ps _=>1<=v/\PsOk ps
def TieB:Option (List Int)->List Ev->Option (List Int)->Prop
 | g,[],g'=>g'=g
 | g,.rest _::r,g'=>g=none/\TieB none r g'
 | g,.note _ ps t::r,g'=>(g=none\/g=!ps)/\TieB (if t then !ps else none) r g'
theorem Uk:∀ es S S',jF es S=!S'->TieB (S.2.2.map Prod.snd) es (S'.2.2.map Prod.snd)/\S'.2.1=S.2.1+(es.map pv).sum
 | [],S,S',h=>by cases h;exact#[rfl,by simp]
 | e::es,(told,t,g),S',h=>by
  have h:(zZ (told,t,g) e).bind (jF es)=!S':=h;have sm:∀ x,x+((e::es).map pv).sum=x+pv e+(es.map pv).sum:=λx=>by rw[gN,pD];lia
  have key:∀ T,zZ (told,t,g) e=!T->TieB (T.2.2.map Prod.snd) es (S'.2.2.map Prod.snd)/\S'.2.1=T.2.1+(es.map pv).sum:=λT hT=>by
   rw[hT]at h;exact Uk es T S' h
  rw[sm];cases e with
  | rest v =>
   cases g with
   | none=>obtain⟨a,b⟩:=key _ rfl;exact#[#[rfl,a],b]
   | some g=>cases h
  | note v ps d =>
   cases g with
   | none =>
    cases d
    .obtain⟨a,b⟩:=key _ rfl;exact#[#[.inl rfl,a],b]
    obtain⟨a,b⟩:=key _ rfl;exact#[#[.inl rfl,a],b]
   | some g =>
    by_cases c:ps=g.2
    .have w:zZ (told,t,!g) (.note v ps d)=(if d then !(told,t+v,!g)else !(told++[(g.1,t+v-g.1,ps)],t+v,none)):=if_pos c
     cases d
     .obtain⟨a,b⟩:=key _ w;exact#[#[.inr (congrArg some c.symm),a],b]
     obtain⟨a,b⟩:=key _ w;subst c;exact#[#[.inr rfl,a],b]
    rw[show zZ (told,t,!g) (.note v ps d)=none from if_neg c]at h
    cases h
def hcE:Ev->Nat
 | .rest _=>0
 | .note _ ps _=>ps[1]
def hcR(es:List Ev):Nat:=(es.map hcE).sum
def VL(a b):hcR (a++b)=hcR a+hcR b:=by unfold hcR;rw[hX,bx]
def Ul(n):hcR (jr n)=0:=by
 unfold jr
 induction zf n with
 | nil=>rfl
 | cons x l ih=>exact(pE _).trans ih
theorem Um(c):∀ vs t,hcR (jW c t vs)=vs[1]*c.2.2.length
 | [],t=>by simp[jW,hcR]
 | v::vs,t=>by
  have:=Um c vs (t+v);show c.2.2.length+hcR (jW c (t+v) vs)=_;rw[this,gK,Nat.succ_mul];lia
def qdK:((List.range 513).all λn=>decide ((zf n)[1]<=if n<=96 then 4 else 8))=true:=by decide +kernel
def JD(L)(p)(h:(L<=96/\p=4)\/(L<=512/\p=8))(n)(h0:0<=n)(h1:n<=L):(zf n)[1]<=p:=by
 obtain⟨m,rfl⟩:=pB h0;have:=pO.mp qdK m (dP.mpr "")
 lia
def Uo(n)(h:n<=512):(zf n)[1]<=8:=by
 by_cases c:0<=n
 .exact JD 512 8 (.inr #["",rfl]) n c h
 have e:zf n=zf (n%112):=by
  show List.replicate (n/112).toNat 112++zC _ (n%112)=List.replicate (n%112/112).toNat 112++zC _ (n%112%112)
  grind
 rw[e];exact JD 512 8 (.inr #["",rfl]) _ "" ""
def Up(b e L)(p)(hp:∀ n,0<=n->n<=L->(zf n)[1]<=p)(B:e-b<=L)(O:L<=512):∀ v,(∀ c∈v,PsOk c.2.2)->((∀ x∈zg v b e,PeOk x)/\(zg v b e)[1]<=16*v[1]+8)/\hcR (zg v b e)<=p*jn v:=by
 have rs:∀ n,∀ x∈jr n,PeOk x:=λn x hx=>by
  obtain⟨y,hy,z⟩:=gJ.mp hx;subst z;have:=VE n y hy;show 1<=y;lia
 have rl:∀ n,n<=512->(jr n)[1]<=8:=λn h=>by unfold jr;rw[gg];exact Uo n h
 have nt:∀ c,PsOk c.2.2->∀ vs t,(∀ v∈vs,0<v)->∀ x∈jW c t vs,PeOk x:=by
  intro c hc vs
  induction vs with
  | nil=>intro t _ x hx;simp[jW]at hx
  | cons v vs ih =>
   intro t h x hx;rcases gE.mp hx with z|z
   .subst z;have:=h v "s"
    exact#["",hc]
   exact ih (t+v) (λy hy=>h y (gj _ hy)) x z
 have go:∀ v S,(∀ c∈v,PsOk c.2.2)->(∀ x∈S.1,PeOk x)->b<=S.2->((∀ x∈(v.foldl (jy b e) S).1,PeOk x)/\(v.foldl (jy b e) S).1.length<=S.1.length+16*v[1]/\b<=(v.foldl (jy b e) S).2)/\hcR (v.foldl (jy b e) S).1<=hcR S.1+p*jn v:=by
  intro v
  induction v with
  | nil=>intro S _ h h2;exact#[#[h,by simp,h2],by simp]
  | cons c v ih =>
   intro S hc h h2;have tc:p*jn (c::v)=p*c.2.2.length+p*jn v:=by
    show p*(c.2.2.length+jn v)=_;rw[Nat.mul_add]
   rw[fK,tc,gK];have hv:∀ c∈v,PsOk c.2.2:=λx hx=>hc x (gj _ hx)
   by_cases g:(if b>c.1 then b else c.1)<(if e<cend c then e else cend c)
   .have st:jy b e S c=((S.1++jr ((if b>c.1 then b else c.1)-S.2))++zN c (if b>c.1 then b else c.1) (if e<cend c then e else cend c),if e<cend c then e else cend c):=if_pos g
    rw[st];generalize hf:(if b>c.1 then b else c.1)=f at *
    generalize hk:(if e<cend c then e else cend c)=k at *
    have fb:b<=f:=by rw[<- hf];split<;>lia
    have ke:k<=e:=by rw[<- hk];split<;>lia
    have l1:=rl (f-S.2) ""
    have l2:=Uo (k-f) ""
    obtain⟨⟨a,a2,a3⟩,d⟩:=ih ((S.1++jr (f-S.2))++zN c f k,k) hv (λx hx=>by
     rcases gD.mp hx with z|z
     .rcases gD.mp z with z|z
      .exact h x z
      exact rs _ x z
     exact nt c (hc c "s") _ _ (VE _) x z) (show b<=k by lia)
    refine#[#[a,tV a2 ?_,a3],tV d ?_]
    .show((S.1++jr (f-S.2))++zN c f k)[1]+_<=_;rw[gG,gG,zN,JB];lia
    show hcR ((S.1++jr (f-S.2))++zN c f k)+_<=_;rw[VL,VL,Ul,zN,Um];have:=Nat.mul_le_mul_right c.2.2.length (hp (k-f) "" "")
    lia
   rw[show jy b e S c=S from if_neg g]
   obtain⟨⟨a,a2,a3⟩,d⟩:=ih S hv h h2;exact#[#[a,"",a3],""]
 intro v hv;obtain⟨⟨a,a2,a3⟩,d⟩:=go v ([],b) hv (λx hx=>by simp at hx) (pt b)
 unfold zg xu;refine#[#[λx hx=>?_,?_],?_]
 .rcases gD.mp hx with z|z
  .exact a x z
  exact rs _ x z
 .have:=rl (e-(v.foldl (jy b e) ([],b)).2) ""
  rw[gG];simp at a2;lia
 rw[VL,Ul];have z:hcR ([],b).1=0:=rfl;rw[z]at d;lia
def xv(a b):jn (a++b)=jn a+jn b:=by unfold jn;rw[hX,bx]
theorem Uq:∀ vs c,jn (jD vs c).flatten=jn vs.flatten+c.2.2.length
 | [],c=>by simp[jD,jn]
 | v::vs,c=>by
  unfold jD;split
  .rw[tQ,tQ,xv,xv,xv];simp[jn];lia
  rw[tQ,tQ,xv,xv,Uq vs c];lia
theorem Ur:∀ cs vs ws,run vs cs=!ws->jn ws.flatten=jn vs.flatten+jn cs
 | [],vs,ws,h=>by cases h;simp[jn]
 | c::cs,vs,ws,h=>by
  unfold run at h;by_cases g:qG vs c.1=8
  .simp_all
  rw[if_neg g]at h;rw[Ur cs _ ws h,Uq];show _=_+(c.2.2.length+jn cs);lia
theorem Us(b e L)(p)(hp:∀ n,0<=n->n<=L->(zf n)[1]<=p)(z:e-b<=L)(B:L<=512):∀(vs:Vs),(∀ v∈vs,∀ c∈v,PsOk c.2.2)->((vs.map λv=>hcR (zg v b e)).sum)<=p*jn vs.flatten
 | [],_=>by simp
 | v::vs,h=>by
  have a:=(Up b e L p hp z B v (h v "s")).2
  have d:=Us b e L p hp z B vs λw hw=>h w (gj _ hw)
  rw[gN,pD,tQ,xv];lia
def PRow(r:List Ev):Prop:=(∀ e∈r,PeOk e)/\r[1]<=500/\1<=r[1]
def rwD(r:List Ev):D:=.lst (r.map evD)
def brD(z:List (List Ev)):D:=.lst (z.map rwD)
def qdL{t:TF}{n:Nat}(h:t ρ=.ok false):zy t b (n+1) ρ=.nx ρ:=by
 unfold zy;rw[h];rfl
def qdM{t:TF}{b:SF}{n:Nat}(h:t ρ=.ok true)(h2:b ρ=.nx ρ2):zy t b (n+1) ρ=zy t b n ρ2:=by
 show sOf (t ρ) (λc=>if c=true then(match b ρ with|.nx ρ2=>zy t b n ρ2|.ct ρ2=>zy t b n ρ2|.bk ρ2=>.nx ρ2|o=>o)else .nx ρ)=_
 rw[h,h2];rfl
def dk(ms:List (Int×Int×Int)):List (Sum Int Str×D):=ms.map λp=>(Sum.inl p.1,D.int (jm p))
theorem Ut:∀{ms},look (Sum.inl b) (dk ms)=none->∀ p∈ms,p.1≠b
 | [],_,p,hp=>by simp at hp
 | q::r,h,p,hp=>by
  by_cases c:q.1=b
  .simp[dk,look,c]at h
  have h2:look (Sum.inl b) (dk r)=none:=by simpa[dk,look,c]using h
  rcases gE.mp hp with rfl|hp
  .exact c
  exact Ut h2 p hp
theorem Uu{b:Int}:∀{ms},ms.Pairwise (λp q=>p.1<q.1)->look (Sum.inl b) (dk ms)=!d->∃ v,d=.int v/\(zX ms b).getLast?=!v
 | [],_,h=>by simp[dk,look]at h
 | q::r,hp,h=>by
  rw[fy]at hp;by_cases c:q.1=b
  .have hd:D.int (jm q)=d:=by simpa[dk,look,c]using h
   refine#[jm q,hd.symm,?_];have e:r.filter (λp=>decide (p.1<=b))=[]:=fG.mpr λp z=>by
    have:=hp.1 p z;simp;lia
   unfold zX;rw[pC (by simp;lia),e]
   rfl
  have h2:look (Sum.inl b) (dk r)=!d:=by simpa[dk,look,c]using h
  obtain⟨v,e1,e2⟩:=Uu hp.2 h2;refine#[v,e1,?_];unfold zX at e2 ⊢;by_cases c2:q.1<=b
  .rw[pC c2[""],gN,List.getLast?_cons,e2]
   rfl
  rw[List.filter_cons_of_neg c2[""]]
  exact e2
def xw(ms:List (Int×Int×Int)):Nat->Int
 | 0=>0
 | i+1=>jw ms i
def qdN(f:Fine ms)(i:Nat):QC (look (Sum.inl (i:Int)) (dk ms)) (xw ms i)[7]=.ok (jw ms i)[7]:=by
 cases e:look (Sum.inl (i:Int)) (dk ms)with
 | some d =>
  obtain⟨v,rfl,e2⟩:=Uu f.1 e;simp[jw,e2,QC]
 | none =>
  have n:=Ut e;have:xw ms i=jw ms i:=by
   cases i with
   | zero =>
    have:zX ms 0=[]:=by
     unfold zX;rw[fG.mpr,cy];intro p hp;have h1:=n p hp;have h2:=f.2.1 p hp;lia
    simp[xw,jw,this]
   | succ i =>
    have:zX ms (i+1)=zX ms i:=by
     unfold zX;congr 1;apply List.filter_congr;intro p hp;have h1:=n p hp;simp at h1 ⊢;lia
    show jw ms i=jw ms (i+1);unfold jw;rw[this]
  simp[this,QC]
def qdO(ms)(b):((dk ms).any λkv=>decide (kv.1=Sum.inl b))=ms.any λp=>decide (p.1=b):=by
 unfold dk;rw[List.any_map];congr 1;funext p;simp
def qdP(f:Fine ms)(z:Nat)(O:z<=200) :
  uE [.br (.lst (ms.map qw)),.fz z[6]]=.ok (.lst ((List.range z).map λb:Nat=>D.int (jw ms b)))[9]:=by
 have hz:sz=16777216:=rfl;have hl:=f.2.2.2;unfold uE KZ;left;rw[Ys (ds:=ms.map qw) rfl];left;obtain⟨ρ1,e1,j3,h1⟩:=vO (ms.map qw) (λi ρ=>∃ j3,ρ=[!(.br (.lst (ms.map qw))),!z[7],!(.dK (dk (ms.take i)))[9],j3,none,none,none])
  (g:=gV 3) (b:=vX 2 (eOp qc (q9 3) 0[5]) (qi wc [(q9 3)]))
  (ρ:=[!(.br (.lst (ms.map qw))),!z[7],!(.dK [])[9],none,none,none,none]) #[none,by simp[dk]] (λi x ρ hx #[j3,hρ]=>by
   subst hρ;rw[gC]at hx;cases ep:ms[i]? with
   | none=>rw[ep]at hx;cases hx
   | some p =>
    rw[ep]at hx;cases hx;have hp:=f.2.1 p (t8 ep);have hi:i<ms[1]:=(gp.mp ep).1;refine#[_,_,rfl,.inl ?_,!(qw p)[8],rfl];have tl:=Vq p hp.2;rw[Yt (kvs:=dk (ms.take i)) (d:=.int (jm p)) (w:=.fz (.int p.1)) (key:=.inl p.1) rfl (by simp![tl]) (by simp![qw]) rfl (by simp[dk,hz];lia)]
    have nk:¬ ((dk (ms.take i)).any λkv=>decide (kv.1=Sum.inl p.1))=true:=by
     rw[qdO,List.any_eq_true];rintro⟨q,hq,e⟩;have e3:ms=ms.take i++p::ms.drop (i+1):=by
      rw[gw hi]at ep;cases ep;simp
     have pw:=f.1;rw[e3,gW]at pw;have:=pw.2.2 q hq p tj;lia
    have e4:qS (Sum.inl p.1) (D.int (jm p)) (dk (ms.take i))=dk (ms.take (i+1)):=by
     unfold qS;rw[if_neg nk,List.take_succ,ep];simp[dk]
    rw[e4];rfl)
 rw[e1];subst h1;rw[gg,d6];left;rw[yz (n:=z) (by left) ""]
 left;obtain⟨B,e2,j6,h2⟩:=Zr z (λi ρ=>∃ j6,ρ=[!(.br (.lst (ms.map qw))),!z[7],!(.dK (dk ms))[9],j3,!(.lst ((List.range i).map λb:Nat=>D.int (jw ms b)))[9],!(xw ms i)[7],j6])
  (g:=gV 6) (b:=qe (qj 5 (xQ (q9 2) (q9 6) (q9 5))) (qY 4 (q9 5)))
  (ρ:=[!(.br (.lst (ms.map qw))),!z[7],!(.dK (dk ms))[9],j3,!(.lst [])[9],!0[7],none]) #[none,rfl] (λi ρ hi #[j6,hρ]=>by
   subst hρ;refine#[_,_,rfl,.inl ?_,!i[7],rfl];left;rw[qaQ (kvs:=dk ms) (wd:=.br (.dK (dk ms))) (wk:=.fz i[6]) (wx:=.fz (xw ms i)[6]) (q:=.inl i) rfl rfl rfl rfl rfl,qdN f i];left;rw[zz (xs:=(List.range i).map λb:Nat=>D.int (jw ms b)) (d:=.int (jw ms i)) rfl (by simp[hz];lia) rfl]
   simp[dG,xw])
 rw[e2];subst h2;left
def VM(ms:List (Int×Int×Int))(t:Int)(B:Nat)(P:Int):Prop:=0<=P/\P<jw ms B/\qD ms B+P=t
abbrev Uv:SF:=qp (js [(eOp qz (q9 2) (eOp vK (eOp qX (q9 1) (q9 3)) (q9 4))),(eOp vv (eOp qX (q9 1) (q9 3)) (q9 4))])
def Uw{p:Int×Int×Int}(f:Fine ms)(l:Lens ms)(e:ms=pre++p::post){t:Int}(h1:qD ms p.1.toNat<=t)(h2:∀ q∈post,t-qD ms p.1.toNat<(q.1-p.1)*jm p)(w)(j5 j6) :
  ∃ B P,fin ((Out.nx [w,!t[7],!(.int p.1)[8],!(qD ms p.1.toNat)[7],!(jm p)[7],j5,j6]).th Uv)=.ok (.tup [.int (B:Nat),.int P])[8]/\VM ms t B P:=by
 have hp:p∈ms:=by rw[e];simp
 have f1:=f.2.1 p hp;have l1:=l p hp;have hx:0<=t-qD ms p.1.toNat:=""
 have d0:0<=(t-qD ms p.1.toNat)/jm p:=bz hx ""
 have z:∀ q∈post,p.1+(t-qD ms p.1.toNat)/jm p<q.1:=λq hq=>by
  have:=Int.ediv_lt_of_lt_mul "" (h2 q hq)
  lia
 obtain⟨k,hk⟩:=pB d0;have eB:(p.1.toNat+k:Nat)=p.1+(t-qD ms p.1.toNat)/jm p:=by rw[hk];lia
 refine#[p.1.toNat+k,(t-qD ms p.1.toNat)%jm p,?_,dF _ "",?_,?_]
 .simp![QB (j:=jm p) "" "",yx (j:=jm p) "",eB]
 .rw[Xv e "" λq hq=>by have:=z q hq;lia]
  exact bG _ ""
 rw[Xw e f1.1 k λq hq=>by have:=z q hq;lia]
 have:=pY (t-qD ms p.1.toNat) (jm p);rw[hk,Int.mul_comm]at this;lia
def qdQ(f:Fine ms)(l:Lens ms)(t)(Z:0<=t) :
  ∃ B P,Jh [.br (.lst (ms.map qw)),.fz t[6]]=.ok (.tup [.int (B:Nat),.int P])[8]/\VM ms t B P:=by
 unfold Jh X0;left;refine Qq (Q:=λo=>∃ B P,fin (o.th Uv)=.ok (.tup [.int (B:Nat),.int P])[8]/\VM ms t B P) (ms.map qw)
  (λi ρ=>∃ b g n j5 j6,ρ=[!(.br (.lst (ms.map qw))),!t[7],!b[7],!g[7],!n[7],j5,j6] /\
   ((i=0/\b=0/\g=0/\n=0)\/∃ pre p post,ms=pre++p::post/\pre[1]+1=i/\b=p.1/\g=qD ms p.1.toNat/\n=jm p/\g<=t))
  #[0,0,0,none,none,rfl,.inl #[rfl,rfl,rfl,rfl]] (λi x ρ hx #[b,g,n,j5,j6,hρ,hI]=>?_) (λρ #[b,g,n,j5,j6,hρ,hI]=>?_)
 .subst hρ;rw[gC]at hx;cases eq:ms[i]? with
  | none=>rw[eq]at hx;cases hx
  | some q =>
   rw[eq]at hx;cases hx;have hq:=t8 eq;have f1:=f.2.1 q hq;have tl:=Vq q f1.2;have hi:i<ms[1]:=(gp.mp eq).1;refine#[_,rfl,?_];rcases hI with⟨rfl,rfl,rfl,rfl⟩|⟨pre,p,post,e,hl,rfl,rfl,rfl,hg⟩
   .have q0:q.1=0:=by
     obtain⟨p,hp,Y⟩:=f.2.2.1;cases ms with
     | nil=>simp at hi
     | cons m r =>
      simp at eq;subst eq;rcases gE.mp hp with rfl|hp
      .exact Y
      have:=(fy.mp f.1).1 p hp;lia
    have hd:decide (t<0)=false:=by simp;lia
    simp![qw,Zx (i:=q.1-0) (j:=0) "d" "d",Int.mul_zero,Int.add_zero,hd]
    have tl:wc [.fz (.tup [.int q.1,.int q.2.1,.int q.2.2])]=.ok (jm q)[7]:=tl;simp![tl];refine#[q.1,0,jm q,!(qw q)[8],!0[7],rfl,.inr ?_];cases ms with
    | nil=>simp at hi
    | cons m r =>
     simp at eq;subst eq;exact#[[],m,r,rfl,rfl,rfl,by rw[q0];rfl,rfl,Z]
   have hp:p∈ms:=by rw[e];simp
   have fp:=f.2.1 p hp;have lp:=l p hp;obtain⟨z,rfl⟩:∃ z,post=q::z:=by
    rw[e,<- hl,hU ""]at eq
    cases post with
    | nil=>simp[show pre[1]+1-pre[1]=1 by lia]at eq
    | cons m r =>
     simp[show pre[1]+1-pre[1]=1 by lia]at eq
     exact#[r,by rw[eq]]
   have pw:=f.1;rw[e,gW]at pw;have U:=fy.mp pw.2.1;have pq:p.1<q.1:=U.1 q tj;have after:∀ r∈z,q.1<r.1:=(fy.mp U.2).1;have O:=Xw e fp.1 (q.1-p.1).toNat λr hr=>by
    rcases gE.mp hr with rfl|hr
    .lia
    have:=after r hr;lia
   rw[show p.1.toNat+(q.1-p.1).toNat=q.1.toNat by lia,show((q.1-p.1).toNat)=q.1-p.1 by lia]at O
   have tl:wc [.fz (.tup [.int q.1,.int q.2.1,.int q.2.2])]=.ok (jm q)[7]:=tl;simp![qw,Zx (i:=q.1-p.1) (j:=jm p) "" ""]
   rw[<- O];by_cases c:t<qD ms q.1.toNat
   .have hd:decide (t<qD ms q.1.toNat)=true:=by simpa using c
    simp![hd];refine Uw f l e hg (λr hr=>?_) _ _ _
    rw[O]at c;rcases gE.mp hr with rfl|hr
    .lia
    have a1:=after r hr;have:=tP (show q.1-p.1<=r.1-p.1 by lia) (show 0<=jm p by lia)
    lia
   have hd:decide (t<qD ms q.1.toNat)=false:=by simpa using c
   simp![hd,tl];refine#[q.1,qD ms q.1.toNat,jm q,!(qw q)[8],!(qD ms q.1.toNat)[7],rfl,.inr #[pre++[p],q,z,by rw[e];simp,by simp;lia,rfl,rfl,rfl,""]]
 subst hρ;rcases hI with⟨h0,_⟩|⟨pre,p,post,e,hl,rfl,rfl,rfl,hg⟩
 .obtain⟨p,hp,_⟩:=f.2.2.1;rw[gg]at h0;rw[f9.mp h0]at hp;simp at hp
 have:post=[]:=by
  rw[gg,e]at hl;simp at hl;exact hl
 subst this;exact Uw f l e hg (λq hq=>by simp at hq) _ _ _
def qdR{ρ:Rho}{ds:List D}(h:ρ[i]?=!(!(.lst ds)[8])):zd i ρ=.ok (numd 0 ds):=by unfold zd;rw[h]
def VN{f:D->En}(B:f=.fz\/f=.br)(d):kG (!(!(f d)))=.ok (f d):=by rcases B with z|z<;>(subst z;rfl)
def qdS{f:D->En}(B:f=.fz\/f=.br)(d):(f d).dd=d:=by rcases B with z|z<;>(subst z;rfl)
def Ux{f:D->En}(B:f=.fz\/f=.br)(d):(f d).argo=.ok (f d):=by rcases B with z|z<;>(subst z;rfl)
def qdT{i:Nat}{f:D->En}(B:f=.fz\/f=.br)(h:ρ[i]?=!(!(f (.lst ds)))):zd i ρ=.ok (numd 0 ds):=by rcases B with z|z<;>(subst z;unfold zd;rw[h])
def JE(p:Nt):Bool:=zx 0 1000 (.int p.1)&&(zx 1 400 (.int p.2.1)&&zx 0 127 (.int p.2.2))
def qdU(p):y9 [.fz (ntD p),.fz uq]=.ok (.bl (JE p))[8]:=Xy (.int p.1) (.int p.2.1) (.int p.2.2) 0 1000 1 400 0 127 rfl rfl rfl
def Uy(n):zB [.fz (ntD n)]=.ok (n.1+n.2.1)[7]:=by
 rfl
def qdV(n o):uD [.fz (ntD n),.fz (ntD o)]=.ok (.bl (hits n o))[8]:=by
 have e2:zB [.fz (.tup [.int o.1,.int o.2.1,.int o.2.2])]=.ok (o.1+o.2.1)[7]:=Uy o;unfold uD KQ hits;simp![ntD];cases (n.2.2==o.2.2)
 .rfl
 simp![e2];cases decide (n.1<o.1+o.2.1)
 .rfl
 rfl
def qdW(n o):hits n o=hits o n:=by
 unfold hits;rw[Bool.and_comm (decide (n.1<o.1+o.2.1)),show(n.2.2==o.2.2)=(o.2.2==n.2.2)from Bool.beq_comm]
def qdX{f:D->En}(B:f=.fz\/f=.br)(ds)(n:Nat)(pre:List Nt)(p)(hp:ds.take n=pre.map ntD)(hd:ds[n]?=!(ntD p)):xi [f (.lst ds),.fz n[6]]=.ok (.bl (pre.any λo=>hits o p))[8]:=by
 have ix:okD (ati ds n)=.ok (ntD p)[8]:=by rw[jK,hd];rfl
 unfold xi X9;left;rw[vP (by rcases B with z|z<;>(subst z;left)) rfl,((qd7 ds n).trans hp)]
 have go:∀(os:List Nt) j2,fin ((qC (gV 2) (sIf (tE (qi uD [(q9 2),(eOp qc (q9 0) (q9 1))])) (qp (eC (.bl true))) qr) (os.map ntD)
   [!(f (.lst ds)),!n[7],j2]).th (qp (eC (.bl false))))=.ok (.bl (os.any λo=>hits o p))[8]:=by
  intro os
  induction os with
  | nil=>intro j2;rfl
  | cons o os ih =>
   intro j2;rw[gN,zY rfl];simp![VN B,qdS B,ix,(qdV o p),bi];cases hits o p
   .simp![Bool.false_or];exact ih _
   rfl
 exact go pre none
def VO(ds:List D)(n:Nat):Prop:=∃(p:Nt) (pre:List Nt),ds[n]?=!(ntD p)/\JE p=true/\ds.take n=pre.map ntD/\(pre.any λo=>hits o p)=false
def qdY{f:D->En}(B:f=.fz\/f=.br)(ds)(h2:ds[1]<=60):yK [f (.lst ds),.fz 0[6],.fz J7]=.ok (.bl true)[8]:=by
 unfold yK Vh;rcases B with z|z<;>(
  subst z;simp![J7];rw[show decide (0<=(ds[1]:Int))=true by simp]
  left;rw[show decide ((ds[1]:Int)<=60)=true by simp;lia])
def VP:SF:=(sIf (tOr (jA (tE (qi y9 [(q9 2),(eC uq)]))) (tE (qi xi [(q9 0),(q9 1)]))) zr qr)
def qdZ{f:D->En}(B:f=.fz\/f=.br){n:Nat}(g:VO ds n)(hd:ds[n]?=!d):VP [!(f (.lst ds)),!n[7],!d[8]]=.nx [!(f (.lst ds)),!n[7],!d[8]]:=by
 obtain⟨p,pre,e1,tb,ep,ea⟩:=g;rw[e1]at hd;cases hd;have a:=qdX B ds n pre p ep e1;unfold VP;rcases B with z|z<;>(subst z;simp![(qdU p),tb,a,ea])
def qe0{f:D->En}(B:f=.fz\/f=.br){ds es:List D}(h2:ds[1]<=60)(g:∀ n,n<ds[1]->VO ds n)(O:vZ [.lst ds]=.ok (.lst es)[9]):uP [f (.lst ds)]=.ok (.lst es)[9]:=by
 unfold uP Xl;simp![VN B,Ux B,(qdY B ds h2)];rw[qdT B rfl];left;obtain⟨ρ',e,j1,j2,hI⟩:=vO (numd 0 ds) (λi ρ=>∃ j1 j2,ρ=[!(f (.lst ds)),j1,j2]) (g:=gT [1,2]) #[none,none,rfl] (λi x ρ hx #[j1,j2,hρ]=>by
  subst hρ;obtain⟨d,e1,rfl⟩:=Vr hx;exact#[_,_,rfl,.inl (qdZ B (g i (gp.mp e1).1) e1),_,_,rfl])
 rw[show(sIf (tOr (jA (tE (qi y9 [(q9 2),(eC uq)]))) (tE (qi xi [(q9 0),(q9 1)]))) zr qr)=VP from rfl,e]
 subst hI;rcases B with z|z<;>(subst z;simp![O])
structure GN(ns:List Nt):Prop where
 l:ns[1]<=24
 b:∀ n∈ns,0<=n.1/\n.1<=1000/\1<=n.2.1/\n.2.1<=400/\0<=n.2.2/\n.2.2<=127
 ap:ns.Pairwise λo n=>hits o n=false
def qe1(h:NotesOk ns)(z:ns[1]<=24):GN ns:=#[z,h.b,h.ap.imp λ{o n} q=>by rw[qdW];exact q]
def qe2(h:0<=p.1/\p.1<=1000/\1<=p.2.1/\p.2.1<=400/\0<=p.2.2/\p.2.2<=127):JE p=true:=by
 obtain⟨h1,h2,h3,h4,h5,h6⟩:=h;simp[JE,zx,h1,h2,h3,h4,h5,h6]
def qe3(g:GN ns){ds:List D}{n m:Nat}(B:ds.take n=(ns.take n).map ntD)(O:m<n)(U:n<=ns[1]):VO ds m:=by
 have z:m<ns[1]:=""
 have em:ds[m]?=!(ntD ns[m]):=by
  have:(ds.take n)[m]?=ds[m]?:=by rw[pT,if_pos O]
  simp_all
 refine#[ns[m],ns.take m,em,qe2 (g.b _ (tR _)),?_,?_]
 .have:=congrArg (List.take m) B;rw[dS,<- List.map_take,dS,cw ""]at this
  exact this
 rw[List.any_eq_false];intro o ho;obtain⟨k,hk,rfl⟩:=List.getElem_of_mem ho;rw[tB]at hk;have:=tU.mp g.ap k m "" z ""
 simp_all
def qe4(g:GN ns):(ns.map ntR).Nodup:=by
 show List.Pairwise _ _;rw[tY];refine dm (λ{o n} ho hn q z=>?_) g.ap
 have e:=XB z;subst e;have hb:=g.b o ho;unfold hits at q;simp at q;lia
def qe5(g:GN ns):vZ [.lst (ns.map ntD)]=.ok (.lst ((qE ns).map ntD))[9]:=by
 have e1:ns.map ntD=(ns.map ntR).map qM:=by rw[gH];rfl
 have l:=g.l;rw[e1,Vx (qe4 g) (by rw[gg];lia) (λz=>by obtain⟨n,_,e⟩:=gJ.mp z;cases e),<- uX,gH]
 rfl
def qe6{f:D->En}(B:f=.fz\/f=.br){z:List Nt}(g:GN z):uP [f (.lst (z.map ntD))]=.ok (.lst ((qE z).map ntD))[9] :=
 qe0 B (by have:=g.l;rw[gg];lia) (λn hn=>qe3 g (by rw[<- List.map_take]) hn[""] (gy _)) (qe5 g)
def TB(p:Int×Int×Int):Prop:=0<=p.1/\p.1<=1000/\1<=p.2.1/\p.2.1<=24/\p.2.2∈([1,2,4,8,16,32,64]:List Int)/\8<=jm p/\jm p<=512
def qe7(p)(h:TB p):xk [.fz (qw p)]=.ok (.bl true)[8]:=by
 obtain⟨a1,a2,b1,b2,u,l1,l2⟩:=h;have u1:1<=p.2.2/\p.2.2<=64/\QF (.int p.2.2) Ve=.ok (.bl false)[8]:=by
  simp[gE,px,bU]at u;rcases u with u|u|u|u|u|u|u<;>(rw[u];exact#[by decide,by decide,by kernel_rfl])
 have e:=Xy (.int p.1) (.int p.2.1) (.int p.2.2) 0 1000 1 24 1 64 rfl rfl rfl;simp[zx,a1,a2,b1,b2,u1.1,u1.2.1,Bool.and_self]at e;have tl:wc [.fz (.tup [.int p.1,.int p.2.1,.int p.2.2])]=.ok (jm p)[7]:=Vq p #["",b2]
 unfold xk Xn qw;simp![Vd,e,u1.2.2,tl,Vf,Vg,l1,l2,decide_true]
def qe8(ds)(p)(h:ds[0]?=!(qw p)):y7 [.fz (.lst ds),.fz 0[6]]=.ok (.bl (p.1==0))[8]:=by
 have e:okD (ati ds 0)=.ok (qw p)[8]:=by rw[show 0=((0:Nat):Int)from rfl,jK,h];rfl
 unfold y7 Vi;left;rw[show((0:Int)==0)=true from rfl]
 simp![e,qw]
def qe9(ds)(n)(p q)(h:ds[n+1]?=!(qw p))(z:ds[n]?=!(qw q)):y7 [.fz (.lst ds),.fz (n+1:Nat)[6]]=.ok (.bl (decide (q.1<p.1)))[8]:=by
 have e:okD (ati ds (n+1:Nat))=.ok (qw p)[8]:=by rw[jK,h];rfl
 have e2:okD (ati ds ((n+1:Nat)-1))=.ok (qw q)[8]:=by rw[show(n+1:Nat)-1=(n:Int)by lia,jK,z];rfl
 unfold y7 Vi;left;rw[show(((n+1:Nat):Int)==0)=false by simp;lia]
 simp![e,e2,qw]
def VQ(ds:List D)(n:Nat):Prop:=∃ p,ds[n]?=!(qw p)/\TB p/\(n=0->p.1=0)/\∀ m,n=m+1->∃ q,ds[m]?=!(qw q)/\q.1<p.1
def qea(d:D)(ds)(h1:1<=ds[1])(h2:ds[1]<=20):yK [.fz (.lst ds),.fz 1[6],.fz J8]=.ok (.bl true)[8]:=by
 unfold yK Vh;simp![J8];rw[show decide (1<=(ds[1]:Int))=true by simp;lia]
 left;rw[show decide ((ds[1]:Int)<=20)=true by simp;lia]
def VR:SF:=(sIf (tOr (jA (tE (qi xk [(q9 2)]))) (jA (tE (qi y7 [(q9 0),(q9 1)])))) zr qr)
def qeb{j1 j2:Option En}(g:VQ ds n)(hd:ds[n]?=!d):VR [!(.lst ds)[8],!n[7],!d[8]]=.nx [!(.lst ds)[8],!n[7],!d[8]]:=by
 obtain⟨p,e1,tb,z0,zs⟩:=g;rw[e1]at hd;cases hd;unfold VR;simp![(qe7 p tb)];cases n with
 | zero =>
  simp![(qe8 ds p e1),z0 rfl,fN]
 | succ m =>
  obtain⟨q,e2,lt⟩:=zs m rfl;simp![(qe9 ds m p q e1 e2),lt,decide_true]
def qec(h1:1<=ds[1])(h2:ds[1]<=20)(g:∀ n,n<ds[1]->VQ ds n):Js [.fz (.lst ds)]=.ok (.lst ds)[9]:=by
 unfold Js Xp;simp![qea .non ds h1 h2];rw[qdR rfl];left;obtain⟨ρ',e,j1,j2,hI⟩:=vO (numd 0 ds) (λi ρ=>∃ j1 j2,ρ=[!(.lst ds)[8],j1,j2]) (g:=gT [1,2]) #[none,none,rfl] (λi x ρ hx #[j1,j2,hρ]=>by
  subst hρ;obtain⟨d,e1,rfl⟩:=Vr hx;exact#[_,_,rfl,.inl (qeb (j1:=none) (j2:=none) (g i (gp.mp e1).1) e1),_,_,rfl])
 rw[show(sIf (tOr (jA (tE (qi xk [(q9 2)]))) (jA (tE (qi y7 [(q9 0),(q9 1)])))) zr qr)=VR from rfl,e]
 subst hI;left
structure GM(ms:List (Int×Int×Int)):Prop where
 l1:1<=ms[1]
 l2:ms[1]<=20
 told:∀ p∈ms,TB p
 pw:ms.Pairwise λp q=>p.1<q.1
 z:∀ p,ms[0]?=!p->p.1=0
def Uz{ms:List (Int×Int×Int)}{n:Nat}(h):(ms.map qw)[n]?=!(qw ms[n]):=by rw[gC,gw h];rfl
def qed(g:GM ms){ds:List D}{n:Nat}(O:∀ m,m<=n->ds[m]?=(ms.map qw)[m]?)(B:n<ms[1]):VQ ds n:=by
 refine#[ms[n],(O n (gy _)).trans (Uz B),g.told _ (tR _),λz=>?_,λm e=>?_]
 .subst z;exact g.z _ (gw B)
 subst e;exact#[ms[m],(O m "").trans (Uz ""),(tU.mp g.pw m (m+1) "" B "")]
theorem UA(ns):∀ k,mbar ns k<=3*k
 | 0=>by simp[mbar]
 | k+1=>by
  have:=UA ns k;have:=vm (jC ns k) 9967 3 "d"
  show mbar ns k+1+qR (jC ns k) 9967 3<=_;lia
def qee(wd):∀ u∈vn wd,u∈([1,2,4,8,16,32,64])/\8<=yP wd/\ya wd<=512:=by cases wd<;>decide
def qef(ns)(wd):GM (wj ns wd):=by
 obtain⟨m1,m2,_⟩:=Ju ns;refine#[by simp[wj];lia,by simp[wj];lia,λp hp=>?_,(Xt ns wd).1,λp h=>?_]
 .obtain⟨k,hk,rfl⟩:=gJ.mp hp;have hk:=dP.mp hk;have t:=Vn (jC ns k) wd;have um:=uS (jC ns k) wd;obtain⟨u1,u2,u3,u4,u5,u6,u7⟩:=uT wd _ um;obtain⟨k1,k2,k3⟩:=qee wd _ um;have b1:=UA ns k;have b0:0<=mbar ns k:=by
   cases k with
   | zero=>exact pt _
   | succ k=>exact cR (Vp ns (Nat.succ_pos k))
  have p2:=Int.le_trans (tP t.2 "") (Int.le_trans u7 k3)
  exact#[b0,by show mbar ns k<=1000;lia,by show 1<=vq (jC ns k) wd;lia,by show vq (jC ns k) wd<=24;lia,k1,(Int.le_trans (Int.le_trans k2 u6) (tP t.1 "")),p2]
 unfold wj at h;rw[gC,de ""]at h
 cases h;rfl
def qeg{i j:Int}(z:a ρ=.ok i[7])(B:b ρ=.ok j[7])(h1:-1000000<i)(h2:i<1000000)(O:-1000000<j)(U:j<1000000):iR2 a b ρ=.ok (zb i (j-i).toNat):=by
 unfold iR2;rw[z,R.bind_ok,B,R.bind_ok];dsimp[En.d];rw[if_pos];rw[hE];exact#[fits_iff.mpr (by rw[b62e];lia),fits_iff.mpr (by rw[b62e];lia)]
def yV:Nat->List D
 | 0=>[]
 | n+1=>.int (n:Int)::yV n
theorem UB:∀ n:Nat,kX (n-1) (-1) n=yV n
 | 0=>rfl
 | n+1=>by
  unfold kX at ⊢;rw[List.range_succ_eq_map,gN,gH];show D.int _::_=D.int n::yV n;rw[<- (UB n)];congr 1
  .simp
  apply gZ;intro k _;show D.int _=D.int _;congr 1
  push_cast
  lia
def qeh{a b c:EF}{n:Nat}(z:a ρ=.ok (n-1)[7])(B:b ρ=.ok (-1)[7])(O:c ρ=.ok (-1)[7])(U:n<100000):iR3d a b c ρ=.ok (yV n):=by
 unfold iR3d;rw[z,R.bind_ok,B,R.bind_ok,O,R.bind_ok];unfold ZQ;dsimp only;rw[if_pos #["","",by decide,by decide,rfl]]
 have:(zU (n-1) (-1) (-1)).toNat=n:=by unfold zU;split<;>lia
 rw[this,UB]
theorem JF:∀ xs,jR (xs.map D.int)=!xs
 | []=>rfl
 | x::r=>by
  show(match jR (r.map D.int)with|some ns=>↑(x::ns)|none=>none)=_
  rw[JF r]
def jz(v:Int):Int->Int->List Int->List (List Int)
 | _,_,[]=>[]
 | p,n,x::r=>[p,v,n]::jz v (p+x) (n+1) r
def qO:Int->List (List Int)->List (List Int)
 | _,[]=>[]
 | v,r::rs=>jz v 0 0 r++qO (v+1) rs
theorem JG(v):∀ r p n,(jz v p n r)[1]=r[1]
 | [],_,_=>rfl
 | x::r,p,n=>by simp[jz,JG v r]
theorem xx(v):∀ r p n x,x∈jz v p n r->∃ q m,x=[q,v,m]/\n<=m
 | [],_,_,x,h=>by simp[jz]at h
 | y::r,p,n,x,h=>by
  rcases gE.mp h with z|h
  .exact#[p,n,z,pt _]
  obtain⟨q,m,e,l⟩:=xx v r (p+y) (n+1) x h;exact#[q,m,e,""]
theorem UC(v):∀ r p n,(jz v p n r).Nodup
 | [],_,_=>List.Pairwise.nil
 | y::r,p,n=>by
  refine tD.mpr #[λh=>?_,UC v r (p+y) (n+1)]
  obtain⟨q,m,e,l⟩:=xx v r (p+y) (n+1) _ h;lia
theorem xy:∀ rs v x,x∈qO v rs->∃ q u m,x=[q,u,m]/\v<=u
 | [],_,x,h=>by simp[qO]at h
 | r::rs,v,x,h=>by
  rcases gD.mp h with h|h
  .obtain⟨q,m,e,_⟩:=xx v r 0 0 x h;exact#[q,v,m,e,pt _]
  obtain⟨q,u,m,e,l⟩:=xy rs (v+1) x h;exact#[q,u,m,e,""]
theorem UD:∀ rs v,(qO v rs).Nodup
 | [],_=>List.Pairwise.nil
 | r::rs,v=>by
  refine fj.mpr #[UC v r 0 0,UD rs (v+1),λa ha b hb e=>?_]
  obtain⟨q,m,e1,_⟩:=xx v r 0 0 a ha;obtain⟨q2,u,m2,e2,l⟩:=xy rs (v+1) b hb;lia
theorem VS(k):∀ rs v,(∀ r∈rs,r[1]<=k)->(qO v rs)[1]<=k*rs[1]
 | [],_,_=>by simp[qO]
 | r::rs,v,h=>by
  have a:=h r "s"
  have b:=VS k rs (v+1) λx hx=>h x (gj _ hx)
  rw[qO,gG,JG,gK];lia
abbrev EvS:=D×Int
def VT(e:EvS):Prop:=qc e.1 1[6]=.ok (.int e.2)[8]
def evSB(rs:List (List EvS)):D:=.lst (rs.map λr=>.lst (r.map Prod.fst))
def qei(W R3)(v):∀(r:List EvS) z p n j5 j6,(∀ e∈r,VT e)->z[1]+r[1]<=100000->∃ q i5 i6,
  qC (gT [5,6]) (qe (qY 1 (js [(q9 4),(q9 2),(q9 5)])) (jU 4 zI (eOp qc (q9 6) 1[5]))) (numd n (r.map Prod.fst)) [W,!(.lst (z.map qM))[9],!v[7],R3,!p[7],j5,j6]
  = .nx [W,!(.lst ((z++jz v p n (r.map Prod.snd)).map qM))[9],!v[7],R3,!q[7],i5,i6]:=by
 have hz:sz=16777216:=rfl;intro r
 induction r with
 | nil=>intro z p n j5 j6 _ _;exact#[p,j5,j6,by simp[jz,numd,Jw]]
 | cons e r ih =>
  intro z p n j5 j6 B hl;rw[gK]at hl;have ek:qc e.1 1[6]=.ok (.int e.2)[8]:=B e "s"
  obtain⟨q,i5,i6,h⟩:=ih (z++[[p,v,n]]) (p+e.2) (n+1) (!n[7]) (!(.fz e.1)) (λx hx=>B x (gj _ hx)) (by rw[gG];simp;lia)
  refine#[q,i5,i6,?_];show qC _ _ (.tup [.int n,e.1]::numd (n+1) (r.map Prod.fst)) _=_;rw[zY (ρ1:=[W,!(.lst (z.map qM))[9],!v[7],R3,!p[7],!n[7],!(.fz e.1)]) rfl];rw[jv,zz (xs:=z.map qM) (d:=qM [p,v,n]) rfl (by rw[gg];lia) (rfl)]
  have au:∀ A,(jU 4 zI (eOp qc (q9 6) 1[5])) [W,!A[9],!v[7],R3,!p[7],!n[7],!(.fz e.1)]=.nx [W,!A[9],!v[7],R3,!(p+e.2)[7],!n[7],!(.fz e.1)]:=λA=>by
   simp![ek]
  rw[jN];simp only[fT,fV];rw[au];have e2:(z++[[p,v,n]])++jz v (p+e.2) (n+1:Nat) (r.map Prod.snd)=z++jz v p n ((e::r).map Prod.snd):=by
   rw[t7,gN,jz];simp
  rw[e2]at h;rw[<- h,hX];rfl
def qej(W):∀(rs:List (List EvS)) z v j2 j3 j4 j5 j6,(∀ r∈rs,∀ e∈r,VT e)->(∀ r∈rs,r[1]<=600)->z[1]+600*rs[1]<=100000->∃ i2 i3 i4 i5 i6,
  qC (gT [2,3]) (qe (qj 4 0[5]) (qJ (zd 3) (gT [5,6]) (qe (qY 1 (js [(q9 4),(q9 2),(q9 5)])) (jU 4 zI (eOp qc (q9 6) 1[5]))))) (numd v (rs.map λr=>.lst (r.map Prod.fst))) [W,!(.lst (z.map qM))[9],j2,j3,j4,j5,j6]
  = .nx [W,!(.lst ((z++qO v (rs.map (·.map Prod.snd))).map qM))[9],i2,i3,i4,i5,i6]:=by
 intro rs
 induction rs with
 | nil=>intro z v j2 j3 j4 j5 j6 _ _ _;exact#[j2,j3,j4,j5,j6,by simp[qO,numd,Jw]]
 | cons r rs ih =>
  intro z v j2 j3 j4 j5 j6 B hr hl;rw[gK]at hl;have r1:=hr r "s"
  obtain⟨q,k5,k6,h1⟩:=qei W (!(.lst (r.map Prod.fst))[8]) v r z 0 0 j5 j6 (B r "s") ""
  obtain⟨i2,i3,i4,i5,i6,h2⟩:=ih (z++jz v 0 (0:Nat) (r.map Prod.snd)) (v+1) (!v[7]) (!(.lst (r.map Prod.fst))[8]) (!q[7]) k5 k6 (λx hx=>B x (gj _ hx)) (λx hx=>hr x (gj _ hx)) (by rw[gG,JG,gg];lia)
  refine#[i2,i3,i4,i5,i6,?_];show qC _ _ (.tup [.int v,.lst (r.map Prod.fst)]::numd (v+1) (rs.map λr=>.lst (r.map Prod.fst))) _=_
  rw[zY (ρ1:=[W,!(.lst (z.map qM))[9],!v[7],!(.lst (r.map Prod.fst))[8],j4,j5,j6]) rfl,jv];have s4:(qj 4 0[5]) [W,!(.lst (z.map qM))[9],!v[7],!(.lst (r.map Prod.fst))[8],j4,j5,j6]=.nx [W,!(.lst (z.map qM))[9],!v[7],!(.lst (r.map Prod.fst))[8],!0[7],j5,j6]:=by left
  rw[s4,jN,xW];have it:zd 3 [W,!(.lst (z.map qM))[9],!v[7],!(.lst (r.map Prod.fst))[8],!0[7],j5,j6]=.ok (numd 0 (r.map Prod.fst)):=rfl;rw[it,zt,h1,yc,h2];have e3:(z++jz v 0 (0:Nat) (r.map Prod.snd))++qO (v+1:Nat) (rs.map (·.map Prod.snd))=z++qO v ((r::rs).map (·.map Prod.snd)):=by
   rw[t7];rfl
  rw[e3]
def qek(rs)(B:∀ r∈rs,∀ e∈r,VT e)(Y:∀ r∈rs,r[1]<=600)(hl:rs[1]<=8)(w)(Z:w=.fz (evSB rs)\/w=.br (evSB rs)) :
  wa [w]=.ok (.lst ((jh (qO 0 (rs.map (·.map Prod.snd)))).map qM))[9]:=by
 obtain⟨i2,i3,i4,i5,i6,h⟩:=qej ↑w rs [] 0 none none none none none B Y (by simp;lia)
 have it:zd 0 [!w,!(.lst [])[9],none,none,none,none,none]=.ok (numd 0 (rs.map λr=>.lst (r.map Prod.fst))):=by rcases Z with z|z<;>(subst z;rfl)
 have bl:=VS 600 (rs.map (·.map Prod.snd)) 0 (λr O=>by
  obtain⟨x,hx,U⟩:=gJ.mp O;subst U;rw[gg];exact Y x hx)
 rw[gg]at bl;have so:=Vx (UD (rs.map (·.map Prod.snd)) 0) "" (λz=>by
  obtain⟨_,_,_,e,_⟩:=xy _ _ _ z;cases e)
 unfold wa KA;simp![it];have h:qC (gT [2,3]) (qe (qj 4 0[5]) (qJ (zd 3) (gT [5,6]) (qe (qY 1 (js [(q9 4),(q9 2),(q9 5)])) (jU 4 zI (eOp qc (q9 6) 1[5]))))) (numd 0 (rs.map λr=>.lst (r.map Prod.fst))) [!w,!(.lst [])[9],none,none,none,none,none]=.nx [!w,!(.lst ((qO 0 (rs.map (·.map Prod.snd))).map qM))[9],i2,i3,i4,i5,i6]:=h
 rw[h];simp![so]
def fcg:Nat->Str
 | 0=>"F"|1=>"C"|2=>"G"|3=>"D"|4=>"A"|5=>"E"|_=>"B"
def grd:Nat->Int
 | 0=>5|1=>0|2=>7|3=>2|4=>9|5=>4|_=>11
theorem UE:∀ m:Nat,m<7->vQ (.str "FCGDAEB") m[6]=.ok (.str (fcg m))[8]/\wY (.str "FCGDAEB") (.str (fcg m))=.ok m[7]/\xM V8 (.str (fcg m))=.ok (grd m)[7]/\zn (.str (fcg m))=!(Sum.inr (fcg m))/\PyData.strOk (fcg m)=true
 | 0,_=>#[by kernel_rfl,by kernel_rfl,by kernel_rfl,rfl,by kernel_rfl]
 | 1,_=>#[by kernel_rfl,by kernel_rfl,by kernel_rfl,rfl,by kernel_rfl]
 | 2,_=>#[by kernel_rfl,by kernel_rfl,by kernel_rfl,rfl,by kernel_rfl]
 | 3,_=>#[by kernel_rfl,by kernel_rfl,by kernel_rfl,rfl,by kernel_rfl]
 | 4,_=>#[by kernel_rfl,by kernel_rfl,by kernel_rfl,rfl,by kernel_rfl]
 | 5,_=>#[by kernel_rfl,by kernel_rfl,by kernel_rfl,rfl,by kernel_rfl]
 | 6,_=>#[by kernel_rfl,by kernel_rfl,by kernel_rfl,rfl,by kernel_rfl]
 | n+7,h=>absurd h ""
def ffN(p k:Int):Int:=k-4+(7*p-(k-4))%12
def ltN(p k:Int):Nat:=((ffN p k+1)%7).toNat
def alN(p k:Int):Int:=(ffN p k+1)/7
def ocN(p k:Int):Int:=(p-grd (ltN p k)-alN p k)/12
def wN(m:Nat)(k:Int):Int:=(k-1+((m:Int)-1-(k-1))%7+1)/7
def vS(p k):ltN p k<7:=by unfold ltN;lia
def VU(p k):(ltN p k)=(ffN p k+1)%7:=by unfold ltN;lia
def qel(a b c)(z:0<c):uz [.fz a[6],.fz b[6],.fz c[6]]=.ok (a+(b-a)%c)[7]:=by
 unfold uz Kz;simp![yx z]
def UF(f):Ja [.fz f[6]]=.ok ((f+1)/7)[7]:=by
 rfl
def qem(p k):Vj [.fz p[6],.fz k[6]]=.ok (ffN p k)[7]:=by
 rfl
def qen(p k):uL [.fz p[6],.fz k[6]]=.ok (.tup [.str (fcg (ltN p k)),.int (alN p k),.int (ocN p k)])[8]:=by
 obtain⟨a,b,c,_⟩:=UE (ltN p k) (vS p k);rw[VU]at a;unfold uL Xd;simp![qem,ut,yx (j:=7) "d",a,UF,c,QB (j:=12) "d" "d",alN,ocN]
def qeo(m)(z:m<7)(k):yM [.fz (.str (fcg m)),.fz k[6]]=.ok (wN m k)[7]:=by
 obtain⟨a,b,c,_⟩:=UE m z;unfold yM KU;simp![ut,b,qel _ _ 7 "d",UF,wN]
abbrev Kd:=List (List (Sum Int Str)×D)
def KI(kds:Kd):Prop:=∀ kv∈kds,∃ n:Int,kv.2=.int n
def kyN(p k:Int):List (Sum Int Str):=[.inr (fcg (ltN p k)),.inl (ocN p k)]
def byN(kds:Kd)(p k:Int):Int:=match look (kyN p k) kds with|some n[6]=>n|_=>wN (ltN p k) k
def wr(kds:Kd)(go:Bool)(p k:Int):Bool:=not go&&not (byN kds p k==alN p k)
def hdK(kds:Kd)(go:Bool)(p k:Int):Kd:=if wr kds go p k=true then qS (kyN p k) (alN p k)[6] kds else kds
def hdH(kds:Kd)(go:Bool)(p k:Int):D:=.tup [.str (fcg (ltN p k)),.int (ocN p k),if wr kds go p k=true then .int (alN p k)else .non]
def zO(go:Bool)(k:Int):Kd->List Int->Kd
 | kds,[]=>kds
 | kds,p::ps=>zO go k (hdK kds go p k) ps
def zP(go:Bool)(k:Int):Kd->List Int->List D
 | _,[]=>[]
 | kds,p::ps=>hdH kds go p k::zP go k (hdK kds go p k) ps
def UG(h:KI kds)(q):look q kds=none\/∃ n,look q kds=!n[6]:=by
 induction kds with
 | nil=>exact .inl rfl
 | cons kv r ih =>
  obtain⟨x,d⟩:=kv;unfold look;by_cases c:x=q
  .rw[if_pos c];obtain⟨n,e⟩:=h (x,d) "s"
   exact .inr #[n,by rw[show d=.int n from e]]
  rw[if_neg c];exact ih λkv hk=>h kv (gj _ hk)
def qep(h:KI kds)(q)(n):KI (qS q n[6] kds)/\(qS q n[6] kds)[1]<=kds[1]+1:=by
 unfold qS;split
 .refine#[λkv hk=>?_,by simp]
  obtain⟨x,hx,rfl⟩:=gJ.mp hk;by_cases c:x.1=q
  .rw[if_pos c];exact#[n,rfl]
  rw[if_neg c];exact h x hx
 refine#[λkv hk=>?_,by simp]
 rcases gD.mp hk with hk|hk
 .exact h kv hk
 simp_all
def VV(h:KI kds)(go)(p k):KI (hdK kds go p k)/\(hdK kds go p k)[1]<=kds[1]+1:=by
 unfold hdK;split
 .exact qep h _ _
 exact#[h,""]
theorem VW(go)(k):∀ ps kds,KI kds->KI (zO go k kds ps)/\(zO go k kds ps)[1]<=kds[1]+ps[1]
 | [],kds,h=>#[h,by simp[zO]]
 | p::ps,kds,h=>by
  obtain⟨a,b⟩:=VV h go p k;obtain⟨c,d⟩:=VW go k ps _ a;exact#[c,by rw[zO,gK];lia]
def UH(p k):jL [.str (fcg (ltN p k)),.int (ocN p k)]=!(kyN p k):=rfl
def qeq(h:KI kds)(p k):QZ kds (kyN p k) (wN (ltN p k) k)[7]=.ok (byN kds p k)[7]:=by
 unfold QZ byN;rcases UG h (kyN p k)with e|⟨n,e⟩<;>rw[e]
def qer(h:KI kds)(p k)(w)(B:w=.br (.dT kds)\/w=.fz (.dT kds)):Jm [.fz (.str (fcg (ltN p k))),.fz (ocN p k)[6],w,.fz k[6]]=.ok (byN kds p k)[7]:=by
 have hz:sz=16777216:=rfl;show fin ((qp (uk (q9 2) [(q9 0),(q9 1)] (qi yM [(q9 0),(q9 3)]))) [!(.str (fcg (ltN p k)))[8],!(ocN p k)[7],!w,!k[7]])=_;have e:uk (q9 2) [(q9 0),(q9 1)] (qi yM [(q9 0),(q9 3)]) [!(.str (fcg (ltN p k)))[8],!(ocN p k)[7],!w,!k[7]]=.ok (byN kds p k)[7]:=by
  have ve:(q9 2) [!(.str (fcg (ltN p k)))[8],!(ocN p k)[7],!w,!k[7]]=.ok w:=by rcases B with z|z<;>(subst z;rfl)
  have oe:(qi yM [(q9 0),(q9 3)]) [!(.str (fcg (ltN p k)))[8],!(ocN p k)[7],!w,!k[7]]=.ok (wN (ltN p k) k)[7]:=by simp![(qeo (ltN p k) (vS p k) k)]
  have wd:w.d=.dT kds:=by rcases B with z|z<;>(subst z;rfl)
  unfold uk;rw[ve,R.bind_ok,wd];show J5 (jL [.str (fcg (ltN p k)),.int (ocN p k)]) _=_;rw[UH];unfold J5;dsimp only;rw[if_pos (by show 2<=sz;lia),oe,R.bind_ok,(qeq h p k)]
 rw[Yk,e];rfl
abbrev UI:SF:=(qe (qj 6 (qi uL [(q9 5),(q9 3)]))
 (qe (qj 7 (eOp qc (q9 6) 0[5]))
 (qe (qj 8 (eOp qc (q9 6) 2[5]))
 (qe (qj 9 (eC .non))
 (qe (sIf (L3.zo (tE (eOp zK (q9 1) (eC .non))) (tE (eOp dNe (qi Jm [(q9 7),(q9 8),(yG 2),(q9 3)]) (eOp qc (q9 6) 1[5])))) (qe (qj 9 (eOp qc (q9 6) 1[5]))
 (x9 2 [(q9 7),(q9 8)] (q9 9))) qr)
 (qY 4 (js [(q9 7),(q9 8),(q9 9)])))))))
def qes{i:Nat}{e:EF}{ρ:Rho}{a:Int}{kds:Kd}{ws:List En}{q:List (Sum Int Str)}(h:ρ[i]?=!(!(.od (.tup [.int a,.dT kds]))))(z:e ρ=.ok d[8])(B:evs k ρ=.ok ws)(O:jL (ws.map En.d)=!q)(h1:kds[1]<sz)(h2:q[1]<=sz) :
  x9 i k e ρ=.nx (ρ.set i (!(.od (.tup [.int a,.dT (qS q d kds)])))):=by
 unfold x9;rw[h,z];show sOf (R.ok d) _=_;unfold sOf
 simp_all
def qet{i:Nat}{a:Int}(h:ρ[i]?=!(!(.od (.tup [.int a,d])))):yG i ρ=.ok (.br d):=by
 unfold yG;rw[h];rfl
def qeu(a)(T)(go)(k)(O:zK T .non=.ok (.bl (not go))[8])(R0):∀ ps kds z j5 j6 j7 j8 j9,KI kds->kds[1]+ps[1]<=1000000->z[1]+ps[1]<=1000000->∃ i5 i6 i7 i8 i9,
  qC (gV 5) UI (ps.map D.int) [R0,!T[8],!(ioD a (.dT kds)),!k[7],!(.lst z)[9],j5,j6,j7,j8,j9]
  = .nx [R0,!T[8],!(ioD a (.dT (zO go k kds ps))),!k[7],!(.lst (z++zP go k kds ps))[9],i5,i6,i7,i8,i9]:=by
 have hz:sz=16777216:=rfl;intro ps
 induction ps with
 | nil=>intro kds z j5 j6 j7 j8 j9 _ _ _;exact#[j5,j6,j7,j8,j9,by simp[zO,zP,Jw]]
 | cons p ps ih =>
  intro kds z j5 j6 j7 j8 j9 hk hl ha;rw[gK]at hl ha;obtain⟨k1,k2⟩:=VV hk go p k;obtain⟨i5,i6,i7,i8,i9,h⟩:=ih (hdK kds go p k) (z++[hdH kds go p k]) (!p[7]) (!(.tup [.str (fcg (ltN p k)),.int (alN p k),.int (ocN p k)])[8]) (!(.str (fcg (ltN p k)))[8]) (!(ocN p k)[7]) (!(if wr kds go p k=true then .int (alN p k)else .non)[8]) k1 "" (by rw[gG];simp;lia)
  refine#[i5,i6,i7,i8,i9,?_];rw[gN,zY (kJ)];simp[fT,fV];have be:=λw hw=>qer hk p k w hw
  have bd:UI [R0,!T[8],!(ioD a (.dT kds)),!k[7],!(.lst z)[9],!p[7],j6,j7,j8,j9]=.nx [R0,!T[8],!(ioD a (.dT (hdK kds go p k))),!k[7],!(.lst (z++[hdH kds go p k]))[9],!p[7],!(.tup [.str (fcg (ltN p k)),.int (alN p k),.int (ocN p k)])[8],!(.str (fcg (ltN p k)))[8],!(ocN p k)[7],!(if wr kds go p k=true then .int (alN p k)else .non)[8]]:=by
   simp![qen];have vi:∀ A B C D E F,(yG 2) [R0,!T[8],!(ioD a (.dT kds)),!k[7],A,B,C,D,E,F]=.ok (.br (.dT kds)):=λA B C D E F=>qet (a:=a) rfl
   have be:=be (.br (.dT kds)) (.inl rfl);cases go
   .cases c:(byN kds p k==alN p k)
    .have w:wr kds false p k=true:=by unfold wr;rw[c];rfl
     simp![O,Bool.not_false,vi,be,c];rw[qes (a:=a) (kds:=kds) (d:=.int (alN p k)) (ws:=[.fz (.str (fcg (ltN p k))),.fz (ocN p k)[6]]) (q:=kyN p k) rfl (by left) rfl (UH p k) "" (by show 2<=sz;lia)]
     left;rw[zz (xs:=z) (d:=hdH kds false p k) rfl "" (by simp![hdH,w])]
     simp![hdK,w];rfl
    have w:wr kds false p k=false:=by unfold wr;rw[c];rfl
    simp![O,Bool.not_false,Bool.not_true,vi,be,c];rw[zz (xs:=z) (d:=hdH kds false p k) rfl "" (by simp![hdH,w];rfl)]
    simp![hdK,w];rfl
   have w:wr kds true p k=false:=rfl;simp![O,Bool.not_true];rw[zz (xs:=z) (d:=hdH kds true p k) rfl "" (by simp![hdH,w];rfl)]
   simp![hdK,w];rfl
  rw[bd,yc,h,zO,zP];simp
def qiP{i:Nat}{e:EF}{a:Int}(h:ρ[i]?=!(!(.od (.tup [.int a,d]))))(z:e ρ=.ok g[8]):uj i e ρ=.rt (.od (.tup [.int a,d,g])):=by
 unfold uj;rw[h,z];rfl
def qev(a)(T)(go)(k)(z:zK T .non=.ok (.bl (not go))[8])(ps)(kds)(B:KI kds)(O:kds[1]+ps[1]<=1000000) :
  Jr [.fz (.tup (ps.map D.int)),.fz T,ioD a (.dT kds),.fz k[6]]=.ok (.od (.tup [.int a,.dT (zO go k kds ps),.tup (zP go k kds ps)])):=by
 obtain⟨i5,i6,i7,i8,i9,h⟩:=qeu a T go k z (!(.tup (ps.map D.int))[8]) ps kds [] none none none none none B O (by simp;lia)
 show fin (qe (qj 4 (jk [])) _ [!(.tup (ps.map D.int))[8],!T[8],!(ioD a (.dT kds)),!k[7],none,none,none,none,none,none])=_;left;have it:iV 0 [!(.tup (ps.map D.int))[8],!T[8],!(ioD a (.dT kds)),!k[7],!(.lst [])[9],none,none,none,none,none]=.ok (ps.map D.int):=rfl;rw[it,zt,h];rfl
def vof(s:List Int):Int:=s.getD 1 0
def pof(s:List Int):Int:=s.getD 0 0
theorem UJ(v):∀ r p n,(∀ x∈r,0<=x)->∀ s∈jz v p n r,p<=pof s
 | [],_,_,_,s,h=>by simp[jz]at h
 | x::r,p,n,hx,s,h=>by
  rcases gE.mp h with z|h
  .subst z;exact pt _
  have a:=hx x "s"
  have:=UJ v r (p+x) (n+1) (λy hy=>hx y (gj _ hy)) s h
  lia
def qew{p q v u n m:Int}(h:p<q):HT.lexLt [q,v,n] [p,u,m]=false:=by
 rw[HT.lexLt_cons,if_neg ""]
 simp;lia
theorem UK(v):∀ r p n,(∀ x∈r,1<=x)->(jz v p n r).Pairwise λa b=>HT.lexLt b a=false
 | [],_,_,_=>List.Pairwise.nil
 | x::r,p,n,hx=>by
  refine List.Pairwise.cons (λs hs=>?_) (UK v r (p+x) (n+1) λy hy=>hx y (gj _ hy))
  have a:=hx x "s"
  have b:=UJ v r (p+x) (n+1) (λy hy=>by have:=hx y (gj _ hy);lia) s hs
  obtain⟨q,m,e,_⟩:=xx v r (p+x) (n+1) s hs;subst e;exact qew (show p<q by have:p+x<=q:=b;lia)
def VX(v){r:List Int}{p n:Int}{s:List Int}(h:s∈jz v p n r):vof s=v:=by
 obtain⟨q,m,e,_⟩:=xx v r p n s h;subst e;rfl
theorem UL:∀ rs w (v:Nat) r,rs[v]?=!r->(qO w rs).filter (λs=>vof s==w+v)=jz (w+v) 0 0 r
 | [],_,_,_,h=>by simp at h
 | q::rs,w,0,r,h=>by
  obtain rfl:q=r:=by simpa using h
  rw[qO,pX];have b:(qO (w+1) rs).filter (λs=>vof s==w+(0:Nat))=[]:=fG.mpr λs hs=>by
   obtain⟨x,u,m,e,l⟩:=xy rs (w+1) s hs;subst e;simp[vof];lia
  rw[(dh.mpr λs hs=>by rw[VX w hs];simp),b]
  simp
 | q::rs,w,v+1,r,h=>by
  rw[qO,pX];have e:w+(v+1:Nat)=w+1+v:=""
  rw[(fG.mpr λs hs=>by rw[VX w hs];simp;lia),e]
  exact(UL rs (w+1) v r h[""])
def UM{T:List (List Int)}(P)(h:S.filter P=T)(up:T.Pairwise λa b=>HT.lexLt b a=false):(jh S).filter P=T:=by
 refine ZC ?_ ((QD S).filter P) up
 rw[<- h];exact(wG S).filter P
def VY(rs)(hp:∀ r∈rs,∀ x∈r,1<=x)(v:Nat)(r)(h:rs[v]?=!r):(jh (qO 0 rs)).filter (λs=>vof s==v)=jz v 0 0 r:=by
 have e:=UL rs 0 v r h;rw[bH]at e;exact UM _ e (UK _ r 0 0 (hp r (t8 h)))
theorem UN(v):∀ r p n (i:Nat) s,(jz v p n r)[i]?=!s->∃ q,s=[q,v,n+i]/\i<r[1]
 | [],_,_,_,_,h=>by simp[jz]at h
 | x::r,p,n,0,s,h=>by
  have:s=[p,v,n]:=by simpa[jz]using h.symm
  simp_all
 | x::r,p,n,i+1,s,h=>by
  obtain⟨q,e,l⟩:=UN v r (p+x) (n+1) i s (by simpa[jz]using h)
  exact#[q,by rw[e];simp;lia]
theorem UO:∀ rs w s,s∈qO w rs->∃(v:Nat) (r:List Int),vof s=w+v/\rs[v]?=!r
 | [],_,s,h=>by simp[qO]at h
 | q::rs,w,s,h=>by
  rcases gD.mp h with h|h
  .exact#[0,q,by rw[VX w h];simp,rfl]
  obtain⟨v,r,e,l⟩:=UO rs (w+1) s h;exact#[v+1,r,by rw[e];lia,by simpa using l]
def qex(rs)(hp:∀ r∈rs,∀ x∈r,1<=x){z B:List (List Int)}{s:List Int}(h:jh (qO 0 rs)=z++s::B) :
  ∃(q:Int) (v n:Nat) (r:List Int),s=[q,v,n]/\rs[v]?=!r/\n<r[1]/\n=(z.filter λt=>vof t==v)[1]:=by
 obtain⟨v,r,e,er⟩:=UO rs 0 s ((wG _).mem_iff.mp (by rw[h];simp))
 have sv:=VY rs hp v r er;rw[h,pX,pC e[""]]at sv
 have g:(jz v 0 0 r)[(z.filter λt=>vof t==v)[1]]?=!s:=by rw[<- sv,hU (gy _),sub_self];rfl
 obtain⟨q,e2,l⟩:=UN v r 0 0 _ s g;exact#[q,v,_,r,by rw[e2,bH],er,l,rfl]
def wp:Option D->Bool
 | some (.tup [_,_,_,.bl b])=>b
 | _=>false
def yW:Option D->D
 | some (.tup [_,_,h,.bl true])=>h
 | _=>.non
def TeOk(d:D):Prop:=(∃ v:Int,d=.tup [.str "rest",.int v])\/∃(v:Int) (hs:List D) (t:Bool),d=.tup [.str "note",.int v,.tup hs,.bl t]
def qey:dEq (.str "rest") (.str "rest")=.ok (.bl true)[8]:=by kernel_rfl
def UP:dEq (.str "note") (.str "rest")=.ok (.bl false)[8]:=by kernel_rfl
def qez(o)(h:∀ d,o=!d->TeOk d):y6 [.fz (o.getD .non)]=.ok (yW o)[8]/\zK (yW o) .non=.ok (.bl (not (wp o)))[8]:=by
 cases o with
 | none=>exact#[by kernel_rfl,rfl]
 | some d =>
  rcases h d rfl with⟨v,e⟩|⟨v,hs,t,e⟩
  .subst e;refine#[?_,rfl];unfold y6 Jb;simp![Option.getD_some,qey];rfl
  subst e;cases t
  .refine#[?_,rfl];unfold y6 Jb;simp![Option.getD_some,UP];rfl
  refine#[?_,rfl];unfold y6 Jb;simp![Option.getD_some,UP];rfl
structure TS where
 kds:Kd
 rows:List (List D)
 ah:List (Sum Int Str×D)
inductive GE(α:Type)where
 | rest (v:Int)
 | note (v:Int) (x:α) (t:Bool)
structure TF(α:Type)where
 enc:α->D
 fx:α->D->Kd->D
 fk:α->D->Kd->Kd
 ok:α->Prop
def geD(F:TF α):GE α->D
 | .rest v=>.tup [.str "rest",.int v]
 | .note v x t=>.tup [.str "note",.int v,F.enc x,.bl t]
def gv:GE α->Int
 | .rest v=>v
 | .note v _ _=>v
def GeOk(F:TF α):GE α->Prop
 | .rest v=>1<=v
 | .note v x _=>1<=v/\F.ok x
def gwD(F:TF α)(r:List (GE α)):D:=.lst (r.map (geD F))
def grD(F:TF α)(R:List (List (GE α))):D:=.lst (R.map (gwD F))
def gEv(F:TF α)(T:D)(kds:Kd):GE α->D
 | .rest v=>.tup [.str "rest",.int v]
 | .note v x t=>.tup [.str "note",.int v,F.fx x T kds,.bl t]
def gKd(F:TF α)(T:D)(kds:Kd):GE α->Kd
 | .rest _=>kds
 | .note _ x _=>F.fk x T kds
def tOf(st:TS)(v:Nat):D:=yW (look (Sum.inl (v:Int)) st.ah)
def wt(F:TF α)(st:TS)(v:Nat)(e:GE α):TS :=
 #[gKd F (tOf st v) st.kds e,st.rows.set v ((st.rows.getD v [])++[gEv F (tOf st v) st.kds e]),qS (Sum.inl (v:Int)) (gEv F (tOf st v) st.kds e) st.ah]
def evAt(R:List (List (GE α)))(s:List Int):Option (GE α):=(R[(vof s).toNat]?).bind λr=>r[(s.getD 2 0).toNat]?
def zh(F:TF α)(R:List (List (GE α)))(st:TS)(s:List Int):TS:=match evAt R s with
 | some e=>wt F st (vof s).toNat e
 | none=>st
def TnOk(T:D):Prop:=T=.non\/∃ hs,T=.tup hs
structure TurnOk{α:Type}(F:TF α)(k:Int)(fn:D)(io:IOF):Prop where
 run:∀(R0 z A:Option En) (ah:List (Sum Int Str×D)) (br:D) (kds:Kd) (rows:D) (v va:Int) (x:α) (t:Bool) (T:D),F.ok x->TnOk T->KI kds->kds[1]<=200000 ->
  io [R0,!k[7],!fn[8],z,!(.dK ah)[9],!br[8],!(.dT kds)[9],!(.od rows),A,!v[7],!(geD F (.note va x t))[8],!T[8]]
   = .ok (F.fx x T kds,[R0,!k[7],!fn[8],z,!(.dK ah)[9],!br[8],!(.dT (F.fk x T kds))[9],!(.od rows),A,!v[7],!(geD F (.note va x t))[8],!T[8]])
 ki:∀(x:α) (T:D) (kds:Kd),F.ok x->TnOk T->KI kds->KI (F.fk x T kds)/\(F.fk x T kds)[1]<=kds[1]+24
 tp:∀(x:α) (T:D) (kds:Kd),F.ok x->TnOk T->KI kds->∃ hs,F.fx x T kds=.tup hs
abbrev uZ(io:IOF):SF:=(qe (qj 9 (eOp qc (q9 8) 1[5]))
 (qe (qj 10 (eOp qc (eOp qc (q9 5) (q9 9)) (eOp qc (q9 8) 2[5])))
 (qe (sIf (tE (eOp dEq (eOp qc (q9 10) 0[5]) (eC (.str "note")))) (qe (qj 11 (qi y6 [(yH (q9 4) (q9 9))]))
 (sIO 10 (eIOT (zW (eC (.str "note")) (zW (eOp qc (q9 10) 1[5]) (xIO io (zW (eOp qc (q9 10) 3[5]) uo))))))) qr)
 (qe (wJ 7 (q9 9) (q9 10))
 (vX 4 (q9 9) (q9 10))))))
def qeA{d k:EF}{wd wk:En}(hd:d ρ=.ok wd)(h1:wd.d=.dK kvs)(z:k ρ=.ok wk)(h2:zn wk.d=!q):yH d k ρ=.ok ((look q kvs).getD .non)[8]:=by
 unfold yH;rw[hd,R.bind_ok,h1];dsimp only;rw[z,R.bind_ok,h2];dsimp only;cases look q kvs<;>rfl
def qeB{kvs:List (Sum Int Str×D)}{i:Nat}{k e:EF}{ρ:Rho}{w:En}(h:ρ[i]?=!(!(.dK kvs)[9]))(h2:e ρ=.ok d[8])(z:k ρ=.ok w)(B:zn w.d=!key)(O:kvs[1]<sz) :
  vX i k e ρ=.nx (ρ.set i (!(.dK (qS key d kvs))[9])):=Yt h (by rw[h2];rfl) z B O
def AhOk(z:List (Sum Int Str×D)):Prop:=∀ kv∈z,TeOk kv.2
theorem VZ:∀{l:List (Sum Int Str×D)},look q l=!d->∃ kv∈l,kv.2=d
 | [],h=>by cases h
 | (x,y)::l,h=>by
  unfold look at h;by_cases c:x=q
  .rw[if_pos c]at h;exact#[(x,y),by simp,by simpa using h]
  rw[if_neg c]at h;obtain⟨kv,m,e⟩:=VZ h;exact#[kv,gj _ m,e]
def qeC{z:List (Sum Int Str×D)}(h:AhOk z)(hd:TeOk d):AhOk (qS q d z)/\(qS q d z)[1]<=z[1]+1:=by
 unfold qS;split
 .refine#[λkv hk=>?_,by simp]
  obtain⟨x,hx,rfl⟩:=gJ.mp hk;by_cases c:x.1=q
  .rw[if_pos c];exact hd
  rw[if_neg c];exact h x hx
 refine#[λkv hk=>?_,by simp]
 rcases gD.mp hk with hk|hk
 .exact h kv hk
 simp_all
def JI{κ:Type} [DecidableEq κ]{q B:κ}:∀ l,look B (qS q d l)=if q=B then !d else look B l:=by
 intro l;have mp:∀ l,look B (l.map λkv=>if kv.1=q then(kv.1,d)else kv)=if q=B/\(l.any λkv=>decide (kv.1=q))=true then !d else look B l:=by
  intro l
  induction l with
  | nil=>simp[look]
  | cons kv r ih =>
   obtain⟨x,y⟩:=kv;rw[gN];by_cases c:x=q
   .rw[if_pos c];unfold look
    simp_all
   rw[if_neg c];unfold look
   grind
 have ap:∀ l,(l.any λkv=>decide (kv.1=q))=false->look B (l++[(q,d)])=if q=B then !d else look B l:=by
  intro l
  induction l with
  | nil=>intro _;simp[look]
  | cons kv r ih =>
   intro h;obtain⟨x,y⟩:=kv;rw[bi,Bool.or_eq_false_iff]at h;have xq:x≠q:=by simpa using h.1
   rw[List.cons_append];unfold look;by_cases c2:x=B
   .rw[if_pos c2,if_neg λz=>xq (c2.trans z.symm),if_pos c2]
   rw[if_neg c2,ih h.2,if_neg c2]
 unfold qS;cases c:(l.any λkv=>decide (kv.1=q))
 .rw[if_neg "s",ap l c]
 rw[if_pos rfl,mp l,c];simp
structure TsOk{α:Type}(L:Nat)(R:List (List (GE α)))(st:TS)(m:Nat):Prop where
 ki:KI st.kds
 kl:st.kds.length<=24*m
 ah:AhOk st.ah
 al:st.ah.length<=L+m
 rl:st.rows.length=R.length
 rr:∀ r∈st.rows,r[1]<=m
def qeD(o)(h:∀ d,o=!d->TeOk d):TnOk (yW o):=by
 cases o with
 | none=>exact .inl rfl
 | some d =>
  rcases h d rfl with⟨v,e⟩|⟨v,hs,t,e⟩
  .subst e;exact .inl rfl
  subst e;cases t
  .exact .inl rfl
  exact .inr #[hs,rfl]
def W1{st:TS}(h:AhOk st.ah)(v):TnOk (tOf st v):=qeD _ λd hd=>by obtain⟨kv,m1,m2⟩:=VZ hd;rw[<- m2];exact h kv m1
def qeE{F:TF α}{k:Int}{fn:D}{io:IOF}(z:TurnOk F k fn io){T:D}{kds:Kd}(B:TnOk T)(O:KI kds)(e)(U:GeOk F e):TeOk (gEv F T kds e):=by
 cases e with
 | rest v=>exact .inl #[v,rfl]
 | note v x t =>
  obtain⟨hs,h⟩:=z.tp x T kds U.2 B O;exact .inr #[v,hs,t,by show D.tup [.str "note",.int v,F.fx x T kds,.bl t]=_;rw[h]]
def qeF{F:TF α}{k:Int}{fn:D}{io:IOF}(B:TurnOk F k fn io){T:D}{kds:Kd}(O:TnOk T)(z:KI kds)(e)(U:GeOk F e):KI (gKd F T kds e)/\(gKd F T kds e)[1]<=kds[1]+24:=by
 cases e with
 | rest v=>exact#[z,by simp[gKd]]
 | note v x t=>exact B.ki x T kds U.2 O z
def qeG{F:TF α}{k:Int}{fn:D}{io:IOF}(O:TurnOk F k fn io){L:Nat}{R:List (List (GE α))}{st:TS}{m v:Nat}(h:TsOk L R st m)(Y:v<R.length)(e)(U:GeOk F e):TsOk L R (wt F st v e) (m+1):=by
 obtain⟨a,b⟩:=qeF O (W1 h.ah v) h.ki e U;obtain⟨c,d⟩:=qeC h.ah (qeE O (W1 h.ah v) h.ki e U);refine#[a,by have:=h.kl;show(gKd F (tOf st v) st.kds e)[1]<=_;lia,c,by have:=h.al;show(qS _ _ st.ah)[1]<=_;lia,by show(st.rows.set v _)[1]=_;rw[bq];exact h.rl,λr hr=>?_]
 rcases List.mem_or_eq_of_mem_set hr with z|z
 .have:=h.rr r z;lia
 subst z;have B:v<st.rows.length:=by rw[h.rl];exact Y
 have:(st.rows.getD v [])[1]<=m:=by
  rw[tm,gw B];exact h.rr _ (tR B)
 simp_all
def qeH{i:Nat}{ρ:Rho}(h:ρ[i]?=!(!d[9]))(z:evs pre ρ=.ok ws)(B:jT ws=.ok ys)(O:evs post ρ=.ok ws2)(U:jT ws2=.ok ys2)(f:(zV ys&&zV ys2)=true)(io:wL dn ys d ys2=.ok (d',g)) :
  eIO dn i pre post ρ=.ok (g,ρ.set i (!d'[9])):=by
 unfold eIO;rw[h];dsimp only;rw[z,R.bind_ok,B,R.bind_ok,O,R.bind_ok,U,R.bind_ok,if_pos f,io]
def qeI{j:Nat}{i:Nat}(h:fnOf ρ[j]?=!x1)(e:eIO d1 i pre post ρ=r):eIOV j x1 d1 i pre post ρ=r:=by
 unfold eIOV
 simp_all
def qeJ{F:TF α}{k:Int}{fn:D}{io:IOF}(hF:TurnOk F k fn io)(R)(R0 told)(st)(m L)(h:TsOk L R st m)(hL:L<=1000000)(hm:m<=5000)(v n:Nat)(q)(r)(e)(Z:R[v]?=!r)(ee:r[n]?=!e)(he:GeOk F e)(j9 j10)(z:Option D):∃ Y:Option D,
  uZ io [R0,!k[7],!fn[8],told,!(.dK st.ah)[9],!(grD F R)[8],!(.dT st.kds)[9],!(.od (.lst (st.rows.map D.lst))),!(qM [q,v,n])[8],j9,j10,z.map En.fz]
  = .nx [R0,!k[7],!fn[8],told,!(.dK (wt F st v e).ah)[9],!(grD F R)[8],!(.dT (wt F st v e).kds)[9],!(.od (.lst ((wt F st v e).rows.map D.lst))),!(qM [q,v,n])[8],!v[7],!(gEv F (tOf st v) st.kds e)[8],Y.map En.fz]:=by
 have hz:sz=16777216:=rfl;have hv:v<R.length:=(gp.mp Z).1;have B:v<st.rows.length:=by rw[h.rl];exact hv
 have i1:qc (qM [q,v,n]) 1[6]=.ok v[7]:=rfl;have i2:qc (qM [q,v,n]) 2[6]=.ok n[7]:=rfl;have b1:qc (grD F R) v[6]=.ok (gwD F r)[8]:=by
  show okD (ati (R.map (gwD F)) v)=_;rw[jK,gC,Z];rfl
 have b2:qc (gwD F r) n[6]=.ok (geD F e)[8]:=by
  show okD (ati (r.map (geD F)) n)=_;rw[jK,gC,ee];rfl
 have tl:∀ A C K x,(qe (wJ 7 (q9 9) (q9 10)) (vX 4 (q9 9) (q9 10))) [R0,!k[7],!fn[8],told,!(.dK st.ah)[9],!(grD F R)[8],!(.dT K)[9],!(.od (.lst (st.rows.map D.lst))),A,!v[7],!x[8],C]
   = .nx [R0,!k[7],!fn[8],told,!(.dK (qS (Sum.inl v) x st.ah))[9],!(grD F R)[8],!(.dT K)[9],!(.od (.lst ((st.rows.set v ((st.rows.getD v [])++[x])).map D.lst))),A,!v[7],!x[8],C]:=λA C K x=>by
  have gd:st.rows.getD v []=st.rows[v]:=by rw[tm,gw B];rfl
  have rl:=h.rr _ (tR B);rw[jv,Vy (k:=v) (ds:=st.rows.map D.lst) (xs:=st.rows[v]) (d:=x) rfl (by left) (by left) (by rw[gC,gw B];rfl) "",jN]
  rw[qeB (kvs:=st.ah) (d:=x) (w:=.fz v[6]) (key:=Sum.inl v) rfl (by left) (by left) rfl (by have:=h.al;lia)]
  rw[gd,List.map_set];rfl
 have s9:(qj 9 (eOp qc (q9 8) 1[5])) [R0,!k[7],!fn[8],told,!(.dK st.ah)[9],!(grD F R)[8],!(.dT st.kds)[9],!(.od (.lst (st.rows.map D.lst))),!(qM [q,v,n])[8],j9,j10,z.map En.fz]=.nx [R0,!k[7],!fn[8],told,!(.dK st.ah)[9],!(grD F R)[8],!(.dT st.kds)[9],!(.od (.lst (st.rows.map D.lst))),!(qM [q,v,n])[8],!v[7],j10,z.map En.fz]:=by simp![i1]
 have O:(qj 10 (eOp qc (eOp qc (q9 5) (q9 9)) (eOp qc (q9 8) 2[5]))) [R0,!k[7],!fn[8],told,!(.dK st.ah)[9],!(grD F R)[8],!(.dT st.kds)[9],!(.od (.lst (st.rows.map D.lst))),!(qM [q,v,n])[8],!v[7],j10,z.map En.fz]=.nx [R0,!k[7],!fn[8],told,!(.dK st.ah)[9],!(grD F R)[8],!(.dT st.kds)[9],!(.od (.lst (st.rows.map D.lst))),!(qM [q,v,n])[8],!v[7],!(geD F e)[8],z.map En.fz]:=by simp![b1,i2,b2]
 cases e with
 | rest va =>
  refine#[z,?_];have i0:qc (geD F (.rest va)) 0[6]=.ok (.str "rest")[8]:=rfl;have nq:(tE (eOp dEq (eOp qc (q9 10) 0[5]) (eC (.str "note")))) [R0,!k[7],!fn[8],told,!(.dK st.ah)[9],!(grD F R)[8],!(.dT st.kds)[9],!(.od (.lst (st.rows.map D.lst))),!(qM [q,v,n])[8],!v[7],!(geD F (.rest va))[8],z.map En.fz]=.ok false:=by simp![i0,Ui]
  unfold uZ;rw[jv,s9,jN,jv,O,jN,jv,kI,nq,zt,Zv,Zw,jN,tl];rfl
 | note va x t =>
  obtain⟨te,_⟩:=qez (look (Sum.inl (v:Int)) st.ah) (λd hd=>by obtain⟨kv,m1,m2⟩:=VZ hd;rw[<- m2];exact h.ah kv m1)
  have i0:qc (geD F (.note va x t)) 0[6]=.ok (.str "note")[8]:=rfl;refine#[!(tOf st v),?_];have go:∀ A,(sIO 10 (eIOT (zW (eC (.str "note")) (zW (eOp qc (q9 10) 1[5]) (xIO io (zW (eOp qc (q9 10) 3[5]) uo)))))) [R0,!k[7],!fn[8],told,!(.dK st.ah)[9],!(grD F R)[8],!(.dT st.kds)[9],!(.od (.lst (st.rows.map D.lst))),A,!v[7],!(geD F (.note va x t))[8],!(tOf st v)[8]]
    = .nx [R0,!k[7],!fn[8],told,!(.dK st.ah)[9],!(grD F R)[8],!(.dT (F.fk x (tOf st v) st.kds))[9],!(.od (.lst (st.rows.map D.lst))),A,!v[7],!(gEv F (tOf st v) st.kds (.note va x t))[8],!(tOf st v)[8]]:=λA=>by
   have iv:=hF.run R0 told A st.ah (grD F R) st.kds (.lst (st.rows.map D.lst)) v va x t (tOf st v) he.2 (W1 h.ah v) h.ki (by have:=h.kl;lia)
   have xe:(eIOT (zW (eC (.str "note")) (zW (eOp qc (q9 10) 1[5]) (xIO io (zW (eOp qc (q9 10) 3[5]) uo))))) [R0,!k[7],!fn[8],told,!(.dK st.ah)[9],!(grD F R)[8],!(.dT st.kds)[9],!(.od (.lst (st.rows.map D.lst))),A,!v[7],!(geD F (.note va x t))[8],!(tOf st v)[8]]
     = .ok (gEv F (tOf st v) st.kds (.note va x t),[R0,!k[7],!fn[8],told,!(.dK st.ah)[9],!(grD F R)[8],!(.dT (F.fk x (tOf st v) st.kds))[9],!(.od (.lst (st.rows.map D.lst))),A,!v[7],!(geD F (.note va x t))[8],!(tOf st v)[8]]):=by
    unfold eIOT zW xIO;rw[show(eC (.str "note")) [R0,!k[7],!fn[8],told,!(.dK st.ah)[9],!(grD F R)[8],!(.dT st.kds)[9],!(.od (.lst (st.rows.map D.lst))),A,!v[7],!(geD F (.note va x t))[8],!(tOf st v)[8]]=.ok (.str "note")[8]from rfl]
    rw[show(eOp qc (q9 10) 1[5]) [R0,!k[7],!fn[8],told,!(.dK st.ah)[9],!(grD F R)[8],!(.dT st.kds)[9],!(.od (.lst (st.rows.map D.lst))),A,!v[7],!(geD F (.note va x t))[8],!(tOf st v)[8]]=.ok va[7]from rfl,iv]
    rfl
   unfold sIO;rw[xe];rfl
  have nq:(tE (eOp dEq (eOp qc (q9 10) 0[5]) (eC (.str "note")))) [R0,!k[7],!fn[8],told,!(.dK st.ah)[9],!(grD F R)[8],!(.dT st.kds)[9],!(.od (.lst (st.rows.map D.lst))),!(qM [q,v,n])[8],!v[7],!(geD F (.note va x t))[8],z.map En.fz]=.ok true:=by simp![i0,Uj]
  have ge:(yH (q9 4) (q9 9)) [R0,!k[7],!fn[8],told,!(.dK st.ah)[9],!(grD F R)[8],!(.dT st.kds)[9],!(.od (.lst (st.rows.map D.lst))),!(qM [q,v,n])[8],!v[7],!(geD F (.note va x t))[8],z.map En.fz]=.ok ((look (Sum.inl (v:Int)) st.ah).getD .non)[8]:=qeA (wd:=.br (.dK st.ah)) (wk:=.fz v[6]) rfl rfl rfl rfl;have U:(qj 11 (qi y6 [(yH (q9 4) (q9 9))])) [R0,!k[7],!fn[8],told,!(.dK st.ah)[9],!(grD F R)[8],!(.dT st.kds)[9],!(.od (.lst (st.rows.map D.lst))),!(qM [q,v,n])[8],!v[7],!(geD F (.note va x t))[8],z.map En.fz]=.nx [R0,!k[7],!fn[8],told,!(.dK st.ah)[9],!(grD F R)[8],!(.dT st.kds)[9],!(.od (.lst (st.rows.map D.lst))),!(qM [q,v,n])[8],!v[7],!(geD F (.note va x t))[8],!(tOf st v)[8]]:=by simp![ge,te,tOf]
  unfold uZ;rw[jv,s9,jN,jv,O,jN,jv,kI,nq,zt,Yj,jv,U,jN,go,jN,tl];rfl
section
variable{α:Type}{F:TF α}{k:Int}{fn:D}{io:IOF}
def qeK(h:GeOk F e):1<=gv e:=by
 cases e with
 | rest v=>exact h
 | note v x t=>exact h.1
abbrev qU{α:Type}(R:List (List (GE α))):List (List Int):=R.map (·.map gv)
def JJ{R:List (List (GE α))}(z:∀ r∈R,∀ e∈r,GeOk F e):∀ r∈qU R,∀ x∈r,1<=x:=by
 intro r hr x hx;obtain⟨q,hq,rfl⟩:=gJ.mp hr;obtain⟨e,he,rfl⟩:=gJ.mp hx;exact qeK (z q hq e he)
def JK{R:List (List (GE α))}(B:∀ r∈R,∀ e∈r,GeOk F e){z O:List (List Int)}{s:List Int}(h:jh (qO 0 (qU R))=z++s::O) :
  ∃(q:Int) (v n:Nat) (r:List (GE α)) (e:GE α),s=[q,v,n]/\R[v]?=!r/\r[n]?=!e/\n=(z.filter λt=>vof t==v)[1]/\evAt R s=!e/\∀ st,zh F R st s=wt F st v e:=by
 obtain⟨q,v,n,r',e1,e2,e3,e4⟩:=qex (qU R) (JJ B) h;rw[gC]at e2;cases er:R[v]? with
 | none=>rw[er]at e2;cases e2
 | some r =>
  rw[er]at e2;obtain rfl:r.map gv=r':=by simpa using e2
  rw[gg]at e3;have ee:=gw e3;have ev:evAt R s=!r[n]:=by
   subst e1;show(R[((v:Int)).toNat]?).bind _=_;rw[fC,er]
   assumption
  refine#[q,v,n,r,r[n],e1,er,ee,e4,ev,λst=>?_]
  unfold zh;rw[ev];subst e1;rfl
def UQ(Z:TurnOk F k fn io)(R)(hR:∀ r∈R,∀ e∈r,GeOk F e)(R0 told)(L)(hL:L<=1000000)(hl:(jh (qO 0 (qU R)))[1]<=5000):∀ S2 S1 st (j8 j9 z B:Option D),jh (qO 0 (qU R))=S1++S2->TsOk L R st S1.length ->
  (∃ i8 i9 O U:Option D,qC (gV 8) (uZ io) (S2.map qM) [R0,!k[7],!fn[8],told,!(.dK st.ah)[9],!(grD F R)[8],!(.dT st.kds)[9],!(.od (.lst (st.rows.map D.lst))),j8.map En.fz,j9.map En.fz,z.map En.fz,B.map En.fz]
  = .nx [R0,!k[7],!fn[8],told,!(.dK (S2.foldl (zh F R) st).ah)[9],!(grD F R)[8],!(.dT (S2.foldl (zh F R) st).kds)[9],!(.od (.lst ((S2.foldl (zh F R) st).rows.map D.lst))),i8.map En.fz,i9.map En.fz,O.map En.fz,U.map En.fz])/\TsOk L R (S2.foldl (zh F R) st) (S1++S2)[1]:=by
 intro S2
 induction S2 with
 | nil=>intro S1 st j8 j9 z B _ h;exact#[#[j8,j9,z,B,rfl],by simpa using h]
 | cons s S2 ih =>
  intro S1 st j8 j9 z B e h;obtain⟨q,v,n,r,ev,e1,er,ee,_,_,sp⟩:=JK hR e;have pe:=hR r (t8 er) ev (t8 ee);have hm:S1.length<=5000:=by rw[e,gG]at hl;lia
  obtain⟨U,se⟩:=qeJ Z R R0 told st S1.length L h hL hm v n q r ev er ee pe (j9.map En.fz) (z.map En.fz) B;obtain⟨⟨i8,i9,O,Y,f⟩,t⟩:=ih (S1++[s]) (wt F st v ev) (!(qM s)) (!v[6]) (!(gEv F (tOf st v) st.kds ev)) U (by rw[e];simp) (by rw[gG];exact(qeG Z h (gp.mp er).1 ev pe))
  rw[fK,sp];refine#[#[i8,i9,O,Y,?_],by simpa using t]
  rw[gN,zY (kJ)];simp[fT,fV];subst e1;rw[se];exact f
def bar0(R:List (List (GE α)))(z:List (Sum Int Str×D)):TS:=#[[],R.map λ_=>[],z]
def qW(F:TF α)(R:List (List (GE α)))(z:List (Sum Int Str×D)):TS:=(jh (qO 0 (qU R))).foldl (zh F R) (bar0 R z)
def brT(t:TS):D:=.lst (t.rows.map D.lst)
def JM{R:List (List (GE α))}(z:R.length<=8)(B:∀ r∈R,r[1]<=500):(jh (qO 0 (qU R)))[1]<=4000:=by
 rw[(wG _).length_eq];have:=VS 500 (qU R) 0 λr hr=>by
  obtain⟨q,hq,rfl⟩:=gJ.mp hr
  simp_all
 grind
def UR{R:List (List (GE α))}{z:List (Sum Int Str×D)}(B:AhOk z)(O:z[1]<=L):TsOk L R (bar0 R z) 0:=by
 refine#[λ_ h=>(by cases h),tK _,B,O,?_,λr hr=>?_]
 .show(R.map λ_=>[])[1]=_
  simp
 obtain⟨x,_,e⟩:=gJ.mp (hr)
 simp_all
def JN(F:TF α)(r:List (GE α)):Prop:=(∀ e∈r,GeOk F e)/\r[1]<=500/\1<=r[1]
def za(F:TF α)(R:List (List (GE α))):Prop:=R.length<=8/\∀ r∈R,JN F r
abbrev Q0(io:IOF):SF:=(qe (qj 6 eDT)
 (qe (ug 7 (Ka 1 (iVc 5) (gV 12) (jk [])))
 (qe (qJ (ji (qi wa [(q9 5)])) (gV 8) (uZ io))
 (wW 7 (jB 7 (qY 3 (q9 7)))))))
def xz(F:TF α)(R:List (List (GE α))):List (List EvS):=R.map λr=>r.map λe=>(geD F e,gv e)
def qeL(R):evSB (xz F R)=grD F R:=by
 unfold evSB xz;rw[gH];congr 1;apply gZ;intro r _;show D.lst ((r.map λe=>(geD F e,gv e)).map Prod.fst)=_
 rw[gH];rfl
def qeM(R):(xz F R).map (·.map Prod.snd)=qU R:=by
 unfold xz;simp
def US(R)(h:za F R)(w)(z:w=.fz (grD F R)\/w=.br (grD F R)):wa [w]=.ok (.lst ((jh (qO 0 (qU R))).map qM))[9]:=by
 have io:=qek (xz F R) (λr hr e he=>by
  obtain⟨q,hq,rfl⟩:=gJ.mp hr;obtain⟨x,hx,rfl⟩:=gJ.mp he;cases x<;>rfl) (λr hr=>by
  obtain⟨q,hq,rfl⟩:=gJ.mp hr;rw[gg];have:=(h.2 q hq).2.1;lia) (by unfold xz;rw[gg];have:=h.1;lia) w (by rw[qeL];exact z)
 rw[qeM]at io;exact io
def qeN(hF:TurnOk F k fn io)(R)(h:za F R)(W)(B)(hW:W=.fz B\/W=.br B)(T)(hT:T[1]<=1000)(ah)(ha:AhOk ah)(L)(hL:L<=1000000)(hb:ah[1]<=L)(x6:Option Kd)(j7 j8 j9 O U:Option D):∃ i8 i9 Y Z:Option D,
  (Q0 io) [!W,!k[7],!fn[8],!(.lst T)[9],!(.dK ah)[9],!(grD F R)[8],x6.map λq=>En.ow (.dT q),j7.map En.fz,j8.map En.fz,j9.map En.fz,O.map En.fz,U.map En.fz]
  = .nx [!W,!k[7],!fn[8],!(.lst (T++[brT (qW F R ah)]))[9],!(.dK (qW F R ah).ah)[9],!(grD F R)[8],!(.dT (qW F R ah).kds)[9],!(brT (qW F R ah))[8],i8.map En.fz,i9.map En.fz,Y.map En.fz,Z.map En.fz]:=by
 have hz:sz=16777216:=rfl;have hR:∀ r∈R,∀ e∈r,GeOk F e:=λr hr=>(h.2 r hr).1
 have ln:=JM h.1 λr hr=>(h.2 r hr).2.1
 have r0:(bar0 R ah).rows.map D.lst=(R.map (gwD F)).map λ_=>D.lst []:=by
  show(R.map λ_=>[]).map D.lst=_
  simp
 obtain⟨⟨i8,i9,Y,Z,f⟩,t⟩:=UQ hF R hR ↑W (!(.lst T)[9]) L hL "" (jh (qO 0 (qU R))) [] (bar0 R ah) j8 j9 O U rfl (UR ha hb)
 rw[show(bar0 R ah).ah=ah from rfl,show(bar0 R ah).kds=[]from rfl,r0]at f
 refine#[i8,i9,Y,Z,?_];unfold Q0;rw[jv,show(qj 6 eDT) [!W,!k[7],!fn[8],!(.lst T)[9],!(.dK ah)[9],!(grD F R)[8],x6.map λq=>En.ow (.dT q),j7.map En.fz,j8.map En.fz,j9.map En.fz,O.map En.fz,U.map En.fz]=.nx [!W,!k[7],!fn[8],!(.lst T)[9],!(.dK ah)[9],!(grD F R)[8],!(.dT [])[9],j7.map En.fz,j8.map En.fz,j9.map En.fz,O.map En.fz,U.map En.fz]from rfl,jN]
 rw[jv,qdH (ds:=(R.map (gwD F)).map λ_=>D.lst []) (qdJ (ds:=R.map (gwD F)) (kK (w:=.fz (grD F R)) rfl rfl) (by rw[gg];have:=h.1;lia) (qdI adO 12 (λ_=>D.lst []) _ _ λd _=>#[.ow (.lst []),rfl,rfl])) (by rcases hW with z|z<;>(subst z;cases j7<;>cases j8<;>cases j9<;>cases O<;>cases U<;>rfl)),jN]
 simp only[fT,fV];have it:ji (qi wa [(q9 5)]) [!W,!k[7],!fn[8],!(.lst T)[9],!(.dK ah)[9],!(grD F R)[8],!(.dT [])[9],!(.od (.lst ((R.map (gwD F)).map λ_=>D.lst []))),j8.map En.fz,j9.map En.fz,O.map En.fz,U.map En.fz]=.ok ((jh (qO 0 (qU R))).map qM) :=
  vP (w:=.ow (.lst ((jh (qO 0 (qU R))).map qM))) (by simp![US R h _ (.inl rfl)]) rfl
 rw[jv,xW,it,zt,f];show(qY 3 (q9 7)) [!W,!k[7],!fn[8],!(.lst T)[9],!(.dK (qW F R ah).ah)[9],!(grD F R)[8],!(.dT (qW F R ah).kds)[9],!(brT (qW F R ah))[8],i8.map En.fz,i9.map En.fz,Y.map En.fz,Z.map En.fz]=_;rw[zz (xs:=T) (d:=brT (qW F R ah)) rfl "" rfl]
 rfl
def barsT(F:TF α):List (List (List (GE α)))->List (Sum Int Str×D)->List TS
 | [],_=>[]
 | R::Rs,ah=>qW F R ah::barsT F Rs (qW F R ah).ah
def qeO(z:TurnOk F k fn io)(R)(h:za F R)(ah)(B:AhOk ah)(L)(O:L<=1000000)(U:ah[1]<=L):TsOk L R (qW F R ah) (jh (qO 0 (qU R)))[1]:=by
 have hR:=λr hr=>(h.2 r hr).1
 have ln:=JM h.1 λr hr=>(h.2 r hr).2.1
 have:=(UQ z R hR none none L O "" (jh (qO 0 (qU R))) [] (bar0 R ah) none none none none rfl (UR B U)).2
 exact this
def qeP(Z:TurnOk F k fn io)(W)(B)(hW:W=.fz B\/W=.br B):∀ Rs T ah L (x5:Option D) (x6:Option Kd) (j7 j8 j9 z O:Option D),(∀ R∈Rs,za F R)->T[1]+Rs.length<=1000->AhOk ah->ah[1]<=L->L+4096*Rs.length<=1000000->∃ ρ,
  qC (gV 5) (Q0 io) (Rs.map (grD F)) [!W,!k[7],!fn[8],!(.lst T)[9],!(.dK ah)[9],x5.map En.fz,x6.map λq=>En.ow (.dT q),j7.map En.fz,j8.map En.fz,j9.map En.fz,z.map En.fz,O.map En.fz]=.nx ρ/\ρ[3]?=!(!(.lst (T++(barsT F Rs ah).map brT))[9]):=by
 intro Rs
 induction Rs with
 | nil=>intro T ah L x5 x6 j7 j8 j9 z O _ _ _ _ _;exact#[_,rfl,by simp[barsT]]
 | cons R Rs ih =>
  intro T ah L x5 x6 j7 j8 j9 z O hk hT ha hl hL;rw[gK]at hT hL;have h:=hk R "s"
  have ln:=JM h.1 λr hr=>(h.2 r hr).2.1
  obtain⟨i8,i9,U,Y,e⟩:=qeN Z R h W B hW T "" ah ha L "" hl x6 j7 j8 j9 z O
  have to:=qeO Z R h ah ha L "" hl
  obtain⟨ρ,e2,e3⟩:=ih (T++[brT (qW F R ah)]) (qW F R ah).ah (L+4096) (!(grD F R)) (!(qW F R ah).kds) (!(brT (qW F R ah))) i8 i9 U Y (λx hx=>hk x (gj _ hx)) (by rw[gG];simp;lia) to.ah (by have:=to.al;lia) ""
  refine#[ρ,?_,by rw[e3];simp[barsT]]
  rw[gN,zY (kJ)];simp[fT,fV];rw[e];exact e2
abbrev UT(io:IOF):SF:=(qe (qj 3 (jk []))
 (qe (qj 4 eDK)
 (qe (jB 0 (qJ (iV 0) (gV 5) (Q0 io)))
 (ju 3))))
def qeQ(O:TurnOk F k fn io)(Rs)(h:∀ R∈Rs,za F R)(U:Rs.length<=200)(w)(B:w=.fz (.lst (Rs.map (grD F)))\/w=.br (.lst (Rs.map (grD F)))) :
  den 12 (UT io) [w,.fz k[6],.fz fn]=.ok (.lst ((barsT F Rs []).map brT))[9]:=by
 obtain⟨ρ,e,e3⟩:=qeP O w (.lst (Rs.map (grD F))) B Rs [] [] 0 none none none none none none none h (by simp;lia) (λ_ z=>(by cases z)) (gy _) ""
 have it:iV 0 [!w,!k[7],!fn[8],!(.lst [])[9],!(.dK [])[9],none,none,none,none,none,none,none]=.ok (Rs.map (grD F)):=by rcases B with z|z<;>(subst z;rfl)
 have fr:kQ (!(!w)) 0 [!w,!k[7],!fn[8],!(.lst [])[9],!(.dK [])[9],none,none,none,none,none,none,none]=[!w,!k[7],!fn[8],!(.lst [])[9],!(.dK [])[9],none,none,none,none,none,none,none]:=by rcases B with z|z<;>(subst z;rfl)
 show fin (qe (qj 3 (jk [])) _ [!w,!k[7],!fn[8],none,none,none,none,none,none,none,none,none])=_;rw[jv,show(qj 3 (jk [])) [!w,!k[7],!fn[8],none,none,none,none,none,none,none,none,none]=.nx [!w,!k[7],!fn[8],!(.lst [])[9],none,none,none,none,none,none,none,none]from rfl,jN,jv,show(qj 4 eDK) [!w,!k[7],!fn[8],!(.lst [])[9],none,none,none,none,none,none,none,none]=.nx [!w,!k[7],!fn[8],!(.lst [])[9],!(.dK [])[9],none,none,none,none,none,none,none]from rfl,jN,jv,qbc,show([!w,!k[7],!fn[8],!(.lst [])[9],!(.dK [])[9],none,none,none,none,none,none,none])[0]?=↑(!w)from rfl,fr,xW,it,zt]
 have e:qC (gV 5) (Q0 io) (Rs.map (grD F)) [!w,!k[7],!fn[8],!(.lst [])[9],!(.dK [])[9],none,none,none,none,none,none,none]=.nx ρ:=e;rw[e,jN];unfold ju;rw[e3];rfl
def W2:GE α->Bool
 | .rest _=>false
 | .note _ _ t=>t
def qeR(T)(kds)(e):wp (!(gEv F T kds e))=W2 e:=by cases e<;>rfl
def cnt(z:List (List Int))(v:Nat):Nat:=(z.filter λt=>vof t==(v:Int))[1]
def W3(r:List (GE α))(c:Nat)(b:Bool):Bool:=match c with
 | 0=>b
 | c+1=>match r[c]? with|some e=>W2 e|none=>false
def Tr(R:List (List (GE α)))(ah:List (Sum Int Str×D))(z:List (List Int))(st:TS):Prop :=
 st.rows.length=R.length/\∀(v:Nat) (r:List (GE α)),R[v]?=!r->(st.rows.getD v [])[1]=cnt z v/\wp (look (Sum.inl (v:Int)) st.ah)=W3 r (cnt z v) (wp (look (Sum.inl (v:Int)) ah))
def tr_0(R:List (List (GE α)))(ah):Tr R ah [] (bar0 R ah):=by
 refine#[by show(R.map λ_=>[])[1]=_;rw[gg],λv r h=>#[?_,rfl]]
 show((R.map λ_=>[]).getD v [])[1]=0
 simp_all
def qeS(S1)(s)(v):cnt (S1++[s]) v=cnt S1 v+if vof s=v then 1 else 0:=by
 unfold cnt;by_cases c:vof s=v
 .simp_all
 simp_all
def W4{R:List (List (GE α))}(O:∀ r∈R,∀ e∈r,GeOk F e){ah:List (Sum Int Str×D)}{B U:List (List Int)}{s:List Int}{st:TS}(h:jh (qO 0 (qU R))=B++s::U)(t:Tr R ah B st):Tr R ah (B++[s]) (zh F R st s):=by
 obtain⟨q,v,n,r,e,e1,er,ee,en,_,sp⟩:=JK O h;rw[sp];obtain⟨tl,tt⟩:=t;have hv:v<st.rows.length:=by rw[tl];exact(gp.mp er).1
 have vs:vof s=v:=by subst e1;rfl
 refine#[by show(st.rows.set v _)[1]=_;rw[bq];exact tl,λu ru hu=>?_]
 obtain⟨a,b⟩:=tt u ru hu;rw[qeS];by_cases c:u=v
 .subst c;rw[er]at hu;cases hu;rw[if_pos vs];constructor
  .show((st.rows.set u _).getD u [])[1]=_;rw[tm,List.getElem?_set_self hv];show(st.rows.getD u []++[_])[1]=_;rw[gG,a];rfl
  show wp (look (Sum.inl (u:Int)) (qS (Sum.inl u) _ st.ah))=_;rw[JI,if_pos rfl,qeR];show _=(match r[cnt B u]? with|some e=>W2 e|none=>false)
  rw[show cnt B u=n from en.symm,ee]
 have ne:¬ (vof s=u):=by rw[vs];lia
 rw[if_neg ne];constructor
 .show((st.rows.set v _).getD u [])[1]=_;rw[tm,h9 (t9 c)];exact a
 show wp (look (Sum.inl (u:Int)) (qS (Sum.inl v) _ st.ah))=_;rw[JI,if_neg (by intro z;lia)]
 exact b
def qeT{R:List (List (GE α))}(z:∀ r∈R,∀ e∈r,GeOk F e){B:List (Sum Int Str×D)}:∀ S2 S1 st,jh (qO 0 (qU R))=S1++S2->Tr R B S1 st->∀(v n:Nat) x,(st.rows.getD v [])[n]?=!x->((S2.foldl (zh F R) st).rows.getD v [])[n]?=!x:=by
 intro S2
 induction S2 with
 | nil=>intro S1 st _ _ v n x h;exact h
 | cons s S2 ih =>
  refine λS1 st h t u n x hx=>ih (S1++[s]) (zh F R st s) (by rw[h];simp) (W4 z h t) u n x ?_
  obtain⟨q,v,m,r,e,e1,er,ee,en,_,sp⟩:=JK z h;rw[sp];have hv:v<st.rows.length:=by rw[t.1];exact(gp.mp er).1
  show((st.rows.set v _).getD u [])[n]?=!x;by_cases c:u=v
  .subst c;rw[tm,List.getElem?_set_self hv];show(st.rows.getD u []++[_])[n]?=_;rw[t4 (gp.mp hx).1];exact hx
  rw[tm,h9 (t9 c)];exact hx
def qeU{R:List (List (GE α))}(B:∀ r∈R,∀ e∈r,GeOk F e){ah:List (Sum Int Str×D)}{z O:List (List Int)}{s:List Int}{st:TS}(h:jh (qO 0 (qU R))=z++s::O)(t:Tr R ah z st)(Y:qW F R ah=(s::O).foldl (zh F R) st)
  {q:Int}{v n:Nat}{r:List (GE α)}{e:GE α}(Z:s=[q,(v:Int),n])(U:R[v]?=!r)(ee:r[n]?=!e):((qW F R ah).rows.getD v [])[n]?=!(gEv F (tOf st v) st.kds e)/\wp (look (Sum.inl (v:Int)) st.ah)=W3 r n (wp (look (Sum.inl (v:Int)) ah)):=by
 obtain⟨q',v',n',r',e',f1,f2,f3,f4,_,sp⟩:=JK B h;have z1:v=v':=""
 have z2:n=n':=""
 subst z1 z2;obtain⟨a,b⟩:=t.2 v r U;have cn:cnt z v=n:=f4.symm;rw[cn]at a b;refine#[?_,b];rw[Y];refine qeT B O (z++[s]) (zh F R st s) (by rw[h];simp) (W4 B h t) v n _ ?_
 rw[sp];have hv:v<st.rows.length:=by rw[t.1];exact(gp.mp U).1
 show((st.rows.set v _).getD v [])[n]?=_
 simp_all
theorem W5{R:List (List (GE α))}(z:∀ r∈R,∀ e∈r,GeOk F e){O:List (Sum Int Str×D)}:∀ A S1 B st,jh (qO 0 (qU R))=S1++(A++B)->Tr R O S1 st->Tr R O (S1++A) (A.foldl (zh F R) st)
 | [],S1,B,st,_,t=>by rw[tM];exact t
 | s::A,S1,B,st,h,t=>by
  have h1:=h;have:=W5 z A (S1++[s]) B (zh F R st s) (by rw[h1];simp) (W4 z h1 t)
  simpa using this
def qeV{R:List (List (GE α))}(z:∀ r∈R,∀ e∈r,GeOk F e)(ah):Tr R ah (jh (qO 0 (qU R))) (qW F R ah):=by
 have:=W5 z (jh (qO 0 (qU R))) [] [] (bar0 R ah) "s" (tr_0 R ah)
 exact this
def qeW{R:List (List (GE α))}(z:∀ r∈R,∀ e∈r,GeOk F e){v:Nat}{r:List (GE α)}(B:R[v]?=!r):cnt (jh (qO 0 (qU R))) v=r[1]:=by
 unfold cnt;rw[(VY (qU R) (JJ z) v (r.map gv) (by rw[gC,B];rfl)),JG,gg]
def W6{R:List (List (GE α))}(z:∀ r∈R,∀ e∈r,GeOk F e)(ah):(qW F R ah).rows.length=R.length/\∀ v r,R[v]?=!r->((qW F R ah).rows.getD v [])[1]=r[1]/\wp (look (Sum.inl (v:Int)) (qW F R ah).ah)=W3 r r[1] (wp (look (Sum.inl (v:Int)) ah)):=by
 obtain⟨a,b⟩:=qeV z ah;refine#[a,λv r er=>?_]
 obtain⟨c,d⟩:=b v r er;rw[qeW z er]at c d;exact#[c,d]
theorem UU(v):∀ r p n (i:Nat),i<r[1]->∃ q,(jz v p n r)[i]?=↑[q,v,n+i]
 | [],_,_,_,hz=>by simp at hz
 | x::r,p,n,0,h=>#[p,by simp[jz]]
 | x::r,p,n,i+1,h=>by
  obtain⟨q,e⟩:=UU v r (p+x) (n+1) i h[""]
  exact#[q,by rw[jz,cC,e];simp;lia]
def qeX{R:List (List (GE α))}(z:∀ r∈R,∀ e∈r,GeOk F e){v n:Nat}{r:List (GE α)}(B:R[v]?=!r)(O:n<r[1]):∃ q S1 S2,jh (qO 0 (qU R))=S1++[q,(v:Int),n]::S2:=by
 obtain⟨q,e⟩:=UU v (r.map gv) 0 0 n (by rw[gg];exact O)
 rw[bH]at e;have m:[q,v,n]∈jh (qO 0 (qU R)):=by
  have:[q,v,n]∈(jh (qO 0 (qU R))).filter λs=>vof s==v:=by
   rw[(VY (qU R) (JJ z) v (r.map gv) (by rw[gC,B];rfl))]
   exact t8 e
  simp_all
 obtain⟨S1,S2,h⟩:=List.append_of_mem m;exact#[q,S1,S2,h]
def qeY{R:List (List (GE α))}(z:∀ r∈R,∀ e∈r,GeOk F e)(ah){v n:Nat}{r:List (GE α)}{e:GE α}(B:R[v]?=!r)(O:r[n]?=!e):∃ T kds,((qW F R ah).rows.getD v [])[n]?=!(gEv F T kds e):=by
 obtain⟨q,S1,S2,h⟩:=qeX z B (gp.mp O).1;have ht:qW F R ah=([q,v,n]::S2).foldl (zh F R) (S1.foldl (zh F R) (bar0 R ah)):=by
  unfold qW
  simp_all
 exact#[_,_,(qeU z h (W5 z S1 [] ([q,v,n]::S2) (bar0 R ah) (by rw[pj];exact h) (tr_0 R ah)) ht rfl B O).1]
end
structure H3 where
 m:Nat
 o:Int
 s:Option Int
def sD:Option Int->D
 | none=>.non
 | some n=>.int n
def h3D(h:H3):D:=.tup [.str (fcg h.m),.int h.o,sD h.s]
abbrev io0:IOF:=eIOV 2 "heads_of" Jr 6 [(eOp qc (q9 10) 2[5]),(q9 11)] [(q9 1)]
def isT:D->Bool
 | .non=>false
 | _=>true
def FH(k:Int):TF (List Int):=#[λps=>.tup (ps.map D.int),λps T kds=>.tup (zP (isT T) k kds ps),λps T kds=>zO (isT T) k kds ps,PsOk]
theorem qeZ(k:Int):TurnOk (FH k) k (dFn "heads_of") io0 where
 run:=λR0 B A ah br kds O v va x t T hx hT hk hl=>by
  have hn:zK T .non=.ok (.bl (not (isT T)))[8]:=by rcases hT with z|⟨hs,z⟩<;>(subst z;rfl)
  exact qeI rfl (qeH rfl rfl rfl rfl rfl rfl (qcu λa=>qev a T (isT T) k hn x kds hk (by have:x[1]<=24:=hx.2.1;lia)))
 ki:=λx T kds hx hT hk=>by
  obtain⟨a,b⟩:=VW (isT T) k x kds hk;have:x[1]<=24:=hx.2.1;exact#[a,by show(zO (isT T) k kds x)[1]<=_;lia]
 tp:=λx T kds _ _ _=>#[_,rfl]
def FP(_:Int):TF (List H3):=#[λhs=>.tup (hs.map h3D),λ_ T _=>T,λ_ _ kds=>kds,λhs=>hs[1]<=24/\∀ h∈hs,h.m<7]
def hd3(kds:Kd)(go:Bool)(p k:Int):H3:=#[ltN p k,ocN p k,if wr kds go p k=true then !(alN p k)else none]
def qf0(kds)(go)(p k):h3D (hd3 kds go p k)=hdH kds go p k:=by
 unfold hd3 hdH;cases c:wr kds go p k<;>rfl
def hds3(go:Bool)(k:Int):Kd->List Int->List H3
 | _,[]=>[]
 | kds,p::ps=>hd3 kds go p k::hds3 go k (hdK kds go p k) ps
theorem W7(go)(k):∀ ps kds,(hds3 go k kds ps).map h3D=zP go k kds ps
 | [],_=>rfl
 | p::ps,kds=>by rw[hds3,zP,gN,qf0,W7 go k ps]
theorem JO(go)(k):∀ ps kds,(hds3 go k kds ps)[1]=ps[1]/\∀ h∈hds3 go k kds ps,h.m<7
 | [],_=>#[rfl,λ_ h=>by cases h]
 | p::ps,kds=>by
  obtain⟨a,b⟩:=JO go k ps (hdK kds go p k);refine#[by rw[hds3,gK,gK,a],λh hh=>?_]
  rcases gE.mp hh with z|z
  .subst z;exact vS p k
  exact b h z
def v6(x:Str):Nat:=if x=fcg 0 then 0 else if x=fcg 1 then 1 else if x=fcg 2 then 2 else if x=fcg 3 then 3 else if x=fcg 4 then 4 else if x=fcg 5 then 5 else 6
theorem Q1:∀ m,m<7->v6 (fcg m)=m
 | 0,_=>by decide
 | 1,_=>by decide
 | 2,_=>by decide
 | 3,_=>by decide
 | 4,_=>by decide
 | 5,_=>by decide
 | 6,_=>by decide
 | n+7,h=>absurd h ""
def Q2:D->H3
 | .tup [.str x,.int o,.int n]=>#[v6 x,o,!n]
 | .tup [.str x,.int o,_]=>#[v6 x,o,none]
 | _=>#[0,0,none]
def qf1(h)(z:h.m<7):Q2 (h3D h)=h:=by
 obtain⟨m,o,s⟩:=h;have e:=Q1 m z;cases s with
 | none=>show(#[v6 (fcg m),o,none]:H3)=_;rw[e]
 | some n=>show(#[v6 (fcg m),o,!n]:H3)=_;rw[e]
def dec:D->GE (List H3)
 | .tup [_,.int v]=>.rest v
 | .tup [_,.int v,.tup hs,.bl t]=>.note v (hs.map Q2) t
 | _=>.rest 0
def hEv(k:Int)(T:D)(kds:Kd):GE (List Int)->GE (List H3)
 | .rest v=>.rest v
 | .note v ps t=>.note v (hds3 (isT T) k kds ps) t
def W8(k)(T)(kds)(e):dec (gEv (FH k) T kds e)=hEv k T kds e:=by
 cases e with
 | rest v=>rfl
 | note v ps t =>
  show GE.note v ((zP (isT T) k kds ps).map Q2) t=GE.note v (hds3 (isT T) k kds ps) t;rw[<- W7,gH];congr 1;have:∀ l:List H3,(∀ h∈l,h.m<7)->l.map (Q2∘h3D)=l:=by
   intro l
   induction l with
   | nil=>intro _;rfl
   | cons a l ih =>
    intro h;rw[gN,ih λx hx=>h x (gj _ hx)]
    show Q2 (h3D a)::l=_;rw[qf1 a (h a "s")]
  exact this _ (JO (isT T) k ps kds).2
def qf2(k)(T)(kds)(e):geD (FP k) (hEv k T kds e)=gEv (FH k) T kds e:=by
 cases e with
 | rest v=>rfl
 | note v ps t =>
  show D.tup [.str "note",.int v,.tup ((hds3 (isT T) k kds ps).map h3D),.bl t]=_;rw[W7];rfl
def qf3(k)(T)(kds)(e):gv (hEv k T kds e)=gv e:=by cases e<;>rfl
def qf4(k)(T)(kds)(e)(h:GeOk (FH k) e):GeOk (FP k) (hEv k T kds e):=by
 cases e with
 | rest v=>exact h
 | note v ps t =>
  have l3:=h.2.2.1;obtain⟨a,b⟩:=JO (isT T) k ps kds;exact#[h.1,"",b]
def Qof(k:Int)(R:List (List (GE (List Int))))(z:List (Sum Int Str×D)):List (List (GE (List H3))):=(qW (FH k) R z).rows.map (·.map dec)
def UV{R:List (List (GE (List Int)))}(O:∀ r∈R,∀ e∈r,GeOk (FH k) e)(ah){v:Nat}{r:List (GE (List Int))}(B:R[v]?=!r) :
  ∃ z,(qW (FH k) R ah).rows[v]?=!z/\z[1]=r[1]/\(Qof k R ah)[v]?=!(z.map dec)/\∀(n:Nat) e,r[n]?=!e->∃ T kds,z[n]?=!(gEv (FH k) T kds e):=by
 obtain⟨a,b⟩:=W6 O ah;have hv:v<(qW (FH k) R ah).rows.length:=by rw[a];exact(gp.mp B).1
 have e1:=gw hv;have gd:(qW (FH k) R ah).rows.getD v []=(qW (FH k) R ah).rows[v]:=by rw[tm,e1];rfl
 refine#[_,e1,by rw[<- gd];exact(b v r B).1,by unfold Qof;rw[gC,e1];rfl,λn e ee=>?_]
 obtain⟨T,kds,f⟩:=qeY O ah B ee;rw[gd]at f;exact#[T,kds,f]
def UW{R:List (List (GE (List Int)))}(z:∀ r∈R,∀ e∈r,GeOk (FH k) e)(ah):(Qof k R ah)[1]=R.length:=by
 unfold Qof;rw[gg,(W6 z ah).1]
def UX{β:Type}(g)(g':GE (List Int)->β){k:Int}(O:∀ T kds e,g (hEv k T kds e)=g' e){R:List (List (GE (List Int)))}(B:∀ r∈R,∀ e∈r,GeOk (FH k) e)(ah):(Qof k R ah).map (·.map g)=R.map (·.map g'):=by
 apply dO;intro v;rw[gC,gC];cases er:R[v]? with
 | none =>
  have:(Qof k R ah)[v]?=none:=by
   rw[List.getElem?_eq_none_iff]at er ⊢;rw[UW B ah];exact er
  rw[this];rfl
 | some r =>
  obtain⟨z,e1,e2,e3,e4⟩:=UV B ah er;rw[e3];show ↑((z.map dec).map g)=!(r.map g');congr 1;apply dO;intro n;rw[gC,gC,gC];cases ee:r[n]? with
  | none =>
   simp_all
  | some e =>
   obtain⟨T,kds,f⟩:=e4 n e ee;rw[f];show ↑(g (dec (gEv (FH k) T kds e)))=!(g' e);rw[W8,O]
def qf5{R:List (List (GE (List Int)))}(z:∀ r∈R,∀ e∈r,GeOk (FH k) e)(ah):qU (Qof k R ah)=qU R:=UX gv gv (qf3 k) z ah
def Q_ev{R:List (List (GE (List Int)))}(U:∀ r∈R,∀ e∈r,GeOk (FH k) e)(ah){z:List D}(Y:z∈(qW (FH k) R ah).rows):∃ r∈R,z[1]=r[1]/\∀ d∈z,∃ T kds,∃ e∈r,d=gEv (FH k) T kds e:=by
 obtain⟨v,hv,e0⟩:=tw.mp Y;have B:v<R.length:=by rw[<- (W6 U ah).1];exact hv
 obtain⟨O,e1,e2,e3,e4⟩:=UV U ah (gw B);have:O=z:=by
  simp_all
 subst this;refine#[R[v],tR B,e2,λd hd=>?_]
 obtain⟨n,hn,en⟩:=tw.mp hd;obtain⟨T,kds,f⟩:=e4 n _ (gw "")
 rw[gw hn,en]at f;exact#[T,kds,R[v][n],tR _,tG f]
def Q_D{R:List (List (GE (List Int)))}(O:∀ r∈R,∀ e∈r,GeOk (FH k) e)(ah):grD (FP k) (Qof k R ah)=brT (qW (FH k) R ah):=by
 unfold grD Qof;rw[gH];congr 1;apply gZ;intro B hm;show D.lst ((B.map dec).map (geD (FP k)))=D.lst B;rw[gH];congr 1;obtain⟨r,_,_,h⟩:=Q_ev O ah hm;refine Eq.trans (gZ λd hd=>?_) (List.map_id' _)
 obtain⟨T,kds,e,_,z⟩:=h d hd;subst z;show geD (FP k) (dec (gEv (FH k) T kds e))=_;rw[W8,qf2]
def Q_ok{R:List (List (GE (List Int)))}(h:za (FH k) R)(ah):za (FP k) (Qof k R ah):=by
 have hR:=λr hr=>(h.2 r hr).1
 refine#[by rw[UW hR ah];exact h.1,λrq hq=>?_]
 obtain⟨B,hm,e0⟩:=gJ.mp hq;obtain⟨r,hr,hl,he⟩:=Q_ev hR ah hm;obtain⟨a,b,c⟩:=h.2 r hr;subst e0;refine#[λx hx=>?_,by rw[gg];lia]
 obtain⟨d,hd,ed⟩:=gJ.mp hx;obtain⟨T,kds,e,me,z⟩:=he d hd;subst z;subst ed;rw[W8];exact qf4 k T kds e (a e me)
def gOf:Ev->GE (List Int)
 | .rest v=>.rest v
 | .note v ps t=>.note v ps t
def gR(R:List (List Ev)):List (List (GE (List Int))):=R.map (·.map gOf)
def qf6(k)(e):geD (FH k) (gOf e)=evD e:=by cases e<;>rfl
def gR_D(k)(R):grD (FH k) (gR R)=brD R:=by
 unfold grD gR;rw[gH];congr 1;apply gZ;intro r _;show D.lst ((r.map gOf).map (geD (FH k)))=D.lst (r.map evD);rw[gH];congr 1;apply gZ;exact λe _=>qf6 k e
def qf7(k)(R)(h:R.length<=8/\∀ r∈R,PRow r):za (FH k) (gR R):=by
 refine#[by unfold gR;rw[gg];exact h.1,λr hr=>?_]
 obtain⟨q,hq,e⟩:=gJ.mp hr;subst e;obtain⟨a,b,c⟩:=h.2 q hq;refine#[λx hx=>?_,by rw[gg];exact b,by rw[gg];exact c]
 obtain⟨y,hy,ey⟩:=gJ.mp hx;subst ey;have:=a y hy;cases y with
 | rest v=>exact this
 | note v ps t=>exact this
def QsOf(k:Int):List (List (List Ev))->List (Sum Int Str×D)->List (List (List (GE (List H3))))
 | [],_=>[]
 | R::Rs,ah=>Qof k (gR R) ah::QsOf k Rs (qW (FH k) (gR R) ah).ah
theorem Qs_D(k):∀ Rs ah,(∀ R∈Rs,za (FH k) (gR R))->(QsOf k Rs ah).map (grD (FP k))=(barsT (FH k) (Rs.map gR) ah).map brT/\∀ Q∈QsOf k Rs ah,za (FP k) Q
 | [],_,_=>#[rfl,λ_ z=>by cases z]
 | R::Rs,ah,h=>by
  have hR:=h R "s"
  obtain⟨a,b⟩:=Qs_D k Rs (qW (FH k) (gR R) ah).ah λx hx=>h x (gj _ hx)
  refine#[?_,λQ hQ=>?_]
  .rw[QsOf,gN,gN,barsT,gN,a,Q_D λr hr=>(hR.2 r hr).1]
  rcases gE.mp hQ with z|z
  .subst z;exact Q_ok hR ah
  exact b Q z
theorem W9{p:Int->Prop}:∀ ys,(∀ y∈ys,∃ n,y=.int n/\p n)->∃ xs:List Int,ys=xs.map D.int/\(∀ x∈xs,p x)/\xs[1]=ys[1]
 | [],_=>#[[],rfl,λ_ h=>(by cases h),rfl]
 | y::ys,h=>by
  obtain⟨n,e,hp⟩:=h y "s"
  obtain⟨xs,e2,hq,hl⟩:=W9 ys λz hz=>h z (gj _ hz)
  refine#[n::xs,by rw[e,e2];rfl,λx hx=>?_,by simp[hl]]
  grind
def Wa{it:IF}{i:Nat}{ds:List D}(p:Int->Prop)(h:it ρ=.ok ds)(B:ds[1]<=sz)(O:∀ d∈ds,∃ n,e ((jc 1 ρ).set i (!d[8]))=.ok n[7]/\p n) :
  ∃ xs:List Int,qV 1 it (gV i) jg e ρ=.ok (.lst (xs.map D.int))[9]/\(∀ x∈xs,p x)/\xs[1]=ds[1]:=by
 classical
 let f:D->D:=λd=>if g:∃ n,e ((jc 1 ρ).set i (!d[8]))=.ok n[7]/\p n then .int g.choose else .non
 have q:∀ d∈ds,e ((jc 1 ρ).set i (!d[8]))=.ok (f d)[8]/\∃ n,f d=.int n/\p n:=λd hd=>by
  have g:=O d hd;have fe:f d=.int g.choose:=dif_pos g;rw[fe];exact#[g.choose_spec.1,_,rfl,g.choose_spec.2]
 obtain⟨xs,e2,hp,l2⟩:=W9 (ds.map f) λy hy=>by
  obtain⟨d,hd,z⟩:=gJ.mp hy;rw[<- z];exact(q d hd).2
 refine#[xs,?_,hp,by rw[l2,gg]]
 rw[yv h B (kE i f _ _ λd hd=>#[_,(q d hd).1,rfl]),e2]
def gh:GE (List H3)->Nat
 | .rest _=>0
 | .note _ hs _=>hs[1]
def ghR(r:List (GE (List H3))):Nat:=(r.map gh).sum
def Wb:D->Bool
 | .tup [_,_,s]=>(match s with|.non=>false|_=>true)
 | _=>false
def qf8(i)(B:List H3)(U:B[1]<=24)(it)(ρ)(hi:it ρ=.ok (B.map h3D))(O:ρ.length=i) :
  ∃ ds,ds[1]<=B[1]/\qV 1 it (gV i) (tE (eOp wI (eOp qc (q9 i) 2[5]) (eC .non))) (q9 i) ρ=.ok (.lst ds)[9]:=by
 have hz:sz=16777216:=rfl;have at_:∀ d,((jc 1 ρ).set i (!d[8]))[i]?=!(!d[8]):=λd=>List.getElem?_set_self (by unfold jc;simp;lia)
 refine#[((B.map h3D).filter Wb).map id,by rw[gg];exact tV (List.length_filter_le _ _) "s",yv hi (by rw[gg];lia) (Qr i Wb id _ _ λd hd=>?_)]
 obtain⟨h,hh,he⟩:=gJ.mp hd;subst he;have v:(q9 i) ((jc 1 ρ).set i (!(h3D h)[8]))=.ok (h3D h)[8]:=by rw[yw,at_];rfl
 refine#[?_,λ_=>#[_,v,rfl]]
 have i2:qc (h3D h) 2[6]=.ok (sD h.s)[8]:=rfl;have z:wI (sD h.s) .non=.ok (.bl (Wb (h3D h)))[8]:=by
  unfold h3D;cases h.s<;>rfl
 rw[yw]at v;simp![v,i2,z]
def UY(N)(k)(BODY)(R0)(P:List (List (GE (List H3)))->En->Prop)
  (step:∀ pre r w j3,P pre w->pre[1]<N->JN (FP k) r->∃ w' i3,qC (gV 3) BODY (r.map (geD (FP k))) [R0,!w,!(gwD (FP k) r)[8],j3]=.nx [R0,!w',!(gwD (FP k) r)[8],i3]/\P (pre++[r]) w') :
  ∀ Q pre w j2 j3,P pre w->pre[1]+Q[1]<=N->(∀ r∈Q,JN (FP k) r)->∃ w' i2 i3,qC (gV 2) (jB 2 (qJ (iV 2) (gV 3) BODY)) (Q.map (gwD (FP k))) [R0,!w,j2,j3]=.nx [R0,!w',i2,i3]/\P (pre++Q) w':=by
 intro Q
 induction Q with
 | nil=>intro pre w j2 j3 h _ _;exact#[w,j2,j3,rfl,by rw[tM];exact h]
 | cons r Q ih =>
  intro pre w j2 j3 h hN hk;rw[gK]at hN;obtain⟨w1,i3,q,p1⟩:=step pre r w j3 h "" (hk r "s")
  obtain⟨w2,k2,k3,q2,p2⟩:=ih (pre++[r]) w1 (!(gwD (FP k) r)[8]) i3 p1 (by rw[gG,fO];lia) λx hx=>hk x (gj _ hx)
  refine#[w2,k2,k3,?_,by rw[t7]at p2;exact p2]
  rw[gN,zY (kJ)];simp[fT,fV];rw[<- q2];have e:(jB 2 (qJ (iV 2) (gV 3) BODY)) [R0,!w,!(gwD (FP k) r)[8],j3]=.nx [R0,!w1,!(gwD (FP k) r)[8],i3]:=by
   assumption
  rw[e,yc]
def UZ(k v)(hs)(t)(R0 W R2):ji (eOp qc (q9 3) 2[5]) [R0,W,R2,!(geD (FP k) (.note v hs t))[8]]=.ok (hs.map h3D):=by
 rfl
def qf9(k v)(hs)(t)(R0 W R2):(tE (eOp dEq (eOp qc (q9 3) 0[5]) (eC (.str "note")))) [R0,W,R2,!(geD (FP k) (.note v hs t))[8]]=.ok true:=by
 have i0:qc (geD (FP k) (.note v hs t)) 0[6]=.ok (.str "note")[8]:=rfl;simp![i0,Uj]
def qfa(k v)(R0 W R2):(tE (eOp dEq (eOp qc (q9 3) 0[5]) (eC (.str "note")))) [R0,W,R2,!(geD (FP k) (.rest v))[8]]=.ok false:=by
 have i0:qc (geD (FP k) (.rest v)) 0[6]=.ok (.str "rest")[8]:=rfl;simp![i0,Ui]
def M3(N)(k)(ST)(R0 R2)(P:List (GE (List H3))->En->Prop)(B:∀ pre v w,P pre w->P (pre++[.rest v]) w)
  (step:∀ pre v hs t w,P pre w->pre[1]<N->GeOk (FP k) (.note v hs t)->∃ w',ST [R0,!w,R2,!(geD (FP k) (.note v hs t))[8]]=.nx [R0,!w',R2,!(geD (FP k) (.note v hs t))[8]]/\P (pre++[.note v hs t]) w') :
  ∀ r pre w j3,P pre w->pre[1]+r[1]<=N->(∀ e∈r,GeOk (FP k) e)->∃ w' i3,qC (gV 3) (sIf (tE (eOp dEq (eOp qc (q9 3) 0[5]) (eC (.str "note")))) ST qr) (r.map (geD (FP k))) [R0,!w,R2,j3]=.nx [R0,!w',R2,i3]/\P (pre++r) w':=by
 intro r
 induction r with
 | nil=>intro pre w j3 h _ _;exact#[w,j3,rfl,by rw[tM];exact h]
 | cons e r ih =>
  intro pre w j3 h hN hk;rw[gK]at hN;rw[gN,zY (kJ)];simp only[fT,fV];have z:=λx hx=>hk x (gj _ hx)
  cases e with
  | rest v =>
   obtain⟨w2,i3,q,p⟩:=ih (pre++[.rest v]) w (!(geD (FP k) (.rest v))[8]) (B pre v w h) (by rw[gG,fO];lia) z
   rw[t7]at p;exact#[w2,i3,by rw[kI,qfa,zt,Zv,Zw,yc,q],p]
  | note v hs t =>
   obtain⟨w1,s,p1⟩:=step pre v hs t w h "" (hk (.note v hs t) "s")
   obtain⟨w2,i3,q,p⟩:=ih (pre++[.note v hs t]) w1 (!(geD (FP k) (.note v hs t))[8]) p1 (by rw[gG,fO];lia) z
   rw[t7]at p;exact#[w2,i3,by rw[kI,qf9,zt,Yj,s,yc,q],p]
def M4(pre)(e):ghR (pre++[e])=ghR pre+gh e:=by unfold ghR;simp
def qfb(k)(Q)(h:za (FP k) Q):∃ n:Nat,Jc [.fz (grD (FP k) Q)]=.ok n[7]/\n<=(Q.map ghR).sum:=by
 obtain⟨w,i2,i3,q,n,rfl,hn⟩:=UY 8 k (sIf (tE (eOp dEq (eOp qc (q9 3) 0[5]) (eC (.str "note")))) (jU 1 zI (eB qA [(qV 1 (ji (eOp qc (q9 3) 2[5])) (gV 4) (tE (eOp wI (eOp qc (q9 4) 2[5]) (eC .non))) (q9 4))])) qr) (!(grD (FP k) Q)[8])
  (λpre w=>∃ n:Nat,w=.fz n[6]/\n<=(pre.map ghR).sum) (λpre r w j3 #[n,hw,hn] _ hr=>by
   subst hw;obtain⟨w',i3,q,n',z,B⟩:=M3 512 k (jU 1 zI (eB qA [(qV 1 (ji (eOp qc (q9 3) 2[5])) (gV 4) (tE (eOp wI (eOp qc (q9 4) 2[5]) (eC .non))) (q9 4))])) (!(grD (FP k) Q)[8]) (!(gwD (FP k) r)[8])
    (λp w=>∃ m:Nat,w=.fz m[6]/\m<=n+ghR p) (λp v w #[m,a,b]=>#[m,a,by rw[M4];show m<=n+(ghR p+0);lia]) (λp v hs t w #[m,a,b] _ ok=>by
     subst a;obtain⟨ds,dl,cm⟩:=qf8 4 hs ok.2.1 _ _ (UZ k v hs t (!(grD (FP k) Q)[8]) (!m[7]) (!(gwD (FP k) r)[8])) rfl;refine#[.fz (m+ds[1]:Nat)[6],?_,m+ds[1],rfl,by rw[M4];show m+ds[1]<=n+(ghR p+hs[1]);lia]
     simp![cm];rfl) r [] n[7] j3 #[n,rfl,""] (by rw[fH];have:=hr.2.1;lia) hr.1
   refine#[w',i3,q,n',z,?_];rw[pj]at B;simp;lia) Q [] 0[7] none none #[0,rfl,tK _] (by rw[fH];have:=h.1;lia) h.2
 refine#[n,?_,hn];unfold Jc KD;left;rw[Zy rfl];left;rw[q];left
theorem M5:∀(ns σ:List Int),σ.Nodup->(ns.foldl step_dedup σ).Nodup/\∀ x,x∈ns.foldl step_dedup σ->x∈σ\/x∈ns
 | [],σ,h=>#[h,λx hx=>.inl hx]
 | n::ns,σ,h=>by
  have st:(step_dedup σ n).Nodup/\∀ x,x∈step_dedup σ n->x∈σ\/x=n:=by
   unfold step_dedup;by_cases c:(σ.any (·==n))=true
   .rw[if_pos c];exact#[h,λx z=>.inl z]
   rw[if_neg c];refine#[fj.mpr #[h,by simp,λa ha b hb e=>?_],λx=>by simp]
   simp_all
  obtain⟨a,b⟩:=M5 ns (step_dedup σ n) st.1
  grind
def qfc(z:List Int)(L:Nat)(h:∀ x∈z,0<=x/\x<L):(yF z)[1]<=L:=by
 obtain⟨a,b⟩:=M5 z [] List.Pairwise.nil;have:=Jz (m:=(List.range L).map λt:Nat=>(t:Int)) a λx hx=>by
  obtain⟨h0,h1⟩:=h x ((b x hx).resolve_left "s")
  obtain⟨t,rfl⟩:=pB h0;exact gJ.mpr #[t,dP.mpr "",rfl]
 rw[gg,cV]at this;exact this
theorem M6:∀(r:List Int),(∀ x∈r,1<=x)->0<=r.sum
 | [],_=>by simp
 | x::r,h=>by
  have:=h x "s"
  have:=M6 r λy hy=>h y (gj _ hy)
  rw[pD];lia
theorem M7(v):∀ r p n,(∀ x∈r,1<=x)->∀ s∈jz v p n r,p<=s.headD 0/\s.headD 0<p+r.sum
 | [],_,_,_,_,hs=>by cases hs
 | x::r,p,n,h,s,hs=>by
  have h1:=h x "s"
  have h2:=λy hy=>h y (gj _ hy)
  have nn:=M6 r h2;rw[pD];rcases gE.mp hs with z|z
  .subst z;show p<=p/\p<_;lia
  have:=M7 v r (p+x) (n+1) h2 s z;lia
theorem M8(L):∀ rs v,(∀ r∈rs,(∀ x∈r,1<=x)/\r.sum<=L)->∀ s∈qO v rs,0<=s.headD 0/\s.headD 0<L
 | [],_,_,_,hs=>by cases hs
 | r::rs,v,h,s,hs=>by
  rcases gD.mp hs with z|z
  .have a:=h r "s"
   have:=M7 v r 0 0 a.1 s z;lia
  exact M8 L rs (v+1) (λx hx=>h x (gj _ hx)) s z
def M9:D->D
 | .tup (.int p::_)=>.int p
 | _=>.non
def qfd(k)(Q)(h:za (FP k) Q)(L:Nat)(O:∀ r∈qU Q,r.sum<=L):∃ w,y8 [.fz (grD (FP k) Q)]=.ok w[7]/\1<=w/\w<=4+3*L+(Q.map ghR).sum:=by
 have hz:sz=16777216:=rfl;have io:=US (F:=FP k) Q h (grD (FP k) Q)[8] (.inl rfl);have vp:∀ r∈qU Q,∀ x∈r,1<=x:=JJ (F:=FP k) λr hr=>(h.2 r hr).1
 have pm:=wG (qO 0 (qU Q));have ln:=JM h.1 λr hr=>(h.2 r hr).2.1
 obtain⟨n,sg,sl⟩:=qfb k Q h;generalize hS:jh (qO 0 (qU Q))=S at *;have cm:(qV 1 (ji (qi wa [(q9 0)])) (gV 2) jg (eOp qc (q9 2) 0[5])) [!(grD (FP k) Q)[8],none]=.ok (.lst ((S.map (·.headD 0)).map D.int))[9]:=by
  have it:ji (qi wa [(q9 0)]) [!(grD (FP k) Q)[8],none]=.ok (S.map qM):=vP (w:=.ow (.lst (S.map qM))) (by simp![io]) rfl
  rw[yv (ds:=S.map qM) (ys:=(S.map qM).map M9) it (by rw[gg];lia) (kE 2 M9 _ _ λd hd=>?_)]
  .congr 3;rw[gH,gH];apply gZ;intro r hr;obtain⟨q,u,m,e,_⟩:=xy _ _ _ (pm.mem_iff.mp hr);subst e;rfl
  obtain⟨r,hr,B⟩:=gJ.mp hd;subst B;obtain⟨q,u,m,e,_⟩:=xy _ _ _ (pm.mem_iff.mp hr);subst e;refine#[.fz q[6],?_,rfl];rfl
 have dl:=qfc (S.map (·.headD 0)) L λx hx=>by
  obtain⟨s,hs,z⟩:=gJ.mp hx;subst z;exact M8 L (qU Q) 0 (λr hr=>#[vp r hr,O r hr]) s (pm.mem_iff.mp hs)
 have ls:QY (.lst ((S.map (·.headD 0)).map D.int))=.ok ((yF (S.map (·.headD 0)))[1])[7]:=by
  unfold QY;dsimp only;rw[JF]
  simp_all
 have m3:=yy (i:=3) (j:=((yF (S.map (·.headD 0)))[1])) "d" "d"
 refine#[4+3*((yF (S.map (·.headD 0)))[1])+n,?_,"",""]
 unfold y8 KW;simp![ZX,cm,ls,Vb,Vc,m3,sg]
def Wc:Nat->Int
 | 0=>37|1=>31|_=>25
theorem qfe:∀ c:Nat,c<3->okD (ati [D.int 37,.int 31,.int 25] c)=.ok (Wc c)[7]
 | 0,_=>rfl
 | 1,_=>rfl
 | 2,_=>rfl
 | n+3,h=>absurd h ""
def Ma:vQ (.tup xs) i[6]=okD (ati xs i):=rfl
def qff(st)(c:Nat)(z:c<3):∃ n,uu [.fz st[6],.fz c[6]]=.ok n[7]/\True:=by
 obtain⟨m,m3⟩:∃ m,ZM [.int (st-Wc c-8),.int (Wc c-st),.int 0]=.ok m[7]:=#[_,rfl];refine#[m/2,?_,trivial];unfold uu Kv;simp![V3,V4,(qfe c z),m3];rfl
theorem qfg:∀ m,m<7->∃ k,wY (.str "CDEFGAB") (.str (fcg m))=.ok k[7]
 | 0,_=>#[3,by kernel_rfl]
 | 1,_=>#[0,by kernel_rfl]
 | 2,_=>#[4,by kernel_rfl]
 | 3,_=>#[1,by kernel_rfl]
 | 4,_=>#[5,by kernel_rfl]
 | 5,_=>#[2,by kernel_rfl]
 | 6,_=>#[6,by kernel_rfl]
 | n+7,h=>absurd h ""
def qfh(h)(z:h.m<7):∃ n,yJ [.fz (h3D h)]=.ok n[7]/\True:=by
 obtain⟨k,e⟩:=qfg h.m z;refine#[7*h.o+k,?_,trivial];unfold yJ Ku;simp![h3D,Ma,yy (i:=7) "d" "d",V2,e]
def qfi(k)(Q)(h:za (FP k) Q):∃ xs:List Int,uC [.fz (grD (FP k) Q)]=.ok (.lst (xs.map D.int))[9]/\xs[1]<=100000:=by
 have hz:sz=16777216:=rfl;have hq:=h.1;obtain⟨w,i2,i3,q,xs,rfl,hn⟩:=UY 8 k (sIf (tE (eOp dEq (eOp qc (q9 3) 0[5]) (eC (.str "note")))) (vF 1 (qV 1 (ji (eOp qc (q9 3) 2[5])) (gV 4) jg (qi yJ [(q9 4)]))) qr) (!(grD (FP k) Q)[8])
  (λpre w=>∃ xs,w=.ow (.lst (xs.map D.int))/\xs[1]<=12288*pre[1]) (λpre r w j3 #[xs,hw,hn] p8 hr=>by
   subst hw;have rl:=hr.2.1;obtain⟨w',i3,q,ys,B,O⟩:=M3 512 k (vF 1 (qV 1 (ji (eOp qc (q9 3) 2[5])) (gV 4) jg (qi yJ [(q9 4)]))) (!(grD (FP k) Q)[8]) (!(gwD (FP k) r)[8])
    (λp w=>∃ ys,w=.ow (.lst (ys.map D.int))/\ys[1]<=xs[1]+24*p[1]) (λp v w #[m,a,b]=>#[m,a,by rw[gG];lia]) (λp v hs t w #[ys,a,b] p5 ok=>by
     subst a;have U:=ok.2.1;obtain⟨zs,cm,_,zl⟩:=Wa (i:=4) (λ_=>True) (UZ k v hs t (!(grD (FP k) Q)[8]) (!(.lst (ys.map D.int))[9]) (!(gwD (FP k) r)[8])) (by rw[gg];lia) (λd hd=>by
      obtain⟨x,hx,z⟩:=gJ.mp hd;subst z;obtain⟨n,e,_⟩:=qfh x (ok.2.2 x hx);refine#[n,?_,trivial];show(qi yJ [(q9 4)]) [_,_,_,_,!(h3D x)[8]]=_;simp![e])
     rw[gg]at zl;refine#[.ow (.lst ((ys++zs).map D.int)),?_,ys++zs,rfl,by rw[gG,gG,fO];lia]
     rw[QJ rfl cm (by rw[gg,gg];lia),hX]
     rfl) r [] (.lst (xs.map D.int))[9] j3 #[xs,rfl,by simp] (by rw[fH];lia) hr.1
   refine#[w',i3,q,ys,B,?_];rw[pj]at O;rw[gG,fO];lia) Q [] (.lst [])[9] none none #[[],rfl,by simp] (by rw[fH];lia) h.2
 refine#[xs,?_,by rw[pj]at hn;lia]
 unfold uC KN;left;rw[Zy rfl];left;rw[q];left
def qfj(z:List Int):xS [.lst (z.map D.int)]=.ok z.sum[7]:=by
 unfold xS;dsimp only;rw[JF]
def qfk(xs:List Int)(O:xs[1]<=100000)(c:Nat)(B:c<3):∃ n,yL [.br (.lst (xs.map D.int)),.fz c[6]]=.ok n[7]:=by
 have hz:sz=16777216:=rfl;obtain⟨ys,cm,_,_⟩:=Wa (it:=iVc 0) (i:=2) (e:=qi uu [(q9 2),(q9 1)]) (ρ:=[!(.br (.lst (xs.map D.int))),!c[7]]) (λ_=>True) (kK rfl rfl) (by rw[gg];lia) (λd hd=>by
  obtain⟨s,hs,z⟩:=gJ.mp hd;subst z;obtain⟨n,e,_⟩:=qff s c B;exact#[n,by simp![jc,ro,e],trivial])
 refine#[ys.sum,?_];unfold yL KO;simp![cm,qfj]
abbrev P3:=Int×Int×Int
def p3D(p:P3):D:=.lst [.int p.1,.int p.2.1,.int p.2.2]
theorem We(p)(w)(B:w=.fz (p3D p)\/w=.br (p3D p)):∀ c:Nat,c<3->∃ p',w9 [w,.fz c[6]]=.ok (p3D p')[9]
 | 0,_=>#[(p.1,p.2.1+4,p.2.2+4),by rcases B with z|z<;>(subst z;kernel_rfl)]
 | 1,_=>#[(p.1+4,p.2.1,p.2.2+4),by rcases B with z|z<;>(subst z;kernel_rfl)]
 | 2,_=>#[(p.1+4,p.2.1+4,p.2.2),by rcases B with z|z<;>(subst z;kernel_rfl)]
 | n+3,h=>absurd h ""
def min3(p):wK [p3D p]=.ok (vH p.1 [p.2.1,p.2.2])[7]:=rfl
def qfl(xs:List Int)(B:xs[1]<=100000)(p)(w)(O:w=.fz (p3D p)\/w=.ow (p3D p))(R0 R1 R3) :
  ∃ p',qV 1 (ji (eC xa)) (gV 5) jg (eOp qz (qi yL [(q9 4),(q9 5)]) (eB wK [(qi w9 [(q9 2),(q9 5)])])) [R0,R1,!w,R3,!(.lst (xs.map D.int))[9]]=.ok (p3D p')[9]:=by
 have one:∀ c:Nat,c<3->∃ n,(eOp qz (qi yL [(q9 4),(q9 5)]) (eB wK [(qi w9 [(q9 2),(q9 5)])])) ((jc 1 [R0,R1,!w,R3,!(.lst (xs.map D.int))[9]]).set 5 (!c[7]))=.ok n[7]/\True:=λc hc=>by
  obtain⟨n,l⟩:=qfk xs B c hc;obtain⟨p1,b1⟩:=We p (p3D p)[8] (.inl rfl) c hc;obtain⟨p2,b2⟩:=We p (.br (p3D p)) (.inr rfl) c hc;rcases O with rfl|rfl
  .exact#[n+vH p1.1 [p1.2.1,p1.2.2],by simp![jc,ro,l,b1,min3],trivial]
  exact#[n+vH p2.1 [p2.2.1,p2.2.2],by simp![jc,ro,l,b2,min3],trivial]
 obtain⟨ys,cm,_,yl⟩:=Wa (it:=ji (eC xa)) (λ_=>True) rfl "d" (λd hd=>by
  rcases gE.mp hd with z|hd
  .subst z;exact one 0 "d"
  rcases gE.mp hd with z|hd
  .subst z;exact one 1 "d"
  rcases gE.mp hd with z|hd
  .subst z;exact one 2 "d"
  cases hd)
 obtain⟨a,b,c,rfl⟩:∃ a b c,ys=[a,b,c]:=by
  match ys,yl with
  | [a,b,c],_=>exact#[a,b,c,rfl]
 exact#[(a,b,c),cm]
def qfm(k)(B:List (List (List (GE (List H3)))))(U:B[1]<=200)(h:∀ Q∈B,za (FP k) Q):∃ ps:List P3,uJ [.fz (.lst (B.map (grD (FP k))))]=.ok (.lst (ps.map p3D))[9]/\ps[1]=B[1]:=by
 have hz:sz=16777216:=rfl;obtain⟨ρ,e,ps,p,w,j3,j4,pl,hw,O⟩:=vO ((B.map (grD (FP k))).reverse) (λi ρ=>∃ ps p w j3 j4,ps[1]=i/\(w=.fz (p3D p)\/w=.ow (p3D p))/\ρ=[!(.lst (B.map (grD (FP k))))[8],!(.lst (ps.map p3D))[9],!w,j3,j4])
  (g:=gV 3) (b:=qe (qj 4 (qi uC [(q9 3)])) (qe (qj 2 (qV 1 (ji (eC xa)) (gV 5) jg (eOp qz (qi yL [(q9 4),(q9 5)]) (eB wK [(qi w9 [(q9 2),(q9 5)])])))) (jB 2 (qY 1 (q9 2)))))
  (ρ:=[!(.lst (B.map (grD (FP k))))[8],!(.lst [])[9],!(.lst [.int 0,.int 0,.int 0])[9],none,none]) #[[],(0,0,0),_,none,none,rfl,.inr rfl,rfl] (λi x ρ hx #[ps,p,w,j3,j4,pl,hw,O]=>by
   subst O;have hi:=(gp.mp hx).1;rw[bA,gg]at hi;obtain⟨Q,hQ,z⟩:=gJ.mp (List.mem_reverse.mp (t8 hx));subst z;obtain⟨xs,st,sl⟩:=qfi k Q (h Q hQ);obtain⟨p',nc⟩:=qfl xs sl p w hw (!(.lst (B.map (grD (FP k))))[8]) (!(.lst (ps.map p3D))[9]) (!(grD (FP k) Q)[8]);refine#[_,_,rfl,.inl ?_,ps++[p'],p',.fz (p3D p'),!(grD (FP k) Q)[8],!(.lst (xs.map D.int))[9],by rw[gG,pl];rfl,.inl rfl,rfl]
   simp![st,nc];rw[zz rfl (by rw[gg];lia) (by left)]
   simp![hX])
 subst O;refine#[ps.reverse,?_,by rw[bA,pl,bA,gg]]
 have it:QO 0 [!(.lst (B.map (grD (FP k))))[8],!(.lst [])[9],!(.lst [.int 0,.int 0,.int 0])[9],none,none]=.ok ((B.map (grD (FP k))).reverse):=rfl;unfold uJ X7;left;rw[it];left;rw[e];left;have rv:ZG (q9 1) [!(.lst (B.map (grD (FP k))))[8],!(.lst (ps.map p3D))[9],!w,j3,j4]=.ok (.lst (ps.reverse.map p3D))[9]:=by
  show R.ok (En.ow (.lst (ps.map p3D).reverse))=_;simp
 rw[rv];left
def qfn(p):∃ j:Nat,j<3/\ui (p3D p) (vH p.1 [p.2.1,p.2.2])[6]=.ok j[7]:=by
 obtain⟨x,y,z⟩:=p;obtain⟨m1,_⟩:=ZL [y,z] x;show ∃ j,j<3/\(match [x,y,z].findIdx? (λn=>n==vH x [y,z])with|some j=>okI j|none=>.stuck)=_
 generalize vH x [y,z]=m at m1;by_cases a:x=m
 .refine#[0,by decide,?_]
  simp[bI,a]
 by_cases b:y=m
 .refine#[1,by decide,?_]
  simp[bI,a,b]
 have c:z=m:=by
  grind
 refine#[2,by decide,?_]
 simp[bI,a,b,c]
def zj(n:Nat):D:=.int (n:Int)
def qfo(k)(B:List (List (List (GE (List H3)))))(hl:B[1]<=200)(h:∀ Q∈B,za (FP k) Q):∃ cs:List Nat,Jq [.fz (.lst (B.map (grD (FP k))))]=.ok (.lst (cs.map zj))[9]/\cs[1]=B[1]/\∀ c∈cs,c<3:=by
 have hz:sz=16777216:=rfl;obtain⟨ps,pe,pl⟩:=qfm k B hl h;obtain⟨ρ,e,cs,j2,j3,cl,c3,O⟩:=vO (ps.map p3D) (λi ρ=>∃ cs j2 j3,cs[1]=i/\(∀ c∈cs,c<3)/\ρ=[!(.lst (B.map (grD (FP k))))[8],!(.lst (cs.map zj))[9],j2,j3])
  (g:=gV 2) (b:=qe (qj 3 (eIf (tE (q9 1)) (qi w9 [(q9 2),(eOp qc (q9 1) (eUn jM 1[5]))]) (q9 2))) (qY 1 (eOp ui (q9 3) (eB wK [(q9 3)]))))
  (ρ:=[!(.lst (B.map (grD (FP k))))[8],!(.lst [])[9],none,none]) #[[],none,none,rfl,λ_ z=>(by cases z),rfl] (λi x ρ hx #[cs,j2,j3,cl,c3,O]=>by
   subst O;have hi:=(gp.mp hx).1;rw[gg]at hi;obtain⟨p,hp,z⟩:=gJ.mp (t8 hx);subst z;obtain⟨p',w3,s3,hw⟩:∃ p' w3,(eIf (tE (q9 1)) (qi w9 [(q9 2),(eOp qc (q9 1) (eUn jM 1[5]))]) (q9 2)) [!(.lst (B.map (grD (FP k))))[8],!(.lst (cs.map zj))[9],!(p3D p)[8],j3]=.ok w3/\(w3=.fz (p3D p')\/w3=.ow (p3D p')):=by
    cases hg:cs.getLast? with
    | none =>
     have:=pf.mp hg;subst this;exact#[p,.fz (p3D p),rfl,.inl rfl]
    | some c =>
     have U:(cs.map zj).isEmpty=false:=by
      cases cs with
      | nil=>cases hg
      | cons a l=>rfl
     have la:okD (ati (cs.map zj) (-1))=.ok c[7]:=by rw[Zs,cU,hg];rfl
     obtain⟨p',b⟩:=We p (p3D p)[8] (.inl rfl) c (c3 c (cY hg));exact#[p',.ow (p3D p'),by simp![U,la,b],.inr rfl]
   obtain⟨j,Z,ix⟩:=qfn p';refine#[_,_,rfl,.inl ?_,cs++[j],!(p3D p)[8],!w3,by rw[gG,cl];rfl,λc hc=>?_,rfl]
   .show(qe (qj 3 _) _) [!(.lst (B.map (grD (FP k))))[8],!(.lst (cs.map zj))[9],!(p3D p)[8],j3]=_;have Y:(qj 3 (eIf (tE (q9 1)) (qi w9 [(q9 2),(eOp qc (q9 1) (eUn jM 1[5]))]) (q9 2))) [!(.lst (B.map (grD (FP k))))[8],!(.lst (cs.map zj))[9],!(p3D p)[8],j3]=.nx [!(.lst (B.map (grD (FP k))))[8],!(.lst (cs.map zj))[9],!(p3D p)[8],!w3]:=by
     rcases hw with z|z<;>(subst z;rw[Qv,s3];rfl)
    rw[jv,Y,jN,zz (xs:=cs.map zj) (d:=zj j) rfl (by rw[gg];lia) (by rcases hw with z|z<;>(subst z;simp![min3,ix];rfl)),hX]
    rfl
   rcases gD.mp hc with z|z
   .exact c3 c z
   rw[tT.mp z];exact Z)
 subst O;refine#[cs,?_,by rw[cl,gg,pl],c3]
 have it:ji (qi uJ [(q9 0)]) [!(.lst (B.map (grD (FP k))))[8],!(.lst [])[9],none,none]=.ok (ps.map p3D):=vP (w:=.ow (.lst (ps.map p3D))) (by simp![pe]) rfl
 unfold Jq Xk;left;rw[it];left;rw[e];left
def eD(e:Int×Nat):D:=.tup [.int e.1,.int (-(e.2:Int))]
theorem Mb:∀ es:List (Int×Nat),vE (es.map eD)=!(es.map λe=>[e.1,-(e.2)])
 | []=>rfl
 | e::r=>by
  show(match jR [D.int e.1,D.int (-(e.2))],vE (r.map eD)with|some a,!b=>↑(a::b)|_,_=>none)=_
  rw[Mb r];rfl
theorem Mc:∀ r m,wZ m r∈m::r
 | [],m=>by simp[wZ]
 | q::r,m=>by
  unfold wZ;rcases gE.mp (Mc r (if HT.lexLt q m=true then q else m))with z|z
  .grind
  simp_all
def qfp(es)(ne:es≠[]):∃ e∈es,kZ [.lst (es.map eD)]=.ok (eD e)[8]:=by
 cases es with
 | nil=>exact absurd rfl ne
 | cons a r =>
  have m:=Mc (r.map λe=>[e.1,-(e.2)]) [a.1,-(a.2)]
  rw[<- gN (f:=λe:Int×Nat=>[e.1,-(e.2)])]at m
  obtain⟨e,he,z⟩:=gJ.mp m;refine#[e,he,?_];unfold kZ;dsimp only;rw[Mb,gN];dsimp only;rw[<- z];rfl
abbrev ρC(ws:List Int)(r:Int)(k:Nat)(bs:List D)(es:List (Int×Nat))(z B O:Option En):Rho:=[!(.lst (ws.map D.int))[8],!r[7],!(k:Int)[7],!(.br (.lst bs)),!(.lst (es.map eD))[9],z,B,O]
def qfq(ws:List Int)(r)(k)(bs)(U:r<=5000)(Z:ws[1]<=177)(hk:k<ws[1])(hp:∀ w∈ws,1<=w/\w<=r)
  (Y:∀ j,k<j->j<ws[1]->∃ e,bs[j]?=!(eD e)) :
  ∃ es,es≠[]/\(∀ e∈es,k<e.2/\e.2<=ws[1])/\uA [.fz (.lst (ws.map D.int)),.fz r[6],.fz k[6],.br (.lst bs)]=.ok (.lst (es.map eD))[9]:=by
 have hz:sz=16777216:=rfl;unfold uA KG;left;rw[qeg (i:=k+1) (j:=(ws[1])+1) (by left) (by simp![gg]) "" "" "" "",zt]
 rw[show((ws[1])+1-((k:Int)+1)).toNat=ws[1]-k by lia]
 have key:=Qq (Q:=λo=>∃(es:List (Int×Nat)) (i5 i6 i7:Option En),es≠[]/\(∀ e∈es,k<e.2/\e.2<=ws[1])/\o=.nx (ρC ws r k bs es i5 i6 i7)) (zb (k+1) (ws[1]-k))
  (λi ρ=>∃(es:List (Int×Nat)) (l:Int) (i6 i7:Option En),es[1]=i/\l<=5000/\(i=0->l=r)/\(∀ e∈es,k<e.2/\e.2<=ws[1])/\ρ=ρC ws r k bs es (!l[7]) i6 i7)
  (g:=gV 6) (b:=(qe (jU 5 qX (eOp qc (q9 0) (eOp qX (q9 6) 1[5])))
 (qe (sIf (tE (eOp dLt (q9 5) 0[5])) yj qr)
 (qe (qj 7 (eIf (tE (eOp dEq (q9 6) (eB qA [(q9 0)]))) 0[5] (eOp qz (eOp jX (q9 5) (q9 5)) (eOp qc (eOp qc (q9 3) (q9 6)) 0[5]))))
 (qY 4 (js [(q9 7),(eUn jM (q9 6))]))))))
  (ρ:=ρC ws r k bs [] (!r[7]) none none) #[[],r,none,none,rfl,U,λ_=>rfl,λ_ z=>(by cases z),rfl] (λi x ρ hx #[es,l,i6,i7,el,hl,h0,he,hρ]=>by
   subst hρ;rw[kC]at hx;by_cases hi:i<ws[1]-k
   .rw[if_pos hi]at hx;cases hx;have wk:ws[k+i]?=!ws[k+i]:=gw ""
    have hw:=hp ws[k+i] (tR _);generalize ws[k+i]=w at wk hw;have g0:(ws.map D.int)[k+i]?=!w[6]:=by rw[gC,wk];rfl
    have e1:(k+1+i)-1=((k+i:Nat):Int):=""
    have e2:((k:Int)+1+(i:Int))=((k+1+i:Nat):Int):=""
    refine#[ρC ws r k bs es (!l[7]) (!((k:Int)+1+(i:Int))[7]) i7,rfl,?_];have s1:(jU 5 qX (eOp qc (q9 0) (eOp qX (q9 6) 1[5]))) (ρC ws r k bs es (!l[7]) (!((k:Int)+1+(i:Int))[7]) i7)=.nx (ρC ws r k bs es (!(l-w)[7]) (!((k:Int)+1+(i:Int))[7]) i7):=by
     simp![e1,jK,g0]
    rw[jv,s1,jN,jv];by_cases c:l-w<0
    .have s2:(sIf (tE (eOp dLt (q9 5) 0[5])) yj qr) (ρC ws r k bs es (!(l-w)[7]) (!((k:Int)+1+(i:Int))[7]) i7)=.bk (ρC ws r k bs es (!(l-w)[7]) (!((k:Int)+1+(i:Int))[7]) i7):=by
      simp![c,decide_true]
     rw[s2,qaM];refine#[es,_,_,_,λz=>?_,he,rfl]
     subst z;have:=h0 el.symm[""]
     lia
    have s2:(sIf (tE (eOp dLt (q9 5) 0[5])) yj qr) (ρC ws r k bs es (!(l-w)[7]) (!((k:Int)+1+(i:Int))[7]) i7)=.nx (ρC ws r k bs es (!(l-w)[7]) (!((k:Int)+1+(i:Int))[7]) i7):=by
     simp![c,decide_false]
    obtain⟨c7,q⟩:∃ c7:Int,(qj 7 (eIf (tE (eOp dEq (q9 6) (eB qA [(q9 0)]))) 0[5] (eOp qz (eOp jX (q9 5) (q9 5)) (eOp qc (eOp qc (q9 3) (q9 6)) 0[5])))) (ρC ws r k bs es (!(l-w)[7]) (!((k:Int)+1+(i:Int))[7]) i7)=.nx (ρC ws r k bs es (!(l-w)[7]) (!((k:Int)+1+(i:Int))[7]) (!c7[7])):=by
     by_cases z:k+1+i=ws[1]
     .have ec:((k:Int)+1+(i:Int)==((ws.map D.int)[1]:Int))=true:=by rw[gg,e2,z];simp
      exact#[0,by simp![ec]]
     have ec:((k:Int)+1+(i:Int)==((ws.map D.int)[1]:Int))=false:=by rw[gg,e2,p6];lia
     obtain⟨e,hx⟩:=Y (k+1+i) "" ""
     have g1:ati bs ((k:Int)+1+(i:Int))=!(.tup [.int e.1,.int (-(e.2:Int))]):=by rw[e2,jK,hx];rfl
     have O:=yy (i:=l-w) (j:=l-w) "" ""
     exact#[(l-w)*(l-w)+e.1,by simp![ec,O,g1]]
    rw[s2,jN,jv,q,jN,zz (xs:=es.map eD) (d:=eD (c7,k+1+i)) rfl (by rw[gg];lia) (by simp![eD,e2])]
    refine#[es++[(c7,k+1+i)],l-w,_,_,by rw[gG,el];rfl,"",λz=>by lia,λe B=>?_,by unfold ρC;rw[hX];rfl]
    rcases gD.mp B with z|z
    .exact he e z
    rw[tT.mp z];show k<k+1+i/\k+1+i<=ws[1];lia
   rw[if_neg hi]at hx;cases hx) (λρ #[es,l,i6,i7,el,hl,h0,he,hρ]=>#[es,!l[7],i6,i7,λz=>by subst z;rw[Qi]at el;simp at el;lia,he,congrArg Out.nx hρ])
 obtain⟨es,i5,i6,i7,ne,he,q⟩:=key;refine#[es,ne,he,?_];have q:qC _ _ _ [_,_,_,_,!(.lst [])[9],_,_,_]=_:=q;rw[q];left
def Wf(n q:Nat)(bs:List D):Prop:=bs[1]=n/\∀ j,q<=j->j<n->∃ e:Int×Nat,bs[j]?=!(eD e)/\j<e.2/\e.2<=n
def qfr{g:D->D->R En}{e f:EF}{x y:En}(h1:e ρ=.ok x)(h2:f ρ=.ok y)(z:g x.dd y.dd=r):eOp g e f ρ=r:=by rw[xV,h1,h2];exact z
def qfs(ws:List Int)(r)(U:r<=5000)(Y:ws[1]<=177)(hp:∀ w∈ws,1<=w/\w<=r):∃ bs,Wf ws[1] 0 bs/\Jg [.fz (.lst (ws.map D.int)),.fz r[6]]=.ok (.lst bs)[9]:=by
 have hz:sz=16777216:=rfl;have go:∀ q bs j3,q<=ws[1]->Wf ws[1] q bs->∃ bs' i3,Wf ws[1] 0 bs' /\
   qC (gV 3) (kL 2 (q9 3) (eB kZ [(qi uA [(q9 0),(q9 1),(q9 3),(q9 2)])])) (yV q) [!(.lst (ws.map D.int))[8],!r[7],!(.lst bs)[9],j3]=.nx [!(.lst (ws.map D.int))[8],!r[7],!(.lst bs')[9],i3]:=by
  intro q
  induction q with
  | zero=>intro bs j3 _ h;exact#[bs,j3,h,rfl]
  | succ q ih =>
   intro bs j3 hq ⟨b1,b2⟩;obtain⟨es,ne,he,ch⟩:=qfq ws r q bs U Y "" hp λj h1 h2=>by obtain⟨e,x,_⟩:=b2 j h1 h2;exact#[e,x]
   obtain⟨m,hm,mt⟩:=qfp es ne;have B:=he m hm;obtain⟨bs',i3,h',O⟩:=ih (bs.set q (eD m)) (!q[7]) "" #[by rw[bq];exact b1,λj h1 h2=>by
    by_cases c:q=j
    .subst c;exact#[m,List.getElem?_set_self "",B]
    rw[h9 c];exact b2 j "" h2]
   refine#[bs',i3,h',?_];rw[yV,zY (kJ)];rw[qb1 (xs:=bs) (d:=eD m) (w:=.fz q[6]) (j:=q) (n:=q) rfl (by simp![ch,mt]) rfl rfl (by unfold ixn;rw[if_pos "",if_pos ""];simp)]
   exact O
 obtain⟨b0,bl,st⟩:∃ bs,bs[1]=ws[1]/\kY (.lst [.tup [.int 0,.int 0]]) (ws[1])[6]=.ok (.lst bs)[9]:=by
  refine#[zM ws[1] [.tup [.int 0,.int 0]],by simp[zM],?_]
  unfold kY;dsimp only;rw[if_pos #["","",by rw[fC];simp;lia],fC]
 obtain⟨bs,i3,hb,q⟩:=go ws[1] b0 none (gy _) #[bl,λj h1 h2=>by lia]
 refine#[bs,hb,?_];have rf:Jd [.fz (.lst (ws.map D.int)),.fz r[6]]=.ok (.fz .non):=by
  obtain⟨ρ,e,i2,i3,z⟩:=vO (numd 0 (ws.map D.int)) (λ_ ρ=>∃ i2 i3,ρ=[!(.lst (ws.map D.int))[8],!r[7],i2,i3]) (g:=gT [2,3]) (b:=sIf (tE (eOp dGt (q9 3) (q9 1))) zr qr) (ρ:=[!(.lst (ws.map D.int))[8],!r[7],none,none]) #[none,none,rfl] (λi x ρ hx #[i2,i3,z]=>by
   subst z;obtain⟨d,e1,rfl⟩:=Vr hx;obtain⟨w,hw,rfl⟩:=gJ.mp (t8 e1);have dw:decide (r<w)=false:=by have:=hp w hw;simp;lia
   exact#[[!(.lst (ws.map D.int))[8],!r[7],!i[7],!w[7]],[!(.lst (ws.map D.int))[8],!r[7],!i[7],!w[7]],rfl,.inl (by simp![dw]),_,_,rfl])
  unfold Jd KF;left;rw[show zd 0 [!(.lst (ws.map D.int))[8],!r[7],none,none]=.ok (numd 0 (ws.map D.int))from rfl,zt,e]
  rfl
 have wr:uv [.fz r[6]]=.ok (.bl true)[8]:=rfl;have len:((ws.map D.int)[1])=(ws[1]):=by rw[gg]
 have it:iR3d (eOp qX (eB qA [(q9 0)]) 1[5]) (eUn jM 1[5]) (eUn jM 1[5]) [!(.lst (ws.map D.int))[8],!r[7],!(.lst b0)[9],none]=.ok (yV ws[1]):=by
  refine qeh ?_ ?_ ?_ ""
  .simp![len]
  .left
  left
 unfold Jg KY;rw[xX,Z3 (ρ':=[!(.lst (ws.map D.int))[8],!r[7],none,none]),Z3 (ρ':=[!(.lst (ws.map D.int))[8],!r[7],none,none]),Z3 (ρ':=[!(.lst (ws.map D.int))[8],!r[7],!(.lst b0)[9],none]),jv,xW,it,zt,q]
 .rfl
 .rw[Qv,qfr (x:=.ow (.lst [.tup [.int 0,.int 0]])) (y:=.fz (ws[1])[6]) rfl (by simp![len]) st]
  rfl
 .simp![rf]
 simp![wr]
def qft(ws:List Int)(r)(B:r<=5000)(O:ws[1]<=177)(hp:∀ w∈ws,1<=w/\w<=r):∃ fs:List Nat,Jo [.fz (.lst (ws.map D.int)),.fz r[6]]=.ok (.lst (fs.map zj))[9]:=by
 have hz:sz=16777216:=rfl;obtain⟨bs,⟨b1,b2⟩,be⟩:=qfs ws r B O hp;have len:((ws.map D.int)[1])=(ws[1]):=by rw[gg]
 have go:∀ q f (z:List Nat),f<=ws[1]->ws[1]-f<q->z[1]<=f->∃(fs:List Nat) (i4:Option En),
   zy (tE (eOp dLt (q9 4) (eB qA [(q9 0)]))) (qe (qY 3 (q9 4)) (qj 4 (eUn jM (eOp qc (eOp qc (q9 2) (q9 4)) 1[5])))) q [!(.lst (ws.map D.int))[8],!r[7],!(.lst bs)[9],!(.lst (z.map zj))[9],!f[7]]
   = .nx [!(.lst (ws.map D.int))[8],!r[7],!(.lst bs)[9],!(.lst (fs.map zj))[9],i4]:=by
  intro q
  induction q with
  | zero=>intro f z _ h;lia
  | succ q ih =>
   intro f z h1 h2 h3;by_cases c:f<ws[1]
   .obtain⟨e,ge,e1,e2⟩:=b2 f (tK _) c;have lt:decide (f<(ws[1]:Int))=true:=by simp;lia
    have g2:ati bs f=!(.tup [.int e.1,.int (-(e.2))]):=by rw[jK,ge];rfl
    obtain⟨fs,i4,q2⟩:=ih e.2 (z++[f]) e2 "" (by rw[gG,fO];lia)
    refine#[fs,i4,?_];rw[<- q2];refine qdM ?_ ?_
    .simp![len,lt]
    rw[jv,zz (xs:=z.map zj) (d:=zj f) rfl (by rw[gg];lia) (by simp![zj])]
    simp![g2,Int.neg_neg,hX]
   have lt:decide (f<(ws[1]:Int))=false:=by simp;lia
   exact#[z,_,qdL (by simp![len,lt])]
 obtain⟨fs,i4,q⟩:=go 180 0 [] (tK _) "" "s"
 refine#[fs,?_];unfold Jo Xf;simp![be,kg];have q:zy _ _ 180 [_,_,_,!(.lst [])[9],!0[7]]=_:=q;rw[q];left
def wu(v:List Ch)(ms:List (Int×Int×Int))(n:Nat):List (List Ev):=(List.range n).map λi=>zg v (qD ms i) (qD ms (i+1))
def Q3(bs:List (List Ev)):List D:=bs.map λes=>D.lst (es.map evD)
def Me(xs):∃ en,kO (.lst (xs.map D.int)) 0[6]=.ok en[7]/\(∀ x∈xs,x<=en)/\(en∈xs\/(xs=[]/\en=0)):=by
 cases xs with
 | nil=>exact#[0,rfl,λ_ h=>(by cases h),.inr #[rfl,rfl]]
 | cons x r =>
  obtain⟨k1,k2⟩:=Zk r x;refine#[wU x r,?_,k2,.inl k1];unfold kO;dsimp only;rw[JF]
def Mf(h:∀ x,x∈xs↔x∈ys){a b:Int}(h1:∀ x∈xs,x<=a)(h2:a∈xs\/(xs=[]/\a=0))(z:∀ x∈ys,x<=b)(B:b∈ys\/(ys=[]/\b=0)):a=b:=by
 grind
structure Need(ms:List (Int×Int×Int))(en:Int)(n:Nat):Prop where
 pos:1<=n
 few:n<=177
 end_:en<=qD ms n
 least:∀ i,1<=i->i<n->qD ms i<en
def qfu(f:Fine ms)(l:Lens ms)(en)(h0:0<=en)(z:en<=1401):∃ n,Need ms en n/\yN [.br (.lst (ms.map qw)),.fz en[6]]=.ok n[7]:=by
 obtain⟨B,P,e,s1,s2,s3⟩:=qdQ f l (if 0>en-1 then 0 else en-1) (by split<;>lia)
 have a0:=Xu f l 0 B;rw[qd3,pE]at a0;have tb:(if 0>en-1 then 0 else en-1)<=1400:=by split<;>lia
 refine#[B+1,#["","",?_,λi h1 h2=>?_],?_]
 .rw[yb];split at s3<;>lia
 .have m:=Xu f l i (B-i);rw[show i+(B-i)=B by lia]at m
  split at s3<;>lia
 unfold yN Xg;simp![e];rfl
def zk(ms:List (Int×Int×Int))(n:Nat):List D:=(List.range n).map λk:Nat=>D.int (jw ms k)
structure Voi(ns:List Nt)(ws:Vs):Prop where
 run:run [] (rowOf ns)=!ws
 l8:ws[1]<=8
 vo:∀ v∈ws,Vo v
 ps:∀ v∈ws,∀ c∈v,PsOk c.2.2
 vl:∀ v∈ws,v[1]<=24
 tot:jn ws.flatten<=24
def qfv(ns)(N:NotesOk ns)(B:ns[1]<=24):∃ ws,Voi ns ws:=by
 have R:=XD N;have rb:=XE N R;have th:=λt=>qdy N R t
 obtain⟨ws,r,V,l⟩:=XV (rowOf ns) (R.up.imp λ{a b} h=>by unfold ltC at h;lia) (λc hc=>(rb c hc).2.2.1) th (rowOf ns) [] [] 8 rfl XS "s" (λc _=>th c.1)
 refine#[ws,r,l,λv hv=>#[V.ap v hv,λc hc=>?_],λv hv c hc=>?_,λv hv=>tV (V.len v hv) (tV (Vv ns) B),?_]
 .have:=rb c (V.old v hv c hc);unfold cend;lia
 .have hr:=V.old v hv c hc;have:=qdr hr;rw[XN]at this;exact#[R.ne c hr,"",λp hp=>by have:=N.b _ (R.of c hr p hp);exact#[this.2.2.2.2.1,this.2.2.2.2.2],R.ri c hr]
 have:=Ur _ _ _ r;rw[XN]at this;have z:jn [].flatten=0:=rfl;lia
def qfw(ns):qE (qE ns)=qE ns:=by
 have ft:∀ l:List (List Int),l.filter (λ_=>true)=l:=λl=>dh.mpr λ_ _=>rfl
 have h:=UM (λ_=>true) (ft _) (QD (ns.map ntR))
 rw[ft]at h;show(jh ((qE ns).map ntR)).map ofR=_;rw[uX,h];rfl
def qfx(ns):rowOf (qE ns)=rowOf ns:=by unfold rowOf;rw[qfw]
def ww(ws:Vs)(ms:List (Int×Int×Int))(n:Nat):List (List (List Ev)):=ws.map λv=>wu v ms n
def v7(r:List (List Ev)):D:=.lst (Q3 r)
def Q4{α:Type}{it:IF}{i:Nat}(xs:List α)(g h)(hi:it ρ=.ok (xs.map g))(O:xs[1]<=sz)(B:∀ x∈xs,∃ w,e ((jc 1 ρ).set i (!(g x)[8]))=.ok w/\w.st=.ok (h x)) :
  qV 1 it (gV i) jg e ρ=.ok (.lst (xs.map h))[9]:=by
 classical
 let f:D->D:=λd=>if q:∃ x,x∈xs/\g x=d then h q.choose else .non
 have key:∀ x∈xs,(∃ w,e ((jc 1 ρ).set i (!(g x)[8]))=.ok w/\w.st=.ok (f (g x)))/\f (g x)=h x:=λx hx=>by
  have q:∃ y,y∈xs/\g y=g x:=#[x,hx,rfl];have fe:f (g x)=h q.choose:=dif_pos q;obtain⟨y1,y2⟩:=q.choose_spec;obtain⟨w,a,b⟩:=B _ y1;obtain⟨w2,a2,b2⟩:=B x hx
  simp_all
 rw[yv hi (by rw[gg];exact O) (kE i f _ _ λd hd=>by
  obtain⟨x,hx,z⟩:=gJ.mp hd;subst z;exact(key x hx).1)]
 simp_all
def Wg{i:Nat}(z:ρ.length=i)(d):((jc 1 ρ).set i d)[i]?=!d:=List.getElem?_set_self (by unfold jc;simp;lia)
def Mg{i j:Nat}(z:ρ.length=i)(B:j<i)(d):((jc 1 ρ).set i d)[j]?=(ρ[j]?).map ro:=by
 rw[h9 ""]
 unfold jc;rw[t4 (by simp;lia),gC]
def qfy(f:Fine ms)(l:Lens ms)(v)(V:Vo v)(n)(B:n<=177):xj [.fz (vD v),.br (.lst (zk ms n))]=.ok (v7 (wu v ms n))[9]:=by
 have hz:sz=16777216:=rfl;unfold xj Xm;left;rw[Ys rfl];left;obtain⟨ρ,er,j4,z⟩:=vO (zk ms n) (λi ρ=>∃ j4,ρ=[!(vD v)[8],!(.br (.lst (zk ms n))),!(v7 (wu v ms i))[9],!(qD ms i)[7],j4])
  (g:=gV 4) (b:=qe (qY 2 (qi uK [(q9 0),(q9 3),(eOp qz (q9 3) (q9 4))])) (jU 3 zI (q9 4)))
  (ρ:=[!(vD v)[8],!(.br (.lst (zk ms n))),!(.lst [])[9],!0[7],none]) #[none,rfl] (λi x ρ hx #[j4,z]=>by
   subst z;unfold zk at hx;rw[gC]at hx;cases ei:(List.range n)[i]? with
   | none=>rw[ei]at hx;cases hx
   | some k =>
    rw[ei]at hx;cases hx;have hi:i<n:=by have:=(gp.mp ei).1;simpa using this
    rw[de hi]at ei;cases ei;have dp:=Jv f l i;have be:=qdG v V (qD ms i) (qD ms i+jw ms i) "" ""
    rw[show D.lst (v.map chD)=vD v from rfl]at be
    refine#[_,_,rfl,.inl ?_,!(jw ms i)[7],rfl];left;rw[zz (d:=.lst ((zg v (qD ms i) (qD ms (i+1))).map evD)) rfl (by simp[Q3,wu,hz];lia) (by
     rw[yb];simp![be])]
    simp![yb];simp[v7,Q3,wu,dG,yb])
 rw[er];subst z;unfold zk;rw[gg,cV];left
def qfz(V:Voi ns ws)(pos:∀ c∈rowOf ns,1<=c.2.1)(xs)(O:rowOf xs=rowOf ns)(U:(xs.map ntR).Nodup)(Y:xs[1]<=24)(f:Fine ms)(l:Lens ms)(n)(Z:n<=177)(a b i)(ρ)(z:ρ.length=i)(B:b<i)
  (ha:(q9 a) ρ=.ok (.br (.lst (xs.map ntD))))(hb:ρ[b]?=!(!(.lst (zk ms n))[9])) :
  qV 1 (ji (qi yO [(qi y4 [(q9 a)])])) (gV i) jg (qi xj [(q9 i),(q9 b)]) ρ=.ok (.lst ((ww ws ms n).map v7))[9]:=by
 have hz:sz=16777216:=rfl;have ch:=qdq xs U Y;rw[O]at ch;have rl:=Vv xs;rw[O]at rl;have vo:=qdx (.lst ((rowOf ns).map chD))[8] (rowOf ns) (.inr rfl) "" pos
 rw[V.run]at vo;have it:ji (qi yO [(qi y4 [(q9 a)])]) ρ=.ok (ws.map vD):=vP (w:=.ow (.lst (ws.map vD))) (by
  have c1:(qi y4 [(q9 a)]) ρ=.ok (.lst ((rowOf ns).map chD))[9]:=by simp[QA,Qx,Qw,ha,wV,Qz,Qy,Ym,ch]
  rw[QA,Qx,c1];simp[Qw,wV,Qz,Qy,qaN,vo,VB]) rfl
 have l8:=V.l8;rw[Q4 ws vD (λv=>v7 (wu v ms n)) it "" λv hv=>#[.ow (v7 (wu v ms n)),?_,rfl]]
 .unfold ww;rw[gH];rfl
 have v1:(q9 i) ((jc 1 ρ).set i (!(vD v)[8]))=.ok (vD v)[8]:=by rw[yw,Wg z];rfl
 have v2:(q9 b) ((jc 1 ρ).set i (!(vD v)[8]))=.ok (.br (.lst (zk ms n))):=by rw[yw,Mg z B,hb];rfl
 simp[QA,Qx,Qw,v1,v2,wV,Qz,Qy,Yl,Ym,qfy f l v (V.vo v hv) n Z]
def wA(ws:Vs)(ms:List (Int×Int×Int))(b:Nat):List (List Ev):=ws.map λv=>zg v (qD ms b) (qD ms (b+1))
def barsB(ws:Vs)(ms:List (Int×Int×Int))(n:Nat):List (List (List Ev)):=(List.range n).map (wA ws ms)
def qfA(ws)(Z:ws[1]<=8)(ms)(n k)(O:k<n)(j m i)(ρ)(z:ρ.length=i)(U:m<i)(B:iVc j ρ=.ok ((ww ws ms n).map v7))(Y:ρ[m]?=!(!k[7])) :
  qV 1 (iVc j) (gV i) jg (eOp qc (q9 i) (q9 m)) ρ=.ok (brD (wA ws ms k))[9]:=by
 have hz:sz=16777216:=rfl;unfold ww at B;rw[gH]at B;rw[Q4 ws _ (λv=>rwD (zg v (qD ms k) (qD ms (k+1)))) B "" λv hv=>#[.fz (rwD (zg v (qD ms k) (qD ms (k+1)))),?_,rfl]]
 .unfold brD wA;rw[gH];rfl
 have v1:∀ d,(q9 i) ((jc 1 ρ).set i (!d[8]))=.ok d[8]:=λd=>by rw[yw,Wg z];rfl
 have v2:∀ d,(q9 m) ((jc 1 ρ).set i d)=.ok k[7]:=λd=>by rw[yw,Mg z U,Y];rfl
 have ix:qc (v7 (wu v ms n)) k[6]=.ok (rwD (zg v (qD ms k) (qD ms (k+1))))[8]:=by
  show okD (ati (Q3 (wu v ms n)) k)=_;unfold Q3 wu;rw[jK,gH,gC,de O];rfl
 simp[xV,v1,v2,wV,qaO,ix]
def qfB{ws:Vs}(V:Voi ns ws)(f:Fine ms)(l:Lens ms)(b):(wA ws ms b)[1]=ws[1]/\∀ r∈wA ws ms b,PRow r/\(r.map pv).sum=jw ms b:=by
 have d:=Jv f l b;have s:=yb ms b;refine#[by unfold wA;rw[gg],λr hr=>?_]
 obtain⟨v,hv,z⟩:=gJ.mp hr;subst z;have sm:=(Uk _ _ _ (qdF (V.vo v hv) (b:=qD ms b) (e:=qD ms (b+1)) "")).2
 have sm:qD ms (b+1)=qD ms b+((zg v (qD ms b) (qD ms (b+1))).map pv).sum:=sm;have vl:=V.vl v hv;obtain⟨be,bl⟩:=(Up (qD ms b) (qD ms (b+1)) 512 8 (JD 512 8 (.inr #["",rfl])) "" "" v (V.ps v hv)).1
 refine#[#[be,"",?_],""]
 grind
def qfC(V:Voi ns ws)(b:Nat)(p)(hp:(jw ms b<=96/\p=4)\/(jw ms b<=512/\p=8)):((wA ws ms b).map hcR).sum<=p*24:=by
 unfold wA;rw[gH];exact tV (Us (qD ms b) (qD ms (b+1)) (jw ms b) p (JD _ p hp) (by rw[yb];lia) "" ws V.ps) (Nat.mul_le_mul_left p V.tot)
def endsOf(z:List Nt):List Int:=z.map λp=>p.1+p.2.1
def qfD(ns):∀ x,x∈endsOf (qE ns)↔x∈endsOf ns:=λx=>((wo ns).map _).mem_iff
structure EndOf(ns:List Nt)(en:Int):Prop where
 up:∀ x∈endsOf ns,x<=en
 is:en∈endsOf ns\/(endsOf ns=[]/\en=0)
def qfE(N:NotesOk ns){B:Int}(E:EndOf ns B):0<=B/\B<=1401:=by
 rcases E.is with h|⟨_,h⟩
 .obtain⟨p,hp,z⟩:=gJ.mp h;have:=N.b p hp;lia
 lia
def qfF(ns)(N:NotesOk ns)(nl:ns[1]<=24)(V:Voi ns ws){ms:List (Int×Int×Int)}(f:Fine ms)(l:Lens ms){O:Int}(E:EndOf ns O){n:Nat}(Y:Need ms O n)(Z:yN [.br (.lst (ms.map qw)),.fz O[6]]=.ok n[7]) :
  Vl [.br (.lst ((qE ns).map ntD)),.br (.lst (ms.map qw))]=.ok (.lst ((barsB ws ms n).map brD))[9]:=by
 have hz:sz=16777216:=rfl;have sl:(qE ns)[1]=ns[1]:=(wo ns).length_eq;have nf:=Y.few;have R:=XD N;have rb:=XE N R;have cm:qV 1 (iVc 0) (gV 7) jg (qi zB [(q9 7)]) [!(.br (.lst ((qE ns).map ntD))),!(.br (.lst (ms.map qw))),none,none,none,none,none]=.ok (.lst ((endsOf (qE ns)).map D.int))[9]:=by
  rw[Q4 (qE ns) ntD (λp=>.int (p.1+p.2.1)) (kK (w:=.br (.lst ((qE ns).map ntD))) rfl rfl) "" λp hp=>#[.fz (p.1+p.2.1)[6],by simp![jc,Uy],rfl]]
  unfold endsOf;rw[gH];rfl
 obtain⟨z,me,u1,u2⟩:=Me (endsOf (qE ns));have ee:z=O:=Mf (qfD ns) u1 u2 E.up E.is;subst ee;have bl:=qdP f n ""
 have U:=qfz V (λc hc=>(rb c hc).2.2.1) (qE ns) (qfx ns) (by rw[uX];exact(wG _).nodup_iff.mpr N.nodup) "" f l n nf 0 3 7 [!(.br (.lst ((qE ns).map ntD))),!(.br (.lst (ms.map qw))),!z[7],!(.lst (zk ms n))[9],none,none,none] rfl "d" rfl rfl
 have s2:(qj 2 (eOp kO (qV 1 (iVc 0) (gV 7) jg (qi zB [(q9 7)])) 0[5])) [!(.br (.lst ((qE ns).map ntD))),!(.br (.lst (ms.map qw))),none,none,none,none,none]=.nx [!(.br (.lst ((qE ns).map ntD))),!(.br (.lst (ms.map qw))),!z[7],none,none,none,none]:=by
  simp![Qv,xV,cm,me]
 have s3:(qj 3 (qi uE [(q9 1),(qi yN [(q9 1),(q9 2)])])) [!(.br (.lst ((qE ns).map ntD))),!(.br (.lst (ms.map qw))),!z[7],none,none,none,none]=.nx [!(.br (.lst ((qE ns).map ntD))),!(.br (.lst (ms.map qw))),!z[7],!(.lst (zk ms n))[9],none,none,none]:=by
  simp![Z,bl];rfl
 have s4:(qj 4 (qV 1 (ji (qi yO [(qi y4 [(q9 0)])])) (gV 7) jg (qi xj [(q9 7),(q9 3)]))) [!(.br (.lst ((qE ns).map ntD))),!(.br (.lst (ms.map qw))),!z[7],!(.lst (zk ms n))[9],none,none,none]=.nx [!(.br (.lst ((qE ns).map ntD))),!(.br (.lst (ms.map qw))),!z[7],!(.lst (zk ms n))[9],!(.lst ((ww ws ms n).map v7))[9],none,none]:=by
  rw[Qv,U];rfl
 show fin ((qe (qj 2 _) _) [!(.br (.lst ((qE ns).map ntD))),!(.br (.lst (ms.map qw))),none,none,none,none,none])=_;rw[jv,s2,jN,jv,s3,jN,jv,s4,jN,jv];obtain⟨ρ,e,j6,B⟩:=Zr n (λi ρ=>∃ j6,ρ=[!(.br (.lst ((qE ns).map ntD))),!(.br (.lst (ms.map qw))),!z[7],!(.lst (zk ms n))[9],!(.lst ((ww ws ms n).map v7))[9],!(.lst ((barsB ws ms i).map brD))[9],j6])
  (g:=gV 6) (b:=qY 5 (qV 1 (iVc 4) (gV 7) jg (eOp qc (q9 7) (q9 6)))) (ρ:=[!(.br (.lst ((qE ns).map ntD))),!(.br (.lst (ms.map qw))),!z[7],!(.lst (zk ms n))[9],!(.lst ((ww ws ms n).map v7))[9],!(.lst [])[9],none]) #[none,rfl] (λi ρ hi #[j6,B]=>by
   subst B;have ce:=qfA ws V.l8 ms n i hi 4 6 7 [!(.br (.lst ((qE ns).map ntD))),!(.br (.lst (ms.map qw))),!z[7],!(.lst (zk ms n))[9],!(.lst ((ww ws ms n).map v7))[9],!(.lst ((barsB ws ms i).map brD))[9],!i[7]] rfl "d" (kK (w:=.ow (.lst ((ww ws ms n).map v7))) rfl rfl) rfl
   refine#[_,_,rfl,.inl ?_,!i[7],rfl];show(qY 5 _) [!(.br (.lst ((qE ns).map ntD))),!(.br (.lst (ms.map qw))),!z[7],!(.lst (zk ms n))[9],!(.lst ((ww ws ms n).map v7))[9],!(.lst ((barsB ws ms i).map brD))[9],!i[7]]=_;rw[zz (xs:=(barsB ws ms i).map brD) (d:=brD (wA ws ms i)) rfl (by unfold barsB;rw[gg,gg,cV];lia) (by rw[ce];rfl)]
   simp[barsB,dG])
 have ln:(zk ms n)[1]=n:=by unfold zk;rw[gg,cV]
 left;rw[yz (n:=n) (by simp![ln]) "",zt,e]
 subst B;left
def qiQ:xn=den 12 (UT io0):=rfl
def qfG(fn)(k)(w)(B r)(O:w=.fz B\/w=.br B)(t:xn [w,.fz k[6],.fz fn]=.ok r[9]):fin ((qp (qi xn [(q9 0),(q9 1),(eC fn)])) [!w,!k[7]])=.ok r[9]:=by
 have c:(qi xn [(q9 0),(q9 1),(eC fn)]) [!w,!k[7]]=.ok r[9]:=by
  rcases O with z|z<;>(subst z;simp![t])
 rw[Yk,c];rfl
def qfH(k)(Rs)(h:∀ R∈Rs,za (FH k) R)(B:Rs.length<=200)(w)(z:w=.fz (.lst (Rs.map (grD (FH k))))\/w=.br (.lst (Rs.map (grD (FH k))))) :
  Jt [w,.fz k[6]]=.ok (.lst ((barsT (FH k) Rs []).map brT))[9]:=by
 exact qfG _ k w _ _ z (qeQ (qeZ k) Rs h B w z)
def hcG:GE (List Int)->Nat
 | .rest _=>0
 | .note _ ps _=>ps[1]
def Q_hc{R:List (List Ev)}(z:∀ r∈gR R,∀ e∈r,GeOk (FH k) e)(ah):(Qof k (gR R) ah).map ghR=R.map hcR/\qU (Qof k (gR R) ah)=R.map (·.map pv):=by
 have a:=UX gh hcG (λT kds e=>by
  cases e with
  | rest v=>rfl
  | note v ps t=>exact(JO (isT T) k ps kds).1) z ah
 constructor
 .have c:(Qof k (gR R) ah).map ghR=((Qof k (gR R) ah).map (·.map gh)).map List.sum:=by rw[gH];rfl
  rw[c,a];unfold gR;rw[gH,gH];apply gZ;intro r _;show((r.map gOf).map hcG).sum=(r.map hcE).sum;rw[gH];congr 1;apply gZ;intro e _;cases e<;>rfl
 rw[(qf5 z ah)];unfold qU gR;rw[gH];apply gZ;intro r _;show(r.map gOf).map gv=r.map pv;rw[gH];apply gZ;intro e _;cases e<;>rfl
theorem Mh(k):∀ Rs ah,(∀ R∈Rs,∀ r∈gR R,∀ e∈r,GeOk (FH k) e)->(QsOf k Rs ah)[1]=Rs.length/\∀ Q∈QsOf k Rs ah,∃ R∈Rs,Q.map ghR=R.map hcR/\qU Q=R.map (·.map pv)
 | [],_,_=>#[rfl,λ_ h=>by cases h]
 | R::Rs,ah,h=>by
  obtain⟨a,b⟩:=Mh k Rs (qW (FH k) (gR R) ah).ah λx hx=>h x (gj _ hx)
  refine#[by rw[QsOf,gK,gK,a],λQ hQ=>?_]
  rcases gE.mp hQ with z|z
  .subst z;exact#[R,by simp,Q_hc (h R "s") ah]
  simp_all
def wf(k:Int)(Q:List (List (GE (List H3)))):D:=match y8 [.fz (grD (FP k) Q)]with
 | .ok d[8]=>d
 | _=>.non
def qfI(k)(h0:-7<=k)(h1:k<=7):Jl [.fz k[6]]=.ok k[7]:=by
 unfold Jl Xb;have w:=uV k[6] (-7) 7 rfl;rw[show zx (-7) 7 k[6]=true by simp[zx,h0,h1]]at w
 simp![V6,V7,w]
def qfJ(r)(h0:1<=r)(h1:r<=5000):Jn [.fz r[6]]=.ok r[7]:=by
 unfold Jn Xe;have w:=uV r[6] 1 5000 rfl;rw[show zx 1 5000 r[6]=true by simp[zx,h0,h1]]at w
 simp![V9,Va,w]
structure Pg(ns:List Nt)(k:Int)(ms:List (Int×Int×Int))(en:Int)(n:Nat)(ws:Vs)(Qs:List (List (List (GE (List H3))))):Prop where
 V:Voi ns ws
 E:EndOf ns en
 N:Need ms en n
 nd:yN [.br (.lst (ms.map qw)),.fz en[6]]=.ok (n:Int)[7]
 ok:∀ Q∈Qs,za (FP k) Q
 len:Qs.length=n
 qd:Qs.map (grD (FP k))=(barsT (FH k) ((barsB ws ms n).map gR) []).map brT
 gk:∀ R∈barsB ws ms n,za (FH k) (gR R)
 pg:∀ f:D->En,f=.fz\/f=.br->∃ a b c d e,uQ [f (.lst (ns.map ntD)),.fz k[6],.fz (.lst (ms.map qw)),.fz 5000[6]]=.ok (.tup [a,b,c,d,e,.lst (Qs.map (grD (FP k)))])[8]
def Mi(ns)(N:NotesOk ns)(B:ns[1]<=24)(k)(U:-7<=k)(Y:k<=7)(ms)(g:GM ms)(f:Fine ms)(l:Lens ms):∃ en n ws Qs,Pg ns k ms en n ws Qs:=by
 have hz:sz=16777216:=rfl;obtain⟨ws,V⟩:=qfv ns N B;obtain⟨en,_,u1,u2⟩:=Me (endsOf ns);have E:EndOf ns en:=#[u1,u2];obtain⟨e0,e1⟩:=qfE N E;obtain⟨n,hn,nd⟩:=qfu f l en e0 e1;have nf:=hn.few;have bo:=qfF ns N B V f l E hn nd;have l8:=V.l8;have bk:=qfB V f l;have Rk:∀ R∈barsB ws ms n,R.length=ws[1]/\∀ r∈R,PRow r:=λR hR=>by
  obtain⟨b,_,z⟩:=gJ.mp hR;subst z;exact#[(bk b).1,λr hr=>((bk b).2 r hr).1]
 have bl:(barsB ws ms n)[1]=n:=by unfold barsB;rw[gg,cV]
 have Gk:∀ R∈barsB ws ms n,za (FH k) (gR R):=λR hR=>qf7 k R #[by rw[(Rk R hR).1];exact l8,(Rk R hR).2]
 obtain⟨l2,l3⟩:=Qs_D k (barsB ws ms n) [] Gk;obtain⟨ql,qs⟩:=Mh k (barsB ws ms n) [] λR hR r hr=>((Gk R hR).2 r hr).1
 generalize hQ:QsOf k (barsB ws ms n) []=Qs at *;have gF:(barsB ws ms n).map brD=((barsB ws ms n).map gR).map (grD (FH k)):=by
  rw[gH];apply gZ;exact λR _=>(gR_D k R).symm
 have sg:∀ w,(w=.fz (.lst ((barsB ws ms n).map brD))\/w=.br (.lst ((barsB ws ms n).map brD)))->Jt [w,.fz k[6]]=.ok (.lst (Qs.map (grD (FP k))))[9]:=λw hw=>by
  rw[l2];exact qfH k ((barsB ws ms n).map gR) (λR hR=>by
   obtain⟨Q,hQ,e⟩:=gJ.mp hR;subst e;exact Gk Q hQ) (by rw[gg];lia) w (by rw[<- gF];exact hw)
 have wx:∀ Q∈Qs,∃ w,y8 [.fz (grD (FP k) Q)]=.ok w[7]/\1<=w/\w<=5000:=λQ hQ=>by
  obtain⟨R,hR,q1,q2⟩:=qs Q hQ;obtain⟨b,_,z⟩:=gJ.mp hR;subst z;have d:=Jv f l b;obtain⟨w,we,w1,w2⟩:=qfd k Q (l3 Q hQ) (jw ms b).toNat (λx hx=>by
   rw[q2]at hx;obtain⟨y,hy,z⟩:=gJ.mp hx;subst z;have:=((bk b).2 y hy).2;lia)
  refine#[w,we,w1,?_];rw[q1]at w2;have:=qfC V (ms:=ms) b 8 (.inr #[d.2,rfl]);lia
 have wq:∀ Q∈Qs,y8 [.fz (grD (FP k) Q)]=.ok (wf k Q)[8]/\∃ w,wf k Q=.int w/\1<=w/\w<=5000:=λQ hQ=>by
  obtain⟨w,we,wb⟩:=wx Q hQ;have e:wf k Q=.int w:=by unfold wf;rw[we]
  rw[e];exact#[we,w,rfl,wb]
 obtain⟨xs,xe,xb,xl⟩:=W9 (p:=λw=>1<=w/\w<=5000) (Qs.map (wf k)) λy hy=>by
  obtain⟨Q,hQ,z⟩:=gJ.mp hy;subst z;exact(wq Q hQ).2
 rw[gg]at xl;obtain⟨cs,ce,_,_⟩:=qfo k Qs "" l3
 obtain⟨fs,ff⟩:=qft xs 5000 "" "" xb
 refine#[en,n,ws,Qs,V,E,hn,nd,l3,"",l2,Gk,λf hf=>#[.int k,.lst (ms.map qw),.int 5000,.lst (cs.map zj),.lst (fs.map zj),?_]]
 have ck:=qfI k U Y;have cm:=qec (ds:=ms.map qw) (by rw[gg];exact g.l1) (by rw[gg];exact g.l2) (λj hj=>qed g (λ_ _=>rfl) hj[""])
 have cn:=qe6 hf (qe1 N B);have cr:=qfJ 5000 "" ""
 have s6:=sg _ (.inl rfl);have c7:∀ ρ,ρ.length=8->ρ[6]?=!(!(.lst (Qs.map (grD (FP k))))[9])->qV 1 (iVc 6) (gV 8) jg (qi y8 [(q9 8)]) ρ=.ok (.lst (xs.map D.int))[9]:=λρ O h6=>by
  rw[<- xe];refine Q4 Qs (grD (FP k)) (wf k) (kK (w:=.ow (.lst (Qs.map (grD (FP k))))) h6 rfl) "" λQ hQ=>#[.fz (wf k Q),?_,rfl]
  have v1:(q9 8) ((jc 1 ρ).set 8 (!(grD (FP k) Q)[8]))=.ok (grD (FP k) Q)[8]:=by rw[yw,Wg O];rfl
  simp[QA,Qx,Qw,v1,wV,Qz,Qy,Yl,(wq Q hQ).1]
 unfold uQ Xq;simp![VN hf,Ux hf,ck,cm,cn,cr,bo,s6];rw[c7 _ rfl rfl];simp![ce,ff];rfl
def sh(n:Nt):Nt:=(n.1,n.2.1,n.2.2+7)
def shC(c:Ch):Ch:=(c.1,c.2.1,c.2.2.map (·+7))
def shE:Ev->Ev
 | .rest v=>.rest v
 | .note v ps t=>.note v (ps.map (·+7)) t
def shR:List Int->List Int
 | [a,b,c]=>[a,b,c+7]
 | l=>l
def qfK(a b):vC (ntR a) (ntR b)=vC (shR (ntR a)) (shR (ntR b)):=by
 show(not (HT.lexLt [b.1,b.2.1,b.2.2] [a.1,a.2.1,a.2.2]))=not (HT.lexLt [b.1,b.2.1,b.2.2+7] [a.1,a.2.1,a.2.2+7]);simp[HT.lexLt]
def qfL(ns):qE (ns.map sh)=(qE ns).map sh:=by
 unfold qE;have e:(ns.map sh).map ntR=(ns.map ntR).map shR:=by rw[gH,gH];rfl
 have m:(jh (ns.map ntR)).map shR=jh ((ns.map ntR).map shR):=List.map_mergeSort λa ha b hb=>by
  obtain⟨x,_,rfl⟩:=gJ.mp ha;obtain⟨y,_,rfl⟩:=gJ.mp hb;exact qfK x y
 rw[e,<- m,gH,gH];apply gZ;intro r hr;obtain⟨n,_,rfl⟩:=gJ.mp ((wG _).mem_iff.mp hr);rfl
def qfM(acc)(n):grp (acc.map shC) (sh n)=(grp acc n).map shC:=by
 unfold grp;rw[cU];cases acc.getLast? with
 | none=>simp[shC,sh]
 | some c =>
  show(if c.1=n.1/\c.2.1=n.2.1 then _ else _)=_
  dsimp only;split<;>simp[shC,sh]
theorem Mj:∀(ns:List Nt) acc,(ns.map sh).foldl grp (acc.map shC)=(ns.foldl grp acc).map shC
 | [],_=>rfl
 | n::ns,acc=>by rw[gN,fK,fK,qfM,Mj ns]
def qfN(ns):rowOf (ns.map sh)=(rowOf ns).map shC:=by
 unfold rowOf;rw[qfL];exact Mj _ []
def Mk(v):endL (v.map shC)=endL v:=by
 unfold endL;rw[cU];cases v.getLast?<;>rfl
abbrev shV(vs:Vs):Vs:=vs.map (·.map shC)
theorem Ml:∀ vs t,qG (shV vs) t=qG vs t
 | [],_=>rfl
 | v::vs,t=>by
  show qG (v.map shC::shV vs) t=_;rw[qG,qG,Mk,Ml vs]
theorem Mn:∀ vs c,jD (shV vs) (shC c)=shV (jD vs c)
 | [],_=>rfl
 | v::vs,c=>by
  show jD (v.map shC::shV vs) (shC c)=_;rw[jD,jD,Mk,Mn vs];show(if endL v<=c.1 then _ else _)=_
  split<;>simp
theorem Mo:∀ cs vs,run (shV vs) (cs.map shC)=(run vs cs).map shV
 | [],_=>rfl
 | c::cs,vs=>by
  rw[gN,run,run,Mn,Mo cs];show(if qG (shV vs) c.1=8 then _ else _)=_
  rw[Ml];split<;>rfl
def Mp(n):(jr n).map shE=jr n:=by
 unfold jr;rw[gH];rfl
theorem Mq(c):∀ vs t,jW (shC c) t vs=(jW c t vs).map shE
 | [],_=>rfl
 | v::vs,t=>by rw[jW,Mq c vs];rfl
def qfO(b e)(S)(c):jy b e (S.1.map shE,S.2) (shC c)=((jy b e S c).1.map shE,(jy b e S c).2):=by
 unfold jy;rw[show cend (shC c)=cend c from rfl,show(shC c).1=c.1 from rfl]
 generalize (if b>c.1 then b else c.1)=f
 generalize (if e<cend c then e else cend c)=g
 by_cases h:f<g
 .rw[if_pos h,if_pos h];rw[hX,hX,Mp];unfold zN;rw[<- Mq]
 rw[if_neg h,if_neg h]
theorem Mr(b e):∀(v:List Ch) S,(v.map shC).foldl (jy b e) (S.1.map shE,S.2)=((v.foldl (jy b e) S).1.map shE,(v.foldl (jy b e) S).2)
 | [],_=>rfl
 | c::v,S=>by rw[gN,fK,fK,qfO,Mr b e v]
def qfP(v)(b e):zg (v.map shC) b e=(zg v b e).map shE:=by
 unfold zg xu;have:=Mr b e v ([],b);rw[show(([],b).1.map shE,([],b).2)=([],b)from rfl]at this
 rw[this,hX,Mp]
def qfQ(ws)(ms)(n):barsB (shV ws) ms n=(barsB ws ms n).map (·.map (·.map shE)):=by
 unfold barsB;rw[gH];apply gZ;intro b _;unfold wA;show(shV ws).map _=(ws.map _).map _;rw[gH];rw[gH];apply gZ;intro v _;exact qfP v _ _
theorem Ms(n):∀ os B k,k∈(seen n os B).map Prod.fst->k∈B.map Prod.fst\/∃ o∈os,meet n o=true/\k=yd o
 | [],_,_,h=>.inl h
 | o::os,B,k,h=>by
  rcases Ms n os _ k h with z|⟨x,hx,z⟩
  .by_cases c:meet n o=true
   .rw[if_pos c]at z;unfold qS at z;split at z
    .rw[gH]at z;obtain⟨kv,hk,e⟩:=gJ.mp z;refine .inl (gJ.mpr #[kv,hk,?_]);rw[<- e];show kv.1=(if kv.1=yd o then _ else kv).1
     split<;>rfl
    rw[hX]at z;rcases gD.mp z with z|z
    .exact .inl z
    exact .inr #[o,by simp,c,by simpa using z]
   rw[if_neg c]at z;exact .inl z
  exact .inr #[x,gj _ hx,z]
theorem Mt(n):∀ os z,(z.map Prod.fst).Nodup->((seen n os z).map Prod.fst).Nodup
 | [],_,h=>h
 | o::os,z,h=>by
  rw[seen];refine Mt n os _ ?_;split
  .unfold qS;split
   .rw[gH,show(Prod.fst∘λkv:List (Sum Int Str)×D=>if kv.1=yd o then(kv.1,D.bl true)else kv)=Prod.fst by funext kv;show(if kv.1=yd o then(kv.1,D.bl true)else kv).1=kv.1;split<;>rfl]
    exact h
   rename_i c;rw[hX];rw[fj];refine#[h,by simp,λa ha b hb e=>?_]
   simp at hb;subst e hb;obtain⟨kv,hk,e⟩:=gJ.mp ha;exact c (List.any_eq_true.mpr #[kv,hk,by simpa using e])
  exact h
def qfR(h:∀ x∈a,x∈b):wm n a<=wm n b:=by
 unfold wm;rw[<- gg,<- gg (as:=seen n b [])];refine Jz (Mt n a [] dQ) λk hk=>?_
 rcases Ms n a [] k hk with z|⟨o,ho,m,e⟩
 .grind
 subst e;exact VC n m b [] (h o ho)
def NotesOk.filter(h:NotesOk ns)(p):NotesOk (ns.filter p):=by
 refine#[λn hn=>h.b n (pH.mp hn).1,h.ap.sublist List.filter_sublist,λpre n post e=>?_]
 obtain⟨l1,l2,e1,e2,e3⟩:=List.filter_eq_append_iff.mp e;obtain⟨m1,m2,f1,f2,f3,f4⟩:=List.filter_eq_cons_iff.mp e3;have:=h.mt (l1++m1) n m2 (by rw[e1,f1];simp)
 refine tV (qfR λx hx=>?_) this
 rw[<- e2]at hx;exact t5 _ (pH.mp hx).1
theorem Mu(n):∀ os z,seen (sh n) (os.map sh) z=seen n os z
 | [],_=>rfl
 | o::os,z=>by rw[gN,seen,Mu n os];rfl
def NotesOk.sh{z:List Nt}(h:NotesOk z)(p:∀ n∈z,n.2.2<=120):NotesOk (z.map sh):=by
 refine#[λn hn=>?_,?_,λpre n post e=>?_]
 .obtain⟨x,hx,rfl⟩:=gJ.mp hn;have:=h.b x hx;have:=p x hx;unfold My.sh;dsimp only;lia
 .rw[tY];refine h.ap.imp λ{o n} q=>?_
  rw[<- q];show(n.2.2+7==o.2.2+7&&_)=(n.2.2==o.2.2&&_);rw[show(n.2.2+7==o.2.2+7)=(n.2.2==o.2.2)by rw[Bool.eq_iff_iff];simp]
  rfl
 obtain⟨l1,l2,e1,e2,e3⟩:=List.map_eq_append_iff.mp e;obtain⟨x,l3,f1,f2,f3⟩:=List.map_eq_cons_iff.mp e3;subst e2 f2;have:=h.mt l1 x l3 (by rw[e1,f1])
 unfold wm at this ⊢;rw[Mu];exact this
def qfS(p k):12*ocN p k+grd (ltN p k)+alN p k=p:=by
 have h1:(7*p-ffN p k)%12=0:=by unfold ffN;lia
 have h2:ffN p k+1=7*alN p k+(ltN p k):=by rw[VU];unfold alN;lia
 have h3:=vS p k;unfold ocN;generalize alN p k=a at *;generalize ltN p k=m at *
 match m,h3 with
 | 0,_=>show 12*((p-5-a)/12)+5+a=p;lia
 | 1,_=>show 12*((p-0-a)/12)+0+a=p;lia
 | 2,_=>show 12*((p-7-a)/12)+7+a=p;lia
 | 3,_=>show 12*((p-2-a)/12)+2+a=p;lia
 | 4,_=>show 12*((p-9-a)/12)+9+a=p;lia
 | 5,_=>show 12*((p-4-a)/12)+4+a=p;lia
 | 6,_=>show 12*((p-11-a)/12)+11+a=p;lia
 | n+7,h=>lia
def upO(m:Nat):Int:=if m%2=0 then 1 else 0
def upA(m:Nat):Int:=if m=6 then 1 else 0
def Mv(p k):ffN (p+7) (k+1)=ffN p k+1:=by unfold ffN;lia
def JP(p k):ltN (p+7) (k+1)=(ltN p k+1)%7:=by unfold ltN;rw[Mv];lia
def JQ(p k):alN (p+7) (k+1)=alN p k+upA (ltN p k):=by
 have h:=VU p k;unfold alN upA;rw[Mv];split<;>lia
def Mw(p k):ocN (p+7) (k+1)=ocN p k+upO (ltN p k):=by
 have r:=qfS p k;have h:=vS p k;unfold ocN at r ⊢;rw[JP,JQ];generalize ltN p k=m at *
 match m,h with
 | 0,_|1,_|2,_|3,_|4,_|5,_|6,_=>simp[grd,upO,upA]at r ⊢<;>lia
theorem qfT(k):∀ m,m<7->wN ((m+1)%7) (k+1)=wN m k+upA m
 | 0,_|1,_|2,_|3,_|4,_|5,_|6,_=>by simp[wN,upA];lia
def kyM(m:Nat)(o:Int):List (Sum Int Str):=[.inr (fcg m),.inl o]
def qfU(z:m<7)(B:n<7)(h:fcg m=fcg n):m=n:=by rw[<- Q1 m z,<- Q1 n B,h]
def Wh(z:m<7)(B:n<7):kyM m o=kyM n q↔m=n/\o=q:=by
 refine#[λh=>?_,λ#[a,b]=>by rw[a,b]]
 injection h with h1 h2;injection h1 with h1;injection h2 with h2 _;injection h2 with h2;exact#[qfU z B h1,h2]
def Mx(z:m<7)(B:n<7):kyM ((m+1)%7) (o+upO m)=kyM ((n+1)%7) (q+upO n)↔kyM m o=kyM n q:=by
 rw[Wh (mod_lt _ "d") (mod_lt _ "d"),Wh z B]
 refine#[λ#[a,b]=>?_,λ#[a,b]=>by rw[a,b];exact#[rfl,rfl]]
 have e:m=n:=""
 simp_all
def upD(m:Nat):D->D
 | .int n=>.int (n+upA m)
 | d=>d
def Rk(a b:Kd):Prop:=∀ m,m<7->∀ o,look (kyM ((m+1)%7) (o+upO m)) b=(look (kyM m o) a).map (upD m)
def Mz(p k):kyN (p+7) (k+1)=kyM ((ltN p k+1)%7) (ocN p k+upO (ltN p k)):=by unfold kyN kyM;rw[JP,Mw]
def qfV(R:Rk a b)(h:KI a)(p k):byN b (p+7) (k+1)=byN a p k+upA (ltN p k):=by
 unfold byN;rw[Mz,(R (ltN p k) (vS p k) (ocN p k)),show kyN p k=kyM (ltN p k) (ocN p k)from rfl]
 rcases UG h (kyM (ltN p k) (ocN p k))with z|⟨n,z⟩
 .rw[z];show wN (ltN (p+7) (k+1)) (k+1)=_;rw[JP,qfT k _ (vS p k)]
 rw[z];rfl
def MA(R:Rk a b)(h:KI a)(go)(p k):wr b go (p+7) (k+1)=wr a go p k:=by
 unfold wr;rw[qfV R h,JQ];congr 2;rw[Bool.eq_iff_iff];simp
def qfW(R:Rk a b)(h:KI a)(go)(p k):Rk (hdK a go p k) (hdK b go (p+7) (k+1)):=by
 unfold hdK;rw[MA R h];split
 .intro m hm o;rw[JI,JI,Mz,show kyN p k=kyM (ltN p k) (ocN p k)from rfl]
  by_cases c:kyM (ltN p k) (ocN p k)=kyM m o
  .rw[if_pos ((Mx (vS p k) hm).mpr c),if_pos c,JQ,((Wh (vS p k) hm).mp c).1];rfl
  rw[if_neg λz=>c ((Mx (vS p k) hm).mp z),if_neg c]
  exact R m hm o
 exact R
def mH:D->D
 | .tup [.str x,.int o,s]=>.tup [.str (fcg ((v6 x+1)%7)),.int (o+upO (v6 x)),upD (v6 x) s]
 | d=>d
def qfX(R:Rk a b)(h:KI a)(go)(p k):hdH b go (p+7) (k+1)=mH (hdH a go p k):=by
 unfold hdH;rw[MA R h,JP,Mw,JQ];show _=D.tup [.str (fcg ((v6 (fcg (ltN p k))+1)%7)),.int (ocN p k+upO (v6 (fcg (ltN p k)))),upD (v6 (fcg (ltN p k))) _];rw[Q1 _ (vS p k)];split<;>rfl
theorem Wi(go)(k):∀ ps a b,Rk a b->KI a->zP go (k+1) b (ps.map (·+7))=(zP go k a ps).map mH/\Rk (zO go k a ps) (zO go (k+1) b (ps.map (·+7)))
 | [],_,_,R,_=>#[rfl,R]
 | p::ps,a,b,R,h=>by
  obtain⟨x,y⟩:=Wi go k ps _ _ (qfW R h go p k) (VV h go p k).1;refine#[?_,y];rw[gN,zP,zP,gN,qfX R h,x]
def mE:D->D
 | .tup [x,v,.tup hs,t]=>.tup [x,v,.tup (hs.map mH),t]
 | d=>d
theorem qfY:∀ o,isT (yW (o.map mE))=isT (yW o)
 | none=>rfl
 | some d=>by
  show isT (yW (!(mE d)))=_;unfold mE;split
  .rename_i x v hs t;cases t with
   | bl b=>cases b<;>rfl
   | _=>rfl
  rfl
def shG:GE (List Int)->GE (List Int)
 | .rest v=>.rest v
 | .note v ps t=>.note v (ps.map (·+7)) t
structure RT(s t:TS):Prop where
 k:Rk s.kds t.kds
 i:KI s.kds
 r:t.rows=s.rows.map (·.map mE)
 a:t.ah=s.ah.map λq=>(q.1,mE q.2)
theorem MB [DecidableEq κ](f)(q):∀ l:List (κ×D),look q (l.map λx=>(x.1,f x.2))=(look q l).map f
 | []=>rfl
 | (x,d)::l=>by
  rw[gN];unfold look;by_cases c:x=q
  .simp_all
  rw[if_neg c,if_neg c];exact MB f q l
def qfZ [DecidableEq κ](f:D->D)(q)(d)(l:List (κ×D)):qS q (f d) (l.map λx=>(x.1,f x.2))=(qS q d l).map λx=>(x.1,f x.2):=by
 unfold qS;rw[List.any_map];show(if (l.any λkv=>decide (kv.1=q))=true then _ else _)=_
 split
 .rw[gH,gH];apply gZ;intro x _;lia
 simp
def qg0(R:RT s t)(k)(v)(e):RT (wt (FH k) s v e) (wt (FH (k+1)) t v (shG e)):=by
 have T:isT (tOf t v)=isT (tOf s v):=by
  unfold tOf;rw[R.a,MB,qfY]
 have E:gEv (FH (k+1)) (tOf t v) t.kds (shG e)=mE (gEv (FH k) (tOf s v) s.kds e):=by
  cases e with
  | rest x=>rfl
  | note x ps g =>
   show D.tup [.str "note",.int x,.tup (zP (isT (tOf t v)) (k+1) t.kds (ps.map (·+7))),.bl g]=D.tup [.str "note",.int x,.tup ((zP (isT (tOf s v)) k s.kds ps).map mH),.bl g]
   rw[T,(Wi _ k ps _ _ R.k R.i).1]
 unfold wt;refine#[?_,?_,?_,?_]
 .cases e with
  | rest x=>exact R.k
  | note x ps g =>
   show Rk (zO (isT (tOf s v)) k s.kds ps) (zO (isT (tOf t v)) (k+1) t.kds (ps.map (·+7)))
   rw[T];exact(Wi _ k ps _ _ R.k R.i).2
 .cases e with
  | rest x=>exact R.i
  | note x ps g=>exact(VW _ k ps _ R.i).1
 .dsimp only;rw[E,R.r,List.map_set,hX];congr 2;rw[tm];rw[tm,gC];cases s.rows[v]?<;>rfl
 dsimp only;rw[E,R.a,qfZ]
abbrev shB(R:List (List (GE (List Int)))):List (List (GE (List Int))):=R.map (·.map shG)
def qg1(R)(s):evAt (shB R) s=(evAt R s).map shG:=by
 unfold evAt;rw[gC];cases R[(vof s).toNat]? with
 | none=>rfl
 | some r=>exact gC
theorem MC(k)(R):∀(S:List (List Int)) s t,RT s t->RT (S.foldl (zh (FH k) R) s) (S.foldl (zh (FH (k+1)) (shB R)) t)
 | [],_,_,h=>h
 | x::S,s,t,h=>by
  refine MC k R S _ _ ?_;unfold zh;rw[qg1];cases evAt R x with
  | none=>exact h
  | some e=>exact qg0 h k _ e
def qg2(R):qU (shB R)=qU R:=by
 unfold qU;rw[gH];apply gZ;intro r _;show(r.map shG).map gv=_;rw[gH];apply gZ;intro e _;cases e<;>rfl
abbrev mA(z:List (Sum Int Str×D)):List (Sum Int Str×D):=z.map λq=>(q.1,mE q.2)
def qg3(k)(R)(ah):RT (qW (FH k) R ah) (qW (FH (k+1)) (shB R) (mA ah)):=by
 unfold qW;rw[qg2];refine MC k R _ _ _ #[λ_ _ _=>rfl,λ_ h=>(by cases h),?_,rfl]
 show(R.map _).map _=(R.map _).map _;rw[gH];rw[gH];rfl
def mR:D->D
 | .lst es=>.lst (es.map mE)
 | d=>d
def mB:D->D
 | .lst rs=>.lst (rs.map mR)
 | d=>d
theorem MD(k):∀ Rs ah,(barsT (FH (k+1)) (Rs.map shB) (mA ah)).map brT=((barsT (FH k) Rs ah).map brT).map mB
 | [],_=>rfl
 | R::Rs,ah=>by
  have h:=qg3 k R ah;rw[gN,barsT,gN,h.a,MD k Rs];congr 1;unfold brT;rw[h.r,gH];show _=D.lst (((qW (FH k) R ah).rows.map D.lst).map mR);rw[gH];rfl
def qg4(R):gR (R.map (·.map shE))=shB (gR R):=by
 unfold gR shB;rw[gH];rw[gH];apply gZ;intro r _;show(r.map shE).map gOf=(r.map gOf).map shG;rw[gH];rw[gH];apply gZ;intro e _;cases e<;>rfl
def upH(h:H3):H3:=#[(h.m+1)%7,h.o+upO h.m,h.s.map (·+upA h.m)]
def qg5(h)(z:h.m<7):mH (h3D h)=h3D (upH h):=by
 show D.tup [.str (fcg ((v6 (fcg h.m)+1)%7)),.int (h.o+upO (v6 (fcg h.m))),upD (v6 (fcg h.m)) (sD h.s)]=_;rw[Q1 _ z];unfold upH;cases h.s<;>rfl
def cdI(m:Nat):Int:=(((3+4*m)%7:Nat):Int)
theorem ME:∀ m,m<7->wY (.str "CDEFGAB") (.str (fcg m))=.ok (cdI m)[7]/\dEq (.str (fcg m)) (.str "B")=.ok (.bl (m==6))[8]/\7*upO m+cdI ((m+1)%7)=cdI m+4
 | 0,_|1,_|2,_|3,_|4,_|5,_|6,_=>#[by kernel_rfl,by kernel_rfl,by decide]
def MF(h)(z:h.m<7):uB [.fz (h3D h)]=.ok (7*h.o+cdI h.m)[7]:=by
 unfold uB KM;simp![h3D,Ma,yy (i:=7) "d" "d",((ME h.m z).1)]
def qg6(h)(z:h.m<7):uI [.fz (h3D h),.fz (h3D (upH h))]=.ok (.bl true)[8]:=by
 have a:=MF h z;have b:=MF (upH h) (mod_lt _ "d")
 obtain⟨_,q,u⟩:=ME h.m z;have e:7*(upH h).o+cdI (upH h).m=7*h.o+cdI h.m+4:=by
  show 7*(h.o+upO h.m)+cdI ((h.m+1)%7)=_;lia
 rw[e]at b;have i0:qc (h3D h) 0[6]=.ok (.str (fcg h.m))[8]:=rfl;have i2:qc (h3D h) 2[6]=.ok (sD h.s)[8]:=rfl;have j2:qc (h3D (upH h)) 2[6]=.ok (sD (h.s.map (·+upA h.m)))[8]:=rfl
 have di:∀ b,ZJ [.bl b]=.ok (if b=true then 1 else 0)[7]:=λ_=>rfl
 have ua:upA h.m=if (h.m==6)=true then 1 else 0:=by unfold upA;simp
 generalize h3D (upH h)=Y at *;generalize h3D h=X at *;unfold uI X6;cases es:h.s with
 | none =>
  rw[es]at i2 j2;have i2:qc X 2[6]=.ok (.fz .non):=i2;have j2:qc Y 2[6]=.ok (.fz .non):=j2;simp![a,b,i2,j2,fN,qba]
 | some n =>
  rw[es]at i2 j2;have i2:qc X 2[6]=.ok n[7]:=i2;have j2:qc Y 2[6]=.ok (n+upA h.m)[7]:=j2;simp![a,b,i0,i2,j2,fN,qbb,q,di,ua]
def Wj{n i:Nat}{ρ:Rho}(z:∀ k,k<n->b (ρ.set i (!k[7]))=.nx (ρ.set i (!k[7]))):∃ ρ',qC (gV i) b (zb 0 n) ρ=.nx ρ'/\(ρ'=ρ\/∃ j,ρ'=ρ.set i j):=by
 obtain⟨ρ',e,h⟩:=vO (zb 0 n) (λ_ ρ'=>ρ'=ρ\/∃ j,ρ'=ρ.set i j) (g:=gV i) (b:=b) (.inl rfl) (λk x ρ' hx h=>by
  rw[kC]at hx;by_cases c:k<n
  .rw[if_pos c]at hx;cases hx;have s:ρ'.set i (!(0+k)[7])=ρ.set i (!k[7]):=by
    rw[bH];rcases h with h|⟨j,h⟩
    .rw[h]
    rw[h,dX]
   exact#[_,_,rfl,.inl (by rw[s];exact z k c),.inr #[_,rfl]]
  rw[if_neg c]at hx;cases hx)
 exact#[ρ',e,h]
def qg7(z:List H3)(O:z[1]<=24)(B:∀ h∈z,h.m<7):uO [.fz (.tup (z.map h3D)),.fz (.tup (z.map λh=>h3D (upH h)))]=.ok (.bl true)[8]:=by
 obtain⟨ρ',e,h⟩:=Wj (i:=2) (ρ:=[!(.tup (z.map h3D))[8],!(.tup (z.map λh=>h3D (upH h)))[8],none]) (b:=(sIf (jA (tE (qi uI [(eOp qc (q9 0) (q9 2)),(eOp qc (q9 1) (q9 2))]))) (qp (eC (.bl false))) qr)) (λk hk=>by
  have a:okD (ati (z.map h3D) k)=.ok (h3D z[k])[8]:=by rw[jK,gC,gw hk];rfl
  have b:okD (ati (z.map λh=>h3D (upH h)) k)=.ok (h3D (upH z[k]))[8]:=by rw[jK,gC,gw hk];rfl
  simp![a,b,qg6 z[k] (B _ (tR _))])
 unfold uO Xj;simp![gg,fN];rw[yz (n:=z[1]) (by simp![gg]) "",zt,e]
 rfl
def qg8(k v):mE (geD (FP k) (.rest v))=.tup [.str "rest",.int v]:=rfl
def qg9(k v)(hs)(t)(z:∀ h∈hs,h.m<7):mE (geD (FP k) (.note v hs t))=.tup [.str "note",.int v,.tup (hs.map λh=>h3D (upH h)),.bl t]:=by
 show D.tup [.str "note",.int v,.tup ((hs.map h3D).map mH),.bl t]=_;rw[gH,show mH∘h3D=λh=>mH (h3D h)from rfl,gZ λh hh=>qg5 h (z h hh)]
def neS2(a:Str)(v)(B:a="rest"\/a="note"):dNe (.tup [.str a,.int v]) (.tup [.str a,.int v])=.ok (.bl false)[8]:=by
 rcases B with z|z<;>(subst z;exact Yu (by kernel_rfl))
def qga(k)(r)(h:JN (FP k) r):xm [.fz (gwD (FP k) r),.fz (.lst (r.map λe=>mE (geD (FP k) e)))]=.ok (.bl true)[8]:=by
 obtain⟨ρ',e,q⟩:=Wj (n:=r[1]) (i:=2) (ρ:=[!(gwD (FP k) r)[8],!(.lst (r.map λe=>mE (geD (FP k) e)))[8],none]) (b:=(qe (sIf (tOr (tE (eOp dNe (w6 (eOp qc (q9 0) (q9 2)) oNo (oE 2[5])) (w6 (eOp qc (q9 1) (q9 2)) oNo (oE 2[5])))) (tOr (tE (eOp dNe (eB qA [(eOp qc (q9 0) (q9 2))]) (eB qA [(eOp qc (q9 1) (q9 2))]))) (tE (eOp dNe (w6 (eOp qc (q9 0) (q9 2)) (oE 3[5]) oNo) (w6 (eOp qc (q9 1) (q9 2)) (oE 3[5]) oNo))))) (qp (eC (.bl false))) qr)
 (sIf (zo (tE (eOp dEq (eOp qc (eOp qc (q9 0) (q9 2)) 0[5]) (eC (.str "note")))) (jA (tE (qi uO [(eOp qc (eOp qc (q9 0) (q9 2)) 2[5]),(eOp qc (eOp qc (q9 1) (q9 2)) 2[5])])))) (qp (eC (.bl false))) qr))) (λn hn=>by
  have a:okD (ati (r.map (geD (FP k))) (n:Int))=.ok (geD (FP k) r[n])[8]:=by rw[jK,gC,gw hn];rfl
  have b:okD (ati (r.map λe=>mE (geD (FP k) e)) (n:Int))=.ok (mE (geD (FP k) r[n]))[8]:=by rw[jK,gC,gw hn];rfl
  have g:=h.1 r[n] (tR _);unfold gwD;generalize r[n]=ev at a b g;cases ev with
  | rest v =>
   rw[qg8]at b;have a:okD (ati (r.map (geD (FP k))) (n:Int))=.ok (.tup [.str "rest",.int v])[8]:=a;have s1:yI (.tup [.str "rest",.int v]) none ↑2=.ok (.tup [.str "rest",.int v])[8]:=by kernel_rfl
   have s2:yI (.tup [.str "rest",.int v]) ↑3 none=.ok (.tup [])[8]:=by kernel_rfl
   have n1:=neS2 "rest" v (.inl rfl);have n2:dNe (.tup []) (.tup [])=.ok (.bl false)[8]:=by kernel_rfl
   have n3:dEq (.str "rest") (.str "note")=.ok (.bl false)[8]:=by kernel_rfl
   simp![a,b,Kr,s1,s2,n1,n2,n3,fN]
  | note v hs t =>
   have hm:∀ x∈hs,x.m<7:=g.2.2;have hl:hs[1]<=24:=g.2.1;rw[qg9 k v hs t hm]at b;have a:okD (ati (r.map (geD (FP k))) (n:Int))=.ok (.tup [.str "note",.int v,.tup (hs.map h3D),.bl t])[8]:=a;have s1:∀ d,yI (.tup [.str "note",.int v,d,.bl t]) none ↑2=.ok (.tup [.str "note",.int v])[8]:=λd=>by kernel_rfl
   have s2:∀ d,yI (.tup [.str "note",.int v,d,.bl t]) ↑3 none=.ok (.tup [.bl t])[8]:=λd=>by kernel_rfl
   have n1:=neS2 "note" v (.inr rfl);have n2:dNe (.tup [.bl t]) (.tup [.bl t])=.ok (.bl false)[8]:=Yu (by cases t<;>rfl)
   have n3:dEq (.str "note") (.str "note")=.ok (.bl true)[8]:=by kernel_rfl
   have hu:=qg7 hs hl hm;simp![a,b,Kr,s1,s2,n1,n2,n3,fN,hu])
 unfold xm Xo;have l1:(eB qA [(q9 0)]) [!(gwD (FP k) r)[8],!(.lst (r.map λe=>mE (geD (FP k) e)))[8],none]=.ok (.int r[1])[8]:=by unfold gwD;simp![gg]
 have l2:(eB qA [(q9 1)]) [!(gwD (FP k) r)[8],!(.lst (r.map λe=>mE (geD (FP k) e)))[8],none]=.ok (.int r[1])[8]:=by simp![gg]
 rw[xX];show fin ((qe _ _) [!(gwD (FP k) r)[8],!(.lst (r.map λe=>mE (geD (FP k) e)))[8],none])=_
 rw[jv,kI,show(tE (eOp dNe (eB qA [(q9 0)]) (eB qA [(q9 1)]))) [!(gwD (FP k) r)[8],!(.lst (r.map λe=>mE (geD (FP k) e)))[8],none]=.ok false by rw[Yn,xV,l1,wV,l2];simp![fN],zt,Zv,Zw,jN,jv,xW,yz (n:=r[1]) l1 (by have:=h.2.1;lia),zt,e]
 rcases q with q|⟨j,q⟩<;>(subst q;rfl)
def qgb(z:List Int):∃ k,Jk [.fz (.lst (z.map D.int))]=.ok k[7]/\-7<=k/\k<=7:=by
 have c5:vI [.fz (.lst (z.map D.int)),.fz 5[6]]=.ok (cell z 5)[7]:=uR z 5;have b:=vm (cell z 5) 9883 15 "d"
 unfold Jk X5;exact#[qR (cell z 5) 9883 15-7,by simp![c5,(vk (cell z 5) 9883 15 "d" "d")],"",""]
def qgc(k)(Q):mB (grD (FP k) Q)=.lst (Q.map λr=>.lst (r.map λe=>mE (geD (FP k) e))):=by
 show D.lst ((Q.map (gwD (FP k))).map mR)=_;rw[gH];congr 1;apply gZ;intro r _;show D.lst ((r.map _).map mE)=_;rw[gH];rfl
def qgd(k)(z:List (List (List (GE (List H3)))))(ok:∀ Q∈z,za (FP k) Q)(B:z[1]<=200)(a0 a1 a2 a3 a4 a6):fin (Vm [a0,a1,a2,a3,a4,!(.lst (z.map (grD (FP k))))[8],a6,!(.lst (z.map λQ=>mB (grD (FP k) Q)))[8],none,none])=.ok (.bl true)[8]:=by
 have l5:∀ j8 j9:Option En,(eB qA [(q9 5)]) [a0,a1,a2,a3,a4,!(.lst (z.map (grD (FP k))))[8],a6,!(.lst (z.map λQ=>mB (grD (FP k) Q)))[8],j8,j9]=.ok (.int z[1])[8]:=λj8 j9=>by simp![gg]
 have l7:∀ j8 j9:Option En,(eB qA [(q9 7)]) [a0,a1,a2,a3,a4,!(.lst (z.map (grD (FP k))))[8],a6,!(.lst (z.map λQ=>mB (grD (FP k) Q)))[8],j8,j9]=.ok (.int z[1])[8]:=λj8 j9=>by simp![gg]
 obtain⟨ρ',e,j8,j9,h⟩:=vO (zb 0 z[1]) (λ_ ρ=>∃ j8 j9,ρ=[a0,a1,a2,a3,a4,!(.lst (z.map (grD (FP k))))[8],a6,!(.lst (z.map λQ=>mB (grD (FP k) Q)))[8],j8,j9]) (g:=gV 8) (b:=(qe (sIf (tE (eOp dNe (eB qA [(eOp qc (q9 5) (q9 8))]) (eB qA [(eOp qc (q9 7) (q9 8))]))) (qp (eC (.bl false))) qr)
 (qJ (iR1 (eB qA [(eOp qc (q9 5) (q9 8))])) (gV 9) (sIf (jA (tE (qi xm [(eOp qc (eOp qc (q9 5) (q9 8)) (q9 9)),(eOp qc (eOp qc (q9 7) (q9 8)) (q9 9))]))) (qp (eC (.bl false))) qr)))) (ρ:=[a0,a1,a2,a3,a4,!(.lst (z.map (grD (FP k))))[8],a6,!(.lst (z.map λQ=>mB (grD (FP k) Q)))[8],none,none]) #[none,none,rfl] (λn x ρ hx #[j8,j9,hρ]=>by
  subst hρ;rw[kC]at hx;by_cases c:n<z[1]
  .rw[if_pos c]at hx;cases hx;rw[bH];have g:=ok z[n] (tR _);have a:okD (ati (z.map (grD (FP k))) (n:Int))=.ok (.lst (z[n].map (gwD (FP k))))[8]:=by rw[jK,gC,gw c];rfl
   have b:okD (ati (z.map λQ=>mB (grD (FP k) Q)) (n:Int))=.ok (.lst (z[n].map λr=>.lst (r.map λe=>mE (geD (FP k) e))))[8]:=by rw[jK,gC,gw c,Option.map_some,qgc];rfl
   generalize z[n]=Q at a b g;obtain⟨ρ',e,q⟩:=Wj (n:=Q[1]) (i:=9) (ρ:=[a0,a1,a2,a3,a4,!(.lst (z.map (grD (FP k))))[8],a6,!(.lst (z.map λQ=>mB (grD (FP k) Q)))[8],!n[7],j9]) (b:=(sIf (jA (tE (qi xm [(eOp qc (eOp qc (q9 5) (q9 8)) (q9 9)),(eOp qc (eOp qc (q9 7) (q9 8)) (q9 9))]))) (qp (eC (.bl false))) qr)) (λv hv=>by
    have a2:okD (ati (Q.map (gwD (FP k))) (v:Int))=.ok (gwD (FP k) Q[v])[8]:=by rw[jK,gC,gw hv];rfl
    have b2:okD (ati (Q.map λr=>D.lst (r.map λe=>mE (geD (FP k) e))) (v:Int))=.ok (.lst (Q[v].map λe=>mE (geD (FP k) e)))[8]:=by rw[jK,gC,gw hv];rfl
    simp![a,b,a2,b2,qga k Q[v] (g.2 _ (tR _))])
   refine#[_,ρ',rfl,.inl ?_,?_]
   .simp![a,b,gg,fN];rw[yz (n:=Q[1]) (by simp![a,gg]) (by have:=g.1;lia),zt]
    exact e
   rcases q with q|⟨j,q⟩<;>(subst q;exact#[_,_,rfl])
  rw[if_neg c]at hx;cases hx)
 unfold Vm;rw[jv,kI,Yn,xV,l5,wV,l7,wV];simp![fN];rw[yz (l5 _ _) "",zt,e]
 subst h;rfl
def qge{z:List Nt}{k:Int}{Z B:Int}{n Y:Nat}{Qs O:List (List (List (GE (List H3))))}(P:Pg z k ms Z n ws Qs)(U:Pg (z.map sh) (k+1) ms B Y ws' O):O.map (grD (FP (k+1)))=Qs.map λQ=>mB (grD (FP k) Q):=by
 have w:ws'=shV ws:=by
  have r:=U.V.run;rw[qfN]at r;have r2:=Mo (rowOf z) [];rw[P.V.run]at r2;exact tG (r.symm.trans r2)
 have ee:endsOf (z.map sh)=endsOf z:=by unfold endsOf;rw[gH];rfl
 have e:B=Z:=Mf (λ_=>by rw[ee]) U.E.up U.E.is P.E.up P.E.is
 subst w e;have nn:Y=n:=by
  have:=U.nd.symm.trans P.nd;injection this with h;injection h with h;injection h with h;lia
 subst nn;rw[U.qd,qfQ,gH];have g:(gR∘λx:List (List Ev)=>x.map λy=>y.map shE)=shB∘gR:=by funext R;exact qg4 R
 rw[g,<- gH];have u:=MD k ((barsB ws ms Y).map gR) [];rw[show mA []=[]from rfl]at u
 rw[u,<- P.qd,gH];rfl
def qgf(z:List Int)(U:z[1]<=63):xo [.fz (.lst (z.map D.int))]=.ok (.bl true)[8]:=by
 have hz:sz=16777216:=rfl;obtain⟨k0,ke,k1,k2⟩:=qgb z;have hw:=qdg z;generalize (cell z 0%4==3)=wd at hw;have ne:=qdf z U wd;have N:=qdj z wd;have nl:=qdk z wd;have me:=qd0 z wd;have f:=Xt z wd;have l:=qd4 z wd;have g:=qef z wd;generalize xt z wd=nt at ne N nl;generalize wj z wd=ms at me f l g;have Nf:=N.filter λn=>decide (n.2.2<=120)
 have fl:(nt.filter λn=>decide (n.2.2<=120))[1]<=24:=tV (List.length_filter_le _ _) nl
 have B:∀ n∈nt.filter λn=>decide (n.2.2<=120),n.2.2<=120:=λn hn=>by simpa using(pH.mp hn).2
 generalize hf:(nt.filter λn=>decide (n.2.2<=120))=nf at Nf fl B
 have kb:-7<=(if k0<6 then k0 else 6)/\(if k0<6 then k0 else 6)<=6:=by split<;>lia
 generalize km:(if k0<6 then k0 else 6)=k at kb
 obtain⟨k3,k4⟩:=kb;obtain⟨en,n,ws,Qs,P⟩:=Mi nf Nf fl k k3 "" ms g f l
 obtain⟨Y,n',Z,Qs',P'⟩:=Mi (nf.map sh) (Nf.sh B) (by rw[gg];exact fl) (k+1) "" "" ms g f l
 have tp:=qge P P';obtain⟨b1,b2,b3,b4,b5,pg⟩:=P.pg .fz (.inl rfl);obtain⟨c1,c2,c3,c4,c5,O⟩:=P'.pg .br (.inr rfl);rw[tp]at O;have lo:=qgd k Qs P.ok (by have:=P.len;have:=P.N.few;lia) (!(.lst (z.map D.int))[8]) (!(.bl wd)[8]) (!(.lst (nf.map ntD))[9]) (!k[7]) (!(.lst (ms.map qw))[9]) (!(.lst ((nf.map sh).map ntD))[9])
 have s2:(qV 1 (ji (qi uN [(q9 0),(q9 1)])) (gV 10) (tE (eOp dLe (eOp qc (q9 10) 2[5]) 120[5])) (q9 10)) [!(.lst (z.map D.int))[8],!(.bl wd)[8],none,none,none,none,none,none,none,none]=.ok (.lst (nf.map ntD))[9]:=by
  refine yv (ds:=nt.map ntD) (vP (w:=.ow (.lst (nt.map ntD))) (by simp![ne]) rfl) (by rw[gg];lia) ?_
  rw[Qr 10 (λd=>match d with|.tup [_,_,.int p]=>decide (p<=120)|_=>false) (λd=>d) (nt.map ntD) _ λd hd=>?_]
  .rw[<- hf,List.map_id',List.filter_map];rfl
  obtain⟨x,_,rfl⟩:=gJ.mp hd;exact#[by simp![jc,ntD],λ_=>#[.fz (ntD x),rfl,rfl]]
 have s6:(qV 1 (iVc 2) (gV 10) jg (js [(eOp qc (q9 10) 0[5]),(eOp qc (q9 10) 1[5]),(eOp qz (eOp qc (q9 10) 2[5]) 7[5])])) [!(.lst (z.map D.int))[8],!(.bl wd)[8],!(.lst (nf.map ntD))[9],!k[7],!(.lst (ms.map qw))[9],!(.lst (Qs.map (grD (FP k))))[8],none,none,none,none]=.ok (.lst ((nf.map sh).map ntD))[9]:=by
  rw[gH];exact Q4 nf ntD (λp=>ntD (sh p)) (kK (w:=.ow (.lst (nf.map ntD))) rfl rfl) "" λp hp=>#[.fz (ntD (sh p)),by simp![jc,ro,ntD,sh],rfl]
 have i5:∀ a b c d e x,okD (ati [a,b,c,d,e,x] 5)=.ok x[8]:=λ_ _ _ _ _ _=>rfl
 unfold xo Xs;simp![hw];rw[s2];simp![ke,km,me,pg,i5];rw[s6];simp![O,i5];exact lo
section
variable{P:af}{w:World}{K:Frag}{mg:Str->Option aa}{base:Heap}
variable{W:Wd}(A:Al W FS BL CS)
include A
def qgg:Q W 1 0 yJ:=by
 exact fE A 0 ["head"] λhr nd hu=>((qk (qu (qq qT (qq vL qf (ue (qa 0) qf)) (ZK (gb (A.q 0)) (ue (qa 0) qf))))))
def qgh:Q W 1 1 uu:=by
 refine fE A 1 ["step","clef","lowest","above","below"] λhr nd hu=>?_
 exact(qh (qo 2 nd (qm (gb (A.q 1)) (qa 1)))
 (qh (qo 3 nd (qq jQ (qq jQ (qa 0) (qa 2)) (gb (A.q 2))))
 (qh (qo 4 nd (qq jQ (qa 2) (qa 0)))
 (qk (qu (qq kn (qP (qbK rfl) A.bl cP (qb (qa 3) (qb (qa 4) (qb qf qg)))) qf))))))
def MG:Q W 1 2 w9:=by
 exact fE A 2 ["prices","ahead"] λhr nd hu=>((qk (qu (vW (apS _ ["clef"]) (SI.c (zT (gb (A.q 3)))) (zJ 2) (λ_ _ _ _ _=>(qN 2 (ndc nd ["clef"]))) (λ_ _ _ _ _=>.nil) λ_ _ _ _ _=>(Zb (qF (jZ hu) (qa 2) (qa 1)) (qm (qa 0) (qa 2)) (qq qT (qm (qa 0) (qa 2)) (gb (A.q 4))))))))
def MH:Q W 1 3 uv:=by
 exact fE A 3 ["thing"] λhr nd hu=>((qk (qu (kt (Ql .int (qa 0) A.bl A.bl) (xN (qan (Ql .bool (qa 0) A.bl A.bl)))))))
def MI:Q W 1 4 yK:=by
 exact fE A 4 ["thing","least","most"] λhr nd hu=>((qk (qu (kt (Ql .list (qa 0) A.bl A.bl) (xN (Zq vM vM (qa 1) (qP jq A.bl hV (qb (qa 0) qg)) (qa 2)))))))
def xA:Q W 1 5 zB:=by
 exact fE A 5 ["sound"] λhr nd hu=>((qk (qu (qq qT (qm (qa 0) qf) (qm (qa 0) qf)))))
def qgi:Q W 1 6 y4:=by
 refine fE A 6 ["notes","pitches","note"] λhr nd hu=>?_
 exact(qh (YX 1 nd Zo)
 (qh (qZ gQ rfl (zT (qP ZW A.bl dq (qb (qa 0) qg))) (qN 2 nd) (qk (qbx 1 hu (qb (qm (qa 2) qf) (qb (qm (qa 2) qf) qg)) (jI qg) (qm (qa 2) qf))))
 (qk (qbA 1 (qu (vW (apS _ ["span"]) (SI.c (si_T 1)) (zJ 3) (λ_ _ _ _ _=>(qN 3 (ndc nd ["span"]))) (λ_ _ _ _ _=>.nil) λ_ _ _ _ _=>(zG (qb (qm (qa 3) qf) (qb (qm (qa 3) qf) (qb (ym YS A.bl boot_tuple (qb (qbC hu (qa 1) (qa 3)) qg)) qg))))))))))
def MJ:Q W 1 7 uw:=by
 refine fE A 7 ["length","row","left","value"] λhr nd hu=>?_
 obtain⟨_,_,z,B,O⟩:=A.q 5;exact(qh (qo 1 nd (jI qg))
 (qh (qo 2 nd (qa 0))
 (qh (qZ gQ rfl (qaG z B O) (qN 3 nd) (qk (Y5 520 gQ (qF vM (qa 3) (qa 2)) (qh (zR 1 (qa 3))
 (qk (ku 2 nd Y9 (qa 3)))))))
 (qk (zc 1)))))
def MK:Q W 1 8 uz:=by
 exact fE A 8 ["low","number","divisor"] λhr nd hu=>((qk (qu (qq qT (qa 0) (qq yk (qq jQ (qa 1) (qa 0)) (qa 2))))))
def ML:Q W 1 9 Ja:=by
 exact fE A 9 ["fifths"] λhr nd hu=>((qk (qu (qq kn (qq qT (qa 0) qf) qf))))
def MM:Q W 1 10 wa:=by
 refine fE A 10 ["bar","spots","voice","row","place","number","event"] λhr nd hu=>?_
 exact(qh (qo 1 nd (jI qg))
 (qh (qZ gQ rfl (kR 0 A.bl) (yq rfl (zS 2 nd (zS 3 nd yp))) (qh (qo 4 nd qf)
 (qk (qZ gQ rfl (kR 3 A.bl) (yq rfl (zS 5 nd (zS 6 nd yp))) (qh (zR 1 (zG (qb (qa 4) (qb (qa 2) (qb (qa 5) qg)))))
 (qk (ku 4 nd Qm (qm (qa 6) qf))))))))
 (qk (qu (qP ZW A.bl dq (qb (qa 1) qg))))))
def qgj:Q W 1 11 y6:=by
 refine fE A 11 ["event"] λhr nd hu=>?_
 exact(qh (qL (st_w (wE (qF kP (qa 0) wC) (wE (qF (jZ hu) (qm (qa 0) qf) vV) (yo (zH (jJ (qm (qa 0) qf))))))) (qk (qu wC)) qK)
 (qk (qu (qm (qa 0) qf))))
def qgk:Q W 1 12 Jc:=by
 refine fE A 12 ["bar","many","voice","event"] λhr nd hu=>?_
 have z:=ndc nd ["head"];exact(qh (qo 1 nd qf)
 (qh (zi 0 (qZ gQ rfl (vc 0) (qN 2 nd) (qk (zi 2 (qZ gQ rfl (vc 2) (qN 3 nd) (qk (qL (qF (jZ hu) (qm (qa 3) qf) vV) (qk (ku 1 nd Qm (qP jq A.bl hV (qb (vW (n:=1) (apS _ ["head"]) (SI.c (zT (qm (qa 3) qf))) (zJ 4) (λ_ _ _ _ _=>(qN 4 z)) (λ_ _ _ _ _=>(.one (qF qb9 (qm (qa 4) qf) wC))) λ_ _ _ _ _=>(qa 4)) qg)))) qK)))))))
 (qk (zc 1))))
def qgl:Q W 1 13 Jd:=by
 refine fE A 13 ["widths","room","bar","wide"] λhr nd hu=>?_
 exact(qk (qZ gQ rfl (kR 0 A.bl) (yq rfl (zS 2 nd (zS 3 nd yp))) (qk (qL (qF Z5 (qa 3) (qa 1)) (qk wF) qK))))
def qgm:Q W 1 14 uA:=by
 refine fE A 14 ["widths","room","first","best","choices","left","behind","cost"] λhr nd hu=>?_
 exact(qh (qo 4 nd (jI qg))
 (qh (qo 5 nd (qa 1))
 (qh (qZ gQ rfl (qbD (qq qT (qa 2) qf) (qq qT (qP jq A.bl hV (qb (qa 0) qg)) qf) A.bl) (qN 6 nd) (qh (ku 5 nd Y9 (qm (qa 0) (qq jQ (qa 6) qf)))
 (qh (qL (qF vy (qa 5) qf) (qk Y4) qK)
 (qh (qo 7 nd (Zb (qF (jZ hu) (qa 6) (qP jq A.bl hV (qb (qa 0) qg))) qf (qq qT (qq vL (qa 5) (qa 5)) (qm (qm (qa 3) (qa 6)) qf))))
 (qk (zR 4 (zG (qb (qa 7) (qb (vd (qa 6)) qg)))))))))
 (qk (zc 4)))))
def Wl:Q W 1 15 wc:=by
 refine fE A 15 ["told"] λhr nd hu=>?_
 exact(qk (qu (qq vL (qm (qa 0) qf) (qm (qa 0) qf))))
def qgn:Q W 1 16 y7:=by
 refine fE A 16 ["meter","at"] λhr nd hu=>?_
 exact(qh (qL (qF (jZ hu) (qa 1) qf) (qk (qu (vw (jZ hu) (qm (qm (qa 0) qf) qf) qf))) qK)
 (qk (qu (vw Z5 (qm (qm (qa 0) (qa 1)) qf) (qm (qm (qa 0) (qq jQ (qa 1) qf)) qf)))))
def xB:Q W 1 17 vI:=by
 refine fE A 17 ["_law_script","_law_k"] λhr nd hu=>?_
 exact(qh (qL (qF vy (qa 1) (qP jq A.bl hV (qb (qa 0) qg))) (qk (qu (qm (qa 0) (qa 1)))) qK)
 (qk (qu qf)))
def vt:Q W 1 18 zw:=by
 refine fE A 18 ["_law_cell_here","_law_prime","_law_many"] λhr nd hu=>?_
 exact(qk (qu (qq yk (qq yk (qq vL (qa 0) qf) (qa 1)) (qa 2))))
def qgo:Q W 1 19 Je:=by
 refine fE A 19 ["_law_note_here","_law_notes_here","_law_other"] λhr nd hu=>?_
 exact(qh (zi 1 (qZ gQ rfl (vc 1) (qN 2 nd) (qk (qL (st_w (wD (qF (jZ hu) (qm (qa 0) qf) (qm (qa 2) qf)) (wD (qF vy (qm (qa 0) qf) (qq qT (qm (qa 2) qf) (qm (qa 2) qf))) (yn (qF vy (qm (qa 2) qf) (qq qT (qm (qa 0) qf) (qm (qa 0) qf))))))) (qk (qu jV)) qK))))
 (qk (qu jV)))
def qgp:Q W 1 20 Jf:=by
 refine fE A 20 ["_law_note_here","_law_notes_here","_law_seen","_law_other"] λhr nd hu=>?_
 exact(qh (qo 2 nd Zo)
 (qh (zi 1 (qZ gQ rfl (vc 1) (qN 3 nd) (qk (qL (st_w (wD (qF vy (qm (qa 3) qf) (qq qT (qm (qa 0) qf) (qm (qa 0) qf))) (yn (qF vy (qm (qa 0) qf) (qq qT (qm (qa 3) qf) (qm (qa 3) qf)))))) (qk (qL (qF (vN hu) (zG (qb (qm (qa 3) qf) (qb (qm (qa 3) qf) qg))) (zG (qb (qm (qa 0) qf) (qb (qm (qa 0) qf) qg)))) (qk (qb0 2 hu (qb (qm (qa 3) qf) (qb (qm (qa 3) qf) qg)) jV)) qK)) qK))))
 (qk (qu (qP jq A.bl hV (qb (qa 2) qg))))))
def MN:Q W 1 21 uB:=by
 refine fE A 21 ["_law_head"] λhr nd hu=>?_
 exact(qk (qu (qq qT (qq vL qf (ue (qa 0) qf)) (ZK vV (ue (qa 0) qf)))))
def qgq:Q W 2 22 uC:=by
 refine fE A 22 ["bar","row","voice","event"] λhr nd hu=>?_
 have z:=ndc nd ["head"];exact(qh (qo 1 nd (jI qg))
 (qh (zi 0 (qZ gQ rfl (vc 0) (qN 2 nd) (qk (zi 2 (qZ gQ rfl (vc 2) (qN 3 nd) (qk (qL (qF (jZ hu) (qm (qa 3) qf) vV) (qk (QH 1 (vW (n:=1) (apS _ ["head"]) (SI.c (zT (qm (qa 3) qf))) (zJ 4) (λ_ _ _ _ _=>(qN 4 z)) (λ_ _ _ _ _=>.nil) λ_ _ _ _ _=>(cl (qgg A) (rm hr) (qb (qa 4) qg))))) qK)))))))
 (qk (zc 1))))
def qgr:Q W 2 23 yL:=by
 refine fE A 23 ["steps","clef"] λhr nd hu=>?_
 have z:=ndc nd ["step"];exact(qk (qu (qP (qaK rfl) A.bl boot_sum (qb (vW (n:=1) (apS _ ["step"]) (ky 0) (zJ 2) (λ_ _ _ _ _=>(qN 2 z)) (λ_ _ _ _ _=>.nil) λ_ _ _ _ _=>(cl (qgh A) (rm hr) (qb (qa 2) (qb (qa 1) qg)))) qg))))
def Wm:Q W 2 24 xf:=by
 refine fE A 24 ["thing","low","high"] λhr nd hu=>?_
 exact(qk (qu (kt (cl (MH A) (rm hr) (qb (qa 0) qg)) (xN (Zq vM vM (qa 1) (qa 0) (qa 2))))))
def qgs:Q W 2 25 uD:=by
 refine fE A 25 ["one","other"] λhr nd hu=>?_
 exact(qk (qu (kt (vw (jZ hu) (qm (qa 0) qf) (qm (qa 1) qf)) (kt (vw vy (qm (qa 0) qf) (cl (xA A) (rm hr) (qb (qa 1) qg))) (xN (vw vy (qm (qa 1) qf) (cl (xA A) (rm hr) (qb (qa 0) qg))))))))
def MO:Q W 2 26 xg:=by
 refine fE A 26 ["length"] λhr nd hu=>?_
 have z:=ndc nd ["value"];exact(qk (qu (vW (n:=1) (apS _ ["value"]) (SI.c (zT (cl (MJ A) (rm hr) (qb (qa 0) qg)))) (zJ 1) (λ_ _ _ _ _=>(qN 1 z)) (λ_ _ _ _ _=>.nil) λ_ _ _ _ _=>(zG (qb vV (qb (qa 1) qg))))))
def qgt:Q W 2 27 xh:=by
 refine fE A 27 ["chord","first","behind","end","row","tick","value"] λhr nd hu=>?_
 exact(qh (qo 3 nd (cl (xA A) (rm hr) (qb (qa 0) qg)))
 (qh (qo 4 nd (jI qg))
 (qh (qo 5 nd (qa 1))
 (qh (qZ gQ rfl (zT (cl (MJ A) (rm hr) (qb (qq jQ (qa 2) (qa 1)) qg))) (qN 6 nd) (qh (ku 5 nd Qm (qa 6))
 (qk (zR 4 (zG (qb vV (qb (qa 6) (qb (qm (qa 0) qf) (qb (vw vy (qa 5) (qa 3)) qg)))))))))
 (qk (zc 4))))))
def qgu:Q W 2 28 Vj:=by
 refine fE A 28 ["pitch","key"] λhr nd hu=>?_
 exact(qk (qu (cl (MK A) (rm hr) (qb (qq jQ (qa 1) qf) (qb (qq vL qf (qa 0)) (qb qf qg))))))
def qgv:Q W 2 29 yM:=by
 refine fE A 29 ["letter","key"] λhr nd hu=>?_
 exact(qk (qu (cl (ML A) (rm hr) (qb (cl (MK A) (rm hr) (qb (qq jQ (qa 1) qf) (qb (qq jQ (ZK (gb (A.q 6)) (qa 0)) qf) (qb qf qg)))) qg))))
def qgw:Q W 2 30 y8:=by
 refine fE A 30 ["bar","places"] λhr nd hu=>?_
 have z:=ndc nd ["spot"];exact(qh (qo 1 nd (qcm (vW (n:=1) (apS _ ["spot"]) (SI.c (zT (cl (MM A) (rm hr) (qb (qa 0) qg)))) (zJ 2) (λ_ _ _ _ _=>(qN 2 z)) (λ_ _ _ _ _=>.nil) λ_ _ _ _ _=>(qm (qa 2) qf)) A.bl A.bl))
 (qk (qu (qq qT (qq qT (gb (A.q 7)) (qq vL (gb (A.q 8)) (qa 1))) (cl (qgk A) (rm hr) (qb (qa 0) qg))))))
def qgx:Q W 2 31 Jg:=by
 refine fE A 31 ["widths","room","best","first"] λhr nd hu=>?_
 exact(qh (qL (zH (jJ (cl (MH A) (rm hr) (qb (qa 1) qg)))) (qk wF) qK)
 (qh (Zc (cl (qgl A) (rm hr) (qb (qa 0) (qb (qa 1) qg))))
 (qh (qo 2 nd (qq qbV (jI (qb (zG (qb qf (qb qf qg))) qg)) (qP jq A.bl hV (qb (qa 0) qg))))
 (qh (qZ gQ rfl (qc0 (qq jQ (qP jq A.bl hV (qb (qa 0) qg)) qf) (vd qf) (vd qf) A.bl) (qN 3 nd) (qk (qaW 2 (qa 3) (qP (qbY hu rfl) A.bl po (qb (cl (qgm A) (rm hr) (qb (qa 0) (qb (qa 1) (qb (qa 3) (qb (qa 2) qg))))) qg)))))
 (qk (zc 2))))))
def qgy:Q W 2 32 uE:=by
 refine fE A 32 ["meter","many","changes","told","row","length","bar"] λhr nd hu=>?_
 exact(qh (qo 2 nd Yf)
 (qh (zi 0 (qZ gQ rfl (vc 0) (qN 3 nd) (qk (Yg 2 hu (qm (qa 3) qf) (cl (Wl A) (rm hr) (qb (qa 3) qg))))))
 (qh (qo 4 nd (jI qg))
 (qh (qo 5 nd qf)
 (qh (qZ gQ rfl (yr (qa 1) A.bl) (qN 6 nd) (qh (qo 5 nd (qaJ (qa 2) (qa 6) (qa 5)))
 (qk (zR 4 (qa 5)))))
 (qk (zc 4)))))))
def qgz:Q W 2 33 Jh:=by
 refine fE A 33 ["meter","tick","bar","begin","length","told","told_begin"] λhr nd hu=>?_
 exact(qh (qo 2 nd qf)
 (qh (qo 3 nd qf)
 (qh (qo 4 nd qf)
 (qh (zi 0 (qZ gQ rfl (vc 0) (qN 5 nd) (qh (qo 6 nd (qq qT (qa 3) (qq vL (qq jQ (qm (qa 5) qf) (qa 2)) (qa 4))))
 (qh (qL (qF vy (qa 1) (qa 6)) (qk Y4) qK)
 (qh (qo 2 nd (qm (qa 5) qf))
 (qh (qo 3 nd (qa 6))
 (qk (qo 4 nd (cl (Wl A) (rm hr) (qb (qa 5) qg))))))))))
 (qk (qu (zG (qb (qq qT (qa 2) (qq kn (qq jQ (qa 1) (qa 3)) (qa 4))) (qb (qq yk (qq jQ (qa 1) (qa 3)) (qa 4)) qg)))))))))
def qgA:Q W 2 34 uF:=by
 refine fE A 34 ["voices","tick","number","voice"] λhr nd hu=>?_
 exact(qh (qZ gQ rfl (kR 0 A.bl) (yq rfl (zS 2 nd (zS 3 nd yp))) (qk (qL (qF vM (cl (xA A) (rm hr) (qb (qm (qa 3) (vd qf)) qg)) (qa 1)) (qk (zc 2)) qK)))
 (qk (qu (qP jq A.bl hV (qb (qa 0) qg)))))
def qgB:Q W 2 35 Ji:=by
 refine fE A 35 ["_law_script"] λhr nd hu=>?_
 exact(qk (qu (vw (jZ hu) (cl (vt A) (rm hr) (qb (qq qT (cl (xB A) (rm hr) (qb (qa 0) (qb qf qg))) (qq vL qf (qP jq A.bl hV (qb (qa 0) qg)))) (qb qf (qb qf qg)))) qf)))
def qgC:Q W 2 36 uG:=by
 refine fE A 36 ["_law_cell_here","_law_notes_here","_law_wide_here","_law_start","_law_length","_law_pitch","_law_last","_law_turn"] λhr nd hu=>?_
 exact(qh (qo 3 nd (cl (vt A) (rm hr) (qb (qa 0) (qb qf (qb qf qg)))))
 (qh (qo 4 nd (qq qT qf (cl (vt A) (rm hr) (qb (qa 0) (qb qf (qb qf qg))))))
 (qh (qo 5 nd (qq qT qf (cl (vt A) (rm hr) (qb (qa 0) (qb qf (qb qf qg))))))
 (qh (qo 6 nd qf)
 (qh (qL (jJ (qa 2)) (qh (qo 3 nd (cl (vt A) (rm hr) (qb (qa 0) (qb qf (qb qf qg)))))
 (qh (qo 4 nd (qq qT qf (cl (vt A) (rm hr) (qb (qa 0) (qb qf (qb qf qg))))))
 (qh (qo 5 nd (cl (vt A) (rm hr) (qb (qa 0) (qb qf (qb qf qg)))))
 (qk (qo 6 nd qf))))) qK)
 (qh (qo 7 nd (cl (vt A) (rm hr) (qb (qa 0) (qb qf (qb qf qg)))))
 (qh (qL (st_w (wD (jJ (qa 1)) (yn (qF (jZ hu) (qa 7) qf)))) (qh (qo 3 nd (qm (qm (qa 1) (vd qf)) qf))
 (qk (qo 4 nd (qm (qm (qa 1) (vd qf)) qf)))) qK)
 (qh (qL (st_w (wD (jJ (qa 1)) (wD (qF (jZ hu) (qa 7) qf) (yn (qF vM (qq qT (qm (qm (qa 1) (vd qf)) qf) (qm (qm (qa 1) (vd qf)) qf)) (qa 6)))))) (qh (qo 3 nd (qq qT (qm (qm (qa 1) (vd qf)) qf) (qm (qm (qa 1) (vd qf)) qf)))
 (qk (qL (qF (jZ hu) (cl (vt A) (rm hr) (qb (qa 0) (qb qf (qb qf qg)))) qf) (qk (qo 5 nd (qm (qm (qa 1) (vd qf)) qf))) qK))) qK)
 (qk (qu (zG (qb (qa 3) (qb (qa 4) (qb (qa 5) qg))))))))))))))
def qgD:Q W 2 37 Jj:=by
 refine fE A 37 ["_law_script"] λhr nd hu=>?_
 exact(qk (qu (vw (jZ hu) (qq yk (cl (xB A) (rm hr) (qb (qa 0) (qb qf qg))) qf) qf)))
def qgE:Q W 2 38 uH:=by
 refine fE A 38 ["_law_cell_here","_law_bar","_law_wide_here","_law_units","_law_least","_law_most","_law_unit","_law_low","_law_high"] λhr nd hu=>?_
 exact(qh (qo 3 nd (jI (qb qf (qb qf (qb qf (qb qf (qb qf (qb qf (qb qf qg)))))))))
 (qh (qo 4 nd qf)
 (qh (qo 5 nd qf)
 (qh (qL (jJ (qa 2)) (qh (qo 3 nd (jI (qb qf (qb qf (qb qf (qb qf (qb qf qg)))))))
 (qh (qo 4 nd qf)
 (qk (qo 5 nd qf)))) qK)
 (qh (qo 6 nd (qm (qa 3) (cl (vt A) (rm hr) (qb (qa 0) (qb qf (qb (qP jq A.bl hV (qb (qa 3) qg)) qg))))))
 (qh (qo 7 nd (qq kn (qq jQ (qq qT (qa 4) (qa 6)) qf) (qa 6)))
 (qh (qo 8 nd (qP (Zp rfl) A.bl po (qb qf (qb (qq kn (qa 5) (qa 6)) qg))))
 (qk (qu (zG (qb (qa 1) (qb (qq qT (qa 7) (cl (vt A) (rm hr) (qb (qa 0) (qb qf (qb (qq qT (qq jQ (qa 8) (qa 7)) qf) qg))))) (qb (qa 6) qg)))))))))))))
def qgF:Q W 2 39 Jk:=by
 refine fE A 39 ["_law_script"] λhr nd hu=>?_
 exact(qk (qu (qq jQ (cl (vt A) (rm hr) (qb (cl (xB A) (rm hr) (qb (qa 0) (qb qf qg))) (qb qf (qb qf qg)))) qf)))
def qgG:Q W 2 40 uI:=by
 refine fE A 40 ["_law_one","_law_two"] λhr nd hu=>?_
 exact(qh (qL (qF (vN hu) (cl (MN A) (rm hr) (qb (qa 1) qg)) (qq qT (cl (MN A) (rm hr) (qb (qa 0) qg)) qf)) (qk (qu jV)) qK)
 (qh (qL (st_w (wE (qF kP (qm (qa 0) qf) wC) (yo (qF kP (qm (qa 1) qf) wC)))) (qk (qu (kt (vw kP (qm (qa 0) qf) wC) (xN (vw kP (qm (qa 1) qf) wC))))) qK)
 (qk (qu (vw (jZ hu) (qm (qa 1) qf) (qq qT (qm (qa 0) qf) (ym qbE A.bl boot_int (qb (vw (jZ hu) (qm (qa 0) qf) vV) qg))))))))
def qgH:Q W 3 41 uJ:=by
 refine fE A 41 ["bars","told","prices","bar","steps"] λhr nd hu=>?_
 have z:=ndc nd ["clef"];exact(qh (qo 1 nd (jI qg))
 (qh (qo 2 nd (jI (qb qf (qb qf (qb qf qg)))))
 (qh (qZ gQ rfl (qbP 0 A.bl) (qN 3 nd) (qh (qo 4 nd (cl (qgq A) (rm hr) (qb (qa 3) qg)))
 (qh (qo 2 nd (vW (n:=1) (apS _ ["clef"]) (SI.c (zT (gb (A.q 3)))) (zJ 5) (λ_ _ _ _ _=>(qN 5 z)) (λ_ _ _ _ _=>.nil) λ_ _ _ _ _=>(qq qT (cl (qgr A) (rm hr) (qb (qa 4) (qb (qa 5) qg))) (qP (K9 rfl) A.bl po (qb (cl (MG A) (rm hr) (qb (qa 2) (qb (qa 5) qg))) qg)))))
 (qk (zi 2 (zR 1 (qa 2)))))))
 (qk (qu (qbr (qa 1) A.bl A.bl))))))
def MP:Q W 3 42 y9:=by
 refine fE A 42 ["thing","bounds","number","bound"] λhr nd hu=>?_
 exact(qh (qL (st_w (wE (zH (jJ (Ql .tuple (qa 0) A.bl A.bl))) (yo (qF (vN hu) (qP jq A.bl hV (qb (qa 0) qg)) (qP jq A.bl hV (qb (qa 1) qg)))))) (qk (qu jV)) qK)
 (qh (qZ gQ rfl (qbl 0 1 A.bl) (yq rfl (zS 2 nd (zS 3 nd yp))) (qk (qL (zH (jJ (cl (Wm A) (rm hr) (qb (qa 2) (qb (qm (qa 3) qf) (qb (qm (qa 3) qf) qg)))))) (qk (qu jV)) qK)))
 (qk (qu jV))))
def qgI:Q W 3 43 xi:=by
 refine fE A 43 ["notes","at","ahead"] λhr nd hu=>?_
 exact(qh (qZ gQ rfl (zT (YA (qa 0) u8 (yA (qa 1)))) (qN 2 nd) (qk (qL (jJ (cl (qgs A) (rm hr) (qb (qa 2) (qb (qm (qa 0) (qa 1)) qg)))) (qk (qu jV)) qK)))
 (qk (qu jV)))
def qgJ:Q W 3 44 uK:=by
 refine fE A 44 ["voice","begin","end","row","filled","chord","first","behind"] λhr nd hu=>?_
 exact(qh (qo 3 nd (jI qg))
 (qh (qo 4 nd (qa 1))
 (qh (zi 0 (qZ gQ rfl (vc 0) (qN 5 nd) (qh (qo 6 nd (qP (Yh rfl) A.bl cP (qb (qm (qa 5) qf) (qb (qa 1) qg))))
 (qh (qo 7 nd (qP (Zp rfl) A.bl po (qb (cl (xA A) (rm hr) (qb (qa 5) qg)) (qb (qa 2) qg))))
 (qk (qL (qF vy (qa 6) (qa 7)) (qh (QH 3 (cl (MO A) (rm hr) (qb (qq jQ (qa 6) (qa 4)) qg)))
 (qh (QH 3 (cl (qgt A) (rm hr) (qb (qa 5) (qb (qa 6) (qb (qa 7) qg)))))
 (qk (qo 4 nd (qa 7))))) qK))))))
 (qh (QH 3 (cl (MO A) (rm hr) (qb (qq jQ (qa 2) (qa 4)) qg)))
 (qk (zc 3))))))
def qgK:Q W 3 45 Jl:=by
 refine fE A 45 ["key"] λhr nd hu=>?_
 exact(qh (qL (zH (jJ (cl (Wm A) (rm hr) (qb (qa 0) (qb (gb (A.q 9)) (qb (gb (A.q 10)) qg)))))) (qk wF) qK)
 (qk (zc 0)))
def qgL:Q W 3 46 uL:=by
 refine fE A 46 ["pitch","key","fifths","letter","alter","octave"] λhr nd hu=>?_
 exact(qh (qo 2 nd (cl (qgu A) (rm hr) (qb (qa 0) (qb (qa 1) qg))))
 (qh (qo 3 nd (ue (gb (A.q 6)) (qq yk (qq qT (qa 2) qf) qf)))
 (qh (qo 4 nd (cl (ML A) (rm hr) (qb (qa 2) qg)))
 (qh (qo 5 nd (qq kn (qq jQ (qq jQ (qa 0) (qaj (gb (A.q 21)) (qa 3))) (qa 4)) qf))
 (qk (qu (zG (qb (qa 3) (qb (qa 4) (qb (qa 5) qg))))))))))
def qgM:Q W 3 47 Jm:=by
 refine fE A 47 ["letter","octave","alters","key"] λhr nd hu=>?_
 exact(qk (qu (qcz hu (qa 2) (qb (qa 0) (qb (qa 1) qg)) (cl (qgv A) (rm hr) (qb (qa 0) (qb (qa 3) qg))))))
def qgN:Q W 3 48 Jn:=by
 refine fE A 48 ["room"] λhr nd hu=>?_
 exact(qh (qL (zH (jJ (cl (Wm A) (rm hr) (qb (qa 0) (qb (gb (A.q 11)) (qb (gb (A.q 12)) qg)))))) (qk wF) qK)
 (qk (zc 0)))
def qgO:Q W 3 49 Jo:=by
 refine fE A 49 ["widths","room","best","row","first"] λhr nd hu=>?_
 exact(qh (qo 2 nd (cl (qgx A) (rm hr) (qb (qa 0) (qb (qa 1) qg))))
 (qh (qo 3 nd (jI qg))
 (qh (qo 4 nd qf)
 (qh (Y5 180 gQ (qF vy (qa 4) (qP jq A.bl hV (qb (qa 0) qg))) (qh (zR 3 (qa 4))
 (qk (qo 4 nd (vd (qm (qm (qa 2) (qa 4)) qf))))))
 (qk (zc 3))))))
def qgP:Q W 3 50 yN:=by
 refine fE A 50 ["meter","end","last"] λhr nd hu=>?_
 exact(qh (qo 2 nd (qP (Yh rfl) A.bl cP (qb (qq jQ (qa 1) qf) (qb qf qg))))
 (qk (qu (qq qT (qm (cl (qgz A) (rm hr) (qb (qa 0) (qb (qa 2) qg))) qf) qf))))
def qgQ:Q W 3 51 yO:=by
 refine fE A 51 ["row","voices","chord","number"] λhr nd hu=>?_
 exact(qh (YX 1 nd (jI qg))
 (qh (zi 0 (qZ gQ rfl (vc 0) (qN 2 nd) (qh (qo 3 nd (YV 1 (cl (qgA A) (rm hr) (qb (qa 1) (qb (qm (qa 2) qf) qg)))))
 (qh (qL (qF (jZ hu) (qa 3) (gb (A.q 13))) (qk wF) qK)
 (qh (qL (qF (jZ hu) (qa 3) (YV 1 (qP jq A.bl hV (qb (qa 1) qg)))) (qk (qbt 1 (jI qg))) qK)
 (qk (YY 1 (qa 3) (qa 2))))))))
 (qk (YW 1 (zc 1)))))
def qgR:Q W 3 52 uN:=by
 refine fE A 52 ["_law_script","_law_wide_here","_law_most","_law_found","_law_cell_here","_law_note_here"] λhr nd hu=>?_
 exact(qh (qo 2 nd qf)
 (qh (qL (jJ (cl (qgB A) (rm hr) (qb (qa 0) qg))) (qk (qo 2 nd qf)) qK)
 (qh (qL (qF Z5 (qP jq A.bl hV (qb (qa 0) qg)) qf) (qk (qo 2 nd qf)) qK)
 (qh (qo 3 nd (jI qg))
 (qh (qZ gQ rfl (zT (YA (qa 0) (yA qf) (yA (qq qT qf (qa 2))))) (qN 4 nd) (qh (qo 5 nd (cl (qgC A) (rm hr) (qb (qa 4) (qb (qa 3) (qb (qa 1) qg)))))
 (qk (qL (st_w (wD (jJ (cl (qgo A) (rm hr) (qb (qa 5) (qb (qa 3) qg)))) (yn (qF vM (cl (qgp A) (rm hr) (qb (qa 5) (qb (qa 3) qg))) qf)))) (qk (zR 3 (qa 5))) qK))))
 (qk (zc 3)))))))
def qgS:Q W 3 53 Jp:=by
 refine fE A 53 ["_law_script","_law_wide_here","_law_found","_law_bar","_law_k","_law_cell_here"] λhr nd hu=>?_
 exact(qh (qo 2 nd (jI qg))
 (qh (qo 3 nd qf)
 (qh (qZ gQ rfl (yr (qq qT qf (qq yk (cl (xB A) (rm hr) (qb (qa 0) (qb qf qg))) qf)) A.bl) (qN 4 nd) (qh (qo 5 nd (qq qT (cl (xB A) (rm hr) (qb (qa 0) (qb qf qg))) (qq vL qf (cl (xB A) (rm hr) (qb (qa 0) (qb (qq qT qf (qa 4)) qg))))))
 (qh (zR 2 (cl (qgE A) (rm hr) (qb (qa 5) (qb (qa 3) (qb (qa 1) qg)))))
 (qk (qo 3 nd (qq qT (qq qT (qa 3) qf) (cl (vt A) (rm hr) (qb (qa 5) (qb qf (qb qf qg))))))))))
 (qk (zc 2)))))
def qgT:Q W 3 54 uO:=by
 refine fE A 54 ["_law_one","_law_two","_law_k"] λhr nd hu=>?_
 exact(qh (qL (qF (vN hu) (qP jq A.bl hV (qb (qa 0) qg)) (qP jq A.bl hV (qb (qa 1) qg))) (qk (qu jV)) qK)
 (qh (qZ gQ rfl (yr (qP jq A.bl hV (qb (qa 0) qg)) A.bl) (qN 2 nd) (qk (qL (zH (jJ (cl (qgG A) (rm hr) (qb (qm (qa 0) (qa 2)) (qb (qm (qa 1) (qa 2)) qg))))) (qk (qu jV)) qK)))
 (qk (qu jV))))
def qgU:Q W 4 55 Jq:=by
 refine fE A 55 ["bars","row","prices","costs"] λhr nd hu=>?_
 exact(qh (qo 1 nd (jI qg))
 (qh (qZ gQ rfl (zT (cl (qgH A) (rm hr) (qb (qa 0) qg))) (qN 2 nd) (qh (qo 3 nd (Zb (jJ (qa 1)) (cl (MG A) (rm hr) (qb (qa 2) (qb (qm (qa 1) (vd qf)) qg))) (qa 2)))
 (qk (zR 1 (qbU (qa 3) (qP (K9 rfl) A.bl po (qb (qa 3) qg)))))))
 (qk (zc 1))))
def qgV:Q W 4 56 uP:=by
 refine fE A 56 ["notes","at","note"] λhr nd hu=>?_
 exact(qh (qL (zH (jJ (cl (MI A) (rm hr) (qb (qa 0) (qb qf (qb (gb (A.q 14)) qg)))))) (qk wF) qK)
 (qh (qZ gQ rfl (kR 0 A.bl) (yq rfl (zS 1 nd (zS 2 nd yp))) (qk (qL (st_w (wE (zH (jJ (cl (MP A) (rm hr) (qb (qa 2) (qb (gb (A.q 15)) qg))))) (yo (jJ (cl (qgI A) (rm hr) (qb (qa 0) (qb (qa 1) qg))))))) (qk wF) qK)))
 (qk (qu (qP ZW A.bl dq (qb (qa 0) qg))))))
def qgW:Q W 4 57 xj:=by
 refine fE A 57 ["voice","lengths","bars","begin","length"] λhr nd hu=>?_
 exact(qh (qo 2 nd (jI qg))
 (qh (qo 3 nd qf)
 (qh (zi 1 (qZ gQ rfl (vc 1) (qN 4 nd) (qh (zR 2 (cl (qgJ A) (rm hr) (qb (qa 0) (qb (qa 3) (qb (qq qT (qa 3) (qa 4)) qg)))))
 (qk (ku 3 nd Qm (qa 4))))))
 (qk (zc 2)))))
def MQ:QI W 4 58 Jr:=by
 refine fEI A 58 ["pitches","tied","alters","key","heads","pitch","name","letter","octave","sign"] λhr nd hu=>?_
 exact(qh (qo 4 nd (jI qg))
 (qh (zi 0 (qZ gQ rfl (vc 0) (qN 5 nd) (qh (qo 6 nd (cl (qgL A) (rm hr) (qb (qa 5) (qb (qa 3) qg))))
 (qh (qo 7 nd (qm (qa 6) qf))
 (qh (qo 8 nd (qm (qa 6) qf))
 (qh (qo 9 nd wC)
 (qh (qL (st_w (wD (qF kP (qa 1) wC) (yn (qF (vN hu) (cl (qgM A) (rm hr) (qb (qa 7) (qb (qa 8) (qb (qcp 2) (qb (qa 3) qg))))) (qm (qa 6) qf))))) (qh (qo 9 nd (qm (qa 6) qf))
 (qk (qcs 2 hu (qb (qa 7) (qb (qa 8) qg)) (qa 9)))) qK)
 (qk (zR 4 (zG (qb (qa 7) (qb (qa 8) (qb (qa 9) qg)))))))))))))
 (qk (qcr 2 (ym YS A.bl boot_tuple (qb (qa 4) qg))))))
def qgX:Q W 4 59 xk:=by
 refine fE A 59 ["thing"] λhr nd hu=>?_
 exact(qh (qL (st_w (wE (zH (jJ (cl (MP A) (rm hr) (qb (qa 0) (qb (gb (A.q 16)) qg))))) (yo (qF (qaY hu) (qm (qa 0) qf) (gb (A.q 17)))))) (qk (qu jV)) qK)
 (qk (qu (Zq vM vM (gb (A.q 18)) (cl (Wl A) (rm hr) (qb (qa 0) qg)) (gb (A.q 19))))))
def qgY:Q W 4 60 xm:=by
 refine fE A 60 ["_law_one","_law_two","_law_k"] λhr nd hu=>?_
 exact(qh (qL (qF (vN hu) (qP jq A.bl hV (qb (qa 0) qg)) (qP jq A.bl hV (qb (qa 1) qg))) (qk (qu jV)) qK)
 (qh (qZ gQ rfl (yr (qP jq A.bl hV (qb (qa 0) qg)) A.bl) (qN 2 nd) (qh (qL (st_w (wE (qF (vN hu) (J6 (qm (qa 0) (qa 2)) u8 (yA qf)) (J6 (qm (qa 1) (qa 2)) u8 (yA qf))) (wE (qF (vN hu) (qP jq A.bl hV (qb (qm (qa 0) (qa 2)) qg)) (qP jq A.bl hV (qb (qm (qa 1) (qa 2)) qg))) (yo (qF (vN hu) (J6 (qm (qa 0) (qa 2)) (yA qf) u8) (J6 (qm (qa 1) (qa 2)) (yA qf) u8)))))) (qk (qu jV)) qK)
 (qk (qL (st_w (wD (qF (jZ hu) (qm (qm (qa 0) (qa 2)) qf) vV) (yn (zH (jJ (cl (qgT A) (rm hr) (qb (qm (qm (qa 0) (qa 2)) qf) (qb (qm (qm (qa 1) (qa 2)) qf) qg)))))))) (qk (qu jV)) qK))))
 (qk (qu jV))))
def qgZ:Q W 5 61 xn:=by
 refine fE A 61 ["bars","key","turn","told","ahead","bar","alters","rows","spot","voice","event","tied"] λhr nd hu=>?_
 obtain⟨_,_,MS,xC⟩:=id (MQ A);have z:=ndc nd ["row"];exact(qh (qo 3 nd (jI qg))
 (qh (qo 4 nd Yf)
 (qh (zi 0 (qZ gQ rfl (vc 0) (qN 5 nd) (qh (qo 6 nd Zo)
 (qh (qbN 7 (n:=1) (apS _ ["row"]) (λ_ _=>qbL _ _ _) nd (ky 5) (zJ 12) (λ_ _ _ _ _=>(qN 12 z)) λ_ _ _ _ _=>(jI qg))
 (qh (qZ gQ rfl (zT (cl (MM A) (rm hr) (qb (qa 5) qg))) (qN 8 nd) (qh (qo 9 nd (qm (qa 8) qf))
 (qh (qo 10 nd (qm (qm (qa 5) (qa 9)) (qm (qa 8) qf)))
 (qh (qL (qF (jZ hu) (qm (qa 10) qf) vV) (qh (qo 11 nd (cl (qgj A) (rm hr) (qb (qcA (qa 4) (qa 9)) qg)))
 (qk (qcE 10 nd (qcD (V1 vV (V1 (qm (qa 10) qf) (qcC (qcy 2 MS (rm hr) xC.2 xC.3 xC.4 (Kq (qm (qa 10) qf) (Kq (qa 11) (qct 6 (qb (qa 1) qg))))) (V1 (qm (qa 10) qf) qcB)))))))) qK)
 (qh (YY 7 (qa 9) (qa 10))
 (qk (Yg 4 hu (qa 9) (qa 10))))))))
 (qk (YW 7 (zi 7 (zR 3 (qa 7))))))))))
 (qk (zc 3)))))
def qh0:Q W 5 62 Js:=by
 refine fE A 62 ["meter","at","told"] λhr nd hu=>?_
 exact(qh (qL (zH (jJ (cl (MI A) (rm hr) (qb (qa 0) (qb qf (qb (gb (A.q 20)) qg)))))) (qk wF) qK)
 (qh (qZ gQ rfl (kR 0 A.bl) (yq rfl (zS 1 nd (zS 2 nd yp))) (qk (qL (st_w (wE (zH (jJ (cl (qgX A) (rm hr) (qb (qa 2) qg)))) (yo (zH (jJ (cl (qgn A) (rm hr) (qb (qa 0) (qb (qa 1) qg)))))))) (qk wF) qK)))
 (qk (qu (ym Qg A.bl pL (qb (qa 0) qg))))))
def qh1:Q W 5 63 Vl:=by
 refine fE A 63 ["notes","meter","end","lengths","voices","bars","number"] λhr nd hu=>?_
 have B:=ndc nd ["note"];have z:=ndc nd ["voice"];exact(qh (qo 2 nd (qb8 (vW (n:=1) (apS _ ["note"]) (ky 0) (zJ 7) (λ_ _ _ _ _=>(qN 7 B)) (λ_ _ _ _ _=>.nil) λ_ _ _ _ _=>(cl (xA A) (rm hr) (qb (qa 7) qg))) qf A.bl))
 (qh (qo 3 nd (cl (qgy A) (rm hr) (qb (qa 1) (qb (cl (qgP A) (rm hr) (qb (qa 1) (qb (qa 2) qg))) qg))))
 (qh (Qo 4 (n:=1) (apS _ ["voice"]) nd (SI.c (zT (cl (qgQ A) (rm hr) (qb (cl (qgi A) (rm hr) (qb (qa 0) qg)) qg)))) (zJ 7) (λ_ _ _ _ _=>(qN 7 z)) (λ_ _ _ _ _=>.nil) λ_ _ _ _ _=>(cl (qgW A) (rm hr) (qb (qa 7) (qb (qa 3) qg))))
 (qh (qo 5 nd (jI qg))
 (qh (qZ gQ rfl (yr (qP jq A.bl hV (qb (qa 3) qg)) A.bl) (qN 6 nd) (qk (zR 5 (vW (n:=1) (apS _ ["voice"]) (ky 4) (zJ 7) (λ_ _ _ _ _=>(qN 7 z)) (λ_ _ _ _ _=>.nil) λ_ _ _ _ _=>(qm (qa 7) (qa 6))))))
 (qk (zc 5)))))))
def qh2:Q W 6 64 Jt:=by
 refine fE A 64 ["bars","key"] λhr nd hu=>?_
 obtain⟨_,_,MS,xC⟩:=id (MQ A);exact(qk (qu (cl (qgZ A) (rm hr) (qb (qa 0) (qb (qa 1) (qb (qcw xC.1 xC.4) qg))))))
def MR:Q W 7 65 uQ:=by
 refine fE A 65 ["notes","key","meter","room","told_meter","told_notes","bars","widths"] λhr nd hu=>?_
 have z:=ndc nd ["bar"];exact(qh (Zc (cl (qgK A) (rm hr) (qb (qa 1) qg)))
 (qh (qo 4 nd (cl (qh0 A) (rm hr) (qb (qa 2) qg)))
 (qh (qo 5 nd (cl (qgV A) (rm hr) (qb (qa 0) qg)))
 (qh (Zc (cl (qgN A) (rm hr) (qb (qa 3) qg)))
 (qh (qo 6 nd (cl (qh2 A) (rm hr) (qb (cl (qh1 A) (rm hr) (qb (qa 5) (qb (qa 4) qg))) (qb (qa 1) qg))))
 (qh (Qo 7 (n:=1) (apS _ ["bar"]) nd (ky 6) (zJ 8) (λ_ _ _ _ _=>(qN 8 z)) (λ_ _ _ _ _=>.nil) λ_ _ _ _ _=>(cl (qgw A) (rm hr) (qb (qa 8) qg)))
 (qk (zi 7 (zi 6 (zi 4 (qu (zG (qb (qa 1) (qb (qa 4) (qb (qa 3) (qb (cl (qgU A) (rm hr) (qb (qa 6) qg)) (qb (cl (qgO A) (rm hr) (qb (qa 7) (qb (qa 3) qg))) (qb (qa 6) qg))))))))))))))))))
def qh3(F:Fun W.K "law" "law" Xr f fd) :
  FnOk W.P W.w W.K W.mg W.base CX0 8 f fd ["_law_script"] (spD #[W.P,W.w,W.K] xo 1):=by
 refine fEL F ["_law_script","_law_wide_here","_law_notes_here","_law_key_here","_law_meter_here","_law_first","_law_higher_here","_law_second","_law_b","_law_v"] λhr nd hu=>?_
 have z:=ndc nd ["_law_note_here"];exact(qh (qo 1 nd (cl (qgD A) (rm hr) (qb (qa 0) qg)))
 (qh (Qo 2 (n:=1) (apS _ ["_law_note_here"]) nd (SI.c (zT (cl (qgR A) (rm hr) (qb (qa 0) (qb (qa 1) qg))))) (zJ 10) (λ_ _ _ _ _=>(qN 10 z)) (λ_ _ _ _ _=>(.one (qF vM (qm (qa 10) qf) qf))) λ_ _ _ _ _=>(qa 10))
 (qh (qo 3 nd (qP (Zp rfl) A.bl po (qb qf (qb (cl (qgF A) (rm hr) (qb (qa 0) qg)) qg))))
 (qh (qo 4 nd (cl (qgS A) (rm hr) (qb (qa 0) (qb (qa 1) qg))))
 (qh (qo 5 nd (qm (cl (MR A) (rm hr) (qb (ym Qg A.bl pL (qb (qa 2) qg)) (qb (qa 3) (qb (ym Qg A.bl pL (qb (qa 4) qg)) (qb qf qg))))) qf))
 (qh (Qo 6 (n:=1) (apS _ ["_law_note_here"]) nd (ky 2) (zJ 10) (λ_ _ _ _ _=>(qN 10 z)) (λ_ _ _ _ _=>.nil) λ_ _ _ _ _=>(zG (qb (qm (qa 10) qf) (qb (qm (qa 10) qf) (qb (qq qT (qm (qa 10) qf) qf) qg)))))
 (qh (qo 7 nd (qm (cl (MR A) (rm hr) (qb (qa 6) (qb (qq qT (qa 3) qf) (qb (ym Qg A.bl pL (qb (qa 4) qg)) (qb qf qg))))) qf))
 (qh (qL (qF (vN hu) (qP jq A.bl hV (qb (qa 5) qg)) (qP jq A.bl hV (qb (qa 7) qg))) (qk (qu jV)) qK)
 (qh (qZ gQ rfl (yr (qP jq A.bl hV (qb (qa 5) qg)) A.bl) (qN 8 nd) (qh (qL (qF (vN hu) (qP jq A.bl hV (qb (qm (qa 5) (qa 8)) qg)) (qP jq A.bl hV (qb (qm (qa 7) (qa 8)) qg))) (qk (qu jV)) qK)
 (qk (qZ gQ rfl (yr (qP jq A.bl hV (qb (qm (qa 5) (qa 8)) qg)) A.bl) (qN 9 nd) (qk (qL (zH (jJ (cl (qgY A) (rm hr) (qb (qm (qm (qa 5) (qa 8)) (qa 9)) (qb (qm (qm (qa 7) (qa 8)) (qa 9)) qg))))) (qk (qu jV)) qK))))))
 (qk (qu jV)))))))))))
end
def qh4{l:PySem.W.OpenLaw}{w:World}{K:Frag}{h:Heap}{mg:Str->Option aa}{fa:Addr}(X:K.In h)(G:h.Ns mainGlobals mg)(z:mg "law"=!(.ref fa))
  {B:Addr}(L:FunE K "law" Xr)(E:∀ p∈FS,FunE K p.1 p.2)(Z:∀ x∈BL,nsIn K mainGlobals x=!none)(V:∀ p∈C0S,DatE K p.1 p.2)(O:nsIn K mainGlobals "PITCHES"=!(!(.ref B)))(U:DatS w K B Kt) :
  ∃ fd,(∀ s v,BindsTo s fd #[[v],[]] [("_law_script",v)])/\∀ base,K.In base->base.Ns mainGlobals mg->FnOk l.prog w K mg base CX0 8 fa fd ["_law_script"] (spD #[l.prog,w,K] xo 1) :=
 qcI X G z L (λ_ _ _ _ _ _ _ _=>.of_eq rfl) λbase _ _ F=>qh3 (W:=#[l.prog,w,K,mg,base]) #[#[h,X,G],E,Z,λp hp=>(gD.mp hp).elim (λq=>qcG X G (V p q)) ((all1 (P:=λp:Str×D=>CC l.prog w K mg p.1 p.2) (qcH X G O U) all0) p)] F
def walk{l:PySem.W.OpenLaw}{q:af}{B:List Str}{Y:(Str->Option aa)->Heap->Prop}{U:World->Heap->Prop}{d:DefRec}{K:Params->Frag}(Z:l.most=!63)(O:d.params.defaults=[])
  (hY:∀ w h,U w h->(K w.params).In h)
  (F:∀ w mg fa h,(K w.params).In h->h.Ns mainGlobals mg->mg d.name=↑(.ref fa) ->
   ∃ fd,(∀ s u,BindsTo s fd #[[u],[]] [("_law_script",u)])/\∀ base,(K w.params).In base->base.Ns mainGlobals mg->FnOk l.prog w (K w.params) mg base CX0 8 fa fd ["_law_script"] (spD #[l.prog,w,K w.params] xo 1)) :
  PySem.W.WalkO q B Y U l.row.toRowW d [] (λf vs=>PySem.call f vs) :=
 L2.qac Z "d" O #[rfl,by decide,by decide] hY F (λw H a ns hl _ hS=>qau xo ns hS (qgf ns hl)) λ_ _ _ _ _ z=>z
end My
end
open PySem PySem.W PyProof.Rows
set_option maxRecDepth 100000 in
set_option maxHeartbeats 0 in
theorem PySem.Challenge.cw_stavemill_k38_whole_a_fifth_higher_holds : PySem.Challenge.rw_stavemill_k38_whole_a_fifth_higher.Holds := by
 w_on; o_law; k_head; (case hw=>w_witness2)
 k_fill
 refine My.walk (l:=PySem.Challenge.rw_stavemill_k38_whole_a_fifth_higher) rfl rfl (fun w h Y=>kIn_of Y) ?F
 case F =>
  intro w mg fa h KX G hmg
  refine' My.qh4 KX G hmg ?L ?E ?Z ?V ?Wn ?Wo
  (case L=>(refine' .mk ?a ?l ?c ?k; (case a=>k_is); (case l=>k_is); (case c=>k_is); (case k=>k_is)))
  (case E=>(repeat' refine L3.all1 ?_ ?_); all_goals first|exact L3.all0|(dsimp only; (refine' .mk ?a ?l ?c ?k; (case a=>k_is); (case l=>k_is); (case c=>k_is); (case k=>k_is))))
  (case Z=>(repeat' refine L3.all1 ?_ ?_); all_goals first|exact L3.all0|k_is)
  (case V=>(repeat' refine L3.all1 ?_ ?_); all_goals first|exact L3.all0|(dsimp only; refine' .mk ?a ?d; (case a=>k_is); (case d=>kernel_rfl)))
  (case Wn=>k_is)
  (case Wo=>refine ⟨?o,?es,?ep,?lk,?dt,?cl,?nd,?en⟩; (case lk=>exact rfl); (case dt=>rfl); (case cl=>kernel_rfl); (case nd=>decide +kernel); (case en=>exact .cons rfl rfl rfl (.cons rfl rfl rfl (.cons rfl rfl rfl (.cons rfl rfl rfl (.cons rfl rfl rfl (.cons rfl rfl rfl (.cons rfl rfl rfl (.nil)))))))))
#print axioms PySem.Challenge.cw_stavemill_k38_whole_a_fifth_higher_holds