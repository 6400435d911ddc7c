import PyProof.Rows.All
import Wide.All
import OpenK.AllK
import Wide.FinOn
import Lean
import PyProof.EqAt
import PyProof.EqKinds
import PyProof.TupleCall
import PyProof.P3In
import PyProof.NeData
import PyProof.MaxThree
import PySem.Challenge.RW_stavemill_k34_pages_are_written
set_option compiler.extract_closed false
set_option bootstrap.genMatcherCode false
set_option genSizeOf false
local macro_rules(kind:=Lean.Parser.Command.declaration)|s=>do
 if (s[1].isOfKind ``Lean.Parser.Command.definition||s[1].isOfKind ``Lean.Parser.Command.abbrev)&&s[0].getArgs.all (·.isNone) then return s.setArg 0 (<-`(command|noncomputable def x:=0)).raw[0] else Lean.Macro.throwUnsupported
set_option Elab.async false
set_option linter.all false
set_option maxRecDepth 100000
local macro_rules | `(tactic| trivial) => `(tactic| first | exact True.intro | exact Or.inl rfl | exact Or.inr rfl | exact Or.inr (Or.inl rfl) | exact Or.inr (Or.inr rfl) | exact ⟨rfl, by trivial, by decide, by decide⟩)
set_option Elab.async false
set_option linter.all false
set_option maxRecDepth 100000
set_option maxHeartbeats 4000000
noncomputable section
def tm:=@decide_eq_false
def tJ:=@decide_eq_true
def pp:=@beq_eq_false_iff_ne
def pA:=@getElem?_pos
def cG:=@if_false
def dq:=@if_true
def bw:=@or_false
def mf:=@not_false_eq_true
open List renaming length_map->g6,mem_cons_of_mem->gj,getElem?_eq_some_iff->gp,mem_cons->gw,length_append->gD,mem_append->gE,getElem?_eq_getElem->gG,getElem?_map->gH,length_cons->gJ,mem_map->gK,map_cons->gP,size_toArray->gU,pairwise_append->gW,map_map->gZ,mem_cons_self->h9,getElem?_set_ne->hU,append_assoc->hV,map_append->hX,getElem?_append_right->t4,mem_of_getElem?->t6,getD_eq_getElem?_getD->t7,getElem?_append_left->t9,map_congr_left->tf,mem_append_left->tq,mem_append_right->tw,length_take->tD,mem_iff_getElem->tH,append_nil->tK,nodup_cons->tL,flatten_cons->tQ,mem_singleton->tR,take_append_drop->tU,pairwise_iff_getElem->tX,take_of_length_le->tZ,length_singleton->fm,length_eq_zero_iff->fq,getElem_mem->fw,pairwise_map->fy,mem_of_mem_take->fA,mem_of_mem_drop->fB,pairwise_cons->fF,length_drop->fG,getElem?_replicate->fJ,nodup_append->fN,set_cons_zero->fP,set_cons_succ->fQ,filter_eq_nil_iff->fR,length_nil->fS,drop_eq_getElem_cons->fT,not_mem_nil->fV,sum_cons->fW,nil_append->p7,pairwise_singleton->p9,drop_of_length_le->po,getLast?_eq_none_iff->pz,all_eq_true->pD,all_cons->pG,getElem?_cons_succ->pH,filter_cons_of_pos->pJ,replicate_succ->pO,find?_cons->pP,map_nil->pW,countP_append->pX,getElem?_take->pY,filter_append->cg,foldl_cons->cB,getElem?_range->cI,take_length->cK,drop_append_of_le_length->cL,take_append_of_le_length->cM,find?_eq_none->cV,range_succ->cZ,length_range->d7,mem_of_getLast?->de,drop_length->dj,reverse_append->dz,filter_eq_self->dA,mem_filter->dG,sum_append->dP,find?_cons_of_neg->dU,ext_getElem?->dY,mem_range->b7,take_take->b9,zipIdx_cons->bm,any_cons->bv,filterMap_cons->bA,length_set->bC,forIn_cons->bE,length_reverse->bG,zip_cons_cons->bI,set_set->bK,findIdx?_cons->bP,nodup_nil->bR,take_zero->bT,reverse_cons->bW,getLast?_map->mi
open PySem renaming wpAny_bind->gg,wpAny_pure->gy,boot_len->tV,wpAny_newObj_type->f8,wpAny_Call_Name_kw->fC,wpAny_seqItems->fH,wpAny_callSpecial?_slot->fL,wpAny_holding->fU,wpAny_field->fZ,wpAny_call_entry->pf,sizeLine_eq->pC,wpAny_truthy_bool->pN,wpAny_letGo->pR,wpAny_rule->pU,plainId_quiet->pZ,wpAny_setField_rec->c6,wpAny_mono->cu,wpAny_passesOwn->cw,wpAny_updateSeq->cA,mem_of_lookup->cF,wpAny_typeNameOfWhole_keyiter->cJ,wpAny_tryCatch->cQ,wpAny_typeNameOf_keyiter->dB,tupleKind_room_in1->dH,codeAny_builtin->dJ,wpAny_dictEntries->dX,wpAny_setField->b8,call_meetsIn->bg,wpAny_isOneOf_keyiter->bj,wpAny_updateSeq_pair->bq,wpAny_pyIter_revIter->bu,typeIs_int->bz,wpAny_execs_nil->bB,wpAny_Tuple_spliced->bD,wpAny_pyIter_tuple->bH,wpAny_Return_some->bU,wpAny_assign_Name->bV,call_meets->bX,wpAny_Call_method->bY,wpAny_Assign_Name->bZ,wpAny_pyIter_enum->m9,wpAny_standAt->mm,wpAny_attempt->mn,wpAny_onRaise->mr
open PySem.Heap renaming get?_push_of_some->gu,get?_push_size->gM,lt_size->gN,get?_update_other->tT,get?_update_self->fj,get?_push_ne->cC,size_push->cP,size_update->dm
open Nat renaming le_refl->gC,ne_of_lt->t8,lt_of_lt_of_le->tB,zero_le->tP,le_trans->tY,min_eq_left->pB,lt_irrefl->pF,ne_of_gt->pK,zero_add->pL,le_of_lt->cW,lt_succ_self->dh,lt_succ_of_lt->dW,le_succ->dZ,lt_trans->bJ,lt_or_ge->bM
open PySem.PassesOwn renaming never->gQ
open Bool renaming and_eq_true->hE,false_eq_true->f9,false_ne_true->fY,true_and->dO,false_and->bQ
open PySem.Calls renaming spliced_cons->hZ,spliced_nil->tM,callWith_builtin->cR,evalArgs_plain->d8
open PyProof.Rows renaming boot_str->t5,callWith_type1->tF,boot_min->cq,slot_tuple_getitem->cx,callWith_builtin1->cD,boot_max->cX,boot_sorted->dD,boot_list->dR,wpS_get->bS,wpS_lift->mw
open Ne renaming symm->tu
open Int renaming mul_le_mul_of_nonneg_right->tG,toNat_natCast->fK,le_refl->pE,eq_ofNat_of_zero_le->pI,mul_ediv_add_emod->cj,le_of_lt->cE,emod_nonneg->dN,ediv_nonneg->bF,emod_lt_of_pos->bN,le_trans->bO
open Option.some renaming inj->tN
open Array renaming toList_append->tW,perm_iff_toList_perm->fO,length_toList->pt,toList_push->d6,toList_reverse->d9,getElem?_eq_none->dQ
open PySem.F renaming slot_dict_get->fX,plainAttrs_list->p6,slot_tuple_iterator_next->pi,plain_min_loop->pj,plain_max_loop->pS,slot_dict_keyiterator_next->pT,slot_list_append->cy,type_list_append->cz,plainAttrs_dict->cH,entry_dict_get->cT,slot_zip_next->cY,slot_dict_getitem->dg,args_tuple_iterator_next_1->dE,args_dict_get_3->dI,entry_tuple_iterator_next->dL,entry_min_loop->dS,type_dict_get->bi
open PySem.Heap.SameBut renaming update->px
open PySem.W renaming kia_one->pQ,mg_of->bx
open Option renaming bind_some->pV,map_eq_some_iff->cU
open List.Perm renaming append_left->c9
open PySem.Str renaming append_assoc->cO
open List.Pairwise renaming imp_of_mem->dC
open PySem.Paired renaming length->dF
open PySem.Obj renaming data_mapFields->dM
open PySem.Around renaming under_plainId->bn
open PySem(KeyKind KeysOf Pairs)
open PySem.W(methodObj Frag cellsFrom_some codeIn keepIn nsIn callWith_K kitOne kitx_dict tailIn kIn_of)
open Nat(ble ble_eq sub_self add_assoc reduceAdd)
open PyProof.Rows(neg_int listMul_foldl_if add_str boot_tuple boot_sum)
open PySem renaming Value→aa,Shared→ab,Program→af,Around→ag
open PyProof.Rows renaming Keyed→aj,SortSt→am
local macro_rules|`(↑$x)=>`(some $x)
def rF(_:True:=by rfl):=True
def rT(_:True:=by trivial):=True
def rD(_:True:=by decide):=True
set_option hygiene false
local macro_rules
|`($x["r"])=>`(autoParam $x rF._auto_1)
|`($x["t"])=>`(autoParam $x rT._auto_1)
|`($x["d"])=>`(autoParam $x rD._auto_1)
|`($x[0])=>`(($x).heap.objs.size)
|`($x[1])=>`(($x).length)
|`($x[2])=>`(($x).toList)
|`($x[3])=>`(wpAny (model ($x).prog ($x).w) ($x).A)
|`($x[5])=>`(eC (.int $x))
|`($x[6])=>`(.int $x)
|`($x[7])=>`(.fz (.int $x))
|`($x[8])=>`(.fz $x)
|`($x[9])=>`(.ow $x)
|`($x[""])=>`(by simpa using $x)
local macro_rules
|`("")=>`(by lia)
|`("o")=>`(by omega)
|`("s")=>`(by simp)
|`("d")=>`(by decide)
|`("I")=>`(Inv X pins σ)
|`("S")=>`(SE X F0 H0)
set_option hygiene true
local macro_rules
|`(#[$x])=>`(⟨$x⟩)
|`(#[$x,$xs,*])=>`(⟨$x,$xs,*⟩)
|`(!$x)=>`(some $x)
local macro_rules
|`(tactic|show $t)=>`(tactic|first|refine $t|change $t)
|`(tactic|let $p:term:=$v)=>do
 let q<-p.raw.rewriteBottomUpM λs=>match s with
  |.ident ..=>return (<-`(rcasesPat|$(⟨s⟩):ident)).raw
  |.node _ k a=>if k==`Lean.Parser.Term.hole then return (<-`(rcasesPat|_)).raw else if k==`Lean.Parser.Term.anonymousCtor then return (<-`(rcasesPat|⟨$[$(a[1]!.getSepArgs.map (⟨·⟩)):rcasesPat],*⟩)).raw else return s
  |_=>return s
 `(tactic|obtain $(⟨q⟩):rcasesPat:=$v)
def iP.{u}:=@if_pos.{u}
def iN.{u}:=@if_neg.{u}
open PySem renaming starEach->sE
namespace PySem.W.Fast
def tw15972692047515336800:=0
def tw2519452520980619027:=0
def tw8586004980757374055:=0
def tw7074990215416813621:=0
def tw12696142456838154057:=0
def tw10335193742249624480:=0
def tw16528533704545992412:=0
def tw9993886830516708177:=0
def tw74679786979588943:=0
def tw16155457938878716449:=0
def tw9917982220437442992:=0
def tw6869034290921338763:=0
def tw15865911666225581971:=0
def tw12513816704270784942:=0
def tw4058912981991599964:=0
def tw13170070361753203160:=0
def tw14124750770193380484:=0
def tw4196083033263152866:=0
def tw6595315110459923637:=0
def tw13104796715131595950:=0
def tw11745065008687862145:=0
def tw8582716910002769160:=0
def tw6259564778995786685:=0
def tw7042821795945005398:=0
def tw13681370758116564851:=0
def tw7191089250319573294:=0
def tw1911066051288019609:=0
def tw1597071085058986390:=0
def tw15457067693040463604:=0
def tw9798296649818136475:=0
def tw6578010282131760228:=0
def tw2999373726728051533:=0
def tw1813764565153428506:=0
def tw16887190105397317492:=0
def tw12784547343946444429:=0
def tw1610471915534987858:=0
def tw15631222969815518383:=0
def tw6012285157169722443:=0
def tw3112340672577521125:=0
def tw15447577651844393326:=0
def tw9424776641267555047:=0
def tw17553938032864412704:=0
def tw10707063354794359070:=0
def tw14506471547250989784:=0
def tw6270224486605760722:=0
def tw1471783857974920308:=0
def tw5104950664677983605:=0
def tw4609844048185012371:=0
def tw4338917825218643612:=0
def tw6774657723523872632:=0
def tw3094215862581021681:=0
def tw7970719665826427345:=0
def tw13962291058549636566:=0
def tw16229672115508502343:=0
def tw1043395679529442891:=0
def tw891249850980939988:=0
def tw1244514316990702953:=0
def tw11761828257680986840:=0
def tw610002644640004769:=0
def tw2316986746613778821:=0
def tw8891386848754275164:=0
def tw1831335754628264039:=0
def tw13663356816807041268:=0
def tw1078680227012819531:=0
def tw6443942781019368976:=0
def tw14209298395939675291:=0
def tw4740984928971385655:=0
def tw10155395636319937027:=0
def tw12313046788043991809:=0
def tw2597630107621512500:=0
def tw8432893906905557090:=0
def tw17787708002683741465:=0
def tw11079394185851270491:=0
def tw18363676737313669415:=0
def tw11511153156471104710:=0
def tw13481296002256870715:=0
def tw13103510673243479851:=0
def tw780219973432119727:=0
def tw17218626646617230773:=0
def tw4231336979030664305:=0
def tw2428887299674425460:=0
def tw17572935038487881233:=0
def tw13246631502933026015:=0
def tw16310195637586104385:=0
def tw4612064176627809091:=0
def tw17659051275057222150:=0
def tw13328205233330295947:=0
def tw14654368213284909746:=0
def tw6025532870917577396:=0
def tw6054827964769265279:=0
def tw7091399561199152692:=0
def tw9732845755481784631:=0
def tw1614281734219967886:=0
def tw11383181307246930176:=0
def tw15777752756305666325:=0
def tw8813554357666522177:=0
def tw17276936432244568022:=0
def tw2176589399544853378:=0
def tw8757119908814290475:=0
def tw5662525589341867810:=0
def tw696531065489619560:=0
def tw14305801799355182190:=0
def tw8672723321466106886:=0
def tw4904222770904895686:=0
def tw17286724980606579300:=0
def tw1482473822225750314:=0
def tw12976692052484904679:=0
def tw15472761865122004903:=0
def tw6465888677194690665:=0
def tw11297443885315753034:=0
def tw15615250671373065792:=0
def tw2252218122425742266:=0
def tw1765141731279865553:=0
def tw6666421061749569265:=0
def tw17876645270839848865:=0
def tw1599139776941178376:=0
def tw12684167686526516293:=0
def tw16540163649929611882:=0
def tw15883167828742397171:=0
def tw540085073912893997:=0
def tw2955479468287570355:=0
def tw1038198495884779368:=0
def tw10538643971238957056:=0
def tw14193285880066542277:=0
def tw1803505686063350697:=0
def tw1661835311612444185:=0
def tw14966631992170969215:=0
def tw9061910438544036394:=0
def tw18113155046930820715:=0
def tw7765746761601263704:=0
def tw2113887943967873478:=0
def tw16577308329753659696:=0
def tw5592226827345410155:=0
def tw13145756265074015828:=0
def tw2488103818993331287:=0
def tw1020584100062633140:=0
def tw3253119894180179255:=0
def tw2479353432404430495:=0
def tw1042103391113991599:=0
def tw5423888132433659705:=0
def tw8635732029919758757:=0
def tw1191164909660152219:=0
def tw16373571451840869491:=0
def tw16391110383566037061:=0
def tw6748770387938945356:=0
def tw14576549257932092975:=0
def tw14560023635092449708:=0
def tw11186513853674743980:=0
def tw6167216219328084470:=0
def tw8771944116445034080:=0
def tw13461709876021746354:=0
def tw2427876187897303817:=0
def tw2124395193091933531:=0
def tw4157409782825396884:=0
def tw2083217213027265507:=0
def tw10654066700375573989:=0
def tw1491768170876363929:=0
def tw1282899481053120512:=0
def tw4605434973817757184:=0
def tw12908651088261425481:=0
def tw11227853090562887678:=0
def tw16797445790411499176:=0
def tw5994281818439392292:=0
def tw7502176646527102508:=0
def tw1567239112499555063:=0
def tw18136030814843344492:=0
def tw6340913508236885739:=0
def tw12026938788700858552:=0
def tw11592973782835330293:=0
def tw13346384304145870235:=0
def tw4326198019311252861:=0
def tw207703536329928061:=0
def tw16776512221472180907:=0
def tw4452466356886560801:=0
def tw1745393133531785550:=0
def tw16175393732000673446:=0
def tw18066544683845652456:=0
def tw10204473586187425584:=0
def tw5578677706571253717:=0
def tw3639599794230464370:=0
def tw18100896680026980593:=0
def tw2856162068114012266:=0
def tw13529195989723178149:=0
def tw14990692915812727123:=0
def tw2102246955753666672:=0
def tw2637328311792404438:=0
def tw3379091228263588828:=0
def tw14982406090632728190:=0
def tw6648957792715624319:=0
def tw17339480726172080887:=0
def tw13767516776267284025:=0
def tw18043008511385915892:=0
def tw5780323859794492804:=0
def tw12070193442349288013:=0
def tw16986470421976046568:=0
def tw4850006490412516803:=0
def tw18409398095792129376:=0
def tw15518985156578982267:=0
def tw17107063335800530636:=0
def tw11855239875556210269:=0
def tw2215395771140182510:=0
def tw1167109529853552280:=0
def tw15698635469978594921:=0
def tw4564995984632655813:=0
def tw9937296547813023439:=0
def tw18370539990260105936:=0
def tw7125918117241657826:=0
def tw15033959892859803294:=0
def tw10828717693454753216:=0
def tw15939726734255231491:=0
def tw3149229811104821184:=0
def tw4515879046805640115:=0
def tw17361794998101041365:=0
def tw14255812395926630343:=0
def tw2279987102295326129:=0
def tw8102432452370222713:=0
def tw3658928412729096224:=0
def tw1332557778211799267:=0
def tw2951468393207888297:=0
def tw14562043701410750024:=0
def tw5710609425668001760:=0
def tw10361711348579648127:=0
def tw12738784803729053517:=0
def tw1195525146716163888:=0
def tw11513817741177610990:=0
def tw11808656197723444212:=0
def tw4523955416659864672:=0
def tw18084022186011733309:=0
def tw16146112186527647479:=0
def tw2473928917244054655:=0
def tw354501623993386390:=0
def tw4088623849426665710:=0
def tw3393001851832269769:=0
def tw15482056798396647123:=0
def tw7148157816608918383:=0
def tw9540559124605141675:=0
def tw16205422070468661636:=0
def tw13000124547329624133:=0
def tw5319601930882833891:=0
def tw14117349304752743380:=0
def tw17722296169608507683:=0
def tw11964896114044090734:=0
def tw13862056673939211476:=0
def tw333930511424678042:=0
def tw5833125470339737560:=0
def tw9136933665580894742:=0
def tw3110233193621425686:=0
def tw9824491652037557980:=0
def tw11758624001655458721:=0
def tw18012339697839081440:=0
def tw10424400737186048894:=0
def tw12429395445149162240:=0
def tw4538774916454229829:=0
def tw13057309856930847886:=0
def tw12870729656016217812:=0
def tw8201162758975323692:=0
def tw986267878526165131:=0
def tw6162779364807958004:=0
def tw10831781247576495057:=0
def tw14568945123029030514:=0
def tw12488126111764550037:=0
def tw12114232976004866232:=0
def tw13384246167522967063:=0
def tw6880197697917028330:=0
def tw16054630068633663981:=0
def tw14618890904645688583:=0
def tw17540978324837742235:=0
def tw15115054138928837481:=0
def tw8667032004751092050:=0
def tw3331162240847325096:=0
def tw11611669949187749749:=0
def tw3808664105640337541:=0
def tw10257656588468404817:=0
def tw5138233186218282515:=0
def tw6160017238608890414:=0
def tw14026248209806598882:=0
def tw13742135065009956582:=0
def tw14213039760155372844:=0
def tw955054041660399719:=0
def tw16250220959730607198:=0
def tw17208341985820146789:=0
def tw13808919371274556117:=0
def tw15213003095994110424:=0
def tw17516060519507091087:=0
def tw3905597926005357408:=0
def tw15549241054905288440:=0
def tw16800442301891174380:=0
def tw15879855368717617271:=0
def tw17548345112713856853:=0
def tw9786295310783236096:=0
def tw10754917782562077589:=0
def tw10730914207282433624:=0
def tw12346427909954813899:=0
def tw10456366812380708883:=0
def tw9587472041553874632:=0
def tw14812638460400032924:=0
def tw17597711606785701086:=0
def tw14148957877444846665:=0
def tw8379640301730678701:=0
def tw3668179375564025325:=0
def tw4339774915495773510:=0
def tw9383378062663155088:=0
def tw2731473207136343793:=0
def tw15208263685052077556:=0
def tw14113036062710557765:=0
def tw10044249649449629811:=0
def tw16066753573176409056:=0
def tw6090369750302918552:=0
def tw18080160784347036170:=0
def tw4832309859195635889:=0
def tw148960659358886016:=0
def tw12401642963777251835:=0
def tw4411501135812498524:=0
def tw6173182521947042995:=0
def tw6080128279896173456:=0
def tw2699848941496174928:=0
def tw8940863494196495043:=0
def tw8570487601720408954:=0
def tw4379724276512013571:=0
def tw14012219189443209981:=0
def tw8507155548134715139:=0
def tw13058886592872929135:=0
def tw439621893177579503:=0
def tw674047735831371924:=0
def tw5781505915823003314:=0
def tw12047252297520620127:=0
def tw7628346733592832326:=0
def tw3893243124154571907:=0
def tw4730353921049118522:=0
def tw11884735445299871690:=0
def tw14572556408666423143:=0
def tw17788992237467062195:=0
def tw2681707155044308690:=0
def tw14803767972630859470:=0
def tw6525515774213392031:=0
def tw10709812162055126530:=0
def tw9904832307826800439:=0
def tw9319569324845807237:=0
def tw11392354222614631305:=0
def tw4294655210756509700:=0
def tw423295118891358037:=0
def tw12541457281057992376:=0
def tw15040655222681133845:=0
def tw14524873513220709265:=0
def tw6786508417331035225:=0
def tw13219401848504483779:=0
def tw5921552289571208947:=0
def tw1399905561207584661:=0
def tw5860118054225588568:=0
def tw5669459633977853514:=0
def tw3121295027004413406:=0
def tw6910662032350974785:=0
def tw12679178941359295796:=0
def tw207666312789702975:=0
def tw7088091466684400088:=0
def tw9752239526388675606:=0
def tw6291427266559134301:=0
def tw10546251587035854594:=0
def tw5148291774961950408:=0
def tw8104485249178258603:=0
end PySem.W.Fast
namespace L2
open PySem PySem.Spec PyProof.Rows
abbrev Key:=Sum Int Str
def ko:Key->aa->Bool
 | .inl k,v=>Value.isInt k v
 | .inr x,v=>Value.isStrOf x v
def MB(w:World):Key->Int
 | .inl k=>hashInt k
 | .inr x=>hashStr w x
theorem w9:∀{k} {v},ko k v=true->(∃ i t,k=Sum.inl i/\v=Value.int i t)\/(∃ x t,k=Sum.inr x/\v=Value.str x t)
 | .inl i,v,h=>by
  let⟨t,e⟩:=Value.isInt_shape (k:=i) (v:=v) h;show .inl #[i,t,rfl,e]
 | .inr x,v,h=>by
  let⟨t,e⟩:=Value.isStrOf_shape (x:=x) (v:=v) h;show .inr #[x,t,rfl,e]
def MC(i)(t):ko (.inl i) (.int i t)=true:=by simp[ko,Value.isInt]
def MD(x)(t):ko (.inr x) (.str x t)=true:=by simp[ko,Value.isStrOf]
def ME(a b):decide ((Sum.inl a:Key)=Sum.inl b)=(a==b):=by
 by_cases e:a=b
 .subst e;simp
 have h:¬ (Sum.inl a:Key)=Sum.inl b:=λq=>e (Sum.inl.inj q)
 rw[tm h];show(pp.mpr e).symm
def MF(a b):decide ((Sum.inr a:Key)=Sum.inr b)=decide (a=b):=by
 by_cases e:a=b
 .subst e;simp
 have h:¬ (Sum.inr a:Key)=Sum.inr b:=λq=>e (Sum.inr.inj q)
 rw[tm h,tm e]
def MG(a)(b):decide ((Sum.inl a:Key)=Sum.inr b)=false:=tm (λq=>nomatch q)
def MH(a)(b):decide ((Sum.inr a:Key)=Sum.inl b)=false:=tm (λq=>nomatch q)
def jj(prog:af)(w:World):KeyKind prog w Key where
 is:=ko
 hash:=MB w
 inj:=λv a b ha hb=>by
  rcases w9 ha with⟨i,t,rfl,rfl⟩|⟨x,t,rfl,rfl⟩
  .rcases w9 hb with⟨j,u,rfl,e⟩|⟨y,u,rfl,e⟩
   .injection e with e1 _;rw[e1]
   show nomatch e
  rcases w9 hb with⟨j,u,rfl,e⟩|⟨y,u,rfl,e⟩
  .show nomatch e
  injection e with e1 _;rw[e1]
 byValue:=λk v h=>by
  rcases w9 h with⟨i,t,rfl,rfl⟩|⟨x,t,rfl,rfl⟩<;>rfl
 pyHash:=λhv h=>by
  rcases w9 hv with⟨i,t,rfl,rfl⟩|⟨x,t,rfl,rfl⟩
  .show wpAny_pyHash_int h
  show wpAny_pyHash_str h
 eqBool:=λhu hv h=>by
  rcases w9 hu with⟨i,t,rfl,rfl⟩|⟨x,t,rfl,rfl⟩
  .rcases w9 hv with⟨j,u,rfl,rfl⟩|⟨y,u,rfl,rfl⟩
   .rw[ME]at h;show wpAny_eqBool_int h
   rw[MG]at h;show SeqAt.EqAt.int_str i t y u _ _ _ _ h
  rcases w9 hv with⟨j,u,rfl,rfl⟩|⟨y,u,rfl,rfl⟩
  .rw[MH]at h;show SeqAt.EqAt.str_int x t j u _ _ _ _ h
  rw[MF]at h;show wpAny_eqBool_str h
 «strs»:=λk x t v h=>by
  rcases w9 h with⟨i,u,rfl,e⟩|⟨y,u,rfl,e⟩
  .show nomatch e
  injection e with e1 _;subst e1;cases v<;>rfl
def WB(prog)(w)(i)(t):(jj prog w).is (.inl i) (.int i t)=true:=MC i t
def WC(prog)(w)(x)(t):(jj prog w).is (.inr x) (.str x t)=true:=MD x t
inductive V where
 | non|bl (b:Bool)|int (i:Int)|str (x:Str)|byt (b:Array UInt8)|flt (b:UInt64)|ref (a:Addr)|ty (n:String)
 deriving DecidableEq
def RelV:V->aa->Prop
 | .non,u=>u=Value.none
 | .bl b,u=>u=Value.bool b
 | .int i,u=>∃ t,u=Value.int i t
 | .str x,u=>∃ t,u=Value.str x t
 | .byt b,u=>∃ t,u=Value.bytes b t
 | .flt b,u=>∃ t,u=Value.float b t
 | .ref a,u=>u=Value.ref a
 | .ty n,u=>u=Value.type n
abbrev Vals:List V->List aa->Prop:=Paired RelV
def Vals.length(r:Vals xs us):xs[1]=us[1]:=dF r
theorem Vals.get:∀{xs} {us} {i:Nat} {x},Vals xs us->xs[i]?=!x->∃ u,us[i]?=!u/\RelV x u
 | _,_,_,_,.nil,e=>by simp at e
 | _,_,0,_,.cons r _,e=>by simp at e;subst e;show#[_,rfl,r]
 | _,_,i+1,x,.cons _ t,e=>by
  let⟨u,h1,h2⟩:=Vals.get (i:=i) (x:=x) t e[""]
  show#[u,by simpa using h1,h2]
theorem Vals.set(r:RelV x u):∀{xs} {us} i,Vals xs us->Vals (xs.set i x) (us.set i u)
 | _,_,_,.nil=>.nil
 | _,_,0,.cons _ t=>.cons r t
 | _,_,i+1,.cons q t=>.cons q (Vals.set r i t)
theorem Vals.append:∀{xs ys} {us ws},Vals xs us->Vals ys ws->Vals (xs++ys) (us++ws)
 | _,_,_,_,.nil,s=>s
 | _,_,_,_,.cons r t,s=>.cons r (Vals.append t s)
theorem Vals.take:∀{xs} {us} n,Vals xs us->Vals (xs.take n) (us.take n)
 | _,_,0,_=>.nil
 | _,_,_+1,.nil=>.nil
 | _,_,n+1,.cons r t=>.cons r (Vals.take n t)
theorem Vals.drop:∀{xs} {us} n,Vals xs us->Vals (xs.drop n) (us.drop n)
 | _,_,0,r=>r
 | _,_,_+1,.nil=>.nil
 | _,_,n+1,.cons _ t=>Vals.drop n t
def RelO:Option V->Option aa->Prop
 | some v,!u=>RelV v u
 | none,none=>True
 | _,_=>False
def KV{κ:Type}:List (κ×V)->List (κ×aa)->Prop:=Paired λ(p:κ×V) (q:κ×aa)=>p.1=q.1/\RelV p.2 q.2
def kV:Key->V
 | .inl i=>.int i
 | .inr x=>.str x
inductive HO where
 | lst (xs:List V)
 | tup (xs:List V)
 | dK (kvs:List (Key×V))|dT (kvs:List (List Key×V))
 | set (S:Int->Bool) (n:Nat)
 | ins (C dx:Addr) (fs:List (Str×V))
 | own (x:Addr)
 | xd (fs:List (Str×V))
 | met (f x:Addr)
 | rng (lo hi:Int)
 | frz (o:Obj) (u:HO)
 | tbl (ps:Array Value)
 | ext (φ:Heap->Prop)
abbrev Hp:=Addr->Option HO
def upd(H:Hp)(a:Addr)(o:HO):Hp:=λb=>if b=a then !o else H b
def qS:upd H a o a=!o:=by delta upd;rw[iP rfl]
def qu{H:Hp}(h:b≠a):upd H a o b=H b:=by delta upd;rw[iN h]
def WD{H:Hp}(h:H a=!o)(h':H b=!u)(d:o≠u):a≠b:=by
 intro e;subst e;rw[h]at h';show d (tN h')
def jN{H:Hp}(h:H a=!o)(h':H b=none):a≠b:=by
 intro e;subst e;rw[h]at h';cases h'
section
variable(P:af)(w:World)
def ObjOk(H:Hp)(h:Heap)(a:Addr):HO->Prop
 | .lst xs=>xs[1]<=sizeLine/\∃(its:List aa) (n:Nat),Vals xs its/\h.get? a=some {cls:=.type "list",data:=.seq its.toArray n}
 | .tup xs=>xs[1]<=sizeLine/\∃ its:List aa,Vals xs its/\IsTup h a its.toArray
 | .dK kvs=>kvs[1]<=sizeLine/\(a==sysModules)=false/\∃ vs,KV kvs vs/\h.DictOf (jj P w) a vs
 | .dT kvs=>kvs[1]<=sizeLine/\(a==sysModules)=false/\∃ xs:List (List Key×Addr×aa),
   Paired (λ(p:List Key×V) (q:List Key×Addr×aa)=>p.1=q.1/\H q.2.1=!(.tup (p.1.map kV))/\RelV p.2 q.2.2) kvs xs /\
   ∃ o es ep,h.get? a=!o/\o.ExactDict/\o.data=.dict es ep/\es[2]=xs.map (entryOfKey (tupleKind (jj P w)))/\(xs.map (·.1)).Nodup
 | .set S n=>h.SetOf (intKind P w) a S n
 | .ins C dx fs=>H dx=!(.own a)/\fs[1]<=1000/\dx≠a/\h.get? a=↑(PySem.W.instObj C dx) /\
   ∃ mA,h.Ns1 dx mA/\(∀ f,RelO (fs.lookup f) (mA f))/\PySem.Within mA (fs.map (·.1))
 | .own _=>∃ o,h.get? a=!o
 | .xd fs=>∃ mA,h.Ns1 a mA/\∀ f,RelO (fs.lookup f) (mA f)
 | .rng lo hi=>∃ t u v,h.get? a=some {cls:=.type "range",data:=.fields (List.toArray [.int lo t,.int hi u,.int 1 v])}
 | .frz o u=>h.get? a=!o/\ObjOk H h a u
 | .tbl ps=>h.get? a=some {cls:=.none,data:=.fields ps}
 | .met f x=>h.get? a=!(methodObj (.ref f) (.ref x))
 | .ext φ=>φ h/\(∃ o,h.get? a=!o)/\∀ h1 h2:Heap,φ h1->(∀ o,h1.get? a=!o->h2.get? a=!o)->φ h2
def HOk(H:Hp)(h:Heap):Prop:=∀ a o,H a=!o->ObjOk P w H h a o
end
section
variable{P:af}{w:World}{H H':Hp}{h h':Heap}{a:Addr}{o:HO}
def ObjOk.lt(x:ObjOk P w H h a o):a<h.objs.size:=by
 cases o with
 | lst xs=>let⟨_,_,_,_,e⟩:=x;show gN e
 | tup xs=>let⟨_,_,_,p⟩:=x;show p.lt
 | dK kvs=>let⟨_,_,_,_,o,_,_,e,_⟩:=x;show gN e
 | dT kvs=>let⟨_,_,_,_,o,_,_,e,_⟩:=x;show gN e
 | set S n=>let⟨o,_,_,_,e,_⟩:=x;show gN e
 | ins C dx fs=>let⟨_,_,_,e,_⟩:=x;show gN e
 | own y=>let⟨_,e⟩:=x;show gN e
 | xd fs=>let⟨_,⟨_,_,_,e,_⟩,_⟩:=x;show gN e
 | rng lo hi=>let⟨_,_,_,e⟩:=x;show gN e
 | frz ob u=>let⟨e,_⟩:=x;show gN e
 | tbl ps=>show gN (show h.get? a=!_ from x)
 | met f y=>show gN (show h.get? a=!_ from x)
 | ext φ=>let⟨_,⟨_,e⟩,_⟩:=x;show gN e
theorem Paired.mapP:∀{l₁} {l₂},Paired F l₁ l₂->(∀ a b,F a b->G a b)->Paired G l₁ l₂
 | _,_,.nil,_=>.nil
 | _,_,.cons r t,f=>.cons (f _ _ r) (Paired.mapP t f)
def ObjOk.stay(x:ObjOk P w H h a o)(k:∀ b u,(b=a\/H b=!(.own a))->h.get? b=!u->h'.get? b=!u)
  (B:∀ b,H b=!(.own a)->H' b=!(.own a))(O:∀ b xs,H b=!(.tup xs)->H' b=!(.tup xs)):ObjOk P w H' h' a o:=by
 induction o with
 | lst xs=>let⟨z,its,n,r,e⟩:=x;show#[z,its,n,r,k _ _ (.inl rfl) e]
 | tup xs=>let⟨z,its,r,ob,e,c⟩:=x;show#[z,its,r,ob,k _ _ (.inl rfl) e,c]
 | dK kvs=>let⟨z,y,vs,r,ob,es,ep,e,c⟩:=x;show#[z,y,vs,r,ob,es,ep,k _ _ (.inl rfl) e,c]
 | dT kvs =>
  let⟨z,y,xs,r,ob,es,ep,e,c⟩:=x;show#[z,y,xs,Paired.mapP r λp q z=>#[z.1,O _ _ z.2.1,z.2.2],ob,es,ep,k _ _ (.inl rfl) e,c]
 | set S n=>let⟨ob,es,ep,t,e,c⟩:=x;show#[ob,es,ep,t,k _ _ (.inl rfl) e,c]
 | ins C dx fs =>
  let⟨d,z,ne,e,mA,⟨od,es,ep,e2,c⟩,r⟩:=x;show#[B _ d,z,ne,k _ _ (.inl rfl) e,mA,#[od,es,ep,k _ _ (.inr d) e2,c],r]
 | own y=>let⟨ob,e⟩:=x;show#[ob,k _ _ (.inl rfl) e]
 | xd fs=>let⟨mA,⟨od,es,ep,e,c⟩,r⟩:=x;show#[mA,#[od,es,ep,k _ _ (.inl rfl) e,c],r]
 | rng lo hi=>let⟨t,u,v,e⟩:=x;show#[t,u,v,k _ _ (.inl rfl) e]
 | frz ob u ih=>let⟨e,q⟩:=x;show#[k _ _ (.inl rfl) e,ih q]
 | tbl ps =>
  have e:h.get? a=some {cls:=.none,data:=.fields ps}:=x;show h'.get? a=some {cls:=.none,data:=.fields ps};show k a _ (.inl rfl) e
 | met f y =>
  have e:h.get? a=!(methodObj (.ref f) (.ref y)):=x;show h'.get? a=!(methodObj (.ref f) (.ref y));show k a _ (.inl rfl) e
 | ext φ=>let⟨p,⟨o,e⟩,st⟩:=x;show#[st _ _ p λo q=>k _ _ (.inl rfl) q,#[o,k _ _ (.inl rfl) e],st]
def HOk.lt(x:HOk P w H h)(e:H a=!o):a<h.objs.size:=(x a o e).lt
def HOk.fresh(x:HOk P w H h)(e:h.objs.size<=a):H a=none:=by
 cases q:H a with
 | none=>rfl
 | some u=>show absurd (tB (x.lt q) e) (pF _)
def HOk.kept(x:HOk P w H h)(k:∀ b u,h.get? b=!u->h'.get? b=!u):HOk P w H h':=λa o e =>
 (x a o e).stay (λb u _ q=>k b u q) (λ_ q=>q) λ_ _ q=>q
def HOk.laid(x:HOk P w H h)(k:∀ b u,h.get? b=!u->h'.get? b=!u)(hp:h.objs.size<=a)(z:ObjOk P w (upd H a o) h' a o):HOk P w (upd H a o) h':=λb u e=>by
 have hn:=x.fresh hp;by_cases hb:b=a
 .subst hb;rw[qS]at e;cases e;show z
 rw[qu hb]at e;show(x b u e).stay (λc v _ q=>k c v q) (λc q=>by rw[qu (jN q hn)];show q) λc xs q=>by rw[qu (jN q hn)];show q
end
def Rd(H:Hp)(a:Addr)(u:HO):Prop:=H a=!u\/∃ o,H a=!(.frz o u)
def Rd.ok(r:Rd H a u)(x:HOk P w H h):ObjOk P w H h a u:=by
 rcases r with r|⟨o,r⟩
 .show x a u r
 let⟨_,q⟩:=x a _ r;show q
def Mut:Option HO->Prop
 | some (.lst _)=>True
 | some (.dK _)=>True
 | some (.dT _)=>True
 | some (.set _ _)=>True
 | some (.ins _ _ _)=>True
 | some (.ext _)=>True
 | _=>False
section
variable{P:af}{w:World}{H:Hp}{h h':Heap}{x e:Addr}{o':HO}
def HOk.write(ok:HOk P w H h)(U:Mut (H x))(he:e=x\/H e=!(.own x))(k:∀ b u,b≠e->h.get? b=!u->h'.get? b=!u)(Y:∃ u,h'.get? e=!u)
  (Z:ObjOk P w (upd H x o') h' x o'):HOk P w (upd H x o') h':=λb u q=>by
 have B:∀ c y,H c=!(.own y)->c≠x:=λc y r z=>by subst z;rw[r]at U;show U
 have O:∀ c xs,H c=!(.tup xs)->c≠x:=λc xs r z=>by subst z;rw[r]at U;show U
 by_cases hb:b=x
 .subst hb;rw[qS]at q;cases q;show Z
 rw[qu hb]at q;by_cases hbe:b=e
 .have q':H b=!(.own x):=by
   rcases he with z|z
   .show absurd (hbe.trans z) hb
   rw[hbe];show z
  rw[q]at q';cases q';let⟨v,hv⟩:=Y;show#[v,by rw[hbe];show hv]
 show(ok b u q).stay (λc v hc r=>k c v ?_ r) (λc r=>by rw[qu (B c b r)];show r) λc xs r=>by rw[qu (O c xs r)];show r
 rcases hc with rfl|hc
 .show hbe
 rintro rfl;rcases he with z|z
 .show B c b hc z
 rw[hc]at z;cases z;show hb rfl
end
structure Un(fs ex:List Addr)(H H':Hp)(h h':Heap):Prop where
 keep:∀ b o,h.get? b=!o->H b=none->b∉fs->b∉ex->h'.get? b=!o
 slot:∀ b o,h.get? b=!o->H b=none->b∈fs->b∉ex->∃ sl,h'.get? b=some {o with slots:=sl}
 free:∀ b o,h.get? b=!o->H b=none->b∉ex->H' b=none
 there:∀ b o,h.get? b=!o->b∉ex->∃ o',h'.get? b=!o'
 tups:∀ b xs,H b=!(.tup xs)->H' b=!(.tup xs)
 frzs:∀ b o u,H b=!(.frz o u)->H' b=!(.frz o u)
 tbls:∀ b ps,H b=!(.tbl ps)->∃ z,H' b=!(.tbl (ps++z))
section
variable{fs fs' ex ex':List Addr}{H H1 H2:Hp}{h h1 h2 h':Heap}{a x e:Addr}{o:HO}
def Un.any(u:Un fs ex H H1 h h1)(q:h.get? b=!ob)(n:H b=none)(z:b∉ex):∃ sl,h1.get? b=some {ob with slots:=sl}:=by
 by_cases hb:b∈fs
 .show u.slot b ob q n hb z
 show#[ob.slots,u.keep b ob q n hb z]
def Un.kept(k:∀ b u,h.get? b=!u->h'.get? b=!u):Un fs ex H H h h' :=
 #[λb ob q _ _ _=>k b ob q,λb ob q _ _ _=>#[ob.slots,k b ob q],λ_ _ _ n _=>n,λb ob q _=>#[ob,k b ob q],λ_ _ q=>q,λ_ _ _ q=>q,λ_ ps q=>#[#[],by rw[q];simp]]
def Un.refl:Un fs ex H H h h:=Un.kept λ_ _ q=>q
theorem Un.laid(k:∀ b u,h.get? b=!u->h'.get? b=!u)(hp:h.objs.size<=a)(z:H a=none):Un fs ex H (upd H a o) h h' where
 keep:=λb u q _ _ _=>k b u q
 slot:=λb u q _ _ _=>#[u.slots,k b u q]
 free:=λb u q n _=>by rw[qu (t8 (tB (gN q) hp))];show n
 there:=λb u q _=>#[u,k b u q]
 tups:=λb xs q=>by rw[qu (jN q z)];show q
 frzs:=λb u xs q=>by rw[qu (jN q z)];show q
 tbls:=λb ps q=>#[#[],by rw[qu (jN q z),q];simp]
def Un.write(B:Mut (H x))(U:e=x\/H e=!(.own x))(k:∀ b u,b≠e->h.get? b=!u->h'.get? b=!u)(O:∃ u,h'.get? e=!u):Un fs ex H (upd H x o) h h':=by
 have hx:∀ b,H b=none->b≠x:=λb n z=>by subst z;rw[n]at B;show B
 have hb:∀ b,H b=none->b≠e:=λb n z=>by
  subst z;rcases U with r|r
  .show hx b n r
  rw[n]at r;cases r
 have hm:∀ b u,H b=!u->¬ Mut !u->b≠x:=λb u q nm z=>by subst z;rw[q]at B;show nm B
 show#[λb u q n _ _=>k b u (hb b n) q,λb u q n _ _=>#[u.slots,k b u (hb b n) q],λb u q n _=>by rw[qu (hx b n)];show n,λb u q _=>?_,
  λb xs q=>by rw[qu (hm b _ q λz=>z)];show q,λb u xs q=>by rw[qu (hm b _ q λz=>z)];show q,λb ps q=>#[#[],by rw[qu (hm b _ q λz=>z),q];simp]]
 by_cases hbe:b=e
 .subst hbe;show O
 show#[u,k b u hbe q]
end
def trk(h:Heap)(H:Hp):List Addr:=(List.range h.objs.size).filter λa=>(H a).isSome
def wJ(h:Heap)(H:Hp):Heap:=PySem.W.hideAll h (trk h H)
def MI(h)(H):(wJ h H).objs.size=h.objs.size:=PySem.W.hideAll_size _ _
def MJ{h:Heap}{H:Hp}(e:h.get? b=!o)(n:H b=none):(wJ h H).get? b=↑o :=
 PySem.W.hideAll_get _ e λhm=>by
  have q:(H b).isSome=true:=(dG.mp hm).2;rw[n]at q;simp at q
def MK{h:Heap}{H:Hp}(e:(wJ h H).get? b=!o):h.get? b=!o/\H b=none:=by
 have e':h.get? b=!o:=PySem.W.of_hideAll (trk h H) e;show#[e',?_];cases q:H b with
 | none=>rfl
 | some x =>
  have hm:b∈trk h H:=dG.mpr #[b7.mpr (gN e'),by simp[q]]
  have z:(wJ h H).get? b=none:=PySem.W.hideAll_none (trk h H) hm;rw[z]at e;cases e
def ML(g h:Heap)(L:Addr):List (Addr×Obj):=(List.range h.objs.size).filterMap λa=>if a=L\/(g.get? a).isSome=true then none else(h.get? a).map λo=>(a,o)
def rest(g h:Heap)(L d:Addr):List (Addr×Obj):=(ML g h L).filter λp=>decide (p.1≠d)
structure Mod(K:Frag)(mg:Str->Option Value)(base:Heap):Prop where
 kin:K.In base
 glob:base.Ns mainGlobals mg
 blt:∃ mb,base.Ns builtinsNs mb/\∀ x:Str,x≠"__name__"->mb x=bootBuiltins x
 nolimit:base.NoLimit
structure Cx where
 prog:Program
 w:World
 K:Frag
 mg:Str->Option Value
 base:Heap
 A:Around
 N:List Str
 s₀:Shared
 H₀:Hp
 env:Env
 outer:List Env
 stack:List Env
 ex:List Addr
 fn:Str->Bool
 calm:Bool
 pn:List (Addr×Obj)
 xe:Value->Shared->Prop
def frs(l:List Env):List Addr:=l.filterMap (·.frame)
abbrev Cx.fs(X:Cx):List Addr:=frs X.outer
def Vis(z:Scope)(x:Str):Prop:=z.names.lookup x=some .local\/z.names.lookup x=some .cell\/z.names.lookup x=some .free
def Loc(z:Scope)(x:Str):Prop:=z.names.lookup x=some .local\/z.names.lookup x=some .cell
def Look(env:Env)(h:Heap)(m:Str->Option aa)(x:Str)(u:aa):Prop :=
 (env.kindOf x=some .local/\m x=!u)\/((env.kindOf x=some .cell\/env.kindOf x=some .free)/\∃ c,env.cells.lookup x=!c/\h.IsCell c !u)
structure Cx.Ok(X:Cx):Prop where
 mod:Mod X.K X.mg X.base
 kind:X.env.scope.kind=.function
 glob:X.env.globals=mainGlobals
 blt:X.env.builtins=builtinsNs
 above:X.s₀[0]<=X.env.locals
 inj:∀ x y c,X.env.cells.lookup x=!c->X.env.cells.lookup y=!c->x=y
 has:∀ x,(X.env.kindOf x=some .cell\/X.env.kindOf x=some .free)->∃ c,X.env.cells.lookup x=!c
 cab:∀ x c,X.fn x=true->X.env.cells.lookup x=!c->X.s₀[0]<=c
 hd:X.calm=true->X.A.handled=none
 frames:X.A.frames=!X.stack
 stk:X.stack=X.outer\/(X.stack=X.env::X.outer/\X.env.frame=!X.env.locals)
 exf:∀ b∈X.ex,b≠X.env.locals/\∀ x c,X.env.cells.lookup x=!c->c≠b
 bs:∀ b o,X.base.get? b=!o->X.s₀.heap.get? b=!o/\X.H₀ b=none
 bsz:X.base.objs.size<=X.s₀[0]
 noex:∀ b o,X.base.get? b=!o->b∉X.ex
 exfs:∀ b∈X.ex,b∉X.fs
 funs:X.s₀.heap.FunFrames X.base X.outer
 frf:∀ b∈X.fs,X.H₀ b=none
structure Inv(X:Cx)(pins:List (Addr×Obj))(σ:List (Option V))(H:Hp)(s:Shared):Prop where
 ok:X.Ok
 os:s.os=X.s₀.os
 bare:AllBare s.gens
 base:Un X.fs X.ex X.H₀ H X.s₀.heap s.heap
 loc:∃ m,s.heap.Ns X.env.locals m/\∀(i:Nat) (x:Str) (v:V),X.N[i]?=!x->σ[i]?=!(!v)->Vis X.env.scope x->∃ u,RelV v u/\Look X.env s.heap m x u
 cell:∀ x c,X.env.cells.lookup x=!c->∃ v,s.heap.IsCell c v
 free:H X.env.locals=none
 freeC:∀ x c,X.env.cells.lookup x=!c->H c=none
 pin:∀ p∈X.pn++pins,s.heap.get? p.1=!p.2/\H p.1=none/\p.1≠X.env.locals/\p.1∉X.fs/\∀ v,p.2.data≠.cell v
 hok:HOk X.prog X.w H s.heap
 len:σ.length=X.N.length
section
variable{X:Cx}{pins:List (Addr×Obj)}{σ:List (Option V)}{H H':Hp}{s:ab}{h':Heap}
def Cx.Ok.nofr(z:X.Ok)(e:X.base.get? b=!o):b∉X.fs:=λhb=>by
 have:=(z.funs.mem hb).1;rw[e]at this;cases this
def Inv.bs(I:"I" H s):∀ b o,X.base.get? b=!o->s.heap.get? b=!o/\H b=none:=λb o e =>
 #[I.base.keep b o (I.ok.bs b o e).1 (I.ok.bs b o e).2 (I.ok.nofr e) (I.ok.noex b o e),I.base.free b o (I.ok.bs b o e).1 (I.ok.bs b o e).2 (I.ok.noex b o e)]
def Inv.bk(I:"I" H s):∀ b o,X.base.get? b=!o->s.heap.get? b=!o:=λb o e=>(I.bs b o e).1
def Inv.mod(I:"I" H s):Mod X.K X.mg X.base:=I.ok.mod
def Inv.kIn(I:"I" H s):X.K.In s.heap:=I.ok.mod.kin.keeps I.bk
def Inv.lt(I:"I" H s):X.env.locals<s[0]:=let #[_,hn,_]:=I.loc;hn.lt
def Inv.sz(I:"I" H s):X.s₀[0]<=s[0]:=tY I.ok.above (cW I.lt)
def Inv.nofs(I:"I" H s)(h:s[0]<=a):a∉X.fs:=λhb=>by
 let⟨_,o,ho,_⟩:=I.ok.funs.mem hb;show absurd (tB (gN ho) (tY I.sz h)) (pF _)
def Inv.cne(I:"I" H s):∀ x c,X.env.cells.lookup x=!c->c≠X.env.locals:=λx c e z=>by
 let⟨v,o,ho,hd⟩:=I.cell x c e;let⟨m,⟨o',es,ep,B,O,_⟩,_⟩:=I.loc;rw[z,B]at ho;cases ho;rw[O]at hd;cases hd
def Inv.funs(I:"I" H s):s.heap.FunFrames X.base X.outer:=by
 have B:∀(l:List Env),(∀ b∈frs l,b∈X.fs)->X.s₀.heap.FunFrames X.base l->s.heap.FunFrames X.base l:=by
  intro l
  induction l with
  | nil=>intro _ _;trivial
  | cons env r ih =>
   intro hs hl;let⟨hk,⟨L,o,hf,hn,ho,hd⟩,hr⟩:=hl;have hL:L∈X.fs:=hs L (by delta frs;rw[bA,hf];show h9)
   let⟨sl,e⟩:=I.base.slot L o ho (I.ok.frf L hL) hL λz=>I.ok.exfs L z hL
   show#[hk,#[L,_,hf,hn,e,hd],ih (λb hb=>hs b (by delta frs;rw[bA,hf];show gj _ hb)) hr]
 show B X.outer (λ_ hb=>hb) I.ok.funs
def Inv.stack(I:"I" H s):s.heap.FunFrames X.base X.stack:=by
 rcases I.ok.stk with e|⟨e,hf⟩
 .rw[e];show I.funs
 rw[e];let⟨m,hn,_⟩:=I.loc;show .cons (by rw[I.ok.kind];decide) hf hn ?_ I.funs
 show Heap.get?_none_of_le (tY I.ok.bsz I.ok.above)
def Inv.stkSub(I:"I" H s):∀ b∈frs X.stack,b∈X.env.locals::X.fs:=λb hb=>by
 rcases I.ok.stk with e|⟨e,hf⟩
 .rw[e]at hb;show gj _ hb
 rw[e]at hb
 delta frs at hb
 rw[bA,hf]at hb;show hb
def Inv.stkFree(I:"I" H s):∀ b∈frs X.stack,H b=none:=λb hb=>by
 rcases gw.mp (I.stkSub b hb)with e|hb
 .rw[e];show I.free
 let⟨_,o,ho,_⟩:=I.ok.funs.mem hb;show I.base.free b o ho (I.ok.frf b hb) λz=>I.ok.exfs b z hb
def Inv.step{d':Drawn}{ch:List Addr}(I:"I" H s)
  (B:∀ b∈ch,(b∈X.ex\/X.s₀[0]<=b)/\b≠X.env.locals/\(∀ x c,X.env.cells.lookup x=!c->c≠b)/\∀ p∈X.pn++pins,p.1≠b)
  (keep:∀ b o,b≠X.env.locals->b∉X.fs->b∉ch->s.heap.get? b=!o->H b=none->h'.get? b=!o)
  (slot:∀ b o,b≠X.env.locals->b∈X.fs->b∉ch->s.heap.get? b=!o->H b=none->∃ sl,h'.get? b=some {o with slots:=sl})(free:∀ b o,b∉ch->s.heap.get? b=!o->H b=none->H' b=none)
  (there:∀ b o,b∉ch->s.heap.get? b=!o->∃ o',h'.get? b=!o')
  (tups:∀ b xs,H b=!(.tup xs)->H' b=!(.tup xs))(frzs:∀ b o u,H b=!(.frz o u)->H' b=!(.frz o u))(tbls:∀ b ps,H b=!(.tbl ps)->∃ h3,H' b=!(.tbl (ps++h3)))
  (ns:∀ m,s.heap.Ns X.env.locals m->h'.Ns X.env.locals m)(hok:HOk X.prog X.w H' h')(hg:AllBare g') :
  "I" H' {s with heap:=h',gens:=g',drawn:=d',toks:=t'}:=by
 have Z:∀ b o,X.s₀.heap.get? b=!o->b≠X.env.locals:=λb o e=>t8 (tB (gN e) I.ok.above)
 have Y:∀ b o,X.s₀.heap.get? b=!o->b∉X.ex->b∉ch:=λb o e hx hb=>by
  rcases(B b hb).1 with z|z
  .show hx z
  show absurd (tB (gN e) z) (pF _)
 have O:∀ x c,X.env.cells.lookup x=!c->∀ v,s.heap.IsCell c v->h'.IsCell c v:=λx c e v #[o,ho,hd]=>by
  have U:c∉ch:=λz=>(B c z).2.2.1 x c e rfl
  by_cases hc:c∈X.fs
  .let⟨sl,q⟩:=slot c o (I.cne x c e) hc U ho (I.freeC x c e);show#[_,q,hd]
  show#[o,keep c o (I.cne x c e) hc U ho (I.freeC x c e),hd]
 show#[I.ok,I.os,hg,#[λb o e n hb hx=>?_,λb o e n hb hx=>?_,λb o e n hx=>?_,λb o e hx=>?_,λb xs e=>tups b xs (I.base.tups b xs e),λb o xs e=>frzs b o xs (I.base.frzs b o xs e),λb ps e=>?_],?_,λx c e=>?_,?_,λx c e=>?_,λp hp=>?_,hok,I.len]
 .show keep b o (Z b o e) hb (Y b o e hx) (I.base.keep b o e n hb hx) (I.base.free b o e n hx)
 .let⟨sl,e1⟩:=I.base.slot b o e n hb hx;let⟨sl',e2⟩:=slot b _ (Z b o e) hb (Y b o e hx) e1 (I.base.free b o e n hx);show#[sl',e2]
 .let⟨o',e1⟩:=I.base.there b o e hx;show free b o' (Y b o e hx) e1 (I.base.free b o e n hx)
 .let⟨o',e1⟩:=I.base.there b o e hx;show there b o' (Y b o e hx) e1
 .let⟨m1,e1⟩:=I.base.tbls b ps e;let⟨m2,e2⟩:=tbls b _ e1;show#[m1++m2,by rw[e2,Array.append_assoc]]
 .let⟨m,hn,hl⟩:=I.loc;show#[m,ns m hn,λi x v e1 e2 e3=>?_]
  let⟨u,r,l⟩:=hl i x v e1 e2 e3;show#[u,r,?_];rcases l with l|⟨k,c,e,z⟩
  .show .inl l
  show .inr #[k,c,e,O x c e _ z]
 .let⟨v,z⟩:=I.cell x c e;show#[v,O x c e v z]
 .let⟨m,⟨o,_,_,ho,_⟩,_⟩:=I.loc;show free _ o (λz=>(B _ z).2.1 rfl) ho I.free
 .let⟨v,o,ho,hd⟩:=I.cell x c e;show free c o (λz=>(B c z).2.2.1 x c e rfl) ho (I.freeC x c e)
 let⟨e,n,ne,nf,d⟩:=I.pin p hp;have U:p.1∉ch:=λz=>(B p.1 z).2.2.2 p hp rfl
 show#[keep p.1 p.2 ne nf U e n,free p.1 p.2 U e n,ne,nf,d]
def Inv.un(I:"I" H s)(u:Un X.fs [] H H' s.heap h')(O:HOk X.prog X.w H' h'):"I" H' {s with heap:=h',toks:=t'}:=by
 let⟨m,⟨o,es,ep,ho,r⟩,_⟩:=id I.loc;let⟨sl,hL⟩:=u.any ho I.free "s"
 show I.step (g':=s.gens) (d':=s.drawn) (ch:=[]) (λ_ z=>nomatch z) (λb o _ hb _ e n=>u.keep b o e n hb "s") (λb o _ hb _ e n=>u.slot b o e n hb "s") (λb o _ e n=>u.free b o e n "s") (λb o _ e=>u.there b o e "s") u.tups u.frzs u.tbls (λm' hm=>by
  let⟨o',U,Y,B,r'⟩:=hm;rw[ho]at B;cases B;show#[_,U,Y,hL,r']) O I.bare
def Inv.call{d':Drawn}{ch:List Addr}(I:"I" H s)(u:Un (frs X.stack) ch H H' s.heap h')(U:HOk X.prog X.w H' h')(hg:AllBare g')
  (B:∀ b∈ch,(b∈X.ex\/X.s₀[0]<=b)/\b≠X.env.locals/\(∀ x c,X.env.cells.lookup x=!c->c≠b)/\∀ p∈X.pn++pins,p.1≠b) :
  "I" H' {s with heap:=h',gens:=g',drawn:=d',toks:=t'}:=by
 let⟨m,⟨o,es,ep,ho,r⟩,_⟩:=id I.loc;let⟨sl,hL⟩:=u.any ho I.free λz=>(B _ z).2.1 rfl
 show I.step (ch:=ch) B (λb o hL hb hc e n=>u.keep b o e n (λz=>(gw.mp (I.stkSub b z)).elim hL hb) hc) (λb o _ _ hc e n=>u.any e n hc) (λb o hc e n=>u.free b o e n hc) (λb o hc e=>u.there b o e hc) u.tups u.frzs u.tbls (λm' hm=>by
  let⟨o',Y,Z,O,r'⟩:=hm;rw[ho]at O;cases O;show#[_,Y,Z,hL,r']) U hg
def Inv.turned{it:Addr}(I:"I" H s)(k:∀ b o,b≠it->s.heap.get? b=!o->h'.get? b=!o)(U:H it=none)(O:it≠X.env.locals)
  (h1:it∈X.ex\/X.s₀[0]<=it)(h2:∀ x c,X.env.cells.lookup x=!c->c≠it)(Y:∀ p∈X.pn++pins,p.1≠it):"I" H {s with heap:=h',toks:=t'}:=by
 have B:∀ b u,H b=!u->b≠it:=λb u e z=>by rw[z,U]at e;cases e
 show I.step (g':=s.gens) (d':=s.drawn) (ch:=[it]) (λb hb=>?_) (λb o _ _ hc e _=>k b o (λz=>hc (by simp[z])) e) (λb o _ _ hc e _=>#[o.slots,k b o (λz=>hc (by simp[z])) e]) (λ_ _ _ _ n=>n)
  (λb o hc e=>#[o,k b o (λz=>hc (by simp[z])) e]) (λ_ _ e=>e) (λ_ _ _ e=>e) (λb ps e=>#[#[],by rw[e];simp]) (λm hm=>?_) (λb u e=>?_) I.bare
 .have e:b=it:=by simpa using hb
  subst e;show#[h1,O,h2,Y]
 .let⟨o,es,ep,ho,r⟩:=hm;show#[o,es,ep,k _ o (tu O) ho,r]
 show(I.hok b u e).stay (λc v hc q=>k c v ?_ q) (λ_ q=>q) λ_ _ q=>q
 rcases hc with z|z
 .rw[z];show B b u e
 show B c _ z
def Inv.tok(I:"I" H s)(t):"I" H {s with toks:=t}:=I.un (h':=s.heap) (t':=t) Un.refl I.hok
def Inv.kept(I:"I" H s)(k:∀ b u,s.heap.get? b=!u->h'.get? b=!u):"I" H {s with heap:=h',toks:=t'}:=I.un (Un.kept k) (I.hok.kept k)
def Inv.laid(I:"I" H s)(k:∀ b u,s.heap.get? b=!u->h'.get? b=!u)(hp:s[0]<=a)(z:ObjOk X.prog X.w (upd H a o) h' a o) :
  "I" (upd H a o) {s with heap:=h',toks:=t'}:=I.un (Un.laid k hp (I.hok.fresh hp)) (I.hok.laid k hp z)
def Inv.write(I:"I" H s)(O:Mut (H x))(U:e=x\/H e=!(.own x))(k:∀ b u,b≠e->s.heap.get? b=!u->h'.get? b=!u)(z:∃ u,h'.get? e=!u)
  (B:ObjOk X.prog X.w (upd H x o) h' x o):"I" (upd H x o) {s with heap:=h',toks:=t'}:=I.un (Un.write O U k z) (I.hok.write O U k z B)
def Inv.pins_of(I:"I" H s)(h:∀ p∈pins',s.heap.get? p.1=!p.2/\H p.1=none/\p.1≠X.env.locals/\p.1∉X.fs/\∀ v,p.2.data≠.cell v):Inv X pins' σ H s :=
 #[I.ok,I.os,I.bare,I.base,I.loc,I.cell,I.free,I.freeC,λp hp=>(gE.mp hp).elim (λz=>I.pin p (tq _ z)) (h p),I.hok,I.len]
def WE{N:List Str}(z:N.Nodup){i j:Nat}(a:N[i]?=!x)(b:N[j]?=!x):i=j:=by
 let⟨h1,e1⟩:=gp.mp a;let⟨h2,e2⟩:=gp.mp b;show(List.getElem_inj z).mp (e1.trans e2.symm)
def Z9{i:Nat}{Q:Unit->ab->Prop}(I:"I" H s)(hN:X.N.Nodup)(hi:X.N[i]?=!x)(O:Loc X.env.scope x)(r:RelV v u)
  (h:∀ s',Inv X pins (σ.set i !v) H s'->(∃ a,Heap.SameBut a s.heap s'.heap/\(a=X.env.locals\/X.env.cells.lookup x=!a))->Q () s')(hf:(X.fn x=true\/X.env.scope.names.lookup x=some .local)["t"]):wpAny M A (storeName X.env x u) Q E s:=by
 let⟨m,hn,hl⟩:=id I.loc;have h3:(X.env.scope.kind==.class||(X.env.scope.kind==.module&&X.env.locals != X.env.globals))=false:=by rw[I.ok.kind];rfl
 have Y:i<σ.length:=by rw[I.len];show(gp.mp hi).1
 have cne:=I.cne;have B:∀{a:Addr} {h':Heap},(∃ o,s.heap.get? a=!o/\H a=none)->Heap.SameBut a s.heap h'->HOk X.prog X.w H h':=λ{a h'} ha hs b ob e=>by
  let⟨_,_,U⟩:=ha;show(I.hok b ob e).stay (λc w' hc q=>(hs.2 c ?_).trans q) (λ_ q=>q) λ_ _ q=>q
  rintro rfl;rcases hc with rfl|hc
  .rw[U]at e;cases e
  rw[U]at hc;cases hc
 rcases O with hk|hk
 .show wpAny_storeName_local hk hn (λh' hn' hs=>?_) h3
  let⟨oL,_,_,hoL,_⟩:=id hn;show h _ #[I.ok,I.os,I.bare,#[λb o e n hb O=>?_,λb o e n hb O=>?_,I.base.free,λb o e O=>?_,I.base.tups,I.base.frzs,I.base.tbls],#[_,hn',λj y v' e1 e2 e3=>?_],λy c e=>?_,I.free,I.freeC,λp hp=>?_,B #[oL,hoL,I.free] hs,by simpa using I.len] #[_,hs,.inl rfl]
  .show(hs.2 b (t8 (tB (gN e) I.ok.above))).trans (I.base.keep b o e n hb O)
  .let⟨sl,e1⟩:=I.base.slot b o e n hb O;show#[sl,(hs.2 b (t8 (tB (gN e) I.ok.above))).trans e1]
  .let⟨o',e1⟩:=I.base.there b o e O;show#[o',(hs.2 b (t8 (tB (gN e) I.ok.above))).trans e1]
  .by_cases hj:j=i
   .subst hj;rw[hi]at e1;cases e1;rw[List.getElem?_set_self Y]at e2;cases e2;show#[u,r,.inl #[hk,by simp]]
   rw[hU (tu hj)]at e2;let⟨u',r',q⟩:=hl j y v' e1 e2 e3;show#[u',r',?_];rcases q with⟨k,e⟩|⟨k,c,e,z⟩
   .show .inl #[k,?_];have:y≠x:=λe=>hj (WE hN e1 (e▸hi))
    simp[this,e]
   show .inr #[k,c,e,z.sameBut hs (cne y c e)]
  .let⟨w',z⟩:=I.cell y c e;show#[w',z.sameBut hs (cne y c e)]
  let⟨e,n,ne,nf,d⟩:=I.pin p hp;show#[(hs.2 p.1 ne).trans e,n,ne,nf,d]
 have Z:X.fn x=true:=by
  rcases hf with z|z
  .show z
  rw[z]at hk;cases hk
 let⟨c,hc⟩:=I.ok.has x (.inl hk);let⟨w',z⟩:=I.cell x c hc;show wpAny_storeName_cell I.ok.kind hk hc z (λh' hc' hs=>?_)
 let⟨oc,hoc,h4⟩:=id z;show h {s with heap:=h'} #[I.ok,I.os,I.bare,#[λb o e n hb O=>?_,λb o e n hb O=>?_,I.base.free,λb o e O=>?_,I.base.tups,I.base.frzs,I.base.tbls],#[m,hn.sameBut hs (tu (cne x c hc)),λj y v' e1 e2 e3=>?_],λy c' e=>?_,I.free,I.freeC,λp hp=>?_,B #[oc,hoc,I.freeC x c hc] hs,by simpa using I.len] #[c,hs,.inr hc]
 .show(hs.2 b (t8 (tB (gN e) (I.ok.cab x c Z hc)))).trans (I.base.keep b o e n hb O)
 .let⟨sl,e1⟩:=I.base.slot b o e n hb O;show#[sl,(hs.2 b (t8 (tB (gN e) (I.ok.cab x c Z hc)))).trans e1]
 .let⟨o',e1⟩:=I.base.there b o e O;show#[o',(hs.2 b (t8 (tB (gN e) (I.ok.cab x c Z hc)))).trans e1]
 .by_cases hj:j=i
  .subst hj;rw[hi]at e1;cases e1;rw[List.getElem?_set_self Y]at e2;cases e2;show#[u,r,.inr #[.inl hk,c,hc,hc']]
  rw[hU (tu hj)]at e2;let⟨u',r',q⟩:=hl j y v' e1 e2 e3;show#[u',r',?_];rcases q with q|⟨k,c',e,z'⟩
  .show .inl q
  show .inr #[k,c',e,z'.sameBut hs ?_];rintro rfl;show hj (WE hN e1 (I.ok.inj _ _ _ e hc▸hi))
 .by_cases hcc:c'=c
  .subst hcc;show#[_,hc']
  let⟨w2,z2⟩:=I.cell y c' e;show#[w2,z2.sameBut hs hcc]
 let⟨e,n,ne,nf,d⟩:=I.pin p hp;show#[(hs.2 p.1 ?_).trans e,n,ne,nf,d];intro q;rw[q,hoc]at e;have q':oc=p.2:=tN e;show d w' (by rw[<- q'];show h4)
def xU{i:Nat}{Q:Unit->ab->Prop}(I:"I" H s)(z:X.N.Nodup)(hi:X.N[i]?=!x)(B:Loc X.env.scope x)(r:RelV v u)
  (h:∀ s',Inv X pins (σ.set i !v) H s'->Q () s')(O:(X.fn x=true\/X.env.scope.names.lookup x=some .local)["t"]):wpAny M A (storeName X.env x u) Q E s :=
 Z9 I z hi B r (λs' I' _=>h s' I') O
def Inv.call'(I:"I" H s)(O:s'.os=s.os)(u:Un (frs X.stack) ch H H' s.heap s'.heap)(z:HOk X.prog X.w H' s'.heap)(U:AllBare s'.gens)
  (B:∀ b∈ch,(b∈X.ex\/X.s₀[0]<=b)/\b≠X.env.locals/\(∀ x c,X.env.cells.lookup x=!c->c≠b)/\∀ p∈X.pn++pins,p.1≠b):"I" H' s':=by
 let⟨h',g',d',t',o'⟩:=s';have e:o'=s.os:=O;subst e;show I.call (g':=g') (t':=t') (d':=d') u z U B
end
abbrev XK:=aa->Option Addr->Hp->Prop
abbrev St:=List (Option V)
abbrev VK:=V->Hp->Prop
abbrev TE:=St->Hp->VK->Prop
abbrev TT:=St->Hp->(Bool->Hp->Prop)->Prop
abbrev TA:=St->Hp->(List V->Hp->Prop)->Prop
structure Ends where
 nx:St->Hp->Prop
 rt:VK
 bk:St->Hp->Prop:=λ_ _=>False
 ct:St->Hp->Prop:=λ_ _=>False
abbrev TS:=Ends->St->Hp->Prop
def EP(X:Cx)(pins:List (Addr×Obj))(σ:St)(Q:VK)(u:aa)(s':ab):Prop:=∃ v H',"I" H' s'/\RelV v u/\Q v H'
def TP(X:Cx)(pins:List (Addr×Obj))(σ:St)(Q:Bool->Hp->Prop)(b:Bool)(s':ab):Prop:=∃ H',"I" H' s'/\Q b H'
def AP(X:Cx)(pins:List (Addr×Obj))(σ:St)(Q:List V->Hp->Prop)(us:List aa)(s':ab):Prop:=∃ vs H',"I" H' s'/\Vals vs us/\Q vs H'
def SP(X:Cx)(pins:List (Addr×Obj))(D:Ends)(f:Flow)(s':ab):Prop :=
 match f with
 | .next=>∃ z H',Inv X pins z H' s'/\D.nx z H'
 | .brk=>∃ z H',Inv X pins z H' s'/\D.bk z H'
 | .cont=>∃ z H',Inv X pins z H' s'/\D.ct z H'
 | .ret u=>∃ v z H',Inv X pins z H' s'/\RelV v u/\D.rt v H'
def PE(X:Cx)(e:Expr)(t:TE):Prop :=
 ∀(pins:List (Addr×Obj)) (s:ab) (σ:St) (H:Hp) (Q:VK),"I" H s->t σ H Q->X[3] (eval e X.env) (EP X pins σ Q) X.xe s
def PT(X:Cx)(e:Expr)(t:TT):Prop :=
 ∀(pins:List (Addr×Obj)) (s:ab) (σ:St) (H:Hp) (Q:Bool->Hp->Prop),"I" H s->t σ H Q->X[3] (isTrue e X.env (eval e X.env)) (TP X pins σ Q) X.xe s
def PA(X:Cx)(es:List Expr)(t:TA):Prop :=
 ∀(pos:Pos) (pins:List (Addr×Obj)) (s:ab) (σ:St) (H:Hp) (Q:List V->Hp->Prop),"I" H s->t σ H Q->X[3] (spliced (backTo pos (sE es X.env))) (AP X pins σ Q) X.xe s
def PS(X:Cx)(st:Stmt)(t:TS):Prop :=
 ∀(pins:List (Addr×Obj)) (s:ab) (σ:St) (H:Hp) (D:Ends),"I" H s->t D σ H->X[3] (exec st X.env) (SP X pins D) X.xe s
def PSs(X:Cx)(st:List Stmt)(t:TS):Prop :=
 ∀(pins:List (Addr×Obj)) (s:ab) (σ:St) (H:Hp) (D:Ends),"I" H s->t D σ H->X[3] (execs st X.env) (SP X pins D) X.xe s
def thn{M:Model}{A:ag}{E:aa->ab->Prop}{s:ab}(h:wpAny M A t Q E s)(z:∀ a s,Q a s->Q' a s):wpAny M A t Q' E s:=cu h z λ_ _ x=>x
section
variable{X:Cx}
def Qq(i:Nat):TE:=λσ H Q=>∃ v,σ[i]?=!(!v)/\Q v H
def tC(v:V):TE:=λ_ H Q=>Q v H
def WF{i:Nat}(O:X.N[i]?=!x)(U:Vis X.env.scope x)(hd:((x==("__debug__"))=false)["d"])(B:((x==("__classdict__"))=false)["d"]):PE X (.Name x pos) (Qq i):=by
 intro pins s σ H Q I h;let⟨v,e,h⟩:=h;let⟨m,hn,hl⟩:=I.loc;let⟨u,r,l⟩:=hl i x v O e U;have fin:EP X pins σ Q u s:=#[v,H,I,r,h];rcases l with⟨hk,hm⟩|⟨hk,c,hc,z⟩
 .show wpAny_Name (wpAny_loadName_local I.ok.kind hk hn hm fin) hd
 rcases hk with hk|hk
 .show wpAny_Name (wpAny_loadName_cell I.ok.kind hk hc z fin) hd
 show wpAny_Name (wpAny_loadName_free I.ok.kind hk hc z fin B) hd
def MM{i j pos}:PE X (.Constant i[6] j pos) (tC i[6]):=λ_ _ _ H _ I h=>wpAny_Constant_int #[.int i,H,I.tok _,#[_,rfl],h]
def MN{b j pos}:PE X (.Constant (.bool b) j pos) (tC (.bl b)):=λ_ _ _ H _ I h=>Constant_bool #[.bl b,H,I,rfl,h]
def MO{j pos}:PE X (.Constant .none j pos) (tC .non):=λ_ _ _ H _ I h=>Constant_none #[.non,H,I,rfl,h]
def MP{x j pos}:PE X (.Constant (.str x) j pos) (tC (.str x)):=λ_ _ _ H _ I h=>Calls.Constant_str #[.str x,H,I.tok _,#[_,rfl],h]
def Gl(X:Cx)(x:Str):Prop:=X.env.kindOf x=some .globalImplicit
def Za{Q:aa->ab->Prop}(I:"I" H s)(z:Gl X x)(B:X.mg x=!u)(h:Q u s)
  (hd:((x==("__debug__"))=false)["d"]):X[3] (eval (.Name x pos) X.env) Q E s :=
 Calls.Name_function_global I.ok.kind z (Calls.loadGlobal_global (by rw[I.ok.glob];show I.mod.glob.keeps I.bk) B h) hd
def zL{E:aa->ab->Prop}{Q:aa->ab->Prop}(I:"I" H s)(z:Gl X x)(B:X.mg x=none)(O:bootBuiltins x=!u)(h:Q u s)
  (U:(x≠"__name__")["d"])(hd:((x==("__debug__"))=false)["d"]):X[3] (eval (.Name x pos) X.env) Q E s:=by
 let⟨mb,h1,h2⟩:=I.mod.blt;show Calls.Name_function_global I.ok.kind z (Calls.loadGlobal_builtin (by rw[I.ok.glob];show I.mod.glob.keeps I.bk) B (by rw[I.ok.blt];show h1.keeps I.bk) ((h2 x U).trans O) h) hd
def MQ(z:Gl X x)(B:X.mg x=!u)(r:RelV v u)(hd:((x==("__debug__"))=false)["d"]):PE X (.Name x pos) (tC v) :=
 λ_ _ _ H _ I h=>Za I z B #[v,H,I,r,h] hd
variable{a b:Expr}{ta tb:TE}{pos:Pos}
def WG(b)(h:op≠.In)(h2:op≠.NotIn):behindInMarks op b=false:=by
 have e1:(op==CmpOp.In)=false:=by cases op<;>first|rfl|show absurd rfl h
 have e2:(op==CmpOp.NotIn)=false:=by cases op<;>first|rfl|show absurd rfl h2
 cases b<;>simp[behindInMarks,e1,e2]
variable{tA tB':TT}{rest:List Expr}
end
def SqL(K:Frag)(H:Hp)(a:Addr)(xs:List V):Prop :=
 Rd H a (.lst xs) \/
  ∃(o:Obj) (its:Array aa) (n:Nat),K.lookup a=!o/\o.cls=.type "list"/\o.dict=none/\o.data=.seq its n/\its.size<=sizeLine/\Vals xs its[2]
def SqT(K:Frag)(H:Hp)(a:Addr)(xs:List V):Prop :=
 Rd H a (.tup xs) \/
  ∃(o:Obj) (its:Array aa) (n:Nat),K.lookup a=!o/\o.cls=.type "tuple"/\o.data=.seq its n/\its.size<=sizeLine/\Vals xs its[2]
def MR:aa->Option V
 | .none=>some .non
 | .bool b=>!(.bl b)
 | .int i _=>!i[6]
 | .str x _=>!(.str x)
 | .bytes b _=>!(.byt b)
 | .float b _=>!(.flt b)
 | .ref a=>!(.ref a)
 | .type n=>!(.ty n)
 | _=>none
def RelV.abs(r:RelV x u):MR u=!x:=by
 cases x with
 | non=>cases r;rfl
 | bl _=>cases r;rfl
 | int _=>let⟨t,rfl⟩:=r;rfl
 | str _=>let⟨t,rfl⟩:=r;rfl
 | byt _=>let⟨t,rfl⟩:=r;rfl
 | flt _=>let⟨t,rfl⟩:=r;rfl
 | ref _=>cases r;rfl
 | ty _=>cases r;rfl
def RelV.inj(r:RelV x u)(q:RelV y u):x=y:=tN (r.abs.symm.trans q.abs)
theorem Vals.inj:∀{xs ys} {us},Vals xs us->Vals ys us->xs=ys
 | _,_,_,.nil,.nil=>rfl
 | _,_,_,.cons r t,.cons r' t'=>by rw[r.inj r',Vals.inj t t']
section
variable{X:Cx}{pins:List (Addr×Obj)}{σ:St}{H:Hp}{s:ab}{a:Addr}{xs ys:List V}
def SqL.of{K:Frag}(h:H a=!(.lst xs)):SqL K H a xs:=.inl (.inl h)
def SqT.of{K:Frag}(h:H a=!(.tup xs)):SqT K H a xs:=.inl (.inl h)
def Inv.list(I:"I" H s)(h:SqL X.K H a xs):∃ its,Vals xs its/\PlainL s.heap a its.toArray/\xs[1]<=sizeLine:=by
 rcases h with h|⟨o,its,n,hk,hc,hd,hs,hz,r⟩
 .let⟨z,its,n,r,e⟩:=h.ok I.hok;show#[its,r,#[_,n,e,rfl,rfl,rfl],z]
 show#[its[2],r,#[o,n,I.kIn a o hk,hc,hd,by simpa using hs],?_]
 have e:=r[1];simp only[pt]at e;lia
def Inv.tuple(I:"I" H s)(h:SqT X.K H a xs):∃ its,Vals xs its/\IsTup s.heap a its.toArray/\xs[1]<=sizeLine:=by
 rcases h with h|⟨o,its,n,hk,hc,hs,hz,r⟩
 .let⟨z,its,r,p⟩:=h.ok I.hok;show#[its,r,p,z]
 show#[its[2],r,#[o,I.kIn a o hk,hc,n,by simpa using hs],?_]
 have e:=r[1];simp only[pt]at e;lia
def Inv.list_inj(I:"I" H s)(h:SqL X.K H a xs)(h':SqL X.K H a ys):xs=ys:=by
 let⟨its,r,⟨o,n,e,_,_,d⟩,_⟩:=I.list h;let⟨its',r',⟨o',n',e',_,_,d'⟩,_⟩:=I.list h';rw[e]at e';cases e';rw[d]at d';injection d' with d1 _;have:its=its':=by simpa using congrArg Array.toList d1
 subst this;show r.inj r'
def Inv.tuple_inj(I:"I" H s)(h:SqT X.K H a xs)(h':SqT X.K H a ys):xs=ys:=by
 let⟨its,r,⟨o,e,_,n,d⟩,_⟩:=I.tuple h;let⟨its',r',⟨o',e',_,n',d'⟩,_⟩:=I.tuple h';rw[e]at e';cases e';rw[d]at d';injection d' with d1 _;have:its=its':=by simpa using congrArg Array.toList d1
 subst this;show r.inj r'
end
abbrev Cx.wish(X:Cx)(E:aa->ab->Prop):Cx:={X with xe:=E}
abbrev Cx.nox(X:Cx):Cx:=X.wish λ_ _=>False
def Cx.Ok.wish{X:Cx}(z:X.Ok)(E):(X.wish E).Ok :=
 #[z.mod,z.kind,z.glob,z.blt,z.above,z.inj,z.has,z.cab,z.hd,z.frames,z.stk,z.exf,z.bs,z.bsz,z.noex,z.exfs,z.funs,z.frf]
def Cx.Ok.unwish{X:Cx}{E:aa->ab->Prop}(z:(X.wish E).Ok):X.Ok :=
 #[z.mod,z.kind,z.glob,z.blt,z.above,z.inj,z.has,z.cab,z.hd,z.frames,z.stk,z.exf,z.bs,z.bsz,z.noex,z.exfs,z.funs,z.frf]
section
variable{X:Cx}{pins:List (Addr×Obj)}{σ:St}{H:Hp}{s:ab}{E:aa->ab->Prop}
def Inv.wish(I:"I" H s)(E):Inv (X.wish E) pins σ H s:=#[I.ok.wish E,I.os,I.bare,I.base,I.loc,I.cell,I.free,I.freeC,I.pin,I.hok,I.len]
def Inv.unwish(I:Inv (X.wish E) pins σ H s):"I" H s:=#[I.ok.unwish,I.os,I.bare,I.base,I.loc,I.cell,I.free,I.freeC,I.pin,I.hok,I.len]
def SP.unwish(h:SP (X.wish E) pins D f s'):SP X pins D f s':=by
 cases f with
 | next=>let⟨z,H',I,q⟩:=h;show#[z,H',I.unwish,q]
 | brk=>let⟨z,H',I,q⟩:=h;show#[z,H',I.unwish,q]
 | cont=>let⟨z,H',I,q⟩:=h;show#[z,H',I.unwish,q]
 | ret u=>let⟨v,z,H',I,r,q⟩:=h;show#[v,z,H',I.unwish,r,q]
def PSs.nox{st:List Stmt}(h:PSs X.nox st t):PSs X st t:=λpins s σ H D I hw =>
 cu (h pins s σ H D (I.wish _) hw) (λ_ _ q=>q.unwish) λ_ _ z=>False.elim z
end
section
variable{X:Cx}{st:Stmt}{rest:List Stmt}{t u:TS}{e:Expr}{te:TE}{pos:Pos}
def Inv.quiet(I:"I" H s):interactive X.env=false:=by simp[interactive,I.ok.kind]
def MS(te:TE):TS:=λD σ H=>te σ H λ_ H1=>D.nx σ H1
def xV(z:PE X e te)(B:(swapsWith e none pos.line X.env=pure false)["r"]):PS X (.Expr e pos) (MS te):=by
 intro pins s σ H D I h;show wpAny_Expr_any (thn (z pins s σ H _ I h) λv s1 #[x,H1,I1,r1,q1]=>#[σ,H1,I1,q1]) I.quiet B
def MT(te:TE):TS:=λD σ H=>te σ H D.rt
def MU(z:PE X e te):PS X (.Return ↑e pos) (MT te):=by
 intro pins s σ H D I h;show bU (thn (z pins s σ H _ I h) λv s1 #[x,H1,I1,r1,q1]=>#[x,σ,H1,I1,r1,q1])
end
abbrev TG:=V->St->Hp->(St->Hp->Prop)->Prop
abbrev TGs:=List V->St->Hp->(St->Hp->Prop)->Prop
def PG(X:Cx)(z:Expr)(t:TG):Prop :=
 ∀(pins:List (Addr×Obj)) (s:ab) (σ:St) (H:Hp) (v:V) (u:aa) (Q:St->Hp->Prop),"I" H s->RelV v u->t v σ H Q ->
  X[3] (assign z X.env u) (λ_ s'=>∃ B H',Inv X pins B H' s'/\Q B H') X.xe s
def PGs(X:Cx)(B:List Expr)(t:TGs):Prop :=
 ∀(pins:List (Addr×Obj)) (s:ab) (σ:St) (H:Hp) (vs:List V) (us:List aa) (Q:St->Hp->Prop),"I" H s->Vals vs us->t vs σ H Q ->
  X[3] (assignInOrder ((assignEach B X.env).map (·.2)) us) (λ_ s'=>∃ z H',Inv X pins z H' s'/\Q z H') X.xe s
abbrev TSet:=V->V->V->Hp->(Hp->Prop)->Prop
def PSet(X:Cx)(t:TSet):Prop :=
 ∀(pins:List (Addr×Obj)) (s:ab) (σ:St) (H:Hp) (o i v:V) (ov iv u:aa) (Q:Hp->Prop),"I" H s->RelV o ov->RelV i iv->RelV v u->t o i v H Q ->
  X[3] (setItem ov iv u) (λ_ s'=>∃ H',"I" H' s'/\Q H') X.xe s
abbrev TIp:=V->V->Hp->VK->Prop
def PIp(X:Cx)(op:Operator)(t:TIp):Prop :=
 ∀(pins:List (Addr×Obj)) (s:ab) (σ:St) (H:Hp) (x y:V) (v u:aa) (Q:VK),"I" H s->RelV x v->RelV y u->t x y H Q ->
  X[3] (inplaceOp op v u) (EP X pins σ Q) X.xe s
section
variable{X:Cx}{pos:Pos}
def MV(i:Nat):TG:=λv σ H Q=>Q (σ.set i !v) H
def WH{i:Nat}(z:X.N.Nodup)(hi:X.N[i]?=!x)(B:Loc X.env.scope x)(O:(X.fn x=true\/X.env.scope.names.lookup x=some .local)["t"]):PG X (.Name x pos) (MV i):=by
 intro pins s σ H v u Q I r h;show bV (xU I z hi B r (λs' I'=>#[_,H,I',h]) O)
def MW:TGs:=λvs σ H Q=>vs=[]/\Q σ H
def MX(t:TG)(u:TGs):TGs:=λvs σ H Q=>∃ v r,vs=v::r/\t v σ H λz H'=>u r z H' Q
def MY:PGs X [] MW:=by
 intro pins s σ H vs us Q I r h;let⟨e,h⟩:=h;subst e;cases r;show assignInOrder_nil #[σ,H,I,h]
def MZ{t:TG}{u:TGs}(h1:PG X e t)(h2:PGs X es u)
  (z:((assignEach (e::es) X.env).map (·.2)=assign e X.env::(assignEach es X.env).map (·.2))["r"]):PGs X (e::es) (MX t u):=by
 intro pins s σ H vs us Q I r h;let⟨v,vr,e1,h⟩:=h;subst e1;cases r with
 | cons r rr =>
  rw[z];show assignInOrder_cons (thn (h1 pins s σ H _ _ _ I r h) λ_ s1 #[σ1,H1,I1,q1]=>?_)
  show h2 pins s1 σ1 H1 _ _ Q I1 rr q1
def G0(K:Frag)(n:Nat)(t:TGs):TG:=λv σ H Q=>∃ a xs,v=.ref a/\SqT K H a xs/\xs[1]=n/\t xs σ H Q
def G5{k:Nat}{n:Nat}(B:X.calm=true)(h:PGs X es t)
  (O:((assignEach es X.env)[1]=n)["r"])(z:((assignEach es X.env).findIdx? (·.1)=none)["r"]):PG X (.Tuple es k pos) (G0 X.K n t):=by
 intro pins s σ H v u Q I r hw;let⟨a,xs,e1,hq,hl,hw⟩:=hw;subst e1;cases r;let⟨its,rv,ht,hz⟩:=I.tuple hq;show assign_Tuple_tuple (I.ok.hd B) ht (by simp[O,<- hl,rv[1]]) z λh' hx=>?_
 have I1:"I" H {s with heap:=h'}:=I.kept (t':=s.toks) λb o e=>hx b o (t8 (gN e)) e
 show h pins _ σ H xs _ Q I1 rv[""] hw
def G6(to z:TE)(t:TSet):TG:=λv σ H Q=>to σ H λo H1=>z σ H1 λi H2=>t o i v H2 λH3=>Q σ H3
def G7{to z:TE}{t:TSet}(B:PE X o to)(hi:PE X i z)(O:PSet X t)
  (U:∀ v,assign (.Subscript o i pos) X.env v=(do
   let ov <- holding [v] (eval o X.env)
   let iv <- holding [v,ov] (eval i X.env)
   standAt pos
   holding [v,ov,iv] (setItem ov iv v)
   release [v,ov,iv] []):=by intro _;rfl):PG X (.Subscript o i pos) (G6 to z t):=by
 intro pins s σ H v u Q I r h;rw[U];show gg (fU (thn (B pins s σ H _ I h) λov s1 #[x,H1,I1,r1,q1]=>?_))
 show gg (fU (thn (hi pins s1 σ H1 _ I1 q1) λiv s2 #[y,H2,I2,r2,q2]=>?_))
 show gg (mm (gg (fU (thn (O pins s2 σ H2 x y v ov iv u _ I2 r1 r2 r q2) λ_ s3 #[H3,I3,q3]=>?_))))
 show wpAny_release #[σ,H3,I3,q3]
def G8(te:TE)(g:TG):TS:=λD σ H=>te σ H λx H1=>g x σ H1 D.nx
def G9{tg e:Expr}{te:TE}{g:TG}(z:PE X e te)(B:PG X tg g)(O:(swapsWithSole [tg] e pos.line X.env=pure false)["r"])(U:(swappedStores [tg] e X.env=pure none)["r"])
  (h1:((assignEach [tg] X.env).map (·.2)=[assign tg X.env])["r"]):PS X (.Assign [tg] e pos) (G8 te g):=by
 intro pins s σ H D I h;show wpAny_Assign_stores (thn (z pins s σ H _ I h) λv s1 #[x,H1,I1,r1,q1]=>?_) O U
 rw[h1];show thn (B pins s1 σ H1 x v _ I1 r1 q1) λ_ s2 q=>q
def Ga(i:Nat)(te:TE)(B:TIp):TS:=λD σ H=>∃ x,σ[i]?=!(!x)/\te σ H λy H1=>B x y H1 λz H2=>D.nx (σ.set i !z) H2
def Gb(Z:X.N.Nodup)(hi:X.N[i]?=!x)(U:Loc X.env.scope x)(he:PE X e te)(ho:PIp X op ti)(hf:(X.fn x=true\/X.env.scope.names.lookup x=some .local)["t"]) :
  PS X (.AugAssign (.Name x pos') op e pos) (Ga i te ti):=by
 intro pins s σ H D I h;let⟨v,e1,h⟩:=h;let⟨m,hn,hl⟩:=I.loc;have Y:Vis X.env.scope x:=by rcases U with k|k;show .inl k;show .inr (.inl k)
 let⟨u,r,l⟩:=hl i x v hi e1 Y;show wpAny_AugAssign_Name ?_;have go:X[3] (eval e X.env) (λw s₂=>X[3] (inplaceOp op u w) (λr O=>X[3] (storeName X.env x r) (λ_=>SP X pins D .next) X.xe O) X.xe s₂) X.xe s:=by
  show thn (he pins s σ H _ I h) λw s1 #[y,H1,I1,r1,q1]=>?_
  show thn (ho pins s1 σ H1 v y u w _ I1 r r1 q1) λz s2 #[zv,H2,I2,r2,q2]=>?_
  show xU I2 Z hi U r2 (λs3 I3=>#[_,H2,I3,q2]) hf
 rcases l with⟨hk,hm⟩|⟨hk,c,hc,B⟩
 .show wpAny_loadName_local I.ok.kind hk hn hm go
 rcases hk with hk|hk
 .show wpAny_loadName_cell I.ok.kind hk hc B go
 rcases U with k|k
 .have:X.env.scope.names.lookup x=some .free:=hk;rw[k]at this;cases this
 have:X.env.scope.names.lookup x=some .free:=hk;rw[k]at this;cases this
def Gc(c:TT)(tb:TS):TS:=λD σ H=>∃ W:Nat->St->Hp->Prop,(∃ m,W m σ H)/\∀ m σ H,W m σ H ->
 c σ H λb H1=>if b=true then ∃ N:St->Hp->Prop,(∀ z H',N z H'->∃ m',m'<m/\W m' z H')/\tb {D with nx:=N,ct:=N,bk:=D.nx} σ H1 else D.nx σ H1
def Gd{tc:TT}{tb:TS}(hp:PassesOwn (model X.prog X.w) X.A X.env X.xe)(O:PT X c tc)(U:PSs X body tb):PS X (.While c body [] pos) (Gc tc tb):=by
 intro pins s σ H D I h;let⟨W,⟨m0,w0⟩,turn⟩:=h;show wpAny_While (codeAny_whileLoop (λn s'=>∃ B H',Inv X pins B H' s'/\W n B H') ?_ m0 #[σ,H,I,w0])
 rintro n s1 ⟨σ1,H1,I1,w1⟩;show cw hp (thn (O pins s1 σ1 H1 _ I1 (turn n σ1 H1 w1)) λb s2 #[H2,I2,q2]=>?_)
 cases b with
 | true =>
  let⟨N,hN,q2⟩:=q2;rw[iP rfl];show cw hp (thn (U pins s2 σ1 H2 _ I2 q2) λf s3 q3=>?_)
  cases f with
  | next =>
   let⟨z,H3,I3,n3⟩:=q3;let⟨m',hm,w3⟩:=hN z H3 n3;show#[m',hm,z,H3,I3,w3]
  | cont =>
   let⟨z,H3,I3,n3⟩:=q3;let⟨m',hm,w3⟩:=hN z H3 n3;show#[m',hm,z,H3,I3,w3]
  | brk=>show q3
  | ret v=>show q3
 | false =>
  rw[iN fY];show bB #[σ1,H2,I2,q2]
end
structure It where
 go:Nat->Hp->Prop
 yld:Nat->Hp->V->Hp->Prop
 stop:Nat->Hp->Prop
def FpOk(X:Cx)(pins:List (Addr×Obj))(H:Hp)(b:Addr):Prop :=
 H b=none/\b≠X.env.locals/\b∉X.fs/\(b∈X.ex\/X.s₀[0]<=b)/\(∀ x c,X.env.cells.lookup x=!c->c≠b)/\∀ p∈X.pn++pins,p.1≠b
def Inv.fpOk{H H':Hp}{s:ab}(I:"I" H s)(B:s[0]<=b)(O:H' b=none):FpOk X pins H' b:=by
 show#[O,pK (tB I.lt B),I.nofs B,.inr (tY I.sz B),λx c e z=>?_,λp hp z=>?_]
 .let⟨v,q⟩:=I.cell x c e;show absurd (tB q.lt (by rw[z];show B)) (pF _)
 show absurd (tB (gN (I.pin p hp).1) (by rw[z];show B)) (pF _)
structure Turn(P:Program)(w:World)(K:Frag)(tg:Expr)(J:It)(fp:List Addr)(it:Addr)(tn:Nat->Heap->Prop):Prop where
 mem:it∈fp
 obj:∀ i h,tn i h->∀ b∈fp,∃ o,h.get? b=!o/\∀ v,o.data≠.cell v
 keep:∀ i h h',tn i h->(∀ b∈fp,∀ o,h.get? b=!o->h'.get? b=!o)->tn i h'
 item:∀(X:Cx),X.prog=P->X.w=w->X.K=K->X.calm=true->∀(i:Nat) (pins:List (Addr×Obj)) (s:Shared) (σ:St) (H:Hp) (E:Value->Shared->Prop),"I" H s->(∀ b∈fp,FpOk X pins H b)->tn i s.heap->J.go i H ->
  wpAny (model P w) X.A (pyNext (.ref it)) (λr s1=>∃ u,r=↑u /\
   wpAny (model P w) X.A (letOwnedTupleGo tg (.ref it) u) (λ_ s2=>∃ x H',"I" H' s2/\RelV x u/\J.yld i H x H'/\tn (i+1) s2.heap/\∀ b∈fp,H' b=none) E s1) E s
 done:∀(X:Cx),X.prog=P->X.w=w->X.K=K->X.calm=true->∀(i:Nat) (pins:List (Addr×Obj)) (s:Shared) (σ:St) (H:Hp) (E:Value->Shared->Prop),"I" H s->(∀ b∈fp,FpOk X pins H b)->tn i s.heap->J.stop i H ->
  wpAny (model P w) X.A (pyNext (.ref it)) (λr s1=>r=none/\"I" H s1) E s
 self:∀(A:Around) (i:Nat) (s:Shared) (Q:Value->Shared->Prop) (E:Value->Shared->Prop),tn i s.heap->Q (.ref it) s->wpAny (model P w) A (pyIter (.ref it)) Q E s
abbrev TI:=St->Hp->(It->Hp->Prop)->Prop
def PIE(X:Cx)(pins:List (Addr×Obj))(σ:St)(tg:Expr)(R:It->Hp->Prop)(z:aa)(B:ab):Prop :=
 ∃(it:Addr) (fp:List Addr) (tn:Nat->Heap->Prop) (J:It) (H':Hp),z=.ref it/\"I" H' B/\Turn X.prog X.w X.K tg J fp it tn/\tn 0 B.heap/\(∀ b∈fp,FpOk X pins H' b)/\R J H'
def PI(X:Cx)(tg iter:Expr)(z:TI):Prop :=
 ∀(pins:List (Addr×Obj)) (s:ab) (σ:St) (H:Hp) (R:It->Hp->Prop),"I" H s->z σ H R ->
  X[3] (eval iter X.env) (λv s1=>X[3] (pyIter v) (PIE X pins σ tg R) X.xe s1) X.xe s
def yz{s:ab}{o:Obj}{Q:Unit->ab->Prop}(B:s.heap.get? it=!o)(O:o.cls=.type n)(hd:o.data=.fields vs)
    (U:["enumerate","zip","dict_itemiterator","dict_reverseitemiterator","odict_iterator","itertools.zip_longest","itertools.pairwise"].contains n=false)(z:Q () s):wpAny M A (letOwnedTupleGo tg (.ref it) u) Q E s:=by
  delta letOwnedTupleGo
  cases tg<;>first
    | show gy z
    | (cases u<;>first
        | show gy z
        | (show gg (wpAny_load B ?_)
           rw[O,hd];show wpAny M A (if (["enumerate","zip","dict_itemiterator","dict_reverseitemiterator","odict_iterator","itertools.zip_longest","itertools.pairwise"].contains n&&vs[0]?==!(rawInt _))=true then _ else _) Q E s
           rw[iN (by intro h;rw[U,bQ]at h;cases h)]
           show gy z))
def Itl(K:Frag)(a:Addr):It :=
 #[λi H=>∃ xs x,SqL K H a xs/\xs[i]?=!x,λi H x H'=>H'=H/\∀ xs,SqL K H a xs->xs[i]?=!x,λi H=>∃ xs,SqL K H a xs/\xs[1]<=i]
def Itt(K:Frag)(a:Addr):It :=
 #[λi H=>∃ xs x,SqT K H a xs/\xs[i]?=!x,λi H x H'=>H'=H/\∀ xs,SqT K H a xs->xs[i]?=!x,λi H=>∃ xs,SqT K H a xs/\xs[1]<=i]
def Itr(lo:Int)(n:Nat):It:=#[λi _=>i<n,λi H x H'=>H'=H/\x=.int (lo+i),λi _=>n<=i]
def Ge{K:Frag}(a it:Addr):Turn P w K tg (Itl K a) [it] it (λi h=>h.IsListIter it a i)where
 mem:=by simp
 obj:=λi h st b hb=>by
  have e:b=it:=by simpa using hb
  subst e;let⟨o,e,c,d⟩:=st;show#[o,e,λv z=>by rw[d]at z;cases z]
 keep:=λi h h' st k=>st.at λo e=>k it "s" o e
 item:=by
  intro X hP hw hK hc i pins s σ H E I hf st hg;subst hP hw hK;let⟨xs,x,hq,hx⟩:=hg;let⟨its,rv,p,hz⟩:=I.list hq;let⟨u,hu,ru⟩:=rv.get hx;let⟨f0,f1,f2,f3,f4,f5⟩:=hf it "s"
  show wpAny_pyNext_list_item st p.isList (x:=u) hu[""] λh' B sb=>?_
  have I1:"I" H {s with heap:=h'}:=I.turned (t':=s.toks) (λb o hb e=>(sb.2 b hb).trans e) f0 f1 f3 f4 f5
  let⟨o,e,c,d⟩:=id B;show#[u,rfl,yz (s:={s with heap:=h'}) e c d "d" #[x,H,I1,ru,#[rfl,λys hy=>by rw[I.list_inj hy hq];show hx],B,λb hb=>(hf b hb).1]]
 done:=by
  intro X hP hw hK hc i pins s σ H E I hf st hg;subst hP hw hK;let⟨xs,hq,hx⟩:=hg;let⟨its,rv,p,hz⟩:=I.list hq;let⟨f0,f1,f2,f3,f4,f5⟩:=hf it "s"
  have hl:=rv[1];show wpAny_pyNext_list_end (I.ok.hd hc) st p.isList (by simp;lia) λh' eb=>#[rfl,I.turned (t':=s.toks) (λb o hb e=>eb b o hb e) f0 f1 f3 f4 f5]
 self:=λ_ _ _ _ _ st h=>wpAny_pyIter_listiter st h
def Gf{K:Frag}(a it:Addr):Turn P w K tg (Itt K a) [it] it (λi h=>h.IsTupleIter it a i)where
 mem:=by simp
 obj:=λi h st b hb=>by
  have e:b=it:=by simpa using hb
  subst e;let⟨o,e,c,d⟩:=st;show#[o,e,λv z=>by rw[d]at z;cases z]
 keep:=λi h h' st k=>st.at λo e=>k it "s" o e
 item:=by
  intro X hP hw hK hc i pins s σ H E I hf st hg;subst hP hw hK;let⟨xs,x,hq,hx⟩:=hg;let⟨its,rv,p,hz⟩:=I.tuple hq;let⟨u,hu,ru⟩:=rv.get hx;let⟨f0,f1,f2,f3,f4,f5⟩:=hf it "s"
  show wpAny_pyNext_tuple_item st (show s.heap.IsTuple a its.toArray from p) (x:=u) hu[""] λh' B sb=>?_
  have I1:"I" H {s with heap:=h'}:=I.turned (t':=s.toks) (λb o hb e=>(sb.2 b hb).trans e) f0 f1 f3 f4 f5
  let⟨o,e,c,d⟩:=id B;show#[u,rfl,yz (s:={s with heap:=h'}) e c d "d" #[x,H,I1,ru,#[rfl,λys hy=>by rw[I.tuple_inj hy hq];show hx],B,λb hb=>(hf b hb).1]]
 done:=by
  intro X hP hw hK hc i pins s σ H E I hf st hg;subst hP hw hK;let⟨xs,hq,hx⟩:=hg;let⟨its,rv,p,hz⟩:=I.tuple hq;let⟨f0,f1,f2,f3,f4,f5⟩:=hf it "s"
  have hl:=rv[1];show wpAny_pyNext_tuple_end (I.ok.hd hc) st (show s.heap.IsTuple a its.toArray from p) (by simp;lia) λh' eb=>#[rfl,I.turned (t':=s.toks) (λb o hb e=>eb b o hb e) f0 f1 f3 f4 f5]
 self:=λ_ _ _ _ _ st h=>wpAny_pyIter_tupleiter st h
def Gg{K:Frag}(it:Addr)(lo:Int)(n:Nat):Turn P w K tg (Itr lo n) [it] it (λi h=>IsRangeIter h it (lo+(i:Nat)*1) ((n:Int)-(i:Nat)) 1)where
 mem:=by simp
 obj:=λi h st b hb=>by
  have e:b=it:=by simpa using hb
  subst e;show#[_,st,λv z=>by
   have z':Data.fields _=Data.cell v:=z;cases z']
 keep:=λi h h' st k=>k it "s" _ st
 item:=by
  intro X hP hw hK hc i pins s σ H E I hf st hg;subst hP hw hK;let⟨f0,f1,f2,f3,f4,f5⟩:=hf it "s"
  have W:=Walks.range (prog:=X.prog) (w:=X.w) (I.ok.hd hc) it lo 1 n;show W.item i s _ _ hg st λv h' tk hv B kk=>?_
  let⟨t,rfl⟩:=hv;have I1:"I" H {s with heap:=h',toks:=tk}:=I.turned (λb o hb e=>kk b o hb[""] e) f0 f1 f3 f4 f5
  show#[_,rfl,yz (s:={s with heap:=h',toks:=tk}) (n:="range_iterator") B rfl rfl "d" #[.int (lo+i),H,I1,#[t,?_],#[rfl,rfl],B,λb hb=>(hf b hb).1]]
  rw[Int.mul_one]
 done:=by
  intro X hP hw hK hc i pins s σ H E I hf st hg;subst hP hw hK;let⟨f0,f1,f2,f3,f4,f5⟩:=hf it "s"
  show wpAny_pyNext_range_end (I.ok.hd hc) st (by have:n<=i:=hg;lia) λh' eb=>#[rfl,I.turned (t':=s.toks) (λb o hb e=>eb b o hb e) f0 f1 f3 f4 f5]
 self:=λ_ _ _ _ _ st h=>wpAny_pyIter_rangeiter st h
section
variable{X:Cx}{tg:Expr}
def WI(K:Frag)(tl:TE):TI:=λσ H R=>tl σ H λx H1=>∃ a,x=.ref a/\(∃ xs,SqL K H1 a xs)/\R (Itl K a) H1
def WJ(K:Frag)(tl:TE):TI:=λσ H R=>tl σ H λx H1=>∃ a,x=.ref a/\(∃ xs,SqT K H1 a xs)/\R (Itt K a) H1
def Zb(z:PE X l tl):PI X tg l (WI X.K tl):=by
 intro pins s σ H R I h;show thn (z pins s σ H _ I h) λv s1 #[x,H1,I1,r1,q1]=>?_
 let⟨a,e,⟨xs,hq⟩,q⟩:=q1;subst e;cases r1;let⟨its,rv,p,hz⟩:=I1.list hq;show wpAny_pyIter_list p.isList ?_;show#[s1[0],[s1[0]],_,_,H1,rfl,I1.kept (t':=s1.toks) λb o e=>gu _ e,Ge a _,#[_,gM _ rfl,rfl,rfl],λb hb=>?_,q]
 have e:b=s1[0]:=by simpa using hb
 subst e;show I1.fpOk (gC _) (I1.hok.fresh (gC _))
def Zc(z:PE X l tl):PI X tg l (WJ X.K tl):=by
 intro pins s σ H R I h;show thn (z pins s σ H _ I h) λv s1 #[x,H1,I1,r1,q1]=>?_
 let⟨a,e,⟨xs,hq⟩,q⟩:=q1;subst e;cases r1;let⟨its,rv,p,hz⟩:=I1.tuple hq;show bH (show s1.heap.IsTuple a its.toArray from p) ?_
 show#[s1[0],[s1[0]],_,_,H1,rfl,I1.kept (t':=s1.toks) λb o e=>gu _ e,Gf a _,#[_,gM _ rfl,rfl,rfl],λb hb=>?_,q]
 have e:b=s1[0]:=by simpa using hb
 subst e;show I1.fpOk (gC _) (I1.hok.fresh (gC _))
def WK{s:ab}{R:It->Hp->Prop}{E:aa->ab->Prop}{lo hi:Int}{tk:Nat}(I:"I" H s)(h1:-(2 ^ 62)<=lo)(h2:lo<2 ^ 62)(z:-(2 ^ 62)<=hi)(B:hi<2 ^ 62)
  (q:R (Itr lo (hi-lo).toNat) H):X[3] (pyIter (.ref s[0])) (PIE X pins σ tg R) E {s with heap:=s.heap.push {cls:=.type "range",data:=.fields (List.toArray [.int lo t,.int hi u,.int 1 v])},toks:=tk}:=by
 show wpAny_pyIter_range (IsRange.new ..) (small_one h1 h2 z B) ?_;have I1:"I" H {s with heap:=s.heap.push {cls:=.type "range",data:=.fields (List.toArray [.int lo t,.int hi u,.int 1 v])},toks:=tk}:=I.kept λb o e=>gu _ e
 show#[(s.heap.push {cls:=.type "range",data:=.fields (List.toArray [.int lo t,.int hi u,.int 1 v])}).objs.size,[(s.heap.push {cls:=.type "range",data:=.fields (List.toArray [.int lo t,.int hi u,.int 1 v])}).objs.size],_,_,H,rfl,
  I1.kept (t':=tk) λb o e=>gu _ e,Gg _ lo (hi-lo).toNat,?_,λb hb=>?_,q]
 .have e1:lo+((0:Nat):Int)*1=lo:=by simp
  have e2:(((hi-lo).toNat:Nat):Int)-((0:Nat):Int)=Builtin.Range.rangeSize lo hi 1:=by rw[rangeSize_one];split<;>lia
  show IsRangeIter _ _ (lo+((0:Nat):Int)*1) ((((hi-lo).toNat:Nat):Int)-((0:Nat):Int)) 1;rw[e1,e2];show gM _ rfl
 have e:b=(s.heap.push {cls:=.type "range",data:=.fields (List.toArray [.int lo t,.int hi u,.int 1 v])}).objs.size:=by simpa using hb
 subst e;show I1.fpOk (gC _) (I1.hok.fresh (gC _))
def Gh(ta:TA):TI:=λσ H R=>ta σ H λvs H1=>∃ j:Int,vs=[.int j]/\-(2 ^ 62)<=j/\j<2 ^ 62/\R (Itr 0 j.toNat) H1
def Gi(ta:TA):TI:=λσ H R=>ta σ H λvs H1=>∃ i j:Int,vs=[.int i,.int j]/\(-(2 ^ 62)<=i/\i<2 ^ 62/\-(2 ^ 62)<=j/\j<2 ^ 62)/\R (Itr i (j-i).toNat) H1
def Gj(z:Gl X "range")(B:X.mg "range"=none)(O:PA X [a] ta)(U:(sE [a] X.env=[(false,eval a X.env)])["r"]):PI X tg (.Call (.Name "range" p) [a] [] pos) (Gh ta):=by
 intro pins s σ H R I h;show Call_ (zL I z B boot_range (tF (thn (O pos pins s σ H _ I h) λus s1 #[vs,H1,I1,r1,q1]=>?_) U rfl))
 let⟨j,e,q1,q2,q⟩:=q1;subst e;cases r1 with
 | cons r rr =>
  cases rr;let⟨t,rfl⟩:=r;show call_range_1 (WK I1 "" "" q1 q2 q[""])
def Gm{p pos:Pos}(B:Gl X "range")(O:X.mg "range"=none)(U:PA X [a,b] ta)(Y:(sE [a,b] X.env=[(false,eval a X.env),(false,eval b X.env)])["r"])(z:(sE [b] X.env=[(false,eval b X.env)])["r"]) :
  PI X tg (.Call (.Name "range" p) [a,b] [] pos) (Gi ta):=by
 intro pins s σ H R I h;show Call_ (zL I B O boot_range (tF (thn (U pos pins s σ H _ I h) λus s1 #[vs,H1,I1,r1,q1]=>?_) (by rw[Y,z]) (by rw[z];rfl)))
 let⟨i,j,e,⟨q1,q2,q3,q4⟩,q⟩:=q1;subst e;cases r1 with
 | cons r rr =>
  cases rr with
  | cons r' rr =>
   cases rr;let⟨t,rfl⟩:=r;let⟨t',rfl⟩:=r';show call_range_2 (WK I1 q1 q2 q3 q4 q)
def Gn(O:TI)(g:TG)(tb:TS):TS:=λD σ H=>O σ H λJ H1=>∃ W:Nat->Nat->St->Hp->Prop,(∃ m,W 0 m σ H1)/\∀ i m σ H,W i m σ H ->
 (J.stop i H/\D.nx σ H)\/(J.go i H/\∃ N:St->Hp->Prop,(∀ z H',N z H'->∃ m',m'<m/\W (i+1) m' z H')/\∀ x H',J.yld i H x H'->g x σ H' λB H2=>tb {D with nx:=N,ct:=N,bk:=D.nx} B H2)
def xW(fp:List Addr)(h:Heap):List (Addr×Obj):=fp.filterMap λb=>(h.get? b).map λo=>(b,o)
def Qr(z:b∈fp)(e:h.get? b=!o):(b,o)∈xW fp h:=List.mem_filterMap.mpr #[b,z,by rw[e];rfl]
def Go(hp:p∈xW fp h):p.1∈fp/\h.get? p.1=!p.2:=by
 let⟨b,hb,e⟩:=List.mem_filterMap.mp hp;cases q:h.get? b with
 | none=>rw[q]at e;cases e
 | some o =>
  rw[q]at e;have e':(b,o)=p:=tN e;subst e';show#[hb,q]
def Inv.pinned{s:ab}(I:"I" H s)(B:∀ b∈fp,FpOk X pins H b)(O:∀ b∈fp,∃ o,s.heap.get? b=!o/\∀ v,o.data≠.cell v):Inv X (pins++xW fp s.heap) σ H s :=
 I.pins_of λp hp=>(gE.mp hp).elim (λz=>I.pin p (tw _ z)) λz=>by
  let⟨hb,e⟩:=Go z;let⟨f0,f1,f2,_⟩:=B p.1 hb;let⟨o,e',d⟩:=O p.1 hb;rw[e]at e';cases e';show#[e,f0,f1,f2,d]
def Inv.unpinned(I:Inv X (pins++pl) σ H s):"I" H s:=I.pins_of λp hp=>I.pin p (tw _ (tq _ hp))
def Gp{wi:TI}{g:TG}{tb:TS}{pos:Pos}(hp:PassesOwn (model X.prog X.w) X.A X.env X.xe)(hc:X.calm=true)(hi:PI X tg iter wi)(hg:PG X tg g)(B:PSs X body tb)
  (hs:∀ x,foldedSetIterable iter X.env x=pure x:=by intro _;rfl):PS X (.For tg iter body [] pos) (Gn wi g tb):=by
 intro pins s σ H D I h;show wpAny_For (thn (hi pins s σ H _ I h) λv s1 h1=>thn h1 λitv s2 h2=>?_) hs
 let⟨it,fp,tn,J,H2,e,I2,T,st2,f2,W,⟨m0,w0⟩,turn⟩:=h2;subst e;have O:∀{H':Hp},(∀ b∈fp,H' b=none)->∀ b∈fp,FpOk X pins H' b:=λhn b B=>#[hn b B,(f2 b B).2]
 show codeAny_forLoop_any (λn s'=>∃ i Y H',Inv X pins Y H' s'/\tn i s'.heap/\(∀ b∈fp,H' b=none)/\W i n Y H') ?_ m0 #[0,σ,H2,I2,st2,λb B=>(f2 b B).1,w0]
 rintro n s3 ⟨i,σ3,H3,I3,st3,fr3,w3⟩;rcases turn i n σ3 H3 w3 with⟨stop,qn⟩|⟨go,N,hN,step⟩
 .show cw hp (thn (T.done X rfl rfl rfl hc i pins s3 σ3 H3 X.xe I3 (O fr3) st3 stop) λr s4 #[hr,I4]=>?_)
  subst hr;show bB #[σ3,H3,I4,qn]
 show cw hp (thn (T.item X rfl rfl rfl hc i pins s3 σ3 H3 X.xe I3 (O fr3) st3 go) λr s4 #[u,hr,h4]=>?_)
 subst hr;show cw hp (thn h4 λ_ s5 #[x,H5,I5,r5,y5,st5,fr5]=>?_)
 have Z:=I5.pinned (O fr5) (T.obj _ _ st5);show cw hp (thn (hg _ s5 σ3 H5 x u _ Z r5 (step x H5 y5)) λ_ s6 #[σ6,H6,I6,q6]=>?_)
 show cw hp (thn (B _ s6 σ6 H6 _ I6 q6) λf s7 q7=>?_)
 have U:∀{z:St} {H7:Hp},Inv X (pins++xW fp s5.heap) z H7 s7->N z H7->∃ m,m<n/\∃ i Y H',Inv X pins Y H' s7/\tn i s7.heap/\(∀ b∈fp,H' b=none)/\W i m Y H':=λ{z H7} I7 n7=>by
  let⟨m',hm,w7⟩:=hN z H7 n7;show#[m',hm,i+1,z,H7,I7.unpinned,T.keep _ _ _ st5 λb B o e=>(I7.pin (b,o) (tw _ (tw _ (Qr B e)))).1,λb B=>?_,w7]
  let⟨o,e,d⟩:=T.obj _ _ st5 b B;show(I7.pin (b,o) (tw _ (tw _ (Qr B e)))).2.1
 cases f with
 | next=>let⟨z,H7,I7,n7⟩:=q7;show U I7 n7
 | cont=>let⟨z,H7,I7,n7⟩:=q7;show U I7 n7
 | brk=>let⟨z,H7,I7,q7⟩:=q7;show#[z,H7,I7.unpinned,q7]
 | ret v=>let⟨x7,z,H7,I7,r7,q7⟩:=q7;show#[x7,z,H7,I7.unpinned,r7,q7]
end
abbrev R2:=V->V->Hp->VK->Prop
def OpR(X:Cx)(f:aa->aa->Sem aa)(r:R2):Prop :=
 ∀(pins:List (Addr×Obj)) (s:ab) (σ:St) (H:Hp) (x y:V) (v u:aa) (Q:VK),"I" H s->RelV x v->RelV y u->r x y H Q ->
  X[3] (f v u) (EP X pins σ Q) X.xe s
def y8(X:Cx)(f:aa)(r:List V->Hp->VK->Prop):Prop :=
 ∀(pins:List (Addr×Obj)) (s:ab) (σ:St) (H:Hp) (xs:List V) (us:List aa) (Q:VK),"I" H s->Vals xs us->r xs H Q ->
  X[3] (call f us) (EP X pins σ Q) X.xe s
def TruR(X:Cx)(r:V->Hp->(Bool->Hp->Prop)->Prop):Prop :=
 ∀(pins:List (Addr×Obj)) (s:ab) (σ:St) (H:Hp) (x:V) (v:aa) (Q:Bool->Hp->Prop),"I" H s->RelV x v->r x H Q ->
  X[3] (truthy v) (TP X pins σ Q) X.xe s
def tOp(r:R2)(ta tb:TE):TE:=λσ H Q=>ta σ H λx H1=>tb σ H1 λy H2=>r x y H2 Q
def rI(C:Int->Int->Prop)(g:Int->Int->V):R2:=λx y H Q=>∃ i j,x=.int i/\y=.int j/\C i j/\Q (g i j) H
def rI0(g:Int->Int->V):R2:=λx y H Q=>∃ i j,x=.int i/\y=.int j/\Q (g i j) H
section
variable{X:Cx}{a b c:Expr}{ta tb tc:TE}{pos:Pos}
def Gq(B:PE X a ta)(O:PE X b tb){pins:List (Addr×Obj)}{s:ab}{σ:St}{H:Hp}{R:V->V->Hp->Prop}(I:"I" H s)
  (h:ta σ H λx H1=>tb σ H1 λy H2=>R x y H2){Q:aa->ab->Prop}{f:aa->aa->Sem aa}
  (U:∀ v u s2 x y H2,"I" H2 s2->RelV x v->RelV y u->R x y H2->X[3] (f v u) Q X.xe s2) :
  X[3] (eval a X.env) (λv z=>X[3] (eval b X.env) (λu s₂=>X[3] (f v u) Q X.xe s₂) X.xe z) X.xe s:=by
 show thn (B pins s σ H _ I h) λv s1 #[x,H1,I1,r1,q1]=>?_
 show thn (O pins s1 σ H1 _ I1 q1) λu s2 #[y,H2,I2,r2,q2]=>?_
 show U v u s2 x y H2 I2 r1 r2 q2
def augR{r:R2}(z:OpR X (inplaceOp op) r)(I:"I" H s)
  (B:RelV x v)(O:RelV y u)(q:r x y H Q):X[3] (inplaceOp op v u) (EP X pins σ Q) X.xe s:=z pins s σ H x y v u Q I B O q
def opI{C:Int->Int->Prop}{g:Int->Int->Int}
  (z:∀ i j t u s Q E,C i j->Q (.int (g i j) s.toks) {s with toks:=s.toks+1}->X[3] (f (.int i t) (.int j u)) Q E s) :
  OpR X f (rI C λi j=>.int (g i j)):=by
 intro pins s σ H x y v u Q I rx ry h;let⟨i,j,rfl,rfl,hc,q⟩:=h;let⟨t,rfl⟩:=rx;let⟨t',rfl⟩:=ry;show z i j t t' s _ _ hc #[.int (g i j),H,I.tok _,#[_,rfl],q]
def opI0{g:Int->Int->Int}
  (z:∀ i j t u s Q E,Q (.int (g i j) s.toks) {s with toks:=s.toks+1}->X[3] (f (.int i t) (.int j u)) Q E s) :
  OpR X f (rI0 λi j=>.int (g i j)):=by
 intro pins s σ H x y v u Q I rx ry h;let⟨i,j,rfl,rfl,q⟩:=h;let⟨t,rfl⟩:=rx;let⟨t',rfl⟩:=ry;show z i j t t' s _ _ #[.int (g i j),H,I.tok _,#[_,rfl],q]
def opB0{g:Int->Int->Bool}
  (z:∀ i j t u s Q E,Q (.bool (g i j)) s->X[3] (f (.int i t) (.int j u)) Q E s) :
  OpR X f (rI0 λi j=>.bl (g i j)):=by
 intro pins s σ H x y v u Q I rx ry h;let⟨i,j,rfl,rfl,q⟩:=h;let⟨t,rfl⟩:=rx;let⟨t',rfl⟩:=ry;show z i j t t' s _ _ #[.bl (g i j),H,I,rfl,q]
def CDiv(i j:Int):Prop:=0<j/\j<1073741824
def CMul(i j:Int):Prop:=(-(2 ^ 64)<i/\i<2 ^ 64)\/(-(2 ^ 64)<j/\j<2 ^ 64)
def CMul.ok(h:CMul i j):IntMulOk i j:=by
 rcases h with⟨h1,h2⟩|⟨h1,h2⟩
 .show .of_left (intBits_le_64 h1 h2)
 show .of_right (intBits_le_64 h1 h2)
def Gs:OpR X (binaryOp .Add) (rI0 λi j=>.int (i+j)):=opI0 λ_ _ _ _ _ _ _ q=>add_int q
def Gu:OpR X (binaryOp .Sub) (rI0 λi j=>.int (i-j)):=opI0 λ_ _ _ _ _ _ _ q=>sub_int q
def Gv:OpR X (binaryOp .Mult) (rI CMul λi j=>.int (i*j)):=opI λ_ _ _ _ _ _ _ hc q=>mul_int q hc.ok
def Gw:OpR X (binaryOp .FloorDiv) (rI CDiv λi j=>.int (i/j)):=opI λi j _ _ _ _ _ hc q=>by
 have h1:(0:Int)<j:=hc.1;have h2:j<1073741824:=hc.2;show floordiv_int "" (by rw[Int.fdiv_eq_ediv_of_nonneg i ""];show q) (.inl (PyProof.noPylong_small "o"))
def Gx:OpR X (binaryOp .Mod) (rI (λ_ j=>0<j) λi j=>.int (i%j)):=opI λi j _ _ _ _ _ hc q=>by
 have h1:(0:Int)<j:=hc;show mod_int' "" (by rw[Int.fmod_eq_emod_of_nonneg i ""];show q)
def Gy:OpR X (inplaceOp .Add) (rI0 λi j=>.int (i+j)):=opI0 λ_ _ _ _ _ _ _ q=>iadd_int q
def Gz:OpR X (inplaceOp .Sub) (rI0 λi j=>.int (i-j)):=opI0 λ_ _ _ _ _ _ _ q=>isub_int q
def WL(I:"I" H s)(q:Q (.bl k) H)(e:k=k'):EP X pins σ Q (.bool k') s:=by
 subst e;show#[.bl k,H,I,rfl,q]
def GA:OpR X (compareOp .Lt) (rI0 λi j=>.bl (decide (i<j))):=opB0 λ_ _ _ _ _ _ _ q=>lt_int q
def GB:OpR X (compareOp .LtE) (rI0 λi j=>.bl (decide (i<=j))):=opB0 λ_ _ _ _ _ _ _ q=>le_int q
def GC:OpR X (compareOp .Gt) (rI0 λi j=>.bl (decide (j<i))):=opB0 λ_ _ _ _ _ _ _ q=>gt_int q
def GD:OpR X (compareOp .Is) (λx y H Q=>y=.non/\Q (.bl (decide (x=.non))) H):=by
 intro pins s σ H x y v u Q I rx ry h;let⟨rfl,q⟩:=h;cases ry;show is_none_gen (WL I q ?_);cases x<;>first
  | (cases rx;rfl)
  | (let⟨t,rfl⟩:=rx;rfl)
def GG:OpR X (compareOp .IsNot) (λx y H Q=>y=.non/\Q (.bl (not (decide (x=.non)))) H):=by
 intro pins s σ H x y v u Q I rx ry h;let⟨rfl,q⟩:=h;cases ry;show isnot_none_gen (WL I q ?_);cases x<;>first
  | (cases rx;rfl)
  | (let⟨t,rfl⟩:=rx;rfl)
def TruV(K:Frag)(x:V)(H:Hp)(k:Bool):Prop :=
 match x with
 | .non=>k=false
 | .bl b=>k=b
 | .int i=>k=(i != 0)
 | .str y=>y[1]<=sizeLine/\k=((y[1]:Int) != 0)
 | .byt y=>y.size<=sizeLine/\k=((y.size:Int) != 0)
 | .ref p=>(∃ xs,SqL K H p xs/\k=not xs.isEmpty)\/(∃ xs,SqT K H p xs/\k=not xs.isEmpty)\/∃ kvs,H p=!(.dK kvs)/\k=not kvs.isEmpty
 | _=>False
def GH(r:KV kvs vs):(not vs.isEmpty)=not kvs.isEmpty:=by
 cases r<;>rfl
def WM(r:Vals xs its):(not its.toArray.isEmpty)=not xs.isEmpty:=by
 cases r<;>simp
def kq:sizeLine<2 ^ 63:=by rw[pC];decide
def GI:TruR X (λx H Q=>∃ k,TruV X.K x H k/\Q k H):=by
 intro pins s σ H x v Q I rx h;let⟨k,e,q⟩:=h;have hl:=kq;have hs:sizeLine=16777216:=pC;cases x with
 | non =>
  cases rx;have e':k=false:=e;subst e';show truthy_none #[H,I,q]
 | bl b =>
  cases rx;have e':k=b:=e;subst e';show pN #[H,I,q]
 | int i =>
  let⟨t,rfl⟩:=rx;have e':k=(i != 0):=e;subst e';show PySem.P.truthy_int #[H,I,q]
 | str y =>
  let⟨t,rfl⟩:=rx;obtain⟨hy,e'⟩:y[1]<=sizeLine/\k=((y[1]:Int) != 0):=e;subst e';show PySem.P.truthy_str "" #[H,I.tok _,q]
 | byt y =>
  let⟨t,rfl⟩:=rx;obtain⟨hy,e'⟩:y.size<=sizeLine/\k=((y.size:Int) != 0):=e;subst e';show PySem.W.truthy_bytes "" #[H,I.tok _,q]
 | ref p =>
  cases rx;have e':(∃ xs,SqL X.K H p xs/\k=not xs.isEmpty)\/(∃ xs,SqT X.K H p xs/\k=not xs.isEmpty)\/∃ kvs,H p=!(.dK kvs)/\k=not kvs.isEmpty:=e;rcases e' with⟨xs,hx,e'⟩|⟨xs,hx,e'⟩|⟨kvs,hx,e'⟩
  .subst e';let⟨its,r,pl,hz⟩:=I.list hx;have z:=r[1];show wpAny_truthy_list pl.isList (by simp only[gU];lia) #[H,I.tok _,by rw[WM r];show q]
  .subst e';let⟨its,r,pl,hz⟩:=I.tuple hx;have z:=r[1];show truthy_tuple pl (by simp only[gU];lia) #[H,I.tok _,by rw[WM r];show q]
  subst e';obtain⟨hz,hS,vs,r,m⟩:kvs[1]<=sizeLine/\(p==sysModules)=false/\∃ vs,KV kvs vs/\s.heap.DictOf (jj X.prog X.w) p vs:=I.hok p _ hx;have z:kvs[1]=vs[1]:=dF r;show wpAny_truthy_dict hS m "" #[H,I.tok _,by rw[GH r];show q]
 | _=>show(show False from e).elim
def Qt(r:Vals [x] us):∃ u,us=[u]/\RelV x u:=by
 cases r with
 | cons r1 r2=>cases r2;show#[_,rfl,r1]
def WN(r:Vals [x,y] us):∃ u w',us=[u,w']/\RelV x u/\RelV y w':=by
 cases r with
 | cons r1 r2 =>
  cases r2 with
  | cons r3 r4=>cases r4;show#[_,_,rfl,r1,r3]
def GJ(z:X.calm=true):y8 X (.builtin "max") (λxs H Q=>∃ i j,xs=[.int i,.int j]/\Q (if j>i then j else i)[6] H):=by
 intro pins s σ H xs us Q I r h;let⟨i,j,rfl,q⟩:=h;let⟨u,w',rfl,⟨t,rfl⟩,⟨t',rfl⟩⟩:=WN r;show max_two_ints (I.ok.hd z) λh' tk k=>#[_,H,I.kept k,?_,q]
 by_cases hj:j>i
 .rw[iP hj,iP hj];show#[_,rfl]
 rw[iN hj,iN hj];show#[_,rfl]
def GK(z:X.calm=true):y8 X (.builtin "min") (λxs H Q=>∃ i j,xs=[.int i,.int j]/\Q (if j<i then j else i)[6] H):=by
 intro pins s σ H xs us Q I r h;let⟨i,j,rfl,q⟩:=h;let⟨u,w',rfl,⟨t,rfl⟩,⟨t',rfl⟩⟩:=WN r;show min_two_ints (I.ok.hd z) λh' tk k=>#[_,H,I.kept k,?_,q]
 by_cases hj:j<i
 .rw[iP hj,iP hj];show#[_,rfl]
 rw[iN hj,iN hj];show#[_,rfl]
def GL:y8 X (.type "str") (λxs H Q=>∃ i,xs=[.int i]/\i.natAbs.log2<1920/\Q (.str (toString i)) H):=by
 intro pins s σ H xs us Q I r h;let⟨i,rfl,hz,q⟩:=h;let⟨u,rfl,t,rfl⟩:=Qt r;show PySem.P.str_of_int hz #[.str _,H,I.tok _,#[_,rfl],q]
variable{prog:af}{w:World}{A:ag}{E:aa->ab->Prop}{s:ab}{K:Frag}{x dx C f:Addr}{mA:Str->Option aa}{name:Str}{v:aa}
end
def RelO.some_of(r:RelO ↑v o):∃ u,o=!u/\RelV v u:=by
 cases o with
 | none=>show(show False from r).elim
 | some u=>show#[u,rfl,r]
section
variable{P:af}{w:World}{H H':Hp}{h h':Heap}{a C dx:Addr}{fs fs':List (Str×V)}
variable{X:Cx}{pins:List (Addr×Obj)}{σ:St}{s:ab}{f:Str}{v:V}{A:ag}{E:aa->ab->Prop}
variable{o e value:Expr}{pos pos' tpos:Pos}{ta tv:TE}
variable{Q:aa->ab->Prop}{c:aa}{b:Bool}
end
structure Room(k:Nat)(A:Around):Prop where
 hd:A.handled=none
 dp:A.depth+3*k+5<recursionLimit
 un:A.units+16*k+200<cLine
def Room.mono{j k:Nat}(r:Room k A)(h:j<=k):Room j A:=#[r.hd,by have:=r.dp;lia,by have:=r.un;lia]
def Room.deeper(r:Room (k+1) A)(env):Room k (A.deeper env) :=
 #[r.hd,by have:=r.dp;show A.depth+1+3*k+5<_;lia,by have:=r.un;show A.units+3+16*k+200<_;lia]
def Room.depth(r:Room k A):A.depth<recursionLimit:=by have:=r.dp;lia
def WO:TA:=λ_ H Q=>Q [] H
def Qu(ta:TE)(z:TA):TA:=λσ H Q=>ta σ H λx H1=>z σ H1 λxs H2=>Q (x::xs) H2
section
variable{X:Cx}{e:Expr}{es:List Expr}{te:TE}{t:TA}{pos:Pos}
def vI:PA X [] WO:=λ_ _ _ _ H Q I h=>tM #[[],H,I,.nil,h]
def zM(z:PE X e te)(B:PA X es t)(O:(sE (e::es) X.env=(false,eval e X.env)::sE es X.env)["r"]):PA X (e::es) (Qu te t):=by
 intro pos pins s σ H Q I h;rw[O];show wpAny _ _ (spliced ((false,eval e X.env)::backTo pos (sE es X.env))) _ _ s;show hZ (thn (z pins s σ H _ I h) λu s1 #[x,H1,I1,r1,q1]=>?_)
 show thn (B pos pins s1 σ H1 _ I1 q1) λus s2 #[xs,H2,I2,r2,q2]=>#[x::xs,H2,I2,.cons r1 r2,q2]
end
abbrev Sp:=List V->Hp->VK->XK->Prop
abbrev CXT:=List Env->Hp->ab->XK->aa->ab->Prop
structure Env0(P:Program)(w:World)(K:Frag)(mg:Str->Option Value)(base:Heap)(A:Around)(outer:List Env)(s:Shared)(H:Hp):Prop where
 frames:A.frames=!outer
 mod:Mod K mg base
 bs:∀ b o,base.get? b=!o->s.heap.get? b=!o/\H b=none
 bsz:base.objs.size<=s[0]
 funs:s.heap.FunFrames base outer
 frf:∀ b∈frs outer,H b=none
 hok:HOk P w H s.heap
 bare:AllBare s.gens
def CE(outer:List Env)(P:af)(w:World)(H:Hp)(s:ab)(Q:VK)(u:aa)(s':ab):Prop :=
 ∃ v H',s'.os=s.os/\AllBare s'.gens/\Un (frs outer) [] H H' s.heap s'.heap/\HOk P w H' s'.heap/\RelV v u/\Q v H'
def CR(CX:CXT)(outer:List Env)(P:af)(w:World)(H:Hp)(s:ab)(Q:VK)(E:XK)(r:Result)(s':ab):Prop :=
 match r with
 | .ok (.ret u)=>CE outer P w H s Q u s'
 | .ok _=>False
 | .error e=>CX outer H s E e s'
structure FnOk(P:Program)(w:World)(K:Frag)(mg:Str->Option Value)(base:Heap)(CX:CXT)(k:Nat)(f:Addr)(fd:FuncData)(ps:List Str)(sp:Sp):Prop where
 len:∀ vs H Q E,sp vs H Q E->vs[1]=ps[1]
 run:∀(A:Around) (outer:List Env) (s:Shared) (H:Hp) (args:Args) (us:List Value) (vs:List V) (Q:VK) (E:XK),Room k A->Env0 P w K mg base A outer s H->BindsTo s fd args (ps.zip us)->Vals vs us->sp vs H Q E ->
  codeAny (model P w) A (.call (.ref f) args) (CR CX outer P w H s Q E) s
section
variable{X:Cx}{pins:List (Addr×Obj)}{σ:St}{H:Hp}{s s':ab}
def Inv.env0(I:"I" H s):Env0 X.prog X.w X.K X.mg X.base X.A X.stack s H :=
 #[I.ok.frames,I.ok.mod,I.bs,tY I.ok.bsz I.sz,I.stack,I.stkFree,I.hok,I.bare]
def Inv.after(I:"I" H s)(h:CE X.stack X.prog X.w H s Q u s'):EP X pins σ Q u s':=by
 let⟨v,H',os,B,un,O,r,q⟩:=h;let⟨hh,g,d,t,U⟩:=s';obtain rfl:U=s.os:=os;show#[v,H',I.call (h':=hh) (g':=g) (d':=d) (t':=t) (ch:=[]) un O B λb z=>absurd z "s",r,q]
end
def Binds(K:Frag)(fd:FuncData)(ps:List Str)(ds:List aa):Prop :=
 ∀(s:ab) (us:List aa),K.In s.heap->(us++ds)[1]=ps[1]->BindsTo s fd #[us,[]] (ps.zip (us++ds))
def Binds.all{K:Frag}{ps:List Str}(h:∀ us,us[1]=ps[1]->bindArgs fd #[us,[]]=pure (ps.zip us)):Binds K fd ps []:=λs us _ hl=>by
 rw[tK]at hl ⊢;show .of_eq (h us hl)
def WP(CX:CXT)(X:Cx)(E:XK):Prop:=∀(pins:List (Addr×Obj)) (σ:St) (H:Hp) (s:ab) (e:aa) (s':ab),"I" H s->CX X.stack H s E e s'->X.xe e s'
section
variable{X:Cx}{CX:CXT}{k:Nat}{f C:Addr}{fd:FuncData}{ps:List Str}{sp:Sp}{dvs:List V}{ds:List aa}{E:XK}{x m:Str}{p pos apos:Pos}{e o:Expr}{es:List Expr}{ta:TE}{t:TA}
def WQ(F:FnOk X.prog X.w X.K X.mg X.base CX k f fd ps sp)(z:Room k X.A)(B:Binds X.K fd ps ds)(hd:Vals dvs ds)(O:WP CX X E)
  (I:"I" H s)(r:Vals vs us)(h:sp (vs++dvs) H Q E):X[3] (call (.ref f) us) (EP X pins σ Q) X.xe s:=by
 have r2:Vals (vs++dvs) (us++ds):=r.append hd;have hl:(us++ds)[1]=ps[1]:=by rw[<- r2[1]];show F.len _ _ _ _ h
 show wpAny_call (codeAny_mono (F.run X.A X.stack s H #[us,[]] (us++ds) (vs++dvs) Q E z I.env0 (B s us I.kIn hl) r2 h) λr s' hq=>?_)
 cases r with
 | error e=>show O pins σ H s e s' I hq
 | ok fl =>
  cases fl with
  | ret u=>show I.after hq
  | next=>show False.elim hq
  | brk=>show False.elim hq
  | cont=>show False.elim hq
end
section
variable{X:Cx}{CX:CXT}{k:Nat}{f C:Addr}{fd:FuncData}{ps ks:List Str}{sp:Sp}{E:XK}{x m:Str}{p pos apos kpos:Pos}{e o:Expr}{es:List Expr}{kws:List Keyword}{te ta:TE}{t tk:TA}{nm:Option Str}
variable{g:List aa->List aa->List aa}{gV:List V->List V->List V}
end
structure FnScope(N P:List Str)(sc:Scope):Prop where
 kind:sc.kind=.function
 co:sc.isCoroutine=false
 gen:sc.isGenerator=false
 nd:N.Nodup
 pre:N.take P[1]=P
 par:∀ x∈P,sc.names.lookup x=some .local\/sc.names.lookup x=some .cell
 nofree:∀ y∈sc.names,y.2≠.free
theorem WR{z:Str->Option NameKind}:∀{binds} {m},(∀ v,(x,v)∉binds)->bindL z binds m x=m x
 | [],_,_=>rfl
 | (n,v)::r,m,h=>by
  unfold bindL;rw[WR λw hw=>h w (gj _ hw)]
  split
  .have:x≠n:=by rintro rfl;show h v h9
   simp[this]
  rfl
theorem WS{z:Str->Option NameKind}:∀{binds} {m},(∀ v,(x,v)∉binds)->bindC z binds m x=m x
 | [],_,_=>rfl
 | (n,v)::r,m,h=>by
  unfold bindC;rw[WS λw hw=>h w (gj _ hw)]
  split
  .rfl
  have:x≠n:=by rintro rfl;show h v h9
  simp[this]
theorem WT{z:Str->Option NameKind}:∀{P:List Str} {vs} {i:Nat} {m},P.Nodup->P[i]?=!x->vs[i]?=!v->z x=some .local ->
  bindL z (P.zip vs) m x=!v
 | [],_,_,_,_,h,_,_=>by simp at h
 | _::_,[],_,_,_,_,h,_=>by simp at h
 | p::P,w::vs,0,m,nd,h1,h2,hk=>by
  simp at h1 h2;subst h1;subst h2;show bindL z ((p,w)::P.zip vs) m p=_;unfold bindL;rw[WR λv hv=>(tL.mp nd).1 (List.of_mem_zip hv).1,iP hk]
  simp
 | p::P,w::vs,i+1,m,nd,h1,h2,hk=>by
  show bindL z ((p,w)::P.zip vs) m x=_;unfold bindL;show WT (i:=i) (tL.mp nd).2 h1[""] h2[""] hk
theorem WU{z:Str->Option NameKind}:∀{P:List Str} {vs} {i:Nat} {m},P.Nodup->P[i]?=!x->vs[i]?=!v->z x≠some .local ->
  bindC z (P.zip vs) m x=!v
 | [],_,_,_,_,h,_,_=>by simp at h
 | _::_,[],_,_,_,_,h,_=>by simp at h
 | p::P,w::vs,0,m,nd,h1,h2,hk=>by
  simp at h1 h2;subst h1;subst h2;show bindC z ((p,w)::P.zip vs) m p=_;unfold bindC;rw[WS λv hv=>(tL.mp nd).1 (List.of_mem_zip hv).1,iN hk]
  simp
 | p::P,w::vs,i+1,m,nd,h1,h2,hk=>by
  show bindC z ((p,w)::P.zip vs) m x=_;unfold bindC;show WU (i:=i) (tL.mp nd).2 h1[""] h2[""] hk
def z9(N:List Str)(vs:List V):St:=vs.map some++List.replicate (N[1]-vs[1]) none
def cxOf(CX:CXT)(P:af)(w:World)(K:Frag)(mg:Str->Option aa)(base:Heap)(N:List Str)(z:Str)(scope:Scope)(f:Addr)(cd:aa)(A:ag)(outer:List Env)(s:ab)(H:Hp)(E:XK):Cx where
 prog:=P
 w:=w
 K:=K
 mg:=mg
 base:=base
 A:=A.deeper (envOfC z scope s[0] f cd)
 N:=N
 s₀:=s
 H₀:=H
 env:=envOfC z scope s[0] f cd
 outer:=outer
 stack:=envOfC z scope s[0] f cd::outer
 ex:=[]
 calm:=true
 fn:=λ_=>true
 pn:=[]
 xe:=λe s'=>wpAny (model P w) (A.deeper (envOfC z scope s[0] f cd)) (leaving (envOfC z scope s[0] f cd) e) (λ_ B=>CX outer H s E e B) (λe' B=>CX outer H s E e' B) s'
def WV{z:Scope}{n:Nat}(h:z.names.lookup x=some .cell):∃ c,(cellsFrom n z.names []).lookup x=!c:=by
 have q:=cellsFrom_some z.names n [] (.inl h);show Option.isSome_iff_exists.mp q
def GO{K:Frag}{mg:Str->Option aa}{N ps:List Str}{scope:Scope}{A:ag}{s Y:ab}{vs:List V}
  (S:FnScope N ps scope)(hd:A.handled=none)(B:Env0 P w K mg base A outer s H)(hl:vs[1]=ps[1])(r:Vals vs us)
  (x:InCallC s s[0] (bindL (envOfC qual scope s[0] f cd).kindOf (ps.zip us) λ_=>none) (cellsFrom (s[0]+1) scope.names []) (bindC (envOfC qual scope s[0] f cd).kindOf (ps.zip us) λ_=>none) Y) :
  Inv (cxOf CX P w K mg base N qual scope f cd A outer s H E) [] (z9 N vs) H Y:=by
 have Z:ps[1]<=N[1]:=by have:=congrArg List.length S.pre;rw[tD]at this;lia
 let⟨h1,tk,rfl,hk⟩:=x.done;have O:∀ b:Addr,b∉(cxOf CX P w K mg base N qual scope f cd A outer s H E).ex:=λb z=>absurd (show b∈([]:List Addr)from z) "s"
 show#[#[B.mod,S.kind,rfl,rfl,gC _,λy z c h1 h2=>?_,λy hy=>?_,λy c _ h=>?_,λ_=>hd,Around.frames_deeper B.frames,.inr #[rfl,rfl],λb z=>absurd z (O b),B.bs,B.bsz,λb _ _=>O b,λb z=>absurd z (O b),B.funs,B.frf],
  rfl,B.bare,Un.kept hk,#[_,x.toInCall.ns,λi y v h1 h2 h3=>?_],λy c h=>#[_,x.cell y c h],B.hok.fresh (gC _),λy c h=>?_,λp hp=>absurd (show p∈([]:List (Addr×Obj))from hp) "s",B.hok.kept hk,?_]
 .show name_of_addr x.apart (cF h1) (cF h2)
 .have hy:scope.names.lookup y=some .cell\/scope.names.lookup y=some .free:=hy;rcases hy with hy|hy
  .show WV hy
  show absurd rfl (S.nofree _ (cF hy))
 .show cW (x.above y c (cF h))
 .have hi:i<vs[1]:=by
   unfold z9 at h2;by_cases hi:i<vs[1]
   .show hi
   rw[t4 hi[""]]at h2
   rw[fJ]at h2;split at h2<;>cases h2
  have ha:vs[i]?=!v:=by
   unfold z9 at h2;rw[t9 hi[""],gH]at h2
   cases e:vs[i]? with
   | none=>rw[e]at h2;cases h2
   | some a=>rw[e]at h2;cases h2;rfl
  let⟨u,hu,rv⟩:=r.get ha;have hp:ps[i]?=!y:=by
   rw[<- S.pre,List.getElem?_take_of_lt ""];show h1
  have U:ps.Nodup:=by rw[<- S.pre];show S.nd.sublist (List.take_sublist _ _)
  show#[u,rv,?_];rcases S.par y (t6 hp)with k|k
  .show .inl #[k,WT U hp hu k]
  let⟨c,e⟩:=WV (n:=s[0]+1) k;show .inr #[.inl k,c,e,?_];have q:=x.cell y c e;rw[WU U hp hu (by show scope.names.lookup y≠_;rw[k];decide)]at q
  show q
 .show B.hok.fresh (cW (x.above y c (cF h)))
 delta z9
 show _=N[1];rw[gD,g6,List.length_replicate];lia
def GP{K:Frag}{mg:Str->Option aa}{base:Heap}{k:Nat}{f:Addr}{name z:Str}{O:Arguments}{body:List Stmt}{scope:Scope}{dV kV doc pm B ct oc:aa}{an od:Option Addr}
  {osl:Array (Option aa)}{N ps:List Str}{sp:Sp}(lk:K.lookup f=↑#[oc,od,.func (PySem.W.fnOf name z O body scope dV kV doc pm an B ct),osl])(hcd:codeIn K B z=true)(S:FnScope N ps scope)
  (len:∀ vs H Q E,sp vs H Q E->vs[1]=ps[1])
  (Y:∀ A outer s H vs Q E,Room k (A.deeper (envOfC z scope s[0] f B))->sp vs H Q E ->
   ∃ t,PSs (cxOf CX P w K mg base N z scope f B A outer s H E) body t/\t {nx:=λ_ H'=>Q .non H',rt:=Q} (z9 N vs) H) :
  FnOk P w K mg base CX (k+1) f (PySem.W.fnOf name z O body scope dV kV doc pm an B ct) ps sp:=by
 show#[len,λA outer s H args us vs Q E hr e0 hb r hsp=>?_]
 have hl:=len _ _ _ _ hsp;have KX:K.In s.heap:=e0.mod.kin.keeps λb o e=>(e0.bs b o e).1
 have lim:s.heap.NoLimit:=e0.mod.nolimit.keeps λb o e=>(e0.bs b o e).1
 have Z:∀ y∈ps.zip us,scope.names.lookup y.1=some .local\/(scope.names.lookup y.1=some .cell/\((cellsFrom (s[0]+1) scope.names []).lookup y.1).isSome=true):=λ#[n,v] hy=>by
  rcases S.par n (List.of_mem_zip hy).1 with q|q
  .show .inl q
  show .inr #[q,cellsFrom_some _ _ _ (.inl q)]
 show codeAny_call_function hr.depth (KX _ _ lk) rfl S.co S.gen rfl (PySem.W.codeRec_of KX hcd) (hb _ _ _ _ ?_);show wpAny_newFunctionEnv_cells S.kind Z λenv he s1 x=>?_
 subst he;show#[lim.keeps x.toInCall.keep,codeAny_func ?_];let⟨t,ht,hq⟩:=Y A outer s H vs Q E (hr.deeper _) hsp;have I:Inv (cxOf CX P w K mg base N z scope f B A outer s H E) [] (z9 N vs) H s1:=GO S hr.hd e0 hl r x;show cu (ht [] s1 (z9 N vs) H _ I hq) (λfl s' hs=>?_) λe s' hs=>hs
 have fin:∀{U:St} {H':Hp} {v:V} {u:aa},Inv (cxOf CX P w K mg base N z scope f B A outer s H E) [] U H' s'->RelV v u->Q v H'->CE outer P w H s Q u s' :=
  λ{U H' v u} J rv q=>#[v,H',J.os,J.bare,J.base,J.hok,rv,q]
 cases fl with
 | ret u =>
  let⟨v,U,H',J,rv,q⟩:=hs;show fin J rv q
 | next =>
  let⟨U,H',J,q⟩:=hs;show fin (v:=V.non) (u:=Value.none) J rfl q
 | brk =>
  let⟨_,_,_,q⟩:=hs;show False.elim q
 | cont =>
  let⟨_,_,_,q⟩:=hs;show False.elim q
section
variable{X:Cx}{x:Str}{p pos:Pos}{e:Expr}{es:List Expr}{t:TA}{id T:String}{r:List V->Hp->VK->Prop}
end
end L2
namespace HT
open PySem PyProof.Rows
def lexLt:List Int->List Int->Bool
 | [],[]=>false
 | [],_::_=>true
 | _::_,[]=>false
 | x::xs,y::ys=>if x=y then lexLt xs ys else decide (x<y)
def lexLt_cons(x y)(xs ys):lexLt (x::xs) (y::ys)=if x=y then lexLt xs ys else decide (x<y):=rfl
def lexLt_nil_nil:lexLt [] []=false:=rfl
def lexLt_nil_cons(y)(ys):lexLt [] (y::ys)=true:=rfl
def lexLt_cons_nil(x)(xs):lexLt (x::xs) []=false:=rfl
def GQ(A)(s)(a)(t)(c)(u):∃ e,SeqAt.EqAt A s (.int a t) (.int c u) e/\(e=true↔a=c) :=
 #[(a==c),SeqAt.EqAt.int_int a t c u,by simp]
def GR(A)(s)(a)(t)(c)(u)(prog)(w)(E)(Q)(h:Q (.bool (decide (a<c))) s) :
  wpAny (model prog w) A (richCompare .Lt (.int a t) (.int c u)) Q E s :=
 (PyProof.Rows.lt_int h:wpAny (model prog w) A (compareOp .Lt (.int a t) (.int c u)) Q E s)
section
open PySem.SeqAt
open PySem.AutoSeq1 (wpAny_loadPart')
open PySem.MeetsSeq PySem.MeetsSeq2 PySem.MeetsSeq3
def GS(l b)(items items2)(n n2)(dd dd2)(sl sl2)(ns ms)(hi:IntsAre items[2] ns)(O:IntsAre items2[2] ms) :
  Meets (Builtin.«tuple.__lt__» #[[.ref l,.ref b],[]])
   (λ_ R s=>s.heap.get? l=some {cls:=.type "tuple",dict:=dd,data:=.seq items n,slots:=sl}/\s.heap.get? b=some {cls:=.type "tuple",dict:=dd2,data:=.seq items2 n2,slots:=sl2} /\
    R (.ok (.ret (.bool (lexLt ns ms)))) s) :=
 .of_wp λprog w A R s h=>by
  let⟨hp,g,d,tk,os⟩:=s;let⟨hl,hb,h⟩:=h;have f2:=AutoSeq1.sub_tuple_tuple;have z1:items.size=ns[1]:=by rw[<- hi[1]];simp
  have z2:items2.size=ms[1]:=by rw[<- O[1]];simp
  wp_walk using wpAny_loadPart' hl,wpAny_loadPart' hb,wpAny_forIn_list _ (λrest b s'=>b.1=none/\s'=#[hp,g,d,tk,os]/\∃(vs ws:List aa) (ns' ms':List Int),rest=vs.zip ws /\
   IntsAre vs ns'/\IntsAre ws ms'/\ns'[1]+items2.size=ms'[1]+items.size/\R (.ok (.ret (.bool (lexLt ns' ms')))) #[hp,g,d,tk,os]) _
  case turn =>
   rintro⟨y,x⟩ rest b s' ⟨hb',rfl,vs,ws,ns',ms',hz,hvi,hwi,hlen,hR⟩;cases hvi with
   | nil=>rw[List.zip_nil_left]at hz;cases hz
   | cons a t hvi' =>
    cases hwi with
    | nil=>rw[List.zip_nil_right]at hz;cases hz
    | cons c u hwi' =>
     rw[bI]at hz;injection hz with hyx hrest;injection hyx with hy hx;subst hy hx;rw[lexLt_cons]at hR;simp only[gJ]at hlen;let⟨e,he,z⟩:=GQ A.in1 #[hp,g,d,tk,os] a t c u;show gg (he prog w _ _ ?_);cases e with
     | true =>
      rw[iP (z.mp rfl)]at hR
      wp_walk
      show#[rfl,rfl,_,_,_,_,hrest,hvi',hwi',"",hR]
     | false =>
      rw[iN λq=>absurd (z.mpr q) fY]at hR
      have B:=GR A.in1 #[hp,g,d,tk,os] a t c u prog w
      wp_walk using B
      show#[_,rfl,by simpa using hR]
  case fin =>
   rintro⟨b1,b2⟩ s' ⟨hb',rfl,vs,ws,ns',ms',hz,hvi,hwi,hlen,hR⟩;simp only at hb';subst hb';have hv:lexLt ns' ms'=decide (items.size<items2.size):=by
    cases hvi with
    | nil =>
     cases hwi with
     | nil =>
      simp only[fS]at hlen;rw[lexLt_nil_nil];show(tm "").symm
     | cons c u hw =>
      simp only[fS,gJ]at hlen;rw[lexLt_nil_cons];show(tJ "").symm
    | cons a t hv =>
     cases hwi with
     | nil =>
      simp only[fS,gJ]at hlen;rw[lexLt_cons_nil];show(tm "").symm
     | cons c u hw =>
      rw[bI]at hz;cases hz
   rw[hv]at hR
   wp_walk
   show#[_,rfl,by simpa[Builtin.Tuple.tupleCompareSizes]using hR]
  case h =>
   show#[rfl,rfl,items[2],items2[2],ns,ms,rfl,hi,O,"",h]
end
section
variable{prog:af}{w:World}{A:ag}{E:aa->ab->Prop}{s:ab}
def lt_tupInts{items z:Array aa}{B ms:List Int}{Q:aa->ab->Prop}(hl:IsTup s.heap l items)(hb:IsTup s.heap b z)(hi:IntsAre items[2] B)(hj:IntsAre z[2] ms)
  (hu:A.units<cLine)(h:Q (.bool (lexLt B ms)) s):wpAny (model prog w) A (compareOp .Lt (.ref l) (.ref b)) Q E s:=by
 let⟨⟨cls,dd,data,sl⟩,ho,hc,n,hd⟩:=id hl;let⟨⟨h4,Z,h3,sl2⟩,O,U,n2,Y⟩:=id hb;simp only at hc hd U Y;subst hc hd U Y;show richCompare_meets_room (op:=.Lt) #[_,ho,rfl] #[_,O,rfl] PySem.F.slot_tuple_lt PySem.F.entry_tuple_lt (PySem.F.args_tuple_lt_2 _ _) (GS l b items z n n2 dd Z sl sl2 B ms hi hj)
  #[ho,O,show Value.bool (lexLt B ms)≠Value.notImplemented/\Q (.bool (lexLt B ms)) s from#[(λx=>nomatch x),h]] hu
def cat_tup(ht:IsTup s.heap t vs.toArray)(hb:IsTup s.heap b ws.toArray)(hv:vs≠[])
  (h1:ws=[]->Q (.ref t) s)(h2:ws≠[]->Q (.ref s[0]) {s with heap:=s.heap.push {cls:=.type "tuple",data:=.seq (vs++ws).toArray}})
  (hsz:vs[1]+ws[1]<=sizeLine):wpAny (model prog w) A (binaryOp .Add (.ref t) (.ref b)) Q E s:=by
 let⟨⟨cls,dd,data,sl⟩,ho,hc,n,hd⟩:=id ht;let⟨⟨h3,B,Z,O⟩,z,U,n2,Y⟩:=id hb;simp only at hc hd U Y;subst hc hd U Y;have e:vs.toArray++ws.toArray=(vs++ws).toArray:=by simp
 by_cases hw:ws=[]
 .show concat_meets #[_,ho,rfl] #[_,z,rfl] noFill_tuple_add seq_tuple_add PySem.F.slot_tuple_add PySem.F.entry_tuple_add (PySem.F.args_tuple_add_2 _ _)
   (tuple_addW1 t b vs.toArray ws.toArray n n2 dd B sl O hv[""] (by simp[hw])) #[ho,z,h1 hw]
 show concat_meets #[_,ho,rfl] #[_,z,rfl] noFill_tuple_add seq_tuple_add PySem.F.slot_tuple_add PySem.F.entry_tuple_add (PySem.F.args_tuple_add_2 _ _)
  (tuple_addW2 t b vs.toArray ws.toArray n n2 dd B sl O hv[""] hw[""] (by rw[gU,gU];show hsz)) #[ho,z,?_]
 rw[e];show h2 hw
def sIx(n d:Nat):Option Int->Nat
 | none=>d
 | some v=>if v<0 then(v+(n:Int)).toNat else min v.toNat n
def sIx_none(n d):sIx n d none=d:=rfl
def sIx_nat(n d k:Nat):sIx n d ↑k=min k n:=by
 show(if (k:Int)<0 then((k:Int)+(n:Int)).toNat else min (k:Int).toNat n)=min k n
 rw[iN "",fK]
def GT(n d)(hd:d<=n)(o):sIx n d o<=n:=by
 cases o with
 | none=>show hd
 | some v =>
  show(if v<0 then(v+(n:Int)).toNat else min v.toNat n)<=n
  by_cases hv:v<0
  .rw[iP hv];lia
  rw[iN hv];show Nat.min_le_right _ _
def WW(v)(n d:Nat):(if v<0 then max (v+(n:Int)) 0 else min v n)=(sIx n d !v):=by
 show(if v<0 then max (v+(n:Int)) 0 else min v (n:Int))=(((if v<0 then(v+(n:Int)).toNat else min v.toNat n):Nat):Int)
 by_cases hv:v<0
 .simp only[iP hv];lia
 simp only[iN hv];lia
def GU(lo hi)(n:Nat):Builtin.Slice.sliceAdjust lo hi 1 n=(((sIx n 0 lo):Int),((sIx n n hi):Int)):=by
 have h1:¬ ((1:Int)<0):=""
 delta Builtin.Slice.sliceAdjust
 simp only[h1,cG];show Prod.ext ?_ ?_
 .cases lo with
  | none=>rfl
  | some v=>show WW v n 0
 cases hi with
 | none=>rfl
 | some v=>show WW v n n
def GV(i j:Nat):Builtin.Slice.slicePlaces i j 1=j-i:=by
 delta Builtin.Slice.slicePlaces
 have h1:(1:Int)>0:=""
 simp only[h1,dq,Int.ediv_one];split<;>lia
def WX(p:IsPart v o)(h:Q o s):wpAny (model prog w) A (Builtin.Slice.slicePartIndex v) Q E s:=by
 cases p with
 | none=>show slicePart_none h
 | int i t=>show slicePart_int h
def GW{lo hi:Option Int}{n:Nat}{Q:Int×Int×Nat->ab->Prop}(O:s.heap.IsSliceOf sl vl vu .none)(U:IsPart vl lo)(Y:IsPart vu hi)
  (h:Q ((sIx n 0 lo),1,sIx n n hi-sIx n 0 lo) s):wpAny (model prog w) A (Builtin.Slice.sliceApplied (.ref sl) (pure n)) Q E s:=by
 let⟨os,z,Z,B⟩:=id O
 delta Builtin.Slice.sliceApplied Builtin.Slice.sliceFields
 show gg (gg (fZ z B (x:=vl) rfl (gg (fZ z B (x:=vu) rfl (gg (fZ z B (x:=.none) rfl (gy ?_)))))));show gg (slicePart_none ?_);show wpAny _ _ (if ((1:Int)==0)=true then _ else _) _ _ s
 rw[iN "d"]
 show gg (WX U (gg (WX Y (gg (gy ?_)))));show wpAny _ _ (match Builtin.Slice.sliceAdjust lo hi 1 (n:Int)with|(lo,hi)=>pure (lo,(1:Int),Builtin.Slice.slicePlaces lo hi 1)) _ _ s
 rw[GU lo hi n];show wpAny _ _ (pure (((sIx n 0 lo:Nat):Int),(1:Int),Builtin.Slice.slicePlaces ((sIx n 0 lo:Nat):Int) ((sIx n n hi:Nat):Int) 1)) _ _ s;rw[GV];show gy h
def GX(xs:Array aa)(i k:Nat):((List.range k).filterMap λ(m:Nat)=>xs[(i+(m:Int)*1).toNat]?).toArray=((xs[2].drop i).take k).toArray:=by
 have e:(λ(m:Nat)=>xs[((i:Int)+(m:Int)*1).toNat]?)=λm=>xs[i+m]?:=by
  funext m;have:((i:Int)+(m:Int)*1).toNat=i+m:=""
  rw[this]
 rw[e];have:=pick_run xs i k;rw[List.filterMap_map]at this;have e2:((λx=>xs[x]?)∘λx=>i+x)=λm=>xs[i+m]?:=rfl
 rw[e2]at this;rw[this]
def getItem_tuple_cut{items:Array aa}{lo hi:Option Int}{Q:aa->ab->Prop}(B:IsTup s.heap t items)(hs:s.heap.IsSliceOf sl vl vu .none)(pl:IsPart vl lo)(pu:IsPart vu hi)
  (hw:¬ (sIx items.size 0 lo=0/\sIx items.size items.size hi=items.size))
  (h:Q (.ref s[0]) {s with heap:=s.heap.push {cls:=.type "tuple",data:=.seq ((items[2].drop (sIx items.size 0 lo)).take (sIx items.size items.size hi-sIx items.size 0 lo)).toArray}})
  (hsz:items.size<=sizeLine):wpAny (model prog w) A (getItem (.ref t) (.ref sl)) Q E s:=by
 have z:sizeOk (.seq ((items[2].drop (sIx items.size 0 lo)).take (sIx items.size items.size hi-sIx items.size 0 lo)).toArray):=by
  show((items[2].drop (sIx items.size 0 lo)).take (sIx items.size items.size hi-sIx items.size 0 lo)).toArray.size<=sizeLine;rw[gU,tD,fG,pt]
  omega
 have hj:sIx items.size items.size hi<=items.size:=GT _ _ (gC _) hi;let⟨os,Y,Z,hds⟩:=id hs;have O:s.TypeIs (.ref sl) "slice":=#[os,Y,Z]
 delta getItem
 try with_reducible show fU ?_
 first|show gg (gy ?_)|skip
 show gg (wpAny_sequenceKey B.typeIs "d" ?_)
 show gg (fL (name:=Str.ofString "__getitem__") B.typeIs cx
  (pf cx B.typeIs entry_tuple_getitem ?_ (args_tuple_getitem _ _)))
 show wpAny _ _ (Builtin.Tuple.tupleItemsOf (.ref t) >>= _) _ _ s;show gg (tupleItemsOf_ B ?_);show gg (wpAny_typeOf O ?_);rw[iP "d"]
 show gg (GW hs pl pu ?_);have U:¬ ((((sIx items.size 0 lo:Nat):Int)==0&&(1:Int)==1&&(sIx items.size items.size hi-sIx items.size 0 lo)==items.size)=true):=by
  intro q;rw[hE,hE]at q;have q1:((sIx items.size 0 lo:Nat):Int)=0:=eq_of_beq q.1.1;have q2:sIx items.size items.size hi-sIx items.size 0 lo=items.size:=eq_of_beq q.2;show hw #["","o"]
 show wpAny _ _ (if (((sIx items.size 0 lo:Nat):Int)==0&&(1:Int)==1&&(sIx items.size items.size hi-sIx items.size 0 lo)==items.size)=true then _ else _) _ _ s
 rw[iN U,GX]
 first
  | show gg (m:=Builtin.Tuple.tupleExact _) (f8 (gy #[_,rfl,gy h]) z)
  | show gg (m:=Builtin.Tuple.tupleExact _) (f8 (gg (gy (gy #[_,rfl,gy h]))) z)
  | show gg (gg (m:=Builtin.Tuple.tupleExact _) (f8 (gy (gy #[_,rfl,gy h])) z))
  | show gg (gg (m:=Builtin.Tuple.tupleExact _) (f8 (gy #[_,rfl,gy h]) z))
end
end HT
namespace L2
open PySem PySem.Spec PyProof.Rows
abbrev TO:=St->Hp->(Option Int->Hp->Prop)->Prop
def PO(X:Cx)(e:Option Expr)(t:TO):Prop :=
 ∀(pins:List (Addr×Obj)) (s:ab) (σ:St) (H:Hp) (Q:Option Int->Hp->Prop),"I" H s->t σ H Q ->
  X[3] (evalPart e X.env) (λu s'=>∃ o H',"I" H' s'/\IsPart u o/\Q o H') X.xe s
def GY:TO:=λ_ H Q=>Q none H
def GZ(t:TE):TO:=λσ H Q=>t σ H λx H1=>∃ i,x=.int i/\Q ↑i H1
def kt:∀{us},Vals (ns.map V.int) us->IntsAre us ns:=by
 induction ns with
 | nil=>intro us r;rw[pW]at r;cases r;show .nil
 | cons n ns ih =>
  intro us r;rw[gP]at r;cases r with
  | cons r1 r2 =>
   let⟨t,e⟩:=r1;subst e;show .cons n t (ih r2)
section
variable{X:Cx}{e:Expr}{te:TE}{lo hi:Option Expr}{tl th:TO}{pos p2:Pos}
def T0:PO X none GY:=by
 intro pins s σ H Q I h;rw[evalPart_none];show gy #[none,H,I,.none,h]
def T1(h:PE X e te):PO X ↑e (GZ te):=by
 intro pins s σ H Q I hw;rw[evalPart_some];show thn (h pins s σ H _ I hw) λu s1 #[x,H1,I1,r1,q1]=>?_
 let⟨i,rfl,q⟩:=q1;let⟨t,rfl⟩:=r1;show#[!i,H1,I1,.int i t,q]
def SlR(X:Cx)(r:V->Option Int->Option Int->Hp->VK->Prop):Prop :=
 ∀(pins:List (Addr×Obj)) (s:ab) (σ:St) (H:Hp) (x:V) (v vl vu:aa) (lo hi:Option Int) (sl:Addr) (Q:VK),"I" H s->RelV x v->s.heap.IsSliceOf sl vl vu .none->IsPart vl lo->IsPart vu hi->r x lo hi H Q ->
  ∃ T id,typeLookup (.type T) "__getitem__"=pure (!(.builtin id))/\s.TypeIs v T/\X[3] (getItem v (.ref sl)) (EP X pins σ Q) X.xe s
def SlR.or(h:SlR X r)(h':SlR X r'):SlR X (λx lo hi H Q=>r x lo hi H Q\/r' x lo hi H Q):=by
 intro pins s σ H x v vl vu lo hi sl Q I rx hs pl pu q;rcases q with q|q
 .show h pins s σ H x v vl vu lo hi sl Q I rx hs pl pu q
 show h' pins s σ H x v vl vu lo hi sl Q I rx hs pl pu q
def tSl(r:V->Option Int->Option Int->Hp->VK->Prop)(te:TE)(tl th:TO):TE:=λσ H Q=>te σ H λx H1=>tl σ H1 λl H2=>th σ H2 λu H3=>r x l u H3 Q
def T3(z:SlR X r)(B:PE X e te)(O:PO X lo tl)(U:PO X hi th):PE X (.Subscript e (.Slice lo hi none p2) pos) (tSl r te tl th):=by
 intro pins s σ H Q I h;show Subscript_ (thn (B pins s σ H _ I h) λv s1 #[x,H1,I1,r1,q1]=>?_)
 show wpAny_Slice (thn (O pins s1 σ H1 _ I1 q1) λvl s2 #[l,H2,I2,pl,q2]=>thn (U pins s2 σ H2 _ I2 q2) λvu s3 #[u,H3,I3,pu,q3]=>?_)
 rw[evalPart_none];show gy ?_;have I4:"I" H3 {s3 with heap:=s3.heap.push {cls:=.type "slice",data:=.fields (List.toArray [vl,vu,.none])}}:=I3.kept (t':=s3.toks) λb ob q=>gu _ q
 let⟨T,id,hT,ht,hg⟩:=z pins {s3 with heap:=s3.heap.push {cls:=.type "slice",data:=.fields (List.toArray [vl,vu,.none])}} σ H3 x v vl vu l u s3[0] Q I4 r1 (Heap.IsSliceOf.new ..) pl pu q3;show X[3] (subscriptTail e (.Slice lo hi none p2) v (.ref s3[0])) (EP X pins σ Q) X.xe {s3 with heap:=s3.heap.push {cls:=.type "slice",data:=.fields (List.toArray [vl,vu,.none])}};show tail_any (ops:=[.ref s3[0],v]) ht hT hg (by with_unfolding_all rfl)
def wK(xs:List V)(lo hi:Option Int):List V:=(xs.drop (HT.sIx xs[1] 0 lo)).take (HT.sIx xs[1] xs[1] hi-HT.sIx xs[1] 0 lo)
def WY(xs)(lo hi):(wK xs lo hi)[1]<=xs[1]:=by
 delta wK
 rw[tD,fG];lia
def T4(K:Frag):V->Option Int->Option Int->Hp->VK->Prop:=λx lo hi H Q=>∃ a xs,x=.ref a/\SqT K H a xs /\
 ¬ (HT.sIx xs[1] 0 lo=0/\HT.sIx xs[1] xs[1] hi=xs[1])/\∀ p,H p=none->Q (.ref p) (upd H p (.tup (wK xs lo hi)))
def T5:SlR X (T4 X.K):=by
 intro pins s σ H x v vl vu lo hi sl Q I rx hs pl pu h;let⟨a,xs,rfl,hx,hw,q⟩:=h;cases rx;let⟨its,r,ht,hz⟩:=I.tuple hx;have z:its.toArray.size=xs[1]:=by rw[gU];show r.length.symm
 show#["tuple",_,cx.lookup,ht.typeIs,?_];show HT.getItem_tuple_cut ht hs pl pu (by rw[z];show hw) ?_ (by rw[z];show hz)
 rw[z];show#[.ref s[0],_,I.laid (t':=s.toks) (o:=.tup (wK xs lo hi)) (λb ob q=>gu _ q) (gC _) ?_,rfl,q _ (I.hok.fresh (gC _))]
 show#[tY (WY xs lo hi) hz,_,(r.drop (HT.sIx xs[1] 0 lo)).take (HT.sIx xs[1] xs[1] hi-HT.sIx xs[1] 0 lo),IsTup.new _ _]
def T6(K:Frag):R2:=λx y H Q=>∃ a b xs ys,x=.ref a/\y=.ref b/\SqT K H a xs/\SqT K H b ys/\xs≠[]/\xs[1]+ys[1]<=sizeLine /\
 (ys=[]->Q (.ref a) H)/\(ys≠[]->∀ p,H p=none->Q (.ref p) (upd H p (.tup (xs++ys))))
def Vals.nil_iff(r:Vals xs us):us=[]↔xs=[]:=by
 cases r with
 | nil=>simp
 | cons _ _=>simp
def T7:OpR X (binaryOp .Add) (T6 X.K):=by
 intro pins s σ H x y v u Q I rx ry h;let⟨a,b,xs,ys,rfl,rfl,ha,hb,hx,hz,q1,q2⟩:=h;cases rx;cases ry;let⟨its,r1,p1,_⟩:=I.tuple ha;let⟨B,r2,p2,_⟩:=I.tuple hb;show HT.cat_tup p1 p2 (λz=>hx (r1.nil_iff.mp z)) (λz=>#[.ref a,H,I,rfl,q1 (r2.nil_iff.mp z)]) (λz=>?_) (by rw[<- r1[1],<- r2[1]];show hz)
 show#[.ref s[0],_,I.laid (t':=s.toks) (o:=.tup (xs++ys)) (λb ob q=>gu _ q) (gC _) ?_,rfl,q2 (λw=>z (r2.nil_iff.mpr w)) _ (I.hok.fresh (gC _))]
 show#[by rw[gD];show hz,_,r1.append r2,IsTup.new _ _]
end
def ixN(n:Nat)(i:Int):Option Nat:=if 0<=i then(if i<n then !i.toNat else none)else if -(n:Int)<=i then !(i+n).toNat else none
def atI{α:Type}(xs:List α)(i:Int):Option α:=(ixN xs[1] i).bind λj=>xs[j]?
def WZ(h:ixN n i=!j):seqIndex? i n=!j/\j<n/\-n<=i/\i<n:=by
 delta ixN at h
 by_cases h0:0<=i
 .rw[iP h0]at h;by_cases h1:i<n
  .rw[iP h1]at h;have e:i.toNat=j:=tN h;show#[by rw[seqIndex_of h0 h1,e],"","",h1]
  rw[iN h1]at h;cases h
 rw[iN h0]at h;by_cases h1:-(n:Int)<=i
 .rw[iP h1]at h;have e:(i+n).toNat=j:=tN h;show#[by rw[seqIndex_neg "" h1,e],"",h1,""]
 rw[iN h1]at h;cases h
def Zd(h:atI xs i=!v):∃ j,seqIndex? i xs[1]=!j/\xs[j]?=!v/\j<xs[1]/\-(xs[1])<=i/\i<xs[1]:=by
 delta atI at h
 cases e:ixN xs[1] i with
 | none=>rw[e]at h;cases h
 | some j =>
  rw[e]at h;let⟨h1,h2,h3,h4⟩:=WZ e;show#[j,h1,h,h2,h3,h4]
def y9(b:Expr):Prop:=∀ o i,subscripted b false o i=operate [o,i] (getItem o i)
def IxR(X:Cx)(r:R2):Prop :=
 ∀(value z:Expr) (pins:List (Addr×Obj)) (s:ab) (σ:St) (H:Hp) (x y:V) (v u:aa) (Q:VK),"I" H s->RelV x v->RelV y u->r x y H Q ->
  subscripted z false v u=operate [v,u] (getItem v u)->X[3] (subscriptTail value z v u) (EP X pins σ Q) X.xe s
def MtR(X:Cx)(id:String)(r:V->List V->Hp->VK->Prop):Prop :=
 ∀(pins:List (Addr×Obj)) (s:ab) (σ:St) (H:Hp) (x:V) (xs:List V) (v:aa) (us:List aa) (Q:VK),"I" H s->RelV x v->Vals xs us->r x xs H Q ->
  X[3] (call (.builtin id) (v::us)) (EP X pins σ Q) X.xe s
section
variable{X:Cx}{a b:Expr}{ta tb:TE}{pos:Pos}
def T8(z:IxR X r)(B:PE X a ta)(O:PE X b tb)(U:y9 b):PE X (.Subscript a b pos) (tOp r ta tb):=by
 intro pins s σ H Q I h;show Subscript_ (Gq B O I h λv u s2 x y H2 I2 rx ry q=>z a b pins s2 σ H2 x y v u Q I2 rx ry q (U _ _))
def T9(K:Frag):R2:=λx y H Q=>∃ p xs i v,x=.ref p/\y=.int i/\SqL K H p xs/\atI xs i=!v/\Q v H
def Ta(K:Frag):R2:=λx y H Q=>∃ p xs i v,x=.ref p/\y=.int i/\SqT K H p xs/\atI xs i=!v/\Q v H
def Tb:R2:=λx y H Q=>∃ z i c,x=.str z/\y=.int i/\z[1]<=sizeLine/\atI z.cps.toList i=!c/\Q (.str #[(List.toArray [c])]) H
def ix_list:IxR X (T9 X.K):=by
 intro value B pins s σ H x y v u Q I rx ry h hs;let⟨p,xs,i,z,rfl,rfl,hq,he,q⟩:=h;cases rx;let⟨t,rfl⟩:=ry;let⟨its,r,pl,hz⟩:=I.list hq;let⟨j,h1,h2,h3,h4,h5⟩:=Zd he;let⟨w,ew,O⟩:=r.get h2;have hl:=r[1];have hn:=kq;have fin:EP X pins σ Q w s:=#[z,H,I,O,q];by_cases h0:0<=i
 .have hj:i.toNat=j:=by
   rw[seqIndex_of h0 h5]at h1;show tN h1
  show item_listR pl.isList h0 "" (by rw[hj];simpa using ew) fin hs
 have hj:(i+(its.toArray.size:Int)).toNat=j:=by
  rw[seqIndex_neg "" h4]at h1
  rw[gU,<- hl];show tN h1
 show subscriptTail_builtinR (x:=w) pl.isList.typeIs slot_list_getitem.lookup
  (wpAny_getItem_list_neg (Q:=λr s'=>r=w/\EP X pins σ Q r s') pl.isList "" (by rw[gU]<;>lia) "" (by rw[hj];simpa using ew) #[rfl,fin]) hs
def Tc:IxR X (Ta X.K):=by
 intro value B pins s σ H x y v u Q I rx ry h hs;let⟨p,xs,i,z,rfl,rfl,hq,he,q⟩:=h;cases rx;let⟨t,rfl⟩:=ry;let⟨its,r,pl,hz⟩:=I.tuple hq;let⟨j,h1,h2,h3,h4,h5⟩:=Zd he;let⟨w,ew,O⟩:=r.get h2;have hl:=r[1];have hn:=kq;have fin:EP X pins σ Q w s:=#[z,H,I,O,q];show subscriptTail_builtinR (x:=w) pl.typeIs slot_tuple_getitem.lookup
  (getItem_tuple (j:=j) (Q:=λr s'=>r=w/\EP X pins σ Q r s') pl "" "" (by rw[gU,<- hl];show h1) ew[""] #[rfl,fin]) hs
def Td:IxR X Tb:=by
 intro value B pins s σ H x y v u Q I rx ry h hs;let⟨z,i,c,rfl,rfl,hz,he,q⟩:=h;let⟨t,rfl⟩:=rx;let⟨t',rfl⟩:=ry;let⟨j,h1,h2,h3,h4,h5⟩:=Zd he;have hl:z.cps.toList.length=z[1]:=by simp[Str.length]
 rw[hl]at h1 h4 h5;have hn:=kq;show tail_any (typeIs_str s z t) slot_str_getitem.lookup (getItem_str (c:=c) (by
  have e1:decide (i < -(2 ^ 63:Int))=false:=tm ""
  have e2:decide (i≥2 ^ 63)=false:=tm ""
  rw[e1,e2,Bool.or_false]) (by rw[h1];simpa using h2) #[.str #[(List.toArray [c])],H,I.tok _,#[_,rfl],q]) hs
def Te(its:List aa)(n j)(u):Obj.mapSeq (·.setIfInBounds j u) {cls:=.type "list",data:=.seq its.toArray n}={cls:=.type "list",data:=.seq (its.set j u).toArray n}:=by
 simp[Obj.mapSeq]
def Inv.lst{σ:St}{H:Hp}{s:ab}{p:Addr}{xs:List V}(I:"I" H s)(h:H p=!(.lst xs)) :
  ∃ its n,Vals xs its/\s.heap.get? p=some {cls:=.type "list",data:=.seq its.toArray n}/\xs[1]<=sizeLine:=by
 let⟨z,its,n,r,e⟩:=I.hok p _ h;show#[its,n,r,e,z]
def Inv.lstUpd{H:Hp}{s:ab}{xs ys:List V}{its its':List aa}{n z:Nat}{f:Obj->Obj}(I:"I" H s)(h:H p=!(.lst xs))
  (O:s.heap.get? p=some {cls:=.type "list",data:=.seq its.toArray n})(B:f {cls:=.type "list",data:=.seq its.toArray n}={cls:=.type "list",data:=.seq its'.toArray z})(r:Vals ys its')(hz:ys[1]<=sizeLine)(t) :
  "I" (upd H p (.lst ys)) {s with heap:=s.heap.update p f,toks:=t}:=by
 have e:(s.heap.update p f).get? p=some {cls:=.type "list",data:=.seq its'.toArray z}:=by
  rw[fj f O (by rw[B]<;>rfl),B]
 show I.write (x:=p) (e:=p) (by rw[h];trivial) (.inl rfl) (λb u hb q=>(tT _ _ (tu hb)).trans q) #[_,e] ?_
 show#[hz,its',z,r,e]
def Tf:V->V->V->Hp->(Hp->Prop)->Prop:=λo i v H Q=>∃ p xs k j,o=.ref p/\i=.int k/\H p=!(.lst xs)/\ixN xs[1] k=!j/\Q (upd H p (.lst (xs.set j v)))
def Tg:PSet X Tf:=by
 intro pins s σ H o i v ov iv u Q I ro ri rv h;let⟨p,xs,k,j,rfl,rfl,hp,hj,q⟩:=h;cases ro;let⟨t,rfl⟩:=ri;let⟨its,n,r,ho,hz⟩:=I.lst hp;let⟨h1,h2,h3,h4⟩:=WZ hj;have hl:=r[1];have hn:=kq;have I':"I" (upd H p (.lst (xs.set j v))) {s with heap:=s.heap.update p (Obj.mapSeq (·.setIfInBounds j u))} :=
  I.lstUpd hp ho (Te its n j u) (r.set rv j) (by rw[bC];show hz) s.toks
 by_cases h0:0<=k
 .have hk:k.toNat=j:=by
   rw[seqIndex_of h0 h4]at h1;show tN h1
  show PySem.W.ki_setAt ho h0 "" (by rw[gU,<- hl];show h4) (by rw[hk];show#[_,I',q])
 have hk:(k+(its.toArray.size:Int)).toNat=j:=by
  rw[seqIndex_neg "" h3]at h1
  rw[gU,<- hl];show tN h1
 show PySem.W.ki_setBack ho "" (by rw[gU,<- hl];show h3) "" (by rw[hk];show#[_,I',q])
def Th(lo hi)(n):(sliceBounds lo hi none n).1=(HT.sIx n 0 lo)/\(sliceBounds lo hi none n).2.1=(HT.sIx n n hi)/\(sliceBounds lo hi none n).2.2=1:=by
 show#[?_,?_,rfl]
 .cases lo with
  | none=>simp[sliceBounds,HT.sIx]
  | some i =>
   simp only[sliceBounds,HT.sIx,Option.getD_none,show(1:Int)>0 by decide,dq]
   by_cases h:i<0
   .simp only[h,dq]<;>lia
   simp only[h,cG]<;>lia
 cases hi with
 | none=>simp[sliceBounds,HT.sIx]
 | some i =>
  simp only[sliceBounds,HT.sIx,Option.getD_none,show(1:Int)>0 by decide,dq]
  by_cases h:i<0
  .simp only[h,dq]<;>lia
  simp only[h,cG]<;>lia
def Ti(its:List aa)(lo hi):slicePick its.toArray lo hi none=((its.drop (HT.sIx its[1] 0 lo)).take (HT.sIx its[1] its[1] hi-HT.sIx its[1] 0 lo)).toArray:=by
 let⟨h1,h2,h3⟩:=Th lo hi its.toArray.size
 delta slicePick
 rw[h1,h2,h3];simp only[sliceRange_one,pick_run,gU]<;>rfl
def Tj(K:Frag):V->Option Int->Option Int->Hp->VK->Prop:=λx lo hi H Q=>∃ a xs,x=.ref a/\SqL K H a xs/\∀ p,H p=none->Q (.ref p) (upd H p (.lst (wK xs lo hi)))
def Tk:SlR X (Tj X.K):=by
 intro pins s σ H x v vl vu lo hi sl Q I rx hs pl pu h;let⟨a,xs,rfl,hx,q⟩:=h;cases rx;let⟨its,r,ht,hz⟩:=I.list hx;have z:=r[1];show#["list",_,slot_list_getitem.lookup,ht.isList.typeIs,?_];show wpAny_getItem_list_slice ht.isList hs pl pu .none "s" ?_ (by rw[gU]<;>lia)
 rw[Ti,<- z];show#[.ref s[0],_,I.laid (t':=s.toks) (o:=.lst (wK xs lo hi)) (λb ob q=>gu _ q) (gC _) ?_,rfl,q _ (I.hok.fresh (gC _))]
 show#[tY (WY xs lo hi) hz,_,0,(r.drop (HT.sIx xs[1] 0 lo)).take (HT.sIx xs[1] xs[1] hi-HT.sIx xs[1] 0 lo),gM _ rfl]
def Tl:y8 X (.builtin "len") (λxs H Q=>∃ p ys,xs=[.ref p]/\(SqL X.K H p ys\/SqT X.K H p ys)/\Q (.int ys[1]) H):=by
 intro pins s σ H xs us Q I r h;let⟨p,ys,rfl,hq,q⟩:=h;let⟨u,rfl,rx⟩:=Qt r;cases rx;have hn:=kq;rcases hq with hq|hq
 .let⟨its,r',pl,hz⟩:=I.list hq;have z:=r'[1];show Calls.call_len_list pl.isList (by simp only[gU]<;>lia) #[.int ys[1],H,I.tok _,#[s.toks+1,by rw[gU,z]],q]
 let⟨its,r',pl,hz⟩:=I.tuple hq;have z:=r'[1];show len_tuple pl (by simp only[gU]<;>lia) #[.int ys[1],H,I.tok _,#[s.toks+1,by rw[gU,z]],q]
def Tn:y8 X (.type "list") (λxs H Q=>∃ p ys,xs=[.ref p]/\(SqL X.K H p ys\/SqT X.K H p ys)/\∀ l,H l=none->Q (.ref l) (upd H l (.lst ys))):=by
 intro pins s σ H xs us Q I r h;let⟨p,ys,rfl,hq,q⟩:=h;let⟨u,rfl,rx⟩:=Qt r;cases rx;have fin:∀(its:List aa),Vals ys its->ys[1]<=sizeLine->∀(h':Heap) (c':Nat),(∀ b o',s.heap.get? b=!o'->h'.get? b=!o') ->
   h'.get? s[0]=some {cls:=.type "list",dict:=none,data:=.seq its.toArray c',slots:=#[]}->EP X pins σ Q (.ref s[0]) {s with heap:=h'}:=λits r' hz h' c' kp e =>
  #[.ref s[0],_,I.laid (t':=s.toks) kp (gC _) (show ObjOk X.prog X.w _ h' _ (.lst ys)from#[hz,its,c',r',e]),rfl,q _ (I.hok.fresh (gC _))]
 rcases hq with hq|hq
 .let⟨its,r',pl,hz⟩:=I.list hq;have z:=r'[1];let⟨o,ho,hc,n,hd⟩:=pl.isList;show call_list_seq p (.inl rfl) ho hc hd (λh' c' kp e=>fin its r' hz h' c' kp e) (by simp only[gU]<;>lia)
 let⟨its,r',pl,hz⟩:=I.tuple hq;have z:=r'[1];let⟨o,ho,hc,n,hd⟩:=pl;show call_list_seq p (.inr rfl) ho hc hd (λh' c' kp e=>fin its r' hz h' c' kp e) (by simp only[gU]<;>lia)
def To:y8 X (.type "tuple") (λxs H Q=>∃ p ys,xs=[.ref p]/\((SqL X.K H p ys/\∀ l,H l=none->Q (.ref l) (upd H l (.tup ys)))\/(SqT X.K H p ys/\Q (.ref p) H))):=by
 intro pins s σ H xs us Q I r h;let⟨p,ys,rfl,h⟩:=h;let⟨u,rfl,rx⟩:=Qt r;cases rx;rcases h with⟨hq,q⟩|⟨hq,q⟩
 .let⟨its,r',pl,hz⟩:=I.list hq;have z:=r'[1];show call_tuple_list pl.isList (λh' kp=>?_) (by simp only[gU]<;>lia)
  have I1:"I" H {s with heap:=h'}:=I.kept (t':=s.toks) kp;have I2:"I" (upd H h'.objs.size (.tup ys)) {s with heap:=h'.push {cls:=.type "tuple",data:=.seq its.toArray}} :=
   I1.laid (t':=s.toks) (λb o e=>gu _ e) (gC _) (show ObjOk X.prog X.w _ _ _ (.tup ys)from#[hz,its,r',IsTup.new _ _])
  show#[.ref h'.objs.size,_,I2,rfl,q _ (I1.hok.fresh (gC _))]
 let⟨its,r',pl,hz⟩:=I.tuple hq;show call_tuple_same pl #[.ref p,H,I,rfl,q]
def tyV(K:Frag)(T:String)(x:V)(H:Hp):Prop:=match x with
 | .str _=>T="str"
 | .int _=>T="int"
 | .ref p=>(T="list"/\∃ xs,SqL K H p xs)\/(T="tuple"/\∃ o,K.lookup p=!o/\o.cls=.type "tuple"/\o.dict=none) \/
   (T="dict"/\((∃ kvs,H p=!(.dK kvs))\/∃ kvs,H p=!(.dT kvs)))\/(T="set"/\∃ S n,H p=!(.set S n))
 | _=>False
def Tp{s:ab}(I:"I" H s)(r:RelV x v)(ty:tyV X.K T x H) :
  s.TypeIs v T/\∀ a,v=.ref a->∃ ob,s.heap.get? a=!ob/\ob.dict=none:=by
 cases x with
 | str z =>
  let⟨t,rfl⟩:=r;cases (show T="str" from ty)
  show#[typeIs_str s z t,λ_ e=>nomatch e]
 | int i =>
  let⟨t,rfl⟩:=r;cases (show T="int" from ty)
  show#[bz s i t,λ_ e=>nomatch e]
 | ref p =>
  cases r;rcases ty with⟨rfl,xs,hq⟩|⟨rfl,o,hk,hc,hd⟩|⟨rfl,hk⟩|⟨rfl,S,n,hk⟩
  .let⟨its,_,pl,_⟩:=I.list hq;show#[pl.isList.typeIs,λa e=>?_]
   cases e;let⟨o,n,e,c,hd,_⟩:=pl;show#[o,e,hd]
  .show#[#[o,I.kIn p o hk,hc],λa e=>?_]
   cases e;show#[o,I.kIn _ o hk,hd]
  .have z:∃ o,s.heap.get? p=!o/\o.ExactDict:=by
    rcases hk with⟨kvs,hk⟩|⟨kvs,hk⟩
    .let⟨_,_,_,_,o,_,_,e,ex,_⟩:=I.hok p _ hk;show#[o,e,ex]
    let⟨_,_,_,_,o,_,_,e,ex,_⟩:=I.hok p _ hk;show#[o,e,ex]
   let⟨o,e,ex⟩:=z;show#[#[o,e,ex.1],λa e2=>?_]
   cases e2;show#[o,e,ex.2.1]
  let⟨o,_,_,_,e,ex,_⟩:=I.hok p _ hk;show#[#[o,e,ex.1],λa e2=>?_]
  cases e2;show#[o,e,ex.2.1]
 | _=>show False.elim ty
def tBM(K:Frag)(T:String)(r:V->List V->Hp->VK->Prop)(to:TE)(t:TA):TE:=λσ H Q=>to σ H λx H1=>tyV K T x H1/\t σ H1 λxs H2=>r x xs H2 Q
variable{o e:Expr}{es:List Expr}{to:TE}{t:TA}{name:Str}{apos cpos:Pos}{T id:String}{r:V->List V->Hp->VK->Prop}
def wL(Z:PlainAttrs T)(slot:Slot T name id)(Y:typeOf (.builtin id)=pure (.type "method_descriptor"))(hm:MtR X id r)(ho:PE X o to)(ha:PA X (e::es) t)
  (B:(attributeBase o name X.env (eval o X.env)=eval o X.env)["r"])
  (U:(((backTo cpos (sE (e::es) X.env)).all (λx=>not x.1)&&(backToKw cpos (keywordEach [] X.env)).all (λx=>x.1.isSome)
   && decide ((e::es)[1]+([]:List Keyword)[1]+(if ([]:List Keyword).isEmpty then 0 else 1)<30))=true)["r"])
  (O:((apos.endLine==cpos.line)=true)["r"]) (hs:(sE (e::es) X.env=(false,eval e X.env)::sE es X.env)["r"]) (z:((backTo cpos (sE es X.env)).any (·.1)=false)["r"]) :
  PE X (.Call (.Attribute o name apos) (e::es) [] cpos) (tBM X.K T r to t):=by
 intro pins s σ H Q I h;show wpAny_Call_method_late B U O rfl (thn (ho pins s σ H _ I h) λv s1 #[x,H1,I1,r1,ty,q1]=>?_)
 let⟨h1,h2⟩:=Tp I1 r1 ty;show#[T,id,Z,slot,Y,h1,h2,?_];have hA:=ha cpos pins s1 σ H1 _ I1 q1;rw[hs]at hA ⊢;show cR (by show(false||(backTo cpos (sE es X.env)).any (·.1))=false;rw[z]<;>rfl) (d8 ?_)
 show thn hA λus s2 #[vs,H2,I2,r2,q2]=>hm pins s2 σ H2 x vs v us Q I2 r1 r2 q2
end
def MtM(X:Cx)(id:String)(r:V->List V->Hp->VK->Prop):Prop :=
 ∀(pins:List (Addr×Obj)) (s:ab) (σ:St) (H:Hp) (x:V) (xs:List V) (v:aa) (us:List aa) (Q:VK),"I" H s->RelV x v->Vals xs us->r x xs H Q ->
  X[3] (call (.builtin id) (v::us)) (EP X pins σ Q) X.xe s
theorem Vals.one:∀{x} {us},Vals [x] us->∃ u,us=[u]/\RelV x u
 | _,_,.cons r .nil=>#[_,rfl,r]
theorem Vals.two:∀{x y} {us},Vals [x,y] us->∃ u v,us=[u,v]/\RelV x u/\RelV y v
 | _,_,_,.cons r (.cons q .nil)=>#[_,_,rfl,r,q]
def Vals.reverse(h:Vals xs us):Vals xs.reverse us.reverse:=by
 induction h with
 | nil=>show .nil
 | cons r t ih=>rw[bW,bW];show Vals.append ih (.cons r .nil)
def Vals.rep(h:Vals xs us):∀ k:Nat,Vals (List.replicate k xs).flatten (List.replicate k us).flatten:=λk=>k.recAux
 (.nil)
 λk IH=>by
  rw[pO,pO,tQ,tQ];show Vals.append h (IH)
section
variable{X:Cx}{pins:List (Addr×Obj)}{σ:St}{H:Hp}{s:ab}{l b:Addr}{xs ys zs:List V}
def Inv.lset{its its':List aa}{n:Nat}{f:Array aa->Array aa}{t':Nat}(I:"I" H s)(z:H l=!(.lst xs))
  (e:s.heap.get? l=some {cls:=.type "list",data:=.seq its.toArray n})(B:f its.toArray=its'.toArray)(O:Vals ys its')(hz:ys[1]<=sizeLine) :
  "I" (upd H l (.lst ys)) {s with heap:=s.heap.update l (Obj.mapSeq f),toks:=t'}:=by
 have q:=PySem.IsL.update e f;rw[B]at q;show I.write (x:=l) (e:=l) (by rw[z];show trivial) (.inl rfl) (λb' u hb hu=>(tT s.heap (Obj.mapSeq f) (tu hb)).trans hu) #[_,q] ?_
 show#[hz,its',_,O,q]
def Inv.lstM(I:"I" H s)(B:H l=!(.lst xs)):xs[1]<=sizeLine/\∃ its n,Vals xs its/\xs[1]=its[1]/\s.heap.get? l=some {cls:=.type "list",data:=.seq its.toArray n}:=by
 let⟨z,its,n,r,e⟩:=I.hok l _ B;show#[z,its,n,r,r[1],e]
def Tq(h:n<=sizeLine):Builtin.List.listTooLong n=false:=by
 delta Builtin.List.listTooLong
 show tm ""
end
section
variable{X:Cx}
def Ts:V->List V->Hp->VK->Prop:=λx vs H Q=>∃ l xs y,x=.ref l/\vs=[y]/\H l=!(.lst xs)/\xs[1]<sizeLine/\Q .non (upd H l (.lst (xs++[y])))
def xX:MtM X "list.append" Ts:=by
 intro pins s σ H x vs v us Q I rx rv h;let⟨l,xs,y,rfl,rfl,hH,hz,q⟩:=h;cases rx;let⟨u,rfl,ru⟩:=rv.one;let⟨z,its,n,r,hl,e⟩:=I.lstM hH;show bX F.slot_list_append #[_,e,rfl] F.entry_list_append (F.args_list_append_2 _ _) (PySem.list_append l its.toArray n u (by rw[gU];lia)) #[e,?_]
 show#[.non,_,I.lset (its':=its++[u]) hH e "s" (r.append (.cons ru .nil)) ?_,rfl,q]
 rw[gD,fm];lia
def Tt:V->List V->Hp->VK->Prop:=λx vs H Q=>∃ l b xs zs,x=.ref l/\vs=[.ref b]/\H l=!(.lst xs)/\H b=!(.lst zs)/\xs[1]+zs[1]<=sizeLine/\Q .non (upd H l (.lst (xs++zs)))
def Tu:MtM X "list.extend" Tt:=by
 intro pins s σ H x vs v us Q I rx rv h;let⟨l,b,xs,zs,rfl,rfl,hH,hB,hz,q⟩:=h;cases rx;let⟨u,rfl,ru⟩:=rv.one;cases ru;let⟨z,its,n,r,hl,e⟩:=I.lstM hH;let⟨z2,B,n2,r2,U,e2⟩:=I.lstM hB;have hsz:its.toArray.size+B.toArray.size<=sizeLine:=by rw[gU,gU];lia
 have O:¬ (not its.toArray.isEmpty&&Builtin.List.listTooLong (its.toArray.size+B.toArray.size))=true:=by
  rw[Tq hsz,Bool.and_false];show fY
 show bX F.slot_list_extend #[_,e,rfl] F.entry_list_extend (F.args_list_extend_2 _ _)
  (AutoSeq1.list_extend_list_list_0 l its.toArray n b B.toArray n2 O (by rw[gU];lia) "") #[e,e2,?_]
 show#[.non,_,I.lset (its':=its++B) hH e "s" (r.append r2) ?_,rfl,q]
 rw[gD]
 omega
end
section
variable{prog:af}{w:World}{A:ag}{E:aa->ab->Prop}{s:ab}
set_option maxRecDepth 100000 in
end
section
variable{X:Cx}
end
section
variable{κ:Type} [DecidableEq κ]
def js(kvs:List (κ×V))(k:κ):Option V:=(kvs.find? λkv=>decide (kv.1=k)).map (·.2)
def jO(kvs:List (κ×V))(k:κ)(v:V):List (κ×V) :=
 if (kvs.any λkv=>decide (kv.1=k))=true then kvs.map (λkv=>if kv.1=k then(kv.1,v)else kv)else kvs++[(k,v)]
def xY{p:κ×V}{k:κ}(e:p.1=k):js (p::r) k=!p.2:=by simp[js,pP,e]
def xZ{p:κ×V}{k:κ}(e:¬ p.1=k):js (p::r) k=js r k:=by simp[js,pP,e]
def Y0(k:κ):∀ kvs:List (κ×V),(kvs.any λkv=>decide (kv.1=k))=(js kvs k).isSome:=λr=>r.rec
 (rfl)
 λp r IH=>by
  rw[bv];by_cases e:p.1=k
  .simp only[xY e,tJ e,Bool.true_or,Option.isSome_some]
  rw[xZ e,tm e,Bool.false_or];show IH
def Ze(kvs)(k:κ)(v):(jO kvs k v)[1]<=kvs[1]+1:=by
 delta jO
 split
 .rw[g6];lia
 rw[gD,gJ,fS];lia
def Tv{k:κ}(v)(h:js kvs k=none):jO kvs k v=kvs++[(k,v)]:=by
 delta jO
 rw[Y0,h];show iN "d"
def RelO.isSome_eq(r:RelO o u):o.isSome=u.isSome:=by
 cases o with
 | none=>cases u with
  | none=>rfl
  | some _=>show(show False from r).elim
 | some _=>cases u with
  | none=>show(show False from r).elim
  | some _=>rfl
def RelO.getD{o:Option V}{u:Option aa}(r:RelO o u)(z:RelV d d'):RelV (o.getD d) (u.getD d'):=by
 cases o with
 | none=>cases u with
  | none=>show z
  | some _=>show(show False from r).elim
 | some _=>cases u with
  | none=>show(show False from r).elim
  | some _=>show r
def KV.val(r:KV kvs vs)(k:κ):RelO (js kvs k) (valueAt vs k):=by
 delta KV at r
 induction r with
 | nil=>show True.intro
 | @cons p q ps qs h t ih =>
  let⟨h1,h2⟩:=h;by_cases e:p.1=k
  .have e':q.1=k:=h1.symm.trans e;have b:valueAt (q::qs) k=!q.2:=by simp[valueAt,pP,e']
   rw[xY e,b];show h2
  have e':¬ q.1=k:=λz=>e (h1.trans z)
  have b:valueAt (q::qs) k=valueAt qs k:=by simp[valueAt,pP,e']
  rw[xZ e,b];show ih
def KV.any(r:KV kvs vs)(k:κ):(kvs.any λkv=>decide (kv.1=k))=vs.any λkv=>decide (kv.1=k):=by
 delta KV at r
 induction r with
 | nil=>rfl
 | cons h t ih=>rw[bv,bv,ih,h.1]
def KV.repl{kvs:List (κ×V)}{vs:List (κ×aa)}(r:KV kvs vs)(k)(B:RelV y u) :
  KV (kvs.map λkv=>if kv.1=k then(kv.1,y)else kv) (vs.map λkv=>if kv.1=k then(kv.1,u)else kv):=by
 delta KV at r ⊢
 induction r with
 | nil=>show .nil
 | @cons p q ps qs h t ih =>
  rw[gP,gP];show .cons ?_ ih;let⟨h1,h2⟩:=h;by_cases e:p.1=k
  .rw[iP e,iP (h1.symm.trans e)];show#[h1,B]
  rw[iN e,iN λz=>e (h1.trans z)];show#[h1,h2]
def KV.put(r:KV kvs vs)(k:κ)(z:RelV y u):KV (jO kvs k y) (stored vs k u):=by
 delta jO stored
 rw[r.any k];by_cases e:(vs.any λkv=>decide (kv.1=k))=true
 .rw[iP e,iP e];show r.repl k z
 rw[iN e,iN e];show Paired.snoc r #[rfl,z]
def KV.keys{vs:List (κ×aa)}(r:KV kvs vs):kvs.map (·.1)=vs.map (·.1):=by
 delta KV at r
 induction r with
 | nil=>rfl
 | cons h t ih=>rw[gP,gP,ih,h.1]
def KV.length{vs:List (κ×aa)}(r:KV kvs vs):kvs[1]=vs[1]:=dF r
end
def ku(r:RelV (kV k) u):(jj P w).is k u=true:=by
 cases k with
 | inl i=>let⟨t,e⟩:=(show ∃ t,u=Value.int i t from r);subst e;show WB P w i t
 | inr x=>let⟨t,e⟩:=(show ∃ t,u=Value.str x t from r);subst e;show WC P w x t
theorem Zf:∀{ks} {us},Vals (ks.map kV) us->ItemsAre (jj P w) ks us
 | [],_,r=>by rw[pW]at r;cases r;show .nil
 | k::ks,_,r=>by
  rw[gP]at r;cases r with
  | cons h t=>show .cons (ku h) (Zf t)
abbrev KT(H:Hp):List (List Key×V)->List (List Key×Addr×aa)->Prop:=Paired λp q=>p.1=q.1/\H q.2.1=!(.tup (p.1.map kV))/\RelV p.2 q.2.2
def KT.val(r:KT H kvs xs)(k):RelO (js kvs k) ((atKey xs k).map (·.2)):=by
 induction r with
 | nil=>show True.intro
 | @cons p q ps qs h t ih =>
  let⟨h1,_,h2⟩:=h;by_cases e:p.1=k
  .have e':q.1=k:=h1.symm.trans e;have b:atKey (q::qs) k=!q.2:=by simp[atKey,pP,e']
   rw[xY e,b];show h2
  have e':¬ q.1=k:=λz=>e (h1.trans z)
  have b:atKey (q::qs) k=atKey qs k:=by simp[atKey,pP,e']
  rw[xZ e,b];show ih
def KT.repl{kvs:List (List Key×V)}{xs:List (List Key×Addr×aa)}(r:KT H kvs xs)(k)(B:RelV y u) :
  KT H (kvs.map λkv=>if kv.1=k then(kv.1,y)else kv) (xs.map (putAt k u)):=by
 induction r with
 | nil=>show .nil
 | @cons p q ps qs h t ih =>
  rw[gP,gP];show .cons ?_ ih;let⟨h1,h2,h3⟩:=h
  delta putAt
  by_cases e:p.1=k
  .rw[iP e,iP (h1.symm.trans e)];show#[h1,h2,B]
  rw[iN e,iN λz=>e (h1.trans z)];show#[h1,h2,h3]
def KT.put{H:Hp}(r:KT H kvs xs)(k)(B:H b=!(.tup (k.map kV)))(z:RelV y u) :
  KT H (jO kvs k y) (storedH xs k b u):=by
 have e:(kvs.any λkv=>decide (kv.1=k))=(atKey xs k).isSome:=by
  rw[Y0,(r.val k).isSome_eq,Option.isSome_map]
 delta jO storedH
 rw[e];by_cases q:(atKey xs k).isSome=true
 .rw[iP q,iP q];show r.repl k z
 rw[iN q,iN q];show Paired.snoc r #[rfl,B,z]
def KT.keeps{H H':Hp}(r:KT H kvs xs)(B:∀ b ys,H b=!(.tup ys)->H' b=!(.tup ys)):KT H' kvs xs :=
 Paired.mapP r λ_ _ z=>#[z.1,B _ _ z.2.1,z.2.2]
section
variable{P:af}{w:World}{H:Hp}{h:Heap}{a:Addr}
def Y1(ok:HOk P w H h)(e:Rd H a u):ObjOk P w H h a u:=e.ok ok
def Qv(z:HOk P w H h)(e:Rd H a (.dK kvs)):kvs[1]<=sizeLine/\(a==sysModules)=false/\∃ vs,KV kvs vs/\h.DictOf (jj P w) a vs :=
 show ObjOk P w H h a (.dK kvs)from Y1 z e
def Tw(z:HOk P w H h)(e:H a=!(.dK kvs)):kvs[1]<=sizeLine/\(a==sysModules)=false/\∃ vs,KV kvs vs/\h.DictOf (jj P w) a vs:=Qv z (.inl e)
def Qw(z:HOk P w H h)(e:H a=!(.tup (ks.map kV))):(tupleKind (jj P w)).is h ks a:=by
 let⟨_,its,r,o,h1,h2,n,h3⟩:=(show ObjOk P w H h a (.tup (ks.map kV))from z a _ e)
 show#[o,its.toArray,n,h1,h2,h3,by simpa using Zf r]
def Qx(O:HOk P w H h)(e:Rd H a (.dT kvs)):kvs[1]<=sizeLine/\(a==sysModules)=false /\
  ∃ xs,KT H kvs xs/\h.DictOfH (tupleKind (jj P w)) a xs:=by
 let⟨z,y,xs,r,o,es,ep,h1,h2,h3,h4,h5⟩:=(show ObjOk P w H h a (.dT kvs)from Y1 O e)
 show#[z,y,xs,r,o,es,ep,h1,h2,h3,h4,λx hx=>?_,h5]
 have B:∀{l:List (List Key×V)} {m:List (List Key×Addr×aa)},KT H l m->∀ x∈m,(tupleKind (jj P w)).is h x.1 x.2.1:=by
  intro l m q
  induction q with
  | nil=>intro x hx;show nomatch hx
  | @cons p q ps qs hq t ih =>
   intro x hx;rcases gw.mp hx with e|hx
   .subst e;show Qw O (by rw[<- hq.1];show hq.2.1)
   show ih x hx
 show B r x hx
def Y2(z:HOk P w H h)(e:H a=!(.dT kvs)):kvs[1]<=sizeLine/\(a==sysModules)=false /\
  ∃ xs,KT H kvs xs/\h.DictOfH (tupleKind (jj P w)) a xs:=Qx z (.inl e)
end
def DGet(H:Hp)(a:Addr)(y:V)(r:Option V):Prop :=
 (∃ kvs k,Rd H a (.dK kvs)/\y=kV k/\r=js kvs k)\/∃ kvs k b,Rd H a (.dT kvs)/\y=.ref b/\H b=!(.tup (k.map kV))/\r=js kvs k
def DPut(H:Hp)(a:Addr)(y v:V)(H':Hp):Prop :=
 (∃ kvs k,H a=!(.dK kvs)/\y=kV k/\kvs[1]<sizeLine/\H'=upd H a (.dK (jO kvs k v))) \/
 ∃ kvs k b,H a=!(.dT kvs)/\y=.ref b/\H b=!(.tup (k.map kV))/\kvs[1]<sizeLine/\H'=upd H a (.dT (jO kvs k v))
def DGet.t{H:Hp}{k:List Key}(e:H a=!(.dT kvs))(z:H b=!(.tup (k.map kV))):DGet H a (.ref b) (js kvs k):=.inr #[kvs,k,b,.inl e,rfl,z,rfl]
theorem DPut.k{k:Key}{v:V}(e:H a=!(.dK kvs))(z:kvs[1]<sizeLine):DPut H a (kV k) v (upd H a (.dK (jO kvs k v))):=.inl #[kvs,k,e,rfl,z,rfl]
def DPut.t{H:Hp}{kvs:List (List Key×V)}{k:List Key}(e:H a=!(.dT kvs))(z:H b=!(.tup (k.map kV)))(B:kvs[1]<sizeLine) :
  DPut H a (.ref b) v (upd H a (.dT (jO kvs k v))):=.inr #[kvs,k,b,e,rfl,z,B,rfl]
section
variable{X:Cx}{pins:List (Addr×Obj)}{σ:St}{H:Hp}{s:ab}{a:Addr}{y v:V}{u r:aa}{o:Option V}{A:ag}{E:aa->ab->Prop}
def Inv.big(I:"I" H s):sysModules<s[0]:=by
 have h:mainGlobals<s[0]:=(I.mod.glob.keeps I.bk).lt;show bJ "d" h
def Zg{h':Heap}{t':Nat}(I:"I" H s)(O:Mut (H a))(U:Heap.SameBut a s.heap h')(Y:∃ q,h'.get? a=!q)(B:ObjOk X.prog X.w (upd H a ob) h' a ob) :
  "I" (upd H a ob) {s with heap:=h',toks:=t'} :=
 I.write (x:=a) (e:=a) O (.inl rfl) (λb q hb z=>(U.2 b hb).trans z) Y B
def Tx{kvs:List (Key×V)}(z:kvs[1]<=sizeLine)(hd:(a==sysModules)=false)(B:KV kvs vs)(dd:h'.DictOf (jj P w) a vs) :
  ObjOk P w H' h' a (.dK kvs):=#[z,hd,vs,B,dd]
def Tz(Z:A.units+1<cLine)(I:"I" H s)(g:DPut H a y v H')(U:RelV y u)(Y:RelV v r)(h:∀ s',"I" H' s'->Q () s') :
  wpAny (model X.prog X.w) A (setItem (.ref a) u r) Q E s:=by
 rcases g with⟨kvs,k,e,ey,l,eH⟩|⟨kvs,k,b,e,ey,eb,l,eH⟩
 .subst ey eH;let⟨z,hd,vs,B,dd⟩:=Tw I.hok e;have hz:vs[1]<=sizeLine:=by rw[<- B[1]];show z
  have hl:(jO kvs k v)[1]<=sizeLine:=by have:=Ze kvs k v;lia
  show wpAny_setItem_pairs (hsz:=hz) (ku U) dd λh' O hs=>h _ ?_
  have he:∃ q,h'.get? a=!q:=let #[q,_,_,hq,_]:=O;#[q,hq]
  show Zg I (by rw[e];show True.intro) hs he (Tx hl hd (B.put k Y) O)
 subst ey eH;cases (show u=Value.ref b from U)
 let⟨z,hd,xs,B,dd⟩:=Y2 I.hok e;have hz:xs[1]<=sizeLine:=by rw[<- dF B];show z
 have hl:(jO kvs k v)[1]<=sizeLine:=by have:=Ze kvs k v;lia
 show wpAny_setItem_heap (hsz:=hz) (dH Z) (Qw I.hok eb) dd λh' O hs=>h _ ?_
 let⟨q,es,ep,hq,h2,h3,h4,_,h5⟩:=O;show Zg I (by rw[e];show True.intro) hs #[q,hq] #[hl,hd,_,(B.put k eb Y).keeps λc ys ec=>?_,q,es,ep,hq,h2,h3,h4,h5]
 rw[qu (WD ec e λz=>nomatch z)]
 show ec
variable{kvs:List (Key×V)}{k:Key}
end
def TC(td ty tv:TE):TS:=λD σ H=>tv σ H λv H1=>td σ H1 λx H2=>ty σ H2 λy H3=>∃ a H4,x=.ref a/\DPut H3 a y v H4/\D.nx σ H4
section
variable{X:Cx}{o i e value:Expr}{pos pos' tpos:Pos}{td ty tv:TE}
def Zh(z:X.A.units+1<cLine)(B:PE X o td)(hi:PE X i ty)(O:PE X value tv)(U:swapsWith value (!(.Subscript o i pos')) pos.line X.env=pure false) :
  PS X (.Assign [.Subscript o i pos'] value pos) (TC td ty tv):=by
 intro pins s σ H D I h;show wpAny_Assign_Subscript (thn (O pins s σ H _ I h) λr s1 #[v,H1,I1,rv,q1]=>thn (B pins s1 σ H1 _ I1 q1) λu s2 #[x,H2,I2,rx,q2]=>thn (hi pins s2 σ H2 _ I2 q2) λiv s3 #[y,H3,I3,ry,a,H4,ex,g,q3]=>?_) U
 subst ex;obtain rfl:u=Value.ref a:=rx;show Tz z I3 g ry rv λs4 I4=>#[σ,H4,I4,q3]
end
def TD(h:Heap)(z:sysModules<h.objs.size):ObjOk P w H (h.push {cls:=.type "dict",data:=.dict #[]}) h.objs.size (.dK []) :=
 #[tP _,pp.mpr (tu (t8 z)),[],.nil,Heap.DictOf.new h]
def TH(h:Heap)(z:sysModules<h.objs.size):ObjOk P w H (h.push {cls:=.type "dict",data:=.dict #[]}) h.objs.size (.dT []) :=
 #[tP _,pp.mpr (tu (t8 z)),[],.nil,_,#[],0,gM _ rfl,#[rfl,rfl,rfl],rfl,rfl,bR]
def TJ:TE:=λ_ H Q=>∀ p,H p=none->Q (.ref p) (upd H p (.dK []))
def TK:TE:=λ_ H Q=>∀ p,H p=none->Q (.ref p) (upd H p (.dT []))
section
variable{X:Cx}{pos:Pos}
def TM:PE X (.Dict [] [] pos) TJ:=λpins s σ H Q I h =>
 wpAny_Dict_empty #[.ref s[0],_,I.laid (a:=s[0]) (o:=.dK []) (t':=s.toks) (λ_ _ q=>gu _ q) (gC _) (TD s.heap I.big),rfl,h _ (I.hok.fresh (gC _))]
def TN:PE X (.Dict [] [] pos) TK:=λpins s σ H Q I h =>
 wpAny_Dict_empty #[.ref s[0],_,I.laid (a:=s[0]) (o:=.dT []) (t':=s.toks) (λ_ _ q=>gu _ q) (gC _) (TH s.heap I.big),rfl,h _ (I.hok.fresh (gC _))]
end
structure M1(X:Cx)(o:Expr)(m:Str)(apos:Pos)(e:Expr)(cpos:Pos):Prop where
 base:attributeBase o m X.env (eval o X.env)=eval o X.env
 few:((backTo cpos (sE [e] X.env)).all (λx=>not x.1)&&(backToKw cpos (keywordEach [] X.env)).all (λx=>x.1.isSome)
  && decide (([e]:List Expr)[1]+([]:List Keyword)[1]+(if ([]:List Keyword).isEmpty then 0 else 1)<30))=true
 line:(apos.endLine==cpos.line)=true
 trees:backTo cpos (sE [e] X.env)=[(false,eval e X.env)]
structure M2(X:Cx)(o:Expr)(m:Str)(apos:Pos)(e f:Expr)(cpos:Pos):Prop where
 base:attributeBase o m X.env (eval o X.env)=eval o X.env
 few:((backTo cpos (sE [e,f] X.env)).all (λx=>not x.1)&&(backToKw cpos (keywordEach [] X.env)).all (λx=>x.1.isSome)
  && decide (([e,f]:List Expr)[1]+([]:List Keyword)[1]+(if ([]:List Keyword).isEmpty then 0 else 1)<30))=true
 line:(apos.endLine==cpos.line)=true
 trees:backTo cpos (sE [e,f] X.env)=[(false,eval e X.env),(false,eval f X.env)]
def IsD(H:Hp)(a:Addr):Prop:=(∃ kvs,Rd H a (.dK kvs))\/∃ kvs,Rd H a (.dT kvs)
def TQ{s:ab}(I:"I" H s)(d:IsD H a) :
  s.TypeIs (.ref a) "dict"/\(∀ b,Value.ref a=.ref b->∃ ob,s.heap.get? b=!ob/\ob.dict=none)/\(a==sysModules)=false:=by
 rcases d with⟨kvs,e⟩|⟨kvs,e⟩
 .let⟨_,hd,vs,_,dd⟩:=Qv I.hok e;show#[dd.typeIs,λb q=>?_,hd]
  cases q;let⟨ob,_,_,h1,h2,_⟩:=dd;show#[ob,h1,h2.2.1]
 let⟨_,hd,xs,_,dd⟩:=Qx I.hok e;show#[dd.typeIs,λb q=>?_,hd]
 cases q;let⟨ob,_,_,h1,h2,_⟩:=dd;show#[ob,h1,h2.2.1]
section
variable{X:Cx}{pins:List (Addr×Obj)}{σ:St}{H:Hp}{s:ab}{a:Addr}{y d:V}{u r:aa}{o:Option V}{A:ag}{E:aa->ab->Prop}
def TR(Y:A.units+1<cLine)(I:"I" H s)(g:DGet H a y o)(O:RelV y u)(U:RelV d r)(h:∀ w' s',"I" H s'->RelV (o.getD d) w'->Q w' s') :
  wpAny (model X.prog X.w) A (call (.builtin "dict.get") [.ref a,u,r]) Q E s:=by
 rcases g with⟨kvs,k,e,ey,l⟩|⟨kvs,k,b,e,ey,eb,l⟩
 .subst ey;let⟨z,hd,vs,B,dd⟩:=Qv I.hok e;show bg fX dd.typeIs cT (dI _ _ _) (meets_dict_get_default (jj X.prog X.w) a (ku O) hd r) #[_,dd.mapOf,h _ _ (I.tok _) ?_];rw[l];show(B.val k).getD U
 subst ey;cases (show u=Value.ref b from O)
 let⟨z,hd,xs,B,dd⟩:=Qx I.hok e;show bg fX dd.typeIs cT (dI _ _ _) (meetsH_dict_get_default (tupleKind (jj X.prog X.w)) a b hd r) #[dH Y,k,xs,Qw I.hok eb,dd,h _ _ (I.tok _) ?_];rw[l];show(B.val k).getD U
end
def TU(td ty tx:TE):TE:=λσ H Q=>td σ H λx H1=>∃ a,x=.ref a/\IsD H1 a/\ty σ H1 λy H2=>tx σ H2 λz H3=>∃ o,DGet H3 a y o/\Q (o.getD z) H3
section
variable{X:Cx}{o e f:Expr}{apos cpos:Pos}{td ty tx:TE}
def TV(O:X.A.units+1<cLine)(U:PE X o td)(Y:PE X e ty)(Z:PE X f tx)(m:M2 X o "get" apos e f cpos):PE X (.Call (.Attribute o "get" apos) [e,f] [] cpos) (TU td ty tx):=by
 intro pins s σ H Q I h;show bY m.base m.few m.line cH fX bi (thn (U pins s σ H _ I h) λu s1 #[x,H1,I1,rx,a,ex,d,q1]=>?_)
 subst ex;obtain rfl:u=Value.ref a:=rx;let⟨t1,t2,_⟩:=TQ I1 d;show#[t1,t2,?_];rw[m.trees];show cR rfl (d8 (hZ (thn (Y pins s1 σ H1 _ I1 q1) λiv s2 #[y,H2,I2,ry,q2] =>
  hZ (thn (Z pins s2 σ H2 _ I2 q2) λfv s3 #[z,H3,I3,rz,ov,g,q3]=>tM ?_))))
 show TR O I3 g ry rz λw' s4 I4 B=>#[_,H3,I4,B,q3]
variable{pins:List (Addr×Obj)}{σ:St}{H:Hp}{s:ab}{a:Addr}{kvs:List (Key×V)}{A:ag}{E:aa->ab->Prop}
variable{y:V}{u:aa}
end
end L2
namespace Att
open PySem PySem.W PySem.Calls PyProof.Rows
def TW:∀ ns vs,WellAll P h vs (ns.map WData.int)->IntsAre vs ns:=by
 intro ns
 induction ns with
 | nil =>
  intro vs w;rw[pW]at w;cases w;show .nil
 | cons n ns ih =>
  intro vs w;rw[gP]at w;cases w with
  | cons a b =>
   cases a;show .cons _ _ (ih _ b)
def TY{l:OpenLaw}{n:Nat}(Y:l.most=!n){h:Heap}
  (z:l.row.toRowW.claim.pre args=true)(O:WellAll P h vals args) :
  ∃ a vs ns,vals=[Value.ref a]/\args=[WData.list (ns.map WData.int)]/\h.get? a=some {cls:=.type "list",data:=.seq vs.toArray}/\IntsAre vs ns/\ns[1]<=n:=by
 have U:WShape.hasAll [] args [.list .int]=true:=(pre_splitW z).1;have hc:l.pre.holds [] {args:=args}=true:=(pre_splitW z).2;let⟨d,r,rfl,h1,h2⟩:=hasAllW_cons U;obtain rfl:=hasAllW_nil h2;let⟨xs,rfl,h3⟩:=hasW_list h1;let⟨ns,rfl⟩:=items_int h3;have B:ns[1]<=n:=by
  delta OpenLaw.pre at hc
  have h4:(WTm.not (.lt (.lit (n:Int)[6]) (.len (.arg 0)))).holds [] {args:=[.list (ns.map .int)]}=true:=by
   have h4:=(holds_andW hc).1;rw[Y]at h4;show h4
  have h5:=condW_of h4 (w_not (w_lt w_lit (w_len_list (w_arg rfl))));rw[g6]at h5;show Nat.le_of_not_lt λq=>?_
  have q':(n:Int)<((ns[1]:Nat):Int):="o"
  first
   | (rw[tJ q']at h5;show absurd h5 "d")
   | (simp at h5;lia)
 cases O with
 | cons w1 w2 =>
  cases w2;cases w1 with
  | list ho hall=>show#[_,_,ns,rfl,rfl,ho,TW ns _ hall,B]
def TZ(l:OpenLaw)(args):l.row.toRowW.claim.post args (.bool true) args=true :=
 postW_of (r:=l.row.toRowW) (X:=(true==true))
  (show WShape.has [] (.bool true) .bool=true by first|rfl|decide|simp[WShape.has,WShape.arms,WShape.armsAll])
  (show(WTm.eq .res (.lit (.bool true))).value [] {args:=args,res:=!(.bool true),after:=args}=↑(.bool (true==true))from w_eq_bool (w_res rfl) w_lit) rfl
def attach_call{l:OpenLaw}{n:Nat}{XP:(Str->Option aa)->Heap->Prop}{YP:World->Heap->Prop}{d:DefRec}
  (hn:l.most=!n)(hdf:d.params.defaults=[])
  (call:∀ w s₀ z mg mb fa o pm cd B a vs ns,
   Ground q loose [] XP w s₀ mg mb z.heap->YP w z.heap ->
   z.heap.get? fa=!o->o.data=.func (docDef d.name d.params d.body d.scope pm cd B)->z.heap.CodeRec cd d.name->mg d.name=↑(.ref fa) ->
   z.heap.get? a=some {cls:=.type "list",data:=.seq vs.toArray}->IntsAre vs ns->ns[1]<=n->z.gens=#[] ->
   codeAny (model l.prog w) callerA (.call (.ref fa) #[[.ref a],[]]) (λr s'=>r=.ok (.ret (.bool true))/\OldK z.heap s'.heap/\s'.os=z.os/\AllBare s'.gens) z) :
  WalkO q loose XP YP l.row.toRowW d [] (λf vs=>PySem.call f vs):=by
 intro w s₀ z mg mb G Y fa o pm cd B dV kV ho hd hcd hD hmg hg args h6 as U h7 hrd hwl hlo;obtain rfl:dV=.none:=Dflts.none hD hdf;obtain rfl:kV=.none:=Dflts.noKw hD;let⟨a,vs,ns,rfl,rfl,Z,O,h5⟩:=TY hn U hwl;show enter_call (codeAny_mono (call w s₀ z mg mb fa o pm cd B a vs ns G Y ho (fd_plain hd) hcd hmg Z O h5 hg) λr s' hq=>?_)
 let⟨rfl,h2,h3,h4⟩:=hq;show#[.inl #[.bool true,.bool true,[],rfl,λ_=>rfl,.bool true,TZ l _,λ_=>#[List.Pairwise.nil,λ_ hm=>(nomatch hm)]],h2,h3,h4]
section
variable{prog:af}{w:World}{A:ag}{E:aa->ab->Prop}{s:ab}{K:Frag}
end
end Att
namespace L2
open PySem PySem.Spec PyProof.Rows
theorem Y3:∀{vs} {ns},IntsAre vs ns->Vals (ns.map V.int) vs
 | _,_,.nil=>.nil
 | _,_,.cons n t h=>.cons #[t,rfl] (Y3 h)
def Only(H:Hp):Prop:=∀ b,H b=none\/∃ o xs,H b=!(.frz o (.lst xs))
def qa0{K:Frag}{mg mb:Str->Option aa}{k:Nat}{sp:Sp}{B:ab}{vs:List aa}{ns:List Int}
  (KX:K.In B.heap)(hns:B.heap.Ns mainGlobals mg)(U:B.heap.Ns builtinsNs mb)(hbb:∀ x:Str,x≠"__name__"->mb x=bootBuiltins x)(h4:B.heap.NoLimit)(hg:B.gens=#[])
  (ha:B.heap.get? a=some {cls:=.type "list",data:=.seq vs.toArray})(hi:IntsAre vs ns)(hl:ns[1]<=sizeLine)(hr:Room k callerA)
  (F:∀ base,K.In base->base.Ns mainGlobals mg->FnOk P w K mg base CX k fa fd [x] sp)(h3:∀ s u,BindsTo s fd #[[u],[]] [(x,u)])
  (hsp:∀ H,Only H->SqL K H a (ns.map V.int)->sp [.ref a] H (λv _=>v=.bl true) λ_ _ _=>False)
  (hCX:∀ H e s',CX [] H B (λ_ _ _=>False) e s'->False) :
  codeAny (model P w) callerA (.call (.ref fa) #[[.ref a],[]]) (λr s'=>r=.ok (.ret (.bool true))/\OldK B.heap s'.heap/\s'.os=B.os/\AllBare s'.gens) B:=by
 have rv:=Y3 hi;have h5:=hi[1];have Z:∀ H:Hp,Only H->SqL K H a (ns.map V.int)->HOk P w H B.heap->(∀ b,H b≠none->b=a)->(H a≠none->K.lookup a=none) ->
   codeAny (model P w) callerA (.call (.ref fa) #[[.ref a],[]]) (λr s'=>r=.ok (.ret (.bool true))/\OldK B.heap s'.heap/\s'.os=B.os/\AllBare s'.gens) B:=by
  intro H hO hS hok hA hK;have O:∀{b:Addr} {o:Obj},B.heap.get? b=!o->H b=none->(wJ B.heap H).get? b=!o:=λe n=>MJ e n
  have noA:∀{b:Addr} {o:Obj} {es:Array DictEntry} {ep:Nat},B.heap.get? b=!o->o.data=.dict es ep->H b=none:=λ{b o es ep} e d=>by
   cases q:H b with
   | none=>rfl
   | some u =>
    have e':b=a:=hA b (by rw[q];simp)
    subst e';rw[ha]at e;cases e;have d':Data.seq vs.toArray _=Data.dict es ep:=d;cases d'
  have Y:∀{b:Addr} {m:Str->Option aa},B.heap.Ns b m->(wJ B.heap H).Ns b m:=λ{b m} #[o,es,ep,e,d,r]=>#[o,es,ep,O e (noA e d),d,r]
  have hKb:K.In (wJ B.heap H):=λb o e=>O (KX b o e) (by
   cases q:H b with
   | none=>rfl
   | some u =>
    have e':b=a:=hA b (by rw[q];simp)
    subst e';rw[hK (by rw[q];simp)]at e;cases e)
  have hM:Mod K mg (wJ B.heap H):=#[hKb,Y hns,#[mb,Y U,hbb],let #[mc,h1,h2]:=h4;#[mc,Y h1,h2]]
  have e0:Env0 P w K mg (wJ B.heap H) callerA [] B H:=#[rfl,hM,λb o e=>MK e,Nat.le_of_eq (MI _ _),trivial,λb U=>absurd (show b∈([]:List Addr)from U) "s",hok,.of_eq hg]
  show codeAny_mono ((F _ hKb (Y hns)).run callerA [] B H #[[.ref a],[]] [.ref a] [.ref a] _ _ hr e0 (h3 B (.ref a)) (.cons rfl .nil) (hsp H hO hS)) λr s' h=>?_
  cases r with
  | error e=>show(hCX H e s' h).elim
  | ok fl =>
   cases fl with
   | next=>show False.elim h
   | brk=>show False.elim h
   | cont=>show False.elim h
   | ret u =>
    let⟨v,H',os,h6,un,h7,r',q⟩:=h;have q':v=.bl true:=q;subst q';obtain rfl:u=Value.bool true:=r';show#[rfl,OldK.of_keep λb o e=>?_,os,h6]
    cases q:H b with
    | none=>show un.keep b o e q (by intro z;show absurd (show b∈([]:List Addr)from z) "s") "s"
    | some u =>
     rcases hO b with z|⟨ob,xs,z⟩
     .rw[q]at z;cases z
     have z2:=un.frzs b ob _ z;let⟨e1,_⟩:=hok b _ z;let⟨e2,_⟩:=h7 b _ z2;rw[e]at e1;cases e1;show e2
 cases hk:K.lookup a with
 | some o =>
  have e:=KX a o hk;rw[ha]at e;cases e;show Z (λ_=>none) (λ_=>.inl rfl) (.inr #[_,vs.toArray,_,hk,rfl,rfl,rfl,by rw[gU,h5];show hl,by simpa using rv]) (λb u z=>by have z':(none:Option HO)=!u:=z;cases z') (λb z=>absurd rfl z) λz=>absurd rfl z
 | none =>
  show Z (λb=>if b=a then !(.frz {cls:=.type "list",data:=.seq vs.toArray} (.lst (ns.map V.int)))else none) (λb=>?_) (.inl (.inr #[{cls:=.type "list",data:=.seq vs.toArray},iP rfl])) (λb u z=>?_) (λb z=>?_) λ_=>hk
  .by_cases U:b=a
   .show .inr #[_,_,iP U]
   show .inl (iN U)
  .by_cases U:b=a
   .have z':=(iP U).symm.trans z;cases z';subst U;show#[ha,by rw[g6];show hl,vs,_,rv,ha]
   have z':=(iN U).symm.trans z;cases z'
  by_cases U:b=a
  .show U
  show absurd (iN U) z
def qa1{l:PySem.W.OpenLaw}{n k:Nat}{XP:(Str->Option aa)->Heap->Prop}{YP:World->Heap->Prop}{d:DefRec}{K:Params->Frag}{CX:World->CXT}{sp:World->Sp}
  (hn:l.most=!n)(Z:n<=sizeLine)(hdf:d.params.defaults=[])(hr:Room k callerA)
  (hY:∀ w h,YP w h->(K w.params).In h)
  (F:∀ w mg fa h,(K w.params).In h->h.Ns mainGlobals mg->mg d.name=↑(.ref fa) ->
   ∃ fd,(∀ s u,BindsTo s fd #[[u],[]] [(x,u)]) /\
    ∀ base,(K w.params).In base->base.Ns mainGlobals mg->FnOk l.prog w (K w.params) mg base (CX w) k fa fd [x] (sp w))
  (hsp:∀ w H a (ns:List Int),ns[1]<=n->Only H->SqL (K w.params) H a (ns.map V.int)->sp w [.ref a] H (λv _=>v=.bl true) λ_ _ _=>False)
  (hCX:∀ w H s e s',CX w [] H s (λ_ _ _=>False) e s'->False) :
  PySem.W.WalkO q loose XP YP l.row.toRowW d [] (λf vs=>PySem.call f vs):=by
 show Att.attach_call hn hdf λw s₀ O mg mb fa o pm cd doc a vs ns G Y ho hd hcd hmg U B z hg=>?_
 have KX:=hY w _ Y;let⟨fd,hb,hF⟩:=F w mg fa _ KX G.T.g hmg;show qa0 KX G.T.g G.T.b G.T.builtins G.T.nolimit hg U B (tY z Z) hr hF hb (λH hO hS=>hsp w H a ns z hO hS) λH e s'=>hCX w H O e s'
def defArgs(s:Stmt):Arguments:=match s with
 | .FunctionDef _ a _ _ _ _ _ _ _ _=>a
 | _=>{posonlyargs:=[],args:=[],vararg:=none,kwonlyargs:=[],kw_defaults:=[],kwarg:=none,defaults:=[]}
def defBody(s:Stmt):List Stmt:=match s with
 | .FunctionDef _ _ b _ _ _ _ _ _ _=>b
 | _=>[]
def defScope(s:Stmt):Scope:=match s with
 | .FunctionDef _ _ _ _ _ _ sc _ _ _=>sc
 | _=>{kind:=.function,names:=[],isGenerator:=false,isCoroutine:=false}
abbrev CX0:CXT:=λ_ _ _ _ _ _=>False
abbrev E0:XK:=λ_ _ _=>False
def Y4:WP CX0 X E0:=λ_ _ _ _ _ _ _ h=>h.elim
structure Fun(K:Frag)(x qual:Str)(st:Stmt)(f:Addr)(fd:FuncData):Prop where
 ex:∃(oc:Value) (od:Option Addr) (kV doc pm:Value) (an:Option Addr) (cdv ct:Value) (osl:Array (Option Value)),
  fd=PySem.W.fnOf x qual (defArgs st) (defBody st) (defScope st) .none kV doc pm an cdv ct/\K.lookup f=↑#[oc,od,.func fd,osl]/\codeIn K cdv qual=true
 kp:keepIn K (.ref f)=true
section
variable{P:af}{w:World}{K:Frag}{mg:Str->Option aa}{base:Heap}
def Fun.ok{st:Stmt}{N ps:List Str}{k:Nat}{sp:Sp}(F:Fun K x qual st f fd)(S:FnScope N ps (defScope st))(len:∀ vs H Q E,sp vs H Q E->vs[1]=ps[1])
  (B:∀ z A outer s H vs Q E,Room k (A.deeper (envOfC qual (defScope st) s[0] f z))->sp vs H Q E ->
   ∃ t,PSs (cxOf CX0 P w K mg base N qual (defScope st) f z A outer s H E).nox (defBody st) t/\t {nx:=λ_ H'=>Q .non H',rt:=Q} (z9 N vs) H):FnOk P w K mg base CX0 (k+1) f fd ps sp:=by
 let⟨oc,od,kV,Y,pm,an,z,ct,Z,rfl,lk,U⟩:=F.ex;show GP lk U S len λA outer s H vs Q E hr O=>?_
 let⟨t,h,q⟩:=B z A outer s H vs Q E hr O;show#[t,h.nox,q]
def Fun.binds{st:Stmt}{ps:List Str}(F:Fun K x qual st f fd)
  (h:∀ kV z pm an B ct us,us[1]=ps[1]->bindArgs (PySem.W.fnOf x qual (defArgs st) (defBody st) (defScope st) .none kV z pm an B ct) #[us,[]]=pure (ps.zip us)):Binds K fd ps []:=by
 let⟨oc,od,kV,z,pm,an,B,ct,O,rfl,lk,U⟩:=F.ex;show .all (h kV z pm an B ct)
def Zi{st:Stmt}{f:Addr}{oc:aa}{od U:Option Addr}{O:Array (Option aa)}{Y B Z z ct:aa}(l:K.lookup f=↑#[oc,od,.func (PySem.W.fnOf x qual (defArgs st) (defBody st) (defScope st) .none Y B Z U z ct),O])
  (c:codeIn K z qual=true)(k:keepIn K (.ref f)=true):Fun K x qual st f (PySem.W.fnOf x qual (defArgs st) (defBody st) (defScope st) .none Y B Z U z ct):=#[#[oc,od,Y,B,Z,U,z,ct,O,rfl,l,c],k]
variable{X:Cx}
end
section
variable{κ:Type} [DecidableEq κ]
end
end L2
namespace L3
open PySem
inductive D where
 | non|bl (b:Bool)|int (i:Int)|str (x:Str)|tup (xs:List D)|lst (xs:List D)
 | dK (kvs:List (Sum Int Str×D))|dT (kvs:List (List (Sum Int Str)×D))|xc (cls:Str) (fs:List (Str×D))
 deriving Inhabited
inductive En where
 | fz (d:D)|ow (d:D)|br (d:D)|lk (d:D)|od (d:D)
 deriving Inhabited
@[reducible] def En.d:En->D
 | .fz d=>d|.ow d=>d|.br d=>d|.lk d=>d|.od _=>.xc "_" []
structure Xc where
 cls:Str
 fs:List (Str×D)
inductive R(α:Type)where
 | ok (a:α)|exc (x:Xc)|stuck
@[reducible] noncomputable def R.bind {α β:Type} (r:R α) (f:α->R β):R β:=match r with
 | .ok a=>f a|.exc x=>.exc x|.stuck=>.stuck
@[simp] theorem R.bind_ok {α β:Type} (a:α) (f:α->R β):(R.ok a).bind f=f a:=rfl
@[simp] theorem R.bind_exc {α β:Type} (x:Xc) (f:α->R β):(R.exc x:R α).bind f=.exc x:=rfl
@[simp] theorem R.bind_stuck {α β:Type} (f:α->R β):(R.stuck:R α).bind f=.stuck:=rfl
abbrev Rho:=List (Option En)
abbrev EF:=Rho->R En
abbrev TF:=Rho->R Bool
inductive Out where
 | nx (ρ:Rho)|rt (w:En)|bk (ρ:Rho)|ct (ρ:Rho)|exc (x:Xc)|stuck
abbrev SF:=Rho->Out
abbrev Den:=List En->R En
@[reducible] def En.st:En->R D
 | .fz d=>.ok d|.ow d=>.ok d|_=>.stuck
@[reducible] def En.arg:En->R En
 | .fz d=>.ok d[8]|.ow d=>.ok d[8]|.br d=>.ok (.br d)|.lk _=>.stuck|.od (.dK kds)=>.ok (.lst (kds.map Prod.snd))[8]|.od _=>.stuck
@[reducible] def En.nm:En->R En
 | .fz d=>.ok d[8]|.ow d=>.ok d[9]|_=>.stuck
def stAll:List En->R (List D)
 | []=>.ok []
 | x::r=>x.st.bind λd=>(stAll r).bind λds=>.ok (d::ds)
def jU:List En->R (List En)
 | []=>.ok []
 | x::r=>x.arg.bind λd=>(jU r).bind λds=>.ok (d::ds)
def q9(i:Nat):EF:=λρ=>match ρ[i]? with
 | some (!d[8])=>.ok d[8]
 | some (!d[9])=>.ok (.br d)
 | some (!(.br d))=>.ok (.br d)
 | some (!(.lk d))=>.ok d[8]
 | _=>.stuck
def eC(d:D):EF:=λ_=>.ok d[8]
def eOp(g:D->D->R En)(a b:EF):EF:=λρ=>(a ρ).bind λx=>(b ρ).bind λy=>g x.d y.d
def eUn(g:D->R En)(a:EF):EF:=λρ=>(a ρ).bind λx=>g x.d
def evs:List EF->Rho->R (List En)
 | [],_=>.ok []
 | a::r,ρ=>(a ρ).bind λx=>(evs r ρ).bind λxs=>.ok (x::xs)
def sz:Nat:=16777216
def qJ(a:List EF):EF:=λρ=>(evs a ρ).bind λxs=>(stAll xs).bind λds=>if ds[1]<=sz then .ok (.lst ds)[9]else .stuck
def jG(a:List EF):EF:=λρ=>(evs a ρ).bind λxs=>(stAll xs).bind λds=>if ds[1]<=sz then .ok (.tup ds)[8]else .stuck
def qi(z:Den)(a:List EF):EF:=λρ=>(evs a ρ).bind λxs=>(jU xs).bind λys=>z ys
def eB(g:List D->R En)(a:List EF):EF:=λρ=>(evs a ρ).bind λxs=>g (xs.map En.d)
@[reducible] def okI (i:Int):R En:=.ok i[7]
@[reducible] def okB (b:Bool):R En:=.ok (.bl b)[8]
def jc:D->D->R En
 | .int i,.int j=>okI (i-j)
 | _,_=>.stuck
def fits(b:Nat):Int->Bool
 | .ofNat n=>ble n b
 | .negSucc n=>ble n b
def fits_iff:fits b i=true↔-(b+1)<=i/\i<=b:=by
 cases i with
 | ofNat n =>
  show ble n b=true↔_;rw[ble_eq];lia
 | negSucc n =>
  show ble n b=true↔_;rw[ble_eq];lia
abbrev b64:Nat:=18446744073709551614
abbrev b62:Nat:=4611686018427387903
def b64e:(b64:Int)=18446744073709551614:=rfl
def b62e:(b62:Int)=4611686018427387903:=rfl
def zm:D->D->R En
 | .int i,.int j=>if (fits b64 i||fits b64 j)=true then okI (i*j)else .stuck
 | _,_=>.stuck
def vJ:D->D->R En
 | .int i,.int j=>if 0<j then okI (i%j)else .stuck
 | _,_=>.stuck
def vU:D->D->R En
 | .int i,.int j=>if 0<j/\j<1073741824 then okI (i/j)else .stuck
 | _,_=>.stuck
def dLt:D->D->R En
 | .int i,.int j=>okB (decide (i<j))
 | _,_=>.stuck
def dLe:D->D->R En
 | .int i,.int j=>okB (decide (i<=j))
 | _,_=>.stuck
def dGt:D->D->R En
 | .int i,.int j=>okB (decide (j<i))
 | _,_=>.stuck
def b2i(b:Bool):Int:=if b then 1 else 0
mutual
def deq:D->D->Bool
 | .non,.non=>true
 | .bl a,.bl b=>a==b
 | .bl a,.int b=>b2i a==b
 | .int a,.bl b=>a==b2i b
 | .int a,.int b=>a==b
 | .str a,.str b=>a==b
 | .tup a,.tup b=>deqs a b
 | .lst a,.lst b=>deqs a b
 | _,_=>false
def deqs:List D->List D->Bool
 | [],[]=>true
 | x::xs,y::ys=>deq x y&&deqs xs ys
 | _,_=>false
end
def qK:Nat->D->Bool
 | _,.non=>true|_,.bl _=>true|_,.int _=>true|_,.str x=>PyData.strOk x
 | n+1,.tup a=>a.all (qK n)
 | n+1,.lst a=>a.all (qK n)
 | _,_=>false
def eqok(d:D):Bool:=qK 8 d
def dEq(a b:D):R En:=if eqok a&&eqok b then okB (deq a b)else .stuck
def dNe(a b:D):R En:=if eqok a&&eqok b then okB (not (deq a b))else .stuck
def din(x:D)(ys:List D):Bool:=ys.any λy=>deq y x
def ixn(n:Nat)(i:Int):Option Nat:=if 0<=i then(if i<n then !i.toNat else none)else if -(n:Int)<=i then !(i+n).toNat else none
def ati{α:Type}(xs:List α)(i:Int):Option α:=(ixn xs[1] i).bind λj=>xs[j]?
def zC:D->Option (Sum Int Str)
 | .int i=>!(.inl i)
 | .str x=>!(.inr x)
 | _=>none
def jP:List D->Option (List (Sum Int Str))
 | []=>↑[]
 | x::r=>(zC x).bind λk=>(jP r).map λks=>k::ks
def look{κ:Type} [DecidableEq κ](k:κ):List (κ×D)->Option D
 | []=>none
 | (x,d)::r=>if x=k then !d else look k r
def okD (o:Option D):R En:=match o with
 | some d=>.ok d[8]
 | none=>.stuck
def Qy:List D->R En
 | [.lst xs]=>.ok (.lst xs)[9]
 | [.tup xs]=>.ok (.lst xs)[9]
 | _=>.stuck
def yA:List D->R En
 | [.lst xs]=>.ok (.tup xs)[8]
 | [.tup xs]=>.ok (.tup xs)[8]
 | _=>.stuck
def u8:List D->R En
 | [.int i,.int j]=>okI (if j<i then j else i)
 | _=>.stuck
inductive Ty|int|bool|str|list|tuple|dict
def tyIs:D->Ty->Bool
 | .int _,.int=>true|.bl _,.int=>true|.bl _,.bool=>true|.str _,.str=>true
 | .lst _,.list=>true|.tup _,.tuple=>true|.dK _,.dict=>true|.dT _,.dict=>true
 | _,_=>false
def dIs(t:Ty):D->R En
 | .xc _ _=>.stuck
 | d=>okB (tyIs d t)
def kC:D->R Bool
 | .non=>.ok false|.bl b=>.ok b|.int i=>.ok (i != 0)|.str x=>if x[1]<=sz then .ok ((x[1]:Int) != 0)else .stuck
 | .lst xs=>.ok (not xs.isEmpty)|.tup xs=>.ok (not xs.isEmpty)|_=>.stuck
def tE(e:EF):TF:=λρ=>(e ρ).bind λx=>kC x.d
def za(t:TF):TF:=λρ=>(t ρ).bind λb=>.ok (not b)
def zV(t u:TF):TF:=λρ=>(t ρ).bind λb=>if b=true then u ρ else .ok false
def tOr(t u:TF):TF:=λρ=>(t ρ).bind λb=>if b=true then .ok true else u ρ
def isB:D->R Bool
 | .bl b=>.ok b
 | _=>.stuck
def Y5(e:EF):EF:=λρ=>(e ρ).bind λx=>(isB x.d).bind λb=>okB (not b)
def yB(a b:EF):EF:=λρ=>(a ρ).bind λx=>(isB x.d).bind λc=>if c=true then b ρ else okB false
def eIf(t:TF)(a b:EF):EF:=λρ=>(t ρ).bind λc=>if c=true then a ρ else b ρ
def qw:SF:=λρ=>.nx ρ
def qg(a b:SF):SF:=λρ=>match a ρ with
 | .nx ρ'=>b ρ'
 | o=>o
def sOf (r:R α) (k:α->Out):Out:=match r with
 | .ok a=>k a|.exc _=>.stuck|.stuck=>.stuck
def qk(i:Nat)(e:EF):SF:=λρ=>sOf ((e ρ).bind En.nm) λw=>.nx (ρ.set i !w)
def qt(e:EF):SF:=λρ=>sOf ((e ρ).bind En.nm) .rt
def jA(i:Nat):SF:=λρ=>match ρ[i]? with
 | some (!d[8])=>.rt d[8]
 | some (!d[9])=>.rt d[9]
 | _=>.stuck
def sIf(t:TF)(a b:SF):SF:=λρ=>sOf (t ρ) λc=>if c=true then a ρ else b ρ
def yC:SF:=λρ=>.bk ρ
def u9(e:EF):SF:=λρ=>sOf (e ρ) λ_=>.nx ρ
def zb(i:Nat)(g:D->D->R En)(e:EF):SF:=λρ=>match ρ[i]? with
 | some (!x[8])=>sOf ((e ρ).bind λy=>(g x y.d).bind En.nm) λw=>.nx (ρ.set i !w)
 | _=>.stuck
def qC(i:Nat)(e:EF):SF:=λρ=>match ρ[i]? with
 | some (!(.lst xs)[9])=>sOf ((e ρ).bind En.st) λd=>if xs[1]<sz then .nx (ρ.set i (!(.lst (xs++[d]))[9]))else .stuck
 | _=>.stuck
def frz(i:Nat)(ρ:Rho):Rho:=match ρ[i]? with
 | some (!d[9])=>ρ.set i (!d[8])
 | _=>ρ
def jJ(i:Nat)(s:SF):SF:=λρ=>s (frz i ρ)
abbrev GF:=D->Rho->R Rho
def gV(i:Nat):GF:=λd ρ=>.ok (ρ.set i (!d[8]))
def gVs:List Nat->List D->Rho->R Rho
 | [],[],ρ=>.ok ρ
 | i::is,d::ds,ρ=>gVs is ds (ρ.set i (!d[8]))
 | _,_,_=>.stuck
def gT(is:List Nat):GF:=λd ρ=>match d with
 | .tup ds=>gVs is ds ρ
 | _=>.stuck
def qH (g:GF) (b:SF):List D->Rho->Out
 | [],ρ=>.nx ρ
 | x::xs,ρ=>match g x ρ with
  | .ok ρ1=>(match b ρ1 with
   | .nx ρ2=>qH g b xs ρ2
   | .ct ρ2=>qH g b xs ρ2
   | .bk ρ2=>.nx ρ2
   | o=>o)
  | .exc _=>.stuck
  | .stuck=>.stuck
def items:D->R (List D)
 | .lst xs=>.ok xs
 | .tup xs=>.ok xs
 | .dK kvs=>.ok (kvs.map λp=>match p.1 with|.inl i=>.int i|.inr x=>.str x)
 | _=>.stuck
abbrev IF:=Rho->R (List D)
def ua:D->R (List D)
 | .lst xs=>.ok xs
 | .tup xs=>.ok xs
 | _=>.stuck
def iV(i:Nat):IF:=λρ=>match ρ[i]? with
 | some (!d[8])=>ua d
 | some (!(.br d))=>ua d
 | _=>.stuck
def iVc(i:Nat):IF:=λρ=>match ρ[i]? with
 | some (!(.od _))=>.stuck
 | some (!(.lk _))=>.stuck
 | some !w=>ua w.d
 | _=>.stuck
def qN(e:EF):IF:=λρ=>(e ρ).bind λw=>w.st.bind ua
def zN(lo:Int):Nat->List D
 | 0=>[]
 | n+1=>.int lo::zN (lo+1) n
def iR1(a:EF):IF:=λρ=>(a ρ).bind λx=>match x.d with
 | .int j=>if fits b62 j=true then .ok (zN 0 j.toNat)else .stuck
 | _=>.stuck
def iR2(a b:EF):IF:=λρ=>(a ρ).bind λx=>(b ρ).bind λy=>match x.d,y.d with
 | .int i,.int j=>if (fits b62 i&&fits b62 j)=true then .ok (zN i (j-i).toNat)else .stuck
 | _,_=>.stuck
def qM(it:IF)(g:GF)(b:SF):SF:=λρ=>sOf (it ρ) λxs=>qH g b xs ρ
def zO (t:TF) (b:SF):Nat->Rho->Out
 | 0,_=>.stuck
 | n+1,ρ=>sOf (t ρ) λc=>if c=true then(match b ρ with
   | .nx ρ2=>zO t b n ρ2
   | .ct ρ2=>zO t b n ρ2
   | .bk ρ2=>.nx ρ2
   | o=>o)else .nx ρ
def kD(n:Nat)(t:TF)(b:SF):SF:=zO t b n
def fin:Out->R En
 | .nx _=>.ok (.fz .non)
 | .rt w=>.ok w
 | .exc x=>.exc x
 | _=>.stuck
def den (n:Nat) (b:SF):Den:=λas=>fin (b (as.map some++List.replicate (n-as[1]) none))
def Zj{a b:SF}(h:a ρ=.nx ρ'):qg a b ρ=b ρ':=by delta qg;rw[h]
open PySem PySem.Spec PyProof.Rows L2
abbrev St:=L2.St
structure Kx where
 P:Program
 w:World
 K:Frag
abbrev kx(X:Cx):Kx:=#[X.prog,X.w,X.K]
def SqK(κ:Kx)(F:Hp)(a:Addr)(kvs:List (Key×V)):Prop :=
 Rd F a (.dK kvs)\/(a==sysModules)=false/\∃(o:Obj) (es:Array DictEntry) (ep:Nat) (vs:List (Key×aa)),κ.K.lookup a=!o/\o.ExactDict/\o.data=.dict es ep /\
  KeysOf (jj κ.P κ.w) es/\Pairs (jj κ.P κ.w) es[2] vs/\(vs.map (·.1)).Nodup/\KV kvs vs
def FnV(κ:Kx)(v:V)(c:Str)(fs:List (Str×D)):Prop:=match fs with
 | [(_,.non)]=>∀ f:Addr,nsIn κ.K mainGlobals c=!(!(.ref f))->v=.ref f
 | [(_,.int a)]=>v=.ref a.toNat
 | _=>True
mutual
def Rep(κ:Kx)(F:Hp):V->D->Prop
 | v,.non=>v=.non
 | v,.bl b=>v=.bl b
 | v,.int i=>v=.int i
 | v,.str x=>v=.str x
 | v,.tup ds=>∃ a vs,v=.ref a/\SqT κ.K F a vs/\Reps κ F vs ds
 | v,.lst ds=>∃ a vs,v=.ref a/\SqL κ.K F a vs/\Reps κ F vs ds
 | v,.dK kds=>∃ a kvs,v=.ref a/\SqK κ F a kvs/\RepK κ F kvs kds
 | v,.dT kds=>∃ a kvs,v=.ref a/\Rd F a (.dT kvs)/\RepT κ F kvs kds
 | v,.xc c fs=>FnV κ v c fs
def Reps(κ:Kx)(F:Hp):List V->List D->Prop
 | vs,[]=>vs=[]
 | vs,d::ds=>∃ v r,vs=v::r/\Rep κ F v d/\Reps κ F r ds
def RepK(κ:Kx)(F:Hp):List (Key×V)->List (Sum Int Str×D)->Prop
 | kvs,[]=>kvs=[]
 | kvs,(k,d)::r=>∃ v kr,kvs=(k,v)::kr/\Rep κ F v d/\RepK κ F kr r
def RepT(κ:Kx)(F:Hp):List (List Key×V)->List (List (Sum Int Str)×D)->Prop
 | kvs,[]=>kvs=[]
 | kvs,(k,d)::r=>∃ v kr,kvs=(k,v)::kr/\Rep κ F v d/\RepT κ F kr r
end
abbrev Le(F H:Hp):Prop:=∀ a o,F a=!o->H a=!o
def Rd.le(l:Le F F')(h:Rd F a u):Rd F' a u:=by
 rcases h with h|⟨o,h⟩
 .show .inl (l _ _ h)
 show .inr #[o,l _ _ h]
def SqL.le{K:Frag}(l:Le F F')(h:SqL K F a vs):SqL K F' a vs:=by
 rcases h with h|h
 .show .inl (Rd.le l h)
 show .inr h
def SqT.le{K:Frag}(l:Le F F')(h:SqT K F a vs):SqT K F' a vs:=by
 rcases h with h|h
 .show .inl (Rd.le l h)
 show .inr h
def SqK.le(l:Le F F')(h:SqK κ F a vs):SqK κ F' a vs:=by
 rcases h with h|h
 .show .inl (Rd.le l h)
 show .inr h
mutual
theorem Rep.le(l:Le F F'):∀(d:D) {v:V},Rep κ F v d->Rep κ F' v d
 | .non,_,h=>h
 | .bl _,_,h=>h
 | .int _,_,h=>h
 | .str _,_,h=>h
 | .tup ds,_,h=>by
  let⟨a,vs,e,q,r⟩:=h;show#[a,vs,e,SqT.le l q,Reps.le l ds r]
 | .lst ds,_,h=>by
  let⟨a,vs,e,q,r⟩:=h;show#[a,vs,e,SqL.le l q,Reps.le l ds r]
 | .dK ds,_,h=>by
  let⟨a,vs,e,q,r⟩:=h;show#[a,vs,e,SqK.le l q,RepK.le l ds r]
 | .dT ds,_,h=>by
  let⟨a,vs,e,q,r⟩:=h;show#[a,vs,e,Rd.le l q,RepT.le l ds r]
 | .xc _ _,_,h=>h
theorem Reps.le(l:Le F F'):∀(ds:List D) {vs:List V},Reps κ F vs ds->Reps κ F' vs ds
 | [],_,h=>h
 | d::ds,_,h=>by
  let⟨v,r,e,h1,h2⟩:=h;show#[v,r,e,Rep.le l d h1,Reps.le l ds h2]
theorem RepK.le(l:Le F F'):∀(ds:List (Sum Int Str×D)) {vs:List (Key×V)},RepK κ F vs ds->RepK κ F' vs ds
 | [],_,h=>h
 | (k,d)::ds,_,h=>by
  let⟨v,r,e,h1,h2⟩:=h;show#[v,r,e,Rep.le l d h1,RepK.le l ds h2]
theorem RepT.le(l:Le F F'):∀(ds:List (List (Sum Int Str)×D)) {vs:List (List Key×V)},RepT κ F vs ds->RepT κ F' vs ds
 | [],_,h=>h
 | (k,d)::ds,_,h=>by
  let⟨v,r,e,h1,h2⟩:=h;show#[v,r,e,Rep.le l d h1,RepT.le l ds h2]
end
section
variable{κ:Kx}{F:Hp}
theorem Reps.length:∀{ds} {vs},Reps κ F vs ds->vs[1]=ds[1]
 | [],_,h=>by cases (h);rfl
 | d::ds,_,h=>by
  let⟨v,r,rfl,h1,h2⟩:=h;simp[Reps.length h2]
theorem Reps.get:∀{ds} {vs} {i:Nat} {d},Reps κ F vs ds->ds[i]?=!d->∃ v,vs[i]?=!v/\Rep κ F v d
 | [],_,_,_,_,e=>by simp at e
 | d::ds,_,0,_,h,e=>by
  let⟨v,r,rfl,h1,h2⟩:=h;simp at e;subst e;show#[v,rfl,h1]
 | d::ds,_,i+1,d',h,e=>by
  let⟨v,r,rfl,h1,h2⟩:=h;let⟨u,e1,e2⟩:=Reps.get h2 e[""]
  show#[u,by simpa using e1,e2]
theorem Reps.append:∀{ds es} {vs us},Reps κ F vs ds->Reps κ F us es->Reps κ F (vs++us) (ds++es)
 | [],_,_,_,h,k=>by cases (h);show k
 | d::ds,_,_,_,h,k=>by
  let⟨v,r,rfl,h1,h2⟩:=h;show#[v,r++_,rfl,h1,Reps.append h2 k]
def Reps.one(h:Rep κ F v d):Reps κ F [v] [d]:=#[v,[],rfl,h,rfl]
end
structure Gr(F H F' H':Hp):Prop where
 f:Le F F'
 h:Le H H'
 s:Le F' H'
 n:∀ a,F' a≠none->F a≠none\/H a=none\/∃ xs,H a=!(.tup xs)
def Le.refl:Le F F:=λ_ _ h=>h
def Le.trans(a:Le F G)(b:Le G H):Le F H:=λx o h=>b x o (a x o h)
def Gr.refl(s:Le F H):Gr F H F H:=#[Le.refl,Le.refl,s,λ_ h=>.inl h]
theorem Le.none{F H:Hp}(l:Le F H)(h:H a=none):F a=none:=by
 cases e:F a with
 | none=>rfl
 | some o=>rw[l a o e]at h;cases h
def Gr.trans(a:Gr F H F1 H1)(b:Gr F1 H1 F2 H2):Gr F H F2 H2 :=
 #[Le.trans a.f b.f,Le.trans a.h b.h,b.s,λx h=>by
  rcases b.n x h with q|q|⟨xs,q⟩
  .show a.n x q
  .show .inr (.inl (Le.none a.h q))
  cases e:H x with
  | none=>show .inr (.inl rfl)
  | some o =>
   have:=a.h x o e;rw[q]at this;cases this;show .inr (.inr #[xs,rfl])]
def Gr.new{F H:Hp}(s:Le F H)(hp:H p=none):Gr F H F (upd H p o) :=
 #[Le.refl,λa u h=>by rw[qu (jN h hp)];show h,λa u h=>by rw[qu (jN (s a u h) hp)];show s a u h,λ_ h=>.inl h]
def Gr.newF{F H:Hp}(s:Le F H)(hp:H p=none):Gr F H (upd F p o) (upd H p o):=by
 show#[λa u h=>by rw[qu (jN h (Le.none s hp))];show h,λa u h=>by rw[qu (jN h hp)];show h,λa u h=>?_,λa h=>?_]
 .by_cases e:a=p
  .subst e;rw[qS]at h ⊢;show h
  rw[qu e]at h ⊢;show s a u h
 by_cases e:a=p
 .subst e;show .inr (.inl hp)
 rw[qu e]at h;show .inl h
def jK(H F' H':Hp):Hp:=λb=>match H b with
 | none=>H' b
 | some _=>F' b
def vh(s:Le F H)(g:Gr F H F' H'):Gr F H (jK H F' H') H'/\Le F' (jK H F' H'):=by
 show#[#[λa u h=>?_,g.h,λa u h=>?_,λa h=>?_],λa u h=>?_]
 .delta jK;rw[s a u h];show g.f a u h
 .unfold jK at h;cases e:H a with
  | none=>rw[e]at h;show h
  | some o=>rw[e]at h;show g.s a u h
 .cases e:H a with
  | none=>show .inr (.inl rfl)
  | some o =>
   unfold jK at h;rw[e]at h;rcases g.n a h with q|q|q
   .show .inl q
   .simp_all
   rw[e]at q;show .inr (.inr q)
 delta jK
 cases e:H a with
 | none=>show g.s a u h
 | some o=>show h
def OwnO(κ:Kx)(F:Hp):HO->D->Prop
 | .lst vs,.lst ds=>Reps κ F vs ds
 | .dK kvs,.dK kds=>RepK κ F kvs kds
 | .dT kvs,.dT kds=>RepT κ F kvs kds
 | _,_=>False
def OwnO.le(l:Le F F')(h:OwnO κ F o d):OwnO κ F' o d:=by
 cases o<;>cases d<;>first
  | show h
  | show Reps.le l _ h
  | show RepK.le l _ h
  | show RepT.le l _ h
def RdV(κ:Kx)(F H:Hp)(v:V)(d:D):Prop:=Rep κ F v d\/∃ a o,v=.ref a/\H a=!o/\OwnO κ F o d
def Inn(κ:Kx)(H0 F H:Hp):List Addr->List D->Prop
 | [],[]=>True
 | b::bs,e::es=>(∃ us xs,e=.lst xs/\H0 b=none/\F b=none/\H b=!(.lst us)/\Reps κ F us xs)/\Inn κ H0 F H bs es
 | _,_=>False
def In2(κ:Kx)(H0 F H:Hp):List Addr->List (List Addr)->List D->Prop
 | [],[],[]=>True
 | b::bs,cs::css,e::es=>(∃ xs,e=.lst xs/\H0 b=none/\F b=none/\H b=!(.lst (cs.map V.ref))/\Inn κ H0 F H cs xs)/\In2 κ H0 F H bs css es
 | _,_,_=>False
def DV2(κ:Kx)(H F H':Hp)(v:V)(ds:List D):Prop:=∃ a bs,v=.ref a/\H a=none/\F a=none/\(a::bs).Nodup/\H' a=!(.lst (bs.map V.ref))/\Inn κ H F H' bs ds
def DV3(κ:Kx)(H F H':Hp)(v:V)(ds:List D):Prop:=∃ a bs z,v=.ref a/\H a=none/\F a=none/\(a::(bs++z.flatten)).Nodup/\H' a=!(.lst (bs.map V.ref))/\In2 κ H F H' bs z ds
def DVp(κ:Kx)(H F H':Hp)(v:V)(ds:List D)(g:D):Prop:=∃ t b us vg,v=.ref t/\H t=none/\H' t=!(.tup [.ref b,vg])/\H b=none/\F b=none/\H' b=!(.lst us)/\Reps κ F us ds/\Rep κ F vg g
def DVi(κ:Kx)(H F H':Hp)(v:V)(a:Addr)(dd g:D):Prop:=∃ o,H a=none/\F a=none/\H' a=!o/\OwnO κ F o dd/\Rep κ F v g
def DV(κ:Kx)(H F H':Hp)(v:V)(d:D):Prop :=
 (∃ ds,d=.lst ds/\DV2 κ H F H' v ds)\/(∃ kds:List (Sum Int Str×D),d=.dK kds/\DV3 κ H F H' v (kds.map Prod.snd))\/(∃ ds g,d=.tup [.lst ds,g]/\DVp κ H F H' v ds g)\/∃(a:Addr) (dd g:D),d=.tup [.int (a:Int),dd,g]/\DVi κ H F H' v a dd g
def Vok(κ:Kx)(H F' H':Hp)(v:V):En->Prop
 | .fz d=>Rep κ F' v d
 | .ow d=>∃ a o,v=.ref a/\H a=none/\F' a=none/\H' a=!o/\OwnO κ F' o d
 | .br d=>∃ a o,v=.ref a/\H' a=!o/\OwnO κ F' o d
 | .lk _=>False
 | .od d=>DV κ H F' H' v d
section
variable{κ:Kx}{H F F' H' F1 H1 F2 H2:Hp}{v:V}{w:En}{d:D}
def Vok.rd(h:Vok κ H F' H' v w):RdV κ F' H' v w.d:=by
 cases w with
 | fz d=>show .inl h
 | ow d=>let⟨a,o,e,_,_,e2,r⟩:=h;show .inr #[a,o,e,e2,r]
 | br d=>let⟨a,o,e,e2,r⟩:=h;show .inr #[a,o,e,e2,r]
 | lk d=>show h.elim
 | od d=>show .inl trivial
def OwnO.noTup(h:OwnO κ F o d):∀ xs,o≠.tup xs:=λxs z=>by
 subst z;cases d<;>show h.elim
def Gr.no(g:Gr F H F' H')(B:F a=none)(O:H a=!o)(U:∀ xs,o≠.tup xs:=by intro _ z;cases z):F' a=none:=by
 cases q:F' a with
 | none=>rfl
 | some u =>
  rcases g.n a (by rw[q];show Option.some_ne_none _)with z|z|⟨xs,z⟩
  .simp_all
  .lia
  grind
theorem Inn.gr(g:Gr F H F' H'):∀{bs} {ds},Inn κ H0 F H bs ds->Inn κ H0 F' H' bs ds
 | [],[],h=>h
 | [],_::_,h=>h
 | _::_,[],h=>h
 | b::bs,e::es,#[#[us,xs,e1,h0,hf,hh,r],h]=>#[#[us,xs,e1,h0,g.no hf hh,g.h _ _ hh,Reps.le g.f _ r],Inn.gr g h]
theorem In2.gr(g:Gr F H F' H'):∀{bs} {css} {ds},In2 κ H0 F H bs css ds->In2 κ H0 F' H' bs css ds
 | [],[],[],h=>h
 | [],_::_,_,h=>by cases h
 | [],[],_::_,h=>by cases h
 | _::_,[],_,h=>by cases h
 | _::_,_::_,[],h=>by cases h
 | b::bs,cs::css,e::es,#[#[xs,e1,h0,hf,hh,r],h]=>#[#[xs,e1,h0,g.no hf hh,g.h _ _ hh,Inn.gr g r],In2.gr g h]
theorem Inn.older(l:∀ a,H a=none->G a=none):∀{bs} {ds},Inn κ H F' H' bs ds->Inn κ G F' H' bs ds
 | [],[],h=>h
 | [],_::_,h=>h
 | _::_,[],h=>h
 | b::bs,e::es,#[#[us,xs,e1,h0,r],h]=>#[#[us,xs,e1,l _ h0,r],Inn.older l h]
theorem In2.older(l:∀ a,H a=none->G a=none):∀{bs} {css} {ds},In2 κ H F' H' bs css ds->In2 κ G F' H' bs css ds
 | [],[],[],h=>h
 | [],_::_,_,h=>by cases h
 | [],[],_::_,h=>by cases h
 | _::_,[],_,h=>by cases h
 | _::_,_::_,[],h=>by cases h
 | b::bs,cs::css,e::es,#[#[xs,e1,h0,hf,hh,r],h]=>#[#[xs,e1,l _ h0,hf,hh,Inn.older l r],In2.older l h]
theorem Inn.reps:∀{bs} {ds},Inn κ H0 F H bs ds->(∀ b∈bs,G b=H b)->Le F G->Reps κ G (bs.map V.ref) ds
 | [],[],_,_,_=>rfl
 | [],_::_,h,_,_=>h.elim
 | _::_,[],h,_,_=>h.elim
 | b::bs,e::es,#[#[us,xs,e1,_,_,hh,r],h],k,l=>by
  subst e1;show#[.ref b,bs.map V.ref,rfl,#[b,us,rfl,SqL.of ((k b "s").trans hh),Reps.le l _ r],Inn.reps h (λc m=>k c (gj _ m)) l]
theorem In2.reps:∀{bs} {css} {ds},In2 κ H0 F H bs css ds->(∀ b∈bs++css.flatten,G b=H b)->Le F G->Reps κ G (bs.map V.ref) ds
 | [],[],[],_,_,_=>rfl
 | [],_::_,_,h,_,_=>by cases h
 | [],[],_::_,h,_,_=>by cases h
 | _::_,[],_,h,_,_=>by cases h
 | _::_,_::_,[],h,_,_=>by cases h
 | b::bs,cs::css,e::es,#[#[xs,e1,_,_,hh,r],h],k,l=>by
  subst e1;have B:∀ c∈bs++css.flatten,c∈(b::bs)++(cs::css).flatten:=λc m=>by
   grind
  have z:∀ c∈cs,c∈(b::bs)++(cs::css).flatten:=λc m=>by
   simp_all
  show#[.ref b,bs.map V.ref,rfl,#[b,cs.map V.ref,rfl,SqL.of ((k b "s").trans hh),Inn.reps r (λc m=>k c (z c m)) l],In2.reps h (λc m=>k c (B c m)) l]
def DV.gr(g:Gr F1 H1 F2 H2)(h:DV κ H F1 H1 v d):DV κ H F2 H2 v d:=by
 rcases h with⟨ds,e,a,bs,e1,h0,hf,nd,hh,i⟩|⟨ds,e,a,bs,z,e1,h0,hf,nd,hh,i⟩|⟨ds,y,e,t,b,us,vg,e1,t0,th,b0,bf,bh,rs,r⟩|⟨a,dd,y,e,o,h0,hf,hh,ro,r⟩
 .show .inl #[ds,e,a,bs,e1,h0,g.no hf hh,nd,g.h _ _ hh,Inn.gr g i]
 .show .inr (.inl #[ds,e,a,bs,z,e1,h0,g.no hf hh,nd,g.h _ _ hh,In2.gr g i])
 .show .inr (.inr (.inl #[ds,y,e,t,b,us,vg,e1,t0,g.h _ _ th,b0,g.no bf bh,g.h _ _ bh,Reps.le g.f _ rs,Rep.le g.f _ r]))
 show .inr (.inr (.inr #[a,dd,y,e,o,h0,g.no hf hh (OwnO.noTup ro),g.h _ _ hh,OwnO.le g.f ro,Rep.le g.f _ r]))
def DV.older(l:∀ a,H a=none->G a=none)(h:DV κ H F' H' v d):DV κ G F' H' v d:=by
 rcases h with⟨ds,e,a,bs,e1,h0,hf,nd,hh,i⟩|⟨ds,e,a,bs,z,e1,h0,hf,nd,hh,i⟩|⟨ds,y,e,t,b,us,vg,e1,t0,th,b0,bf,bh,rs,r⟩|⟨a,dd,y,e,o,h0,hf,hh,ro,r⟩
 .show .inl #[ds,e,a,bs,e1,l _ h0,hf,nd,hh,Inn.older l i]
 .show .inr (.inl #[ds,e,a,bs,z,e1,l _ h0,hf,nd,hh,In2.older l i])
 .show .inr (.inr (.inl #[ds,y,e,t,b,us,vg,e1,l _ t0,th,l _ b0,bf,bh,rs,r]))
 show .inr (.inr (.inr #[a,dd,y,e,o,l _ h0,hf,hh,ro,r]))
def Vok.gr(g:Gr F1 H1 F2 H2)(h:Vok κ H F1 H1 v w):Vok κ H F2 H2 v w:=by
 cases w with
 | fz d=>show Rep.le g.f d h
 | ow d =>
  let⟨a,o,e,e1,e3,e2,r⟩:=h;show#[a,o,e,e1,g.no e3 e2 (OwnO.noTup r),g.h _ _ e2,OwnO.le g.f r]
 | br d=>let⟨a,o,e,e2,r⟩:=h;show#[a,o,e,g.h _ _ e2,OwnO.le g.f r]
 | lk d=>show h
 | od d=>show DV.gr g h
def RdV.gr(g:Gr F1 H1 F2 H2)(h:RdV κ F1 H1 v d):RdV κ F2 H2 v d:=by
 rcases h with h|⟨a,o,e,e2,r⟩
 .show .inl (Rep.le g.f d h)
 show .inr #[a,o,e,g.h _ _ e2,OwnO.le g.f r]
def qa2(h:OwnO κ F o d):(∃ ds,d=.lst ds)\/(∃ ds,d=.dK ds)\/∃ ds,d=.dT ds:=by
 cases o<;>cases d<;>first
  | show h.elim
  | show .inl #[_,rfl]
  | show .inr (.inl #[_,rfl])
  | show .inr (.inr #[_,rfl])
def RdV.flat(h:RdV κ F H v d)(B:∀ ds,d≠.lst ds)(O:∀ ds,d≠.dK ds)(U:∀ ds,d≠.dT ds):Rep κ F v d:=by
 rcases h with h|⟨a,o,e,e2,r⟩
 .show h
 rcases qa2 r with⟨ds,z⟩|⟨ds,z⟩|⟨ds,z⟩
 .show absurd z (B ds)
 .show absurd z (O ds)
 show absurd z (U ds)
def RdV.int(h:RdV κ F H v i[6]):v=.int i:=RdV.flat h (λ_ e=>nomatch e) (λ_ e=>nomatch e) λ_ e=>nomatch e
def RdV.bl(h:RdV κ F H v (.bl b)):v=.bl b:=RdV.flat h (λ_ e=>nomatch e) (λ_ e=>nomatch e) λ_ e=>nomatch e
def RdV.str(h:RdV κ F H v (.str x)):v=.str x:=RdV.flat h (λ_ e=>nomatch e) (λ_ e=>nomatch e) λ_ e=>nomatch e
def RdV.non(h:RdV κ F H v .non):v=.non:=RdV.flat h (λ_ e=>nomatch e) (λ_ e=>nomatch e) λ_ e=>nomatch e
def RdV.tup(s:Le F H)(h:RdV κ F H v (.tup ds)):∃ a vs,v=.ref a/\SqT κ.K H a vs/\SqT κ.K F a vs/\Reps κ F vs ds:=by
 let⟨a,vs,e,q,r⟩:=RdV.flat h (λ_ e=>nomatch e) (λ_ e=>nomatch e) λ_ e=>nomatch e
 show#[a,vs,e,SqT.le s q,q,r]
theorem RdV.lst(s:Le F H)(h:RdV κ F H v (.lst ds)):∃ a vs,v=.ref a/\SqL κ.K H a vs/\Reps κ F vs ds:=by
 rcases h with⟨a,vs,e,q,r⟩|⟨a,o,e,e2,r⟩
 .show#[a,vs,e,SqL.le s q,r]
 cases o with
 | lst vs=>show#[a,vs,e,SqL.of e2,r]
 | _=>show r.elim
theorem RdV.dK(s:Le F H)(h:RdV κ F H v (.dK ds)):∃ a kvs,v=.ref a/\SqK κ H a kvs/\RepK κ F kvs ds:=by
 rcases h with⟨a,vs,e,q,r⟩|⟨a,o,e,e2,r⟩
 .show#[a,vs,e,SqK.le s q,r]
 cases o with
 | dK vs=>show#[a,vs,e,.inl (.inl e2),r]
 | _=>show r.elim
def Vok.st(s:Le F H)(g:Gr F H F' H')(h:Vok κ H F' H' v w)(e:w.st=.ok d):Rep κ (jK H F' H') v d:=by
 let⟨_,l⟩:=vh s g;cases w with
 | fz d'=>cases e;show Rep.le l d h
 | ow d' =>
  cases e;let⟨a,o,ea,e1,e3,e2,r⟩:=h;have q:jK H F' H' a=!o:=by delta jK;rw[e1];show e2
  have r:=OwnO.le l r;cases o<;>cases d<;>first
   | show r.elim
   | show#[a,_,ea,.inl (.inl q),r]
   | show#[a,_,ea,.inl q,r]
 | br d'=>cases e
 | lk d'=>cases e
 | od d'=>cases e
end
def Voks(κ:Kx)(H F' H':Hp):List V->List En->Prop
 | vs,[]=>vs=[]
 | vs,w::ws=>∃ v r,vs=v::r/\Vok κ H F' H' v w/\Voks κ H F' H' r ws
section
variable{κ:Kx}{H F F' H' F1 H1 F2 H2:Hp}
def Vok.older{G:Hp}(l:∀ a,H a=none->G a=none)(h:Vok κ H F' H' v w):Vok κ G F' H' v w:=by
 cases w with
 | fz d=>show h
 | ow d=>let⟨a,o,e,e1,r⟩:=h;show#[a,o,e,l a e1,r]
 | br d=>show h
 | lk d=>show h
 | od d=>show DV.older l h
theorem Voks.older(l:∀ a,H a=none->G a=none):∀{ws} {vs},Voks κ H F' H' vs ws->Voks κ G F' H' vs ws
 | [],_,h=>h
 | w::ws,_,h=>by
  let⟨v,r,e,h1,h2⟩:=h;show#[v,r,e,Vok.older l h1,Voks.older l h2]
theorem Voks.stAll(s:Le F H)(g:Gr F H F' H'):∀{ws:List En} {vs:List V} {ds:List D},Voks κ H F' H' vs ws->stAll ws=.ok ds->Reps κ (jK H F' H') vs ds
 | [],_,_,h,e=>by cases e;show h
 | w::ws,_,ds,h,e=>by
  let⟨v,r,rfl,h1,h2⟩:=h;unfold L3.stAll at e;cases e1:w.st with
  | ok d =>
   cases e2:L3.stAll ws with
   | ok ds' =>
    rw[e1,e2]at e;cases e;show#[v,r,rfl,Vok.st s g h1 e1,Voks.stAll s g h2 e2]
   | exc x=>rw[e1,e2]at e;cases e
   | stuck=>rw[e1,e2]at e;cases e
  | exc x=>rw[e1]at e;cases e
  | stuck=>rw[e1]at e;cases e
theorem Voks.rd:∀{ws} {vs},Voks κ H F' H' vs ws->Paired (RdV κ F' H') vs (ws.map En.d)
 | [],_,h=>by cases (h);show .nil
 | w::ws,_,h=>by
  let⟨v,r,rfl,h1,h2⟩:=h;show .cons (Vok.rd h1) (Voks.rd h2)
end
def qa3(κ:Kx)(F H:Hp)(a:Addr)(bs:List Addr)(xs:List D):Prop:=bs=[]/\∃ o d,xs=[.int (a:Int),d]/\H a=!o/\OwnO κ F o d
def Deep(κ:Kx)(H0 F H:Hp)(a:Addr)(bs:List Addr):D->Prop
 | .lst ds=>H a=!(.lst (bs.map V.ref))/\Inn κ H0 F H bs ds
 | .dT kds=>H a=!(.dT ((kds.map Prod.fst).zip (bs.map V.ref)))/\Inn κ H0 F H bs (kds.map Prod.snd)
 | .dK kds=>∃ b1 z,bs=b1++List.flatten z/\H a=!(.lst (b1.map V.ref))/\In2 κ H0 F H b1 z (kds.map Prod.snd)
 | .tup xs=>qa3 κ F H a bs xs
 | _=>False
def RawT(F:Hp)(v:V):Prop:=∃ a ob kvs,v=.ref a/\F a=!(.frz ob (.dT kvs))
def RawT.le(l:Le F F')(h:RawT F v):RawT F' v:=let #[a,ob,kvs,e,q]:=h;#[a,ob,kvs,e,l _ _ q]
def Eok(κ:Kx)(H0 F H:Hp)(v:V):En->Prop
 | .fz d=>Rep κ F v d
 | .ow d=>∃ a o,v=.ref a/\H0 a=none/\F a=none/\H a=!o/\OwnO κ F o d
 | .lk d=>Rep κ F v d/\RawT F v
 | .br d=>∃ a o,v=.ref a/\H0 a=!o/\OwnO κ F o d
 | .od _=>∃ a o,v=.ref a/\H0 a=none/\F a=none/\H a=!o/\∀ xs,o≠.tup xs
def En.own:En->Bool
 | .ow _=>true|.od _=>true|_=>false
def shal(i:Nat)(ρ:Rho):Prop:=∀(j:Nat) (d:D),j≠i->ρ[j]?≠!(!(.od d))
structure StOk(κ:Kx)(F0 H0 F H:Hp)(ρ:Rho)(σ:St):Prop where
 gr:Gr F0 H0 F H
 len:ρ.length=σ.length
 val:∀(i:Nat) (w:En),ρ[i]?=!(!w)->∃ v,σ[i]?=!(!v)/\Eok κ H0 F H v w
 sep:∀(i j:Nat) (w w':En) (a:Addr),i≠j->ρ[i]?=!(!w)->ρ[j]?=!(!w')->w.own=true->w'.own=true->σ[i]?=!(!(.ref a))->σ[j]?=!(!(.ref a))->False
 dp:∀(i:Nat) (d:D),ρ[i]?=!(!(.od d))->shal i ρ/\∃ a bs,σ[i]?=!(!(.ref a))/\H0 a=none/\F a=none/\(a::bs).Nodup/\Deep κ H0 F H a bs d /\
  ∀(j:Nat) (w:En) (b:Addr),j≠i->ρ[j]?=!(!w)->w.own=true->b∈a::bs->σ[j]?≠!(!(.ref b))
section
variable{κ:Kx}{F0 H0 F H F' H':Hp}{ρ:Rho}{σ:St}
def Deep.gr(g:Gr F H F' H')(h:Deep κ H0 F H a bs d):Deep κ H0 F' H' a bs d:=by
 cases d<;>first|show(False.elim h)|show#[g.h _ _ h.1,Inn.gr g h.2]|skip
 .let⟨e,o,d,ex,h1,h2⟩:=h;show#[e,o,d,ex,g.h _ _ h1,OwnO.le g.f h2]
 let⟨b1,z,e,h1,h2⟩:=h;show#[b1,z,e,g.h _ _ h1,In2.gr g h2]
theorem Inn.at:∀{bs} {ds} {b},Inn κ H0 F H bs ds->b∈bs->∃ us,H0 b=none/\F b=none/\H b=!(.lst us)
 | [],_,_,_,m=>by cases m
 | _::_,[],_,h,_=>h.elim
 | c::bs,e::es,b,#[#[us,xs,e1,h0,hf,hh,r],h],m=>by
  rcases gw.mp m with rfl|m
  .show#[us,h0,hf,hh]
  show Inn.at h m
theorem In2.at:∀{bs} {css} {ds} {b},In2 κ H0 F H bs css ds->b∈bs++css.flatten->∃ us,H0 b=none/\F b=none/\H b=!(.lst us)
 | [],[],[],_,_,m=>by simp at m
 | [],_::_,_,_,h,_=>by cases h
 | [],[],_::_,_,h,_=>by cases h
 | _::_,[],_,_,h,_=>by cases h
 | _::_,_::_,[],_,h,_=>by cases h
 | c::bs,cs::css,e::es,b,#[#[xs,e1,h0,hf,hh,r],h],m=>by
  rcases gw.mp m with rfl|m
  .show#[_,h0,hf,hh]
  rcases gE.mp m with m|m
  .show In2.at h (tq _ m)
  rcases gE.mp m with m|m
  .show Inn.at r m
  show In2.at h (tw _ m)
def Deep.top(h:Deep κ H0 F H a bs d):∃ o,H a=!o/\∀ xs,o≠.tup xs:=by
 cases d<;>first|show(False.elim h)|show#[_,h.1,λ_ z=>nomatch z]|skip
 .let⟨e,o,d,ex,h1,h2⟩:=h;show#[o,h1,OwnO.noTup h2]
 let⟨b1,B,e,h1,h2⟩:=h;show#[_,h1,λ_ z=>nomatch z]
def Deep.inn(h:Deep κ H0 F H a bs d)(m:b∈bs):∃ us,H0 b=none/\F b=none/\H b=!(.lst us):=by
 cases d<;>first|show(False.elim h)|show Inn.at h.2 m|skip
 .let⟨e,_⟩:=h;subst e;cases m
 let⟨b1,z,e,h1,h2⟩:=h;subst e;show In2.at h2 m
theorem Inn.same{G G':Hp}:∀{bs} {ds},(∀ b∈bs,H b=H' b)->(∀ b∈bs,F b=none->F' b=none)->Le F F'->Inn κ H0 F H bs ds->Inn κ H0 F' H' bs ds
 | [],[],_,_,_,h=>h
 | [],_::_,_,_,_,h=>h
 | _::_,[],_,_,_,h=>h
 | b::bs,e::es,k,n,l,#[#[us,xs,e1,h0,hf,hh,r],h] =>
  #[#[us,xs,e1,h0,n b "s" hf,(k b "s").symm.trans hh,Reps.le l _ r],Inn.same (G:=G) (G':=G') (λc m=>k c (gj _ m)) (λc m=>n c (gj _ m)) l h]
theorem In2.same:∀{bs} {css} {ds},(∀ b∈bs++css.flatten,H b=H' b)->(∀ b∈bs++css.flatten,F b=none->F' b=none)->Le F F'->In2 κ H0 F H bs css ds->In2 κ H0 F' H' bs css ds
 | [],[],[],_,_,_,h=>h
 | [],_::_,_,_,_,_,h=>by cases h
 | [],[],_::_,_,_,_,h=>by cases h
 | _::_,[],_,_,_,_,h=>by cases h
 | _::_,_::_,[],_,_,_,h=>by cases h
 | b::bs,cs::css,e::es,k,n,l,#[#[xs,e1,h0,hf,hh,r],h]=>by
  have B:∀ c∈bs++css.flatten,c∈(b::bs)++(cs::css).flatten:=λc m=>by
   grind
  have z:∀ c∈cs,c∈(b::bs)++(cs::css).flatten:=λc m=>by
   simp_all
  show#[#[xs,e1,h0,n b "s" hf,(k b "s").symm.trans hh,Inn.same (G:=H) (G':=H) (λc m=>k c (z c m)) (λc m=>n c (z c m)) l r],In2.same (λc m=>k c (B c m)) (λc m=>n c (B c m)) l h]
def Deep.same(k:∀ b∈a::bs,H b=H' b)(n:∀ b∈bs,F b=none->F' b=none)(l:Le F F')(h:Deep κ H0 F H a bs d):Deep κ H0 F' H' a bs d:=by
 cases d<;>first|show(False.elim h)|show#[(k a "s").symm.trans h.1,Inn.same (G:=H) (G':=H) (λc m=>k c (gj _ m)) n l h.2]|skip
 .let⟨e,o,d,ex,h1,h2⟩:=h;show#[e,o,d,ex,(k a "s").symm.trans h1,OwnO.le l h2]
 let⟨b1,z,e,h1,h2⟩:=h;subst e;show#[b1,z,rfl,(k a "s").symm.trans h1,In2.same (λc m=>k c (gj _ m)) n l h2]
def Eok.gr(g:Gr F H F' H')(h:Eok κ H0 F H v w):Eok κ H0 F' H' v w:=by
 cases w with
 | fz d=>show Rep.le g.f d h
 | ow d=>let⟨a,o,e,e1,e3,e2,r⟩:=h;show#[a,o,e,e1,g.no e3 e2 (OwnO.noTup r),g.h _ _ e2,OwnO.le g.f r]
 | lk d=>show#[Rep.le g.f d h.1,RawT.le g.f h.2]
 | br d=>let⟨a,o,e,e2,r⟩:=h;show#[a,o,e,e2,OwnO.le g.f r]
 | od d=>let⟨a,o,e,e1,e3,e2,nt⟩:=h;show#[a,o,e,e1,g.no e3 e2 nt,g.h _ _ e2,nt]
def StOk.grow(S:StOk κ F0 H0 F H ρ σ)(g:Gr F H F' H'):StOk κ F0 H0 F' H' ρ σ :=
 #[S.gr.trans g,S.len,λi w e=>let #[v,e1,q]:=S.val i w e;#[v,e1,Eok.gr g q],S.sep,λi d e=>by
  let⟨s1,a,bs,e1,h0,hf,nd,dp,sp⟩:=S.dp i d e;let⟨o,ho,nt⟩:=Deep.top dp;show#[s1,a,bs,e1,h0,g.no hf ho nt,nd,Deep.gr g dp,sp]]
def StOk.s(S:StOk κ F0 H0 F H ρ σ):Le F H:=S.gr.s
def qE{α:Type}{l:List α}{i j:Nat}{x y:α}(h:(l.set i x)[j]?=!y):(j=i/\y=x)\/(j≠i/\l[j]?=!y):=by
 by_cases e:j=i
 .subst e;by_cases hl:j<l[1]
  .simp_all
  simp_all
 rw[hU (tu e)]at h;show .inr #[e,h]
def StOk.setF(S:StOk κ F0 H0 F H ρ σ){i:Nat}(r:Rep κ F v d):StOk κ F0 H0 F H (ρ.set i (!d[8])) (σ.set i !v):=by
 show#[S.gr,by simp[S.len],λj w e=>?_,λj k w w' a B ej ek oj ok sj sk=>?_,λj y e=>?_]
 .rcases qE e with⟨rfl,z⟩|⟨ne,z⟩
  .cases z;have hl:j<σ.length:=by
    rw[<- S.len];have:=(gp.mp e).1;simpa using this
   show#[v,List.getElem?_set_self hl,r]
  let⟨u,e1,q⟩:=S.val j w z;show#[u,by rw[hU (tu ne)];show e1,q]
 .rcases qE ej with⟨_,z⟩|⟨nj,ej⟩
  .cases z;cases oj
  rcases qE ek with⟨_,z⟩|⟨nk,ek⟩
  .cases z;cases ok
  rw[hU (tu nj)]at sj;rw[hU (tu nk)]at sk;show S.sep j k w w' a B ej ek oj ok sj sk
 rcases qE e with⟨_,z⟩|⟨nj,ej⟩
 .lia
 let⟨s1,a,bs,e1,h0,hf,nd,dp,sp⟩:=S.dp j y ej;show#[λk z hk ek=>?_,a,bs,by rw[hU (tu nj)];show e1,h0,hf,nd,dp,λk w b hk ek ok m sk=>?_]
 .rcases qE ek with⟨_,q⟩|⟨_,q⟩
  .lia
  show s1 k z hk q
 rcases qE ek with⟨_,q⟩|⟨nk,q⟩
 .cases q;cases ok
 rw[hU (tu nk)]at sk;show sp k w b hk q ok m sk
def StOk.setO(S:StOk κ F0 H0 F H ρ σ){i:Nat}(h0:H0 a=none)(hf:F a=none)(ha:H a=!o)(r:OwnO κ F o d)
  (Z:∀ j w,j≠i->ρ[j]?=!(!w)->w.own=true->σ[j]?≠!(!(.ref a)))
  (Y:∀ j y,j≠i->ρ[j]?=!(!(.od y))->shal j ρ/\∃ c bs,σ[j]?=!(!(.ref c))/\H0 c=none/\F c=none/\(c::bs).Nodup/\Deep κ H0 F H c bs y /\
   (∀ k w b,k≠j->ρ[k]?=!(!w)->w.own=true->b∈c::bs->σ[k]?≠!(!(.ref b)))/\a∉c::bs):StOk κ F0 H0 F H (ρ.set i (!d[9])) (σ.set i (!(.ref a))):=by
 show#[S.gr,by simp[S.len],λj w e=>?_,λj k w w' b O ej ek oj ok sj sk=>?_,λj y e=>?_]
 .rcases qE e with⟨rfl,z⟩|⟨ne,z⟩
  .cases z;have hl:j<σ.length:=by
    rw[<- S.len];have:=(gp.mp e).1;simpa using this
   show#[.ref a,List.getElem?_set_self hl,a,o,rfl,h0,hf,ha,r]
  let⟨u,e1,q⟩:=S.val j w z;show#[u,by rw[hU (tu ne)];show e1,q]
 .have at_:∀{m},m≠i->(σ.set i (!(.ref a)))[m]?=!(!(.ref b))->σ[m]?=!(!(.ref b)):=λ{m} hm h=>by
   rw[hU (tu hm)]at h;show h
  rcases qE ej with⟨e1,z⟩|⟨nj,U⟩
  .rcases qE ek with⟨e2,_⟩|⟨nk,B⟩
   .show O (e1.trans e2.symm)
   subst e1;have hl:j<σ.length:=by have:=(gp.mp sj).1;simpa using this
   rw[List.getElem?_set_self hl]at sj;cases sj;show Z k w' nk B ok (at_ nk sk)
  rcases qE ek with⟨e2,z⟩|⟨nk,B⟩
  .subst e2;have hl:k<σ.length:=by have:=(gp.mp sk).1;simpa using this
   rw[List.getElem?_set_self hl]at sk;cases sk;show Z j w nj U oj (at_ nj sj)
  show S.sep j k w w' b O U B oj ok (at_ nj sj) (at_ nk sk)
 rcases qE e with⟨_,z⟩|⟨nj,ej⟩
 .lia
 let⟨s1,c,bs,e1,c0,cf,nd,dp,sp,nc⟩:=Y j y nj ej;show#[λk z hk ek=>?_,c,bs,by rw[hU (tu nj)];show e1,c0,cf,nd,dp,λk w b hk ek ok m sk=>?_]
 .rcases qE ek with⟨_,q⟩|⟨_,q⟩
  .lia
  show s1 k z hk q
 rcases qE ek with⟨rfl,_⟩|⟨nk,q⟩
 .have hl:k<σ.length:=by have:=(gp.mp sk).1;simpa using this
  rw[List.getElem?_set_self hl]at sk;cases sk;show nc m
 rw[hU (tu nk)]at sk;show sp k w b hk q ok m sk
def StOk.ownAt(S:StOk κ F0 H0 F H ρ σ){j:Nat}{w:En}(e:ρ[j]?=!(!w))(o:w.own=true)(s:σ[j]?=!(!(.ref a))):∃ u,H a=!u:=by
 let⟨v,e1,q⟩:=S.val j w e;rw[s]at e1;cases e1;cases w with
 | ow d=>let⟨b,u,eb,_,_,e2,_⟩:=q;cases eb;show#[u,e2]
 | lk d=>cases o
 | od d=>let⟨b,u,eb,_,_,e2,_⟩:=q;cases eb;show#[u,e2]
 | fz d=>cases o
 | br d=>cases o
def StOk.setW(S:StOk κ F0 H0 F H ρ σ)(g:Gr F H F' H'){i:Nat}{w w':En}(q:Vok κ H F' H' v w)(e:w.nm=.ok w'):StOk κ F0 H0 F' H' (ρ.set i !w') (σ.set i !v):=by
 have S':=S.grow g;cases w with
 | fz d=>cases e;show S'.setF q
 | ow d =>
  cases e;let⟨a,o,rfl,e1,e3,e2,r⟩:=q;show S'.setO (Le.none S.gr.h e1) e3 e2 r (λj w hj ej oj sj=>?_) λj y hj ej=>?_
  .let⟨u,z⟩:=S.ownAt ej oj sj;lia
  let⟨s1,c,bs,sj,h0,hf,nd,dp,sp⟩:=S.dp j y ej;let⟨o',B,O⟩:=Deep.top dp;show#[s1,c,bs,sj,h0,g.no hf B O,nd,Deep.gr g dp,sp,λm=>?_]
  rcases gw.mp m with rfl|m
  .lia
  let⟨us,_,_,z⟩:=Deep.inn dp m;lia
 | br d=>cases e
 | lk d=>cases e
 | od d=>cases e
end
def Way(H:Hp)(n:Nat)(h:Heap)(e:Addr)(cl:aa)(dd:Option Addr)(q:Option aa):Prop :=
 ∃ oe vs,h.get? e=!oe/\oe.cls=cl/\oe.dict=dd/\oe.data=.fields vs/\1<vs.size/\n<=e/\H e=none /\
  ((vs[1]?=some .none/\q=none) \/
   ∃ T oT ts fl,vs[1]?=!(.ref T)/\T≠e/\n<=T/\H T=none/\h.get? T=!oT/\oT.data=.fields ts/\ts[3]?=!fl/\q=!fl)
structure Chg(H:Hp)(n:Nat)(fs:List Addr)(h h':Heap):Prop where
 ex:∃ ch:List Addr,(∀ b∈ch,n<=b/\H b=none/\∀ o,h.get? b=!o->∃ vs,o.data=.fields vs)/\(∀ b o,h.get? b=!o->b∉fs->b∉ch->h'.get? b=!o) /\
  (∀ b o,h.get? b=!o->b∉ch->∃ sl,h'.get? b=some {o with slots:=sl})/\(∀ b o,h.get? b=!o->∃ o',h'.get? b=!o')
 sz:h.objs.size<=h'.objs.size
section
variable{H:Hp}{n:Nat}{fs:List Addr}{h h' h'':Heap}{e:Addr}{cl:aa}{dd:Option Addr}{q:Option aa}
variable{M:Model}{A:ag}{E:aa->ab->Prop}{s:ab}{base:Heap}{env:Env}{outer:List Env}{L:Addr}
end
def qa4:D->aa->Prop
 | .non,u=>u=.none
 | .int i,u=>∃ t,u=.int i t
 | _,_=>False
def AtIs(H:Hp)(n:Nat)(h:Heap)(dd:Option Addr):List (Str×D)->Prop
 | []=>dd=none
 | (nm,d)::_=>∃ dx mA u,dd=!dx/\n<=dx/\H dx=none/\h.Ns1 dx mA/\mA nm=!u/\qa4 d u
inductive XOk:Xc->Prop
 | nof (c:Str):XOk (Xc.mk c [])
 | nonf (c:Str):XOk (Xc.mk c [("at",D.non)])
 | intf (c:Str) (n:Nat):XOk (Xc.mk c [("at",D.int n)])
def atc(x:Xc):Option Addr:=match x.fs with
 | []=>none
 | [(_,.int i)]=>!(i.toNat+1)
 | _=>!0
structure Fl(P:Program)(w:World)(mg:Str->Option Value)(outer:List Env)(H:Hp)(s:Shared)(H':Hp)(s':Shared)(e:Addr)(x:Xc)(q:Option Value):Prop where
 os:s'.os=s.os
 bare:AllBare s'.gens
 un:Un (frs outer) [] H H' s.heap s'.heap
 hok:HOk P w H' s'.heap
 sz:s[0]<=s'[0]
 ok:XOk x
 way:∃ C dd,mg x.cls=!(.ref C)/\Way H' s[0] s'.heap e (.ref C) dd q/\AtIs H' s[0] s'.heap dd x.fs
def KE(x:Xc->Prop)(r:R α)(k:α->Prop):Prop:=match r with
 | .ok a=>k a
 | .exc e=>x e
 | .stuck=>False
def KE.bind{f:α->R β}{k:β->Prop}(h:KE x (r.bind f) k):KE x r λa=>KE x (f a) k:=by
 cases r<;>show h
def KE.imp{k z:α->Prop}(h:KE x r k)(i:∀ a,k a->z a):KE x r z:=by
 cases r with
 | ok a=>show i a h
 | exc e=>show h
 | stuck=>show h
def KE.impX{r:R α}{k z:α->Prop}(h:KE x r k)(i:∀ a,k a->z a)(j:∀ e,x e->x' e):KE x' r z:=by
 cases r with
 | ok a=>show i a h
 | exc e=>show j e h
 | stuck=>show h
def ya{k:α->Prop}:KE x (R.ok a) k=k a:=rfl
def XP(X:Cx)(F0 H0:Hp)(x:Xc):Prop:=False
def XPS(X:Cx)(F0 H0:Hp)(x:Xc):Prop:=∀(pins:List (Addr×Obj)) (σ:St) (H:Hp) (s:ab) (F' H':Hp) (s':ab) (e:Addr) (q:Option aa),(q=none\/q=some .none)->Gr F0 H0 F' H'->"I" H s ->
 Fl X.prog X.w X.mg X.stack H s H' s' e x q->X.xe (.ref e) s'
def SE(X:Cx)(F0 H0:Hp)(e:Expr)(f:EF):Prop :=
 ∀(pins:List (Addr×Obj)) (s:ab) (σ:St) (F H:Hp) (ρ:Rho) (Q:aa->ab->Prop),StOk (kx X) F0 H0 F H ρ σ->"I" H s ->
  KE (XP X F0 H0) (f ρ) (λw=>∀ v u F' H' s',Gr F H F' H'->Vok (kx X) H F' H' v w->RelV v u->"I" H' s'->Q u s') ->
  X[3] (eval e X.env) Q X.xe s
def ST(X:Cx)(F0 H0:Hp)(e:Expr)(f:TF):Prop :=
 ∀(pins:List (Addr×Obj)) (s:ab) (σ:St) (F H:Hp) (ρ:Rho) (Q:Bool->ab->Prop),StOk (kx X) F0 H0 F H ρ σ->"I" H s ->
  KE (XP X F0 H0) (f ρ) (λb=>∀ F' H' s',Gr F H F' H'->"I" H' s'->Q b s') ->
  X[3] (isTrue e X.env (eval e X.env)) Q X.xe s
def SW(X:Cx)(F0 H0:Hp)(e:Expr)(f:TF):Prop :=
 ∀(z:Sem aa) (pins:List (Addr×Obj)) (s:ab) (σ:St) (F H:Hp) (ρ:Rho) (Q:Bool->ab->Prop),StOk (kx X) F0 H0 F H ρ σ->"I" H s ->
  KE (XP X F0 H0) (f ρ) (λb=>∀ F' H' s',Gr F H F' H'->"I" H' s'->Q b s') ->
  X[3] (isTrue e X.env z) Q X.xe s
def SA(X:Cx)(F0 H0:Hp)(es:List Expr)(f:List EF):Prop :=
 ∀(pos:Pos) (pins:List (Addr×Obj)) (s:ab) (σ:St) (F H:Hp) (ρ:Rho) (Q:List aa->ab->Prop),StOk (kx X) F0 H0 F H ρ σ->"I" H s ->
  KE (XP X F0 H0) (evs f ρ) (λws=>∀ vs us F' H' s',Gr F H F' H'->Voks (kx X) H F' H' vs ws->Vals vs us->"I" H' s'->Q us s') ->
  X[3] (spliced (backTo pos (sE es X.env))) Q X.xe s
def PostS(X:Cx)(F0 H0 F:Hp)(D:Ends):Out->Prop
 | .nx ρ'=>∀ z F' H',Le F F'->StOk (kx X) F0 H0 F' H' ρ' z->D.nx z H'
 | .bk ρ'=>∀ z F' H',Le F F'->StOk (kx X) F0 H0 F' H' ρ' z->D.bk z H'
 | .ct ρ'=>∀ z F' H',Le F F'->StOk (kx X) F0 H0 F' H' ρ' z->D.ct z H'
 | .rt w=>∀ v F' H',Gr F0 H0 F' H'->Vok (kx X) H0 F' H' v w->D.rt v H'
 | .exc x=>XPS X F0 H0 x
 | .stuck=>False
def SS(X:Cx)(F0 H0:Hp)(st:Stmt)(f:SF):Prop :=
 ∀(pins:List (Addr×Obj)) (s:ab) (σ:St) (F H:Hp) (ρ:Rho) (D:Ends),StOk (kx X) F0 H0 F H ρ σ->"I" H s->PostS X F0 H0 F D (f ρ) ->
  X[3] (exec st X.env) (SP X pins D) X.xe s
def SSs(X:Cx)(F0 H0:Hp)(z:List Stmt)(f:SF):Prop :=
 ∀(pins:List (Addr×Obj)) (s:ab) (σ:St) (F H:Hp) (ρ:Rho) (D:Ends),StOk (kx X) F0 H0 F H ρ σ->"I" H s->PostS X F0 H0 F D (f ρ) ->
  X[3] (execs z X.env) (SP X pins D) X.xe s
def PostS.le{F0 H0 F F':Hp}{D:Ends}(l:Le F F'){o:Out}(h:PostS X F0 H0 F D o):PostS X F0 H0 F' D o:=by
 cases o with
 | nx ρ=>show λz F2 H2 l2 S=>h z F2 H2 (Le.trans l l2) S
 | bk ρ=>show λz F2 H2 l2 S=>h z F2 H2 (Le.trans l l2) S
 | ct ρ=>show λz F2 H2 l2 S=>h z F2 H2 (Le.trans l l2) S
 | rt w=>show h
 | exc x=>show h
 | stuck=>show h
def PostS.of{D:Ends}{r:R α}{k:α->Out}(h:PostS X F0 H0 F D (sOf r k)):KE (XP X F0 H0) r λa=>PostS X F0 H0 F D (k a):=by
 cases r<;>show h
def yD(X:Cx)(e:Expr):TE:=λσ H Q=>∀(pins:List (Addr×Obj)) (s:ab),"I" H s->X[3] (eval e X.env) (EP X pins σ Q) X.xe s
def jd:PE X e (yD X e):=λpins s σ H Q I h=>h pins s I
def SE.sem(h:"S" e f){σ:St}{F H:Hp}{ρ:Rho}{Q:VK}(S:StOk (kx X) F0 H0 F H ρ σ)
  (k:KE (XP X F0 H0) (f ρ) λw=>∀ v F' H',Gr F H F' H'->Vok (kx X) H F' H' v w->Q v H'):yD X e σ H Q :=
 λpins s I=>h pins s σ F H ρ _ S I (k.imp λw q v u F' H' s' g vo r I'=>#[v,H',I',r,q v F' H' g vo])
def qa5(X:Cx)(e:Expr):TT:=λσ H Q=>∀(pins:List (Addr×Obj)) (s:ab),"I" H s->X[3] (isTrue e X.env (eval e X.env)) (TP X pins σ Q) X.xe s
def qa6:PT X e (qa5 X e):=λpins s σ H Q I h=>h pins s I
def Qz(X:Cx)(st:List Stmt):TS:=λD σ H=>∀(pins:List (Addr×Obj)) (s:ab),"I" H s->X[3] (execs st X.env) (SP X pins D) X.xe s
def ub{st:List Stmt}:PSs X st (Qz X st):=λpins s σ H D I h=>h pins s I
structure Nm(X:Cx)(i:Nat)(x:Str):Prop where
 n:X.N[i]?=!x
 v:Vis X.env.scope x
 d:(x==("__debug__":Str))=false
 c:(x==("__classdict__":Str))=false
def pvN{i:Nat}(h:Nm X i x):PE X (.Name x pos) (Qq i):=WF h.n h.v h.d h.c
section
variable{X:Cx}{F0 H0:Hp}
def qb(i){x:Str}{pos:Pos}(z:(Nm X i x)["t"]):"S" (.Name x pos) (q9 i):=by
 intro pins s σ F H ρ Q S I h;have go:∀ w w',ρ[i]?=!(!w)->(∀ v,Eok (kx X) H0 F H v w->Vok (kx X) H F H v w') ->
   (∀ v u F' H' s',Gr F H F' H'->Vok (kx X) H F' H' v w'->RelV v u->"I" H' s'->Q u s')->X[3] (eval (.Name x pos) X.env) Q X.xe s:=λw w' e t k=>by
  let⟨v,e1,q⟩:=S.val i w e;show thn (pvN z pins s σ H (λv' H'=>v'=v/\H'=H) I #[v,e1,rfl,rfl]) λu s' #[v',H',I',r,ev,eh]=>?_
  subst ev eh;show k v' u F H' s' (Gr.refl S.s) (t v' q) r I'
 cases e:ρ[i]? with
 | none=>delta q9 at h;rw[e]at h;show h.elim
 | some w =>
  cases w with
  | none=>delta q9 at h;rw[e]at h;show h.elim
  | some w =>
   delta q9 at h
   rw[e]at h;cases w with
   | fz d=>show go _ d[8] e (λv q=>q) h
   | ow d=>show go _ (.br d) e (λv #[a,o,e1,_,_,e2,r]=>#[a,o,e1,e2,r]) h
   | lk d=>show go _ d[8] e (λv q=>q.1) h
   | od d=>show h.elim
   | br d=>show go _ (.br d) e (λv #[a,o,e1,e2,r]=>#[a,o,e1,S.gr.h _ _ e2,r]) h
def uc(h:PE X e (tC v))(r:∀ F,Rep (kx X) F v d):"S" e (eC d):=by
 show λpins s σ F H ρ Q S I k=>thn (h pins s σ H (λv' H'=>v'=v/\H'=H) I #[rfl,rfl]) λu s' #[v',H',I',rv,ev,eh]=>?_
 subst ev eh;show k v' u F H' s' (Gr.refl S.s) (r F) rv I'
def qf{j pos}:"S" (.Constant i[6] j pos) i[5]:=uc MM λ_=>rfl
def wa{j pos}:"S" (.Constant (.bool b) j pos) (eC (.bl b)):=uc MN λ_=>rfl
def kE{j pos}:"S" (.Constant .none j pos) (eC .non):=uc MO λ_=>rfl
def qO{j pos}:"S" (.Constant (.str x) j pos) (eC (.str x)):=uc MP λ_=>rfl
def Y6(z:X.mg x=!u)(r:RelV v u)(q:∀ F,Rep (kx X) F v d)(B:(Gl X x)["r"])(hd:((x==("__debug__"))=false)["d"]) :
  "S" (.Name x pos) (eC d):=uc (MQ B z r hd) q
abbrev Wish(X:Cx)(F H:Hp)(r:R En)(Q:VK):Prop:=KE (λ_=>False) r λw=>∀ v F' H',Gr F H F' H'->Vok (kx X) H F' H' v w->Q v H'
def OpD(X:Cx)(f:aa->aa->Sem aa)(g:D->D->R En):Prop :=
 ∀(pins:List (Addr×Obj)) (s:ab) (σ:St) (F H:Hp) (x y:V) (v u:aa) (dx dy:D) (Q:VK),"I" H s->Le F H->RelV x v->RelV y u->RdV (kx X) F H x dx->RdV (kx X) F H y dy->Wish X F H (g dx dy) Q ->
  X[3] (f v u) (EP X pins σ Q) X.xe s
def zW(X:Cx)(f:aa)(g:List D->R En):Prop :=
 ∀(pins:List (Addr×Obj)) (s:ab) (σ:St) (F H:Hp) (xs:List V) (us:List aa) (ds:List D) (Q:VK),"I" H s->Le F H->Vals xs us->Paired (RdV (kx X) F H) xs ds->Wish X F H (g ds) Q ->
  X[3] (call f us) (EP X pins σ Q) X.xe s
variable{a b:Expr}{fa fb:EF}{pos:Pos}{g:D->D->R En}
def yE{Q:aa->ab->Prop}{pins:List (Addr×Obj)}{σ:St}(B:Gr F H F2 H2)
  (h:KE (XP X F0 H0) r λw=>∀ v u F' H' s',Gr F H F' H'->Vok (kx X) H F' H' v w->RelV v u->"I" H' s'->Q u s') :
  Wish X F2 H2 r λv H'=>∀ u s',RelV v u->"I" H' s'->Q u s':=by
 show KE.impX h (λw k v F' H' g' q u s' r I=>(k v u F' H' s' (B.trans g') (Vok.older (λa e=>Le.none B.h e) q) r I)) λ_ z=>z.elim
def vz{pins:List (Addr×Obj)}{σ:St}{t:Sem aa}{s:ab}
  (h:X[3] t (EP X pins σ λv H'=>∀ u s',RelV v u->"I" H' s'->Q u s') X.xe s):X[3] t Q X.xe s :=
 thn h λu s' #[v,H',I',r,q]=>q u s' r I'
def two{f:aa->aa->Sem aa}(B:"S" a fa)(O:"S" b fb){pins:List (Addr×Obj)}{s:ab}{σ:St}{F H:Hp}{ρ:Rho}{Q:aa->ab->Prop}(S:StOk (kx X) F0 H0 F H ρ σ)(I:"I" H s)
  (h:KE (XP X F0 H0) (eOp g fa fb ρ) λw=>∀ v u F' H' s',Gr F H F' H'->Vok (kx X) H F' H' v w->RelV v u->"I" H' s'->Q u s')
  (U:∀ s F H x y v u dx dy Q,"I" H s->Le F H->RelV x v->RelV y u->RdV (kx X) F H x dx->RdV (kx X) F H y dy->Wish X F H (g dx dy) Q ->
   X[3] (f v u) (EP X pins σ Q) X.xe s) :
  X[3] (eval a X.env) (λv z=>X[3] (eval b X.env) (λu s₂=>X[3] (f v u) Q X.xe s₂) X.xe z) X.xe s:=by
 show B pins s σ F H ρ _ S I ((KE.bind h).imp λwx h1 v u F1 H1 s1 g1 q1 r1 I1=>(O pins s1 σ F1 H1 ρ _ (S.grow g1) I1 ((KE.bind h1).imp λwy h2 v2 u2 F2 H2 s2 g2 q2 r2 I2=>(vz (U s2 F2 H2 v v2 u u2 wx.d wy.d _ I2 g2.s r1 r2 (RdV.gr g2 (Vok.rd q1)) (Vok.rd q2) (yE (g1.trans g2) h2))))))
def qq(z:OpD X (binaryOp op) g)(B:"S" a fa)(O:"S" b fb):"S" (.BinOp a op b pos) (eOp g fa fb) :=
 λpins s σ F H ρ Q S I h=>wpAny_BinOp (two B O S I h λs F H x y v u dx dy Q=>z pins s σ F H x y v u dx dy Q)
def wM(z:OpD X (compareOp op) g)(B:"S" a fa)(O:"S" b fb)(U:behindInMarks op b=false:=by first|show WG _ "d" "d"|rfl) :
  "S" (.Compare a [op] [b] pos) (eOp g fa fb) :=
 λpins s σ F H ρ Q S I h=>wpAny_Compare1 (two B O S I h λs F H x y v u dx dy Q=>z pins s σ F H x y v u dx dy Q) U
def je{Q:VK}(s:Le F H)(h:Wish X F H (.ok d[8]) Q)(r:Rep (kx X) F v d):Q v H:=h v F H (Gr.refl s) r
def vK(z:OpR X f r)
  (h:∀ F H x y dx dy Q,Le F H->RdV (kx X) F H x dx->RdV (kx X) F H y dy->Wish X F H (g dx dy) Q->r x y H Q):OpD X f g :=
 λpins s σ F H x y v u dx dy Q I l rx ry qx qy w=>z pins s σ H x y v u Q I rx ry (h F H x y dx dy Q l qx qy w)
def jV:OpD X (binaryOp .Sub) jc:=vK Gu λF H x y dx dy Q l qx qy w=>by
 cases dx<;>first|show w.elim|skip
 cases dy<;>first|show w.elim|skip
 show#[_,_,RdV.int qx,RdV.int qy,je l w rfl]
def wc:OpD X (binaryOp .Mult) zm:=vK Gv λF H x y dx dy Q l qx qy w=>by
 cases dx<;>first|show w.elim|skip
 cases dy<;>first|show w.elim|skip
 rename_i i j
 delta zm at w
 dsimp only at w;by_cases c:(fits b64 i||fits b64 j)=true
 .rw[iP c]at w;have c:(-(2 ^ 64)<i/\i<2 ^ 64)\/(-(2 ^ 64)<j/\j<2 ^ 64):=by
   rw[Bool.or_eq_true,fits_iff,fits_iff]at c;lia
  show#[_,_,RdV.int qx,RdV.int qy,c,je l w rfl]
 rw[iN c]at w;show w.elim
def yF:OpD X (binaryOp .Mod) vJ:=vK Gx λF H x y dx dy Q l qx qy w=>by
 cases dx<;>first|show w.elim|skip
 cases dy<;>first|show w.elim|skip
 rename_i i j
 delta vJ at w
 dsimp only at w;by_cases c:0<j
 .rw[iP c]at w;show#[_,_,RdV.int qx,RdV.int qy,c,je l w rfl]
 rw[iN c]at w;show w.elim
def kG:OpD X (binaryOp .FloorDiv) vU:=vK Gw λF H x y dx dy Q l qx qy w=>by
 cases dx<;>first|show w.elim|skip
 cases dy<;>first|show w.elim|skip
 rename_i i j
 delta vU at w
 dsimp only at w;by_cases c:0<j/\j<1073741824
 .rw[iP c]at w;show#[_,_,RdV.int qx,RdV.int qy,c,je l w rfl]
 rw[iN c]at w;show w.elim
def vL:OpD X (compareOp .Lt) dLt:=vK GA λF H x y dx dy Q l qx qy w=>by
 cases dx<;>first|show w.elim|skip
 cases dy<;>first|show w.elim|skip
 show#[_,_,RdV.int qx,RdV.int qy,je l w rfl]
def wg:OpD X (compareOp .LtE) dLe:=vK GB λF H x y dx dy Q l qx qy w=>by
 cases dx<;>first|show w.elim|skip
 cases dy<;>first|show w.elim|skip
 show#[_,_,RdV.int qx,RdV.int qy,je l w rfl]
def Zk:OpD X (compareOp .Gt) dGt:=vK GC λF H x y dx dy Q l qx qy w=>by
 cases dx<;>first|show w.elim|skip
 cases dy<;>first|show w.elim|skip
 show#[_,_,RdV.int qx,RdV.int qy,je l w rfl]
end
mutual
def toPy:D->PyData
 | .non=>.none|.bl b=>.bool b|.int i=>.int i|.str x=>.str x
 | .tup xs=>.tuple (zg xs)|.lst xs=>.list (zg xs)
 | _=>.none
def zg:List D->List PyData
 | []=>[]
 | x::xs=>toPy x::zg xs
end
mutual
theorem QA:∀(n m:Nat) (a b:D),qK n a=true->qK m b=true->PyData.eqv (toPy a) (toPy b)=deq a b
 | n,m,a,b,ha,hb=>by
  cases a<;>cases b<;>first
   | rfl
   | (simp[qK]at ha;done)
   | (simp[qK]at hb;done)
   | skip
  .rename_i xs ys;cases n with
   | zero=>simp[qK]at ha
   | succ n =>
    cases m with
    | zero=>simp[qK]at hb
    | succ m=>show Zl n m xs ys ha hb
  rename_i xs ys;cases n with
  | zero=>simp[qK]at ha
  | succ n =>
   cases m with
   | zero=>simp[qK]at hb
   | succ m=>show Zl n m xs ys ha hb
theorem Zl:∀(n m:Nat) (a b:List D),a.all (qK n)=true->b.all (qK m)=true->PyData.eqvAll (zg a) (zg b)=deqs a b
 | _,_,[],[],_,_=>rfl
 | _,_,[],_::_,_,_=>rfl
 | _,_,_::_,[],_,_=>rfl
 | n,m,x::xs,y::ys,ha,hb=>by
  rw[pG,hE]at ha hb;show(PyData.eqv (toPy x) (toPy y)&&PyData.eqvAll (zg xs) (zg ys))=(deq x y&&deqs xs ys);rw[QA n m x y ha.1 hb.1,Zl n m xs ys ha.2 hb.2]
end
def Y7(x:D)(n m:Nat)(z:qK n x=true):∀ ys:List D,ys.all (qK m)=true->((zg ys).any λy=>PyData.eqv y (toPy x))=din x ys:=λys=>ys.rec
 (λ_=>rfl)
 λy ys IH h=>by
  rw[pG,hE]at h;show(PyData.eqv (toPy y) (toPy x)||(zg ys).any λy=>PyData.eqv y (toPy x))=(deq y x||din x ys)
  rw[QA m n y x h.1 z,IH h.2]
theorem wN:∀ n d,qK n d=true->(toPy d).canLay0=true/\(toPy d).depth<=n
 | n,.non,_=>#[rfl,tP _]
 | n,.bl _,_=>#[rfl,tP _]
 | n,.int _,_=>#[rfl,tP _]
 | n,.str x,h=>#[by cases n<;>show h,tP _]
 | 0,.tup _,h=>by simp[qK]at h
 | 0,.lst _,h=>by simp[qK]at h
 | n+1,.tup xs,h=>by
  have k:∀ ys,ys.all (qK n)=true->PyData.canLayAll0 (zg ys)=true/\PyData.depthAll (zg ys)<=n:=by
   intro ys
   induction ys with
   | nil=>intro _;show#[rfl,tP _]
   | cons y ys ih =>
    intro hy;rw[pG,hE]at hy;let⟨a1,a2⟩:=wN n y hy.1;let⟨b1,b2⟩:=ih hy.2;show#[?_,?_]
    .show((toPy y).canLay0&&PyData.canLayAll0 (zg ys))=true;rw[a1,b1];rfl
    show max (toPy y).depth (PyData.depthAll (zg ys))<=n;lia
  let⟨k1,k2⟩:=k xs h;show#[k1,Nat.succ_le_succ k2]
 | n+1,.lst xs,h=>by
  have k:∀ ys,ys.all (qK n)=true->PyData.canLayAll0 (zg ys)=true/\PyData.depthAll (zg ys)<=n:=by
   intro ys
   induction ys with
   | nil=>intro _;show#[rfl,tP _]
   | cons y ys ih =>
    intro hy;rw[pG,hE]at hy;let⟨a1,a2⟩:=wN n y hy.1;let⟨b1,b2⟩:=ih hy.2;show#[?_,?_]
    .show((toPy y).canLay0&&PyData.canLayAll0 (zg ys))=true;rw[a1,b1];rfl
    show max (toPy y).depth (PyData.depthAll (zg ys))<=n;lia
  let⟨k1,k2⟩:=k xs h;show#[k1,Nat.succ_le_succ k2]
 | n,.dK _,h=>by cases n<;>simp[qK]at h
 | n,.dT _,h=>by cases n<;>simp[qK]at h
 | n,.xc _ _,h=>by cases n<;>simp[qK]at h
section
variable{X:Cx}{pins:List (Addr×Obj)}{σ:St}{F H:Hp}{s:ab}
mutual
theorem Zm(I:"I" H s)(l:Le F H):∀(n:Nat) (d:D) {v:V} {u:aa},qK n d=true->Rep (kx X) F v d->RelV v u->∃ as,Reads s.heap u (toPy d) as
 | _,.non,v,u,_,r,q=>by cases (show v=.non from r);cases (show u=Value.none from q);show#[_,.none]
 | _,.bl b,v,u,_,r,q=>by cases (show v=.bl b from r);cases (show u=Value.bool b from q);show#[_,.bool b]
 | _,.int i,v,u,_,r,q=>by cases (show v=.int i from r);let⟨t,rfl⟩:=(show ∃ t,u=Value.int i t from q);show#[_,.int i t]
 | _,.str x,v,u,_,r,q=>by cases (show v=.str x from r);let⟨t,rfl⟩:=(show ∃ t,u=Value.str x t from q);show#[_,.str x t]
 | 0,.tup _,_,_,h,_,_=>by simp[qK]at h
 | 0,.lst _,_,_,h,_,_=>by simp[qK]at h
 | n+1,.tup ds,v,u,h,r,q=>by
  let⟨a,vs,rfl,hq,rs⟩:=r;cases (show u=Value.ref a from q)
  let⟨its,rv,⟨o,e1,e2,m,e3⟩,hz⟩:=I.tuple (SqT.le l hq);let⟨as,hr⟩:=QB I l n ds h rs rv;show#[_,.tuple e1 e2 e3 hr[""]]
 | n+1,.lst ds,v,u,h,r,q=>by
  let⟨a,vs,rfl,hq,rs⟩:=r;cases (show u=Value.ref a from q)
  let⟨its,rv,⟨o,m,e1,e2,_,e3⟩,hz⟩:=I.list (SqL.le l hq);let⟨as,hr⟩:=QB I l n ds h rs rv;show#[_,.list e1 e2 e3 hr[""]]
 | n,.dK _,_,_,h,_,_=>by cases n<;>simp[qK]at h
 | n,.dT _,_,_,h,_,_=>by cases n<;>simp[qK]at h
 | n,.xc _ _,_,_,h,_,_=>by cases n<;>simp[qK]at h
theorem QB(I:"I" H s)(l:Le F H):∀(n:Nat) (ds:List D) {vs:List V} {us:List aa},ds.all (qK n)=true->Reps (kx X) F vs ds->Vals vs us->∃ as,ReadsAll s.heap us (zg ds) as
 | n,[],vs,us,_,r,q=>by
  cases (show vs=[]from r)
  cases q;show#[_,.nil]
 | n,d::ds,vs,us,h,r,q=>by
  let⟨v,r',rfl,r1,r2⟩:=r;rw[pG,hE]at h;cases q with
  | cons q1 q2 =>
   let⟨as,h1⟩:=Zm I l n d h.1 r1 q1;let⟨bs,h2⟩:=QB I l n ds h.2 r2 q2;show#[_,.cons h1 h2]
end
def yb(I:"I" H s)(l:Le F H){n:Nat}(h:qK n d=true)(r:RdV (kx X) F H v d)(q:RelV v u):∃ as,Reads s.heap u (toPy d) as:=by
 rcases r with r|⟨a,o,rfl,e2,r⟩
 .show Zm I l n d h r q
 cases d with
 | lst ds =>
  cases n with
  | zero=>simp[qK]at h
  | succ n =>
   cases o with
   | lst vs =>
    cases (q);let⟨its,rv,⟨o,m,e1,e2,_,e3⟩,hz⟩:=I.list (SqL.of e2);let⟨as,hr⟩:=QB I l n ds h r rv;show#[_,.list e1 e2 e3 hr[""]]
   | _=>show r.elim
 | _=>show Zm I l n _ h (RdV.flat (.inr #[a,o,rfl,e2,r]) (λ_ e=>nomatch e) (λ_ e=>by cases e<;>(cases n<;>simp[qK]at h)) λ_ e=>by cases e<;>(cases n<;>simp[qK]at h)) q
end
section
variable{X:Cx}{F0 H0:Hp}
def zh(z:X.A.units+10<cLine):OpD X (compareOp .Eq) dEq:=by
 intro pins s σ F H x y v u dx dy Q I l rx ry qx qy w
 delta dEq at w
 by_cases c:(eqok dx&&eqok dy)=true
 .rw[iP c]at w;rw[hE]at c;let⟨as,h1⟩:=yb I l c.1 qx rx;let⟨bs,h2⟩:=yb I l c.2 qy ry;let⟨a1,a2⟩:=wN 8 dx c.1;let⟨b1,b2⟩:=wN 8 dy c.2;show SeqAt.compareEq_reads h1 h2 a1 b1 "" ?_
  rw[QA 8 8 dx dy c.1 c.2];show#[.bl _,H,I,rfl,je l w rfl]
 rw[iN c]at w;show w.elim
def Zn(z:X.A.units+10<cLine):OpD X (compareOp .NotEq) dNe:=by
 intro pins s σ F H x y v u dx dy Q I l rx ry qx qy w
 delta dNe at w
 by_cases c:(eqok dx&&eqok dy)=true
 .rw[iP c]at w;rw[hE]at c;let⟨as,h1⟩:=yb I l c.1 qx rx;let⟨bs,h2⟩:=yb I l c.2 qy ry;let⟨a1,a2⟩:=wN 8 dx c.1;let⟨b1,b2⟩:=wN 8 dy c.2;show SeqAt.compareNe_reads h1 h2 a1 b1 "" ?_
  rw[QA 8 8 dx dy c.1 c.2];show#[.bl _,H,I,rfl,je l w rfl]
 rw[iN c]at w;show w.elim
theorem RepK.look:∀{kds:List (Sum Int Str×D)} {kvs:List (Key×V)} (k:Key),RepK κ F kvs kds->(∃ v d,js kvs k=!v/\look k kds=!d/\Rep κ F v d)\/(js kvs k=none/\look k kds=none)
 | [],_,k,h=>by cases (h);show .inr #[rfl,rfl]
 | (q,d)::r,_,k,h=>by
  let⟨v,kr,rfl,h1,h2⟩:=h;by_cases e:q=k
  .show .inl #[v,d,?_,?_,h1]
   .simp[js,e]
   simp[L3.look,e]
  rcases RepK.look k h2 with⟨v',d',a,b,c⟩|⟨a,b⟩
  .show .inl #[v',d',?_,?_,c]
   .simpa[js,e]using a
   simpa[L3.look,e]using b
  show .inr #[?_,?_]
  .simpa[js,e]using a
  simpa[L3.look,e]using b
theorem RepK.length:∀{kds} {kvs},RepK κ F kvs kds->kvs[1]=kds[1]
 | [],_,h=>by cases (h);rfl
 | (q,d)::r,_,h=>by
  let⟨v,kr,rfl,h1,h2⟩:=h;simp[RepK.length h2]
def Inv.dictK{s:ab}(I:"I" H s)(h:SqK (kx X) H a kvs) :
  (a==sysModules)=false/\∃ vs,KV kvs vs/\s.heap.DictOf (jj X.prog X.w) a vs:=by
 rcases h with h|⟨hs,o,es,ep,vs,hk,h1,h2,h3,h4,h5,h6⟩
 .let⟨_,hd,vs,z,dd⟩:=Qv I.hok h;show#[hd,vs,z,dd]
 show#[hs,vs,h6,o,es,ep,I.kIn a o hk,h1,h2,h3,h4,h5]
def Zo(e:zC d=!k)(r:RdV κ F H v d)(q:RelV v u):RelV (kV k) u:=by
 cases d with
 | int i=>cases e;cases RdV.int r;show q
 | str x=>cases e;cases RdV.str r;show q
 | _=>cases e
def IxD(X:Cx)(g:D->D->R En):Prop :=
 ∀(value z:Expr) (pins:List (Addr×Obj)) (s:ab) (σ:St) (F H:Hp) (x y:V) (v u:aa) (dx dy:D) (Q:VK),"I" H s->Le F H->RelV x v->RelV y u->RdV (kx X) F H x dx->RdV (kx X) F H y dy->Wish X F H (g dx dy) Q ->
  subscripted z false v u=operate [v,u] (getItem v u)->X[3] (subscriptTail value z v u) (EP X pins σ Q) X.xe s
variable{a b:Expr}{fa fb:EF}{pos:Pos}{g:D->D->R En}
def ud(z:IxD X g)(B:"S" a fa)(O:"S" b fb)(U:y9 b:=by show λ_ _=>rfl):"S" (.Subscript a b pos) (eOp g fa fb) :=
 λpins s σ F H ρ Q S I h=>Subscript_ (two B O S I h λs F H x y v u dx dy Q I l rx ry qx qy w=>z a b pins s σ F H x y v u dx dy Q I l rx ry qx qy w (U _ _))
def Y8{xs:List α}{ys:List β}(h:xs[1]=ys[1]){i:Int}{x:α}(e:ati xs i=!x):∃ j:Nat,xs[j]?=!x/\∀ y,ys[j]?=!y->atI ys i=!y:=by
 delta ati at e
 cases q:ixn xs[1] i with
 | none=>rw[q]at e;cases e
 | some j =>
  rw[q]at e;show#[j,e,λy hy=>?_]
  delta atI
  have:ixN ys[1] i=!j:=by rw[<- h];show q
  rw[this];show hy
def qe:D->D->R En
 | .lst xs,.int i=>okD (ati xs i)
 | .tup xs,.int i=>okD (ati xs i)
 | _,_=>.stuck
def Y9:IxD X qe:=by
 intro value B pins s σ F H x y v u dx dy Q I l rx ry qx qy w hs;cases dx<;>first|show w.elim|skip
 .rename_i ds;cases dy<;>first|show w.elim|skip
  rename_i i
  delta qe at w
  dsimp only at w;cases e:ati ds i with
  | none=>rw[e]at w;show w.elim
  | some d =>
   rw[e]at w;let⟨p,vs,rfl,hq,_,rs⟩:=RdV.tup l qx;let⟨j,ej,k⟩:=Y8 (Reps.length rs).symm e;let⟨z,ez,rz⟩:=Reps.get rs ej;show Tc value B pins s σ H _ _ v u Q I rx ry #[p,vs,i,z,rfl,RdV.int qy,hq,k z ez,je l w rz] hs
 rename_i ds;cases dy<;>first|show w.elim|skip
 rename_i i
 delta qe at w
 dsimp only at w;cases e:ati ds i with
 | none=>rw[e]at w;show w.elim
 | some d =>
  rw[e]at w;let⟨p,vs,rfl,hq,rs⟩:=RdV.lst l qx;let⟨j,ej,k⟩:=Y8 (Reps.length rs).symm e;let⟨z,ez,rz⟩:=Reps.get rs ej;show ix_list value B pins s σ H _ _ v u Q I rx ry #[p,vs,i,z,rfl,RdV.int qy,hq,k z ez,je l w rz] hs
def qo(z:"S" a fa)(B:"S" b fb)(O:y9 b:=by show λ_ _=>rfl):"S" (.Subscript a b pos) (eOp qe fa fb):=ud Y9 z B O
def ue:D->D->R En
 | .dK kvs,k=>(match zC k with|some q=>okD (look q kvs)|none=>.stuck)
 | _,_=>.stuck
def qa7:IxD X ue:=by
 intro value B pins s σ F H x y v u dx dy Q I l rx ry qx qy w hs;cases dx<;>first|show w.elim|skip
 delta ue at w
 dsimp only at w;cases e:zC dy with
 | none=>rw[e]at w;show w.elim
 | some k =>
  rw[e]at w;dsimp only at w;let⟨p,kvs,rfl,hq,rk⟩:=RdV.dK l qx;cases (rx);let⟨hd,vs,O,dd⟩:=Inv.dictK I hq;rcases RepK.look k rk with⟨z,d,a1,a2,rz⟩|⟨_,a2⟩
  .rw[a2]at w;let⟨w',hw,U⟩:=RelO.some_of (by rw[<- a1];show O.val k)
   show tail_any dd.typeIs dg.lookup (wpAny_getItem_of (ku (Zo e qy ry)) dd.mapOf hw #[z,H,I.tok _,U,je l w rz]) hs
  rw[a2]at w;show w.elim
def qa8(z:"S" a fa)(B:"S" b fb)(O:y9 b:=by show λ_ _=>rfl):"S" (.Subscript a b pos) (eOp ue fa fb):=ud qa7 z B O
def qh:SA X F0 H0 [] []:=λpos pins s σ F H ρ Q S I h=>tM (h [] [] F H s (Gr.refl S.s) rfl .nil I)
def qc{f:EF}{r:List EF}(z:"S" e f)(B:SA X F0 H0 es r)(O:(sE (e::es) X.env=(false,eval e X.env)::sE es X.env)["r"]):SA X F0 H0 (e::es) (f::r):=by
 intro pos pins s σ F H ρ Q S I h;rw[O];show hZ (z pins s σ F H ρ _ S I ((KE.bind h).imp λw h1 v u F1 H1 s1 g1 q1 r1 I1=>(B pos pins s1 σ F1 H1 ρ _ (S.grow g1) I1 ((KE.bind h1).imp λws h2 vs us F2 H2 s2 g2 q2 r2 I2=>(h2 (v::vs) (u::us) F2 H2 s2 (g1.trans g2) #[v,vs,rfl,Vok.gr g2 q1,Voks.older (λa e=>Le.none g1.h e) q2] (.cons r1 r2) I2)))))
def zX:sz=sizeLine:=pC.symm
def qa9{F H F1 H1:Hp}(s:Le F H)(g:Gr F H F1 H1)(hp:H1 p=none)(r:Reps (kx X) (jK H F1 H1) vs ds) :
  Gr F H (jK H F1 H1) (upd H1 p (.lst vs))/\Vok (kx X) H (jK H F1 H1) (upd H1 p (.lst vs)) (.ref p) (.lst ds)[9]:=by
 let⟨g2,_⟩:=vh s g;show#[(g2.trans (Gr.new g2.s hp)),p,_,rfl,Le.none g.h hp,Le.none g2.s hp,qS,r]
def qaa{F H F1 H1:Hp}(s:Le F H)(g:Gr F H F1 H1)(hp:H1 p=none)(r:Reps (kx X) (jK H F1 H1) vs ds) :
  Gr F H (upd (jK H F1 H1) p (.tup vs)) (upd H1 p (.tup vs))/\Vok (kx X) H (upd (jK H F1 H1) p (.tup vs)) (upd H1 p (.tup vs)) (.ref p) (.tup ds)[8]:=by
 let⟨g2,_⟩:=vh s g;have g3:=Gr.newF (o:=.tup vs) g2.s hp;show#[g2.trans g3,p,vs,rfl,SqT.of qS,Reps.le g3.f _ r]
def ju(h:SA X F0 H0 es f):"S" (.List es pos) (qJ f):=by
 show λpins s σ F H ρ Q S I k=>wpAny_List_spliced (h pos pins s σ F H ρ _ S I ((KE.bind k).imp λws k1 vs us F1 H1 s1 g1 q1 r1 I1=>?_))
 cases e:stAll ws with
 | exc x=>rw[e]at k1;show k1.elim
 | stuck=>rw[e]at k1;cases k1
 | ok ds =>
  rw[e]at k1;have rs:=Voks.stAll S.s g1 q1 e;by_cases c:ds[1]<=sz
  .have k2:KE (XP X F0 H0) (R.ok (En.ow (.lst ds))) λw=>∀ v u F' H' s',Gr F H F' H'->Vok (kx X) H F' H' v w->RelV v u->"I" H' s'->Q u s':=by
    simpa[iP c]using k1
   have hz:vs[1]<=sizeLine:=by rw[Reps.length rs];show c
   show#[by rw[<- r1[1]];show hz,?_]
   let⟨g3,q3⟩:=qa9 S.s g1 (I1.hok.fresh (gC _)) rs;show k2 _ _ _ _ _ g3 q3 rfl (I1.laid (λb u e=>gu _ e) (gC _) #[hz,us,0,r1,gM _ rfl])
  have:False:=by simpa[iN c,KE]using k1
  cases this
def vj(h:SA X F0 H0 es f):"S" (.Tuple es x1 pos) (jG f):=by
 show λpins s σ F H ρ Q S I k=>bD (h pos pins s σ F H ρ _ S I ((KE.bind k).imp λws k1 vs us F1 H1 s1 g1 q1 r1 I1=>?_))
 cases e:stAll ws with
 | exc x=>rw[e]at k1;show k1.elim
 | stuck=>rw[e]at k1;cases k1
 | ok ds =>
  rw[e]at k1;have rs:=Voks.stAll S.s g1 q1 e;by_cases c:ds[1]<=sz
  .have k2:KE (XP X F0 H0) (R.ok (En.fz (.tup ds))) λw=>∀ v u F' H' s',Gr F H F' H'->Vok (kx X) H F' H' v w->RelV v u->"I" H' s'->Q u s':=by
    simpa[iP c]using k1
   have hz:vs[1]<=sizeLine:=by rw[Reps.length rs];show c
   show#[by rw[<- r1[1]];show hz,?_]
   let⟨g3,q3⟩:=qaa S.s g1 (I1.hok.fresh (gC _)) rs;show k2 _ _ _ _ _ g3 q3 rfl (I1.laid (λb u e=>gu _ e) (gC _) #[hz,us,r1,#[_,gM _ rfl,rfl,_,rfl]])
  have:False:=by simpa[iN c,KE]using k1
  cases this
variable{x:Str}{e:Expr}{es:List Expr}{p:Pos}{id T:String}{gc:List D->R En}{f:List EF}
def jD(O:zW X (.builtin id) gc)(U:X.mg x=none)(Y:bootBuiltins x=!(.builtin id))(Z:SA X F0 H0 (e::es) f)(hg:(Gl X x)["r"])(hn:(x≠"__name__")["d"])(z:((x==("__debug__"))=false)["d"])
  (he:(sE (e::es) X.env=(false,eval e X.env)::sE es X.env)["r"])(B:((backTo pos (sE es X.env)).any (·.1)=false)["r"]):"S" (.Call (.Name x p) (e::es) [] pos) (eB gc f):=by
 show λpins s σ F H ρ Q S I h=>fC (zL I hg U Y (cD (Z pos pins s σ F H ρ _ S I ((KE.bind h).imp λws h1 vs us F1 H1 s1 g1 q1 r1 I1=>(vz (O pins s1 σ F1 H1 vs us _ _ I1 g1.s r1 (Voks.rd q1) (yE g1 h1))))) he B) hn z)
def jW(O:zW X (.type T) gc)(U:X.mg x=none)(Y:bootBuiltins x=!(.type T))(Z:SA X F0 H0 (e::es) f)(hg:(Gl X x)["r"])(hn:(x≠"__name__")["d"])(z:((x==("__debug__"))=false)["d"])
  (he:(sE (e::es) X.env=(false,eval e X.env)::sE es X.env)["r"])(B:((backTo pos (sE es X.env)).any (·.1)=false)["r"]):"S" (.Call (.Name x p) (e::es) [] pos) (eB gc f):=by
 show λpins s σ F H ρ Q S I h=>fC (zL I hg U Y (tF (Z pos pins s σ F H ρ _ S I ((KE.bind h).imp λws h1 vs us F1 H1 s1 g1 q1 r1 I1=>(vz (O pins s1 σ F1 H1 vs us _ _ I1 g1.s r1 (Voks.rd q1) (yE g1 h1))))) he B) hn z)
def kH(z:y8 X fv r)(h:∀ F H xs ds Q,Le F H->Paired (RdV (kx X) F H) xs ds->Wish X F H (gc ds) Q->r xs H Q):zW X fv gc :=
 λpins s σ F H xs us ds Q I l rx qx w=>z pins s σ H xs us Q I rx (h F H xs ds Q l qx w)
def qab:List D->R En
 | [.lst xs]=>okI xs[1]
 | [.tup xs]=>okI xs[1]
 | _=>.stuck
def Ya:zW X (.builtin "len") qab:=kH Tl λF H xs ds Q l qx w=>by
 cases qx with
 | nil=>show w.elim
 | @cons x d xs ds q1 q2 =>
  cases q2 with
  | cons _ _=>cases d<;>show w.elim
  | nil =>
   cases d<;>first|show w.elim|skip
   .let⟨p,vs,rfl,hq,_,rs⟩:=RdV.tup l q1;show#[p,vs,rfl,.inr hq,?_];rw[Reps.length rs];show je l w rfl
   let⟨p,vs,rfl,hq,rs⟩:=RdV.lst l q1;show#[p,vs,rfl,.inl hq,?_];rw[Reps.length rs];show je l w rfl
def Yb:zW X (.type "list") Qy:=kH Tn λF H xs ds Q l qx w=>by
 cases qx with
 | nil=>show w.elim
 | @cons x d xs ds q1 q2 =>
  cases q2 with
  | cons _ _=>cases d<;>show w.elim
  | nil =>
   cases d<;>first|show w.elim|skip
   .let⟨p,vs,rfl,hq,_,rs⟩:=RdV.tup l q1;show#[p,vs,rfl,.inr hq,λq hn=>(w _ _ _ (Gr.new l hn) #[q,_,rfl,hn,Le.none l hn,qS,rs])]
   let⟨p,vs,rfl,hq,rs⟩:=RdV.lst l q1;show#[p,vs,rfl,.inl hq,λq hn=>(w _ _ _ (Gr.new l hn) #[q,_,rfl,hn,Le.none l hn,qS,rs])]
end
section
variable{X:Cx}{F0 H0:Hp}{a b e:Expr}{fa fb f:EF}{pos:Pos}{g:D->D->R En}{t u:TF}
def Yc{σ:St}{F H:Hp}{x:V}{v:aa}{d:D}{Q:Bool->ab->Prop}(I:"I" H s)(l:Le F H)(z:RelV x v)(q:RdV (kx X) F H x d)
  (h:KE (XP X F0 H0) (kC d) λb=>∀ s',"I" H s'->Q b s'):X[3] (truthy v) Q X.xe s:=by
 have go:∀ b,TruV X.K x H b->(∀ s',"I" H s'->Q b s')->X[3] (truthy v) Q X.xe s:=λb tv k =>
  thn (GI pins s σ H x v (λb' H'=>b'=b/\H'=H) I z #[b,tv,rfl,rfl]) λb' s' #[H',I',eb,eh]=>by
   simp_all
 cases d with
 | non=>cases RdV.non q;show go false rfl h
 | bl b=>cases RdV.bl q;show go b rfl h
 | int i=>cases RdV.int q;show go (i != 0) rfl h
 | str y =>
  cases RdV.str q
  delta kC at h
  dsimp only at h;by_cases c:y[1]<=sz
  .rw[iP c]at h;show go _ #[by rw[<- zX];show c,rfl] h
  rw[iN c]at h;show h.elim
 | tup ds =>
  let⟨p,vs,rfl,hq,_,rs⟩:=RdV.tup l q;show go (not ds.isEmpty) (.inr (.inl #[vs,hq,?_])) h;have:=Reps.length rs
  grind
 | lst ds =>
  let⟨p,vs,rfl,hq,rs⟩:=RdV.lst l q;show go (not ds.isEmpty) (.inl #[vs,hq,?_]) h;have:=Reps.length rs
  grind
 | dK _=>show h.elim
 | dT _=>show h.elim
 | xc _ _=>show h.elim
def qY(z:OpD X (compareOp op) g)(B:"S" a fa)(O:"S" b fb)(U:behindInMarks op b=false:=by first|show WG _ "d" "d"|rfl) :
  ST X F0 H0 (.Compare a [op] [b] pos) (tE (eOp g fa fb)):=by
 show λpins s σ F H ρ Q S I h=>wpAny_isTrue_Compare1 (two B O S I ((KE.bind h).imp λw h1 v u F' H' s' g' q r I'=>(Yc I' g'.s r (Vok.rd q) (h1.imp λb k s2 I2=>k F' H' s2 g' I2))) λs F H x y v u dx dy Q=>z pins s σ F H x y v u dx dy Q) U
def jL(B:"S" e f)(hp:∀ z,isTrue e X.env z=(do let v <- z;standAt e.pos;holding [v] (truthy v)):=by intro _;rfl):ST X F0 H0 e (tE f):=by
 show λpins s σ F H ρ Q S I h=>isTrue_plain (B pins s σ F H ρ _ S I ((KE.bind h).imp λw h1 v u F' H' s' g' q r I'=>(Yc I' g'.s r (Vok.rd q) (h1.imp λb k s2 I2=>k F' H' s2 g' I2)))) (hp _)
def vA(z:ST X F0 H0 a t):ST X F0 H0 (.UnaryOp .Not a pos) (za t):=by
 show λpins s σ F H ρ Q S I h=>isTrue_not (z pins s σ F H ρ _ S I ((KE.bind h).imp λb k F' H' s' g' I'=>k F' H' s' g' I'))
variable{rest:List Expr}
def kI(z:ST X F0 H0 a t):SW X F0 H0 (.BoolOp .And [a] pos) t:=by
 show λwh pins s σ F H ρ Q S I h=>isTrue_and (z pins s σ F H ρ _ S I (h.imp λc k F' H' s' g' I'=>?_))
 cases c with
 | true=>show isTrue_and_nil (k F' H' s' g' I')
 | false=>show k F' H' s' g' I'
def uf(z:ST X F0 H0 a t):SW X F0 H0 (.BoolOp .Or [a] pos) t:=by
 show λwh pins s σ F H ρ Q S I h=>isTrue_or (z pins s σ F H ρ _ S I (h.imp λc k F' H' s' g' I'=>?_))
 cases c with
 | false=>show isTrue_or_nil (k F' H' s' g' I')
 | true=>show k F' H' s' g' I'
def Yd{σ:St}{Q:Bool->ab->Prop}(g':Gr F H F' H'){r:R Bool}(h:KE (XP X F0 H0) r λb=>∀ F2 H2 s2,Gr F H F2 H2->"I" H2 s2->Q b s2) :
  KE (XP X F0 H0) r λb=>∀ F2 H2 s2,Gr F' H' F2 H2->"I" H2 s2->Q b s2:=h.imp λb k F2 H2 s2 g2 I2=>k F2 H2 s2 (g'.trans g2) I2
def yc(z:ST X F0 H0 a t)(B:SW X F0 H0 (.BoolOp .And (b::rest) pos) u):SW X F0 H0 (.BoolOp .And (a::b::rest) pos) (zV t u):=by
 show λwh pins s σ F H ρ Q S I h=>isTrue_and (z pins s σ F H ρ _ S I ((KE.bind h).imp λc k F' H' s' g' I'=>?_))
 cases c with
 | true=>show B wh pins s' σ F' H' ρ Q (S.grow g') I' (Yd g' k)
 | false=>show k F' H' s' g' I'
def kJ(z:ST X F0 H0 a t)(B:SW X F0 H0 (.BoolOp .Or (b::rest) pos) u):SW X F0 H0 (.BoolOp .Or (a::b::rest) pos) (tOr t u):=by
 show λwh pins s σ F H ρ Q S I h=>isTrue_or (z pins s σ F H ρ _ S I ((KE.bind h).imp λc k F' H' s' g' I'=>?_))
 cases c with
 | false=>show B wh pins s' σ F' H' ρ Q (S.grow g') I' (Yd g' k)
 | true=>show k F' H' s' g' I'
def st_w(h:SW X F0 H0 e t):ST X F0 H0 e t:=h _
def Zp{σ:St}{Q:aa->ab->Prop}(g':Gr F H F' H'){r:R En}
  (h:KE (XP X F0 H0) r λw=>∀ v u F2 H2 s2,Gr F H F2 H2->Vok (kx X) H F2 H2 v w->RelV v u->"I" H2 s2->Q u s2) :
  KE (XP X F0 H0) r λw=>∀ v u F2 H2 s2,Gr F' H' F2 H2->Vok (kx X) H' F2 H2 v w->RelV v u->"I" H2 s2->Q u s2 :=
 h.imp λw k v u F2 H2 s2 g2 q r I2=>k v u F2 H2 s2 (g'.trans g2) (Vok.older (λa e=>Le.none g'.h e) q) r I2
def Zq(q:RdV (kx X) F H x d)(r:RelV x v)(h:KE (XP X F0 H0) (isB d) P):∃ b,v=.bool b/\P b:=by
 cases d<;>first|show h.elim|skip
 cases RdV.bl q;cases r;show#[_,rfl,h]
def QC{op}(h:"S" a fa):"S" (.BoolOp op [a] pos) fa:=λpins s σ F H ρ Q S I k=>BoolOp_one (h pins s σ F H ρ Q S I k)
def ug(z:"S" a fa)(B:"S" (.BoolOp .And (b::rest) pos) fb):"S" (.BoolOp .And (a::b::rest) pos) (yB fa fb):=by
 show λpins s σ F H ρ Q S I h=>BoolOp_and (z pins s σ F H ρ _ S I ((KE.bind h).imp λw h1 v u F' H' s' g' q r I'=>?_))
 let⟨c,rfl,h2⟩:=Zq (Vok.rd q) r (KE.bind h1);show pN ?_;cases c with
 | true=>show B pins s' σ F' H' ρ Q (S.grow g') I' (Zp g' h2)
 | false=>show h2 (.bl false) _ F' H' s' g' rfl rfl I'
def qac(z:"S" a fa):"S" (.UnaryOp .Not a pos) (Y5 fa):=by
 show λpins s σ F H ρ Q S I h=>UnaryOp_ (z pins s σ F H ρ _ S I ((KE.bind h).imp λw h1 v u F' H' s' g' q r I'=>?_))
 let⟨c,rfl,h2⟩:=Zq (Vok.rd q) r (KE.bind h1);show not_of (pN (h2 (.bl (not c)) _ F' H' s' g' rfl rfl I'))
def QD(z:ST X F0 H0 c t)(B:"S" a fa)(O:"S" b fb):"S" (.IfExp c a b pos) (eIf t fa fb):=by
 show λpins s σ F H ρ Q S I h=>wpAny_IfExp (z pins s σ F H ρ _ S I ((KE.bind h).imp λd k F' H' s' g' I'=>?_))
 cases d with
 | true=>show B pins s' σ F' H' ρ Q (S.grow g') I' (Zp g' k)
 | false=>show O pins s' σ F' H' ρ Q (S.grow g') I' (Zp g' k)
end
section
variable{X:Cx}{F0 H0:Hp}{e:Expr}{f:EF}{pos pos':Pos}{st:Stmt}{rest:List Stmt}{p q:SF}{t:TF}
def qT:SSs X F0 H0 [] qw:=λpins s σ F H ρ D S I h=>bB #[σ,H,I,h σ F H Le.refl S]
def qj(h1:SS X F0 H0 st p)(h2:SSs X F0 H0 rest q):SSs X F0 H0 (st::rest) (qg p q):=by
 intro pins s σ F H ρ D S I h;have go:∀ D',D'.rt=D.rt->D'.bk=D.bk->D'.ct=D.ct->PostS X F0 H0 F D' (p ρ)->(∀ B H' s',D'.nx B H'->Inv X pins B H' s'->X[3] (execs rest X.env) (SP X pins D) X.xe s') ->
   X[3] (execs (st::rest) X.env) (SP X pins D) X.xe s:=λD' er eb ec hp hn=>by
  show wpAny_execs_cons (thn (h1 pins s σ F H ρ D' S I hp) λfl s1 r=>?_)
  cases fl with
  | next=>let⟨B,H',I',r⟩:=r;show hn B H' s1 r I'
  | ret v=>let⟨x,B,H',I',rv,r⟩:=r;show#[x,B,H',I',rv,by rw[<- er];show r]
  | brk=>let⟨B,H',I',r⟩:=r;show#[B,H',I',by rw[<- eb];show r]
  | cont=>let⟨B,H',I',r⟩:=r;show#[B,H',I',by rw[<- ec];show r]
 delta qg at h
 cases ep:p ρ with
 | nx ρ' =>
  rw[ep]at h;show go {D with nx:=λB H'=>∃ F',Le F F'/\StOk (kx X) F0 H0 F' H' ρ' B} rfl rfl rfl (by rw[ep];show λB F' H' l S'=>#[F',l,S']) λB H' s' #[F',l,S'] I'=>(h2 pins s' B F' H' ρ' D S' I' (PostS.le l h))
 | rt w=>rw[ep]at h;show go {D with nx:=λ_ _=>False} rfl rfl rfl (by rw[ep];show h) λ_ _ _ z=>z.elim
 | bk ρ'=>rw[ep]at h;show go {D with nx:=λ_ _=>False} rfl rfl rfl (by rw[ep];show h) λ_ _ _ z=>z.elim
 | ct ρ'=>rw[ep]at h;show go {D with nx:=λ_ _=>False} rfl rfl rfl (by rw[ep];show h) λ_ _ _ z=>z.elim
 | exc x=>rw[ep]at h;show go {D with nx:=λ_ _=>False} rfl rfl rfl (by rw[ep];show h) λ_ _ _ z=>z.elim
 | stuck=>rw[ep]at h;cases h
def qm(h1:SS X F0 H0 st p):SSs X F0 H0 [st] p:=by
 show λpins s σ F H ρ D S I h=>wpAny_execs_cons (thn (h1 pins s σ F H ρ D S I h) λfl s1 r=>?_)
 cases fl with
 | next=>show bB r
 | ret v=>show r
 | brk=>show r
 | cont=>show r
def Ye:SS X F0 H0 (.Break pos) yC:=λpins s σ F H ρ D S I h=>wpAny_Break #[σ,H,I,h σ F H Le.refl S]
def Zr(z:"S" e f)(B:(swapsWith e none pos.line X.env=pure false)["r"]):SS X F0 H0 (.Expr e pos) (u9 f):=by
 show λpins s σ F H ρ D S I h=>wpAny_Expr_any (z pins s σ F H ρ _ S I ((PostS.of h).imp λw k v u F' H' s' g q r I'=>(#[σ,H',I',k σ F' H' g.f (S.grow g)]))) I.quiet B
def QE{P:En->Prop}(h:KE (XP X F0 H0) w.nm P):∃ w',w.nm=.ok w'/\P w'/\w'=w:=by
 cases w with
 | fz d=>show#[_,rfl,h,rfl]
 | ow d=>show#[_,rfl,h,rfl]
 | br d=>show h.elim
 | lk d=>show h.elim
 | od d=>show h.elim
def qp(i){x:Str}(z:X.N.Nodup)(B:"S" e f)(hi:(X.N[i]?=!x)["r"])(O:(Loc X.env.scope x)["t"])
  (U:(swapsWith e (!(.Name x pos')) pos.line X.env=pure false)["r"])(Y:(X.fn x=true\/X.env.scope.names.lookup x=some .local)["t"]) :
  SS X F0 H0 (.Assign [.Name x pos'] e pos) (qk i f):=by
 show λpins s σ F H ρ D S I h=>bZ (B pins s σ F H ρ _ S I ((KE.bind (PostS.of h)).imp λw k v u F' H' s' g q r I'=>?_)) U
 let⟨w',e1,k2,rfl⟩:=QE k;show xU I' z hi O r (λs2 I2=>#[_,H',I2,k2 _ F' H' g.f (S.setW g q e1)]) Y
def qA(z:"S" e f):SS X F0 H0 (.Return ↑e pos) (qt f):=by
 show λpins s σ F H ρ D S I h=>bU (z pins s σ F H ρ _ S I ((KE.bind (PostS.of h)).imp λw k v u F' H' s' g q r I'=>?_))
 let⟨w',e1,k2,rfl⟩:=QE k;show#[v,σ,H',I',r,k2 v F' H' (S.gr.trans g) (Vok.older (λa e=>Le.none S.gr.h e) q)]
def zi(i){x:Str}{pos':Pos}(z:(Nm X i x)["t"]):SS X F0 H0 (.Return (!(.Name x pos')) pos) (jA i):=by
 intro pins s σ F H ρ D S I h;have go:∀ w,ρ[i]?=!(!w)->(∀ v,Eok (kx X) H0 F H v w->Vok (kx X) H0 F H v w)->(∀ v F' H',Gr F0 H0 F' H'->Vok (kx X) H0 F' H' v w->D.rt v H') ->
   X[3] (exec (.Return (!(.Name x pos')) pos) X.env) (SP X pins D) X.xe s:=λw ew t k=>by
  let⟨v,e1,q⟩:=S.val i w ew;show bU (thn (pvN z pins s σ H (λv' H'=>v'=v/\H'=H) I #[v,e1,rfl,rfl]) λu s' #[v',H',I',r,ev,eh]=>?_)
  subst ev eh;show#[v',σ,H',I',r,k v' F H' S.gr (t v' q)]
 delta jA at h
 cases ew:ρ[i]? with
 | none=>rw[ew]at h;cases h
 | some w =>
  rw[ew]at h;cases w with
  | none=>cases h
  | some w =>
   cases w with
   | fz d=>show go _ ew (λv q=>q) h
   | ow d=>show go _ ew (λv q=>q) h
   | br d=>show h.elim
   | lk d=>show h.elim
   | od d=>show h.elim
def qU(z:ST X F0 H0 c t)(B:SSs X F0 H0 as p)(O:SSs X F0 H0 bs q):SS X F0 H0 (.If c as bs pos) (sIf t p q):=by
 show λpins s σ F H ρ D S I h=>wpAny_If (z pins s σ F H ρ _ S I ((PostS.of h).imp λd k F' H' s' g I'=>?_))
 cases d with
 | true=>show B pins s' σ F' H' ρ D (S.grow g) I' (PostS.le g.f k)
 | false=>show O pins s' σ F' H' ρ D (S.grow g) I' (PostS.le g.f k)
def kK(i){x:Str}{op:Operator}{g:D->D->R En}(B:X.N.Nodup)(O:OpD X (inplaceOp op) g)(U:"S" e f)(hi:(X.N[i]?=!x)["r"])(Y:(Loc X.env.scope x)["t"])
  (Z:(X.fn x=true\/X.env.scope.names.lookup x=some .local)["t"]):SS X F0 H0 (.AugAssign (.Name x pos') op e pos) (zb i g f):=by
 intro pins s σ F H ρ D S I h
 delta zb at h
 cases ew:ρ[i]? with
 | none=>rw[ew]at h;show h.elim
 | some w =>
  rw[ew]at h;cases w with
  | none=>show h.elim
  | some w =>
   cases w with
   | ow d=>show h.elim
   | br d=>show h.elim
   | lk d=>show h.elim
   | od d=>show h.elim
   | fz d =>
    let⟨v,e1,q⟩:=S.val i _ ew;have ip:PIp X op (λx y H' Q'=>∃ F' dx dy,Le F' H'/\RdV (kx X) F' H' x dx/\RdV (kx X) F' H' y dy/\Wish X F' H' (g dx dy) Q'):=λpins s σ H x y v u Q I rx ry #[F',dx,dy,l,qx,qy,w]=>O pins s σ F' H x y v u dx dy Q I l rx ry qx qy w
    show Gb B hi Y (jd) ip Z pins s σ H D I #[v,e1,U.sem S ((KE.bind (PostS.of h)).imp λwy k y F1 H1 g1 q1=>#[F1,d,wy.d,g1.s,Rep.le g1.f d q |> Or.inl,Vok.rd q1,?_])]
    show KE.impX (KE.bind k) (λw k2 z F2 H2 g2 q2=>?_) λ_ z=>z.elim
    let⟨w',e2,k3,rfl⟩:=QE k2;show k3 _ F2 H2 (Le.trans g1.f g2.f) ((S.grow g1).setW g2 q2 e2)
def StOk.mut{ρ:Rho}{i:Nat}(S:StOk κ F0 H0 F H ρ σ)(B:ρ[i]?=!(!d[9]))(O:σ[i]?=!(!(.ref a)))(r:OwnO κ F o d') :
  StOk κ F0 H0 F (upd H a o) (ρ.set i (!d'[9])) σ:=by
 let⟨v,e1,q⟩:=S.val i _ B;rw[O]at e1;cases e1;let⟨b,ob,eb,h0,hf,hh,_⟩:=q;cases eb;show#[#[S.gr.f,λc u h=>?_,λc u h=>?_,S.gr.n],by simpa using S.len,λj w e=>?_,λj k w w' c U ej ek oj ok sj sk=>?_,λj y e=>?_]
 .rw[qu (jN h h0)];show S.gr.h c u h
 .rw[qu (jN h hf)];show S.gr.s c u h
 .rcases qE e with⟨rfl,z⟩|⟨ne,z⟩
  .cases z;show#[_,O,a,o,rfl,h0,hf,qS,r]
  let⟨v,e1,q⟩:=S.val j w z;show#[v,e1,?_];have nb:∀{c},v=.ref c->w.own=true->c≠a:=λ{c} ev ow ec=>by
   subst ev ec;show S.sep j i w _ c ne z B ow rfl e1 O
  cases w with
  | fz d=>show q
  | br d=>show q
  | ow d =>
   let⟨c,oc,ec,c0,cf,ch,cr⟩:=q;show#[c,oc,ec,c0,cf,by rw[qu (nb ec rfl)];show ch,cr]
  | lk d=>show q
  | od d =>
   let⟨c,oc,ec,c0,cf,ch⟩:=q;show#[c,oc,ec,c0,cf,by rw[qu (nb ec rfl)];show ch]
 .have at_:∀{m:Nat} {y},(ρ.set i (!d'[9]))[m]?=!(!y)->y.own=true->∃ y',ρ[m]?=!(!y')/\y'.own=true:=λ{m y} h oy=>by
   rcases qE h with⟨rfl,_⟩|⟨_,z⟩
   .show#[_,B,rfl]
   show#[y,z,oy]
  let⟨y,Y,Z⟩:=at_ ej oj;let⟨y',ek',ok'⟩:=at_ ek ok;show S.sep j k y y' c U Y ek' Z ok' sj sk
 rcases qE e with⟨_,z⟩|⟨nj,ej⟩
 .cases z
 let⟨s1,c,bs,e1,c0,cf,nd,dp,sp⟩:=S.dp j y ej;show#[λk z hk ek=>?_,c,bs,e1,c0,cf,nd,Deep.same (λb m=>?_) (λ_ _ z=>z) Le.refl dp,λk w b hk ek ok m=>?_]
 .rcases qE ek with⟨_,q⟩|⟨_,q⟩
  .lia
  show s1 k z hk q
 .show(qu λz=>?_).symm
  subst z;show sp i _ _ (tu nj) B rfl m O
 rcases qE ek with⟨rfl,_⟩|⟨_,q⟩
 .show sp k _ b hk B rfl m
 show sp k w b hk q ok m
def zc(i){x:Str}{apos cpos np:Pos}(Z:"S" e f)(hN:(Nm X i x)["t"])(B:(attributeBase (.Name x np) "append" X.env (eval (.Name x np) X.env)=eval (.Name x np) X.env)["r"])
  (U:(((backTo cpos (sE [e] X.env)).all (λx=>not x.1)&&(backToKw cpos (keywordEach [] X.env)).all (λx=>x.1.isSome)
   && decide ([e].length+([]:List Keyword)[1]+(if ([]:List Keyword).isEmpty then 0 else 1)<30))=true)["r"])
  (O:((apos.endLine==cpos.line)=true)["r"]) (Y:(sE [e] X.env=(false,eval e X.env)::sE [] X.env)["r"]) (z:((backTo cpos (sE [] X.env)).any (·.1)=false)["r"])
  (hs:(swapsWith (.Call (.Attribute (.Name x np) "append" apos) [e] [] cpos) none pos.line X.env=pure false)["r"]) :
  SS X F0 H0 (.Expr (.Call (.Attribute (.Name x np) "append" apos) [e] [] cpos) pos) (qC i f):=by
 intro pins s σ F H ρ D S I h
 delta qC at h
 cases ew:ρ[i]? with
 | none=>rw[ew]at h;show h.elim
 | some w =>
  rw[ew]at h;cases w with
  | none=>cases h
  | some w =>
   cases w with
   | fz d=>show h.elim
   | br d=>show h.elim
   | lk d=>show h.elim
   | od d=>show h.elim
   | ow d =>
    cases d<;>first|show h.elim|skip
    rename_i ds;have h:=KE.bind (PostS.of h);let⟨v,e1,a,o,rfl,h0,hf,hh,ro⟩:=S.val i _ ew;cases o<;>first|show ro.elim|skip
    rename_i vs;have P:=xV (wL (X:=X) p6 cy cz xX (pvN (pos:=np) hN) (zM (jd (e:=e)) vI Y) B U O Y z) hs;show P pins s σ H D I #[_,e1,.inl #[rfl,vs,SqL.of hh],Z.sem S (h.imp λw k y F1 H1 g1 q1=>?_)]
    cases es:w.st with
    | exc x=>rw[es]at k;show k.elim
    | stuck=>rw[es]at k;show k.elim
    | ok d =>
     rw[es]at k;have ry:=Vok.st S.s g1 q1 es;let⟨g2,_⟩:=vh S.s g1;have lv:vs[1]=ds[1]:=Reps.length ro;by_cases c:ds[1]<sz
     .have k2:PostS X F0 H0 F D (.nx (ρ.set i (!(.lst (ds++[d]))[9]))):=by simpa[iP c,KE]using k
      show#[a,vs,y,rfl,rfl,g1.h _ _ hh,by rw[lv];show c,?_]
      show k2 σ _ _ g2.f ((S.grow g2).mut ew e1 (o:=.lst (vs++[y])) (Reps.append (Reps.le g2.f _ ro) (Reps.one ry)))
     have:False:=by simpa[iN c,PostS,KE]using k
     show this.elim
end
section
variable{X:Cx}{F0 H0:Hp}{pos:Pos}{t:TF}{p:SF}
def Yf(n){c:Expr}{body:List Stmt}(hp:PassesOwn (model X.prog X.w) X.A X.env X.xe)(Y:ST X F0 H0 c t)(Z:SSs X F0 H0 body p):SS X F0 H0 (.While c body [] pos) (kD n t p):=by
 show λpins s σ F H ρ D S I h=>Gd hp (qa6) (ub) pins s σ H D I
  #[λm σ H=>∃ F' ρ,Le F F'/\StOk (kx X) F0 H0 F' H ρ σ/\PostS X F0 H0 F' D (zO t p m ρ),#[n,F,ρ,Le.refl,S,h],?_]
 rintro m B H1 ⟨F1,ρ1,l1,S1,h1⟩;cases m with
 | zero=>show h1.elim
 | succ m =>
  show λO s' I'=>Y O s' B F1 H1 ρ1 _ S1 I' ((PostS.of h1).imp λb k F2 H2 s2 g2 I2=>#[H2,I2,?_])
  cases b with
  | false=>show k B F2 H2 g2.f (S1.grow g2)
  | true =>
   show#[λz H'=>∃ F' ρ,Le F F'/\StOk (kx X) F0 H0 F' H' ρ z/\PostS X F0 H0 F' D (zO t p m ρ),λz H' q=>#[m,dh m,q],λU s3 I3=>?_]
   show Z U s3 B F2 H2 ρ1 _ (S1.grow g2) I3 ?_;cases ep:p ρ1 with
   | nx ρ2=>rw[ep]at k;show λz F' H' l S'=>#[F',ρ2,Le.trans l1 (Le.trans g2.f l),S',PostS.le (Le.trans g2.f l) k]
   | ct ρ2=>rw[ep]at k;show λz F' H' l S'=>#[F',ρ2,Le.trans l1 (Le.trans g2.f l),S',PostS.le (Le.trans g2.f l) k]
   | bk ρ2=>rw[ep]at k;show λz F' H' l S'=>k z F' H' (Le.trans g2.f l) S'
   | rt w=>rw[ep]at k;show k
   | exc x=>rw[ep]at k;show k
   | stuck=>rw[ep]at k;show k
end
structure Walk(κ:Kx)(J:It)(F1 G:Hp)(ds:List D):Prop where
 go:∀(i:Nat) (d:D) (F H:Hp),ds[i]?=!d->Le F1 F->Le F H->Le G H->J.go i H/\∀ x H',J.yld i H x H'->∃ F',Gr F H F' H'/\Rep κ F' x d
 stop:∀(i:Nat) (F H:Hp),ds[1]<=i->Le F1 F->Le F H->Le G H->J.stop i H
def Walk.more(W:Walk κ J F1 G ds)(l:Le G G'):Walk κ J F1 G' ds :=
 #[λi d F H e l1 l2 l3=>W.go i d F H e l1 l2 (Le.trans l l3),λi F H e l1 l2 l3=>W.stop i F H e l1 l2 (Le.trans l l3)]
def SI(X:Cx)(F0 H0:Hp)(tg iter:Expr)(fi:IF):Prop :=
 ∃ wi,PI X tg iter wi/\∀(σ:St) (F H:Hp) (ρ:Rho) (R:It->Hp->Prop),StOk (kx X) F0 H0 F H ρ σ ->
  KE (XP X F0 H0) (fi ρ) (λds=>∀ F1 H1 J,Gr F H F1 H1->Walk (kx X) J F1 H0 ds->R J H1)->wi σ H R
def SIc(X:Cx)(F0 H0:Hp)(tg iter:Expr)(fi:IF):Prop :=
 ∃ wi,PI X tg iter wi/\∀(σ:St) (F H:Hp) (ρ:Rho) (R:It->Hp->Prop),StOk (kx X) F0 H0 F H ρ σ ->
  KE (XP X F0 H0) (fi ρ) (λds=>∀ F1 H1 J,Gr F H F1 H1->Walk (kx X) J F1 H1 ds->R J H1)->wi σ H R
def SI.c(h:SI X F0 H0 tg iter fi):SIc X F0 H0 tg iter fi:=by
 let⟨wi,P,k⟩:=h;show#[wi,P,λσ F H ρ R S q=>k σ F H ρ R S (q.imp λds z F1 H1 J g W=>z F1 H1 J g (W.more (Le.trans S.gr.h g.h)))]
def SG(X:Cx)(F0 H0:Hp)(tg:Expr)(gf:GF):Prop :=
 ∃ z,PG X tg z/\∀(σ:St) (F H:Hp) (ρ:Rho) (v:V) (d:D) (Q:St->Hp->Prop),StOk (kx X) F0 H0 F H ρ σ->Rep (kx X) F v d ->
  KE (λ_=>False) (gf d ρ) (λρ1=>∀ B,StOk (kx X) F0 H0 F H ρ1 B->Q B H)->z v σ H Q
section
variable{X:Cx}{F0 H0:Hp}{pos:Pos}{tg iter:Expr}{fi:IF}{gf:GF}{p:SF}{f:EF}
def qL(i)(z:X.N.Nodup)(hi:(X.N[i]?=!x)["r"])(B:(Loc X.env.scope x)["t"])
  (O:(X.fn x=true\/X.env.scope.names.lookup x=some .local)["t"]):SG X F0 H0 (.Name x pos) (gV i) :=
 #[_,WH z hi B O,λσ F H ρ v d Q S r h=>h _ (S.setF r)]
theorem Yg{Q:St->Hp->Prop}:∀ is ds vs ρ σ,StOk (kx X) F0 H0 F H ρ σ->Reps (kx X) F vs ds ->
  KE (λ_=>False) (gVs is ds ρ) (λρ1=>∀ z,StOk (kx X) F0 H0 F H ρ1 z->Q z H)->Q (List.foldl (λs iv=>s.set iv.1 (!iv.2)) σ (is.zip vs)) H/\is[1]=vs[1]
 | [],[],vs,ρ,σ,S,r,h=>by cases (r);show#[h σ S,rfl]
 | [],_::_,_,_,_,_,_,h=>h.elim
 | _::_,[],_,_,_,_,_,h=>h.elim
 | i::is,d::ds,_,ρ,σ,S,r,h=>by
  let⟨v,vr,rfl,r1,r2⟩:=r;let⟨q1,q2⟩:=Yg is ds vr _ _ (S.setF r1) r2 h
  simp_all
def SGs(X:Cx)(es:List Expr)(is:List Nat):Prop:=PGs X es (λvs σ H Q=>is[1]=vs[1]/\Q (List.foldl (λs (iv:Nat×V)=>s.set iv.1 (!iv.2)) σ (is.zip vs)) H)
def yd:SGs X [] []:=by
 intro pins s σ H vs us Q I r h;let⟨e,q⟩:=h;cases r with
 | nil=>show MY pins s σ H [] [] Q I .nil #[rfl,q]
 | cons _ _=>cases e
def zP(i){is:List Nat}(z:X.N.Nodup)(h:SGs X es is)(hi:(X.N[i]?=!x)["r"])(B:(Loc X.env.scope x)["t"])
  (O:(X.fn x=true\/X.env.scope.names.lookup x=some .local)["t"])
  (U:((assignEach (.Name x xp::es) X.env).map (·.2)=assign (.Name x xp) X.env::(assignEach es X.env).map (·.2))["r"]):SGs X (.Name x xp::es) (i::is):=by
 intro pins s σ H vs us Q I r k;let⟨e,q⟩:=k;cases r with
 | nil=>cases e
 | cons r1 r2=>show MZ (WH z hi B O) h U pins s σ H _ _ Q I (.cons r1 r2) #[_,_,rfl,by simpa using e,q]
def ye{k:Nat}{is:List Nat}(B:X.calm=true)(h:SGs X es is)(O:((assignEach es X.env)[1]=is[1])["r"])(z:((assignEach es X.env).findIdx? (·.1)=none)["r"]):SG X F0 H0 (.Tuple es k pos) (gT is):=by
 show#[_,G5 B h O z,λσ F H ρ v d Q S r w=>?_]
 cases d<;>first|show w.elim|skip
 rename_i ds;let⟨a,vs,rfl,hq,rs⟩:=r;let⟨q1,q2⟩:=Yg is ds vs ρ σ S rs w;show#[a,vs,rfl,SqT.le S.s hq,q2.symm,q2,q1]
def jg(hp:PassesOwn (model X.prog X.w) X.A X.env X.xe)(hc:X.calm=true)(hi:SI X F0 H0 tg iter fi)(hg:SG X F0 H0 tg gf)(hb:SSs X F0 H0 body p)
  (hs:∀ x,foldedSetIterable iter X.env x=pure x:=by intro _;rfl):SS X F0 H0 (.For tg iter body [] pos) (qM fi gf p):=by
 intro pins s σ F H ρ D S I h;let⟨wi,Z,hwi⟩:=hi;let⟨tgv,PGv,hgv⟩:=hg;show Gp hp hc Z PGv (ub (st:=body)) hs pins s σ H D I (hwi σ F H ρ _ S ((PostS.of h).imp λds k F1 H1 J g1 W=>?_))
 show#[λi m σ H=>m=ds[1]-i/\i<=ds[1]/\∃ F' ρ,Le F F'/\Le F1 F'/\StOk (kx X) F0 H0 F' H ρ σ/\PostS X F0 H0 F' D (qH gf p (ds.drop i) ρ),
  #[ds[1],by simp,tP _,F1,ρ,g1.f,Le.refl,S.grow g1,PostS.le g1.f k[""]],?_]
 rintro i m O H2 ⟨rfl,hi,F2,ρ2,lF,l1,S2,h2⟩;by_cases hlt:i<ds[1]
 .have ed:ds[i]?=!ds[i]:=by simp[hlt]
  have Y:ds.drop i=ds[i]::ds.drop (i+1):=fT hlt;let⟨go,yl⟩:=W.go i ds[i] F2 H2 ed l1 S2.s S2.gr.h;show .inr #[go,λz H'=>∃ F' ρ,Le F F'/\Le F1 F'/\StOk (kx X) F0 H0 F' H' ρ z/\PostS X F0 H0 F' D (qH gf p (ds.drop (i+1)) ρ),λz H' q=>#[ds[1]-(i+1),"o",rfl,hlt,q],λx H' y=>?_]
  let⟨F3,g3,rx⟩:=yl x H' y;rw[Y]at h2;have S3:=S2.grow g3;show hgv O F3 H' ρ2 x ds[i] _ S3 rx ?_;cases eg:gf ds[i] ρ2 with
  | exc e=>unfold qH at h2;rw[eg]at h2;show h2.elim
  | stuck=>unfold qH at h2;rw[eg]at h2;show h2.elim
  | ok ρ3 =>
   have h3:PostS X F0 H0 F2 D (match p ρ3 with|.nx ρ4=>qH gf p (ds.drop (i+1)) ρ4|.ct ρ4=>qH gf p (ds.drop (i+1)) ρ4|.bk ρ4=>.nx ρ4|o=>o):=by
    unfold qH at h2;rw[eg]at h2;show h2
   show λU S4 B s3 I3=>hb B s3 U F3 H' ρ3 _ S4 I3 ?_
   cases ep:p ρ3 with
   | nx ρ4=>rw[ep]at h3;show λz F' H' l S'=>#[F',ρ4,Le.trans lF (Le.trans g3.f l),Le.trans l1 (Le.trans g3.f l),S',PostS.le (Le.trans g3.f l) h3]
   | ct ρ4=>rw[ep]at h3;show λz F' H' l S'=>#[F',ρ4,Le.trans lF (Le.trans g3.f l),Le.trans l1 (Le.trans g3.f l),S',PostS.le (Le.trans g3.f l) h3]
   | bk ρ4=>rw[ep]at h3;show λz F' H' l S'=>h3 z F' H' (Le.trans g3.f l) S'
   | rt w=>rw[ep]at h3;show h3
   | exc x=>rw[ep]at h3;show h3
   | stuck=>rw[ep]at h3;show h3
 have e:i=ds[1]:=""
 subst e;rw[dj]at h2;show .inl #[W.stop _ F2 H2 (gC _) l1 S2.s S2.gr.h,h2 O F2 H2 Le.refl S2]
theorem Zs{κ:Kx}(z:SqL κ.K F1 a vs)(rs:Reps κ F1 vs ds):Walk κ (Itl κ.K a) F1 G ds where
 go:=λi d F H ed l1 l _=>by
  let⟨v,ev,rv⟩:=Reps.get rs ed;have q:=SqL.le l (SqL.le l1 z);show#[#[vs,v,q,ev],λx H' y=>?_]
  let⟨e,y⟩:=y;subst e;have:=y vs q;rw[ev]at this;cases this;show#[F,Gr.refl l,Rep.le l1 d rv]
 stop:=λi F H hi l1 l _=>#[vs,SqL.le l (SqL.le l1 z),by rw[Reps.length rs];show hi]
theorem Zt{κ:Kx}(z:SqT κ.K F1 a vs)(rs:Reps κ F1 vs ds):Walk κ (Itt κ.K a) F1 G ds where
 go:=λi d F H ed l1 l _=>by
  let⟨v,ev,rv⟩:=Reps.get rs ed;have q:=SqT.le l (SqT.le l1 z);show#[#[vs,v,q,ev],λx H' y=>?_]
  let⟨e,y⟩:=y;subst e;have:=y vs q;rw[ev]at this;cases this;show#[F,Gr.refl l,Rep.le l1 d rv]
 stop:=λi F H hi l1 l _=>#[vs,SqT.le l (SqT.le l1 z),by rw[Reps.length rs];show hi]
theorem Yh{κ:Kx}(z:SqL κ.K G a vs)(rs:Reps κ F1 vs ds):Walk κ (Itl κ.K a) F1 G ds where
 go:=λi d F H ed l1 l lg=>by
  let⟨v,ev,rv⟩:=Reps.get rs ed;have q:=SqL.le lg z;show#[#[vs,v,q,ev],λx H' y=>?_]
  let⟨e,y⟩:=y;subst e;have:=y vs q;rw[ev]at this;cases this;show#[F,Gr.refl l,Rep.le l1 d rv]
 stop:=λi F H hi l1 l lg=>#[vs,SqL.le lg z,by rw[Reps.length rs];show hi]
def PI.or(h1:PI X tg iter w1)(h2:PI X tg iter w2):PI X tg iter (λσ H R=>w1 σ H R\/w2 σ H R):=λpins s σ H R I h=>by
 rcases h with h|h
 .show h1 pins s σ H R I h
 show h2 pins s σ H R I h
def zn(z:"S" iter f):SI X F0 H0 tg iter (qN f):=by
 show#[_,PI.or (Zb (jd)) (Zc (jd)),λσ F H ρ R S h=>?_]
 have h:=KE.bind h;cases ew:f ρ with
 | exc x=>rw[ew]at h;show h.elim
 | stuck=>rw[ew]at h;show h.elim
 | ok w =>
  rw[ew]at h;cases es:w.st with
  | exc x=>rw[ya,es]at h;show h.elim
  | stuck=>rw[ya,es]at h;show h.elim
  | ok d =>
   rw[ya,es]at h;cases d<;>first|show h.elim|skip
   .rename_i ds;show .inr (z.sem S ?_);rw[ew];intro v F1 H1 g1 q1;let⟨g2,_⟩:=vh S.s g1;let⟨a,vs,rfl,hq,rs⟩:=Vok.st S.s g1 q1 es;show#[a,rfl,#[vs,SqT.le g2.s hq],h _ H1 _ g2 (Zt (κ:=kx X) hq rs)]
   rename_i ds;show .inl (z.sem S ?_);rw[ew];intro v F1 H1 g1 q1;let⟨g2,_⟩:=vh S.s g1;let⟨a,vs,rfl,hq,rs⟩:=Vok.st S.s g1 q1 es;show#[a,rfl,#[vs,SqL.le g2.s hq],h _ H1 _ g2 (Zs (κ:=kx X) hq rs)]
def vC(i)(z:(Nm X i x)["t"]):SI X F0 H0 tg (.Name x pos) (iV i):=by
 show#[_,PI.or (Zb (pvN z)) (Zc (pvN z)),λσ F H ρ R S h=>?_]
 unfold iV at h;cases ew:ρ[i]? with
 | none=>rw[ew]at h;show h.elim
 | some w =>
  rw[ew]at h;cases w with
  | none=>show h.elim
  | some w =>
   let⟨v,e1,q⟩:=S.val i w ew;cases w with
   | ow d=>show h.elim
   | lk d=>show h.elim
   | od d=>show h.elim
   | fz d =>
    cases d<;>first|show h.elim|skip
    .let⟨a,vs,rfl,hq,rs⟩:=q;show .inr #[_,e1,a,rfl,#[vs,SqT.le S.s hq],h F H _ (Gr.refl S.s) (Zt hq rs)]
    let⟨a,vs,rfl,hq,rs⟩:=q;show .inl #[_,e1,a,rfl,#[vs,SqL.le S.s hq],h F H _ (Gr.refl S.s) (Zs hq rs)]
   | br d =>
    let⟨a,o,rfl,eh,ro⟩:=q;cases d<;>first|show h.elim|skip
    .cases o<;>show ro.elim
    cases o<;>first|show ro.elim|skip
    show .inl #[_,e1,a,rfl,#[_,SqL.of (S.gr.h _ _ eh)],h F H _ (Gr.refl S.s) (Yh (κ:=kx X) (SqL.of eh) ro)]
def wO(i)(B:(Nm X i x)["t"]):SIc X F0 H0 tg (.Name x pos) (iVc i):=by
 show#[_,PI.or (Zb (pvN B)) (Zc (pvN B)),λσ F H ρ R S h=>?_]
 unfold iVc at h;cases ew:ρ[i]? with
 | none=>rw[ew]at h;cases h
 | some w =>
  rw[ew]at h;cases w with
  | none=>cases h
  | some w =>
   let⟨v,e1,q⟩:=S.val i w ew;have z:∀{d} {a} {o},v=.ref a->H a=!o->OwnO (kx X) F o d->KE (XP X F0 H0) (ua d) (λds=>∀ F1 H1 J,Gr F H F1 H1->Walk (kx X) J F1 H1 ds->R J H1) ->
     WI X.K (Qq i) σ H R\/WJ X.K (Qq i) σ H R:=λ{d a o} ev eh ro h=>by
    subst ev;cases d<;>first|show h.elim|skip
    .cases o<;>show ro.elim
    cases o<;>first|show ro.elim|skip
    show .inl #[_,e1,a,rfl,#[_,SqL.of eh],h F H _ (Gr.refl S.s) (Yh (SqL.of eh) ro)]
   cases w with
   | ow d=>let⟨a,o,ev,_,_,eh,ro⟩:=q;show z ev eh ro h
   | lk d=>cases h
   | od d=>cases h
   | br d=>let⟨a,o,ev,eh,ro⟩:=q;show z ev (S.gr.h _ _ eh) ro h
   | fz d =>
    dsimp only at h;cases d<;>first|show h.elim|skip
    .let⟨a,vs,rfl,hq,rs⟩:=q;show .inr #[_,e1,a,rfl,#[vs,SqT.le S.s hq],h F H _ (Gr.refl S.s) (Zt (κ:=kx X) hq rs)]
    let⟨a,vs,rfl,hq,rs⟩:=q;show .inl #[_,e1,a,rfl,#[vs,SqL.le S.s hq],h F H _ (Gr.refl S.s) (Zs (κ:=kx X) hq rs)]
theorem QF:∀ n lo i,(zN lo n)[i]?=if i<n then !(lo+i)[6]else none
 | 0,lo,i=>by simp[zN]
 | n+1,lo,0=>by simp[zN]
 | n+1,lo,i+1=>by
  have:=QF n (lo+1) i;simp[zN,pH,this];lia
def Zu:∀(n:Nat) (lo:Int),(zN lo n)[1]=n:=λn=>n.recAux
 (λ_=>rfl)
 λn IH lo=>by simp[zN,IH]
def Yi(lo:Int)(n:Nat):Walk κ (Itr lo n) F1 G (zN lo n)where
 go:=λi d F H ed l1 l _=>by
  rw[QF]at ed;by_cases h:i<n
  .rw[iP h]at ed;cases ed;show#[h,λx H' y=>?_]
   let⟨e,y⟩:=y;subst e y;show#[F,Gr.refl l,rfl]
  simp_all
 stop:=λi F H hi l1 l _=>by rw[Zu]at hi;show hi
def QG{np cp:Pos}(B:"S" a fa)(O:X.mg "range"=none)(U:(Gl X "range")["r"])(z:(sE [a] X.env=[(false,eval a X.env)])["r"]):SI X F0 H0 tg (.Call (.Name "range" np) [a] [] cp) (iR1 fa):=by
 show#[_,Gj U O (zM (jd) vI z) z,λσ F H ρ R S h=>B.sem S ((KE.bind h).imp λw k v F1 H1 g1 q1=>?_)]
 have r:=Vok.rd q1
 revert k
 generalize w.d=d at r;intro k;cases d<;>first|show k.elim|skip
 rename_i j;dsimp only at k;by_cases c:fits b62 j=true
 .rw[iP c]at k;have c:-(2 ^ 62)<=j/\j<2 ^ 62:=by
   rw[fits_iff]at c;lia
  cases RdV.int r;show#[j,rfl,c.1,c.2,k F1 H1 _ g1 (Yi 0 j.toNat)]
 rw[iN c]at k;show k.elim
end
def Args(κ:Kx)(F H:Hp):List V->List En->Prop
 | vs,[]=>vs=[]
 | vs,.fz d::ws=>∃ v r,vs=v::r/\Rep κ F v d/\Args κ F H r ws
 | vs,.br d::ws=>∃ v r,vs=v::r/\(∃ a o,v=.ref a/\H a=!o/\OwnO κ F o d)/\Args κ F H r ws
 | _,_=>False
def spD(κ:Kx)(dn:Den)(n:Nat):Sp:=λvs H Q _=>vs[1]=n/\∃ F ws,Le F H/\Args κ F H vs ws /\
 KE (λ_=>False) (dn ws) λw=>∀ v F' H',Gr F H F' H'->Vok κ H F' H' v w->Q v H'
section
variable{P:af}{w:World}{K:Frag}{mg:Str->Option aa}{base:Heap}
theorem yG:∀{vs} {ws},Args κ F H vs ws->∀(i:Nat) w,(ws.map some)[i]?=!(!w)->∃ v,(vs.map some)[i]?=!(!v)/\Eok κ H F H v w/\w.own=false
 | _,[],_,i,w,e=>by simp at e
 | _,.fz d::ws,h,0,w,e=>by
  let⟨v,r,rfl,h1,h2⟩:=h;simp at e;subst e;show#[v,rfl,h1,rfl]
 | _,.br d::ws,h,0,w,e=>by
  let⟨v,r,rfl,h1,h2⟩:=h;simp at e;subst e;show#[v,rfl,h1,rfl]
 | _,.fz d::ws,h,i+1,w,e=>by
  let⟨v,r,rfl,h1,h2⟩:=h;simpa using yG h2 i w e[""]
 | _,.br d::ws,h,i+1,w,e=>by
  let⟨v,r,rfl,h1,h2⟩:=h;simpa using yG h2 i w e[""]
theorem uh:∀{vs} {ws},Args κ F H vs ws->vs[1]=ws[1]
 | _,[],h=>by cases (h);rfl
 | _,.fz d::ws,h=>by let⟨v,r,rfl,h1,h2⟩:=h;simp[uh h2]
 | _,.br d::ws,h=>by let⟨v,r,rfl,h1,h2⟩:=h;simp[uh h2]
def qad{ws:List En}(l:Le F H)(h:Args κ F H vs ws):StOk κ F H F H (ws.map some++List.replicate (N[1]-ws[1]) none) (L2.z9 N vs):=by
 have at_:∀ i w,(ws.map some++List.replicate (N[1]-ws[1]) none)[i]?=!(!w)->(ws.map some)[i]?=!(!w):=λi w e=>by
  by_cases hi:i<ws[1]
  .rwa [t9 hi[""]]at e
  rw[t4 hi[""],fJ]at e
  lia
 show#[Gr.refl l,by simp[L2.z9,(uh h)],λi w e=>?_,λi j w w' a B ei ej oi oj si sj=>?_,λi y e=>by let⟨v,e1,q,z⟩:=yG h i _ (at_ i _ e);cases z]
 .let⟨v,e1,q,_⟩:=yG h i w (at_ i w e);show#[v,?_,q]
  delta L2.z9
  have hi:i<vs[1]:=by have:=(gp.mp e1).1;simpa using this
  rw[t9 hi[""]]
  show e1
 let⟨v,_,_,z⟩:=yG h i w (at_ i w ei);lia
def fnD{st:Stmt}{N ps:List Str}{k:Nat}(F:Fun K x qual st f fd)(S:FnScope N ps (defScope st))
  (h:∀ z A outer s H F0,Room k (A.deeper (envOfC qual (defScope st) s[0] f z)) ->
   SSs (cxOf CX0 P w K mg base N qual (defScope st) f z A outer s H E0).nox F0 H (defBody st) body):FnOk P w K mg base CX0 (k+1) f fd ps (spD #[P,w,K] (den N[1] body) ps[1]):=by
 show F.ok S (λvs H Q E q=>q.1) (λz A outer s H vs Q E hr q=>?_)
 let⟨hl,F0,ws,l,ha,q⟩:=q;show#[Qz _ _,ub,λpins s' I=>?_]
 show((h z A outer s H F0 hr)) pins s' (L2.z9 N vs) F0 H _ _ (qad l ha) I ?_;have e:=q;unfold den at e;cases eb:body (ws.map some++List.replicate (N[1]-ws[1]) none)with
 | nx ρ=>rw[eb]at e;show λB F' H' l' S'=>e .non F' H' S'.gr rfl
 | rt w'=>rw[eb]at e;show e
 | bk ρ=>rw[eb]at e;show e.elim
 | ct ρ=>rw[eb]at e;show e.elim
 | exc x=>rw[eb]at e;show e.elim
 | stuck=>rw[eb]at e;show e.elim
end
section
variable{X:Cx}{F0 H0:Hp}{pos p:Pos}{e:Expr}{es:List Expr}{fa:List EF}{x:Str}{k n:Nat}{f:Addr}{fd:FuncData}{ps:List Str}{dn:Den}
theorem QH{H F' H':Hp}(s:Le F' H'):∀{vs} {ws ys},Voks κ H F' H' vs ws->jU ws=.ok ys->∀ G,Le F' G->(∀ a o,H a=none->H' a=!o->G a=!o)->Args κ G H' vs ys
 | _,[],ys,h,e,G,l,lk=>by cases e;show h
 | _,w::ws,ys,h,e,G,l,lk=>by
  let⟨v,r,rfl,h1,h2⟩:=h;unfold jU at e;cases e1:w.arg with
  | exc x=>rw[e1]at e;cases e
  | stuck=>rw[e1]at e;cases e
  | ok y =>
   cases e2:jU ws with
   | exc x=>rw[e1,e2]at e;cases e
   | stuck=>rw[e1,e2]at e;cases e
   | ok ys' =>
    rw[e1,e2]at e;cases e;have rest:=QH s h2 e2 G l lk;cases w with
    | fz d=>cases e1;show#[v,r,rfl,Rep.le l d h1,rest]
    | br d =>
     cases e1;let⟨a,o,ea,B,ro⟩:=h1;show#[v,r,rfl,#[a,o,ea,B,OwnO.le l ro],rest]
    | lk d=>cases e1
    | od d =>
     cases d<;>first|(cases e1;done)|skip
     cases e1;rcases h1 with⟨_,z,_⟩|⟨ds,z,a,bs,O,rfl,h0,hf,nd,hh,i⟩|⟨_,_,z,_⟩|⟨_,_,_,z,_⟩
     .cases z
     .cases z;have at_:∀ b∈bs++O.flatten,G b=H' b:=λb m=>by
       let⟨us,z0,z1,z2⟩:=In2.at i m;rw[z2];show lk b _ z0 z2
      show#[.ref a,r,rfl,#[a,bs.map V.ref,rfl,SqL.of (lk a _ h0 hh),In2.reps i at_ l],rest]
     .cases z
     cases z
    | ow d =>
     cases e1;let⟨a,o,ea,e0,ef,B,ro⟩:=h1;have q:=lk a o e0 B;have ro:=OwnO.le l ro;show#[v,r,rfl,?_,rest];cases o<;>cases d<;>first
      | show ro.elim
      | show#[a,_,ea,.inl (.inl q),ro]
      | show#[a,_,ea,.inl q,ro]
def Zv:∀(fs:List EF) (ρ:Rho) (ws:List En),evs fs ρ=.ok ws->ws[1]=fs[1]:=λr=>r.rec
 (λ_ _ h=>by cases h;rfl)
 λa r IH ρ ws h=>by
  unfold evs at h;cases ea:a ρ with
  | exc x=>rw[ea]at h;cases h
  | stuck=>rw[ea]at h;cases h
  | ok x =>
   cases er:evs r ρ with
   | exc x=>rw[ea,er]at h;cases h
   | stuck=>rw[ea,er]at h;cases h
   | ok xs=>rw[ea,er]at h;cases h;simp[IH ρ xs er]
def qae(G:FnOk X.prog X.w X.K X.mg X.base CX0 k f fd ps (spD (kx X) dn n))(U:Room k X.A)(Y:X.mg x=!(.ref f))(Z:keepIn X.K (.ref f)=true)(hb:Binds X.K fd ps [])(ha:SA X F0 H0 (e::es) fa)
  (hn:(fa[1]=n)["r"])
  (hg:(Gl X x)["r"])(B:((x==("__debug__"))=false)["d"])(he:(sE (e::es) X.env=(false,eval e X.env)::sE es X.env)["r"])(O:((backTo pos (sE es X.env)).any (·.1)=false)["r"]) :
  "S" (.Call (.Name x p) (e::es) [] pos) (qi dn fa):=by
 show λpins s σ F H ρ Q S I h=>fC (Za I hg Y ?_ B)
 show callWith_K I.ok.mod.kin Z (ha pos pins s σ F H ρ _ S I ?_) he O;cases ef:evs fa ρ with
 | exc x=>have h:=KE.bind h;rw[ef]at h;show h
 | stuck=>have h:=KE.bind h;rw[ef]at h;show h
 | ok ws =>
  have h:=KE.bind h;rw[ef]at h;show λvs us F1 H1 s1 g1 q1 r1 I1=>#[I1.kIn,?_]
  have h:KE (XP X F0 H0) ((jU ws).bind λys=>dn ys) _:=h
  cases ea:jU ws with
  | exc x=>rw[ea]at h;show h.elim
  | stuck=>rw[ea]at h;cases h
  | ok ys =>
   rw[ea]at h;let⟨g2,l2⟩:=vh S.s g1;have A:=QH g1.s q1 ea (jK H F1 H1) l2 (λa o e0 e2=>by delta jK;rw[e0];show e2)
   have hl:vs[1]=n:=by
    rw[<- hn,<- Zv fa ρ ws ef];clear A ea h r1
    revert vs
    have:∀ ws vs,Voks (kx X) H F1 H1 vs ws->vs[1]=ws[1]:=by
     intro ws
     induction ws with
     | nil=>intro vs h;cases (show vs=[]from h);rfl
     | cons w ws ih =>
      intro vs h;let⟨v,r,rfl,_,h2⟩:=h;simp[ih r h2]
    show λvs h=>this ws vs h
   show vz (WQ G U hb (dvs:=[]) .nil Y4 I1 r1 ?_);rw[tK];show#[hl,jK H F1 H1,ys,g2.s,A,KE.impX h (λw k v F' H' g' q' u s' r' I'=>?_) λ_ z=>z.elim]
   show k v u F' H' s' (g2.trans g') (Vok.older (λa e=>Le.none g1.h e) q') r' I'
end
def hu10(z:Room k A):A.units+10<cLine:=by have:=z.un;lia
section
variable{X:Cx}{F0 H0:Hp}{pos p:Pos}{x:Str}{k:Nat}{f:Addr}{fd:FuncData}{dn:Den}
def Ty.nm:Ty->String
 | .int=>"int"|.bool=>"bool"|.str=>"str"|.list=>"list"|.tuple=>"tuple"|.dict=>"dict"
def dTy:D->String
 | .non=>"NoneType"|.bl _=>"bool"|.int _=>"int"|.str _=>"str"|.tup _=>"tuple"|.lst _=>"list"|.dK _=>"dict"|.dT _=>"dict"|.xc _ _=>"?"
def qaf(K)(d)(t)(h:∀ c fs,d≠.xc c fs):kitOne K (.type (dTy d)) (.type t.nm)=!(tyIs d t):=by
 cases d<;>first
  | show absurd rfl (h _ _)
  | (cases t<;>first|rfl|kernel_rfl)
def qag{Q:aa->ab->Prop}(I:"I" H s)(l:Le F H)(r:RelV v u)(q:RdV (kx X) F H v d)(B:∀ c fs,d≠.xc c fs)
  (h:∀ tk,Q (.bool (tyIs d t)) {s with toks:=tk}):X[3] (call (.builtin "isinstance") [u,.type t.nm]) Q X.xe s:=by
 have e:=qaf X.K d t B;cases d with
 | non=>cases RdV.non q;cases (r);show pQ PySem.W.kitx_none I.kIn True.intro e (λz=>nomatch z) h
 | bl b=>cases RdV.bl q;cases (r);show pQ PySem.W.kitx_bool I.kIn True.intro e (λz=>nomatch z) h
 | int i=>cases RdV.int q;let⟨tk,rfl⟩:=(show ∃ tk,u=Value.int i tk from r);show pQ PySem.W.kitx_int I.kIn True.intro e (λz=>nomatch z) h
 | str y=>cases RdV.str q;let⟨tk,rfl⟩:=(show ∃ tk,u=Value.str y tk from r);show pQ PySem.W.kitx_str I.kIn True.intro e (λz=>nomatch z) h
 | tup ds =>
  let⟨a,vs,rfl,hq,_,_⟩:=RdV.tup l q;cases (show u=Value.ref a from r)
  let⟨its,_,⟨o,e1,e2,_⟩,_⟩:=I.tuple hq;show pQ PySem.W.kitx_tuple I.kIn #[o,e1,e2] e (λz=>nomatch z) h
 | lst ds =>
  let⟨a,vs,rfl,hq,_⟩:=RdV.lst l q;cases (show u=Value.ref a from r)
  let⟨its,_,⟨o,n,e1,e2,_⟩,_⟩:=I.list hq;show pQ PySem.W.kitx_list I.kIn #[o,e1,e2] e (λz=>nomatch z) h
 | dK ds =>
  let⟨a,vs,rfl,hq,_⟩:=RdV.dK l q;cases (show u=Value.ref a from r)
  let⟨_,vs,_,o,es,ep,e1,e2,_⟩:=Inv.dictK I hq;show pQ kitx_dict I.kIn #[o,e1,e2.1] e (λz=>nomatch z) h
 | dT ds =>
  have hq:∃ a kvs,v=.ref a/\Rd H a (.dT kvs):=by
   rcases q with⟨a,vs,e,q,_⟩|⟨a,o,e,e2,r⟩
   .show#[a,vs,e,Rd.le l q]
   cases o<;>first|show r.elim|show#[a,_,e,.inl e2]
  let⟨a,kvs,rfl,hq⟩:=hq;cases (show u=Value.ref a from r)
  let⟨_,_,xs,_,o,es,ep,e1,e2,_⟩:=hq.ok I.hok;show pQ kitx_dict I.kIn #[o,e1,e2.1] e (λz=>nomatch z) h
 | xc c fs=>show absurd rfl (B c fs)
def qah(t:Ty):bootBuiltins t.nm=!(.type t.nm):=by cases t<;>decide +kernel
def ui(t){e:Expr}{fe:EF}{p2:Pos}(he:"S" e fe)(hm:X.mg "isinstance"=none)(B:X.mg t.nm=none)(hg:(Gl X "isinstance")["r"])(O:(Gl X t.nm)["r"])
  (U:((Str.ofString t.nm)≠"__name__")["d"])(Y:(((Str.ofString t.nm)==("__debug__"))=false)["d"])
  (z:(sE [e,.Name t.nm p2] X.env=(false,eval e X.env)::sE [.Name t.nm p2] X.env)["r"])(hs2:(sE [.Name t.nm p2] X.env=[(false,eval (.Name t.nm p2) X.env)])["r"])
  (Z:((backTo pos (sE [.Name t.nm p2] X.env)).any (·.1)=false)["r"]):"S" (.Call (.Name "isinstance" p) [e,.Name t.nm p2] [] pos) (eUn (dIs t) fe):=by
 show λpins s σ F H ρ Q S I h=>fC (zL I hg hm boot_isinstance ?_)
 show cD ?_ z Z;rw[z];show hZ (he pins s σ F H ρ _ S I ((KE.bind h).imp λw k v u F' H' s' g q r I'=>?_))
 show hZ (zL I' O B (qah t) (tM ?_) U Y);have k2:∀ c fs,w.d≠.xc c fs:=λc fs e=>by rw[e]at k;show k.elim
 have k3:KE (XP X F0 H0) (okB (tyIs w.d t)) λw=>∀ v u F' H' s',Gr F H F' H'->Vok (kx X) H F' H' v w->RelV v u->"I" H' s'->Q u s':=by
  revert k
  generalize w.d=d at *;intro k;cases d<;>first|show k|show absurd rfl (k2 _ _)
 show qag I' g.s r (Vok.rd q) k2 λtk=>k3 (.bl _) _ F' H' _ g rfl rfl (I'.tok tk)
def jQ:D->R En
 | .int i=>okI (-i)
 | _=>.stuck
def vE(z:"S" e fe):"S" (.UnaryOp .USub e pos) (eUn jQ fe):=by
 show λpins s σ F H ρ Q S I h=>UnaryOp_ (z pins s σ F H ρ _ S I ((KE.bind h).imp λw k v u F' H' s' g q r I'=>?_))
 have q:=Vok.rd q
 revert k
 generalize w.d=d at q;intro k;cases d<;>first|show k.elim|skip
 cases RdV.int q;let⟨t,rfl⟩:=r;show neg_int (k _[6] _ F' H' _ g rfl #[_,rfl] (I'.tok _))
def zY:D->D->R En
 | .int i,.int j=>okI (i+j)
 | _,_=>.stuck
def qai:OpD X (binaryOp .Add) zY:=vK Gs λF H x y dx dy Q l qx qy w=>by
 cases dx<;>first|show w.elim|skip
 cases dy<;>first|show w.elim|skip
 show#[_,_,RdV.int qx,RdV.int qy,je l w rfl]
end
def Yj{κ:Kx}:∀ ns:List Int,Reps κ F (ns.map V.int) (ns.map D.int):=λns=>ns.rec
 (rfl)
 λn ns IH=>#[.int n,ns.map V.int,rfl,rfl,IH]
def qaj{κ:Kx}(dn)(z:List Int)(B:SqL κ.K H a (z.map V.int))(h:dn [.fz (.lst (z.map D.int))]=.ok (.bl true)[8]):spD κ dn 1 [.ref a] H (λv _=>v=.bl true) E :=
 #[rfl,H,[.fz (.lst (z.map D.int))],Le.refl,#[.ref a,[],rfl,#[a,_,rfl,B,Yj z],rfl],by rw[h];show λv F' H' g q=>q]
section
variable{X:Cx}
def Yk:OpD X (inplaceOp .Sub) jc:=vK Gz λF H x y dx dy Q l qx qy w=>by
 cases dx<;>first|show w.elim|skip
 cases dy<;>first|show w.elim|skip
 show#[_,_,RdV.int qx,RdV.int qy,je l w rfl]
def QJ:OpD X (inplaceOp .Add) zY:=vK Gy λF H x y dx dy Q l qx qy w=>by
 cases dx<;>first|show w.elim|skip
 cases dy<;>first|show w.elim|skip
 show#[_,_,RdV.int qx,RdV.int qy,je l w rfl]
end
def vF{α β:Type}(f:α->Option β):List α->Option (List β)
 | []=>↑[]
 | x::r=>match f x with
  | some y=>(match vF f r with|some ys=>↑(y::ys)|none=>none)
  | none=>none
def Yl{r:List α}{l:List β}(h:vF f (x::r)=!l):∃ y ys,f x=!y/\vF f r=!ys/\l=y::ys:=by
 unfold vF at h;cases e:f x with
 | none=>rw[e]at h;cases h
 | some y =>
  cases e2:vF f r with
  | none=>rw[e,e2]at h;cases h
  | some ys=>rw[e,e2]at h;cases h;show#[y,ys,rfl,rfl,rfl]
def vM(K:Frag):Nat->aa->Option D
 | 0,_=>none
 | n+1,v=>match v with
  | .none=>some .non
  | .bool b=>!(.bl b)
  | .int i _=>!i[6]
  | .str x _=>!(.str x)
  | .ref a=>(match K.lookup a with
   | some o=>(match o.data with
    | .seq its _ =>
     if its.size<=100000 then
      (if o.cls==.type "tuple" then(vF (vM K n) its[2]).map .tup
      else if o.cls==.type "list"&&o.dict==none then(vF (vM K n) its[2]).map .lst else none)
     else none
    | .dict es _ =>
     if o.cls==.type "dict"&&o.dict==none&&o.slots.size==0&&not (a==sysModules)then
      (match vF (λe:DictEntry=>match e.key with
       | .int i _=>if e.hash=hashInt i then(vM K n e.val).map λd=>((Sum.inl i:Sum Int Str),d)else none
       | _=>none) es[2] with
      | some l=>if (l.map (·.1)).Nodup then !(.dK l)else none
      | none=>none)
     else none
    | _=>none)
   | none=>none)
  | _=>none
def Ym:∀ n v d,vM κ.K n v=!d->∃ x,RelV x v/\∀ F,Rep κ F x d:=by
 intro n
 induction n with
 | zero=>intro v d h;cases h
 | succ n ih =>
  have z:∀ vs ds,vF (vM κ.K n) vs=!ds->∃ xs,Vals xs vs/\∀ F,Reps κ F xs ds:=by
   intro vs
   induction vs with
   | nil=>intro ds h;cases h;show#[[],.nil,λ_=>rfl]
   | cons v vs ihv =>
    intro ds h;let⟨d,U,h1,h2,rfl⟩:=Yl h;let⟨x,rx,qx⟩:=ih v d h1;let⟨xs,rs,qs⟩:=ihv U h2;show#[x::xs,.cons rx rs,λF=>#[x,xs,rfl,qx F,qs F]]
  have B:∀ es l,vF (λe=>match e.key with
       | .int i _=>if e.hash=hashInt i then(vM κ.K n e.val).map λd=>((Sum.inl i),d)else none
       | _=>none) es=↑l ->
    ∃ kvs vs,KV kvs vs/\Pairs (jj κ.P κ.w) es vs/\vs.map (·.1)=l.map (·.1)/\(∀ e∈es,∃ k,(jj κ.P κ.w).is k e.key=true/\e.hash=(jj κ.P κ.w).hash k)/\∀ F,RepK κ F kvs l:=by
   intro es
   induction es with
   | nil=>intro l h;cases h;show#[[],[],.nil,.nil,rfl,λe he=>(nomatch he),λ_=>rfl]
   | cons e es ihe =>
    intro l h;let⟨y,ys,h1,h2,rfl⟩:=Yl h;let⟨kvs,vs,r1,r2,r3,r4,r5⟩:=ihe ys h2;cases ek:e.key with
    | int i t =>
     rw[ek]at h1;dsimp only at h1;by_cases c:e.hash=hashInt i
     .rw[iP c]at h1;cases ed:vM κ.K n e.val with
      | none=>rw[ed]at h1;cases h1
      | some d =>
       rw[ed]at h1;cases h1;let⟨x,rx,qx⟩:=ih e.val d ed;have hk:(jj κ.P κ.w).is (Sum.inl i) e.key=true:=by rw[ek];show WB _ _ i t
       show#[(Sum.inl i,x)::kvs,(Sum.inl i,e.val)::vs,.cons #[rfl,rx] r1,.cons hk rfl r2,by simp[r3],λe' he=>?_,λF=>#[x,kvs,rfl,qx F,r5 F]]
       rcases gw.mp he with rfl|he
       .show#[Sum.inl i,hk,c]
       show r4 e' he
     rw[iN c]at h1;cases h1
    | _=>rw[ek]at h1;cases h1
  intro v d h;unfold vM at h;cases v<;>first|(cases h;done)|skip
  .cases h;show#[.non,rfl,λ_=>rfl]
  .cases h;show#[.bl _,rfl,λ_=>rfl]
  .cases h;show#[.int _,#[_,rfl],λ_=>rfl]
  .cases h;show#[.str _,#[_,rfl],λ_=>rfl]
  rename_i a;dsimp only at h;cases ek:κ.K.lookup a with
  | none=>rw[ek]at h;cases h
  | some o =>
   rw[ek]at h;dsimp only at h;cases ed:o.data with
   | seq its m =>
    rw[ed]at h;dsimp only at h;by_cases c:its.size<=100000
    .rw[iP c]at h;have hz:its.size<=sizeLine:=by rw[pC];omega
     by_cases c1:(o.cls==Value.type "tuple")=true
     .rw[iP c1]at h;cases e2:vF (vM κ.K n) its[2] with
      | none=>rw[e2]at h;cases h
      | some ds =>
       rw[e2]at h;cases h;let⟨xs,rs,qs⟩:=z its[2] ds e2;show#[.ref a,rfl,λF=>#[a,xs,rfl,.inr #[o,its,m,ek,by simpa using c1,ed,hz,rs],qs F]]
     rw[iN c1]at h;by_cases c2:(o.cls==Value.type "list"&&o.dict==none)=true
     .rw[iP c2]at h;rw[hE]at c2;cases e2:vF (vM κ.K n) its[2] with
      | none=>rw[e2]at h;cases h
      | some ds =>
       rw[e2]at h;cases h;let⟨xs,rs,qs⟩:=z its[2] ds e2;show#[.ref a,rfl,λF=>#[a,xs,rfl,.inr #[o,its,m,ek,by simpa using c2.1,by simpa using c2.2,ed,hz,rs],qs F]]
     rw[iN c2]at h;cases h
    rw[iN c]at h;cases h
   | dict es ep =>
    rw[ed]at h;dsimp only at h;by_cases c:(o.cls==Value.type "dict"&&o.dict==none&&o.slots.size==0&&not (a==sysModules))=true
    .rw[iP c]at h;simp[hE]at c;let⟨⟨⟨c1,c2⟩,c3⟩,c4⟩:=c
     revert h
     generalize e2:vF _ es[2]=ol;intro h;cases ol with
     | none=>cases h
     | some l =>
      dsimp only at h;by_cases c5:(l.map (·.1)).Nodup
      .rw[iP c5]at h;cases h;let⟨kvs,vs,r1,r2,r3,r4,r5⟩:=B es[2] l e2;have O:o.slots=#[]:=by
        have:o.slots.size=0:=by simpa using c3
        show Array.eq_empty_of_size_eq_zero this
       show#[.ref a,rfl,λF=>#[a,kvs,rfl,.inr #[by simpa using c4,o,es,ep,vs,ek,#[by simpa using c1,by simpa using c2,O],ed,λe he=>r4 e he[""],r2,by rw[r3];show c5,r1],r5 F]]
      rw[iN c5]at h;cases h
    rw[iN c]at h;cases h
   | _=>rw[ed]at h;cases h
def ro:Option En->Option En
 | some d[9]=>!(.br d)
 | some (.od _)=>none
 | o=>o
def zD(ad:En->R D)(gf:GF)(t:TF)(e:EF):List D->Rho->R (List D)
 | [],_=>.ok []
 | d::r,ρ=>(gf d ρ).bind λρ1=>(t ρ1).bind λb=>if b=true then(e ρ1).bind λw=>(ad w).bind λy=>(zD ad gf t e r ρ1).bind λys=>.ok (y::ys)else zD ad gf t e r ρ1
def jh(n:Nat)(ρ:Rho):Rho:=ρ.map ro++List.replicate n none
def uj(ad:En->R D)(fi:List D->En)(n:Nat)(it:IF)(gf:GF)(t:TF)(e:EF):EF:=λρ=>(it ρ).bind λds=>if ds[1]<=sz then(zD ad gf t e ds (jh n ρ)).bind λys=>.ok (fi ys)else .stuck
abbrev qF:=uj En.st λys=>.ow (.lst ys)
def qI:TF:=λ_=>.ok true
def compLoop{R:Result->ab->Prop}(I:Nat->ab->Prop)
  (Z:∀ n s,I n s->wpAny (model prog w) A (pyNext it) (λr z=>match r with
   | none=>R (.ok .next) z
   | some v=>wpAny (model prog w) A (letOwnedTupleGo target it v) (λ_ s₀=>wpAny (model prog w) A (assign target env v) (λ_ s₂ =>
     wpAny (model prog w) A (forIn ifs true λc r=>if r=true then do let ok <- isTrue c env (eval c env);pure (ForInStep.yield ok)else pure (ForInStep.yield r)) (λok B =>
      if ok=true then wpAny (model prog w) A (eval elt env) (λx O =>
       wpAny (model prog w) A (call (.builtin "list.append") [acc,x]) (λ_ U=>∃ m,m<n/\I m U) (λ_ _=>False) O) (λ_ _=>False) B
      else ∃ m,m<n/\I m B) (λ_ _=>False) s₂) (λ_ _=>False) s₀) (λ_ _=>False) z) (λ_ _=>False) s)
  (n) (h:I n s):codeAny (model prog w) A (.compLoop (.ListComp elt [#[target,iter,ifs,0]] scope pos) 0 it acc env) R s:=by
 show codeAny_loop rfl I (λn s hI=>?_) n h
 show wpAny_noted ?_;rw[compTurn_list];show gg (mm (gg (cu (Z n s hI) (λr z h₁=>?_) λ_ _ h'=>h'.elim)))
 cases r with
 | none=>show gy h₁
 | some v =>
  show gg (cu h₁ (λ_ s₀ h₀=>gg (cu h₀ (λ_ s₂ h3=>gg (cu h3 (λok B Y=>?_) λ_ _ h'=>h'.elim)) λ_ _ h'=>h'.elim)) λ_ _ h'=>h'.elim)
  cases ok with
  | false=>show gy #[rfl,Y]
  | true=>show gg (gg (cu Y (λx O h4=>gg (cu h4 (λ_ U h5=>gy (gy #[rfl,h5])) λ_ _ h'=>h'.elim)) λ_ _ h'=>h'.elim))
def Cap(env:Env)(cl:List (Str×Addr)):List (Str×NameKind)->Prop
 | []=>True
 | (n,k)::r=>(k≠.cell/\(k=.free->env.kindOf n=some .cell/\cl.lookup n=env.cells.lookup n))/\Cap env cl r
def ClIn(env:Env):List (Str×Addr)->Prop
 | []=>True
 | (n,c)::r=>env.cells.lookup n=!c/\ClIn env r
def ClIn.look{env:Env}:∀{cl:List (Str×Addr)},ClIn env cl->∀{x c},cl.lookup x=!c->env.cells.lookup x=!c:=λ{r}=>r.rec
 (@λ_ x c h=>by simp at h)
 λ#[n,a] r IH=>@λq x c h=>by
  let⟨q1,q2⟩:=q;by_cases e:x=n
  .simp_all
  have:(x==n)=false:=by simpa using e
  simp[List.lookup,this]at h;show IH q2 h
def Cap.mem{env:Env}{cl:List (Str×Addr)}:∀{names:List (Str×NameKind)},Cap env cl names->∀ y∈names,y.2≠.cell/\(y.2=.free->env.kindOf y.1=some .cell/\cl.lookup y.1=env.cells.lookup y.1):=λ{r}=>r.rec
 (@λ_ y hy=>by cases hy)
 λ#[n,k] r IH=>@λh y hy=>by
  rcases gw.mp hy with rfl|hy
  .show h.1
  show IH h.2 y hy
theorem Zw{env:Env}:∀{names:List (Str×NameKind)} {x},(∀ y∈names,y.2≠.cell) ->
    ((names.map λ(n,k)=>if (k==NameKind.free&&env.scope.kind==.function&&env.kindOf n==some .cell)then(n,NameKind.cell)else(n,k)).lookup x=some .cell \/
     (names.map λ(n,k)=>if (k==NameKind.free&&env.scope.kind==.function&&env.kindOf n==some .cell)then(n,NameKind.cell)else(n,k)).lookup x=some .free)->(x,NameKind.free)∈names
  | [],_,_,h=>by rcases h with h|h<;>simp at h
  | (n,k)::r,x,hc,h=>by
    rw[gP]at h;by_cases hx:x=n
    · subst hx
      by_cases q:(k==NameKind.free&&env.scope.kind==.function&&env.kindOf x==some .cell)=true
      · simp_all
      simp_all
    have hb:(x==n)=false:=by simpa using hx
    show gj _ ((@Zw env r x λy hy=>hc y (gj _ hy)) ?_)
    dsimp only at h;by_cases q:(k==NameKind.free&&env.scope.kind==.function&&env.kindOf n==some .cell)=true
    · rw[iP q]at h
      simpa only[List.lookup_cons,hb]using h
    rw[iN q]at h
    simpa only[List.lookup_cons,hb]using h
def cxF(fn:Str->Bool)(X:Cx)(s₂:ab)(H₂:Hp)(scope:Scope)(cl:List (Str×Addr))(C:Addr)(fp:List Addr)(N:List Str):Cx where
 prog:=X.prog
 w:=X.w
 K:=X.K
 mg:=X.mg
 base:=X.base
 A:=X.A
 N:=N
 s₀:=s₂
 H₀:=H₂
 env:=compEnvC scope cl C X.env
 outer:=X.stack
 stack:=X.stack
 ex:=fp
 fn:=fn
 calm:=X.calm
 pn:=[]
 xe:=λ_ _=>False
abbrev cxC:Cx->ab->Hp->Scope->List (Str×Addr)->Addr->List Addr->List Str->Cx:=cxF λ_=>false
def yf(z:List (Str×NameKind)):List Str->List Str->Bool
 | a::as,b::bs=>(match z.lookup b with|some .local=>false|some .free=>false|some .cell=>a==b|_=>true)&&yf z as bs
 | [],_=>true
 | _::_,[]=>true
def Yn(z:Scope)(M N:List Str):Prop:=∀(i:Nat) (x:Str),i<M[1]->N[i]?=!x->Vis z x->M[i]?=!x/\z.names.lookup x=some .cell
theorem Yo:∀{M N},yf sc.names M N=true->Yn sc M N
 | [],_,_,i,x,hi,_,_=>by simp at hi
 | _::_,[],_,i,x,_,e,_=>by simp at e
 | a::as,b::bs,h,0,x,_,e,v=>by
  unfold yf at h;rw[hE]at h;simp at e;subst e;cases q:sc.names.lookup b with
  | none=>rcases v with v|v|v<;>rw[q]at v<;>cases v
  | some k =>
   rw[q]at h;rcases v with v|v|v
   .rw[q]at v;cases v;show absurd h.1 fY
   .rw[q]at v;cases v
    simp_all
   rw[q]at v;cases v;show absurd h.1 fY
 | a::as,b::bs,h,i+1,x,hi,e,v=>by
  unfold yf at h;rw[hE]at h;have:=Yo h.2 i x hi[""] e[""] v
  assumption
def qak(n)(S:StOk κ F0 H0 F H ρ σ):StOk κ F H F H (jh n ρ) (σ++List.replicate n none):=by
 have at_:∀(i:Nat) w,(jh n ρ)[i]?=!(!w)->∃ w',ρ[i]?=!(!w')/\ro ↑w'=!w:=λi w e=>by
  delta jh at e
  by_cases hi:i<ρ.length
  .rw[t9 hi[""],gH]at e
   cases q:ρ[i]? with
   | none=>rw[q]at e;cases e
   | some y =>
    rw[q]at e;cases y with
    | none=>cases e
    | some w'=>show#[w',rfl,by simpa using e]
  rw[t4 hi[""],fJ]at e
  lia
 show#[Gr.refl S.s,by simp[jh,S.len],λi w e=>?_,λi j w w' a z ei ej oi oj si sj=>?_,λi y e=>?_]
 .let⟨w',e1,e2⟩:=at_ i w e;let⟨v,ev,q⟩:=S.val i w' e1;show#[v,by rw[t9 ((gp.mp ev).1)];show ev,?_]
  cases w' with
  | fz d=>cases e2;show q
  | ow d=>cases e2;let⟨a,o,e,_,_,eh,r⟩:=q;show#[a,o,e,eh,r]
  | lk d=>cases e2;show q
  | od d=>cases e2
  | br d=>cases e2;let⟨a,o,e,eh,r⟩:=q;show#[a,o,e,S.gr.h _ _ eh,r]
 .let⟨w1,e1,e2⟩:=at_ i w ei;cases w1<;>cases e2<;>cases oi
 let⟨w',e1,e2⟩:=at_ i _ e;cases w'<;>cases e2
def StOk.side{F0 H0 F H:Hp}(S:StOk κ F0 H0 F H ρ σ)(h0:H0 p=none)(B:F p=none)(z:∀(i:Nat) w,ρ[i]?=!(!w)->w.own=false):StOk κ F0 H0 F (upd H p o) ρ σ:=by
 show#[#[S.gr.f,λa u h=>?_,λa u h=>?_,S.gr.n],S.len,λi w e=>?_,S.sep,λi d e=>by cases z i _ e]
 .rw[qu (jN h h0)];show S.gr.h a u h
 .rw[qu (jN h B)];show S.gr.s a u h
 let⟨v,e1,q⟩:=S.val i w e;show#[v,e1,?_];have:=z i w e;cases w with
 | fz d=>show q
 | br d=>show q
 | ow d=>cases this
 | lk d=>show q
 | od d=>cases this
section
variable{X:Cx}{pins:List (Addr×Obj)}{σ:St}{H₂:Hp}{s₂:ab}{fp:List Addr}{it:Addr}{tn:Nat->Heap->Prop}{J:It}{tg:Expr}{scope:Scope}{cl:List (Str×Addr)}{N:List Str}{n:Nat}
def qal(B:"I" H₂ s₂)(T:Turn X.prog X.w X.K tg J fp it tn)(st:tn 0 s₂.heap)(f2:∀ b∈fp,FpOk X pins H₂ b)(U:scope.kind=.function)(O:Cap X.env cl scope.names)(Y:ClIn X.env cl)
  (hC:s₂[0]<=C):(cxC X s₂ H₂ scope cl C fp N).Ok:=by
 have Z:∀ x,((cxC X s₂ H₂ scope cl C fp N).env.kindOf x=some .cell\/(cxC X s₂ H₂ scope cl C fp N).env.kindOf x=some .free)->(x,NameKind.free)∈scope.names:=λx h =>
  Zw (λy hy=>(Cap.mem O y hy).1) h
 show#[B.ok.mod,U,B.ok.glob,B.ok.blt,hC,λx y c h1 h2=>B.ok.inj x y c (ClIn.look Y h1) (ClIn.look Y h2),λx hx=>?_,λx c h=>(by cases h),B.ok.hd,B.ok.frames,.inl rfl,λb hb=>?_,B.bs,tY B.ok.bsz B.sz,λb o e hb=>?_,λb hb z=>?_,B.stack,B.stkFree]
 .let⟨q1,q2⟩:=(Cap.mem O _ (Z x hx)).2 rfl;let⟨c,hc⟩:=B.ok.has x (.inl q1);show#[c,q2.trans hc]
 .let⟨f0,f1,f3,f4,f5,f6⟩:=f2 b hb;let⟨o,ho,_⟩:=T.obj 0 _ st b hb;show#[t8 (tB (gN ho) hC),λx c e=>f5 x c (ClIn.look Y e)]
 .let⟨f0,f1,f3,f4,f5,f6⟩:=f2 b hb;rcases f4 with f4|f4
  .show B.ok.noex b o e f4
  show absurd (tB (gN (B.ok.bs b o e).1) f4) (pF _)
 let⟨f0,f1,f3,f4,f5,f6⟩:=f2 b hb;rcases gw.mp (B.stkSub b z)with q|q
 .show f1 q
 show f3 q
def qam(O:"I" H₂ s₂)(T:Turn X.prog X.w X.K tg J fp it tn)(st:tn 0 s₂.heap)(f2:∀ b∈fp,FpOk X pins H₂ b)(Z:scope.kind=.function)(U:Cap X.env cl scope.names)(Y:ClIn X.env cl)
  (hsl:Yn (relabel scope X.env) X.N N)(h4:N[1]=X.N.length+n){C tk:Nat}{h₁:Heap}{m:Str->Option aa}(hC:s₂[0]<C)(hns:h₁.Ns C m)(old:∀ b o,s₂.heap.get? b=!o->h₁.get? b=!o)
  (h5:h₁.get? s₂[0]=some {cls:=.type "list",data:=.seq #[] 0}) :
  Inv (cxC X s₂ H₂ scope cl C fp N) [] (σ++List.replicate n none) (upd H₂ s₂[0] (.lst [])) {s₂ with heap:=h₁,toks:=tk}:=by
 have hf:H₂ s₂[0]=none:=O.hok.fresh (gC _);have hfC:H₂ C=none:=O.hok.fresh (cW hC);have B:∀ x c,X.env.cells.lookup x=!c->∀ v,s₂.heap.IsCell c v->h₁.IsCell c v:=λx c _ v #[o,ho,hd]=>#[o,old _ _ ho,hd]
 have cne:∀ x c,X.env.cells.lookup x=!c->c<s₂[0]:=λx c e=>by
  let⟨v,o,ho,_⟩:=O.cell x c e;show gN ho
 show#[qal O T st f2 Z U Y (cW hC),rfl,O.bare,Un.laid old (gC _) hf,#[m,hns,λi x v e1 e2 e3=>?_],λx c e=>?_,?_,λx c e=>?_,λp hp=>absurd (show p∈[]from hp) "s",?_,?_]
 .have hi:i<σ.length:=by
   by_cases hi:i<σ.length
   .show hi
   rw[t4 "",fJ]at e2
   simp_all
  rw[t9 hi]at e2;let⟨q1,q2⟩:=hsl i x (by rw[<- O.len];show hi) e1 e3
  have q3:(x,NameKind.free)∈scope.names:=Zw (env:=X.env) (λy hy=>(Cap.mem U y hy).1) (.inl q2)
  let⟨k1,k2⟩:=(Cap.mem U _ q3).2 rfl;let⟨m2,hn2,hl⟩:=O.loc;let⟨u,ru,lk⟩:=hl i x v q1 e2 (.inr (.inl k1));show#[u,ru,?_];rcases lk with⟨z,_⟩|⟨_,c,hc,h3⟩
  .simp_all
  show .inr #[.inl q2,c,by show cl.lookup x=!c;show k2.trans hc,B x c hc _ h3]
 .let⟨v,q⟩:=O.cell x c (ClIn.look Y e);show#[v,B x c (ClIn.look Y e) v q]
 .show upd H₂ s₂[0] (.lst []) C=none;rw[qu (pK hC)];show hfC
 .have:=cne x c (ClIn.look Y e);rw[qu (t8 this)];show O.freeC x c (ClIn.look Y e)
 .show O.hok.laid old (gC _) #[tP _,[],0,.nil,h5]
 simp[O.len,h4,cxC,cxF]
def yg(ρ:Rho):Prop:=∀(i:Nat) (w:En),ρ[i]?=!(!w)->w.own=false
def kL(gf:GF):Prop:=∀ d ρ ρ1,yg ρ->gf d ρ=.ok ρ1->yg ρ1
def qan(h:yg ρ)(i)(d):yg (ρ.set i (!d[8])):=λj w e=>by
 rcases qE e with⟨_,z⟩|⟨_,z⟩
 .cases z;rfl
 show h j w z
def zd(i):kL (gV i):=λd ρ ρ1 h e=>by cases e;show qan h i d
def qao(n)(ρ):yg (jh n ρ):=λi w e=>by
 delta jh at e
 by_cases hi:i<ρ.length
 .rw[t9 hi[""],gH]at e
  cases q:ρ[i]? with
  | none=>rw[q]at e;cases e
  | some y =>
   rw[q]at e;cases y with
   | none=>cases e
   | some w'=>cases w'<;>first|(simp[ro]at e;done)|(simp[ro]at e;subst e;rfl)
 rw[t4 hi[""],fJ]at e
 lia
inductive Tests(X:Cx)(F0 H0:Hp):List Expr->TF->Prop
 | nil:Tests X F0 H0 [] qI
 | one {c:Expr} {t:TF}:ST X F0 H0 c t->Tests X F0 H0 [c] t
def qap{X:Cx}{t:TF}(h:Tests X F0 H0 ifs t){Q:Bool->ab->Prop}(S:StOk (kx X) F0 H0 F H ρ σ)(I:"I" H s)
  (k:KE (XP X F0 H0) (t ρ) λb=>∀ F' H' s',Gr F H F' H'->"I" H' s'->Q b s') :
  X[3] (forIn ifs true λc r=>if r=true then do let ok <- isTrue c X.env (eval c X.env);pure (ForInStep.yield ok)else pure (ForInStep.yield r)) Q X.xe s:=by
 cases h with
 | nil=>show wpAny_tests_nil (k F H s (Gr.refl S.s) I)
 | one h=>show wpAny_tests_one (h pins s σ F H ρ Q S I k)
structure Mm(κ:Kx)(H₂:Hp)(p:Addr)(ad:En->R D)where
 RL:Hp->Hp->List V->List D->Prop
 nil:∀ F H,RL F H [] []
 len:∀{F H vs as},RL F H vs as->vs[1]=as[1]
 gr:∀{F H F' H' vs as},Gr F H F' H'->RL F H vs as->RL F' H' vs as
 step:∀{F H F' H' vs as v w y},Gr F H F' H'->Le F H->Le H₂ H->H p=!(.lst vs)->Vok κ H F' H' v w->ad w=.ok y->RL F H vs as->∃ F9,Gr F H F9 H'/\RL F9 (upd H' p (.lst (vs++[v]))) (vs++[v]) (as++[y])
def Zx(κ:Kx)(H₂:Hp)(p:Addr):Mm κ H₂ p En.st where
 RL F _ vs as:=Reps κ F vs as
 nil _ _:=rfl
 len:=Reps.length
 gr g r:=Reps.le g.f _ r
 step g l _ _ q e r:=by
  let⟨g9,_⟩:=vh l g;show#[_,g9,Reps.append (Reps.le g9.f _ r) (Reps.one (Vok.st l g q e))]
def qaq{X:Cx}{pins:List (Addr×Obj)}{σ:St}{F₂ H₂:Hp}{s₂ O:ab}{fp:List Addr}{it:Addr}{tn:Nat->Heap->Prop}{J:It}{tg elt iter:Expr}{ifs:List Expr}{scope:Scope}{cl:List (Str×Addr)}{N:List Str}{C p:Addr}
  {σ':St}{ρ':Rho}{ds:List D}{pos:Pos}{gf:GF}{t:TF}{e:EF}{RR:Result->ab->Prop}{ad:En->R D}(M:Mm (kx X) H₂ p ad)(l₂:Le F₂ H₂)(T:Turn X.prog X.w X.K tg J fp it tn)(hc:X.calm=true)(st:tn 0 O.heap)(Wk:Walk (kx X) J F₂ H₂ ds)
  (hfp:∀ b∈fp,FpOk (cxF fn X s₂ H₂ scope cl C fp N) [] (upd H₂ p (.lst [])) b)(hp:H₂ p=none)(I4:Inv (cxF fn X s₂ H₂ scope cl C fp N) [] σ' (upd H₂ p (.lst [])) O)(S4:StOk (kx X) F₂ H₂ F₂ H₂ ρ' σ')(no:yg ρ')(hno:kL gf)
  (hg:SG (cxF fn X s₂ H₂ scope cl C fp N) F₂ H₂ tg gf)(ht:Tests (cxF fn X s₂ H₂ scope cl C fp N) F₂ H₂ ifs t)(he:SE (cxF fn X s₂ H₂ scope cl C fp N) F₂ H₂ elt e)(hsz:ds[1]<=sz)
  (k:KE (λ_=>False) (zD ad gf t e ds ρ') λys=>∀ B F1 H1 vs s1,Gr F₂ H₂ F1 H1->F1 p=none->H1 p=!(.lst vs)->M.RL F1 H1 vs ys->Inv (cxF fn X s₂ H₂ scope cl C fp N) [] B H1 s1->RR (.ok .next) s1) :
  codeAny (model X.prog X.w) X.A (.compLoop (.ListComp elt [#[tg,iter,ifs,0]] scope pos) 0 (.ref it) (.ref p) (compEnvC scope cl C X.env)) RR O:=by
 have Y:∀{H'},(∀ b∈fp,H' b=none)->∀ b∈fp,FpOk (cxF fn X s₂ H₂ scope cl C fp N) [] H' b:=λhn b hb=>#[hn b hb,(hfp b hb).2]
 let⟨tgv,PGv,hgv⟩:=hg;show compLoop (λm s=>∃ i B F1 H1 ρ1 vs,∃ as,m=ds[1]-i/\i<=ds[1]/\Inv (cxF fn X s₂ H₂ scope cl C fp N) [] B H1 s/\tn i s.heap/\(∀ b∈fp,H1 b=none)/\StOk (kx X) F₂ H₂ F1 H1 ρ1 B/\yg ρ1 /\
  F1 p=none/\H1 p=!(.lst vs)/\M.RL F1 H1 vs as/\as[1]<=i /\
  KE (λ_=>False) (zD ad gf t e (ds.drop i) ρ1) λys=>∀ B F1 H1 vs s1,Gr F₂ H₂ F1 H1->F1 p=none->H1 p=!(.lst vs)->M.RL F1 H1 vs (as++ys)->Inv (cxF fn X s₂ H₂ scope cl C fp N) [] B H1 s1->RR (.ok .next) s1) ?_ ds[1]
  #[0,σ',F₂,upd H₂ p (.lst []),ρ',[],[],by simp,tP _,I4,st,λb hb=>(hfp b hb).1,S4.side hp (Le.none l₂ hp) no,no,Le.none l₂ hp,qS,M.nil _ _,gC _,by simpa using k]
 rintro m s ⟨i,B,F1,H1,ρ1,vs,as,rfl,hi,I1,st1,fr1,S1,no1,fp1,hp1,rs1,la,k1⟩;by_cases hlt:i<ds[1]
 .have ed:ds[i]?=!ds[i]:=by simp[hlt]
  have edr:ds.drop i=ds[i]::ds.drop (i+1):=fT hlt;let⟨go,yl⟩:=Wk.go i ds[i] F1 H1 ed S1.gr.f S1.s S1.gr.h;rw[edr]at k1;show thn (T.item (cxF fn X s₂ H₂ scope cl C fp N) rfl rfl rfl hc i [] s B H1 _ I1 (Y fr1) st1 go) λr s1' #[u,hr,h4]=>?_
  subst hr;show thn h4 λ_ s5 #[x,H5,I5,r5,y5,st5,fr5]=>?_
  let⟨F5,g5,rx⟩:=yl x H5 y5;have I5':=I5.pinned (Y fr5) (T.obj _ _ st5);have S5:=S1.grow g5;have k1:=KE.bind k1;cases eg:gf ds[i] ρ1 with
  | exc z=>rw[eg]at k1;cases k1
  | stuck=>rw[eg]at k1;cases k1
  | ok ρ2 =>
   rw[eg]at k1;have no2:=hno _ _ _ no1 eg;have k1:KE (λ_=>False) (t ρ2) _:=KE.bind k1
   show thn (PGv _ s5 B H5 x u (λσ6 H6=>H6=H5/\StOk (kx X) F₂ H₂ F5 H5 ρ2 σ6) I5' r5 (hgv B F5 H5 ρ1 x ds[i] _ S5 rx (by rw[eg];show λB S=>#[rfl,S]))) λ_ s6 #[σ6,H6,I6,e6,S6]=>?_
   subst e6;have Z:∀{σ7} {F7 H7} {s7} {vs7} {U},Inv (cxF fn X s₂ H₂ scope cl C fp N) ([]++xW fp s5.heap) σ7 H7 s7->StOk (kx X) F₂ H₂ F7 H7 ρ2 σ7->F7 p=none->H7 p=!(.lst vs7)->M.RL F7 H7 vs7 U->U[1]<=i+1 ->
     KE (λ_=>False) (zD ad gf t e (ds.drop (i+1)) ρ2) (λys=>∀ B F1 H1 vs s1,Gr F₂ H₂ F1 H1->F1 p=none->H1 p=!(.lst vs)->M.RL F1 H1 vs (U++ys)->Inv (cxF fn X s₂ H₂ scope cl C fp N) [] B H1 s1->RR (.ok .next) s1) ->
     ∃ m,m<ds[1]-i/\∃ i B F1 H1 ρ1 vs,∃ as,m=ds[1]-i/\i<=ds[1]/\Inv (cxF fn X s₂ H₂ scope cl C fp N) [] B H1 s7/\tn i s7.heap/\(∀ b∈fp,H1 b=none)/\StOk (kx X) F₂ H₂ F1 H1 ρ1 B/\yg ρ1 /\
      F1 p=none/\H1 p=!(.lst vs)/\M.RL F1 H1 vs as/\as[1]<=i /\
      KE (λ_=>False) (zD ad gf t e (ds.drop i) ρ1) (λys=>∀ B F1 H1 vs s1,Gr F₂ H₂ F1 H1->F1 p=none->H1 p=!(.lst vs)->M.RL F1 H1 vs (as++ys)->Inv (cxF fn X s₂ H₂ scope cl C fp N) [] B H1 s1->RR (.ok .next) s1):=by
    intro σ7 F7 H7 s7 vs7 U I7 S7 f7 h7 r7 l7 k7;show#[ds[1]-(i+1),"o",i+1,σ7,F7,H7,ρ2,vs7,U,rfl,hlt,I7.unpinned,T.keep _ _ _ st5 λb hb o e=>(I7.pin (b,o) (tw _ (tw _ (Qr hb e)))).1,λb hb=>?_,S7,no2,f7,h7,r7,l7,k7]
    let⟨o,e,d⟩:=T.obj _ _ st5 b hb;show(I7.pin (b,o) (tw _ (tw _ (Qr hb e)))).2.1
   have nf5:F5 p=none:=g5.no fp1 (hp1);show qap ht S6 I6 (KE.impX k1 (λb kb F7 H7 s7 g7 I7=>?_) λ_ z=>z)
   have nf7:F7 p=none:=g7.no nf5 (g5.h _ _ hp1);have hp7:H7 p=!(.lst vs):=g7.h _ _ (g5.h _ _ hp1);have g17:Gr F1 H1 F7 H7:=g5.trans g7;have l27:Le H₂ H7:=Le.trans S1.gr.h g17.h;cases b with
   | false =>
    rw[iN fY];show Z I7 (S6.grow g7) nf7 hp7 (M.gr g17 rs1) "" kb
   | true =>
    rw[iP rfl];have kb:KE (λ_=>False) ((e ρ2).bind λw=>(ad w).bind λy=>(zD ad gf t e (ds.drop (i+1)) ρ2).bind λys=>.ok (y::ys)) _:=kb
    show he _ s7 σ6 F7 H7 ρ2 _ (S6.grow g7) I7 (KE.impX (KE.bind kb) (λwv kw v u F8 H8 s8 g8 q8 r8 I8=>?_) λ_ z=>z)
    cases es:ad wv with
    | exc z=>rw[es]at kw;show kw.elim
    | stuck=>rw[es]at kw;cases kw
    | ok y =>
     rw[es]at kw;have kw:KE (λ_=>False) ((zD ad gf t e (ds.drop (i+1)) ρ2).bind λys=>.ok (y::ys)) _:=kw
     have kw:=KE.bind kw;let⟨F9,g9,r9⟩:=M.step g8 g7.s l27 hp7 q8 es (M.gr g17 rs1);have S9:=(S6.grow g7).grow g9;have nf9:F9 p=none:=g9.no nf7 hp7;have lv:vs[1]=as[1]:=M.len rs1;show thn (xX (X:=cxF fn X s₂ H₂ scope cl C fp N) _ s8 σ6 H8 (.ref p) [v] (.ref p) [u] (λ_ H9=>H9=upd H8 p (.lst (vs++[v]))) I8 rfl (.cons r8 .nil) #[p,vs,v,rfl,rfl,g8.h _ _ hp7,by rw[lv,<- zX];lia,rfl]) λ_ s9 #[_,H9,I9,_,e9]=>?_
     subst e9;show Z I9 (S9.side hp nf9 no2) nf9 qS r9 (by simp;omega) ?_
     show kw.imp λys q B F1 H1 vs s1=>by
      have:(as++[y])++ys=as++(y::ys):=by simp
      rw[this];show q B F1 H1 vs s1
 have ei:i=ds[1]:=""
 subst ei;rw[dj]at k1;show thn (T.done (cxF fn X s₂ H₂ scope cl C fp N) rfl rfl rfl hc _ [] s B H1 _ I1 (Y fr1) st1 (Wk.stop _ F1 H1 (gC _) S1.gr.f S1.s S1.gr.h)) λr s4' #[hr,I4']=>?_
 subst hr;show k1 B F1 H1 vs s4' S1.gr fp1 hp1 rs1[""] I4'
end
def clOf(env:Env):List (Str×NameKind)->List (Str×Addr)->List (Str×Addr)
 | [],cs=>cs
 | (n,k)::r,cs=>if k==.free then clOf env r ((n,(env.cells.lookup n).getD 0)::cs)else clOf env r cs
def vN(env:Env)(names:List (Str×NameKind)):Bool:=names.all λy=>y.2 != .cell&&(y.2 != .free||env.kindOf y.1==some .cell)
def qar{env:Env}(z:vN env scope.names=true)(B:∀ n,env.kindOf n=some .cell->∃ c,env.cells.lookup n=!c):closureFor scope env=pure (clOf env scope.names []):=by
 have go:∀ names cs,vN env names=true ->
   (forIn names cs λx r=>match x with|(name,kind)=>if (kind==NameKind.free)=true then do let y <- cellOf env name;pure (ForInStep.yield ((name,y)::r))else pure (ForInStep.yield r))=pure (clOf env names cs):=by
  intro names
  induction names with
  | nil=>intro cs _;rfl
  | cons y r ih =>
   intro cs z;let⟨n,k⟩:=y
   delta vN at z
   rw[pG,hE,hE]at z;rw[bE];by_cases hk:(k==NameKind.free)=true
   .have O:k=.free:=by simpa using hk
    have:env.kindOf n=some .cell:=by
     have:=z.1.2;simp[O]at this;simpa using this
    let⟨c,hc⟩:=B n this;have e:cellOf env n=pure c:=by simp[cellOf,hc]
    simp only[hk,e,clOf,hc];show ih _ z.2
   simp only[hk,clOf];show ih _ z.2
 show congrArg (λm=>m >>= λs=>pure s) (go scope.names [] z)
def Yp{env:Env}:∀(names:List (Str×NameKind)) (cs:List (Str×Addr)),vN env names=true->(∀ n,env.kindOf n=some .cell->∃ c,env.cells.lookup n=!c)->ClIn env cs->ClIn env (clOf env names cs):=λr=>r.rec
 (λcs _ _ h=>h)
 λ#[n,k] r IH cs hb has h=>by
  delta vN at hb
  rw[pG,hE,hE]at hb;unfold clOf;by_cases hk:(k==NameKind.free)=true
  .rw[iP hk];have z:k=.free:=by simpa using hk
   have:env.kindOf n=some .cell:=by
    have:=hb.1.2;simp[z]at this;simpa using this
   let⟨c,hc⟩:=has n this;show IH _ hb.2 has #[by rw[hc];rfl,h]
  rw[iN hk];show IH _ hb.2 has h
def qas{env:Env}:∀(names:List (Str×NameKind)) (cs:List (Str×Addr)),vN env names=true->(∀ n,env.kindOf n=some .cell->∃ c,env.cells.lookup n=!c)->ClIn env cs ->
  ∀ n,((n,NameKind.free)∈names\/(∃ c,cs.lookup n=!c))->∃ c,(clOf env names cs).lookup n=!c:=λr=>r.rec
 (λcs _ _ _ n h=>by
  rcases h with h|h
  .grind
  show h)
 λ#[m,k] r IH cs hb has hcs n h=>by
  delta vN at hb
  rw[pG,hE,hE]at hb;unfold clOf;by_cases hk:(k==NameKind.free)=true
  .rw[iP hk];have z:k=.free:=by simpa using hk
   have hc:env.kindOf m=some .cell:=by
    have:=hb.1.2;simp[z]at this;simpa using this
   let⟨c,hc⟩:=has m hc;show IH ((m,(env.cells.lookup m).getD 0)::cs) hb.2 has (And.intro (by rw[hc];rfl) hcs) n ?_
   by_cases e:n=m
   .simp_all
   rcases h with h|⟨c',h⟩
   .grind
   have:(n==m)=false:=by simpa using e
   show .inr #[c',by simp[List.lookup,this,h]]
  rw[iN hk];show IH _ hb.2 has hcs n ?_
  grind
def qat{scope:Scope}{env:Env}(O:vN env scope.names=true)(B:∀ n,env.kindOf n=some .cell->∃ c,env.cells.lookup n=!c):Cap env (clOf env scope.names []) scope.names:=by
 have U:∀ names,(∀ y∈names,y∈scope.names)->Cap env (clOf env scope.names []) names:=by
  intro names
  induction names with
  | nil=>intro _;trivial
  | cons y r ih =>
   intro h;let⟨n,k⟩:=y;have hy:=h (n,k) h9;have q:=pD.mp O (n,k) hy;simp only[hE]at q;show#[#[by simpa using q.1,λhk=>?_],ih λz hz=>h z (gj _ hz)]
   subst hk;have q2:env.kindOf n=some .cell:=by
    simp_all
   let⟨c,hc⟩:=qas scope.names [] O B trivial n (.inl hy);show#[q2,hc.trans (ClIn.look (Yp scope.names [] O B trivial) hc).symm]
 show U scope.names λy hy=>hy
section
variable{X:Cx}{F0 H0:Hp}{pos:Pos}{tg elt iter:Expr}{ifs:List Expr}{scope:Scope}{fi:IF}{gf:GF}{t:TF}{e:EF}
abbrev cxD(X:Cx)(scope:Scope)(N:List Str)(s₂:ab)(H₂:Hp)(C:Addr)(fp:List Addr):Cx:=cxC X s₂ H₂ scope (clOf X.env scope.names []) C fp N
def okP{H H₂ F1 H1:Hp}(l:∀ c,H₂ c=none->H c=none)(h0:H₂ p=none)(z:F1 p=none)(B:H1 p=!(.lst vs))(rs:(Zx κ H₂ p).RL F1 H1 vs ys):Vok κ H F1 H1 (.ref p) (.lst ys)[9]:=#[_,_,rfl,l _ h0,z,B,rs]
def Zy(N){ad:En->R D}{fn:List D->En}(M:∀ H₂ p,Mm (kx X) H₂ p ad)(hfn:∀{H H₂ F1 H1 p vs ys},(∀ c,H₂ c=none->H c=none)->H₂ p=none->F1 p=none->H1 p=!(.lst vs)->(M H₂ p).RL F1 H1 vs ys->Vok (kx X) H F1 H1 (.ref p) (fn ys)){use:Option (aa->Sem Unit)}(hi:SIc X F0 H0 tg iter fi)(hno:kL gf)
  (hg:∀ s₂ F₂ H₂ C fp,SG (cxD X scope N s₂ H₂ C fp) F₂ H₂ tg gf)(ht:∀ s₂ F₂ H₂ C fp,Tests (cxD X scope N s₂ H₂ C fp) F₂ H₂ ifs t)(he:∀ s₂ F₂ H₂ C fp,SE (cxD X scope N s₂ H₂ C fp) F₂ H₂ elt e)
  (hc:X.calm=true)(U:scope.kind=.function)(Z:vN X.env scope.names=true)(h4:yf (relabel scope X.env).names X.N N=true)(h6:N[1]=X.N.length+n)
  (h5:∀ x∈scope.names,x.2=.local->scope.names.lookup x.1=some .local)(hs:∀ x,foldedSetIterable iter X.env x=pure x)
  {pins:List (Addr×Obj)}{s:ab}{σ:St}{F H:Hp}{ρ:Rho}{Q:aa->ab->Prop}{h7:Pos}(S:StOk (kx X) F0 H0 F H ρ σ)(I:"I" H s)
  (h:KE (XP X F0 H0) (uj ad fn n fi gf t e ρ) λw=>∀ p C F1 H1 s1 m,Gr F H F1 H1->Vok (kx X) H F1 H1 (.ref p) w->"I" H1 s1->s1.heap.Ns C m ->
   (∀ s2 H2 h' (σ':St),Inv X pins σ' H2 s2->H2 C=none->(∀ b o,b≠C->s2.heap.get? b=!o->h'.get? b=!o)->Inv X pins σ' H2 {s2 with heap:=h'})->H1 C=none->C≠X.env.locals->(∀ x c,X.env.cells.lookup x=!c->c≠C) ->
   compPost (model X.prog X.w) X.A X.xe use Q (.ref p) C (.ok .next) s1) :
  X[3] (comprehension (.ListComp elt [#[tg,iter,ifs,0]] scope pos) scope X.env h7 (newList []) false (eval iter X.env) use) Q X.xe s:=by
 have has:∀ n,X.env.kindOf n=some .cell->∃ c,X.env.cells.lookup n=!c:=λn hn=>I.ok.has n (.inl hn)
 have hCl:=Yp scope.names [] Z has trivial;have hCp:=qat Z has;show wpAny_comprehension_free rfl hs (qar Z has) U h5 ?_;let⟨wi,PIv,hwi⟩:=hi;cases ed:fi ρ with
 | exc x=>have h:=KE.bind h;rw[ed]at h;show h.elim
 | stuck=>have h:=KE.bind h;rw[ed]at h;cases h
 | ok ds =>
  have h:=KE.bind h;rw[ed]at h;show thn (PIv pins s σ H (λJ H1=>∃ F1,Gr F H F1 H1/\Walk (kx X) J F1 H1 ds) I (hwi σ F H ρ _ S (by rw[ed];show λF1 H1 J g W=>#[F1,g,W]))) λv s1 h1=>thn h1 λitv s₂ h2=>?_
  let⟨it,fp,tn,J,H₂,rfl,I2,T,st2,f2,F₂,g2,Wk⟩:=h2;show f8 (wpAny_newFunctionEnv (λx hx=>(Cap.mem hCp x hx).1) (by intro y hy;simp at hy) (λh₁ Y O=>?_) U)
  generalize hH2:s₂.heap.push {cls:=.type "list",dict:=none,data:=.seq [].toArray}=HP at Y O ⊢;have hC:HP.objs.size=s₂[0]+1:=by rw[<- hH2,cP]
  have hDC:s₂[0]≠HP.objs.size:=by rw[hC];show t8 (dh _)
  have old:∀ b o,s₂.heap.get? b=!o->h₁.get? b=!o:=λb o e =>
   O.extBut b o (t8 (by rw[hC];show dW (gN e))) (gu _ (hH2▸gu _ e))
  have h8:h₁.get? s₂[0]=some {cls:=.type "list",data:=.seq #[] 0}:=O.extBut _ _ hDC (gu _ (hH2▸gM _ rfl));have hp:H₂ s₂[0]=none:=I2.hok.fresh (gC _);have B:s₂[0]<HP.objs.size:=by rw[hC];show dh _
  have I4:=qam (N:=N) (n:=n) (tk:=s₂.toks+([]:List (Str×aa))[1]) I2 T st2 f2 U hCp hCl (Yo h4) h6 B Y old h8;have st4:tn 0 h₁:=T.keep _ _ _ st2 λb hb o e=>old b o e
  have S4:StOk (kx X) F₂ H₂ F₂ H₂ (jh n ρ) (σ++List.replicate n none):=qak n (S.grow g2);have h9:∀ b∈fp,FpOk (cxD X scope N s₂ H₂ HP.objs.size fp) [] (upd H₂ s₂[0] (.lst [])) b:=λb hb=>by
   let⟨f0,f1,f3,f4,f5,f6⟩:=f2 b hb;let⟨o,ho,_⟩:=T.obj 0 _ st2 b hb;have lb:=gN ho;show#[by rw[qu (t8 lb)];show f0,(show b≠HP.objs.size from t8 (bJ lb B)),λz=>?_,.inl hb,λx c e=>f5 x c (ClIn.look hCl e),λq hq=>absurd (show q∈[]from hq) "s"]
   rcases gw.mp (I2.stkSub b z)with q|q
   .show f1 q
   show f3 q
  rw[ya]at h;by_cases csz:ds[1]<=sz
  .rw[iP csz]at h;have run:∀ h3,h3={s₂ with heap:=h₁,toks:=s₂.toks+([]:List (Str×aa))[1]} ->
     codeAny (model X.prog X.w) X.A (.compLoop (.ListComp elt [#[tg,iter,ifs,0]] scope pos) 0 (.ref it) (.ref s₂[0]) (compEnvC scope (clOf X.env scope.names []) HP.objs.size X.env))
      (compPost (model X.prog X.w) X.A X.xe use Q (.ref s₂[0]) HP.objs.size) h3:=by
    rintro h3 rfl;show qaq (pins:=pins) (σ:=σ) (N:=N) (s₂:=s₂) (F₂:=F₂) (M H₂ _) g2.s T hc st4 Wk h9 hp I4 S4 (qao n ρ) hno (hg _ _ _ _ _) (ht _ _ _ _ _) (he _ _ _ _ _) csz (KE.impX (KE.bind h) (λys k σ1 F1 H1 vs s1 g1 nf hv rs I1=>?_) λ_ z=>z)
    have J1:"I" H1 s1:=I2.call' (ch:=fp) I1.os I1.base I1.hok I1.bare λb hb=>by
     let⟨f0,f1,f3,f4,f5,f6⟩:=f2 b hb;show#[f4,f1,f5,f6]
    let⟨m1,hn1,_⟩:=I1.loc;have cl2:∀ x c,X.env.cells.lookup x=!c->c≠HP.objs.size:=λx c e z=>by
     let⟨v,o,ho,_⟩:=I2.cell x c e;show pF _ (bJ (gN ho) (z▸B))
    have lne:HP.objs.size≠X.env.locals:=tu (t8 (bJ I2.lt B));show k s₂[0] HP.objs.size F1 H1 s1 m1 (g2.trans g1) (hfn (λc z=>Le.none g2.h z) hp nf hv rs) J1 hn1 (λs2 H2 h' σ' J2 hn kk=>?_) I1.free lne cl2
    show J2.turned (t':=s2.toks) kk hn lne (.inr (tY I2.sz (cW B))) cl2 λq hq z=>?_
    show pF _ (bJ (gN (I2.pin q hq).1) (z▸B))
   show codeAny_compStart_list (run _ rfl) (T.self _ 0 _ _ _ st4 (run _ rfl))
  rw[iN csz]at h;cases h
def zE{n:Nat}(N)(hi:SIc X F0 H0 tg iter fi)(Z:kL gf)
  (hg:∀ s₂ F₂ H₂ C fp,SG (cxD X scope N s₂ H₂ C fp) F₂ H₂ tg gf)(ht:∀ s₂ F₂ H₂ C fp,Tests (cxD X scope N s₂ H₂ C fp) F₂ H₂ ifs t)(he:∀ s₂ F₂ H₂ C fp,SE (cxD X scope N s₂ H₂ C fp) F₂ H₂ elt e)
  (hc:(X.calm=true)["r"])(O:(scope.kind=.function)["r"])(U:(vN X.env scope.names=true)["r"])(z:(yf (relabel scope X.env).names X.N N=true)["r"])(Y:(N[1]=X.N.length+n)["r"])
  (B:∀ x∈scope.names,x.2=.local->scope.names.lookup x.1=some .local:=by decide +kernel)(hs:∀ x,foldedSetIterable iter X.env x=pure x:=by intro _;rfl) :
  "S" (.ListComp elt [#[tg,iter,ifs,0]] scope pos) (qF n fi gf t e):=by
 show λpins s σ F H ρ Q S I h=>Zy N (λ_ _=>Zx _ _ _) okP hi Z hg ht he hc O U z Y B hs S I (h.imp λw k p C F1 H1 s1 m g q I1 hn turn hC _ _=>#[m,hn,λh' sb=>(k (.ref p) (.ref p) F1 H1 _ g q rfl (turn s1 H1 h' σ I1 hC λb o hb e=>(sb.2 b hb).trans e))])
def Zz(i){x:Str}{pos' B:Pos}{n:Nat}(N)(hN:X.N.Nodup)(hi:SIc X F0 H0 tg iter fi)(hno:kL gf)
  (hg:∀ s₂ F₂ H₂ C fp,SG (cxD X scope N s₂ H₂ C fp) F₂ H₂ tg gf)(ht:∀ s₂ F₂ H₂ C fp,Tests (cxD X scope N s₂ H₂ C fp) F₂ H₂ ifs t)(he:∀ s₂ F₂ H₂ C fp,SE (cxD X scope N s₂ H₂ C fp) F₂ H₂ elt e)
  (hix:(X.N[i]?=!x)["r"])(hx:(Loc X.env.scope x)["t"])(hsw:(swapsWith (.ListComp elt [#[tg,iter,ifs,0]] scope pos) (!(.Name x pos')) B.line X.env=pure true)["r"])
  (hf:(X.fn x=true\/X.env.scope.names.lookup x=some .local)["t"])
  (hc:(X.calm=true)["r"])(Y:(scope.kind=.function)["r"])(Z:(vN X.env scope.names=true)["r"])(O:(yf (relabel scope X.env).names X.N N=true)["r"])(h3:(N[1]=X.N.length+n)["r"])
  (U:∀ x∈scope.names,x.2=.local->scope.names.lookup x.1=some .local:=by decide +kernel)(hs:∀ x,foldedSetIterable iter X.env x=pure x:=by intro _;rfl) :
  SS X F0 H0 (.Assign [.Name x pos'] (.ListComp elt [#[tg,iter,ifs,0]] scope pos) B) (qk i (qF n fi gf t e)):=by
 intro pins s σ F H ρ D S I h;rw[exec_Assign_Name_used _ _ _ _ hsw];show gg (mm (gg ?_));show gg (cu (Zy N (λ_ _=>Zx _ _ _) okP hi hno hg ht he hc Y Z O h3 U hs S I ((KE.bind (PostS.of h)).imp λw k p C F1 H1 s1 m g q I1 hn turn hC hL hcl=>?_)) (λ_ s' hq=>gy (gy hq)) λ_ _ e=>e)
 let⟨w',e1,k2,rfl⟩:=QE k;show bV (Z9 I1 hN hix hx (v:=.ref p) rfl (λs2 I2 hch=>?_) hf)
 let⟨a,sb,ha⟩:=hch;have aC:C≠a:=by
  rcases ha with z|z
  .rw[z];show hL
  show λq=>hcl x a z q.symm
 show#[m,hn.sameBut sb aC,λh' sb2=>#[_,H1,turn s2 H1 h' _ I2 hC λb o hb e=>(sb2.2 b hb).trans e,k2 _ F1 H1 g.f (S.setW g q e1)]]
end
def jX:List D->Option (List Int)
 | []=>↑[]
 | .int i::r=>(match jX r with|some l=>↑(i::l)|none=>none)
 | _::_=>none
def yh:Int->List Int->Int
 | m,[]=>m
 | m,x::r=>yh (if x>m then x else m) r
def Yq:∀(r:List Int) (m:Int),(yh m r∈m::r)/\∀ a∈m::r,a<=yh m r:=λr=>r.rec
 (λm=>#[h9,λa ha=>by simp at ha;subst ha;show pE _])
 λx r IH m=>by
  let⟨h1,h2⟩:=IH (if x>m then x else m)
  have e:yh m (x::r)=yh (if x>m then x else m) r:=rfl
  rw[e];by_cases c:x>m
  .rw[iP c]at h1 h2 ⊢;show#[gj _ h1,λa ha=>?_]
   rcases gw.mp ha with rfl|ha
   .have:=h2 x h9;lia
   show h2 a ha
  rw[iN c]at h1 h2 ⊢;show#[?_,λa ha=>?_]
  .grind
  rcases gw.mp ha with rfl|ha
  .show h2 _ h9
  rcases gw.mp ha with rfl|ha
  .have:=h2 m h9;lia
  simp_all
theorem yH:∀{ds} {vs} {ns},jX ds=!ns->Reps κ F vs ds->vs=ns.map V.int
 | [],vs,ns,h,r=>by cases h;show r
 | d::ds,vs,ns,h,r=>by
  let⟨v,vr,rfl,r1,r2⟩:=r;cases d<;>first|(cases h;done)|skip
  unfold jX at h;cases e:jX ds with
  | none=>rw[e]at h;cases h
  | some l =>
   rw[e]at h;cases h;cases (r1);rw[yH e r2];rfl
section
variable{X:Cx}{F0 H0:Hp}
def QK:Sum Int Str->D
 | .inl i=>.int i
 | .inr x=>.str x
def ZB(e:EF):IF:=λρ=>(e ρ).bind λw=>w.st.bind λd=>match d with
 | .dK kvs=>.ok (kvs.map λp=>QK p.1)
 | _=>.stuck
def ItK(ks:List Key):It:=#[λi _=>i<ks[1],λi H x H'=>H'=H/\∃ k,ks[i]?=!k/\x=kV k,λi _=>ks[1]<=i]
def qau(h:(jj P w).is k u=true):RelV (kV k) u:=by
 rcases w9 h with⟨i,t,rfl,rfl⟩|⟨x,t,rfl,rfl⟩
 .show#[t,rfl]
 show#[t,rfl]
def qav{K:Frag}{o:Obj}{es:Array DictEntry}{ep:Nat}{vs:List (Key×aa)}(B:K.lookup a=!o)(h1:o.ExactDict)(h2:o.data=.dict es ep)
  (O:KeysOf (jj P w) es)(U:Pairs (jj P w) es[2] vs)(Y:(vs.map (·.1)).Nodup):Turn P w K tg (ItK (vs.map (·.1))) [it] it (λi h=>h.IsKeyIter it a i vs[1] ep)where
 mem:=by simp
 obj:=λi h st b hb=>by
  let⟨o,e,c,d⟩:=st
  simp_all
 keep:=λi h h' st k=>by
  let⟨o,e,r⟩:=st;show#[o,k it "s" o e,r]
 item:=by
  intro X hP hw hK hc i pins s σ H E I hf st hg;subst hP hw hK;have hm:s.heap.DictAt (jj X.prog X.w) a vs ep:=#[o,es,I.kIn a o B,h1,h2,O,U,Y];have hg:i<(vs.map (·.1))[1]:=hg
  rw[g6]at hg;let⟨f0,f1,f2,f3,f4,f5⟩:=hf it "s"
  have hx:vs[i]?=!((vs[i]).1,(vs[i]).2):=by simp[hg]
  show wpAny_pyNext_dict_item st hm hx λkey h' ik z sb=>?_
  have I1:"I" H {s with heap:=h'}:=I.turned (λb o hb e=>(sb.2 b hb).trans e) f0 f1 f3 f4 f5
  let⟨o',e,c,d⟩:=id z;show#[key,rfl,yz (s:={s with heap:=h'}) e c d "d" #[kV (vs[i]).1,H,I1,qau ik,#[rfl,(vs[i]).1,by simp[hg],rfl],z,λb hb=>(hf b hb).1]]
 done:=by
  intro X hP hw hK hc i pins s σ H E I hf st hg;subst hP hw hK;have hm:s.heap.DictAt (jj X.prog X.w) a vs ep:=#[o,es,I.kIn a o B,h1,h2,O,U,Y];have hg:(vs.map (·.1))[1]<=i:=hg
  rw[g6]at hg;let⟨f0,f1,f2,f3,f4,f5⟩:=hf it "s"
  show wpAny_pyNext_dict_end (I.ok.hd hc) st hm (by simp;omega) λh' eb=>#[rfl,I.turned (t':=s.toks) (λb o hb e=>eb b o hb e) f0 f1 f3 f4 f5]
 self:=λ_ _ _ _ _ st h=>wpAny_pyIter_keyiter st h
theorem ZC:∀{kds} {kvs},RepK κ F kvs kds->kvs.map (·.1)=kds.map (·.1)
 | [],_,h=>by cases (h);rfl
 | (k,d)::r,_,h=>by
  let⟨v,kr,rfl,h1,h2⟩:=h;simp[ZC h2]
def qaw(B:X.mg x=!u)(r:RelV v u)(q:∀ F,Rep (kx X) F v d)(O:(Gl X x)["r"])(hd:((x==("__debug__"))=false)["d"]) :
  SI X F0 H0 tg (.Name x pos) (ZB (eC d)):=by
 show#[λσ H R=>∃ kds,d=.dK kds/\R (ItK (kds.map (·.1))) H,?_,λσ F H ρ R S h=>?_]
 .intro pins s σ H R I ⟨kds,ed,hR⟩;subst ed;let⟨a,kvs,ev,hq,rk⟩:=q (λ_=>none)
  subst ev;cases (show u=Value.ref a from r)
  rcases hq with(hq|⟨_,hq⟩)|⟨hs,o,es,ep,vs,hk,h1,h2,h3,h4,h5,h6⟩
  .cases hq
  .cases hq
  show Za I O B ?_ hd;have z:s.heap.DictAt (jj X.prog X.w) a vs ep:=#[o,es,I.kIn a o hk,h1,h2,h3,h4,h5];have ek:vs.map (·.1)=kds.map (·.1):=by rw[<- ZC rk];show(KV.keys h6).symm
  show wpAny_pyIter_dict hs z ?_;show#[s[0],[s[0]],_,_,H,rfl,I.kept λb o e=>gu _ e,qav hk h1 h2 h3 h4 h5,#[_,gM _ rfl,rfl,rfl],λb hb=>?_,?_]
  .have e:b=s[0]:=by simpa using hb
   subst e;show I.fpOk (gC _) (I.hok.fresh (gC _))
  rw[ek];show hR
 cases d<;>first|show h.elim|skip
 rename_i kds;show#[kds,rfl,?_];show h F H _ (Gr.refl S.s) #[λi dd F2 H2 e l1 l2 _=>?_,λi F2 H2 hi l1 l2 _=>?_]
 .rw[gH]at e;cases ek:kds[i]? with
  | none=>rw[ek]at e;cases e
  | some p =>
   rw[ek]at e;have e:QK p.1=dd:=by simpa using e
   have hi:i<kds[1]:=(gp.mp ek).1;show#[by simpa[ItK]using hi,λy H' hy=>?_]
   let⟨eh,k,e1,e2⟩:=hy;subst eh;show#[F2,Gr.refl l2,?_];rw[gH,ek]at e1;have e1:p.1=k:=by simpa using e1
   subst e1 e2 e;cases p.1<;>rfl
 simpa[ItK]using hi
end
def StOk.frz{a:Addr}(S:StOk κ F0 H0 F H ρ σ)(B:ρ[i]?=!(!d[9])):∃ F',Le F F'/\StOk κ F0 H0 F' H (ρ.set i (!d[8])) σ:=by
 let⟨v,si,b,o,rfl,h0,hf,hh,ro⟩:=S.val i _ B;have l:Le F (upd F b o):=λc u h=>by rw[qu (jN h hf)];show h
 show#[upd F b o,l,#[#[Le.trans S.gr.f l,S.gr.h,λc u h=>?_,λc h=>?_],by simpa using S.len,λj w e=>?_,λj k w w' c O ej ek oj ok sj sk=>?_,λj y e=>?_]]
 .by_cases e:c=b
  .subst e;rw[qS]at h;cases h;show hh
  rw[qu e]at h;show S.gr.s c u h
 .by_cases e:c=b
  .subst e;show .inr (.inl h0)
  rw[qu e]at h;show S.gr.n c h
 .rcases qE e with⟨rfl,z⟩|⟨ne,z⟩
  .cases z;show#[_,si,?_];have r:=OwnO.le l ro;cases o<;>cases d<;>first
    | show r.elim
    | show#[b,_,rfl,.inl (.inl qS),r]
    | show#[b,_,rfl,.inl qS,r]
  let⟨v,e1,q⟩:=S.val j w z;show#[v,e1,?_];have nb:∀{c},v=.ref c->w.own=true->c≠b:=λ{c} ev ow ec=>by
   subst ev ec;show S.sep j i w _ c ne z B ow rfl e1 si
  cases w with
  | fz d=>show Rep.le l d q
  | br d=>let⟨c,oc,ec,eh,cr⟩:=q;show#[c,oc,ec,eh,OwnO.le l cr]
  | ow d=>let⟨c,oc,ec,c0,cf,ch,cr⟩:=q;show#[c,oc,ec,c0,by rw[qu (nb ec rfl)];show cf,ch,OwnO.le l cr]
  | lk d=>show#[Rep.le l d q.1,RawT.le l q.2]
  | od d=>let⟨c,oc,ec,c0,cf,ch⟩:=q;show#[c,oc,ec,c0,by rw[qu (nb ec rfl)];show cf,ch]
 .rcases qE ej with⟨_,z⟩|⟨nj,ej⟩
  .cases z;cases oj
  rcases qE ek with⟨_,z⟩|⟨nk,ek⟩
  .cases z;cases ok
  show S.sep j k w w' c O ej ek oj ok sj sk
 rcases qE e with⟨_,z⟩|⟨nj,ej⟩
 .lia
 let⟨s1,c,bs,e1,c0,cf,nd,dp,sp⟩:=S.dp j y ej;have nb:∀ x∈c::bs,x≠b:=λx m z=>by subst z;show sp i _ _ (tu nj) B rfl m si
 show#[λk z hk ek=>?_,c,bs,e1,c0,by rw[qu (nb c "s")];show cf,nd,Deep.same (λ_ _=>rfl) (λx m z=>by rw[qu (nb x (gj _ m))];show z) l dp,λk w x hk ek ok m=>?_]
 .rcases qE ek with⟨_,q⟩|⟨_,q⟩
  .cases q
  show s1 k z hk q
 rcases qE ek with⟨_,q⟩|⟨_,q⟩
 .cases q;cases ok
 show sp k w x hk q ok m
def zu{st:Stmt}(i)(h:SS X F0 H0 st f):SS X F0 H0 st (jJ i f):=by
 intro pins s σ F H ρ D S I k
 delta jJ L3.frz at k
 split at k
 .rename_i d e;let⟨F',l,S'⟩:=S.frz (a:=0) e;show h pins s σ F' H _ D S' I (PostS.le l k)
 show h pins s σ F H ρ D S I k
def jk{κ:Type} [DecidableEq κ](k:κ)(v:D)(kds:List (κ×D)):List (κ×D) :=
 if (kds.any λkv=>decide (kv.1=k))=true then kds.map (λkv=>if kv.1=k then(kv.1,v)else kv)else kds++[(k,v)]
def eDK:EF:=λ_=>.ok (.dK [])[9]
def eDT:EF:=λ_=>.ok (.dT [])[9]
theorem Yr:∀{kds es} {kvs us},RepK κ F kvs kds->RepK κ F us es->RepK κ F (kvs++us) (kds++es)
 | [],_,_,_,h,k=>by cases (h);show k
 | (q,d)::r,_,_,_,h,k=>by
  let⟨v,kr,rfl,h1,h2⟩:=h;show#[v,kr++_,rfl,h1,Yr h2 k]
theorem ZD(z:Rep κ F v d):∀{kds} {kvs},RepK κ F kvs kds ->
  RepK κ F (kvs.map λkv=>if kv.1=k then(kv.1,v)else kv) (kds.map λkv=>if kv.1=k then(kv.1,d)else kv)
 | [],_,h=>by cases (h);rfl
 | (q,e)::r,_,h=>by
  let⟨u,kr,rfl,h1,h2⟩:=h;by_cases c:q=k
  .subst c;simp[gP];show#[v,_,rfl,z,(ZD z h2)]
  simp[gP,iN c];show#[u,_,rfl,h1,(ZD z h2)]
def qax(k){kds:List (Sum Int Str×D)}{kvs:List (Key×V)}(h:RepK κ F kvs kds):(kvs.any λkv=>decide (kv.1=k))=(kds.any λkv=>decide (kv.1=k)):=by
 have a:∀{α} (l:List (Key×α)),(l.any λkv=>decide (kv.1=k))=(l.map (·.1)).any λq=>decide (q=k):=λl=>by rw[List.any_map];rfl
 rw[a,a,(ZC h)]
def qay(z:Rep κ F v d)(h:RepK κ F kvs kds):RepK κ F (jO kvs k v) (jk k d kds):=by
 delta jO jk
 rw[qax k h];by_cases c:(kds.any λkv=>decide (kv.1=k))=true
 .rw[iP c,iP c];show ZD z h
 rw[iN c,iN c];show Yr h #[v,[],rfl,z,rfl]
section
variable{X:Cx}{F0 H0:Hp}{pos pos':Pos}
def Ys:"S" (.Dict [] [] pos) eDK:=by
 show λpins s σ F H ρ Q S I h=>thn (TM pins s σ H (λv H'=>∃ p,v=.ref p/\H p=none/\H'=upd H p (.dK [])) I λp hp=>#[p,rfl,hp,rfl]) λu s' #[v,H',I',r,p,ev,hp,eh]=>?_
 subst ev eh;show h (.ref p) u F (upd H p (.dK [])) s' (Gr.new S.s hp) #[p,_,rfl,hp,Le.none S.s hp,qS,rfl] r I'
def ZE:"S" (.Dict [] [] pos) eDT:=by
 show λpins s σ F H ρ Q S I h=>thn (TN pins s σ H (λv H'=>∃ p,v=.ref p/\H p=none/\H'=upd H p (.dT [])) I λp hp=>#[p,rfl,hp,rfl]) λu s' #[v,H',I',r,p,ev,hp,eh]=>?_
 subst ev eh;show h (.ref p) u F (upd H p (.dT [])) s' (Gr.new S.s hp) #[p,_,rfl,hp,Le.none S.s hp,qS,rfl] r I'
def wj(i:Nat)(k e:EF):SF:=λρ=>match ρ[i]? with
 | some (!(.dK kvs)[9])=>sOf ((e ρ).bind En.st) λd=>sOf (k ρ) λq=>match zC q.d with
  | some key=>if kvs[1]<sz then .nx (ρ.set i (!(.dK (jk key d kvs))[9]))else .stuck
  | none=>.stuck
 | _=>.stuck
def Yt(i)(Y:X.A.units+10<cLine)(z:"S" k fk)(B:"S" e fe)(O:(Nm X i x)["t"])(U:(swapsWith e (!(.Subscript (.Name x np) k pos')) pos.line X.env=pure false)["r"]) :
  SS X F0 H0 (.Assign [.Subscript (.Name x np) k pos'] e pos) (wj i fk fe):=by
 intro pins s σ F H ρ D S I h
 delta wj at h
 cases ew:ρ[i]? with
 | none=>rw[ew]at h;show h.elim
 | some w =>
  rw[ew]at h;cases w with
  | none=>show h.elim
  | some w =>
   cases w with
   | fz d=>show h.elim
   | br d=>show h.elim
   | lk d=>show h.elim
   | od d=>show h.elim
   | ow d =>
    cases d<;>first|show h.elim|skip
    rename_i kds;have h:=KE.bind (PostS.of h);let⟨v,e1,a,o,rfl,h0,hf,hh,ro⟩:=S.val i _ ew;cases o<;>first|show ro.elim|skip
    rename_i kvs;show Zh (pos:=pos) (pos':=pos') "o" (pvN (pos:=np) O) (jd (e:=k)) (jd (e:=e)) U pins s σ H D I (B.sem S (h.imp λw k1 y F1 H1 g1 q1=>?_))
    cases es:w.st with
    | exc x=>rw[es]at k1;show k1.elim
    | stuck=>rw[es]at k1;show k1.elim
    | ok d =>
     rw[es]at k1;have ry:=Vok.st S.s g1 q1 es;let⟨g2,_⟩:=vh S.s g1;have S2:=S.grow g2;show#[_,e1,z.sem S2 ((PostS.of (show PostS X F0 H0 F D _ from k1)).imp λwk k2 y2 F3 H3 g3 q3=>?_)]
     cases ek:zC wk.d with
     | none=>rw[ek]at k2;show k2.elim
     | some key =>
      rw[ek]at k2;have ey:y2=kV key:=by
       have r:=Vok.rd q3;cases ed:wk.d with
       | int j=>rw[ed]at ek r;cases ek;show RdV.int r
       | str j=>rw[ed]at ek r;cases ek;show RdV.str r
       | _=>rw[ed]at ek;cases ek
      subst ey;have lv:kvs[1]=kds[1]:=RepK.length ro;by_cases c:kds[1]<sz
      .have k3:PostS X F0 H0 F D (.nx (ρ.set i (!(.dK (jk key d kds))[9]))):=by simpa[iP c]using k2
       show#[a,_,rfl,DPut.k (g3.h _ _ (g1.h _ _ hh)) (by rw[lv];show c),?_]
       show k3 σ _ _ (Le.trans g2.f g3.f) ((S2.grow g3).mut ew e1 (o:=.dK (jO kvs key y)) ?_);show qay (Rep.le g3.f _ ry) (RepK.le (Le.trans g2.f g3.f) _ ro)
      have:False:=by simpa[iN c,PostS,KE]using k2
      show this.elim
def uk(d k x:EF):EF:=λρ=>(d ρ).bind λwd=>match wd.d with
 | .dK kvs=>(k ρ).bind λwk=>(x ρ).bind λwx=>(match zC wk.d with
  | some q=>(match look q kvs with|some d=>.ok d[8]|none=>.ok wx)
  | none=>.stuck)
 | _=>.stuck
def qaz(Y:"S" o fo)(Z:"S" e fe)(hf:"S" f ff)(m:M2 X o "get" apos e f cpos:=by show#[rfl,rfl,rfl,rfl]) :
  "S" (.Call (.Attribute o "get" apos) [e,f] [] cpos) (uk fo fe ff):=by
 show λpins s σ F H ρ Q S I h=>bY m.base m.few m.line cH fX bi (Y pins s σ F H ρ _ S I ((KE.bind h).imp λwd h1 v u F1 H1 s1 g1 q1 r1 I1=>?_))
 have qd:=Vok.rd q1
 revert h1 qd
 generalize wd.d=dd;intro h1 qd;cases dd<;>first|show h1.elim|skip
 let⟨p,kvs,rfl,hq,rk⟩:=RdV.dK g1.s qd;cases (show u=Value.ref p from r1)
 let⟨hd,vs,rel,dd⟩:=Inv.dictK I1 hq;show#[dd.typeIs,λb q=>?_,?_]
 .cases q;let⟨ob,_,_,e1,e2,_⟩:=dd;show#[ob,e1,e2.2.1]
 rw[m.trees];show cR rfl (d8 (hZ (Z pins s1 σ F1 H1 ρ _ (S.grow g1) I1 ((KE.bind h1).imp λwk h2 v2 u2 F2 H2 s2 g2 q2 r2 I2 =>
  hZ (hf pins s2 σ F2 H2 ρ _ (S.grow (g1.trans g2)) I2 ((KE.bind h2).imp λwx h3 v3 u3 F3 H3 s3 g3 q3 r3 I3=>tM ?_))))))
 cases ek:zC wk.d with
 | none=>rw[ek]at h3;show h3.elim
 | some key =>
  rw[ek]at h3;dsimp only at h3;have ry:RelV (kV key) u2:=Zo ek (RdV.gr g3 (Vok.rd q2)) r2;let⟨hd3,vs3,O,U⟩:=Inv.dictK I3 (SqK.le (Le.trans g2.h g3.h) hq);show bg fX U.typeIs cT (dI _ _ _) (meets_dict_get_default (jj X.prog X.w) p (ku ry) hd3 u3) #[_,U.mapOf,?_];have rg:=(O.val key).getD r3;have B:=g1.trans (g2.trans g3);rcases RepK.look key rk with⟨z,d,a1,a2,rz⟩|⟨a1,a2⟩
  .rw[a2]at h3;rw[a1]at rg;show h3 z _ F3 H3 _ B (Rep.le (Le.trans g2.f g3.f) _ rz) rg (I3.tok _)
  rw[a2]at h3;rw[a1]at rg;show h3 v3 _ F3 H3 _ B (Vok.older (λa e=>Le.none (Le.trans g1.h g2.h) e) q3) rg (I3.tok _)
def uo:List D->R En
 | [.int i,.int j]=>okI (if j>i then j else i)
 | _=>.stuck
def Yu(z:(X.calm=true)["r"]):zW X (.builtin "max") uo:=kH (GJ z) λF H xs ds Q l qx w=>by
 cases qx with
 | nil=>show w.elim
 | @cons x d xs ds q1 q2 =>
  cases q2 with
  | nil=>cases d<;>show w.elim
  | @cons y e ys es q2 q3 =>
   cases q3 with
   | cons _ _=>cases d<;>first|show w.elim|(cases e<;>show w.elim)
   | nil =>
    cases d<;>first|show w.elim|skip
    cases e<;>first|show w.elim|skip
    cases RdV.int q1;cases RdV.int q2;show#[_,_,rfl,je l w rfl]
def Yv(z:(X.calm=true)["r"]):zW X (.builtin "min") u8:=kH (GK z) λF H xs ds Q l qx w=>by
 cases qx with
 | nil=>show w.elim
 | @cons x d xs ds q1 q2 =>
  cases q2 with
  | nil=>cases d<;>show w.elim
  | @cons y e ys es q2 q3 =>
   cases q3 with
   | cons _ _=>cases d<;>first|show w.elim|(cases e<;>show w.elim)
   | nil =>
    cases d<;>first|show w.elim|skip
    cases e<;>first|show w.elim|skip
    cases RdV.int q1;cases RdV.int q2;show#[_,_,rfl,je l w rfl]
def uq:List D->R En
 | [.lst ds]=>(match jX ds with|some ns=>okI ns.sum|none=>.stuck)
 | _=>.stuck
def qaA(B:(X.calm=true)["r"]):zW X (.builtin "sum") uq:=by
 intro pins s σ F H xs us ds Q I l rx qx w;cases qx with
 | nil=>show w.elim
 | @cons x d xs ds q1 q2 =>
  cases q2 with
  | cons _ _=>cases d<;>show w.elim
  | nil =>
   cases d<;>first|show w.elim|skip
   rename_i ds
   delta uq at w
   dsimp only at w;cases e:jX ds with
   | none=>rw[e]at w;show w.elim
   | some ns =>
    rw[e]at w;let⟨p,vs,rfl,hq,rs⟩:=RdV.lst l q1;have ev:=yH e rs;subst ev;cases rx with
    | cons r1 r2 =>
     cases r2;cases r1;let⟨its,rv,pl,hz⟩:=I.list hq;have hi:=kt rv;let⟨ys,ey⟩:=hi.allInts.items;have z:ns=ys[2].map (·.1):=by rw[<- hi.numsOf,<- nums_intItems,<- ey]
     have hl:=pl.isList;rw[ey]at hl;show sum_intListG (I.ok.hd B) hl λh' tk t' hk=>?_
     rw[preSum_eq,tZ "s",<- z]
     show#[.int _,H,I.kept hk,#[_,rfl],je l w rfl]
def ut(g g':D->D->R En)(a b c:EF):EF:=λρ=>(a ρ).bind λx=>(b ρ).bind λy=>(g x.d y.d).bind λr=>(isB r.d).bind λt=>if t=true then(c ρ).bind λz=>g' y.d z.d else okB false
section
variable{a b c:Expr}{fa fb fc:EF}{g g':D->D->R En}{op op':CmpOp}
def ZF(U:OpD X (compareOp op) g)(O:OpD X (compareOp op') g')(Y:"S" a fa)(Z:"S" b fb)(hc:"S" c fc)
  (hm:lastMarks [op,op'] [b,c]=false:=by with_unfolding_all rfl):"S" (.Compare a [op,op'] [b,c] pos) (ut g g' fa fb fc):=by
 show λpins s σ F H ρ Q S I h=>Compare_chain (Y pins s σ F H ρ _ S I ((KE.bind h).imp λwx h1 v u F1 H1 s1 g1 q1 r1 I1=>chain_link (Z pins s1 σ F1 H1 ρ _ (S.grow g1) I1 ((KE.bind h1).imp λwy h2 v2 u2 F2 H2 s2 g2 q2 r2 I2=>?_)))) hm
 show thn (U pins s2 σ F2 H2 v v2 u u2 wx.d wy.d (λv3 H3=>∃ F3 w3,Gr F2 H2 F3 H3/\Vok (kx X) H2 F3 H3 v3 w3/\KE (XP X F0 H0) ((isB w3.d).bind λt=>if t=true then(fc ρ).bind λz=>g' wy.d z.d else okB false) _) I2 g2.s r1 r2 (RdV.gr g2 (Vok.rd q1)) (Vok.rd q2) (KE.impX (KE.bind h2) (λw k v3 F3 H3 g3 q3=>#[F3,w,g3,q3,k]) λ_ z=>z.elim)) λcv s3 #[z,H3,I3,rz,F3,w3,g3,q3,k]=>?_
 let⟨t,rfl,k2⟩:=Zq (Vok.rd q3) rz (KE.bind k);show pN ?_;have B:=g1.trans (g2.trans g3);cases t with
 | false=>show k2 (.bl false) _ F3 H3 s3 B rfl rfl I3
 | true =>
  show chain_last (hc pins s3 σ F3 H3 ρ _ (S.grow B) I3 ((KE.bind k2).imp λwz k4 v4 u4 F4 H4 s4 g4 q4 r4 I4=>(vz (O pins s4 σ F4 H4 v2 v4 u2 u4 wy.d wz.d _ I4 g4.s r2 r4 (RdV.gr (g3.trans g4) (Vok.rd q2)) (Vok.rd q4) (yE (B.trans g4) k4)))))
end
def zF:SF:=λ_=>.stuck
def wP{st:Stmt}:SS X F0 H0 st zF:=λpins s σ F H ρ D S I h=>h.elim
end
def qaB(I:Rho->Prop)(Q:Out->Prop):Out->Prop
 | .nx ρ=>I ρ
 | .ct ρ=>I ρ
 | .bk ρ=>Q (.nx ρ)
 | o=>Q o
def ZG{b:SF}{Q:Out->Prop}:∀(xs:List D) (I:Nat->Rho->Prop) {ρ:Rho},I 0 ρ ->
  (∀ i x ρ,xs[i]?=!x->I i ρ->∃ ρ1,g x ρ=.ok ρ1/\qaB (I (i+1)) Q (b ρ1))->(∀ ρ,I xs[1] ρ->Q (.nx ρ))->Q (qH g b xs ρ):=λxs=>xs.rec
 (@λI ρ h0 _ fin=>fin ρ h0)
 λx xs IH=>@λI ρ h0 step fin=>by
  let⟨ρ1,e1,t⟩:=step 0 x ρ rfl h0;have B:∀ z,I 1 z->Q (qH g b xs z):=λz h =>
   IH (λi=>I (i+1)) h (λi y ρ e hi=>step (i+1) y ρ e[""] hi) (λρ h=>fin ρ h[""])
  unfold qH;rw[e1];dsimp only;cases eb:b ρ1 with
  | nx z=>rw[eb]at t;show B z t
  | ct z=>rw[eb]at t;show B z t
  | bk z=>rw[eb]at t;show t
  | rt w=>rw[eb]at t;show t
  | exc w=>rw[eb]at t;show t
  | stuck=>rw[eb]at t;show t
def vV(xs)(I:Nat->Rho->Prop)(h0:I 0 ρ)(step:∀ i x ρ,xs[i]?=!x->I i ρ->∃ ρ1 z,g x ρ=.ok ρ1/\(b ρ1=.nx z\/b ρ1=.ct z)/\I (i+1) z) :
  ∃ ρ',qH g b xs ρ=.nx ρ'/\I xs[1] ρ':=by
 show ZG (Q:=λo=>∃ ρ',o=.nx ρ'/\I xs[1] ρ') xs I h0 (λi x ρ e hi=>?_) λρ h=>#[ρ,rfl,h]
 let⟨ρ1,z,e1,e2,h⟩:=step i x ρ e hi;show#[ρ1,e1,?_];rcases e2 with e2|e2<;>(rw[e2];show h)
def QL(n)(I:Nat->Rho->Prop)(h0:I 0 ρ)(step:∀ i ρ,i<n->I i ρ->∃ ρ1 z,g i[6] ρ=.ok ρ1/\(b ρ1=.nx z\/b ρ1=.ct z)/\I (i+1) z) :
  ∃ ρ',qH g b (zN 0 n) ρ=.nx ρ'/\I n ρ':=by
 have:=vV (zN 0 n) I h0 λi x ρ e hi=>by
  rw[QF]at e;by_cases h:i<n
  .rw[iP h]at e;cases e;have:=step i ρ h hi;simpa using this
  simp_all
 rw[Zu]at this;show this
def Yw{ad:En->R D}(i:Nat)(p:D->Bool)(f:D->D):∀(ds:List D) (ρ:Rho),
  (∀ d∈ds,t (ρ.set i (!d[8]))=.ok (p d)/\(p d=true->∃ w,e (ρ.set i (!d[8]))=.ok w/\ad w=.ok (f d)))->zD ad (gV i) t e ds ρ=.ok ((ds.filter p).map f):=λds=>ds.rec
 (λ_ _=>rfl)
 λd ds IH ρ h=>by
  let⟨h1,h2⟩:=h d h9;have z:=IH (ρ.set i (!d[8])) λx hx=>by
   rw[bK];show h x (gj _ hx)
  show(R.bind (t (ρ.set i (!d[8]))) λb=>if b=true then(e (ρ.set i (!d[8]))).bind λw=>(ad w).bind λy=>(zD ad (gV i) t e ds (ρ.set i (!d[8]))).bind λys=>.ok (y::ys)else zD ad (gV i) t e ds (ρ.set i (!d[8])))=_
  grind
def kN{ad:En->R D}(i:Nat)(f:D->D)(ds:List D)(ρ:Rho)(h:∀ d∈ds,∃ w,e (ρ.set i (!d[8]))=.ok w/\ad w=.ok (f d)):zD ad (gV i) qI e ds ρ=.ok (ds.map f):=by
 have:=Yw i (t:=qI) (λ_=>true) f ds ρ λd hd=>#[rfl,λ_=>h d hd]
 rw[this];congr 2;simp
def zw{i:Nat}:ati xs i=xs[i]?:=by
 delta ati ixn
 by_cases h:i<xs[1]
 .simp_all
 simp_all
def ZH:ati xs (-1)=xs.getLast?:=by
 delta ati ixn
 cases xs with
 | nil=>rfl
 | cons x r =>
  rw[iN "d",iP (by simp;lia)]
  have:((-1)+((x::r)[1]:Int)).toNat=(x::r)[1]-1:=""
  rw[this,List.getLast?_eq_getElem?];rfl
def Yx{ad:En->R D}{fi:List D->En}{n:Nat}{it:IF}{ds ys:List D}(h:it ρ=.ok ds)(z:ds[1]<=sz)(h2:zD ad gf t e ds (jh n ρ)=.ok ys):uj ad fi n it gf t e ρ=.ok (fi ys):=by
 delta uj
 lia
def kO{it:IF}{ds ys:List D}(h:it ρ=.ok ds)(z:ds[1]<=sz)(h2:zD En.st gf t e ds (jh n ρ)=.ok ys):qF n it gf t e ρ=.ok (.lst ys)[9]:=Yx h z h2
def Out.th(o:Out)(b:SF):Out:=match o with
 | .nx ρ=>b ρ
 | o=>o
def ZI(a b:SF)(ρ:Rho)(c:Bool):Out:=if c=true then a ρ else b ρ
def uu(a b:EF)(ρ:Rho)(c:Bool):R En:=if c=true then a ρ else b ρ
def QM(a b:TF)(ρ:Rho)(c:Bool):R Bool:=if c=true then a ρ else b ρ
def kF:EF:=λ_=>okB false
def kfB:TF:=λ_=>.ok false
def ktB:TF:=λ_=>.ok true
def kP(o:Option (Option En)):R En:=match o with
 | some (!d[8])=>.ok d[8]
 | some (!d[9])=>.ok (.br d)
 | some (!(.br d))=>.ok (.br d)
 | some (!(.lk d))=>.ok d[8]
 | _=>.stuck
def ZJ(o:Option (Option En)):Out:=match o with
 | some (!d[8])=>.rt d[8]
 | some (!d[9])=>.rt d[9]
 | _=>.stuck
def R.b (r:R α) (f:α->R β):R β:=r.bind f
theorem yI{f:α->R β}:(R.ok a).b f=f a:=rfl
def kQ(ds:List D):R En:=if ds[1]<=sz then .ok (.lst ds)[9]else .stuck
def QN(ds:List D):R En:=if ds[1]<=sz then .ok (.tup ds)[8]else .stuck
def En.dd(w:En):D:=w.d
def En.sto(w:En):R D:=w.st
def En.argo(w:En):R En:=w.arg
def En.nmo(w:En):R En:=w.nm
section
variable{a b:SF}{ρ ρ':Rho}{w:En}{x:Xc}{d:D}{e f:EF}{t u:TF}{i j:Nat}{α β:Type}{k:α->Out}{v:α}{l:List EF}
theorem jH:Out.th (.nx ρ) b=b ρ:=rfl
theorem qhx:Out.th (.rt w) b=.rt w:=rfl
theorem qaC:Out.th (.bk ρ) b=.bk ρ:=rfl
theorem qhy:Out.th .stuck b=.stuck:=rfl
def jv:qg a b ρ=Out.th (a ρ) b:=by delta Out.th;cases ρ<;>rfl
theorem zQ:sOf (.ok v) k=k v:=rfl
theorem Yy:ZI a b ρ true=a ρ:=rfl
theorem Yz:ZI a b ρ false=b ρ:=rfl
theorem qhz:uu e f ρ true=e ρ:=rfl
theorem qhA:uu e f ρ false=f ρ:=rfl
theorem qhB:QM t u ρ true=t ρ:=rfl
theorem qhC:QM t u ρ false=u ρ:=rfl
theorem qhD:kF ρ=.ok (.bl false)[8]:=rfl
theorem qhE:kfB ρ=.ok false:=rfl
theorem qhF:ktB ρ=.ok true:=rfl
theorem QO:qk i e ρ=sOf ((e ρ).b En.nmo) λw=>.nx (ρ.set i !w):=rfl
theorem ZK:qt e ρ=sOf ((e ρ).b En.nmo) .rt:=rfl
theorem qhG:jA i ρ=ZJ ρ[i]?:=rfl
theorem qhH:ZJ (!(!d[8]))=.rt d[8]:=rfl
theorem qhI:ZJ (!(!d[9]))=.rt d[9]:=rfl
theorem YA:qw ρ=.nx ρ:=rfl
theorem qhJ:yC ρ=.bk ρ:=rfl
theorem qhK:u9 e ρ=sOf (e ρ) λ_=>.nx ρ:=rfl
theorem QP:sIf t a b ρ=sOf (t ρ) (ZI a b ρ):=rfl
theorem qhL:En.nmo d[8]=.ok d[8]:=rfl
theorem qhM:En.nmo d[9]=.ok d[9]:=rfl
theorem qhN:En.sto d[8]=.ok d:=rfl
theorem qhO:En.sto d[9]=.ok d:=rfl
theorem QQ:En.argo d[8]=.ok d[8]:=rfl
theorem qaD:En.argo d[9]=.ok d[8]:=rfl
theorem YB:En.argo (.br d)=.ok (.br d):=rfl
theorem qaE:En.dd d[8]=d:=rfl
theorem qhP:En.dd d[9]=d:=rfl
theorem qhQ:En.dd (.br d)=d:=rfl
theorem vW:q9 i ρ=kP ρ[i]?:=rfl
theorem qhR:kP (!(!d[8]))=.ok d[8]:=rfl
theorem qhS:kP (!(!d[9]))=.ok (.br d):=rfl
theorem qhT:kP (!(!(.br d)))=.ok (.br d):=rfl
theorem qhU:kP (!(!(.lk d)))=.ok d[8]:=rfl
theorem x_c:eC d ρ=.ok d[8]:=rfl
theorem QR:eOp g e f ρ=(e ρ).b λx=>(f ρ).b λy=>g x.dd y.dd:=rfl
theorem qhV:eUn g e ρ=(e ρ).b λx=>g x.dd:=rfl
theorem kR:evs [] ρ=.ok []:=rfl
theorem kS:evs (e::l) ρ=(e ρ).b λx=>(evs l ρ).b λxs=>.ok (x::xs):=rfl
theorem qhW:stAll []=.ok []:=rfl
theorem qhX:stAll (w::ws)=w.sto.b λd=>(stAll ws).b λds=>.ok (d::ds):=rfl
theorem kT:jU []=.ok []:=rfl
theorem kU:jU (w::ws)=w.argo.b λd=>(jU ws).b λds=>.ok (d::ds):=rfl
theorem qhY:qJ l ρ=(evs l ρ).b λxs=>(stAll xs).b kQ:=rfl
theorem qhZ:jG l ρ=(evs l ρ).b λxs=>(stAll xs).b QN:=rfl
theorem kW:qi dn l ρ=(evs l ρ).b λxs=>(jU xs).b λys=>dn ys:=rfl
theorem x_B:eB g l ρ=(evs l ρ).b λxs=>g (xs.map En.dd):=rfl
theorem qi0:tE e ρ=(e ρ).b λx=>kC x.dd:=rfl
theorem qi1:za t ρ=(t ρ).b λb=>.ok (not b):=rfl
theorem qi2:zV t u ρ=(t ρ).b (QM u kfB ρ):=rfl
theorem qi3:tOr t u ρ=(t ρ).b (QM ktB u ρ):=rfl
theorem qi4:yB e f ρ=(e ρ).b λx=>(isB x.dd).b (uu f kF ρ):=rfl
theorem qi5:eIf t e f ρ=(t ρ).b (uu e f ρ):=rfl
theorem qi6:isB (.bl c)=.ok c:=rfl
theorem qi7:kC (.bl c)=.ok c:=rfl
theorem qi8:kC (.lst c)=.ok (not c.isEmpty):=rfl
theorem kX:qM it g a ρ=sOf (it ρ) λxs=>qH g a xs ρ:=rfl
theorem qi9{i j:Int}:zY i[6] j[6]=.ok (i+j)[7]:=rfl
theorem qia{i j:Int}:jc i[6] j[6]=.ok (i-j)[7]:=rfl
theorem qib{i j:Int}:dLt i[6] j[6]=.ok (.bl (decide (i<j)))[8]:=rfl
theorem qic{i j:Int}:dLe i[6] j[6]=.ok (.bl (decide (i<=j)))[8]:=rfl
theorem qid{i j:Int}:dGt i[6] j[6]=.ok (.bl (decide (j<i)))[8]:=rfl
theorem qie{i j:Int}:dEq i[6] j[6]=.ok (.bl (i==j))[8]:=rfl
theorem qif{i j:Int}:dNe i[6] j[6]=.ok (.bl (not (i==j)))[8]:=rfl
theorem qig{i:Int}:jQ i[6]=.ok (-i)[7]:=rfl
def yJ{i j:Int}(h:0<j):vJ i[6] j[6]=.ok (i%j)[7]:=by delta vJ;dsimp only;rw[iP h]
def QS{i j:Int}(h:0<j)(h2:j<1073741824):vU i[6] j[6]=.ok (i/j)[7]:=by delta vU;dsimp only;rw[iP #[h,h2]]
def ZL{i j:Int}(h1:-1000000000000<j)(h2:j<1000000000000):zm i[6] j[6]=.ok (i*j)[7]:=by
 delta zm;dsimp only;rw[iP];rw[Bool.or_eq_true];show .inr (fits_iff.mpr (by rw[b64e];lia))
def kY{i j:Int}(h1:-1000000000000<i)(h2:i<1000000000000):zm i[6] j[6]=.ok (i*j)[7]:=by
 delta zm;dsimp only;rw[iP];rw[Bool.or_eq_true];show .inl (fits_iff.mpr (by rw[b64e];lia))
theorem qih:Qy [.lst xs]=.ok (.lst xs)[9]:=rfl
theorem qii:yA [.lst xs]=.ok (.tup xs)[8]:=rfl
theorem qij{i j:Int}:u8 [.int i,.int j]=.ok (if j<i then j else i)[7]:=rfl
theorem qik{i j:Int}:uo [.int i,.int j]=.ok (if j>i then j else i)[7]:=rfl
theorem qaF{i:Int}:qe (.lst xs) i[6]=okD (ati xs i):=rfl
theorem qil{i:Int}:qe (.tup xs) i[6]=okD (ati xs i):=rfl
def YC:okD (ati (d::r) 0)=.ok d[8]:=by
 rw[show 0=((0:Nat):Int)from rfl,zw];rfl
def YD{c d:D}{r:List D}:okD (ati (c::d::r) 1)=.ok d[8]:=by
 rw[show 1=((1:Nat):Int)from rfl,zw];rfl
def YE{b c d:D}{r:List D}:okD (ati (b::c::d::r) 2)=.ok d[8]:=by
 rw[show 2=((2:Nat):Int)from rfl,zw];rfl
def YF{a b c d:D}{r:List D}:okD (ati (a::b::c::d::r) 3)=.ok d[8]:=by
 rw[show 3=((3:Nat):Int)from rfl,zw];rfl
theorem qim:okD ↑d=.ok d[8]:=rfl
theorem qin:dIs .list (.lst n)=.ok (.bl true)[8]:=rfl
theorem qio:dIs .tuple (.tup n)=.ok (.bl true)[8]:=rfl
theorem qip:zF ρ=.stuck:=rfl
theorem yK:gV i d ρ=.ok (ρ.set i (!d[8])):=rfl
theorem qiq:eDK ρ=.ok (.dK [])[9]:=rfl
theorem qir:eDT ρ=.ok (.dT [])[9]:=rfl
theorem uv:den n a ws=fin (a (ws.map some++List.replicate (n-ws[1]) none)):=rfl
theorem qis:fin (.rt w)=.ok w:=rfl
def ZM(h:ρ[i]?=!(!(.lst ds)[8])):iV i ρ=.ok ds:=by delta iV;rw[h];rfl
def YG(h:ρ[i]?=!(!(.br (.lst ds)))):iV i ρ=.ok ds:=by delta iV;rw[h];rfl
def yi{w:En}(h:ρ[i]?=!(!w))(h2:w.d=.lst ds)(z:((match w with|.od _=>true|.lk _=>true|_=>false)=false)["r"]):iVc i ρ=.ok ds:=by
 delta iVc;rw[h];cases w<;>first|(cases z;done)|(cases h2;rfl)
def qaG{j:Int}(h:e ρ=.ok j[7])(c:fits b62 j=true):iR1 e ρ=.ok (zN 0 j.toNat):=by
 delta iR1
 rw[h,R.bind_ok]
 simp_all
def QT{n:Nat}(h:e ρ=.ok n[7])(z:n<1000000):iR1 e ρ=.ok (zN 0 n):=by
 rw[qaG h (fits_iff.mpr (by rw[b62e];lia)),fK]
def jR{i:Nat}(h:ρ[i]?=!(!(.lst xs)[9]))(z:xs[1]<sz)(h2:(e ρ).b En.sto=.ok d):qC i e ρ=.nx (ρ.set i (!(.lst (xs++[d]))[9])):=by
 delta qC;have h2:(e ρ).bind En.st=.ok d:=h2
 rw[h];rw[h2];delta sOf;dsimp only;rw[iP z]
def YH{kvs:List (Sum Int Str×D)}{i:Nat}{k:EF}{w:En}(h:ρ[i]?=!(!(.dK kvs)[9]))(h2:(e ρ).b En.sto=.ok d)(z:k ρ=.ok w)(B:zC w.d=!key)(O:kvs[1]<sz) :
  wj i k e ρ=.nx (ρ.set i (!(.dK (jk key d kvs))[9])):=by
 have h2:(e ρ).bind En.st=.ok d:=h2
 delta wj
 rw[h];rw[h2];delta sOf;rw[z];dsimp only;rw[B];dsimp only;rw[iP O]
def QU(o:Option D)(w:En):R En:=match o with|some d=>.ok d[8]|none=>.ok w
def qaH{dd k x:EF}{wd wk wx:En}(h1:dd ρ=.ok wd)(h2:wd.d=.dK kvs)(z:k ρ=.ok wk)(B:zC wk.d=!q)(O:x ρ=.ok wx) :
  uk dd k x ρ=QU (look q kvs) wx:=by
 delta uk
 rw[h1,R.bind_ok];cases wd<;>first|(subst h2;dsimp only;rw[z,O,R.bind_ok,B];rfl)|(cases h2;done)
theorem ZN:∀ n d,qK n d=true->deq d d=true
 | _,.non,_=>rfl
 | _,.bl _,_=>by simp[deq]
 | _,.int _,_=>by simp[deq]
 | _,.str _,_=>by simp[deq]
 | 0,.tup _,h=>by simp[qK]at h
 | 0,.lst _,h=>by simp[qK]at h
 | n+1,.tup xs,h=>by
  have k:∀ ys,ys.all (qK n)=true->deqs ys ys=true:=by
   intro ys
   induction ys with
   | nil=>intro _;rfl
   | cons y ys ih =>
    intro hy;rw[pG,hE]at hy;show(deq y y&&deqs ys ys)=true;rw[ZN n y hy.1,ih hy.2];rfl
  show k xs h
 | n+1,.lst xs,h=>by
  have k:∀ ys,ys.all (qK n)=true->deqs ys ys=true:=by
   intro ys
   induction ys with
   | nil=>intro _;rfl
   | cons y ys ih =>
    intro hy;rw[pG,hE]at hy;show(deq y y&&deqs ys ys)=true;rw[ZN n y hy.1,ih hy.2];rfl
  show k xs h
 | n,.dK _,h=>by cases n<;>simp[qK]at h
 | n,.dT _,h=>by cases n<;>simp[qK]at h
 | n,.xc _ _,h=>by cases n<;>simp[qK]at h
def qaI(h:eqok d=true):dEq d d=.ok (.bl true)[8]:=by
 delta dEq;rw[h,ZN 8 d h];rfl
end
section
variable{prog:af}{w:World}{A:ag}{E:aa->ab->Prop}{s:ab}{kd:SortKind}{rk:aa->Int}{ini:Array aj}
def av(rk:aa->Int)(xs:Array aj)(i:Nat):Int:=match xs[i]? with
 | some p=>rk p.1
 | none=>0
def YI{a d:Nat}(h1:a<xs.size)(h2:d<=a)(k) :
  av rk (bubble xs a d) k=if k=a-d then av rk xs a else if a-d<k/\k<=a then av rk xs (k-1)else av rk xs k:=by
 have e:=getElem?_bubble h1 d h2 k;by_cases c1:k=a-d
 .rw[iP c1]at e ⊢
  delta av;rw[e]
 rw[iN c1]at e ⊢;by_cases c2:a-d<k/\k<=a
 .rw[iP c2]at e ⊢
  delta av;rw[e]
 rw[iN c2]at e ⊢
 delta av;rw[e]
def YJ{i j:Nat}(h:j<=xs.size)(k):av rk (mirror xs i j ((j-i)/2)) k=if i<=k/\k<j then av rk xs (i+j-1-k)else av rk xs k:=by
 have e:=getElem?_mirror_all (i:=i) h k;by_cases c:i<=k/\k<j
 .rw[iP c]at e ⊢
  delta av;rw[e]
 rw[iN c]at e ⊢
 delta av;rw[e]
structure Tells(prog:Program)(w:World)(A:Around)(s:Shared)(kd:SortKind)(rk:Value->Int)(ini:Array Keyed):Prop where
 lt:∀ p∈ini[2],∀ q∈ini[2],∀(E:Value->Shared->Prop) (Q:Bool->Shared->Prop),Q (decide (rk p.1<rk q.1)) s->wpAny (model prog w) A (keyLt' kd p.1 q.1) Q E s
 nd:(ini[2].map λp=>rk p.1).Nodup
end
def YK:∀ a:List Int,HT.lexLt a a=false:=λr=>r.rec
 (rfl)
 λx r IH=>by rw[HT.lexLt_cons,iP rfl];show IH
theorem uw:∀{a b c},HT.lexLt a b=true->HT.lexLt b c=true->HT.lexLt a c=true
 | [],[],_,h,_=>by simp[HT.lexLt_nil_nil]at h
 | [],_::_,[],_,h=>by simp[HT.lexLt_cons_nil]at h
 | [],_::_,_::_,_,_=>rfl
 | _::_,[],_,h,_=>by simp[HT.lexLt_cons_nil]at h
 | _::_,_::_,[],_,h=>by simp[HT.lexLt_cons_nil]at h
 | x::a,y::b,z::c,h,k=>by
  rw[HT.lexLt_cons]at h k ⊢;by_cases e1:x=y
  .subst e1;rw[iP rfl]at h;by_cases e2:x=z
   .subst e2;rw[iP rfl]at k ⊢;show uw h k
   rw[iN e2]at k ⊢;show k
  rw[iN e1]at h
  grind
theorem uz:∀{a b},HT.lexLt a b=false->HT.lexLt b a=false->a=b
 | [],[],_,_=>rfl
 | [],_::_,h,_=>by simp[HT.lexLt_nil_cons]at h
 | _::_,[],_,h=>by simp[HT.lexLt_nil_cons]at h
 | x::a,y::b,h,k=>by
  rw[HT.lexLt_cons]at h k;by_cases e:x=y
  .subst e;rw[iP rfl]at h k;rw[uz h k]
  rw[iN e]at h;rw[iN (tu e)]at k;simp at h k;lia
def wm(a b:List Int):Bool:=not (HT.lexLt b a)
def qaJ(a b c)(h:wm a b=true)(k:wm b c=true):wm a c=true:=by
 delta wm at *
 cases e:HT.lexLt c a with
 | false=>rfl
 | true =>
  simp at h k;cases e2:HT.lexLt a b with
  | true=>rw[uw e e2]at k;cases k
  | false=>rw[uz e2 h,k]at e;cases e
def qaK(a b):(wm a b||wm b a)=true:=by
 delta wm
 cases e:HT.lexLt b a with
 | false=>rfl
 | true =>
  cases e2:HT.lexLt a b with
  | false=>rfl
  | true=>have:=uw e e2;rw[YK]at this;cases this
def jo(rs:List (List Int)):List (List Int):=rs.mergeSort wm
def yj(rs):(jo rs).Perm rs:=List.mergeSort_perm rs wm
def QV(rs):(jo rs).Pairwise λa b=>HT.lexLt b a=false:=by
 show(List.pairwise_mergeSort qaJ qaK rs).imp λ{a b} q=>by simpa[wm]using q
theorem ZO:∀{xs ys:List (List Int)},xs.Perm ys->xs.Pairwise (λa b=>HT.lexLt b a=false)->ys.Pairwise (λa b=>HT.lexLt b a=false)->xs=ys
 | [],ys,p,_,_=>by rw[List.nil_perm.mp p]
 | x::xs,[],p,_,_=>by have:=p.length_eq;simp at this
 | x::xs,y::ys,p,hx,hy=>by
  rw[fF]at hx hy;have e:x=y:=by
   rcases gw.mp (p.mem_iff.mp h9)with q|q
   .show q
   rcases gw.mp (p.mem_iff.mpr h9)with q2|q2
   .show q2.symm
   show uz (hy.1 x q) (hx.1 y q2)
  subst e;rw[ZO (List.Perm.cons_inv p) hx.2 hy.2]
def vG(rs:List (List Int))(r:List Int):Int:=(rs.countP λq=>HT.lexLt q r:Nat)
def QW(z:a∈rs):(vG rs a<vG rs b)↔HT.lexLt a b=true:=by
 delta vG
 constructor
 .intro h;cases e:HT.lexLt a b with
  | true=>rfl
  | false =>
   have:(rs.countP λq=>HT.lexLt q b)<=rs.countP λq=>HT.lexLt q a:=List.countP_mono_left λq _ hq=>by
    cases e2:HT.lexLt b a with
    | true=>show uw hq e2
    | false=>rw[uz e e2];show hq
   lia
 intro h;have:(rs.countP λq=>HT.lexLt q a)<rs.countP λq=>HT.lexLt q b:=by
  let⟨l,r,rfl⟩:=List.append_of_mem z;have m:∀ l:List (List Int),(l.countP λq=>HT.lexLt q a)<=l.countP λq=>HT.lexLt q b:=λl=>List.countP_mono_left λq _ hq=>uw hq h
  have m1:=m l;have m2:=m r;rw[pX,pX,List.countP_cons_of_neg (by simp[YK]),List.countP_cons_of_pos (p:=λq=>HT.lexLt q b) h]
  lia
 lia
section
variable{prog:af}{w:World}{A:ag}{E:aa->ab->Prop}{s:ab}
def qaL(f){a b:Int}{Q:Bool->ab->Prop}(h:Q (decide (a<b)) s):wpAny (model prog w) A (oneLt' f (.int a t) (.int b u)) Q E s:=by
 cases f with
 | true=>show oneLt_int h
 | false =>
  show gg (wpAny_richCompare_same (bz s a t) (bz s b u) slot_int_lt (call_int_lt #[(λz=>nomatch z),pN h]))
theorem YL(f){Q:Option Bool×Unit->ab->Prop}:∀{xs ys} {ns ms} k,IntsAre xs ns->IntsAre ys ms ->
  (∀ r:Option Bool×Unit,(match r.1 with|some b=>b=HT.lexLt ns ms|none=>HT.lexLt ns ms=decide (xs[1]<ys[1]))->Q r s) ->
  wpAny (model prog w) A (forIn ((xs.zip ys).zipIdx k) (none,()) λx _=>match x with
   | ((p,q),i)=>do
    let e <- eqBool p q
    if (not e)=true then do
     let l <- oneLt' (f&&i==0) p q
     pure (ForInStep.done (!l,()))
    else pure (ForInStep.yield (none,()))) Q E s
 | _,_,_,_,k,.nil,.nil,h=>gy (h (none,()) (by rfl))
 | _,_,_,_,k,.nil,.cons _ _ _,h=>gy (h (none,()) (by simp[HT.lexLt_nil_cons]))
 | _,_,_,_,k,.cons _ _ _,.nil,h=>gy (h (none,()) (by simp[HT.lexLt_cons_nil]))
 | _,_,_,_,k,.cons a t hx,.cons b u hy,h=>by
  rw[bI,bm,bE];show gg (gg (wpAny_eqBool_int ?_));by_cases c:a=b
  .subst c;rw[beq_self_eq_true];show gy (YL f (k+1) hx hy λr hr=>h r ?_)
   let⟨r1,_⟩:=r;cases r1 with
   | none=>dsimp only at hr ⊢;rw[HT.lexLt_cons,hr];simp
   | some v=>dsimp only at hr ⊢;rw[HT.lexLt_cons,iP rfl];show hr
  have:(a==b)=false:=by simpa using c
  rw[this];show gg (qaL _ (gy (gy (h (!(decide (a<b)),()) ?_))));rw[HT.lexLt_cons,iN c]
def qaM{z ms:List Int}{Q:Bool->ab->Prop}(B:IsTup s.heap a xs.toArray)(O:IsTup s.heap b ys.toArray)(U:IntsAre xs z)(Y:IntsAre ys ms)(h:Q (HT.lexLt z ms) s) :
  wpAny (model prog w) A (keyLt' (tuples' true) (.ref a) (.ref b)) Q E s:=by
 let⟨oa,ea,ca,na,da⟩:=B;let⟨ob,eb,cb,nb,db⟩:=O;show gg (listItems_at ea da ?_);show gg (listItems_at eb db ?_);show gg (YL true 0 U Y λr hr=>?_)
 let⟨r1,_⟩:=r;cases r1 with
 | some v=>dsimp only at hr ⊢;subst hr;show gy h
 | none=>dsimp only at hr ⊢;rw[hr]at h;simpa using gy h
def qW(h:Heap):aa->List Int
 | .ref a=>(match h.get? a with
  | some o=>(match o.data with|.seq its _=>numsOf its[2]|_=>[])
  | none=>[])
 | _=>[]
def Rows(h:Heap)(vs:List aa):Prop:=∀ v∈vs,∃ a its ns,v=.ref a/\IsTup h a (its:List aa).toArray/\IntsAre its (ns:List Int)/\ns≠[]
def wQ(p:IsTup h a its.toArray)(q:IntsAre its ns):qW h (.ref a)=ns:=by
 let⟨o,e,c,n,d⟩:=p
 delta qW
 dsimp only;rw[e];dsimp only;rw[d];show q.numsOf
def Rows.stay{h h':Heap}(R:Rows h vs)(k:∀ b o,h.get? b=!o->h'.get? b=!o):Rows h' vs/\∀ v∈vs,qW h' v=qW h v:=by
 have go:∀ v∈vs,∃ a its ns,v=.ref a/\IsTup h a its.toArray/\IsTup h' a its.toArray/\IntsAre its ns/\ns≠[]:=λv hv=>by
  let⟨a,its,ns,e,p,q,n⟩:=R v hv;let⟨o,e2,c⟩:=p;show#[a,its,ns,e,#[o,e2,c],#[o,k _ _ e2,c],q,n]
 show#[λv hv=>?_,λv hv=>?_]
 .let⟨a,its,ns,e,_,p,q,n⟩:=go v hv;show#[a,its,ns,e,p,q,n]
 let⟨a,its,ns,rfl,p,p',q,n⟩:=go v hv;rw[wQ p q,wQ p' q]
theorem YM:∀{vs} {Q},Rows s.heap vs->(∀ fs:List aa,fs[1]=vs[1]->(∀ f∈fs,∃ n t,f=.int n t)->Q (fs.map some) s)->wpAny (model prog w) A (vs.mapM firstOfTuple') Q E s
 | [],Q,_,h=>by rw[List.mapM_nil];show gy (h [] rfl λf hf=>by simp at hf)
 | v::vs,Q,R,h=>by
  let⟨a,its,ns,rfl,p,q,n⟩:=R v h9;let⟨o,e,c,m,d⟩:=p;rw[List.mapM_cons];have first:∃ x t r,its=.int x t::r:=by
   cases q with
   | nil=>show absurd rfl n
   | cons x t r=>show#[x,t,_,rfl]
  let⟨x,t,r,rfl⟩:=first
  show gg (gg (wpAny_typeOf #[o,e,c] ?_));show gg (listItems_at e d (gy ?_));show gg (YM (λv hv=>R v (gj _ hv)) λfs hl hf=>gy ?_)
  have:=h (.int x t::fs) (by simp[hl]) λf z=>by
   grind
  simpa using this
def qaN:∀{fs:List aa},(∀ f∈fs,∃ n t,f=.int n t)->fs.mapM typeOf=pure (fs.map λ_=>Value.type "int"):=λ{fs}=>fs.rec
 (@λ_=>by simp)
 λf fs IH=>@λh=>by
  let⟨n,t,rfl⟩:=h f h9;rw[List.mapM_cons,IH λf hf=>h f (gj _ hf)]
  rfl
def qaO(R:Rows s.heap vs)(z:vs≠[])(h:Q (tuples' true) s):wpAny (model prog w) A (keyKind' vs.toArray) Q E s:=by
 rw[keyKind'_eq,List.mapM_toArray,map_eq_pure_bind,bind_assoc];show gg (YM R λfs hl hf=>?_)
 simp only[pure_bind];rw[iP "s"]
 show gg (pU ?_);have e:(fs.map some).toArray.filterMap id=fs.toArray:=by simp
 rw[e,oneTypeOnly'_eq,List.mapM_toArray,qaN hf];simp only[map_pure,pure_bind];cases fs with
 | nil=>simp at hl;show absurd (fq.mp hl.symm) z
 | cons f fs =>
  have h0:(List.map (λ_=>Value.type "int") (f::fs)).toArray[0]?=!(Value.type "int"):=by simp
  have ha:((List.map (λ_=>Value.type "int") (f::fs)).toArray.all λx=>x==Value.type "int")=true:=by
   simp only[List.all_toArray,List.all_map,pD];intro _ _;rfl
  rw[h0];simp only[ha,dq,pure_bind];show gy h
end
def qP(r:List Int):D:=.tup (r.map .int)
def vO:List D->Option (List (List Int))
 | []=>↑[]
 | .tup xs::r=>(match jX xs,vO r with|some a,!b=>↑(a::b)|_,_=>none)
 | _::_=>none
def toV:aa->V
 | .ref a=>.ref a
 | _=>.non
theorem ZP{s:ab}(I:"I" H s)(l:Le F H):∀{ds} {rs} {vs} {us},vO ds=!rs->Reps (kx X) F vs ds->Vals vs us ->
  us.map (qW s.heap)=rs/\∀ u∈us,∃ a its ns,u=.ref a/\IsTup s.heap a its.toArray/\IntsAre its ns/\Rep (kx X) F (.ref a) (qP ns)/\ns∈rs
 | [],rs,vs,us,h,r,q=>by
  cases h;cases (r);cases q;show#[rfl,λu hu=>by simp at hu]
 | d::ds,rs,vs,us,h,r,q=>by
  let⟨v,vr,rfl,r1,r2⟩:=r;cases d<;>first|(cases h;done)|skip
  rename_i xs;unfold vO at h;cases e1:jX xs with
  | none=>rw[e1]at h;cases h
  | some ns =>
   cases e2:vO ds with
   | none=>rw[e1,e2]at h;cases h
   | some rs' =>
    rw[e1,e2]at h;cases h;cases q with
    | cons q1 q2 =>
     let⟨m,k⟩:=ZP I l e2 r2 q2;let⟨a,ws,rfl,hq,B⟩:=id r1;cases (q1);have ev:=yH e1 B;subst ev;let⟨its,rv,ht,_⟩:=I.tuple (SqT.le l hq);have hi:=kt rv;have z:Rep (kx X) F (.ref a) (qP ns):=by
      show#[a,_,rfl,hq,(Yj ns)]
     show#[by rw[gP,m,wQ ht hi],λu hu=>?_]
     rcases gw.mp hu with rfl|hu
     .show#[a,its,ns,rfl,ht,hi,z,h9]
     let⟨a',its',O,e,p1,p2,p3,p4⟩:=k u hu;show#[a',its',O,e,p1,p2,p3,gj _ p4]
section
variable{X:Cx}{F0 H0:Hp}
end
def vX{α:Type}(xs:List α)(lo hi:Option Int):List α:=(xs.drop (HT.sIx xs[1] 0 lo)).take (HT.sIx xs[1] xs[1] hi-HT.sIx xs[1] 0 lo)
def dSl:D->Option Int->Option Int->R En
 | .lst xs,lo,hi=>.ok (.lst (vX xs lo hi))[9]
 | .tup xs,lo,hi=>if HT.sIx xs[1] 0 lo=0/\HT.sIx xs[1] xs[1] hi=xs[1] then .stuck else .ok (.tup (vX xs lo hi))[8]
 | _,_,_=>.stuck
abbrev OF:=Rho->R (Option Int)
def oNo:OF:=λ_=>.ok none
def isI:D->R (Option Int)
 | .int i=>.ok !i
 | _=>.stuck
def oE(e:EF):OF:=λρ=>(e ρ).bind λw=>isI w.d
def eSl(a:EF)(lo hi:OF):EF:=λρ=>(a ρ).bind λx=>(lo ρ).bind λl=>(hi ρ).bind λu=>dSl x.d l u
theorem Reps.take:∀ n {ds} {vs},Reps κ F vs ds->Reps κ F (vs.take n) (ds.take n)
 | 0,_,_,_=>rfl
 | n+1,[],_,h=>by cases (h);rfl
 | n+1,d::ds,_,h=>by
  let⟨v,r,rfl,h1,h2⟩:=h;show#[v,r.take n,rfl,h1,Reps.take n h2]
theorem Reps.drop:∀ n {ds} {vs},Reps κ F vs ds->Reps κ F (vs.drop n) (ds.drop n)
 | 0,_,_,h=>h
 | n+1,[],_,h=>by cases (h);rfl
 | n+1,d::ds,_,h=>by
  let⟨v,r,rfl,h1,h2⟩:=h;show Reps.drop n h2
def Reps.cut(h:Reps κ F vs ds)(lo hi):Reps κ F (wK vs lo hi) (vX ds lo hi):=by
 delta wK
 rw[Reps.length h];show Reps.take _ (Reps.drop _ h)
section
variable{X:Cx}{F0 H0:Hp}{pos p2:Pos}
def SO(X:Cx)(F0 H0:Hp)(e:Option Expr)(f:OF):Prop :=
 ∃ t,PO X e t/\∀(σ:St) (F H:Hp) (ρ:Rho) (Q:Option Int->Hp->Prop),StOk (kx X) F0 H0 F H ρ σ->KE (XP X F0 H0) (f ρ) (λo=>∀ F' H',Gr F H F' H'->Q o H')->t σ H Q
def qaP:SO X F0 H0 none oNo:=#[_,T0,λσ F H ρ Q S h=>h F H (Gr.refl S.s)]
def ZQ(z:"S" e f):SO X F0 H0 ↑e (oE f) :=
 #[_,T1 (jd),λσ F H ρ Q S h=>z.sem S ((KE.bind h).imp λw k v F1 H1 g q=>by
  have r:=Vok.rd q
  revert k r
  generalize w.d=d;intro k r;cases d<;>first|show k.elim|skip
  show#[_,RdV.int r,k F1 H1 g])]
def YN{lo hi:Option Expr}(B:"S" e f)(O:SO X F0 H0 lo fl)(U:SO X F0 H0 hi fh):"S" (.Subscript e (.Slice lo hi none p2) pos) (eSl f fl fh):=by
 intro pins s σ F H ρ Q S I h;let⟨tl,pl,kl⟩:=O;let⟨th,ph,kh⟩:=U;show vz (T3 (SlR.or Tk T5) (jd) pl ph pins s σ H (λv H'=>∀ u s',RelV v u->"I" H' s'->Q u s') I ?_)
 show B.sem S ((KE.bind h).imp λw h1 v F1 H1 g1 q1=>?_)
 show kl σ F1 H1 ρ _ (S.grow g1) ((KE.bind h1).imp λo1 h2 F2 H2 g2=>?_)
 show kh σ F2 H2 ρ _ (S.grow (g1.trans g2)) ((KE.bind h2).imp λo2 h3 F3 H3 g3=>?_)
 have r:=RdV.gr (g2.trans g3) (Vok.rd q1);have z:=yE (g1.trans (g2.trans g3)) h3
 revert z r
 generalize w.d=d;intro r z;cases d<;>first|show z.elim|skip
 .rename_i ds;let⟨a,vs,rfl,hq,_,rs⟩:=RdV.tup g3.s r
  delta dSl at z
  dsimp only at z;by_cases c:HT.sIx ds[1] 0 o1=0/\HT.sIx ds[1] ds[1] o2=ds[1]
  .rw[iP c]at z;show z.elim
  rw[iN c]at z;show .inr #[a,vs,rfl,hq,by rw[Reps.length rs];show c,λp hp=>?_]
  have gn:=Gr.newF (o:=.tup (wK vs o1 o2)) g3.s hp;show z (.ref p) _ _ gn #[p,_,rfl,.inl (.inl qS),Reps.le gn.f _ (Reps.cut rs o1 o2)]
 rename_i ds;let⟨a,vs,rfl,hq,rs⟩:=RdV.lst g3.s r;show .inl #[a,vs,rfl,hq,λp hp=>?_]
 show z (.ref p) _ _ (Gr.new g3.s hp) #[p,_,rfl,hp,Le.none g3.s hp,qS,Reps.cut rs o1 o2]
def kZ(i:Nat)(k e:EF):SF:=λρ=>match ρ[i]? with
 | some (!(.lst xs)[9])=>sOf ((e ρ).bind En.st) λd=>sOf ((k ρ).bind λq=>isI q.d) λj=>match ixn xs[1] (j.getD 0)with
  | some n=>.nx (ρ.set i (!(.lst (xs.set n d))[9]))
  | none=>.stuck
 | _=>.stuck
theorem Reps.set(h:Rep κ F v d):∀ n {ds} {vs},Reps κ F vs ds->Reps κ F (vs.set n v) (ds.set n d)
 | _,[],_,h2=>by cases (h2);rfl
 | 0,_::ds,_,h2=>by
  let⟨u,r,rfl,h3,h4⟩:=h2;show#[v,r,rfl,h,h4]
 | n+1,_::ds,_,h2=>by
  let⟨u,r,rfl,h3,h4⟩:=h2;show#[u,r.set n v,rfl,h3,Reps.set h n h4]
def qaQ(i)(z:"S" k fk)(B:"S" e fe)(O:(Nm X i x)["t"])
  (U:∀ v,assign (.Subscript (.Name x np) k pos') X.env v=(do
   let ov <- holding [v] (eval (.Name x np) X.env);let iv <- holding [v,ov] (eval k X.env);standAt pos';holding [v,ov,iv] (setItem ov iv v);release [v,ov,iv] []):=by intro _;rfl)
  (Y:(swapsWithSole [.Subscript (.Name x np) k pos'] e pos.line X.env=pure false)["r"]) (Z:(swappedStores [.Subscript (.Name x np) k pos'] e X.env=pure none)["r"])
  (h1:((assignEach [.Subscript (.Name x np) k pos'] X.env).map (·.2)=[assign (.Subscript (.Name x np) k pos') X.env])["r"]) :
  SS X F0 H0 (.Assign [.Subscript (.Name x np) k pos'] e pos) (kZ i fk fe):=by
 intro pins s σ F H ρ D S I h
 delta kZ at h
 cases ew:ρ[i]? with
 | none=>rw[ew]at h;show h.elim
 | some w =>
  rw[ew]at h;cases w with
  | none=>show h.elim
  | some w =>
   cases w with
   | fz d=>show h.elim
   | br d=>show h.elim
   | lk d=>show h.elim
   | od d=>show h.elim
   | ow d =>
    cases d<;>first|show h.elim|skip
    rename_i ds;have h:=KE.bind (PostS.of h);let⟨v,e1,a,o,rfl,h0,hf,hh,ro⟩:=S.val i _ ew;cases o<;>first|show ro.elim|skip
    rename_i vs;show G9 (jd) (G7 (pos:=pos') (pvN (pos:=np) O) (jd (e:=k)) Tg U) Y Z h1 pins s σ H D I (B.sem S (h.imp λw k1 y F1 H1 g1 q1=>?_))
    cases es:w.st with
    | exc x=>rw[es]at k1;show k1.elim
    | stuck=>rw[es]at k1;show k1.elim
    | ok d =>
     rw[es]at k1;have ry:=Vok.st S.s g1 q1 es;let⟨g2,_⟩:=vh S.s g1;have S2:=S.grow g2;show#[_,e1,z.sem S2 ((KE.bind (PostS.of (show PostS X F0 H0 F D _ from k1))).imp λwk k2 y2 F3 H3 g3 q3=>?_)]
     have r:=Vok.rd q3
     revert k2 r
     generalize wk.d=dk;intro k2 r;cases dk<;>first|show k2.elim|skip
     rename_i j;have k2:PostS X F0 H0 F D (match ixn ds[1] j with|some n=>.nx (ρ.set i (!(.lst (ds.set n d))[9]))|none=>.stuck):=k2
     cases ej:ixn ds[1] j with
     | none=>rw[ej]at k2;show k2.elim
     | some n =>
      rw[ej]at k2;show#[a,vs,j,n,rfl,RdV.int r,g3.h _ _ (g1.h _ _ hh),by rw[Reps.length ro];show ej,?_]
      show k2 σ _ _ (Le.trans g2.f g3.f) ((S2.grow g3).mut ew e1 (o:=.lst (vs.set n y)) ?_);show Reps.set (Rep.le g3.f _ ry) n (Reps.le (Le.trans g2.f g3.f) _ ro)
def qD:D->D->R En
 | .int i,.int j=>okI (i+j)
 | .lst xs,.lst ys=>if xs[1]+ys[1]<=sz then .ok (.lst (xs++ys))[9]else .stuck
 | .tup xs,.tup ys=>if xs[1]+ys[1]<=sz/\xs≠[]/\ys≠[]then .ok (.tup (xs++ys))[8]else .stuck
 | _,_=>.stuck
def qZ:OpD X (binaryOp .Add) qD:=by
 intro pins s σ F H x y v u dx dy Q I l rx ry qx qy w;cases dx<;>first|show w.elim|skip
 .cases dy<;>first|show w.elim|skip
  show qai pins s σ F H x y v u _ _ Q I l rx ry qx qy w
 .rename_i xs;cases dy<;>first|show w.elim|skip
  rename_i ys
  delta qD at w
  dsimp only at w;by_cases c:xs[1]+ys[1]<=sz/\xs≠[]/\ys≠[]
  .rw[iP c]at w;let⟨a,vs,rfl,hq,_,rs⟩:=RdV.tup l qx;let⟨b,us,rfl,U,_,O⟩:=RdV.tup l qy;have n1:vs≠[]:=λz=>by subst z;have:=Reps.length rs;simp at this;show c.2.1 (fq.mp this.symm)
   have n2:us≠[]:=λz=>by subst z;have:=Reps.length O;simp at this;show c.2.2 (fq.mp this.symm)
   show T7 pins s σ H _ _ v u Q I rx ry #[a,b,vs,us,rfl,rfl,hq,U,n1,by rw[Reps.length rs,Reps.length O,<- zX];show c.1,λz=>absurd z n2,λ_ p hp=>?_]
   have gn:=Gr.newF (o:=.tup (vs++us)) l hp;show w (.ref p) _ _ gn #[p,_,rfl,.inl (.inl qS),Reps.le gn.f _ (Reps.append rs O)]
  rw[iN c]at w;show w.elim
 rename_i xs;cases dy<;>first|show w.elim|skip
 rename_i ys
 delta qD at w
 dsimp only at w;by_cases c:xs[1]+ys[1]<=sz
 .rw[iP c]at w;let⟨a,vs,rfl,hq,rs⟩:=RdV.lst l qx;let⟨b,us,rfl,U,O⟩:=RdV.lst l qy;cases (show v=Value.ref a from rx)
  cases (show u=Value.ref b from ry)
  let⟨its,rv,pl,hz⟩:=I.list hq;let⟨B,Y,pl2,hz2⟩:=I.list U;let⟨⟨cls,dd,data,sl⟩,ho,hc,n,hd⟩:=pl.isList;let⟨⟨h4,dd2,h3,sl2⟩,Z,hc2,n2,hd2⟩:=pl2.isList;subst hc hd hc2 hd2;have hl:its[1]+B[1]<=sizeLine:=by rw[<- rv[1],<- Y[1],Reps.length rs,Reps.length O,<- zX];show c
  show concat_meets #[_,ho,rfl] #[_,Z,rfl] noFill_list_add seq_list_add PySem.F.slot_list_add PySem.F.entry_list_add (PySem.F.args_list_add_2 _ _) (list_addW a b its.toArray B.toArray n n2 dd dd2 sl sl2 hl[""]) #[ho,Z,?_]
  have ea:its.toArray++B.toArray=(its++B).toArray:=by simp
  rw[ea];have hp:H s[0]=none:=I.hok.fresh (gC _);show#[.ref s[0],upd H s[0] (.lst (vs++us)),I.laid (t':=s.toks) (λb o q=>gu _ q) (gC _) #[?_,its++B,0,rv.append Y,gM _ rfl],rfl,?_]
  .rw[gD,rv[1],Y[1]];show hl
  show w _ _ _ (Gr.new l hp) #[_,_,rfl,hp,Le.none l hp,qS,Reps.append rs O]
 rw[iN c]at w;show w.elim
def wo:D->D->R En
 | x,.lst xs=>if eqok x&&xs.all (qK 8)then okB (din x xs)else .stuck
 | x,.tup xs=>if eqok x&&xs.all (qK 8)then okB (din x xs)else .stuck
 | _,_=>.stuck
def QX:D->D->R En
 | x,.lst xs=>if eqok x&&xs.all (qK 8)then okB (not (din x xs))else .stuck
 | x,.tup xs=>if eqok x&&xs.all (qK 8)then okB (not (din x xs))else .stuck
 | _,_=>.stuck
def YO(h:xs.all (qK n)=true):PyData.canLayAll0 (zg xs)=true/\PyData.depthAll (zg xs)<=n:=by
 let⟨a,b⟩:=wN (n+1) (.lst xs) h;show#[a,Nat.le_of_succ_le_succ b]
def YQ(z:X.A.units+10<cLine):OpD X (compareOp .In) wo:=by
 intro pins s σ F H x y v u dx dy Q I l rx ry qx qy w;cases dy<;>first|show w.elim|skip
 all_goals
  rename_i xs;unfold wo at w;dsimp only at w;by_cases c:(eqok dx&&xs.all (qK 8))=true
  .rw[iP c]at w;rw[hE]at c;let⟨as,ha⟩:=yb I l c.1 qx rx;let⟨bs,hb⟩:=yb (n:=9) I l (by show c.2) qy ry
   let⟨l1,l2⟩:=YO c.2;let⟨k1,k2⟩:=wN 8 dx c.1
   first
    | show SeqAt.in_list_reads hb ha l1 k1 "" ?_
    | show SeqAt.in_tuple_reads hb ha l1 k1 "" ?_
   rw[Y7 dx 8 8 c.1 xs c.2];show#[.bl _,H,I,rfl,je (X:=X) l (v:=.bl _) w rfl]
  rw[iN c]at w;show w.elim
def qaR(z:X.A.units+10<cLine):OpD X (compareOp .NotIn) QX:=by
 intro pins s σ F H x y v u dx dy Q I l rx ry qx qy w;cases dy<;>first|show w.elim|skip
 all_goals
  rename_i xs
  delta QX at w
  dsimp only at w;by_cases c:(eqok dx&&xs.all (qK 8))=true
  .rw[iP c]at w;rw[hE]at c;let⟨as,ha⟩:=yb I l c.1 qx rx;let⟨bs,hb⟩:=yb (n:=9) I l (by show c.2) qy ry
   let⟨l1,l2⟩:=YO c.2;let⟨k1,k2⟩:=wN 8 dx c.1
   first
    | show SeqAt.notIn_list_reads hb ha l1 k1 "" ?_
    | show SeqAt.notIn_tuple_reads hb ha l1 k1 "" ?_
   rw[Y7 dx 8 8 c.1 xs c.2];show#[.bl _,H,I,rfl,je l w rfl]
  rw[iN c]at w;show w.elim
variable{prog:af}{w:World}{A:ag}{E:aa->ab->Prop}{s:ab}
def qaS(d)(hd:(d==sysModules)=false) :
  MeetsIn prog w (Builtin.«dict.__len__» #[[.ref d],[]]) (λ_ R s=>∃ o es ep,s.heap.get? d=!o/\o.data=.dict es ep/\R (.ok (.ret (.int es.size s.toks))) {s with toks:=s.toks+1}) :=
 .of_wp λA R s #[o,es,ep,ho,hdat,h]=>by
  show gg (m:=dictSize d) (gg (dX ho hdat (gy ?_)));show gg (wpAny_pendingCount_other hd (wpAny_ret_mkInt ?_))
  simp_all
def YR(hd:(d==sysModules)=false)(B:s.heap.get? d=!o)(O:o.ExactDict)(z:o.data=.dict es ep)(hz:es.size<=sizeLine)
  (h:Q (.int es.size (s.toks+1)) {s with toks:=s.toks+1+1}):wpAny (model prog w) A (call (.builtin "len") [.ref d]) Q E s:=by
 rw[pC]at hz;have ty:s.TypeIs (.ref d) "dict":=#[o,B,O.1];show Calls.call_function_entry kind_len plain_len entry_len (args_len1 _) ?_;show gg (m:=callSpecial? (.ref d) (Str.ofString "__len__")) (fL ty PySem.F.slot_dict_len
  (bg PySem.F.slot_dict_len ty PySem.F.entry_dict_len (PySem.F.args_dict_len_1 _) (qaS d hd) #[o,es,ep,B,z,?_]))
 have c2:¬ ((es.size):Int)≥2 ^ 63:=""
 show wpAny _ _ (if ((es.size):Int)≥2 ^ 63 then _ else _) _ _ _
 rw[iN c2];show gg (wpAny_mkInt (gy #[_,rfl,h]))
end
def jw:List D->R En
 | [.lst xs]=>okI xs[1]
 | [.tup xs]=>okI xs[1]
 | [.dK kvs]=>if kvs[1]<=sz then okI kvs[1] else .stuck
 | [.dT kvs]=>okI kvs[1]
 | _=>.stuck
theorem RepT.length:∀{kds} {kvs},RepT κ F kvs kds->kvs[1]=kds[1]
 | [],_,h=>by cases (h);rfl
 | (q,d)::r,_,h=>by
  let⟨v,kr,rfl,h1,h2⟩:=h;simp[RepT.length h2]
theorem RdV.dT{F H:Hp}{v:V}{ds:List (List (Sum Int Str)×D)}(s:Le F H)(h:RdV κ F H v (.dT ds)):∃ a kvs,v=.ref a/\Rd H a (.dT kvs)/\RepT κ F kvs ds:=by
 rcases h with⟨a,vs,e,q,r⟩|⟨a,o,e,e2,r⟩
 .show#[a,vs,e,Rd.le s q,r]
 cases o with
 | dT vs=>show#[a,vs,e,.inl e2,r]
 | _=>show r.elim
section
variable{X:Cx}{F0 H0:Hp}
def zx:zW X (.builtin "len") jw:=by
 intro pins s σ F H xs us ds Q I l rx qx w;cases qx with
 | nil=>show w.elim
 | @cons x d xs ds q1 q2 =>
  cases q2 with
  | cons _ _=>cases d<;>show w.elim
  | nil =>
   cases d<;>first|show w.elim|skip
   .show Ya pins s σ F H _ _ [.tup _] Q I l rx (.cons q1 .nil) w
   .show Ya pins s σ F H _ _ [.lst _] Q I l rx (.cons q1 .nil) w
   .rename_i kds;let⟨p,kvs,rfl,hq,rk⟩:=RdV.dK l q1;cases rx with
    | cons r1 r2 =>
     cases r2;cases r1;let⟨hd,vs,B,o,es,ep,ho,hx,z,hk,hp,hn⟩:=Inv.dictK I hq;have e1:es.size=kds[1]:=by
      have a1:es[2].length=vs[1]:=hp[1];have a2:=B[1];have a3:=RepK.length rk
      simp_all
     delta jw at w
     dsimp only at w;by_cases c:kds[1]<=sz
     .rw[iP c]at w;show YR hd ho hx z (by rw[e1];show c) ?_
      rw[e1];show#[.int _,H,I.tok _,#[_,rfl],je (X:=X) l (v:=.int _) w rfl]
     rw[iN c]at w;show w.elim
   rename_i kds;let⟨p,kvs,rfl,hq,rk⟩:=RdV.dT l q1;cases rx with
   | cons r1 r2 =>
    cases r2;cases r1;let⟨hz,hd,zs,B,o,es,ep,ho,hx,z,h4,h5⟩:=hq.ok I.hok;have e1:es.size=kvs[1]:=by
     have a1:es[2].length=zs[1]:=by rw[h4,g6]
     have a2:=B[1]
     grind
    show YR hd ho hx z "" ?_
    rw[e1,RepT.length rk];show#[.int _,H,I.tok _,#[_,rfl],je (X:=X) l (v:=.int _) w rfl]
theorem YS:∀{kds} {kvs},RepT κ F kvs kds->kvs.map (·.1)=kds.map (·.1)
 | [],_,h=>by cases (h);rfl
 | (k,d)::r,_,h=>by
  let⟨v,kr,rfl,h1,h2⟩:=h;simp[YS h2]
theorem YT:∀{kds es} {kvs us},RepT κ F kvs kds->RepT κ F us es->RepT κ F (kvs++us) (kds++es)
 | [],_,_,_,h,k=>by cases (h);show k
 | (q,d)::r,_,_,_,h,k=>by
  let⟨v,kr,rfl,h1,h2⟩:=h;show#[v,kr++_,rfl,h1,YT h2 k]
theorem YU(z:Rep κ F v d):∀{kds} {kvs},RepT κ F kvs kds ->
  RepT κ F (kvs.map λkv=>if kv.1=k then(kv.1,v)else kv) (kds.map λkv=>if kv.1=k then(kv.1,d)else kv)
 | [],_,h=>by cases (h);rfl
 | (q,e)::r,_,h=>by
  let⟨u,kr,rfl,h1,h2⟩:=h;have hr:=YU (k:=k) z h2;by_cases c:q=k
  .simp[gP,iP c];show#[v,_,rfl,z,hr]
  simp[gP,iN c];show#[u,_,rfl,h1,hr]
def YV(z:Rep κ F v d)(h:RepT κ F kvs kds):RepT κ F (jO kvs k v) (jk k d kds):=by
 have a:∀{α} (l:List (List Key×α)),(l.any λkv=>decide (kv.1=k))=(l.map (·.1)).any λq=>decide (q=k):=λl=>by rw[List.any_map];rfl
 delta jO jk
 rw[a,a,(YS h)];by_cases c:((kds.map (·.1)).any λq=>decide (q=k))=true
 .rw[iP c,iP c];show YU z h
 rw[iN c,iN c];show YT h #[v,[],rfl,z,rfl]
theorem uA:∀{ws} {vs} {q:List Key},Voks κ H F' H' vs ws->jP (ws.map En.d)=!q->vs=q.map kV
 | [],vs,q,h,e=>by cases e;show h
 | w::ws,vs,q,h,e=>by
  let⟨v,r,rfl,h1,h2⟩:=h;rw[gP]at e;unfold jP at e;cases e1:zC w.d with
  | none=>rw[e1]at e;cases e
  | some k =>
   cases e2:jP (ws.map En.d)with
   | none=>rw[e1,e2]at e;cases e
   | some ks =>
    rw[e1,e2]at e;cases e;have r1:=Vok.rd h1;have ev:v=kV k:=by
     cases ed:w.d with
     | int j=>rw[ed]at e1 r1;cases e1;show RdV.int r1
     | str j=>rw[ed]at e1 r1;cases e1;show RdV.str r1
     | _=>rw[ed]at e1;cases e1
    rw[ev,uA h2 e2];rfl
def QY{k:Nat}(B:SA X F0 H0 es fs){Q:VK}(S:StOk (kx X) F0 H0 F H ρ σ)
  (h:KE (XP X F0 H0) (evs fs ρ) λws=>∀ vs F' H' p,Gr F H F' H'->Voks (kx X) H F' H' vs ws->H' p=none->vs[1]<=sizeLine/\Q (.ref p) (upd H' p (.tup vs))):yD X (.Tuple es k tp) σ H Q:=by
 show λpins s I=>bD (B tp pins s σ F H ρ _ S I (h.imp λws k1 vs us F1 H1 s1 g1 q1 r1 I1=>?_))
 let⟨z,q⟩:=k1 vs F1 H1 s1[0] g1 q1 (I1.hok.fresh (gC _));show#[by rw[<- r1[1]];show z,(#[.ref s1[0],upd H1 s1[0] (.tup vs),I1.laid (λb u e=>gu _ e) (gC _) (#[z,us,r1,#[_,gM _ rfl,rfl,_,rfl]]),rfl,q])]
def x4(i:Nat)(k:List EF)(e:EF):SF:=λρ=>match ρ[i]? with
 | some (!(.dT kvs)[9])=>sOf ((e ρ).bind En.st) λd=>sOf (evs k ρ) λws=>match jP (ws.map En.d)with
  | some key=>if kvs[1]<sz/\key[1]<=sz then .nx (ρ.set i (!(.dT (jk key d kvs))[9]))else .stuck
  | none=>.stuck
 | _=>.stuck
def qaT(i){np tp pos pos':Pos}{n:Nat}(Y:X.A.units+10<cLine)(z:SA X F0 H0 ks fk)(B:"S" e fe)(O:(Nm X i x)["t"])(U:(swapsWith e (!(.Subscript (.Name x np) (.Tuple ks n tp) pos')) pos.line X.env=pure false)["r"]) :
  SS X F0 H0 (.Assign [.Subscript (.Name x np) (.Tuple ks n tp) pos'] e pos) (x4 i fk fe):=by
 intro pins s σ F H ρ D S I h
 delta x4 at h
 cases ew:ρ[i]? with
 | none=>rw[ew]at h;show h.elim
 | some w =>
  rw[ew]at h;cases w with
  | none=>show h.elim
  | some w =>
   cases w with
   | fz d=>show h.elim
   | br d=>show h.elim
   | lk d=>show h.elim
   | od d=>show h.elim
   | ow d =>
    cases d<;>first|show h.elim|skip
    rename_i kds;have h:=KE.bind (PostS.of h);let⟨v,e1,a,o,rfl,h0,hf,hh,ro⟩:=S.val i _ ew;cases o<;>first|show ro.elim|skip
    rename_i kvs;show Zh (pos:=pos) (pos':=pos') "o" (pvN (pos:=np) O) (jd (e:=.Tuple ks n tp)) (jd (e:=e)) U pins s σ H D I (B.sem S (h.imp λw k1 y F1 H1 g1 q1=>?_))
    cases es:w.st with
    | exc x=>rw[es]at k1;show k1.elim
    | stuck=>rw[es]at k1;show k1.elim
    | ok d =>
     rw[es]at k1;have ry:=Vok.st S.s g1 q1 es;let⟨g2,_⟩:=vh S.s g1;have S2:=S.grow g2;show#[_,e1,QY z S2 ((PostS.of (show PostS X F0 H0 F D _ from k1)).imp λws k2 vs F3 H3 p g3 q3 hp=>?_)]
     cases ek:jP (ws.map En.d)with
     | none=>rw[ek]at k2;show k2.elim
     | some key =>
      rw[ek]at k2;have ev:=uA q3 ek;subst ev;have lv:kvs[1]=kds[1]:=RepT.length ro;by_cases c:kds[1]<sz/\key[1]<=sz
      .have k3:PostS X F0 H0 F D (.nx (ρ.set i (!(.dT (jk key d kds))[9]))):=by simpa[iP c]using k2
       show#[by rw[g6];show c.2,a,_,rfl,DPut.t (e:=?_) qS (by rw[lv];show c.1),?_]
       .rw[qu (jN (g3.h _ _ (g1.h _ _ hh)) hp)];show g3.h _ _ (g1.h _ _ hh)
       have g4:=Gr.new (o:=.tup (key.map kV)) g3.s hp;show k3 σ _ _ (Le.trans g2.f (Le.trans g3.f g4.f)) (((S2.grow g3).grow g4).mut ew e1 (o:=.dT (jO kvs key y)) ?_);show YV (Rep.le g3.f _ ry) (RepT.le (Le.trans g2.f g3.f) _ ro)
      have:False:=by simpa[iN c,PostS,KE]using k2
      show this.elim
end
def chE(g:D->D->R En)(y:D)(c:EF):EF:=λρ=>(c ρ).bind λz=>g y z.d
section
variable{ρ:Rho}{d:D}{e f:EF}{i:Nat}{a b c:EF}
theorem qit{i j:Int}:qD i[6] j[6]=.ok (i+j)[7]:=rfl
theorem qiu:jw [.lst xs]=.ok (.int xs[1])[8]:=rfl
theorem qiv:jw [.tup xs]=.ok (.int xs[1])[8]:=rfl
theorem qiw{lo hi:OF}:eSl a lo hi ρ=(a ρ).b λx=>(lo ρ).b λl=>(hi ρ).b λu=>dSl x.dd l u:=rfl
theorem qix:oNo ρ=.ok none:=rfl
theorem qiy:oE e ρ=(e ρ).b λw=>isI w.dd:=rfl
theorem qiz:isI j[6]=.ok !j:=rfl
theorem qiA{lo hi:Option Int}:dSl (.lst xs) lo hi=.ok (.lst (vX xs lo hi))[9]:=rfl
theorem qiB:ut g g' a b c ρ=(a ρ).b λx=>(b ρ).b λy=>(g x.dd y.dd).b λr=>(isB r.dd).b (uu (chE g' y.dd c) kF ρ):=rfl
theorem qiC:chE g d c ρ=(c ρ).b λz=>g d z.dd:=rfl
def qaU{j:Int}{n:Nat}(h:ρ[i]?=!(!(.lst xs)[9]))(h2:(e ρ).b En.sto=.ok d)(z:k ρ=.ok w)(B:w.d=.int j)(O:ixn xs[1] j=!n) :
  kZ i k e ρ=.nx (ρ.set i (!(.lst (xs.set n d))[9])):=by
 have h2:(e ρ).bind En.st=.ok d:=h2
 delta kZ
 rw[h];rw[h2];rw[z,R.bind_ok,B];show(match ixn xs[1] j with|some n=>_|none=>_)=_
 rw[O]
def qaV{kvs:List (List (Sum Int Str)×D)}{ws:List En}{key:List (Sum Int Str)}(h:ρ[i]?=!(!(.dT kvs)[9]))(h2:(e ρ).b En.sto=.ok d)(B:evs k ρ=.ok ws)(O:jP (ws.map En.d)=!key)
  (U:kvs[1]<sz)(z:key[1]<=sz):x4 i k e ρ=.nx (ρ.set i (!(.dT (jk key d kvs))[9])):=by
 have h2:(e ρ).bind En.st=.ok d:=h2
 delta x4
 rw[h];rw[h2];delta sOf;rw[B];dsimp only;rw[O];dsimp only;rw[iP #[U,z]]
def qaW(xs:List α)(a m:Nat):vX xs ↑a (!(a+m))=(xs.drop a).take m:=by
 delta vX
 rw[HT.sIx_nat,show a+m=((a+m:Nat):Int)by lia,HT.sIx_nat]
 by_cases h:a<=xs[1]
 .rw[show min a xs[1]=a by lia]
  apply dY;intro i;rw[pY,pY,List.getElem?_drop]
  grind
 rw[List.drop_eq_nil_of_le (by lia:xs[1]<=min a xs[1]),List.drop_eq_nil_of_le ""]
 simp
def vk{w:En}(h:e ρ=.ok w)(h2:w.st=.ok (.lst ds)):qN e ρ=.ok ds:=by delta qN;rw[h,R.bind_ok,h2];rfl
def YW{a b c d:Int}:dNe (.tup [.int a,.int b]) (.tup [.int c,.int d])=.ok (.bl (not (a==c&&b==d)))[8]:=by
 show okB (not (deq _ _))=_;simp[deq,deqs]
def qaX:∀ rs:List (List Int),vO (rs.map qP)=!rs:=λrs=>rs.rec
 (rfl)
 λr rs IH=>by
  show(match jX (r.map .int),vO (rs.map qP)with|some a,!b=>↑(a::b)|_,_=>none)=_
  have e:∀ ns,jX (ns.map D.int)=!ns:=by
   intro ns
   induction ns with
   | nil=>rfl
   | cons n ns ih =>
    show(match jX (ns.map D.int)with|some l=>↑(n::l)|none=>none)=_
    rw[ih]
  rw[e,IH]
end
section
variable{prog:af}{w:World}{A:ag}{R:Result->ab->Prop}{it:Addr}{fp wr:List Addr}{n:Nat}{P:Nat->aa->Prop}{St:Nat->Heap->Prop}
def qaY:Option aa->Array aa
 | none=>#[]
 | some v=>(List.toArray [v,v])
def qaZ(W:Walks prog w A.in1 it fp wr n P St)(bt)(cmp:CmpOf prog w A.in1 .Gt P bt)(p)(np:p∉fp)(dv) :
  ∀ k j s ob c,n-j=k->j<=n->St j s.heap->(match ob with|none=>j=0|some v=>0<j/\P (argBest bt (j-1)) v) ->
  s.heap.get? p=some {cls:=.type "list",dict:=none,data:=.seq (qaY ob) c,slots:=#[]} ->
  (∀ v h' tk,(n=0/\v=dv\/0<n/\P (argBest bt (n-1)) v)->(∀ b o,b∉wr->b≠p->s.heap.get? b=!o->h'.get? b=!o)->R (.ok (.ret v)) {s with heap:=h',toks:=tk}) ->
  codeAny (model prog w) A (.builtin "max.loop" #[[.ref it,.none,.ref p],[(Str.ofString "default",dv)]]) R s:=by
 have pw:p∉wr:=λz=>np (W.sub _ z)
 have nm:(toString "max"++toString ".loop")="max.loop":=by decide
 intro k
 induction k with
 | zero =>
  intro j s ob c hk hj st hb hp hR;have e:j=n:="o"
  subst e;show dJ PySem.F.entry_max_loop ?_;show gg (m:=seqItems? (.ref p)) (fH hp rfl ?_);show gg (cQ (W.done s _ _ st λh' tk kp=>?_))
  have U:=kp p _ pw hp;cases ob with
  | none =>
   show gg (pU (gy (hR dv _ tk (.inl #[hb,rfl]) λb o O _ e=>kp b o O e)))
  | some v =>
   show gg (m:=updateSeq p λ_=>#[]) (cA U rfl (gg (pR (gy ?_))) (by show 2<=sizeLine;decide) "s")
   show hR v _ tk (.inr #[hb.1,hb.2]) λb o O B e=>(tT _ _ (tu B)).trans (kp b o O e)
 | succ k ih =>
  intro j s ob c hk hj st hb hp hR;have lt:j<n:="o"
  show dJ PySem.F.entry_max_loop ?_;rw[bn pS _];show gg (m:=seqItems? (.ref p)) (fH hp rfl ?_);show gg (cQ (W.item j s _ _ lt st λv h' tk hP st' kp=>?_))
  have U:=kp p _ pw hp;have frame:∀ h'',(∀ b o,b≠p->h'.get? b=!o->h''.get? b=!o)->St (j+1) h'':=λh'' q=>W.frame _ _ _ st' λb hbf o e=>q b o (λz=>np (by rw[<- z];show hbf)) e
  cases ob with
  | none =>
   have e:j=0:=hb;subst e;show gg (m:=updateSeq p λ_=>(List.toArray [v,v])) (cA U rfl ?_ (by show 0<=sizeLine;decide) (by show 2<=sizeLine+1;decide))
   rw[nm];show gy #[pZ pS _,ih 1 _ ↑v _ "" lt (frame _ λb o B e=>(tT _ _ (tu B)).trans e) #[by decide,hP] (fj _ U rfl) λv' h2 Y q Z=>?_]
   show hR v' h2 Y q λb o O B e=>Z b o O B ((tT _ _ (tu B)).trans (kp b o O e))
  | some vb =>
   let⟨j0,hPb⟩:=hb;show gg (gy (gg (cQ (fU (gg (cmp j (argBest bt (j-1)) v vb _ _ _ hP hPb (gg (fU (pN (gg (pR (gy ?_))))))))))));have ea:argBest bt j=if bt j (argBest bt (j-1))then j else argBest bt (j-1):=by
    obtain⟨i,rfl⟩:∃ i,j=i+1:=#[j-1,""]
    rfl
   by_cases cb:bt j (argBest bt (j-1))=true
   .rw[iP cb];rw[iP cb]at ea;show gg (m:=updateSeq p λ_=>(List.toArray [v,v])) (cA U rfl (gg (pR ?_)) (by show 2<=sizeLine;decide) (by show 2<=sizeLine+1;decide))
    rw[nm];show gy #[pZ pS _,ih (j+1) _ ↑v _ "" lt (frame _ λb o B e=>(tT _ _ (tu B)).trans e) #["",?_] (fj _ U rfl) λv' h2 Y q Z=>?_]
    .rw[Nat.add_sub_cancel,ea];show hP
    show hR v' h2 Y q λb o O B e=>Z b o O B ((tT _ _ (tu B)).trans (kp b o O e))
   rw[iN cb];rw[iN cb]at ea;show gg (pR ?_);rw[nm];show gy #[pZ pS _,ih (j+1) _ ↑vb c "" lt st' #["",?_] U λv' h2 Y q Z=>?_]
   .rw[Nat.add_sub_cancel,ea];show hPb
   show hR v' h2 Y q λb o O B e=>Z b o O B (kp b o O e)
variable{E:aa->ab->Prop}{s:ab}
def qb0(a b):argsOk "max" #[[a],[(Str.ofString "default",b)]]:=by delta argsOk;kernel_rfl
def qb1{xs:Array (Int×Tok)}{Q:aa->ab->Prop}(Y:A.handled=none)(Z:s.heap.IsList l (intItems xs))
  (h:∀ v h' tk,(xs.size=0/\v=dv\/0<xs.size/\(intItems xs)[argBest (λi j=>decide (numAt xs i>numAt xs j)) (xs.size-1)]?=!v)->(∀ b o,s.heap.get? b=!o->h'.get? b=!o)->Q v {s with heap:=h',toks:=tk}) :
  wpAny (model prog w) A (call (.builtin "max") [.ref l] [(Str.ofString "default",dv)]) Q E s:=by
 have U:(intItems xs).size=xs.size:=by simp[intItems]
 show wpAny_call (codeAny_call_builtin PySem.F.plain_max PySem.F.entry_max ?_);have body:wpAny (model prog w) A.in1 (Builtin.«max» #[[.ref l],[(Str.ofString "default",dv)]]) (λfin s'=>match fin with
   | .done f=>(match (Except.ok f)with|.ok (.ret v)=>Q v s'|.ok _=>False|.error e=>E e s')
   | .again c'=>c'.quiet=true/\codeAny (model prog w) A c' (λr s'=>match r with|.ok (.ret v)=>Q v s'|.ok _=>False|.error e=>E e s') s') E s:=by
  show gg (m:=Builtin.Builtins.bindParams "max" ["key","default"] 0 #[[],[(Str.ofString "default",dv)]]) (wpAny_of_eq (show Builtin.Builtins.bindParams "max" ["key","default"] 0 #[[],[(Str.ofString "default",dv)]]=pure [none,!dv]from rfl) ?_)
  show gg (gy (gg (iter_intList Z λs₂ e st B O=>?_)))
  subst e;show gg (f8 ?_);have W:=Walks.list (prog:=prog) (w:=w) (A:=A.in1) Y s[0] l O (intItems xs);show gy #[pZ pS _,qaZ W _ (CmpOf.ints_gt (numAt xs) λ_ _=>intItems_at) _ (λz=>pF _ (B _ z)) dv _ 0 _ none 0 rfl (tP _) (W.frame _ _ _ st λb _ o e=>gu _ e) rfl (gM _ rfl) λv h' tk q kp=>?_]
  show h v h' tk ?_ (old_kept λb o hb e=>kp b o hb (t8 (gN e)) (gu _ e))
  rw[U]at q;show q
 have ok:=qb0 (.ref l) dv;unfold argsOk at ok
 revert ok
 generalize Manifest.signature? "max"=sg;intro ok;cases sg with
 | none=>show gy body
 | some sg =>
  have ok:Bind.checkArgs "max" sg #[[.ref l],[(Str.ofString "default",dv)]]=pure ():=ok;simp[ok];show gy body
end
def x8:D->D->R En
 | .lst ds,.int d=>(match jX ds with|some []=>okI d|some (i::r)=>okI (yh i r)|none=>.stuck)
 | _,_=>.stuck
section
variable{X:Cx}{F0 H0:Hp}{pos p kp:Pos}
def qb2(Y:"S" e fe)(hd:"S" d fd)(Z:X.mg "max"=none)(hc:(X.calm=true)["r"])(hg:(Gl X "max")["r"])
  (h1:(backTo pos (sE [e] X.env)=(false,eval e X.env)::backTo pos (sE [] X.env))["r"])(h2:((backTo pos (sE [e] X.env)).any (·.1)=false)["r"])
  (h3:((backToKw pos (keywordEach [#[some "default",d,kp]] X.env)).all (·.1.isSome)=true)["r"])(h4:((backToKw pos (keywordEach [#[some "default",d,kp]] X.env)).any (·.1.isNone)=false)["r"])
  (h5:((backToKw pos (keywordEach [#[some "default",d,kp]] X.env)).filterMap (·.1)=[Str.ofString "default"])["r"])
  (U:(sE [e] X.env=[(false,eval e X.env)])["r"]) :
  "S" (.Call (.Name "max" p) [e] [#[some "default",d,kp]] pos) (eOp x8 fe fd):=by
 show λpins s σ F H ρ Q S I h=>fC (zL I hg Z cX ?_)
 show callWith_kw ?_ h1 h2 h3 h4;rw[U];show hZ (Y pins s σ F H ρ _ S I ((KE.bind h).imp λwx k1 v u F1 H1 s1 g1 q1 r1 I1=>tM ?_))
 show kws_cons (hd pins s1 σ F1 H1 ρ _ (S.grow g1) I1 ((KE.bind k1).imp λwy k2 v2 u2 F2 H2 s2 g2 q2 r2 I2=>kws_nil ?_))
 rw[h5];have qx:=RdV.gr g2 (Vok.rd q1);have qy:=Vok.rd q2;have B:=yE (g1.trans g2) k2
 revert B qx qy
 generalize wx.d=dx;generalize wy.d=dy;intro qx qy B;cases dx<;>first|show B.elim|skip
 rename_i ds;cases dy<;>first|show B.elim|skip
 rename_i dv
 delta x8 at B
 dsimp only at B;cases RdV.int qy;let⟨td,rfl⟩:=r2;cases ei:jX ds with
 | none=>rw[ei]at B;show B.elim
 | some ns =>
  rw[ei]at B;let⟨a,vs,rfl,hq,rs⟩:=RdV.lst g2.s qx;have ev:=yH ei rs;subst ev;cases r1;let⟨its,rv,pl,hz⟩:=I2.list hq;have hi:IntsAre its ns:=kt rv;let⟨ys,ey⟩:=hi.allInts.items;have O:ns=ys[2].map (·.1):=by rw[<- hi.numsOf,<- nums_intItems,<- ey]
  have hl:=pl.isList;rw[ey]at hl;have hsz:ys.size=ns[1]:=by rw[O];simp
  show vz (pins:=pins) (σ:=σ) (qb1 (I2.ok.hd hc) hl λv h' tk hv kp=>?_)
  cases ns with
  | nil =>
   rcases hv with⟨_,rfl⟩|⟨z,_⟩
   .show#[.int dv,H2,I2.kept kp,#[_,rfl],je (X:=X) g2.s (v:=.int _) B rfl]
   rw[hsz]at z;simp at z
  | cons i r =>
   rcases hv with⟨z,_⟩|⟨_,hv⟩
   .rw[hsz]at z;simp at z
   let⟨t,rfl⟩:=intItems_at hv;let⟨b1,b2⟩:=argBest_gt (numAt ys) (ys.size-1);have m1:numAt ys (argBest (λi j=>decide (numAt ys i>numAt ys j)) (ys.size-1))∈i::r:=by
    rw[O,numAt_eq];show getD_mem (by rw[g6,pt];simp at hsz;lia)
   have m2:∀ a∈i::r,a<=numAt ys (argBest (λi j=>decide (numAt ys i>numAt ys j)) (ys.size-1)):=λa ha=>by
    rw[O]at ha;let⟨j,hj,rfl⟩:=mem_getD ha;rw[g6,pt]at hj;rw[<- numAt_eq];show b2 j ""
   let⟨k1,k2⟩:=Yq r i;have em:numAt ys (argBest (λi j=>decide (numAt ys i>numAt ys j)) (ys.size-1))=yh i r:=Int.le_antisymm (k2 _ m1) (m2 _ k1)
   rw[em];show#[.int _,H2,I2.kept kp,#[_,rfl],je (X:=X) g2.s (v:=.int _) B rfl]
def zZ(i:Nat)(e:EF):SF:=λρ=>match ρ[i]? with
 | some (!(.lst xs)[9])=>sOf (e ρ) λw=>match w with
  | .ow (.lst ys)=>if xs[1]+ys[1]<=sz then .nx (ρ.set i (!(.lst (xs++ys))[9]))else .stuck
  | _=>.stuck
 | _=>.stuck
def uB(i){x:Str}{apos cpos np:Pos}(Z:"S" e f)(hN:(Nm X i x)["t"])(B:(attributeBase (.Name x np) "extend" X.env (eval (.Name x np) X.env)=eval (.Name x np) X.env)["r"])
  (U:(((backTo cpos (sE [e] X.env)).all (λx=>not x.1)&&(backToKw cpos (keywordEach [] X.env)).all (λx=>x.1.isSome)
   && decide ([e].length+([]:List Keyword)[1]+(if ([]:List Keyword).isEmpty then 0 else 1)<30))=true)["r"])
  (O:((apos.endLine==cpos.line)=true)["r"]) (Y:(sE [e] X.env=(false,eval e X.env)::sE [] X.env)["r"]) (z:((backTo cpos (sE [] X.env)).any (·.1)=false)["r"])
  (hs:(swapsWith (.Call (.Attribute (.Name x np) "extend" apos) [e] [] cpos) none pos.line X.env=pure false)["r"]) :
  SS X F0 H0 (.Expr (.Call (.Attribute (.Name x np) "extend" apos) [e] [] cpos) pos) (zZ i f):=by
 intro pins s σ F H ρ D S I h
 delta zZ at h
 cases ew:ρ[i]? with
 | none=>rw[ew]at h;show h.elim
 | some w =>
  rw[ew]at h;cases w with
  | none=>cases h
  | some w =>
   cases w with
   | fz d=>show h.elim
   | br d=>show h.elim
   | lk d=>show h.elim
   | od d=>show h.elim
   | ow d =>
    cases d<;>first|show h.elim|skip
    rename_i ds;have h:=PostS.of h;let⟨v,e1,a,o,rfl,h0,hf,hh,ro⟩:=S.val i _ ew;cases o<;>first|show ro.elim|skip
    rename_i vs;have P:=xV (wL p6 PySem.F.slot_list_extend PySem.F.type_list_extend Tu (pvN (pos:=np) hN) (zM (jd (e:=e)) vI Y) B U O Y z) hs;show P pins s σ H D I #[_,e1,.inl #[rfl,vs,SqL.of hh],Z.sem S (h.imp λw k y F1 H1 g1 q1=>?_)]
    cases w with
    | fz d=>show k.elim
    | br d=>show k.elim
    | lk d=>show k.elim
    | od d=>show k.elim
    | ow d =>
     cases d<;>first|show k.elim|skip
     rename_i es;let⟨b,o,rfl,b0,bf,bh,rb⟩:=q1;cases o<;>first|show rb.elim|skip
     rename_i us;dsimp only at k;by_cases c:ds[1]+es[1]<=sz
     .rw[iP c]at k;have hl:vs[1]+us[1]<=sizeLine:=by rw[Reps.length ro,Reps.length rb];show c
      show#[a,b,vs,us,rfl,rfl,g1.h _ _ hh,bh,hl,?_];show k σ _ _ g1.f ((S.grow g1).mut ew e1 (o:=.lst (vs++us)) (Reps.append (Reps.le g1.f _ ro) rb))
     rw[iN c]at k;show k.elim
def uC:D->Bool
 | .non=>true
 | _=>false
def vP:D->D->R En
 | .xc _ _,_=>.stuck
 | d,.non=>okB (uC d)
 | _,_=>.stuck
def wR:D->D->R En
 | .xc _ _,_=>.stuck
 | d,.non=>okB (not (uC d))
 | _,_=>.stuck
def YX(l:Le F H)(q:RdV κ F H v d)(z:∀ c fs,d≠.xc c fs):decide (v=.non)=uC d:=by
 cases d with
 | non=>rw[RdV.non q];rfl
 | bl b=>rw[RdV.bl q];rfl
 | int b=>rw[RdV.int q];rfl
 | str b=>rw[RdV.str q];rfl
 | tup ds=>let⟨a,vs,rfl,_⟩:=RdV.tup l q;rfl
 | lst ds=>let⟨a,vs,rfl,_⟩:=RdV.lst l q;rfl
 | dK ds=>let⟨a,vs,rfl,_⟩:=RdV.dK l q;rfl
 | dT ds=>let⟨a,vs,rfl,_⟩:=RdV.dT l q;rfl
 | xc c fs=>show absurd rfl (z c fs)
def ZR:OpD X (compareOp .Is) vP:=vK GD λF H x y dx dy Q l qx qy w=>by
 have hx:∀ c fs,dx≠.xc c fs:=λc fs z=>by subst z;show w.elim
 cases dy<;>first|(cases dx<;>show w.elim)|skip
 have w:Wish X F H (okB (uC dx)) Q:=by cases dx<;>first|show w|show w.elim
 show#[RdV.non qy,?_];rw[YX l qx hx];show je l w rfl
def qb3:OpD X (compareOp .IsNot) wR:=vK GG λF H x y dx dy Q l qx qy w=>by
 have hx:∀ c fs,dx≠.xc c fs:=λc fs z=>by subst z;show w.elim
 cases dy<;>first|(cases dx<;>show w.elim)|skip
 have w:Wish X F H (okB (not (uC dx))) Q:=by cases dx<;>first|show w|show w.elim
 show#[RdV.non qy,?_];rw[YX l qx hx];show je l w rfl
variable{ρ:Rho}{d:D}{e:EF}{i:Nat}
def augR(o:Option (Option En))(i:Nat)(g:D->D->R En)(e:EF)(ρ:Rho):Out:=match o with
 | some (!x[8])=>sOf ((e ρ).b λy=>(g x y.dd).b En.nmo) λw=>.nx (ρ.set i !w)
 | _=>.stuck
theorem qiD:zb i g e ρ=augR ρ[i]? i g e ρ:=rfl
theorem qiE:augR (!(!d[8])) i g e ρ=sOf ((e ρ).b λy=>(g d y.dd).b En.nmo) λw=>.nx (ρ.set i !w):=rfl
def uD(h:ρ[i]?=!(!(.lst xs)[9]))(h2:e ρ=.ok (.lst ys)[9])(z:xs[1]+ys[1]<=sz):zZ i e ρ=.nx (ρ.set i (!(.lst (xs++ys))[9])):=by
 delta zZ;rw[h];rw[h2];delta sOf;dsimp only;rw[iP z]
theorem qiF:vP (.tup xs) .non=.ok (.bl false)[8]:=rfl
theorem qiG:wR .non .non=.ok (.bl false)[8]:=rfl
theorem qiH:wR (.tup xs) .non=.ok (.bl true)[8]:=rfl
theorem qiI:wR j[6] .non=.ok (.bl true)[8]:=rfl
end
def x9(o:Option (Option En))(i:Nat)(ρ:Rho):Rho:=match o with
 | some (!d[9])=>ρ.set i (!d[8])
 | _=>ρ
section
variable{i:Nat}{ρ:Rho}{a:SF}{d:D}
def qb4:jJ i a ρ=a (x9 ρ[i]? i ρ):=rfl
theorem qiJ:x9 (!(!d[9])) i ρ=ρ.set i (!d[8]):=rfl
theorem qiK:x9 (!(!d[8])) i ρ=ρ:=rfl
theorem qiL:x9 (!(!(.br d))) i ρ=ρ:=rfl
end
open PySem.Builtin PySem.Builtin.ObjectAttr
abbrev bmV:List aa:=[.type "ValueError",.type "Exception",.type "BaseException",.type "object"]
def qb5:List aa->Bool
 | .ref _::r=>qb5 r
 | l=>l==bmV
section
variable{prog:af}{w:World}{A:ag}{E:aa->ab->Prop}{s:ab}{K:Frag}{x C:Addr}{vs:Array aa}{sl:Array (Option aa)}{cd:ClassData}{name:Str}{v:aa}
end
def qiM(K:Frag)(C:Addr):Bool:=match K.lookup C with
 | some #[.type "type",_,.cls k,z]=>match k.mro,z[2] with
  | .ref D::r,[_,_,_,_,!(.builtin m),_]=>D==C&&m=="ValueError.__new__"&&not k.hasDel&&tailIn K bmV r
  | _,_=>false
 | _=>false
section
variable{prog:af}{w:World}{A:ag}{E:aa->ab->Prop}{s:ab}{K:Frag}{C f:Addr}{rest:List aa}{R:Result->ab->Prop}
variable{P:af}{mg:Str->Option aa}{base:Heap}
variable{X:Cx}{F0 H0:Hp}
end
def CX1(P:af)(w:World)(mg:Str->Option aa):CXT:=λouter H s E e s'=>∃(x:Xc) (H':Hp) (a:Addr),e=.ref a/\Fl P w mg outer H s H' s' a x (some .none)/\E (.str x.cls 0) (atc x) H'
def spX(κ:Kx)(dn:Den)(n:Nat):Sp:=λvs H Q E=>vs[1]=n/\∃ F ws,Le F H/\Args κ F H vs ws /\
 KE (λx=>∀ F' H',Gr F H F' H'->E (.str x.cls 0) (atc x) H') (dn ws) λw=>∀ v F' H',Gr F H F' H'->Vok κ H F' H' v w->Q v H'
section
variable{P:af}{w:World}{K:Frag}{mg:Str->Option aa}{base:Heap}
def calm(G:FnOk P w K mg base (CX1 P w mg) k f fd ps (spX κ dn n)):FnOk P w K mg base CX0 k f fd ps (spD κ dn n):=by
 have B:∀ vs H Q,spD κ dn n vs H Q E0->spX κ dn n vs H Q E0:=λvs H Q q=>by
  let⟨l,F,ws,a,b,c⟩:=q;show#[l,F,ws,a,b,KE.impX c (λ_ z=>z) λ_ z=>z.elim]
 show#[λvs H Q E q=>G.len vs H Q E0 (B vs H Q q),λA outer s H args us vs Q E hr e0 hb hv hs=>?_]
 show codeAny_mono (G.run A outer s H args us vs Q E0 hr e0 hb hv (B vs H Q hs)) λr s' z=>?_
 cases r with
 | error e=>let⟨_,_,_,_,_,z⟩:=z;show z.elim
 | ok fl=>cases fl<;>show z
variable{X:Cx}{F0 H0:Hp}{pos p pos2:Pos}{e:Expr}{es:List Expr}{fa:List EF}{x:Str}{k n:Nat}{f:Addr}{fd:FuncData}{ps:List Str}{dn:Den}
def nrm(x:Xc):Xc:=#[x.cls,match atc x with
 | none=>[]
 | some 0=>[("at",.non)]
 | some (n+1)=>[("at",.int n)]]
end
section
variable{M:Model}{A:ag}{E:aa->ab->Prop}{s:ab}{K:Frag}{C S e:Addr}{oe:Obj}
variable{X:Cx}{pins pn:List (Addr×Obj)}{σ:St}{H:Hp}{D:Ends}{fl:Flow}
variable{F0 H0:Hp}{cN n:Str}{i:Nat}{ex:Expr}{cs:List Str}{hd:Xc->R En}{cp rp hp:Pos}
variable{np apos tp bp vp ip:Pos}{j1 j2:Nat}
end
section
variable{X:Cx}{pins:List (Addr×Obj)}{σ:St}{H:Hp}{s:ab}{h':Heap}{fp:List Addr}{t':Nat}
def QZ(O:∀ b∈fp,FpOk X pins H b)(B:H b=!u):b∉fp:=λz=>by rw[(O b z).1]at B;cases B
def YY(I:"I" H s)(B:∀ b∈fp,FpOk X pins H b)(k:∀ b o,b∉fp->s.heap.get? b=!o->h'.get? b=!o):"I" H {s with heap:=h',toks:=t'}:=by
 show I.call #[λb o e _ _ nc=>k b o nc e,λb o e _ _ nc=>#[o.slots,k b o nc e],λ_ _ _ n _=>n,λb o e nc=>#[o,k b o nc e],λ_ _ z=>z,λ_ _ _ z=>z,λb ps z=>#[#[],by rw[z];simp]] (λb u hb=>?_) I.bare
  λb hb=>#[(B b hb).2.2.2.1,(B b hb).2.1,(B b hb).2.2.2.2.1,(B b hb).2.2.2.2.2]
 show(I.hok b u hb).stay (λd v hd q=>k d v ?_ q) (λ_ z=>z) λ_ _ z=>z
 rcases hd with rfl|z
 .show QZ B hb
 show QZ B z
def YZ{xs:List V}(I:"I" H s)(B:∀ b∈fp,FpOk X pins H b)(k:∀ b o,b∉fp->s.heap.get? b=!o->h'.get? b=!o)(O:s[0]<=T)(tup:IsTup h' T its.toArray)(r:Vals xs its)(hz:xs[1]<=sizeLine) :
  "I" (upd H T (.tup xs)) {s with heap:=h',toks:=t'}:=by
 have ne:∀ b o,s.heap.get? b=!o->b≠T:=λb o e z=>absurd (tB (gN e) (z▸O)) (pF _)
 have up:∀ b u,H b=!u->upd H T (.tup xs) b=!u:=λb u e=>by rw[qu (jN e (I.hok.fresh O))];show e
 show I.call #[λb o e _ _ nc=>k b o nc e,λb o e _ _ nc=>#[o.slots,k b o nc e],λb o e n _=>?_,λb o e nc=>#[o,k b o nc e],λb _ z=>up b _ z,λb _ _ z=>up b _ z,λb ps z=>#[#[],by rw[up b _ z];simp]] (λb u hb=>?_) I.bare
  λb hb=>#[(B b hb).2.2.2.1,(B b hb).2.1,(B b hb).2.2.2.2.1,(B b hb).2.2.2.2.2]
 .rw[qu (ne b o e)];show n
 by_cases z:b=T
 .subst z;rw[qS]at hb;cases hb;show#[hz,its,r,tup]
 rw[qu z]at hb;show(I.hok b u hb).stay (λd v hd q=>k d v ?_ q) (λc y=>up c _ y) λc ys y=>up c _ y
 rcases hd with rfl|y
 .show QZ B hb
 show QZ B y
end
def Ite(K:Frag)(a:Addr):It :=
 #[λi H=>∃ xs x,SqL K H a xs/\xs[i]?=!x,λi H x H'=>∃ p y,H p=none/\x=.ref p/\H'=upd H p (.tup [.int i,y])/\∀ xs,SqL K H a xs->xs[i]?=!y,λi H=>∃ xs,SqL K H a xs/\xs[1]<=i]
def K0{K:Frag}{k:Nat}(a it e:Addr)(ne:e≠it) :
  Turn P w K (.Tuple es k tp) (Ite K a) [e,it] e (λi h=>(∃ B,IsEnum h e it i B)/\h.IsListIter it a i)where
 mem:=by simp
 obj:=λi h #[#[B,he],hi] b hb=>by
  rcases gw.mp hb with rfl|hb
  .simp_all
  obtain rfl:b=it:=by simpa using hb
  let⟨o,e,c,d⟩:=hi
  simp_all
 keep:=λi h h' #[#[B,he],hi] kk=>#[#[B,kk e "s" _ he],hi.at λo q=>kk it "s" o q]
 item:=by
  intro X hP hw hK hc i pins s σ H E I hf ⟨⟨B,he⟩,hi⟩ hg;subst hP hw hK;let⟨xs,x,hq,hx⟩:=hg;let⟨its,rv,p,hz⟩:=I.list hq;let⟨u,hu,ru⟩:=rv.get hx;show wpAny_pyNext_enum_item he hi p.isList hu[""] ne λh1 ho Y hT hsz hk=>#[_,rfl,?_]
  show wpAny_letOwnedTupleGo_enum (s:={s with heap:=h1,toks:=s.toks+1}) ho λh2 Z sb=>?_
  have O:s[0]≠e:=pK (gN he);have T2:h2.get? s[0]=some {cls:=.type "tuple",data:=.seq (List.toArray [.int i s.toks,u])}:=(sb.2 _ O).trans hT;show#[.ref s[0],upd H s[0] (.tup [.int i,x]),YZ (s:=s) (t':=s.toks+1) (its:=[.int i s.toks,u]) I hf (λb o nb ho=>?_) (gC _) #[_,T2,rfl,_,rfl] (.cons #[_,rfl] (.cons ru .nil)) (by simp[pC]),rfl,
   #[_,x,I.hok.fresh (gC _),rfl,rfl,λys hy=>by rw[I.list_inj hy hq];show hx],#[#[u,by simpa using Z],Y.at λo q=>(sb.2 it (tu ne)).trans q],λb hb=>?_]
  .have U:b≠e:=λz=>nb (by simp[z])
   have nb2:b≠it:=λz=>nb (by simp[z])
   show(sb.2 b U).trans (hk b o U nb2 ho)
  rw[qu]
  .show(hf b hb).1
  rcases gw.mp hb with rfl|hb
  .show tu O
  obtain rfl:b=it:=by simpa using hb
  let⟨o,q,_⟩:=hi;show t8 (gN q)
 done:=by
  intro X hP hw hK hc i pins s σ H E I hf ⟨⟨B,he⟩,hi⟩ hg;subst hP hw hK;let⟨xs,hq,hx⟩:=hg;let⟨its,rv,p,hz⟩:=I.list hq;have hl:=rv[1];show wpAny_pyNext_enum_end (I.ok.hd hc) he hi p.isList (by simp;lia) λh1 eb=>#[rfl,YY (t':=s.toks) I hf λb o nb ho=>eb b o (λz=>nb (by simp[z])) ho]
 self:=λ_ _ _ _ _ #[#[B,he],_] h=>m9 he h
def numd:Nat->List D->List D
 | _,[]=>[]
 | n,d::r=>.tup [.int n,d]::numd (n+1) r
theorem ZS:∀ ds n i (x:D),(numd n ds)[i]?=!x->∃ d,ds[i]?=!d/\x=.tup [.int (n+i:Nat),d]
 | [],_,_,_,h=>by simp[numd]at h
 | d::r,n,0,x,h=>by simp[numd]at h;show#[d,rfl,by rw[<- h];rfl]
 | d::r,n,i+1,x,h=>by
  let⟨y,e1,e2⟩:=ZS r (n+1) i x (by simpa[numd]using h)
  show#[y,by simpa using e1,by rw[e2];lia]
def K1:∀(ds:List D) (n:Nat),(numd n ds)[1]=ds[1]:=λr=>r.rec
 (λ_=>rfl)
 λd r IH n=>by simp[numd,IH]
def ZT{κ:Kx}(B:∀ F H,Le F1 F->Le F H->Le G H->SqL κ.K H a vs)(rs:Reps κ F1 vs ds):Walk κ (Ite κ.K a) F1 G (numd 0 ds)where
 go:=λi x F H ed l1 l lg=>by
  let⟨d,e1,rfl⟩:=ZS ds 0 i x ed;let⟨v,ev,rv⟩:=Reps.get rs e1;have q:=B F H l1 l lg;show#[#[vs,v,q,ev],λy H' z=>?_]
  let⟨p,y,hp,rfl,rfl,w⟩:=z;have:=w vs q;rw[ev]at this;cases this;show#[_,Gr.newF l hp,p,[.int i,v],rfl,.inl (.inl qS),(#[_,_,rfl,by rw[pL];rfl,_,_,rfl,Rep.le (λb o z=>by rw[qu (jN z (Le.none l hp))];show z) d (Rep.le l1 d rv),rfl])]
 stop:=λi F H hi l1 l lg=>#[vs,B F H l1 l lg,by rw[Reps.length rs];rw[K1]at hi;show hi]
def zo(i:Nat):IF:=λρ=>match ρ[i]? with
 | some (!(.lst ds)[8])=>.ok (numd 0 ds)
 | some (!(.br (.lst ds)))=>.ok (numd 0 ds)
 | _=>.stuck
def xa(i){X:Cx}{k:Nat}(z:X.mg "enumerate"=none)(B:(Nm X i x)["t"])(O:(Gl X "enumerate")["r"])(U:(sE [.Name x pos] X.env=[(false,eval (.Name x pos) X.env)])["r"]) :
  SI X F0 H0 (.Tuple es k tp) (.Call (.Name "enumerate" np) [.Name x pos] [] cp) (zo i):=by
 show#[λσ H R=>∃ a,σ[i]?=!(!(.ref a))/\(∃ xs,SqL X.K H a xs)/\R (Ite X.K a) H,λpins s σ H R I #[a,hσ,#[xs,hq],hR]=>?_,λσ F H ρ R S h=>?_]
 .show Call_ (zL I O z boot_enumerate (tF ?_ U rfl));show hZ (thn (pvN B pins s σ H (λv' H'=>v'=.ref a/\H'=H) I #[_,hσ,rfl,rfl]) λu s1 #[v1,H1,I1,r1,e1,e2]=>?_)
  subst e1 e2;obtain rfl:u=Value.ref a:=r1;show tM ?_;let⟨its,rv,p,hz⟩:=I1.list hq;show call_enumerate_list p.isList λh' he hi hsz kp=>?_
  show m9 (s:={s1 with heap:=h'}) he ?_;show#[_,_,_,_,H1,rfl,I1.kept (t':=s1.toks) kp,K0 a s1[0] (s1[0]+1) (pK (dh _)),#[#[_,he],hi],λb hb=>?_,hR]
  have lb:s1[0]<=b:=by
   rcases gw.mp hb with rfl|hb
   .simp
   simp_all
  show I1.fpOk lb (I1.hok.fresh lb)
 unfold zo at h;cases ew:ρ[i]? with
 | none=>rw[ew]at h;show h.elim
 | some w =>
  rw[ew]at h;cases w with
  | none=>show h.elim
  | some w =>
   let⟨v,e1,q⟩:=S.val i w ew;cases w with
   | ow d=>show h.elim
   | lk d=>show h.elim
   | od d=>show h.elim
   | fz d =>
    cases d<;>first|show h.elim|skip
    let⟨a,vs,rfl,hq,rs⟩:=q;show#[a,e1,#[vs,SqL.le S.s hq],h F H _ (Gr.refl S.s) (ZT (κ:=kx X) (λF' H' l1 l _=>SqL.le l (SqL.le l1 hq)) rs)]
   | br d =>
    let⟨a,o,rfl,eh,ro⟩:=q;cases d<;>first|show h.elim|skip
    cases o<;>first|show ro.elim|skip
    show#[a,e1,#[_,SqL.of (S.gr.h _ _ eh)],h F H _ (Gr.refl S.s) (ZT (κ:=kx X) (λF' H' _ _ lg=>SqL.le lg (SqL.of eh)) ro)]
section
variable{prog:af}{w:World}{A:ag}{E:aa->ab->Prop}{s:ab}
def ZU{i:Nat}{Q:aa->ab->Prop}(z:s.heap.IsTupleIter ia t i)(B:s.heap.IsTuple t vs)(O:vs[i]?=!x)
  (k:∀ h',h'.IsTupleIter ia t (i+1)->Heap.SameBut ia s.heap h'->Q x {s with heap:=h'}):wpAny (model prog w) A (Builtin.SmallTypes.nextOf (.ref ia)) Q E s:=by
 let⟨o,g1,g2,g3⟩:=id z;let⟨ot,g4,_,nt,g5⟩:=B
 delta Builtin.SmallTypes.nextOf;show gg (fL z.typeIs pi (pf pi z.typeIs dL ?_ (dE _)))
 show wpAny _ _ (field (.ref ia) 0 >>= _) _ _ s;show gg (fZ g1 g3 (x:=.ref t) rfl ?_);show gg (fZ g1 g3 rfl ?_);show wpAny _ _ (seqItems? (.ref t) >>= _) _ _ s;show gg (fH g4 g5 ?_);simp[fK,O];show gg (b8 g1 g3 "s" (gy #[x,rfl,gy (k _ #[_,fj _ g1 (Obj.isFreed_of_fields (dM g3 _)),(Obj.cls_mapFields ..).trans g2,?_] (px ..))]))
 rw[dM g3];simp[rawInt]
def K2{i:Nat}{Q:aa->ab->Prop}(B:A.handled=none)(z:s.heap.IsTupleIter ia t i)(O:s.heap.IsTuple t vs)(U:vs[i]?=none)
  (k:∀ h' e,Heap.ExtBut ia s.heap h'->(∃ o,h'.get? e=!o/\o.cls=.type "StopIteration")->E (.ref e) {s with heap:=h'}):wpAny (model prog w) A (Builtin.SmallTypes.nextOf (.ref ia)) Q E s:=by
 let⟨o,g1,g2,g3⟩:=id z;let⟨ot,g4,_,nt,g5⟩:=O
 delta Builtin.SmallTypes.nextOf;show gg (fL z.typeIs pi (pf pi z.typeIs dL ?_ (dE _)))
 show wpAny _ _ (field (.ref ia) 0 >>= _) _ _ s;show gg (fZ g1 g3 (x:=.ref t) rfl ?_);show gg (fZ g1 g3 rfl ?_);show wpAny _ _ (seqItems? (.ref t) >>= _) _ _ s;show gg (fH g4 g5 ?_);simp[fK,U];show gg (pU (gg (b8 g1 g3 "s" ?_)))
 show wpAny _ _ (newExc (.type "StopIteration") [] >>= _) _ _ _;show gg ?_;show gg (f8 (gg (wpAny_of_eq (a:=Value.none) (by first|rfl|(rfl)) (f8 ?_ (by size_fits)))) (by size_fits))
 show gg (wpAny_handled ?_);first|rw[show A.in1.handled=none from B]|rw[B]
 show gg (gy (wpAny_throw (k _ _ (((px ..).extBut.push _).push _) #[_,gM _ rfl,rfl])))
structure ZA(zp tI tO ja jb t1 t2:Addr):Prop where
 nd:[zp,tI,tO,ja,jb].Nodup
 n1:t1∉[zp,tI,tO,ja,jb]
 n2:t2∉[zp,tI,tO,ja,jb]
def qb6{B O:Nat}{Q:Option aa->ab->Prop}(D:ZA zp tI tO ja jb t1 t2)(z:IsZip s.heap zp tI tO .none)(U:IsPair s.heap tI (.ref ja) (.ref jb))(Y:IsPair s.heap tO a b)
  (Z:s.heap.IsTupleIter ja t1 B)(g2:s.heap.IsTupleIter jb t2 O)(q1:s.heap.IsTuple t1 xs)(q2:s.heap.IsTuple t2 ys)(ex:xs[B]?=!x)(ey:ys[O]?=!y)
  (k:∀ h',IsZip h' zp tI tO (rawInt s[0])->IsPair h' tO x y->h'.IsTupleIter ja t1 (B+1)->h'.IsTupleIter jb t2 (O+1)->IsPair h' s[0] x y ->
   (∀ c o,c≠zp->c≠tO->c≠ja->c≠jb->s.heap.get? c=!o->h'.get? c=!o)->Q (!(.ref s[0])) {s with heap:=h'}):wpAny (model prog w) A (pyNext (.ref zp)) Q E s:=by
 let⟨nd,m1,m2⟩:=D;simp[tL,gw,fV,bw,not_or,bR,and_true,mf]at nd m1 m2;let⟨⟨a1,a2,a3,a4⟩,⟨b1,b2,b3⟩,⟨c1,c2⟩,d1⟩:=nd;let⟨e1,e2,e3,e4,e5⟩:=m1;let⟨f1,f2,f3,f4,f5⟩:=m2;have tz:s.TypeIs (.ref zp) "zip":=#[_,z,rfl];show gg (mn (fL (name:=Str.ofString "__next__") tz cY (pf cY tz PySem.F.entry_zip_next ?_ (PySem.F.args_zip_next_1 _))));show wpAny _ _ (field (.ref zp) 2 >>= _) _ _ _;show gg (fZ z rfl (x:=.bool false) rfl ?_);show gg (fZ z rfl (x:=.ref tI) rfl (gg (fH U rfl ?_)));show gg ?_;unfold Builtin.SmallTypes.ownedTupleIsFree;show gg (fZ z rfl (x:=.none) rfl (gy ?_));show gg (pU (gg (fZ z rfl (x:=.ref tO) rfl (gg (c6 z "s" λh1 z1 s1=>?_)))))
 show gg ?_;simp only[bm,List.zipIdx_nil,bE,List.forIn_nil];show gg (gg (mr ?_));show gg (ZU (Z.extBut s1.extBut (tu a3)) (q1.extBut s1.extBut e1) ex λh2 w2 s2=>gy ?_)
 have o2:IsPair h2 tO a b:=s2.extBut _ _ c1 (s1.extBut _ _ (tu a2) Y);show gg (fH o2 rfl (gg (bq o2 λh3 o3 s3=>?_)))
 show gg (pR (gy (gg (gg (mr ?_)))));show gg (ZU (((g2.extBut s1.extBut (tu a4)).extBut s2.extBut (tu d1)).extBut s3.extBut (tu c2)) (((q2.extBut s1.extBut f1).extBut s2.extBut f4).extBut s3.extBut f3) ey λh4 w4 s4=>gy ?_)
 have o4:IsPair h4 tO x b:=s4.extBut _ _ c2 o3;show gg (fH o4 rfl (gg (bq o4 λh5 o5 s5=>?_)))
 replace o5:IsPair h5 tO x y:=o5
 show gg (pR (gy (gy (gg (fH o5 rfl (gg (wpAny_newTuple ?_)))))));have sz:h5.objs.size=s[0]:=by rw[s5.1,s4.1,s3.1,s2.1,s1.1]
 have z5:IsZip h5 zp tI tO .ellipsis:=s5.extBut _ _ a2 (s4.extBut _ _ a4 (s3.extBut _ _ a2 (s2.extBut _ _ a3 z1)));have w5:h5.IsTupleIter ja t1 (B+1):=((w2.extBut s3.extBut (tu c1)).extBut s4.extBut d1).extBut s5.extBut (tu c1);have v5:h5.IsTupleIter jb t2 (O+1):=w4.extBut s5.extBut (tu c2);have lz:zp<h5.objs.size:=gN z5;show wpAny _ _ (Builtin.SmallTypes.ownedTupleHandOut (.ref zp) (.ref h5.objs.size) >>= _) _ _ _;show gg ?_;unfold Builtin.SmallTypes.ownedTupleHandOut;have z6:IsZip (h5.push {cls:=.type "tuple",data:=.seq (List.toArray [x,y])}) zp tI tO .ellipsis:=gu _ z5;show gg (c6 z6 "s" λh7 z7 s7=>?_)
 replace z7:IsZip h7 zp tI tO (rawInt h5.objs.size):=z7
 show c6 z7 "s" λh8 z8 s8=>?_
 replace z8:IsZip h8 zp tI tO (rawInt h5.objs.size):=z8
 have up:∀ c o,c≠zp->h5.get? c=!o->h8.get? c=!o:=λc o n e=>s8.extBut _ _ n (s7.extBut _ _ n (gu _ e))
 have p8:IsPair h8 h5.objs.size x y:=s8.extBut _ _ (pK lz) (s7.extBut _ _ (pK lz) (gM _ rfl));rw[sz]at z8 p8;show gy #[_,rfl,gy ?_];show Q (!(.ref h5.objs.size)) _;rw[sz];show k h8 z8 (up _ _ (tu a2) o5) (w5.at λo e=>up _ o (tu a3) e) (v5.at λo e=>up _ o (tu a4) e) p8 λc o n1 n2 n3 n4 e=>up c o n1 ?_
 show s5.extBut _ _ n2 (s4.extBut _ _ n4 (s3.extBut _ _ n2 (s2.extBut _ _ n3 (s1.extBut _ _ n1 e))))
def qb7{B O:Nat}{Q:Option aa->ab->Prop}(U:A.handled=none)(D:ZA zp tI tO ja jb t1 t2)(z:IsZip s.heap zp tI tO .none)(gI:IsPair s.heap tI (.ref ja) (.ref jb))(gO:IsPair s.heap tO a b)
  (Y:s.heap.IsTupleIter ja t1 B)(g2:s.heap.IsTupleIter jb t2 O)(Z:s.heap.IsTuple t1 xs)(q2:s.heap.IsTuple t2 ys)(en:xs[B]?=none\/ys[O]?=none)
  (k:∀ h',(∀ c o,c≠zp->c≠tO->c≠ja->c≠jb->s.heap.get? c=!o->h'.get? c=!o)->Q none {s with heap:=h'}):wpAny (model prog w) A (pyNext (.ref zp)) Q E s:=by
 let⟨nd,m1,m2⟩:=D;simp[tL,gw,fV,bw,not_or,bR,and_true,mf]at nd m1 m2;let⟨⟨a1,a2,a3,a4⟩,⟨b1,b2,b3⟩,⟨c1,c2⟩,d1⟩:=nd;let⟨e1,e2,e3,e4,e5⟩:=m1;let⟨f1,f2,f3,f4,f5⟩:=m2;have tz:s.TypeIs (.ref zp) "zip":=#[_,z,rfl];have fin:∀ h' e,(∀ c o,c≠zp->c≠tO->c≠ja->c≠jb->s.heap.get? c=!o->h'.get? c=!o)->(∃ o,h'.get? e=!o/\o.cls=.type "StopIteration") ->
   wpAny (model prog w) A (do if <- isInstance (.ref e) (.type "StopIteration")then pure none else throw (.ref e)) Q E {s with heap:=h'}:=λh' e kp #[o,ho,hc] =>
  gg (wpAny_isInstance (T:="StopIteration") (b:=true) #[o,ho,hc] isSubtype_stop (gy (k h' kp)))
 show gg (mn (fL (name:=Str.ofString "__next__") tz cY (pf cY tz PySem.F.entry_zip_next ?_ (PySem.F.args_zip_next_1 _))));show wpAny _ _ (field (.ref zp) 2 >>= _) _ _ _;show gg (fZ z rfl (x:=.bool false) rfl ?_);show gg (fZ z rfl (x:=.ref tI) rfl (gg (fH gI rfl ?_)));show gg ?_;unfold Builtin.SmallTypes.ownedTupleIsFree;show gg (fZ z rfl (x:=.none) rfl (gy ?_));show gg (pU (gg (fZ z rfl (x:=.ref tO) rfl (gg (c6 z "s" λh1 z1 s1=>?_)))))
 replace z1:IsZip h1 zp tI tO .ellipsis:=z1
 show gg ?_;simp only[bm,List.zipIdx_nil,bE,List.forIn_nil];show gg (gg (mr ?_));show wpAny _ _ (Builtin.SmallTypes.nextOf (.ref ja) >>= _) _ _ _;cases ex:xs[B]? with
 | none =>
  show gg (K2 U (Y.extBut s1.extBut (tu a3)) (Z.extBut s1.extBut e1) ex λh2 er s2 #[oe,w1,w2]=>?_)
  have z2:IsZip h2 zp tI tO .ellipsis:=s2 _ _ a3 z1;have nz:er≠zp:=λq=>by subst q;rw[z2]at w1;cases w1;simp at w2
  show c6 z2 "s" λh3 _ s3=>fin h3 er (λc o n1 _ n3 _ q=>s3.extBut _ _ n1 (s2 _ _ n3 (s1.extBut _ _ n1 q))) #[oe,s3.extBut _ _ nz w1,w2]
 | some x =>
  have ey:ys[O]?=none:=en.resolve_left (by rw[ex];show λq=>nomatch q)
  show gg (ZU (Y.extBut s1.extBut (tu a3)) (Z.extBut s1.extBut e1) ex λh2 w2 s2=>gy ?_)
  have o2:IsPair h2 tO a b:=s2.extBut _ _ c1 (s1.extBut _ _ (tu a2) gO);show gg (fH o2 rfl (gg (bq o2 λh3 o3 s3=>gg (pR (gy (gg (gg (mr ?_))))))))
  show wpAny _ _ (Builtin.SmallTypes.nextOf (.ref jb) >>= _) _ _ _;show gg (K2 U (((g2.extBut s1.extBut (tu a4)).extBut s2.extBut (tu d1)).extBut s3.extBut (tu c2)) (((q2.extBut s1.extBut f1).extBut s2.extBut f4).extBut s3.extBut f3) ey λh4 er s4 #[oe,w1,w2]=>?_)
  have z4:IsZip h4 zp tI tO .ellipsis:=s4 _ _ a4 (s3.extBut _ _ a2 (s2.extBut _ _ a3 z1));have nz:er≠zp:=λq=>by subst q;rw[z4]at w1;cases w1;simp at w2
  show c6 z4 "s" λh5 _ s5=>fin h5 er (λc o n1 n2 n3 n4 q=>s5.extBut _ _ n1 (s4 _ _ n4 (s3.extBut _ _ n2 (s2.extBut _ _ n3 (s1.extBut _ _ n1 q))))) #[oe,s5.extBut _ _ nz w1,w2]
def qb8(t1 t2)(xs ys):Meets (Builtin.«zip.__new__» #[[.type "zip",.ref t1,.ref t2],[]]) (λ_ R s=>s.heap.IsTuple t1 xs/\s.heap.IsTuple t2 ys /\
   ∀ h',IsZip h' (s[0]+4) (s[0]+2) (s[0]+3) .none->IsPair h' (s[0]+2) (.ref s[0]) (.ref (s[0]+1))->IsPair h' (s[0]+3) .none .none ->
    h'.IsTupleIter s[0] t1 0->h'.IsTupleIter (s[0]+1) t2 0->(∀ c o,s.heap.get? c=!o->h'.get? c=!o)->R (.ok (.ret (.ref (s[0]+4)))) {s with heap:=h'}) :=
 .of_wp λprog w A R s h=>by
  let⟨hp,g,d,tk,os⟩:=s;let⟨u1,u2,k⟩:=h;have z:=sub_zip;have U1:Heap.IsTuple (Shared.heap #[hp,g,d,tk,os]) t1 xs:=u1;have U2:Heap.IsTuple (Shared.heap #[hp.push {cls:=.type "tuple_iterator",data:=.fields (List.toArray [.ref t1,.int 0 0])},g,d,tk,os]) t2 ys:=Heap.IsTuple.push u2 _
  wp_walk using bH U1,bH U2
  show#[_,rfl,?_];have z1:(hp.push {cls:=.type "tuple_iterator",data:=.fields (List.toArray [.ref t1,.int 0 0])}).objs.size=hp.objs.size+1:=cP ..;generalize e1:hp.push {cls:=.type "tuple_iterator",data:=.fields (List.toArray [.ref t1,.int 0 0])}=H1 at *;have z2:(H1.push {cls:=.type "tuple_iterator",data:=.fields (List.toArray [.ref t2,.int 0 0])}).objs.size=hp.objs.size+2:=by rw[cP,z1]
  generalize e2:H1.push {cls:=.type "tuple_iterator",data:=.fields (List.toArray [.ref t2,.int 0 0])}=H2 at *;rw[z1];have q2:∀ c o,hp.get? c=!o->H2.get? c=!o:=λc o q=>by rw[<- e2,<- e1];show gu _ (gu _ q)
  have ja:H2.get? hp.objs.size=some {cls:=.type "tuple_iterator",data:=.fields (List.toArray [.ref t1,.int 0 0])}:=by rw[<- e2,<- e1];show gu _ (gM _ rfl)
  have jb:H2.get? (hp.objs.size+1)=some {cls:=.type "tuple_iterator",data:=.fields (List.toArray [.ref t2,.int 0 0])}:=by rw[<- e2,<- z1];show gM _ rfl
  generalize e3:H2.push {cls:=.type "tuple",data:=.seq (List.toArray [.ref hp.objs.size,.ref (hp.objs.size+1)])}=H3;have z3:H3.objs.size=hp.objs.size+3:=by rw[<- e3,cP,z2]
  generalize e4:H3.push {cls:=.type "tuple",data:=.seq (List.toArray [.none,.none])}=H4;have z4:H4.objs.size=hp.objs.size+4:=by rw[<- e4,cP,z3]
  have p3:∀ c o,H2.get? c=!o->H3.get? c=!o:=λc o q=>by rw[<- e3];show gu _ q
  have p4:∀ c o,H3.get? c=!o->H4.get? c=!o:=λc o q=>by rw[<- e4];show gu _ q
  have w3:H3.get? (hp.objs.size+2)=some {cls:=.type "tuple",data:=.seq (List.toArray [.ref hp.objs.size,.ref (hp.objs.size+1)])}:=by rw[<- e3,<- z2];show gM _ rfl
  have w4:H4.get? (hp.objs.size+3)=some {cls:=.type "tuple",data:=.seq (List.toArray [.none,.none])}:=by rw[<- e4,<- z3];show gM _ rfl
  have fin:R (.ok (.ret (.ref H4.objs.size))) #[H4.push {cls:=.type "zip",data:=.fields (List.toArray [.none,.bool false,.bool false,.ref H2.objs.size,.ref H3.objs.size])},g,d,tk,os]:=by
   rw[z2,z3,z4];have w5:(H4.push {cls:=.type "zip",data:=.fields (List.toArray [.none,.bool false,.bool false,.ref (hp.objs.size+2),.ref (hp.objs.size+3)])}).get? (hp.objs.size+4)=some {cls:=.type "zip",data:=.fields (List.toArray [.none,.bool false,.bool false,.ref (hp.objs.size+2),.ref (hp.objs.size+3)])}:=by
    rw[<- z4];show gM _ rfl
   show k _ w5 (gu _ (p4 _ _ w3)) (gu _ w4) #[_,gu _ (p4 _ _ (p3 _ _ ja)),rfl,rfl] #[_,gu _ (p4 _ _ (p3 _ _ jb)),rfl,rfl] λc o q=>gu _ (p4 _ _ (p3 _ _ (q2 c o q)))
  rw[<- e4,<- e3]at fin;show fin
def qb9{xs ys:Array aa}{Q:aa->ab->Prop}(z:s.heap.IsTuple t1 xs)(B:s.heap.IsTuple t2 ys)
  (k:∀ h',IsZip h' (s[0]+4) (s[0]+2) (s[0]+3) .none->IsPair h' (s[0]+2) (.ref s[0]) (.ref (s[0]+1))->IsPair h' (s[0]+3) .none .none ->
    h'.IsTupleIter s[0] t1 0->h'.IsTupleIter (s[0]+1) t2 0->(∀ c o,s.heap.get? c=!o->h'.get? c=!o)->Q (.ref (s[0]+4)) {s with heap:=h'}) :
  wpAny (model prog w) A (call (.type "zip") [.ref t1,.ref t2]) Q E s :=
 callType_new PySem.F.called_zip "d" (PySem.F.typeCall_zip_2 _ _) (PySem.F.newCall_zip_2 _ _) (λobj=>PySem.F.args_object_init_3 obj _ _) PySem.F.entry_zip_new (qb8 t1 t2 xs ys)
  #[z,B,λh' b1 b2 b3 b4 b5 b6=>#[#[_,b1,rfl],k h' b1 b2 b3 b4 b5 b6]]
end
def Itz(K:Frag)(a b:Addr):It :=
 #[λi H=>∃ xs x ys y,SqT K H a xs/\xs[i]?=!x/\SqT K H b ys/\ys[i]?=!y,λi H v H'=>∃ p x y,H p=none/\v=.ref p/\H'=upd H p (.tup [x,y])/\(∀ xs,SqT K H a xs->xs[i]?=!x)/\∀ ys,SqT K H b ys->ys[i]?=!y,
  λi H=>∃ xs ys,SqT K H a xs/\SqT K H b ys/\(xs[1]<=i\/ys[1]<=i)]
def xf{h:Heap}(p:IsTup h a vs):h.IsTuple a vs:=p
def qba{K:Frag}{k:Nat}(a b z B U Y Z:Addr)(D:ZA z B U Y Z a b) :
  Turn P w K (.Tuple es k tp) (Itz K a b) [z,B,U,Y,Z] z (λi h=>IsZip h z B U .none/\IsPair h B (.ref Y) (.ref Z)/\(∃ u v,IsPair h U u v)/\h.IsTupleIter Y a i/\h.IsTupleIter Z b i)where
 mem:=by simp
 obj:=λi h #[q1,q2,#[u,v,q3],#[o4,q4,_,d4],#[o5,q5,_,d5]] c hc=>by
  grind
 keep:=λi h h' #[q1,q2,#[u,v,q3],q4,q5] kk=>#[kk z "s" _ q1,kk B "s" _ q2,#[u,v,kk U "s" _ q3],q4.at λo q=>kk Y "s" o q,q5.at λo q=>kk Z "s" o q]
 item:=by
  intro X hP hw hK hc i pins s σ H E I hf ⟨q1,q2,⟨u,v,q3⟩,q4,q5⟩ ⟨xs,x,ys,y,sx,hx,sy,hy⟩;subst hP hw hK;let⟨its,rv,p,_⟩:=I.tuple sx;let⟨ux,hu,ru⟩:=rv.get hx;let⟨its',O,p',_⟩:=I.tuple sy;let⟨uy,hu',ru'⟩:=O.get hy;let⟨nd,m1,m2⟩:=id D;simp[tL,gw,fV,bw,not_or,bR,and_true,mf]at nd m1 m2;let⟨⟨a1,a2,a3,a4⟩,⟨b1,b2,b3⟩,⟨c1,c2⟩,d1⟩:=nd;show qb6 D q1 q2 q3 q4 q5 (xf p) (xf p') (x:=ux) (y:=uy) hu[""] hu'[""] λh1 g1 g2 g3 g4 g5 kp=>#[_,rfl,?_]
  show wpAny_letOwnedTupleGo_zip (s:={s with heap:=h1}) g1 λh2 gz sb=>?_
  have neZ:s[0]≠z:=pK (gN q1);have T2:h2.get? s[0]=some {cls:=.type "tuple",data:=.seq (List.toArray [ux,uy])}:=(sb.2 _ neZ).trans g5;show#[.ref s[0],upd H s[0] (.tup [x,y]),YZ (s:=s) (t':=s.toks) (its:=[ux,uy]) I hf (λc o nc ho=>?_) (gC _) #[_,T2,rfl,_,rfl] (.cons ru (.cons ru' .nil)) (by simp[pC]),rfl,
   #[_,x,y,I.hok.fresh (gC _),rfl,rfl,λzs hz=>by rw[I.tuple_inj hz sx];show hx,λzs hz=>by rw[I.tuple_inj hz sy];show hy],
   #[gz,(sb.2 B (tu a1)).trans (kp B _ (tu a1) b1 b2 b3 q2),#[ux,uy,(sb.2 U (tu a2)).trans g2],g3.at λo q=>(sb.2 Y (tu a3)).trans q,g4.at λo q=>(sb.2 Z (tu a4)).trans q],λc hc=>?_]
  .have n1:c≠z:=λq=>nc (by simp[q])
   show(sb.2 c n1).trans (kp c o n1 (λq=>nc (by simp[q])) (λq=>nc (by simp[q])) (λq=>nc (by simp[q])) ho)
  rw[qu]
  .show(hf c hc).1
  have lt:∀{c o},s.heap.get? c=!o->c≠s[0]:=λq=>t8 (gN q)
  simp[gw,fV,bw]at hc;rcases hc with rfl|rfl|rfl|rfl|rfl
  .show lt q1
  .show lt q2
  .show lt q3
  .let⟨o,q,_⟩:=q4;show lt q
  let⟨o,q,_⟩:=q5;show lt q
 done:=by
  intro X hP hw hK hc i pins s σ H E I hf ⟨q1,q2,⟨u,v,q3⟩,q4,q5⟩ ⟨xs,ys,sx,sy,hl⟩;subst hP hw hK;let⟨its,rv,p,_⟩:=I.tuple sx;let⟨its',O,p',_⟩:=I.tuple sy;have l1:=rv[1];have l2:=O[1];show qb7 (I.ok.hd hc) D q1 q2 q3 q4 q5 (xf p) (xf p') (by rcases hl with hl|hl;show .inl (by simp;lia);show .inr (by simp;lia)) λh1 kp=>#[rfl,YY (t':=s.toks) I hf λc o nc ho=>?_]
  show kp c o (λq=>nc (by simp[q])) (λq=>nc (by simp[q])) (λq=>nc (by simp[q])) (λq=>nc (by simp[q])) ho
 self:=λ_ _ _ _ _ #[q1,_] h=>wpAny_pyIter_zip q1 h
def zipd:List D->List D->List D
 | x::xs,y::ys=>.tup [x,y]::zipd xs ys
 | _,_=>[]
theorem K3:∀ xs ys (i:Nat) d,(zipd xs ys)[i]?=!d->∃ x y,xs[i]?=!x/\ys[i]?=!y/\d=.tup [x,y]
 | [],_,_,_,h=>by simp[zipd]at h
 | _::_,[],_,_,h=>by simp[zipd]at h
 | x::xs,y::ys,0,d,h=>by simp[zipd]at h;show#[x,y,rfl,rfl,h.symm]
 | x::xs,y::ys,i+1,d,h=>by
  let⟨u,v,e1,e2,e3⟩:=K3 xs ys i d (by simpa[zipd]using h)
  show#[u,v,by simpa using e1,by simpa using e2,e3]
theorem K4:∀ xs ys i,(zipd xs ys)[1]<=i->xs[1]<=i\/ys[1]<=i
 | [],_,_,_=>.inl "s"
 | _::_,[],_,_=>.inr "s"
 | x::xs,y::ys,0,h=>by simp[zipd]at h
 | x::xs,y::ys,i+1,h=>by
  have:=K4 xs ys i (by simpa[zipd]using h)
  simpa using this
def qbb{κ:Kx}(h1:SqT κ.K F1 a vs)(z:Reps κ F1 vs ds)(h2:SqT κ.K F1 b us)(B:Reps κ F1 us es):Walk κ (Itz κ.K a b) F1 G (zipd ds es)where
 go:=λi x F H ed l1 l lg=>by
  let⟨d,e,e1,e2,rfl⟩:=K3 ds es i x ed;let⟨v,ev,rv⟩:=Reps.get z e1;let⟨u,eu,ru⟩:=Reps.get B e2;have q1:=SqT.le l (SqT.le l1 h1);have q2:=SqT.le l (SqT.le l1 h2);show#[#[vs,v,us,u,q1,ev,q2,eu],λy H' zp=>?_]
  let⟨p,y1,y2,hp,rfl,rfl,w1,w2⟩:=zp;have z1:=w1 vs q1;rw[ev]at z1;cases z1;have z2:=w2 us q2;rw[eu]at z2;cases z2;have up:Le F (upd F p (.tup [v,u])):=λc o zp=>by rw[qu (jN zp (Le.none l hp))];show zp
  show#[_,Gr.newF l hp,p,[v,u],rfl,.inl (.inl qS),_,_,rfl,Rep.le up d (Rep.le l1 d rv),_,_,rfl,Rep.le up e (Rep.le l1 e ru),rfl]
 stop:=λi F H hi l1 l lg=>#[vs,us,SqT.le l (SqT.le l1 h1),SqT.le l (SqT.le l1 h2),by rw[Reps.length z,Reps.length B];show K4 ds es i hi]
def uE(i j:Nat):IF:=λρ=>match ρ[i]?,ρ[j]? with
 | some (!(.tup ds)[8]),!(!(.tup es)[8])=>.ok (zipd ds es)
 | _,_=>.stuck
def qbc(i j){X:Cx}{k:Nat}(hm:X.mg "zip"=none)(hN:(Nm X i x)["t"])(U:(X.N[j]?=!y)["r"])(Y:(Vis X.env.scope y)["t"])(Z:((y==("__debug__"))=false)["d"])
  (O:((y==("__classdict__"))=false)["d"])(hg:(Gl X "zip")["r"])(hs:(sE [.Name x pos,.Name y pos2] X.env=(false,eval (.Name x pos) X.env)::sE [.Name y pos2] X.env)["r"])(hs2:(sE [.Name y pos2] X.env=[(false,eval (.Name y pos2) X.env)])["r"])
  (hpl:((backTo cp (sE [.Name y pos2] X.env)).any (·.1)=false)["r"]):SI X F0 H0 (.Tuple es k tp) (.Call (.Name "zip" np) [.Name x pos,.Name y pos2] [] cp) (uE i j):=by
 show#[λσ H R=>∃ a b,σ[i]?=!(!(.ref a))/\σ[j]?=!(!(.ref b))/\(∃ xs,SqT X.K H a xs)/\(∃ xs,SqT X.K H b xs)/\R (Itz X.K a b) H,λpins s σ H R I #[a,b,hσ,hσ2,#[xs,hq],#[ys,B],hR]=>?_,λσ F H ρ R S h=>?_]
 .show Call_ (zL I hg hm boot_zip (tF ?_ hs hpl));show hZ (thn (pvN (pos:=pos) hN pins s σ H (λv' H'=>v'=.ref a/\H'=H) I #[_,hσ,rfl,rfl]) λu s1 #[v1,H1,I1,r1,e1,e2]=>?_)
  subst e1 e2;obtain rfl:u=Value.ref a:=r1;show hZ (thn (WF (pos:=pos2) U Y Z O pins s1 σ H1 (λv' H'=>v'=.ref b/\H'=H1) I1 #[_,hσ2,rfl,rfl]) λu s2 #[v2,H2,I2,r2,e1,e2]=>?_)
  subst e1 e2;obtain rfl:u=Value.ref b:=r2;show tM ?_;let⟨its,rv,p,hz⟩:=I2.tuple hq;let⟨its',rv',p',hz'⟩:=I2.tuple B;show qb9 (xf p) (xf p') λh' g1 g2 g3 g4 g5 kp=>?_
  show wpAny_pyIter_zip (s:={s2 with heap:=h'}) g1 ?_;have la:a<s2[0]:=by let⟨o,q,_⟩:=p;show gN q
  have lb:b<s2[0]:=by let⟨o,q,_⟩:=p';show gN q
  have z:∀{t m},t<m->∀ k,t≠m+k:=λh k=>t8 (tB h (Nat.le_add_right _ _))
  show#[_,_,_,_,H2,rfl,I2.kept (t':=s2.toks) kp,qba a b (s2[0]+4) (s2[0]+2) (s2[0]+3) s2[0] (s2[0]+1) #[by simp,?_,?_],#[g1,g2,#[_,_,g3],g4,g5],λc hc=>?_,hR]
  .simp[gw,fV,bw,not_or];show#[z la 4,z la 2,z la 3,z la 0,z la 1]
  .simp[gw,fV,bw,not_or];show#[z lb 4,z lb 2,z lb 3,z lb 0,z lb 1]
  have lc:s2[0]<=c:=by
   simp[gw,fV,bw]at hc;rcases hc with rfl|rfl|rfl|rfl|rfl<;>lia
  show I2.fpOk lc (I2.hok.fresh lc)
 unfold uE at h;cases e1:ρ[i]? with
 | none=>rw[e1]at h;show h.elim
 | some w1 =>
  cases e2:ρ[j]? with
  | none=>rw[e1,e2]at h;cases w1 with|none=>cases h|some w=>cases w<;>first|show h.elim|(rename_i d;cases d<;>show h.elim)
  | some w2 =>
   rw[e1,e2]at h;cases w1 with
   | none=>cases h
   | some w1 =>
    cases w1<;>first|show h.elim|skip
    rename_i d1;cases d1<;>first|show h.elim|skip
    cases w2 with
    | none=>cases h
    | some w2 =>
     cases w2<;>first|show h.elim|skip
     rename_i d2;cases d2<;>first|show h.elim|skip
     let⟨v,q1,a,vs,rfl,hq,rs⟩:=S.val i _ e1;let⟨v2,q2,b,vs2,rfl,B,rs2⟩:=S.val j _ e2;show#[a,b,q1,q2,#[vs,SqT.le S.s hq],#[vs2,SqT.le S.s B],h F H _ (Gr.refl S.s) (qbb (κ:=kx X) hq rs B rs2)]
def jm:List D->R En
 | [.int i]=>if i.natAbs.log2<1920 then .ok (.str (toString i:String))[8]else .stuck
 | _=>.stuck
section
variable{X:Cx}
def zy:zW X (.type "str") jm:=by
 intro pins s σ F H xs us ds Q I l rv qs w;cases qs with
 | nil=>show w.elim
 | cons q r =>
  rename_i d _ _;cases r with
  | cons q2 r2=>cases d<;>show w.elim
  | nil =>
   cases d<;>first|show w.elim|skip
   rename_i i;unfold jm at w;dsimp only at w;by_cases c:i.natAbs.log2<1920
   .rw[iP c]at w;cases RdV.int q;show GL pins s σ H _ us Q I rv #[i,rfl,c,je l (v:=.str _) w rfl]
   rw[iN c]at w;show w.elim
def K5:zW X (.type "tuple") yA:=kH To λF H xs ds Q l qx w=>by
 cases qx with
 | nil=>show w.elim
 | @cons x d xs ds q1 q2 =>
  cases q2 with
  | cons _ _=>cases d<;>show w.elim
  | nil =>
   cases d<;>first|show w.elim|skip
   .let⟨p,vs,rfl,hq,B,rs⟩:=RdV.tup l q1;show#[p,vs,rfl,.inr #[hq,w _ F H (Gr.refl l) #[p,vs,rfl,B,rs]]]
   let⟨p,vs,rfl,hq,rs⟩:=RdV.lst l q1;show#[p,vs,rfl,.inl #[hq,λq hn=>?_]]
   have up:Le F (upd F q (.tup vs)):=λc o z=>by rw[qu (jN z (Le.none l hn))];show z
   show w _ _ _ (Gr.newF l hn) #[q,vs,rfl,.inl (.inl qS),Reps.le up _ rs]
end
def qbd:typeLookup (.type "list_reverseiterator") "__len__"=pure none:=by rw[typeLookup_type,builtinLookup_eq_fast];kernel_rfl
def qbe:typeLookup (.type "list_reverseiterator") "__length_hint__"=pure (!(.builtin "list_reverseiterator.__length_hint__")):=by rw[typeLookup_type,builtinLookup_eq_fast];kernel_rfl
def qbf:isSubtype (.type "list_reverseiterator") (.type "list_reverseiterator")=pure true:=by rw[isSubtype_type];kernel_rfl
def qiN:splitId "list_reverseiterator.__length_hint__"=!("list_reverseiterator","__length_hint__"):=by decide +kernel
section
variable{prog:af}{w:World}{A:ag}{E:aa->ab->Prop}{s:ab}{I l:Addr}{items:Array aa}
def qbg{R:Result->ab->Prop}{z:Nat}(Y:A.in1.handled=none)(Z:s.heap.IsList l items)(O:s.heap.IsRevIter I l ((items.size)-1))(ne:l≠I)(s1:S≠l)(U:S≠I)(hn:items.size<=sizeLine)
  (gS:s.heap.get? S=↑#[.type "list",none,.seq #[] z,#[]])
  (hR:∀ s' B c',Moved [S,I] (λa b=>b=a) s s'->s'.heap.get? S=some {cls:=.type "list",dict:=none,data:=.seq B c',slots:=#[]}->ItemsOf (λi v=>items[items.size-1-i]?=!v) B items.size->R (.ok (.ret .none)) s') :
  wpAny (model prog w) A.in1 (Builtin.List.listExtendWith (.ref S) (.ref I) .none)
   (λy t=>match y with|.done f=>R (.ok f) t|.again q=>q.quiet=true/\codeAny (model prog w) A q R t) (λe t=>R (.error e) t) s:=by
 have W:=(Walks.listRev (prog:=prog) (w:=w) (A:=A.in1) Y I l ne items).toS;have T:=O.typeIs
 delta Builtin.List.listExtendWith;show gg (wpAny_typeOf T ?_)
 have q1:Builtin.List.listSameRef (.ref S) (.ref I)=false:=by simp[Builtin.List.listSameRef,U]
 have q3:(Value.type "list_reverseiterator"==Value.type "tuple")=false:=by decide
 simp only[q1,q3,Bool.or_false,f9,cG];show gg (bu O ?_);show gg (fU ?_);show gg (wpAny_specialOf T qbd ?_);show gg (wpAny_specialOf T qbe ?_);show gg (wpAny_isInstance T qbf ?_);show gy ?_;show gy #[pZ F.plain_extend_loop _,codeAny_extend_loopS W hn S (by simp[s1,U]) .none items.size 0 s #[] z rfl (tP _) #[tP _,by simpa using O,Z] gS (ItemsOf.nil _) hR]
def qbh{K:aa->ab->Prop}(U:A.handled=none)(B:s.heap.IsList l items)(O:s.heap.IsRevIter I l ((items.size)-1))(ne:l≠I)(Y:items.size<=sizeLine)
  (Z:∀ h' tk c,(∀ b o,b≠I->s.heap.get? b=!o->h'.get? b=!o)->h'.get? s[0]=some {cls:=.type "list",dict:=none,data:=.seq items[2].reverse.toArray c,slots:=#[]}->K (.ref s[0]) {s with heap:=h',toks:=tk}) :
  wpAny (model prog w) A (call (.type "list") [.ref I]) K E s:=by
 let⟨oI,gI,rI⟩:=id O;let⟨oL,gL,rL⟩:=id B;have nI:s[0]≠I:=pK (gN gI);have nL:s[0]≠l:=pK (gN gL);show callType_codes (Q₁:=λob t=>ob=.ref s[0]/\t={s with heap:=s.heap.push {cls:=.type "list",data:=.seq #[]}}) F.called_list (F.typeCall_list_1 _) F.entry_list_init (code_list_new _ #[rfl,rfl]) λob t h1=>?_
 let⟨rfl,rfl⟩:=h1;have gS:(s.heap.push {cls:=.type "list",data:=.seq #[]}).get? s[0]=some {cls:=.type "list",data:=.seq #[]}:=gM _ rfl;show#[#[_,gS,rfl],F.args_list_init_2 _ _,?_];show gg (m:=Builtin.List.listItems (.ref s[0])) (wpAny_listItems gS rfl (gg (m:=updateSeq s[0] λ_=>#[]) (cA gS rfl (gg (pR ?_)))))
 have g2:=fj (Obj.mapSeq λ_=>(#[])) gS rfl
 have kp:∀ b o,b≠s[0]->s.heap.get? b=!o->((s.heap.push {cls:=.type "list",data:=.seq #[]}).update s[0] (Obj.mapSeq λ_=>(#[]))).get? b=↑o :=
  λb o nb e=>(tT _ _ (tu nb)).trans (gu _ e)
 show qbg (A:=A.in1) U (B.at λo e=>kp l o (tu nL) e) (O.at λo e=>kp I o (tu nI) e) ne nL nI Y g2 λs' z c mv gA ia=>#[rfl,?_]
 have ea:z=items[2].reverse.toArray:=by
  show Array.ext_getElem? λi=>?_
  by_cases c:i<items.size
  .have:=ia.2 i (z[i]'(by rw[ia.1];show c)) (Array.getElem?_eq_getElem _)
   rw[Array.getElem?_eq_getElem (by rw[ia.1];show c),<- this]
   simp[List.getElem?_toArray];rw[List.getElem?_reverse c[""]]
   simp
  rw[dQ (by rw[ia.1];lia),dQ (by simp;lia)]
 subst ea;let⟨h',g',d',t',os'⟩:=s';let⟨mh,mg,md,mo,mt⟩:=mv;dsimp only at mh mg md mo gA;subst mg md mo;show Z h' t' c (λb o nb e=>mh b o (by simp[nb,t8 (gN e)]) (kp b o (t8 (gN e)) e)) gA
end
def ZV(f:EF):EF:=λρ=>(f ρ).bind λw=>match w.d with
 | .lst ds=>.ok (.lst ds.reverse)[9]
 | _=>.stuck
theorem K6:∀{ds} {vs},Reps κ F vs ds->Reps κ F vs.reverse ds.reverse
 | [],vs,h=>by cases (show vs=[]from h);show h
 | d::r,vs,h=>by
  let⟨v,us,rfl,q1,q2⟩:=h;simp[bW];show Reps.append (K6 q2) (Reps.one q1)
section
variable{X:Cx}{F0 H0:Hp}{p p2 c1 c2:Pos}
def qbi(Z:"S" e f)(hm:X.mg "list"=none)(z:X.mg "reversed"=none)(hc:(X.calm=true)["r"])(hg:(Gl X "list")["r"])(B:(Gl X "reversed")["r"])
  (U:(sE [e] X.env=[(false,eval e X.env)])["r"])(O:(sE [.Call (.Name "reversed" p2) [e] [] c2] X.env=[(false,eval (.Call (.Name "reversed" p2) [e] [] c2) X.env)])["r"]) :
  "S" (.Call (.Name "list" p) [.Call (.Name "reversed" p2) [e] [] c2] [] c1) (ZV f):=by
 show λpins s σ F H ρ Q S I h=>fC (zL I hg hm dR (tF ?_ O rfl))
 show hZ ?_;show fC (zL I B z PyProof.Rows.boot_reversed (tF ?_ U rfl));rw[U];show hZ (Z pins s σ F H ρ _ S I ((KE.bind h).imp λw k v u F1 H1 s1 g1 q1 r1 I1=>tM ?_))
 have qx:=Vok.rd q1
 revert k qx
 generalize w.d=d;intro k qx;cases d<;>first|show k.elim|skip
 rename_i ds;let⟨a,vs,rfl,hq,rs⟩:=RdV.lst g1.s qx;cases r1;let⟨its,rv,pl,hz⟩:=I1.list hq;have hl:=pl.isList;have Y:=rv[1];show call_reversed_list hl (tM ?_);have na:a≠s1[0]:=by
  let⟨o,go,_⟩:=hl;show t8 (gN go)
 show qbh (I:=s1[0]) (l:=a) (items:=its.toArray) (I1.ok.hd hc) (hl.at λo e=>gu _ e) #[_,gM _ rfl,rfl,rfl] na (by rw[gU];lia) λh' tk c kp gA=>?_
 have lt:s1[0]<=(s1.heap.push (revObj a ((its.toArray.size)-1))).objs.size:=by rw[cP];show dZ _
 have hn:=I1.hok.fresh lt;show k (.ref _) _ F1 _ _ (g1.trans (Gr.new g1.s hn)) #[_,.lst vs.reverse,rfl,Le.none g1.h hn,Le.none g1.s hn,qS,K6 rs] rfl (I1.laid (t':=tk) (λb o e=>kp b o (t8 (gN e)) (gu _ e)) lt ?_)
 show#[by simpa using hz,its.reverse,c,rv.reverse,by simpa using gA]
variable{pos:Pos}
end
section
open PySem.SeqAt PySem.MeetsSeq PySem.MeetsSeq2 PySem.MeetsSeq3
open PySem.AutoSeq1 (wpAny_loadPart')
end
section
variable{X:Cx}
end
def fzIn(F H:Hp)(bs:List Addr):Hp:=λa=>if a∈bs then H a else F a
section
variable{κ:Kx}{F0 H0 F H:Hp}{ρ:Rho}{σ:St}
theorem Inn.repT:∀{bs} {kds},Inn κ H0 F H bs (kds.map Prod.snd)->(∀ b∈bs,G b=H b)->Le F G->RepT κ G ((kds.map Prod.fst).zip (bs.map V.ref)) kds
 | [],[],_,_,_=>rfl
 | [],_::_,h,_,_=>h.elim
 | _::_,[],h,_,_=>h.elim
 | b::bs,(k0,e)::es,h,k,l=>by
  let⟨⟨us,xs,e1,_,_,hh,r⟩,h⟩:=h;subst e1;show#[.ref b,(es.map Prod.fst).zip (bs.map V.ref),rfl,#[b,us,rfl,SqL.of ((k b "s").trans hh),Reps.le l _ r],Inn.repT h (λc m=>k c (gj _ m)) l]
theorem Inn.len:∀{bs} {ds},Inn κ H0 F H bs ds->bs[1]=ds[1]
 | [],[],_=>rfl
 | [],_::_,h=>h.elim
 | _::_,[],h=>h.elim
 | b::bs,e::es,h=>by rw[gJ,gJ,Inn.len h.2]
def StOk.shutG{i:Nat}(S:StOk κ F0 H0 F H ρ σ)(ei:ρ[i]?=!(!(.od d)))
  (ow:∀ a bs o,Deep κ H0 F H a bs d->(∀ c∈bs,fzIn F H bs c=H c)->Le F (fzIn F H bs)->H a=!o->OwnO κ (fzIn F H bs) o d'):∃ F',Le F F'/\StOk κ F0 H0 F' H (ρ.set i (!d'[9])) σ:=by
 let⟨sh,a,bs,si,h0,hf,nd,dp,sp⟩:=S.dp i d ei;have na:=(tL.mp nd).1;have B:∀{c},c∉bs->fzIn F H bs c=F c:=λ{c} n=>iN n
 have inn:∀{c},c∈bs->fzIn F H bs c=H c:=λ{c} n=>iP n
 have l:Le F (fzIn F H bs):=λc u h=>by
  by_cases m:c∈bs
  .rw[inn m];show S.s c u h
  rw[B m];show h
 have own:∀{o},H a=!o->OwnO κ (fzIn F H bs) o d':=λ{o} ho=>ow a bs o dp (λc m=>inn m) l ho
 show#[fzIn F H bs,l,#[#[Le.trans S.gr.f l,S.gr.h,λc u h=>?_,λc h=>?_],by simpa using S.len,λj w e=>?_,λj k w w' c O ej ek oj ok sj sk=>?_,λj y e=>?_]]
 .by_cases m:c∈bs
  .rw[inn m]at h;show h
  rw[B m]at h;show S.s c u h
 .by_cases m:c∈bs
  .let⟨us,z,_⟩:=Deep.inn dp m;show .inr (.inl z)
  rw[B m]at h;show S.gr.n c h
 .rcases qE e with⟨rfl,z⟩|⟨ne,z⟩
  .cases z;let⟨o,ho,_⟩:=Deep.top dp;show#[_,si,a,o,rfl,h0,by rw[B na];show hf,ho,own ho]
  let⟨v,e1,q⟩:=S.val j w z;show#[v,e1,?_];have nb:∀{c},v=.ref c->w.own=true->c∉bs:=λ{c} ev ow m=>by
   subst ev;show sp j w c ne z ow (gj _ m) e1
  cases w with
  | fz d=>show Rep.le l d q
  | br d=>let⟨c,oc,ec,eh,cr⟩:=q;show#[c,oc,ec,eh,OwnO.le l cr]
  | ow d=>let⟨c,oc,ec,c0,cf,ch,cr⟩:=q;show#[c,oc,ec,c0,by rw[B (nb ec rfl)];show cf,ch,OwnO.le l cr]
  | lk d=>show#[Rep.le l d q.1,RawT.le l q.2]
  | od d=>show(sh j d ne z).elim
 .have at_:∀{m:Nat} {y},(ρ.set i (!d'[9]))[m]?=!(!y)->y.own=true->∃ y',ρ[m]?=!(!y')/\y'.own=true:=λ{m y} h oy=>by
   rcases qE h with⟨rfl,_⟩|⟨_,z⟩
   .show#[_,ei,rfl]
   show#[y,z,oy]
  let⟨y,U,Y⟩:=at_ ej oj;let⟨y',Z,ok'⟩:=at_ ek ok;show S.sep j k y y' c O U Z Y ok' sj sk
 rcases qE e with⟨_,z⟩|⟨ne,z⟩
 .lia
 show(sh j y ne z).elim
def StOk.shut{i:Nat}(S:StOk κ F0 H0 F H ρ σ)(B:ρ[i]?=!(!(.od d)))(O:∀ k,d≠.dK k)(U:∀ k,d≠.tup k):∃ F',Le F F'/\StOk κ F0 H0 F' H (ρ.set i (!d[9])) σ :=
 S.shutG B λa bs o dp z l ho=>by
  cases d<;>first|show(False.elim dp)|show(O _ rfl).elim|show(U _ rfl).elim|skip
  .have e:=dp.1;rw[ho]at e;cases e;show Inn.reps dp.2 (λb m=>z b m) l
  have e:=dp.1;rw[ho]at e;cases e;show Inn.repT dp.2 (λb m=>z b m) l
def vQ(i:Nat)(ρ:Rho):Bool:=(ρ.set i none).all λo=>match o with|some (.od _)=>false|_=>true
def K7(h:vQ i ρ=true):shal i ρ:=λj d hj e=>by
 have m:(ρ.set i none)[j]?=!(!(.od d)):=by rw[hU (tu hj)];show e
 have:=pD.mp h _ (t6 m);cases this
def StOk.open0{i:Nat}(S:StOk κ F0 H0 F H ρ σ)(U:ρ[i]?=!(!d[9]))(hd:d=.lst []\/d=.dT [])(sh:shal i ρ):StOk κ F0 H0 F H (ρ.set i (!(.od d))) σ:=by
 let⟨v,si,a,o,rfl,h0,hf,hh,ro⟩:=S.val i _ U;have dp:Deep κ H0 F H a [] d:=by
  rcases hd with rfl|rfl
  .cases o<;>first|show ro.elim|skip
   cases (ro);show#[hh,trivial]
  cases o<;>first|show ro.elim|skip
  cases (ro);show#[hh,trivial]
 have at_:∀{m:Nat} {y},(ρ.set i (!(.od d)))[m]?=!(!y)->y.own=true->∃ y',ρ[m]?=!(!y')/\y'.own=true:=λ{m y} h oy=>by
  rcases qE h with⟨rfl,_⟩|⟨_,z⟩
  .show#[_,U,rfl]
  show#[y,z,oy]
 show#[S.gr,by simpa using S.len,λj w e=>?_,λj k w w' c Y ej ek oj ok sj sk=>?_,λj y e=>?_]
 .rcases qE e with⟨rfl,z⟩|⟨ne,z⟩
  .cases z;show#[_,si,a,o,rfl,h0,hf,hh,OwnO.noTup ro]
  show S.val j w z
 .let⟨y,Z,oj'⟩:=at_ ej oj;let⟨y',B,O⟩:=at_ ek ok;show S.sep j k y y' c Y Z B oj' O sj sk
 rcases qE e with⟨rfl,z⟩|⟨ne,z⟩
 .cases z;show#[λk z hk ek=>?_,a,[],si,h0,hf,by simp,dp,λk w b hk ek ok m sk=>?_]
  .rcases qE ek with⟨rfl,_⟩|⟨_,q⟩
   .show hk rfl
   show sh k z hk q
  obtain rfl:b=a:=by simpa using m
  let⟨y',B,O⟩:=at_ ek ok;show S.sep k j y' _ b hk B U O rfl sk si
 show(sh j y ne z).elim
def StOk.turn{d d':D}{a:Addr}{bs bs':List Addr}{H':Hp}(S:StOk κ F0 H0 F H ρ σ)(ei:ρ[i]?=!(!(.od d)))(si:σ[i]?=!(!(.ref a)))(Z:shal i ρ)
  (sp:∀ j w b,j≠i->ρ[j]?=!(!w)->w.own=true->b∈a::bs->σ[j]?≠!(!(.ref b)))
  (B:∀ c,c∉a::bs'->H' c=H c)(sub:∀ b∈bs',b∈bs\/∀(j:Nat) w,ρ[j]?=!(!w)->w.own=true->σ[j]?≠!(!(.ref b)))
  (h0:∀ c∈a::bs',H0 c=none)(hf:∀ c∈a::bs',F c=none)(nd:(a::bs').Nodup)(dp:Deep κ H0 F H' a bs' d'):StOk κ F0 H0 F H' (ρ.set i (!(.od d'))) σ:=by
 have O:∀ j w b,j≠i->ρ[j]?=!(!w)->w.own=true->b∈a::bs'->σ[j]?≠!(!(.ref b)):=λj w b hj ej ow m=>by
  rcases gw.mp m with rfl|m
  .show sp j w _ hj ej ow "s"
  rcases sub b m with z|z
  .show sp j w b hj ej ow (gj _ z)
  show z j w ej ow
 have at_:∀{m:Nat} {y},(ρ.set i (!(.od d')))[m]?=!(!y)->y.own=true->∃ y',ρ[m]?=!(!y')/\y'.own=true:=λ{m y} h oy=>by
  rcases qE h with⟨rfl,_⟩|⟨_,z⟩
  .show#[_,ei,rfl]
  show#[y,z,oy]
 have U:∀{c u},H0 c=!u->c∉a::bs':=λ{c u} e m=>by rw[h0 c m]at e;cases e
 have Y:∀{c u},F c=!u->c∉a::bs':=λ{c u} e m=>by rw[hf c m]at e;cases e
 show#[#[S.gr.f,λc u h=>(B c (U h)).trans (S.gr.h c u h),λc u h=>(B c (Y h)).trans (S.s c u h),S.gr.n],by simpa using S.len,λj w e=>?_,λj k w w' c hjk ej ek oj ok sj sk=>?_,λj y e=>?_]
 .rcases qE e with⟨rfl,z⟩|⟨ne,z⟩
  .cases z;let⟨o,ho,nt⟩:=Deep.top dp;show#[_,si,a,o,rfl,h0 a "s",hf a "s",ho,nt]
  let⟨v,e1,q⟩:=S.val j w z;show#[v,e1,?_];have nb:∀{c},v=.ref c->w.own=true->c∉a::bs':=λ{c} ev ow m=>by
   subst ev;show O j w c ne z ow m e1
  cases w with
  | fz d=>show q
  | br d=>show q
  | ow d=>let⟨c,oc,ec,c0,cf,ch,cr⟩:=q;show#[c,oc,ec,c0,cf,(B c (nb ec rfl)).trans ch,cr]
  | lk d=>show q
  | od d=>show(Z j d ne z).elim
 .let⟨y,ej',oj'⟩:=at_ ej oj;let⟨y',ek',ok'⟩:=at_ ek ok;show S.sep j k y y' c hjk ej' ek' oj' ok' sj sk
 rcases qE e with⟨rfl,z⟩|⟨ne,z⟩
 .cases z;show#[λk z hk ek=>?_,a,bs',si,h0 a "s",hf a "s",nd,dp,λk w b hk ek ok m=>?_]
  .rcases qE ek with⟨rfl,_⟩|⟨_,q⟩
   .show hk rfl
   show Z k z hk q
  rcases qE ek with⟨rfl,_⟩|⟨_,q⟩
  .show(hk rfl).elim
  show O k w b hk q ok m
 show(Z j y ne z).elim
theorem Inn.app(U:Rep κ F y d):∀{bs} {ds} {k},Inn κ H0 F H bs ds->bs.Nodup->bs[k]?=↑b ->
  ∃ us xs,ds[k]?=!(.lst xs)/\H b=!(.lst us)/\us[1]=xs[1]/\Inn κ H0 F (upd H b (.lst (us++[y]))) bs (ds.set k (.lst (xs++[d])))
 | [],_,_,_,_,e=>by simp at e
 | _::_,[],_,h,_,_=>h.elim
 | c::bs,e::es,0,h,nd,ek=>by
  let⟨⟨us,xs,e1,c0,cf,ch,r⟩,h⟩:=h;obtain rfl:c=b:=by simpa using ek
  subst e1;have nb:=(tL.mp nd).1;show#[us,xs,rfl,ch,Reps.length r,#[us++[y],xs++[d],rfl,c0,cf,qS,Reps.append r (Reps.one U)],(Inn.same (G:=H) (G':=H) (λx m=>(qu λz=>nb (by rw[<- z];show m)).symm) (λ_ _ z=>z) Le.refl h)]
 | c::bs,e::es,k+1,h,nd,ek=>by
  let⟨⟨us,xs,e1,c0,cf,ch,r⟩,h⟩:=h;let⟨nb,nd⟩:=tL.mp nd;let⟨B,O,q1,q2,q3,q4⟩:=Inn.app U h nd ek[""]
  show#[B,O,by simpa using q1,q2,q3,#[us,xs,e1,c0,cf,(qu λz=>nb (by rw[z];show(t6 ek[""]))).trans ch,r],q4]
theorem Inn.snoc(h0:H0 b=none)(z:F b=none)(B:H b=!(.lst us))(r:Reps κ F us xs):∀{bs} {ds},Inn κ H0 F H bs ds->Inn κ H0 F H (bs++[b]) (ds++[.lst xs])
 | [],[],_=>#[#[us,xs,rfl,h0,z,B,r],trivial]
 | [],_::_,h=>h.elim
 | _::_,[],h=>h.elim
 | _::_,_::_,h=>#[h.1,Inn.snoc h0 z B r h.2]
end
def scal:D->Bool
 | .non=>true
 | .bl _=>true
 | .int _=>true
 | .str _=>true
 | _=>false
def ZW:En->R En
 | .fz x=>if scal x=true then .ok x[8]else .stuck
 | _=>.stuck
def wp(i:Nat)(e:EF):EF:=λρ=>match ρ[i]? with
 | some (!(.od (.dK _)))=>.stuck
 | some (!(.od (.tup _)))=>.stuck
 | some (!(.od d))=>(e (ρ.set i (!d[9]))).bind ZW
 | _=>.stuck
section
variable{X:Cx}{F0 H0:Hp}{pos pos':Pos}
def K8(i)(B:"S" e f):"S" e (wp i f):=by
 intro pins s σ F H ρ Q S I h
 delta wp at h
 split at h
 .show h.elim
 .show h.elim
 .rename_i d nk nt ei;let⟨F',l,S'⟩:=S.shut ei (λk z=>nk k (by rw[z])) (λk z=>nt k (by rw[z]))
  show B pins s σ F' H _ _ S' I ((KE.bind h).imp λw k v u F2 H2 s2 g q r I2=>?_)
  cases w<;>first|show k.elim|skip
  rename_i x
  delta ZW at k
  dsimp only at k;by_cases c:scal x=true
  .rw[iP c]at k;show k v u F H2 s2 #[Le.refl,g.h,Le.trans S.s g.h,λ_ z=>.inl z] ?_ r I2
   cases x<;>first|show q|cases c
  rw[iN c]at k;show k.elim
 show h.elim
def shut(i:Nat)(ρ:Rho):Rho:=match ρ[i]? with
 | some (!(.od (.dK _)))=>ρ
 | some (!(.od (.tup _)))=>ρ
 | some (!(.od d))=>ρ.set i (!d[9])
 | _=>ρ
def yk(i:Nat)(s:SF):SF:=λρ=>s (shut i ρ)
def K9{st:Stmt}(i)(h:SS X F0 H0 st f):SS X F0 H0 st (yk i f):=by
 intro pins s σ F H ρ D S I k
 delta yk L3.shut at k
 split at k
 .show h pins s σ F H ρ D S I k
 .show h pins s σ F H ρ D S I k
 .rename_i d nk nt e;let⟨F',l,S'⟩:=S.shut e (λk z=>nk k (by rw[z])) (λk z=>nt k (by rw[z]))
  show h pins s σ F' H _ D S' I (PostS.le l k)
 show h pins s σ F H ρ D S I k
def yL(i:Nat)(ρ:Rho):En->Out
 | .ow (.lst [])=>if vQ i ρ=true then .nx (ρ.set i (!(.od (.lst []))))else .stuck
 | .ow (.dT [])=>if vQ i ρ=true then .nx (ρ.set i (!(.od (.dT []))))else .stuck
 | _=>.stuck
def yM(i:Nat)(e:EF):SF:=λρ=>sOf (e ρ) (yL i ρ)
def Ka(i)(B:X.N.Nodup)(O:"S" e f)(hi:(X.N[i]?=!x)["r"])(U:(Loc X.env.scope x)["t"])
  (Y:(swapsWith e (!(.Name x pos')) pos.line X.env=pure false)["r"])(Z:(X.fn x=true\/X.env.scope.names.lookup x=some .local)["t"]) :
  SS X F0 H0 (.Assign [.Name x pos'] e pos) (yM i f):=by
 show λpins s σ F H ρ D S I h=>bZ (O pins s σ F H ρ _ S I ((PostS.of h).imp λw k v u F' H' s' g q r I'=>?_)) Y
 have go:∀ d,w=.ow d->(d=.lst []\/d=.dT [])->vQ i ρ=true->PostS X F0 H0 F D (.nx (ρ.set i (!(.od d))))->X[3] (storeName X.env x u) (λ_ s2=>SP X pins D .next s2) X.xe s':=λd ew hd z k3=>by
  subst ew;show xU I' B hi U r (λs2 I2=>?_) Z
  have S1:=S.setW (i:=i) g q rfl;by_cases hl:i<ρ.length
  .have S2:=S1.open0 (List.getElem?_set_self hl) hd λj y hj ej=>by
    rw[hU (tu hj)]at ej;show K7 z j y hj ej
   rw[bK]at S2;show#[_,H',I2,k3 _ F' H' g.f S2]
  have e0:∀ y,ρ.set i y=ρ:=λy=>List.set_eq_of_length_le ""
  rw[e0]at S1 k3;show#[_,H',I2,k3 _ F' H' g.f S1]
 cases w<;>first|cases k|skip
 rename_i d;cases d<;>first|show k.elim|skip
 .rename_i xs;cases xs with
  | cons _ _=>cases k
  | nil =>
   delta yL at k
   dsimp only at k;by_cases c:vQ i ρ=true
   .rw[iP c]at k;show go _ rfl (.inl rfl) c k
   rw[iN c]at k;cases k
 rename_i xs;cases xs with
 | cons _ _=>cases k
 | nil =>
  delta yL at k
  dsimp only at k;by_cases c:vQ i ρ=true
  .rw[iP c]at k;show go _ rfl (.inr rfl) c k
  rw[iN c]at k;cases k
end
def J5(i:Nat)(ρ:Rho)(ds:List D):En->Out
 | .ow (.lst es)=>if ds[1]<sz then .nx (ρ.set i (!(.od (.lst (ds++[.lst es])))))else .stuck
 | _=>.stuck
def xg(i:Nat)(e:EF):SF:=λρ=>match ρ[i]? with
 | some (!(.od (.lst ds)))=>sOf (e ρ) (J5 i ρ ds)
 | _=>.stuck
def J6(i:Nat)(ρ:Rho)(ds:List D)(k:Nat)(d:D):Option D->Out
 | some (.lst xs)=>if xs[1]<sz then .nx (ρ.set i (!(.od (.lst (ds.set k (.lst (xs++[d])))))))else .stuck
 | _=>.stuck
def yN(i:Nat)(ρ:Rho)(ds:List D):En->En->Out
 | .fz k[6],.fz d=>if 0<=k then J6 i ρ ds k.toNat d ds[k.toNat]? else .stuck
 | _,_=>.stuck
def wS(i:Nat)(z e:EF):SF:=λρ=>match ρ[i]? with
 | some (!(.od (.lst ds)))=>sOf (z ρ) λwk=>sOf (e ρ) λw=>yN i ρ ds wk w
 | _=>.stuck
def qbj{i:Nat}{P:Out->Prop}(z:P .stuck->False):∀{wk w},P (yN i ρ ds wk w)->∃ kk xs,wk=.fz kk[6]/\0<=kk/\ds[kk.toNat]?=!(.lst xs)/\xs[1]<sz:=by
 intro wk w k;have go:∀ kk d,P (yN i ρ ds kk[7] d[8])->0<=kk/\∃ xs,ds[kk.toNat]?=!(.lst xs)/\xs[1]<sz:=λkk d k=>by
  delta yN at k
  dsimp only at k;by_cases c:0<=kk
  .rw[iP c]at k;show#[c,?_];generalize ds[kk.toNat]?=o at k;cases o with
   | none=>show(z k).elim
   | some y =>
    cases y with
    | lst xs =>
     delta J6 at k
     by_cases c2:xs[1]<sz
     .show#[xs,rfl,c2]
     simp_all
    | _=>show(z k).elim
  simp_all
 cases wk with
 | fz d =>
  cases d with
  | int kk =>
   cases w with
   | fz y=>let⟨c,xs,h1,h2⟩:=go kk y k;show#[kk,xs,rfl,c,h1,h2]
   | _=>show(z k).elim
  | _=>show(z k).elim
 | _=>show(z k).elim
section
variable{X:Cx}{F0 H0:Hp}{pos:Pos}
def qbk(i){x:Str}{apos cpos np:Pos}(he:"S" e f)(hN:(Nm X i x)["t"])(O:(attributeBase (.Name x np) "append" X.env (eval (.Name x np) X.env)=eval (.Name x np) X.env)["r"])
  (Y:(((backTo cpos (sE [e] X.env)).all (λx=>not x.1)&&(backToKw cpos (keywordEach [] X.env)).all (λx=>x.1.isSome)
   && decide ([e].length+([]:List Keyword)[1]+(if ([]:List Keyword).isEmpty then 0 else 1)<30))=true)["r"])
  (U:((apos.endLine==cpos.line)=true)["r"]) (Z:(sE [e] X.env=(false,eval e X.env)::sE [] X.env)["r"]) (B:((backTo cpos (sE [] X.env)).any (·.1)=false)["r"])
  (hs:(swapsWith (.Call (.Attribute (.Name x np) "append" apos) [e] [] cpos) none pos.line X.env=pure false)["r"]) :
  SS X F0 H0 (.Expr (.Call (.Attribute (.Name x np) "append" apos) [e] [] cpos) pos) (xg i f):=by
 intro pins s σ F H ρ D S I h
 delta xg at h
 split at h
 .rename_i ds ei;have h:=PostS.of h;let⟨sh,a,bs,si,h0,hf,nd,dp,sp⟩:=S.dp i _ ei;have P:=xV (pos:=pos) (wL (X:=X) p6 cy cz xX (pvN (pos:=np) hN) (zM (jd (e:=e)) vI Z) O Y U Z B) hs;show P pins s σ H D I #[_,si,.inl #[rfl,bs.map V.ref,SqL.of dp.1],he.sem S (h.imp λw k y F1 H1 g1 q1=>?_)]
  cases w<;>first|show k.elim|skip
  rename_i d;cases d<;>first|show k.elim|skip
  delta J5 at k
  dsimp only at k;by_cases c:ds[1]<sz
  .rw[iP c]at k;let⟨b,o,rfl,b0,bf,bh,rb⟩:=q1;cases o<;>first|show rb.elim|skip
   have lb:bs[1]=ds[1]:=Inn.len dp.2;have nb:b∉a::bs:=λm=>by
    rcases gw.mp m with rfl|m
    .rw[dp.1]at b0;cases b0
    let⟨_,_,_,z⟩:=Deep.inn dp m;lia
   have nab:a≠b:=λz=>nb (by rw[z];simp)
   show#[a,bs.map V.ref,.ref b,rfl,rfl,g1.h _ _ dp.1,by rw[g6,lb,<- zX];show c,?_]
   show k σ _ _ g1.f ((S.grow g1).turn (bs:=bs) (bs':=bs++[b]) ei si sh sp (λz hz=>qu λe=>hz (by rw[e];simp)) (λz hz=>?_) (λz hz=>?_) (λz hz=>?_) ?_ #[?_,?_])
   .rcases gE.mp hz with hz|hz
    .show .inl hz
    obtain rfl:z=b:=by simpa using hz
    show .inr λj w ej ow sj=>?_
    let⟨u,e2⟩:=S.ownAt ej ow sj
    simp_all
   .rcases gw.mp hz with rfl|hz
    .show h0
    rcases gE.mp hz with hz|hz
    .let⟨_,e2,_⟩:=Deep.inn dp hz;show e2
    obtain rfl:z=b:=by simpa using hz
    show Le.none S.gr.h b0
   .rcases gw.mp hz with rfl|hz
    .show g1.no hf dp.1
    rcases gE.mp hz with hz|hz
    .let⟨_,_,e2,e3⟩:=Deep.inn dp hz;show g1.no e2 e3
    obtain rfl:z=b:=by simpa using hz
    show bf
   .have nd2:((a::bs)++[b]).Nodup:=fN.mpr #[nd,by simp,λx hx y hy e=>by
     obtain rfl:y=b:=by simpa using hy
     show nb (by rw[<- e];show hx)]
    show nd2
   .rw[qS,hX];rfl
   show Inn.same (G:=H) (G':=H) (H:=H1) (λz hz=>(qu λe=>?_).symm) (λ_ _ q=>q) Le.refl (Inn.snoc (Le.none S.gr.h b0) bf bh rb (Inn.gr g1 dp.2))
   subst e;rcases gE.mp hz with hz|hz
   .show(tL.mp nd).1 hz
   show nab hz[""]
  rw[iN c]at k;show k.elim
 show h.elim
def Kb(i){x:Str}{apos cpos np Y:Pos}(hk:"S" ek fk)(he:"S" e f)(hsx:y9 ek:=by show λ_ _=>rfl)(hN:(Nm X i x)["t"])(O:(attributeBase (.Subscript (.Name x np) ek Y) "append" X.env (eval (.Subscript (.Name x np) ek Y) X.env)=eval (.Subscript (.Name x np) ek Y) X.env)["r"])
  (Z:(((backTo cpos (sE [e] X.env)).all (λx=>not x.1)&&(backToKw cpos (keywordEach [] X.env)).all (λx=>x.1.isSome)
   && decide ([e].length+([]:List Keyword)[1]+(if ([]:List Keyword).isEmpty then 0 else 1)<30))=true)["r"])
  (U:((apos.endLine==cpos.line)=true)["r"]) (hst:(sE [e] X.env=(false,eval e X.env)::sE [] X.env)["r"]) (B:((backTo cpos (sE [] X.env)).any (·.1)=false)["r"])
  (hs:(swapsWith (.Call (.Attribute (.Subscript (.Name x np) ek Y) "append" apos) [e] [] cpos) none pos.line X.env=pure false)["r"]) :
  SS X F0 H0 (.Expr (.Call (.Attribute (.Subscript (.Name x np) ek Y) "append" apos) [e] [] cpos) pos) (wS i fk f):=by
 intro pins s σ F H ρ D S I h
 delta wS at h
 split at h
 .rename_i ds ei;have h:=PostS.of h;let⟨sh,a,bs,si,h0,hf,nd,dp,sp⟩:=S.dp i _ ei;have P:=xV (pos:=pos) (wL (X:=X) p6 cy cz xX (T8 (pos:=Y) ix_list (pvN (pos:=np) hN) (jd (e:=ek)) hsx) (zM (jd (e:=e)) vI hst) O Z U hst B) hs;show P pins s σ H D I #[_,si,hk.sem S (h.imp λwk k y F1 H1 g1 q1=>?_)]
  have k:=PostS.of k;have h3:∃ kk xs,wk=.fz kk[6]/\0<=kk/\ds[kk.toNat]?=!(.lst xs)/\xs[1]<sz:=by
   cases fe:f ρ with
   | exc _=>rw[fe]at k;cases k
   | stuck=>rw[fe]at k;cases k
   | ok w =>
    rw[fe]at k;show qbj (P:=PostS X F0 H0 F D) (λz=>z) k
  let⟨kk,xs,rfl,c0,ed,c2⟩:=h3;obtain rfl:y=V.int kk:=q1;have lb:bs[1]=ds[1]:=Inn.len dp.2;have kl:kk.toNat<bs[1]:=by rw[lb];show(gp.mp ed).1
  have eb:bs[kk.toNat]?=!bs[kk.toNat]:=gG kl;generalize bs[kk.toNat]=b at eb;have mb:b∈bs:=t6 eb;have at_:atI (bs.map V.ref) kk=!(.ref b):=by
   delta atI ixN
   rw[iP c0,iP (by rw[g6];lia),pV,gH,eb]
   rfl
  let⟨us0,_,_,hb⟩:=Deep.inn dp mb;show#[a,bs.map V.ref,kk,.ref b,rfl,rfl,SqL.of (g1.h _ _ dp.1),at_,.inl #[rfl,us0,SqL.of (g1.h _ _ hb)],he.sem (S.grow g1) (k.imp λw k y F2 H2 g2 q2=>?_)]
  cases w<;>first|cases k|skip
  rename_i d
  delta yN at k
  dsimp only at k;rw[iP c0,ed]at k
  delta J6 at k
  dsimp only at k;rw[iP c2]at k;have G:=g1.trans g2;let⟨ndA,ndB⟩:=tL.mp nd;let⟨us,xs',e1,e2,e3,inn⟩:=Inn.app (y:=y) (d:=d) q2 (Inn.gr G dp.2) ndB eb;rw[ed]at e1;cases e1;show#[b,us,y,rfl,rfl,e2,by rw[e3,<- zX];show c2,?_]
  show k σ _ _ G.f ((S.grow G).turn (bs:=bs) (bs':=bs) ei si sh sp (λz hz=>qu λe=>hz (by rw[e];show gj _ mb)) (λz hz=>.inl hz) (λz hz=>?_) (λz hz=>?_) nd #[?_,inn])
  .rcases gw.mp hz with rfl|hz
   .show h0
   let⟨_,e4,_⟩:=Deep.inn dp hz;show e4
  .rcases gw.mp hz with rfl|hz
   .show G.no hf dp.1
   let⟨_,_,e4,e5⟩:=Deep.inn dp hz;show G.no e4 e5
  show(qu λe=>ndA (by rw[e];show mb)).trans (G.h _ _ dp.1)
 cases h
end
section
variable{prog:af}{w:World}{K:Type} [DecidableEq K]{knd:HeapKind prog w K}{A:ag}{E:aa->ab->Prop}{s:ab}{d a:Addr}{k:K}{xs:List (K×Addr×aa)}{dv:aa}
def qbl(U:knd.room A)(O:knd.is s.heap k a)(Y:s.heap.DictOfH knd d xs)(hz:xs[1]<=sizeLine)
  (h1:∀ p,atKey xs k=!p->Q p.2 {s with toks:=s.toks+knd.draws k})
  (h2:atKey xs k=none->∀ h',h'.DictOfH knd d (storedH xs k a dv)->Heap.SameBut d s.heap h'->Q dv {s with heap:=h',toks:=s.toks+knd.draws k}) :
  wpAny (model prog w) A (dictSetDefault d (.ref a) dv) Q E s:=by
 let⟨o,es,ep,go,gc,gd,ge,gi,gn⟩:=Y;have z:=size_of_entries ge;show fU (gg (knd.pyHash U O (gg (wpAny_dictFind_heap U O go gd ge gi gn (λno=>?_) λj p hj=>?_))))
 .have B:=atKey_none_of_get no;have nk:k∉xs.map (·.1):=not_mem_keys_of_get no
  have sn:=storedH_new (a:=a) B;show gg (pU (gg (wpAny_updateDictKeys (hz:=by lia) (s:={s with toks:=s.toks+knd.draws k}) go gd (gy (h2 B _ ?_ (px ..))))))
  rw[sn];show#[_,_,ep+1,fj _ go (Obj.isFreed_of_dict (Obj.data_mapDictKeys gd _)),gc.mapDictKeys _,Obj.data_mapDictKeys gd _,by simp[ge,entryOfKey],λx hx=>?_,?_]
  .have hx:x∈xs\/x=(k,a,dv):=by simpa using hx
   rcases hx with hx|rfl
   .show knd.keeps (gi x hx) go gd (px ..)
   show knd.keeps O go gd (px ..)
  rw[hX];show fN.mpr #[gn,by simp,λx hx y hy e=>nk ?_]
  have hy:y=k:=by simpa using hy
  rw[<- hy,<- e];show hx
 have ak:=atKey_of_get gn hj;show gg (dX (s:={s with toks:=s.toks+knd.draws k}) go gd ?_);rw[entry_at ge j,hj];show gg (pU (gy (h1 p ak)))
def qbm(hd:(d==sysModules)=false)(B:knd.room A.in1)(O:knd.is s.heap k a)(z:s.heap.DictOfH knd d xs)(hz:xs[1]<=sizeLine)
  (h1:∀ p,atKey xs k=!p->Q p.2 {s with toks:=s.toks+knd.draws k})
  (h2:atKey xs k=none->∀ h',h'.DictOfH knd d (storedH xs k a dv)->Heap.SameBut d s.heap h'->Q dv {s with heap:=h',toks:=s.toks+knd.draws k}) :
  wpAny (model prog w) A (call (.builtin "dict.setdefault") [.ref d,.ref a,dv]) Q E s:=by
 have ty:=z.typeIs;show pf PySem.F.slot_dict_setdefault ty PySem.F.entry_dict_setdefault ?_ (PySem.F.args_dict_setdefault_3 _ _ _);show gg (gg (wpAny_notOrdered_dict ty (gy ?_)));show wpAny _ _ (if (d==sysModules)=true then _ else(dictSetDefault d (.ref a) dv >>= _)) _ _ s
 rw[iN (by rw[hd];decide)]
 show gg (qbl B O z hz (λp e=>gy #[_,rfl,h1 p e]) λe h' q sb=>gy #[_,rfl,h2 e h' q sb])
end
def rSd:V->List V->Hp->VK->Prop:=λx vs H Q=>∃ a kvs k b y,x=.ref a/\vs=[.ref b,y]/\H a=!(.dT kvs)/\H b=!(.tup (k.map kV))/\kvs[1]<sizeLine/\(∀ v,js kvs k=!v->Q v H)/\(js kvs k=none->Q y (upd H a (.dT (jO kvs k y))))
section
variable{X:Cx}
def qbn(Z:X.A.units+1<cLine):MtR X "dict.setdefault" rSd:=by
 intro pins s σ H x vs v us Q I rx rv h;let⟨a,kvs,k,b,y,rfl,rfl,hH,hb,hl,q1,q2⟩:=h;cases rx;let⟨u1,u2,rfl,Y,O⟩:=rv.two;cases Y;let⟨z,hd,xs,B,dd⟩:=Y2 I.hok hH;have hz:xs[1]<=sizeLine:=by rw[<- dF B];show z
 have hp:(jO kvs k y)[1]<=sizeLine:=by have:=Ze kvs k y;lia
 show qbm hd (dH Z) (Qw I.hok hb) dd hz (λp e=>?_) λe h' U sb=>?_
 .have r:=B.val k;rw[e]at r;cases ev:js kvs k with
  | none=>rw[ev]at r;show r.elim
  | some v =>
   rw[ev]at r;show#[v,H,I.tok _,r,q1 v ev]
 have r:=B.val k;rw[e]at r;have ev:js kvs k=none:=by
  cases ev:js kvs k with
  | none=>rfl
  | some v=>rw[ev]at r;show r.elim
 let⟨q,es,ep,hq,g2,g3,g4,_,g5⟩:=U;show#[y,_,Zg (ob:=.dT (jO kvs k y)) I (by rw[hH];show True.intro) sb #[q,hq] #[hp,hd,_,(B.put k hb O).keeps λc ys ec=>?_,q,es,ep,hq,g2,g3,g4,g5],O,q2 ev]
 rw[qu (WD ec hH λz=>nomatch z)]
 show ec
end
def J7:D->D->D
 | .lst xs,d=>.lst (xs++[d])
 | e,_=>e
def v6(key:List (Sum Int Str))(d:D):List (List (Sum Int Str)×D)->List (List (Sum Int Str)×D)
 | []=>[(key,.lst [d])]
 | (k,e)::r=>if k=key then(k,J7 e d)::r else(k,e)::v6 key d r
theorem ZX(key):∀ kds (bs:List Addr),bs[1]=kds[1] ->
  (js ((kds.map Prod.fst).zip (bs.map V.ref)) key=none/\∀ d,v6 key d kds=kds++[(key,.lst [d])]) \/
  ∃ j b e,bs[j]?=!b/\(kds.map Prod.snd)[j]?=!e/\js ((kds.map Prod.fst).zip (bs.map V.ref)) key=↑(.ref b) /\
   ∀ d,(v6 key d kds).map Prod.fst=kds.map Prod.fst/\(v6 key d kds).map Prod.snd=(kds.map Prod.snd).set j (J7 e d)
 | [],[],_=>.inl #[rfl,λ_=>rfl]
 | [],_::_,h=>by cases h
 | _::_,[],h=>by cases h
 | (k,e)::r,b::bs,h=>by
  by_cases c:k=key
  .show .inr #[0,b,e,rfl,rfl,xY c,λd=>?_]
   unfold v6;rw[iP c];show#[rfl,rfl]
  have nv:js ((((k,e)::r).map Prod.fst).zip ((b::bs).map V.ref)) key=js ((r.map Prod.fst).zip (bs.map V.ref)) key:=xZ c;rcases ZX key r bs h[""]with⟨h1,h2⟩|⟨j,b',e',h1,h2,h3,h4⟩
  .show .inl #[nv.trans h1,λd=>?_]
   unfold v6
   simp_all
  show .inr #[j+1,b',e',by simpa using h1,by simpa using h2,nv.trans h3,λd=>?_]
  unfold v6
  simp_all
def xh:D->Bool
 | .lst xs=>decide (xs[1]<sz)
 | _=>false
def Kc(i:Nat)(ρ:Rho)(kds:List (List (Sum Int Str)×D))(key:List (Sum Int Str)):En->Out
 | .fz d=>.nx (ρ.set i (!(.od (.dT (v6 key d kds)))))
 | _=>.stuck
def xi(i:Nat)(e:EF)(ρ:Rho)(kds:List (List (Sum Int Str)×D))(key:List (Sum Int Str)):En->Out
 | .ow (.lst [])=>if kds[1]<sz/\key[1]<=sz/\(kds.all λkv=>xh kv.2)=true then sOf (e (ρ.set i none)) (Kc i ρ kds key)else .stuck
 | _=>.stuck
def Ke(i:Nat)(z e:EF)(ρ:Rho)(kds:List (List (Sum Int Str)×D)):Option (List (Sum Int Str))->Out
 | some key=>sOf (z ρ) (xi i e ρ kds key)
 | none=>.stuck
def sSd(i:Nat)(ks:List EF)(z e:EF):SF:=λρ=>match ρ[i]? with
 | some (!(.od (.dT kds)))=>sOf (evs ks ρ) λws=>Ke i z e ρ kds (jP (ws.map En.d))
 | _=>.stuck
def StOk.drop(i)(S:StOk κ F0 H0 F H ρ σ):StOk κ F0 H0 F H (ρ.set i none) σ:=by
 have at_:∀{m:Nat} {y},(ρ.set i none)[m]?=!(!y)->ρ[m]?=!(!y):=λ{m y} h=>by
  rcases qE h with⟨_,z⟩|⟨_,z⟩
  .lia
  show z
 show#[S.gr,by simpa using S.len,λj w e=>S.val j w (at_ e),λj k w w' c B ej ek=>S.sep j k w w' c B (at_ ej) (at_ ek),λj y e=>?_]
 let⟨s1,a,bs,e1,h0,hf,nd,dp,sp⟩:=S.dp j y (at_ e);show#[λk z hk ek=>s1 k z hk (at_ ek),a,bs,e1,h0,hf,nd,dp,λk w b hk ek=>sp k w b hk (at_ ek)]
def Inn.short_at{κ:Kx}{H0 F H:Hp}{kds:List (List (Sum Int Str)×D)}{j:Nat}{e:D}(h:(kds.all λkv=>xh kv.2)=true)(B:(kds.map Prod.snd)[j]?=!e):∃ xs,e=.lst xs/\xs[1]<sz:=by
 rw[gH]at B;let⟨kv,hk,rfl⟩:=cU.mp B;have:=pD.mp h kv (t6 hk)
 revert this
 cases kv.2<;>intro z<;>first|show#[_,rfl,of_decide_eq_true z]|cases z
section
variable{X:Cx}{F0 H0:Hp}{pos:Pos}
def qbo(i){x:Str}{Z B ap2 cp2 np tp:Pos}{ks:List Expr}{Y e:Expr}{n:Nat}{fk:List EF}{fl f:EF}(hu:X.A.units+10<cLine)(hk:SA X F0 H0 ks fk)(hl:"S" Y fl)(he:"S" e f)
  (hN:(Nm X i x)["t"])
  (hb1:(attributeBase (.Name x np) "setdefault" X.env (eval (.Name x np) X.env)=eval (.Name x np) X.env)["r"])
  (hf1:(((backTo B (sE [.Tuple ks n tp,Y] X.env)).all (λx=>not x.1)&&(backToKw B (keywordEach [] X.env)).all (λx=>x.1.isSome)
   && decide ([.Tuple ks n tp,Y].length+([]:List Keyword)[1]+(if ([]:List Keyword).isEmpty then 0 else 1)<30))=true)["r"])
  (hl1:((Z.endLine==B.line)=true)["r"]) (hs1:(sE [.Tuple ks n tp,Y] X.env=(false,eval (.Tuple ks n tp) X.env)::sE [Y] X.env)["r"]) (hs2:(sE [Y] X.env=(false,eval Y X.env)::sE [] X.env)["r"])
  (hp1:((backTo B (sE [Y] X.env)).any (·.1)=false)["r"])
  (hb2:(attributeBase (.Call (.Attribute (.Name x np) "setdefault" Z) [.Tuple ks n tp,Y] [] B) "append" X.env (eval (.Call (.Attribute (.Name x np) "setdefault" Z) [.Tuple ks n tp,Y] [] B) X.env)=eval (.Call (.Attribute (.Name x np) "setdefault" Z) [.Tuple ks n tp,Y] [] B) X.env)["r"])
  (hf2:(((backTo cp2 (sE [e] X.env)).all (λx=>not x.1)&&(backToKw cp2 (keywordEach [] X.env)).all (λx=>x.1.isSome)
   && decide ([e].length+([]:List Keyword)[1]+(if ([]:List Keyword).isEmpty then 0 else 1)<30))=true)["r"])
  (hl2:((ap2.endLine==cp2.line)=true)["r"]) (hs3:(sE [e] X.env=(false,eval e X.env)::sE [] X.env)["r"]) (hp2:((backTo cp2 (sE [] X.env)).any (·.1)=false)["r"])
  (hs:(swapsWith (.Call (.Attribute (.Call (.Attribute (.Name x np) "setdefault" Z) [.Tuple ks n tp,Y] [] B) "append" ap2) [e] [] cp2) none pos.line X.env=pure false)["r"]) :
  SS X F0 H0 (.Expr (.Call (.Attribute (.Call (.Attribute (.Name x np) "setdefault" Z) [.Tuple ks n tp,Y] [] B) "append" ap2) [e] [] cp2) pos) (sSd i fk fl f):=by
 intro pins s σ F H ρ D S I h
 delta sSd at h
 split at h
 .rename_i kds ei;have h:=PostS.of h;let⟨sh,a,bs,si,h0,hf,nd,dp,sp⟩:=S.dp i _ ei;let⟨ha,U⟩:=dp;have P:=xV (pos:=pos) (wL (X:=X) p6 cy cz xX
   (wL (X:=X) cH PySem.F.slot_dict_setdefault PySem.F.type_dict_setdefault (qbn "o") (pvN (pos:=np) hN) (zM (jd (e:=.Tuple ks n tp)) (zM (jd (e:=Y)) vI hs2) hs1) hb1 hf1 hl1 hs1 hp1)
   (zM (jd (e:=e)) vI hs3) hb2 hf2 hl2 hs3 hp2) hs
  show P pins s σ H D I #[_,si,.inr (.inr (.inl #[rfl,.inr #[_,ha]])),QY hk S (h.imp λws k1 vs F1 H1 p g1 q1 hp=>?_)]
  cases ek:jP (ws.map En.d)with
  | none=>rw[ek]at k1;cases k1
  | some key =>
   rw[ek]at k1;have ev:=uA q1 ek;subst ev;have k2:=PostS.of (show PostS X F0 H0 F D (sOf (fl ρ) (xi i f ρ kds key))from k1)
   have g2:=Gr.new (o:=.tup (key.map kV)) g1.s hp;have G2:=g1.trans g2;have h6:kds[1]<sz/\key[1]<=sz/\(kds.all λkv=>xh kv.2)=true:=by
    cases fe:fl ρ with
    | exc _=>rw[fe]at k2;cases k2
    | stuck=>rw[fe]at k2;cases k2
    | ok w =>
     rw[fe]at k2;have k2:PostS X F0 H0 F D (xi i f ρ kds key w):=k2
     delta xi at k2
     split at k2
     .by_cases c:kds[1]<sz/\key[1]<=sz/\(kds.all λkv=>xh kv.2)=true
      .show c
      rw[iN c]at k2;cases k2
     cases k2
   let⟨c1,c2,c3⟩:=h6;have lb:bs[1]=kds[1]:=(Inn.len U).trans "s"
   show#[by rw[g6,<- zX];show c2,hl.sem (S.grow G2) (k2.imp λw k3 y F3 H3 g3 q3=>?_)]
   unfold xi at k3;split at k3
   .rw[iP #[c1,c2,c3]]at k3;have k3:=PostS.of k3;let⟨b,o,rfl,b0,bf,bh,rb⟩:=q3;cases o<;>first|show rb.elim|skip
    cases (show _=[]from rb)
    have G3:=G2.trans g3;have S3:=S.grow G3;have O:H b=none:=Le.none G2.h b0;have nb:b∉a::bs:=λm=>by
     rcases gw.mp m with rfl|m
     .rw[ha]at O;cases O
     let⟨_,_,_,z⟩:=Inn.at U m;rw[z]at O;cases O
    have nab:a≠b:=λz=>nb (by rw[z];simp)
    have ntp:H3 p=!(.tup (key.map kV)):=g3.h _ _ qS;show#[a,_,key,p,.ref b,rfl,rfl,G3.h _ _ ha,ntp,by rw[List.length_zip,g6,g6,lb,Nat.min_self,<- zX];show c1,λv ev=>?_,λev=>?_]
    .rcases ZX key kds bs lb with⟨z,_⟩|⟨j,b',e',m1,m2,m3,m4⟩
     .rw[ev]at z;cases z
     rw[ev]at m3;cases m3;let⟨xs0,rfl,lx⟩:=Inn.short_at (κ:=kx X) (H0:=H0) (F:=F) (H:=H) c3 m2;have mb:b'∈bs:=t6 m1;let⟨us0,_,_,hb⟩:=Inn.at U mb;show#[.inl #[rfl,us0,SqL.of (G3.h _ _ hb)],he.sem (S3.drop i) (k3.imp λw k4 y F4 H4 g4 q4=>?_)]
     cases w<;>first|cases k4|skip
     rename_i d;have k4:PostS X F0 H0 F D (.nx (ρ.set i (!(.od (.dT (v6 key d kds)))))):=k4;have G4:=G3.trans g4;let⟨ndA,ndB⟩:=tL.mp nd;let⟨us,xs',e1,e2,e3,h4⟩:=Inn.app (y:=y) (d:=d) q4 (Inn.gr G4 U) ndB m1;rw[m2]at e1;cases e1;let⟨s1,s2⟩:=m4 d;show#[b',us,y,rfl,rfl,e2,by rw[e3,<- zX];show lx,?_]
     show k4 σ _ _ G4.f ((S.grow G4).turn (bs:=bs) (bs':=bs) ei si sh sp (λz hz=>qu λe=>hz (by rw[e];show gj _ mb)) (λz hz=>.inl hz) (λz hz=>?_) (λz hz=>?_) nd #[?_,?_])
     .rcases gw.mp hz with rfl|hz
      .show h0
      let⟨_,e4,_⟩:=Inn.at U hz;show e4
     .rcases gw.mp hz with rfl|hz
      .show G4.no hf ha
      let⟨_,_,e4,e5⟩:=Inn.at U hz;show G4.no e4 e5
     .rw[qu λe=>ndA (by rw[e];show mb),s1]
      show G4.h _ _ ha
     rw[s2];show h4
    rcases ZX key kds bs lb with⟨_,app⟩|⟨j,b',e',_,_,z,_⟩
    .have pk:=Tv (V.ref b) ev;rw[pk];have h5:(kds.map Prod.fst).zip (bs.map V.ref)++[(key,V.ref b)]=((kds++[(key,L3.D.lst [])]).map Prod.fst).zip ((bs++[b]).map V.ref):=by
      rw[hX,hX,List.zip_append (by rw[g6,g6,lb])]
      rfl
     have nd2:(a::(bs++[b])).Nodup:=by
      have:((a::bs)++[b]).Nodup:=fN.mpr #[nd,by simp,λx hx y hy e=>by
       obtain rfl:y=b:=by simpa using hy
       show nb (by rw[<- e];show hx)]
      show this
     have all0:∀ z∈a::(bs++[b]),H0 z=none/\F3 z=none:=λz hz=>by
      rcases gw.mp hz with rfl|hz
      .show#[h0,G3.no hf ha]
      rcases gE.mp hz with hz|hz
      .let⟨_,e4,e5,e6⟩:=Inn.at U hz;show#[e4,G3.no e5 e6]
      obtain rfl:z=b:=by simpa using hz
      show#[Le.none S.gr.h O,bf]
     have h3:Inn (kx X) H0 F3 (upd H3 a (.dT ((kds.map Prod.fst).zip (bs.map V.ref)++[(key,V.ref b)]))) (bs++[b]) ((kds++[(key,L3.D.lst [])]).map Prod.snd):=by
      rw[hX];show Inn.same (G:=H) (G':=H) (H:=H3) (λz hz=>(qu λe=>?_).symm) (λ_ _ q=>q) Le.refl (Inn.snoc (Le.none S.gr.h O) bf bh (show Reps (kx X) F3 [] []from rb) (Inn.gr G3 U))
      subst e;show(tL.mp nd2).1 hz
     have S4:=S3.turn (bs:=bs) (bs':=bs++[b]) (d':=.dT (kds++[(key,.lst [])])) (H':=upd H3 a (.dT ((kds.map Prod.fst).zip (bs.map V.ref)++[(key,V.ref b)]))) ei si sh sp (λz hz=>qu λe=>hz (by rw[e];simp)) (λz hz=>by
       rcases gE.mp hz with hz|hz
       .show .inl hz
       obtain rfl:z=b:=by simpa using hz
       show .inr λj w ej ow sj=>?_
       let⟨u,e2⟩:=S.ownAt ej ow sj;rw[O]at e2;cases e2) (λz hz=>(all0 z hz).1) (λz hz=>(all0 z hz).2) nd2 #[by rw[qS,h5],h3]
     have SD:=S4.drop i;rw[bK]at SD;have bh4:(upd H3 a (.dT ((kds.map Prod.fst).zip (bs.map V.ref)++[(key,V.ref b)]))) b=!(.lst []):=(qu (tu nab)).trans bh;show#[.inl #[rfl,[],SqL.of bh4],he.sem SD (k3.imp λw k4 y F4 H4 g4 q4=>?_)]
     cases w<;>first|cases k4|skip
     rename_i d;have k4:PostS X F0 H0 F D (.nx (ρ.set i (!(.od (.dT (v6 key d kds)))))):=k4;have i4:i<ρ.length:=(gp.mp ei).1;have S5:=S4.grow g4;have ei5:(ρ.set i (!(.od (.dT (kds++[(key,.lst [])])))))[i]?=!(!(.od (.dT (kds++[(key,.lst [])])))):=List.getElem?_set_self i4;have eb:(bs++[b])[bs[1]]?=!b:=by simp
     let⟨us,xs',e1,e2,e3,h4⟩:=Inn.app (y:=y) (d:=d) q4 (Inn.gr g4 h3) (tL.mp nd2).2 eb;have eq0:((kds++[(key,L3.D.lst [])]).map Prod.snd)[bs[1]]?=!(.lst []):=by rw[lb];simp
     rw[eq0]at e1;cases e1;have us0:us=[]:=fq.mp e3;subst us0;show#[b,[],y,rfl,rfl,e2,by rw[pC];decide,?_]
     have sh5:shal i (ρ.set i (!(.od (.dT (kds++[(key,.lst [])]))))):=λj z hj ej=>by
      rw[hU (tu hj)]at ej;show sh j z hj ej
     have sp5:∀ j w c,j≠i->(ρ.set i (!(.od (.dT (kds++[(key,.lst [])])))))[j]?=!(!w)->w.own=true->c∈a::(bs++[b])->σ[j]?≠!(!(.ref c)):=λj w c hj ej ow m sj=>by
      rw[hU (tu hj)]at ej;rcases gw.mp m with rfl|m
      .show sp j w _ hj ej ow "s" sj
      rcases gE.mp m with m|m
      .show sp j w c hj ej ow (gj _ m) sj
      obtain rfl:c=b:=by simpa using m
      let⟨u,e2⟩:=S.ownAt ej ow sj;rw[O]at e2;cases e2
     have S6:=S5.turn (bs:=bs++[b]) (bs':=bs++[b]) (d':=.dT (v6 key d kds)) (H':=upd H4 b (.lst ([]++[y]))) ei5 si sh5 sp5 (λz hz=>qu λe=>hz (by rw[e];simp)) (λz hz=>.inl hz) (λz hz=>(all0 z hz).1) (λz hz=>?_) nd2 #[?_,?_]
     .rw[bK]at S6;show k4 σ _ _ (Le.trans G3.f g4.f) S6
     .rcases gw.mp hz with rfl|hz
      .show g4.no (all0 _ "s").2 qS
      let⟨_,_,e5,e6⟩:=Inn.at h3 hz;show g4.no e5 e6
     .rw[qu nab,g4.h _ _ qS,h5,app d];simp only[hX];rfl
     have es:(v6 key d kds).map Prod.snd=((kds++[(key,L3.D.lst [])]).map Prod.snd).set bs[1] (.lst ([]++[d])):=by
      rw[app d,lb];simp
     rw[es];show h4
    rw[ev]at z;cases z
   cases k3
 cases h
variable{prog:af}{w:World}{A:ag}{E:aa->ab->Prop}{s:ab}{d it:Addr}{o:Obj}{es:Array DictEntry}{ep i:Nat}
def qbp(hd:(d==sysModules)=false)(B:s.heap.get? d=!o)(O:o.ExactDict)(z:o.data=.dict es ep)
  (h:Q (.ref s[0]) {s with heap:=s.heap.push {cls:=.type "dict_keyiterator",data:=.fields (List.toArray [.ref d,.int 0 0,.int es.size 0,.int ep 0])}}):wpAny (model prog w) A (pyIter (.ref d)) Q E s:=by
 have ty:s.TypeIs (.ref d) "dict":=#[o,B,O.1];show wpAny_pyIter_slot ty PySem.F.slot_dict_iter (pf PySem.F.slot_dict_iter ty PySem.F.entry_dict_iter ?_ (PySem.F.args_dict_iter_1 _));show gg (gg (wpAny_notOrdered_dict ty (show wpAny _ _ (pure (Value.ref d)) _ _ s from gy (show wpAny _ _ (Builtin.Dict.showsAll d >>= _) _ _ s from ?_))))
 delta Builtin.Dict.showsAll
 rw[iN (by rw[hd];decide)]
 show gg (gy (gg (dX B z (gg (wpAny_dictEpoch B z (gg (f8 (gy #[_,rfl,"dict_keyiterator",_,#[_,gM _ rfl,rfl],pT.lookup,?_]))))))));simpa[rawInt]using h
def Kf(U:A.handled=none)(z:s.heap.IsKeyIter it d i es.size ep)(O:s.heap.get? d=!o)(B:o.data=.dict es ep)
  (h1:∀ e h',es[i]?=!e->h'.IsKeyIter it d (i+1) es.size ep->Heap.SameBut it s.heap h'->Q (!e.key) {s with heap:=h'})
  (h2:es[i]?=none->∀ h',Heap.ExtBut it s.heap h'->Q none {s with heap:=h'}):wpAny (model prog w) A (pyNext (.ref it)) Q E s:=by
 let⟨oi,gi,ci,di⟩:=id z;show gg (mn (fL (name:=Str.ofString "__next__") z.typeIs pT (pf pT z.typeIs PySem.F.entry_dict_keyiterator_next ?_ (PySem.F.args_dict_keyiterator_next_1 _))));show gg (gy (gg (gg ?_)))
 first|show gg (cJ z.typeIs (gy (gg (wpAny_fieldsOf gi di ?_))))|show gg (dB z.typeIs (gy (gg (wpAny_fieldsOf gi di ?_))))
 show gg (gy (gg (dX O B ?_)));rw[iN "s"]
 show gg (gy (gg (wpAny_dictEpoch O B ?_)));rw[iN "s"]
 show gy ?_;cases he:es[i]? with
 | none =>
  simp[show ¬ (i<0)by lia,cG,fK,he]
  show gg ?_
  first|show gg (cJ z.typeIs (gy (show wpAny _ _ (setField (.ref it) 0 .none >>= _) _ _ s from gg (b8 gi di "s" ?_))))|show gg (dB z.typeIs (gy (show wpAny _ _ (setField (.ref it) 0 .none >>= _) _ _ s from gg (b8 gi di "s" ?_))))
  show wpAny _ _ (newExc (.type "StopIteration") [] >>= _) _ _ _;show gg ?_;simp[newExc,newTuple];show gg (f8 (gg (m:=firstArgMember _ _) (wpAny_of_eq (a:=Value.none) (by first|rfl|(simp[firstArgMember];rfl)) (f8 ?_ (by size_fits)))) (by size_fits))
  simp only[raiseNew];show gg (wpAny_handled ?_);rw[show A.in1.handled=none from U];show gg (gy (wpAny_throw (gg ?_)))
  show(wpAny_isInstance (T:="StopIteration") (b:=true) #[_,gM _ rfl,rfl] isSubtype_stop (gy (h2 he _ ?_)));show((px ..).extBut.push _).push _
 | some e =>
  simp[show ¬ (i<0)by lia,cG,fK,he]
  have nx:(s.heap.update it (Obj.mapFields (·.setIfInBounds 1 (rawInt (i+1))))).IsKeyIter it d (i+1) es.size ep :=
   #[_,fj _ gi (Obj.isFreed_of_fields (dM di _)),(Obj.cls_mapFields ..).trans ci,by rw[dM di];simp[rawInt]]
  show gg ?_
  first|show gg (cJ z.typeIs (gy (gg (bj z.typeIs ?_))))|show gg (dB z.typeIs (gy (gg (bj z.typeIs ?_))))
  show wpAny _ _ (setField (.ref it) 1 (rawInt (i+1)) >>= _) _ _ s;show gg (b8 gi di "s" (gg (fU (gg (bj (s:={s with heap:=s.heap.update it (Obj.mapFields (·.setIfInBounds 1 (rawInt (i+1))))}) nx.typeIs ?_)))))
  show wpAny _ _ (pure e.key) _ _ _;show gy (gy #[_,rfl,gy (h1 e _ he nx (px ..))])
end
def ItT(a:Addr)(ob:Obj):It:=#[λi H=>∃ kvs,H a=!(.frz ob (.dT kvs))/\i<kvs[1],
 λi H x H'=>H'=H/\∃ kvs k v q,H a=!(.frz ob (.dT kvs))/\kvs[i]?=!(k,v)/\x=.ref q/\H q=!(.tup (k.map kV)),λi H=>∃ kvs,H a=!(.frz ob (.dT kvs))/\kvs[1]<=i]
theorem Kg{R:α->β->Prop}:∀{l} {m} {i:Nat} {x},Paired R l m->l[i]?=!x->∃ y,m[i]?=!y/\R x y
 | _,_,i,_,.nil,h=>by simp at h
 | _,_,0,x,.cons r t,h=>by simp at h;subst h;show#[_,rfl,r]
 | _,_,i+1,x,.cons r t,h=>by
  let⟨y,e,q⟩:=Kg t h[""]
  show#[y,by simpa using e,q]
def qbq{K:Frag}{ob:Obj}{es:Array DictEntry}{ep:Nat}(h2:ob.data=.dict es ep):Turn P w K tg (ItT a ob) [it] it (λi h=>h.IsKeyIter it a i es.size ep)where
 mem:=by simp
 obj:=λi h st b hb=>by
  let⟨o,e,c,d⟩:=st
  simp_all
 keep:=λi h h' st k=>by
  let⟨o,e,r⟩:=st;show#[o,k it "s" o e,r]
 item:=by
  intro X hP hw hK hc i pins s σ H E I hf st hg;let⟨kvs,hH,hi⟩:=hg;let⟨go,z,y,xs,r,o,O,U,e1,e2,e3,e4,e5⟩:=(show ObjOk X.prog X.w H s.heap a (.frz ob (.dT kvs))from I.hok a _ hH)
  rw[go]at e1;cases e1;rw[h2]at e3;cases e3;let⟨⟨k,q,u⟩,ex,ek,eq,eu⟩:=Kg r (gG hi);have ee:es[i]?=!(entryOfKey (tupleKind (jj X.prog X.w)) (k,q,u)):=by
   rw[<- Array.getElem?_toList,e4,gH,ex];rfl
  let⟨f0,f1,f2,f3,f4,f5⟩:=hf it "s"
  show Kf (I.ok.hd hc) st go h2 (λe h' he B sb=>?_) λhe=>by rw[ee]at he;cases he
  rw[ee]at he;cases he;have I1:"I" H {s with heap:=h'}:=I.turned (t':=s.toks) (λb o hb e=>(sb.2 b hb).trans e) f0 f1 f3 f4 f5
  let⟨o',e,c,d⟩:=id B;show#[_,rfl,yz (s:={s with heap:=h'}) e c d "d" #[.ref q,H,I1,rfl,#[rfl,kvs,_,_,q,hH,gG hi,rfl,eq],B,λb hb=>(hf b hb).1]]
 done:=by
  intro X hP hw hK hc i pins s σ H E I hf st hg;let⟨kvs,hH,hi⟩:=hg;let⟨go,z,y,xs,r,o,O,U,e1,e2,e3,e4,e5⟩:=(show ObjOk X.prog X.w H s.heap a (.frz ob (.dT kvs))from I.hok a _ hH)
  rw[go]at e1;cases e1;rw[h2]at e3;cases e3;have el:es.size=kvs[1]:=by
   have a1:es[2].length=xs[1]:=by rw[e4,g6]
   have a2:=dF r;simp at a1;lia
  let⟨f0,f1,f2,f3,f4,f5⟩:=hf it "s"
  show Kf (I.ok.hd hc) st go h2 (λe h' he _ _=>?_) λhe h' eb=>#[rfl,I.turned (t':=s.toks) (λb o hb e=>eb b o hb e) f0 f1 f3 f4 f5]
  rw[dQ ""]at he
  cases he
 self:=λ_ _ _ _ _ st h=>wpAny_pyIter_keyiter st h
def Gr.tup(s:Le F H){q:Addr}{xs:List V}(z:H q=!(.tup xs)):Gr F H (upd F q (.tup xs)) H:=by
 show#[λa u h=>?_,Le.refl,λa u h=>?_,λa h=>?_]
 .by_cases e:a=q
  .subst e;have:=s a u h;rw[z]at this;cases this;show qS
  rw[qu e];show h
 .by_cases e:a=q
  .subst e;rw[qS]at h;cases h;show z
  rw[qu e]at h;show s a u h
 by_cases e:a=q
 .subst e;show .inr (.inr #[xs,z])
 rw[qu e]at h;show .inl h
def qbr:∀ k:List (Sum Int Str),Reps κ F (k.map kV) (k.map QK):=λr=>r.rec
 (rfl)
 λx r IH=>#[kV x,r.map kV,rfl,by cases x<;>rfl,IH]
def Kh(k:List (Sum Int Str)):D:=.tup (k.map QK)
def iT(i:Nat):IF:=λρ=>match ρ[i]? with
 | some (!(.lk (.dT kds)))=>.ok (kds.map λkv=>Kh kv.1)
 | _=>.stuck
theorem Ki:∀{kds} {kvs} {i:Nat} {k} {d},RepT κ F kvs kds->kds[i]?=!(k,d)->∃ v,kvs[i]?=!(k,v)
 | [],_,i,_,_,_,h=>by simp at h
 | (q,e)::r,_,0,k,d,h,ek=>by
  let⟨v,kr,rfl,_,_⟩:=h;simp at ek;rw[<- ek.1];show#[v,rfl]
 | (q,e)::r,_,i+1,k,d,h,ek=>by
  let⟨v,kr,rfl,_,h2⟩:=h;let⟨u,eu⟩:=Ki h2 ek[""]
  show#[u,by simpa using eu]
def si_T(i)(U:(Nm X i x)["t"]):SI X F0 H0 tg (.Name x pos) (iT i):=by
 show#[λσ H R=>∃ a ob kvs,σ[i]?=!(!(.ref a))/\H a=!(.frz ob (.dT kvs))/\R (ItT a ob) H,λpins s σ H R I #[a,ob,kvs,hσ,hH,hR]=>?_,λσ F H ρ R S h=>?_]
 .show thn (pvN (pos:=pos) U pins s σ H (λv' H'=>v'=.ref a/\H'=H) I #[_,hσ,rfl,rfl]) λu s1 #[v1,H1,I1,r1,e1,e2]=>?_
  subst e1 e2;obtain rfl:u=Value.ref a:=r1;let⟨go,z,y,xs,r,o,es,ep,g1,g2,g3,g4,g5⟩:=(show ObjOk X.prog X.w H1 s1.heap a (.frz ob (.dT kvs))from I1.hok a _ hH)
  rw[go]at g1;cases g1;show qbp y go g2 g3 ?_;show#[s1[0],[s1[0]],_,_,H1,rfl,I1.kept (t':=s1.toks) λb o e=>gu _ e,qbq g3,#[_,gM _ rfl,rfl,rfl],λb hb=>?_,hR]
  obtain rfl:b=s1[0]:=by simpa using hb
  show I1.fpOk (gC _) (I1.hok.fresh (gC _))
 unfold iT at h;split at h
 .rename_i kds ei;let⟨v,e1,rp,a,ob,kvs,rfl,fa⟩:=S.val i _ ei;let⟨a',B,ea,rd,rt⟩:=rp;have ek:B=kvs:=by
   rcases rd with q|⟨_,q⟩
   .simp_all
   simp_all
  subst ek;show#[a,ob,B,e1,S.s _ _ fa,?_];show h F H _ (Gr.refl S.s) #[λj dd F2 H2 e l1 l2 _=>?_,λj F2 H2 hj l1 l2 _=>#[B,l2 _ _ (l1 _ _ fa),?_]]
  .rw[gH]at e;let⟨⟨k,d⟩,ek,rfl⟩:=cU.mp e;let⟨v,ev⟩:=Ki rt ek;show#[#[B,l2 _ _ (l1 _ _ fa),(gp.mp ev).1],λy H' hy=>?_]
   let⟨rfl,O,k2,v2,q,g1,g2,rfl,g3⟩:=hy;rw[l2 _ _ (l1 _ _ fa)]at g1;cases g1;rw[ev]at g2;cases g2;show#[_,Gr.tup l2 g3,q,k.map kV,rfl,.inl (.inl qS),qbr k]
  rw[RepT.length rt];simpa using hj
 show h.elim
section
variable{κ:Kx}{F0 H0 F H:Hp}{ρ:Rho}{σ:St}
def StOk.fix{i:Nat}(S:StOk κ F0 H0 F H ρ σ)(Z:ρ[i]?=!(!(.od (.dT kds)))):∃ a kvs,H a=↑(.dT kvs) /\
  ∀ ob,∃ F',Le F F'/\StOk κ F0 H0 F' (upd H a (.frz ob (.dT kvs))) (ρ.set i (!(.lk (.dT kds)))) σ:=by
 let⟨sh,a,bs,si,h0,hf,nd,⟨ha,U⟩,sp⟩:=S.dp i _ Z;have na:a∉bs:=(tL.mp nd).1;show#[a,_,ha,λob=>?_]
 generalize hk:(kds.map Prod.fst).zip (bs.map V.ref)=kvs at ha;have B:∀{c},c∉a::bs->upd (fzIn F H bs) a (.frz ob (.dT kvs)) c=F c:=λ{c} n=>by
  rw[qu λe=>n (by rw[e];simp)]
  show iN λm=>n (gj _ m)
 have O:∀{c},c∈bs->upd (fzIn F H bs) a (.frz ob (.dT kvs)) c=H c:=λ{c} m=>by
  rw[qu λe=>na (by rw[<- e];show m)]
  show iP m
 have fn:∀ c∈a::bs,F c=none/\H0 c=none:=λc m=>by
  rcases gw.mp m with rfl|m
  .show#[hf,h0]
  let⟨_,e1,e2,_⟩:=Inn.at U m;show#[e2,e1]
 have l:Le F (upd (fzIn F H bs) a (.frz ob (.dT kvs))):=λc u h=>by
  rw[B λm=>by rw[(fn c m).1]at h;cases h];show h
 have rt:RepT κ (upd (fzIn F H bs) a (.frz ob (.dT kvs))) kvs kds:=by
  have:=Inn.repT (G:=upd (fzIn F H bs) a (.frz ob (.dT kvs))) U (λb m=>O m) l
  simp_all
 show#[upd (fzIn F H bs) a (.frz ob (.dT kvs)),l,#[#[Le.trans S.gr.f l,λc u h=>?_,λc u h=>?_,λc h=>?_],by simpa using S.len,λj w e=>?_,λj k w w' c Y ej ek oj ok sj sk=>?_,λj y e=>?_]]
 .rw[qu (jN h h0)];show S.gr.h c u h
 .by_cases e:c=a
  .subst e;rw[qS]at h ⊢;show h
  rw[qu e];by_cases m:c∈bs
  .rw[O m]at h;show h
  rw[B (by simp[e,m])]at h;show S.s c u h
 .by_cases m:c∈a::bs
  .show .inr (.inl (fn c m).2)
  rw[B m]at h;show S.gr.n c h
 .rcases qE e with⟨rfl,z⟩|⟨ne,z⟩
  .cases z;show#[_,si,#[a,kvs,rfl,.inr #[ob,qS],rt],a,ob,kvs,rfl,qS]
  let⟨v,e1,q⟩:=S.val j w z;show#[v,e1,?_];have nb:∀{c},v=.ref c->w.own=true->c∉a::bs:=λ{c} ev ow m=>by
   subst ev;show sp j w c ne z ow m e1
  cases w with
  | fz d=>show Rep.le l d q
  | br d=>let⟨c,oc,ec,eh,cr⟩:=q;show#[c,oc,ec,eh,OwnO.le l cr]
  | ow d=>let⟨c,oc,ec,c0,cf,ch,cr⟩:=q;show#[c,oc,ec,c0,by rw[B (nb ec rfl)];show cf,by rw[qu λe=>nb ec rfl (by rw[e];simp)];show ch,OwnO.le l cr]
  | lk d=>show#[Rep.le l d q.1,RawT.le l q.2]
  | od d=>show(sh j d ne z).elim
 .rcases qE ej with⟨_,z⟩|⟨nj,ej⟩
  .cases z;cases oj
  rcases qE ek with⟨_,z⟩|⟨nk,ek⟩
  .cases z;cases ok
  show S.sep j k w w' c Y ej ek oj ok sj sk
 rcases qE e with⟨_,z⟩|⟨ne,z⟩
 .cases z
 show(sh j y ne z).elim
end
def fix(i:Nat)(ρ:Rho):Rho:=match ρ[i]? with
 | some (!(.od (.dT kds)))=>ρ.set i (!(.lk (.dT kds)))
 | _=>ρ
def uF(i:Nat)(s:SF):SF:=λρ=>s (fix i ρ)
def qbs{st:Stmt}(i)(h:SS X F0 H0 st f):SS X F0 H0 st (uF i f):=by
 intro pins s σ F H ρ D S I k
 delta uF L3.fix at k
 split at k
 .rename_i kds e;let⟨a,kvs,ha,go⟩:=S.fix e;have ok:=(I.hok a _ ha);let⟨z,y,xs,r,o,es,ep,g1,g2⟩:=id ok;let⟨F',l,S'⟩:=go o;have I':"I" (upd H a (.frz o (.dT kvs))) s:=I.write (by rw[ha];show True.intro) (.inl rfl) (λb u _ q=>q) #[o,g1]
   #[g1,ok.stay (λb u _ q=>q) (λb hb=>by
    have:b≠a:=λe=>by rw[e,ha]at hb;cases hb
    rw[qu this];show hb) λb xs hb=>by
    have:b≠a:=λe=>by rw[e,ha]at hb;cases hb
    rw[qu this];show hb]
  show h pins s σ F' _ _ D S' I' (PostS.le l k)
 show h pins s σ F H ρ D S I k
def ym:D->D->R En
 | .dT kvs,.tup ks=>(match jP ks with|some key=>okD (look key kvs)|none=>.stuck)
 | _,_=>.stuck
theorem Kj(k:List (Sum Int Str)):∀{kds} {kvs},RepT κ F kvs kds->(∃ z d,js kvs k=!z/\look k kds=!d/\Rep κ F z d)\/look k kds=none
 | [],_,h=>.inr rfl
 | (q,d)::r,_,h=>by
  let⟨v,kr,rfl,h1,h2⟩:=h;by_cases c:q=k
  .show .inl #[v,d,xY c,by unfold look;rw[iP c],h1]
  have e2:look k ((q,d)::r)=look k r:=by
   show(if q=k then !d else look k r)=_
   rw[iN c]
  rw[(xZ c),e2];show Kj k h2
theorem Kk:∀{ks} {vs} {key},Reps κ F vs ks->jP ks=!key->vs=key.map kV
 | [],vs,key,h,e=>by cases e;show h
 | d::ks,vs,key,h,e=>by
  let⟨v,r,rfl,h1,h2⟩:=h;unfold jP at e;cases e1:zC d with
  | none=>rw[e1]at e;cases e
  | some k =>
   cases e2:jP ks with
   | none=>rw[e1,e2]at e;cases e
   | some key' =>
    rw[e1,e2]at e;cases e;rw[Kk h2 e2];have:v=kV k:=by
     cases d with
     | int j=>cases e1;show h1
     | str j=>cases e1;show h1
     | _=>cases e1
    rw[this];rfl
section
variable{X:Cx}{F0 H0:Hp}{a b:Expr}{fa fb:EF}{pos:Pos}
def qbt(hu:X.A.units+10<cLine):IxD X ym:=by
 intro value B pins s σ F H x y v u dx dy Q I l rx ry qx qy w hs;cases dx<;>first|show w.elim|skip
 cases dy<;>first|show w.elim|skip
 rename_i ks
 delta ym at w
 dsimp only at w;cases e:jP ks with
 | none=>rw[e]at w;show w.elim
 | some key =>
  rw[e]at w;dsimp only at w;let⟨p,kvs,rfl,hq,rk⟩:=RdV.dT l qx;cases (rx);let⟨q,vs,rfl,O,_,rs⟩:=RdV.tup l qy;cases (ry);have ev:=Kk rs e;subst ev;let⟨its,r2,⟨o,g1,g2,n,g3⟩,_⟩:=I.tuple O;let⟨z,hd,xs,U,dd⟩:=Qx I.hok hq;rcases Kj key rk with⟨z,d,a1,a2,rz⟩|a2
  .rw[a2]at w;let⟨w',hw,Y⟩:=RelO.some_of (by rw[<- a1];show U.val key)
   let⟨pr,hp,Z⟩:=cU.mp hw;show tail_any dd.typeIs dg.lookup (wpAny_getItem_heap (dH "") (#[o,its.toArray,n,g1,g2,g3,by simpa using Zf r2]) dd hp ?_) hs
   rw[Z];show#[z,H,I.tok _,Y,je l w rz]
  rw[a2]at w;show w.elim
def qbu(z:X.A.units+10<cLine)(B:"S" a fa)(O:"S" b fb)(U:y9 b:=by show λ_ _=>rfl):"S" (.Subscript a b pos) (eOp ym fa fb):=ud (qbt z) B O U
end
open PySem.Builtin PySem.Builtin.Str
def J8(e:EF):IF:=λρ=>(e ρ).bind λw=>w.st.bind λd=>match d with
 | .lst ds=>.ok (numd 0 ds)
 | _=>.stuck
section
variable{X:Cx}{F0 H0:Hp}{tg:Expr}{pos:Pos}
def Kl(c:fits b62 j=true):-(2 ^ 62)<=j/\j<2 ^ 62:=by
 rw[fits_iff]at c;lia
def qbv(O:"S" a fa)(U:"S" b fb)(Y:X.mg "range"=none)(Z:(Gl X "range")["r"])(B:(sE [a,b] X.env=[(false,eval a X.env),(false,eval b X.env)])["r"])(z:(sE [b] X.env=[(false,eval b X.env)])["r"]) :
  SI X F0 H0 tg (.Call (.Name "range" np) [a,b] [] cp) (iR2 fa fb):=by
 show#[_,Gm Z Y (zM (jd) (zM (jd) vI z) (by rw[B,z])) B z,λσ F H ρ R S h=>O.sem S ((KE.bind h).imp λw k v F1 H1 g1 q1=>U.sem (S.grow g1) ((KE.bind k).imp λw2 k v2 F2 H2 g2 q2=>?_))]
 have r:=RdV.gr g2 (Vok.rd q1);have r2:=Vok.rd q2
 revert k
 generalize w.d=d at r;generalize w2.d=d2 at r2;intro k;cases d<;>first|show k.elim|skip
 cases d2<;>first|show k.elim|skip
 rename_i i j;dsimp only at k;by_cases c':(fits b62 i&&fits b62 j)=true
 .rw[iP c']at k;have c:=Bool.and_eq_true_iff.mp c';let⟨a1,a2⟩:=Kl c.1;let⟨a3,a4⟩:=Kl c.2;cases RdV.int r;cases RdV.int r2;show#[i,j,rfl,#[a1,a2,a3,a4],k F2 H2 _ (g1.trans g2) (Yi i (j-i).toNat)]
 rw[iN c']at k;show k.elim
def qbw{k:Nat}(B:"S" a fa)(O:X.mg "enumerate"=none)(U:(Gl X "enumerate")["r"])(z:(sE [a] X.env=[(false,eval a X.env)])["r"]) :
  SI X F0 H0 (.Tuple es k tp) (.Call (.Name "enumerate" np) [a] [] cp) (J8 fa):=by
 show#[λσ H R=>yD X a σ H λv H'=>∃ p,v=.ref p/\(∃ xs,SqL X.K H' p xs)/\R (Ite X.K p) H',λpins s σ H R I h=>?_,λσ F H ρ R S h=>?_]
 .show Call_ (zL I U O boot_enumerate (tF ?_ z rfl));rw[z];show hZ (thn (h pins s I) λu s1 #[v1,H1,I1,r1,p,e1,#[xs,hq],hR]=>?_)
  subst e1;obtain rfl:u=Value.ref p:=r1;show tM ?_;let⟨its,rv,pl,hz⟩:=I1.list hq;show call_enumerate_list pl.isList λh' he hi hsz kp=>?_
  show m9 (s:={s1 with heap:=h'}) he ?_;show#[_,_,_,_,H1,rfl,I1.kept (t':=s1.toks) kp,K0 p s1[0] (s1[0]+1) (pK (dh _)),#[#[_,he],hi],λb hb=>?_,hR]
  have lb:s1[0]<=b:=by
   rcases gw.mp hb with rfl|hb
   .show dZ _
   obtain rfl:b=s1[0]:=by simpa using hb
   show gC _
  show I1.fpOk lb (I1.hok.fresh lb)
 have h:=KE.bind h;cases ew:fa ρ with
 | exc x=>rw[ew]at h;show h.elim
 | stuck=>rw[ew]at h;show h.elim
 | ok w =>
  rw[ew]at h;cases es':w.st with
  | exc x=>rw[ya,es']at h;show h.elim
  | stuck=>rw[ya,es']at h;show h.elim
  | ok d =>
   rw[ya,es']at h;cases d<;>first|show h.elim|skip
   show B.sem S ?_;rw[ew,ya];intro v F1 H1 g1 q1;let⟨g2,_⟩:=vh S.s g1;let⟨p,vs,rfl,hq,rs⟩:=Vok.st S.s g1 q1 es';show#[p,rfl,#[vs,SqL.le g2.s hq],h _ H1 _ g2 (ZT (κ:=kx X) (λF' H' l1 l _=>SqL.le l (SqL.le l1 hq)) rs)]
def qbx:V->List V->Hp->VK->Prop:=λx vs H Q=>∃ a b i r,x=.str a/\vs=[.str b]/\occurrences a b 0 a[1] 1=i::r/\Q i[6] H
def qby:MtR X "str.index" qbx:=by
 intro pins s σ H x vs v us Q I rx rv h;let⟨a,b,i,r,rfl,rfl,ho,q⟩:=h;let⟨t,rfl⟩:=rx;let⟨u,rfl,ru⟩:=rv.one;let⟨t2,rfl⟩:=ru;show call_gives PySem.F.slot_str_index (typeIs_str s a t) PySem.F.entry_str_index (PySem.F.args_str_index_2 _ _) (gives_str_index a b t t2 i r ho) (#[.int i,H,I.tok _,#[_,rfl],q])
def xj:D->D->R En
 | .str x,.str y=>(match occurrences x y 0 x[1] 1 with|i::_=>okI i|[]=>.stuck)
 | _,_=>.stuck
def Km{apos cpos:Pos}(Z:"S" o fo)(he:"S" e f)
  (B:(attributeBase o "index" X.env (eval o X.env)=eval o X.env)["r"])
  (U:(((backTo cpos (sE [e] X.env)).all (λx=>not x.1)&&(backToKw cpos (keywordEach [] X.env)).all (λx=>x.1.isSome)
   && decide ([e].length+([]:List Keyword)[1]+(if ([]:List Keyword).isEmpty then 0 else 1)<30))=true)["r"])
  (O:((apos.endLine==cpos.line)=true)["r"]) (Y:(sE [e] X.env=(false,eval e X.env)::sE [] X.env)["r"]) (z:((backTo cpos (sE [] X.env)).any (·.1)=false)["r"]) :
  "S" (.Call (.Attribute o "index" apos) [e] [] cpos) (eOp xj fo f):=by
 intro pins s σ F H ρ Q S I h;have P:=wL PySem.F.plainAttrs_str PySem.F.slot_str_index PySem.F.type_str_index qby (jd) (zM (jd) vI Y) B U O Y z;show vz (P pins s σ H _ I (Z.sem S ((KE.bind h).imp λw0 k0 y0 F0' H0' g0 q0=>?_)))
 have r0:=Vok.rd q0
 revert k0
 generalize w0.d=d0 at r0;intro k0;cases d0<;>first|(cases fe:f ρ with|exc _=>rw[fe]at k0;show k0.elim|stuck=>rw[fe]at k0;show k0.elim|ok w=>rw[fe]at k0;show(k0).elim)|skip
 rename_i x;cases RdV.str r0;show#[rfl,he.sem (S.grow g0) ((KE.bind k0).imp λw k y F1 H1 g1 q1=>?_)]
 have r:=Vok.rd q1
 revert k
 generalize w.d=d at r;intro k;cases d<;>first|show k.elim|skip
 rename_i y'
 delta xj at k
 dsimp only at k;cases eo:occurrences x y' 0 x[1] 1 with
 | nil=>rw[eo]at k;show k.elim
 | cons i r' =>
  rw[eo]at k;cases RdV.str r;show#[x,y',i,r',rfl,rfl,eo,λu s' rv I'=>k i[6] u F1 H1 s' (g0.trans g1) rfl rv I']
end
def one(c:Nat):D:=.str #[(List.toArray [c])]
def okC:Option Nat->R En
 | some c=>.ok (one c)[8]
 | none=>.stuck
def wT:D->D->R En
 | .str x,.int i=>if x[1]<=sz then okC (ati x.cps.toList i)else .stuck
 | x,y=>qe x y
section
variable{X:Cx}{F0 H0:Hp}{a b:Expr}{fa fb:EF}{pos:Pos}
def qbz:IxD X wT:=by
 intro value B pins s σ F H x y v u dx dy Q I l rx ry qx qy w hs;by_cases c:∃ z i,dx=.str z/\dy=.int i
 .let⟨z,i,rfl,rfl⟩:=c
  delta wT at w
  dsimp only at w;by_cases hz:z[1]<=sz
  .rw[iP hz]at w;cases e:ati z.cps.toList i with
   | none=>rw[e]at w;show w.elim
   | some ch =>
    rw[e]at w;show Td value B pins s σ H _ _ v u Q I rx ry #[z,i,ch,RdV.str qx,RdV.int qy,by rw[<- zX];show hz,e,je l w rfl] hs
  rw[iN hz]at w;show w.elim
 show Y9 value B pins s σ F H x y v u dx dy Q I l rx ry qx qy ?_ hs
 delta wT at w
 simp_all
def ZY(z:"S" a fa)(B:"S" b fb)(O:y9 b:=by show λ_ _=>rfl):"S" (.Subscript a b pos) (eOp wT fa fb):=ud qbz z B O
end
def xk(lo st:Int)(n:Nat):List D:=(List.range n).map λk:Nat=>D.int (lo+k*st)
def Itr3(lo st:Int)(n:Nat):It:=#[λi _=>i<n,λi H x H'=>H'=H/\x=.int (lo+i*st),λi _=>n<=i]
def qbA{K:Frag}(it:Addr)(lo st:Int)(n:Nat):Turn P w K tg (Itr3 lo st n) [it] it (λi h=>IsRangeIter h it (lo+(i:Nat)*st) ((n:Int)-(i:Nat)) st)where
 mem:=by simp
 obj:=λi h z b hb=>by
  simp_all
 keep:=λi h h' z k=>k it "s" _ z
 item:=by
  intro X hP hw hK hc i pins s σ H E I hf z hg;let⟨f0,f1,f2,f3,f4,f5⟩:=hf it "s"
  show(Walks.range (I.ok.hd hc) it lo st n).item i s _ _ hg z λv h' tk hv z' kk=>?_
  let⟨t,rfl⟩:=hv;have I1:"I" H {s with heap:=h',toks:=tk}:=I.turned (λb o hb e=>kk b o hb[""] e) f0 f1 f3 f4 f5
  show#[_,rfl,yz z' rfl rfl "d" #[.int (lo+i*st),H,I1,#[t,rfl],#[rfl,rfl],z',λb hb=>(hf b hb).1]]
 done:=by
  intro X hP hw hK hc i pins s σ H E I hf z hg;let⟨f0,f1,f2,f3,f4,f5⟩:=hf it "s"
  show wpAny_pyNext_range_end (I.ok.hd hc) z (by have:n<=i:=hg;lia) λh' eb=>#[rfl,I.turned (λb o hb e=>eb b o hb e) f0 f1 f3 f4 f5]
 self:=λ_ _ _ _ _ z h=>wpAny_pyIter_rangeiter z h
def vR:Int->List Int->Int
 | m,[]=>m
 | m,a::r=>vR (if a<m then a else m) r
theorem ZZ:∀ r m,vR m r∈m::r/\∀ a∈m::r,vR m r<=a
 | [],m=>#[by simp[vR],λa ha=>by simp at ha;subst ha;show pE _]
 | b::r,m=>by
  unfold vR;let⟨h1,h2⟩:=ZZ r (if b<m then b else m)
  have hm:=h2 _ h9
  grind
def wU:List D->R En
 | [.lst ds]=>(match jX ds with|some (i::r)=>okI (vR i r)|_=>.stuck)
 | _=>.stuck
def Kn(O:(X.calm=true)["r"]):zW X (.builtin "min") wU:=by
 intro pins s σ F H xs us ds Q I l rx qx w;cases qx with
 | nil=>show w.elim
 | cons q1 q2 =>
  rename_i d _ _;cases q2 with
  | cons _ _=>cases d<;>show w.elim
  | nil =>
   cases d<;>first|show w.elim|skip
   rename_i ds
   delta wU at w
   dsimp only at w;cases e:jX ds with
   | none=>rw[e]at w;show w.elim
   | some ns =>
    rw[e]at w;cases ns with
    | nil=>show w.elim
    | cons i r =>
     let⟨p,vs,rfl,hq,rs⟩:=RdV.lst l q1;have ev:=yH e rs;subst ev;cases rx with
     | cons r1 r2 =>
      cases r2;cases r1;let⟨its,rv,pl,hz⟩:=I.list hq;have hi:=kt rv;let⟨ys,ey⟩:=hi.allInts.items;have z:(i::r)=ys[2].map (·.1):=by rw[<- hi.numsOf,<- nums_intItems,<- ey]
      have B:ys.size=r[1]+1:=by
       grind
      have hl:=pl.isList;rw[ey]at hl;show min_intList (I.ok.hd O) hl "" λv h' tk hv hk=>?_
      let⟨t,rfl⟩:=intItems_at hv;let⟨b1,b2⟩:=argBest_lt (numAt ys) (ys.size-1);generalize argBest (λi j=>decide (numAt ys i<numAt ys j)) (ys.size-1)=k at b1 b2
      have m1:numAt ys k∈i::r:=by
       rw[z,numAt_eq];show getD_mem (by rw[g6,pt];lia)
      have m2:∀ a∈i::r,numAt ys k<=a:=λa ha=>by
       rw[z]at ha;let⟨j,hj,rfl⟩:=mem_getD ha;rw[g6,pt]at hj;rw[<- numAt_eq];show b2 j ""
      let⟨k1,k2⟩:=ZZ r i;have em:=Int.le_antisymm (m2 _ k1) (k2 _ m1);rw[em];show#[.int _,H,I.kept hk,#[_,rfl],je l w rfl]
section
variable{X:Cx}{F0 H0:Hp}{pos:Pos}
end
section
open PySem PySem.Spec PyProof.Rows L2
variable{X:Cx}
def V0:List D->R En
 | [.int i,.int j,.int k]=>okI (if j>i then(if k>j then k else j)else(if k>i then k else i))
 | _=>.stuck
def qbB(z:X.calm=true):y8 X (.builtin "max") (λxs H Q=>∃ i j k,xs=[.int i,.int j,.int k]/\Q (if j>i then(if k>j then k else j)else(if k>i then k else i))[6] H):=by
 intro pins s σ H xs us Q I r h;let⟨i,j,k,rfl,q⟩:=h;cases r with
 | cons r1 r=>cases r with
  | cons r2 r=>cases r with
   | cons r3 r=>cases r with
    | nil =>
     let⟨t,rfl⟩:=r1;let⟨t',rfl⟩:=r2;let⟨B,rfl⟩:=r3;show max_three_ints (I.ok.hd z) λh' tk kk=>#[_,H,I.kept kk,?_,q]
     by_cases hj:j>i
     .rw[iP hj,iP hj];by_cases hk:k>j
      .rw[iP hk,iP hk];show#[_,rfl]
      rw[iN hk,iN hk];show#[_,rfl]
     rw[iN hj,iN hj];by_cases hk:k>i
     .rw[iP hk,iP hk];show#[_,rfl]
     rw[iN hk,iN hk];show#[_,rfl]
def qbC(B:(X.calm=true)["r"]):zW X (.builtin "max") V0:=kH (qbB B) λF H xs ds Q l qx w=>by
 cases qx with
 | nil=>show w.elim
 | @cons x d xs ds q1 q2 =>
  cases q2 with
  | nil=>cases d<;>show w.elim
  | @cons y e ys es q2 q3 =>
   cases q3 with
   | nil=>cases d<;>first|show w.elim|(cases e<;>show w.elim)
   | @cons z g zs gs q3 q4 =>
    cases q4 with
    | cons _ _=>cases d<;>first|show w.elim|(cases e<;>first|show w.elim|(cases g<;>show w.elim))
    | nil =>
     cases d<;>first|show w.elim|skip
     cases e<;>first|show w.elim|skip
     cases g<;>first|show w.elim|skip
     cases RdV.int q1;cases RdV.int q2;cases RdV.int q3;show#[_,_,_,rfl,je l w rfl]
end
def adO:En->R D
 | .ow (.lst xs)=>.ok (.lst xs)
 | _=>.stuck
abbrev V1(ad:En->R D)(mk:List D->D)(n:Nat)(it:IF)(gf:GF)(e:EF):EF:=uj ad (λys=>.od (mk ys)) n it gf qI e
abbrev Ko:=V1 adO D.lst
structure Mem(κ:Kx)(H₂:Hp)(p:Addr)(ad:En->R D)(mk:List D->D) extends Mm κ H₂ p ad where
 fin:∀{F H vs as},H₂ p=none->F p=none->H p=!(.lst vs)->RL F H vs as->DV κ H₂ F H (.ref p) (mk as)
section
variable{κ:Kx}{H0 F H F' H':Hp}
theorem In2.len:∀{bs} {css} {ds},In2 κ H0 F H bs css ds->bs[1]=ds[1]
 | [],[],[],_=>rfl
 | [],_::_,_,h=>by cases h
 | [],[],_::_,h=>by cases h
 | _::_,[],_,h=>by cases h
 | _::_,_::_,[],h=>by cases h
 | b::bs,cs::css,e::es,h=>by rw[gJ,gJ,In2.len h.2]
end
def qbD(κ:Kx)(H₂:Hp)(p:Addr):Mem κ H₂ p adO D.lst where
 RL F H vs as:=∃ bs:List Addr,vs=bs.map V.ref/\(p::bs).Nodup/\Inn κ H₂ F H bs as
 nil F H:=#[[],rfl,by simp,trivial]
 len:=λ#[bs,e,_,i]=>by subst e;rw[g6];show Inn.len i
 gr:=λg #[bs,e,nd,i]=>#[bs,e,nd,Inn.gr g i]
 step:=λ{F H F' H' vs as v w y} g _ l hp q e #[bs,ev,nd,i]=>by
  cases w<;>first|(cases e;done)|skip
  rename_i d;cases d<;>first|(cases e;done)|skip
  cases e;let⟨a,o,rfl,h0,hf,hh,r⟩:=q;cases o<;>first|show r.elim|skip
  rename_i us;subst ev;have na:a∉p::bs:=λm=>by
   rcases gw.mp m with rfl|m
   .rw[hp]at h0;cases h0
   let⟨_,_,_,z⟩:=Inn.at i m;rw[z]at h0;cases h0
  have B:((p::bs)++[a]).Nodup:=fN.mpr #[nd,by simp,λx hx y hy e=>by
   obtain rfl:y=a:=by simpa using hy
   show na (by rw[<- e];show hx)]
  show#[F',g,bs++[a],by simp,B,?_]
  show Inn.same (G:=H) (G':=H) (H:=H') (λz hz=>(qu λe=>?_).symm) (λ_ _ q=>q) Le.refl (Inn.snoc (Le.none l h0) hf hh r (Inn.gr g i))
  subst e;show(tL.mp B).1 hz
 fin:=λ{F H vs as} h0 hf hh #[bs,e,nd,i]=>by
  subst e;show .inl #[as,rfl,p,bs,rfl,h0,hf,nd,hh,i]
section
variable{X:Cx}{F0 H0:Hp}{pos:Pos}{tg elt iter:Expr}{scope:Scope}{fi:IF}{gf:GF}{e:EF}{ad:En->R D}{mk:List D->D}
def DV.deep(h:DV κ H F' H' v d)(O:∀ xs,d≠.tup xs):∃ a bs,v=.ref a/\(∀ c∈a::bs,H c=none)/\F' a=none/\(a::bs).Nodup/\Deep κ H F' H' a bs d:=by
 rcases h with⟨ds,rfl,a,bs,e1,h0,hf,nd,hh,i⟩|⟨ds,rfl,a,bs,B,e1,h0,hf,nd,hh,i⟩|⟨ds,y,e,_⟩|⟨_,_,_,e,_⟩
 .show#[a,bs,e1,λc m=>?_,hf,nd,hh,i]
  rcases gw.mp m with rfl|m
  .show h0
  let⟨_,z,_⟩:=Inn.at i m;show z
 .show#[a,bs++B.flatten,e1,λc m=>?_,hf,nd,bs,B,rfl,hh,i]
  rcases gw.mp m with rfl|m
  .show h0
  let⟨_,z,_⟩:=In2.at i m;show z
 .show(O _ e).elim
 show(O _ e).elim
def Deep.older{H G F' H':Hp}{a:Addr}{bs:List Addr}{d:D}(l:∀ a,H a=none->G a=none)(h:Deep κ H F' H' a bs d):Deep κ G F' H' a bs d:=by
 cases d<;>first|show(False.elim h)|show#[h.1,Inn.older l h.2]|show h|skip
 let⟨b1,z,e,h1,h2⟩:=h;show#[b1,z,e,h1,In2.older l h2]
def StOk.setD{ρ:Rho}{σ:St}(S:StOk κ F0 H0 F H ρ σ)(g:Gr F H F' H'){i:Nat}(q:DV κ H F' H' v d)(nt:∀ xs,d≠.tup xs)(Z:shal i ρ) :
  StOk κ F0 H0 F' H' (ρ.set i (!(.od d))) (σ.set i !v):=by
 let⟨a,bs,rfl,hn,hf,nd,dp⟩:=DV.deep q nt;have S':=S.grow g;let⟨o,ho,no⟩:=Deep.top dp;have h0:∀ c∈a::bs,H0 c=none:=λc m=>Le.none S.gr.h (hn c m)
 have B:∀ k w b,k≠i->ρ[k]?=!(!w)->w.own=true->b∈a::bs->σ[k]?≠!(!(.ref b)):=λk w b hk ek ok m sk=>by
  let⟨u,z⟩:=S.ownAt ek ok sk
  grind
 show#[S'.gr,by simp[S.len],λj w e=>?_,λj k w w' b Y ej ek oj ok sj sk=>?_,λj y e=>?_]
 .rcases qE e with⟨rfl,z⟩|⟨ne,z⟩
  .cases z;have hl:j<σ.length:=by
    rw[<- S.len];have:=(gp.mp e).1;simpa using this
   show#[.ref a,List.getElem?_set_self hl,a,o,rfl,h0 a "s",hf,ho,no]
  let⟨u,e1,q⟩:=S'.val j w z;show#[u,by rw[hU (tu ne)];show e1,q]
 .have at_:∀{m},m≠i->(σ.set i (!(.ref a)))[m]?=!(!(.ref b))->σ[m]?=!(!(.ref b)):=λ{m} hm h=>by
   rw[hU (tu hm)]at h;show h
  rcases qE ej with⟨e1,z⟩|⟨nj,U⟩
  .rcases qE ek with⟨e2,_⟩|⟨nk,O⟩
   .simp_all
   subst e1;have hl:j<σ.length:=by have:=(gp.mp sj).1;simpa using this
   rw[List.getElem?_set_self hl]at sj;cases sj;show B k w' a nk O ok "s" (at_ nk sk)
  rcases qE ek with⟨e2,z⟩|⟨nk,O⟩
  .subst e2;have hl:k<σ.length:=by have:=(gp.mp sk).1;simpa using this
   rw[List.getElem?_set_self hl]at sk;cases sk;show B j w a nj U oj "s" (at_ nj sj)
  show S.sep j k w w' b Y U O oj ok (at_ nj sj) (at_ nk sk)
 rcases qE e with⟨rfl,z⟩|⟨nj,ej⟩
 .cases z;have hl:j<σ.length:=by
   rw[<- S.len];have:=(gp.mp e).1;simpa using this
  show#[λk z hk ek=>?_,a,bs,List.getElem?_set_self hl,h0 a "s",hf,nd,Deep.older (λc z=>Le.none S.gr.h z) dp,λk w b hk ek ok m sk=>?_]
  .rcases qE ek with⟨rfl,_⟩|⟨_,q⟩
   .show hk rfl
   show Z k z hk q
  rcases qE ek with⟨rfl,_⟩|⟨nk,q⟩
  .show hk rfl
  rw[hU (tu nk)]at sk;show B k w b hk q ok m sk
 show(Z j y nj ej).elim
def uG(i:Nat)(ρ:Rho):En->Out
 | .od (.tup _)=>.stuck
 | .od d=>if vQ i ρ=true then .nx (ρ.set i (!(.od d)))else .stuck
 | _=>.stuck
def uH(i:Nat)(e:EF):SF:=λρ=>sOf (e ρ) (uG i ρ)
def qbE{i:Nat}{ρ:Rho}{P:Out->Prop}(B:P .stuck->False)(h:P (uG i ρ w)):∃ d,w=.od d/\(∀ xs,d≠.tup xs)/\vQ i ρ=true/\P (.nx (ρ.set i (!(.od d)))):=by
 delta uG at h
 split at h
 .show(B h).elim
 .rename_i d nt;by_cases c:vQ i ρ=true
  .rw[iP c]at h;show#[d,rfl,λxs z=>nt xs (by rw[z]),c,h]
  simp_all
 show(B h).elim
def qbF(i){x:Str}{pos' B:Pos}{n:Nat}(N)(M:∀ H₂ p,Mem (kx X) H₂ p ad mk)(hN:X.N.Nodup)(hi:SIc X F0 H0 tg iter fi)(hno:kL gf)
  (hg:∀ s₂ F₂ H₂ C fp,SG (cxD X scope N s₂ H₂ C fp) F₂ H₂ tg gf)(he:∀ s₂ F₂ H₂ C fp,SE (cxD X scope N s₂ H₂ C fp) F₂ H₂ elt e)
  (hix:(X.N[i]?=!x)["r"])(hx:(Loc X.env.scope x)["t"])(hsw:(swapsWith (.ListComp elt [#[tg,iter,[],0]] scope pos) (!(.Name x pos')) B.line X.env=pure true)["r"])
  (hf:(X.fn x=true\/X.env.scope.names.lookup x=some .local)["t"])
  (hc:(X.calm=true)["r"])(Y:(scope.kind=.function)["r"])(Z:(vN X.env scope.names=true)["r"])(O:(yf (relabel scope X.env).names X.N N=true)["r"])(h3:(N[1]=X.N.length+n)["r"])
  (U:∀ x∈scope.names,x.2=.local->scope.names.lookup x.1=some .local:=by decide +kernel)(hs:∀ x,foldedSetIterable iter X.env x=pure x:=by intro _;rfl) :
  SS X F0 H0 (.Assign [.Name x pos'] (.ListComp elt [#[tg,iter,[],0]] scope pos) B) (uH i (V1 ad mk n fi gf e)):=by
 intro pins s σ F H ρ D S I h;rw[exec_Assign_Name_used _ _ _ _ hsw];show gg (mm (gg ?_));show gg (cu (Zy (fn:=λys=>.od (mk ys)) N (λa b=>(M a b).toMm) (λl h0 nf hv rs=>DV.older l ((M _ _).fin h0 nf hv rs)) hi hno hg (λ_ _ _ _ _=>.nil) he hc Y Z O h3 U hs S I ((PostS.of h).imp λw k p C F1 H1 s1 m g q I1 hn turn hC hL hcl=>?_)) (λ_ s' hq=>gy (gy hq)) λ_ _ e=>e)
 let⟨d,rfl,nt,c,k2⟩:=qbE (P:=PostS X F0 H0 F D) (λz=>z) k
 show bV (Z9 I1 hN hix hx (v:=.ref p) rfl (λs2 I2 hch=>?_) hf)
 let⟨a,sb,ha⟩:=hch;have aC:C≠a:=by
  rcases ha with z|z
  .rw[z];show hL
  show λq=>hcl x a z q.symm
 show#[m,hn.sameBut sb aC,λh' sb2=>#[_,H1,turn s2 H1 h' _ I2 hC λb o hb e=>(sb2.2 b hb).trans e,k2 _ F1 H1 g.f (S.setD g q nt (K7 c))]]
end
def but(H:Hp)(a:Addr):Hp:=λc=>if c=a then none else H c
def yO:but H a a=none:=iP rfl
def yP(h:c≠a):but H a c=H c:=iN h
def J9:Le (but H a) H:=λc u h=>by
 by_cases e:c=a
 .subst e;rw[yO]at h;cases h
 rw[yP e]at h;show h
def spM(κ:Kx)(dn:Den):Sp:=λvs H Q _=>∃ F a o d,vs=[.ref a]/\Le F (but H a)/\H a=!o/\OwnO κ F o d /\
 KE (λ_=>False) (dn [.ow d]) λw=>∀ v F' H',Gr F (but H a) F' H'->Vok κ (but H a) F' H' v w->Q v H'
section
variable{P:af}{w:World}{K:Frag}{mg:Str->Option aa}{base:Heap}
def fnM{st:Stmt}{N:List Str}{k:Nat}(F:Fun K x qual st f fd)(S:FnScope N [p] (defScope st))(hN:0<N[1])
  (h:∀ O A outer s H F0 H0,Room k (A.deeper (envOfC qual (defScope st) s[0] f O)) ->
   SSs (cxOf CX0 P w K mg base N qual (defScope st) f O A outer s H E0).nox F0 H0 (defBody st) body):FnOk P w K mg base CX0 (k+1) f fd [p] (spM #[P,w,K] (den N[1] body)):=by
 show F.ok S (λvs H Q E q=>by let⟨_,_,_,_,rfl,_⟩:=q;rfl) (λO A outer s H vs Q E hr q=>?_)
 let⟨F0,a,o,d,rfl,l,ho,ro,q⟩:=q;show#[Qz _ _,ub,λpins s' I=>?_]
 have B:=h O A outer s H F0 (but H a) hr;have B':SSs (cxOf CX0 P w K mg base N qual (defScope st) f O A outer s H E).nox F0 (but H a) (defBody st) body:=B;have fa:F0 a=none:=Le.none l yO;have Y:StOk #[P,w,K] F0 (but H a) F0 H ([En.ow d].map some++List.replicate (N[1] - [En.ow d].length) none) (L2.z9 N [.ref a]):=by
  have at_:∀ i (w:En),([En.ow d].map some++List.replicate (N[1] - [En.ow d].length) none)[i]?=!(!w)->i=0/\w=.ow d:=λi w e=>by
   cases i with
   | zero=>simp at e;show#[rfl,e.symm]
   | succ i =>
    simp only[gP,pW,List.cons_append,p7,pH,fJ]at e;lia
  show#[#[Le.refl,J9,Le.trans l J9,λ_ z=>.inl z],by simp[L2.z9],λi w e=>?_,λi j w w' b U ei ej oi oj si sj=>?_,λi y e=>?_]
  .let⟨rfl,rfl⟩:=at_ i w e;show#[.ref a,by simp[L2.z9],a,o,rfl,yO,fa,ho,ro]
  .show U ((at_ i w ei).1.trans (at_ j w' ej).1.symm)
  cases (at_ i _ e).2
 show B' pins s' (L2.z9 N [.ref a]) F0 H _ _ Y I ?_;have e:KE (λ_=>False) (den N[1] body [.ow d]) λw'=>∀ v F' H',Gr F0 (but H a) F' H'->Vok #[P,w,K] (but H a) F' H' v w'->Q v H':=q
 delta den fin at e
 cases eb:body ([En.ow d].map some++List.replicate (N[1] - [En.ow d].length) none)with
 | nx ρ=>rw[eb]at e;show λZ F' H' l' S'=>e .non F' H' S'.gr rfl
 | rt w'=>rw[eb]at e;show e
 | bk ρ=>rw[eb]at e;show e.elim
 | ct ρ=>rw[eb]at e;show e.elim
 | exc x=>rw[eb]at e;show e.elim
 | stuck=>rw[eb]at e;cases e
end
def StOk.forget{ρ:Rho}{i:Nat}(S:StOk κ F0 H0 F H ρ σ)(B:ρ[i]?=!(!d[9]))(O:σ[i]?=!(!(.ref a))):StOk κ F0 H0 F (but H a) (ρ.set i none) σ:=by
 let⟨v,e1,b,o,rfl,h0,hf,hh,ro⟩:=S.val i _ B;rw[O]at e1;cases e1;show#[#[S.gr.f,λc u h=>?_,λc u h=>?_,S.gr.n],by simpa using S.len,λj w e=>?_,λj k w w' c U ej ek oj ok sj sk=>?_,λj y e=>?_]
 .rw[yP (jN h h0)];show S.gr.h c u h
 .rw[yP (jN h hf)];show S.gr.s c u h
 .rcases qE e with⟨_,z⟩|⟨ne,z⟩
  .lia
  let⟨v,e1,q⟩:=S.val j w z;show#[v,e1,?_];have nb:∀{c},v=.ref c->w.own=true->c≠a:=λ{c} ev ow ec=>by
   subst ev ec;show S.sep j i w _ c ne z B ow rfl e1 O
  cases w with
  | fz d=>show q
  | br d=>show q
  | ow d=>let⟨c,oc,ec,c0,cf,ch,cr⟩:=q;show#[c,oc,ec,c0,cf,(yP (nb ec rfl)).trans ch,cr]
  | lk d=>show q
  | od d=>let⟨c,oc,ec,c0,cf,ch,nt⟩:=q;show#[c,oc,ec,c0,cf,(yP (nb ec rfl)).trans ch,nt]
 .rcases qE ej with⟨_,z⟩|⟨nj,ej⟩
  .lia
  rcases qE ek with⟨_,z⟩|⟨nk,ek⟩
  .lia
  show S.sep j k w w' c U ej ek oj ok sj sk
 rcases qE e with⟨_,z⟩|⟨nj,ej⟩
 .cases z
 let⟨s1,c,bs,e1,c0,cf,nd,dp,sp⟩:=S.dp j y ej;have nb:∀ x∈c::bs,x≠a:=λx m z=>by subst z;show sp i _ _ (tu nj) B rfl m O
 show#[λk z hk ek=>?_,c,bs,e1,c0,cf,nd,Deep.same (λx m=>(yP (nb x m)).symm) (λx m z=>z) Le.refl dp,λk w x hk ek ok m=>?_]
 .rcases qE ek with⟨_,q⟩|⟨_,q⟩
  .lia
  show s1 k z hk q
 rcases qE ek with⟨_,q⟩|⟨_,q⟩
 .lia
 show sp k w x hk q ok m
section
variable{X:Cx}{F0 H0:Hp}{pos:Pos}
variable{κ:Kx}{F H:Hp}
end
def Itv(K:Frag)(a:Addr)(n:Nat):It :=
 #[λi H=>∃ xs x,SqL K H a xs/\xs[1]=n/\i<n/\xs[n-1-i]?=!x,λi H x H'=>H'=H/\∀ xs,SqL K H a xs->xs[n-1-i]?=!x,λi H=>n<=i]
def qbG{K:Frag}(a it:Addr)(n:Nat):Turn P w K tg (Itv K a n) [it] it (λi h=>i<=n/\h.IsRevIter it a ((n:Int)-1-(i:Int)))where
 mem:=by simp
 obj:=λi h #[_,st] b hb=>by
  have e:b=it:=by simpa using hb
  subst e;let⟨o,e,c,d⟩:=st;show#[o,e,λv z=>by rw[d]at z;cases z]
 keep:=λi h h' #[l,st] k=>#[l,st.at λo e=>k it "s" o e]
 item:=by
  intro X hP hw hK hc i pins s σ H E I hf ⟨le,st⟩ hg;subst hP hw hK;let⟨xs,x,hq,hn,hi,hx⟩:=hg;let⟨its,rv,p,hz⟩:=I.list hq;let⟨u,hu,ru⟩:=rv.get hx;let⟨f0,f1,f2,f3,f4,f5⟩:=hf it "s"
  have e1:n-1-i=((n-1-i:Nat):Int):=""
  rw[e1]at st;show wpAny_pyNext_rev_item st p.isList (x:=u) hu[""] λh' B sb=>?_
  have I1:"I" H {s with heap:=h'}:=I.turned (t':=s.toks) (λb o hb e=>(sb.2 b hb).trans e) f0 f1 f3 f4 f5
  have e2:(n-1-i:Nat)-1=n-1-((i+1):Int):=""
  rw[e2]at B;let⟨o,e,c,d⟩:=id B;show#[u,rfl,yz (s:={s with heap:=h'}) e c d "d" #[x,H,I1,ru,#[rfl,λys hy=>by rw[I.list_inj hy hq];show hx],#[hi,B],λb hb=>(hf b hb).1]]
 done:=by
  intro X hP hw hK hc i pins s σ H E I hf ⟨le,st⟩ hg;subst hP hw hK;let⟨f0,f1,f2,f3,f4,f5⟩:=hf it "s"
  have hg:n<=i:=hg;have e1:n-1-(i:Int)=-1:=""
  rw[e1]at st;show wpAny_pyNext_rev_end (I.ok.hd hc) st λh' eb=>#[rfl,I.turned (t':=s.toks) (λb o hb e=>eb b o hb e) f0 f1 f3 f4 f5]
 self:=λ_ _ _ _ _ #[_,st] h=>bu st h
theorem Kp{κ:Kx}{vs:List V}{ds:List D}(B:∀ F H,Le F1 F->Le F H->Le G H->SqL κ.K H a vs)(rs:Reps κ F1 vs ds):Walk κ (Itv κ.K a vs[1]) F1 G ds.reverse where
 go:=λi x F H ed l1 l lg=>by
  have ll:=Reps.length rs;have hi:i<ds[1]:=by have:=(gp.mp ed).1;simpa using this
  rw[List.getElem?_reverse hi]at ed;let⟨v,ev,rv⟩:=Reps.get rs ed;have q:=B F H l1 l lg;rw[<- ll]at ev;show#[#[vs,v,q,rfl,"",ev],λy H' z=>?_]
  let⟨rfl,w⟩:=z;have:=w vs q;rw[ev]at this;cases this;show#[F,Gr.refl l,Rep.le l1 x rv]
 stop:=λi F H hi l1 l lg=>by
  show vs[1]<=i;rw[Reps.length rs];simpa using hi
def Ja(i:Nat):IF:=λρ=>match ρ[i]? with
 | some (!(.lst ds)[8])=>.ok ds.reverse
 | some (!(.br (.lst ds)))=>.ok ds.reverse
 | _=>.stuck
section
variable{X:Cx}{F0 H0:Hp}{tg:Expr}{pos:Pos}
def qbH(i)(O:X.mg "reversed"=none)(U:(Nm X i x)["t"])(Y:(Gl X "reversed")["r"])(Z:(sE [.Name x pos] X.env=[(false,eval (.Name x pos) X.env)])["r"]) :
  SI X F0 H0 tg (.Call (.Name "reversed" np) [.Name x pos] [] cp) (Ja i):=by
 show#[λσ H R=>∃ a xs,σ[i]?=!(!(.ref a))/\SqL X.K H a xs/\R (Itv X.K a xs[1]) H,λpins s σ H R I #[p,xs,hσ,hq,hR]=>?_,λσ F H ρ R S h=>?_]
 .show Call_ (zL I Y O boot_reversed (tF ?_ Z rfl));show hZ (thn (pvN U pins s σ H (λv' H'=>v'=.ref p/\H'=H) I #[_,hσ,rfl,rfl]) λu s1 #[v1,H1,I1,r1,e1,e2]=>?_)
  subst e1 e2;obtain rfl:u=Value.ref p:=r1;show tM ?_;let⟨its,rv,pl,hz⟩:=I1.list hq;have z:=rv[1];show call_reversed_list pl.isList ?_;have B:(s1.heap.push (revObj p ((its.toArray.size)-1))).IsRevIter s1[0] p ((xs[1])-1-0):=by
   show#[_,gM _ rfl,rfl,?_];rw[z];simp[revObj]
  show bu (s:={s1 with heap:=s1.heap.push (revObj p ((its.toArray.size)-1))}) B ?_;show#[_,_,_,_,H1,rfl,I1.kept (t':=s1.toks) λb o e=>gu _ e,qbG p s1[0] xs[1],#[tP _,B],λb hb=>?_,hR]
  obtain rfl:b=s1[0]:=by simpa using hb
  show I1.fpOk (gC _) (I1.hok.fresh (gC _))
 unfold Ja at h;cases ew:ρ[i]? with
 | none=>rw[ew]at h;show h.elim
 | some w =>
  rw[ew]at h;cases w with
  | none=>cases h
  | some w =>
   let⟨v,e1,q⟩:=S.val i w ew;cases w with
   | ow d=>cases h
   | lk d=>cases h
   | od d=>cases h
   | fz d =>
    cases d<;>first|show h.elim|skip
    let⟨a,vs,rfl,hq,rs⟩:=q;show#[a,vs,e1,SqL.le S.s hq,h F H _ (Gr.refl S.s) (Kp (κ:=kx X) (λF' H' l1 l _=>SqL.le l (SqL.le l1 hq)) rs)]
   | br d =>
    let⟨a,o,rfl,eh,ro⟩:=q;cases d<;>first|show h.elim|skip
    cases o<;>first|show ro.elim|skip
    show#[a,_,e1,SqL.of (S.gr.h _ _ eh),h F H _ (Gr.refl S.s) (Kp (κ:=kx X) (λF' H' _ _ lg=>SqL.le lg (SqL.of eh)) ro)]
end
inductive EntS(w:World)(K:Frag):List DictEntry->List (Sum Int Str×D)->Prop
 | nil:EntS w K [] []
 | cons {e:DictEntry} {es:List DictEntry} {x:Str} {t:Tok} {d:D} {r:List (Sum Int Str×D)}:e.key=.str x t->e.hash=hashStr w x->vM K 8 e.val=!d->EntS w K es r->EntS w K (e::es) ((.inr x,d)::r)
def DatS(w:World)(K:Frag)(a:Addr)(l:List (Sum Int Str×D)):Prop:=∃ o es ep,K.lookup a=!o/\o.data=.dict es ep/\(o.cls==Value.type "dict"&&o.dict==none&&o.slots.size==0&&not (a==sysModules))=true/\(l.map (·.1)).Nodup/\EntS w K es[2] l
def qbI{l:List (Sum Int Str×D)}(h:EntS κ.w κ.K es l) :
  ∃ kvs vs,KV kvs vs/\Pairs (jj κ.P κ.w) es vs/\vs.map (·.1)=l.map (·.1)/\(∀ e∈es,∃ k,(jj κ.P κ.w).is k e.key=true/\e.hash=(jj κ.P κ.w).hash k)/\∀ F,RepK κ F kvs l:=by
 induction h with
 | nil=>show#[[],[],.nil,.nil,rfl,λe he=>(nomatch he),λ_=>rfl]
 | @cons e es x t d r ek eh ed _ ih =>
  let⟨kvs,vs,r1,r2,r3,r4,r5⟩:=ih;let⟨v,rv,qv⟩:=Ym 8 e.val d ed;have hk:(jj κ.P κ.w).is (Sum.inr x) e.key=true:=by rw[ek];show WC _ _ x t
  show#[(Sum.inr x,v)::kvs,(Sum.inr x,e.val)::vs,.cons #[rfl,rv] r1,.cons hk rfl r2,by simp[r3],λe' he=>?_,λF=>#[v,kvs,rfl,qv F,r5 F]]
  rcases gw.mp he with z|he
  .subst z;show#[Sum.inr x,hk,eh]
  show r4 e' he
def qbJ(h:DatS κ.w κ.K a l):∃ x,RelV x (.ref a)/\∀ F,Rep κ F x (.dK l):=by
 let⟨o,es,ep,lk,ed,c,nd,en⟩:=h;simp only[hE]at c;let⟨⟨⟨c1,c2⟩,c3⟩,c4⟩:=c;let⟨kvs,vs,r1,r2,r3,r4,r5⟩:=qbI en;have z:o.slots=#[]:=by
  simp_all
 show#[.ref a,rfl,λF=>#[a,kvs,rfl,.inr #[by simpa using c4,o,es,ep,vs,lk,#[by simpa using c1,by simpa using c2,z],ed,λe he=>r4 e he[""],r2,by rw[r3];show nd,r1],r5 F]]
theorem V2:∀{xs} {ns} {i:Nat} {v},IntsAre xs ns->xs[i]?=!v->∃ a t,v=.int a t/\ns[i]?=!a
 | _,_,i,v,.nil,h=>by simp at h
 | _,_,0,v,.cons a t _,h=>by simp at h;show#[a,t,h.symm,rfl]
 | _,_,i+1,v,.cons a t r,h=>by
  let⟨b,u,e1,e2⟩:=V2 r h[""]
  show#[b,u,e1,by simpa using e2]
section
open PySem.SeqAt PySem.MeetsSeq PySem.MeetsSeq2 PySem.MeetsSeq3
open PySem.AutoSeq1 (wpAny_loadPart')
end
section
variable{X:Cx}
end
def qbK(K:Frag):V->List V->Hp->VK->Prop:=λx vs H Q=>∃(p:Addr) (ns:List Int) (v:Int) (j:Nat),x=.ref p/\SqL K H p (ns.map V.int)/\vs=[.int v]/\ns.findIdx? (λn:Int=>n==v)=!j/\Q (j:Int)[6] H
def isV(v:Int):aa->Bool
 | .int a _=>a==v
 | _=>false
section
variable{X:Cx}
def qbL:MtR X "list.index" (qbK X.K):=by
 intro pins s σ H x vs v us Q I rx rv h;let⟨p,ns,n0,j,rfl,hq,rfl,hj,q⟩:=h;cases rx;let⟨u,rfl,ru⟩:=rv.one;let⟨t2,rfl⟩:=ru;let⟨its,r1,p1,hz⟩:=I.list hq;have ia:IntsAre its ns:=kt r1;have il:=ia[1];let⟨⟨cls,dd,data,sl⟩,n,ho,hc,Y,hd⟩:=id p1;subst hc hd;let⟨jl,jt,jf⟩:=List.findIdx?_eq_some_iff_getElem.mp hj;have U:its.toArray.size=ns[1]:=by simp;omega
 have at_:∀ m hm (z:m<ns[1]),isV n0 its.toArray[m]=(ns[m]==n0):=λm hm z=>by
  let⟨a,t,e1,e2⟩:=V2 ia (gG hm[""])
  have e3:its.toArray[m]=.int a t:=by simpa using e1
  have e4:ns[m]=a:=by rw[gG z]at e2;show tN e2
  rw[e3,e4];rfl
 show bg (prog:=X.prog) (w:=X.w) PySem.F.slot_list_index #[_,ho,rfl] PySem.F.entry_list_index (PySem.F.args_list_index_2 _ _) (PySem.SeqAt.list_indexAt p its.toArray n dd sl (.int n0 t2) (isV n0) j "" (by rw[pC]at hz;simp at hz;lia) (by rw[at_ j "" jl];show jt) (λm hm B=>by
  rw[at_ m hm ""]
  have:=jf m B;simpa using this) X.prog X.w) #[ho,λy hy=>?_,?_]
 .let⟨i,hi,O⟩:=Array.mem_iff_getElem.mp hy;let⟨a,t,e1,e2⟩:=V2 (i:=i) ia (gG hi[""])
  have e3:its.toArray[i]=.int a t:=by simpa using e1
  rw[<- O,e3];show PySem.SeqAt.EqAt.int_int a t n0 t2
 show#[.int j,H,I.tok _,#[_,rfl],q]
end
def uI:D->D->R En
 | .lst xs,.int v=>(match jX xs with
  | some ns=>(match ns.findIdx? (λn:Int=>n==v)with|some j=>okI (j:Int)|none=>.stuck)
  | none=>.stuck)
 | _,_=>.stuck
section
variable{X:Cx}{F0 H0:Hp}
def qbM{apos cpos:Pos}(Z:"S" o fo)(he:"S" e f)
  (B:(attributeBase o "index" X.env (eval o X.env)=eval o X.env)["r"])
  (U:(((backTo cpos (sE [e] X.env)).all (λx=>not x.1)&&(backToKw cpos (keywordEach [] X.env)).all (λx=>x.1.isSome)
   && decide ([e].length+([]:List Keyword)[1]+(if ([]:List Keyword).isEmpty then 0 else 1)<30))=true)["r"])
  (O:((apos.endLine==cpos.line)=true)["r"]) (Y:(sE [e] X.env=(false,eval e X.env)::sE [] X.env)["r"]) (z:((backTo cpos (sE [] X.env)).any (·.1)=false)["r"]) :
  "S" (.Call (.Attribute o "index" apos) [e] [] cpos) (eOp uI fo f):=by
 intro pins s σ F H ρ Q S I h;have P:=wL p6 PySem.F.slot_list_index PySem.F.type_list_index qbL (jd (e:=o)) (zM (jd (e:=e)) vI Y) B U O Y z;show vz (pins:=pins) (σ:=σ) (P pins s σ H _ I (Z.sem S ((KE.bind h).imp λw0 k0 y0 F0' H0' g0 q0=>?_)))
 have r0:=Vok.rd q0
 revert k0
 generalize w0.d=d0 at r0;intro k0;cases d0<;>first|(cases fe:f ρ with|exc _=>rw[fe]at k0;show k0.elim|stuck=>rw[fe]at k0;show k0.elim|ok w=>rw[fe]at k0;show(show False from k0).elim)|skip
 rename_i xs;let⟨p,vs,rfl,hq,rs⟩:=RdV.lst g0.s r0;show#[.inl #[rfl,vs,hq],he.sem (S.grow g0) ((KE.bind k0).imp λw k y F1 H1 g1 q1=>?_)]
 have r:=Vok.rd q1
 revert k
 generalize w.d=d at r;intro k;cases d<;>first|show k.elim|skip
 rename_i v
 delta uI at k
 dsimp only at k;cases ei:jX xs with
 | none=>rw[ei]at k;show k.elim
 | some ns =>
  rw[ei]at k;dsimp only at k;have ev:=yH ei rs;subst ev;cases ej:ns.findIdx? (λn=>n==v)with
  | none=>rw[ej]at k;show k.elim
  | some j =>
   rw[ej]at k;cases RdV.int r;show#[p,ns,v,j,rfl,SqL.le g1.h hq,rfl,ej,λu s' rv I'=>k j[6] u F1 H1 s' (g0.trans g1) rfl rv I']
end
open PySem L2
def v7{α:Type}(n:Nat)(xs:List α):List α:=(List.replicate n xs).flatten
def Kq{α:Type}(xs:List α):∀ n,(v7 n xs)[1]=xs[1]*n:=λn=>n.recAux
 (by simp[v7])
 λn IH=>by
  have:=IH;unfold v7 at this ⊢;rw[pO,tQ,gD,this,Nat.mul_succ];lia
def Reps.rep(h:Reps κ F vs ds):∀ n,Reps κ F (v7 n vs) (v7 n ds):=λn=>n.recAux
 (rfl)
 λn IH=>by
  have:=IH;show Reps.append h this
def Vals.rep(h:Vals vs us):∀ n,Vals (v7 n vs) (v7 n us):=λn=>n.recAux
 (.nil)
 λn IH=>by
  have:=IH;show Vals.append h this
def xm:D->D->R En
 | .int i,.lst xs=>if i<1048576/\-1048576<=i/\xs[1]*i.toNat<=sz then .ok (.lst (v7 i.toNat xs))[9]else .stuck
 | .lst xs,.int i=>if i<1048576/\-1048576<=i/\xs[1]*i.toNat<=sz then .ok (.lst (v7 i.toNat xs))[9]else .stuck
 | x,y=>zm x y
section
variable{X:Cx}
def qbN:OpD X (binaryOp .Mult) xm:=by
 intro pins s σ F H x y v u dx dy Q I l rx ry qx qy w;cases dx<;>first|show w.elim|skip
 .rename_i i;cases dy<;>first|show w.elim|skip
  .show wc pins s σ F H x y v u _ _ Q I l rx ry qx qy w
  rename_i xs
  delta xm at w
  dsimp only at w;split at w
  .rename_i c;let⟨b,us,rfl,hq,rs⟩:=RdV.lst l qy;cases RdV.int qx;let⟨t1,rfl⟩:=rx;cases (show u=Value.ref b from ry)
   let⟨its,rv,pl,hz⟩:=I.list hq;let⟨⟨cls,dd,data,sl⟩,ho,hc,n,hd⟩:=pl.isList;simp only at hc hd;subst hc hd;have hl:its.toArray.size*i.toNat<=sizeLine:=by
    rw[gU,<- rv[1],Reps.length rs,<- zX];show c.2.2
   have z:its.toArray.size*i.toNat<=16777216:=hl;have B:((2 ^ 63-1)/8)=1152921504606846975:=by decide
   show lm_binaryOp_repeat_right (T:="list") (U:="int") "d" (λs'=>bz s' i t1) #[_,ho,rfl] PySem.F.fills_int_mul noFill_list_mul PySem.F.slot_int_mul lm_noRepeat_int repeat_list PySem.F.slot_int_index.lookup (bX PySem.F.slot_int_mul (bz s i t1) PySem.F.entry_int_mul (PySem.F.args_int_mul_2 _ _) (lm_int_mul_list_any i t1 b its.toArray n dd sl) #[ho,rfl,#[_,ho,rfl],bX PySem.F.slot_list_mul #[_,ho,rfl] PySem.F.entry_list_mul (PySem.F.args_list_mul_2 _ _) (lm_list_mul_any b its.toArray n dd sl i t1 (by simp[Builtin.List.listFitsIndex];lia) (by rw[B];lia) (by simp[Builtin.List.listTooLong,sizeLine];simpa using z)) #[ho,?_]])
   rw[listMul_foldl_if];have hp:H s[0]=none:=I.hok.fresh (gC _);show#[.ref s[0],upd H s[0] (.lst (v7 i.toNat us)),I.laid (t':=s.toks) (λb o q=>gu _ q) (gC _) #[?_,v7 i.toNat its,0,Vals.rep rv _,gM _ rfl],rfl,?_]
   .rw[Kq,rv[1]];simpa using hl
   show w _ _ _ (Gr.new l hp) #[_,_,rfl,hp,Le.none l hp,qS,Reps.rep rs _]
  show w.elim
 rename_i xs;cases dy<;>first|show w.elim|skip
 rename_i i
 delta xm at w
 dsimp only at w;split at w
 .rename_i c;let⟨b,us,rfl,hq,rs⟩:=RdV.lst l qx;cases RdV.int qy;let⟨t1,rfl⟩:=ry;cases (show v=Value.ref b from rx)
  let⟨its,rv,pl,hz⟩:=I.list hq;let⟨⟨cls,dd,data,sl⟩,ho,hc,n,hd⟩:=pl.isList;simp only at hc hd;subst hc hd;have hl:its.toArray.size*i.toNat<=sizeLine:=by
   rw[gU,<- rv[1],Reps.length rs,<- zX];show c.2.2
  have z:its.toArray.size*i.toNat<=16777216:=hl;have B:((2 ^ 63-1)/8)=1152921504606846975:=by decide
  show wpAny_binaryOp_repeat_ref (T:="list") (U:="int") "d" #[_,ho,rfl] (λs'=>bz s' i t1) noFill_list_mul PySem.F.fills_int_mul PySem.F.slot_int_rmul repeat_list PySem.F.slot_int_index.lookup (bX PySem.F.slot_int_rmul (bz s i t1) PySem.F.entry_int_rmul (PySem.F.args_int_rmul_2 _ _) (lm_int_rmul_list_any i t1 b its.toArray n dd sl) #[ho,rfl,#[_,ho,rfl],bX PySem.F.slot_list_mul #[_,ho,rfl] PySem.F.entry_list_mul (PySem.F.args_list_mul_2 _ _) (lm_list_mul_any b its.toArray n dd sl i t1 (by simp[Builtin.List.listFitsIndex];lia) (by rw[B];lia) (by simp[Builtin.List.listTooLong,sizeLine];simpa using z)) #[ho,?_]])
  rw[listMul_foldl_if];have hp:H s[0]=none:=I.hok.fresh (gC _);show#[.ref s[0],upd H s[0] (.lst (v7 i.toNat us)),I.laid (t':=s.toks) (λb o q=>gu _ q) (gC _) #[?_,v7 i.toNat its,0,Vals.rep rv _,gM _ rfl],rfl,?_]
  .rw[Kq,rv[1]];simpa using hl
  show w _ _ _ (Gr.new l hp) #[_,_,rfl,hp,Le.none l hp,qS,Reps.rep rs _]
 show w.elim
end
def yn:List Int->List (List Int)->List Int
 | m,[]=>m
 | m,q::r=>yn (if HT.lexLt q m=true then q else m) r
section
variable{prog:af}{w:World}{A:ag}{R:Result->ab->Prop}{I l S:Addr}{us:List aa}{rk:aa->List Int}{h0:Heap}{M:List Int}
def yo(h0 h:Heap):Prop:=∀ b o,h0.get? b=!o->h.get? b=!o
def qbO{s0:ab}(hh:A.handled=none)(ne:l≠I)(nS:S≠I)(nl:S≠l)(hI:h0.get? I=none)(hS0:h0.get? S=none)
  (cmp:∀ u∈us,∀ v∈us,∀ s Q E,yo h0 s.heap->Q (.bool (HT.lexLt (rk u) (rk v))) s->wpAny (model prog w) A.in1 (richCompare .Lt u v) Q E s)
  (fin:∀ v h' tk,v∈us->rk v=M->yo h0 h'->R (.ok (.ret v)) {s0 with heap:=h',toks:=tk}) :
  ∀ k j h t vb c,us[1]-(j+1)=k->j+1<=us[1]->h.IsListIter I l (j+1)->h.IsList l us.toArray->vb∈us->yn (rk vb) ((us.drop (j+1)).map rk)=M ->
   h.get? S=↑#[.type "list",none,.seq (List.toArray [vb,vb]) c,#[]]->yo h0 h ->
   codeAny (model prog w) A (.builtin "min.loop" #[[.ref I,.none,.ref S],[]]) R {s0 with heap:=h,toks:=t}:=by
 have W:=Walks.list (prog:=prog) (w:=w) (A:=A.in1) hh I l ne us.toArray;have U:(toString "min"++toString ".loop")="min.loop":=by decide
 have zl:us.toArray.size=us[1]:=gU ..;have nSw:S∉[I]:=by simp[nS]
 have no:∀{b} {o},h0.get? b=!o->b≠I/\b≠S:=by
  lia
 intro k
 induction k with
 | zero =>
  intro j h t vb c hk hj it il hb hm hS kp;have hin:j+1=us[1]:=""
  show dJ dS ?_;rw[bn pj _];show(show wpAny _ A.in1 (seqItems? (.ref S) >>= _) _ _ _ from gg (fH (s:={s0 with heap:=h,toks:=t}) hS rfl ?_))
  show(show wpAny _ A.in1 (tryCatch (pyNext (.ref I)) _ >>= _) _ _ _ from gg (cQ (W.done {s0 with heap:=h,toks:=t} _ _ #[by rw[zl,<- hin];show it,il] λh1 t1 k1=>?_)))
  have z:=k1 S _ nSw hS;show(show wpAny _ A.in1 (updateSeq S (λ_=>#[]) >>= _) _ _ _ from gg (cA z rfl (gg (pR (gy ?_)))))
  show fin vb _ t1 hb ?_ λb o e=>?_
  .rw[hin,dj]at hm;show hm
  show(tT _ _ (tu (no e).2)).trans (k1 b o (by simp[(no e).1]) (kp b o e))
 | succ k ih =>
  intro j h t vb c hk hj it il hb hm hS kp;have B:j+1<us[1]:=""
  show dJ dS ?_;rw[bn pj _];show(show wpAny _ A.in1 (seqItems? (.ref S) >>= _) _ _ _ from gg (fH (s:={s0 with heap:=h,toks:=t}) hS rfl ?_))
  show(show wpAny _ A.in1 (tryCatch (pyNext (.ref I)) _ >>= _) _ _ _ from gg (cQ (W.item (j+1) {s0 with heap:=h,toks:=t} _ _ (by rw[zl];show B) #[it,il] λv h1 t1 hP O k1=>?_)))
  have z:=k1 S _ nSw hS;have Y:us[j+1]?=!v:=by simpa using hP
  have hv:v∈us:=t6 Y;have dr:us.drop (j+1)=v::us.drop (j+1+1):=by
   rw[fT B];congr 1;rw[gG B]at Y;show tN Y
  have Z:yo h0 h1:=λb o e=>k1 b o (by simp[(no e).1]) (kp b o e)
  rw[dr,gP]at hm;show(show wpAny _ A.in1 (tryCatch (holding [v,v] (richCompare .Lt v vb >>= _)) _ >>= _) _ _ _ from gg (cQ (fU (gg (cmp v hv vb hb _ _ _ Z ?_)))))
  show gg (fU (pN (gg (pR (gy ?_)))));unfold yn at hm;cases hl:HT.lexLt (rk v) (rk vb)with
  | true =>
   rw[hl]at hm;simp only[dq]at hm ⊢;show gg (cA z rfl (gg (pR ?_)));rw[U];have oth:∀ b,b≠S->∀ o,h1.get? b=!o->(h1.update S (Obj.mapSeq λ_=>(List.toArray [v,v]))).get? b=!o:=λb nb o e=>(tT _ _ (tu nb)).trans e
   show gy #[pZ pj _,ih (j+1) _ _ v _ "" B (O.1.at λo e=>oth I (tu nS) o e) (O.2.at λo e=>oth l (tu nl) o e) hv hm (fj _ z rfl) λb o e=>oth b (no e).2 o (Z b o e)]
  | false =>
   rw[hl]at hm;simp only[f9,cG]at hm ⊢;show gg (pR ?_);rw[U];show gy #[pZ pj _,ih (j+1) _ _ vb c "" B O.1 O.2 hb hm z Z]
def qbP{Q:aa->ab->Prop}{E:aa->ab->Prop}(hh:A.handled=none)(hl:s.heap.IsList l us.toArray){u0:aa}{ur:List aa}(U:us=u0::ur)(hM:yn (rk u0) (ur.map rk)=M)
  (cmp:∀ u∈us,∀ v∈us,∀ s' Q E,yo s.heap s'.heap->Q (.bool (HT.lexLt (rk u) (rk v))) s'->wpAny (model prog w) A.in1 (richCompare .Lt u v) Q E s')
  (fin:∀ v h' tk,v∈us->rk v=M->yo s.heap h'->Q v {s with heap:=h',toks:=tk}) :
  wpAny (model prog w) A (call (.builtin "min") [.ref l]) Q E s:=by
 have Z:(toString "min"++toString ".loop")="min.loop":=by decide
 have hlt:l<s[0]:=by
  let⟨oo,eo,_⟩:=id hl;show gN eo
 show call_function_tree PySem.F.kind_min PySem.F.plain_min PySem.F.entry_min (PySem.F.args_min1 _) ?_;show(show wpAny _ A.in1 (Builtin.Builtins.bindParams "min" ["key","default"] 0 #[[],[]] >>= _) _ _ s from gg (wpAny_of_eq (show Builtin.Builtins.bindParams "min" ["key","default"] 0 #[[],[]]=pure [none,none]from rfl) (gg (gy ?_))))
 show gg (wpAny_pyIter_list hl (gg (f8 ?_)));show gy #[pZ pj _,dJ dS ?_];generalize eh:(s.heap.push {cls:=.type "list_iterator",data:=.fields (List.toArray [.ref l,.int 0 0])})=hA;have zA:hA.objs.size=s[0]+1:=by rw[<- eh];show cP ..
 have kA:yo s.heap hA:=λb o e=>by rw[<- eh];show gu _ e
 have itA:hA.IsListIter s[0] l 0:=by rw[<- eh];show#[_,gM _ rfl,rfl,rfl]
 have B:hA.objs.size≠s[0]:=""
 have lB:hA.IsList l us.toArray:=hl.at λo e=>kA _ _ e
 have far:∀ b,s[0]<=b->s.heap.get? b=none:=λb hb=>by
  cases e:s.heap.get? b with
  | none=>rfl
  | some o=>show absurd (gN e) (Nat.not_lt.mpr hb)
 have nI:s.heap.get? s[0]=none:=far _ (gC _);have nS:s.heap.get? hA.objs.size=none:=far _ (by rw[zA];show dZ _)
 generalize eB:(hA.push {cls:=.type "list",data:=.seq #[]})=hB;have kB:yo hA hB:=λb o e=>by rw[<- eB];show gu _ e
 have hS:hB.get? hA.objs.size=↑#[.type "list",none,.seq #[] 0,#[]]:=by rw[<- eB];show gM _ rfl
 have ne:l≠s[0]:=t8 hlt;have nl:hA.objs.size≠l:=λz=>by rw[zA]at z;show absurd hlt (by rw[<- z];show Nat.not_lt.mpr (dZ _))
 have W:=Walks.list (prog:=prog) (w:=w) (A:=A.in1) hh s[0] l ne us.toArray;have e0:us[0]?=!u0:=by rw[U];rfl
 show(show wpAny _ A.in1 (seqItems? (.ref hA.objs.size) >>= _) _ _ _ from gg (fH (s:={s with heap:=hB}) hS rfl ?_))
 show(show wpAny _ A.in1 (tryCatch (pyNext (.ref s[0])) _ >>= _) _ _ _ from gg (cQ (W.item 0 {s with heap:=hB} _ _ (by rw[U];simp) #[itA.at λo e=>kB _ _ e,lB.at λo e=>kB _ _ e] λv h1 t1 hP Y k1=>?_)))
 have hv:v=u0:=by
  have:us[0]?=!v:=by simpa using hP
  rw[e0]at this;show(tN this).symm
 subst hv;have hS1:=k1 hA.objs.size _ (by simp[B]) hS
 show(show wpAny _ A.in1 (updateSeq hA.objs.size (λ_=>(List.toArray [v,v])) >>= _) _ _ _ from gg (cA hS1 rfl ?_))
 rw[Z];have O:∀ b,b≠hA.objs.size->∀ o,h1.get? b=!o->(h1.update hA.objs.size (Obj.mapSeq λ_=>(List.toArray [v,v]))).get? b=!o:=λb nb o e=>(tT _ _ (tu nb)).trans e
 show gy #[pZ pj _,qbO (s0:=s) (h0:=s.heap) (M:=M) (rk:=rk) hh ne B nl nI nS cmp (λv h' tk hv he kp=>fin v h' tk hv he kp) _ 0 _ _ v _ rfl (by rw[U];simp) (Y.1.at λo e=>O _ (tu B) o e) (Y.2.at λo e=>O l (tu nl) o e) (by rw[U];show h9) (by rw[U];show hM) (fj _ hS1 rfl) λb o e=>?_]
 have n1:b≠s[0]:=λz=>by rw[z,nI]at e;cases e
 have n2:b≠hA.objs.size:=λz=>by rw[z,nS]at e;cases e
 show O b n2 o (k1 b o (by simp[n1]) (kB _ _ (kA _ _ e)))
end
def xn:List D->R En
 | [.lst ds]=>(match vO ds with|some (a::r)=>.ok (qP (yn a r))[8]|_=>.stuck)
 | _=>.stuck
def qbQ(Y:X.A.units+10<cLine)(U:(X.calm=true)["r"]):zW X (.builtin "min") xn:=by
 intro pins s σ F H xs us ds Q I l rx qx w;cases qx with
 | nil=>cases w
 | cons q1 q2 =>
  rename_i d _ _;cases q2 with
  | cons _ _=>cases d<;>show w.elim
  | nil =>
   cases d<;>first|show w.elim|skip
   rename_i ds
   delta xn at w
   dsimp only at w;cases e:vO ds with
   | none=>rw[e]at w;cases w
   | some rs =>
    rw[e]at w;cases rs with
    | nil=>cases w
    | cons a r =>
     let⟨p,vs,rfl,hq,O⟩:=RdV.lst l q1;cases rx with
     | cons r1 r2 =>
      cases r2;cases r1;let⟨its,rv,pl,hz⟩:=I.list hq;let⟨m,k⟩:=ZP I l e O rv;cases its with
      | nil=>cases m
      | cons u0 ur =>
       injection m with m1 m2;show qbP (rk:=qW s.heap) (I.ok.hd U) pl.isList rfl (by rw[m1,m2]) (λu B v z s' Q' E' kp q=>?_) λv h' tk z hm kp=>?_
       .let⟨b1,i1,n1,rfl,t1,j1,_,_⟩:=k u B;let⟨b2,i2,n2,rfl,t2,j2,_,_⟩:=k v z;rw[wQ t1 j1,wQ t2 j2]at q;have up:∀{b} {i:List aa},PyProof.Rows.IsTup s.heap b i.toArray->PyProof.Rows.IsTup s'.heap b i.toArray:=by
         intro b i t;let⟨o,eo,rest⟩:=t;show#[o,kp b o eo,rest]
        show HT.lt_tupInts (up t1) (up t2) j1 j2 (by show X.A.units+1<cLine;lia) q
       let⟨b1,i1,n1,rfl,t1,j1,rp,_⟩:=k v z;rw[wQ t1 j1]at hm;subst hm;show#[.ref b1,H,I.kept kp,rfl,je l w rp]
def vm(a b c:Int):Int:=if a>b then a-b else 0
def V3:D->D->D->R (List D)
 | .int a,.int b,.int c=>if -1000000<=a/\a<=1000000/\-1000000<=b/\b<=1000000/\c=-1 then .ok (xk a c (vm a b c).toNat)else .stuck
 | _,_,_=>.stuck
def iR3d(a b c:EF):IF:=λρ=>(a ρ).bind λx=>(b ρ).bind λy=>(c ρ).bind λz=>V3 x.d y.d z.d
def Kr{a b c:Int}(h:c=-1):Builtin.Range.rangeSize a b c=vm a b c:=by
 subst h
 delta Builtin.Range.rangeSize vm
 simp
def qbR(h1:-1000000<=a)(h2:a<=1000000)(z:-1000000<=b)(B:b<=1000000)(h:c=-1):Builtin.Range.small a b c=true:=by
 delta Builtin.Range.small
 rw[Kr h]
 delta vm
 simp only[Builtin.Range.rangeFitsLong,hE,decide_eq_true_eq];subst h
 grind
def qbS{X:Cx}(ha:"S" a fa)(B:"S" b fb)(hc:"S" c fc)(z:X.mg "range"=none)(hg:(Gl X "range")["r"])
  (hs:(sE [a,b,c] X.env=(false,eval a X.env)::sE [b,c] X.env)["r"])(O:(sE [b,c] X.env=(false,eval b X.env)::sE [c] X.env)["r"])(U:(sE [c] X.env=[(false,eval c X.env)])["r"])(Y:((backTo cp (sE [b,c] X.env)).any (·.1)=false)["r"]) :
  SI X F0 H0 tg (.Call (.Name "range" np) [a,b,c] [] cp) (iR3d fa fb fc):=by
 show#[λσ H R=>(Qu (yD X a) (Qu (yD X b) (Qu (yD X c) WO))) σ H λvs H1=>∃ i j k,vs=[.int i,.int j,.int k]/\(-1000000<=i/\i<=1000000/\-1000000<=j/\j<=1000000/\k=-1)/\R (Itr3 i k (vm i j k).toNat) H1,λpins s σ H R I h=>?_,λσ F H ρ R S h=>?_]
 .show Call_ (zL I hg z boot_range (tF (thn ((zM (jd (e:=a)) (zM (jd (e:=b)) (zM (jd (e:=c)) vI U) O) hs) cp pins s σ H _ I h) λus s1 #[vs,H1,I1,r1,q1]=>?_) hs Y))
  let⟨i,j,k,rfl,⟨b1,b2,b3,b4,b5⟩,hR⟩:=q1;cases r1 with
  | cons r r1 =>
   cases r1 with
   | cons r' r1 =>
    cases r1 with
    | cons r'' r1 =>
     cases r1;let⟨t,rfl⟩:=r;let⟨t',rfl⟩:=r';let⟨Z,rfl⟩:=r'';show call_range_3 "" ?_ (.inl (PyProof.noPylong_small ""))
     show wpAny_pyIter_range (IsRange.new ..) (qbR b1 b2 b3 b4 b5) ?_;have I2:"I" H1 {s1 with heap:=s1.heap.push {cls:=.type "range",data:=.fields (List.toArray [.int i t,.int j t',.int k Z])}}:=I1.kept (t':=s1.toks) λb o e=>gu _ e
     have n0:0<=vm i j k:=by delta vm;split<;>lia
     show#[_,[_],_,_,H1,rfl,I2.kept (t':=s1.toks) λb o e=>gu _ e,qbA _ i k (vm i j k).toNat,?_,λb B=>?_,hR]
     .have e1:i+(0:Nat)*k=i:=by simp
      have e2:((vm i j k).toNat)-(0:Nat)=Builtin.Range.rangeSize i j k:=by rw[Kr b5];lia
      rw[e1,e2];show gM _ rfl
     rw[tR]at B;subst B;show I2.fpOk (gC _) (I2.hok.fresh (gC _))
 show ha.sem S ((KE.bind h).imp λw1 k1 v1 F1 H1 g1 q1=>B.sem (S.grow g1) ((KE.bind k1).imp λw2 k2 v2 F2 H2 g2 q2=>hc.sem ((S.grow g1).grow g2) ((KE.bind k2).imp λw3 k3 v3 F3 H3 g3 q3=>?_)))
 have r1:=RdV.gr g3 (RdV.gr g2 (Vok.rd q1));have r2:=RdV.gr g3 (Vok.rd q2);have r3:=Vok.rd q3
 revert k3
 generalize w1.d=d1 at r1;generalize w2.d=d2 at r2;generalize w3.d=d3 at r3;intro k3;cases d1<;>first|show k3.elim|skip
 cases d2<;>first|show k3.elim|skip
 cases d3<;>first|show k3.elim|skip
 rename_i i j k
 delta V3 at k3
 dsimp only at k3;by_cases cc:-1000000<=i/\i<=1000000/\-1000000<=j/\j<=1000000/\k=-1
 .rw[iP cc]at k3;cases RdV.int r1;cases RdV.int r2;cases RdV.int r3;have k3:∀ F' H' J,Gr F H F' H'->Walk (kx X) J F' H0 (xk i k (vm i j k).toNat)->R J H':=k3;show#[i,j,k,rfl,cc,k3 F3 H3 _ ((g1.trans g2).trans g3) #[λm d F' H' ed l1 l2 _=>?_,λm F' H' z l1 l2 _=>?_]]
  .unfold xk at ed;rw[gH]at ed;let⟨q,eq,rfl⟩:=cU.mp ed;have hq:=gp.mp eq;have z:m<(vm i j k).toNat:=by simpa using hq.1
   have em:q=m:=by
    rw[cI z]at eq;show(tN eq).symm
   subst em;show#[z,λy H2' hy=>?_]
   let⟨rfl,rfl⟩:=hy;show#[F',Gr.refl l2,rfl]
  show(vm i j k).toNat<=m;simpa[xk]using z
 rw[iN cc]at k3;show k3.elim
section
variable{prog:af}{w:World}{A:ag}{E:aa->ab->Prop}{s:ab}
end
def qbT(dn:Den)(fa:List EF)(ρ:Rho):Option Xc:=match evs fa ρ with
 | .ok ws=>(match jU ws with
  | .ok ys=>(match dn ys with
   | .exc x=>!x
   | _=>none)
  | _=>none)
 | _=>none
def sX(dn:Den)(fa:List EF)(st:SF):SF:=λρ=>match qbT dn fa ρ with
 | some x=>.exc (nrm x)
 | none=>st ρ
section
variable{X:Cx}{F0 H0:Hp}{pos p pos2:Pos}{e:Expr}{es:List Expr}{fa:List EF}{x:Str}{k n:Nat}{f:Addr}{fd:FuncData}{ps:List Str}{dn:Den}{st:SF}
end
def qbU:Bool->aj->Array aj->Nat->Nat->Nat->StateT am Sem (Option Nat):=sortPriv% PySem.Builtin.gallop
def qbV:Nat->StateT am Sem Unit:=sortPriv% PySem.Builtin.setMinGallop
def qbW:Array aj->Array aj->StateT am Sem (Array aj):=sortPriv% PySem.Builtin.mergeLo
def qbX:Array aj->Array aj->StateT am Sem (Array aj):=sortPriv% PySem.Builtin.mergeHi
section
variable{prog:af}{w:World}{A:ag}{E:aa->ab->Prop}{s:ab}{kd:SortKind}{rk:aa->Int}{ini:Array aj}
def ask2{st:am}{p q:aj}{Q:Option Bool->am->Prop}(T:Tells prog w A s kd rk ini)(z:kindOf st=kd)(hp:p∈ini[2])(B:q∈ini[2])(h:Q (!(decide (rk p.1<rk q.1))) st):wpS (model prog w) A E s (lt' p q) Q st:=by
 rw[lt'_eq];show wpS_bind (bS ?_);rw[z];show wpS_bind (mw (mn (T.lt p hp q B _ _ #[rfl,wpS_pure h])))
def jS{st:am}{i:Nat}{Q:aj->am->Prop}(h:xs[i]?=!p)(q:Q p st):wpS (model prog w) A E s (elem' xs i) Q st:=by
 rw[elem'_eq,h];show wpS_pure q
abbrev bey(z:Bool)(key:aj)(B:Array aj)(base i:Nat):StateT am Sem (Option Bool):=elem' B (base+i) >>= λx=>if z=true then lt' x key else lt' key x >>= λo=>pure (o.map not)
def qbY{st:am}{z:Bool}{key p:aj}{base i:Nat}{Q:Option Bool->am->Prop}(T:Tells prog w A s kd rk ini)(O:kindOf st=kd)(hkey:key∈ini[2])(hp:arr[base+i]?=!p)(B:p∈ini[2])(ne:rk p.1≠rk key.1)
  (h:Q (!(decide (rk p.1<rk key.1))) st):wpS (model prog w) A E s (bey z key arr base i) Q st:=by
 show wpS_bind (jS hp ?_);cases z
 .rw[iN "d"]
  show wpS_bind (ask2 T O hkey B ?_);show wpS_pure ?_;have e:(not (decide (rk key.1<rk p.1)))=decide (rk p.1<rk key.1):=by
   lia
  simpa[e]using h
 rw[iP rfl];show ask2 T O B hkey h
structure Seg(rk:Value->Int)(ini arr:Array Keyed)(key:Keyed)(base n:Nat):Prop where
 sz:base+n<=arr.size
 mem:∀ p∈arr[2],p∈ini[2]
 hkey:key∈ini[2]
 up:∀ i j,i<j->j<n->av rk arr (base+i)<av rk arr (base+j)
 ne:∀ i,i<n->av rk arr (base+i)≠rk key.1
def Seg.get(S:Seg rk ini arr key base n){i:Nat}(h:i<n):∃ p,arr[base+i]?=!p/\p∈ini[2]/\av rk arr (base+i)=rk p.1:=by
 have hi:base+i<arr.size:=by have:=S.sz;lia
 show#[arr[base+i],pA arr (base+i) hi,S.mem _ "s",?_]
 delta av
 simp_all
def Seg.ask{st:am}{z:Bool}{key:aj}{base n i:Nat}{Q:Option Bool->am->Prop}(T:Tells prog w A s kd rk ini)(B:kindOf st=kd)(S:Seg rk ini arr key base n)(h:i<n)
  (q:Q (!(decide (av rk arr (base+i)<rk key.1))) st):wpS (model prog w) A E s (bey z key arr base i) Q st:=by
 let⟨p,h1,h2,h3⟩:=S.get h;have ne:=S.ne i h;rw[h3]at ne q;show qbY T B S.hkey h1 h2 ne q
def Seg.le(S:Seg rk ini arr key base n){i j:Nat}(h:i<=j)(z:j<n):av rk arr (base+i)<=av rk arr (base+j):=by
 rcases bM i j with c|c
 .show cE (S.up i j c z)
 rw[show i=j by lia];show pE _
def Jb(rk:aa->Int)(z:Array aj)(key:aj)(base n k:Nat):Prop:=k<=n/\(∀ i,i<k->av rk z (base+i)<rk key.1)/\∀ i,k<=i->i<n->rk key.1<av rk z (base+i)
def xo{st:am}{O:Bool}{base n B:Nat}{Q:Option Nat->am->Prop}(T:Tells prog w A s kd rk ini)(U:kindOf st=kd)(S:Seg rk ini arr key base n)(Y:B<n)
  (h:∀ k,Jb rk arr key base n k->Q ↑k st):wpS (model prog w) A E s (qbU O key arr base n B) Q st:=by
 have fin:∀ f lo hi,
   (∀ x l r R,r<=n->(r<=l->R (.done (none,l,r)) st)->(l<r->R (if av rk arr (base+(l+(r-l)/2))<rk key.1 then .yield (none,l+(r-l)/2+1,r)else .yield (none,l,l+(r-l)/2)) st)->wpS (model prog w) A E s (f x (none,l,r)) R st) ->
   lo<=hi->hi<=n->(∀ i,i<lo->av rk arr (base+i)<rk key.1)->(∀ i,hi<=i->i<n->rk key.1<av rk arr (base+i)) ->
   wpS (model prog w) A E s (forIn [:n] ((none,lo,hi):Option (Option Nat)×Nat×Nat) f) (λc z=>c.1=none/\z=st/\Jb rk arr key base n c.2.2) st:=by
  show λf lo hi hf l1 l2 l3 l4=>wpS_forRange (λx c z=>z=st/\∃ lo hi,c=(none,lo,hi)/\lo<=hi/\hi<=n/\hi-lo<=n-x/\(∀ i,i<lo->av rk arr (base+i)<rk key.1)/\(∀ i,hi<=i->i<n->rk key.1<av rk arr (base+i))) (λx c z _ lx hI=>?_) (λc z hI=>?_) #[rfl,lo,hi,rfl,l1,l2,"",l3,l4]
  .let⟨rfl,lo,hi,rfl,a1,a2,a3,a4,a5⟩:=hI;show hf x lo hi _ a2 (λc=>?_) λc=>?_
   .have e:lo=hi:=""
    subst e;show#[rfl,rfl,a2,a4,a5]
   by_cases d:av rk arr (base+(lo+(hi-lo)/2))<rk key.1
   .rw[iP d];show#[rfl,_,_,rfl,"",a2,"o",λi Z=>?_,a5]
    have:=S.le (i:=i) (j:=lo+(hi-lo)/2) "" ""
    lia
   rw[iN d];show#[rfl,_,_,rfl,"","","o",a4,λi g1 g2=>?_]
   have:=S.le (i:=lo+(hi-lo)/2) (j:=i) g1 g2;have:=S.ne (lo+(hi-lo)/2) ""
   lia
  let⟨rfl,lo,hi,rfl,a1,a2,a3,a4,a5⟩:=hI;have e:lo=hi:=""
  subst e;show#[rfl,rfl,a2,a4,a5]
 show wpS_bind (m:=bey O key arr base B) (S.ask T U Y ?_);dsimp only;by_cases c:av rk arr (base+B)<rk key.1
 .rw[tJ c,iP rfl];show wpS_bind (wpS_mono (wpS_forRange (λx c z=>z=st/\∃ lf of,c=(none,lf,of)/\lf<of/\lf<n-B/\x+1<=of/\av rk arr (base+(B+lf))<rk key.1)
   (Q:=λc z=>z=st/\∃ lf of,c=(none,lf,of)/\lf<of/\lf<n-B/\av rk arr (base+(B+lf))<rk key.1/\(n-B<=of\/rk key.1<av rk arr (base+(B+of)))) (λx c z _ lx hI=>?_) (λc z hI=>?_) #[rfl,0,1,rfl,"","","",by simpa using c]) λc z hc=>?_)
  .let⟨rfl,lf,of,rfl,a1,a2,a3,a4⟩:=hI;dsimp only;by_cases d:of≥n-B
   .rw[iP d];show wpS_pure #[rfl,lf,of,rfl,a1,a2,a4,.inl d]
   rw[iN d];show wpS_bind (m:=bey O key arr base (B+of)) (S.ask T U "" ?_)
   by_cases e:av rk arr (base+(B+of))<rk key.1
   .rw[tJ e];show wpS_pure #[rfl,of,2*of+1,rfl,"","","",e]
   rw[tm e];have:=S.ne (B+of) ""
   show wpS_pure #[rfl,lf,of,rfl,a1,a2,a4,.inr ""]
  .let⟨rfl,lf,of,rfl,a1,a2,a3,a4⟩:=hI;show#[rfl,lf,of,rfl,a1,a2,a4,.inl ""]
  let⟨rfl,lf,of,rfl,a1,a2,a4,a5⟩:=hc;dsimp only;show wpS_bind (wpS_mono (fin _ (B+lf+1) (B+min of (n-B)) (λx l r R hr g1 g2=>by
   dsimp only;by_cases d:l≥r
   .rw[iP d];show wpS_pure (g1 d)
   rw[iN d];have g2:=g2 ""
   show wpS_bind (m:=bey O key arr base (l+(r-l)/2)) (S.ask T U "" ?_)
   by_cases e:av rk arr (base+(l+(r-l)/2))<rk key.1
   .rw[iP e]at g2;rw[tJ e];show wpS_pure g2
   rw[iN e]at g2;rw[tm e];show wpS_pure g2) "" "" (λi hi=>?_) λi g1 g2=>?_) λc z hc=>?_)
  .have:=S.le (i:=i) (j:=B+lf) "" ""
   lia
  .rcases a5 with a5|a5
   .omega
   have:=S.le (i:=B+of) (j:=i) "" g2
   lia
  let⟨c1,rfl,pl⟩:=hc;rw[c1];show wpS_pure (h _ pl)
 rw[tm c,iN "d"]
 have ne0:=S.ne B Y;show wpS_bind (wpS_mono (wpS_forRange (λx c z=>z=st/\∃ lf of,c=(none,lf,of)/\lf<of/\lf<=B/\x+1<=of/\rk key.1<av rk arr (base+(B-lf)))
  (Q:=λc z=>z=st/\∃ lf of,c=(none,lf,of)/\lf<of/\lf<=B/\rk key.1<av rk arr (base+(B-lf))/\(B+1<=of\/(of<=B/\av rk arr (base+(B-of))<rk key.1))) (λx c z _ lx hI=>?_) (λc z hI=>?_) #[rfl,0,1,rfl,"","","",by simp;lia]) λc z hc=>?_)
 .let⟨rfl,lf,of,rfl,a1,a2,a3,a4⟩:=hI;dsimp only;by_cases d:of≥B+1
  .rw[iP d];show wpS_pure #[rfl,lf,of,rfl,a1,a2,a4,.inl d]
  rw[iN d];show wpS_bind (m:=bey O key arr base (B-of)) (S.ask T U "" ?_)
  by_cases e:av rk arr (base+(B-of))<rk key.1
  .rw[tJ e];show wpS_pure #[rfl,lf,of,rfl,a1,a2,a4,.inr #["",e]]
  rw[tm e];have:=S.ne (B-of) ""
  show wpS_pure #[rfl,of,2*of+1,rfl,"","","",""]
 .let⟨rfl,lf,of,rfl,a1,a2,a3,a4⟩:=hI;show#[rfl,lf,of,rfl,a1,a2,a4,.inl ""]
 let⟨rfl,lf,of,rfl,a1,a2,a4,a5⟩:=hc;dsimp only;show wpS_bind (wpS_mono (fin _ (B+1-min of (B+1)) (B-lf) (λx l r R hr g1 g2=>by
  dsimp only;by_cases d:l≥r
  .rw[iP d];show wpS_pure (g1 d)
  rw[iN d];have g2:=g2 ""
  show wpS_bind (m:=bey O key arr base (l+(r-l)/2)) (S.ask T U "" ?_)
  by_cases e:av rk arr (base+(l+(r-l)/2))<rk key.1
  .rw[iP e]at g2;rw[tJ e];show wpS_pure g2
  rw[iN e]at g2;rw[tm e];show wpS_pure g2) "o" "" (λi hi=>?_) λi g1 g2=>?_) λc z hc=>?_)
 .rcases a5 with a5|⟨a5,a6⟩
  .omega
  have:=S.le (i:=i) (j:=B-of) "o" ""
  lia
 .have:=S.le (i:=B-lf) (j:=i) g1 g2;lia
 let⟨c1,rfl,pl⟩:=hc;rw[c1];show wpS_pure (h _ pl)
abbrev Ris(rk:aa->Int)(l:List aj):Prop:=l.Pairwise λp q=>rk p.1<rk q.1
abbrev Blw(rk:aa->Int)(l m:List aj):Prop:=∀ p∈l,∀ q∈m,rk p.1<rk q.1
structure JL(rk:Value->Int)(a b:List Keyed)(o:List Keyed)(ia ib:Nat):Prop where
 la:ia<=a[1]
 lb:ib<=b[1]
 pm:o.Perm (a.take ia++b.take ib)
 up:Ris rk o
 ba:Blw rk o (a.drop ia)
 bb:Blw rk o (b.drop ib)
def JL.len(J:JL rk a b o ia ib):o[1]=ia+ib:=by
 have:=J.pm.length_eq;rw[gD,tD,tD,pB J.la,pB J.lb]at this;show this
def Ks(h:Ris rk l):Blw rk ((l.drop i).take k) (l.drop (i+k))/\Ris rk ((l.drop i).take k):=by
 have h1:Ris rk (l.drop i):=h.drop;have e:l.drop i=(l.drop i).take k++l.drop (i+k):=by rw[<- List.drop_drop,tU]
 rw[e]at h1;let⟨x,_,z⟩:=gW.mp h1;show#[λp hp q hq=>z p hp q hq,x]
def JL.chunkA(J:JL rk a b o ia ib)(O:Ris rk a){k:Nat}(U:ia+k<=a[1])(h:Blw rk ((a.drop ia).take k) (b.drop ib)):JL rk a b (o++(a.drop ia).take k) (ia+k) ib:=by
 let⟨c1,c2⟩:=Ks O;have B:∀ p∈(a.drop ia).take k,p∈a.drop ia:=λp hp=>fA hp
 have z:∀ p∈a.drop (ia+k),p∈a.drop ia:=λp hp=>by rw[<- List.drop_drop]at hp;show fB hp
 show#[U,J.lb,?_,gW.mpr #[J.up,c2,λp hp q hq=>J.ba p hp q (B q hq)],λp hp q hq=>?_,λp hp q hq=>?_]
 .rw[List.take_add];show(J.pm.append_right _).trans ?_;rw[hV,hV];show c9 _ List.perm_append_comm
 .rcases gE.mp hp with hp|hp
  .show J.ba p hp q (z q hq)
  show c1 p hp q hq
 rcases gE.mp hp with hp|hp
 .show J.bb p hp q hq
 show h p hp q hq
def JL.chunkB(J:JL rk a b o ia ib)(O:Ris rk b){k:Nat}(U:ib+k<=b[1])(h:Blw rk ((b.drop ib).take k) (a.drop ia)):JL rk a b (o++(b.drop ib).take k) ia (ib+k):=by
 let⟨c1,c2⟩:=Ks O;have B:∀ p∈(b.drop ib).take k,p∈b.drop ib:=λp hp=>fA hp
 have z:∀ p∈b.drop (ib+k),p∈b.drop ib:=λp hp=>by rw[<- List.drop_drop]at hp;show fB hp
 show#[J.la,U,?_,gW.mpr #[J.up,c2,λp hp q hq=>J.bb p hp q (B q hq)],λp hp q hq=>?_,λp hp q hq=>?_]
 .rw[List.take_add,<- hV];show J.pm.append_right _
 .rcases gE.mp hp with hp|hp
  .show J.ba p hp q hq
  show h p hp q hq
 rcases gE.mp hp with hp|hp
 .show J.bb p hp q (z q hq)
 show c1 p hp q hq
def Fin2(rk:aa->Int)(a b o:List aj):Prop:=o.Perm (a++b)/\Ris rk o
def JL.endA(J:JL rk a b o ia ib)(z:Ris rk a)(h:ib=b[1]):Fin2 rk a b (o++a.drop ia):=by
 have:=J.chunkA z (k:=a[1]-ia) (by have:=J.la;lia) (by rw[h,dj];show λp _ q hq=>nomatch hq)
 rw[(tZ (by rw[fG];show gC _))]at this
 show#[?_,this.up];have p:=this.pm;rw[h,cK,tZ (by have:=J.la;lia)]at p
 show p
def JL.endB(J:JL rk a b o ia ib)(z:Ris rk b)(h:ia=a[1]):Fin2 rk a b (o++b.drop ib):=by
 have:=J.chunkB z (k:=b[1]-ib) (by have:=J.lb;lia) (by rw[h,dj];show λp _ q hq=>nomatch hq)
 rw[(tZ (by rw[fG];show gC _))]at this
 show#[?_,this.up];have p:=this.pm;rw[h,cK,tZ (by have:=J.lb;lia)]at p
 show p
def JL.endL(J:JL rk a b o ia ib)(z:Ris rk a)(B:Ris rk b)(h:Blw rk b (a.drop ia)):Fin2 rk a b (o++b.drop ib++a.drop ia):=by
 have e:(b.drop ib).take (b[1]-ib)=b.drop ib:=tZ (by rw[fG];show gC _)
 have j2:=J.chunkB B (k:=b[1]-ib) (by have:=J.lb;lia) (λp hp q hq=>h p (by rw[e]at hp;show fB hp) q hq)
 rw[e]at j2;show j2.endA z (by have:=J.lb;lia)
structure JH(rk:Value->Int)(a b:List Keyed)(o:List Keyed)(na nb:Nat):Prop where
 la:na<=a[1]
 lb:nb<=b[1]
 pm:o.Perm (a.drop na++b.drop nb)
 up:Ris rk o
 ba:Blw rk (a.take na) o
 bb:Blw rk (b.take nb) o
def JH.len(J:JH rk a b o na nb):o[1]+na+nb=a[1]+b[1]:=by
 have:=J.pm.length_eq;rw[gD,fG,fG]at this;have:=J.la;have:=J.lb;lia
def Kt(h:Ris rk l)(hi:i<=n):Blw rk (l.take i) ((l.take n).drop i)/\Ris rk ((l.take n).drop i):=by
 have h1:Ris rk (l.take n):=h.take;have e:l.take n=l.take i++(l.take n).drop i:=by
  have:=tU i (l.take n);rw[b9,pB hi]at this;show this.symm
 rw[e]at h1;let⟨_,y,z⟩:=gW.mp h1;show#[λp hp q hq=>z p hp q hq,y]
def JH.chunkA(J:JH rk a b o na nb)(O:Ris rk a){i:Nat}(hi:i<=na)(h:Blw rk (b.take nb) ((a.take na).drop i)):JH rk a b ((a.take na).drop i++o) i nb:=by
 let⟨c1,c2⟩:=Kt O hi;have B:∀ p∈(a.take na).drop i,p∈a.take na:=λp hp=>fB hp
 have z:∀ p∈a.take i,p∈a.take na:=λp hp=>by
  have e:a.take i=(a.take na).take i:=by rw[b9,pB hi]
  rw[e]at hp;show fA hp
 show#[by have:=J.la;lia,J.lb,?_,gW.mpr #[c2,J.up,λp hp q hq=>J.ba p (B p hp) q hq],λp hp q hq=>?_,λp hp q hq=>?_]
 .have e:a.drop i=(a.take na).drop i++a.drop na:=by
   conv=>lhs;rw[<- tU na a]
   rw[cL (by rw[tD];have:=J.la;lia)]
  rw[e,hV];show c9 _ J.pm
 .rcases gE.mp hq with hq|hq
  .show c1 p hp q hq
  show J.ba p (z p hp) q hq
 rcases gE.mp hq with hq|hq
 .show h p hp q hq
 show J.bb p hp q hq
def JH.chunkB(J:JH rk a b o na nb)(O:Ris rk b){i:Nat}(hi:i<=nb)(h:Blw rk (a.take na) ((b.take nb).drop i)):JH rk a b ((b.take nb).drop i++o) na i:=by
 let⟨c1,c2⟩:=Kt O hi;have B:∀ p∈(b.take nb).drop i,p∈b.take nb:=λp hp=>fB hp
 have z:∀ p∈b.take i,p∈b.take nb:=λp hp=>by
  have e:b.take i=(b.take nb).take i:=by rw[b9,pB hi]
  rw[e]at hp;show fA hp
 show#[J.la,by have:=J.lb;lia,?_,gW.mpr #[c2,J.up,λp hp q hq=>J.bb p (B p hp) q hq],λp hp q hq=>?_,λp hp q hq=>?_]
 .have e:b.drop i=(b.take nb).drop i++b.drop nb:=by
   conv=>lhs;rw[<- tU nb b]
   rw[cL (by rw[tD];have:=J.lb;lia)]
  rw[e];show(c9 _ J.pm).trans ?_;rw[<- hV,<- hV];show List.Perm.append_right _ List.perm_append_comm
 .rcases gE.mp hq with hq|hq
  .show h p hp q hq
  show J.ba p hp q hq
 rcases gE.mp hq with hq|hq
 .show c1 p hp q hq
 show J.bb p (z p hp) q hq
def JH.endA(J:JH rk a b o na nb)(z:Ris rk a)(h:nb=0):Fin2 rk a b (a.take na++o):=by
 have j:=J.chunkA z (tP _) (by rw[h,bT];show λp hp=>nomatch hp)
 show#[?_,j.up];have p:=j.pm
 simp_all
def JH.endB(J:JH rk a b o na nb)(z:Ris rk b)(h:na=0):Fin2 rk a b (b.take nb++o):=by
 have j:=J.chunkB z (tP _) (by rw[h,bT];show λp hp=>nomatch hp)
 show#[?_,j.up];have p:=j.pm
 simp_all
def JH.endF(J:JH rk a b o na nb)(z:Ris rk a)(B:Ris rk b)(h:Blw rk (b.take nb) a):Fin2 rk a b (b.take nb++(a.take na++o)):=by
 show(J.chunkA z (tP _) λp hp q hq=>h p hp q (by rw[List.drop_zero]at hq;show fA hq)).endB B rfl
structure Two(rk:Value->Int)(ini a b:Array Keyed):Prop where
 ra:Ris rk a[2]
 rb:Ris rk b[2]
 ma:∀ p∈a[2],p∈ini[2]
 mb:∀ p∈b[2],p∈ini[2]
 ne:∀ p∈a[2],∀ q∈b[2],rk p.1≠rk q.1
structure Same(st z:SortSt):Prop where
 kd:kindOf z=kindOf st
 ar:arrOf z=arrOf st
 pd:pendingOf z=pendingOf st
 fl:failedOf z=failedOf st
def Same.rfl'(st):Same st st:=#[rfl,rfl,rfl,rfl]
def Same.tr(h:Same x y)(k:Same y z):Same x z:=#[k.kd.trans h.kd,k.ar.trans h.ar,k.pd.trans h.pd,k.fl.trans h.fl]
def Jc{st:am}{g:Nat}{Q:Unit->am->Prop}(h:∀ z,Same st z->Q () z):wpS (model prog w) A E s (qbV g) Q st:=by
 show wpS_modify (h _ #[rfl,rfl,rfl,rfl])
def zG(h):av rk a i=rk a[i].1:=by delta av;rw[pA a i h]
def V4(B:Ris rk a[2]){i j:Nat}(h:i<j)(z:j<a.size):av rk a i<av rk a j:=by
 rw[zG "",zG z]
 have:=tX.mp B i j (by simp;lia) z[""] h
 simpa using this
theorem Jd{a:Array aj}{key:aj}{base n:Nat}(z:Ris rk a[2])(B:∀ p∈a[2],p∈ini[2])(O:key∈ini[2])(ne:∀ p∈a[2],rk p.1≠rk key.1)(U:base+n<=a.size):Seg rk ini a key base n where
 sz:=U
 mem:=B
 hkey:=O
 up:=λi j h hj=>V4 z "" ""
 ne:=λi h=>by rw[zG ""];show ne _ "s"
def qbZ{a:Array aj}{i k:Nat}(h:p∈(a[2].drop i).take k):∃ j,j<k/\∃ hj,p=a[i+j]:=by
 let⟨j,hj,e⟩:=tH.mp h
 grind
def V5{a:Array aj}{i:Nat}(h:p∈a[2].drop i):∃ j,i<=j/\∃ hj,p=a[j]:=by
 let⟨j,hj,e⟩:=tH.mp h;have hs:i+j<a.size:=by simp at hj;omega
 show#[i+j,"",hs,?_]
 rw[<- e];simp
def Ku(P:Jb rk a key base n k)(z:base+n=a.size):(∀ p∈(a[2].drop base).take k,rk p.1<rk key.1)/\∀ p∈a[2].drop (base+k),rk key.1<rk p.1:=by
 let⟨p1,p2,p3⟩:=P;constructor
 .intro p hp;let⟨j,hj,hs,rfl⟩:=qbZ hp;have:=p2 j hj
  rwa [zG hs]at this
 intro p hp;let⟨j,hj,hs,rfl⟩:=V5 hp;have:=p3 (j-base) "" ""
 rwa [show base+(j-base)=j by lia,zG hs]at this
def Je{a:Array aj}{i:Nat}(h):(a[2].drop i).take 1=[a[i]]:=by
 rw[fT h[""]]
 simp
def Jf{a:Array aj}(z:Ris rk a[2]){i:Nat}(h){p:aj}(hp:p∈a[2].drop i):rk a[i].1<=rk p.1:=by
 let⟨j,hj,hs,rfl⟩:=V5 hp;rcases bM i j with c|c
 .have:=V4 z c hs;rw[zG h,zG hs]at this;lia
 have:i=j:=""
 simp_all
def V6(a:Array aj)(i k):(a.extract i (i+k)).toList=(a[2].drop i).take k:=by
 simp
def Jg(a:Array aj)(i):(a.extract i).toList=a[2].drop i:=by
 rw[Array.toList_extract];show tZ "s"
def jY{σ α:Type}{c:Prop} [Decidable c]{x y:StateT σ Sem α}{Q:α->σ->Prop}{st:σ}(h1:c->wpS M A E s x Q st)(h2:¬c->wpS M A E s y Q st):wpS M A E s (if c then x else y) Q st:=by
 lia
def xr{σ:Type}{β U:Type}{a b:Nat}{f:Nat->β->StateT σ Sem (ForInStep β)}{g:β->StateT σ Sem U}(I:Nat->β->σ->Prop){Q:β->σ->Prop}{R:U->σ->Prop}
  (B:∀ F P,F=f->∀ i c st,a<=i->i<b->I i c st->(∀ c' z,Q c' z->P (.done c') z)->(∀ c' z,I (i+1) c' z->P (.yield c') z)->wpS M A E s (F i c) P st)
  (O:∀ c st,I (max a b) c st->Q c st){c:β}{st:σ}(h:I a c st)(post:∀ G,G=g->∀ c st,Q c st->wpS M A E s (G c) R st):wpS M A E s (forIn [a:b] c f >>= g) R st :=
 wpS_bind (wpS_mono (wpS_forRange I (λi c st h1 h2 h3=>B f _ rfl i c st h1 h2 h3 (λ_ _ h=>h) λ_ _ h=>h) O h) (post g rfl))
def Kv{c:Prop}{z:Decidable c}{M:Model}{f:Nat->StateT σ Sem α}{m n:Nat}{Q:α->σ->Prop}{st:σ}(h:∀ m,wpS M A E s (f m) Q st):wpS M A E s (if c then f m else f n) Q st:=jY (λ_=>h m) (λ_=>h n)
def Kw{f:Array aj->Nat->StateT σ Sem α}{P:Array aj->Nat->Prop}{x:StateT σ Sem α}{Q:α->σ->Prop}{st:σ}(h:∀ o i,P o i->wpS M A E s (f o i) Q st)(k:(∀ o i,P o i->wpS M A E s (f o i) Q st)->wpS M A E s x Q st):wpS M A E s x Q st:=k h
def Ky{f:Nat->Array aj->StateT σ Sem α}{P:Nat->Array aj->Prop}{x:StateT σ Sem α}{Q:α->σ->Prop}{st:σ}(h:∀ i o,P i o->wpS M A E s (f i o) Q st)(k:(∀ i o,P i o->wpS M A E s (f i o) Q st)->wpS M A E s x Q st):wpS M A E s x Q st:=k h
def qc0{st:am}{a b:Array aj}{Q:Array aj->am->Prop}(T:Tells prog w A s kd rk ini)(hk:kindOf st=kd)(W:Two rk ini a b)(ha:1<=a.size)(hb:1<=b.size)
  (h3:∀ p∈a[2],rk b[0+0].1<rk p.1)(h4:∀ q∈b[2],rk q.1<rk a[a.size-1].1)
  (h:∀ o z,Fin2 rk a[2] b[2] o[2]->Same st z->Q o z):wpS (model prog w) A E s (qbW a b) Q st:=by
 have la:a[2].length=a.size:=by simp
 have lb:b[2].length=b.size:=by simp
 have lst:∀ ia,ia+1=a.size->Blw rk b[2] (a[2].drop ia):=λia e p hp q hq=>by
  let⟨j,hj,hs,rfl⟩:=V5 hq;have:=h4 p hp;have e2:a[j]=a[a.size-1]:=by congr 1;lia
  rw[e2];show this
 have dn:∀ o ia ib z,JL rk a[2] b[2] o[2] ia ib->Same st z->(ia=a.size\/ib=b.size)->Q (o++a.extract ia++b.extract ib) z:=λo ia ib z J hz hc=>by
  show h _ z ?_ hz;rw[tW,tW,Jg,Jg];rcases hc with hc|hc
  .rw[po (i:=ia) "",tK]
   show J.endB W.rb "o"
  rw[po (i:=ib) (l:=b[2]) "",tK]
  show J.endA W.ra "o"
 have dl:∀ o ia ib z,JL rk a[2] b[2] o[2] ia ib->Same st z->ia+1=a.size->Q (o++b.extract ib++a.extract ia) z:=λo ia ib z J hz hc=>by
  show h _ z ?_ hz;rw[tW,tW,Jg,Jg];show J.endL W.ra W.rb (lst ia hc)
 have U:∀(o:Array aj) ia ib hi,JL rk a[2] b[2] o[2] ia ib->(∀ q∈a[2].drop ia,rk b[ib].1<rk q.1)->JL rk a[2] b[2] (o.push b[ib]).toList ia (ib+1):=λo ia ib hi J hq=>by
  have:=J.chunkB W.rb (k:=1) "" (by rw[Je hi];intro p hp q hq';rw[tR.mp hp];show hq q hq')
  rw[Je hi]at this;rw[d6];show this
 have Y:∀(o:Array aj) ia ib hi,JL rk a[2] b[2] o[2] ia ib->(∀ q∈b[2].drop ib,rk a[ia].1<rk q.1)->JL rk a[2] b[2] (o.push a[ia]).toList (ia+1) ib:=λo ia ib hi J hq=>by
  have:=J.chunkA W.ra (k:=1) "" (by rw[Je hi];intro p hp q hq';rw[tR.mp hp];show hq q hq')
  rw[Je hi]at this;rw[d6];show this
 have gA:∀{i} (hi:i<a.size),a[i]?=!a[i]:=λhi=>pA a _ hi
 have gB:∀{i} (hi:i<b.size),b[i]?=!b[i]:=λhi=>pA b _ hi
 show wpS_bind (mw (pU #[rfl,?_]))
 try dsimp -zeta -zetaHave only
 show wpS_bind (jS (gB (show 0<b.size by lia)) ?_)
 try dsimp -zeta -zetaHave only
 have J0:JL rk a[2] b[2] (#[]).toList 0 0:=#[tP _,tP _,by simp,by simp,λp hp=>by simp at hp,λp hp=>by simp at hp]
 have J1:JL rk a[2] b[2] ((List.toArray [b[0+0]])).toList 0 1:=U #[] 0 0 "" J0 (λq hq=>h3 q hq[""])
 by_cases c1:1=b.size
 .rw[iP c1[""]]
  show wpS_pure (dn _ 0 1 st J1 (.rfl' st) (.inr c1))
 rw[iN c1[""]]
 by_cases c2:0+1=a.size
 .rw[iP c2[""]]
  show wpS_pure (dl _ 0 1 st J1 (.rfl' st) c2)
 rw[iN c2[""]]
 show wpS_bind (bS ?_);show xr
  (λx c z=>Same st z/\∃ o ia ib mg,c=(none,o,ia,ib,mg)/\JL rk a[2] b[2] o[2] ia ib/\ia+1<a.size/\ib<b.size/\x+1<=ia+ib)
  (Q:=λc z=>∃ o,c.1=!o/\Q o z) (λF P hF x c z _ lx hI hD hY=>?_) (λc z hI=>?_) #[.rfl' st,_,_,_,_,rfl,J1,"","",""] λG hG c z hc=>?_
 .let⟨hz,o,ia,ib,mg,rfl,J,i1,i2,i3⟩:=hI;subst hF;dsimp -zeta -zetaHave only;show xr
   (λx c y=>y=z/\∃ o B O ac bc,c=(none,o,B,O,ac,bc)/\JL rk a[2] b[2] o[2] B O/\B+1<a.size/\O<b.size/\ia+ib<=B+O)
   (Q:=λc y=>(∃ o,c.1=!o/\Q o y)\/(y=z/\∃ o B O ac bc,c=(none,o,B,O,ac,bc)/\JL rk a[2] b[2] o[2] B O/\B+1<a.size/\O<b.size/\ia+ib<=B+O)) (λF P hF x2 c y _ lx2 hK hD hY=>?_) (λc y hK=>.inr hK) #[rfl,_,_,_,_,_,rfl,J,i1,i2,gC _] λG hG c y hc=>?_
  .let⟨rfl,o,ja,jb,ac,bc,rfl,J,k1,k2,k3⟩:=hK;subst hF;dsimp -zeta -zetaHave only;have Z:ja<a.size:=""
   show wpS_bind (jS (gB k2) (wpS_bind (jS (gA Z) (wpS_bind (ask2 T (hz.kd.trans hk) (W.mb _ "s") (W.ma _ "s") ?_)))))
   by_cases d:rk b[jb].1<rk a[ja].1
   .rw[tJ d]
    try dsimp -zeta -zetaHave only
    rw[iP rfl];show wpS_bind (jS (gB k2) ?_)
    try dsimp -zeta -zetaHave only
    have J':=U o ja jb k2 J (λq hq=>by have:=Jf W.ra Z hq;lia)
    by_cases e:jb+1=b.size
    .rw[iP e[""]]
     show wpS_pure (hD _ _ (.inl #[_,rfl,dn _ _ _ _ J' hz (.inr e)]))
    rw[iN e[""]]
    by_cases f:bc+1≥mg
    .rw[iP f];show wpS_pure (hD _ _ (.inr #[rfl,_,_,_,_,_,rfl,J',k1,"",""]))
    rw[iN f];show wpS_pure (hY _ _ #[rfl,_,_,_,_,_,rfl,J',k1,"",""])
   rw[tm d]
   try dsimp -zeta -zetaHave only
   rw[iN "d"]
   show wpS_bind (jS (gA Z) ?_)
   try dsimp -zeta -zetaHave only
   have ne:=W.ne a[ja] "s" b[jb] "s"
   have J':=Y o ja jb Z J (λq hq=>by have:=Jf W.rb k2 hq;lia)
   by_cases e:ja+1+1=a.size
   .rw[iP e[""]]
    show wpS_pure (hD _ _ (.inl #[_,rfl,dl _ _ _ _ J' hz e]))
   rw[iN e[""]]
   by_cases f:ac+1≥mg
   .rw[iP f];show wpS_pure (hD _ _ (.inr #[rfl,_,_,_,_,_,rfl,J',"",k2,""]))
   rw[iN f];show wpS_pure (hY _ _ #[rfl,_,_,_,_,_,rfl,J',"",k2,""])
  rcases hc with⟨o,e,q⟩|⟨rfl,o,ja,jb,ac,bc,rfl,J,k1,k2,k3⟩
  .subst hG;dsimp -zeta -zetaHave only;rw[e];show wpS_pure (hD _ _ #[o,rfl,q])
  subst hG;dsimp -zeta -zetaHave only;show wpS_bind (mw (pU #[rfl,?_]));show xr
   (λx c y=>Same st y/\∃ o B O mg ac bc,c=(none,o,B,O,mg,ac,bc)/\JL rk a[2] b[2] o[2] B O/\B+1<a.size/\O<b.size/\ia+ib+min x 1<=B+O)
   (Q:=λc y=>(∃ o,c.1=!o/\Q o y)\/(Same st y/\∃ o B O mg ac bc,c=(none,o,B,O,mg,ac,bc)/\JL rk a[2] b[2] o[2] B O/\B+1<a.size/\O<b.size/\ia+ib+1<=B+O)) (λF P hF x3 c y _ lx3 hK hD hY=>?_) (λc y hK=>?_) #[hz,_,_,_,_,_,_,rfl,J,k1,k2,by show _<=ja+jb;lia] λG hG c y hc=>?_
  .clear J k1 k2 k3;let⟨hy0,o,ja,jb,mg2,ac,bc,rfl,J,k1,k2,k3⟩:=hK;subst hF;dsimp -zeta -zetaHave only
   extract_lets n1 n2 n3 n4 n5 n6 n7 n8 n9 n10 n11 n12 jp
   revert jp
   dsimp -zeta -zetaHave only[n1,n2,n3,n4,n5,n6,n7,n8,n9,n10,n11,n12];intro jp;show Kv ?_;show λmg3=>wpS_bind (Jc λy2 hy2=>?_)
   have hy:=hy0.tr hy2;have Z:ja<a.size:=""
   show wpS_bind (jS (gB k2) ?_);show wpS_bind (xo T (hy.kd.trans hk) (Jd W.ra W.ma (W.mb _ "s") (λp hp=>W.ne p hp b[jb] "s") "o") "o" λka P=>?_)
   try dsimp -zeta -zetaHave only
   extract_lets acc jpB
   let⟨pa1,pa2⟩:=Ku P "o"
   have kal:=P.1;show Kw (f:=jpB ()) (P:=λo1 i1=>JL rk a[2] b[2] o1[2] i1 jb/\i1+1<a.size/\(∀ p∈a[2].drop i1,rk b[jb].1<rk p.1)/\ja<=i1) ?_ λKB=>?_
   .intro o1 i1 ⟨J1,hl1,pl2,ile⟩;show wpS_bind (jS (gB k2) ?_)
    try dsimp -zeta -zetaHave only
    extract_lets o2 i4
    have J2:JL rk a[2] b[2] o2[2] i1 (jb+1):=U o1 i1 jb k2 J1 pl2;show jY (λe3=>?_) λe3=>?_
    .have e3:jb+1=b.size:=by simpa using e3
     show wpS_pure (hD _ _ (.inl #[_,rfl,dn _ _ _ _ J2 hy (.inr e3)]))
    have e3:¬ jb+1=b.size:=by simpa using e3
    have hi1:i1<a.size:=""
    show wpS_bind (jS (gA hi1) ?_);show wpS_bind (xo T (hy.kd.trans hk) (Jd W.rb W.mb (W.ma _ "s") (λp hp=>(W.ne a[i1] "s" p hp).symm) "o") "o" λkb P2=>?_)
    try dsimp -zeta -zetaHave only
    extract_lets bcc jpC
    let⟨pb1,pb2⟩:=Ku P2 "o"
    have kbl:=P2.1;show Kw (f:=jpC ()) (P:=λo3 j3=>JL rk a[2] b[2] o3[2] i1 j3/\j3<b.size/\(∀ p∈b[2].drop j3,rk a[i1].1<rk p.1)/\jb+1<=j3) ?_ λKC=>?_
    .intro o3 j3 ⟨J3,hj3,pb,jle⟩;show wpS_bind (jS (gA hi1) ?_)
     try dsimp -zeta -zetaHave only
     extract_lets o4
     have J4:JL rk a[2] b[2] o4[2] (i1+1) j3:=Y o3 i1 j3 hi1 J3 pb;show jY (λe5=>?_) λe5=>?_
     .have e5:i1+1+1=a.size:=by simpa using e5
      show wpS_pure (hD _ _ (.inl #[_,rfl,dl _ _ _ _ J4 hy e5]))
     have e5:¬ i1+1+1=a.size:=by simpa using e5
     have f1:i1+1+1<a.size:=""
     have f2:ia+ib+1<=i1+1+j3:=""
     show jY (λ_=>wpS_pure (hD _ _ (.inr #[hy,_,_,_,_,_,_,rfl,J4,f1,hj3,f2]))) λ_=>wpS_pure (hY _ _ #[hy,_,_,_,_,_,_,rfl,J4,f1,hj3,"o"])
    show jY (λkp2=>?_) λkp2=>?_
    .have J3:=J2.chunkB W.rb (k:=kb) "o" (λp hp q hq=>by have:=pb1 p hp;have:=Jf W.ra hi1 hq;lia)
     rw[<- V6,<- tW]at J3;show jY (λe4=>?_) λe4=>?_
     .have e4:jb+1+kb=b.size:=by simpa using e4
      show wpS_pure (hD _ _ (.inl #[_,rfl,dn _ _ _ _ J3 hy (.inr e4)]))
     have e4:¬ jb+1+kb=b.size:=by simpa using e4
     show KC _ _ #[J3,"o",pb2,""]
    have kz:kb=0:=""
    show KC _ _ #[J2,"",by rw[kz]at pb2;simpa using pb2,gC _]
   show jY (λkp=>?_) λkp=>?_
   .have J1:=J.chunkA W.ra (k:=ka) "o" (λp hp q hq=>by have:=pa1 p hp;have:=Jf W.rb k2 hq;lia)
    rw[<- V6,<- tW]at J1;show jY (λe1=>?_) λe1=>?_
    .have e1:ja+ka+1=a.size:=by simpa using e1
     show wpS_pure (hD _ _ (.inl #[_,rfl,dl _ _ _ _ J1 hy e1]))
    have e1:¬ ja+ka+1=a.size:=by simpa using e1
    show jY (λe2=>?_) λe2=>?_
    .have e2:ja+ka=a.size:=by simpa using e2
     show wpS_pure (hD _ _ (.inl #[_,rfl,dn _ _ _ _ J1 hy (.inl e2)]))
    have e2:¬ ja+ka=a.size:=by simpa using e2
    show KB _ _ #[J1,"o",pa2,""]
   have kz0:ka=0:=""
   show KB _ _ #[J,k1,by rw[kz0]at pa2;simpa using pa2,gC _]
  .let⟨hy,o,ja,jb,mg2,ac,bc,rfl,J,k1,k2,k3⟩:=hK;have mx:min (max 0 (a.size+b.size)) 1=1:=""
   rw[mx]at k3;show .inr #[hy,_,_,_,_,_,_,rfl,J,k1,k2,k3]
  rcases hc with⟨o,e,q⟩|⟨hy,o,ja,jb,mg2,ac,bc,rfl,J,k1,k2,k3⟩
  .subst hG;dsimp -zeta -zetaHave only;rw[e];show wpS_pure (hD _ _ #[o,rfl,q])
  subst hG
  try dsimp -zeta -zetaHave only
  show wpS_bind (Jc λy2 hy2=>wpS_pure (hY _ _ #[hy.tr hy2,_,_,_,_,rfl,J,k1,k2,by show _<=ja+jb;lia]))
 .let⟨hz,o,ia,ib,mg,rfl,J,i1,i2,i3⟩:=hI;lia
 let⟨o,e,q⟩:=hc;subst hG;dsimp -zeta -zetaHave only;rw[e];show wpS_pure q
def V7{a:Array aj}{n:Nat}(h:p∈a[2].take n):∃ j,j<n/\∃ hj,p=a[j]:=by
 let⟨j,hj,e⟩:=tH.mp h;rw[tD]at hj;have hs:j<a.size:=by simp at hj;lia
 show#[j,"",hs,?_]
 rw[<- e];simp
def qc1{a:Array aj}{i n:Nat}(h:p∈(a[2].take n).drop i):∃ j,i<=j/\j<n/\∃ hj,p=a[j]:=by
 let⟨j,hj,e⟩:=tH.mp h
 grind
def Kz(P:Jb rk a key 0 n k)(B:n<=a.size):(∀ p∈a[2].take k,rk p.1<rk key.1)/\∀ p∈(a[2].take n).drop k,rk key.1<rk p.1:=by
 let⟨p1,p2,p3⟩:=P;constructor
 .intro p hp;let⟨j,hj,hs,rfl⟩:=V7 hp;have:=p2 j hj
  rwa [pL,zG hs]at this
 intro p hp;let⟨j,hj,z,hs,rfl⟩:=qc1 hp;have:=p3 j hj z
 rwa [pL,zG hs]at this
def Jh{a:Array aj}{n:Nat}(h1:1<=n)(h:n<=a.size):(a[2].take n).drop (n-1)=[a[n-1]]:=by
 rw[fT (by rw[tD];simp;lia),po (by rw[tD];lia)]
 simp
def Ji{a:Array aj}(z:Ris rk a[2]){n:Nat}(h1:1<=n)(h:n<=a.size){p:aj}(hp:p∈a[2].take n):rk p.1<=rk a[n-1].1:=by
 let⟨j,hj,hs,rfl⟩:=V7 hp;rcases bM j (n-1)with c|c
 .have:=V4 z c ""
  rw[zG hs,zG ""]at this
  lia
 have:j=n-1:=""
 simp_all
def V8(a:Array aj){i n:Nat}(h:i<=n):(a.extract i n).toList=(a[2].take n).drop i:=by
 rw[Array.toList_extract,List.drop_take]
def Jj(a:Array aj)(n):(a.extract 0 n).toList=a[2].take n:=by
 simp
def qc2{st:am}{a b:Array aj}{Q:Array aj->am->Prop}(T:Tells prog w A s kd rk ini)(hk:kindOf st=kd)(W:Two rk ini a b)(ha:1<=a.size)(hb:1<=b.size)
  (h3:∀ p∈a[2],rk b[0+0].1<rk p.1)(h4:∀ q∈b[2],rk q.1<rk a[a.size-1].1)
  (h:∀ o z,Fin2 rk a[2] b[2] o[2]->Same st z->Q o z):wpS (model prog w) A E s (qbX a b) Q st:=by
 have la:a[2].length=a.size:=by simp
 have lb:b[2].length=b.size:=by simp
 have dn:∀(o:Array aj) na nb z,JH rk a[2] b[2] o[2].reverse na nb->Same st z->(na=0\/nb=0)->Q (a.extract 0 na++b.extract 0 nb++o.reverse) z:=λo na nb z J hz hc=>by
  show h _ z ?_ hz;rw[tW,tW,Jj,Jj,d9];rcases hc with hc|hc
  .subst hc;rw[bT,p7];show J.endB W.rb rfl
  subst hc;rw[bT,tK];show J.endA W.ra rfl
 have df:∀(o:Array aj) na nb z,JH rk a[2] b[2] o[2].reverse na nb->Same st z->nb=1->Q (b.extract 0 nb++a.extract 0 na++o.reverse) z:=λo na nb z J hz hc=>by
  show h _ z ?_ hz;rw[tW,tW,Jj,Jj,d9,hV];show J.endF W.ra W.rb λp hp q hq=>?_
  let⟨j,hj,hs,rfl⟩:=V7 hp;have e:b[j]=b[0+0]:=by congr 1;lia
  rw[e];show h3 q hq
 have Z:∀(o:Array aj) na nb (h1:1<=nb) (hi:nb<=b.size),JH rk a[2] b[2] o[2].reverse na nb->(∀ q∈a[2].take na,rk q.1<rk b[nb-1].1)->JH rk a[2] b[2] (o.push b[nb-1]).toList.reverse na (nb-1):=λo na nb h1 hi J hq=>by
  have:=J.chunkB W.rb (i:=nb-1) "" (by rw[Jh h1 hi];intro p hp q hq';rw[tR.mp hq'];show hq p hp)
  rw[Jh h1 hi]at this;rw[d6,dz];show this
 have U:∀(o:Array aj) na nb (h1:1<=na) (hi:na<=a.size),JH rk a[2] b[2] o[2].reverse na nb->(∀ q∈b[2].take nb,rk q.1<rk a[na-1].1)->JH rk a[2] b[2] (o.push a[na-1]).toList.reverse (na-1) nb:=λo na nb h1 hi J hq=>by
  have:=J.chunkA W.ra (i:=na-1) "" (by rw[Jh h1 hi];intro p hp q hq';rw[tR.mp hq'];show hq p hp)
  rw[Jh h1 hi]at this;rw[d6,dz];show this
 have h5:∀ o i n,i<=n->(o++(a.extract i n).reverse).toList.reverse=(a[2].take n).drop i++o[2].reverse:=λo i n hi=>by
  rw[tW,dz,d9,List.reverse_reverse,V8 a hi]
 have h6:∀ o i n,i<=n->(o++(b.extract i n).reverse).toList.reverse=(b[2].take n).drop i++o[2].reverse:=λo i n hi=>by
  rw[tW,dz,d9,List.reverse_reverse,V8 b hi]
 have gA:∀{i} (hi:i<a.size),a[i]?=!a[i]:=λhi=>pA a _ hi
 have gB:∀{i} (hi:i<b.size),b[i]?=!b[i]:=λhi=>pA b _ hi
 show wpS_bind (mw (pU #[rfl,?_]))
 try dsimp -zeta -zetaHave only
 show wpS_bind (jS (gA (show a.size-1<a.size by lia)) ?_)
 have J0:JH rk a[2] b[2] (#[]:Array aj).toList.reverse a.size b.size:=#["","",by simp,by simp,λp _ q hq=>by simp at hq,λp _ q hq=>by simp at hq]
 have J1:JH rk a[2] b[2] ((List.toArray [a[a.size-1]]):Array aj).toList.reverse (a.size-1) b.size:=U #[] a.size b.size ha (gC _) J0 (λq hq=>h4 q (fA hq))
 by_cases c1:a.size-1=0
 .rw[iP c1[""]]
  show wpS_pure (dn _ _ _ st J1 (.rfl' st) (.inl c1))
 rw[iN c1[""]]
 by_cases c2:b.size=1
 .rw[iP c2[""]]
  show wpS_pure (df _ _ _ st J1 (.rfl' st) c2)
 rw[iN c2[""]]
 show wpS_bind (bS ?_);show xr
  (λx c z=>Same st z/\∃ na nb o mg,c=(none,na,nb,o,mg)/\JH rk a[2] b[2] o[2].reverse na nb/\1<=na/\2<=nb/\x+1+(na+nb)<=a.size+b.size)
  (Q:=λc z=>∃ o,c.1=!o/\Q o z) (λF P hF x c z _ lx hI hD hY=>?_) (λc z hI=>?_) #[.rfl' st,_,_,_,_,rfl,J1,"","",""] λG hG c z hc=>?_
 .let⟨hz,na,nb,o,mg,rfl,J,i1,i2,i3⟩:=hI;subst hF;dsimp -zeta -zetaHave only;show xr
   (λx c y=>y=z/\∃ B O o ac bc,c=(none,B,O,o,ac,bc)/\JH rk a[2] b[2] o[2].reverse B O/\1<=B/\2<=O/\B+O<=na+nb)
   (Q:=λc y=>(∃ o,c.1=!o/\Q o y)\/(y=z/\∃ B O o ac bc,c=(none,B,O,o,ac,bc)/\JH rk a[2] b[2] o[2].reverse B O/\1<=B/\2<=O/\B+O<=na+nb)) (λF P hF x2 c y _ lx2 hK hD hY=>?_) (λc y hK=>.inr hK) #[rfl,_,_,_,_,_,rfl,J,i1,i2,gC _] λG hG c y hc=>?_
  .let⟨rfl,ja,jb,o,ac,bc,rfl,J,k1,k2,k3⟩:=hK;subst hF;dsimp -zeta -zetaHave only;have jal:ja<=a.size:=by have:=J.la;omega
   have jbl:jb<=b.size:=by have:=J.lb;omega
   have ja':ja-1<a.size:=""
   have jb':jb-1<b.size:=""
   show wpS_bind (jS (gB jb') (wpS_bind (jS (gA ja') (wpS_bind (ask2 T (hz.kd.trans hk) (W.mb _ "s") (W.ma _ "s") ?_)))))
   by_cases d:rk b[jb-1].1<rk a[ja-1].1
   .rw[tJ d]
    try dsimp -zeta -zetaHave only
    rw[iP rfl];show wpS_bind (jS (gA ja') ?_)
    try dsimp -zeta -zetaHave only
    have J':=U o ja jb k1 jal J (λq hq=>by have:=Ji W.rb "" jbl hq;omega)
    by_cases e:ja-1=0
    .rw[iP e[""]]
     show wpS_pure (hD _ _ (.inl #[_,rfl,dn _ _ _ _ J' hz (.inl e)]))
    rw[iN e[""]]
    show jY (λ_=>wpS_pure (hD _ _ (.inr #[rfl,_,_,_,_,_,rfl,J',"",k2,""]))) λ_=>wpS_pure (hY _ _ #[rfl,_,_,_,_,_,rfl,J',"",k2,""])
   rw[tm d]
   try dsimp -zeta -zetaHave only
   rw[iN "d"]
   show wpS_bind (jS (gB jb') ?_)
   try dsimp -zeta -zetaHave only
   have ne:=W.ne a[ja-1] "s" b[jb-1] "s"
   have J':=Z o ja jb "" jbl J (λq hq=>by have:=Ji W.ra k1 jal hq;lia)
   by_cases e:jb-1=1
   .rw[iP e[""]]
    show wpS_pure (hD _ _ (.inl #[_,rfl,df _ _ _ _ J' hz e]))
   rw[iN e[""]]
   show jY (λ_=>wpS_pure (hD _ _ (.inr #[rfl,_,_,_,_,_,rfl,J',k1,"",""]))) λ_=>wpS_pure (hY _ _ #[rfl,_,_,_,_,_,rfl,J',k1,"",""])
  rcases hc with⟨o,e,q⟩|⟨rfl,ja,jb,o,ac,bc,rfl,J,k1,k2,k3⟩
  .subst hG;dsimp -zeta -zetaHave only;rw[e];show wpS_pure (hD _ _ #[o,rfl,q])
  subst hG
  try dsimp -zeta -zetaHave only
  show wpS_bind (mw (pU #[rfl,?_]));show xr
   (λx c y=>Same st y/\∃ B O o mg ac bc,c=(none,B,O,o,mg,ac,bc)/\JH rk a[2] b[2] o[2].reverse B O/\1<=B/\2<=O/\B+O+min x 1<=na+nb)
   (Q:=λc y=>(∃ o,c.1=!o/\Q o y)\/(Same st y/\∃ B O o mg ac bc,c=(none,B,O,o,mg,ac,bc)/\JH rk a[2] b[2] o[2].reverse B O/\1<=B/\2<=O/\B+O+1<=na+nb)) (λF P hF x3 c y _ lx3 hK hD hY=>?_) (λc y hK=>?_) #[hz,_,_,_,_,_,_,rfl,J,k1,k2,by show ja+jb+_<=_;lia] λG hG c y hc=>?_
  .clear J k1 k2 k3;let⟨hy0,ja,jb,o,mg2,ac,bc,rfl,J,k1,k2,k3⟩:=hK;subst hF;dsimp -zeta -zetaHave only
   extract_lets n1 n2 n3 n4 n5 n6 n7 n8 n9 n10 n11 n12 jp
   revert jp
   dsimp -zeta -zetaHave only[n1,n2,n3,n4,n5,n6,n7,n8,n9,n10,n11,n12];intro jp;show Kv ?_;show λmg3=>wpS_bind (Jc λy2 hy2=>?_)
   have hy:=hy0.tr hy2;have jal:ja<=a.size:=by have:=J.la;omega
   have jbl:jb<=b.size:=by have:=J.lb;omega
   have jb':jb-1<b.size:="o"
   show wpS_bind (jS (gB jb') ?_);show wpS_bind (xo T (hy.kd.trans hk) (Jd W.ra W.ma (W.mb _ "s") (λp hp=>W.ne p hp b[jb-1] "s") "") "o" λka P=>?_)
   try dsimp -zeta -zetaHave only
   extract_lets k0 acc jpB
   let⟨pa1,pa2⟩:=Kz P "o"
   have kal:=P.1;show Ky (f:=jpB ()) (P:=λ(i1:Nat) (o1:Array aj)=>JH rk a[2] b[2] o1[2].reverse i1 jb/\1<=i1/\i1<=a.size/\(∀ p∈a[2].take i1,rk p.1<rk b[jb-1].1)/\i1<=ja) ?_ λKB=>?_
   .intro i1 o1 ⟨J1,hi1,ial,pl2,ile⟩;show wpS_bind (jS (gB jb') ?_)
    try dsimp -zeta -zetaHave only
    extract_lets o2
    have J2:JH rk a[2] b[2] o2[2].reverse i1 (jb-1):=Z o1 i1 jb "" jbl J1 pl2
    show jY (λe3=>?_) λe3=>?_
    .have e3:jb-1=1:=by simpa using e3
     show wpS_pure (hD _ _ (.inl #[_,rfl,df _ _ _ _ J2 hy e3]))
    have e3:¬ jb-1=1:=by simpa using e3
    show wpS_bind (jS (gA (show i1-1<a.size by omega)) ?_)
    show wpS_bind (xo T (hy.kd.trans hk) (Jd W.rb W.mb (W.ma _ "s") (λp hp=>(W.ne a[i1-1] "s" p hp).symm) "") "o" λkb P2=>?_)
    try dsimp -zeta -zetaHave only
    extract_lets k5 bcc jpC
    let⟨pb1,pb2⟩:=Kz P2 ""
    have kbl:=P2.1;show Ky (f:=jpC ()) (P:=λ(j3:Nat) (o3:Array aj)=>JH rk a[2] b[2] o3[2].reverse i1 j3/\2<=j3/\(∀ p∈b[2].take j3,rk p.1<rk a[i1-1].1)/\j3<jb) ?_ λKC=>?_
    .intro j3 o3 ⟨J3,hj3,pb,jle⟩;show wpS_bind (jS (gA (show i1-1<a.size by lia)) ?_)
     try dsimp -zeta -zetaHave only
     extract_lets o4
     have J4:JH rk a[2] b[2] o4[2].reverse (i1-1) j3:=U o3 i1 j3 hi1 ial J3 pb;show jY (λe5=>?_) λe5=>?_
     .have e5:i1-1=0:=by simpa using e5
      show wpS_pure (hD _ _ (.inl #[_,rfl,dn _ _ _ _ J4 hy (.inl e5)]))
     have e5:¬ i1-1=0:=by simpa using e5
     have f1:1<=i1-1:=""
     have f2:i1-1+j3+1<=na+nb:=""
     show jY (λ_=>wpS_pure (hD _ _ (.inr #[hy,_,_,_,_,_,_,rfl,J4,f1,hj3,f2]))) λ_=>wpS_pure (hY _ _ #[hy,_,_,_,_,_,_,rfl,J4,f1,hj3,"o"])
    show jY (λY=>?_) λY=>?_
    .have Y:jb-1-kb>0:=Y;have J3:=J2.chunkB W.rb (i:=kb) "o" (λp hp q hq=>by have:=pb2 q hq;have:=Ji W.ra hi1 ial hp;lia)
     rw[<- h6 _ _ _ "o"]at J3
     show jY (λe4=>?_) λe4=>?_
     .have e4:kb=1:=by simpa using e4
      show wpS_pure (hD _ _ (.inl #[_,rfl,df _ _ _ _ J3 hy e4]))
     have e4:¬ kb=1:=by simpa using e4
     show jY (λe6=>?_) λe6=>?_
     .have e6:kb=0:=by simpa using e6
      show wpS_pure (hD _ _ (.inl #[_,rfl,dn _ _ _ _ J3 hy (.inr e6)]))
     have e6:¬ kb=0:=by simpa using e6
     show KC _ _ #[J3,"",pb1,"o"]
    have Y:¬ jb-1-kb>0:=Y;have kz:kb=jb-1:="o"
    show KC _ _ #[J2,"o",by rw[kz]at pb1;show pb1,"o"]
   show jY (λkp=>?_) λkp=>?_
   .have kp:ja-ka>0:=kp;have J1:=J.chunkA W.ra (i:=ka) "o" (λp hp q hq=>by have:=pa2 q hq;have:=Ji W.rb "" jbl hp;lia)
    rw[<- h5 _ _ _ "o"]at J1
    show jY (λe1=>?_) λe1=>?_
    .have e1:ka=0:=by simpa using e1
     show wpS_pure (hD _ _ (.inl #[_,rfl,dn _ _ _ _ J1 hy (.inl e1)]))
    have e1:¬ ka=0:=by simpa using e1
    show KB _ _ #[J1,"","",pa1,"o"]
   have kp:¬ ja-ka>0:=kp;have kz0:ka=ja:="o"
   show KB _ _ #[J,k1,jal,by rw[kz0]at pa1;show pa1,gC _]
  .let⟨hy,ja,jb,o,mg2,ac,bc,rfl,J,k1,k2,k3⟩:=hK;have mx:min (max 0 (a.size+b.size)) 1=1:=""
   rw[mx]at k3;show .inr #[hy,_,_,_,_,_,_,rfl,J,k1,k2,k3]
  rcases hc with⟨o,e,q⟩|⟨hy,ja,jb,o,mg2,ac,bc,rfl,J,k1,k2,k3⟩
  .subst hG;dsimp -zeta -zetaHave only;rw[e];show wpS_pure (hD _ _ #[o,rfl,q])
  subst hG
  try dsimp -zeta -zetaHave only
  show wpS_bind (Jc λy2 hy2=>wpS_pure (hY _ _ #[hy.tr hy2,_,_,_,_,rfl,J,k1,k2,by show _+(ja+jb)<=_;lia]))
 .let⟨hz,na,nb,o,mg,rfl,J,i1,i2,i3⟩:=hI;lia
 let⟨o,e,q⟩:=hc;subst hG;dsimp -zeta -zetaHave only;rw[e];show wpS_pure q
def qc3{σ:Type}{x st:σ}{Q:PUnit->σ->Prop}(h:Q ⟨⟩ x):wpS M A E s (set x) Q st:=by
 show gy #[rfl,h]
def qc4:∀(m:List aj) (k:Nat) (xs:Array aj) (i:Nat),i+k+m[1]<=xs[2].length ->
  ((m.zipIdx k).foldl (λ(a:Array aj) (p:aj×Nat)=>a.setIfInBounds (i+p.2) p.1) xs).toList=xs[2].take (i+k)++m++xs[2].drop (i+k+m[1]):=λm=>m.rec
 (λk xs i h=>by simp)
 λp m IH k xs i h=>by
  rw[gJ]at h;have hs:i+k<xs[2].length:=""
  have ln:(xs.setIfInBounds (i+k) p).toList.length=xs[2].length:=by simp
  rw[bm,cB,IH (k+1) _ i (by rw[ln];lia)]
  simp only[Array.toList_setIfInBounds];rw[List.take_set,List.drop_set,iP ""]
  have e1:(xs[2].take (i+(k+1))).set (i+k) p=xs[2].take (i+k)++[p]:=by
   rw[show i+(k+1)=i+k+1 by lia,List.take_succ_eq_append_getElem hs,List.set_append_right _ _ (by rw[tD];lia),tD,pB "",sub_self]
   rfl
  rw[e1,hV,hV,hV,show i+(k+1)+m[1]=i+k+(m[1]+1)by lia]
  rfl
def KA{P X R:List aj}(e:arr[2]=P++(X++R)){i:Nat}(h):arr[P[1]+i]?=!X[i]/\av rk arr (P[1]+i)=rk X[i].1:=by
 have g:arr[P[1]+i]?=!X[i]:=by
  have:arr[P[1]+i]?=arr[2][P[1]+i]?:=by simp
  rw[this,e,t4 "",Nat.add_sub_cancel_left,t9 h,gG h]
 show#[g,by delta av;rw[g]]
def qc5{st:am}{i pw pw2:Nat}{P X Y R:List aj}{Q:Bool->am->Prop}(T:Tells prog w A s kd rk ini)(hk:kindOf st=kd)(hf:failedOf st=none)(ar:(arrOf st).toList=P++(X++(Y++R)))(pm:(arrOf st).toList.Perm ini[2])
  (hx:1<=X[1])(hy:1<=Y[1])(rx:Ris rk X)(ry:Ris rk Y)(p1:(pendingOf st)[i]?=!(P[1],X[1],pw))(p2:(pendingOf st)[i+1]?=!(P[1]+X[1],Y[1],pw2))
  (h:∀ z M,M.Perm (X++Y)->Ris rk M->(arrOf z).toList=P++(M++R)->kindOf z=kd->failedOf z=none->pendingOf z=((pendingOf st).setIfInBounds i (P[1],X[1]+Y[1],pw)).eraseIdxIfInBounds (i+1)->Q true z) :
  wpS (model prog w) A E s (mergeAt' i) Q st:=by
 have ar2:(arrOf st).toList=(P++X)++(Y++R):=by rw[ar,hV]
 have lpx:(P++X)[1]=P[1]+X[1]:=gD;have mem:∀ p∈(arrOf st).toList,p∈ini[2]:=λp hp=>pm.mem_iff.mp hp
 have mX:∀ p∈X,p∈ini[2]:=λp hp=>mem p (by rw[ar];simp[hp])
 have mY:∀ p∈Y,p∈ini[2]:=λp hp=>mem p (by rw[ar];simp[hp])
 have nd:((arrOf st).toList.map λp=>rk p.1).Nodup:=(pm.map _).nodup_iff.mpr T.nd
 have dis:∀ p∈X,∀ q∈Y,rk p.1≠rk q.1:=by
  rw[ar,hX,hX,hX]at nd;have n2:=(fN.mp nd).2.1;have n3:=(fN.mp n2).2.2;show λp hp q hq=>n3 _ (gK.mpr #[p,hp,rfl]) _ (tq _ (gK.mpr #[q,hq,rfl]))
 have size:(arrOf st).size=P[1]+X[1]+Y[1]+R.length:=by
  have:=congrArg List.length ar;simp at this;lia
 have gX:∀{j} hj,(arrOf st)[P[1]+j]?=!X[j]/\av rk (arrOf st) (P[1]+j)=rk X[j].1:=λhj=>KA ar hj
 have gY:∀{j} hj,(arrOf st)[P[1]+X[1]+j]?=!Y[j]/\av rk (arrOf st) (P[1]+X[1]+j)=rk Y[j].1:=λ{j} hj=>by
  have:=KA (rk:=rk) ar2 hj
  rwa [lpx]at this
 have rX:∀ i j (h:i<j) (hj:j<X[1]),rk (X[i]'"").1<rk X[j].1:=λi j h hj=>tX.mp rx i j "" hj h
 have rY:∀ i j (h:i<j) (hj:j<Y[1]),rk (Y[i]'"").1<rk Y[j].1:=λi j h hj=>tX.mp ry i j "" hj h
 have y0:0<Y[1]:=""
 have h4:(∀ p∈X,∀ q∈Y,rk p.1<rk q.1)->Ris rk (X++Y):=λz=>gW.mpr #[rx,ry,z]
 have B:∀ q∈Y,rk (Y[0]'y0).1<=rk q.1:=λq hq=>by
  let⟨j,hj,rfl⟩:=tH.mp hq;rcases Nat.eq_zero_or_pos j with c|c
  .subst c;show pE _
  show cE (rY 0 j c hj)
 have O:∀ p∈X,rk p.1<=rk (X[X[1]-1]'"").1:=λp hp=>by
  let⟨j,hj,rfl⟩:=tH.mp hp;rcases bM j (X[1]-1)with c|c
  .show cE (rX j _ c "")
  have:j=X[1]-1:=""
  subst this;show pE _
 show wpS_bind (bS ?_)
 try dsimp only
 rw[show(pendingOf st)[i]?=_ from p1,show(pendingOf st)[i+1]?=_ from p2]
 try dsimp only
 show wpS_bind (qc3 ?_);show wpS (model prog w) A E s _ Q (SortSt.mk' (kindOf st) (arrOf st) (((pendingOf st).setIfInBounds i (P[1],X[1]+Y[1],pw)).eraseIdxIfInBounds (i+1)) (gallopOf st) (failedOf st));generalize ez:SortSt.mk' (kindOf st) (arrOf st) (((pendingOf st).setIfInBounds i (P[1],X[1]+Y[1],pw)).eraseIdxIfInBounds (i+1)) (gallopOf st) (failedOf st)=z0;have z1:arrOf z0=arrOf st:=by rw[<- ez]
 have z2:kindOf z0=kd:=by rw[<- ez];show hk
 have z3:failedOf z0=none:=by rw[<- ez];show hf
 have z4:pendingOf z0=((pendingOf st).setIfInBounds i (P[1],X[1]+Y[1],pw)).eraseIdxIfInBounds (i+1):=by rw[<- ez]
 have fin:(∀ p∈X,∀ q∈Y,rk p.1<rk q.1)->Q true z0:=λhh=>h z0 (X++Y) (List.Perm.refl _) (h4 hh) (by rw[z1,ar,hV]) z2 z3 z4
 have sg1:Seg rk ini (arrOf st) (Y[0]'y0) P[1] X[1]:=#["",mem,mY _ "s",λa b hab hb=>by rw[(gX "").2,(gX hb).2];show rX a b hab hb,λa ha=>by rw[(gX ha).2];show dis _ "s" _ "s"]
 show wpS_bind (jS (p:=Y[0]'y0) (by have:=(gY y0).1;simpa using this) ?_)
 show wpS_bind (xo T z2 sg1 "" λk P1=>?_)
 let⟨q1,q2,q3⟩:=P1;have q2:∀ j (hj:j<k),rk (X[j]'"").1<rk (Y[0]'y0).1:=λj hj=>by have:=q2 j hj;rwa [(gX "").2]at this
 have q3:∀ j h1 (hj:j<X[1]),rk (Y[0]'y0).1<rk X[j].1:=λj h1 hj=>by have:=q3 j h1 hj;rwa [(gX hj).2]at this
 try dsimp only
 by_cases c1:X[1]-k=0
 .rw[iP c1[""]]
  show wpS_pure (fin λp hp q hq=>?_)
  let⟨j,hj,rfl⟩:=tH.mp hp;have:=q2 j ""
  have:=B q hq;lia
 rw[iN c1[""]]
 have xl:X[1]-1<X[1]:=""
 have sg2:Seg rk ini (arrOf st) X[X[1]-1] (P[1]+X[1]) Y[1]:=#["",mem,mX _ "s",λa b hab hb=>by rw[(gY "").2,(gY hb).2];show rY a b hab hb,λa ha=>by rw[(gY ha).2];show(dis _ "s" _ "s").symm]
 show wpS_bind (jS (p:=X[X[1]-1]) (by
  have:=(gX xl).1;rw[show P[1]+k+(X[1]-k)-1=P[1]+(X[1]-1)by lia]
  show this) ?_)
 show wpS_bind (xo T z2 sg2 "" λkb P2=>?_)
 let⟨r1,r2,r3⟩:=P2;have r2:∀ j (hj:j<kb),rk (Y[j]'"").1<rk X[X[1]-1].1:=λj hj=>by have:=r2 j hj;rwa [(gY "").2]at this
 have r3:∀ j (h1:kb<=j) (hj:j<Y[1]),rk X[X[1]-1].1<rk Y[j].1:=λj h1 hj=>by have:=r3 j h1 hj;rwa [(gY hj).2]at this
 try dsimp only
 by_cases c2:kb=0
 .rw[iP c2[""]]
  show wpS_pure (fin λp hp q hq=>?_)
  let⟨j,hj,rfl⟩:=tH.mp hq;have:=r3 j "" hj
  have:=O p hp;lia
 rw[iN c2[""]]
 generalize eX:(arrOf st).extract (P[1]+k) (P[1]+X[1])=x;generalize eY:(arrOf st).extract (P[1]+X[1]) (P[1]+X[1]+kb)=y;have lx:x[2]=X.drop k:=by
  rw[<- eX,V8 _ "",ar,List.take_append,tZ "",List.drop_append,po "",p7,show P[1]+X[1]-P[1]=X[1] by lia,cM (gC _),cK,show P[1]+k-P[1]=k by lia]
 have ly:y[2]=Y.take kb:=by
  rw[<- eY,V6,ar2,List.drop_append,po "",p7,lpx,sub_self,List.drop_zero,cM r1]
 have sx:x.size=X[1]-k:=by have:=congrArg List.length lx;rw[fG]at this;simpa using this
 have sy:y.size=kb:=by have:=congrArg List.length ly;rw[tD,pB r1]at this;simpa using this
 have W:Two rk ini x y:=#[by rw[lx];show rx.drop,by rw[ly];show ry.take,λp hp=>mX p (by rw[lx]at hp;show fB hp),λp hp=>mY p (by rw[ly]at hp;show fA hp),λp hp q hq=>dis p (by rw[lx]at hp;show fB hp) q (by rw[ly]at hq;show fA hq)]
 have eY0:y[0+0]=Y[0]'y0:=by
  have:y[0]?=(Y[0]?):=by
   have e:y[0]?=y[2][0]?:=by simp
   rw[e,ly,pY,iP ""]
  rw[pA y 0 "",gG y0]at this
  show tN this
 have eXl:x[x.size-1]'""=X[X[1]-1]:=by
  have:x[x.size-1]?=X[X[1]-1]?:=by
   have e:x[x.size-1]?=x[2][x.size-1]?:=by simp
   rw[e,lx,List.getElem?_drop,sx];congr 1;lia
  rw[pA x (x.size-1) "",gG xl]at this
  show tN this
 have first:∀ p∈x[2],rk (y[0]'"").1<rk p.1:=λp hp=>by
  rw[lx]at hp;let⟨j,hj,rfl⟩:=tH.mp hp;rw[fG]at hj;rw[eY0,List.getElem_drop];show q3 (k+j) "" ""
 have U:∀ q∈y[2],rk q.1<rk (x[x.size-1]'"").1:=λq hq=>by
  rw[ly]at hq;let⟨j,hj,rfl⟩:=tH.mp hq;rw[tD]at hj;rw[eXl,List.getElem_take];show r2 j ""
 have Z:∀(o:Array aj) (z:am),Fin2 rk x[2] y[2] o[2]->Same z0 z->Q true (SortSt.mk' (kindOf z) (o[2].zipIdx.foldl (λa p=>a.setIfInBounds (P[1]+k+p.2) p.1) (arrOf z)) (pendingOf z) (gallopOf z) (failedOf z)):=λo z F hz=>by
  let⟨fp,fu⟩:=F;rw[lx,ly]at fp;have ol:o[2].length=X[1]-k+kb:=by
   have:=fp.length_eq;rw[gD,fG,tD,pB r1]at this;show this
  have h3:∀ p∈o[2],p∈X.drop k\/p∈Y.take kb:=λp hp=>gE.mp (fp.mem_iff.mp hp)
  have az:arrOf z=arrOf st:=hz.ar.trans z1;have wl:=qc4 o[2] 0 (arrOf st) (P[1]+k) (by
   have e:(arrOf st).toList.length=(arrOf st).size:=by simp
   rw[e,size,ol];lia)
  rw[Nat.add_zero]at wl;have t1:(arrOf st).toList.take (P[1]+k)=P++X.take k:=by
   rw[ar,List.take_append,tZ "",show P[1]+k-P[1]=k by lia,cM q1]
  have t2:(arrOf st).toList.drop (P[1]+k+o[2].length)=Y.drop kb++R:=by
   rw[ar2,ol,List.drop_append,po "",p7,lpx,show P[1]+k+(X[1]-k+kb)-(P[1]+X[1])=kb by lia,cL r1]
  rw[t1,t2]at wl;show h _ (X.take k++(o[2]++Y.drop kb)) ?_ ?_ ?_ (hz.kd.trans z2) (hz.fl.trans z3) (hz.pd.trans z4)
  .have e:X++Y=X.take k++((X.drop k++Y.take kb)++Y.drop kb):=by
    rw[hV,tU,<- hV,tU]
   rw[e];show c9 _ (fp.append_right _)
  .have lo:∀ p∈X.take k,∀ q∈Y,rk p.1<rk q.1:=λp hp q hq=>by
    let⟨j,hj,rfl⟩:=tH.mp hp;rw[tD]at hj;rw[List.getElem_take];have:=q2 j ""
    have:=B q hq;lia
   have hi:∀ p∈X,∀ q∈Y.drop kb,rk p.1<rk q.1:=λp hp q hq=>by
    let⟨j,hj,rfl⟩:=tH.mp hq;rw[fG]at hj;rw[List.getElem_drop];have:=r3 (kb+j) "" ""
    have:=O p hp;lia
   have sX:=gW.mp (show Ris rk (X.take k++X.drop k)by rw[tU];show rx)
   have sY:=gW.mp (show Ris rk (Y.take kb++Y.drop kb)by rw[tU];show ry)
   show gW.mpr #[rx.take,gW.mpr #[fu,ry.drop,λp hp q hq=>?_],λp hp q hq=>?_]
   .rcases h3 p hp with hp|hp
    .show hi p (fB hp) q hq
    show sY.2.2 p hp q hq
   rcases gE.mp hq with hq|hq
   .rcases h3 q hq with hq|hq
    .show sX.2.2 p hp q hq
    show lo p hp q (fA hq)
   show lo p hp q (fB hq)
  show(o[2].zipIdx.foldl (λa p=>a.setIfInBounds (P[1]+k+p.2) p.1) (arrOf z)).toList=_
  rw[az,wl];simp
 show jY (λ_=>?_) λ_=>?_
 .show wpS_bind (qc0 T z2 W "" "" first U λo z F hz=>?_)
  show wpS_bind (wpS_modify ?_);show wpS_bind (bS ?_);have e:(failedOf z).isNone=true:=by rw[hz.fl,z3];rfl
  have:=Z o z F hz;show wpS_pure ?_;show Q (failedOf z).isNone _;rw[e];show this
 show wpS_bind (qc2 T z2 W "" "" first U λo z F hz=>?_)
 show wpS_bind (wpS_modify ?_);show wpS_bind (bS ?_);have e:(failedOf z).isNone=true:=by rw[hz.fl,z3];rfl
 have:=Z o z F hz;show wpS_pure ?_;show Q (failedOf z).isNone _;rw[e];show this
variable{pd:Array (Nat×Nat×Nat)}{hd:List aj}
structure Md(kd:SortKind)(ini:Array Keyed)(pd:Array (Nat×Nat×Nat))(hd:List Keyed)(z:SortSt):Prop where
 pm:(arrOf z).Perm ini
 kd:kindOf z=kd
 fl:failedOf z=none
 pn:pendingOf z=pd
 hd:(arrOf z).toList.take hd[1]=hd
def Md.sz(m:Md kd ini pd hd z):(arrOf z).size=ini.size:=m.pm.size_eq
def Md.le(m:Md kd ini pd hd z):hd[1]<=ini.size:=by
 have:=congrArg List.length m.hd;rw[tD]at this;have e:(arrOf z).toList.length=ini.size:=by simp;show m.sz
 lia
def Md.put(m:Md kd ini pd hd z){xs:Array aj}(p:xs.Perm (arrOf z))(B:∀ i,i<hd[1]->xs[i]?=(arrOf z)[i]?):Md kd ini pd hd (setArr z xs):=by
 show#[p.trans m.pm,m.kd,m.fl,m.pn,?_];rw[<- m.hd];apply dY;intro i;have hl:min hd[1] (arrOf z).toList.length=hd[1]:=by
  have:=m.le;have e:(arrOf z).toList.length=ini.size:=by simp;show m.sz
  lia
 rw[pY,pY]
 simp_all
def Md.get(m:Md kd ini pd hd z){i:Nat}(hi:i<ini.size):∃ p,(arrOf z)[i]?=!p/\p∈ini[2]/\av rk (arrOf z) i=rk p.1:=by
 have h:i<(arrOf z).size:=by rw[m.sz];show hi
 have e:(arrOf z)[i]?=!(arrOf z)[i]:=pA _ i h;show#[(arrOf z)[i],e,((fO.mp m.pm).mem_iff.mp "s"),?_]
 delta av;rw[e]
def Md.ask(T:Tells prog w A s kd rk ini)(m:Md kd ini pd hd z)(hi:i<ini.size)(B:j<ini.size)(h:Q (!(decide (av rk (arrOf z) i<av rk (arrOf z) j))) z) :
  wpS (model prog w) A E s (ltAt' i j) Q z:=by
 let⟨p,e1,m1,a1⟩:=m.get hi;let⟨q,e2,m2,a2⟩:=m.get B;rw[a1,a2]at h;show wpS_bind (bS (wpS_bind (jS e1 (wpS_bind (jS e2 (ask2 T m.kd m1 m2 h))))))
def Md.ne(T:Tells prog w A s kd rk ini)(m:Md kd ini pd hd z){i j:Nat}(hi:i<ini.size)(B:j<ini.size)(h:i≠j):av rk (arrOf z) i≠av rk (arrOf z) j:=by
 have li:i<(arrOf z).size:=by rw[m.sz];show hi
 have lj:j<(arrOf z).size:=by rw[m.sz];show B
 rw[zG li,zG lj];show λq=>h ((List.getElem_inj (h₀:=by simpa using li) (h₁:=by simpa using lj) (((fO.mp m.pm).map λp=>rk p.1).nodup_iff.mpr T.nd)).mp ?_)
 simpa using q
abbrev Upl(rk:aa->Int)(z:am)(lo k:Nat):Prop:=∀ i j,i<j->j<k->av rk (arrOf z) (lo+i)<av rk (arrOf z) (lo+j)
abbrev Dnl(rk:aa->Int)(z:am)(lo k:Nat):Prop:=∀ i j,i<j->j<k->av rk (arrOf z) (lo+j)<av rk (arrOf z) (lo+i)
def Upl.more{lo x:Nat}(u:Upl rk z lo x)(B:1<=x)(h:av rk (arrOf z) (lo+x-1)<av rk (arrOf z) (lo+x)):Upl rk z lo (x+1):=λi j h1 h2=>by
 by_cases c:j<x
 .show u i j h1 c
 have ej:j=x:=""
 subst ej;by_cases ci:i=j-1
 .subst ci;rw[show lo+(j-1)=lo+j-1 by lia]
  show h
 have:=u i (j-1) "" ""
 rw[show lo+(j-1)=lo+j-1 by lia]at this
 lia
def Dnl.more{lo x:Nat}(u:Dnl rk z lo x)(B:1<=x)(h:av rk (arrOf z) (lo+x)<av rk (arrOf z) (lo+x-1)):Dnl rk z lo (x+1):=λi j h1 h2=>by
 by_cases c:j<x
 .show u i j h1 c
 have ej:j=x:=""
 subst ej;by_cases ci:i=j-1
 .subst ci;rw[show lo+(j-1)=lo+j-1 by lia]
  show h
 have:=u i (j-1) "" ""
 rw[show lo+(j-1)=lo+j-1 by lia]at this
 lia
def qc6(T:Tells prog w A s kd rk ini)(m:Md kd ini pd hd z)(B:hd[1]+n=ini.size)(h1:1<=n)
  (h:∀ r y,Md kd ini pd hd y->1<=r->r<=n->Upl rk y hd[1] r->Q ↑r y):wpS (model prog w) A E s (countRun' hd[1] n) Q z:=by
 generalize el:hd[1]=lo at *;show wpS_bind (wpS_mono (wpS_forRange (λx c y=>y=z/\c=(none,x)/\Upl rk z lo x) (Q:=λc y=>y=z/\∃ x,c=(none,x)/\1<=x/\x<=n/\Upl rk z lo x/\(x=n\/av rk (arrOf z) (lo+x)<av rk (arrOf z) (lo+x-1))) (λx c y lx hx hI=>?_) (λc y hI=>?_) #[rfl,rfl,λi j a b=>by lia]) λc y hc=>?_)
 .let⟨rfl,rfl,u⟩:=hI
  try dsimp only
  show wpS_bind (m.ask T "" "" ?_)
  by_cases c:av rk (arrOf y) (lo+x)<av rk (arrOf y) (lo+x-1)
  .rw[tJ c];show wpS_pure #[rfl,x,rfl,lx,"",u,.inr c]
  rw[tm c];have:=m.ne T (i:=lo+x) (j:=lo+x-1) "" "" ""
  show wpS_pure #[rfl,rfl,u.more lx ""]
 .let⟨rfl,rfl,u⟩:=hI;have e:max 1 n=n:=""
  rw[e]at u ⊢;show#[rfl,n,rfl,h1,gC _,u,.inl rfl]
 let⟨rfl,k,rfl,k1,k2,u,o⟩:=hc
 try dsimp only
 by_cases c:k=n
 .rw[iP c[""]]
  show wpS_pure (h k y m k1 k2 u)
 rw[iN c[""]]
 have lt:=o.resolve_left c;by_cases c1:k>1
 .rw[iP c1];show wpS_bind (m.ask T "" "" ?_)
  have le:=u 0 (k-1) "" ""
  rw[Nat.add_zero,show lo+(k-1)=lo+k-1 by lia]at le
  rw[tJ le];show wpS_pure (h k y m k1 k2 u)
 rw[iN c1];have e:k=1:=""
 subst e;show wpS_bind (mw (pU #[rfl,?_]));show wpS_bind (wpS_mono (wpS_forRange (λx c v=>v=y/\c=(none,x,0)/\Dnl rk y lo x) (Q:=λc v=>v=y/\∃ x,c=(none,x,0)/\2<=x/\x<=n/\Dnl rk y lo x) (λx c v lx hx hI=>?_) (λc v hI=>?_) #[rfl,rfl,λi j a b=>?_]) λc v hc=>?_)
 .let⟨rfl,rfl,u'⟩:=hI
  try dsimp only
  show wpS_bind (m.ask T "" "" ?_)
  by_cases c:av rk (arrOf v) (lo+x)<av rk (arrOf v) (lo+x-1)
  .rw[tJ c]
   try dsimp only
   rw[iP rfl,iN ""]
   show wpS_pure #[rfl,rfl,u'.more "" c]
  rw[tm c]
  try dsimp only
  rw[iN "d"]
  have:=m.ne T (i:=lo+x) (j:=lo+x-1) "" "" ""
  show wpS_bind (m.ask T "" "" ?_)
  rw[tJ (show av rk (arrOf v) (lo+x-1)<av rk (arrOf v) (lo+x)by lia)]
  show wpS_pure #[rfl,x,rfl,"o","",u']
 .let⟨rfl,rfl,u'⟩:=hI;have e:max (1+1) n=n:=""
  rw[e]at u' ⊢;show#[rfl,n,rfl,"",gC _,u']
 .have e1:i=0:=""
  have e2:j=1:=""
  subst e1 e2;simpa using lt
 let⟨rfl,x,rfl,x1,x2,u'⟩:=hc
 try dsimp only
 rw[iN ""]
 have hz:lo+x<=(arrOf v).size:=by rw[m.sz];lia
 have gm:=λk=>getElem?_mirror_all (i:=lo) hz k
 have m2:Md kd ini pd hd (setArr v (mirror (arrOf v) lo (lo+x) ((lo+x-lo)/2))):=m.put (mirror_perm _ _ _ _) (λi hi=>by rw[gm,iN ""])
 show wpS_bind (wpS_reverse ?_);generalize ey:setArr v (mirror (arrOf v) lo (lo+x) ((lo+x-lo)/2))=y2 at m2;have u2:Upl rk y2 lo x:=λi j a b=>by
  rw[<- ey];show av rk (mirror (arrOf v) lo (lo+x) ((lo+x-lo)/2)) (lo+i)<av rk (mirror (arrOf v) lo (lo+x) ((lo+x-lo)/2)) (lo+j);rw[YJ hz,YJ hz,iP "",iP ""]
  have:=u' (x-1-j) (x-1-i) "" ""
  rw[show lo+(lo+x)-1-(lo+i)=lo+(x-1-i)by lia,show lo+(lo+x)-1-(lo+j)=lo+(x-1-j)by lia]
  show this
 show wpS_bind (wpS_mono (wpS_forRange (λt c v=>v=y2/\c=(none,t)/\Upl rk y2 lo t) (Q:=λc v=>v=y2/\∃ t,c=(none,t)/\1<=t/\t<=n/\Upl rk y2 lo t) (λt c v lx hx hI=>?_) (λc v hI=>?_) #[rfl,rfl,u2]) λc v hc=>?_)
 .let⟨rfl,rfl,u3⟩:=hI
  try dsimp only
  show wpS_bind (m2.ask T "" "" ?_)
  by_cases c:av rk (arrOf v) (lo+t)<av rk (arrOf v) (lo+t-1)
  .rw[tJ c];show wpS_pure #[rfl,t,rfl,"","",u3]
  rw[tm c];have:=m2.ne T (i:=lo+t) (j:=lo+t-1) "" "" ""
  show wpS_pure #[rfl,rfl,u3.more "" ""]
 .let⟨rfl,rfl,u3⟩:=hI;have e:max x n=n:=""
  rw[e]at u3 ⊢;show#[rfl,n,rfl,h1,gC _,u3]
 let⟨rfl,t,rfl,t1,t2,u3⟩:=hc;show wpS_pure (h t v m2 t1 t2 u3)
def qc7(T:Tells prog w A s kd rk ini)(m:Md kd ini pd hd z)(Z:hd[1]+n<=ini.size)(h2:ok<=n)(u:Upl rk z hd[1] ok)
  (h:∀ y,Md kd ini pd hd y->Upl rk y hd[1] n->Q true y):wpS (model prog w) A E s (binarySort' hd[1] n ok) Q z:=by
 generalize el:hd[1]=lo at *;show wpS_bind (wpS_mono (wpS_forRange (λk c y=>c=(none,())/\Md kd ini pd hd y/\Upl rk y lo (min k n)) (Q:=λc y=>c=(none,())/\Md kd ini pd hd y/\Upl rk y lo n) (λk c y l1 l2 hI=>?_) (λc y hI=>?_) #[rfl,m,?_]) λc y hc=>?_)
 .let⟨rfl,m',u'⟩:=hI;have ek:min k n=k:=""
  rw[ek]at u';have ul:∀ i j,i<=j->j<k->av rk (arrOf y) (lo+i)<=av rk (arrOf y) (lo+j):=λi j a b=>by
   rcases bM i j with c|c
   .show cE (u' i j c b)
   rw[show i=j by lia];show pE _
  show wpS_bind (wpS_mono (wpS_forRange (λx c v=>v=y/\∃ l r,c=(none,l,r)/\l<=r/\r<=k/\r-l<=k-x/\(∀ i,i<l->av rk (arrOf y) (lo+i)<av rk (arrOf y) (lo+k))/\∀ i,r<=i->i<k->av rk (arrOf y) (lo+k)<av rk (arrOf y) (lo+i))
   (Q:=λc v=>v=y/\∃ l r,c=(none,l,r)/\l<=k/\(∀ i,i<l->av rk (arrOf y) (lo+i)<av rk (arrOf y) (lo+k))/\∀ i,l<=i->i<k->av rk (arrOf y) (lo+k)<av rk (arrOf y) (lo+i))
   (λx c v _ lx hJ=>?_) (λc v hJ=>?_) #[rfl,0,k,rfl,"","","",λi hi=>by lia,λi a b=>by lia]) λc v hJ=>?_)
  .let⟨rfl,l,r,rfl,lr,O,U,B,hi⟩:=hJ
   try dsimp only
   by_cases ge:l≥r
   .rw[iP ge];have:l=r:=""
    subst this;show wpS_pure #[rfl,l,l,rfl,O,B,hi]
   rw[iN ge];show wpS_bind (m'.ask T "" "" ?_)
   have ne:=m'.ne T (i:=lo+k) (j:=lo+(l+r)/2) "" "" ""
   by_cases c:av rk (arrOf v) (lo+k)<av rk (arrOf v) (lo+(l+r)/2)
   .rw[tJ c];show wpS_pure #[rfl,l,(l+r)/2,rfl,"","","",B,λi a b=>?_]
    have:=ul ((l+r)/2) i a b;lia
   rw[tm c];show wpS_pure #[rfl,(l+r)/2+1,r,rfl,"","o","",λi a=>?_,hi]
   have:=ul i ((l+r)/2) "" ""
   lia
  .let⟨rfl,l,r,rfl,lr,O,U,B,hi⟩:=hJ;have:l=r:=""
   subst this;show#[rfl,l,l,rfl,O,B,hi]
  let⟨rfl,l,r,rfl,lk,B,hi⟩:=hJ
  try dsimp only
  have hz:lo+k<(arrOf v).size:=by rw[m'.sz];lia
  have gb:=λt=>getElem?_bubble hz (lo+k-(lo+l)) "" t
  show wpS_bind (wpS_modify (wpS_pure #[rfl,m'.put (bubble_perm _ _ _) λi Y=>?_,?_]))
  .have:=gb i;rw[iN "",iN ""]at this
   show this
  have e1:min (k+1) n=k+1:=""
  have e2:lo+k-(lo+k-(lo+l))=lo+l:=""
  rw[e1];intro i j a b;show av rk (bubble (arrOf v) (lo+k) (lo+k-(lo+l))) (lo+i)<av rk (bubble (arrOf v) (lo+k) (lo+k-(lo+l))) (lo+j);rw[YI hz "",YI hz "",e2]
  by_cases i1:i=l
  .rw[iP "",iN "",iP "",show lo+j-1=lo+(j-1)by lia]
   show hi _ "" ""
  rw[iN ""]
  by_cases i2:l<i/\i<=k
  .rw[iP "",iN "",iP "",show lo+i-1=lo+(i-1)by lia,show lo+j-1=lo+(j-1)by lia]
   show u' _ _ "" ""
  rw[iN ""]
  by_cases j1:j=l
  .rw[iP ""]
   show B _ ""
  rw[iN ""]
  by_cases j2:l<j/\j<=k
  .rw[iP "",show lo+j-1=lo+(j-1)by lia]
   by_cases q:i<j-1
   .show u' _ _ q ""
   lia
  rw[iN ""]
  show u' _ _ a ""
 .let⟨hc,m',u'⟩:=hI;have e:min (max (max ok 1) n) n=n:=""
  rw[e]at u';show#[hc,m',u']
 .show λi j a b=>u i j a ""
 let⟨rfl,m',u'⟩:=hc;show wpS_pure (h y m' u')
end
section
variable{prog:af}{w:World}{A:ag}{E:aa->ab->Prop}{s:ab}{kd:SortKind}{rk:aa->Int}{ini:Array aj}
def PM:Nat->List (Nat×Nat×Nat)->List (List aj)->Prop
 | _,[],[]=>True
 | off,p::pd,R::rs=>p.1=off/\p.2.1=R.length/\PM (off+R.length) pd rs
 | _,_,_=>False
theorem PM.len:∀{off} {pd} {rs},PM off pd rs->pd[1]=rs[1]
 | _,[],[],_=>rfl
 | _,p::pd,R::rs,h=>by rw[gJ,gJ,PM.len h.2.2]
 | _,[],_::_,h=>h.elim
 | _,_::_,[],h=>h.elim
theorem PM.split:∀{pre} {off} {pd} {rs},PM off pd (pre++rs)->∃ p1 p2,pd=p1++p2/\PM off p1 pre/\PM (off+pre.flatten.length) p2 rs
 | [],off,pd,rs,h=>#[[],pd,rfl,trivial,by simpa using h]
 | R::pre,off,[],rs,h=>h.elim
 | R::pre,off,p::pd,rs,h=>by
  let⟨h1,h2,h3⟩:=h;let⟨p1,p2,e,g1,g2⟩:=PM.split h3;show#[p::p1,p2,by rw[e];rfl,#[h1,h2,g1],?_]
  rw[tQ,gD,<- add_assoc];show g2
theorem PM.join:∀{pre} {off} {p1 p2} {rs},PM off p1 pre->PM (off+pre.flatten.length) p2 rs->PM off (p1++p2) (pre++rs)
 | [],off,[],p2,rs,_,h=>by simpa using h
 | [],off,_::_,p2,rs,h,_=>h.elim
 | R::pre,off,[],p2,rs,h,_=>h.elim
 | R::pre,off,p::p1,p2,rs,h,k=>by
  let⟨h1,h2,h3⟩:=h;rw[tQ,gD,<- add_assoc]at k;show#[h1,h2,PM.join h3 k]
structure Rn(kd:SortKind)(rk:Value->Int)(ini:Array Keyed)(runs:List (List Keyed))(rest:List Keyed)(z:SortSt):Prop where
 ar:(arrOf z).toList=runs.flatten++rest
 pm:(arrOf z).Perm ini
 kd:kindOf z=kd
 fl:failedOf z=none
 ok:∀ R∈runs,1<=R.length/\Ris rk R
 st:PM 0 (pendingOf z).toList runs
def Rn.merge{B:List (List aj)}{rest:List aj}{i:Nat}{Q:Bool->am->Prop}(T:Tells prog w A s kd rk ini)(R:Rn kd rk ini B rest z)(hi:i+1<B[1])
  (h:∀ y rs,rs.flatten.length=B.flatten.length->rs[1]+1=B[1]->Rn kd rk ini rs rest y->Q true y):wpS (model prog w) A E s (mergeAt' i) Q z:=by
 have e1:B=B.take i++(B[i]::B[i+1]::B.drop (i+2)):=by
  simp
 generalize hp:B.take i=pre at e1;generalize B[i]=X at e1;generalize B[i+1]=Y at e1;generalize B.drop (i+2)=post at e1;have pl:pre[1]=i:=by rw[<- hp,tD];lia
 have O:=R.ok X (by rw[e1];simp)
 have okY:=R.ok Y (by rw[e1];simp)
 have st:=R.st;rw[e1]at st;let⟨p1,p2,ep,g1,g2⟩:=st.split;have l1:=g1.len;cases p2 with
 | nil=>show g2.elim
 | cons q1 p2 =>
  cases p2 with
  | nil=>show g2.2.2.elim
  | cons q2 p3 =>
   let⟨a1,a2,b1,b2,g3⟩:=g2;have x1:(pendingOf z)[i]?=!(pre.flatten.length,X[1],q1.2.2):=by
    have e:(pendingOf z)[i]?=(pendingOf z).toList[i]?:=by simp
    rw[e,ep,t4 "",show i-p1[1]=0 by lia]
    grind
   have x2:(pendingOf z)[i+1]?=!(pre.flatten.length+X[1],Y[1],q2.2.2):=by
    have e:(pendingOf z)[i+1]?=(pendingOf z).toList[i+1]?:=by simp
    rw[e,ep,t4 "",show i+1-p1[1]=1 by lia]
    let⟨u,v,t⟩:=q2;simp at b1 b2 ⊢;show#[b1,b2]
   show qc5 (P:=pre.flatten) (X:=X) (Y:=Y) (R:=post.flatten++rest) T R.kd R.fl (by rw[R.ar,e1];simp) (fO.mp R.pm) O.1 okY.1 O.2 okY.2 x1 x2 λy M U uM Z kM fM pM=>?_
   have ml:M[1]=X[1]+Y[1]:=by rw[U.length_eq,gD]
   show h y (pre++(M::post)) (by rw[e1];simp;lia) (by rw[e1];simp;lia) #[by rw[Z];simp,?_,kM,fM,λS hS=>?_,?_]
   .show fO.mpr (List.Perm.trans ?_ (fO.mp R.pm));rw[Z,R.ar,e1];simp[List.flatten_append,tQ,hV];show c9 _ ?_;rw[<- hV X Y];show U.append_right _
   .rcases gE.mp hS with hS|hS
    .show R.ok S (by rw[e1];show tq _ hS)
    rcases gw.mp hS with rfl|hS
    .show#[by have:=O.1;lia,uM]
    show R.ok S (by rw[e1];simp[hS])
   have ep2:(pendingOf y).toList=p1++((pre.flatten.length,X[1]+Y[1],q1.2.2)::p3):=by
    rw[pM];have:(((pendingOf z).setIfInBounds i (pre.flatten.length,X[1]+Y[1],q1.2.2)).eraseIdxIfInBounds (i+1)).toList=((pendingOf z).toList.set i (pre.flatten.length,X[1]+Y[1],q1.2.2)).eraseIdx (i+1):=by
     simp[Array.toList_eraseIdxIfInBounds]
    rw[this,ep,List.set_append_right _ _ "",show i-p1[1]=0 by lia,fP,List.eraseIdx_append_of_length_le "",show i+1-p1[1]=1 by lia]
    rfl
   rw[ep2];show g1.join #[by rw[pL],ml.symm,?_]
   rw[ml,<- add_assoc];show g3
theorem PM.repower:∀{off} {pd} {rs} f k,(∀ p,(f p).1=p.1/\(f p).2.1=p.2.1)->PM off pd rs->PM off (pd.modify k f) rs
 | _,[],[],f,k,_,_=>by simp[PM]
 | _,[],_::_,f,k,_,h=>h.elim
 | _,_::_,[],f,k,_,h=>h.elim
 | off,p::pd,R::rs,f,0,hf,h=>by
  let⟨h1,h2,h3⟩:=h;show#[(hf p).1.trans h1,(hf p).2.trans h2,h3]
 | off,p::pd,R::rs,f,k+1,hf,h=>by
  let⟨h1,h2,h3⟩:=h;show#[h1,h2,PM.repower f k hf h3]
def qc8:∀{rs:List (List aj)},(∀ R∈rs,1<=R.length)->rs[1]<=rs.flatten.length:=λ{rs}=>rs.rec
 (@λ_=>gC _)
 λR rs IH=>@λh=>by
  have b:=IH λS hS=>h S (gj _ hS)
  grind
def qc9(m:Md kd ini pd hd y)(B:hd[1]+n<=ini.size)(u:Upl rk y hd[1] n):∃ N rest,(arrOf y).toList=hd++(N++rest)/\N[1]=n/\Ris rk N:=by
 have e:(arrOf y).toList.length=ini.size:=by simp;show m.sz
 show#[((arrOf y).toList.drop hd[1]).take n,((arrOf y).toList.drop hd[1]).drop n,?_,?_,?_]
 .rw[tU]
  conv=>lhs;rw[<- tU hd[1] (arrOf y).toList,m.hd]
 .grind
 show tX.mpr ?_;intro i j hi hj z;rw[tD]at hi hj;have:=u i j z ""
 rw[zG (by rw[m.sz];lia),zG (by rw[m.sz];lia)]at this
 simpa using this
def qca [Decidable c]{a b n:Nat}(h1:a<=n)(h2:b<=n):(if c then a else b)<=n:=by by_cases h:c<;>simp[h,h1,h2]
def qcb{f:Nat->StateT σ Sem α}{P:Nat->σ->Prop}{x:StateT σ Sem α}{Q:α->σ->Prop}{st:σ}(h:∀ r y,P r y->wpS M A E s (f r) Q y)(k:(∀ r y,P r y->wpS M A E s (f r) Q y)->wpS M A E s x Q st):wpS M A E s x Q st:=k h
def qcc{st:am}{Q:Unit->am->Prop}(T:Tells prog w A s kd rk ini)(p0:(arrOf st).Perm ini)(k0:kindOf st=kd)(f0:failedOf st=none)(d0:pendingOf st=#[])
  (h:∀ z,(arrOf z).Perm ini->failedOf z=none->Ris rk (arrOf z).toList->Q () z):wpS (model prog w) A E s sortRuns' Q st:=by
 show wpS_bind (bS ?_);have sz0:(arrOf st).size=ini.size:=p0.size_eq;rw[show(arrOf st).size=ini.size from sz0]
 have R0:Rn kd rk ini [] (arrOf st).toList st:=#[rfl,p0,k0,f0,(λ_ hr=>nomatch hr),by rw[d0];trivial]
 show wpS_bind (wpS_mono (wpS_forRange (λx c z=>∃ lo B rest,c=(none,lo)/\Rn kd rk ini B rest z/\lo=B.flatten.length/\x<=lo) (Q:=λc z=>c.1=none/\∃ B,Rn kd rk ini B [] z) (λx c z _ lx hI=>?_) (λc z hI=>?_) #[0,[],_,rfl,R0,rfl,gC _]) λc z hc=>?_)
 .let⟨lo,B,rest,rfl,R,rfl,hx⟩:=hI;have zl:(arrOf z).toList.length=ini.size:=by simp;show R.pm.size_eq
  have ll:B.flatten.length+rest[1]=ini.size:=by rw[<- zl,R.ar,gD]
  by_cases c:B.flatten.length≥ini.size
  .rw[iP c];have er:rest=[]:=fq.mp ""
   subst er;show wpS_pure #[rfl,B,R]
  rw[iN c];have M0:Md kd ini (pendingOf z) B.flatten z:=#[R.pm,R.kd,R.fl,rfl,by rw[R.ar,List.take_left]]
  show wpS_bind (qc6 T M0 "" "" λr y my r1 r2 uy=>?_)
  try dsimp -zeta -zetaHave only
  extract_lets n0 jp force0
  show qcb (f:=jp ()) (P:=λO y=>Md kd ini (pendingOf z) B.flatten y/\Upl rk y B.flatten.length O/\1<=O/\B.flatten.length+O<=ini.size) ?_ λK=>?_
  .intro O y ⟨my,uy,fo1,hrun⟩;show wpS_bind (bS ?_);let⟨N,U,ey,nl,un⟩:=qc9 my hrun uy;have Ry:Rn kd rk ini B (N++U) y:=#[ey,my.pm,my.kd,my.fl,R.ok,by rw[my.pn];show R.st]
   have Y:∀ v rs,Rn kd rk ini rs (N++U) v->rs.flatten.length=B.flatten.length->Rn kd rk ini (rs++[N]) U (setPending v ((pendingOf v).push (B.flatten.length,O,0))):=λv rs Rv hl=>by
    show#[by rw[show arrOf (setPending v ((pendingOf v).push (B.flatten.length,O,0)))=arrOf v from rfl,Rv.ar];simp,Rv.pm,Rv.kd,Rv.fl,λS hS=>?_,?_]
    .rcases gE.mp hS with hS|hS
     .show Rv.ok S hS
     rw[tR.mp hS];show#["",un]
    show PM 0 ((pendingOf v).push (B.flatten.length,O,0)).toList (rs++[N]);rw[d6];show Rv.st.join #[by rw[pL];show hl.symm,nl.symm,trivial]
   have fl2:∀ rs,rs.flatten.length=B.flatten.length->(rs++[N]).flatten.length=B.flatten.length+O:=λrs hl=>by rw[List.flatten_append,gD,hl,tQ,List.flatten_nil,tK,nl]
   cases hb:(pendingOf y).back? with
   | none =>
    try rw[hb]
    show wpS_bind (wpS_modify (wpS_pure #[_,_,_,rfl,Y y B Ry rfl,(fl2 B rfl).symm,""]))
   | some q =>
    try rw[hb]
    let⟨s1,n1,w1⟩:=q
    try dsimp only
    show wpS_bind (wpS_mono (wpS_forRange (λ_ c v=>c=(none,())/\∃ rs,Rn kd rk ini rs (N++U) v/\rs.flatten.length=B.flatten.length) (Q:=λc v=>c=(none,())/\∃ rs,Rn kd rk ini rs (N++U) v/\rs.flatten.length=B.flatten.length) (λx2 c v _ _ hK=>?_) (λc v hK=>hK) #[rfl,B,Ry,rfl]) λc v hc=>?_)
    .let⟨rfl,rs,Rv,hl⟩:=hK;show wpS_bind (bS ?_);have pl:(pendingOf v).size=rs[1]:=by rw[<- Rv.st.len];simp
     by_cases c:(pendingOf v).size>1
     .rw[iP c];have g:(pendingOf v)[(pendingOf v).size-2]?=!((pendingOf v)[(pendingOf v).size-2]'""):=pA _ _ ""
      rw[g];generalize ((pendingOf v)[(pendingOf v).size-2]'"")=q
      let⟨u1,u2,u3⟩:=q
      try dsimp only
      show jY (λ_=>wpS_pure #[rfl,rs,Rv,hl]) λ_=>?_
      have hm:(pendingOf v).size-2+1<rs[1]:=""
      show wpS_bind (Rv.merge T hm λv2 Z e1 e2 Rv2=>?_)
      show wpS_pure #[rfl,Z,Rv2,e1.trans hl]
     rw[iN c];show wpS_pure #[rfl,rs,Rv,hl]
    let⟨rfl,rs,Rv,hl⟩:=hc
    try dsimp only
    show wpS_bind (wpS_modify (wpS_bind (wpS_modify (wpS_pure #[_,_,_,rfl,Y _ rs #[Rv.ar,Rv.pm,Rv.kd,Rv.fl,Rv.ok,?_] hl,(fl2 rs hl).symm,""]))))
    show PM 0 ((pendingOf v).modify ((pendingOf v).size-1) _).toList rs;rw[Array.toList_modify];show Rv.st.repower _ _ (λp=>#[rfl,rfl])
  show jY (λc2=>?_) λ_=>?_
  .show wpS_bind (mw (pU #[rfl,?_]));have f1:r<=force0:=by
    show r<=min _ _;have c3:r<_:=c2;lia
   have f2:force0<=ini.size-B.flatten.length:=Nat.min_le_left _ _;show wpS_bind (qc7 T my "" f1 uy λy my uy=>?_)
   rw[iN "d"]
   show K _ _ #[my,uy,"",""]
  show K _ _ #[my,uy,"o",""]
 .let⟨lo,B,rest,rfl,R,rfl,hx⟩:=hI;have zl:(arrOf z).toList.length=ini.size:=by simp;show R.pm.size_eq
  have ll:B.flatten.length+rest[1]=ini.size:=by rw[<- zl,R.ar,gD]
  have er:rest=[]:=fq.mp ""
  subst er;show#[rfl,B,R]
 let⟨c1,B,R⟩:=hc;rw[c1]
 try dsimp only
 have zl:(arrOf z).toList.length=ini.size:=by simp;show R.pm.size_eq
 have ll:B.flatten.length=ini.size:=by rw[<- zl,R.ar,tK]
 show wpS_bind (wpS_mono (wpS_forRange (λx c v=>c=(none,())/\∃ rs,Rn kd rk ini rs [] v/\(rs[1]<=1\/rs[1]+x<=ini.size)) (Q:=λc v=>c=(none,())/\∃ rs,Rn kd rk ini rs [] v/\rs[1]<=1) (λx c v _ lx hK=>?_) (λc v hK=>?_) #[rfl,B,R,.inr (by have:=qc8 λS hS=>(R.ok S hS).1;lia)]) λc v hc=>?_)
 .let⟨rfl,rs,Rv,hl⟩:=hK;show wpS_bind (bS ?_);have pl:(pendingOf v).size=rs[1]:=by rw[<- Rv.st.len];simp
  try dsimp only
  by_cases c:(pendingOf v).size<=1
  .rw[iP c];show wpS_pure #[rfl,rs,Rv,""]
  rw[iN c];generalize hij:(if (Option.any _ _)=true then _ else _)=ij
  have hlt:ij+1<rs[1]:=by
   have:ij<=(pendingOf v).size-2:=by
    rw[<- hij];show qca (Nat.sub_le_sub_left (show 2<=3 by decide) _) (gC _)
   lia
  show wpS_bind (Rv.merge T hlt λv2 Z e1 e2 Rv2=>?_)
  show wpS_pure #[rfl,Z,Rv2,.inr ""]
 .let⟨hc,rs,Rv,hl⟩:=hK;show#[hc,rs,Rv,""]
 let⟨rfl,rs,Rv,hl⟩:=hc;show wpS_pure (h v Rv.pm Rv.fl ?_);rw[Rv.ar,tK];cases rs with
 | nil=>show List.Pairwise.nil
 | cons S rs =>
  have:rs=[]:=fq.mp (by rw[gJ]at hl;lia)
  subst this;rw[tQ,List.flatten_nil,tK];show(Rv.ok S "s").2
end
section
variable{prog:af}{w:World}{A:ag}{E:aa->ab->Prop}{s:ab}
def qcd{n:Nat}(B:a.size=n)(h:Ris rk a[2]):∀ i j,i<=j->j<n->av rk a i<=av rk a j:=by
 intro i j z hj;rw[zG "",zG ""]
 rcases Nat.eq_or_lt_of_le z with e|e
 .simp_all
 have:=tX.mp h i j (by simp;lia) (by simp;lia) e
 simp[Array.getElem_toList]at this
 omega
def qce{n:Nat}{P:Fin->ab->Prop}(Z:s.heap.get? a=!(seqObj "list" vs.toArray n))(R:Rows s.heap vs)(na:.ref a∉vs)(nd:(vs.map (qW s.heap)).Nodup)(h64:vs[1]<=5000)
  (h:∀ us:List aa,us.Perm vs->(us.map (qW s.heap)).Pairwise (λx y=>HT.lexLt y x=false)->P (.done (.ret .none)) {s with heap:=sortedHeap s.heap a vs us.toArray}) :
  wpAny (model prog w) A (Builtin.«list.sort» #[[.ref a],[]]) P E s:=by
 have la:a<s[0]:=gN Z;rw[list_sort_plain];show gg (listItems_at Z rfl (gg (listUpdate_at Z rfl ?_)));obtain⟨c1,o1⟩:∃ c1,(s.heap.update a (Obj.mapSeq λ_=>#[])).get? a=!(seqObj "list" #[] c1):=#[_,get?_update_seq Z λ_=>#[]]
 show gg (seqEpoch_at o1 rfl (gg (wpAny_newTuple (gg (wpAny_newList (fU ?_))))));show wpAny (model prog w) A _ P E {s with heap:=((s.heap.update a (Obj.mapSeq λ_=>#[])).push (seqObj "tuple" vs.toArray 0)).push (seqObj "list" #[] 0)}
 generalize eM:((s.heap.update a (Obj.mapSeq λ_=>#[])).push (seqObj "tuple" vs.toArray 0)).push (seqObj "list" #[] 0)=hM
 have old:∀ b o,b≠a->s.heap.get? b=!o->hM.get? b=!o:=λb o ne e=>by
  have lb:=gN e;rw[<- eM,cC _ _ _ (by rw[size_push',dm];show t8 (dW lb)),cC _ _ _ (by rw[dm];show t8 lb),Heap.get?_update_ne _ _ _ _ ne]
  show e
 have o2:hM.get? a=!(seqObj "list" #[] c1):=by
  rw[<- eM,cC _ _ _ (by rw[size_push',dm];show t8 (dW la)),cC _ _ _ (by rw[dm];show t8 la)]
  show o1
 have B:∀ v∈vs,∃ b its ns,v=.ref b/\IsTup s.heap b its.toArray/\IsTup hM b its.toArray/\IntsAre its ns/\ns≠[]:=λv hv=>by
  let⟨b,its,ns,e,⟨o,e2,c⟩,q,nn⟩:=R v hv;show#[b,its,ns,e,#[o,e2,c],#[o,old b o (λz=>?_) e2,c],q,nn]
  subst z e;show na hv
 have R2:Rows hM vs:=λv hv=>let #[b,its,ns,e,_,p,q,nn]:=B v hv;#[b,its,ns,e,p,q,nn]
 dsimp only;have O:∀ st,(arrOf st).Perm (pairsOf vs)->(∀ i j,i<=j->j<(pairsOf vs).size->av (λv=>vG (vs.map (qW s.heap)) (qW s.heap v)) (arrOf st) i<=av (λv=>vG (vs.map (qW s.heap)) (qW s.heap v)) (arrOf st) j) ->
   P (.done (.ret .none)) {s with heap:=hM.update a (Obj.mapSeq λ_=>(arrOf st).map (·.2))}:=λst pm up=>by
  have hp:(arrOf st).toList.Perm (vs.zip vs):=by rw[<- pairsOf_toList];show fO.mp pm
  have mem:∀ p∈(arrOf st).toList,p.1=p.2/\p.1∈vs:=λp U=>mem_zip_self (hp.mem_iff.mp U)
  have e2:((arrOf st).map (·.2)).toList=(arrOf st).toList.map (·.1):=by
   rw[Array.toList_map];show tf λp U=>(mem p U).1.symm
  have pv:((arrOf st).map (·.2)).toList.Perm vs:=by
   rw[e2];have:=hp.map Prod.fst
   rwa [List.map_fst_zip (gC _)]at this
  have q:=h ((arrOf st).map (·.2)).toList pv (by
   rw[e2,gZ,fy,tX];intro i j hi hj hij;have hi':i<(arrOf st).size:=by simpa using hi
   have Y:j<(arrOf st).size:=by simpa using hj
   have u:=up i j (cW hij) (by rw[<- pm.size_eq];show Y)
   unfold av at u;rw[pA _ i hi',pA _ j Y]at u;dsimp only at u;show HT.lexLt (qW s.heap (arrOf st).toList[j].1) (qW s.heap (arrOf st).toList[i].1)=false;cases el:HT.lexLt (qW s.heap (arrOf st).toList[j].1) (qW s.heap (arrOf st).toList[i].1)with
   | false=>rfl
   | true =>
    have mj:=(mem (arrOf st).toList[j] (fw _)).2;have:=(QW (rs:=vs.map (qW s.heap)) (gK.mpr #[_,mj,rfl])).mpr el;simp[Array.getElem_toList]at this;lia)
  rw[Array.toArray_toList]at q;have:sortedHeap s.heap a vs ((arrOf st).map (·.2))=hM.update a (Obj.mapSeq λ_=>(arrOf st).map (·.2)):=by delta sortedHeap;rw[eM]
  rw[<- this];show q
 have hz:vs.toArray.size=vs[1]:=by simp
 by_cases c2:vs.toArray.size<2
 .rw[iP c2,iP c2];show gg (gy ?_);rw[StateT.run_pure];show gg (gy ?_);dsimp only;show gg (seqEpoch_at o2 rfl (gg (listUpdate_at o2 rfl ?_ (hsz2:=by rw[Array.size_map];show(pairsOf vs).size<=_;rw[pairsOf_size,pC];lia))))
  simp only[bne_self_eq_false,f9,cG];show gy (O (SortSt.mk' general' (vs.toArray.zip vs.toArray) #[] 7 none) (Array.Perm.refl _) λi j l1 l2=>?_)
  rw[pairsOf_size]at l2;have:i=j:=""
  subst this;show pE _
 rw[iN c2,iN c2];have hv:vs≠[]:=λz=>by subst z;simp at c2
 show gg (qaO R2 hv ?_);have T:Tells prog w A {s with heap:=hM} (tuples' true) (λv=>vG (vs.map (qW s.heap)) (qW s.heap v)) (pairsOf vs):=by
  show#[λp hp q hq E Q hQ=>?_,?_]
  .rw[pairsOf_toList]at hp hq;have mp:=(mem_zip_self hp).2;have mq:=(mem_zip_self hq).2;let⟨b1,i1,n1,e1,p1,p1',q1,_⟩:=B _ mp;let⟨b2,i2,n2,e2,p2,p2',q2,_⟩:=B _ mq;have r1:=wQ p1 q1;have r2:=wQ p2 q2;rw[e1,e2]at hQ ⊢;show qaM p1' p2' q1 q2 ?_;have:=QW (rs:=vs.map (qW s.heap)) (a:=qW s.heap (.ref b1)) (b:=qW s.heap (.ref b2)) (gK.mpr #[_,mp,by rw[e1]])
   rw[r1,r2]at this;rw[r1,r2]at hQ;have e3:decide (vG (vs.map (qW s.heap)) n1<vG (vs.map (qW s.heap)) n2)=HT.lexLt n1 n2:=by
    cases el:HT.lexLt n1 n2 with
    | true=>show tJ (this.mpr el)
    | false=>show tm λz=>by rw[this.mp z]at el;cases el
   rw[e3]at hQ;show hQ
  rw[pairsOf_toList];have e:(vs.zip vs).map (λp=>vG (vs.map (qW s.heap)) (qW s.heap p.1))=(vs.map (qW s.heap)).map (vG (vs.map (qW s.heap))):=by
   have:(vs.zip vs).map (λp=>vG (vs.map (qW s.heap)) (qW s.heap p.1))=((vs.zip vs).map Prod.fst).map λv=>vG (vs.map (qW s.heap)) (qW s.heap v):=by rw[gZ];rfl
   rw[this,List.map_fst_zip (gC _),gZ];rfl
  rw[e];show List.Pairwise _ _;rw[fy];show dC (λ{x y} hx hy ne z=>?_) nd
  have k1:=QW (rs:=vs.map (qW s.heap)) (b:=y) hx;have k2:=QW (rs:=vs.map (qW s.heap)) (b:=x) hy;show ne (uz ?_ ?_)
  .cases el:HT.lexLt x y with
   | false=>rfl
   | true=>have:=k1.mpr el;lia
  cases el:HT.lexLt y x with
  | false=>rfl
  | true=>have:=k2.mpr el;lia
 show gg (cu (qcc (E:=E) (st:=SortSt.mk' (tuples' true) (vs.toArray.zip vs.toArray) #[] 7 none) (ini:=pairsOf vs)
  (Q:=λ_ z=>(arrOf z).Perm (pairsOf vs)/\failedOf z=none/\Ris (λv=>vG (vs.map (qW s.heap)) (qW s.heap v)) (arrOf z).toList) T (Array.Perm.refl _) rfl rfl rfl λz a1 a2 a3=>#[a1,a2,a3]) ?_ λ_ _ e=>e)
 rintro⟨⟨⟩,z⟩ s' ⟨rfl,pm,fl,up⟩;dsimp only;show gg (seqEpoch_at o2 rfl (gg (listUpdate_at o2 rfl ?_ (hsz2:=by show tY (Nat.le_of_eq ((Array.size_map ..).trans (pm.size_eq.trans (pairsOf_size _)))) ?_;rw[pC];lia))))
 rw[fl];simp[bne_self_eq_false,f9,cG];show gy (O z pm (qcd (by rw[pm.size_eq]) up))
def qcf(Y:s.heap.IsList l vs.toArray)(R:Rows s.heap vs)(Z:(vs.map (qW s.heap)).Nodup)(O:vs[1]<=5000)
  (h:∀ us:List aa,us.Perm vs->(us.map (qW s.heap)).Pairwise (λx y=>HT.lexLt y x=false)->Q (.ref (s[0]+1)) {s with heap:=sortedAll s.heap vs us.toArray}) :
  wpAny (model prog w) A (call (.builtin "sorted") [.ref l]) Q E s:=by
 show Calls.call_function_entry kind_sorted plain_sorted entry_sorted (args_sorted1 _) ?_;show gg (m:=checkCount "sorted" 1 1 _) (gy (gg (collect_list Y (gg (wpAny_newList ?_)) (by rw[pC];lia))))
 have z1:((s.heap.push (seqObj "list" #[] 0)).update s[0] (Obj.mapSeq (·++vs.toArray))).objs.size=s[0]+1:=by rw[dm,size_push']
 show wpAny _ _ _ _ _ {s with heap:=((s.heap.push (seqObj "list" #[] 0)).update s[0] (Obj.mapSeq (·++vs.toArray))).push (seqObj "list" vs.toArray 0)}
 rw[z1];generalize eM:((s.heap.push (seqObj "list" #[] 0)).update s[0] (Obj.mapSeq (·++vs.toArray))).push (seqObj "list" vs.toArray 0)=hM
 have o1:hM.get? (s[0]+1)=!(seqObj "list" vs.toArray 0):=by
  rw[<- eM,<- z1];show gM _ rfl
 have U:∀ b o,s.heap.get? b=!o->hM.get? b=!o:=λb o e=>by
  have lb:=gN e;rw[<- eM,cC _ _ _ (by rw[z1];show t8 (dW lb)),Heap.get?_update_ne _ _ _ _ (t8 lb),cC _ _ _ (t8 lb)]
  show e
 let⟨R2,B⟩:=R.stay U;have mp:vs.map (qW hM)=vs.map (qW s.heap):=tf B;have na:Value.ref (s[0]+1)∉vs:=λz=>by
  let⟨a,its,ns,e,⟨o,e2,_⟩,_⟩:=R _ z;cases e;show absurd (gN e2) (Nat.not_lt.mpr (dZ _))
 show gg (fU (pf slot_list_sort #[_,o1,rfl] entry_list_sort ?_ (args_list_sort _)));show qce (s:={s with heap:=hM}) o1 R2 na (by rw[mp];show Z) O λus pm up=>#[_,rfl,gy #[_,rfl,?_]]
 have q:=h us pm (by
  have:us.map (qW hM)=us.map (qW s.heap):=tf λv hv=>B v (pm.mem_iff.mp hv)
  rw[<- this];show up)
 unfold sortedAll at q;rw[eM]at q;show q
end
def wt:List D->R En
 | [.lst ds]=>(match vO ds with
  | some rs=>if rs.Nodup/\rs[1]<=5000/\[]∉rs then .ok (.lst ((jo rs).map qP))[9]else .stuck
  | none=>.stuck)
 | _=>.stuck
section
variable{X:Cx}{F0 H0:Hp}
def V9:zW X (.builtin "sorted") wt:=by
 intro pins s σ F H xs us ds Q I l rx qx w;cases qx with
 | nil=>cases w
 | @cons x d xs ds q1 q2 =>
  cases q2 with
  | cons _ _=>cases d<;>show w.elim
  | nil =>
   cases d<;>first|show w.elim|skip
   rename_i ds
   delta wt at w
   dsimp only at w;cases e:vO ds with
   | none=>rw[e]at w;cases w
   | some rs =>
    rw[e]at w;dsimp only at w;by_cases c:rs.Nodup/\rs[1]<=5000/\[]∉rs
    .rw[iP c]at w;let⟨p,vs,rfl,hq,O⟩:=RdV.lst l q1;cases rx with
     | cons r1 r2 =>
      cases r2;cases r1;let⟨its,rv,pl,hz⟩:=I.list hq;let⟨m,k⟩:=ZP I l e O rv;have len:its[1]=rs[1]:=by rw[<- m,g6]
      show qcf pl.isList (λv hv=>?_) (by rw[m];show c.1) (by rw[len];show c.2.1) λys pm up=>?_
      .let⟨a,i2,ns,e,p1,p2,_,p4⟩:=k v hv;show#[a,i2,ns,e,p1,p2,λz=>c.2.2 (z▸p4)]
      have em:=ZO ((pm.map _).trans (by rw[m];show(yj rs).symm)) up (QV rs)
      have go:∀ zs,(∀ u∈zs,u∈its)->Vals (zs.map toV) zs/\Reps (kx X) F (zs.map toV) ((zs.map (qW s.heap)).map qP):=by
       intro zs
       induction zs with
       | nil=>intro _;show#[.nil,rfl]
       | cons z zs ih =>
        intro hz;let⟨i1,i2⟩:=ih λu hu=>hz u (gj _ hu)
        let⟨a,i3,ns,rfl,p1,p2,p3,_⟩:=k z (hz z h9);show#[.cons rfl i1,#[.ref a,_,rfl,?_,i2]];rw[wQ p1 p2];show p3
      let⟨g1,g2⟩:=go ys λu hu=>pm.mem_iff.mp hu
      rw[em]at g2;let⟨c',he⟩:=sortedAll_at s.heap its ys.toArray;have hp:H (s[0]+1)=none:=I.hok.fresh (dZ _);have B:(ys.map toV)[1]<=sizeLine:=by
       rw[g6,pm.length_eq,pC];lia
      show#[.ref (s[0]+1),upd H (s[0]+1) (.lst (ys.map toV)),I.laid (λb o q=>sortedAll_old q) (dZ _) #[B,ys,c',g1,he],rfl,?_]
      show w _ _ _ (Gr.new l hp) #[_,_,rfl,hp,Le.none l hp,qS,g2]
    rw[iN c]at w;show w.elim
end
def yQ(z:List Int):List Int:=z.foldl step_dedup []
def Jk:D->R En
 | .lst ds=>(match jX ds with
  | some ns=>if ns[1]<=4000 then okI (yQ ns)[1] else .stuck
  | none=>.stuck)
 | _=>.stuck
def Va(f:EF):EF:=λρ=>(f ρ).bind λw=>Jk w.d
def KD(ns):firstMet (λi=>ns.getD i 0) ns[1]=yQ ns:=by
 delta firstMet
 congr 1;show List.ext_getElem "s" λi h1 h2=>?_
 simp_all
def qcg(ns):(yQ ns)[1]<=ns[1]:=by
 rw[<- KD];show firstMet_length_le _ _
section
variable{X:Cx}{F0 H0:Hp}{pos pos2 p p2:Pos}
def qch(he:"S" e f)(hm:X.mg "len"=none)(O:X.mg "set"=none)(hc:(X.calm=true)["r"])(hg:(Gl X "len")["r"])(U:(Gl X "set")["r"])
  (h1:(sE [Expr.Call (.Name "set" p2) [e] [] pos2] X.env=[(false,eval (Expr.Call (.Name "set" p2) [e] [] pos2) X.env)])["r"])
  (h2:(sE [e] X.env=[(false,eval e X.env)])["r"]) :
  "S" (.Call (.Name "len" p) [.Call (.Name "set" p2) [e] [] pos2] [] pos) (Va f):=by
 show λpins s σ F H ρ Q S I h=>fC (zL I hg hm (show bootBuiltins (Str.ofString "len")=↑(.builtin "len")by rfl) ?_)
 show cD ?_ (by rw[h1];rfl) rfl
 show hZ ?_;show fC (zL I U O (show bootBuiltins (Str.ofString "set")=↑(.type "set")by rfl) ?_)
 show tF ?_ (by rw[h2];rfl) rfl
 rw[h2];show hZ (he pins s σ F H ρ _ S I ((KE.bind h).imp λwx k1 v u F1 H1 s1 g1 q1 r1 I1=>tM ?_))
 have qx:=Vok.rd q1;have z:=yE g1 k1
 revert z qx
 generalize wx.d=dx;intro qx z;cases dx<;>first|show z.elim|skip
 rename_i ds
 delta Jk at z
 dsimp only at z;cases ei:jX ds with
 | none=>rw[ei]at z;show z.elim
 | some ns =>
  rw[ei]at z;dsimp only at z;by_cases c:ns[1]<=4000
  .rw[iP c]at z;let⟨a,vs,rfl,hq,rs⟩:=RdV.lst g1.s qx;have ev:=yH ei rs;subst ev;cases r1;let⟨its,rv,pl,hz⟩:=I1.list hq;have hi:IntsAre its ns:=kt rv;have B:its[1]=ns[1]:=IntsAre.length hi;show call_set_list (I1.ok.hd hc) pl.isList hi[""] (by rw[gU,B];delta scanBound;lia) λh' tk hS hk=>?_
   have Y:its.toArray.size=ns[1]:=by rw[gU,B]
   rw[Y,KD]at hS;show tM ?_;let⟨o,ho,Z,es,ep,t,hd,_,_,hn,hf⟩:=hS.objOf;have hle:=qcg ns;have I2:"I" H1 {s1 with heap:=h',toks:=tk}:=I1.kept (λb o q=>hk b o (gN q) q)
   show vz (pins:=pins) (σ:=σ) (call_len_set ho Z hd hf (by rw[hn];lia) ?_)
   rw[hn];show#[.int _,H1,I2.tok _,#[_,rfl],je (X:=X) g1.s (v:=.int _) z rfl]
  rw[iN c]at z;show z.elim
end
theorem Vb:∀{vs} {ws},(ws.all λw=>match w with|.fz _=>true|_=>false)=true->Args κ F H vs ws->Args κ F G vs ws
 | _,[],_,h=>h
 | _,.fz d::ws,c,h=>by
  let⟨v,r,e,h1,h2⟩:=h;show#[v,r,e,h1,Vb c[""] h2]
 | _,.br d::ws,c,h=>by simp at c
 | _,.ow d::ws,c,h=>by simp at c
 | _,.lk d::ws,c,h=>by simp at c
 | _,.od d::ws,c,h=>by simp at c
def ioD(a:Addr)(d:D):En:=.od (.tup [.int (a:Int),d])
def spI(κ:Kx)(dn:Den)(n:Nat):Sp:=λvs H Q _=>vs[1]=n/\∃ F a o d pre post v1 v2,vs=v1++.ref a::v2/\Le F (but H a)/\H a=!o/\OwnO κ F o d/\Args κ F (but H a) v1 pre/\Args κ F (but H a) v2 post /\
 KE (λ_=>False) (dn (pre++ioD a d::post)) λw=>∀ v F' H',Gr F (but H a) F' H'->Vok κ (but H a) F' H' v w->Q v H'
def qci{w:En}(h:Eok κ H0 F H v w)(o:w.own=false):Eok κ H0 F H' v w:=by
 cases w with
 | fz d=>show h
 | ow d=>cases o
 | lk d=>show h
 | br d=>show h
 | od d=>cases o
def qcj{F H:Hp}{N:List Str}(l:Le F (but H a))(O:H a=!o)(U:OwnO κ F o d)(h1:Args κ F (but H a) v1 pre)(h2:Args κ F (but H a) v2 post) :
  StOk κ F (but H a) F H ((pre++ioD a d::post).map some++List.replicate (N[1]-(pre++ioD a d::post)[1]) none) (L2.z9 N (v1++.ref a::v2)):=by
 have l1:=uh h1;have l2:=uh h2;have fa:F a=none:=Le.none l yO;have sv:∀ i v,(v1++.ref a::v2)[i]?=!v->(L2.z9 N (v1++.ref a::v2))[i]?=!(!v):=λi v e=>by
  delta L2.z9
  have hi:=(gp.mp e).1;rw[t9 hi[""],gH,e]
  rfl
 have at_:∀(i:Nat) w,((pre++ioD a d::post).map some++List.replicate (N[1]-(pre++ioD a d::post)[1]) none)[i]?=!(!w)->(pre++ioD a d::post)[i]?=!w:=λi w e=>by
  by_cases hi:i<(pre++ioD a d::post)[1]
  .rw[t9 hi[""],gH]at e
   simp_all
  rw[t4 hi[""],fJ]at e
  lia
 have cs:∀ i w,(pre++ioD a d::post)[i]?=!w->(i=pre[1]/\w=ioD a d)\/(i≠pre[1]/\w.own=false/\∃ v,(v1++.ref a::v2)[i]?=!v/\Eok κ (but H a) F (but H a) v w):=λi w e=>by
  rcases Nat.lt_trichotomy i pre[1] with c|c|c
  .rw[t9 c]at e;let⟨v,q1,q2,q3⟩:=yG h1 i w (by rw[gH,e];rfl)
   show .inr #[t8 c,q3,v,?_,q2];rw[t9 ""]
   simp_all
  .subst c;show .inl #[rfl,by simpa using e.symm]
  rw[t4 (cW c)]at e;obtain⟨j,hj⟩:∃ j,i-pre[1]=j+1:=#[i-pre[1]-1,""]
  rw[hj,pH]at e;let⟨v,q1,q2,q3⟩:=yG h2 j w (by rw[gH,e];rfl)
  show .inr #[pK c,q3,v,?_,q2];rw[t4 "",show i-v1[1]=j+1 by lia,pH]
  rw[gH]at q1;cases z:v2[j]? with
  | none=>rw[z]at q1;cases q1
  | some y=>rw[z]at q1;simpa using q1
 have sa:(v1++.ref a::v2)[pre[1]]?=!(.ref a):=by rw[<- l1,t4 (gC _),sub_self];rfl
 show#[#[Le.refl,J9,Le.trans l J9,λ_ z=>.inl z],by simp[L2.z9,l1,l2],λi w e=>?_,λi j w w' b B ei ej oi oj si sj=>?_,λi y e=>?_]
 .rcases cs i w (at_ i w e)with⟨rfl,rfl⟩|⟨_,ow,v,q1,q2⟩
  .show#[.ref a,sv _ _ sa,a,o,rfl,yO,fa,O,OwnO.noTup U]
  show#[v,sv i v q1,qci q2 ow]
 .rcases cs i w (at_ i w ei)with⟨rfl,_⟩|⟨_,z,_⟩
  .rcases cs j w' (at_ j w' ej)with⟨rfl,_⟩|⟨_,z,_⟩
   .show B rfl
   rw[oj]at z;cases z
  rw[oi]at z;cases z
 rcases cs i _ (at_ i _ e)with⟨rfl,z⟩|⟨_,z,_⟩
 .cases z;show#[λj z hj ej=>?_,a,[],sv _ _ sa,yO,fa,by simp,#[rfl,o,d,rfl,O,U],λj w b hj ej oj m sj=>?_]
  .rcases cs j _ (at_ j _ ej)with⟨q,_⟩|⟨_,q,_⟩
   .show hj q
   cases q
  rcases cs j _ (at_ j _ ej)with⟨q,_⟩|⟨_,q,_⟩
  .show hj q
  rw[oj]at q;cases q
 cases z
section
variable{P:af}{w:World}{K:Frag}{mg:Str->Option aa}{base:Heap}
def fnI{st:Stmt}{N ps:List Str}{k:Nat}(F:Fun K x qual st f fd)(S:FnScope N ps (defScope st))
  (h:∀ z A outer s H F0 H0,Room k (A.deeper (envOfC qual (defScope st) s[0] f z)) ->
   SSs (cxOf CX0 P w K mg base N qual (defScope st) f z A outer s H E0).nox F0 H0 (defBody st) body):FnOk P w K mg base CX0 (k+1) f fd ps (spI #[P,w,K] (den N[1] body) ps[1]):=by
 show F.ok S (λvs H Q E q=>q.1) (λz A outer s H vs Q E hr q=>?_)
 let⟨hl,F0,a,o,d,pre,post,v1,v2,rfl,l,ho,ro,a1,a2,q⟩:=q;show#[Qz _ _,ub,λpins s' I=>?_]
 show((h z A outer s H F0 (but H a) hr)) pins s' (L2.z9 N (v1++.ref a::v2)) F0 H _ _ (qcj l ho ro a1 a2) I ?_;have e:=q;unfold den at e;cases eb:body ((pre++ioD a d::post).map some++List.replicate (N[1]-(pre++ioD a d::post)[1]) none)with
 | nx ρ=>rw[eb]at e;show λB F' H' l' S'=>e .non F' H' S'.gr rfl
 | rt w'=>rw[eb]at e;show e
 | bk ρ=>rw[eb]at e;show e.elim
 | ct ρ=>rw[eb]at e;show e.elim
 | exc x=>rw[eb]at e;show e.elim
 | stuck=>rw[eb]at e;show e.elim
end
def ioR(o:Option (Option En)):Option (Int×D):=match o with
 | some (!(.od (.tup [.int a,d])))=>!(a,d)
 | _=>none
def Vc{a:Int}(h:ioR o=!(a,d)):o=!(!(.od (.tup [.int a,d]))):=by
 delta ioR at h
 split at h
 .lia
 cases h
def yR(i:Nat):EF:=λρ=>match ioR ρ[i]? with
 | some (_,d)=>.ok (.br d)
 | none=>.stuck
def StOk.io{F0 H0 F H:Hp}{i:Nat}{z:Int}(S:StOk κ F0 H0 F H ρ σ)(e:ρ[i]?=!(!(.od (.tup [.int z,d])))) :
  shal i ρ/\∃(a:Addr) (o:HO),z=a/\σ[i]?=!(!(.ref a))/\H0 a=none/\F a=none/\H a=!o/\OwnO κ F o d /\
   ∀ j w b,j≠i->ρ[j]?=!(!w)->w.own=true->b∈a::[]->σ[j]?≠!(!(.ref b)):=by
 let⟨sh,a,bs,si,h0,hf,nd,dp,sp⟩:=S.dp i _ e;let⟨eb,o,d',ex,ho,ro⟩:=dp;subst eb;injection ex with e1 e2;injection e1 with e1;injection e2 with e2 _;subst e2;show#[sh,a,o,e1,si,h0,hf,ho,ro,sp]
section
variable{X:Cx}{F0 H0:Hp}{pos:Pos}
def qck(i)(z:(Nm X i x)["t"]):"S" (.Name x pos) (yR i):=by
 intro pins s σ F H ρ Q S I h
 delta yR at h
 cases e:ioR ρ[i]? with
 | none=>rw[e]at h;show h.elim
 | some p =>
  rw[e]at h;let⟨_,a,o,_,si,h0,hf,ho,ro,_⟩:=S.io (Vc e);show thn (pvN z pins s σ H (λv' H'=>v'=.ref a/\H'=H) I #[.ref a,si,rfl,rfl]) λu s' #[v',H',I',r,ev,eh]=>?_
  subst ev eh;show h (.ref a) u F H' s' (Gr.refl S.s) #[a,o,rfl,ho,ro] r I'
def qcl(a:Int)(d:D):En->Out
 | .fz g=>.rt (.od (.tup [.int a,d,g]))
 | _=>.stuck
def uJ(i:Nat)(e:EF):SF:=λρ=>match ioR ρ[i]? with
 | some (a,d)=>sOf (e ρ) (qcl a d)
 | none=>.stuck
def qcm(i)(z:"S" e f):SS X F0 H0 (.Return ↑e pos) (uJ i f):=by
 intro pins s σ F H ρ D S I h
 delta uJ at h
 cases ei:ioR ρ[i]? with
 | none=>rw[ei]at h;show h.elim
 | some p =>
  let⟨ai,d⟩:=p;rw[ei]at h;let⟨_,a,o,ea,si,h0,hf,ho,ro,_⟩:=S.io (Vc ei);show MU (jd) pins s σ H D I (z.sem S ((PostS.of h).imp λw k v F1 H1 g1 q1=>?_))
  cases w<;>first|show k.elim|skip
  rename_i g;subst ea;show k v F1 H1 (S.gr.trans g1) (.inr (.inr (.inr #[a,d,g,rfl,o,h0,g1.no hf ho (OwnO.noTup ro),g1.h _ _ ho,OwnO.le g1.f ro,q1])))
def xt(i:Nat)(k:List EF)(e:EF):SF:=λρ=>match ioR ρ[i]? with
 | some (a,.dT kvs)=>sOf ((e ρ).bind En.st) λd=>sOf (evs k ρ) λws=>match jP (ws.map En.d)with
  | some key=>if kvs[1]<sz/\key[1]<=sz then .nx (ρ.set i (!(.od (.tup [.int a,.dT (jk key d kvs)]))))else .stuck
  | none=>.stuck
 | _=>.stuck
def qcn(i){np tp pos pos':Pos}{n:Nat}(hu:X.A.units+10<cLine)(Y:SA X F0 H0 ks fk)(Z:"S" e fe)(hN:(Nm X i x)["t"])(hs:(swapsWith e (!(.Subscript (.Name x np) (.Tuple ks n tp) pos')) pos.line X.env=pure false)["r"]) :
  SS X F0 H0 (.Assign [.Subscript (.Name x np) (.Tuple ks n tp) pos'] e pos) (xt i fk fe):=by
 intro pins s σ F H ρ D S I h
 delta xt at h
 cases ei:ioR ρ[i]? with
 | none=>rw[ei]at h;show h.elim
 | some p =>
  let⟨ai,d⟩:=p;rw[ei]at h;cases d<;>first|show h.elim|skip
  rename_i kds;have ew:=Vc ei;let⟨sh,a,o,ea,e1,h0,hf,hh,ro,sp⟩:=S.io ew;cases o<;>first|show ro.elim|skip
  rename_i kvs;have h:=KE.bind (PostS.of h);show Zh (pos:=pos) (pos':=pos') "o" (pvN (pos:=np) hN) (jd (e:=.Tuple ks n tp)) (jd (e:=e)) hs pins s σ H D I (Z.sem S (h.imp λw k1 y F1 H1 g1 q1=>?_))
  cases es:w.st with
  | exc x=>rw[es]at k1;show k1.elim
  | stuck=>rw[es]at k1;show k1.elim
  | ok d =>
   rw[es]at k1;have ry:=Vok.st S.s g1 q1 es;let⟨g2,_⟩:=vh S.s g1;have S2:=S.grow g2;show#[_,e1,QY Y S2 ((PostS.of (show PostS X F0 H0 F D _ from k1)).imp λws k2 vs F3 H3 p g3 q3 hp=>?_)]
   cases ek:jP (ws.map En.d)with
   | none=>rw[ek]at k2;show k2.elim
   | some key =>
    rw[ek]at k2;have ev:=uA q3 ek;subst ev;have lv:kvs[1]=kds[1]:=RepT.length ro;by_cases c:kds[1]<sz/\key[1]<=sz
    .have k3:PostS X F0 H0 F D (.nx (ρ.set i (!(.od (.tup [.int ai,.dT (jk key d kds)]))))):=by simpa[iP c,KE]using k2
     show#[by rw[g6,<- zX];show c.2,a,_,rfl,DPut.t (e:=?_) qS (by rw[lv,<- zX];show c.1),?_]
     .rw[qu (jN (g3.h _ _ (g1.h _ _ hh)) hp)];show g3.h _ _ (g1.h _ _ hh)
     have g4:=Gr.new (o:=.tup (key.map kV)) g3.s hp;have S4:=(S2.grow g3).grow g4;let⟨B,a4,o4,ea4,e4,h04,O,hh4,ro4,U⟩:=S4.io ew;rw[e1]at e4;cases e4;show k3 σ _ _ (Le.trans g2.f (Le.trans g3.f g4.f)) (S4.turn (bs:=[]) (bs':=[]) ew e1 B U (λc hc=>qu λz=>hc (by rw[z];simp)) (λb hb=>by cases hb) (λc hc=>?_) (λc hc=>?_) "s" #[rfl,.dT (jO kvs key y),_,by rw[ea],qS,?_])
     .simp_all
     .rw[tR.mp hc];show O
     show YV (Rep.le (Le.trans g3.f g4.f) _ ry) (RepT.le (Le.trans g2.f (Le.trans g3.f g4.f)) _ ro)
    have:False:=by simpa[iN c,PostS,KE]using k2
    show this.elim
abbrev IOF:=Rho->R (D×Rho)
def SIO(X:Cx)(F0 H0:Hp)(e:Expr)(f:IOF):Prop :=
 ∀(pins:List (Addr×Obj)) (s:ab) (σ:St) (F H:Hp) (ρ:Rho) (Q:aa->ab->Prop),StOk (kx X) F0 H0 F H ρ σ->"I" H s ->
  KE (XP X F0 H0) (f ρ) (λp=>∀ v u F' H' s',Le F F'->StOk (kx X) F0 H0 F' H' p.2 σ->Rep (kx X) F' v p.1->RelV v u->"I" H' s'->Q u s') ->
  X[3] (eval e X.env) Q X.xe s
def SAI(X:Cx)(F0 H0:Hp)(i:Nat)(es:List Expr)(pre post:List EF):Prop :=
 ∀(pos:Pos) (pins:List (Addr×Obj)) (s:ab) (σ:St) (F H:Hp) (ρ:Rho) (Q:List aa->ab->Prop) (a:Addr),StOk (kx X) F0 H0 F H ρ σ->"I" H s->σ[i]?=↑(!(.ref a)) ->
  KE (XP X F0 H0) (evs pre ρ) (λws=>KE (XP X F0 H0) (evs post ρ) λz=>∀ v1 v2 us F' H' s',Gr F H F' H'->Voks (kx X) H F' H' v1 ws->Voks (kx X) H F' H' v2 z->Vals (v1++.ref a::v2) us->"I" H' s'->Q us s') ->
  X[3] (spliced (backTo pos (sE es X.env))) Q X.xe s
def qco(i)(z:SA X F0 H0 es post)(B:(Nm X i x)["t"])(U:(sE (.Name x np::es) X.env=(false,eval (.Name x np) X.env)::sE es X.env)["r"]):SAI X F0 H0 i (.Name x np::es) [] post:=by
 show λpos pins s σ F H ρ Q a S I si h=>hZ (thn (pvN B pins s σ H (λv' H'=>v'=.ref a/\H'=H) I #[.ref a,si,rfl,rfl]) λu s1 #[v',H',I1,r,ev,eh]=>?_)
 subst ev eh;show z pos pins s1 σ F H' ρ _ S I1 (KE.imp (h) λO k vs us F2 H2 s2 g q r2 I2=>(k [] vs (u::us) F2 H2 s2 g rfl q (.cons r r2) I2))
def KF{i:Nat}(z:"S" e f)(B:SAI X F0 H0 i es pre post)(O:(sE (e::es) X.env=(false,eval e X.env)::sE es X.env)["r"]):SAI X F0 H0 i (e::es) (f::pre) post:=by
 intro pos pins s σ F H ρ Q a S I si h;rw[O];show hZ (z pins s σ F H ρ _ S I ((KE.bind h).imp λw h1 v u F1 H1 s1 g1 q1 r1 I1=>?_))
 show B pos pins s1 σ F1 H1 ρ _ a (S.grow g1) I1 si ((KE.bind h1).imp λws h2=>?_)
 have h2:KE (XP X F0 H0) (evs post ρ) _:=h2;show h2.imp λU k v1 v2 us F2 H2 s2 g2 q2 q3 r2 I2=>(k (v::v1) v2 (u::us) F2 H2 s2 (g1.trans g2) #[v,v1,rfl,Vok.gr g2 q1,Voks.older (λa e=>Le.none g1.h e) q2] (Voks.older (λa e=>Le.none g1.h e) q3) (.cons r1 r2) I2)
def vn(ys:List En):Bool:=ys.all λw=>match w with|.fz _=>true|_=>false
open Classical in
def wV(dn:Den)(pre:List En)(d:D)(post:List En):R (D×D) :=
 if h:∃ r:D×D,∀ a:Addr,dn (pre++ioD a d::post)=.ok (.od (.tup [.int (a:Int),r.1,r.2]))then .ok h.choose else .stuck
def qcp(h:∀ a,dn (pre++ioD a d::post)=.ok (.od (.tup [.int a,d',g]))):wV dn pre d post=.ok (d',g):=by
 delta wV
 have ex:∃ r:D×D,∀ a,dn (pre++ioD a d::post)=.ok (.od (.tup [.int a,r.1,r.2])):=#[(d',g),h];rw[dif_pos ex];have q:=ex.choose_spec 0;rw[h 0]at q;injection q with q;injection q with q;injection q with q;injection q with _ q;injection q with q1 q;injection q with q2 _;rw[<- show ex.choose.1=d' from q1.symm,<- show ex.choose.2=g from q2.symm]
def eIO(dn:Den)(i:Nat)(pre post:List EF):IOF:=λρ=>match ρ[i]? with
 | some (!d[9])=>(evs pre ρ).bind λxs=>(jU xs).bind λys=>(evs post ρ).bind λB=>(jU B).bind λz=>if (vn ys&&vn z)=true then(wV dn ys d z).bind λr=>.ok (r.2,ρ.set i (!(.ow r.1)))else .stuck
 | _=>.stuck
theorem Vd:∀{ws} {vs},Voks κ H F H' vs ws->vs[1]=ws[1]
 | [],vs,h=>by cases (h);rfl
 | w::ws,vs,h=>by let⟨v,r,rfl,_,h2⟩:=h;simp[Vd h2]
def qcq{k n i:Nat}{pre post:List EF}(G:FnOk X.prog X.w X.K X.mg X.base CX0 k f fd ps (spI (kx X) dn n))(Y:Room k X.A)(Z:keepIn X.K (.ref f)=true)(hb:Binds X.K fd ps [])
  (ha:SAI X F0 H0 i (e::es) pre post)(hn:pre[1]+(post[1]+1)=n)(he:sE (e::es) X.env=(false,eval e X.env)::sE es X.env)(U:(backTo pos (sE es X.env)).any (·.1)=false)
  {Q:aa->ab->Prop}(S:StOk (kx X) F0 H0 F H ρ σ)(I:"I" H s)
  (h:KE (XP X F0 H0) (eIO dn i pre post ρ) λp=>∀ v u F' H' s',Le F F'->StOk (kx X) F0 H0 F' H' p.2 σ->Rep (kx X) F' v p.1->RelV v u->"I" H' s'->Q u s') :
  X[3] (callWith pos (.ref f) [] (backTo pos (sE (e::es) X.env)) []) Q X.xe s:=by
 delta eIO at h
 split at h
 .rename_i d ei;let⟨v0,si,a,o,rfl,h0,hf,hh,ro⟩:=S.val i _ ei;show callWith_K (h₀:=X.base) I.ok.mod.kin Z (ha pos pins s σ F H ρ _ a S I si ?_) he U;have h:=KE.bind h;cases ef:evs pre ρ with
  | exc x=>rw[ef]at h;show h
  | stuck=>rw[ef]at h;show h
  | ok ws =>
   rw[ef]at h;have h:KE (XP X F0 H0) ((jU ws).bind λys=>(evs post ρ).bind λO=>(jU O).bind λB=>if (vn ys&&vn B)=true then(wV dn ys d B).bind λr=>.ok (r.2,ρ.set i (!(.ow r.1)))else .stuck) _:=h
   cases ea:jU ws with
   | exc x=>rw[ea]at h;show h.elim
   | stuck=>rw[ea]at h;cases h
   | ok ys =>
    rw[ea]at h;have h:=KE.bind (show KE (XP X F0 H0) ((evs post ρ).bind λO=>(jU O).bind λB=>if (vn ys&&vn B)=true then(wV dn ys d B).bind λr=>.ok (r.2,ρ.set i (!(.ow r.1)))else .stuck) _ from h)
    show KE (XP X F0 H0) (evs post ρ) _;cases ef2:evs post ρ with
    | exc x=>rw[ef2]at h;show h
    | stuck=>rw[ef2]at h;show h
    | ok ws2 =>
     rw[ef2]at h;show λv1 v2 us F1 H1 s1 g1 q1 q2 r1 I1=>#[I1.kIn,?_]
     have h:KE (XP X F0 H0) ((jU ws2).bind λB=>if (vn ys&&vn B)=true then(wV dn ys d B).bind λr=>.ok (r.2,ρ.set i (!(.ow r.1)))else .stuck) _:=h
     cases ea2:jU ws2 with
     | exc x=>rw[ea2]at h;cases h
     | stuck=>rw[ea2]at h;cases h
     | ok B =>
      rw[ea2]at h;have h:KE (XP X F0 H0) (if (vn ys&&vn B)=true then(wV dn ys d B).bind λr=>.ok (r.2,ρ.set i (!(.ow r.1)))else .stuck) _:=h
      by_cases c:(vn ys&&vn B)=true
      .rw[iP c]at h;rw[hE]at c;let⟨g2,l2⟩:=vh S.s g1;have A1:=Vb (G:=but H1 a) c.1 (QH (κ:=kx X) g1.s q1 ea (jK H F1 H1) l2 λa o e0 e2=>by delta jK;rw[e0];show e2)
       have A2:=Vb (G:=but H1 a) c.2 (QH (κ:=kx X) g1.s q2 ea2 (jK H F1 H1) l2 λa o e0 e2=>by delta jK;rw[e0];show e2)
       have ga:jK H F1 H1 a=none:=g2.no hf hh (OwnO.noTup ro);have S1:=(S.grow g2).forget ei si;show vz (WQ G Y hb (dvs:=[]) .nil Y4 I1 r1 ?_);rw[tK];show#[?_,jK H F1 H1,a,o,d,ys,B,v1,v2,rfl,λc u z=>(yP (jN z ga)).trans (g2.s c u z),g1.h _ _ hh,OwnO.le g2.f ro,A1,A2,?_]
       .rw[gD,gJ,Vd q1,Vd q2,Zv pre ρ ws ef,Zv post ρ ws2 ef2];show hn
       have h:=KE.bind h;unfold wV at h;by_cases ex:∃ r:D×D,∀ a,dn (ys++ioD a d::B)=.ok (.od (.tup [.int a,r.1,r.2]))
       .rw[dif_pos ex]at h;have sp:=ex.choose_spec a;generalize ex.choose=r at h sp;rw[sp];intro v F' H' g q u s' r' I';have q:DV (kx X) (but H1 a) F' H' v (.tup [.int a,r.1,r.2]):=q;rcases q with⟨_,z,_⟩|⟨_,z,_⟩|⟨_,_,z,_⟩|⟨a',dd,y,z,o',c0,cf,ch,co,cr⟩
        .cases z
        .cases z
        .cases z
        injection z with z;injection z with z1 z;injection z with z2 z;injection z with z3 _;injection z1 with z1;have:a'=a:=(Int.ofNat.inj z1).symm;subst this;subst z2;subst z3;have S2:=S1.setW g (i:=i) (v:=.ref a') (w:=.ow r.1) (w':=.ow r.1) #[a',o',rfl,yO,cf,ch,co] rfl;rw[bK]at S2;have se:σ.set i (!(.ref a'))=σ:=by
         let⟨hl,e2⟩:=gp.mp si;rw[<- e2,List.set_getElem_self]
        rw[se]at S2;show h v u F' H' s' (Le.trans g2.f g.f) S2 cr r' I'
       rw[dif_neg ex]at h;show h.elim
      rw[iN c]at h;show h.elim
 show h.elim
def dFn(x:Str):D:=.xc x [("fn",.non)]
def KG(B:X.mg x=!(.ref f))(z:nsIn X.K mainGlobals x=!(!(.ref f)))(O:(Gl X x)["r"])(hd:((x==("__debug__"))=false)["d"]):"S" (.Name x p) (eC (dFn x)) :=
 Y6 (v:=.ref f) B rfl (λF=>show FnV (kx X) (.ref f) x [("fn",.non)]from λf' e=>by rw[z]at e;cases e;rfl) O hd
def fnOf(o:Option (Option En)):Option Str:=match o with
 | some (!(.xc x [(_,.non)])[8])=>!x
 | _=>none
def eIOV(j:Nat)(z:Str)(B:Den)(i:Nat)(pre post:List EF):IOF:=λρ=>match fnOf ρ[j]? with
 | some x=>if x=z then eIO B i pre post ρ else .stuck
 | none=>.stuck
def qcr(h:fnOf o=!x):∃ y,o=!(!(.xc x [(y,.non)])[8]):=by
 delta fnOf at h
 split at h
 .cases h;show#[_,rfl]
 cases h
def qcs(j:Nat){Z n i:Nat}{pre post:List EF}
  (G1:FnOk X.prog X.w X.K X.mg X.base CX0 Z f1 fd1 ps1 (spI (kx X) d1 n))(B:Room Z X.A)(O:keepIn X.K (.ref f1)=true)(U:Binds X.K fd1 ps1 [])(n1:nsIn X.K mainGlobals x1=!(!(.ref f1)))
  (ha:SAI X F0 H0 i (e::es) pre post)(hn:(pre[1]+(post[1]+1)=n)["r"])(hN:(Nm X j x)["t"])(he:(sE (e::es) X.env=(false,eval e X.env)::sE es X.env)["r"])(Y:((backTo pos (sE es X.env)).any (·.1)=false)["r"]) :
  SIO X F0 H0 (.Call (.Name x p) (e::es) [] pos) (eIOV j x1 d1 i pre post):=by
 intro pins s σ F H ρ Q S I h;unfold eIOV at h;cases ef:fnOf ρ[j]? with
 | none=>rw[ef]at h;show h.elim
 | some y =>
  rw[ef]at h;dsimp only at h;let⟨z,ej⟩:=qcr ef;let⟨v,sj,r⟩:=S.val j _ ej;have r:∀ f:Addr,nsIn X.K mainGlobals y=!(!(.ref f))->v=.ref f:=r;show fC (thn (pvN hN pins s σ H (λv' H'=>v'=v/\H'=H) I #[v,sj,rfl,rfl]) λu s1 #[v',H',I1,rv,ev,eh]=>?_)
  subst ev eh;by_cases c1:y=x1
  .rw[iP c1]at h;subst c1;cases r f1 n1;cases (show u=Value.ref f1 from rv)
   show qcq G1 B O U ha hn he Y S I1 h
  rw[iN c1]at h;show h.elim
end
theorem RepT.look:∀{kds} {kvs} k,RepT κ F kvs kds->(∃ v d,js kvs k=!v/\L3.look k kds=!d/\Rep κ F v d)\/(js kvs k=none/\L3.look k kds=none)
 | [],_,k,h=>by cases (h);show .inr #[rfl,rfl]
 | (q,d)::r,_,k,h=>by
  let⟨v,kr,rfl,h1,h2⟩:=h;by_cases e:q=k
  .subst e;show .inl #[v,d,by delta js;simp,by unfold L3.look;rw[iP rfl],h1]
  rcases RepT.look k h2 with⟨v',d',a1,a2,a3⟩|⟨a1,a2⟩
  .show .inl #[v',d',?_,by unfold L3.look;rw[iN e];show a2,a3]
   delta js at ⊢
   rw[dU e[""]]
   show a1
  show .inr #[?_,by unfold L3.look;rw[iN e];show a2]
  delta js at ⊢
  rw[dU e[""]]
  show a1
def Jl(kvs:List (List (Sum Int Str)×D))(q:List (Sum Int Str))(wx:En):R En:=match look q kvs with|some d=>.ok d[8]|none=>.ok wx
def Jm(k:Option (List (Sum Int Str)))(g:List (Sum Int Str)->R En):R En:=match k with
 | some q=>if q[1]<=sz then g q else .stuck
 | none=>.stuck
def uK(d:EF)(k:List EF)(x:EF):EF:=λρ=>(d ρ).bind λwd=>match wd.d with
 | .dT kvs=>(evs k ρ).bind λws=>Jm (jP (ws.map En.d)) λq=>(x ρ).bind λwx=>Jl kvs q wx
 | _=>.stuck
section
variable{X:Cx}{F0 H0:Hp}{pos:Pos}
def qct{n:Nat}(Z:X.A.units+10<cLine)(O:"S" o fo)(U:SA X F0 H0 ks fk)(Y:"S" f ff)(m:M2 X o "get" apos (.Tuple ks n tp) f cpos:=by show#[rfl,rfl,rfl,rfl]) :
  "S" (.Call (.Attribute o "get" apos) [.Tuple ks n tp,f] [] cpos) (uK fo fk ff):=by
 show λpins s σ F H ρ Q S I h=>vz (TV "" (jd (e:=o)) (jd (e:=.Tuple ks n tp)) (jd (e:=f)) m pins s σ H (λv H'=>∀ u s',RelV v u->"I" H' s'->Q u s') I ?_)
 show O.sem S ((KE.bind h).imp λwd h1 v F1 H1 g1 q1=>?_)
 have qd:=Vok.rd q1
 revert h1 qd
 generalize wd.d=dd;intro h1 qd;cases dd<;>first|show h1.elim|skip
 let⟨p,kvs,rfl,hq,rk⟩:=RdV.dT g1.s qd;show#[p,rfl,.inr #[_,hq],QY U (S.grow g1) ((KE.bind h1).imp λws h2 vs F2 H2 b g2 q2 hb=>?_)]
 unfold Jm at h2;cases ek:jP (ws.map En.d)with
 | none=>rw[ek]at h2;show h2.elim
 | some key =>
  rw[ek]at h2;dsimp only at h2;by_cases c:key[1]<=sz
  .rw[iP c]at h2;have ev:=uA q2 ek;subst ev;have g4:=Gr.new (o:=.tup (key.map kV)) g2.s hb;show#[by rw[g6];show c,Y.sem (S.grow (g1.trans (g2.trans g4))) ((KE.bind h2).imp λwx h3 v3 F3 H3 g3 q3=>?_)]
   have B:Le H1 H3:=Le.trans (g2.trans g4).h g3.h;have gA:=g1.trans ((g2.trans g4).trans g3);show#[js kvs key,.inr #[kvs,key,b,Rd.le B hq,rfl,g3.h _ _ qS,rfl],λu s' ru I'=>?_]
   unfold Jl at h3;rcases RepT.look key rk with⟨z,d,a1,a2,rz⟩|⟨a1,a2⟩
   .rw[a2]at h3;rw[a1]at ru;show h3 z u F3 H3 s' gA (Rep.le (Le.trans (g2.trans g4).f g3.f) _ rz) ru I'
   rw[a2]at h3;rw[a1]at ru;show h3 v3 u F3 H3 s' gA (Vok.older (λa e=>Le.none (Le.trans g1.h (g2.trans g4).h) e) q3) ru I'
  rw[iN c]at h2;show h2.elim
def yS(d k:EF):EF:=λρ=>(d ρ).bind λwd=>match wd.d with
 | .dK kvs=>(k ρ).bind λwk=>(match zC wk.d with
  | some q=>(match look q kvs with|some d=>.ok d[8]|none=>.ok (.fz .non))
  | none=>.stuck)
 | _=>.stuck
def qcu(Y:"S" o fo)(Z:"S" e fe)(m:M1 X o "get" apos e cpos:=by show#[rfl,rfl,rfl,rfl]) :
  "S" (.Call (.Attribute o "get" apos) [e] [] cpos) (yS fo fe):=by
 show λpins s σ F H ρ Q S I h=>bY m.base m.few m.line cH fX bi (Y pins s σ F H ρ _ S I ((KE.bind h).imp λwd h1 v u F1 H1 s1 g1 q1 r1 I1=>?_))
 have qd:=Vok.rd q1
 revert h1 qd
 generalize wd.d=dd;intro h1 qd;cases dd<;>first|show h1.elim|skip
 let⟨p,kvs,rfl,hq,rk⟩:=RdV.dK g1.s qd;cases (show u=Value.ref p from r1)
 let⟨hd,vs,rel,dd⟩:=Inv.dictK I1 hq;show#[dd.typeIs,λb q=>?_,?_]
 .cases q;let⟨ob,_,_,e1,e2,_⟩:=dd;show#[ob,e1,e2.2.1]
 rw[m.trees];show cR rfl (d8 (hZ (Z pins s1 σ F1 H1 ρ _ (S.grow g1) I1 ((KE.bind h1).imp λwk h2 v2 u2 F2 H2 s2 g2 q2 r2 I2=>tM ?_))))
 cases ek:zC wk.d with
 | none=>rw[ek]at h2;show h2.elim
 | some key =>
  rw[ek]at h2;dsimp only at h2;have ry:RelV (kV key) u2:=Zo ek (Vok.rd q2) r2;let⟨hd3,vs3,O,U⟩:=Inv.dictK I2 (SqK.le g2.h hq);show bg fX U.typeIs cT (PySem.F.args_dict_get_2 _ _) (meets_dict_get (jj X.prog X.w) p (ku ry) hd3) #[_,U.mapOf,?_];have rg:=(O.val key).getD (show RelV V.non Value.none from rfl)
  have B:=g1.trans g2;rcases RepK.look key rk with⟨z,d,a1,a2,rz⟩|⟨a1,a2⟩
  .rw[a2]at h2;rw[a1]at rg;show h2 z _ F2 H2 _ B (Rep.le g2.f _ rz) rg (I2.tok _)
  rw[a2]at h2;rw[a1]at rg;show h2 .non _ F2 H2 _ B rfl rg (I2.tok _)
abbrev XF:=Rho->R (List D×Rho)
def SAX(X:Cx)(F0 H0:Hp)(es:List Expr)(f:XF):Prop :=
 ∀(pos:Pos) (pins:List (Addr×Obj)) (s:ab) (σ:St) (F H:Hp) (ρ:Rho) (Q:List aa->ab->Prop),StOk (kx X) F0 H0 F H ρ σ->"I" H s ->
  KE (XP X F0 H0) (f ρ) (λp=>∀ vs us F' H' s',Le F F'->StOk (kx X) F0 H0 F' H' p.2 σ->Reps (kx X) F' vs p.1->Vals vs us->"I" H' s'->Q us s') ->
  X[3] (spliced (backTo pos (sE es X.env))) Q X.xe s
def uL:XF:=λρ=>.ok ([],ρ)
def fzR:En->R D
 | .fz d=>.ok d
 | _=>.stuck
def vq(f:EF)(r:XF):XF:=λρ=>(f ρ).bind λw=>(fzR w).bind λd=>(r ρ).bind λq=>.ok (d::q.1,q.2)
def xIO(f:IOF)(r:XF):XF:=λρ=>(f ρ).bind λp=>(r p.2).bind λq=>.ok (p.1::q.1,q.2)
def qcv:SAX X F0 H0 [] uL:=λpos pins s σ F H ρ Q S I h=>tM (h [] [] F H s Le.refl S rfl .nil I)
def Ve(z:"S" e f)(B:SAX X F0 H0 es r)(O:(sE (e::es) X.env=(false,eval e X.env)::sE es X.env)["r"]):SAX X F0 H0 (e::es) (vq f r):=by
 intro pos pins s σ F H ρ Q S I h;rw[O];show hZ (z pins s σ F H ρ _ S I ((KE.bind h).imp λw h1 v u F1 H1 s1 g1 q1 r1 I1=>?_))
 cases w<;>first|show h1.elim|skip
 rename_i d;show B pos pins s1 σ F1 H1 ρ _ (S.grow g1) I1 ((KE.bind (show KE (XP X F0 H0) ((r ρ).bind λq=>.ok (d::q.1,q.2)) _ from h1)).imp λq h2 vs us F2 H2 s2 l2 S2 rs r2 I2=>(h2 (v::vs) (u::us) F2 H2 s2 (Le.trans g1.f l2) S2 #[v,vs,rfl,Rep.le l2 _ q1,rs] (.cons r1 r2) I2))
def qcw(z:SIO X F0 H0 e f)(B:SAX X F0 H0 es r)(O:(sE (e::es) X.env=(false,eval e X.env)::sE es X.env)["r"]):SAX X F0 H0 (e::es) (xIO f r):=by
 intro pos pins s σ F H ρ Q S I h;rw[O];show hZ (z pins s σ F H ρ _ S I ((KE.bind h).imp λp h1 v u F1 H1 s1 l1 S1 q1 r1 I1=>(B pos pins s1 σ F1 H1 p.2 _ S1 I1 ((KE.bind (h1)).imp λq h2 vs us F2 H2 s2 l2 S2 rs r2 I2=>(h2 (v::vs) (u::us) F2 H2 s2 (Le.trans l1 l2) S2 #[v,vs,rfl,Rep.le l2 _ q1,rs] (.cons r1 r2) I2)))))
def eIOT(f:XF):IOF:=λρ=>(f ρ).bind λp=>if p.1.length<=sz then .ok (.tup p.1,p.2)else .stuck
def qcx(h:SAX X F0 H0 es f):SIO X F0 H0 (.Tuple es x1 pos) (eIOT f):=by
 show λpins s σ F H ρ Q S I k=>bD (h pos pins s σ F H ρ _ S I ((KE.bind k).imp λp k1 vs us F1 H1 s1 l1 S1 rs r1 I1=>?_))
 by_cases c:p.1.length<=sz
 .rw[iP c]at k1;have hz:vs[1]<=sizeLine:=by rw[Reps.length rs];show c
  show#[by rw[<- r1[1]];show hz,?_]
  have gn:=Gr.newF (o:=.tup vs) S1.s (I1.hok.fresh (gC _));show k1 (.ref s1[0]) _ _ _ _ (Le.trans l1 gn.f) (S1.grow gn) #[_,vs,rfl,.inl (.inl qS),Reps.le gn.f _ rs] rfl (I1.laid (λb u e=>gu _ e) (gC _) #[hz,us,r1,#[_,gM _ rfl,rfl,_,rfl]])
 rw[iN c]at k1;show k1.elim
def sIO(i:Nat)(f:IOF):SF:=λρ=>sOf (f ρ) λp=>.nx (p.2.set i (!(.fz p.1)))
def qcy(i)(z:X.N.Nodup)(B:SIO X F0 H0 e f)(hi:(X.N[i]?=!x)["r"])(O:(Loc X.env.scope x)["t"])
  (U:(swapsWith e (!(.Name x pos')) pos.line X.env=pure false)["r"])(Y:(X.fn x=true\/X.env.scope.names.lookup x=some .local)["t"]) :
  SS X F0 H0 (.Assign [.Name x pos'] e pos) (sIO i f):=by
 show λpins s σ F H ρ D S I h=>bZ (B pins s σ F H ρ _ S I ((PostS.of h).imp λp k v u F' H' s' l S' q r I'=>(xU I' z hi O r (λs2 I2=>#[_,H',I2,k _ F' H' l (S'.setF q)]) Y))) U
end
theorem len1{α:Type}:∀{us:List α},us[1]=1->∃ a,us=[a]
 | [a],_=>#[a,rfl]
theorem len2{α:Type}:∀{us:List α},us[1]=2->∃ a b,us=[a,b]
 | [a,b],_=>#[a,b,rfl]
theorem len3{α:Type}:∀{us:List α},us[1]=3->∃ a b c,us=[a,b,c]
 | [a,b,c],_=>#[a,b,c,rfl]
theorem len4{α:Type}:∀{us:List α},us[1]=4->∃ a b c d,us=[a,b,c,d]
 | [a,b,c,d],_=>#[a,b,c,d,rfl]
section
variable{X:Cx}{F0 H0:Hp}
variable{pos p kp:Pos}
variable{w:World}{prog:af}{A:ag}{E:aa->ab->Prop}
variable{s:ab}
variable{R:Result->ab->Prop}{I:Addr}{fp wr:List Addr}{G:Array GenState->Array GenState->Prop}{n:Nat}{P:Nat->aa->Prop}{St:Nat->ab->Prop}
variable{S:Addr}{es:Array (Int×aa)}{ep i:Nat}{t:SetTable}
variable{T:Addr}
variable{pos2 p2:Pos}
variable{K:Frag}{C x:Addr}{ox:Obj}{od:Option Obj}
end
section
variable{X:Cx}{F0 H0:Hp}{n cN:Str}{S C e:Addr}{i:Nat}{x:Xc}{np vp ip cp apos:Pos}
variable{pins:List (Addr×Obj)}{σ:St}{H:Hp}{s:ab}
variable{cs:List Str}{hp:Pos}{b0:Stmt}{bd:List Stmt}{m:Addr->Xc->SF}
end
section
variable{X:Cx}{F0 H0:Hp}{pos p pos2 pos3:Pos}{e:Expr}{es:List Expr}{fa:List EF}{x:Str}{k n:Nat}{f L:Addr}{fd:FuncData}{ps:List Str}{dn:Den}{h0:ExceptHandler}{cs:List Str}{hd:Xc->Rho->Out}{outer:List Env}
end
section
variable{X:Cx}{F0 H0:Hp}{pos p pos2:Pos}{e:Expr}{es:List Expr}{fa:List EF}{g:Str}{fg:Addr}{dn:Den}{st:SF}{f:EF}{pre:List EF}
end
section
variable{X:Cx}{F0 H0:Hp}{S C e:Addr}{L:List (Str×Addr)}{c cS:Str}{x:Xc}{cs:List Str}
def all1{α:Type}{P:α->Prop}{a:α}{l:List α}(h:P a)(r:∀ p∈l,P p):∀ p∈a::l,P p:=λp hp=>by
 grind
def all0{α:Type}{P:α->Prop}:∀ p∈[],P p:=λ_ h=>nomatch h
variable{pos pos' pos2:Pos}{fa:List EF}{dn:Den}{st:SF}{y:Str}
end
def qB:D->D->R En
 | .str x,.str y=>if x[1]+y[1]<=sz then .ok (.str (x++y))[8]else .stuck
 | a,b=>qD a b
def jB:OpD X (binaryOp .Add) qB:=by
 intro pins s σ F H x y v u dx dy Q I l rx ry qx qy w;unfold qB at w;split at w
 .rename_i a b;by_cases c:a[1]+b[1]<=sz
  .rw[iP c]at w;obtain rfl:=RdV.str qx;obtain rfl:=RdV.str qy;obtain⟨t1,rfl⟩:∃ t,v=.str a t:=rx;obtain⟨t2,rfl⟩:∃ t,u=.str b t:=ry;show add_str (λt' tk=>#[.str (a++b),H,I.tok tk,#[t',rfl],je l (v:=.str _) w rfl]) (by rw[<- zX];show c)
  rw[iN c]at w;show w.elim
 show qZ pins s σ F H x y v u _ _ Q I l rx ry qx qy w
def rm{j k:Nat}(z:Room k A)(h:(j<=k)["d"]):Room j A:=z.mono h
inductive FunE(K:Frag)(x:Str)(s:Stmt):Prop
 | mk {f:Addr} {od an:Option Addr} {sl:Array (Option Value)} {oc kV dc pm cd ct:Value} (a:nsIn K mainGlobals x=!(!(.ref f)))
   (l:K.lookup f=↑#[oc,od,.func (PySem.W.fnOf x x (defArgs s) (defBody s) (defScope s) .none kV dc pm an cd ct),sl]) (c:codeIn K cd x=true) (k:keepIn K (.ref f)=true):FunE K x s
inductive DatE(K:Frag)(x:Str)(c:D):Prop
 | mk {u:Value} (n:nsIn K mainGlobals x=!(!u)) (d:vM K 9 u=!c):DatE K x c
structure Cal(K:Frag)(mg:Str->Option Value)(x:Str)(ps:List Str)(f:Addr)(fd:FuncData):Prop where
 m:mg x=!(.ref f)
 k:keepIn K (.ref f)=true
 b:Binds K fd ps []
 n:nsIn K mainGlobals x=!(!(.ref f))
def FunF(K:Frag)(mg:Str->Option aa)(x:Str)(s:Stmt)(ps:List Str):Prop:=∃ f fd,Fun K x x s f fd/\Cal K mg x ps f fd
def C0(P:af)(w:World)(K:Frag)(mg:Str->Option aa)(base:Heap)(k:Nat)(x:Str)(ps:List Str)(dn:Den):Prop:=∃ f fd,FnOk P w K mg base CX0 k f fd ps (spD #[P,w,K] dn ps[1])/\Cal K mg x ps f fd
def CI(P:af)(w:World)(K:Frag)(mg:Str->Option aa)(base:Heap)(k:Nat)(x:Str)(ps:List Str)(dn:Den):Prop:=∃ f fd,FnOk P w K mg base CX0 k f fd ps (spI #[P,w,K] dn ps[1])/\Cal K mg x ps f fd
def CM(P:af)(w:World)(K:Frag)(mg:Str->Option aa)(base:Heap)(k:Nat)(x:Str)(ps:List Str)(dn:Den):Prop:=∃ f fd,FnOk P w K mg base CX0 k f fd ps (spM #[P,w,K] dn)/\Cal K mg x ps f fd
def CC(P:af)(w:World)(K:Frag)(mg:Str->Option aa)(x:Str)(c:D):Prop:=∃ u v,mg x=!u/\RelV v u/\∀ F,Rep #[P,w,K] F v c
section
variable{P:af}{w:World}{K:Frag}{mg:Str->Option aa}{h:Heap}{x:Str}{s:Stmt}{ps:List Str}{c:D}
def qcz(X:K.In h)(G:h.Ns mainGlobals mg)(E:FunE K x s)(O:∀ kV z pm an B ct us,us[1]=ps[1]->bindArgs (PySem.W.fnOf x x (defArgs s) (defBody s) (defScope s) .none kV z pm an B ct) #[us,[]]=pure (ps.zip us)):FunF K mg x s ps:=by
 let⟨a,l,cd,k⟩:=E;show#[_,_,Zi l cd k,bx X G a,k,(Zi l cd k).binds O,a]
def qcA(X:K.In h)(G:h.Ns mainGlobals mg)(E:DatE K x c):CC P w K mg x c:=by
 let⟨n,d⟩:=E;let⟨v,r,q⟩:=Ym (κ:=#[P,w,K]) 9 _ _ d;show#[_,v,bx X G n,r,q]
def qcB(X:K.In h)(G:h.Ns mainGlobals mg)(n:nsIn K mainGlobals x=!(!(.ref a)))(d:DatS w K a l):CC P w K mg x (.dK l):=by
 let⟨v,r,q⟩:=qbJ (κ:=#[P,w,K]) d;show#[_,v,bx X G n,r,q]
end
section
variable{P:af}{w:World}{K:Frag}{mg:Str->Option aa}{base:Heap}{x:Str}{st:Stmt}{N ps:List Str}{p:Str}{k:Nat}{body:SF}
def fD(F:FunF K mg x st ps)(S:FnScope N ps (defScope st))(h:∀ f z A outer s H F0,Room k (A.deeper (envOfC x (defScope st) s[0] f z)) ->
  SSs (cxOf CX0 P w K mg base N x (defScope st) f z A outer s H E0).nox F0 H (defBody st) body):C0 P w K mg base (k+1) x ps (den N[1] body):=by
 let⟨f,fd,F,J⟩:=F;show#[f,fd,fnD F S (h f),J]
def fI(F:FunF K mg x st ps)(S:FnScope N ps (defScope st))(h:∀ f z A outer s H F0 H0,Room k (A.deeper (envOfC x (defScope st) s[0] f z)) ->
  SSs (cxOf CX0 P w K mg base N x (defScope st) f z A outer s H E0).nox F0 H0 (defBody st) body):CI P w K mg base (k+1) x ps (den N[1] body):=by
 let⟨f,fd,F,J⟩:=F;show#[f,fd,fnI F S (h f),J]
def fM(F:FunF K mg x st [p])(S:FnScope N [p] (defScope st))(B:0<N[1])(h:∀ f z A outer s H F0 H0,Room k (A.deeper (envOfC x (defScope st) s[0] f z)) ->
  SSs (cxOf CX0 P w K mg base N x (defScope st) f z A outer s H E0).nox F0 H0 (defBody st) body):CM P w K mg base (k+1) x [p] (den N[1] body):=by
 let⟨f,fd,F,J⟩:=F;show#[f,fd,fnM F S B (h f),J]
end
section
variable{X:Cx}{F0 H0:Hp}{pos p:Pos}{e:Expr}{es:List Expr}{fa:List EF}{x:Str}{k:Nat}{ps:List Str}{dn:Den}{d:D}
def cl(G:C0 X.prog X.w X.K X.mg X.base k x ps dn)(O:Room k X.A)(U:SA X F0 H0 (e::es) fa)(Y:(fa[1]=ps[1])["r"])
  (Z:(Gl X x)["r"])(z:((x==("__debug__"))=false)["d"])(he:(sE (e::es) X.env=(false,eval e X.env)::sE es X.env)["r"])(B:((backTo pos (sE es X.env)).any (·.1)=false)["r"]) :
  "S" (.Call (.Name x p) (e::es) [] pos) (qi dn fa):=by
 let⟨_,_,G,J⟩:=G;show qae G O J.m J.k J.b U Y Z z he B
def gb(q:CC X.prog X.w X.K X.mg x d)(z:(Gl X x)["r"])(hd:((x==("__debug__"))=false)["d"]):"S" (.Name x pos) (eC d):=by
 let⟨_,_,m,r,q⟩:=q;show Y6 m r q z hd
variable{pins:List (Addr×Obj)}{σ:St}{H₂:Hp}{s₂:ab}{fp:List Addr}{it:Addr}{tn:Nat->Heap->Prop}{J:It}{tg:Expr}{scope:Scope}{cl:List (Str×Addr)}{N:List Str}{n:Nat}{x0:Str}
end
section
variable{X:Cx}{F0 H0:Hp}{pos:Pos}{tg elt iter:Expr}{ifs:List Expr}{scope:Scope}{fi:IF}{gf:GF}{t:TF}{e:EF}
variable{a b:SF}{ρ ρ':Rho}{w:En}{x:Xc}{d:D}{f:EF}{u:TF}{i j:Nat}
theorem qiO:qg a b ρ=Out.th (a ρ) b:=rfl
theorem qiP:jJ i a ρ=a (x9 ρ[i]? i ρ):=rfl
theorem qiQ:kQ []=.ok (.lst [])[9]:=rfl
theorem qiR:kQ [a0]=.ok (.lst [a0])[9]:=rfl
theorem qiS:kQ [a0,a1,a2]=.ok (.lst [a0,a1,a2])[9]:=rfl
theorem qiT:kQ [a0,a1,a2,a3,a4]=.ok (.lst [a0,a1,a2,a3,a4])[9]:=rfl
theorem qiU:kQ [a0,a1,a2,a3,a4,a5,a6]=.ok (.lst [a0,a1,a2,a3,a4,a5,a6])[9]:=rfl
theorem qiV:QN [a0,a1]=.ok (.tup [a0,a1])[8]:=rfl
theorem qiW:QN [a0,a1,a2]=.ok (.tup [a0,a1,a2])[8]:=rfl
theorem qiX:QN [a0,a1,a2,a3]=.ok (.tup [a0,a1,a2,a3])[8]:=rfl
end
section
variable{α β:Type}{f:α->β}{a b:α}{l r:List α}{n i:Nat}
theorem qiY:List.map f []=[]:=rfl
theorem qiZ:List.map f (a::l)=f a::List.map f l:=rfl
theorem qj0:[]++l=l:=rfl
theorem qj1:(a::l)++r=a::(l++r):=rfl
theorem qj2:([]:List α)[1]=0:=rfl
theorem qj3:(a::l)[1]=l[1]+1:=rfl
theorem qj4:List.replicate 0 a=[]:=rfl
theorem qj5:List.replicate (n+1) a=a::List.replicate n a:=rfl
theorem qj6:(a::l)[0]?=!a:=rfl
theorem qj7:(a::l)[i+1]?=l[i]?:=rfl
theorem qj8:(a::l).set 0 b=b::l:=rfl
theorem qj9:(a::l).set (i+1) b=a::l.set i b:=rfl
theorem y_nt:(not true)=false:=rfl
theorem y_nf:(not false)=true:=rfl
end
abbrev FnT:=List (Str×Stmt)
def fnm(Fs:FnT)(n:Nat):Str:=(Fs.getD n ("_",.Pass #[0,0,0,0])).1
def fst(Fs:FnT)(n:Nat):Stmt:=(Fs.getD n ("_",.Pass #[0,0,0,0])).2
def psS(s:Stmt):List Str:=(defArgs s).args.map Arg.arg
structure Wd where
 P:Program
 w:World
 K:Frag
 mg:Str->Option Value
 base:Heap
structure Al(W:Wd)(Fs:FnT)(Bl:List Str)(Cs:List (Str×D)):Prop where
 h:∃ h:Heap,W.K.In h/\h.Ns mainGlobals W.mg
 f:∀ p∈Fs,FunE W.K p.1 p.2
 b:∀ x∈Bl,nsIn W.K mainGlobals x=!none
 c:∀ p∈Cs,CC W.P W.w W.K W.mg p.1 p.2
section
variable{W:Wd}{Fs:FnT}{Bl:List Str}{Cs:List (Str×D)}
def Al.bl(A:Al W Fs Bl Cs)(h:x∈Bl:=by decide +kernel):W.mg x=none:=by
 let⟨_,X,G⟩:=A.h;show PySem.W.mg_none_of X G (A.b x h)
def Al.q(A:Al W Fs Bl Cs)(n:Nat)(h:(Cs[n]?=!(x,d))["r"]):CC W.P W.w W.K W.mg x d:=A.c _ (t6 h)
abbrev apS(N M:List Str):List Str:=N++M
def ndc(_:N.Nodup)(M)(h:(apS N M).Nodup:=by decide +kernel):(apS N M).Nodup:=h
def Al.fn(A:Al W Fs Bl Cs)(n){ps:List Str}(O:n<Fs.length)
  (U:∀ kV z pm an B ct us,us[1]=ps[1]->bindArgs (PySem.W.fnOf (fnm Fs n) (fnm Fs n) (defArgs (fst Fs n)) (defBody (fst Fs n)) (defScope (fst Fs n)) .none kV z pm an B ct) #[us,[]]=pure (ps.zip us)) :
  FunF W.K W.mg (fnm Fs n) (fst Fs n) ps:=by
 let⟨_,X,G⟩:=A.h;have e:Fs.getD n ("_",.Pass #[0,0,0,0])∈Fs:=by rw[t7,gG O];show fw O
 show qcz X G (A.f _ e) U
def fE(A:Al W Fs Bl Cs)(n)(N){k:Nat}
  (h:∀{f} {z} {Ar} {outer} {s} {H F0},Room k (Ar.deeper (envOfC (fnm Fs n) (defScope (fst Fs n)) s[0] f z))->N.Nodup->(Ar.deeper (envOfC (fnm Fs n) (defScope (fst Fs n)) s[0] f z)).units+10<cLine ->
   SSs (cxOf CX0 W.P W.w W.K W.mg W.base N (fnm Fs n) (defScope (fst Fs n)) f z Ar outer s H E0).nox F0 H (defBody (fst Fs n)) body)
  (O:(n<Fs.length)["d"]) (S:FnScope N (psS (fst Fs n)) (defScope (fst Fs n)):=by constructor<;>first|rfl|decide +kernel)
  (U:∀ kV B pm an z ct us,us[1]=(psS (fst Fs n))[1]->bindArgs (PySem.W.fnOf (fnm Fs n) (fnm Fs n) (defArgs (fst Fs n)) (defBody (fst Fs n)) (defScope (fst Fs n)) .none kV B pm an z ct) #[us,[]]=pure ((psS (fst Fs n)).zip us):=by
   intro _ _ _ _ _ _ us hl;first|(let⟨_,rfl⟩:=len1 hl;rfl)|(let⟨_,_,rfl⟩:=len2 hl;rfl)|(let⟨_,_,_,rfl⟩:=len3 hl;rfl)|(let⟨_,_,_,_,rfl⟩:=len4 hl;rfl)) :
  C0 W.P W.w W.K W.mg W.base (k+1) (fnm Fs n) (psS (fst Fs n)) (den N[1] body):=fD (A.fn n O U) S λ_ _ _ _ _ _ _ hr=>h hr S.nd (hu10 hr)
def fEI(A:Al W Fs Bl Cs)(n)(N){k:Nat}
  (h:∀{f} {z} {Ar} {outer} {s} {H F0 H0},Room k (Ar.deeper (envOfC (fnm Fs n) (defScope (fst Fs n)) s[0] f z))->N.Nodup->(Ar.deeper (envOfC (fnm Fs n) (defScope (fst Fs n)) s[0] f z)).units+10<cLine ->
   SSs (cxOf CX0 W.P W.w W.K W.mg W.base N (fnm Fs n) (defScope (fst Fs n)) f z Ar outer s H E0).nox F0 H0 (defBody (fst Fs n)) body)
  (O:(n<Fs.length)["d"]) (S:FnScope N (psS (fst Fs n)) (defScope (fst Fs n)):=by constructor<;>first|rfl|decide +kernel)
  (U:∀ kV B pm an z ct us,us[1]=(psS (fst Fs n))[1]->bindArgs (PySem.W.fnOf (fnm Fs n) (fnm Fs n) (defArgs (fst Fs n)) (defBody (fst Fs n)) (defScope (fst Fs n)) .none kV B pm an z ct) #[us,[]]=pure ((psS (fst Fs n)).zip us):=by
   intro _ _ _ _ _ _ us hl;let⟨_,_,_,_,rfl⟩:=len4 hl;rfl) :
  CI W.P W.w W.K W.mg W.base (k+1) (fnm Fs n) (psS (fst Fs n)) (den N[1] body):=fI (A.fn n O U) S λ_ _ _ _ _ _ _ _ hr=>h hr S.nd (hu10 hr)
def fEL(F:Fun W.K "law" "law" s f fd)(N){k:Nat}
  (h:∀{cdv} {Ar} {outer} {st} {H F0},Room k (Ar.deeper (envOfC "law" (defScope s) st[0] f cdv))->N.Nodup->(Ar.deeper (envOfC "law" (defScope s) st[0] f cdv)).units+10<cLine ->
   SSs (cxOf CX0 W.P W.w W.K W.mg W.base N "law" (defScope s) f cdv Ar outer st H E0).nox F0 H (defBody s) body)
  (S:FnScope N ["_law_script"] (defScope s):=by constructor<;>first|rfl|decide +kernel) :
  FnOk W.P W.w W.K W.mg W.base CX0 (k+1) f fd ["_law_script"] (spD #[W.P,W.w,W.K] (den N[1] body) 1):=fnD F S λ_ _ _ _ _ _ hr=>h hr S.nd (hu10 hr)
end
def qcC{K:Frag}{mg:Str->Option aa}{h:Heap}{k:Nat}(X:K.In h)(G:h.Ns mainGlobals mg)(z:mg "law"=!(.ref fa))(E:FunE K "law" s)
  (U:∀ kV B pm an O ct st v,BindsTo st (PySem.W.fnOf "law" "law" (defArgs s) (defBody s) (defScope s) .none kV B pm an O ct) #[[v],[]] [("_law_script",v)])
  (H:∀ base f fd,Fun K "law" "law" s f fd->FnOk P w K mg base CX0 k f fd ["_law_script"] (spD #[P,w,K] dn 1)) :
  ∃ fd,(∀ st v,BindsTo st fd #[[v],[]] [("_law_script",v)])/\∀ base,K.In base->base.Ns mainGlobals mg->FnOk P w K mg base CX0 k fa fd ["_law_script"] (spD #[P,w,K] dn 1):=by
 let⟨a,l,c,kk⟩:=E;have e:=z.symm.trans (bx X G a);cases e;show#[_,λst v=>U _ _ _ _ _ _ st v,λbase _ _=>H base _ _ (Zi l c kk)]
end L3
namespace HT
open PySem PyProof.Rows L2
section
variable{prog:af}{w:World}{A:ag}{E:aa->ab->Prop}{s:ab}
end
end HT
namespace L3
open PySem PySem.Spec PyProof.Rows L2
section
variable{X:Cx}{F0 H0:Hp}{pos p2:Pos}
variable{pos' np apos cpos:Pos}
variable{prog:af}{w:World}{A:ag}{E:aa->ab->Prop}{s:ab}
variable{κ:Kx}{F H F1 H1:Hp}{ρ:Rho}{σ:St}{i:Nat}{a b:Addr}
variable{c:Addr}{e:Expr}{n:Int}{us vs:List V}{xs ys zs:List D}
variable{pins:List (Addr×Obj)}{ρ':Rho}
end
def wW:List D->Option (List Str)
 | []=>↑[]
 | .str x::r=>(wW r).map (x::·)
 | _=>none
def Vf(x:Str):Option (List Str)->R En
 | some ys=>if (ys.map (·.length)).sum+ys[1]*x[1]<=sz then .ok (.str (Str.join x ys))[8]else .stuck
 | none=>.stuck
def zH:D->D->R En
 | .str x,.lst ds=>Vf x (wW ds)
 | _,_=>.stuck
theorem KH:∀{ds:List D} {vs:List V} {ys:List Str},Reps κ F vs ds->wW ds=!ys->vs=ys.map V.str
 | [],_,_,h,e=>by cases e;show h
 | d::ds,_,_,h,e=>by
  let⟨v,r,rfl,h1,h2⟩:=h;cases d<;>first|(cases e;done)|skip
  rename_i x;have e:(wW ds).map (x::·)=!_:=e
  cases q:wW ds with
  | none=>rw[q]at e;cases e
  | some zs =>
   rw[q]at e;cases e;rw[KH h2 q,show v=.str x from h1]
   rfl
theorem KJ:∀{ys:List Str} {us:List aa},Vals (ys.map V.str) us->StrsAre us ys
 | [],_,h=>by cases h;show .nil
 | y::ys,_,h=>by
  cases h with
  | cons a r=>let⟨t,rfl⟩:=a;show .cons y t (KJ r)
section
variable{X:Cx}{F0 H0:Hp}
def qcD(K:Frag):V->List V->Hp->VK->Prop:=λx vs H Q=>∃ z a ys,x=.str z/\vs=[.ref a]/\SqL K H a (ys.map V.str)/\(ys.map (·.length)).sum+ys[1]*z[1]<=16777216/\Q (.str (Str.join z ys)) H
def qcE:MtR X "str.join" (qcD X.K):=by
 intro pins s σ H x vs v us Q I rx rv h;let⟨z,a,ys,rfl,rfl,hq,hz,q⟩:=h;let⟨t,rfl⟩:=rx;let⟨u,rfl,ru⟩:=rv.one;cases (show u=Value.ref a from ru)
 let⟨its,B,p,O⟩:=I.list hq;show join_list p.isList (by simpa using KJ B) hz λt' k=>#[.str _,H,I.tok k,#[_,rfl],?_]
 show Q (.str (Builtin.Str.glued z ys)) H;rw[StrLaws.glued_eq_join];show q
def xu{apos cpos:Pos}(Z:"S" o fo)(he:"S" e f)
  (B:(attributeBase o "join" X.env (eval o X.env)=eval o X.env)["r"])
  (U:(((backTo cpos (sE [e] X.env)).all (λx=>not x.1)&&(backToKw cpos (keywordEach [] X.env)).all (λx=>x.1.isSome)
   && decide ([e].length+([]:List Keyword)[1]+(if ([]:List Keyword).isEmpty then 0 else 1)<30))=true)["r"])
  (O:((apos.endLine==cpos.line)=true)["r"]) (Y:(sE [e] X.env=(false,eval e X.env)::sE [] X.env)["r"]) (z:((backTo cpos (sE [] X.env)).any (·.1)=false)["r"]) :
  "S" (.Call (.Attribute o "join" apos) [e] [] cpos) (eOp zH fo f):=by
 intro pins s σ F H ρ Q S I h;have P:=wL (X:=X) PySem.F.plainAttrs_str PySem.F.slot_str_join PySem.F.type_str_join qcE (jd (e:=o)) (zM (jd (e:=e)) vI Y) B U O Y z;show vz (pins:=pins) (σ:=σ) (P pins s σ H _ I (Z.sem S ((KE.bind h).imp λw0 k0 y0 F0' H0' g0 q0=>?_)))
 have r0:=Vok.rd q0
 revert k0
 generalize w0.d=d0 at r0;intro k0;cases d0<;>first|(cases fe:f ρ with|exc _=>rw[fe]at k0;show k0.elim|stuck=>rw[fe]at k0;show k0.elim|ok w=>rw[fe]at k0;show(show False from k0).elim)|skip
 rename_i x;cases RdV.str r0;show#[rfl,he.sem (S.grow g0) ((KE.bind k0).imp λw k y F1 H1 g1 q1=>?_)]
 have r:=Vok.rd q1
 revert k
 generalize w.d=d at r;intro k;cases d<;>first|show k.elim|skip
 rename_i ds;unfold zH Vf at k;dsimp only at k;cases es:wW ds with
 | none=>rw[es]at k;show k.elim
 | some ys =>
  rw[es]at k;dsimp only at k;let⟨a,vs,rfl,hq,rs⟩:=RdV.lst g1.s r;have ev:=KH rs es;subst ev;by_cases c:(ys.map (·.length)).sum+ys[1]*x[1]<=sz
  .rw[iP c]at k;show#[x,a,ys,rfl,rfl,hq,c,λu s' r' I'=>k _ u F1 H1 s' (g0.trans g1) rfl r' I']
  rw[iN c]at k;show k.elim
end
def wu:Option Int->aa->Bool
 | none,.none=>true
 | none,_=>false
 | some i,v=>Value.isInt i v
def Vg:Option Int->Int
 | none=>reduceHash 4238894112
 | some i=>hashInt i
theorem wX:∀{k:Option Int} {v:aa},wu k v=true->(k=none/\v=.none)\/∃ i t,k=!i/\v=.int i t
 | none,v,h=>by
  cases v<;>first|show .inl #[rfl,rfl]|cases h
 | some i,v,h=>by
  let⟨t,e⟩:=Value.isInt_shape (k:=i) (v:=v) h;show .inr #[i,t,rfl,e]
def KL(prog:af)(w:World):KeyKind prog w (Option Int)where
 is:=wu
 hash:=Vg
 inj:=λv a b ha hb=>by
  rcases wX ha with⟨rfl,rfl⟩|⟨i,t,rfl,rfl⟩<;>rcases wX hb with⟨rfl,e⟩|⟨j,u,rfl,e⟩<;>first|rfl|cases e|skip
  rfl
 byValue:=λk v h=>by
  rcases wX h with⟨rfl,rfl⟩|⟨i,t,rfl,rfl⟩<;>rfl
 pyHash:=λhv h=>by
  rcases wX hv with⟨rfl,rfl⟩|⟨i,t,rfl,rfl⟩
  .show PySem.W.pyHash_slot (T:="NoneType") rfl F.slot_NoneType_hash F.entry_NoneType_hash (F.args_NoneType_hash_1 _) (beq_builtin_none _) (.inl rfl) (gg (gy (gg (wpAny_mkInt (gy #[_,_,rfl,h])))))
  show wpAny_pyHash_int h
 eqBool:=λhu hv h=>by
  rcases wX hu with⟨rfl,rfl⟩|⟨i,t,rfl,rfl⟩<;>rcases wX hv with⟨rfl,rfl⟩|⟨j,u,rfl,rfl⟩
  .show SeqAt.EqAt.same _ _ _ _ _ h
  .show SeqAt.EqAt.none_int j u _ _ _ _ h
  .show SeqAt.EqAt.int_none i t _ _ _ _ h
  have e:decide (↑i=!j)=(i==j):=by
   by_cases z:i=j
   .subst z;simp
   simp[z]
  rw[e]at h;show wpAny_eqBool_int h
 «strs»:=λk x t v h=>by
  rcases wX h with⟨_,e⟩|⟨_,_,_,e⟩<;>cases e
inductive EntN:List DictEntry->List (Option Int×Str)->Prop
 | nil:EntN [] []
 | cons {e:DictEntry} {es:List DictEntry} {k:Option Int} {x:Str} {t:Tok} {r:List (Option Int×Str)}:wu k e.key=true->e.hash=Vg k->e.val=.str x t->EntN es r->EntN (e::es) ((k,x)::r)
def DatN(K:Frag)(mg:Str->Option aa)(n:Str)(l:List (Option Int×Str)):Prop:=∃ a o es ep,mg n=!(.ref a)/\nsIn K mainGlobals n=!(!(.ref a))/\K.lookup a=!o/\o.data=.dict es ep/\(o.cls==Value.type "dict"&&o.dict==none&&o.slots.size==0&&not (a==sysModules))=true/\EntN es[2] l
def DatN0(K:Frag)(a:Addr)(l:List (Option Int×Str)):Prop:=∃ o es ep,K.lookup a=!o/\o.data=.dict es ep/\(o.cls==Value.type "dict"&&o.dict==none&&o.slots.size==0&&not (a==sysModules))=true/\EntN es[2] l
def DatN0.mg{K:Frag}{h:Heap}{mg:Str->Option aa}(D:DatN0 K a l)(q:nsIn K mainGlobals n=!(!(.ref a)))(X:K.In h)(G:h.Ns mainGlobals mg):DatN K mg n l:=by
 let⟨o,es,ep,d⟩:=D;show#[a,o,es,ep,bx X G q,q,d]
def KM:D->Option (Option Int)
 | .non=>!none
 | .int i=>!(!i)
 | _=>none
def xv(k:Option Int):List (Option Int×Str)->Option Str
 | []=>none
 | (q,x)::r=>if q=k then !x else xv k r
def okS:Option Str->R En
 | some x=>.ok (.str x)[8]
 | none=>.stuck
def uN(n:Str)(l:List (Option Int×Str))(c k:D):R En:=match c with
 | .xc m [(_,.non)]=>if m=n then(match KM k with|some q=>okS (xv q l)|none=>.stuck)else .stuck
 | _=>.stuck
def qcF{k:Option Int}{es:List DictEntry}(h:EntN es l):xv k l=!x->∃ t,PySem.findBy wu es.toArray k=!(.str x t):=by
 induction h with
 | nil=>show λe=>nomatch e
 | @cons e' es q y t r h1 h2 h3 _ ih =>
  intro e;unfold xv at e;unfold PySem.findBy at ih ⊢;rw[List.find?_toArray]at ih ⊢;by_cases c:q=k
  .subst c;rw[iP rfl]at e;cases e;show#[t,by rw[pP,h1];show congrArg some h3]
  rw[iN c]at e;have z:wu k e'.key=false:=by
   cases z:wu k e'.key with
   | false=>rfl
   | true =>
    rcases wX h1 with⟨rfl,a⟩|⟨i,t,rfl,a⟩<;>rcases wX z with⟨rfl,b⟩|⟨j,t,rfl,b⟩<;>rw[a]at b<;>cases b<;>show absurd rfl c
  rw[pP,z];show ih e
def qcG{X:Cx}(h:DatN X.K X.mg n l):IxD X (uN n l):=by
 intro value B pins s σ F H x y v u dx dy Q I le rx ry qx qy w hs;unfold uN at w;split at w
 .rename_i m m0;by_cases c:m=n
  .rw[iP c]at w;subst c;let⟨a,o,es,ep,_,hn,lk,ed,cb,en⟩:=h;have fx:FnV (kx X) x m [(m0,.non)]:=RdV.flat qx (λ_ e=>nomatch e) (λ_ e=>nomatch e) λ_ e=>nomatch e
   cases (show x=V.ref a from fx a hn)
   cases (show v=Value.ref a from rx)
   simp only[hE]at cb;let⟨⟨⟨c1,c2⟩,c3⟩,c4⟩:=cb;have O:o.slots=#[]:=by
    have:o.slots.size=0:=by simpa using c3
    show Array.eq_empty_of_size_eq_zero this
   have ky:∀{es l},EntN es l->∀ e∈es,∃ k,wu k e.key=true/\e.hash=Vg k:=λ{es l} h=>by
    induction h with
    | nil=>show λ_ z=>nomatch z
    | cons h1 h2 _ _ ih =>
     intro e he;rcases gw.mp he with z|z
     .subst z;show#[_,h1,h2]
     show ih e z
   have hm:s.heap.MapOf (KL X.prog X.w) a (PySem.findBy wu es):=#[o,es,ep,I.kIn a o lk,#[by simpa using c1,by simpa using c2,O],ed,λe he=>ky en e he[""],λ_=>rfl]
   cases eo:KM dy with
   | none=>rw[eo]at w;show w.elim
   | some q =>
    rw[eo]at w;dsimp only at w;cases el:xv q l with
    | none=>rw[el]at w;show w.elim
    | some z =>
     rw[el]at w;let⟨t,ft⟩:=qcF en el;have ki:wu q u=true:=by
      cases dy<;>first|(cases eo;done)|skip
      .cases eo;cases RdV.non qy;cases (show u=Value.none from ry)
       rfl
      cases eo;cases RdV.int qy;let⟨t,rfl⟩:=ry;simp[wu,Value.isInt]
     show tail_any hm.typeIs dg.lookup (wpAny_getItem_of (knd:=KL X.prog X.w) ki hm ft #[.str z,H,I.tok _,#[_,rfl],je (X:=X) le (v:=.str z) w rfl]) hs
  rw[iN c]at w;show w.elim
 show w.elim
def qcH{X:Cx}(h:DatN X.K X.mg n l)(z:"S" b fb)(B:y9 b:=by show λ_ _=>rfl)(O:(Gl X n)["r"])(hd:((n==("__debug__":Str))=false)["d"]) :
  "S" (.Subscript (.Name n np) b pos) (eOp (uN n l) (eC (dFn n)) fb):=by
 let⟨_,_,_,_,hm,hn,_⟩:=id h;show ud (qcG h) (KG hm hn O hd) z B
end L3
namespace My
open PySem PySem.Spec PyProof.Rows L2 L3
def top (i:Nat):Stmt:=PySem.Challenge.pw_stavemill_k34_pages_are_written.main.body.getD i (.Pass #[0,0,0,0])
def Vh:D:=.int (-7)
def Vi:D:=.int 7
def uO:D:=.str "FCGDAEB"
def KN:List (Sum Int Str×D):=[(.inr "C",.int 0),(.inr "D",.int 2),(.inr "E",.int 4),(.inr "F",.int 5),(.inr "G",.int 7),(.inr "A",.int 9),(.inr "B",.int 11)]
def Vj:D:=.dK KN
def Vk:D:=.str "CDEFGAB"
def xw:D:=.tup [.int 0,.int 1,.int 2]
def Vl:D:=.tup [.int 37,.int 31,.int 25]
def Vm:D:=.int 8
def KO:D:=.int 4
def Jn:D:=.int 60
def uP:D:=.tup [.tup [.int 0,.int 1000],.tup [.int 1,.int 400],.tup [.int 0,.int 127]]
def Jo:D:=.dK [(.inl (112),.tup [.int 64,.int 2]),(.inl (96),.tup [.int 64,.int 1]),(.inl (64),.tup [.int 64,.int 0]),(.inl (56),.tup [.int 32,.int 2]),(.inl (48),.tup [.int 32,.int 1]),(.inl (32),.tup [.int 32,.int 0]),(.inl (28),.tup [.int 16,.int 2]),(.inl (24),.tup [.int 16,.int 1]),(.inl (16),.tup [.int 16,.int 0]),(.inl (14),.tup [.int 8,.int 2]),(.inl (12),.tup [.int 8,.int 1]),(.inl (8),.tup [.int 8,.int 0]),(.inl (7),.tup [.int 4,.int 2]),(.inl (6),.tup [.int 4,.int 1]),(.inl (4),.tup [.int 4,.int 0]),(.inl (3),.tup [.int 2,.int 1]),(.inl (2),.tup [.int 2,.int 0]),(.inl (1),.tup [.int 1,.int 0])]
def Vn:D:=.int 1
def Vp:D:=.int 5000
def Vq:D:=.int 4
def Vr:D:=.int 3
def Jp:D:=.int 20
def Vt:D:=.tup [.tup [.int 0,.int 1000],.tup [.int 1,.int 24],.tup [.int 1,.int 64]]
def Vu:D:=.tup [.int 1,.int 2,.int 4,.int 8,.int 16,.int 32,.int 64]
def Vv:D:=.int 8
def Vw:D:=.int 512
def Jq:D:=.int 8
def wY:List (Option Int×Str):=[(none,r""),(!(-2),"bb"),(!(-1),"b"),(!(0),"n"),(!(1),"\x73"),(!(2),"ss")]
def qcI:SF :=
 (qt (yB (eUn (dIs .int) (q9 0)) (Y5 (eUn (dIs .bool) (q9 0)))))
def uQ:Den:=den 1 qcI
def Vx:SF :=
 (qt (yB (eUn (dIs .list) (q9 0)) (ut dLe dLe (q9 1) (eB jw [(q9 0)]) (q9 2))))
def yT:Den:=den 3 Vx
def KP:SF :=
 (qt (eOp qD (q9 0) (eOp vJ (eOp jc (q9 1) (q9 0)) (q9 2))))
def uR:Den:=den 3 KP
def qcJ:SF :=
 (qt (eOp vU (eOp qD (q9 0) 1[5]) 7[5]))
def Jr:Den:=den 1 qcJ
def KQ:SF :=
 (qt (eOp qD (eOp zm 7[5] (eOp wT (q9 0) 1[5])) (eOp xj (eC Vk) (eOp wT (q9 0) 0[5]))))
def yU:Den:=den 1 KQ
def KR:SF :=
 (qg (qk 2 (eOp qe (eC Vl) (q9 1)))
 (qg (qk 3 (eOp jc (eOp jc (q9 0) (q9 2)) (eC Vm)))
 (qg (qk 4 (eOp jc (q9 2) (q9 0)))
 (qt (eOp vU (eB V0 [(q9 3),(q9 4),0[5]]) 2[5])))))
def uS:Den:=den 5 KR
def qcK:SF :=
 (qt (qF 1 (qN (eC xw)) (gV 2) qI (eIf (tE (eOp dEq (q9 2) (q9 1))) (eOp qe (q9 0) (q9 2)) (eOp qD (eOp qe (q9 0) (q9 2)) (eC KO)))))
def ww:Den:=den 2 qcK
def qcL:SF :=
 (qt (eOp qD (eOp qe (q9 0) 0[5]) (eOp qe (q9 0) 1[5])))
def zR:Den:=den 1 qcL
def KS:SF :=
 (qg (yM 1 eDT)
 (qg (qM (qN (eB wt [(q9 0)])) (gV 2) (sSd 1 [(eOp qe (q9 2) 0[5]),(eOp qe (q9 2) 1[5])] (qJ []) (eOp qe (q9 2) 2[5])))
 (uF 1 (qt (qF 1 (iT 1) (gV 3) qI (jG [(eOp qe (q9 3) 0[5]),(eOp qe (q9 3) 1[5]),(eB yA [(eOp ym (q9 1) (q9 3))])]))))))
def yp:Den:=den 3 KS
def KU:SF :=
 (qg (qk 1 (qJ []))
 (qg (qk 2 (q9 0))
 (qg (qM (ZB (eC Jo)) (gV 3) (kD 520 (tE (eOp dLe (q9 3) (q9 2))) (qg (qC 1 (q9 3))
 (zb 2 jc (q9 3)))))
 (jA 1))))
def uT:Den:=den 4 KU
def KW:SF :=
 (qg (qk 1 (qJ []))
 (qg (qM (zo 0) (gT [2,3]) (qg (qk 4 0[5])
 (qM (zo 3) (gT [5,6]) (qg (qC 1 (jG [(q9 4),(q9 2),(q9 5)]))
 (zb 4 zY (eOp qe (q9 6) 1[5]))))))
 (qt (eB wt [(q9 1)]))))
def wA:Den:=den 7 KW
def Js:SF :=
 (qg (sIf (tOr (tE (eOp vP (q9 0) (eC .non))) (tOr (tE (eOp dEq (eOp qe (q9 0) 0[5]) (eC (.str "rest")))) (za (tE (eOp qe (q9 0) 3[5]))))) (qt (eC .non)) qw)
 (qt (eOp qe (q9 0) 2[5])))
def yq:Den:=den 1 Js
def KY:SF :=
 (qg (qk 1 0[5])
 (qg (jJ 0 (qM (iV 0) (gV 2) (jJ 2 (qM (iV 2) (gV 3) (sIf (tE (eOp dEq (eOp qe (q9 3) 0[5]) (eC (.str "note")))) (zb 1 zY (eB jw [(qF 1 (qN (eOp qe (q9 3) 2[5])) (gV 4) (tE (eOp wR (eOp qe (q9 4) 2[5]) (eC .non))) (q9 4))])) qw)))))
 (jA 1)))
def Jt:Den:=den 4 KY
def KZ:SF :=
 (qM (zo 0) (gT [2,3]) (sIf (tE (eOp dGt (q9 3) (q9 1))) zF qw))
def Ju:Den:=den 4 KZ
def X0:SF :=
 (qg (qk 4 (qJ []))
 (qg (qk 5 (q9 1))
 (qg (qM (iR2 (eOp qD (q9 2) 1[5]) (eOp qD (eB jw [(q9 0)]) 1[5])) (gV 6) (qg (zb 5 jc (eOp qe (q9 0) (eOp jc (q9 6) 1[5])))
 (qg (sIf (tE (eOp dLt (q9 5) 0[5])) yC qw)
 (qg (qk 7 (eIf (tE (eOp dEq (q9 6) (eB jw [(q9 0)]))) 0[5] (eOp qD (eOp zm (q9 5) (q9 5)) (eOp qe (eOp qe (q9 3) (q9 6)) 0[5]))))
 (qC 4 (jG [(q9 7),(eUn jQ (q9 6))]))))))
 (jA 4))))
def uU:Den:=den 8 X0
def X1:SF :=
 (qt (eOp zm (eOp qe (q9 0) 1[5]) (eOp qe (q9 0) 2[5])))
def wB:Den:=den 1 X1
def Vy:SF :=
 (qg (sIf (tE (eOp dEq (q9 1) 0[5])) (qt (eOp dEq (eOp qe (eOp qe (q9 0) 0[5]) 0[5]) 0[5])) qw)
 (qt (eOp dGt (eOp qe (eOp qe (q9 0) (q9 1)) 0[5]) (eOp qe (eOp qe (q9 0) (eOp jc (q9 1) 1[5])) 0[5]))))
def yr:Den:=den 2 Vy
def X2:SF :=
 (qt (eOp zH (eC (.str " ")) (eOp qB (qJ [(q9 0)]) (q9 1))))
def zI:Den:=den 2 X2
def X3:SF :=
 (qt (eOp qB (eOp qB (eOp qB (eOp qB (eB jm [(eOp qe (q9 0) 0[5])]) (eC (.str ":"))) (eB jm [(eOp qe (q9 0) 1[5])])) (eC (.str "x"))) (eB jm [(eOp qe (q9 0) 2[5])])))
def yV:Den:=den 1 X3
def X4:SF :=
 (qt (eOp qB (eOp qB (eOp qe (q9 0) 0[5]) (eB jm [(eOp qe (q9 0) 1[5])])) (eOp (uN "SIGN_WORDS" wY) (eC (dFn "SIGN_WORDS")) (eOp qe (q9 0) 2[5]))))
def uV:Den:=den 1 X4
def X5:SF :=
 (qg (sIf (tE (eOp dLt (q9 1) (eB jw [(q9 0)]))) (qt (eOp qe (q9 0) (q9 1))) qw)
 (qt 0[5]))
def v8:Den:=den 2 X5
def X6:SF :=
 (qt (eOp vJ (eOp vJ (eOp zm (q9 0) 48271[5]) (q9 1)) (q9 2)))
def zq:Den:=den 3 X6
def qcM:SF :=
 (qg (jJ 1 (qM (iV 1) (gV 2) (sIf (zV (tE (eOp dEq (eOp qe (q9 0) 2[5]) (eOp qe (q9 2) 2[5]))) (zV (tE (eOp dLt (eOp qe (q9 0) 0[5]) (eOp qD (eOp qe (q9 2) 0[5]) (eOp qe (q9 2) 1[5])))) (tE (eOp dLt (eOp qe (q9 2) 0[5]) (eOp qD (eOp qe (q9 0) 0[5]) (eOp qe (q9 0) 1[5])))))) (qt (eC (.bl false))) qw)))
 (qt (eC (.bl true))))
def Jv:Den:=den 3 qcM
def qcN:SF :=
 (qg (qk 2 eDT)
 (qg (jJ 1 (qM (iV 1) (gV 3) (sIf (zV (tE (eOp dLt (eOp qe (q9 3) 0[5]) (eOp qD (eOp qe (q9 0) 0[5]) (eOp qe (q9 0) 1[5])))) (tE (eOp dLt (eOp qe (q9 0) 0[5]) (eOp qD (eOp qe (q9 3) 0[5]) (eOp qe (q9 3) 1[5]))))) (sIf (tE (eOp dNe (jG [(eOp qe (q9 3) 0[5]),(eOp qe (q9 3) 1[5])]) (jG [(eOp qe (q9 0) 0[5]),(eOp qe (q9 0) 1[5])]))) (x4 2 [(eOp qe (q9 3) 0[5]),(eOp qe (q9 3) 1[5])] (eC (.bl true))) qw) qw)))
 (qt (eB jw [(q9 2)]))))
def Jw:Den:=den 4 qcN
def X7:SF :=
 (qg (qk 1 (qJ [(eC (.str "bb")),(eC (.str "b")),(eC (.str "n")),(eC (.str "\x73")),(eC (.str "ss"))]))
 (qg (sIf (tE (eOp vP (eOp qe (q9 0) 2[5]) (eC .non))) (qt (eOp qB (eOp qe (q9 0) 0[5]) (eB jm [(eOp qe (q9 0) 1[5])]))) qw)
 (qt (eOp qB (eOp qB (eOp qe (q9 0) 0[5]) (eB jm [(eOp qe (q9 0) 1[5])])) (eOp qe (q9 1) (eOp qB (eOp qe (q9 0) 2[5]) 2[5]))))))
def xx:Den:=den 2 X7
def X8:SF :=
 (qt (yB (qi uQ [(q9 0)]) (ut dLe dLe (q9 1) (q9 0) (q9 2))))
def xy:Den:=den 3 X8
def qcO:SF :=
 (qt (qi uR [(eOp jc (q9 1) 4[5]),(eOp zm 7[5] (q9 0)),12[5]]))
def Vz:Den:=den 2 qcO
def X9:SF :=
 (qt (qi Jr [(qi uR [(eOp jc (q9 1) 1[5]),(eOp jc (eOp xj (eC uO) (q9 0)) 1[5]),7[5]])]))
def yW:Den:=den 2 X9
def Xa:SF :=
 (qg (qk 1 (qJ []))
 (qg (jJ 0 (qM (iV 0) (gV 2) (jJ 2 (qM (iV 2) (gV 3) (sIf (tE (eOp dEq (eOp qe (q9 3) 0[5]) (eC (.str "note")))) (zZ 1 (qF 1 (qN (eOp qe (q9 3) 2[5])) (gV 4) qI (qi yU [(q9 4)]))) qw)))))
 (jA 1)))
def uW:Den:=den 4 Xa
def Xb:SF :=
 (qt (eB uq [(qF 1 (iVc 0) (gV 2) qI (qi uS [(q9 2),(q9 1)]))]))
def yX:Den:=den 2 Xb
def Xd:SF :=
 (qt (yB (eOp dEq (eOp qe (q9 0) 2[5]) (eOp qe (q9 1) 2[5])) (yB (eOp dLt (eOp qe (q9 0) 0[5]) (qi zR [(q9 1)])) (eOp dLt (eOp qe (q9 1) 0[5]) (qi zR [(q9 0)])))))
def uX:Den:=den 2 Xd
def Xe:SF :=
 (qt (qF 1 (qN (qi uT [(q9 0)])) (gV 1) qI (jG [(eC (.str "rest")),(q9 1)])))
def xz:Den:=den 1 Xe
def Xf:SF :=
 (qg (qk 3 (qi zR [(q9 0)]))
 (qg (qk 4 (qJ []))
 (qg (qk 5 (q9 1))
 (qg (qM (qN (qi uT [(eOp jc (q9 2) (q9 1))])) (gV 6) (qg (zb 5 zY (q9 6))
 (qC 4 (jG [(eC (.str "note")),(q9 6),(eOp qe (q9 0) 2[5]),(eOp dLt (q9 5) (q9 3))]))))
 (jA 4)))))
def xA:Den:=den 7 Xf
def Xg:SF :=
 (qg (qk 1 (Va (qF 1 (qN (qi wA [(q9 0)])) (gV 2) qI (eOp qe (q9 2) 0[5]))))
 (qt (eOp qD (eOp qD (eC Vq) (eOp zm (eC Vr) (q9 1))) (qi Jt [(q9 0)]))))
def yt:Den:=den 2 Xg
def Xh:SF :=
 (qg (sIf (za (tE (qi uQ [(q9 1)]))) zF qw)
 (qg (u9 (qi Ju [(q9 0),(q9 1)]))
 (qg (qk 2 (eOp xm (qJ [(jG [0[5],0[5]])]) (eB jw [(q9 0)])))
 (qg (qM (iR3d (eOp jc (eB jw [(q9 0)]) 1[5]) (eUn jQ 1[5]) (eUn jQ 1[5])) (gV 3) (kZ 2 (q9 3) (eB xn [(qi uU [(q9 0),(q9 1),(q9 3),(q9 2)])])))
 (jA 2)))))
def Jx:Den:=den 4 Xh
def Xi:SF :=
 (qg (qk 2 eDK)
 (qg (jJ 0 (qM (iV 0) (gV 3) (wj 2 (eOp qe (q9 3) 0[5]) (qi wB [(q9 3)]))))
 (qg (qk 4 (qJ []))
 (qg (qk 5 0[5])
 (qg (qM (iR1 (q9 1)) (gV 6) (qg (qk 5 (uk (q9 2) (q9 6) (q9 5)))
 (qC 4 (q9 5))))
 (jA 4))))))
def uY:Den:=den 7 Xi
def Xj:SF :=
 (qg (qk 2 0[5])
 (qg (qk 3 0[5])
 (qg (qk 4 0[5])
 (qg (jJ 0 (qM (iV 0) (gV 5) (qg (qk 6 (eOp qD (q9 3) (eOp zm (eOp jc (eOp qe (q9 5) 0[5]) (q9 2)) (q9 4))))
 (qg (sIf (tE (eOp dLt (q9 1) (q9 6))) yC qw)
 (qg (qk 2 (eOp qe (q9 5) 0[5]))
 (qg (qk 3 (q9 6))
 (qk 4 (qi wB [(q9 5)]))))))))
 (qt (jG [(eOp qD (q9 2) (eOp vU (eOp jc (q9 1) (q9 3)) (q9 4))),(eOp vJ (eOp jc (q9 1) (q9 3)) (q9 4))]))))))
def Jy:Den:=den 7 Xj
def qcP:SF :=
 (qg (qM (zo 0) (gT [2,3]) (sIf (tE (eOp dLe (qi zR [(eOp qe (q9 3) (eUn jQ 1[5]))]) (q9 1))) (jA 2) qw))
 (qt (eB jw [(q9 0)])))
def uZ:Den:=den 4 qcP
def VA:SF :=
 (qg (qk 1 (eB jm [(eOp qe (q9 0) 1[5])]))
 (qg (sIf (tE (eOp dEq (eOp qe (q9 0) 0[5]) (eC (.str "rest")))) (qt (eOp qB (eC (.str "r")) (q9 1))) qw)
 (qg (qk 2 (eOp zH (eC (.str "+")) (qF 1 (qN (eOp qe (q9 0) 2[5])) (gV 4) qI (qi uV [(q9 4)]))))
 (qg (qk 3 (eIf (tE (eOp qe (q9 0) 3[5])) (eC (.str "~")) (eC (.str r""))))
 (qt (eOp qB (eOp qB (eOp qB (q9 2) (eC (.str "/"))) (q9 1)) (q9 3)))))))
def xB:Den:=den 4 VA
def Xk:SF :=
 (qt (eOp dEq (qi zq [(eOp qD (qi v8 [(q9 0),0[5]]) (eOp zm 7[5] (eB jw [(q9 0)]))),9871[5],8[5]]) 3[5]))
def Jz:Den:=den 1 Xk
def VB:SF :=
 (qg (qk 7 (qi zq [(q9 0),9949[5],4[5]]))
 (qg (sIf (zV (tE (q9 1)) (tE (eOp dEq (q9 7) 0[5]))) (qg (qk 3 (eOp qe (eOp qe (q9 1) (eUn jQ 1[5])) 0[5]))
 (qk 4 (eOp qe (eOp qe (q9 1) (eUn jQ 1[5])) 1[5]))) qw)
 (qg (sIf (zV (tE (q9 1)) (zV (tE (eOp dEq (q9 7) 1[5])) (tE (eOp dLe (eOp qD (eOp qe (eOp qe (q9 1) (eUn jQ 1[5])) 0[5]) (eOp qe (eOp qe (q9 1) (eUn jQ 1[5])) 1[5])) (q9 6))))) (qg (qk 3 (eOp qD (eOp qe (eOp qe (q9 1) (eUn jQ 1[5])) 0[5]) (eOp qe (eOp qe (q9 1) (eUn jQ 1[5])) 1[5])))
 (sIf (tE (eOp dEq (qi zq [(q9 0),9941[5],2[5]]) 0[5])) (qk 5 (eOp qe (eOp qe (q9 1) (eUn jQ 1[5])) 2[5])) qw)) qw)
 (qt (jG [(q9 3),(q9 4),(q9 5)])))))
def Xl:SF :=
 (qg (qk 3 (qi zq [(q9 0),10007[5],97[5]]))
 (qg (qk 4 (eOp qD 1[5] (qi zq [(q9 0),9973[5],48[5]])))
 (qg (qk 5 (eOp qD 52[5] (qi zq [(q9 0),9967[5],25[5]])))
 (qg (qk 6 96[5])
 (qg (sIf (tE (q9 2)) (qg (qk 3 (qi zq [(q9 0),10007[5],1001[5]]))
 (qg (qk 4 (eOp qD 1[5] (qi zq [(q9 0),9973[5],400[5]])))
 (qg (qk 5 (qi zq [(q9 0),9967[5],128[5]]))
 (qk 6 1000[5])))) qw)
 VB)))))
def Q0:Den:=den 8 Xl
def Xm:SF :=
 (qt (eOp dEq (eOp vJ (qi v8 [(q9 0),0[5]]) 4[5]) 3[5]))
def JA:Den:=den 1 Xm
def Xn:SF :=
 (qg (qk 3 (qJ [1[5],2[5],4[5],8[5],16[5],32[5],64[5]]))
 (qg (qk 4 8[5])
 (qg (qk 5 96[5])
 (qg (sIf (tE (q9 2)) (qg (qk 3 (qJ [4[5],8[5],16[5],32[5],64[5]]))
 (qg (qk 4 64[5])
 (qk 5 512[5]))) qw)
 (qg (qk 6 (eOp qe (q9 3) (qi zq [(q9 0),10007[5],(eB jw [(q9 3)])])))
 (qg (qk 7 (eOp vU (eOp jc (eOp qD (q9 4) (q9 6)) 1[5]) (q9 6)))
 (qg (qk 8 (eB u8 [24[5],(eOp vU (q9 5) (q9 6))]))
 (qt (jG [(q9 1),(eOp qD (q9 7) (qi zq [(q9 0),9973[5],(eOp qD (eOp jc (q9 8) (q9 7)) 1[5])])),(q9 6)])))))))))
def Q1:Den:=den 9 Xn
def Xo:SF :=
 (qt (eOp jc (qi zq [(qi v8 [(q9 0),5[5]]),9883[5],15[5]]) 7[5]))
def JB:Den:=den 1 Xo
def Xp:SF :=
 (qg (sIf (tE (q9 1)) (qt (eOp qD 2000[5] (qi zq [(qi v8 [(q9 0),4[5]]),9887[5],3001[5]]))) qw)
 (qt (eOp qD 400[5] (qi zq [(qi v8 [(q9 0),4[5]]),9887[5],400[5]]))))
def JC:Den:=den 2 Xp
def VC:SF :=
 (qg (sIf (tE (eOp dEq (eOp qe (q9 0) 0[5]) (eC (.str "rest")))) (qt (eOp qB (eC (.str "r")) (eB jm [(eOp qe (q9 0) 1[5])]))) qw)
 (qg (qk 1 (eOp qB (eC (.str "/")) (eB jm [(eOp qe (q9 0) 1[5])])))
 (qg (sIf (tE (eOp qe (q9 0) 3[5])) (qk 1 (eOp qB (q9 1) (eC (.str "~")))) qw)
 (qt (eOp qB (eOp zH (eC (.str "+")) (qF 1 (qN (eOp qe (q9 0) 2[5])) (gV 2) qI (qi xx [(q9 2)]))) (q9 1))))))
def wZ:Den:=den 2 VC
def Xq:SF :=
 (qg (sIf (tOr (za (tE (eUn (dIs .tuple) (q9 0)))) (tE (eOp dNe (eB jw [(q9 0)]) (eB jw [(q9 1)])))) (qt (eC (.bl false))) qw)
 (qg (qM (uE 0 1) (gT [2,3]) (sIf (za (tE (qi xy [(q9 2),(eOp qe (q9 3) 0[5]),(eOp qe (q9 3) 1[5])]))) (qt (eC (.bl false))) qw))
 (qt (eC (.bl true)))))
def yu:Den:=den 4 Xq
def Xr:SF :=
 (qg (sIf (za (tE (qi xy [(q9 0),(eC Vh),(eC Vi)]))) zF qw)
 (jA 0))
def JD:Den:=den 1 Xr
def Xs:SF :=
 (qg (qk 2 (qi Vz [(q9 0),(q9 1)]))
 (qg (qk 3 (eOp wT (eC uO) (eOp vJ (eOp qD (q9 2) 1[5]) 7[5])))
 (qg (qk 4 (qi Jr [(q9 2)]))
 (qg (qk 5 (eOp vU (eOp jc (eOp jc (q9 0) (eOp ue (eC Vj) (q9 3))) (q9 4)) 12[5]))
 (qt (jG [(q9 3),(q9 4),(q9 5)]))))))
def Q2:Den:=den 6 Xs
def Xt:SF :=
 (qg (qk 1 (qJ []))
 (qg (qk 2 (qJ [0[5],0[5],0[5]]))
 (qg (qM (Ja 0) (gV 3) (qg (qk 4 (qi uW [(q9 3)]))
 (qg (qk 2 (qF 1 (qN (eC xw)) (gV 5) qI (eOp qD (qi yX [(q9 4),(q9 5)]) (eB wU [(qi ww [(q9 2),(q9 5)])]))))
 (jJ 2 (qC 1 (q9 2))))))
 (qt (ZV (q9 1))))))
def Q3:Den:=den 5 Xt
def Xu:SF :=
 (qg (qM (qN (eSl (q9 0) oNo (oE (q9 1)))) (gV 2) (sIf (tE (qi uX [(q9 2),(eOp qe (q9 0) (q9 1))])) (qt (eC (.bl true))) qw))
 (qt (eC (.bl false))))
def xC:Den:=den 3 Xu
def Xv:SF :=
 (qg (qk 3 (qJ []))
 (qg (qk 4 (q9 1))
 (qg (jJ 0 (qM (iV 0) (gV 5) (qg (qk 6 (eB uo [(eOp qe (q9 5) 0[5]),(q9 1)]))
 (qg (qk 7 (eB u8 [(qi zR [(q9 5)]),(q9 2)]))
 (sIf (tE (eOp dLt (q9 6) (q9 7))) (qg (zZ 3 (qi xz [(eOp jc (q9 6) (q9 4))]))
 (qg (zZ 3 (qi xA [(q9 5),(q9 6),(q9 7)]))
 (qk 4 (q9 7)))) qw)))))
 (qg (zZ 3 (qi xz [(eOp jc (q9 2) (q9 4))]))
 (jA 3)))))
def Q4:Den:=den 8 Xv
def qcQ:SF :=
 (qt (uK (q9 2) [(q9 0),(q9 1)] (qi yW [(q9 0),(q9 3)])))
def JE:Den:=den 4 qcQ
def Xw:SF :=
 (qg (sIf (za (tE (qi xy [(q9 0),(eC Vn),(eC Vp)]))) zF qw)
 (jA 0))
def JF:Den:=den 1 Xw
def Xx:SF :=
 (qg (qk 2 (qi Jx [(q9 0),(q9 1)]))
 (qg (qk 3 (qJ []))
 (qg (qk 4 0[5])
 (qg (kD 180 (tE (eOp dLt (q9 4) (eB jw [(q9 0)]))) (qg (qC 3 (q9 4))
 (qk 4 (eUn jQ (eOp qe (eOp qe (q9 2) (q9 4)) 1[5])))))
 (jA 3)))))
def JG:Den:=den 5 Xx
def Xy:SF :=
 (qg (qk 2 (eB uo [(eOp jc (q9 1) 1[5]),0[5]]))
 (qt (eOp qD (eOp qe (qi Jy [(q9 0),(q9 2)]) 0[5]) 1[5])))
def xD:Den:=den 3 Xy
def qcR:SF :=
 (qg (yM 1 (qJ []))
 (qg (jJ 0 (qM (iV 0) (gV 2) (qg (qk 3 (wp 1 (qi uZ [(q9 1),(eOp qe (q9 2) 0[5])])))
 (qg (sIf (tE (eOp dEq (q9 3) (eC Jq))) zF qw)
 (qg (sIf (tE (eOp dEq (q9 3) (wp 1 (eB jw [(q9 1)])))) (xg 1 (qJ [])) qw)
 (wS 1 (q9 3) (q9 2)))))))
 (yk 1 (jA 1))))
def yY:Den:=den 4 qcR
def Xz:SF :=
 (qt (qi zI [(eC (.str ":")),(qF 1 (iVc 0) (gV 1) qI (qi xB [(q9 1)]))]))
def yZ:Den:=den 1 Xz
def XA:SF :=
 (qg (qk 2 12[5])
 (qg (sIf (tE (qi Jz [(q9 0)])) (qk 2 24[5]) qw)
 (qg (sIf (tE (eOp dGt (eB jw [(q9 0)]) 63[5])) (qk 2 60[5]) qw)
 (qg (qk 3 (qJ []))
 (qg (qM (qN (eSl (q9 0) (oE 6[5]) (oE (eOp qD 6[5] (q9 2))))) (gV 4) (qg (qk 5 (qi Q0 [(q9 4),(q9 3),(q9 1)]))
 (sIf (zV (tE (qi Jv [(q9 5),(q9 3)])) (tE (eOp dLe (qi Jw [(q9 5),(q9 3)]) 7[5]))) (qC 3 (q9 5)) qw)))
 (jA 3))))))
def JI:Den:=den 6 XA
def XB:SF :=
 (qg (qk 2 (qJ []))
 (qg (qk 3 0[5])
 (qg (qM (iR1 (eOp qD 1[5] (eOp vJ (qi v8 [(q9 0),1[5]]) 3[5]))) (gV 4) (qg (qk 5 (eOp qD (qi v8 [(q9 0),1[5]]) (eOp zm 7[5] (qi v8 [(q9 0),(eOp qD 2[5] (q9 4))]))))
 (qg (qC 2 (qi Q1 [(q9 5),(q9 3),(q9 1)]))
 (qk 3 (eOp qD (eOp qD (q9 3) 1[5]) (qi zq [(q9 5),9967[5],3[5]]))))))
 (jA 2))))
def JJ:Den:=den 6 XB
def XC:SF :=
 (qg (qk 1 (qJ [(eOp qB (eC (.str "key ")) (eB jm [(eOp qe (q9 0) 0[5])]))]))
 (qg (qk 2 (qF 1 (qN (eOp qe (q9 0) 1[5])) (gV 5) qI (eOp qB (eOp qB (eOp qB (eOp qB (eB jm [(eOp qe (q9 5) 0[5])]) (eC (.str ":"))) (eB jm [(eOp qe (q9 5) 1[5])])) (eC (.str "x"))) (eB jm [(eOp qe (q9 5) 2[5])]))))
 (qg (qC 1 (eOp zH (eC (.str " ")) (eOp qB (qJ [(eC (.str "meter"))]) (q9 2))))
 (qg (qC 1 (eOp qB (eC (.str "room ")) (eB jm [(eOp qe (q9 0) 2[5])])))
 (qg (qM (iR1 (eB jw [(eOp qe (q9 0) 5[5])])) (gV 3) (qg (sIf (tE (eOp wo (q9 3) (eOp qe (q9 0) 4[5]))) (qC 1 (eC (.str "line"))) qw)
 (qg (qC 1 (eOp qB (eC (.str "bar ")) (eB jm [(eOp qe (eOp qe (q9 0) 3[5]) (q9 3))])))
 (qM (qN (eOp qe (eOp qe (q9 0) 5[5]) (q9 3))) (gV 4) (qC 1 (eOp zH (eC (.str " ")) (eOp qB (qJ [(eC (.str ":"))]) (qF 1 (iVc 4) (gV 5) qI (qi wZ [(q9 5)])))))))))
 (jA 1))))))
def Q5:Den:=den 5 XC
def XD:SF :=
 (qg (qk 1 (qJ []))
 (qg (qM (qN (qi Q3 [(q9 0)])) (gV 2) (qg (qk 3 (eIf (tE (q9 1)) (qi ww [(q9 2),(eOp qe (q9 1) (eUn jQ 1[5]))]) (q9 2)))
 (qC 1 (eOp uI (q9 3) (eB wU [(q9 3)])))))
 (jA 1)))
def JK:Den:=den 4 XD
def XE:SF :=
 (qg (sIf (za (tE (qi yT [(q9 0),0[5],(eC Jn)]))) zF qw)
 (qg (qM (zo 0) (gT [1,2]) (sIf (tOr (za (tE (qi yu [(q9 2),(eC uP)]))) (tE (qi xC [(q9 0),(q9 1)]))) zF qw))
 (qt (eB wt [(q9 0)]))))
def Q6:Den:=den 3 XE
def XG:SF :=
 (qg (qk 2 (qJ []))
 (qg (qk 3 0[5])
 (qg (jJ 1 (qM (iV 1) (gV 4) (qg (qC 2 (qi Q4 [(q9 0),(q9 3),(eOp qD (q9 3) (q9 4))]))
 (zb 3 zY (q9 4)))))
 (jA 2))))
def xE:Den:=den 5 XG
def qcS:SF :=
 (qg (qk 4 (qJ []))
 (qg (jJ 0 (qM (iV 0) (gV 5) (qg (qk 6 (qi Q2 [(q9 5),(q9 3)]))
 (qg (qk 7 (eOp qe (q9 6) 0[5]))
 (qg (qk 8 (eOp qe (q9 6) 2[5]))
 (qg (qk 9 (eC .non))
 (qg (sIf (zV (tE (eOp vP (q9 1) (eC .non))) (tE (eOp dNe (qi JE [(q9 7),(q9 8),(yR 2),(q9 3)]) (eOp qe (q9 6) 1[5])))) (qg (qk 9 (eOp qe (q9 6) 1[5]))
 (xt 2 [(q9 7),(q9 8)] (q9 9))) qw)
 (qC 4 (jG [(q9 7),(q9 8),(q9 9)])))))))))
 (uJ 2 (eB yA [(q9 4)]))))
def JM:Den:=den 10 qcS
def XH:SF :=
 (qg (sIf (tOr (za (tE (qi yu [(q9 0),(eC Vt)]))) (tE (eOp QX (eOp qe (q9 0) 2[5]) (eC Vu)))) (qt (eC (.bl false))) qw)
 (qt (ut dLe dLe (eC Vv) (qi wB [(q9 0)]) (eC Vw))))
def xF:Den:=den 1 XH
def XI:SF :=
 (qg (qk 1 (qJ [(qi zI [(eC (.str "key")),(qJ [(eB jm [(eOp qe (q9 0) 0[5])])])]),(qi zI [(eC (.str "meter")),(qF 1 (qN (eOp qe (q9 0) 1[5])) (gV 4) qI (qi yV [(q9 4)]))]),(qi zI [(eC (.str "room")),(qJ [(eB jm [(eOp qe (q9 0) 2[5])])])])]))
 (qg (qM (J8 (eOp qe (q9 0) 5[5])) (gT [2,3]) (qg (sIf (tE (eOp wo (q9 2) (eOp qe (q9 0) 4[5]))) (qC 1 (eC (.str "line"))) qw)
 (qg (qC 1 (qi zI [(eC (.str "bar")),(qJ [(eB jm [(eOp qe (eOp qe (q9 0) 3[5]) (q9 2))])])]))
 (zZ 1 (qF 1 (iVc 3) (gV 4) qI (qi yZ [(q9 4)]))))))
 (qt (eOp zH (eC (.str r"")) (qF 1 (iVc 1) (gV 4) qI (eOp qB (q9 4) (eC (.str "\n"))))))))
def JN:Den:=den 4 XI
def qcT:SF :=
 (qg (qk 3 (qJ []))
 (qg (qk 4 eDK)
 (qg (jJ 0 (qM (iV 0) (gV 5) (qg (qk 6 eDT)
 (qg (uH 7 (Ko 1 (iVc 5) (gV 12) (qJ [])))
 (qg (qM (qN (qi wA [(q9 5)])) (gV 8) (qg (qk 9 (eOp qe (q9 8) 1[5]))
 (qg (qk 10 (eOp qe (eOp qe (q9 5) (q9 9)) (eOp qe (q9 8) 2[5])))
 (qg (sIf (tE (eOp dEq (eOp qe (q9 10) 0[5]) (eC (.str "note")))) (qg (qk 11 (qi yq [(yS (q9 4) (q9 9))]))
 (sIO 10 (eIOT (vq (eC (.str "note")) (vq (eOp qe (q9 10) 1[5]) (xIO (eIOV 2 "heads_of" JM 6 [(eOp qe (q9 10) 2[5]),(q9 11)] [(q9 1)]) (vq (eOp qe (q9 10) 3[5]) uL))))))) qw)
 (qg (wS 7 (q9 9) (q9 10))
 (wj 4 (q9 9) (q9 10)))))))
 (yk 7 (jJ 7 (qC 3 (q9 7)))))))))
 (jA 3))))
def xG:Den:=den 12 qcT
def XJ:SF :=
 (qg (sIf (za (tE (qi yT [(q9 0),1[5],(eC Jp)]))) zF qw)
 (qg (qM (zo 0) (gT [1,2]) (sIf (tOr (za (tE (qi xF [(q9 2)]))) (za (tE (qi yr [(q9 0),(q9 1)])))) zF qw))
 (qt (eB Qy [(q9 0)]))))
def JO:Den:=den 3 XJ
def qcU:SF :=
 (qg (qk 2 (eOp x8 (qF 1 (iVc 0) (gV 7) qI (qi zR [(q9 7)])) 0[5]))
 (qg (qk 3 (qi uY [(q9 1),(qi xD [(q9 1),(q9 2)])]))
 (qg (qk 4 (qF 1 (qN (qi yY [(qi yp [(q9 0)])])) (gV 7) qI (qi xE [(q9 7),(q9 3)])))
 (qg (qk 5 (qJ []))
 (qg (qM (iR1 (eB jw [(q9 3)])) (gV 6) (qC 5 (qF 1 (iVc 4) (gV 7) qI (eOp qe (q9 7) (q9 6)))))
 (jA 5))))))
def VD:Den:=den 7 qcU
def qcV:SF :=
 (qt (qi xG [(q9 0),(q9 1),(eC (dFn "heads_of"))]))
def JP:Den:=den 2 qcV
def XM:SF :=
 (qg (u9 (qi JD [(q9 1)]))
 (qg (qk 4 (qi JO [(q9 2)]))
 (qg (qk 5 (qi Q6 [(q9 0)]))
 (qg (u9 (qi JF [(q9 3)]))
 (qg (qk 6 (qi JP [(qi VD [(q9 5),(q9 4)]),(q9 1)]))
 (qg (qk 7 (qF 1 (iVc 6) (gV 8) qI (qi yt [(q9 8)])))
 (jJ 7 (jJ 6 (jJ 4 (qt (jG [(q9 1),(q9 4),(q9 3),(qi JK [(q9 6)]),(qi JG [(q9 7),(q9 3)]),(q9 6)])))))))))))
def JQ:Den:=den 8 XM
abbrev XN:Stmt:=top 116
def XO:SF :=
 (qg (qk 1 (qi JA [(q9 0)]))
 (qg (qk 2 (qi JI [(q9 0),(q9 1)]))
 (qg (qk 3 (qi JQ [(eB Qy [(q9 2)]),(qi JB [(q9 0)]),(qi JJ [(q9 0),(q9 1)]),(qi JC [(q9 0),(q9 1)])]))
 (qg (qk 4 (qi JN [(q9 3)]))
 (qg (sIf (za (tE (eUn (dIs .str) (q9 4)))) (qt (eC (.bl false))) qw)
 (qg (qk 5 (eC (.str r"")))
 (qg (qM (qN (qi Q5 [(q9 3)])) (gV 6) (qk 5 (eOp qB (eOp qB (q9 5) (q9 6)) (eC (.str "\n")))))
 (qt (eOp dEq (q9 4) (q9 5))))))))))
def xH:Den:=den 7 XO
def FS:FnT:=(apS (apS ["is_whole","is_list_within","first_alike","alter_at","step_of","small_lines","prices_behind","end_of","chords","pieces","in_order","tied_to_next","signs_in","refuse_too_wide","line_choices","told_length","rises","shown_row","shown_change","shown_head","_law_cell","_law_mix","_law_apart","_law_meets","_law_head"] ["is_whole_within","fifth","own_alter","steps_of","lines_of","overlap","rest_events","note_events","width","best_lines","bar_lengths","stands","free_voice","shown_event","_law_large","_law_note","_law_wide","_law_step","_law_key","_law_space","_law_event","is_tuple_within","checked_key","name_of","clef_prices"]) ["overlaps_one_ahead","bar_events","alter_by_then","checked_room","firsts","bars_needed","voiced","shown_voice","_law_notes","_law_meter","_law_rows","clefs","checked_notes","events","heads_of","is_told","shown","turned","checked_meter","bars_of","signed","page"]).zip ([9,12,19,21,30,31,34,40,44,47,54,55,66,68,69,78,80,94,95,96,101,102,104,105,113,10,20,23,32,33,41,49,50,67,70,82,83,87,97,103,106,108,109,111,112,114,11,18,22,35,42,51,56,65,71,84,88,98,107,110,115,36,43,52,57,79,99,58,81,90,59,91].map top)
def BL:List Str:=["isinstance","int","bool","list","len","max","sorted","tuple","enumerate","range","str","sum","set","min","zip","reversed"]
def C0S:List (Str×D):=(["LETTERS_BY_STEPS","LOWEST_LINES","STEPS_BETWEEN","CLEFS","CHANGE","SHAPES","LETTERS_BY_FIFTHS","BAR_WIDTH","PLACE_WIDTH","LOWEST_KEY","HIGHEST_KEY","LEAST_ROOM","MOST_ROOM","MOST_VOICES","MOST_NOTES","BOUNDS_sounds","BOUNDS_meters","UNITS","SHORTEST_BAR","LONGEST_BAR","MOST_TUPLES"]:List Str).zip [Vk,Vl,Vm,xw,KO,Jo,uO,Vq,Vr,Vh,Vi,Vn,Vp,Jq,Jn,uP,Vt,Vu,Vv,Vw,Jp]
def CS:List (Str×D):=C0S++[(("PITCHES":Str),Vj)]
abbrev Q(W:Wd)(k n:Nat)(d:Den):Prop:=C0 W.P W.w W.K W.mg W.base k (fnm FS n) (psS (fst FS n)) d
abbrev QI(W:Wd)(k n:Nat)(d:Den):Prop:=CI W.P W.w W.K W.mg W.base k (fnm FS n) (psS (fst FS n)) d
local macro_rules
 | `(tactic| nofun)=>do
  let xs:=("uv qis qiZ qiY qj3 qj2 qj5 qj4 qj1 qj0 jH qhx qaC qhy qiO zQ Yy Yz qhz qhA qhB qhC qhD qhE qhF QO ZK qhG qhH qhI YA qhJ qhK QP qhL qhM qhN qhO QQ qaD YB qaE qhP qhQ vW qhR qhS qhT qhU x_c QR qhV kR kS qhW qhX kT kU qhY qhZ kW x_B qi0 qi1 qi2 qi3 qi4 qi5 qi6 qi7 qi8 kX qi9 qia qib qic qid qie qif qig qih qii qij qik qaF qil qim qin qio qip yK qiq qir yI qj6 qj7 qj8 qj9 y_nt y_nf qiQ qiR qiS qiT qiU qiV qiW qiX Int.cast_ofNat_Int qit qiu qiv qiw qix qiy qiz qiA qiB qiC qiD qiE qiF qiG qiH qiI qiP qiJ qiK qiL Nat.reduceAdd Nat.reduceSub Nat.reduceLeDiff".splitOn " ").toArray.map λs=>Lean.mkIdent s.toName
  `(tactic| try dsimp only[$[$xs:ident],*])
local macro_rules
 | `(tactic| simp![$xs,*])=>`(tactic| (nofun;repeat (simp only[pL,YC,YD,YE,YF,dq,YW,$xs,*];nofun)))
 | `(tactic| left)=>`(tactic| (nofun;repeat (simp only[pL,YC,YD,YE,YF,dq,YW];nofun)))
def cell(z:List Int)(k:Nat):Int:=z.getD k 0
def xI(ns)(k:Nat):v8 [.fz (.lst (ns.map D.int)),.fz k[6]]=.ok (cell ns k)[7]:=by
 delta v8 X5
 simp![g6,cell];by_cases h:k<(ns[1]:Int)
 .have h2:k<ns[1]:=""
  simp![tJ h,zw];simp[h2];rfl
 have h2:¬ k<ns[1]:=""
 simp![tm h];simp[h2]
def qV(c p m:Int):Int:=c*48271%p%m
def v9(c p m)(hp:0<p)(z:0<m):zq [.fz c[6],.fz p[6],.fz m[6]]=.ok (qV c p m)[7]:=by
 delta zq X6
 simp![ZL (j:=48271) "d" "d",yJ hp,yJ z,qV]
def vc(c p m)(z:0<m):0<=qV c p m/\qV c p m<m:=#[dN _ "",bN _ z]
def vH(wd:Bool):List Int:=if wd then [4,8,16,32,64]else [1,2,4,8,16,32,64]
def k8(wd:Bool):Int:=if wd then 64 else 8
def y3(wd:Bool):Int:=if wd then 512 else 96
def jE(c:Int)(wd:Bool):Int:=(vH wd).getD (qV c 10007 (vH wd)[1]).toNat 1
def wC(wd:Bool)(u:Int):Int:=(k8 wd+u-1)/u
def y4(wd:Bool)(u:Int):Int:=if y3 wd/u<24 then y3 wd/u else 24
def vt(c:Int)(wd:Bool):Int:=wC wd (jE c wd)+qV c 9973 (y4 wd (jE c wd)-wC wd (jE c wd)+1)
def xJ(c)(wd):jE c wd∈vH wd:=by
 delta jE
 have h:=vc c 10007 (vH wd)[1] (by cases wd<;>decide)
 simp_all
def xK(wd):∀ u∈vH wd,0<u/\u<=64/\0<wC wd u/\wC wd u<=y4 wd u/\y4 wd u<=24/\k8 wd<=wC wd u*u/\y4 wd u*u<=y3 wd:=by
 cases wd<;>decide
def JR(c)(wd):wC wd (jE c wd)<=vt c wd/\vt c wd<=y4 wd (jE c wd):=by
 let⟨_,_,h1,h2,_⟩:=xK wd _ (xJ c wd);have h:=vc c 9973 (y4 wd (jE c wd)-wC wd (jE c wd)+1) ""
 delta vt
 lia
def qz(p:Int×Int×Int):D:=.tup [.int p.1,.int p.2.1,.int p.2.2]
def ix_list(us:List Int)(dflt)(j:Int)(h0:0<=j)(h1:j<us[1]):okD (ati (us.map D.int) j)=.ok (us.getD j.toNat dflt)[7]:=by
 let⟨n,rfl⟩:=pI h0;rw[zw,gH,t7,fK,gG ""]
 rfl
def qcW(c bar)(wd):Q1 [.fz c[6],.fz bar[6],.fz (.bl wd)]=.ok (qz (bar,vt c wd,jE c wd))[8]:=by
 let⟨u1,u2,h1,h2,h3,_⟩:=xK wd _ (xJ c wd);have hm:=vc c 10007 (vH wd)[1] (by cases wd<;>decide)
 have mx:=v9 c 9973 (y4 wd (jE c wd)-wC wd (jE c wd)+1) "d" ""
 have ix:=ix_list (vH wd) 1 _ hm.1 hm.2;have z:=v9 c 10007 (vH wd)[1] "d" (by cases wd<;>decide)
 have d1:=QS (i:=k8 wd+jE c wd-1) u1 ""
 have d2:=QS (i:=y3 wd) u1 ""
 rw[show(vH wd).getD (qV c 10007 (vH wd)[1]).toNat 1=jE c wd from rfl]at ix
 delta Q1 Xn
 cases wd
 .simp[vH,k8,y3,cG,f9,gP,pW,gJ,fS,reduceAdd,Int.cast_ofNat_Int]at ix z d1 d2;simp![z,ix,d1,d2];rw[show(8+jE c false-1)/jE c false=wC false (jE c false)from rfl,show(if 96/jE c false<24 then 96/jE c false else 24)=y4 false (jE c false)from rfl]
  simp![mx,qz,vt]
 simp[vH,k8,y3,dq,gP,pW,gJ,fS,reduceAdd,Int.cast_ofNat_Int]at ix z d1 d2;simp![z,ix,d1,d2];rw[show(64+jE c true-1)/jE c true=wC true (jE c true)from rfl,show(if 512/jE c true<24 then 512/jE c true else 24)=y4 true (jE c true)from rfl]
 simp![mx,qz,vt]
def jC(z:List Int)(k:Nat):Int:=cell z 1+7*cell z (2+k)
def mbar(z:List Int):Nat->Int
 | 0=>0
 | k+1=>mbar z k+1+qV (jC z k) 9967 3
def mtup(z:List Int)(wd:Bool)(k:Nat):Int×Int×Int:=(mbar z k,vt (jC z k) wd,jE (jC z k) wd)
def k9(z:List Int):Nat:=(1+cell z 1%3).toNat
def vS(z:List Int)(wd:Bool):List (Int×Int×Int):=(List.range (k9 z)).map (mtup z wd)
def JS(ns):1<=k9 ns/\k9 ns<=3/\(k9 ns)=1+cell ns 1%3:=by
 delta k9
 lia
def qcX(ns)(wd):JJ [.fz (.lst (ns.map D.int)),.fz (.bl wd)]=.ok (.lst ((vS ns wd).map qz))[9]:=by
 let⟨m1,m2,m3⟩:=JS ns;have c1:=xI ns 1;have hz:sz=16777216:=rfl
 delta JJ XB
 left;rw[show((1:Nat):Int)=1 from rfl]at c1
 rw[QT (n:=k9 ns) (by simp![c1,yJ (j:=3) "d",m3]) ""]
 left;let⟨ρ',e,j4,j5,hI⟩:=QL (k9 ns) (λk ρ=>∃ j4 j5,ρ=[!(.lst (ns.map D.int))[8],!(.bl wd)[8],!(.lst (((List.range k).map (mtup ns wd)).map qz))[9],!(mbar ns k)[7],j4,j5])
  (g:=gV 4) (b:=qg (qk 5 (eOp qD (qi v8 [(q9 0),1[5]]) (eOp zm 7[5] (qi v8 [(q9 0),(eOp qD 2[5] (q9 4))]))))
   (qg (qC 2 (qi Q1 [(q9 5),(q9 3),(q9 1)])) (qk 3 (eOp qD (eOp qD (q9 3) 1[5]) (qi zq [(q9 5),9967[5],3[5]])))))
  (ρ:=[!(.lst (ns.map D.int))[8],!(.bl wd)[8],!(.lst [])[9],!0[7],none,none]) #[none,none,rfl] (λk ρ hk #[j4,j5,hρ]=>by
   subst hρ;show#[_,_,rfl,.inl ?_,!k[7],!(jC ns k)[7],rfl];have c2:=xI ns (2+k);rw[show(2+k:Nat)=2+(k:Int)by lia]at c2
   simp![c1,c2,kY (i:=7) "d" "d"]
   rw[show cell ns 1+7*cell ns (2+k)=jC ns k from rfl,jR (d:=qz (mtup ns wd k)) rfl (by simp;lia) (by simp![(qcW (jC ns k) (mbar ns k) wd)];rfl)]
   simp![(v9 (jC ns k) 9967 3 "d" "d")]
   simp[cZ,mbar])
 rw[e];subst hI;rfl
def jx(p:Int×Int×Int):Int:=p.2.1*p.2.2
def Fine(ms:List (Int×Int×Int)):Prop:=ms.Pairwise (λp q=>p.1<q.1)/\(∀ p∈ms,0<=p.1/\0<=p.2.1/\p.2.1<=24)/\(∃ p∈ms,p.1=0)/\ms[1]<=20
def vv(ms:List (Int×Int×Int))(b:Int):List Int:=(ms.filter λp=>decide (p.1<=b)).map jx
def ji(ms:List (Int×Int×Int))(b:Int):Int:=(vv ms b).getLast?.getD 0
def VE(ns){i j:Nat}(h:i<j):mbar ns i<mbar ns j:=by
 induction j with
 | zero=>lia
 | succ j ih =>
  have:=vc (jC ns j) 9967 3 "d"
  have e:mbar ns (j+1)=mbar ns j+1+qV (jC ns j) 9967 3:=rfl
  grind
def VF(ns)(wd):Fine (vS ns wd):=by
 let⟨m1,m2,_⟩:=JS ns;show#[?_,λp hp=>?_,#[mtup ns wd 0,gK.mpr #[0,by simp;lia,rfl],rfl],by simp[vS];lia]
 .delta vS
  rw[fy];show List.pairwise_lt_range.imp λh=>VE ns h
 let⟨k,_,rfl⟩:=gK.mp hp;have h1:=JR (jC ns k) wd;have h2:=xK wd _ (xJ (jC ns k) wd);show#[?_,?_,?_]
 .show 0<=mbar ns k;cases k with
  | zero=>show pE _
  | succ k=>show cE (VE ns (Nat.succ_pos k))
 .show 0<=vt (jC ns k) wd;lia
 show vt (jC ns k) wd<=24;lia
def qcY(f:Fine ms)(i:Nat):(vv ms i).getLast?=!(ji ms i):=by
 let⟨p,hp,B⟩:=f.2.2.1;have ne:vv ms i≠[]:=λz=>by
  have:jx p∈vv ms i:=gK.mpr #[p,dG.mpr #[hp,by simp;lia],rfl]
  simp_all
 delta ji
 cases h:(vv ms i).getLast? with
 | none=>show absurd (pz.mp h) ne
 | some v=>rfl
def Lens(ms:List (Int×Int×Int)):Prop:=∀ p∈ms,8<=jx p/\jx p<=512/\p.1<=1000
def XQ(f:Fine ms)(i:Nat):∃ p∈ms,ji ms i=jx p:=by
 let⟨p,hp,e⟩:=gK.mp (de (qcY f i));show#[p,(dG.mp hp).1,e.symm]
def yv(f:Fine ms)(l:Lens ms)(i:Nat):8<=ji ms i/\ji ms i<=512:=by
 let⟨p,hp,e⟩:=XQ f i;have:=l p hp;lia
def qG(ms:List (Int×Int×Int))(b:Nat):Int:=((List.range b).map λk:Nat=>ji ms k).sum
def XR(ms):qG ms 0=0:=rfl
def wD(ms)(b):qG ms (b+1)=qG ms b+ji ms b:=by
 delta qG
 rw[cZ];simp
def VG(f:Fine ms)(l:Lens ms)(a k):qG ms a+8*k<=qG ms (a+k):=by
 induction k with
 | zero=>simp
 | succ k ih =>
  have:=yv f l (a+k);rw[show a+(k+1)=a+k+1 from rfl,wD]
  lia
def XS{p:Int×Int×Int}{b:Int}(e:ms=pre++p::post)(z:p.1<=b)(B:∀ q∈post,b<q.1):ji ms b=jx p:=by
 subst e;have:post.filter (λq=>decide (q.1<=b))=[]:=fR.mpr λq h=>by
  have:=B q h;simp;omega
 delta ji vv
 rw[cg,pJ z[""],this]
 simp
def XT{p:Int×Int×Int}(e:ms=pre++p::post)(hp:0<=p.1)(k:Nat)(z:∀ q∈post,p.1+k<=q.1):qG ms (p.1.toNat+k)=qG ms p.1.toNat+k*jx p:=by
 induction k with
 | zero=>simp
 | succ k ih =>
  rw[show p.1.toNat+(k+1)=p.1.toNat+k+1 from rfl,wD,ih (λq h=>by have:=z q h;lia),(XS e "" λq h=>by have:=z q h;lia)]
  lia
def qcZ(ns)(wd):Lens (vS ns wd):=λp hp=>by
 let⟨m1,m2,_⟩:=JS ns;let⟨k,hk,rfl⟩:=gK.mp hp;have hk:=b7.mp hk;have h1:=JR (jC ns k) wd;let⟨u1,u2,u3,u4,u5,u6,u7⟩:=xK wd _ (xJ (jC ns k) wd);have lo:=tG h1.1 (cE u1);have hi:=tG h1.2 (cE u1);have hb:∀ j,mbar ns j<=3*j:=λj=>by
  induction j with
  | zero=>simp[mbar]
  | succ j ih =>
   have:=vc (jC ns j) 9967 3 "d"
   show mbar ns j+1+qV (jC ns j) 9967 3<=_;lia
 have hb:=hb k;have w8:8<=k8 wd/\y3 wd<=512:=by cases wd<;>decide
 show#[?_,?_,?_]
 .show 8<=vt (jC ns k) wd*jE (jC ns k) wd;lia
 .show vt (jC ns k) wd*jE (jC ns k) wd<=512;lia
 show mbar ns k<=1000;lia
def VH(p)(h:0<=p.2.1/\p.2.1<=24):wB [.fz (qz p)]=.ok (jx p)[7]:=by
 delta wB X1
 simp![qz,kY (i:=p.2.1) "" "",jx]
def JT:qH g b [] ρ=.nx ρ:=rfl
def turn(g:GF)(b:SF)(xs:List D)(o:Out):Out:=match o with
 | .nx ρ2=>qH g b xs ρ2
 | .ct ρ2=>qH g b xs ρ2
 | .bk ρ2=>.nx ρ2
 | o=>o
def vd{g:GF}{b:SF}(h:g x ρ=.ok ρ1):qH g b (x::xs) ρ=turn g b xs (b ρ1):=by
 show(match g x ρ with|.ok ρ1=>_|.exc x=>_|.stuck=>_)=_
 rw[h];rfl
def y6:turn g b xs (.nx ρ)=qH g b xs ρ:=rfl
def qja:turn g b xs (.rt w)=.rt w:=rfl
def Q7:D->Bool
 | .xc _ _=>false
 | _=>true
def zJ(lo hi:Int):D->Bool
 | .int i=>decide (lo<=i)&&decide (i<=hi)
 | _=>false
def XU:D->Bool
 | .int _=>true
 | _=>false
def qd0(d)(h:Q7 d=true):uQ [.fz d]=.ok (.bl (XU d))[8]:=by
 cases d<;>first|rfl|cases h
def Q8(d)(lo hi)(h:Q7 d=true):xy [.fz d,.fz lo[6],.fz hi[6]]=.ok (.bl (zJ lo hi d))[8]:=by
 delta xy X8
 simp![(qd0 d h)];cases d<;>first|rfl|(done)|skip
 rename_i i;simp![XU,zJ];by_cases c:lo<=i
 .simp![c,decide_true,dO]
 simp![c,decide_false,bQ]
def qd1{i j:Nat}(h:ρ[i]?=!(!(.tup ds)[8]))(h2:ρ[j]?=!(!(.tup es)[8])):uE i j ρ=.ok (zipd ds es):=by unfold uE;rw[h,h2]
def XV(a b c)(l1 h1 l2 h2 l3 h3)(z:Q7 a=true)(B:Q7 b=true)(O:Q7 c=true) :
  yu [.fz (.tup [a,b,c]),.fz (.tup [.tup [.int l1,.int h1],.tup [.int l2,.int h2],.tup [.int l3,.int h3]])]=.ok (.bl (zJ l1 h1 a&&(zJ l2 h2 b&&zJ l3 h3 c)))[8]:=by
 delta yu Xq
 left;rw[show(not (((3:Int))==3))=false from rfl]
 left;rw[qd1 rfl rfl];simp![zipd];rw[vd rfl];simp![Q8 a l1 h1 z];cases zJ l1 h1 a
 .rfl
 simp![y6];rw[vd rfl];simp![Q8 b l2 h2 B];cases zJ l2 h2 b
 .rfl
 simp![y6];rw[vd rfl];simp![Q8 c l3 h3 O];cases zJ l3 h3 c
 .rfl
 rfl
def qjb{i:Nat}(h:ρ[i]?=!(!(.br (.lst ds)))):zo i ρ=.ok (numd 0 ds):=by delta zo;rw[h]
def JU{i:Nat}(h:(numd 0 ds)[i]?=!x):∃ d,ds[i]?=!d/\x=.tup [.int i,d]:=by
 let⟨d,e1,e2⟩:=ZS ds 0 i x h;rw[pL]at e2;show#[d,e1,e2]
def qd2(xs:List D)(n:Nat):L3.vX xs none ↑n=xs.take n:=by
 delta L3.vX
 rw[HT.sIx_none,HT.sIx_nat];simp
abbrev Nt:=Int×Int×Int
def ntR(n:Nt):List Int:=[n.1,n.2.1,n.2.2]
def ntD(n:Nt):D:=.tup [.int n.1,.int n.2.1,.int n.2.2]
def qd3(z:List Nt)(q)(h:z.getLast?=!q):okD (ati (z.map ntD) (-1))=.ok (ntD q)[8]:=by
 rw[ZH,mi,h];rfl
def nS(c:Int)(wd:Bool):Int:=if wd then qV c 10007 1001 else qV c 10007 97
def nL(c:Int)(wd:Bool):Int:=1+if wd then qV c 9973 400 else qV c 9973 48
def nP(c:Int)(wd:Bool):Int:=if wd then qV c 9967 128 else 52+qV c 9967 25
def JV(wd:Bool):Int:=if wd then 1000 else 96
def jT(c:Int)(z:List Nt)(wd:Bool):Nt:=match z.getLast? with
 | none=>(nS c wd,nL c wd,nP c wd)
 | some q=>if qV c 9949 4=0 then(q.1,q.2.1,nP c wd)else if qV c 9949 4=1/\q.1+q.2.1<=JV wd then(q.1+q.2.1,nL c wd,if qV c 9941 2=0 then q.2.2 else nP c wd)else(nS c wd,nL c wd,nP c wd)
def qd4(c)(ns)(wd):Q0 [.fz c[6],.br (.lst (ns.map ntD)),.fz (.bl wd)]=.ok (ntD (jT c ns wd))[8]:=by
 have m1:=v9 c 10007 97 "d" "d"
 have m2:=v9 c 9973 48 "d" "d"
 have m3:=v9 c 9967 25 "d" "d"
 have m4:=v9 c 10007 1001 "d" "d"
 have m5:=v9 c 9973 400 "d" "d"
 have m6:=v9 c 9967 128 "d" "d"
 have m7:=v9 c 9949 4 "d" "d"
 have m8:=v9 c 9941 2 "d" "d"
 have B:∀ S L P T,nS c wd=S->nL c wd=L->nP c wd=P->JV wd=T ->
   fin (VB [!c[7],!(.br (.lst (ns.map ntD))),!(.bl wd)[8],!S[7],!L[7],!P[7],!T[7],none])=.ok (ntD (jT c ns wd))[8]:=by
  intro S L P T hS hL hP hT
  delta jT VB
  rw[hS,hL,hP,hT];cases hq:ns.getLast? with
  | none =>
   have hn:ns=[]:=pz.mp hq;subst hn;simp![m7,List.isEmpty_nil,ntD]
  | some q =>
   have hn:(ns.map ntD).isEmpty=false:=by
    cases ns with
    | nil=>simp at hq
    | cons a b=>rfl
   have lq:=qd3 ns q hq;dsimp only;by_cases c0:qV c 9949 4=0
   .have b0:(qV c 9949 4==0)=true:=by simpa using c0
    have b1:(qV c 9949 4==1)=false:=by rw[c0];rfl
    rw[iP c0];simp![hn,m7,b0,b1,Int.reduceNeg,lq,ntD]
   have b0:(qV c 9949 4==0)=false:=by simpa using c0
   rw[iN c0];by_cases c1:qV c 9949 4=1
   .have b1:(qV c 9949 4==1)=true:=by simpa using c1
    by_cases c2:q.1+q.2.1<=T
    .have b2:decide (q.1+q.2.1<=T)=true:=by simpa using c2
     rw[iP #[c1,c2]];by_cases c3:qV c 9941 2=0
     .have b3:(qV c 9941 2==0)=true:=by simpa using c3
      rw[iP c3];simp![hn,m7,m8,b0,b1,b2,b3,Int.reduceNeg,lq,ntD]
     have b3:(qV c 9941 2==0)=false:=by simpa using c3
     rw[iN c3];simp![hn,m7,m8,b0,b1,b2,b3,Int.reduceNeg,lq,ntD]
    have b2:decide (q.1+q.2.1<=T)=false:=by simpa using c2
    rw[iN λz=>c2 z.2]
    simp![hn,m7,b0,b1,b2,Int.reduceNeg,lq,ntD]
   have b1:(qV c 9949 4==1)=false:=by simpa using c1
   rw[iN λz=>c1 z.1]
   simp![hn,m7,b0,b1,ntD]
 delta Q0 Xl
 cases wd
 .have:=B (qV c 10007 97) (1+qV c 9973 48) (52+qV c 9967 25) 96 rfl rfl rfl rfl;simp![m1,m2,m3];left;show this
 have:=B (qV c 10007 1001) (1+qV c 9973 400) (qV c 9967 128) 1000 rfl rfl rfl rfl;simp![m1,m2,m3,m4,m5,m6];left;show this
def hits(n o:Nt):Bool:=n.2.2==o.2.2&&(decide (n.1<o.1+o.2.1)&&decide (o.1<n.1+n.2.1))
def xL(n:Nt)(z:List Nt):Bool:=z.all λo=>not (hits n o)
def qd5(n)(ns):Jv [.fz (ntD n),.br (.lst (ns.map ntD))]=.ok (.bl (xL n ns))[8]:=by
 have go:∀ os j2,fin ((qH (gV 2) (sIf (L3.zV (tE (eOp dEq (eOp qe (q9 0) 2[5]) (eOp qe (q9 2) 2[5]))) (L3.zV (tE (eOp dLt (eOp qe (q9 0) 0[5]) (eOp qD (eOp qe (q9 2) 0[5]) (eOp qe (q9 2) 1[5])))) (tE (eOp dLt (eOp qe (q9 2) 0[5]) (eOp qD (eOp qe (q9 0) 0[5]) (eOp qe (q9 0) 1[5])))))) (qt (eC (.bl false))) qw) (os.map ntD)
   [!(ntD n)[8],!(.br (.lst (ns.map ntD))),j2]).th (qt (eC (.bl true))))=.ok (.bl (xL n os))[8]:=by
  intro os
  induction os with
  | nil=>intro j2;rfl
  | cons o os ih =>
   intro j2;unfold qH;simp![ntD];have e:xL n (o::os)=(not (hits n o)&&xL n os):=rfl;rw[e]
   delta hits
   cases h1:(n.2.2==o.2.2)
   .simp![dO];show ih _
   cases h2:decide (n.1<o.1+o.2.1)
   .simp![h2];show ih _
   cases h3:decide (o.1<n.1+n.2.1)
   .simp![h2,h3];show ih _
   simp![dO,bQ,h2,h3]
 show go ns none
def meet(n o:Nt):Bool:=decide (o.1<n.1+n.2.1)&&decide (n.1<o.1+o.2.1)&&not (o.1==n.1&&o.2.1==n.2.1)
def JW(o:Nt):List (Sum Int Str):=[.inl o.1,.inl o.2.1]
def seen(n:Nt):List Nt->List (List (Sum Int Str)×D)->List (List (Sum Int Str)×D)
 | [],acc=>acc
 | o::os,acc=>seen n os (if meet n o then jk (JW o) (.bl true) acc else acc)
def qd6 [DecidableEq κ](k)(d)(kvs:List (κ×D)):(jk k d kvs)[1]<=kvs[1]+1:=by
 delta jk
 split
 .simp
 simp
def xM(n:Nt)(z:List Nt):Nat:=(seen n z [])[1]
def qd7(n)(ns)(B:ns[1]<=100):Jw [.fz (ntD n),.br (.lst (ns.map ntD))]=.ok (xM n ns)[7]:=by
 have hz:sz=16777216:=rfl;have go:∀ os z j3,z[1]+os[1]<=100->fin ((qH (gV 3) (sIf (L3.zV (tE (eOp dLt (eOp qe (q9 3) 0[5]) (eOp qD (eOp qe (q9 0) 0[5]) (eOp qe (q9 0) 1[5])))) (tE (eOp dLt (eOp qe (q9 0) 0[5]) (eOp qD (eOp qe (q9 3) 0[5]) (eOp qe (q9 3) 1[5]))))) (sIf (tE (eOp dNe (jG [(eOp qe (q9 3) 0[5]),(eOp qe (q9 3) 1[5])]) (jG [(eOp qe (q9 0) 0[5]),(eOp qe (q9 0) 1[5])]))) (x4 2 [(eOp qe (q9 3) 0[5]),(eOp qe (q9 3) 1[5])] (eC (.bl true))) qw) qw) (os.map ntD)
   [!(ntD n)[8],!(.br (.lst (ns.map ntD))),!(.dT z)[9],j3]).th (qt (eB jw [(q9 2)])))=.ok (.int (seen n os z)[1])[8]:=by
  intro os
  induction os with
  | nil=>intro z j3 _;rfl
  | cons o os ih =>
   intro z j3 hb;rw[gJ]at hb;unfold qH seen;simp![ntD]
   delta meet
   have keep:=ih z (!(ntD o)[8]) ""
   cases h1:decide (o.1<n.1+n.2.1)
   .assumption
   cases h2:decide (n.1<o.1+o.2.1)
   .simp![h2];show keep
   cases h3:(not (o.1==n.1&&o.2.1==n.2.1))
   .simp![dO,Bool.and_true,f9,cG,h2,h3];show keep
   simp![dO,Bool.and_true,dq,h2,h3];rw[qaV (kvs:=z) (d:=.bl true) (ws:=[.fz (.int o.1),.fz (.int o.2.1)]) (key:=JW o) rfl rfl (by left) rfl "" (by show 2<=sz;lia)]
   have:=qd6 (JW o) (.bl true) z;show ih _ _ ""
 show go ns [] none B[""]
def kc(wd:Bool)(z:List Nt)(c:Int):List Nt:=if xL (jT c z wd) z&&decide (xM (jT c z wd) z<=7)then z++[jT c z wd]else z
def kf(wd:Bool):List Int->List Nt->List Nt
 | [],ns=>ns
 | c::cs,ns=>kf wd cs (kc wd ns c)
def Q9(z:List Int):Nat:=if qV (cell z 0+7*(z[1]:Int)) 9871 8=3 then 24 else 12
def xN(z:List Int)(wd:Bool):List Nt:=kf wd ((z.drop 6).take (Q9 z)) []
def qd8(wd)(ns)(c):(kc wd ns c)[1]<=ns[1]+1:=by
 delta kc
 split
 .simp
 simp
def qd9(ns)(z:ns[1]<=63):Jz [.fz (.lst (ns.map D.int))]=.ok (.bl (qV (cell ns 0+7*(ns[1])) 9871 8==3))[8]:=by
 have c0:=xI ns 0;rw[show((0:Nat):Int)=0 from rfl]at c0
 delta Jz Xk
 simp![c0,g6,kY (i:=7) "d" "d",(v9 (cell ns 0+7*(ns[1])) 9871 8 "d" "d")]
def qda(ns)(Y:ns[1]<=63)(wd):JI [.fz (.lst (ns.map D.int)),.fz (.bl wd)]=.ok (.lst ((xN ns wd).map ntD))[9]:=by
 have hz:sz=16777216:=rfl;have lg:=qd9 ns Y;have O:decide (63<(ns[1]:Int))=false:=by simp;lia
 have go:∀ cs z B j4 j5,z[1]+cs[1]<=24 ->
   fin ((qH (gV 4) (qg (qk 5 (qi Q0 [(q9 4),(q9 3),(q9 1)])) (sIf (L3.zV (tE (qi Jv [(q9 5),(q9 3)])) (tE (eOp dLe (qi Jw [(q9 5),(q9 3)]) 7[5]))) (qC 3 (q9 5)) qw)) (cs.map D.int)
    [!(.lst (ns.map D.int))[8],!(.bl wd)[8],!B[7],!(.lst (z.map ntD))[9],j4,j5]).th (jA 3))=.ok (.lst ((kf wd cs z).map ntD))[9]:=by
  intro cs
  induction cs with
  | nil=>intro z B j4 j5 _;rfl
  | cons c cs ih =>
   intro z B j4 j5 hb;rw[gJ]at hb;unfold qH kf;have ne:=qd4 c z wd;have ae:=qd5 (jT c z wd) z;have me:=qd7 (jT c z wd) z ""
   simp![ne,ae]
   delta kc
   cases h1:xL (jT c z wd) z
   .simp![bQ,f9,cG];show ih z B _ _ ""
   simp![me,dO];have e7:decide (((xM (jT c z wd) z):Int)<=7)=decide (xM (jT c z wd) z<=7):=by
    lia
   rw[e7];cases h2:decide (xM (jT c z wd) z<=7)
   .simp![f9,cG];show ih z B _ _ ""
   left;rw[jR (xs:=z.map ntD) (d:=ntD (jT c z wd)) rfl (by rw[g6];lia) (by left)]
   have:=ih (z++[jT c z wd]) B (!c[7]) (!(ntD (jT c z wd))[8]) (by rw[gD];simp;lia)
   rw[hX]at this;show this
 have U:∀ m:Nat,m<=24->vX (ns.map D.int) ↑6 (!(6+m))=((ns.drop 6).take m).map D.int:=λm hm=>by
  have:=qaW (ns.map D.int) 6 m;rw[show(((6:Nat):Int))=6 from rfl]at this
  rw[this,<- List.map_drop,<- List.map_take]
 delta JI XA xN Q9
 simp![lg];have len:∀ m,m<=24->([]:List Nt)[1]+((ns.drop 6).take m)[1]<=24:=λm hm=>by simp;omega
 by_cases c:qV (cell ns 0+7*(ns[1])) 9871 8=3
 .have b:(qV (cell ns 0+7*(ns[1])) 9871 8==3)=true:=by simpa using c
  rw[iP c];simp![b,g6,O];rw[vk (w:=.ow (.lst (vX (ns.map D.int) ↑6 (!(6+(24:Nat)))))) (by left) rfl,U 24 "d"]
  left;show go _ [] 24 none none (len 24 "d")
 have b:(qV (cell ns 0+7*(ns[1])) 9871 8==3)=false:=by simpa using c
 rw[iN c];simp![b,g6,O];rw[vk (w:=.ow (.lst (vX (ns.map D.int) ↑6 (!(6+(12:Nat)))))) (by left) rfl,U 12 "d"]
 left;show go _ [] 12 none none (len 12 "d")
def qdb(ns):JA [.fz (.lst (ns.map D.int))]=.ok (.bl (cell ns 0%4==3))[8]:=by
 have c0:=xI ns 0;rw[show((0:Nat):Int)=0 from rfl]at c0
 delta JA Xm
 simp![c0,yJ (j:=4) "d"]
structure NotesOk(ns:List Nt):Prop where
 b:∀ n∈ns,0<=n.1/\n.1<=1000/\1<=n.2.1/\n.2.1<=400/\0<=n.2.2/\n.2.2<=127
 ap:ns.Pairwise λo n=>hits n o=false
 mt:∀ pre n post,ns=pre++n::post->xM n pre<=7
def qdc(c)(ns)(wd)(h:∀ n∈ns,0<=n.1/\n.1<=1000/\1<=n.2.1/\n.2.1<=400/\0<=n.2.2/\n.2.2<=127) :
  0<=(jT c ns wd).1/\(jT c ns wd).1<=1000/\1<=(jT c ns wd).2.1/\(jT c ns wd).2.1<=400/\0<=(jT c ns wd).2.2/\(jT c ns wd).2.2<=127:=by
 have m1:=vc c 10007 97 "d"
 have m2:=vc c 9973 48 "d"
 have m3:=vc c 9967 25 "d"
 have m4:=vc c 10007 1001 "d"
 have m5:=vc c 9973 400 "d"
 have m6:=vc c 9967 128 "d"
 have hs:0<=nS c wd/\nS c wd<=1000:=by delta nS;split<;>lia
 have hl:1<=nL c wd/\nL c wd<=400:=by delta nL;split<;>lia
 have hp:0<=nP c wd/\nP c wd<=127:=by delta nP;split<;>lia
 delta jT
 cases hq:ns.getLast? with
 | none=>dsimp only;lia
 | some q =>
  have hb:=h q (de hq);have ht:JV wd<=1000:=by delta JV;split<;>lia
  dsimp only;split
  .simp_all
  split
  .lia
  dsimp only;lia
def qdd(h:NotesOk ns):NotesOk (kc wd ns c):=by
 delta kc
 split
 .rename_i k;rw[hE]at k;show#[λn hn=>?_,?_,λpre n post e=>?_]
  .rcases gE.mp hn with hn|hn
   .show h.b n hn
   simp at hn;subst hn;show(qdc c ns wd h.b)
  .rw[gW];show#[h.ap,p9 _ _,λo ho n hn=>?_]
   simp at hn;subst hn;have:=pD.mp k.1 o ho;simpa using this
  rcases List.eq_nil_or_concat post with rfl|⟨post',x,rfl⟩
  .have:=List.append_inj_right' e rfl
   simp_all
  have e':ns++[jT c ns wd]=(pre++n::post')++[x]:=by rw[e];simp
  show h.mt pre n post' (List.append_inj_left' e' rfl)
 show h
def qde(wd:Bool):∀(cs:List Int) (ns:List Nt),NotesOk ns->NotesOk (kf wd cs ns):=λcs=>cs.rec
 (λns h=>h)
 λc cs IH ns h=>IH _ (qdd h)
def qdf(wd:Bool):∀(cs:List Int) (ns:List Nt),(kf wd cs ns)[1]<=ns[1]+cs[1]:=λcs=>cs.rec
 (λns=>gC _)
 λc cs IH ns=>by
  have h1:=IH (kc wd ns c);have h2:=qd8 wd ns c;simp only[kf,gJ];lia
def qdg(ns)(wd):NotesOk (xN ns wd) :=
 qde wd _ [] #[λn hn=>by simp at hn,.nil,λpre n post e=>by simp at e]
def qdh(ns)(wd):(xN ns wd)[1]<=24:=by
 have h:=qdf wd ((ns.drop 6).take (Q9 ns)) [];have:Q9 ns<=24:=by delta Q9;split<;>decide
 delta xN
 simp at h ⊢;lia
def XW(h:ntR a=ntR b):a=b:=by
 let⟨a1,a2,a3⟩:=a;simp[ntR]at h;simp[h]
def NotesOk.nodup(h:NotesOk ns):(ns.map ntR).Nodup:=by
 show List.Pairwise _ _;rw[fy];show dC (λ{o n} ho hn q z=>?_) h.ap
 have e:=XW z;subst e;have hb:=h.b o ho
 delta hits at q
 simp at q
 omega
def ofR:List Int->Nt
 | [a,b,c]=>(a,b,c)
 | _=>(0,0,0)
def qQ(z:List Nt):List Nt:=(jo (z.map ntR)).map ofR
def Qa(ns):(qQ ns).map ntR=jo (ns.map ntR):=by
 delta qQ
 rw[gZ];have:∀ r∈jo (ns.map ntR),(ntR∘ofR) r=r:=λr hr=>by
  let⟨n,_,rfl⟩:=gK.mp ((yj _).mem_iff.mp hr);rfl
 rw[tf this];simp
def wE(ns):(qQ ns).Perm ns:=by
 have h:=(yj (ns.map ntR)).map ofR;rw[gZ]at h;have:(ofR∘ntR)=(λn=>n):=by funext n;rfl
 rw[this]at h;simpa[qQ]using h
def leN(a b:Nt):Prop:=a.1<b.1\/a.1=b.1/\(a.2.1<b.2.1\/a.2.1=b.2.1/\a.2.2<=b.2.2)
def lex3(h:HT.lexLt (ntR b) (ntR a)=false):leN a b:=by
 delta ntR at h
 rw[HT.lexLt_cons]at h
 delta leN
 by_cases e1:b.1=a.1
 .rw[iP e1,HT.lexLt_cons]at h;by_cases e2:b.2.1=a.2.1
  .rw[iP e2,HT.lexLt_cons]at h;lia
  rw[iN e2]at h;simp at h;lia
 rw[iN e1]at h;simp at h;lia
def VI(ns):(qQ ns).Pairwise leN:=by
 have h:=QV (ns.map ntR);rw[<- Qa,fy]at h;show h.imp lex3
abbrev Ch:=Int×Int×List Int
def chD(c:Ch):D:=.tup [.int c.1,.int c.2.1,.tup (c.2.2.map D.int)]
def grp(z:List Ch)(n:Nt):List Ch:=match z.getLast? with
 | some c=>if c.1=n.1/\c.2.1=n.2.1 then z.dropLast++[(n.1,n.2.1,c.2.2++[n.2.2])]else z++[(n.1,n.2.1,[n.2.2])]
 | none=>z++[(n.1,n.2.1,[n.2.2])]
def rowOf(z:List Nt):List Ch:=(qQ z).foldl grp []
def ltC(a b:Ch):Prop:=a.1<b.1\/a.1=b.1/\a.2.1<b.2.1
structure RowOk(ns:List Nt)(row:List Ch):Prop where
 up:row.Pairwise ltC
 ne:∀ c∈row,c.2.2≠[]
 ri:∀ c∈row,c.2.2.Pairwise (· < ·)
 of:∀ c∈row,∀ p∈c.2.2,(c.1,c.2.1,p)∈ns
 all:∀ n∈ns,∃ c∈row,c.1=n.1/\c.2.1=n.2.1/\n.2.2∈c.2.2
def XX{n:Nt}(nd:n∉done)(R:RowOk done acc)(Z:∀ m∈done,leN m n)(O:∀ c,acc.getLast?=!c->∃ m∈done,c.1=m.1/\c.2.1=m.2.1):RowOk (done++[n]) (grp acc n) /\
  ∃ c,(grp acc n).getLast?=!c/\c.1=n.1/\c.2.1=n.2.1:=by
 have U:(∀ c∈acc,ltC c (n.1,n.2.1,[n.2.2]))->RowOk (done++[n]) (acc++[(n.1,n.2.1,[n.2.2])]):=λY=>by
  show#[?_,λc hc=>?_,λc hc=>?_,λc hc p hp=>?_,λm hm=>?_]
  .rw[gW];show#[R.up,p9 _ _,λa ha b hb=>by simp at hb;subst hb;show Y a ha]
  .rcases gE.mp hc with hc|hc
   .show R.ne c hc
   simp_all
  .rcases gE.mp hc with hc|hc
   .show R.ri c hc
   simp_all
  .rcases gE.mp hc with hc|hc
   .show tq _ (R.of c hc p hp)
   simp at hc;subst hc;simp at hp;subst hp;simp
  rcases gE.mp hm with hm|hm
  .let⟨c,hc,q⟩:=R.all m hm;show#[c,tq _ hc,q]
  simp at hm;subst hm;show#[_,tw _ (tR.mpr rfl),rfl,rfl,by simp]
 delta grp
 cases hg:acc.getLast? with
 | none =>
  have hn:=pz.mp hg;subst hn;show#[U λc hc=>by simp at hc,(n.1,n.2.1,[n.2.2]),by simp,rfl,rfl]
 | some c0 =>
  dsimp only;obtain⟨B,rfl⟩:∃ B,acc=B++[c0]:=by
   let⟨h,e⟩:=List.getLast?_eq_some_iff.mp hg;show#[h,e]
  have z:=R.up;rw[gW]at z;by_cases c:c0.1=n.1/\c0.2.1=n.2.1
  .rw[iP c];simp only[List.dropLast_concat];show#[#[?_,λx hx=>?_,λx hx=>?_,λx hx p hp=>?_,λm hm=>?_],(n.1,n.2.1,c0.2.2++[n.2.2]),by simp,rfl,rfl]
   .rw[gW];show#[z.1,p9 _ _,λa ha b hb=>?_]
    simp at hb;subst hb;have:=z.2.2 a ha c0 "s"
    unfold ltC at this ⊢;dsimp only;lia
   .rcases gE.mp hx with hx|hx
    .show R.ne x (tq _ hx)
    simp at hx;subst hx;simp
   .rcases gE.mp hx with hx|hx
    .show R.ri x (tq _ hx)
    simp at hx;subst hx;dsimp only;rw[gW];show#[R.ri c0 "s",p9 _ _,λa ha b hb=>?_]
    simp at hb;subst hb;have hm:=R.of c0 "s" a ha
    have le:=Z _ hm;unfold leN at le;dsimp only at le;by_cases e:a=n.2.2
    .exfalso;apply nd;have:n=(c0.1,c0.2.1,a):=by rw[c.1,c.2,e]
     rw[this];show hm
    lia
   .rcases gE.mp hx with hx|hx
    .show tq _ (R.of x (tq _ hx) p hp)
    simp at hx;subst hx;dsimp only at hp ⊢;rcases gE.mp hp with hp|hp
    .have:=R.of c0 "s" p hp
     rw[c.1,c.2]at this;show tq _ this
    simp at hp;subst hp;simp
   rcases gE.mp hm with hm|hm
   .let⟨x,hx,q1,q2,q3⟩:=R.all m hm;rcases gE.mp hx with hx|hx
    .show#[x,tq _ hx,q1,q2,q3]
    simp at hx;subst hx;show#[_,tw _ (tR.mpr rfl),by dsimp only;lia,by dsimp only;lia,by simp[q3]]
   simp at hm;subst hm;show#[_,tw _ (tR.mpr rfl),rfl,rfl,by simp]
  rw[iN c];show#[U λa ha=>?_,(n.1,n.2.1,[n.2.2]),by simp,rfl,rfl]
  have l0:ltC c0 (n.1,n.2.1,[n.2.2]):=by
   let⟨m,hm,e1,e2⟩:=O c0 hg;have le:=Z m hm;unfold leN at le
   delta ltC
   dsimp only;lia
  rcases gE.mp ha with ha|ha
  .have:=z.2.2 a ha c0 "s"
   unfold ltC at this l0 ⊢;dsimp only at *;lia
  simp at ha;subst ha;show l0
def XY:∀(rest done:List Nt) (B:List Ch),(done++rest).Nodup->(done++rest).Pairwise leN->RowOk done B->(∀ c,B.getLast?=!c->∃ m∈done,c.1=m.1/\c.2.1=m.2.1)->RowOk (done++rest) (rest.foldl grp B):=λrest=>rest.rec
 (λdone B _ _ R _=>by simpa using R)
 λn rest IH done B nd pw R O=>by
  have e:done++n::rest=(done++[n])++rest:=by simp
  have n1:n∉done:=λz=>(fN.mp nd).2.2 n z n "s" rfl
  have le:∀ m∈done,leN m n:=λm hm=>(gW.mp pw).2.2 m hm n "s"
  let⟨R2,c,hc,c1,c2⟩:=XX n1 R le O;rw[cB,e];show IH (done++[n]) _ (by rw[<- e];show nd) (by rw[<- e];show pw) R2 λx hx=>?_
  rw[hc]at hx;cases hx;show#[n,by simp,c1,c2]
def XZ(h:NotesOk ns):RowOk ns (rowOf ns):=by
 have nd:(qQ ns).Nodup:=by
  have:=h.nodup;show(wE ns).nodup_iff.mpr ((fy.mp this).imp λ{a b} q e=>q (by rw[e]))
 have R:=XY (qQ ns) [] [] nd[""] (by simpa using VI ns) #[.nil,λc hc=>by simp at hc,λc hc=>by simp at hc,λc hc=>by simp at hc,λn hn=>by simp at hn] (λc hc=>by simp at hc)
 have m:∀ n,n∈qQ ns↔n∈ns:=λn=>(wE ns).mem_iff
 show#[R.up,R.ne,R.ri,λc hc p hp=>(m _).mp (R.of c hc p hp),λn hn=>R.all n ((m n).mpr hn)]
def U0(h:NotesOk ns)(R:RowOk ns row):∀ c∈row,0<=c.1/\c.1<=1000/\1<=c.2.1/\c.2.1<=400:=λc hc=>by
 cases e:c.2.2 with
 | nil=>show absurd e (R.ne c hc)
 | cons p r =>
  have:=h.b _ (R.of c hc p (by rw[e];simp))
  simp_all
def U3(acc)(n):(grp acc n)[1]<=acc[1]+1:=by
 delta grp
 split
 .split
  .simp
  simp
 simp
def qdi:∀(ns:List Nt) (z:List Ch),(ns.foldl grp z)[1]<=z[1]+ns[1]:=λns=>ns.rec
 (λz=>gC _)
 λn ns IH z=>by
  have h1:=IH (grp z n);have h2:=U3 z n;simp only[cB,gJ];lia
def VJ(ns):(rowOf ns)[1]<=ns[1]:=by
 have h:=qdi (qQ ns) [];rw[(wE ns).length_eq]at h;simpa[rowOf]using h
def qdj{e:EF}{ρ:Rho}(h:e ρ=.ok (.dT [])[9])(z:vQ i ρ=true):yM i e ρ=.nx (ρ.set i (!(.od (.dT [])))):=by
 delta yM
 rw[h];show yL i ρ (.dT [])[9]=_
 delta yL
 simp_all
def qdk{i:Nat}{z e:EF}{ρ:Rho}{ws:List En}{key:List (Sum Int Str)}{kds:List (List (Sum Int Str)×D)}(h:ρ[i]?=!(!(.od (.dT kds))))(h1:evs ks ρ=.ok ws)(h2:jP (ws.map En.d)=!key)(B:z ρ=.ok (.lst [])[9])
  (O:kds[1]<sz/\key[1]<=sz/\(kds.all λkv=>xh kv.2)=true)(U:e (ρ.set i none)=.ok d[8]):sSd i ks z e ρ=.nx (ρ.set i (!(.od (.dT (v6 key d kds))))):=by
 delta sSd
 rw[h,h1];show Ke i z e ρ kds (jP (ws.map En.d))=_;rw[h2];show sOf (z ρ) (xi i e ρ kds key)=_;rw[B];show(if kds[1]<sz/\key[1]<=sz/\(kds.all λkv=>xh kv.2)=true then sOf (e (ρ.set i none)) (Kc i ρ kds key)else .stuck)=_
 rw[iP O,U];rfl
def zj(a b:Int):List (Sum Int Str):=[.inl a,.inl b]
def zr(z:List Ch):List (List (Sum Int Str)×D):=z.map λc=>(zj c.1 c.2.1,D.lst (c.2.2.map D.int))
def U4(h:zj a b=zj c d):a=c/\b=d:=by simpa[zj]using h
def qdl(c){rest:List Ch}(h:rest≠[])(n):grp (c::rest) n=c::grp rest n:=by
 obtain⟨r,rs,rfl⟩:∃ r rs,rest=r::rs:=by
  cases rest with
  | nil=>show absurd rfl h
  | cons r rs=>show#[r,rs,rfl]
 have e:(c::r::rs).getLast?=(r::rs).getLast?:=by simp[List.getLast?_cons_cons]
 delta grp
 rw[e];cases h2:(r::rs).getLast? with
 | none=>simp at h2
 | some l =>
  dsimp only;split<;>simp
def qdm(n:Nt):∀(B:List Ch),B.Pairwise ltC->(∀ c∈B,c.1<n.1\/c.1=n.1/\c.2.1<=n.2.1)->v6 (zj n.1 n.2.1) (.int n.2.2) (zr B)=zr (grp B n):=λrest=>rest.rec
 (λ_ _=>rfl)
 λc rest IH up le=>by
  let⟨u1,u2⟩:=fF.mp up;show(if zj c.1 c.2.1=zj n.1 n.2.1 then(zj c.1 c.2.1,J7 (D.lst (c.2.2.map D.int)) (.int n.2.2))::zr rest else(zj c.1 c.2.1,D.lst (c.2.2.map D.int))::v6 (zj n.1 n.2.1) (.int n.2.2) (zr rest))=_
  by_cases k:zj c.1 c.2.1=zj n.1 n.2.1
  .let⟨k1,k2⟩:=U4 k;have re:rest=[]:=by
    cases rest with
    | nil=>rfl
    | cons r rs =>
     have a1:=u1 r "s"
     have a2:=le r "s"
     unfold ltC at a1;lia
   subst re;have eg:grp [c] n=[(n.1,n.2.1,c.2.2++[n.2.2])]:=by simp[grp,k1,k2]
   rw[eg];simp[zr,J7,k1,k2]
  rw[iN k,IH u2 λx hx=>le x (gj _ hx)]
  by_cases re:rest=[]
  .subst re;have ne:¬ (c.1=n.1/\c.2.1=n.2.1):=λz=>k (by rw[z.1,z.2])
   have eg:grp [c] n=[c,(n.1,n.2.1,[n.2.2])]:=by simp[grp,ne]
   rw[eg];rfl
  rw[qdl c re];rfl
def U5{c:Ch}:∀{B:List Ch},B.Pairwise ltC->c∈B->look (zj c.1 c.2.1) (zr B)=!(.lst (c.2.2.map D.int)):=λ{B}=>B.rec
 (@λ_ h=>by simp at h)
 λx B IH=>@λup h=>by
  let⟨u1,u2⟩:=fF.mp up;show(if zj x.1 x.2.1=zj c.1 c.2.1 then !(D.lst (x.2.2.map D.int))else look (zj c.1 c.2.1) (zr B))=_
  rcases gw.mp h with rfl|h
  .simp
  have:=u1 c h;unfold ltC at this;rw[iN λz=>by have:=U4 z;lia,IH u2 h]
def jy(z:List Ch):Nat:=(z.map λc=>c.2.2.length).sum
def qdn(acc)(n):jy (grp acc n)=jy acc+1:=by
 delta grp
 cases h:acc.getLast? with
 | none =>
  have:=pz.mp h;subst this;rfl
 | some c =>
  dsimp only;obtain⟨i,rfl⟩:∃ i,acc=i++[c]:=List.getLast?_eq_some_iff.mp h |>.imp λ_ e=>e
  split
  .simp[jy];lia
  simp[jy];lia
def qdo:∀(ns:List Nt) (z:List Ch),jy (ns.foldl grp z)=jy z+ns[1]:=λns=>ns.rec
 (λz=>rfl)
 λn ns IH z=>by
  rw[cB,IH,qdn,gJ];lia
def U6(ns):jy (rowOf ns)=ns[1]:=by
 delta rowOf
 rw[qdo,(wE ns).length_eq];show 0+_=_;lia
def JX(kds:List (List (Sum Int Str)×D)):D->D
 | .tup [.int a,.int b]=>.tup [.int a,.int b,(match look (zj a b) kds with|some (.lst xs)=>.tup xs|_=>.non)]
 | _=>.non
def VL(h1:rs.Nodup)(h2:rs[1]<=5000)(z:[]∉rs):wt [.lst (rs.map qP)]=.ok (.lst ((jo rs).map qP))[9]:=by
 delta wt
 dsimp only;rw[qaX]
 simp_all
def qdp(h:(ns.map ntR).Nodup):RowOk ns (rowOf ns):=by
 have nd:(qQ ns).Nodup:=by
  have:=h;show(wE ns).nodup_iff.mpr ((fy.mp this).imp λ{a b} q e=>q (by rw[e]))
 have R:=XY (qQ ns) [] [] nd[""] (by simpa using VI ns) #[.nil,λc hc=>by simp at hc,λc hc=>by simp at hc,λc hc=>by simp at hc,λn hn=>by simp at hn] (λc hc=>by simp at hc)
 have m:∀ n,n∈qQ ns↔n∈ns:=λn=>(wE ns).mem_iff
 show#[R.up,R.ne,R.ri,λc hc p hp=>(m _).mp (R.of c hc p hp),λn hn=>R.all n ((m n).mpr hn)]
def qdq(ns)(N:(ns.map ntR).Nodup)(nl:ns[1]<=24):yp [.br (.lst (ns.map ntD))]=.ok (.lst ((rowOf ns).map chD))[9]:=by
 have hz:sz=16777216:=rfl;have e1:ns.map ntD=(ns.map ntR).map qP:=by rw[gZ];rfl
 have srt:=VL (rs:=ns.map ntR) N (by rw[g6];lia) (λz=>by let⟨n,_,e⟩:=gK.mp z;cases e)
 have U:wt [.lst (ns.map ntD)]=.ok (.lst ((qQ ns).map ntD))[9]:=by
  rw[e1,srt,<- Qa,gZ];rfl
 have R:=qdp N;have Y:∀ j2,fin (uF 1 (qt (qF 1 (iT 1) (gV 3) qI (jG [(eOp qe (q9 3) 0[5]),(eOp qe (q9 3) 1[5]),(eB yA [(eOp ym (q9 1) (q9 3))])]))) [!(.br (.lst (ns.map ntD))),!(.od (.dT (zr (rowOf ns)))),j2])=.ok (.lst ((rowOf ns).map chD))[9]:=λj2=>by
  show fin (qt _ [!(.br (.lst (ns.map ntD))),!(.lk (.dT (zr (rowOf ns)))),j2])=_;have cm:qF 1 (iT 1) (gV 3) qI (jG [(eOp qe (q9 3) 0[5]),(eOp qe (q9 3) 1[5]),(eB yA [(eOp ym (q9 1) (q9 3))])]) [!(.br (.lst (ns.map ntD))),!(.lk (.dT (zr (rowOf ns)))),j2]=.ok (.lst ((rowOf ns).map chD))[9]:=by
   have ek:(zr (rowOf ns)).map (λkv=>Kh kv.1)=(rowOf ns).map λc=>D.tup [.int c.1,.int c.2.1]:=by
    delta zr
    rw[gZ];rfl
   have eo:(rowOf ns).map chD=((rowOf ns).map λc=>D.tup [.int c.1,.int c.2.1]).map (JX (zr (rowOf ns))):=by
    rw[gZ];show tf λc hc=>?_
    show chD c=JX (zr (rowOf ns)) (.tup [.int c.1,.int c.2.1])
    delta JX
    dsimp only;rw[U5 R.up hc];rfl
   have rl:=VJ ns;rw[eo];show kO (ds:=(rowOf ns).map λc=>D.tup [.int c.1,.int c.2.1]) (by rw[<- ek];rfl) (by rw[g6,hz];lia) (kN 3 _ _ _ λd hd=>?_)
   let⟨c,hc,rfl⟩:=gK.mp hd;have lk:=U5 R.up hc;have ix:ym (.dT (zr (rowOf ns))) (.tup [.int c.1,.int c.2.1])=.ok (.lst (c.2.2.map D.int))[8]:=by
    show okD (look (zj c.1 c.2.1) (zr (rowOf ns)))=_;rw[lk];rfl
   show#[.fz (.tup [.int c.1,.int c.2.1,.tup (c.2.2.map D.int)]),by simp![jh,ro,ix],?_]
   show(L3.R.ok (D.tup [.int c.1,.int c.2.1,.tup (c.2.2.map D.int)]))=_
   delta JX
   dsimp only;rw[lk]
  simp![cm]
 delta yp KS
 simp[uv,gP,pW,gJ,fS,reduceAdd,Nat.reduceSub,pO,List.replicate_zero,List.cons_append,p7,jv];rw[qdj (by left) rfl]
 left;rw[vk (w:=.ow (.lst ((qQ ns).map ntD))) (by simp![U]) rfl]
 left;have go:∀ rest done B k j2,(done++rest).Nodup->(done++rest).Pairwise leN->RowOk done B->(∀ c,B.getLast?=!c->∃ m∈done,c.1=m.1/\c.2.1=m.2.1)->B[1]+rest[1]<=100/\k+rest[1]<=100->(∀ c∈B,c.2.2.length<=k)->rest.foldl grp B=rowOf ns ->
   fin ((qH (gV 2) (sSd 1 [(eOp qe (q9 2) 0[5]),(eOp qe (q9 2) 1[5])] (qJ []) (eOp qe (q9 2) 2[5])) (rest.map ntD) [!(.br (.lst (ns.map ntD))),!(.od (.dT (zr B))),j2]).th
    (uF 1 (qt (qF 1 (iT 1) (gV 3) qI (jG [(eOp qe (q9 3) 0[5]),(eOp qe (q9 3) 1[5]),(eB yA [(eOp ym (q9 1) (q9 3))])])))))=.ok (.lst ((rowOf ns).map chD))[9]:=by
  intro rest
  induction rest with
  | nil =>
   intro done B k j2 _ _ _ _ _ _ e;have e:B=rowOf ns:=e;subst e;rw[pW,JT];show Y j2
  | cons n rest ih =>
   intro done B k j2 nd pw Rk O hb hk e;rw[gJ]at hb;have eq:done++n::rest=(done++[n])++rest:=by simp
   have n1:n∉done:=λz=>(fN.mp nd).2.2 n z n "s" rfl
   have le:∀ m∈done,leN m n:=λm hm=>(gW.mp pw).2.2 m hm n "s"
   let⟨R2,c,hc,c1,c2⟩:=XX n1 Rk le O;have leC:∀ c∈B,c.1<n.1\/c.1=n.1/\c.2.1<=n.2.1:=λc hc=>by
    cases ep:c.2.2 with
    | nil=>show absurd ep (Rk.ne c hc)
    | cons p r =>
     have:=le _ (Rk.of c hc p (by rw[ep];simp))
     unfold leN at this;dsimp only at this;lia
   have gl:=U3 B n;have gk:∀ c∈grp B n,c.2.2.length<=k+1:=λc hc=>by
    delta grp at hc
    cases hl:B.getLast? with
    | none =>
     rw[hl]at hc;rcases gE.mp hc with hc|hc
     .have:=hk c hc;lia
     simp at hc;subst hc;simp
    | some l =>
     rw[hl]at hc;dsimp only at hc;split at hc
     .rcases gE.mp hc with hc|hc
      .have:=hk c (List.dropLast_subset _ hc);lia
      simp at hc;subst hc;have:=hk l (de hl);simp;lia
     rcases gE.mp hc with hc|hc
     .have:=hk c hc;lia
     simp at hc;subst hc;simp
   rw[gP,vd rfl];left;rw[qdk (kds:=zr B) (ws:=[.fz (.int n.1),.fz (.int n.2.1)]) (key:=zj n.1 n.2.1) (d:=.int n.2.2) rfl (by simp![ntD]) rfl (by left)
    #[by simp[zr,hz];lia,by simp[zj,hz],pD.mpr λkv Z=>by
     let⟨c,hc,rfl⟩:=gK.mp Z;have:=hk c hc;show decide ((c.2.2.map D.int)[1]<sz)=true;rw[g6,hz];show tJ ""] (by simp![ntD]),qdm n B Rk.up leC]
   simp![y6];show ih (done++[n]) (grp B n) (k+1) _ (by rw[<- eq];show nd) (by rw[<- eq];show pw) R2 (λx hx=>?_) "" gk e
   rw[hc]at hx;cases hx;show#[n,by simp,c1,c2]
 have nd:(qQ ns).Nodup:=(wE ns).nodup_iff.mpr ((fy.mp N).imp λ{a b} q e=>q (by rw[e]))
 show go (qQ ns) [] [] 0 none nd[""] (by simpa using VI ns) #[.nil,λc hc=>by simp at hc,λc hc=>by simp at hc,λc hc=>by simp at hc,λn hn=>by simp at hn] (λc hc=>by simp at hc) (by rw[(wE ns).length_eq];simp;lia) (λc hc=>by simp at hc) rfl
def qdr(h:c∈row):c.2.2.length<=jy row:=by
 let⟨i,hi,rfl⟩:=List.getElem_of_mem h;have e:row=row.take i++row[i]::row.drop (i+1):=by rw[<- fT hi,tU]
 have:jy row=jy (row.take i)+((row[i]).2.2.length+jy (row.drop (i+1))):=by
  conv=>lhs;rw[e]
  simp only[jy,hX,dP,gP,fW]
 lia
def qjc{e:EF}{ρ:Rho}(h:e ρ=.ok (.lst [])[9])(z:vQ i ρ=true):yM i e ρ=.nx (ρ.set i (!(.od (.lst [])))):=by
 delta yM
 rw[h];show yL i ρ (.lst [])[9]=_
 delta yL
 rw[iP z]
def U7{i:Nat}{e:EF}{ρ:Rho}(h:ρ[i]?=!(!(.od d)))(h2:e (ρ.set i (!d[9]))=.ok x[8])(B:scal x=true)(O:∀ k,d≠.dK k:=by intro _ z;cases z)(U:∀ k,d≠.tup k:=by intro _ z;cases z):wp i e ρ=.ok x[8]:=by
 delta wp
 rw[h];cases d<;>first
  | show absurd rfl (O _)
  | show absurd rfl (U _)
  | (dsimp only;rw[h2,R.bind_ok];delta ZW;dsimp only;rw[iP B])
def qds{ρ:Rho}{ds es:List D}(h:ρ[i]?=!(!(.od (.lst ds))))(h2:e ρ=.ok (.lst es)[9])(z:ds[1]<sz):xg i e ρ=.nx (ρ.set i (!(.od (.lst (ds++[.lst es]))))):=by
 delta xg
 rw[h,h2];show J5 i ρ ds (.lst es)[9]=_
 delta J5
 simp_all
def VM{i k:Nat}{z e:EF}{ρ:Rho}{ds xs:List D}(h:ρ[i]?=!(!(.od (.lst ds))))(h1:z ρ=.ok k[7])(h2:e ρ=.ok d[8])(B:ds[k]?=!(.lst xs))(O:xs[1]<sz) :
  wS i z e ρ=.nx (ρ.set i (!(.od (.lst (ds.set k (.lst (xs++[d]))))))):=by
 delta wS
 rw[h,h1,h2];show yN i ρ ds k[7] d[8]=_
 delta yN
 delta J6
 simp_all
def qjd{i:Nat}(h:ρ[i]?=!(!(.od d)))(B:∀ k,d≠.dK k:=by intro _ z;cases z)(O:∀ k,d≠.tup k:=by intro _ z;cases z):yk i (jA i) ρ=.rt d[9]:=by
 have hl:=(gp.mp h).1
 delta yk L3.shut
 rw[h];cases d<;>first
  | show absurd rfl (B _)
  | show absurd rfl (O _)
  | (delta jA;rw[List.getElem?_set_self hl])
def at_(t:Int)(c:Ch):Bool:=decide (c.1<=t)&&decide (t<c.1+c.2.1)
def many(z:List Ch)(t:Int):Nat:=z.countP (at_ t)
abbrev Vs:=List (List Ch)
def vD(v:List Ch):D:=.lst (v.map chD)
def endL(v:List Ch):Int:=match v.getLast? with
 | some c=>c.1+c.2.1
 | none=>0
def qX:Vs->Int->Nat
 | [],_=>0
 | v::vs,t=>if endL v<=t then 0 else qX vs t+1
def ze:Vs->Ch->Vs
 | [],c=>[[c]]
 | v::vs,c=>if endL v<=c.1 then(v++[c])::vs else v::ze vs c
def qdt:∀(vs:Vs) (t:Int),qX vs t<=vs[1]:=λvs=>vs.rec
 (λ_=>gC _)
 λv vs IH t=>by
  unfold qX;have:=IH t;split<;>simp<;>omega
def U8:∀(vs:Vs) (c:Ch),(ze vs c)[1]=if qX vs c.1=vs[1] then vs[1]+1 else vs[1]:=λvs=>vs.rec
 (λc=>rfl)
 λv vs IH c=>by
  have:=IH c;unfold ze qX;split
  .rfl
  simp only[gJ,this];split<;>split<;>lia
def qdu(p:Ch->Bool):∀(vs:Vs) (c:Ch),(ze vs c).flatten.countP p=vs.flatten.countP p+[c].countP p:=λvs=>vs.rec
 (λc=>by simp[ze])
 λv vs IH c=>by
  unfold ze;split
  .simp only[tQ,pX];lia
  simp only[tQ,pX,(IH c)];lia
theorem Qb:∀{vs} {c},x∈ze vs c->x∈vs\/x=[c]\/∃ v∈vs,endL v<=c.1/\x=v++[c]
 | [],c,h=>by simp[ze]at h;show .inr (.inl h)
 | v::vs,c,h=>by
  unfold ze at h;split at h
  .rename_i e;rcases gw.mp h with rfl|h
   .show .inr (.inr #[v,by simp,e,rfl])
   show .inl (gj _ h)
  rcases gw.mp h with rfl|h
  .show .inl "s"
  rcases Qb h with q|q|⟨w,hw,q⟩
  .show .inl (gj _ q)
  .show .inr (.inl q)
  show .inr (.inr #[w,gj _ hw,q])
structure VOk(pre:List Ch)(vs:Vs):Prop where
 ne:∀ v∈vs,v≠[]
 cnt:∀ t,vs.flatten.countP (at_ t)=many pre t
 ap:∀ v∈vs,v.Pairwise λc d=>c.1+c.2.1<=d.1
 old:∀ v∈vs,∀ c∈v,c∈pre
 len:∀ v∈vs,v[1]<=pre[1]
def U9:VOk [] []:=#[λ_ h=>by simp at h,λ_=>rfl,λ_ h=>by simp at h,λ_ h=>by simp at h,λ_ h=>by simp at h]
def VN(h:v≠[]):∃ c∈v,endL v=c.1+c.2.1/\∃ i,v=i++[c]:=by
 obtain⟨i,c,rfl⟩:∃ i c,v=i++[c]:=#[v.dropLast,v.getLast h,(List.dropLast_concat_getLast h).symm];show#[c,by simp,by simp[endL],i,rfl]
def Ua(V:VOk pre vs)(pos:∀ x∈pre,1<=x.2.1):VOk (pre++[c]) (ze vs c):=by
 show#[λv h=>?_,λt=>?_,λv h=>?_,λv h x hx=>?_,λv h=>?_]
 .rcases Qb h with q|rfl|⟨w,_,_,rfl⟩
  .show V.ne v q
  .simp
  simp
 .rw[qdu,V.cnt,many,many,pX]
 .rcases Qb h with q|rfl|⟨w,hw,e,rfl⟩
  .show V.ap v q
  .show p9 _ _
  rw[gW];show#[V.ap w hw,p9 _ _,λx hx y hy=>?_]
  obtain rfl:y=c:=by simpa using hy
  let⟨l,hl,el,i,ei⟩:=VN (V.ne w hw);rw[el]at e;rw[ei]at hx;rcases gE.mp hx with hx|hx
  .have ap:=V.ap w hw;rw[ei]at ap;have:=(gW.mp ap).2.2 x hx l "s"
   have:=pos l (V.old w hw l hl);lia
  simp_all
 .rcases Qb h with q|rfl|⟨w,hw,_,rfl⟩
  .show tq _ (V.old v q x hx)
  .show tw _ hx
  rcases gE.mp hx with hx|hx
  .show tq _ (V.old w hw x hx)
  show tw _ hx
 rcases Qb h with q|rfl|⟨w,hw,_,rfl⟩
 .have:=V.len v q;simp;lia
 .simp
 have:=V.len w hw;simp;omega
theorem Ub:∀{vs} {t},(∀ v∈vs,v≠[])->(∀ v∈vs,∀ x∈v,x.1<=t)->qX vs t<=vs.flatten.countP (at_ t)
 | [],_,_,_=>gC _
 | v::vs,t,ne,le=>by
  unfold qX;split
  .show tP _
  rename_i e;have ih:=Ub (λw hw=>ne w (gj _ hw)) λw hw=>le w (gj _ hw)
  let⟨l,hl,el,_⟩:=VN (ne v "s")
  rw[el]at e;have p:0<v.countP (at_ t):=List.countP_pos_iff.mpr #[l,hl,by have:=le v "s" l hl;simp[at_];lia]
  grind
def run:Vs->List Ch->Option Vs
 | vs,[]=>!vs
 | vs,c::cs=>if qX vs c.1=8 then none else run (ze vs c) cs
def qdv(z:List Ch)(up:z.Pairwise λa b=>a.1<=b.1)(pos:∀ c∈z,1<=c.2.1)(th:∀ t,many z t<=8):∀(cs pre:List Ch) (vs:Vs) (m:Nat),z=pre++cs->VOk pre vs->vs[1]<=m->(∀ c∈z,many z c.1<=m) ->
  ∃ ws,run vs cs=!ws/\VOk z ws/\ws[1]<=m:=λcs=>cs.rec
 (λpre vs m e V l _=>#[vs,rfl,by rw[e,tK];show V,l])
 λc cs IH pre vs m e V l hm=>by
  have B:=λx hx=>pos x (by rw[e];show tq _ hx)
  have le:=λx hx=>by
   rw[e]at up;show(gW.mp up).2.2 x hx c "s"
  have h1:qX vs c.1<=many pre c.1:=by
   rw[<- V.cnt];show Ub V.ne λv hv x hx=>le x (V.old v hv x hx)
  have h2:many z c.1=many pre c.1+1+many cs c.1:=by
   have pc:=pos c (by rw[e];simp)
   have:at_ c.1 c=true:=by simp[at_];lia
   rw[e,many,pX,List.countP_cons,iP this];simp[many];lia
  have h3:=th c.1;have h4:=hm c (by rw[e];simp)
  unfold run;rw[iN ""]
  show IH (pre++[c]) (ze vs c) m (by rw[e];simp) (Ua V B) ?_ hm
  rw[U8];split<;>lia
theorem Uc:∀{vs} {c},qX vs c.1=vs[1]->ze vs c=vs++[[c]]
 | [],_,_=>rfl
 | v::vs,c,h=>by
  unfold qX at h;unfold ze;split at h
  .simp_all
  rename_i e;rw[iN e,Uc h[""]]
  rfl
theorem Ud:∀{vs} {c},qX vs c.1<vs[1]->ze vs c=vs.set (qX vs c.1) (vs.getD (qX vs c.1) []++[c])
 | [],_,h=>by simp[qX]at h
 | v::vs,c,h=>by
  unfold qX at h ⊢;unfold ze;split
  .rfl
  rename_i e;rw[iN e]at h;have h:qX vs c.1<vs[1]:=by simpa using h
  rw[List.getD_cons_succ,fQ,<- Ud h]
def qdw(c):zR [.fz (chD c)]=.ok (c.1+c.2.1)[7]:=by
 rfl
def qdx(h:v≠[]):∃ c,okD (ati (v.map chD) (-1))=.ok (chD c)[8]/\endL v=c.1+c.2.1:=by
 let⟨c,_,e,i,rfl⟩:=VN h;show#[c,?_,e];rw[ZH,mi];simp;rfl
def qdy(vs)(t)(ne:∀ v∈vs,v≠[]):uZ [.br (.lst (vs.map vD)),.fz t[6]]=.ok (qX vs t)[7]:=by
 have go:∀ ws n j2 j3,n+ws[1]=vs[1]->(∀ v∈ws,v≠[]) ->
   fin ((qH (gT [2,3]) (sIf (tE (eOp dLe (qi zR [(eOp qe (q9 3) (eUn jQ 1[5]))]) (q9 1))) (jA 2) qw) (numd n (ws.map vD))
    [!(.br (.lst (vs.map vD))),!t[7],j2,j3]).th (qt (eB jw [(q9 0)])))=.ok (n+qX ws t:Nat)[7]:=by
  intro ws
  induction ws with
  | nil =>
   intro n j2 j3 hn _;simp[qX];show fin (qt (eB jw [(q9 0)]) _)=_;simp![g6]
   simp_all
  | cons v ws ih =>
   intro n j2 j3 hn ne;show fin ((qH _ _ (.tup [.int n,vD v]::numd (n+1) (ws.map vD)) _).th _)=_;rw[vd rfl];let⟨c,lq,el⟩:=qdx (ne v "s")
   simp![vD,lq,(qdw c)];unfold qX;rw[el];by_cases h:c.1+c.2.1<=t
   .rw[iP h,show decide (c.1+c.2.1<=t)=true from tJ h]
    rfl
   rw[iN h,show decide (c.1+c.2.1<=t)=false from tm h]
   have:=ih (n+1) (!n[7]) (!(vD v)[8]) (by rw[<- hn,gJ];lia) (λw hw=>ne w (gj _ hw))
   rw[show n+(qX ws t+1)=n+1+qX ws t by lia]
   show this
 have:=go vs 0 none none "s" ne
 rw[pL]at this;show this
def vB:SF:=(qg (qk 3 (wp 1 (qi uZ [(q9 1),(eOp qe (q9 2) 0[5])])))
 (qg (sIf (tE (eOp dEq (q9 3) (eC Jq))) zF qw)
 (qg (sIf (tE (eOp dEq (q9 3) (wp 1 (eB jw [(q9 1)])))) (xg 1 (qJ [])) qw)
 (wS 1 (q9 3) (q9 2)))))
def qdz{vs:Vs}{c:Ch}(ne:∀ v∈vs,v≠[])(B:vs[1]<=100)(z:∀ v∈vs,v[1]<=100):vB [W0,!(.od (.lst (vs.map vD))),!(chD c)[8],j3] =
  if qX vs c.1=8 then .stuck else .nx [W0,!(.od (.lst ((ze vs c).map vD))),!(chD c)[8],!(qX vs c.1)[7]]:=by
 have hz:sz=16777216:=rfl;have fe:=qdy vs c.1 ne;have fl:=qdt vs c.1;have s1:wp 1 (qi uZ [(q9 1),(eOp qe (q9 2) 0[5])]) [W0,!(.od (.lst (vs.map vD))),!(chD c)[8],j3]=.ok (qX vs c.1)[7] :=
  U7 rfl (by simp![chD,fe]) rfl
 delta vB
 simp![s1,Jq];by_cases c8:qX vs c.1=8
 .rw[iP c8,c8];rfl
 rw[iN c8,show(((qX vs c.1):Int)==8)=false by rw[pp];lia]
 have s2:wp 1 (eB jw [(q9 1)]) [W0,!(.od (.lst (vs.map vD))),!(chD c)[8],!(qX vs c.1)[7]]=.ok (.int vs[1])[8] :=
  U7 rfl (by simp![g6]) rfl
 simp![s2];by_cases cn:qX vs c.1=vs[1]
 .rw[show((qX vs c.1)==(vs[1]:Int))=true by rw[cn];simp]
  left;rw[qds (ds:=vs.map vD) (es:=[]) rfl (by left) (by rw[g6,hz];lia)]
  left;rw[VM (ds:=vs.map vD++[.lst []]) (k:=qX vs c.1) (xs:=[]) (d:=chD c) rfl rfl rfl (by rw[cn,t4 "s"];simp) (by simp[hz])]
  rw[Uc cn,cn];simp[vD]
 have lt:qX vs c.1<vs[1]:=""
 rw[show((qX vs c.1)==(vs[1]:Int))=false by rw[pp];lia]
 left;have ge:vs.getD (qX vs c.1) []=vs[qX vs c.1]:=by rw[t7,gG lt];rfl
 have lv:=z vs[qX vs c.1] (fw _);rw[VM (ds:=vs.map vD) (k:=qX vs c.1) (xs:=(vs[qX vs c.1]).map chD) (d:=chD c) rfl rfl rfl (by rw[gH,gG lt];rfl) (by rw[g6,hz];lia)]
 left;rw[Ud lt,ge,List.map_set];simp[vD]
def VO:Option Vs->R En
 | some ws=>.ok (.lst (ws.map vD))[9]
 | none=>.stuck
def qdA(z:Option En):∀(cs pre:List Ch) (vs:Vs) (j2 j3:Option En),pre[1]+cs[1]<=100->VOk pre vs->vs[1]<=pre[1]->(∀ x∈pre++cs,1<=x.2.1) ->
  fin ((qH (gV 2) vB (cs.map chD) [z,!(.od (.lst (vs.map vD))),j2,j3]).th (yk 1 (jA 1)))=VO (run vs cs):=λcs=>cs.rec
 (λpre vs j2 j3 _ _ _ _=>by
  rfl)
 λc cs IH pre vs j2 j3 hb V hl pos=>by
  rw[gJ]at hb;show fin ((turn (gV 2) vB _ (vB [z,!(.od (.lst (vs.map vD))),!(chD c)[8],j3])).th _)=_;rw[qdz V.ne "" (λv hv=>by have:=V.len v hv;lia)]
  unfold run;by_cases c8:qX vs c.1=8
  .rw[iP c8,iP c8];rfl
  rw[iN c8,iN c8];show IH (pre++[c]) (ze vs c) _ _ (by simp;lia) (Ua V λx hx=>pos x (tq _ hx)) ?_ pos[""]
  rw[U8];simp;split<;>lia
def qdB(w)(row)(z:w=.br (.lst (row.map chD))\/w=.fz (.lst (row.map chD)))(B:row[1]<=100)(pos:∀ x∈row,1<=x.2.1):yY [w]=VO (run [] row):=by
 have go:=λW0=>qdA W0 row [] [] none none B[""] U9 (gC _) pos[""]
 delta yY
 rcases z with rfl|rfl
 .simp only[uv];show go _
 simp only[uv];show go _
theorem VP{α:Type} [DecidableEq α]:∀{l m:List α},l.Nodup->(∀ x∈l,x∈m)->l[1]<=m[1]
 | [],_,_,_=>tP _
 | x::l,m,nd,h=>by
  let⟨n1,n2⟩:=tL.mp nd;have:=VP (m:=m.erase x) n2 λy hy=>(List.mem_erase_of_ne λe=>n1 (by rw[<- e];show hy)).mpr (h y (gj _ hy))
  grind
def Ue{κ:Type} [DecidableEq κ]{k x:κ}{kvs:List (κ×D)}(h:x=k\/x∈kvs.map Prod.fst):x∈(jk k d kvs).map Prod.fst:=by
 delta jk
 split
 .rename_i c;rw[gZ];have e:(Prod.fst∘λkv=>if kv.1=k then(kv.1,d)else kv)=Prod.fst:=by funext kv;simp[Function.comp];split<;>rfl
  grind
 grind
def qdC(n:Nt):∀(os:List Nt) (z:List (List (Sum Int Str)×D)),k∈z.map Prod.fst->k∈(seen n os z).map Prod.fst:=λos=>os.rec
 (λ_ h=>h)
 λo os IH z h=>by
  show IH _ ?_;split
  .show Ue (.inr h)
  show h
def qdD(n:Nt)(m:meet n o=true):∀(os:List Nt) (z:List (List (Sum Int Str)×D)),o∈os->JW o∈(seen n os z).map Prod.fst:=λos=>os.rec
 (λ_ h=>by simp at h)
 λp os IH z h=>by
  unfold seen;rcases gw.mp h with rfl|h
  .rw[iP m];show qdC n os _ (Ue (.inl rfl))
  show IH _ h
theorem Uf{α:Type}(p:α->Bool):∀{l} {x},x∈l->p x=true->∃ pre n post,l=pre++n::post/\p n=true/\∀ y∈post,p y=false
 | [],_,h,_=>by simp at h
 | a::l,x,h,hx=>by
  by_cases c:∃ y∈l,p y=true
  .let⟨y,hy,py⟩:=c;let⟨pre,n,post,e,pn,q⟩:=Uf p hy py;show#[a::pre,n,post,by rw[e];rfl,pn,q]
  have no:∀ y∈l,p y=false:=λy hy=>by
   simp_all
  rcases gw.mp h with rfl|h
  .show#[[],x,l,rfl,hx,no]
  simp_all
def yw(c:Ch):Int×Int:=(c.1,c.2.1)
def VQ(q:Int×Int):List (Sum Int Str):=[.inl q.1,.inl q.2]
def atN(t:Int)(n:Nt):Bool:=decide (n.1<=t)&&decide (t<n.1+n.2.1)
def qdE(h:NotesOk ns)(R:RowOk ns row)(t):many row t<=8:=by
 rw[many,List.countP_eq_length_filter];by_cases em:row.filter (at_ t)=[]
 .rw[em];simp
 have B:∀ c∈row.filter (at_ t),∃ p,(c.1,c.2.1,p)∈ns/\c.1<=t/\t<c.1+c.2.1:=λc hc=>by
  let⟨h1,h2⟩:=dG.mp hc;have h2:c.1<=t/\t<c.1+c.2.1:=by simpa[at_]using h2
  cases e:c.2.2 with
  | nil=>show absurd e (R.ne c h1)
  | cons p r=>show#[p,R.of c h1 p (by rw[e];simp),h2]
 let⟨c0,hc0⟩:=List.exists_mem_of_ne_nil _ em;let⟨p0,m0,b0⟩:=B c0 hc0;let⟨pre,n,post,e,pn,np⟩:=Uf (atN t) m0 (by simp[atN];omega)
 have m7:=h.mt pre n post e;have pn:n.1<=t/\t<n.1+n.2.1:=by simpa[atN]using pn
 have nd:((row.filter (at_ t)).map yw).Nodup:=by
  show List.Pairwise _ _;rw[fy];show(R.up.filter _).imp λ{a b} q z=>?_
  simp[yw]at z;unfold ltC at q;lia
 have O:∀ x∈(((row.filter (at_ t)).map yw).erase (n.1,n.2.1)).map VQ,x∈(seen n pre []).map Prod.fst:=λx hx=>by
  let⟨q,hq,rfl⟩:=gK.mp hx;have U:=List.mem_of_mem_erase hq;have Y:q≠(n.1,n.2.1):=λz=>by
   grind
  let⟨c,hc,rfl⟩:=gK.mp U;let⟨p,m,b1,b2⟩:=B c hc;have sp:¬ (c.1=n.1/\c.2.1=n.2.1):=λz=>Y (by simp[yw,z.1,z.2])
  have mp:(c.1,c.2.1,p)∈pre:=by
   rw[e]at m;rcases gE.mp m with m|m
   .show m
   rcases gw.mp m with z|m
   .show absurd (by rw[<- z];show#[rfl,rfl]) sp
   have:=np _ m;simp[atN]at this;lia
  have mt:meet n (c.1,c.2.1,p)=true:=by
   delta meet
   simp only[hE,decide_eq_true_eq,Bool.not_eq_true',Bool.and_eq_false_iff,pp];show#[#["",""],?_]
   by_cases z:c.1=n.1
   .show .inr λq=>sp #[z,q]
   show .inl z
  show qdD n mt pre [] mp
 have Z:((((row.filter (at_ t)).map yw).erase (n.1,n.2.1)).map VQ).Nodup:=by
  show List.Pairwise _ _;rw[fy];show(List.Nodup.erase _ nd).imp λ{a b} q z=>q ?_
  simp[VQ]at z;show Prod.ext z.1 z.2
 have len:=VP Z O;rw[g6,g6]at len;have ge:((row.filter (at_ t)).map yw)[1]<=(((row.filter (at_ t)).map yw).erase (n.1,n.2.1))[1]+1:=by
  by_cases q:(n.1,n.2.1)∈(row.filter (at_ t)).map yw
  .rw[List.length_erase_of_mem q];lia
  rw[List.erase_of_not_mem q];lia
 rw[g6]at ge;have:(seen n pre [])[1]<=7:=m7;lia
def keysP:List Int:=[112,96,64,56,48,32,28,24,16,14,12,8,7,6,4,3,2,1]
def zS:List Int->Int->List Int
 | [],_=>[]
 | v::vs,l=>List.replicate (l/v).toNat v++zS vs (l%v)
def zt(n:Int):List Int:=zS keysP n
theorem Ug(L0 v)(B:0<v):∀(q z:Nat) row (left:Int),0<=left->left/v=q->q<z->row[1]+q<=1000 ->
  zO (tE (eOp dLe (q9 3) (q9 2))) (qg (qC 1 (q9 3)) (zb 2 jc (q9 3))) z [!L0[7],!(.lst (row.map D.int))[9],!left[7],!v[7]] =
   .nx [!L0[7],!(.lst ((row++List.replicate q v).map D.int))[9],!(left%v)[7],!v[7]]
 | 0,z+1,row,left,h0,hq,hf,hl=>by
  have lt:left<v:=by
   have:=cj left v;have:=bN left B
   simp_all
  have d:decide (v<=left)=false:=by simp;omega
  unfold zO;simp![d,f9,cG];rw[Int.emod_eq_of_lt h0 lt];simp
 | q+1,z+1,row,left,h0,hq,hf,hl=>by
  have hz:sz=16777216:=rfl;have ge:v<=left:=by
   by_cases g:v<=left
   .show g
   have:=Int.ediv_eq_zero_of_lt h0 (by lia:left<v)
   lia
  have d:decide (v<=left)=true:=by simpa using ge
  have e1:(left-v)/v=q:=by
   have:=Int.add_mul_ediv_right left (-1) (show v≠0 by lia)
   lia
  have e2:(left-v)%v=left%v:=by
   simp
  have ih:=Ug L0 v B q z (row++[v]) (left-v) "" e1 "" (by simp;lia)
  unfold zO;simp![d];rw[jR (xs:=row.map D.int) (d:=.int v) rfl (by rw[g6,hz];lia) rfl]
  left;rw[hX]at ih;rw[show List.map D.int [v]=[D.int v]from rfl]at ih
  rw[ih,e2];simp[pO]
def qdF:∀(vs:List Int) (l:Int),0<=l->(∀ v∈vs,0<v)->((zS vs l)[1]:Int)<=l:=λvs=>vs.rec
 (λl h _=>by simpa[zS]using h)
 λv vs IH l h hv=>by
  have v0:=hv v "s"
  have ih:=IH (l%v) (dN _ "") λx hx=>hv x (by simp[hx])
  have e:=cj l v;have q0:0<=l/v:=bF h ""
  have:l/v<=v*(l/v):=by
   have:=tG (show 1<=v by lia) q0
   lia
  simp[zS];lia
def qdG(O:Int):∀(vs:List Int) (z:List Int) (left:Int) (j3:Option En),(∀ v∈vs,0<v)->0<=left->left<=512->(z[1]:Int)+left<=512 ->
  ∃ l' B,qH (gV 3) (kD 520 (tE (eOp dLe (q9 3) (q9 2))) (qg (qC 1 (q9 3)) (zb 2 jc (q9 3)))) (vs.map D.int) [!O[7],!(.lst (z.map D.int))[9],!left[7],j3] =
   .nx [!O[7],!(.lst ((z++zS vs left).map D.int))[9],!l'[7],B]:=λvs=>vs.rec
 (λz left j3 _ _ _ _=>#[left,j3,by simp[qH,zS]])
 λv vs IH z left j3 hv h0 h1 hl=>by
  have v0:=hv v "s"
  have q0:0<=left/v:=bF h0 ""
  have e:=cj left v;have m0:=dN left (show v≠0 by lia)
  have:left/v<=v*(left/v):=by
   have:=tG (show 1<=v by lia) q0
   lia
  let⟨q,hq⟩:=pI q0;let⟨l',B,ih⟩:=IH (z++List.replicate q v) (left%v) (!v[7]) (λx hx=>hv x (by simp[hx])) m0 "" (by simp;lia)
  show#[l',B,?_];unfold qH;have tn:(left/v).toNat=q:=by rw[hq];rfl
  left
  delta kD at ih ⊢
  rw[(Ug O v v0 q 520 z left h0 hq "" "")]
  dsimp only;rw[ih];simp[zS,tn]
def Uh(n)(h0:0<=n)(h1:n<=512):uT [.fz n[6]]=.ok (.lst ((zt n).map D.int))[9]:=by
 let⟨l',z,e⟩:=qdG n keysP [] n none "d" h0 h1 h1[""]
 delta uT KU
 left;rw[show ZB (eC Jo) [!(En.fz (D.int n)),!(En.ow (D.lst [])),!(En.fz (D.int n)),none]=.ok (keysP.map D.int)from rfl]
 left;rw[pW]at e;rw[e];rfl
def qdH:∀(vs:List Int) (l:Int),1∈vs->0<=l->(∀ v∈vs,0<v)->(zS vs l).sum=l:=λvs=>vs.rec
 (λl h _ _=>by simp at h)
 λv vs IH l h1 h hv=>by
  have v0:=hv v "s"
  have zero:∀ ws,(∀ x∈ws,0<x)->(zS ws 0).sum=0:=by
   intro ws
   induction ws with
   | nil=>intro _;rfl
   | cons x ws ih=>intro hx;simp[zS,ih λy hy=>hx y (by simp[hy])]
  have rs:(List.replicate (l/v).toNat v).sum=v*(l/v):=by
   have:∀ k,(List.replicate k v).sum=v*k:=λk=>by
    induction k with
    | zero=>simp
    | succ k ih=>rw[pO,fW,ih];push_cast;rw[Int.mul_add];lia
   rw[this,Int.toNat_of_nonneg (bF h "")]
  rw[zS,dP,rs];rcases gw.mp h1 with g|g
  .subst g
   simp_all
  rw[IH (l%v) g (dN _ "") λx hx=>hv x (by simp[hx])]
  show(cj l v)
def qdI:∀(vs:List Int) (l:Int),(∀ v∈vs,0<v)->∀ x∈zS vs l,0<x:=λvs=>vs.rec
 (λl _ x hx=>by simp[zS]at hx)
 λv vs IH l hv x hx=>by
  rcases gE.mp hx with hx|hx
  .simp_all
  show IH _ (λy hy=>hv y (by simp[hy])) x hx
def JY(n)(h:0<=n):(zt n).sum=n:=qdH keysP n "d" h "d"
def VR(n):∀ x∈zt n,0<x:=qdI keysP n "d"
def kg(n)(h:0<=n):((zt n)[1])<=n:=qdF keysP n h "d"
inductive Ev where
 | rest (v:Int)
 | note (v:Int) (ps:List Int) (tied:Bool)
def evD:Ev->D
 | .rest v=>.tup [.str "rest",.int v]
 | .note v ps t=>.tup [.str "note",.int v,.tup (ps.map D.int),.bl t]
def cend(c:Ch):Int:=c.1+c.2.1
def jI(n:Int):List Ev:=(zt n).map .rest
def zz(c:Ch):Int->List Int->List Ev
 | _,[]=>[]
 | t,v::vs=>.note v c.2.2 (decide (t+v<cend c))::zz c (t+v) vs
def vw(c:Ch)(z B:Int):List Ev:=zz c z (zt (B-z))
def VS(c:Ch):∀(vs:List Int) (t:Int),(zz c t vs)[1]=vs[1]:=λvs=>vs.rec
 (λ_=>rfl)
 λv vs IH t=>by simp[zz,IH]
def Ui(c):zR [.fz (chD c)]=.ok (cend c)[7]:=by
 rfl
def qdJ:D->D
 | .int v=>evD (.rest v)
 | _=>.non
def Uj(n)(h0:0<=n)(h1:n<=512):xz [.fz n[6]]=.ok (.lst ((jI n).map evD))[9]:=by
 have hz:sz=16777216:=rfl;have pl:=kg n h0
 delta xz Xe
 left;rw[kO (ys:=(jI n).map evD) (vk (by simp![Uh n h0 h1]) rfl) (by rw[g6,hz];lia) (by
  rw[kN 1 qdJ ((zt n).map D.int) _ λd hd=>?_]
  .rw[jI,gZ,gZ];rfl
  let⟨v,_,rfl⟩:=gK.mp hd;show#[.fz (evD (.rest v)),?_,rfl];simp![jh,evD])]
 left
def qdK(c)(first behind)(h0:0<=behind-first)(h1:behind-first<=512):xA [.fz (chD c),.fz first[6],.fz behind[6]]=.ok (.lst ((vw c first behind).map evD))[9]:=by
 have hz:sz=16777216:=rfl;have pl:=kg (behind-first) h0
 delta xA Xf
 simp![Ui];rw[vk (by simp![Uh _ h0 h1]) rfl]
 have go:∀ vs z t j6,z[1]+vs[1]<=1000 ->
   fin ((qH (gV 6) (qg (zb 5 zY (q9 6)) (qC 4 (jG [(eC (.str "note")),(q9 6),(eOp qe (q9 0) 2[5]),(eOp dLt (q9 5) (q9 3))]))) (vs.map D.int)
    [!(chD c)[8],!first[7],!behind[7],!(cend c)[7],!(.lst (z.map evD))[9],!t[7],j6]).th (jA 4))=.ok (.lst ((z++zz c t vs).map evD))[9]:=by
  intro vs
  induction vs with
  | nil=>intro z t j6 _;simp[zz];rfl
  | cons v vs ih =>
   intro z t j6 hb;rw[gJ]at hb;unfold qH;left;rw[jR (xs:=z.map evD) (d:=evD (.note v c.2.2 (decide (t+v<cend c)))) rfl (by rw[g6];lia) (by simp![chD,evD])]
   have:=ih (z++[.note v c.2.2 (decide (t+v<cend c))]) (t+v) (!v[7]) (by simp;lia)
   rw[zz];simpa using this
 have:=go (zt (behind-first)) [] first none (by simp;lia)
 assumption
def jZ(b e:Int)(S:List Ev×Int)(c:Ch):List Ev×Int :=
 if (if b>c.1 then b else c.1)<(if e<cend c then e else cend c)then
  ((S.1++jI ((if b>c.1 then b else c.1)-S.2))++vw c (if b>c.1 then b else c.1) (if e<cend c then e else cend c),if e<cend c then e else cend c)
 else S
def Qc(v:List Ch)(b e:Int):List Ev×Int:=v.foldl (jZ b e) ([],b)
def zT(v:List Ch)(b e:Int):List Ev:=(Qc v b e).1++jI (e-(Qc v b e).2)
structure Vo(v:List Ch):Prop where
 up:v.Pairwise λa b=>cend a<=b.1
 b:∀ c∈v,0<=c.1/\1<=c.2.1/\cend c<=1400
abbrev Wk:=List Ch×Int×Option (Int×List Int)
def vx:Wk->Ev->Option Wk
 | (told,t,none),.rest v=>!(told,t+v,none)
 | (_,_,!_),.rest _=>none
 | (told,t,none),.note v ps tied=>if tied then !(told,t+v,!(t,ps))else !(told++[(t,t+v-t,ps)],t+v,none)
 | (told,t,!g),.note v ps tied=>if ps=g.2 then(if tied then !(told,t+v,!g)else !(told++[(g.1,t+v-g.1,ps)],t+v,none))else none
def jM:List Ev->Wk->Option Wk
 | [],S=>!S
 | e::es,S=>(vx S e).bind (jM es)
def VT:∀(a b:List Ev) (S:Wk),jM (a++b) S=(jM a S).bind (jM b):=λa=>a.rec
 (λb S=>rfl)
 λe a IH b S=>by
  show(vx S e).bind (jM (a++b))=((vx S e).bind (jM a)).bind (jM b);cases vx S e with
  | none=>rfl
  | some S'=>show IH b S'
def Uk:∀(vs:List Int) (z:List Ch) (t:Int),jM (vs.map .rest) (z,t,none)=!(z,t+vs.sum,none):=λvs=>vs.rec
 (λz t=>by simp[jM])
 λv vs IH z t=>by
  show jM (vs.map .rest) (z,t+v,none)=_;rw[IH z (t+v),fW,Int.add_assoc]
theorem Ul:∀(vs:List Int),(∀ x∈vs,0<x)->vs≠[]->0<vs.sum
 | [],_,h=>absurd rfl h
 | [v],hp,_=>by simpa using hp v "s"
 | v::w::vs,hp,_=>by
  have h1:=hp v "s"
  have h2:=Ul (w::vs) (λx hx=>hp x (by simp[hx])) "s"
  rw[fW];lia
theorem Um(c):∀ vs z t go,vs≠[]->(∀ x∈vs,0<x)->(go=none/\t=c.1\/go=!(c.1,c.2.2))->t+vs.sum<=cend c ->
  jM (zz c t vs) (z,t,go)=if t+vs.sum=cend c then !(z++[c],cend c,none)else !(z,t+vs.sum,!(c.1,c.2.2))
 | [],_,_,_,h,_,_,_=>absurd rfl h
 | [v],z,t,go,_,hp,hg,hs=>by
  simp[fW,List.sum_nil,Int.add_zero]at hs ⊢;have ec:cend c-c.1=c.2.1:=by delta cend;lia
  by_cases g:t+v=cend c
  .rw[iP g];have d:decide (t+v<cend c)=false:=by simp;lia
   rcases hg with⟨rfl,rfl⟩|rfl
   .simp only[zz,jM,vx,d,f9,cG,pV];rw[g,ec]
   simp only[zz,jM,vx,d,f9,cG,dq,pV];rw[g,ec]
  rw[iN g];have d:decide (t+v<cend c)=true:=by simp;lia
  rcases hg with⟨rfl,rfl⟩|rfl
  .simp[zz,jM,vx,d,dq,pV]
  simp[zz,jM,vx,d,dq,pV]
 | v::w::vs,z,t,go,_,hp,hg,hs=>by
  have p1:=Ul (w::vs) (λx hx=>hp x (by simp[hx])) "s"
  rw[fW]at hs ⊢;have d:decide (t+v<cend c)=true:=by simp;lia
  have ih:=Um c (w::vs) z (t+v) (!(c.1,c.2.2)) "s" (λx hx=>hp x (by simp[hx])) (.inr rfl) ""
  rw[<- Int.add_assoc];rw[zz];rcases hg with⟨rfl,rfl⟩|rfl
  .simp[jM,vx,d,dq,pV];show ih
  simp[jM,vx,d,dq,pV];show ih
def kj(v:List Ch)(t:Int):List Ch:=v.filter λc=>decide (cend c<=t)
def vY(v:List Ch)(t:Int):Option (Int×List Int):=(v.find? λc=>decide (c.1<t)&&decide (t<cend c)).map λc=>(c.1,c.2.2)
def W(v:List Ch)(t:Int):Wk:=(kj v t,t,vY v t)
def Uo(V:Vo v){f g:Int}(fg:f<=g)(h:∀ x∈v,cend x<=f\/g<=x.1):kj v g=kj v f/\vY v f=none/\vY v g=none:=by
 show#[List.filter_congr λx hx=>?_,?_,?_]
 .have:=h x hx;have:=(V.b x hx).2.1;unfold cend at *;lia
 .delta vY
  rw[cV.mpr]
  .rfl
  intro x hx
  grind
 delta vY
 rw[cV.mpr]
 .rfl
 intro x hx
 grind
def Up{c:Ch}(V:Vo (pre++c::post)){t:Int}(h1:c.1<=t)(h2:t<cend c):kj (pre++c::post) t=pre/\vY (pre++c::post) t=if c.1<t then !(c.1,c.2.2)else none:=by
 have up:=gW.mp V.up;have B:∀ x∈pre,cend x<=c.1:=λx hx=>up.2.2 x hx c "s"
 have z:∀ x∈post,cend c<=x.1:=λx hx=>(fF.mp up.2.1).1 x hx
 have U:pre.filter (λc=>decide (cend c<=t))=pre:=dA.mpr λx hx=>by have:=B x hx;simp;lia
 have O:post.filter (λc=>decide (cend c<=t))=[]:=fR.mpr λx hx=>by
  have:=z x hx;have:=(V.b x (by simp[hx])).2.1
  unfold cend at *;simp;lia
 show#[?_,?_]
 .delta kj
  rw[cg,U,List.filter_cons_of_neg (by simp;omega),O,tK]
 delta vY
 have n1:pre.find? (λc=>decide (c.1<t)&&decide (t<cend c))=none:=cV.mpr λx hx=>by have:=B x hx;simp;lia
 rw[List.find?_append,n1];by_cases g:c.1<t
 .simp_all
 rw[iN g,dU (by simp;lia),cV.mpr]
 .rfl
 intro x hx;have:=z x hx;simp;lia
def qdL(V:Vo (pre++c::post)):kj (pre++c::post) (cend c)=pre++[c]/\vY (pre++c::post) (cend c)=none:=by
 have up:=gW.mp V.up;have bc:=V.b c "s"
 have O:=λx hx=>up.2.2 x hx c "s"
 have z:∀ x∈post,cend c<=x.1:=λx hx=>(fF.mp up.2.1).1 x hx
 have lc:c.1<cend c:=by delta cend;lia
 have U:pre.filter (λx=>decide (cend x<=cend c))=pre:=dA.mpr λx hx=>by have:=O x hx;simp;lia
 have B:post.filter (λx=>decide (cend x<=cend c))=[]:=fR.mpr λx hx=>by
  have h1:=z x hx;have h2:=(V.b x (by simp[hx])).2.1
  have:x.1<cend x:=by delta cend;lia
  simp;lia
 show#[?_,?_]
 .delta kj
  rw[cg,U,pJ "s",B]
 delta vY
 rw[cV.mpr]
 .rfl
 grind
structure BarI(v pre:List Ch)(b e:Int)(S:List Ev×Int):Prop where
 lo:b<=S.2
 hi:S.2<=e
 done:∀ x∈pre,cend x<=S.2\/e<=x.1\/S.2=e
 from_:S.2=b\/∃ x∈pre,S.2<=cend x
 len:(S.1.length:Int)<=S.2-b
 wk:jM S.1 (W v b)=!(W v S.2)
def qdM:zt 0=[]:=by decide
def Uq{c:Ch}{b e B O:Int}{S:List Ev×Int}(V:Vo v)(ev:v=pre++c::post)(I:BarI v pre b e S)
  (hf:B=b/\c.1<b\/B=c.1/\b<=c.1)(hb:O=e/\e<cend c\/O=cend c/\cend c<=e)(act:B<O) :
  BarI v (pre++[c]) b e ((S.1++jI (B-S.2))++vw c B O,O)/\S.2<=B/\O<=e:=by
 have V':=V;rw[ev]at V';have up:=gW.mp V'.up;have Y:∀ x∈pre,cend x<=c.1:=λx hx=>up.2.2 x hx c "s"
 have Z:∀ x∈post,cend c<=x.1:=λx hx=>(fF.mp up.2.1).1 x hx
 have bc:=V'.b c "s"
 have lc:c.1<cend c:=by delta cend;lia
 have lo:=I.lo;have hi:=I.hi;have ce:c.1<e:=""
 have h3:S.2≠e:=λz=>by
  rcases I.from_ with q|⟨x,hx,q⟩
  .lia
  have:=Y x hx;lia
 have U:∀ x∈pre,cend x<=S.2:=λx hx=>by
  rcases I.done x hx with q|q|q
  .show q
  .have h1:=Y x hx;have h2:=(V'.b x (by simp[hx])).2.1
   have:x.1<cend x:=by delta cend;lia
   lia
  show absurd q h3
 have fle:S.2<=B:=by
  rcases I.from_ with q|⟨x,hx,q⟩
  .lia
  have:=Y x hx;lia
 have w1:jM (jI (B-S.2)) (W v S.2)=!(W v B):=by
  by_cases z:B=S.2
  .have:B-S.2=0:=""
   rw[this,jI,qdM,z];rfl
  have fc:B=c.1:=""
  let⟨g1,g2,g3⟩:=Uo (v:=v) (f:=S.2) (g:=B) V fle (λx hx=>by
   rw[ev]at hx;rcases gE.mp hx with hx|hx
   .show .inl (U x hx)
   rcases gw.mp hx with rfl|hx
   .show .inr ""
   have:=Z x hx;show .inr "")
  delta W
  rw[g2,jI,Uk,JY _ "",g1,g3]
  congr 3;lia
 have np:zt (O-B)≠[]:=λz=>by
  have:=JY (O-B) ""
  rw[z]at this;simp at this;lia
 have ps:=JY (O-B) ""
 have w2:jM (vw c B O) (W v B)=!(W v O):=by
  let⟨a1,a2⟩:=Up V' (t:=B) "" ""
  have wn:=Um c (zt (O-B)) pre B (vY v B) np (VR _) (by
   rw[ev,a2];by_cases g:c.1<B
   .rw[iP g];show .inr rfl
   rw[iN g];show .inl #[rfl,""]) ""
  rw[ps,show B+(O-B)=O by lia]at wn
  have eW:W v B=(pre,B,vY v B):=by delta W;rw[ev,a1]
  rw[eW,vw,wn];by_cases g:O=cend c
  .rw[iP g];let⟨b1,b2⟩:=qdL V'
   delta W
   rw[g,ev,b1,b2]
  rw[iN g];let⟨b1,b2⟩:=Up V' (t:=O) "" ""
  delta W
  rw[ev,b1,b2,iP ""]
 show#[#[by dsimp only;lia,by dsimp only;lia,λx hx=>?_,?_,?_,?_],fle,""]
 .dsimp only;rcases gE.mp hx with hx|hx
  .show .inl (by have:=U x hx;lia)
  simp at hx;subst hx;rcases hb with⟨h1,h2⟩|⟨h1,h2⟩
  .show .inr (.inr h1)
  show .inl ""
 .show .inr #[c,by simp,by dsimp only;lia]
 .have l1:=kg (B-S.2) ""
  have l2:=kg (O-B) ""
  have l3:=I.len;dsimp only;rw[gD,gD,jI,g6,vw,VS];lia
 dsimp only;rw[VT,VT,I.wk];show((jM (jI (B-S.2)) (W v S.2)).bind _)=_
 rw[w1];show w2
def qdN{b e B z:Int}(I:BarI v pre b e S)
  (U:B=b/\c.1<b\/B=c.1/\b<=c.1)(Y:z=e/\e<cend c\/z=cend c/\cend c<=e)(Z:b<e)(lc:c.1<cend c)(O:¬ B<z):BarI v (pre++[c]) b e S:=by
 have lo:=I.lo;show#[I.lo,I.hi,λx hx=>?_,?_,I.len,I.wk]
 .rcases gE.mp hx with hx|hx
  .show I.done x hx
  grind
 rcases I.from_ with q|⟨x,hx,q⟩
 .show .inl q
 show .inr #[x,by simp[hx],q]
def VU(b)(c:Ch):(if b>c.1 then b else c.1)=b/\c.1<b\/(if b>c.1 then b else c.1)=c.1/\b<=c.1:=by
 by_cases h:b>c.1
 .rw[iP h];show .inl #[rfl,h]
 rw[iN h];show .inr #[rfl,""]
def VV(e)(c):(if e<cend c then e else cend c)=e/\e<cend c\/(if e<cend c then e else cend c)=cend c/\cend c<=e:=by
 by_cases h:e<cend c
 .rw[iP h];show .inl #[rfl,h]
 rw[iN h];show .inr #[rfl,""]
def Ur{b e:Int}(V:Vo v)(B:b<e)(z:v=pre++c::post)(I:BarI v pre b e S):BarI v (pre++[c]) b e (jZ b e S c):=by
 have bc:=V.b c (by rw[z];simp)
 delta jZ
 by_cases act:(if b>c.1 then b else c.1)<(if e<cend c then e else cend c)
 .rw[iP act];show(Uq V z I (VU b c) (VV e c) act).1
 rw[iN act];show qdN I (VU b c) (VV e c) B (by delta cend;lia) act
def Us{b e:Int}(V:Vo v)(z:b<e):∀(post pre:List Ch) (S:List Ev×Int),v=pre++post->BarI v pre b e S->BarI v v b e (post.foldl (jZ b e) S):=λpost=>post.rec
 (λpre S ev I=>by rw[tK]at ev;subst ev;show I)
 λc post IH pre S ev I=>by
  show IH (pre++[c]) _ (by rw[ev];simp) (Ur V z ev I)
def VW{b e:Int}(z:b<e):BarI v [] b e ([],b):=#[by dsimp only;lia,by dsimp only;lia,λx hx=>by simp at hx,.inl rfl,by simp,rfl]
def qdO(V:Vo v)(z:b<e)(i):BarI v (v.take i) b e ((v.take i).foldl (jZ b e) ([],b)):=by
 have go:∀ post pre S rest,v=pre++post++rest->BarI v pre b e S->BarI v (pre++post) b e (post.foldl (jZ b e) S):=by
  intro post
  induction post with
  | nil=>intro pre S rest _ I;simpa using I
  | cons c post ih =>
   intro pre S rest ev I;have:=ih (pre++[c]) (jZ b e S c) rest (by rw[ev];simp) (Ur V z (post:=post++rest) (by rw[ev];simp) I)
   simpa using this
 have:=go (v.take i) [] ([],b) (v.drop i) "s" (VW z)
 simpa using this
def qdP(V:Vo v)(B:b<e):jM (zT v b e) (W v b)=!(W v e):=by
 have I:=Us V B v [] ([],b) rfl (VW B)
 delta zT Qc
 rw[VT,I.wk];show jM (jI (e-(v.foldl (jZ b e) ([],b)).2)) (W v (v.foldl (jZ b e) ([],b)).2)=_;have lo:=I.lo;have hi:=I.hi;have dn:=I.done;generalize (v.foldl (jZ b e) ([],b)).2=f at lo hi dn;by_cases z:f=e
 .subst z;rw[Int.sub_self];rfl
 let⟨g1,g2,g3⟩:=Uo V hi (λx hx=>by
  rcases dn x hx with q|q|q
  .show .inl q
  .show .inr q
  show absurd q z)
 delta W
 rw[g2,jI,Uk,JY _ "",g1,g3]
 lia
def qdQ(v)(V:Vo v)(b e)(B:b<e)(Y:e-b<=512):Q4 [.fz (.lst (v.map chD)),.fz b[6],.fz e[6]]=.ok (.lst ((zT v b e).map evD))[9]:=by
 have hz:sz=16777216:=rfl
 delta Q4 Xv
 left;rw[ZM (ds:=v.map chD) rfl];left;let⟨ρ,er,j5,j6,j7,z⟩:=vV (v.map chD) (λi ρ=>∃ j5 j6 j7,ρ=[!(.lst (v.map chD))[8],!b[7],!e[7],!(.lst ((((v.take i).foldl (jZ b e) ([],b)).1).map evD))[9],!(.int ((v.take i).foldl (jZ b e) ([],b)).2)[8],j5,j6,j7])
  (g:=gV 5) (b:=qg (qk 6 (eB uo [(eOp qe (q9 5) 0[5]),(q9 1)])) (qg (qk 7 (eB u8 [(qi zR [(q9 5)]),(q9 2)])) (sIf (tE (eOp dLt (q9 6) (q9 7))) (qg (zZ 3 (qi xz [(eOp jc (q9 6) (q9 4))])) (qg (zZ 3 (qi xA [(q9 5),(q9 6),(q9 7)])) (qk 4 (q9 7)))) qw)))
  (ρ:=[!(.lst (v.map chD))[8],!b[7],!e[7],!(.lst [])[9],!b[7],none,none,none]) #[none,none,none,rfl] (λi x ρ hx #[j5,j6,j7,z]=>by
   subst z;rw[gH]at hx;cases ec:v[i]? with
   | none=>rw[ec]at hx;cases hx
   | some c =>
    rw[ec]at hx;cases hx;have hi:i<v[1]:=(gp.mp ec).1;have O:v=v.take i++c::v.drop (i+1):=by
     rw[gG hi]at ec;cases ec;simp
    have tk:v.take (i+1)=v.take i++[c]:=by rw[List.take_succ,ec];rfl
    have I:=qdO V B i;have ee:zR [.fz (.tup [.int c.1,.int c.2.1,.tup (c.2.2.map D.int)])]=.ok (cend c)[7]:=Ui c;rw[tk,List.foldl_append];generalize (v.take i).foldl (jZ b e) ([],b)=S at I;have le:=I.len;show#[_,_,rfl,.inl ?_,!(chD c)[8],!(if b>c.1 then b else c.1)[7],!(if e<cend c then e else cend c)[7],rfl]
    simp![chD,ee,cB,List.foldl_nil]
    delta jZ
    by_cases act:(if b>c.1 then b else c.1)<(if e<cend c then e else cend c)
    .let⟨I2,a1,a2⟩:=Uq V O I (VU b c) (VV e c) act;rw[iP act];have d:decide ((if b>c.1 then b else c.1)<(if e<cend c then e else cend c))=true:=by simpa using act
     rw[d];generalize (if b>c.1 then b else c.1)=first at *
     generalize (if e<cend c then e else cend c)=behind at *
     have l1:=kg (first-S.2) ""
     have l2:=kg (behind-first) ""
     have r1:=Uj (first-S.2) "" ""
     have r2:=qdK c first behind "" ""
     left;rw[uD (xs:=S.1.map evD) (ys:=(jI (first-S.2)).map evD) rfl (by simp![r1]) (by rw[g6,g6,jI,g6,hz];lia)]
     left;rw[uD (xs:=S.1.map evD++(jI (first-S.2)).map evD) (ys:=(vw c first behind).map evD) rfl (by
      have U:xA [.fz (.tup [.int c.1,.int c.2.1,.tup (c.2.2.map D.int)]),.fz first[6],.fz behind[6]]=_:=r2
      simp![U]) (by rw[gD,g6,g6,g6,jI,g6,vw,VS,hz];lia)]
     simp![hX,chD]
    rw[iN act];have d:decide ((if b>c.1 then b else c.1)<(if e<cend c then e else cend c))=false:=by simpa using act
    rw[d];simp![chD])
 rw[er];subst z;rw[g6,cK];have I:=Us V B v [] ([],b) rfl (VW B);have lo:=I.lo;have hi:=I.hi;have le:=I.len
 delta zT Qc
 generalize v.foldl (jZ b e) ([],b)=S at lo hi le;have l1:=kg (e-S.2) ""
 have r1:=Uj (e-S.2) "" ""
 left;rw[uD (xs:=S.1.map evD) (ys:=(jI (e-S.2)).map evD) rfl (by simp![r1]) (by rw[g6,g6,jI,g6,hz];lia)]
 simp![hX]
def Ut:dEq (.str "rest") (.str "note")=.ok (.bl false)[8]:=by kernel_rfl
def Uu:dEq (.str "note") (.str "note")=.ok (.bl true)[8]:=by kernel_rfl
def qdR{ρ:Rho}{e:EF}(h:e ρ=.ok (.od (.lst ds)))(z:vQ i ρ=true):uH i e ρ=.nx (ρ.set i (!(.od (.lst ds)))):=by
 delta uH;rw[h]
 show uG i ρ (.od (.lst ds))=_
 delta uG;dsimp only;rw[iP z]
def qdS(ad)(i)(f)(ds)(ρ)(h:∀ d∈ds,∃ w,e (ρ.set i (!d[8]))=.ok w/\ad w=.ok (f d)):zD ad (gV i) qI e ds ρ=.ok (ds.map f):=kN i f ds ρ h
def qdT{ad:En->R D}{mk:List D->D}{n:Nat}{it:IF}{ds ys:List D}(h:it ρ=.ok ds)(z:ds[1]<=sz)(h2:zD ad gf qI e ds (jh n ρ)=.ok ys):V1 ad mk n it gf e ρ=.ok (.od (mk ys)):=Yx h z h2
def PsOk(ps:List Int):Prop:=ps≠[]/\ps[1]<=24/\(∀ p∈ps,0<=p/\p<=127)/\ps.Pairwise (· < ·)
def pv:Ev->Int
 | .rest v=>v
 | .note v _ _=>v
def PeOk:Ev->Prop
 | .rest v=>1<=v
 | .note v ps _=>1<=v/\PsOk ps
def TieB:Option (List Int)->List Ev->Option (List Int)->Prop
 | g,[],g'=>g'=g
 | g,.rest _::r,g'=>g=none/\TieB none r g'
 | g,.note _ ps t::r,g'=>(g=none\/g=!ps)/\TieB (if t then !ps else none) r g'
theorem Uv:∀ es S S',jM es S=!S'->TieB (S.2.2.map Prod.snd) es (S'.2.2.map Prod.snd)/\S'.2.1=S.2.1+(es.map pv).sum
 | [],S,S',h=>by cases h;show#[rfl,by simp]
 | e::es,(told,t,g),S',h=>by
  have h:(vx (told,t,g) e).bind (jM es)=!S':=h;have sm:∀ x,x+((e::es).map pv).sum=x+pv e+(es.map pv).sum:=λx=>by rw[gP,fW];lia
  have key:∀ T,vx (told,t,g) e=!T->TieB (T.2.2.map Prod.snd) es (S'.2.2.map Prod.snd)/\S'.2.1=T.2.1+(es.map pv).sum:=λT hT=>by
   rw[hT]at h;show Uv es T S' h
  rw[sm];cases e with
  | rest v =>
   cases g with
   | none=>let⟨a,b⟩:=key _ rfl;show#[#[rfl,a],b]
   | some g=>cases h
  | note v ps d =>
   cases g with
   | none =>
    cases d
    .let⟨a,b⟩:=key _ rfl;show#[#[.inl rfl,a],b]
    let⟨a,b⟩:=key _ rfl;show#[#[.inl rfl,a],b]
   | some g =>
    by_cases c:ps=g.2
    .have w:vx (told,t,!g) (.note v ps d)=(if d then !(told,t+v,!g)else !(told++[(g.1,t+v-g.1,ps)],t+v,none)):=iP c
     cases d
     .let⟨a,b⟩:=key _ w;show#[#[.inr (congrArg some c.symm),a],b]
     let⟨a,b⟩:=key _ w;subst c;show#[#[.inr rfl,a],b]
    rw[show vx (told,t,!g) (.note v ps d)=none from iN c]at h
    cases h
def hcE:Ev->Nat
 | .rest _=>0
 | .note _ ps _=>ps[1]
def hcR(es:List Ev):Nat:=(es.map hcE).sum
def VX(a b):hcR (a++b)=hcR a+hcR b:=by delta hcR;rw[hX,dP]
def Uw(n):hcR (jI n)=0:=by
 delta jI
 induction zt n with
 | nil=>rfl
 | cons x l ih=>show(pL _).trans ih
def qdU(c:Ch):∀(vs:List Int) (t:Int),hcR (zz c t vs)=vs[1]*c.2.2.length:=λvs=>vs.rec
 (λt=>by simp[zz,hcR])
 λv vs IH t=>by
  have:=IH (t+v);show c.2.2.length+hcR (zz c (t+v) vs)=_;rw[this,gJ,Nat.succ_mul];lia
def qdV:((List.range 513).all λn=>decide ((zt n)[1]<=if n<=96 then 4 else 8))=true:=by decide +kernel
def JZ(L)(p)(h:(L<=96/\p=4)\/(L<=512/\p=8))(n)(h0:0<=n)(h1:n<=L):(zt n)[1]<=p:=by
 let⟨m,rfl⟩:=pI h0;have:=pD.mp qdV m (b7.mpr "")
 lia
def Ux(n)(h:n<=512):(zt n)[1]<=8:=by
 by_cases c:0<=n
 .show JZ 512 8 (.inr #["",rfl]) n c h
 have e:zt n=zt (n%112):=by
  show List.replicate (n/112).toNat 112++zS _ (n%112)=List.replicate (n%112/112).toNat 112++zS _ (n%112%112)
  grind
 rw[e];show JZ 512 8 (.inr #["",rfl]) _ "" ""
def Uy(b e L)(p)(hp:∀ n,0<=n->n<=L->(zt n)[1]<=p)(B:e-b<=L)(O:L<=512):∀ v,(∀ c∈v,PsOk c.2.2)->((∀ x∈zT v b e,PeOk x)/\(zT v b e)[1]<=16*v[1]+8)/\hcR (zT v b e)<=p*jy v:=by
 have rs:∀ n,∀ x∈jI n,PeOk x:=λn x hx=>by
  let⟨y,hy,z⟩:=gK.mp hx;subst z;have:=VR n y hy;show 1<=y;lia
 have rl:∀ n,n<=512->(jI n)[1]<=8:=λn h=>by delta jI;rw[g6];show Ux n h
 have nt:∀ c,PsOk c.2.2->∀ vs t,(∀ v∈vs,0<v)->∀ x∈zz c t vs,PeOk x:=by
  intro c hc vs
  induction vs with
  | nil=>intro t _ x hx;simp[zz]at hx
  | cons v vs ih =>
   intro t h x hx;rcases gw.mp hx with z|z
   .subst z;have:=h v "s"
    show#["",hc]
   show ih (t+v) (λy hy=>h y (gj _ hy)) x z
 have go:∀ v S,(∀ c∈v,PsOk c.2.2)->(∀ x∈S.1,PeOk x)->b<=S.2->((∀ x∈(v.foldl (jZ b e) S).1,PeOk x)/\(v.foldl (jZ b e) S).1.length<=S.1.length+16*v[1]/\b<=(v.foldl (jZ b e) S).2)/\hcR (v.foldl (jZ b e) S).1<=hcR S.1+p*jy v:=by
  intro v
  induction v with
  | nil=>intro S _ h h2;show#[#[h,by simp,h2],by simp]
  | cons c v ih =>
   intro S hc h h2;have tc:p*jy (c::v)=p*c.2.2.length+p*jy v:=by
    show p*(c.2.2.length+jy v)=_;rw[Nat.mul_add]
   rw[cB,tc,gJ];have hv:∀ c∈v,PsOk c.2.2:=λx hx=>hc x (gj _ hx)
   by_cases g:(if b>c.1 then b else c.1)<(if e<cend c then e else cend c)
   .have st:jZ b e S c=((S.1++jI ((if b>c.1 then b else c.1)-S.2))++vw c (if b>c.1 then b else c.1) (if e<cend c then e else cend c),if e<cend c then e else cend c):=iP g
    rw[st];generalize hf:(if b>c.1 then b else c.1)=f at *
    generalize hk:(if e<cend c then e else cend c)=k at *
    have fb:b<=f:=by rw[<- hf];split<;>lia
    have ke:k<=e:=by rw[<- hk];split<;>lia
    have l1:=rl (f-S.2) ""
    have l2:=Ux (k-f) ""
    let⟨⟨a,a2,a3⟩,d⟩:=ih ((S.1++jI (f-S.2))++vw c f k,k) hv (λx hx=>by
     rcases gE.mp hx with z|z
     .rcases gE.mp z with z|z
      .show h x z
      show rs _ x z
     show nt c (hc c "s") _ _ (VR _) x z) (show b<=k by lia)
    show#[#[a,tY a2 ?_,a3],tY d ?_]
    .show((S.1++jI (f-S.2))++vw c f k)[1]+_<=_;rw[gD,gD,vw,VS];lia
    show hcR ((S.1++jI (f-S.2))++vw c f k)+_<=_;rw[VX,VX,Uw,vw,qdU];have:=Nat.mul_le_mul_right c.2.2.length (hp (k-f) "" "")
    lia
   rw[show jZ b e S c=S from iN g]
   let⟨⟨a,a2,a3⟩,d⟩:=ih S hv h h2;show#[#[a,"",a3],""]
 intro v hv;let⟨⟨a,a2,a3⟩,d⟩:=go v ([],b) hv (λx hx=>by simp at hx) (pE b)
 delta zT Qc
 show#[#[λx hx=>?_,?_],?_]
 .rcases gE.mp hx with z|z
  .show a x z
  show rs _ x z
 .have:=rl (e-(v.foldl (jZ b e) ([],b)).2) ""
  rw[gD];simp at a2;lia
 rw[VX,Uw];have z:hcR ([],b).1=0:=rfl;rw[z]at d;lia
def xO(a b):jy (a++b)=jy a+jy b:=by delta jy;rw[hX,dP]
def qdW:∀(vs:Vs) (c:Ch),jy (ze vs c).flatten=jy vs.flatten+c.2.2.length:=λvs=>vs.rec
 (λc=>by simp[ze,jy])
 λv vs IH c=>by
  unfold ze;split
  .rw[tQ,tQ,xO,xO,xO];simp[jy];lia
  rw[tQ,tQ,xO,xO,IH c];lia
def qdX:∀(cs:List Ch) (vs ws:Vs),run vs cs=!ws->jy ws.flatten=jy vs.flatten+jy cs:=λcs=>cs.rec
 (λvs ws h=>by cases h;simp[jy])
 λc cs IH vs ws h=>by
  unfold run at h;by_cases g:qX vs c.1=8
  .simp_all
  rw[iN g]at h;rw[IH _ ws h,qdW];show _=_+(c.2.2.length+jy cs);lia
def qdY(b e L:Int)(p:Nat)(hp:∀ n:Int,0<=n->n<=L->(zt n)[1]<=p)(z:e-b<=L)(B:L<=512):∀(vs:Vs),(∀ v∈vs,∀ c∈v,PsOk c.2.2)->((vs.map λv=>hcR (zT v b e)).sum)<=p*jy vs.flatten:=λvs=>vs.rec
 (λ_=>by simp)
 λv vs IH h=>by
  have a:=(Uy b e L p hp z B v (h v "s")).2
  have d:=IH λw hw=>h w (gj _ hw)
  rw[gP,fW,tQ,xO];lia
def PRow(r:List Ev):Prop:=(∀ e∈r,PeOk e)/\r[1]<=500/\1<=r[1]
def rwD(r:List Ev):D:=.lst (r.map evD)
def brD(z:List (List Ev)):D:=.lst (z.map rwD)
def qdZ{t:TF}{n:Nat}(h:t ρ=.ok false):zO t b (n+1) ρ=.nx ρ:=by
 unfold zO;rw[h];rfl
def qe0{t:TF}{b:SF}{n:Nat}(h:t ρ=.ok true)(h2:b ρ=.nx ρ2):zO t b (n+1) ρ=zO t b n ρ2:=by
 show sOf (t ρ) (λc=>if c=true then(match b ρ with|.nx ρ2=>zO t b n ρ2|.ct ρ2=>zO t b n ρ2|.bk ρ2=>.nx ρ2|o=>o)else .nx ρ)=_
 rw[h,h2];rfl
def dk(ms:List (Int×Int×Int)):List (Sum Int Str×D):=ms.map λp=>(Sum.inl p.1,D.int (jx p))
def qe1{b:Int}:∀{ms:List (Int×Int×Int)},look (Sum.inl b:Sum Int Str) (dk ms)=none->∀ p∈ms,p.1≠b:=λ{r}=>r.rec
 (@λ_ p hp=>by simp at hp)
 λq r IH=>@λh p hp=>by
  by_cases c:q.1=b
  .simp[dk,look,c]at h
  have h2:look (Sum.inl b) (dk r)=none:=by simpa[dk,look,c]using h
  rcases gw.mp hp with rfl|hp
  .show c
  show IH h2 p hp
def qe2{b:Int}:∀{ms:List (Int×Int×Int)},ms.Pairwise (λp q=>p.1<q.1)->look (Sum.inl b:Sum Int Str) (dk ms)=!d->∃ v,d=.int v/\(vv ms b).getLast?=!v:=λ{r}=>r.rec
 (@λ_ h=>by simp[dk,look]at h)
 λq r IH=>@λhp h=>by
  rw[fF]at hp;by_cases c:q.1=b
  .have hd:D.int (jx q)=d:=by simpa[dk,look,c]using h
   show#[jx q,hd.symm,?_];have e:r.filter (λp=>decide (p.1<=b))=[]:=fR.mpr λp z=>by
    have:=hp.1 p z;simp;lia
   delta vv
   rw[pJ (by simp;lia),e]
   rfl
  have h2:look (Sum.inl b) (dk r)=!d:=by simpa[dk,look,c]using h
  let⟨v,e1,e2⟩:=IH hp.2 h2;show#[v,e1,?_]
  delta vv at e2 ⊢
  by_cases c2:q.1<=b
  .rw[pJ c2[""],gP,List.getLast?_cons,e2]
   rfl
  rw[List.filter_cons_of_neg c2[""]]
  show e2
def xP(ms:List (Int×Int×Int)):Nat->Int
 | 0=>0
 | i+1=>ji ms i
def qe3(f:Fine ms)(i:Nat):QU (look (Sum.inl (i:Int)) (dk ms)) (xP ms i)[7]=.ok (ji ms i)[7]:=by
 cases e:look (Sum.inl (i:Int)) (dk ms)with
 | some d =>
  let⟨v,rfl,e2⟩:=qe2 f.1 e;simp[ji,e2,QU]
 | none =>
  have n:=qe1 e;have:xP ms i=ji ms i:=by
   cases i with
   | zero =>
    have:vv ms 0=[]:=by
     delta vv
     rw[fR.mpr,pW];intro p hp;have h1:=n p hp;have h2:=f.2.1 p hp;lia
    simp[xP,ji,this]
   | succ i =>
    have:vv ms (i+1)=vv ms i:=by
     delta vv
     congr 1;apply List.filter_congr;intro p hp;have h1:=n p hp;simp at h1 ⊢;lia
    show ji ms i=ji ms (i+1)
    delta ji
    rw[this]
  simp[this,QU]
def qe4(ms)(b):((dk ms).any λkv=>decide (kv.1=Sum.inl b))=ms.any λp=>decide (p.1=b):=by
 delta dk
 rw[List.any_map];congr 1;funext p;simp
def qe5(f:Fine ms)(z:Nat)(O:z<=200) :
  uY [.br (.lst (ms.map qz)),.fz z[6]]=.ok (.lst ((List.range z).map λb:Nat=>D.int (ji ms b)))[9]:=by
 have hz:sz=16777216:=rfl;have hl:=f.2.2.2;unfold uY Xi;left;rw[YG (ds:=ms.map qz) rfl];left;let⟨ρ1,e1,j3,h1⟩:=vV (ms.map qz) (λi ρ=>∃ j3,ρ=[!(.br (.lst (ms.map qz))),!z[7],!(.dK (dk (ms.take i)))[9],j3,none,none,none])
  (g:=gV 3) (b:=wj 2 (eOp qe (q9 3) 0[5]) (qi wB [(q9 3)]))
  (ρ:=[!(.br (.lst (ms.map qz))),!z[7],!(.dK [])[9],none,none,none,none]) #[none,by simp[dk]] (λi x ρ hx #[j3,hρ]=>by
   subst hρ;rw[gH]at hx;cases ep:ms[i]? with
   | none=>rw[ep]at hx;cases hx
   | some p =>
    rw[ep]at hx;cases hx;have hp:=f.2.1 p (t6 ep);have hi:i<ms[1]:=(gp.mp ep).1;show#[_,_,rfl,.inl ?_,!(qz p)[8],rfl];have tl:=VH p hp.2;rw[YH (kvs:=dk (ms.take i)) (d:=.int (jx p)) (w:=.fz (.int p.1)) (key:=.inl p.1) rfl (by simp![tl]) (by simp![qz]) rfl (by simp[dk,hz];lia)]
    have nk:¬ ((dk (ms.take i)).any λkv=>decide (kv.1=Sum.inl p.1))=true:=by
     rw[qe4,List.any_eq_true];rintro⟨q,hq,e⟩;have e3:ms=ms.take i++p::ms.drop (i+1):=by
      rw[gG hi]at ep;cases ep;simp
     have pw:=f.1;rw[e3,gW]at pw;have:=pw.2.2 q hq p h9;lia
    have e4:jk (Sum.inl p.1) (D.int (jx p)) (dk (ms.take i))=dk (ms.take (i+1)):=by
     unfold jk;rw[iN nk,List.take_succ,ep];simp[dk]
    rw[e4];rfl)
 rw[e1];subst h1;rw[g6,cK];left;rw[QT (n:=z) (by left) ""]
 left;let⟨B,e2,j6,h2⟩:=QL z (λi ρ=>∃ j6,ρ=[!(.br (.lst (ms.map qz))),!z[7],!(.dK (dk ms))[9],j3,!(.lst ((List.range i).map λb:Nat=>D.int (ji ms b)))[9],!(xP ms i)[7],j6])
  (g:=gV 6) (b:=qg (qk 5 (uk (q9 2) (q9 6) (q9 5))) (qC 4 (q9 5)))
  (ρ:=[!(.br (.lst (ms.map qz))),!z[7],!(.dK (dk ms))[9],j3,!(.lst [])[9],!0[7],none]) #[none,rfl] (λi ρ hi #[j6,hρ]=>by
   subst hρ;show#[_,_,rfl,.inl ?_,!i[7],rfl];left;rw[qaH (kvs:=dk ms) (wd:=.br (.dK (dk ms))) (wk:=.fz i[6]) (wx:=.fz (xP ms i)[6]) (q:=.inl i) rfl rfl rfl rfl rfl,qe3 f i];left;rw[jR (xs:=(List.range i).map λb:Nat=>D.int (ji ms b)) (d:=.int (ji ms i)) rfl (by simp[hz];lia) rfl]
   simp[cZ,xP])
 rw[e2];subst h2;left
def VY(ms:List (Int×Int×Int))(t:Int)(B:Nat)(P:Int):Prop:=0<=P/\P<ji ms B/\qG ms B+P=t
abbrev Uz:SF:=qt (jG [(eOp qD (q9 2) (eOp vU (eOp jc (q9 1) (q9 3)) (q9 4))),(eOp vJ (eOp jc (q9 1) (q9 3)) (q9 4))])
def UA{p:Int×Int×Int}(f:Fine ms)(l:Lens ms)(e:ms=pre++p::post){t:Int}(h1:qG ms p.1.toNat<=t)(h2:∀ q∈post,t-qG ms p.1.toNat<(q.1-p.1)*jx p)(w)(j5 j6) :
  ∃ B P,fin ((Out.nx [w,!t[7],!(.int p.1)[8],!(qG ms p.1.toNat)[7],!(jx p)[7],j5,j6]).th Uz)=.ok (.tup [.int (B:Nat),.int P])[8]/\VY ms t B P:=by
 have hp:p∈ms:=by rw[e];simp
 have f1:=f.2.1 p hp;have l1:=l p hp;have hx:0<=t-qG ms p.1.toNat:=""
 have d0:0<=(t-qG ms p.1.toNat)/jx p:=bF hx ""
 have z:∀ q∈post,p.1+(t-qG ms p.1.toNat)/jx p<q.1:=λq hq=>by
  have:=Int.ediv_lt_of_lt_mul "" (h2 q hq)
  lia
 let⟨k,hk⟩:=pI d0;have eB:(p.1.toNat+k:Nat)=p.1+(t-qG ms p.1.toNat)/jx p:=by rw[hk];lia
 show#[p.1.toNat+k,(t-qG ms p.1.toNat)%jx p,?_,dN _ "",?_,?_]
 .simp![QS (j:=jx p) "" "",yJ (j:=jx p) "",eB]
 .rw[XS e "" λq hq=>by have:=z q hq;lia]
  show bN _ ""
 rw[XT e f1.1 k λq hq=>by have:=z q hq;lia]
 have:=cj (t-qG ms p.1.toNat) (jx p);rw[hk,Int.mul_comm]at this;lia
def qe6(f:Fine ms)(l:Lens ms)(t)(Z:0<=t) :
  ∃ B P,Jy [.br (.lst (ms.map qz)),.fz t[6]]=.ok (.tup [.int (B:Nat),.int P])[8]/\VY ms t B P:=by
 delta Jy Xj
 left;show ZG (Q:=λo=>∃ B P,fin (o.th Uz)=.ok (.tup [.int (B:Nat),.int P])[8]/\VY ms t B P) (ms.map qz)
  (λi ρ=>∃ b g n j5 j6,ρ=[!(.br (.lst (ms.map qz))),!t[7],!b[7],!g[7],!n[7],j5,j6] /\
   ((i=0/\b=0/\g=0/\n=0)\/∃ pre p post,ms=pre++p::post/\pre[1]+1=i/\b=p.1/\g=qG ms p.1.toNat/\n=jx p/\g<=t))
  #[0,0,0,none,none,rfl,.inl #[rfl,rfl,rfl,rfl]] (λi x ρ hx #[b,g,n,j5,j6,hρ,hI]=>?_) (λρ #[b,g,n,j5,j6,hρ,hI]=>?_)
 .subst hρ;rw[gH]at hx;cases eq:ms[i]? with
  | none=>rw[eq]at hx;cases hx
  | some q =>
   rw[eq]at hx;cases hx;have hq:=t6 eq;have f1:=f.2.1 q hq;have tl:=VH q f1.2;have hi:i<ms[1]:=(gp.mp eq).1;show#[_,rfl,?_];rcases hI with⟨rfl,rfl,rfl,rfl⟩|⟨pre,p,post,e,hl,rfl,rfl,rfl,hg⟩
   .have q0:q.1=0:=by
     let⟨p,hp,Y⟩:=f.2.2.1;cases ms with
     | nil=>simp at hi
     | cons m r =>
      simp at eq;subst eq;rcases gw.mp hp with rfl|hp
      .show Y
      have:=(fF.mp f.1).1 p hp;lia
    have hd:decide (t<0)=false:=by simp;omega
    simp![qz,ZL (i:=q.1-0) (j:=0) "d" "d",Int.mul_zero,Int.add_zero,hd]
    have tl:wB [.fz (.tup [.int q.1,.int q.2.1,.int q.2.2])]=.ok (jx q)[7]:=tl;simp![tl];show#[q.1,0,jx q,!(qz q)[8],!0[7],rfl,.inr ?_];cases ms with
    | nil=>simp at hi
    | cons m r =>
     simp at eq;subst eq;show#[[],m,r,rfl,rfl,rfl,by rw[q0];rfl,rfl,Z]
   have hp:p∈ms:=by rw[e];simp
   have fp:=f.2.1 p hp;have lp:=l p hp;obtain⟨z,rfl⟩:∃ z,post=q::z:=by
    rw[e,<- hl,t4 ""]at eq
    cases post with
    | nil=>simp[show pre[1]+1-pre[1]=1 by lia]at eq
    | cons m r =>
     simp[show pre[1]+1-pre[1]=1 by lia]at eq
     show#[r,by rw[eq]]
   have pw:=f.1;rw[e,gW]at pw;have U:=fF.mp pw.2.1;have pq:p.1<q.1:=U.1 q h9;have after:∀ r∈z,q.1<r.1:=(fF.mp U.2).1;have O:=XT e fp.1 (q.1-p.1).toNat λr hr=>by
    rcases gw.mp hr with rfl|hr
    .omega
    have:=after r hr;omega
   rw[show p.1.toNat+(q.1-p.1).toNat=q.1.toNat by omega,show((q.1-p.1).toNat)=q.1-p.1 by omega]at O
   have tl:wB [.fz (.tup [.int q.1,.int q.2.1,.int q.2.2])]=.ok (jx q)[7]:=tl;simp![qz,ZL (i:=q.1-p.1) (j:=jx p) "" ""]
   rw[<- O];by_cases c:t<qG ms q.1.toNat
   .have hd:decide (t<qG ms q.1.toNat)=true:=by simpa using c
    simp![hd];show UA f l e hg (λr hr=>?_) _ _ _
    rw[O]at c;rcases gw.mp hr with rfl|hr
    .lia
    have a1:=after r hr;have:=tG (show q.1-p.1<=r.1-p.1 by lia) (show 0<=jx p by lia)
    lia
   have hd:decide (t<qG ms q.1.toNat)=false:=by simpa using c
   simp![hd,tl];show#[q.1,qG ms q.1.toNat,jx q,!(qz q)[8],!(qG ms q.1.toNat)[7],rfl,.inr #[pre++[p],q,z,by rw[e];simp,by simp;omega,rfl,rfl,rfl,""]]
 subst hρ;rcases hI with⟨h0,_⟩|⟨pre,p,post,e,hl,rfl,rfl,rfl,hg⟩
 .let⟨p,hp,_⟩:=f.2.2.1;rw[g6]at h0;rw[fq.mp h0]at hp;simp at hp
 have:post=[]:=by
  rw[g6,e]at hl;simp at hl;show hl
 subst this;show UA f l e hg (λq hq=>by simp at hq) _ _ _
def qe7{ρ:Rho}{ds:List D}(h:ρ[i]?=!(!(.lst ds)[8])):zo i ρ=.ok (numd 0 ds):=by delta zo;rw[h]
def UB{f:D->En}(B:f=.fz\/f=.br)(d):kP (!(!(f d)))=.ok (f d):=by rcases B with z|z<;>(subst z;rfl)
def qe8{f:D->En}(B:f=.fz\/f=.br)(d):(f d).dd=d:=by rcases B with z|z<;>(subst z;rfl)
def qe9{f:D->En}(B:f=.fz\/f=.br)(d):(f d).argo=.ok (f d):=by rcases B with z|z<;>(subst z;rfl)
def qea{i:Nat}{f:D->En}(B:f=.fz\/f=.br)(h:ρ[i]?=!(!(f (.lst ds)))):zo i ρ=.ok (numd 0 ds):=by rcases B with z|z<;>(subst z;unfold zo;rw[h])
def Z0(p:Nt):Bool:=zJ 0 1000 (.int p.1)&&(zJ 1 400 (.int p.2.1)&&zJ 0 127 (.int p.2.2))
def qeb(p):yu [.fz (ntD p),.fz uP]=.ok (.bl (Z0 p))[8]:=XV (.int p.1) (.int p.2.1) (.int p.2.2) 0 1000 1 400 0 127 rfl rfl rfl
def UC(n):zR [.fz (ntD n)]=.ok (n.1+n.2.1)[7]:=by
 rfl
def qec(n o):uX [.fz (ntD n),.fz (ntD o)]=.ok (.bl (hits n o))[8]:=by
 have e2:zR [.fz (.tup [.int o.1,.int o.2.1,.int o.2.2])]=.ok (o.1+o.2.1)[7]:=UC o
 delta uX Xd hits
 simp![ntD];cases (n.2.2==o.2.2)
 .rfl
 simp![e2];cases decide (n.1<o.1+o.2.1)
 .rfl
 rfl
def qed(n o):hits n o=hits o n:=by
 delta hits
 rw[Bool.and_comm (decide (n.1<o.1+o.2.1)),show(n.2.2==o.2.2)=(o.2.2==n.2.2)from Bool.beq_comm]
def qee{f:D->En}(B:f=.fz\/f=.br)(ds)(n:Nat)(pre:List Nt)(p)(hp:ds.take n=pre.map ntD)(hd:ds[n]?=!(ntD p)):xC [f (.lst ds),.fz n[6]]=.ok (.bl (pre.any λo=>hits o p))[8]:=by
 have ix:okD (ati ds n)=.ok (ntD p)[8]:=by rw[zw,hd];rfl
 unfold xC Xu;left;rw[vk (by rcases B with z|z<;>(subst z;left)) rfl,((qd2 ds n).trans hp)]
 have go:∀(os:List Nt) j2,fin ((qH (gV 2) (sIf (tE (qi uX [(q9 2),(eOp qe (q9 0) (q9 1))])) (qt (eC (.bl true))) qw) (os.map ntD)
   [!(f (.lst ds)),!n[7],j2]).th (qt (eC (.bl false))))=.ok (.bl (os.any λo=>hits o p))[8]:=by
  intro os
  induction os with
  | nil=>intro j2;rfl
  | cons o os ih =>
   intro j2;rw[gP,vd rfl];simp![UB B,qe8 B,ix,(qec o p),bv];cases hits o p
   .simp![Bool.false_or];show ih _
   rfl
 show go pre none
def VZ(ds:List D)(n:Nat):Prop:=∃(p:Nt) (pre:List Nt),ds[n]?=!(ntD p)/\Z0 p=true/\ds.take n=pre.map ntD/\(pre.any λo=>hits o p)=false
def qef{f:D->En}(B:f=.fz\/f=.br)(ds)(h2:ds[1]<=60):yT [f (.lst ds),.fz 0[6],.fz Jn]=.ok (.bl true)[8]:=by
 unfold yT Vx;rcases B with z|z<;>(
  subst z;simp![Jn];rw[show decide (0<=(ds[1]:Int))=true by simp]
  left;rw[show decide ((ds[1]:Int)<=60)=true by simp;lia])
def W1:SF:=(sIf (tOr (za (tE (qi yu [(q9 2),(eC uP)]))) (tE (qi xC [(q9 0),(q9 1)]))) zF qw)
def qeg{f:D->En}(B:f=.fz\/f=.br){n:Nat}(g:VZ ds n)(hd:ds[n]?=!d):W1 [!(f (.lst ds)),!n[7],!d[8]]=.nx [!(f (.lst ds)),!n[7],!d[8]]:=by
 let⟨p,pre,e1,tb,ep,ea⟩:=g;rw[e1]at hd;cases hd;have a:=qee B ds n pre p ep e1;unfold W1;rcases B with z|z<;>(subst z;simp![(qeb p),tb,a,ea])
def qeh{f:D->En}(B:f=.fz\/f=.br){ds es:List D}(h2:ds[1]<=60)(g:∀ n,n<ds[1]->VZ ds n)(O:wt [.lst ds]=.ok (.lst es)[9]):Q6 [f (.lst ds)]=.ok (.lst es)[9]:=by
 unfold Q6 XE;simp![UB B,qe9 B,(qef B ds h2)];rw[qea B rfl];left;let⟨ρ',e,j1,j2,hI⟩:=vV (numd 0 ds) (λi ρ=>∃ j1 j2,ρ=[!(f (.lst ds)),j1,j2]) (g:=gT [1,2]) #[none,none,rfl] (λi x ρ hx #[j1,j2,hρ]=>by
  subst hρ;let⟨d,e1,rfl⟩:=JU hx;show#[_,_,rfl,.inl (qeg B (g i (gp.mp e1).1) e1),_,_,rfl])
 rw[show(sIf (tOr (za (tE (qi yu [(q9 2),(eC uP)]))) (tE (qi xC [(q9 0),(q9 1)]))) zF qw)=W1 from rfl,e]
 subst hI;rcases B with z|z<;>(subst z;simp![O])
structure GN(ns:List Nt):Prop where
 l:ns[1]<=24
 b:∀ n∈ns,0<=n.1/\n.1<=1000/\1<=n.2.1/\n.2.1<=400/\0<=n.2.2/\n.2.2<=127
 ap:ns.Pairwise λo n=>hits o n=false
def qei(h:NotesOk ns)(z:ns[1]<=24):GN ns:=#[z,h.b,h.ap.imp λ{o n} q=>by rw[qed];show q]
def qej(h:0<=p.1/\p.1<=1000/\1<=p.2.1/\p.2.1<=400/\0<=p.2.2/\p.2.2<=127):Z0 p=true:=by
 let⟨h1,h2,h3,h4,h5,h6⟩:=h;simp[Z0,zJ,h1,h2,h3,h4,h5,h6]
def qek(g:GN ns){ds:List D}{n m:Nat}(B:ds.take n=(ns.take n).map ntD)(O:m<n)(U:n<=ns[1]):VZ ds m:=by
 have z:m<ns[1]:=""
 have em:ds[m]?=!(ntD ns[m]):=by
  have:(ds.take n)[m]?=ds[m]?:=by rw[pY,iP O]
  simp_all
 show#[ns[m],ns.take m,em,qej (g.b _ (fw _)),?_,?_]
 .have:=congrArg (List.take m) B;rw[b9,<- List.map_take,b9,pB ""]at this
  show this
 rw[List.any_eq_false];intro o ho;let⟨k,hk,rfl⟩:=List.getElem_of_mem ho;rw[tD]at hk;have:=tX.mp g.ap k m "" z ""
 simp_all
def qel(g:GN ns):(ns.map ntR).Nodup:=by
 show List.Pairwise _ _;rw[fy];show dC (λ{o n} ho hn q z=>?_) g.ap
 have e:=XW z;subst e;have hb:=g.b o ho
 delta hits at q
 simp at q
 omega
def qem(g:GN ns):wt [.lst (ns.map ntD)]=.ok (.lst ((qQ ns).map ntD))[9]:=by
 have e1:ns.map ntD=(ns.map ntR).map qP:=by rw[gZ];rfl
 have l:=g.l;rw[e1,VL (qel g) (by rw[g6];lia) (λz=>by let⟨n,_,e⟩:=gK.mp z;cases e),<- Qa,gZ]
 rfl
def qen{f:D->En}(B:f=.fz\/f=.br){z:List Nt}(g:GN z):Q6 [f (.lst (z.map ntD))]=.ok (.lst ((qQ z).map ntD))[9] :=
 qeh B (by have:=g.l;rw[g6];lia) (λn hn=>qek g (by rw[<- List.map_take]) hn[""] (gC _)) (qem g)
def TB(p:Int×Int×Int):Prop:=0<=p.1/\p.1<=1000/\1<=p.2.1/\p.2.1<=24/\p.2.2∈([1,2,4,8,16,32,64]:List Int)/\8<=jx p/\jx p<=512
def qeo(p)(h:TB p):xF [.fz (qz p)]=.ok (.bl true)[8]:=by
 let⟨a1,a2,b1,b2,u,l1,l2⟩:=h;have u1:1<=p.2.2/\p.2.2<=64/\QX (.int p.2.2) Vu=.ok (.bl false)[8]:=by
  simp[gw,fV,bw]at u;rcases u with u|u|u|u|u|u|u<;>(rw[u];show#[by decide,by decide,by kernel_rfl])
 have e:=XV (.int p.1) (.int p.2.1) (.int p.2.2) 0 1000 1 24 1 64 rfl rfl rfl;simp[zJ,a1,a2,b1,b2,u1.1,u1.2.1,Bool.and_self]at e;have tl:wB [.fz (.tup [.int p.1,.int p.2.1,.int p.2.2])]=.ok (jx p)[7]:=VH p #["",b2]
 delta xF XH qz
 simp![Vt,e,u1.2.2,tl,Vv,Vw,l1,l2,decide_true]
def qep(ds)(p)(h:ds[0]?=!(qz p)):yr [.fz (.lst ds),.fz 0[6]]=.ok (.bl (p.1==0))[8]:=by
 have e:okD (ati ds 0)=.ok (qz p)[8]:=by rw[show 0=((0:Nat):Int)from rfl,zw,h];rfl
 delta yr Vy
 left;rw[show((0:Int)==0)=true from rfl]
 simp![e,qz]
def qeq(ds)(n)(p q)(h:ds[n+1]?=!(qz p))(z:ds[n]?=!(qz q)):yr [.fz (.lst ds),.fz (n+1:Nat)[6]]=.ok (.bl (decide (q.1<p.1)))[8]:=by
 have e:okD (ati ds (n+1:Nat))=.ok (qz p)[8]:=by rw[zw,h];rfl
 have e2:okD (ati ds ((n+1:Nat)-1))=.ok (qz q)[8]:=by rw[show(n+1:Nat)-1=(n:Int)by lia,zw,z];rfl
 delta yr Vy
 left;rw[show(((n+1:Nat):Int)==0)=false by simp;lia]
 simp![e,e2,qz]
def W2(ds:List D)(n:Nat):Prop:=∃ p,ds[n]?=!(qz p)/\TB p/\(n=0->p.1=0)/\∀ m,n=m+1->∃ q,ds[m]?=!(qz q)/\q.1<p.1
def qer(d:D)(ds)(h1:1<=ds[1])(h2:ds[1]<=20):yT [.fz (.lst ds),.fz 1[6],.fz Jp]=.ok (.bl true)[8]:=by
 delta yT Vx
 simp![Jp];rw[show decide (1<=(ds[1]:Int))=true by simp;lia]
 left;rw[show decide ((ds[1]:Int)<=20)=true by simp;lia]
def W3:SF:=(sIf (tOr (za (tE (qi xF [(q9 2)]))) (za (tE (qi yr [(q9 0),(q9 1)])))) zF qw)
def qes{j1 j2:Option En}(g:W2 ds n)(hd:ds[n]?=!d):W3 [!(.lst ds)[8],!n[7],!d[8]]=.nx [!(.lst ds)[8],!n[7],!d[8]]:=by
 let⟨p,e1,tb,z0,zs⟩:=g;rw[e1]at hd;cases hd
 delta W3
 simp![(qeo p tb)];cases n with
 | zero =>
  simp![(qep ds p e1),z0 rfl,beq_self_eq_true]
 | succ m =>
  let⟨q,e2,lt⟩:=zs m rfl;simp![(qeq ds m p q e1 e2),lt,decide_true]
def qet(h1:1<=ds[1])(h2:ds[1]<=20)(g:∀ n,n<ds[1]->W2 ds n):JO [.fz (.lst ds)]=.ok (.lst ds)[9]:=by
 delta JO XJ
 simp![qer .non ds h1 h2];rw[qe7 rfl];left;let⟨ρ',e,j1,j2,hI⟩:=vV (numd 0 ds) (λi ρ=>∃ j1 j2,ρ=[!(.lst ds)[8],j1,j2]) (g:=gT [1,2]) #[none,none,rfl] (λi x ρ hx #[j1,j2,hρ]=>by
  subst hρ;let⟨d,e1,rfl⟩:=JU hx;show#[_,_,rfl,.inl (qes (j1:=none) (j2:=none) (g i (gp.mp e1).1) e1),_,_,rfl])
 rw[show(sIf (tOr (za (tE (qi xF [(q9 2)]))) (za (tE (qi yr [(q9 0),(q9 1)])))) zF qw)=W3 from rfl,e]
 subst hI;left
structure GM(ms:List (Int×Int×Int)):Prop where
 l1:1<=ms[1]
 l2:ms[1]<=20
 told:∀ p∈ms,TB p
 pw:ms.Pairwise λp q=>p.1<q.1
 z:∀ p,ms[0]?=!p->p.1=0
def UD{ms:List (Int×Int×Int)}{n:Nat}(h):(ms.map qz)[n]?=!(qz ms[n]):=by rw[gH,gG h];rfl
def qeu(g:GM ms){ds:List D}{n:Nat}(O:∀ m,m<=n->ds[m]?=(ms.map qz)[m]?)(B:n<ms[1]):W2 ds n:=by
 show#[ms[n],(O n (gC _)).trans (UD B),g.told _ (fw _),λz=>?_,λm e=>?_]
 .subst z;show g.z _ (gG B)
 subst e;show#[ms[m],(O m "").trans (UD ""),(tX.mp g.pw m (m+1) "" B "")]
def qev(z:List Int):∀ k,mbar z k<=3*k:=λk=>k.recAux
 (by simp[mbar])
 λk IH=>by
  have:=IH;have:=vc (jC z k) 9967 3 "d"
  show mbar z k+1+qV (jC z k) 9967 3<=_;lia
def qew(wd):∀ u∈vH wd,u∈([1,2,4,8,16,32,64])/\8<=k8 wd/\y3 wd<=512:=by cases wd<;>decide
def qex(ns)(wd):GM (vS ns wd):=by
 let⟨m1,m2,_⟩:=JS ns;show#[by simp[vS];omega,by simp[vS];lia,λp hp=>?_,(VF ns wd).1,λp h=>?_]
 .let⟨k,hk,rfl⟩:=gK.mp hp;have hk:=b7.mp hk;have t:=JR (jC ns k) wd;have um:=xJ (jC ns k) wd;let⟨u1,u2,u3,u4,u5,u6,u7⟩:=xK wd _ um;let⟨k1,k2,k3⟩:=qew wd _ um;have b1:=qev ns k;have b0:0<=mbar ns k:=by
   cases k with
   | zero=>show pE _
   | succ k=>show cE (VE ns (Nat.succ_pos k))
  have p2:=bO (tG t.2 "") (bO u7 k3)
  show#[b0,by show mbar ns k<=1000;lia,by show 1<=vt (jC ns k) wd;lia,by show vt (jC ns k) wd<=24;lia,k1,(bO (bO k2 u6) (tG t.1 "")),p2]
 unfold vS at h;rw[gH,cI ""]at h
 cases h;rfl
def qey{i j:Int}(z:a ρ=.ok i[7])(B:b ρ=.ok j[7])(h1:-1000000<i)(h2:i<1000000)(O:-1000000<j)(U:j<1000000):iR2 a b ρ=.ok (zN i (j-i).toNat):=by
 delta iR2
 rw[z,R.bind_ok,B,R.bind_ok];dsimp[En.d];rw[iP];rw[hE];show#[fits_iff.mpr (by rw[b62e];lia),fits_iff.mpr (by rw[b62e];lia)]
def km:Nat->List D
 | 0=>[]
 | n+1=>.int (n:Int)::km n
def qez:∀ n:Nat,xk ((n:Int)-1) (-1) n=km n:=λn=>n.recAux
 (rfl)
 λn IH=>by
  delta xk at ⊢
  rw[List.range_succ_eq_map,gP,gZ];show D.int _::_=D.int n::km n;rw[<- (IH)];congr 1
  .simp
  apply tf;intro k _;show D.int _=D.int _;congr 1
  push_cast
  lia
def qeA{a b c:EF}{n:Nat}(z:a ρ=.ok (n-1)[7])(B:b ρ=.ok (-1)[7])(O:c ρ=.ok (-1)[7])(U:n<100000):iR3d a b c ρ=.ok (km n):=by
 delta iR3d
 rw[z,R.bind_ok,B,R.bind_ok,O,R.bind_ok]
 delta V3
 dsimp only;rw[iP #["","",by decide,by decide,rfl]]
 have:(vm (n-1) (-1) (-1)).toNat=n:=by delta vm;split<;>lia
 rw[this,qez]
def W4:∀ xs:List Int,jX (xs.map D.int)=!xs:=λr=>r.rec
 (rfl)
 λx r IH=>by
  show(match jX (r.map D.int)with|some ns=>↑(x::ns)|none=>none)=_
  rw[IH]
def jF(v:Int):Int->Int->List Int->List (List Int)
 | _,_,[]=>[]
 | p,n,x::r=>[p,v,n]::jF v (p+x) (n+1) r
def qR:Int->List (List Int)->List (List Int)
 | _,[]=>[]
 | v,r::rs=>jF v 0 0 r++qR (v+1) rs
def W5(v:Int):∀(r:List Int) (p n:Int),(jF v p n r)[1]=r[1]:=λr=>r.rec
 (λ_ _=>rfl)
 λx r IH p n=>by simp[jF,IH]
def Qd(v:Int):∀(r:List Int) (p n:Int) (x:List Int),x∈jF v p n r->∃ q m,x=[q,v,m]/\n<=m:=λr=>r.rec
 (λ_ _ x h=>by simp[jF]at h)
 λy r IH p n x h=>by
  rcases gw.mp h with z|h
  .show#[p,n,z,pE _]
  let⟨q,m,e,l⟩:=IH (p+y) (n+1) x h;show#[q,m,e,""]
def qeB(v:Int):∀(r:List Int) (p n:Int),(jF v p n r).Nodup:=λr=>r.rec
 (λ_ _=>List.Pairwise.nil)
 λy r IH p n=>by
  show tL.mpr #[λh=>?_,IH (p+y) (n+1)]
  let⟨q,m,e,l⟩:=Qd v r (p+y) (n+1) _ h;lia
def Qe:∀(rs:List (List Int)) (v:Int) (x:List Int),x∈qR v rs->∃ q u m,x=[q,u,m]/\v<=u:=λrs=>rs.rec
 (λ_ x h=>by simp[qR]at h)
 λr rs IH v x h=>by
  rcases gE.mp h with h|h
  .let⟨q,m,e,_⟩:=Qd v r 0 0 x h;show#[q,v,m,e,pE _]
  let⟨q,u,m,e,l⟩:=IH (v+1) x h;show#[q,u,m,e,""]
def qeC:∀(rs:List (List Int)) (v:Int),(qR v rs).Nodup:=λrs=>rs.rec
 (λ_=>List.Pairwise.nil)
 λr rs IH v=>by
  show fN.mpr #[qeB v r 0 0,IH (v+1),λa ha b hb e=>?_]
  let⟨q,m,e1,_⟩:=Qd v r 0 0 a ha;let⟨q2,u,m2,e2,l⟩:=Qe rs (v+1) b hb;lia
def UE(k:Nat):∀(rs:List (List Int)) (v:Int),(∀ r∈rs,r[1]<=k)->(qR v rs)[1]<=k*rs[1]:=λrs=>rs.rec
 (λ_ _=>by simp[qR])
 λr rs IH v h=>by
  have a:=h r "s"
  have b:=IH (v+1) λx hx=>h x (gj _ hx)
  rw[qR,gD,W5,gJ];lia
abbrev EvS:=D×Int
def W6(e:EvS):Prop:=qe e.1 1[6]=.ok (.int e.2)[8]
def evSB(rs:List (List EvS)):D:=.lst (rs.map λr=>.lst (r.map Prod.fst))
def qeD(W R3)(v):∀(r:List EvS) z p n j5 j6,(∀ e∈r,W6 e)->z[1]+r[1]<=100000->∃ q i5 i6,
  qH (gT [5,6]) (qg (qC 1 (jG [(q9 4),(q9 2),(q9 5)])) (zb 4 zY (eOp qe (q9 6) 1[5]))) (numd n (r.map Prod.fst)) [W,!(.lst (z.map qP))[9],!v[7],R3,!p[7],j5,j6]
  = .nx [W,!(.lst ((z++jF v p n (r.map Prod.snd)).map qP))[9],!v[7],R3,!q[7],i5,i6]:=by
 have hz:sz=16777216:=rfl;intro r
 induction r with
 | nil=>intro z p n j5 j6 _ _;show#[p,j5,j6,by simp[jF,numd,JT]]
 | cons e r ih =>
  intro z p n j5 j6 B hl;rw[gJ]at hl;have ek:qe e.1 1[6]=.ok (.int e.2)[8]:=B e "s"
  let⟨q,i5,i6,h⟩:=ih (z++[[p,v,n]]) (p+e.2) (n+1) (!n[7]) (!(.fz e.1)) (λx hx=>B x (gj _ hx)) (by rw[gD];simp;lia)
  show#[q,i5,i6,?_];show qH _ _ (.tup [.int n,e.1]::numd (n+1) (r.map Prod.fst)) _=_;rw[vd (ρ1:=[W,!(.lst (z.map qP))[9],!v[7],R3,!p[7],!n[7],!(.fz e.1)]) rfl];rw[jv,jR (xs:=z.map qP) (d:=qP [p,v,n]) rfl (by rw[g6];lia) (rfl)]
  have au:∀ A,(zb 4 zY (eOp qe (q9 6) 1[5])) [W,!A[9],!v[7],R3,!p[7],!n[7],!(.fz e.1)]=.nx [W,!A[9],!v[7],R3,!(p+e.2)[7],!n[7],!(.fz e.1)]:=λA=>by
   simp![ek]
  rw[jH];simp only[fP,fQ];rw[au];have e2:(z++[[p,v,n]])++jF v (p+e.2) (n+1:Nat) (r.map Prod.snd)=z++jF v p n ((e::r).map Prod.snd):=by
   rw[hV,gP,jF];simp
  rw[e2]at h;rw[<- h,hX];rfl
def qeE(W):∀(rs:List (List EvS)) z v j2 j3 j4 j5 j6,(∀ r∈rs,∀ e∈r,W6 e)->(∀ r∈rs,r[1]<=600)->z[1]+600*rs[1]<=100000->∃ i2 i3 i4 i5 i6,
  qH (gT [2,3]) (qg (qk 4 0[5]) (qM (zo 3) (gT [5,6]) (qg (qC 1 (jG [(q9 4),(q9 2),(q9 5)])) (zb 4 zY (eOp qe (q9 6) 1[5]))))) (numd v (rs.map λr=>.lst (r.map Prod.fst))) [W,!(.lst (z.map qP))[9],j2,j3,j4,j5,j6]
  = .nx [W,!(.lst ((z++qR v (rs.map (·.map Prod.snd))).map qP))[9],i2,i3,i4,i5,i6]:=by
 intro rs
 induction rs with
 | nil=>intro z v j2 j3 j4 j5 j6 _ _ _;show#[j2,j3,j4,j5,j6,by simp[qR,numd,JT]]
 | cons r rs ih =>
  intro z v j2 j3 j4 j5 j6 B hr hl;rw[gJ]at hl;have r1:=hr r "s"
  let⟨q,k5,k6,h1⟩:=qeD W (!(.lst (r.map Prod.fst))[8]) v r z 0 0 j5 j6 (B r "s") ""
  let⟨i2,i3,i4,i5,i6,h2⟩:=ih (z++jF v 0 (0:Nat) (r.map Prod.snd)) (v+1) (!v[7]) (!(.lst (r.map Prod.fst))[8]) (!q[7]) k5 k6 (λx hx=>B x (gj _ hx)) (λx hx=>hr x (gj _ hx)) (by rw[gD,W5,g6];lia)
  show#[i2,i3,i4,i5,i6,?_];show qH _ _ (.tup [.int v,.lst (r.map Prod.fst)]::numd (v+1) (rs.map λr=>.lst (r.map Prod.fst))) _=_
  rw[vd (ρ1:=[W,!(.lst (z.map qP))[9],!v[7],!(.lst (r.map Prod.fst))[8],j4,j5,j6]) rfl,jv];have s4:(qk 4 0[5]) [W,!(.lst (z.map qP))[9],!v[7],!(.lst (r.map Prod.fst))[8],j4,j5,j6]=.nx [W,!(.lst (z.map qP))[9],!v[7],!(.lst (r.map Prod.fst))[8],!0[7],j5,j6]:=by left
  rw[s4,jH,kX];have it:zo 3 [W,!(.lst (z.map qP))[9],!v[7],!(.lst (r.map Prod.fst))[8],!0[7],j5,j6]=.ok (numd 0 (r.map Prod.fst)):=rfl;rw[it,zQ,h1,y6,h2];have e3:(z++jF v 0 (0:Nat) (r.map Prod.snd))++qR (v+1:Nat) (rs.map (·.map Prod.snd))=z++qR v ((r::rs).map (·.map Prod.snd)):=by
   rw[hV];rfl
  rw[e3]
def qeF(rs)(B:∀ r∈rs,∀ e∈r,W6 e)(Y:∀ r∈rs,r[1]<=600)(hl:rs[1]<=8)(w)(Z:w=.fz (evSB rs)\/w=.br (evSB rs)) :
  wA [w]=.ok (.lst ((jo (qR 0 (rs.map (·.map Prod.snd)))).map qP))[9]:=by
 let⟨i2,i3,i4,i5,i6,h⟩:=qeE ↑w rs [] 0 none none none none none B Y (by simp;lia)
 have it:zo 0 [!w,!(.lst [])[9],none,none,none,none,none]=.ok (numd 0 (rs.map λr=>.lst (r.map Prod.fst))):=by rcases Z with z|z<;>(subst z;rfl)
 have bl:=UE 600 (rs.map (·.map Prod.snd)) 0 (λr O=>by
  let⟨x,hx,U⟩:=gK.mp O;subst U;rw[g6];show Y x hx)
 rw[g6]at bl;have so:=VL (qeC (rs.map (·.map Prod.snd)) 0) "" (λz=>by
  let⟨_,_,_,e,_⟩:=Qe _ _ _ z;cases e)
 delta wA KW
 simp![it];have h:qH (gT [2,3]) (qg (qk 4 0[5]) (qM (zo 3) (gT [5,6]) (qg (qC 1 (jG [(q9 4),(q9 2),(q9 5)])) (zb 4 zY (eOp qe (q9 6) 1[5]))))) (numd 0 (rs.map λr=>.lst (r.map Prod.fst))) [!w,!(.lst [])[9],none,none,none,none,none]=.nx [!w,!(.lst ((qR 0 (rs.map (·.map Prod.snd))).map qP))[9],i2,i3,i4,i5,i6]:=h
 rw[h];simp![so]
def fcg:Nat->Str
 | 0=>"F"|1=>"C"|2=>"G"|3=>"D"|4=>"A"|5=>"E"|_=>"B"
def grd:Nat->Int
 | 0=>5|1=>0|2=>7|3=>2|4=>9|5=>4|_=>11
theorem UF:∀ m:Nat,m<7->wT (.str "FCGDAEB") m[6]=.ok (.str (fcg m))[8]/\xj (.str "FCGDAEB") (.str (fcg m))=.ok m[7]/\ue Vj (.str (fcg m))=.ok (grd m)[7]/\zC (.str (fcg m))=!(Sum.inr (fcg m))/\PyData.strOk (fcg m)=true
 | 0,_=>#[by kernel_rfl,by kernel_rfl,by kernel_rfl,rfl,by kernel_rfl]
 | 1,_=>#[by kernel_rfl,by kernel_rfl,by kernel_rfl,rfl,by kernel_rfl]
 | 2,_=>#[by kernel_rfl,by kernel_rfl,by kernel_rfl,rfl,by kernel_rfl]
 | 3,_=>#[by kernel_rfl,by kernel_rfl,by kernel_rfl,rfl,by kernel_rfl]
 | 4,_=>#[by kernel_rfl,by kernel_rfl,by kernel_rfl,rfl,by kernel_rfl]
 | 5,_=>#[by kernel_rfl,by kernel_rfl,by kernel_rfl,rfl,by kernel_rfl]
 | 6,_=>#[by kernel_rfl,by kernel_rfl,by kernel_rfl,rfl,by kernel_rfl]
 | n+7,h=>absurd h ""
def ffN(p k:Int):Int:=k-4+(7*p-(k-4))%12
def ltN(p k:Int):Nat:=((ffN p k+1)%7).toNat
def alN(p k:Int):Int:=(ffN p k+1)/7
def ocN(p k:Int):Int:=(p-grd (ltN p k)-alN p k)/12
def Qf(m:Nat)(k:Int):Int:=(k-1+((m:Int)-1-(k-1))%7+1)/7
def Z1(p k):ltN p k<7:=by delta ltN;lia
def qeG(p k):(ltN p k)=(ffN p k+1)%7:=by delta ltN;lia
def qeH(a b c)(z:0<c):uR [.fz a[6],.fz b[6],.fz c[6]]=.ok (a+(b-a)%c)[7]:=by
 delta uR KP
 simp![yJ z]
def UG(f):Jr [.fz f[6]]=.ok ((f+1)/7)[7]:=by
 rfl
def qeI(p k):Vz [.fz p[6],.fz k[6]]=.ok (ffN p k)[7]:=by
 rfl
def qeJ(p k):Q2 [.fz p[6],.fz k[6]]=.ok (.tup [.str (fcg (ltN p k)),.int (alN p k),.int (ocN p k)])[8]:=by
 let⟨a,b,c,_⟩:=UF (ltN p k) (Z1 p k);rw[qeG]at a
 delta Q2 Xs
 simp![qeI,uO,yJ (j:=7) "d",a,UG,c,QS (j:=12) "d" "d",alN,ocN]
def qeK(m)(z:m<7)(k):yW [.fz (.str (fcg m)),.fz k[6]]=.ok (Qf m k)[7]:=by
 let⟨a,b,c,_⟩:=UF m z
 delta yW X9
 simp![uO,b,qeH _ _ 7 "d",UG,Qf]
abbrev Kd:=List (List (Sum Int Str)×D)
def KI(kds:Kd):Prop:=∀ kv∈kds,∃ n:Int,kv.2=.int n
def kyN(p k:Int):List (Sum Int Str):=[.inr (fcg (ltN p k)),.inl (ocN p k)]
def byN(kds:Kd)(p k:Int):Int:=match look (kyN p k) kds with|some n[6]=>n|_=>Qf (ltN p k) k
def wr(kds:Kd)(go:Bool)(p k:Int):Bool:=not go&&not (byN kds p k==alN p k)
def hdK(kds:Kd)(go:Bool)(p k:Int):Kd:=if wr kds go p k=true then jk (kyN p k) (alN p k)[6] kds else kds
def hdH(kds:Kd)(go:Bool)(p k:Int):D:=.tup [.str (fcg (ltN p k)),.int (ocN p k),if wr kds go p k=true then .int (alN p k)else .non]
def vZ(go:Bool)(k:Int):Kd->List Int->Kd
 | kds,[]=>kds
 | kds,p::ps=>vZ go k (hdK kds go p k) ps
def y7(go:Bool)(k:Int):Kd->List Int->List D
 | _,[]=>[]
 | kds,p::ps=>hdH kds go p k::y7 go k (hdK kds go p k) ps
def qeL(h:KI kds)(q):look q kds=none\/∃ n,look q kds=!n[6]:=by
 induction kds with
 | nil=>show .inl rfl
 | cons kv r ih =>
  let⟨x,d⟩:=kv;unfold look;by_cases c:x=q
  .rw[iP c];let⟨n,e⟩:=h (x,d) "s"
   show .inr #[n,by rw[show d=.int n from e]]
  rw[iN c];show ih λkv hk=>h kv (gj _ hk)
def qeM(h:KI kds)(q)(n):KI (jk q n[6] kds)/\(jk q n[6] kds)[1]<=kds[1]+1:=by
 delta jk
 split
 .show#[λkv hk=>?_,by simp]
  let⟨x,hx,rfl⟩:=gK.mp hk;by_cases c:x.1=q
  .rw[iP c];show#[n,rfl]
  rw[iN c];show h x hx
 show#[λkv hk=>?_,by simp]
 rcases gE.mp hk with hk|hk
 .show h kv hk
 simp_all
def UH(h:KI kds)(go)(p k):KI (hdK kds go p k)/\(hdK kds go p k)[1]<=kds[1]+1:=by
 delta hdK
 split
 .show qeM h _ _
 show#[h,""]
def qeN(go:Bool)(k:Int):∀(ps:List Int) (kds:Kd),KI kds->KI (vZ go k kds ps)/\(vZ go k kds ps)[1]<=kds[1]+ps[1]:=λps=>ps.rec
 (λkds h=>#[h,by simp[vZ]])
 λp ps IH kds h=>by
  let⟨a,b⟩:=UH h go p k;let⟨c,d⟩:=IH _ a;show#[c,by rw[vZ,gJ];lia]
def UI(p k):jP [.str (fcg (ltN p k)),.int (ocN p k)]=!(kyN p k):=rfl
def qeO(h:KI kds)(p k):Jl kds (kyN p k) (Qf (ltN p k) k)[7]=.ok (byN kds p k)[7]:=by
 delta Jl byN
 rcases qeL h (kyN p k)with e|⟨n,e⟩<;>rw[e]
def qeP(h:KI kds)(p k)(w)(B:w=.br (.dT kds)\/w=.fz (.dT kds)):JE [.fz (.str (fcg (ltN p k))),.fz (ocN p k)[6],w,.fz k[6]]=.ok (byN kds p k)[7]:=by
 have hz:sz=16777216:=rfl;show fin ((qt (uK (q9 2) [(q9 0),(q9 1)] (qi yW [(q9 0),(q9 3)]))) [!(.str (fcg (ltN p k)))[8],!(ocN p k)[7],!w,!k[7]])=_;have e:uK (q9 2) [(q9 0),(q9 1)] (qi yW [(q9 0),(q9 3)]) [!(.str (fcg (ltN p k)))[8],!(ocN p k)[7],!w,!k[7]]=.ok (byN kds p k)[7]:=by
  have ve:(q9 2) [!(.str (fcg (ltN p k)))[8],!(ocN p k)[7],!w,!k[7]]=.ok w:=by rcases B with z|z<;>(subst z;rfl)
  have oe:(qi yW [(q9 0),(q9 3)]) [!(.str (fcg (ltN p k)))[8],!(ocN p k)[7],!w,!k[7]]=.ok (Qf (ltN p k) k)[7]:=by simp![(qeK (ltN p k) (Z1 p k) k)]
  have wd:w.d=.dT kds:=by rcases B with z|z<;>(subst z;rfl)
  delta uK
  rw[ve,R.bind_ok,wd];show Jm (jP [.str (fcg (ltN p k)),.int (ocN p k)]) _=_;rw[UI]
  delta Jm
  dsimp only;rw[iP (by show 2<=sz;omega),oe,R.bind_ok,(qeO h p k)]
 rw[ZK,e];rfl
abbrev UJ:SF:=(qg (qk 6 (qi Q2 [(q9 5),(q9 3)]))
 (qg (qk 7 (eOp qe (q9 6) 0[5]))
 (qg (qk 8 (eOp qe (q9 6) 2[5]))
 (qg (qk 9 (eC .non))
 (qg (sIf (L3.zV (tE (eOp vP (q9 1) (eC .non))) (tE (eOp dNe (qi JE [(q9 7),(q9 8),(yR 2),(q9 3)]) (eOp qe (q9 6) 1[5])))) (qg (qk 9 (eOp qe (q9 6) 1[5]))
 (xt 2 [(q9 7),(q9 8)] (q9 9))) qw)
 (qC 4 (jG [(q9 7),(q9 8),(q9 9)])))))))
def qeQ{i:Nat}{e:EF}{ρ:Rho}{a:Int}{kds:Kd}{ws:List En}{q:List (Sum Int Str)}(h:ρ[i]?=!(!(.od (.tup [.int a,.dT kds]))))(z:e ρ=.ok d[8])(B:evs k ρ=.ok ws)(O:jP (ws.map En.d)=!q)(h1:kds[1]<sz)(h2:q[1]<=sz) :
  xt i k e ρ=.nx (ρ.set i (!(.od (.tup [.int a,.dT (jk q d kds)])))):=by
 delta xt
 rw[h,z];show sOf (R.ok d) _=_
 delta sOf
 simp_all
def qeR{i:Nat}{a:Int}(h:ρ[i]?=!(!(.od (.tup [.int a,d])))):yR i ρ=.ok (.br d):=by
 delta yR
 rw[h];rfl
def qeS(a)(T)(go)(k)(O:vP T .non=.ok (.bl (not go))[8])(R0):∀ ps kds z j5 j6 j7 j8 j9,KI kds->kds[1]+ps[1]<=1000000->z[1]+ps[1]<=1000000->∃ i5 i6 i7 i8 i9,
  qH (gV 5) UJ (ps.map D.int) [R0,!T[8],!(ioD a (.dT kds)),!k[7],!(.lst z)[9],j5,j6,j7,j8,j9]
  = .nx [R0,!T[8],!(ioD a (.dT (vZ go k kds ps))),!k[7],!(.lst (z++y7 go k kds ps))[9],i5,i6,i7,i8,i9]:=by
 have hz:sz=16777216:=rfl;intro ps
 induction ps with
 | nil=>intro kds z j5 j6 j7 j8 j9 _ _ _;show#[j5,j6,j7,j8,j9,by simp[vZ,y7,JT]]
 | cons p ps ih =>
  intro kds z j5 j6 j7 j8 j9 hk hl ha;rw[gJ]at hl ha;let⟨k1,k2⟩:=UH hk go p k;let⟨i5,i6,i7,i8,i9,h⟩:=ih (hdK kds go p k) (z++[hdH kds go p k]) (!p[7]) (!(.tup [.str (fcg (ltN p k)),.int (alN p k),.int (ocN p k)])[8]) (!(.str (fcg (ltN p k)))[8]) (!(ocN p k)[7]) (!(if wr kds go p k=true then .int (alN p k)else .non)[8]) k1 "" (by rw[gD];simp;lia)
  show#[i5,i6,i7,i8,i9,?_];rw[gP,vd (yK)];simp[fP,fQ];have be:=λw hw=>qeP hk p k w hw
  have bd:UJ [R0,!T[8],!(ioD a (.dT kds)),!k[7],!(.lst z)[9],!p[7],j6,j7,j8,j9]=.nx [R0,!T[8],!(ioD a (.dT (hdK kds go p k))),!k[7],!(.lst (z++[hdH kds go p k]))[9],!p[7],!(.tup [.str (fcg (ltN p k)),.int (alN p k),.int (ocN p k)])[8],!(.str (fcg (ltN p k)))[8],!(ocN p k)[7],!(if wr kds go p k=true then .int (alN p k)else .non)[8]]:=by
   simp![qeJ];have vi:∀ A B C D E F,(yR 2) [R0,!T[8],!(ioD a (.dT kds)),!k[7],A,B,C,D,E,F]=.ok (.br (.dT kds)):=λA B C D E F=>qeR (a:=a) rfl
   have be:=be (.br (.dT kds)) (.inl rfl);cases go
   .cases c:(byN kds p k==alN p k)
    .have w:wr kds false p k=true:=by delta wr;rw[c];rfl
     simp![O,Bool.not_false,vi,be,c];rw[qeQ (a:=a) (kds:=kds) (d:=.int (alN p k)) (ws:=[.fz (.str (fcg (ltN p k))),.fz (ocN p k)[6]]) (q:=kyN p k) rfl (by left) rfl (UI p k) "" (by show 2<=sz;lia)]
     left;rw[jR (xs:=z) (d:=hdH kds false p k) rfl "" (by simp![hdH,w])]
     simp![hdK,w];rfl
    have w:wr kds false p k=false:=by delta wr;rw[c];rfl
    simp![O,Bool.not_false,Bool.not_true,vi,be,c];rw[jR (xs:=z) (d:=hdH kds false p k) rfl "" (by simp![hdH,w];rfl)]
    simp![hdK,w];rfl
   have w:wr kds true p k=false:=rfl;simp![O,Bool.not_true];rw[jR (xs:=z) (d:=hdH kds true p k) rfl "" (by simp![hdH,w];rfl)]
   simp![hdK,w];rfl
  rw[bd,y6,h,vZ,y7];simp
def qje{i:Nat}{e:EF}{a:Int}(h:ρ[i]?=!(!(.od (.tup [.int a,d]))))(z:e ρ=.ok g[8]):uJ i e ρ=.rt (.od (.tup [.int a,d,g])):=by
 delta uJ
 rw[h,z];rfl
def qeT(a)(T)(go)(k)(z:vP T .non=.ok (.bl (not go))[8])(ps)(kds)(B:KI kds)(O:kds[1]+ps[1]<=1000000) :
  JM [.fz (.tup (ps.map D.int)),.fz T,ioD a (.dT kds),.fz k[6]]=.ok (.od (.tup [.int a,.dT (vZ go k kds ps),.tup (y7 go k kds ps)])):=by
 let⟨i5,i6,i7,i8,i9,h⟩:=qeS a T go k z (!(.tup (ps.map D.int))[8]) ps kds [] none none none none none B O (by simp;lia)
 show fin (qg (qk 4 (qJ [])) _ [!(.tup (ps.map D.int))[8],!T[8],!(ioD a (.dT kds)),!k[7],none,none,none,none,none,none])=_;left;have it:iV 0 [!(.tup (ps.map D.int))[8],!T[8],!(ioD a (.dT kds)),!k[7],!(.lst [])[9],none,none,none,none,none]=.ok (ps.map D.int):=rfl;rw[it,zQ,h];rfl
def vof(s:List Int):Int:=s.getD 1 0
def pof(s:List Int):Int:=s.getD 0 0
def qeU(v:Int):∀(r:List Int) (p n:Int),(∀ x∈r,0<=x)->∀ s∈jF v p n r,p<=pof s:=λr=>r.rec
 (λ_ _ _ s h=>by simp[jF]at h)
 λx r IH p n hx s h=>by
  rcases gw.mp h with z|h
  .subst z;show pE _
  have a:=hx x "s"
  have:=IH (p+x) (n+1) (λy hy=>hx y (gj _ hy)) s h
  lia
def qeV{p q v u n m:Int}(h:p<q):HT.lexLt [q,v,n] [p,u,m]=false:=by
 rw[HT.lexLt_cons,iN ""]
 simp;lia
def qeW(v:Int):∀(r:List Int) (p n:Int),(∀ x∈r,1<=x)->(jF v p n r).Pairwise λa b=>HT.lexLt b a=false:=λr=>r.rec
 (λ_ _ _=>List.Pairwise.nil)
 λx r IH p n hx=>by
  show List.Pairwise.cons (λs hs=>?_) (IH (p+x) (n+1) λy hy=>hx y (gj _ hy))
  have a:=hx x "s"
  have b:=qeU v r (p+x) (n+1) (λy hy=>by have:=hx y (gj _ hy);lia) s hs
  let⟨q,m,e,_⟩:=Qd v r (p+x) (n+1) s hs;subst e;show qeV (show p<q by have:p+x<=q:=b;lia)
def W7(v){r:List Int}{p n:Int}{s:List Int}(h:s∈jF v p n r):vof s=v:=by
 let⟨q,m,e,_⟩:=Qd v r p n s h;subst e;rfl
theorem UK:∀ rs w (v:Nat) r,rs[v]?=!r->(qR w rs).filter (λs=>vof s==w+v)=jF (w+v) 0 0 r
 | [],_,_,_,h=>by simp at h
 | q::rs,w,0,r,h=>by
  obtain rfl:q=r:=by simpa using h
  rw[qR,cg];have b:(qR (w+1) rs).filter (λs=>vof s==w+(0:Nat))=[]:=fR.mpr λs hs=>by
   let⟨x,u,m,e,l⟩:=Qe rs (w+1) s hs;subst e;simp[vof];lia
  rw[(dA.mpr λs hs=>by rw[W7 w hs];simp),b]
  simp
 | q::rs,w,v+1,r,h=>by
  rw[qR,cg];have e:w+(v+1:Nat)=w+1+v:=""
  rw[(fR.mpr λs hs=>by rw[W7 w hs];simp;lia),e]
  show(UK rs (w+1) v r h[""])
def UL{T:List (List Int)}(P)(h:S.filter P=T)(up:T.Pairwise λa b=>HT.lexLt b a=false):(jo S).filter P=T:=by
 show ZO ?_ ((QV S).filter P) up
 rw[<- h];show(yj S).filter P
def W8(rs)(hp:∀ r∈rs,∀ x∈r,1<=x)(v:Nat)(r)(h:rs[v]?=!r):(jo (qR 0 rs)).filter (λs=>vof s==v)=jF v 0 0 r:=by
 have e:=UK rs 0 v r h;rw[Int.zero_add]at e;show UL _ e (qeW _ r 0 0 (hp r (t6 h)))
theorem UM(v):∀ r p n (i:Nat) s,(jF v p n r)[i]?=!s->∃ q,s=[q,v,n+i]/\i<r[1]
 | [],_,_,_,_,h=>by simp[jF]at h
 | x::r,p,n,0,s,h=>by
  have:s=[p,v,n]:=by simpa[jF]using h.symm
  simp_all
 | x::r,p,n,i+1,s,h=>by
  let⟨q,e,l⟩:=UM v r (p+x) (n+1) i s (by simpa[jF]using h)
  show#[q,by rw[e];simp;lia]
def qeX:∀(rs:List (List Int)) (w:Int) (s:List Int),s∈qR w rs->∃(v:Nat) (r:List Int),vof s=w+(v:Int)/\rs[v]?=!r:=λrs=>rs.rec
 (λ_ s h=>by simp[qR]at h)
 λq rs IH w s h=>by
  rcases gE.mp h with h|h
  .show#[0,q,by rw[W7 w h];simp,rfl]
  let⟨v,r,e,l⟩:=IH (w+1) s h;show#[v+1,r,by rw[e];lia,by simpa using l]
def qeY(rs)(hp:∀ r∈rs,∀ x∈r,1<=x){z B:List (List Int)}{s:List Int}(h:jo (qR 0 rs)=z++s::B) :
  ∃(q:Int) (v n:Nat) (r:List Int),s=[q,v,n]/\rs[v]?=!r/\n<r[1]/\n=(z.filter λt=>vof t==v)[1]:=by
 let⟨v,r,e,er⟩:=qeX rs 0 s ((yj _).mem_iff.mp (by rw[h];simp))
 have sv:=W8 rs hp v r er;rw[h,cg,pJ e[""]]at sv
 have g:(jF v 0 0 r)[(z.filter λt=>vof t==v)[1]]?=!s:=by rw[<- sv,t4 (gC _),sub_self];rfl
 let⟨q,e2,l⟩:=UM v r 0 0 _ s g;show#[q,v,_,r,by rw[e2,Int.zero_add],er,l,rfl]
def wF:Option D->Bool
 | some (.tup [_,_,_,.bl b])=>b
 | _=>false
def Z2:Option D->D
 | some (.tup [_,_,h,.bl true])=>h
 | _=>.non
def TeOk(d:D):Prop:=(∃ v:Int,d=.tup [.str "rest",.int v])\/∃(v:Int) (hs:List D) (t:Bool),d=.tup [.str "note",.int v,.tup hs,.bl t]
def W9:dEq (.str "rest") (.str "rest")=.ok (.bl true)[8]:=by kernel_rfl
def xQ:dEq (.str "note") (.str "rest")=.ok (.bl false)[8]:=by kernel_rfl
def qeZ(o)(h:∀ d,o=!d->TeOk d):yq [.fz (o.getD .non)]=.ok (Z2 o)[8]/\vP (Z2 o) .non=.ok (.bl (not (wF o)))[8]:=by
 cases o with
 | none=>show#[by kernel_rfl,rfl]
 | some d =>
  rcases h d rfl with⟨v,e⟩|⟨v,hs,t,e⟩
  .subst e;show#[?_,rfl]
   delta yq Js
   simp![Option.getD_some,W9];rfl
  subst e;cases t
  .show#[?_,rfl]
   delta yq Js
   simp![Option.getD_some,xQ];rfl
  show#[?_,rfl]
  delta yq Js
  simp![Option.getD_some,xQ];rfl
structure TS where
 kds:Kd
 rows:List (List D)
 ah:List (Sum Int Str×D)
inductive GE(α:Type)where
 | rest (v:Int)
 | note (v:Int) (x:α) (t:Bool)
structure TF(α:Type)where
 enc:α->D
 fx:α->D->Kd->D
 fk:α->D->Kd->Kd
 ok:α->Prop
def geD(F:TF α):GE α->D
 | .rest v=>.tup [.str "rest",.int v]
 | .note v x t=>.tup [.str "note",.int v,F.enc x,.bl t]
def gv:GE α->Int
 | .rest v=>v
 | .note v _ _=>v
def GeOk(F:TF α):GE α->Prop
 | .rest v=>1<=v
 | .note v x _=>1<=v/\F.ok x
def gwD(F:TF α)(r:List (GE α)):D:=.lst (r.map (geD F))
def grD(F:TF α)(R:List (List (GE α))):D:=.lst (R.map (gwD F))
def gEv(F:TF α)(T:D)(kds:Kd):GE α->D
 | .rest v=>.tup [.str "rest",.int v]
 | .note v x t=>.tup [.str "note",.int v,F.fx x T kds,.bl t]
def gKd(F:TF α)(T:D)(kds:Kd):GE α->Kd
 | .rest _=>kds
 | .note _ x _=>F.fk x T kds
def tOf(st:TS)(v:Nat):D:=Z2 (look (Sum.inl (v:Int)) st.ah)
def kn(F:TF α)(st:TS)(v:Nat)(e:GE α):TS :=
 #[gKd F (tOf st v) st.kds e,st.rows.set v ((st.rows.getD v [])++[gEv F (tOf st v) st.kds e]),jk (Sum.inl (v:Int)) (gEv F (tOf st v) st.kds e) st.ah]
def evAt(R:List (List (GE α)))(s:List Int):Option (GE α):=(R[(vof s).toNat]?).bind λr=>r[(s.getD 2 0).toNat]?
def zU(F:TF α)(R:List (List (GE α)))(st:TS)(s:List Int):TS:=match evAt R s with
 | some e=>kn F st (vof s).toNat e
 | none=>st
def TnOk(T:D):Prop:=T=.non\/∃ hs,T=.tup hs
structure TurnOk{α:Type}(F:TF α)(k:Int)(fn:D)(io:IOF):Prop where
 run:∀(R0 z A:Option En) (ah:List (Sum Int Str×D)) (br:D) (kds:Kd) (rows:D) (v va:Int) (x:α) (t:Bool) (T:D),F.ok x->TnOk T->KI kds->kds[1]<=200000 ->
  io [R0,!k[7],!fn[8],z,!(.dK ah)[9],!br[8],!(.dT kds)[9],!(.od rows),A,!v[7],!(geD F (.note va x t))[8],!T[8]]
   = .ok (F.fx x T kds,[R0,!k[7],!fn[8],z,!(.dK ah)[9],!br[8],!(.dT (F.fk x T kds))[9],!(.od rows),A,!v[7],!(geD F (.note va x t))[8],!T[8]])
 ki:∀(x:α) (T:D) (kds:Kd),F.ok x->TnOk T->KI kds->KI (F.fk x T kds)/\(F.fk x T kds)[1]<=kds[1]+24
 tp:∀(x:α) (T:D) (kds:Kd),F.ok x->TnOk T->KI kds->∃ hs,F.fx x T kds=.tup hs
abbrev Qg(io:IOF):SF:=(qg (qk 9 (eOp qe (q9 8) 1[5]))
 (qg (qk 10 (eOp qe (eOp qe (q9 5) (q9 9)) (eOp qe (q9 8) 2[5])))
 (qg (sIf (tE (eOp dEq (eOp qe (q9 10) 0[5]) (eC (.str "note")))) (qg (qk 11 (qi yq [(yS (q9 4) (q9 9))]))
 (sIO 10 (eIOT (vq (eC (.str "note")) (vq (eOp qe (q9 10) 1[5]) (xIO io (vq (eOp qe (q9 10) 3[5]) uL))))))) qw)
 (qg (wS 7 (q9 9) (q9 10))
 (wj 4 (q9 9) (q9 10))))))
def qf0{d k:EF}{wd wk:En}(hd:d ρ=.ok wd)(h1:wd.d=.dK kvs)(z:k ρ=.ok wk)(h2:zC wk.d=!q):yS d k ρ=.ok ((look q kvs).getD .non)[8]:=by
 delta yS
 rw[hd,R.bind_ok,h1];dsimp only;rw[z,R.bind_ok,h2];dsimp only;cases look q kvs<;>rfl
def qf1{kvs:List (Sum Int Str×D)}{i:Nat}{k e:EF}{ρ:Rho}{w:En}(h:ρ[i]?=!(!(.dK kvs)[9]))(h2:e ρ=.ok d[8])(z:k ρ=.ok w)(B:zC w.d=!key)(O:kvs[1]<sz) :
  wj i k e ρ=.nx (ρ.set i (!(.dK (jk key d kvs))[9])):=YH h (by rw[h2];rfl) z B O
def AhOk(z:List (Sum Int Str×D)):Prop:=∀ kv∈z,TeOk kv.2
def UN:∀{l:List (Sum Int Str×D)},look q l=!d->∃ kv∈l,kv.2=d:=λ{l}=>l.rec
 (@λh=>by cases h)
 λ#[x,y] l IH=>@λh=>by
  unfold look at h;by_cases c:x=q
  .rw[iP c]at h;show#[(x,y),by simp,by simpa using h]
  rw[iN c]at h;let⟨kv,m,e⟩:=IH h;show#[kv,gj _ m,e]
def qf2{z:List (Sum Int Str×D)}(h:AhOk z)(hd:TeOk d):AhOk (jk q d z)/\(jk q d z)[1]<=z[1]+1:=by
 delta jk
 split
 .show#[λkv hk=>?_,by simp]
  let⟨x,hx,rfl⟩:=gK.mp hk;by_cases c:x.1=q
  .rw[iP c];show hd
  rw[iN c];show h x hx
 show#[λkv hk=>?_,by simp]
 rcases gE.mp hk with hk|hk
 .show h kv hk
 simp_all
def UO{κ:Type} [DecidableEq κ]{q B:κ}:∀ l,look B (jk q d l)=if q=B then !d else look B l:=by
 intro l;have mp:∀ l,look B (l.map λkv=>if kv.1=q then(kv.1,d)else kv)=if q=B/\(l.any λkv=>decide (kv.1=q))=true then !d else look B l:=by
  intro l
  induction l with
  | nil=>simp[look]
  | cons kv r ih =>
   let⟨x,y⟩:=kv;rw[gP];by_cases c:x=q
   .rw[iP c];unfold look
    simp_all
   rw[iN c];unfold look
   grind
 have ap:∀ l,(l.any λkv=>decide (kv.1=q))=false->look B (l++[(q,d)])=if q=B then !d else look B l:=by
  intro l
  induction l with
  | nil=>intro _;simp[look]
  | cons kv r ih =>
   intro h;let⟨x,y⟩:=kv;rw[bv,Bool.or_eq_false_iff]at h;have xq:x≠q:=by simpa using h.1
   rw[List.cons_append];unfold look;by_cases c2:x=B
   .rw[iP c2,iN λz=>xq (c2.trans z.symm),iP c2]
   rw[iN c2,ih h.2,iN c2]
 unfold jk;cases c:(l.any λkv=>decide (kv.1=q))
 .rw[iN "s",ap l c]
 rw[iP rfl,mp l,c];simp
structure TsOk{α:Type}(L:Nat)(R:List (List (GE α)))(st:TS)(m:Nat):Prop where
 ki:KI st.kds
 kl:st.kds.length<=24*m
 ah:AhOk st.ah
 al:st.ah.length<=L+m
 rl:st.rows.length=R.length
 rr:∀ r∈st.rows,r[1]<=m
def qf3(o)(h:∀ d,o=!d->TeOk d):TnOk (Z2 o):=by
 cases o with
 | none=>show .inl rfl
 | some d =>
  rcases h d rfl with⟨v,e⟩|⟨v,hs,t,e⟩
  .subst e;show .inl rfl
  subst e;cases t
  .show .inl rfl
  show .inr #[hs,rfl]
def Wa{st:TS}(h:AhOk st.ah)(v):TnOk (tOf st v):=qf3 _ λd hd=>by let⟨kv,m1,m2⟩:=UN hd;rw[<- m2];show h kv m1
def qf4{F:TF α}{k:Int}{fn:D}{io:IOF}(z:TurnOk F k fn io){T:D}{kds:Kd}(B:TnOk T)(O:KI kds)(e)(U:GeOk F e):TeOk (gEv F T kds e):=by
 cases e with
 | rest v=>show .inl #[v,rfl]
 | note v x t =>
  let⟨hs,h⟩:=z.tp x T kds U.2 B O;show .inr #[v,hs,t,by show D.tup [.str "note",.int v,F.fx x T kds,.bl t]=_;rw[h]]
def qf5{F:TF α}{k:Int}{fn:D}{io:IOF}(B:TurnOk F k fn io){T:D}{kds:Kd}(O:TnOk T)(z:KI kds)(e)(U:GeOk F e):KI (gKd F T kds e)/\(gKd F T kds e)[1]<=kds[1]+24:=by
 cases e with
 | rest v=>show#[z,by simp[gKd]]
 | note v x t=>show B.ki x T kds U.2 O z
def qf6{F:TF α}{k:Int}{fn:D}{io:IOF}(O:TurnOk F k fn io){L:Nat}{R:List (List (GE α))}{st:TS}{m v:Nat}(h:TsOk L R st m)(Y:v<R.length)(e)(U:GeOk F e):TsOk L R (kn F st v e) (m+1):=by
 let⟨a,b⟩:=qf5 O (Wa h.ah v) h.ki e U;let⟨c,d⟩:=qf2 h.ah (qf4 O (Wa h.ah v) h.ki e U);show#[a,by have:=h.kl;show(gKd F (tOf st v) st.kds e)[1]<=_;lia,c,by have:=h.al;show(jk _ _ st.ah)[1]<=_;lia,by show(st.rows.set v _)[1]=_;rw[bC];show h.rl,λr hr=>?_]
 rcases List.mem_or_eq_of_mem_set hr with z|z
 .have:=h.rr r z;lia
 subst z;have B:v<st.rows.length:=by rw[h.rl];show Y
 have:(st.rows.getD v [])[1]<=m:=by
  rw[t7,gG B];show h.rr _ (fw B)
 simp_all
def qf7{i:Nat}{ρ:Rho}(h:ρ[i]?=!(!d[9]))(z:evs pre ρ=.ok ws)(B:jU ws=.ok ys)(O:evs post ρ=.ok ws2)(U:jU ws2=.ok ys2)(f:(vn ys&&vn ys2)=true)(io:wV dn ys d ys2=.ok (d',g)) :
  eIO dn i pre post ρ=.ok (g,ρ.set i (!d'[9])):=by
 delta eIO
 rw[h];dsimp only;rw[z,R.bind_ok,B,R.bind_ok,O,R.bind_ok,U,R.bind_ok,iP f,io]
def qf8{j:Nat}{i:Nat}(h:fnOf ρ[j]?=!x1)(e:eIO d1 i pre post ρ=r):eIOV j x1 d1 i pre post ρ=r:=by
 unfold eIOV
 simp_all
def qf9{F:TF α}{k:Int}{fn:D}{io:IOF}(hF:TurnOk F k fn io)(R)(R0 told)(st)(m L)(h:TsOk L R st m)(hL:L<=1000000)(hm:m<=5000)(v n:Nat)(q)(r)(e)(Z:R[v]?=!r)(ee:r[n]?=!e)(he:GeOk F e)(j9 j10)(z:Option D):∃ Y:Option D,
  Qg io [R0,!k[7],!fn[8],told,!(.dK st.ah)[9],!(grD F R)[8],!(.dT st.kds)[9],!(.od (.lst (st.rows.map D.lst))),!(qP [q,v,n])[8],j9,j10,z.map En.fz]
  = .nx [R0,!k[7],!fn[8],told,!(.dK (kn F st v e).ah)[9],!(grD F R)[8],!(.dT (kn F st v e).kds)[9],!(.od (.lst ((kn F st v e).rows.map D.lst))),!(qP [q,v,n])[8],!v[7],!(gEv F (tOf st v) st.kds e)[8],Y.map En.fz]:=by
 have hz:sz=16777216:=rfl;have hv:v<R.length:=(gp.mp Z).1;have B:v<st.rows.length:=by rw[h.rl];show hv
 have i1:qe (qP [q,v,n]) 1[6]=.ok v[7]:=rfl;have i2:qe (qP [q,v,n]) 2[6]=.ok n[7]:=rfl;have b1:qe (grD F R) v[6]=.ok (gwD F r)[8]:=by
  show okD (ati (R.map (gwD F)) v)=_;rw[zw,gH,Z];rfl
 have b2:qe (gwD F r) n[6]=.ok (geD F e)[8]:=by
  show okD (ati (r.map (geD F)) n)=_;rw[zw,gH,ee];rfl
 have tl:∀ A C K x,(qg (wS 7 (q9 9) (q9 10)) (wj 4 (q9 9) (q9 10))) [R0,!k[7],!fn[8],told,!(.dK st.ah)[9],!(grD F R)[8],!(.dT K)[9],!(.od (.lst (st.rows.map D.lst))),A,!v[7],!x[8],C]
   = .nx [R0,!k[7],!fn[8],told,!(.dK (jk (Sum.inl v) x st.ah))[9],!(grD F R)[8],!(.dT K)[9],!(.od (.lst ((st.rows.set v ((st.rows.getD v [])++[x])).map D.lst))),A,!v[7],!x[8],C]:=λA C K x=>by
  have gd:st.rows.getD v []=st.rows[v]:=by rw[t7,gG B];rfl
  have rl:=h.rr _ (fw B);rw[jv,VM (k:=v) (ds:=st.rows.map D.lst) (xs:=st.rows[v]) (d:=x) rfl (by left) (by left) (by rw[gH,gG B];rfl) "",jH]
  rw[qf1 (kvs:=st.ah) (d:=x) (w:=.fz v[6]) (key:=Sum.inl v) rfl (by left) (by left) rfl (by have:=h.al;lia)]
  rw[gd,List.map_set];rfl
 have s9:(qk 9 (eOp qe (q9 8) 1[5])) [R0,!k[7],!fn[8],told,!(.dK st.ah)[9],!(grD F R)[8],!(.dT st.kds)[9],!(.od (.lst (st.rows.map D.lst))),!(qP [q,v,n])[8],j9,j10,z.map En.fz]=.nx [R0,!k[7],!fn[8],told,!(.dK st.ah)[9],!(grD F R)[8],!(.dT st.kds)[9],!(.od (.lst (st.rows.map D.lst))),!(qP [q,v,n])[8],!v[7],j10,z.map En.fz]:=by simp![i1]
 have O:(qk 10 (eOp qe (eOp qe (q9 5) (q9 9)) (eOp qe (q9 8) 2[5]))) [R0,!k[7],!fn[8],told,!(.dK st.ah)[9],!(grD F R)[8],!(.dT st.kds)[9],!(.od (.lst (st.rows.map D.lst))),!(qP [q,v,n])[8],!v[7],j10,z.map En.fz]=.nx [R0,!k[7],!fn[8],told,!(.dK st.ah)[9],!(grD F R)[8],!(.dT st.kds)[9],!(.od (.lst (st.rows.map D.lst))),!(qP [q,v,n])[8],!v[7],!(geD F e)[8],z.map En.fz]:=by simp![b1,i2,b2]
 cases e with
 | rest va =>
  show#[z,?_];have i0:qe (geD F (.rest va)) 0[6]=.ok (.str "rest")[8]:=rfl;have nq:(tE (eOp dEq (eOp qe (q9 10) 0[5]) (eC (.str "note")))) [R0,!k[7],!fn[8],told,!(.dK st.ah)[9],!(grD F R)[8],!(.dT st.kds)[9],!(.od (.lst (st.rows.map D.lst))),!(qP [q,v,n])[8],!v[7],!(geD F (.rest va))[8],z.map En.fz]=.ok false:=by simp![i0,Ut]
  delta Qg
  rw[jv,s9,jH,jv,O,jH,jv,QP,nq,zQ,Yz,YA,jH,tl];rfl
 | note va x t =>
  let⟨te,_⟩:=qeZ (look (Sum.inl (v:Int)) st.ah) (λd hd=>by let⟨kv,m1,m2⟩:=UN hd;rw[<- m2];show h.ah kv m1)
  have i0:qe (geD F (.note va x t)) 0[6]=.ok (.str "note")[8]:=rfl;show#[!(tOf st v),?_];have go:∀ A,(sIO 10 (eIOT (vq (eC (.str "note")) (vq (eOp qe (q9 10) 1[5]) (xIO io (vq (eOp qe (q9 10) 3[5]) uL)))))) [R0,!k[7],!fn[8],told,!(.dK st.ah)[9],!(grD F R)[8],!(.dT st.kds)[9],!(.od (.lst (st.rows.map D.lst))),A,!v[7],!(geD F (.note va x t))[8],!(tOf st v)[8]]
    = .nx [R0,!k[7],!fn[8],told,!(.dK st.ah)[9],!(grD F R)[8],!(.dT (F.fk x (tOf st v) st.kds))[9],!(.od (.lst (st.rows.map D.lst))),A,!v[7],!(gEv F (tOf st v) st.kds (.note va x t))[8],!(tOf st v)[8]]:=λA=>by
   have iv:=hF.run R0 told A st.ah (grD F R) st.kds (.lst (st.rows.map D.lst)) v va x t (tOf st v) he.2 (Wa h.ah v) h.ki (by have:=h.kl;lia)
   have xe:(eIOT (vq (eC (.str "note")) (vq (eOp qe (q9 10) 1[5]) (xIO io (vq (eOp qe (q9 10) 3[5]) uL))))) [R0,!k[7],!fn[8],told,!(.dK st.ah)[9],!(grD F R)[8],!(.dT st.kds)[9],!(.od (.lst (st.rows.map D.lst))),A,!v[7],!(geD F (.note va x t))[8],!(tOf st v)[8]]
     = .ok (gEv F (tOf st v) st.kds (.note va x t),[R0,!k[7],!fn[8],told,!(.dK st.ah)[9],!(grD F R)[8],!(.dT (F.fk x (tOf st v) st.kds))[9],!(.od (.lst (st.rows.map D.lst))),A,!v[7],!(geD F (.note va x t))[8],!(tOf st v)[8]]):=by
    delta eIOT vq xIO
    rw[show(eC (.str "note")) [R0,!k[7],!fn[8],told,!(.dK st.ah)[9],!(grD F R)[8],!(.dT st.kds)[9],!(.od (.lst (st.rows.map D.lst))),A,!v[7],!(geD F (.note va x t))[8],!(tOf st v)[8]]=.ok (.str "note")[8]from rfl]
    rw[show(eOp qe (q9 10) 1[5]) [R0,!k[7],!fn[8],told,!(.dK st.ah)[9],!(grD F R)[8],!(.dT st.kds)[9],!(.od (.lst (st.rows.map D.lst))),A,!v[7],!(geD F (.note va x t))[8],!(tOf st v)[8]]=.ok va[7]from rfl,iv]
    rfl
   delta sIO
   rw[xe];rfl
  have nq:(tE (eOp dEq (eOp qe (q9 10) 0[5]) (eC (.str "note")))) [R0,!k[7],!fn[8],told,!(.dK st.ah)[9],!(grD F R)[8],!(.dT st.kds)[9],!(.od (.lst (st.rows.map D.lst))),!(qP [q,v,n])[8],!v[7],!(geD F (.note va x t))[8],z.map En.fz]=.ok true:=by simp![i0,Uu]
  have ge:(yS (q9 4) (q9 9)) [R0,!k[7],!fn[8],told,!(.dK st.ah)[9],!(grD F R)[8],!(.dT st.kds)[9],!(.od (.lst (st.rows.map D.lst))),!(qP [q,v,n])[8],!v[7],!(geD F (.note va x t))[8],z.map En.fz]=.ok ((look (Sum.inl (v:Int)) st.ah).getD .non)[8]:=qf0 (wd:=.br (.dK st.ah)) (wk:=.fz v[6]) rfl rfl rfl rfl;have U:(qk 11 (qi yq [(yS (q9 4) (q9 9))])) [R0,!k[7],!fn[8],told,!(.dK st.ah)[9],!(grD F R)[8],!(.dT st.kds)[9],!(.od (.lst (st.rows.map D.lst))),!(qP [q,v,n])[8],!v[7],!(geD F (.note va x t))[8],z.map En.fz]=.nx [R0,!k[7],!fn[8],told,!(.dK st.ah)[9],!(grD F R)[8],!(.dT st.kds)[9],!(.od (.lst (st.rows.map D.lst))),!(qP [q,v,n])[8],!v[7],!(geD F (.note va x t))[8],!(tOf st v)[8]]:=by simp![ge,te,tOf]
  delta Qg
  rw[jv,s9,jH,jv,O,jH,jv,QP,nq,zQ,Yy,jv,U,jH,go,jH,tl];rfl
section
variable{α:Type}{F:TF α}{k:Int}{fn:D}{io:IOF}
def qfa(h:GeOk F e):1<=gv e:=by
 cases e with
 | rest v=>show h
 | note v x t=>show h.1
abbrev jq{α:Type}(R:List (List (GE α))):List (List Int):=R.map (·.map gv)
def Z3{R:List (List (GE α))}(z:∀ r∈R,∀ e∈r,GeOk F e):∀ r∈jq R,∀ x∈r,1<=x:=by
 intro r hr x hx;let⟨q,hq,rfl⟩:=gK.mp hr;let⟨e,he,rfl⟩:=gK.mp hx;show qfa (z q hq e he)
def Z4{R:List (List (GE α))}(B:∀ r∈R,∀ e∈r,GeOk F e){z O:List (List Int)}{s:List Int}(h:jo (qR 0 (jq R))=z++s::O) :
  ∃(q:Int) (v n:Nat) (r:List (GE α)) (e:GE α),s=[q,v,n]/\R[v]?=!r/\r[n]?=!e/\n=(z.filter λt=>vof t==v)[1]/\evAt R s=!e/\∀ st,zU F R st s=kn F st v e:=by
 let⟨q,v,n,r',e1,e2,e3,e4⟩:=qeY (jq R) (Z3 B) h;rw[gH]at e2;cases er:R[v]? with
 | none=>rw[er]at e2;cases e2
 | some r =>
  rw[er]at e2;obtain rfl:r.map gv=r':=by simpa using e2
  rw[g6]at e3;have ee:=gG e3;have ev:evAt R s=!r[n]:=by
   subst e1;show(R[((v:Int)).toNat]?).bind _=_;rw[fK,er]
   assumption
  show#[q,v,n,r,r[n],e1,er,ee,e4,ev,λst=>?_]
  delta zU
  rw[ev];subst e1;rfl
def UP(Z:TurnOk F k fn io)(R)(hR:∀ r∈R,∀ e∈r,GeOk F e)(R0 told)(L)(hL:L<=1000000)(hl:(jo (qR 0 (jq R)))[1]<=5000):∀ S2 S1 st (j8 j9 z B:Option D),jo (qR 0 (jq R))=S1++S2->TsOk L R st S1.length ->
  (∃ i8 i9 O U:Option D,qH (gV 8) (Qg io) (S2.map qP) [R0,!k[7],!fn[8],told,!(.dK st.ah)[9],!(grD F R)[8],!(.dT st.kds)[9],!(.od (.lst (st.rows.map D.lst))),j8.map En.fz,j9.map En.fz,z.map En.fz,B.map En.fz]
  = .nx [R0,!k[7],!fn[8],told,!(.dK (S2.foldl (zU F R) st).ah)[9],!(grD F R)[8],!(.dT (S2.foldl (zU F R) st).kds)[9],!(.od (.lst ((S2.foldl (zU F R) st).rows.map D.lst))),i8.map En.fz,i9.map En.fz,O.map En.fz,U.map En.fz])/\TsOk L R (S2.foldl (zU F R) st) (S1++S2)[1]:=by
 intro S2
 induction S2 with
 | nil=>intro S1 st j8 j9 z B _ h;show#[#[j8,j9,z,B,rfl],by simpa using h]
 | cons s S2 ih =>
  intro S1 st j8 j9 z B e h;let⟨q,v,n,r,ev,e1,er,ee,_,_,sp⟩:=Z4 hR e;have pe:=hR r (t6 er) ev (t6 ee);have hm:S1.length<=5000:=by rw[e,gD]at hl;lia
  let⟨U,se⟩:=qf9 Z R R0 told st S1.length L h hL hm v n q r ev er ee pe (j9.map En.fz) (z.map En.fz) B;let⟨⟨i8,i9,O,Y,f⟩,t⟩:=ih (S1++[s]) (kn F st v ev) (!(qP s)) (!v[6]) (!(gEv F (tOf st v) st.kds ev)) U (by rw[e];simp) (by rw[gD];show(qf6 Z h (gp.mp er).1 ev pe))
  rw[cB,sp];show#[#[i8,i9,O,Y,?_],by simpa using t]
  rw[gP,vd (yK)];simp[fP,fQ];subst e1;rw[se];show f
def bar0(R:List (List (GE α)))(z:List (Sum Int Str×D)):TS:=#[[],R.map λ_=>[],z]
def jz(F:TF α)(R:List (List (GE α)))(z:List (Sum Int Str×D)):TS:=(jo (qR 0 (jq R))).foldl (zU F R) (bar0 R z)
def brT(t:TS):D:=.lst (t.rows.map D.lst)
def Z5{R:List (List (GE α))}(z:R.length<=8)(B:∀ r∈R,r[1]<=500):(jo (qR 0 (jq R)))[1]<=4000:=by
 rw[(yj _).length_eq];have:=UE 500 (jq R) 0 λr hr=>by
  let⟨q,hq,rfl⟩:=gK.mp hr
  simp_all
 grind
def UQ{R:List (List (GE α))}{z:List (Sum Int Str×D)}(B:AhOk z)(O:z[1]<=L):TsOk L R (bar0 R z) 0:=by
 show#[λ_ h=>(by cases h),tP _,B,O,?_,λr hr=>?_]
 .show(R.map λ_=>[])[1]=_
  simp
 let⟨x,_,e⟩:=gK.mp (hr)
 simp_all
def Wb(F:TF α)(r:List (GE α)):Prop:=(∀ e∈r,GeOk F e)/\r[1]<=500/\1<=r[1]
def zK(F:TF α)(R:List (List (GE α))):Prop:=R.length<=8/\∀ r∈R,Wb F r
abbrev Qh(io:IOF):SF:=(qg (qk 6 eDT)
 (qg (uH 7 (Ko 1 (iVc 5) (gV 12) (qJ [])))
 (qg (qM (qN (qi wA [(q9 5)])) (gV 8) (Qg io))
 (yk 7 (jJ 7 (qC 3 (q9 7)))))))
def xR(F:TF α)(R:List (List (GE α))):List (List EvS):=R.map λr=>r.map λe=>(geD F e,gv e)
def qfb(R):evSB (xR F R)=grD F R:=by
 delta evSB xR
 rw[gZ];congr 1;apply tf;intro r _;show D.lst ((r.map λe=>(geD F e,gv e)).map Prod.fst)=_
 rw[gZ];rfl
def qfc(R):(xR F R).map (·.map Prod.snd)=jq R:=by
 delta xR
 simp
def UR(R)(h:zK F R)(w)(z:w=.fz (grD F R)\/w=.br (grD F R)):wA [w]=.ok (.lst ((jo (qR 0 (jq R))).map qP))[9]:=by
 have io:=qeF (xR F R) (λr hr e he=>by
  let⟨q,hq,rfl⟩:=gK.mp hr;let⟨x,hx,rfl⟩:=gK.mp he;cases x<;>rfl) (λr hr=>by
  let⟨q,hq,rfl⟩:=gK.mp hr;rw[g6];have:=(h.2 q hq).2.1;lia) (by delta xR;rw[g6];have:=h.1;omega) w (by rw[qfb];show z)
 rw[qfc]at io;show io
def qfd(hF:TurnOk F k fn io)(R)(h:zK F R)(W)(B)(hW:W=.fz B\/W=.br B)(T)(hT:T[1]<=1000)(ah)(ha:AhOk ah)(L)(hL:L<=1000000)(hb:ah[1]<=L)(x6:Option Kd)(j7 j8 j9 O U:Option D):∃ i8 i9 Y Z:Option D,
  (Qh io) [!W,!k[7],!fn[8],!(.lst T)[9],!(.dK ah)[9],!(grD F R)[8],x6.map λq=>En.ow (.dT q),j7.map En.fz,j8.map En.fz,j9.map En.fz,O.map En.fz,U.map En.fz]
  = .nx [!W,!k[7],!fn[8],!(.lst (T++[brT (jz F R ah)]))[9],!(.dK (jz F R ah).ah)[9],!(grD F R)[8],!(.dT (jz F R ah).kds)[9],!(brT (jz F R ah))[8],i8.map En.fz,i9.map En.fz,Y.map En.fz,Z.map En.fz]:=by
 have hz:sz=16777216:=rfl;have hR:∀ r∈R,∀ e∈r,GeOk F e:=λr hr=>(h.2 r hr).1
 have ln:=Z5 h.1 λr hr=>(h.2 r hr).2.1
 have r0:(bar0 R ah).rows.map D.lst=(R.map (gwD F)).map λ_=>D.lst []:=by
  show(R.map λ_=>[]).map D.lst=_
  simp
 let⟨⟨i8,i9,Y,Z,f⟩,t⟩:=UP hF R hR ↑W (!(.lst T)[9]) L hL "" (jo (qR 0 (jq R))) [] (bar0 R ah) j8 j9 O U rfl (UQ ha hb)
 rw[show(bar0 R ah).ah=ah from rfl,show(bar0 R ah).kds=[]from rfl,r0]at f
 show#[i8,i9,Y,Z,?_]
 delta Qh
 rw[jv,show(qk 6 eDT) [!W,!k[7],!fn[8],!(.lst T)[9],!(.dK ah)[9],!(grD F R)[8],x6.map λq=>En.ow (.dT q),j7.map En.fz,j8.map En.fz,j9.map En.fz,O.map En.fz,U.map En.fz]=.nx [!W,!k[7],!fn[8],!(.lst T)[9],!(.dK ah)[9],!(grD F R)[8],!(.dT [])[9],j7.map En.fz,j8.map En.fz,j9.map En.fz,O.map En.fz,U.map En.fz]from rfl,jH]
 rw[jv,qdR (ds:=(R.map (gwD F)).map λ_=>D.lst []) (qdT (ds:=R.map (gwD F)) (yi (w:=.fz (grD F R)) rfl rfl) (by rw[g6];have:=h.1;lia) (qdS adO 12 (λ_=>D.lst []) _ _ λd _=>#[.ow (.lst []),rfl,rfl])) (by rcases hW with z|z<;>(subst z;cases j7<;>cases j8<;>cases j9<;>cases O<;>cases U<;>rfl)),jH]
 simp only[fP,fQ];have it:qN (qi wA [(q9 5)]) [!W,!k[7],!fn[8],!(.lst T)[9],!(.dK ah)[9],!(grD F R)[8],!(.dT [])[9],!(.od (.lst ((R.map (gwD F)).map λ_=>D.lst []))),j8.map En.fz,j9.map En.fz,O.map En.fz,U.map En.fz]=.ok ((jo (qR 0 (jq R))).map qP) :=
  vk (w:=.ow (.lst ((jo (qR 0 (jq R))).map qP))) (by simp![UR R h _ (.inl rfl)]) rfl
 rw[jv,kX,it,zQ,f];show(qC 3 (q9 7)) [!W,!k[7],!fn[8],!(.lst T)[9],!(.dK (jz F R ah).ah)[9],!(grD F R)[8],!(.dT (jz F R ah).kds)[9],!(brT (jz F R ah))[8],i8.map En.fz,i9.map En.fz,Y.map En.fz,Z.map En.fz]=_;rw[jR (xs:=T) (d:=brT (jz F R ah)) rfl "" rfl]
 rfl
def yx(F:TF α):List (List (List (GE α)))->List (Sum Int Str×D)->List TS
 | [],_=>[]
 | R::Rs,ah=>jz F R ah::yx F Rs (jz F R ah).ah
def qfe(z:TurnOk F k fn io)(R)(h:zK F R)(ah)(B:AhOk ah)(L)(O:L<=1000000)(U:ah[1]<=L):TsOk L R (jz F R ah) (jo (qR 0 (jq R)))[1]:=by
 have hR:=λr hr=>(h.2 r hr).1
 have ln:=Z5 h.1 λr hr=>(h.2 r hr).2.1
 have:=(UP z R hR none none L O "" (jo (qR 0 (jq R))) [] (bar0 R ah) none none none none rfl (UQ B U)).2
 show this
def qff(Z:TurnOk F k fn io)(W)(B)(hW:W=.fz B\/W=.br B):∀ Rs T ah L (x5:Option D) (x6:Option Kd) (j7 j8 j9 z O:Option D),(∀ R∈Rs,zK F R)->T[1]+Rs.length<=1000->AhOk ah->ah[1]<=L->L+4096*Rs.length<=1000000->∃ ρ,
  qH (gV 5) (Qh io) (Rs.map (grD F)) [!W,!k[7],!fn[8],!(.lst T)[9],!(.dK ah)[9],x5.map En.fz,x6.map λq=>En.ow (.dT q),j7.map En.fz,j8.map En.fz,j9.map En.fz,z.map En.fz,O.map En.fz]=.nx ρ/\ρ[3]?=!(!(.lst (T++(yx F Rs ah).map brT))[9]):=by
 intro Rs
 induction Rs with
 | nil=>intro T ah L x5 x6 j7 j8 j9 z O _ _ _ _ _;show#[_,rfl,by simp[yx]]
 | cons R Rs ih =>
  intro T ah L x5 x6 j7 j8 j9 z O hk hT ha hl hL;rw[gJ]at hT hL;have h:=hk R "s"
  have ln:=Z5 h.1 λr hr=>(h.2 r hr).2.1
  let⟨i8,i9,U,Y,e⟩:=qfd Z R h W B hW T "" ah ha L "" hl x6 j7 j8 j9 z O
  have to:=qfe Z R h ah ha L "" hl
  let⟨ρ,e2,e3⟩:=ih (T++[brT (jz F R ah)]) (jz F R ah).ah (L+4096) (!(grD F R)) (!(jz F R ah).kds) (!(brT (jz F R ah))) i8 i9 U Y (λx hx=>hk x (gj _ hx)) (by rw[gD];simp;lia) to.ah (by have:=to.al;lia) ""
  show#[ρ,?_,by rw[e3];simp[yx]]
  rw[gP,vd (yK)];simp[fP,fQ];rw[e];show e2
abbrev US(io:IOF):SF:=(qg (qk 3 (qJ []))
 (qg (qk 4 eDK)
 (qg (jJ 0 (qM (iV 0) (gV 5) (Qh io)))
 (jA 3))))
def qfg(O:TurnOk F k fn io)(Rs)(h:∀ R∈Rs,zK F R)(U:Rs.length<=200)(w)(B:w=.fz (.lst (Rs.map (grD F)))\/w=.br (.lst (Rs.map (grD F)))) :
  den 12 (US io) [w,.fz k[6],.fz fn]=.ok (.lst ((yx F Rs []).map brT))[9]:=by
 let⟨ρ,e,e3⟩:=qff O w (.lst (Rs.map (grD F))) B Rs [] [] 0 none none none none none none none h (by simp;lia) (λ_ z=>(by cases z)) (gC _) ""
 have it:iV 0 [!w,!k[7],!fn[8],!(.lst [])[9],!(.dK [])[9],none,none,none,none,none,none,none]=.ok (Rs.map (grD F)):=by rcases B with z|z<;>(subst z;rfl)
 have fr:x9 (!(!w)) 0 [!w,!k[7],!fn[8],!(.lst [])[9],!(.dK [])[9],none,none,none,none,none,none,none]=[!w,!k[7],!fn[8],!(.lst [])[9],!(.dK [])[9],none,none,none,none,none,none,none]:=by rcases B with z|z<;>(subst z;rfl)
 show fin (qg (qk 3 (qJ [])) _ [!w,!k[7],!fn[8],none,none,none,none,none,none,none,none,none])=_;rw[jv,show(qk 3 (qJ [])) [!w,!k[7],!fn[8],none,none,none,none,none,none,none,none,none]=.nx [!w,!k[7],!fn[8],!(.lst [])[9],none,none,none,none,none,none,none,none]from rfl,jH,jv,show(qk 4 eDK) [!w,!k[7],!fn[8],!(.lst [])[9],none,none,none,none,none,none,none,none]=.nx [!w,!k[7],!fn[8],!(.lst [])[9],!(.dK [])[9],none,none,none,none,none,none,none]from rfl,jH,jv,qb4,show([!w,!k[7],!fn[8],!(.lst [])[9],!(.dK [])[9],none,none,none,none,none,none,none])[0]?=↑(!w)from rfl,fr,kX,it,zQ]
 have e:qH (gV 5) (Qh io) (Rs.map (grD F)) [!w,!k[7],!fn[8],!(.lst [])[9],!(.dK [])[9],none,none,none,none,none,none,none]=.nx ρ:=e;rw[e,jH]
 delta jA
 rw[e3];rfl
def Wc:GE α->Bool
 | .rest _=>false
 | .note _ _ t=>t
def qfh(T)(kds)(e):wF (!(gEv F T kds e))=Wc e:=by cases e<;>rfl
def cnt(z:List (List Int))(v:Nat):Nat:=(z.filter λt=>vof t==(v:Int))[1]
def We(r:List (GE α))(c:Nat)(b:Bool):Bool:=match c with
 | 0=>b
 | c+1=>match r[c]? with|some e=>Wc e|none=>false
def Tr(R:List (List (GE α)))(ah:List (Sum Int Str×D))(z:List (List Int))(st:TS):Prop :=
 st.rows.length=R.length/\∀(v:Nat) (r:List (GE α)),R[v]?=!r->(st.rows.getD v [])[1]=cnt z v/\wF (look (Sum.inl (v:Int)) st.ah)=We r (cnt z v) (wF (look (Sum.inl (v:Int)) ah))
def tr_0(R:List (List (GE α)))(ah):Tr R ah [] (bar0 R ah):=by
 show#[by show(R.map λ_=>[])[1]=_;rw[g6],λv r h=>#[?_,rfl]]
 show((R.map λ_=>[]).getD v [])[1]=0
 simp_all
def qfi(S1)(s)(v):cnt (S1++[s]) v=cnt S1 v+if vof s=v then 1 else 0:=by
 delta cnt
 by_cases c:vof s=v
 .simp_all
 simp_all
def Wf{R:List (List (GE α))}(O:∀ r∈R,∀ e∈r,GeOk F e){ah:List (Sum Int Str×D)}{B U:List (List Int)}{s:List Int}{st:TS}(h:jo (qR 0 (jq R))=B++s::U)(t:Tr R ah B st):Tr R ah (B++[s]) (zU F R st s):=by
 let⟨q,v,n,r,e,e1,er,ee,en,_,sp⟩:=Z4 O h;rw[sp];let⟨tl,tt⟩:=t;have hv:v<st.rows.length:=by rw[tl];show(gp.mp er).1
 have vs:vof s=v:=by subst e1;rfl
 show#[by show(st.rows.set v _)[1]=_;rw[bC];show tl,λu ru hu=>?_]
 let⟨a,b⟩:=tt u ru hu;rw[qfi];by_cases c:u=v
 .subst c;rw[er]at hu;cases hu;rw[iP vs];constructor
  .show((st.rows.set u _).getD u [])[1]=_;rw[t7,List.getElem?_set_self hv];show(st.rows.getD u []++[_])[1]=_;rw[gD,a];rfl
  show wF (look (Sum.inl (u:Int)) (jk (Sum.inl u) _ st.ah))=_;rw[UO,iP rfl,qfh];show _=(match r[cnt B u]? with|some e=>Wc e|none=>false)
  rw[show cnt B u=n from en.symm,ee]
 have ne:¬ (vof s=u):=by rw[vs];lia
 rw[iN ne];constructor
 .show((st.rows.set v _).getD u [])[1]=_;rw[t7,hU (tu c)];show a
 show wF (look (Sum.inl (u:Int)) (jk (Sum.inl v) _ st.ah))=_;rw[UO,iN (by intro z;lia)]
 show b
def qfj{R:List (List (GE α))}(z:∀ r∈R,∀ e∈r,GeOk F e){B:List (Sum Int Str×D)}:∀ S2 S1 st,jo (qR 0 (jq R))=S1++S2->Tr R B S1 st->∀(v n:Nat) x,(st.rows.getD v [])[n]?=!x->((S2.foldl (zU F R) st).rows.getD v [])[n]?=!x:=by
 intro S2
 induction S2 with
 | nil=>intro S1 st _ _ v n x h;show h
 | cons s S2 ih =>
  show λS1 st h t u n x hx=>ih (S1++[s]) (zU F R st s) (by rw[h];simp) (Wf z h t) u n x ?_
  let⟨q,v,m,r,e,e1,er,ee,en,_,sp⟩:=Z4 z h;rw[sp];have hv:v<st.rows.length:=by rw[t.1];show(gp.mp er).1
  show((st.rows.set v _).getD u [])[n]?=!x;by_cases c:u=v
  .subst c;rw[t7,List.getElem?_set_self hv];show(st.rows.getD u []++[_])[n]?=_;rw[t9 (gp.mp hx).1];show hx
  rw[t7,hU (tu c)];show hx
def qfk{R:List (List (GE α))}(B:∀ r∈R,∀ e∈r,GeOk F e){ah:List (Sum Int Str×D)}{z O:List (List Int)}{s:List Int}{st:TS}(h:jo (qR 0 (jq R))=z++s::O)(t:Tr R ah z st)(Y:jz F R ah=(s::O).foldl (zU F R) st)
  {q:Int}{v n:Nat}{r:List (GE α)}{e:GE α}(Z:s=[q,(v:Int),n])(U:R[v]?=!r)(ee:r[n]?=!e):((jz F R ah).rows.getD v [])[n]?=!(gEv F (tOf st v) st.kds e)/\wF (look (Sum.inl (v:Int)) st.ah)=We r n (wF (look (Sum.inl (v:Int)) ah)):=by
 let⟨q',v',n',r',e',f1,f2,f3,f4,_,sp⟩:=Z4 B h;have z1:v=v':=""
 have z2:n=n':=""
 subst z1 z2;let⟨a,b⟩:=t.2 v r U;have cn:cnt z v=n:=f4.symm;rw[cn]at a b;show#[?_,b];rw[Y];show qfj B O (z++[s]) (zU F R st s) (by rw[h];simp) (Wf B h t) v n _ ?_
 rw[sp];have hv:v<st.rows.length:=by rw[t.1];show(gp.mp U).1
 show((st.rows.set v _).getD v [])[n]?=_
 simp_all
def UT{R:List (List (GE α))}(O:∀ r∈R,∀ e∈r,GeOk F e){z:List (Sum Int Str×D)}:∀(A S1 B:List (List Int)) (st:TS),jo (qR 0 (jq R))=S1++(A++B)->Tr R z S1 st->Tr R z (S1++A) (A.foldl (zU F R) st):=λA=>A.rec
 (λS1 B st _ t=>by rw[tK];show t)
 λs A IH S1 B st h t=>by
  have h1:=h;have:=IH (S1++[s]) B (zU F R st s) (by rw[h1];simp) (Wf O h1 t)
  simpa using this
def qfl{R:List (List (GE α))}(z:∀ r∈R,∀ e∈r,GeOk F e)(ah):Tr R ah (jo (qR 0 (jq R))) (jz F R ah):=by
 have:=UT z (jo (qR 0 (jq R))) [] [] (bar0 R ah) "s" (tr_0 R ah)
 show this
def qfm{R:List (List (GE α))}(z:∀ r∈R,∀ e∈r,GeOk F e){v:Nat}{r:List (GE α)}(B:R[v]?=!r):cnt (jo (qR 0 (jq R))) v=r[1]:=by
 delta cnt
 rw[(W8 (jq R) (Z3 z) v (r.map gv) (by rw[gH,B];rfl)),W5,g6]
def Wg{R:List (List (GE α))}(z:∀ r∈R,∀ e∈r,GeOk F e)(ah):(jz F R ah).rows.length=R.length/\∀ v r,R[v]?=!r->((jz F R ah).rows.getD v [])[1]=r[1]/\wF (look (Sum.inl (v:Int)) (jz F R ah).ah)=We r r[1] (wF (look (Sum.inl (v:Int)) ah)):=by
 let⟨a,b⟩:=qfl z ah;show#[a,λv r er=>?_]
 let⟨c,d⟩:=b v r er;rw[qfm z er]at c d;show#[c,d]
theorem UU(v):∀ r p n (i:Nat),i<r[1]->∃ q,(jF v p n r)[i]?=↑[q,v,n+i]
 | [],_,_,_,hz=>by simp at hz
 | x::r,p,n,0,h=>#[p,by simp[jF]]
 | x::r,p,n,i+1,h=>by
  let⟨q,e⟩:=UU v r (p+x) (n+1) i h[""]
  show#[q,by rw[jF,pH,e];simp;lia]
def qfn{R:List (List (GE α))}(z:∀ r∈R,∀ e∈r,GeOk F e){v n:Nat}{r:List (GE α)}(B:R[v]?=!r)(O:n<r[1]):∃ q S1 S2,jo (qR 0 (jq R))=S1++[q,(v:Int),n]::S2:=by
 let⟨q,e⟩:=UU v (r.map gv) 0 0 n (by rw[g6];show O)
 rw[Int.zero_add]at e;have m:[q,v,n]∈jo (qR 0 (jq R)):=by
  have:[q,v,n]∈(jo (qR 0 (jq R))).filter λs=>vof s==v:=by
   rw[(W8 (jq R) (Z3 z) v (r.map gv) (by rw[gH,B];rfl))]
   show t6 e
  simp_all
 let⟨S1,S2,h⟩:=List.append_of_mem m;show#[q,S1,S2,h]
def qfo{R:List (List (GE α))}(z:∀ r∈R,∀ e∈r,GeOk F e)(ah){v n:Nat}{r:List (GE α)}{e:GE α}(B:R[v]?=!r)(O:r[n]?=!e):∃ T kds,((jz F R ah).rows.getD v [])[n]?=!(gEv F T kds e):=by
 let⟨q,S1,S2,h⟩:=qfn z B (gp.mp O).1;have ht:jz F R ah=([q,v,n]::S2).foldl (zU F R) (S1.foldl (zU F R) (bar0 R ah)):=by
  delta jz
  simp_all
 show#[_,_,(qfk z h (UT z S1 [] ([q,v,n]::S2) (bar0 R ah) (by rw[p7];show h) (tr_0 R ah)) ht rfl B O).1]
end
structure H3 where
 m:Nat
 o:Int
 s:Option Int
def sD:Option Int->D
 | none=>.non
 | some n=>.int n
def h3D(h:H3):D:=.tup [.str (fcg h.m),.int h.o,sD h.s]
abbrev io0:IOF:=eIOV 2 "heads_of" JM 6 [(eOp qe (q9 10) 2[5]),(q9 11)] [(q9 1)]
def isT:D->Bool
 | .non=>false
 | _=>true
def FH(k:Int):TF (List Int):=#[λps=>.tup (ps.map D.int),λps T kds=>.tup (y7 (isT T) k kds ps),λps T kds=>vZ (isT T) k kds ps,PsOk]
theorem qfp(k:Int):TurnOk (FH k) k (dFn "heads_of") io0 where
 run:=λR0 B A ah br kds O v va x t T hx hT hk hl=>by
  have hn:vP T .non=.ok (.bl (not (isT T)))[8]:=by rcases hT with z|⟨hs,z⟩<;>(subst z;rfl)
  show qf8 rfl (qf7 rfl rfl rfl rfl rfl rfl (qcp λa=>qeT a T (isT T) k hn x kds hk (by have:x[1]<=24:=hx.2.1;lia)))
 ki:=λx T kds hx hT hk=>by
  let⟨a,b⟩:=qeN (isT T) k x kds hk;have:x[1]<=24:=hx.2.1;show#[a,by show(vZ (isT T) k kds x)[1]<=_;lia]
 tp:=λx T kds _ _ _=>#[_,rfl]
def FP(_:Int):TF (List H3):=#[λhs=>.tup (hs.map h3D),λ_ T _=>T,λ_ _ kds=>kds,λhs=>hs[1]<=24/\∀ h∈hs,h.m<7]
def hd3(kds:Kd)(go:Bool)(p k:Int):H3:=#[ltN p k,ocN p k,if wr kds go p k=true then !(alN p k)else none]
def qfq(kds)(go)(p k):h3D (hd3 kds go p k)=hdH kds go p k:=by
 delta hd3 hdH
 cases c:wr kds go p k<;>rfl
def hds3(go:Bool)(k:Int):Kd->List Int->List H3
 | _,[]=>[]
 | kds,p::ps=>hd3 kds go p k::hds3 go k (hdK kds go p k) ps
def UV(go:Bool)(k:Int):∀(ps:List Int) (kds:Kd),(hds3 go k kds ps).map h3D=y7 go k kds ps:=λps=>ps.rec
 (λ_=>rfl)
 λp ps IH kds=>by rw[hds3,y7,gP,qfq,IH]
def Wh(go:Bool)(k:Int):∀(ps:List Int) (kds:Kd),(hds3 go k kds ps)[1]=ps[1]/\∀ h∈hds3 go k kds ps,h.m<7:=λps=>ps.rec
 (λ_=>#[rfl,λ_ h=>by cases h])
 λp ps IH kds=>by
  let⟨a,b⟩:=IH (hdK kds go p k);show#[by rw[hds3,gJ,gJ,a],λh hh=>?_]
  rcases gw.mp hh with z|z
  .subst z;show Z1 p k
  show b h z
def Qj(x:Str):Nat:=if x=fcg 0 then 0 else if x=fcg 1 then 1 else if x=fcg 2 then 2 else if x=fcg 3 then 3 else if x=fcg 4 then 4 else if x=fcg 5 then 5 else 6
theorem qfr:∀ m,m<7->Qj (fcg m)=m
 | 0,_=>by decide
 | 1,_=>by decide
 | 2,_=>by decide
 | 3,_=>by decide
 | 4,_=>by decide
 | 5,_=>by decide
 | 6,_=>by decide
 | n+7,h=>absurd h ""
def Qk:D->H3
 | .tup [.str x,.int o,.int n]=>#[Qj x,o,!n]
 | .tup [.str x,.int o,_]=>#[Qj x,o,none]
 | _=>#[0,0,none]
def qfs(h)(z:h.m<7):Qk (h3D h)=h:=by
 let⟨m,o,s⟩:=h;have e:=qfr m z;cases s with
 | none=>show(#[Qj (fcg m),o,none]:H3)=_;rw[e]
 | some n=>show(#[Qj (fcg m),o,!n]:H3)=_;rw[e]
def dec:D->GE (List H3)
 | .tup [_,.int v]=>.rest v
 | .tup [_,.int v,.tup hs,.bl t]=>.note v (hs.map Qk) t
 | _=>.rest 0
def hEv(k:Int)(T:D)(kds:Kd):GE (List Int)->GE (List H3)
 | .rest v=>.rest v
 | .note v ps t=>.note v (hds3 (isT T) k kds ps) t
def Z6(k)(T)(kds)(e):dec (gEv (FH k) T kds e)=hEv k T kds e:=by
 cases e with
 | rest v=>rfl
 | note v ps t =>
  show GE.note v ((y7 (isT T) k kds ps).map Qk) t=GE.note v (hds3 (isT T) k kds ps) t;rw[<- UV,gZ];congr 1;have:∀ l:List H3,(∀ h∈l,h.m<7)->l.map (Qk∘h3D)=l:=by
   intro l
   induction l with
   | nil=>intro _;rfl
   | cons a l ih =>
    intro h;rw[gP,ih λx hx=>h x (gj _ hx)]
    show Qk (h3D a)::l=_;rw[qfs a (h a "s")]
  show this _ (Wh (isT T) k ps kds).2
def qft(k)(T)(kds)(e):geD (FP k) (hEv k T kds e)=gEv (FH k) T kds e:=by
 cases e with
 | rest v=>rfl
 | note v ps t =>
  show D.tup [.str "note",.int v,.tup ((hds3 (isT T) k kds ps).map h3D),.bl t]=_;rw[UV];rfl
def qfu(k)(T)(kds)(e)(h:GeOk (FH k) e):GeOk (FP k) (hEv k T kds e):=by
 cases e with
 | rest v=>show h
 | note v ps t =>
  have l3:=h.2.2.1;let⟨a,b⟩:=Wh (isT T) k ps kds;show#[h.1,"",b]
def Qof(k:Int)(R:List (List (GE (List Int))))(z:List (Sum Int Str×D)):List (List (GE (List H3))):=(jz (FH k) R z).rows.map (·.map dec)
def UW{R:List (List (GE (List Int)))}(O:∀ r∈R,∀ e∈r,GeOk (FH k) e)(ah){v:Nat}{r:List (GE (List Int))}(B:R[v]?=!r) :
  ∃ z,(jz (FH k) R ah).rows[v]?=!z/\z[1]=r[1]/\(Qof k R ah)[v]?=!(z.map dec)/\∀(n:Nat) e,r[n]?=!e->∃ T kds,z[n]?=!(gEv (FH k) T kds e):=by
 let⟨a,b⟩:=Wg O ah;have hv:v<(jz (FH k) R ah).rows.length:=by rw[a];show(gp.mp B).1
 have e1:=gG hv;have gd:(jz (FH k) R ah).rows.getD v []=(jz (FH k) R ah).rows[v]:=by rw[t7,e1];rfl
 show#[_,e1,by rw[<- gd];show(b v r B).1,by delta Qof;rw[gH,e1];rfl,λn e ee=>?_]
 let⟨T,kds,f⟩:=qfo O ah B ee;rw[gd]at f;show#[T,kds,f]
def UX{R:List (List (GE (List Int)))}(z:∀ r∈R,∀ e∈r,GeOk (FH k) e)(ah):(Qof k R ah)[1]=R.length:=by
 delta Qof
 rw[g6,(Wg z ah).1]
def qfv{β:Type}(g)(g':GE (List Int)->β){k:Int}(O:∀ T kds e,g (hEv k T kds e)=g' e){R:List (List (GE (List Int)))}(B:∀ r∈R,∀ e∈r,GeOk (FH k) e)(ah):(Qof k R ah).map (·.map g)=R.map (·.map g'):=by
 apply dY;intro v;rw[gH,gH];cases er:R[v]? with
 | none =>
  have:(Qof k R ah)[v]?=none:=by
   rw[List.getElem?_eq_none_iff]at er ⊢;rw[UX B ah];show er
  rw[this];rfl
 | some r =>
  let⟨z,e1,e2,e3,e4⟩:=UW B ah er;rw[e3];show ↑((z.map dec).map g)=!(r.map g');congr 1;apply dY;intro n;rw[gH,gH,gH];cases ee:r[n]? with
  | none =>
   simp_all
  | some e =>
   let⟨T,kds,f⟩:=e4 n e ee;rw[f];show ↑(g (dec (gEv (FH k) T kds e)))=!(g' e);rw[Z6,O]
def Q_ev{R:List (List (GE (List Int)))}(U:∀ r∈R,∀ e∈r,GeOk (FH k) e)(ah){z:List D}(Y:z∈(jz (FH k) R ah).rows):∃ r∈R,z[1]=r[1]/\∀ d∈z,∃ T kds,∃ e∈r,d=gEv (FH k) T kds e:=by
 let⟨v,hv,e0⟩:=tH.mp Y;have B:v<R.length:=by rw[<- (Wg U ah).1];show hv
 let⟨O,e1,e2,e3,e4⟩:=UW U ah (gG B);have:O=z:=by
  simp_all
 subst this;show#[R[v],fw B,e2,λd hd=>?_]
 let⟨n,hn,en⟩:=tH.mp hd;let⟨T,kds,f⟩:=e4 n _ (gG "")
 rw[gG hn,en]at f;show#[T,kds,R[v][n],fw _,tN f]
def Q_D{R:List (List (GE (List Int)))}(O:∀ r∈R,∀ e∈r,GeOk (FH k) e)(ah):grD (FP k) (Qof k R ah)=brT (jz (FH k) R ah):=by
 delta grD Qof
 rw[gZ];congr 1;apply tf;intro B hm;show D.lst ((B.map dec).map (geD (FP k)))=D.lst B;rw[gZ];congr 1;let⟨r,_,_,h⟩:=Q_ev O ah hm;show Eq.trans (tf λd hd=>?_) (List.map_id' _)
 let⟨T,kds,e,_,z⟩:=h d hd;subst z;show geD (FP k) (dec (gEv (FH k) T kds e))=_;rw[Z6,qft]
def Q_ok{R:List (List (GE (List Int)))}(h:zK (FH k) R)(ah):zK (FP k) (Qof k R ah):=by
 have hR:=λr hr=>(h.2 r hr).1
 show#[by rw[UX hR ah];show h.1,λrq hq=>?_]
 let⟨B,hm,e0⟩:=gK.mp hq;let⟨r,hr,hl,he⟩:=Q_ev hR ah hm;let⟨a,b,c⟩:=h.2 r hr;subst e0;show#[λx hx=>?_,by rw[g6];lia]
 let⟨d,hd,ed⟩:=gK.mp hx;let⟨T,kds,e,me,z⟩:=he d hd;subst z;subst ed;rw[Z6];show qfu k T kds e (a e me)
def gOf:Ev->GE (List Int)
 | .rest v=>.rest v
 | .note v ps t=>.note v ps t
def gR(R:List (List Ev)):List (List (GE (List Int))):=R.map (·.map gOf)
def qfw(k)(e):geD (FH k) (gOf e)=evD e:=by cases e<;>rfl
def gR_D(k)(R):grD (FH k) (gR R)=brD R:=by
 delta grD gR
 rw[gZ];congr 1;apply tf;intro r _;show D.lst ((r.map gOf).map (geD (FH k)))=D.lst (r.map evD);rw[gZ];congr 1;apply tf;show λe _=>qfw k e
def qfx(k)(R)(h:R.length<=8/\∀ r∈R,PRow r):zK (FH k) (gR R):=by
 show#[by delta gR;rw[g6];show h.1,λr hr=>?_]
 let⟨q,hq,e⟩:=gK.mp hr;subst e;let⟨a,b,c⟩:=h.2 q hq;show#[λx hx=>?_,by rw[g6];show b,by rw[g6];show c]
 let⟨y,hy,ey⟩:=gK.mp hx;subst ey;have:=a y hy;cases y with
 | rest v=>show this
 | note v ps t=>show this
def QsOf(k:Int):List (List (List Ev))->List (Sum Int Str×D)->List (List (List (GE (List H3))))
 | [],_=>[]
 | R::Rs,ah=>Qof k (gR R) ah::QsOf k Rs (jz (FH k) (gR R) ah).ah
theorem Qs_D(k):∀ Rs ah,(∀ R∈Rs,zK (FH k) (gR R))->(QsOf k Rs ah).map (grD (FP k))=(yx (FH k) (Rs.map gR) ah).map brT/\∀ Q∈QsOf k Rs ah,zK (FP k) Q
 | [],_,_=>#[rfl,λ_ z=>by cases z]
 | R::Rs,ah,h=>by
  have hR:=h R "s"
  let⟨a,b⟩:=Qs_D k Rs (jz (FH k) (gR R) ah).ah λx hx=>h x (gj _ hx)
  show#[?_,λQ hQ=>?_]
  .rw[QsOf,gP,gP,yx,gP,a,Q_D λr hr=>(hR.2 r hr).1]
  rcases gw.mp hQ with z|z
  .subst z;show Q_ok hR ah
  show b Q z
def UY{p:Int->Prop}:∀(ys:List D),(∀ y∈ys,∃ n:Int,y=.int n/\p n)->∃ xs:List Int,ys=xs.map D.int/\(∀ x∈xs,p x)/\xs[1]=ys[1]:=λys=>ys.rec
 (λ_=>#[[],rfl,λ_ h=>(by cases h),rfl])
 λy ys IH h=>by
  let⟨n,e,hp⟩:=h y "s"
  let⟨xs,e2,hq,hl⟩:=IH λz hz=>h z (gj _ hz)
  show#[n::xs,by rw[e,e2];rfl,λx hx=>?_,by simp[hl]]
  grind
def Wi{it:IF}{i:Nat}{ds:List D}(p:Int->Prop)(h:it ρ=.ok ds)(B:ds[1]<=sz)(O:∀ d∈ds,∃ n,e ((jh 1 ρ).set i (!d[8]))=.ok n[7]/\p n) :
  ∃ xs:List Int,qF 1 it (gV i) qI e ρ=.ok (.lst (xs.map D.int))[9]/\(∀ x∈xs,p x)/\xs[1]=ds[1]:=by
 classical
 let f:D->D:=λd=>if g:∃ n,e ((jh 1 ρ).set i (!d[8]))=.ok n[7]/\p n then .int g.choose else .non
 have q:∀ d∈ds,e ((jh 1 ρ).set i (!d[8]))=.ok (f d)[8]/\∃ n,f d=.int n/\p n:=λd hd=>by
  have g:=O d hd;have fe:f d=.int g.choose:=dif_pos g;rw[fe];show#[g.choose_spec.1,_,rfl,g.choose_spec.2]
 let⟨xs,e2,hp,l2⟩:=UY (ds.map f) λy hy=>by
  let⟨d,hd,z⟩:=gK.mp hy;rw[<- z];show(q d hd).2
 show#[xs,?_,hp,by rw[l2,g6]]
 rw[kO h B (kN i f _ _ λd hd=>#[_,(q d hd).1,rfl]),e2]
def gh:GE (List H3)->Nat
 | .rest _=>0
 | .note _ hs _=>hs[1]
def ghR(r:List (GE (List H3))):Nat:=(r.map gh).sum
def Wj:D->Bool
 | .tup [_,_,s]=>(match s with|.non=>false|_=>true)
 | _=>false
def qfy(i)(B:List H3)(U:B[1]<=24)(it)(ρ)(hi:it ρ=.ok (B.map h3D))(O:ρ.length=i) :
  ∃ ds,ds[1]<=B[1]/\qF 1 it (gV i) (tE (eOp wR (eOp qe (q9 i) 2[5]) (eC .non))) (q9 i) ρ=.ok (.lst ds)[9]:=by
 have hz:sz=16777216:=rfl;have at_:∀ d,((jh 1 ρ).set i (!d[8]))[i]?=!(!d[8]):=λd=>List.getElem?_set_self (by delta jh;simp;lia)
 show#[((B.map h3D).filter Wj).map id,by rw[g6];show tY (List.length_filter_le _ _) "s",kO hi (by rw[g6];lia) (Yw i Wj id _ _ λd hd=>?_)]
 let⟨h,hh,he⟩:=gK.mp hd;subst he;have v:(q9 i) ((jh 1 ρ).set i (!(h3D h)[8]))=.ok (h3D h)[8]:=by rw[vW,at_];rfl
 show#[?_,λ_=>#[_,v,rfl]]
 have i2:qe (h3D h) 2[6]=.ok (sD h.s)[8]:=rfl;have z:wR (sD h.s) .non=.ok (.bl (Wj (h3D h)))[8]:=by
  delta h3D
  cases h.s<;>rfl
 rw[vW]at v;simp![v,i2,z]
def UZ(N)(k)(BODY)(R0)(P:List (List (GE (List H3)))->En->Prop)
  (step:∀ pre r w j3,P pre w->pre[1]<N->Wb (FP k) r->∃ w' i3,qH (gV 3) BODY (r.map (geD (FP k))) [R0,!w,!(gwD (FP k) r)[8],j3]=.nx [R0,!w',!(gwD (FP k) r)[8],i3]/\P (pre++[r]) w') :
  ∀ Q pre w j2 j3,P pre w->pre[1]+Q[1]<=N->(∀ r∈Q,Wb (FP k) r)->∃ w' i2 i3,qH (gV 2) (jJ 2 (qM (iV 2) (gV 3) BODY)) (Q.map (gwD (FP k))) [R0,!w,j2,j3]=.nx [R0,!w',i2,i3]/\P (pre++Q) w':=by
 intro Q
 induction Q with
 | nil=>intro pre w j2 j3 h _ _;show#[w,j2,j3,rfl,by rw[tK];show h]
 | cons r Q ih =>
  intro pre w j2 j3 h hN hk;rw[gJ]at hN;let⟨w1,i3,q,p1⟩:=step pre r w j3 h "" (hk r "s")
  let⟨w2,k2,k3,q2,p2⟩:=ih (pre++[r]) w1 (!(gwD (FP k) r)[8]) i3 p1 (by rw[gD,fm];lia) λx hx=>hk x (gj _ hx)
  show#[w2,k2,k3,?_,by rw[hV]at p2;show p2]
  rw[gP,vd (yK)];simp[fP,fQ];rw[<- q2];have e:(jJ 2 (qM (iV 2) (gV 3) BODY)) [R0,!w,!(gwD (FP k) r)[8],j3]=.nx [R0,!w1,!(gwD (FP k) r)[8],i3]:=by
   assumption
  rw[e,y6]
def M3(k v)(hs)(t)(R0 W R2):qN (eOp qe (q9 3) 2[5]) [R0,W,R2,!(geD (FP k) (.note v hs t))[8]]=.ok (hs.map h3D):=by
 rfl
def qfz(k v)(hs)(t)(R0 W R2):(tE (eOp dEq (eOp qe (q9 3) 0[5]) (eC (.str "note")))) [R0,W,R2,!(geD (FP k) (.note v hs t))[8]]=.ok true:=by
 have i0:qe (geD (FP k) (.note v hs t)) 0[6]=.ok (.str "note")[8]:=rfl;simp![i0,Uu]
def qfA(k v)(R0 W R2):(tE (eOp dEq (eOp qe (q9 3) 0[5]) (eC (.str "note")))) [R0,W,R2,!(geD (FP k) (.rest v))[8]]=.ok false:=by
 have i0:qe (geD (FP k) (.rest v)) 0[6]=.ok (.str "rest")[8]:=rfl;simp![i0,Ut]
def M4(N)(k)(ST)(R0 R2)(P:List (GE (List H3))->En->Prop)(B:∀ pre v w,P pre w->P (pre++[.rest v]) w)
  (step:∀ pre v hs t w,P pre w->pre[1]<N->GeOk (FP k) (.note v hs t)->∃ w',ST [R0,!w,R2,!(geD (FP k) (.note v hs t))[8]]=.nx [R0,!w',R2,!(geD (FP k) (.note v hs t))[8]]/\P (pre++[.note v hs t]) w') :
  ∀ r pre w j3,P pre w->pre[1]+r[1]<=N->(∀ e∈r,GeOk (FP k) e)->∃ w' i3,qH (gV 3) (sIf (tE (eOp dEq (eOp qe (q9 3) 0[5]) (eC (.str "note")))) ST qw) (r.map (geD (FP k))) [R0,!w,R2,j3]=.nx [R0,!w',R2,i3]/\P (pre++r) w':=by
 intro r
 induction r with
 | nil=>intro pre w j3 h _ _;show#[w,j3,rfl,by rw[tK];show h]
 | cons e r ih =>
  intro pre w j3 h hN hk;rw[gJ]at hN;rw[gP,vd (yK)];simp only[fP,fQ];have z:=λx hx=>hk x (gj _ hx)
  cases e with
  | rest v =>
   let⟨w2,i3,q,p⟩:=ih (pre++[.rest v]) w (!(geD (FP k) (.rest v))[8]) (B pre v w h) (by rw[gD,fm];lia) z
   rw[hV]at p;show#[w2,i3,by rw[QP,qfA,zQ,Yz,YA,y6,q],p]
  | note v hs t =>
   let⟨w1,s,p1⟩:=step pre v hs t w h "" (hk (.note v hs t) "s")
   let⟨w2,i3,q,p⟩:=ih (pre++[.note v hs t]) w1 (!(geD (FP k) (.note v hs t))[8]) p1 (by rw[gD,fm];lia) z
   rw[hV]at p;show#[w2,i3,by rw[QP,qfz,zQ,Yy,s,y6,q],p]
def M5(pre)(e):ghR (pre++[e])=ghR pre+gh e:=by delta ghR;simp
def qfB(k)(Q)(h:zK (FP k) Q):∃ n:Nat,Jt [.fz (grD (FP k) Q)]=.ok n[7]/\n<=(Q.map ghR).sum:=by
 let⟨w,i2,i3,q,n,rfl,hn⟩:=UZ 8 k (sIf (tE (eOp dEq (eOp qe (q9 3) 0[5]) (eC (.str "note")))) (zb 1 zY (eB jw [(qF 1 (qN (eOp qe (q9 3) 2[5])) (gV 4) (tE (eOp wR (eOp qe (q9 4) 2[5]) (eC .non))) (q9 4))])) qw) (!(grD (FP k) Q)[8])
  (λpre w=>∃ n:Nat,w=.fz n[6]/\n<=(pre.map ghR).sum) (λpre r w j3 #[n,hw,hn] _ hr=>by
   subst hw;let⟨w',i3,q,n',z,B⟩:=M4 512 k (zb 1 zY (eB jw [(qF 1 (qN (eOp qe (q9 3) 2[5])) (gV 4) (tE (eOp wR (eOp qe (q9 4) 2[5]) (eC .non))) (q9 4))])) (!(grD (FP k) Q)[8]) (!(gwD (FP k) r)[8])
    (λp w=>∃ m:Nat,w=.fz m[6]/\m<=n+ghR p) (λp v w #[m,a,b]=>#[m,a,by rw[M5];show m<=n+(ghR p+0);lia]) (λp v hs t w #[m,a,b] _ ok=>by
     subst a;let⟨ds,dl,cm⟩:=qfy 4 hs ok.2.1 _ _ (M3 k v hs t (!(grD (FP k) Q)[8]) (!m[7]) (!(gwD (FP k) r)[8])) rfl;show#[.fz (m+ds[1]:Nat)[6],?_,m+ds[1],rfl,by rw[M5];show m+ds[1]<=n+(ghR p+hs[1]);lia]
     simp![cm];rfl) r [] n[7] j3 #[n,rfl,""] (by rw[fS];have:=hr.2.1;lia) hr.1
   show#[w',i3,q,n',z,?_];rw[p7]at B;simp;lia) Q [] 0[7] none none #[0,rfl,tP _] (by rw[fS];have:=h.1;lia) h.2
 show#[n,?_,hn]
 delta Jt KY
 left;rw[ZM rfl];left;rw[q];left
def qfC:∀(ns σ:List Int),σ.Nodup->(ns.foldl step_dedup σ).Nodup/\∀ x,x∈ns.foldl step_dedup σ->x∈σ\/x∈ns:=λns=>ns.rec
 (λσ h=>#[h,λx hx=>.inl hx])
 λn ns IH σ h=>by
  have st:(step_dedup σ n).Nodup/\∀ x,x∈step_dedup σ n->x∈σ\/x=n:=by
   delta step_dedup
   by_cases c:(σ.any (·==n))=true
   .rw[iP c];show#[h,λx z=>.inl z]
   rw[iN c];show#[fN.mpr #[h,by simp,λa ha b hb e=>?_],λx=>by simp]
   simp_all
  let⟨a,b⟩:=IH (step_dedup σ n) st.1
  grind
def qfD(z:List Int)(L:Nat)(h:∀ x∈z,0<=x/\x<L):(yQ z)[1]<=L:=by
 let⟨a,b⟩:=qfC z [] List.Pairwise.nil;have:=VP (m:=(List.range L).map λt:Nat=>(t:Int)) a λx hx=>by
  let⟨h0,h1⟩:=h x ((b x hx).resolve_left "s")
  let⟨t,rfl⟩:=pI h0;show gK.mpr #[t,b7.mpr "",rfl]
 rw[g6,d7]at this;show this
def qfE:∀(r:List Int),(∀ x∈r,1<=x)->0<=r.sum:=λr=>r.rec
 (λ_=>by simp)
 λx r IH h=>by
  have:=h x "s"
  have:=IH λy hy=>h y (gj _ hy)
  rw[fW];lia
def qfF(v:Int):∀(r:List Int) (p n:Int),(∀ x∈r,1<=x)->∀ s∈jF v p n r,p<=s.headD 0/\s.headD 0<p+r.sum:=λr=>r.rec
 (λ_ _ _ _ hs=>by cases hs)
 λx r IH p n h s hs=>by
  have h1:=h x "s"
  have h2:=λy hy=>h y (gj _ hy)
  have nn:=qfE r h2;rw[fW];rcases gw.mp hs with z|z
  .subst z;show p<=p/\p<_;lia
  have:=IH (p+x) (n+1) h2 s z;lia
def qfG(L:Int):∀(rs:List (List Int)) (v:Int),(∀ r∈rs,(∀ x∈r,1<=x)/\r.sum<=L)->∀ s∈qR v rs,0<=s.headD 0/\s.headD 0<L:=λrs=>rs.rec
 (λ_ _ _ hs=>by cases hs)
 λr rs IH v h s hs=>by
  rcases gE.mp hs with z|z
  .have a:=h r "s"
   have:=qfF v r 0 0 a.1 s z;lia
  show IH (v+1) (λx hx=>h x (gj _ hx)) s z
def M6:D->D
 | .tup (.int p::_)=>.int p
 | _=>.non
def qfH(k)(Q)(h:zK (FP k) Q)(L:Nat)(O:∀ r∈jq Q,r.sum<=L):∃ w,yt [.fz (grD (FP k) Q)]=.ok w[7]/\1<=w/\w<=4+3*L+(Q.map ghR).sum:=by
 have hz:sz=16777216:=rfl;have io:=UR (F:=FP k) Q h (grD (FP k) Q)[8] (.inl rfl);have vp:∀ r∈jq Q,∀ x∈r,1<=x:=Z3 (F:=FP k) λr hr=>(h.2 r hr).1
 have pm:=yj (qR 0 (jq Q));have ln:=Z5 h.1 λr hr=>(h.2 r hr).2.1
 let⟨n,sg,sl⟩:=qfB k Q h;generalize hS:jo (qR 0 (jq Q))=S at *;have cm:(qF 1 (qN (qi wA [(q9 0)])) (gV 2) qI (eOp qe (q9 2) 0[5])) [!(grD (FP k) Q)[8],none]=.ok (.lst ((S.map (·.headD 0)).map D.int))[9]:=by
  have it:qN (qi wA [(q9 0)]) [!(grD (FP k) Q)[8],none]=.ok (S.map qP):=vk (w:=.ow (.lst (S.map qP))) (by simp![io]) rfl
  rw[kO (ds:=S.map qP) (ys:=(S.map qP).map M6) it (by rw[g6];lia) (kN 2 M6 _ _ λd hd=>?_)]
  .congr 3;rw[gZ,gZ];apply tf;intro r hr;let⟨q,u,m,e,_⟩:=Qe _ _ _ (pm.mem_iff.mp hr);subst e;rfl
  let⟨r,hr,B⟩:=gK.mp hd;subst B;let⟨q,u,m,e,_⟩:=Qe _ _ _ (pm.mem_iff.mp hr);subst e;show#[.fz q[6],?_,rfl];rfl
 have dl:=qfD (S.map (·.headD 0)) L λx hx=>by
  let⟨s,hs,z⟩:=gK.mp hx;subst z;show qfG L (jq Q) 0 (λr hr=>#[vp r hr,O r hr]) s (pm.mem_iff.mp hs)
 have ls:Jk (.lst ((S.map (·.headD 0)).map D.int))=.ok ((yQ (S.map (·.headD 0)))[1])[7]:=by
  delta Jk
  dsimp only;rw[W4]
  simp_all
 have m3:=kY (i:=3) (j:=((yQ (S.map (·.headD 0)))[1])) "d" "d"
 show#[4+3*((yQ (S.map (·.headD 0)))[1])+n,?_,"",""]
 delta yt Xg
 simp![Va,cm,ls,Vq,Vr,m3,sg]
def Wl:Nat->Int
 | 0=>37|1=>31|_=>25
theorem qfI:∀ c:Nat,c<3->okD (ati [D.int 37,.int 31,.int 25] c)=.ok (Wl c)[7]
 | 0,_=>rfl
 | 1,_=>rfl
 | 2,_=>rfl
 | n+3,h=>absurd h ""
def qfJ:wT (.tup xs) i[6]=okD (ati xs i):=rfl
def qfK(st)(c:Nat)(z:c<3):∃ n,uS [.fz st[6],.fz c[6]]=.ok n[7]/\True:=by
 obtain⟨m,m3⟩:∃ m,V0 [.int (st-Wl c-8),.int (Wl c-st),.int 0]=.ok m[7]:=#[_,rfl];show#[m/2,?_,trivial]
 delta uS KR
 simp![Vl,Vm,(qfI c z),m3];rfl
theorem qfL:∀ m,m<7->∃ k,xj (.str "CDEFGAB") (.str (fcg m))=.ok k[7]
 | 0,_=>#[3,by kernel_rfl]
 | 1,_=>#[0,by kernel_rfl]
 | 2,_=>#[4,by kernel_rfl]
 | 3,_=>#[1,by kernel_rfl]
 | 4,_=>#[5,by kernel_rfl]
 | 5,_=>#[2,by kernel_rfl]
 | 6,_=>#[6,by kernel_rfl]
 | n+7,h=>absurd h ""
def qfM(h)(z:h.m<7):∃ n,yU [.fz (h3D h)]=.ok n[7]/\True:=by
 let⟨k,e⟩:=qfL h.m z;show#[7*h.o+k,?_,trivial]
 delta yU KQ
 simp![h3D,qfJ,kY (i:=7) "d" "d",Vk,e]
def qfN(k)(Q)(h:zK (FP k) Q):∃ xs:List Int,uW [.fz (grD (FP k) Q)]=.ok (.lst (xs.map D.int))[9]/\xs[1]<=100000:=by
 have hz:sz=16777216:=rfl;have hq:=h.1;let⟨w,i2,i3,q,xs,rfl,hn⟩:=UZ 8 k (sIf (tE (eOp dEq (eOp qe (q9 3) 0[5]) (eC (.str "note")))) (zZ 1 (qF 1 (qN (eOp qe (q9 3) 2[5])) (gV 4) qI (qi yU [(q9 4)]))) qw) (!(grD (FP k) Q)[8])
  (λpre w=>∃ xs,w=.ow (.lst (xs.map D.int))/\xs[1]<=12288*pre[1]) (λpre r w j3 #[xs,hw,hn] p8 hr=>by
   subst hw;have rl:=hr.2.1;let⟨w',i3,q,ys,B,O⟩:=M4 512 k (zZ 1 (qF 1 (qN (eOp qe (q9 3) 2[5])) (gV 4) qI (qi yU [(q9 4)]))) (!(grD (FP k) Q)[8]) (!(gwD (FP k) r)[8])
    (λp w=>∃ ys,w=.ow (.lst (ys.map D.int))/\ys[1]<=xs[1]+24*p[1]) (λp v w #[m,a,b]=>#[m,a,by rw[gD];lia]) (λp v hs t w #[ys,a,b] p5 ok=>by
     subst a;have U:=ok.2.1;let⟨zs,cm,_,zl⟩:=Wi (i:=4) (λ_=>True) (M3 k v hs t (!(grD (FP k) Q)[8]) (!(.lst (ys.map D.int))[9]) (!(gwD (FP k) r)[8])) (by rw[g6];lia) (λd hd=>by
      let⟨x,hx,z⟩:=gK.mp hd;subst z;let⟨n,e,_⟩:=qfM x (ok.2.2 x hx);show#[n,?_,trivial];show(qi yU [(q9 4)]) [_,_,_,_,!(h3D x)[8]]=_;simp![e])
     rw[g6]at zl;show#[.ow (.lst ((ys++zs).map D.int)),?_,ys++zs,rfl,by rw[gD,gD,fm];lia]
     rw[uD rfl cm (by rw[g6,g6];lia),hX]
     rfl) r [] (.lst (xs.map D.int))[9] j3 #[xs,rfl,by simp] (by rw[fS];lia) hr.1
   show#[w',i3,q,ys,B,?_];rw[p7]at O;rw[gD,fm];lia) Q [] (.lst [])[9] none none #[[],rfl,by simp] (by rw[fS];lia) h.2
 show#[xs,?_,by rw[p7]at hn;lia]
 delta uW Xa
 left;rw[ZM rfl];left;rw[q];left
def qfO(z:List Int):uq [.lst (z.map D.int)]=.ok z.sum[7]:=by
 delta uq
 dsimp only;rw[W4]
def qfP(xs:List Int)(O:xs[1]<=100000)(c:Nat)(B:c<3):∃ n,yX [.br (.lst (xs.map D.int)),.fz c[6]]=.ok n[7]:=by
 have hz:sz=16777216:=rfl;let⟨ys,cm,_,_⟩:=Wi (it:=iVc 0) (i:=2) (e:=qi uS [(q9 2),(q9 1)]) (ρ:=[!(.br (.lst (xs.map D.int))),!c[7]]) (λ_=>True) (yi rfl rfl) (by rw[g6];lia) (λd hd=>by
  let⟨s,hs,z⟩:=gK.mp hd;subst z;let⟨n,e,_⟩:=qfK s c B;show#[n,by simp![jh,ro,e],trivial])
 show#[ys.sum,?_]
 delta yX Xb
 simp![cm,qfO]
abbrev P3:=Int×Int×Int
def p3D(p:P3):D:=.lst [.int p.1,.int p.2.1,.int p.2.2]
theorem Wm(p)(w)(B:w=.fz (p3D p)\/w=.br (p3D p)):∀ c:Nat,c<3->∃ p',ww [w,.fz c[6]]=.ok (p3D p')[9]
 | 0,_=>#[(p.1,p.2.1+4,p.2.2+4),by rcases B with z|z<;>(subst z;kernel_rfl)]
 | 1,_=>#[(p.1+4,p.2.1,p.2.2+4),by rcases B with z|z<;>(subst z;kernel_rfl)]
 | 2,_=>#[(p.1+4,p.2.1+4,p.2.2),by rcases B with z|z<;>(subst z;kernel_rfl)]
 | n+3,h=>absurd h ""
def min3(p):wU [p3D p]=.ok (vR p.1 [p.2.1,p.2.2])[7]:=rfl
def qfQ(xs:List Int)(B:xs[1]<=100000)(p)(w)(O:w=.fz (p3D p)\/w=.ow (p3D p))(R0 R1 R3) :
  ∃ p',qF 1 (qN (eC xw)) (gV 5) qI (eOp qD (qi yX [(q9 4),(q9 5)]) (eB wU [(qi ww [(q9 2),(q9 5)])])) [R0,R1,!w,R3,!(.lst (xs.map D.int))[9]]=.ok (p3D p')[9]:=by
 have one:∀ c:Nat,c<3->∃ n,(eOp qD (qi yX [(q9 4),(q9 5)]) (eB wU [(qi ww [(q9 2),(q9 5)])])) ((jh 1 [R0,R1,!w,R3,!(.lst (xs.map D.int))[9]]).set 5 (!c[7]))=.ok n[7]/\True:=λc hc=>by
  let⟨n,l⟩:=qfP xs B c hc;let⟨p1,b1⟩:=Wm p (p3D p)[8] (.inl rfl) c hc;let⟨p2,b2⟩:=Wm p (.br (p3D p)) (.inr rfl) c hc;rcases O with rfl|rfl
  .show#[n+vR p1.1 [p1.2.1,p1.2.2],by simp![jh,ro,l,b1,min3],trivial]
  show#[n+vR p2.1 [p2.2.1,p2.2.2],by simp![jh,ro,l,b2,min3],trivial]
 let⟨ys,cm,_,yl⟩:=Wi (it:=qN (eC xw)) (λ_=>True) rfl "d" (λd hd=>by
  rcases gw.mp hd with z|hd
  .subst z;show one 0 "d"
  rcases gw.mp hd with z|hd
  .subst z;show one 1 "d"
  rcases gw.mp hd with z|hd
  .subst z;show one 2 "d"
  cases hd)
 obtain⟨a,b,c,rfl⟩:∃ a b c,ys=[a,b,c]:=by
  match ys,yl with
  | [a,b,c],_=>show#[a,b,c,rfl]
 show#[(a,b,c),cm]
def qfR(k)(Qs:List (List (List (GE (List H3)))))(O:Qs.length<=200)(h:∀ Q∈Qs,zK (FP k) Q):∃ ps:List P3,Q3 [.fz (.lst (Qs.map (grD (FP k))))]=.ok (.lst (ps.map p3D))[9]/\ps[1]=Qs.length:=by
 have hz:sz=16777216:=rfl;let⟨ρ,e,ps,p,w,j3,j4,pl,hw,B⟩:=vV ((Qs.map (grD (FP k))).reverse) (λi ρ=>∃ ps p w j3 j4,ps[1]=i/\(w=.fz (p3D p)\/w=.ow (p3D p))/\ρ=[!(.lst (Qs.map (grD (FP k))))[8],!(.lst (ps.map p3D))[9],!w,j3,j4])
  (g:=gV 3) (b:=qg (qk 4 (qi uW [(q9 3)])) (qg (qk 2 (qF 1 (qN (eC xw)) (gV 5) qI (eOp qD (qi yX [(q9 4),(q9 5)]) (eB wU [(qi ww [(q9 2),(q9 5)])])))) (jJ 2 (qC 1 (q9 2)))))
  (ρ:=[!(.lst (Qs.map (grD (FP k))))[8],!(.lst [])[9],!(.lst [.int 0,.int 0,.int 0])[9],none,none]) #[[],(0,0,0),_,none,none,rfl,.inr rfl,rfl] (λi x ρ hx #[ps,p,w,j3,j4,pl,hw,B]=>by
   subst B;have hi:=(gp.mp hx).1;rw[bG,g6]at hi;let⟨Q,hQ,z⟩:=gK.mp (List.mem_reverse.mp (t6 hx));subst z;let⟨xs,st,sl⟩:=qfN k Q (h Q hQ);let⟨p',nc⟩:=qfQ xs sl p w hw (!(.lst (Qs.map (grD (FP k))))[8]) (!(.lst (ps.map p3D))[9]) (!(grD (FP k) Q)[8]);show#[_,_,rfl,.inl ?_,ps++[p'],p',.fz (p3D p'),!(grD (FP k) Q)[8],!(.lst (xs.map D.int))[9],by rw[gD,pl];rfl,.inl rfl,rfl]
   simp![st,nc];rw[jR rfl (by rw[g6];lia) (by left)]
   simp![hX])
 subst B;show#[ps.reverse,?_,by rw[bG,pl,bG,g6]]
 have it:Ja 0 [!(.lst (Qs.map (grD (FP k))))[8],!(.lst [])[9],!(.lst [.int 0,.int 0,.int 0])[9],none,none]=.ok ((Qs.map (grD (FP k))).reverse):=rfl
 delta Q3 Xt
 left;rw[it];left;rw[e];left;have rv:ZV (q9 1) [!(.lst (Qs.map (grD (FP k))))[8],!(.lst (ps.map p3D))[9],!w,j3,j4]=.ok (.lst (ps.reverse.map p3D))[9]:=by
  show R.ok (En.ow (.lst (ps.map p3D).reverse))=_;simp
 rw[rv];left
def qfS(p):∃ j:Nat,j<3/\uI (p3D p) (vR p.1 [p.2.1,p.2.2])[6]=.ok j[7]:=by
 let⟨x,y,z⟩:=p;let⟨m1,_⟩:=ZZ [y,z] x;show ∃ j,j<3/\(match [x,y,z].findIdx? (λn=>n==vR x [y,z])with|some j=>okI j|none=>.stuck)=_
 generalize vR x [y,z]=m at m1;by_cases a:x=m
 .show#[0,by decide,?_]
  simp[bP,a]
 by_cases b:y=m
 .show#[1,by decide,?_]
  simp[bP,a,b]
 have c:z=m:=by
  grind
 show#[2,by decide,?_]
 simp[bP,a,b,c]
def jr(n:Nat):D:=.int (n:Int)
def qfT(k)(Qs:List (List (List (GE (List H3)))))(Z:Qs.length<=200)(h:∀ Q∈Qs,zK (FP k) Q):∃ cs:List Nat,JK [.fz (.lst (Qs.map (grD (FP k))))]=.ok (.lst (cs.map jr))[9]/\cs[1]=Qs.length/\∀ c∈cs,c<3:=by
 have hz:sz=16777216:=rfl;let⟨ps,pe,pl⟩:=qfR k Qs Z h;let⟨ρ,e,cs,j2,j3,cl,c3,B⟩:=vV (ps.map p3D) (λi ρ=>∃ cs j2 j3,cs[1]=i/\(∀ c∈cs,c<3)/\ρ=[!(.lst (Qs.map (grD (FP k))))[8],!(.lst (cs.map jr))[9],j2,j3])
  (g:=gV 2) (b:=qg (qk 3 (eIf (tE (q9 1)) (qi ww [(q9 2),(eOp qe (q9 1) (eUn jQ 1[5]))]) (q9 2))) (qC 1 (eOp uI (q9 3) (eB wU [(q9 3)]))))
  (ρ:=[!(.lst (Qs.map (grD (FP k))))[8],!(.lst [])[9],none,none]) #[[],none,none,rfl,λ_ z=>(by cases z),rfl] (λi x ρ hx #[cs,j2,j3,cl,c3,B]=>by
   subst B;have hi:=(gp.mp hx).1;rw[g6]at hi;let⟨p,hp,z⟩:=gK.mp (t6 hx);subst z;obtain⟨p',w3,s3,hw⟩:∃ p' w3,(eIf (tE (q9 1)) (qi ww [(q9 2),(eOp qe (q9 1) (eUn jQ 1[5]))]) (q9 2)) [!(.lst (Qs.map (grD (FP k))))[8],!(.lst (cs.map jr))[9],!(p3D p)[8],j3]=.ok w3/\(w3=.fz (p3D p')\/w3=.ow (p3D p')):=by
    cases hg:cs.getLast? with
    | none =>
     have:=pz.mp hg;subst this;show#[p,.fz (p3D p),rfl,.inl rfl]
    | some c =>
     have O:(cs.map jr).isEmpty=false:=by
      cases cs with
      | nil=>cases hg
      | cons a l=>rfl
     have la:okD (ati (cs.map jr) (-1))=.ok c[7]:=by rw[ZH,mi,hg];rfl
     let⟨p',b⟩:=Wm p (p3D p)[8] (.inl rfl) c (c3 c (de hg));show#[p',.ow (p3D p'),by simp![O,la,b],.inr rfl]
   let⟨j,Y,ix⟩:=qfS p';show#[_,_,rfl,.inl ?_,cs++[j],!(p3D p)[8],!w3,by rw[gD,cl];rfl,λc hc=>?_,rfl]
   .show(qg (qk 3 _) _) [!(.lst (Qs.map (grD (FP k))))[8],!(.lst (cs.map jr))[9],!(p3D p)[8],j3]=_;have U:(qk 3 (eIf (tE (q9 1)) (qi ww [(q9 2),(eOp qe (q9 1) (eUn jQ 1[5]))]) (q9 2))) [!(.lst (Qs.map (grD (FP k))))[8],!(.lst (cs.map jr))[9],!(p3D p)[8],j3]=.nx [!(.lst (Qs.map (grD (FP k))))[8],!(.lst (cs.map jr))[9],!(p3D p)[8],!w3]:=by
     rcases hw with z|z<;>(subst z;rw[QO,s3];rfl)
    rw[jv,U,jH,jR (xs:=cs.map jr) (d:=jr j) rfl (by rw[g6];lia) (by rcases hw with z|z<;>(subst z;simp![min3,ix];rfl)),hX]
    rfl
   rcases gE.mp hc with z|z
   .show c3 c z
   rw[tR.mp z];show Y)
 subst B;show#[cs,?_,by rw[cl,g6,pl],c3]
 have it:qN (qi Q3 [(q9 0)]) [!(.lst (Qs.map (grD (FP k))))[8],!(.lst [])[9],none,none]=.ok (ps.map p3D):=vk (w:=.ow (.lst (ps.map p3D))) (by simp![pe]) rfl
 delta JK XD
 left;rw[it];left;rw[e];left
def eD(e:Int×Nat):D:=.tup [.int e.1,.int (-(e.2:Int))]
def qfU:∀ es:List (Int×Nat),vO (es.map eD)=!(es.map λe=>[e.1,-(e.2:Int)]):=λr=>r.rec
 (rfl)
 λe r IH=>by
  show(match jX [D.int e.1,D.int (-(e.2))],vO (r.map eD)with|some a,!b=>↑(a::b)|_,_=>none)=_
  rw[IH];rfl
def qfV:∀(r:List (List Int)) (m:List Int),yn m r∈m::r:=λr=>r.rec
 (λm=>by simp[yn])
 λq r IH m=>by
  unfold yn;rcases gw.mp (IH (if HT.lexLt q m=true then q else m))with z|z
  .grind
  simp_all
def qfW(es)(ne:es≠[]):∃ e∈es,xn [.lst (es.map eD)]=.ok (eD e)[8]:=by
 cases es with
 | nil=>show absurd rfl ne
 | cons a r =>
  have m:=qfV (r.map λe=>[e.1,-(e.2)]) [a.1,-(a.2)]
  rw[<- gP (f:=λe:Int×Nat=>[e.1,-(e.2)])]at m
  let⟨e,he,z⟩:=gK.mp m;show#[e,he,?_]
  delta xn
  dsimp only;rw[qfU,gP];dsimp only;rw[<- z];rfl
abbrev ρC(ws:List Int)(r:Int)(k:Nat)(bs:List D)(es:List (Int×Nat))(z B O:Option En):Rho:=[!(.lst (ws.map D.int))[8],!r[7],!(k:Int)[7],!(.br (.lst bs)),!(.lst (es.map eD))[9],z,B,O]
def qfX(ws:List Int)(r)(k)(bs)(U:r<=5000)(Z:ws[1]<=177)(hk:k<ws[1])(hp:∀ w∈ws,1<=w/\w<=r)
  (Y:∀ j,k<j->j<ws[1]->∃ e,bs[j]?=!(eD e)) :
  ∃ es,es≠[]/\(∀ e∈es,k<e.2/\e.2<=ws[1])/\uU [.fz (.lst (ws.map D.int)),.fz r[6],.fz k[6],.br (.lst bs)]=.ok (.lst (es.map eD))[9]:=by
 have hz:sz=16777216:=rfl
 delta uU X0
 left;rw[qey (i:=k+1) (j:=(ws[1])+1) (by left) (by simp![g6]) "" "" "" "",zQ]
 rw[show((ws[1])+1-((k:Int)+1)).toNat=ws[1]-k by lia]
 have key:=ZG (Q:=λo=>∃(es:List (Int×Nat)) (i5 i6 i7:Option En),es≠[]/\(∀ e∈es,k<e.2/\e.2<=ws[1])/\o=.nx (ρC ws r k bs es i5 i6 i7)) (zN (k+1) (ws[1]-k))
  (λi ρ=>∃(es:List (Int×Nat)) (l:Int) (i6 i7:Option En),es[1]=i/\l<=5000/\(i=0->l=r)/\(∀ e∈es,k<e.2/\e.2<=ws[1])/\ρ=ρC ws r k bs es (!l[7]) i6 i7)
  (g:=gV 6) (b:=(qg (zb 5 jc (eOp qe (q9 0) (eOp jc (q9 6) 1[5])))
 (qg (sIf (tE (eOp dLt (q9 5) 0[5])) yC qw)
 (qg (qk 7 (eIf (tE (eOp dEq (q9 6) (eB jw [(q9 0)]))) 0[5] (eOp qD (eOp zm (q9 5) (q9 5)) (eOp qe (eOp qe (q9 3) (q9 6)) 0[5]))))
 (qC 4 (jG [(q9 7),(eUn jQ (q9 6))]))))))
  (ρ:=ρC ws r k bs [] (!r[7]) none none) #[[],r,none,none,rfl,U,λ_=>rfl,λ_ z=>(by cases z),rfl] (λi x ρ hx #[es,l,i6,i7,el,hl,h0,he,hρ]=>by
   subst hρ;rw[QF]at hx;by_cases hi:i<ws[1]-k
   .rw[iP hi]at hx;cases hx;have wk:ws[k+i]?=!ws[k+i]:=gG ""
    have hw:=hp ws[k+i] (fw _);generalize ws[k+i]=w at wk hw;have g0:(ws.map D.int)[k+i]?=!w[6]:=by rw[gH,wk];rfl
    have e1:(k+1+i)-1=((k+i:Nat):Int):=""
    have e2:((k:Int)+1+(i:Int))=((k+1+i:Nat):Int):=""
    show#[ρC ws r k bs es (!l[7]) (!((k:Int)+1+(i:Int))[7]) i7,rfl,?_];have s1:(zb 5 jc (eOp qe (q9 0) (eOp jc (q9 6) 1[5]))) (ρC ws r k bs es (!l[7]) (!((k:Int)+1+(i:Int))[7]) i7)=.nx (ρC ws r k bs es (!(l-w)[7]) (!((k:Int)+1+(i:Int))[7]) i7):=by
     simp![e1,zw,g0]
    rw[jv,s1,jH,jv];by_cases c:l-w<0
    .have s2:(sIf (tE (eOp dLt (q9 5) 0[5])) yC qw) (ρC ws r k bs es (!(l-w)[7]) (!((k:Int)+1+(i:Int))[7]) i7)=.bk (ρC ws r k bs es (!(l-w)[7]) (!((k:Int)+1+(i:Int))[7]) i7):=by
      simp![c,decide_true]
     rw[s2,qaC];show#[es,_,_,_,λz=>?_,he,rfl]
     subst z;have:=h0 el.symm[""]
     lia
    have s2:(sIf (tE (eOp dLt (q9 5) 0[5])) yC qw) (ρC ws r k bs es (!(l-w)[7]) (!((k:Int)+1+(i:Int))[7]) i7)=.nx (ρC ws r k bs es (!(l-w)[7]) (!((k:Int)+1+(i:Int))[7]) i7):=by
     simp![c,decide_false]
    obtain⟨c7,q⟩:∃ c7:Int,(qk 7 (eIf (tE (eOp dEq (q9 6) (eB jw [(q9 0)]))) 0[5] (eOp qD (eOp zm (q9 5) (q9 5)) (eOp qe (eOp qe (q9 3) (q9 6)) 0[5])))) (ρC ws r k bs es (!(l-w)[7]) (!((k:Int)+1+(i:Int))[7]) i7)=.nx (ρC ws r k bs es (!(l-w)[7]) (!((k:Int)+1+(i:Int))[7]) (!c7[7])):=by
     by_cases z:k+1+i=ws[1]
     .have ec:((k:Int)+1+(i:Int)==((ws.map D.int)[1]:Int))=true:=by rw[g6,e2,z];simp
      show#[0,by simp![ec]]
     have ec:((k:Int)+1+(i:Int)==((ws.map D.int)[1]:Int))=false:=by rw[g6,e2,pp];lia
     let⟨e,hx⟩:=Y (k+1+i) "" "o"
     have g1:ati bs ((k:Int)+1+(i:Int))=!(.tup [.int e.1,.int (-(e.2:Int))]):=by rw[e2,zw,hx];rfl
     have O:=kY (i:=l-w) (j:=l-w) "" ""
     show#[(l-w)*(l-w)+e.1,by simp![ec,O,g1]]
    rw[s2,jH,jv,q,jH,jR (xs:=es.map eD) (d:=eD (c7,k+1+i)) rfl (by rw[g6];omega) (by simp![eD,e2])]
    show#[es++[(c7,k+1+i)],l-w,_,_,by rw[gD,el];rfl,"",λz=>by lia,λe B=>?_,by delta ρC;rw[hX];rfl]
    rcases gE.mp B with z|z
    .show he e z
    rw[tR.mp z];show k<k+1+i/\k+1+i<=ws[1];omega
   rw[iN hi]at hx;cases hx) (λρ #[es,l,i6,i7,el,hl,h0,he,hρ]=>#[es,!l[7],i6,i7,λz=>by subst z;rw[Zu]at el;simp at el;omega,he,congrArg Out.nx hρ])
 let⟨es,i5,i6,i7,ne,he,q⟩:=key;show#[es,ne,he,?_];have q:qH _ _ _ [_,_,_,_,!(.lst [])[9],_,_,_]=_:=q;rw[q];left
def Wn(n q:Nat)(bs:List D):Prop:=bs[1]=n/\∀ j,q<=j->j<n->∃ e:Int×Nat,bs[j]?=!(eD e)/\j<e.2/\e.2<=n
def qfY{g:D->D->R En}{e f:EF}{x y:En}(h1:e ρ=.ok x)(h2:f ρ=.ok y)(z:g x.dd y.dd=r):eOp g e f ρ=r:=by rw[QR,h1,h2];show z
def qfZ(ws:List Int)(r)(U:r<=5000)(Y:ws[1]<=177)(hp:∀ w∈ws,1<=w/\w<=r):∃ bs,Wn ws[1] 0 bs/\Jx [.fz (.lst (ws.map D.int)),.fz r[6]]=.ok (.lst bs)[9]:=by
 have hz:sz=16777216:=rfl;have go:∀ q bs j3,q<=ws[1]->Wn ws[1] q bs->∃ bs' i3,Wn ws[1] 0 bs' /\
   qH (gV 3) (kZ 2 (q9 3) (eB xn [(qi uU [(q9 0),(q9 1),(q9 3),(q9 2)])])) (km q) [!(.lst (ws.map D.int))[8],!r[7],!(.lst bs)[9],j3]=.nx [!(.lst (ws.map D.int))[8],!r[7],!(.lst bs')[9],i3]:=by
  intro q
  induction q with
  | zero=>intro bs j3 _ h;show#[bs,j3,h,rfl]
  | succ q ih =>
   intro bs j3 hq ⟨b1,b2⟩;let⟨es,ne,he,ch⟩:=qfX ws r q bs U Y "" hp λj h1 h2=>by let⟨e,x,_⟩:=b2 j h1 h2;show#[e,x]
   let⟨m,hm,mt⟩:=qfW es ne;have B:=he m hm;let⟨bs',i3,h',O⟩:=ih (bs.set q (eD m)) (!q[7]) "" #[by rw[bC];show b1,λj h1 h2=>by
    by_cases c:q=j
    .subst c;show#[m,List.getElem?_set_self "",B]
    rw[hU c];show b2 j "" h2]
   show#[bs',i3,h',?_];rw[km,vd (yK)];rw[qaU (xs:=bs) (d:=eD m) (w:=.fz q[6]) (j:=q) (n:=q) rfl (by simp![ch,mt]) rfl rfl (by delta ixn;rw[iP "",iP ""];simp)]
   show O
 obtain⟨b0,bl,st⟩:∃ bs,bs[1]=ws[1]/\xm (.lst [.tup [.int 0,.int 0]]) (ws[1])[6]=.ok (.lst bs)[9]:=by
  show#[v7 ws[1] [.tup [.int 0,.int 0]],by simp[v7],?_]
  delta xm
  dsimp only;rw[iP #["","",by rw[fK];simp;lia],fK]
 let⟨bs,i3,hb,q⟩:=go ws[1] b0 none (gC _) #[bl,λj h1 h2=>by lia]
 show#[bs,hb,?_];have rf:Ju [.fz (.lst (ws.map D.int)),.fz r[6]]=.ok (.fz .non):=by
  let⟨ρ,e,i2,i3,z⟩:=vV (numd 0 (ws.map D.int)) (λ_ ρ=>∃ i2 i3,ρ=[!(.lst (ws.map D.int))[8],!r[7],i2,i3]) (g:=gT [2,3]) (b:=sIf (tE (eOp dGt (q9 3) (q9 1))) zF qw) (ρ:=[!(.lst (ws.map D.int))[8],!r[7],none,none]) #[none,none,rfl] (λi x ρ hx #[i2,i3,z]=>by
   subst z;let⟨d,e1,rfl⟩:=JU hx;let⟨w,hw,rfl⟩:=gK.mp (t6 e1);have dw:decide (r<w)=false:=by have:=hp w hw;simp;lia
   show#[[!(.lst (ws.map D.int))[8],!r[7],!i[7],!w[7]],[!(.lst (ws.map D.int))[8],!r[7],!i[7],!w[7]],rfl,.inl (by simp![dw]),_,_,rfl])
  delta Ju KZ
  left;rw[show zo 0 [!(.lst (ws.map D.int))[8],!r[7],none,none]=.ok (numd 0 (ws.map D.int))from rfl,zQ,e]
  rfl
 have wr:uQ [.fz r[6]]=.ok (.bl true)[8]:=rfl;have len:((ws.map D.int)[1])=(ws[1]):=by rw[g6]
 have it:iR3d (eOp jc (eB jw [(q9 0)]) 1[5]) (eUn jQ 1[5]) (eUn jQ 1[5]) [!(.lst (ws.map D.int))[8],!r[7],!(.lst b0)[9],none]=.ok (km ws[1]):=by
  show qeA ?_ ?_ ?_ ""
  .simp![len]
  .left
  left
 delta Jx Xh
 rw[uv,Zj (ρ':=[!(.lst (ws.map D.int))[8],!r[7],none,none]),Zj (ρ':=[!(.lst (ws.map D.int))[8],!r[7],none,none]),Zj (ρ':=[!(.lst (ws.map D.int))[8],!r[7],!(.lst b0)[9],none]),jv,kX,it,zQ,q]
 .rfl
 .rw[QO,qfY (x:=.ow (.lst [.tup [.int 0,.int 0]])) (y:=.fz (ws[1])[6]) rfl (by simp![len]) st]
  rfl
 .simp![rf]
 simp![wr]
def qg0(ws:List Int)(r)(B:r<=5000)(O:ws[1]<=177)(hp:∀ w∈ws,1<=w/\w<=r):∃ fs:List Nat,JG [.fz (.lst (ws.map D.int)),.fz r[6]]=.ok (.lst (fs.map jr))[9]:=by
 have hz:sz=16777216:=rfl;let⟨bs,⟨b1,b2⟩,be⟩:=qfZ ws r B O hp;have len:((ws.map D.int)[1])=(ws[1]):=by rw[g6]
 have go:∀ q f (z:List Nat),f<=ws[1]->ws[1]-f<q->z[1]<=f->∃(fs:List Nat) (i4:Option En),
   zO (tE (eOp dLt (q9 4) (eB jw [(q9 0)]))) (qg (qC 3 (q9 4)) (qk 4 (eUn jQ (eOp qe (eOp qe (q9 2) (q9 4)) 1[5])))) q [!(.lst (ws.map D.int))[8],!r[7],!(.lst bs)[9],!(.lst (z.map jr))[9],!f[7]]
   = .nx [!(.lst (ws.map D.int))[8],!r[7],!(.lst bs)[9],!(.lst (fs.map jr))[9],i4]:=by
  intro q
  induction q with
  | zero=>intro f z _ h;lia
  | succ q ih =>
   intro f z h1 h2 h3;by_cases c:f<ws[1]
   .let⟨e,ge,e1,e2⟩:=b2 f (tP _) c;have lt:decide (f<(ws[1]:Int))=true:=by simp;omega
    have g2:ati bs f=!(.tup [.int e.1,.int (-(e.2))]):=by rw[zw,ge];rfl
    let⟨fs,i4,q2⟩:=ih e.2 (z++[f]) e2 "" (by rw[gD,fm];lia)
    show#[fs,i4,?_];rw[<- q2];show qe0 ?_ ?_
    .simp![len,lt]
    rw[jv,jR (xs:=z.map jr) (d:=jr f) rfl (by rw[g6];lia) (by simp![jr])]
    simp![g2,Int.neg_neg,hX]
   have lt:decide (f<(ws[1]:Int))=false:=by simp;lia
   show#[z,_,qdZ (by simp![len,lt])]
 let⟨fs,i4,q⟩:=go 180 0 [] (tP _) "" "s"
 show#[fs,?_]
 delta JG Xx
 simp![be,kD];have q:zO _ _ 180 [_,_,_,!(.lst [])[9],!0[7]]=_:=q;rw[q];left
def wG(v:List Ch)(ms:List (Int×Int×Int))(n:Nat):List (List Ev):=(List.range n).map λi=>zT v (qG ms i) (qG ms (i+1))
def Ql(bs:List (List Ev)):List D:=bs.map λes=>D.lst (es.map evD)
def M7(xs):∃ en,x8 (.lst (xs.map D.int)) 0[6]=.ok en[7]/\(∀ x∈xs,x<=en)/\(en∈xs\/(xs=[]/\en=0)):=by
 cases xs with
 | nil=>show#[0,rfl,λ_ h=>(by cases h),.inr #[rfl,rfl]]
 | cons x r =>
  let⟨k1,k2⟩:=Yq r x;show#[yh x r,?_,k2,.inl k1]
  delta x8
  dsimp only;rw[W4]
def qg1(h:∀ x,x∈xs↔x∈ys){a b:Int}(h1:∀ x∈xs,x<=a)(h2:a∈xs\/(xs=[]/\a=0))(z:∀ x∈ys,x<=b)(B:b∈ys\/(ys=[]/\b=0)):a=b:=by
 grind
structure Need(ms:List (Int×Int×Int))(en:Int)(n:Nat):Prop where
 pos:1<=n
 few:n<=177
 end_:en<=qG ms n
 least:∀ i,1<=i->i<n->qG ms i<en
def qg2(f:Fine ms)(l:Lens ms)(en)(h0:0<=en)(z:en<=1401):∃ n,Need ms en n/\xD [.br (.lst (ms.map qz)),.fz en[6]]=.ok n[7]:=by
 let⟨B,P,e,s1,s2,s3⟩:=qe6 f l (if 0>en-1 then 0 else en-1) (by split<;>lia)
 have a0:=VG f l 0 B;rw[XR,pL]at a0;have tb:(if 0>en-1 then 0 else en-1)<=1400:=by split<;>lia
 show#[B+1,#["","",?_,λi h1 h2=>?_],?_]
 .rw[wD];split at s3<;>lia
 .have m:=VG f l i (B-i);rw[show i+(B-i)=B by lia]at m
  split at s3<;>lia
 delta xD Xy
 simp![e];rfl
def zB(ms:List (Int×Int×Int))(n:Nat):List D:=(List.range n).map λk:Nat=>D.int (ji ms k)
structure Voi(ns:List Nt)(ws:Vs):Prop where
 run:run [] (rowOf ns)=!ws
 l8:ws[1]<=8
 vo:∀ v∈ws,Vo v
 ps:∀ v∈ws,∀ c∈v,PsOk c.2.2
 vl:∀ v∈ws,v[1]<=24
 tot:jy ws.flatten<=24
def qg3(ns)(N:NotesOk ns)(B:ns[1]<=24):∃ ws,Voi ns ws:=by
 have R:=XZ N;have rb:=U0 N R;have th:=λt=>qdE N R t
 let⟨ws,r,V,l⟩:=qdv (rowOf ns) (R.up.imp λ{a b} h=>by delta ltC at h;lia) (λc hc=>(rb c hc).2.2.1) th (rowOf ns) [] [] 8 rfl U9 "s" (λc _=>th c.1)
 show#[ws,r,l,λv hv=>#[V.ap v hv,λc hc=>?_],λv hv c hc=>?_,λv hv=>tY (V.len v hv) (tY (VJ ns) B),?_]
 .have:=rb c (V.old v hv c hc)
  delta cend
  lia
 .have hr:=V.old v hv c hc;have:=qdr hr;rw[U6]at this;show#[R.ne c hr,"",λp hp=>by have:=N.b _ (R.of c hr p hp);show#[this.2.2.2.2.1,this.2.2.2.2.2],R.ri c hr]
 have:=qdX _ _ _ r;rw[U6]at this;have z:jy [].flatten=0:=rfl;lia
def qg4(ns):qQ (qQ ns)=qQ ns:=by
 have ft:∀ l:List (List Int),l.filter (λ_=>true)=l:=λl=>dA.mpr λ_ _=>rfl
 have h:=UL (λ_=>true) (ft _) (QV (ns.map ntR))
 rw[ft]at h;show(jo ((qQ ns).map ntR)).map ofR=_;rw[Qa,h];rfl
def qg5(ns):rowOf (qQ ns)=rowOf ns:=by delta rowOf;rw[qg4]
def wH(ws:Vs)(ms:List (Int×Int×Int))(n:Nat):List (List (List Ev)):=ws.map λv=>wG v ms n
def vy(r:List (List Ev)):D:=.lst (Ql r)
def wI{α:Type}{it:IF}{i:Nat}(xs:List α)(g h)(hi:it ρ=.ok (xs.map g))(O:xs[1]<=sz)(B:∀ x∈xs,∃ w,e ((jh 1 ρ).set i (!(g x)[8]))=.ok w/\w.st=.ok (h x)) :
  qF 1 it (gV i) qI e ρ=.ok (.lst (xs.map h))[9]:=by
 classical
 let f:D->D:=λd=>if q:∃ x,x∈xs/\g x=d then h q.choose else .non
 have key:∀ x∈xs,(∃ w,e ((jh 1 ρ).set i (!(g x)[8]))=.ok w/\w.st=.ok (f (g x)))/\f (g x)=h x:=λx hx=>by
  have q:∃ y,y∈xs/\g y=g x:=#[x,hx,rfl];have fe:f (g x)=h q.choose:=dif_pos q;let⟨y1,y2⟩:=q.choose_spec;let⟨w,a,b⟩:=B _ y1;let⟨w2,a2,b2⟩:=B x hx
  simp_all
 rw[kO hi (by rw[g6];show O) (kN i f _ _ λd hd=>by
  let⟨x,hx,z⟩:=gK.mp hd;subst z;show(key x hx).1)]
 simp_all
def Qm{i:Nat}(z:ρ.length=i)(d):((jh 1 ρ).set i d)[i]?=!d:=List.getElem?_set_self (by delta jh;simp;lia)
def M8{i j:Nat}(z:ρ.length=i)(B:j<i)(d):((jh 1 ρ).set i d)[j]?=(ρ[j]?).map ro:=by
 rw[hU ""]
 delta jh
 rw[t9 (by simp;lia),gH]
def qg6(f:Fine ms)(l:Lens ms)(v)(V:Vo v)(n)(B:n<=177):xE [.fz (vD v),.br (.lst (zB ms n))]=.ok (vy (wG v ms n))[9]:=by
 have hz:sz=16777216:=rfl
 delta xE XG
 left;rw[YG rfl];left;let⟨ρ,er,j4,z⟩:=vV (zB ms n) (λi ρ=>∃ j4,ρ=[!(vD v)[8],!(.br (.lst (zB ms n))),!(vy (wG v ms i))[9],!(qG ms i)[7],j4])
  (g:=gV 4) (b:=qg (qC 2 (qi Q4 [(q9 0),(q9 3),(eOp qD (q9 3) (q9 4))])) (zb 3 zY (q9 4)))
  (ρ:=[!(vD v)[8],!(.br (.lst (zB ms n))),!(.lst [])[9],!0[7],none]) #[none,rfl] (λi x ρ hx #[j4,z]=>by
   subst z
   delta zB at hx
   rw[gH]at hx;cases ei:(List.range n)[i]? with
   | none=>rw[ei]at hx;cases hx
   | some k =>
    rw[ei]at hx;cases hx;have hi:i<n:=by have:=(gp.mp ei).1;simpa using this
    rw[cI hi]at ei;cases ei;have dp:=yv f l i;have be:=qdQ v V (qG ms i) (qG ms i+ji ms i) "" ""
    rw[show D.lst (v.map chD)=vD v from rfl]at be
    show#[_,_,rfl,.inl ?_,!(ji ms i)[7],rfl];left;rw[jR (d:=.lst ((zT v (qG ms i) (qG ms (i+1))).map evD)) rfl (by simp[Ql,wG,hz];lia) (by
     rw[wD];simp![be])]
    simp![wD];simp[vy,Ql,wG,cZ,wD])
 rw[er];subst z
 delta zB
 rw[g6,d7];left
def qg7(V:Voi ns ws)(pos:∀ c∈rowOf ns,1<=c.2.1)(xs)(O:rowOf xs=rowOf ns)(U:(xs.map ntR).Nodup)(Y:xs[1]<=24)(f:Fine ms)(l:Lens ms)(n)(Z:n<=177)(a b i)(ρ)(z:ρ.length=i)(B:b<i)
  (ha:(q9 a) ρ=.ok (.br (.lst (xs.map ntD))))(hb:ρ[b]?=!(!(.lst (zB ms n))[9])) :
  qF 1 (qN (qi yY [(qi yp [(q9 a)])])) (gV i) qI (qi xE [(q9 i),(q9 b)]) ρ=.ok (.lst ((wH ws ms n).map vy))[9]:=by
 have hz:sz=16777216:=rfl;have ch:=qdq xs U Y;rw[O]at ch;have rl:=VJ xs;rw[O]at rl;have vo:=qdB (.lst ((rowOf ns).map chD))[8] (rowOf ns) (.inr rfl) "" pos
 rw[V.run]at vo;have it:qN (qi yY [(qi yp [(q9 a)])]) ρ=.ok (ws.map vD):=vk (w:=.ow (.lst (ws.map vD))) (by
  have c1:(qi yp [(q9 a)]) ρ=.ok (.lst ((rowOf ns).map chD))[9]:=by simp[kW,kS,kR,ha,yI,kU,kT,YB,ch]
  rw[kW,kS,c1];simp[kR,yI,kU,kT,qaD,vo,VO]) rfl
 have l8:=V.l8;rw[wI ws vD (λv=>vy (wG v ms n)) it "" λv hv=>#[.ow (vy (wG v ms n)),?_,rfl]]
 .delta wH
  rw[gZ];rfl
 have v1:(q9 i) ((jh 1 ρ).set i (!(vD v)[8]))=.ok (vD v)[8]:=by rw[vW,Qm z];rfl
 have v2:(q9 b) ((jh 1 ρ).set i (!(vD v)[8]))=.ok (.br (.lst (zB ms n))):=by rw[vW,M8 z B,hb];rfl
 simp[kW,kS,kR,v1,v2,yI,kU,kT,QQ,YB,qg6 f l v (V.vo v hv) n Z]
def w6(ws:Vs)(ms:List (Int×Int×Int))(b:Nat):List (List Ev):=ws.map λv=>zT v (qG ms b) (qG ms (b+1))
def zf(ws:Vs)(ms:List (Int×Int×Int))(n:Nat):List (List (List Ev)):=(List.range n).map (w6 ws ms)
def qg8(ws)(Z:ws[1]<=8)(ms)(n k)(O:k<n)(j m i)(ρ)(z:ρ.length=i)(U:m<i)(B:iVc j ρ=.ok ((wH ws ms n).map vy))(Y:ρ[m]?=!(!k[7])) :
  qF 1 (iVc j) (gV i) qI (eOp qe (q9 i) (q9 m)) ρ=.ok (brD (w6 ws ms k))[9]:=by
 have hz:sz=16777216:=rfl
 delta wH at B
 rw[gZ]at B;rw[wI ws _ (λv=>rwD (zT v (qG ms k) (qG ms (k+1)))) B "" λv hv=>#[.fz (rwD (zT v (qG ms k) (qG ms (k+1)))),?_,rfl]]
 .delta brD w6
  rw[gZ];rfl
 have v1:∀ d,(q9 i) ((jh 1 ρ).set i (!d[8]))=.ok d[8]:=λd=>by rw[vW,Qm z];rfl
 have v2:∀ d,(q9 m) ((jh 1 ρ).set i d)=.ok k[7]:=λd=>by rw[vW,M8 z U,Y];rfl
 have ix:qe (vy (wG v ms n)) k[6]=.ok (rwD (zT v (qG ms k) (qG ms (k+1))))[8]:=by
  show okD (ati (Ql (wG v ms n)) k)=_
  delta Ql wG
  rw[zw,gZ,gH,cI O];rfl
 simp[QR,v1,v2,yI,qaE,ix]
def qg9{ws:Vs}(V:Voi ns ws)(f:Fine ms)(l:Lens ms)(b):(w6 ws ms b)[1]=ws[1]/\∀ r∈w6 ws ms b,PRow r/\(r.map pv).sum=ji ms b:=by
 have d:=yv f l b;have s:=wD ms b;show#[by delta w6;rw[g6],λr hr=>?_]
 let⟨v,hv,z⟩:=gK.mp hr;subst z;have sm:=(Uv _ _ _ (qdP (V.vo v hv) (b:=qG ms b) (e:=qG ms (b+1)) "")).2
 have sm:qG ms (b+1)=qG ms b+((zT v (qG ms b) (qG ms (b+1))).map pv).sum:=sm;have vl:=V.vl v hv;let⟨be,bl⟩:=(Uy (qG ms b) (qG ms (b+1)) 512 8 (JZ 512 8 (.inr #["",rfl])) "" "" v (V.ps v hv)).1
 show#[#[be,"",?_],""]
 grind
def M9(V:Voi ns ws)(b:Nat)(p)(hp:(ji ms b<=96/\p=4)\/(ji ms b<=512/\p=8)):((w6 ws ms b).map hcR).sum<=p*24:=by
 delta w6
 rw[gZ];show tY (qdY (qG ms b) (qG ms (b+1)) (ji ms b) p (JZ _ p hp) (by rw[wD];lia) "" ws V.ps) (Nat.mul_le_mul_left p V.tot)
def endsOf(z:List Nt):List Int:=z.map λp=>p.1+p.2.1
def qga(ns):∀ x,x∈endsOf (qQ ns)↔x∈endsOf ns:=λx=>((wE ns).map _).mem_iff
structure EndOf(ns:List Nt)(en:Int):Prop where
 up:∀ x∈endsOf ns,x<=en
 is:en∈endsOf ns\/(endsOf ns=[]/\en=0)
def qgb(N:NotesOk ns){B:Int}(E:EndOf ns B):0<=B/\B<=1401:=by
 rcases E.is with h|⟨_,h⟩
 .let⟨p,hp,z⟩:=gK.mp h;have:=N.b p hp;lia
 lia
def qgc(ns)(N:NotesOk ns)(nl:ns[1]<=24)(V:Voi ns ws){ms:List (Int×Int×Int)}(f:Fine ms)(l:Lens ms){O:Int}(E:EndOf ns O){n:Nat}(Y:Need ms O n)(Z:xD [.br (.lst (ms.map qz)),.fz O[6]]=.ok n[7]) :
  VD [.br (.lst ((qQ ns).map ntD)),.br (.lst (ms.map qz))]=.ok (.lst ((zf ws ms n).map brD))[9]:=by
 have hz:sz=16777216:=rfl;have sl:(qQ ns)[1]=ns[1]:=(wE ns).length_eq;have nf:=Y.few;have R:=XZ N;have rb:=U0 N R;have cm:qF 1 (iVc 0) (gV 7) qI (qi zR [(q9 7)]) [!(.br (.lst ((qQ ns).map ntD))),!(.br (.lst (ms.map qz))),none,none,none,none,none]=.ok (.lst ((endsOf (qQ ns)).map D.int))[9]:=by
  rw[wI (qQ ns) ntD (λp=>.int (p.1+p.2.1)) (yi (w:=.br (.lst ((qQ ns).map ntD))) rfl rfl) "" λp hp=>#[.fz (p.1+p.2.1)[6],by simp![jh,UC],rfl]]
  delta endsOf
  rw[gZ];rfl
 let⟨z,me,u1,u2⟩:=M7 (endsOf (qQ ns));have ee:z=O:=qg1 (qga ns) u1 u2 E.up E.is;subst ee;have bl:=qe5 f n ""
 have U:=qg7 V (λc hc=>(rb c hc).2.2.1) (qQ ns) (qg5 ns) (by rw[Qa];show(yj _).nodup_iff.mpr N.nodup) "" f l n nf 0 3 7 [!(.br (.lst ((qQ ns).map ntD))),!(.br (.lst (ms.map qz))),!z[7],!(.lst (zB ms n))[9],none,none,none] rfl "d" rfl rfl
 have s2:(qk 2 (eOp x8 (qF 1 (iVc 0) (gV 7) qI (qi zR [(q9 7)])) 0[5])) [!(.br (.lst ((qQ ns).map ntD))),!(.br (.lst (ms.map qz))),none,none,none,none,none]=.nx [!(.br (.lst ((qQ ns).map ntD))),!(.br (.lst (ms.map qz))),!z[7],none,none,none,none]:=by
  simp![QO,QR,cm,me]
 have s3:(qk 3 (qi uY [(q9 1),(qi xD [(q9 1),(q9 2)])])) [!(.br (.lst ((qQ ns).map ntD))),!(.br (.lst (ms.map qz))),!z[7],none,none,none,none]=.nx [!(.br (.lst ((qQ ns).map ntD))),!(.br (.lst (ms.map qz))),!z[7],!(.lst (zB ms n))[9],none,none,none]:=by
  simp![Z,bl];rfl
 have s4:(qk 4 (qF 1 (qN (qi yY [(qi yp [(q9 0)])])) (gV 7) qI (qi xE [(q9 7),(q9 3)]))) [!(.br (.lst ((qQ ns).map ntD))),!(.br (.lst (ms.map qz))),!z[7],!(.lst (zB ms n))[9],none,none,none]=.nx [!(.br (.lst ((qQ ns).map ntD))),!(.br (.lst (ms.map qz))),!z[7],!(.lst (zB ms n))[9],!(.lst ((wH ws ms n).map vy))[9],none,none]:=by
  rw[QO,U];rfl
 show fin ((qg (qk 2 _) _) [!(.br (.lst ((qQ ns).map ntD))),!(.br (.lst (ms.map qz))),none,none,none,none,none])=_;rw[jv,s2,jH,jv,s3,jH,jv,s4,jH,jv];let⟨ρ,e,j6,B⟩:=QL n (λi ρ=>∃ j6,ρ=[!(.br (.lst ((qQ ns).map ntD))),!(.br (.lst (ms.map qz))),!z[7],!(.lst (zB ms n))[9],!(.lst ((wH ws ms n).map vy))[9],!(.lst ((zf ws ms i).map brD))[9],j6])
  (g:=gV 6) (b:=qC 5 (qF 1 (iVc 4) (gV 7) qI (eOp qe (q9 7) (q9 6)))) (ρ:=[!(.br (.lst ((qQ ns).map ntD))),!(.br (.lst (ms.map qz))),!z[7],!(.lst (zB ms n))[9],!(.lst ((wH ws ms n).map vy))[9],!(.lst [])[9],none]) #[none,rfl] (λi ρ hi #[j6,B]=>by
   subst B;have ce:=qg8 ws V.l8 ms n i hi 4 6 7 [!(.br (.lst ((qQ ns).map ntD))),!(.br (.lst (ms.map qz))),!z[7],!(.lst (zB ms n))[9],!(.lst ((wH ws ms n).map vy))[9],!(.lst ((zf ws ms i).map brD))[9],!i[7]] rfl "d" (yi (w:=.ow (.lst ((wH ws ms n).map vy))) rfl rfl) rfl
   show#[_,_,rfl,.inl ?_,!i[7],rfl];show(qC 5 _) [!(.br (.lst ((qQ ns).map ntD))),!(.br (.lst (ms.map qz))),!z[7],!(.lst (zB ms n))[9],!(.lst ((wH ws ms n).map vy))[9],!(.lst ((zf ws ms i).map brD))[9],!i[7]]=_;rw[jR (xs:=(zf ws ms i).map brD) (d:=brD (w6 ws ms i)) rfl (by delta zf;rw[g6,g6,d7];lia) (by rw[ce];rfl)]
   simp[zf,cZ])
 have ln:(zB ms n)[1]=n:=by delta zB;rw[g6,d7]
 left;rw[QT (n:=n) (by simp![ln]) "",zQ,e]
 subst B;left
def TX(x:Str)(n:Nat):Prop:=PyData.strOk x=true/\x[1]<=n
def TX.le{n m:Nat}(h:TX x n)(l:n<=m):TX x m:=#[h.1,tY h.2 l]
def TX.app{n m:Nat}(a:TX x n)(b:TX y m):TX (x++y) (n+m):=by
 show#[?_,by rw[Str.length_append];have:=a.2;have:=b.2;lia]
 have c:=a.1;have d:=b.1;unfold PyData.strOk at c d ⊢;show(x.cps++y.cps).all _=true;rw[Array.all_append,c,d];rfl
theorem TX.join{b c:Nat}(s:TX x c):∀{ys:List Str},(∀ y∈ys,TX y b)->TX (Str.join x ys) (ys[1]*(b+c))
 | [],_=>#[(by show PyData.strOk Str.empty=true;decide +kernel),tP _]
 | [y],h=>(h y h9).le "s"
 | y::z::r,h=>(((h y h9).app s).app (TX.join s λw hw=>h w (gj _ hw))).le (by rw[gJ (a:=y),Nat.succ_mul];lia)
def tS(i:Int):Str:=(toString i:String)
def TX.num{i:Int}(h:i.natAbs<10000):TX (tS i) 5:=by
 constructor
 .unfold tS PyData.strOk;rw[Str.ofString_eq_toList];show Array.all_eq_true'.mpr λx hx=>?_
  let⟨c,_,z⟩:=gK.mp (List.mem_toArray.mp hx);subst z;have:=c.valid;simp only[UInt32.isValidChar,Nat.isValidChar]at this;have e:c.toNat=c.val.toNat:=rfl;show tJ ?_;lia
 have:=int_text_length_le10 (a:=i) (k:=4) "d" ""
 unfold tS;rw[PySem.ofString_length];show this
def vT{i:Int}(h:i.natAbs<10000):jm [.int i]=.ok (.str (tS i))[8]:=by
 unfold jm;dsimp only;rw[iP]
 .rfl
 by_cases z:i.natAbs=0
 .rw[z];decide
 show(Nat.log2_lt z).mpr (tB h (tY (show 10000<=2 ^ 14 by decide) (Nat.pow_le_pow_right "d" "d")))
def zk{n m:Nat}(a:TX x n)(b:TX y m)(h:n+m<=16777216):qB (.str x) (.str y)=.ok (.str (x++y))[8]:=by
 have hz:sz=16777216:=rfl;have:=a.2;have:=b.2;unfold qB;dsimp only;rw[iP ""]
theorem Ma:∀ ys:List Str,wW (ys.map D.str)=!ys
 | []=>rfl
 | y::ys=>by
  show(wW (ys.map D.str)).map (y::·)=_
  rw[Ma ys];rfl
def Mb{x:Str}{ys:List Str}(h:(ys.map (·.length)).sum+ys[1]*x[1]<=16777216):zH (.str x) (.lst (ys.map D.str))=.ok (.str (Str.join x ys))[8]:=by
 show Vf x (wW (ys.map D.str))=_;rw[Ma];show iP h
def j_TX{ys:List Str}{b c:Nat}(s:TX x c)(h:∀ y∈ys,TX y b)(l:ys[1]*(b+c)<=16777216):zH (.str x) (.lst (ys.map D.str))=.ok (.str (Str.join x ys))[8]:=by
 have a:=StrLaws.sumLen_le ys λy hy=>(h y hy).2
 have b':=Nat.mul_le_mul_left ys[1] s.2;rw[Nat.mul_add]at l;show Mb ""
def Qn:TX " " 1:=#[by decide +kernel,by decide +kernel]
def Wo{ys:List Str}{b:Nat}(B:TX a b)(h:∀ y∈ys,TX y b)(l:(ys[1]+1)*(b+1)<=16777216):zI [.fz (.str a),.fz (.lst (ys.map D.str))]=.ok (.str (Str.join " " (a::ys)))[8]:=by
 have hz:sz=16777216:=rfl;have z:ys[1]+1<=(ys[1]+1)*(b+1):=Nat.le_mul_of_pos_right _ ""
 have ad:qB (.lst [.str a]) (.lst (ys.map D.str))=.ok (.lst ((a::ys).map D.str))[9]:=by
  show(if _ then R.ok (En.ow (.lst ([D.str a]++ys.map D.str)))else .stuck)=_
  rw[iP (by rw[g6];simp;lia)]
  rfl
 have jn:zH (.str " ") (.lst (.str a::ys.map D.str))=_:=j_TX (ys:=a::ys) Qn (b:=b) (λy hy=>by
  rcases gw.mp hy with q|q
  .rw[q];show B
  show h y q) l
 unfold zI X2;simp![ad,jn]
def Mc(m:Nat):TX (fcg m) 1:=by
 unfold fcg;split<;>show#[by decide +kernel,by decide +kernel]
def sgs:List (Option Int):=[none,!(-2),!(-1),!0,!1,!2]
def HB(h:H3):Prop:=h.m<7/\-2<=h.o/\h.o<=11/\h.s∈sgs
def sS(s:Option Int):Str:=(xv s wY).getD r""
def hT(h:H3):Str:=fcg h.m++tS h.o++sS h.s
def qgd(s:Option Int)(h:s∈sgs):uN "SIGN_WORDS" wY (dFn "SIGN_WORDS") (sD s)=.ok (.str (sS s))[8]/\TX (sS s) 2/\∀ i,s=!i->qe (.lst [.str "bb",.str "b",.str "n",.str "\x73",.str "ss"]) (i+2)[6]=.ok (.str (sS s))[8]:=by
 simp only[sgs,gw,fV,bw]at h;rcases h with h|h|h|h|h|h<;>(subst h;show#[by kernel_rfl,#[by decide +kernel,by decide +kernel],λi e=>by cases e;try kernel_rfl])
def Qo(x:Str):x++(r"":Str)=x:=Str.append_empty x
def Z7(h:H3)(b:HB h):uV [.fz (h3D h)]=.ok (.str (hT h))[8]/\xx [.fz (h3D h)]=.ok (.str (hT h))[8]/\TX (hT h) 8:=by
 let⟨m,o,s⟩:=h;let⟨_,b1,b2,b3⟩:=b;have b1:-2<=o:=b1;have b2:o<=11:=b2;let⟨s1,s2,s3⟩:=qgd s b3;have n:=vT (i:=o) ""
 have tn:=TX.num (i:=o) ""
 have t1:=(Mc m).app tn;have a1:=zk (Mc m) tn "d"
 have a2:=zk t1 s2 "d"
 show#[?_,?_,t1.app s2]
 .unfold uV X4 h3D;simp![n,a1,s1,a2];rfl
 unfold xx X7 h3D;cases s with
 | none =>
  have e:hT #[m,o,none]=fcg m++tS o:=Qo _;rw[e];have i2:vP (sD none) .non=.ok (.bl true)[8]:=rfl;simp![n,a1,i2]
 | some i =>
  have i2:vP (sD !i) .non=.ok (.bl false)[8]:=rfl;have ad:qB (sD !i) 2[6]=.ok (i+2)[7]:=rfl;have s3:=s3 i rfl;rw[qaF]at s3;simp![n,a1,i2,ad,s3,a2];rfl
def eT:GE (List H3)->Str
 | .rest v=>"r"++tS v
 | .note v hs t=>Str.join "+" (hs.map hT)++"/"++tS v++(if t=true then("~":Str)else r"")
def EB:GE (List H3)->Prop
 | .rest v=>1<=v/\v<=512
 | .note v hs _=>(1<=v/\v<=512)/\hs[1]<=24/\∀ h∈hs,HB h
def Wp(k:Int)(e:GE (List H3))(b:EB e):xB [.fz (geD (FP k) e)]=.ok (.str (eT e))[8]/\wZ [.fz (geD (FP k) e)]=.ok (.str (eT e))[8]/\TX (eT e) 250:=by
 have hz:sz=16777216:=rfl;cases e with
 | rest v =>
  let⟨b1,b2⟩:=(show 1<=v/\v<=512 from b)
  have g:geD (FP k) (.rest v)=.tup [.str "rest",.int v]:=rfl;have n:=vT (i:=v) ""
  have tr:TX "r" 1:=#[by decide +kernel,by decide +kernel]
  have tn:=TX.num (i:=v) ""
  have a:=zk tr tn "d"
  rw[g];show#[?_,?_,(tr.app tn).le "d"]
  .unfold xB VA;simp![n,W9,a];rfl
  unfold wZ VC;simp![n,W9,a];rfl
 | note v hs t =>
  let⟨⟨b1,b2⟩,b3,b4⟩:=(show(1<=v/\v<=512)/\hs[1]<=24/\∀ h∈hs,HB h from b)
  have g:geD (FP k) (.note v hs t)=.tup [.str "note",.int v,.tup (hs.map h3D),.bl t]:=rfl;have n:=vT (i:=v) ""
  have tp:TX "+" 1:=#[by decide +kernel,by decide +kernel]
  have ts:TX "/" 1:=#[by decide +kernel,by decide +kernel]
  have tt:TX "~" 1:=#[by decide +kernel,by decide +kernel]
  have te:TX (if t=true then("~":Str)else r"") 1:=by cases t<;>show#[by decide +kernel,by decide +kernel]
  have tn:=TX.num (i:=v) ""
  have th:∀ y∈hs.map hT,TX y 8:=λy hy=>by
   let⟨h,hh,z⟩:=gK.mp hy;subst z;show(Z7 h (b4 h hh)).2.2
  have tj:TX (Str.join "+" (hs.map hT)) 216:=(TX.join tp th).le (by rw[g6];lia)
  have jn:=j_TX tp th (by rw[g6];lia)
  have a1:=zk tj ts "d"
  have a2:=zk (tj.app ts) tn "d"
  have a3:=zk ((tj.app ts).app tn) te "d"
  have c1:=zk ts tn "d"
  have c2:=zk (ts.app tn) tt "d"
  have mp:∀ f:Den,(∀ h∈hs,f [.fz (h3D h)]=.ok (.str (hT h))[8])->∀(i:Nat) (ρ:Rho),ρ.length=i->qN (eOp qe (q9 0) 2[5]) ρ=.ok (hs.map h3D)->qF 1 (qN (eOp qe (q9 0) 2[5])) (gV i) qI (qi f [(q9 i)]) ρ=.ok (.lst ((hs.map hT).map D.str))[9]:=λf hf i ρ B hi=>by
   rw[gZ];show wI hs h3D _ hi "" λh hh=>#[.fz (.str (hT h)),?_,rfl]
   have v1:(q9 i) ((jh 1 ρ).set i (!(h3D h)[8]))=.ok (h3D h)[8]:=by rw[vW,Qm B];rfl
   simp only[kW,kS,kR,v1,yI,kU,kT,QQ,hf h hh]
  rw[g];show#[?_,?_,(((tj.app ts).app tn).app te).le "d"]
  .have m:=mp uV (λh hh=>(Z7 h (b4 h hh)).1) 4 [!(.tup [.str "note",.int v,.tup (hs.map h3D),.bl t])[8],!(.str (tS v))[8],none,none] rfl rfl
   unfold xB VA;cases t
   .simp![n,xQ,m,jn,a1,a2];have a3:qB (.str (Str.join "+" (hs.map hT)++"/"++tS v)) (.str r"")=_:=a3;simp![a3];rfl
   simp![n,xQ,m,jn,a1,a2];have a3:qB (.str (Str.join "+" (hs.map hT)++"/"++tS v)) (.str "~")=_:=a3;simp![a3];rfl
  unfold wZ VC;cases t
  .have m:=mp xx (λh hh=>(Z7 h (b4 h hh)).2.1) 2 [!(.tup [.str "note",.int v,.tup (hs.map h3D),.bl false])[8],!(.str ("/"++tS v))[8]] rfl rfl
   have a4:=zk tj (ts.app tn) "d"
   simp![n,xQ,c1,m,jn,a4];rw[<- cO];show congrArg (λx=>R.ok (En.fz (D.str x))) (Qo _).symm
  have m:=mp xx (λh hh=>(Z7 h (b4 h hh)).2.1) 2 [!(.tup [.str "note",.int v,.tup (hs.map h3D),.bl true])[8],!(.str ("/"++tS v++"~"))[8]] rfl rfl
  have a4:=zk tj ((ts.app tn).app tt) "d"
  simp![n,xQ,c1,c2,m,jn,a4];rw[<- cO,<- cO];rfl
def rT(r:List (GE (List H3))):Str:=Str.join " " (":"::r.map eT)
def Wq:TX ":" 250:=#[by decide +kernel,by decide +kernel]
def Wr{r:List (GE (List H3))}(h:∀ e∈r,EB e)(k:Int):(∀ y∈r.map eT,TX y 250)/\TX (rT r) ((r[1]+1)*251):=by
 have a:∀ y∈r.map eT,TX y 250:=λy hy=>by
  let⟨e,he,z⟩:=gK.mp hy;subst z;show(Wp k e (h e he)).2.2
 show#[a,?_];have:=TX.join (ys:=":"::r.map eT) Qn (b:=250) λy hy=>by
  rcases gw.mp hy with q|q
  .rw[q];show Wq
  show a y q
 rw[gJ,g6]at this;show this
def Me(k:Int){r:List (GE (List H3))}(U:r[1]<=512)(f:Den)(B:∀ e∈r,f [.fz (geD (FP k) e)]=.ok (.str (eT e))[8])(i j:Nat)(ρ:Rho)(z:ρ.length=i)(O:ρ[j]?=!(!(gwD (FP k) r)[8])):qF 1 (iVc j) (gV i) qI (qi f [(q9 i)]) ρ=.ok (.lst ((r.map eT).map D.str))[9]:=by
 have hz:sz=16777216:=rfl;rw[gZ];show wI r (geD (FP k)) _ (yi (w:=.fz (gwD (FP k) r)) O rfl) "" λe he=>#[.fz (.str (eT e)),?_,rfl]
 have v1:(q9 i) ((jh 1 ρ).set i (!(geD (FP k) e)[8]))=.ok (geD (FP k) e)[8]:=by rw[vW,Qm z];rfl
 simp only[kW,kS,kR,v1,yI,kU,kT,QQ,B e he]
def qge(k:Int){r:List (GE (List H3))}(z:r[1]<=512)(h:∀ e∈r,EB e):yZ [.fz (gwD (FP k) r)]=.ok (.str (rT r))[8]:=by
 have c:=Me k z xB (λe he=>(Wp k e (h e he)).1) 1 0 [!(gwD (FP k) r)[8]] rfl rfl
 have q:=Wo Wq (Wr h k).1 (by rw[g6];lia)
 unfold yZ Xz;simp![c,q];rfl
def qgf(ns)(b:Nat):ji (vS ns false) b<=96:=by
 let⟨p,hp,e⟩:=XQ (VF ns false) b;let⟨k,hk,z⟩:=gK.mp hp;subst z;let⟨u1,u2,u3,u4,u5,u6,u7⟩:=xK false _ (xJ (jC ns k) false);have hi:=tG (JR (jC ns k) false).2 (cE u1);have m:y3 false=96:=rfl;rw[e];show vt (jC ns k) false*jE (jC ns k) false<=96;lia
def qgg(z:List Int)(wd):∃ r,JC [.fz (.lst (z.map D.int)),.fz (.bl wd)]=.ok r[7]/\r<=5000/\((wd=false/\400<=r)\/2000<=r):=by
 have c4:v8 [.fz (.lst (z.map D.int)),.fz 4[6]]=.ok (cell z 4)[7]:=xI z 4
 delta JC Xp
 cases wd
 .have b:=vc (cell z 4) 9887 400 "d"
  show#[400+qV (cell z 4) 9887 400,by simp![c4,(v9 (cell z 4) 9887 400 "d" "d")],"",.inl #[rfl,""]]
 have b:=vc (cell z 4) 9887 3001 "d"
 show#[2000+qV (cell z 4) 9887 3001,by simp![c4,(v9 (cell z 4) 9887 3001 "d" "d")],"",.inr ""]
def qgh(z:List Int):∃ k,JB [.fz (.lst (z.map D.int))]=.ok k[7]/\-7<=k/\k<=7:=by
 have c5:v8 [.fz (.lst (z.map D.int)),.fz 5[6]]=.ok (cell z 5)[7]:=xI z 5;have b:=vc (cell z 5) 9883 15 "d"
 delta JB Xo
 show#[qV (cell z 5) 9883 15-7,by simp![c5,(v9 (cell z 5) 9883 15 "d" "d")],"",""]
def qjf:xG=den 12 (US io0):=rfl
def qgi(fn)(k)(w)(B r)(O:w=.fz B\/w=.br B)(t:xG [w,.fz k[6],.fz fn]=.ok r[9]):fin ((qt (qi xG [(q9 0),(q9 1),(eC fn)])) [!w,!k[7]])=.ok r[9]:=by
 have c:(qi xG [(q9 0),(q9 1),(eC fn)]) [!w,!k[7]]=.ok r[9]:=by
  rcases O with z|z<;>(subst z;simp![t])
 rw[ZK,c];rfl
def qgj(k)(Rs)(h:∀ R∈Rs,zK (FH k) R)(B:Rs.length<=200)(w)(z:w=.fz (.lst (Rs.map (grD (FH k))))\/w=.br (.lst (Rs.map (grD (FH k))))) :
  JP [w,.fz k[6]]=.ok (.lst ((yx (FH k) Rs []).map brT))[9]:=by
 show qgi _ k w _ _ z (qfg (qfp k) Rs h B w z)
def gq:GE (List H3)->Option Nat×Int
 | .rest v=>(none,v)
 | .note v hs _=>(!hs[1],v)
def eq3:Ev->Option Nat×Int
 | .rest v=>(none,v)
 | .note v ps _=>(!ps[1],v)
def iq:GE (List Int)->Option Nat×Int
 | .rest v=>(none,v)
 | .note v ps _=>(!ps[1],v)
theorem Mf(k:Int):∀(Rs:List (List (List Ev))) (ah:List (Sum Int Str×D)),(∀ R∈Rs,∀ r∈gR R,∀ e∈r,GeOk (FH k) e)->(QsOf k Rs ah).map (·.map (·.map gq))=Rs.map (·.map (·.map eq3))
 | [],_,_=>rfl
 | R::Rs,ah,h=>by
  have a:=qfv gq iq (k:=k) (λT kds e=>by
   cases e with
   | rest v=>rfl
   | note v ps t=>show(!_,v)=(!_,v);rw[(Wh (isT T) k ps kds).1]) (h R h9) ah
  rw[QsOf,gP,gP,a,Mf k Rs _ λx hx=>h x (gj _ hx)]
  congr 1;unfold gR;rw[gZ];apply tf;intro r _;show(r.map gOf).map iq=r.map eq3;rw[gZ];apply tf;intro e _;cases e<;>rfl
def q_gh{Q:List (List (GE (List H3)))}{R:List (List Ev)}(h:Q.map (·.map gq)=R.map (·.map eq3)):Q.map ghR=R.map hcR/\jq Q=R.map (·.map pv):=by
 have a:ghR=λr=>((r.map gq).map λp=>p.1.getD 0).sum:=funext λr=>by
  unfold ghR;rw[gZ];congr 1;apply tf;intro e _;cases e<;>rfl
 have b:hcR=λr=>((r.map eq3).map λp=>p.1.getD 0).sum:=funext λr=>by
  unfold hcR;rw[gZ];congr 1;apply tf;intro e _;cases e<;>rfl
 have c:(λr:List (GE (List H3))=>r.map gv)=λr=>(r.map gq).map Prod.snd:=funext λr=>by
  rw[gZ];apply tf;intro e _;cases e<;>rfl
 have d:(λr:List Ev=>r.map pv)=λr=>(r.map eq3).map Prod.snd:=funext λr=>by
  rw[gZ];apply tf;intro e _;cases e<;>rfl
 constructor
 .have:=congrArg (List.map λl:List (Option Nat×Int)=>(l.map λp=>p.1.getD 0).sum) h
  rw[gZ,gZ]at this;rw[a,b];show this
 have:=congrArg (List.map λl:List (Option Nat×Int)=>l.map Prod.snd) h
 rw[gZ,gZ]at this;unfold jq;rw[c,d];show this
def wf(k:Int)(Q:List (List (GE (List H3)))):D:=match yt [.fz (grD (FP k) Q)]with
 | .ok d[8]=>d
 | _=>.non
def qgk(k)(h0:-7<=k)(h1:k<=7):JD [.fz k[6]]=.ok k[7]:=by
 delta JD Xr
 have w:=Q8 k[6] (-7) 7 rfl;rw[show zJ (-7) 7 k[6]=true by simp[zJ,h0,h1]]at w
 simp![Vh,Vi,w]
def qgl(r)(h0:1<=r)(h1:r<=5000):JF [.fz r[6]]=.ok r[7]:=by
 delta JF Xw
 have w:=Q8 r[6] 1 5000 rfl;rw[show zJ 1 5000 r[6]=true by simp[zJ,h0,h1]]at w
 simp![Vn,Vp,w]
def qgm(kds:Kd)(go:Bool){p k:Int}(z:0<=p)(B:p<=127)(O:-7<=k)(U:k<=7):HB (hd3 kds go p k):=by
 have g:∀ m,0<=grd m/\grd m<=11:=λm=>by unfold grd;split<;>decide
 have g:=g (ltN p k);have a:alN p k=-2\/alN p k=-1\/alN p k=0\/alN p k=1\/alN p k=2:=by unfold alN ffN;lia
 show#[Z1 p k,?_,?_,?_]
 .show -2<=(p-grd (ltN p k)-alN p k)/12;lia
 .show(p-grd (ltN p k)-alN p k)/12<=11;lia
 show(if wr kds go p k=true then !(alN p k)else none)∈sgs
 split
 .rcases a with a|a|a|a|a<;>(rw[a];decide)
 decide
theorem Mg(go:Bool){k:Int}(B:-7<=k)(O:k<=7):∀(ps:List Int) (kds:Kd),(∀ p∈ps,0<=p/\p<=127)->∀ h∈hds3 go k kds ps,HB h
 | [],_,_,_,hh=>by cases hh
 | p::ps,kds,hp,h,hh=>by
  rcases gw.mp hh with z|z
  .have:=hp p h9;subst z;show qgm kds go this.1 this.2 B O
  show Mg go B O ps _ (λq hq=>hp q (gj _ hq)) h z
def HK:GE (List H3)->Prop
 | .rest _=>True
 | .note _ hs _=>∀ h∈hs,HB h
theorem Mh{k:Int}(U:-7<=k)(Y:k<=7):∀(Rs:List (List (List Ev))) (ah:List (Sum Int Str×D)),(∀ R∈Rs,∀ r∈gR R,∀ e∈r,GeOk (FH k) e)->∀ Q∈QsOf k Rs ah,∀ r∈Q,∀ e∈r,HK e
 | [],_,_,_,hQ=>by cases hQ
 | R::Rs,ah,h,Q,hQ=>by
  rcases gw.mp hQ with z|z
  .subst z;intro r hr e he;let⟨Z,hm,z⟩:=gK.mp hr;subst z;let⟨d,hd,z⟩:=gK.mp he;subst z;let⟨r',B,_,q⟩:=Q_ev (h R h9) ah hm;let⟨T,kds,e',O,z⟩:=q d hd;subst z;have g:=h R h9 r' B e' O;rw[Z6];cases e' with
   | rest v=>trivial
   | note v ps t=>show Mg _ U Y ps kds (show PsOk ps from g.2).2.2.1
  show Mh U Y Rs _ (λx hx=>h x (gj _ hx)) Q z
theorem Mi:∀ l:List Int,(∀ x∈l,1<=x)->(l[1]:Int)<=l.sum/\∀ x∈l,x<=l.sum
 | [],_=>#[by simp,λ_ h=>by cases h]
 | a::l,h=>by
  let⟨p,q⟩:=Mi l λx hx=>h x (gj _ hx)
  have:=h a h9;rw[gJ,fW];show#["",λx hx=>?_]
  rcases gw.mp hx with z|z
  .lia
  have:=q x z;lia
structure Pg(ns:List Nt)(k:Int)(ms:List (Int×Int×Int))(r en:Int)(n:Nat)(Qs:List (List (List (GE (List H3)))))(cs fs:List Nat):Prop where
 N:Need ms en n
 e:en<=1401
 len:Qs.length=n
 rw:∀(b:Nat) (Q:List (List (GE (List H3)))),Qs[b]?=!Q->Q[1]<=8/\∀ r∈Q,(r[1]:Int)<=ji ms b/\∀ e∈r,EB e
 cl:cs[1]=n/\∀ c∈cs,c<3
 pg:JQ [.fz (.lst (ns.map ntD)),.fz k[6],.fz (.lst (ms.map qz)),.fz r[6]]=.ok (.tup [.int k,.lst (ms.map qz),.int r,.lst (cs.map jr),.lst (fs.map jr),.lst (Qs.map (grD (FP k)))])[8]
def qgn(O:List Nt)(N:NotesOk O)(Y:O[1]<=24)(k:Int)(k0:-7<=k)(k7:k<=7)(ms:List (Int×Int×Int))(g:GM ms)(f:Fine ms)(l:Lens ms)(r:Int)(r5:r<=5000)(B:((∀ b:Nat,ji ms b<=96)/\400<=r)\/2000<=r) :
  ∃ en n Qs cs fs,Pg O k ms r en n Qs cs fs:=by
 have hz:sz=16777216:=rfl;let⟨ws,V⟩:=qg3 O N Y;let⟨en,_,u1,u2⟩:=M7 (endsOf O);have E:EndOf O en:=#[u1,u2];let⟨e0,e1⟩:=qgb N E;let⟨n,hn,nd⟩:=qg2 f l en e0 e1;have nf:=hn.few;have np:=hn.pos;have bo:=qgc O N Y V f l E hn nd;have l8:=V.l8;have bk:=qg9 V f l;have Rk:∀ R∈zf ws ms n,R.length=ws[1]/\∀ r∈R,PRow r:=λR hR=>by
  let⟨b,_,z⟩:=gK.mp hR;subst z;show#[(bk b).1,λr B=>((bk b).2 r B).1]
 have bl:(zf ws ms n)[1]=n:=by unfold zf;rw[g6,d7]
 have Gk:∀ R∈zf ws ms n,zK (FH k) (gR R):=λR hR=>qfx k R #[by rw[(Rk R hR).1];show l8,(Rk R hR).2]
 let⟨l2,l3⟩:=Qs_D k (zf ws ms n) [] Gk;have qs:=Mf k (zf ws ms n) [] λR hR r B=>((Gk R hR).2 r B).1
 have hb:=Mh k0 k7 (zf ws ms n) [] λR hR r B=>((Gk R hR).2 r B).1
 generalize hQ:QsOf k (zf ws ms n) []=Qs at *;have ql:Qs.length=n:=by have:=congrArg List.length qs;rw[g6,g6,bl]at this;show this
 have gF:(zf ws ms n).map brD=((zf ws ms n).map gR).map (grD (FH k)):=by
  rw[gZ];apply tf;intro R _;show(gR_D k R).symm
 have sg:∀ w,(w=.fz (.lst ((zf ws ms n).map brD))\/w=.br (.lst ((zf ws ms n).map brD)))->JP [w,.fz k[6]]=.ok (.lst (Qs.map (grD (FP k))))[9]:=λw hw=>by
  rw[l2];show qgj k ((zf ws ms n).map gR) (λR hR=>by
   let⟨Q,hQ,e⟩:=gK.mp hR;subst e;show Gk Q hQ) (by rw[g6];lia) w (by rw[<- gF];show hw)
 have qa:∀(b:Nat) (Q:List (List (GE (List H3)))),Qs[b]?=!Q->Q.map (·.map gq)=(w6 ws ms b).map (·.map eq3):=λb Q hb=>by
  have hb2:b<n:=by have:=(gp.mp hb).1;lia
  have z:=congrArg (·[b]?) qs
  unfold zf at z;simp only[gH,hb,cI hb2,Option.map_some]at z;show tN z
 have rw_:∀(b:Nat) (Q:List (List (GE (List H3)))),Qs[b]?=!Q->Q[1]<=8/\∀ r∈Q,(r[1]:Int)<=ji ms b/\∀ e∈r,EB e:=λb Q hQ=>by
  have mQ:=t6 hQ;have gk:=l3 Q mQ;have d:=yv f l b;let⟨_,q2⟩:=q_gh (qa b Q hQ);show#[gk.1,λr B=>?_]
  have g:=(gk.2 r B).1;have m:r.map gv∈(w6 ws ms b).map (·.map pv):=by rw[<- q2];show gK.mpr #[r,B,rfl]
  let⟨y,hy,z⟩:=gK.mp m;have sm:=((bk b).2 y hy).2;rw[z]at sm;let⟨p,q⟩:=Mi (r.map gv) λx hx=>by
   let⟨e,he,z⟩:=gK.mp hx;subst z;have:=g e he;cases e with
   | rest v=>show this
   | note v hs t=>show this.1
  rw[g6,sm]at p;show#[p,λe he=>?_]
  have v:=q (gv e) (gK.mpr #[e,he,rfl]);rw[sm]at v;have ge:=g e he;have hk:=hb Q mQ r B e he;cases e with
  | rest u=>show#[ge,by have v:u<=_:=v;lia]
  | note u hs t=>show#[#[ge.1,by have v:u<=_:=v;lia],ge.2.1,hk]
 have wx:∀ Q∈Qs,∃ w:Int,yt [.fz (grD (FP k) Q)]=.ok w[7]/\1<=w/\w<=r:=λQ hQ=>by
  let⟨b,hb⟩:=List.mem_iff_getElem?.mp hQ;let⟨q1,q2⟩:=q_gh (qa b Q hb);have d:=yv f l b;let⟨w,we,w1,w2⟩:=qfH k Q (l3 Q hQ) (ji ms b).toNat (λx hx=>by
   rw[q2]at hx;let⟨y,hy,z⟩:=gK.mp hx;subst z;have:=((bk b).2 y hy).2;lia)
  show#[w,we,w1,?_];rw[q1]at w2;rcases B with⟨U,B⟩|B
  .have:=M9 V (ms:=ms) b 4 (.inl #[U b,rfl]);have:=U b;lia
  have:=M9 V (ms:=ms) b 8 (.inr #[d.2,rfl]);lia
 have wq:∀ Q∈Qs,yt [.fz (grD (FP k) Q)]=.ok (wf k Q)[8]/\∃ w:Int,wf k Q=.int w/\1<=w/\w<=r:=λQ hQ=>by
  let⟨w,we,wb⟩:=wx Q hQ;have e:wf k Q=.int w:=by unfold wf;rw[we]
  rw[e];show#[we,w,rfl,wb]
 let⟨xs,xe,xb,xl⟩:=UY (p:=λw=>1<=w/\w<=r) (Qs.map (wf k)) λy hy=>by
  let⟨Q,hQ,z⟩:=gK.mp hy;subst z;show(wq Q hQ).2
 rw[g6]at xl;let⟨cs,ce,c1,c2⟩:=qfT k Qs "" l3
 let⟨fs,ff⟩:=qg0 xs r r5 "" xb
 show#[en,n,Qs,cs,fs,hn,e1,ql,rw_,#["",c2],?_]
 have ck:=qgk k k0 k7;have cm:=qet (ds:=ms.map qz) (by rw[g6];show g.l1) (by rw[g6];show g.l2) (λj hj=>qeu g (λ_ _=>rfl) hj[""])
 have cn:=qen (f:=.fz) (.inl rfl) (qei N Y);have cr:=qgl r "" r5
 have s6:=sg _ (.inl rfl);have c7:∀ ρ:Rho,ρ.length=8->ρ[6]?=!(!(.lst (Qs.map (grD (FP k))))[9])->qF 1 (iVc 6) (gV 8) qI (qi yt [(q9 8)]) ρ=.ok (.lst (xs.map D.int))[9]:=λρ Z h6=>by
  rw[<- xe];show wI Qs (grD (FP k)) (wf k) (yi (w:=.ow (.lst (Qs.map (grD (FP k))))) h6 rfl) "" λQ hQ=>#[.fz (wf k Q),?_,rfl]
  have v1:(q9 8) ((jh 1 ρ).set 8 (!(grD (FP k) Q)[8]))=.ok (grD (FP k) Q)[8]:=by rw[vW,Qm Z];rfl
  simp only[kW,kS,kR,v1,yI,kU,kT,QQ,(wq Q hQ).1]
 unfold JQ XM;simp![ck,cm,cn,cr,bo,s6];rw[c7 _ rfl rfl];simp![ce,ff];rfl
def TL(l:List Str)(n:Int):Prop:=(∀ x∈l,PyData.strOk x=true)/\(((l.map λx=>x[1]+1).sum:Nat):Int)<=n
def TL.app{n m:Int}(h:TL a n)(g:TL b m):TL (a++b) (n+m):=by
 show#[λx hx=>(gE.mp hx).elim (h.1 x) (g.1 x),?_]
 rw[hX,dP];have:=h.2;have:=g.2;lia
def TL.le{n m:Int}(h:TL a n)(l:n<=m):TL a m:=#[h.1,bO h.2 l]
def TL.one{n:Nat}(h:TX x n):TL [x] ((n:Int)+1):=by
 show#[λy hy=>by rw[tR.mp hy];show h.1,?_]
 have:=h.2;simp;lia
theorem TL.all{b:Nat}:∀{l:List Str},(∀ x∈l,TX x b)->TL l ((l[1]:Int)*((b:Int)+1))
 | [],_=>#[λ_ h=>(by cases h),by simp]
 | x::l,h=>by
  have a:=(TL.one (h x h9)).app (TL.all λy hy=>h y (gj _ hy))
  show a.le ?_;rw[gJ,Int.natCast_add,Int.add_mul];lia
def TL.len{n:Int}:∀{l:List Str},TL l n->(l[1]:Int)<=n:=λ{l} h=>by
 have:∀ l:List Str,l[1]<=(l.map λx=>x[1]+1).sum:=by
  intro l
  induction l with
  | nil=>simp
  | cons a l ih=>simp;lia
 have:=this l;have:=h.2;lia
theorem TL.mem{n:Int}{x:Str}:∀{l:List Str},TL l n->x∈l->(x[1]:Int)+1<=n
 | a::l,h,m=>by
  have h2:=h.2;rw[gP,fW]at h2;rcases gw.mp m with z|z
  .rw[z];lia
  have:=TL.mem (l:=l) (n:=n-a[1]-1) #[λy hy=>h.1 y (gj _ hy),""] z
  lia
def nl1(x:Str):Str:=x++"\n"
def mT(p:Int×Int×Int):Str:=tS p.1++":"++tS p.2.1++"x"++tS p.2.2
def bL(fs cs:List Nat)(b:Nat)(Q:List (List (GE (List H3)))):List Str:=(if din (b:Int)[6] (fs.map jr)=true then [("line":Str)]else [])++((("bar ":Str)++tS ((cs.getD b 0:Nat):Int))::Q.map rT)
def allR(k r:Int)(ms:List (Int×Int×Int))(fs cs:List Nat)(Qs:List (List (List (GE (List H3)))))(i:Nat):List Str:=[("key ":Str)++tS k,Str.join " " ("meter"::ms.map mT),("room ":Str)++tS r]++(List.range i).flatMap λb=>bL fs cs b (Qs.getD b [])
def Ws(k r:Int)(ms:List (Int×Int×Int))(fs cs:List Nat)(Qs:List (List (List (GE (List H3)))))(i:Nat):allR k r ms fs cs Qs (i+1)=allR k r ms fs cs Qs i++bL fs cs i (Qs.getD i []):=by
 unfold allR;rw[cZ,List.flatMap_append,hV];simp
def Z8(p:Int×Int×Int)(h:TB p):TX (mT p) 17/\yV [.fz (qz p)]=.ok (.str (mT p))[8]/\∀ ρ:Rho,ρ[5]?=↑(!(qz p)[8]) ->
  (eOp qB (eOp qB (eOp qB (eOp qB (eB jm [(eOp qe (q9 5) 0[5])]) (eC (.str ":"))) (eB jm [(eOp qe (q9 5) 1[5])])) (eC (.str "x"))) (eB jm [(eOp qe (q9 5) 2[5])])) ρ=.ok (.str (mT p))[8]:=by
 let⟨a1,a2,b1,b2,u,_⟩:=h;have u1:1<=p.2.2/\p.2.2<=64:=by
  simp only[gw,fV,bw]at u;lia
 have n1:=vT (i:=p.1) ""
 have n2:=vT (i:=p.2.1) ""
 have n3:=vT (i:=p.2.2) ""
 have t1:=TX.num (i:=p.1) ""
 have t2:=TX.num (i:=p.2.1) ""
 have t3:=TX.num (i:=p.2.2) ""
 have tc:TX ":" 1:=#[by decide +kernel,by decide +kernel]
 have tx:TX "x" 1:=#[by decide +kernel,by decide +kernel]
 have c1:=t1.app tc;have c2:=c1.app t2;have c3:=c2.app tx;have e1:=zk t1 tc "d"
 have e2:=zk c1 t2 "d"
 have e3:=zk c2 tx "d"
 have e4:=zk c3 t3 "d"
 show#[c3.app t3,?_,λρ z=>?_]
 .unfold yV X3 qz;simp![n1,n2,n3,e1,e2,e3,e4];rfl
 have v:(q9 5) ρ=.ok (qz p)[8]:=by rw[vW,z];rfl
 rw[vW]at v;simp![v,qz,n1,n2,n3,e1,e2,e3,e4];rfl
structure PI(PG:D)(k r:Int)(ms:List (Int×Int×Int))(fs cs:List Nat)(Qs:List (List (List (GE (List H3)))))(n:Nat):Prop where
 i0:qe PG 0[6]=.ok k[7]
 i1:qe PG 1[6]=.ok (.lst (ms.map qz))[8]
 i2:qe PG 2[6]=.ok r[7]
 i3:qe PG 3[6]=.ok (.lst (cs.map jr))[8]
 i4:qe PG 4[6]=.ok (.lst (fs.map jr))[8]
 i5:qe PG 5[6]=.ok (.lst (Qs.map (grD (FP k))))[8]
 kb:k.natAbs<10000
 rb:r.natAbs<10000
 mb:∀ p∈ms,TB p
 ml:ms[1]<=20
 ln:Qs.length=n
 nl:n<=177
 cl:cs[1]=n
 c3:∀ c∈cs,c<3
 rw:∀(b:Nat) (Q:List (List (GE (List H3)))),Qs[b]?=!Q->Q[1]<=8/\∀ r∈Q,r[1]<=512/\∀ e∈r,EB e
 tl:∀ i,i<=n->TL (allR k r ms fs cs Qs i) 8000000
section
variable{PG:D}{k r:Int}{ms:List (Int×Int×Int)}{fs cs:List Nat}{Qs:List (List (List (GE (List H3))))}{n:Nat}
def Wt(a b x:Str)(h:a++" "=b):Str.join " " [a,x]=b++x:=by rw[<- h];rfl
def Wu{i:Int}(z:TX a 5)(hi:i.natAbs<10000):zI [.fz (.str a),.fz (.lst [.str (tS i)])]=.ok (.str (Str.join " " [a,tS i]))[8]:=Wo (ys:=[tS i]) z (λy hy=>by rw[tR.mp hy];show TX.num hi) "s"
def PI.met(P:PI PG k r ms fs cs Qs n):(∀ y∈ms.map mT,TX y 17)/\(ms.map mT)[1]<=20:=by
 show#[λy hy=>?_,by rw[g6];show P.ml]
 let⟨p,hp,z⟩:=gK.mp hy;subst z;show(Z8 p (P.mb p hp)).1
def PI.at(P:PI PG k r ms fs cs Qs n){i:Nat}(hi:i<n):∃ Q,Qs[i]?=!Q/\Qs.getD i []=Q/\okD (ati (cs.map jr) (i:Int))=.ok ((cs.getD i 0:Nat):Int)[7]/\((cs.getD i 0:Nat):Int).natAbs<10000/\wo (i:Int)[6] (.lst (fs.map jr))=.ok (.bl (din (i:Int)[6] (fs.map jr)))[8]:=by
 have ln:=P.ln;have cl:=P.cl;have e:Qs[i]?=!Qs[i]:=gG ""
 have c:cs[i]?=!cs[i]:=gG ""
 have c':cs.getD i 0=cs[i]:=by rw[t7,c];rfl
 have c3:=P.c3 cs[i] (fw _);show#[_,e,by rw[t7,e];rfl,by rw[zw,gH,c,c'];rfl,by rw[c'];lia,?_]
 show(if _ then _ else _)=_
 rw[iP];have:(fs.map jr).all (qK 8)=true:=pD.mpr λx hx=>by
  let⟨y,_,z⟩:=gK.mp hx;subst z;rfl
 rw[this];rfl
def qgo:TX "line" 5:=#[by decide +kernel,by decide +kernel]
def qgp:TX "bar" 5:=#[by decide +kernel,by decide +kernel]
abbrev Wv:SF:=(qg (sIf (tE (eOp wo (q9 2) (eOp qe (q9 0) 4[5]))) (qC 1 (eC (.str "line"))) qw)
 (qg (qC 1 (qi zI [(eC (.str "bar")),(qJ [(eB jm [(eOp qe (eOp qe (q9 0) 3[5]) (q9 2))])])]))
 (zZ 1 (qF 1 (iVc 3) (gV 4) qI (qi yZ [(q9 4)])))))
def qgq(P:PI PG k r ms fs cs Qs n){i:Nat}(hi:i<n)(z:Qs[i]?=!Qi)(L:List Str)(B:(L[1]:Int)+20<=16000000) :
  Wv [!PG[8],!(.lst (L.map D.str))[9],!(i:Int)[7],!(grD (FP k) Qi)[8]]=.nx [!PG[8],!(.lst ((L++bL fs cs i Qi).map D.str))[9],!(i:Int)[7],!(grD (FP k) Qi)[8]]:=by
 have hz:sz=16777216:=rfl;let⟨Q',e',_,ca,cb,di⟩:=P.at hi;let⟨q8,qr⟩:=P.rw i Qi z;have i3:=P.i3;have i4:=P.i4;have nm:=vT cb;have nr:zI [.fz (.str "bar"),.fz (.lst [.str (tS ((cs.getD i 0:Nat):Int))])]=.ok (.str ("bar "++tS ((cs.getD i 0:Nat):Int)))[8]:=by
  rw[Wu qgp cb,Wt _ "bar " _ (by decide +kernel)]
 obtain⟨L',el,e1⟩:∃ L':List Str,(L'=L++if din (i:Int)[6] (fs.map jr)=true then [("line":Str)]else [])/\(sIf (tE (eOp wo (q9 2) (eOp qe (q9 0) 4[5]))) (qC 1 (eC (.str "line"))) qw) [!PG[8],!(.lst (L.map D.str))[9],!(i:Int)[7],!(grD (FP k) Qi)[8]]=.nx [!PG[8],!(.lst (L'.map D.str))[9],!(i:Int)[7],!(grD (FP k) Qi)[8]]:=by
  show#[_,rfl,?_];cases c:din (i:Int)[6] (fs.map jr)with
  | false =>
   rw[c]at di;rw[iN fY,tK];simp![i4,di]
  | true =>
   rw[c]at di;rw[iP rfl,hX];simp![i4,di];rw[jR (xs:=L.map D.str) (d:=.str "line") rfl (by rw[g6];lia) rfl]
   rfl
 have ll:L'.length<=L[1]+1:=by rw[el];split<;>simp
 have e2:(qC 1 (qi zI [(eC (.str "bar")),(qJ [(eB jm [(eOp qe (eOp qe (q9 0) 3[5]) (q9 2))])])])) [!PG[8],!(.lst (L'.map D.str))[9],!(i:Int)[7],!(grD (FP k) Qi)[8]]=.nx [!PG[8],!(.lst ((L'++["bar "++tS ((cs.getD i 0:Nat):Int)]).map D.str))[9],!(i:Int)[7],!(grD (FP k) Qi)[8]]:=by
  rw[jR (xs:=L'.map D.str) (d:=.str ("bar "++tS ((cs.getD i 0:Nat):Int))) rfl (by rw[g6];lia) (by simp![i3,ca,nm,nr]),hX]
  rfl
 have e3:(zZ 1 (qF 1 (iVc 3) (gV 4) qI (qi yZ [(q9 4)]))) [!PG[8],!(.lst ((L'++["bar "++tS ((cs.getD i 0:Nat):Int)]).map D.str))[9],!(i:Int)[7],!(grD (FP k) Qi)[8]]=.nx [!PG[8],!(.lst ((L'++["bar "++tS ((cs.getD i 0:Nat):Int)]++Qi.map rT).map D.str))[9],!(i:Int)[7],!(grD (FP k) Qi)[8]]:=by
  rw[uD (xs:=(L'++["bar "++tS ((cs.getD i 0:Nat):Int)]).map D.str) (ys:=(Qi.map rT).map D.str) rfl (by
   rw[gZ];show wI Qi (gwD (FP k)) _ (yi (w:=.fz (grD (FP k) Qi)) rfl rfl) "" λq hq=>#[.fz (.str (rT q)),?_,rfl]
   have v:=qge k (qr q hq).1 (qr q hq).2;show(qi yZ [(q9 4)]) [_,_,_,_,!(gwD (FP k) q)[8]]=_;simp![v]) (by rw[g6,g6,g6,gD,fm];lia),<- hX]
  rfl
 unfold Wv;rw[jv,e1,jH,jv,e2,jH,e3];unfold bL;rw[el,hV,hV];rfl
def qgr(P:PI PG k r ms fs cs Qs n):JN [.fz PG]=.ok (.str (Str.join r"" ((allR k r ms fs cs Qs n).map nl1)))[8]:=by
 have hz:sz=16777216:=rfl;have i0:=P.i0;have i1:=P.i1;have i2:=P.i2;have nk:=vT P.kb;have nr:=vT P.rb;have ke:zI [.fz (.str "key"),.fz (.lst [.str (tS k)])]=.ok (.str ("key "++tS k))[8]:=by
  rw[Wu #[by decide +kernel,by decide +kernel] P.kb,Wt _ "key " _ (by decide +kernel)]
 have re:zI [.fz (.str "room"),.fz (.lst [.str (tS r)])]=.ok (.str ("room "++tS r))[8]:=by
  rw[Wu #[by decide +kernel,by decide +kernel] P.rb,Wt _ "room " _ (by decide +kernel)]
 have me:=Wo (a:="meter") (b:=17) #[by decide +kernel,by decide +kernel] P.met.1 (by have:=P.met.2;lia)
 have ml:=P.ml;have cm:(qF 1 (qN (eOp qe (q9 0) 1[5])) (gV 4) qI (qi yV [(q9 4)])) [!PG[8],none,none,none]=.ok (.lst ((ms.map mT).map D.str))[9]:=by
  rw[gZ];show wI ms qz _ (vk (w:=.fz (.lst (ms.map qz))) (by simp![i1]) rfl) "" λp hp=>#[.fz (.str (mT p)),?_,rfl]
  have v:=(Z8 p (P.mb p hp)).2.1;show(qi yV [(q9 4)]) [_,_,_,_,!(qz p)[8]]=_;simp![v]
 have ln:=P.ln;have s1:(qk 1 (qJ [(qi zI [(eC (.str "key")),(qJ [(eB jm [(eOp qe (q9 0) 0[5])])])]),(qi zI [(eC (.str "meter")),(qF 1 (qN (eOp qe (q9 0) 1[5])) (gV 4) qI (qi yV [(q9 4)]))]),(qi zI [(eC (.str "room")),(qJ [(eB jm [(eOp qe (q9 0) 2[5])])])])])) [!PG[8],none,none,none]=.nx [!PG[8],!(.lst ((allR k r ms fs cs Qs 0).map D.str))[9],none,none]:=by
  simp![i0,i2,nk,nr,ke,re,cm,me];rfl
 let⟨ρ,e,j2,j3,B⟩:=vV (numd 0 (Qs.map (grD (FP k)))) (λi ρ=>∃ j2 j3,ρ=[!PG[8],!(.lst ((allR k r ms fs cs Qs i).map D.str))[9],j2,j3]) (g:=gT [2,3]) (b:=Wv) (ρ:=[!PG[8],!(.lst ((allR k r ms fs cs Qs 0).map D.str))[9],none,none]) #[none,none,rfl] (λi x ρ hx #[j2,j3,B]=>by
  subst B;let⟨d,e1,rfl⟩:=JU hx;have hi:=(gp.mp e1).1;rw[g6]at hi;rw[gH]at e1;let⟨Q,eQ,eD,_⟩:=P.at (i:=i) ""
  rw[eQ]at e1;cases e1;have g:=qgq P (i:=i) "" eQ (allR k r ms fs cs Qs i) (by have:=(P.tl i "").len;lia)
  show#[_,_,rfl,.inl g,!(i:Int)[7],!(grD (FP k) Q)[8],?_];rw[Ws,eD])
 subst B;rw[K1,g6,ln]at e;have tl:=P.tl n (gC _);have nl:TX "\n" 1:=#[by decide +kernel,by decide +kernel]
 have c2:(qF 1 (iVc 1) (gV 4) qI (eOp qB (q9 4) (eC (.str "\n")))) [!PG[8],!(.lst ((allR k r ms fs cs Qs n).map D.str))[9],j2,j3]=.ok (.lst (((allR k r ms fs cs Qs n).map nl1).map D.str))[9]:=by
  rw[gZ];show wI (allR k r ms fs cs Qs n) D.str _ (yi (w:=.ow (.lst ((allR k r ms fs cs Qs n).map D.str))) rfl rfl) (by have:=tl.len;lia) λx hx=>#[.fz (.str (nl1 x)),?_,rfl]
  have a:=zk (x:=x) #[tl.1 x hx,gC _] nl (by have:=tl.mem hx;lia)
  show(eOp qB (q9 4) (eC (.str "\n"))) [_,_,_,_,!(.str x)[8]]=_;simp![a];rfl
 have jn:zH (.str r"") (.lst (((allR k r ms fs cs Qs n).map nl1).map D.str))=.ok (.str (Str.join r"" ((allR k r ms fs cs Qs n).map nl1)))[8]:=by
  show Mb ?_;have h:=tl.2;have z:((r"":Str))[1]=0:=by decide +kernel
  have y:((λx:Str=>x[1])∘nl1)=λx=>x[1]+1:=funext λx=>by
   show(x++("\n":Str))[1]=_;rw[Str.length_append];have:(("\n":Str))[1]=1:=by decide +kernel
   rw[this]
  rw[z,Nat.mul_zero,gZ];show(List.map ((λx:Str=>x[1])∘nl1) _).sum+0<=_
  rw[y];lia
 have it:J8 (eOp qe (q9 0) 5[5]) [!PG[8],!(.lst ((allR k r ms fs cs Qs 0).map D.str))[9],none,none]=.ok (numd 0 (Qs.map (grD (FP k)))):=by
  have z:(eOp qe (q9 0) 5[5]) [!PG[8],!(.lst ((allR k r ms fs cs Qs 0).map D.str))[9],none,none]=.ok (.lst (Qs.map (grD (FP k))))[8]:=by simp![P.i5]
  unfold J8;rw[z]
 unfold JN XI;rw[uv];show fin ((qg (qk 1 _) _) [!PG[8],none,none,none])=_;rw[jv,s1,jH,jv,kX,it,zQ,e,jH,ZK,QR,x_c,c2];simp![jn]
def qgs(P:PI PG k r ms fs cs Qs n){i:Nat}(hi:i<n)(Y:Qs[i]?=!Qi)(L:List Str)(Z:(L[1]:Int)+20<=16000000)(B O:Option En) :
  ∃ i4,(qg (sIf (tE (eOp wo (q9 3) (eOp qe (q9 0) 4[5]))) (qC 1 (eC (.str "line"))) qw)
 (qg (qC 1 (eOp qB (eC (.str "bar ")) (eB jm [(eOp qe (eOp qe (q9 0) 3[5]) (q9 3))])))
 (qM (qN (eOp qe (eOp qe (q9 0) 5[5]) (q9 3))) (gV 4) (qC 1 (eOp zH (eC (.str " ")) (eOp qB (qJ [(eC (.str ":"))]) (qF 1 (iVc 4) (gV 5) qI (qi wZ [(q9 5)]))))))))
   [!PG[8],!(.lst (L.map D.str))[9],B,!(i:Int)[7],O]=.nx [!PG[8],!(.lst ((L++bL fs cs i Qi).map D.str))[9],B,!(i:Int)[7],i4]:=by
 have hz:sz=16777216:=rfl;let⟨Q',e',_,ca,cb,di⟩:=P.at hi;let⟨q8,qr⟩:=P.rw i Qi Y;have i3:=P.i3;have i4:=P.i4;have i5:=P.i5;have nm:=vT cb;have nr:=zk (x:="bar ") (n:=4) #[by decide +kernel,by decide +kernel] (TX.num cb) "d"
 have iq:okD (ati (Qs.map (grD (FP k))) (i:Int))=.ok (grD (FP k) Qi)[8]:=by rw[zw,gH,Y];rfl
 obtain⟨L',el,e1⟩:∃ L':List Str,(L'=L++if din (i:Int)[6] (fs.map jr)=true then [("line":Str)]else [])/\(sIf (tE (eOp wo (q9 3) (eOp qe (q9 0) 4[5]))) (qC 1 (eC (.str "line"))) qw) [!PG[8],!(.lst (L.map D.str))[9],B,!(i:Int)[7],O]=.nx [!PG[8],!(.lst (L'.map D.str))[9],B,!(i:Int)[7],O]:=by
  show#[_,rfl,?_];cases c:din (i:Int)[6] (fs.map jr)with
  | false =>
   rw[c]at di;rw[iN fY,tK];simp![i4,di]
  | true =>
   rw[c]at di;rw[iP rfl,hX];simp![i4,di];rw[jR (xs:=L.map D.str) (d:=.str "line") rfl (by rw[g6];lia) rfl]
   rfl
 have ll:L'.length<=L[1]+1:=by rw[el];split<;>simp
 have e2:(qC 1 (eOp qB (eC (.str "bar ")) (eB jm [(eOp qe (eOp qe (q9 0) 3[5]) (q9 3))]))) [!PG[8],!(.lst (L'.map D.str))[9],B,!(i:Int)[7],O]=.nx [!PG[8],!(.lst ((L'++["bar "++tS ((cs.getD i 0:Nat):Int)]).map D.str))[9],B,!(i:Int)[7],O]:=by
  rw[jR (xs:=L'.map D.str) (d:=.str ("bar "++tS ((cs.getD i 0:Nat):Int))) rfl (by rw[g6];lia) (by simp![i3,ca,nm,nr]),hX]
  rfl
 generalize hM:L'++["bar "++tS ((cs.getD i 0:Nat):Int)]=M at e2;have lm:M[1]<=L[1]+2:=by rw[<- hM,gD,fm];lia
 let⟨ρ,e3,k4,U⟩:=vV (Qi.map (gwD (FP k))) (λj ρ=>∃ k4,ρ=[!PG[8],!(.lst ((M++(Qi.take j).map rT).map D.str))[9],B,!(i:Int)[7],k4]) (g:=gV 4) (b:=qC 1 (eOp zH (eC (.str " ")) (eOp qB (qJ [(eC (.str ":"))]) (qF 1 (iVc 4) (gV 5) qI (qi wZ [(q9 5)]))))) (ρ:=[!PG[8],!(.lst (M.map D.str))[9],B,!(i:Int)[7],O]) #[O,by simp] (λj x ρ hx #[k4,U]=>by
  subst U;have hj:=(gp.mp hx).1;rw[g6]at hj;rw[gH,gG hj]at hx;cases hx;let⟨r5,rb⟩:=qr Qi[j] (fw _);have tk:Qi.take (j+1)=Qi.take j++[Qi[j]]:=by rw[List.take_add_one,gG hj];rfl
  rw[tk];generalize Qi[j]=q at r5 rb;have c:=Me k r5 wZ (λe he=>(Wp k e (rb e he)).2.1) 5 4 [!PG[8],!(.lst ((M++(Qi.take j).map rT).map D.str))[9],B,!(i:Int)[7],!(gwD (FP k) q)[8]] rfl rfl
  have ad:qB (.lst [.str ":"]) (.lst ((q.map eT).map D.str))=.ok (.lst (((":":Str)::q.map eT).map D.str))[9]:=by
   show(if _ then R.ok (En.ow (.lst ([D.str ":"]++(q.map eT).map D.str)))else .stuck)=_
   rw[iP (by rw[g6,g6];simp;lia)]
   rfl
  have jn:zH (.str " ") (.lst (.str ":"::(q.map eT).map D.str))=.ok (.str (rT q))[8]:=j_TX (ys:=":"::q.map eT) Qn (b:=250) (λy hy=>by
   rcases gw.mp hy with z|z
   .rw[z];show Wq
   show(Wr rb k).1 y z) (by rw[gJ,g6];lia)
  show#[_,_,rfl,.inl ?_,!(gwD (FP k) q)[8],rfl];show(qC 1 _) [!PG[8],!(.lst ((M++(Qi.take j).map rT).map D.str))[9],B,!(i:Int)[7],!(gwD (FP k) q)[8]]=_;rw[jR (xs:=(M++(Qi.take j).map rT).map D.str) (d:=.str (rT q)) rfl (by rw[g6,gD,g6,tD];lia) (by simp![c,ad,jn])]
  rw[hX (l₁:=Qi.take j),<- hV,hX (l₂:=List.map rT [q])];rfl)
 subst U;show#[k4,?_];rw[g6,cK]at e3;rw[jv,e1,jH,jv,e2,jH,kX,vk (w:=.fz (grD (FP k) Qi)) (ds:=Qi.map (gwD (FP k))) (by simp![i5,iq]) rfl,zQ,e3,<- hM]
 unfold bL;rw[el,hV,hV];rfl
def qgt(P:PI PG k r ms fs cs Qs n):Q5 [.fz PG]=.ok (.lst ((allR k r ms fs cs Qs n).map D.str))[9]:=by
 have hz:sz=16777216:=rfl;have i0:=P.i0;have i1:=P.i1;have i2:=P.i2;have i5:=P.i5;have nk:=vT P.kb;have nr:=vT P.rb;have ke:=zk (x:="key ") (n:=4) #[by decide +kernel,by decide +kernel] (TX.num P.kb) "d"
 have re:=zk (x:="room ") (n:=5) #[by decide +kernel,by decide +kernel] (TX.num P.rb) "d"
 have ml:=P.ml;have ln:=P.ln;have nl:=P.nl;have cm:(qF 1 (qN (eOp qe (q9 0) 1[5])) (gV 5) qI (eOp qB (eOp qB (eOp qB (eOp qB (eB jm [(eOp qe (q9 5) 0[5])]) (eC (.str ":"))) (eB jm [(eOp qe (q9 5) 1[5])])) (eC (.str "x"))) (eB jm [(eOp qe (q9 5) 2[5])]))) [!PG[8],!(.lst [.str ("key "++tS k)])[9],none,none,none]=.ok (.lst ((ms.map mT).map D.str))[9]:=by
  rw[gZ];show wI ms qz _ (vk (w:=.fz (.lst (ms.map qz))) (by simp![i1]) rfl) "" λp hp=>#[.fz (.str (mT p)),(Z8 p (P.mb p hp)).2.2 _ rfl,rfl]
 have ad:qB (.lst [.str "meter"]) (.lst ((ms.map mT).map D.str))=.ok (.lst (.str "meter"::(ms.map mT).map D.str))[9]:=by
  show(if _ then R.ok (En.ow (.lst ([D.str "meter"]++(ms.map mT).map D.str)))else .stuck)=_
  rw[iP (by rw[g6,g6];simp;lia)]
  rfl
 have jn:zH (.str " ") (.lst (.str "meter"::(ms.map mT).map D.str))=.ok (.str (Str.join " " ("meter"::ms.map mT)))[8]:=j_TX (ys:="meter"::ms.map mT) Qn (b:=17) (λy hy=>by
  rcases gw.mp hy with z|z
  .rw[z];show#[by decide +kernel,by decide +kernel]
  show P.met.1 y z) (by have:=P.met.2;rw[gJ];lia)
 let⟨ρ,e,j3,j4,B⟩:=QL n (λi ρ=>∃ j3 j4,ρ=[!PG[8],!(.lst ((allR k r ms fs cs Qs i).map D.str))[9],!(.lst ((ms.map mT).map D.str))[9],j3,j4]) (g:=gV 3) (b:=(qg (sIf (tE (eOp wo (q9 3) (eOp qe (q9 0) 4[5]))) (qC 1 (eC (.str "line"))) qw)
 (qg (qC 1 (eOp qB (eC (.str "bar ")) (eB jm [(eOp qe (eOp qe (q9 0) 3[5]) (q9 3))])))
 (qM (qN (eOp qe (eOp qe (q9 0) 5[5]) (q9 3))) (gV 4) (qC 1 (eOp zH (eC (.str " ")) (eOp qB (qJ [(eC (.str ":"))]) (qF 1 (iVc 4) (gV 5) qI (qi wZ [(q9 5)]))))))))) (ρ:=[!PG[8],!(.lst ((allR k r ms fs cs Qs 0).map D.str))[9],!(.lst ((ms.map mT).map D.str))[9],none,none]) #[none,none,rfl] (λi ρ hi #[j3,j4,B]=>by
  subst B;let⟨Q,eQ,eD,_⟩:=P.at hi;let⟨i4,g⟩:=qgs P hi eQ (allR k r ms fs cs Qs i) (by have:=(P.tl i "").len;lia) (!(.lst ((ms.map mT).map D.str))[9]) j4
  show#[_,_,rfl,.inl g,!(i:Int)[7],i4,by rw[Ws,eD]])
 subst B;have q5:((Qs.map (grD (FP k)))[1]:Int)=(n:Int):=by rw[g6,ln]
 unfold Q5 XC;simp![i0,nk,ke,cm];rw[jR (xs:=[.str ("key "++tS k)]) (d:=.str (Str.join " " ("meter"::ms.map mT))) rfl (show 1<sz by decide) (by simp![ad,jn])]
 left;rw[jR (xs:=[.str ("key "++tS k),.str (Str.join " " ("meter"::ms.map mT))]) (d:=.str ("room "++tS r)) rfl (show 2<sz by decide) (by simp![i2,nr,re])]
 left;rw[QT (n:=n) (by simp![i5,q5]) "",zQ]
 have e:qH _ _ _ [_,!(.lst [.str ("key "++tS k),.str (Str.join " " ("meter"::ms.map mT)),.str ("room "++tS r)])[9],_,_,_]=_:=e;rw[e];left
def cat:List Str->Str
 | []=>r""
 | x::l=>x++"\n"++cat l
def qgu(x:Str):(r"":Str)++x=x:=by
 show(#[#[]++x.cps]:Str)=x;simp
theorem Mj:∀ l:List Str,Str.join r"" (l.map nl1)=cat l
 | []=>rfl
 | [x]=>(Qo _).symm
 | x::y::l=>by
  show nl1 x++r""++Str.join r"" ((y::l).map nl1)=_;rw[Mj (y::l),Qo];rfl
theorem Mk(B O U Y Z:Option En):∀(l:List Str) (acc:Str) (a b:Nat) (j6:Option En),TX acc a->TL l b->a+b<=16777216->(∃ i6,qH (gV 6) (qk 5 (eOp qB (eOp qB (q9 5) (q9 6)) (eC (.str "\n")))) (l.map D.str) [B,O,U,Y,Z,!(.str acc)[8],j6]=.nx [B,O,U,Y,Z,!(.str (acc++cat l))[8],i6])/\PyData.strOk (acc++cat l)=true
 | [],acc,a,b,j6,h,_,_=>by
  have e:acc++cat []=acc:=Qo acc;rw[e];show#[#[j6,rfl],h.1]
 | x::l,acc,a,b,j6,h,t,hb=>by
  have nl:TX "\n" 1:=#[by decide +kernel,by decide +kernel]
  have tx:TX x x[1]:=#[t.1 x h9,gC _];have t2:=t.2;rw[gP,fW]at t2;have c1:=zk h tx ""
  have c2:=zk (h.app tx) nl ""
  let⟨⟨i6,e⟩,s⟩:=Mk B O U Y Z l (acc++x++"\n") (a+x[1]+1) (b-x[1]-1) (!(.str x)[8]) ((h.app tx).app nl) #[λy hy=>t.1 y (gj _ hy),""] ""
  have z:acc++x++"\n"++cat l=acc++cat (x::l):=by
   show _=acc++(x++"\n"++cat l);rw[cO,cO,cO]
  rw[z]at e s;show#[#[i6,?_],s];rw[gP,vd (yK)];simp only[fP,fQ];have st:(qk 5 (eOp qB (eOp qB (q9 5) (q9 6)) (eC (.str "\n")))) [B,O,U,Y,Z,!(.str acc)[8],!(.str x)[8]]=.nx [B,O,U,Y,Z,!(.str (acc++x++"\n"))[8],!(.str x)[8]]:=by
   simp![c1,c2]
  rw[st,y6];show e
def qgv(b:Nat)(Q:List (List (GE (List H3))))(d:Nat)(B:((cs.getD b 0:Nat):Int).natAbs<10000)(O:Q[1]<=8)(h:∀ r∈Q,r[1]<=d/\∀ e∈r,EB e):TL (bL fs cs b Q) (2008*(d:Int)+2040):=by
 have a:TL (if din (b:Int)[6] (fs.map jr)=true then [("line":Str)]else []) 6:=by
  split
  .show TL.one qgo
  show#[λ_ z=>(by cases z),by simp]
 have e:TL [("bar ":Str)++tS ((cs.getD b 0:Nat):Int)] 10:=TL.one (TX.app (n:=4) #[by decide +kernel,by decide +kernel] (TX.num B))
 have g:TL (Q.map rT) ((((Q.map rT)[1]:Nat):Int)*((((d+1)*251:Nat):Int)+1)):=TL.all λx hx=>by
  let⟨r,hr,z⟩:=gK.mp hx;subst z;show(Wr (h r hr).2 0).2.le (Nat.mul_le_mul_right _ (by have:=(h r hr).1;lia))
 rw[g6]at g;have g2:=tG (show((Q[1]:Nat):Int)<=8 by lia) (show(0:Int)<=(((d+1)*251:Nat):Int)+1 by lia)
 show(a.app (e.app g)).le ""
end
def qgw{k r:Int}{ms:List (Int×Int×Int)}(B:k.natAbs<10000)(O:r.natAbs<10000)(U:∀ p∈ms,TB p)(Y:ms[1]<=20):TL [("key ":Str)++tS k,Str.join " " ("meter"::ms.map mT),("room ":Str)++tS r] 500:=by
 have ky:TX "key " 4:=#[by decide +kernel,by decide +kernel]
 have rm:TX "room " 5:=#[by decide +kernel,by decide +kernel]
 have me:TX "meter" 17:=#[by decide +kernel,by decide +kernel]
 have j:=TX.join (ys:="meter"::ms.map mT) Qn (b:=17) λy hy=>by
  rcases gw.mp hy with z|z
  .rw[z];show me
  let⟨p,hp,z⟩:=gK.mp z;subst z;show(Z8 p (U p hp)).1
 rw[gJ,g6]at j;have a:=TL.one (ky.app (TX.num B));have b:=TL.one (rm.app (TX.num O));have c:=TL.one j;show TL.le (a.app (c.app b)) ""
theorem Ml{k r:Int}{ms:List (Int×Int×Int)}{fs cs:List Nat}{Qs:List (List (List (GE (List H3))))}{n:Nat}(f:Fine ms)(l:Lens ms)(z:k.natAbs<10000)(B:r.natAbs<10000)(O:∀ p∈ms,TB p)(U:ms[1]<=20)(Y:Qs.length=n)(cl:∀ c∈cs,c<3)
  (h:∀(b:Nat) (Q:List (List (GE (List H3)))),Qs[b]?=!Q->Q[1]<=8/\∀ r∈Q,(r[1]:Int)<=ji ms b/\∀ e∈r,EB e):∀ i,i<=n->TL (allR k r ms fs cs Qs i) (500+2008*qG ms i+2040*i)
 | 0,_=>by
  unfold allR;rw[List.range_zero,List.flatMap_nil,tK,XR];show(qgw z B O U).le ""
 | i+1,hi=>by
  have ih:=Ml (fs:=fs) f l z B O U Y cl h i ""
  have e:Qs[i]?=!Qs[i]:=gG ""
  have gd:Qs.getD i []=Qs[i]:=by rw[t7,e];rfl
  have d:=yv f l i;let⟨q8,qr⟩:=h i _ e;have c3:((cs.getD i 0:Nat):Int).natAbs<10000:=by
   rw[t7];cases ce:cs[i]? with
   | none=>decide
   | some c=>have:=cl c (t6 ce);show((c:Nat):Int).natAbs<10000;lia
  have b:=qgv (fs:=fs) i Qs[i] (ji ms i).toNat c3 q8 λr hr=>#[by have:=(qr r hr).1;lia,(qr r hr).2]
  rw[Ws,gd,wD];show(ih.app b).le ""
def qgx(B:List Int)(U:B[1]<=63):xH [.fz (.lst (B.map D.int))]=.ok (.bl true)[8]:=by
 have hz:sz=16777216:=rfl;let⟨k,ke,k0,k7⟩:=qgh B;have hw:=qdb B;generalize (cell B 0%4==3)=wd at hw;let⟨r,re,r5,hr⟩:=qgg B wd;have ne:=qda B U wd;have N:=qdg B wd;have nl:=qdh B wd;have me:=qcX B wd;have f:=VF B wd;have l:=qcZ B wd;have g:=qex B wd;have O:((∀ b:Nat,ji (vS B wd) b<=96)/\400<=r)\/2000<=r:=by
  rcases hr with⟨z,hr⟩|hr
  .subst z;show .inl #[qgf B,hr]
  show .inr hr
 generalize xN B wd=nt at ne N nl;generalize vS B wd=ms at me f l g O;let⟨en,n,Qs,cs,fs,P⟩:=qgn nt N nl k k0 k7 ms g f l r r5 O;have pg:=P.pg;have ln:=P.len;have nf:=P.N.few;have np:=P.N.pos;have Y:=P.e;have tl:=Ml (fs:=fs) (cs:=cs) (k:=k) (r:=r) f l "" "" g.told g.l2 ln P.cl.2 P.rw
 have av:∀ i,i<=n->qG ms i<=1913:=λi hi=>by
  have d:=yv f l (n-1);have m:=VG f l i (n-i);rw[show i+(n-i)=(n-1)+1 by lia,wD]at m
  by_cases c:n=1
  .subst c;rw[show qG ms (1-1)=0 from rfl]at m
   lia
  have:=P.N.least (n-1) "" ""
  lia
 have I:PI (.tup [.int k,.lst (ms.map qz),.int r,.lst (cs.map jr),.lst (fs.map jr),.lst (Qs.map (grD (FP k)))]) k r ms fs cs Qs n :=
  #[rfl,rfl,rfl,rfl,rfl,rfl,"","",g.told,g.l2,ln,nf,P.cl.1,P.cl.2,λb Q e=>#[(P.rw b Q e).1,λr hr=>#[by have:=((P.rw b Q e).2 r hr).1;have:=yv f l b;lia,((P.rw b Q e).2 r hr).2]],λi hi=>(tl i hi).le (by have:=av i hi;lia)]
 have sh:=qgr I;have lr:=qgt I;generalize D.tup [.int k,.lst (ms.map qz),.int r,.lst (cs.map jr),.lst (fs.map jr),.lst (Qs.map (grD (FP k)))]=PG at pg sh lr;rw[Mj]at sh;have t:=I.tl n (gC _);generalize allR k r ms fs cs Qs n=rows at sh lr t;generalize B.map D.int=sc at *;let⟨⟨i6,du⟩,so⟩:=Mk (!(.lst sc)[8]) (!(.bl wd)[8]) (!(.lst (nt.map ntD))[9]) (!PG[8]) (!(.str (cat rows))[8]) rows r"" 0 8000000 none #[by decide +kernel,by decide +kernel] t "d"
 rw[qgu]at du so;have q:=qaI (d:=.str (cat rows)) so;have is:dIs .str (.str (cat rows))=.ok (.bl true)[8]:=rfl;have it:qN (qi Q5 [(q9 3)]) [!(.lst sc)[8],!(.bl wd)[8],!(.lst (nt.map ntD))[9],!PG[8],!(.str (cat rows))[8],!(.str r"")[8],none]=.ok (rows.map D.str):=vk (w:=.ow (.lst (rows.map D.str))) (by simp![lr]) rfl
 unfold xH XO;simp![hw,ne,ke,me,re,pg,sh,is];rw[it,zQ,du];simp![q]
section
variable{P:af}{w:World}{K:Frag}{mg:Str->Option aa}{base:Heap}
variable{W:Wd}(A:Al W FS BL CS)
include A
def Mn:Q W 1 0 uQ:=by
 show fE A 0 ["thing"] λhr nd hu=>?_
 show(qm (qA (ug (ui .int (qb 0) A.bl A.bl) (QC (qac (ui .bool (qb 0) A.bl A.bl))))))
def Mo:Q W 1 1 yT:=by
 show fE A 1 ["thing","least","most"] λhr nd hu=>?_
 show(qm (qA (ug (ui .list (qb 0) A.bl A.bl) (QC (ZF wg wg (qb 1) (jD zx A.bl tV (qc (qb 0) qh)) (qb 2))))))
def Mp:Q W 1 2 uR:=by
 show fE A 2 ["low","number","divisor"] λhr nd hu=>?_
 show(qm (qA (qq qZ (qb 0) (qq yF (qq jV (qb 1) (qb 0)) (qb 2)))))
def Mq:Q W 1 3 Jr:=by
 show fE A 3 ["fifths"] λhr nd hu=>?_
 show(qm (qA (qq kG (qq qZ (qb 0) qf) qf)))
def qgy:Q W 1 4 yU:=by
 show fE A 4 ["head"] λhr nd hu=>?_
 show(qm (qA (qq qZ (qq wc qf (ZY (qb 0) qf)) (Km (gb (A.q 0)) (ZY (qb 0) qf)))))
def qgz:Q W 1 5 uS:=by
 show fE A 5 ["step","clef","lowest","above","below"] λhr nd hu=>?_
 show(qj (qp 2 nd (qo (gb (A.q 1)) (qb 1)))
 (qj (qp 3 nd (qq jV (qq jV (qb 0) (qb 2)) (gb (A.q 2))))
 (qj (qp 4 nd (qq jV (qb 2) (qb 0)))
 (qm (qA (qq kG (jD (qbC rfl) A.bl cX (qc (qb 3) (qc (qb 4) (qc qf qh)))) qf))))))
def Mr:Q W 1 6 ww:=by
 show fE A 6 ["prices","ahead"] λhr nd hu=>?_
 have z:=ndc nd ["clef"];show(qm (qA (zE (n:=1) (apS _ ["clef"]) (SI.c (zn (gb (A.q 3)))) (zd 2) (λ_ _ _ _ _=>(qL 2 z)) (λ_ _ _ _ _=>.nil) λ_ _ _ _ _=>(QD (qY (zh hu) (qb 2) (qb 1)) (qo (qb 0) (qb 2)) (qq qZ (qo (qb 0) (qb 2)) (gb (A.q 4)))))))
def xS:Q W 1 7 zR:=by
 show fE A 7 ["sound"] λhr nd hu=>?_
 show(qm (qA (qq qZ (qo (qb 0) qf) (qo (qb 0) qf))))
def qgA:Q W 1 8 yp:=by
 show fE A 8 ["notes","pitches","note"] λhr nd hu=>?_
 have z:=ndc nd ["span"];show(qj (Ka 1 nd ZE)
 (qj (jg gQ rfl (zn (jD V9 A.bl dD (qc (qb 0) qh))) (qL 2 nd) (qm (qbo 1 hu (qc (qo (qb 2) qf) (qc (qo (qb 2) qf) qh)) (ju qh) (qo (qb 2) qf))))
 (qm (qbs 1 (qA (zE (n:=1) (apS _ ["span"]) (SI.c (si_T 1)) (zd 3) (λ_ _ _ _ _=>(qL 3 z)) (λ_ _ _ _ _=>.nil) λ_ _ _ _ _=>(vj (qc (qo (qb 3) qf) (qc (qo (qb 3) qf) (qc (jW K5 A.bl boot_tuple (qc (qbu hu (qb 1) (qb 3)) qh)) qh))))))))))
def Ms:Q W 1 9 uT:=by
 show fE A 9 ["length","row","left","value"] λhr nd hu=>?_
 let⟨_,_,z,B,O⟩:=A.q 5 (x:="SHAPES") (d:=Jo);show(qj (qp 1 nd (ju qh))
 (qj (qp 2 nd (qb 0))
 (qj (jg gQ rfl (qaw z B O) (qL 3 nd) (qm (Yf 520 gQ (qY wg (qb 3) (qb 2)) (qj (zc 1 (qb 3))
 (qm (kK 2 nd Yk (qb 3)))))))
 (qm (zi 1)))))
def Mt:Q W 1 10 wA:=by
 show fE A 10 ["bar","spots","voice","row","place","number","event"] λhr nd hu=>?_
 show(qj (qp 1 nd (ju qh))
 (qj (jg gQ rfl (xa 0 A.bl) (ye rfl (zP 2 nd (zP 3 nd yd))) (qj (qp 4 nd qf)
 (qm (jg gQ rfl (xa 3 A.bl) (ye rfl (zP 5 nd (zP 6 nd yd))) (qj (zc 1 (vj (qc (qb 4) (qc (qb 2) (qc (qb 5) qh)))))
 (qm (kK 4 nd QJ (qo (qb 6) qf))))))))
 (qm (qA (jD V9 A.bl dD (qc (qb 1) qh))))))
def qgB:Q W 1 11 yq:=by
 show fE A 11 ["event"] λhr nd hu=>?_
 show(qj (qU (st_w (kJ (qY ZR (qb 0) kE) (kJ (qY (zh hu) (qo (qb 0) qf) qO) (uf (vA (jL (qo (qb 0) qf))))))) (qm (qA kE)) qT)
 (qm (qA (qo (qb 0) qf))))
def qgC:Q W 1 12 Jt:=by
 show fE A 12 ["bar","many","voice","event"] λhr nd hu=>?_
 have z:=ndc nd ["head"];show(qj (qp 1 nd qf)
 (qj (zu 0 (jg gQ rfl (vC 0) (qL 2 nd) (qm (zu 2 (jg gQ rfl (vC 2) (qL 3 nd) (qm (qU (qY (zh hu) (qo (qb 3) qf) qO) (qm (kK 1 nd QJ (jD zx A.bl tV (qc (zE (n:=1) (apS _ ["head"]) (SI.c (zn (qo (qb 3) qf))) (zd 4) (λ_ _ _ _ _=>(qL 4 z)) (λ_ _ _ _ _=>(.one (qY qb3 (qo (qb 4) qf) kE))) λ_ _ _ _ _=>(qb 4)) qh)))) qT)))))))
 (qm (zi 1))))
def qgD:Q W 1 13 Ju:=by
 show fE A 13 ["widths","room","bar","wide"] λhr nd hu=>?_
 show(qm (jg gQ rfl (xa 0 A.bl) (ye rfl (zP 2 nd (zP 3 nd yd))) (qm (qU (qY Zk (qb 3) (qb 1)) (qm wP) qT))))
def qgE:Q W 1 14 uU:=by
 show fE A 14 ["widths","room","first","best","choices","left","behind","cost"] λhr nd hu=>?_
 show(qj (qp 4 nd (ju qh))
 (qj (qp 5 nd (qb 1))
 (qj (jg gQ rfl (qbv (qq qZ (qb 2) qf) (qq qZ (jD zx A.bl tV (qc (qb 0) qh)) qf) A.bl) (qL 6 nd) (qj (kK 5 nd Yk (qo (qb 0) (qq jV (qb 6) qf)))
 (qj (qU (qY vL (qb 5) qf) (qm Ye) qT)
 (qj (qp 7 nd (QD (qY (zh hu) (qb 6) (jD zx A.bl tV (qc (qb 0) qh))) qf (qq qZ (qq wc (qb 5) (qb 5)) (qo (qo (qb 3) (qb 6)) qf))))
 (qm (zc 4 (vj (qc (qb 7) (qc (vE (qb 6)) qh)))))))))
 (qm (zi 4)))))
def Ww:Q W 1 15 wB:=by
 show fE A 15 ["told"] λhr nd hu=>?_
 show(qm (qA (qq wc (qo (qb 0) qf) (qo (qb 0) qf))))
def qgF:Q W 1 16 yr:=by
 show fE A 16 ["meter","at"] λhr nd hu=>?_
 show(qj (qU (qY (zh hu) (qb 1) qf) (qm (qA (wM (zh hu) (qo (qo (qb 0) qf) qf) qf))) qT)
 (qm (qA (wM Zk (qo (qo (qb 0) (qb 1)) qf) (qo (qo (qb 0) (qq jV (qb 1) qf)) qf)))))
def Qp:Q W 1 17 zI:=by
 show fE A 17 ["first","words"] λhr nd hu=>?_
 show(qm (qA (xu qO (qq jB (ju (qc (qb 0) qh)) (qb 1)))))
def qgG:Q W 1 18 yV:=by
 show fE A 18 ["change"] λhr nd hu=>?_
 show(qm (qA (qq jB (qq jB (qq jB (qq jB (jW zy A.bl t5 (qc (qo (qb 0) qf) qh)) qO) (jW zy A.bl t5 (qc (qo (qb 0) qf) qh))) qO) (jW zy A.bl t5 (qc (qo (qb 0) qf) qh)))))
def qgH(z:DatN W.K W.mg "SIGN_WORDS" wY):Q W 1 19 uV:=by
 show fE A 19 ["head"] λhr nd hu=>?_
 show(qm (qA (qq jB (qq jB (qo (qb 0) qf) (jW zy A.bl t5 (qc (qo (qb 0) qf) qh))) (qcH z (qo (qb 0) qf)))))
def yy:Q W 1 20 v8:=by
 show fE A 20 ["_law_script","_law_k"] λhr nd hu=>?_
 show(qj (qU (qY vL (qb 1) (jD zx A.bl tV (qc (qb 0) qh))) (qm (qA (qo (qb 0) (qb 1)))) qT)
 (qm (qA qf)))
def vf:Q W 1 21 zq:=by
 show fE A 21 ["_law_cell_here","_law_prime","_law_many"] λhr nd hu=>?_
 show(qm (qA (qq yF (qq yF (qq wc (qb 0) qf) (qb 1)) (qb 2))))
def qgI:Q W 1 22 Jv:=by
 show fE A 22 ["_law_note_here","_law_notes_here","_law_other"] λhr nd hu=>?_
 show(qj (zu 1 (jg gQ rfl (vC 1) (qL 2 nd) (qm (qU (st_w (yc (qY (zh hu) (qo (qb 0) qf) (qo (qb 2) qf)) (yc (qY vL (qo (qb 0) qf) (qq qZ (qo (qb 2) qf) (qo (qb 2) qf))) (kI (qY vL (qo (qb 2) qf) (qq qZ (qo (qb 0) qf) (qo (qb 0) qf))))))) (qm (qA wa)) qT))))
 (qm (qA wa)))
def qgJ:Q W 1 23 Jw:=by
 show fE A 23 ["_law_note_here","_law_notes_here","_law_seen","_law_other"] λhr nd hu=>?_
 show(qj (qp 2 nd ZE)
 (qj (zu 1 (jg gQ rfl (vC 1) (qL 3 nd) (qm (qU (st_w (yc (qY vL (qo (qb 3) qf) (qq qZ (qo (qb 0) qf) (qo (qb 0) qf))) (kI (qY vL (qo (qb 0) qf) (qq qZ (qo (qb 3) qf) (qo (qb 3) qf)))))) (qm (qU (qY (Zn hu) (vj (qc (qo (qb 3) qf) (qc (qo (qb 3) qf) qh))) (vj (qc (qo (qb 0) qf) (qc (qo (qb 0) qf) qh)))) (qm (qaT 2 hu (qc (qo (qb 3) qf) (qc (qo (qb 3) qf) qh)) wa)) qT)) qT))))
 (qm (qA (jD zx A.bl tV (qc (qb 2) qh))))))
def qgK:Q W 1 24 xx:=by
 show fE A 24 ["_law_head_here","_law_marks"] λhr nd hu=>?_
 show(qj (qp 1 nd (ju (qc qO (qc qO (qc qO (qc qO (qc qO qh)))))))
 (qj (qU (qY ZR (qo (qb 0) qf) kE) (qm (qA (qq jB (qo (qb 0) qf) (jW zy A.bl t5 (qc (qo (qb 0) qf) qh))))) qT)
 (qm (qA (qq jB (qq jB (qo (qb 0) qf) (jW zy A.bl t5 (qc (qo (qb 0) qf) qh))) (qo (qb 1) (qq jB (qo (qb 0) qf) qf)))))))
def Wx:Q W 2 25 xy:=by
 show fE A 25 ["thing","low","high"] λhr nd hu=>((qm (qA (ug (cl (Mn A) (rm hr) (qc (qb 0) qh)) (QC (ZF wg wg (qb 1) (qb 0) (qb 2)))))))
def qgL:Q W 2 26 Vz:=by
 show fE A 26 ["pitch","key"] λhr nd hu=>?_
 show(qm (qA (cl (Mp A) (rm hr) (qc (qq jV (qb 1) qf) (qc (qq wc qf (qb 0)) (qc qf qh))))))
def qgM:Q W 2 27 yW:=by
 show fE A 27 ["letter","key"] λhr nd hu=>?_
 show(qm (qA (cl (Mq A) (rm hr) (qc (cl (Mp A) (rm hr) (qc (qq jV (qb 1) qf) (qc (qq jV (Km (gb (A.q 6)) (qb 0)) qf) (qc qf qh)))) qh))))
def qgN:Q W 2 28 uW:=by
 show fE A 28 ["bar","row","voice","event"] λhr nd hu=>?_
 have z:=ndc nd ["head"];show(qj (qp 1 nd (ju qh))
 (qj (zu 0 (jg gQ rfl (vC 0) (qL 2 nd) (qm (zu 2 (jg gQ rfl (vC 2) (qL 3 nd) (qm (qU (qY (zh hu) (qo (qb 3) qf) qO) (qm (uB 1 (zE (n:=1) (apS _ ["head"]) (SI.c (zn (qo (qb 3) qf))) (zd 4) (λ_ _ _ _ _=>(qL 4 z)) (λ_ _ _ _ _=>.nil) λ_ _ _ _ _=>(cl (qgy A) (rm hr) (qc (qb 4) qh))))) qT)))))))
 (qm (zi 1))))
def qgO:Q W 2 29 yX:=by
 show fE A 29 ["steps","clef"] λhr nd hu=>?_
 have z:=ndc nd ["step"];show(qm (qA (jD (qaA rfl) A.bl boot_sum (qc (zE (n:=1) (apS _ ["step"]) (wO 0) (zd 2) (λ_ _ _ _ _=>(qL 2 z)) (λ_ _ _ _ _=>.nil) λ_ _ _ _ _=>(cl (qgz A) (rm hr) (qc (qb 2) (qc (qb 1) qh)))) qh))))
def qgP:Q W 2 30 uX:=by
 show fE A 30 ["one","other"] λhr nd hu=>?_
 show(qm (qA (ug (wM (zh hu) (qo (qb 0) qf) (qo (qb 1) qf)) (ug (wM vL (qo (qb 0) qf) (cl (xS A) (rm hr) (qc (qb 1) qh))) (QC (wM vL (qo (qb 1) qf) (cl (xS A) (rm hr) (qc (qb 0) qh))))))))
def Mu:Q W 2 31 xz:=by
 show fE A 31 ["length"] λhr nd hu=>?_
 have z:=ndc nd ["value"];show(qm (qA (zE (n:=1) (apS _ ["value"]) (SI.c (zn (cl (Ms A) (rm hr) (qc (qb 0) qh)))) (zd 1) (λ_ _ _ _ _=>(qL 1 z)) (λ_ _ _ _ _=>.nil) λ_ _ _ _ _=>(vj (qc qO (qc (qb 1) qh))))))
def qgQ:Q W 2 32 xA:=by
 show fE A 32 ["chord","first","behind","end","row","tick","value"] λhr nd hu=>?_
 show(qj (qp 3 nd (cl (xS A) (rm hr) (qc (qb 0) qh)))
 (qj (qp 4 nd (ju qh))
 (qj (qp 5 nd (qb 1))
 (qj (jg gQ rfl (zn (cl (Ms A) (rm hr) (qc (qq jV (qb 2) (qb 1)) qh))) (qL 6 nd) (qj (kK 5 nd QJ (qb 6))
 (qm (zc 4 (vj (qc qO (qc (qb 6) (qc (qo (qb 0) qf) (qc (wM vL (qb 5) (qb 3)) qh)))))))))
 (qm (zi 4))))))
def qgR:Q W 2 33 yt:=by
 show fE A 33 ["bar","places"] λhr nd hu=>?_
 have z:=ndc nd ["spot"];show(qj (qp 1 nd (qch (zE (n:=1) (apS _ ["spot"]) (SI.c (zn (cl (Mt A) (rm hr) (qc (qb 0) qh)))) (zd 2) (λ_ _ _ _ _=>(qL 2 z)) (λ_ _ _ _ _=>.nil) λ_ _ _ _ _=>(qo (qb 2) qf)) A.bl A.bl))
 (qm (qA (qq qZ (qq qZ (gb (A.q 7)) (qq wc (gb (A.q 8)) (qb 1))) (cl (qgC A) (rm hr) (qc (qb 0) qh))))))
def qgS:Q W 2 34 Jx:=by
 show fE A 34 ["widths","room","best","first"] λhr nd hu=>?_
 show(qj (qU (vA (jL (cl (Mn A) (rm hr) (qc (qb 1) qh)))) (qm wP) qT)
 (qj (Zr (cl (qgD A) (rm hr) (qc (qb 0) (qc (qb 1) qh))))
 (qj (qp 2 nd (qq qbN (ju (qc (vj (qc qf (qc qf qh))) qh)) (jD zx A.bl tV (qc (qb 0) qh))))
 (qj (jg gQ rfl (qbS (qq jV (jD zx A.bl tV (qc (qb 0) qh)) qf) (vE qf) (vE qf) A.bl) (qL 3 nd) (qm (qaQ 2 (qb 3) (jD (qbQ hu rfl) A.bl cq (qc (cl (qgE A) (rm hr) (qc (qb 0) (qc (qb 1) (qc (qb 3) (qc (qb 2) qh))))) qh)))))
 (qm (zi 2))))))
def qgT:Q W 2 35 uY:=by
 show fE A 35 ["meter","many","changes","told","row","length","bar"] λhr nd hu=>?_
 show(qj (qp 2 nd Ys)
 (qj (zu 0 (jg gQ rfl (vC 0) (qL 3 nd) (qm (Yt 2 hu (qo (qb 3) qf) (cl (Ww A) (rm hr) (qc (qb 3) qh))))))
 (qj (qp 4 nd (ju qh))
 (qj (qp 5 nd qf)
 (qj (jg gQ rfl (QG (qb 1) A.bl) (qL 6 nd) (qj (qp 5 nd (qaz (qb 2) (qb 6) (qb 5)))
 (qm (zc 4 (qb 5)))))
 (qm (zi 4)))))))
def qgU:Q W 2 36 Jy:=by
 show fE A 36 ["meter","tick","bar","begin","length","told","told_begin"] λhr nd hu=>?_
 show(qj (qp 2 nd qf)
 (qj (qp 3 nd qf)
 (qj (qp 4 nd qf)
 (qj (zu 0 (jg gQ rfl (vC 0) (qL 5 nd) (qj (qp 6 nd (qq qZ (qb 3) (qq wc (qq jV (qo (qb 5) qf) (qb 2)) (qb 4))))
 (qj (qU (qY vL (qb 1) (qb 6)) (qm Ye) qT)
 (qj (qp 2 nd (qo (qb 5) qf))
 (qj (qp 3 nd (qb 6))
 (qm (qp 4 nd (cl (Ww A) (rm hr) (qc (qb 5) qh))))))))))
 (qm (qA (vj (qc (qq qZ (qb 2) (qq kG (qq jV (qb 1) (qb 3)) (qb 4))) (qc (qq yF (qq jV (qb 1) (qb 3)) (qb 4)) qh)))))))))
def qgV:Q W 2 37 uZ:=by
 show fE A 37 ["voices","tick","number","voice"] λhr nd hu=>?_
 show(qj (jg gQ rfl (xa 0 A.bl) (ye rfl (zP 2 nd (zP 3 nd yd))) (qm (qU (qY wg (cl (xS A) (rm hr) (qc (qo (qb 3) (vE qf)) qh)) (qb 1)) (qm (zi 2)) qT)))
 (qm (qA (jD zx A.bl tV (qc (qb 0) qh)))))
def qgW(z:DatN W.K W.mg "SIGN_WORDS" wY):Q W 2 38 xB:=by
 show fE A 38 ["event","value","heads","tie"] λhr nd hu=>?_
 have B:=ndc nd ["head"];show(qj (qp 1 nd (jW zy A.bl t5 (qc (qo (qb 0) qf) qh)))
 (qj (qU (qY (zh hu) (qo (qb 0) qf) qO) (qm (qA (qq jB qO (qb 1)))) qT)
 (qj (qp 2 nd (xu qO (zE (n:=1) (apS _ ["head"]) (SI.c (zn (qo (qb 0) qf))) (zd 4) (λ_ _ _ _ _=>(qL 4 B)) (λ_ _ _ _ _=>.nil) λ_ _ _ _ _=>(cl (qgH A z) (rm hr) (qc (qb 4) qh)))))
 (qj (qp 3 nd (QD (jL (qo (qb 0) qf)) qO qO))
 (qm (qA (qq jB (qq jB (qq jB (qb 2) qO) (qb 1)) (qb 3))))))))
def qgX:Q W 2 39 Jz:=by
 show fE A 39 ["_law_script"] λhr nd hu=>?_
 show(qm (qA (wM (zh hu) (cl (vf A) (rm hr) (qc (qq qZ (cl (yy A) (rm hr) (qc (qb 0) (qc qf qh))) (qq wc qf (jD zx A.bl tV (qc (qb 0) qh)))) (qc qf (qc qf qh)))) qf)))
def qgY:Q W 2 40 Q0:=by
 show fE A 40 ["_law_cell_here","_law_notes_here","_law_wide_here","_law_start","_law_length","_law_pitch","_law_last","_law_turn"] λhr nd hu=>?_
 show(qj (qp 3 nd (cl (vf A) (rm hr) (qc (qb 0) (qc qf (qc qf qh)))))
 (qj (qp 4 nd (qq qZ qf (cl (vf A) (rm hr) (qc (qb 0) (qc qf (qc qf qh))))))
 (qj (qp 5 nd (qq qZ qf (cl (vf A) (rm hr) (qc (qb 0) (qc qf (qc qf qh))))))
 (qj (qp 6 nd qf)
 (qj (qU (jL (qb 2)) (qj (qp 3 nd (cl (vf A) (rm hr) (qc (qb 0) (qc qf (qc qf qh)))))
 (qj (qp 4 nd (qq qZ qf (cl (vf A) (rm hr) (qc (qb 0) (qc qf (qc qf qh))))))
 (qj (qp 5 nd (cl (vf A) (rm hr) (qc (qb 0) (qc qf (qc qf qh)))))
 (qm (qp 6 nd qf))))) qT)
 (qj (qp 7 nd (cl (vf A) (rm hr) (qc (qb 0) (qc qf (qc qf qh)))))
 (qj (qU (st_w (yc (jL (qb 1)) (kI (qY (zh hu) (qb 7) qf)))) (qj (qp 3 nd (qo (qo (qb 1) (vE qf)) qf))
 (qm (qp 4 nd (qo (qo (qb 1) (vE qf)) qf)))) qT)
 (qj (qU (st_w (yc (jL (qb 1)) (yc (qY (zh hu) (qb 7) qf) (kI (qY wg (qq qZ (qo (qo (qb 1) (vE qf)) qf) (qo (qo (qb 1) (vE qf)) qf)) (qb 6)))))) (qj (qp 3 nd (qq qZ (qo (qo (qb 1) (vE qf)) qf) (qo (qo (qb 1) (vE qf)) qf)))
 (qm (qU (qY (zh hu) (cl (vf A) (rm hr) (qc (qb 0) (qc qf (qc qf qh)))) qf) (qm (qp 5 nd (qo (qo (qb 1) (vE qf)) qf))) qT))) qT)
 (qm (qA (vj (qc (qb 3) (qc (qb 4) (qc (qb 5) qh))))))))))))))
def qgZ:Q W 2 41 JA:=by
 show fE A 41 ["_law_script"] λhr nd hu=>?_
 show(qm (qA (wM (zh hu) (qq yF (cl (yy A) (rm hr) (qc (qb 0) (qc qf qh))) qf) qf)))
def qh0:Q W 2 42 Q1:=by
 show fE A 42 ["_law_cell_here","_law_bar","_law_wide_here","_law_units","_law_least","_law_most","_law_unit","_law_low","_law_high"] λhr nd hu=>?_
 show(qj (qp 3 nd (ju (qc qf (qc qf (qc qf (qc qf (qc qf (qc qf (qc qf qh)))))))))
 (qj (qp 4 nd qf)
 (qj (qp 5 nd qf)
 (qj (qU (jL (qb 2)) (qj (qp 3 nd (ju (qc qf (qc qf (qc qf (qc qf (qc qf qh)))))))
 (qj (qp 4 nd qf)
 (qm (qp 5 nd qf)))) qT)
 (qj (qp 6 nd (qo (qb 3) (cl (vf A) (rm hr) (qc (qb 0) (qc qf (qc (jD zx A.bl tV (qc (qb 3) qh)) qh))))))
 (qj (qp 7 nd (qq kG (qq jV (qq qZ (qb 4) (qb 6)) qf) (qb 6)))
 (qj (qp 8 nd (jD (Yv rfl) A.bl cq (qc qf (qc (qq kG (qb 5) (qb 6)) qh))))
 (qm (qA (vj (qc (qb 1) (qc (qq qZ (qb 7) (cl (vf A) (rm hr) (qc (qb 0) (qc qf (qc (qq qZ (qq jV (qb 8) (qb 7)) qf) qh))))) (qc (qb 6) qh)))))))))))))
def qh1:Q W 2 43 JB:=by
 show fE A 43 ["_law_script"] λhr nd hu=>?_
 show(qm (qA (qq jV (cl (vf A) (rm hr) (qc (cl (yy A) (rm hr) (qc (qb 0) (qc qf qh))) (qc qf (qc qf qh)))) qf)))
def qh2:Q W 2 44 JC:=by
 show fE A 44 ["_law_script","_law_wide_here"] λhr nd hu=>?_
 show(qj (qU (jL (qb 1)) (qm (qA (qq qZ qf (cl (vf A) (rm hr) (qc (cl (yy A) (rm hr) (qc (qb 0) (qc qf qh))) (qc qf (qc qf qh))))))) qT)
 (qm (qA (qq qZ qf (cl (vf A) (rm hr) (qc (cl (yy A) (rm hr) (qc (qb 0) (qc qf qh))) (qc qf (qc qf qh))))))))
def qh3:Q W 2 45 wZ:=by
 show fE A 45 ["_law_event_here","_law_text"] λhr nd hu=>?_
 have z:=ndc nd ["_law_head_here"];show(qj (qU (qY (zh hu) (qo (qb 0) qf) qO) (qm (qA (qq jB qO (jW zy A.bl t5 (qc (qo (qb 0) qf) qh))))) qT)
 (qj (qp 1 nd (qq jB qO (jW zy A.bl t5 (qc (qo (qb 0) qf) qh))))
 (qj (qU (jL (qo (qb 0) qf)) (qm (qp 1 nd (qq jB (qb 1) qO))) qT)
 (qm (qA (qq jB (xu qO (zE (n:=1) (apS _ ["_law_head_here"]) (SI.c (zn (qo (qb 0) qf))) (zd 2) (λ_ _ _ _ _=>(qL 2 z)) (λ_ _ _ _ _=>.nil) λ_ _ _ _ _=>(cl (qgK A) (rm hr) (qc (qb 2) qh)))) (qb 1)))))))
def Mv:Q W 3 46 yu:=by
 show fE A 46 ["thing","bounds","number","bound"] λhr nd hu=>?_
 show(qj (qU (st_w (kJ (vA (jL (ui .tuple (qb 0) A.bl A.bl))) (uf (qY (Zn hu) (jD zx A.bl tV (qc (qb 0) qh)) (jD zx A.bl tV (qc (qb 1) qh)))))) (qm (qA wa)) qT)
 (qj (jg gQ rfl (qbc 0 1 A.bl) (ye rfl (zP 2 nd (zP 3 nd yd))) (qm (qU (vA (jL (cl (Wx A) (rm hr) (qc (qb 2) (qc (qo (qb 3) qf) (qc (qo (qb 3) qf) qh)))))) (qm (qA wa)) qT)))
 (qm (qA wa))))
def qh4:Q W 3 47 JD:=by
 show fE A 47 ["key"] λhr nd hu=>?_
 show(qj (qU (vA (jL (cl (Wx A) (rm hr) (qc (qb 0) (qc (gb (A.q 9)) (qc (gb (A.q 10)) qh)))))) (qm wP) qT)
 (qm (zi 0)))
def qh5:Q W 3 48 Q2:=by
 show fE A 48 ["pitch","key","fifths","letter","alter","octave"] λhr nd hu=>?_
 show(qj (qp 2 nd (cl (qgL A) (rm hr) (qc (qb 0) (qc (qb 1) qh))))
 (qj (qp 3 nd (ZY (gb (A.q 6)) (qq yF (qq qZ (qb 2) qf) qf)))
 (qj (qp 4 nd (cl (Mq A) (rm hr) (qc (qb 2) qh)))
 (qj (qp 5 nd (qq kG (qq jV (qq jV (qb 0) (qa8 (gb (A.q 21)) (qb 3))) (qb 4)) qf))
 (qm (qA (vj (qc (qb 3) (qc (qb 4) (qc (qb 5) qh))))))))))
def qh6:Q W 3 49 Q3:=by
 show fE A 49 ["bars","told","prices","bar","steps"] λhr nd hu=>?_
 have z:=ndc nd ["clef"];show(qj (qp 1 nd (ju qh))
 (qj (qp 2 nd (ju (qc qf (qc qf (qc qf qh)))))
 (qj (jg gQ rfl (qbH 0 A.bl) (qL 3 nd) (qj (qp 4 nd (cl (qgN A) (rm hr) (qc (qb 3) qh)))
 (qj (qp 2 nd (zE (n:=1) (apS _ ["clef"]) (SI.c (zn (gb (A.q 3)))) (zd 5) (λ_ _ _ _ _=>(qL 5 z)) (λ_ _ _ _ _=>.nil) λ_ _ _ _ _=>(qq qZ (cl (qgO A) (rm hr) (qc (qb 4) (qc (qb 5) qh))) (jD (Kn rfl) A.bl cq (qc (cl (Mr A) (rm hr) (qc (qb 2) (qc (qb 5) qh))) qh)))))
 (qm (zu 2 (zc 1 (qb 2)))))))
 (qm (qA (qbi (qb 1) A.bl A.bl))))))
def qh7:Q W 3 50 xC:=by
 show fE A 50 ["notes","at","ahead"] λhr nd hu=>?_
 show(qj (jg gQ rfl (zn (YN (qb 0) qaP (ZQ (qb 1)))) (qL 2 nd) (qm (qU (jL (cl (qgP A) (rm hr) (qc (qb 2) (qc (qo (qb 0) (qb 1)) qh)))) (qm (qA wa)) qT)))
 (qm (qA wa)))
def qh8:Q W 3 51 Q4:=by
 show fE A 51 ["voice","begin","end","row","filled","chord","first","behind"] λhr nd hu=>?_
 show(qj (qp 3 nd (ju qh))
 (qj (qp 4 nd (qb 1))
 (qj (zu 0 (jg gQ rfl (vC 0) (qL 5 nd) (qj (qp 6 nd (jD (Yu rfl) A.bl cX (qc (qo (qb 5) qf) (qc (qb 1) qh))))
 (qj (qp 7 nd (jD (Yv rfl) A.bl cq (qc (cl (xS A) (rm hr) (qc (qb 5) qh)) (qc (qb 2) qh))))
 (qm (qU (qY vL (qb 6) (qb 7)) (qj (uB 3 (cl (Mu A) (rm hr) (qc (qq jV (qb 6) (qb 4)) qh)))
 (qj (uB 3 (cl (qgQ A) (rm hr) (qc (qb 5) (qc (qb 6) (qc (qb 7) qh)))))
 (qm (qp 4 nd (qb 7))))) qT))))))
 (qj (uB 3 (cl (Mu A) (rm hr) (qc (qq jV (qb 2) (qb 4)) qh)))
 (qm (zi 3))))))
def qh9:Q W 3 52 JE:=by
 show fE A 52 ["letter","octave","alters","key"] λhr nd hu=>?_
 show(qm (qA (qct hu (qb 2) (qc (qb 0) (qc (qb 1) qh)) (cl (qgM A) (rm hr) (qc (qb 0) (qc (qb 3) qh))))))
def qha:Q W 3 53 JF:=by
 show fE A 53 ["room"] λhr nd hu=>?_
 show(qj (qU (vA (jL (cl (Wx A) (rm hr) (qc (qb 0) (qc (gb (A.q 11)) (qc (gb (A.q 12)) qh)))))) (qm wP) qT)
 (qm (zi 0)))
def qhb:Q W 3 54 JG:=by
 show fE A 54 ["widths","room","best","row","first"] λhr nd hu=>?_
 show(qj (qp 2 nd (cl (qgS A) (rm hr) (qc (qb 0) (qc (qb 1) qh))))
 (qj (qp 3 nd (ju qh))
 (qj (qp 4 nd qf)
 (qj (Yf 180 gQ (qY vL (qb 4) (jD zx A.bl tV (qc (qb 0) qh))) (qj (zc 3 (qb 4))
 (qm (qp 4 nd (vE (qo (qo (qb 2) (qb 4)) qf))))))
 (qm (zi 3))))))
def qhc:Q W 3 55 xD:=by
 show fE A 55 ["meter","end","last"] λhr nd hu=>?_
 show(qj (qp 2 nd (jD (Yu rfl) A.bl cX (qc (qq jV (qb 1) qf) (qc qf qh))))
 (qm (qA (qq qZ (qo (cl (qgU A) (rm hr) (qc (qb 0) (qc (qb 2) qh))) qf) qf))))
def qhd:Q W 3 56 yY:=by
 show fE A 56 ["row","voices","chord","number"] λhr nd hu=>?_
 show(qj (Ka 1 nd (ju qh))
 (qj (zu 0 (jg gQ rfl (vC 0) (qL 2 nd) (qj (qp 3 nd (K8 1 (cl (qgV A) (rm hr) (qc (qb 1) (qc (qo (qb 2) qf) qh)))))
 (qj (qU (qY (zh hu) (qb 3) (gb (A.q 13))) (qm wP) qT)
 (qj (qU (qY (zh hu) (qb 3) (K8 1 (jD zx A.bl tV (qc (qb 1) qh)))) (qm (qbk 1 (ju qh))) qT)
 (qm (Kb 1 (qb 3) (qb 2))))))))
 (qm (K9 1 (zi 1)))))
def qhe(z:DatN W.K W.mg "SIGN_WORDS" wY):Q W 3 57 yZ:=by
 show fE A 57 ["row"] λhr nd hu=>?_
 have B:=ndc nd ["event"];show(qm (qA (cl (Qp A) (rm hr) (qc qO (qc (zE (n:=1) (apS _ ["event"]) (wO 0) (zd 1) (λ_ _ _ _ _=>(qL 1 B)) (λ_ _ _ _ _=>.nil) λ_ _ _ _ _=>(cl (qgW A z) (rm hr) (qc (qb 1) qh))) qh)))))
def qhf:Q W 3 58 JI:=by
 show fE A 58 ["_law_script","_law_wide_here","_law_most","_law_found","_law_cell_here","_law_note_here"] λhr nd hu=>?_
 show(qj (qp 2 nd qf)
 (qj (qU (jL (cl (qgX A) (rm hr) (qc (qb 0) qh))) (qm (qp 2 nd qf)) qT)
 (qj (qU (qY Zk (jD zx A.bl tV (qc (qb 0) qh)) qf) (qm (qp 2 nd qf)) qT)
 (qj (qp 3 nd (ju qh))
 (qj (jg gQ rfl (zn (YN (qb 0) (ZQ qf) (ZQ (qq qZ qf (qb 2))))) (qL 4 nd) (qj (qp 5 nd (cl (qgY A) (rm hr) (qc (qb 4) (qc (qb 3) (qc (qb 1) qh)))))
 (qm (qU (st_w (yc (jL (cl (qgI A) (rm hr) (qc (qb 5) (qc (qb 3) qh)))) (kI (qY wg (cl (qgJ A) (rm hr) (qc (qb 5) (qc (qb 3) qh))) qf)))) (qm (zc 3 (qb 5))) qT))))
 (qm (zi 3)))))))
def qhg:Q W 3 59 JJ:=by
 show fE A 59 ["_law_script","_law_wide_here","_law_found","_law_bar","_law_k","_law_cell_here"] λhr nd hu=>?_
 show(qj (qp 2 nd (ju qh))
 (qj (qp 3 nd qf)
 (qj (jg gQ rfl (QG (qq qZ qf (qq yF (cl (yy A) (rm hr) (qc (qb 0) (qc qf qh))) qf)) A.bl) (qL 4 nd) (qj (qp 5 nd (qq qZ (cl (yy A) (rm hr) (qc (qb 0) (qc qf qh))) (qq wc qf (cl (yy A) (rm hr) (qc (qb 0) (qc (qq qZ qf (qb 4)) qh))))))
 (qj (zc 2 (cl (qh0 A) (rm hr) (qc (qb 5) (qc (qb 3) (qc (qb 1) qh)))))
 (qm (qp 3 nd (qq qZ (qq qZ (qb 3) qf) (cl (vf A) (rm hr) (qc (qb 5) (qc qf (qc qf qh))))))))))
 (qm (zi 2)))))
def qhh:Q W 3 60 Q5:=by
 show fE A 60 ["_law_sheet","_law_rows_here","_law_some","_law_b","_law_row"] λhr nd hu=>?_
 have z:=ndc nd ["_law_step_here"];have B:=ndc nd ["_law_event_here"];show(qj (qp 1 nd (ju (qc (qq jB qO (jW zy A.bl t5 (qc (qo (qb 0) qf) qh))) qh)))
 (qj (Zz 2 (n:=1) (apS _ ["_law_step_here"]) nd (SI.c (zn (qo (qb 0) qf))) (zd 5) (λ_ _ _ _ _=>(qL 5 z)) (λ_ _ _ _ _=>.nil) λ_ _ _ _ _=>(qq jB (qq jB (qq jB (qq jB (jW zy A.bl t5 (qc (qo (qb 5) qf) qh)) qO) (jW zy A.bl t5 (qc (qo (qb 5) qf) qh))) qO) (jW zy A.bl t5 (qc (qo (qb 5) qf) qh))))
 (qj (zc 1 (xu qO (qq jB (ju (qc qO qh)) (qb 2))))
 (qj (zc 1 (qq jB qO (jW zy A.bl t5 (qc (qo (qb 0) qf) qh))))
 (qj (jg gQ rfl (QG (jD zx A.bl tV (qc (qo (qb 0) qf) qh)) A.bl) (qL 3 nd) (qj (qU (qY (YQ hu) (qb 3) (qo (qb 0) qf)) (qm (zc 1 qO)) qT)
 (qj (zc 1 (qq jB qO (jW zy A.bl t5 (qc (qo (qo (qb 0) qf) (qb 3)) qh))))
 (qm (jg gQ rfl (zn (qo (qo (qb 0) qf) (qb 3))) (qL 4 nd) (qm (zc 1 (xu qO (qq jB (ju (qc qO qh)) (zE (n:=1) (apS _ ["_law_event_here"]) (wO 4) (zd 5) (λ_ _ _ _ _=>(qL 5 B)) (λ_ _ _ _ _=>.nil) λ_ _ _ _ _=>(cl (qh3 A) (rm hr) (qc (qb 5) qh))))))))))))
 (qm (zi 1)))))))
def qhi:Q W 4 61 JK:=by
 show fE A 61 ["bars","row","prices","costs"] λhr nd hu=>?_
 show(qj (qp 1 nd (ju qh))
 (qj (jg gQ rfl (zn (cl (qh6 A) (rm hr) (qc (qb 0) qh))) (qL 2 nd) (qj (qp 3 nd (QD (jL (qb 1)) (cl (Mr A) (rm hr) (qc (qb 2) (qc (qo (qb 1) (vE qf)) qh))) (qb 2)))
 (qm (zc 1 (qbM (qb 3) (jD (Kn rfl) A.bl cq (qc (qb 3) qh)))))))
 (qm (zi 1))))
def qhj:Q W 4 62 Q6:=by
 show fE A 62 ["notes","at","note"] λhr nd hu=>?_
 show(qj (qU (vA (jL (cl (Mo A) (rm hr) (qc (qb 0) (qc qf (qc (gb (A.q 14)) qh)))))) (qm wP) qT)
 (qj (jg gQ rfl (xa 0 A.bl) (ye rfl (zP 1 nd (zP 2 nd yd))) (qm (qU (st_w (kJ (vA (jL (cl (Mv A) (rm hr) (qc (qb 2) (qc (gb (A.q 15)) qh))))) (uf (jL (cl (qh7 A) (rm hr) (qc (qb 0) (qc (qb 1) qh))))))) (qm wP) qT)))
 (qm (qA (jD V9 A.bl dD (qc (qb 0) qh))))))
def qhk:Q W 4 63 xE:=by
 show fE A 63 ["voice","lengths","bars","begin","length"] λhr nd hu=>?_
 show(qj (qp 2 nd (ju qh))
 (qj (qp 3 nd qf)
 (qj (zu 1 (jg gQ rfl (vC 1) (qL 4 nd) (qj (zc 2 (cl (qh8 A) (rm hr) (qc (qb 0) (qc (qb 3) (qc (qq qZ (qb 3) (qb 4)) qh)))))
 (qm (kK 3 nd QJ (qb 4))))))
 (qm (zi 2)))))
def Mw:QI W 4 64 JM:=by
 show fEI A 64 ["pitches","tied","alters","key","heads","pitch","name","letter","octave","sign"] λhr nd hu=>?_
 show(qj (qp 4 nd (ju qh))
 (qj (zu 0 (jg gQ rfl (vC 0) (qL 5 nd) (qj (qp 6 nd (cl (qh5 A) (rm hr) (qc (qb 5) (qc (qb 3) qh))))
 (qj (qp 7 nd (qo (qb 6) qf))
 (qj (qp 8 nd (qo (qb 6) qf))
 (qj (qp 9 nd kE)
 (qj (qU (st_w (yc (qY ZR (qb 1) kE) (kI (qY (Zn hu) (cl (qh9 A) (rm hr) (qc (qb 7) (qc (qb 8) (qc (qck 2) (qc (qb 3) qh))))) (qo (qb 6) qf))))) (qj (qp 9 nd (qo (qb 6) qf))
 (qm (qcn 2 hu (qc (qb 7) (qc (qb 8) qh)) (qb 9)))) qT)
 (qm (zc 4 (vj (qc (qb 7) (qc (qb 8) (qc (qb 9) qh)))))))))))))
 (qm (qcm 2 (jW K5 A.bl boot_tuple (qc (qb 4) qh))))))
def qhl:Q W 4 65 xF:=by
 show fE A 65 ["thing"] λhr nd hu=>?_
 show(qj (qU (st_w (kJ (vA (jL (cl (Mv A) (rm hr) (qc (qb 0) (qc (gb (A.q 16)) qh))))) (uf (qY (qaR hu) (qo (qb 0) qf) (gb (A.q 17)))))) (qm (qA wa)) qT)
 (qm (qA (ZF wg wg (gb (A.q 18)) (cl (Ww A) (rm hr) (qc (qb 0) qh)) (gb (A.q 19))))))
def qhm(z:DatN W.K W.mg "SIGN_WORDS" wY):Q W 4 66 JN:=by
 show fE A 66 ["page","rows","number","bar"] λhr nd hu=>?_
 have B:=ndc nd ["change"];have O:=ndc nd ["voice"];have U:=ndc nd ["row"];show(qj (qp 1 nd (ju (qc (cl (Qp A) (rm hr) (qc qO (qc (ju (qc (jW zy A.bl t5 (qc (qo (qb 0) qf) qh)) qh)) qh))) (qc (cl (Qp A) (rm hr) (qc qO (qc (zE (n:=1) (apS _ ["change"]) (SI.c (zn (qo (qb 0) qf))) (zd 4) (λ_ _ _ _ _=>(qL 4 B)) (λ_ _ _ _ _=>.nil) λ_ _ _ _ _=>(cl (qgG A) (rm hr) (qc (qb 4) qh))) qh))) (qc (cl (Qp A) (rm hr) (qc qO (qc (ju (qc (jW zy A.bl t5 (qc (qo (qb 0) qf) qh)) qh)) qh))) qh)))))
 (qj (jg gQ rfl (qbw (qo (qb 0) qf) A.bl) (ye rfl (zP 2 nd (zP 3 nd yd))) (qj (qU (qY (YQ hu) (qb 2) (qo (qb 0) qf)) (qm (zc 1 qO)) qT)
 (qj (zc 1 (cl (Qp A) (rm hr) (qc qO (qc (ju (qc (jW zy A.bl t5 (qc (qo (qo (qb 0) qf) (qb 2)) qh)) qh)) qh))))
 (qm (uB 1 (zE (n:=1) (apS _ ["voice"]) (wO 3) (zd 4) (λ_ _ _ _ _=>(qL 4 O)) (λ_ _ _ _ _=>.nil) λ_ _ _ _ _=>(cl (qhe A z) (rm hr) (qc (qb 4) qh))))))))
 (qm (qA (xu qO (zE (n:=1) (apS _ ["row"]) (wO 1) (zd 4) (λ_ _ _ _ _=>(qL 4 U)) (λ_ _ _ _ _=>.nil) λ_ _ _ _ _=>(qq jB (qb 4) qO)))))))
def qhn:Q W 5 67 xG:=by
 show fE A 67 ["bars","key","turn","told","ahead","bar","alters","rows","spot","voice","event","tied"] λhr nd hu=>?_
 let⟨_,_,Mx,xT⟩:=id (Mw A);have z:=ndc nd ["row"];show(qj (qp 3 nd (ju qh))
 (qj (qp 4 nd Ys)
 (qj (zu 0 (jg gQ rfl (vC 0) (qL 5 nd) (qj (qp 6 nd ZE)
 (qj (qbF 7 (n:=1) (apS _ ["row"]) (λ_ _=>qbD _ _ _) nd (wO 5) (zd 12) (λ_ _ _ _ _=>(qL 12 z)) λ_ _ _ _ _=>(ju qh))
 (qj (jg gQ rfl (zn (cl (Mt A) (rm hr) (qc (qb 5) qh))) (qL 8 nd) (qj (qp 9 nd (qo (qb 8) qf))
 (qj (qp 10 nd (qo (qo (qb 5) (qb 9)) (qo (qb 8) qf)))
 (qj (qU (qY (zh hu) (qo (qb 10) qf) qO) (qj (qp 11 nd (cl (qgB A) (rm hr) (qc (qcu (qb 4) (qb 9)) qh)))
 (qm (qcy 10 nd (qcx (Ve qO (Ve (qo (qb 10) qf) (qcw (qcs 2 Mx (rm hr) xT.2 xT.3 xT.4 (KF (qo (qb 10) qf) (KF (qb 11) (qco 6 (qc (qb 1) qh))))) (Ve (qo (qb 10) qf) qcv)))))))) qT)
 (qj (Kb 7 (qb 9) (qb 10))
 (qm (Yt 4 hu (qb 9) (qb 10))))))))
 (qm (K9 7 (zu 7 (zc 3 (qb 7))))))))))
 (qm (zi 3)))))
def qho:Q W 5 68 JO:=by
 show fE A 68 ["meter","at","told"] λhr nd hu=>?_
 show(qj (qU (vA (jL (cl (Mo A) (rm hr) (qc (qb 0) (qc qf (qc (gb (A.q 20)) qh)))))) (qm wP) qT)
 (qj (jg gQ rfl (xa 0 A.bl) (ye rfl (zP 1 nd (zP 2 nd yd))) (qm (qU (st_w (kJ (vA (jL (cl (qhl A) (rm hr) (qc (qb 2) qh)))) (uf (vA (jL (cl (qgF A) (rm hr) (qc (qb 0) (qc (qb 1) qh)))))))) (qm wP) qT)))
 (qm (qA (jW Yb A.bl dR (qc (qb 0) qh))))))
def qhp:Q W 5 69 VD:=by
 show fE A 69 ["notes","meter","end","lengths","voices","bars","number"] λhr nd hu=>?_
 have B:=ndc nd ["note"];have z:=ndc nd ["voice"];show(qj (qp 2 nd (qb2 (zE (n:=1) (apS _ ["note"]) (wO 0) (zd 7) (λ_ _ _ _ _=>(qL 7 B)) (λ_ _ _ _ _=>.nil) λ_ _ _ _ _=>(cl (xS A) (rm hr) (qc (qb 7) qh))) qf A.bl))
 (qj (qp 3 nd (cl (qgT A) (rm hr) (qc (qb 1) (qc (cl (qhc A) (rm hr) (qc (qb 1) (qc (qb 2) qh))) qh))))
 (qj (Zz 4 (n:=1) (apS _ ["voice"]) nd (SI.c (zn (cl (qhd A) (rm hr) (qc (cl (qgA A) (rm hr) (qc (qb 0) qh)) qh)))) (zd 7) (λ_ _ _ _ _=>(qL 7 z)) (λ_ _ _ _ _=>.nil) λ_ _ _ _ _=>(cl (qhk A) (rm hr) (qc (qb 7) (qc (qb 3) qh))))
 (qj (qp 5 nd (ju qh))
 (qj (jg gQ rfl (QG (jD zx A.bl tV (qc (qb 3) qh)) A.bl) (qL 6 nd) (qm (zc 5 (zE (n:=1) (apS _ ["voice"]) (wO 4) (zd 7) (λ_ _ _ _ _=>(qL 7 z)) (λ_ _ _ _ _=>.nil) λ_ _ _ _ _=>(qo (qb 7) (qb 6))))))
 (qm (zi 5)))))))
def qhq:Q W 6 70 JP:=by
 show fE A 70 ["bars","key"] λhr nd hu=>?_
 let⟨_,_,Mx,xT⟩:=id (Mw A);show(qm (qA (cl (qhn A) (rm hr) (qc (qb 0) (qc (qb 1) (qc (KG xT.1 xT.4) qh))))))
def qhr:Q W 7 71 JQ:=by
 show fE A 71 ["notes","key","meter","room","told_meter","told_notes","bars","widths"] λhr nd hu=>?_
 have z:=ndc nd ["bar"];show(qj (Zr (cl (qh4 A) (rm hr) (qc (qb 1) qh)))
 (qj (qp 4 nd (cl (qho A) (rm hr) (qc (qb 2) qh)))
 (qj (qp 5 nd (cl (qhj A) (rm hr) (qc (qb 0) qh)))
 (qj (Zr (cl (qha A) (rm hr) (qc (qb 3) qh)))
 (qj (qp 6 nd (cl (qhq A) (rm hr) (qc (cl (qhp A) (rm hr) (qc (qb 5) (qc (qb 4) qh))) (qc (qb 1) qh))))
 (qj (Zz 7 (n:=1) (apS _ ["bar"]) nd (wO 6) (zd 8) (λ_ _ _ _ _=>(qL 8 z)) (λ_ _ _ _ _=>.nil) λ_ _ _ _ _=>(cl (qgR A) (rm hr) (qc (qb 8) qh)))
 (qm (zu 7 (zu 6 (zu 4 (qA (vj (qc (qb 1) (qc (qb 4) (qc (qb 3) (qc (cl (qhi A) (rm hr) (qc (qb 6) qh)) (qc (cl (qhb A) (rm hr) (qc (qb 7) (qc (qb 3) qh))) (qc (qb 6) qh))))))))))))))))))
def qhs(z:DatN W.K W.mg "SIGN_WORDS" wY){f:Addr}{fd:FuncData}(F:Fun W.K "law" "law" XN f fd) :
  FnOk W.P W.w W.K W.mg W.base CX0 8 f fd ["_law_script"] (spD #[W.P,W.w,W.K] xH 1):=by
 show fEL F ["_law_script","_law_wide_here","_law_notes_here","_law_sheet","_law_found","_law_due","_law_row"] λhr nd hu=>?_
 show(qj (qp 1 nd (cl (qgZ A) (rm hr) (qc (qb 0) qh)))
 (qj (qp 2 nd (cl (qhf A) (rm hr) (qc (qb 0) (qc (qb 1) qh))))
 (qj (qp 3 nd (cl (qhr A) (rm hr) (qc (jW Yb A.bl dR (qc (qb 2) qh)) (qc (cl (qh1 A) (rm hr) (qc (qb 0) qh)) (qc (cl (qhg A) (rm hr) (qc (qb 0) (qc (qb 1) qh))) (qc (cl (qh2 A) (rm hr) (qc (qb 0) (qc (qb 1) qh))) qh))))))
 (qj (qp 4 nd (cl (qhm A z) (rm hr) (qc (qb 3) qh)))
 (qj (qU (vA (jL (ui .str (qb 4) A.bl A.bl))) (qm (qA wa)) qT)
 (qj (qp 5 nd qO)
 (qj (jg gQ rfl (zn (cl (qhh A) (rm hr) (qc (qb 3) qh))) (qL 6 nd) (qm (qp 5 nd (qq jB (qq jB (qb 5) (qb 6)) qO))))
 (qm (qA (wM (zh hu) (qb 4) (qb 5)))))))))))
end
def qht{l:PySem.W.OpenLaw}{w:World}{K:Frag}{h:Heap}{mg:Str->Option aa}{fa:Addr}(X:K.In h)(G:h.Ns mainGlobals mg)(B:mg "law"=!(.ref fa))
  {O:Addr}{U:Addr}(L:FunE K "law" XN)(E:∀ p∈FS,FunE K p.1 p.2)(Z:∀ x∈BL,nsIn K mainGlobals x=!none)(V:∀ p∈C0S,DatE K p.1 p.2)(Y:nsIn K mainGlobals "PITCHES"=!(!(.ref O)))(Wz:DatS w K O KN)(WA:nsIn K mainGlobals "SIGN_WORDS"=!(!(.ref U)))(z:DatN0 K U wY) :
  ∃ fd:FuncData,(∀(s:ab) (v:aa),BindsTo s fd #[[v],[]] [("_law_script",v)])/\∀ base:Heap,K.In base->base.Ns mainGlobals mg->FnOk l.prog w K mg base CX0 8 fa fd ["_law_script"] (spD #[l.prog,w,K] xH 1) :=
 qcC X G B L (λ_ _ _ _ _ _ _ _=>.of_eq rfl) λbase _ _ F=>qhs (W:=#[l.prog,w,K,mg,base]) #[#[h,X,G],E,Z,λp hp=>(gE.mp hp).elim (λq=>qcA X G (V p q)) ((all1 (P:=λp:Str×D=>CC l.prog w K mg p.1 p.2) (qcB X G Y Wz) all0) p)] (z.mg WA X G) F
def walk{l:PySem.W.OpenLaw}{q:af}{B:List Str}{Y:(Str->Option aa)->Heap->Prop}{U:World->Heap->Prop}{d:DefRec}{K:Params->Frag}(Z:l.most=!63)(O:d.params.defaults=[])
  (hY:∀ w h,U w h->(K w.params).In h)
  (F:∀ w mg fa h,(K w.params).In h->h.Ns mainGlobals mg->mg d.name=↑(.ref fa) ->
   ∃ fd,(∀ s u,BindsTo s fd #[[u],[]] [("_law_script",u)])/\∀ base,(K w.params).In base->base.Ns mainGlobals mg->FnOk l.prog w (K w.params) mg base CX0 8 fa fd ["_law_script"] (spD #[l.prog,w,K w.params] xH 1)) :
  PySem.W.WalkO q B Y U l.row.toRowW d [] (λf vs=>PySem.call f vs) :=
 L2.qa1 Z "d" O #[rfl,by decide,by decide] hY F (λw H a ns hl _ hS=>qaj xH ns hS (qgx ns hl)) λ_ _ _ _ _ z=>z
end My
end
open PySem PySem.W PyProof.Rows
set_option maxRecDepth 100000 in
set_option maxHeartbeats 0 in
theorem PySem.Challenge.cw_stavemill_k34_pages_are_written_holds : PySem.Challenge.rw_stavemill_k34_pages_are_written.Holds := by
 w_on; o_law; k_head; (case hw=>w_witness2)
 k_fill
 refine My.walk (l:=PySem.Challenge.rw_stavemill_k34_pages_are_written) rfl rfl (fun w h Y=>kIn_of Y) ?F
 case F =>
  intro w mg fa h KX G hmg
  refine' My.qht KX G hmg ?L ?E ?Z ?V ?Wy ?Wz ?WA ?SN_SIGN_WORDS
  (case L=>(refine' .mk ?a ?l ?c ?k; (case a=>k_is); (case l=>k_is); (case c=>k_is); (case k=>k_is)))
  (case E=>(repeat' refine L3.all1 ?_ ?_); all_goals first|exact L3.all0|(dsimp only; (refine' .mk ?a ?l ?c ?k; (case a=>k_is); (case l=>k_is); (case c=>k_is); (case k=>k_is))))
  (case Z=>(repeat' refine L3.all1 ?_ ?_); all_goals first|exact L3.all0|k_is)
  (case V=>(repeat' refine L3.all1 ?_ ?_); all_goals first|exact L3.all0|(dsimp only; refine' .mk ?a ?d; (case a=>k_is); (case d=>kernel_rfl)))
  (case Wy=>k_is)
  (case Wz=>refine ⟨?o,?es,?ep,?lk,?dt,?cl,?nd,?en⟩; (case lk=>exact rfl); (case dt=>rfl); (case cl=>kernel_rfl); (case nd=>decide +kernel); (case en=>exact .cons rfl rfl rfl (.cons rfl rfl rfl (.cons rfl rfl rfl (.cons rfl rfl rfl (.cons rfl rfl rfl (.cons rfl rfl rfl (.cons rfl rfl rfl (.nil)))))))))
  (case WA=>k_is)
  (case SN_SIGN_WORDS=>refine ⟨?so,?ss,?sp,?sl,?sd,?sc,?se⟩; (case sl=>exact rfl); (case sd=>rfl); (case sc=>kernel_rfl); (case se=>exact .cons rfl rfl rfl (.cons rfl rfl rfl (.cons rfl rfl rfl (.cons rfl rfl rfl (.cons rfl rfl rfl (.cons rfl rfl rfl (.nil))))))))
#print axioms PySem.Challenge.cw_stavemill_k34_pages_are_written_holds