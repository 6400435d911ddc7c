import PyProof.Rows.All
import Wide.All
import OpenK.AllK
import Wide.FinOn
import Lean
import PyProof.EqAt
import PyProof.EqKinds
import PyProof.TupleCall
import PyProof.P3In
import PyProof.NeData
import PyProof.MaxThree
import PySem.Challenge.RW_stavemill_k41_a_page_by_its_parts
set_option compiler.extract_closed false
set_option bootstrap.genMatcherCode false
set_option genSizeOf false
local macro_rules(kind:=Lean.Parser.Command.declaration)|s=>do
 if (s[1].isOfKind ``Lean.Parser.Command.definition||s[1].isOfKind ``Lean.Parser.Command.abbrev)&&s[0].getArgs.all (·.isNone) then return s.setArg 0 (<-`(command|noncomputable def x:=0)).raw[0] else Lean.Macro.throwUnsupported
set_option Elab.async false
set_option linter.all false
set_option maxRecDepth 100000
local macro_rules | `(tactic| trivial) => `(tactic| first | exact True.intro | exact Or.inl rfl | exact Or.inr rfl | exact Or.inr (Or.inl rfl) | exact Or.inr (Or.inr rfl) | exact ⟨rfl, by trivial, by decide, by decide⟩)
set_option Elab.async false
set_option linter.all false
set_option maxRecDepth 100000
set_option maxHeartbeats 4000000
noncomputable section
def t7:=@decide_eq_false
def tG:=@decide_eq_true
def px:=@beq_eq_false_iff_ne
def pE:=@getElem?_pos
def cA:=@if_false
def dB:=@if_true
def bY:=@not_false_eq_true
def m8:=@or_false
open PySem renaming wpAny_bind->g6,wpAny_pure->gu,boot_len->tN,wpAny_newObj_type->tV,wpAny_Call_Name_kw->fC,wpAny_seqItems->fG,wpAny_callSpecial?_slot->fL,wpAny_holding->fT,wpAny_field->p6,wpAny_call_entry->pj,sizeLine_eq->pG,wpAny_truthy_bool->pQ,wpAny_letGo->pS,wpAny_rule->pV,plainId_quiet->cj,wpAny_setField_rec->cq,wpAny_mono->cB,wpAny_passesOwn->cC,wpAny_updateSeq->cH,mem_of_lookup->cO,wpAny_typeNameOfWhole_keyiter->cR,wpAny_tryCatch->cV,wpAny_typeNameOf_keyiter->dG,tupleKind_room_in1->dP,codeAny_builtin->dR,wpAny_dictEntries->b9,wpAny_setField->bi,call_meetsIn->bm,wpAny_isOneOf_keyiter->bq,wpAny_updateSeq_pair->bw,wpAny_pyIter_revIter->bx,typeIs_int->bz,wpAny_execs_nil->bB,wpAny_Tuple_spliced->bC,wpAny_pyIter_tuple->bI,wpAny_Return_some->bS,wpAny_assign_Name->bT,call_meets->bV,wpAny_Call_method->bW,wpAny_Assign_Name->bX,wpAny_standAt->bZ,wpAny_attempt->m9,wpAny_onRaise->mf
open List renaming length_map->gg,mem_cons_of_mem->gj,getElem?_eq_some_iff->gp,mem_cons->gy,mem_append->gC,length_append->gD,getElem?_eq_getElem->gE,getElem?_map->gG,mem_map->gH,length_cons->gJ,map_cons->gN,size_toArray->gP,pairwise_append->gU,getElem?_set_ne->gW,map_map->h9,getElem?_append_right->hE,getD_eq_getElem?_getD->hU,mem_of_getElem?->hX,getElem?_append_left->t3,append_assoc->t5,mem_cons_self->t8,mem_append_left->tj,mem_append_right->tm,map_congr_left->tq,map_append->tu,mem_iff_getElem->tB,length_take->tD,nodup_cons->tF,append_nil->tQ,take_append_drop->tR,flatten_cons->tS,take_of_length_le->tU,all_eq_true->tW,mem_singleton->tY,pairwise_iff_getElem->tZ,length_eq_zero_iff->fj,filter_cons_of_pos->fm,nodup_append->fq,pairwise_map->fw,mem_of_mem_take->fy,mem_of_mem_drop->fA,pairwise_cons->fF,getElem_mem->fH,getElem?_replicate->fJ,set_cons_zero->fO,set_cons_succ->fP,filter_eq_nil_iff->fQ,length_nil->fR,drop_eq_getElem_cons->fS,all_cons->fU,length_singleton->fW,length_range->fZ,foldl_cons->p9,pairwise_singleton->pf,length_drop->pi,drop_of_length_le->pt,getLast?_eq_none_iff->pB,nil_append->pF,lookup_cons->pH,not_mem_nil->pJ,filter_cons_of_neg->pK,sum_cons->pN,map_nil->pY,countP_append->c9,getElem?_take->cg,filter_append->cw,find?_eq_none->cy,ext_getElem?->cG,range_succ->cK,getElem?_cons_succ->cQ,drop_append_of_le_length->cT,take_append_of_le_length->cU,find?_cons->d6,mem_of_getLast?->dj,mem_range->dm,drop_length->du,take_length->dz,replicate_succ->dC,getElem?_range->dD,reverse_append->dE,filter_eq_self->dF,mem_filter->dM,length_set->dN,any_cons->dO,find?_cons_of_neg->b7,range_succ_eq_map->b8,getLast?_map->bg,take_take->bj,zipIdx_cons->bu,filterMap_cons->bA,forIn_cons->bD,sum_append->bF,length_reverse->bH,zip_cons_cons->bJ,set_set->bK,findIdx?_cons->bN,nodup_nil->bP,take_zero->bR,reverse_cons->bU
open PySem.Heap renaming get?_push_of_some->gq,lt_size->gK,get?_push_size->gM,get?_update_other->tM,get?_update_self->f9,size_push->pO,get?_push_ne->cJ,size_update->dA
open Nat renaming le_refl->gw,ne_of_lt->hV,lt_of_lt_of_le->t4,zero_le->tJ,le_trans->f8,lt_irrefl->fB,ne_of_gt->fV,lt_succ_of_lt->fY,le_of_lt->pC,zero_add->pP,lt_trans->pZ,min_eq_left->cI,lt_succ_self->dq,le_succ->bE,lt_or_ge->bL
open PySem.PassesOwn renaming never->gQ
open Bool renaming and_eq_true->gZ,false_eq_true->tX,false_ne_true->pX,true_and->de,false_and->bO
open PySem.Calls renaming spliced_cons->hZ,spliced_nil->tL,callWith_builtin->cW,evalArgs_plain->dg
open Ne renaming symm->tf
open PyProof.Rows renaming callWith_type1->tw,boot_min->cz,slot_tuple_getitem->cD,callWith_builtin1->cL,boot_list->cY,boot_max->d7,boot_sorted->dI,boot_tuple->dX,wpS_get->bQ,wpS_lift->mm
open Int renaming mul_le_mul_of_nonneg_right->tK,toNat_natCast->fK,le_refl->pI,eq_ofNat_of_zero_le->pL,mul_ediv_add_emod->cx,le_of_lt->cM,emod_nonneg->dW,ediv_nonneg->bG,emod_lt_of_pos->bM
open Option.some renaming inj->tP
open Array renaming toList_append->tT,perm_iff_toList_perm->fN,length_toList->pz,toList_push->d9,toList_reverse->dh,getElem?_eq_none->dY
open PySem.F renaming slot_dict_get->fX,plainAttrs_list->p7,slot_tuple_iterator_next->po,plain_min_loop->pp,plain_max_loop->pT,slot_dict_keyiterator_next->pU,slot_list_append->cE,type_list_append->cF,plainAttrs_dict->cP,entry_dict_get->cX,slot_zip_next->d8,args_tuple_iterator_next_1->dJ,args_dict_get_3->dQ,entry_tuple_iterator_next->dS,entry_min_loop->dZ,type_dict_get->bn
open PySem.Heap.SameBut renaming update->pA
open PySem.W renaming kia_one->pR,mg_of->mi
open Option renaming bind_some->pW,map_eq_some_iff->cZ
open List.Perm renaming append_left->cu
open List.Pairwise renaming imp_of_mem->dH
open PySem.Paired renaming length->dL
open PySem.Obj renaming data_mapFields->dU
open PySem.Around renaming under_plainId->bv
open PySem.W(methodObj Frag cellsFrom_some codeIn keepIn nsIn callWith_K kitOne kitx_dict tailIn kIn_of)
open Nat(ble ble_eq sub_self add_zero add_assoc reduceAdd)
open PySem(KeysOf Pairs)
open PyProof.Rows(neg_int listMul_foldl_if boot_sum)
open PySem renaming Value→aa,Shared→ab,Program→af,Around→ag
open PyProof.Rows renaming Keyed→aj,SortSt→am
local macro_rules|`(↑$x)=>`(some $x)
def rF(_:True:=by rfl):=True
def rT(_:True:=by trivial):=True
def rD(_:True:=by decide):=True
set_option hygiene false
local macro_rules
|`($x["r"])=>`(autoParam $x rF._auto_1)
|`($x["t"])=>`(autoParam $x rT._auto_1)
|`($x["d"])=>`(autoParam $x rD._auto_1)
|`($x[0])=>`(($x).heap.objs.size)
|`($x[1])=>`(($x).length)
|`($x[2])=>`(($x).toList)
|`($x[3])=>`(wpAny (model ($x).prog ($x).w) ($x).A)
|`($x[5])=>`(eC (.int $x))
|`($x[6])=>`(.int $x)
|`($x[7])=>`(.fz (.int $x))
|`($x[8])=>`(.fz $x)
|`($x[9])=>`(.ow $x)
|`($x[""])=>`(by simpa using $x)
local macro_rules
|`("")=>`(by lia)
|`("s")=>`(by simp)
|`("d")=>`(by decide)
|`("I")=>`(Inv X pins σ)
|`("S")=>`(SE X F0 H0)
set_option hygiene true
local macro_rules
|`(#[$x])=>`(⟨$x⟩)
|`(#[$x,$xs,*])=>`(⟨$x,$xs,*⟩)
|`(!$x)=>`(some $x)
namespace PySem.W.Fast
def tw1280582921033775518:=0
def tw6377626095007898958:=0
def tw14121094086958500799:=0
def tw15881323833581719256:=0
def tw16354077671691831405:=0
def tw4639670495386508411:=0
def tw12892383441701027733:=0
def tw14549063396191129491:=0
def tw622923748882815363:=0
def tw1301268491064008515:=0
def tw3410889026980827308:=0
def tw1240968357819301049:=0
def tw2911841079193659743:=0
def tw12149026900958637788:=0
def tw14039659739747036077:=0
def tw2662201597456090058:=0
def tw7878326286756331312:=0
def tw6301870447890717216:=0
def tw15410440403107281446:=0
def tw8818485463313563037:=0
def tw6730527245080462611:=0
def tw3023530478633798933:=0
def tw5158932418588772171:=0
def tw14580231126939488890:=0
def tw8607348109218229415:=0
def tw12330704023664138691:=0
def tw7397352781841090189:=0
def tw9005796853904626407:=0
def tw10497795211796615695:=0
def tw6128037869238559535:=0
def tw2824365801094268611:=0
def tw8931911875482398177:=0
def tw7637160158993385181:=0
def tw11374319622353458028:=0
def tw15005400459889212614:=0
def tw1605899359341129094:=0
def tw5705506623146865361:=0
def tw8400312122863807011:=0
def tw12443442708144058090:=0
def tw1437928768571113480:=0
def tw12910638344850305839:=0
def tw12073814243403292048:=0
def tw4991026187604114751:=0
def tw701505722922906344:=0
def tw13696277337639540956:=0
def tw16982343988263018604:=0
def tw1047763113098978111:=0
def tw12936907136437786481:=0
def tw14850967920816361797:=0
def tw5558854980345814603:=0
def tw7577715279961833678:=0
def tw1832991443219097952:=0
def tw15307210934194665938:=0
def tw8115590074883936863:=0
def tw7541117662786039089:=0
def tw1607032875670933223:=0
def tw3739152111366895954:=0
def tw9395823022989198152:=0
def tw15419047276565060119:=0
def tw913431117599500775:=0
def tw390838155891251892:=0
def tw16311080779284589010:=0
def tw2109733160157438154:=0
def tw11027557014088252943:=0
def tw1314884926570103376:=0
def tw4182639262886362691:=0
def tw18063765567280194015:=0
def tw11719244205736160565:=0
def tw11419289230747834228:=0
def tw15481444289455932311:=0
def tw3712250775341788322:=0
def tw15834413518473019462:=0
def tw17781812356317713471:=0
def tw4782271446639114767:=0
def tw2071307327873435121:=0
def tw84627501309200118:=0
def tw2580291615460399116:=0
def tw3720119851297132302:=0
def tw15870720803222344294:=0
def tw13585649771080212717:=0
def tw15317634460366899003:=0
def tw1199672683199314920:=0
def tw12874051009239707768:=0
def tw471457364191316915:=0
def tw11725898588798923603:=0
def tw3270111097223093802:=0
def tw16985719045997736166:=0
def tw17795034341225860656:=0
def tw13159380730363960522:=0
def tw13170682131910882708:=0
def tw11667437479019334062:=0
def tw4169737084863447962:=0
def tw9123670802175445802:=0
def tw2965434851729658475:=0
def tw13008339359053931790:=0
def tw3303355295440060755:=0
def tw17541244521903629531:=0
def tw11462397710734915192:=0
def tw1595958869976192312:=0
def tw15628809850638157745:=0
def tw15441059289253257653:=0
def tw700606821876016845:=0
def tw2365638041251792759:=0
def tw9597537556980215247:=0
def tw8451680320512500862:=0
def tw5202870201832592220:=0
def tw6979432309604483837:=0
def tw3026679157396605418:=0
def tw13908004972644697207:=0
def tw9143662928949726729:=0
def tw3397121715532402306:=0
def tw15755901344823741050:=0
def tw9345609656044231258:=0
def tw5255745082155660430:=0
def tw14841483453296417352:=0
def tw7950698499597991833:=0
def tw6131490380063698603:=0
def tw4958672362740882402:=0
def tw15374242047102605589:=0
def tw8668637178826185476:=0
def tw13372223415207446707:=0
def tw2961547975105711856:=0
def tw5484998504800439955:=0
def tw1345682319143739052:=0
def tw2314861166397944547:=0
def tw2845489176168908970:=0
def tw17834368009220363477:=0
def tw9419705863748647484:=0
def tw10286210942373770244:=0
def tw1865625560685534045:=0
def tw17996868931044108749:=0
def tw16293986315221011843:=0
def tw18140386142640472868:=0
def tw1398532300691698983:=0
def tw5094712618763497189:=0
def tw12830231603218169210:=0
def tw10101160805890587412:=0
def tw7464413559935527391:=0
def tw184491779873443710:=0
def tw16958073159591211290:=0
def tw7977789812604290812:=0
def tw7854012188258951526:=0
def tw14964254161317470923:=0
def tw15065453434773419432:=0
def tw16249434429878585448:=0
def tw4859963009882753138:=0
def tw9703578517568833798:=0
def tw1313121914106614618:=0
def tw13757576335455731028:=0
def tw9130938470932672707:=0
def tw8545598075247488178:=0
def tw4734856653662167127:=0
def tw10515572380073086244:=0
def tw13716817832256367510:=0
def tw10564093534477615886:=0
def tw8539747302199393129:=0
def tw11882896662668071996:=0
def tw17469302154548969271:=0
def tw7637226984573688424:=0
def tw9174000110650204360:=0
def tw7360764822319712570:=0
def tw12210508916943115373:=0
def tw12681150180031564653:=0
def tw8635241997562545187:=0
def tw12199749465842969607:=0
def tw15269474999565471741:=0
def tw5958475253593873907:=0
def tw10824379905949088280:=0
def tw6355720522712467145:=0
def tw5698615183343172558:=0
def tw2870773837488326011:=0
def tw16394606175538135955:=0
def tw12670597598506083323:=0
def tw9951254782839658213:=0
def tw177052717728514769:=0
def tw6405441976198420625:=0
def tw14340314170802976364:=0
def tw15749527130510120067:=0
def tw12199005590313649859:=0
def tw2836867997750041158:=0
def tw4145040475592421268:=0
def tw5691503340170960029:=0
def tw2802727695567434074:=0
def tw15249488065574287689:=0
def tw14282399309915709175:=0
def tw16128829564008003454:=0
def tw15161403987874493481:=0
def tw3249804641511442492:=0
def tw8725284744808757806:=0
def tw9533151773394456429:=0
def tw1476162382281584162:=0
def tw10557956773824283689:=0
def tw7273056643722548180:=0
def tw9701312963579352239:=0
def tw2353187756619292562:=0
def tw7229524421151018372:=0
def tw599533203238115440:=0
def tw7918468623844667251:=0
def tw14413539560540881092:=0
def tw14341018580571920524:=0
def tw3825903287390777970:=0
def tw6725891525831413276:=0
def tw5361585211148477140:=0
def tw30955142202811357:=0
def tw17387919407815238425:=0
def tw7898828286546852431:=0
def tw949519040858546619:=0
def tw17746582657315248353:=0
def tw11083323403041236729:=0
def tw14392394256469063438:=0
def tw6050448336719535484:=0
def tw14154010081918176000:=0
def tw7440874683339919797:=0
def tw12833823458341059480:=0
def tw2776181979790846517:=0
def tw805586507425357096:=0
def tw7185640388828538745:=0
def tw17197792257025851481:=0
def tw17176105256212244672:=0
def tw4758914561489461010:=0
def tw3180218723355862410:=0
def tw11986992519758704288:=0
def tw504533753120866898:=0
def tw17696654857012786473:=0
def tw3397571108698980583:=0
def tw2361092154877960797:=0
def tw16941655937147222660:=0
def tw15615764772391840796:=0
def tw10697135408226995170:=0
def tw12812211625211398279:=0
def tw10005832888132741044:=0
def tw6356254353895007939:=0
def tw6166517838508502337:=0
def tw5754618155228468207:=0
def tw5562417737921976291:=0
def tw16034646265412889900:=0
def tw13698270679188031703:=0
def tw16246810738834935138:=0
def tw14487580862074854510:=0
def tw17339440386805137691:=0
def tw7585214457455514971:=0
def tw6778578886202040625:=0
def tw10421736560212762138:=0
def tw5774314273689337546:=0
def tw8665177105191658668:=0
def tw11855540411262493479:=0
def tw3046024073758235995:=0
def tw13557714431363353493:=0
def tw5850560758734459980:=0
def tw14152272843468963285:=0
def tw9211570523527779589:=0
def tw8554994856871869652:=0
def tw13345252014616302447:=0
def tw6624801808392018347:=0
def tw4525725827440295277:=0
def tw16593597471697822095:=0
def tw15512117204416357689:=0
def tw10700666678800484357:=0
def tw4869177325259522047:=0
def tw14684369114272092825:=0
def tw9023821707431743298:=0
def tw5148638307954492674:=0
def tw14974275182326355771:=0
def tw7786647174386249221:=0
def tw12717970378452031984:=0
def tw14978571453056412820:=0
def tw3974843387710368904:=0
def tw12101602755239040276:=0
def tw12869003581233500442:=0
def tw17798247203512733149:=0
def tw509044639612087054:=0
def tw8712281151693972786:=0
def tw6786080086569347390:=0
def tw4390753444374496131:=0
def tw4063063982232460576:=0
def tw2102585221604815778:=0
def tw12414329033261847950:=0
def tw3389123911731094451:=0
end PySem.W.Fast
namespace L2
open PySem PySem.Spec PyProof.Rows
abbrev Key:=Sum Int Str
def kq:Key->aa->Bool
 | .inl k,v=>Value.isInt k v
 | .inr x,v=>Value.isStrOf x v
def Gz(w:World):Key->Int
 | .inl k=>hashInt k
 | .inr x=>hashStr w x
theorem vT:∀{k} {v},kq k v=true->(∃ i t,k=Sum.inl i/\v=Value.int i t)\/(∃ x t,k=Sum.inr x/\v=Value.str x t)
 | .inl i,v,h=>by
  obtain⟨t,e⟩:=Value.isInt_shape (k:=i) (v:=v) h;exact .inl #[i,t,rfl,e]
 | .inr x,v,h=>by
  obtain⟨t,e⟩:=Value.isStrOf_shape (x:=x) (v:=v) h;exact .inr #[x,t,rfl,e]
def GA(i)(t):kq (.inl i) (.int i t)=true:=by simp[kq,Value.isInt]
def GB(x)(t):kq (.inr x) (.str x t)=true:=by simp[kq,Value.isStrOf]
def GC(a b):decide ((Sum.inl a:Key)=Sum.inl b)=(a==b):=by
 by_cases e:a=b
 .subst e;simp
 have h:¬ (Sum.inl a:Key)=Sum.inl b:=λq=>e (Sum.inl.inj q)
 rw[t7 h];exact(px.mpr e).symm
def GD(a b):decide ((Sum.inr a:Key)=Sum.inr b)=decide (a=b):=by
 by_cases e:a=b
 .subst e;simp
 have h:¬ (Sum.inr a:Key)=Sum.inr b:=λq=>e (Sum.inr.inj q)
 rw[t7 h,t7 e]
def GG(a)(b):decide ((Sum.inl a:Key)=Sum.inr b)=false:=t7 (λq=>nomatch q)
def GH(a)(b):decide ((Sum.inr a:Key)=Sum.inl b)=false:=t7 (λq=>nomatch q)
def je(prog:af)(w:World):PySem.KeyKind prog w Key where
 is:=kq
 hash:=Gz w
 inj:=λv a b ha hb=>by
  rcases vT ha with⟨i,t,rfl,rfl⟩|⟨x,t,rfl,rfl⟩
  .rcases vT hb with⟨j,u,rfl,e⟩|⟨y,u,rfl,e⟩
   .injection e with e1 _;rw[e1]
   exact nomatch e
  rcases vT hb with⟨j,u,rfl,e⟩|⟨y,u,rfl,e⟩
  .exact nomatch e
  injection e with e1 _;rw[e1]
 byValue:=λk v h=>by
  rcases vT h with⟨i,t,rfl,rfl⟩|⟨x,t,rfl,rfl⟩<;>rfl
 pyHash:=λhv h=>by
  rcases vT hv with⟨i,t,rfl,rfl⟩|⟨x,t,rfl,rfl⟩
  .exact wpAny_pyHash_int h
  exact wpAny_pyHash_str h
 eqBool:=λhu hv h=>by
  rcases vT hu with⟨i,t,rfl,rfl⟩|⟨x,t,rfl,rfl⟩
  .rcases vT hv with⟨j,u,rfl,rfl⟩|⟨y,u,rfl,rfl⟩
   .rw[GC]at h;exact wpAny_eqBool_int h
   rw[GG]at h;exact SeqAt.EqAt.int_str i t y u _ _ _ _ h
  rcases vT hv with⟨j,u,rfl,rfl⟩|⟨y,u,rfl,rfl⟩
  .rw[GH]at h;exact SeqAt.EqAt.str_int x t j u _ _ _ _ h
  rw[GD]at h;exact wpAny_eqBool_str h
 «strs»:=λk x t v h=>by
  rcases vT h with⟨i,u,rfl,e⟩|⟨y,u,rfl,e⟩
  .exact nomatch e
  injection e with e1 _;subst e1;cases v<;>rfl
def WF(prog)(w)(i)(t):(je prog w).is (.inl i) (.int i t)=true:=GA i t
def WG(prog)(w)(x)(t):(je prog w).is (.inr x) (.str x t)=true:=GB x t
inductive V where
 | non|bl (b:Bool)|int (i:Int)|str (x:Str)|byt (b:Array UInt8)|flt (b:UInt64)|ref (a:Addr)|ty (n:String)
 deriving DecidableEq
def RelV:V->aa->Prop
 | .non,u=>u=Value.none
 | .bl b,u=>u=Value.bool b
 | .int i,u=>∃ t,u=Value.int i t
 | .str x,u=>∃ t,u=Value.str x t
 | .byt b,u=>∃ t,u=Value.bytes b t
 | .flt b,u=>∃ t,u=Value.float b t
 | .ref a,u=>u=Value.ref a
 | .ty n,u=>u=Value.type n
abbrev Vals:List V->List aa->Prop:=Paired RelV
def Vals.length(r:Vals xs us):xs[1]=us[1]:=dL r
theorem Vals.get:∀{xs} {us} {i:Nat} {x},Vals xs us->xs[i]?=!x->∃ u,us[i]?=!u/\RelV x u
 | _,_,_,_,.nil,e=>by simp at e
 | _,_,0,_,.cons r _,e=>by simp at e;subst e;exact#[_,rfl,r]
 | _,_,i+1,x,.cons _ t,e=>by
  obtain⟨u,h1,h2⟩:=Vals.get (i:=i) (x:=x) t e[""]
  exact#[u,by simpa using h1,h2]
theorem Vals.set(r:RelV x u):∀{xs} {us} i,Vals xs us->Vals (xs.set i x) (us.set i u)
 | _,_,_,.nil=>.nil
 | _,_,0,.cons _ t=>.cons r t
 | _,_,i+1,.cons q t=>.cons q (Vals.set r i t)
theorem Vals.append:∀{xs ys} {us ws},Vals xs us->Vals ys ws->Vals (xs++ys) (us++ws)
 | _,_,_,_,.nil,s=>s
 | _,_,_,_,.cons r t,s=>.cons r (Vals.append t s)
theorem Vals.take:∀{xs} {us} n,Vals xs us->Vals (xs.take n) (us.take n)
 | _,_,0,_=>.nil
 | _,_,_+1,.nil=>.nil
 | _,_,n+1,.cons r t=>.cons r (Vals.take n t)
theorem Vals.drop:∀{xs} {us} n,Vals xs us->Vals (xs.drop n) (us.drop n)
 | _,_,0,r=>r
 | _,_,_+1,.nil=>.nil
 | _,_,n+1,.cons _ t=>Vals.drop n t
def RelO:Option V->Option aa->Prop
 | some v,!u=>RelV v u
 | none,none=>True
 | _,_=>False
def KV{κ:Type}:List (κ×V)->List (κ×aa)->Prop:=Paired λ(p:κ×V) (q:κ×aa)=>p.1=q.1/\RelV p.2 q.2
def kV:Key->V
 | .inl i=>.int i
 | .inr x=>.str x
inductive HO where
 | lst (xs:List V)
 | tup (xs:List V)
 | dK (kvs:List (Key×V))|dT (kvs:List (List Key×V))
 | set (S:Int->Bool) (n:Nat)
 | ins (C dx:Addr) (fs:List (Str×V))
 | own (x:Addr)
 | xd (fs:List (Str×V))
 | met (f x:Addr)
 | rng (lo hi:Int)
 | frz (o:Obj) (u:HO)
 | tbl (ps:Array Value)
 | ext (φ:Heap->Prop)
abbrev Hp:=Addr->Option HO
def upd(H:Hp)(a:Addr)(o:HO):Hp:=λb=>if b=a then !o else H b
def qL:upd H a o a=!o:=by unfold upd;rw[if_pos rfl]
def qr{H:Hp}(h:b≠a):upd H a o b=H b:=by unfold upd;rw[if_neg h]
def WH{H:Hp}(h:H a=!o)(h':H b=!u)(d:o≠u):a≠b:=by
 intro e;subst e;rw[h]at h';exact d (tP h')
def jH{H:Hp}(h:H a=!o)(h':H b=none):a≠b:=by
 intro e;subst e;rw[h]at h';cases h'
section
variable(P:af)(w:World)
def ObjOk(H:Hp)(h:Heap)(a:Addr):HO->Prop
 | .lst xs=>xs[1]<=sizeLine/\∃(its:List aa) (n:Nat),Vals xs its/\h.get? a=some {cls:=.type "list",data:=.seq its.toArray n}
 | .tup xs=>xs[1]<=sizeLine/\∃ its:List aa,Vals xs its/\IsTup h a its.toArray
 | .dK kvs=>kvs[1]<=sizeLine/\(a==sysModules)=false/\∃ vs,KV kvs vs/\h.DictOf (je P w) a vs
 | .dT kvs=>kvs[1]<=sizeLine/\(a==sysModules)=false/\∃ xs:List (List Key×Addr×aa),
   Paired (λ(p:List Key×V) (q:List Key×Addr×aa)=>p.1=q.1/\H q.2.1=!(.tup (p.1.map kV))/\RelV p.2 q.2.2) kvs xs /\
   ∃ o es ep,h.get? a=!o/\o.ExactDict/\o.data=.dict es ep/\es[2]=xs.map (entryOfKey (tupleKind (je P w)))/\(xs.map (·.1)).Nodup
 | .set S n=>h.SetOf (intKind P w) a S n
 | .ins C dx fs=>H dx=!(.own a)/\fs[1]<=1000/\dx≠a/\h.get? a=↑(PySem.W.instObj C dx) /\
   ∃ mA,h.Ns1 dx mA/\(∀ f,RelO (fs.lookup f) (mA f))/\PySem.Within mA (fs.map (·.1))
 | .own _=>∃ o,h.get? a=!o
 | .xd fs=>∃ mA,h.Ns1 a mA/\∀ f,RelO (fs.lookup f) (mA f)
 | .rng lo hi=>∃ t u v,h.get? a=some {cls:=.type "range",data:=.fields (List.toArray [.int lo t,.int hi u,.int 1 v])}
 | .frz o u=>h.get? a=!o/\ObjOk H h a u
 | .tbl ps=>h.get? a=some {cls:=.none,data:=.fields ps}
 | .met f x=>h.get? a=!(methodObj (.ref f) (.ref x))
 | .ext φ=>φ h/\(∃ o,h.get? a=!o)/\∀ h1 h2:Heap,φ h1->(∀ o,h1.get? a=!o->h2.get? a=!o)->φ h2
def HOk(H:Hp)(h:Heap):Prop:=∀ a o,H a=!o->ObjOk P w H h a o
end
section
variable{P:af}{w:World}{H H':Hp}{h h':Heap}{a:Addr}{o:HO}
def ObjOk.lt(x:ObjOk P w H h a o):a<h.objs.size:=by
 cases o with
 | lst xs=>obtain⟨_,_,_,_,e⟩:=x;exact gK e
 | tup xs=>obtain⟨_,_,_,p⟩:=x;exact p.lt
 | dK kvs=>obtain⟨_,_,_,_,o,_,_,e,_⟩:=x;exact gK e
 | dT kvs=>obtain⟨_,_,_,_,o,_,_,e,_⟩:=x;exact gK e
 | set S n=>obtain⟨o,_,_,_,e,_⟩:=x;exact gK e
 | ins C dx fs=>obtain⟨_,_,_,e,_⟩:=x;exact gK e
 | own y=>obtain⟨_,e⟩:=x;exact gK e
 | xd fs=>obtain⟨_,⟨_,_,_,e,_⟩,_⟩:=x;exact gK e
 | rng lo hi=>obtain⟨_,_,_,e⟩:=x;exact gK e
 | frz ob u=>obtain⟨e,_⟩:=x;exact gK e
 | tbl ps=>exact gK (show h.get? a=!_ from x)
 | met f y=>exact gK (show h.get? a=!_ from x)
 | ext φ=>obtain⟨_,⟨_,e⟩,_⟩:=x;exact gK e
theorem Paired.mapP:∀{l₁} {l₂},Paired F l₁ l₂->(∀ a b,F a b->G a b)->Paired G l₁ l₂
 | _,_,.nil,_=>.nil
 | _,_,.cons r t,f=>.cons (f _ _ r) (Paired.mapP t f)
def ObjOk.stay(x:ObjOk P w H h a o)(k:∀ b u,(b=a\/H b=!(.own a))->h.get? b=!u->h'.get? b=!u)
  (B:∀ b,H b=!(.own a)->H' b=!(.own a))(O:∀ b xs,H b=!(.tup xs)->H' b=!(.tup xs)):ObjOk P w H' h' a o:=by
 induction o with
 | lst xs=>obtain⟨z,its,n,r,e⟩:=x;exact#[z,its,n,r,k _ _ (.inl rfl) e]
 | tup xs=>obtain⟨z,its,r,ob,e,c⟩:=x;exact#[z,its,r,ob,k _ _ (.inl rfl) e,c]
 | dK kvs=>obtain⟨z,y,vs,r,ob,es,ep,e,c⟩:=x;exact#[z,y,vs,r,ob,es,ep,k _ _ (.inl rfl) e,c]
 | dT kvs =>
  obtain⟨z,y,xs,r,ob,es,ep,e,c⟩:=x;exact#[z,y,xs,Paired.mapP r λp q z=>#[z.1,O _ _ z.2.1,z.2.2],ob,es,ep,k _ _ (.inl rfl) e,c]
 | set S n=>obtain⟨ob,es,ep,t,e,c⟩:=x;exact#[ob,es,ep,t,k _ _ (.inl rfl) e,c]
 | ins C dx fs =>
  obtain⟨d,z,ne,e,mA,⟨od,es,ep,e2,c⟩,r⟩:=x;exact#[B _ d,z,ne,k _ _ (.inl rfl) e,mA,#[od,es,ep,k _ _ (.inr d) e2,c],r]
 | own y=>obtain⟨ob,e⟩:=x;exact#[ob,k _ _ (.inl rfl) e]
 | xd fs=>obtain⟨mA,⟨od,es,ep,e,c⟩,r⟩:=x;exact#[mA,#[od,es,ep,k _ _ (.inl rfl) e,c],r]
 | rng lo hi=>obtain⟨t,u,v,e⟩:=x;exact#[t,u,v,k _ _ (.inl rfl) e]
 | frz ob u ih=>obtain⟨e,q⟩:=x;exact#[k _ _ (.inl rfl) e,ih q]
 | tbl ps =>
  have e:h.get? a=some {cls:=.none,data:=.fields ps}:=x;show h'.get? a=some {cls:=.none,data:=.fields ps};exact k a _ (.inl rfl) e
 | met f y =>
  have e:h.get? a=!(methodObj (.ref f) (.ref y)):=x;show h'.get? a=!(methodObj (.ref f) (.ref y));exact k a _ (.inl rfl) e
 | ext φ=>obtain⟨p,⟨o,e⟩,st⟩:=x;exact#[st _ _ p λo q=>k _ _ (.inl rfl) q,#[o,k _ _ (.inl rfl) e],st]
def HOk.lt(x:HOk P w H h)(e:H a=!o):a<h.objs.size:=(x a o e).lt
def HOk.fresh(x:HOk P w H h)(e:h.objs.size<=a):H a=none:=by
 cases q:H a with
 | none=>rfl
 | some u=>exact absurd (t4 (x.lt q) e) (fB _)
def HOk.kept(x:HOk P w H h)(k:∀ b u,h.get? b=!u->h'.get? b=!u):HOk P w H h':=λa o e =>
 (x a o e).stay (λb u _ q=>k b u q) (λ_ q=>q) λ_ _ q=>q
def HOk.laid(x:HOk P w H h)(k:∀ b u,h.get? b=!u->h'.get? b=!u)(hp:h.objs.size<=a)(z:ObjOk P w (upd H a o) h' a o):HOk P w (upd H a o) h':=λb u e=>by
 have hn:=x.fresh hp;by_cases hb:b=a
 .subst hb;rw[qL]at e;cases e;exact z
 rw[qr hb]at e;exact(x b u e).stay (λc v _ q=>k c v q) (λc q=>by rw[qr (jH q hn)];exact q) λc xs q=>by rw[qr (jH q hn)];exact q
end
def Rd(H:Hp)(a:Addr)(u:HO):Prop:=H a=!u\/∃ o,H a=!(.frz o u)
def Rd.ok(r:Rd H a u)(x:HOk P w H h):ObjOk P w H h a u:=by
 rcases r with r|⟨o,r⟩
 .exact x a u r
 obtain⟨_,q⟩:=x a _ r;exact q
def Mut:Option HO->Prop
 | some (.lst _)=>True
 | some (.dK _)=>True
 | some (.dT _)=>True
 | some (.set _ _)=>True
 | some (.ins _ _ _)=>True
 | some (.ext _)=>True
 | _=>False
section
variable{P:af}{w:World}{H:Hp}{h h':Heap}{x e:Addr}{o':HO}
def HOk.write(ok:HOk P w H h)(U:Mut (H x))(he:e=x\/H e=!(.own x))(k:∀ b u,b≠e->h.get? b=!u->h'.get? b=!u)(Y:∃ u,h'.get? e=!u)
  (Z:ObjOk P w (upd H x o') h' x o'):HOk P w (upd H x o') h':=λb u q=>by
 have B:∀ c y,H c=!(.own y)->c≠x:=λc y r z=>by subst z;rw[r]at U;exact U
 have O:∀ c xs,H c=!(.tup xs)->c≠x:=λc xs r z=>by subst z;rw[r]at U;exact U
 by_cases hb:b=x
 .subst hb;rw[qL]at q;cases q;exact Z
 rw[qr hb]at q;by_cases hbe:b=e
 .have q':H b=!(.own x):=by
   rcases he with z|z
   .exact absurd (hbe.trans z) hb
   rw[hbe];exact z
  rw[q]at q';cases q';obtain⟨v,hv⟩:=Y;exact#[v,by rw[hbe];exact hv]
 refine(ok b u q).stay (λc v hc r=>k c v ?_ r) (λc r=>by rw[qr (B c b r)];exact r) λc xs r=>by rw[qr (O c xs r)];exact r
 rcases hc with rfl|hc
 .exact hbe
 rintro rfl;rcases he with z|z
 .exact B c b hc z
 rw[hc]at z;cases z;exact hb rfl
end
structure Un(fs ex:List Addr)(H H':Hp)(h h':Heap):Prop where
 keep:∀ b o,h.get? b=!o->H b=none->b∉fs->b∉ex->h'.get? b=!o
 slot:∀ b o,h.get? b=!o->H b=none->b∈fs->b∉ex->∃ sl,h'.get? b=some {o with slots:=sl}
 free:∀ b o,h.get? b=!o->H b=none->b∉ex->H' b=none
 there:∀ b o,h.get? b=!o->b∉ex->∃ o',h'.get? b=!o'
 tups:∀ b xs,H b=!(.tup xs)->H' b=!(.tup xs)
 frzs:∀ b o u,H b=!(.frz o u)->H' b=!(.frz o u)
 tbls:∀ b ps,H b=!(.tbl ps)->∃ z,H' b=!(.tbl (ps++z))
section
variable{fs fs' ex ex':List Addr}{H H1 H2:Hp}{h h1 h2 h':Heap}{a x e:Addr}{o:HO}
def Un.any(u:Un fs ex H H1 h h1)(q:h.get? b=!ob)(n:H b=none)(z:b∉ex):∃ sl,h1.get? b=some {ob with slots:=sl}:=by
 by_cases hb:b∈fs
 .exact u.slot b ob q n hb z
 exact#[ob.slots,u.keep b ob q n hb z]
def Un.kept(k:∀ b u,h.get? b=!u->h'.get? b=!u):Un fs ex H H h h' :=
 #[λb ob q _ _ _=>k b ob q,λb ob q _ _ _=>#[ob.slots,k b ob q],λ_ _ _ n _=>n,λb ob q _=>#[ob,k b ob q],λ_ _ q=>q,λ_ _ _ q=>q,λ_ ps q=>#[#[],by rw[q];simp]]
def Un.refl:Un fs ex H H h h:=Un.kept λ_ _ q=>q
theorem Un.laid(k:∀ b u,h.get? b=!u->h'.get? b=!u)(hp:h.objs.size<=a)(z:H a=none):Un fs ex H (upd H a o) h h' where
 keep:=λb u q _ _ _=>k b u q
 slot:=λb u q _ _ _=>#[u.slots,k b u q]
 free:=λb u q n _=>by rw[qr (hV (t4 (gK q) hp))];exact n
 there:=λb u q _=>#[u,k b u q]
 tups:=λb xs q=>by rw[qr (jH q z)];exact q
 frzs:=λb u xs q=>by rw[qr (jH q z)];exact q
 tbls:=λb ps q=>#[#[],by rw[qr (jH q z),q];simp]
def Un.write(B:Mut (H x))(U:e=x\/H e=!(.own x))(k:∀ b u,b≠e->h.get? b=!u->h'.get? b=!u)(O:∃ u,h'.get? e=!u):Un fs ex H (upd H x o) h h':=by
 have hx:∀ b,H b=none->b≠x:=λb n z=>by subst z;rw[n]at B;exact B
 have hb:∀ b,H b=none->b≠e:=λb n z=>by
  subst z;rcases U with r|r
  .exact hx b n r
  rw[n]at r;cases r
 have hm:∀ b u,H b=!u->¬ Mut !u->b≠x:=λb u q nm z=>by subst z;rw[q]at B;exact nm B
 refine#[λb u q n _ _=>k b u (hb b n) q,λb u q n _ _=>#[u.slots,k b u (hb b n) q],λb u q n _=>by rw[qr (hx b n)];exact n,λb u q _=>?_,
  λb xs q=>by rw[qr (hm b _ q λz=>z)];exact q,λb u xs q=>by rw[qr (hm b _ q λz=>z)];exact q,λb ps q=>#[#[],by rw[qr (hm b _ q λz=>z),q];simp]]
 by_cases hbe:b=e
 .subst hbe;exact O
 exact#[u,k b u hbe q]
end
def trk(h:Heap)(H:Hp):List Addr:=(List.range h.objs.size).filter λa=>(H a).isSome
def wu(h:Heap)(H:Hp):Heap:=PySem.W.hideAll h (trk h H)
def GI(h)(H):(wu h H).objs.size=h.objs.size:=PySem.W.hideAll_size _ _
def GJ{h:Heap}{H:Hp}(e:h.get? b=!o)(n:H b=none):(wu h H).get? b=↑o :=
 PySem.W.hideAll_get _ e λhm=>by
  have q:(H b).isSome=true:=(dM.mp hm).2;rw[n]at q;simp at q
def GK{h:Heap}{H:Hp}(e:(wu h H).get? b=!o):h.get? b=!o/\H b=none:=by
 have e':h.get? b=!o:=PySem.W.of_hideAll (trk h H) e;refine#[e',?_];cases q:H b with
 | none=>rfl
 | some x =>
  have hm:b∈trk h H:=dM.mpr #[dm.mpr (gK e'),by simp[q]]
  have z:(wu h H).get? b=none:=PySem.W.hideAll_none (trk h H) hm;rw[z]at e;cases e
structure Mod(K:Frag)(mg:Str->Option Value)(base:Heap):Prop where
 kin:K.In base
 glob:base.Ns mainGlobals mg
 blt:∃ mb,base.Ns builtinsNs mb/\∀ x:Str,x≠"__name__"->mb x=bootBuiltins x
 nolimit:base.NoLimit
structure Cx where
 prog:Program
 w:World
 K:Frag
 mg:Str->Option Value
 base:Heap
 A:Around
 N:List Str
 s₀:Shared
 H₀:Hp
 env:Env
 outer:List Env
 stack:List Env
 ex:List Addr
 fn:Str->Bool
 calm:Bool
 pn:List (Addr×Obj)
 xe:Value->Shared->Prop
def frs(l:List Env):List Addr:=l.filterMap (·.frame)
abbrev Cx.fs(X:Cx):List Addr:=frs X.outer
def Vis(z:Scope)(x:Str):Prop:=z.names.lookup x=some .local\/z.names.lookup x=some .cell\/z.names.lookup x=some .free
def Loc(z:Scope)(x:Str):Prop:=z.names.lookup x=some .local\/z.names.lookup x=some .cell
def Look(env:Env)(h:Heap)(m:Str->Option aa)(x:Str)(u:aa):Prop :=
 (env.kindOf x=some .local/\m x=!u)\/((env.kindOf x=some .cell\/env.kindOf x=some .free)/\∃ c,env.cells.lookup x=!c/\h.IsCell c !u)
structure Cx.Ok(X:Cx):Prop where
 mod:Mod X.K X.mg X.base
 kind:X.env.scope.kind=.function
 glob:X.env.globals=mainGlobals
 blt:X.env.builtins=builtinsNs
 above:X.s₀[0]<=X.env.locals
 inj:∀ x y c,X.env.cells.lookup x=!c->X.env.cells.lookup y=!c->x=y
 has:∀ x,(X.env.kindOf x=some .cell\/X.env.kindOf x=some .free)->∃ c,X.env.cells.lookup x=!c
 cab:∀ x c,X.fn x=true->X.env.cells.lookup x=!c->X.s₀[0]<=c
 hd:X.calm=true->X.A.handled=none
 frames:X.A.frames=!X.stack
 stk:X.stack=X.outer\/(X.stack=X.env::X.outer/\X.env.frame=!X.env.locals)
 exf:∀ b∈X.ex,b≠X.env.locals/\∀ x c,X.env.cells.lookup x=!c->c≠b
 bs:∀ b o,X.base.get? b=!o->X.s₀.heap.get? b=!o/\X.H₀ b=none
 bsz:X.base.objs.size<=X.s₀[0]
 noex:∀ b o,X.base.get? b=!o->b∉X.ex
 exfs:∀ b∈X.ex,b∉X.fs
 funs:X.s₀.heap.FunFrames X.base X.outer
 frf:∀ b∈X.fs,X.H₀ b=none
structure Inv(X:Cx)(pins:List (Addr×Obj))(σ:List (Option V))(H:Hp)(s:Shared):Prop where
 ok:X.Ok
 os:s.os=X.s₀.os
 bare:AllBare s.gens
 base:Un X.fs X.ex X.H₀ H X.s₀.heap s.heap
 loc:∃ m,s.heap.Ns X.env.locals m/\∀(i:Nat) (x:Str) (v:V),X.N[i]?=!x->σ[i]?=!(!v)->Vis X.env.scope x->∃ u,RelV v u/\Look X.env s.heap m x u
 cell:∀ x c,X.env.cells.lookup x=!c->∃ v,s.heap.IsCell c v
 free:H X.env.locals=none
 freeC:∀ x c,X.env.cells.lookup x=!c->H c=none
 pin:∀ p∈X.pn++pins,s.heap.get? p.1=!p.2/\H p.1=none/\p.1≠X.env.locals/\p.1∉X.fs/\∀ v,p.2.data≠.cell v
 hok:HOk X.prog X.w H s.heap
 len:σ.length=X.N.length
section
variable{X:Cx}{pins:List (Addr×Obj)}{σ:List (Option V)}{H H':Hp}{s:ab}{h':Heap}
def Cx.Ok.nofr(z:X.Ok)(e:X.base.get? b=!o):b∉X.fs:=λhb=>by
 have:=(z.funs.mem hb).1;rw[e]at this;cases this
def Inv.bs(I:"I" H s):∀ b o,X.base.get? b=!o->s.heap.get? b=!o/\H b=none:=λb o e =>
 #[I.base.keep b o (I.ok.bs b o e).1 (I.ok.bs b o e).2 (I.ok.nofr e) (I.ok.noex b o e),I.base.free b o (I.ok.bs b o e).1 (I.ok.bs b o e).2 (I.ok.noex b o e)]
def Inv.bk(I:"I" H s):∀ b o,X.base.get? b=!o->s.heap.get? b=!o:=λb o e=>(I.bs b o e).1
def Inv.mod(I:"I" H s):Mod X.K X.mg X.base:=I.ok.mod
def Inv.kIn(I:"I" H s):X.K.In s.heap:=I.ok.mod.kin.keeps I.bk
def Inv.lt(I:"I" H s):X.env.locals<s[0]:=let #[_,hn,_]:=I.loc;hn.lt
def Inv.sz(I:"I" H s):X.s₀[0]<=s[0]:=f8 I.ok.above (pC I.lt)
def Inv.nofs(I:"I" H s)(h:s[0]<=a):a∉X.fs:=λhb=>by
 obtain⟨_,o,ho,_⟩:=I.ok.funs.mem hb;exact absurd (t4 (gK ho) (f8 I.sz h)) (fB _)
def Inv.cne(I:"I" H s):∀ x c,X.env.cells.lookup x=!c->c≠X.env.locals:=λx c e z=>by
 obtain⟨v,o,ho,hd⟩:=I.cell x c e;obtain⟨m,⟨o',es,ep,B,O,_⟩,_⟩:=I.loc;rw[z,B]at ho;cases ho;rw[O]at hd;cases hd
def Inv.funs(I:"I" H s):s.heap.FunFrames X.base X.outer:=by
 have B:∀(l:List Env),(∀ b∈frs l,b∈X.fs)->X.s₀.heap.FunFrames X.base l->s.heap.FunFrames X.base l:=by
  intro l
  induction l with
  | nil=>intro _ _;trivial
  | cons env r ih =>
   intro hs hl;obtain⟨hk,⟨L,o,hf,hn,ho,hd⟩,hr⟩:=hl;have hL:L∈X.fs:=hs L (by unfold frs;rw[bA,hf];exact t8)
   obtain⟨sl,e⟩:=I.base.slot L o ho (I.ok.frf L hL) hL λz=>I.ok.exfs L z hL
   exact#[hk,#[L,_,hf,hn,e,hd],ih (λb hb=>hs b (by unfold frs;rw[bA,hf];exact gj _ hb)) hr]
 exact B X.outer (λ_ hb=>hb) I.ok.funs
def Inv.stack(I:"I" H s):s.heap.FunFrames X.base X.stack:=by
 rcases I.ok.stk with e|⟨e,hf⟩
 .rw[e];exact I.funs
 rw[e];obtain⟨m,hn,_⟩:=I.loc;refine .cons (by rw[I.ok.kind];decide) hf hn ?_ I.funs
 exact Heap.get?_none_of_le (f8 I.ok.bsz I.ok.above)
def Inv.stkSub(I:"I" H s):∀ b∈frs X.stack,b∈X.env.locals::X.fs:=λb hb=>by
 rcases I.ok.stk with e|⟨e,hf⟩
 .rw[e]at hb;exact gj _ hb
 rw[e]at hb;unfold frs at hb;rw[bA,hf]at hb;exact hb
def Inv.stkFree(I:"I" H s):∀ b∈frs X.stack,H b=none:=λb hb=>by
 rcases gy.mp (I.stkSub b hb)with e|hb
 .rw[e];exact I.free
 obtain⟨_,o,ho,_⟩:=I.ok.funs.mem hb;exact I.base.free b o ho (I.ok.frf b hb) λz=>I.ok.exfs b z hb
def Inv.step{d':Drawn}{ch:List Addr}(I:"I" H s)
  (B:∀ b∈ch,(b∈X.ex\/X.s₀[0]<=b)/\b≠X.env.locals/\(∀ x c,X.env.cells.lookup x=!c->c≠b)/\∀ p∈X.pn++pins,p.1≠b)
  (keep:∀ b o,b≠X.env.locals->b∉X.fs->b∉ch->s.heap.get? b=!o->H b=none->h'.get? b=!o)
  (slot:∀ b o,b≠X.env.locals->b∈X.fs->b∉ch->s.heap.get? b=!o->H b=none->∃ sl,h'.get? b=some {o with slots:=sl})(free:∀ b o,b∉ch->s.heap.get? b=!o->H b=none->H' b=none)
  (there:∀ b o,b∉ch->s.heap.get? b=!o->∃ o',h'.get? b=!o')
  (tups:∀ b xs,H b=!(.tup xs)->H' b=!(.tup xs))(frzs:∀ b o u,H b=!(.frz o u)->H' b=!(.frz o u))(tbls:∀ b ps,H b=!(.tbl ps)->∃ h3,H' b=!(.tbl (ps++h3)))
  (ns:∀ m,s.heap.Ns X.env.locals m->h'.Ns X.env.locals m)(hok:HOk X.prog X.w H' h')(hg:AllBare g') :
  "I" H' {s with heap:=h',gens:=g',drawn:=d',toks:=t'}:=by
 have Z:∀ b o,X.s₀.heap.get? b=!o->b≠X.env.locals:=λb o e=>hV (t4 (gK e) I.ok.above)
 have Y:∀ b o,X.s₀.heap.get? b=!o->b∉X.ex->b∉ch:=λb o e hx hb=>by
  rcases(B b hb).1 with z|z
  .exact hx z
  exact absurd (t4 (gK e) z) (fB _)
 have O:∀ x c,X.env.cells.lookup x=!c->∀ v,s.heap.IsCell c v->h'.IsCell c v:=λx c e v #[o,ho,hd]=>by
  have U:c∉ch:=λz=>(B c z).2.2.1 x c e rfl
  by_cases hc:c∈X.fs
  .obtain⟨sl,q⟩:=slot c o (I.cne x c e) hc U ho (I.freeC x c e);exact#[_,q,hd]
  exact#[o,keep c o (I.cne x c e) hc U ho (I.freeC x c e),hd]
 refine#[I.ok,I.os,hg,#[λb o e n hb hx=>?_,λb o e n hb hx=>?_,λb o e n hx=>?_,λb o e hx=>?_,λb xs e=>tups b xs (I.base.tups b xs e),λb o xs e=>frzs b o xs (I.base.frzs b o xs e),λb ps e=>?_],?_,λx c e=>?_,?_,λx c e=>?_,λp hp=>?_,hok,I.len]
 .exact keep b o (Z b o e) hb (Y b o e hx) (I.base.keep b o e n hb hx) (I.base.free b o e n hx)
 .obtain⟨sl,e1⟩:=I.base.slot b o e n hb hx;obtain⟨sl',e2⟩:=slot b _ (Z b o e) hb (Y b o e hx) e1 (I.base.free b o e n hx);exact#[sl',e2]
 .obtain⟨o',e1⟩:=I.base.there b o e hx;exact free b o' (Y b o e hx) e1 (I.base.free b o e n hx)
 .obtain⟨o',e1⟩:=I.base.there b o e hx;exact there b o' (Y b o e hx) e1
 .obtain⟨m1,e1⟩:=I.base.tbls b ps e;obtain⟨m2,e2⟩:=tbls b _ e1;exact#[m1++m2,by rw[e2,Array.append_assoc]]
 .obtain⟨m,hn,hl⟩:=I.loc;refine#[m,ns m hn,λi x v e1 e2 e3=>?_]
  obtain⟨u,r,l⟩:=hl i x v e1 e2 e3;refine#[u,r,?_];rcases l with l|⟨k,c,e,z⟩
  .exact .inl l
  exact .inr #[k,c,e,O x c e _ z]
 .obtain⟨v,z⟩:=I.cell x c e;exact#[v,O x c e v z]
 .obtain⟨m,⟨o,_,_,ho,_⟩,_⟩:=I.loc;exact free _ o (λz=>(B _ z).2.1 rfl) ho I.free
 .obtain⟨v,o,ho,hd⟩:=I.cell x c e;exact free c o (λz=>(B c z).2.2.1 x c e rfl) ho (I.freeC x c e)
 obtain⟨e,n,ne,nf,d⟩:=I.pin p hp;have U:p.1∉ch:=λz=>(B p.1 z).2.2.2 p hp rfl
 exact#[keep p.1 p.2 ne nf U e n,free p.1 p.2 U e n,ne,nf,d]
def Inv.un(I:"I" H s)(u:Un X.fs [] H H' s.heap h')(O:HOk X.prog X.w H' h'):"I" H' {s with heap:=h',toks:=t'}:=by
 obtain⟨m,⟨o,es,ep,ho,r⟩,_⟩:=id I.loc;obtain⟨sl,hL⟩:=u.any ho I.free "s"
 exact I.step (g':=s.gens) (d':=s.drawn) (ch:=[]) (λ_ z=>nomatch z) (λb o _ hb _ e n=>u.keep b o e n hb "s") (λb o _ hb _ e n=>u.slot b o e n hb "s") (λb o _ e n=>u.free b o e n "s") (λb o _ e=>u.there b o e "s") u.tups u.frzs u.tbls (λm' hm=>by
  obtain⟨o',U,Y,B,r'⟩:=hm;rw[ho]at B;cases B;exact#[_,U,Y,hL,r']) O I.bare
def Inv.call{d':Drawn}{ch:List Addr}(I:"I" H s)(u:Un (frs X.stack) ch H H' s.heap h')(U:HOk X.prog X.w H' h')(hg:AllBare g')
  (B:∀ b∈ch,(b∈X.ex\/X.s₀[0]<=b)/\b≠X.env.locals/\(∀ x c,X.env.cells.lookup x=!c->c≠b)/\∀ p∈X.pn++pins,p.1≠b) :
  "I" H' {s with heap:=h',gens:=g',drawn:=d',toks:=t'}:=by
 obtain⟨m,⟨o,es,ep,ho,r⟩,_⟩:=id I.loc;obtain⟨sl,hL⟩:=u.any ho I.free λz=>(B _ z).2.1 rfl
 exact I.step (ch:=ch) B (λb o hL hb hc e n=>u.keep b o e n (λz=>(gy.mp (I.stkSub b z)).elim hL hb) hc) (λb o _ _ hc e n=>u.any e n hc) (λb o hc e n=>u.free b o e n hc) (λb o hc e=>u.there b o e hc) u.tups u.frzs u.tbls (λm' hm=>by
  obtain⟨o',Y,Z,O,r'⟩:=hm;rw[ho]at O;cases O;exact#[_,Y,Z,hL,r']) U hg
def Inv.turned{it:Addr}(I:"I" H s)(k:∀ b o,b≠it->s.heap.get? b=!o->h'.get? b=!o)(U:H it=none)(O:it≠X.env.locals)
  (h1:it∈X.ex\/X.s₀[0]<=it)(h2:∀ x c,X.env.cells.lookup x=!c->c≠it)(Y:∀ p∈X.pn++pins,p.1≠it):"I" H {s with heap:=h',toks:=t'}:=by
 have B:∀ b u,H b=!u->b≠it:=λb u e z=>by rw[z,U]at e;cases e
 refine I.step (g':=s.gens) (d':=s.drawn) (ch:=[it]) (λb hb=>?_) (λb o _ _ hc e _=>k b o (λz=>hc (by simp[z])) e) (λb o _ _ hc e _=>#[o.slots,k b o (λz=>hc (by simp[z])) e]) (λ_ _ _ _ n=>n)
  (λb o hc e=>#[o,k b o (λz=>hc (by simp[z])) e]) (λ_ _ e=>e) (λ_ _ _ e=>e) (λb ps e=>#[#[],by rw[e];simp]) (λm hm=>?_) (λb u e=>?_) I.bare
 .have e:b=it:=by simpa using hb
  subst e;exact#[h1,O,h2,Y]
 .obtain⟨o,es,ep,ho,r⟩:=hm;exact#[o,es,ep,k _ o (tf O) ho,r]
 refine(I.hok b u e).stay (λc v hc q=>k c v ?_ q) (λ_ q=>q) λ_ _ q=>q
 rcases hc with z|z
 .rw[z];exact B b u e
 exact B c _ z
def Inv.tok(I:"I" H s)(t):"I" H {s with toks:=t}:=I.un (h':=s.heap) (t':=t) Un.refl I.hok
def Inv.kept(I:"I" H s)(k:∀ b u,s.heap.get? b=!u->h'.get? b=!u):"I" H {s with heap:=h',toks:=t'}:=I.un (Un.kept k) (I.hok.kept k)
def Inv.laid(I:"I" H s)(k:∀ b u,s.heap.get? b=!u->h'.get? b=!u)(hp:s[0]<=a)(z:ObjOk X.prog X.w (upd H a o) h' a o) :
  "I" (upd H a o) {s with heap:=h',toks:=t'}:=I.un (Un.laid k hp (I.hok.fresh hp)) (I.hok.laid k hp z)
def Inv.write(I:"I" H s)(O:Mut (H x))(U:e=x\/H e=!(.own x))(k:∀ b u,b≠e->s.heap.get? b=!u->h'.get? b=!u)(z:∃ u,h'.get? e=!u)
  (B:ObjOk X.prog X.w (upd H x o) h' x o):"I" (upd H x o) {s with heap:=h',toks:=t'}:=I.un (Un.write O U k z) (I.hok.write O U k z B)
def Inv.pins_of(I:"I" H s)(h:∀ p∈pins',s.heap.get? p.1=!p.2/\H p.1=none/\p.1≠X.env.locals/\p.1∉X.fs/\∀ v,p.2.data≠.cell v):Inv X pins' σ H s :=
 #[I.ok,I.os,I.bare,I.base,I.loc,I.cell,I.free,I.freeC,λp hp=>(gC.mp hp).elim (λz=>I.pin p (tj _ z)) (h p),I.hok,I.len]
def WI{N:List Str}(z:N.Nodup){i j:Nat}(a:N[i]?=!x)(b:N[j]?=!x):i=j:=by
 obtain⟨h1,e1⟩:=gp.mp a;obtain⟨h2,e2⟩:=gp.mp b;exact(List.getElem_inj z).mp (e1.trans e2.symm)
def Z3{i:Nat}{Q:Unit->ab->Prop}(I:"I" H s)(hN:X.N.Nodup)(hi:X.N[i]?=!x)(O:Loc X.env.scope x)(r:RelV v u)
  (h:∀ s',Inv X pins (σ.set i !v) H s'->(∃ a,Heap.SameBut a s.heap s'.heap/\(a=X.env.locals\/X.env.cells.lookup x=!a))->Q () s')(hf:(X.fn x=true\/X.env.scope.names.lookup x=some .local)["t"]):wpAny M A (storeName X.env x u) Q E s:=by
 obtain⟨m,hn,hl⟩:=id I.loc;have h3:(X.env.scope.kind==.class||(X.env.scope.kind==.module&&X.env.locals != X.env.globals))=false:=by rw[I.ok.kind];rfl
 have Y:i<σ.length:=by rw[I.len];exact(gp.mp hi).1
 have cne:=I.cne;have B:∀{a:Addr} {h':Heap},(∃ o,s.heap.get? a=!o/\H a=none)->Heap.SameBut a s.heap h'->HOk X.prog X.w H h':=λ{a h'} ha hs b ob e=>by
  obtain⟨_,_,U⟩:=ha;refine(I.hok b ob e).stay (λc w' hc q=>(hs.2 c ?_).trans q) (λ_ q=>q) λ_ _ q=>q
  rintro rfl;rcases hc with rfl|hc
  .rw[U]at e;cases e
  rw[U]at hc;cases hc
 rcases O with hk|hk
 .refine wpAny_storeName_local hk hn (λh' hn' hs=>?_) h3
  obtain⟨oL,_,_,hoL,_⟩:=id hn;refine h _ #[I.ok,I.os,I.bare,#[λb o e n hb O=>?_,λb o e n hb O=>?_,I.base.free,λb o e O=>?_,I.base.tups,I.base.frzs,I.base.tbls],#[_,hn',λj y v' e1 e2 e3=>?_],λy c e=>?_,I.free,I.freeC,λp hp=>?_,B #[oL,hoL,I.free] hs,by simpa using I.len] #[_,hs,.inl rfl]
  .exact(hs.2 b (hV (t4 (gK e) I.ok.above))).trans (I.base.keep b o e n hb O)
  .obtain⟨sl,e1⟩:=I.base.slot b o e n hb O;exact#[sl,(hs.2 b (hV (t4 (gK e) I.ok.above))).trans e1]
  .obtain⟨o',e1⟩:=I.base.there b o e O;exact#[o',(hs.2 b (hV (t4 (gK e) I.ok.above))).trans e1]
  .by_cases hj:j=i
   .subst hj;rw[hi]at e1;cases e1;rw[List.getElem?_set_self Y]at e2;cases e2;exact#[u,r,.inl #[hk,by simp]]
   rw[gW (tf hj)]at e2;obtain⟨u',r',q⟩:=hl j y v' e1 e2 e3;refine#[u',r',?_];rcases q with⟨k,e⟩|⟨k,c,e,z⟩
   .refine .inl #[k,?_];have:y≠x:=λe=>hj (WI hN e1 (e▸hi))
    simp[this,e]
   exact .inr #[k,c,e,z.sameBut hs (cne y c e)]
  .obtain⟨w',z⟩:=I.cell y c e;exact#[w',z.sameBut hs (cne y c e)]
  obtain⟨e,n,ne,nf,d⟩:=I.pin p hp;exact#[(hs.2 p.1 ne).trans e,n,ne,nf,d]
 have Z:X.fn x=true:=by
  rcases hf with z|z
  .exact z
  rw[z]at hk;cases hk
 obtain⟨c,hc⟩:=I.ok.has x (.inl hk);obtain⟨w',z⟩:=I.cell x c hc;refine wpAny_storeName_cell I.ok.kind hk hc z (λh' hc' hs=>?_)
 obtain⟨oc,hoc,h4⟩:=id z;refine h {s with heap:=h'} #[I.ok,I.os,I.bare,#[λb o e n hb O=>?_,λb o e n hb O=>?_,I.base.free,λb o e O=>?_,I.base.tups,I.base.frzs,I.base.tbls],#[m,hn.sameBut hs (tf (cne x c hc)),λj y v' e1 e2 e3=>?_],λy c' e=>?_,I.free,I.freeC,λp hp=>?_,B #[oc,hoc,I.freeC x c hc] hs,by simpa using I.len] #[c,hs,.inr hc]
 .exact(hs.2 b (hV (t4 (gK e) (I.ok.cab x c Z hc)))).trans (I.base.keep b o e n hb O)
 .obtain⟨sl,e1⟩:=I.base.slot b o e n hb O;exact#[sl,(hs.2 b (hV (t4 (gK e) (I.ok.cab x c Z hc)))).trans e1]
 .obtain⟨o',e1⟩:=I.base.there b o e O;exact#[o',(hs.2 b (hV (t4 (gK e) (I.ok.cab x c Z hc)))).trans e1]
 .by_cases hj:j=i
  .subst hj;rw[hi]at e1;cases e1;rw[List.getElem?_set_self Y]at e2;cases e2;exact#[u,r,.inr #[.inl hk,c,hc,hc']]
  rw[gW (tf hj)]at e2;obtain⟨u',r',q⟩:=hl j y v' e1 e2 e3;refine#[u',r',?_];rcases q with q|⟨k,c',e,z'⟩
  .exact .inl q
  refine .inr #[k,c',e,z'.sameBut hs ?_];rintro rfl;exact hj (WI hN e1 (I.ok.inj _ _ _ e hc▸hi))
 .by_cases hcc:c'=c
  .subst hcc;exact#[_,hc']
  obtain⟨w2,z2⟩:=I.cell y c' e;exact#[w2,z2.sameBut hs hcc]
 obtain⟨e,n,ne,nf,d⟩:=I.pin p hp;refine#[(hs.2 p.1 ?_).trans e,n,ne,nf,d];intro q;rw[q,hoc]at e;have q':oc=p.2:=tP e;exact d w' (by rw[<- q'];exact h4)
def xK{i:Nat}{Q:Unit->ab->Prop}(I:"I" H s)(z:X.N.Nodup)(hi:X.N[i]?=!x)(B:Loc X.env.scope x)(r:RelV v u)
  (h:∀ s',Inv X pins (σ.set i !v) H s'->Q () s')(O:(X.fn x=true\/X.env.scope.names.lookup x=some .local)["t"]):wpAny M A (storeName X.env x u) Q E s :=
 Z3 I z hi B r (λs' I' _=>h s' I') O
def Inv.call'(I:"I" H s)(O:s'.os=s.os)(u:Un (frs X.stack) ch H H' s.heap s'.heap)(z:HOk X.prog X.w H' s'.heap)(U:AllBare s'.gens)
  (B:∀ b∈ch,(b∈X.ex\/X.s₀[0]<=b)/\b≠X.env.locals/\(∀ x c,X.env.cells.lookup x=!c->c≠b)/\∀ p∈X.pn++pins,p.1≠b):"I" H' s':=by
 obtain⟨h',g',d',t',o'⟩:=s';have e:o'=s.os:=O;subst e;exact I.call (g':=g') (t':=t') (d':=d') u z U B
end
abbrev XK:=aa->Option Addr->Hp->Prop
abbrev St:=List (Option V)
abbrev VK:=V->Hp->Prop
abbrev TE:=St->Hp->VK->Prop
abbrev TT:=St->Hp->(Bool->Hp->Prop)->Prop
abbrev TA:=St->Hp->(List V->Hp->Prop)->Prop
structure Ends where
 nx:St->Hp->Prop
 rt:VK
 bk:St->Hp->Prop:=λ_ _=>False
 ct:St->Hp->Prop:=λ_ _=>False
abbrev TS:=Ends->St->Hp->Prop
def EP(X:Cx)(pins:List (Addr×Obj))(σ:St)(Q:VK)(u:aa)(s':ab):Prop:=∃ v H',"I" H' s'/\RelV v u/\Q v H'
def TP(X:Cx)(pins:List (Addr×Obj))(σ:St)(Q:Bool->Hp->Prop)(b:Bool)(s':ab):Prop:=∃ H',"I" H' s'/\Q b H'
def AP(X:Cx)(pins:List (Addr×Obj))(σ:St)(Q:List V->Hp->Prop)(us:List aa)(s':ab):Prop:=∃ vs H',"I" H' s'/\Vals vs us/\Q vs H'
def SP(X:Cx)(pins:List (Addr×Obj))(D:Ends)(f:Flow)(s':ab):Prop :=
 match f with
 | .next=>∃ z H',Inv X pins z H' s'/\D.nx z H'
 | .brk=>∃ z H',Inv X pins z H' s'/\D.bk z H'
 | .cont=>∃ z H',Inv X pins z H' s'/\D.ct z H'
 | .ret u=>∃ v z H',Inv X pins z H' s'/\RelV v u/\D.rt v H'
def PE(X:Cx)(e:Expr)(t:TE):Prop :=
 ∀(pins:List (Addr×Obj)) (s:ab) (σ:St) (H:Hp) (Q:VK),"I" H s->t σ H Q->X[3] (eval e X.env) (EP X pins σ Q) X.xe s
def PT(X:Cx)(e:Expr)(t:TT):Prop :=
 ∀(pins:List (Addr×Obj)) (s:ab) (σ:St) (H:Hp) (Q:Bool->Hp->Prop),"I" H s->t σ H Q->X[3] (isTrue e X.env (eval e X.env)) (TP X pins σ Q) X.xe s
def PA(X:Cx)(es:List Expr)(t:TA):Prop :=
 ∀(pos:Pos) (pins:List (Addr×Obj)) (s:ab) (σ:St) (H:Hp) (Q:List V->Hp->Prop),"I" H s->t σ H Q->X[3] (spliced (backTo pos (starEach es X.env))) (AP X pins σ Q) X.xe s
def PS(X:Cx)(st:Stmt)(t:TS):Prop :=
 ∀(pins:List (Addr×Obj)) (s:ab) (σ:St) (H:Hp) (D:Ends),"I" H s->t D σ H->X[3] (exec st X.env) (SP X pins D) X.xe s
def PSs(X:Cx)(st:List Stmt)(t:TS):Prop :=
 ∀(pins:List (Addr×Obj)) (s:ab) (σ:St) (H:Hp) (D:Ends),"I" H s->t D σ H->X[3] (execs st X.env) (SP X pins D) X.xe s
def thn{M:Model}{A:ag}{E:aa->ab->Prop}{s:ab}(h:wpAny M A t Q E s)(z:∀ a s,Q a s->Q' a s):wpAny M A t Q' E s:=cB h z λ_ _ x=>x
section
variable{X:Cx}
def Qg(i:Nat):TE:=λσ H Q=>∃ v,σ[i]?=!(!v)/\Q v H
def tC(v:V):TE:=λ_ H Q=>Q v H
def WJ{i:Nat}(O:X.N[i]?=!x)(U:Vis X.env.scope x)(hd:((x==("__debug__"))=false)["d"])(B:((x==("__classdict__"))=false)["d"]):PE X (.Name x pos) (Qg i):=by
 intro pins s σ H Q I h;obtain⟨v,e,h⟩:=h;obtain⟨m,hn,hl⟩:=I.loc;obtain⟨u,r,l⟩:=hl i x v O e U;have fin:EP X pins σ Q u s:=#[v,H,I,r,h];rcases l with⟨hk,hm⟩|⟨hk,c,hc,z⟩
 .exact wpAny_Name (wpAny_loadName_local I.ok.kind hk hn hm fin) hd
 rcases hk with hk|hk
 .exact wpAny_Name (wpAny_loadName_cell I.ok.kind hk hc z fin) hd
 exact wpAny_Name (wpAny_loadName_free I.ok.kind hk hc z fin B) hd
def GL{i j pos}:PE X (.Constant i[6] j pos) (tC i[6]):=λ_ _ _ H _ I h=>wpAny_Constant_int #[.int i,H,I.tok _,#[_,rfl],h]
def GO{b j pos}:PE X (.Constant (.bool b) j pos) (tC (.bl b)):=λ_ _ _ H _ I h=>Constant_bool #[.bl b,H,I,rfl,h]
def GP{j pos}:PE X (.Constant .none j pos) (tC .non):=λ_ _ _ H _ I h=>Constant_none #[.non,H,I,rfl,h]
def GQ{x j pos}:PE X (.Constant (.str x) j pos) (tC (.str x)):=λ_ _ _ H _ I h=>Calls.Constant_str #[.str x,H,I.tok _,#[_,rfl],h]
def Gl(X:Cx)(x:Str):Prop:=X.env.kindOf x=some .globalImplicit
def Z4{Q:aa->ab->Prop}(I:"I" H s)(z:Gl X x)(B:X.mg x=!u)(h:Q u s)
  (hd:((x==("__debug__"))=false)["d"]):X[3] (eval (.Name x pos) X.env) Q E s :=
 Calls.Name_function_global I.ok.kind z (Calls.loadGlobal_global (by rw[I.ok.glob];exact I.mod.glob.keeps I.bk) B h) hd
def zH{E:aa->ab->Prop}{Q:aa->ab->Prop}(I:"I" H s)(z:Gl X x)(B:X.mg x=none)(O:bootBuiltins x=!u)(h:Q u s)
  (U:(x≠"__name__")["d"])(hd:((x==("__debug__"))=false)["d"]):X[3] (eval (.Name x pos) X.env) Q E s:=by
 obtain⟨mb,h1,h2⟩:=I.mod.blt;exact Calls.Name_function_global I.ok.kind z (Calls.loadGlobal_builtin (by rw[I.ok.glob];exact I.mod.glob.keeps I.bk) B (by rw[I.ok.blt];exact h1.keeps I.bk) ((h2 x U).trans O) h) hd
def GR(z:Gl X x)(B:X.mg x=!u)(r:RelV v u)(hd:((x==("__debug__"))=false)["d"]):PE X (.Name x pos) (tC v) :=
 λ_ _ _ H _ I h=>Z4 I z B #[v,H,I,r,h] hd
variable{a b:Expr}{ta tb:TE}{pos:Pos}
def WK(b)(h:op≠.In)(h2:op≠.NotIn):behindInMarks op b=false:=by
 have e1:(op==CmpOp.In)=false:=by cases op<;>first|rfl|exact absurd rfl h
 have e2:(op==CmpOp.NotIn)=false:=by cases op<;>first|rfl|exact absurd rfl h2
 cases b<;>simp[behindInMarks,e1,e2]
variable{tA tB':TT}{rest:List Expr}
end
def SqL(K:Frag)(H:Hp)(a:Addr)(xs:List V):Prop :=
 Rd H a (.lst xs) \/
  ∃(o:Obj) (its:Array aa) (n:Nat),K.lookup a=!o/\o.cls=.type "list"/\o.dict=none/\o.data=.seq its n/\its.size<=sizeLine/\Vals xs its[2]
def SqT(K:Frag)(H:Hp)(a:Addr)(xs:List V):Prop :=
 Rd H a (.tup xs) \/
  ∃(o:Obj) (its:Array aa) (n:Nat),K.lookup a=!o/\o.cls=.type "tuple"/\o.data=.seq its n/\its.size<=sizeLine/\Vals xs its[2]
def GS:aa->Option V
 | .none=>some .non
 | .bool b=>!(.bl b)
 | .int i _=>!i[6]
 | .str x _=>!(.str x)
 | .bytes b _=>!(.byt b)
 | .float b _=>!(.flt b)
 | .ref a=>!(.ref a)
 | .type n=>!(.ty n)
 | _=>none
def RelV.abs(r:RelV x u):GS u=!x:=by
 cases x with
 | non=>cases r;rfl
 | bl _=>cases r;rfl
 | int _=>obtain⟨t,rfl⟩:=r;rfl
 | str _=>obtain⟨t,rfl⟩:=r;rfl
 | byt _=>obtain⟨t,rfl⟩:=r;rfl
 | flt _=>obtain⟨t,rfl⟩:=r;rfl
 | ref _=>cases r;rfl
 | ty _=>cases r;rfl
def RelV.inj(r:RelV x u)(q:RelV y u):x=y:=tP (r.abs.symm.trans q.abs)
theorem Vals.inj:∀{xs ys} {us},Vals xs us->Vals ys us->xs=ys
 | _,_,_,.nil,.nil=>rfl
 | _,_,_,.cons r t,.cons r' t'=>by rw[r.inj r',Vals.inj t t']
section
variable{X:Cx}{pins:List (Addr×Obj)}{σ:St}{H:Hp}{s:ab}{a:Addr}{xs ys:List V}
def SqL.of{K:Frag}(h:H a=!(.lst xs)):SqL K H a xs:=.inl (.inl h)
def SqT.of{K:Frag}(h:H a=!(.tup xs)):SqT K H a xs:=.inl (.inl h)
def Inv.list(I:"I" H s)(h:SqL X.K H a xs):∃ its,Vals xs its/\PlainL s.heap a its.toArray/\xs[1]<=sizeLine:=by
 rcases h with h|⟨o,its,n,hk,hc,hd,hs,hz,r⟩
 .obtain⟨z,its,n,r,e⟩:=h.ok I.hok;exact#[its,r,#[_,n,e,rfl,rfl,rfl],z]
 refine#[its[2],r,#[o,n,I.kIn a o hk,hc,hd,by simpa using hs],?_]
 have e:=r[1];simp only[pz]at e;lia
def Inv.tuple(I:"I" H s)(h:SqT X.K H a xs):∃ its,Vals xs its/\IsTup s.heap a its.toArray/\xs[1]<=sizeLine:=by
 rcases h with h|⟨o,its,n,hk,hc,hs,hz,r⟩
 .obtain⟨z,its,r,p⟩:=h.ok I.hok;exact#[its,r,p,z]
 refine#[its[2],r,#[o,I.kIn a o hk,hc,n,by simpa using hs],?_]
 have e:=r[1];simp only[pz]at e;lia
def Inv.list_inj(I:"I" H s)(h:SqL X.K H a xs)(h':SqL X.K H a ys):xs=ys:=by
 obtain⟨its,r,⟨o,n,e,_,_,d⟩,_⟩:=I.list h;obtain⟨its',r',⟨o',n',e',_,_,d'⟩,_⟩:=I.list h';rw[e]at e';cases e';rw[d]at d';injection d' with d1 _;have:its=its':=by simpa using congrArg Array.toList d1
 subst this;exact r.inj r'
def Inv.tuple_inj(I:"I" H s)(h:SqT X.K H a xs)(h':SqT X.K H a ys):xs=ys:=by
 obtain⟨its,r,⟨o,e,_,n,d⟩,_⟩:=I.tuple h;obtain⟨its',r',⟨o',e',_,n',d'⟩,_⟩:=I.tuple h';rw[e]at e';cases e';rw[d]at d';injection d' with d1 _;have:its=its':=by simpa using congrArg Array.toList d1
 subst this;exact r.inj r'
end
abbrev Cx.wish(X:Cx)(E:aa->ab->Prop):Cx:={X with xe:=E}
abbrev Cx.nox(X:Cx):Cx:=X.wish λ_ _=>False
def Cx.Ok.wish{X:Cx}(z:X.Ok)(E):(X.wish E).Ok :=
 #[z.mod,z.kind,z.glob,z.blt,z.above,z.inj,z.has,z.cab,z.hd,z.frames,z.stk,z.exf,z.bs,z.bsz,z.noex,z.exfs,z.funs,z.frf]
def Cx.Ok.unwish{X:Cx}{E:aa->ab->Prop}(z:(X.wish E).Ok):X.Ok :=
 #[z.mod,z.kind,z.glob,z.blt,z.above,z.inj,z.has,z.cab,z.hd,z.frames,z.stk,z.exf,z.bs,z.bsz,z.noex,z.exfs,z.funs,z.frf]
section
variable{X:Cx}{pins:List (Addr×Obj)}{σ:St}{H:Hp}{s:ab}{E:aa->ab->Prop}
def Inv.wish(I:"I" H s)(E):Inv (X.wish E) pins σ H s:=#[I.ok.wish E,I.os,I.bare,I.base,I.loc,I.cell,I.free,I.freeC,I.pin,I.hok,I.len]
def Inv.unwish(I:Inv (X.wish E) pins σ H s):"I" H s:=#[I.ok.unwish,I.os,I.bare,I.base,I.loc,I.cell,I.free,I.freeC,I.pin,I.hok,I.len]
def SP.unwish(h:SP (X.wish E) pins D f s'):SP X pins D f s':=by
 cases f with
 | next=>obtain⟨z,H',I,q⟩:=h;exact#[z,H',I.unwish,q]
 | brk=>obtain⟨z,H',I,q⟩:=h;exact#[z,H',I.unwish,q]
 | cont=>obtain⟨z,H',I,q⟩:=h;exact#[z,H',I.unwish,q]
 | ret u=>obtain⟨v,z,H',I,r,q⟩:=h;exact#[v,z,H',I.unwish,r,q]
def PSs.nox{st:List Stmt}(h:PSs X.nox st t):PSs X st t:=λpins s σ H D I hw =>
 cB (h pins s σ H D (I.wish _) hw) (λ_ _ q=>q.unwish) λ_ _ z=>False.elim z
end
section
variable{X:Cx}{st:Stmt}{rest:List Stmt}{t u:TS}{e:Expr}{te:TE}{pos:Pos}
def Inv.quiet(I:"I" H s):interactive X.env=false:=by simp[interactive,I.ok.kind]
def GT(te:TE):TS:=λD σ H=>te σ H λ_ H1=>D.nx σ H1
def xL(z:PE X e te)(B:(swapsWith e none pos.line X.env=pure false)["r"]):PS X (.Expr e pos) (GT te):=by
 intro pins s σ H D I h;exact wpAny_Expr_any (thn (z pins s σ H _ I h) λv s1 #[x,H1,I1,r1,q1]=>#[σ,H1,I1,q1]) I.quiet B
def GU(te:TE):TS:=λD σ H=>te σ H D.rt
def GV(z:PE X e te):PS X (.Return ↑e pos) (GU te):=by
 intro pins s σ H D I h;exact bS (thn (z pins s σ H _ I h) λv s1 #[x,H1,I1,r1,q1]=>#[x,σ,H1,I1,r1,q1])
end
abbrev TG:=V->St->Hp->(St->Hp->Prop)->Prop
abbrev TGs:=List V->St->Hp->(St->Hp->Prop)->Prop
def PG(X:Cx)(z:Expr)(t:TG):Prop :=
 ∀(pins:List (Addr×Obj)) (s:ab) (σ:St) (H:Hp) (v:V) (u:aa) (Q:St->Hp->Prop),"I" H s->RelV v u->t v σ H Q ->
  X[3] (assign z X.env u) (λ_ s'=>∃ B H',Inv X pins B H' s'/\Q B H') X.xe s
def PGs(X:Cx)(B:List Expr)(t:TGs):Prop :=
 ∀(pins:List (Addr×Obj)) (s:ab) (σ:St) (H:Hp) (vs:List V) (us:List aa) (Q:St->Hp->Prop),"I" H s->Vals vs us->t vs σ H Q ->
  X[3] (assignInOrder ((assignEach B X.env).map (·.2)) us) (λ_ s'=>∃ z H',Inv X pins z H' s'/\Q z H') X.xe s
abbrev TSet:=V->V->V->Hp->(Hp->Prop)->Prop
def PSet(X:Cx)(t:TSet):Prop :=
 ∀(pins:List (Addr×Obj)) (s:ab) (σ:St) (H:Hp) (o i v:V) (ov iv u:aa) (Q:Hp->Prop),"I" H s->RelV o ov->RelV i iv->RelV v u->t o i v H Q ->
  X[3] (setItem ov iv u) (λ_ s'=>∃ H',"I" H' s'/\Q H') X.xe s
abbrev TIp:=V->V->Hp->VK->Prop
def PIp(X:Cx)(op:Operator)(t:TIp):Prop :=
 ∀(pins:List (Addr×Obj)) (s:ab) (σ:St) (H:Hp) (x y:V) (v u:aa) (Q:VK),"I" H s->RelV x v->RelV y u->t x y H Q ->
  X[3] (inplaceOp op v u) (EP X pins σ Q) X.xe s
section
variable{X:Cx}{pos:Pos}
def GW(i:Nat):TG:=λv σ H Q=>Q (σ.set i !v) H
def WL{i:Nat}(z:X.N.Nodup)(hi:X.N[i]?=!x)(B:Loc X.env.scope x)(O:(X.fn x=true\/X.env.scope.names.lookup x=some .local)["t"]):PG X (.Name x pos) (GW i):=by
 intro pins s σ H v u Q I r h;exact bT (xK I z hi B r (λs' I'=>#[_,H,I',h]) O)
def GX:TGs:=λvs σ H Q=>vs=[]/\Q σ H
def GY(t:TG)(u:TGs):TGs:=λvs σ H Q=>∃ v r,vs=v::r/\t v σ H λz H'=>u r z H' Q
def GZ:PGs X [] GX:=by
 intro pins s σ H vs us Q I r h;obtain⟨e,h⟩:=h;subst e;cases r;exact assignInOrder_nil #[σ,H,I,h]
def T0{t:TG}{u:TGs}(h1:PG X e t)(h2:PGs X es u)
  (z:((assignEach (e::es) X.env).map (·.2)=assign e X.env::(assignEach es X.env).map (·.2))["r"]):PGs X (e::es) (GY t u):=by
 intro pins s σ H vs us Q I r h;obtain⟨v,vr,e1,h⟩:=h;subst e1;cases r with
 | cons r rr =>
  rw[z];refine assignInOrder_cons (thn (h1 pins s σ H _ _ _ I r h) λ_ s1 #[σ1,H1,I1,q1]=>?_)
  exact h2 pins s1 σ1 H1 _ _ Q I1 rr q1
def T1(K:Frag)(n:Nat)(t:TGs):TG:=λv σ H Q=>∃ a xs,v=.ref a/\SqT K H a xs/\xs[1]=n/\t xs σ H Q
def T3{k:Nat}{n:Nat}(B:X.calm=true)(h:PGs X es t)
  (O:((assignEach es X.env)[1]=n)["r"])(z:((assignEach es X.env).findIdx? (·.1)=none)["r"]):PG X (.Tuple es k pos) (T1 X.K n t):=by
 intro pins s σ H v u Q I r hw;obtain⟨a,xs,e1,hq,hl,hw⟩:=hw;subst e1;cases r;obtain⟨its,rv,ht,hz⟩:=I.tuple hq;refine assign_Tuple_tuple (I.ok.hd B) ht (by simp[O,<- hl,rv[1]]) z λh' hx=>?_
 have I1:"I" H {s with heap:=h'}:=I.kept (t':=s.toks) λb o e=>hx b o (hV (gK e)) e
 exact h pins _ σ H xs _ Q I1 rv[""] hw
def T4(to z:TE)(t:TSet):TG:=λv σ H Q=>to σ H λo H1=>z σ H1 λi H2=>t o i v H2 λH3=>Q σ H3
def T5{to z:TE}{t:TSet}(B:PE X o to)(hi:PE X i z)(O:PSet X t)
  (U:∀ v,assign (.Subscript o i pos) X.env v=(do
   let ov <- holding [v] (eval o X.env)
   let iv <- holding [v,ov] (eval i X.env)
   standAt pos
   holding [v,ov,iv] (setItem ov iv v)
   release [v,ov,iv] []):=by intro _;rfl):PG X (.Subscript o i pos) (T4 to z t):=by
 intro pins s σ H v u Q I r h;rw[U];refine g6 (fT (thn (B pins s σ H _ I h) λov s1 #[x,H1,I1,r1,q1]=>?_))
 refine g6 (fT (thn (hi pins s1 σ H1 _ I1 q1) λiv s2 #[y,H2,I2,r2,q2]=>?_))
 refine g6 (bZ (g6 (fT (thn (O pins s2 σ H2 x y v ov iv u _ I2 r1 r2 r q2) λ_ s3 #[H3,I3,q3]=>?_))))
 exact wpAny_release #[σ,H3,I3,q3]
def T6(te:TE)(g:TG):TS:=λD σ H=>te σ H λx H1=>g x σ H1 D.nx
def T7{tg e:Expr}{te:TE}{g:TG}(z:PE X e te)(B:PG X tg g)(O:(swapsWithSole [tg] e pos.line X.env=pure false)["r"])(U:(swappedStores [tg] e X.env=pure none)["r"])
  (h1:((assignEach [tg] X.env).map (·.2)=[assign tg X.env])["r"]):PS X (.Assign [tg] e pos) (T6 te g):=by
 intro pins s σ H D I h;refine wpAny_Assign_stores (thn (z pins s σ H _ I h) λv s1 #[x,H1,I1,r1,q1]=>?_) O U
 rw[h1];exact thn (B pins s1 σ H1 x v _ I1 r1 q1) λ_ s2 q=>q
def T8(i:Nat)(te:TE)(B:TIp):TS:=λD σ H=>∃ x,σ[i]?=!(!x)/\te σ H λy H1=>B x y H1 λz H2=>D.nx (σ.set i !z) H2
def T9(Z:X.N.Nodup)(hi:X.N[i]?=!x)(U:Loc X.env.scope x)(he:PE X e te)(ho:PIp X op ti)(hf:(X.fn x=true\/X.env.scope.names.lookup x=some .local)["t"]) :
  PS X (.AugAssign (.Name x pos') op e pos) (T8 i te ti):=by
 intro pins s σ H D I h;obtain⟨v,e1,h⟩:=h;obtain⟨m,hn,hl⟩:=I.loc;have Y:Vis X.env.scope x:=by rcases U with k|k;exact .inl k;exact .inr (.inl k)
 obtain⟨u,r,l⟩:=hl i x v hi e1 Y;refine wpAny_AugAssign_Name ?_;have go:X[3] (eval e X.env) (λw s₂=>X[3] (inplaceOp op u w) (λr O=>X[3] (storeName X.env x r) (λ_=>SP X pins D .next) X.xe O) X.xe s₂) X.xe s:=by
  refine thn (he pins s σ H _ I h) λw s1 #[y,H1,I1,r1,q1]=>?_
  refine thn (ho pins s1 σ H1 v y u w _ I1 r r1 q1) λz s2 #[zv,H2,I2,r2,q2]=>?_
  exact xK I2 Z hi U r2 (λs3 I3=>#[_,H2,I3,q2]) hf
 rcases l with⟨hk,hm⟩|⟨hk,c,hc,B⟩
 .exact wpAny_loadName_local I.ok.kind hk hn hm go
 rcases hk with hk|hk
 .exact wpAny_loadName_cell I.ok.kind hk hc B go
 rcases U with k|k
 .have:X.env.scope.names.lookup x=some .free:=hk;rw[k]at this;cases this
 have:X.env.scope.names.lookup x=some .free:=hk;rw[k]at this;cases this
def Ta(c:TT)(tb:TS):TS:=λD σ H=>∃ W:Nat->St->Hp->Prop,(∃ m,W m σ H)/\∀ m σ H,W m σ H ->
 c σ H λb H1=>if b=true then ∃ N:St->Hp->Prop,(∀ z H',N z H'->∃ m',m'<m/\W m' z H')/\tb {D with nx:=N,ct:=N,bk:=D.nx} σ H1 else D.nx σ H1
def Tb{tc:TT}{tb:TS}(hp:PassesOwn (model X.prog X.w) X.A X.env X.xe)(O:PT X c tc)(U:PSs X body tb):PS X (.While c body [] pos) (Ta tc tb):=by
 intro pins s σ H D I h;obtain⟨W,⟨m0,w0⟩,turn⟩:=h;refine wpAny_While (codeAny_whileLoop (λn s'=>∃ B H',Inv X pins B H' s'/\W n B H') ?_ m0 #[σ,H,I,w0])
 rintro n s1 ⟨σ1,H1,I1,w1⟩;refine cC hp (thn (O pins s1 σ1 H1 _ I1 (turn n σ1 H1 w1)) λb s2 #[H2,I2,q2]=>?_)
 cases b with
 | true =>
  obtain⟨N,hN,q2⟩:=q2;rw[if_pos rfl];refine cC hp (thn (U pins s2 σ1 H2 _ I2 q2) λf s3 q3=>?_)
  cases f with
  | next =>
   obtain⟨z,H3,I3,n3⟩:=q3;obtain⟨m',hm,w3⟩:=hN z H3 n3;exact#[m',hm,z,H3,I3,w3]
  | cont =>
   obtain⟨z,H3,I3,n3⟩:=q3;obtain⟨m',hm,w3⟩:=hN z H3 n3;exact#[m',hm,z,H3,I3,w3]
  | brk=>exact q3
  | ret v=>exact q3
 | false =>
  rw[if_neg pX];exact bB #[σ1,H2,I2,q2]
end
structure It where
 go:Nat->Hp->Prop
 yld:Nat->Hp->V->Hp->Prop
 stop:Nat->Hp->Prop
def FpOk(X:Cx)(pins:List (Addr×Obj))(H:Hp)(b:Addr):Prop :=
 H b=none/\b≠X.env.locals/\b∉X.fs/\(b∈X.ex\/X.s₀[0]<=b)/\(∀ x c,X.env.cells.lookup x=!c->c≠b)/\∀ p∈X.pn++pins,p.1≠b
def Inv.fpOk{H H':Hp}{s:ab}(I:"I" H s)(B:s[0]<=b)(O:H' b=none):FpOk X pins H' b:=by
 refine#[O,fV (t4 I.lt B),I.nofs B,.inr (f8 I.sz B),λx c e z=>?_,λp hp z=>?_]
 .obtain⟨v,q⟩:=I.cell x c e;exact absurd (t4 q.lt (by rw[z];exact B)) (fB _)
 exact absurd (t4 (gK (I.pin p hp).1) (by rw[z];exact B)) (fB _)
structure Turn(P:Program)(w:World)(K:Frag)(tg:Expr)(J:It)(fp:List Addr)(it:Addr)(tn:Nat->Heap->Prop):Prop where
 mem:it∈fp
 obj:∀ i h,tn i h->∀ b∈fp,∃ o,h.get? b=!o/\∀ v,o.data≠.cell v
 keep:∀ i h h',tn i h->(∀ b∈fp,∀ o,h.get? b=!o->h'.get? b=!o)->tn i h'
 item:∀(X:Cx),X.prog=P->X.w=w->X.K=K->X.calm=true->∀(i:Nat) (pins:List (Addr×Obj)) (s:Shared) (σ:St) (H:Hp) (E:Value->Shared->Prop),"I" H s->(∀ b∈fp,FpOk X pins H b)->tn i s.heap->J.go i H ->
  wpAny (model P w) X.A (pyNext (.ref it)) (λr s1=>∃ u,r=↑u /\
   wpAny (model P w) X.A (letOwnedTupleGo tg (.ref it) u) (λ_ s2=>∃ x H',"I" H' s2/\RelV x u/\J.yld i H x H'/\tn (i+1) s2.heap/\∀ b∈fp,H' b=none) E s1) E s
 done:∀(X:Cx),X.prog=P->X.w=w->X.K=K->X.calm=true->∀(i:Nat) (pins:List (Addr×Obj)) (s:Shared) (σ:St) (H:Hp) (E:Value->Shared->Prop),"I" H s->(∀ b∈fp,FpOk X pins H b)->tn i s.heap->J.stop i H ->
  wpAny (model P w) X.A (pyNext (.ref it)) (λr s1=>r=none/\"I" H s1) E s
 self:∀(A:Around) (i:Nat) (s:Shared) (Q:Value->Shared->Prop) (E:Value->Shared->Prop),tn i s.heap->Q (.ref it) s->wpAny (model P w) A (pyIter (.ref it)) Q E s
abbrev TI:=St->Hp->(It->Hp->Prop)->Prop
def PIE(X:Cx)(pins:List (Addr×Obj))(σ:St)(tg:Expr)(R:It->Hp->Prop)(z:aa)(B:ab):Prop :=
 ∃(it:Addr) (fp:List Addr) (tn:Nat->Heap->Prop) (J:It) (H':Hp),z=.ref it/\"I" H' B/\Turn X.prog X.w X.K tg J fp it tn/\tn 0 B.heap/\(∀ b∈fp,FpOk X pins H' b)/\R J H'
def PI(X:Cx)(tg iter:Expr)(z:TI):Prop :=
 ∀(pins:List (Addr×Obj)) (s:ab) (σ:St) (H:Hp) (R:It->Hp->Prop),"I" H s->z σ H R ->
  X[3] (eval iter X.env) (λv s1=>X[3] (pyIter v) (PIE X pins σ tg R) X.xe s1) X.xe s
def yt{s:ab}{o:Obj}{Q:Unit->ab->Prop}(B:s.heap.get? it=!o)(O:o.cls=.type n)(hd:o.data=.fields vs)
    (U:["enumerate","zip","dict_itemiterator","dict_reverseitemiterator","odict_iterator","itertools.zip_longest","itertools.pairwise"].contains n=false)(z:Q () s):wpAny M A (letOwnedTupleGo tg (.ref it) u) Q E s:=by
  unfold letOwnedTupleGo;cases tg<;>first
    | exact gu z
    | (cases u<;>first
        | exact gu z
        | (refine g6 (wpAny_load B ?_)
           rw[O,hd];show wpAny M A (if (["enumerate","zip","dict_itemiterator","dict_reverseitemiterator","odict_iterator","itertools.zip_longest","itertools.pairwise"].contains n&&vs[0]?==!(rawInt _))=true then _ else _) Q E s
           rw[if_neg (by intro h;rw[U,bO]at h;cases h)]
           exact gu z))
def Itl(K:Frag)(a:Addr):It :=
 #[λi H=>∃ xs x,SqL K H a xs/\xs[i]?=!x,λi H x H'=>H'=H/\∀ xs,SqL K H a xs->xs[i]?=!x,λi H=>∃ xs,SqL K H a xs/\xs[1]<=i]
def Itt(K:Frag)(a:Addr):It :=
 #[λi H=>∃ xs x,SqT K H a xs/\xs[i]?=!x,λi H x H'=>H'=H/\∀ xs,SqT K H a xs->xs[i]?=!x,λi H=>∃ xs,SqT K H a xs/\xs[1]<=i]
def Itr(lo:Int)(n:Nat):It:=#[λi _=>i<n,λi H x H'=>H'=H/\x=.int (lo+i),λi _=>n<=i]
def Tc{K:Frag}(a it:Addr):Turn P w K tg (Itl K a) [it] it (λi h=>h.IsListIter it a i)where
 mem:=by simp
 obj:=λi h st b hb=>by
  have e:b=it:=by simpa using hb
  subst e;obtain⟨o,e,c,d⟩:=st;exact#[o,e,λv z=>by rw[d]at z;cases z]
 keep:=λi h h' st k=>st.at λo e=>k it "s" o e
 item:=by
  intro X hP hw hK hc i pins s σ H E I hf st hg;subst hP hw hK;obtain⟨xs,x,hq,hx⟩:=hg;obtain⟨its,rv,p,hz⟩:=I.list hq;obtain⟨u,hu,ru⟩:=rv.get hx;obtain⟨f0,f1,f2,f3,f4,f5⟩:=hf it "s"
  refine wpAny_pyNext_list_item st p.isList (x:=u) hu[""] λh' B sb=>?_
  have I1:"I" H {s with heap:=h'}:=I.turned (t':=s.toks) (λb o hb e=>(sb.2 b hb).trans e) f0 f1 f3 f4 f5
  obtain⟨o,e,c,d⟩:=id B;exact#[u,rfl,yt (s:={s with heap:=h'}) e c d "d" #[x,H,I1,ru,#[rfl,λys hy=>by rw[I.list_inj hy hq];exact hx],B,λb hb=>(hf b hb).1]]
 done:=by
  intro X hP hw hK hc i pins s σ H E I hf st hg;subst hP hw hK;obtain⟨xs,hq,hx⟩:=hg;obtain⟨its,rv,p,hz⟩:=I.list hq;obtain⟨f0,f1,f2,f3,f4,f5⟩:=hf it "s"
  have hl:=rv[1];exact wpAny_pyNext_list_end (I.ok.hd hc) st p.isList (by simp;lia) λh' eb=>#[rfl,I.turned (t':=s.toks) (λb o hb e=>eb b o hb e) f0 f1 f3 f4 f5]
 self:=λ_ _ _ _ _ st h=>wpAny_pyIter_listiter st h
def Td{K:Frag}(a it:Addr):Turn P w K tg (Itt K a) [it] it (λi h=>h.IsTupleIter it a i)where
 mem:=by simp
 obj:=λi h st b hb=>by
  have e:b=it:=by simpa using hb
  subst e;obtain⟨o,e,c,d⟩:=st;exact#[o,e,λv z=>by rw[d]at z;cases z]
 keep:=λi h h' st k=>st.at λo e=>k it "s" o e
 item:=by
  intro X hP hw hK hc i pins s σ H E I hf st hg;subst hP hw hK;obtain⟨xs,x,hq,hx⟩:=hg;obtain⟨its,rv,p,hz⟩:=I.tuple hq;obtain⟨u,hu,ru⟩:=rv.get hx;obtain⟨f0,f1,f2,f3,f4,f5⟩:=hf it "s"
  refine wpAny_pyNext_tuple_item st (show s.heap.IsTuple a its.toArray from p) (x:=u) hu[""] λh' B sb=>?_
  have I1:"I" H {s with heap:=h'}:=I.turned (t':=s.toks) (λb o hb e=>(sb.2 b hb).trans e) f0 f1 f3 f4 f5
  obtain⟨o,e,c,d⟩:=id B;exact#[u,rfl,yt (s:={s with heap:=h'}) e c d "d" #[x,H,I1,ru,#[rfl,λys hy=>by rw[I.tuple_inj hy hq];exact hx],B,λb hb=>(hf b hb).1]]
 done:=by
  intro X hP hw hK hc i pins s σ H E I hf st hg;subst hP hw hK;obtain⟨xs,hq,hx⟩:=hg;obtain⟨its,rv,p,hz⟩:=I.tuple hq;obtain⟨f0,f1,f2,f3,f4,f5⟩:=hf it "s"
  have hl:=rv[1];exact wpAny_pyNext_tuple_end (I.ok.hd hc) st (show s.heap.IsTuple a its.toArray from p) (by simp;lia) λh' eb=>#[rfl,I.turned (t':=s.toks) (λb o hb e=>eb b o hb e) f0 f1 f3 f4 f5]
 self:=λ_ _ _ _ _ st h=>wpAny_pyIter_tupleiter st h
def Te{K:Frag}(it:Addr)(lo:Int)(n:Nat):Turn P w K tg (Itr lo n) [it] it (λi h=>IsRangeIter h it (lo+(i:Nat)*1) ((n:Int)-(i:Nat)) 1)where
 mem:=by simp
 obj:=λi h st b hb=>by
  have e:b=it:=by simpa using hb
  subst e;exact#[_,st,λv z=>by
   have z':Data.fields _=Data.cell v:=z;cases z']
 keep:=λi h h' st k=>k it "s" _ st
 item:=by
  intro X hP hw hK hc i pins s σ H E I hf st hg;subst hP hw hK;obtain⟨f0,f1,f2,f3,f4,f5⟩:=hf it "s"
  have W:=Walks.range (prog:=X.prog) (w:=X.w) (I.ok.hd hc) it lo 1 n;refine W.item i s _ _ hg st λv h' tk hv B kk=>?_
  obtain⟨t,rfl⟩:=hv;have I1:"I" H {s with heap:=h',toks:=tk}:=I.turned (λb o hb e=>kk b o hb[""] e) f0 f1 f3 f4 f5
  refine#[_,rfl,yt (s:={s with heap:=h',toks:=tk}) (n:="range_iterator") B rfl rfl "d" #[.int (lo+i),H,I1,#[t,?_],#[rfl,rfl],B,λb hb=>(hf b hb).1]]
  rw[Int.mul_one]
 done:=by
  intro X hP hw hK hc i pins s σ H E I hf st hg;subst hP hw hK;obtain⟨f0,f1,f2,f3,f4,f5⟩:=hf it "s"
  exact wpAny_pyNext_range_end (I.ok.hd hc) st (by have:n<=i:=hg;lia) λh' eb=>#[rfl,I.turned (t':=s.toks) (λb o hb e=>eb b o hb e) f0 f1 f3 f4 f5]
 self:=λ_ _ _ _ _ st h=>wpAny_pyIter_rangeiter st h
section
variable{X:Cx}{tg:Expr}
def WM(K:Frag)(tl:TE):TI:=λσ H R=>tl σ H λx H1=>∃ a,x=.ref a/\(∃ xs,SqL K H1 a xs)/\R (Itl K a) H1
def WN(K:Frag)(tl:TE):TI:=λσ H R=>tl σ H λx H1=>∃ a,x=.ref a/\(∃ xs,SqT K H1 a xs)/\R (Itt K a) H1
def Z5(z:PE X l tl):PI X tg l (WM X.K tl):=by
 intro pins s σ H R I h;refine thn (z pins s σ H _ I h) λv s1 #[x,H1,I1,r1,q1]=>?_
 obtain⟨a,e,⟨xs,hq⟩,q⟩:=q1;subst e;cases r1;obtain⟨its,rv,p,hz⟩:=I1.list hq;refine wpAny_pyIter_list p.isList ?_;refine#[s1[0],[s1[0]],_,_,H1,rfl,I1.kept (t':=s1.toks) λb o e=>gq _ e,Tc a _,#[_,gM _ rfl,rfl,rfl],λb hb=>?_,q]
 have e:b=s1[0]:=by simpa using hb
 subst e;exact I1.fpOk (gw _) (I1.hok.fresh (gw _))
def Z6(z:PE X l tl):PI X tg l (WN X.K tl):=by
 intro pins s σ H R I h;refine thn (z pins s σ H _ I h) λv s1 #[x,H1,I1,r1,q1]=>?_
 obtain⟨a,e,⟨xs,hq⟩,q⟩:=q1;subst e;cases r1;obtain⟨its,rv,p,hz⟩:=I1.tuple hq;refine bI (show s1.heap.IsTuple a its.toArray from p) ?_
 refine#[s1[0],[s1[0]],_,_,H1,rfl,I1.kept (t':=s1.toks) λb o e=>gq _ e,Td a _,#[_,gM _ rfl,rfl,rfl],λb hb=>?_,q]
 have e:b=s1[0]:=by simpa using hb
 subst e;exact I1.fpOk (gw _) (I1.hok.fresh (gw _))
def WO{s:ab}{R:It->Hp->Prop}{E:aa->ab->Prop}{lo hi:Int}{tk:Nat}(I:"I" H s)(h1:-(2 ^ 62)<=lo)(h2:lo<2 ^ 62)(z:-(2 ^ 62)<=hi)(B:hi<2 ^ 62)
  (q:R (Itr lo (hi-lo).toNat) H):X[3] (pyIter (.ref s[0])) (PIE X pins σ tg R) E {s with heap:=s.heap.push {cls:=.type "range",data:=.fields (List.toArray [.int lo t,.int hi u,.int 1 v])},toks:=tk}:=by
 refine wpAny_pyIter_range (IsRange.new ..) (small_one h1 h2 z B) ?_;have I1:"I" H {s with heap:=s.heap.push {cls:=.type "range",data:=.fields (List.toArray [.int lo t,.int hi u,.int 1 v])},toks:=tk}:=I.kept λb o e=>gq _ e
 refine#[(s.heap.push {cls:=.type "range",data:=.fields (List.toArray [.int lo t,.int hi u,.int 1 v])}).objs.size,[(s.heap.push {cls:=.type "range",data:=.fields (List.toArray [.int lo t,.int hi u,.int 1 v])}).objs.size],_,_,H,rfl,
  I1.kept (t':=tk) λb o e=>gq _ e,Te _ lo (hi-lo).toNat,?_,λb hb=>?_,q]
 .have e1:lo+((0:Nat):Int)*1=lo:=by simp
  have e2:(((hi-lo).toNat:Nat):Int)-((0:Nat):Int)=Builtin.Range.rangeSize lo hi 1:=by rw[rangeSize_one];split<;>lia
  show IsRangeIter _ _ (lo+((0:Nat):Int)*1) ((((hi-lo).toNat:Nat):Int)-((0:Nat):Int)) 1;rw[e1,e2];exact gM _ rfl
 have e:b=(s.heap.push {cls:=.type "range",data:=.fields (List.toArray [.int lo t,.int hi u,.int 1 v])}).objs.size:=by simpa using hb
 subst e;exact I1.fpOk (gw _) (I1.hok.fresh (gw _))
def Tf(ta:TA):TI:=λσ H R=>ta σ H λvs H1=>∃ j:Int,vs=[.int j]/\-(2 ^ 62)<=j/\j<2 ^ 62/\R (Itr 0 j.toNat) H1
def Tg(ta:TA):TI:=λσ H R=>ta σ H λvs H1=>∃ i j:Int,vs=[.int i,.int j]/\(-(2 ^ 62)<=i/\i<2 ^ 62/\-(2 ^ 62)<=j/\j<2 ^ 62)/\R (Itr i (j-i).toNat) H1
def Th(z:Gl X "range")(B:X.mg "range"=none)(O:PA X [a] ta)(U:(starEach [a] X.env=[(false,eval a X.env)])["r"]):PI X tg (.Call (.Name "range" p) [a] [] pos) (Tf ta):=by
 intro pins s σ H R I h;refine Call_ (zH I z B boot_range (tw (thn (O pos pins s σ H _ I h) λus s1 #[vs,H1,I1,r1,q1]=>?_) U rfl))
 obtain⟨j,e,q1,q2,q⟩:=q1;subst e;cases r1 with
 | cons r rr =>
  cases rr;obtain⟨t,rfl⟩:=r;exact call_range_1 (WO I1 "" "" q1 q2 q[""])
def Ti{p pos:Pos}(B:Gl X "range")(O:X.mg "range"=none)(U:PA X [a,b] ta)(Y:(starEach [a,b] X.env=[(false,eval a X.env),(false,eval b X.env)])["r"])(z:(starEach [b] X.env=[(false,eval b X.env)])["r"]) :
  PI X tg (.Call (.Name "range" p) [a,b] [] pos) (Tg ta):=by
 intro pins s σ H R I h;refine Call_ (zH I B O boot_range (tw (thn (U pos pins s σ H _ I h) λus s1 #[vs,H1,I1,r1,q1]=>?_) (by rw[Y,z]) (by rw[z];rfl)))
 obtain⟨i,j,e,⟨q1,q2,q3,q4⟩,q⟩:=q1;subst e;cases r1 with
 | cons r rr =>
  cases rr with
  | cons r' rr =>
   cases rr;obtain⟨t,rfl⟩:=r;obtain⟨t',rfl⟩:=r';exact call_range_2 (WO I1 q1 q2 q3 q4 q)
def Tj(O:TI)(g:TG)(tb:TS):TS:=λD σ H=>O σ H λJ H1=>∃ W:Nat->Nat->St->Hp->Prop,(∃ m,W 0 m σ H1)/\∀ i m σ H,W i m σ H ->
 (J.stop i H/\D.nx σ H)\/(J.go i H/\∃ N:St->Hp->Prop,(∀ z H',N z H'->∃ m',m'<m/\W (i+1) m' z H')/\∀ x H',J.yld i H x H'->g x σ H' λB H2=>tb {D with nx:=N,ct:=N,bk:=D.nx} B H2)
def xM(fp:List Addr)(h:Heap):List (Addr×Obj):=fp.filterMap λb=>(h.get? b).map λo=>(b,o)
def Qh(z:b∈fp)(e:h.get? b=!o):(b,o)∈xM fp h:=List.mem_filterMap.mpr #[b,z,by rw[e];rfl]
def Tk(hp:p∈xM fp h):p.1∈fp/\h.get? p.1=!p.2:=by
 obtain⟨b,hb,e⟩:=List.mem_filterMap.mp hp;cases q:h.get? b with
 | none=>rw[q]at e;cases e
 | some o =>
  rw[q]at e;have e':(b,o)=p:=tP e;subst e';exact#[hb,q]
def Inv.pinned{s:ab}(I:"I" H s)(B:∀ b∈fp,FpOk X pins H b)(O:∀ b∈fp,∃ o,s.heap.get? b=!o/\∀ v,o.data≠.cell v):Inv X (pins++xM fp s.heap) σ H s :=
 I.pins_of λp hp=>(gC.mp hp).elim (λz=>I.pin p (tm _ z)) λz=>by
  obtain⟨hb,e⟩:=Tk z;obtain⟨f0,f1,f2,_⟩:=B p.1 hb;obtain⟨o,e',d⟩:=O p.1 hb;rw[e]at e';cases e';exact#[e,f0,f1,f2,d]
def Inv.unpinned(I:Inv X (pins++pl) σ H s):"I" H s:=I.pins_of λp hp=>I.pin p (tm _ (tj _ hp))
def Tl{wi:TI}{g:TG}{tb:TS}{pos:Pos}(hp:PassesOwn (model X.prog X.w) X.A X.env X.xe)(hc:X.calm=true)(hi:PI X tg iter wi)(hg:PG X tg g)(B:PSs X body tb)
  (hs:∀ x,foldedSetIterable iter X.env x=pure x:=by intro _;rfl):PS X (.For tg iter body [] pos) (Tj wi g tb):=by
 intro pins s σ H D I h;refine wpAny_For (thn (hi pins s σ H _ I h) λv s1 h1=>thn h1 λitv s2 h2=>?_) hs
 obtain⟨it,fp,tn,J,H2,e,I2,T,st2,f2,W,⟨m0,w0⟩,turn⟩:=h2;subst e;have O:∀{H':Hp},(∀ b∈fp,H' b=none)->∀ b∈fp,FpOk X pins H' b:=λhn b B=>#[hn b B,(f2 b B).2]
 refine codeAny_forLoop_any (λn s'=>∃ i Y H',Inv X pins Y H' s'/\tn i s'.heap/\(∀ b∈fp,H' b=none)/\W i n Y H') ?_ m0 #[0,σ,H2,I2,st2,λb B=>(f2 b B).1,w0]
 rintro n s3 ⟨i,σ3,H3,I3,st3,fr3,w3⟩;rcases turn i n σ3 H3 w3 with⟨stop,qn⟩|⟨go,N,hN,step⟩
 .refine cC hp (thn (T.done X rfl rfl rfl hc i pins s3 σ3 H3 X.xe I3 (O fr3) st3 stop) λr s4 #[hr,I4]=>?_)
  subst hr;exact bB #[σ3,H3,I4,qn]
 refine cC hp (thn (T.item X rfl rfl rfl hc i pins s3 σ3 H3 X.xe I3 (O fr3) st3 go) λr s4 #[u,hr,h4]=>?_)
 subst hr;refine cC hp (thn h4 λ_ s5 #[x,H5,I5,r5,y5,st5,fr5]=>?_)
 have Z:=I5.pinned (O fr5) (T.obj _ _ st5);refine cC hp (thn (hg _ s5 σ3 H5 x u _ Z r5 (step x H5 y5)) λ_ s6 #[σ6,H6,I6,q6]=>?_)
 refine cC hp (thn (B _ s6 σ6 H6 _ I6 q6) λf s7 q7=>?_)
 have U:∀{z:St} {H7:Hp},Inv X (pins++xM fp s5.heap) z H7 s7->N z H7->∃ m,m<n/\∃ i Y H',Inv X pins Y H' s7/\tn i s7.heap/\(∀ b∈fp,H' b=none)/\W i m Y H':=λ{z H7} I7 n7=>by
  obtain⟨m',hm,w7⟩:=hN z H7 n7;refine#[m',hm,i+1,z,H7,I7.unpinned,T.keep _ _ _ st5 λb B o e=>(I7.pin (b,o) (tm _ (tm _ (Qh B e)))).1,λb B=>?_,w7]
  obtain⟨o,e,d⟩:=T.obj _ _ st5 b B;exact(I7.pin (b,o) (tm _ (tm _ (Qh B e)))).2.1
 cases f with
 | next=>obtain⟨z,H7,I7,n7⟩:=q7;exact U I7 n7
 | cont=>obtain⟨z,H7,I7,n7⟩:=q7;exact U I7 n7
 | brk=>obtain⟨z,H7,I7,q7⟩:=q7;exact#[z,H7,I7.unpinned,q7]
 | ret v=>obtain⟨x7,z,H7,I7,r7,q7⟩:=q7;exact#[x7,z,H7,I7.unpinned,r7,q7]
end
abbrev R2:=V->V->Hp->VK->Prop
def OpR(X:Cx)(f:aa->aa->Sem aa)(r:R2):Prop :=
 ∀(pins:List (Addr×Obj)) (s:ab) (σ:St) (H:Hp) (x y:V) (v u:aa) (Q:VK),"I" H s->RelV x v->RelV y u->r x y H Q ->
  X[3] (f v u) (EP X pins σ Q) X.xe s
def yu(X:Cx)(f:aa)(r:List V->Hp->VK->Prop):Prop :=
 ∀(pins:List (Addr×Obj)) (s:ab) (σ:St) (H:Hp) (xs:List V) (us:List aa) (Q:VK),"I" H s->Vals xs us->r xs H Q ->
  X[3] (call f us) (EP X pins σ Q) X.xe s
def TruR(X:Cx)(r:V->Hp->(Bool->Hp->Prop)->Prop):Prop :=
 ∀(pins:List (Addr×Obj)) (s:ab) (σ:St) (H:Hp) (x:V) (v:aa) (Q:Bool->Hp->Prop),"I" H s->RelV x v->r x H Q ->
  X[3] (truthy v) (TP X pins σ Q) X.xe s
def tOp(r:R2)(ta tb:TE):TE:=λσ H Q=>ta σ H λx H1=>tb σ H1 λy H2=>r x y H2 Q
def rI(C:Int->Int->Prop)(g:Int->Int->V):R2:=λx y H Q=>∃ i j,x=.int i/\y=.int j/\C i j/\Q (g i j) H
def rI0(g:Int->Int->V):R2:=λx y H Q=>∃ i j,x=.int i/\y=.int j/\Q (g i j) H
section
variable{X:Cx}{a b c:Expr}{ta tb tc:TE}{pos:Pos}
def Tn(B:PE X a ta)(O:PE X b tb){pins:List (Addr×Obj)}{s:ab}{σ:St}{H:Hp}{R:V->V->Hp->Prop}(I:"I" H s)
  (h:ta σ H λx H1=>tb σ H1 λy H2=>R x y H2){Q:aa->ab->Prop}{f:aa->aa->Sem aa}
  (U:∀ v u s2 x y H2,"I" H2 s2->RelV x v->RelV y u->R x y H2->X[3] (f v u) Q X.xe s2) :
  X[3] (eval a X.env) (λv z=>X[3] (eval b X.env) (λu s₂=>X[3] (f v u) Q X.xe s₂) X.xe z) X.xe s:=by
 refine thn (B pins s σ H _ I h) λv s1 #[x,H1,I1,r1,q1]=>?_
 refine thn (O pins s1 σ H1 _ I1 q1) λu s2 #[y,H2,I2,r2,q2]=>?_
 exact U v u s2 x y H2 I2 r1 r2 q2
def opI{C:Int->Int->Prop}{g:Int->Int->Int}
  (z:∀ i j t u s Q E,C i j->Q (.int (g i j) s.toks) {s with toks:=s.toks+1}->X[3] (f (.int i t) (.int j u)) Q E s) :
  OpR X f (rI C λi j=>.int (g i j)):=by
 intro pins s σ H x y v u Q I rx ry h;obtain⟨i,j,rfl,rfl,hc,q⟩:=h;obtain⟨t,rfl⟩:=rx;obtain⟨t',rfl⟩:=ry;exact z i j t t' s _ _ hc #[.int (g i j),H,I.tok _,#[_,rfl],q]
def opI0{g:Int->Int->Int}
  (z:∀ i j t u s Q E,Q (.int (g i j) s.toks) {s with toks:=s.toks+1}->X[3] (f (.int i t) (.int j u)) Q E s) :
  OpR X f (rI0 λi j=>.int (g i j)):=by
 intro pins s σ H x y v u Q I rx ry h;obtain⟨i,j,rfl,rfl,q⟩:=h;obtain⟨t,rfl⟩:=rx;obtain⟨t',rfl⟩:=ry;exact z i j t t' s _ _ #[.int (g i j),H,I.tok _,#[_,rfl],q]
def opB0{g:Int->Int->Bool}
  (z:∀ i j t u s Q E,Q (.bool (g i j)) s->X[3] (f (.int i t) (.int j u)) Q E s) :
  OpR X f (rI0 λi j=>.bl (g i j)):=by
 intro pins s σ H x y v u Q I rx ry h;obtain⟨i,j,rfl,rfl,q⟩:=h;obtain⟨t,rfl⟩:=rx;obtain⟨t',rfl⟩:=ry;exact z i j t t' s _ _ #[.bl (g i j),H,I,rfl,q]
def CDiv(i j:Int):Prop:=0<j/\j<1073741824
def CMul(i j:Int):Prop:=(-(2 ^ 64)<i/\i<2 ^ 64)\/(-(2 ^ 64)<j/\j<2 ^ 64)
def CMul.ok(h:CMul i j):IntMulOk i j:=by
 rcases h with⟨h1,h2⟩|⟨h1,h2⟩
 .exact .of_left (intBits_le_64 h1 h2)
 exact .of_right (intBits_le_64 h1 h2)
def To:OpR X (binaryOp .Add) (rI0 λi j=>.int (i+j)):=opI0 λ_ _ _ _ _ _ _ q=>add_int q
def Tp:OpR X (binaryOp .Sub) (rI0 λi j=>.int (i-j)):=opI0 λ_ _ _ _ _ _ _ q=>sub_int q
def Tq:OpR X (binaryOp .Mult) (rI CMul λi j=>.int (i*j)):=opI λ_ _ _ _ _ _ _ hc q=>mul_int q hc.ok
def Ts:OpR X (binaryOp .FloorDiv) (rI CDiv λi j=>.int (i/j)):=opI λi j _ _ _ _ _ hc q=>by
 have h1:(0:Int)<j:=hc.1;have h2:j<1073741824:=hc.2;exact floordiv_int "" (by rw[Int.fdiv_eq_ediv_of_nonneg i ""];exact q) (.inl (PyProof.noPylong_small ""))
def Tt:OpR X (binaryOp .Mod) (rI (λ_ j=>0<j) λi j=>.int (i%j)):=opI λi j _ _ _ _ _ hc q=>by
 have h1:(0:Int)<j:=hc;exact mod_int' "" (by rw[Int.fmod_eq_emod_of_nonneg i ""];exact q)
def Tu:OpR X (inplaceOp .Add) (rI0 λi j=>.int (i+j)):=opI0 λ_ _ _ _ _ _ _ q=>iadd_int q
def Tv:OpR X (inplaceOp .Sub) (rI0 λi j=>.int (i-j)):=opI0 λ_ _ _ _ _ _ _ q=>isub_int q
def WP(I:"I" H s)(q:Q (.bl k) H)(e:k=k'):EP X pins σ Q (.bool k') s:=by
 subst e;exact#[.bl k,H,I,rfl,q]
def Tw:OpR X (compareOp .Lt) (rI0 λi j=>.bl (decide (i<j))):=opB0 λ_ _ _ _ _ _ _ q=>lt_int q
def Tx:OpR X (compareOp .LtE) (rI0 λi j=>.bl (decide (i<=j))):=opB0 λ_ _ _ _ _ _ _ q=>le_int q
def Tz:OpR X (compareOp .Gt) (rI0 λi j=>.bl (decide (j<i))):=opB0 λ_ _ _ _ _ _ _ q=>gt_int q
def TC:OpR X (compareOp .Is) (λx y H Q=>y=.non/\Q (.bl (decide (x=.non))) H):=by
 intro pins s σ H x y v u Q I rx ry h;obtain⟨rfl,q⟩:=h;cases ry;refine is_none_gen (WP I q ?_);cases x<;>first
  | (cases rx;rfl)
  | (obtain⟨t,rfl⟩:=rx;rfl)
def TD:OpR X (compareOp .IsNot) (λx y H Q=>y=.non/\Q (.bl (not (decide (x=.non)))) H):=by
 intro pins s σ H x y v u Q I rx ry h;obtain⟨rfl,q⟩:=h;cases ry;refine isnot_none_gen (WP I q ?_);cases x<;>first
  | (cases rx;rfl)
  | (obtain⟨t,rfl⟩:=rx;rfl)
def TruV(K:Frag)(x:V)(H:Hp)(k:Bool):Prop :=
 match x with
 | .non=>k=false
 | .bl b=>k=b
 | .int i=>k=(i != 0)
 | .str y=>y[1]<=sizeLine/\k=((y[1]:Int) != 0)
 | .byt y=>y.size<=sizeLine/\k=((y.size:Int) != 0)
 | .ref p=>(∃ xs,SqL K H p xs/\k=not xs.isEmpty)\/(∃ xs,SqT K H p xs/\k=not xs.isEmpty)\/∃ kvs,H p=!(.dK kvs)/\k=not kvs.isEmpty
 | _=>False
def TH(r:KV kvs vs):(not vs.isEmpty)=not kvs.isEmpty:=by
 cases r<;>rfl
def WQ(r:Vals xs its):(not its.toArray.isEmpty)=not xs.isEmpty:=by
 cases r<;>simp
def kt:sizeLine<2 ^ 63:=by rw[pG];decide
def TJ:TruR X (λx H Q=>∃ k,TruV X.K x H k/\Q k H):=by
 intro pins s σ H x v Q I rx h;obtain⟨k,e,q⟩:=h;have hl:=kt;have hs:sizeLine=16777216:=pG;cases x with
 | non =>
  cases rx;have e':k=false:=e;subst e';exact truthy_none #[H,I,q]
 | bl b =>
  cases rx;have e':k=b:=e;subst e';exact pQ #[H,I,q]
 | int i =>
  obtain⟨t,rfl⟩:=rx;have e':k=(i != 0):=e;subst e';exact PySem.P.truthy_int #[H,I,q]
 | str y =>
  obtain⟨t,rfl⟩:=rx;obtain⟨hy,e'⟩:y[1]<=sizeLine/\k=((y[1]:Int) != 0):=e;subst e';exact PySem.P.truthy_str "" #[H,I.tok _,q]
 | byt y =>
  obtain⟨t,rfl⟩:=rx;obtain⟨hy,e'⟩:y.size<=sizeLine/\k=((y.size:Int) != 0):=e;subst e';exact PySem.W.truthy_bytes "" #[H,I.tok _,q]
 | ref p =>
  cases rx;have e':(∃ xs,SqL X.K H p xs/\k=not xs.isEmpty)\/(∃ xs,SqT X.K H p xs/\k=not xs.isEmpty)\/∃ kvs,H p=!(.dK kvs)/\k=not kvs.isEmpty:=e;rcases e' with⟨xs,hx,e'⟩|⟨xs,hx,e'⟩|⟨kvs,hx,e'⟩
  .subst e';obtain⟨its,r,pl,hz⟩:=I.list hx;have z:=r[1];exact wpAny_truthy_list pl.isList (by simp only[gP];lia) #[H,I.tok _,by rw[WQ r];exact q]
  .subst e';obtain⟨its,r,pl,hz⟩:=I.tuple hx;have z:=r[1];exact truthy_tuple pl (by simp only[gP];lia) #[H,I.tok _,by rw[WQ r];exact q]
  subst e';obtain⟨hz,hS,vs,r,m⟩:kvs[1]<=sizeLine/\(p==sysModules)=false/\∃ vs,KV kvs vs/\s.heap.DictOf (je X.prog X.w) p vs:=I.hok p _ hx;have z:kvs[1]=vs[1]:=dL r;exact wpAny_truthy_dict hS m "" #[H,I.tok _,by rw[TH r];exact q]
 | _=>exact(show False from e).elim
def Z7(r:Vals [x] us):∃ u,us=[u]/\RelV x u:=by
 cases r with
 | cons r1 r2=>cases r2;exact#[_,rfl,r1]
def WR(r:Vals [x,y] us):∃ u w',us=[u,w']/\RelV x u/\RelV y w':=by
 cases r with
 | cons r1 r2 =>
  cases r2 with
  | cons r3 r4=>cases r4;exact#[_,_,rfl,r1,r3]
def TK(z:X.calm=true):yu X (.builtin "max") (λxs H Q=>∃ i j,xs=[.int i,.int j]/\Q (if j>i then j else i)[6] H):=by
 intro pins s σ H xs us Q I r h;obtain⟨i,j,rfl,q⟩:=h;obtain⟨u,w',rfl,⟨t,rfl⟩,⟨t',rfl⟩⟩:=WR r;refine max_two_ints (I.ok.hd z) λh' tk k=>#[_,H,I.kept k,?_,q]
 by_cases hj:j>i
 .rw[if_pos hj,if_pos hj];exact#[_,rfl]
 rw[if_neg hj,if_neg hj];exact#[_,rfl]
def TL(z:X.calm=true):yu X (.builtin "min") (λxs H Q=>∃ i j,xs=[.int i,.int j]/\Q (if j<i then j else i)[6] H):=by
 intro pins s σ H xs us Q I r h;obtain⟨i,j,rfl,q⟩:=h;obtain⟨u,w',rfl,⟨t,rfl⟩,⟨t',rfl⟩⟩:=WR r;refine min_two_ints (I.ok.hd z) λh' tk k=>#[_,H,I.kept k,?_,q]
 by_cases hj:j<i
 .rw[if_pos hj,if_pos hj];exact#[_,rfl]
 rw[if_neg hj,if_neg hj];exact#[_,rfl]
variable{prog:af}{w:World}{A:ag}{E:aa->ab->Prop}{s:ab}{K:Frag}{x dx C f:Addr}{mA:Str->Option aa}{name:Str}{v:aa}
end
def RelO.some_of(r:RelO ↑v o):∃ u,o=!u/\RelV v u:=by
 cases o with
 | none=>exact(show False from r).elim
 | some u=>exact#[u,rfl,r]
section
variable{P:af}{w:World}{H H':Hp}{h h':Heap}{a C dx:Addr}{fs fs':List (Str×V)}
variable{X:Cx}{pins:List (Addr×Obj)}{σ:St}{s:ab}{f:Str}{v:V}{A:ag}{E:aa->ab->Prop}
variable{o e value:Expr}{pos pos' tpos:Pos}{ta tv:TE}
variable{Q:aa->ab->Prop}{c:aa}{b:Bool}
end
structure Room(k:Nat)(A:Around):Prop where
 hd:A.handled=none
 dp:A.depth+3*k+5<recursionLimit
 un:A.units+16*k+200<cLine
def Room.mono{j k:Nat}(r:Room k A)(h:j<=k):Room j A:=#[r.hd,by have:=r.dp;lia,by have:=r.un;lia]
def Room.deeper(r:Room (k+1) A)(env):Room k (A.deeper env) :=
 #[r.hd,by have:=r.dp;show A.depth+1+3*k+5<_;lia,by have:=r.un;show A.units+3+16*k+200<_;lia]
def Room.depth(r:Room k A):A.depth<recursionLimit:=by have:=r.dp;lia
def WS:TA:=λ_ H Q=>Q [] H
def Qi(ta:TE)(z:TA):TA:=λσ H Q=>ta σ H λx H1=>z σ H1 λxs H2=>Q (x::xs) H2
section
variable{X:Cx}{e:Expr}{es:List Expr}{te:TE}{t:TA}{pos:Pos}
def vM:PA X [] WS:=λ_ _ _ _ H Q I h=>tL #[[],H,I,.nil,h]
def zI(z:PE X e te)(B:PA X es t)(O:(starEach (e::es) X.env=(false,eval e X.env)::starEach es X.env)["r"]):PA X (e::es) (Qi te t):=by
 intro pos pins s σ H Q I h;rw[O];show wpAny _ _ (spliced ((false,eval e X.env)::backTo pos (starEach es X.env))) _ _ s;refine hZ (thn (z pins s σ H _ I h) λu s1 #[x,H1,I1,r1,q1]=>?_)
 exact thn (B pos pins s1 σ H1 _ I1 q1) λus s2 #[xs,H2,I2,r2,q2]=>#[x::xs,H2,I2,.cons r1 r2,q2]
end
abbrev Sp:=List V->Hp->VK->XK->Prop
abbrev CXT:=List Env->Hp->ab->XK->aa->ab->Prop
structure Env0(P:Program)(w:World)(K:Frag)(mg:Str->Option Value)(base:Heap)(A:Around)(outer:List Env)(s:Shared)(H:Hp):Prop where
 frames:A.frames=!outer
 mod:Mod K mg base
 bs:∀ b o,base.get? b=!o->s.heap.get? b=!o/\H b=none
 bsz:base.objs.size<=s[0]
 funs:s.heap.FunFrames base outer
 frf:∀ b∈frs outer,H b=none
 hok:HOk P w H s.heap
 bare:AllBare s.gens
def CE(outer:List Env)(P:af)(w:World)(H:Hp)(s:ab)(Q:VK)(u:aa)(s':ab):Prop :=
 ∃ v H',s'.os=s.os/\AllBare s'.gens/\Un (frs outer) [] H H' s.heap s'.heap/\HOk P w H' s'.heap/\RelV v u/\Q v H'
def CR(CX:CXT)(outer:List Env)(P:af)(w:World)(H:Hp)(s:ab)(Q:VK)(E:XK)(r:Result)(s':ab):Prop :=
 match r with
 | .ok (.ret u)=>CE outer P w H s Q u s'
 | .ok _=>False
 | .error e=>CX outer H s E e s'
structure FnOk(P:Program)(w:World)(K:Frag)(mg:Str->Option Value)(base:Heap)(CX:CXT)(k:Nat)(f:Addr)(fd:FuncData)(ps:List Str)(sp:Sp):Prop where
 len:∀ vs H Q E,sp vs H Q E->vs[1]=ps[1]
 run:∀(A:Around) (outer:List Env) (s:Shared) (H:Hp) (args:Args) (us:List Value) (vs:List V) (Q:VK) (E:XK),Room k A->Env0 P w K mg base A outer s H->BindsTo s fd args (ps.zip us)->Vals vs us->sp vs H Q E ->
  codeAny (model P w) A (.call (.ref f) args) (CR CX outer P w H s Q E) s
section
variable{X:Cx}{pins:List (Addr×Obj)}{σ:St}{H:Hp}{s s':ab}
def Inv.env0(I:"I" H s):Env0 X.prog X.w X.K X.mg X.base X.A X.stack s H :=
 #[I.ok.frames,I.ok.mod,I.bs,f8 I.ok.bsz I.sz,I.stack,I.stkFree,I.hok,I.bare]
def Inv.after(I:"I" H s)(h:CE X.stack X.prog X.w H s Q u s'):EP X pins σ Q u s':=by
 obtain⟨v,H',os,B,un,O,r,q⟩:=h;obtain⟨hh,g,d,t,U⟩:=s';obtain rfl:U=s.os:=os;exact#[v,H',I.call (h':=hh) (g':=g) (d':=d) (t':=t) (ch:=[]) un O B λb z=>absurd z "s",r,q]
end
def Binds(K:Frag)(fd:FuncData)(ps:List Str)(ds:List aa):Prop :=
 ∀(s:ab) (us:List aa),K.In s.heap->(us++ds)[1]=ps[1]->BindsTo s fd #[us,[]] (ps.zip (us++ds))
def Binds.all{K:Frag}{ps:List Str}(h:∀ us,us[1]=ps[1]->bindArgs fd #[us,[]]=pure (ps.zip us)):Binds K fd ps []:=λs us _ hl=>by
 rw[tQ]at hl ⊢;exact .of_eq (h us hl)
def WT(CX:CXT)(X:Cx)(E:XK):Prop:=∀(pins:List (Addr×Obj)) (σ:St) (H:Hp) (s:ab) (e:aa) (s':ab),"I" H s->CX X.stack H s E e s'->X.xe e s'
section
variable{X:Cx}{CX:CXT}{k:Nat}{f C:Addr}{fd:FuncData}{ps:List Str}{sp:Sp}{dvs:List V}{ds:List aa}{E:XK}{x m:Str}{p pos apos:Pos}{e o:Expr}{es:List Expr}{ta:TE}{t:TA}
def WU(F:FnOk X.prog X.w X.K X.mg X.base CX k f fd ps sp)(z:Room k X.A)(B:Binds X.K fd ps ds)(hd:Vals dvs ds)(O:WT CX X E)
  (I:"I" H s)(r:Vals vs us)(h:sp (vs++dvs) H Q E):X[3] (call (.ref f) us) (EP X pins σ Q) X.xe s:=by
 have r2:Vals (vs++dvs) (us++ds):=r.append hd;have hl:(us++ds)[1]=ps[1]:=by rw[<- r2[1]];exact F.len _ _ _ _ h
 refine wpAny_call (codeAny_mono (F.run X.A X.stack s H #[us,[]] (us++ds) (vs++dvs) Q E z I.env0 (B s us I.kIn hl) r2 h) λr s' hq=>?_)
 cases r with
 | error e=>exact O pins σ H s e s' I hq
 | ok fl =>
  cases fl with
  | ret u=>exact I.after hq
  | next=>exact False.elim hq
  | brk=>exact False.elim hq
  | cont=>exact False.elim hq
end
section
variable{X:Cx}{CX:CXT}{k:Nat}{f C:Addr}{fd:FuncData}{ps ks:List Str}{sp:Sp}{E:XK}{x m:Str}{p pos apos kpos:Pos}{e o:Expr}{es:List Expr}{kws:List Keyword}{te ta:TE}{t tk:TA}{nm:Option Str}
variable{g:List aa->List aa->List aa}{gV:List V->List V->List V}
end
structure FnScope(N P:List Str)(sc:Scope):Prop where
 kind:sc.kind=.function
 co:sc.isCoroutine=false
 gen:sc.isGenerator=false
 nd:N.Nodup
 pre:N.take P[1]=P
 par:∀ x∈P,sc.names.lookup x=some .local\/sc.names.lookup x=some .cell
 nofree:∀ y∈sc.names,y.2≠.free
theorem WV{z:Str->Option NameKind}:∀{binds} {m},(∀ v,(x,v)∉binds)->bindL z binds m x=m x
 | [],_,_=>rfl
 | (n,v)::r,m,h=>by
  unfold bindL;rw[WV λw hw=>h w (gj _ hw)]
  split
  .have:x≠n:=by rintro rfl;exact h v t8
   simp[this]
  rfl
theorem WW{z:Str->Option NameKind}:∀{binds} {m},(∀ v,(x,v)∉binds)->bindC z binds m x=m x
 | [],_,_=>rfl
 | (n,v)::r,m,h=>by
  unfold bindC;rw[WW λw hw=>h w (gj _ hw)]
  split
  .rfl
  have:x≠n:=by rintro rfl;exact h v t8
  simp[this]
theorem WX{z:Str->Option NameKind}:∀{P:List Str} {vs} {i:Nat} {m},P.Nodup->P[i]?=!x->vs[i]?=!v->z x=some .local ->
  bindL z (P.zip vs) m x=!v
 | [],_,_,_,_,h,_,_=>by simp at h
 | _::_,[],_,_,_,_,h,_=>by simp at h
 | p::P,w::vs,0,m,nd,h1,h2,hk=>by
  simp at h1 h2;subst h1;subst h2;show bindL z ((p,w)::P.zip vs) m p=_;unfold bindL;rw[WV λv hv=>(tF.mp nd).1 (List.of_mem_zip hv).1,if_pos hk]
  simp
 | p::P,w::vs,i+1,m,nd,h1,h2,hk=>by
  show bindL z ((p,w)::P.zip vs) m x=_;unfold bindL;exact WX (i:=i) (tF.mp nd).2 h1[""] h2[""] hk
theorem WY{z:Str->Option NameKind}:∀{P:List Str} {vs} {i:Nat} {m},P.Nodup->P[i]?=!x->vs[i]?=!v->z x≠some .local ->
  bindC z (P.zip vs) m x=!v
 | [],_,_,_,_,h,_,_=>by simp at h
 | _::_,[],_,_,_,_,h,_=>by simp at h
 | p::P,w::vs,0,m,nd,h1,h2,hk=>by
  simp at h1 h2;subst h1;subst h2;show bindC z ((p,w)::P.zip vs) m p=_;unfold bindC;rw[WW λv hv=>(tF.mp nd).1 (List.of_mem_zip hv).1,if_neg hk]
  simp
 | p::P,w::vs,i+1,m,nd,h1,h2,hk=>by
  show bindC z ((p,w)::P.zip vs) m x=_;unfold bindC;exact WY (i:=i) (tF.mp nd).2 h1[""] h2[""] hk
def zk(N:List Str)(vs:List V):St:=vs.map some++List.replicate (N[1]-vs[1]) none
def cxOf(CX:CXT)(P:af)(w:World)(K:Frag)(mg:Str->Option aa)(base:Heap)(N:List Str)(z:Str)(scope:Scope)(f:Addr)(cd:aa)(A:ag)(outer:List Env)(s:ab)(H:Hp)(E:XK):Cx where
 prog:=P
 w:=w
 K:=K
 mg:=mg
 base:=base
 A:=A.deeper (envOfC z scope s[0] f cd)
 N:=N
 s₀:=s
 H₀:=H
 env:=envOfC z scope s[0] f cd
 outer:=outer
 stack:=envOfC z scope s[0] f cd::outer
 ex:=[]
 calm:=true
 fn:=λ_=>true
 pn:=[]
 xe:=λe s'=>wpAny (model P w) (A.deeper (envOfC z scope s[0] f cd)) (leaving (envOfC z scope s[0] f cd) e) (λ_ B=>CX outer H s E e B) (λe' B=>CX outer H s E e' B) s'
def WZ{z:Scope}{n:Nat}(h:z.names.lookup x=some .cell):∃ c,(cellsFrom n z.names []).lookup x=!c:=by
 have q:=cellsFrom_some z.names n [] (.inl h);exact Option.isSome_iff_exists.mp q
def TM{K:Frag}{mg:Str->Option aa}{N ps:List Str}{scope:Scope}{A:ag}{s Y:ab}{vs:List V}
  (S:FnScope N ps scope)(hd:A.handled=none)(B:Env0 P w K mg base A outer s H)(hl:vs[1]=ps[1])(r:Vals vs us)
  (x:InCallC s s[0] (bindL (envOfC qual scope s[0] f cd).kindOf (ps.zip us) λ_=>none) (cellsFrom (s[0]+1) scope.names []) (bindC (envOfC qual scope s[0] f cd).kindOf (ps.zip us) λ_=>none) Y) :
  Inv (cxOf CX P w K mg base N qual scope f cd A outer s H E) [] (zk N vs) H Y:=by
 have Z:ps[1]<=N[1]:=by have:=congrArg List.length S.pre;rw[tD]at this;lia
 obtain⟨h1,tk,rfl,hk⟩:=x.done;have O:∀ b:Addr,b∉(cxOf CX P w K mg base N qual scope f cd A outer s H E).ex:=λb z=>absurd (show b∈([]:List Addr)from z) "s"
 refine#[#[B.mod,S.kind,rfl,rfl,gw _,λy z c h1 h2=>?_,λy hy=>?_,λy c _ h=>?_,λ_=>hd,Around.frames_deeper B.frames,.inr #[rfl,rfl],λb z=>absurd z (O b),B.bs,B.bsz,λb _ _=>O b,λb z=>absurd z (O b),B.funs,B.frf],
  rfl,B.bare,Un.kept hk,#[_,x.toInCall.ns,λi y v h1 h2 h3=>?_],λy c h=>#[_,x.cell y c h],B.hok.fresh (gw _),λy c h=>?_,λp hp=>absurd (show p∈([]:List (Addr×Obj))from hp) "s",B.hok.kept hk,?_]
 .exact name_of_addr x.apart (cO h1) (cO h2)
 .have hy:scope.names.lookup y=some .cell\/scope.names.lookup y=some .free:=hy;rcases hy with hy|hy
  .exact WZ hy
  exact absurd rfl (S.nofree _ (cO hy))
 .exact pC (x.above y c (cO h))
 .have hi:i<vs[1]:=by
   unfold zk at h2;by_cases hi:i<vs[1]
   .exact hi
   rw[hE hi[""]]at h2
   rw[fJ]at h2;split at h2<;>cases h2
  have ha:vs[i]?=!v:=by
   unfold zk at h2;rw[t3 hi[""],gG]at h2
   cases e:vs[i]? with
   | none=>rw[e]at h2;cases h2
   | some a=>rw[e]at h2;cases h2;rfl
  obtain⟨u,hu,rv⟩:=r.get ha;have hp:ps[i]?=!y:=by
   rw[<- S.pre,List.getElem?_take_of_lt ""];exact h1
  have U:ps.Nodup:=by rw[<- S.pre];exact S.nd.sublist (List.take_sublist _ _)
  refine#[u,rv,?_];rcases S.par y (hX hp)with k|k
  .exact .inl #[k,WX U hp hu k]
  obtain⟨c,e⟩:=WZ (n:=s[0]+1) k;refine .inr #[.inl k,c,e,?_];have q:=x.cell y c e;rw[WY U hp hu (by show scope.names.lookup y≠_;rw[k];decide)]at q
  exact q
 .exact B.hok.fresh (pC (x.above y c (cO h)))
 unfold zk;show _=N[1];rw[gD,gg,List.length_replicate];lia
def TN{K:Frag}{mg:Str->Option aa}{base:Heap}{k:Nat}{f:Addr}{name z:Str}{O:Arguments}{body:List Stmt}{scope:Scope}{dV kV doc pm B ct oc:aa}{an od:Option Addr}
  {osl:Array (Option aa)}{N ps:List Str}{sp:Sp}(lk:K.lookup f=↑#[oc,od,.func (PySem.W.fnOf name z O body scope dV kV doc pm an B ct),osl])(hcd:codeIn K B z=true)(S:FnScope N ps scope)
  (len:∀ vs H Q E,sp vs H Q E->vs[1]=ps[1])
  (Y:∀ A outer s H vs Q E,Room k (A.deeper (envOfC z scope s[0] f B))->sp vs H Q E ->
   ∃ t,PSs (cxOf CX P w K mg base N z scope f B A outer s H E) body t/\t {nx:=λ_ H'=>Q .non H',rt:=Q} (zk N vs) H) :
  FnOk P w K mg base CX (k+1) f (PySem.W.fnOf name z O body scope dV kV doc pm an B ct) ps sp:=by
 refine#[len,λA outer s H args us vs Q E hr e0 hb r hsp=>?_]
 have hl:=len _ _ _ _ hsp;have KX:K.In s.heap:=e0.mod.kin.keeps λb o e=>(e0.bs b o e).1
 have lim:s.heap.NoLimit:=e0.mod.nolimit.keeps λb o e=>(e0.bs b o e).1
 have Z:∀ y∈ps.zip us,scope.names.lookup y.1=some .local\/(scope.names.lookup y.1=some .cell/\((cellsFrom (s[0]+1) scope.names []).lookup y.1).isSome=true):=λ#[n,v] hy=>by
  rcases S.par n (List.of_mem_zip hy).1 with q|q
  .exact .inl q
  exact .inr #[q,cellsFrom_some _ _ _ (.inl q)]
 refine codeAny_call_function hr.depth (KX _ _ lk) rfl S.co S.gen rfl (PySem.W.codeRec_of KX hcd) (hb _ _ _ _ ?_);refine wpAny_newFunctionEnv_cells S.kind Z λenv he s1 x=>?_
 subst he;refine#[lim.keeps x.toInCall.keep,codeAny_func ?_];obtain⟨t,ht,hq⟩:=Y A outer s H vs Q E (hr.deeper _) hsp;have I:Inv (cxOf CX P w K mg base N z scope f B A outer s H E) [] (zk N vs) H s1:=TM S hr.hd e0 hl r x;refine cB (ht [] s1 (zk N vs) H _ I hq) (λfl s' hs=>?_) λe s' hs=>hs
 have fin:∀{U:St} {H':Hp} {v:V} {u:aa},Inv (cxOf CX P w K mg base N z scope f B A outer s H E) [] U H' s'->RelV v u->Q v H'->CE outer P w H s Q u s' :=
  λ{U H' v u} J rv q=>#[v,H',J.os,J.bare,J.base,J.hok,rv,q]
 cases fl with
 | ret u =>
  obtain⟨v,U,H',J,rv,q⟩:=hs;exact fin J rv q
 | next =>
  obtain⟨U,H',J,q⟩:=hs;exact fin (v:=V.non) (u:=Value.none) J rfl q
 | brk =>
  obtain⟨_,_,_,q⟩:=hs;exact False.elim q
 | cont =>
  obtain⟨_,_,_,q⟩:=hs;exact False.elim q
section
variable{X:Cx}{x:Str}{p pos:Pos}{e:Expr}{es:List Expr}{t:TA}{id T:String}{r:List V->Hp->VK->Prop}
end
end L2
namespace HT
open PySem PyProof.Rows
def lexLt:List Int->List Int->Bool
 | [],[]=>false
 | [],_::_=>true
 | _::_,[]=>false
 | x::xs,y::ys=>if x=y then lexLt xs ys else decide (x<y)
def lexLt_cons(x y)(xs ys):lexLt (x::xs) (y::ys)=if x=y then lexLt xs ys else decide (x<y):=rfl
def lexLt_nil_nil:lexLt [] []=false:=rfl
def lexLt_nil_cons(y)(ys):lexLt [] (y::ys)=true:=rfl
def lexLt_cons_nil(x)(xs):lexLt (x::xs) []=false:=rfl
def TQ(A)(s)(a)(t)(c)(u):∃ e,SeqAt.EqAt A s (.int a t) (.int c u) e/\(e=true↔a=c) :=
 #[(a==c),SeqAt.EqAt.int_int a t c u,by simp]
def TR(A)(s)(a)(t)(c)(u)(prog)(w)(E)(Q)(h:Q (.bool (decide (a<c))) s) :
  wpAny (model prog w) A (richCompare .Lt (.int a t) (.int c u)) Q E s :=
 (PyProof.Rows.lt_int h:wpAny (model prog w) A (compareOp .Lt (.int a t) (.int c u)) Q E s)
section
open PySem.SeqAt
open PySem.AutoSeq1 (wpAny_loadPart')
open PySem.MeetsSeq PySem.MeetsSeq2 PySem.MeetsSeq3
def TU(l b)(items items2)(n n2)(dd dd2)(sl sl2)(ns ms)(hi:IntsAre items[2] ns)(O:IntsAre items2[2] ms) :
  Meets (Builtin.«tuple.__lt__» #[[.ref l,.ref b],[]])
   (λ_ R s=>s.heap.get? l=some {cls:=.type "tuple",dict:=dd,data:=.seq items n,slots:=sl}/\s.heap.get? b=some {cls:=.type "tuple",dict:=dd2,data:=.seq items2 n2,slots:=sl2} /\
    R (.ok (.ret (.bool (lexLt ns ms)))) s) :=
 .of_wp λprog w A R s h=>by
  obtain⟨hp,g,d,tk,os⟩:=s;obtain⟨hl,hb,h⟩:=h;have f2:=AutoSeq1.sub_tuple_tuple;have z1:items.size=ns[1]:=by rw[<- hi[1]];simp
  have z2:items2.size=ms[1]:=by rw[<- O[1]];simp
  wp_walk using wpAny_loadPart' hl,wpAny_loadPart' hb,wpAny_forIn_list _ (λrest b s'=>b.1=none/\s'=#[hp,g,d,tk,os]/\∃(vs ws:List aa) (ns' ms':List Int),rest=vs.zip ws /\
   IntsAre vs ns'/\IntsAre ws ms'/\ns'[1]+items2.size=ms'[1]+items.size/\R (.ok (.ret (.bool (lexLt ns' ms')))) #[hp,g,d,tk,os]) _
  case turn =>
   rintro⟨y,x⟩ rest b s' ⟨hb',rfl,vs,ws,ns',ms',hz,hvi,hwi,hlen,hR⟩;cases hvi with
   | nil=>rw[List.zip_nil_left]at hz;cases hz
   | cons a t hvi' =>
    cases hwi with
    | nil=>rw[List.zip_nil_right]at hz;cases hz
    | cons c u hwi' =>
     rw[bJ]at hz;injection hz with hyx hrest;injection hyx with hy hx;subst hy hx;rw[lexLt_cons]at hR;simp only[gJ]at hlen;obtain⟨e,he,z⟩:=TQ A.in1 #[hp,g,d,tk,os] a t c u;refine g6 (he prog w _ _ ?_);cases e with
     | true =>
      rw[if_pos (z.mp rfl)]at hR
      wp_walk
      exact#[rfl,rfl,_,_,_,_,hrest,hvi',hwi',"",hR]
     | false =>
      rw[if_neg λq=>absurd (z.mpr q) pX]at hR
      have B:=TR A.in1 #[hp,g,d,tk,os] a t c u prog w
      wp_walk using B
      exact#[_,rfl,by simpa using hR]
  case fin =>
   rintro⟨b1,b2⟩ s' ⟨hb',rfl,vs,ws,ns',ms',hz,hvi,hwi,hlen,hR⟩;simp only at hb';subst hb';have hv:lexLt ns' ms'=decide (items.size<items2.size):=by
    cases hvi with
    | nil =>
     cases hwi with
     | nil =>
      simp only[fR]at hlen;rw[lexLt_nil_nil];exact(t7 "").symm
     | cons c u hw =>
      simp only[fR,gJ]at hlen;rw[lexLt_nil_cons];exact(tG "").symm
    | cons a t hv =>
     cases hwi with
     | nil =>
      simp only[fR,gJ]at hlen;rw[lexLt_cons_nil];exact(t7 "").symm
     | cons c u hw =>
      rw[bJ]at hz;cases hz
   rw[hv]at hR
   wp_walk
   exact#[_,rfl,by simpa[Builtin.Tuple.tupleCompareSizes]using hR]
  case h =>
   exact#[rfl,rfl,items[2],items2[2],ns,ms,rfl,hi,O,"",h]
end
section
variable{prog:af}{w:World}{A:ag}{E:aa->ab->Prop}{s:ab}
def lt_tupInts{items z:Array aa}{B ms:List Int}{Q:aa->ab->Prop}(hl:IsTup s.heap l items)(hb:IsTup s.heap b z)(hi:IntsAre items[2] B)(hj:IntsAre z[2] ms)
  (hu:A.units<cLine)(h:Q (.bool (lexLt B ms)) s):wpAny (model prog w) A (compareOp .Lt (.ref l) (.ref b)) Q E s:=by
 obtain⟨⟨cls,dd,data,sl⟩,ho,hc,n,hd⟩:=id hl;obtain⟨⟨h4,Z,h3,sl2⟩,O,U,n2,Y⟩:=id hb;simp only at hc hd U Y;subst hc hd U Y;exact richCompare_meets_room (op:=.Lt) #[_,ho,rfl] #[_,O,rfl] PySem.F.slot_tuple_lt PySem.F.entry_tuple_lt (PySem.F.args_tuple_lt_2 _ _) (TU l b items z n n2 dd Z sl sl2 B ms hi hj)
  #[ho,O,show Value.bool (lexLt B ms)≠Value.notImplemented/\Q (.bool (lexLt B ms)) s from#[(λx=>nomatch x),h]] hu
def cat_tup(ht:IsTup s.heap t vs.toArray)(hb:IsTup s.heap b ws.toArray)(hv:vs≠[])
  (h1:ws=[]->Q (.ref t) s)(h2:ws≠[]->Q (.ref s[0]) {s with heap:=s.heap.push {cls:=.type "tuple",data:=.seq (vs++ws).toArray}})
  (hsz:vs[1]+ws[1]<=sizeLine):wpAny (model prog w) A (binaryOp .Add (.ref t) (.ref b)) Q E s:=by
 obtain⟨⟨cls,dd,data,sl⟩,ho,hc,n,hd⟩:=id ht;obtain⟨⟨h3,B,Z,O⟩,z,U,n2,Y⟩:=id hb;simp only at hc hd U Y;subst hc hd U Y;have e:vs.toArray++ws.toArray=(vs++ws).toArray:=by simp
 by_cases hw:ws=[]
 .exact concat_meets #[_,ho,rfl] #[_,z,rfl] noFill_tuple_add seq_tuple_add PySem.F.slot_tuple_add PySem.F.entry_tuple_add (PySem.F.args_tuple_add_2 _ _)
   (tuple_addW1 t b vs.toArray ws.toArray n n2 dd B sl O hv[""] (by simp[hw])) #[ho,z,h1 hw]
 refine concat_meets #[_,ho,rfl] #[_,z,rfl] noFill_tuple_add seq_tuple_add PySem.F.slot_tuple_add PySem.F.entry_tuple_add (PySem.F.args_tuple_add_2 _ _)
  (tuple_addW2 t b vs.toArray ws.toArray n n2 dd B sl O hv[""] hw[""] (by rw[gP,gP];exact hsz)) #[ho,z,?_]
 rw[e];exact h2 hw
def sIx(n d:Nat):Option Int->Nat
 | none=>d
 | some v=>if v<0 then(v+(n:Int)).toNat else min v.toNat n
def sIx_none(n d):sIx n d none=d:=rfl
def sIx_nat(n d k:Nat):sIx n d ↑k=min k n:=by
 show(if (k:Int)<0 then((k:Int)+(n:Int)).toNat else min (k:Int).toNat n)=min k n
 rw[if_neg "",fK]
def TV(n d)(hd:d<=n)(o):sIx n d o<=n:=by
 cases o with
 | none=>exact hd
 | some v =>
  show(if v<0 then(v+(n:Int)).toNat else min v.toNat n)<=n
  by_cases hv:v<0
  .rw[if_pos hv];lia
  rw[if_neg hv];exact Nat.min_le_right _ _
def Y0(v)(n d:Nat):(if v<0 then max (v+(n:Int)) 0 else min v n)=(sIx n d !v):=by
 show(if v<0 then max (v+(n:Int)) 0 else min v (n:Int))=(((if v<0 then(v+(n:Int)).toNat else min v.toNat n):Nat):Int)
 by_cases hv:v<0
 .simp only[if_pos hv];lia
 simp only[if_neg hv];lia
def TW(lo hi)(n:Nat):Builtin.Slice.sliceAdjust lo hi 1 n=(((sIx n 0 lo):Int),((sIx n n hi):Int)):=by
 have h1:¬ ((1:Int)<0):=""
 unfold Builtin.Slice.sliceAdjust;simp only[h1,cA];refine Prod.ext ?_ ?_
 .cases lo with
  | none=>rfl
  | some v=>exact Y0 v n 0
 cases hi with
 | none=>rfl
 | some v=>exact Y0 v n n
def TX(i j:Nat):Builtin.Slice.slicePlaces i j 1=j-i:=by
 unfold Builtin.Slice.slicePlaces;have h1:(1:Int)>0:=""
 simp only[h1,dB,Int.ediv_one];split<;>lia
def Y1(p:IsPart v o)(h:Q o s):wpAny (model prog w) A (Builtin.Slice.slicePartIndex v) Q E s:=by
 cases p with
 | none=>exact slicePart_none h
 | int i t=>exact slicePart_int h
def TY{lo hi:Option Int}{n:Nat}{Q:Int×Int×Nat->ab->Prop}(O:s.heap.IsSliceOf sl vl vu .none)(U:IsPart vl lo)(Y:IsPart vu hi)
  (h:Q ((sIx n 0 lo),1,sIx n n hi-sIx n 0 lo) s):wpAny (model prog w) A (Builtin.Slice.sliceApplied (.ref sl) (pure n)) Q E s:=by
 obtain⟨os,z,Z,B⟩:=id O;unfold Builtin.Slice.sliceApplied Builtin.Slice.sliceFields;refine g6 (g6 (p6 z B (x:=vl) rfl (g6 (p6 z B (x:=vu) rfl (g6 (p6 z B (x:=.none) rfl (gu ?_)))))));refine g6 (slicePart_none ?_);show wpAny _ _ (if ((1:Int)==0)=true then _ else _) _ _ s
 rw[if_neg "d"]
 refine g6 (Y1 U (g6 (Y1 Y (g6 (gu ?_)))));show wpAny _ _ (match Builtin.Slice.sliceAdjust lo hi 1 (n:Int)with|(lo,hi)=>pure (lo,(1:Int),Builtin.Slice.slicePlaces lo hi 1)) _ _ s
 rw[TW lo hi n];show wpAny _ _ (pure (((sIx n 0 lo:Nat):Int),(1:Int),Builtin.Slice.slicePlaces ((sIx n 0 lo:Nat):Int) ((sIx n n hi:Nat):Int) 1)) _ _ s;rw[TX];exact gu h
def TZ(xs:Array aa)(i k:Nat):((List.range k).filterMap λ(m:Nat)=>xs[(i+(m:Int)*1).toNat]?).toArray=((xs[2].drop i).take k).toArray:=by
 have e:(λ(m:Nat)=>xs[((i:Int)+(m:Int)*1).toNat]?)=λm=>xs[i+m]?:=by
  funext m;have:((i:Int)+(m:Int)*1).toNat=i+m:=""
  rw[this]
 rw[e];have:=pick_run xs i k;rw[List.filterMap_map]at this;have e2:((λx=>xs[x]?)∘λx=>i+x)=λm=>xs[i+m]?:=rfl
 rw[e2]at this;rw[this]
def getItem_tuple_cut{items:Array aa}{lo hi:Option Int}{Q:aa->ab->Prop}(B:IsTup s.heap t items)(hs:s.heap.IsSliceOf sl vl vu .none)(pl:IsPart vl lo)(pu:IsPart vu hi)
  (hw:¬ (sIx items.size 0 lo=0/\sIx items.size items.size hi=items.size))
  (h:Q (.ref s[0]) {s with heap:=s.heap.push {cls:=.type "tuple",data:=.seq ((items[2].drop (sIx items.size 0 lo)).take (sIx items.size items.size hi-sIx items.size 0 lo)).toArray}})
  (hsz:items.size<=sizeLine):wpAny (model prog w) A (getItem (.ref t) (.ref sl)) Q E s:=by
 have z:sizeOk (.seq ((items[2].drop (sIx items.size 0 lo)).take (sIx items.size items.size hi-sIx items.size 0 lo)).toArray):=by
  show((items[2].drop (sIx items.size 0 lo)).take (sIx items.size items.size hi-sIx items.size 0 lo)).toArray.size<=sizeLine;rw[gP,tD,pi,pz];lia
 have hj:sIx items.size items.size hi<=items.size:=TV _ _ (gw _) hi;obtain⟨os,Y,Z,hds⟩:=id hs;have O:s.TypeIs (.ref sl) "slice":=#[os,Y,Z];unfold getItem
 try with_reducible refine fT ?_
 first|refine g6 (gu ?_)|skip
 refine g6 (wpAny_sequenceKey B.typeIs "d" ?_)
 refine g6 (fL (name:=Str.ofString "__getitem__") B.typeIs cD
  (pj cD B.typeIs entry_tuple_getitem ?_ (args_tuple_getitem _ _)))
 show wpAny _ _ (Builtin.Tuple.tupleItemsOf (.ref t) >>= _) _ _ s;refine g6 (tupleItemsOf_ B ?_);refine g6 (wpAny_typeOf O ?_);rw[if_pos "d"]
 refine g6 (TY hs pl pu ?_);have U:¬ ((((sIx items.size 0 lo:Nat):Int)==0&&(1:Int)==1&&(sIx items.size items.size hi-sIx items.size 0 lo)==items.size)=true):=by
  intro q;rw[gZ,gZ]at q;have q1:((sIx items.size 0 lo:Nat):Int)=0:=eq_of_beq q.1.1;have q2:sIx items.size items.size hi-sIx items.size 0 lo=items.size:=eq_of_beq q.2;exact hw #["",""]
 show wpAny _ _ (if (((sIx items.size 0 lo:Nat):Int)==0&&(1:Int)==1&&(sIx items.size items.size hi-sIx items.size 0 lo)==items.size)=true then _ else _) _ _ s
 rw[if_neg U,TZ]
 first
  | exact g6 (m:=Builtin.Tuple.tupleExact _) (tV (gu #[_,rfl,gu h]) z)
  | exact g6 (m:=Builtin.Tuple.tupleExact _) (tV (g6 (gu (gu #[_,rfl,gu h]))) z)
  | exact g6 (g6 (m:=Builtin.Tuple.tupleExact _) (tV (gu (gu #[_,rfl,gu h])) z))
  | exact g6 (g6 (m:=Builtin.Tuple.tupleExact _) (tV (gu #[_,rfl,gu h]) z))
end
end HT
namespace L2
open PySem PySem.Spec PyProof.Rows
abbrev TO:=St->Hp->(Option Int->Hp->Prop)->Prop
def PO(X:Cx)(e:Option Expr)(t:TO):Prop :=
 ∀(pins:List (Addr×Obj)) (s:ab) (σ:St) (H:Hp) (Q:Option Int->Hp->Prop),"I" H s->t σ H Q ->
  X[3] (evalPart e X.env) (λu s'=>∃ o H',"I" H' s'/\IsPart u o/\Q o H') X.xe s
def qa0:TO:=λ_ H Q=>Q none H
def qa1(t:TE):TO:=λσ H Q=>t σ H λx H1=>∃ i,x=.int i/\Q ↑i H1
def ku:∀{us},Vals (ns.map V.int) us->IntsAre us ns:=by
 induction ns with
 | nil=>intro us r;rw[pY]at r;cases r;exact .nil
 | cons n ns ih =>
  intro us r;rw[gN]at r;cases r with
  | cons r1 r2 =>
   obtain⟨t,e⟩:=r1;subst e;exact .cons n t (ih r2)
section
variable{X:Cx}{e:Expr}{te:TE}{lo hi:Option Expr}{tl th:TO}{pos p2:Pos}
def qa2:PO X none qa0:=by
 intro pins s σ H Q I h;rw[evalPart_none];exact gu #[none,H,I,.none,h]
def qa3(h:PE X e te):PO X ↑e (qa1 te):=by
 intro pins s σ H Q I hw;rw[evalPart_some];refine thn (h pins s σ H _ I hw) λu s1 #[x,H1,I1,r1,q1]=>?_
 obtain⟨i,rfl,q⟩:=q1;obtain⟨t,rfl⟩:=r1;exact#[!i,H1,I1,.int i t,q]
def SlR(X:Cx)(r:V->Option Int->Option Int->Hp->VK->Prop):Prop :=
 ∀(pins:List (Addr×Obj)) (s:ab) (σ:St) (H:Hp) (x:V) (v vl vu:aa) (lo hi:Option Int) (sl:Addr) (Q:VK),"I" H s->RelV x v->s.heap.IsSliceOf sl vl vu .none->IsPart vl lo->IsPart vu hi->r x lo hi H Q ->
  ∃ T id,typeLookup (.type T) "__getitem__"=pure (!(.builtin id))/\s.TypeIs v T/\X[3] (getItem v (.ref sl)) (EP X pins σ Q) X.xe s
def SlR.or(h:SlR X r)(h':SlR X r'):SlR X (λx lo hi H Q=>r x lo hi H Q\/r' x lo hi H Q):=by
 intro pins s σ H x v vl vu lo hi sl Q I rx hs pl pu q;rcases q with q|q
 .exact h pins s σ H x v vl vu lo hi sl Q I rx hs pl pu q
 exact h' pins s σ H x v vl vu lo hi sl Q I rx hs pl pu q
def tSl(r:V->Option Int->Option Int->Hp->VK->Prop)(te:TE)(tl th:TO):TE:=λσ H Q=>te σ H λx H1=>tl σ H1 λl H2=>th σ H2 λu H3=>r x l u H3 Q
def qa4(z:SlR X r)(B:PE X e te)(O:PO X lo tl)(U:PO X hi th):PE X (.Subscript e (.Slice lo hi none p2) pos) (tSl r te tl th):=by
 intro pins s σ H Q I h;refine Subscript_ (thn (B pins s σ H _ I h) λv s1 #[x,H1,I1,r1,q1]=>?_)
 refine wpAny_Slice (thn (O pins s1 σ H1 _ I1 q1) λvl s2 #[l,H2,I2,pl,q2]=>thn (U pins s2 σ H2 _ I2 q2) λvu s3 #[u,H3,I3,pu,q3]=>?_)
 rw[evalPart_none];refine gu ?_;have I4:"I" H3 {s3 with heap:=s3.heap.push {cls:=.type "slice",data:=.fields (List.toArray [vl,vu,.none])}}:=I3.kept (t':=s3.toks) λb ob q=>gq _ q
 obtain⟨T,id,hT,ht,hg⟩:=z pins {s3 with heap:=s3.heap.push {cls:=.type "slice",data:=.fields (List.toArray [vl,vu,.none])}} σ H3 x v vl vu l u s3[0] Q I4 r1 (Heap.IsSliceOf.new ..) pl pu q3;show X[3] (subscriptTail e (.Slice lo hi none p2) v (.ref s3[0])) (EP X pins σ Q) X.xe {s3 with heap:=s3.heap.push {cls:=.type "slice",data:=.fields (List.toArray [vl,vu,.none])}};exact tail_any (ops:=[.ref s3[0],v]) ht hT hg (by with_unfolding_all rfl)
def ww(xs:List V)(lo hi:Option Int):List V:=(xs.drop (HT.sIx xs[1] 0 lo)).take (HT.sIx xs[1] xs[1] hi-HT.sIx xs[1] 0 lo)
def Y2(xs)(lo hi):(ww xs lo hi)[1]<=xs[1]:=by
 unfold ww;rw[tD,pi];lia
def qa5(K:Frag):V->Option Int->Option Int->Hp->VK->Prop:=λx lo hi H Q=>∃ a xs,x=.ref a/\SqT K H a xs /\
 ¬ (HT.sIx xs[1] 0 lo=0/\HT.sIx xs[1] xs[1] hi=xs[1])/\∀ p,H p=none->Q (.ref p) (upd H p (.tup (ww xs lo hi)))
def qa6:SlR X (qa5 X.K):=by
 intro pins s σ H x v vl vu lo hi sl Q I rx hs pl pu h;obtain⟨a,xs,rfl,hx,hw,q⟩:=h;cases rx;obtain⟨its,r,ht,hz⟩:=I.tuple hx;have z:its.toArray.size=xs[1]:=by rw[gP];exact r.length.symm
 refine#["tuple",_,cD.lookup,ht.typeIs,?_];refine HT.getItem_tuple_cut ht hs pl pu (by rw[z];exact hw) ?_ (by rw[z];exact hz)
 rw[z];refine#[.ref s[0],_,I.laid (t':=s.toks) (o:=.tup (ww xs lo hi)) (λb ob q=>gq _ q) (gw _) ?_,rfl,q _ (I.hok.fresh (gw _))]
 exact#[f8 (Y2 xs lo hi) hz,_,(r.drop (HT.sIx xs[1] 0 lo)).take (HT.sIx xs[1] xs[1] hi-HT.sIx xs[1] 0 lo),IsTup.new _ _]
def qa7(K:Frag):R2:=λx y H Q=>∃ a b xs ys,x=.ref a/\y=.ref b/\SqT K H a xs/\SqT K H b ys/\xs≠[]/\xs[1]+ys[1]<=sizeLine /\
 (ys=[]->Q (.ref a) H)/\(ys≠[]->∀ p,H p=none->Q (.ref p) (upd H p (.tup (xs++ys))))
def Vals.nil_iff(r:Vals xs us):us=[]↔xs=[]:=by
 cases r with
 | nil=>simp
 | cons _ _=>simp
def qa8:OpR X (binaryOp .Add) (qa7 X.K):=by
 intro pins s σ H x y v u Q I rx ry h;obtain⟨a,b,xs,ys,rfl,rfl,ha,hb,hx,hz,q1,q2⟩:=h;cases rx;cases ry;obtain⟨its,r1,p1,_⟩:=I.tuple ha;obtain⟨B,r2,p2,_⟩:=I.tuple hb;refine HT.cat_tup p1 p2 (λz=>hx (r1.nil_iff.mp z)) (λz=>#[.ref a,H,I,rfl,q1 (r2.nil_iff.mp z)]) (λz=>?_) (by rw[<- r1[1],<- r2[1]];exact hz)
 refine#[.ref s[0],_,I.laid (t':=s.toks) (o:=.tup (xs++ys)) (λb ob q=>gq _ q) (gw _) ?_,rfl,q2 (λw=>z (r2.nil_iff.mpr w)) _ (I.hok.fresh (gw _))]
 exact#[by rw[gD];exact hz,_,r1.append r2,IsTup.new _ _]
end
def ixN(n:Nat)(i:Int):Option Nat:=if 0<=i then(if i<n then !i.toNat else none)else if -(n:Int)<=i then !(i+n).toNat else none
def atI{α:Type}(xs:List α)(i:Int):Option α:=(ixN xs[1] i).bind λj=>xs[j]?
def Y3(h:ixN n i=!j):seqIndex? i n=!j/\j<n/\-n<=i/\i<n:=by
 unfold ixN at h;by_cases h0:0<=i
 .rw[if_pos h0]at h;by_cases h1:i<n
  .rw[if_pos h1]at h;have e:i.toNat=j:=tP h;exact#[by rw[seqIndex_of h0 h1,e],"","",h1]
  rw[if_neg h1]at h;cases h
 rw[if_neg h0]at h;by_cases h1:-(n:Int)<=i
 .rw[if_pos h1]at h;have e:(i+n).toNat=j:=tP h;exact#[by rw[seqIndex_neg "" h1,e],"",h1,""]
 rw[if_neg h1]at h;cases h
def Z8(h:atI xs i=!v):∃ j,seqIndex? i xs[1]=!j/\xs[j]?=!v/\j<xs[1]/\-(xs[1])<=i/\i<xs[1]:=by
 unfold atI at h;cases e:ixN xs[1] i with
 | none=>rw[e]at h;cases h
 | some j =>
  rw[e]at h;obtain⟨h1,h2,h3,h4⟩:=Y3 e;exact#[j,h1,h,h2,h3,h4]
def yv(b:Expr):Prop:=∀ o i,subscripted b false o i=operate [o,i] (getItem o i)
def IxR(X:Cx)(r:R2):Prop :=
 ∀(value z:Expr) (pins:List (Addr×Obj)) (s:ab) (σ:St) (H:Hp) (x y:V) (v u:aa) (Q:VK),"I" H s->RelV x v->RelV y u->r x y H Q ->
  subscripted z false v u=operate [v,u] (getItem v u)->X[3] (subscriptTail value z v u) (EP X pins σ Q) X.xe s
def MtR(X:Cx)(id:String)(r:V->List V->Hp->VK->Prop):Prop :=
 ∀(pins:List (Addr×Obj)) (s:ab) (σ:St) (H:Hp) (x:V) (xs:List V) (v:aa) (us:List aa) (Q:VK),"I" H s->RelV x v->Vals xs us->r x xs H Q ->
  X[3] (call (.builtin id) (v::us)) (EP X pins σ Q) X.xe s
section
variable{X:Cx}{a b:Expr}{ta tb:TE}{pos:Pos}
def qa9(z:IxR X r)(B:PE X a ta)(O:PE X b tb)(U:yv b):PE X (.Subscript a b pos) (tOp r ta tb):=by
 intro pins s σ H Q I h;exact Subscript_ (Tn B O I h λv u s2 x y H2 I2 rx ry q=>z a b pins s2 σ H2 x y v u Q I2 rx ry q (U _ _))
def qaa(K:Frag):R2:=λx y H Q=>∃ p xs i v,x=.ref p/\y=.int i/\SqL K H p xs/\atI xs i=!v/\Q v H
def qab(K:Frag):R2:=λx y H Q=>∃ p xs i v,x=.ref p/\y=.int i/\SqT K H p xs/\atI xs i=!v/\Q v H
def qac:R2:=λx y H Q=>∃ z i c,x=.str z/\y=.int i/\z[1]<=sizeLine/\atI z.cps.toList i=!c/\Q (.str #[(List.toArray [c])]) H
def ix_list:IxR X (qaa X.K):=by
 intro value B pins s σ H x y v u Q I rx ry h hs;obtain⟨p,xs,i,z,rfl,rfl,hq,he,q⟩:=h;cases rx;obtain⟨t,rfl⟩:=ry;obtain⟨its,r,pl,hz⟩:=I.list hq;obtain⟨j,h1,h2,h3,h4,h5⟩:=Z8 he;obtain⟨w,ew,O⟩:=r.get h2;have hl:=r[1];have hn:=kt;have fin:EP X pins σ Q w s:=#[z,H,I,O,q];by_cases h0:0<=i
 .have hj:i.toNat=j:=by
   rw[seqIndex_of h0 h5]at h1;exact tP h1
  exact item_listR pl.isList h0 "" (by rw[hj];simpa using ew) fin hs
 have hj:(i+(its.toArray.size:Int)).toNat=j:=by
  rw[seqIndex_neg "" h4]at h1
  rw[gP,<- hl];exact tP h1
 exact subscriptTail_builtinR (x:=w) pl.isList.typeIs slot_list_getitem.lookup
  (wpAny_getItem_list_neg (Q:=λr s'=>r=w/\EP X pins σ Q r s') pl.isList "" (by rw[gP]<;>lia) "" (by rw[hj];simpa using ew) #[rfl,fin]) hs
def qad:IxR X (qab X.K):=by
 intro value B pins s σ H x y v u Q I rx ry h hs;obtain⟨p,xs,i,z,rfl,rfl,hq,he,q⟩:=h;cases rx;obtain⟨t,rfl⟩:=ry;obtain⟨its,r,pl,hz⟩:=I.tuple hq;obtain⟨j,h1,h2,h3,h4,h5⟩:=Z8 he;obtain⟨w,ew,O⟩:=r.get h2;have hl:=r[1];have hn:=kt;have fin:EP X pins σ Q w s:=#[z,H,I,O,q];exact subscriptTail_builtinR (x:=w) pl.typeIs slot_tuple_getitem.lookup
  (getItem_tuple (j:=j) (Q:=λr s'=>r=w/\EP X pins σ Q r s') pl "" "" (by rw[gP,<- hl];exact h1) ew[""] #[rfl,fin]) hs
def qae:IxR X qac:=by
 intro value B pins s σ H x y v u Q I rx ry h hs;obtain⟨z,i,c,rfl,rfl,hz,he,q⟩:=h;obtain⟨t,rfl⟩:=rx;obtain⟨t',rfl⟩:=ry;obtain⟨j,h1,h2,h3,h4,h5⟩:=Z8 he;have hl:z.cps.toList.length=z[1]:=by simp[Str.length]
 rw[hl]at h1 h4 h5;have hn:=kt;exact tail_any (typeIs_str s z t) slot_str_getitem.lookup (getItem_str (c:=c) (by
  have e1:decide (i < -(2 ^ 63:Int))=false:=t7 ""
  have e2:decide (i≥2 ^ 63)=false:=t7 ""
  rw[e1,e2,Bool.or_false]) (by rw[h1];simpa using h2) #[.str #[(List.toArray [c])],H,I.tok _,#[_,rfl],q]) hs
def qaf(its:List aa)(n j)(u):Obj.mapSeq (·.setIfInBounds j u) {cls:=.type "list",data:=.seq its.toArray n}={cls:=.type "list",data:=.seq (its.set j u).toArray n}:=by
 simp[Obj.mapSeq]
def Inv.lst{σ:St}{H:Hp}{s:ab}{p:Addr}{xs:List V}(I:"I" H s)(h:H p=!(.lst xs)) :
  ∃ its n,Vals xs its/\s.heap.get? p=some {cls:=.type "list",data:=.seq its.toArray n}/\xs[1]<=sizeLine:=by
 obtain⟨z,its,n,r,e⟩:=I.hok p _ h;exact#[its,n,r,e,z]
def Inv.lstUpd{H:Hp}{s:ab}{xs ys:List V}{its its':List aa}{n z:Nat}{f:Obj->Obj}(I:"I" H s)(h:H p=!(.lst xs))
  (O:s.heap.get? p=some {cls:=.type "list",data:=.seq its.toArray n})(B:f {cls:=.type "list",data:=.seq its.toArray n}={cls:=.type "list",data:=.seq its'.toArray z})(r:Vals ys its')(hz:ys[1]<=sizeLine)(t) :
  "I" (upd H p (.lst ys)) {s with heap:=s.heap.update p f,toks:=t}:=by
 have e:(s.heap.update p f).get? p=some {cls:=.type "list",data:=.seq its'.toArray z}:=by
  rw[f9 f O (by rw[B]<;>rfl),B]
 refine I.write (x:=p) (e:=p) (by rw[h];trivial) (.inl rfl) (λb u hb q=>(tM _ _ (tf hb)).trans q) #[_,e] ?_
 exact#[hz,its',z,r,e]
def qag:V->V->V->Hp->(Hp->Prop)->Prop:=λo i v H Q=>∃ p xs k j,o=.ref p/\i=.int k/\H p=!(.lst xs)/\ixN xs[1] k=!j/\Q (upd H p (.lst (xs.set j v)))
def qah:PSet X qag:=by
 intro pins s σ H o i v ov iv u Q I ro ri rv h;obtain⟨p,xs,k,j,rfl,rfl,hp,hj,q⟩:=h;cases ro;obtain⟨t,rfl⟩:=ri;obtain⟨its,n,r,ho,hz⟩:=I.lst hp;obtain⟨h1,h2,h3,h4⟩:=Y3 hj;have hl:=r[1];have hn:=kt;have I':"I" (upd H p (.lst (xs.set j v))) {s with heap:=s.heap.update p (Obj.mapSeq (·.setIfInBounds j u))} :=
  I.lstUpd hp ho (qaf its n j u) (r.set rv j) (by rw[dN];exact hz) s.toks
 by_cases h0:0<=k
 .have hk:k.toNat=j:=by
   rw[seqIndex_of h0 h4]at h1;exact tP h1
  exact PySem.W.ki_setAt ho h0 "" (by rw[gP,<- hl];exact h4) (by rw[hk];exact#[_,I',q])
 have hk:(k+(its.toArray.size:Int)).toNat=j:=by
  rw[seqIndex_neg "" h3]at h1
  rw[gP,<- hl];exact tP h1
 exact PySem.W.ki_setBack ho "" (by rw[gP,<- hl];exact h3) "" (by rw[hk];exact#[_,I',q])
def qai(lo hi)(n):(sliceBounds lo hi none n).1=(HT.sIx n 0 lo)/\(sliceBounds lo hi none n).2.1=(HT.sIx n n hi)/\(sliceBounds lo hi none n).2.2=1:=by
 refine#[?_,?_,rfl]
 .cases lo with
  | none=>simp[sliceBounds,HT.sIx]
  | some i =>
   simp only[sliceBounds,HT.sIx,Option.getD_none,show(1:Int)>0 by decide,dB]
   by_cases h:i<0
   .simp only[h,dB]<;>lia
   simp only[h,cA]<;>lia
 cases hi with
 | none=>simp[sliceBounds,HT.sIx]
 | some i =>
  simp only[sliceBounds,HT.sIx,Option.getD_none,show(1:Int)>0 by decide,dB]
  by_cases h:i<0
  .simp only[h,dB]<;>lia
  simp only[h,cA]<;>lia
def qaj(its:List aa)(lo hi):slicePick its.toArray lo hi none=((its.drop (HT.sIx its[1] 0 lo)).take (HT.sIx its[1] its[1] hi-HT.sIx its[1] 0 lo)).toArray:=by
 obtain⟨h1,h2,h3⟩:=qai lo hi its.toArray.size;unfold slicePick;rw[h1,h2,h3];simp only[sliceRange_one,pick_run,gP]<;>rfl
def qak(K:Frag):V->Option Int->Option Int->Hp->VK->Prop:=λx lo hi H Q=>∃ a xs,x=.ref a/\SqL K H a xs/\∀ p,H p=none->Q (.ref p) (upd H p (.lst (ww xs lo hi)))
def qal:SlR X (qak X.K):=by
 intro pins s σ H x v vl vu lo hi sl Q I rx hs pl pu h;obtain⟨a,xs,rfl,hx,q⟩:=h;cases rx;obtain⟨its,r,ht,hz⟩:=I.list hx;have z:=r[1];refine#["list",_,slot_list_getitem.lookup,ht.isList.typeIs,?_];refine wpAny_getItem_list_slice ht.isList hs pl pu .none "s" ?_ (by rw[gP]<;>lia)
 rw[qaj,<- z];refine#[.ref s[0],_,I.laid (t':=s.toks) (o:=.lst (ww xs lo hi)) (λb ob q=>gq _ q) (gw _) ?_,rfl,q _ (I.hok.fresh (gw _))]
 exact#[f8 (Y2 xs lo hi) hz,_,0,(r.drop (HT.sIx xs[1] 0 lo)).take (HT.sIx xs[1] xs[1] hi-HT.sIx xs[1] 0 lo),gM _ rfl]
def qam:yu X (.builtin "len") (λxs H Q=>∃ p ys,xs=[.ref p]/\(SqL X.K H p ys\/SqT X.K H p ys)/\Q (.int ys[1]) H):=by
 intro pins s σ H xs us Q I r h;obtain⟨p,ys,rfl,hq,q⟩:=h;obtain⟨u,rfl,rx⟩:=Z7 r;cases rx;have hn:=kt;rcases hq with hq|hq
 .obtain⟨its,r',pl,hz⟩:=I.list hq;have z:=r'[1];exact Calls.call_len_list pl.isList (by simp only[gP]<;>lia) #[.int ys[1],H,I.tok _,#[s.toks+1,by rw[gP,z]],q]
 obtain⟨its,r',pl,hz⟩:=I.tuple hq;have z:=r'[1];exact len_tuple pl (by simp only[gP]<;>lia) #[.int ys[1],H,I.tok _,#[s.toks+1,by rw[gP,z]],q]
def qan:yu X (.type "list") (λxs H Q=>∃ p ys,xs=[.ref p]/\(SqL X.K H p ys\/SqT X.K H p ys)/\∀ l,H l=none->Q (.ref l) (upd H l (.lst ys))):=by
 intro pins s σ H xs us Q I r h;obtain⟨p,ys,rfl,hq,q⟩:=h;obtain⟨u,rfl,rx⟩:=Z7 r;cases rx;have fin:∀(its:List aa),Vals ys its->ys[1]<=sizeLine->∀(h':Heap) (c':Nat),(∀ b o',s.heap.get? b=!o'->h'.get? b=!o') ->
   h'.get? s[0]=some {cls:=.type "list",dict:=none,data:=.seq its.toArray c',slots:=#[]}->EP X pins σ Q (.ref s[0]) {s with heap:=h'}:=λits r' hz h' c' kp e =>
  #[.ref s[0],_,I.laid (t':=s.toks) kp (gw _) (show ObjOk X.prog X.w _ h' _ (.lst ys)from#[hz,its,c',r',e]),rfl,q _ (I.hok.fresh (gw _))]
 rcases hq with hq|hq
 .obtain⟨its,r',pl,hz⟩:=I.list hq;have z:=r'[1];obtain⟨o,ho,hc,n,hd⟩:=pl.isList;exact call_list_seq p (.inl rfl) ho hc hd (λh' c' kp e=>fin its r' hz h' c' kp e) (by simp only[gP]<;>lia)
 obtain⟨its,r',pl,hz⟩:=I.tuple hq;have z:=r'[1];obtain⟨o,ho,hc,n,hd⟩:=pl;exact call_list_seq p (.inr rfl) ho hc hd (λh' c' kp e=>fin its r' hz h' c' kp e) (by simp only[gP]<;>lia)
def qao:yu X (.type "tuple") (λxs H Q=>∃ p ys,xs=[.ref p]/\((SqL X.K H p ys/\∀ l,H l=none->Q (.ref l) (upd H l (.tup ys)))\/(SqT X.K H p ys/\Q (.ref p) H))):=by
 intro pins s σ H xs us Q I r h;obtain⟨p,ys,rfl,h⟩:=h;obtain⟨u,rfl,rx⟩:=Z7 r;cases rx;rcases h with⟨hq,q⟩|⟨hq,q⟩
 .obtain⟨its,r',pl,hz⟩:=I.list hq;have z:=r'[1];refine call_tuple_list pl.isList (λh' kp=>?_) (by simp only[gP]<;>lia)
  have I1:"I" H {s with heap:=h'}:=I.kept (t':=s.toks) kp;have I2:"I" (upd H h'.objs.size (.tup ys)) {s with heap:=h'.push {cls:=.type "tuple",data:=.seq its.toArray}} :=
   I1.laid (t':=s.toks) (λb o e=>gq _ e) (gw _) (show ObjOk X.prog X.w _ _ _ (.tup ys)from#[hz,its,r',IsTup.new _ _])
  exact#[.ref h'.objs.size,_,I2,rfl,q _ (I1.hok.fresh (gw _))]
 obtain⟨its,r',pl,hz⟩:=I.tuple hq;exact call_tuple_same pl #[.ref p,H,I,rfl,q]
def tyV(K:Frag)(T:String)(x:V)(H:Hp):Prop:=match x with
 | .str _=>T="str"
 | .int _=>T="int"
 | .ref p=>(T="list"/\∃ xs,SqL K H p xs)\/(T="tuple"/\∃ o,K.lookup p=!o/\o.cls=.type "tuple"/\o.dict=none) \/
   (T="dict"/\((∃ kvs,H p=!(.dK kvs))\/∃ kvs,H p=!(.dT kvs)))\/(T="set"/\∃ S n,H p=!(.set S n))
 | _=>False
def qap{s:ab}(I:"I" H s)(r:RelV x v)(ty:tyV X.K T x H) :
  s.TypeIs v T/\∀ a,v=.ref a->∃ ob,s.heap.get? a=!ob/\ob.dict=none:=by
 cases x with
 | str z =>
  obtain⟨t,rfl⟩:=r;cases (show T="str" from ty)
  exact#[typeIs_str s z t,λ_ e=>nomatch e]
 | int i =>
  obtain⟨t,rfl⟩:=r;cases (show T="int" from ty)
  exact#[bz s i t,λ_ e=>nomatch e]
 | ref p =>
  cases r;rcases ty with⟨rfl,xs,hq⟩|⟨rfl,o,hk,hc,hd⟩|⟨rfl,hk⟩|⟨rfl,S,n,hk⟩
  .obtain⟨its,_,pl,_⟩:=I.list hq;refine#[pl.isList.typeIs,λa e=>?_]
   cases e;obtain⟨o,n,e,c,hd,_⟩:=pl;exact#[o,e,hd]
  .refine#[#[o,I.kIn p o hk,hc],λa e=>?_]
   cases e;exact#[o,I.kIn _ o hk,hd]
  .have z:∃ o,s.heap.get? p=!o/\o.ExactDict:=by
    rcases hk with⟨kvs,hk⟩|⟨kvs,hk⟩
    .obtain⟨_,_,_,_,o,_,_,e,ex,_⟩:=I.hok p _ hk;exact#[o,e,ex]
    obtain⟨_,_,_,_,o,_,_,e,ex,_⟩:=I.hok p _ hk;exact#[o,e,ex]
   obtain⟨o,e,ex⟩:=z;refine#[#[o,e,ex.1],λa e2=>?_]
   cases e2;exact#[o,e,ex.2.1]
  obtain⟨o,_,_,_,e,ex,_⟩:=I.hok p _ hk;refine#[#[o,e,ex.1],λa e2=>?_]
  cases e2;exact#[o,e,ex.2.1]
 | _=>exact False.elim ty
def tBM(K:Frag)(T:String)(r:V->List V->Hp->VK->Prop)(to:TE)(t:TA):TE:=λσ H Q=>to σ H λx H1=>tyV K T x H1/\t σ H1 λxs H2=>r x xs H2 Q
variable{o e:Expr}{es:List Expr}{to:TE}{t:TA}{name:Str}{apos cpos:Pos}{T id:String}{r:V->List V->Hp->VK->Prop}
def wT(Z:PlainAttrs T)(slot:Slot T name id)(Y:typeOf (.builtin id)=pure (.type "method_descriptor"))(hm:MtR X id r)(ho:PE X o to)(ha:PA X (e::es) t)
  (B:(attributeBase o name X.env (eval o X.env)=eval o X.env)["r"])
  (U:(((backTo cpos (starEach (e::es) X.env)).all (λx=>not x.1)&&(backToKw cpos (keywordEach [] X.env)).all (λx=>x.1.isSome)
   && decide ((e::es)[1]+([]:List Keyword)[1]+(if ([]:List Keyword).isEmpty then 0 else 1)<30))=true)["r"])
  (O:((apos.endLine==cpos.line)=true)["r"]) (hs:(starEach (e::es) X.env=(false,eval e X.env)::starEach es X.env)["r"]) (z:((backTo cpos (starEach es X.env)).any (·.1)=false)["r"]) :
  PE X (.Call (.Attribute o name apos) (e::es) [] cpos) (tBM X.K T r to t):=by
 intro pins s σ H Q I h;refine wpAny_Call_method_late B U O rfl (thn (ho pins s σ H _ I h) λv s1 #[x,H1,I1,r1,ty,q1]=>?_)
 obtain⟨h1,h2⟩:=qap I1 r1 ty;refine#[T,id,Z,slot,Y,h1,h2,?_];have hA:=ha cpos pins s1 σ H1 _ I1 q1;rw[hs]at hA ⊢;refine cW (by show(false||(backTo cpos (starEach es X.env)).any (·.1))=false;rw[z]<;>rfl) (dg ?_)
 exact thn hA λus s2 #[vs,H2,I2,r2,q2]=>hm pins s2 σ H2 x vs v us Q I2 r1 r2 q2
end
def MtM(X:Cx)(id:String)(r:V->List V->Hp->VK->Prop):Prop :=
 ∀(pins:List (Addr×Obj)) (s:ab) (σ:St) (H:Hp) (x:V) (xs:List V) (v:aa) (us:List aa) (Q:VK),"I" H s->RelV x v->Vals xs us->r x xs H Q ->
  X[3] (call (.builtin id) (v::us)) (EP X pins σ Q) X.xe s
theorem Vals.one:∀{x} {us},Vals [x] us->∃ u,us=[u]/\RelV x u
 | _,_,.cons r .nil=>#[_,rfl,r]
theorem Vals.two:∀{x y} {us},Vals [x,y] us->∃ u v,us=[u,v]/\RelV x u/\RelV y v
 | _,_,_,.cons r (.cons q .nil)=>#[_,_,rfl,r,q]
def Vals.reverse(h:Vals xs us):Vals xs.reverse us.reverse:=by
 induction h with
 | nil=>exact .nil
 | cons r t ih=>rw[bU,bU];exact Vals.append ih (.cons r .nil)
section
variable{X:Cx}{pins:List (Addr×Obj)}{σ:St}{H:Hp}{s:ab}{l b:Addr}{xs ys zs:List V}
def Inv.lset{its its':List aa}{n:Nat}{f:Array aa->Array aa}{t':Nat}(I:"I" H s)(z:H l=!(.lst xs))
  (e:s.heap.get? l=some {cls:=.type "list",data:=.seq its.toArray n})(B:f its.toArray=its'.toArray)(O:Vals ys its')(hz:ys[1]<=sizeLine) :
  "I" (upd H l (.lst ys)) {s with heap:=s.heap.update l (Obj.mapSeq f),toks:=t'}:=by
 have q:=PySem.IsL.update e f;rw[B]at q;refine I.write (x:=l) (e:=l) (by rw[z];exact trivial) (.inl rfl) (λb' u hb hu=>(tM s.heap (Obj.mapSeq f) (tf hb)).trans hu) #[_,q] ?_
 exact#[hz,its',_,O,q]
def Inv.lstM(I:"I" H s)(B:H l=!(.lst xs)):xs[1]<=sizeLine/\∃ its n,Vals xs its/\xs[1]=its[1]/\s.heap.get? l=some {cls:=.type "list",data:=.seq its.toArray n}:=by
 obtain⟨z,its,n,r,e⟩:=I.hok l _ B;exact#[z,its,n,r,r[1],e]
def qaq(h:n<=sizeLine):Builtin.List.listTooLong n=false:=by
 unfold Builtin.List.listTooLong;exact t7 ""
end
section
variable{X:Cx}
def qar:V->List V->Hp->VK->Prop:=λx vs H Q=>∃ l xs y,x=.ref l/\vs=[y]/\H l=!(.lst xs)/\xs[1]<sizeLine/\Q .non (upd H l (.lst (xs++[y])))
def xN:MtM X "list.append" qar:=by
 intro pins s σ H x vs v us Q I rx rv h;obtain⟨l,xs,y,rfl,rfl,hH,hz,q⟩:=h;cases rx;obtain⟨u,rfl,ru⟩:=rv.one;obtain⟨z,its,n,r,hl,e⟩:=I.lstM hH;refine bV F.slot_list_append #[_,e,rfl] F.entry_list_append (F.args_list_append_2 _ _) (PySem.list_append l its.toArray n u (by rw[gP];lia)) #[e,?_]
 refine#[.non,_,I.lset (its':=its++[u]) hH e "s" (r.append (.cons ru .nil)) ?_,rfl,q]
 rw[gD,fW];lia
def qas:V->List V->Hp->VK->Prop:=λx vs H Q=>∃ l b xs zs,x=.ref l/\vs=[.ref b]/\H l=!(.lst xs)/\H b=!(.lst zs)/\xs[1]+zs[1]<=sizeLine/\Q .non (upd H l (.lst (xs++zs)))
def qat:MtM X "list.extend" qas:=by
 intro pins s σ H x vs v us Q I rx rv h;obtain⟨l,b,xs,zs,rfl,rfl,hH,hB,hz,q⟩:=h;cases rx;obtain⟨u,rfl,ru⟩:=rv.one;cases ru;obtain⟨z,its,n,r,hl,e⟩:=I.lstM hH;obtain⟨z2,B,n2,r2,U,e2⟩:=I.lstM hB;have hsz:its.toArray.size+B.toArray.size<=sizeLine:=by rw[gP,gP];lia
 have O:¬ (not its.toArray.isEmpty&&Builtin.List.listTooLong (its.toArray.size+B.toArray.size))=true:=by
  rw[qaq hsz,Bool.and_false];exact pX
 refine bV F.slot_list_extend #[_,e,rfl] F.entry_list_extend (F.args_list_extend_2 _ _)
  (AutoSeq1.list_extend_list_list_0 l its.toArray n b B.toArray n2 O (by rw[gP];lia) "") #[e,e2,?_]
 refine#[.non,_,I.lset (its':=its++B) hH e "s" (r.append r2) ?_,rfl,q]
 rw[gD];lia
end
section
variable{prog:af}{w:World}{A:ag}{E:aa->ab->Prop}{s:ab}
set_option maxRecDepth 100000 in
end
section
variable{X:Cx}
end
section
variable{κ:Type} [DecidableEq κ]
def js(kvs:List (κ×V))(k:κ):Option V:=(kvs.find? λkv=>decide (kv.1=k)).map (·.2)
def jI(kvs:List (κ×V))(k:κ)(v:V):List (κ×V) :=
 if (kvs.any λkv=>decide (kv.1=k))=true then kvs.map (λkv=>if kv.1=k then(kv.1,v)else kv)else kvs++[(k,v)]
def xO{p:κ×V}{k:κ}(e:p.1=k):js (p::r) k=!p.2:=by simp[js,d6,e]
def xP{p:κ×V}{k:κ}(e:¬ p.1=k):js (p::r) k=js r k:=by simp[js,d6,e]
theorem Z9(k):∀ kvs:List (κ×V),(kvs.any λkv=>decide (kv.1=k))=(js kvs k).isSome
 | []=>rfl
 | p::r=>by
  rw[dO];by_cases e:p.1=k
  .simp only[xO e,tG e,Bool.true_or,Option.isSome_some]
  rw[xP e,t7 e,Bool.false_or];exact Z9 k r
def Za(kvs)(k:κ)(v):(jI kvs k v)[1]<=kvs[1]+1:=by
 unfold jI;split
 .rw[gg];lia
 rw[gD,gJ,fR];lia
def qau{k:κ}(v)(h:js kvs k=none):jI kvs k v=kvs++[(k,v)]:=by
 unfold jI;rw[Z9,h];exact if_neg "d"
def RelO.isSome_eq(r:RelO o u):o.isSome=u.isSome:=by
 cases o with
 | none=>cases u with
  | none=>rfl
  | some _=>exact(show False from r).elim
 | some _=>cases u with
  | none=>exact(show False from r).elim
  | some _=>rfl
def RelO.getD{o:Option V}{u:Option aa}(r:RelO o u)(z:RelV d d'):RelV (o.getD d) (u.getD d'):=by
 cases o with
 | none=>cases u with
  | none=>exact z
  | some _=>exact(show False from r).elim
 | some _=>cases u with
  | none=>exact(show False from r).elim
  | some _=>exact r
def KV.val(r:KV kvs vs)(k:κ):RelO (js kvs k) (valueAt vs k):=by
 unfold KV at r
 induction r with
 | nil=>exact True.intro
 | @cons p q ps qs h t ih =>
  obtain⟨h1,h2⟩:=h;by_cases e:p.1=k
  .have e':q.1=k:=h1.symm.trans e;have b:valueAt (q::qs) k=!q.2:=by simp[valueAt,d6,e']
   rw[xO e,b];exact h2
  have e':¬ q.1=k:=λz=>e (h1.trans z)
  have b:valueAt (q::qs) k=valueAt qs k:=by simp[valueAt,d6,e']
  rw[xP e,b];exact ih
def KV.any(r:KV kvs vs)(k:κ):(kvs.any λkv=>decide (kv.1=k))=vs.any λkv=>decide (kv.1=k):=by
 unfold KV at r
 induction r with
 | nil=>rfl
 | cons h t ih=>rw[dO,dO,ih,h.1]
def KV.repl{kvs:List (κ×V)}{vs:List (κ×aa)}(r:KV kvs vs)(k)(B:RelV y u) :
  KV (kvs.map λkv=>if kv.1=k then(kv.1,y)else kv) (vs.map λkv=>if kv.1=k then(kv.1,u)else kv):=by
 unfold KV at r ⊢
 induction r with
 | nil=>exact .nil
 | @cons p q ps qs h t ih =>
  rw[gN,gN];refine .cons ?_ ih;obtain⟨h1,h2⟩:=h;by_cases e:p.1=k
  .rw[if_pos e,if_pos (h1.symm.trans e)];exact#[h1,B]
  rw[if_neg e,if_neg λz=>e (h1.trans z)];exact#[h1,h2]
def KV.put(r:KV kvs vs)(k:κ)(z:RelV y u):KV (jI kvs k y) (stored vs k u):=by
 unfold jI stored;rw[r.any k];by_cases e:(vs.any λkv=>decide (kv.1=k))=true
 .rw[if_pos e,if_pos e];exact r.repl k z
 rw[if_neg e,if_neg e];exact Paired.snoc r #[rfl,z]
def KV.keys{vs:List (κ×aa)}(r:KV kvs vs):kvs.map (·.1)=vs.map (·.1):=by
 unfold KV at r
 induction r with
 | nil=>rfl
 | cons h t ih=>rw[gN,gN,ih,h.1]
def KV.length{vs:List (κ×aa)}(r:KV kvs vs):kvs[1]=vs[1]:=dL r
end
def ky(r:RelV (kV k) u):(je P w).is k u=true:=by
 cases k with
 | inl i=>obtain⟨t,e⟩:=(show ∃ t,u=Value.int i t from r);subst e;exact WF P w i t
 | inr x=>obtain⟨t,e⟩:=(show ∃ t,u=Value.str x t from r);subst e;exact WG P w x t
theorem Zb:∀{ks} {us},Vals (ks.map kV) us->ItemsAre (je P w) ks us
 | [],_,r=>by rw[pY]at r;cases r;exact .nil
 | k::ks,_,r=>by
  rw[gN]at r;cases r with
  | cons h t=>exact .cons (ky h) (Zb t)
abbrev KT(H:Hp):List (List Key×V)->List (List Key×Addr×aa)->Prop:=Paired λp q=>p.1=q.1/\H q.2.1=!(.tup (p.1.map kV))/\RelV p.2 q.2.2
def KT.val(r:KT H kvs xs)(k):RelO (js kvs k) ((atKey xs k).map (·.2)):=by
 induction r with
 | nil=>exact True.intro
 | @cons p q ps qs h t ih =>
  obtain⟨h1,_,h2⟩:=h;by_cases e:p.1=k
  .have e':q.1=k:=h1.symm.trans e;have b:atKey (q::qs) k=!q.2:=by simp[atKey,d6,e']
   rw[xO e,b];exact h2
  have e':¬ q.1=k:=λz=>e (h1.trans z)
  have b:atKey (q::qs) k=atKey qs k:=by simp[atKey,d6,e']
  rw[xP e,b];exact ih
def KT.repl{kvs:List (List Key×V)}{xs:List (List Key×Addr×aa)}(r:KT H kvs xs)(k)(B:RelV y u) :
  KT H (kvs.map λkv=>if kv.1=k then(kv.1,y)else kv) (xs.map (putAt k u)):=by
 induction r with
 | nil=>exact .nil
 | @cons p q ps qs h t ih =>
  rw[gN,gN];refine .cons ?_ ih;obtain⟨h1,h2,h3⟩:=h;unfold putAt;by_cases e:p.1=k
  .rw[if_pos e,if_pos (h1.symm.trans e)];exact#[h1,h2,B]
  rw[if_neg e,if_neg λz=>e (h1.trans z)];exact#[h1,h2,h3]
def KT.put{H:Hp}(r:KT H kvs xs)(k)(B:H b=!(.tup (k.map kV)))(z:RelV y u) :
  KT H (jI kvs k y) (storedH xs k b u):=by
 have e:(kvs.any λkv=>decide (kv.1=k))=(atKey xs k).isSome:=by
  rw[Z9,(r.val k).isSome_eq,Option.isSome_map]
 unfold jI storedH;rw[e];by_cases q:(atKey xs k).isSome=true
 .rw[if_pos q,if_pos q];exact r.repl k z
 rw[if_neg q,if_neg q];exact Paired.snoc r #[rfl,B,z]
def KT.keeps{H H':Hp}(r:KT H kvs xs)(B:∀ b ys,H b=!(.tup ys)->H' b=!(.tup ys)):KT H' kvs xs :=
 Paired.mapP r λ_ _ z=>#[z.1,B _ _ z.2.1,z.2.2]
section
variable{P:af}{w:World}{H:Hp}{h:Heap}{a:Addr}
def Y4(ok:HOk P w H h)(e:Rd H a u):ObjOk P w H h a u:=e.ok ok
def Qj(z:HOk P w H h)(e:Rd H a (.dK kvs)):kvs[1]<=sizeLine/\(a==sysModules)=false/\∃ vs,KV kvs vs/\h.DictOf (je P w) a vs :=
 show ObjOk P w H h a (.dK kvs)from Y4 z e
def qav(z:HOk P w H h)(e:H a=!(.dK kvs)):kvs[1]<=sizeLine/\(a==sysModules)=false/\∃ vs,KV kvs vs/\h.DictOf (je P w) a vs:=Qj z (.inl e)
def Qk(z:HOk P w H h)(e:H a=!(.tup (ks.map kV))):(tupleKind (je P w)).is h ks a:=by
 obtain⟨_,its,r,o,h1,h2,n,h3⟩:=(show ObjOk P w H h a (.tup (ks.map kV))from z a _ e)
 exact#[o,its.toArray,n,h1,h2,h3,by simpa using Zb r]
def Ql(O:HOk P w H h)(e:Rd H a (.dT kvs)):kvs[1]<=sizeLine/\(a==sysModules)=false /\
  ∃ xs,KT H kvs xs/\h.DictOfH (tupleKind (je P w)) a xs:=by
 obtain⟨z,y,xs,r,o,es,ep,h1,h2,h3,h4,h5⟩:=(show ObjOk P w H h a (.dT kvs)from Y4 O e)
 refine#[z,y,xs,r,o,es,ep,h1,h2,h3,h4,λx hx=>?_,h5]
 have B:∀{l:List (List Key×V)} {m:List (List Key×Addr×aa)},KT H l m->∀ x∈m,(tupleKind (je P w)).is h x.1 x.2.1:=by
  intro l m q
  induction q with
  | nil=>intro x hx;exact nomatch hx
  | @cons p q ps qs hq t ih =>
   intro x hx;rcases gy.mp hx with e|hx
   .subst e;exact Qk O (by rw[<- hq.1];exact hq.2.1)
   exact ih x hx
 exact B r x hx
def Y5(z:HOk P w H h)(e:H a=!(.dT kvs)):kvs[1]<=sizeLine/\(a==sysModules)=false /\
  ∃ xs,KT H kvs xs/\h.DictOfH (tupleKind (je P w)) a xs:=Ql z (.inl e)
end
def DGet(H:Hp)(a:Addr)(y:V)(r:Option V):Prop :=
 (∃ kvs k,Rd H a (.dK kvs)/\y=kV k/\r=js kvs k)\/∃ kvs k b,Rd H a (.dT kvs)/\y=.ref b/\H b=!(.tup (k.map kV))/\r=js kvs k
def DPut(H:Hp)(a:Addr)(y v:V)(H':Hp):Prop :=
 (∃ kvs k,H a=!(.dK kvs)/\y=kV k/\kvs[1]<sizeLine/\H'=upd H a (.dK (jI kvs k v))) \/
 ∃ kvs k b,H a=!(.dT kvs)/\y=.ref b/\H b=!(.tup (k.map kV))/\kvs[1]<sizeLine/\H'=upd H a (.dT (jI kvs k v))
theorem DPut.k{k:Key}{v:V}(e:H a=!(.dK kvs))(z:kvs[1]<sizeLine):DPut H a (kV k) v (upd H a (.dK (jI kvs k v))):=.inl #[kvs,k,e,rfl,z,rfl]
def DPut.t{H:Hp}{kvs:List (List Key×V)}{k:List Key}(e:H a=!(.dT kvs))(z:H b=!(.tup (k.map kV)))(B:kvs[1]<sizeLine) :
  DPut H a (.ref b) v (upd H a (.dT (jI kvs k v))):=.inr #[kvs,k,b,e,rfl,z,B,rfl]
section
variable{X:Cx}{pins:List (Addr×Obj)}{σ:St}{H:Hp}{s:ab}{a:Addr}{y v:V}{u r:aa}{o:Option V}{A:ag}{E:aa->ab->Prop}
def Inv.big(I:"I" H s):sysModules<s[0]:=by
 have h:mainGlobals<s[0]:=(I.mod.glob.keeps I.bk).lt;exact pZ "d" h
def Zc{h':Heap}{t':Nat}(I:"I" H s)(O:Mut (H a))(U:Heap.SameBut a s.heap h')(Y:∃ q,h'.get? a=!q)(B:ObjOk X.prog X.w (upd H a ob) h' a ob) :
  "I" (upd H a ob) {s with heap:=h',toks:=t'} :=
 I.write (x:=a) (e:=a) O (.inl rfl) (λb q hb z=>(U.2 b hb).trans z) Y B
def qaw{kvs:List (Key×V)}(z:kvs[1]<=sizeLine)(hd:(a==sysModules)=false)(B:KV kvs vs)(dd:h'.DictOf (je P w) a vs) :
  ObjOk P w H' h' a (.dK kvs):=#[z,hd,vs,B,dd]
def qax(Z:A.units+1<cLine)(I:"I" H s)(g:DPut H a y v H')(U:RelV y u)(Y:RelV v r)(h:∀ s',"I" H' s'->Q () s') :
  wpAny (model X.prog X.w) A (setItem (.ref a) u r) Q E s:=by
 rcases g with⟨kvs,k,e,ey,l,eH⟩|⟨kvs,k,b,e,ey,eb,l,eH⟩
 .subst ey eH;obtain⟨z,hd,vs,B,dd⟩:=qav I.hok e;have hz:vs[1]<=sizeLine:=by rw[<- B[1]];exact z
  have hl:(jI kvs k v)[1]<=sizeLine:=by have:=Za kvs k v;lia
  refine wpAny_setItem_pairs (hsz:=hz) (ky U) dd λh' O hs=>h _ ?_
  have he:∃ q,h'.get? a=!q:=let #[q,_,_,hq,_]:=O;#[q,hq]
  exact Zc I (by rw[e];exact True.intro) hs he (qaw hl hd (B.put k Y) O)
 subst ey eH;cases (show u=Value.ref b from U)
 obtain⟨z,hd,xs,B,dd⟩:=Y5 I.hok e;have hz:xs[1]<=sizeLine:=by rw[<- dL B];exact z
 have hl:(jI kvs k v)[1]<=sizeLine:=by have:=Za kvs k v;lia
 refine wpAny_setItem_heap (hsz:=hz) (dP Z) (Qk I.hok eb) dd λh' O hs=>h _ ?_
 obtain⟨q,es,ep,hq,h2,h3,h4,_,h5⟩:=O;refine Zc I (by rw[e];exact True.intro) hs #[q,hq] #[hl,hd,_,(B.put k eb Y).keeps λc ys ec=>?_,q,es,ep,hq,h2,h3,h4,h5]
 rw[qr (WH ec e λz=>nomatch z)]
 exact ec
variable{kvs:List (Key×V)}{k:Key}
end
def qay(td ty tv:TE):TS:=λD σ H=>tv σ H λv H1=>td σ H1 λx H2=>ty σ H2 λy H3=>∃ a H4,x=.ref a/\DPut H3 a y v H4/\D.nx σ H4
section
variable{X:Cx}{o i e value:Expr}{pos pos' tpos:Pos}{td ty tv:TE}
def Zd(z:X.A.units+1<cLine)(B:PE X o td)(hi:PE X i ty)(O:PE X value tv)(U:swapsWith value (!(.Subscript o i pos')) pos.line X.env=pure false) :
  PS X (.Assign [.Subscript o i pos'] value pos) (qay td ty tv):=by
 intro pins s σ H D I h;refine wpAny_Assign_Subscript (thn (O pins s σ H _ I h) λr s1 #[v,H1,I1,rv,q1]=>thn (B pins s1 σ H1 _ I1 q1) λu s2 #[x,H2,I2,rx,q2]=>thn (hi pins s2 σ H2 _ I2 q2) λiv s3 #[y,H3,I3,ry,a,H4,ex,g,q3]=>?_) U
 subst ex;obtain rfl:u=Value.ref a:=rx;exact qax z I3 g ry rv λs4 I4=>#[σ,H4,I4,q3]
end
def qaz(h:Heap)(z:sysModules<h.objs.size):ObjOk P w H (h.push {cls:=.type "dict",data:=.dict #[]}) h.objs.size (.dK []) :=
 #[tJ _,px.mpr (tf (hV z)),[],.nil,Heap.DictOf.new h]
def qaA(h:Heap)(z:sysModules<h.objs.size):ObjOk P w H (h.push {cls:=.type "dict",data:=.dict #[]}) h.objs.size (.dT []) :=
 #[tJ _,px.mpr (tf (hV z)),[],.nil,_,#[],0,gM _ rfl,#[rfl,rfl,rfl],rfl,rfl,bP]
def qaB:TE:=λ_ H Q=>∀ p,H p=none->Q (.ref p) (upd H p (.dK []))
def qaC:TE:=λ_ H Q=>∀ p,H p=none->Q (.ref p) (upd H p (.dT []))
section
variable{X:Cx}{pos:Pos}
def qaD:PE X (.Dict [] [] pos) qaB:=λpins s σ H Q I h =>
 wpAny_Dict_empty #[.ref s[0],_,I.laid (a:=s[0]) (o:=.dK []) (t':=s.toks) (λ_ _ q=>gq _ q) (gw _) (qaz s.heap I.big),rfl,h _ (I.hok.fresh (gw _))]
def qaE:PE X (.Dict [] [] pos) qaC:=λpins s σ H Q I h =>
 wpAny_Dict_empty #[.ref s[0],_,I.laid (a:=s[0]) (o:=.dT []) (t':=s.toks) (λ_ _ q=>gq _ q) (gw _) (qaA s.heap I.big),rfl,h _ (I.hok.fresh (gw _))]
end
structure M1(X:Cx)(o:Expr)(m:Str)(apos:Pos)(e:Expr)(cpos:Pos):Prop where
 base:attributeBase o m X.env (eval o X.env)=eval o X.env
 few:((backTo cpos (starEach [e] X.env)).all (λx=>not x.1)&&(backToKw cpos (keywordEach [] X.env)).all (λx=>x.1.isSome)
  && decide (([e]:List Expr)[1]+([]:List Keyword)[1]+(if ([]:List Keyword).isEmpty then 0 else 1)<30))=true
 line:(apos.endLine==cpos.line)=true
 trees:backTo cpos (starEach [e] X.env)=[(false,eval e X.env)]
structure M2(X:Cx)(o:Expr)(m:Str)(apos:Pos)(e f:Expr)(cpos:Pos):Prop where
 base:attributeBase o m X.env (eval o X.env)=eval o X.env
 few:((backTo cpos (starEach [e,f] X.env)).all (λx=>not x.1)&&(backToKw cpos (keywordEach [] X.env)).all (λx=>x.1.isSome)
  && decide (([e,f]:List Expr)[1]+([]:List Keyword)[1]+(if ([]:List Keyword).isEmpty then 0 else 1)<30))=true
 line:(apos.endLine==cpos.line)=true
 trees:backTo cpos (starEach [e,f] X.env)=[(false,eval e X.env),(false,eval f X.env)]
def IsD(H:Hp)(a:Addr):Prop:=(∃ kvs,Rd H a (.dK kvs))\/∃ kvs,Rd H a (.dT kvs)
def qaF{s:ab}(I:"I" H s)(d:IsD H a) :
  s.TypeIs (.ref a) "dict"/\(∀ b,Value.ref a=.ref b->∃ ob,s.heap.get? b=!ob/\ob.dict=none)/\(a==sysModules)=false:=by
 rcases d with⟨kvs,e⟩|⟨kvs,e⟩
 .obtain⟨_,hd,vs,_,dd⟩:=Qj I.hok e;refine#[dd.typeIs,λb q=>?_,hd]
  cases q;obtain⟨ob,_,_,h1,h2,_⟩:=dd;exact#[ob,h1,h2.2.1]
 obtain⟨_,hd,xs,_,dd⟩:=Ql I.hok e;refine#[dd.typeIs,λb q=>?_,hd]
 cases q;obtain⟨ob,_,_,h1,h2,_⟩:=dd;exact#[ob,h1,h2.2.1]
section
variable{X:Cx}{pins:List (Addr×Obj)}{σ:St}{H:Hp}{s:ab}{a:Addr}{y d:V}{u r:aa}{o:Option V}{A:ag}{E:aa->ab->Prop}
def qaG(Y:A.units+1<cLine)(I:"I" H s)(g:DGet H a y o)(O:RelV y u)(U:RelV d r)(h:∀ w' s',"I" H s'->RelV (o.getD d) w'->Q w' s') :
  wpAny (model X.prog X.w) A (call (.builtin "dict.get") [.ref a,u,r]) Q E s:=by
 rcases g with⟨kvs,k,e,ey,l⟩|⟨kvs,k,b,e,ey,eb,l⟩
 .subst ey;obtain⟨z,hd,vs,B,dd⟩:=Qj I.hok e;refine bm fX dd.typeIs cX (dQ _ _ _) (meets_dict_get_default (je X.prog X.w) a (ky O) hd r) #[_,dd.mapOf,h _ _ (I.tok _) ?_];rw[l];exact(B.val k).getD U
 subst ey;cases (show u=Value.ref b from O)
 obtain⟨z,hd,xs,B,dd⟩:=Ql I.hok e;refine bm fX dd.typeIs cX (dQ _ _ _) (meetsH_dict_get_default (tupleKind (je X.prog X.w)) a b hd r) #[dP Y,k,xs,Qk I.hok eb,dd,h _ _ (I.tok _) ?_];rw[l];exact(B.val k).getD U
end
def qaH(td ty tx:TE):TE:=λσ H Q=>td σ H λx H1=>∃ a,x=.ref a/\IsD H1 a/\ty σ H1 λy H2=>tx σ H2 λz H3=>∃ o,DGet H3 a y o/\Q (o.getD z) H3
section
variable{X:Cx}{o e f:Expr}{apos cpos:Pos}{td ty tx:TE}
def qaI(O:X.A.units+1<cLine)(U:PE X o td)(Y:PE X e ty)(Z:PE X f tx)(m:M2 X o "get" apos e f cpos):PE X (.Call (.Attribute o "get" apos) [e,f] [] cpos) (qaH td ty tx):=by
 intro pins s σ H Q I h;refine bW m.base m.few m.line cP fX bn (thn (U pins s σ H _ I h) λu s1 #[x,H1,I1,rx,a,ex,d,q1]=>?_)
 subst ex;obtain rfl:u=Value.ref a:=rx;obtain⟨t1,t2,_⟩:=qaF I1 d;refine#[t1,t2,?_];rw[m.trees];refine cW rfl (dg (hZ (thn (Y pins s1 σ H1 _ I1 q1) λiv s2 #[y,H2,I2,ry,q2] =>
  hZ (thn (Z pins s2 σ H2 _ I2 q2) λfv s3 #[z,H3,I3,rz,ov,g,q3]=>tL ?_))))
 exact qaG O I3 g ry rz λw' s4 I4 B=>#[_,H3,I4,B,q3]
variable{pins:List (Addr×Obj)}{σ:St}{H:Hp}{s:ab}{a:Addr}{kvs:List (Key×V)}{A:ag}{E:aa->ab->Prop}
variable{y:V}{u:aa}
end
end L2
namespace Att
open PySem PySem.W PySem.Calls PyProof.Rows
def qaJ:∀ ns vs,WellAll P h vs (ns.map WData.int)->IntsAre vs ns:=by
 intro ns
 induction ns with
 | nil =>
  intro vs w;rw[pY]at w;cases w;exact .nil
 | cons n ns ih =>
  intro vs w;rw[gN]at w;cases w with
  | cons a b =>
   cases a;exact .cons _ _ (ih _ b)
def qaK{l:OpenLaw}{n:Nat}(Y:l.most=!n){h:Heap}
  (z:l.row.toRowW.claim.pre args=true)(O:WellAll P h vals args) :
  ∃ a vs ns,vals=[Value.ref a]/\args=[WData.list (ns.map WData.int)]/\h.get? a=some {cls:=.type "list",data:=.seq vs.toArray}/\IntsAre vs ns/\ns[1]<=n:=by
 have U:WShape.hasAll [] args [.list .int]=true:=(pre_splitW z).1;have hc:l.pre.holds [] {args:=args}=true:=(pre_splitW z).2;obtain⟨d,r,rfl,h1,h2⟩:=hasAllW_cons U;obtain rfl:=hasAllW_nil h2;obtain⟨xs,rfl,h3⟩:=hasW_list h1;obtain⟨ns,rfl⟩:=items_int h3;have B:ns[1]<=n:=by
  unfold OpenLaw.pre at hc;have h4:(WTm.not (.lt (.lit (n:Int)[6]) (.len (.arg 0)))).holds [] {args:=[.list (ns.map .int)]}=true:=by
   have h4:=(holds_andW hc).1;rw[Y]at h4;exact h4
  have h5:=condW_of h4 (w_not (w_lt w_lit (w_len_list (w_arg rfl))));rw[gg]at h5;refine Nat.le_of_not_lt λq=>?_
  have q':(n:Int)<((ns[1]:Nat):Int):=""
  first
   | (rw[tG q']at h5;exact absurd h5 "d")
   | (simp at h5;lia)
 cases O with
 | cons w1 w2 =>
  cases w2;cases w1 with
  | list ho hall=>exact#[_,_,ns,rfl,rfl,ho,qaJ ns _ hall,B]
def qaL(l:OpenLaw)(args):l.row.toRowW.claim.post args (.bool true) args=true :=
 postW_of (r:=l.row.toRowW) (X:=(true==true))
  (show WShape.has [] (.bool true) .bool=true by first|rfl|decide|simp[WShape.has,WShape.arms,WShape.armsAll])
  (show(WTm.eq .res (.lit (.bool true))).value [] {args:=args,res:=!(.bool true),after:=args}=↑(.bool (true==true))from w_eq_bool (w_res rfl) w_lit) rfl
def attach_call{l:OpenLaw}{n:Nat}{XP:(Str->Option aa)->Heap->Prop}{YP:World->Heap->Prop}{d:DefRec}
  (hn:l.most=!n)(hdf:d.params.defaults=[])
  (call:∀ w s₀ z mg mb fa o pm cd B a vs ns,
   Ground q loose [] XP w s₀ mg mb z.heap->YP w z.heap ->
   z.heap.get? fa=!o->o.data=.func (docDef d.name d.params d.body d.scope pm cd B)->z.heap.CodeRec cd d.name->mg d.name=↑(.ref fa) ->
   z.heap.get? a=some {cls:=.type "list",data:=.seq vs.toArray}->IntsAre vs ns->ns[1]<=n->z.gens=#[] ->
   codeAny (model l.prog w) callerA (.call (.ref fa) #[[.ref a],[]]) (λr s'=>r=.ok (.ret (.bool true))/\OldK z.heap s'.heap/\s'.os=z.os/\AllBare s'.gens) z) :
  WalkO q loose XP YP l.row.toRowW d [] (λf vs=>PySem.call f vs):=by
 intro w s₀ z mg mb G Y fa o pm cd B dV kV ho hd hcd hD hmg hg args h6 as U h7 hrd hwl hlo;obtain rfl:dV=.none:=Dflts.none hD hdf;obtain rfl:kV=.none:=Dflts.noKw hD;obtain⟨a,vs,ns,rfl,rfl,Z,O,h5⟩:=qaK hn U hwl;refine enter_call (codeAny_mono (call w s₀ z mg mb fa o pm cd B a vs ns G Y ho (fd_plain hd) hcd hmg Z O h5 hg) λr s' hq=>?_)
 obtain⟨rfl,h2,h3,h4⟩:=hq;exact#[.inl #[.bool true,.bool true,[],rfl,λ_=>rfl,.bool true,qaL l _,λ_=>#[List.Pairwise.nil,λ_ hm=>(nomatch hm)]],h2,h3,h4]
section
variable{prog:af}{w:World}{A:ag}{E:aa->ab->Prop}{s:ab}{K:Frag}
end
end Att
namespace L2
open PySem PySem.Spec PyProof.Rows
theorem Y6:∀{vs} {ns},IntsAre vs ns->Vals (ns.map V.int) vs
 | _,_,.nil=>.nil
 | _,_,.cons n t h=>.cons #[t,rfl] (Y6 h)
def Only(H:Hp):Prop:=∀ b,H b=none\/∃ o xs,H b=!(.frz o (.lst xs))
def qaM{K:Frag}{mg mb:Str->Option aa}{k:Nat}{sp:Sp}{B:ab}{vs:List aa}{ns:List Int}
  (KX:K.In B.heap)(hns:B.heap.Ns mainGlobals mg)(U:B.heap.Ns builtinsNs mb)(hbb:∀ x:Str,x≠"__name__"->mb x=bootBuiltins x)(h4:B.heap.NoLimit)(hg:B.gens=#[])
  (ha:B.heap.get? a=some {cls:=.type "list",data:=.seq vs.toArray})(hi:IntsAre vs ns)(hl:ns[1]<=sizeLine)(hr:Room k callerA)
  (F:∀ base,K.In base->base.Ns mainGlobals mg->FnOk P w K mg base CX k fa fd [x] sp)(h3:∀ s u,BindsTo s fd #[[u],[]] [(x,u)])
  (hsp:∀ H,Only H->SqL K H a (ns.map V.int)->sp [.ref a] H (λv _=>v=.bl true) λ_ _ _=>False)
  (hCX:∀ H e s',CX [] H B (λ_ _ _=>False) e s'->False) :
  codeAny (model P w) callerA (.call (.ref fa) #[[.ref a],[]]) (λr s'=>r=.ok (.ret (.bool true))/\OldK B.heap s'.heap/\s'.os=B.os/\AllBare s'.gens) B:=by
 have rv:=Y6 hi;have h5:=hi[1];have Z:∀ H:Hp,Only H->SqL K H a (ns.map V.int)->HOk P w H B.heap->(∀ b,H b≠none->b=a)->(H a≠none->K.lookup a=none) ->
   codeAny (model P w) callerA (.call (.ref fa) #[[.ref a],[]]) (λr s'=>r=.ok (.ret (.bool true))/\OldK B.heap s'.heap/\s'.os=B.os/\AllBare s'.gens) B:=by
  intro H hO hS hok hA hK;have O:∀{b:Addr} {o:Obj},B.heap.get? b=!o->H b=none->(wu B.heap H).get? b=!o:=λe n=>GJ e n
  have noA:∀{b:Addr} {o:Obj} {es:Array DictEntry} {ep:Nat},B.heap.get? b=!o->o.data=.dict es ep->H b=none:=λ{b o es ep} e d=>by
   cases q:H b with
   | none=>rfl
   | some u =>
    have e':b=a:=hA b (by rw[q];simp)
    subst e';rw[ha]at e;cases e;have d':Data.seq vs.toArray _=Data.dict es ep:=d;cases d'
  have Y:∀{b:Addr} {m:Str->Option aa},B.heap.Ns b m->(wu B.heap H).Ns b m:=λ{b m} #[o,es,ep,e,d,r]=>#[o,es,ep,O e (noA e d),d,r]
  have hKb:K.In (wu B.heap H):=λb o e=>O (KX b o e) (by
   cases q:H b with
   | none=>rfl
   | some u =>
    have e':b=a:=hA b (by rw[q];simp)
    subst e';rw[hK (by rw[q];simp)]at e;cases e)
  have hM:Mod K mg (wu B.heap H):=#[hKb,Y hns,#[mb,Y U,hbb],let #[mc,h1,h2]:=h4;#[mc,Y h1,h2]]
  have e0:Env0 P w K mg (wu B.heap H) callerA [] B H:=#[rfl,hM,λb o e=>GK e,Nat.le_of_eq (GI _ _),trivial,λb U=>absurd (show b∈([]:List Addr)from U) "s",hok,.of_eq hg]
  refine codeAny_mono ((F _ hKb (Y hns)).run callerA [] B H #[[.ref a],[]] [.ref a] [.ref a] _ _ hr e0 (h3 B (.ref a)) (.cons rfl .nil) (hsp H hO hS)) λr s' h=>?_
  cases r with
  | error e=>exact(hCX H e s' h).elim
  | ok fl =>
   cases fl with
   | next=>exact False.elim h
   | brk=>exact False.elim h
   | cont=>exact False.elim h
   | ret u =>
    obtain⟨v,H',os,h6,un,h7,r',q⟩:=h;have q':v=.bl true:=q;subst q';obtain rfl:u=Value.bool true:=r';refine#[rfl,OldK.of_keep λb o e=>?_,os,h6]
    cases q:H b with
    | none=>exact un.keep b o e q (by intro z;exact absurd (show b∈([]:List Addr)from z) "s") "s"
    | some u =>
     rcases hO b with z|⟨ob,xs,z⟩
     .rw[q]at z;cases z
     have z2:=un.frzs b ob _ z;obtain⟨e1,_⟩:=hok b _ z;obtain⟨e2,_⟩:=h7 b _ z2;rw[e]at e1;cases e1;exact e2
 cases hk:K.lookup a with
 | some o =>
  have e:=KX a o hk;rw[ha]at e;cases e;refine Z (λ_=>none) (λ_=>.inl rfl) (.inr #[_,vs.toArray,_,hk,rfl,rfl,rfl,by rw[gP,h5];exact hl,by simpa using rv]) (λb u z=>by have z':(none:Option HO)=!u:=z;cases z') (λb z=>absurd rfl z) λz=>absurd rfl z
 | none =>
  refine Z (λb=>if b=a then !(.frz {cls:=.type "list",data:=.seq vs.toArray} (.lst (ns.map V.int)))else none) (λb=>?_) (.inl (.inr #[{cls:=.type "list",data:=.seq vs.toArray},if_pos rfl])) (λb u z=>?_) (λb z=>?_) λ_=>hk
  .by_cases U:b=a
   .exact .inr #[_,_,if_pos U]
   exact .inl (if_neg U)
  .by_cases U:b=a
   .have z':=(if_pos U).symm.trans z;cases z';subst U;exact#[ha,by rw[gg];exact hl,vs,_,rv,ha]
   have z':=(if_neg U).symm.trans z;cases z'
  by_cases U:b=a
  .exact U
  exact absurd (if_neg U) z
def qaN{l:PySem.W.OpenLaw}{n k:Nat}{XP:(Str->Option aa)->Heap->Prop}{YP:World->Heap->Prop}{d:DefRec}{K:Params->Frag}{CX:World->CXT}{sp:World->Sp}
  (hn:l.most=!n)(Z:n<=sizeLine)(hdf:d.params.defaults=[])(hr:Room k callerA)
  (hY:∀ w h,YP w h->(K w.params).In h)
  (F:∀ w mg fa h,(K w.params).In h->h.Ns mainGlobals mg->mg d.name=↑(.ref fa) ->
   ∃ fd,(∀ s u,BindsTo s fd #[[u],[]] [(x,u)]) /\
    ∀ base,(K w.params).In base->base.Ns mainGlobals mg->FnOk l.prog w (K w.params) mg base (CX w) k fa fd [x] (sp w))
  (hsp:∀ w H a (ns:List Int),ns[1]<=n->Only H->SqL (K w.params) H a (ns.map V.int)->sp w [.ref a] H (λv _=>v=.bl true) λ_ _ _=>False)
  (hCX:∀ w H s e s',CX w [] H s (λ_ _ _=>False) e s'->False) :
  PySem.W.WalkO q loose XP YP l.row.toRowW d [] (λf vs=>PySem.call f vs):=by
 refine Att.attach_call hn hdf λw s₀ O mg mb fa o pm cd doc a vs ns G Y ho hd hcd hmg U B z hg=>?_
 have KX:=hY w _ Y;obtain⟨fd,hb,hF⟩:=F w mg fa _ KX G.T.g hmg;exact qaM KX G.T.g G.T.b G.T.builtins G.T.nolimit hg U B (f8 z Z) hr hF hb (λH hO hS=>hsp w H a ns z hO hS) λH e s'=>hCX w H O e s'
def defArgs(s:Stmt):Arguments:=match s with
 | .FunctionDef _ a _ _ _ _ _ _ _ _=>a
 | _=>{posonlyargs:=[],args:=[],vararg:=none,kwonlyargs:=[],kw_defaults:=[],kwarg:=none,defaults:=[]}
def defBody(s:Stmt):List Stmt:=match s with
 | .FunctionDef _ _ b _ _ _ _ _ _ _=>b
 | _=>[]
def defScope(s:Stmt):Scope:=match s with
 | .FunctionDef _ _ _ _ _ _ sc _ _ _=>sc
 | _=>{kind:=.function,names:=[],isGenerator:=false,isCoroutine:=false}
abbrev CX0:CXT:=λ_ _ _ _ _ _=>False
abbrev E0:XK:=λ_ _ _=>False
def Y7:WT CX0 X E0:=λ_ _ _ _ _ _ _ h=>h.elim
structure Fun(K:Frag)(x qual:Str)(st:Stmt)(f:Addr)(fd:FuncData):Prop where
 ex:∃(oc:Value) (od:Option Addr) (kV doc pm:Value) (an:Option Addr) (cdv ct:Value) (osl:Array (Option Value)),
  fd=PySem.W.fnOf x qual (defArgs st) (defBody st) (defScope st) .none kV doc pm an cdv ct/\K.lookup f=↑#[oc,od,.func fd,osl]/\codeIn K cdv qual=true
 kp:keepIn K (.ref f)=true
section
variable{P:af}{w:World}{K:Frag}{mg:Str->Option aa}{base:Heap}
def Fun.ok{st:Stmt}{N ps:List Str}{k:Nat}{sp:Sp}(F:Fun K x qual st f fd)(S:FnScope N ps (defScope st))(len:∀ vs H Q E,sp vs H Q E->vs[1]=ps[1])
  (B:∀ z A outer s H vs Q E,Room k (A.deeper (envOfC qual (defScope st) s[0] f z))->sp vs H Q E ->
   ∃ t,PSs (cxOf CX0 P w K mg base N qual (defScope st) f z A outer s H E).nox (defBody st) t/\t {nx:=λ_ H'=>Q .non H',rt:=Q} (zk N vs) H):FnOk P w K mg base CX0 (k+1) f fd ps sp:=by
 obtain⟨oc,od,kV,Y,pm,an,z,ct,Z,rfl,lk,U⟩:=F.ex;refine TN lk U S len λA outer s H vs Q E hr O=>?_
 obtain⟨t,h,q⟩:=B z A outer s H vs Q E hr O;exact#[t,h.nox,q]
def Fun.binds{st:Stmt}{ps:List Str}(F:Fun K x qual st f fd)
  (h:∀ kV z pm an B ct us,us[1]=ps[1]->bindArgs (PySem.W.fnOf x qual (defArgs st) (defBody st) (defScope st) .none kV z pm an B ct) #[us,[]]=pure (ps.zip us)):Binds K fd ps []:=by
 obtain⟨oc,od,kV,z,pm,an,B,ct,O,rfl,lk,U⟩:=F.ex;exact .all (h kV z pm an B ct)
def Ze{st:Stmt}{f:Addr}{oc:aa}{od U:Option Addr}{O:Array (Option aa)}{Y B Z z ct:aa}(l:K.lookup f=↑#[oc,od,.func (PySem.W.fnOf x qual (defArgs st) (defBody st) (defScope st) .none Y B Z U z ct),O])
  (c:codeIn K z qual=true)(k:keepIn K (.ref f)=true):Fun K x qual st f (PySem.W.fnOf x qual (defArgs st) (defBody st) (defScope st) .none Y B Z U z ct):=#[#[oc,od,Y,B,Z,U,z,ct,O,rfl,l,c],k]
variable{X:Cx}
end
section
variable{κ:Type} [DecidableEq κ]
end
end L2
namespace L3
open PySem
inductive D where
 | non|bl (b:Bool)|int (i:Int)|str (x:Str)|tup (xs:List D)|lst (xs:List D)
 | dK (kvs:List (Sum Int Str×D))|dT (kvs:List (List (Sum Int Str)×D))|xc (cls:Str) (fs:List (Str×D))
 deriving Inhabited
inductive En where
 | fz (d:D)|ow (d:D)|br (d:D)|lk (d:D)|od (d:D)
 deriving Inhabited
@[reducible] def En.d:En->D
 | .fz d=>d|.ow d=>d|.br d=>d|.lk d=>d|.od _=>.xc "_" []
structure Xc where
 cls:Str
 fs:List (Str×D)
inductive R(α:Type)where
 | ok (a:α)|exc (x:Xc)|stuck
@[reducible] noncomputable def R.bind {α β:Type} (r:R α) (f:α->R β):R β:=match r with
 | .ok a=>f a|.exc x=>.exc x|.stuck=>.stuck
@[simp] theorem R.bind_ok {α β:Type} (a:α) (f:α->R β):(R.ok a).bind f=f a:=rfl
@[simp] theorem R.bind_exc {α β:Type} (x:Xc) (f:α->R β):(R.exc x:R α).bind f=.exc x:=rfl
@[simp] theorem R.bind_stuck {α β:Type} (f:α->R β):(R.stuck:R α).bind f=.stuck:=rfl
abbrev Rho:=List (Option En)
abbrev EF:=Rho->R En
abbrev TF:=Rho->R Bool
inductive Out where
 | nx (ρ:Rho)|rt (w:En)|bk (ρ:Rho)|ct (ρ:Rho)|exc (x:Xc)|stuck
abbrev SF:=Rho->Out
abbrev Den:=List En->R En
@[reducible] def En.st:En->R D
 | .fz d=>.ok d|.ow d=>.ok d|_=>.stuck
@[reducible] def En.arg:En->R En
 | .fz d=>.ok d[8]|.ow d=>.ok d[8]|.br d=>.ok (.br d)|.lk _=>.stuck|.od (.dK kds)=>.ok (.lst (kds.map Prod.snd))[8]|.od _=>.stuck
@[reducible] def En.nm:En->R En
 | .fz d=>.ok d[8]|.ow d=>.ok d[9]|_=>.stuck
def stAll:List En->R (List D)
 | []=>.ok []
 | x::r=>x.st.bind λd=>(stAll r).bind λds=>.ok (d::ds)
def jU:List En->R (List En)
 | []=>.ok []
 | x::r=>x.arg.bind λd=>(jU r).bind λds=>.ok (d::ds)
def q9(i:Nat):EF:=λρ=>match ρ[i]? with
 | some (!d[8])=>.ok d[8]
 | some (!d[9])=>.ok (.br d)
 | some (!(.br d))=>.ok (.br d)
 | some (!(.lk d))=>.ok d[8]
 | _=>.stuck
def eC(d:D):EF:=λ_=>.ok d[8]
def eOp(g:D->D->R En)(a b:EF):EF:=λρ=>(a ρ).bind λx=>(b ρ).bind λy=>g x.d y.d
def eUn(g:D->R En)(a:EF):EF:=λρ=>(a ρ).bind λx=>g x.d
def evs:List EF->Rho->R (List En)
 | [],_=>.ok []
 | a::r,ρ=>(a ρ).bind λx=>(evs r ρ).bind λxs=>.ok (x::xs)
def sz:Nat:=16777216
def jg(a:List EF):EF:=λρ=>(evs a ρ).bind λxs=>(stAll xs).bind λds=>if ds[1]<=sz then .ok (.lst ds)[9]else .stuck
def ju(a:List EF):EF:=λρ=>(evs a ρ).bind λxs=>(stAll xs).bind λds=>if ds[1]<=sz then .ok (.tup ds)[8]else .stuck
def qg(z:Den)(a:List EF):EF:=λρ=>(evs a ρ).bind λxs=>(jU xs).bind λys=>z ys
def eB(g:List D->R En)(a:List EF):EF:=λρ=>(evs a ρ).bind λxs=>g (xs.map En.d)
@[reducible] def okI (i:Int):R En:=.ok i[7]
@[reducible] def okB (b:Bool):R En:=.ok (.bl b)[8]
def qZ:D->D->R En
 | .int i,.int j=>okI (i-j)
 | _,_=>.stuck
def fits(b:Nat):Int->Bool
 | .ofNat n=>ble n b
 | .negSucc n=>ble n b
def fits_iff:fits b i=true↔-(b+1)<=i/\i<=b:=by
 cases i with
 | ofNat n =>
  show ble n b=true↔_;rw[ble_eq];lia
 | negSucc n =>
  show ble n b=true↔_;rw[ble_eq];lia
abbrev b64:Nat:=18446744073709551614
abbrev b62:Nat:=4611686018427387903
def b64e:(b64:Int)=18446744073709551614:=rfl
def b62e:(b62:Int)=4611686018427387903:=rfl
def jN:D->D->R En
 | .int i,.int j=>if (fits b64 i||fits b64 j)=true then okI (i*j)else .stuck
 | _,_=>.stuck
def vy:D->D->R En
 | .int i,.int j=>if 0<j then okI (i%j)else .stuck
 | _,_=>.stuck
def vN:D->D->R En
 | .int i,.int j=>if 0<j/\j<1073741824 then okI (i/j)else .stuck
 | _,_=>.stuck
def dLt:D->D->R En
 | .int i,.int j=>okB (decide (i<j))
 | _,_=>.stuck
def dLe:D->D->R En
 | .int i,.int j=>okB (decide (i<=j))
 | _,_=>.stuck
def dGt:D->D->R En
 | .int i,.int j=>okB (decide (j<i))
 | _,_=>.stuck
def b2i(b:Bool):Int:=if b then 1 else 0
mutual
def deq:D->D->Bool
 | .non,.non=>true
 | .bl a,.bl b=>a==b
 | .bl a,.int b=>b2i a==b
 | .int a,.bl b=>a==b2i b
 | .int a,.int b=>a==b
 | .str a,.str b=>a==b
 | .tup a,.tup b=>deqs a b
 | .lst a,.lst b=>deqs a b
 | _,_=>false
def deqs:List D->List D->Bool
 | [],[]=>true
 | x::xs,y::ys=>deq x y&&deqs xs ys
 | _,_=>false
end
def qw:Nat->D->Bool
 | _,.non=>true|_,.bl _=>true|_,.int _=>true|_,.str x=>PyData.strOk x
 | n+1,.tup a=>a.all (qw n)
 | n+1,.lst a=>a.all (qw n)
 | _,_=>false
def eqok(d:D):Bool:=qw 8 d
def dEq(a b:D):R En:=if eqok a&&eqok b then okB (deq a b)else .stuck
def dNe(a b:D):R En:=if eqok a&&eqok b then okB (not (deq a b))else .stuck
def din(x:D)(ys:List D):Bool:=ys.any λy=>deq y x
def ixn(n:Nat)(i:Int):Option Nat:=if 0<=i then(if i<n then !i.toNat else none)else if -(n:Int)<=i then !(i+n).toNat else none
def ati{α:Type}(xs:List α)(i:Int):Option α:=(ixn xs[1] i).bind λj=>xs[j]?
def zm:D->Option (Sum Int Str)
 | .int i=>!(.inl i)
 | .str x=>!(.inr x)
 | _=>none
def jF:List D->Option (List (Sum Int Str))
 | []=>↑[]
 | x::r=>(zm x).bind λk=>(jF r).map λks=>k::ks
def look{κ:Type} [DecidableEq κ](k:κ):List (κ×D)->Option D
 | []=>none
 | (x,d)::r=>if x=k then !d else look k r
def okD (o:Option D):R En:=match o with
 | some d=>.ok d[8]
 | none=>.stuck
def xQ:List D->R En
 | [.lst xs]=>.ok (.lst xs)[9]
 | [.tup xs]=>.ok (.lst xs)[9]
 | _=>.stuck
def wU:List D->R En
 | [.lst xs]=>.ok (.tup xs)[8]
 | [.tup xs]=>.ok (.tup xs)[8]
 | _=>.stuck
def xR:List D->R En
 | [.int i,.int j]=>okI (if j<i then j else i)
 | _=>.stuck
inductive Ty|int|bool|str|list|tuple|dict
def tyIs:D->Ty->Bool
 | .int _,.int=>true|.bl _,.int=>true|.bl _,.bool=>true|.str _,.str=>true
 | .lst _,.list=>true|.tup _,.tuple=>true|.dK _,.dict=>true|.dT _,.dict=>true
 | _,_=>false
def dIs(t:Ty):D->R En
 | .xc _ _=>.stuck
 | d=>okB (tyIs d t)
def kC:D->R Bool
 | .non=>.ok false|.bl b=>.ok b|.int i=>.ok (i != 0)|.str x=>if x[1]<=sz then .ok ((x[1]:Int) != 0)else .stuck
 | .lst xs=>.ok (not xs.isEmpty)|.tup xs=>.ok (not xs.isEmpty)|_=>.stuck
def tE(e:EF):TF:=λρ=>(e ρ).bind λx=>kC x.d
def jO(t:TF):TF:=λρ=>(t ρ).bind λb=>.ok (not b)
def zW(t u:TF):TF:=λρ=>(t ρ).bind λb=>if b=true then u ρ else .ok false
def tOr(t u:TF):TF:=λρ=>(t ρ).bind λb=>if b=true then .ok true else u ρ
def isB:D->R Bool
 | .bl b=>.ok b
 | _=>.stuck
def Y8(e:EF):EF:=λρ=>(e ρ).bind λx=>(isB x.d).bind λb=>okB (not b)
def yw(a b:EF):EF:=λρ=>(a ρ).bind λx=>(isB x.d).bind λc=>if c=true then b ρ else okB false
def eIf(t:TF)(a b:EF):EF:=λρ=>(t ρ).bind λc=>if c=true then a ρ else b ρ
def qu:SF:=λρ=>.nx ρ
def qe(a b:SF):SF:=λρ=>match a ρ with
 | .nx ρ'=>b ρ'
 | o=>o
def sOf (r:R α) (k:α->Out):Out:=match r with
 | .ok a=>k a|.exc _=>.stuck|.stuck=>.stuck
def qj(i:Nat)(e:EF):SF:=λρ=>sOf ((e ρ).bind En.nm) λw=>.nx (ρ.set i !w)
def qt(e:EF):SF:=λρ=>sOf ((e ρ).bind En.nm) .rt
def jw(i:Nat):SF:=λρ=>match ρ[i]? with
 | some (!d[8])=>.rt d[8]
 | some (!d[9])=>.rt d[9]
 | _=>.stuck
def sIf(t:TF)(a b:SF):SF:=λρ=>sOf (t ρ) λc=>if c=true then a ρ else b ρ
def yx:SF:=λρ=>.bk ρ
def xS(e:EF):SF:=λρ=>sOf (e ρ) λ_=>.nx ρ
def jV(i:Nat)(g:D->D->R En)(e:EF):SF:=λρ=>match ρ[i]? with
 | some (!x[8])=>sOf ((e ρ).bind λy=>(g x y.d).bind En.nm) λw=>.nx (ρ.set i !w)
 | _=>.stuck
def qN(i:Nat)(e:EF):SF:=λρ=>match ρ[i]? with
 | some (!(.lst xs)[9])=>sOf ((e ρ).bind En.st) λd=>if xs[1]<sz then .nx (ρ.set i (!(.lst (xs++[d]))[9]))else .stuck
 | _=>.stuck
def frz(i:Nat)(ρ:Rho):Rho:=match ρ[i]? with
 | some (!d[9])=>ρ.set i (!d[8])
 | _=>ρ
def jB(i:Nat)(s:SF):SF:=λρ=>s (frz i ρ)
abbrev GF:=D->Rho->R Rho
def gV(i:Nat):GF:=λd ρ=>.ok (ρ.set i (!d[8]))
def gVs:List Nat->List D->Rho->R Rho
 | [],[],ρ=>.ok ρ
 | i::is,d::ds,ρ=>gVs is ds (ρ.set i (!d[8]))
 | _,_,_=>.stuck
def gT(is:List Nat):GF:=λd ρ=>match d with
 | .tup ds=>gVs is ds ρ
 | _=>.stuck
def qD (g:GF) (b:SF):List D->Rho->Out
 | [],ρ=>.nx ρ
 | x::xs,ρ=>match g x ρ with
  | .ok ρ1=>(match b ρ1 with
   | .nx ρ2=>qD g b xs ρ2
   | .ct ρ2=>qD g b xs ρ2
   | .bk ρ2=>.nx ρ2
   | o=>o)
  | .exc _=>.stuck
  | .stuck=>.stuck
def items:D->R (List D)
 | .lst xs=>.ok xs
 | .tup xs=>.ok xs
 | .dK kvs=>.ok (kvs.map λp=>match p.1 with|.inl i=>.int i|.inr x=>.str x)
 | _=>.stuck
abbrev IF:=Rho->R (List D)
def xT:D->R (List D)
 | .lst xs=>.ok xs
 | .tup xs=>.ok xs
 | _=>.stuck
def iV(i:Nat):IF:=λρ=>match ρ[i]? with
 | some (!d[8])=>xT d
 | some (!(.br d))=>xT d
 | _=>.stuck
def iVc(i:Nat):IF:=λρ=>match ρ[i]? with
 | some (!(.od _))=>.stuck
 | some (!(.lk _))=>.stuck
 | some !w=>xT w.d
 | _=>.stuck
def jc(e:EF):IF:=λρ=>(e ρ).bind λw=>w.st.bind xT
def zn(lo:Int):Nat->List D
 | 0=>[]
 | n+1=>.int lo::zn (lo+1) n
def iR1(a:EF):IF:=λρ=>(a ρ).bind λx=>match x.d with
 | .int j=>if fits b62 j=true then .ok (zn 0 j.toNat)else .stuck
 | _=>.stuck
def iR2(a b:EF):IF:=λρ=>(a ρ).bind λx=>(b ρ).bind λy=>match x.d,y.d with
 | .int i,.int j=>if (fits b62 i&&fits b62 j)=true then .ok (zn i (j-i).toNat)else .stuck
 | _,_=>.stuck
def qO(it:IF)(g:GF)(b:SF):SF:=λρ=>sOf (it ρ) λxs=>qD g b xs ρ
def zg (t:TF) (b:SF):Nat->Rho->Out
 | 0,_=>.stuck
 | n+1,ρ=>sOf (t ρ) λc=>if c=true then(match b ρ with
   | .nx ρ2=>zg t b n ρ2
   | .ct ρ2=>zg t b n ρ2
   | .bk ρ2=>.nx ρ2
   | o=>o)else .nx ρ
def wV(n:Nat)(t:TF)(b:SF):SF:=zg t b n
def fin:Out->R En
 | .nx _=>.ok (.fz .non)
 | .rt w=>.ok w
 | .exc x=>.exc x
 | _=>.stuck
def den (n:Nat) (b:SF):Den:=λas=>fin (b (as.map some++List.replicate (n-as[1]) none))
def Zf{a b:SF}(h:a ρ=.nx ρ'):qe a b ρ=b ρ':=by unfold qe;rw[h]
open PySem PySem.Spec PyProof.Rows L2
abbrev St:=L2.St
structure Kx where
 P:Program
 w:World
 K:Frag
abbrev kx(X:Cx):Kx:=#[X.prog,X.w,X.K]
def SqK(κ:Kx)(F:Hp)(a:Addr)(kvs:List (Key×V)):Prop :=
 Rd F a (.dK kvs)\/(a==sysModules)=false/\∃(o:Obj) (es:Array DictEntry) (ep:Nat) (vs:List (Key×aa)),κ.K.lookup a=!o/\o.ExactDict/\o.data=.dict es ep /\
  KeysOf (je κ.P κ.w) es/\Pairs (je κ.P κ.w) es[2] vs/\(vs.map (·.1)).Nodup/\KV kvs vs
def FnV(κ:Kx)(v:V)(c:Str)(fs:List (Str×D)):Prop:=match fs with
 | [(_,.non)]=>∀ f:Addr,nsIn κ.K mainGlobals c=!(!(.ref f))->v=.ref f
 | [(_,.int a)]=>v=.ref a.toNat
 | _=>True
mutual
def Rep(κ:Kx)(F:Hp):V->D->Prop
 | v,.non=>v=.non
 | v,.bl b=>v=.bl b
 | v,.int i=>v=.int i
 | v,.str x=>v=.str x
 | v,.tup ds=>∃ a vs,v=.ref a/\SqT κ.K F a vs/\Reps κ F vs ds
 | v,.lst ds=>∃ a vs,v=.ref a/\SqL κ.K F a vs/\Reps κ F vs ds
 | v,.dK kds=>∃ a kvs,v=.ref a/\SqK κ F a kvs/\RepK κ F kvs kds
 | v,.dT kds=>∃ a kvs,v=.ref a/\Rd F a (.dT kvs)/\RepT κ F kvs kds
 | v,.xc c fs=>FnV κ v c fs
def Reps(κ:Kx)(F:Hp):List V->List D->Prop
 | vs,[]=>vs=[]
 | vs,d::ds=>∃ v r,vs=v::r/\Rep κ F v d/\Reps κ F r ds
def RepK(κ:Kx)(F:Hp):List (Key×V)->List (Sum Int Str×D)->Prop
 | kvs,[]=>kvs=[]
 | kvs,(k,d)::r=>∃ v kr,kvs=(k,v)::kr/\Rep κ F v d/\RepK κ F kr r
def RepT(κ:Kx)(F:Hp):List (List Key×V)->List (List (Sum Int Str)×D)->Prop
 | kvs,[]=>kvs=[]
 | kvs,(k,d)::r=>∃ v kr,kvs=(k,v)::kr/\Rep κ F v d/\RepT κ F kr r
end
abbrev Le(F H:Hp):Prop:=∀ a o,F a=!o->H a=!o
def Rd.le(l:Le F F')(h:Rd F a u):Rd F' a u:=by
 rcases h with h|⟨o,h⟩
 .exact .inl (l _ _ h)
 exact .inr #[o,l _ _ h]
def SqL.le{K:Frag}(l:Le F F')(h:SqL K F a vs):SqL K F' a vs:=by
 rcases h with h|h
 .exact .inl (Rd.le l h)
 exact .inr h
def SqT.le{K:Frag}(l:Le F F')(h:SqT K F a vs):SqT K F' a vs:=by
 rcases h with h|h
 .exact .inl (Rd.le l h)
 exact .inr h
def SqK.le(l:Le F F')(h:SqK κ F a vs):SqK κ F' a vs:=by
 rcases h with h|h
 .exact .inl (Rd.le l h)
 exact .inr h
mutual
theorem Rep.le(l:Le F F'):∀(d:D) {v:V},Rep κ F v d->Rep κ F' v d
 | .non,_,h=>h
 | .bl _,_,h=>h
 | .int _,_,h=>h
 | .str _,_,h=>h
 | .tup ds,_,h=>by
  obtain⟨a,vs,e,q,r⟩:=h;exact#[a,vs,e,SqT.le l q,Reps.le l ds r]
 | .lst ds,_,h=>by
  obtain⟨a,vs,e,q,r⟩:=h;exact#[a,vs,e,SqL.le l q,Reps.le l ds r]
 | .dK ds,_,h=>by
  obtain⟨a,vs,e,q,r⟩:=h;exact#[a,vs,e,SqK.le l q,RepK.le l ds r]
 | .dT ds,_,h=>by
  obtain⟨a,vs,e,q,r⟩:=h;exact#[a,vs,e,Rd.le l q,RepT.le l ds r]
 | .xc _ _,_,h=>h
theorem Reps.le(l:Le F F'):∀(ds:List D) {vs:List V},Reps κ F vs ds->Reps κ F' vs ds
 | [],_,h=>h
 | d::ds,_,h=>by
  obtain⟨v,r,e,h1,h2⟩:=h;exact#[v,r,e,Rep.le l d h1,Reps.le l ds h2]
theorem RepK.le(l:Le F F'):∀(ds:List (Sum Int Str×D)) {vs:List (Key×V)},RepK κ F vs ds->RepK κ F' vs ds
 | [],_,h=>h
 | (k,d)::ds,_,h=>by
  obtain⟨v,r,e,h1,h2⟩:=h;exact#[v,r,e,Rep.le l d h1,RepK.le l ds h2]
theorem RepT.le(l:Le F F'):∀(ds:List (List (Sum Int Str)×D)) {vs:List (List Key×V)},RepT κ F vs ds->RepT κ F' vs ds
 | [],_,h=>h
 | (k,d)::ds,_,h=>by
  obtain⟨v,r,e,h1,h2⟩:=h;exact#[v,r,e,Rep.le l d h1,RepT.le l ds h2]
end
section
variable{κ:Kx}{F:Hp}
theorem Reps.length:∀{ds} {vs},Reps κ F vs ds->vs[1]=ds[1]
 | [],_,h=>by cases (h);rfl
 | d::ds,_,h=>by
  obtain⟨v,r,rfl,h1,h2⟩:=h;simp[Reps.length h2]
theorem Reps.get:∀{ds} {vs} {i:Nat} {d},Reps κ F vs ds->ds[i]?=!d->∃ v,vs[i]?=!v/\Rep κ F v d
 | [],_,_,_,_,e=>by simp at e
 | d::ds,_,0,_,h,e=>by
  obtain⟨v,r,rfl,h1,h2⟩:=h;simp at e;subst e;exact#[v,rfl,h1]
 | d::ds,_,i+1,d',h,e=>by
  obtain⟨v,r,rfl,h1,h2⟩:=h;obtain⟨u,e1,e2⟩:=Reps.get h2 e[""]
  exact#[u,by simpa using e1,e2]
theorem Reps.append:∀{ds es} {vs us},Reps κ F vs ds->Reps κ F us es->Reps κ F (vs++us) (ds++es)
 | [],_,_,_,h,k=>by cases (h);exact k
 | d::ds,_,_,_,h,k=>by
  obtain⟨v,r,rfl,h1,h2⟩:=h;exact#[v,r++_,rfl,h1,Reps.append h2 k]
def Reps.one(h:Rep κ F v d):Reps κ F [v] [d]:=#[v,[],rfl,h,rfl]
end
structure Gr(F H F' H':Hp):Prop where
 f:Le F F'
 h:Le H H'
 s:Le F' H'
 n:∀ a,F' a≠none->F a≠none\/H a=none\/∃ xs,H a=!(.tup xs)
def Le.refl:Le F F:=λ_ _ h=>h
def Le.trans(a:Le F G)(b:Le G H):Le F H:=λx o h=>b x o (a x o h)
def Gr.refl(s:Le F H):Gr F H F H:=#[Le.refl,Le.refl,s,λ_ h=>.inl h]
theorem Le.none{F H:Hp}(l:Le F H)(h:H a=none):F a=none:=by
 cases e:F a with
 | none=>rfl
 | some o=>rw[l a o e]at h;cases h
def Gr.trans(a:Gr F H F1 H1)(b:Gr F1 H1 F2 H2):Gr F H F2 H2 :=
 #[Le.trans a.f b.f,Le.trans a.h b.h,b.s,λx h=>by
  rcases b.n x h with q|q|⟨xs,q⟩
  .exact a.n x q
  .exact .inr (.inl (Le.none a.h q))
  cases e:H x with
  | none=>exact .inr (.inl rfl)
  | some o =>
   have:=a.h x o e;rw[q]at this;cases this;exact .inr (.inr #[xs,rfl])]
def Gr.new{F H:Hp}(s:Le F H)(hp:H p=none):Gr F H F (upd H p o) :=
 #[Le.refl,λa u h=>by rw[qr (jH h hp)];exact h,λa u h=>by rw[qr (jH (s a u h) hp)];exact s a u h,λ_ h=>.inl h]
def Gr.newF{F H:Hp}(s:Le F H)(hp:H p=none):Gr F H (upd F p o) (upd H p o):=by
 refine#[λa u h=>by rw[qr (jH h (Le.none s hp))];exact h,λa u h=>by rw[qr (jH h hp)];exact h,λa u h=>?_,λa h=>?_]
 .by_cases e:a=p
  .subst e;rw[qL]at h ⊢;exact h
  rw[qr e]at h ⊢;exact s a u h
 by_cases e:a=p
 .subst e;exact .inr (.inl hp)
 rw[qr e]at h;exact .inl h
def jG(H F' H':Hp):Hp:=λb=>match H b with
 | none=>H' b
 | some _=>F' b
def vm(s:Le F H)(g:Gr F H F' H'):Gr F H (jG H F' H') H'/\Le F' (jG H F' H'):=by
 refine#[#[λa u h=>?_,g.h,λa u h=>?_,λa h=>?_],λa u h=>?_]
 .unfold jG;rw[s a u h];exact g.f a u h
 .unfold jG at h;cases e:H a with
  | none=>rw[e]at h;exact h
  | some o=>rw[e]at h;exact g.s a u h
 .cases e:H a with
  | none=>exact .inr (.inl rfl)
  | some o =>
   unfold jG at h;rw[e]at h;rcases g.n a h with q|q|q
   .exact .inl q
   .simp_all
   rw[e]at q;exact .inr (.inr q)
 unfold jG;cases e:H a with
 | none=>exact g.s a u h
 | some o=>exact h
def OwnO(κ:Kx)(F:Hp):HO->D->Prop
 | .lst vs,.lst ds=>Reps κ F vs ds
 | .dK kvs,.dK kds=>RepK κ F kvs kds
 | .dT kvs,.dT kds=>RepT κ F kvs kds
 | _,_=>False
def OwnO.le(l:Le F F')(h:OwnO κ F o d):OwnO κ F' o d:=by
 cases o<;>cases d<;>first
  | exact h
  | exact Reps.le l _ h
  | exact RepK.le l _ h
  | exact RepT.le l _ h
def RdV(κ:Kx)(F H:Hp)(v:V)(d:D):Prop:=Rep κ F v d\/∃ a o,v=.ref a/\H a=!o/\OwnO κ F o d
def Inn(κ:Kx)(H0 F H:Hp):List Addr->List D->Prop
 | [],[]=>True
 | b::bs,e::es=>(∃ us xs,e=.lst xs/\H0 b=none/\F b=none/\H b=!(.lst us)/\Reps κ F us xs)/\Inn κ H0 F H bs es
 | _,_=>False
def In2(κ:Kx)(H0 F H:Hp):List Addr->List (List Addr)->List D->Prop
 | [],[],[]=>True
 | b::bs,cs::css,e::es=>(∃ xs,e=.lst xs/\H0 b=none/\F b=none/\H b=!(.lst (cs.map V.ref))/\Inn κ H0 F H cs xs)/\In2 κ H0 F H bs css es
 | _,_,_=>False
def DV2(κ:Kx)(H F H':Hp)(v:V)(ds:List D):Prop:=∃ a bs,v=.ref a/\H a=none/\F a=none/\(a::bs).Nodup/\H' a=!(.lst (bs.map V.ref))/\Inn κ H F H' bs ds
def DV3(κ:Kx)(H F H':Hp)(v:V)(ds:List D):Prop:=∃ a bs z,v=.ref a/\H a=none/\F a=none/\(a::(bs++z.flatten)).Nodup/\H' a=!(.lst (bs.map V.ref))/\In2 κ H F H' bs z ds
def DVp(κ:Kx)(H F H':Hp)(v:V)(ds:List D)(g:D):Prop:=∃ t b us vg,v=.ref t/\H t=none/\H' t=!(.tup [.ref b,vg])/\H b=none/\F b=none/\H' b=!(.lst us)/\Reps κ F us ds/\Rep κ F vg g
def DVi(κ:Kx)(H F H':Hp)(v:V)(a:Addr)(dd g:D):Prop:=∃ o,H a=none/\F a=none/\H' a=!o/\OwnO κ F o dd/\Rep κ F v g
def DV(κ:Kx)(H F H':Hp)(v:V)(d:D):Prop :=
 (∃ ds,d=.lst ds/\DV2 κ H F H' v ds)\/(∃ kds:List (Sum Int Str×D),d=.dK kds/\DV3 κ H F H' v (kds.map Prod.snd))\/(∃ ds g,d=.tup [.lst ds,g]/\DVp κ H F H' v ds g)\/∃(a:Addr) (dd g:D),d=.tup [.int (a:Int),dd,g]/\DVi κ H F H' v a dd g
def Vok(κ:Kx)(H F' H':Hp)(v:V):En->Prop
 | .fz d=>Rep κ F' v d
 | .ow d=>∃ a o,v=.ref a/\H a=none/\F' a=none/\H' a=!o/\OwnO κ F' o d
 | .br d=>∃ a o,v=.ref a/\H' a=!o/\OwnO κ F' o d
 | .lk _=>False
 | .od d=>DV κ H F' H' v d
section
variable{κ:Kx}{H F F' H' F1 H1 F2 H2:Hp}{v:V}{w:En}{d:D}
def Vok.rd(h:Vok κ H F' H' v w):RdV κ F' H' v w.d:=by
 cases w with
 | fz d=>exact .inl h
 | ow d=>obtain⟨a,o,e,_,_,e2,r⟩:=h;exact .inr #[a,o,e,e2,r]
 | br d=>obtain⟨a,o,e,e2,r⟩:=h;exact .inr #[a,o,e,e2,r]
 | lk d=>exact h.elim
 | od d=>exact .inl trivial
def OwnO.noTup(h:OwnO κ F o d):∀ xs,o≠.tup xs:=λxs z=>by
 subst z;cases d<;>exact h.elim
def Gr.no(g:Gr F H F' H')(B:F a=none)(O:H a=!o)(U:∀ xs,o≠.tup xs:=by intro _ z;cases z):F' a=none:=by
 cases q:F' a with
 | none=>rfl
 | some u =>
  rcases g.n a (by rw[q];exact Option.some_ne_none _)with z|z|⟨xs,z⟩
  .simp_all
  .lia
  grind
theorem Inn.gr(g:Gr F H F' H'):∀{bs} {ds},Inn κ H0 F H bs ds->Inn κ H0 F' H' bs ds
 | [],[],h=>h
 | [],_::_,h=>h
 | _::_,[],h=>h
 | b::bs,e::es,#[#[us,xs,e1,h0,hf,hh,r],h]=>#[#[us,xs,e1,h0,g.no hf hh,g.h _ _ hh,Reps.le g.f _ r],Inn.gr g h]
theorem In2.gr(g:Gr F H F' H'):∀{bs} {css} {ds},In2 κ H0 F H bs css ds->In2 κ H0 F' H' bs css ds
 | [],[],[],h=>h
 | [],_::_,_,h=>by cases h
 | [],[],_::_,h=>by cases h
 | _::_,[],_,h=>by cases h
 | _::_,_::_,[],h=>by cases h
 | b::bs,cs::css,e::es,#[#[xs,e1,h0,hf,hh,r],h]=>#[#[xs,e1,h0,g.no hf hh,g.h _ _ hh,Inn.gr g r],In2.gr g h]
theorem Inn.older(l:∀ a,H a=none->G a=none):∀{bs} {ds},Inn κ H F' H' bs ds->Inn κ G F' H' bs ds
 | [],[],h=>h
 | [],_::_,h=>h
 | _::_,[],h=>h
 | b::bs,e::es,#[#[us,xs,e1,h0,r],h]=>#[#[us,xs,e1,l _ h0,r],Inn.older l h]
theorem In2.older(l:∀ a,H a=none->G a=none):∀{bs} {css} {ds},In2 κ H F' H' bs css ds->In2 κ G F' H' bs css ds
 | [],[],[],h=>h
 | [],_::_,_,h=>by cases h
 | [],[],_::_,h=>by cases h
 | _::_,[],_,h=>by cases h
 | _::_,_::_,[],h=>by cases h
 | b::bs,cs::css,e::es,#[#[xs,e1,h0,hf,hh,r],h]=>#[#[xs,e1,l _ h0,hf,hh,Inn.older l r],In2.older l h]
theorem Inn.reps:∀{bs} {ds},Inn κ H0 F H bs ds->(∀ b∈bs,G b=H b)->Le F G->Reps κ G (bs.map V.ref) ds
 | [],[],_,_,_=>rfl
 | [],_::_,h,_,_=>h.elim
 | _::_,[],h,_,_=>h.elim
 | b::bs,e::es,#[#[us,xs,e1,_,_,hh,r],h],k,l=>by
  subst e1;exact#[.ref b,bs.map V.ref,rfl,#[b,us,rfl,SqL.of ((k b "s").trans hh),Reps.le l _ r],Inn.reps h (λc m=>k c (gj _ m)) l]
theorem In2.reps:∀{bs} {css} {ds},In2 κ H0 F H bs css ds->(∀ b∈bs++css.flatten,G b=H b)->Le F G->Reps κ G (bs.map V.ref) ds
 | [],[],[],_,_,_=>rfl
 | [],_::_,_,h,_,_=>by cases h
 | [],[],_::_,h,_,_=>by cases h
 | _::_,[],_,h,_,_=>by cases h
 | _::_,_::_,[],h,_,_=>by cases h
 | b::bs,cs::css,e::es,#[#[xs,e1,_,_,hh,r],h],k,l=>by
  subst e1;have B:∀ c∈bs++css.flatten,c∈(b::bs)++(cs::css).flatten:=λc m=>by
   grind
  have z:∀ c∈cs,c∈(b::bs)++(cs::css).flatten:=λc m=>by
   simp_all
  exact#[.ref b,bs.map V.ref,rfl,#[b,cs.map V.ref,rfl,SqL.of ((k b "s").trans hh),Inn.reps r (λc m=>k c (z c m)) l],In2.reps h (λc m=>k c (B c m)) l]
def DV.gr(g:Gr F1 H1 F2 H2)(h:DV κ H F1 H1 v d):DV κ H F2 H2 v d:=by
 rcases h with⟨ds,e,a,bs,e1,h0,hf,nd,hh,i⟩|⟨ds,e,a,bs,z,e1,h0,hf,nd,hh,i⟩|⟨ds,y,e,t,b,us,vg,e1,t0,th,b0,bf,bh,rs,r⟩|⟨a,dd,y,e,o,h0,hf,hh,ro,r⟩
 .exact .inl #[ds,e,a,bs,e1,h0,g.no hf hh,nd,g.h _ _ hh,Inn.gr g i]
 .exact .inr (.inl #[ds,e,a,bs,z,e1,h0,g.no hf hh,nd,g.h _ _ hh,In2.gr g i])
 .exact .inr (.inr (.inl #[ds,y,e,t,b,us,vg,e1,t0,g.h _ _ th,b0,g.no bf bh,g.h _ _ bh,Reps.le g.f _ rs,Rep.le g.f _ r]))
 exact .inr (.inr (.inr #[a,dd,y,e,o,h0,g.no hf hh (OwnO.noTup ro),g.h _ _ hh,OwnO.le g.f ro,Rep.le g.f _ r]))
def DV.older(l:∀ a,H a=none->G a=none)(h:DV κ H F' H' v d):DV κ G F' H' v d:=by
 rcases h with⟨ds,e,a,bs,e1,h0,hf,nd,hh,i⟩|⟨ds,e,a,bs,z,e1,h0,hf,nd,hh,i⟩|⟨ds,y,e,t,b,us,vg,e1,t0,th,b0,bf,bh,rs,r⟩|⟨a,dd,y,e,o,h0,hf,hh,ro,r⟩
 .exact .inl #[ds,e,a,bs,e1,l _ h0,hf,nd,hh,Inn.older l i]
 .exact .inr (.inl #[ds,e,a,bs,z,e1,l _ h0,hf,nd,hh,In2.older l i])
 .exact .inr (.inr (.inl #[ds,y,e,t,b,us,vg,e1,l _ t0,th,l _ b0,bf,bh,rs,r]))
 exact .inr (.inr (.inr #[a,dd,y,e,o,l _ h0,hf,hh,ro,r]))
def Vok.gr(g:Gr F1 H1 F2 H2)(h:Vok κ H F1 H1 v w):Vok κ H F2 H2 v w:=by
 cases w with
 | fz d=>exact Rep.le g.f d h
 | ow d =>
  obtain⟨a,o,e,e1,e3,e2,r⟩:=h;exact#[a,o,e,e1,g.no e3 e2 (OwnO.noTup r),g.h _ _ e2,OwnO.le g.f r]
 | br d=>obtain⟨a,o,e,e2,r⟩:=h;exact#[a,o,e,g.h _ _ e2,OwnO.le g.f r]
 | lk d=>exact h
 | od d=>exact DV.gr g h
def RdV.gr(g:Gr F1 H1 F2 H2)(h:RdV κ F1 H1 v d):RdV κ F2 H2 v d:=by
 rcases h with h|⟨a,o,e,e2,r⟩
 .exact .inl (Rep.le g.f d h)
 exact .inr #[a,o,e,g.h _ _ e2,OwnO.le g.f r]
def qaO(h:OwnO κ F o d):(∃ ds,d=.lst ds)\/(∃ ds,d=.dK ds)\/∃ ds,d=.dT ds:=by
 cases o<;>cases d<;>first
  | exact h.elim
  | exact .inl #[_,rfl]
  | exact .inr (.inl #[_,rfl])
  | exact .inr (.inr #[_,rfl])
def RdV.flat(h:RdV κ F H v d)(B:∀ ds,d≠.lst ds)(O:∀ ds,d≠.dK ds)(U:∀ ds,d≠.dT ds):Rep κ F v d:=by
 rcases h with h|⟨a,o,e,e2,r⟩
 .exact h
 rcases qaO r with⟨ds,z⟩|⟨ds,z⟩|⟨ds,z⟩
 .exact absurd z (B ds)
 .exact absurd z (O ds)
 exact absurd z (U ds)
def RdV.int(h:RdV κ F H v i[6]):v=.int i:=RdV.flat h (λ_ e=>nomatch e) (λ_ e=>nomatch e) λ_ e=>nomatch e
def RdV.bl(h:RdV κ F H v (.bl b)):v=.bl b:=RdV.flat h (λ_ e=>nomatch e) (λ_ e=>nomatch e) λ_ e=>nomatch e
def RdV.str(h:RdV κ F H v (.str x)):v=.str x:=RdV.flat h (λ_ e=>nomatch e) (λ_ e=>nomatch e) λ_ e=>nomatch e
def RdV.non(h:RdV κ F H v .non):v=.non:=RdV.flat h (λ_ e=>nomatch e) (λ_ e=>nomatch e) λ_ e=>nomatch e
def RdV.tup(s:Le F H)(h:RdV κ F H v (.tup ds)):∃ a vs,v=.ref a/\SqT κ.K H a vs/\SqT κ.K F a vs/\Reps κ F vs ds:=by
 obtain⟨a,vs,e,q,r⟩:=RdV.flat h (λ_ e=>nomatch e) (λ_ e=>nomatch e) λ_ e=>nomatch e
 exact#[a,vs,e,SqT.le s q,q,r]
theorem RdV.lst(s:Le F H)(h:RdV κ F H v (.lst ds)):∃ a vs,v=.ref a/\SqL κ.K H a vs/\Reps κ F vs ds:=by
 rcases h with⟨a,vs,e,q,r⟩|⟨a,o,e,e2,r⟩
 .exact#[a,vs,e,SqL.le s q,r]
 cases o with
 | lst vs=>exact#[a,vs,e,SqL.of e2,r]
 | _=>exact r.elim
theorem RdV.dK(s:Le F H)(h:RdV κ F H v (.dK ds)):∃ a kvs,v=.ref a/\SqK κ H a kvs/\RepK κ F kvs ds:=by
 rcases h with⟨a,vs,e,q,r⟩|⟨a,o,e,e2,r⟩
 .exact#[a,vs,e,SqK.le s q,r]
 cases o with
 | dK vs=>exact#[a,vs,e,.inl (.inl e2),r]
 | _=>exact r.elim
def Vok.st(s:Le F H)(g:Gr F H F' H')(h:Vok κ H F' H' v w)(e:w.st=.ok d):Rep κ (jG H F' H') v d:=by
 obtain⟨_,l⟩:=vm s g;cases w with
 | fz d'=>cases e;exact Rep.le l d h
 | ow d' =>
  cases e;obtain⟨a,o,ea,e1,e3,e2,r⟩:=h;have q:jG H F' H' a=!o:=by unfold jG;rw[e1];exact e2
  have r:=OwnO.le l r;cases o<;>cases d<;>first
   | exact r.elim
   | exact#[a,_,ea,.inl (.inl q),r]
   | exact#[a,_,ea,.inl q,r]
 | br d'=>cases e
 | lk d'=>cases e
 | od d'=>cases e
end
def Voks(κ:Kx)(H F' H':Hp):List V->List En->Prop
 | vs,[]=>vs=[]
 | vs,w::ws=>∃ v r,vs=v::r/\Vok κ H F' H' v w/\Voks κ H F' H' r ws
section
variable{κ:Kx}{H F F' H' F1 H1 F2 H2:Hp}
def Vok.older{G:Hp}(l:∀ a,H a=none->G a=none)(h:Vok κ H F' H' v w):Vok κ G F' H' v w:=by
 cases w with
 | fz d=>exact h
 | ow d=>obtain⟨a,o,e,e1,r⟩:=h;exact#[a,o,e,l a e1,r]
 | br d=>exact h
 | lk d=>exact h
 | od d=>exact DV.older l h
theorem Voks.older(l:∀ a,H a=none->G a=none):∀{ws} {vs},Voks κ H F' H' vs ws->Voks κ G F' H' vs ws
 | [],_,h=>h
 | w::ws,_,h=>by
  obtain⟨v,r,e,h1,h2⟩:=h;exact#[v,r,e,Vok.older l h1,Voks.older l h2]
theorem Voks.stAll(s:Le F H)(g:Gr F H F' H'):∀{ws:List En} {vs:List V} {ds:List D},Voks κ H F' H' vs ws->stAll ws=.ok ds->Reps κ (jG H F' H') vs ds
 | [],_,_,h,e=>by cases e;exact h
 | w::ws,_,ds,h,e=>by
  obtain⟨v,r,rfl,h1,h2⟩:=h;unfold L3.stAll at e;cases e1:w.st with
  | ok d =>
   cases e2:L3.stAll ws with
   | ok ds' =>
    rw[e1,e2]at e;cases e;exact#[v,r,rfl,Vok.st s g h1 e1,Voks.stAll s g h2 e2]
   | exc x=>rw[e1,e2]at e;cases e
   | stuck=>rw[e1,e2]at e;cases e
  | exc x=>rw[e1]at e;cases e
  | stuck=>rw[e1]at e;cases e
theorem Voks.rd:∀{ws} {vs},Voks κ H F' H' vs ws->Paired (RdV κ F' H') vs (ws.map En.d)
 | [],_,h=>by cases (h);exact .nil
 | w::ws,_,h=>by
  obtain⟨v,r,rfl,h1,h2⟩:=h;exact .cons (Vok.rd h1) (Voks.rd h2)
end
def qaP(κ:Kx)(F H:Hp)(a:Addr)(bs:List Addr)(xs:List D):Prop:=bs=[]/\∃ o d,xs=[.int (a:Int),d]/\H a=!o/\OwnO κ F o d
def Deep(κ:Kx)(H0 F H:Hp)(a:Addr)(bs:List Addr):D->Prop
 | .lst ds=>H a=!(.lst (bs.map V.ref))/\Inn κ H0 F H bs ds
 | .dT kds=>H a=!(.dT ((kds.map Prod.fst).zip (bs.map V.ref)))/\Inn κ H0 F H bs (kds.map Prod.snd)
 | .dK kds=>∃ b1 z,bs=b1++List.flatten z/\H a=!(.lst (b1.map V.ref))/\In2 κ H0 F H b1 z (kds.map Prod.snd)
 | .tup xs=>qaP κ F H a bs xs
 | _=>False
def RawT(F:Hp)(v:V):Prop:=∃ a ob kvs,v=.ref a/\F a=!(.frz ob (.dT kvs))
def RawT.le(l:Le F F')(h:RawT F v):RawT F' v:=let #[a,ob,kvs,e,q]:=h;#[a,ob,kvs,e,l _ _ q]
def Eok(κ:Kx)(H0 F H:Hp)(v:V):En->Prop
 | .fz d=>Rep κ F v d
 | .ow d=>∃ a o,v=.ref a/\H0 a=none/\F a=none/\H a=!o/\OwnO κ F o d
 | .lk d=>Rep κ F v d/\RawT F v
 | .br d=>∃ a o,v=.ref a/\H0 a=!o/\OwnO κ F o d
 | .od _=>∃ a o,v=.ref a/\H0 a=none/\F a=none/\H a=!o/\∀ xs,o≠.tup xs
def En.own:En->Bool
 | .ow _=>true|.od _=>true|_=>false
def shal(i:Nat)(ρ:Rho):Prop:=∀(j:Nat) (d:D),j≠i->ρ[j]?≠!(!(.od d))
structure StOk(κ:Kx)(F0 H0 F H:Hp)(ρ:Rho)(σ:St):Prop where
 gr:Gr F0 H0 F H
 len:ρ.length=σ.length
 val:∀(i:Nat) (w:En),ρ[i]?=!(!w)->∃ v,σ[i]?=!(!v)/\Eok κ H0 F H v w
 sep:∀(i j:Nat) (w w':En) (a:Addr),i≠j->ρ[i]?=!(!w)->ρ[j]?=!(!w')->w.own=true->w'.own=true->σ[i]?=!(!(.ref a))->σ[j]?=!(!(.ref a))->False
 dp:∀(i:Nat) (d:D),ρ[i]?=!(!(.od d))->shal i ρ/\∃ a bs,σ[i]?=!(!(.ref a))/\H0 a=none/\F a=none/\(a::bs).Nodup/\Deep κ H0 F H a bs d /\
  ∀(j:Nat) (w:En) (b:Addr),j≠i->ρ[j]?=!(!w)->w.own=true->b∈a::bs->σ[j]?≠!(!(.ref b))
section
variable{κ:Kx}{F0 H0 F H F' H':Hp}{ρ:Rho}{σ:St}
def Deep.gr(g:Gr F H F' H')(h:Deep κ H0 F H a bs d):Deep κ H0 F' H' a bs d:=by
 cases d<;>first|exact(False.elim h)|exact#[g.h _ _ h.1,Inn.gr g h.2]|skip
 .obtain⟨e,o,d,ex,h1,h2⟩:=h;exact#[e,o,d,ex,g.h _ _ h1,OwnO.le g.f h2]
 obtain⟨b1,z,e,h1,h2⟩:=h;exact#[b1,z,e,g.h _ _ h1,In2.gr g h2]
theorem Inn.at:∀{bs} {ds} {b},Inn κ H0 F H bs ds->b∈bs->∃ us,H0 b=none/\F b=none/\H b=!(.lst us)
 | [],_,_,_,m=>by cases m
 | _::_,[],_,h,_=>h.elim
 | c::bs,e::es,b,#[#[us,xs,e1,h0,hf,hh,r],h],m=>by
  rcases gy.mp m with rfl|m
  .exact#[us,h0,hf,hh]
  exact Inn.at h m
theorem In2.at:∀{bs} {css} {ds} {b},In2 κ H0 F H bs css ds->b∈bs++css.flatten->∃ us,H0 b=none/\F b=none/\H b=!(.lst us)
 | [],[],[],_,_,m=>by simp at m
 | [],_::_,_,_,h,_=>by cases h
 | [],[],_::_,_,h,_=>by cases h
 | _::_,[],_,_,h,_=>by cases h
 | _::_,_::_,[],_,h,_=>by cases h
 | c::bs,cs::css,e::es,b,#[#[xs,e1,h0,hf,hh,r],h],m=>by
  rcases gy.mp m with rfl|m
  .exact#[_,h0,hf,hh]
  rcases gC.mp m with m|m
  .exact In2.at h (tj _ m)
  rcases gC.mp m with m|m
  .exact Inn.at r m
  exact In2.at h (tm _ m)
def Deep.top(h:Deep κ H0 F H a bs d):∃ o,H a=!o/\∀ xs,o≠.tup xs:=by
 cases d<;>first|exact(False.elim h)|exact#[_,h.1,λ_ z=>nomatch z]|skip
 .obtain⟨e,o,d,ex,h1,h2⟩:=h;exact#[o,h1,OwnO.noTup h2]
 obtain⟨b1,B,e,h1,h2⟩:=h;exact#[_,h1,λ_ z=>nomatch z]
def Deep.inn(h:Deep κ H0 F H a bs d)(m:b∈bs):∃ us,H0 b=none/\F b=none/\H b=!(.lst us):=by
 cases d<;>first|exact(False.elim h)|exact Inn.at h.2 m|skip
 .obtain⟨e,_⟩:=h;subst e;cases m
 obtain⟨b1,z,e,h1,h2⟩:=h;subst e;exact In2.at h2 m
theorem Inn.same{G G':Hp}:∀{bs} {ds},(∀ b∈bs,H b=H' b)->(∀ b∈bs,F b=none->F' b=none)->Le F F'->Inn κ H0 F H bs ds->Inn κ H0 F' H' bs ds
 | [],[],_,_,_,h=>h
 | [],_::_,_,_,_,h=>h
 | _::_,[],_,_,_,h=>h
 | b::bs,e::es,k,n,l,#[#[us,xs,e1,h0,hf,hh,r],h] =>
  #[#[us,xs,e1,h0,n b "s" hf,(k b "s").symm.trans hh,Reps.le l _ r],Inn.same (G:=G) (G':=G') (λc m=>k c (gj _ m)) (λc m=>n c (gj _ m)) l h]
theorem In2.same:∀{bs} {css} {ds},(∀ b∈bs++css.flatten,H b=H' b)->(∀ b∈bs++css.flatten,F b=none->F' b=none)->Le F F'->In2 κ H0 F H bs css ds->In2 κ H0 F' H' bs css ds
 | [],[],[],_,_,_,h=>h
 | [],_::_,_,_,_,_,h=>by cases h
 | [],[],_::_,_,_,_,h=>by cases h
 | _::_,[],_,_,_,_,h=>by cases h
 | _::_,_::_,[],_,_,_,h=>by cases h
 | b::bs,cs::css,e::es,k,n,l,#[#[xs,e1,h0,hf,hh,r],h]=>by
  have B:∀ c∈bs++css.flatten,c∈(b::bs)++(cs::css).flatten:=λc m=>by
   grind
  have z:∀ c∈cs,c∈(b::bs)++(cs::css).flatten:=λc m=>by
   simp_all
  exact#[#[xs,e1,h0,n b "s" hf,(k b "s").symm.trans hh,Inn.same (G:=H) (G':=H) (λc m=>k c (z c m)) (λc m=>n c (z c m)) l r],In2.same (λc m=>k c (B c m)) (λc m=>n c (B c m)) l h]
def Deep.same(k:∀ b∈a::bs,H b=H' b)(n:∀ b∈bs,F b=none->F' b=none)(l:Le F F')(h:Deep κ H0 F H a bs d):Deep κ H0 F' H' a bs d:=by
 cases d<;>first|exact(False.elim h)|exact#[(k a "s").symm.trans h.1,Inn.same (G:=H) (G':=H) (λc m=>k c (gj _ m)) n l h.2]|skip
 .obtain⟨e,o,d,ex,h1,h2⟩:=h;exact#[e,o,d,ex,(k a "s").symm.trans h1,OwnO.le l h2]
 obtain⟨b1,z,e,h1,h2⟩:=h;subst e;exact#[b1,z,rfl,(k a "s").symm.trans h1,In2.same (λc m=>k c (gj _ m)) n l h2]
def Eok.gr(g:Gr F H F' H')(h:Eok κ H0 F H v w):Eok κ H0 F' H' v w:=by
 cases w with
 | fz d=>exact Rep.le g.f d h
 | ow d=>obtain⟨a,o,e,e1,e3,e2,r⟩:=h;exact#[a,o,e,e1,g.no e3 e2 (OwnO.noTup r),g.h _ _ e2,OwnO.le g.f r]
 | lk d=>exact#[Rep.le g.f d h.1,RawT.le g.f h.2]
 | br d=>obtain⟨a,o,e,e2,r⟩:=h;exact#[a,o,e,e2,OwnO.le g.f r]
 | od d=>obtain⟨a,o,e,e1,e3,e2,nt⟩:=h;exact#[a,o,e,e1,g.no e3 e2 nt,g.h _ _ e2,nt]
def StOk.grow(S:StOk κ F0 H0 F H ρ σ)(g:Gr F H F' H'):StOk κ F0 H0 F' H' ρ σ :=
 #[S.gr.trans g,S.len,λi w e=>let #[v,e1,q]:=S.val i w e;#[v,e1,Eok.gr g q],S.sep,λi d e=>by
  obtain⟨s1,a,bs,e1,h0,hf,nd,dp,sp⟩:=S.dp i d e;obtain⟨o,ho,nt⟩:=Deep.top dp;exact#[s1,a,bs,e1,h0,g.no hf ho nt,nd,Deep.gr g dp,sp]]
def StOk.s(S:StOk κ F0 H0 F H ρ σ):Le F H:=S.gr.s
def qC{α:Type}{l:List α}{i j:Nat}{x y:α}(h:(l.set i x)[j]?=!y):(j=i/\y=x)\/(j≠i/\l[j]?=!y):=by
 by_cases e:j=i
 .subst e;by_cases hl:j<l[1]
  .simp_all
  simp_all
 rw[gW (tf e)]at h;exact .inr #[e,h]
def StOk.setF(S:StOk κ F0 H0 F H ρ σ){i:Nat}(r:Rep κ F v d):StOk κ F0 H0 F H (ρ.set i (!d[8])) (σ.set i !v):=by
 refine#[S.gr,by simp[S.len],λj w e=>?_,λj k w w' a B ej ek oj ok sj sk=>?_,λj y e=>?_]
 .rcases qC e with⟨rfl,z⟩|⟨ne,z⟩
  .cases z;have hl:j<σ.length:=by
    rw[<- S.len];have:=(gp.mp e).1;simpa using this
   exact#[v,List.getElem?_set_self hl,r]
  obtain⟨u,e1,q⟩:=S.val j w z;exact#[u,by rw[gW (tf ne)];exact e1,q]
 .rcases qC ej with⟨_,z⟩|⟨nj,ej⟩
  .cases z;cases oj
  rcases qC ek with⟨_,z⟩|⟨nk,ek⟩
  .cases z;cases ok
  rw[gW (tf nj)]at sj;rw[gW (tf nk)]at sk;exact S.sep j k w w' a B ej ek oj ok sj sk
 rcases qC e with⟨_,z⟩|⟨nj,ej⟩
 .lia
 obtain⟨s1,a,bs,e1,h0,hf,nd,dp,sp⟩:=S.dp j y ej;refine#[λk z hk ek=>?_,a,bs,by rw[gW (tf nj)];exact e1,h0,hf,nd,dp,λk w b hk ek ok m sk=>?_]
 .rcases qC ek with⟨_,q⟩|⟨_,q⟩
  .lia
  exact s1 k z hk q
 rcases qC ek with⟨_,q⟩|⟨nk,q⟩
 .cases q;cases ok
 rw[gW (tf nk)]at sk;exact sp k w b hk q ok m sk
def StOk.setO(S:StOk κ F0 H0 F H ρ σ){i:Nat}(h0:H0 a=none)(hf:F a=none)(ha:H a=!o)(r:OwnO κ F o d)
  (Z:∀ j w,j≠i->ρ[j]?=!(!w)->w.own=true->σ[j]?≠!(!(.ref a)))
  (Y:∀ j y,j≠i->ρ[j]?=!(!(.od y))->shal j ρ/\∃ c bs,σ[j]?=!(!(.ref c))/\H0 c=none/\F c=none/\(c::bs).Nodup/\Deep κ H0 F H c bs y /\
   (∀ k w b,k≠j->ρ[k]?=!(!w)->w.own=true->b∈c::bs->σ[k]?≠!(!(.ref b)))/\a∉c::bs):StOk κ F0 H0 F H (ρ.set i (!d[9])) (σ.set i (!(.ref a))):=by
 refine#[S.gr,by simp[S.len],λj w e=>?_,λj k w w' b O ej ek oj ok sj sk=>?_,λj y e=>?_]
 .rcases qC e with⟨rfl,z⟩|⟨ne,z⟩
  .cases z;have hl:j<σ.length:=by
    rw[<- S.len];have:=(gp.mp e).1;simpa using this
   exact#[.ref a,List.getElem?_set_self hl,a,o,rfl,h0,hf,ha,r]
  obtain⟨u,e1,q⟩:=S.val j w z;exact#[u,by rw[gW (tf ne)];exact e1,q]
 .have at_:∀{m},m≠i->(σ.set i (!(.ref a)))[m]?=!(!(.ref b))->σ[m]?=!(!(.ref b)):=λ{m} hm h=>by
   rw[gW (tf hm)]at h;exact h
  rcases qC ej with⟨e1,z⟩|⟨nj,U⟩
  .rcases qC ek with⟨e2,_⟩|⟨nk,B⟩
   .exact O (e1.trans e2.symm)
   subst e1;have hl:j<σ.length:=by have:=(gp.mp sj).1;simpa using this
   rw[List.getElem?_set_self hl]at sj;cases sj;exact Z k w' nk B ok (at_ nk sk)
  rcases qC ek with⟨e2,z⟩|⟨nk,B⟩
  .subst e2;have hl:k<σ.length:=by have:=(gp.mp sk).1;simpa using this
   rw[List.getElem?_set_self hl]at sk;cases sk;exact Z j w nj U oj (at_ nj sj)
  exact S.sep j k w w' b O U B oj ok (at_ nj sj) (at_ nk sk)
 rcases qC e with⟨_,z⟩|⟨nj,ej⟩
 .lia
 obtain⟨s1,c,bs,e1,c0,cf,nd,dp,sp,nc⟩:=Y j y nj ej;refine#[λk z hk ek=>?_,c,bs,by rw[gW (tf nj)];exact e1,c0,cf,nd,dp,λk w b hk ek ok m sk=>?_]
 .rcases qC ek with⟨_,q⟩|⟨_,q⟩
  .lia
  exact s1 k z hk q
 rcases qC ek with⟨rfl,_⟩|⟨nk,q⟩
 .have hl:k<σ.length:=by have:=(gp.mp sk).1;simpa using this
  rw[List.getElem?_set_self hl]at sk;cases sk;exact nc m
 rw[gW (tf nk)]at sk;exact sp k w b hk q ok m sk
def StOk.ownAt(S:StOk κ F0 H0 F H ρ σ){j:Nat}{w:En}(e:ρ[j]?=!(!w))(o:w.own=true)(s:σ[j]?=!(!(.ref a))):∃ u,H a=!u:=by
 obtain⟨v,e1,q⟩:=S.val j w e;rw[s]at e1;cases e1;cases w with
 | ow d=>obtain⟨b,u,eb,_,_,e2,_⟩:=q;cases eb;exact#[u,e2]
 | lk d=>cases o
 | od d=>obtain⟨b,u,eb,_,_,e2,_⟩:=q;cases eb;exact#[u,e2]
 | fz d=>cases o
 | br d=>cases o
def StOk.setW(S:StOk κ F0 H0 F H ρ σ)(g:Gr F H F' H'){i:Nat}{w w':En}(q:Vok κ H F' H' v w)(e:w.nm=.ok w'):StOk κ F0 H0 F' H' (ρ.set i !w') (σ.set i !v):=by
 have S':=S.grow g;cases w with
 | fz d=>cases e;exact S'.setF q
 | ow d =>
  cases e;obtain⟨a,o,rfl,e1,e3,e2,r⟩:=q;refine S'.setO (Le.none S.gr.h e1) e3 e2 r (λj w hj ej oj sj=>?_) λj y hj ej=>?_
  .obtain⟨u,z⟩:=S.ownAt ej oj sj;lia
  obtain⟨s1,c,bs,sj,h0,hf,nd,dp,sp⟩:=S.dp j y ej;obtain⟨o',B,O⟩:=Deep.top dp;refine#[s1,c,bs,sj,h0,g.no hf B O,nd,Deep.gr g dp,sp,λm=>?_]
  rcases gy.mp m with rfl|m
  .lia
  obtain⟨us,_,_,z⟩:=Deep.inn dp m;lia
 | br d=>cases e
 | lk d=>cases e
 | od d=>cases e
end
def Way(H:Hp)(n:Nat)(h:Heap)(e:Addr)(cl:aa)(dd:Option Addr)(q:Option aa):Prop :=
 ∃ oe vs,h.get? e=!oe/\oe.cls=cl/\oe.dict=dd/\oe.data=.fields vs/\1<vs.size/\n<=e/\H e=none /\
  ((vs[1]?=some .none/\q=none) \/
   ∃ T oT ts fl,vs[1]?=!(.ref T)/\T≠e/\n<=T/\H T=none/\h.get? T=!oT/\oT.data=.fields ts/\ts[3]?=!fl/\q=!fl)
structure Chg(H:Hp)(n:Nat)(fs:List Addr)(h h':Heap):Prop where
 ex:∃ ch:List Addr,(∀ b∈ch,n<=b/\H b=none/\∀ o,h.get? b=!o->∃ vs,o.data=.fields vs)/\(∀ b o,h.get? b=!o->b∉fs->b∉ch->h'.get? b=!o) /\
  (∀ b o,h.get? b=!o->b∉ch->∃ sl,h'.get? b=some {o with slots:=sl})/\(∀ b o,h.get? b=!o->∃ o',h'.get? b=!o')
 sz:h.objs.size<=h'.objs.size
section
variable{H:Hp}{n:Nat}{fs:List Addr}{h h' h'':Heap}{e:Addr}{cl:aa}{dd:Option Addr}{q:Option aa}
variable{M:Model}{A:ag}{E:aa->ab->Prop}{s:ab}{base:Heap}{env:Env}{outer:List Env}{L:Addr}
end
def qaQ:D->aa->Prop
 | .non,u=>u=.none
 | .int i,u=>∃ t,u=.int i t
 | _,_=>False
def AtIs(H:Hp)(n:Nat)(h:Heap)(dd:Option Addr):List (Str×D)->Prop
 | []=>dd=none
 | (nm,d)::_=>∃ dx mA u,dd=!dx/\n<=dx/\H dx=none/\h.Ns1 dx mA/\mA nm=!u/\qaQ d u
inductive XOk:Xc->Prop
 | nof (c:Str):XOk (Xc.mk c [])
 | nonf (c:Str):XOk (Xc.mk c [("at",D.non)])
 | intf (c:Str) (n:Nat):XOk (Xc.mk c [("at",D.int n)])
def atc(x:Xc):Option Addr:=match x.fs with
 | []=>none
 | [(_,.int i)]=>!(i.toNat+1)
 | _=>!0
structure Fl(P:Program)(w:World)(mg:Str->Option Value)(outer:List Env)(H:Hp)(s:Shared)(H':Hp)(s':Shared)(e:Addr)(x:Xc)(q:Option Value):Prop where
 os:s'.os=s.os
 bare:AllBare s'.gens
 un:Un (frs outer) [] H H' s.heap s'.heap
 hok:HOk P w H' s'.heap
 sz:s[0]<=s'[0]
 ok:XOk x
 way:∃ C dd,mg x.cls=!(.ref C)/\Way H' s[0] s'.heap e (.ref C) dd q/\AtIs H' s[0] s'.heap dd x.fs
def KE(x:Xc->Prop)(r:R α)(k:α->Prop):Prop:=match r with
 | .ok a=>k a
 | .exc e=>x e
 | .stuck=>False
def KE.bind{f:α->R β}{k:β->Prop}(h:KE x (r.bind f) k):KE x r λa=>KE x (f a) k:=by
 cases r<;>exact h
def KE.imp{k z:α->Prop}(h:KE x r k)(i:∀ a,k a->z a):KE x r z:=by
 cases r with
 | ok a=>exact i a h
 | exc e=>exact h
 | stuck=>exact h
def KE.impX{r:R α}{k z:α->Prop}(h:KE x r k)(i:∀ a,k a->z a)(j:∀ e,x e->x' e):KE x' r z:=by
 cases r with
 | ok a=>exact i a h
 | exc e=>exact j e h
 | stuck=>exact h
def xU{k:α->Prop}:KE x (R.ok a) k=k a:=rfl
def XP(X:Cx)(F0 H0:Hp)(x:Xc):Prop:=False
def XPS(X:Cx)(F0 H0:Hp)(x:Xc):Prop:=∀(pins:List (Addr×Obj)) (σ:St) (H:Hp) (s:ab) (F' H':Hp) (s':ab) (e:Addr) (q:Option aa),(q=none\/q=some .none)->Gr F0 H0 F' H'->"I" H s ->
 Fl X.prog X.w X.mg X.stack H s H' s' e x q->X.xe (.ref e) s'
def SE(X:Cx)(F0 H0:Hp)(e:Expr)(f:EF):Prop :=
 ∀(pins:List (Addr×Obj)) (s:ab) (σ:St) (F H:Hp) (ρ:Rho) (Q:aa->ab->Prop),StOk (kx X) F0 H0 F H ρ σ->"I" H s ->
  KE (XP X F0 H0) (f ρ) (λw=>∀ v u F' H' s',Gr F H F' H'->Vok (kx X) H F' H' v w->RelV v u->"I" H' s'->Q u s') ->
  X[3] (eval e X.env) Q X.xe s
def ST(X:Cx)(F0 H0:Hp)(e:Expr)(f:TF):Prop :=
 ∀(pins:List (Addr×Obj)) (s:ab) (σ:St) (F H:Hp) (ρ:Rho) (Q:Bool->ab->Prop),StOk (kx X) F0 H0 F H ρ σ->"I" H s ->
  KE (XP X F0 H0) (f ρ) (λb=>∀ F' H' s',Gr F H F' H'->"I" H' s'->Q b s') ->
  X[3] (isTrue e X.env (eval e X.env)) Q X.xe s
def SW(X:Cx)(F0 H0:Hp)(e:Expr)(f:TF):Prop :=
 ∀(z:Sem aa) (pins:List (Addr×Obj)) (s:ab) (σ:St) (F H:Hp) (ρ:Rho) (Q:Bool->ab->Prop),StOk (kx X) F0 H0 F H ρ σ->"I" H s ->
  KE (XP X F0 H0) (f ρ) (λb=>∀ F' H' s',Gr F H F' H'->"I" H' s'->Q b s') ->
  X[3] (isTrue e X.env z) Q X.xe s
def SA(X:Cx)(F0 H0:Hp)(es:List Expr)(f:List EF):Prop :=
 ∀(pos:Pos) (pins:List (Addr×Obj)) (s:ab) (σ:St) (F H:Hp) (ρ:Rho) (Q:List aa->ab->Prop),StOk (kx X) F0 H0 F H ρ σ->"I" H s ->
  KE (XP X F0 H0) (evs f ρ) (λws=>∀ vs us F' H' s',Gr F H F' H'->Voks (kx X) H F' H' vs ws->Vals vs us->"I" H' s'->Q us s') ->
  X[3] (spliced (backTo pos (starEach es X.env))) Q X.xe s
def PostS(X:Cx)(F0 H0 F:Hp)(D:Ends):Out->Prop
 | .nx ρ'=>∀ z F' H',Le F F'->StOk (kx X) F0 H0 F' H' ρ' z->D.nx z H'
 | .bk ρ'=>∀ z F' H',Le F F'->StOk (kx X) F0 H0 F' H' ρ' z->D.bk z H'
 | .ct ρ'=>∀ z F' H',Le F F'->StOk (kx X) F0 H0 F' H' ρ' z->D.ct z H'
 | .rt w=>∀ v F' H',Gr F0 H0 F' H'->Vok (kx X) H0 F' H' v w->D.rt v H'
 | .exc x=>XPS X F0 H0 x
 | .stuck=>False
def SS(X:Cx)(F0 H0:Hp)(st:Stmt)(f:SF):Prop :=
 ∀(pins:List (Addr×Obj)) (s:ab) (σ:St) (F H:Hp) (ρ:Rho) (D:Ends),StOk (kx X) F0 H0 F H ρ σ->"I" H s->PostS X F0 H0 F D (f ρ) ->
  X[3] (exec st X.env) (SP X pins D) X.xe s
def SSs(X:Cx)(F0 H0:Hp)(z:List Stmt)(f:SF):Prop :=
 ∀(pins:List (Addr×Obj)) (s:ab) (σ:St) (F H:Hp) (ρ:Rho) (D:Ends),StOk (kx X) F0 H0 F H ρ σ->"I" H s->PostS X F0 H0 F D (f ρ) ->
  X[3] (execs z X.env) (SP X pins D) X.xe s
def PostS.le{F0 H0 F F':Hp}{D:Ends}(l:Le F F'){o:Out}(h:PostS X F0 H0 F D o):PostS X F0 H0 F' D o:=by
 cases o with
 | nx ρ=>exact λz F2 H2 l2 S=>h z F2 H2 (Le.trans l l2) S
 | bk ρ=>exact λz F2 H2 l2 S=>h z F2 H2 (Le.trans l l2) S
 | ct ρ=>exact λz F2 H2 l2 S=>h z F2 H2 (Le.trans l l2) S
 | rt w=>exact h
 | exc x=>exact h
 | stuck=>exact h
def PostS.of{D:Ends}{r:R α}{k:α->Out}(h:PostS X F0 H0 F D (sOf r k)):KE (XP X F0 H0) r λa=>PostS X F0 H0 F D (k a):=by
 cases r<;>exact h
def kD(X:Cx)(e:Expr):TE:=λσ H Q=>∀(pins:List (Addr×Obj)) (s:ab),"I" H s->X[3] (eval e X.env) (EP X pins σ Q) X.xe s
def jh:PE X e (kD X e):=λpins s σ H Q I h=>h pins s I
def SE.sem(h:"S" e f){σ:St}{F H:Hp}{ρ:Rho}{Q:VK}(S:StOk (kx X) F0 H0 F H ρ σ)
  (k:KE (XP X F0 H0) (f ρ) λw=>∀ v F' H',Gr F H F' H'->Vok (kx X) H F' H' v w->Q v H'):kD X e σ H Q :=
 λpins s I=>h pins s σ F H ρ _ S I (k.imp λw q v u F' H' s' g vo r I'=>#[v,H',I',r,q v F' H' g vo])
def qaR(X:Cx)(e:Expr):TT:=λσ H Q=>∀(pins:List (Addr×Obj)) (s:ab),"I" H s->X[3] (isTrue e X.env (eval e X.env)) (TP X pins σ Q) X.xe s
def qaS:PT X e (qaR X e):=λpins s σ H Q I h=>h pins s I
def Zg(X:Cx)(st:List Stmt):TS:=λD σ H=>∀(pins:List (Addr×Obj)) (s:ab),"I" H s->X[3] (execs st X.env) (SP X pins D) X.xe s
def Qm{st:List Stmt}:PSs X st (Zg X st):=λpins s σ H D I h=>h pins s I
structure Nm(X:Cx)(i:Nat)(x:Str):Prop where
 n:X.N[i]?=!x
 v:Vis X.env.scope x
 d:(x==("__debug__":Str))=false
 c:(x==("__classdict__":Str))=false
def pvN{i:Nat}(h:Nm X i x):PE X (.Name x pos) (Qg i):=WJ h.n h.v h.d h.c
section
variable{X:Cx}{F0 H0:Hp}
def qa(i){x:Str}{pos:Pos}(z:(Nm X i x)["t"]):"S" (.Name x pos) (q9 i):=by
 intro pins s σ F H ρ Q S I h;have go:∀ w w',ρ[i]?=!(!w)->(∀ v,Eok (kx X) H0 F H v w->Vok (kx X) H F H v w') ->
   (∀ v u F' H' s',Gr F H F' H'->Vok (kx X) H F' H' v w'->RelV v u->"I" H' s'->Q u s')->X[3] (eval (.Name x pos) X.env) Q X.xe s:=λw w' e t k=>by
  obtain⟨v,e1,q⟩:=S.val i w e;refine thn (pvN z pins s σ H (λv' H'=>v'=v/\H'=H) I #[v,e1,rfl,rfl]) λu s' #[v',H',I',r,ev,eh]=>?_
  subst ev eh;exact k v' u F H' s' (Gr.refl S.s) (t v' q) r I'
 cases e:ρ[i]? with
 | none=>unfold q9 at h;rw[e]at h;exact h.elim
 | some w =>
  cases w with
  | none=>unfold q9 at h;rw[e]at h;exact h.elim
  | some w =>
   unfold q9 at h;rw[e]at h;cases w with
   | fz d=>exact go _ d[8] e (λv q=>q) h
   | ow d=>exact go _ (.br d) e (λv #[a,o,e1,_,_,e2,r]=>#[a,o,e1,e2,r]) h
   | lk d=>exact go _ d[8] e (λv q=>q.1) h
   | od d=>exact h.elim
   | br d=>exact go _ (.br d) e (λv #[a,o,e1,e2,r]=>#[a,o,e1,S.gr.h _ _ e2,r]) h
def xV(h:PE X e (tC v))(r:∀ F,Rep (kx X) F v d):"S" e (eC d):=by
 refine λpins s σ F H ρ Q S I k=>thn (h pins s σ H (λv' H'=>v'=v/\H'=H) I #[rfl,rfl]) λu s' #[v',H',I',rv,ev,eh]=>?_
 subst ev eh;exact k v' u F H' s' (Gr.refl S.s) (r F) rv I'
def qf{j pos}:"S" (.Constant i[6] j pos) i[5]:=xV GL λ_=>rfl
def vO{j pos}:"S" (.Constant (.bool b) j pos) (eC (.bl b)):=xV GO λ_=>rfl
def yy{j pos}:"S" (.Constant .none j pos) (eC .non):=xV GP λ_=>rfl
def yz{j pos}:"S" (.Constant (.str x) j pos) (eC (.str x)):=xV GQ λ_=>rfl
def Y9(z:X.mg x=!u)(r:RelV v u)(q:∀ F,Rep (kx X) F v d)(B:(Gl X x)["r"])(hd:((x==("__debug__"))=false)["d"]) :
  "S" (.Name x pos) (eC d):=xV (GR B z r hd) q
abbrev Wish(X:Cx)(F H:Hp)(r:R En)(Q:VK):Prop:=KE (λ_=>False) r λw=>∀ v F' H',Gr F H F' H'->Vok (kx X) H F' H' v w->Q v H'
def OpD(X:Cx)(f:aa->aa->Sem aa)(g:D->D->R En):Prop :=
 ∀(pins:List (Addr×Obj)) (s:ab) (σ:St) (F H:Hp) (x y:V) (v u:aa) (dx dy:D) (Q:VK),"I" H s->Le F H->RelV x v->RelV y u->RdV (kx X) F H x dx->RdV (kx X) F H y dy->Wish X F H (g dx dy) Q ->
  X[3] (f v u) (EP X pins σ Q) X.xe s
def zX(X:Cx)(f:aa)(g:List D->R En):Prop :=
 ∀(pins:List (Addr×Obj)) (s:ab) (σ:St) (F H:Hp) (xs:List V) (us:List aa) (ds:List D) (Q:VK),"I" H s->Le F H->Vals xs us->Paired (RdV (kx X) F H) xs ds->Wish X F H (g ds) Q ->
  X[3] (call f us) (EP X pins σ Q) X.xe s
variable{a b:Expr}{fa fb:EF}{pos:Pos}{g:D->D->R En}
def yA{Q:aa->ab->Prop}{pins:List (Addr×Obj)}{σ:St}(B:Gr F H F2 H2)
  (h:KE (XP X F0 H0) r λw=>∀ v u F' H' s',Gr F H F' H'->Vok (kx X) H F' H' v w->RelV v u->"I" H' s'->Q u s') :
  Wish X F2 H2 r λv H'=>∀ u s',RelV v u->"I" H' s'->Q u s':=by
 exact KE.impX h (λw k v F' H' g' q u s' r I=>(k v u F' H' s' (B.trans g') (Vok.older (λa e=>Le.none B.h e) q) r I)) λ_ z=>z.elim
def vz{pins:List (Addr×Obj)}{σ:St}{t:Sem aa}{s:ab}
  (h:X[3] t (EP X pins σ λv H'=>∀ u s',RelV v u->"I" H' s'->Q u s') X.xe s):X[3] t Q X.xe s :=
 thn h λu s' #[v,H',I',r,q]=>q u s' r I'
def two{f:aa->aa->Sem aa}(B:"S" a fa)(O:"S" b fb){pins:List (Addr×Obj)}{s:ab}{σ:St}{F H:Hp}{ρ:Rho}{Q:aa->ab->Prop}(S:StOk (kx X) F0 H0 F H ρ σ)(I:"I" H s)
  (h:KE (XP X F0 H0) (eOp g fa fb ρ) λw=>∀ v u F' H' s',Gr F H F' H'->Vok (kx X) H F' H' v w->RelV v u->"I" H' s'->Q u s')
  (U:∀ s F H x y v u dx dy Q,"I" H s->Le F H->RelV x v->RelV y u->RdV (kx X) F H x dx->RdV (kx X) F H y dy->Wish X F H (g dx dy) Q ->
   X[3] (f v u) (EP X pins σ Q) X.xe s) :
  X[3] (eval a X.env) (λv z=>X[3] (eval b X.env) (λu s₂=>X[3] (f v u) Q X.xe s₂) X.xe z) X.xe s:=by
 exact B pins s σ F H ρ _ S I ((KE.bind h).imp λwx h1 v u F1 H1 s1 g1 q1 r1 I1=>(O pins s1 σ F1 H1 ρ _ (S.grow g1) I1 ((KE.bind h1).imp λwy h2 v2 u2 F2 H2 s2 g2 q2 r2 I2=>(vz (U s2 F2 H2 v v2 u u2 wx.d wy.d _ I2 g2.s r1 r2 (RdV.gr g2 (Vok.rd q1)) (Vok.rd q2) (yA (g1.trans g2) h2))))))
def qq(z:OpD X (binaryOp op) g)(B:"S" a fa)(O:"S" b fb):"S" (.BinOp a op b pos) (eOp g fa fb) :=
 λpins s σ F H ρ Q S I h=>wpAny_BinOp (two B O S I h λs F H x y v u dx dy Q=>z pins s σ F H x y v u dx dy Q)
def wA(z:OpD X (compareOp op) g)(B:"S" a fa)(O:"S" b fb)(U:behindInMarks op b=false:=by first|exact WK _ "d" "d"|rfl) :
  "S" (.Compare a [op] [b] pos) (eOp g fa fb) :=
 λpins s σ F H ρ Q S I h=>wpAny_Compare1 (two B O S I h λs F H x y v u dx dy Q=>z pins s σ F H x y v u dx dy Q) U
def jn{Q:VK}(s:Le F H)(h:Wish X F H (.ok d[8]) Q)(r:Rep (kx X) F v d):Q v H:=h v F H (Gr.refl s) r
def vA(z:OpR X f r)
  (h:∀ F H x y dx dy Q,Le F H->RdV (kx X) F H x dx->RdV (kx X) F H y dy->Wish X F H (g dx dy) Q->r x y H Q):OpD X f g :=
 λpins s σ F H x y v u dx dy Q I l rx ry qx qy w=>z pins s σ H x y v u Q I rx ry (h F H x y dx dy Q l qx qy w)
def jP:OpD X (binaryOp .Sub) qZ:=vA Tp λF H x y dx dy Q l qx qy w=>by
 cases dx<;>first|exact w.elim|skip
 cases dy<;>first|exact w.elim|skip
 exact#[_,_,RdV.int qx,RdV.int qy,jn l w rfl]
def vC:OpD X (binaryOp .Mult) jN:=vA Tq λF H x y dx dy Q l qx qy w=>by
 cases dx<;>first|exact w.elim|skip
 cases dy<;>first|exact w.elim|skip
 rename_i i j;unfold jN at w;dsimp only at w;by_cases c:(fits b64 i||fits b64 j)=true
 .rw[if_pos c]at w;have c:(-(2 ^ 64)<i/\i<2 ^ 64)\/(-(2 ^ 64)<j/\j<2 ^ 64):=by
   rw[Bool.or_eq_true,fits_iff,fits_iff]at c;lia
  exact#[_,_,RdV.int qx,RdV.int qy,c,jn l w rfl]
 rw[if_neg c]at w;exact w.elim
def yB:OpD X (binaryOp .Mod) vy:=vA Tt λF H x y dx dy Q l qx qy w=>by
 cases dx<;>first|exact w.elim|skip
 cases dy<;>first|exact w.elim|skip
 rename_i i j;unfold vy at w;dsimp only at w;by_cases c:0<j
 .rw[if_pos c]at w;exact#[_,_,RdV.int qx,RdV.int qy,c,jn l w rfl]
 rw[if_neg c]at w;exact w.elim
def kE:OpD X (binaryOp .FloorDiv) vN:=vA Ts λF H x y dx dy Q l qx qy w=>by
 cases dx<;>first|exact w.elim|skip
 cases dy<;>first|exact w.elim|skip
 rename_i i j;unfold vN at w;dsimp only at w;by_cases c:0<j/\j<1073741824
 .rw[if_pos c]at w;exact#[_,_,RdV.int qx,RdV.int qy,c,jn l w rfl]
 rw[if_neg c]at w;exact w.elim
def vn:OpD X (compareOp .Lt) dLt:=vA Tw λF H x y dx dy Q l qx qy w=>by
 cases dx<;>first|exact w.elim|skip
 cases dy<;>first|exact w.elim|skip
 exact#[_,_,RdV.int qx,RdV.int qy,jn l w rfl]
def vU:OpD X (compareOp .LtE) dLe:=vA Tx λF H x y dx dy Q l qx qy w=>by
 cases dx<;>first|exact w.elim|skip
 cases dy<;>first|exact w.elim|skip
 exact#[_,_,RdV.int qx,RdV.int qy,jn l w rfl]
def Zh:OpD X (compareOp .Gt) dGt:=vA Tz λF H x y dx dy Q l qx qy w=>by
 cases dx<;>first|exact w.elim|skip
 cases dy<;>first|exact w.elim|skip
 exact#[_,_,RdV.int qx,RdV.int qy,jn l w rfl]
end
mutual
def toPy:D->PyData
 | .non=>.none|.bl b=>.bool b|.int i=>.int i|.str x=>.str x
 | .tup xs=>.tuple (jY xs)|.lst xs=>.list (jY xs)
 | _=>.none
def jY:List D->List PyData
 | []=>[]
 | x::xs=>toPy x::jY xs
end
mutual
theorem Qn:∀(n m:Nat) (a b:D),qw n a=true->qw m b=true->PyData.eqv (toPy a) (toPy b)=deq a b
 | n,m,a,b,ha,hb=>by
  cases a<;>cases b<;>first
   | rfl
   | (simp[qw]at ha;done)
   | (simp[qw]at hb;done)
   | skip
  .rename_i xs ys;cases n with
   | zero=>simp[qw]at ha
   | succ n =>
    cases m with
    | zero=>simp[qw]at hb
    | succ m=>exact Zi n m xs ys ha hb
  rename_i xs ys;cases n with
  | zero=>simp[qw]at ha
  | succ n =>
   cases m with
   | zero=>simp[qw]at hb
   | succ m=>exact Zi n m xs ys ha hb
theorem Zi:∀(n m:Nat) (a b:List D),a.all (qw n)=true->b.all (qw m)=true->PyData.eqvAll (jY a) (jY b)=deqs a b
 | _,_,[],[],_,_=>rfl
 | _,_,[],_::_,_,_=>rfl
 | _,_,_::_,[],_,_=>rfl
 | n,m,x::xs,y::ys,ha,hb=>by
  rw[fU,gZ]at ha hb;show(PyData.eqv (toPy x) (toPy y)&&PyData.eqvAll (jY xs) (jY ys))=(deq x y&&deqs xs ys);rw[Qn n m x y ha.1 hb.1,Zi n m xs ys ha.2 hb.2]
end
theorem Ya(x)(n m)(z:qw n x=true):∀ ys,ys.all (qw m)=true->((jY ys).any λy=>PyData.eqv y (toPy x))=din x ys
 | [],_=>rfl
 | y::ys,h=>by
  rw[fU,gZ]at h;show(PyData.eqv (toPy y) (toPy x)||(jY ys).any λy=>PyData.eqv y (toPy x))=(deq y x||din x ys)
  rw[Qn m n y x h.1 z,Ya x n m z ys h.2]
theorem wW:∀ n d,qw n d=true->(toPy d).canLay0=true/\(toPy d).depth<=n
 | n,.non,_=>#[rfl,tJ _]
 | n,.bl _,_=>#[rfl,tJ _]
 | n,.int _,_=>#[rfl,tJ _]
 | n,.str x,h=>#[by cases n<;>exact h,tJ _]
 | 0,.tup _,h=>by simp[qw]at h
 | 0,.lst _,h=>by simp[qw]at h
 | n+1,.tup xs,h=>by
  have k:∀ ys,ys.all (qw n)=true->PyData.canLayAll0 (jY ys)=true/\PyData.depthAll (jY ys)<=n:=by
   intro ys
   induction ys with
   | nil=>intro _;exact#[rfl,tJ _]
   | cons y ys ih =>
    intro hy;rw[fU,gZ]at hy;obtain⟨a1,a2⟩:=wW n y hy.1;obtain⟨b1,b2⟩:=ih hy.2;refine#[?_,?_]
    .show((toPy y).canLay0&&PyData.canLayAll0 (jY ys))=true;rw[a1,b1];rfl
    show max (toPy y).depth (PyData.depthAll (jY ys))<=n;lia
  obtain⟨k1,k2⟩:=k xs h;exact#[k1,Nat.succ_le_succ k2]
 | n+1,.lst xs,h=>by
  have k:∀ ys,ys.all (qw n)=true->PyData.canLayAll0 (jY ys)=true/\PyData.depthAll (jY ys)<=n:=by
   intro ys
   induction ys with
   | nil=>intro _;exact#[rfl,tJ _]
   | cons y ys ih =>
    intro hy;rw[fU,gZ]at hy;obtain⟨a1,a2⟩:=wW n y hy.1;obtain⟨b1,b2⟩:=ih hy.2;refine#[?_,?_]
    .show((toPy y).canLay0&&PyData.canLayAll0 (jY ys))=true;rw[a1,b1];rfl
    show max (toPy y).depth (PyData.depthAll (jY ys))<=n;lia
  obtain⟨k1,k2⟩:=k xs h;exact#[k1,Nat.succ_le_succ k2]
 | n,.dK _,h=>by cases n<;>simp[qw]at h
 | n,.dT _,h=>by cases n<;>simp[qw]at h
 | n,.xc _ _,h=>by cases n<;>simp[qw]at h
section
variable{X:Cx}{pins:List (Addr×Obj)}{σ:St}{F H:Hp}{s:ab}
mutual
theorem Zj(I:"I" H s)(l:Le F H):∀(n:Nat) (d:D) {v:V} {u:aa},qw n d=true->Rep (kx X) F v d->RelV v u->∃ as,Reads s.heap u (toPy d) as
 | _,.non,v,u,_,r,q=>by cases (show v=.non from r);cases (show u=Value.none from q);exact#[_,.none]
 | _,.bl b,v,u,_,r,q=>by cases (show v=.bl b from r);cases (show u=Value.bool b from q);exact#[_,.bool b]
 | _,.int i,v,u,_,r,q=>by cases (show v=.int i from r);obtain⟨t,rfl⟩:=(show ∃ t,u=Value.int i t from q);exact#[_,.int i t]
 | _,.str x,v,u,_,r,q=>by cases (show v=.str x from r);obtain⟨t,rfl⟩:=(show ∃ t,u=Value.str x t from q);exact#[_,.str x t]
 | 0,.tup _,_,_,h,_,_=>by simp[qw]at h
 | 0,.lst _,_,_,h,_,_=>by simp[qw]at h
 | n+1,.tup ds,v,u,h,r,q=>by
  obtain⟨a,vs,rfl,hq,rs⟩:=r;cases (show u=Value.ref a from q)
  obtain⟨its,rv,⟨o,e1,e2,m,e3⟩,hz⟩:=I.tuple (SqT.le l hq);obtain⟨as,hr⟩:=Qo I l n ds h rs rv;exact#[_,.tuple e1 e2 e3 hr[""]]
 | n+1,.lst ds,v,u,h,r,q=>by
  obtain⟨a,vs,rfl,hq,rs⟩:=r;cases (show u=Value.ref a from q)
  obtain⟨its,rv,⟨o,m,e1,e2,_,e3⟩,hz⟩:=I.list (SqL.le l hq);obtain⟨as,hr⟩:=Qo I l n ds h rs rv;exact#[_,.list e1 e2 e3 hr[""]]
 | n,.dK _,_,_,h,_,_=>by cases n<;>simp[qw]at h
 | n,.dT _,_,_,h,_,_=>by cases n<;>simp[qw]at h
 | n,.xc _ _,_,_,h,_,_=>by cases n<;>simp[qw]at h
theorem Qo(I:"I" H s)(l:Le F H):∀(n:Nat) (ds:List D) {vs:List V} {us:List aa},ds.all (qw n)=true->Reps (kx X) F vs ds->Vals vs us->∃ as,ReadsAll s.heap us (jY ds) as
 | n,[],vs,us,_,r,q=>by
  cases (show vs=[]from r)
  cases q;exact#[_,.nil]
 | n,d::ds,vs,us,h,r,q=>by
  obtain⟨v,r',rfl,r1,r2⟩:=r;rw[fU,gZ]at h;cases q with
  | cons q1 q2 =>
   obtain⟨as,h1⟩:=Zj I l n d h.1 r1 q1;obtain⟨bs,h2⟩:=Qo I l n ds h.2 r2 q2;exact#[_,.cons h1 h2]
end
def kG(I:"I" H s)(l:Le F H){n:Nat}(h:qw n d=true)(r:RdV (kx X) F H v d)(q:RelV v u):∃ as,Reads s.heap u (toPy d) as:=by
 rcases r with r|⟨a,o,rfl,e2,r⟩
 .exact Zj I l n d h r q
 cases d with
 | lst ds =>
  cases n with
  | zero=>simp[qw]at h
  | succ n =>
   cases o with
   | lst vs =>
    cases (q);obtain⟨its,rv,⟨o,m,e1,e2,_,e3⟩,hz⟩:=I.list (SqL.of e2);obtain⟨as,hr⟩:=Qo I l n ds h r rv;exact#[_,.list e1 e2 e3 hr[""]]
   | _=>exact r.elim
 | _=>exact Zj I l n _ h (RdV.flat (.inr #[a,o,rfl,e2,r]) (λ_ e=>nomatch e) (λ_ e=>by cases e<;>(cases n<;>simp[qw]at h)) λ_ e=>by cases e<;>(cases n<;>simp[qw]at h)) q
end
section
variable{X:Cx}{F0 H0:Hp}
def zz(z:X.A.units+10<cLine):OpD X (compareOp .Eq) dEq:=by
 intro pins s σ F H x y v u dx dy Q I l rx ry qx qy w;unfold dEq at w;by_cases c:(eqok dx&&eqok dy)=true
 .rw[if_pos c]at w;rw[gZ]at c;obtain⟨as,h1⟩:=kG I l c.1 qx rx;obtain⟨bs,h2⟩:=kG I l c.2 qy ry;obtain⟨a1,a2⟩:=wW 8 dx c.1;obtain⟨b1,b2⟩:=wW 8 dy c.2;refine SeqAt.compareEq_reads h1 h2 a1 b1 "" ?_
  rw[Qn 8 8 dx dy c.1 c.2];exact#[.bl _,H,I,rfl,jn l w rfl]
 rw[if_neg c]at w;exact w.elim
def kH(z:X.A.units+10<cLine):OpD X (compareOp .NotEq) dNe:=by
 intro pins s σ F H x y v u dx dy Q I l rx ry qx qy w;unfold dNe at w;by_cases c:(eqok dx&&eqok dy)=true
 .rw[if_pos c]at w;rw[gZ]at c;obtain⟨as,h1⟩:=kG I l c.1 qx rx;obtain⟨bs,h2⟩:=kG I l c.2 qy ry;obtain⟨a1,a2⟩:=wW 8 dx c.1;obtain⟨b1,b2⟩:=wW 8 dy c.2;refine SeqAt.compareNe_reads h1 h2 a1 b1 "" ?_
  rw[Qn 8 8 dx dy c.1 c.2];exact#[.bl _,H,I,rfl,jn l w rfl]
 rw[if_neg c]at w;exact w.elim
theorem RepK.look:∀{kds:List (Sum Int Str×D)} {kvs:List (Key×V)} (k:Key),RepK κ F kvs kds->(∃ v d,js kvs k=!v/\look k kds=!d/\Rep κ F v d)\/(js kvs k=none/\look k kds=none)
 | [],_,k,h=>by cases (h);exact .inr #[rfl,rfl]
 | (q,d)::r,_,k,h=>by
  obtain⟨v,kr,rfl,h1,h2⟩:=h;by_cases e:q=k
  .refine .inl #[v,d,?_,?_,h1]
   .simp[js,e]
   simp[L3.look,e]
  rcases RepK.look k h2 with⟨v',d',a,b,c⟩|⟨a,b⟩
  .refine .inl #[v',d',?_,?_,c]
   .simpa[js,e]using a
   simpa[L3.look,e]using b
  refine .inr #[?_,?_]
  .simpa[js,e]using a
  simpa[L3.look,e]using b
theorem RepK.length:∀{kds} {kvs},RepK κ F kvs kds->kvs[1]=kds[1]
 | [],_,h=>by cases (h);rfl
 | (q,d)::r,_,h=>by
  obtain⟨v,kr,rfl,h1,h2⟩:=h;simp[RepK.length h2]
def Inv.dictK{s:ab}(I:"I" H s)(h:SqK (kx X) H a kvs) :
  (a==sysModules)=false/\∃ vs,KV kvs vs/\s.heap.DictOf (je X.prog X.w) a vs:=by
 rcases h with h|⟨hs,o,es,ep,vs,hk,h1,h2,h3,h4,h5,h6⟩
 .obtain⟨_,hd,vs,z,dd⟩:=Qj I.hok h;exact#[hd,vs,z,dd]
 exact#[hs,vs,h6,o,es,ep,I.kIn a o hk,h1,h2,h3,h4,h5]
def Zk(e:zm d=!k)(r:RdV κ F H v d)(q:RelV v u):RelV (kV k) u:=by
 cases d with
 | int i=>cases e;cases RdV.int r;exact q
 | str x=>cases e;cases RdV.str r;exact q
 | _=>cases e
def IxD(X:Cx)(g:D->D->R En):Prop :=
 ∀(value z:Expr) (pins:List (Addr×Obj)) (s:ab) (σ:St) (F H:Hp) (x y:V) (v u:aa) (dx dy:D) (Q:VK),"I" H s->Le F H->RelV x v->RelV y u->RdV (kx X) F H x dx->RdV (kx X) F H y dy->Wish X F H (g dx dy) Q ->
  subscripted z false v u=operate [v,u] (getItem v u)->X[3] (subscriptTail value z v u) (EP X pins σ Q) X.xe s
variable{a b:Expr}{fa fb:EF}{pos:Pos}{g:D->D->R En}
def Qp(z:IxD X g)(B:"S" a fa)(O:"S" b fb)(U:yv b:=by exact λ_ _=>rfl):"S" (.Subscript a b pos) (eOp g fa fb) :=
 λpins s σ F H ρ Q S I h=>Subscript_ (two B O S I h λs F H x y v u dx dy Q I l rx ry qx qy w=>z a b pins s σ F H x y v u dx dy Q I l rx ry qx qy w (U _ _))
def Yb{xs:List α}{ys:List β}(h:xs[1]=ys[1]){i:Int}{x:α}(e:ati xs i=!x):∃ j:Nat,xs[j]?=!x/\∀ y,ys[j]?=!y->atI ys i=!y:=by
 unfold ati at e;cases q:ixn xs[1] i with
 | none=>rw[q]at e;cases e
 | some j =>
  rw[q]at e;refine#[j,e,λy hy=>?_]
  unfold atI;have:ixN ys[1] i=!j:=by rw[<- h];exact q
  rw[this];exact hy
def qc:D->D->R En
 | .lst xs,.int i=>okD (ati xs i)
 | .tup xs,.int i=>okD (ati xs i)
 | _,_=>.stuck
def Yc:IxD X qc:=by
 intro value B pins s σ F H x y v u dx dy Q I l rx ry qx qy w hs;cases dx<;>first|exact w.elim|skip
 .rename_i ds;cases dy<;>first|exact w.elim|skip
  rename_i i;unfold qc at w;dsimp only at w;cases e:ati ds i with
  | none=>rw[e]at w;exact w.elim
  | some d =>
   rw[e]at w;obtain⟨p,vs,rfl,hq,_,rs⟩:=RdV.tup l qx;obtain⟨j,ej,k⟩:=Yb (Reps.length rs).symm e;obtain⟨z,ez,rz⟩:=Reps.get rs ej;exact qad value B pins s σ H _ _ v u Q I rx ry #[p,vs,i,z,rfl,RdV.int qy,hq,k z ez,jn l w rz] hs
 rename_i ds;cases dy<;>first|exact w.elim|skip
 rename_i i;unfold qc at w;dsimp only at w;cases e:ati ds i with
 | none=>rw[e]at w;exact w.elim
 | some d =>
  rw[e]at w;obtain⟨p,vs,rfl,hq,rs⟩:=RdV.lst l qx;obtain⟨j,ej,k⟩:=Yb (Reps.length rs).symm e;obtain⟨z,ez,rz⟩:=Reps.get rs ej;exact ix_list value B pins s σ H _ _ v u Q I rx ry #[p,vs,i,z,rfl,RdV.int qy,hq,k z ez,jn l w rz] hs
def qm(z:"S" a fa)(B:"S" b fb)(O:yv b:=by exact λ_ _=>rfl):"S" (.Subscript a b pos) (eOp qc fa fb):=Qp Yc z B O
def kI:D->D->R En
 | .dK kvs,k=>(match zm k with|some q=>okD (look q kvs)|none=>.stuck)
 | _,_=>.stuck
def qaT:IxD X kI:=by
 intro value B pins s σ F H x y v u dx dy Q I l rx ry qx qy w hs;cases dx<;>first|exact w.elim|skip
 unfold kI at w;dsimp only at w;cases e:zm dy with
 | none=>rw[e]at w;exact w.elim
 | some k =>
  rw[e]at w;dsimp only at w;obtain⟨p,kvs,rfl,hq,rk⟩:=RdV.dK l qx;cases (rx);obtain⟨hd,vs,O,dd⟩:=Inv.dictK I hq;rcases RepK.look k rk with⟨z,d,a1,a2,rz⟩|⟨_,a2⟩
  .rw[a2]at w;obtain⟨w',hw,U⟩:=RelO.some_of (by rw[<- a1];exact O.val k)
   exact tail_any dd.typeIs PySem.F.slot_dict_getitem.lookup (wpAny_getItem_of (ky (Zk e qy ry)) dd.mapOf hw #[z,H,I.tok _,U,jn l w rz]) hs
  rw[a2]at w;exact w.elim
def Yd(z:"S" a fa)(B:"S" b fb)(O:yv b:=by exact λ_ _=>rfl):"S" (.Subscript a b pos) (eOp kI fa fb):=Qp qaT z B O
def qh:SA X F0 H0 [] []:=λpos pins s σ F H ρ Q S I h=>tL (h [] [] F H s (Gr.refl S.s) rfl .nil I)
def qb{f:EF}{r:List EF}(z:"S" e f)(B:SA X F0 H0 es r)(O:(starEach (e::es) X.env=(false,eval e X.env)::starEach es X.env)["r"]):SA X F0 H0 (e::es) (f::r):=by
 intro pos pins s σ F H ρ Q S I h;rw[O];exact hZ (z pins s σ F H ρ _ S I ((KE.bind h).imp λw h1 v u F1 H1 s1 g1 q1 r1 I1=>(B pos pins s1 σ F1 H1 ρ _ (S.grow g1) I1 ((KE.bind h1).imp λws h2 vs us F2 H2 s2 g2 q2 r2 I2=>(h2 (v::vs) (u::us) F2 H2 s2 (g1.trans g2) #[v,vs,rfl,Vok.gr g2 q1,Voks.older (λa e=>Le.none g1.h e) q2] (.cons r1 r2) I2)))))
def zY:sz=sizeLine:=pG.symm
def qaU{F H F1 H1:Hp}(s:Le F H)(g:Gr F H F1 H1)(hp:H1 p=none)(r:Reps (kx X) (jG H F1 H1) vs ds) :
  Gr F H (jG H F1 H1) (upd H1 p (.lst vs))/\Vok (kx X) H (jG H F1 H1) (upd H1 p (.lst vs)) (.ref p) (.lst ds)[9]:=by
 obtain⟨g2,_⟩:=vm s g;exact#[(g2.trans (Gr.new g2.s hp)),p,_,rfl,Le.none g.h hp,Le.none g2.s hp,qL,r]
def qaV{F H F1 H1:Hp}(s:Le F H)(g:Gr F H F1 H1)(hp:H1 p=none)(r:Reps (kx X) (jG H F1 H1) vs ds) :
  Gr F H (upd (jG H F1 H1) p (.tup vs)) (upd H1 p (.tup vs))/\Vok (kx X) H (upd (jG H F1 H1) p (.tup vs)) (upd H1 p (.tup vs)) (.ref p) (.tup ds)[8]:=by
 obtain⟨g2,_⟩:=vm s g;have g3:=Gr.newF (o:=.tup vs) g2.s hp;exact#[g2.trans g3,p,vs,rfl,SqT.of qL,Reps.le g3.f _ r]
def jD(h:SA X F0 H0 es f):"S" (.List es pos) (jg f):=by
 refine λpins s σ F H ρ Q S I k=>wpAny_List_spliced (h pos pins s σ F H ρ _ S I ((KE.bind k).imp λws k1 vs us F1 H1 s1 g1 q1 r1 I1=>?_))
 cases e:stAll ws with
 | exc x=>rw[e]at k1;exact k1.elim
 | stuck=>rw[e]at k1;cases k1
 | ok ds =>
  rw[e]at k1;have rs:=Voks.stAll S.s g1 q1 e;by_cases c:ds[1]<=sz
  .have k2:KE (XP X F0 H0) (R.ok (En.ow (.lst ds))) λw=>∀ v u F' H' s',Gr F H F' H'->Vok (kx X) H F' H' v w->RelV v u->"I" H' s'->Q u s':=by
    simpa[if_pos c]using k1
   have hz:vs[1]<=sizeLine:=by rw[Reps.length rs];exact c
   refine#[by rw[<- r1[1]];exact hz,?_]
   obtain⟨g3,q3⟩:=qaU S.s g1 (I1.hok.fresh (gw _)) rs;exact k2 _ _ _ _ _ g3 q3 rfl (I1.laid (λb u e=>gq _ e) (gw _) #[hz,us,0,r1,gM _ rfl])
  have:False:=by simpa[if_neg c,KE]using k1
  cases this
def zJ(h:SA X F0 H0 es f):"S" (.Tuple es x1 pos) (ju f):=by
 refine λpins s σ F H ρ Q S I k=>bC (h pos pins s σ F H ρ _ S I ((KE.bind k).imp λws k1 vs us F1 H1 s1 g1 q1 r1 I1=>?_))
 cases e:stAll ws with
 | exc x=>rw[e]at k1;exact k1.elim
 | stuck=>rw[e]at k1;cases k1
 | ok ds =>
  rw[e]at k1;have rs:=Voks.stAll S.s g1 q1 e;by_cases c:ds[1]<=sz
  .have k2:KE (XP X F0 H0) (R.ok (En.fz (.tup ds))) λw=>∀ v u F' H' s',Gr F H F' H'->Vok (kx X) H F' H' v w->RelV v u->"I" H' s'->Q u s':=by
    simpa[if_pos c]using k1
   have hz:vs[1]<=sizeLine:=by rw[Reps.length rs];exact c
   refine#[by rw[<- r1[1]];exact hz,?_]
   obtain⟨g3,q3⟩:=qaV S.s g1 (I1.hok.fresh (gw _)) rs;exact k2 _ _ _ _ _ g3 q3 rfl (I1.laid (λb u e=>gq _ e) (gw _) #[hz,us,r1,#[_,gM _ rfl,rfl,_,rfl]])
  have:False:=by simpa[if_neg c,KE]using k1
  cases this
variable{x:Str}{e:Expr}{es:List Expr}{p:Pos}{id T:String}{gc:List D->R En}{f:List EF}
def jv(O:zX X (.builtin id) gc)(U:X.mg x=none)(Y:bootBuiltins x=!(.builtin id))(Z:SA X F0 H0 (e::es) f)(hg:(Gl X x)["r"])(hn:(x≠"__name__")["d"])(z:((x==("__debug__"))=false)["d"])
  (he:(starEach (e::es) X.env=(false,eval e X.env)::starEach es X.env)["r"])(B:((backTo pos (starEach es X.env)).any (·.1)=false)["r"]):"S" (.Call (.Name x p) (e::es) [] pos) (eB gc f):=by
 exact λpins s σ F H ρ Q S I h=>fC (zH I hg U Y (cL (Z pos pins s σ F H ρ _ S I ((KE.bind h).imp λws h1 vs us F1 H1 s1 g1 q1 r1 I1=>(vz (O pins s1 σ F1 H1 vs us _ _ I1 g1.s r1 (Voks.rd q1) (yA g1 h1))))) he B) hn z)
def kJ(O:zX X (.type T) gc)(U:X.mg x=none)(Y:bootBuiltins x=!(.type T))(Z:SA X F0 H0 (e::es) f)(hg:(Gl X x)["r"])(hn:(x≠"__name__")["d"])(z:((x==("__debug__"))=false)["d"])
  (he:(starEach (e::es) X.env=(false,eval e X.env)::starEach es X.env)["r"])(B:((backTo pos (starEach es X.env)).any (·.1)=false)["r"]):"S" (.Call (.Name x p) (e::es) [] pos) (eB gc f):=by
 exact λpins s σ F H ρ Q S I h=>fC (zH I hg U Y (tw (Z pos pins s σ F H ρ _ S I ((KE.bind h).imp λws h1 vs us F1 H1 s1 g1 q1 r1 I1=>(vz (O pins s1 σ F1 H1 vs us _ _ I1 g1.s r1 (Voks.rd q1) (yA g1 h1))))) he B) hn z)
def kK(z:yu X fv r)(h:∀ F H xs ds Q,Le F H->Paired (RdV (kx X) F H) xs ds->Wish X F H (gc ds) Q->r xs H Q):zX X fv gc :=
 λpins s σ F H xs us ds Q I l rx qx w=>z pins s σ H xs us Q I rx (h F H xs ds Q l qx w)
def qaW:List D->R En
 | [.lst xs]=>okI xs[1]
 | [.tup xs]=>okI xs[1]
 | _=>.stuck
def Ye:zX X (.builtin "len") qaW:=kK qam λF H xs ds Q l qx w=>by
 cases qx with
 | nil=>exact w.elim
 | @cons x d xs ds q1 q2 =>
  cases q2 with
  | cons _ _=>cases d<;>exact w.elim
  | nil =>
   cases d<;>first|exact w.elim|skip
   .obtain⟨p,vs,rfl,hq,_,rs⟩:=RdV.tup l q1;refine#[p,vs,rfl,.inr hq,?_];rw[Reps.length rs];exact jn l w rfl
   obtain⟨p,vs,rfl,hq,rs⟩:=RdV.lst l q1;refine#[p,vs,rfl,.inl hq,?_];rw[Reps.length rs];exact jn l w rfl
def Zl:zX X (.type "list") xQ:=kK qan λF H xs ds Q l qx w=>by
 cases qx with
 | nil=>exact w.elim
 | @cons x d xs ds q1 q2 =>
  cases q2 with
  | cons _ _=>cases d<;>exact w.elim
  | nil =>
   cases d<;>first|exact w.elim|skip
   .obtain⟨p,vs,rfl,hq,_,rs⟩:=RdV.tup l q1;exact#[p,vs,rfl,.inr hq,λq hn=>(w _ _ _ (Gr.new l hn) #[q,_,rfl,hn,Le.none l hn,qL,rs])]
   obtain⟨p,vs,rfl,hq,rs⟩:=RdV.lst l q1;exact#[p,vs,rfl,.inl hq,λq hn=>(w _ _ _ (Gr.new l hn) #[q,_,rfl,hn,Le.none l hn,qL,rs])]
end
section
variable{X:Cx}{F0 H0:Hp}{a b e:Expr}{fa fb f:EF}{pos:Pos}{g:D->D->R En}{t u:TF}
def Yf{σ:St}{F H:Hp}{x:V}{v:aa}{d:D}{Q:Bool->ab->Prop}(I:"I" H s)(l:Le F H)(z:RelV x v)(q:RdV (kx X) F H x d)
  (h:KE (XP X F0 H0) (kC d) λb=>∀ s',"I" H s'->Q b s'):X[3] (truthy v) Q X.xe s:=by
 have go:∀ b,TruV X.K x H b->(∀ s',"I" H s'->Q b s')->X[3] (truthy v) Q X.xe s:=λb tv k =>
  thn (TJ pins s σ H x v (λb' H'=>b'=b/\H'=H) I z #[b,tv,rfl,rfl]) λb' s' #[H',I',eb,eh]=>by
   simp_all
 cases d with
 | non=>cases RdV.non q;exact go false rfl h
 | bl b=>cases RdV.bl q;exact go b rfl h
 | int i=>cases RdV.int q;exact go (i != 0) rfl h
 | str y =>
  cases RdV.str q;unfold kC at h;dsimp only at h;by_cases c:y[1]<=sz
  .rw[if_pos c]at h;exact go _ #[by rw[<- zY];exact c,rfl] h
  rw[if_neg c]at h;exact h.elim
 | tup ds =>
  obtain⟨p,vs,rfl,hq,_,rs⟩:=RdV.tup l q;refine go (not ds.isEmpty) (.inr (.inl #[vs,hq,?_])) h;have:=Reps.length rs
  grind
 | lst ds =>
  obtain⟨p,vs,rfl,hq,rs⟩:=RdV.lst l q;refine go (not ds.isEmpty) (.inl #[vs,hq,?_]) h;have:=Reps.length rs
  grind
 | dK _=>exact h.elim
 | dT _=>exact h.elim
 | xc _ _=>exact h.elim
def qT(z:OpD X (compareOp op) g)(B:"S" a fa)(O:"S" b fb)(U:behindInMarks op b=false:=by first|exact WK _ "d" "d"|rfl) :
  ST X F0 H0 (.Compare a [op] [b] pos) (tE (eOp g fa fb)):=by
 exact λpins s σ F H ρ Q S I h=>wpAny_isTrue_Compare1 (two B O S I ((KE.bind h).imp λw h1 v u F' H' s' g' q r I'=>(Yf I' g'.s r (Vok.rd q) (h1.imp λb k s2 I2=>k F' H' s2 g' I2))) λs F H x y v u dx dy Q=>z pins s σ F H x y v u dx dy Q) U
def jQ(B:"S" e f)(hp:∀ z,isTrue e X.env z=(do let v <- z;standAt e.pos;holding [v] (truthy v)):=by intro _;rfl):ST X F0 H0 e (tE f):=by
 exact λpins s σ F H ρ Q S I h=>isTrue_plain (B pins s σ F H ρ _ S I ((KE.bind h).imp λw h1 v u F' H' s' g' q r I'=>(Yf I' g'.s r (Vok.rd q) (h1.imp λb k s2 I2=>k F' H' s2 g' I2)))) (hp _)
def vq(z:ST X F0 H0 a t):ST X F0 H0 (.UnaryOp .Not a pos) (jO t):=by
 exact λpins s σ F H ρ Q S I h=>isTrue_not (z pins s σ F H ρ _ S I ((KE.bind h).imp λb k F' H' s' g' I'=>k F' H' s' g' I'))
variable{rest:List Expr}
def xW(z:ST X F0 H0 a t):SW X F0 H0 (.BoolOp .And [a] pos) t:=by
 refine λwh pins s σ F H ρ Q S I h=>isTrue_and (z pins s σ F H ρ _ S I (h.imp λc k F' H' s' g' I'=>?_))
 cases c with
 | true=>exact isTrue_and_nil (k F' H' s' g' I')
 | false=>exact k F' H' s' g' I'
def yC(z:ST X F0 H0 a t):SW X F0 H0 (.BoolOp .Or [a] pos) t:=by
 refine λwh pins s σ F H ρ Q S I h=>isTrue_or (z pins s σ F H ρ _ S I (h.imp λc k F' H' s' g' I'=>?_))
 cases c with
 | false=>exact isTrue_or_nil (k F' H' s' g' I')
 | true=>exact k F' H' s' g' I'
def Yg{σ:St}{Q:Bool->ab->Prop}(g':Gr F H F' H'){r:R Bool}(h:KE (XP X F0 H0) r λb=>∀ F2 H2 s2,Gr F H F2 H2->"I" H2 s2->Q b s2) :
  KE (XP X F0 H0) r λb=>∀ F2 H2 s2,Gr F' H' F2 H2->"I" H2 s2->Q b s2:=h.imp λb k F2 H2 s2 g2 I2=>k F2 H2 s2 (g'.trans g2) I2
def kL(z:ST X F0 H0 a t)(B:SW X F0 H0 (.BoolOp .And (b::rest) pos) u):SW X F0 H0 (.BoolOp .And (a::b::rest) pos) (zW t u):=by
 refine λwh pins s σ F H ρ Q S I h=>isTrue_and (z pins s σ F H ρ _ S I ((KE.bind h).imp λc k F' H' s' g' I'=>?_))
 cases c with
 | true=>exact B wh pins s' σ F' H' ρ Q (S.grow g') I' (Yg g' k)
 | false=>exact k F' H' s' g' I'
def wX(z:ST X F0 H0 a t)(B:SW X F0 H0 (.BoolOp .Or (b::rest) pos) u):SW X F0 H0 (.BoolOp .Or (a::b::rest) pos) (tOr t u):=by
 refine λwh pins s σ F H ρ Q S I h=>isTrue_or (z pins s σ F H ρ _ S I ((KE.bind h).imp λc k F' H' s' g' I'=>?_))
 cases c with
 | false=>exact B wh pins s' σ F' H' ρ Q (S.grow g') I' (Yg g' k)
 | true=>exact k F' H' s' g' I'
def st_w(h:SW X F0 H0 e t):ST X F0 H0 e t:=h _
def Zm{σ:St}{Q:aa->ab->Prop}(g':Gr F H F' H'){r:R En}
  (h:KE (XP X F0 H0) r λw=>∀ v u F2 H2 s2,Gr F H F2 H2->Vok (kx X) H F2 H2 v w->RelV v u->"I" H2 s2->Q u s2) :
  KE (XP X F0 H0) r λw=>∀ v u F2 H2 s2,Gr F' H' F2 H2->Vok (kx X) H' F2 H2 v w->RelV v u->"I" H2 s2->Q u s2 :=
 h.imp λw k v u F2 H2 s2 g2 q r I2=>k v u F2 H2 s2 (g'.trans g2) (Vok.older (λa e=>Le.none g'.h e) q) r I2
def Zn(q:RdV (kx X) F H x d)(r:RelV x v)(h:KE (XP X F0 H0) (isB d) P):∃ b,v=.bool b/\P b:=by
 cases d<;>first|exact h.elim|skip
 cases RdV.bl q;cases r;exact#[_,rfl,h]
def Qq{op}(h:"S" a fa):"S" (.BoolOp op [a] pos) fa:=λpins s σ F H ρ Q S I k=>BoolOp_one (h pins s σ F H ρ Q S I k)
def xX(z:"S" a fa)(B:"S" (.BoolOp .And (b::rest) pos) fb):"S" (.BoolOp .And (a::b::rest) pos) (yw fa fb):=by
 refine λpins s σ F H ρ Q S I h=>BoolOp_and (z pins s σ F H ρ _ S I ((KE.bind h).imp λw h1 v u F' H' s' g' q r I'=>?_))
 obtain⟨c,rfl,h2⟩:=Zn (Vok.rd q) r (KE.bind h1);refine pQ ?_;cases c with
 | true=>exact B pins s' σ F' H' ρ Q (S.grow g') I' (Zm g' h2)
 | false=>exact h2 (.bl false) _ F' H' s' g' rfl rfl I'
def qaX(z:"S" a fa):"S" (.UnaryOp .Not a pos) (Y8 fa):=by
 refine λpins s σ F H ρ Q S I h=>UnaryOp_ (z pins s σ F H ρ _ S I ((KE.bind h).imp λw h1 v u F' H' s' g' q r I'=>?_))
 obtain⟨c,rfl,h2⟩:=Zn (Vok.rd q) r (KE.bind h1);exact not_of (pQ (h2 (.bl (not c)) _ F' H' s' g' rfl rfl I'))
def Zo(z:ST X F0 H0 c t)(B:"S" a fa)(O:"S" b fb):"S" (.IfExp c a b pos) (eIf t fa fb):=by
 refine λpins s σ F H ρ Q S I h=>wpAny_IfExp (z pins s σ F H ρ _ S I ((KE.bind h).imp λd k F' H' s' g' I'=>?_))
 cases d with
 | true=>exact B pins s' σ F' H' ρ Q (S.grow g') I' (Zm g' k)
 | false=>exact O pins s' σ F' H' ρ Q (S.grow g') I' (Zm g' k)
end
section
variable{X:Cx}{F0 H0:Hp}{e:Expr}{f:EF}{pos pos':Pos}{st:Stmt}{rest:List Stmt}{p q:SF}{t:TF}
def qU:SSs X F0 H0 [] qu:=λpins s σ F H ρ D S I h=>bB #[σ,H,I,h σ F H Le.refl S]
def qi(h1:SS X F0 H0 st p)(h2:SSs X F0 H0 rest q):SSs X F0 H0 (st::rest) (qe p q):=by
 intro pins s σ F H ρ D S I h;have go:∀ D',D'.rt=D.rt->D'.bk=D.bk->D'.ct=D.ct->PostS X F0 H0 F D' (p ρ)->(∀ B H' s',D'.nx B H'->Inv X pins B H' s'->X[3] (execs rest X.env) (SP X pins D) X.xe s') ->
   X[3] (execs (st::rest) X.env) (SP X pins D) X.xe s:=λD' er eb ec hp hn=>by
  refine wpAny_execs_cons (thn (h1 pins s σ F H ρ D' S I hp) λfl s1 r=>?_)
  cases fl with
  | next=>obtain⟨B,H',I',r⟩:=r;exact hn B H' s1 r I'
  | ret v=>obtain⟨x,B,H',I',rv,r⟩:=r;exact#[x,B,H',I',rv,by rw[<- er];exact r]
  | brk=>obtain⟨B,H',I',r⟩:=r;exact#[B,H',I',by rw[<- eb];exact r]
  | cont=>obtain⟨B,H',I',r⟩:=r;exact#[B,H',I',by rw[<- ec];exact r]
 unfold qe at h;cases ep:p ρ with
 | nx ρ' =>
  rw[ep]at h;exact go {D with nx:=λB H'=>∃ F',Le F F'/\StOk (kx X) F0 H0 F' H' ρ' B} rfl rfl rfl (by rw[ep];exact λB F' H' l S'=>#[F',l,S']) λB H' s' #[F',l,S'] I'=>(h2 pins s' B F' H' ρ' D S' I' (PostS.le l h))
 | rt w=>rw[ep]at h;exact go {D with nx:=λ_ _=>False} rfl rfl rfl (by rw[ep];exact h) λ_ _ _ z=>z.elim
 | bk ρ'=>rw[ep]at h;exact go {D with nx:=λ_ _=>False} rfl rfl rfl (by rw[ep];exact h) λ_ _ _ z=>z.elim
 | ct ρ'=>rw[ep]at h;exact go {D with nx:=λ_ _=>False} rfl rfl rfl (by rw[ep];exact h) λ_ _ _ z=>z.elim
 | exc x=>rw[ep]at h;exact go {D with nx:=λ_ _=>False} rfl rfl rfl (by rw[ep];exact h) λ_ _ _ z=>z.elim
 | stuck=>rw[ep]at h;cases h
def qk(h1:SS X F0 H0 st p):SSs X F0 H0 [st] p:=by
 refine λpins s σ F H ρ D S I h=>wpAny_execs_cons (thn (h1 pins s σ F H ρ D S I h) λfl s1 r=>?_)
 cases fl with
 | next=>exact bB r
 | ret v=>exact r
 | brk=>exact r
 | cont=>exact r
def Yh:SS X F0 H0 (.Break pos) yx:=λpins s σ F H ρ D S I h=>wpAny_Break #[σ,H,I,h σ F H Le.refl S]
def Zp(z:"S" e f)(B:(swapsWith e none pos.line X.env=pure false)["r"]):SS X F0 H0 (.Expr e pos) (xS f):=by
 exact λpins s σ F H ρ D S I h=>wpAny_Expr_any (z pins s σ F H ρ _ S I ((PostS.of h).imp λw k v u F' H' s' g q r I'=>(#[σ,H',I',k σ F' H' g.f (S.grow g)]))) I.quiet B
def Qr{P:En->Prop}(h:KE (XP X F0 H0) w.nm P):∃ w',w.nm=.ok w'/\P w'/\w'=w:=by
 cases w with
 | fz d=>exact#[_,rfl,h,rfl]
 | ow d=>exact#[_,rfl,h,rfl]
 | br d=>exact h.elim
 | lk d=>exact h.elim
 | od d=>exact h.elim
def qo(i){x:Str}(z:X.N.Nodup)(B:"S" e f)(hi:(X.N[i]?=!x)["r"])(O:(Loc X.env.scope x)["t"])
  (U:(swapsWith e (!(.Name x pos')) pos.line X.env=pure false)["r"])(Y:(X.fn x=true\/X.env.scope.names.lookup x=some .local)["t"]) :
  SS X F0 H0 (.Assign [.Name x pos'] e pos) (qj i f):=by
 refine λpins s σ F H ρ D S I h=>bX (B pins s σ F H ρ _ S I ((KE.bind (PostS.of h)).imp λw k v u F' H' s' g q r I'=>?_)) U
 obtain⟨w',e1,k2,rfl⟩:=Qr k;exact xK I' z hi O r (λs2 I2=>#[_,H',I2,k2 _ F' H' g.f (S.setW g q e1)]) Y
def qA(z:"S" e f):SS X F0 H0 (.Return ↑e pos) (qt f):=by
 refine λpins s σ F H ρ D S I h=>bS (z pins s σ F H ρ _ S I ((KE.bind (PostS.of h)).imp λw k v u F' H' s' g q r I'=>?_))
 obtain⟨w',e1,k2,rfl⟩:=Qr k;exact#[v,σ,H',I',r,k2 v F' H' (S.gr.trans g) (Vok.older (λa e=>Le.none S.gr.h e) q)]
def jZ(i){x:Str}{pos':Pos}(z:(Nm X i x)["t"]):SS X F0 H0 (.Return (!(.Name x pos')) pos) (jw i):=by
 intro pins s σ F H ρ D S I h;have go:∀ w,ρ[i]?=!(!w)->(∀ v,Eok (kx X) H0 F H v w->Vok (kx X) H0 F H v w)->(∀ v F' H',Gr F0 H0 F' H'->Vok (kx X) H0 F' H' v w->D.rt v H') ->
   X[3] (exec (.Return (!(.Name x pos')) pos) X.env) (SP X pins D) X.xe s:=λw ew t k=>by
  obtain⟨v,e1,q⟩:=S.val i w ew;refine bS (thn (pvN z pins s σ H (λv' H'=>v'=v/\H'=H) I #[v,e1,rfl,rfl]) λu s' #[v',H',I',r,ev,eh]=>?_)
  subst ev eh;exact#[v',σ,H',I',r,k v' F H' S.gr (t v' q)]
 unfold jw at h;cases ew:ρ[i]? with
 | none=>rw[ew]at h;cases h
 | some w =>
  rw[ew]at h;cases w with
  | none=>cases h
  | some w =>
   cases w with
   | fz d=>exact go _ ew (λv q=>q) h
   | ow d=>exact go _ ew (λv q=>q) h
   | br d=>exact h.elim
   | lk d=>exact h.elim
   | od d=>exact h.elim
def qV(z:ST X F0 H0 c t)(B:SSs X F0 H0 as p)(O:SSs X F0 H0 bs q):SS X F0 H0 (.If c as bs pos) (sIf t p q):=by
 refine λpins s σ F H ρ D S I h=>wpAny_If (z pins s σ F H ρ _ S I ((PostS.of h).imp λd k F' H' s' g I'=>?_))
 cases d with
 | true=>exact B pins s' σ F' H' ρ D (S.grow g) I' (PostS.le g.f k)
 | false=>exact O pins s' σ F' H' ρ D (S.grow g) I' (PostS.le g.f k)
def kN(i){x:Str}{op:Operator}{g:D->D->R En}(B:X.N.Nodup)(O:OpD X (inplaceOp op) g)(U:"S" e f)(hi:(X.N[i]?=!x)["r"])(Y:(Loc X.env.scope x)["t"])
  (Z:(X.fn x=true\/X.env.scope.names.lookup x=some .local)["t"]):SS X F0 H0 (.AugAssign (.Name x pos') op e pos) (jV i g f):=by
 intro pins s σ F H ρ D S I h;unfold jV at h;cases ew:ρ[i]? with
 | none=>rw[ew]at h;exact h.elim
 | some w =>
  rw[ew]at h;cases w with
  | none=>exact h.elim
  | some w =>
   cases w with
   | ow d=>exact h.elim
   | br d=>exact h.elim
   | lk d=>exact h.elim
   | od d=>exact h.elim
   | fz d =>
    obtain⟨v,e1,q⟩:=S.val i _ ew;have ip:PIp X op (λx y H' Q'=>∃ F' dx dy,Le F' H'/\RdV (kx X) F' H' x dx/\RdV (kx X) F' H' y dy/\Wish X F' H' (g dx dy) Q'):=λpins s σ H x y v u Q I rx ry #[F',dx,dy,l,qx,qy,w]=>O pins s σ F' H x y v u dx dy Q I l rx ry qx qy w
    refine T9 B hi Y (jh) ip Z pins s σ H D I #[v,e1,U.sem S ((KE.bind (PostS.of h)).imp λwy k y F1 H1 g1 q1=>#[F1,d,wy.d,g1.s,Rep.le g1.f d q |> Or.inl,Vok.rd q1,?_])]
    refine KE.impX (KE.bind k) (λw k2 z F2 H2 g2 q2=>?_) λ_ z=>z.elim
    obtain⟨w',e2,k3,rfl⟩:=Qr k2;exact k3 _ F2 H2 (Le.trans g1.f g2.f) ((S.grow g1).setW g2 q2 e2)
def StOk.mut{ρ:Rho}{i:Nat}(S:StOk κ F0 H0 F H ρ σ)(B:ρ[i]?=!(!d[9]))(O:σ[i]?=!(!(.ref a)))(r:OwnO κ F o d') :
  StOk κ F0 H0 F (upd H a o) (ρ.set i (!d'[9])) σ:=by
 obtain⟨v,e1,q⟩:=S.val i _ B;rw[O]at e1;cases e1;obtain⟨b,ob,eb,h0,hf,hh,_⟩:=q;cases eb;refine#[#[S.gr.f,λc u h=>?_,λc u h=>?_,S.gr.n],by simpa using S.len,λj w e=>?_,λj k w w' c U ej ek oj ok sj sk=>?_,λj y e=>?_]
 .rw[qr (jH h h0)];exact S.gr.h c u h
 .rw[qr (jH h hf)];exact S.gr.s c u h
 .rcases qC e with⟨rfl,z⟩|⟨ne,z⟩
  .cases z;exact#[_,O,a,o,rfl,h0,hf,qL,r]
  obtain⟨v,e1,q⟩:=S.val j w z;refine#[v,e1,?_];have nb:∀{c},v=.ref c->w.own=true->c≠a:=λ{c} ev ow ec=>by
   subst ev ec;exact S.sep j i w _ c ne z B ow rfl e1 O
  cases w with
  | fz d=>exact q
  | br d=>exact q
  | ow d =>
   obtain⟨c,oc,ec,c0,cf,ch,cr⟩:=q;exact#[c,oc,ec,c0,cf,by rw[qr (nb ec rfl)];exact ch,cr]
  | lk d=>exact q
  | od d =>
   obtain⟨c,oc,ec,c0,cf,ch⟩:=q;exact#[c,oc,ec,c0,cf,by rw[qr (nb ec rfl)];exact ch]
 .have at_:∀{m:Nat} {y},(ρ.set i (!d'[9]))[m]?=!(!y)->y.own=true->∃ y',ρ[m]?=!(!y')/\y'.own=true:=λ{m y} h oy=>by
   rcases qC h with⟨rfl,_⟩|⟨_,z⟩
   .exact#[_,B,rfl]
   exact#[y,z,oy]
  obtain⟨y,Y,Z⟩:=at_ ej oj;obtain⟨y',ek',ok'⟩:=at_ ek ok;exact S.sep j k y y' c U Y ek' Z ok' sj sk
 rcases qC e with⟨_,z⟩|⟨nj,ej⟩
 .cases z
 obtain⟨s1,c,bs,e1,c0,cf,nd,dp,sp⟩:=S.dp j y ej;refine#[λk z hk ek=>?_,c,bs,e1,c0,cf,nd,Deep.same (λb m=>?_) (λ_ _ z=>z) Le.refl dp,λk w b hk ek ok m=>?_]
 .rcases qC ek with⟨_,q⟩|⟨_,q⟩
  .lia
  exact s1 k z hk q
 .refine(qr λz=>?_).symm
  subst z;exact sp i _ _ (tf nj) B rfl m O
 rcases qC ek with⟨rfl,_⟩|⟨_,q⟩
 .exact sp k _ b hk B rfl m
 exact sp k w b hk q ok m
def zB(i){x:Str}{apos cpos np:Pos}(Z:"S" e f)(hN:(Nm X i x)["t"])(B:(attributeBase (.Name x np) "append" X.env (eval (.Name x np) X.env)=eval (.Name x np) X.env)["r"])
  (U:(((backTo cpos (starEach [e] X.env)).all (λx=>not x.1)&&(backToKw cpos (keywordEach [] X.env)).all (λx=>x.1.isSome)
   && decide ([e].length+([]:List Keyword)[1]+(if ([]:List Keyword).isEmpty then 0 else 1)<30))=true)["r"])
  (O:((apos.endLine==cpos.line)=true)["r"]) (Y:(starEach [e] X.env=(false,eval e X.env)::starEach [] X.env)["r"]) (z:((backTo cpos (starEach [] X.env)).any (·.1)=false)["r"])
  (hs:(swapsWith (.Call (.Attribute (.Name x np) "append" apos) [e] [] cpos) none pos.line X.env=pure false)["r"]) :
  SS X F0 H0 (.Expr (.Call (.Attribute (.Name x np) "append" apos) [e] [] cpos) pos) (qN i f):=by
 intro pins s σ F H ρ D S I h;unfold qN at h;cases ew:ρ[i]? with
 | none=>rw[ew]at h;exact h.elim
 | some w =>
  rw[ew]at h;cases w with
  | none=>cases h
  | some w =>
   cases w with
   | fz d=>exact h.elim
   | br d=>exact h.elim
   | lk d=>exact h.elim
   | od d=>exact h.elim
   | ow d =>
    cases d<;>first|exact h.elim|skip
    rename_i ds;have h:=KE.bind (PostS.of h);obtain⟨v,e1,a,o,rfl,h0,hf,hh,ro⟩:=S.val i _ ew;cases o<;>first|exact ro.elim|skip
    rename_i vs;have P:=xL (wT (X:=X) p7 cE cF xN (pvN (pos:=np) hN) (zI (jh (e:=e)) vM Y) B U O Y z) hs;refine P pins s σ H D I #[_,e1,.inl #[rfl,vs,SqL.of hh],Z.sem S (h.imp λw k y F1 H1 g1 q1=>?_)]
    cases es:w.st with
    | exc x=>rw[es]at k;exact k.elim
    | stuck=>rw[es]at k;exact k.elim
    | ok d =>
     rw[es]at k;have ry:=Vok.st S.s g1 q1 es;obtain⟨g2,_⟩:=vm S.s g1;have lv:vs[1]=ds[1]:=Reps.length ro;by_cases c:ds[1]<sz
     .have k2:PostS X F0 H0 F D (.nx (ρ.set i (!(.lst (ds++[d]))[9]))):=by simpa[if_pos c,KE]using k
      refine#[a,vs,y,rfl,rfl,g1.h _ _ hh,by rw[lv];exact c,?_]
      exact k2 σ _ _ g2.f ((S.grow g2).mut ew e1 (o:=.lst (vs++[y])) (Reps.append (Reps.le g2.f _ ro) (Reps.one ry)))
     have:False:=by simpa[if_neg c,PostS,KE]using k
     exact this.elim
end
section
variable{X:Cx}{F0 H0:Hp}{pos:Pos}{t:TF}{p:SF}
def Zq(n){c:Expr}{body:List Stmt}(hp:PassesOwn (model X.prog X.w) X.A X.env X.xe)(Y:ST X F0 H0 c t)(Z:SSs X F0 H0 body p):SS X F0 H0 (.While c body [] pos) (wV n t p):=by
 refine λpins s σ F H ρ D S I h=>Tb hp (qaS) (Qm) pins s σ H D I
  #[λm σ H=>∃ F' ρ,Le F F'/\StOk (kx X) F0 H0 F' H ρ σ/\PostS X F0 H0 F' D (zg t p m ρ),#[n,F,ρ,Le.refl,S,h],?_]
 rintro m B H1 ⟨F1,ρ1,l1,S1,h1⟩;cases m with
 | zero=>exact h1.elim
 | succ m =>
  refine λO s' I'=>Y O s' B F1 H1 ρ1 _ S1 I' ((PostS.of h1).imp λb k F2 H2 s2 g2 I2=>#[H2,I2,?_])
  cases b with
  | false=>exact k B F2 H2 g2.f (S1.grow g2)
  | true =>
   refine#[λz H'=>∃ F' ρ,Le F F'/\StOk (kx X) F0 H0 F' H' ρ z/\PostS X F0 H0 F' D (zg t p m ρ),λz H' q=>#[m,dq m,q],λU s3 I3=>?_]
   refine Z U s3 B F2 H2 ρ1 _ (S1.grow g2) I3 ?_;cases ep:p ρ1 with
   | nx ρ2=>rw[ep]at k;exact λz F' H' l S'=>#[F',ρ2,Le.trans l1 (Le.trans g2.f l),S',PostS.le (Le.trans g2.f l) k]
   | ct ρ2=>rw[ep]at k;exact λz F' H' l S'=>#[F',ρ2,Le.trans l1 (Le.trans g2.f l),S',PostS.le (Le.trans g2.f l) k]
   | bk ρ2=>rw[ep]at k;exact λz F' H' l S'=>k z F' H' (Le.trans g2.f l) S'
   | rt w=>rw[ep]at k;exact k
   | exc x=>rw[ep]at k;exact k
   | stuck=>rw[ep]at k;exact k
end
structure Walk(κ:Kx)(J:It)(F1 G:Hp)(ds:List D):Prop where
 go:∀(i:Nat) (d:D) (F H:Hp),ds[i]?=!d->Le F1 F->Le F H->Le G H->J.go i H/\∀ x H',J.yld i H x H'->∃ F',Gr F H F' H'/\Rep κ F' x d
 stop:∀(i:Nat) (F H:Hp),ds[1]<=i->Le F1 F->Le F H->Le G H->J.stop i H
def Walk.more(W:Walk κ J F1 G ds)(l:Le G G'):Walk κ J F1 G' ds :=
 #[λi d F H e l1 l2 l3=>W.go i d F H e l1 l2 (Le.trans l l3),λi F H e l1 l2 l3=>W.stop i F H e l1 l2 (Le.trans l l3)]
def SI(X:Cx)(F0 H0:Hp)(tg iter:Expr)(fi:IF):Prop :=
 ∃ wi,PI X tg iter wi/\∀(σ:St) (F H:Hp) (ρ:Rho) (R:It->Hp->Prop),StOk (kx X) F0 H0 F H ρ σ ->
  KE (XP X F0 H0) (fi ρ) (λds=>∀ F1 H1 J,Gr F H F1 H1->Walk (kx X) J F1 H0 ds->R J H1)->wi σ H R
def SIc(X:Cx)(F0 H0:Hp)(tg iter:Expr)(fi:IF):Prop :=
 ∃ wi,PI X tg iter wi/\∀(σ:St) (F H:Hp) (ρ:Rho) (R:It->Hp->Prop),StOk (kx X) F0 H0 F H ρ σ ->
  KE (XP X F0 H0) (fi ρ) (λds=>∀ F1 H1 J,Gr F H F1 H1->Walk (kx X) J F1 H1 ds->R J H1)->wi σ H R
def SI.c(h:SI X F0 H0 tg iter fi):SIc X F0 H0 tg iter fi:=by
 obtain⟨wi,P,k⟩:=h;exact#[wi,P,λσ F H ρ R S q=>k σ F H ρ R S (q.imp λds z F1 H1 J g W=>z F1 H1 J g (W.more (Le.trans S.gr.h g.h)))]
def SG(X:Cx)(F0 H0:Hp)(tg:Expr)(gf:GF):Prop :=
 ∃ z,PG X tg z/\∀(σ:St) (F H:Hp) (ρ:Rho) (v:V) (d:D) (Q:St->Hp->Prop),StOk (kx X) F0 H0 F H ρ σ->Rep (kx X) F v d ->
  KE (λ_=>False) (gf d ρ) (λρ1=>∀ B,StOk (kx X) F0 H0 F H ρ1 B->Q B H)->z v σ H Q
section
variable{X:Cx}{F0 H0:Hp}{pos:Pos}{tg iter:Expr}{fi:IF}{gf:GF}{p:SF}{f:EF}
def qH(i)(z:X.N.Nodup)(hi:(X.N[i]?=!x)["r"])(B:(Loc X.env.scope x)["t"])
  (O:(X.fn x=true\/X.env.scope.names.lookup x=some .local)["t"]):SG X F0 H0 (.Name x pos) (gV i) :=
 #[_,WL z hi B O,λσ F H ρ v d Q S r h=>h _ (S.setF r)]
theorem Yi{Q:St->Hp->Prop}:∀ is ds vs ρ σ,StOk (kx X) F0 H0 F H ρ σ->Reps (kx X) F vs ds ->
  KE (λ_=>False) (gVs is ds ρ) (λρ1=>∀ z,StOk (kx X) F0 H0 F H ρ1 z->Q z H)->Q (List.foldl (λs iv=>s.set iv.1 (!iv.2)) σ (is.zip vs)) H/\is[1]=vs[1]
 | [],[],vs,ρ,σ,S,r,h=>by cases (r);exact#[h σ S,rfl]
 | [],_::_,_,_,_,_,_,h=>h.elim
 | _::_,[],_,_,_,_,_,h=>h.elim
 | i::is,d::ds,_,ρ,σ,S,r,h=>by
  obtain⟨v,vr,rfl,r1,r2⟩:=r;obtain⟨q1,q2⟩:=Yi is ds vr _ _ (S.setF r1) r2 h
  simp_all
def SGs(X:Cx)(es:List Expr)(is:List Nat):Prop:=PGs X es (λvs σ H Q=>is[1]=vs[1]/\Q (List.foldl (λs (iv:Nat×V)=>s.set iv.1 (!iv.2)) σ (is.zip vs)) H)
def yD:SGs X [] []:=by
 intro pins s σ H vs us Q I r h;obtain⟨e,q⟩:=h;cases r with
 | nil=>exact GZ pins s σ H [] [] Q I .nil #[rfl,q]
 | cons _ _=>cases e
def zZ(i){is:List Nat}(z:X.N.Nodup)(h:SGs X es is)(hi:(X.N[i]?=!x)["r"])(B:(Loc X.env.scope x)["t"])
  (O:(X.fn x=true\/X.env.scope.names.lookup x=some .local)["t"])
  (U:((assignEach (.Name x xp::es) X.env).map (·.2)=assign (.Name x xp) X.env::(assignEach es X.env).map (·.2))["r"]):SGs X (.Name x xp::es) (i::is):=by
 intro pins s σ H vs us Q I r k;obtain⟨e,q⟩:=k;cases r with
 | nil=>cases e
 | cons r1 r2=>exact T0 (WL z hi B O) h U pins s σ H _ _ Q I (.cons r1 r2) #[_,_,rfl,by simpa using e,q]
def yE{k:Nat}{is:List Nat}(B:X.calm=true)(h:SGs X es is)(O:((assignEach es X.env)[1]=is[1])["r"])(z:((assignEach es X.env).findIdx? (·.1)=none)["r"]):SG X F0 H0 (.Tuple es k pos) (gT is):=by
 refine#[_,T3 B h O z,λσ F H ρ v d Q S r w=>?_]
 cases d<;>first|exact w.elim|skip
 rename_i ds;obtain⟨a,vs,rfl,hq,rs⟩:=r;obtain⟨q1,q2⟩:=Yi is ds vs ρ σ S rs w;exact#[a,vs,rfl,SqT.le S.s hq,q2.symm,q2,q1]
def jm(hp:PassesOwn (model X.prog X.w) X.A X.env X.xe)(hc:X.calm=true)(hi:SI X F0 H0 tg iter fi)(hg:SG X F0 H0 tg gf)(hb:SSs X F0 H0 body p)
  (hs:∀ x,foldedSetIterable iter X.env x=pure x:=by intro _;rfl):SS X F0 H0 (.For tg iter body [] pos) (qO fi gf p):=by
 intro pins s σ F H ρ D S I h;obtain⟨wi,Z,hwi⟩:=hi;obtain⟨tgv,PGv,hgv⟩:=hg;refine Tl hp hc Z PGv (Qm (st:=body)) hs pins s σ H D I (hwi σ F H ρ _ S ((PostS.of h).imp λds k F1 H1 J g1 W=>?_))
 refine#[λi m σ H=>m=ds[1]-i/\i<=ds[1]/\∃ F' ρ,Le F F'/\Le F1 F'/\StOk (kx X) F0 H0 F' H ρ σ/\PostS X F0 H0 F' D (qD gf p (ds.drop i) ρ),
  #[ds[1],by simp,tJ _,F1,ρ,g1.f,Le.refl,S.grow g1,PostS.le g1.f k[""]],?_]
 rintro i m O H2 ⟨rfl,hi,F2,ρ2,lF,l1,S2,h2⟩;by_cases hlt:i<ds[1]
 .have ed:ds[i]?=!ds[i]:=by simp[hlt]
  have Y:ds.drop i=ds[i]::ds.drop (i+1):=fS hlt;obtain⟨go,yl⟩:=W.go i ds[i] F2 H2 ed l1 S2.s S2.gr.h;refine .inr #[go,λz H'=>∃ F' ρ,Le F F'/\Le F1 F'/\StOk (kx X) F0 H0 F' H' ρ z/\PostS X F0 H0 F' D (qD gf p (ds.drop (i+1)) ρ),λz H' q=>#[ds[1]-(i+1),"",rfl,hlt,q],λx H' y=>?_]
  obtain⟨F3,g3,rx⟩:=yl x H' y;rw[Y]at h2;have S3:=S2.grow g3;refine hgv O F3 H' ρ2 x ds[i] _ S3 rx ?_;cases eg:gf ds[i] ρ2 with
  | exc e=>unfold qD at h2;rw[eg]at h2;exact h2.elim
  | stuck=>unfold qD at h2;rw[eg]at h2;exact h2.elim
  | ok ρ3 =>
   have h3:PostS X F0 H0 F2 D (match p ρ3 with|.nx ρ4=>qD gf p (ds.drop (i+1)) ρ4|.ct ρ4=>qD gf p (ds.drop (i+1)) ρ4|.bk ρ4=>.nx ρ4|o=>o):=by
    unfold qD at h2;rw[eg]at h2;exact h2
   refine λU S4 B s3 I3=>hb B s3 U F3 H' ρ3 _ S4 I3 ?_
   cases ep:p ρ3 with
   | nx ρ4=>rw[ep]at h3;exact λz F' H' l S'=>#[F',ρ4,Le.trans lF (Le.trans g3.f l),Le.trans l1 (Le.trans g3.f l),S',PostS.le (Le.trans g3.f l) h3]
   | ct ρ4=>rw[ep]at h3;exact λz F' H' l S'=>#[F',ρ4,Le.trans lF (Le.trans g3.f l),Le.trans l1 (Le.trans g3.f l),S',PostS.le (Le.trans g3.f l) h3]
   | bk ρ4=>rw[ep]at h3;exact λz F' H' l S'=>h3 z F' H' (Le.trans g3.f l) S'
   | rt w=>rw[ep]at h3;exact h3
   | exc x=>rw[ep]at h3;exact h3
   | stuck=>rw[ep]at h3;exact h3
 have e:i=ds[1]:=""
 subst e;rw[du]at h2;exact .inl #[W.stop _ F2 H2 (gw _) l1 S2.s S2.gr.h,h2 O F2 H2 Le.refl S2]
theorem Zr{κ:Kx}(z:SqL κ.K F1 a vs)(rs:Reps κ F1 vs ds):Walk κ (Itl κ.K a) F1 G ds where
 go:=λi d F H ed l1 l _=>by
  obtain⟨v,ev,rv⟩:=Reps.get rs ed;have q:=SqL.le l (SqL.le l1 z);refine#[#[vs,v,q,ev],λx H' y=>?_]
  obtain⟨e,y⟩:=y;subst e;have:=y vs q;rw[ev]at this;cases this;exact#[F,Gr.refl l,Rep.le l1 d rv]
 stop:=λi F H hi l1 l _=>#[vs,SqL.le l (SqL.le l1 z),by rw[Reps.length rs];exact hi]
theorem Zs{κ:Kx}(z:SqT κ.K F1 a vs)(rs:Reps κ F1 vs ds):Walk κ (Itt κ.K a) F1 G ds where
 go:=λi d F H ed l1 l _=>by
  obtain⟨v,ev,rv⟩:=Reps.get rs ed;have q:=SqT.le l (SqT.le l1 z);refine#[#[vs,v,q,ev],λx H' y=>?_]
  obtain⟨e,y⟩:=y;subst e;have:=y vs q;rw[ev]at this;cases this;exact#[F,Gr.refl l,Rep.le l1 d rv]
 stop:=λi F H hi l1 l _=>#[vs,SqT.le l (SqT.le l1 z),by rw[Reps.length rs];exact hi]
theorem Yj{κ:Kx}(z:SqL κ.K G a vs)(rs:Reps κ F1 vs ds):Walk κ (Itl κ.K a) F1 G ds where
 go:=λi d F H ed l1 l lg=>by
  obtain⟨v,ev,rv⟩:=Reps.get rs ed;have q:=SqL.le lg z;refine#[#[vs,v,q,ev],λx H' y=>?_]
  obtain⟨e,y⟩:=y;subst e;have:=y vs q;rw[ev]at this;cases this;exact#[F,Gr.refl l,Rep.le l1 d rv]
 stop:=λi F H hi l1 l lg=>#[vs,SqL.le lg z,by rw[Reps.length rs];exact hi]
def PI.or(h1:PI X tg iter w1)(h2:PI X tg iter w2):PI X tg iter (λσ H R=>w1 σ H R\/w2 σ H R):=λpins s σ H R I h=>by
 rcases h with h|h
 .exact h1 pins s σ H R I h
 exact h2 pins s σ H R I h
def zK(z:"S" iter f):SI X F0 H0 tg iter (jc f):=by
 refine#[_,PI.or (Z5 (jh)) (Z6 (jh)),λσ F H ρ R S h=>?_]
 have h:=KE.bind h;cases ew:f ρ with
 | exc x=>rw[ew]at h;exact h.elim
 | stuck=>rw[ew]at h;exact h.elim
 | ok w =>
  rw[ew]at h;cases es:w.st with
  | exc x=>rw[xU,es]at h;exact h.elim
  | stuck=>rw[xU,es]at h;exact h.elim
  | ok d =>
   rw[xU,es]at h;cases d<;>first|exact h.elim|skip
   .rename_i ds;refine .inr (z.sem S ?_);rw[ew];intro v F1 H1 g1 q1;obtain⟨g2,_⟩:=vm S.s g1;obtain⟨a,vs,rfl,hq,rs⟩:=Vok.st S.s g1 q1 es;exact#[a,rfl,#[vs,SqT.le g2.s hq],h _ H1 _ g2 (Zs (κ:=kx X) hq rs)]
   rename_i ds;refine .inl (z.sem S ?_);rw[ew];intro v F1 H1 g1 q1;obtain⟨g2,_⟩:=vm S.s g1;obtain⟨a,vs,rfl,hq,rs⟩:=Vok.st S.s g1 q1 es;exact#[a,rfl,#[vs,SqL.le g2.s hq],h _ H1 _ g2 (Zr (κ:=kx X) hq rs)]
def v6(i)(z:(Nm X i x)["t"]):SI X F0 H0 tg (.Name x pos) (iV i):=by
 refine#[_,PI.or (Z5 (pvN z)) (Z6 (pvN z)),λσ F H ρ R S h=>?_]
 unfold iV at h;cases ew:ρ[i]? with
 | none=>rw[ew]at h;exact h.elim
 | some w =>
  rw[ew]at h;cases w with
  | none=>exact h.elim
  | some w =>
   obtain⟨v,e1,q⟩:=S.val i w ew;cases w with
   | ow d=>exact h.elim
   | lk d=>exact h.elim
   | od d=>exact h.elim
   | fz d =>
    cases d<;>first|exact h.elim|skip
    .obtain⟨a,vs,rfl,hq,rs⟩:=q;exact .inr #[_,e1,a,rfl,#[vs,SqT.le S.s hq],h F H _ (Gr.refl S.s) (Zs hq rs)]
    obtain⟨a,vs,rfl,hq,rs⟩:=q;exact .inl #[_,e1,a,rfl,#[vs,SqL.le S.s hq],h F H _ (Gr.refl S.s) (Zr hq rs)]
   | br d =>
    obtain⟨a,o,rfl,eh,ro⟩:=q;cases d<;>first|exact h.elim|skip
    .cases o<;>exact ro.elim
    cases o<;>first|exact ro.elim|skip
    exact .inl #[_,e1,a,rfl,#[_,SqL.of (S.gr.h _ _ eh)],h F H _ (Gr.refl S.s) (Yj (κ:=kx X) (SqL.of eh) ro)]
def wY(i)(B:(Nm X i x)["t"]):SIc X F0 H0 tg (.Name x pos) (iVc i):=by
 refine#[_,PI.or (Z5 (pvN B)) (Z6 (pvN B)),λσ F H ρ R S h=>?_]
 unfold iVc at h;cases ew:ρ[i]? with
 | none=>rw[ew]at h;cases h
 | some w =>
  rw[ew]at h;cases w with
  | none=>cases h
  | some w =>
   obtain⟨v,e1,q⟩:=S.val i w ew;have z:∀{d} {a} {o},v=.ref a->H a=!o->OwnO (kx X) F o d->KE (XP X F0 H0) (xT d) (λds=>∀ F1 H1 J,Gr F H F1 H1->Walk (kx X) J F1 H1 ds->R J H1) ->
     WM X.K (Qg i) σ H R\/WN X.K (Qg i) σ H R:=λ{d a o} ev eh ro h=>by
    subst ev;cases d<;>first|exact h.elim|skip
    .cases o<;>exact ro.elim
    cases o<;>first|exact ro.elim|skip
    exact .inl #[_,e1,a,rfl,#[_,SqL.of eh],h F H _ (Gr.refl S.s) (Yj (SqL.of eh) ro)]
   cases w with
   | ow d=>obtain⟨a,o,ev,_,_,eh,ro⟩:=q;exact z ev eh ro h
   | lk d=>cases h
   | od d=>cases h
   | br d=>obtain⟨a,o,ev,eh,ro⟩:=q;exact z ev (S.gr.h _ _ eh) ro h
   | fz d =>
    dsimp only at h;cases d<;>first|exact h.elim|skip
    .obtain⟨a,vs,rfl,hq,rs⟩:=q;exact .inr #[_,e1,a,rfl,#[vs,SqT.le S.s hq],h F H _ (Gr.refl S.s) (Zs (κ:=kx X) hq rs)]
    obtain⟨a,vs,rfl,hq,rs⟩:=q;exact .inl #[_,e1,a,rfl,#[vs,SqL.le S.s hq],h F H _ (Gr.refl S.s) (Zr (κ:=kx X) hq rs)]
theorem xY:∀ n lo i,(zn lo n)[i]?=if i<n then !(lo+i)[6]else none
 | 0,lo,i=>by simp[zn]
 | n+1,lo,0=>by simp[zn]
 | n+1,lo,i+1=>by
  have:=xY n (lo+1) i;simp[zn,cQ,this];lia
theorem Qt:∀ n lo,(zn lo n)[1]=n
 | 0,_=>rfl
 | n+1,lo=>by simp[zn,Qt n]
def Yk(lo:Int)(n:Nat):Walk κ (Itr lo n) F1 G (zn lo n)where
 go:=λi d F H ed l1 l _=>by
  rw[xY]at ed;by_cases h:i<n
  .rw[if_pos h]at ed;cases ed;refine#[h,λx H' y=>?_]
   obtain⟨e,y⟩:=y;subst e y;exact#[F,Gr.refl l,rfl]
  simp_all
 stop:=λi F H hi l1 l _=>by rw[Qt]at hi;exact hi
def Qu{np cp:Pos}(B:"S" a fa)(O:X.mg "range"=none)(U:(Gl X "range")["r"])(z:(starEach [a] X.env=[(false,eval a X.env)])["r"]):SI X F0 H0 tg (.Call (.Name "range" np) [a] [] cp) (iR1 fa):=by
 refine#[_,Th U O (zI (jh) vM z) z,λσ F H ρ R S h=>B.sem S ((KE.bind h).imp λw k v F1 H1 g1 q1=>?_)]
 have r:=Vok.rd q1
 revert k
 generalize w.d=d at r;intro k;cases d<;>first|exact k.elim|skip
 rename_i j;dsimp only at k;by_cases c:fits b62 j=true
 .rw[if_pos c]at k;have c:-(2 ^ 62)<=j/\j<2 ^ 62:=by
   rw[fits_iff]at c;lia
  cases RdV.int r;exact#[j,rfl,c.1,c.2,k F1 H1 _ g1 (Yk 0 j.toNat)]
 rw[if_neg c]at k;exact k.elim
end
def Args(κ:Kx)(F H:Hp):List V->List En->Prop
 | vs,[]=>vs=[]
 | vs,.fz d::ws=>∃ v r,vs=v::r/\Rep κ F v d/\Args κ F H r ws
 | vs,.br d::ws=>∃ v r,vs=v::r/\(∃ a o,v=.ref a/\H a=!o/\OwnO κ F o d)/\Args κ F H r ws
 | _,_=>False
def spD(κ:Kx)(dn:Den)(n:Nat):Sp:=λvs H Q _=>vs[1]=n/\∃ F ws,Le F H/\Args κ F H vs ws /\
 KE (λ_=>False) (dn ws) λw=>∀ v F' H',Gr F H F' H'->Vok κ H F' H' v w->Q v H'
section
variable{P:af}{w:World}{K:Frag}{mg:Str->Option aa}{base:Heap}
theorem yF:∀{vs} {ws},Args κ F H vs ws->∀(i:Nat) w,(ws.map some)[i]?=!(!w)->∃ v,(vs.map some)[i]?=!(!v)/\Eok κ H F H v w/\w.own=false
 | _,[],_,i,w,e=>by simp at e
 | _,.fz d::ws,h,0,w,e=>by
  obtain⟨v,r,rfl,h1,h2⟩:=h;simp at e;subst e;exact#[v,rfl,h1,rfl]
 | _,.br d::ws,h,0,w,e=>by
  obtain⟨v,r,rfl,h1,h2⟩:=h;simp at e;subst e;exact#[v,rfl,h1,rfl]
 | _,.fz d::ws,h,i+1,w,e=>by
  obtain⟨v,r,rfl,h1,h2⟩:=h;simpa using yF h2 i w e[""]
 | _,.br d::ws,h,i+1,w,e=>by
  obtain⟨v,r,rfl,h1,h2⟩:=h;simpa using yF h2 i w e[""]
theorem xZ:∀{vs} {ws},Args κ F H vs ws->vs[1]=ws[1]
 | _,[],h=>by cases (h);rfl
 | _,.fz d::ws,h=>by obtain⟨v,r,rfl,h1,h2⟩:=h;simp[xZ h2]
 | _,.br d::ws,h=>by obtain⟨v,r,rfl,h1,h2⟩:=h;simp[xZ h2]
def qaY{ws:List En}(l:Le F H)(h:Args κ F H vs ws):StOk κ F H F H (ws.map some++List.replicate (N[1]-ws[1]) none) (L2.zk N vs):=by
 have at_:∀ i w,(ws.map some++List.replicate (N[1]-ws[1]) none)[i]?=!(!w)->(ws.map some)[i]?=!(!w):=λi w e=>by
  by_cases hi:i<ws[1]
  .rwa [t3 hi[""]]at e
  rw[hE hi[""],fJ]at e
  lia
 refine#[Gr.refl l,by simp[L2.zk,(xZ h)],λi w e=>?_,λi j w w' a B ei ej oi oj si sj=>?_,λi y e=>by obtain⟨v,e1,q,z⟩:=yF h i _ (at_ i _ e);cases z]
 .obtain⟨v,e1,q,_⟩:=yF h i w (at_ i w e);refine#[v,?_,q];unfold L2.zk;have hi:i<vs[1]:=by have:=(gp.mp e1).1;simpa using this
  rw[t3 hi[""]]
  exact e1
 obtain⟨v,_,_,z⟩:=yF h i w (at_ i w ei);lia
def fnD{st:Stmt}{N ps:List Str}{k:Nat}(F:Fun K x qual st f fd)(S:FnScope N ps (defScope st))
  (h:∀ z A outer s H F0,Room k (A.deeper (envOfC qual (defScope st) s[0] f z)) ->
   SSs (cxOf CX0 P w K mg base N qual (defScope st) f z A outer s H E0).nox F0 H (defBody st) body):FnOk P w K mg base CX0 (k+1) f fd ps (spD #[P,w,K] (den N[1] body) ps[1]):=by
 refine F.ok S (λvs H Q E q=>q.1) (λz A outer s H vs Q E hr q=>?_)
 obtain⟨hl,F0,ws,l,ha,q⟩:=q;refine#[Zg _ _,Qm,λpins s' I=>?_]
 refine((h z A outer s H F0 hr)) pins s' (L2.zk N vs) F0 H _ _ (qaY l ha) I ?_;have e:=q;unfold den at e;cases eb:body (ws.map some++List.replicate (N[1]-ws[1]) none)with
 | nx ρ=>rw[eb]at e;exact λB F' H' l' S'=>e .non F' H' S'.gr rfl
 | rt w'=>rw[eb]at e;exact e
 | bk ρ=>rw[eb]at e;exact e.elim
 | ct ρ=>rw[eb]at e;exact e.elim
 | exc x=>rw[eb]at e;exact e.elim
 | stuck=>rw[eb]at e;exact e.elim
end
section
variable{X:Cx}{F0 H0:Hp}{pos p:Pos}{e:Expr}{es:List Expr}{fa:List EF}{x:Str}{k n:Nat}{f:Addr}{fd:FuncData}{ps:List Str}{dn:Den}
theorem Qv{H F' H':Hp}(s:Le F' H'):∀{vs} {ws ys},Voks κ H F' H' vs ws->jU ws=.ok ys->∀ G,Le F' G->(∀ a o,H a=none->H' a=!o->G a=!o)->Args κ G H' vs ys
 | _,[],ys,h,e,G,l,lk=>by cases e;exact h
 | _,w::ws,ys,h,e,G,l,lk=>by
  obtain⟨v,r,rfl,h1,h2⟩:=h;unfold jU at e;cases e1:w.arg with
  | exc x=>rw[e1]at e;cases e
  | stuck=>rw[e1]at e;cases e
  | ok y =>
   cases e2:jU ws with
   | exc x=>rw[e1,e2]at e;cases e
   | stuck=>rw[e1,e2]at e;cases e
   | ok ys' =>
    rw[e1,e2]at e;cases e;have rest:=Qv s h2 e2 G l lk;cases w with
    | fz d=>cases e1;exact#[v,r,rfl,Rep.le l d h1,rest]
    | br d =>
     cases e1;obtain⟨a,o,ea,B,ro⟩:=h1;exact#[v,r,rfl,#[a,o,ea,B,OwnO.le l ro],rest]
    | lk d=>cases e1
    | od d =>
     cases d<;>first|(cases e1;done)|skip
     cases e1;rcases h1 with⟨_,z,_⟩|⟨ds,z,a,bs,O,rfl,h0,hf,nd,hh,i⟩|⟨_,_,z,_⟩|⟨_,_,_,z,_⟩
     .cases z
     .cases z;have at_:∀ b∈bs++O.flatten,G b=H' b:=λb m=>by
       obtain⟨us,z0,z1,z2⟩:=In2.at i m;rw[z2];exact lk b _ z0 z2
      exact#[.ref a,r,rfl,#[a,bs.map V.ref,rfl,SqL.of (lk a _ h0 hh),In2.reps i at_ l],rest]
     .cases z
     cases z
    | ow d =>
     cases e1;obtain⟨a,o,ea,e0,ef,B,ro⟩:=h1;have q:=lk a o e0 B;have ro:=OwnO.le l ro;refine#[v,r,rfl,?_,rest];cases o<;>cases d<;>first
      | exact ro.elim
      | exact#[a,_,ea,.inl (.inl q),ro]
      | exact#[a,_,ea,.inl q,ro]
theorem Qw:∀ fs ρ ws,evs fs ρ=.ok ws->ws[1]=fs[1]
 | [],_,_,h=>by cases h;rfl
 | a::r,ρ,ws,h=>by
  unfold evs at h;cases ea:a ρ with
  | exc x=>rw[ea]at h;cases h
  | stuck=>rw[ea]at h;cases h
  | ok x =>
   cases er:evs r ρ with
   | exc x=>rw[ea,er]at h;cases h
   | stuck=>rw[ea,er]at h;cases h
   | ok xs=>rw[ea,er]at h;cases h;simp[Qw r ρ xs er]
def qaZ(G:FnOk X.prog X.w X.K X.mg X.base CX0 k f fd ps (spD (kx X) dn n))(U:Room k X.A)(Y:X.mg x=!(.ref f))(Z:keepIn X.K (.ref f)=true)(hb:Binds X.K fd ps [])(ha:SA X F0 H0 (e::es) fa)
  (hn:(fa[1]=n)["r"])
  (hg:(Gl X x)["r"])(B:((x==("__debug__"))=false)["d"])(he:(starEach (e::es) X.env=(false,eval e X.env)::starEach es X.env)["r"])(O:((backTo pos (starEach es X.env)).any (·.1)=false)["r"]) :
  "S" (.Call (.Name x p) (e::es) [] pos) (qg dn fa):=by
 refine λpins s σ F H ρ Q S I h=>fC (Z4 I hg Y ?_ B)
 refine callWith_K I.ok.mod.kin Z (ha pos pins s σ F H ρ _ S I ?_) he O;cases ef:evs fa ρ with
 | exc x=>have h:=KE.bind h;rw[ef]at h;exact h
 | stuck=>have h:=KE.bind h;rw[ef]at h;exact h
 | ok ws =>
  have h:=KE.bind h;rw[ef]at h;refine λvs us F1 H1 s1 g1 q1 r1 I1=>#[I1.kIn,?_]
  have h:KE (XP X F0 H0) ((jU ws).bind λys=>dn ys) _:=h
  cases ea:jU ws with
  | exc x=>rw[ea]at h;exact h.elim
  | stuck=>rw[ea]at h;cases h
  | ok ys =>
   rw[ea]at h;obtain⟨g2,l2⟩:=vm S.s g1;have A:=Qv g1.s q1 ea (jG H F1 H1) l2 (λa o e0 e2=>by unfold jG;rw[e0];exact e2)
   have hl:vs[1]=n:=by
    rw[<- hn,<- Qw fa ρ ws ef];clear A ea h r1
    revert vs
    have:∀ ws vs,Voks (kx X) H F1 H1 vs ws->vs[1]=ws[1]:=by
     intro ws
     induction ws with
     | nil=>intro vs h;cases (show vs=[]from h);rfl
     | cons w ws ih =>
      intro vs h;obtain⟨v,r,rfl,_,h2⟩:=h;simp[ih r h2]
    exact λvs h=>this ws vs h
   refine vz (WU G U hb (dvs:=[]) .nil Y7 I1 r1 ?_);rw[tQ];refine#[hl,jG H F1 H1,ys,g2.s,A,KE.impX h (λw k v F' H' g' q' u s' r' I'=>?_) λ_ z=>z.elim]
   exact k v u F' H' s' (g2.trans g') (Vok.older (λa e=>Le.none g1.h e) q') r' I'
end
def hu10(z:Room k A):A.units+10<cLine:=by have:=z.un;lia
section
variable{X:Cx}{F0 H0:Hp}{pos p:Pos}{x:Str}{k:Nat}{f:Addr}{fd:FuncData}{dn:Den}
def Ty.nm:Ty->String
 | .int=>"int"|.bool=>"bool"|.str=>"str"|.list=>"list"|.tuple=>"tuple"|.dict=>"dict"
def dTy:D->String
 | .non=>"NoneType"|.bl _=>"bool"|.int _=>"int"|.str _=>"str"|.tup _=>"tuple"|.lst _=>"list"|.dK _=>"dict"|.dT _=>"dict"|.xc _ _=>"?"
def qb0(K)(d)(t)(h:∀ c fs,d≠.xc c fs):kitOne K (.type (dTy d)) (.type t.nm)=!(tyIs d t):=by
 cases d<;>first
  | exact absurd rfl (h _ _)
  | (cases t<;>first|rfl|kernel_rfl)
def qb1{Q:aa->ab->Prop}(I:"I" H s)(l:Le F H)(r:RelV v u)(q:RdV (kx X) F H v d)(B:∀ c fs,d≠.xc c fs)
  (h:∀ tk,Q (.bool (tyIs d t)) {s with toks:=tk}):X[3] (call (.builtin "isinstance") [u,.type t.nm]) Q X.xe s:=by
 have e:=qb0 X.K d t B;cases d with
 | non=>cases RdV.non q;cases (r);exact pR PySem.W.kitx_none I.kIn True.intro e (λz=>nomatch z) h
 | bl b=>cases RdV.bl q;cases (r);exact pR PySem.W.kitx_bool I.kIn True.intro e (λz=>nomatch z) h
 | int i=>cases RdV.int q;obtain⟨tk,rfl⟩:=(show ∃ tk,u=Value.int i tk from r);exact pR PySem.W.kitx_int I.kIn True.intro e (λz=>nomatch z) h
 | str y=>cases RdV.str q;obtain⟨tk,rfl⟩:=(show ∃ tk,u=Value.str y tk from r);exact pR PySem.W.kitx_str I.kIn True.intro e (λz=>nomatch z) h
 | tup ds =>
  obtain⟨a,vs,rfl,hq,_,_⟩:=RdV.tup l q;cases (show u=Value.ref a from r)
  obtain⟨its,_,⟨o,e1,e2,_⟩,_⟩:=I.tuple hq;exact pR PySem.W.kitx_tuple I.kIn #[o,e1,e2] e (λz=>nomatch z) h
 | lst ds =>
  obtain⟨a,vs,rfl,hq,_⟩:=RdV.lst l q;cases (show u=Value.ref a from r)
  obtain⟨its,_,⟨o,n,e1,e2,_⟩,_⟩:=I.list hq;exact pR PySem.W.kitx_list I.kIn #[o,e1,e2] e (λz=>nomatch z) h
 | dK ds =>
  obtain⟨a,vs,rfl,hq,_⟩:=RdV.dK l q;cases (show u=Value.ref a from r)
  obtain⟨_,vs,_,o,es,ep,e1,e2,_⟩:=Inv.dictK I hq;exact pR kitx_dict I.kIn #[o,e1,e2.1] e (λz=>nomatch z) h
 | dT ds =>
  have hq:∃ a kvs,v=.ref a/\Rd H a (.dT kvs):=by
   rcases q with⟨a,vs,e,q,_⟩|⟨a,o,e,e2,r⟩
   .exact#[a,vs,e,Rd.le l q]
   cases o<;>first|exact r.elim|exact#[a,_,e,.inl e2]
  obtain⟨a,kvs,rfl,hq⟩:=hq;cases (show u=Value.ref a from r)
  obtain⟨_,_,xs,_,o,es,ep,e1,e2,_⟩:=hq.ok I.hok;exact pR kitx_dict I.kIn #[o,e1,e2.1] e (λz=>nomatch z) h
 | xc c fs=>exact absurd rfl (B c fs)
def qb2(t:Ty):bootBuiltins t.nm=!(.type t.nm):=by cases t<;>decide +kernel
def Qx(t){e:Expr}{fe:EF}{p2:Pos}(he:"S" e fe)(hm:X.mg "isinstance"=none)(B:X.mg t.nm=none)(hg:(Gl X "isinstance")["r"])(O:(Gl X t.nm)["r"])
  (U:((Str.ofString t.nm)≠"__name__")["d"])(Y:(((Str.ofString t.nm)==("__debug__"))=false)["d"])
  (z:(starEach [e,.Name t.nm p2] X.env=(false,eval e X.env)::starEach [.Name t.nm p2] X.env)["r"])(hs2:(starEach [.Name t.nm p2] X.env=[(false,eval (.Name t.nm p2) X.env)])["r"])
  (Z:((backTo pos (starEach [.Name t.nm p2] X.env)).any (·.1)=false)["r"]):"S" (.Call (.Name "isinstance" p) [e,.Name t.nm p2] [] pos) (eUn (dIs t) fe):=by
 refine λpins s σ F H ρ Q S I h=>fC (zH I hg hm boot_isinstance ?_)
 refine cL ?_ z Z;rw[z];refine hZ (he pins s σ F H ρ _ S I ((KE.bind h).imp λw k v u F' H' s' g q r I'=>?_))
 refine hZ (zH I' O B (qb2 t) (tL ?_) U Y);have k2:∀ c fs,w.d≠.xc c fs:=λc fs e=>by rw[e]at k;exact k.elim
 have k3:KE (XP X F0 H0) (okB (tyIs w.d t)) λw=>∀ v u F' H' s',Gr F H F' H'->Vok (kx X) H F' H' v w->RelV v u->"I" H' s'->Q u s':=by
  revert k
  generalize w.d=d at *;intro k;cases d<;>first|exact k|exact absurd rfl (k2 _ _)
 exact qb1 I' g.s r (Vok.rd q) k2 λtk=>k3 (.bl _) _ F' H' _ g rfl rfl (I'.tok tk)
def jR:D->R En
 | .int i=>okI (-i)
 | _=>.stuck
def wB(z:"S" e fe):"S" (.UnaryOp .USub e pos) (eUn jR fe):=by
 refine λpins s σ F H ρ Q S I h=>UnaryOp_ (z pins s σ F H ρ _ S I ((KE.bind h).imp λw k v u F' H' s' g q r I'=>?_))
 have q:=Vok.rd q
 revert k
 generalize w.d=d at q;intro k;cases d<;>first|exact k.elim|skip
 cases RdV.int q;obtain⟨t,rfl⟩:=r;exact neg_int (k _[6] _ F' H' _ g rfl #[_,rfl] (I'.tok _))
def zL:D->D->R En
 | .int i,.int j=>okI (i+j)
 | _,_=>.stuck
def qb3:OpD X (binaryOp .Add) zL:=vA To λF H x y dx dy Q l qx qy w=>by
 cases dx<;>first|exact w.elim|skip
 cases dy<;>first|exact w.elim|skip
 exact#[_,_,RdV.int qx,RdV.int qy,jn l w rfl]
end
theorem Zt{κ:Kx}:∀ ns:List Int,Reps κ F (ns.map V.int) (ns.map D.int)
 | []=>rfl
 | n::ns=>#[.int n,ns.map V.int,rfl,rfl,Zt ns]
def qb4{κ:Kx}(dn)(z:List Int)(B:SqL κ.K H a (z.map V.int))(h:dn [.fz (.lst (z.map D.int))]=.ok (.bl true)[8]):spD κ dn 1 [.ref a] H (λv _=>v=.bl true) E :=
 #[rfl,H,[.fz (.lst (z.map D.int))],Le.refl,#[.ref a,[],rfl,#[a,_,rfl,B,Zt z],rfl],by rw[h];exact λv F' H' g q=>q]
section
variable{X:Cx}
def Yl:OpD X (inplaceOp .Sub) qZ:=vA Tv λF H x y dx dy Q l qx qy w=>by
 cases dx<;>first|exact w.elim|skip
 cases dy<;>first|exact w.elim|skip
 exact#[_,_,RdV.int qx,RdV.int qy,jn l w rfl]
def Qy:OpD X (inplaceOp .Add) zL:=vA Tu λF H x y dx dy Q l qx qy w=>by
 cases dx<;>first|exact w.elim|skip
 cases dy<;>first|exact w.elim|skip
 exact#[_,_,RdV.int qx,RdV.int qy,jn l w rfl]
end
def vt{α β:Type}(f:α->Option β):List α->Option (List β)
 | []=>↑[]
 | x::r=>match f x with
  | some y=>(match vt f r with|some ys=>↑(y::ys)|none=>none)
  | none=>none
def Ym{r:List α}{l:List β}(h:vt f (x::r)=!l):∃ y ys,f x=!y/\vt f r=!ys/\l=y::ys:=by
 unfold vt at h;cases e:f x with
 | none=>rw[e]at h;cases h
 | some y =>
  cases e2:vt f r with
  | none=>rw[e,e2]at h;cases h
  | some ys=>rw[e,e2]at h;cases h;exact#[y,ys,rfl,rfl,rfl]
def vE(K:Frag):Nat->aa->Option D
 | 0,_=>none
 | n+1,v=>match v with
  | .none=>some .non
  | .bool b=>!(.bl b)
  | .int i _=>!i[6]
  | .str x _=>!(.str x)
  | .ref a=>(match K.lookup a with
   | some o=>(match o.data with
    | .seq its _ =>
     if its.size<=100000 then
      (if o.cls==.type "tuple" then(vt (vE K n) its[2]).map .tup
      else if o.cls==.type "list"&&o.dict==none then(vt (vE K n) its[2]).map .lst else none)
     else none
    | .dict es _ =>
     if o.cls==.type "dict"&&o.dict==none&&o.slots.size==0&&not (a==sysModules)then
      (match vt (λe:DictEntry=>match e.key with
       | .int i _=>if e.hash=hashInt i then(vE K n e.val).map λd=>((Sum.inl i:Sum Int Str),d)else none
       | _=>none) es[2] with
      | some l=>if (l.map (·.1)).Nodup then !(.dK l)else none
      | none=>none)
     else none
    | _=>none)
   | none=>none)
  | _=>none
def Yn:∀ n v d,vE κ.K n v=!d->∃ x,RelV x v/\∀ F,Rep κ F x d:=by
 intro n
 induction n with
 | zero=>intro v d h;cases h
 | succ n ih =>
  have z:∀ vs ds,vt (vE κ.K n) vs=!ds->∃ xs,Vals xs vs/\∀ F,Reps κ F xs ds:=by
   intro vs
   induction vs with
   | nil=>intro ds h;cases h;exact#[[],.nil,λ_=>rfl]
   | cons v vs ihv =>
    intro ds h;obtain⟨d,U,h1,h2,rfl⟩:=Ym h;obtain⟨x,rx,qx⟩:=ih v d h1;obtain⟨xs,rs,qs⟩:=ihv U h2;exact#[x::xs,.cons rx rs,λF=>#[x,xs,rfl,qx F,qs F]]
  have B:∀ es l,vt (λe=>match e.key with
       | .int i _=>if e.hash=hashInt i then(vE κ.K n e.val).map λd=>((Sum.inl i),d)else none
       | _=>none) es=↑l ->
    ∃ kvs vs,KV kvs vs/\Pairs (je κ.P κ.w) es vs/\vs.map (·.1)=l.map (·.1)/\(∀ e∈es,∃ k,(je κ.P κ.w).is k e.key=true/\e.hash=(je κ.P κ.w).hash k)/\∀ F,RepK κ F kvs l:=by
   intro es
   induction es with
   | nil=>intro l h;cases h;exact#[[],[],.nil,.nil,rfl,λe he=>(nomatch he),λ_=>rfl]
   | cons e es ihe =>
    intro l h;obtain⟨y,ys,h1,h2,rfl⟩:=Ym h;obtain⟨kvs,vs,r1,r2,r3,r4,r5⟩:=ihe ys h2;cases ek:e.key with
    | int i t =>
     rw[ek]at h1;dsimp only at h1;by_cases c:e.hash=hashInt i
     .rw[if_pos c]at h1;cases ed:vE κ.K n e.val with
      | none=>rw[ed]at h1;cases h1
      | some d =>
       rw[ed]at h1;cases h1;obtain⟨x,rx,qx⟩:=ih e.val d ed;have hk:(je κ.P κ.w).is (Sum.inl i) e.key=true:=by rw[ek];exact WF _ _ i t
       refine#[(Sum.inl i,x)::kvs,(Sum.inl i,e.val)::vs,.cons #[rfl,rx] r1,.cons hk rfl r2,by simp[r3],λe' he=>?_,λF=>#[x,kvs,rfl,qx F,r5 F]]
       rcases gy.mp he with rfl|he
       .exact#[Sum.inl i,hk,c]
       exact r4 e' he
     rw[if_neg c]at h1;cases h1
    | _=>rw[ek]at h1;cases h1
  intro v d h;unfold vE at h;cases v<;>first|(cases h;done)|skip
  .cases h;exact#[.non,rfl,λ_=>rfl]
  .cases h;exact#[.bl _,rfl,λ_=>rfl]
  .cases h;exact#[.int _,#[_,rfl],λ_=>rfl]
  .cases h;exact#[.str _,#[_,rfl],λ_=>rfl]
  rename_i a;dsimp only at h;cases ek:κ.K.lookup a with
  | none=>rw[ek]at h;cases h
  | some o =>
   rw[ek]at h;dsimp only at h;cases ed:o.data with
   | seq its m =>
    rw[ed]at h;dsimp only at h;by_cases c:its.size<=100000
    .rw[if_pos c]at h;have hz:its.size<=sizeLine:=by rw[pG];lia
     by_cases c1:(o.cls==Value.type "tuple")=true
     .rw[if_pos c1]at h;cases e2:vt (vE κ.K n) its[2] with
      | none=>rw[e2]at h;cases h
      | some ds =>
       rw[e2]at h;cases h;obtain⟨xs,rs,qs⟩:=z its[2] ds e2;exact#[.ref a,rfl,λF=>#[a,xs,rfl,.inr #[o,its,m,ek,by simpa using c1,ed,hz,rs],qs F]]
     rw[if_neg c1]at h;by_cases c2:(o.cls==Value.type "list"&&o.dict==none)=true
     .rw[if_pos c2]at h;rw[gZ]at c2;cases e2:vt (vE κ.K n) its[2] with
      | none=>rw[e2]at h;cases h
      | some ds =>
       rw[e2]at h;cases h;obtain⟨xs,rs,qs⟩:=z its[2] ds e2;exact#[.ref a,rfl,λF=>#[a,xs,rfl,.inr #[o,its,m,ek,by simpa using c2.1,by simpa using c2.2,ed,hz,rs],qs F]]
     rw[if_neg c2]at h;cases h
    rw[if_neg c]at h;cases h
   | dict es ep =>
    rw[ed]at h;dsimp only at h;by_cases c:(o.cls==Value.type "dict"&&o.dict==none&&o.slots.size==0&&not (a==sysModules))=true
    .rw[if_pos c]at h;simp[gZ]at c;obtain⟨⟨⟨c1,c2⟩,c3⟩,c4⟩:=c
     revert h
     generalize e2:vt _ es[2]=ol;intro h;cases ol with
     | none=>cases h
     | some l =>
      dsimp only at h;by_cases c5:(l.map (·.1)).Nodup
      .rw[if_pos c5]at h;cases h;obtain⟨kvs,vs,r1,r2,r3,r4,r5⟩:=B es[2] l e2;have O:o.slots=#[]:=by
        have:o.slots.size=0:=by simpa using c3
        exact Array.eq_empty_of_size_eq_zero this
       refine#[.ref a,rfl,λF=>#[a,kvs,rfl,.inr #[by simpa using c4,o,es,ep,vs,ek,#[by simpa using c1,by simpa using c2,O],ed,λe he=>r4 e he[""],r2,by rw[r3];exact c5,r1],r5 F]]
      rw[if_neg c5]at h;cases h
    rw[if_neg c]at h;cases h
   | _=>rw[ed]at h;cases h
def ro:Option En->Option En
 | some d[9]=>!(.br d)
 | some (.od _)=>none
 | o=>o
def zo(ad:En->R D)(gf:GF)(t:TF)(e:EF):List D->Rho->R (List D)
 | [],_=>.ok []
 | d::r,ρ=>(gf d ρ).bind λρ1=>(t ρ1).bind λb=>if b=true then(e ρ1).bind λw=>(ad w).bind λy=>(zo ad gf t e r ρ1).bind λys=>.ok (y::ys)else zo ad gf t e r ρ1
def qR(n:Nat)(ρ:Rho):Rho:=ρ.map ro++List.replicate n none
def u8(ad:En->R D)(fi:List D->En)(n:Nat)(it:IF)(gf:GF)(t:TF)(e:EF):EF:=λρ=>(it ρ).bind λds=>if ds[1]<=sz then(zo ad gf t e ds (qR n ρ)).bind λys=>.ok (fi ys)else .stuck
abbrev qE:=u8 En.st λys=>.ow (.lst ys)
def qI:TF:=λ_=>.ok true
def compLoop{R:Result->ab->Prop}(I:Nat->ab->Prop)
  (Z:∀ n s,I n s->wpAny (model prog w) A (pyNext it) (λr z=>match r with
   | none=>R (.ok .next) z
   | some v=>wpAny (model prog w) A (letOwnedTupleGo target it v) (λ_ s₀=>wpAny (model prog w) A (assign target env v) (λ_ s₂ =>
     wpAny (model prog w) A (forIn ifs true λc r=>if r=true then do let ok <- isTrue c env (eval c env);pure (ForInStep.yield ok)else pure (ForInStep.yield r)) (λok B =>
      if ok=true then wpAny (model prog w) A (eval elt env) (λx O =>
       wpAny (model prog w) A (call (.builtin "list.append") [acc,x]) (λ_ U=>∃ m,m<n/\I m U) (λ_ _=>False) O) (λ_ _=>False) B
      else ∃ m,m<n/\I m B) (λ_ _=>False) s₂) (λ_ _=>False) s₀) (λ_ _=>False) z) (λ_ _=>False) s)
  (n) (h:I n s):codeAny (model prog w) A (.compLoop (.ListComp elt [#[target,iter,ifs,0]] scope pos) 0 it acc env) R s:=by
 refine codeAny_loop rfl I (λn s hI=>?_) n h
 refine wpAny_noted ?_;rw[compTurn_list];refine g6 (bZ (g6 (cB (Z n s hI) (λr z h₁=>?_) λ_ _ h'=>h'.elim)))
 cases r with
 | none=>exact gu h₁
 | some v =>
  refine g6 (cB h₁ (λ_ s₀ h₀=>g6 (cB h₀ (λ_ s₂ h3=>g6 (cB h3 (λok B Y=>?_) λ_ _ h'=>h'.elim)) λ_ _ h'=>h'.elim)) λ_ _ h'=>h'.elim)
  cases ok with
  | false=>exact gu #[rfl,Y]
  | true=>exact g6 (g6 (cB Y (λx O h4=>g6 (cB h4 (λ_ U h5=>gu (gu #[rfl,h5])) λ_ _ h'=>h'.elim)) λ_ _ h'=>h'.elim))
def Cap(env:Env)(cl:List (Str×Addr)):List (Str×NameKind)->Prop
 | []=>True
 | (n,k)::r=>(k≠.cell/\(k=.free->env.kindOf n=some .cell/\cl.lookup n=env.cells.lookup n))/\Cap env cl r
def ClIn(env:Env):List (Str×Addr)->Prop
 | []=>True
 | (n,c)::r=>env.cells.lookup n=!c/\ClIn env r
theorem ClIn.look:∀{cl},ClIn env cl->∀{x c},cl.lookup x=!c->env.cells.lookup x=!c
 | [],_,x,c,h=>by simp at h
 | (n,a)::r,q,x,c,h=>by
  obtain⟨q1,q2⟩:=q;by_cases e:x=n
  .simp_all
  have:(x==n)=false:=by simpa using e
  simp[List.lookup,this]at h;exact ClIn.look q2 h
theorem Cap.mem{cl:List (Str×Addr)}:∀{names},Cap env cl names->∀ y∈names,y.2≠.cell/\(y.2=.free->env.kindOf y.1=some .cell/\cl.lookup y.1=env.cells.lookup y.1)
 | [],_,y,hy=>by cases hy
 | (n,k)::r,h,y,hy=>by
  rcases gy.mp hy with rfl|hy
  .exact h.1
  exact Cap.mem h.2 y hy
theorem Qz{env:Env}:∀{names:List (Str×NameKind)} {x},(∀ y∈names,y.2≠.cell) ->
    ((names.map λ(n,k)=>if (k==NameKind.free&&env.scope.kind==.function&&env.kindOf n==some .cell)then(n,NameKind.cell)else(n,k)).lookup x=some .cell \/
     (names.map λ(n,k)=>if (k==NameKind.free&&env.scope.kind==.function&&env.kindOf n==some .cell)then(n,NameKind.cell)else(n,k)).lookup x=some .free)->(x,NameKind.free)∈names
  | [],_,_,h=>by rcases h with h|h<;>simp at h
  | (n,k)::r,x,hc,h=>by
    rw[gN]at h;by_cases hx:x=n
    · subst hx
      by_cases q:(k==NameKind.free&&env.scope.kind==.function&&env.kindOf x==some .cell)=true
      · simp_all
      simp_all
    have hb:(x==n)=false:=by simpa using hx
    refine gj _ ((@Qz env r x λy hy=>hc y (gj _ hy)) ?_)
    dsimp only at h;by_cases q:(k==NameKind.free&&env.scope.kind==.function&&env.kindOf n==some .cell)=true
    · rw[if_pos q]at h
      simpa only[pH,hb]using h
    rw[if_neg q]at h
    simpa only[pH,hb]using h
def cxF(fn:Str->Bool)(X:Cx)(s₂:ab)(H₂:Hp)(scope:Scope)(cl:List (Str×Addr))(C:Addr)(fp:List Addr)(N:List Str):Cx where
 prog:=X.prog
 w:=X.w
 K:=X.K
 mg:=X.mg
 base:=X.base
 A:=X.A
 N:=N
 s₀:=s₂
 H₀:=H₂
 env:=compEnvC scope cl C X.env
 outer:=X.stack
 stack:=X.stack
 ex:=fp
 fn:=fn
 calm:=X.calm
 pn:=[]
 xe:=λ_ _=>False
abbrev cxC:Cx->ab->Hp->Scope->List (Str×Addr)->Addr->List Addr->List Str->Cx:=cxF λ_=>false
def wC(z:List (Str×NameKind)):List Str->List Str->Bool
 | a::as,b::bs=>(match z.lookup b with|some .local=>false|some .free=>false|some .cell=>a==b|_=>true)&&wC z as bs
 | [],_=>true
 | _::_,[]=>true
def Zu(z:Scope)(M N:List Str):Prop:=∀(i:Nat) (x:Str),i<M[1]->N[i]?=!x->Vis z x->M[i]?=!x/\z.names.lookup x=some .cell
theorem Zv:∀{M N},wC sc.names M N=true->Zu sc M N
 | [],_,_,i,x,hi,_,_=>by simp at hi
 | _::_,[],_,i,x,_,e,_=>by simp at e
 | a::as,b::bs,h,0,x,_,e,v=>by
  unfold wC at h;rw[gZ]at h;simp at e;subst e;cases q:sc.names.lookup b with
  | none=>rcases v with v|v|v<;>rw[q]at v<;>cases v
  | some k =>
   rw[q]at h;rcases v with v|v|v
   .rw[q]at v;cases v;exact absurd h.1 pX
   .rw[q]at v;cases v
    simp_all
   rw[q]at v;cases v;exact absurd h.1 pX
 | a::as,b::bs,h,i+1,x,hi,e,v=>by
  unfold wC at h;rw[gZ]at h;have:=Zv h.2 i x hi[""] e[""] v
  assumption
def Yo(n)(S:StOk κ F0 H0 F H ρ σ):StOk κ F H F H (qR n ρ) (σ++List.replicate n none):=by
 have at_:∀(i:Nat) w,(qR n ρ)[i]?=!(!w)->∃ w',ρ[i]?=!(!w')/\ro ↑w'=!w:=λi w e=>by
  unfold qR at e;by_cases hi:i<ρ.length
  .rw[t3 hi[""],gG]at e
   cases q:ρ[i]? with
   | none=>rw[q]at e;cases e
   | some y =>
    rw[q]at e;cases y with
    | none=>cases e
    | some w'=>exact#[w',rfl,by simpa using e]
  rw[hE hi[""],fJ]at e
  lia
 refine#[Gr.refl S.s,by simp[qR,S.len],λi w e=>?_,λi j w w' a z ei ej oi oj si sj=>?_,λi y e=>?_]
 .obtain⟨w',e1,e2⟩:=at_ i w e;obtain⟨v,ev,q⟩:=S.val i w' e1;refine#[v,by rw[t3 ((gp.mp ev).1)];exact ev,?_]
  cases w' with
  | fz d=>cases e2;exact q
  | ow d=>cases e2;obtain⟨a,o,e,_,_,eh,r⟩:=q;exact#[a,o,e,eh,r]
  | lk d=>cases e2;exact q
  | od d=>cases e2
  | br d=>cases e2;obtain⟨a,o,e,eh,r⟩:=q;exact#[a,o,e,S.gr.h _ _ eh,r]
 .obtain⟨w1,e1,e2⟩:=at_ i w ei;cases w1<;>cases e2<;>cases oi
 obtain⟨w',e1,e2⟩:=at_ i _ e;cases w'<;>cases e2
def StOk.side{F0 H0 F H:Hp}(S:StOk κ F0 H0 F H ρ σ)(h0:H0 p=none)(B:F p=none)(z:∀(i:Nat) w,ρ[i]?=!(!w)->w.own=false):StOk κ F0 H0 F (upd H p o) ρ σ:=by
 refine#[#[S.gr.f,λa u h=>?_,λa u h=>?_,S.gr.n],S.len,λi w e=>?_,S.sep,λi d e=>by cases z i _ e]
 .rw[qr (jH h h0)];exact S.gr.h a u h
 .rw[qr (jH h B)];exact S.gr.s a u h
 obtain⟨v,e1,q⟩:=S.val i w e;refine#[v,e1,?_];have:=z i w e;cases w with
 | fz d=>exact q
 | br d=>exact q
 | ow d=>cases this
 | lk d=>exact q
 | od d=>cases this
section
variable{X:Cx}{pins:List (Addr×Obj)}{σ:St}{H₂:Hp}{s₂:ab}{fp:List Addr}{it:Addr}{tn:Nat->Heap->Prop}{J:It}{tg:Expr}{scope:Scope}{cl:List (Str×Addr)}{N:List Str}{n:Nat}
def qb5(B:"I" H₂ s₂)(T:Turn X.prog X.w X.K tg J fp it tn)(st:tn 0 s₂.heap)(f2:∀ b∈fp,FpOk X pins H₂ b)(U:scope.kind=.function)(O:Cap X.env cl scope.names)(Y:ClIn X.env cl)
  (hC:s₂[0]<=C):(cxC X s₂ H₂ scope cl C fp N).Ok:=by
 have Z:∀ x,((cxC X s₂ H₂ scope cl C fp N).env.kindOf x=some .cell\/(cxC X s₂ H₂ scope cl C fp N).env.kindOf x=some .free)->(x,NameKind.free)∈scope.names:=λx h =>
  Qz (λy hy=>(Cap.mem O y hy).1) h
 refine#[B.ok.mod,U,B.ok.glob,B.ok.blt,hC,λx y c h1 h2=>B.ok.inj x y c (ClIn.look Y h1) (ClIn.look Y h2),λx hx=>?_,λx c h=>(by cases h),B.ok.hd,B.ok.frames,.inl rfl,λb hb=>?_,B.bs,f8 B.ok.bsz B.sz,λb o e hb=>?_,λb hb z=>?_,B.stack,B.stkFree]
 .obtain⟨q1,q2⟩:=(Cap.mem O _ (Z x hx)).2 rfl;obtain⟨c,hc⟩:=B.ok.has x (.inl q1);exact#[c,q2.trans hc]
 .obtain⟨f0,f1,f3,f4,f5,f6⟩:=f2 b hb;obtain⟨o,ho,_⟩:=T.obj 0 _ st b hb;exact#[hV (t4 (gK ho) hC),λx c e=>f5 x c (ClIn.look Y e)]
 .obtain⟨f0,f1,f3,f4,f5,f6⟩:=f2 b hb;rcases f4 with f4|f4
  .exact B.ok.noex b o e f4
  exact absurd (t4 (gK (B.ok.bs b o e).1) f4) (fB _)
 obtain⟨f0,f1,f3,f4,f5,f6⟩:=f2 b hb;rcases gy.mp (B.stkSub b z)with q|q
 .exact f1 q
 exact f3 q
def qb6(O:"I" H₂ s₂)(T:Turn X.prog X.w X.K tg J fp it tn)(st:tn 0 s₂.heap)(f2:∀ b∈fp,FpOk X pins H₂ b)(Z:scope.kind=.function)(U:Cap X.env cl scope.names)(Y:ClIn X.env cl)
  (hsl:Zu (relabel scope X.env) X.N N)(h4:N[1]=X.N.length+n){C tk:Nat}{h₁:Heap}{m:Str->Option aa}(hC:s₂[0]<C)(hns:h₁.Ns C m)(old:∀ b o,s₂.heap.get? b=!o->h₁.get? b=!o)
  (h5:h₁.get? s₂[0]=some {cls:=.type "list",data:=.seq #[] 0}) :
  Inv (cxC X s₂ H₂ scope cl C fp N) [] (σ++List.replicate n none) (upd H₂ s₂[0] (.lst [])) {s₂ with heap:=h₁,toks:=tk}:=by
 have hf:H₂ s₂[0]=none:=O.hok.fresh (gw _);have hfC:H₂ C=none:=O.hok.fresh (pC hC);have B:∀ x c,X.env.cells.lookup x=!c->∀ v,s₂.heap.IsCell c v->h₁.IsCell c v:=λx c _ v #[o,ho,hd]=>#[o,old _ _ ho,hd]
 have cne:∀ x c,X.env.cells.lookup x=!c->c<s₂[0]:=λx c e=>by
  obtain⟨v,o,ho,_⟩:=O.cell x c e;exact gK ho
 refine#[qb5 O T st f2 Z U Y (pC hC),rfl,O.bare,Un.laid old (gw _) hf,#[m,hns,λi x v e1 e2 e3=>?_],λx c e=>?_,?_,λx c e=>?_,λp hp=>absurd (show p∈[]from hp) "s",?_,?_]
 .have hi:i<σ.length:=by
   by_cases hi:i<σ.length
   .exact hi
   rw[hE "",fJ]at e2
   simp_all
  rw[t3 hi]at e2;obtain⟨q1,q2⟩:=hsl i x (by rw[<- O.len];exact hi) e1 e3
  have q3:(x,NameKind.free)∈scope.names:=Qz (env:=X.env) (λy hy=>(Cap.mem U y hy).1) (.inl q2)
  obtain⟨k1,k2⟩:=(Cap.mem U _ q3).2 rfl;obtain⟨m2,hn2,hl⟩:=O.loc;obtain⟨u,ru,lk⟩:=hl i x v q1 e2 (.inr (.inl k1));refine#[u,ru,?_];rcases lk with⟨z,_⟩|⟨_,c,hc,h3⟩
  .simp_all
  exact .inr #[.inl q2,c,by show cl.lookup x=!c;exact k2.trans hc,B x c hc _ h3]
 .obtain⟨v,q⟩:=O.cell x c (ClIn.look Y e);exact#[v,B x c (ClIn.look Y e) v q]
 .show upd H₂ s₂[0] (.lst []) C=none;rw[qr (fV hC)];exact hfC
 .have:=cne x c (ClIn.look Y e);rw[qr (hV this)];exact O.freeC x c (ClIn.look Y e)
 .exact O.hok.laid old (gw _) #[tJ _,[],0,.nil,h5]
 simp[O.len,h4,cxC,cxF]
def wZ(ρ:Rho):Prop:=∀(i:Nat) (w:En),ρ[i]?=!(!w)->w.own=false
def yG(gf:GF):Prop:=∀ d ρ ρ1,wZ ρ->gf d ρ=.ok ρ1->wZ ρ1
def qb7(h:wZ ρ)(i)(d):wZ (ρ.set i (!d[8])):=λj w e=>by
 rcases qC e with⟨_,z⟩|⟨_,z⟩
 .cases z;rfl
 exact h j w z
def za(i):yG (gV i):=λd ρ ρ1 h e=>by cases e;exact qb7 h i d
def Yp(n)(ρ):wZ (qR n ρ):=λi w e=>by
 unfold qR at e;by_cases hi:i<ρ.length
 .rw[t3 hi[""],gG]at e
  cases q:ρ[i]? with
  | none=>rw[q]at e;cases e
  | some y =>
   rw[q]at e;cases y with
   | none=>cases e
   | some w'=>cases w'<;>first|(simp[ro]at e;done)|(simp[ro]at e;subst e;rfl)
 rw[hE hi[""],fJ]at e
 lia
inductive Tests(X:Cx)(F0 H0:Hp):List Expr->TF->Prop
 | nil:Tests X F0 H0 [] qI
 | one {c:Expr} {t:TF}:ST X F0 H0 c t->Tests X F0 H0 [c] t
def qb8{X:Cx}{t:TF}(h:Tests X F0 H0 ifs t){Q:Bool->ab->Prop}(S:StOk (kx X) F0 H0 F H ρ σ)(I:"I" H s)
  (k:KE (XP X F0 H0) (t ρ) λb=>∀ F' H' s',Gr F H F' H'->"I" H' s'->Q b s') :
  X[3] (forIn ifs true λc r=>if r=true then do let ok <- isTrue c X.env (eval c X.env);pure (ForInStep.yield ok)else pure (ForInStep.yield r)) Q X.xe s:=by
 cases h with
 | nil=>exact wpAny_tests_nil (k F H s (Gr.refl S.s) I)
 | one h=>exact wpAny_tests_one (h pins s σ F H ρ Q S I k)
structure Mm(κ:Kx)(H₂:Hp)(p:Addr)(ad:En->R D)where
 RL:Hp->Hp->List V->List D->Prop
 nil:∀ F H,RL F H [] []
 len:∀{F H vs as},RL F H vs as->vs[1]=as[1]
 gr:∀{F H F' H' vs as},Gr F H F' H'->RL F H vs as->RL F' H' vs as
 step:∀{F H F' H' vs as v w y},Gr F H F' H'->Le F H->Le H₂ H->H p=!(.lst vs)->Vok κ H F' H' v w->ad w=.ok y->RL F H vs as->∃ F9,Gr F H F9 H'/\RL F9 (upd H' p (.lst (vs++[v]))) (vs++[v]) (as++[y])
def QA(κ:Kx)(H₂:Hp)(p:Addr):Mm κ H₂ p En.st where
 RL F _ vs as:=Reps κ F vs as
 nil _ _:=rfl
 len:=Reps.length
 gr g r:=Reps.le g.f _ r
 step g l _ _ q e r:=by
  obtain⟨g9,_⟩:=vm l g;exact#[_,g9,Reps.append (Reps.le g9.f _ r) (Reps.one (Vok.st l g q e))]
def Yq{X:Cx}{pins:List (Addr×Obj)}{σ:St}{F₂ H₂:Hp}{s₂ O:ab}{fp:List Addr}{it:Addr}{tn:Nat->Heap->Prop}{J:It}{tg elt iter:Expr}{ifs:List Expr}{scope:Scope}{cl:List (Str×Addr)}{N:List Str}{C p:Addr}
  {σ':St}{ρ':Rho}{ds:List D}{pos:Pos}{gf:GF}{t:TF}{e:EF}{RR:Result->ab->Prop}{ad:En->R D}(M:Mm (kx X) H₂ p ad)(h3:Le F₂ H₂)(T:Turn X.prog X.w X.K tg J fp it tn)(hc:X.calm=true)(st:tn 0 O.heap)(Wk:Walk (kx X) J F₂ H₂ ds)
  (hfp:∀ b∈fp,FpOk (cxF fn X s₂ H₂ scope cl C fp N) [] (upd H₂ p (.lst [])) b)(hp:H₂ p=none)(I4:Inv (cxF fn X s₂ H₂ scope cl C fp N) [] σ' (upd H₂ p (.lst [])) O)(S4:StOk (kx X) F₂ H₂ F₂ H₂ ρ' σ')(no:wZ ρ')(hno:yG gf)
  (hg:SG (cxF fn X s₂ H₂ scope cl C fp N) F₂ H₂ tg gf)(ht:Tests (cxF fn X s₂ H₂ scope cl C fp N) F₂ H₂ ifs t)(he:SE (cxF fn X s₂ H₂ scope cl C fp N) F₂ H₂ elt e)(hsz:ds[1]<=sz)
  (k:KE (λ_=>False) (zo ad gf t e ds ρ') λys=>∀ B F1 H1 vs s1,Gr F₂ H₂ F1 H1->F1 p=none->H1 p=!(.lst vs)->M.RL F1 H1 vs ys->Inv (cxF fn X s₂ H₂ scope cl C fp N) [] B H1 s1->RR (.ok .next) s1) :
  codeAny (model X.prog X.w) X.A (.compLoop (.ListComp elt [#[tg,iter,ifs,0]] scope pos) 0 (.ref it) (.ref p) (compEnvC scope cl C X.env)) RR O:=by
 have Y:∀{H'},(∀ b∈fp,H' b=none)->∀ b∈fp,FpOk (cxF fn X s₂ H₂ scope cl C fp N) [] H' b:=λhn b hb=>#[hn b hb,(hfp b hb).2]
 obtain⟨tgv,PGv,hgv⟩:=hg;refine compLoop (λm s=>∃ i B F1 H1 ρ1 vs,∃ as,m=ds[1]-i/\i<=ds[1]/\Inv (cxF fn X s₂ H₂ scope cl C fp N) [] B H1 s/\tn i s.heap/\(∀ b∈fp,H1 b=none)/\StOk (kx X) F₂ H₂ F1 H1 ρ1 B/\wZ ρ1 /\
  F1 p=none/\H1 p=!(.lst vs)/\M.RL F1 H1 vs as/\as[1]<=i /\
  KE (λ_=>False) (zo ad gf t e (ds.drop i) ρ1) λys=>∀ B F1 H1 vs s1,Gr F₂ H₂ F1 H1->F1 p=none->H1 p=!(.lst vs)->M.RL F1 H1 vs (as++ys)->Inv (cxF fn X s₂ H₂ scope cl C fp N) [] B H1 s1->RR (.ok .next) s1) ?_ ds[1]
  #[0,σ',F₂,upd H₂ p (.lst []),ρ',[],[],by simp,tJ _,I4,st,λb hb=>(hfp b hb).1,S4.side hp (Le.none h3 hp) no,no,Le.none h3 hp,qL,M.nil _ _,gw _,by simpa using k]
 rintro m s ⟨i,B,F1,H1,ρ1,vs,as,rfl,hi,I1,st1,fr1,S1,no1,fp1,hp1,rs1,la,k1⟩;by_cases hlt:i<ds[1]
 .have ed:ds[i]?=!ds[i]:=by simp[hlt]
  have edr:ds.drop i=ds[i]::ds.drop (i+1):=fS hlt;obtain⟨go,yl⟩:=Wk.go i ds[i] F1 H1 ed S1.gr.f S1.s S1.gr.h;rw[edr]at k1;refine thn (T.item (cxF fn X s₂ H₂ scope cl C fp N) rfl rfl rfl hc i [] s B H1 _ I1 (Y fr1) st1 go) λr s1' #[u,hr,h4]=>?_
  subst hr;refine thn h4 λ_ s5 #[x,H5,I5,r5,y5,st5,fr5]=>?_
  obtain⟨F5,g5,rx⟩:=yl x H5 y5;have I5':=I5.pinned (Y fr5) (T.obj _ _ st5);have S5:=S1.grow g5;have k1:=KE.bind k1;cases eg:gf ds[i] ρ1 with
  | exc z=>rw[eg]at k1;cases k1
  | stuck=>rw[eg]at k1;cases k1
  | ok ρ2 =>
   rw[eg]at k1;have no2:=hno _ _ _ no1 eg;have k1:KE (λ_=>False) (t ρ2) _:=KE.bind k1
   refine thn (PGv _ s5 B H5 x u (λσ6 H6=>H6=H5/\StOk (kx X) F₂ H₂ F5 H5 ρ2 σ6) I5' r5 (hgv B F5 H5 ρ1 x ds[i] _ S5 rx (by rw[eg];exact λB S=>#[rfl,S]))) λ_ s6 #[σ6,H6,I6,e6,S6]=>?_
   subst e6;have Z:∀{σ7} {F7 H7} {s7} {vs7} {U},Inv (cxF fn X s₂ H₂ scope cl C fp N) ([]++xM fp s5.heap) σ7 H7 s7->StOk (kx X) F₂ H₂ F7 H7 ρ2 σ7->F7 p=none->H7 p=!(.lst vs7)->M.RL F7 H7 vs7 U->U[1]<=i+1 ->
     KE (λ_=>False) (zo ad gf t e (ds.drop (i+1)) ρ2) (λys=>∀ B F1 H1 vs s1,Gr F₂ H₂ F1 H1->F1 p=none->H1 p=!(.lst vs)->M.RL F1 H1 vs (U++ys)->Inv (cxF fn X s₂ H₂ scope cl C fp N) [] B H1 s1->RR (.ok .next) s1) ->
     ∃ m,m<ds[1]-i/\∃ i B F1 H1 ρ1 vs,∃ as,m=ds[1]-i/\i<=ds[1]/\Inv (cxF fn X s₂ H₂ scope cl C fp N) [] B H1 s7/\tn i s7.heap/\(∀ b∈fp,H1 b=none)/\StOk (kx X) F₂ H₂ F1 H1 ρ1 B/\wZ ρ1 /\
      F1 p=none/\H1 p=!(.lst vs)/\M.RL F1 H1 vs as/\as[1]<=i /\
      KE (λ_=>False) (zo ad gf t e (ds.drop i) ρ1) (λys=>∀ B F1 H1 vs s1,Gr F₂ H₂ F1 H1->F1 p=none->H1 p=!(.lst vs)->M.RL F1 H1 vs (as++ys)->Inv (cxF fn X s₂ H₂ scope cl C fp N) [] B H1 s1->RR (.ok .next) s1):=by
    intro σ7 F7 H7 s7 vs7 U I7 S7 f7 h7 r7 l7 k7;refine#[ds[1]-(i+1),"",i+1,σ7,F7,H7,ρ2,vs7,U,rfl,hlt,I7.unpinned,T.keep _ _ _ st5 λb hb o e=>(I7.pin (b,o) (tm _ (tm _ (Qh hb e)))).1,λb hb=>?_,S7,no2,f7,h7,r7,l7,k7]
    obtain⟨o,e,d⟩:=T.obj _ _ st5 b hb;exact(I7.pin (b,o) (tm _ (tm _ (Qh hb e)))).2.1
   have nf5:F5 p=none:=g5.no fp1 (hp1);refine qb8 ht S6 I6 (KE.impX k1 (λb kb F7 H7 s7 g7 I7=>?_) λ_ z=>z)
   have nf7:F7 p=none:=g7.no nf5 (g5.h _ _ hp1);have hp7:H7 p=!(.lst vs):=g7.h _ _ (g5.h _ _ hp1);have g17:Gr F1 H1 F7 H7:=g5.trans g7;have l27:Le H₂ H7:=Le.trans S1.gr.h g17.h;cases b with
   | false =>
    rw[if_neg pX];exact Z I7 (S6.grow g7) nf7 hp7 (M.gr g17 rs1) "" kb
   | true =>
    rw[if_pos rfl];have kb:KE (λ_=>False) ((e ρ2).bind λw=>(ad w).bind λy=>(zo ad gf t e (ds.drop (i+1)) ρ2).bind λys=>.ok (y::ys)) _:=kb
    refine he _ s7 σ6 F7 H7 ρ2 _ (S6.grow g7) I7 (KE.impX (KE.bind kb) (λwv kw v u F8 H8 s8 g8 q8 r8 I8=>?_) λ_ z=>z)
    cases es:ad wv with
    | exc z=>rw[es]at kw;exact kw.elim
    | stuck=>rw[es]at kw;cases kw
    | ok y =>
     rw[es]at kw;have kw:KE (λ_=>False) ((zo ad gf t e (ds.drop (i+1)) ρ2).bind λys=>.ok (y::ys)) _:=kw
     have kw:=KE.bind kw;obtain⟨F9,g9,r9⟩:=M.step g8 g7.s l27 hp7 q8 es (M.gr g17 rs1);have S9:=(S6.grow g7).grow g9;have nf9:F9 p=none:=g9.no nf7 hp7;have lv:vs[1]=as[1]:=M.len rs1;refine thn (xN (X:=cxF fn X s₂ H₂ scope cl C fp N) _ s8 σ6 H8 (.ref p) [v] (.ref p) [u] (λ_ H9=>H9=upd H8 p (.lst (vs++[v]))) I8 rfl (.cons r8 .nil) #[p,vs,v,rfl,rfl,g8.h _ _ hp7,by rw[lv,<- zY];lia,rfl]) λ_ s9 #[_,H9,I9,_,e9]=>?_
     subst e9;refine Z I9 (S9.side hp nf9 no2) nf9 qL r9 (by simp;lia) ?_
     exact kw.imp λys q B F1 H1 vs s1=>by
      have:(as++[y])++ys=as++(y::ys):=by simp
      rw[this];exact q B F1 H1 vs s1
 have ei:i=ds[1]:=""
 subst ei;rw[du]at k1;refine thn (T.done (cxF fn X s₂ H₂ scope cl C fp N) rfl rfl rfl hc _ [] s B H1 _ I1 (Y fr1) st1 (Wk.stop _ F1 H1 (gw _) S1.gr.f S1.s S1.gr.h)) λr s4' #[hr,I4']=>?_
 subst hr;exact k1 B F1 H1 vs s4' S1.gr fp1 hp1 rs1[""] I4'
end
def clOf(env:Env):List (Str×NameKind)->List (Str×Addr)->List (Str×Addr)
 | [],cs=>cs
 | (n,k)::r,cs=>if k==.free then clOf env r ((n,(env.cells.lookup n).getD 0)::cs)else clOf env r cs
def vv(env:Env)(names:List (Str×NameKind)):Bool:=names.all λy=>y.2 != .cell&&(y.2 != .free||env.kindOf y.1==some .cell)
def Yr{env:Env}(z:vv env scope.names=true)(B:∀ n,env.kindOf n=some .cell->∃ c,env.cells.lookup n=!c):closureFor scope env=pure (clOf env scope.names []):=by
 have go:∀ names cs,vv env names=true ->
   (forIn names cs λx r=>match x with|(name,kind)=>if (kind==NameKind.free)=true then do let y <- cellOf env name;pure (ForInStep.yield ((name,y)::r))else pure (ForInStep.yield r))=pure (clOf env names cs):=by
  intro names
  induction names with
  | nil=>intro cs _;rfl
  | cons y r ih =>
   intro cs z;obtain⟨n,k⟩:=y;unfold vv at z;rw[fU,gZ,gZ]at z;rw[bD];by_cases hk:(k==NameKind.free)=true
   .have O:k=.free:=by simpa using hk
    have:env.kindOf n=some .cell:=by
     have:=z.1.2;simp[O]at this;simpa using this
    obtain⟨c,hc⟩:=B n this;have e:cellOf env n=pure c:=by simp[cellOf,hc]
    simp only[hk,e,clOf,hc];exact ih _ z.2
   simp only[hk,clOf];exact ih _ z.2
 exact congrArg (λm=>m >>= λs=>pure s) (go scope.names [] z)
theorem u9:∀ names cs,vv env names=true->(∀ n,env.kindOf n=some .cell->∃ c,env.cells.lookup n=!c)->ClIn env cs->ClIn env (clOf env names cs)
 | [],cs,_,_,h=>h
 | (n,k)::r,cs,hb,has,h=>by
  unfold vv at hb;rw[fU,gZ,gZ]at hb;unfold clOf;by_cases hk:(k==NameKind.free)=true
  .rw[if_pos hk];have z:k=.free:=by simpa using hk
   have:env.kindOf n=some .cell:=by
    have:=hb.1.2;simp[z]at this;simpa using this
   obtain⟨c,hc⟩:=has n this;exact u9 r _ hb.2 has #[by rw[hc];rfl,h]
  rw[if_neg hk];exact u9 r _ hb.2 has h
theorem Zw:∀ names cs,vv env names=true->(∀ n,env.kindOf n=some .cell->∃ c,env.cells.lookup n=!c)->ClIn env cs ->
  ∀ n,((n,NameKind.free)∈names\/(∃ c,cs.lookup n=!c))->∃ c,(clOf env names cs).lookup n=!c
 | [],cs,_,_,_,n,h=>by
  rcases h with h|h
  .grind
  exact h
 | (m,k)::r,cs,hb,has,hcs,n,h=>by
  unfold vv at hb;rw[fU,gZ,gZ]at hb;unfold clOf;by_cases hk:(k==NameKind.free)=true
  .rw[if_pos hk];have z:k=.free:=by simpa using hk
   have hc:env.kindOf m=some .cell:=by
    have:=hb.1.2;simp[z]at this;simpa using this
   obtain⟨c,hc⟩:=has m hc;refine Zw r ((m,(env.cells.lookup m).getD 0)::cs) hb.2 has (And.intro (by rw[hc];rfl) hcs) n ?_
   by_cases e:n=m
   .simp_all
   rcases h with h|⟨c',h⟩
   .grind
   have:(n==m)=false:=by simpa using e
   exact .inr #[c',by simp[List.lookup,this,h]]
  rw[if_neg hk];refine Zw r _ hb.2 has hcs n ?_
  grind
def Ys{scope:Scope}{env:Env}(O:vv env scope.names=true)(B:∀ n,env.kindOf n=some .cell->∃ c,env.cells.lookup n=!c):Cap env (clOf env scope.names []) scope.names:=by
 have U:∀ names,(∀ y∈names,y∈scope.names)->Cap env (clOf env scope.names []) names:=by
  intro names
  induction names with
  | nil=>intro _;trivial
  | cons y r ih =>
   intro h;obtain⟨n,k⟩:=y;have hy:=h (n,k) t8;have q:=tW.mp O (n,k) hy;simp only[gZ]at q;refine#[#[by simpa using q.1,λhk=>?_],ih λz hz=>h z (gj _ hz)]
   subst hk;have q2:env.kindOf n=some .cell:=by
    simp_all
   obtain⟨c,hc⟩:=Zw scope.names [] O B trivial n (.inl hy);exact#[q2,hc.trans (ClIn.look (u9 scope.names [] O B trivial) hc).symm]
 exact U scope.names λy hy=>hy
section
variable{X:Cx}{F0 H0:Hp}{pos:Pos}{tg elt iter:Expr}{ifs:List Expr}{scope:Scope}{fi:IF}{gf:GF}{t:TF}{e:EF}
abbrev cxD(X:Cx)(scope:Scope)(N:List Str)(s₂:ab)(H₂:Hp)(C:Addr)(fp:List Addr):Cx:=cxC X s₂ H₂ scope (clOf X.env scope.names []) C fp N
def okP{H H₂ F1 H1:Hp}(l:∀ c,H₂ c=none->H c=none)(h0:H₂ p=none)(z:F1 p=none)(B:H1 p=!(.lst vs))(rs:(QA κ H₂ p).RL F1 H1 vs ys):Vok κ H F1 H1 (.ref p) (.lst ys)[9]:=#[_,_,rfl,l _ h0,z,B,rs]
def Zx(N){ad:En->R D}{fn:List D->En}(M:∀ H₂ p,Mm (kx X) H₂ p ad)(hfn:∀{H H₂ F1 H1 p vs ys},(∀ c,H₂ c=none->H c=none)->H₂ p=none->F1 p=none->H1 p=!(.lst vs)->(M H₂ p).RL F1 H1 vs ys->Vok (kx X) H F1 H1 (.ref p) (fn ys)){use:Option (aa->Sem Unit)}(hi:SIc X F0 H0 tg iter fi)(hno:yG gf)
  (hg:∀ s₂ F₂ H₂ C fp,SG (cxD X scope N s₂ H₂ C fp) F₂ H₂ tg gf)(ht:∀ s₂ F₂ H₂ C fp,Tests (cxD X scope N s₂ H₂ C fp) F₂ H₂ ifs t)(he:∀ s₂ F₂ H₂ C fp,SE (cxD X scope N s₂ H₂ C fp) F₂ H₂ elt e)
  (hc:X.calm=true)(U:scope.kind=.function)(Z:vv X.env scope.names=true)(h4:wC (relabel scope X.env).names X.N N=true)(h6:N[1]=X.N.length+n)
  (h5:∀ x∈scope.names,x.2=.local->scope.names.lookup x.1=some .local)(hs:∀ x,foldedSetIterable iter X.env x=pure x)
  {pins:List (Addr×Obj)}{s:ab}{σ:St}{F H:Hp}{ρ:Rho}{Q:aa->ab->Prop}{h7:Pos}(S:StOk (kx X) F0 H0 F H ρ σ)(I:"I" H s)
  (h:KE (XP X F0 H0) (u8 ad fn n fi gf t e ρ) λw=>∀ p C F1 H1 s1 m,Gr F H F1 H1->Vok (kx X) H F1 H1 (.ref p) w->"I" H1 s1->s1.heap.Ns C m ->
   (∀ s2 H2 h' (σ':St),Inv X pins σ' H2 s2->H2 C=none->(∀ b o,b≠C->s2.heap.get? b=!o->h'.get? b=!o)->Inv X pins σ' H2 {s2 with heap:=h'})->H1 C=none->C≠X.env.locals->(∀ x c,X.env.cells.lookup x=!c->c≠C) ->
   compPost (model X.prog X.w) X.A X.xe use Q (.ref p) C (.ok .next) s1) :
  X[3] (comprehension (.ListComp elt [#[tg,iter,ifs,0]] scope pos) scope X.env h7 (newList []) false (eval iter X.env) use) Q X.xe s:=by
 have has:∀ n,X.env.kindOf n=some .cell->∃ c,X.env.cells.lookup n=!c:=λn hn=>I.ok.has n (.inl hn)
 have hCl:=u9 scope.names [] Z has trivial;have hCp:=Ys Z has;refine wpAny_comprehension_free rfl hs (Yr Z has) U h5 ?_;obtain⟨wi,PIv,hwi⟩:=hi;cases ed:fi ρ with
 | exc x=>have h:=KE.bind h;rw[ed]at h;exact h.elim
 | stuck=>have h:=KE.bind h;rw[ed]at h;cases h
 | ok ds =>
  have h:=KE.bind h;rw[ed]at h;refine thn (PIv pins s σ H (λJ H1=>∃ F1,Gr F H F1 H1/\Walk (kx X) J F1 H1 ds) I (hwi σ F H ρ _ S (by rw[ed];exact λF1 H1 J g W=>#[F1,g,W]))) λv s1 h1=>thn h1 λitv s₂ h2=>?_
  obtain⟨it,fp,tn,J,H₂,rfl,I2,T,st2,f2,F₂,g2,Wk⟩:=h2;refine tV (wpAny_newFunctionEnv (λx hx=>(Cap.mem hCp x hx).1) (by intro y hy;simp at hy) (λh₁ Y O=>?_) U)
  generalize hH2:s₂.heap.push {cls:=.type "list",dict:=none,data:=.seq [].toArray}=HP at Y O ⊢;have hC:HP.objs.size=s₂[0]+1:=by rw[<- hH2,pO]
  have hDC:s₂[0]≠HP.objs.size:=by rw[hC];exact hV (dq _)
  have old:∀ b o,s₂.heap.get? b=!o->h₁.get? b=!o:=λb o e =>
   O.extBut b o (hV (by rw[hC];exact fY (gK e))) (gq _ (hH2▸gq _ e))
  have h8:h₁.get? s₂[0]=some {cls:=.type "list",data:=.seq #[] 0}:=O.extBut _ _ hDC (gq _ (hH2▸gM _ rfl));have hp:H₂ s₂[0]=none:=I2.hok.fresh (gw _);have B:s₂[0]<HP.objs.size:=by rw[hC];exact dq _
  have I4:=qb6 (N:=N) (n:=n) (tk:=s₂.toks+([]:List (Str×aa))[1]) I2 T st2 f2 U hCp hCl (Zv h4) h6 B Y old h8;have st4:tn 0 h₁:=T.keep _ _ _ st2 λb hb o e=>old b o e
  have S4:StOk (kx X) F₂ H₂ F₂ H₂ (qR n ρ) (σ++List.replicate n none):=Yo n (S.grow g2);have h9:∀ b∈fp,FpOk (cxD X scope N s₂ H₂ HP.objs.size fp) [] (upd H₂ s₂[0] (.lst [])) b:=λb hb=>by
   obtain⟨f0,f1,f3,f4,f5,f6⟩:=f2 b hb;obtain⟨o,ho,_⟩:=T.obj 0 _ st2 b hb;have lb:=gK ho;refine#[by rw[qr (hV lb)];exact f0,(show b≠HP.objs.size from hV (pZ lb B)),λz=>?_,.inl hb,λx c e=>f5 x c (ClIn.look hCl e),λq hq=>absurd (show q∈[]from hq) "s"]
   rcases gy.mp (I2.stkSub b z)with q|q
   .exact f1 q
   exact f3 q
  rw[xU]at h;by_cases csz:ds[1]<=sz
  .rw[if_pos csz]at h;have run:∀ h3,h3={s₂ with heap:=h₁,toks:=s₂.toks+([]:List (Str×aa))[1]} ->
     codeAny (model X.prog X.w) X.A (.compLoop (.ListComp elt [#[tg,iter,ifs,0]] scope pos) 0 (.ref it) (.ref s₂[0]) (compEnvC scope (clOf X.env scope.names []) HP.objs.size X.env))
      (compPost (model X.prog X.w) X.A X.xe use Q (.ref s₂[0]) HP.objs.size) h3:=by
    rintro h3 rfl;refine Yq (pins:=pins) (σ:=σ) (N:=N) (s₂:=s₂) (F₂:=F₂) (M H₂ _) g2.s T hc st4 Wk h9 hp I4 S4 (Yp n ρ) hno (hg _ _ _ _ _) (ht _ _ _ _ _) (he _ _ _ _ _) csz (KE.impX (KE.bind h) (λys k σ1 F1 H1 vs s1 g1 nf hv rs I1=>?_) λ_ z=>z)
    have J1:"I" H1 s1:=I2.call' (ch:=fp) I1.os I1.base I1.hok I1.bare λb hb=>by
     obtain⟨f0,f1,f3,f4,f5,f6⟩:=f2 b hb;exact#[f4,f1,f5,f6]
    obtain⟨m1,hn1,_⟩:=I1.loc;have cl2:∀ x c,X.env.cells.lookup x=!c->c≠HP.objs.size:=λx c e z=>by
     obtain⟨v,o,ho,_⟩:=I2.cell x c e;exact fB _ (pZ (gK ho) (z▸B))
    have lne:HP.objs.size≠X.env.locals:=tf (hV (pZ I2.lt B));refine k s₂[0] HP.objs.size F1 H1 s1 m1 (g2.trans g1) (hfn (λc z=>Le.none g2.h z) hp nf hv rs) J1 hn1 (λs2 H2 h' σ' J2 hn kk=>?_) I1.free lne cl2
    refine J2.turned (t':=s2.toks) kk hn lne (.inr (f8 I2.sz (pC B))) cl2 λq hq z=>?_
    exact fB _ (pZ (gK (I2.pin q hq).1) (z▸B))
   exact codeAny_compStart_list (run _ rfl) (T.self _ 0 _ _ _ st4 (run _ rfl))
  rw[if_neg csz]at h;cases h
def zM{n:Nat}(N)(hi:SIc X F0 H0 tg iter fi)(Z:yG gf)
  (hg:∀ s₂ F₂ H₂ C fp,SG (cxD X scope N s₂ H₂ C fp) F₂ H₂ tg gf)(ht:∀ s₂ F₂ H₂ C fp,Tests (cxD X scope N s₂ H₂ C fp) F₂ H₂ ifs t)(he:∀ s₂ F₂ H₂ C fp,SE (cxD X scope N s₂ H₂ C fp) F₂ H₂ elt e)
  (hc:(X.calm=true)["r"])(O:(scope.kind=.function)["r"])(U:(vv X.env scope.names=true)["r"])(z:(wC (relabel scope X.env).names X.N N=true)["r"])(Y:(N[1]=X.N.length+n)["r"])
  (B:∀ x∈scope.names,x.2=.local->scope.names.lookup x.1=some .local:=by decide +kernel)(hs:∀ x,foldedSetIterable iter X.env x=pure x:=by intro _;rfl) :
  "S" (.ListComp elt [#[tg,iter,ifs,0]] scope pos) (qE n fi gf t e):=by
 exact λpins s σ F H ρ Q S I h=>Zx N (λ_ _=>QA _ _ _) okP hi Z hg ht he hc O U z Y B hs S I (h.imp λw k p C F1 H1 s1 m g q I1 hn turn hC _ _=>#[m,hn,λh' sb=>(k (.ref p) (.ref p) F1 H1 _ g q rfl (turn s1 H1 h' σ I1 hC λb o hb e=>(sb.2 b hb).trans e))])
def Yt(i){x:Str}{pos' B:Pos}{n:Nat}(N)(hN:X.N.Nodup)(hi:SIc X F0 H0 tg iter fi)(hno:yG gf)
  (hg:∀ s₂ F₂ H₂ C fp,SG (cxD X scope N s₂ H₂ C fp) F₂ H₂ tg gf)(ht:∀ s₂ F₂ H₂ C fp,Tests (cxD X scope N s₂ H₂ C fp) F₂ H₂ ifs t)(he:∀ s₂ F₂ H₂ C fp,SE (cxD X scope N s₂ H₂ C fp) F₂ H₂ elt e)
  (hix:(X.N[i]?=!x)["r"])(hx:(Loc X.env.scope x)["t"])(hsw:(swapsWith (.ListComp elt [#[tg,iter,ifs,0]] scope pos) (!(.Name x pos')) B.line X.env=pure true)["r"])
  (hf:(X.fn x=true\/X.env.scope.names.lookup x=some .local)["t"])
  (hc:(X.calm=true)["r"])(Y:(scope.kind=.function)["r"])(Z:(vv X.env scope.names=true)["r"])(O:(wC (relabel scope X.env).names X.N N=true)["r"])(h3:(N[1]=X.N.length+n)["r"])
  (U:∀ x∈scope.names,x.2=.local->scope.names.lookup x.1=some .local:=by decide +kernel)(hs:∀ x,foldedSetIterable iter X.env x=pure x:=by intro _;rfl) :
  SS X F0 H0 (.Assign [.Name x pos'] (.ListComp elt [#[tg,iter,ifs,0]] scope pos) B) (qj i (qE n fi gf t e)):=by
 intro pins s σ F H ρ D S I h;rw[exec_Assign_Name_used _ _ _ _ hsw];refine g6 (bZ (g6 ?_));refine g6 (cB (Zx N (λ_ _=>QA _ _ _) okP hi hno hg ht he hc Y Z O h3 U hs S I ((KE.bind (PostS.of h)).imp λw k p C F1 H1 s1 m g q I1 hn turn hC hL hcl=>?_)) (λ_ s' hq=>gu (gu hq)) λ_ _ e=>e)
 obtain⟨w',e1,k2,rfl⟩:=Qr k;refine bT (Z3 I1 hN hix hx (v:=.ref p) rfl (λs2 I2 hch=>?_) hf)
 obtain⟨a,sb,ha⟩:=hch;have aC:C≠a:=by
  rcases ha with z|z
  .rw[z];exact hL
  exact λq=>hcl x a z q.symm
 refine#[m,hn.sameBut sb aC,λh' sb2=>#[_,H1,turn s2 H1 h' _ I2 hC λb o hb e=>(sb2.2 b hb).trans e,k2 _ F1 H1 g.f (S.setW g q e1)]]
end
def jJ:List D->Option (List Int)
 | []=>↑[]
 | .int i::r=>(match jJ r with|some l=>↑(i::l)|none=>none)
 | _::_=>none
def y3:Int->List Int->Int
 | m,[]=>m
 | m,x::r=>y3 (if x>m then x else m) r
theorem Zy:∀ r m,(y3 m r∈m::r)/\∀ a∈m::r,a<=y3 m r
 | [],m=>#[t8,λa ha=>by simp at ha;subst ha;exact pI _]
 | x::r,m=>by
  obtain⟨h1,h2⟩:=Zy r (if x>m then x else m)
  have e:y3 m (x::r)=y3 (if x>m then x else m) r:=rfl
  rw[e];by_cases c:x>m
  .rw[if_pos c]at h1 h2 ⊢;refine#[gj _ h1,λa ha=>?_]
   rcases gy.mp ha with rfl|ha
   .have:=h2 x t8;lia
   exact h2 a ha
  rw[if_neg c]at h1 h2 ⊢;refine#[?_,λa ha=>?_]
  .grind
  rcases gy.mp ha with rfl|ha
  .exact h2 _ t8
  rcases gy.mp ha with rfl|ha
  .have:=h2 m t8;lia
  simp_all
theorem yH:∀{ds} {vs} {ns},jJ ds=!ns->Reps κ F vs ds->vs=ns.map V.int
 | [],vs,ns,h,r=>by cases h;exact r
 | d::ds,vs,ns,h,r=>by
  obtain⟨v,vr,rfl,r1,r2⟩:=r;cases d<;>first|(cases h;done)|skip
  unfold jJ at h;cases e:jJ ds with
  | none=>rw[e]at h;cases h
  | some l =>
   rw[e]at h;cases h;cases (r1);rw[yH e r2];rfl
section
variable{X:Cx}{F0 H0:Hp}
def QB:Sum Int Str->D
 | .inl i=>.int i
 | .inr x=>.str x
def Zz(e:EF):IF:=λρ=>(e ρ).bind λw=>w.st.bind λd=>match d with
 | .dK kvs=>.ok (kvs.map λp=>QB p.1)
 | _=>.stuck
def ItK(ks:List Key):It:=#[λi _=>i<ks[1],λi H x H'=>H'=H/\∃ k,ks[i]?=!k/\x=kV k,λi _=>ks[1]<=i]
def qb9(h:(je P w).is k u=true):RelV (kV k) u:=by
 rcases vT h with⟨i,t,rfl,rfl⟩|⟨x,t,rfl,rfl⟩
 .exact#[t,rfl]
 exact#[t,rfl]
def qba{K:Frag}{o:Obj}{es:Array DictEntry}{ep:Nat}{vs:List (Key×aa)}(B:K.lookup a=!o)(h1:o.ExactDict)(h2:o.data=.dict es ep)
  (O:KeysOf (je P w) es)(U:Pairs (je P w) es[2] vs)(Y:(vs.map (·.1)).Nodup):Turn P w K tg (ItK (vs.map (·.1))) [it] it (λi h=>h.IsKeyIter it a i vs[1] ep)where
 mem:=by simp
 obj:=λi h st b hb=>by
  obtain⟨o,e,c,d⟩:=st
  simp_all
 keep:=λi h h' st k=>by
  obtain⟨o,e,r⟩:=st;exact#[o,k it "s" o e,r]
 item:=by
  intro X hP hw hK hc i pins s σ H E I hf st hg;subst hP hw hK;have hm:s.heap.DictAt (je X.prog X.w) a vs ep:=#[o,es,I.kIn a o B,h1,h2,O,U,Y];have hg:i<(vs.map (·.1))[1]:=hg
  rw[gg]at hg;obtain⟨f0,f1,f2,f3,f4,f5⟩:=hf it "s"
  have hx:vs[i]?=!((vs[i]).1,(vs[i]).2):=by simp[hg]
  refine wpAny_pyNext_dict_item st hm hx λkey h' ik z sb=>?_
  have I1:"I" H {s with heap:=h'}:=I.turned (λb o hb e=>(sb.2 b hb).trans e) f0 f1 f3 f4 f5
  obtain⟨o',e,c,d⟩:=id z;exact#[key,rfl,yt (s:={s with heap:=h'}) e c d "d" #[kV (vs[i]).1,H,I1,qb9 ik,#[rfl,(vs[i]).1,by simp[hg],rfl],z,λb hb=>(hf b hb).1]]
 done:=by
  intro X hP hw hK hc i pins s σ H E I hf st hg;subst hP hw hK;have hm:s.heap.DictAt (je X.prog X.w) a vs ep:=#[o,es,I.kIn a o B,h1,h2,O,U,Y];have hg:(vs.map (·.1))[1]<=i:=hg
  rw[gg]at hg;obtain⟨f0,f1,f2,f3,f4,f5⟩:=hf it "s"
  exact wpAny_pyNext_dict_end (I.ok.hd hc) st hm (by simp;lia) λh' eb=>#[rfl,I.turned (t':=s.toks) (λb o hb e=>eb b o hb e) f0 f1 f3 f4 f5]
 self:=λ_ _ _ _ _ st h=>wpAny_pyIter_keyiter st h
theorem ZB:∀{kds} {kvs},RepK κ F kvs kds->kvs.map (·.1)=kds.map (·.1)
 | [],_,h=>by cases (h);rfl
 | (k,d)::r,_,h=>by
  obtain⟨v,kr,rfl,h1,h2⟩:=h;simp[ZB h2]
def qbb(B:X.mg x=!u)(r:RelV v u)(q:∀ F,Rep (kx X) F v d)(O:(Gl X x)["r"])(hd:((x==("__debug__"))=false)["d"]) :
  SI X F0 H0 tg (.Name x pos) (Zz (eC d)):=by
 refine#[λσ H R=>∃ kds,d=.dK kds/\R (ItK (kds.map (·.1))) H,?_,λσ F H ρ R S h=>?_]
 .intro pins s σ H R I ⟨kds,ed,hR⟩;subst ed;obtain⟨a,kvs,ev,hq,rk⟩:=q (λ_=>none)
  subst ev;cases (show u=Value.ref a from r)
  rcases hq with(hq|⟨_,hq⟩)|⟨hs,o,es,ep,vs,hk,h1,h2,h3,h4,h5,h6⟩
  .cases hq
  .cases hq
  refine Z4 I O B ?_ hd;have z:s.heap.DictAt (je X.prog X.w) a vs ep:=#[o,es,I.kIn a o hk,h1,h2,h3,h4,h5];have ek:vs.map (·.1)=kds.map (·.1):=by rw[<- ZB rk];exact(KV.keys h6).symm
  refine wpAny_pyIter_dict hs z ?_;refine#[s[0],[s[0]],_,_,H,rfl,I.kept λb o e=>gq _ e,qba hk h1 h2 h3 h4 h5,#[_,gM _ rfl,rfl,rfl],λb hb=>?_,?_]
  .have e:b=s[0]:=by simpa using hb
   subst e;exact I.fpOk (gw _) (I.hok.fresh (gw _))
  rw[ek];exact hR
 cases d<;>first|exact h.elim|skip
 rename_i kds;refine#[kds,rfl,?_];refine h F H _ (Gr.refl S.s) #[λi dd F2 H2 e l1 l2 _=>?_,λi F2 H2 hi l1 l2 _=>?_]
 .rw[gG]at e;cases ek:kds[i]? with
  | none=>rw[ek]at e;cases e
  | some p =>
   rw[ek]at e;have e:QB p.1=dd:=by simpa using e
   have hi:i<kds[1]:=(gp.mp ek).1;refine#[by simpa[ItK]using hi,λy H' hy=>?_]
   obtain⟨eh,k,e1,e2⟩:=hy;subst eh;refine#[F2,Gr.refl l2,?_];rw[gG,ek]at e1;have e1:p.1=k:=by simpa using e1
   subst e1 e2 e;cases p.1<;>rfl
 simpa[ItK]using hi
end
def StOk.frz{a:Addr}(S:StOk κ F0 H0 F H ρ σ)(B:ρ[i]?=!(!d[9])):∃ F',Le F F'/\StOk κ F0 H0 F' H (ρ.set i (!d[8])) σ:=by
 obtain⟨v,si,b,o,rfl,h0,hf,hh,ro⟩:=S.val i _ B;have l:Le F (upd F b o):=λc u h=>by rw[qr (jH h hf)];exact h
 refine#[upd F b o,l,#[#[Le.trans S.gr.f l,S.gr.h,λc u h=>?_,λc h=>?_],by simpa using S.len,λj w e=>?_,λj k w w' c O ej ek oj ok sj sk=>?_,λj y e=>?_]]
 .by_cases e:c=b
  .subst e;rw[qL]at h;cases h;exact hh
  rw[qr e]at h;exact S.gr.s c u h
 .by_cases e:c=b
  .subst e;exact .inr (.inl h0)
  rw[qr e]at h;exact S.gr.n c h
 .rcases qC e with⟨rfl,z⟩|⟨ne,z⟩
  .cases z;refine#[_,si,?_];have r:=OwnO.le l ro;cases o<;>cases d<;>first
    | exact r.elim
    | exact#[b,_,rfl,.inl (.inl qL),r]
    | exact#[b,_,rfl,.inl qL,r]
  obtain⟨v,e1,q⟩:=S.val j w z;refine#[v,e1,?_];have nb:∀{c},v=.ref c->w.own=true->c≠b:=λ{c} ev ow ec=>by
   subst ev ec;exact S.sep j i w _ c ne z B ow rfl e1 si
  cases w with
  | fz d=>exact Rep.le l d q
  | br d=>obtain⟨c,oc,ec,eh,cr⟩:=q;exact#[c,oc,ec,eh,OwnO.le l cr]
  | ow d=>obtain⟨c,oc,ec,c0,cf,ch,cr⟩:=q;exact#[c,oc,ec,c0,by rw[qr (nb ec rfl)];exact cf,ch,OwnO.le l cr]
  | lk d=>exact#[Rep.le l d q.1,RawT.le l q.2]
  | od d=>obtain⟨c,oc,ec,c0,cf,ch⟩:=q;exact#[c,oc,ec,c0,by rw[qr (nb ec rfl)];exact cf,ch]
 .rcases qC ej with⟨_,z⟩|⟨nj,ej⟩
  .cases z;cases oj
  rcases qC ek with⟨_,z⟩|⟨nk,ek⟩
  .cases z;cases ok
  exact S.sep j k w w' c O ej ek oj ok sj sk
 rcases qC e with⟨_,z⟩|⟨nj,ej⟩
 .lia
 obtain⟨s1,c,bs,e1,c0,cf,nd,dp,sp⟩:=S.dp j y ej;have nb:∀ x∈c::bs,x≠b:=λx m z=>by subst z;exact sp i _ _ (tf nj) B rfl m si
 refine#[λk z hk ek=>?_,c,bs,e1,c0,by rw[qr (nb c "s")];exact cf,nd,Deep.same (λ_ _=>rfl) (λx m z=>by rw[qr (nb x (gj _ m))];exact z) l dp,λk w x hk ek ok m=>?_]
 .rcases qC ek with⟨_,q⟩|⟨_,q⟩
  .cases q
  exact s1 k z hk q
 rcases qC ek with⟨_,q⟩|⟨_,q⟩
 .cases q;cases ok
 exact sp k w x hk q ok m
def zb{st:Stmt}(i)(h:SS X F0 H0 st f):SS X F0 H0 st (jB i f):=by
 intro pins s σ F H ρ D S I k;unfold jB L3.frz at k;split at k
 .rename_i d e;obtain⟨F',l,S'⟩:=S.frz (a:=0) e;exact h pins s σ F' H _ D S' I (PostS.le l k)
 exact h pins s σ F H ρ D S I k
def qS{κ:Type} [DecidableEq κ](k:κ)(v:D)(kds:List (κ×D)):List (κ×D) :=
 if (kds.any λkv=>decide (kv.1=k))=true then kds.map (λkv=>if kv.1=k then(kv.1,v)else kv)else kds++[(k,v)]
def eDK:EF:=λ_=>.ok (.dK [])[9]
def eDT:EF:=λ_=>.ok (.dT [])[9]
theorem Yu:∀{kds es} {kvs us},RepK κ F kvs kds->RepK κ F us es->RepK κ F (kvs++us) (kds++es)
 | [],_,_,_,h,k=>by cases (h);exact k
 | (q,d)::r,_,_,_,h,k=>by
  obtain⟨v,kr,rfl,h1,h2⟩:=h;exact#[v,kr++_,rfl,h1,Yu h2 k]
theorem ZC(z:Rep κ F v d):∀{kds} {kvs},RepK κ F kvs kds ->
  RepK κ F (kvs.map λkv=>if kv.1=k then(kv.1,v)else kv) (kds.map λkv=>if kv.1=k then(kv.1,d)else kv)
 | [],_,h=>by cases (h);rfl
 | (q,e)::r,_,h=>by
  obtain⟨u,kr,rfl,h1,h2⟩:=h;by_cases c:q=k
  .subst c;simp[gN];exact#[v,_,rfl,z,(ZC z h2)]
  simp[gN,if_neg c];exact#[u,_,rfl,h1,(ZC z h2)]
def qbc(k){kds:List (Sum Int Str×D)}{kvs:List (Key×V)}(h:RepK κ F kvs kds):(kvs.any λkv=>decide (kv.1=k))=(kds.any λkv=>decide (kv.1=k)):=by
 have a:∀{α} (l:List (Key×α)),(l.any λkv=>decide (kv.1=k))=(l.map (·.1)).any λq=>decide (q=k):=λl=>by rw[List.any_map];rfl
 rw[a,a,(ZB h)]
def qbd(z:Rep κ F v d)(h:RepK κ F kvs kds):RepK κ F (jI kvs k v) (qS k d kds):=by
 unfold jI qS;rw[qbc k h];by_cases c:(kds.any λkv=>decide (kv.1=k))=true
 .rw[if_pos c,if_pos c];exact ZC z h
 rw[if_neg c,if_neg c];exact Yu h #[v,[],rfl,z,rfl]
section
variable{X:Cx}{F0 H0:Hp}{pos pos':Pos}
def Yv:"S" (.Dict [] [] pos) eDK:=by
 refine λpins s σ F H ρ Q S I h=>thn (qaD pins s σ H (λv H'=>∃ p,v=.ref p/\H p=none/\H'=upd H p (.dK [])) I λp hp=>#[p,rfl,hp,rfl]) λu s' #[v,H',I',r,p,ev,hp,eh]=>?_
 subst ev eh;exact h (.ref p) u F (upd H p (.dK [])) s' (Gr.new S.s hp) #[p,_,rfl,hp,Le.none S.s hp,qL,rfl] r I'
def ZD:"S" (.Dict [] [] pos) eDT:=by
 refine λpins s σ F H ρ Q S I h=>thn (qaE pins s σ H (λv H'=>∃ p,v=.ref p/\H p=none/\H'=upd H p (.dT [])) I λp hp=>#[p,rfl,hp,rfl]) λu s' #[v,H',I',r,p,ev,hp,eh]=>?_
 subst ev eh;exact h (.ref p) u F (upd H p (.dT [])) s' (Gr.new S.s hp) #[p,_,rfl,hp,Le.none S.s hp,qL,rfl] r I'
def vV(i:Nat)(k e:EF):SF:=λρ=>match ρ[i]? with
 | some (!(.dK kvs)[9])=>sOf ((e ρ).bind En.st) λd=>sOf (k ρ) λq=>match zm q.d with
  | some key=>if kvs[1]<sz then .nx (ρ.set i (!(.dK (qS key d kvs))[9]))else .stuck
  | none=>.stuck
 | _=>.stuck
def Yw(i)(Y:X.A.units+10<cLine)(z:"S" k fk)(B:"S" e fe)(O:(Nm X i x)["t"])(U:(swapsWith e (!(.Subscript (.Name x np) k pos')) pos.line X.env=pure false)["r"]) :
  SS X F0 H0 (.Assign [.Subscript (.Name x np) k pos'] e pos) (vV i fk fe):=by
 intro pins s σ F H ρ D S I h;unfold vV at h;cases ew:ρ[i]? with
 | none=>rw[ew]at h;exact h.elim
 | some w =>
  rw[ew]at h;cases w with
  | none=>exact h.elim
  | some w =>
   cases w with
   | fz d=>exact h.elim
   | br d=>exact h.elim
   | lk d=>exact h.elim
   | od d=>exact h.elim
   | ow d =>
    cases d<;>first|exact h.elim|skip
    rename_i kds;have h:=KE.bind (PostS.of h);obtain⟨v,e1,a,o,rfl,h0,hf,hh,ro⟩:=S.val i _ ew;cases o<;>first|exact ro.elim|skip
    rename_i kvs;refine Zd (pos:=pos) (pos':=pos') "" (pvN (pos:=np) O) (jh (e:=k)) (jh (e:=e)) U pins s σ H D I (B.sem S (h.imp λw k1 y F1 H1 g1 q1=>?_))
    cases es:w.st with
    | exc x=>rw[es]at k1;exact k1.elim
    | stuck=>rw[es]at k1;exact k1.elim
    | ok d =>
     rw[es]at k1;have ry:=Vok.st S.s g1 q1 es;obtain⟨g2,_⟩:=vm S.s g1;have S2:=S.grow g2;refine#[_,e1,z.sem S2 ((PostS.of (show PostS X F0 H0 F D _ from k1)).imp λwk k2 y2 F3 H3 g3 q3=>?_)]
     cases ek:zm wk.d with
     | none=>rw[ek]at k2;exact k2.elim
     | some key =>
      rw[ek]at k2;have ey:y2=kV key:=by
       have r:=Vok.rd q3;cases ed:wk.d with
       | int j=>rw[ed]at ek r;cases ek;exact RdV.int r
       | str j=>rw[ed]at ek r;cases ek;exact RdV.str r
       | _=>rw[ed]at ek;cases ek
      subst ey;have lv:kvs[1]=kds[1]:=RepK.length ro;by_cases c:kds[1]<sz
      .have k3:PostS X F0 H0 F D (.nx (ρ.set i (!(.dK (qS key d kds))[9]))):=by simpa[if_pos c]using k2
       refine#[a,_,rfl,DPut.k (g3.h _ _ (g1.h _ _ hh)) (by rw[lv];exact c),?_]
       refine k3 σ _ _ (Le.trans g2.f g3.f) ((S2.grow g3).mut ew e1 (o:=.dK (jI kvs key y)) ?_);exact qbd (Rep.le g3.f _ ry) (RepK.le (Le.trans g2.f g3.f) _ ro)
      have:False:=by simpa[if_neg c,PostS,KE]using k2
      exact this.elim
def ua(d k x:EF):EF:=λρ=>(d ρ).bind λwd=>match wd.d with
 | .dK kvs=>(k ρ).bind λwk=>(x ρ).bind λwx=>(match zm wk.d with
  | some q=>(match look q kvs with|some d=>.ok d[8]|none=>.ok wx)
  | none=>.stuck)
 | _=>.stuck
def qbe(Y:"S" o fo)(Z:"S" e fe)(hf:"S" f ff)(m:M2 X o "get" apos e f cpos:=by exact#[rfl,rfl,rfl,rfl]) :
  "S" (.Call (.Attribute o "get" apos) [e,f] [] cpos) (ua fo fe ff):=by
 refine λpins s σ F H ρ Q S I h=>bW m.base m.few m.line cP fX bn (Y pins s σ F H ρ _ S I ((KE.bind h).imp λwd h1 v u F1 H1 s1 g1 q1 r1 I1=>?_))
 have qd:=Vok.rd q1
 revert h1 qd
 generalize wd.d=dd;intro h1 qd;cases dd<;>first|exact h1.elim|skip
 obtain⟨p,kvs,rfl,hq,rk⟩:=RdV.dK g1.s qd;cases (show u=Value.ref p from r1)
 obtain⟨hd,vs,rel,dd⟩:=Inv.dictK I1 hq;refine#[dd.typeIs,λb q=>?_,?_]
 .cases q;obtain⟨ob,_,_,e1,e2,_⟩:=dd;exact#[ob,e1,e2.2.1]
 rw[m.trees];refine cW rfl (dg (hZ (Z pins s1 σ F1 H1 ρ _ (S.grow g1) I1 ((KE.bind h1).imp λwk h2 v2 u2 F2 H2 s2 g2 q2 r2 I2 =>
  hZ (hf pins s2 σ F2 H2 ρ _ (S.grow (g1.trans g2)) I2 ((KE.bind h2).imp λwx h3 v3 u3 F3 H3 s3 g3 q3 r3 I3=>tL ?_))))))
 cases ek:zm wk.d with
 | none=>rw[ek]at h3;exact h3.elim
 | some key =>
  rw[ek]at h3;dsimp only at h3;have ry:RelV (kV key) u2:=Zk ek (RdV.gr g3 (Vok.rd q2)) r2;obtain⟨hd3,vs3,O,U⟩:=Inv.dictK I3 (SqK.le (Le.trans g2.h g3.h) hq);refine bm fX U.typeIs cX (dQ _ _ _) (meets_dict_get_default (je X.prog X.w) p (ky ry) hd3 u3) #[_,U.mapOf,?_];have rg:=(O.val key).getD r3;have B:=g1.trans (g2.trans g3);rcases RepK.look key rk with⟨z,d,a1,a2,rz⟩|⟨a1,a2⟩
  .rw[a2]at h3;rw[a1]at rg;exact h3 z _ F3 H3 _ B (Rep.le (Le.trans g2.f g3.f) _ rz) rg (I3.tok _)
  rw[a2]at h3;rw[a1]at rg;exact h3 v3 _ F3 H3 _ B (Vok.older (λa e=>Le.none (Le.trans g1.h g2.h) e) q3) rg (I3.tok _)
def ub:List D->R En
 | [.int i,.int j]=>okI (if j>i then j else i)
 | _=>.stuck
def Yx(z:(X.calm=true)["r"]):zX X (.builtin "max") ub:=kK (TK z) λF H xs ds Q l qx w=>by
 cases qx with
 | nil=>exact w.elim
 | @cons x d xs ds q1 q2 =>
  cases q2 with
  | nil=>cases d<;>exact w.elim
  | @cons y e ys es q2 q3 =>
   cases q3 with
   | cons _ _=>cases d<;>first|exact w.elim|(cases e<;>exact w.elim)
   | nil =>
    cases d<;>first|exact w.elim|skip
    cases e<;>first|exact w.elim|skip
    cases RdV.int q1;cases RdV.int q2;exact#[_,_,rfl,jn l w rfl]
def Yy(z:(X.calm=true)["r"]):zX X (.builtin "min") xR:=kK (TL z) λF H xs ds Q l qx w=>by
 cases qx with
 | nil=>exact w.elim
 | @cons x d xs ds q1 q2 =>
  cases q2 with
  | nil=>cases d<;>exact w.elim
  | @cons y e ys es q2 q3 =>
   cases q3 with
   | cons _ _=>cases d<;>first|exact w.elim|(cases e<;>exact w.elim)
   | nil =>
    cases d<;>first|exact w.elim|skip
    cases e<;>first|exact w.elim|skip
    cases RdV.int q1;cases RdV.int q2;exact#[_,_,rfl,jn l w rfl]
def vW:List D->R En
 | [.lst ds]=>(match jJ ds with|some ns=>okI ns.sum|none=>.stuck)
 | _=>.stuck
def Yz(B:(X.calm=true)["r"]):zX X (.builtin "sum") vW:=by
 intro pins s σ F H xs us ds Q I l rx qx w;cases qx with
 | nil=>exact w.elim
 | @cons x d xs ds q1 q2 =>
  cases q2 with
  | cons _ _=>cases d<;>exact w.elim
  | nil =>
   cases d<;>first|exact w.elim|skip
   rename_i ds;unfold vW at w;dsimp only at w;cases e:jJ ds with
   | none=>rw[e]at w;exact w.elim
   | some ns =>
    rw[e]at w;obtain⟨p,vs,rfl,hq,rs⟩:=RdV.lst l q1;have ev:=yH e rs;subst ev;cases rx with
    | cons r1 r2 =>
     cases r2;cases r1;obtain⟨its,rv,pl,hz⟩:=I.list hq;have hi:=ku rv;obtain⟨ys,ey⟩:=hi.allInts.items;have z:ns=ys[2].map (·.1):=by rw[<- hi.numsOf,<- nums_intItems,<- ey]
     have hl:=pl.isList;rw[ey]at hl;refine sum_intListG (I.ok.hd B) hl λh' tk t' hk=>?_
     rw[preSum_eq,tU "s",<- z]
     exact#[.int _,H,I.kept hk,#[_,rfl],jn l w rfl]
def uc(g g':D->D->R En)(a b c:EF):EF:=λρ=>(a ρ).bind λx=>(b ρ).bind λy=>(g x.d y.d).bind λr=>(isB r.d).bind λt=>if t=true then(c ρ).bind λz=>g' y.d z.d else okB false
section
variable{a b c:Expr}{fa fb fc:EF}{g g':D->D->R En}{op op':CmpOp}
def ZE(U:OpD X (compareOp op) g)(O:OpD X (compareOp op') g')(Y:"S" a fa)(Z:"S" b fb)(hc:"S" c fc)
  (hm:lastMarks [op,op'] [b,c]=false:=by with_unfolding_all rfl):"S" (.Compare a [op,op'] [b,c] pos) (uc g g' fa fb fc):=by
 refine λpins s σ F H ρ Q S I h=>Compare_chain (Y pins s σ F H ρ _ S I ((KE.bind h).imp λwx h1 v u F1 H1 s1 g1 q1 r1 I1=>chain_link (Z pins s1 σ F1 H1 ρ _ (S.grow g1) I1 ((KE.bind h1).imp λwy h2 v2 u2 F2 H2 s2 g2 q2 r2 I2=>?_)))) hm
 refine thn (U pins s2 σ F2 H2 v v2 u u2 wx.d wy.d (λv3 H3=>∃ F3 w3,Gr F2 H2 F3 H3/\Vok (kx X) H2 F3 H3 v3 w3/\KE (XP X F0 H0) ((isB w3.d).bind λt=>if t=true then(fc ρ).bind λz=>g' wy.d z.d else okB false) _) I2 g2.s r1 r2 (RdV.gr g2 (Vok.rd q1)) (Vok.rd q2) (KE.impX (KE.bind h2) (λw k v3 F3 H3 g3 q3=>#[F3,w,g3,q3,k]) λ_ z=>z.elim)) λcv s3 #[z,H3,I3,rz,F3,w3,g3,q3,k]=>?_
 obtain⟨t,rfl,k2⟩:=Zn (Vok.rd q3) rz (KE.bind k);refine pQ ?_;have B:=g1.trans (g2.trans g3);cases t with
 | false=>exact k2 (.bl false) _ F3 H3 s3 B rfl rfl I3
 | true =>
  exact chain_last (hc pins s3 σ F3 H3 ρ _ (S.grow B) I3 ((KE.bind k2).imp λwz k4 v4 u4 F4 H4 s4 g4 q4 r4 I4=>(vz (O pins s4 σ F4 H4 v2 v4 u2 u4 wy.d wz.d _ I4 g4.s r2 r4 (RdV.gr (g3.trans g4) (Vok.rd q2)) (Vok.rd q4) (yA (B.trans g4) k4)))))
end
def zq:SF:=λ_=>.stuck
def wD{st:Stmt}:SS X F0 H0 st zq:=λpins s σ F H ρ D S I h=>h.elim
end
def qbf(I:Rho->Prop)(Q:Out->Prop):Out->Prop
 | .nx ρ=>I ρ
 | .ct ρ=>I ρ
 | .bk ρ=>Q (.nx ρ)
 | o=>Q o
theorem QC{Q:Out->Prop}:∀ xs (I:Nat->Rho->Prop) {ρ},I 0 ρ ->
  (∀ i x ρ,xs[i]?=!x->I i ρ->∃ ρ1,g x ρ=.ok ρ1/\qbf (I (i+1)) Q (b ρ1))->(∀ ρ,I xs[1] ρ->Q (.nx ρ))->Q (qD g b xs ρ)
 | [],I,ρ,h0,_,fin=>fin ρ h0
 | x::xs,I,ρ,h0,step,fin=>by
  obtain⟨ρ1,e1,t⟩:=step 0 x ρ rfl h0;have B:∀ z,I 1 z->Q (qD g b xs z):=λz h =>
   QC xs (λi=>I (i+1)) h (λi y ρ e hi=>step (i+1) y ρ e[""] hi) (λρ h=>fin ρ h[""])
  unfold qD;rw[e1];dsimp only;cases eb:b ρ1 with
  | nx z=>rw[eb]at t;exact B z t
  | ct z=>rw[eb]at t;exact B z t
  | bk z=>rw[eb]at t;exact t
  | rt w=>rw[eb]at t;exact t
  | exc w=>rw[eb]at t;exact t
  | stuck=>rw[eb]at t;exact t
def wE(xs)(I:Nat->Rho->Prop)(h0:I 0 ρ)(step:∀ i x ρ,xs[i]?=!x->I i ρ->∃ ρ1 z,g x ρ=.ok ρ1/\(b ρ1=.nx z\/b ρ1=.ct z)/\I (i+1) z) :
  ∃ ρ',qD g b xs ρ=.nx ρ'/\I xs[1] ρ':=by
 refine QC (Q:=λo=>∃ ρ',o=.nx ρ'/\I xs[1] ρ') xs I h0 (λi x ρ e hi=>?_) λρ h=>#[ρ,rfl,h]
 obtain⟨ρ1,z,e1,e2,h⟩:=step i x ρ e hi;refine#[ρ1,e1,?_];rcases e2 with e2|e2<;>(rw[e2];exact h)
def qbg(n):zn 0 n=(List.range n).map λk:Nat=>D.int k:=by
 apply cG;intro i;rw[xY];by_cases h:i<n
 .simp_all
 simp_all
def ZF(n)(I:Nat->Rho->Prop)(h0:I 0 ρ)(step:∀ i ρ,i<n->I i ρ->∃ ρ1 z,g i[6] ρ=.ok ρ1/\(b ρ1=.nx z\/b ρ1=.ct z)/\I (i+1) z) :
  ∃ ρ',qD g b (zn 0 n) ρ=.nx ρ'/\I n ρ':=by
 have:=wE (zn 0 n) I h0 λi x ρ e hi=>by
  rw[xY]at e;by_cases h:i<n
  .rw[if_pos h]at e;cases e;have:=step i ρ h hi;simpa using this
  simp_all
 rw[Qt]at this;exact this
theorem QD{ad:En->R D}(i:Nat)(p:D->Bool)(f:D->D):∀(ds:List D) (ρ:Rho),
  (∀ d∈ds,t (ρ.set i (!d[8]))=.ok (p d)/\(p d=true->∃ w,e (ρ.set i (!d[8]))=.ok w/\ad w=.ok (f d)))->zo ad (gV i) t e ds ρ=.ok ((ds.filter p).map f)
 | [],_,_=>rfl
 | d::ds,ρ,h=>by
  obtain⟨h1,h2⟩:=h d t8;have z:=QD i p f ds (ρ.set i (!d[8])) λx hx=>by
   rw[bK];exact h x (gj _ hx)
  show(R.bind (t (ρ.set i (!d[8]))) λb=>if b=true then(e (ρ.set i (!d[8]))).bind λw=>(ad w).bind λy=>(zo ad (gV i) t e ds (ρ.set i (!d[8]))).bind λys=>.ok (y::ys)else zo ad (gV i) t e ds (ρ.set i (!d[8])))=_
  grind
def kO{ad:En->R D}(i:Nat)(f:D->D)(ds:List D)(ρ:Rho)(h:∀ d∈ds,∃ w,e (ρ.set i (!d[8]))=.ok w/\ad w=.ok (f d)):zo ad (gV i) qI e ds ρ=.ok (ds.map f):=by
 have:=QD i (t:=qI) (λ_=>true) f ds ρ λd hd=>#[rfl,λ_=>h d hd]
 rw[this];congr 2;simp
def zC{i:Nat}:ati xs i=xs[i]?:=by
 unfold ati ixn;by_cases h:i<xs[1]
 .simp_all
 simp_all
def QE:ati xs (-1)=xs.getLast?:=by
 unfold ati ixn;cases xs with
 | nil=>rfl
 | cons x r =>
  rw[if_neg "d",if_pos (by simp;lia)]
  have:((-1)+((x::r)[1]:Int)).toNat=(x::r)[1]-1:=""
  rw[this,List.getLast?_eq_getElem?];rfl
def YA{ad:En->R D}{fi:List D->En}{n:Nat}{it:IF}{ds ys:List D}(h:it ρ=.ok ds)(z:ds[1]<=sz)(h2:zo ad gf t e ds (qR n ρ)=.ok ys):u8 ad fi n it gf t e ρ=.ok (fi ys):=by
 unfold u8;lia
def yI{it:IF}{ds ys:List D}(h:it ρ=.ok ds)(z:ds[1]<=sz)(h2:zo En.st gf t e ds (qR n ρ)=.ok ys):qE n it gf t e ρ=.ok (.lst ys)[9]:=YA h z h2
def Out.th(o:Out)(b:SF):Out:=match o with
 | .nx ρ=>b ρ
 | o=>o
def ZG(a b:SF)(ρ:Rho)(c:Bool):Out:=if c=true then a ρ else b ρ
def ud(a b:EF)(ρ:Rho)(c:Bool):R En:=if c=true then a ρ else b ρ
def QF(a b:TF)(ρ:Rho)(c:Bool):R Bool:=if c=true then a ρ else b ρ
def kF:EF:=λ_=>okB false
def kfB:TF:=λ_=>.ok false
def ktB:TF:=λ_=>.ok true
def ue(o:Option (Option En)):R En:=match o with
 | some (!d[8])=>.ok d[8]
 | some (!d[9])=>.ok (.br d)
 | some (!(.br d))=>.ok (.br d)
 | some (!(.lk d))=>.ok d[8]
 | _=>.stuck
def ZH(o:Option (Option En)):Out:=match o with
 | some (!d[8])=>.rt d[8]
 | some (!d[9])=>.rt d[9]
 | _=>.stuck
def R.b (r:R α) (f:α->R β):R β:=r.bind f
theorem kP{f:α->R β}:(R.ok a).b f=f a:=rfl
def kQ(ds:List D):R En:=if ds[1]<=sz then .ok (.lst ds)[9]else .stuck
def QG(ds:List D):R En:=if ds[1]<=sz then .ok (.tup ds)[8]else .stuck
def En.dd(w:En):D:=w.d
def En.sto(w:En):R D:=w.st
def En.argo(w:En):R En:=w.arg
def En.nmo(w:En):R En:=w.nm
section
variable{a b:SF}{ρ ρ':Rho}{w:En}{x:Xc}{d:D}{e f:EF}{t u:TF}{i j:Nat}{α β:Type}{k:α->Out}{v:α}{l:List EF}
theorem jy:Out.th (.nx ρ) b=b ρ:=rfl
theorem qgY:Out.th (.rt w) b=.rt w:=rfl
theorem qbh:Out.th (.bk ρ) b=.bk ρ:=rfl
theorem qgZ:Out.th .stuck b=.stuck:=rfl
def ji:qe a b ρ=Out.th (a ρ) b:=by unfold Out.th;cases ρ<;>rfl
theorem zD:sOf (.ok v) k=k v:=rfl
theorem ZI:ZG a b ρ true=a ρ:=rfl
theorem QH:ZG a b ρ false=b ρ:=rfl
theorem qh0:ud e f ρ true=e ρ:=rfl
theorem qh1:ud e f ρ false=f ρ:=rfl
theorem qh2:QF t u ρ true=t ρ:=rfl
theorem qh3:QF t u ρ false=u ρ:=rfl
theorem qh4:kF ρ=.ok (.bl false)[8]:=rfl
theorem qh5:kfB ρ=.ok false:=rfl
theorem qh6:ktB ρ=.ok true:=rfl
theorem uf:qj i e ρ=sOf ((e ρ).b En.nmo) λw=>.nx (ρ.set i !w):=rfl
theorem ZJ:qt e ρ=sOf ((e ρ).b En.nmo) .rt:=rfl
theorem qh7:jw i ρ=ZH ρ[i]?:=rfl
theorem qh8:ZH (!(!d[8]))=.rt d[8]:=rfl
theorem qh9:ZH (!(!d[9]))=.rt d[9]:=rfl
theorem QJ:qu ρ=.nx ρ:=rfl
theorem qha:yx ρ=.bk ρ:=rfl
theorem qhb:xS e ρ=sOf (e ρ) λ_=>.nx ρ:=rfl
theorem yJ:sIf t a b ρ=sOf (t ρ) (ZG a b ρ):=rfl
theorem qhc:En.nmo d[8]=.ok d[8]:=rfl
theorem qhd:En.nmo d[9]=.ok d[9]:=rfl
theorem qhe:En.sto d[8]=.ok d:=rfl
theorem qhf:En.sto d[9]=.ok d:=rfl
theorem ZK:En.argo d[8]=.ok d[8]:=rfl
theorem qbi:En.argo d[9]=.ok d[8]:=rfl
theorem YB:En.argo (.br d)=.ok (.br d):=rfl
theorem qbj:En.dd d[8]=d:=rfl
theorem qhg:En.dd d[9]=d:=rfl
theorem qhh:En.dd (.br d)=d:=rfl
theorem yK:q9 i ρ=ue ρ[i]?:=rfl
theorem qhi:ue (!(!d[8]))=.ok d[8]:=rfl
theorem qhj:ue (!(!d[9]))=.ok (.br d):=rfl
theorem qhk:ue (!(!(.br d)))=.ok (.br d):=rfl
theorem qhl:ue (!(!(.lk d)))=.ok d[8]:=rfl
theorem x_c:eC d ρ=.ok d[8]:=rfl
theorem ZL:eOp g e f ρ=(e ρ).b λx=>(f ρ).b λy=>g x.dd y.dd:=rfl
theorem qhm:eUn g e ρ=(e ρ).b λx=>g x.dd:=rfl
theorem ug:evs [] ρ=.ok []:=rfl
theorem uh:evs (e::l) ρ=(e ρ).b λx=>(evs l ρ).b λxs=>.ok (x::xs):=rfl
theorem qhn:stAll []=.ok []:=rfl
theorem qho:stAll (w::ws)=w.sto.b λd=>(stAll ws).b λds=>.ok (d::ds):=rfl
theorem ui:jU []=.ok []:=rfl
theorem uj:jU (w::ws)=w.argo.b λd=>(jU ws).b λds=>.ok (d::ds):=rfl
theorem qhp:jg l ρ=(evs l ρ).b λxs=>(stAll xs).b kQ:=rfl
theorem qhq:ju l ρ=(evs l ρ).b λxs=>(stAll xs).b QG:=rfl
theorem uk:qg dn l ρ=(evs l ρ).b λxs=>(jU xs).b λys=>dn ys:=rfl
theorem x_B:eB g l ρ=(evs l ρ).b λxs=>g (xs.map En.dd):=rfl
theorem qhr:tE e ρ=(e ρ).b λx=>kC x.dd:=rfl
theorem qhs:jO t ρ=(t ρ).b λb=>.ok (not b):=rfl
theorem qht:zW t u ρ=(t ρ).b (QF u kfB ρ):=rfl
theorem qhu:tOr t u ρ=(t ρ).b (QF ktB u ρ):=rfl
theorem qhv:yw e f ρ=(e ρ).b λx=>(isB x.dd).b (ud f kF ρ):=rfl
theorem qhw:eIf t e f ρ=(t ρ).b (ud e f ρ):=rfl
theorem qhx:isB (.bl c)=.ok c:=rfl
theorem qhy:kC (.bl c)=.ok c:=rfl
theorem qhz:kC (.lst c)=.ok (not c.isEmpty):=rfl
theorem QK:qO it g a ρ=sOf (it ρ) λxs=>qD g a xs ρ:=rfl
theorem qhA{i j:Int}:zL i[6] j[6]=.ok (i+j)[7]:=rfl
theorem qhB{i j:Int}:qZ i[6] j[6]=.ok (i-j)[7]:=rfl
theorem qhC{i j:Int}:dLt i[6] j[6]=.ok (.bl (decide (i<j)))[8]:=rfl
theorem qhD{i j:Int}:dLe i[6] j[6]=.ok (.bl (decide (i<=j)))[8]:=rfl
theorem qhE{i j:Int}:dGt i[6] j[6]=.ok (.bl (decide (j<i)))[8]:=rfl
theorem qhF{i j:Int}:dEq i[6] j[6]=.ok (.bl (i==j))[8]:=rfl
theorem qhG{i j:Int}:dNe i[6] j[6]=.ok (.bl (not (i==j)))[8]:=rfl
theorem qhH{i:Int}:jR i[6]=.ok (-i)[7]:=rfl
def yL{i j:Int}(h:0<j):vy i[6] j[6]=.ok (i%j)[7]:=by unfold vy;dsimp only;rw[if_pos h]
def QL{i j:Int}(h:0<j)(h2:j<1073741824):vN i[6] j[6]=.ok (i/j)[7]:=by unfold vN;dsimp only;rw[if_pos #[h,h2]]
def ZM{i j:Int}(h1:-1000000000000<j)(h2:j<1000000000000):jN i[6] j[6]=.ok (i*j)[7]:=by
 unfold jN;dsimp only;rw[if_pos];rw[Bool.or_eq_true];exact .inr (fits_iff.mpr (by rw[b64e];lia))
def y4{i j:Int}(h1:-1000000000000<i)(h2:i<1000000000000):jN i[6] j[6]=.ok (i*j)[7]:=by
 unfold jN;dsimp only;rw[if_pos];rw[Bool.or_eq_true];exact .inl (fits_iff.mpr (by rw[b64e];lia))
theorem qhI:xQ [.lst xs]=.ok (.lst xs)[9]:=rfl
theorem qhJ:wU [.lst xs]=.ok (.tup xs)[8]:=rfl
theorem qhK{i j:Int}:xR [.int i,.int j]=.ok (if j<i then j else i)[7]:=rfl
theorem qhL{i j:Int}:ub [.int i,.int j]=.ok (if j>i then j else i)[7]:=rfl
theorem qhM{i:Int}:qc (.lst xs) i[6]=okD (ati xs i):=rfl
theorem qhN{i:Int}:qc (.tup xs) i[6]=okD (ati xs i):=rfl
def YC:okD (ati (d::r) 0)=.ok d[8]:=by
 rw[show 0=((0:Nat):Int)from rfl,zC];rfl
def YD{c d:D}{r:List D}:okD (ati (c::d::r) 1)=.ok d[8]:=by
 rw[show 1=((1:Nat):Int)from rfl,zC];rfl
def YE{b c d:D}{r:List D}:okD (ati (b::c::d::r) 2)=.ok d[8]:=by
 rw[show 2=((2:Nat):Int)from rfl,zC];rfl
def YF{a b c d:D}{r:List D}:okD (ati (a::b::c::d::r) 3)=.ok d[8]:=by
 rw[show 3=((3:Nat):Int)from rfl,zC];rfl
theorem qhO:okD ↑d=.ok d[8]:=rfl
theorem qhP:dIs .list (.lst n)=.ok (.bl true)[8]:=rfl
theorem qhQ:dIs .tuple (.tup n)=.ok (.bl true)[8]:=rfl
theorem qhR:zq ρ=.stuck:=rfl
theorem yM:gV i d ρ=.ok (ρ.set i (!d[8])):=rfl
theorem qhS:eDK ρ=.ok (.dK [])[9]:=rfl
theorem qhT:eDT ρ=.ok (.dT [])[9]:=rfl
theorem QM:den n a ws=fin (a (ws.map some++List.replicate (n-ws[1]) none)):=rfl
theorem qhU:fin (.rt w)=.ok w:=rfl
def ZN(h:ρ[i]?=!(!(.lst ds)[8])):iV i ρ=.ok ds:=by unfold iV;rw[h];rfl
def YG(h:ρ[i]?=!(!(.br (.lst ds)))):iV i ρ=.ok ds:=by unfold iV;rw[h];rfl
def y6{w:En}(h:ρ[i]?=!(!w))(h2:w.d=.lst ds)(z:((match w with|.od _=>true|.lk _=>true|_=>false)=false)["r"]):iVc i ρ=.ok ds:=by
 unfold iVc;rw[h];cases w<;>first|(cases z;done)|(cases h2;rfl)
def qbk{j:Int}(h:e ρ=.ok j[7])(c:fits b62 j=true):iR1 e ρ=.ok (zn 0 j.toNat):=by
 unfold iR1;rw[h,R.bind_ok]
 simp_all
def QN{n:Nat}(h:e ρ=.ok n[7])(z:n<1000000):iR1 e ρ=.ok (zn 0 n):=by
 rw[qbk h (fits_iff.mpr (by rw[b62e];lia)),fK]
def zh{i:Nat}(h:ρ[i]?=!(!(.lst xs)[9]))(z:xs[1]<sz)(h2:(e ρ).b En.sto=.ok d):qN i e ρ=.nx (ρ.set i (!(.lst (xs++[d]))[9])):=by
 unfold qN;have h2:(e ρ).bind En.st=.ok d:=h2;rw[h];rw[h2];unfold sOf;dsimp only;rw[if_pos z]
def YH{kvs:List (Sum Int Str×D)}{i:Nat}{k:EF}{w:En}(h:ρ[i]?=!(!(.dK kvs)[9]))(h2:(e ρ).b En.sto=.ok d)(z:k ρ=.ok w)(B:zm w.d=!key)(O:kvs[1]<sz) :
  vV i k e ρ=.nx (ρ.set i (!(.dK (qS key d kvs))[9])):=by
 have h2:(e ρ).bind En.st=.ok d:=h2;unfold vV;rw[h];rw[h2];unfold sOf;rw[z];dsimp only;rw[B];dsimp only;rw[if_pos O]
def QO(o:Option D)(w:En):R En:=match o with|some d=>.ok d[8]|none=>.ok w
def qbl{dd k x:EF}{wd wk wx:En}(h1:dd ρ=.ok wd)(h2:wd.d=.dK kvs)(z:k ρ=.ok wk)(B:zm wk.d=!q)(O:x ρ=.ok wx) :
  ua dd k x ρ=QO (look q kvs) wx:=by
 unfold ua;rw[h1,R.bind_ok];cases wd<;>first|(subst h2;dsimp only;rw[z,O,R.bind_ok,B];rfl)|(cases h2;done)
theorem QP:∀ n d,qw n d=true->deq d d=true
 | _,.non,_=>rfl
 | _,.bl _,_=>by simp[deq]
 | _,.int _,_=>by simp[deq]
 | _,.str _,_=>by simp[deq]
 | 0,.tup _,h=>by simp[qw]at h
 | 0,.lst _,h=>by simp[qw]at h
 | n+1,.tup xs,h=>by
  have k:∀ ys,ys.all (qw n)=true->deqs ys ys=true:=by
   intro ys
   induction ys with
   | nil=>intro _;rfl
   | cons y ys ih =>
    intro hy;rw[fU,gZ]at hy;show(deq y y&&deqs ys ys)=true;rw[QP n y hy.1,ih hy.2];rfl
  exact k xs h
 | n+1,.lst xs,h=>by
  have k:∀ ys,ys.all (qw n)=true->deqs ys ys=true:=by
   intro ys
   induction ys with
   | nil=>intro _;rfl
   | cons y ys ih =>
    intro hy;rw[fU,gZ]at hy;show(deq y y&&deqs ys ys)=true;rw[QP n y hy.1,ih hy.2];rfl
  exact k xs h
 | n,.dK _,h=>by cases n<;>simp[qw]at h
 | n,.dT _,h=>by cases n<;>simp[qw]at h
 | n,.xc _ _,h=>by cases n<;>simp[qw]at h
def ZO(h:eqok d=true):dNe d d=.ok (.bl false)[8]:=by
 unfold dNe;rw[h,QP 8 d h];rfl
def qbm(h:eqok d=true):dEq d d=.ok (.bl true)[8]:=by
 unfold dEq;rw[h,QP 8 d h];rfl
def ZP(h:∀ x∈xs,qw 7 x=true):eqok (.lst xs)=true:=by
 exact tW.mpr h
end
section
variable{prog:af}{w:World}{A:ag}{E:aa->ab->Prop}{s:ab}{kd:SortKind}{rk:aa->Int}{ini:Array aj}
def av(rk:aa->Int)(xs:Array aj)(i:Nat):Int:=match xs[i]? with
 | some p=>rk p.1
 | none=>0
def YI{a d:Nat}(h1:a<xs.size)(h2:d<=a)(k) :
  av rk (bubble xs a d) k=if k=a-d then av rk xs a else if a-d<k/\k<=a then av rk xs (k-1)else av rk xs k:=by
 have e:=getElem?_bubble h1 d h2 k;by_cases c1:k=a-d
 .rw[if_pos c1]at e ⊢;unfold av;rw[e]
 rw[if_neg c1]at e ⊢;by_cases c2:a-d<k/\k<=a
 .rw[if_pos c2]at e ⊢;unfold av;rw[e]
 rw[if_neg c2]at e ⊢;unfold av;rw[e]
def YJ{i j:Nat}(h:j<=xs.size)(k):av rk (mirror xs i j ((j-i)/2)) k=if i<=k/\k<j then av rk xs (i+j-1-k)else av rk xs k:=by
 have e:=getElem?_mirror_all (i:=i) h k;by_cases c:i<=k/\k<j
 .rw[if_pos c]at e ⊢;unfold av;rw[e]
 rw[if_neg c]at e ⊢;unfold av;rw[e]
structure Tells(prog:Program)(w:World)(A:Around)(s:Shared)(kd:SortKind)(rk:Value->Int)(ini:Array Keyed):Prop where
 lt:∀ p∈ini[2],∀ q∈ini[2],∀(E:Value->Shared->Prop) (Q:Bool->Shared->Prop),Q (decide (rk p.1<rk q.1)) s->wpAny (model prog w) A (keyLt' kd p.1 q.1) Q E s
 nd:(ini[2].map λp=>rk p.1).Nodup
end
theorem ZQ:∀ a,HT.lexLt a a=false
 | []=>rfl
 | x::r=>by rw[HT.lexLt_cons,if_pos rfl];exact ZQ r
theorem uo:∀{a b c},HT.lexLt a b=true->HT.lexLt b c=true->HT.lexLt a c=true
 | [],[],_,h,_=>by simp[HT.lexLt_nil_nil]at h
 | [],_::_,[],_,h=>by simp[HT.lexLt_cons_nil]at h
 | [],_::_,_::_,_,_=>rfl
 | _::_,[],_,h,_=>by simp[HT.lexLt_cons_nil]at h
 | _::_,_::_,[],_,h=>by simp[HT.lexLt_cons_nil]at h
 | x::a,y::b,z::c,h,k=>by
  rw[HT.lexLt_cons]at h k ⊢;by_cases e1:x=y
  .subst e1;rw[if_pos rfl]at h;by_cases e2:x=z
   .subst e2;rw[if_pos rfl]at k ⊢;exact uo h k
   rw[if_neg e2]at k ⊢;exact k
  rw[if_neg e1]at h
  grind
theorem uq:∀{a b},HT.lexLt a b=false->HT.lexLt b a=false->a=b
 | [],[],_,_=>rfl
 | [],_::_,h,_=>by simp[HT.lexLt_nil_cons]at h
 | _::_,[],_,h=>by simp[HT.lexLt_nil_cons]at h
 | x::a,y::b,h,k=>by
  rw[HT.lexLt_cons]at h k;by_cases e:x=y
  .subst e;rw[if_pos rfl]at h k;rw[uq h k]
  rw[if_neg e]at h;rw[if_neg (tf e)]at k;simp at h k;lia
def vX(a b:List Int):Bool:=not (HT.lexLt b a)
def qbn(a b c)(h:vX a b=true)(k:vX b c=true):vX a c=true:=by
 unfold vX at *;cases e:HT.lexLt c a with
 | false=>rfl
 | true =>
  simp at h k;cases e2:HT.lexLt a b with
  | true=>rw[uo e e2]at k;cases k
  | false=>rw[uq e2 h,k]at e;cases e
def qbo(a b):(vX a b||vX b a)=true:=by
 unfold vX;cases e:HT.lexLt b a with
 | false=>rfl
 | true =>
  cases e2:HT.lexLt a b with
  | false=>rfl
  | true=>have:=uo e e2;rw[ZQ]at this;cases this
def qX(rs:List (List Int)):List (List Int):=rs.mergeSort vX
def y7(rs):(qX rs).Perm rs:=List.mergeSort_perm rs vX
def QQ(rs):(qX rs).Pairwise λa b=>HT.lexLt b a=false:=by
 exact(List.pairwise_mergeSort qbn qbo rs).imp λ{a b} q=>by simpa[vX]using q
theorem ZR:∀{xs ys:List (List Int)},xs.Perm ys->xs.Pairwise (λa b=>HT.lexLt b a=false)->ys.Pairwise (λa b=>HT.lexLt b a=false)->xs=ys
 | [],ys,p,_,_=>by rw[List.nil_perm.mp p]
 | x::xs,[],p,_,_=>by have:=p.length_eq;simp at this
 | x::xs,y::ys,p,hx,hy=>by
  rw[fF]at hx hy;have e:x=y:=by
   rcases gy.mp (p.mem_iff.mp t8)with q|q
   .exact q
   rcases gy.mp (p.mem_iff.mpr t8)with q2|q2
   .exact q2.symm
   exact uq (hy.1 x q) (hx.1 y q2)
  subst e;rw[ZR (List.Perm.cons_inv p) hx.2 hy.2]
def vw(rs:List (List Int))(r:List Int):Int:=(rs.countP λq=>HT.lexLt q r:Nat)
def QR(z:a∈rs):(vw rs a<vw rs b)↔HT.lexLt a b=true:=by
 unfold vw;constructor
 .intro h;cases e:HT.lexLt a b with
  | true=>rfl
  | false =>
   have:(rs.countP λq=>HT.lexLt q b)<=rs.countP λq=>HT.lexLt q a:=List.countP_mono_left λq _ hq=>by
    cases e2:HT.lexLt b a with
    | true=>exact uo hq e2
    | false=>rw[uq e e2];exact hq
   lia
 intro h;have:(rs.countP λq=>HT.lexLt q a)<rs.countP λq=>HT.lexLt q b:=by
  obtain⟨l,r,rfl⟩:=List.append_of_mem z;have m:∀ l:List (List Int),(l.countP λq=>HT.lexLt q a)<=l.countP λq=>HT.lexLt q b:=λl=>List.countP_mono_left λq _ hq=>uo hq h
  have m1:=m l;have m2:=m r;rw[c9,c9,List.countP_cons_of_neg (by simp[ZQ]),List.countP_cons_of_pos (p:=λq=>HT.lexLt q b) h]
  lia
 lia
section
variable{prog:af}{w:World}{A:ag}{E:aa->ab->Prop}{s:ab}
def qbp(f){a b:Int}{Q:Bool->ab->Prop}(h:Q (decide (a<b)) s):wpAny (model prog w) A (oneLt' f (.int a t) (.int b u)) Q E s:=by
 cases f with
 | true=>exact oneLt_int h
 | false =>
  exact g6 (wpAny_richCompare_same (bz s a t) (bz s b u) slot_int_lt (call_int_lt #[(λz=>nomatch z),pQ h]))
theorem YK(f){Q:Option Bool×Unit->ab->Prop}:∀{xs ys} {ns ms} k,IntsAre xs ns->IntsAre ys ms ->
  (∀ r:Option Bool×Unit,(match r.1 with|some b=>b=HT.lexLt ns ms|none=>HT.lexLt ns ms=decide (xs[1]<ys[1]))->Q r s) ->
  wpAny (model prog w) A (forIn ((xs.zip ys).zipIdx k) (none,()) λx _=>match x with
   | ((p,q),i)=>do
    let e <- eqBool p q
    if (not e)=true then do
     let l <- oneLt' (f&&i==0) p q
     pure (ForInStep.done (!l,()))
    else pure (ForInStep.yield (none,()))) Q E s
 | _,_,_,_,k,.nil,.nil,h=>gu (h (none,()) (by rfl))
 | _,_,_,_,k,.nil,.cons _ _ _,h=>gu (h (none,()) (by simp[HT.lexLt_nil_cons]))
 | _,_,_,_,k,.cons _ _ _,.nil,h=>gu (h (none,()) (by simp[HT.lexLt_cons_nil]))
 | _,_,_,_,k,.cons a t hx,.cons b u hy,h=>by
  rw[bJ,bu,bD];refine g6 (g6 (wpAny_eqBool_int ?_));by_cases c:a=b
  .subst c;rw[beq_self_eq_true];refine gu (YK f (k+1) hx hy λr hr=>h r ?_)
   obtain⟨r1,_⟩:=r;cases r1 with
   | none=>dsimp only at hr ⊢;rw[HT.lexLt_cons,hr];simp
   | some v=>dsimp only at hr ⊢;rw[HT.lexLt_cons,if_pos rfl];exact hr
  have:(a==b)=false:=by simpa using c
  rw[this];refine g6 (qbp _ (gu (gu (h (!(decide (a<b)),()) ?_))));rw[HT.lexLt_cons,if_neg c]
def qbq{z ms:List Int}{Q:Bool->ab->Prop}(B:IsTup s.heap a xs.toArray)(O:IsTup s.heap b ys.toArray)(U:IntsAre xs z)(Y:IntsAre ys ms)(h:Q (HT.lexLt z ms) s) :
  wpAny (model prog w) A (keyLt' (tuples' true) (.ref a) (.ref b)) Q E s:=by
 obtain⟨oa,ea,ca,na,da⟩:=B;obtain⟨ob,eb,cb,nb,db⟩:=O;refine g6 (listItems_at ea da ?_);refine g6 (listItems_at eb db ?_);refine g6 (YK true 0 U Y λr hr=>?_)
 obtain⟨r1,_⟩:=r;cases r1 with
 | some v=>dsimp only at hr ⊢;subst hr;exact gu h
 | none=>dsimp only at hr ⊢;rw[hr]at h;simpa using gu h
def qM(h:Heap):aa->List Int
 | .ref a=>(match h.get? a with
  | some o=>(match o.data with|.seq its _=>numsOf its[2]|_=>[])
  | none=>[])
 | _=>[]
def Rows(h:Heap)(vs:List aa):Prop:=∀ v∈vs,∃ a its ns,v=.ref a/\IsTup h a (its:List aa).toArray/\IntsAre its (ns:List Int)/\ns≠[]
def wF(p:IsTup h a its.toArray)(q:IntsAre its ns):qM h (.ref a)=ns:=by
 obtain⟨o,e,c,n,d⟩:=p;unfold qM;dsimp only;rw[e];dsimp only;rw[d];exact q.numsOf
def Rows.stay{h h':Heap}(R:Rows h vs)(k:∀ b o,h.get? b=!o->h'.get? b=!o):Rows h' vs/\∀ v∈vs,qM h' v=qM h v:=by
 have go:∀ v∈vs,∃ a its ns,v=.ref a/\IsTup h a its.toArray/\IsTup h' a its.toArray/\IntsAre its ns/\ns≠[]:=λv hv=>by
  obtain⟨a,its,ns,e,p,q,n⟩:=R v hv;obtain⟨o,e2,c⟩:=p;exact#[a,its,ns,e,#[o,e2,c],#[o,k _ _ e2,c],q,n]
 refine#[λv hv=>?_,λv hv=>?_]
 .obtain⟨a,its,ns,e,_,p,q,n⟩:=go v hv;exact#[a,its,ns,e,p,q,n]
 obtain⟨a,its,ns,rfl,p,p',q,n⟩:=go v hv;rw[wF p q,wF p' q]
theorem YL:∀{vs} {Q},Rows s.heap vs->(∀ fs:List aa,fs[1]=vs[1]->(∀ f∈fs,∃ n t,f=.int n t)->Q (fs.map some) s)->wpAny (model prog w) A (vs.mapM firstOfTuple') Q E s
 | [],Q,_,h=>by rw[List.mapM_nil];exact gu (h [] rfl λf hf=>by simp at hf)
 | v::vs,Q,R,h=>by
  obtain⟨a,its,ns,rfl,p,q,n⟩:=R v t8;obtain⟨o,e,c,m,d⟩:=p;rw[List.mapM_cons];have first:∃ x t r,its=.int x t::r:=by
   cases q with
   | nil=>exact absurd rfl n
   | cons x t r=>exact#[x,t,_,rfl]
  obtain⟨x,t,r,rfl⟩:=first
  refine g6 (g6 (wpAny_typeOf #[o,e,c] ?_));refine g6 (listItems_at e d (gu ?_));refine g6 (YL (λv hv=>R v (gj _ hv)) λfs hl hf=>gu ?_)
  have:=h (.int x t::fs) (by simp[hl]) λf z=>by
   grind
  simpa using this
theorem YM:∀{fs:List aa},(∀ f∈fs,∃ n t,f=.int n t)->fs.mapM typeOf=pure (fs.map λ_=>Value.type "int")
 | [],_=>by simp
 | f::fs,h=>by
  obtain⟨n,t,rfl⟩:=h f t8;rw[List.mapM_cons,YM λf hf=>h f (gj _ hf)]
  rfl
def qbr(R:Rows s.heap vs)(z:vs≠[])(h:Q (tuples' true) s):wpAny (model prog w) A (keyKind' vs.toArray) Q E s:=by
 rw[keyKind'_eq,List.mapM_toArray,map_eq_pure_bind,bind_assoc];refine g6 (YL R λfs hl hf=>?_)
 simp only[pure_bind];rw[if_pos "s"]
 refine g6 (pV ?_);have e:(fs.map some).toArray.filterMap id=fs.toArray:=by simp
 rw[e,oneTypeOnly'_eq,List.mapM_toArray,YM hf];simp only[map_pure,pure_bind];cases fs with
 | nil=>simp at hl;exact absurd (fj.mp hl.symm) z
 | cons f fs =>
  have h0:(List.map (λ_=>Value.type "int") (f::fs)).toArray[0]?=!(Value.type "int"):=by simp
  have ha:((List.map (λ_=>Value.type "int") (f::fs)).toArray.all λx=>x==Value.type "int")=true:=by
   simp only[List.all_toArray,List.all_map,tW];intro _ _;rfl
  rw[h0];simp only[ha,dB,pure_bind];exact gu h
end
def qJ(r:List Int):D:=.tup (r.map .int)
def vF:List D->Option (List (List Int))
 | []=>↑[]
 | .tup xs::r=>(match jJ xs,vF r with|some a,!b=>↑(a::b)|_,_=>none)
 | _::_=>none
def toV:aa->V
 | .ref a=>.ref a
 | _=>.non
theorem ZS{s:ab}(I:"I" H s)(l:Le F H):∀{ds} {rs} {vs} {us},vF ds=!rs->Reps (kx X) F vs ds->Vals vs us ->
  us.map (qM s.heap)=rs/\∀ u∈us,∃ a its ns,u=.ref a/\IsTup s.heap a its.toArray/\IntsAre its ns/\Rep (kx X) F (.ref a) (qJ ns)/\ns∈rs
 | [],rs,vs,us,h,r,q=>by
  cases h;cases (r);cases q;exact#[rfl,λu hu=>by simp at hu]
 | d::ds,rs,vs,us,h,r,q=>by
  obtain⟨v,vr,rfl,r1,r2⟩:=r;cases d<;>first|(cases h;done)|skip
  rename_i xs;unfold vF at h;cases e1:jJ xs with
  | none=>rw[e1]at h;cases h
  | some ns =>
   cases e2:vF ds with
   | none=>rw[e1,e2]at h;cases h
   | some rs' =>
    rw[e1,e2]at h;cases h;cases q with
    | cons q1 q2 =>
     obtain⟨m,k⟩:=ZS I l e2 r2 q2;obtain⟨a,ws,rfl,hq,B⟩:=id r1;cases (q1);have ev:=yH e1 B;subst ev;obtain⟨its,rv,ht,_⟩:=I.tuple (SqT.le l hq);have hi:=ku rv;have z:Rep (kx X) F (.ref a) (qJ ns):=by
      exact#[a,_,rfl,hq,(Zt ns)]
     refine#[by rw[gN,m,wF ht hi],λu hu=>?_]
     rcases gy.mp hu with rfl|hu
     .exact#[a,its,ns,rfl,ht,hi,z,t8]
     obtain⟨a',its',O,e,p1,p2,p3,p4⟩:=k u hu;exact#[a',its',O,e,p1,p2,p3,gj _ p4]
section
variable{X:Cx}{F0 H0:Hp}
end
def vP{α:Type}(xs:List α)(lo hi:Option Int):List α:=(xs.drop (HT.sIx xs[1] 0 lo)).take (HT.sIx xs[1] xs[1] hi-HT.sIx xs[1] 0 lo)
def dSl:D->Option Int->Option Int->R En
 | .lst xs,lo,hi=>.ok (.lst (vP xs lo hi))[9]
 | .tup xs,lo,hi=>if HT.sIx xs[1] 0 lo=0/\HT.sIx xs[1] xs[1] hi=xs[1] then .stuck else .ok (.tup (vP xs lo hi))[8]
 | _,_,_=>.stuck
abbrev OF:=Rho->R (Option Int)
def oNo:OF:=λ_=>.ok none
def isI:D->R (Option Int)
 | .int i=>.ok !i
 | _=>.stuck
def oE(e:EF):OF:=λρ=>(e ρ).bind λw=>isI w.d
def eSl(a:EF)(lo hi:OF):EF:=λρ=>(a ρ).bind λx=>(lo ρ).bind λl=>(hi ρ).bind λu=>dSl x.d l u
theorem Reps.take:∀ n {ds} {vs},Reps κ F vs ds->Reps κ F (vs.take n) (ds.take n)
 | 0,_,_,_=>rfl
 | n+1,[],_,h=>by cases (h);rfl
 | n+1,d::ds,_,h=>by
  obtain⟨v,r,rfl,h1,h2⟩:=h;exact#[v,r.take n,rfl,h1,Reps.take n h2]
theorem Reps.drop:∀ n {ds} {vs},Reps κ F vs ds->Reps κ F (vs.drop n) (ds.drop n)
 | 0,_,_,h=>h
 | n+1,[],_,h=>by cases (h);rfl
 | n+1,d::ds,_,h=>by
  obtain⟨v,r,rfl,h1,h2⟩:=h;exact Reps.drop n h2
def Reps.cut(h:Reps κ F vs ds)(lo hi):Reps κ F (ww vs lo hi) (vP ds lo hi):=by
 unfold ww;rw[Reps.length h];exact Reps.take _ (Reps.drop _ h)
section
variable{X:Cx}{F0 H0:Hp}{pos p2:Pos}
def SO(X:Cx)(F0 H0:Hp)(e:Option Expr)(f:OF):Prop :=
 ∃ t,PO X e t/\∀(σ:St) (F H:Hp) (ρ:Rho) (Q:Option Int->Hp->Prop),StOk (kx X) F0 H0 F H ρ σ->KE (XP X F0 H0) (f ρ) (λo=>∀ F' H',Gr F H F' H'->Q o H')->t σ H Q
def qbs:SO X F0 H0 none oNo:=#[_,qa2,λσ F H ρ Q S h=>h F H (Gr.refl S.s)]
def ZT(z:"S" e f):SO X F0 H0 ↑e (oE f) :=
 #[_,qa3 (jh),λσ F H ρ Q S h=>z.sem S ((KE.bind h).imp λw k v F1 H1 g q=>by
  have r:=Vok.rd q
  revert k r
  generalize w.d=d;intro k r;cases d<;>first|exact k.elim|skip
  exact#[_,RdV.int r,k F1 H1 g])]
def YN{lo hi:Option Expr}(B:"S" e f)(O:SO X F0 H0 lo fl)(U:SO X F0 H0 hi fh):"S" (.Subscript e (.Slice lo hi none p2) pos) (eSl f fl fh):=by
 intro pins s σ F H ρ Q S I h;obtain⟨tl,pl,kl⟩:=O;obtain⟨th,ph,kh⟩:=U;refine vz (qa4 (SlR.or qal qa6) (jh) pl ph pins s σ H (λv H'=>∀ u s',RelV v u->"I" H' s'->Q u s') I ?_)
 refine B.sem S ((KE.bind h).imp λw h1 v F1 H1 g1 q1=>?_)
 refine kl σ F1 H1 ρ _ (S.grow g1) ((KE.bind h1).imp λo1 h2 F2 H2 g2=>?_)
 refine kh σ F2 H2 ρ _ (S.grow (g1.trans g2)) ((KE.bind h2).imp λo2 h3 F3 H3 g3=>?_)
 have r:=RdV.gr (g2.trans g3) (Vok.rd q1);have z:=yA (g1.trans (g2.trans g3)) h3
 revert z r
 generalize w.d=d;intro r z;cases d<;>first|exact z.elim|skip
 .rename_i ds;obtain⟨a,vs,rfl,hq,_,rs⟩:=RdV.tup g3.s r;unfold dSl at z;dsimp only at z;by_cases c:HT.sIx ds[1] 0 o1=0/\HT.sIx ds[1] ds[1] o2=ds[1]
  .rw[if_pos c]at z;exact z.elim
  rw[if_neg c]at z;refine .inr #[a,vs,rfl,hq,by rw[Reps.length rs];exact c,λp hp=>?_]
  have gn:=Gr.newF (o:=.tup (ww vs o1 o2)) g3.s hp;exact z (.ref p) _ _ gn #[p,_,rfl,.inl (.inl qL),Reps.le gn.f _ (Reps.cut rs o1 o2)]
 rename_i ds;obtain⟨a,vs,rfl,hq,rs⟩:=RdV.lst g3.s r;refine .inl #[a,vs,rfl,hq,λp hp=>?_]
 exact z (.ref p) _ _ (Gr.new g3.s hp) #[p,_,rfl,hp,Le.none g3.s hp,qL,Reps.cut rs o1 o2]
def kR(i:Nat)(k e:EF):SF:=λρ=>match ρ[i]? with
 | some (!(.lst xs)[9])=>sOf ((e ρ).bind En.st) λd=>sOf ((k ρ).bind λq=>isI q.d) λj=>match ixn xs[1] (j.getD 0)with
  | some n=>.nx (ρ.set i (!(.lst (xs.set n d))[9]))
  | none=>.stuck
 | _=>.stuck
theorem Reps.set(h:Rep κ F v d):∀ n {ds} {vs},Reps κ F vs ds->Reps κ F (vs.set n v) (ds.set n d)
 | _,[],_,h2=>by cases (h2);rfl
 | 0,_::ds,_,h2=>by
  obtain⟨u,r,rfl,h3,h4⟩:=h2;exact#[v,r,rfl,h,h4]
 | n+1,_::ds,_,h2=>by
  obtain⟨u,r,rfl,h3,h4⟩:=h2;exact#[u,r.set n v,rfl,h3,Reps.set h n h4]
def qbt(i)(z:"S" k fk)(B:"S" e fe)(O:(Nm X i x)["t"])
  (U:∀ v,assign (.Subscript (.Name x np) k pos') X.env v=(do
   let ov <- holding [v] (eval (.Name x np) X.env);let iv <- holding [v,ov] (eval k X.env);standAt pos';holding [v,ov,iv] (setItem ov iv v);release [v,ov,iv] []):=by intro _;rfl)
  (Y:(swapsWithSole [.Subscript (.Name x np) k pos'] e pos.line X.env=pure false)["r"]) (Z:(swappedStores [.Subscript (.Name x np) k pos'] e X.env=pure none)["r"])
  (h1:((assignEach [.Subscript (.Name x np) k pos'] X.env).map (·.2)=[assign (.Subscript (.Name x np) k pos') X.env])["r"]) :
  SS X F0 H0 (.Assign [.Subscript (.Name x np) k pos'] e pos) (kR i fk fe):=by
 intro pins s σ F H ρ D S I h;unfold kR at h;cases ew:ρ[i]? with
 | none=>rw[ew]at h;exact h.elim
 | some w =>
  rw[ew]at h;cases w with
  | none=>exact h.elim
  | some w =>
   cases w with
   | fz d=>exact h.elim
   | br d=>exact h.elim
   | lk d=>exact h.elim
   | od d=>exact h.elim
   | ow d =>
    cases d<;>first|exact h.elim|skip
    rename_i ds;have h:=KE.bind (PostS.of h);obtain⟨v,e1,a,o,rfl,h0,hf,hh,ro⟩:=S.val i _ ew;cases o<;>first|exact ro.elim|skip
    rename_i vs;refine T7 (jh) (T5 (pos:=pos') (pvN (pos:=np) O) (jh (e:=k)) qah U) Y Z h1 pins s σ H D I (B.sem S (h.imp λw k1 y F1 H1 g1 q1=>?_))
    cases es:w.st with
    | exc x=>rw[es]at k1;exact k1.elim
    | stuck=>rw[es]at k1;exact k1.elim
    | ok d =>
     rw[es]at k1;have ry:=Vok.st S.s g1 q1 es;obtain⟨g2,_⟩:=vm S.s g1;have S2:=S.grow g2;refine#[_,e1,z.sem S2 ((KE.bind (PostS.of (show PostS X F0 H0 F D _ from k1))).imp λwk k2 y2 F3 H3 g3 q3=>?_)]
     have r:=Vok.rd q3
     revert k2 r
     generalize wk.d=dk;intro k2 r;cases dk<;>first|exact k2.elim|skip
     rename_i j;have k2:PostS X F0 H0 F D (match ixn ds[1] j with|some n=>.nx (ρ.set i (!(.lst (ds.set n d))[9]))|none=>.stuck):=k2
     cases ej:ixn ds[1] j with
     | none=>rw[ej]at k2;exact k2.elim
     | some n =>
      rw[ej]at k2;refine#[a,vs,j,n,rfl,RdV.int r,g3.h _ _ (g1.h _ _ hh),by rw[Reps.length ro];exact ej,?_]
      refine k2 σ _ _ (Le.trans g2.f g3.f) ((S2.grow g3).mut ew e1 (o:=.lst (vs.set n y)) ?_);exact Reps.set (Rep.le g3.f _ ry) n (Reps.le (Le.trans g2.f g3.f) _ ro)
def qz:D->D->R En
 | .int i,.int j=>okI (i+j)
 | .lst xs,.lst ys=>if xs[1]+ys[1]<=sz then .ok (.lst (xs++ys))[9]else .stuck
 | .tup xs,.tup ys=>if xs[1]+ys[1]<=sz/\xs≠[]/\ys≠[]then .ok (.tup (xs++ys))[8]else .stuck
 | _,_=>.stuck
def qY:OpD X (binaryOp .Add) qz:=by
 intro pins s σ F H x y v u dx dy Q I l rx ry qx qy w;cases dx<;>first|exact w.elim|skip
 .cases dy<;>first|exact w.elim|skip
  exact qb3 pins s σ F H x y v u _ _ Q I l rx ry qx qy w
 .rename_i xs;cases dy<;>first|exact w.elim|skip
  rename_i ys;unfold qz at w;dsimp only at w;by_cases c:xs[1]+ys[1]<=sz/\xs≠[]/\ys≠[]
  .rw[if_pos c]at w;obtain⟨a,vs,rfl,hq,_,rs⟩:=RdV.tup l qx;obtain⟨b,us,rfl,U,_,O⟩:=RdV.tup l qy;have n1:vs≠[]:=λz=>by subst z;have:=Reps.length rs;simp at this;exact c.2.1 (fj.mp this.symm)
   have n2:us≠[]:=λz=>by subst z;have:=Reps.length O;simp at this;exact c.2.2 (fj.mp this.symm)
   refine qa8 pins s σ H _ _ v u Q I rx ry #[a,b,vs,us,rfl,rfl,hq,U,n1,by rw[Reps.length rs,Reps.length O,<- zY];exact c.1,λz=>absurd z n2,λ_ p hp=>?_]
   have gn:=Gr.newF (o:=.tup (vs++us)) l hp;exact w (.ref p) _ _ gn #[p,_,rfl,.inl (.inl qL),Reps.le gn.f _ (Reps.append rs O)]
  rw[if_neg c]at w;exact w.elim
 rename_i xs;cases dy<;>first|exact w.elim|skip
 rename_i ys;unfold qz at w;dsimp only at w;by_cases c:xs[1]+ys[1]<=sz
 .rw[if_pos c]at w;obtain⟨a,vs,rfl,hq,rs⟩:=RdV.lst l qx;obtain⟨b,us,rfl,U,O⟩:=RdV.lst l qy;cases (show v=Value.ref a from rx)
  cases (show u=Value.ref b from ry)
  obtain⟨its,rv,pl,hz⟩:=I.list hq;obtain⟨B,Y,pl2,hz2⟩:=I.list U;obtain⟨⟨cls,dd,data,sl⟩,ho,hc,n,hd⟩:=pl.isList;obtain⟨⟨h4,dd2,h3,sl2⟩,Z,hc2,n2,hd2⟩:=pl2.isList;subst hc hd hc2 hd2;have hl:its[1]+B[1]<=sizeLine:=by rw[<- rv[1],<- Y[1],Reps.length rs,Reps.length O,<- zY];exact c
  refine concat_meets #[_,ho,rfl] #[_,Z,rfl] noFill_list_add seq_list_add PySem.F.slot_list_add PySem.F.entry_list_add (PySem.F.args_list_add_2 _ _) (list_addW a b its.toArray B.toArray n n2 dd dd2 sl sl2 hl[""]) #[ho,Z,?_]
  have ea:its.toArray++B.toArray=(its++B).toArray:=by simp
  rw[ea];have hp:H s[0]=none:=I.hok.fresh (gw _);refine#[.ref s[0],upd H s[0] (.lst (vs++us)),I.laid (t':=s.toks) (λb o q=>gq _ q) (gw _) #[?_,its++B,0,rv.append Y,gM _ rfl],rfl,?_]
  .rw[gD,rv[1],Y[1]];exact hl
  exact w _ _ _ (Gr.new l hp) #[_,_,rfl,hp,Le.none l hp,qL,Reps.append rs O]
 rw[if_neg c]at w;exact w.elim
def QS:D->D->R En
 | x,.lst xs=>if eqok x&&xs.all (qw 8)then okB (not (din x xs))else .stuck
 | x,.tup xs=>if eqok x&&xs.all (qw 8)then okB (not (din x xs))else .stuck
 | _,_=>.stuck
def qbu(h:xs.all (qw n)=true):PyData.canLayAll0 (jY xs)=true/\PyData.depthAll (jY xs)<=n:=by
 obtain⟨a,b⟩:=wW (n+1) (.lst xs) h;exact#[a,Nat.le_of_succ_le_succ b]
def qbv(z:X.A.units+10<cLine):OpD X (compareOp .NotIn) QS:=by
 intro pins s σ F H x y v u dx dy Q I l rx ry qx qy w;cases dy<;>first|exact w.elim|skip
 all_goals
  rename_i xs;unfold QS at w;dsimp only at w;by_cases c:(eqok dx&&xs.all (qw 8))=true
  .rw[if_pos c]at w;rw[gZ]at c;obtain⟨as,ha⟩:=kG I l c.1 qx rx;obtain⟨bs,hb⟩:=kG (n:=9) I l (by exact c.2) qy ry
   obtain⟨l1,l2⟩:=qbu c.2;obtain⟨k1,k2⟩:=wW 8 dx c.1
   first
    | refine SeqAt.notIn_list_reads hb ha l1 k1 "" ?_
    | refine SeqAt.notIn_tuple_reads hb ha l1 k1 "" ?_
   rw[Ya dx 8 8 c.1 xs c.2];exact#[.bl _,H,I,rfl,jn l w rfl]
  rw[if_neg c]at w;exact w.elim
variable{prog:af}{w:World}{A:ag}{E:aa->ab->Prop}{s:ab}
def qbw(d)(hd:(d==sysModules)=false) :
  MeetsIn prog w (Builtin.«dict.__len__» #[[.ref d],[]]) (λ_ R s=>∃ o es ep,s.heap.get? d=!o/\o.data=.dict es ep/\R (.ok (.ret (.int es.size s.toks))) {s with toks:=s.toks+1}) :=
 .of_wp λA R s #[o,es,ep,ho,hdat,h]=>by
  refine g6 (m:=dictSize d) (g6 (b9 ho hdat (gu ?_)));refine g6 (wpAny_pendingCount_other hd (wpAny_ret_mkInt ?_))
  simp_all
def YO(hd:(d==sysModules)=false)(B:s.heap.get? d=!o)(O:o.ExactDict)(z:o.data=.dict es ep)(hz:es.size<=sizeLine)
  (h:Q (.int es.size (s.toks+1)) {s with toks:=s.toks+1+1}):wpAny (model prog w) A (call (.builtin "len") [.ref d]) Q E s:=by
 rw[pG]at hz;have ty:s.TypeIs (.ref d) "dict":=#[o,B,O.1];refine Calls.call_function_entry kind_len plain_len entry_len (args_len1 _) ?_;refine g6 (m:=callSpecial? (.ref d) (Str.ofString "__len__")) (fL ty PySem.F.slot_dict_len
  (bm PySem.F.slot_dict_len ty PySem.F.entry_dict_len (PySem.F.args_dict_len_1 _) (qbw d hd) #[o,es,ep,B,z,?_]))
 have c2:¬ ((es.size):Int)≥2 ^ 63:=""
 show wpAny _ _ (if ((es.size):Int)≥2 ^ 63 then _ else _) _ _ _
 rw[if_neg c2];exact g6 (wpAny_mkInt (gu #[_,rfl,h]))
end
def jd:List D->R En
 | [.lst xs]=>okI xs[1]
 | [.tup xs]=>okI xs[1]
 | [.dK kvs]=>if kvs[1]<=sz then okI kvs[1] else .stuck
 | [.dT kvs]=>okI kvs[1]
 | _=>.stuck
theorem RepT.length:∀{kds} {kvs},RepT κ F kvs kds->kvs[1]=kds[1]
 | [],_,h=>by cases (h);rfl
 | (q,d)::r,_,h=>by
  obtain⟨v,kr,rfl,h1,h2⟩:=h;simp[RepT.length h2]
theorem RdV.dT{F H:Hp}{v:V}{ds:List (List (Sum Int Str)×D)}(s:Le F H)(h:RdV κ F H v (.dT ds)):∃ a kvs,v=.ref a/\Rd H a (.dT kvs)/\RepT κ F kvs ds:=by
 rcases h with⟨a,vs,e,q,r⟩|⟨a,o,e,e2,r⟩
 .exact#[a,vs,e,Rd.le s q,r]
 cases o with
 | dT vs=>exact#[a,vs,e,.inl e2,r]
 | _=>exact r.elim
section
variable{X:Cx}{F0 H0:Hp}
def zc:zX X (.builtin "len") jd:=by
 intro pins s σ F H xs us ds Q I l rx qx w;cases qx with
 | nil=>exact w.elim
 | @cons x d xs ds q1 q2 =>
  cases q2 with
  | cons _ _=>cases d<;>exact w.elim
  | nil =>
   cases d<;>first|exact w.elim|skip
   .exact Ye pins s σ F H _ _ [.tup _] Q I l rx (.cons q1 .nil) w
   .exact Ye pins s σ F H _ _ [.lst _] Q I l rx (.cons q1 .nil) w
   .rename_i kds;obtain⟨p,kvs,rfl,hq,rk⟩:=RdV.dK l q1;cases rx with
    | cons r1 r2 =>
     cases r2;cases r1;obtain⟨hd,vs,B,o,es,ep,ho,hx,z,hk,hp,hn⟩:=Inv.dictK I hq;have e1:es.size=kds[1]:=by
      have a1:es[2].length=vs[1]:=hp[1];have a2:=B[1];have a3:=RepK.length rk
      simp_all
     unfold jd at w;dsimp only at w;by_cases c:kds[1]<=sz
     .rw[if_pos c]at w;refine YO hd ho hx z (by rw[e1];exact c) ?_
      rw[e1];exact#[.int _,H,I.tok _,#[_,rfl],jn (X:=X) l (v:=.int _) w rfl]
     rw[if_neg c]at w;exact w.elim
   rename_i kds;obtain⟨p,kvs,rfl,hq,rk⟩:=RdV.dT l q1;cases rx with
   | cons r1 r2 =>
    cases r2;cases r1;obtain⟨hz,hd,zs,B,o,es,ep,ho,hx,z,h4,h5⟩:=hq.ok I.hok;have e1:es.size=kvs[1]:=by
     have a1:es[2].length=zs[1]:=by rw[h4,gg]
     have a2:=B[1]
     grind
    refine YO hd ho hx z "" ?_
    rw[e1,RepT.length rk];exact#[.int _,H,I.tok _,#[_,rfl],jn (X:=X) l (v:=.int _) w rfl]
theorem YQ:∀{kds} {kvs},RepT κ F kvs kds->kvs.map (·.1)=kds.map (·.1)
 | [],_,h=>by cases (h);rfl
 | (k,d)::r,_,h=>by
  obtain⟨v,kr,rfl,h1,h2⟩:=h;simp[YQ h2]
theorem YR:∀{kds es} {kvs us},RepT κ F kvs kds->RepT κ F us es->RepT κ F (kvs++us) (kds++es)
 | [],_,_,_,h,k=>by cases (h);exact k
 | (q,d)::r,_,_,_,h,k=>by
  obtain⟨v,kr,rfl,h1,h2⟩:=h;exact#[v,kr++_,rfl,h1,YR h2 k]
theorem YS(z:Rep κ F v d):∀{kds} {kvs},RepT κ F kvs kds ->
  RepT κ F (kvs.map λkv=>if kv.1=k then(kv.1,v)else kv) (kds.map λkv=>if kv.1=k then(kv.1,d)else kv)
 | [],_,h=>by cases (h);rfl
 | (q,e)::r,_,h=>by
  obtain⟨u,kr,rfl,h1,h2⟩:=h;have hr:=YS (k:=k) z h2;by_cases c:q=k
  .simp[gN,if_pos c];exact#[v,_,rfl,z,hr]
  simp[gN,if_neg c];exact#[u,_,rfl,h1,hr]
def YT(z:Rep κ F v d)(h:RepT κ F kvs kds):RepT κ F (jI kvs k v) (qS k d kds):=by
 have a:∀{α} (l:List (List Key×α)),(l.any λkv=>decide (kv.1=k))=(l.map (·.1)).any λq=>decide (q=k):=λl=>by rw[List.any_map];rfl
 unfold jI qS;rw[a,a,(YQ h)];by_cases c:((kds.map (·.1)).any λq=>decide (q=k))=true
 .rw[if_pos c,if_pos c];exact YS z h
 rw[if_neg c,if_neg c];exact YR h #[v,[],rfl,z,rfl]
theorem ut:∀{ws} {vs} {q:List Key},Voks κ H F' H' vs ws->jF (ws.map En.d)=!q->vs=q.map kV
 | [],vs,q,h,e=>by cases e;exact h
 | w::ws,vs,q,h,e=>by
  obtain⟨v,r,rfl,h1,h2⟩:=h;rw[gN]at e;unfold jF at e;cases e1:zm w.d with
  | none=>rw[e1]at e;cases e
  | some k =>
   cases e2:jF (ws.map En.d)with
   | none=>rw[e1,e2]at e;cases e
   | some ks =>
    rw[e1,e2]at e;cases e;have r1:=Vok.rd h1;have ev:v=kV k:=by
     cases ed:w.d with
     | int j=>rw[ed]at e1 r1;cases e1;exact RdV.int r1
     | str j=>rw[ed]at e1 r1;cases e1;exact RdV.str r1
     | _=>rw[ed]at e1;cases e1
    rw[ev,ut h2 e2];rfl
def QT{k:Nat}(B:SA X F0 H0 es fs){Q:VK}(S:StOk (kx X) F0 H0 F H ρ σ)
  (h:KE (XP X F0 H0) (evs fs ρ) λws=>∀ vs F' H' p,Gr F H F' H'->Voks (kx X) H F' H' vs ws->H' p=none->vs[1]<=sizeLine/\Q (.ref p) (upd H' p (.tup vs))):kD X (.Tuple es k tp) σ H Q:=by
 refine λpins s I=>bC (B tp pins s σ F H ρ _ S I (h.imp λws k1 vs us F1 H1 s1 g1 q1 r1 I1=>?_))
 obtain⟨z,q⟩:=k1 vs F1 H1 s1[0] g1 q1 (I1.hok.fresh (gw _));exact#[by rw[<- r1[1]];exact z,(#[.ref s1[0],upd H1 s1[0] (.tup vs),I1.laid (λb u e=>gq _ e) (gw _) (#[z,us,r1,#[_,gM _ rfl,rfl,_,rfl]]),rfl,q])]
def kS(i:Nat)(k:List EF)(e:EF):SF:=λρ=>match ρ[i]? with
 | some (!(.dT kvs)[9])=>sOf ((e ρ).bind En.st) λd=>sOf (evs k ρ) λws=>match jF (ws.map En.d)with
  | some key=>if kvs[1]<sz/\key[1]<=sz then .nx (ρ.set i (!(.dT (qS key d kvs))[9]))else .stuck
  | none=>.stuck
 | _=>.stuck
def qbx(i){np tp pos pos':Pos}{n:Nat}(Y:X.A.units+10<cLine)(z:SA X F0 H0 ks fk)(B:"S" e fe)(O:(Nm X i x)["t"])(U:(swapsWith e (!(.Subscript (.Name x np) (.Tuple ks n tp) pos')) pos.line X.env=pure false)["r"]) :
  SS X F0 H0 (.Assign [.Subscript (.Name x np) (.Tuple ks n tp) pos'] e pos) (kS i fk fe):=by
 intro pins s σ F H ρ D S I h;unfold kS at h;cases ew:ρ[i]? with
 | none=>rw[ew]at h;exact h.elim
 | some w =>
  rw[ew]at h;cases w with
  | none=>exact h.elim
  | some w =>
   cases w with
   | fz d=>exact h.elim
   | br d=>exact h.elim
   | lk d=>exact h.elim
   | od d=>exact h.elim
   | ow d =>
    cases d<;>first|exact h.elim|skip
    rename_i kds;have h:=KE.bind (PostS.of h);obtain⟨v,e1,a,o,rfl,h0,hf,hh,ro⟩:=S.val i _ ew;cases o<;>first|exact ro.elim|skip
    rename_i kvs;refine Zd (pos:=pos) (pos':=pos') "" (pvN (pos:=np) O) (jh (e:=.Tuple ks n tp)) (jh (e:=e)) U pins s σ H D I (B.sem S (h.imp λw k1 y F1 H1 g1 q1=>?_))
    cases es:w.st with
    | exc x=>rw[es]at k1;exact k1.elim
    | stuck=>rw[es]at k1;exact k1.elim
    | ok d =>
     rw[es]at k1;have ry:=Vok.st S.s g1 q1 es;obtain⟨g2,_⟩:=vm S.s g1;have S2:=S.grow g2;refine#[_,e1,QT z S2 ((PostS.of (show PostS X F0 H0 F D _ from k1)).imp λws k2 vs F3 H3 p g3 q3 hp=>?_)]
     cases ek:jF (ws.map En.d)with
     | none=>rw[ek]at k2;exact k2.elim
     | some key =>
      rw[ek]at k2;have ev:=ut q3 ek;subst ev;have lv:kvs[1]=kds[1]:=RepT.length ro;by_cases c:kds[1]<sz/\key[1]<=sz
      .have k3:PostS X F0 H0 F D (.nx (ρ.set i (!(.dT (qS key d kds))[9]))):=by simpa[if_pos c]using k2
       refine#[by rw[gg];exact c.2,a,_,rfl,DPut.t (e:=?_) qL (by rw[lv];exact c.1),?_]
       .rw[qr (jH (g3.h _ _ (g1.h _ _ hh)) hp)];exact g3.h _ _ (g1.h _ _ hh)
       have g4:=Gr.new (o:=.tup (key.map kV)) g3.s hp;refine k3 σ _ _ (Le.trans g2.f (Le.trans g3.f g4.f)) (((S2.grow g3).grow g4).mut ew e1 (o:=.dT (jI kvs key y)) ?_);exact YT (Rep.le g3.f _ ry) (RepT.le (Le.trans g2.f g3.f) _ ro)
      have:False:=by simpa[if_neg c,PostS,KE]using k2
      exact this.elim
end
def chE(g:D->D->R En)(y:D)(c:EF):EF:=λρ=>(c ρ).bind λz=>g y z.d
section
variable{ρ:Rho}{d:D}{e f:EF}{i:Nat}{a b c:EF}
theorem qhV{i j:Int}:qz i[6] j[6]=.ok (i+j)[7]:=rfl
theorem qhW:jd [.lst xs]=.ok (.int xs[1])[8]:=rfl
theorem qhX:jd [.tup xs]=.ok (.int xs[1])[8]:=rfl
theorem qhY{lo hi:OF}:eSl a lo hi ρ=(a ρ).b λx=>(lo ρ).b λl=>(hi ρ).b λu=>dSl x.dd l u:=rfl
theorem qhZ:oNo ρ=.ok none:=rfl
theorem qi0:oE e ρ=(e ρ).b λw=>isI w.dd:=rfl
theorem qi1:isI j[6]=.ok !j:=rfl
theorem qi2{lo hi:Option Int}:dSl (.lst xs) lo hi=.ok (.lst (vP xs lo hi))[9]:=rfl
theorem qi3:uc g g' a b c ρ=(a ρ).b λx=>(b ρ).b λy=>(g x.dd y.dd).b λr=>(isB r.dd).b (ud (chE g' y.dd c) kF ρ):=rfl
theorem qi4:chE g d c ρ=(c ρ).b λz=>g d z.dd:=rfl
def qby{j:Int}{n:Nat}(h:ρ[i]?=!(!(.lst xs)[9]))(h2:(e ρ).b En.sto=.ok d)(z:k ρ=.ok w)(B:w.d=.int j)(O:ixn xs[1] j=!n) :
  kR i k e ρ=.nx (ρ.set i (!(.lst (xs.set n d))[9])):=by
 have h2:(e ρ).bind En.st=.ok d:=h2;unfold kR;rw[h];rw[h2];rw[z,R.bind_ok,B];show(match ixn xs[1] j with|some n=>_|none=>_)=_
 rw[O]
def qbz{kvs:List (List (Sum Int Str)×D)}{ws:List En}{key:List (Sum Int Str)}(h:ρ[i]?=!(!(.dT kvs)[9]))(h2:(e ρ).b En.sto=.ok d)(B:evs k ρ=.ok ws)(O:jF (ws.map En.d)=!key)
  (U:kvs[1]<sz)(z:key[1]<=sz):kS i k e ρ=.nx (ρ.set i (!(.dT (qS key d kvs))[9])):=by
 have h2:(e ρ).bind En.st=.ok d:=h2;unfold kS;rw[h];rw[h2];unfold sOf;rw[B];dsimp only;rw[O];dsimp only;rw[if_pos #[U,z]]
def qbA(xs:List α)(a m:Nat):vP xs ↑a (!(a+m))=(xs.drop a).take m:=by
 unfold vP;rw[HT.sIx_nat,show a+m=((a+m:Nat):Int)by lia,HT.sIx_nat]
 by_cases h:a<=xs[1]
 .rw[show min a xs[1]=a by lia]
  apply cG;intro i;rw[cg,cg,List.getElem?_drop]
  grind
 rw[List.drop_eq_nil_of_le (by lia:xs[1]<=min a xs[1]),List.drop_eq_nil_of_le ""]
 simp
def vQ{w:En}(h:e ρ=.ok w)(h2:w.st=.ok (.lst ds)):jc e ρ=.ok ds:=by unfold jc;rw[h,R.bind_ok,h2];rfl
def YU{a b c d:Int}:dNe (.tup [.int a,.int b]) (.tup [.int c,.int d])=.ok (.bl (not (a==c&&b==d)))[8]:=by
 show okB (not (deq _ _))=_;simp[deq,deqs]
theorem YV:∀ rs,vF (rs.map qJ)=!rs
 | []=>rfl
 | r::rs=>by
  show(match jJ (r.map .int),vF (rs.map qJ)with|some a,!b=>↑(a::b)|_,_=>none)=_
  have e:∀ ns,jJ (ns.map D.int)=!ns:=by
   intro ns
   induction ns with
   | nil=>rfl
   | cons n ns ih =>
    show(match jJ (ns.map D.int)with|some l=>↑(n::l)|none=>none)=_
    rw[ih]
  rw[e,YV rs]
end
section
variable{prog:af}{w:World}{A:ag}{R:Result->ab->Prop}{it:Addr}{fp wr:List Addr}{n:Nat}{P:Nat->aa->Prop}{St:Nat->Heap->Prop}
def qbB:Option aa->Array aa
 | none=>#[]
 | some v=>(List.toArray [v,v])
def qbC(W:Walks prog w A.in1 it fp wr n P St)(bt)(cmp:CmpOf prog w A.in1 .Gt P bt)(p)(np:p∉fp)(dv) :
  ∀ k j s ob c,n-j=k->j<=n->St j s.heap->(match ob with|none=>j=0|some v=>0<j/\P (argBest bt (j-1)) v) ->
  s.heap.get? p=some {cls:=.type "list",dict:=none,data:=.seq (qbB ob) c,slots:=#[]} ->
  (∀ v h' tk,(n=0/\v=dv\/0<n/\P (argBest bt (n-1)) v)->(∀ b o,b∉wr->b≠p->s.heap.get? b=!o->h'.get? b=!o)->R (.ok (.ret v)) {s with heap:=h',toks:=tk}) ->
  codeAny (model prog w) A (.builtin "max.loop" #[[.ref it,.none,.ref p],[(Str.ofString "default",dv)]]) R s:=by
 have pw:p∉wr:=λz=>np (W.sub _ z)
 have nm:(toString "max"++toString ".loop")="max.loop":=by decide
 intro k
 induction k with
 | zero =>
  intro j s ob c hk hj st hb hp hR;have e:j=n:=""
  subst e;refine dR PySem.F.entry_max_loop ?_;refine g6 (m:=seqItems? (.ref p)) (fG hp rfl ?_);refine g6 (cV (W.done s _ _ st λh' tk kp=>?_))
  have U:=kp p _ pw hp;cases ob with
  | none =>
   refine g6 (pV (gu (hR dv _ tk (.inl #[hb,rfl]) λb o O _ e=>kp b o O e)))
  | some v =>
   refine g6 (m:=updateSeq p λ_=>#[]) (cH U rfl (g6 (pS (gu ?_))) (by show 2<=sizeLine;decide) "s")
   exact hR v _ tk (.inr #[hb.1,hb.2]) λb o O B e=>(tM _ _ (tf B)).trans (kp b o O e)
 | succ k ih =>
  intro j s ob c hk hj st hb hp hR;have lt:j<n:=""
  refine dR PySem.F.entry_max_loop ?_;rw[bv pT _];refine g6 (m:=seqItems? (.ref p)) (fG hp rfl ?_);refine g6 (cV (W.item j s _ _ lt st λv h' tk hP st' kp=>?_))
  have U:=kp p _ pw hp;have frame:∀ h'',(∀ b o,b≠p->h'.get? b=!o->h''.get? b=!o)->St (j+1) h'':=λh'' q=>W.frame _ _ _ st' λb hbf o e=>q b o (λz=>np (by rw[<- z];exact hbf)) e
  cases ob with
  | none =>
   have e:j=0:=hb;subst e;refine g6 (m:=updateSeq p λ_=>(List.toArray [v,v])) (cH U rfl ?_ (by show 0<=sizeLine;decide) (by show 2<=sizeLine+1;decide))
   rw[nm];refine gu #[cj pT _,ih 1 _ ↑v _ "" lt (frame _ λb o B e=>(tM _ _ (tf B)).trans e) #[by decide,hP] (f9 _ U rfl) λv' h2 Y q Z=>?_]
   exact hR v' h2 Y q λb o O B e=>Z b o O B ((tM _ _ (tf B)).trans (kp b o O e))
  | some vb =>
   obtain⟨j0,hPb⟩:=hb;refine g6 (gu (g6 (cV (fT (g6 (cmp j (argBest bt (j-1)) v vb _ _ _ hP hPb (g6 (fT (pQ (g6 (pS (gu ?_))))))))))));have ea:argBest bt j=if bt j (argBest bt (j-1))then j else argBest bt (j-1):=by
    obtain⟨i,rfl⟩:∃ i,j=i+1:=#[j-1,""]
    rfl
   by_cases cb:bt j (argBest bt (j-1))=true
   .rw[if_pos cb];rw[if_pos cb]at ea;refine g6 (m:=updateSeq p λ_=>(List.toArray [v,v])) (cH U rfl (g6 (pS ?_)) (by show 2<=sizeLine;decide) (by show 2<=sizeLine+1;decide))
    rw[nm];refine gu #[cj pT _,ih (j+1) _ ↑v _ "" lt (frame _ λb o B e=>(tM _ _ (tf B)).trans e) #["",?_] (f9 _ U rfl) λv' h2 Y q Z=>?_]
    .rw[Nat.add_sub_cancel,ea];exact hP
    exact hR v' h2 Y q λb o O B e=>Z b o O B ((tM _ _ (tf B)).trans (kp b o O e))
   rw[if_neg cb];rw[if_neg cb]at ea;refine g6 (pS ?_);rw[nm];refine gu #[cj pT _,ih (j+1) _ ↑vb c "" lt st' #["",?_] U λv' h2 Y q Z=>?_]
   .rw[Nat.add_sub_cancel,ea];exact hPb
   exact hR v' h2 Y q λb o O B e=>Z b o O B (kp b o O e)
variable{E:aa->ab->Prop}{s:ab}
def qbD(a b):argsOk "max" #[[a],[(Str.ofString "default",b)]]:=by unfold argsOk;kernel_rfl
def qbE{xs:Array (Int×Tok)}{Q:aa->ab->Prop}(Y:A.handled=none)(Z:s.heap.IsList l (intItems xs))
  (h:∀ v h' tk,(xs.size=0/\v=dv\/0<xs.size/\(intItems xs)[argBest (λi j=>decide (numAt xs i>numAt xs j)) (xs.size-1)]?=!v)->(∀ b o,s.heap.get? b=!o->h'.get? b=!o)->Q v {s with heap:=h',toks:=tk}) :
  wpAny (model prog w) A (call (.builtin "max") [.ref l] [(Str.ofString "default",dv)]) Q E s:=by
 have U:(intItems xs).size=xs.size:=by simp[intItems]
 refine wpAny_call (codeAny_call_builtin PySem.F.plain_max PySem.F.entry_max ?_);have body:wpAny (model prog w) A.in1 (Builtin.«max» #[[.ref l],[(Str.ofString "default",dv)]]) (λfin s'=>match fin with
   | .done f=>(match (Except.ok f)with|.ok (.ret v)=>Q v s'|.ok _=>False|.error e=>E e s')
   | .again c'=>c'.quiet=true/\codeAny (model prog w) A c' (λr s'=>match r with|.ok (.ret v)=>Q v s'|.ok _=>False|.error e=>E e s') s') E s:=by
  refine g6 (m:=Builtin.Builtins.bindParams "max" ["key","default"] 0 #[[],[(Str.ofString "default",dv)]]) (wpAny_of_eq (show Builtin.Builtins.bindParams "max" ["key","default"] 0 #[[],[(Str.ofString "default",dv)]]=pure [none,!dv]from rfl) ?_)
  refine g6 (gu (g6 (iter_intList Z λs₂ e st B O=>?_)))
  subst e;refine g6 (tV ?_);have W:=Walks.list (prog:=prog) (w:=w) (A:=A.in1) Y s[0] l O (intItems xs);refine gu #[cj pT _,qbC W _ (CmpOf.ints_gt (numAt xs) λ_ _=>intItems_at) _ (λz=>fB _ (B _ z)) dv _ 0 _ none 0 rfl (tJ _) (W.frame _ _ _ st λb _ o e=>gq _ e) rfl (gM _ rfl) λv h' tk q kp=>?_]
  refine h v h' tk ?_ (old_kept λb o hb e=>kp b o hb (hV (gK e)) (gq _ e))
  rw[U]at q;exact q
 have ok:=qbD (.ref l) dv;unfold argsOk at ok
 revert ok
 generalize Manifest.signature? "max"=sg;intro ok;cases sg with
 | none=>exact gu body
 | some sg =>
  have ok:Bind.checkArgs "max" sg #[[.ref l],[(Str.ofString "default",dv)]]=pure ():=ok;simp[ok];exact gu body
end
def y8:D->D->R En
 | .lst ds,.int d=>(match jJ ds with|some []=>okI d|some (i::r)=>okI (y3 i r)|none=>.stuck)
 | _,_=>.stuck
section
variable{X:Cx}{F0 H0:Hp}{pos p kp:Pos}
def YW(Y:"S" e fe)(hd:"S" d fd)(Z:X.mg "max"=none)(hc:(X.calm=true)["r"])(hg:(Gl X "max")["r"])
  (h1:(backTo pos (starEach [e] X.env)=(false,eval e X.env)::backTo pos (starEach [] X.env))["r"])(h2:((backTo pos (starEach [e] X.env)).any (·.1)=false)["r"])
  (h3:((backToKw pos (keywordEach [#[some "default",d,kp]] X.env)).all (·.1.isSome)=true)["r"])(h4:((backToKw pos (keywordEach [#[some "default",d,kp]] X.env)).any (·.1.isNone)=false)["r"])
  (h5:((backToKw pos (keywordEach [#[some "default",d,kp]] X.env)).filterMap (·.1)=[Str.ofString "default"])["r"])
  (U:(starEach [e] X.env=[(false,eval e X.env)])["r"]) :
  "S" (.Call (.Name "max" p) [e] [#[some "default",d,kp]] pos) (eOp y8 fe fd):=by
 refine λpins s σ F H ρ Q S I h=>fC (zH I hg Z d7 ?_)
 refine callWith_kw ?_ h1 h2 h3 h4;rw[U];refine hZ (Y pins s σ F H ρ _ S I ((KE.bind h).imp λwx k1 v u F1 H1 s1 g1 q1 r1 I1=>tL ?_))
 refine kws_cons (hd pins s1 σ F1 H1 ρ _ (S.grow g1) I1 ((KE.bind k1).imp λwy k2 v2 u2 F2 H2 s2 g2 q2 r2 I2=>kws_nil ?_))
 rw[h5];have qx:=RdV.gr g2 (Vok.rd q1);have qy:=Vok.rd q2;have B:=yA (g1.trans g2) k2
 revert B qx qy
 generalize wx.d=dx;generalize wy.d=dy;intro qx qy B;cases dx<;>first|exact B.elim|skip
 rename_i ds;cases dy<;>first|exact B.elim|skip
 rename_i dv;unfold y8 at B;dsimp only at B;cases RdV.int qy;obtain⟨td,rfl⟩:=r2;cases ei:jJ ds with
 | none=>rw[ei]at B;exact B.elim
 | some ns =>
  rw[ei]at B;obtain⟨a,vs,rfl,hq,rs⟩:=RdV.lst g2.s qx;have ev:=yH ei rs;subst ev;cases r1;obtain⟨its,rv,pl,hz⟩:=I2.list hq;have hi:IntsAre its ns:=ku rv;obtain⟨ys,ey⟩:=hi.allInts.items;have O:ns=ys[2].map (·.1):=by rw[<- hi.numsOf,<- nums_intItems,<- ey]
  have hl:=pl.isList;rw[ey]at hl;have hsz:ys.size=ns[1]:=by rw[O];simp
  refine vz (pins:=pins) (σ:=σ) (qbE (I2.ok.hd hc) hl λv h' tk hv kp=>?_)
  cases ns with
  | nil =>
   rcases hv with⟨_,rfl⟩|⟨z,_⟩
   .exact#[.int dv,H2,I2.kept kp,#[_,rfl],jn (X:=X) g2.s (v:=.int _) B rfl]
   rw[hsz]at z;simp at z
  | cons i r =>
   rcases hv with⟨z,_⟩|⟨_,hv⟩
   .rw[hsz]at z;simp at z
   obtain⟨t,rfl⟩:=intItems_at hv;obtain⟨b1,b2⟩:=argBest_gt (numAt ys) (ys.size-1);have m1:numAt ys (argBest (λi j=>decide (numAt ys i>numAt ys j)) (ys.size-1))∈i::r:=by
    rw[O,numAt_eq];exact getD_mem (by rw[gg,pz];simp at hsz;lia)
   have m2:∀ a∈i::r,a<=numAt ys (argBest (λi j=>decide (numAt ys i>numAt ys j)) (ys.size-1)):=λa ha=>by
    rw[O]at ha;obtain⟨j,hj,rfl⟩:=mem_getD ha;rw[gg,pz]at hj;rw[<- numAt_eq];exact b2 j ""
   obtain⟨k1,k2⟩:=Zy r i;have em:numAt ys (argBest (λi j=>decide (numAt ys i>numAt ys j)) (ys.size-1))=y3 i r:=Int.le_antisymm (k2 _ m1) (m2 _ k1)
   rw[em];exact#[.int _,H2,I2.kept kp,#[_,rfl],jn (X:=X) g2.s (v:=.int _) B rfl]
def vG(i:Nat)(e:EF):SF:=λρ=>match ρ[i]? with
 | some (!(.lst xs)[9])=>sOf (e ρ) λw=>match w with
  | .ow (.lst ys)=>if xs[1]+ys[1]<=sz then .nx (ρ.set i (!(.lst (xs++ys))[9]))else .stuck
  | _=>.stuck
 | _=>.stuck
def QU(i){x:Str}{apos cpos np:Pos}(Z:"S" e f)(hN:(Nm X i x)["t"])(B:(attributeBase (.Name x np) "extend" X.env (eval (.Name x np) X.env)=eval (.Name x np) X.env)["r"])
  (U:(((backTo cpos (starEach [e] X.env)).all (λx=>not x.1)&&(backToKw cpos (keywordEach [] X.env)).all (λx=>x.1.isSome)
   && decide ([e].length+([]:List Keyword)[1]+(if ([]:List Keyword).isEmpty then 0 else 1)<30))=true)["r"])
  (O:((apos.endLine==cpos.line)=true)["r"]) (Y:(starEach [e] X.env=(false,eval e X.env)::starEach [] X.env)["r"]) (z:((backTo cpos (starEach [] X.env)).any (·.1)=false)["r"])
  (hs:(swapsWith (.Call (.Attribute (.Name x np) "extend" apos) [e] [] cpos) none pos.line X.env=pure false)["r"]) :
  SS X F0 H0 (.Expr (.Call (.Attribute (.Name x np) "extend" apos) [e] [] cpos) pos) (vG i f):=by
 intro pins s σ F H ρ D S I h;unfold vG at h;cases ew:ρ[i]? with
 | none=>rw[ew]at h;exact h.elim
 | some w =>
  rw[ew]at h;cases w with
  | none=>cases h
  | some w =>
   cases w with
   | fz d=>exact h.elim
   | br d=>exact h.elim
   | lk d=>exact h.elim
   | od d=>exact h.elim
   | ow d =>
    cases d<;>first|exact h.elim|skip
    rename_i ds;have h:=PostS.of h;obtain⟨v,e1,a,o,rfl,h0,hf,hh,ro⟩:=S.val i _ ew;cases o<;>first|exact ro.elim|skip
    rename_i vs;have P:=xL (wT p7 PySem.F.slot_list_extend PySem.F.type_list_extend qat (pvN (pos:=np) hN) (zI (jh (e:=e)) vM Y) B U O Y z) hs;refine P pins s σ H D I #[_,e1,.inl #[rfl,vs,SqL.of hh],Z.sem S (h.imp λw k y F1 H1 g1 q1=>?_)]
    cases w with
    | fz d=>exact k.elim
    | br d=>exact k.elim
    | lk d=>exact k.elim
    | od d=>exact k.elim
    | ow d =>
     cases d<;>first|exact k.elim|skip
     rename_i es;obtain⟨b,o,rfl,b0,bf,bh,rb⟩:=q1;cases o<;>first|exact rb.elim|skip
     rename_i us;dsimp only at k;by_cases c:ds[1]+es[1]<=sz
     .rw[if_pos c]at k;have hl:vs[1]+us[1]<=sizeLine:=by rw[Reps.length ro,Reps.length rb];exact c
      refine#[a,b,vs,us,rfl,rfl,g1.h _ _ hh,bh,hl,?_];exact k σ _ _ g1.f ((S.grow g1).mut ew e1 (o:=.lst (vs++us)) (Reps.append (Reps.le g1.f _ ro) rb))
     rw[if_neg c]at k;exact k.elim
def uu:D->Bool
 | .non=>true
 | _=>false
def wG:D->D->R En
 | .xc _ _,_=>.stuck
 | d,.non=>okB (uu d)
 | _,_=>.stuck
def zE:D->D->R En
 | .xc _ _,_=>.stuck
 | d,.non=>okB (not (uu d))
 | _,_=>.stuck
def YX(l:Le F H)(q:RdV κ F H v d)(z:∀ c fs,d≠.xc c fs):decide (v=.non)=uu d:=by
 cases d with
 | non=>rw[RdV.non q];rfl
 | bl b=>rw[RdV.bl q];rfl
 | int b=>rw[RdV.int q];rfl
 | str b=>rw[RdV.str q];rfl
 | tup ds=>obtain⟨a,vs,rfl,_⟩:=RdV.tup l q;rfl
 | lst ds=>obtain⟨a,vs,rfl,_⟩:=RdV.lst l q;rfl
 | dK ds=>obtain⟨a,vs,rfl,_⟩:=RdV.dK l q;rfl
 | dT ds=>obtain⟨a,vs,rfl,_⟩:=RdV.dT l q;rfl
 | xc c fs=>exact absurd rfl (z c fs)
def YY:OpD X (compareOp .Is) wG:=vA TC λF H x y dx dy Q l qx qy w=>by
 have hx:∀ c fs,dx≠.xc c fs:=λc fs z=>by subst z;exact w.elim
 cases dy<;>first|(cases dx<;>exact w.elim)|skip
 have w:Wish X F H (okB (uu dx)) Q:=by cases dx<;>first|exact w|exact w.elim
 refine#[RdV.non qy,?_];rw[YX l qx hx];exact jn l w rfl
def ZU:OpD X (compareOp .IsNot) zE:=vA TD λF H x y dx dy Q l qx qy w=>by
 have hx:∀ c fs,dx≠.xc c fs:=λc fs z=>by subst z;exact w.elim
 cases dy<;>first|(cases dx<;>exact w.elim)|skip
 have w:Wish X F H (okB (not (uu dx))) Q:=by cases dx<;>first|exact w|exact w.elim
 refine#[RdV.non qy,?_];rw[YX l qx hx];exact jn l w rfl
variable{ρ:Rho}{d:D}{e:EF}{i:Nat}
def YZ(o:Option (Option En))(i:Nat)(g:D->D->R En)(e:EF)(ρ:Rho):Out:=match o with
 | some (!x[8])=>sOf ((e ρ).b λy=>(g x y.dd).b En.nmo) λw=>.nx (ρ.set i !w)
 | _=>.stuck
theorem qi5:jV i g e ρ=YZ ρ[i]? i g e ρ:=rfl
theorem qi6:YZ (!(!d[8])) i g e ρ=sOf ((e ρ).b λy=>(g d y.dd).b En.nmo) λw=>.nx (ρ.set i !w):=rfl
def QV(h:ρ[i]?=!(!(.lst xs)[9]))(h2:e ρ=.ok (.lst ys)[9])(z:xs[1]+ys[1]<=sz):vG i e ρ=.nx (ρ.set i (!(.lst (xs++ys))[9])):=by
 unfold vG;rw[h];rw[h2];unfold sOf;dsimp only;rw[if_pos z]
theorem qi7:wG (.tup xs) .non=.ok (.bl false)[8]:=rfl
theorem qi8:zE .non .non=.ok (.bl false)[8]:=rfl
theorem qi9:zE (.tup xs) .non=.ok (.bl true)[8]:=rfl
theorem qia:zE j[6] .non=.ok (.bl true)[8]:=rfl
end
def kT(o:Option (Option En))(i:Nat)(ρ:Rho):Rho:=match o with
 | some (!d[9])=>ρ.set i (!d[8])
 | _=>ρ
section
variable{i:Nat}{ρ:Rho}{a:SF}{d:D}
def qbF:jB i a ρ=a (kT ρ[i]? i ρ):=rfl
theorem qib:kT (!(!d[9])) i ρ=ρ.set i (!d[8]):=rfl
theorem qic:kT (!(!d[8])) i ρ=ρ:=rfl
theorem qid:kT (!(!(.br d))) i ρ=ρ:=rfl
end
open PySem.Builtin PySem.Builtin.ObjectAttr
abbrev bmV:List aa:=[.type "ValueError",.type "Exception",.type "BaseException",.type "object"]
def qbG:List aa->Bool
 | .ref _::r=>qbG r
 | l=>l==bmV
section
variable{prog:af}{w:World}{A:ag}{E:aa->ab->Prop}{s:ab}{K:Frag}{x C:Addr}{vs:Array aa}{sl:Array (Option aa)}{cd:ClassData}{name:Str}{v:aa}
end
def qie(K:Frag)(C:Addr):Bool:=match K.lookup C with
 | some #[.type "type",_,.cls k,z]=>match k.mro,z[2] with
  | .ref D::r,[_,_,_,_,!(.builtin m),_]=>D==C&&m=="ValueError.__new__"&&not k.hasDel&&tailIn K bmV r
  | _,_=>false
 | _=>false
section
variable{prog:af}{w:World}{A:ag}{E:aa->ab->Prop}{s:ab}{K:Frag}{C f:Addr}{rest:List aa}{R:Result->ab->Prop}
variable{P:af}{mg:Str->Option aa}{base:Heap}
variable{X:Cx}{F0 H0:Hp}
variable{pos p pos2:Pos}{e:Expr}{es:List Expr}{fa:List EF}{x:Str}{k n:Nat}{fd:FuncData}{ps:List Str}{dn:Den}
end
section
variable{M:Model}{A:ag}{E:aa->ab->Prop}{s:ab}{K:Frag}{C S e:Addr}{oe:Obj}
variable{X:Cx}{pins pn:List (Addr×Obj)}{σ:St}{H:Hp}{D:Ends}{fl:Flow}
variable{F0 H0:Hp}{cN n:Str}{i:Nat}{ex:Expr}{cs:List Str}{hd:Xc->R En}{cp rp hp:Pos}
variable{np apos tp bp vp ip:Pos}{j1 j2:Nat}
end
section
variable{X:Cx}{pins:List (Addr×Obj)}{σ:St}{H:Hp}{s:ab}{h':Heap}{fp:List Addr}{t':Nat}
def QW(O:∀ b∈fp,FpOk X pins H b)(B:H b=!u):b∉fp:=λz=>by rw[(O b z).1]at B;cases B
def K0(I:"I" H s)(B:∀ b∈fp,FpOk X pins H b)(k:∀ b o,b∉fp->s.heap.get? b=!o->h'.get? b=!o):"I" H {s with heap:=h',toks:=t'}:=by
 refine I.call #[λb o e _ _ nc=>k b o nc e,λb o e _ _ nc=>#[o.slots,k b o nc e],λ_ _ _ n _=>n,λb o e nc=>#[o,k b o nc e],λ_ _ z=>z,λ_ _ _ z=>z,λb ps z=>#[#[],by rw[z];simp]] (λb u hb=>?_) I.bare
  λb hb=>#[(B b hb).2.2.2.1,(B b hb).2.1,(B b hb).2.2.2.2.1,(B b hb).2.2.2.2.2]
 refine(I.hok b u hb).stay (λd v hd q=>k d v ?_ q) (λ_ z=>z) λ_ _ z=>z
 rcases hd with rfl|z
 .exact QW B hb
 exact QW B z
def K1{xs:List V}(I:"I" H s)(B:∀ b∈fp,FpOk X pins H b)(k:∀ b o,b∉fp->s.heap.get? b=!o->h'.get? b=!o)(O:s[0]<=T)(tup:IsTup h' T its.toArray)(r:Vals xs its)(hz:xs[1]<=sizeLine) :
  "I" (upd H T (.tup xs)) {s with heap:=h',toks:=t'}:=by
 have ne:∀ b o,s.heap.get? b=!o->b≠T:=λb o e z=>absurd (t4 (gK e) (z▸O)) (fB _)
 have up:∀ b u,H b=!u->upd H T (.tup xs) b=!u:=λb u e=>by rw[qr (jH e (I.hok.fresh O))];exact e
 refine I.call #[λb o e _ _ nc=>k b o nc e,λb o e _ _ nc=>#[o.slots,k b o nc e],λb o e n _=>?_,λb o e nc=>#[o,k b o nc e],λb _ z=>up b _ z,λb _ _ z=>up b _ z,λb ps z=>#[#[],by rw[up b _ z];simp]] (λb u hb=>?_) I.bare
  λb hb=>#[(B b hb).2.2.2.1,(B b hb).2.1,(B b hb).2.2.2.2.1,(B b hb).2.2.2.2.2]
 .rw[qr (ne b o e)];exact n
 by_cases z:b=T
 .subst z;rw[qL]at hb;cases hb;exact#[hz,its,r,tup]
 rw[qr z]at hb;refine(I.hok b u hb).stay (λd v hd q=>k d v ?_ q) (λc y=>up c _ y) λc ys y=>up c _ y
 rcases hd with rfl|y
 .exact QW B hb
 exact QW B y
end
def Ite(K:Frag)(a:Addr):It :=
 #[λi H=>∃ xs x,SqL K H a xs/\xs[i]?=!x,λi H x H'=>∃ p y,H p=none/\x=.ref p/\H'=upd H p (.tup [.int i,y])/\∀ xs,SqL K H a xs->xs[i]?=!y,λi H=>∃ xs,SqL K H a xs/\xs[1]<=i]
def qbH{K:Frag}{k:Nat}(a it e:Addr)(ne:e≠it) :
  Turn P w K (.Tuple es k tp) (Ite K a) [e,it] e (λi h=>(∃ B,IsEnum h e it i B)/\h.IsListIter it a i)where
 mem:=by simp
 obj:=λi h #[#[B,he],hi] b hb=>by
  rcases gy.mp hb with rfl|hb
  .simp_all
  obtain rfl:b=it:=by simpa using hb
  obtain⟨o,e,c,d⟩:=hi
  simp_all
 keep:=λi h h' #[#[B,he],hi] kk=>#[#[B,kk e "s" _ he],hi.at λo q=>kk it "s" o q]
 item:=by
  intro X hP hw hK hc i pins s σ H E I hf ⟨⟨B,he⟩,hi⟩ hg;subst hP hw hK;obtain⟨xs,x,hq,hx⟩:=hg;obtain⟨its,rv,p,hz⟩:=I.list hq;obtain⟨u,hu,ru⟩:=rv.get hx;refine wpAny_pyNext_enum_item he hi p.isList hu[""] ne λh1 ho Y hT hsz hk=>#[_,rfl,?_]
  refine wpAny_letOwnedTupleGo_enum (s:={s with heap:=h1,toks:=s.toks+1}) ho λh2 Z sb=>?_
  have O:s[0]≠e:=fV (gK he);have T2:h2.get? s[0]=some {cls:=.type "tuple",data:=.seq (List.toArray [.int i s.toks,u])}:=(sb.2 _ O).trans hT;refine#[.ref s[0],upd H s[0] (.tup [.int i,x]),K1 (s:=s) (t':=s.toks+1) (its:=[.int i s.toks,u]) I hf (λb o nb ho=>?_) (gw _) #[_,T2,rfl,_,rfl] (.cons #[_,rfl] (.cons ru .nil)) (by simp[pG]),rfl,
   #[_,x,I.hok.fresh (gw _),rfl,rfl,λys hy=>by rw[I.list_inj hy hq];exact hx],#[#[u,by simpa using Z],Y.at λo q=>(sb.2 it (tf ne)).trans q],λb hb=>?_]
  .have U:b≠e:=λz=>nb (by simp[z])
   have nb2:b≠it:=λz=>nb (by simp[z])
   exact(sb.2 b U).trans (hk b o U nb2 ho)
  rw[qr]
  .exact(hf b hb).1
  rcases gy.mp hb with rfl|hb
  .exact tf O
  obtain rfl:b=it:=by simpa using hb
  obtain⟨o,q,_⟩:=hi;exact hV (gK q)
 done:=by
  intro X hP hw hK hc i pins s σ H E I hf ⟨⟨B,he⟩,hi⟩ hg;subst hP hw hK;obtain⟨xs,hq,hx⟩:=hg;obtain⟨its,rv,p,hz⟩:=I.list hq;have hl:=rv[1];refine wpAny_pyNext_enum_end (I.ok.hd hc) he hi p.isList (by simp;lia) λh1 eb=>#[rfl,K0 (t':=s.toks) I hf λb o nb ho=>eb b o (λz=>nb (by simp[z])) ho]
 self:=λ_ _ _ _ _ #[#[B,he],_] h=>wpAny_pyIter_enum he h
def numd:Nat->List D->List D
 | _,[]=>[]
 | n,d::r=>.tup [.int n,d]::numd (n+1) r
theorem ZV:∀ ds n i (x:D),(numd n ds)[i]?=!x->∃ d,ds[i]?=!d/\x=.tup [.int (n+i:Nat),d]
 | [],_,_,_,h=>by simp[numd]at h
 | d::r,n,0,x,h=>by simp[numd]at h;exact#[d,rfl,by rw[<- h];rfl]
 | d::r,n,i+1,x,h=>by
  obtain⟨y,e1,e2⟩:=ZV r (n+1) i x (by simpa[numd]using h)
  exact#[y,by simpa using e1,by rw[e2];lia]
theorem K2:∀ ds n,(numd n ds)[1]=ds[1]
 | [],_=>rfl
 | d::r,n=>by simp[numd,K2 r]
def K3{κ:Kx}(B:∀ F H,Le F1 F->Le F H->Le G H->SqL κ.K H a vs)(rs:Reps κ F1 vs ds):Walk κ (Ite κ.K a) F1 G (numd 0 ds)where
 go:=λi x F H ed l1 l lg=>by
  obtain⟨d,e1,rfl⟩:=ZV ds 0 i x ed;obtain⟨v,ev,rv⟩:=Reps.get rs e1;have q:=B F H l1 l lg;refine#[#[vs,v,q,ev],λy H' z=>?_]
  obtain⟨p,y,hp,rfl,rfl,w⟩:=z;have:=w vs q;rw[ev]at this;cases this;exact#[_,Gr.newF l hp,p,[.int i,v],rfl,.inl (.inl qL),(#[_,_,rfl,by rw[pP];rfl,_,_,rfl,Rep.le (λb o z=>by rw[qr (jH z (Le.none l hp))];exact z) d (Rep.le l1 d rv),rfl])]
 stop:=λi F H hi l1 l lg=>#[vs,B F H l1 l lg,by rw[Reps.length rs];rw[K2]at hi;exact hi]
def zr(i:Nat):IF:=λρ=>match ρ[i]? with
 | some (!(.lst ds)[8])=>.ok (numd 0 ds)
 | some (!(.br (.lst ds)))=>.ok (numd 0 ds)
 | _=>.stuck
def kU(i){X:Cx}{k:Nat}(z:X.mg "enumerate"=none)(B:(Nm X i x)["t"])(O:(Gl X "enumerate")["r"])(U:(starEach [.Name x pos] X.env=[(false,eval (.Name x pos) X.env)])["r"]) :
  SI X F0 H0 (.Tuple es k tp) (.Call (.Name "enumerate" np) [.Name x pos] [] cp) (zr i):=by
 refine#[λσ H R=>∃ a,σ[i]?=!(!(.ref a))/\(∃ xs,SqL X.K H a xs)/\R (Ite X.K a) H,λpins s σ H R I #[a,hσ,#[xs,hq],hR]=>?_,λσ F H ρ R S h=>?_]
 .refine Call_ (zH I O z boot_enumerate (tw ?_ U rfl));refine hZ (thn (pvN B pins s σ H (λv' H'=>v'=.ref a/\H'=H) I #[_,hσ,rfl,rfl]) λu s1 #[v1,H1,I1,r1,e1,e2]=>?_)
  subst e1 e2;obtain rfl:u=Value.ref a:=r1;refine tL ?_;obtain⟨its,rv,p,hz⟩:=I1.list hq;refine call_enumerate_list p.isList λh' he hi hsz kp=>?_
  refine wpAny_pyIter_enum (s:={s1 with heap:=h'}) he ?_;refine#[_,_,_,_,H1,rfl,I1.kept (t':=s1.toks) kp,qbH a s1[0] (s1[0]+1) (fV (dq _)),#[#[_,he],hi],λb hb=>?_,hR]
  have lb:s1[0]<=b:=by
   rcases gy.mp hb with rfl|hb
   .simp
   simp_all
  exact I1.fpOk lb (I1.hok.fresh lb)
 unfold zr at h;cases ew:ρ[i]? with
 | none=>rw[ew]at h;exact h.elim
 | some w =>
  rw[ew]at h;cases w with
  | none=>exact h.elim
  | some w =>
   obtain⟨v,e1,q⟩:=S.val i w ew;cases w with
   | ow d=>exact h.elim
   | lk d=>exact h.elim
   | od d=>exact h.elim
   | fz d =>
    cases d<;>first|exact h.elim|skip
    obtain⟨a,vs,rfl,hq,rs⟩:=q;exact#[a,e1,#[vs,SqL.le S.s hq],h F H _ (Gr.refl S.s) (K3 (κ:=kx X) (λF' H' l1 l _=>SqL.le l (SqL.le l1 hq)) rs)]
   | br d =>
    obtain⟨a,o,rfl,eh,ro⟩:=q;cases d<;>first|exact h.elim|skip
    cases o<;>first|exact ro.elim|skip
    exact#[a,e1,#[_,SqL.of (S.gr.h _ _ eh)],h F H _ (Gr.refl S.s) (K3 (κ:=kx X) (λF' H' _ _ lg=>SqL.le lg (SqL.of eh)) ro)]
section
variable{prog:af}{w:World}{A:ag}{E:aa->ab->Prop}{s:ab}
def ZW{i:Nat}{Q:aa->ab->Prop}(z:s.heap.IsTupleIter ia t i)(B:s.heap.IsTuple t vs)(O:vs[i]?=!x)
  (k:∀ h',h'.IsTupleIter ia t (i+1)->Heap.SameBut ia s.heap h'->Q x {s with heap:=h'}):wpAny (model prog w) A (Builtin.SmallTypes.nextOf (.ref ia)) Q E s:=by
 obtain⟨o,g1,g2,g3⟩:=id z;obtain⟨ot,g4,_,nt,g5⟩:=B;unfold Builtin.SmallTypes.nextOf;refine g6 (fL z.typeIs po (pj po z.typeIs dS ?_ (dJ _)));show wpAny _ _ (field (.ref ia) 0 >>= _) _ _ s;refine g6 (p6 g1 g3 (x:=.ref t) rfl ?_);refine g6 (p6 g1 g3 rfl ?_);show wpAny _ _ (seqItems? (.ref t) >>= _) _ _ s;refine g6 (fG g4 g5 ?_);simp[fK,O];refine g6 (bi g1 g3 "s" (gu #[x,rfl,gu (k _ #[_,f9 _ g1 (Obj.isFreed_of_fields (dU g3 _)),(Obj.cls_mapFields ..).trans g2,?_] (pA ..))]))
 rw[dU g3];simp[rawInt]
def K4{i:Nat}{Q:aa->ab->Prop}(B:A.handled=none)(z:s.heap.IsTupleIter ia t i)(O:s.heap.IsTuple t vs)(U:vs[i]?=none)
  (k:∀ h' e,Heap.ExtBut ia s.heap h'->(∃ o,h'.get? e=!o/\o.cls=.type "StopIteration")->E (.ref e) {s with heap:=h'}):wpAny (model prog w) A (Builtin.SmallTypes.nextOf (.ref ia)) Q E s:=by
 obtain⟨o,g1,g2,g3⟩:=id z;obtain⟨ot,g4,_,nt,g5⟩:=O;unfold Builtin.SmallTypes.nextOf;refine g6 (fL z.typeIs po (pj po z.typeIs dS ?_ (dJ _)));show wpAny _ _ (field (.ref ia) 0 >>= _) _ _ s;refine g6 (p6 g1 g3 (x:=.ref t) rfl ?_);refine g6 (p6 g1 g3 rfl ?_);show wpAny _ _ (seqItems? (.ref t) >>= _) _ _ s;refine g6 (fG g4 g5 ?_);simp[fK,U];refine g6 (pV (g6 (bi g1 g3 "s" ?_)))
 show wpAny _ _ (newExc (.type "StopIteration") [] >>= _) _ _ _;refine g6 ?_;refine g6 (tV (g6 (wpAny_of_eq (a:=Value.none) (by first|rfl|(rfl)) (tV ?_ (by size_fits)))) (by size_fits))
 refine g6 (wpAny_handled ?_);first|rw[show A.in1.handled=none from B]|rw[B]
 exact g6 (gu (wpAny_throw (k _ _ (((pA ..).extBut.push _).push _) #[_,gM _ rfl,rfl])))
structure ZA(zp tI tO ja jb t1 t2:Addr):Prop where
 nd:[zp,tI,tO,ja,jb].Nodup
 n1:t1∉[zp,tI,tO,ja,jb]
 n2:t2∉[zp,tI,tO,ja,jb]
def qbI{B O:Nat}{Q:Option aa->ab->Prop}(D:ZA zp tI tO ja jb t1 t2)(z:IsZip s.heap zp tI tO .none)(U:IsPair s.heap tI (.ref ja) (.ref jb))(Y:IsPair s.heap tO a b)
  (Z:s.heap.IsTupleIter ja t1 B)(g2:s.heap.IsTupleIter jb t2 O)(q1:s.heap.IsTuple t1 xs)(q2:s.heap.IsTuple t2 ys)(ex:xs[B]?=!x)(ey:ys[O]?=!y)
  (k:∀ h',IsZip h' zp tI tO (rawInt s[0])->IsPair h' tO x y->h'.IsTupleIter ja t1 (B+1)->h'.IsTupleIter jb t2 (O+1)->IsPair h' s[0] x y ->
   (∀ c o,c≠zp->c≠tO->c≠ja->c≠jb->s.heap.get? c=!o->h'.get? c=!o)->Q (!(.ref s[0])) {s with heap:=h'}):wpAny (model prog w) A (pyNext (.ref zp)) Q E s:=by
 obtain⟨nd,m1,m2⟩:=D;simp[tF,gy,pJ,m8,not_or,bP,and_true,bY]at nd m1 m2;obtain⟨⟨a1,a2,a3,a4⟩,⟨b1,b2,b3⟩,⟨c1,c2⟩,d1⟩:=nd;obtain⟨e1,e2,e3,e4,e5⟩:=m1;obtain⟨f1,f2,f3,f4,f5⟩:=m2;have tz:s.TypeIs (.ref zp) "zip":=#[_,z,rfl];refine g6 (m9 (fL (name:=Str.ofString "__next__") tz d8 (pj d8 tz PySem.F.entry_zip_next ?_ (PySem.F.args_zip_next_1 _))));show wpAny _ _ (field (.ref zp) 2 >>= _) _ _ _;refine g6 (p6 z rfl (x:=.bool false) rfl ?_);refine g6 (p6 z rfl (x:=.ref tI) rfl (g6 (fG U rfl ?_)));refine g6 ?_;unfold Builtin.SmallTypes.ownedTupleIsFree;refine g6 (p6 z rfl (x:=.none) rfl (gu ?_));refine g6 (pV (g6 (p6 z rfl (x:=.ref tO) rfl (g6 (cq z "s" λh1 z1 s1=>?_)))))
 refine g6 ?_;simp only[bu,List.zipIdx_nil,bD,List.forIn_nil];refine g6 (g6 (mf ?_));refine g6 (ZW (Z.extBut s1.extBut (tf a3)) (q1.extBut s1.extBut e1) ex λh2 w2 s2=>gu ?_)
 have o2:IsPair h2 tO a b:=s2.extBut _ _ c1 (s1.extBut _ _ (tf a2) Y);refine g6 (fG o2 rfl (g6 (bw o2 λh3 o3 s3=>?_)))
 refine g6 (pS (gu (g6 (g6 (mf ?_)))));refine g6 (ZW (((g2.extBut s1.extBut (tf a4)).extBut s2.extBut (tf d1)).extBut s3.extBut (tf c2)) (((q2.extBut s1.extBut f1).extBut s2.extBut f4).extBut s3.extBut f3) ey λh4 w4 s4=>gu ?_)
 have o4:IsPair h4 tO x b:=s4.extBut _ _ c2 o3;refine g6 (fG o4 rfl (g6 (bw o4 λh5 o5 s5=>?_)))
 replace o5:IsPair h5 tO x y:=o5
 refine g6 (pS (gu (gu (g6 (fG o5 rfl (g6 (wpAny_newTuple ?_)))))));have sz:h5.objs.size=s[0]:=by rw[s5.1,s4.1,s3.1,s2.1,s1.1]
 have z5:IsZip h5 zp tI tO .ellipsis:=s5.extBut _ _ a2 (s4.extBut _ _ a4 (s3.extBut _ _ a2 (s2.extBut _ _ a3 z1)));have w5:h5.IsTupleIter ja t1 (B+1):=((w2.extBut s3.extBut (tf c1)).extBut s4.extBut d1).extBut s5.extBut (tf c1);have v5:h5.IsTupleIter jb t2 (O+1):=w4.extBut s5.extBut (tf c2);have lz:zp<h5.objs.size:=gK z5;show wpAny _ _ (Builtin.SmallTypes.ownedTupleHandOut (.ref zp) (.ref h5.objs.size) >>= _) _ _ _;refine g6 ?_;unfold Builtin.SmallTypes.ownedTupleHandOut;have z6:IsZip (h5.push {cls:=.type "tuple",data:=.seq (List.toArray [x,y])}) zp tI tO .ellipsis:=gq _ z5;refine g6 (cq z6 "s" λh7 z7 s7=>?_)
 replace z7:IsZip h7 zp tI tO (rawInt h5.objs.size):=z7
 refine cq z7 "s" λh8 z8 s8=>?_
 replace z8:IsZip h8 zp tI tO (rawInt h5.objs.size):=z8
 have up:∀ c o,c≠zp->h5.get? c=!o->h8.get? c=!o:=λc o n e=>s8.extBut _ _ n (s7.extBut _ _ n (gq _ e))
 have p8:IsPair h8 h5.objs.size x y:=s8.extBut _ _ (fV lz) (s7.extBut _ _ (fV lz) (gM _ rfl));rw[sz]at z8 p8;refine gu #[_,rfl,gu ?_];show Q (!(.ref h5.objs.size)) _;rw[sz];refine k h8 z8 (up _ _ (tf a2) o5) (w5.at λo e=>up _ o (tf a3) e) (v5.at λo e=>up _ o (tf a4) e) p8 λc o n1 n2 n3 n4 e=>up c o n1 ?_
 exact s5.extBut _ _ n2 (s4.extBut _ _ n4 (s3.extBut _ _ n2 (s2.extBut _ _ n3 (s1.extBut _ _ n1 e))))
def qbJ{B O:Nat}{Q:Option aa->ab->Prop}(U:A.handled=none)(D:ZA zp tI tO ja jb t1 t2)(z:IsZip s.heap zp tI tO .none)(gI:IsPair s.heap tI (.ref ja) (.ref jb))(gO:IsPair s.heap tO a b)
  (Y:s.heap.IsTupleIter ja t1 B)(g2:s.heap.IsTupleIter jb t2 O)(Z:s.heap.IsTuple t1 xs)(q2:s.heap.IsTuple t2 ys)(en:xs[B]?=none\/ys[O]?=none)
  (k:∀ h',(∀ c o,c≠zp->c≠tO->c≠ja->c≠jb->s.heap.get? c=!o->h'.get? c=!o)->Q none {s with heap:=h'}):wpAny (model prog w) A (pyNext (.ref zp)) Q E s:=by
 obtain⟨nd,m1,m2⟩:=D;simp[tF,gy,pJ,m8,not_or,bP,and_true,bY]at nd m1 m2;obtain⟨⟨a1,a2,a3,a4⟩,⟨b1,b2,b3⟩,⟨c1,c2⟩,d1⟩:=nd;obtain⟨e1,e2,e3,e4,e5⟩:=m1;obtain⟨f1,f2,f3,f4,f5⟩:=m2;have tz:s.TypeIs (.ref zp) "zip":=#[_,z,rfl];have fin:∀ h' e,(∀ c o,c≠zp->c≠tO->c≠ja->c≠jb->s.heap.get? c=!o->h'.get? c=!o)->(∃ o,h'.get? e=!o/\o.cls=.type "StopIteration") ->
   wpAny (model prog w) A (do if <- isInstance (.ref e) (.type "StopIteration")then pure none else throw (.ref e)) Q E {s with heap:=h'}:=λh' e kp #[o,ho,hc] =>
  g6 (wpAny_isInstance (T:="StopIteration") (b:=true) #[o,ho,hc] isSubtype_stop (gu (k h' kp)))
 refine g6 (m9 (fL (name:=Str.ofString "__next__") tz d8 (pj d8 tz PySem.F.entry_zip_next ?_ (PySem.F.args_zip_next_1 _))));show wpAny _ _ (field (.ref zp) 2 >>= _) _ _ _;refine g6 (p6 z rfl (x:=.bool false) rfl ?_);refine g6 (p6 z rfl (x:=.ref tI) rfl (g6 (fG gI rfl ?_)));refine g6 ?_;unfold Builtin.SmallTypes.ownedTupleIsFree;refine g6 (p6 z rfl (x:=.none) rfl (gu ?_));refine g6 (pV (g6 (p6 z rfl (x:=.ref tO) rfl (g6 (cq z "s" λh1 z1 s1=>?_)))))
 replace z1:IsZip h1 zp tI tO .ellipsis:=z1
 refine g6 ?_;simp only[bu,List.zipIdx_nil,bD,List.forIn_nil];refine g6 (g6 (mf ?_));show wpAny _ _ (Builtin.SmallTypes.nextOf (.ref ja) >>= _) _ _ _;cases ex:xs[B]? with
 | none =>
  refine g6 (K4 U (Y.extBut s1.extBut (tf a3)) (Z.extBut s1.extBut e1) ex λh2 er s2 #[oe,w1,w2]=>?_)
  have z2:IsZip h2 zp tI tO .ellipsis:=s2 _ _ a3 z1;have nz:er≠zp:=λq=>by subst q;rw[z2]at w1;cases w1;simp at w2
  refine cq z2 "s" λh3 _ s3=>fin h3 er (λc o n1 _ n3 _ q=>s3.extBut _ _ n1 (s2 _ _ n3 (s1.extBut _ _ n1 q))) #[oe,s3.extBut _ _ nz w1,w2]
 | some x =>
  have ey:ys[O]?=none:=en.resolve_left (by rw[ex];exact λq=>nomatch q)
  refine g6 (ZW (Y.extBut s1.extBut (tf a3)) (Z.extBut s1.extBut e1) ex λh2 w2 s2=>gu ?_)
  have o2:IsPair h2 tO a b:=s2.extBut _ _ c1 (s1.extBut _ _ (tf a2) gO);refine g6 (fG o2 rfl (g6 (bw o2 λh3 o3 s3=>g6 (pS (gu (g6 (g6 (mf ?_))))))))
  show wpAny _ _ (Builtin.SmallTypes.nextOf (.ref jb) >>= _) _ _ _;refine g6 (K4 U (((g2.extBut s1.extBut (tf a4)).extBut s2.extBut (tf d1)).extBut s3.extBut (tf c2)) (((q2.extBut s1.extBut f1).extBut s2.extBut f4).extBut s3.extBut f3) ey λh4 er s4 #[oe,w1,w2]=>?_)
  have z4:IsZip h4 zp tI tO .ellipsis:=s4 _ _ a4 (s3.extBut _ _ a2 (s2.extBut _ _ a3 z1));have nz:er≠zp:=λq=>by subst q;rw[z4]at w1;cases w1;simp at w2
  refine cq z4 "s" λh5 _ s5=>fin h5 er (λc o n1 n2 n3 n4 q=>s5.extBut _ _ n1 (s4 _ _ n4 (s3.extBut _ _ n2 (s2.extBut _ _ n3 (s1.extBut _ _ n1 q))))) #[oe,s5.extBut _ _ nz w1,w2]
def qbK(t1 t2)(xs ys):Meets (Builtin.«zip.__new__» #[[.type "zip",.ref t1,.ref t2],[]]) (λ_ R s=>s.heap.IsTuple t1 xs/\s.heap.IsTuple t2 ys /\
   ∀ h',IsZip h' (s[0]+4) (s[0]+2) (s[0]+3) .none->IsPair h' (s[0]+2) (.ref s[0]) (.ref (s[0]+1))->IsPair h' (s[0]+3) .none .none ->
    h'.IsTupleIter s[0] t1 0->h'.IsTupleIter (s[0]+1) t2 0->(∀ c o,s.heap.get? c=!o->h'.get? c=!o)->R (.ok (.ret (.ref (s[0]+4)))) {s with heap:=h'}) :=
 .of_wp λprog w A R s h=>by
  obtain⟨hp,g,d,tk,os⟩:=s;obtain⟨u1,u2,k⟩:=h;have z:=sub_zip;have U1:Heap.IsTuple (Shared.heap #[hp,g,d,tk,os]) t1 xs:=u1;have U2:Heap.IsTuple (Shared.heap #[hp.push {cls:=.type "tuple_iterator",data:=.fields (List.toArray [.ref t1,.int 0 0])},g,d,tk,os]) t2 ys:=Heap.IsTuple.push u2 _
  wp_walk using bI U1,bI U2
  refine#[_,rfl,?_];have z1:(hp.push {cls:=.type "tuple_iterator",data:=.fields (List.toArray [.ref t1,.int 0 0])}).objs.size=hp.objs.size+1:=pO ..;generalize e1:hp.push {cls:=.type "tuple_iterator",data:=.fields (List.toArray [.ref t1,.int 0 0])}=H1 at *;have z2:(H1.push {cls:=.type "tuple_iterator",data:=.fields (List.toArray [.ref t2,.int 0 0])}).objs.size=hp.objs.size+2:=by rw[pO,z1]
  generalize e2:H1.push {cls:=.type "tuple_iterator",data:=.fields (List.toArray [.ref t2,.int 0 0])}=H2 at *;rw[z1];have q2:∀ c o,hp.get? c=!o->H2.get? c=!o:=λc o q=>by rw[<- e2,<- e1];exact gq _ (gq _ q)
  have ja:H2.get? hp.objs.size=some {cls:=.type "tuple_iterator",data:=.fields (List.toArray [.ref t1,.int 0 0])}:=by rw[<- e2,<- e1];exact gq _ (gM _ rfl)
  have jb:H2.get? (hp.objs.size+1)=some {cls:=.type "tuple_iterator",data:=.fields (List.toArray [.ref t2,.int 0 0])}:=by rw[<- e2,<- z1];exact gM _ rfl
  generalize e3:H2.push {cls:=.type "tuple",data:=.seq (List.toArray [.ref hp.objs.size,.ref (hp.objs.size+1)])}=H3;have z3:H3.objs.size=hp.objs.size+3:=by rw[<- e3,pO,z2]
  generalize e4:H3.push {cls:=.type "tuple",data:=.seq (List.toArray [.none,.none])}=H4;have z4:H4.objs.size=hp.objs.size+4:=by rw[<- e4,pO,z3]
  have p3:∀ c o,H2.get? c=!o->H3.get? c=!o:=λc o q=>by rw[<- e3];exact gq _ q
  have p4:∀ c o,H3.get? c=!o->H4.get? c=!o:=λc o q=>by rw[<- e4];exact gq _ q
  have w3:H3.get? (hp.objs.size+2)=some {cls:=.type "tuple",data:=.seq (List.toArray [.ref hp.objs.size,.ref (hp.objs.size+1)])}:=by rw[<- e3,<- z2];exact gM _ rfl
  have w4:H4.get? (hp.objs.size+3)=some {cls:=.type "tuple",data:=.seq (List.toArray [.none,.none])}:=by rw[<- e4,<- z3];exact gM _ rfl
  have fin:R (.ok (.ret (.ref H4.objs.size))) #[H4.push {cls:=.type "zip",data:=.fields (List.toArray [.none,.bool false,.bool false,.ref H2.objs.size,.ref H3.objs.size])},g,d,tk,os]:=by
   rw[z2,z3,z4];have w5:(H4.push {cls:=.type "zip",data:=.fields (List.toArray [.none,.bool false,.bool false,.ref (hp.objs.size+2),.ref (hp.objs.size+3)])}).get? (hp.objs.size+4)=some {cls:=.type "zip",data:=.fields (List.toArray [.none,.bool false,.bool false,.ref (hp.objs.size+2),.ref (hp.objs.size+3)])}:=by
    rw[<- z4];exact gM _ rfl
   exact k _ w5 (gq _ (p4 _ _ w3)) (gq _ w4) #[_,gq _ (p4 _ _ (p3 _ _ ja)),rfl,rfl] #[_,gq _ (p4 _ _ (p3 _ _ jb)),rfl,rfl] λc o q=>gq _ (p4 _ _ (p3 _ _ (q2 c o q)))
  rw[<- e4,<- e3]at fin;exact fin
def qbL{xs ys:Array aa}{Q:aa->ab->Prop}(z:s.heap.IsTuple t1 xs)(B:s.heap.IsTuple t2 ys)
  (k:∀ h',IsZip h' (s[0]+4) (s[0]+2) (s[0]+3) .none->IsPair h' (s[0]+2) (.ref s[0]) (.ref (s[0]+1))->IsPair h' (s[0]+3) .none .none ->
    h'.IsTupleIter s[0] t1 0->h'.IsTupleIter (s[0]+1) t2 0->(∀ c o,s.heap.get? c=!o->h'.get? c=!o)->Q (.ref (s[0]+4)) {s with heap:=h'}) :
  wpAny (model prog w) A (call (.type "zip") [.ref t1,.ref t2]) Q E s :=
 callType_new PySem.F.called_zip "d" (PySem.F.typeCall_zip_2 _ _) (PySem.F.newCall_zip_2 _ _) (λobj=>PySem.F.args_object_init_3 obj _ _) PySem.F.entry_zip_new (qbK t1 t2 xs ys)
  #[z,B,λh' b1 b2 b3 b4 b5 b6=>#[#[_,b1,rfl],k h' b1 b2 b3 b4 b5 b6]]
end
def Itz(K:Frag)(a b:Addr):It :=
 #[λi H=>∃ xs x ys y,SqT K H a xs/\xs[i]?=!x/\SqT K H b ys/\ys[i]?=!y,λi H v H'=>∃ p x y,H p=none/\v=.ref p/\H'=upd H p (.tup [x,y])/\(∀ xs,SqT K H a xs->xs[i]?=!x)/\∀ ys,SqT K H b ys->ys[i]?=!y,
  λi H=>∃ xs ys,SqT K H a xs/\SqT K H b ys/\(xs[1]<=i\/ys[1]<=i)]
def kW{h:Heap}(p:IsTup h a vs):h.IsTuple a vs:=p
def qbM{K:Frag}{k:Nat}(a b z B U Y Z:Addr)(D:ZA z B U Y Z a b) :
  Turn P w K (.Tuple es k tp) (Itz K a b) [z,B,U,Y,Z] z (λi h=>IsZip h z B U .none/\IsPair h B (.ref Y) (.ref Z)/\(∃ u v,IsPair h U u v)/\h.IsTupleIter Y a i/\h.IsTupleIter Z b i)where
 mem:=by simp
 obj:=λi h #[q1,q2,#[u,v,q3],#[o4,q4,_,d4],#[o5,q5,_,d5]] c hc=>by
  grind
 keep:=λi h h' #[q1,q2,#[u,v,q3],q4,q5] kk=>#[kk z "s" _ q1,kk B "s" _ q2,#[u,v,kk U "s" _ q3],q4.at λo q=>kk Y "s" o q,q5.at λo q=>kk Z "s" o q]
 item:=by
  intro X hP hw hK hc i pins s σ H E I hf ⟨q1,q2,⟨u,v,q3⟩,q4,q5⟩ ⟨xs,x,ys,y,sx,hx,sy,hy⟩;subst hP hw hK;obtain⟨its,rv,p,_⟩:=I.tuple sx;obtain⟨ux,hu,ru⟩:=rv.get hx;obtain⟨its',O,p',_⟩:=I.tuple sy;obtain⟨uy,hu',ru'⟩:=O.get hy;obtain⟨nd,m1,m2⟩:=id D;simp[tF,gy,pJ,m8,not_or,bP,and_true,bY]at nd m1 m2;obtain⟨⟨a1,a2,a3,a4⟩,⟨b1,b2,b3⟩,⟨c1,c2⟩,d1⟩:=nd;refine qbI D q1 q2 q3 q4 q5 (kW p) (kW p') (x:=ux) (y:=uy) hu[""] hu'[""] λh1 g1 g2 g3 g4 g5 kp=>#[_,rfl,?_]
  refine wpAny_letOwnedTupleGo_zip (s:={s with heap:=h1}) g1 λh2 gz sb=>?_
  have neZ:s[0]≠z:=fV (gK q1);have T2:h2.get? s[0]=some {cls:=.type "tuple",data:=.seq (List.toArray [ux,uy])}:=(sb.2 _ neZ).trans g5;refine#[.ref s[0],upd H s[0] (.tup [x,y]),K1 (s:=s) (t':=s.toks) (its:=[ux,uy]) I hf (λc o nc ho=>?_) (gw _) #[_,T2,rfl,_,rfl] (.cons ru (.cons ru' .nil)) (by simp[pG]),rfl,
   #[_,x,y,I.hok.fresh (gw _),rfl,rfl,λzs hz=>by rw[I.tuple_inj hz sx];exact hx,λzs hz=>by rw[I.tuple_inj hz sy];exact hy],
   #[gz,(sb.2 B (tf a1)).trans (kp B _ (tf a1) b1 b2 b3 q2),#[ux,uy,(sb.2 U (tf a2)).trans g2],g3.at λo q=>(sb.2 Y (tf a3)).trans q,g4.at λo q=>(sb.2 Z (tf a4)).trans q],λc hc=>?_]
  .have n1:c≠z:=λq=>nc (by simp[q])
   exact(sb.2 c n1).trans (kp c o n1 (λq=>nc (by simp[q])) (λq=>nc (by simp[q])) (λq=>nc (by simp[q])) ho)
  rw[qr]
  .exact(hf c hc).1
  have lt:∀{c o},s.heap.get? c=!o->c≠s[0]:=λq=>hV (gK q)
  simp[gy,pJ,m8]at hc;rcases hc with rfl|rfl|rfl|rfl|rfl
  .exact lt q1
  .exact lt q2
  .exact lt q3
  .obtain⟨o,q,_⟩:=q4;exact lt q
  obtain⟨o,q,_⟩:=q5;exact lt q
 done:=by
  intro X hP hw hK hc i pins s σ H E I hf ⟨q1,q2,⟨u,v,q3⟩,q4,q5⟩ ⟨xs,ys,sx,sy,hl⟩;subst hP hw hK;obtain⟨its,rv,p,_⟩:=I.tuple sx;obtain⟨its',O,p',_⟩:=I.tuple sy;have l1:=rv[1];have l2:=O[1];refine qbJ (I.ok.hd hc) D q1 q2 q3 q4 q5 (kW p) (kW p') (by rcases hl with hl|hl;exact .inl (by simp;lia);exact .inr (by simp;lia)) λh1 kp=>#[rfl,K0 (t':=s.toks) I hf λc o nc ho=>?_]
  exact kp c o (λq=>nc (by simp[q])) (λq=>nc (by simp[q])) (λq=>nc (by simp[q])) (λq=>nc (by simp[q])) ho
 self:=λ_ _ _ _ _ #[q1,_] h=>wpAny_pyIter_zip q1 h
def zipd:List D->List D->List D
 | x::xs,y::ys=>.tup [x,y]::zipd xs ys
 | _,_=>[]
theorem K5:∀ xs ys (i:Nat) d,(zipd xs ys)[i]?=!d->∃ x y,xs[i]?=!x/\ys[i]?=!y/\d=.tup [x,y]
 | [],_,_,_,h=>by simp[zipd]at h
 | _::_,[],_,_,h=>by simp[zipd]at h
 | x::xs,y::ys,0,d,h=>by simp[zipd]at h;exact#[x,y,rfl,rfl,h.symm]
 | x::xs,y::ys,i+1,d,h=>by
  obtain⟨u,v,e1,e2,e3⟩:=K5 xs ys i d (by simpa[zipd]using h)
  exact#[u,v,by simpa using e1,by simpa using e2,e3]
theorem K6:∀ xs ys i,(zipd xs ys)[1]<=i->xs[1]<=i\/ys[1]<=i
 | [],_,_,_=>.inl "s"
 | _::_,[],_,_=>.inr "s"
 | x::xs,y::ys,0,h=>by simp[zipd]at h
 | x::xs,y::ys,i+1,h=>by
  have:=K6 xs ys i (by simpa[zipd]using h)
  simpa using this
def qbN{κ:Kx}(h1:SqT κ.K F1 a vs)(z:Reps κ F1 vs ds)(h2:SqT κ.K F1 b us)(B:Reps κ F1 us es):Walk κ (Itz κ.K a b) F1 G (zipd ds es)where
 go:=λi x F H ed l1 l lg=>by
  obtain⟨d,e,e1,e2,rfl⟩:=K5 ds es i x ed;obtain⟨v,ev,rv⟩:=Reps.get z e1;obtain⟨u,eu,ru⟩:=Reps.get B e2;have q1:=SqT.le l (SqT.le l1 h1);have q2:=SqT.le l (SqT.le l1 h2);refine#[#[vs,v,us,u,q1,ev,q2,eu],λy H' zp=>?_]
  obtain⟨p,y1,y2,hp,rfl,rfl,w1,w2⟩:=zp;have z1:=w1 vs q1;rw[ev]at z1;cases z1;have z2:=w2 us q2;rw[eu]at z2;cases z2;have up:Le F (upd F p (.tup [v,u])):=λc o zp=>by rw[qr (jH zp (Le.none l hp))];exact zp
  exact#[_,Gr.newF l hp,p,[v,u],rfl,.inl (.inl qL),_,_,rfl,Rep.le up d (Rep.le l1 d rv),_,_,rfl,Rep.le up e (Rep.le l1 e ru),rfl]
 stop:=λi F H hi l1 l lg=>#[vs,us,SqT.le l (SqT.le l1 h1),SqT.le l (SqT.le l1 h2),by rw[Reps.length z,Reps.length B];exact K6 ds es i hi]
def uv(i j:Nat):IF:=λρ=>match ρ[i]?,ρ[j]? with
 | some (!(.tup ds)[8]),!(!(.tup es)[8])=>.ok (zipd ds es)
 | _,_=>.stuck
def qbO(i j){X:Cx}{k:Nat}(hm:X.mg "zip"=none)(hN:(Nm X i x)["t"])(U:(X.N[j]?=!y)["r"])(Y:(Vis X.env.scope y)["t"])(Z:((y==("__debug__"))=false)["d"])
  (O:((y==("__classdict__"))=false)["d"])(hg:(Gl X "zip")["r"])(hs:(starEach [.Name x pos,.Name y pos2] X.env=(false,eval (.Name x pos) X.env)::starEach [.Name y pos2] X.env)["r"])(hs2:(starEach [.Name y pos2] X.env=[(false,eval (.Name y pos2) X.env)])["r"])
  (hpl:((backTo cp (starEach [.Name y pos2] X.env)).any (·.1)=false)["r"]):SI X F0 H0 (.Tuple es k tp) (.Call (.Name "zip" np) [.Name x pos,.Name y pos2] [] cp) (uv i j):=by
 refine#[λσ H R=>∃ a b,σ[i]?=!(!(.ref a))/\σ[j]?=!(!(.ref b))/\(∃ xs,SqT X.K H a xs)/\(∃ xs,SqT X.K H b xs)/\R (Itz X.K a b) H,λpins s σ H R I #[a,b,hσ,hσ2,#[xs,hq],#[ys,B],hR]=>?_,λσ F H ρ R S h=>?_]
 .refine Call_ (zH I hg hm boot_zip (tw ?_ hs hpl));refine hZ (thn (pvN (pos:=pos) hN pins s σ H (λv' H'=>v'=.ref a/\H'=H) I #[_,hσ,rfl,rfl]) λu s1 #[v1,H1,I1,r1,e1,e2]=>?_)
  subst e1 e2;obtain rfl:u=Value.ref a:=r1;refine hZ (thn (WJ (pos:=pos2) U Y Z O pins s1 σ H1 (λv' H'=>v'=.ref b/\H'=H1) I1 #[_,hσ2,rfl,rfl]) λu s2 #[v2,H2,I2,r2,e1,e2]=>?_)
  subst e1 e2;obtain rfl:u=Value.ref b:=r2;refine tL ?_;obtain⟨its,rv,p,hz⟩:=I2.tuple hq;obtain⟨its',rv',p',hz'⟩:=I2.tuple B;refine qbL (kW p) (kW p') λh' g1 g2 g3 g4 g5 kp=>?_
  refine wpAny_pyIter_zip (s:={s2 with heap:=h'}) g1 ?_;have la:a<s2[0]:=by obtain⟨o,q,_⟩:=p;exact gK q
  have lb:b<s2[0]:=by obtain⟨o,q,_⟩:=p';exact gK q
  have z:∀{t m},t<m->∀ k,t≠m+k:=λh k=>hV (t4 h (Nat.le_add_right _ _))
  refine#[_,_,_,_,H2,rfl,I2.kept (t':=s2.toks) kp,qbM a b (s2[0]+4) (s2[0]+2) (s2[0]+3) s2[0] (s2[0]+1) #[by simp,?_,?_],#[g1,g2,#[_,_,g3],g4,g5],λc hc=>?_,hR]
  .simp[gy,pJ,m8,not_or];exact#[z la 4,z la 2,z la 3,z la 0,z la 1]
  .simp[gy,pJ,m8,not_or];exact#[z lb 4,z lb 2,z lb 3,z lb 0,z lb 1]
  have lc:s2[0]<=c:=by
   simp[gy,pJ,m8]at hc;rcases hc with rfl|rfl|rfl|rfl|rfl<;>lia
  exact I2.fpOk lc (I2.hok.fresh lc)
 unfold uv at h;cases e1:ρ[i]? with
 | none=>rw[e1]at h;exact h.elim
 | some w1 =>
  cases e2:ρ[j]? with
  | none=>rw[e1,e2]at h;cases w1 with|none=>cases h|some w=>cases w<;>first|exact h.elim|(rename_i d;cases d<;>exact h.elim)
  | some w2 =>
   rw[e1,e2]at h;cases w1 with
   | none=>cases h
   | some w1 =>
    cases w1<;>first|exact h.elim|skip
    rename_i d1;cases d1<;>first|exact h.elim|skip
    cases w2 with
    | none=>cases h
    | some w2 =>
     cases w2<;>first|exact h.elim|skip
     rename_i d2;cases d2<;>first|exact h.elim|skip
     obtain⟨v,q1,a,vs,rfl,hq,rs⟩:=S.val i _ e1;obtain⟨v2,q2,b,vs2,rfl,B,rs2⟩:=S.val j _ e2;exact#[a,b,q1,q2,#[vs,SqT.le S.s hq],#[vs2,SqT.le S.s B],h F H _ (Gr.refl S.s) (qbN (κ:=kx X) hq rs B rs2)]
section
variable{X:Cx}
def ZX:zX X (.type "tuple") wU:=kK qao λF H xs ds Q l qx w=>by
 cases qx with
 | nil=>exact w.elim
 | @cons x d xs ds q1 q2 =>
  cases q2 with
  | cons _ _=>cases d<;>exact w.elim
  | nil =>
   cases d<;>first|exact w.elim|skip
   .obtain⟨p,vs,rfl,hq,B,rs⟩:=RdV.tup l q1;exact#[p,vs,rfl,.inr #[hq,w _ F H (Gr.refl l) #[p,vs,rfl,B,rs]]]
   obtain⟨p,vs,rfl,hq,rs⟩:=RdV.lst l q1;refine#[p,vs,rfl,.inl #[hq,λq hn=>?_]]
   have up:Le F (upd F q (.tup vs)):=λc o z=>by rw[qr (jH z (Le.none l hn))];exact z
   exact w _ _ _ (Gr.newF l hn) #[q,vs,rfl,.inl (.inl qL),Reps.le up _ rs]
end
def qbP:typeLookup (.type "list_reverseiterator") "__len__"=pure none:=by rw[typeLookup_type,builtinLookup_eq_fast];kernel_rfl
def qbQ:typeLookup (.type "list_reverseiterator") "__length_hint__"=pure (!(.builtin "list_reverseiterator.__length_hint__")):=by rw[typeLookup_type,builtinLookup_eq_fast];kernel_rfl
def qbR:isSubtype (.type "list_reverseiterator") (.type "list_reverseiterator")=pure true:=by rw[isSubtype_type];kernel_rfl
def qif:splitId "list_reverseiterator.__length_hint__"=!("list_reverseiterator","__length_hint__"):=by decide +kernel
section
variable{prog:af}{w:World}{A:ag}{E:aa->ab->Prop}{s:ab}{I l:Addr}{items:Array aa}
def qbS{R:Result->ab->Prop}{z:Nat}(Y:A.in1.handled=none)(Z:s.heap.IsList l items)(O:s.heap.IsRevIter I l ((items.size)-1))(ne:l≠I)(s1:S≠l)(U:S≠I)(hn:items.size<=sizeLine)
  (gS:s.heap.get? S=↑#[.type "list",none,.seq #[] z,#[]])
  (hR:∀ s' B c',Moved [S,I] (λa b=>b=a) s s'->s'.heap.get? S=some {cls:=.type "list",dict:=none,data:=.seq B c',slots:=#[]}->ItemsOf (λi v=>items[items.size-1-i]?=!v) B items.size->R (.ok (.ret .none)) s') :
  wpAny (model prog w) A.in1 (Builtin.List.listExtendWith (.ref S) (.ref I) .none)
   (λy t=>match y with|.done f=>R (.ok f) t|.again q=>q.quiet=true/\codeAny (model prog w) A q R t) (λe t=>R (.error e) t) s:=by
 have W:=(Walks.listRev (prog:=prog) (w:=w) (A:=A.in1) Y I l ne items).toS;have T:=O.typeIs;unfold Builtin.List.listExtendWith;refine g6 (wpAny_typeOf T ?_);have q1:Builtin.List.listSameRef (.ref S) (.ref I)=false:=by simp[Builtin.List.listSameRef,U]
 have q3:(Value.type "list_reverseiterator"==Value.type "tuple")=false:=by decide
 simp only[q1,q3,Bool.or_false,tX,cA];refine g6 (bx O ?_);refine g6 (fT ?_);refine g6 (wpAny_specialOf T qbP ?_);refine g6 (wpAny_specialOf T qbQ ?_);refine g6 (wpAny_isInstance T qbR ?_);refine gu ?_;refine gu #[cj F.plain_extend_loop _,codeAny_extend_loopS W hn S (by simp[s1,U]) .none items.size 0 s #[] z rfl (tJ _) #[tJ _,by simpa using O,Z] gS (ItemsOf.nil _) hR]
def qbT{K:aa->ab->Prop}(U:A.handled=none)(B:s.heap.IsList l items)(O:s.heap.IsRevIter I l ((items.size)-1))(ne:l≠I)(Y:items.size<=sizeLine)
  (Z:∀ h' tk c,(∀ b o,b≠I->s.heap.get? b=!o->h'.get? b=!o)->h'.get? s[0]=some {cls:=.type "list",dict:=none,data:=.seq items[2].reverse.toArray c,slots:=#[]}->K (.ref s[0]) {s with heap:=h',toks:=tk}) :
  wpAny (model prog w) A (call (.type "list") [.ref I]) K E s:=by
 obtain⟨oI,gI,rI⟩:=id O;obtain⟨oL,gL,rL⟩:=id B;have nI:s[0]≠I:=fV (gK gI);have nL:s[0]≠l:=fV (gK gL);refine callType_codes (Q₁:=λob t=>ob=.ref s[0]/\t={s with heap:=s.heap.push {cls:=.type "list",data:=.seq #[]}}) F.called_list (F.typeCall_list_1 _) F.entry_list_init (code_list_new _ #[rfl,rfl]) λob t h1=>?_
 obtain⟨rfl,rfl⟩:=h1;have gS:(s.heap.push {cls:=.type "list",data:=.seq #[]}).get? s[0]=some {cls:=.type "list",data:=.seq #[]}:=gM _ rfl;refine#[#[_,gS,rfl],F.args_list_init_2 _ _,?_];refine g6 (m:=Builtin.List.listItems (.ref s[0])) (wpAny_listItems gS rfl (g6 (m:=updateSeq s[0] λ_=>#[]) (cH gS rfl (g6 (pS ?_)))))
 have g2:=f9 (Obj.mapSeq λ_=>(#[])) gS rfl
 have kp:∀ b o,b≠s[0]->s.heap.get? b=!o->((s.heap.push {cls:=.type "list",data:=.seq #[]}).update s[0] (Obj.mapSeq λ_=>(#[]))).get? b=↑o :=
  λb o nb e=>(tM _ _ (tf nb)).trans (gq _ e)
 refine qbS (A:=A.in1) U (B.at λo e=>kp l o (tf nL) e) (O.at λo e=>kp I o (tf nI) e) ne nL nI Y g2 λs' z c mv gA ia=>#[rfl,?_]
 have ea:z=items[2].reverse.toArray:=by
  refine Array.ext_getElem? λi=>?_
  by_cases c:i<items.size
  .have:=ia.2 i (z[i]'(by rw[ia.1];exact c)) (Array.getElem?_eq_getElem _)
   rw[Array.getElem?_eq_getElem (by rw[ia.1];exact c),<- this]
   simp[List.getElem?_toArray];rw[List.getElem?_reverse c[""]]
   simp
  rw[dY (by rw[ia.1];lia),dY (by simp;lia)]
 subst ea;obtain⟨h',g',d',t',os'⟩:=s';obtain⟨mh,mg,md,mo,mt⟩:=mv;dsimp only at mh mg md mo gA;subst mg md mo;exact Z h' t' c (λb o nb e=>mh b o (by simp[nb,hV (gK e)]) (kp b o (hV (gK e)) e)) gA
end
def ZY(f:EF):EF:=λρ=>(f ρ).bind λw=>match w.d with
 | .lst ds=>.ok (.lst ds.reverse)[9]
 | _=>.stuck
theorem K7:∀{ds} {vs},Reps κ F vs ds->Reps κ F vs.reverse ds.reverse
 | [],vs,h=>by cases (show vs=[]from h);exact h
 | d::r,vs,h=>by
  obtain⟨v,us,rfl,q1,q2⟩:=h;simp[bU];exact Reps.append (K7 q2) (Reps.one q1)
section
variable{X:Cx}{F0 H0:Hp}{p p2 c1 c2:Pos}
def qbU(Z:"S" e f)(hm:X.mg "list"=none)(z:X.mg "reversed"=none)(hc:(X.calm=true)["r"])(hg:(Gl X "list")["r"])(B:(Gl X "reversed")["r"])
  (U:(starEach [e] X.env=[(false,eval e X.env)])["r"])(O:(starEach [.Call (.Name "reversed" p2) [e] [] c2] X.env=[(false,eval (.Call (.Name "reversed" p2) [e] [] c2) X.env)])["r"]) :
  "S" (.Call (.Name "list" p) [.Call (.Name "reversed" p2) [e] [] c2] [] c1) (ZY f):=by
 refine λpins s σ F H ρ Q S I h=>fC (zH I hg hm cY (tw ?_ O rfl))
 refine hZ ?_;refine fC (zH I B z PyProof.Rows.boot_reversed (tw ?_ U rfl));rw[U];refine hZ (Z pins s σ F H ρ _ S I ((KE.bind h).imp λw k v u F1 H1 s1 g1 q1 r1 I1=>tL ?_))
 have qx:=Vok.rd q1
 revert k qx
 generalize w.d=d;intro k qx;cases d<;>first|exact k.elim|skip
 rename_i ds;obtain⟨a,vs,rfl,hq,rs⟩:=RdV.lst g1.s qx;cases r1;obtain⟨its,rv,pl,hz⟩:=I1.list hq;have hl:=pl.isList;have Y:=rv[1];refine call_reversed_list hl (tL ?_);have na:a≠s1[0]:=by
  obtain⟨o,go,_⟩:=hl;exact hV (gK go)
 refine qbT (I:=s1[0]) (l:=a) (items:=its.toArray) (I1.ok.hd hc) (hl.at λo e=>gq _ e) #[_,gM _ rfl,rfl,rfl] na (by rw[gP];lia) λh' tk c kp gA=>?_
 have lt:s1[0]<=(s1.heap.push (revObj a ((its.toArray.size)-1))).objs.size:=by rw[pO];exact bE _
 have hn:=I1.hok.fresh lt;refine k (.ref _) _ F1 _ _ (g1.trans (Gr.new g1.s hn)) #[_,.lst vs.reverse,rfl,Le.none g1.h hn,Le.none g1.s hn,qL,K7 rs] rfl (I1.laid (t':=tk) (λb o e=>kp b o (hV (gK e)) (gq _ e)) lt ?_)
 exact#[by simpa using hz,its.reverse,c,rv.reverse,by simpa using gA]
variable{pos:Pos}
end
section
open PySem.SeqAt PySem.MeetsSeq PySem.MeetsSeq2 PySem.MeetsSeq3
open PySem.AutoSeq1 (wpAny_loadPart')
end
section
variable{X:Cx}
end
def fzIn(F H:Hp)(bs:List Addr):Hp:=λa=>if a∈bs then H a else F a
section
variable{κ:Kx}{F0 H0 F H:Hp}{ρ:Rho}{σ:St}
theorem Inn.repT:∀{bs} {kds},Inn κ H0 F H bs (kds.map Prod.snd)->(∀ b∈bs,G b=H b)->Le F G->RepT κ G ((kds.map Prod.fst).zip (bs.map V.ref)) kds
 | [],[],_,_,_=>rfl
 | [],_::_,h,_,_=>h.elim
 | _::_,[],h,_,_=>h.elim
 | b::bs,(k0,e)::es,h,k,l=>by
  obtain⟨⟨us,xs,e1,_,_,hh,r⟩,h⟩:=h;subst e1;exact#[.ref b,(es.map Prod.fst).zip (bs.map V.ref),rfl,#[b,us,rfl,SqL.of ((k b "s").trans hh),Reps.le l _ r],Inn.repT h (λc m=>k c (gj _ m)) l]
theorem Inn.len:∀{bs} {ds},Inn κ H0 F H bs ds->bs[1]=ds[1]
 | [],[],_=>rfl
 | [],_::_,h=>h.elim
 | _::_,[],h=>h.elim
 | b::bs,e::es,h=>by rw[gJ,gJ,Inn.len h.2]
def StOk.shutG{i:Nat}(S:StOk κ F0 H0 F H ρ σ)(ei:ρ[i]?=!(!(.od d)))
  (ow:∀ a bs o,Deep κ H0 F H a bs d->(∀ c∈bs,fzIn F H bs c=H c)->Le F (fzIn F H bs)->H a=!o->OwnO κ (fzIn F H bs) o d'):∃ F',Le F F'/\StOk κ F0 H0 F' H (ρ.set i (!d'[9])) σ:=by
 obtain⟨sh,a,bs,si,h0,hf,nd,dp,sp⟩:=S.dp i d ei;have na:=(tF.mp nd).1;have B:∀{c},c∉bs->fzIn F H bs c=F c:=λ{c} n=>if_neg n
 have inn:∀{c},c∈bs->fzIn F H bs c=H c:=λ{c} n=>if_pos n
 have l:Le F (fzIn F H bs):=λc u h=>by
  by_cases m:c∈bs
  .rw[inn m];exact S.s c u h
  rw[B m];exact h
 have own:∀{o},H a=!o->OwnO κ (fzIn F H bs) o d':=λ{o} ho=>ow a bs o dp (λc m=>inn m) l ho
 refine#[fzIn F H bs,l,#[#[Le.trans S.gr.f l,S.gr.h,λc u h=>?_,λc h=>?_],by simpa using S.len,λj w e=>?_,λj k w w' c O ej ek oj ok sj sk=>?_,λj y e=>?_]]
 .by_cases m:c∈bs
  .rw[inn m]at h;exact h
  rw[B m]at h;exact S.s c u h
 .by_cases m:c∈bs
  .obtain⟨us,z,_⟩:=Deep.inn dp m;exact .inr (.inl z)
  rw[B m]at h;exact S.gr.n c h
 .rcases qC e with⟨rfl,z⟩|⟨ne,z⟩
  .cases z;obtain⟨o,ho,_⟩:=Deep.top dp;exact#[_,si,a,o,rfl,h0,by rw[B na];exact hf,ho,own ho]
  obtain⟨v,e1,q⟩:=S.val j w z;refine#[v,e1,?_];have nb:∀{c},v=.ref c->w.own=true->c∉bs:=λ{c} ev ow m=>by
   subst ev;exact sp j w c ne z ow (gj _ m) e1
  cases w with
  | fz d=>exact Rep.le l d q
  | br d=>obtain⟨c,oc,ec,eh,cr⟩:=q;exact#[c,oc,ec,eh,OwnO.le l cr]
  | ow d=>obtain⟨c,oc,ec,c0,cf,ch,cr⟩:=q;exact#[c,oc,ec,c0,by rw[B (nb ec rfl)];exact cf,ch,OwnO.le l cr]
  | lk d=>exact#[Rep.le l d q.1,RawT.le l q.2]
  | od d=>exact(sh j d ne z).elim
 .have at_:∀{m:Nat} {y},(ρ.set i (!d'[9]))[m]?=!(!y)->y.own=true->∃ y',ρ[m]?=!(!y')/\y'.own=true:=λ{m y} h oy=>by
   rcases qC h with⟨rfl,_⟩|⟨_,z⟩
   .exact#[_,ei,rfl]
   exact#[y,z,oy]
  obtain⟨y,U,Y⟩:=at_ ej oj;obtain⟨y',Z,ok'⟩:=at_ ek ok;exact S.sep j k y y' c O U Z Y ok' sj sk
 rcases qC e with⟨_,z⟩|⟨ne,z⟩
 .lia
 exact(sh j y ne z).elim
def StOk.shut{i:Nat}(S:StOk κ F0 H0 F H ρ σ)(B:ρ[i]?=!(!(.od d)))(O:∀ k,d≠.dK k)(U:∀ k,d≠.tup k):∃ F',Le F F'/\StOk κ F0 H0 F' H (ρ.set i (!d[9])) σ :=
 S.shutG B λa bs o dp z l ho=>by
  cases d<;>first|exact(False.elim dp)|exact(O _ rfl).elim|exact(U _ rfl).elim|skip
  .have e:=dp.1;rw[ho]at e;cases e;exact Inn.reps dp.2 (λb m=>z b m) l
  have e:=dp.1;rw[ho]at e;cases e;exact Inn.repT dp.2 (λb m=>z b m) l
def vH(i:Nat)(ρ:Rho):Bool:=(ρ.set i none).all λo=>match o with|some (.od _)=>false|_=>true
def K8(h:vH i ρ=true):shal i ρ:=λj d hj e=>by
 have m:(ρ.set i none)[j]?=!(!(.od d)):=by rw[gW (tf hj)];exact e
 have:=tW.mp h _ (hX m);cases this
def StOk.open0{i:Nat}(S:StOk κ F0 H0 F H ρ σ)(U:ρ[i]?=!(!d[9]))(hd:d=.lst []\/d=.dT [])(sh:shal i ρ):StOk κ F0 H0 F H (ρ.set i (!(.od d))) σ:=by
 obtain⟨v,si,a,o,rfl,h0,hf,hh,ro⟩:=S.val i _ U;have dp:Deep κ H0 F H a [] d:=by
  rcases hd with rfl|rfl
  .cases o<;>first|exact ro.elim|skip
   cases (ro);exact#[hh,trivial]
  cases o<;>first|exact ro.elim|skip
  cases (ro);exact#[hh,trivial]
 have at_:∀{m:Nat} {y},(ρ.set i (!(.od d)))[m]?=!(!y)->y.own=true->∃ y',ρ[m]?=!(!y')/\y'.own=true:=λ{m y} h oy=>by
  rcases qC h with⟨rfl,_⟩|⟨_,z⟩
  .exact#[_,U,rfl]
  exact#[y,z,oy]
 refine#[S.gr,by simpa using S.len,λj w e=>?_,λj k w w' c Y ej ek oj ok sj sk=>?_,λj y e=>?_]
 .rcases qC e with⟨rfl,z⟩|⟨ne,z⟩
  .cases z;exact#[_,si,a,o,rfl,h0,hf,hh,OwnO.noTup ro]
  exact S.val j w z
 .obtain⟨y,Z,oj'⟩:=at_ ej oj;obtain⟨y',B,O⟩:=at_ ek ok;exact S.sep j k y y' c Y Z B oj' O sj sk
 rcases qC e with⟨rfl,z⟩|⟨ne,z⟩
 .cases z;refine#[λk z hk ek=>?_,a,[],si,h0,hf,by simp,dp,λk w b hk ek ok m sk=>?_]
  .rcases qC ek with⟨rfl,_⟩|⟨_,q⟩
   .exact hk rfl
   exact sh k z hk q
  obtain rfl:b=a:=by simpa using m
  obtain⟨y',B,O⟩:=at_ ek ok;exact S.sep k j y' _ b hk B U O rfl sk si
 exact(sh j y ne z).elim
def StOk.turn{d d':D}{a:Addr}{bs bs':List Addr}{H':Hp}(S:StOk κ F0 H0 F H ρ σ)(ei:ρ[i]?=!(!(.od d)))(si:σ[i]?=!(!(.ref a)))(Z:shal i ρ)
  (sp:∀ j w b,j≠i->ρ[j]?=!(!w)->w.own=true->b∈a::bs->σ[j]?≠!(!(.ref b)))
  (B:∀ c,c∉a::bs'->H' c=H c)(sub:∀ b∈bs',b∈bs\/∀(j:Nat) w,ρ[j]?=!(!w)->w.own=true->σ[j]?≠!(!(.ref b)))
  (h0:∀ c∈a::bs',H0 c=none)(hf:∀ c∈a::bs',F c=none)(nd:(a::bs').Nodup)(dp:Deep κ H0 F H' a bs' d'):StOk κ F0 H0 F H' (ρ.set i (!(.od d'))) σ:=by
 have O:∀ j w b,j≠i->ρ[j]?=!(!w)->w.own=true->b∈a::bs'->σ[j]?≠!(!(.ref b)):=λj w b hj ej ow m=>by
  rcases gy.mp m with rfl|m
  .exact sp j w _ hj ej ow "s"
  rcases sub b m with z|z
  .exact sp j w b hj ej ow (gj _ z)
  exact z j w ej ow
 have at_:∀{m:Nat} {y},(ρ.set i (!(.od d')))[m]?=!(!y)->y.own=true->∃ y',ρ[m]?=!(!y')/\y'.own=true:=λ{m y} h oy=>by
  rcases qC h with⟨rfl,_⟩|⟨_,z⟩
  .exact#[_,ei,rfl]
  exact#[y,z,oy]
 have U:∀{c u},H0 c=!u->c∉a::bs':=λ{c u} e m=>by rw[h0 c m]at e;cases e
 have Y:∀{c u},F c=!u->c∉a::bs':=λ{c u} e m=>by rw[hf c m]at e;cases e
 refine#[#[S.gr.f,λc u h=>(B c (U h)).trans (S.gr.h c u h),λc u h=>(B c (Y h)).trans (S.s c u h),S.gr.n],by simpa using S.len,λj w e=>?_,λj k w w' c hjk ej ek oj ok sj sk=>?_,λj y e=>?_]
 .rcases qC e with⟨rfl,z⟩|⟨ne,z⟩
  .cases z;obtain⟨o,ho,nt⟩:=Deep.top dp;exact#[_,si,a,o,rfl,h0 a "s",hf a "s",ho,nt]
  obtain⟨v,e1,q⟩:=S.val j w z;refine#[v,e1,?_];have nb:∀{c},v=.ref c->w.own=true->c∉a::bs':=λ{c} ev ow m=>by
   subst ev;exact O j w c ne z ow m e1
  cases w with
  | fz d=>exact q
  | br d=>exact q
  | ow d=>obtain⟨c,oc,ec,c0,cf,ch,cr⟩:=q;exact#[c,oc,ec,c0,cf,(B c (nb ec rfl)).trans ch,cr]
  | lk d=>exact q
  | od d=>exact(Z j d ne z).elim
 .obtain⟨y,ej',oj'⟩:=at_ ej oj;obtain⟨y',ek',ok'⟩:=at_ ek ok;exact S.sep j k y y' c hjk ej' ek' oj' ok' sj sk
 rcases qC e with⟨rfl,z⟩|⟨ne,z⟩
 .cases z;refine#[λk z hk ek=>?_,a,bs',si,h0 a "s",hf a "s",nd,dp,λk w b hk ek ok m=>?_]
  .rcases qC ek with⟨rfl,_⟩|⟨_,q⟩
   .exact hk rfl
   exact Z k z hk q
  rcases qC ek with⟨rfl,_⟩|⟨_,q⟩
  .exact(hk rfl).elim
  exact O k w b hk q ok m
 exact(Z j y ne z).elim
theorem Inn.app(U:Rep κ F y d):∀{bs} {ds} {k},Inn κ H0 F H bs ds->bs.Nodup->bs[k]?=↑b ->
  ∃ us xs,ds[k]?=!(.lst xs)/\H b=!(.lst us)/\us[1]=xs[1]/\Inn κ H0 F (upd H b (.lst (us++[y]))) bs (ds.set k (.lst (xs++[d])))
 | [],_,_,_,_,e=>by simp at e
 | _::_,[],_,h,_,_=>h.elim
 | c::bs,e::es,0,h,nd,ek=>by
  obtain⟨⟨us,xs,e1,c0,cf,ch,r⟩,h⟩:=h;obtain rfl:c=b:=by simpa using ek
  subst e1;have nb:=(tF.mp nd).1;exact#[us,xs,rfl,ch,Reps.length r,#[us++[y],xs++[d],rfl,c0,cf,qL,Reps.append r (Reps.one U)],(Inn.same (G:=H) (G':=H) (λx m=>(qr λz=>nb (by rw[<- z];exact m)).symm) (λ_ _ z=>z) Le.refl h)]
 | c::bs,e::es,k+1,h,nd,ek=>by
  obtain⟨⟨us,xs,e1,c0,cf,ch,r⟩,h⟩:=h;obtain⟨nb,nd⟩:=tF.mp nd;obtain⟨B,O,q1,q2,q3,q4⟩:=Inn.app U h nd ek[""]
  exact#[B,O,by simpa using q1,q2,q3,#[us,xs,e1,c0,cf,(qr λz=>nb (by rw[z];exact(hX ek[""]))).trans ch,r],q4]
theorem Inn.snoc(h0:H0 b=none)(z:F b=none)(B:H b=!(.lst us))(r:Reps κ F us xs):∀{bs} {ds},Inn κ H0 F H bs ds->Inn κ H0 F H (bs++[b]) (ds++[.lst xs])
 | [],[],_=>#[#[us,xs,rfl,h0,z,B,r],trivial]
 | [],_::_,h=>h.elim
 | _::_,[],h=>h.elim
 | _::_,_::_,h=>#[h.1,Inn.snoc h0 z B r h.2]
end
def scal:D->Bool
 | .non=>true
 | .bl _=>true
 | .int _=>true
 | .str _=>true
 | _=>false
def ZZ:En->R En
 | .fz x=>if scal x=true then .ok x[8]else .stuck
 | _=>.stuck
def vY(i:Nat)(e:EF):EF:=λρ=>match ρ[i]? with
 | some (!(.od (.dK _)))=>.stuck
 | some (!(.od (.tup _)))=>.stuck
 | some (!(.od d))=>(e (ρ.set i (!d[9]))).bind ZZ
 | _=>.stuck
section
variable{X:Cx}{F0 H0:Hp}{pos pos':Pos}
def K9(i)(B:"S" e f):"S" e (vY i f):=by
 intro pins s σ F H ρ Q S I h;unfold vY at h;split at h
 .exact h.elim
 .exact h.elim
 .rename_i d nk nt ei;obtain⟨F',l,S'⟩:=S.shut ei (λk z=>nk k (by rw[z])) (λk z=>nt k (by rw[z]))
  refine B pins s σ F' H _ _ S' I ((KE.bind h).imp λw k v u F2 H2 s2 g q r I2=>?_)
  cases w<;>first|exact k.elim|skip
  rename_i x;unfold ZZ at k;dsimp only at k;by_cases c:scal x=true
  .rw[if_pos c]at k;refine k v u F H2 s2 #[Le.refl,g.h,Le.trans S.s g.h,λ_ z=>.inl z] ?_ r I2
   cases x<;>first|exact q|cases c
  rw[if_neg c]at k;exact k.elim
 exact h.elim
def shut(i:Nat)(ρ:Rho):Rho:=match ρ[i]? with
 | some (!(.od (.dK _)))=>ρ
 | some (!(.od (.tup _)))=>ρ
 | some (!(.od d))=>ρ.set i (!d[9])
 | _=>ρ
def y9(i:Nat)(s:SF):SF:=λρ=>s (shut i ρ)
def Ka{st:Stmt}(i)(h:SS X F0 H0 st f):SS X F0 H0 st (y9 i f):=by
 intro pins s σ F H ρ D S I k;unfold y9 L3.shut at k;split at k
 .exact h pins s σ F H ρ D S I k
 .exact h pins s σ F H ρ D S I k
 .rename_i d nk nt e;obtain⟨F',l,S'⟩:=S.shut e (λk z=>nk k (by rw[z])) (λk z=>nt k (by rw[z]))
  exact h pins s σ F' H _ D S' I (PostS.le l k)
 exact h pins s σ F H ρ D S I k
def yN(i:Nat)(ρ:Rho):En->Out
 | .ow (.lst [])=>if vH i ρ=true then .nx (ρ.set i (!(.od (.lst []))))else .stuck
 | .ow (.dT [])=>if vH i ρ=true then .nx (ρ.set i (!(.od (.dT []))))else .stuck
 | _=>.stuck
def yO(i:Nat)(e:EF):SF:=λρ=>sOf (e ρ) (yN i ρ)
def Kb(i)(B:X.N.Nodup)(O:"S" e f)(hi:(X.N[i]?=!x)["r"])(U:(Loc X.env.scope x)["t"])
  (Y:(swapsWith e (!(.Name x pos')) pos.line X.env=pure false)["r"])(Z:(X.fn x=true\/X.env.scope.names.lookup x=some .local)["t"]) :
  SS X F0 H0 (.Assign [.Name x pos'] e pos) (yO i f):=by
 refine λpins s σ F H ρ D S I h=>bX (O pins s σ F H ρ _ S I ((PostS.of h).imp λw k v u F' H' s' g q r I'=>?_)) Y
 have go:∀ d,w=.ow d->(d=.lst []\/d=.dT [])->vH i ρ=true->PostS X F0 H0 F D (.nx (ρ.set i (!(.od d))))->X[3] (storeName X.env x u) (λ_ s2=>SP X pins D .next s2) X.xe s':=λd ew hd z k3=>by
  subst ew;refine xK I' B hi U r (λs2 I2=>?_) Z
  have S1:=S.setW (i:=i) g q rfl;by_cases hl:i<ρ.length
  .have S2:=S1.open0 (List.getElem?_set_self hl) hd λj y hj ej=>by
    rw[gW (tf hj)]at ej;exact K8 z j y hj ej
   rw[bK]at S2;exact#[_,H',I2,k3 _ F' H' g.f S2]
  have e0:∀ y,ρ.set i y=ρ:=λy=>List.set_eq_of_length_le ""
  rw[e0]at S1 k3;exact#[_,H',I2,k3 _ F' H' g.f S1]
 cases w<;>first|cases k|skip
 rename_i d;cases d<;>first|exact k.elim|skip
 .rename_i xs;cases xs with
  | cons _ _=>cases k
  | nil =>
   unfold yN at k;dsimp only at k;by_cases c:vH i ρ=true
   .rw[if_pos c]at k;exact go _ rfl (.inl rfl) c k
   rw[if_neg c]at k;cases k
 rename_i xs;cases xs with
 | cons _ _=>cases k
 | nil =>
  unfold yN at k;dsimp only at k;by_cases c:vH i ρ=true
  .rw[if_pos c]at k;exact go _ rfl (.inr rfl) c k
  rw[if_neg c]at k;cases k
end
def QX(i:Nat)(ρ:Rho)(ds:List D):En->Out
 | .ow (.lst es)=>if ds[1]<sz then .nx (ρ.set i (!(.od (.lst (ds++[.lst es])))))else .stuck
 | _=>.stuck
def kX(i:Nat)(e:EF):SF:=λρ=>match ρ[i]? with
 | some (!(.od (.lst ds)))=>sOf (e ρ) (QX i ρ ds)
 | _=>.stuck
def QY(i:Nat)(ρ:Rho)(ds:List D)(k:Nat)(d:D):Option D->Out
 | some (.lst xs)=>if xs[1]<sz then .nx (ρ.set i (!(.od (.lst (ds.set k (.lst (xs++[d])))))))else .stuck
 | _=>.stuck
def yP(i:Nat)(ρ:Rho)(ds:List D):En->En->Out
 | .fz k[6],.fz d=>if 0<=k then QY i ρ ds k.toNat d ds[k.toNat]? else .stuck
 | _,_=>.stuck
def wH(i:Nat)(z e:EF):SF:=λρ=>match ρ[i]? with
 | some (!(.od (.lst ds)))=>sOf (z ρ) λwk=>sOf (e ρ) λw=>yP i ρ ds wk w
 | _=>.stuck
def qbV{i:Nat}{P:Out->Prop}(z:P .stuck->False):∀{wk w},P (yP i ρ ds wk w)->∃ kk xs,wk=.fz kk[6]/\0<=kk/\ds[kk.toNat]?=!(.lst xs)/\xs[1]<sz:=by
 intro wk w k;have go:∀ kk d,P (yP i ρ ds kk[7] d[8])->0<=kk/\∃ xs,ds[kk.toNat]?=!(.lst xs)/\xs[1]<sz:=λkk d k=>by
  unfold yP at k;dsimp only at k;by_cases c:0<=kk
  .rw[if_pos c]at k;refine#[c,?_];generalize ds[kk.toNat]?=o at k;cases o with
   | none=>exact(z k).elim
   | some y =>
    cases y with
    | lst xs =>
     unfold QY at k;by_cases c2:xs[1]<sz
     .exact#[xs,rfl,c2]
     simp_all
    | _=>exact(z k).elim
  simp_all
 cases wk with
 | fz d =>
  cases d with
  | int kk =>
   cases w with
   | fz y=>obtain⟨c,xs,h1,h2⟩:=go kk y k;exact#[kk,xs,rfl,c,h1,h2]
   | _=>exact(z k).elim
  | _=>exact(z k).elim
 | _=>exact(z k).elim
section
variable{X:Cx}{F0 H0:Hp}{pos:Pos}
def qbW(i){x:Str}{apos cpos np:Pos}(he:"S" e f)(hN:(Nm X i x)["t"])(O:(attributeBase (.Name x np) "append" X.env (eval (.Name x np) X.env)=eval (.Name x np) X.env)["r"])
  (Y:(((backTo cpos (starEach [e] X.env)).all (λx=>not x.1)&&(backToKw cpos (keywordEach [] X.env)).all (λx=>x.1.isSome)
   && decide ([e].length+([]:List Keyword)[1]+(if ([]:List Keyword).isEmpty then 0 else 1)<30))=true)["r"])
  (U:((apos.endLine==cpos.line)=true)["r"]) (Z:(starEach [e] X.env=(false,eval e X.env)::starEach [] X.env)["r"]) (B:((backTo cpos (starEach [] X.env)).any (·.1)=false)["r"])
  (hs:(swapsWith (.Call (.Attribute (.Name x np) "append" apos) [e] [] cpos) none pos.line X.env=pure false)["r"]) :
  SS X F0 H0 (.Expr (.Call (.Attribute (.Name x np) "append" apos) [e] [] cpos) pos) (kX i f):=by
 intro pins s σ F H ρ D S I h;unfold kX at h;split at h
 .rename_i ds ei;have h:=PostS.of h;obtain⟨sh,a,bs,si,h0,hf,nd,dp,sp⟩:=S.dp i _ ei;have P:=xL (pos:=pos) (wT (X:=X) p7 cE cF xN (pvN (pos:=np) hN) (zI (jh (e:=e)) vM Z) O Y U Z B) hs;refine P pins s σ H D I #[_,si,.inl #[rfl,bs.map V.ref,SqL.of dp.1],he.sem S (h.imp λw k y F1 H1 g1 q1=>?_)]
  cases w<;>first|exact k.elim|skip
  rename_i d;cases d<;>first|exact k.elim|skip
  unfold QX at k;dsimp only at k;by_cases c:ds[1]<sz
  .rw[if_pos c]at k;obtain⟨b,o,rfl,b0,bf,bh,rb⟩:=q1;cases o<;>first|exact rb.elim|skip
   have lb:bs[1]=ds[1]:=Inn.len dp.2;have nb:b∉a::bs:=λm=>by
    rcases gy.mp m with rfl|m
    .rw[dp.1]at b0;cases b0
    obtain⟨_,_,_,z⟩:=Deep.inn dp m;lia
   have nab:a≠b:=λz=>nb (by rw[z];simp)
   refine#[a,bs.map V.ref,.ref b,rfl,rfl,g1.h _ _ dp.1,by rw[gg,lb,<- zY];exact c,?_]
   refine k σ _ _ g1.f ((S.grow g1).turn (bs:=bs) (bs':=bs++[b]) ei si sh sp (λz hz=>qr λe=>hz (by rw[e];simp)) (λz hz=>?_) (λz hz=>?_) (λz hz=>?_) ?_ #[?_,?_])
   .rcases gC.mp hz with hz|hz
    .exact .inl hz
    obtain rfl:z=b:=by simpa using hz
    refine .inr λj w ej ow sj=>?_
    obtain⟨u,e2⟩:=S.ownAt ej ow sj
    simp_all
   .rcases gy.mp hz with rfl|hz
    .exact h0
    rcases gC.mp hz with hz|hz
    .obtain⟨_,e2,_⟩:=Deep.inn dp hz;exact e2
    obtain rfl:z=b:=by simpa using hz
    exact Le.none S.gr.h b0
   .rcases gy.mp hz with rfl|hz
    .exact g1.no hf dp.1
    rcases gC.mp hz with hz|hz
    .obtain⟨_,_,e2,e3⟩:=Deep.inn dp hz;exact g1.no e2 e3
    obtain rfl:z=b:=by simpa using hz
    exact bf
   .have nd2:((a::bs)++[b]).Nodup:=fq.mpr #[nd,by simp,λx hx y hy e=>by
     obtain rfl:y=b:=by simpa using hy
     exact nb (by rw[<- e];exact hx)]
    exact nd2
   .rw[qL,tu];rfl
   refine Inn.same (G:=H) (G':=H) (H:=H1) (λz hz=>(qr λe=>?_).symm) (λ_ _ q=>q) Le.refl (Inn.snoc (Le.none S.gr.h b0) bf bh rb (Inn.gr g1 dp.2))
   subst e;rcases gC.mp hz with hz|hz
   .exact(tF.mp nd).1 hz
   exact nab hz[""]
  rw[if_neg c]at k;exact k.elim
 exact h.elim
def Kc(i){x:Str}{apos cpos np Y:Pos}(hk:"S" ek fk)(he:"S" e f)(hsx:yv ek:=by exact λ_ _=>rfl)(hN:(Nm X i x)["t"])(O:(attributeBase (.Subscript (.Name x np) ek Y) "append" X.env (eval (.Subscript (.Name x np) ek Y) X.env)=eval (.Subscript (.Name x np) ek Y) X.env)["r"])
  (Z:(((backTo cpos (starEach [e] X.env)).all (λx=>not x.1)&&(backToKw cpos (keywordEach [] X.env)).all (λx=>x.1.isSome)
   && decide ([e].length+([]:List Keyword)[1]+(if ([]:List Keyword).isEmpty then 0 else 1)<30))=true)["r"])
  (U:((apos.endLine==cpos.line)=true)["r"]) (hst:(starEach [e] X.env=(false,eval e X.env)::starEach [] X.env)["r"]) (B:((backTo cpos (starEach [] X.env)).any (·.1)=false)["r"])
  (hs:(swapsWith (.Call (.Attribute (.Subscript (.Name x np) ek Y) "append" apos) [e] [] cpos) none pos.line X.env=pure false)["r"]) :
  SS X F0 H0 (.Expr (.Call (.Attribute (.Subscript (.Name x np) ek Y) "append" apos) [e] [] cpos) pos) (wH i fk f):=by
 intro pins s σ F H ρ D S I h;unfold wH at h;split at h
 .rename_i ds ei;have h:=PostS.of h;obtain⟨sh,a,bs,si,h0,hf,nd,dp,sp⟩:=S.dp i _ ei;have P:=xL (pos:=pos) (wT (X:=X) p7 cE cF xN (qa9 (pos:=Y) ix_list (pvN (pos:=np) hN) (jh (e:=ek)) hsx) (zI (jh (e:=e)) vM hst) O Z U hst B) hs;refine P pins s σ H D I #[_,si,hk.sem S (h.imp λwk k y F1 H1 g1 q1=>?_)]
  have k:=PostS.of k;have h3:∃ kk xs,wk=.fz kk[6]/\0<=kk/\ds[kk.toNat]?=!(.lst xs)/\xs[1]<sz:=by
   cases fe:f ρ with
   | exc _=>rw[fe]at k;cases k
   | stuck=>rw[fe]at k;cases k
   | ok w =>
    rw[fe]at k;exact qbV (P:=PostS X F0 H0 F D) (λz=>z) k
  obtain⟨kk,xs,rfl,c0,ed,c2⟩:=h3;obtain rfl:y=V.int kk:=q1;have lb:bs[1]=ds[1]:=Inn.len dp.2;have kl:kk.toNat<bs[1]:=by rw[lb];exact(gp.mp ed).1
  have eb:bs[kk.toNat]?=!bs[kk.toNat]:=gE kl;generalize bs[kk.toNat]=b at eb;have mb:b∈bs:=hX eb;have at_:atI (bs.map V.ref) kk=!(.ref b):=by
   unfold atI ixN;rw[if_pos c0,if_pos (by rw[gg];lia),pW,gG,eb]
   rfl
  obtain⟨us0,_,_,hb⟩:=Deep.inn dp mb;refine#[a,bs.map V.ref,kk,.ref b,rfl,rfl,SqL.of (g1.h _ _ dp.1),at_,.inl #[rfl,us0,SqL.of (g1.h _ _ hb)],he.sem (S.grow g1) (k.imp λw k y F2 H2 g2 q2=>?_)]
  cases w<;>first|cases k|skip
  rename_i d;unfold yP at k;dsimp only at k;rw[if_pos c0,ed]at k;unfold QY at k;dsimp only at k;rw[if_pos c2]at k;have G:=g1.trans g2;obtain⟨ndA,ndB⟩:=tF.mp nd;obtain⟨us,xs',e1,e2,e3,inn⟩:=Inn.app (y:=y) (d:=d) q2 (Inn.gr G dp.2) ndB eb;rw[ed]at e1;cases e1;refine#[b,us,y,rfl,rfl,e2,by rw[e3,<- zY];exact c2,?_]
  refine k σ _ _ G.f ((S.grow G).turn (bs:=bs) (bs':=bs) ei si sh sp (λz hz=>qr λe=>hz (by rw[e];exact gj _ mb)) (λz hz=>.inl hz) (λz hz=>?_) (λz hz=>?_) nd #[?_,inn])
  .rcases gy.mp hz with rfl|hz
   .exact h0
   obtain⟨_,e4,_⟩:=Deep.inn dp hz;exact e4
  .rcases gy.mp hz with rfl|hz
   .exact G.no hf dp.1
   obtain⟨_,_,e4,e5⟩:=Deep.inn dp hz;exact G.no e4 e5
  exact(qr λe=>ndA (by rw[e];exact mb)).trans (G.h _ _ dp.1)
 cases h
end
section
variable{prog:af}{w:World}{K:Type} [DecidableEq K]{knd:HeapKind prog w K}{A:ag}{E:aa->ab->Prop}{s:ab}{d a:Addr}{k:K}{xs:List (K×Addr×aa)}{dv:aa}
def qbX(U:knd.room A)(O:knd.is s.heap k a)(Y:s.heap.DictOfH knd d xs)(hz:xs[1]<=sizeLine)
  (h1:∀ p,atKey xs k=!p->Q p.2 {s with toks:=s.toks+knd.draws k})
  (h2:atKey xs k=none->∀ h',h'.DictOfH knd d (storedH xs k a dv)->Heap.SameBut d s.heap h'->Q dv {s with heap:=h',toks:=s.toks+knd.draws k}) :
  wpAny (model prog w) A (dictSetDefault d (.ref a) dv) Q E s:=by
 obtain⟨o,es,ep,go,gc,gd,ge,gi,gn⟩:=Y;have z:=size_of_entries ge;refine fT (g6 (knd.pyHash U O (g6 (wpAny_dictFind_heap U O go gd ge gi gn (λno=>?_) λj p hj=>?_))))
 .have B:=atKey_none_of_get no;have nk:k∉xs.map (·.1):=not_mem_keys_of_get no
  have sn:=storedH_new (a:=a) B;refine g6 (pV (g6 (wpAny_updateDictKeys (hz:=by lia) (s:={s with toks:=s.toks+knd.draws k}) go gd (gu (h2 B _ ?_ (pA ..))))))
  rw[sn];refine#[_,_,ep+1,f9 _ go (Obj.isFreed_of_dict (Obj.data_mapDictKeys gd _)),gc.mapDictKeys _,Obj.data_mapDictKeys gd _,by simp[ge,entryOfKey],λx hx=>?_,?_]
  .have hx:x∈xs\/x=(k,a,dv):=by simpa using hx
   rcases hx with hx|rfl
   .exact knd.keeps (gi x hx) go gd (pA ..)
   exact knd.keeps O go gd (pA ..)
  rw[tu];refine fq.mpr #[gn,by simp,λx hx y hy e=>nk ?_]
  have hy:y=k:=by simpa using hy
  rw[<- hy,<- e];exact hx
 have ak:=atKey_of_get gn hj;refine g6 (b9 (s:={s with toks:=s.toks+knd.draws k}) go gd ?_);rw[entry_at ge j,hj];exact g6 (pV (gu (h1 p ak)))
def qbY(hd:(d==sysModules)=false)(B:knd.room A.in1)(O:knd.is s.heap k a)(z:s.heap.DictOfH knd d xs)(hz:xs[1]<=sizeLine)
  (h1:∀ p,atKey xs k=!p->Q p.2 {s with toks:=s.toks+knd.draws k})
  (h2:atKey xs k=none->∀ h',h'.DictOfH knd d (storedH xs k a dv)->Heap.SameBut d s.heap h'->Q dv {s with heap:=h',toks:=s.toks+knd.draws k}) :
  wpAny (model prog w) A (call (.builtin "dict.setdefault") [.ref d,.ref a,dv]) Q E s:=by
 have ty:=z.typeIs;refine pj PySem.F.slot_dict_setdefault ty PySem.F.entry_dict_setdefault ?_ (PySem.F.args_dict_setdefault_3 _ _ _);refine g6 (g6 (wpAny_notOrdered_dict ty (gu ?_)));show wpAny _ _ (if (d==sysModules)=true then _ else(dictSetDefault d (.ref a) dv >>= _)) _ _ s
 rw[if_neg (by rw[hd];decide)]
 exact g6 (qbX B O z hz (λp e=>gu #[_,rfl,h1 p e]) λe h' q sb=>gu #[_,rfl,h2 e h' q sb])
end
def rSd:V->List V->Hp->VK->Prop:=λx vs H Q=>∃ a kvs k b y,x=.ref a/\vs=[.ref b,y]/\H a=!(.dT kvs)/\H b=!(.tup (k.map kV))/\kvs[1]<sizeLine/\(∀ v,js kvs k=!v->Q v H)/\(js kvs k=none->Q y (upd H a (.dT (jI kvs k y))))
section
variable{X:Cx}
def qbZ(Z:X.A.units+1<cLine):MtR X "dict.setdefault" rSd:=by
 intro pins s σ H x vs v us Q I rx rv h;obtain⟨a,kvs,k,b,y,rfl,rfl,hH,hb,hl,q1,q2⟩:=h;cases rx;obtain⟨u1,u2,rfl,Y,O⟩:=rv.two;cases Y;obtain⟨z,hd,xs,B,dd⟩:=Y5 I.hok hH;have hz:xs[1]<=sizeLine:=by rw[<- dL B];exact z
 have hp:(jI kvs k y)[1]<=sizeLine:=by have:=Za kvs k y;lia
 refine qbY hd (dP Z) (Qk I.hok hb) dd hz (λp e=>?_) λe h' U sb=>?_
 .have r:=B.val k;rw[e]at r;cases ev:js kvs k with
  | none=>rw[ev]at r;exact r.elim
  | some v =>
   rw[ev]at r;exact#[v,H,I.tok _,r,q1 v ev]
 have r:=B.val k;rw[e]at r;have ev:js kvs k=none:=by
  cases ev:js kvs k with
  | none=>rfl
  | some v=>rw[ev]at r;exact r.elim
 obtain⟨q,es,ep,hq,g2,g3,g4,_,g5⟩:=U;refine#[y,_,Zc (ob:=.dT (jI kvs k y)) I (by rw[hH];exact True.intro) sb #[q,hq] #[hp,hd,_,(B.put k hb O).keeps λc ys ec=>?_,q,es,ep,hq,g2,g3,g4,g5],O,q2 ev]
 rw[qr (WH ec hH λz=>nomatch z)]
 exact ec
end
def QZ:D->D->D
 | .lst xs,d=>.lst (xs++[d])
 | e,_=>e
def zN(key:List (Sum Int Str))(d:D):List (List (Sum Int Str)×D)->List (List (Sum Int Str)×D)
 | []=>[(key,.lst [d])]
 | (k,e)::r=>if k=key then(k,QZ e d)::r else(k,e)::zN key d r
theorem V0(key):∀ kds (bs:List Addr),bs[1]=kds[1] ->
  (js ((kds.map Prod.fst).zip (bs.map V.ref)) key=none/\∀ d,zN key d kds=kds++[(key,.lst [d])]) \/
  ∃ j b e,bs[j]?=!b/\(kds.map Prod.snd)[j]?=!e/\js ((kds.map Prod.fst).zip (bs.map V.ref)) key=↑(.ref b) /\
   ∀ d,(zN key d kds).map Prod.fst=kds.map Prod.fst/\(zN key d kds).map Prod.snd=(kds.map Prod.snd).set j (QZ e d)
 | [],[],_=>.inl #[rfl,λ_=>rfl]
 | [],_::_,h=>by cases h
 | _::_,[],h=>by cases h
 | (k,e)::r,b::bs,h=>by
  by_cases c:k=key
  .refine .inr #[0,b,e,rfl,rfl,xO c,λd=>?_]
   unfold zN;rw[if_pos c];exact#[rfl,rfl]
  have nv:js ((((k,e)::r).map Prod.fst).zip ((b::bs).map V.ref)) key=js ((r.map Prod.fst).zip (bs.map V.ref)) key:=xP c;rcases V0 key r bs h[""]with⟨h1,h2⟩|⟨j,b',e',h1,h2,h3,h4⟩
  .refine .inl #[nv.trans h1,λd=>?_]
   unfold zN
   simp_all
  refine .inr #[j+1,b',e',by simpa using h1,by simpa using h2,nv.trans h3,λd=>?_]
  unfold zN
  simp_all
def kY:D->Bool
 | .lst xs=>decide (xs[1]<sz)
 | _=>false
def Ke(i:Nat)(ρ:Rho)(kds:List (List (Sum Int Str)×D))(key:List (Sum Int Str)):En->Out
 | .fz d=>.nx (ρ.set i (!(.od (.dT (zN key d kds)))))
 | _=>.stuck
def kZ(i:Nat)(e:EF)(ρ:Rho)(kds:List (List (Sum Int Str)×D))(key:List (Sum Int Str)):En->Out
 | .ow (.lst [])=>if kds[1]<sz/\key[1]<=sz/\(kds.all λkv=>kY kv.2)=true then sOf (e (ρ.set i none)) (Ke i ρ kds key)else .stuck
 | _=>.stuck
def Kf(i:Nat)(z e:EF)(ρ:Rho)(kds:List (List (Sum Int Str)×D)):Option (List (Sum Int Str))->Out
 | some key=>sOf (z ρ) (kZ i e ρ kds key)
 | none=>.stuck
def sSd(i:Nat)(ks:List EF)(z e:EF):SF:=λρ=>match ρ[i]? with
 | some (!(.od (.dT kds)))=>sOf (evs ks ρ) λws=>Kf i z e ρ kds (jF (ws.map En.d))
 | _=>.stuck
def StOk.drop(i)(S:StOk κ F0 H0 F H ρ σ):StOk κ F0 H0 F H (ρ.set i none) σ:=by
 have at_:∀{m:Nat} {y},(ρ.set i none)[m]?=!(!y)->ρ[m]?=!(!y):=λ{m y} h=>by
  rcases qC h with⟨_,z⟩|⟨_,z⟩
  .lia
  exact z
 refine#[S.gr,by simpa using S.len,λj w e=>S.val j w (at_ e),λj k w w' c B ej ek=>S.sep j k w w' c B (at_ ej) (at_ ek),λj y e=>?_]
 obtain⟨s1,a,bs,e1,h0,hf,nd,dp,sp⟩:=S.dp j y (at_ e);exact#[λk z hk ek=>s1 k z hk (at_ ek),a,bs,e1,h0,hf,nd,dp,λk w b hk ek=>sp k w b hk (at_ ek)]
def Inn.short_at{κ:Kx}{H0 F H:Hp}{kds:List (List (Sum Int Str)×D)}{j:Nat}{e:D}(h:(kds.all λkv=>kY kv.2)=true)(B:(kds.map Prod.snd)[j]?=!e):∃ xs,e=.lst xs/\xs[1]<sz:=by
 rw[gG]at B;obtain⟨kv,hk,rfl⟩:=cZ.mp B;have:=tW.mp h kv (hX hk)
 revert this
 cases kv.2<;>intro z<;>first|exact#[_,rfl,of_decide_eq_true z]|cases z
section
variable{X:Cx}{F0 H0:Hp}{pos:Pos}
def qc0(i){x:Str}{Z B ap2 cp2 np tp:Pos}{ks:List Expr}{Y e:Expr}{n:Nat}{fk:List EF}{fl f:EF}(hu:X.A.units+10<cLine)(hk:SA X F0 H0 ks fk)(hl:"S" Y fl)(he:"S" e f)
  (hN:(Nm X i x)["t"])
  (hb1:(attributeBase (.Name x np) "setdefault" X.env (eval (.Name x np) X.env)=eval (.Name x np) X.env)["r"])
  (hf1:(((backTo B (starEach [.Tuple ks n tp,Y] X.env)).all (λx=>not x.1)&&(backToKw B (keywordEach [] X.env)).all (λx=>x.1.isSome)
   && decide ([.Tuple ks n tp,Y].length+([]:List Keyword)[1]+(if ([]:List Keyword).isEmpty then 0 else 1)<30))=true)["r"])
  (hl1:((Z.endLine==B.line)=true)["r"]) (hs1:(starEach [.Tuple ks n tp,Y] X.env=(false,eval (.Tuple ks n tp) X.env)::starEach [Y] X.env)["r"]) (hs2:(starEach [Y] X.env=(false,eval Y X.env)::starEach [] X.env)["r"])
  (hp1:((backTo B (starEach [Y] X.env)).any (·.1)=false)["r"])
  (hb2:(attributeBase (.Call (.Attribute (.Name x np) "setdefault" Z) [.Tuple ks n tp,Y] [] B) "append" X.env (eval (.Call (.Attribute (.Name x np) "setdefault" Z) [.Tuple ks n tp,Y] [] B) X.env)=eval (.Call (.Attribute (.Name x np) "setdefault" Z) [.Tuple ks n tp,Y] [] B) X.env)["r"])
  (hf2:(((backTo cp2 (starEach [e] X.env)).all (λx=>not x.1)&&(backToKw cp2 (keywordEach [] X.env)).all (λx=>x.1.isSome)
   && decide ([e].length+([]:List Keyword)[1]+(if ([]:List Keyword).isEmpty then 0 else 1)<30))=true)["r"])
  (hl2:((ap2.endLine==cp2.line)=true)["r"]) (hs3:(starEach [e] X.env=(false,eval e X.env)::starEach [] X.env)["r"]) (hp2:((backTo cp2 (starEach [] X.env)).any (·.1)=false)["r"])
  (hs:(swapsWith (.Call (.Attribute (.Call (.Attribute (.Name x np) "setdefault" Z) [.Tuple ks n tp,Y] [] B) "append" ap2) [e] [] cp2) none pos.line X.env=pure false)["r"]) :
  SS X F0 H0 (.Expr (.Call (.Attribute (.Call (.Attribute (.Name x np) "setdefault" Z) [.Tuple ks n tp,Y] [] B) "append" ap2) [e] [] cp2) pos) (sSd i fk fl f):=by
 intro pins s σ F H ρ D S I h;unfold sSd at h;split at h
 .rename_i kds ei;have h:=PostS.of h;obtain⟨sh,a,bs,si,h0,hf,nd,dp,sp⟩:=S.dp i _ ei;obtain⟨ha,U⟩:=dp;have P:=xL (pos:=pos) (wT (X:=X) p7 cE cF xN
   (wT (X:=X) cP PySem.F.slot_dict_setdefault PySem.F.type_dict_setdefault (qbZ "") (pvN (pos:=np) hN) (zI (jh (e:=.Tuple ks n tp)) (zI (jh (e:=Y)) vM hs2) hs1) hb1 hf1 hl1 hs1 hp1)
   (zI (jh (e:=e)) vM hs3) hb2 hf2 hl2 hs3 hp2) hs
  refine P pins s σ H D I #[_,si,.inr (.inr (.inl #[rfl,.inr #[_,ha]])),QT hk S (h.imp λws k1 vs F1 H1 p g1 q1 hp=>?_)]
  cases ek:jF (ws.map En.d)with
  | none=>rw[ek]at k1;cases k1
  | some key =>
   rw[ek]at k1;have ev:=ut q1 ek;subst ev;have k2:=PostS.of (show PostS X F0 H0 F D (sOf (fl ρ) (kZ i f ρ kds key))from k1)
   have g2:=Gr.new (o:=.tup (key.map kV)) g1.s hp;have G2:=g1.trans g2;have h6:kds[1]<sz/\key[1]<=sz/\(kds.all λkv=>kY kv.2)=true:=by
    cases fe:fl ρ with
    | exc _=>rw[fe]at k2;cases k2
    | stuck=>rw[fe]at k2;cases k2
    | ok w =>
     rw[fe]at k2;have k2:PostS X F0 H0 F D (kZ i f ρ kds key w):=k2;unfold kZ at k2;split at k2
     .by_cases c:kds[1]<sz/\key[1]<=sz/\(kds.all λkv=>kY kv.2)=true
      .exact c
      rw[if_neg c]at k2;cases k2
     cases k2
   obtain⟨c1,c2,c3⟩:=h6;have lb:bs[1]=kds[1]:=(Inn.len U).trans "s"
   refine#[by rw[gg,<- zY];exact c2,hl.sem (S.grow G2) (k2.imp λw k3 y F3 H3 g3 q3=>?_)]
   unfold kZ at k3;split at k3
   .rw[if_pos #[c1,c2,c3]]at k3;have k3:=PostS.of k3;obtain⟨b,o,rfl,b0,bf,bh,rb⟩:=q3;cases o<;>first|exact rb.elim|skip
    cases (show _=[]from rb)
    have G3:=G2.trans g3;have S3:=S.grow G3;have O:H b=none:=Le.none G2.h b0;have nb:b∉a::bs:=λm=>by
     rcases gy.mp m with rfl|m
     .rw[ha]at O;cases O
     obtain⟨_,_,_,z⟩:=Inn.at U m;rw[z]at O;cases O
    have nab:a≠b:=λz=>nb (by rw[z];simp)
    have ntp:H3 p=!(.tup (key.map kV)):=g3.h _ _ qL;refine#[a,_,key,p,.ref b,rfl,rfl,G3.h _ _ ha,ntp,by rw[List.length_zip,gg,gg,lb,Nat.min_self,<- zY];exact c1,λv ev=>?_,λev=>?_]
    .rcases V0 key kds bs lb with⟨z,_⟩|⟨j,b',e',m1,m2,m3,m4⟩
     .rw[ev]at z;cases z
     rw[ev]at m3;cases m3;obtain⟨xs0,rfl,lx⟩:=Inn.short_at (κ:=kx X) (H0:=H0) (F:=F) (H:=H) c3 m2;have mb:b'∈bs:=hX m1;obtain⟨us0,_,_,hb⟩:=Inn.at U mb;refine#[.inl #[rfl,us0,SqL.of (G3.h _ _ hb)],he.sem (S3.drop i) (k3.imp λw k4 y F4 H4 g4 q4=>?_)]
     cases w<;>first|cases k4|skip
     rename_i d;have k4:PostS X F0 H0 F D (.nx (ρ.set i (!(.od (.dT (zN key d kds)))))):=k4;have G4:=G3.trans g4;obtain⟨ndA,ndB⟩:=tF.mp nd;obtain⟨us,xs',e1,e2,e3,h4⟩:=Inn.app (y:=y) (d:=d) q4 (Inn.gr G4 U) ndB m1;rw[m2]at e1;cases e1;obtain⟨s1,s2⟩:=m4 d;refine#[b',us,y,rfl,rfl,e2,by rw[e3,<- zY];exact lx,?_]
     refine k4 σ _ _ G4.f ((S.grow G4).turn (bs:=bs) (bs':=bs) ei si sh sp (λz hz=>qr λe=>hz (by rw[e];exact gj _ mb)) (λz hz=>.inl hz) (λz hz=>?_) (λz hz=>?_) nd #[?_,?_])
     .rcases gy.mp hz with rfl|hz
      .exact h0
      obtain⟨_,e4,_⟩:=Inn.at U hz;exact e4
     .rcases gy.mp hz with rfl|hz
      .exact G4.no hf ha
      obtain⟨_,_,e4,e5⟩:=Inn.at U hz;exact G4.no e4 e5
     .rw[qr λe=>ndA (by rw[e];exact mb),s1]
      exact G4.h _ _ ha
     rw[s2];exact h4
    rcases V0 key kds bs lb with⟨_,app⟩|⟨j,b',e',_,_,z,_⟩
    .have pk:=qau (V.ref b) ev;rw[pk];have h5:(kds.map Prod.fst).zip (bs.map V.ref)++[(key,V.ref b)]=((kds++[(key,L3.D.lst [])]).map Prod.fst).zip ((bs++[b]).map V.ref):=by
      rw[tu,tu,List.zip_append (by rw[gg,gg,lb])]
      rfl
     have nd2:(a::(bs++[b])).Nodup:=by
      have:((a::bs)++[b]).Nodup:=fq.mpr #[nd,by simp,λx hx y hy e=>by
       obtain rfl:y=b:=by simpa using hy
       exact nb (by rw[<- e];exact hx)]
      exact this
     have all0:∀ z∈a::(bs++[b]),H0 z=none/\F3 z=none:=λz hz=>by
      rcases gy.mp hz with rfl|hz
      .exact#[h0,G3.no hf ha]
      rcases gC.mp hz with hz|hz
      .obtain⟨_,e4,e5,e6⟩:=Inn.at U hz;exact#[e4,G3.no e5 e6]
      obtain rfl:z=b:=by simpa using hz
      exact#[Le.none S.gr.h O,bf]
     have h3:Inn (kx X) H0 F3 (upd H3 a (.dT ((kds.map Prod.fst).zip (bs.map V.ref)++[(key,V.ref b)]))) (bs++[b]) ((kds++[(key,L3.D.lst [])]).map Prod.snd):=by
      rw[tu];refine Inn.same (G:=H) (G':=H) (H:=H3) (λz hz=>(qr λe=>?_).symm) (λ_ _ q=>q) Le.refl (Inn.snoc (Le.none S.gr.h O) bf bh (show Reps (kx X) F3 [] []from rb) (Inn.gr G3 U))
      subst e;exact(tF.mp nd2).1 hz
     have S4:=S3.turn (bs:=bs) (bs':=bs++[b]) (d':=.dT (kds++[(key,.lst [])])) (H':=upd H3 a (.dT ((kds.map Prod.fst).zip (bs.map V.ref)++[(key,V.ref b)]))) ei si sh sp (λz hz=>qr λe=>hz (by rw[e];simp)) (λz hz=>by
       rcases gC.mp hz with hz|hz
       .exact .inl hz
       obtain rfl:z=b:=by simpa using hz
       refine .inr λj w ej ow sj=>?_
       obtain⟨u,e2⟩:=S.ownAt ej ow sj;rw[O]at e2;cases e2) (λz hz=>(all0 z hz).1) (λz hz=>(all0 z hz).2) nd2 #[by rw[qL,h5],h3]
     have SD:=S4.drop i;rw[bK]at SD;have bh4:(upd H3 a (.dT ((kds.map Prod.fst).zip (bs.map V.ref)++[(key,V.ref b)]))) b=!(.lst []):=(qr (tf nab)).trans bh;refine#[.inl #[rfl,[],SqL.of bh4],he.sem SD (k3.imp λw k4 y F4 H4 g4 q4=>?_)]
     cases w<;>first|cases k4|skip
     rename_i d;have k4:PostS X F0 H0 F D (.nx (ρ.set i (!(.od (.dT (zN key d kds)))))):=k4;have i4:i<ρ.length:=(gp.mp ei).1;have S5:=S4.grow g4;have ei5:(ρ.set i (!(.od (.dT (kds++[(key,.lst [])])))))[i]?=!(!(.od (.dT (kds++[(key,.lst [])])))):=List.getElem?_set_self i4;have eb:(bs++[b])[bs[1]]?=!b:=by simp
     obtain⟨us,xs',e1,e2,e3,h4⟩:=Inn.app (y:=y) (d:=d) q4 (Inn.gr g4 h3) (tF.mp nd2).2 eb;have eq0:((kds++[(key,L3.D.lst [])]).map Prod.snd)[bs[1]]?=!(.lst []):=by rw[lb];simp
     rw[eq0]at e1;cases e1;have us0:us=[]:=fj.mp e3;subst us0;refine#[b,[],y,rfl,rfl,e2,by rw[pG];decide,?_]
     have sh5:shal i (ρ.set i (!(.od (.dT (kds++[(key,.lst [])]))))):=λj z hj ej=>by
      rw[gW (tf hj)]at ej;exact sh j z hj ej
     have sp5:∀ j w c,j≠i->(ρ.set i (!(.od (.dT (kds++[(key,.lst [])])))))[j]?=!(!w)->w.own=true->c∈a::(bs++[b])->σ[j]?≠!(!(.ref c)):=λj w c hj ej ow m sj=>by
      rw[gW (tf hj)]at ej;rcases gy.mp m with rfl|m
      .exact sp j w _ hj ej ow "s" sj
      rcases gC.mp m with m|m
      .exact sp j w c hj ej ow (gj _ m) sj
      obtain rfl:c=b:=by simpa using m
      obtain⟨u,e2⟩:=S.ownAt ej ow sj;rw[O]at e2;cases e2
     have S6:=S5.turn (bs:=bs++[b]) (bs':=bs++[b]) (d':=.dT (zN key d kds)) (H':=upd H4 b (.lst ([]++[y]))) ei5 si sh5 sp5 (λz hz=>qr λe=>hz (by rw[e];simp)) (λz hz=>.inl hz) (λz hz=>(all0 z hz).1) (λz hz=>?_) nd2 #[?_,?_]
     .rw[bK]at S6;exact k4 σ _ _ (Le.trans G3.f g4.f) S6
     .rcases gy.mp hz with rfl|hz
      .exact g4.no (all0 _ "s").2 qL
      obtain⟨_,_,e5,e6⟩:=Inn.at h3 hz;exact g4.no e5 e6
     .rw[qr nab,g4.h _ _ qL,h5,app d];simp only[tu];rfl
     have es:(zN key d kds).map Prod.snd=((kds++[(key,L3.D.lst [])]).map Prod.snd).set bs[1] (.lst ([]++[d])):=by
      rw[app d,lb];simp
     rw[es];exact h4
    rw[ev]at z;cases z
   cases k3
 cases h
variable{prog:af}{w:World}{A:ag}{E:aa->ab->Prop}{s:ab}{d it:Addr}{o:Obj}{es:Array DictEntry}{ep i:Nat}
def qc1(hd:(d==sysModules)=false)(B:s.heap.get? d=!o)(O:o.ExactDict)(z:o.data=.dict es ep)
  (h:Q (.ref s[0]) {s with heap:=s.heap.push {cls:=.type "dict_keyiterator",data:=.fields (List.toArray [.ref d,.int 0 0,.int es.size 0,.int ep 0])}}):wpAny (model prog w) A (pyIter (.ref d)) Q E s:=by
 have ty:s.TypeIs (.ref d) "dict":=#[o,B,O.1];refine wpAny_pyIter_slot ty PySem.F.slot_dict_iter (pj PySem.F.slot_dict_iter ty PySem.F.entry_dict_iter ?_ (PySem.F.args_dict_iter_1 _));refine g6 (g6 (wpAny_notOrdered_dict ty (show wpAny _ _ (pure (Value.ref d)) _ _ s from gu (show wpAny _ _ (Builtin.Dict.showsAll d >>= _) _ _ s from ?_))))
 unfold Builtin.Dict.showsAll;rw[if_neg (by rw[hd];decide)]
 refine g6 (gu (g6 (b9 B z (g6 (wpAny_dictEpoch B z (g6 (tV (gu #[_,rfl,"dict_keyiterator",_,#[_,gM _ rfl,rfl],pU.lookup,?_]))))))));simpa[rawInt]using h
def Kg(U:A.handled=none)(z:s.heap.IsKeyIter it d i es.size ep)(O:s.heap.get? d=!o)(B:o.data=.dict es ep)
  (h1:∀ e h',es[i]?=!e->h'.IsKeyIter it d (i+1) es.size ep->Heap.SameBut it s.heap h'->Q (!e.key) {s with heap:=h'})
  (h2:es[i]?=none->∀ h',Heap.ExtBut it s.heap h'->Q none {s with heap:=h'}):wpAny (model prog w) A (pyNext (.ref it)) Q E s:=by
 obtain⟨oi,gi,ci,di⟩:=id z;refine g6 (m9 (fL (name:=Str.ofString "__next__") z.typeIs pU (pj pU z.typeIs PySem.F.entry_dict_keyiterator_next ?_ (PySem.F.args_dict_keyiterator_next_1 _))));refine g6 (gu (g6 (g6 ?_)))
 first|refine g6 (cR z.typeIs (gu (g6 (wpAny_fieldsOf gi di ?_))))|refine g6 (dG z.typeIs (gu (g6 (wpAny_fieldsOf gi di ?_))))
 refine g6 (gu (g6 (b9 O B ?_)));rw[if_neg "s"]
 refine g6 (gu (g6 (wpAny_dictEpoch O B ?_)));rw[if_neg "s"]
 refine gu ?_;cases he:es[i]? with
 | none =>
  simp[show ¬ (i<0)by lia,cA,fK,he]
  refine g6 ?_
  first|refine g6 (cR z.typeIs (gu (show wpAny _ _ (setField (.ref it) 0 .none >>= _) _ _ s from g6 (bi gi di "s" ?_))))|refine g6 (dG z.typeIs (gu (show wpAny _ _ (setField (.ref it) 0 .none >>= _) _ _ s from g6 (bi gi di "s" ?_))))
  show wpAny _ _ (newExc (.type "StopIteration") [] >>= _) _ _ _;refine g6 ?_;simp[newExc,newTuple];refine g6 (tV (g6 (m:=firstArgMember _ _) (wpAny_of_eq (a:=Value.none) (by first|rfl|(simp[firstArgMember];rfl)) (tV ?_ (by size_fits)))) (by size_fits))
  simp only[raiseNew];refine g6 (wpAny_handled ?_);rw[show A.in1.handled=none from U];refine g6 (gu (wpAny_throw (g6 ?_)))
  refine(wpAny_isInstance (T:="StopIteration") (b:=true) #[_,gM _ rfl,rfl] isSubtype_stop (gu (h2 he _ ?_)));exact((pA ..).extBut.push _).push _
 | some e =>
  simp[show ¬ (i<0)by lia,cA,fK,he]
  have nx:(s.heap.update it (Obj.mapFields (·.setIfInBounds 1 (rawInt (i+1))))).IsKeyIter it d (i+1) es.size ep :=
   #[_,f9 _ gi (Obj.isFreed_of_fields (dU di _)),(Obj.cls_mapFields ..).trans ci,by rw[dU di];simp[rawInt]]
  refine g6 ?_
  first|refine g6 (cR z.typeIs (gu (g6 (bq z.typeIs ?_))))|refine g6 (dG z.typeIs (gu (g6 (bq z.typeIs ?_))))
  show wpAny _ _ (setField (.ref it) 1 (rawInt (i+1)) >>= _) _ _ s;refine g6 (bi gi di "s" (g6 (fT (g6 (bq (s:={s with heap:=s.heap.update it (Obj.mapFields (·.setIfInBounds 1 (rawInt (i+1))))}) nx.typeIs ?_)))))
  show wpAny _ _ (pure e.key) _ _ _;exact gu (gu #[_,rfl,gu (h1 e _ he nx (pA ..))])
end
def ItT(a:Addr)(ob:Obj):It:=#[λi H=>∃ kvs,H a=!(.frz ob (.dT kvs))/\i<kvs[1],
 λi H x H'=>H'=H/\∃ kvs k v q,H a=!(.frz ob (.dT kvs))/\kvs[i]?=!(k,v)/\x=.ref q/\H q=!(.tup (k.map kV)),λi H=>∃ kvs,H a=!(.frz ob (.dT kvs))/\kvs[1]<=i]
theorem Kh{R:α->β->Prop}:∀{l} {m} {i:Nat} {x},Paired R l m->l[i]?=!x->∃ y,m[i]?=!y/\R x y
 | _,_,i,_,.nil,h=>by simp at h
 | _,_,0,x,.cons r t,h=>by simp at h;subst h;exact#[_,rfl,r]
 | _,_,i+1,x,.cons r t,h=>by
  obtain⟨y,e,q⟩:=Kh t h[""]
  exact#[y,by simpa using e,q]
def qc2{K:Frag}{ob:Obj}{es:Array DictEntry}{ep:Nat}(h2:ob.data=.dict es ep):Turn P w K tg (ItT a ob) [it] it (λi h=>h.IsKeyIter it a i es.size ep)where
 mem:=by simp
 obj:=λi h st b hb=>by
  obtain⟨o,e,c,d⟩:=st
  simp_all
 keep:=λi h h' st k=>by
  obtain⟨o,e,r⟩:=st;exact#[o,k it "s" o e,r]
 item:=by
  intro X hP hw hK hc i pins s σ H E I hf st hg;obtain⟨kvs,hH,hi⟩:=hg;obtain⟨go,z,y,xs,r,o,O,U,e1,e2,e3,e4,e5⟩:=(show ObjOk X.prog X.w H s.heap a (.frz ob (.dT kvs))from I.hok a _ hH)
  rw[go]at e1;cases e1;rw[h2]at e3;cases e3;obtain⟨⟨k,q,u⟩,ex,ek,eq,eu⟩:=Kh r (gE hi);have ee:es[i]?=!(entryOfKey (tupleKind (je X.prog X.w)) (k,q,u)):=by
   rw[<- Array.getElem?_toList,e4,gG,ex];rfl
  obtain⟨f0,f1,f2,f3,f4,f5⟩:=hf it "s"
  refine Kg (I.ok.hd hc) st go h2 (λe h' he B sb=>?_) λhe=>by rw[ee]at he;cases he
  rw[ee]at he;cases he;have I1:"I" H {s with heap:=h'}:=I.turned (t':=s.toks) (λb o hb e=>(sb.2 b hb).trans e) f0 f1 f3 f4 f5
  obtain⟨o',e,c,d⟩:=id B;exact#[_,rfl,yt (s:={s with heap:=h'}) e c d "d" #[.ref q,H,I1,rfl,#[rfl,kvs,_,_,q,hH,gE hi,rfl,eq],B,λb hb=>(hf b hb).1]]
 done:=by
  intro X hP hw hK hc i pins s σ H E I hf st hg;obtain⟨kvs,hH,hi⟩:=hg;obtain⟨go,z,y,xs,r,o,O,U,e1,e2,e3,e4,e5⟩:=(show ObjOk X.prog X.w H s.heap a (.frz ob (.dT kvs))from I.hok a _ hH)
  rw[go]at e1;cases e1;rw[h2]at e3;cases e3;have el:es.size=kvs[1]:=by
   have a1:es[2].length=xs[1]:=by rw[e4,gg]
   have a2:=dL r;simp at a1;lia
  obtain⟨f0,f1,f2,f3,f4,f5⟩:=hf it "s"
  refine Kg (I.ok.hd hc) st go h2 (λe h' he _ _=>?_) λhe h' eb=>#[rfl,I.turned (t':=s.toks) (λb o hb e=>eb b o hb e) f0 f1 f3 f4 f5]
  rw[dY ""]at he
  cases he
 self:=λ_ _ _ _ _ st h=>wpAny_pyIter_keyiter st h
def Gr.tup(s:Le F H){q:Addr}{xs:List V}(z:H q=!(.tup xs)):Gr F H (upd F q (.tup xs)) H:=by
 refine#[λa u h=>?_,Le.refl,λa u h=>?_,λa h=>?_]
 .by_cases e:a=q
  .subst e;have:=s a u h;rw[z]at this;cases this;exact qL
  rw[qr e];exact h
 .by_cases e:a=q
  .subst e;rw[qL]at h;cases h;exact z
  rw[qr e]at h;exact s a u h
 by_cases e:a=q
 .subst e;exact .inr (.inr #[xs,z])
 rw[qr e]at h;exact .inl h
theorem Ki:∀ k:List (Sum Int Str),Reps κ F (k.map kV) (k.map QB)
 | []=>rfl
 | x::r=>#[kV x,r.map kV,rfl,by cases x<;>rfl,Ki r]
def Kj(k:List (Sum Int Str)):D:=.tup (k.map QB)
def iT(i:Nat):IF:=λρ=>match ρ[i]? with
 | some (!(.lk (.dT kds)))=>.ok (kds.map λkv=>Kj kv.1)
 | _=>.stuck
theorem Kk:∀{kds} {kvs} {i:Nat} {k} {d},RepT κ F kvs kds->kds[i]?=!(k,d)->∃ v,kvs[i]?=!(k,v)
 | [],_,i,_,_,_,h=>by simp at h
 | (q,e)::r,_,0,k,d,h,ek=>by
  obtain⟨v,kr,rfl,_,_⟩:=h;simp at ek;rw[<- ek.1];exact#[v,rfl]
 | (q,e)::r,_,i+1,k,d,h,ek=>by
  obtain⟨v,kr,rfl,_,h2⟩:=h;obtain⟨u,eu⟩:=Kk h2 ek[""]
  exact#[u,by simpa using eu]
def si_T(i)(U:(Nm X i x)["t"]):SI X F0 H0 tg (.Name x pos) (iT i):=by
 refine#[λσ H R=>∃ a ob kvs,σ[i]?=!(!(.ref a))/\H a=!(.frz ob (.dT kvs))/\R (ItT a ob) H,λpins s σ H R I #[a,ob,kvs,hσ,hH,hR]=>?_,λσ F H ρ R S h=>?_]
 .refine thn (pvN (pos:=pos) U pins s σ H (λv' H'=>v'=.ref a/\H'=H) I #[_,hσ,rfl,rfl]) λu s1 #[v1,H1,I1,r1,e1,e2]=>?_
  subst e1 e2;obtain rfl:u=Value.ref a:=r1;obtain⟨go,z,y,xs,r,o,es,ep,g1,g2,g3,g4,g5⟩:=(show ObjOk X.prog X.w H1 s1.heap a (.frz ob (.dT kvs))from I1.hok a _ hH)
  rw[go]at g1;cases g1;refine qc1 y go g2 g3 ?_;refine#[s1[0],[s1[0]],_,_,H1,rfl,I1.kept (t':=s1.toks) λb o e=>gq _ e,qc2 g3,#[_,gM _ rfl,rfl,rfl],λb hb=>?_,hR]
  obtain rfl:b=s1[0]:=by simpa using hb
  exact I1.fpOk (gw _) (I1.hok.fresh (gw _))
 unfold iT at h;split at h
 .rename_i kds ei;obtain⟨v,e1,rp,a,ob,kvs,rfl,fa⟩:=S.val i _ ei;obtain⟨a',B,ea,rd,rt⟩:=rp;have ek:B=kvs:=by
   rcases rd with q|⟨_,q⟩
   .simp_all
   simp_all
  subst ek;refine#[a,ob,B,e1,S.s _ _ fa,?_];refine h F H _ (Gr.refl S.s) #[λj dd F2 H2 e l1 l2 _=>?_,λj F2 H2 hj l1 l2 _=>#[B,l2 _ _ (l1 _ _ fa),?_]]
  .rw[gG]at e;obtain⟨⟨k,d⟩,ek,rfl⟩:=cZ.mp e;obtain⟨v,ev⟩:=Kk rt ek;refine#[#[B,l2 _ _ (l1 _ _ fa),(gp.mp ev).1],λy H' hy=>?_]
   obtain⟨rfl,O,k2,v2,q,g1,g2,rfl,g3⟩:=hy;rw[l2 _ _ (l1 _ _ fa)]at g1;cases g1;rw[ev]at g2;cases g2;exact#[_,Gr.tup l2 g3,q,k.map kV,rfl,.inl (.inl qL),Ki k]
  rw[RepT.length rt];simpa using hj
 exact h.elim
section
variable{κ:Kx}{F0 H0 F H:Hp}{ρ:Rho}{σ:St}
def StOk.fix{i:Nat}(S:StOk κ F0 H0 F H ρ σ)(Z:ρ[i]?=!(!(.od (.dT kds)))):∃ a kvs,H a=↑(.dT kvs) /\
  ∀ ob,∃ F',Le F F'/\StOk κ F0 H0 F' (upd H a (.frz ob (.dT kvs))) (ρ.set i (!(.lk (.dT kds)))) σ:=by
 obtain⟨sh,a,bs,si,h0,hf,nd,⟨ha,U⟩,sp⟩:=S.dp i _ Z;have na:a∉bs:=(tF.mp nd).1;refine#[a,_,ha,λob=>?_]
 generalize hk:(kds.map Prod.fst).zip (bs.map V.ref)=kvs at ha;have B:∀{c},c∉a::bs->upd (fzIn F H bs) a (.frz ob (.dT kvs)) c=F c:=λ{c} n=>by
  rw[qr λe=>n (by rw[e];simp)]
  exact if_neg λm=>n (gj _ m)
 have O:∀{c},c∈bs->upd (fzIn F H bs) a (.frz ob (.dT kvs)) c=H c:=λ{c} m=>by
  rw[qr λe=>na (by rw[<- e];exact m)]
  exact if_pos m
 have fn:∀ c∈a::bs,F c=none/\H0 c=none:=λc m=>by
  rcases gy.mp m with rfl|m
  .exact#[hf,h0]
  obtain⟨_,e1,e2,_⟩:=Inn.at U m;exact#[e2,e1]
 have l:Le F (upd (fzIn F H bs) a (.frz ob (.dT kvs))):=λc u h=>by
  rw[B λm=>by rw[(fn c m).1]at h;cases h];exact h
 have rt:RepT κ (upd (fzIn F H bs) a (.frz ob (.dT kvs))) kvs kds:=by
  have:=Inn.repT (G:=upd (fzIn F H bs) a (.frz ob (.dT kvs))) U (λb m=>O m) l
  simp_all
 refine#[upd (fzIn F H bs) a (.frz ob (.dT kvs)),l,#[#[Le.trans S.gr.f l,λc u h=>?_,λc u h=>?_,λc h=>?_],by simpa using S.len,λj w e=>?_,λj k w w' c Y ej ek oj ok sj sk=>?_,λj y e=>?_]]
 .rw[qr (jH h h0)];exact S.gr.h c u h
 .by_cases e:c=a
  .subst e;rw[qL]at h ⊢;exact h
  rw[qr e];by_cases m:c∈bs
  .rw[O m]at h;exact h
  rw[B (by simp[e,m])]at h;exact S.s c u h
 .by_cases m:c∈a::bs
  .exact .inr (.inl (fn c m).2)
  rw[B m]at h;exact S.gr.n c h
 .rcases qC e with⟨rfl,z⟩|⟨ne,z⟩
  .cases z;exact#[_,si,#[a,kvs,rfl,.inr #[ob,qL],rt],a,ob,kvs,rfl,qL]
  obtain⟨v,e1,q⟩:=S.val j w z;refine#[v,e1,?_];have nb:∀{c},v=.ref c->w.own=true->c∉a::bs:=λ{c} ev ow m=>by
   subst ev;exact sp j w c ne z ow m e1
  cases w with
  | fz d=>exact Rep.le l d q
  | br d=>obtain⟨c,oc,ec,eh,cr⟩:=q;exact#[c,oc,ec,eh,OwnO.le l cr]
  | ow d=>obtain⟨c,oc,ec,c0,cf,ch,cr⟩:=q;exact#[c,oc,ec,c0,by rw[B (nb ec rfl)];exact cf,by rw[qr λe=>nb ec rfl (by rw[e];simp)];exact ch,OwnO.le l cr]
  | lk d=>exact#[Rep.le l d q.1,RawT.le l q.2]
  | od d=>exact(sh j d ne z).elim
 .rcases qC ej with⟨_,z⟩|⟨nj,ej⟩
  .cases z;cases oj
  rcases qC ek with⟨_,z⟩|⟨nk,ek⟩
  .cases z;cases ok
  exact S.sep j k w w' c Y ej ek oj ok sj sk
 rcases qC e with⟨_,z⟩|⟨ne,z⟩
 .cases z
 exact(sh j y ne z).elim
end
def fix(i:Nat)(ρ:Rho):Rho:=match ρ[i]? with
 | some (!(.od (.dT kds)))=>ρ.set i (!(.lk (.dT kds)))
 | _=>ρ
def uw(i:Nat)(s:SF):SF:=λρ=>s (fix i ρ)
def qc3{st:Stmt}(i)(h:SS X F0 H0 st f):SS X F0 H0 st (uw i f):=by
 intro pins s σ F H ρ D S I k;unfold uw L3.fix at k;split at k
 .rename_i kds e;obtain⟨a,kvs,ha,go⟩:=S.fix e;have ok:=(I.hok a _ ha);obtain⟨z,y,xs,r,o,es,ep,g1,g2⟩:=id ok;obtain⟨F',l,S'⟩:=go o;have I':"I" (upd H a (.frz o (.dT kvs))) s:=I.write (by rw[ha];exact True.intro) (.inl rfl) (λb u _ q=>q) #[o,g1]
   #[g1,ok.stay (λb u _ q=>q) (λb hb=>by
    have:b≠a:=λe=>by rw[e,ha]at hb;cases hb
    rw[qr this];exact hb) λb xs hb=>by
    have:b≠a:=λe=>by rw[e,ha]at hb;cases hb
    rw[qr this];exact hb]
  exact h pins s σ F' _ _ D S' I' (PostS.le l k)
 exact h pins s σ F H ρ D S I k
def ya:D->D->R En
 | .dT kvs,.tup ks=>(match jF ks with|some key=>okD (look key kvs)|none=>.stuck)
 | _,_=>.stuck
theorem Kl(k:List (Sum Int Str)):∀{kds} {kvs},RepT κ F kvs kds->(∃ z d,js kvs k=!z/\look k kds=!d/\Rep κ F z d)\/look k kds=none
 | [],_,h=>.inr rfl
 | (q,d)::r,_,h=>by
  obtain⟨v,kr,rfl,h1,h2⟩:=h;by_cases c:q=k
  .exact .inl #[v,d,xO c,by unfold look;rw[if_pos c],h1]
  have e2:look k ((q,d)::r)=look k r:=by
   show(if q=k then !d else look k r)=_
   rw[if_neg c]
  rw[(xP c),e2];exact Kl k h2
theorem Km:∀{ks} {vs} {key},Reps κ F vs ks->jF ks=!key->vs=key.map kV
 | [],vs,key,h,e=>by cases e;exact h
 | d::ks,vs,key,h,e=>by
  obtain⟨v,r,rfl,h1,h2⟩:=h;unfold jF at e;cases e1:zm d with
  | none=>rw[e1]at e;cases e
  | some k =>
   cases e2:jF ks with
   | none=>rw[e1,e2]at e;cases e
   | some key' =>
    rw[e1,e2]at e;cases e;rw[Km h2 e2];have:v=kV k:=by
     cases d with
     | int j=>cases e1;exact h1
     | str j=>cases e1;exact h1
     | _=>cases e1
    rw[this];rfl
section
variable{X:Cx}{F0 H0:Hp}{a b:Expr}{fa fb:EF}{pos:Pos}
def qc4(hu:X.A.units+10<cLine):IxD X ya:=by
 intro value B pins s σ F H x y v u dx dy Q I l rx ry qx qy w hs;cases dx<;>first|exact w.elim|skip
 cases dy<;>first|exact w.elim|skip
 rename_i ks;unfold ya at w;dsimp only at w;cases e:jF ks with
 | none=>rw[e]at w;exact w.elim
 | some key =>
  rw[e]at w;dsimp only at w;obtain⟨p,kvs,rfl,hq,rk⟩:=RdV.dT l qx;cases (rx);obtain⟨q,vs,rfl,O,_,rs⟩:=RdV.tup l qy;cases (ry);have ev:=Km rs e;subst ev;obtain⟨its,r2,⟨o,g1,g2,n,g3⟩,_⟩:=I.tuple O;obtain⟨z,hd,xs,U,dd⟩:=Ql I.hok hq;rcases Kl key rk with⟨z,d,a1,a2,rz⟩|a2
  .rw[a2]at w;obtain⟨w',hw,Y⟩:=RelO.some_of (by rw[<- a1];exact U.val key)
   obtain⟨pr,hp,Z⟩:=cZ.mp hw;refine tail_any dd.typeIs PySem.F.slot_dict_getitem.lookup (wpAny_getItem_heap (dP "") (#[o,its.toArray,n,g1,g2,g3,by simpa using Zb r2]) dd hp ?_) hs
   rw[Z];exact#[z,H,I.tok _,Y,jn l w rz]
  rw[a2]at w;exact w.elim
def qc5(z:X.A.units+10<cLine)(B:"S" a fa)(O:"S" b fb)(U:yv b:=by exact λ_ _=>rfl):"S" (.Subscript a b pos) (eOp ya fa fb):=Qp (qc4 z) B O U
end
open PySem.Builtin PySem.Builtin.Str
section
variable{X:Cx}{F0 H0:Hp}{tg:Expr}{pos:Pos}
def Kn(c:fits b62 j=true):-(2 ^ 62)<=j/\j<2 ^ 62:=by
 rw[fits_iff]at c;lia
def qc6(O:"S" a fa)(U:"S" b fb)(Y:X.mg "range"=none)(Z:(Gl X "range")["r"])(B:(starEach [a,b] X.env=[(false,eval a X.env),(false,eval b X.env)])["r"])(z:(starEach [b] X.env=[(false,eval b X.env)])["r"]) :
  SI X F0 H0 tg (.Call (.Name "range" np) [a,b] [] cp) (iR2 fa fb):=by
 refine#[_,Ti Z Y (zI (jh) (zI (jh) vM z) (by rw[B,z])) B z,λσ F H ρ R S h=>O.sem S ((KE.bind h).imp λw k v F1 H1 g1 q1=>U.sem (S.grow g1) ((KE.bind k).imp λw2 k v2 F2 H2 g2 q2=>?_))]
 have r:=RdV.gr g2 (Vok.rd q1);have r2:=Vok.rd q2
 revert k
 generalize w.d=d at r;generalize w2.d=d2 at r2;intro k;cases d<;>first|exact k.elim|skip
 cases d2<;>first|exact k.elim|skip
 rename_i i j;dsimp only at k;by_cases c':(fits b62 i&&fits b62 j)=true
 .rw[if_pos c']at k;have c:=Bool.and_eq_true_iff.mp c';obtain⟨a1,a2⟩:=Kn c.1;obtain⟨a3,a4⟩:=Kn c.2;cases RdV.int r;cases RdV.int r2;exact#[i,j,rfl,#[a1,a2,a3,a4],k F2 H2 _ (g1.trans g2) (Yk i (j-i).toNat)]
 rw[if_neg c']at k;exact k.elim
def qc7:V->List V->Hp->VK->Prop:=λx vs H Q=>∃ a b i r,x=.str a/\vs=[.str b]/\occurrences a b 0 a[1] 1=i::r/\Q i[6] H
def qc8:MtR X "str.index" qc7:=by
 intro pins s σ H x vs v us Q I rx rv h;obtain⟨a,b,i,r,rfl,rfl,ho,q⟩:=h;obtain⟨t,rfl⟩:=rx;obtain⟨u,rfl,ru⟩:=rv.one;obtain⟨t2,rfl⟩:=ru;exact call_gives PySem.F.slot_str_index (typeIs_str s a t) PySem.F.entry_str_index (PySem.F.args_str_index_2 _ _) (gives_str_index a b t t2 i r ho) (#[.int i,H,I.tok _,#[_,rfl],q])
def x4:D->D->R En
 | .str x,.str y=>(match occurrences x y 0 x[1] 1 with|i::_=>okI i|[]=>.stuck)
 | _,_=>.stuck
def Ko{apos cpos:Pos}(Z:"S" o fo)(he:"S" e f)
  (B:(attributeBase o "index" X.env (eval o X.env)=eval o X.env)["r"])
  (U:(((backTo cpos (starEach [e] X.env)).all (λx=>not x.1)&&(backToKw cpos (keywordEach [] X.env)).all (λx=>x.1.isSome)
   && decide ([e].length+([]:List Keyword)[1]+(if ([]:List Keyword).isEmpty then 0 else 1)<30))=true)["r"])
  (O:((apos.endLine==cpos.line)=true)["r"]) (Y:(starEach [e] X.env=(false,eval e X.env)::starEach [] X.env)["r"]) (z:((backTo cpos (starEach [] X.env)).any (·.1)=false)["r"]) :
  "S" (.Call (.Attribute o "index" apos) [e] [] cpos) (eOp x4 fo f):=by
 intro pins s σ F H ρ Q S I h;have P:=wT PySem.F.plainAttrs_str PySem.F.slot_str_index PySem.F.type_str_index qc8 (jh) (zI (jh) vM Y) B U O Y z;refine vz (P pins s σ H _ I (Z.sem S ((KE.bind h).imp λw0 k0 y0 F0' H0' g0 q0=>?_)))
 have r0:=Vok.rd q0
 revert k0
 generalize w0.d=d0 at r0;intro k0;cases d0<;>first|(cases fe:f ρ with|exc _=>rw[fe]at k0;exact k0.elim|stuck=>rw[fe]at k0;exact k0.elim|ok w=>rw[fe]at k0;exact(k0).elim)|skip
 rename_i x;cases RdV.str r0;refine#[rfl,he.sem (S.grow g0) ((KE.bind k0).imp λw k y F1 H1 g1 q1=>?_)]
 have r:=Vok.rd q1
 revert k
 generalize w.d=d at r;intro k;cases d<;>first|exact k.elim|skip
 rename_i y';unfold x4 at k;dsimp only at k;cases eo:occurrences x y' 0 x[1] 1 with
 | nil=>rw[eo]at k;exact k.elim
 | cons i r' =>
  rw[eo]at k;cases RdV.str r;exact#[x,y',i,r',rfl,rfl,eo,λu s' rv I'=>k i[6] u F1 H1 s' (g0.trans g1) rfl rv I']
end
def one(c:Nat):D:=.str #[(List.toArray [c])]
def okC:Option Nat->R En
 | some c=>.ok (one c)[8]
 | none=>.stuck
def wI:D->D->R En
 | .str x,.int i=>if x[1]<=sz then okC (ati x.cps.toList i)else .stuck
 | x,y=>qc x y
section
variable{X:Cx}{F0 H0:Hp}{a b:Expr}{fa fb:EF}{pos:Pos}
def qc9:IxD X wI:=by
 intro value B pins s σ F H x y v u dx dy Q I l rx ry qx qy w hs;by_cases c:∃ z i,dx=.str z/\dy=.int i
 .obtain⟨z,i,rfl,rfl⟩:=c;unfold wI at w;dsimp only at w;by_cases hz:z[1]<=sz
  .rw[if_pos hz]at w;cases e:ati z.cps.toList i with
   | none=>rw[e]at w;exact w.elim
   | some ch =>
    rw[e]at w;exact qae value B pins s σ H _ _ v u Q I rx ry #[z,i,ch,RdV.str qx,RdV.int qy,by rw[<- zY];exact hz,e,jn l w rfl] hs
  rw[if_neg hz]at w;exact w.elim
 refine Yc value B pins s σ F H x y v u dx dy Q I l rx ry qx qy ?_ hs;unfold wI at w
 simp_all
def V1(z:"S" a fa)(B:"S" b fb)(O:yv b:=by exact λ_ _=>rfl):"S" (.Subscript a b pos) (eOp wI fa fb):=Qp qc9 z B O
end
def x8(lo st:Int)(n:Nat):List D:=(List.range n).map λk:Nat=>D.int (lo+k*st)
def Itr3(lo st:Int)(n:Nat):It:=#[λi _=>i<n,λi H x H'=>H'=H/\x=.int (lo+i*st),λi _=>n<=i]
def qca{K:Frag}(it:Addr)(lo st:Int)(n:Nat):Turn P w K tg (Itr3 lo st n) [it] it (λi h=>IsRangeIter h it (lo+(i:Nat)*st) ((n:Int)-(i:Nat)) st)where
 mem:=by simp
 obj:=λi h z b hb=>by
  simp_all
 keep:=λi h h' z k=>k it "s" _ z
 item:=by
  intro X hP hw hK hc i pins s σ H E I hf z hg;obtain⟨f0,f1,f2,f3,f4,f5⟩:=hf it "s"
  refine(Walks.range (I.ok.hd hc) it lo st n).item i s _ _ hg z λv h' tk hv z' kk=>?_
  obtain⟨t,rfl⟩:=hv;have I1:"I" H {s with heap:=h',toks:=tk}:=I.turned (λb o hb e=>kk b o hb[""] e) f0 f1 f3 f4 f5
  exact#[_,rfl,yt z' rfl rfl "d" #[.int (lo+i*st),H,I1,#[t,rfl],#[rfl,rfl],z',λb hb=>(hf b hb).1]]
 done:=by
  intro X hP hw hK hc i pins s σ H E I hf z hg;obtain⟨f0,f1,f2,f3,f4,f5⟩:=hf it "s"
  exact wpAny_pyNext_range_end (I.ok.hd hc) z (by have:n<=i:=hg;lia) λh' eb=>#[rfl,I.turned (λb o hb e=>eb b o hb e) f0 f1 f3 f4 f5]
 self:=λ_ _ _ _ _ z h=>wpAny_pyIter_rangeiter z h
def vI:Int->List Int->Int
 | m,[]=>m
 | m,a::r=>vI (if a<m then a else m) r
theorem V2:∀ r m,vI m r∈m::r/\∀ a∈m::r,vI m r<=a
 | [],m=>#[by simp[vI],λa ha=>by simp at ha;subst ha;exact pI _]
 | b::r,m=>by
  unfold vI;obtain⟨h1,h2⟩:=V2 r (if b<m then b else m)
  have hm:=h2 _ t8
  grind
def wJ:List D->R En
 | [.lst ds]=>(match jJ ds with|some (i::r)=>okI (vI i r)|_=>.stuck)
 | _=>.stuck
def Kp(O:(X.calm=true)["r"]):zX X (.builtin "min") wJ:=by
 intro pins s σ F H xs us ds Q I l rx qx w;cases qx with
 | nil=>exact w.elim
 | cons q1 q2 =>
  rename_i d _ _;cases q2 with
  | cons _ _=>cases d<;>exact w.elim
  | nil =>
   cases d<;>first|exact w.elim|skip
   rename_i ds;unfold wJ at w;dsimp only at w;cases e:jJ ds with
   | none=>rw[e]at w;exact w.elim
   | some ns =>
    rw[e]at w;cases ns with
    | nil=>exact w.elim
    | cons i r =>
     obtain⟨p,vs,rfl,hq,rs⟩:=RdV.lst l q1;have ev:=yH e rs;subst ev;cases rx with
     | cons r1 r2 =>
      cases r2;cases r1;obtain⟨its,rv,pl,hz⟩:=I.list hq;have hi:=ku rv;obtain⟨ys,ey⟩:=hi.allInts.items;have z:(i::r)=ys[2].map (·.1):=by rw[<- hi.numsOf,<- nums_intItems,<- ey]
      have B:ys.size=r[1]+1:=by
       grind
      have hl:=pl.isList;rw[ey]at hl;refine min_intList (I.ok.hd O) hl "" λv h' tk hv hk=>?_
      obtain⟨t,rfl⟩:=intItems_at hv;obtain⟨b1,b2⟩:=argBest_lt (numAt ys) (ys.size-1);generalize argBest (λi j=>decide (numAt ys i<numAt ys j)) (ys.size-1)=k at b1 b2
      have m1:numAt ys k∈i::r:=by
       rw[z,numAt_eq];exact getD_mem (by rw[gg,pz];lia)
      have m2:∀ a∈i::r,numAt ys k<=a:=λa ha=>by
       rw[z]at ha;obtain⟨j,hj,rfl⟩:=mem_getD ha;rw[gg,pz]at hj;rw[<- numAt_eq];exact b2 j ""
      obtain⟨k1,k2⟩:=V2 r i;have em:=Int.le_antisymm (m2 _ k1) (k2 _ m1);rw[em];exact#[.int _,H,I.kept hk,#[_,rfl],jn l w rfl]
section
variable{X:Cx}{F0 H0:Hp}{pos:Pos}
end
section
open PySem PySem.Spec PyProof.Rows L2
variable{X:Cx}
def V3:List D->R En
 | [.int i,.int j,.int k]=>okI (if j>i then(if k>j then k else j)else(if k>i then k else i))
 | _=>.stuck
def qcb(z:X.calm=true):yu X (.builtin "max") (λxs H Q=>∃ i j k,xs=[.int i,.int j,.int k]/\Q (if j>i then(if k>j then k else j)else(if k>i then k else i))[6] H):=by
 intro pins s σ H xs us Q I r h;obtain⟨i,j,k,rfl,q⟩:=h;cases r with
 | cons r1 r=>cases r with
  | cons r2 r=>cases r with
   | cons r3 r=>cases r with
    | nil =>
     obtain⟨t,rfl⟩:=r1;obtain⟨t',rfl⟩:=r2;obtain⟨B,rfl⟩:=r3;refine max_three_ints (I.ok.hd z) λh' tk kk=>#[_,H,I.kept kk,?_,q]
     by_cases hj:j>i
     .rw[if_pos hj,if_pos hj];by_cases hk:k>j
      .rw[if_pos hk,if_pos hk];exact#[_,rfl]
      rw[if_neg hk,if_neg hk];exact#[_,rfl]
     rw[if_neg hj,if_neg hj];by_cases hk:k>i
     .rw[if_pos hk,if_pos hk];exact#[_,rfl]
     rw[if_neg hk,if_neg hk];exact#[_,rfl]
def qcc(B:(X.calm=true)["r"]):zX X (.builtin "max") V3:=kK (qcb B) λF H xs ds Q l qx w=>by
 cases qx with
 | nil=>exact w.elim
 | @cons x d xs ds q1 q2 =>
  cases q2 with
  | nil=>cases d<;>exact w.elim
  | @cons y e ys es q2 q3 =>
   cases q3 with
   | nil=>cases d<;>first|exact w.elim|(cases e<;>exact w.elim)
   | @cons z g zs gs q3 q4 =>
    cases q4 with
    | cons _ _=>cases d<;>first|exact w.elim|(cases e<;>first|exact w.elim|(cases g<;>exact w.elim))
    | nil =>
     cases d<;>first|exact w.elim|skip
     cases e<;>first|exact w.elim|skip
     cases g<;>first|exact w.elim|skip
     cases RdV.int q1;cases RdV.int q2;cases RdV.int q3;exact#[_,_,_,rfl,jn l w rfl]
end
def adO:En->R D
 | .ow (.lst xs)=>.ok (.lst xs)
 | _=>.stuck
abbrev V4(ad:En->R D)(mk:List D->D)(n:Nat)(it:IF)(gf:GF)(e:EF):EF:=u8 ad (λys=>.od (mk ys)) n it gf qI e
abbrev Kq:=V4 adO D.lst
structure Mem(κ:Kx)(H₂:Hp)(p:Addr)(ad:En->R D)(mk:List D->D) extends Mm κ H₂ p ad where
 fin:∀{F H vs as},H₂ p=none->F p=none->H p=!(.lst vs)->RL F H vs as->DV κ H₂ F H (.ref p) (mk as)
section
variable{κ:Kx}{H0 F H F' H':Hp}
theorem In2.len:∀{bs} {css} {ds},In2 κ H0 F H bs css ds->bs[1]=ds[1]
 | [],[],[],_=>rfl
 | [],_::_,_,h=>by cases h
 | [],[],_::_,h=>by cases h
 | _::_,[],_,h=>by cases h
 | _::_,_::_,[],h=>by cases h
 | b::bs,cs::css,e::es,h=>by rw[gJ,gJ,In2.len h.2]
end
def qcd(κ:Kx)(H₂:Hp)(p:Addr):Mem κ H₂ p adO D.lst where
 RL F H vs as:=∃ bs:List Addr,vs=bs.map V.ref/\(p::bs).Nodup/\Inn κ H₂ F H bs as
 nil F H:=#[[],rfl,by simp,trivial]
 len:=λ#[bs,e,_,i]=>by subst e;rw[gg];exact Inn.len i
 gr:=λg #[bs,e,nd,i]=>#[bs,e,nd,Inn.gr g i]
 step:=λ{F H F' H' vs as v w y} g _ l hp q e #[bs,ev,nd,i]=>by
  cases w<;>first|(cases e;done)|skip
  rename_i d;cases d<;>first|(cases e;done)|skip
  cases e;obtain⟨a,o,rfl,h0,hf,hh,r⟩:=q;cases o<;>first|exact r.elim|skip
  rename_i us;subst ev;have na:a∉p::bs:=λm=>by
   rcases gy.mp m with rfl|m
   .rw[hp]at h0;cases h0
   obtain⟨_,_,_,z⟩:=Inn.at i m;rw[z]at h0;cases h0
  have B:((p::bs)++[a]).Nodup:=fq.mpr #[nd,by simp,λx hx y hy e=>by
   obtain rfl:y=a:=by simpa using hy
   exact na (by rw[<- e];exact hx)]
  refine#[F',g,bs++[a],by simp,B,?_]
  refine Inn.same (G:=H) (G':=H) (H:=H') (λz hz=>(qr λe=>?_).symm) (λ_ _ q=>q) Le.refl (Inn.snoc (Le.none l h0) hf hh r (Inn.gr g i))
  subst e;exact(tF.mp B).1 hz
 fin:=λ{F H vs as} h0 hf hh #[bs,e,nd,i]=>by
  subst e;exact .inl #[as,rfl,p,bs,rfl,h0,hf,nd,hh,i]
section
variable{X:Cx}{F0 H0:Hp}{pos:Pos}{tg elt iter:Expr}{scope:Scope}{fi:IF}{gf:GF}{e:EF}{ad:En->R D}{mk:List D->D}
def DV.deep(h:DV κ H F' H' v d)(O:∀ xs,d≠.tup xs):∃ a bs,v=.ref a/\(∀ c∈a::bs,H c=none)/\F' a=none/\(a::bs).Nodup/\Deep κ H F' H' a bs d:=by
 rcases h with⟨ds,rfl,a,bs,e1,h0,hf,nd,hh,i⟩|⟨ds,rfl,a,bs,B,e1,h0,hf,nd,hh,i⟩|⟨ds,y,e,_⟩|⟨_,_,_,e,_⟩
 .refine#[a,bs,e1,λc m=>?_,hf,nd,hh,i]
  rcases gy.mp m with rfl|m
  .exact h0
  obtain⟨_,z,_⟩:=Inn.at i m;exact z
 .refine#[a,bs++B.flatten,e1,λc m=>?_,hf,nd,bs,B,rfl,hh,i]
  rcases gy.mp m with rfl|m
  .exact h0
  obtain⟨_,z,_⟩:=In2.at i m;exact z
 .exact(O _ e).elim
 exact(O _ e).elim
def Deep.older{H G F' H':Hp}{a:Addr}{bs:List Addr}{d:D}(l:∀ a,H a=none->G a=none)(h:Deep κ H F' H' a bs d):Deep κ G F' H' a bs d:=by
 cases d<;>first|exact(False.elim h)|exact#[h.1,Inn.older l h.2]|exact h|skip
 obtain⟨b1,z,e,h1,h2⟩:=h;exact#[b1,z,e,h1,In2.older l h2]
def StOk.setD{ρ:Rho}{σ:St}(S:StOk κ F0 H0 F H ρ σ)(g:Gr F H F' H'){i:Nat}(q:DV κ H F' H' v d)(nt:∀ xs,d≠.tup xs)(Z:shal i ρ) :
  StOk κ F0 H0 F' H' (ρ.set i (!(.od d))) (σ.set i !v):=by
 obtain⟨a,bs,rfl,hn,hf,nd,dp⟩:=DV.deep q nt;have S':=S.grow g;obtain⟨o,ho,no⟩:=Deep.top dp;have h0:∀ c∈a::bs,H0 c=none:=λc m=>Le.none S.gr.h (hn c m)
 have B:∀ k w b,k≠i->ρ[k]?=!(!w)->w.own=true->b∈a::bs->σ[k]?≠!(!(.ref b)):=λk w b hk ek ok m sk=>by
  obtain⟨u,z⟩:=S.ownAt ek ok sk
  grind
 refine#[S'.gr,by simp[S.len],λj w e=>?_,λj k w w' b Y ej ek oj ok sj sk=>?_,λj y e=>?_]
 .rcases qC e with⟨rfl,z⟩|⟨ne,z⟩
  .cases z;have hl:j<σ.length:=by
    rw[<- S.len];have:=(gp.mp e).1;simpa using this
   exact#[.ref a,List.getElem?_set_self hl,a,o,rfl,h0 a "s",hf,ho,no]
  obtain⟨u,e1,q⟩:=S'.val j w z;exact#[u,by rw[gW (tf ne)];exact e1,q]
 .have at_:∀{m},m≠i->(σ.set i (!(.ref a)))[m]?=!(!(.ref b))->σ[m]?=!(!(.ref b)):=λ{m} hm h=>by
   rw[gW (tf hm)]at h;exact h
  rcases qC ej with⟨e1,z⟩|⟨nj,U⟩
  .rcases qC ek with⟨e2,_⟩|⟨nk,O⟩
   .simp_all
   subst e1;have hl:j<σ.length:=by have:=(gp.mp sj).1;simpa using this
   rw[List.getElem?_set_self hl]at sj;cases sj;exact B k w' a nk O ok "s" (at_ nk sk)
  rcases qC ek with⟨e2,z⟩|⟨nk,O⟩
  .subst e2;have hl:k<σ.length:=by have:=(gp.mp sk).1;simpa using this
   rw[List.getElem?_set_self hl]at sk;cases sk;exact B j w a nj U oj "s" (at_ nj sj)
  exact S.sep j k w w' b Y U O oj ok (at_ nj sj) (at_ nk sk)
 rcases qC e with⟨rfl,z⟩|⟨nj,ej⟩
 .cases z;have hl:j<σ.length:=by
   rw[<- S.len];have:=(gp.mp e).1;simpa using this
  refine#[λk z hk ek=>?_,a,bs,List.getElem?_set_self hl,h0 a "s",hf,nd,Deep.older (λc z=>Le.none S.gr.h z) dp,λk w b hk ek ok m sk=>?_]
  .rcases qC ek with⟨rfl,_⟩|⟨_,q⟩
   .exact hk rfl
   exact Z k z hk q
  rcases qC ek with⟨rfl,_⟩|⟨nk,q⟩
  .exact hk rfl
  rw[gW (tf nk)]at sk;exact B k w b hk q ok m sk
 exact(Z j y nj ej).elim
def uz(i:Nat)(ρ:Rho):En->Out
 | .od (.tup _)=>.stuck
 | .od d=>if vH i ρ=true then .nx (ρ.set i (!(.od d)))else .stuck
 | _=>.stuck
def uA(i:Nat)(e:EF):SF:=λρ=>sOf (e ρ) (uz i ρ)
def qce{i:Nat}{ρ:Rho}{P:Out->Prop}(B:P .stuck->False)(h:P (uz i ρ w)):∃ d,w=.od d/\(∀ xs,d≠.tup xs)/\vH i ρ=true/\P (.nx (ρ.set i (!(.od d)))):=by
 unfold uz at h;split at h
 .exact(B h).elim
 .rename_i d nt;by_cases c:vH i ρ=true
  .rw[if_pos c]at h;exact#[d,rfl,λxs z=>nt xs (by rw[z]),c,h]
  simp_all
 exact(B h).elim
def qcf(i){x:Str}{pos' B:Pos}{n:Nat}(N)(M:∀ H₂ p,Mem (kx X) H₂ p ad mk)(hN:X.N.Nodup)(hi:SIc X F0 H0 tg iter fi)(hno:yG gf)
  (hg:∀ s₂ F₂ H₂ C fp,SG (cxD X scope N s₂ H₂ C fp) F₂ H₂ tg gf)(he:∀ s₂ F₂ H₂ C fp,SE (cxD X scope N s₂ H₂ C fp) F₂ H₂ elt e)
  (hix:(X.N[i]?=!x)["r"])(hx:(Loc X.env.scope x)["t"])(hsw:(swapsWith (.ListComp elt [#[tg,iter,[],0]] scope pos) (!(.Name x pos')) B.line X.env=pure true)["r"])
  (hf:(X.fn x=true\/X.env.scope.names.lookup x=some .local)["t"])
  (hc:(X.calm=true)["r"])(Y:(scope.kind=.function)["r"])(Z:(vv X.env scope.names=true)["r"])(O:(wC (relabel scope X.env).names X.N N=true)["r"])(h3:(N[1]=X.N.length+n)["r"])
  (U:∀ x∈scope.names,x.2=.local->scope.names.lookup x.1=some .local:=by decide +kernel)(hs:∀ x,foldedSetIterable iter X.env x=pure x:=by intro _;rfl) :
  SS X F0 H0 (.Assign [.Name x pos'] (.ListComp elt [#[tg,iter,[],0]] scope pos) B) (uA i (V4 ad mk n fi gf e)):=by
 intro pins s σ F H ρ D S I h;rw[exec_Assign_Name_used _ _ _ _ hsw];refine g6 (bZ (g6 ?_));refine g6 (cB (Zx (fn:=λys=>.od (mk ys)) N (λa b=>(M a b).toMm) (λl h0 nf hv rs=>DV.older l ((M _ _).fin h0 nf hv rs)) hi hno hg (λ_ _ _ _ _=>.nil) he hc Y Z O h3 U hs S I ((PostS.of h).imp λw k p C F1 H1 s1 m g q I1 hn turn hC hL hcl=>?_)) (λ_ s' hq=>gu (gu hq)) λ_ _ e=>e)
 obtain⟨d,rfl,nt,c,k2⟩:=qce (P:=PostS X F0 H0 F D) (λz=>z) k
 refine bT (Z3 I1 hN hix hx (v:=.ref p) rfl (λs2 I2 hch=>?_) hf)
 obtain⟨a,sb,ha⟩:=hch;have aC:C≠a:=by
  rcases ha with z|z
  .rw[z];exact hL
  exact λq=>hcl x a z q.symm
 refine#[m,hn.sameBut sb aC,λh' sb2=>#[_,H1,turn s2 H1 h' _ I2 hC λb o hb e=>(sb2.2 b hb).trans e,k2 _ F1 H1 g.f (S.setD g q nt (K8 c))]]
end
def but(H:Hp)(a:Addr):Hp:=λc=>if c=a then none else H c
def uB:but H a a=none:=if_pos rfl
def yQ(h:c≠a):but H a c=H c:=if_neg h
def Kr:Le (but H a) H:=λc u h=>by
 by_cases e:c=a
 .subst e;rw[uB]at h;cases h
 rw[yQ e]at h;exact h
section
variable{P:af}{w:World}{K:Frag}{mg:Str->Option aa}{base:Heap}
end
def StOk.forget{ρ:Rho}{i:Nat}(S:StOk κ F0 H0 F H ρ σ)(B:ρ[i]?=!(!d[9]))(O:σ[i]?=!(!(.ref a))):StOk κ F0 H0 F (but H a) (ρ.set i none) σ:=by
 obtain⟨v,e1,b,o,rfl,h0,hf,hh,ro⟩:=S.val i _ B;rw[O]at e1;cases e1;refine#[#[S.gr.f,λc u h=>?_,λc u h=>?_,S.gr.n],by simpa using S.len,λj w e=>?_,λj k w w' c U ej ek oj ok sj sk=>?_,λj y e=>?_]
 .rw[yQ (jH h h0)];exact S.gr.h c u h
 .rw[yQ (jH h hf)];exact S.gr.s c u h
 .rcases qC e with⟨_,z⟩|⟨ne,z⟩
  .lia
  obtain⟨v,e1,q⟩:=S.val j w z;refine#[v,e1,?_];have nb:∀{c},v=.ref c->w.own=true->c≠a:=λ{c} ev ow ec=>by
   subst ev ec;exact S.sep j i w _ c ne z B ow rfl e1 O
  cases w with
  | fz d=>exact q
  | br d=>exact q
  | ow d=>obtain⟨c,oc,ec,c0,cf,ch,cr⟩:=q;exact#[c,oc,ec,c0,cf,(yQ (nb ec rfl)).trans ch,cr]
  | lk d=>exact q
  | od d=>obtain⟨c,oc,ec,c0,cf,ch,nt⟩:=q;exact#[c,oc,ec,c0,cf,(yQ (nb ec rfl)).trans ch,nt]
 .rcases qC ej with⟨_,z⟩|⟨nj,ej⟩
  .lia
  rcases qC ek with⟨_,z⟩|⟨nk,ek⟩
  .lia
  exact S.sep j k w w' c U ej ek oj ok sj sk
 rcases qC e with⟨_,z⟩|⟨nj,ej⟩
 .cases z
 obtain⟨s1,c,bs,e1,c0,cf,nd,dp,sp⟩:=S.dp j y ej;have nb:∀ x∈c::bs,x≠a:=λx m z=>by subst z;exact sp i _ _ (tf nj) B rfl m O
 refine#[λk z hk ek=>?_,c,bs,e1,c0,cf,nd,Deep.same (λx m=>(yQ (nb x m)).symm) (λx m z=>z) Le.refl dp,λk w x hk ek ok m=>?_]
 .rcases qC ek with⟨_,q⟩|⟨_,q⟩
  .lia
  exact s1 k z hk q
 rcases qC ek with⟨_,q⟩|⟨_,q⟩
 .lia
 exact sp k w x hk q ok m
section
variable{X:Cx}{F0 H0:Hp}{pos:Pos}
variable{κ:Kx}{F H:Hp}
end
def Itv(K:Frag)(a:Addr)(n:Nat):It :=
 #[λi H=>∃ xs x,SqL K H a xs/\xs[1]=n/\i<n/\xs[n-1-i]?=!x,λi H x H'=>H'=H/\∀ xs,SqL K H a xs->xs[n-1-i]?=!x,λi H=>n<=i]
def qcg{K:Frag}(a it:Addr)(n:Nat):Turn P w K tg (Itv K a n) [it] it (λi h=>i<=n/\h.IsRevIter it a ((n:Int)-1-(i:Int)))where
 mem:=by simp
 obj:=λi h #[_,st] b hb=>by
  have e:b=it:=by simpa using hb
  subst e;obtain⟨o,e,c,d⟩:=st;exact#[o,e,λv z=>by rw[d]at z;cases z]
 keep:=λi h h' #[l,st] k=>#[l,st.at λo e=>k it "s" o e]
 item:=by
  intro X hP hw hK hc i pins s σ H E I hf ⟨le,st⟩ hg;subst hP hw hK;obtain⟨xs,x,hq,hn,hi,hx⟩:=hg;obtain⟨its,rv,p,hz⟩:=I.list hq;obtain⟨u,hu,ru⟩:=rv.get hx;obtain⟨f0,f1,f2,f3,f4,f5⟩:=hf it "s"
  have e1:n-1-i=((n-1-i:Nat):Int):=""
  rw[e1]at st;refine wpAny_pyNext_rev_item st p.isList (x:=u) hu[""] λh' B sb=>?_
  have I1:"I" H {s with heap:=h'}:=I.turned (t':=s.toks) (λb o hb e=>(sb.2 b hb).trans e) f0 f1 f3 f4 f5
  have e2:(n-1-i:Nat)-1=n-1-((i+1):Int):=""
  rw[e2]at B;obtain⟨o,e,c,d⟩:=id B;exact#[u,rfl,yt (s:={s with heap:=h'}) e c d "d" #[x,H,I1,ru,#[rfl,λys hy=>by rw[I.list_inj hy hq];exact hx],#[hi,B],λb hb=>(hf b hb).1]]
 done:=by
  intro X hP hw hK hc i pins s σ H E I hf ⟨le,st⟩ hg;subst hP hw hK;obtain⟨f0,f1,f2,f3,f4,f5⟩:=hf it "s"
  have hg:n<=i:=hg;have e1:n-1-(i:Int)=-1:=""
  rw[e1]at st;exact wpAny_pyNext_rev_end (I.ok.hd hc) st λh' eb=>#[rfl,I.turned (t':=s.toks) (λb o hb e=>eb b o hb e) f0 f1 f3 f4 f5]
 self:=λ_ _ _ _ _ #[_,st] h=>bx st h
theorem Ks{κ:Kx}{vs:List V}{ds:List D}(B:∀ F H,Le F1 F->Le F H->Le G H->SqL κ.K H a vs)(rs:Reps κ F1 vs ds):Walk κ (Itv κ.K a vs[1]) F1 G ds.reverse where
 go:=λi x F H ed l1 l lg=>by
  have ll:=Reps.length rs;have hi:i<ds[1]:=by have:=(gp.mp ed).1;simpa using this
  rw[List.getElem?_reverse hi]at ed;obtain⟨v,ev,rv⟩:=Reps.get rs ed;have q:=B F H l1 l lg;rw[<- ll]at ev;refine#[#[vs,v,q,rfl,"",ev],λy H' z=>?_]
  obtain⟨rfl,w⟩:=z;have:=w vs q;rw[ev]at this;cases this;exact#[F,Gr.refl l,Rep.le l1 x rv]
 stop:=λi F H hi l1 l lg=>by
  show vs[1]<=i;rw[Reps.length rs];simpa using hi
def J5(i:Nat):IF:=λρ=>match ρ[i]? with
 | some (!(.lst ds)[8])=>.ok ds.reverse
 | some (!(.br (.lst ds)))=>.ok ds.reverse
 | _=>.stuck
section
variable{X:Cx}{F0 H0:Hp}{tg:Expr}{pos:Pos}
def qch(i)(O:X.mg "reversed"=none)(U:(Nm X i x)["t"])(Y:(Gl X "reversed")["r"])(Z:(starEach [.Name x pos] X.env=[(false,eval (.Name x pos) X.env)])["r"]) :
  SI X F0 H0 tg (.Call (.Name "reversed" np) [.Name x pos] [] cp) (J5 i):=by
 refine#[λσ H R=>∃ a xs,σ[i]?=!(!(.ref a))/\SqL X.K H a xs/\R (Itv X.K a xs[1]) H,λpins s σ H R I #[p,xs,hσ,hq,hR]=>?_,λσ F H ρ R S h=>?_]
 .refine Call_ (zH I Y O boot_reversed (tw ?_ Z rfl));refine hZ (thn (pvN U pins s σ H (λv' H'=>v'=.ref p/\H'=H) I #[_,hσ,rfl,rfl]) λu s1 #[v1,H1,I1,r1,e1,e2]=>?_)
  subst e1 e2;obtain rfl:u=Value.ref p:=r1;refine tL ?_;obtain⟨its,rv,pl,hz⟩:=I1.list hq;have z:=rv[1];refine call_reversed_list pl.isList ?_;have B:(s1.heap.push (revObj p ((its.toArray.size)-1))).IsRevIter s1[0] p ((xs[1])-1-0):=by
   refine#[_,gM _ rfl,rfl,?_];rw[z];simp[revObj]
  refine bx (s:={s1 with heap:=s1.heap.push (revObj p ((its.toArray.size)-1))}) B ?_;refine#[_,_,_,_,H1,rfl,I1.kept (t':=s1.toks) λb o e=>gq _ e,qcg p s1[0] xs[1],#[tJ _,B],λb hb=>?_,hR]
  obtain rfl:b=s1[0]:=by simpa using hb
  exact I1.fpOk (gw _) (I1.hok.fresh (gw _))
 unfold J5 at h;cases ew:ρ[i]? with
 | none=>rw[ew]at h;exact h.elim
 | some w =>
  rw[ew]at h;cases w with
  | none=>cases h
  | some w =>
   obtain⟨v,e1,q⟩:=S.val i w ew;cases w with
   | ow d=>cases h
   | lk d=>cases h
   | od d=>cases h
   | fz d =>
    cases d<;>first|exact h.elim|skip
    obtain⟨a,vs,rfl,hq,rs⟩:=q;exact#[a,vs,e1,SqL.le S.s hq,h F H _ (Gr.refl S.s) (Ks (κ:=kx X) (λF' H' l1 l _=>SqL.le l (SqL.le l1 hq)) rs)]
   | br d =>
    obtain⟨a,o,rfl,eh,ro⟩:=q;cases d<;>first|exact h.elim|skip
    cases o<;>first|exact ro.elim|skip
    exact#[a,_,e1,SqL.of (S.gr.h _ _ eh),h F H _ (Gr.refl S.s) (Ks (κ:=kx X) (λF' H' _ _ lg=>SqL.le lg (SqL.of eh)) ro)]
end
inductive EntS(w:World)(K:Frag):List DictEntry->List (Sum Int Str×D)->Prop
 | nil:EntS w K [] []
 | cons {e:DictEntry} {es:List DictEntry} {x:Str} {t:Tok} {d:D} {r:List (Sum Int Str×D)}:e.key=.str x t->e.hash=hashStr w x->vE K 8 e.val=!d->EntS w K es r->EntS w K (e::es) ((.inr x,d)::r)
def DatS(w:World)(K:Frag)(a:Addr)(l:List (Sum Int Str×D)):Prop:=∃ o es ep,K.lookup a=!o/\o.data=.dict es ep/\(o.cls==Value.type "dict"&&o.dict==none&&o.slots.size==0&&not (a==sysModules))=true/\(l.map (·.1)).Nodup/\EntS w K es[2] l
def qci{l:List (Sum Int Str×D)}(h:EntS κ.w κ.K es l) :
  ∃ kvs vs,KV kvs vs/\Pairs (je κ.P κ.w) es vs/\vs.map (·.1)=l.map (·.1)/\(∀ e∈es,∃ k,(je κ.P κ.w).is k e.key=true/\e.hash=(je κ.P κ.w).hash k)/\∀ F,RepK κ F kvs l:=by
 induction h with
 | nil=>exact#[[],[],.nil,.nil,rfl,λe he=>(nomatch he),λ_=>rfl]
 | @cons e es x t d r ek eh ed _ ih =>
  obtain⟨kvs,vs,r1,r2,r3,r4,r5⟩:=ih;obtain⟨v,rv,qv⟩:=Yn 8 e.val d ed;have hk:(je κ.P κ.w).is (Sum.inr x) e.key=true:=by rw[ek];exact WG _ _ x t
  refine#[(Sum.inr x,v)::kvs,(Sum.inr x,e.val)::vs,.cons #[rfl,rv] r1,.cons hk rfl r2,by simp[r3],λe' he=>?_,λF=>#[v,kvs,rfl,qv F,r5 F]]
  rcases gy.mp he with z|he
  .subst z;exact#[Sum.inr x,hk,eh]
  exact r4 e' he
def qcj(h:DatS κ.w κ.K a l):∃ x,RelV x (.ref a)/\∀ F,Rep κ F x (.dK l):=by
 obtain⟨o,es,ep,lk,ed,c,nd,en⟩:=h;simp only[gZ]at c;obtain⟨⟨⟨c1,c2⟩,c3⟩,c4⟩:=c;obtain⟨kvs,vs,r1,r2,r3,r4,r5⟩:=qci en;have z:o.slots=#[]:=by
  simp_all
 exact#[.ref a,rfl,λF=>#[a,kvs,rfl,.inr #[by simpa using c4,o,es,ep,vs,lk,#[by simpa using c1,by simpa using c2,z],ed,λe he=>r4 e he[""],r2,by rw[r3];exact nd,r1],r5 F]]
theorem V5:∀{xs} {ns} {i:Nat} {v},IntsAre xs ns->xs[i]?=!v->∃ a t,v=.int a t/\ns[i]?=!a
 | _,_,i,v,.nil,h=>by simp at h
 | _,_,0,v,.cons a t _,h=>by simp at h;exact#[a,t,h.symm,rfl]
 | _,_,i+1,v,.cons a t r,h=>by
  obtain⟨b,u,e1,e2⟩:=V5 r h[""]
  exact#[b,u,e1,by simpa using e2]
section
open PySem.SeqAt PySem.MeetsSeq PySem.MeetsSeq2 PySem.MeetsSeq3
open PySem.AutoSeq1 (wpAny_loadPart')
end
section
variable{X:Cx}
end
def qck(K:Frag):V->List V->Hp->VK->Prop:=λx vs H Q=>∃(p:Addr) (ns:List Int) (v:Int) (j:Nat),x=.ref p/\SqL K H p (ns.map V.int)/\vs=[.int v]/\ns.findIdx? (λn:Int=>n==v)=!j/\Q (j:Int)[6] H
def isV(v:Int):aa->Bool
 | .int a _=>a==v
 | _=>false
section
variable{X:Cx}
def qcl:MtR X "list.index" (qck X.K):=by
 intro pins s σ H x vs v us Q I rx rv h;obtain⟨p,ns,n0,j,rfl,hq,rfl,hj,q⟩:=h;cases rx;obtain⟨u,rfl,ru⟩:=rv.one;obtain⟨t2,rfl⟩:=ru;obtain⟨its,r1,p1,hz⟩:=I.list hq;have ia:IntsAre its ns:=ku r1;have il:=ia[1];obtain⟨⟨cls,dd,data,sl⟩,n,ho,hc,Y,hd⟩:=id p1;subst hc hd;obtain⟨jl,jt,jf⟩:=List.findIdx?_eq_some_iff_getElem.mp hj;have U:its.toArray.size=ns[1]:=by simp;lia
 have at_:∀ m hm (z:m<ns[1]),isV n0 its.toArray[m]=(ns[m]==n0):=λm hm z=>by
  obtain⟨a,t,e1,e2⟩:=V5 ia (gE hm[""])
  have e3:its.toArray[m]=.int a t:=by simpa using e1
  have e4:ns[m]=a:=by rw[gE z]at e2;exact tP e2
  rw[e3,e4];rfl
 refine bm (prog:=X.prog) (w:=X.w) PySem.F.slot_list_index #[_,ho,rfl] PySem.F.entry_list_index (PySem.F.args_list_index_2 _ _) (PySem.SeqAt.list_indexAt p its.toArray n dd sl (.int n0 t2) (isV n0) j "" (by rw[pG]at hz;simp at hz;lia) (by rw[at_ j "" jl];exact jt) (λm hm B=>by
  rw[at_ m hm ""]
  have:=jf m B;simpa using this) X.prog X.w) #[ho,λy hy=>?_,?_]
 .obtain⟨i,hi,O⟩:=Array.mem_iff_getElem.mp hy;obtain⟨a,t,e1,e2⟩:=V5 (i:=i) ia (gE hi[""])
  have e3:its.toArray[i]=.int a t:=by simpa using e1
  rw[<- O,e3];exact PySem.SeqAt.EqAt.int_int a t n0 t2
 exact#[.int j,H,I.tok _,#[_,rfl],q]
end
def uC:D->D->R En
 | .lst xs,.int v=>(match jJ xs with
  | some ns=>(match ns.findIdx? (λn:Int=>n==v)with|some j=>okI (j:Int)|none=>.stuck)
  | none=>.stuck)
 | _,_=>.stuck
section
variable{X:Cx}{F0 H0:Hp}
def qcm{apos cpos:Pos}(Z:"S" o fo)(he:"S" e f)
  (B:(attributeBase o "index" X.env (eval o X.env)=eval o X.env)["r"])
  (U:(((backTo cpos (starEach [e] X.env)).all (λx=>not x.1)&&(backToKw cpos (keywordEach [] X.env)).all (λx=>x.1.isSome)
   && decide ([e].length+([]:List Keyword)[1]+(if ([]:List Keyword).isEmpty then 0 else 1)<30))=true)["r"])
  (O:((apos.endLine==cpos.line)=true)["r"]) (Y:(starEach [e] X.env=(false,eval e X.env)::starEach [] X.env)["r"]) (z:((backTo cpos (starEach [] X.env)).any (·.1)=false)["r"]) :
  "S" (.Call (.Attribute o "index" apos) [e] [] cpos) (eOp uC fo f):=by
 intro pins s σ F H ρ Q S I h;have P:=wT p7 PySem.F.slot_list_index PySem.F.type_list_index qcl (jh (e:=o)) (zI (jh (e:=e)) vM Y) B U O Y z;refine vz (pins:=pins) (σ:=σ) (P pins s σ H _ I (Z.sem S ((KE.bind h).imp λw0 k0 y0 F0' H0' g0 q0=>?_)))
 have r0:=Vok.rd q0
 revert k0
 generalize w0.d=d0 at r0;intro k0;cases d0<;>first|(cases fe:f ρ with|exc _=>rw[fe]at k0;exact k0.elim|stuck=>rw[fe]at k0;exact k0.elim|ok w=>rw[fe]at k0;exact(show False from k0).elim)|skip
 rename_i xs;obtain⟨p,vs,rfl,hq,rs⟩:=RdV.lst g0.s r0;refine#[.inl #[rfl,vs,hq],he.sem (S.grow g0) ((KE.bind k0).imp λw k y F1 H1 g1 q1=>?_)]
 have r:=Vok.rd q1
 revert k
 generalize w.d=d at r;intro k;cases d<;>first|exact k.elim|skip
 rename_i v;unfold uC at k;dsimp only at k;cases ei:jJ xs with
 | none=>rw[ei]at k;exact k.elim
 | some ns =>
  rw[ei]at k;dsimp only at k;have ev:=yH ei rs;subst ev;cases ej:ns.findIdx? (λn=>n==v)with
  | none=>rw[ej]at k;exact k.elim
  | some j =>
   rw[ej]at k;cases RdV.int r;exact#[p,ns,v,j,rfl,SqL.le g1.h hq,rfl,ej,λu s' rv I'=>k j[6] u F1 H1 s' (g0.trans g1) rfl rv I']
end
open PySem L2
def zO{α:Type}(n:Nat)(xs:List α):List α:=(List.replicate n xs).flatten
theorem V6(xs:List α):∀ n,(zO n xs)[1]=xs[1]*n
 | 0=>by simp[zO]
 | n+1=>by
  have:=V6 xs n;unfold zO at this ⊢;rw[dC,tS,gD,this,Nat.mul_succ];lia
theorem Reps.rep(h:Reps κ F vs ds):∀ n,Reps κ F (zO n vs) (zO n ds)
 | 0=>rfl
 | n+1=>by
  have:=Reps.rep h n;exact Reps.append h this
theorem Vals.rep(h:Vals vs us):∀ n,Vals (zO n vs) (zO n us)
 | 0=>.nil
 | n+1=>by
  have:=Vals.rep h n;exact Vals.append h this
def x9:D->D->R En
 | .int i,.lst xs=>if i<1048576/\-1048576<=i/\xs[1]*i.toNat<=sz then .ok (.lst (zO i.toNat xs))[9]else .stuck
 | .lst xs,.int i=>if i<1048576/\-1048576<=i/\xs[1]*i.toNat<=sz then .ok (.lst (zO i.toNat xs))[9]else .stuck
 | x,y=>jN x y
section
variable{X:Cx}
def qcn:OpD X (binaryOp .Mult) x9:=by
 intro pins s σ F H x y v u dx dy Q I l rx ry qx qy w;cases dx<;>first|exact w.elim|skip
 .rename_i i;cases dy<;>first|exact w.elim|skip
  .exact vC pins s σ F H x y v u _ _ Q I l rx ry qx qy w
  rename_i xs;unfold x9 at w;dsimp only at w;split at w
  .rename_i c;obtain⟨b,us,rfl,hq,rs⟩:=RdV.lst l qy;cases RdV.int qx;obtain⟨t1,rfl⟩:=rx;cases (show u=Value.ref b from ry)
   obtain⟨its,rv,pl,hz⟩:=I.list hq;obtain⟨⟨cls,dd,data,sl⟩,ho,hc,n,hd⟩:=pl.isList;simp only at hc hd;subst hc hd;have hl:its.toArray.size*i.toNat<=sizeLine:=by
    rw[gP,<- rv[1],Reps.length rs,<- zY];exact c.2.2
   have z:its.toArray.size*i.toNat<=16777216:=hl;have B:((2 ^ 63-1)/8)=1152921504606846975:=by decide
   refine lm_binaryOp_repeat_right (T:="list") (U:="int") "d" (λs'=>bz s' i t1) #[_,ho,rfl] PySem.F.fills_int_mul noFill_list_mul PySem.F.slot_int_mul lm_noRepeat_int repeat_list PySem.F.slot_int_index.lookup (bV PySem.F.slot_int_mul (bz s i t1) PySem.F.entry_int_mul (PySem.F.args_int_mul_2 _ _) (lm_int_mul_list_any i t1 b its.toArray n dd sl) #[ho,rfl,#[_,ho,rfl],bV PySem.F.slot_list_mul #[_,ho,rfl] PySem.F.entry_list_mul (PySem.F.args_list_mul_2 _ _) (lm_list_mul_any b its.toArray n dd sl i t1 (by simp[Builtin.List.listFitsIndex];lia) (by rw[B];lia) (by simp[Builtin.List.listTooLong,sizeLine];simpa using z)) #[ho,?_]])
   rw[listMul_foldl_if];have hp:H s[0]=none:=I.hok.fresh (gw _);refine#[.ref s[0],upd H s[0] (.lst (zO i.toNat us)),I.laid (t':=s.toks) (λb o q=>gq _ q) (gw _) #[?_,zO i.toNat its,0,Vals.rep rv _,gM _ rfl],rfl,?_]
   .rw[V6,rv[1]];simpa using hl
   exact w _ _ _ (Gr.new l hp) #[_,_,rfl,hp,Le.none l hp,qL,Reps.rep rs _]
  exact w.elim
 rename_i xs;cases dy<;>first|exact w.elim|skip
 rename_i i;unfold x9 at w;dsimp only at w;split at w
 .rename_i c;obtain⟨b,us,rfl,hq,rs⟩:=RdV.lst l qx;cases RdV.int qy;obtain⟨t1,rfl⟩:=ry;cases (show v=Value.ref b from rx)
  obtain⟨its,rv,pl,hz⟩:=I.list hq;obtain⟨⟨cls,dd,data,sl⟩,ho,hc,n,hd⟩:=pl.isList;simp only at hc hd;subst hc hd;have hl:its.toArray.size*i.toNat<=sizeLine:=by
   rw[gP,<- rv[1],Reps.length rs,<- zY];exact c.2.2
  have z:its.toArray.size*i.toNat<=16777216:=hl;have B:((2 ^ 63-1)/8)=1152921504606846975:=by decide
  refine wpAny_binaryOp_repeat_ref (T:="list") (U:="int") "d" #[_,ho,rfl] (λs'=>bz s' i t1) noFill_list_mul PySem.F.fills_int_mul PySem.F.slot_int_rmul repeat_list PySem.F.slot_int_index.lookup (bV PySem.F.slot_int_rmul (bz s i t1) PySem.F.entry_int_rmul (PySem.F.args_int_rmul_2 _ _) (lm_int_rmul_list_any i t1 b its.toArray n dd sl) #[ho,rfl,#[_,ho,rfl],bV PySem.F.slot_list_mul #[_,ho,rfl] PySem.F.entry_list_mul (PySem.F.args_list_mul_2 _ _) (lm_list_mul_any b its.toArray n dd sl i t1 (by simp[Builtin.List.listFitsIndex];lia) (by rw[B];lia) (by simp[Builtin.List.listTooLong,sizeLine];simpa using z)) #[ho,?_]])
  rw[listMul_foldl_if];have hp:H s[0]=none:=I.hok.fresh (gw _);refine#[.ref s[0],upd H s[0] (.lst (zO i.toNat us)),I.laid (t':=s.toks) (λb o q=>gq _ q) (gw _) #[?_,zO i.toNat its,0,Vals.rep rv _,gM _ rfl],rfl,?_]
  .rw[V6,rv[1]];simpa using hl
  exact w _ _ _ (Gr.new l hp) #[_,_,rfl,hp,Le.none l hp,qL,Reps.rep rs _]
 exact w.elim
end
def yb:List Int->List (List Int)->List Int
 | m,[]=>m
 | m,q::r=>yb (if HT.lexLt q m=true then q else m) r
section
variable{prog:af}{w:World}{A:ag}{R:Result->ab->Prop}{I l S:Addr}{us:List aa}{rk:aa->List Int}{h0:Heap}{M:List Int}
def yc(h0 h:Heap):Prop:=∀ b o,h0.get? b=!o->h.get? b=!o
def qco{s0:ab}(hh:A.handled=none)(ne:l≠I)(nS:S≠I)(nl:S≠l)(hI:h0.get? I=none)(hS0:h0.get? S=none)
  (cmp:∀ u∈us,∀ v∈us,∀ s Q E,yc h0 s.heap->Q (.bool (HT.lexLt (rk u) (rk v))) s->wpAny (model prog w) A.in1 (richCompare .Lt u v) Q E s)
  (fin:∀ v h' tk,v∈us->rk v=M->yc h0 h'->R (.ok (.ret v)) {s0 with heap:=h',toks:=tk}) :
  ∀ k j h t vb c,us[1]-(j+1)=k->j+1<=us[1]->h.IsListIter I l (j+1)->h.IsList l us.toArray->vb∈us->yb (rk vb) ((us.drop (j+1)).map rk)=M ->
   h.get? S=↑#[.type "list",none,.seq (List.toArray [vb,vb]) c,#[]]->yc h0 h ->
   codeAny (model prog w) A (.builtin "min.loop" #[[.ref I,.none,.ref S],[]]) R {s0 with heap:=h,toks:=t}:=by
 have W:=Walks.list (prog:=prog) (w:=w) (A:=A.in1) hh I l ne us.toArray;have U:(toString "min"++toString ".loop")="min.loop":=by decide
 have zl:us.toArray.size=us[1]:=gP ..;have nSw:S∉[I]:=by simp[nS]
 have no:∀{b} {o},h0.get? b=!o->b≠I/\b≠S:=by
  lia
 intro k
 induction k with
 | zero =>
  intro j h t vb c hk hj it il hb hm hS kp;have hin:j+1=us[1]:=""
  refine dR dZ ?_;rw[bv pp _];refine(show wpAny _ A.in1 (seqItems? (.ref S) >>= _) _ _ _ from g6 (fG (s:={s0 with heap:=h,toks:=t}) hS rfl ?_))
  refine(show wpAny _ A.in1 (tryCatch (pyNext (.ref I)) _ >>= _) _ _ _ from g6 (cV (W.done {s0 with heap:=h,toks:=t} _ _ #[by rw[zl,<- hin];exact it,il] λh1 t1 k1=>?_)))
  have z:=k1 S _ nSw hS;refine(show wpAny _ A.in1 (updateSeq S (λ_=>#[]) >>= _) _ _ _ from g6 (cH z rfl (g6 (pS (gu ?_)))))
  refine fin vb _ t1 hb ?_ λb o e=>?_
  .rw[hin,du]at hm;exact hm
  exact(tM _ _ (tf (no e).2)).trans (k1 b o (by simp[(no e).1]) (kp b o e))
 | succ k ih =>
  intro j h t vb c hk hj it il hb hm hS kp;have B:j+1<us[1]:=""
  refine dR dZ ?_;rw[bv pp _];refine(show wpAny _ A.in1 (seqItems? (.ref S) >>= _) _ _ _ from g6 (fG (s:={s0 with heap:=h,toks:=t}) hS rfl ?_))
  refine(show wpAny _ A.in1 (tryCatch (pyNext (.ref I)) _ >>= _) _ _ _ from g6 (cV (W.item (j+1) {s0 with heap:=h,toks:=t} _ _ (by rw[zl];exact B) #[it,il] λv h1 t1 hP O k1=>?_)))
  have z:=k1 S _ nSw hS;have Y:us[j+1]?=!v:=by simpa using hP
  have hv:v∈us:=hX Y;have dr:us.drop (j+1)=v::us.drop (j+1+1):=by
   rw[fS B];congr 1;rw[gE B]at Y;exact tP Y
  have Z:yc h0 h1:=λb o e=>k1 b o (by simp[(no e).1]) (kp b o e)
  rw[dr,gN]at hm;refine(show wpAny _ A.in1 (tryCatch (holding [v,v] (richCompare .Lt v vb >>= _)) _ >>= _) _ _ _ from g6 (cV (fT (g6 (cmp v hv vb hb _ _ _ Z ?_)))))
  refine g6 (fT (pQ (g6 (pS (gu ?_)))));unfold yb at hm;cases hl:HT.lexLt (rk v) (rk vb)with
  | true =>
   rw[hl]at hm;simp only[dB]at hm ⊢;refine g6 (cH z rfl (g6 (pS ?_)));rw[U];have oth:∀ b,b≠S->∀ o,h1.get? b=!o->(h1.update S (Obj.mapSeq λ_=>(List.toArray [v,v]))).get? b=!o:=λb nb o e=>(tM _ _ (tf nb)).trans e
   exact gu #[cj pp _,ih (j+1) _ _ v _ "" B (O.1.at λo e=>oth I (tf nS) o e) (O.2.at λo e=>oth l (tf nl) o e) hv hm (f9 _ z rfl) λb o e=>oth b (no e).2 o (Z b o e)]
  | false =>
   rw[hl]at hm;simp only[tX,cA]at hm ⊢;refine g6 (pS ?_);rw[U];exact gu #[cj pp _,ih (j+1) _ _ vb c "" B O.1 O.2 hb hm z Z]
def qcp{Q:aa->ab->Prop}{E:aa->ab->Prop}(hh:A.handled=none)(hl:s.heap.IsList l us.toArray){u0:aa}{ur:List aa}(U:us=u0::ur)(hM:yb (rk u0) (ur.map rk)=M)
  (cmp:∀ u∈us,∀ v∈us,∀ s' Q E,yc s.heap s'.heap->Q (.bool (HT.lexLt (rk u) (rk v))) s'->wpAny (model prog w) A.in1 (richCompare .Lt u v) Q E s')
  (fin:∀ v h' tk,v∈us->rk v=M->yc s.heap h'->Q v {s with heap:=h',toks:=tk}) :
  wpAny (model prog w) A (call (.builtin "min") [.ref l]) Q E s:=by
 have Z:(toString "min"++toString ".loop")="min.loop":=by decide
 have hlt:l<s[0]:=by
  obtain⟨oo,eo,_⟩:=id hl;exact gK eo
 refine call_function_tree PySem.F.kind_min PySem.F.plain_min PySem.F.entry_min (PySem.F.args_min1 _) ?_;refine(show wpAny _ A.in1 (Builtin.Builtins.bindParams "min" ["key","default"] 0 #[[],[]] >>= _) _ _ s from g6 (wpAny_of_eq (show Builtin.Builtins.bindParams "min" ["key","default"] 0 #[[],[]]=pure [none,none]from rfl) (g6 (gu ?_))))
 refine g6 (wpAny_pyIter_list hl (g6 (tV ?_)));refine gu #[cj pp _,dR dZ ?_];generalize eh:(s.heap.push {cls:=.type "list_iterator",data:=.fields (List.toArray [.ref l,.int 0 0])})=hA;have zA:hA.objs.size=s[0]+1:=by rw[<- eh];exact pO ..
 have kA:yc s.heap hA:=λb o e=>by rw[<- eh];exact gq _ e
 have itA:hA.IsListIter s[0] l 0:=by rw[<- eh];exact#[_,gM _ rfl,rfl,rfl]
 have B:hA.objs.size≠s[0]:=""
 have lB:hA.IsList l us.toArray:=hl.at λo e=>kA _ _ e
 have far:∀ b,s[0]<=b->s.heap.get? b=none:=λb hb=>by
  cases e:s.heap.get? b with
  | none=>rfl
  | some o=>exact absurd (gK e) (Nat.not_lt.mpr hb)
 have nI:s.heap.get? s[0]=none:=far _ (gw _);have nS:s.heap.get? hA.objs.size=none:=far _ (by rw[zA];exact bE _)
 generalize eB:(hA.push {cls:=.type "list",data:=.seq #[]})=hB;have kB:yc hA hB:=λb o e=>by rw[<- eB];exact gq _ e
 have hS:hB.get? hA.objs.size=↑#[.type "list",none,.seq #[] 0,#[]]:=by rw[<- eB];exact gM _ rfl
 have ne:l≠s[0]:=hV hlt;have nl:hA.objs.size≠l:=λz=>by rw[zA]at z;exact absurd hlt (by rw[<- z];exact Nat.not_lt.mpr (bE _))
 have W:=Walks.list (prog:=prog) (w:=w) (A:=A.in1) hh s[0] l ne us.toArray;have e0:us[0]?=!u0:=by rw[U];rfl
 refine(show wpAny _ A.in1 (seqItems? (.ref hA.objs.size) >>= _) _ _ _ from g6 (fG (s:={s with heap:=hB}) hS rfl ?_))
 refine(show wpAny _ A.in1 (tryCatch (pyNext (.ref s[0])) _ >>= _) _ _ _ from g6 (cV (W.item 0 {s with heap:=hB} _ _ (by rw[U];simp) #[itA.at λo e=>kB _ _ e,lB.at λo e=>kB _ _ e] λv h1 t1 hP Y k1=>?_)))
 have hv:v=u0:=by
  have:us[0]?=!v:=by simpa using hP
  rw[e0]at this;exact(tP this).symm
 subst hv;have hS1:=k1 hA.objs.size _ (by simp[B]) hS
 refine(show wpAny _ A.in1 (updateSeq hA.objs.size (λ_=>(List.toArray [v,v])) >>= _) _ _ _ from g6 (cH hS1 rfl ?_))
 rw[Z];have O:∀ b,b≠hA.objs.size->∀ o,h1.get? b=!o->(h1.update hA.objs.size (Obj.mapSeq λ_=>(List.toArray [v,v]))).get? b=!o:=λb nb o e=>(tM _ _ (tf nb)).trans e
 refine gu #[cj pp _,qco (s0:=s) (h0:=s.heap) (M:=M) (rk:=rk) hh ne B nl nI nS cmp (λv h' tk hv he kp=>fin v h' tk hv he kp) _ 0 _ _ v _ rfl (by rw[U];simp) (Y.1.at λo e=>O _ (tf B) o e) (Y.2.at λo e=>O l (tf nl) o e) (by rw[U];exact t8) (by rw[U];exact hM) (f9 _ hS1 rfl) λb o e=>?_]
 have n1:b≠s[0]:=λz=>by rw[z,nI]at e;cases e
 have n2:b≠hA.objs.size:=λz=>by rw[z,nS]at e;cases e
 exact O b n2 o (k1 b o (by simp[n1]) (kB _ _ (kA _ _ e)))
end
def xa:List D->R En
 | [.lst ds]=>(match vF ds with|some (a::r)=>.ok (qJ (yb a r))[8]|_=>.stuck)
 | _=>.stuck
def qcq(Y:X.A.units+10<cLine)(U:(X.calm=true)["r"]):zX X (.builtin "min") xa:=by
 intro pins s σ F H xs us ds Q I l rx qx w;cases qx with
 | nil=>cases w
 | cons q1 q2 =>
  rename_i d _ _;cases q2 with
  | cons _ _=>cases d<;>exact w.elim
  | nil =>
   cases d<;>first|exact w.elim|skip
   rename_i ds;unfold xa at w;dsimp only at w;cases e:vF ds with
   | none=>rw[e]at w;cases w
   | some rs =>
    rw[e]at w;cases rs with
    | nil=>cases w
    | cons a r =>
     obtain⟨p,vs,rfl,hq,O⟩:=RdV.lst l q1;cases rx with
     | cons r1 r2 =>
      cases r2;cases r1;obtain⟨its,rv,pl,hz⟩:=I.list hq;obtain⟨m,k⟩:=ZS I l e O rv;cases its with
      | nil=>cases m
      | cons u0 ur =>
       injection m with m1 m2;refine qcp (rk:=qM s.heap) (I.ok.hd U) pl.isList rfl (by rw[m1,m2]) (λu B v z s' Q' E' kp q=>?_) λv h' tk z hm kp=>?_
       .obtain⟨b1,i1,n1,rfl,t1,j1,_,_⟩:=k u B;obtain⟨b2,i2,n2,rfl,t2,j2,_,_⟩:=k v z;rw[wF t1 j1,wF t2 j2]at q;have up:∀{b} {i:List aa},PyProof.Rows.IsTup s.heap b i.toArray->PyProof.Rows.IsTup s'.heap b i.toArray:=by
         intro b i t;obtain⟨o,eo,rest⟩:=t;exact#[o,kp b o eo,rest]
        exact HT.lt_tupInts (up t1) (up t2) j1 j2 (by show X.A.units+1<cLine;lia) q
       obtain⟨b1,i1,n1,rfl,t1,j1,rp,_⟩:=k v z;rw[wF t1 j1]at hm;subst hm;exact#[.ref b1,H,I.kept kp,rfl,jn l w rp]
def v7(a b c:Int):Int:=if a>b then a-b else 0
def V7:D->D->D->R (List D)
 | .int a,.int b,.int c=>if -1000000<=a/\a<=1000000/\-1000000<=b/\b<=1000000/\c=-1 then .ok (x8 a c (v7 a b c).toNat)else .stuck
 | _,_,_=>.stuck
def iR3d(a b c:EF):IF:=λρ=>(a ρ).bind λx=>(b ρ).bind λy=>(c ρ).bind λz=>V7 x.d y.d z.d
def Kt{a b c:Int}(h:c=-1):Builtin.Range.rangeSize a b c=v7 a b c:=by
 subst h;unfold Builtin.Range.rangeSize v7;simp
def qcr(h1:-1000000<=a)(h2:a<=1000000)(z:-1000000<=b)(B:b<=1000000)(h:c=-1):Builtin.Range.small a b c=true:=by
 unfold Builtin.Range.small;rw[Kt h];unfold v7;simp only[Builtin.Range.rangeFitsLong,gZ,decide_eq_true_eq];subst h
 grind
def qcs{X:Cx}(ha:"S" a fa)(B:"S" b fb)(hc:"S" c fc)(z:X.mg "range"=none)(hg:(Gl X "range")["r"])
  (hs:(starEach [a,b,c] X.env=(false,eval a X.env)::starEach [b,c] X.env)["r"])(O:(starEach [b,c] X.env=(false,eval b X.env)::starEach [c] X.env)["r"])(U:(starEach [c] X.env=[(false,eval c X.env)])["r"])(Y:((backTo cp (starEach [b,c] X.env)).any (·.1)=false)["r"]) :
  SI X F0 H0 tg (.Call (.Name "range" np) [a,b,c] [] cp) (iR3d fa fb fc):=by
 refine#[λσ H R=>(Qi (kD X a) (Qi (kD X b) (Qi (kD X c) WS))) σ H λvs H1=>∃ i j k,vs=[.int i,.int j,.int k]/\(-1000000<=i/\i<=1000000/\-1000000<=j/\j<=1000000/\k=-1)/\R (Itr3 i k (v7 i j k).toNat) H1,λpins s σ H R I h=>?_,λσ F H ρ R S h=>?_]
 .refine Call_ (zH I hg z boot_range (tw (thn ((zI (jh (e:=a)) (zI (jh (e:=b)) (zI (jh (e:=c)) vM U) O) hs) cp pins s σ H _ I h) λus s1 #[vs,H1,I1,r1,q1]=>?_) hs Y))
  obtain⟨i,j,k,rfl,⟨b1,b2,b3,b4,b5⟩,hR⟩:=q1;cases r1 with
  | cons r r1 =>
   cases r1 with
   | cons r' r1 =>
    cases r1 with
    | cons r'' r1 =>
     cases r1;obtain⟨t,rfl⟩:=r;obtain⟨t',rfl⟩:=r';obtain⟨Z,rfl⟩:=r'';refine call_range_3 "" ?_ (.inl (PyProof.noPylong_small ""))
     refine wpAny_pyIter_range (IsRange.new ..) (qcr b1 b2 b3 b4 b5) ?_;have I2:"I" H1 {s1 with heap:=s1.heap.push {cls:=.type "range",data:=.fields (List.toArray [.int i t,.int j t',.int k Z])}}:=I1.kept (t':=s1.toks) λb o e=>gq _ e
     have n0:0<=v7 i j k:=by unfold v7;split<;>lia
     refine#[_,[_],_,_,H1,rfl,I2.kept (t':=s1.toks) λb o e=>gq _ e,qca _ i k (v7 i j k).toNat,?_,λb B=>?_,hR]
     .have e1:i+(0:Nat)*k=i:=by simp
      have e2:((v7 i j k).toNat)-(0:Nat)=Builtin.Range.rangeSize i j k:=by rw[Kt b5];lia
      rw[e1,e2];exact gM _ rfl
     rw[tY]at B;subst B;exact I2.fpOk (gw _) (I2.hok.fresh (gw _))
 refine ha.sem S ((KE.bind h).imp λw1 k1 v1 F1 H1 g1 q1=>B.sem (S.grow g1) ((KE.bind k1).imp λw2 k2 v2 F2 H2 g2 q2=>hc.sem ((S.grow g1).grow g2) ((KE.bind k2).imp λw3 k3 v3 F3 H3 g3 q3=>?_)))
 have r1:=RdV.gr g3 (RdV.gr g2 (Vok.rd q1));have r2:=RdV.gr g3 (Vok.rd q2);have r3:=Vok.rd q3
 revert k3
 generalize w1.d=d1 at r1;generalize w2.d=d2 at r2;generalize w3.d=d3 at r3;intro k3;cases d1<;>first|exact k3.elim|skip
 cases d2<;>first|exact k3.elim|skip
 cases d3<;>first|exact k3.elim|skip
 rename_i i j k;unfold V7 at k3;dsimp only at k3;by_cases cc:-1000000<=i/\i<=1000000/\-1000000<=j/\j<=1000000/\k=-1
 .rw[if_pos cc]at k3;cases RdV.int r1;cases RdV.int r2;cases RdV.int r3;have k3:∀ F' H' J,Gr F H F' H'->Walk (kx X) J F' H0 (x8 i k (v7 i j k).toNat)->R J H':=k3;refine#[i,j,k,rfl,cc,k3 F3 H3 _ ((g1.trans g2).trans g3) #[λm d F' H' ed l1 l2 _=>?_,λm F' H' z l1 l2 _=>?_]]
  .unfold x8 at ed;rw[gG]at ed;obtain⟨q,eq,rfl⟩:=cZ.mp ed;have hq:=gp.mp eq;have z:m<(v7 i j k).toNat:=by simpa using hq.1
   have em:q=m:=by
    rw[dD z]at eq;exact(tP eq).symm
   subst em;refine#[z,λy H2' hy=>?_]
   obtain⟨rfl,rfl⟩:=hy;exact#[F',Gr.refl l2,rfl]
  show(v7 i j k).toNat<=m;simpa[x8]using z
 rw[if_neg cc]at k3;exact k3.elim
section
variable{prog:af}{w:World}{A:ag}{E:aa->ab->Prop}{s:ab}
variable{X:Cx}{F0 H0:Hp}{pos p pos2:Pos}{e:Expr}{es:List Expr}{fa:List EF}{x:Str}{k n:Nat}{f:Addr}{fd:FuncData}{ps:List Str}{dn:Den}{st:SF}
end
def qct:Bool->aj->Array aj->Nat->Nat->Nat->StateT am Sem (Option Nat):=sortPriv% PySem.Builtin.gallop
def qcu:Nat->StateT am Sem Unit:=sortPriv% PySem.Builtin.setMinGallop
def qcv:Array aj->Array aj->StateT am Sem (Array aj):=sortPriv% PySem.Builtin.mergeLo
def qcw:Array aj->Array aj->StateT am Sem (Array aj):=sortPriv% PySem.Builtin.mergeHi
section
variable{prog:af}{w:World}{A:ag}{E:aa->ab->Prop}{s:ab}{kd:SortKind}{rk:aa->Int}{ini:Array aj}
def ask2{st:am}{p q:aj}{Q:Option Bool->am->Prop}(T:Tells prog w A s kd rk ini)(z:kindOf st=kd)(hp:p∈ini[2])(B:q∈ini[2])(h:Q (!(decide (rk p.1<rk q.1))) st):wpS (model prog w) A E s (lt' p q) Q st:=by
 rw[lt'_eq];refine wpS_bind (bQ ?_);rw[z];exact wpS_bind (mm (m9 (T.lt p hp q B _ _ #[rfl,wpS_pure h])))
def jL{st:am}{i:Nat}{Q:aj->am->Prop}(h:xs[i]?=!p)(q:Q p st):wpS (model prog w) A E s (elem' xs i) Q st:=by
 rw[elem'_eq,h];exact wpS_pure q
abbrev bey(z:Bool)(key:aj)(B:Array aj)(base i:Nat):StateT am Sem (Option Bool):=elem' B (base+i) >>= λx=>if z=true then lt' x key else lt' key x >>= λo=>pure (o.map not)
def qcx{st:am}{z:Bool}{key p:aj}{base i:Nat}{Q:Option Bool->am->Prop}(T:Tells prog w A s kd rk ini)(O:kindOf st=kd)(hkey:key∈ini[2])(hp:arr[base+i]?=!p)(B:p∈ini[2])(ne:rk p.1≠rk key.1)
  (h:Q (!(decide (rk p.1<rk key.1))) st):wpS (model prog w) A E s (bey z key arr base i) Q st:=by
 refine wpS_bind (jL hp ?_);cases z
 .rw[if_neg "d"]
  refine wpS_bind (ask2 T O hkey B ?_);refine wpS_pure ?_;have e:(not (decide (rk key.1<rk p.1)))=decide (rk p.1<rk key.1):=by
   lia
  simpa[e]using h
 rw[if_pos rfl];exact ask2 T O B hkey h
structure Seg(rk:Value->Int)(ini arr:Array Keyed)(key:Keyed)(base n:Nat):Prop where
 sz:base+n<=arr.size
 mem:∀ p∈arr[2],p∈ini[2]
 hkey:key∈ini[2]
 up:∀ i j,i<j->j<n->av rk arr (base+i)<av rk arr (base+j)
 ne:∀ i,i<n->av rk arr (base+i)≠rk key.1
def Seg.get(S:Seg rk ini arr key base n){i:Nat}(h:i<n):∃ p,arr[base+i]?=!p/\p∈ini[2]/\av rk arr (base+i)=rk p.1:=by
 have hi:base+i<arr.size:=by have:=S.sz;lia
 refine#[arr[base+i],pE arr (base+i) hi,S.mem _ "s",?_]
 unfold av
 simp_all
def Seg.ask{st:am}{z:Bool}{key:aj}{base n i:Nat}{Q:Option Bool->am->Prop}(T:Tells prog w A s kd rk ini)(B:kindOf st=kd)(S:Seg rk ini arr key base n)(h:i<n)
  (q:Q (!(decide (av rk arr (base+i)<rk key.1))) st):wpS (model prog w) A E s (bey z key arr base i) Q st:=by
 obtain⟨p,h1,h2,h3⟩:=S.get h;have ne:=S.ne i h;rw[h3]at ne q;exact qcx T B S.hkey h1 h2 ne q
def Seg.le(S:Seg rk ini arr key base n){i j:Nat}(h:i<=j)(z:j<n):av rk arr (base+i)<=av rk arr (base+j):=by
 rcases bL i j with c|c
 .exact cM (S.up i j c z)
 rw[show i=j by lia];exact pI _
def J6(rk:aa->Int)(z:Array aj)(key:aj)(base n k:Nat):Prop:=k<=n/\(∀ i,i<k->av rk z (base+i)<rk key.1)/\∀ i,k<=i->i<n->rk key.1<av rk z (base+i)
def xf{st:am}{O:Bool}{base n B:Nat}{Q:Option Nat->am->Prop}(T:Tells prog w A s kd rk ini)(U:kindOf st=kd)(S:Seg rk ini arr key base n)(Y:B<n)
  (h:∀ k,J6 rk arr key base n k->Q ↑k st):wpS (model prog w) A E s (qct O key arr base n B) Q st:=by
 have fin:∀ f lo hi,
   (∀ x l r R,r<=n->(r<=l->R (.done (none,l,r)) st)->(l<r->R (if av rk arr (base+(l+(r-l)/2))<rk key.1 then .yield (none,l+(r-l)/2+1,r)else .yield (none,l,l+(r-l)/2)) st)->wpS (model prog w) A E s (f x (none,l,r)) R st) ->
   lo<=hi->hi<=n->(∀ i,i<lo->av rk arr (base+i)<rk key.1)->(∀ i,hi<=i->i<n->rk key.1<av rk arr (base+i)) ->
   wpS (model prog w) A E s (forIn [:n] ((none,lo,hi):Option (Option Nat)×Nat×Nat) f) (λc z=>c.1=none/\z=st/\J6 rk arr key base n c.2.2) st:=by
  refine λf lo hi hf l1 l2 l3 l4=>wpS_forRange (λx c z=>z=st/\∃ lo hi,c=(none,lo,hi)/\lo<=hi/\hi<=n/\hi-lo<=n-x/\(∀ i,i<lo->av rk arr (base+i)<rk key.1)/\(∀ i,hi<=i->i<n->rk key.1<av rk arr (base+i))) (λx c z _ lx hI=>?_) (λc z hI=>?_) #[rfl,lo,hi,rfl,l1,l2,"",l3,l4]
  .obtain⟨rfl,lo,hi,rfl,a1,a2,a3,a4,a5⟩:=hI;refine hf x lo hi _ a2 (λc=>?_) λc=>?_
   .have e:lo=hi:=""
    subst e;exact#[rfl,rfl,a2,a4,a5]
   by_cases d:av rk arr (base+(lo+(hi-lo)/2))<rk key.1
   .rw[if_pos d];refine#[rfl,_,_,rfl,"",a2,"",λi Z=>?_,a5]
    have:=S.le (i:=i) (j:=lo+(hi-lo)/2) "" ""
    lia
   rw[if_neg d];refine#[rfl,_,_,rfl,"","","",a4,λi g1 g2=>?_]
   have:=S.le (i:=lo+(hi-lo)/2) (j:=i) g1 g2;have:=S.ne (lo+(hi-lo)/2) ""
   lia
  obtain⟨rfl,lo,hi,rfl,a1,a2,a3,a4,a5⟩:=hI;have e:lo=hi:=""
  subst e;exact#[rfl,rfl,a2,a4,a5]
 refine wpS_bind (m:=bey O key arr base B) (S.ask T U Y ?_);dsimp only;by_cases c:av rk arr (base+B)<rk key.1
 .rw[tG c,if_pos rfl];refine wpS_bind (wpS_mono (wpS_forRange (λx c z=>z=st/\∃ lf of,c=(none,lf,of)/\lf<of/\lf<n-B/\x+1<=of/\av rk arr (base+(B+lf))<rk key.1)
   (Q:=λc z=>z=st/\∃ lf of,c=(none,lf,of)/\lf<of/\lf<n-B/\av rk arr (base+(B+lf))<rk key.1/\(n-B<=of\/rk key.1<av rk arr (base+(B+of)))) (λx c z _ lx hI=>?_) (λc z hI=>?_) #[rfl,0,1,rfl,"","","",by simpa using c]) λc z hc=>?_)
  .obtain⟨rfl,lf,of,rfl,a1,a2,a3,a4⟩:=hI;dsimp only;by_cases d:of≥n-B
   .rw[if_pos d];exact wpS_pure #[rfl,lf,of,rfl,a1,a2,a4,.inl d]
   rw[if_neg d];refine wpS_bind (m:=bey O key arr base (B+of)) (S.ask T U "" ?_)
   by_cases e:av rk arr (base+(B+of))<rk key.1
   .rw[tG e];exact wpS_pure #[rfl,of,2*of+1,rfl,"","","",e]
   rw[t7 e];have:=S.ne (B+of) ""
   exact wpS_pure #[rfl,lf,of,rfl,a1,a2,a4,.inr ""]
  .obtain⟨rfl,lf,of,rfl,a1,a2,a3,a4⟩:=hI;exact#[rfl,lf,of,rfl,a1,a2,a4,.inl ""]
  obtain⟨rfl,lf,of,rfl,a1,a2,a4,a5⟩:=hc;dsimp only;refine wpS_bind (wpS_mono (fin _ (B+lf+1) (B+min of (n-B)) (λx l r R hr g1 g2=>by
   dsimp only;by_cases d:l≥r
   .rw[if_pos d];exact wpS_pure (g1 d)
   rw[if_neg d];have g2:=g2 ""
   refine wpS_bind (m:=bey O key arr base (l+(r-l)/2)) (S.ask T U "" ?_)
   by_cases e:av rk arr (base+(l+(r-l)/2))<rk key.1
   .rw[if_pos e]at g2;rw[tG e];exact wpS_pure g2
   rw[if_neg e]at g2;rw[t7 e];exact wpS_pure g2) "" "" (λi hi=>?_) λi g1 g2=>?_) λc z hc=>?_)
  .have:=S.le (i:=i) (j:=B+lf) "" ""
   lia
  .rcases a5 with a5|a5
   .lia
   have:=S.le (i:=B+of) (j:=i) "" g2
   lia
  obtain⟨c1,rfl,pl⟩:=hc;rw[c1];exact wpS_pure (h _ pl)
 rw[t7 c,if_neg "d"]
 have ne0:=S.ne B Y;refine wpS_bind (wpS_mono (wpS_forRange (λx c z=>z=st/\∃ lf of,c=(none,lf,of)/\lf<of/\lf<=B/\x+1<=of/\rk key.1<av rk arr (base+(B-lf)))
  (Q:=λc z=>z=st/\∃ lf of,c=(none,lf,of)/\lf<of/\lf<=B/\rk key.1<av rk arr (base+(B-lf))/\(B+1<=of\/(of<=B/\av rk arr (base+(B-of))<rk key.1))) (λx c z _ lx hI=>?_) (λc z hI=>?_) #[rfl,0,1,rfl,"","","",by simp;lia]) λc z hc=>?_)
 .obtain⟨rfl,lf,of,rfl,a1,a2,a3,a4⟩:=hI;dsimp only;by_cases d:of≥B+1
  .rw[if_pos d];exact wpS_pure #[rfl,lf,of,rfl,a1,a2,a4,.inl d]
  rw[if_neg d];refine wpS_bind (m:=bey O key arr base (B-of)) (S.ask T U "" ?_)
  by_cases e:av rk arr (base+(B-of))<rk key.1
  .rw[tG e];exact wpS_pure #[rfl,lf,of,rfl,a1,a2,a4,.inr #["",e]]
  rw[t7 e];have:=S.ne (B-of) ""
  exact wpS_pure #[rfl,of,2*of+1,rfl,"","","",""]
 .obtain⟨rfl,lf,of,rfl,a1,a2,a3,a4⟩:=hI;exact#[rfl,lf,of,rfl,a1,a2,a4,.inl ""]
 obtain⟨rfl,lf,of,rfl,a1,a2,a4,a5⟩:=hc;dsimp only;refine wpS_bind (wpS_mono (fin _ (B+1-min of (B+1)) (B-lf) (λx l r R hr g1 g2=>by
  dsimp only;by_cases d:l≥r
  .rw[if_pos d];exact wpS_pure (g1 d)
  rw[if_neg d];have g2:=g2 ""
  refine wpS_bind (m:=bey O key arr base (l+(r-l)/2)) (S.ask T U "" ?_)
  by_cases e:av rk arr (base+(l+(r-l)/2))<rk key.1
  .rw[if_pos e]at g2;rw[tG e];exact wpS_pure g2
  rw[if_neg e]at g2;rw[t7 e];exact wpS_pure g2) "" "" (λi hi=>?_) λi g1 g2=>?_) λc z hc=>?_)
 .rcases a5 with a5|⟨a5,a6⟩
  .lia
  have:=S.le (i:=i) (j:=B-of) "" ""
  lia
 .have:=S.le (i:=B-lf) (j:=i) g1 g2;lia
 obtain⟨c1,rfl,pl⟩:=hc;rw[c1];exact wpS_pure (h _ pl)
abbrev Ris(rk:aa->Int)(l:List aj):Prop:=l.Pairwise λp q=>rk p.1<rk q.1
abbrev Blw(rk:aa->Int)(l m:List aj):Prop:=∀ p∈l,∀ q∈m,rk p.1<rk q.1
structure JL(rk:Value->Int)(a b:List Keyed)(o:List Keyed)(ia ib:Nat):Prop where
 la:ia<=a[1]
 lb:ib<=b[1]
 pm:o.Perm (a.take ia++b.take ib)
 up:Ris rk o
 ba:Blw rk o (a.drop ia)
 bb:Blw rk o (b.drop ib)
def Ku(h:Ris rk l):Blw rk ((l.drop i).take k) (l.drop (i+k))/\Ris rk ((l.drop i).take k):=by
 have h1:Ris rk (l.drop i):=h.drop;have e:l.drop i=(l.drop i).take k++l.drop (i+k):=by rw[<- List.drop_drop,tR]
 rw[e]at h1;obtain⟨x,_,z⟩:=gU.mp h1;exact#[λp hp q hq=>z p hp q hq,x]
def JL.chunkA(J:JL rk a b o ia ib)(O:Ris rk a){k:Nat}(U:ia+k<=a[1])(h:Blw rk ((a.drop ia).take k) (b.drop ib)):JL rk a b (o++(a.drop ia).take k) (ia+k) ib:=by
 obtain⟨c1,c2⟩:=Ku O;have B:∀ p∈(a.drop ia).take k,p∈a.drop ia:=λp hp=>fy hp
 have z:∀ p∈a.drop (ia+k),p∈a.drop ia:=λp hp=>by rw[<- List.drop_drop]at hp;exact fA hp
 refine#[U,J.lb,?_,gU.mpr #[J.up,c2,λp hp q hq=>J.ba p hp q (B q hq)],λp hp q hq=>?_,λp hp q hq=>?_]
 .rw[List.take_add];refine(J.pm.append_right _).trans ?_;rw[t5,t5];exact cu _ List.perm_append_comm
 .rcases gC.mp hp with hp|hp
  .exact J.ba p hp q (z q hq)
  exact c1 p hp q hq
 rcases gC.mp hp with hp|hp
 .exact J.bb p hp q hq
 exact h p hp q hq
def JL.chunkB(J:JL rk a b o ia ib)(O:Ris rk b){k:Nat}(U:ib+k<=b[1])(h:Blw rk ((b.drop ib).take k) (a.drop ia)):JL rk a b (o++(b.drop ib).take k) ia (ib+k):=by
 obtain⟨c1,c2⟩:=Ku O;have B:∀ p∈(b.drop ib).take k,p∈b.drop ib:=λp hp=>fy hp
 have z:∀ p∈b.drop (ib+k),p∈b.drop ib:=λp hp=>by rw[<- List.drop_drop]at hp;exact fA hp
 refine#[J.la,U,?_,gU.mpr #[J.up,c2,λp hp q hq=>J.bb p hp q (B q hq)],λp hp q hq=>?_,λp hp q hq=>?_]
 .rw[List.take_add,<- t5];exact J.pm.append_right _
 .rcases gC.mp hp with hp|hp
  .exact J.ba p hp q hq
  exact h p hp q hq
 rcases gC.mp hp with hp|hp
 .exact J.bb p hp q (z q hq)
 exact c1 p hp q hq
def Fin2(rk:aa->Int)(a b o:List aj):Prop:=o.Perm (a++b)/\Ris rk o
def JL.endA(J:JL rk a b o ia ib)(z:Ris rk a)(h:ib=b[1]):Fin2 rk a b (o++a.drop ia):=by
 have:=J.chunkA z (k:=a[1]-ia) (by have:=J.la;lia) (by rw[h,du];exact λp _ q hq=>nomatch hq)
 rw[(tU (by rw[pi];exact gw _))]at this
 refine#[?_,this.up];have p:=this.pm;rw[h,dz,tU (by have:=J.la;lia)]at p
 exact p
def JL.endB(J:JL rk a b o ia ib)(z:Ris rk b)(h:ia=a[1]):Fin2 rk a b (o++b.drop ib):=by
 have:=J.chunkB z (k:=b[1]-ib) (by have:=J.lb;lia) (by rw[h,du];exact λp _ q hq=>nomatch hq)
 rw[(tU (by rw[pi];exact gw _))]at this
 refine#[?_,this.up];have p:=this.pm;rw[h,dz,tU (by have:=J.lb;lia)]at p
 exact p
def JL.endL(J:JL rk a b o ia ib)(z:Ris rk a)(B:Ris rk b)(h:Blw rk b (a.drop ia)):Fin2 rk a b (o++b.drop ib++a.drop ia):=by
 have e:(b.drop ib).take (b[1]-ib)=b.drop ib:=tU (by rw[pi];exact gw _)
 have j2:=J.chunkB B (k:=b[1]-ib) (by have:=J.lb;lia) (λp hp q hq=>h p (by rw[e]at hp;exact fA hp) q hq)
 rw[e]at j2;exact j2.endA z (by have:=J.lb;lia)
structure JH(rk:Value->Int)(a b:List Keyed)(o:List Keyed)(na nb:Nat):Prop where
 la:na<=a[1]
 lb:nb<=b[1]
 pm:o.Perm (a.drop na++b.drop nb)
 up:Ris rk o
 ba:Blw rk (a.take na) o
 bb:Blw rk (b.take nb) o
def Kv(h:Ris rk l)(hi:i<=n):Blw rk (l.take i) ((l.take n).drop i)/\Ris rk ((l.take n).drop i):=by
 have h1:Ris rk (l.take n):=h.take;have e:l.take n=l.take i++(l.take n).drop i:=by
  have:=tR i (l.take n);rw[bj,cI hi]at this;exact this.symm
 rw[e]at h1;obtain⟨_,y,z⟩:=gU.mp h1;exact#[λp hp q hq=>z p hp q hq,y]
def JH.chunkA(J:JH rk a b o na nb)(O:Ris rk a){i:Nat}(hi:i<=na)(h:Blw rk (b.take nb) ((a.take na).drop i)):JH rk a b ((a.take na).drop i++o) i nb:=by
 obtain⟨c1,c2⟩:=Kv O hi;have B:∀ p∈(a.take na).drop i,p∈a.take na:=λp hp=>fA hp
 have z:∀ p∈a.take i,p∈a.take na:=λp hp=>by
  have e:a.take i=(a.take na).take i:=by rw[bj,cI hi]
  rw[e]at hp;exact fy hp
 refine#[by have:=J.la;lia,J.lb,?_,gU.mpr #[c2,J.up,λp hp q hq=>J.ba p (B p hp) q hq],λp hp q hq=>?_,λp hp q hq=>?_]
 .have e:a.drop i=(a.take na).drop i++a.drop na:=by
   conv=>lhs;rw[<- tR na a]
   rw[cT (by rw[tD];have:=J.la;lia)]
  rw[e,t5];exact cu _ J.pm
 .rcases gC.mp hq with hq|hq
  .exact c1 p hp q hq
  exact J.ba p (z p hp) q hq
 rcases gC.mp hq with hq|hq
 .exact h p hp q hq
 exact J.bb p hp q hq
def JH.chunkB(J:JH rk a b o na nb)(O:Ris rk b){i:Nat}(hi:i<=nb)(h:Blw rk (a.take na) ((b.take nb).drop i)):JH rk a b ((b.take nb).drop i++o) na i:=by
 obtain⟨c1,c2⟩:=Kv O hi;have B:∀ p∈(b.take nb).drop i,p∈b.take nb:=λp hp=>fA hp
 have z:∀ p∈b.take i,p∈b.take nb:=λp hp=>by
  have e:b.take i=(b.take nb).take i:=by rw[bj,cI hi]
  rw[e]at hp;exact fy hp
 refine#[J.la,by have:=J.lb;lia,?_,gU.mpr #[c2,J.up,λp hp q hq=>J.bb p (B p hp) q hq],λp hp q hq=>?_,λp hp q hq=>?_]
 .have e:b.drop i=(b.take nb).drop i++b.drop nb:=by
   conv=>lhs;rw[<- tR nb b]
   rw[cT (by rw[tD];have:=J.lb;lia)]
  rw[e];refine(cu _ J.pm).trans ?_;rw[<- t5,<- t5];exact List.Perm.append_right _ List.perm_append_comm
 .rcases gC.mp hq with hq|hq
  .exact h p hp q hq
  exact J.ba p hp q hq
 rcases gC.mp hq with hq|hq
 .exact c1 p hp q hq
 exact J.bb p (z p hp) q hq
def JH.endA(J:JH rk a b o na nb)(z:Ris rk a)(h:nb=0):Fin2 rk a b (a.take na++o):=by
 have j:=J.chunkA z (tJ _) (by rw[h,bR];exact λp hp=>nomatch hp)
 refine#[?_,j.up];have p:=j.pm
 simp_all
def JH.endB(J:JH rk a b o na nb)(z:Ris rk b)(h:na=0):Fin2 rk a b (b.take nb++o):=by
 have j:=J.chunkB z (tJ _) (by rw[h,bR];exact λp hp=>nomatch hp)
 refine#[?_,j.up];have p:=j.pm
 simp_all
def JH.endF(J:JH rk a b o na nb)(z:Ris rk a)(B:Ris rk b)(h:Blw rk (b.take nb) a):Fin2 rk a b (b.take nb++(a.take na++o)):=by
 exact(J.chunkA z (tJ _) λp hp q hq=>h p hp q (by rw[List.drop_zero]at hq;exact fy hq)).endB B rfl
structure Two(rk:Value->Int)(ini a b:Array Keyed):Prop where
 ra:Ris rk a[2]
 rb:Ris rk b[2]
 ma:∀ p∈a[2],p∈ini[2]
 mb:∀ p∈b[2],p∈ini[2]
 ne:∀ p∈a[2],∀ q∈b[2],rk p.1≠rk q.1
structure Same(st z:SortSt):Prop where
 kd:kindOf z=kindOf st
 ar:arrOf z=arrOf st
 pd:pendingOf z=pendingOf st
 fl:failedOf z=failedOf st
def Same.rfl'(st):Same st st:=#[rfl,rfl,rfl,rfl]
def Same.tr(h:Same x y)(k:Same y z):Same x z:=#[k.kd.trans h.kd,k.ar.trans h.ar,k.pd.trans h.pd,k.fl.trans h.fl]
def J7{st:am}{g:Nat}{Q:Unit->am->Prop}(h:∀ z,Same st z->Q () z):wpS (model prog w) A E s (qcu g) Q st:=by
 refine wpS_modify (h _ #[rfl,rfl,rfl,rfl])
def zt(h):av rk a i=rk a[i].1:=by unfold av;rw[pE a i h]
def V8(B:Ris rk a[2]){i j:Nat}(h:i<j)(z:j<a.size):av rk a i<av rk a j:=by
 rw[zt "",zt z]
 have:=tZ.mp B i j (by simp;lia) z[""] h
 simpa using this
theorem J8{a:Array aj}{key:aj}{base n:Nat}(z:Ris rk a[2])(B:∀ p∈a[2],p∈ini[2])(O:key∈ini[2])(ne:∀ p∈a[2],rk p.1≠rk key.1)(U:base+n<=a.size):Seg rk ini a key base n where
 sz:=U
 mem:=B
 hkey:=O
 up:=λi j h hj=>V8 z "" ""
 ne:=λi h=>by rw[zt ""];exact ne _ "s"
def qcy{a:Array aj}{i k:Nat}(h:p∈(a[2].drop i).take k):∃ j,j<k/\∃ hj,p=a[i+j]:=by
 obtain⟨j,hj,e⟩:=tB.mp h
 grind
def V9{a:Array aj}{i:Nat}(h:p∈a[2].drop i):∃ j,i<=j/\∃ hj,p=a[j]:=by
 obtain⟨j,hj,e⟩:=tB.mp h;have hs:i+j<a.size:=by simp at hj;lia
 refine#[i+j,"",hs,?_]
 rw[<- e];simp
def Kw(P:J6 rk a key base n k)(z:base+n=a.size):(∀ p∈(a[2].drop base).take k,rk p.1<rk key.1)/\∀ p∈a[2].drop (base+k),rk key.1<rk p.1:=by
 obtain⟨p1,p2,p3⟩:=P;constructor
 .intro p hp;obtain⟨j,hj,hs,rfl⟩:=qcy hp;have:=p2 j hj
  rwa [zt hs]at this
 intro p hp;obtain⟨j,hj,hs,rfl⟩:=V9 hp;have:=p3 (j-base) "" ""
 rwa [show base+(j-base)=j by lia,zt hs]at this
def J9{a:Array aj}{i:Nat}(h):(a[2].drop i).take 1=[a[i]]:=by
 rw[fS h[""]]
 simp
def Ja{a:Array aj}(z:Ris rk a[2]){i:Nat}(h){p:aj}(hp:p∈a[2].drop i):rk a[i].1<=rk p.1:=by
 obtain⟨j,hj,hs,rfl⟩:=V9 hp;rcases bL i j with c|c
 .have:=V8 z c hs;rw[zt h,zt hs]at this;lia
 have:i=j:=""
 simp_all
def Va(a:Array aj)(i k):(a.extract i (i+k)).toList=(a[2].drop i).take k:=by
 simp
def Jb(a:Array aj)(i):(a.extract i).toList=a[2].drop i:=by
 rw[Array.toList_extract];exact tU "s"
def jS{σ α:Type}{c:Prop} [Decidable c]{x y:StateT σ Sem α}{Q:α->σ->Prop}{st:σ}(h1:c->wpS M A E s x Q st)(h2:¬c->wpS M A E s y Q st):wpS M A E s (if c then x else y) Q st:=by
 lia
def xg{σ:Type}{β U:Type}{a b:Nat}{f:Nat->β->StateT σ Sem (ForInStep β)}{g:β->StateT σ Sem U}(I:Nat->β->σ->Prop){Q:β->σ->Prop}{R:U->σ->Prop}
  (B:∀ F P,F=f->∀ i c st,a<=i->i<b->I i c st->(∀ c' z,Q c' z->P (.done c') z)->(∀ c' z,I (i+1) c' z->P (.yield c') z)->wpS M A E s (F i c) P st)
  (O:∀ c st,I (max a b) c st->Q c st){c:β}{st:σ}(h:I a c st)(post:∀ G,G=g->∀ c st,Q c st->wpS M A E s (G c) R st):wpS M A E s (forIn [a:b] c f >>= g) R st :=
 wpS_bind (wpS_mono (wpS_forRange I (λi c st h1 h2 h3=>B f _ rfl i c st h1 h2 h3 (λ_ _ h=>h) λ_ _ h=>h) O h) (post g rfl))
def Ky{c:Prop}{z:Decidable c}{M:Model}{f:Nat->StateT σ Sem α}{m n:Nat}{Q:α->σ->Prop}{st:σ}(h:∀ m,wpS M A E s (f m) Q st):wpS M A E s (if c then f m else f n) Q st:=jS (λ_=>h m) (λ_=>h n)
def Kz{f:Array aj->Nat->StateT σ Sem α}{P:Array aj->Nat->Prop}{x:StateT σ Sem α}{Q:α->σ->Prop}{st:σ}(h:∀ o i,P o i->wpS M A E s (f o i) Q st)(k:(∀ o i,P o i->wpS M A E s (f o i) Q st)->wpS M A E s x Q st):wpS M A E s x Q st:=k h
def KA{f:Nat->Array aj->StateT σ Sem α}{P:Nat->Array aj->Prop}{x:StateT σ Sem α}{Q:α->σ->Prop}{st:σ}(h:∀ i o,P i o->wpS M A E s (f i o) Q st)(k:(∀ i o,P i o->wpS M A E s (f i o) Q st)->wpS M A E s x Q st):wpS M A E s x Q st:=k h
def qcz{st:am}{a b:Array aj}{Q:Array aj->am->Prop}(T:Tells prog w A s kd rk ini)(hk:kindOf st=kd)(W:Two rk ini a b)(ha:1<=a.size)(hb:1<=b.size)
  (h3:∀ p∈a[2],rk b[0+0].1<rk p.1)(h4:∀ q∈b[2],rk q.1<rk a[a.size-1].1)
  (h:∀ o z,Fin2 rk a[2] b[2] o[2]->Same st z->Q o z):wpS (model prog w) A E s (qcv a b) Q st:=by
 have la:a[2].length=a.size:=by simp
 have lb:b[2].length=b.size:=by simp
 have lst:∀ ia,ia+1=a.size->Blw rk b[2] (a[2].drop ia):=λia e p hp q hq=>by
  obtain⟨j,hj,hs,rfl⟩:=V9 hq;have:=h4 p hp;have e2:a[j]=a[a.size-1]:=by congr 1;lia
  rw[e2];exact this
 have dn:∀ o ia ib z,JL rk a[2] b[2] o[2] ia ib->Same st z->(ia=a.size\/ib=b.size)->Q (o++a.extract ia++b.extract ib) z:=λo ia ib z J hz hc=>by
  refine h _ z ?_ hz;rw[tT,tT,Jb,Jb];rcases hc with hc|hc
  .rw[pt (i:=ia) "",tQ]
   exact J.endB W.rb ""
  rw[pt (i:=ib) (l:=b[2]) "",tQ]
  exact J.endA W.ra ""
 have dl:∀ o ia ib z,JL rk a[2] b[2] o[2] ia ib->Same st z->ia+1=a.size->Q (o++b.extract ib++a.extract ia) z:=λo ia ib z J hz hc=>by
  refine h _ z ?_ hz;rw[tT,tT,Jb,Jb];exact J.endL W.ra W.rb (lst ia hc)
 have U:∀(o:Array aj) ia ib hi,JL rk a[2] b[2] o[2] ia ib->(∀ q∈a[2].drop ia,rk b[ib].1<rk q.1)->JL rk a[2] b[2] (o.push b[ib]).toList ia (ib+1):=λo ia ib hi J hq=>by
  have:=J.chunkB W.rb (k:=1) "" (by rw[J9 hi];intro p hp q hq';rw[tY.mp hp];exact hq q hq')
  rw[J9 hi]at this;rw[d9];exact this
 have Y:∀(o:Array aj) ia ib hi,JL rk a[2] b[2] o[2] ia ib->(∀ q∈b[2].drop ib,rk a[ia].1<rk q.1)->JL rk a[2] b[2] (o.push a[ia]).toList (ia+1) ib:=λo ia ib hi J hq=>by
  have:=J.chunkA W.ra (k:=1) "" (by rw[J9 hi];intro p hp q hq';rw[tY.mp hp];exact hq q hq')
  rw[J9 hi]at this;rw[d9];exact this
 have gA:∀{i} (hi:i<a.size),a[i]?=!a[i]:=λhi=>pE a _ hi
 have gB:∀{i} (hi:i<b.size),b[i]?=!b[i]:=λhi=>pE b _ hi
 refine wpS_bind (mm (pV #[rfl,?_]))
 try dsimp -zeta -zetaHave only
 refine wpS_bind (jL (gB (show 0<b.size by lia)) ?_)
 try dsimp -zeta -zetaHave only
 have J0:JL rk a[2] b[2] (#[]).toList 0 0:=#[tJ _,tJ _,by simp,by simp,λp hp=>by simp at hp,λp hp=>by simp at hp]
 have J1:JL rk a[2] b[2] ((List.toArray [b[0+0]])).toList 0 1:=U #[] 0 0 "" J0 (λq hq=>h3 q hq[""])
 by_cases c1:1=b.size
 .rw[if_pos c1[""]]
  exact wpS_pure (dn _ 0 1 st J1 (.rfl' st) (.inr c1))
 rw[if_neg c1[""]]
 by_cases c2:0+1=a.size
 .rw[if_pos c2[""]]
  exact wpS_pure (dl _ 0 1 st J1 (.rfl' st) c2)
 rw[if_neg c2[""]]
 refine wpS_bind (bQ ?_);refine xg
  (λx c z=>Same st z/\∃ o ia ib mg,c=(none,o,ia,ib,mg)/\JL rk a[2] b[2] o[2] ia ib/\ia+1<a.size/\ib<b.size/\x+1<=ia+ib)
  (Q:=λc z=>∃ o,c.1=!o/\Q o z) (λF P hF x c z _ lx hI hD hY=>?_) (λc z hI=>?_) #[.rfl' st,_,_,_,_,rfl,J1,"","",""] λG hG c z hc=>?_
 .obtain⟨hz,o,ia,ib,mg,rfl,J,i1,i2,i3⟩:=hI;subst hF;dsimp -zeta -zetaHave only;refine xg
   (λx c y=>y=z/\∃ o B O ac bc,c=(none,o,B,O,ac,bc)/\JL rk a[2] b[2] o[2] B O/\B+1<a.size/\O<b.size/\ia+ib<=B+O)
   (Q:=λc y=>(∃ o,c.1=!o/\Q o y)\/(y=z/\∃ o B O ac bc,c=(none,o,B,O,ac,bc)/\JL rk a[2] b[2] o[2] B O/\B+1<a.size/\O<b.size/\ia+ib<=B+O)) (λF P hF x2 c y _ lx2 hK hD hY=>?_) (λc y hK=>.inr hK) #[rfl,_,_,_,_,_,rfl,J,i1,i2,gw _] λG hG c y hc=>?_
  .obtain⟨rfl,o,ja,jb,ac,bc,rfl,J,k1,k2,k3⟩:=hK;subst hF;dsimp -zeta -zetaHave only;have Z:ja<a.size:=""
   refine wpS_bind (jL (gB k2) (wpS_bind (jL (gA Z) (wpS_bind (ask2 T (hz.kd.trans hk) (W.mb _ "s") (W.ma _ "s") ?_)))))
   by_cases d:rk b[jb].1<rk a[ja].1
   .rw[tG d]
    try dsimp -zeta -zetaHave only
    rw[if_pos rfl];refine wpS_bind (jL (gB k2) ?_)
    try dsimp -zeta -zetaHave only
    have J':=U o ja jb k2 J (λq hq=>by have:=Ja W.ra Z hq;lia)
    by_cases e:jb+1=b.size
    .rw[if_pos e[""]]
     exact wpS_pure (hD _ _ (.inl #[_,rfl,dn _ _ _ _ J' hz (.inr e)]))
    rw[if_neg e[""]]
    by_cases f:bc+1≥mg
    .rw[if_pos f];exact wpS_pure (hD _ _ (.inr #[rfl,_,_,_,_,_,rfl,J',k1,"",""]))
    rw[if_neg f];exact wpS_pure (hY _ _ #[rfl,_,_,_,_,_,rfl,J',k1,"",""])
   rw[t7 d]
   try dsimp -zeta -zetaHave only
   rw[if_neg "d"]
   refine wpS_bind (jL (gA Z) ?_)
   try dsimp -zeta -zetaHave only
   have ne:=W.ne a[ja] "s" b[jb] "s"
   have J':=Y o ja jb Z J (λq hq=>by have:=Ja W.rb k2 hq;lia)
   by_cases e:ja+1+1=a.size
   .rw[if_pos e[""]]
    exact wpS_pure (hD _ _ (.inl #[_,rfl,dl _ _ _ _ J' hz e]))
   rw[if_neg e[""]]
   by_cases f:ac+1≥mg
   .rw[if_pos f];exact wpS_pure (hD _ _ (.inr #[rfl,_,_,_,_,_,rfl,J',"",k2,""]))
   rw[if_neg f];exact wpS_pure (hY _ _ #[rfl,_,_,_,_,_,rfl,J',"",k2,""])
  rcases hc with⟨o,e,q⟩|⟨rfl,o,ja,jb,ac,bc,rfl,J,k1,k2,k3⟩
  .subst hG;dsimp -zeta -zetaHave only;rw[e];exact wpS_pure (hD _ _ #[o,rfl,q])
  subst hG;dsimp -zeta -zetaHave only;refine wpS_bind (mm (pV #[rfl,?_]));refine xg
   (λx c y=>Same st y/\∃ o B O mg ac bc,c=(none,o,B,O,mg,ac,bc)/\JL rk a[2] b[2] o[2] B O/\B+1<a.size/\O<b.size/\ia+ib+min x 1<=B+O)
   (Q:=λc y=>(∃ o,c.1=!o/\Q o y)\/(Same st y/\∃ o B O mg ac bc,c=(none,o,B,O,mg,ac,bc)/\JL rk a[2] b[2] o[2] B O/\B+1<a.size/\O<b.size/\ia+ib+1<=B+O)) (λF P hF x3 c y _ lx3 hK hD hY=>?_) (λc y hK=>?_) #[hz,_,_,_,_,_,_,rfl,J,k1,k2,by show _<=ja+jb;lia] λG hG c y hc=>?_
  .clear J k1 k2 k3;obtain⟨hy0,o,ja,jb,mg2,ac,bc,rfl,J,k1,k2,k3⟩:=hK;subst hF;dsimp -zeta -zetaHave only
   extract_lets n1 n2 n3 n4 n5 n6 n7 n8 n9 n10 n11 n12 jp
   revert jp
   dsimp -zeta -zetaHave only[n1,n2,n3,n4,n5,n6,n7,n8,n9,n10,n11,n12];intro jp;refine Ky ?_;refine λmg3=>wpS_bind (J7 λy2 hy2=>?_)
   have hy:=hy0.tr hy2;have Z:ja<a.size:=""
   refine wpS_bind (jL (gB k2) ?_);refine wpS_bind (xf T (hy.kd.trans hk) (J8 W.ra W.ma (W.mb _ "s") (λp hp=>W.ne p hp b[jb] "s") "") "" λka P=>?_)
   try dsimp -zeta -zetaHave only
   extract_lets acc jpB
   obtain⟨pa1,pa2⟩:=Kw P ""
   have kal:=P.1;refine Kz (f:=jpB ()) (P:=λo1 i1=>JL rk a[2] b[2] o1[2] i1 jb/\i1+1<a.size/\(∀ p∈a[2].drop i1,rk b[jb].1<rk p.1)/\ja<=i1) ?_ λKB=>?_
   .intro o1 i1 ⟨J1,hl1,pl2,ile⟩;refine wpS_bind (jL (gB k2) ?_)
    try dsimp -zeta -zetaHave only
    extract_lets o2 i4
    have J2:JL rk a[2] b[2] o2[2] i1 (jb+1):=U o1 i1 jb k2 J1 pl2;refine jS (λe3=>?_) λe3=>?_
    .have e3:jb+1=b.size:=by simpa using e3
     exact wpS_pure (hD _ _ (.inl #[_,rfl,dn _ _ _ _ J2 hy (.inr e3)]))
    have e3:¬ jb+1=b.size:=by simpa using e3
    have hi1:i1<a.size:=""
    refine wpS_bind (jL (gA hi1) ?_);refine wpS_bind (xf T (hy.kd.trans hk) (J8 W.rb W.mb (W.ma _ "s") (λp hp=>(W.ne a[i1] "s" p hp).symm) "") "" λkb P2=>?_)
    try dsimp -zeta -zetaHave only
    extract_lets bcc jpC
    obtain⟨pb1,pb2⟩:=Kw P2 ""
    have kbl:=P2.1;refine Kz (f:=jpC ()) (P:=λo3 j3=>JL rk a[2] b[2] o3[2] i1 j3/\j3<b.size/\(∀ p∈b[2].drop j3,rk a[i1].1<rk p.1)/\jb+1<=j3) ?_ λKC=>?_
    .intro o3 j3 ⟨J3,hj3,pb,jle⟩;refine wpS_bind (jL (gA hi1) ?_)
     try dsimp -zeta -zetaHave only
     extract_lets o4
     have J4:JL rk a[2] b[2] o4[2] (i1+1) j3:=Y o3 i1 j3 hi1 J3 pb;refine jS (λe5=>?_) λe5=>?_
     .have e5:i1+1+1=a.size:=by simpa using e5
      exact wpS_pure (hD _ _ (.inl #[_,rfl,dl _ _ _ _ J4 hy e5]))
     have e5:¬ i1+1+1=a.size:=by simpa using e5
     have f1:i1+1+1<a.size:=""
     have f2:ia+ib+1<=i1+1+j3:=""
     refine jS (λ_=>wpS_pure (hD _ _ (.inr #[hy,_,_,_,_,_,_,rfl,J4,f1,hj3,f2]))) λ_=>wpS_pure (hY _ _ #[hy,_,_,_,_,_,_,rfl,J4,f1,hj3,""])
    refine jS (λkp2=>?_) λkp2=>?_
    .have J3:=J2.chunkB W.rb (k:=kb) "" (λp hp q hq=>by have:=pb1 p hp;have:=Ja W.ra hi1 hq;lia)
     rw[<- Va,<- tT]at J3;refine jS (λe4=>?_) λe4=>?_
     .have e4:jb+1+kb=b.size:=by simpa using e4
      exact wpS_pure (hD _ _ (.inl #[_,rfl,dn _ _ _ _ J3 hy (.inr e4)]))
     have e4:¬ jb+1+kb=b.size:=by simpa using e4
     exact KC _ _ #[J3,"",pb2,""]
    have kz:kb=0:=""
    exact KC _ _ #[J2,"",by rw[kz]at pb2;simpa using pb2,gw _]
   refine jS (λkp=>?_) λkp=>?_
   .have J1:=J.chunkA W.ra (k:=ka) "" (λp hp q hq=>by have:=pa1 p hp;have:=Ja W.rb k2 hq;lia)
    rw[<- Va,<- tT]at J1;refine jS (λe1=>?_) λe1=>?_
    .have e1:ja+ka+1=a.size:=by simpa using e1
     exact wpS_pure (hD _ _ (.inl #[_,rfl,dl _ _ _ _ J1 hy e1]))
    have e1:¬ ja+ka+1=a.size:=by simpa using e1
    refine jS (λe2=>?_) λe2=>?_
    .have e2:ja+ka=a.size:=by simpa using e2
     exact wpS_pure (hD _ _ (.inl #[_,rfl,dn _ _ _ _ J1 hy (.inl e2)]))
    have e2:¬ ja+ka=a.size:=by simpa using e2
    exact KB _ _ #[J1,"",pa2,""]
   have kz0:ka=0:=""
   exact KB _ _ #[J,k1,by rw[kz0]at pa2;simpa using pa2,gw _]
  .obtain⟨hy,o,ja,jb,mg2,ac,bc,rfl,J,k1,k2,k3⟩:=hK;have mx:min (max 0 (a.size+b.size)) 1=1:=""
   rw[mx]at k3;exact .inr #[hy,_,_,_,_,_,_,rfl,J,k1,k2,k3]
  rcases hc with⟨o,e,q⟩|⟨hy,o,ja,jb,mg2,ac,bc,rfl,J,k1,k2,k3⟩
  .subst hG;dsimp -zeta -zetaHave only;rw[e];exact wpS_pure (hD _ _ #[o,rfl,q])
  subst hG
  try dsimp -zeta -zetaHave only
  refine wpS_bind (J7 λy2 hy2=>wpS_pure (hY _ _ #[hy.tr hy2,_,_,_,_,rfl,J,k1,k2,by show _<=ja+jb;lia]))
 .obtain⟨hz,o,ia,ib,mg,rfl,J,i1,i2,i3⟩:=hI;lia
 obtain⟨o,e,q⟩:=hc;subst hG;dsimp -zeta -zetaHave only;rw[e];exact wpS_pure q
def Vb{a:Array aj}{n:Nat}(h:p∈a[2].take n):∃ j,j<n/\∃ hj,p=a[j]:=by
 obtain⟨j,hj,e⟩:=tB.mp h;rw[tD]at hj;have hs:j<a.size:=by simp at hj;lia
 refine#[j,"",hs,?_]
 rw[<- e];simp
def qcA{a:Array aj}{i n:Nat}(h:p∈(a[2].take n).drop i):∃ j,i<=j/\j<n/\∃ hj,p=a[j]:=by
 obtain⟨j,hj,e⟩:=tB.mp h
 grind
def KD(P:J6 rk a key 0 n k)(B:n<=a.size):(∀ p∈a[2].take k,rk p.1<rk key.1)/\∀ p∈(a[2].take n).drop k,rk key.1<rk p.1:=by
 obtain⟨p1,p2,p3⟩:=P;constructor
 .intro p hp;obtain⟨j,hj,hs,rfl⟩:=Vb hp;have:=p2 j hj
  rwa [pP,zt hs]at this
 intro p hp;obtain⟨j,hj,z,hs,rfl⟩:=qcA hp;have:=p3 j hj z
 rwa [pP,zt hs]at this
def Jc{a:Array aj}{n:Nat}(h1:1<=n)(h:n<=a.size):(a[2].take n).drop (n-1)=[a[n-1]]:=by
 rw[fS (by rw[tD];simp;lia),pt (by rw[tD];lia)]
 simp
def Jd{a:Array aj}(z:Ris rk a[2]){n:Nat}(h1:1<=n)(h:n<=a.size){p:aj}(hp:p∈a[2].take n):rk p.1<=rk a[n-1].1:=by
 obtain⟨j,hj,hs,rfl⟩:=Vb hp;rcases bL j (n-1)with c|c
 .have:=V8 z c ""
  rw[zt hs,zt ""]at this
  lia
 have:j=n-1:=""
 simp_all
def Vc(a:Array aj){i n:Nat}(h:i<=n):(a.extract i n).toList=(a[2].take n).drop i:=by
 rw[Array.toList_extract,List.drop_take]
def Je(a:Array aj)(n):(a.extract 0 n).toList=a[2].take n:=by
 simp
def qcB{st:am}{a b:Array aj}{Q:Array aj->am->Prop}(T:Tells prog w A s kd rk ini)(hk:kindOf st=kd)(W:Two rk ini a b)(ha:1<=a.size)(hb:1<=b.size)
  (h3:∀ p∈a[2],rk b[0+0].1<rk p.1)(h4:∀ q∈b[2],rk q.1<rk a[a.size-1].1)
  (h:∀ o z,Fin2 rk a[2] b[2] o[2]->Same st z->Q o z):wpS (model prog w) A E s (qcw a b) Q st:=by
 have la:a[2].length=a.size:=by simp
 have lb:b[2].length=b.size:=by simp
 have dn:∀(o:Array aj) na nb z,JH rk a[2] b[2] o[2].reverse na nb->Same st z->(na=0\/nb=0)->Q (a.extract 0 na++b.extract 0 nb++o.reverse) z:=λo na nb z J hz hc=>by
  refine h _ z ?_ hz;rw[tT,tT,Je,Je,dh];rcases hc with hc|hc
  .subst hc;rw[bR,pF];exact J.endB W.rb rfl
  subst hc;rw[bR,tQ];exact J.endA W.ra rfl
 have df:∀(o:Array aj) na nb z,JH rk a[2] b[2] o[2].reverse na nb->Same st z->nb=1->Q (b.extract 0 nb++a.extract 0 na++o.reverse) z:=λo na nb z J hz hc=>by
  refine h _ z ?_ hz;rw[tT,tT,Je,Je,dh,t5];refine J.endF W.ra W.rb λp hp q hq=>?_
  obtain⟨j,hj,hs,rfl⟩:=Vb hp;have e:b[j]=b[0+0]:=by congr 1;lia
  rw[e];exact h3 q hq
 have Z:∀(o:Array aj) na nb (h1:1<=nb) (hi:nb<=b.size),JH rk a[2] b[2] o[2].reverse na nb->(∀ q∈a[2].take na,rk q.1<rk b[nb-1].1)->JH rk a[2] b[2] (o.push b[nb-1]).toList.reverse na (nb-1):=λo na nb h1 hi J hq=>by
  have:=J.chunkB W.rb (i:=nb-1) "" (by rw[Jc h1 hi];intro p hp q hq';rw[tY.mp hq'];exact hq p hp)
  rw[Jc h1 hi]at this;rw[d9,dE];exact this
 have U:∀(o:Array aj) na nb (h1:1<=na) (hi:na<=a.size),JH rk a[2] b[2] o[2].reverse na nb->(∀ q∈b[2].take nb,rk q.1<rk a[na-1].1)->JH rk a[2] b[2] (o.push a[na-1]).toList.reverse (na-1) nb:=λo na nb h1 hi J hq=>by
  have:=J.chunkA W.ra (i:=na-1) "" (by rw[Jc h1 hi];intro p hp q hq';rw[tY.mp hq'];exact hq p hp)
  rw[Jc h1 hi]at this;rw[d9,dE];exact this
 have h5:∀ o i n,i<=n->(o++(a.extract i n).reverse).toList.reverse=(a[2].take n).drop i++o[2].reverse:=λo i n hi=>by
  rw[tT,dE,dh,List.reverse_reverse,Vc a hi]
 have h6:∀ o i n,i<=n->(o++(b.extract i n).reverse).toList.reverse=(b[2].take n).drop i++o[2].reverse:=λo i n hi=>by
  rw[tT,dE,dh,List.reverse_reverse,Vc b hi]
 have gA:∀{i} (hi:i<a.size),a[i]?=!a[i]:=λhi=>pE a _ hi
 have gB:∀{i} (hi:i<b.size),b[i]?=!b[i]:=λhi=>pE b _ hi
 refine wpS_bind (mm (pV #[rfl,?_]))
 try dsimp -zeta -zetaHave only
 refine wpS_bind (jL (gA (show a.size-1<a.size by lia)) ?_)
 have J0:JH rk a[2] b[2] (#[]:Array aj).toList.reverse a.size b.size:=#["","",by simp,by simp,λp _ q hq=>by simp at hq,λp _ q hq=>by simp at hq]
 have J1:JH rk a[2] b[2] ((List.toArray [a[a.size-1]]):Array aj).toList.reverse (a.size-1) b.size:=U #[] a.size b.size ha (gw _) J0 (λq hq=>h4 q (fy hq))
 by_cases c1:a.size-1=0
 .rw[if_pos c1[""]]
  exact wpS_pure (dn _ _ _ st J1 (.rfl' st) (.inl c1))
 rw[if_neg c1[""]]
 by_cases c2:b.size=1
 .rw[if_pos c2[""]]
  exact wpS_pure (df _ _ _ st J1 (.rfl' st) c2)
 rw[if_neg c2[""]]
 refine wpS_bind (bQ ?_);refine xg
  (λx c z=>Same st z/\∃ na nb o mg,c=(none,na,nb,o,mg)/\JH rk a[2] b[2] o[2].reverse na nb/\1<=na/\2<=nb/\x+1+(na+nb)<=a.size+b.size)
  (Q:=λc z=>∃ o,c.1=!o/\Q o z) (λF P hF x c z _ lx hI hD hY=>?_) (λc z hI=>?_) #[.rfl' st,_,_,_,_,rfl,J1,"","",""] λG hG c z hc=>?_
 .obtain⟨hz,na,nb,o,mg,rfl,J,i1,i2,i3⟩:=hI;subst hF;dsimp -zeta -zetaHave only;refine xg
   (λx c y=>y=z/\∃ B O o ac bc,c=(none,B,O,o,ac,bc)/\JH rk a[2] b[2] o[2].reverse B O/\1<=B/\2<=O/\B+O<=na+nb)
   (Q:=λc y=>(∃ o,c.1=!o/\Q o y)\/(y=z/\∃ B O o ac bc,c=(none,B,O,o,ac,bc)/\JH rk a[2] b[2] o[2].reverse B O/\1<=B/\2<=O/\B+O<=na+nb)) (λF P hF x2 c y _ lx2 hK hD hY=>?_) (λc y hK=>.inr hK) #[rfl,_,_,_,_,_,rfl,J,i1,i2,gw _] λG hG c y hc=>?_
  .obtain⟨rfl,ja,jb,o,ac,bc,rfl,J,k1,k2,k3⟩:=hK;subst hF;dsimp -zeta -zetaHave only;have jal:ja<=a.size:=by have:=J.la;lia
   have jbl:jb<=b.size:=by have:=J.lb;lia
   have ja':ja-1<a.size:=""
   have jb':jb-1<b.size:=""
   refine wpS_bind (jL (gB jb') (wpS_bind (jL (gA ja') (wpS_bind (ask2 T (hz.kd.trans hk) (W.mb _ "s") (W.ma _ "s") ?_)))))
   by_cases d:rk b[jb-1].1<rk a[ja-1].1
   .rw[tG d]
    try dsimp -zeta -zetaHave only
    rw[if_pos rfl];refine wpS_bind (jL (gA ja') ?_)
    try dsimp -zeta -zetaHave only
    have J':=U o ja jb k1 jal J (λq hq=>by have:=Jd W.rb "" jbl hq;lia)
    by_cases e:ja-1=0
    .rw[if_pos e[""]]
     exact wpS_pure (hD _ _ (.inl #[_,rfl,dn _ _ _ _ J' hz (.inl e)]))
    rw[if_neg e[""]]
    refine jS (λ_=>wpS_pure (hD _ _ (.inr #[rfl,_,_,_,_,_,rfl,J',"",k2,""]))) λ_=>wpS_pure (hY _ _ #[rfl,_,_,_,_,_,rfl,J',"",k2,""])
   rw[t7 d]
   try dsimp -zeta -zetaHave only
   rw[if_neg "d"]
   refine wpS_bind (jL (gB jb') ?_)
   try dsimp -zeta -zetaHave only
   have ne:=W.ne a[ja-1] "s" b[jb-1] "s"
   have J':=Z o ja jb "" jbl J (λq hq=>by have:=Jd W.ra k1 jal hq;lia)
   by_cases e:jb-1=1
   .rw[if_pos e[""]]
    exact wpS_pure (hD _ _ (.inl #[_,rfl,df _ _ _ _ J' hz e]))
   rw[if_neg e[""]]
   refine jS (λ_=>wpS_pure (hD _ _ (.inr #[rfl,_,_,_,_,_,rfl,J',k1,"",""]))) λ_=>wpS_pure (hY _ _ #[rfl,_,_,_,_,_,rfl,J',k1,"",""])
  rcases hc with⟨o,e,q⟩|⟨rfl,ja,jb,o,ac,bc,rfl,J,k1,k2,k3⟩
  .subst hG;dsimp -zeta -zetaHave only;rw[e];exact wpS_pure (hD _ _ #[o,rfl,q])
  subst hG
  try dsimp -zeta -zetaHave only
  refine wpS_bind (mm (pV #[rfl,?_]));refine xg
   (λx c y=>Same st y/\∃ B O o mg ac bc,c=(none,B,O,o,mg,ac,bc)/\JH rk a[2] b[2] o[2].reverse B O/\1<=B/\2<=O/\B+O+min x 1<=na+nb)
   (Q:=λc y=>(∃ o,c.1=!o/\Q o y)\/(Same st y/\∃ B O o mg ac bc,c=(none,B,O,o,mg,ac,bc)/\JH rk a[2] b[2] o[2].reverse B O/\1<=B/\2<=O/\B+O+1<=na+nb)) (λF P hF x3 c y _ lx3 hK hD hY=>?_) (λc y hK=>?_) #[hz,_,_,_,_,_,_,rfl,J,k1,k2,by show ja+jb+_<=_;lia] λG hG c y hc=>?_
  .clear J k1 k2 k3;obtain⟨hy0,ja,jb,o,mg2,ac,bc,rfl,J,k1,k2,k3⟩:=hK;subst hF;dsimp -zeta -zetaHave only
   extract_lets n1 n2 n3 n4 n5 n6 n7 n8 n9 n10 n11 n12 jp
   revert jp
   dsimp -zeta -zetaHave only[n1,n2,n3,n4,n5,n6,n7,n8,n9,n10,n11,n12];intro jp;refine Ky ?_;refine λmg3=>wpS_bind (J7 λy2 hy2=>?_)
   have hy:=hy0.tr hy2;have jal:ja<=a.size:=by have:=J.la;lia
   have jbl:jb<=b.size:=by have:=J.lb;lia
   have jb':jb-1<b.size:=""
   refine wpS_bind (jL (gB jb') ?_);refine wpS_bind (xf T (hy.kd.trans hk) (J8 W.ra W.ma (W.mb _ "s") (λp hp=>W.ne p hp b[jb-1] "s") "") "" λka P=>?_)
   try dsimp -zeta -zetaHave only
   extract_lets k0 acc jpB
   obtain⟨pa1,pa2⟩:=KD P ""
   have kal:=P.1;refine KA (f:=jpB ()) (P:=λ(i1:Nat) (o1:Array aj)=>JH rk a[2] b[2] o1[2].reverse i1 jb/\1<=i1/\i1<=a.size/\(∀ p∈a[2].take i1,rk p.1<rk b[jb-1].1)/\i1<=ja) ?_ λKB=>?_
   .intro i1 o1 ⟨J1,hi1,ial,pl2,ile⟩;refine wpS_bind (jL (gB jb') ?_)
    try dsimp -zeta -zetaHave only
    extract_lets o2
    have J2:JH rk a[2] b[2] o2[2].reverse i1 (jb-1):=Z o1 i1 jb "" jbl J1 pl2
    refine jS (λe3=>?_) λe3=>?_
    .have e3:jb-1=1:=by simpa using e3
     exact wpS_pure (hD _ _ (.inl #[_,rfl,df _ _ _ _ J2 hy e3]))
    have e3:¬ jb-1=1:=by simpa using e3
    refine wpS_bind (jL (gA (show i1-1<a.size by lia)) ?_)
    refine wpS_bind (xf T (hy.kd.trans hk) (J8 W.rb W.mb (W.ma _ "s") (λp hp=>(W.ne a[i1-1] "s" p hp).symm) "") "" λkb P2=>?_)
    try dsimp -zeta -zetaHave only
    extract_lets k5 bcc jpC
    obtain⟨pb1,pb2⟩:=KD P2 ""
    have kbl:=P2.1;refine KA (f:=jpC ()) (P:=λ(j3:Nat) (o3:Array aj)=>JH rk a[2] b[2] o3[2].reverse i1 j3/\2<=j3/\(∀ p∈b[2].take j3,rk p.1<rk a[i1-1].1)/\j3<jb) ?_ λKC=>?_
    .intro j3 o3 ⟨J3,hj3,pb,jle⟩;refine wpS_bind (jL (gA (show i1-1<a.size by lia)) ?_)
     try dsimp -zeta -zetaHave only
     extract_lets o4
     have J4:JH rk a[2] b[2] o4[2].reverse (i1-1) j3:=U o3 i1 j3 hi1 ial J3 pb;refine jS (λe5=>?_) λe5=>?_
     .have e5:i1-1=0:=by simpa using e5
      exact wpS_pure (hD _ _ (.inl #[_,rfl,dn _ _ _ _ J4 hy (.inl e5)]))
     have e5:¬ i1-1=0:=by simpa using e5
     have f1:1<=i1-1:=""
     have f2:i1-1+j3+1<=na+nb:=""
     refine jS (λ_=>wpS_pure (hD _ _ (.inr #[hy,_,_,_,_,_,_,rfl,J4,f1,hj3,f2]))) λ_=>wpS_pure (hY _ _ #[hy,_,_,_,_,_,_,rfl,J4,f1,hj3,""])
    refine jS (λY=>?_) λY=>?_
    .have Y:jb-1-kb>0:=Y;have J3:=J2.chunkB W.rb (i:=kb) "" (λp hp q hq=>by have:=pb2 q hq;have:=Jd W.ra hi1 ial hp;lia)
     rw[<- h6 _ _ _ ""]at J3
     refine jS (λe4=>?_) λe4=>?_
     .have e4:kb=1:=by simpa using e4
      exact wpS_pure (hD _ _ (.inl #[_,rfl,df _ _ _ _ J3 hy e4]))
     have e4:¬ kb=1:=by simpa using e4
     refine jS (λe6=>?_) λe6=>?_
     .have e6:kb=0:=by simpa using e6
      exact wpS_pure (hD _ _ (.inl #[_,rfl,dn _ _ _ _ J3 hy (.inr e6)]))
     have e6:¬ kb=0:=by simpa using e6
     exact KC _ _ #[J3,"",pb1,""]
    have Y:¬ jb-1-kb>0:=Y;have kz:kb=jb-1:=""
    exact KC _ _ #[J2,"",by rw[kz]at pb1;exact pb1,""]
   refine jS (λkp=>?_) λkp=>?_
   .have kp:ja-ka>0:=kp;have J1:=J.chunkA W.ra (i:=ka) "" (λp hp q hq=>by have:=pa2 q hq;have:=Jd W.rb "" jbl hp;lia)
    rw[<- h5 _ _ _ ""]at J1
    refine jS (λe1=>?_) λe1=>?_
    .have e1:ka=0:=by simpa using e1
     exact wpS_pure (hD _ _ (.inl #[_,rfl,dn _ _ _ _ J1 hy (.inl e1)]))
    have e1:¬ ka=0:=by simpa using e1
    exact KB _ _ #[J1,"","",pa1,""]
   have kp:¬ ja-ka>0:=kp;have kz0:ka=ja:=""
   exact KB _ _ #[J,k1,jal,by rw[kz0]at pa1;exact pa1,gw _]
  .obtain⟨hy,ja,jb,o,mg2,ac,bc,rfl,J,k1,k2,k3⟩:=hK;have mx:min (max 0 (a.size+b.size)) 1=1:=""
   rw[mx]at k3;exact .inr #[hy,_,_,_,_,_,_,rfl,J,k1,k2,k3]
  rcases hc with⟨o,e,q⟩|⟨hy,ja,jb,o,mg2,ac,bc,rfl,J,k1,k2,k3⟩
  .subst hG;dsimp -zeta -zetaHave only;rw[e];exact wpS_pure (hD _ _ #[o,rfl,q])
  subst hG
  try dsimp -zeta -zetaHave only
  refine wpS_bind (J7 λy2 hy2=>wpS_pure (hY _ _ #[hy.tr hy2,_,_,_,_,rfl,J,k1,k2,by show _+(ja+jb)<=_;lia]))
 .obtain⟨hz,na,nb,o,mg,rfl,J,i1,i2,i3⟩:=hI;lia
 obtain⟨o,e,q⟩:=hc;subst hG;dsimp -zeta -zetaHave only;rw[e];exact wpS_pure q
def qcC{σ:Type}{x st:σ}{Q:PUnit->σ->Prop}(h:Q ⟨⟩ x):wpS M A E s (set x) Q st:=by
 exact gu #[rfl,h]
theorem KF:∀ m k (xs:Array aj) i,i+k+m[1]<=xs[2].length ->
  ((m.zipIdx k).foldl (λa p=>a.setIfInBounds (i+p.2) p.1) xs).toList=xs[2].take (i+k)++m++xs[2].drop (i+k+m[1])
 | [],k,xs,i,h=>by simp
 | p::m,k,xs,i,h=>by
  rw[gJ]at h;have hs:i+k<xs[2].length:=""
  have ln:(xs.setIfInBounds (i+k) p).toList.length=xs[2].length:=by simp
  rw[bu,p9,KF m (k+1) _ i (by rw[ln];lia)]
  simp only[Array.toList_setIfInBounds];rw[List.take_set,List.drop_set,if_pos ""]
  have e1:(xs[2].take (i+(k+1))).set (i+k) p=xs[2].take (i+k)++[p]:=by
   rw[show i+(k+1)=i+k+1 by lia,List.take_succ_eq_append_getElem hs,List.set_append_right _ _ (by rw[tD];lia),tD,cI "",sub_self]
   rfl
  rw[e1,t5,t5,t5,show i+(k+1)+m[1]=i+k+(m[1]+1)by lia]
  rfl
def KG{P X R:List aj}(e:arr[2]=P++(X++R)){i:Nat}(h):arr[P[1]+i]?=!X[i]/\av rk arr (P[1]+i)=rk X[i].1:=by
 have g:arr[P[1]+i]?=!X[i]:=by
  have:arr[P[1]+i]?=arr[2][P[1]+i]?:=by simp
  rw[this,e,hE "",Nat.add_sub_cancel_left,t3 h,gE h]
 exact#[g,by unfold av;rw[g]]
def qcD{st:am}{i pw pw2:Nat}{P X Y R:List aj}{Q:Bool->am->Prop}(T:Tells prog w A s kd rk ini)(hk:kindOf st=kd)(hf:failedOf st=none)(ar:(arrOf st).toList=P++(X++(Y++R)))(pm:(arrOf st).toList.Perm ini[2])
  (hx:1<=X[1])(hy:1<=Y[1])(rx:Ris rk X)(ry:Ris rk Y)(p1:(pendingOf st)[i]?=!(P[1],X[1],pw))(p2:(pendingOf st)[i+1]?=!(P[1]+X[1],Y[1],pw2))
  (h:∀ z M,M.Perm (X++Y)->Ris rk M->(arrOf z).toList=P++(M++R)->kindOf z=kd->failedOf z=none->pendingOf z=((pendingOf st).setIfInBounds i (P[1],X[1]+Y[1],pw)).eraseIdxIfInBounds (i+1)->Q true z) :
  wpS (model prog w) A E s (mergeAt' i) Q st:=by
 have ar2:(arrOf st).toList=(P++X)++(Y++R):=by rw[ar,t5]
 have lpx:(P++X)[1]=P[1]+X[1]:=gD;have mem:∀ p∈(arrOf st).toList,p∈ini[2]:=λp hp=>pm.mem_iff.mp hp
 have mX:∀ p∈X,p∈ini[2]:=λp hp=>mem p (by rw[ar];simp[hp])
 have mY:∀ p∈Y,p∈ini[2]:=λp hp=>mem p (by rw[ar];simp[hp])
 have nd:((arrOf st).toList.map λp=>rk p.1).Nodup:=(pm.map _).nodup_iff.mpr T.nd
 have dis:∀ p∈X,∀ q∈Y,rk p.1≠rk q.1:=by
  rw[ar,tu,tu,tu]at nd;have n2:=(fq.mp nd).2.1;have n3:=(fq.mp n2).2.2;exact λp hp q hq=>n3 _ (gH.mpr #[p,hp,rfl]) _ (tj _ (gH.mpr #[q,hq,rfl]))
 have size:(arrOf st).size=P[1]+X[1]+Y[1]+R.length:=by
  have:=congrArg List.length ar;simp at this;lia
 have gX:∀{j} hj,(arrOf st)[P[1]+j]?=!X[j]/\av rk (arrOf st) (P[1]+j)=rk X[j].1:=λhj=>KG ar hj
 have gY:∀{j} hj,(arrOf st)[P[1]+X[1]+j]?=!Y[j]/\av rk (arrOf st) (P[1]+X[1]+j)=rk Y[j].1:=λ{j} hj=>by
  have:=KG (rk:=rk) ar2 hj
  rwa [lpx]at this
 have rX:∀ i j (h:i<j) (hj:j<X[1]),rk (X[i]'"").1<rk X[j].1:=λi j h hj=>tZ.mp rx i j "" hj h
 have rY:∀ i j (h:i<j) (hj:j<Y[1]),rk (Y[i]'"").1<rk Y[j].1:=λi j h hj=>tZ.mp ry i j "" hj h
 have y0:0<Y[1]:=""
 have h4:(∀ p∈X,∀ q∈Y,rk p.1<rk q.1)->Ris rk (X++Y):=λz=>gU.mpr #[rx,ry,z]
 have B:∀ q∈Y,rk (Y[0]'y0).1<=rk q.1:=λq hq=>by
  obtain⟨j,hj,rfl⟩:=tB.mp hq;rcases Nat.eq_zero_or_pos j with c|c
  .subst c;exact pI _
  exact cM (rY 0 j c hj)
 have O:∀ p∈X,rk p.1<=rk (X[X[1]-1]'"").1:=λp hp=>by
  obtain⟨j,hj,rfl⟩:=tB.mp hp;rcases bL j (X[1]-1)with c|c
  .exact cM (rX j _ c "")
  have:j=X[1]-1:=""
  subst this;exact pI _
 refine wpS_bind (bQ ?_)
 try dsimp only
 rw[show(pendingOf st)[i]?=_ from p1,show(pendingOf st)[i+1]?=_ from p2]
 try dsimp only
 refine wpS_bind (qcC ?_);show wpS (model prog w) A E s _ Q (SortSt.mk' (kindOf st) (arrOf st) (((pendingOf st).setIfInBounds i (P[1],X[1]+Y[1],pw)).eraseIdxIfInBounds (i+1)) (gallopOf st) (failedOf st));generalize ez:SortSt.mk' (kindOf st) (arrOf st) (((pendingOf st).setIfInBounds i (P[1],X[1]+Y[1],pw)).eraseIdxIfInBounds (i+1)) (gallopOf st) (failedOf st)=z0;have z1:arrOf z0=arrOf st:=by rw[<- ez]
 have z2:kindOf z0=kd:=by rw[<- ez];exact hk
 have z3:failedOf z0=none:=by rw[<- ez];exact hf
 have z4:pendingOf z0=((pendingOf st).setIfInBounds i (P[1],X[1]+Y[1],pw)).eraseIdxIfInBounds (i+1):=by rw[<- ez]
 have fin:(∀ p∈X,∀ q∈Y,rk p.1<rk q.1)->Q true z0:=λhh=>h z0 (X++Y) (List.Perm.refl _) (h4 hh) (by rw[z1,ar,t5]) z2 z3 z4
 have sg1:Seg rk ini (arrOf st) (Y[0]'y0) P[1] X[1]:=#["",mem,mY _ "s",λa b hab hb=>by rw[(gX "").2,(gX hb).2];exact rX a b hab hb,λa ha=>by rw[(gX ha).2];exact dis _ "s" _ "s"]
 refine wpS_bind (jL (p:=Y[0]'y0) (by have:=(gY y0).1;simpa using this) ?_)
 refine wpS_bind (xf T z2 sg1 "" λk P1=>?_)
 obtain⟨q1,q2,q3⟩:=P1;have q2:∀ j (hj:j<k),rk (X[j]'"").1<rk (Y[0]'y0).1:=λj hj=>by have:=q2 j hj;rwa [(gX "").2]at this
 have q3:∀ j h1 (hj:j<X[1]),rk (Y[0]'y0).1<rk X[j].1:=λj h1 hj=>by have:=q3 j h1 hj;rwa [(gX hj).2]at this
 try dsimp only
 by_cases c1:X[1]-k=0
 .rw[if_pos c1[""]]
  refine wpS_pure (fin λp hp q hq=>?_)
  obtain⟨j,hj,rfl⟩:=tB.mp hp;have:=q2 j ""
  have:=B q hq;lia
 rw[if_neg c1[""]]
 have xl:X[1]-1<X[1]:=""
 have sg2:Seg rk ini (arrOf st) X[X[1]-1] (P[1]+X[1]) Y[1]:=#["",mem,mX _ "s",λa b hab hb=>by rw[(gY "").2,(gY hb).2];exact rY a b hab hb,λa ha=>by rw[(gY ha).2];exact(dis _ "s" _ "s").symm]
 refine wpS_bind (jL (p:=X[X[1]-1]) (by
  have:=(gX xl).1;rw[show P[1]+k+(X[1]-k)-1=P[1]+(X[1]-1)by lia]
  exact this) ?_)
 refine wpS_bind (xf T z2 sg2 "" λkb P2=>?_)
 obtain⟨r1,r2,r3⟩:=P2;have r2:∀ j (hj:j<kb),rk (Y[j]'"").1<rk X[X[1]-1].1:=λj hj=>by have:=r2 j hj;rwa [(gY "").2]at this
 have r3:∀ j (h1:kb<=j) (hj:j<Y[1]),rk X[X[1]-1].1<rk Y[j].1:=λj h1 hj=>by have:=r3 j h1 hj;rwa [(gY hj).2]at this
 try dsimp only
 by_cases c2:kb=0
 .rw[if_pos c2[""]]
  refine wpS_pure (fin λp hp q hq=>?_)
  obtain⟨j,hj,rfl⟩:=tB.mp hq;have:=r3 j "" hj
  have:=O p hp;lia
 rw[if_neg c2[""]]
 generalize eX:(arrOf st).extract (P[1]+k) (P[1]+X[1])=x;generalize eY:(arrOf st).extract (P[1]+X[1]) (P[1]+X[1]+kb)=y;have lx:x[2]=X.drop k:=by
  rw[<- eX,Vc _ "",ar,List.take_append,tU "",List.drop_append,pt "",pF,show P[1]+X[1]-P[1]=X[1] by lia,cU (gw _),dz,show P[1]+k-P[1]=k by lia]
 have ly:y[2]=Y.take kb:=by
  rw[<- eY,Va,ar2,List.drop_append,pt "",pF,lpx,sub_self,List.drop_zero,cU r1]
 have sx:x.size=X[1]-k:=by have:=congrArg List.length lx;rw[pi]at this;simpa using this
 have sy:y.size=kb:=by have:=congrArg List.length ly;rw[tD,cI r1]at this;simpa using this
 have W:Two rk ini x y:=#[by rw[lx];exact rx.drop,by rw[ly];exact ry.take,λp hp=>mX p (by rw[lx]at hp;exact fA hp),λp hp=>mY p (by rw[ly]at hp;exact fy hp),λp hp q hq=>dis p (by rw[lx]at hp;exact fA hp) q (by rw[ly]at hq;exact fy hq)]
 have eY0:y[0+0]=Y[0]'y0:=by
  have:y[0]?=(Y[0]?):=by
   have e:y[0]?=y[2][0]?:=by simp
   rw[e,ly,cg,if_pos ""]
  rw[pE y 0 "",gE y0]at this
  exact tP this
 have eXl:x[x.size-1]'""=X[X[1]-1]:=by
  have:x[x.size-1]?=X[X[1]-1]?:=by
   have e:x[x.size-1]?=x[2][x.size-1]?:=by simp
   rw[e,lx,List.getElem?_drop,sx];congr 1;lia
  rw[pE x (x.size-1) "",gE xl]at this
  exact tP this
 have first:∀ p∈x[2],rk (y[0]'"").1<rk p.1:=λp hp=>by
  rw[lx]at hp;obtain⟨j,hj,rfl⟩:=tB.mp hp;rw[pi]at hj;rw[eY0,List.getElem_drop];exact q3 (k+j) "" ""
 have U:∀ q∈y[2],rk q.1<rk (x[x.size-1]'"").1:=λq hq=>by
  rw[ly]at hq;obtain⟨j,hj,rfl⟩:=tB.mp hq;rw[tD]at hj;rw[eXl,List.getElem_take];exact r2 j ""
 have Z:∀(o:Array aj) (z:am),Fin2 rk x[2] y[2] o[2]->Same z0 z->Q true (SortSt.mk' (kindOf z) (o[2].zipIdx.foldl (λa p=>a.setIfInBounds (P[1]+k+p.2) p.1) (arrOf z)) (pendingOf z) (gallopOf z) (failedOf z)):=λo z F hz=>by
  obtain⟨fp,fu⟩:=F;rw[lx,ly]at fp;have ol:o[2].length=X[1]-k+kb:=by
   have:=fp.length_eq;rw[gD,pi,tD,cI r1]at this;exact this
  have h3:∀ p∈o[2],p∈X.drop k\/p∈Y.take kb:=λp hp=>gC.mp (fp.mem_iff.mp hp)
  have az:arrOf z=arrOf st:=hz.ar.trans z1;have wl:=KF o[2] 0 (arrOf st) (P[1]+k) (by
   have e:(arrOf st).toList.length=(arrOf st).size:=by simp
   rw[e,size,ol];lia)
  rw[add_zero]at wl;have t1:(arrOf st).toList.take (P[1]+k)=P++X.take k:=by
   rw[ar,List.take_append,tU "",show P[1]+k-P[1]=k by lia,cU q1]
  have t2:(arrOf st).toList.drop (P[1]+k+o[2].length)=Y.drop kb++R:=by
   rw[ar2,ol,List.drop_append,pt "",pF,lpx,show P[1]+k+(X[1]-k+kb)-(P[1]+X[1])=kb by lia,cT r1]
  rw[t1,t2]at wl;refine h _ (X.take k++(o[2]++Y.drop kb)) ?_ ?_ ?_ (hz.kd.trans z2) (hz.fl.trans z3) (hz.pd.trans z4)
  .have e:X++Y=X.take k++((X.drop k++Y.take kb)++Y.drop kb):=by
    rw[t5,tR,<- t5,tR]
   rw[e];exact cu _ (fp.append_right _)
  .have lo:∀ p∈X.take k,∀ q∈Y,rk p.1<rk q.1:=λp hp q hq=>by
    obtain⟨j,hj,rfl⟩:=tB.mp hp;rw[tD]at hj;rw[List.getElem_take];have:=q2 j ""
    have:=B q hq;lia
   have hi:∀ p∈X,∀ q∈Y.drop kb,rk p.1<rk q.1:=λp hp q hq=>by
    obtain⟨j,hj,rfl⟩:=tB.mp hq;rw[pi]at hj;rw[List.getElem_drop];have:=r3 (kb+j) "" ""
    have:=O p hp;lia
   have sX:=gU.mp (show Ris rk (X.take k++X.drop k)by rw[tR];exact rx)
   have sY:=gU.mp (show Ris rk (Y.take kb++Y.drop kb)by rw[tR];exact ry)
   refine gU.mpr #[rx.take,gU.mpr #[fu,ry.drop,λp hp q hq=>?_],λp hp q hq=>?_]
   .rcases h3 p hp with hp|hp
    .exact hi p (fA hp) q hq
    exact sY.2.2 p hp q hq
   rcases gC.mp hq with hq|hq
   .rcases h3 q hq with hq|hq
    .exact sX.2.2 p hp q hq
    exact lo p hp q (fy hq)
   exact lo p hp q (fA hq)
  show(o[2].zipIdx.foldl (λa p=>a.setIfInBounds (P[1]+k+p.2) p.1) (arrOf z)).toList=_
  rw[az,wl];simp
 refine jS (λ_=>?_) λ_=>?_
 .refine wpS_bind (qcz T z2 W "" "" first U λo z F hz=>?_)
  refine wpS_bind (wpS_modify ?_);refine wpS_bind (bQ ?_);have e:(failedOf z).isNone=true:=by rw[hz.fl,z3];rfl
  have:=Z o z F hz;refine wpS_pure ?_;show Q (failedOf z).isNone _;rw[e];exact this
 refine wpS_bind (qcB T z2 W "" "" first U λo z F hz=>?_)
 refine wpS_bind (wpS_modify ?_);refine wpS_bind (bQ ?_);have e:(failedOf z).isNone=true:=by rw[hz.fl,z3];rfl
 have:=Z o z F hz;refine wpS_pure ?_;show Q (failedOf z).isNone _;rw[e];exact this
variable{pd:Array (Nat×Nat×Nat)}{hd:List aj}
structure Md(kd:SortKind)(ini:Array Keyed)(pd:Array (Nat×Nat×Nat))(hd:List Keyed)(z:SortSt):Prop where
 pm:(arrOf z).Perm ini
 kd:kindOf z=kd
 fl:failedOf z=none
 pn:pendingOf z=pd
 hd:(arrOf z).toList.take hd[1]=hd
def Md.sz(m:Md kd ini pd hd z):(arrOf z).size=ini.size:=m.pm.size_eq
def Md.le(m:Md kd ini pd hd z):hd[1]<=ini.size:=by
 have:=congrArg List.length m.hd;rw[tD]at this;have e:(arrOf z).toList.length=ini.size:=by simp;exact m.sz
 lia
def Md.put(m:Md kd ini pd hd z){xs:Array aj}(p:xs.Perm (arrOf z))(B:∀ i,i<hd[1]->xs[i]?=(arrOf z)[i]?):Md kd ini pd hd (setArr z xs):=by
 refine#[p.trans m.pm,m.kd,m.fl,m.pn,?_];rw[<- m.hd];apply cG;intro i;have hl:min hd[1] (arrOf z).toList.length=hd[1]:=by
  have:=m.le;have e:(arrOf z).toList.length=ini.size:=by simp;exact m.sz
  lia
 rw[cg,cg]
 simp_all
def Md.get(m:Md kd ini pd hd z){i:Nat}(hi:i<ini.size):∃ p,(arrOf z)[i]?=!p/\p∈ini[2]/\av rk (arrOf z) i=rk p.1:=by
 have h:i<(arrOf z).size:=by rw[m.sz];exact hi
 have e:(arrOf z)[i]?=!(arrOf z)[i]:=pE _ i h;refine#[(arrOf z)[i],e,((fN.mp m.pm).mem_iff.mp "s"),?_]
 unfold av;rw[e]
def Md.ask(T:Tells prog w A s kd rk ini)(m:Md kd ini pd hd z)(hi:i<ini.size)(B:j<ini.size)(h:Q (!(decide (av rk (arrOf z) i<av rk (arrOf z) j))) z) :
  wpS (model prog w) A E s (ltAt' i j) Q z:=by
 obtain⟨p,e1,m1,a1⟩:=m.get hi;obtain⟨q,e2,m2,a2⟩:=m.get B;rw[a1,a2]at h;exact wpS_bind (bQ (wpS_bind (jL e1 (wpS_bind (jL e2 (ask2 T m.kd m1 m2 h))))))
def Md.ne(T:Tells prog w A s kd rk ini)(m:Md kd ini pd hd z){i j:Nat}(hi:i<ini.size)(B:j<ini.size)(h:i≠j):av rk (arrOf z) i≠av rk (arrOf z) j:=by
 have li:i<(arrOf z).size:=by rw[m.sz];exact hi
 have lj:j<(arrOf z).size:=by rw[m.sz];exact B
 rw[zt li,zt lj];refine λq=>h ((List.getElem_inj (h₀:=by simpa using li) (h₁:=by simpa using lj) (((fN.mp m.pm).map λp=>rk p.1).nodup_iff.mpr T.nd)).mp ?_)
 simpa using q
abbrev Upl(rk:aa->Int)(z:am)(lo k:Nat):Prop:=∀ i j,i<j->j<k->av rk (arrOf z) (lo+i)<av rk (arrOf z) (lo+j)
abbrev Dnl(rk:aa->Int)(z:am)(lo k:Nat):Prop:=∀ i j,i<j->j<k->av rk (arrOf z) (lo+j)<av rk (arrOf z) (lo+i)
def Upl.more{lo x:Nat}(u:Upl rk z lo x)(B:1<=x)(h:av rk (arrOf z) (lo+x-1)<av rk (arrOf z) (lo+x)):Upl rk z lo (x+1):=λi j h1 h2=>by
 by_cases c:j<x
 .exact u i j h1 c
 have ej:j=x:=""
 subst ej;by_cases ci:i=j-1
 .subst ci;rw[show lo+(j-1)=lo+j-1 by lia]
  exact h
 have:=u i (j-1) "" ""
 rw[show lo+(j-1)=lo+j-1 by lia]at this
 lia
def Dnl.more{lo x:Nat}(u:Dnl rk z lo x)(B:1<=x)(h:av rk (arrOf z) (lo+x)<av rk (arrOf z) (lo+x-1)):Dnl rk z lo (x+1):=λi j h1 h2=>by
 by_cases c:j<x
 .exact u i j h1 c
 have ej:j=x:=""
 subst ej;by_cases ci:i=j-1
 .subst ci;rw[show lo+(j-1)=lo+j-1 by lia]
  exact h
 have:=u i (j-1) "" ""
 rw[show lo+(j-1)=lo+j-1 by lia]at this
 lia
def qcE(T:Tells prog w A s kd rk ini)(m:Md kd ini pd hd z)(B:hd[1]+n=ini.size)(h1:1<=n)
  (h:∀ r y,Md kd ini pd hd y->1<=r->r<=n->Upl rk y hd[1] r->Q ↑r y):wpS (model prog w) A E s (countRun' hd[1] n) Q z:=by
 generalize el:hd[1]=lo at *;refine wpS_bind (wpS_mono (wpS_forRange (λx c y=>y=z/\c=(none,x)/\Upl rk z lo x) (Q:=λc y=>y=z/\∃ x,c=(none,x)/\1<=x/\x<=n/\Upl rk z lo x/\(x=n\/av rk (arrOf z) (lo+x)<av rk (arrOf z) (lo+x-1))) (λx c y lx hx hI=>?_) (λc y hI=>?_) #[rfl,rfl,λi j a b=>by lia]) λc y hc=>?_)
 .obtain⟨rfl,rfl,u⟩:=hI
  try dsimp only
  refine wpS_bind (m.ask T "" "" ?_)
  by_cases c:av rk (arrOf y) (lo+x)<av rk (arrOf y) (lo+x-1)
  .rw[tG c];exact wpS_pure #[rfl,x,rfl,lx,"",u,.inr c]
  rw[t7 c];have:=m.ne T (i:=lo+x) (j:=lo+x-1) "" "" ""
  exact wpS_pure #[rfl,rfl,u.more lx ""]
 .obtain⟨rfl,rfl,u⟩:=hI;have e:max 1 n=n:=""
  rw[e]at u ⊢;exact#[rfl,n,rfl,h1,gw _,u,.inl rfl]
 obtain⟨rfl,k,rfl,k1,k2,u,o⟩:=hc
 try dsimp only
 by_cases c:k=n
 .rw[if_pos c[""]]
  exact wpS_pure (h k y m k1 k2 u)
 rw[if_neg c[""]]
 have lt:=o.resolve_left c;by_cases c1:k>1
 .rw[if_pos c1];refine wpS_bind (m.ask T "" "" ?_)
  have le:=u 0 (k-1) "" ""
  rw[add_zero,show lo+(k-1)=lo+k-1 by lia]at le
  rw[tG le];exact wpS_pure (h k y m k1 k2 u)
 rw[if_neg c1];have e:k=1:=""
 subst e;refine wpS_bind (mm (pV #[rfl,?_]));refine wpS_bind (wpS_mono (wpS_forRange (λx c v=>v=y/\c=(none,x,0)/\Dnl rk y lo x) (Q:=λc v=>v=y/\∃ x,c=(none,x,0)/\2<=x/\x<=n/\Dnl rk y lo x) (λx c v lx hx hI=>?_) (λc v hI=>?_) #[rfl,rfl,λi j a b=>?_]) λc v hc=>?_)
 .obtain⟨rfl,rfl,u'⟩:=hI
  try dsimp only
  refine wpS_bind (m.ask T "" "" ?_)
  by_cases c:av rk (arrOf v) (lo+x)<av rk (arrOf v) (lo+x-1)
  .rw[tG c]
   try dsimp only
   rw[if_pos rfl,if_neg ""]
   exact wpS_pure #[rfl,rfl,u'.more "" c]
  rw[t7 c]
  try dsimp only
  rw[if_neg "d"]
  have:=m.ne T (i:=lo+x) (j:=lo+x-1) "" "" ""
  refine wpS_bind (m.ask T "" "" ?_)
  rw[tG (show av rk (arrOf v) (lo+x-1)<av rk (arrOf v) (lo+x)by lia)]
  exact wpS_pure #[rfl,x,rfl,"","",u']
 .obtain⟨rfl,rfl,u'⟩:=hI;have e:max (1+1) n=n:=""
  rw[e]at u' ⊢;exact#[rfl,n,rfl,"",gw _,u']
 .have e1:i=0:=""
  have e2:j=1:=""
  subst e1 e2;simpa using lt
 obtain⟨rfl,x,rfl,x1,x2,u'⟩:=hc
 try dsimp only
 rw[if_neg ""]
 have hz:lo+x<=(arrOf v).size:=by rw[m.sz];lia
 have gm:=λk=>getElem?_mirror_all (i:=lo) hz k
 have m2:Md kd ini pd hd (setArr v (mirror (arrOf v) lo (lo+x) ((lo+x-lo)/2))):=m.put (mirror_perm _ _ _ _) (λi hi=>by rw[gm,if_neg ""])
 refine wpS_bind (wpS_reverse ?_);generalize ey:setArr v (mirror (arrOf v) lo (lo+x) ((lo+x-lo)/2))=y2 at m2;have u2:Upl rk y2 lo x:=λi j a b=>by
  rw[<- ey];show av rk (mirror (arrOf v) lo (lo+x) ((lo+x-lo)/2)) (lo+i)<av rk (mirror (arrOf v) lo (lo+x) ((lo+x-lo)/2)) (lo+j);rw[YJ hz,YJ hz,if_pos "",if_pos ""]
  have:=u' (x-1-j) (x-1-i) "" ""
  rw[show lo+(lo+x)-1-(lo+i)=lo+(x-1-i)by lia,show lo+(lo+x)-1-(lo+j)=lo+(x-1-j)by lia]
  exact this
 refine wpS_bind (wpS_mono (wpS_forRange (λt c v=>v=y2/\c=(none,t)/\Upl rk y2 lo t) (Q:=λc v=>v=y2/\∃ t,c=(none,t)/\1<=t/\t<=n/\Upl rk y2 lo t) (λt c v lx hx hI=>?_) (λc v hI=>?_) #[rfl,rfl,u2]) λc v hc=>?_)
 .obtain⟨rfl,rfl,u3⟩:=hI
  try dsimp only
  refine wpS_bind (m2.ask T "" "" ?_)
  by_cases c:av rk (arrOf v) (lo+t)<av rk (arrOf v) (lo+t-1)
  .rw[tG c];exact wpS_pure #[rfl,t,rfl,"","",u3]
  rw[t7 c];have:=m2.ne T (i:=lo+t) (j:=lo+t-1) "" "" ""
  exact wpS_pure #[rfl,rfl,u3.more "" ""]
 .obtain⟨rfl,rfl,u3⟩:=hI;have e:max x n=n:=""
  rw[e]at u3 ⊢;exact#[rfl,n,rfl,h1,gw _,u3]
 obtain⟨rfl,t,rfl,t1,t2,u3⟩:=hc;exact wpS_pure (h t v m2 t1 t2 u3)
def qcF(T:Tells prog w A s kd rk ini)(m:Md kd ini pd hd z)(Z:hd[1]+n<=ini.size)(h2:ok<=n)(u:Upl rk z hd[1] ok)
  (h:∀ y,Md kd ini pd hd y->Upl rk y hd[1] n->Q true y):wpS (model prog w) A E s (binarySort' hd[1] n ok) Q z:=by
 generalize el:hd[1]=lo at *;refine wpS_bind (wpS_mono (wpS_forRange (λk c y=>c=(none,())/\Md kd ini pd hd y/\Upl rk y lo (min k n)) (Q:=λc y=>c=(none,())/\Md kd ini pd hd y/\Upl rk y lo n) (λk c y l1 l2 hI=>?_) (λc y hI=>?_) #[rfl,m,?_]) λc y hc=>?_)
 .obtain⟨rfl,m',u'⟩:=hI;have ek:min k n=k:=""
  rw[ek]at u';have ul:∀ i j,i<=j->j<k->av rk (arrOf y) (lo+i)<=av rk (arrOf y) (lo+j):=λi j a b=>by
   rcases bL i j with c|c
   .exact cM (u' i j c b)
   rw[show i=j by lia];exact pI _
  refine wpS_bind (wpS_mono (wpS_forRange (λx c v=>v=y/\∃ l r,c=(none,l,r)/\l<=r/\r<=k/\r-l<=k-x/\(∀ i,i<l->av rk (arrOf y) (lo+i)<av rk (arrOf y) (lo+k))/\∀ i,r<=i->i<k->av rk (arrOf y) (lo+k)<av rk (arrOf y) (lo+i))
   (Q:=λc v=>v=y/\∃ l r,c=(none,l,r)/\l<=k/\(∀ i,i<l->av rk (arrOf y) (lo+i)<av rk (arrOf y) (lo+k))/\∀ i,l<=i->i<k->av rk (arrOf y) (lo+k)<av rk (arrOf y) (lo+i))
   (λx c v _ lx hJ=>?_) (λc v hJ=>?_) #[rfl,0,k,rfl,"","","",λi hi=>by lia,λi a b=>by lia]) λc v hJ=>?_)
  .obtain⟨rfl,l,r,rfl,lr,O,U,B,hi⟩:=hJ
   try dsimp only
   by_cases ge:l≥r
   .rw[if_pos ge];have:l=r:=""
    subst this;exact wpS_pure #[rfl,l,l,rfl,O,B,hi]
   rw[if_neg ge];refine wpS_bind (m'.ask T "" "" ?_)
   have ne:=m'.ne T (i:=lo+k) (j:=lo+(l+r)/2) "" "" ""
   by_cases c:av rk (arrOf v) (lo+k)<av rk (arrOf v) (lo+(l+r)/2)
   .rw[tG c];refine wpS_pure #[rfl,l,(l+r)/2,rfl,"","","",B,λi a b=>?_]
    have:=ul ((l+r)/2) i a b;lia
   rw[t7 c];refine wpS_pure #[rfl,(l+r)/2+1,r,rfl,"","","",λi a=>?_,hi]
   have:=ul i ((l+r)/2) "" ""
   lia
  .obtain⟨rfl,l,r,rfl,lr,O,U,B,hi⟩:=hJ;have:l=r:=""
   subst this;exact#[rfl,l,l,rfl,O,B,hi]
  obtain⟨rfl,l,r,rfl,lk,B,hi⟩:=hJ
  try dsimp only
  have hz:lo+k<(arrOf v).size:=by rw[m'.sz];lia
  have gb:=λt=>getElem?_bubble hz (lo+k-(lo+l)) "" t
  refine wpS_bind (wpS_modify (wpS_pure #[rfl,m'.put (bubble_perm _ _ _) λi Y=>?_,?_]))
  .have:=gb i;rw[if_neg "",if_neg ""]at this
   exact this
  have e1:min (k+1) n=k+1:=""
  have e2:lo+k-(lo+k-(lo+l))=lo+l:=""
  rw[e1];intro i j a b;show av rk (bubble (arrOf v) (lo+k) (lo+k-(lo+l))) (lo+i)<av rk (bubble (arrOf v) (lo+k) (lo+k-(lo+l))) (lo+j);rw[YI hz "",YI hz "",e2]
  by_cases i1:i=l
  .rw[if_pos "",if_neg "",if_pos "",show lo+j-1=lo+(j-1)by lia]
   exact hi _ "" ""
  rw[if_neg ""]
  by_cases i2:l<i/\i<=k
  .rw[if_pos "",if_neg "",if_pos "",show lo+i-1=lo+(i-1)by lia,show lo+j-1=lo+(j-1)by lia]
   exact u' _ _ "" ""
  rw[if_neg ""]
  by_cases j1:j=l
  .rw[if_pos ""]
   exact B _ ""
  rw[if_neg ""]
  by_cases j2:l<j/\j<=k
  .rw[if_pos "",show lo+j-1=lo+(j-1)by lia]
   by_cases q:i<j-1
   .exact u' _ _ q ""
   lia
  rw[if_neg ""]
  exact u' _ _ a ""
 .obtain⟨hc,m',u'⟩:=hI;have e:min (max (max ok 1) n) n=n:=""
  rw[e]at u';exact#[hc,m',u']
 .exact λi j a b=>u i j a ""
 obtain⟨rfl,m',u'⟩:=hc;exact wpS_pure (h y m' u')
end
section
variable{prog:af}{w:World}{A:ag}{E:aa->ab->Prop}{s:ab}{kd:SortKind}{rk:aa->Int}{ini:Array aj}
def PM:Nat->List (Nat×Nat×Nat)->List (List aj)->Prop
 | _,[],[]=>True
 | off,p::pd,R::rs=>p.1=off/\p.2.1=R.length/\PM (off+R.length) pd rs
 | _,_,_=>False
theorem PM.len:∀{off} {pd} {rs},PM off pd rs->pd[1]=rs[1]
 | _,[],[],_=>rfl
 | _,p::pd,R::rs,h=>by rw[gJ,gJ,PM.len h.2.2]
 | _,[],_::_,h=>h.elim
 | _,_::_,[],h=>h.elim
theorem PM.split:∀{pre} {off} {pd} {rs},PM off pd (pre++rs)->∃ p1 p2,pd=p1++p2/\PM off p1 pre/\PM (off+pre.flatten.length) p2 rs
 | [],off,pd,rs,h=>#[[],pd,rfl,trivial,by simpa using h]
 | R::pre,off,[],rs,h=>h.elim
 | R::pre,off,p::pd,rs,h=>by
  obtain⟨h1,h2,h3⟩:=h;obtain⟨p1,p2,e,g1,g2⟩:=PM.split h3;refine#[p::p1,p2,by rw[e];rfl,#[h1,h2,g1],?_]
  rw[tS,gD,<- add_assoc];exact g2
theorem PM.join:∀{pre} {off} {p1 p2} {rs},PM off p1 pre->PM (off+pre.flatten.length) p2 rs->PM off (p1++p2) (pre++rs)
 | [],off,[],p2,rs,_,h=>by simpa using h
 | [],off,_::_,p2,rs,h,_=>h.elim
 | R::pre,off,[],p2,rs,h,_=>h.elim
 | R::pre,off,p::p1,p2,rs,h,k=>by
  obtain⟨h1,h2,h3⟩:=h;rw[tS,gD,<- add_assoc]at k;exact#[h1,h2,PM.join h3 k]
structure Rn(kd:SortKind)(rk:Value->Int)(ini:Array Keyed)(runs:List (List Keyed))(rest:List Keyed)(z:SortSt):Prop where
 ar:(arrOf z).toList=runs.flatten++rest
 pm:(arrOf z).Perm ini
 kd:kindOf z=kd
 fl:failedOf z=none
 ok:∀ R∈runs,1<=R.length/\Ris rk R
 st:PM 0 (pendingOf z).toList runs
def Rn.merge{B:List (List aj)}{rest:List aj}{i:Nat}{Q:Bool->am->Prop}(T:Tells prog w A s kd rk ini)(R:Rn kd rk ini B rest z)(hi:i+1<B[1])
  (h:∀ y rs,rs.flatten.length=B.flatten.length->rs[1]+1=B[1]->Rn kd rk ini rs rest y->Q true y):wpS (model prog w) A E s (mergeAt' i) Q z:=by
 have e1:B=B.take i++(B[i]::B[i+1]::B.drop (i+2)):=by
  simp
 generalize hp:B.take i=pre at e1;generalize B[i]=X at e1;generalize B[i+1]=Y at e1;generalize B.drop (i+2)=post at e1;have pl:pre[1]=i:=by rw[<- hp,tD];lia
 have O:=R.ok X (by rw[e1];simp)
 have okY:=R.ok Y (by rw[e1];simp)
 have st:=R.st;rw[e1]at st;obtain⟨p1,p2,ep,g1,g2⟩:=st.split;have l1:=g1.len;cases p2 with
 | nil=>exact g2.elim
 | cons q1 p2 =>
  cases p2 with
  | nil=>exact g2.2.2.elim
  | cons q2 p3 =>
   obtain⟨a1,a2,b1,b2,g3⟩:=g2;have x1:(pendingOf z)[i]?=!(pre.flatten.length,X[1],q1.2.2):=by
    have e:(pendingOf z)[i]?=(pendingOf z).toList[i]?:=by simp
    rw[e,ep,hE "",show i-p1[1]=0 by lia]
    grind
   have x2:(pendingOf z)[i+1]?=!(pre.flatten.length+X[1],Y[1],q2.2.2):=by
    have e:(pendingOf z)[i+1]?=(pendingOf z).toList[i+1]?:=by simp
    rw[e,ep,hE "",show i+1-p1[1]=1 by lia]
    obtain⟨u,v,t⟩:=q2;simp at b1 b2 ⊢;exact#[b1,b2]
   refine qcD (P:=pre.flatten) (X:=X) (Y:=Y) (R:=post.flatten++rest) T R.kd R.fl (by rw[R.ar,e1];simp) (fN.mp R.pm) O.1 okY.1 O.2 okY.2 x1 x2 λy M U uM Z kM fM pM=>?_
   have ml:M[1]=X[1]+Y[1]:=by rw[U.length_eq,gD]
   refine h y (pre++(M::post)) (by rw[e1];simp;lia) (by rw[e1];simp;lia) #[by rw[Z];simp,?_,kM,fM,λS hS=>?_,?_]
   .refine fN.mpr (List.Perm.trans ?_ (fN.mp R.pm));rw[Z,R.ar,e1];simp[List.flatten_append,tS,t5];refine cu _ ?_;rw[<- t5 X Y];exact U.append_right _
   .rcases gC.mp hS with hS|hS
    .exact R.ok S (by rw[e1];exact tj _ hS)
    rcases gy.mp hS with rfl|hS
    .exact#[by have:=O.1;lia,uM]
    exact R.ok S (by rw[e1];simp[hS])
   have ep2:(pendingOf y).toList=p1++((pre.flatten.length,X[1]+Y[1],q1.2.2)::p3):=by
    rw[pM];have:(((pendingOf z).setIfInBounds i (pre.flatten.length,X[1]+Y[1],q1.2.2)).eraseIdxIfInBounds (i+1)).toList=((pendingOf z).toList.set i (pre.flatten.length,X[1]+Y[1],q1.2.2)).eraseIdx (i+1):=by
     simp[Array.toList_eraseIdxIfInBounds]
    rw[this,ep,List.set_append_right _ _ "",show i-p1[1]=0 by lia,fO,List.eraseIdx_append_of_length_le "",show i+1-p1[1]=1 by lia]
    rfl
   rw[ep2];refine g1.join #[by rw[pP],ml.symm,?_]
   rw[ml,<- add_assoc];exact g3
theorem PM.repower:∀{off} {pd} {rs} f k,(∀ p,(f p).1=p.1/\(f p).2.1=p.2.1)->PM off pd rs->PM off (pd.modify k f) rs
 | _,[],[],f,k,_,_=>by simp[PM]
 | _,[],_::_,f,k,_,h=>h.elim
 | _,_::_,[],f,k,_,h=>h.elim
 | off,p::pd,R::rs,f,0,hf,h=>by
  obtain⟨h1,h2,h3⟩:=h;exact#[(hf p).1.trans h1,(hf p).2.trans h2,h3]
 | off,p::pd,R::rs,f,k+1,hf,h=>by
  obtain⟨h1,h2,h3⟩:=h;exact#[h1,h2,PM.repower f k hf h3]
theorem KH:∀{rs:List (List aj)},(∀ R∈rs,1<=R.length)->rs[1]<=rs.flatten.length
 | [],_=>gw _
 | R::rs,h=>by
  have b:=KH λS hS=>h S (gj _ hS)
  grind
def qcG(m:Md kd ini pd hd y)(B:hd[1]+n<=ini.size)(u:Upl rk y hd[1] n):∃ N rest,(arrOf y).toList=hd++(N++rest)/\N[1]=n/\Ris rk N:=by
 have e:(arrOf y).toList.length=ini.size:=by simp;exact m.sz
 refine#[((arrOf y).toList.drop hd[1]).take n,((arrOf y).toList.drop hd[1]).drop n,?_,?_,?_]
 .rw[tR]
  conv=>lhs;rw[<- tR hd[1] (arrOf y).toList,m.hd]
 .grind
 refine tZ.mpr ?_;intro i j hi hj z;rw[tD]at hi hj;have:=u i j z ""
 rw[zt (by rw[m.sz];lia),zt (by rw[m.sz];lia)]at this
 simpa using this
def qcH [Decidable c]{a b n:Nat}(h1:a<=n)(h2:b<=n):(if c then a else b)<=n:=by by_cases h:c<;>simp[h,h1,h2]
def qcI{f:Nat->StateT σ Sem α}{P:Nat->σ->Prop}{x:StateT σ Sem α}{Q:α->σ->Prop}{st:σ}(h:∀ r y,P r y->wpS M A E s (f r) Q y)(k:(∀ r y,P r y->wpS M A E s (f r) Q y)->wpS M A E s x Q st):wpS M A E s x Q st:=k h
def qcJ{st:am}{Q:Unit->am->Prop}(T:Tells prog w A s kd rk ini)(p0:(arrOf st).Perm ini)(k0:kindOf st=kd)(f0:failedOf st=none)(d0:pendingOf st=#[])
  (h:∀ z,(arrOf z).Perm ini->failedOf z=none->Ris rk (arrOf z).toList->Q () z):wpS (model prog w) A E s sortRuns' Q st:=by
 refine wpS_bind (bQ ?_);have sz0:(arrOf st).size=ini.size:=p0.size_eq;rw[show(arrOf st).size=ini.size from sz0]
 have R0:Rn kd rk ini [] (arrOf st).toList st:=#[rfl,p0,k0,f0,(λ_ hr=>nomatch hr),by rw[d0];trivial]
 refine wpS_bind (wpS_mono (wpS_forRange (λx c z=>∃ lo B rest,c=(none,lo)/\Rn kd rk ini B rest z/\lo=B.flatten.length/\x<=lo) (Q:=λc z=>c.1=none/\∃ B,Rn kd rk ini B [] z) (λx c z _ lx hI=>?_) (λc z hI=>?_) #[0,[],_,rfl,R0,rfl,gw _]) λc z hc=>?_)
 .obtain⟨lo,B,rest,rfl,R,rfl,hx⟩:=hI;have zl:(arrOf z).toList.length=ini.size:=by simp;exact R.pm.size_eq
  have ll:B.flatten.length+rest[1]=ini.size:=by rw[<- zl,R.ar,gD]
  by_cases c:B.flatten.length≥ini.size
  .rw[if_pos c];have er:rest=[]:=fj.mp ""
   subst er;exact wpS_pure #[rfl,B,R]
  rw[if_neg c];have M0:Md kd ini (pendingOf z) B.flatten z:=#[R.pm,R.kd,R.fl,rfl,by rw[R.ar,List.take_left]]
  refine wpS_bind (qcE T M0 "" "" λr y my r1 r2 uy=>?_)
  try dsimp -zeta -zetaHave only
  extract_lets n0 jp force0
  refine qcI (f:=jp ()) (P:=λO y=>Md kd ini (pendingOf z) B.flatten y/\Upl rk y B.flatten.length O/\1<=O/\B.flatten.length+O<=ini.size) ?_ λK=>?_
  .intro O y ⟨my,uy,fo1,hrun⟩;refine wpS_bind (bQ ?_);obtain⟨N,U,ey,nl,un⟩:=qcG my hrun uy;have Ry:Rn kd rk ini B (N++U) y:=#[ey,my.pm,my.kd,my.fl,R.ok,by rw[my.pn];exact R.st]
   have Y:∀ v rs,Rn kd rk ini rs (N++U) v->rs.flatten.length=B.flatten.length->Rn kd rk ini (rs++[N]) U (setPending v ((pendingOf v).push (B.flatten.length,O,0))):=λv rs Rv hl=>by
    refine#[by rw[show arrOf (setPending v ((pendingOf v).push (B.flatten.length,O,0)))=arrOf v from rfl,Rv.ar];simp,Rv.pm,Rv.kd,Rv.fl,λS hS=>?_,?_]
    .rcases gC.mp hS with hS|hS
     .exact Rv.ok S hS
     rw[tY.mp hS];exact#["",un]
    show PM 0 ((pendingOf v).push (B.flatten.length,O,0)).toList (rs++[N]);rw[d9];exact Rv.st.join #[by rw[pP];exact hl.symm,nl.symm,trivial]
   have fl2:∀ rs,rs.flatten.length=B.flatten.length->(rs++[N]).flatten.length=B.flatten.length+O:=λrs hl=>by rw[List.flatten_append,gD,hl,tS,List.flatten_nil,tQ,nl]
   cases hb:(pendingOf y).back? with
   | none =>
    try rw[hb]
    exact wpS_bind (wpS_modify (wpS_pure #[_,_,_,rfl,Y y B Ry rfl,(fl2 B rfl).symm,""]))
   | some q =>
    try rw[hb]
    obtain⟨s1,n1,w1⟩:=q
    try dsimp only
    refine wpS_bind (wpS_mono (wpS_forRange (λ_ c v=>c=(none,())/\∃ rs,Rn kd rk ini rs (N++U) v/\rs.flatten.length=B.flatten.length) (Q:=λc v=>c=(none,())/\∃ rs,Rn kd rk ini rs (N++U) v/\rs.flatten.length=B.flatten.length) (λx2 c v _ _ hK=>?_) (λc v hK=>hK) #[rfl,B,Ry,rfl]) λc v hc=>?_)
    .obtain⟨rfl,rs,Rv,hl⟩:=hK;refine wpS_bind (bQ ?_);have pl:(pendingOf v).size=rs[1]:=by rw[<- Rv.st.len];simp
     by_cases c:(pendingOf v).size>1
     .rw[if_pos c];have g:(pendingOf v)[(pendingOf v).size-2]?=!((pendingOf v)[(pendingOf v).size-2]'""):=pE _ _ ""
      rw[g];generalize ((pendingOf v)[(pendingOf v).size-2]'"")=q
      obtain⟨u1,u2,u3⟩:=q
      try dsimp only
      refine jS (λ_=>wpS_pure #[rfl,rs,Rv,hl]) λ_=>?_
      have hm:(pendingOf v).size-2+1<rs[1]:=""
      refine wpS_bind (Rv.merge T hm λv2 Z e1 e2 Rv2=>?_)
      exact wpS_pure #[rfl,Z,Rv2,e1.trans hl]
     rw[if_neg c];exact wpS_pure #[rfl,rs,Rv,hl]
    obtain⟨rfl,rs,Rv,hl⟩:=hc
    try dsimp only
    refine wpS_bind (wpS_modify (wpS_bind (wpS_modify (wpS_pure #[_,_,_,rfl,Y _ rs #[Rv.ar,Rv.pm,Rv.kd,Rv.fl,Rv.ok,?_] hl,(fl2 rs hl).symm,""]))))
    show PM 0 ((pendingOf v).modify ((pendingOf v).size-1) _).toList rs;rw[Array.toList_modify];exact Rv.st.repower _ _ (λp=>#[rfl,rfl])
  refine jS (λc2=>?_) λ_=>?_
  .refine wpS_bind (mm (pV #[rfl,?_]));have f1:r<=force0:=by
    show r<=min _ _;have c3:r<_:=c2;lia
   have f2:force0<=ini.size-B.flatten.length:=Nat.min_le_left _ _;refine wpS_bind (qcF T my "" f1 uy λy my uy=>?_)
   rw[if_neg "d"]
   exact K _ _ #[my,uy,"",""]
  exact K _ _ #[my,uy,"",""]
 .obtain⟨lo,B,rest,rfl,R,rfl,hx⟩:=hI;have zl:(arrOf z).toList.length=ini.size:=by simp;exact R.pm.size_eq
  have ll:B.flatten.length+rest[1]=ini.size:=by rw[<- zl,R.ar,gD]
  have er:rest=[]:=fj.mp ""
  subst er;exact#[rfl,B,R]
 obtain⟨c1,B,R⟩:=hc;rw[c1]
 try dsimp only
 have zl:(arrOf z).toList.length=ini.size:=by simp;exact R.pm.size_eq
 have ll:B.flatten.length=ini.size:=by rw[<- zl,R.ar,tQ]
 refine wpS_bind (wpS_mono (wpS_forRange (λx c v=>c=(none,())/\∃ rs,Rn kd rk ini rs [] v/\(rs[1]<=1\/rs[1]+x<=ini.size)) (Q:=λc v=>c=(none,())/\∃ rs,Rn kd rk ini rs [] v/\rs[1]<=1) (λx c v _ lx hK=>?_) (λc v hK=>?_) #[rfl,B,R,.inr (by have:=KH λS hS=>(R.ok S hS).1;lia)]) λc v hc=>?_)
 .obtain⟨rfl,rs,Rv,hl⟩:=hK;refine wpS_bind (bQ ?_);have pl:(pendingOf v).size=rs[1]:=by rw[<- Rv.st.len];simp
  try dsimp only
  by_cases c:(pendingOf v).size<=1
  .rw[if_pos c];exact wpS_pure #[rfl,rs,Rv,""]
  rw[if_neg c];generalize hij:(if (Option.any _ _)=true then _ else _)=ij
  have hlt:ij+1<rs[1]:=by
   have:ij<=(pendingOf v).size-2:=by
    rw[<- hij];exact qcH (Nat.sub_le_sub_left (show 2<=3 by decide) _) (gw _)
   lia
  refine wpS_bind (Rv.merge T hlt λv2 Z e1 e2 Rv2=>?_)
  exact wpS_pure #[rfl,Z,Rv2,.inr ""]
 .obtain⟨hc,rs,Rv,hl⟩:=hK;exact#[hc,rs,Rv,""]
 obtain⟨rfl,rs,Rv,hl⟩:=hc;refine wpS_pure (h v Rv.pm Rv.fl ?_);rw[Rv.ar,tQ];cases rs with
 | nil=>exact List.Pairwise.nil
 | cons S rs =>
  have:rs=[]:=fj.mp (by rw[gJ]at hl;lia)
  subst this;rw[tS,List.flatten_nil,tQ];exact(Rv.ok S "s").2
end
section
variable{prog:af}{w:World}{A:ag}{E:aa->ab->Prop}{s:ab}
def qcK{n:Nat}(B:a.size=n)(h:Ris rk a[2]):∀ i j,i<=j->j<n->av rk a i<=av rk a j:=by
 intro i j z hj;rw[zt "",zt ""]
 rcases Nat.eq_or_lt_of_le z with e|e
 .simp_all
 have:=tZ.mp h i j (by simp;lia) (by simp;lia) e
 simp[Array.getElem_toList]at this;lia
def qcL{n:Nat}{P:Fin->ab->Prop}(Z:s.heap.get? a=!(seqObj "list" vs.toArray n))(R:Rows s.heap vs)(na:.ref a∉vs)(nd:(vs.map (qM s.heap)).Nodup)(h64:vs[1]<=5000)
  (h:∀ us:List aa,us.Perm vs->(us.map (qM s.heap)).Pairwise (λx y=>HT.lexLt y x=false)->P (.done (.ret .none)) {s with heap:=sortedHeap s.heap a vs us.toArray}) :
  wpAny (model prog w) A (Builtin.«list.sort» #[[.ref a],[]]) P E s:=by
 have la:a<s[0]:=gK Z;rw[list_sort_plain];refine g6 (listItems_at Z rfl (g6 (listUpdate_at Z rfl ?_)));obtain⟨c1,o1⟩:∃ c1,(s.heap.update a (Obj.mapSeq λ_=>#[])).get? a=!(seqObj "list" #[] c1):=#[_,get?_update_seq Z λ_=>#[]]
 refine g6 (seqEpoch_at o1 rfl (g6 (wpAny_newTuple (g6 (wpAny_newList (fT ?_))))));show wpAny (model prog w) A _ P E {s with heap:=((s.heap.update a (Obj.mapSeq λ_=>#[])).push (seqObj "tuple" vs.toArray 0)).push (seqObj "list" #[] 0)}
 generalize eM:((s.heap.update a (Obj.mapSeq λ_=>#[])).push (seqObj "tuple" vs.toArray 0)).push (seqObj "list" #[] 0)=hM
 have old:∀ b o,b≠a->s.heap.get? b=!o->hM.get? b=!o:=λb o ne e=>by
  have lb:=gK e;rw[<- eM,cJ _ _ _ (by rw[size_push',dA];exact hV (fY lb)),cJ _ _ _ (by rw[dA];exact hV lb),Heap.get?_update_ne _ _ _ _ ne]
  exact e
 have o2:hM.get? a=!(seqObj "list" #[] c1):=by
  rw[<- eM,cJ _ _ _ (by rw[size_push',dA];exact hV (fY la)),cJ _ _ _ (by rw[dA];exact hV la)]
  exact o1
 have B:∀ v∈vs,∃ b its ns,v=.ref b/\IsTup s.heap b its.toArray/\IsTup hM b its.toArray/\IntsAre its ns/\ns≠[]:=λv hv=>by
  obtain⟨b,its,ns,e,⟨o,e2,c⟩,q,nn⟩:=R v hv;refine#[b,its,ns,e,#[o,e2,c],#[o,old b o (λz=>?_) e2,c],q,nn]
  subst z e;exact na hv
 have R2:Rows hM vs:=λv hv=>let #[b,its,ns,e,_,p,q,nn]:=B v hv;#[b,its,ns,e,p,q,nn]
 dsimp only;have O:∀ st,(arrOf st).Perm (pairsOf vs)->(∀ i j,i<=j->j<(pairsOf vs).size->av (λv=>vw (vs.map (qM s.heap)) (qM s.heap v)) (arrOf st) i<=av (λv=>vw (vs.map (qM s.heap)) (qM s.heap v)) (arrOf st) j) ->
   P (.done (.ret .none)) {s with heap:=hM.update a (Obj.mapSeq λ_=>(arrOf st).map (·.2))}:=λst pm up=>by
  have hp:(arrOf st).toList.Perm (vs.zip vs):=by rw[<- pairsOf_toList];exact fN.mp pm
  have mem:∀ p∈(arrOf st).toList,p.1=p.2/\p.1∈vs:=λp U=>mem_zip_self (hp.mem_iff.mp U)
  have e2:((arrOf st).map (·.2)).toList=(arrOf st).toList.map (·.1):=by
   rw[Array.toList_map];exact tq λp U=>(mem p U).1.symm
  have pv:((arrOf st).map (·.2)).toList.Perm vs:=by
   rw[e2];have:=hp.map Prod.fst
   rwa [List.map_fst_zip (gw _)]at this
  have q:=h ((arrOf st).map (·.2)).toList pv (by
   rw[e2,h9,fw,tZ];intro i j hi hj hij;have hi':i<(arrOf st).size:=by simpa using hi
   have Y:j<(arrOf st).size:=by simpa using hj
   have u:=up i j (pC hij) (by rw[<- pm.size_eq];exact Y)
   unfold av at u;rw[pE _ i hi',pE _ j Y]at u;dsimp only at u;show HT.lexLt (qM s.heap (arrOf st).toList[j].1) (qM s.heap (arrOf st).toList[i].1)=false;cases el:HT.lexLt (qM s.heap (arrOf st).toList[j].1) (qM s.heap (arrOf st).toList[i].1)with
   | false=>rfl
   | true =>
    have mj:=(mem (arrOf st).toList[j] (fH _)).2;have:=(QR (rs:=vs.map (qM s.heap)) (gH.mpr #[_,mj,rfl])).mpr el;simp[Array.getElem_toList]at this;lia)
  rw[Array.toArray_toList]at q;have:sortedHeap s.heap a vs ((arrOf st).map (·.2))=hM.update a (Obj.mapSeq λ_=>(arrOf st).map (·.2)):=by unfold sortedHeap;rw[eM]
  rw[<- this];exact q
 have hz:vs.toArray.size=vs[1]:=by simp
 by_cases c2:vs.toArray.size<2
 .rw[if_pos c2,if_pos c2];refine g6 (gu ?_);rw[StateT.run_pure];refine g6 (gu ?_);dsimp only;refine g6 (seqEpoch_at o2 rfl (g6 (listUpdate_at o2 rfl ?_ (hsz2:=by rw[Array.size_map];show(pairsOf vs).size<=_;rw[pairsOf_size,pG];lia))))
  simp only[bne_self_eq_false,tX,cA];refine gu (O (SortSt.mk' general' (vs.toArray.zip vs.toArray) #[] 7 none) (Array.Perm.refl _) λi j l1 l2=>?_)
  rw[pairsOf_size]at l2;have:i=j:=""
  subst this;exact pI _
 rw[if_neg c2,if_neg c2];have hv:vs≠[]:=λz=>by subst z;simp at c2
 refine g6 (qbr R2 hv ?_);have T:Tells prog w A {s with heap:=hM} (tuples' true) (λv=>vw (vs.map (qM s.heap)) (qM s.heap v)) (pairsOf vs):=by
  refine#[λp hp q hq E Q hQ=>?_,?_]
  .rw[pairsOf_toList]at hp hq;have mp:=(mem_zip_self hp).2;have mq:=(mem_zip_self hq).2;obtain⟨b1,i1,n1,e1,p1,p1',q1,_⟩:=B _ mp;obtain⟨b2,i2,n2,e2,p2,p2',q2,_⟩:=B _ mq;have r1:=wF p1 q1;have r2:=wF p2 q2;rw[e1,e2]at hQ ⊢;refine qbq p1' p2' q1 q2 ?_;have:=QR (rs:=vs.map (qM s.heap)) (a:=qM s.heap (.ref b1)) (b:=qM s.heap (.ref b2)) (gH.mpr #[_,mp,by rw[e1]])
   rw[r1,r2]at this;rw[r1,r2]at hQ;have e3:decide (vw (vs.map (qM s.heap)) n1<vw (vs.map (qM s.heap)) n2)=HT.lexLt n1 n2:=by
    cases el:HT.lexLt n1 n2 with
    | true=>exact tG (this.mpr el)
    | false=>exact t7 λz=>by rw[this.mp z]at el;cases el
   rw[e3]at hQ;exact hQ
  rw[pairsOf_toList];have e:(vs.zip vs).map (λp=>vw (vs.map (qM s.heap)) (qM s.heap p.1))=(vs.map (qM s.heap)).map (vw (vs.map (qM s.heap))):=by
   have:(vs.zip vs).map (λp=>vw (vs.map (qM s.heap)) (qM s.heap p.1))=((vs.zip vs).map Prod.fst).map λv=>vw (vs.map (qM s.heap)) (qM s.heap v):=by rw[h9];rfl
   rw[this,List.map_fst_zip (gw _),h9];rfl
  rw[e];show List.Pairwise _ _;rw[fw];refine dH (λ{x y} hx hy ne z=>?_) nd
  have k1:=QR (rs:=vs.map (qM s.heap)) (b:=y) hx;have k2:=QR (rs:=vs.map (qM s.heap)) (b:=x) hy;refine ne (uq ?_ ?_)
  .cases el:HT.lexLt x y with
   | false=>rfl
   | true=>have:=k1.mpr el;lia
  cases el:HT.lexLt y x with
  | false=>rfl
  | true=>have:=k2.mpr el;lia
 refine g6 (cB (qcJ (E:=E) (st:=SortSt.mk' (tuples' true) (vs.toArray.zip vs.toArray) #[] 7 none) (ini:=pairsOf vs)
  (Q:=λ_ z=>(arrOf z).Perm (pairsOf vs)/\failedOf z=none/\Ris (λv=>vw (vs.map (qM s.heap)) (qM s.heap v)) (arrOf z).toList) T (Array.Perm.refl _) rfl rfl rfl λz a1 a2 a3=>#[a1,a2,a3]) ?_ λ_ _ e=>e)
 rintro⟨⟨⟩,z⟩ s' ⟨rfl,pm,fl,up⟩;dsimp only;refine g6 (seqEpoch_at o2 rfl (g6 (listUpdate_at o2 rfl ?_ (hsz2:=by refine f8 (Nat.le_of_eq ((Array.size_map ..).trans (pm.size_eq.trans (pairsOf_size _)))) ?_;rw[pG];lia))))
 rw[fl];simp[bne_self_eq_false,tX,cA];exact gu (O z pm (qcK (by rw[pm.size_eq]) up))
def qcM(Y:s.heap.IsList l vs.toArray)(R:Rows s.heap vs)(Z:(vs.map (qM s.heap)).Nodup)(O:vs[1]<=5000)
  (h:∀ us:List aa,us.Perm vs->(us.map (qM s.heap)).Pairwise (λx y=>HT.lexLt y x=false)->Q (.ref (s[0]+1)) {s with heap:=sortedAll s.heap vs us.toArray}) :
  wpAny (model prog w) A (call (.builtin "sorted") [.ref l]) Q E s:=by
 refine Calls.call_function_entry kind_sorted plain_sorted entry_sorted (args_sorted1 _) ?_;refine g6 (m:=checkCount "sorted" 1 1 _) (gu (g6 (collect_list Y (g6 (wpAny_newList ?_)) (by rw[pG];lia))))
 have z1:((s.heap.push (seqObj "list" #[] 0)).update s[0] (Obj.mapSeq (·++vs.toArray))).objs.size=s[0]+1:=by rw[dA,size_push']
 show wpAny _ _ _ _ _ {s with heap:=((s.heap.push (seqObj "list" #[] 0)).update s[0] (Obj.mapSeq (·++vs.toArray))).push (seqObj "list" vs.toArray 0)}
 rw[z1];generalize eM:((s.heap.push (seqObj "list" #[] 0)).update s[0] (Obj.mapSeq (·++vs.toArray))).push (seqObj "list" vs.toArray 0)=hM
 have o1:hM.get? (s[0]+1)=!(seqObj "list" vs.toArray 0):=by
  rw[<- eM,<- z1];exact gM _ rfl
 have U:∀ b o,s.heap.get? b=!o->hM.get? b=!o:=λb o e=>by
  have lb:=gK e;rw[<- eM,cJ _ _ _ (by rw[z1];exact hV (fY lb)),Heap.get?_update_ne _ _ _ _ (hV lb),cJ _ _ _ (hV lb)]
  exact e
 obtain⟨R2,B⟩:=R.stay U;have mp:vs.map (qM hM)=vs.map (qM s.heap):=tq B;have na:Value.ref (s[0]+1)∉vs:=λz=>by
  obtain⟨a,its,ns,e,⟨o,e2,_⟩,_⟩:=R _ z;cases e;exact absurd (gK e2) (Nat.not_lt.mpr (bE _))
 refine g6 (fT (pj slot_list_sort #[_,o1,rfl] entry_list_sort ?_ (args_list_sort _)));refine qcL (s:={s with heap:=hM}) o1 R2 na (by rw[mp];exact Z) O λus pm up=>#[_,rfl,gu #[_,rfl,?_]]
 have q:=h us pm (by
  have:us.map (qM hM)=us.map (qM s.heap):=tq λv hv=>B v (pm.mem_iff.mp hv)
  rw[<- this];exact up)
 unfold sortedAll at q;rw[eM]at q;exact q
end
def vZ:List D->R En
 | [.lst ds]=>(match vF ds with
  | some rs=>if rs.Nodup/\rs[1]<=5000/\[]∉rs then .ok (.lst ((qX rs).map qJ))[9]else .stuck
  | none=>.stuck)
 | _=>.stuck
section
variable{X:Cx}{F0 H0:Hp}
def Vd:zX X (.builtin "sorted") vZ:=by
 intro pins s σ F H xs us ds Q I l rx qx w;cases qx with
 | nil=>cases w
 | @cons x d xs ds q1 q2 =>
  cases q2 with
  | cons _ _=>cases d<;>exact w.elim
  | nil =>
   cases d<;>first|exact w.elim|skip
   rename_i ds;unfold vZ at w;dsimp only at w;cases e:vF ds with
   | none=>rw[e]at w;cases w
   | some rs =>
    rw[e]at w;dsimp only at w;by_cases c:rs.Nodup/\rs[1]<=5000/\[]∉rs
    .rw[if_pos c]at w;obtain⟨p,vs,rfl,hq,O⟩:=RdV.lst l q1;cases rx with
     | cons r1 r2 =>
      cases r2;cases r1;obtain⟨its,rv,pl,hz⟩:=I.list hq;obtain⟨m,k⟩:=ZS I l e O rv;have len:its[1]=rs[1]:=by rw[<- m,gg]
      refine qcM pl.isList (λv hv=>?_) (by rw[m];exact c.1) (by rw[len];exact c.2.1) λys pm up=>?_
      .obtain⟨a,i2,ns,e,p1,p2,_,p4⟩:=k v hv;exact#[a,i2,ns,e,p1,p2,λz=>c.2.2 (z▸p4)]
      have em:=ZR ((pm.map _).trans (by rw[m];exact(y7 rs).symm)) up (QQ rs)
      have go:∀ zs,(∀ u∈zs,u∈its)->Vals (zs.map toV) zs/\Reps (kx X) F (zs.map toV) ((zs.map (qM s.heap)).map qJ):=by
       intro zs
       induction zs with
       | nil=>intro _;exact#[.nil,rfl]
       | cons z zs ih =>
        intro hz;obtain⟨i1,i2⟩:=ih λu hu=>hz u (gj _ hu)
        obtain⟨a,i3,ns,rfl,p1,p2,p3,_⟩:=k z (hz z t8);refine#[.cons rfl i1,#[.ref a,_,rfl,?_,i2]];rw[wF p1 p2];exact p3
      obtain⟨g1,g2⟩:=go ys λu hu=>pm.mem_iff.mp hu
      rw[em]at g2;obtain⟨c',he⟩:=sortedAll_at s.heap its ys.toArray;have hp:H (s[0]+1)=none:=I.hok.fresh (bE _);have B:(ys.map toV)[1]<=sizeLine:=by
       rw[gg,pm.length_eq,pG];lia
      refine#[.ref (s[0]+1),upd H (s[0]+1) (.lst (ys.map toV)),I.laid (λb o q=>sortedAll_old q) (bE _) #[B,ys,c',g1,he],rfl,?_]
      exact w _ _ _ (Gr.new l hp) #[_,_,rfl,hp,Le.none l hp,qL,g2]
    rw[if_neg c]at w;exact w.elim
end
def yR(z:List Int):List Int:=z.foldl step_dedup []
def Jf:D->R En
 | .lst ds=>(match jJ ds with
  | some ns=>if ns[1]<=4000 then okI (yR ns)[1] else .stuck
  | none=>.stuck)
 | _=>.stuck
def Ve(f:EF):EF:=λρ=>(f ρ).bind λw=>Jf w.d
def KJ(ns):firstMet (λi=>ns.getD i 0) ns[1]=yR ns:=by
 unfold firstMet;congr 1;refine List.ext_getElem "s" λi h1 h2=>?_
 simp_all
def qcN(ns):(yR ns)[1]<=ns[1]:=by
 rw[<- KJ];exact firstMet_length_le _ _
section
variable{X:Cx}{F0 H0:Hp}{pos pos2 p p2:Pos}
def qcO(he:"S" e f)(hm:X.mg "len"=none)(O:X.mg "set"=none)(hc:(X.calm=true)["r"])(hg:(Gl X "len")["r"])(U:(Gl X "set")["r"])
  (h1:(starEach [Expr.Call (.Name "set" p2) [e] [] pos2] X.env=[(false,eval (Expr.Call (.Name "set" p2) [e] [] pos2) X.env)])["r"])
  (h2:(starEach [e] X.env=[(false,eval e X.env)])["r"]) :
  "S" (.Call (.Name "len" p) [.Call (.Name "set" p2) [e] [] pos2] [] pos) (Ve f):=by
 refine λpins s σ F H ρ Q S I h=>fC (zH I hg hm (show bootBuiltins (Str.ofString "len")=↑(.builtin "len")by rfl) ?_)
 refine cL ?_ (by rw[h1];rfl) rfl
 refine hZ ?_;refine fC (zH I U O (show bootBuiltins (Str.ofString "set")=↑(.type "set")by rfl) ?_)
 refine tw ?_ (by rw[h2];rfl) rfl
 rw[h2];refine hZ (he pins s σ F H ρ _ S I ((KE.bind h).imp λwx k1 v u F1 H1 s1 g1 q1 r1 I1=>tL ?_))
 have qx:=Vok.rd q1;have z:=yA g1 k1
 revert z qx
 generalize wx.d=dx;intro qx z;cases dx<;>first|exact z.elim|skip
 rename_i ds;unfold Jf at z;dsimp only at z;cases ei:jJ ds with
 | none=>rw[ei]at z;exact z.elim
 | some ns =>
  rw[ei]at z;dsimp only at z;by_cases c:ns[1]<=4000
  .rw[if_pos c]at z;obtain⟨a,vs,rfl,hq,rs⟩:=RdV.lst g1.s qx;have ev:=yH ei rs;subst ev;cases r1;obtain⟨its,rv,pl,hz⟩:=I1.list hq;have hi:IntsAre its ns:=ku rv;have B:its[1]=ns[1]:=IntsAre.length hi;refine call_set_list (I1.ok.hd hc) pl.isList hi[""] (by rw[gP,B];unfold scanBound;lia) λh' tk hS hk=>?_
   have Y:its.toArray.size=ns[1]:=by rw[gP,B]
   rw[Y,KJ]at hS;refine tL ?_;obtain⟨o,ho,Z,es,ep,t,hd,_,_,hn,hf⟩:=hS.objOf;have hle:=qcN ns;have I2:"I" H1 {s1 with heap:=h',toks:=tk}:=I1.kept (λb o q=>hk b o (gK q) q)
   refine vz (pins:=pins) (σ:=σ) (call_len_set ho Z hd hf (by rw[hn];lia) ?_)
   rw[hn];exact#[.int _,H1,I2.tok _,#[_,rfl],jn (X:=X) g1.s (v:=.int _) z rfl]
  rw[if_neg c]at z;exact z.elim
end
theorem Vf:∀{vs} {ws},(ws.all λw=>match w with|.fz _=>true|_=>false)=true->Args κ F H vs ws->Args κ F G vs ws
 | _,[],_,h=>h
 | _,.fz d::ws,c,h=>by
  obtain⟨v,r,e,h1,h2⟩:=h;exact#[v,r,e,h1,Vf c[""] h2]
 | _,.br d::ws,c,h=>by simp at c
 | _,.ow d::ws,c,h=>by simp at c
 | _,.lk d::ws,c,h=>by simp at c
 | _,.od d::ws,c,h=>by simp at c
def ioD(a:Addr)(d:D):En:=.od (.tup [.int (a:Int),d])
def spI(κ:Kx)(dn:Den)(n:Nat):Sp:=λvs H Q _=>vs[1]=n/\∃ F a o d pre post v1 v2,vs=v1++.ref a::v2/\Le F (but H a)/\H a=!o/\OwnO κ F o d/\Args κ F (but H a) v1 pre/\Args κ F (but H a) v2 post /\
 KE (λ_=>False) (dn (pre++ioD a d::post)) λw=>∀ v F' H',Gr F (but H a) F' H'->Vok κ (but H a) F' H' v w->Q v H'
def qcP{w:En}(h:Eok κ H0 F H v w)(o:w.own=false):Eok κ H0 F H' v w:=by
 cases w with
 | fz d=>exact h
 | ow d=>cases o
 | lk d=>exact h
 | br d=>exact h
 | od d=>cases o
def qcQ{F H:Hp}{N:List Str}(l:Le F (but H a))(O:H a=!o)(U:OwnO κ F o d)(h1:Args κ F (but H a) v1 pre)(h2:Args κ F (but H a) v2 post) :
  StOk κ F (but H a) F H ((pre++ioD a d::post).map some++List.replicate (N[1]-(pre++ioD a d::post)[1]) none) (L2.zk N (v1++.ref a::v2)):=by
 have l1:=xZ h1;have l2:=xZ h2;have fa:F a=none:=Le.none l uB;have sv:∀ i v,(v1++.ref a::v2)[i]?=!v->(L2.zk N (v1++.ref a::v2))[i]?=!(!v):=λi v e=>by
  unfold L2.zk;have hi:=(gp.mp e).1;rw[t3 hi[""],gG,e]
  rfl
 have at_:∀(i:Nat) w,((pre++ioD a d::post).map some++List.replicate (N[1]-(pre++ioD a d::post)[1]) none)[i]?=!(!w)->(pre++ioD a d::post)[i]?=!w:=λi w e=>by
  by_cases hi:i<(pre++ioD a d::post)[1]
  .rw[t3 hi[""],gG]at e
   simp_all
  rw[hE hi[""],fJ]at e
  lia
 have cs:∀ i w,(pre++ioD a d::post)[i]?=!w->(i=pre[1]/\w=ioD a d)\/(i≠pre[1]/\w.own=false/\∃ v,(v1++.ref a::v2)[i]?=!v/\Eok κ (but H a) F (but H a) v w):=λi w e=>by
  rcases Nat.lt_trichotomy i pre[1] with c|c|c
  .rw[t3 c]at e;obtain⟨v,q1,q2,q3⟩:=yF h1 i w (by rw[gG,e];rfl)
   refine .inr #[hV c,q3,v,?_,q2];rw[t3 ""]
   simp_all
  .subst c;exact .inl #[rfl,by simpa using e.symm]
  rw[hE (pC c)]at e;obtain⟨j,hj⟩:∃ j,i-pre[1]=j+1:=#[i-pre[1]-1,""]
  rw[hj,cQ]at e;obtain⟨v,q1,q2,q3⟩:=yF h2 j w (by rw[gG,e];rfl)
  refine .inr #[fV c,q3,v,?_,q2];rw[hE "",show i-v1[1]=j+1 by lia,cQ]
  rw[gG]at q1;cases z:v2[j]? with
  | none=>rw[z]at q1;cases q1
  | some y=>rw[z]at q1;simpa using q1
 have sa:(v1++.ref a::v2)[pre[1]]?=!(.ref a):=by rw[<- l1,hE (gw _),sub_self];rfl
 refine#[#[Le.refl,Kr,Le.trans l Kr,λ_ z=>.inl z],by simp[L2.zk,l1,l2],λi w e=>?_,λi j w w' b B ei ej oi oj si sj=>?_,λi y e=>?_]
 .rcases cs i w (at_ i w e)with⟨rfl,rfl⟩|⟨_,ow,v,q1,q2⟩
  .exact#[.ref a,sv _ _ sa,a,o,rfl,uB,fa,O,OwnO.noTup U]
  exact#[v,sv i v q1,qcP q2 ow]
 .rcases cs i w (at_ i w ei)with⟨rfl,_⟩|⟨_,z,_⟩
  .rcases cs j w' (at_ j w' ej)with⟨rfl,_⟩|⟨_,z,_⟩
   .exact B rfl
   rw[oj]at z;cases z
  rw[oi]at z;cases z
 rcases cs i _ (at_ i _ e)with⟨rfl,z⟩|⟨_,z,_⟩
 .cases z;refine#[λj z hj ej=>?_,a,[],sv _ _ sa,uB,fa,by simp,#[rfl,o,d,rfl,O,U],λj w b hj ej oj m sj=>?_]
  .rcases cs j _ (at_ j _ ej)with⟨q,_⟩|⟨_,q,_⟩
   .exact hj q
   cases q
  rcases cs j _ (at_ j _ ej)with⟨q,_⟩|⟨_,q,_⟩
  .exact hj q
  rw[oj]at q;cases q
 cases z
section
variable{P:af}{w:World}{K:Frag}{mg:Str->Option aa}{base:Heap}
def fnI{st:Stmt}{N ps:List Str}{k:Nat}(F:Fun K x qual st f fd)(S:FnScope N ps (defScope st))
  (h:∀ z A outer s H F0 H0,Room k (A.deeper (envOfC qual (defScope st) s[0] f z)) ->
   SSs (cxOf CX0 P w K mg base N qual (defScope st) f z A outer s H E0).nox F0 H0 (defBody st) body):FnOk P w K mg base CX0 (k+1) f fd ps (spI #[P,w,K] (den N[1] body) ps[1]):=by
 refine F.ok S (λvs H Q E q=>q.1) (λz A outer s H vs Q E hr q=>?_)
 obtain⟨hl,F0,a,o,d,pre,post,v1,v2,rfl,l,ho,ro,a1,a2,q⟩:=q;refine#[Zg _ _,Qm,λpins s' I=>?_]
 refine((h z A outer s H F0 (but H a) hr)) pins s' (L2.zk N (v1++.ref a::v2)) F0 H _ _ (qcQ l ho ro a1 a2) I ?_;have e:=q;unfold den at e;cases eb:body ((pre++ioD a d::post).map some++List.replicate (N[1]-(pre++ioD a d::post)[1]) none)with
 | nx ρ=>rw[eb]at e;exact λB F' H' l' S'=>e .non F' H' S'.gr rfl
 | rt w'=>rw[eb]at e;exact e
 | bk ρ=>rw[eb]at e;exact e.elim
 | ct ρ=>rw[eb]at e;exact e.elim
 | exc x=>rw[eb]at e;exact e.elim
 | stuck=>rw[eb]at e;exact e.elim
end
def ioR(o:Option (Option En)):Option (Int×D):=match o with
 | some (!(.od (.tup [.int a,d])))=>!(a,d)
 | _=>none
def Vg{a:Int}(h:ioR o=!(a,d)):o=!(!(.od (.tup [.int a,d]))):=by
 unfold ioR at h;split at h
 .lia
 cases h
def vR(i:Nat):EF:=λρ=>match ioR ρ[i]? with
 | some (_,d)=>.ok (.br d)
 | none=>.stuck
def StOk.io{F0 H0 F H:Hp}{i:Nat}{z:Int}(S:StOk κ F0 H0 F H ρ σ)(e:ρ[i]?=!(!(.od (.tup [.int z,d])))) :
  shal i ρ/\∃(a:Addr) (o:HO),z=a/\σ[i]?=!(!(.ref a))/\H0 a=none/\F a=none/\H a=!o/\OwnO κ F o d /\
   ∀ j w b,j≠i->ρ[j]?=!(!w)->w.own=true->b∈a::[]->σ[j]?≠!(!(.ref b)):=by
 obtain⟨sh,a,bs,si,h0,hf,nd,dp,sp⟩:=S.dp i _ e;obtain⟨eb,o,d',ex,ho,ro⟩:=dp;subst eb;injection ex with e1 e2;injection e1 with e1;injection e2 with e2 _;subst e2;exact#[sh,a,o,e1,si,h0,hf,ho,ro,sp]
section
variable{X:Cx}{F0 H0:Hp}{pos:Pos}
def KL(i)(z:(Nm X i x)["t"]):"S" (.Name x pos) (vR i):=by
 intro pins s σ F H ρ Q S I h;unfold vR at h;cases e:ioR ρ[i]? with
 | none=>rw[e]at h;exact h.elim
 | some p =>
  rw[e]at h;obtain⟨_,a,o,_,si,h0,hf,ho,ro,_⟩:=S.io (Vg e);refine thn (pvN z pins s σ H (λv' H'=>v'=.ref a/\H'=H) I #[.ref a,si,rfl,rfl]) λu s' #[v',H',I',r,ev,eh]=>?_
  subst ev eh;exact h (.ref a) u F H' s' (Gr.refl S.s) #[a,o,rfl,ho,ro] r I'
def qcR(a:Int)(d:D):En->Out
 | .fz g=>.rt (.od (.tup [.int a,d,g]))
 | _=>.stuck
def yS(i:Nat)(e:EF):SF:=λρ=>match ioR ρ[i]? with
 | some (a,d)=>sOf (e ρ) (qcR a d)
 | none=>.stuck
def Vh(i)(z:"S" e f):SS X F0 H0 (.Return ↑e pos) (yS i f):=by
 intro pins s σ F H ρ D S I h;unfold yS at h;cases ei:ioR ρ[i]? with
 | none=>rw[ei]at h;exact h.elim
 | some p =>
  obtain⟨ai,d⟩:=p;rw[ei]at h;obtain⟨_,a,o,ea,si,h0,hf,ho,ro,_⟩:=S.io (Vg ei);refine GV (jh) pins s σ H D I (z.sem S ((PostS.of h).imp λw k v F1 H1 g1 q1=>?_))
  cases w<;>first|exact k.elim|skip
  rename_i g;subst ea;exact k v F1 H1 (S.gr.trans g1) (.inr (.inr (.inr #[a,d,g,rfl,o,h0,g1.no hf ho (OwnO.noTup ro),g1.h _ _ ho,OwnO.le g1.f ro,q1])))
def wK(i:Nat)(k:List EF)(e:EF):SF:=λρ=>match ioR ρ[i]? with
 | some (a,.dT kvs)=>sOf ((e ρ).bind En.st) λd=>sOf (evs k ρ) λws=>match jF (ws.map En.d)with
  | some key=>if kvs[1]<sz/\key[1]<=sz then .nx (ρ.set i (!(.od (.tup [.int a,.dT (qS key d kvs)]))))else .stuck
  | none=>.stuck
 | _=>.stuck
def KM(i){np tp pos pos':Pos}{n:Nat}(hu:X.A.units+10<cLine)(Y:SA X F0 H0 ks fk)(Z:"S" e fe)(hN:(Nm X i x)["t"])(hs:(swapsWith e (!(.Subscript (.Name x np) (.Tuple ks n tp) pos')) pos.line X.env=pure false)["r"]) :
  SS X F0 H0 (.Assign [.Subscript (.Name x np) (.Tuple ks n tp) pos'] e pos) (wK i fk fe):=by
 intro pins s σ F H ρ D S I h;unfold wK at h;cases ei:ioR ρ[i]? with
 | none=>rw[ei]at h;exact h.elim
 | some p =>
  obtain⟨ai,d⟩:=p;rw[ei]at h;cases d<;>first|exact h.elim|skip
  rename_i kds;have ew:=Vg ei;obtain⟨sh,a,o,ea,e1,h0,hf,hh,ro,sp⟩:=S.io ew;cases o<;>first|exact ro.elim|skip
  rename_i kvs;have h:=KE.bind (PostS.of h);refine Zd (pos:=pos) (pos':=pos') "" (pvN (pos:=np) hN) (jh (e:=.Tuple ks n tp)) (jh (e:=e)) hs pins s σ H D I (Z.sem S (h.imp λw k1 y F1 H1 g1 q1=>?_))
  cases es:w.st with
  | exc x=>rw[es]at k1;exact k1.elim
  | stuck=>rw[es]at k1;exact k1.elim
  | ok d =>
   rw[es]at k1;have ry:=Vok.st S.s g1 q1 es;obtain⟨g2,_⟩:=vm S.s g1;have S2:=S.grow g2;refine#[_,e1,QT Y S2 ((PostS.of (show PostS X F0 H0 F D _ from k1)).imp λws k2 vs F3 H3 p g3 q3 hp=>?_)]
   cases ek:jF (ws.map En.d)with
   | none=>rw[ek]at k2;exact k2.elim
   | some key =>
    rw[ek]at k2;have ev:=ut q3 ek;subst ev;have lv:kvs[1]=kds[1]:=RepT.length ro;by_cases c:kds[1]<sz/\key[1]<=sz
    .have k3:PostS X F0 H0 F D (.nx (ρ.set i (!(.od (.tup [.int ai,.dT (qS key d kds)]))))):=by simpa[if_pos c,KE]using k2
     refine#[by rw[gg,<- zY];exact c.2,a,_,rfl,DPut.t (e:=?_) qL (by rw[lv,<- zY];exact c.1),?_]
     .rw[qr (jH (g3.h _ _ (g1.h _ _ hh)) hp)];exact g3.h _ _ (g1.h _ _ hh)
     have g4:=Gr.new (o:=.tup (key.map kV)) g3.s hp;have S4:=(S2.grow g3).grow g4;obtain⟨B,a4,o4,ea4,e4,h04,O,hh4,ro4,U⟩:=S4.io ew;rw[e1]at e4;cases e4;refine k3 σ _ _ (Le.trans g2.f (Le.trans g3.f g4.f)) (S4.turn (bs:=[]) (bs':=[]) ew e1 B U (λc hc=>qr λz=>hc (by rw[z];simp)) (λb hb=>by cases hb) (λc hc=>?_) (λc hc=>?_) "s" #[rfl,.dT (jI kvs key y),_,by rw[ea],qL,?_])
     .simp_all
     .rw[tY.mp hc];exact O
     exact YT (Rep.le (Le.trans g3.f g4.f) _ ry) (RepT.le (Le.trans g2.f (Le.trans g3.f g4.f)) _ ro)
    have:False:=by simpa[if_neg c,PostS,KE]using k2
    exact this.elim
abbrev IOF:=Rho->R (D×Rho)
def SIO(X:Cx)(F0 H0:Hp)(e:Expr)(f:IOF):Prop :=
 ∀(pins:List (Addr×Obj)) (s:ab) (σ:St) (F H:Hp) (ρ:Rho) (Q:aa->ab->Prop),StOk (kx X) F0 H0 F H ρ σ->"I" H s ->
  KE (XP X F0 H0) (f ρ) (λp=>∀ v u F' H' s',Le F F'->StOk (kx X) F0 H0 F' H' p.2 σ->Rep (kx X) F' v p.1->RelV v u->"I" H' s'->Q u s') ->
  X[3] (eval e X.env) Q X.xe s
def SAI(X:Cx)(F0 H0:Hp)(i:Nat)(es:List Expr)(pre post:List EF):Prop :=
 ∀(pos:Pos) (pins:List (Addr×Obj)) (s:ab) (σ:St) (F H:Hp) (ρ:Rho) (Q:List aa->ab->Prop) (a:Addr),StOk (kx X) F0 H0 F H ρ σ->"I" H s->σ[i]?=↑(!(.ref a)) ->
  KE (XP X F0 H0) (evs pre ρ) (λws=>KE (XP X F0 H0) (evs post ρ) λws2=>∀ v1 v2 us F' H' s',Gr F H F' H'->Voks (kx X) H F' H' v1 ws->Voks (kx X) H F' H' v2 ws2->Vals (v1++.ref a::v2) us->"I" H' s'->Q us s') ->
  X[3] (spliced (backTo pos (starEach es X.env))) Q X.xe s
def qcS(i)(z:SA X F0 H0 es post)(B:(Nm X i x)["t"])(O:(starEach (.Name x np::es) X.env=(false,eval (.Name x np) X.env)::starEach es X.env)["r"]):SAI X F0 H0 i (.Name x np::es) [] post:=by
 refine λpos pins s σ F H ρ Q a S I si h=>hZ (thn (pvN B pins s σ H (λv' H'=>v'=.ref a/\H'=H) I #[.ref a,si,rfl,rfl]) λu s1 #[v',H',I1,r,ev,eh]=>?_)
 subst ev eh;exact z pos pins s1 σ F H' ρ _ S I1 (KE.imp (h) λws2 k vs us F2 H2 s2 g q r2 I2=>(k [] vs (u::us) F2 H2 s2 g rfl q (.cons r r2) I2))
def KN{i:Nat}(z:"S" e f)(B:SAI X F0 H0 i es pre post)(O:(starEach (e::es) X.env=(false,eval e X.env)::starEach es X.env)["r"]):SAI X F0 H0 i (e::es) (f::pre) post:=by
 intro pos pins s σ F H ρ Q a S I si h;rw[O];refine hZ (z pins s σ F H ρ _ S I ((KE.bind h).imp λw h1 v u F1 H1 s1 g1 q1 r1 I1=>?_))
 refine B pos pins s1 σ F1 H1 ρ _ a (S.grow g1) I1 si ((KE.bind h1).imp λws h2=>?_)
 have h2:KE (XP X F0 H0) (evs post ρ) _:=h2;exact h2.imp λws2 k v1 v2 us F2 H2 s2 g2 q2 q3 r2 I2=>(k (v::v1) v2 (u::us) F2 H2 s2 (g1.trans g2) #[v,v1,rfl,Vok.gr g2 q1,Voks.older (λa e=>Le.none g1.h e) q2] (Voks.older (λa e=>Le.none g1.h e) q3) (.cons r1 r2) I2)
def v8(ys:List En):Bool:=ys.all λw=>match w with|.fz _=>true|_=>false
open Classical in
def w6(dn:Den)(pre:List En)(d:D)(post:List En):R (D×D) :=
 if h:∃ r:D×D,∀ a:Addr,dn (pre++ioD a d::post)=.ok (.od (.tup [.int (a:Int),r.1,r.2]))then .ok h.choose else .stuck
def Vi(h:∀ a,dn (pre++ioD a d::post)=.ok (.od (.tup [.int a,d',g]))):w6 dn pre d post=.ok (d',g):=by
 unfold w6;have ex:∃ r:D×D,∀ a,dn (pre++ioD a d::post)=.ok (.od (.tup [.int a,r.1,r.2])):=#[(d',g),h];rw[dif_pos ex];have q:=ex.choose_spec 0;rw[h 0]at q;injection q with q;injection q with q;injection q with q;injection q with _ q;injection q with q1 q;injection q with q2 _;rw[<- show ex.choose.1=d' from q1.symm,<- show ex.choose.2=g from q2.symm]
def eIO(dn:Den)(i:Nat)(pre post:List EF):IOF:=λρ=>match ρ[i]? with
 | some (!d[9])=>(evs pre ρ).bind λxs=>(jU xs).bind λys=>(evs post ρ).bind λB=>(jU B).bind λz=>if (v8 ys&&v8 z)=true then(w6 dn ys d z).bind λr=>.ok (r.2,ρ.set i (!(.ow r.1)))else .stuck
 | _=>.stuck
theorem Vj:∀{ws} {vs},Voks κ H F H' vs ws->vs[1]=ws[1]
 | [],vs,h=>by cases (h);rfl
 | w::ws,vs,h=>by obtain⟨v,r,rfl,_,h2⟩:=h;simp[Vj h2]
def KO{k n i:Nat}{pre post:List EF}(G:FnOk X.prog X.w X.K X.mg X.base CX0 k f fd ps (spI (kx X) dn n))(Y:Room k X.A)(Z:keepIn X.K (.ref f)=true)(hb:Binds X.K fd ps [])
  (ha:SAI X F0 H0 i (e::es) pre post)(hn:pre[1]+(post[1]+1)=n)(he:starEach (e::es) X.env=(false,eval e X.env)::starEach es X.env)(U:(backTo pos (starEach es X.env)).any (·.1)=false)
  {Q:aa->ab->Prop}(S:StOk (kx X) F0 H0 F H ρ σ)(I:"I" H s)
  (h:KE (XP X F0 H0) (eIO dn i pre post ρ) λp=>∀ v u F' H' s',Le F F'->StOk (kx X) F0 H0 F' H' p.2 σ->Rep (kx X) F' v p.1->RelV v u->"I" H' s'->Q u s') :
  X[3] (callWith pos (.ref f) [] (backTo pos (starEach (e::es) X.env)) []) Q X.xe s:=by
 unfold eIO at h;split at h
 .rename_i d ei;obtain⟨v0,si,a,o,rfl,h0,hf,hh,ro⟩:=S.val i _ ei;refine callWith_K (h₀:=X.base) I.ok.mod.kin Z (ha pos pins s σ F H ρ _ a S I si ?_) he U;have h:=KE.bind h;cases ef:evs pre ρ with
  | exc x=>rw[ef]at h;exact h
  | stuck=>rw[ef]at h;exact h
  | ok ws =>
   rw[ef]at h;have h:KE (XP X F0 H0) ((jU ws).bind λys=>(evs post ρ).bind λO=>(jU O).bind λB=>if (v8 ys&&v8 B)=true then(w6 dn ys d B).bind λr=>.ok (r.2,ρ.set i (!(.ow r.1)))else .stuck) _:=h
   cases ea:jU ws with
   | exc x=>rw[ea]at h;exact h.elim
   | stuck=>rw[ea]at h;cases h
   | ok ys =>
    rw[ea]at h;have h:=KE.bind (show KE (XP X F0 H0) ((evs post ρ).bind λO=>(jU O).bind λB=>if (v8 ys&&v8 B)=true then(w6 dn ys d B).bind λr=>.ok (r.2,ρ.set i (!(.ow r.1)))else .stuck) _ from h)
    show KE (XP X F0 H0) (evs post ρ) _;cases ef2:evs post ρ with
    | exc x=>rw[ef2]at h;exact h
    | stuck=>rw[ef2]at h;exact h
    | ok ws2 =>
     rw[ef2]at h;refine λv1 v2 us F1 H1 s1 g1 q1 q2 r1 I1=>#[I1.kIn,?_]
     have h:KE (XP X F0 H0) ((jU ws2).bind λB=>if (v8 ys&&v8 B)=true then(w6 dn ys d B).bind λr=>.ok (r.2,ρ.set i (!(.ow r.1)))else .stuck) _:=h
     cases ea2:jU ws2 with
     | exc x=>rw[ea2]at h;cases h
     | stuck=>rw[ea2]at h;cases h
     | ok B =>
      rw[ea2]at h;have h:KE (XP X F0 H0) (if (v8 ys&&v8 B)=true then(w6 dn ys d B).bind λr=>.ok (r.2,ρ.set i (!(.ow r.1)))else .stuck) _:=h
      by_cases c:(v8 ys&&v8 B)=true
      .rw[if_pos c]at h;rw[gZ]at c;obtain⟨g2,l2⟩:=vm S.s g1;have A1:=Vf (G:=but H1 a) c.1 (Qv (κ:=kx X) g1.s q1 ea (jG H F1 H1) l2 λa o e0 e2=>by unfold jG;rw[e0];exact e2)
       have A2:=Vf (G:=but H1 a) c.2 (Qv (κ:=kx X) g1.s q2 ea2 (jG H F1 H1) l2 λa o e0 e2=>by unfold jG;rw[e0];exact e2)
       have ga:jG H F1 H1 a=none:=g2.no hf hh (OwnO.noTup ro);have S1:=(S.grow g2).forget ei si;refine vz (WU G Y hb (dvs:=[]) .nil Y7 I1 r1 ?_);rw[tQ];refine#[?_,jG H F1 H1,a,o,d,ys,B,v1,v2,rfl,λc u z=>(yQ (jH z ga)).trans (g2.s c u z),g1.h _ _ hh,OwnO.le g2.f ro,A1,A2,?_]
       .rw[gD,gJ,Vj q1,Vj q2,Qw pre ρ ws ef,Qw post ρ ws2 ef2];exact hn
       have h:=KE.bind h;unfold w6 at h;by_cases ex:∃ r:D×D,∀ a,dn (ys++ioD a d::B)=.ok (.od (.tup [.int a,r.1,r.2]))
       .rw[dif_pos ex]at h;have sp:=ex.choose_spec a;generalize ex.choose=r at h sp;rw[sp];intro v F' H' g q u s' r' I';have q:DV (kx X) (but H1 a) F' H' v (.tup [.int a,r.1,r.2]):=q;rcases q with⟨_,z,_⟩|⟨_,z,_⟩|⟨_,_,z,_⟩|⟨a',dd,y,z,o',c0,cf,ch,co,cr⟩
        .cases z
        .cases z
        .cases z
        injection z with z;injection z with z1 z;injection z with z2 z;injection z with z3 _;injection z1 with z1;have:a'=a:=(Int.ofNat.inj z1).symm;subst this;subst z2;subst z3;have S2:=S1.setW g (i:=i) (v:=.ref a') (w:=.ow r.1) (w':=.ow r.1) #[a',o',rfl,uB,cf,ch,co] rfl;rw[bK]at S2;have se:σ.set i (!(.ref a'))=σ:=by
         obtain⟨hl,e2⟩:=gp.mp si;rw[<- e2,List.set_getElem_self]
        rw[se]at S2;exact h v u F' H' s' (Le.trans g2.f g.f) S2 cr r' I'
       rw[dif_neg ex]at h;exact h.elim
      rw[if_neg c]at h;exact h.elim
 exact h.elim
def dFn(x:Str):D:=.xc x [("fn",.non)]
def KP(B:X.mg x=!(.ref f))(z:nsIn X.K mainGlobals x=!(!(.ref f)))(O:(Gl X x)["r"])(hd:((x==("__debug__"))=false)["d"]):"S" (.Name x p) (eC (dFn x)) :=
 Y9 (v:=.ref f) B rfl (λF=>show FnV (kx X) (.ref f) x [("fn",.non)]from λf' e=>by rw[z]at e;cases e;rfl) O hd
def fnOf(o:Option (Option En)):Option Str:=match o with
 | some (!(.xc x [(_,.non)])[8])=>!x
 | _=>none
def yd(j:Nat)(z:Str)(B:Den)(O:Str)(U:Den)(i:Nat)(pre post:List EF):IOF:=λρ=>match fnOf ρ[j]? with
 | some x=>if x=z then eIO B i pre post ρ else if x=O then eIO U i pre post ρ else .stuck
 | none=>.stuck
def qcT(h:fnOf o=!x):∃ y,o=!(!(.xc x [(y,.non)])[8]):=by
 unfold fnOf at h;split at h
 .cases h;exact#[_,rfl]
 cases h
def qcU(j){k1 k2 n i:Nat}{pre post:List EF}
  (G1:FnOk X.prog X.w X.K X.mg X.base CX0 k1 f1 fd1 ps1 (spI (kx X) d1 n))(O:Room k1 X.A)(U:keepIn X.K (.ref f1)=true)(Y:Binds X.K fd1 ps1 [])(n1:nsIn X.K mainGlobals x1=!(!(.ref f1)))
  (G2:FnOk X.prog X.w X.K X.mg X.base CX0 k2 f2 fd2 ps2 (spI (kx X) d2 n))(Z:Room k2 X.A)(hk2:keepIn X.K (.ref f2)=true)(hb2:Binds X.K fd2 ps2 [])(n2:nsIn X.K mainGlobals x2=!(!(.ref f2)))
  (ha:SAI X F0 H0 i (e::es) pre post)(hn:(pre[1]+(post[1]+1)=n)["r"])(hN:(Nm X j x)["t"])(he:(starEach (e::es) X.env=(false,eval e X.env)::starEach es X.env)["r"])(B:((backTo pos (starEach es X.env)).any (·.1)=false)["r"]) :
  SIO X F0 H0 (.Call (.Name x p) (e::es) [] pos) (yd j x1 d1 x2 d2 i pre post):=by
 intro pins s σ F H ρ Q S I h;unfold yd at h;cases ef:fnOf ρ[j]? with
 | none=>rw[ef]at h;exact h.elim
 | some y =>
  rw[ef]at h;dsimp only at h;obtain⟨z,ej⟩:=qcT ef;obtain⟨v,sj,r⟩:=S.val j _ ej;refine fC (thn (pvN hN pins s σ H (λv' H'=>v'=v/\H'=H) I #[v,sj,rfl,rfl]) λu s1 #[v',H',I1,rv,ev,eh]=>?_)
  subst ev eh;by_cases c1:y=x1
  .rw[if_pos c1]at h;subst c1;cases r f1 n1;cases (rv);exact KO G1 O U Y ha hn he B S I1 h
  rw[if_neg c1]at h;by_cases c2:y=x2
  .rw[if_pos c2]at h;subst c2;cases r f2 n2;cases (rv);exact KO G2 Z hk2 hb2 ha hn he B S I1 h
  rw[if_neg c2]at h;exact h.elim
end
theorem RepT.look:∀{kds} {kvs} k,RepT κ F kvs kds->(∃ v d,js kvs k=!v/\L3.look k kds=!d/\Rep κ F v d)\/(js kvs k=none/\L3.look k kds=none)
 | [],_,k,h=>by cases (h);exact .inr #[rfl,rfl]
 | (q,d)::r,_,k,h=>by
  obtain⟨v,kr,rfl,h1,h2⟩:=h;by_cases e:q=k
  .subst e;exact .inl #[v,d,by unfold js;simp,by unfold L3.look;rw[if_pos rfl],h1]
  rcases RepT.look k h2 with⟨v',d',a1,a2,a3⟩|⟨a1,a2⟩
  .refine .inl #[v',d',?_,by unfold L3.look;rw[if_neg e];exact a2,a3]
   unfold js at ⊢;rw[b7 e[""]]
   exact a1
  refine .inr #[?_,by unfold L3.look;rw[if_neg e];exact a2]
  unfold js at ⊢;rw[b7 e[""]]
  exact a1
def xh(kvs:List (List (Sum Int Str)×D))(q:List (Sum Int Str))(wx:En):R En:=match look q kvs with|some d=>.ok d[8]|none=>.ok wx
def xi(k:Option (List (Sum Int Str)))(g:List (Sum Int Str)->R En):R En:=match k with
 | some q=>if q[1]<=sz then g q else .stuck
 | none=>.stuck
def ye(d:EF)(k:List EF)(x:EF):EF:=λρ=>(d ρ).bind λwd=>match wd.d with
 | .dT kvs=>(evs k ρ).bind λws=>xi (jF (ws.map En.d)) λq=>(x ρ).bind λwx=>xh kvs q wx
 | _=>.stuck
section
variable{X:Cx}{F0 H0:Hp}{pos:Pos}
def qcV{n:Nat}(Z:X.A.units+10<cLine)(O:"S" o fo)(U:SA X F0 H0 ks fk)(Y:"S" f ff)(m:M2 X o "get" apos (.Tuple ks n tp) f cpos:=by exact#[rfl,rfl,rfl,rfl]) :
  "S" (.Call (.Attribute o "get" apos) [.Tuple ks n tp,f] [] cpos) (ye fo fk ff):=by
 refine λpins s σ F H ρ Q S I h=>vz (qaI "" (jh (e:=o)) (jh (e:=.Tuple ks n tp)) (jh (e:=f)) m pins s σ H (λv H'=>∀ u s',RelV v u->"I" H' s'->Q u s') I ?_)
 refine O.sem S ((KE.bind h).imp λwd h1 v F1 H1 g1 q1=>?_)
 have qd:=Vok.rd q1
 revert h1 qd
 generalize wd.d=dd;intro h1 qd;cases dd<;>first|exact h1.elim|skip
 obtain⟨p,kvs,rfl,hq,rk⟩:=RdV.dT g1.s qd;refine#[p,rfl,.inr #[_,hq],QT U (S.grow g1) ((KE.bind h1).imp λws h2 vs F2 H2 b g2 q2 hb=>?_)]
 unfold xi at h2;cases ek:jF (ws.map En.d)with
 | none=>rw[ek]at h2;exact h2.elim
 | some key =>
  rw[ek]at h2;dsimp only at h2;by_cases c:key[1]<=sz
  .rw[if_pos c]at h2;have ev:=ut q2 ek;subst ev;have g4:=Gr.new (o:=.tup (key.map kV)) g2.s hb;refine#[by rw[gg];exact c,Y.sem (S.grow (g1.trans (g2.trans g4))) ((KE.bind h2).imp λwx h3 v3 F3 H3 g3 q3=>?_)]
   have B:Le H1 H3:=Le.trans (g2.trans g4).h g3.h;have gA:=g1.trans ((g2.trans g4).trans g3);refine#[js kvs key,.inr #[kvs,key,b,Rd.le B hq,rfl,g3.h _ _ qL,rfl],λu s' ru I'=>?_]
   unfold xh at h3;rcases RepT.look key rk with⟨z,d,a1,a2,rz⟩|⟨a1,a2⟩
   .rw[a2]at h3;rw[a1]at ru;exact h3 z u F3 H3 s' gA (Rep.le (Le.trans (g2.trans g4).f g3.f) _ rz) ru I'
   rw[a2]at h3;rw[a1]at ru;exact h3 v3 u F3 H3 s' gA (Vok.older (λa e=>Le.none (Le.trans g1.h (g2.trans g4).h) e) q3) ru I'
  rw[if_neg c]at h2;exact h2.elim
def yT(d k:EF):EF:=λρ=>(d ρ).bind λwd=>match wd.d with
 | .dK kvs=>(k ρ).bind λwk=>(match zm wk.d with
  | some q=>(match look q kvs with|some d=>.ok d[8]|none=>.ok (.fz .non))
  | none=>.stuck)
 | _=>.stuck
def qcW(Y:"S" o fo)(Z:"S" e fe)(m:M1 X o "get" apos e cpos:=by exact#[rfl,rfl,rfl,rfl]) :
  "S" (.Call (.Attribute o "get" apos) [e] [] cpos) (yT fo fe):=by
 refine λpins s σ F H ρ Q S I h=>bW m.base m.few m.line cP fX bn (Y pins s σ F H ρ _ S I ((KE.bind h).imp λwd h1 v u F1 H1 s1 g1 q1 r1 I1=>?_))
 have qd:=Vok.rd q1
 revert h1 qd
 generalize wd.d=dd;intro h1 qd;cases dd<;>first|exact h1.elim|skip
 obtain⟨p,kvs,rfl,hq,rk⟩:=RdV.dK g1.s qd;cases (show u=Value.ref p from r1)
 obtain⟨hd,vs,rel,dd⟩:=Inv.dictK I1 hq;refine#[dd.typeIs,λb q=>?_,?_]
 .cases q;obtain⟨ob,_,_,e1,e2,_⟩:=dd;exact#[ob,e1,e2.2.1]
 rw[m.trees];refine cW rfl (dg (hZ (Z pins s1 σ F1 H1 ρ _ (S.grow g1) I1 ((KE.bind h1).imp λwk h2 v2 u2 F2 H2 s2 g2 q2 r2 I2=>tL ?_))))
 cases ek:zm wk.d with
 | none=>rw[ek]at h2;exact h2.elim
 | some key =>
  rw[ek]at h2;dsimp only at h2;have ry:RelV (kV key) u2:=Zk ek (Vok.rd q2) r2;obtain⟨hd3,vs3,O,U⟩:=Inv.dictK I2 (SqK.le g2.h hq);refine bm fX U.typeIs cX (PySem.F.args_dict_get_2 _ _) (meets_dict_get (je X.prog X.w) p (ky ry) hd3) #[_,U.mapOf,?_];have rg:=(O.val key).getD (show RelV V.non Value.none from rfl)
  have B:=g1.trans g2;rcases RepK.look key rk with⟨z,d,a1,a2,rz⟩|⟨a1,a2⟩
  .rw[a2]at h2;rw[a1]at rg;exact h2 z _ F2 H2 _ B (Rep.le g2.f _ rz) rg (I2.tok _)
  rw[a2]at h2;rw[a1]at rg;exact h2 .non _ F2 H2 _ B rfl rg (I2.tok _)
abbrev XF:=Rho->R (List D×Rho)
def SAX(X:Cx)(F0 H0:Hp)(es:List Expr)(f:XF):Prop :=
 ∀(pos:Pos) (pins:List (Addr×Obj)) (s:ab) (σ:St) (F H:Hp) (ρ:Rho) (Q:List aa->ab->Prop),StOk (kx X) F0 H0 F H ρ σ->"I" H s ->
  KE (XP X F0 H0) (f ρ) (λp=>∀ vs us F' H' s',Le F F'->StOk (kx X) F0 H0 F' H' p.2 σ->Reps (kx X) F' vs p.1->Vals vs us->"I" H' s'->Q us s') ->
  X[3] (spliced (backTo pos (starEach es X.env))) Q X.xe s
def uD:XF:=λρ=>.ok ([],ρ)
def fzR:En->R D
 | .fz d=>.ok d
 | _=>.stuck
def v9(f:EF)(r:XF):XF:=λρ=>(f ρ).bind λw=>(fzR w).bind λd=>(r ρ).bind λq=>.ok (d::q.1,q.2)
def xIO(f:IOF)(r:XF):XF:=λρ=>(f ρ).bind λp=>(r p.2).bind λq=>.ok (p.1::q.1,q.2)
def qcX:SAX X F0 H0 [] uD:=λpos pins s σ F H ρ Q S I h=>tL (h [] [] F H s Le.refl S rfl .nil I)
def Vk(z:"S" e f)(B:SAX X F0 H0 es r)(O:(starEach (e::es) X.env=(false,eval e X.env)::starEach es X.env)["r"]):SAX X F0 H0 (e::es) (v9 f r):=by
 intro pos pins s σ F H ρ Q S I h;rw[O];refine hZ (z pins s σ F H ρ _ S I ((KE.bind h).imp λw h1 v u F1 H1 s1 g1 q1 r1 I1=>?_))
 cases w<;>first|exact h1.elim|skip
 rename_i d;exact B pos pins s1 σ F1 H1 ρ _ (S.grow g1) I1 ((KE.bind (show KE (XP X F0 H0) ((r ρ).bind λq=>.ok (d::q.1,q.2)) _ from h1)).imp λq h2 vs us F2 H2 s2 l2 S2 rs r2 I2=>(h2 (v::vs) (u::us) F2 H2 s2 (Le.trans g1.f l2) S2 #[v,vs,rfl,Rep.le l2 _ q1,rs] (.cons r1 r2) I2))
def qcY(z:SIO X F0 H0 e f)(B:SAX X F0 H0 es r)(O:(starEach (e::es) X.env=(false,eval e X.env)::starEach es X.env)["r"]):SAX X F0 H0 (e::es) (xIO f r):=by
 intro pos pins s σ F H ρ Q S I h;rw[O];exact hZ (z pins s σ F H ρ _ S I ((KE.bind h).imp λp h1 v u F1 H1 s1 l1 S1 q1 r1 I1=>(B pos pins s1 σ F1 H1 p.2 _ S1 I1 ((KE.bind (h1)).imp λq h2 vs us F2 H2 s2 l2 S2 rs r2 I2=>(h2 (v::vs) (u::us) F2 H2 s2 (Le.trans l1 l2) S2 #[v,vs,rfl,Rep.le l2 _ q1,rs] (.cons r1 r2) I2)))))
def eIOT(f:XF):IOF:=λρ=>(f ρ).bind λp=>if p.1.length<=sz then .ok (.tup p.1,p.2)else .stuck
def qcZ(h:SAX X F0 H0 es f):SIO X F0 H0 (.Tuple es x1 pos) (eIOT f):=by
 refine λpins s σ F H ρ Q S I k=>bC (h pos pins s σ F H ρ _ S I ((KE.bind k).imp λp k1 vs us F1 H1 s1 l1 S1 rs r1 I1=>?_))
 by_cases c:p.1.length<=sz
 .rw[if_pos c]at k1;have hz:vs[1]<=sizeLine:=by rw[Reps.length rs];exact c
  refine#[by rw[<- r1[1]];exact hz,?_]
  have gn:=Gr.newF (o:=.tup vs) S1.s (I1.hok.fresh (gw _));exact k1 (.ref s1[0]) _ _ _ _ (Le.trans l1 gn.f) (S1.grow gn) #[_,vs,rfl,.inl (.inl qL),Reps.le gn.f _ rs] rfl (I1.laid (λb u e=>gq _ e) (gw _) #[hz,us,r1,#[_,gM _ rfl,rfl,_,rfl]])
 rw[if_neg c]at k1;exact k1.elim
def sIO(i:Nat)(f:IOF):SF:=λρ=>sOf (f ρ) λp=>.nx (p.2.set i (!(.fz p.1)))
def qd0(i)(z:X.N.Nodup)(B:SIO X F0 H0 e f)(hi:(X.N[i]?=!x)["r"])(O:(Loc X.env.scope x)["t"])
  (U:(swapsWith e (!(.Name x pos')) pos.line X.env=pure false)["r"])(Y:(X.fn x=true\/X.env.scope.names.lookup x=some .local)["t"]) :
  SS X F0 H0 (.Assign [.Name x pos'] e pos) (sIO i f):=by
 exact λpins s σ F H ρ D S I h=>bX (B pins s σ F H ρ _ S I ((PostS.of h).imp λp k v u F' H' s' l S' q r I'=>(xK I' z hi O r (λs2 I2=>#[_,H',I2,k _ F' H' l (S'.setF q)]) Y))) U
end
theorem len1{α:Type}:∀{us:List α},us[1]=1->∃ a,us=[a]
 | [a],_=>#[a,rfl]
theorem len2{α:Type}:∀{us:List α},us[1]=2->∃ a b,us=[a,b]
 | [a,b],_=>#[a,b,rfl]
theorem len3{α:Type}:∀{us:List α},us[1]=3->∃ a b c,us=[a,b,c]
 | [a,b,c],_=>#[a,b,c,rfl]
theorem len4{α:Type}:∀{us:List α},us[1]=4->∃ a b c d,us=[a,b,c,d]
 | [a,b,c,d],_=>#[a,b,c,d,rfl]
section
variable{X:Cx}{F0 H0:Hp}
variable{pos p kp:Pos}
variable{w:World}{prog:af}{A:ag}{E:aa->ab->Prop}
variable{s:ab}
variable{R:Result->ab->Prop}{I:Addr}{fp wr:List Addr}{G:Array GenState->Array GenState->Prop}{n:Nat}{P:Nat->aa->Prop}{St:Nat->ab->Prop}
variable{S:Addr}{es:Array (Int×aa)}{ep i:Nat}{t:SetTable}
variable{T:Addr}
variable{pos2 p2:Pos}
variable{K:Frag}{C x:Addr}{ox:Obj}{od:Option Obj}
end
section
variable{X:Cx}{F0 H0:Hp}{n cN:Str}{S C e:Addr}{i:Nat}{x:Xc}{np vp ip cp apos:Pos}
variable{pins:List (Addr×Obj)}{σ:St}{H:Hp}{s:ab}
variable{cs:List Str}{hp:Pos}{b0:Stmt}{bd:List Stmt}{m:Addr->Xc->SF}
end
section
variable{X:Cx}{F0 H0:Hp}{pos p pos2 pos3:Pos}{e:Expr}{es:List Expr}{fa:List EF}{x:Str}{k n:Nat}{f L:Addr}{fd:FuncData}{ps:List Str}{dn:Den}{h0:ExceptHandler}{cs:List Str}{hd:Xc->Rho->Out}{outer:List Env}
end
section
variable{X:Cx}{F0 H0:Hp}{pos p pos2:Pos}{e:Expr}{es:List Expr}{fa:List EF}{g:Str}{fg:Addr}{dn:Den}{st:SF}{f:EF}{pre:List EF}
end
section
variable{X:Cx}{F0 H0:Hp}{S C e:Addr}{L:List (Str×Addr)}{c cS:Str}{x:Xc}{cs:List Str}
def all1{α:Type}{P:α->Prop}{a:α}{l:List α}(h:P a)(r:∀ p∈l,P p):∀ p∈a::l,P p:=λp hp=>by
 grind
def all0{α:Type}{P:α->Prop}:∀ p∈[],P p:=λ_ h=>nomatch h
variable{pos pos' pos2:Pos}{fa:List EF}{dn:Den}{st:SF}{y:Str}
end
def rm{j k:Nat}(z:Room k A)(h:(j<=k)["d"]):Room j A:=z.mono h
inductive FunE(K:Frag)(x:Str)(s:Stmt):Prop
 | mk {f:Addr} {od an:Option Addr} {sl:Array (Option Value)} {oc kV dc pm cd ct:Value} (a:nsIn K mainGlobals x=!(!(.ref f)))
   (l:K.lookup f=↑#[oc,od,.func (PySem.W.fnOf x x (defArgs s) (defBody s) (defScope s) .none kV dc pm an cd ct),sl]) (c:codeIn K cd x=true) (k:keepIn K (.ref f)=true):FunE K x s
inductive DatE(K:Frag)(x:Str)(c:D):Prop
 | mk {u:Value} (n:nsIn K mainGlobals x=!(!u)) (d:vE K 9 u=!c):DatE K x c
structure Cal(K:Frag)(mg:Str->Option Value)(x:Str)(ps:List Str)(f:Addr)(fd:FuncData):Prop where
 m:mg x=!(.ref f)
 k:keepIn K (.ref f)=true
 b:Binds K fd ps []
 n:nsIn K mainGlobals x=!(!(.ref f))
def FunF(K:Frag)(mg:Str->Option aa)(x:Str)(s:Stmt)(ps:List Str):Prop:=∃ f fd,Fun K x x s f fd/\Cal K mg x ps f fd
def C0(P:af)(w:World)(K:Frag)(mg:Str->Option aa)(base:Heap)(k:Nat)(x:Str)(ps:List Str)(dn:Den):Prop:=∃ f fd,FnOk P w K mg base CX0 k f fd ps (spD #[P,w,K] dn ps[1])/\Cal K mg x ps f fd
def CI(P:af)(w:World)(K:Frag)(mg:Str->Option aa)(base:Heap)(k:Nat)(x:Str)(ps:List Str)(dn:Den):Prop:=∃ f fd,FnOk P w K mg base CX0 k f fd ps (spI #[P,w,K] dn ps[1])/\Cal K mg x ps f fd
def CC(P:af)(w:World)(K:Frag)(mg:Str->Option aa)(x:Str)(c:D):Prop:=∃ u v,mg x=!u/\RelV v u/\∀ F,Rep #[P,w,K] F v c
section
variable{P:af}{w:World}{K:Frag}{mg:Str->Option aa}{h:Heap}{x:Str}{s:Stmt}{ps:List Str}{c:D}
def qd1(X:K.In h)(G:h.Ns mainGlobals mg)(E:FunE K x s)(O:∀ kV z pm an B ct us,us[1]=ps[1]->bindArgs (PySem.W.fnOf x x (defArgs s) (defBody s) (defScope s) .none kV z pm an B ct) #[us,[]]=pure (ps.zip us)):FunF K mg x s ps:=by
 obtain⟨a,l,cd,k⟩:=E;exact#[_,_,Ze l cd k,mi X G a,k,(Ze l cd k).binds O,a]
def qd2(X:K.In h)(G:h.Ns mainGlobals mg)(E:DatE K x c):CC P w K mg x c:=by
 obtain⟨n,d⟩:=E;obtain⟨v,r,q⟩:=Yn (κ:=#[P,w,K]) 9 _ _ d;exact#[_,v,mi X G n,r,q]
def qd3(X:K.In h)(G:h.Ns mainGlobals mg)(n:nsIn K mainGlobals x=!(!(.ref a)))(d:DatS w K a l):CC P w K mg x (.dK l):=by
 obtain⟨v,r,q⟩:=qcj (κ:=#[P,w,K]) d;exact#[_,v,mi X G n,r,q]
end
section
variable{P:af}{w:World}{K:Frag}{mg:Str->Option aa}{base:Heap}{x:Str}{st:Stmt}{N ps:List Str}{p:Str}{k:Nat}{body:SF}
def fD(F:FunF K mg x st ps)(S:FnScope N ps (defScope st))(h:∀ f z A outer s H F0,Room k (A.deeper (envOfC x (defScope st) s[0] f z)) ->
  SSs (cxOf CX0 P w K mg base N x (defScope st) f z A outer s H E0).nox F0 H (defBody st) body):C0 P w K mg base (k+1) x ps (den N[1] body):=by
 obtain⟨f,fd,F,J⟩:=F;exact#[f,fd,fnD F S (h f),J]
def fI(F:FunF K mg x st ps)(S:FnScope N ps (defScope st))(h:∀ f z A outer s H F0 H0,Room k (A.deeper (envOfC x (defScope st) s[0] f z)) ->
  SSs (cxOf CX0 P w K mg base N x (defScope st) f z A outer s H E0).nox F0 H0 (defBody st) body):CI P w K mg base (k+1) x ps (den N[1] body):=by
 obtain⟨f,fd,F,J⟩:=F;exact#[f,fd,fnI F S (h f),J]
end
section
variable{X:Cx}{F0 H0:Hp}{pos p:Pos}{e:Expr}{es:List Expr}{fa:List EF}{x:Str}{k:Nat}{ps:List Str}{dn:Den}{d:D}
def cl(G:C0 X.prog X.w X.K X.mg X.base k x ps dn)(O:Room k X.A)(U:SA X F0 H0 (e::es) fa)(Y:(fa[1]=ps[1])["r"])
  (Z:(Gl X x)["r"])(z:((x==("__debug__"))=false)["d"])(he:(starEach (e::es) X.env=(false,eval e X.env)::starEach es X.env)["r"])(B:((backTo pos (starEach es X.env)).any (·.1)=false)["r"]) :
  "S" (.Call (.Name x p) (e::es) [] pos) (qg dn fa):=by
 obtain⟨_,_,G,J⟩:=G;exact qaZ G O J.m J.k J.b U Y Z z he B
def gb(q:CC X.prog X.w X.K X.mg x d)(z:(Gl X x)["r"])(hd:((x==("__debug__"))=false)["d"]):"S" (.Name x pos) (eC d):=by
 obtain⟨_,_,m,r,q⟩:=q;exact Y9 m r q z hd
end
def zu(names:List (Str×NameKind)):List (Str×NameKind):=names.filter λy=>y.2 != .cell
theorem KQ{R:Str×NameKind->Str×NameKind}(B:∀ y,(R y).1=y.1)(O:x≠x0):∀{names},(∀ y∈names,y.2=.cell->y.1=x0)->(names.map R).lookup x=((zu names).map R).lookup x
 | [],_=>rfl
 | y::r,h=>by
  have ih:=KQ B O λz hz=>h z (gj _ hz)
  have e:R y=(y.1,(R y).2):=by rw[<- B y]
  by_cases c:y.2=.cell
  .have n:zu (y::r)=zu r:=by unfold zu;rw[pK (by simp[c])]
   rw[n,<- ih,gN,e,pH];have:(x==y.1)=false:=by rw[h y t8 c];simpa using O
   rw[this]
  have n:zu (y::r)=y::zu r:=by unfold zu;rw[fm (by simp[c])]
  rw[n,gN,gN,pH,pH,ih]
def yU{cl:List (Str×Addr)}(h:((x0,c0)::cl).lookup x=!c):(x=x0/\c=c0)\/(x≠x0/\cl.lookup x=!c):=by
 rw[pH]at h;by_cases e:x=x0
 .subst e;simp at h;exact .inl #[rfl,h.symm]
 have:(x==x0)=false:=by simpa using e
 rw[this]at h;exact .inr #[e,h]
section
variable{X:Cx}{pins:List (Addr×Obj)}{σ:St}{H₂:Hp}{s₂:ab}{fp:List Addr}{it:Addr}{tn:Nat->Heap->Prop}{J:It}{tg:Expr}{scope:Scope}{cl:List (Str×Addr)}{N:List Str}{n:Nat}{x0:Str}
def KR(B:∀ y∈scope.names,y.2=.cell->y.1=x0)(z:Cap X.env cl (zu scope.names))(h:(relabel scope X.env).names.lookup x=some .cell\/(relabel scope X.env).names.lookup x=some .free):x=x0\/(X.env.kindOf x=some .cell/\cl.lookup x=X.env.cells.lookup x):=by
 by_cases e:x=x0
 .exact .inl e
 refine .inr ?_;unfold relabel at h;rw[KQ (λy=>by obtain⟨a,b⟩:=y;dsimp only;split<;>rfl) e B]at h
 exact(Cap.mem z _ (Qz (λy hy=>(Cap.mem z y hy).1) h)).2 rfl
def qd4(B:"I" H₂ s₂)(T:Turn X.prog X.w X.K tg J fp it tn)(st:tn 0 s₂.heap)(f2:∀ b∈fp,FpOk X pins H₂ b)(U:scope.kind=.function)(hc:∀ y∈scope.names,y.2=.cell->y.1=x0)(Y:Cap X.env cl (zu scope.names))(O:ClIn X.env cl)
  (Z:s₂[0]<=C):(cxF (λy=>y==x0) X s₂ H₂ scope ((x0,C+1)::cl) C fp N).Ok:=by
 have lt:∀ x c,cl.lookup x=!c->c<C+1:=λx c e=>by
  obtain⟨v,o,ho,_⟩:=B.cell x c (ClIn.look O e);exact fY (t4 (gK ho) Z)
 refine#[B.ok.mod,U,B.ok.glob,B.ok.blt,Z,λx y c h1 h2=>?_,λx hx=>?_,λx c h e=>?_,B.ok.hd,B.ok.frames,.inl rfl,λb hb=>?_,B.bs,f8 B.ok.bsz B.sz,λb o e hb=>?_,λb hb z=>?_,B.stack,B.stkFree]
 .rcases yU h1 with⟨a1,a2⟩|⟨a1,a2⟩<;>rcases yU h2 with⟨b1,b2⟩|⟨b1,b2⟩
  .simp_all
  .exact absurd (lt y c b2) (by rw[a2];exact fB _)
  .exact absurd (lt x c a2) (by rw[b2];exact fB _)
  exact B.ok.inj x y c (ClIn.look O a2) (ClIn.look O b2)
 .show ∃ c,((x0,C+1)::cl).lookup x=!c;by_cases e:x=x0
  .simp_all
  obtain⟨q1,q2⟩:=(KR hc Y hx).resolve_left e;obtain⟨c,hc⟩:=B.ok.has x (.inl q1);have:(x==x0)=false:=by simpa using e
  exact#[c,by rw[pH,this];exact q2.trans hc]
 .rcases yU e with⟨_,a2⟩|⟨a1,_⟩
  .rw[a2];exact Nat.le_succ_of_le Z
  have h:(x==x0)=true:=h;exact absurd h[""] a1
 .obtain⟨f0,f1,f3,f4,f5,f6⟩:=f2 b hb;obtain⟨o,ho,_⟩:=T.obj 0 _ st b hb;have lb:=t4 (gK ho) Z;refine#[hV lb,λx c e=>?_]
  rcases yU e with⟨_,a2⟩|⟨_,a2⟩
  .rw[a2];exact fV (fY lb)
  exact f5 x c (ClIn.look O a2)
 .obtain⟨f0,f1,f3,f4,f5,f6⟩:=f2 b hb;rcases f4 with f4|f4
  .exact B.ok.noex b o e f4
  exact absurd (t4 (gK (B.ok.bs b o e).1) f4) (fB _)
 obtain⟨f0,f1,f3,f4,f5,f6⟩:=f2 b hb;rcases gy.mp (B.stkSub b z)with q|q
 .exact f1 q
 exact f3 q
def qd5(O:"I" H₂ s₂)(T:Turn X.prog X.w X.K tg J fp it tn)(st:tn 0 s₂.heap)(f2:∀ b∈fp,FpOk X pins H₂ b)(Z:scope.kind=.function)(hc:∀ y∈scope.names,y.2=.cell->y.1=x0)(Y:Cap X.env cl (zu scope.names))(U:ClIn X.env cl)(hx0:x0∉X.N)
  (hsl:Zu (relabel scope X.env) X.N N)(h4:N[1]=X.N.length+n){C:Nat}{h₁:Heap}{m:Str->Option aa}(hC:s₂[0]<C)(hns:h₁.Ns C m)(old:∀ b o,s₂.heap.get? b=!o->h₁.get? b=!o)
  (h5:h₁.get? s₂[0]=some {cls:=.type "list",data:=.seq #[] 0})(hce:h₁.IsCell (C+1) none) :
  Inv (cxF (λy=>y==x0) X s₂ H₂ scope ((x0,C+1)::cl) C fp N) [] (σ++List.replicate n none) (upd H₂ s₂[0] (.lst [])) {s₂ with heap:=h₁}:=by
 have hf:H₂ s₂[0]=none:=O.hok.fresh (gw _);have B:∀ c v,s₂.heap.IsCell c v->h₁.IsCell c v:=λc v #[o,ho,hd]=>#[o,old _ _ ho,hd]
 have cne:∀ x c,X.env.cells.lookup x=!c->c<s₂[0]:=λx c e=>by
  obtain⟨v,o,ho,_⟩:=O.cell x c e;exact gK ho
 refine#[qd4 O T st f2 Z hc Y U (pC hC),rfl,O.bare,Un.laid old (gw _) hf,#[m,hns,λi x v e1 e2 e3=>?_],λx c e=>?_,?_,λx c e=>?_,λp hp=>absurd (show p∈[]from hp) "s",?_,?_]
 .have hi:i<σ.length:=by
   by_cases hi:i<σ.length
   .exact hi
   rw[hE "",fJ]at e2
   simp_all
  rw[t3 hi]at e2;obtain⟨q1,q2⟩:=hsl i x (by rw[<- O.len];exact hi) e1 e3
  have nx:x≠x0:=λz=>hx0 (z▸hX q1)
  obtain⟨k1,k2⟩:=(KR hc Y (.inl q2)).resolve_left nx;obtain⟨m2,hn2,hl⟩:=O.loc;obtain⟨u,ru,lk⟩:=hl i x v q1 e2 (.inr (.inl k1));refine#[u,ru,?_];rcases lk with⟨z,_⟩|⟨_,c,hc,h3⟩
  .rw[show X.env.kindOf x=some .cell from k1]at z;cases z
  have:(x==x0)=false:=by simpa using nx
  exact .inr #[.inl q2,c,by show((x0,C+1)::cl).lookup x=!c;rw[pH,this];exact k2.trans hc,B c _ h3]
 .rcases yU e with⟨_,a2⟩|⟨_,a2⟩
  .rw[a2];exact#[none,hce]
  obtain⟨v,q⟩:=O.cell x c (ClIn.look U a2);exact#[v,B c v q]
 .show upd H₂ s₂[0] (.lst []) C=none;rw[qr (fV hC)];exact O.hok.fresh (pC hC)
 .show upd H₂ s₂[0] (.lst []) c=none;rcases yU e with⟨_,a2⟩|⟨_,a2⟩
  .rw[a2,qr (fV (fY hC))];exact O.hok.fresh (pC (fY hC))
  rw[qr (hV (cne x c (ClIn.look U a2)))];exact O.freeC x c (ClIn.look U a2)
 .exact O.hok.laid old (gw _) #[tJ _,[],0,.nil,h5]
 simp[O.len,h4,cxF]
def qd6{s:ab}{z:Addr}{B:Str}{env:Env}{Q:Env->ab->Prop}(U:cellsFrom (s[0]+1) scope.names cl=(x0,s[0]+1)::cl)(Y:∀ h,pushCells h scope.names=h.push {cls:=.type "cell",data:=.cell none})
  (h:∀ h',h'.Ns s[0] (λ_=>none)->h'.IsCell (s[0]+1) none->(∀ b o,s.heap.get? b=!o->h'.get? b=!o)->Q (newEnv scope s[0] z ((x0,s[0]+1)::cl) B none .none ↑env builtinsNs) {s with heap:=h'}) :
  wpAny M A (newFunctionEnv scope z cl [] B none .none !env) Q E s:=by
 have O:∀ o,(s.heap.push o).objs.size=s[0]+1:=λo=>pO ..
 apply g6;apply wpAny_alloc;apply g6;apply wpAny_layCells
 .simp
 rw[O,U,Y];apply g6;apply gu;apply gu;have up:∀(h:Heap) o b o',h.get? b=!o'->(h.push o).get? b=!o':=λh o b o' e=>gq _ e
 refine h _ ((Heap.Ns.new s.heap (.type "dict")).keeps (up _ _)) #[{cls:=.type "cell",data:=.cell none},?_,rfl] λb o e=>up _ _ b o (up _ _ b o e)
 rw[<- O {cls:=.type "dict",data:=.dict #[]}];exact(gM _ rfl)
end
section
variable{X:Cx}{F0 H0:Hp}{pos:Pos}{tg elt iter:Expr}{ifs:List Expr}{scope:Scope}{fi:IF}{gf:GF}{t:TF}{e:EF}
abbrev cxK(X:Cx)(scope:Scope)(x0:Str)(N:List Str)(s₂:ab)(H₂:Hp)(C:Addr)(fp:List Addr):Cx:=cxF (λy=>y==x0) X s₂ H₂ scope ((x0,C+1)::clOf X.env (zu scope.names) []) C fp N
def qd7{n:Nat}(x0)(N)(hi:SIc X F0 H0 tg iter fi)(hno:yG gf)
  (hg:∀ s₂ F₂ H₂ C fp,SG (cxK X scope x0 N s₂ H₂ C fp) F₂ H₂ tg gf)(ht:∀ s₂ F₂ H₂ C fp,Tests (cxK X scope x0 N s₂ H₂ C fp) F₂ H₂ ifs t)(he:∀ s₂ F₂ H₂ C fp,SE (cxK X scope x0 N s₂ H₂ C fp) F₂ H₂ elt e)
  (hN:(X.N++[x0]).Nodup)(h7:(closureFor scope X.env=closureFor {scope with names:=zu scope.names} X.env)["r"])(hcf:∀ k cl,cellsFrom k scope.names cl=(x0,k)::cl:=by intro _ _;rfl)(hpc:∀ h,pushCells h scope.names=h.push {cls:=.type "cell",data:=.cell none}:=by intro _;rfl)(hce:∀ y∈scope.names,y.2=.cell->y.1=x0:=by decide +kernel)
  (hc:(X.calm=true)["r"])(Z:(scope.kind=.function)["r"])(h3:(vv X.env (zu scope.names)=true)["r"])(h5:(wC (relabel scope X.env).names X.N N=true)["r"])(h8:(N[1]=X.N.length+n)["r"])
  (h6:∀ x∈scope.names,x.2=.local->scope.names.lookup x.1=some .local:=by decide +kernel)(hs:∀ x,foldedSetIterable iter X.env x=pure x:=by intro _;rfl) :
  "S" (.ListComp elt [#[tg,iter,ifs,0]] scope pos) (qE n fi gf t e):=by
 have hx0:x0∉X.N:=λh=>(fq.mp hN).2.2 x0 h x0 "s" rfl
 intro pins s σ F H ρ Q S I h;have has:∀ n,X.env.kindOf n=some .cell->∃ c,X.env.cells.lookup n=!c:=λn hn=>I.ok.has n (.inl hn)
 have hCl:=u9 (zu scope.names) [] h3 has trivial;have hCp:=Ys (scope:={scope with names:=zu scope.names}) h3 has;refine wpAny_comprehension_free rfl hs (h7.trans (Yr (scope:={scope with names:=zu scope.names}) h3 has)) Z h6 ?_;obtain⟨wi,PIv,hwi⟩:=hi;cases ed:fi ρ with
 | exc x=>have h:=KE.bind h;rw[ed]at h;exact h.elim
 | stuck=>have h:=KE.bind h;rw[ed]at h;cases h
 | ok ds =>
  have h:=KE.bind h;rw[ed]at h;refine thn (PIv pins s σ H (λJ H1=>∃ F1,Gr F H F1 H1/\Walk (kx X) J F1 H1 ds) I (hwi σ F H ρ _ S (by rw[ed];exact λF1 H1 J g W=>#[F1,g,W]))) λv s1 h1=>thn h1 λitv s₂ h2=>?_
  obtain⟨it,fp,tn,J,H₂,rfl,I2,T,st2,f2,F₂,g2,Wk⟩:=h2;refine tV (qd6 (hcf _ _) hpc λh₁ U Y O=>?_)
  generalize hH2:s₂.heap.push {cls:=.type "list",dict:=none,data:=.seq [].toArray}=HP at U Y O ⊢;have hC:HP.objs.size=s₂[0]+1:=by rw[<- hH2,pO]
  have old:∀ b o,s₂.heap.get? b=!o->h₁.get? b=!o:=λb o e=>O b o (hH2▸gq _ e)
  have h9:h₁.get? s₂[0]=some {cls:=.type "list",data:=.seq #[] 0}:=O _ _ (hH2▸gM _ rfl);have hp:H₂ s₂[0]=none:=I2.hok.fresh (gw _);have B:s₂[0]<HP.objs.size:=by rw[hC];exact dq _
  have I4:=qd5 (N:=N) (n:=n) I2 T st2 f2 Z hce hCp hCl hx0 (Zv h5) h8 B U old h9 Y;have st4:tn 0 h₁:=T.keep _ _ _ st2 λb hb o e=>old b o e
  have S4:StOk (kx X) F₂ H₂ F₂ H₂ (qR n ρ) (σ++List.replicate n none):=Yo n (S.grow g2);have ha:∀ b∈fp,FpOk (cxK X scope x0 N s₂ H₂ HP.objs.size fp) [] (upd H₂ s₂[0] (.lst [])) b:=λb hb=>by
   obtain⟨f0,f1,f3,f4,f5,f6⟩:=f2 b hb;obtain⟨o,ho,_⟩:=T.obj 0 _ st2 b hb;have lb:=gK ho;refine#[by rw[qr (hV lb)];exact f0,(show b≠HP.objs.size from hV (pZ lb B)),λz=>?_,.inl hb,λx c e=>?_,λq hq=>absurd (show q∈[]from hq) "s"]
   .rcases gy.mp (I2.stkSub b z)with q|q
    .exact f1 q
    exact f3 q
   rcases yU e with⟨_,a2⟩|⟨_,a2⟩
   .rw[a2];exact fV (fY (pZ lb B))
   exact f5 x c (ClIn.look hCl a2)
  rw[xU]at h;by_cases csz:ds[1]<=sz
  .rw[if_pos csz]at h;have run:∀ h4,h4={s₂ with heap:=h₁} ->
     codeAny (model X.prog X.w) X.A (.compLoop (.ListComp elt [#[tg,iter,ifs,0]] scope pos) 0 (.ref it) (.ref s₂[0]) (compEnvC scope ((x0,HP.objs.size+1)::clOf X.env (zu scope.names) []) HP.objs.size X.env))
      (compPost (model X.prog X.w) X.A X.xe none Q (.ref s₂[0]) HP.objs.size) h4:=by
    rintro h4 rfl;refine Yq (pins:=pins) (σ:=σ) (N:=N) (s₂:=s₂) (F₂:=F₂) (QA _ _ _) g2.s T hc st4 Wk ha hp I4 S4 (Yp n ρ) hno (hg _ _ _ _ _) (ht _ _ _ _ _) (he _ _ _ _ _) csz (KE.impX (KE.bind h) (λys k σ1 F1 H1 vs s1 g1 nf hv rs I1=>?_) λ_ z=>z)
    have J1:"I" H1 s1:=I2.call' (ch:=fp) I1.os I1.base I1.hok I1.bare λb hb=>by
     obtain⟨f0,f1,f3,f4,f5,f6⟩:=f2 b hb;exact#[f4,f1,f5,f6]
    obtain⟨m1,hn1,_⟩:=I1.loc;have cl2:∀ x c,X.env.cells.lookup x=!c->c≠HP.objs.size:=λx c e z=>by
     obtain⟨v,o,ho,_⟩:=I2.cell x c e;exact fB _ (pZ (gK ho) (z▸B))
    have lne:HP.objs.size≠X.env.locals:=tf (hV (pZ I2.lt B));refine#[m1,hn1,λh' sb=>?_]
    have J2:"I" H1 {s1 with heap:=h'}:=J1.turned (t':=s1.toks) (λb o hb e=>(sb.2 b hb).trans e) I1.free lne (.inr (f8 I2.sz (pC B))) cl2 λq hq z=>fB _ (pZ (gK (I2.pin q hq).1) (z▸B))
    exact k (.ref s₂[0]) (.ref s₂[0]) F1 H1 _ (g2.trans g1) #[_,_,rfl,Le.none g2.h hp,nf,hv,rs] rfl J2
   exact codeAny_compStart_list (run _ rfl) (T.self _ 0 _ _ _ st4 (run _ rfl))
  rw[if_neg csz]at h;cases h
variable{a b:SF}{ρ ρ':Rho}{w:En}{x:Xc}{d:D}{f:EF}{u:TF}{i j:Nat}
theorem qig:qe a b ρ=Out.th (a ρ) b:=rfl
theorem qih:jB i a ρ=a (kT ρ[i]? i ρ):=rfl
theorem qii:kQ []=.ok (.lst [])[9]:=rfl
theorem qij:kQ [a0]=.ok (.lst [a0])[9]:=rfl
theorem qik:kQ [a0,a1,a2]=.ok (.lst [a0,a1,a2])[9]:=rfl
theorem qil:kQ [a0,a1,a2,a3,a4]=.ok (.lst [a0,a1,a2,a3,a4])[9]:=rfl
theorem qim:kQ [a0,a1,a2,a3,a4,a5,a6]=.ok (.lst [a0,a1,a2,a3,a4,a5,a6])[9]:=rfl
theorem qin:QG [a0,a1]=.ok (.tup [a0,a1])[8]:=rfl
theorem qio:QG [a0,a1,a2]=.ok (.tup [a0,a1,a2])[8]:=rfl
theorem qip:QG [a0,a1,a2,a3]=.ok (.tup [a0,a1,a2,a3])[8]:=rfl
end
section
variable{α β:Type}{f:α->β}{a b:α}{l r:List α}{n i:Nat}
theorem qiq:List.map f []=[]:=rfl
theorem qir:List.map f (a::l)=f a::List.map f l:=rfl
theorem qis:[]++l=l:=rfl
theorem qit:(a::l)++r=a::(l++r):=rfl
theorem qiu:([]:List α)[1]=0:=rfl
theorem qiv:(a::l)[1]=l[1]+1:=rfl
theorem qiw:List.replicate 0 a=[]:=rfl
theorem qix:List.replicate (n+1) a=a::List.replicate n a:=rfl
theorem qiy:(a::l)[0]?=!a:=rfl
theorem qiz:(a::l)[i+1]?=l[i]?:=rfl
theorem qiA:(a::l).set 0 b=b::l:=rfl
theorem qiB:(a::l).set (i+1) b=a::l.set i b:=rfl
theorem y_nt:(not true)=false:=rfl
theorem y_nf:(not false)=true:=rfl
end
abbrev FnT:=List (Str×Stmt)
def fnm(Fs:FnT)(n:Nat):Str:=(Fs.getD n ("_",.Pass #[0,0,0,0])).1
def fst(Fs:FnT)(n:Nat):Stmt:=(Fs.getD n ("_",.Pass #[0,0,0,0])).2
def psS(s:Stmt):List Str:=(defArgs s).args.map Arg.arg
structure Wd where
 P:Program
 w:World
 K:Frag
 mg:Str->Option Value
 base:Heap
structure Al(W:Wd)(Fs:FnT)(Bl:List Str)(Cs:List (Str×D)):Prop where
 h:∃ h:Heap,W.K.In h/\h.Ns mainGlobals W.mg
 f:∀ p∈Fs,FunE W.K p.1 p.2
 b:∀ x∈Bl,nsIn W.K mainGlobals x=!none
 c:∀ p∈Cs,CC W.P W.w W.K W.mg p.1 p.2
section
variable{W:Wd}{Fs:FnT}{Bl:List Str}{Cs:List (Str×D)}
def Al.bl(A:Al W Fs Bl Cs)(h:x∈Bl:=by decide +kernel):W.mg x=none:=by
 obtain⟨_,X,G⟩:=A.h;exact PySem.W.mg_none_of X G (A.b x h)
def Al.q(A:Al W Fs Bl Cs)(n:Nat)(h:(Cs[n]?=!(x,d))["r"]):CC W.P W.w W.K W.mg x d:=A.c _ (hX h)
abbrev apS(N M:List Str):List Str:=N++M
def ndc(_:N.Nodup)(M)(h:(apS N M).Nodup:=by decide +kernel):(apS N M).Nodup:=h
def Al.fn(A:Al W Fs Bl Cs)(n){ps:List Str}(O:n<Fs.length)
  (U:∀ kV z pm an B ct us,us[1]=ps[1]->bindArgs (PySem.W.fnOf (fnm Fs n) (fnm Fs n) (defArgs (fst Fs n)) (defBody (fst Fs n)) (defScope (fst Fs n)) .none kV z pm an B ct) #[us,[]]=pure (ps.zip us)) :
  FunF W.K W.mg (fnm Fs n) (fst Fs n) ps:=by
 obtain⟨_,X,G⟩:=A.h;have e:Fs.getD n ("_",.Pass #[0,0,0,0])∈Fs:=by rw[hU,gE O];exact fH O
 exact qd1 X G (A.f _ e) U
def fE(A:Al W Fs Bl Cs)(n)(N){k:Nat}
  (h:∀{f} {z} {Ar} {outer} {s} {H F0},Room k (Ar.deeper (envOfC (fnm Fs n) (defScope (fst Fs n)) s[0] f z))->N.Nodup->(Ar.deeper (envOfC (fnm Fs n) (defScope (fst Fs n)) s[0] f z)).units+10<cLine ->
   SSs (cxOf CX0 W.P W.w W.K W.mg W.base N (fnm Fs n) (defScope (fst Fs n)) f z Ar outer s H E0).nox F0 H (defBody (fst Fs n)) body)
  (O:(n<Fs.length)["d"]) (S:FnScope N (psS (fst Fs n)) (defScope (fst Fs n)):=by constructor<;>first|rfl|decide +kernel)
  (U:∀ kV B pm an z ct us,us[1]=(psS (fst Fs n))[1]->bindArgs (PySem.W.fnOf (fnm Fs n) (fnm Fs n) (defArgs (fst Fs n)) (defBody (fst Fs n)) (defScope (fst Fs n)) .none kV B pm an z ct) #[us,[]]=pure ((psS (fst Fs n)).zip us):=by
   intro _ _ _ _ _ _ us hl;first|(obtain⟨_,rfl⟩:=len1 hl;rfl)|(obtain⟨_,_,rfl⟩:=len2 hl;rfl)|(obtain⟨_,_,_,rfl⟩:=len3 hl;rfl)|(obtain⟨_,_,_,_,rfl⟩:=len4 hl;rfl)) :
  C0 W.P W.w W.K W.mg W.base (k+1) (fnm Fs n) (psS (fst Fs n)) (den N[1] body):=fD (A.fn n O U) S λ_ _ _ _ _ _ _ hr=>h hr S.nd (hu10 hr)
def fEI(A:Al W Fs Bl Cs)(n)(N){k:Nat}
  (h:∀{f} {z} {Ar} {outer} {s} {H F0 H0},Room k (Ar.deeper (envOfC (fnm Fs n) (defScope (fst Fs n)) s[0] f z))->N.Nodup->(Ar.deeper (envOfC (fnm Fs n) (defScope (fst Fs n)) s[0] f z)).units+10<cLine ->
   SSs (cxOf CX0 W.P W.w W.K W.mg W.base N (fnm Fs n) (defScope (fst Fs n)) f z Ar outer s H E0).nox F0 H0 (defBody (fst Fs n)) body)
  (O:(n<Fs.length)["d"]) (S:FnScope N (psS (fst Fs n)) (defScope (fst Fs n)):=by constructor<;>first|rfl|decide +kernel)
  (U:∀ kV B pm an z ct us,us[1]=(psS (fst Fs n))[1]->bindArgs (PySem.W.fnOf (fnm Fs n) (fnm Fs n) (defArgs (fst Fs n)) (defBody (fst Fs n)) (defScope (fst Fs n)) .none kV B pm an z ct) #[us,[]]=pure ((psS (fst Fs n)).zip us):=by
   intro _ _ _ _ _ _ us hl;obtain⟨_,_,_,_,rfl⟩:=len4 hl;rfl) :
  CI W.P W.w W.K W.mg W.base (k+1) (fnm Fs n) (psS (fst Fs n)) (den N[1] body):=fI (A.fn n O U) S λ_ _ _ _ _ _ _ _ hr=>h hr S.nd (hu10 hr)
def fEL(F:Fun W.K "law" "law" s f fd)(N){k:Nat}
  (h:∀{cdv} {Ar} {outer} {st} {H F0},Room k (Ar.deeper (envOfC "law" (defScope s) st[0] f cdv))->N.Nodup->(Ar.deeper (envOfC "law" (defScope s) st[0] f cdv)).units+10<cLine ->
   SSs (cxOf CX0 W.P W.w W.K W.mg W.base N "law" (defScope s) f cdv Ar outer st H E0).nox F0 H (defBody s) body)
  (S:FnScope N ["_law_script"] (defScope s):=by constructor<;>first|rfl|decide +kernel) :
  FnOk W.P W.w W.K W.mg W.base CX0 (k+1) f fd ["_law_script"] (spD #[W.P,W.w,W.K] (den N[1] body) 1):=fnD F S λ_ _ _ _ _ _ hr=>h hr S.nd (hu10 hr)
end
def qd8{K:Frag}{mg:Str->Option aa}{h:Heap}{k:Nat}(X:K.In h)(G:h.Ns mainGlobals mg)(z:mg "law"=!(.ref fa))(E:FunE K "law" s)
  (U:∀ kV B pm an O ct st v,BindsTo st (PySem.W.fnOf "law" "law" (defArgs s) (defBody s) (defScope s) .none kV B pm an O ct) #[[v],[]] [("_law_script",v)])
  (H:∀ base f fd,Fun K "law" "law" s f fd->FnOk P w K mg base CX0 k f fd ["_law_script"] (spD #[P,w,K] dn 1)) :
  ∃ fd,(∀ st v,BindsTo st fd #[[v],[]] [("_law_script",v)])/\∀ base,K.In base->base.Ns mainGlobals mg->FnOk P w K mg base CX0 k fa fd ["_law_script"] (spD #[P,w,K] dn 1):=by
 obtain⟨a,l,c,kk⟩:=E;have e:=z.symm.trans (mi X G a);cases e;exact#[_,λst v=>U _ _ _ _ _ _ st v,λbase _ _=>H base _ _ (Ze l c kk)]
end L3
namespace HT
open PySem PyProof.Rows L2
section
variable{prog:af}{w:World}{A:ag}{E:aa->ab->Prop}{s:ab}
end
end HT
namespace L3
open PySem PySem.Spec PyProof.Rows L2
section
variable{X:Cx}{F0 H0:Hp}{pos p2:Pos}
end
end L3
namespace My
open PySem PySem.Spec PyProof.Rows L2 L3
def top (i:Nat):Stmt:=PySem.Challenge.pw_stavemill_k41_a_page_by_its_parts.main.body.getD i (.Pass #[0,0,0,0])
def Vl:D:=.str "CDEFGAB"
def xj:D:=.tup [.int 0,.int 1,.int 2]
def Vm:D:=.tup [.int 37,.int 31,.int 25]
def Vn:D:=.int 8
def KS:D:=.int 4
def Jg:D:=.int 60
def uE:D:=.tup [.tup [.int 0,.int 1000],.tup [.int 1,.int 400],.tup [.int 0,.int 127]]
def Vp:D:=.dK [(.inl (112),.tup [.int 64,.int 2]),(.inl (96),.tup [.int 64,.int 1]),(.inl (64),.tup [.int 64,.int 0]),(.inl (56),.tup [.int 32,.int 2]),(.inl (48),.tup [.int 32,.int 1]),(.inl (32),.tup [.int 32,.int 0]),(.inl (28),.tup [.int 16,.int 2]),(.inl (24),.tup [.int 16,.int 1]),(.inl (16),.tup [.int 16,.int 0]),(.inl (14),.tup [.int 8,.int 2]),(.inl (12),.tup [.int 8,.int 1]),(.inl (8),.tup [.int 8,.int 0]),(.inl (7),.tup [.int 4,.int 2]),(.inl (6),.tup [.int 4,.int 1]),(.inl (4),.tup [.int 4,.int 0]),(.inl (3),.tup [.int 2,.int 1]),(.inl (2),.tup [.int 2,.int 0]),(.inl (1),.tup [.int 1,.int 0])]
def Vq:D:=.int (-7)
def Vr:D:=.int 7
def uF:D:=.str "FCGDAEB"
def KU:List (Sum Int Str×D):=[(.inr "C",.int 0),(.inr "D",.int 2),(.inr "E",.int 4),(.inr "F",.int 5),(.inr "G",.int 7),(.inr "A",.int 9),(.inr "B",.int 11)]
def Jh:D:=.dK KU
def Vt:D:=.int 1
def Vu:D:=.int 5000
def Vv:D:=.int 4
def Vw:D:=.int 3
def Ji:D:=.int 20
def Vx:D:=.tup [.tup [.int 0,.int 1000],.tup [.int 1,.int 24],.tup [.int 1,.int 64]]
def Vy:D:=.tup [.int 1,.int 2,.int 4,.int 8,.int 16,.int 32,.int 64]
def Vz:D:=.int 8
def VA:D:=.int 512
def Jj:D:=.int 8
def KW:SF :=
 (qt (eOp qz (eOp jN 7[5] (eOp wI (q9 0) 1[5])) (eOp x4 (eC Vl) (eOp wI (q9 0) 0[5]))))
def yV:Den:=den 1 KW
def KY:SF :=
 (qe (qj 2 (eOp qc (eC Vm) (q9 1)))
 (qe (qj 3 (eOp qZ (eOp qZ (q9 0) (q9 2)) (eC Vn)))
 (qe (qj 4 (eOp qZ (q9 2) (q9 0)))
 (qt (eOp vN (eB V3 [(q9 3),(q9 4),0[5]]) 2[5])))))
def uG:Den:=den 5 KY
def qd9:SF :=
 (qt (qE 1 (jc (eC xj)) (gV 2) qI (eIf (tE (eOp dEq (q9 2) (q9 1))) (eOp qc (q9 0) (q9 2)) (eOp qz (eOp qc (q9 0) (q9 2)) (eC KS)))))
def w9:Den:=den 2 qd9
def qda:SF :=
 (qt (yw (eUn (dIs .int) (q9 0)) (Y8 (eUn (dIs .bool) (q9 0)))))
def uH:Den:=den 1 qda
def VB:SF :=
 (qt (yw (eUn (dIs .list) (q9 0)) (uc dLe dLe (q9 1) (eB jd [(q9 0)]) (q9 2))))
def yW:Den:=den 3 VB
def qdb:SF :=
 (qt (eOp qz (eOp qc (q9 0) 0[5]) (eOp qc (q9 0) 1[5])))
def zF:Den:=den 1 qdb
def KZ:SF :=
 (qe (yO 1 eDT)
 (qe (qO (jc (eB vZ [(q9 0)])) (gV 2) (sSd 1 [(eOp qc (q9 2) 0[5]),(eOp qc (q9 2) 1[5])] (jg []) (eOp qc (q9 2) 2[5])))
 (uw 1 (qt (qE 1 (iT 1) (gV 3) qI (ju [(eOp qc (q9 3) 0[5]),(eOp qc (q9 3) 1[5]),(eB wU [(eOp ya (q9 1) (q9 3))])]))))))
def wa:Den:=den 3 KZ
def X0:SF :=
 (qe (qj 1 (jg []))
 (qe (qj 2 (q9 0))
 (qe (qO (Zz (eC Vp)) (gV 3) (wV 520 (tE (eOp dLe (q9 3) (q9 2))) (qe (qN 1 (q9 3))
 (jV 2 qZ (q9 3)))))
 (jw 1))))
def uI:Den:=den 4 X0
def X1:SF :=
 (qt (eOp qz (q9 0) (eOp vy (eOp qZ (q9 1) (q9 0)) (q9 2))))
def uJ:Den:=den 3 X1
def qdc:SF :=
 (qt (eOp vN (eOp qz (q9 0) 1[5]) 7[5]))
def Jk:Den:=den 1 qdc
def X2:SF :=
 (qt (eOp qz (eOp qz (eOp jN 12[5] (eOp qc (q9 0) 2[5])) (eOp kI (eC Jh) (eOp qc (q9 0) 0[5]))) (eOp qc (q9 0) 1[5])))
def xk:Den:=den 1 X2
def X3:SF :=
 (qe (qj 1 (jg []))
 (qe (qO (zr 0) (gT [2,3]) (qe (qj 4 0[5])
 (qO (zr 3) (gT [5,6]) (qe (qN 1 (ju [(q9 4),(q9 2),(q9 5)]))
 (jV 4 zL (eOp qc (q9 6) 1[5]))))))
 (qt (eB vZ [(q9 1)]))))
def wg:Den:=den 7 X3
def Jl:SF :=
 (qe (sIf (tOr (tE (eOp wG (q9 0) (eC .non))) (tOr (tE (eOp dEq (eOp qc (q9 0) 0[5]) (eC (.str "rest")))) (jO (tE (eOp qc (q9 0) 3[5]))))) (qt (eC .non)) qu)
 (qt (eOp qc (q9 0) 2[5])))
def yf:Den:=den 1 Jl
def X4:SF :=
 (qe (qj 1 0[5])
 (qe (jB 0 (qO (iV 0) (gV 2) (jB 2 (qO (iV 2) (gV 3) (sIf (tE (eOp dEq (eOp qc (q9 3) 0[5]) (eC (.str "note")))) (jV 1 zL (eB jd [(qE 1 (jc (eOp qc (q9 3) 2[5])) (gV 4) (tE (eOp zE (eOp qc (q9 4) 2[5]) (eC .non))) (q9 4))])) qu)))))
 (jw 1)))
def Jm:Den:=den 4 X4
def X5:SF :=
 (qO (zr 0) (gT [2,3]) (sIf (tE (eOp dGt (q9 3) (q9 1))) zq qu))
def Jn:Den:=den 4 X5
def X6:SF :=
 (qe (qj 4 (jg []))
 (qe (qj 5 (q9 1))
 (qe (qO (iR2 (eOp qz (q9 2) 1[5]) (eOp qz (eB jd [(q9 0)]) 1[5])) (gV 6) (qe (jV 5 qZ (eOp qc (q9 0) (eOp qZ (q9 6) 1[5])))
 (qe (sIf (tE (eOp dLt (q9 5) 0[5])) yx qu)
 (qe (qj 7 (eIf (tE (eOp dEq (q9 6) (eB jd [(q9 0)]))) 0[5] (eOp qz (eOp jN (q9 5) (q9 5)) (eOp qc (eOp qc (q9 3) (q9 6)) 0[5]))))
 (qN 4 (ju [(q9 7),(eUn jR (q9 6))]))))))
 (jw 4))))
def uK:Den:=den 8 X6
def X7:SF :=
 (qt (eOp jN (eOp qc (q9 0) 1[5]) (eOp qc (q9 0) 2[5])))
def wj:Den:=den 1 X7
def VC:SF :=
 (qe (sIf (tE (eOp dEq (q9 1) 0[5])) (qt (eOp dEq (eOp qc (eOp qc (q9 0) 0[5]) 0[5]) 0[5])) qu)
 (qt (eOp dGt (eOp qc (eOp qc (q9 0) (q9 1)) 0[5]) (eOp qc (eOp qc (q9 0) (eOp qZ (q9 1) 1[5])) 0[5]))))
def yg:Den:=den 2 VC
def X8:SF :=
 (qe (sIf (tE (eOp dLt (q9 1) (eB jd [(q9 0)]))) (qt (eOp qc (q9 0) (q9 1))) qu)
 (qt 0[5]))
def zP:Den:=den 2 X8
def X9:SF :=
 (qt (eOp vy (eOp vy (eOp jN (q9 0) 48271[5]) (q9 1)) (q9 2)))
def zd:Den:=den 3 X9
def qdd:SF :=
 (qe (jB 1 (qO (iV 1) (gV 2) (sIf (zW (tE (eOp dEq (eOp qc (q9 0) 2[5]) (eOp qc (q9 2) 2[5]))) (zW (tE (eOp dLt (eOp qc (q9 0) 0[5]) (eOp qz (eOp qc (q9 2) 0[5]) (eOp qc (q9 2) 1[5])))) (tE (eOp dLt (eOp qc (q9 2) 0[5]) (eOp qz (eOp qc (q9 0) 0[5]) (eOp qc (q9 0) 1[5])))))) (qt (eC (.bl false))) qu)))
 (qt (eC (.bl true))))
def Jo:Den:=den 3 qdd
def qde:SF :=
 (qe (qj 2 eDT)
 (qe (jB 1 (qO (iV 1) (gV 3) (sIf (zW (tE (eOp dLt (eOp qc (q9 3) 0[5]) (eOp qz (eOp qc (q9 0) 0[5]) (eOp qc (q9 0) 1[5])))) (tE (eOp dLt (eOp qc (q9 0) 0[5]) (eOp qz (eOp qc (q9 3) 0[5]) (eOp qc (q9 3) 1[5]))))) (sIf (tE (eOp dNe (ju [(eOp qc (q9 3) 0[5]),(eOp qc (q9 3) 1[5])]) (ju [(eOp qc (q9 0) 0[5]),(eOp qc (q9 0) 1[5])]))) (kS 2 [(eOp qc (q9 3) 0[5]),(eOp qc (q9 3) 1[5])] (eC (.bl true))) qu) qu)))
 (qt (eB jd [(q9 2)]))))
def Jp:Den:=den 4 qde
def Xa:SF :=
 (qe (qj 2 (jg []))
 (qe (wV 200 (tOr (jO (tE (q9 2))) (tE (eOp dLt (eB vW [(q9 2)]) (q9 1)))) (qN 2 (eOp qc (qE 1 (iVc 0) (gV 3) (tE (eOp dLe (eOp qc (q9 3) 0[5]) (eB jd [(q9 2)]))) (eOp jN (eOp qc (q9 3) 1[5]) (eOp qc (q9 3) 2[5]))) (eUn jR 1[5]))))
 (jw 2)))
def uL:Den:=den 3 Xa
def Xb:SF :=
 (qe (qj 1 (jg []))
 (qe (jB 0 (qO (iV 0) (gV 2) (jB 2 (qO (iV 2) (gV 3) (sIf (tE (eOp dEq (eOp qc (q9 3) 0[5]) (eC (.str "note")))) (vG 1 (qE 1 (jc (eOp qc (q9 3) 2[5])) (gV 4) qI (qg yV [(q9 4)]))) qu)))))
 (jw 1)))
def uN:Den:=den 4 Xb
def Xd:SF :=
 (qt (eB vW [(qE 1 (iVc 0) (gV 2) qI (qg uG [(q9 2),(q9 1)]))]))
def yX:Den:=den 2 Xd
def Xe:SF :=
 (qt (yw (qg uH [(q9 0)]) (uc dLe dLe (q9 1) (q9 0) (q9 2))))
def xm:Den:=den 3 Xe
def Xf:SF :=
 (qt (yw (eOp dEq (eOp qc (q9 0) 2[5]) (eOp qc (q9 1) 2[5])) (yw (eOp dLt (eOp qc (q9 0) 0[5]) (qg zF [(q9 1)])) (eOp dLt (eOp qc (q9 1) 0[5]) (qg zF [(q9 0)])))))
def uO:Den:=den 2 Xf
def Xg:SF :=
 (qt (qE 1 (jc (qg uI [(q9 0)])) (gV 1) qI (ju [(eC (.str "rest")),(q9 1)])))
def xn:Den:=den 1 Xg
def Xh:SF :=
 (qe (qj 3 (qg zF [(q9 0)]))
 (qe (qj 4 (jg []))
 (qe (qj 5 (q9 1))
 (qe (qO (jc (qg uI [(eOp qZ (q9 2) (q9 1))])) (gV 6) (qe (jV 5 zL (q9 6))
 (qN 4 (ju [(eC (.str "note")),(q9 6),(eOp qc (q9 0) 2[5]),(eOp dLt (q9 5) (q9 3))]))))
 (jw 4)))))
def xo:Den:=den 7 Xh
def qdf:SF :=
 (qt (qg uJ [(eOp qZ (q9 1) 4[5]),(eOp jN 7[5] (q9 0)),12[5]]))
def VD:Den:=den 2 qdf
def Xi:SF :=
 (qt (qg Jk [(qg uJ [(eOp qZ (q9 1) 1[5]),(eOp qZ (eOp x4 (eC uF) (q9 0)) 1[5]),7[5]])]))
def wm:Den:=den 2 Xi
def Xj:SF :=
 (qe (qj 1 (Ve (qE 1 (jc (qg wg [(q9 0)])) (gV 2) qI (eOp qc (q9 2) 0[5]))))
 (qt (eOp qz (eOp qz (eC Vv) (eOp jN (eC Vw) (q9 1))) (qg Jm [(q9 0)]))))
def vJ:Den:=den 2 Xj
def Xk:SF :=
 (qe (sIf (jO (tE (qg uH [(q9 1)]))) zq qu)
 (qe (xS (qg Jn [(q9 0),(q9 1)]))
 (qe (qj 2 (eOp x9 (jg [(ju [0[5],0[5]])]) (eB jd [(q9 0)])))
 (qe (qO (iR3d (eOp qZ (eB jd [(q9 0)]) 1[5]) (eUn jR 1[5]) (eUn jR 1[5])) (gV 3) (kR 2 (q9 3) (eB xa [(qg uK [(q9 0),(q9 1),(q9 3),(q9 2)])])))
 (jw 2)))))
def Jq:Den:=den 4 Xk
def Xl:SF :=
 (qe (qj 2 eDK)
 (qe (jB 0 (qO (iV 0) (gV 3) (vV 2 (eOp qc (q9 3) 0[5]) (qg wj [(q9 3)]))))
 (qe (qj 4 (jg []))
 (qe (qj 5 0[5])
 (qe (qO (iR1 (q9 1)) (gV 6) (qe (qj 5 (ua (q9 2) (q9 6) (q9 5)))
 (qN 4 (q9 5))))
 (jw 4))))))
def uP:Den:=den 7 Xl
def Xm:SF :=
 (qe (qj 2 0[5])
 (qe (qj 3 0[5])
 (qe (qj 4 0[5])
 (qe (jB 0 (qO (iV 0) (gV 5) (qe (qj 6 (eOp qz (q9 3) (eOp jN (eOp qZ (eOp qc (q9 5) 0[5]) (q9 2)) (q9 4))))
 (qe (sIf (tE (eOp dLt (q9 1) (q9 6))) yx qu)
 (qe (qj 2 (eOp qc (q9 5) 0[5]))
 (qe (qj 3 (q9 6))
 (qj 4 (qg wj [(q9 5)]))))))))
 (qt (ju [(eOp qz (q9 2) (eOp vN (eOp qZ (q9 1) (q9 3)) (q9 4))),(eOp vy (eOp qZ (q9 1) (q9 3)) (q9 4))]))))))
def Jr:Den:=den 7 Xm
def qdg:SF :=
 (qe (qO (zr 0) (gT [2,3]) (sIf (tE (eOp dLe (qg zF [(eOp qc (q9 3) (eUn jR 1[5]))]) (q9 1))) (jw 2) qu))
 (qt (eB jd [(q9 0)])))
def uQ:Den:=den 4 qdg
def Xn:SF :=
 (qt (eOp dEq (qg zd [(eOp qz (qg zP [(q9 0),0[5]]) (eOp jN 7[5] (eB jd [(q9 0)]))),9871[5],8[5]]) 3[5]))
def Js:Den:=den 1 Xn
def Xo:SF :=
 (qe (qj 3 (qg zd [(q9 0),10007[5],97[5]]))
 (qe (qj 4 (eOp qz 1[5] (qg zd [(q9 0),9973[5],48[5]])))
 (qe (qj 5 (eOp qz 52[5] (qg zd [(q9 0),9967[5],25[5]])))
 (qe (sIf (tE (q9 2)) (qe (qj 3 (qg zd [(q9 0),10007[5],1001[5]]))
 (qe (qj 4 (eOp qz 1[5] (qg zd [(q9 0),9973[5],400[5]])))
 (qj 5 (qg zd [(q9 0),9967[5],128[5]])))) qu)
 (qe (sIf (zW (tE (q9 1)) (tE (eOp dEq (qg zd [(q9 0),9949[5],3[5]]) 0[5]))) (qe (qj 3 (eOp qc (eOp qc (q9 1) (eUn jR 1[5])) 0[5]))
 (qj 4 (eOp qc (eOp qc (q9 1) (eUn jR 1[5])) 1[5]))) qu)
 (qt (ju [(q9 3),(q9 4),(q9 5)])))))))
def uR:Den:=den 6 Xo
def Xp:SF :=
 (qt (eOp dEq (eOp vy (qg zP [(q9 0),0[5]]) 4[5]) 3[5]))
def Jt:Den:=den 1 Xp
def Xq:SF :=
 (qe (qj 3 (jg [1[5],2[5],4[5],8[5],16[5],32[5],64[5]]))
 (qe (qj 4 8[5])
 (qe (qj 5 96[5])
 (qe (sIf (tE (q9 2)) (qe (qj 3 (jg [4[5],8[5],16[5],32[5],64[5]]))
 (qe (qj 4 64[5])
 (qj 5 512[5]))) qu)
 (qe (qj 6 (eOp qc (q9 3) (qg zd [(q9 0),10007[5],(eB jd [(q9 3)])])))
 (qe (qj 7 (eOp vN (eOp qZ (eOp qz (q9 4) (q9 6)) 1[5]) (q9 6)))
 (qe (qj 8 (eB xR [24[5],(eOp vN (q9 5) (q9 6))]))
 (qt (ju [(q9 1),(eOp qz (q9 7) (qg zd [(q9 0),9973[5],(eOp qz (eOp qZ (q9 8) (q9 7)) 1[5])])),(q9 6)])))))))))
def uS:Den:=den 9 Xq
def Xr:SF :=
 (qt (eOp qZ (qg zd [(qg zP [(q9 0),5[5]]),9883[5],15[5]]) 7[5]))
def Ju:Den:=den 1 Xr
def Xs:SF :=
 (qe (sIf (tE (q9 1)) (qt (eOp qz 2000[5] (qg zd [(qg zP [(q9 0),4[5]]),9887[5],3001[5]]))) qu)
 (qt (eOp qz 400[5] (qg zd [(qg zP [(q9 0),4[5]]),9887[5],400[5]]))))
def Jv:Den:=den 2 Xs
def Xt:SF :=
 (qe (qj 1 (jg []))
 (qe (qj 2 (jg [0[5],0[5],0[5]]))
 (qe (qO (J5 0) (gV 3) (qe (qj 4 (qg uN [(q9 3)]))
 (qe (qj 2 (qE 1 (jc (eC xj)) (gV 5) qI (eOp qz (qg yX [(q9 4),(q9 5)]) (eB wJ [(qg w9 [(q9 2),(q9 5)])]))))
 (jB 2 (qN 1 (q9 2))))))
 (qt (ZY (q9 1))))))
def uT:Den:=den 5 Xt
def Xu:SF :=
 (qe (sIf (tOr (jO (tE (eUn (dIs .tuple) (q9 0)))) (tE (eOp dNe (eB jd [(q9 0)]) (eB jd [(q9 1)])))) (qt (eC (.bl false))) qu)
 (qe (qO (uv 0 1) (gT [2,3]) (sIf (jO (tE (qg xm [(q9 2),(eOp qc (q9 3) 0[5]),(eOp qc (q9 3) 1[5])]))) (qt (eC (.bl false))) qu))
 (qt (eC (.bl true)))))
def yh:Den:=den 4 Xu
def Xv:SF :=
 (qe (qO (jc (eSl (q9 0) oNo (oE (q9 1)))) (gV 2) (sIf (tE (qg uO [(q9 2),(eOp qc (q9 0) (q9 1))])) (qt (eC (.bl true))) qu))
 (qt (eC (.bl false))))
def xr:Den:=den 3 Xv
def Xw:SF :=
 (qe (qj 3 (jg []))
 (qe (qj 4 (q9 1))
 (qe (jB 0 (qO (iV 0) (gV 5) (qe (qj 6 (eB ub [(eOp qc (q9 5) 0[5]),(q9 1)]))
 (qe (qj 7 (eB xR [(qg zF [(q9 5)]),(q9 2)]))
 (sIf (tE (eOp dLt (q9 6) (q9 7))) (qe (vG 3 (qg xn [(eOp qZ (q9 6) (q9 4))]))
 (qe (vG 3 (qg xo [(q9 5),(q9 6),(q9 7)]))
 (qj 4 (q9 7)))) qu)))))
 (qe (vG 3 (qg xn [(eOp qZ (q9 2) (q9 4))]))
 (jw 3)))))
def uU:Den:=den 8 Xw
def Xx:SF :=
 (qe (sIf (jO (tE (qg xm [(q9 0),(eC Vq),(eC Vr)]))) zq qu)
 (jw 0))
def Jw:Den:=den 1 Xx
def Xy:SF :=
 (qe (qj 2 (qg VD [(q9 0),(q9 1)]))
 (qe (qj 3 (eOp wI (eC uF) (eOp vy (eOp qz (q9 2) 1[5]) 7[5])))
 (qe (qj 4 (qg Jk [(q9 2)]))
 (qe (qj 5 (eOp vN (eOp qZ (eOp qZ (q9 0) (eOp kI (eC Jh) (q9 3))) (q9 4)) 12[5]))
 (qt (ju [(q9 3),(q9 4),(q9 5)]))))))
def uV:Den:=den 6 Xy
def qdh:SF :=
 (qt (ye (q9 2) [(q9 0),(q9 1)] (qg wm [(q9 0),(q9 3)])))
def yi:Den:=den 4 qdh
def Xz:SF :=
 (qe (sIf (jO (tE (qg xm [(q9 0),(eC Vt),(eC Vu)]))) zq qu)
 (jw 0))
def Jx:Den:=den 1 Xz
def XA:SF :=
 (qe (qj 2 (qg Jq [(q9 0),(q9 1)]))
 (qe (qj 3 (jg []))
 (qe (qj 4 0[5])
 (qe (wV 180 (tE (eOp dLt (q9 4) (eB jd [(q9 0)]))) (qe (qN 3 (q9 4))
 (qj 4 (eUn jR (eOp qc (eOp qc (q9 2) (q9 4)) 1[5])))))
 (jw 3)))))
def yY:Den:=den 5 XA
def XB:SF :=
 (qe (qj 2 (eB ub [(eOp qZ (q9 1) 1[5]),0[5]]))
 (qt (eOp qz (eOp qc (qg Jr [(q9 0),(q9 2)]) 0[5]) 1[5])))
def xt:Den:=den 3 XB
def qdi:SF :=
 (qe (yO 1 (jg []))
 (qe (jB 0 (qO (iV 0) (gV 2) (qe (qj 3 (vY 1 (qg uQ [(q9 1),(eOp qc (q9 2) 0[5])])))
 (qe (sIf (tE (eOp dEq (q9 3) (eC Jj))) zq qu)
 (qe (sIf (tE (eOp dEq (q9 3) (vY 1 (eB jd [(q9 1)])))) (kX 1 (jg [])) qu)
 (wH 1 (q9 3) (q9 2)))))))
 (y9 1 (jw 1))))
def wL:Den:=den 4 qdi
def XC:SF :=
 (qe (qj 2 12[5])
 (qe (sIf (tE (qg Js [(q9 0)])) (qj 2 24[5]) qu)
 (qe (sIf (tE (eOp dGt (eB jd [(q9 0)]) 63[5])) (qj 2 60[5]) qu)
 (qe (qj 3 (jg []))
 (qe (qO (jc (eSl (q9 0) (oE 6[5]) (oE (eOp qz 6[5] (q9 2))))) (gV 4) (qe (qj 5 (qg uR [(q9 4),(q9 3),(q9 1)]))
 (sIf (zW (tE (qg Jo [(q9 5),(q9 3)])) (tE (eOp dLe (qg Jp [(q9 5),(q9 3)]) 7[5]))) (qN 3 (q9 5)) qu)))
 (jw 3))))))
def Jy:Den:=den 6 XC
def XD:SF :=
 (qe (qj 2 (jg []))
 (qe (qj 3 0[5])
 (qe (qO (iR1 (eOp qz 1[5] (eOp vy (qg zP [(q9 0),1[5]]) 3[5]))) (gV 4) (qe (qj 5 (eOp qz (qg zP [(q9 0),1[5]]) (eOp jN 7[5] (qg zP [(q9 0),(eOp qz 2[5] (q9 4))]))))
 (qe (qN 2 (qg uS [(q9 5),(q9 3),(q9 1)]))
 (qj 3 (eOp qz (eOp qz (q9 3) 1[5]) (qg zd [(q9 5),9967[5],3[5]]))))))
 (jw 2))))
def Jz:Den:=den 6 XD
def XE:SF :=
 (qe (qj 1 (jg []))
 (qe (qO (jc (qg uT [(q9 0)])) (gV 2) (qe (qj 3 (eIf (tE (q9 1)) (qg w9 [(q9 2),(eOp qc (q9 1) (eUn jR 1[5]))]) (q9 2)))
 (qN 1 (eOp uC (q9 3) (eB wJ [(q9 3)])))))
 (jw 1)))
def yZ:Den:=den 4 XE
def XG:SF :=
 (qe (sIf (jO (tE (qg yW [(q9 0),0[5],(eC Jg)]))) zq qu)
 (qe (qO (zr 0) (gT [1,2]) (sIf (tOr (jO (tE (qg yh [(q9 2),(eC uE)]))) (tE (qg xr [(q9 0),(q9 1)]))) zq qu))
 (qt (eB vZ [(q9 0)]))))
def uW:Den:=den 3 XG
def XH:SF :=
 (qe (qj 2 (jg []))
 (qe (qj 3 0[5])
 (qe (jB 1 (qO (iV 1) (gV 4) (qe (qN 2 (qg uU [(q9 0),(q9 3),(eOp qz (q9 3) (q9 4))]))
 (jV 3 zL (q9 4)))))
 (jw 2))))
def yj:Den:=den 5 XH
def qdj:SF :=
 (qe (qj 4 (jg []))
 (qe (jB 0 (qO (iV 0) (gV 5) (qe (qj 6 (qg uV [(q9 5),(q9 3)]))
 (qe (qj 7 (eOp qc (q9 6) 0[5]))
 (qe (qj 8 (eOp qc (q9 6) 2[5]))
 (qe (qj 9 (eC .non))
 (qe (sIf (zW (tE (eOp wG (q9 1) (eC .non))) (tE (eOp dNe (qg yi [(q9 7),(q9 8),(vR 2),(q9 3)]) (eOp qc (q9 6) 1[5])))) (qe (qj 9 (eOp qc (q9 6) 1[5]))
 (wK 2 [(q9 7),(q9 8)] (q9 9))) qu)
 (qN 4 (ju [(q9 7),(q9 8),(q9 9)])))))))))
 (yS 2 (eB wU [(q9 4)]))))
def JA:Den:=den 10 qdj
def qdk:SF :=
 (qe (sIf (tE (eOp zE (q9 1) (eC .non))) (yS 2 (q9 1)) qu)
 (qe (qj 4 (jg []))
 (qe (jB 0 (qO (iV 0) (gV 5) (qe (qj 6 (eOp qc (q9 5) 0[5]))
 (qe (qj 7 (eOp qc (q9 5) 1[5]))
 (qe (sIf (tE (eOp zE (eOp qc (q9 5) 2[5]) (eC .non))) (wK 2 [(q9 6),(q9 7)] (eOp qc (q9 5) 2[5])) qu)
 (qN 4 (qg xk [(ju [(q9 6),(qg yi [(q9 6),(q9 7),(vR 2),(q9 3)]),(q9 7)])])))))))
 (yS 2 (eB wU [(q9 4)])))))
def yk:Den:=den 8 qdk
def XI:SF :=
 (qe (sIf (tOr (jO (tE (qg yh [(q9 0),(eC Vx)]))) (tE (eOp QS (eOp qc (q9 0) 2[5]) (eC Vy)))) (qt (eC (.bl false))) qu)
 (qt (uc dLe dLe (eC Vz) (qg wj [(q9 0)]) (eC VA))))
def xu:Den:=den 1 XI
def qdl:SF :=
 (qe (qj 3 (jg []))
 (qe (qj 4 eDK)
 (qe (jB 0 (qO (iV 0) (gV 5) (qe (qj 6 eDT)
 (qe (uA 7 (Kq 1 (iVc 5) (gV 12) (jg [])))
 (qe (qO (jc (qg wg [(q9 5)])) (gV 8) (qe (qj 9 (eOp qc (q9 8) 1[5]))
 (qe (qj 10 (eOp qc (eOp qc (q9 5) (q9 9)) (eOp qc (q9 8) 2[5])))
 (qe (sIf (tE (eOp dEq (eOp qc (q9 10) 0[5]) (eC (.str "note")))) (qe (qj 11 (qg yf [(yT (q9 4) (q9 9))]))
 (sIO 10 (eIOT (v9 (eC (.str "note")) (v9 (eOp qc (q9 10) 1[5]) (xIO (yd 2 "heads_of" JA "pitches_of" yk 6 [(eOp qc (q9 10) 2[5]),(q9 11)] [(q9 1)]) (v9 (eOp qc (q9 10) 3[5]) uD))))))) qu)
 (qe (wH 7 (q9 9) (q9 10))
 (vV 4 (q9 9) (q9 10)))))))
 (y9 7 (jB 7 (qN 3 (q9 7)))))))))
 (jw 3))))
def k8:Den:=den 12 qdl
def XJ:SF :=
 (qe (sIf (jO (tE (qg yW [(q9 0),1[5],(eC Ji)]))) zq qu)
 (qe (qO (zr 0) (gT [1,2]) (sIf (tOr (jO (tE (qg xu [(q9 2)]))) (jO (tE (qg yg [(q9 0),(q9 1)])))) zq qu))
 (qt (eB xQ [(q9 0)]))))
def JB:Den:=den 3 XJ
def qdm:SF :=
 (qe (qj 2 (eOp y8 (qE 1 (iVc 0) (gV 7) qI (qg zF [(q9 7)])) 0[5]))
 (qe (qj 3 (qg uP [(q9 1),(qg xt [(q9 1),(q9 2)])]))
 (qe (qj 4 (qE 1 (jc (qg wL [(qg wa [(q9 0)])])) (gV 7) qI (qg yj [(q9 7),(q9 3)])))
 (qe (qj 5 (jg []))
 (qe (qO (iR1 (eB jd [(q9 3)])) (gV 6) (qN 5 (qE 1 (iVc 4) (gV 7) qI (eOp qc (q9 7) (q9 6)))))
 (jw 5))))))
def VE:Den:=den 7 qdm
def qdn:SF :=
 (qt (qg k8 [(q9 0),(q9 1),(eC (dFn "heads_of"))]))
def ym:Den:=den 2 qdn
def qdo:SF :=
 (qt (qg k8 [(q9 0),(q9 1),(eC (dFn "pitches_of"))]))
def JC:Den:=den 2 qdo
def XM:SF :=
 (qe (xS (qg Jw [(q9 1)]))
 (qe (qj 4 (qg JB [(q9 2)]))
 (qe (qj 5 (qg uW [(q9 0)]))
 (qe (xS (qg Jx [(q9 3)]))
 (qe (qj 6 (qg ym [(qg VE [(q9 5),(q9 4)]),(q9 1)]))
 (qe (qj 7 (qE 1 (iVc 6) (gV 8) qI (qg vJ [(q9 8)])))
 (jB 7 (jB 6 (jB 4 (qt (ju [(q9 1),(q9 4),(q9 3),(qg yZ [(q9 6)]),(qg yY [(q9 7),(q9 3)]),(q9 6)])))))))))))
def JD:Den:=den 8 XM
abbrev XN:Stmt:=top 109
def VF:SF :=
 (qe (qj 8 (qg uL [(q9 4),(eOp y8 (qE 1 (iVc 2) (gV 10) qI (eOp qz (eOp qc (q9 10) 0[5]) (eOp qc (q9 10) 1[5]))) 0[5])]))
 (qe (qj 9 (qE 1 (jc (qg wL [(qg wa [(q9 2)])])) (gV 10) qI (qg yj [(q9 10),(q9 8)])))
 (qt (eOp dEq (q9 7) (qE 1 (iR1 (eB jd [(q9 8)])) (gV 10) qI (qE 1 (iVc 9) (gV 11) qI (eOp qc (q9 11) (q9 10))))))))
def VG:SF :=
 (qe (sIf (tOr (tE (eOp dNe (eOp qc (q9 6) 3[5]) (qg yZ [(eOp qc (q9 6) 5[5])]))) (tE (eOp dNe (eOp qc (q9 6) 4[5]) (qg yY [(qE 1 (jc (eOp qc (q9 6) 5[5])) (gV 10) qI (qg vJ [(q9 10)])),(q9 5)])))) (qt (eC (.bl false))) qu)
 (qe (qj 7 (qg JC [(eOp qc (q9 6) 5[5]),(q9 3)]))
 (qe (sIf (tE (eOp dNe (qg ym [(q9 7),(q9 3)]) (eOp qc (q9 6) 5[5]))) (qt (eC (.bl false))) qu)
 VF)))
def XO:SF :=
 (qe (qj 1 (qg Jt [(q9 0)]))
 (qe (qj 2 (qg Jy [(q9 0),(q9 1)]))
 (qe (qj 3 (qg Ju [(q9 0)]))
 (qe (qj 4 (qg Jz [(q9 0),(q9 1)]))
 (qe (qj 5 (qg Jv [(q9 0),(q9 1)]))
 (qe (qj 6 (qg JD [(eB xQ [(q9 2)]),(q9 3),(eB xQ [(q9 4)]),(q9 5)]))
 VG))))))
def xv:Den:=den 10 XO
def FS:FnT:=(apS (apS ["step_of","small_lines","prices_behind","is_whole","is_list_within","end_of","chords","pieces","first_alike","alter_at","pitch_of","in_order","tied_to_next","signs_in","refuse_too_wide","line_choices","told_length","rises","_law_cell","_law_mix","_law_apart","_law_meets","_law_lengths","steps_of","lines_of"] ["is_whole_within","overlap","rest_events","note_events","fifth","own_alter","width","best_lines","bar_lengths","stands","free_voice","_law_large","_law_note","_law_wide","_law_step","_law_key","_law_space","clef_prices","is_tuple_within","overlaps_one_ahead","bar_events","checked_key","name_of","alter_by_then","checked_room"]) ["firsts","bars_needed","voiced","_law_notes","_law_meter","clefs","checked_notes","events","heads_of","pitches_of","is_told","turned","checked_meter","bars_of","signed","heard","page"]).zip ([6,7,10,22,25,29,33,36,48,50,52,55,56,69,71,72,81,83,96,97,99,100,108,8,9,23,30,38,39,49,53,70,73,85,86,90,98,101,103,104,106,107,11,24,31,40,47,51,57,68,74,87,91,102,105,12,32,41,58,59,82,60,84,93,61,62,94].map top)
def BL:List Str:=["max","isinstance","int","bool","list","len","sorted","tuple","enumerate","range","sum","set","min","reversed","zip"]
def C0S:List (Str×D):=(["LETTERS_BY_STEPS","LOWEST_LINES","STEPS_BETWEEN","CLEFS","CHANGE","SHAPES","LETTERS_BY_FIFTHS","BAR_WIDTH","PLACE_WIDTH","LOWEST_KEY","HIGHEST_KEY","LEAST_ROOM","MOST_ROOM","MOST_VOICES","MOST_NOTES","BOUNDS_sounds","BOUNDS_meters","UNITS","SHORTEST_BAR","LONGEST_BAR","MOST_TUPLES"]:List Str).zip [Vl,Vm,Vn,xj,KS,Vp,uF,Vv,Vw,Vq,Vr,Vt,Vu,Jj,Jg,uE,Vx,Vy,Vz,VA,Ji]
def CS:List (Str×D):=C0S++[(("PITCHES":Str),Jh)]
abbrev Q(W:Wd)(k n:Nat)(d:Den):Prop:=C0 W.P W.w W.K W.mg W.base k (fnm FS n) (psS (fst FS n)) d
abbrev QI(W:Wd)(k n:Nat)(d:Den):Prop:=CI W.P W.w W.K W.mg W.base k (fnm FS n) (psS (fst FS n)) d
local macro_rules
 | `(tactic| nofun)=>do
  let xs:=("QM qhU qir qiq qiv qiu qix qiw qit qis jy qgY qbh qgZ qig zD ZI QH qh0 qh1 qh2 qh3 qh4 qh5 qh6 uf ZJ qh7 qh8 qh9 QJ qha qhb yJ qhc qhd qhe qhf ZK qbi YB qbj qhg qhh yK qhi qhj qhk qhl x_c ZL qhm ug uh qhn qho ui uj qhp qhq uk x_B qhr qhs qht qhu qhv qhw qhx qhy qhz QK qhA qhB qhC qhD qhE qhF qhG qhH qhI qhJ qhK qhL qhM qhN qhO qhP qhQ qhR yM qhS qhT kP qiy qiz qiA qiB y_nt y_nf qii qij qik qil qim qin qio qip Int.cast_ofNat_Int qhV qhW qhX qhY qhZ qi0 qi1 qi2 qi3 qi4 qi5 qi6 qi7 qi8 qi9 qia qih qib qic qid Nat.reduceAdd Nat.reduceSub Nat.reduceLeDiff".splitOn " ").toArray.map λs=>Lean.mkIdent s.toName
  `(tactic| try dsimp only[$[$xs:ident],*])
local macro_rules
 | `(tactic| simp![$xs,*])=>`(tactic| (nofun;repeat (simp only[pP,YC,YD,YE,YF,dB,YU,$xs,*];nofun)))
 | `(tactic| left)=>`(tactic| (nofun;repeat (simp only[pP,YC,YD,YE,YF,dB,YU];nofun)))
def cell(z:List Int)(k:Nat):Int:=z.getD k 0
def xw(ns)(k:Nat):zP [.fz (.lst (ns.map D.int)),.fz k[6]]=.ok (cell ns k)[7]:=by
 unfold zP X8;simp![gg,cell];by_cases h:k<(ns[1]:Int)
 .have h2:k<ns[1]:=""
  simp![tG h,zC];simp[h2];rfl
 have h2:¬ k<ns[1]:=""
 simp![t7 h];simp[h2]
def jj(c p m:Int):Int:=c*48271%p%m
def vc(c p m)(hp:0<p)(z:0<m):zd [.fz c[6],.fz p[6],.fz m[6]]=.ok (jj c p m)[7]:=by
 unfold zd X9;simp![ZM (j:=48271) "d" "d",yL hp,yL z,jj]
def zQ(c p m)(z:0<m):0<=jj c p m/\jj c p m<m:=#[dW _ "",bM _ z]
def vx(wd:Bool):List Int:=if wd then [4,8,16,32,64]else [1,2,4,8,16,32,64]
def k9(wd:Bool):Int:=if wd then 64 else 8
def wM(wd:Bool):Int:=if wd then 512 else 96
def jz(c:Int)(wd:Bool):Int:=(vx wd).getD (jj c 10007 (vx wd)[1]).toNat 1
def wo(wd:Bool)(u:Int):Int:=(k9 wd+u-1)/u
def wN(wd:Bool)(u:Int):Int:=if wM wd/u<24 then wM wd/u else 24
def vd(c:Int)(wd:Bool):Int:=wo wd (jz c wd)+jj c 9973 (wN wd (jz c wd)-wo wd (jz c wd)+1)
def xx(c)(wd):jz c wd∈vx wd:=by
 unfold jz;have h:=zQ c 10007 (vx wd)[1] (by cases wd<;>decide)
 simp_all
def xy(wd):∀ u∈vx wd,0<u/\u<=64/\0<wo wd u/\wo wd u<=wN wd u/\wN wd u<=24/\k9 wd<=wo wd u*u/\wN wd u*u<=wM wd:=by
 cases wd<;>decide
def JE(c)(wd):wo wd (jz c wd)<=vd c wd/\vd c wd<=wN wd (jz c wd):=by
 obtain⟨_,_,h1,h2,_⟩:=xy wd _ (xx c wd);have h:=zQ c 9973 (wN wd (jz c wd)-wo wd (jz c wd)+1) ""
 unfold vd;lia
def qp(p:Int×Int×Int):D:=.tup [.int p.1,.int p.2.1,.int p.2.2]
def ix_list(us:List Int)(dflt)(j:Int)(h0:0<=j)(h1:j<us[1]):okD (ati (us.map D.int) j)=.ok (us.getD j.toNat dflt)[7]:=by
 obtain⟨n,rfl⟩:=pL h0;rw[zC,gG,hU,fK,gE ""]
 rfl
def qdp(c bar)(wd):uS [.fz c[6],.fz bar[6],.fz (.bl wd)]=.ok (qp (bar,vd c wd,jz c wd))[8]:=by
 obtain⟨u1,u2,h1,h2,h3,_⟩:=xy wd _ (xx c wd);have hm:=zQ c 10007 (vx wd)[1] (by cases wd<;>decide)
 have mx:=vc c 9973 (wN wd (jz c wd)-wo wd (jz c wd)+1) "d" ""
 have ix:=ix_list (vx wd) 1 _ hm.1 hm.2;have z:=vc c 10007 (vx wd)[1] "d" (by cases wd<;>decide)
 have d1:=QL (i:=k9 wd+jz c wd-1) u1 ""
 have d2:=QL (i:=wM wd) u1 ""
 rw[show(vx wd).getD (jj c 10007 (vx wd)[1]).toNat 1=jz c wd from rfl]at ix
 unfold uS Xq;cases wd
 .simp[vx,k9,wM,cA,tX,gN,pY,gJ,fR,reduceAdd,Int.cast_ofNat_Int]at ix z d1 d2;simp![z,ix,d1,d2];rw[show(8+jz c false-1)/jz c false=wo false (jz c false)from rfl,show(if 96/jz c false<24 then 96/jz c false else 24)=wN false (jz c false)from rfl]
  simp![mx,qp,vd]
 simp[vx,k9,wM,dB,gN,pY,gJ,fR,reduceAdd,Int.cast_ofNat_Int]at ix z d1 d2;simp![z,ix,d1,d2];rw[show(64+jz c true-1)/jz c true=wo true (jz c true)from rfl,show(if 512/jz c true<24 then 512/jz c true else 24)=wN true (jz c true)from rfl]
 simp![mx,qp,vd]
def jx(z:List Int)(k:Nat):Int:=cell z 1+7*cell z (2+k)
def mbar(z:List Int):Nat->Int
 | 0=>0
 | k+1=>mbar z k+1+jj (jx z k) 9967 3
def mtup(z:List Int)(wd:Bool)(k:Nat):Int×Int×Int:=(mbar z k,vd (jx z k) wd,jz (jx z k) wd)
def kc(z:List Int):Nat:=(1+cell z 1%3).toNat
def vK(z:List Int)(wd:Bool):List (Int×Int×Int):=(List.range (kc z)).map (mtup z wd)
def JF(ns):1<=kc ns/\kc ns<=3/\(kc ns)=1+cell ns 1%3:=by
 unfold kc;lia
def qdq(ns)(wd):Jz [.fz (.lst (ns.map D.int)),.fz (.bl wd)]=.ok (.lst ((vK ns wd).map qp))[9]:=by
 obtain⟨m1,m2,m3⟩:=JF ns;have c1:=xw ns 1;have hz:sz=16777216:=rfl;unfold Jz XD;left;rw[show((1:Nat):Int)=1 from rfl]at c1
 rw[QN (n:=kc ns) (by simp![c1,yL (j:=3) "d",m3]) ""]
 left;obtain⟨ρ',e,j4,j5,hI⟩:=ZF (kc ns) (λk ρ=>∃ j4 j5,ρ=[!(.lst (ns.map D.int))[8],!(.bl wd)[8],!(.lst (((List.range k).map (mtup ns wd)).map qp))[9],!(mbar ns k)[7],j4,j5])
  (g:=gV 4) (b:=qe (qj 5 (eOp qz (qg zP [(q9 0),1[5]]) (eOp jN 7[5] (qg zP [(q9 0),(eOp qz 2[5] (q9 4))]))))
   (qe (qN 2 (qg uS [(q9 5),(q9 3),(q9 1)])) (qj 3 (eOp qz (eOp qz (q9 3) 1[5]) (qg zd [(q9 5),9967[5],3[5]])))))
  (ρ:=[!(.lst (ns.map D.int))[8],!(.bl wd)[8],!(.lst [])[9],!0[7],none,none]) #[none,none,rfl] (λk ρ hk #[j4,j5,hρ]=>by
   subst hρ;refine#[_,_,rfl,.inl ?_,!k[7],!(jx ns k)[7],rfl];have c2:=xw ns (2+k);rw[show(2+k:Nat)=2+(k:Int)by lia]at c2
   simp![c1,c2,y4 (i:=7) "d" "d"]
   rw[show cell ns 1+7*cell ns (2+k)=jx ns k from rfl,zh (d:=qp (mtup ns wd k)) rfl (by simp;lia) (by simp![(qdp (jx ns k) (mbar ns k) wd)];rfl)]
   simp![(vc (jx ns k) 9967 3 "d" "d")]
   simp[cK,mbar])
 rw[e];subst hI;rfl
def jo(p:Int×Int×Int):Int:=p.2.1*p.2.2
def Fine(ms:List (Int×Int×Int)):Prop:=ms.Pairwise (λp q=>p.1<q.1)/\(∀ p∈ms,0<=p.1/\0<=p.2.1/\p.2.1<=24)/\(∃ p∈ms,p.1=0)/\ms[1]<=20
def zw(ms:List (Int×Int×Int))(b:Int):List Int:=(ms.filter λp=>decide (p.1<=b)).map jo
def jk(ms:List (Int×Int×Int))(b:Int):Int:=(zw ms b).getLast?.getD 0
def pD(b:Int):D->Bool
 | .tup (.int q::_)=>decide (q<=b)
 | _=>false
def XQ:D->D
 | .tup [_,.int t,.int u]=>.int (t*u)
 | _=>.non
def qdr(ms)(b):((ms.map qp).filter (pD b)).map XQ=(zw ms b).map D.int:=by
 unfold zw
 induction ms with
 | nil=>rfl
 | cons p r ih =>
  by_cases c:p.1<=b
  .rw[gN,fm (by simpa[qp,pD]using c),fm c[""],gN,ih]
   rfl
  rw[gN,pK (by simpa[qp,pD]using c),pK c[""],ih]
def VH(ns){i j:Nat}(h:i<j):mbar ns i<mbar ns j:=by
 induction j with
 | zero=>lia
 | succ j ih =>
  have:=zQ (jx ns j) 9967 3 "d"
  have e:mbar ns (j+1)=mbar ns j+1+jj (jx ns j) 9967 3:=rfl
  grind
def VI(ns)(wd):Fine (vK ns wd):=by
 obtain⟨m1,m2,_⟩:=JF ns;refine#[?_,λp hp=>?_,#[mtup ns wd 0,gH.mpr #[0,by simp;lia,rfl],rfl],by simp[vK];lia]
 .unfold vK;rw[fw];exact List.pairwise_lt_range.imp λh=>VH ns h
 obtain⟨k,_,rfl⟩:=gH.mp hp;have h1:=JE (jx ns k) wd;have h2:=xy wd _ (xx (jx ns k) wd);refine#[?_,?_,?_]
 .show 0<=mbar ns k;cases k with
  | zero=>exact pI _
  | succ k=>exact cM (VH ns (Nat.succ_pos k))
 .show 0<=vd (jx ns k) wd;lia
 show vd (jx ns k) wd<=24;lia
def XR(f:Fine ms)(i:Nat):(zw ms i).getLast?=!(jk ms i):=by
 obtain⟨p,hp,B⟩:=f.2.2.1;have ne:zw ms i≠[]:=λz=>by
  have:jo p∈zw ms i:=gH.mpr #[p,dM.mpr #[hp,by simp;lia],rfl]
  simp_all
 unfold jk;cases h:(zw ms i).getLast? with
 | none=>exact absurd (pB.mp h) ne
 | some v=>rfl
def Lens(ms:List (Int×Int×Int)):Prop:=∀ p∈ms,8<=jo p/\jo p<=512/\p.1<=1000
def XS(f:Fine ms)(i:Nat):∃ p∈ms,jk ms i=jo p:=by
 obtain⟨p,hp,e⟩:=gH.mp (dj (XR f i));exact#[p,(dM.mp hp).1,e.symm]
def uX(f:Fine ms)(l:Lens ms)(i:Nat):8<=jk ms i/\jk ms i<=512:=by
 obtain⟨p,hp,e⟩:=XS f i;have:=l p hp;lia
def qB(ms:List (Int×Int×Int))(b:Nat):Int:=((List.range b).map λk:Nat=>jk ms k).sum
def qds(ms):qB ms 0=0:=rfl
def wO(ms)(b):qB ms (b+1)=qB ms b+jk ms b:=by
 unfold qB;rw[cK];simp
def XT(f:Fine ms)(l:Lens ms)(a k):qB ms a+8*k<=qB ms (a+k):=by
 induction k with
 | zero=>simp
 | succ k ih =>
  have:=uX f l (a+k);rw[show a+(k+1)=a+k+1 from rfl,wO]
  lia
def XU{p:Int×Int×Int}{b:Int}(e:ms=pre++p::post)(z:p.1<=b)(B:∀ q∈post,b<q.1):jk ms b=jo p:=by
 subst e;have:post.filter (λq=>decide (q.1<=b))=[]:=fQ.mpr λq h=>by
  have:=B q h;simp;lia
 unfold jk zw;rw[cw,fm z[""],this]
 simp
def XV{p:Int×Int×Int}(e:ms=pre++p::post)(hp:0<=p.1)(k:Nat)(z:∀ q∈post,p.1+k<=q.1):qB ms (p.1.toNat+k)=qB ms p.1.toNat+k*jo p:=by
 induction k with
 | zero=>simp
 | succ k ih =>
  rw[show p.1.toNat+(k+1)=p.1.toNat+k+1 from rfl,wO,ih (λq h=>by have:=z q h;lia),(XU e "" λq h=>by have:=z q h;lia)]
  lia
def qdt(ns)(wd):Lens (vK ns wd):=λp hp=>by
 obtain⟨m1,m2,_⟩:=JF ns;obtain⟨k,hk,rfl⟩:=gH.mp hp;have hk:=dm.mp hk;have h1:=JE (jx ns k) wd;obtain⟨u1,u2,u3,u4,u5,u6,u7⟩:=xy wd _ (xx (jx ns k) wd);have lo:=tK h1.1 (cM u1);have hi:=tK h1.2 (cM u1);have hb:∀ j,mbar ns j<=3*j:=λj=>by
  induction j with
  | zero=>simp[mbar]
  | succ j ih =>
   have:=zQ (jx ns j) 9967 3 "d"
   show mbar ns j+1+jj (jx ns j) 9967 3<=_;lia
 have hb:=hb k;have w8:8<=k9 wd/\wM wd<=512:=by cases wd<;>decide
 refine#[?_,?_,?_]
 .show 8<=vd (jx ns k) wd*jz (jx ns k) wd;lia
 .show vd (jx ns k) wd*jz (jx ns k) wd<=512;lia
 show mbar ns k<=1000;lia
theorem XW:∀ ns,jJ (ns.map D.int)=!ns
 | []=>rfl
 | n::ns=>by
  show(match jJ (ns.map D.int)with|some l=>↑(n::l)|none=>none)=_
  rw[XW ns]
def qdu(z:List Int):vW [.lst (z.map D.int)]=.ok z.sum[7]:=by
 unfold vW;dsimp only;rw[XW]
def VJ(p)(h:0<=p.2.1/\p.2.1<=24):wj [.fz (qp p)]=.ok (jo p)[7]:=by
 unfold wj X7;simp![qp,y4 (i:=p.2.1) "" "",jo]
def uY:qD g b [] ρ=.nx ρ:=rfl
def turn(g:GF)(b:SF)(xs:List D)(o:Out):Out:=match o with
 | .nx ρ2=>qD g b xs ρ2
 | .ct ρ2=>qD g b xs ρ2
 | .bk ρ2=>.nx ρ2
 | o=>o
def zR{g:GF}{b:SF}(h:g x ρ=.ok ρ1):qD g b (x::xs) ρ=turn g b xs (b ρ1):=by
 show(match g x ρ with|.ok ρ1=>_|.exc x=>_|.stuck=>_)=_
 rw[h];rfl
def wP:turn g b xs (.nx ρ)=qD g b xs ρ:=rfl
def qiC:turn g b xs (.rt w)=.rt w:=rfl
def uZ:D->Bool
 | .xc _ _=>false
 | _=>true
def zx(lo hi:Int):D->Bool
 | .int i=>decide (lo<=i)&&decide (i<=hi)
 | _=>false
def XX:D->Bool
 | .int _=>true
 | _=>false
def qdv(d)(h:uZ d=true):uH [.fz d]=.ok (.bl (XX d))[8]:=by
 cases d<;>first|rfl|cases h
def Q0(d)(lo hi)(h:uZ d=true):xm [.fz d,.fz lo[6],.fz hi[6]]=.ok (.bl (zx lo hi d))[8]:=by
 unfold xm Xe;simp![(qdv d h)];cases d<;>first|rfl|(done)|skip
 rename_i i;simp![XX,zx];by_cases c:lo<=i
 .simp![c,decide_true,de]
 simp![c,decide_false,bO]
def qdw{i j:Nat}(h:ρ[i]?=!(!(.tup ds)[8]))(h2:ρ[j]?=!(!(.tup es)[8])):uv i j ρ=.ok (zipd ds es):=by unfold uv;rw[h,h2]
def XY(a b c)(l1 h1 l2 h2 l3 h3)(z:uZ a=true)(B:uZ b=true)(O:uZ c=true) :
  yh [.fz (.tup [a,b,c]),.fz (.tup [.tup [.int l1,.int h1],.tup [.int l2,.int h2],.tup [.int l3,.int h3]])]=.ok (.bl (zx l1 h1 a&&(zx l2 h2 b&&zx l3 h3 c)))[8]:=by
 unfold yh Xu;left;rw[show(not (((3:Int))==3))=false from rfl]
 left;rw[qdw rfl rfl];simp![zipd];rw[zR rfl];simp![Q0 a l1 h1 z];cases zx l1 h1 a
 .rfl
 simp![wP];rw[zR rfl];simp![Q0 b l2 h2 B];cases zx l2 h2 b
 .rfl
 simp![wP];rw[zR rfl];simp![Q0 c l3 h3 O];cases zx l3 h3 c
 .rfl
 rfl
def qiD{i:Nat}(h:ρ[i]?=!(!(.br (.lst ds)))):zr i ρ=.ok (numd 0 ds):=by unfold zr;rw[h]
def VL{i:Nat}(h:(numd 0 ds)[i]?=!x):∃ d,ds[i]?=!d/\x=.tup [.int i,d]:=by
 obtain⟨d,e1,e2⟩:=ZV ds 0 i x h;rw[pP]at e2;exact#[d,e1,e2]
def qdx(xs:List D)(n:Nat):L3.vP xs none ↑n=xs.take n:=by
 unfold L3.vP;rw[HT.sIx_none,HT.sIx_nat];simp
abbrev Nt:=Int×Int×Int
def ntR(n:Nt):List Int:=[n.1,n.2.1,n.2.2]
def ntD(n:Nt):D:=.tup [.int n.1,.int n.2.1,.int n.2.2]
def qdy(z:List Nt)(q)(h:z.getLast?=!q):okD (ati (z.map ntD) (-1))=.ok (ntD q)[8]:=by
 rw[QE,bg,h];rfl
def nS(c:Int)(wd:Bool):Int:=if wd then jj c 10007 1001 else jj c 10007 97
def nL(c:Int)(wd:Bool):Int:=1+if wd then jj c 9973 400 else jj c 9973 48
def nP(c:Int)(wd:Bool):Int:=if wd then jj c 9967 128 else 52+jj c 9967 25
def jM(c:Int)(z:List Nt)(wd:Bool):Nt:=match z.getLast? with
 | none=>(nS c wd,nL c wd,nP c wd)
 | some q=>if jj c 9949 3=0 then(q.1,q.2.1,nP c wd)else(nS c wd,nL c wd,nP c wd)
def qdz(c)(ns)(wd):uR [.fz c[6],.br (.lst (ns.map ntD)),.fz (.bl wd)]=.ok (ntD (jM c ns wd))[8]:=by
 have m1:=vc c 10007 97 "d" "d"
 have m2:=vc c 9973 48 "d" "d"
 have m3:=vc c 9967 25 "d" "d"
 have m4:=vc c 10007 1001 "d" "d"
 have m5:=vc c 9973 400 "d" "d"
 have m6:=vc c 9967 128 "d" "d"
 have m7:=vc c 9949 3 "d" "d"
 have z:∀ S L P,nS c wd=S->nL c wd=L->nP c wd=P ->
   fin (qe (sIf (L3.zW (tE (q9 1)) (tE (eOp dEq (qg zd [(q9 0),9949[5],3[5]]) 0[5]))) (qe (qj 3 (eOp qc (eOp qc (q9 1) (eUn jR 1[5])) 0[5])) (qj 4 (eOp qc (eOp qc (q9 1) (eUn jR 1[5])) 1[5]))) qu)
    (qt (ju [(q9 3),(q9 4),(q9 5)]))
    [!c[7],!(.br (.lst (ns.map ntD))),!(.bl wd)[8],!S[7],!L[7],!P[7]])=.ok (ntD (jM c ns wd))[8]:=by
  intro S L P hS hL hP;unfold jM;rw[hS,hL,hP];cases hq:ns.getLast? with
  | none =>
   have hn:ns=[]:=pB.mp hq;subst hn;rfl
  | some q =>
   have hn:(ns.map ntD).isEmpty=false:=by
    cases ns with
    | nil=>simp at hq
    | cons a b=>rfl
   have lq:=qdy ns q hq;dsimp only;by_cases c0:jj c 9949 3=0
   .have b0:(jj c 9949 3==0)=true:=by simpa using c0
    rw[if_pos c0];simp![hn,m7,b0,Int.reduceNeg,lq,ntD]
   have b0:(jj c 9949 3==0)=false:=by simpa using c0
   rw[if_neg c0];simp![hn,m7,b0,ntD]
 unfold uR Xo;cases wd
 .have:=z (jj c 10007 97) (1+jj c 9973 48) (52+jj c 9967 25) rfl rfl rfl;simp![m1,m2,m3];left;exact this
 have:=z (jj c 10007 1001) (1+jj c 9973 400) (jj c 9967 128) rfl rfl rfl;simp![m1,m2,m3,m4,m5,m6];left;exact this
def hits(n o:Nt):Bool:=n.2.2==o.2.2&&(decide (n.1<o.1+o.2.1)&&decide (o.1<n.1+n.2.1))
def xz(n:Nt)(z:List Nt):Bool:=z.all λo=>not (hits n o)
def qdA(n)(ns):Jo [.fz (ntD n),.br (.lst (ns.map ntD))]=.ok (.bl (xz n ns))[8]:=by
 have go:∀ os j2,fin ((qD (gV 2) (sIf (L3.zW (tE (eOp dEq (eOp qc (q9 0) 2[5]) (eOp qc (q9 2) 2[5]))) (L3.zW (tE (eOp dLt (eOp qc (q9 0) 0[5]) (eOp qz (eOp qc (q9 2) 0[5]) (eOp qc (q9 2) 1[5])))) (tE (eOp dLt (eOp qc (q9 2) 0[5]) (eOp qz (eOp qc (q9 0) 0[5]) (eOp qc (q9 0) 1[5])))))) (qt (eC (.bl false))) qu) (os.map ntD)
   [!(ntD n)[8],!(.br (.lst (ns.map ntD))),j2]).th (qt (eC (.bl true))))=.ok (.bl (xz n os))[8]:=by
  intro os
  induction os with
  | nil=>intro j2;rfl
  | cons o os ih =>
   intro j2;unfold qD;simp![ntD];have e:xz n (o::os)=(not (hits n o)&&xz n os):=rfl;rw[e];unfold hits;cases h1:(n.2.2==o.2.2)
   .simp![de];exact ih _
   cases h2:decide (n.1<o.1+o.2.1)
   .simp![h2];exact ih _
   cases h3:decide (o.1<n.1+n.2.1)
   .simp![h2,h3];exact ih _
   simp![de,bO,h2,h3]
 exact go ns none
def meet(n o:Nt):Bool:=decide (o.1<n.1+n.2.1)&&decide (n.1<o.1+o.2.1)&&not (o.1==n.1&&o.2.1==n.2.1)
def JG(o:Nt):List (Sum Int Str):=[.inl o.1,.inl o.2.1]
def seen(n:Nt):List Nt->List (List (Sum Int Str)×D)->List (List (Sum Int Str)×D)
 | [],acc=>acc
 | o::os,acc=>seen n os (if meet n o then qS (JG o) (.bl true) acc else acc)
def qdB [DecidableEq κ](k)(d)(kvs:List (κ×D)):(qS k d kvs)[1]<=kvs[1]+1:=by
 unfold qS;split
 .simp
 simp
def xA(n:Nt)(z:List Nt):Nat:=(seen n z [])[1]
def qdC(n)(ns)(B:ns[1]<=100):Jp [.fz (ntD n),.br (.lst (ns.map ntD))]=.ok (xA n ns)[7]:=by
 have hz:sz=16777216:=rfl;have go:∀ os z j3,z[1]+os[1]<=100->fin ((qD (gV 3) (sIf (L3.zW (tE (eOp dLt (eOp qc (q9 3) 0[5]) (eOp qz (eOp qc (q9 0) 0[5]) (eOp qc (q9 0) 1[5])))) (tE (eOp dLt (eOp qc (q9 0) 0[5]) (eOp qz (eOp qc (q9 3) 0[5]) (eOp qc (q9 3) 1[5]))))) (sIf (tE (eOp dNe (ju [(eOp qc (q9 3) 0[5]),(eOp qc (q9 3) 1[5])]) (ju [(eOp qc (q9 0) 0[5]),(eOp qc (q9 0) 1[5])]))) (kS 2 [(eOp qc (q9 3) 0[5]),(eOp qc (q9 3) 1[5])] (eC (.bl true))) qu) qu) (os.map ntD)
   [!(ntD n)[8],!(.br (.lst (ns.map ntD))),!(.dT z)[9],j3]).th (qt (eB jd [(q9 2)])))=.ok (.int (seen n os z)[1])[8]:=by
  intro os
  induction os with
  | nil=>intro z j3 _;rfl
  | cons o os ih =>
   intro z j3 hb;rw[gJ]at hb;unfold qD seen;simp![ntD];unfold meet;have keep:=ih z (!(ntD o)[8]) ""
   cases h1:decide (o.1<n.1+n.2.1)
   .assumption
   cases h2:decide (n.1<o.1+o.2.1)
   .simp![de,Bool.and_false,tX,cA,h2];exact keep
   cases h3:(not (o.1==n.1&&o.2.1==n.2.1))
   .simp![de,Bool.and_true,tX,cA,h2,h3];exact keep
   simp![de,Bool.and_true,dB,h2,h3];rw[qbz (kvs:=z) (d:=.bl true) (ws:=[.fz (.int o.1),.fz (.int o.2.1)]) (key:=JG o) rfl rfl (by left) rfl "" (by show 2<=sz;lia)]
   have:=qdB (JG o) (.bl true) z;exact ih _ _ ""
 exact go ns [] none B[""]
def kf(wd:Bool)(z:List Nt)(c:Int):List Nt:=if xz (jM c z wd) z&&decide (xA (jM c z wd) z<=7)then z++[jM c z wd]else z
def kg(wd:Bool):List Int->List Nt->List Nt
 | [],ns=>ns
 | c::cs,ns=>kg wd cs (kf wd ns c)
def Q1(z:List Int):Nat:=if jj (cell z 0+7*(z[1]:Int)) 9871 8=3 then 24 else 12
def xB(z:List Int)(wd:Bool):List Nt:=kg wd ((z.drop 6).take (Q1 z)) []
def qdD(wd)(ns)(c):(kf wd ns c)[1]<=ns[1]+1:=by
 unfold kf;split
 .simp
 simp
def qdE(ns)(z:ns[1]<=63):Js [.fz (.lst (ns.map D.int))]=.ok (.bl (jj (cell ns 0+7*(ns[1])) 9871 8==3))[8]:=by
 have c0:=xw ns 0;rw[show((0:Nat):Int)=0 from rfl]at c0
 unfold Js Xn;simp![c0,gg,y4 (i:=7) "d" "d",(vc (cell ns 0+7*(ns[1])) 9871 8 "d" "d")]
def qdF(ns)(Y:ns[1]<=63)(wd):Jy [.fz (.lst (ns.map D.int)),.fz (.bl wd)]=.ok (.lst ((xB ns wd).map ntD))[9]:=by
 have hz:sz=16777216:=rfl;have lg:=qdE ns Y;have O:decide (63<(ns[1]:Int))=false:=by simp;lia
 have go:∀ cs z B j4 j5,z[1]+cs[1]<=24 ->
   fin ((qD (gV 4) (qe (qj 5 (qg uR [(q9 4),(q9 3),(q9 1)])) (sIf (L3.zW (tE (qg Jo [(q9 5),(q9 3)])) (tE (eOp dLe (qg Jp [(q9 5),(q9 3)]) 7[5]))) (qN 3 (q9 5)) qu)) (cs.map D.int)
    [!(.lst (ns.map D.int))[8],!(.bl wd)[8],!B[7],!(.lst (z.map ntD))[9],j4,j5]).th (jw 3))=.ok (.lst ((kg wd cs z).map ntD))[9]:=by
  intro cs
  induction cs with
  | nil=>intro z B j4 j5 _;rfl
  | cons c cs ih =>
   intro z B j4 j5 hb;rw[gJ]at hb;unfold qD kg;have ne:=qdz c z wd;have ae:=qdA (jM c z wd) z;have me:=qdC (jM c z wd) z ""
   simp![ne,ae];unfold kf;cases h1:xz (jM c z wd) z
   .simp![bO,tX,cA];exact ih z B _ _ ""
   simp![me,de];have e7:decide (((xA (jM c z wd) z):Int)<=7)=decide (xA (jM c z wd) z<=7):=by
    congr 1;apply propext;lia
   rw[e7];cases h2:decide (xA (jM c z wd) z<=7)
   .simp![tX,cA];exact ih z B _ _ ""
   left;rw[zh (xs:=z.map ntD) (d:=ntD (jM c z wd)) rfl (by rw[gg];lia) (by left)]
   have:=ih (z++[jM c z wd]) B (!c[7]) (!(ntD (jM c z wd))[8]) (by rw[gD];simp;lia)
   rw[tu]at this;exact this
 have U:∀ m:Nat,m<=24->vP (ns.map D.int) ↑6 (!(6+m))=((ns.drop 6).take m).map D.int:=λm hm=>by
  have:=qbA (ns.map D.int) 6 m;rw[show(((6:Nat):Int))=6 from rfl]at this
  rw[this,<- List.map_drop,<- List.map_take]
 unfold Jy XC xB Q1;simp![lg];have len:∀ m,m<=24->([]:List Nt)[1]+((ns.drop 6).take m)[1]<=24:=λm hm=>by simp;lia
 by_cases c:jj (cell ns 0+7*(ns[1])) 9871 8=3
 .have b:(jj (cell ns 0+7*(ns[1])) 9871 8==3)=true:=by simpa using c
  rw[if_pos c];simp![b,gg,O];rw[vQ (w:=.ow (.lst (vP (ns.map D.int) ↑6 (!(6+(24:Nat)))))) (by left) rfl,U 24 "d"]
  left;exact go _ [] 24 none none (len 24 "d")
 have b:(jj (cell ns 0+7*(ns[1])) 9871 8==3)=false:=by simpa using c
 rw[if_neg c];simp![b,gg,O];rw[vQ (w:=.ow (.lst (vP (ns.map D.int) ↑6 (!(6+(12:Nat)))))) (by left) rfl,U 12 "d"]
 left;exact go _ [] 12 none none (len 12 "d")
def qdG(ns):Jt [.fz (.lst (ns.map D.int))]=.ok (.bl (cell ns 0%4==3))[8]:=by
 have c0:=xw ns 0;rw[show((0:Nat):Int)=0 from rfl]at c0
 unfold Jt Xp;simp![c0,yL (j:=4) "d"]
structure NotesOk(ns:List Nt):Prop where
 b:∀ n∈ns,0<=n.1/\n.1<=1000/\1<=n.2.1/\n.2.1<=400/\0<=n.2.2/\n.2.2<=127
 ap:ns.Pairwise λo n=>hits n o=false
 mt:∀ pre n post,ns=pre++n::post->xA n pre<=7
def qdH(c)(ns)(wd)(h:∀ n∈ns,0<=n.1/\n.1<=1000/\1<=n.2.1/\n.2.1<=400/\0<=n.2.2/\n.2.2<=127) :
  0<=(jM c ns wd).1/\(jM c ns wd).1<=1000/\1<=(jM c ns wd).2.1/\(jM c ns wd).2.1<=400/\0<=(jM c ns wd).2.2/\(jM c ns wd).2.2<=127:=by
 have m1:=zQ c 10007 97 "d"
 have m2:=zQ c 9973 48 "d"
 have m3:=zQ c 9967 25 "d"
 have m4:=zQ c 10007 1001 "d"
 have m5:=zQ c 9973 400 "d"
 have m6:=zQ c 9967 128 "d"
 have hs:0<=nS c wd/\nS c wd<=1000:=by unfold nS;split<;>lia
 have hl:1<=nL c wd/\nL c wd<=400:=by unfold nL;split<;>lia
 have hp:0<=nP c wd/\nP c wd<=127:=by unfold nP;split<;>lia
 unfold jM;cases hq:ns.getLast? with
 | none=>dsimp only;lia
 | some q =>
  have hb:=h q (dj hq);dsimp only;lia
def qdI(h:NotesOk ns):NotesOk (kf wd ns c):=by
 unfold kf;split
 .rename_i k;rw[gZ]at k;refine#[λn hn=>?_,?_,λpre n post e=>?_]
  .rcases gC.mp hn with hn|hn
   .exact h.b n hn
   simp at hn;subst hn;exact(qdH c ns wd h.b)
  .rw[gU];refine#[h.ap,pf _ _,λo ho n hn=>?_]
   simp at hn;subst hn;have:=tW.mp k.1 o ho;simpa using this
  rcases List.eq_nil_or_concat post with rfl|⟨post',x,rfl⟩
  .have:=List.append_inj_right' e rfl
   simp_all
  have e':ns++[jM c ns wd]=(pre++n::post')++[x]:=by rw[e];simp
  exact h.mt pre n post' (List.append_inj_left' e' rfl)
 exact h
theorem XZ(wd):∀ cs ns,NotesOk ns->NotesOk (kg wd cs ns)
 | [],ns,h=>h
 | c::cs,ns,h=>XZ wd cs _ (qdI h)
theorem U0(wd):∀ cs ns,(kg wd cs ns)[1]<=ns[1]+cs[1]
 | [],ns=>gw _
 | c::cs,ns=>by
  have h1:=U0 wd cs (kf wd ns c);have h2:=qdD wd ns c;simp only[kg,gJ];lia
def qdJ(ns)(wd):NotesOk (xB ns wd) :=
 XZ wd _ [] #[λn hn=>by simp at hn,.nil,λpre n post e=>by simp at e]
def qdK(ns)(wd):(xB ns wd)[1]<=24:=by
 have h:=U0 wd ((ns.drop 6).take (Q1 ns)) [];have:Q1 ns<=24:=by unfold Q1;split<;>decide
 unfold xB;simp at h ⊢;lia
def U3(h:ntR a=ntR b):a=b:=by
 obtain⟨a1,a2,a3⟩:=a;simp[ntR]at h;simp[h]
def NotesOk.nodup(h:NotesOk ns):(ns.map ntR).Nodup:=by
 show List.Pairwise _ _;rw[fw];refine dH (λ{o n} ho hn q z=>?_) h.ap
 have e:=U3 z;subst e;have hb:=h.b o ho;unfold hits at q;simp at q;lia
def ofR:List Int->Nt
 | [a,b,c]=>(a,b,c)
 | _=>(0,0,0)
def qK(z:List Nt):List Nt:=(qX (z.map ntR)).map ofR
def Q2(ns):(qK ns).map ntR=qX (ns.map ntR):=by
 unfold qK;rw[h9];have:∀ r∈qX (ns.map ntR),(ntR∘ofR) r=r:=λr hr=>by
  obtain⟨n,_,rfl⟩:=gH.mp ((y7 _).mem_iff.mp hr);rfl
 rw[tq this];simp
def wp(ns):(qK ns).Perm ns:=by
 have h:=(y7 (ns.map ntR)).map ofR;rw[h9]at h;have:(ofR∘ntR)=(λn=>n):=by funext n;rfl
 rw[this]at h;simpa[qK]using h
def leN(a b:Nt):Prop:=a.1<b.1\/a.1=b.1/\(a.2.1<b.2.1\/a.2.1=b.2.1/\a.2.2<=b.2.2)
def lex3(h:HT.lexLt (ntR b) (ntR a)=false):leN a b:=by
 unfold ntR at h;rw[HT.lexLt_cons]at h;unfold leN;by_cases e1:b.1=a.1
 .rw[if_pos e1,HT.lexLt_cons]at h;by_cases e2:b.2.1=a.2.1
  .rw[if_pos e2,HT.lexLt_cons]at h;lia
  rw[if_neg e2]at h;simp at h;lia
 rw[if_neg e1]at h;simp at h;lia
def VM(ns):(qK ns).Pairwise leN:=by
 have h:=QQ (ns.map ntR);rw[<- Q2,fw]at h;exact h.imp lex3
abbrev Ch:=Int×Int×List Int
def chD(c:Ch):D:=.tup [.int c.1,.int c.2.1,.tup (c.2.2.map D.int)]
def grp(z:List Ch)(n:Nt):List Ch:=match z.getLast? with
 | some c=>if c.1=n.1/\c.2.1=n.2.1 then z.dropLast++[(n.1,n.2.1,c.2.2++[n.2.2])]else z++[(n.1,n.2.1,[n.2.2])]
 | none=>z++[(n.1,n.2.1,[n.2.2])]
def rowOf(z:List Nt):List Ch:=(qK z).foldl grp []
def ltC(a b:Ch):Prop:=a.1<b.1\/a.1=b.1/\a.2.1<b.2.1
structure RowOk(ns:List Nt)(row:List Ch):Prop where
 up:row.Pairwise ltC
 ne:∀ c∈row,c.2.2≠[]
 ri:∀ c∈row,c.2.2.Pairwise (· < ·)
 of:∀ c∈row,∀ p∈c.2.2,(c.1,c.2.1,p)∈ns
 all:∀ n∈ns,∃ c∈row,c.1=n.1/\c.2.1=n.2.1/\n.2.2∈c.2.2
def U4{n:Nt}(nd:n∉done)(R:RowOk done acc)(Z:∀ m∈done,leN m n)(O:∀ c,acc.getLast?=!c->∃ m∈done,c.1=m.1/\c.2.1=m.2.1):RowOk (done++[n]) (grp acc n) /\
  ∃ c,(grp acc n).getLast?=!c/\c.1=n.1/\c.2.1=n.2.1:=by
 have U:(∀ c∈acc,ltC c (n.1,n.2.1,[n.2.2]))->RowOk (done++[n]) (acc++[(n.1,n.2.1,[n.2.2])]):=λY=>by
  refine#[?_,λc hc=>?_,λc hc=>?_,λc hc p hp=>?_,λm hm=>?_]
  .rw[gU];exact#[R.up,pf _ _,λa ha b hb=>by simp at hb;subst hb;exact Y a ha]
  .rcases gC.mp hc with hc|hc
   .exact R.ne c hc
   simp_all
  .rcases gC.mp hc with hc|hc
   .exact R.ri c hc
   simp_all
  .rcases gC.mp hc with hc|hc
   .exact tj _ (R.of c hc p hp)
   simp at hc;subst hc;simp at hp;subst hp;simp
  rcases gC.mp hm with hm|hm
  .obtain⟨c,hc,q⟩:=R.all m hm;exact#[c,tj _ hc,q]
  simp at hm;subst hm;exact#[_,tm _ (tY.mpr rfl),rfl,rfl,by simp]
 unfold grp;cases hg:acc.getLast? with
 | none =>
  have hn:=pB.mp hg;subst hn;exact#[U λc hc=>by simp at hc,(n.1,n.2.1,[n.2.2]),by simp,rfl,rfl]
 | some c0 =>
  dsimp only;obtain⟨B,rfl⟩:∃ B,acc=B++[c0]:=by
   obtain⟨h,e⟩:=List.getLast?_eq_some_iff.mp hg;exact#[h,e]
  have z:=R.up;rw[gU]at z;by_cases c:c0.1=n.1/\c0.2.1=n.2.1
  .rw[if_pos c];simp only[List.dropLast_concat];refine#[#[?_,λx hx=>?_,λx hx=>?_,λx hx p hp=>?_,λm hm=>?_],(n.1,n.2.1,c0.2.2++[n.2.2]),by simp,rfl,rfl]
   .rw[gU];refine#[z.1,pf _ _,λa ha b hb=>?_]
    simp at hb;subst hb;have:=z.2.2 a ha c0 "s"
    unfold ltC at this ⊢;dsimp only;lia
   .rcases gC.mp hx with hx|hx
    .exact R.ne x (tj _ hx)
    simp at hx;subst hx;simp
   .rcases gC.mp hx with hx|hx
    .exact R.ri x (tj _ hx)
    simp at hx;subst hx;dsimp only;rw[gU];refine#[R.ri c0 "s",pf _ _,λa ha b hb=>?_]
    simp at hb;subst hb;have hm:=R.of c0 "s" a ha
    have le:=Z _ hm;unfold leN at le;dsimp only at le;by_cases e:a=n.2.2
    .exfalso;apply nd;have:n=(c0.1,c0.2.1,a):=by rw[c.1,c.2,e]
     rw[this];exact hm
    lia
   .rcases gC.mp hx with hx|hx
    .exact tj _ (R.of x (tj _ hx) p hp)
    simp at hx;subst hx;dsimp only at hp ⊢;rcases gC.mp hp with hp|hp
    .have:=R.of c0 "s" p hp
     rw[c.1,c.2]at this;exact tj _ this
    simp at hp;subst hp;simp
   rcases gC.mp hm with hm|hm
   .obtain⟨x,hx,q1,q2,q3⟩:=R.all m hm;rcases gC.mp hx with hx|hx
    .exact#[x,tj _ hx,q1,q2,q3]
    simp at hx;subst hx;exact#[_,tm _ (tY.mpr rfl),by dsimp only;lia,by dsimp only;lia,by simp[q3]]
   simp at hm;subst hm;exact#[_,tm _ (tY.mpr rfl),rfl,rfl,by simp]
  rw[if_neg c];refine#[U λa ha=>?_,(n.1,n.2.1,[n.2.2]),by simp,rfl,rfl]
  have l0:ltC c0 (n.1,n.2.1,[n.2.2]):=by
   obtain⟨m,hm,e1,e2⟩:=O c0 hg;have le:=Z m hm;unfold leN at le;unfold ltC;dsimp only;lia
  rcases gC.mp ha with ha|ha
  .have:=z.2.2 a ha c0 "s"
   unfold ltC at this l0 ⊢;dsimp only at *;lia
  simp at ha;subst ha;exact l0
theorem VN:∀ rest done B,(done++rest).Nodup->(done++rest).Pairwise leN->RowOk done B->(∀ c,B.getLast?=!c->∃ m∈done,c.1=m.1/\c.2.1=m.2.1)->RowOk (done++rest) (rest.foldl grp B)
 | [],done,B,_,_,R,_=>by simpa using R
 | n::rest,done,B,nd,pw,R,hlast=>by
  have e:done++n::rest=(done++[n])++rest:=by simp
  have n1:n∉done:=λz=>(fq.mp nd).2.2 n z n "s" rfl
  have le:∀ m∈done,leN m n:=λm hm=>(gU.mp pw).2.2 m hm n "s"
  obtain⟨R2,c,hc,c1,c2⟩:=U4 n1 R le hlast;rw[p9,e];refine VN rest (done++[n]) _ (by rw[<- e];exact nd) (by rw[<- e];exact pw) R2 λx hx=>?_
  rw[hc]at hx;cases hx;exact#[n,by simp,c1,c2]
def VO(h:NotesOk ns):RowOk ns (rowOf ns):=by
 have nd:(qK ns).Nodup:=by
  have:=h.nodup;exact(wp ns).nodup_iff.mpr ((fw.mp this).imp λ{a b} q e=>q (by rw[e]))
 have R:=VN (qK ns) [] [] nd[""] (by simpa using VM ns) #[.nil,λc hc=>by simp at hc,λc hc=>by simp at hc,λc hc=>by simp at hc,λn hn=>by simp at hn] (λc hc=>by simp at hc)
 have m:∀ n,n∈qK ns↔n∈ns:=λn=>(wp ns).mem_iff
 exact#[R.up,R.ne,R.ri,λc hc p hp=>(m _).mp (R.of c hc p hp),λn hn=>R.all n ((m n).mpr hn)]
def VP(h:NotesOk ns)(R:RowOk ns row):∀ c∈row,0<=c.1/\c.1<=1000/\1<=c.2.1/\c.2.1<=400:=λc hc=>by
 cases e:c.2.2 with
 | nil=>exact absurd e (R.ne c hc)
 | cons p r =>
  have:=h.b _ (R.of c hc p (by rw[e];simp))
  simp_all
def U5(acc)(n):(grp acc n)[1]<=acc[1]+1:=by
 unfold grp;split
 .split
  .simp
  simp
 simp
theorem U6:∀(ns:List Nt) acc,(ns.foldl grp acc)[1]<=acc[1]+ns[1]
 | [],acc=>gw _
 | n::ns,acc=>by
  have h1:=U6 ns (grp acc n);have h2:=U5 acc n;simp only[p9,gJ];lia
def VQ(ns):(rowOf ns)[1]<=ns[1]:=by
 have h:=U6 (qK ns) [];rw[(wp ns).length_eq]at h;simpa[rowOf]using h
def qdL{e:EF}{ρ:Rho}(h:e ρ=.ok (.dT [])[9])(z:vH i ρ=true):yO i e ρ=.nx (ρ.set i (!(.od (.dT [])))):=by
 unfold yO;rw[h];show yN i ρ (.dT [])[9]=_;unfold yN
 simp_all
def qdM{i:Nat}{z e:EF}{ρ:Rho}{ws:List En}{key:List (Sum Int Str)}{kds:List (List (Sum Int Str)×D)}(h:ρ[i]?=!(!(.od (.dT kds))))(h1:evs ks ρ=.ok ws)(h2:jF (ws.map En.d)=!key)(B:z ρ=.ok (.lst [])[9])
  (O:kds[1]<sz/\key[1]<=sz/\(kds.all λkv=>kY kv.2)=true)(U:e (ρ.set i none)=.ok d[8]):sSd i ks z e ρ=.nx (ρ.set i (!(.od (.dT (zN key d kds))))):=by
 unfold sSd;rw[h,h1];show Kf i z e ρ kds (jF (ws.map En.d))=_;rw[h2];show sOf (z ρ) (kZ i e ρ kds key)=_;rw[B];show(if kds[1]<sz/\key[1]<=sz/\(kds.all λkv=>kY kv.2)=true then sOf (e (ρ.set i none)) (Ke i ρ kds key)else .stuck)=_
 rw[if_pos O,U];rfl
def z9(a b:Int):List (Sum Int Str):=[.inl a,.inl b]
def ze(z:List Ch):List (List (Sum Int Str)×D):=z.map λc=>(z9 c.1 c.2.1,D.lst (c.2.2.map D.int))
def U7(h:z9 a b=z9 c d):a=c/\b=d:=by simpa[z9]using h
def qdN(c){rest:List Ch}(h:rest≠[])(n):grp (c::rest) n=c::grp rest n:=by
 obtain⟨r,rs,rfl⟩:∃ r rs,rest=r::rs:=by
  cases rest with
  | nil=>exact absurd rfl h
  | cons r rs=>exact#[r,rs,rfl]
 have e:(c::r::rs).getLast?=(r::rs).getLast?:=by simp[List.getLast?_cons_cons]
 unfold grp;rw[e];cases h2:(r::rs).getLast? with
 | none=>simp at h2
 | some l =>
  dsimp only;split<;>simp
theorem U8(n):∀ B,B.Pairwise ltC->(∀ c∈B,c.1<n.1\/c.1=n.1/\c.2.1<=n.2.1)->zN (z9 n.1 n.2.1) (.int n.2.2) (ze B)=ze (grp B n)
 | [],_,_=>rfl
 | c::rest,up,le=>by
  obtain⟨u1,u2⟩:=fF.mp up;show(if z9 c.1 c.2.1=z9 n.1 n.2.1 then(z9 c.1 c.2.1,QZ (D.lst (c.2.2.map D.int)) (.int n.2.2))::ze rest else(z9 c.1 c.2.1,D.lst (c.2.2.map D.int))::zN (z9 n.1 n.2.1) (.int n.2.2) (ze rest))=_
  by_cases k:z9 c.1 c.2.1=z9 n.1 n.2.1
  .obtain⟨k1,k2⟩:=U7 k;have re:rest=[]:=by
    cases rest with
    | nil=>rfl
    | cons r rs =>
     have a1:=u1 r "s"
     have a2:=le r "s"
     unfold ltC at a1;lia
   subst re;have eg:grp [c] n=[(n.1,n.2.1,c.2.2++[n.2.2])]:=by simp[grp,k1,k2]
   rw[eg];simp[ze,QZ,k1,k2]
  rw[if_neg k,U8 n rest u2 λx hx=>le x (gj _ hx)]
  by_cases re:rest=[]
  .subst re;have ne:¬ (c.1=n.1/\c.2.1=n.2.1):=λz=>k (by rw[z.1,z.2])
   have eg:grp [c] n=[c,(n.1,n.2.1,[n.2.2])]:=by simp[grp,ne]
   rw[eg];rfl
  rw[qdN c re];rfl
theorem VR:∀{acc},acc.Pairwise ltC->c∈acc->look (z9 c.1 c.2.1) (ze acc)=!(.lst (c.2.2.map D.int))
 | [],_,h=>by simp at h
 | x::acc,up,h=>by
  obtain⟨u1,u2⟩:=fF.mp up;show(if z9 x.1 x.2.1=z9 c.1 c.2.1 then !(D.lst (x.2.2.map D.int))else look (z9 c.1 c.2.1) (ze acc))=_
  rcases gy.mp h with rfl|h
  .simp
  have:=u1 c h;unfold ltC at this;rw[if_neg λz=>by have:=U7 z;lia,VR u2 h]
def jq(z:List Ch):Nat:=(z.map λc=>c.2.2.length).sum
def qdO(acc)(n):jq (grp acc n)=jq acc+1:=by
 unfold grp;cases h:acc.getLast? with
 | none =>
  have:=pB.mp h;subst this;rfl
 | some c =>
  dsimp only;obtain⟨i,rfl⟩:∃ i,acc=i++[c]:=List.getLast?_eq_some_iff.mp h |>.imp λ_ e=>e
  split
  .simp[jq];lia
  simp[jq];lia
theorem U9:∀(ns:List Nt) acc,jq (ns.foldl grp acc)=jq acc+ns[1]
 | [],acc=>rfl
 | n::ns,acc=>by
  rw[p9,U9 ns,qdO,gJ];lia
def Ua(ns):jq (rowOf ns)=ns[1]:=by
 unfold rowOf;rw[U9,(wp ns).length_eq];show 0+_=_;lia
def JI(kds:List (List (Sum Int Str)×D)):D->D
 | .tup [.int a,.int b]=>.tup [.int a,.int b,(match look (z9 a b) kds with|some (.lst xs)=>.tup xs|_=>.non)]
 | _=>.non
def VS(h1:rs.Nodup)(h2:rs[1]<=5000)(z:[]∉rs):vZ [.lst (rs.map qJ)]=.ok (.lst ((qX rs).map qJ))[9]:=by
 unfold vZ;dsimp only;rw[YV]
 simp_all
def qdP(h:(ns.map ntR).Nodup):RowOk ns (rowOf ns):=by
 have nd:(qK ns).Nodup:=by
  have:=h;exact(wp ns).nodup_iff.mpr ((fw.mp this).imp λ{a b} q e=>q (by rw[e]))
 have R:=VN (qK ns) [] [] nd[""] (by simpa using VM ns) #[.nil,λc hc=>by simp at hc,λc hc=>by simp at hc,λc hc=>by simp at hc,λn hn=>by simp at hn] (λc hc=>by simp at hc)
 have m:∀ n,n∈qK ns↔n∈ns:=λn=>(wp ns).mem_iff
 exact#[R.up,R.ne,R.ri,λc hc p hp=>(m _).mp (R.of c hc p hp),λn hn=>R.all n ((m n).mpr hn)]
def qdQ(ns)(N:(ns.map ntR).Nodup)(nl:ns[1]<=24):wa [.br (.lst (ns.map ntD))]=.ok (.lst ((rowOf ns).map chD))[9]:=by
 have hz:sz=16777216:=rfl;have e1:ns.map ntD=(ns.map ntR).map qJ:=by rw[h9];rfl
 have srt:=VS (rs:=ns.map ntR) N (by rw[gg];lia) (λz=>by obtain⟨n,_,e⟩:=gH.mp z;cases e)
 have U:vZ [.lst (ns.map ntD)]=.ok (.lst ((qK ns).map ntD))[9]:=by
  rw[e1,srt,<- Q2,h9];rfl
 have R:=qdP N;have Y:∀ j2,fin (uw 1 (qt (qE 1 (iT 1) (gV 3) qI (ju [(eOp qc (q9 3) 0[5]),(eOp qc (q9 3) 1[5]),(eB wU [(eOp ya (q9 1) (q9 3))])]))) [!(.br (.lst (ns.map ntD))),!(.od (.dT (ze (rowOf ns)))),j2])=.ok (.lst ((rowOf ns).map chD))[9]:=λj2=>by
  show fin (qt _ [!(.br (.lst (ns.map ntD))),!(.lk (.dT (ze (rowOf ns)))),j2])=_;have cm:qE 1 (iT 1) (gV 3) qI (ju [(eOp qc (q9 3) 0[5]),(eOp qc (q9 3) 1[5]),(eB wU [(eOp ya (q9 1) (q9 3))])]) [!(.br (.lst (ns.map ntD))),!(.lk (.dT (ze (rowOf ns)))),j2]=.ok (.lst ((rowOf ns).map chD))[9]:=by
   have ek:(ze (rowOf ns)).map (λkv=>Kj kv.1)=(rowOf ns).map λc=>D.tup [.int c.1,.int c.2.1]:=by
    unfold ze;rw[h9];rfl
   have eo:(rowOf ns).map chD=((rowOf ns).map λc=>D.tup [.int c.1,.int c.2.1]).map (JI (ze (rowOf ns))):=by
    rw[h9];refine tq λc hc=>?_
    show chD c=JI (ze (rowOf ns)) (.tup [.int c.1,.int c.2.1]);unfold JI;dsimp only;rw[VR R.up hc];rfl
   have rl:=VQ ns;rw[eo];refine yI (ds:=(rowOf ns).map λc=>D.tup [.int c.1,.int c.2.1]) (by rw[<- ek];rfl) (by rw[gg,hz];lia) (kO 3 _ _ _ λd hd=>?_)
   obtain⟨c,hc,rfl⟩:=gH.mp hd;have lk:=VR R.up hc;have ix:ya (.dT (ze (rowOf ns))) (.tup [.int c.1,.int c.2.1])=.ok (.lst (c.2.2.map D.int))[8]:=by
    show okD (look (z9 c.1 c.2.1) (ze (rowOf ns)))=_;rw[lk];rfl
   refine#[.fz (.tup [.int c.1,.int c.2.1,.tup (c.2.2.map D.int)]),by simp![qR,ro,ix],?_]
   show(L3.R.ok (D.tup [.int c.1,.int c.2.1,.tup (c.2.2.map D.int)]))=_;unfold JI;dsimp only;rw[lk]
  simp![cm]
 unfold wa KZ;simp[QM,gN,pY,gJ,fR,reduceAdd,Nat.reduceSub,dC,List.replicate_zero,List.cons_append,pF,ji];rw[qdL (by left) rfl]
 left;rw[vQ (w:=.ow (.lst ((qK ns).map ntD))) (by simp![U]) rfl]
 left;have go:∀ rest done B k j2,(done++rest).Nodup->(done++rest).Pairwise leN->RowOk done B->(∀ c,B.getLast?=!c->∃ m∈done,c.1=m.1/\c.2.1=m.2.1)->B[1]+rest[1]<=100/\k+rest[1]<=100->(∀ c∈B,c.2.2.length<=k)->rest.foldl grp B=rowOf ns ->
   fin ((qD (gV 2) (sSd 1 [(eOp qc (q9 2) 0[5]),(eOp qc (q9 2) 1[5])] (jg []) (eOp qc (q9 2) 2[5])) (rest.map ntD) [!(.br (.lst (ns.map ntD))),!(.od (.dT (ze B))),j2]).th
    (uw 1 (qt (qE 1 (iT 1) (gV 3) qI (ju [(eOp qc (q9 3) 0[5]),(eOp qc (q9 3) 1[5]),(eB wU [(eOp ya (q9 1) (q9 3))])])))))=.ok (.lst ((rowOf ns).map chD))[9]:=by
  intro rest
  induction rest with
  | nil =>
   intro done B k j2 _ _ _ _ _ _ e;have e:B=rowOf ns:=e;subst e;rw[pY,uY];exact Y j2
  | cons n rest ih =>
   intro done B k j2 nd pw Rk O hb hk e;rw[gJ]at hb;have eq:done++n::rest=(done++[n])++rest:=by simp
   have n1:n∉done:=λz=>(fq.mp nd).2.2 n z n "s" rfl
   have le:∀ m∈done,leN m n:=λm hm=>(gU.mp pw).2.2 m hm n "s"
   obtain⟨R2,c,hc,c1,c2⟩:=U4 n1 Rk le O;have leC:∀ c∈B,c.1<n.1\/c.1=n.1/\c.2.1<=n.2.1:=λc hc=>by
    cases ep:c.2.2 with
    | nil=>exact absurd ep (Rk.ne c hc)
    | cons p r =>
     have:=le _ (Rk.of c hc p (by rw[ep];simp))
     unfold leN at this;dsimp only at this;lia
   have gl:=U5 B n;have gk:∀ c∈grp B n,c.2.2.length<=k+1:=λc hc=>by
    unfold grp at hc;cases hl:B.getLast? with
    | none =>
     rw[hl]at hc;rcases gC.mp hc with hc|hc
     .have:=hk c hc;lia
     simp at hc;subst hc;simp
    | some l =>
     rw[hl]at hc;dsimp only at hc;split at hc
     .rcases gC.mp hc with hc|hc
      .have:=hk c (List.dropLast_subset _ hc);lia
      simp at hc;subst hc;have:=hk l (dj hl);simp;lia
     rcases gC.mp hc with hc|hc
     .have:=hk c hc;lia
     simp at hc;subst hc;simp
   rw[gN,zR rfl];left;rw[qdM (kds:=ze B) (ws:=[.fz (.int n.1),.fz (.int n.2.1)]) (key:=z9 n.1 n.2.1) (d:=.int n.2.2) rfl (by simp![ntD]) rfl (by left)
    #[by simp[ze,hz];lia,by simp[z9,hz],tW.mpr λkv Z=>by
     obtain⟨c,hc,rfl⟩:=gH.mp Z;have:=hk c hc;show decide ((c.2.2.map D.int)[1]<sz)=true;rw[gg,hz];exact tG ""] (by simp![ntD]),U8 n B Rk.up leC]
   simp![wP];refine ih (done++[n]) (grp B n) (k+1) _ (by rw[<- eq];exact nd) (by rw[<- eq];exact pw) R2 (λx hx=>?_) "" gk e
   rw[hc]at hx;cases hx;exact#[n,by simp,c1,c2]
 have nd:(qK ns).Nodup:=(wp ns).nodup_iff.mpr ((fw.mp N).imp λ{a b} q e=>q (by rw[e]))
 exact go (qK ns) [] [] 0 none nd[""] (by simpa using VM ns) #[.nil,λc hc=>by simp at hc,λc hc=>by simp at hc,λc hc=>by simp at hc,λn hn=>by simp at hn] (λc hc=>by simp at hc) (by rw[(wp ns).length_eq];simp;lia) (λc hc=>by simp at hc) rfl
def qdR(h:c∈row):c.2.2.length<=jq row:=by
 obtain⟨i,hi,rfl⟩:=List.getElem_of_mem h;have e:row=row.take i++row[i]::row.drop (i+1):=by rw[<- fS hi,tR]
 have:jq row=jq (row.take i)+((row[i]).2.2.length+jq (row.drop (i+1))):=by
  conv=>lhs;rw[e]
  simp only[jq,tu,bF,gN,pN]
 lia
def qiE{e:EF}{ρ:Rho}(h:e ρ=.ok (.lst [])[9])(z:vH i ρ=true):yO i e ρ=.nx (ρ.set i (!(.od (.lst [])))):=by
 unfold yO;rw[h];show yN i ρ (.lst [])[9]=_;unfold yN;rw[if_pos z]
def Ub{i:Nat}{e:EF}{ρ:Rho}(h:ρ[i]?=!(!(.od d)))(h2:e (ρ.set i (!d[9]))=.ok x[8])(B:scal x=true)(O:∀ k,d≠.dK k:=by intro _ z;cases z)(U:∀ k,d≠.tup k:=by intro _ z;cases z):vY i e ρ=.ok x[8]:=by
 unfold vY;rw[h];cases d<;>first
  | exact absurd rfl (O _)
  | exact absurd rfl (U _)
  | (dsimp only;rw[h2,R.bind_ok];unfold ZZ;dsimp only;rw[if_pos B])
def qdS{ρ:Rho}{ds es:List D}(h:ρ[i]?=!(!(.od (.lst ds))))(h2:e ρ=.ok (.lst es)[9])(z:ds[1]<sz):kX i e ρ=.nx (ρ.set i (!(.od (.lst (ds++[.lst es]))))):=by
 unfold kX;rw[h,h2];show QX i ρ ds (.lst es)[9]=_;unfold QX
 simp_all
def VT{i k:Nat}{z e:EF}{ρ:Rho}{ds xs:List D}(h:ρ[i]?=!(!(.od (.lst ds))))(h1:z ρ=.ok k[7])(h2:e ρ=.ok d[8])(B:ds[k]?=!(.lst xs))(O:xs[1]<sz) :
  wH i z e ρ=.nx (ρ.set i (!(.od (.lst (ds.set k (.lst (xs++[d]))))))):=by
 unfold wH;rw[h,h1,h2];show yP i ρ ds k[7] d[8]=_;unfold yP;unfold QY
 simp_all
def qiF{i:Nat}(h:ρ[i]?=!(!(.od d)))(B:∀ k,d≠.dK k:=by intro _ z;cases z)(O:∀ k,d≠.tup k:=by intro _ z;cases z):y9 i (jw i) ρ=.rt d[9]:=by
 have hl:=(gp.mp h).1;unfold y9 L3.shut;rw[h];cases d<;>first
  | exact absurd rfl (B _)
  | exact absurd rfl (O _)
  | (unfold jw;rw[List.getElem?_set_self hl])
def at_(t:Int)(c:Ch):Bool:=decide (c.1<=t)&&decide (t<c.1+c.2.1)
def many(z:List Ch)(t:Int):Nat:=z.countP (at_ t)
abbrev Vs:=List (List Ch)
def vD(v:List Ch):D:=.lst (v.map chD)
def endL(v:List Ch):Int:=match v.getLast? with
 | some c=>c.1+c.2.1
 | none=>0
def qP:Vs->Int->Nat
 | [],_=>0
 | v::vs,t=>if endL v<=t then 0 else qP vs t+1
def jW:Vs->Ch->Vs
 | [],c=>[[c]]
 | v::vs,c=>if endL v<=c.1 then(v++[c])::vs else v::jW vs c
theorem Uc:∀ vs t,qP vs t<=vs[1]
 | [],_=>gw _
 | v::vs,t=>by
  unfold qP;have:=Uc vs t;split<;>simp<;>lia
theorem VU:∀ vs c,(jW vs c)[1]=if qP vs c.1=vs[1] then vs[1]+1 else vs[1]
 | [],c=>rfl
 | v::vs,c=>by
  have:=VU vs c;unfold jW qP;split
  .rfl
  simp only[gJ,this];split<;>split<;>lia
theorem Ud(p):∀ vs c,(jW vs c).flatten.countP p=vs.flatten.countP p+[c].countP p
 | [],c=>by simp[jW]
 | v::vs,c=>by
  unfold jW;split
  .simp only[tS,c9];lia
  simp only[tS,c9,(Ud p vs c)];lia
theorem Q3:∀{vs} {c},x∈jW vs c->x∈vs\/x=[c]\/∃ v∈vs,endL v<=c.1/\x=v++[c]
 | [],c,h=>by simp[jW]at h;exact .inr (.inl h)
 | v::vs,c,h=>by
  unfold jW at h;split at h
  .rename_i e;rcases gy.mp h with rfl|h
   .exact .inr (.inr #[v,by simp,e,rfl])
   exact .inl (gj _ h)
  rcases gy.mp h with rfl|h
  .exact .inl "s"
  rcases Q3 h with q|q|⟨w,hw,q⟩
  .exact .inl (gj _ q)
  .exact .inr (.inl q)
  exact .inr (.inr #[w,gj _ hw,q])
structure VOk(pre:List Ch)(vs:Vs):Prop where
 ne:∀ v∈vs,v≠[]
 cnt:∀ t,vs.flatten.countP (at_ t)=many pre t
 ap:∀ v∈vs,v.Pairwise λc d=>c.1+c.2.1<=d.1
 old:∀ v∈vs,∀ c∈v,c∈pre
 len:∀ v∈vs,v[1]<=pre[1]
def Ue:VOk [] []:=#[λ_ h=>by simp at h,λ_=>rfl,λ_ h=>by simp at h,λ_ h=>by simp at h,λ_ h=>by simp at h]
def VV(h:v≠[]):∃ c∈v,endL v=c.1+c.2.1/\∃ i,v=i++[c]:=by
 obtain⟨i,c,rfl⟩:∃ i c,v=i++[c]:=#[v.dropLast,v.getLast h,(List.dropLast_concat_getLast h).symm];exact#[c,by simp,by simp[endL],i,rfl]
def Uf(V:VOk pre vs)(pos:∀ x∈pre,1<=x.2.1):VOk (pre++[c]) (jW vs c):=by
 refine#[λv h=>?_,λt=>?_,λv h=>?_,λv h x hx=>?_,λv h=>?_]
 .rcases Q3 h with q|rfl|⟨w,_,_,rfl⟩
  .exact V.ne v q
  .simp
  simp
 .rw[Ud,V.cnt,many,many,c9]
 .rcases Q3 h with q|rfl|⟨w,hw,e,rfl⟩
  .exact V.ap v q
  .exact pf _ _
  rw[gU];refine#[V.ap w hw,pf _ _,λx hx y hy=>?_]
  obtain rfl:y=c:=by simpa using hy
  obtain⟨l,hl,el,i,ei⟩:=VV (V.ne w hw);rw[el]at e;rw[ei]at hx;rcases gC.mp hx with hx|hx
  .have ap:=V.ap w hw;rw[ei]at ap;have:=(gU.mp ap).2.2 x hx l "s"
   have:=pos l (V.old w hw l hl);lia
  simp_all
 .rcases Q3 h with q|rfl|⟨w,hw,_,rfl⟩
  .exact tj _ (V.old v q x hx)
  .exact tm _ hx
  rcases gC.mp hx with hx|hx
  .exact tj _ (V.old w hw x hx)
  exact tm _ hx
 rcases Q3 h with q|rfl|⟨w,hw,_,rfl⟩
 .have:=V.len v q;simp;lia
 .simp
 have:=V.len w hw;simp;lia
theorem Ug:∀{vs} {t},(∀ v∈vs,v≠[])->(∀ v∈vs,∀ x∈v,x.1<=t)->qP vs t<=vs.flatten.countP (at_ t)
 | [],_,_,_=>gw _
 | v::vs,t,ne,le=>by
  unfold qP;split
  .exact tJ _
  rename_i e;have ih:=Ug (λw hw=>ne w (gj _ hw)) λw hw=>le w (gj _ hw)
  obtain⟨l,hl,el,_⟩:=VV (ne v "s")
  rw[el]at e;have p:0<v.countP (at_ t):=List.countP_pos_iff.mpr #[l,hl,by have:=le v "s" l hl;simp[at_];lia]
  grind
def run:Vs->List Ch->Option Vs
 | vs,[]=>!vs
 | vs,c::cs=>if qP vs c.1=8 then none else run (jW vs c) cs
theorem Uh(row)(up:row.Pairwise λa b=>a.1<=b.1)(pos:∀ c∈row,1<=c.2.1)(th:∀ t,many row t<=8):∀ cs pre vs m,row=pre++cs->VOk pre vs->vs[1]<=m->(∀ c∈row,many row c.1<=m) ->
  ∃ ws,run vs cs=!ws/\VOk row ws/\ws[1]<=m
 | [],pre,vs,m,e,V,l,_=>#[vs,rfl,by rw[e,tQ];exact V,l]
 | c::cs,pre,vs,m,e,V,l,hm=>by
  have z:=λx hx=>pos x (by rw[e];exact tj _ hx)
  have le:=λx hx=>by
   rw[e]at up;exact(gU.mp up).2.2 x hx c "s"
  have h1:qP vs c.1<=many pre c.1:=by
   rw[<- V.cnt];exact Ug V.ne λv hv x hx=>le x (V.old v hv x hx)
  have h2:many row c.1=many pre c.1+1+many cs c.1:=by
   have pc:=pos c (by rw[e];simp)
   have:at_ c.1 c=true:=by simp[at_];lia
   rw[e,many,c9,List.countP_cons,if_pos this];simp[many];lia
  have h3:=th c.1;have h4:=hm c (by rw[e];simp)
  unfold run;rw[if_neg ""]
  refine Uh row up pos th cs (pre++[c]) (jW vs c) m (by rw[e];simp) (Uf V z) ?_ hm
  rw[VU];split<;>lia
theorem Ui:∀{vs} {c},qP vs c.1=vs[1]->jW vs c=vs++[[c]]
 | [],_,_=>rfl
 | v::vs,c,h=>by
  unfold qP at h;unfold jW;split at h
  .simp_all
  rename_i e;rw[if_neg e,Ui h[""]]
  rfl
theorem Uj:∀{vs} {c},qP vs c.1<vs[1]->jW vs c=vs.set (qP vs c.1) (vs.getD (qP vs c.1) []++[c])
 | [],_,h=>by simp[qP]at h
 | v::vs,c,h=>by
  unfold qP at h ⊢;unfold jW;split
  .rfl
  rename_i e;rw[if_neg e]at h;have h:qP vs c.1<vs[1]:=by simpa using h
  rw[List.getD_cons_succ,fP,<- Uj h]
def qdT(c):zF [.fz (chD c)]=.ok (c.1+c.2.1)[7]:=by
 rfl
def qdU(h:v≠[]):∃ c,okD (ati (v.map chD) (-1))=.ok (chD c)[8]/\endL v=c.1+c.2.1:=by
 obtain⟨c,_,e,i,rfl⟩:=VV h;refine#[c,?_,e];rw[QE,bg];simp;rfl
def qdV(vs)(t)(ne:∀ v∈vs,v≠[]):uQ [.br (.lst (vs.map vD)),.fz t[6]]=.ok (qP vs t)[7]:=by
 have go:∀ ws n j2 j3,n+ws[1]=vs[1]->(∀ v∈ws,v≠[]) ->
   fin ((qD (gT [2,3]) (sIf (tE (eOp dLe (qg zF [(eOp qc (q9 3) (eUn jR 1[5]))]) (q9 1))) (jw 2) qu) (numd n (ws.map vD))
    [!(.br (.lst (vs.map vD))),!t[7],j2,j3]).th (qt (eB jd [(q9 0)])))=.ok (n+qP ws t:Nat)[7]:=by
  intro ws
  induction ws with
  | nil =>
   intro n j2 j3 hn _;simp[qP];show fin (qt (eB jd [(q9 0)]) _)=_;simp![gg]
   simp_all
  | cons v ws ih =>
   intro n j2 j3 hn ne;show fin ((qD _ _ (.tup [.int n,vD v]::numd (n+1) (ws.map vD)) _).th _)=_;rw[zR rfl];obtain⟨c,lq,el⟩:=qdU (ne v "s")
   simp![vD,lq,(qdT c)];unfold qP;rw[el];by_cases h:c.1+c.2.1<=t
   .rw[if_pos h,show decide (c.1+c.2.1<=t)=true from tG h]
    rfl
   rw[if_neg h,show decide (c.1+c.2.1<=t)=false from t7 h]
   have:=ih (n+1) (!n[7]) (!(vD v)[8]) (by rw[<- hn,gJ];lia) (λw hw=>ne w (gj _ hw))
   rw[show n+(qP ws t+1)=n+1+qP ws t by lia]
   exact this
 have:=go vs 0 none none "s" ne
 rw[pP]at this;exact this
def vB:SF:=(qe (qj 3 (vY 1 (qg uQ [(q9 1),(eOp qc (q9 2) 0[5])])))
 (qe (sIf (tE (eOp dEq (q9 3) (eC Jj))) zq qu)
 (qe (sIf (tE (eOp dEq (q9 3) (vY 1 (eB jd [(q9 1)])))) (kX 1 (jg [])) qu)
 (wH 1 (q9 3) (q9 2)))))
def qdW{vs:Vs}{c:Ch}(ne:∀ v∈vs,v≠[])(B:vs[1]<=100)(z:∀ v∈vs,v[1]<=100):vB [W0,!(.od (.lst (vs.map vD))),!(chD c)[8],j3] =
  if qP vs c.1=8 then .stuck else .nx [W0,!(.od (.lst ((jW vs c).map vD))),!(chD c)[8],!(qP vs c.1)[7]]:=by
 have hz:sz=16777216:=rfl;have fe:=qdV vs c.1 ne;have fl:=Uc vs c.1;have s1:vY 1 (qg uQ [(q9 1),(eOp qc (q9 2) 0[5])]) [W0,!(.od (.lst (vs.map vD))),!(chD c)[8],j3]=.ok (qP vs c.1)[7] :=
  Ub rfl (by simp![chD,fe]) rfl
 unfold vB;simp![s1,Jj];by_cases c8:qP vs c.1=8
 .rw[if_pos c8,c8];rfl
 rw[if_neg c8,show(((qP vs c.1):Int)==8)=false by rw[px];lia]
 have s2:vY 1 (eB jd [(q9 1)]) [W0,!(.od (.lst (vs.map vD))),!(chD c)[8],!(qP vs c.1)[7]]=.ok (.int vs[1])[8] :=
  Ub rfl (by simp![gg]) rfl
 simp![s2];by_cases cn:qP vs c.1=vs[1]
 .rw[show((qP vs c.1)==(vs[1]:Int))=true by rw[cn];simp]
  left;rw[qdS (ds:=vs.map vD) (es:=[]) rfl (by left) (by rw[gg,hz];lia)]
  left;rw[VT (ds:=vs.map vD++[.lst []]) (k:=qP vs c.1) (xs:=[]) (d:=chD c) rfl rfl rfl (by rw[cn,hE "s"];simp) (by simp[hz])]
  rw[Ui cn,cn];simp[vD]
 have lt:qP vs c.1<vs[1]:=""
 rw[show((qP vs c.1)==(vs[1]:Int))=false by rw[px];lia]
 left;have ge:vs.getD (qP vs c.1) []=vs[qP vs c.1]:=by rw[hU,gE lt];rfl
 have lv:=z vs[qP vs c.1] (fH _);rw[VT (ds:=vs.map vD) (k:=qP vs c.1) (xs:=(vs[qP vs c.1]).map chD) (d:=chD c) rfl rfl rfl (by rw[gG,gE lt];rfl) (by rw[gg,hz];lia)]
 left;rw[Uj lt,ge,List.map_set];simp[vD]
def VW:Option Vs->R En
 | some ws=>.ok (.lst (ws.map vD))[9]
 | none=>.stuck
theorem Uk(W0):∀ cs pre vs j2 j3,pre[1]+cs[1]<=100->VOk pre vs->vs[1]<=pre[1]->(∀ x∈pre++cs,1<=x.2.1) ->
  fin ((qD (gV 2) vB (cs.map chD) [W0,!(.od (.lst (vs.map vD))),j2,j3]).th (y9 1 (jw 1)))=VW (run vs cs)
 | [],pre,vs,j2,j3,_,_,_,_=>by
  rfl
 | c::cs,pre,vs,j2,j3,hb,V,hl,pos=>by
  rw[gJ]at hb;show fin ((turn (gV 2) vB _ (vB [W0,!(.od (.lst (vs.map vD))),!(chD c)[8],j3])).th _)=_;rw[qdW V.ne "" (λv hv=>by have:=V.len v hv;lia)]
  unfold run;by_cases c8:qP vs c.1=8
  .rw[if_pos c8,if_pos c8];rfl
  rw[if_neg c8,if_neg c8];refine Uk W0 cs (pre++[c]) (jW vs c) _ _ (by simp;lia) (Uf V λx hx=>pos x (tj _ hx)) ?_ pos[""]
  rw[VU];simp;split<;>lia
def qdX(w)(row)(z:w=.br (.lst (row.map chD))\/w=.fz (.lst (row.map chD)))(B:row[1]<=100)(pos:∀ x∈row,1<=x.2.1):wL [w]=VW (run [] row):=by
 have go:=λW0=>Uk W0 row [] [] none none B[""] Ue (gw _) pos[""]
 unfold wL;rcases z with rfl|rfl
 .simp only[QM];exact go _
 simp only[QM];exact go _
theorem VX{α:Type} [DecidableEq α]:∀{l m:List α},l.Nodup->(∀ x∈l,x∈m)->l[1]<=m[1]
 | [],_,_,_=>tJ _
 | x::l,m,nd,h=>by
  obtain⟨n1,n2⟩:=tF.mp nd;have:=VX (m:=m.erase x) n2 λy hy=>(List.mem_erase_of_ne λe=>n1 (by rw[<- e];exact hy)).mpr (h y (gj _ hy))
  grind
def Ul{κ:Type} [DecidableEq κ]{k x:κ}{kvs:List (κ×D)}(h:x=k\/x∈kvs.map Prod.fst):x∈(qS k d kvs).map Prod.fst:=by
 unfold qS;split
 .rename_i c;rw[h9];have e:(Prod.fst∘λkv=>if kv.1=k then(kv.1,d)else kv)=Prod.fst:=by funext kv;simp[Function.comp];split<;>rfl
  grind
 grind
theorem Um(n):∀ os z,k∈z.map Prod.fst->k∈(seen n os z).map Prod.fst
 | [],_,h=>h
 | o::os,z,h=>by
  refine Um n os _ ?_;split
  .exact Ul (.inr h)
  exact h
theorem Uo(n)(m:meet n o=true):∀ os z,o∈os->JG o∈(seen n os z).map Prod.fst
 | [],_,h=>by simp at h
 | p::os,z,h=>by
  unfold seen;rcases gy.mp h with rfl|h
  .rw[if_pos m];exact Um n os _ (Ul (.inl rfl))
  exact Uo n m os _ h
theorem Up{α:Type}(p:α->Bool):∀{l} {x},x∈l->p x=true->∃ pre n post,l=pre++n::post/\p n=true/\∀ y∈post,p y=false
 | [],_,h,_=>by simp at h
 | a::l,x,h,hx=>by
  by_cases c:∃ y∈l,p y=true
  .obtain⟨y,hy,py⟩:=c;obtain⟨pre,n,post,e,pn,q⟩:=Up p hy py;exact#[a::pre,n,post,by rw[e];rfl,pn,q]
  have no:∀ y∈l,p y=false:=λy hy=>by
   simp_all
  rcases gy.mp h with rfl|h
  .exact#[[],x,l,rfl,hx,no]
  simp_all
def yn(c:Ch):Int×Int:=(c.1,c.2.1)
def VY(q:Int×Int):List (Sum Int Str):=[.inl q.1,.inl q.2]
def atN(t:Int)(n:Nt):Bool:=decide (n.1<=t)&&decide (t<n.1+n.2.1)
def qdY(h:NotesOk ns)(R:RowOk ns row)(t):many row t<=8:=by
 rw[many,List.countP_eq_length_filter];by_cases em:row.filter (at_ t)=[]
 .rw[em];simp
 have B:∀ c∈row.filter (at_ t),∃ p,(c.1,c.2.1,p)∈ns/\c.1<=t/\t<c.1+c.2.1:=λc hc=>by
  obtain⟨h1,h2⟩:=dM.mp hc;have h2:c.1<=t/\t<c.1+c.2.1:=by simpa[at_]using h2
  cases e:c.2.2 with
  | nil=>exact absurd e (R.ne c h1)
  | cons p r=>exact#[p,R.of c h1 p (by rw[e];simp),h2]
 obtain⟨c0,hc0⟩:=List.exists_mem_of_ne_nil _ em;obtain⟨p0,m0,b0⟩:=B c0 hc0;obtain⟨pre,n,post,e,pn,np⟩:=Up (atN t) m0 (by simp[atN];lia)
 have m7:=h.mt pre n post e;have pn:n.1<=t/\t<n.1+n.2.1:=by simpa[atN]using pn
 have nd:((row.filter (at_ t)).map yn).Nodup:=by
  show List.Pairwise _ _;rw[fw];refine(R.up.filter _).imp λ{a b} q z=>?_
  simp[yn]at z;unfold ltC at q;lia
 have O:∀ x∈(((row.filter (at_ t)).map yn).erase (n.1,n.2.1)).map VY,x∈(seen n pre []).map Prod.fst:=λx hx=>by
  obtain⟨q,hq,rfl⟩:=gH.mp hx;have U:=List.mem_of_mem_erase hq;have Y:q≠(n.1,n.2.1):=λz=>by
   grind
  obtain⟨c,hc,rfl⟩:=gH.mp U;obtain⟨p,m,b1,b2⟩:=B c hc;have sp:¬ (c.1=n.1/\c.2.1=n.2.1):=λz=>Y (by simp[yn,z.1,z.2])
  have mp:(c.1,c.2.1,p)∈pre:=by
   rw[e]at m;rcases gC.mp m with m|m
   .exact m
   rcases gy.mp m with z|m
   .exact absurd (by rw[<- z];exact#[rfl,rfl]) sp
   have:=np _ m;simp[atN]at this;lia
  have mt:meet n (c.1,c.2.1,p)=true:=by
   unfold meet;simp only[gZ,decide_eq_true_eq,Bool.not_eq_true',Bool.and_eq_false_iff,px];refine#[#["",""],?_]
   by_cases z:c.1=n.1
   .exact .inr λq=>sp #[z,q]
   exact .inl z
  exact Uo n mt pre [] mp
 have Z:((((row.filter (at_ t)).map yn).erase (n.1,n.2.1)).map VY).Nodup:=by
  show List.Pairwise _ _;rw[fw];refine(List.Nodup.erase _ nd).imp λ{a b} q z=>q ?_
  simp[VY]at z;exact Prod.ext z.1 z.2
 have len:=VX Z O;rw[gg,gg]at len;have ge:((row.filter (at_ t)).map yn)[1]<=(((row.filter (at_ t)).map yn).erase (n.1,n.2.1))[1]+1:=by
  by_cases q:(n.1,n.2.1)∈(row.filter (at_ t)).map yn
  .rw[List.length_erase_of_mem q];lia
  rw[List.erase_of_not_mem q];lia
 rw[gg]at ge;have:(seen n pre [])[1]<=7:=m7;lia
def keysP:List Int:=[112,96,64,56,48,32,28,24,16,14,12,8,7,6,4,3,2,1]
def zG:List Int->Int->List Int
 | [],_=>[]
 | v::vs,l=>List.replicate (l/v).toNat v++zG vs (l%v)
def zf(n:Int):List Int:=zG keysP n
theorem Uq(L0 v)(B:0<v):∀(q z:Nat) row (left:Int),0<=left->left/v=q->q<z->row[1]+q<=1000 ->
  zg (tE (eOp dLe (q9 3) (q9 2))) (qe (qN 1 (q9 3)) (jV 2 qZ (q9 3))) z [!L0[7],!(.lst (row.map D.int))[9],!left[7],!v[7]] =
   .nx [!L0[7],!(.lst ((row++List.replicate q v).map D.int))[9],!(left%v)[7],!v[7]]
 | 0,z+1,row,left,h0,hq,hf,hl=>by
  have lt:left<v:=by
   have:=cx left v;have:=bM left B
   simp_all
  have d:decide (v<=left)=false:=by simp;lia
  unfold zg;simp![d,tX,cA];rw[Int.emod_eq_of_lt h0 lt];simp
 | q+1,z+1,row,left,h0,hq,hf,hl=>by
  have hz:sz=16777216:=rfl;have ge:v<=left:=by
   by_cases g:v<=left
   .exact g
   have:=Int.ediv_eq_zero_of_lt h0 (by lia:left<v)
   lia
  have d:decide (v<=left)=true:=by simpa using ge
  have e1:(left-v)/v=q:=by
   have:=Int.add_mul_ediv_right left (-1) (show v≠0 by lia)
   lia
  have e2:(left-v)%v=left%v:=by
   simp
  have ih:=Uq L0 v B q z (row++[v]) (left-v) "" e1 "" (by simp;lia)
  unfold zg;simp![d];rw[zh (xs:=row.map D.int) (d:=.int v) rfl (by rw[gg,hz];lia) rfl]
  left;rw[tu]at ih;rw[show List.map D.int [v]=[D.int v]from rfl]at ih
  rw[ih,e2];simp[dC]
theorem Ur:∀ vs l,0<=l->(∀ v∈vs,0<v)->((zG vs l)[1])<=l
 | [],l,h,_=>by simpa[zG]using h
 | v::vs,l,h,hv=>by
  have v0:=hv v "s"
  have ih:=Ur vs (l%v) (dW _ "") λx hx=>hv x (by simp[hx])
  have e:=cx l v;have q0:0<=l/v:=bG h ""
  have:l/v<=v*(l/v):=by
   have:=tK (show 1<=v by lia) q0
   lia
  simp[zG];lia
theorem Us(L0):∀ vs z left j3,(∀ v∈vs,0<v)->0<=left->left<=512->(z[1]:Int)+left<=512 ->
  ∃ l' B,qD (gV 3) (wV 520 (tE (eOp dLe (q9 3) (q9 2))) (qe (qN 1 (q9 3)) (jV 2 qZ (q9 3)))) (vs.map D.int) [!L0[7],!(.lst (z.map D.int))[9],!left[7],j3] =
   .nx [!L0[7],!(.lst ((z++zG vs left).map D.int))[9],!l'[7],B]
 | [],z,left,j3,_,_,_,_=>#[left,j3,by simp[qD,zG]]
 | v::vs,z,left,j3,hv,h0,h1,hl=>by
  have v0:=hv v "s"
  have q0:0<=left/v:=bG h0 ""
  have e:=cx left v;have m0:=dW left (show v≠0 by lia)
  have:left/v<=v*(left/v):=by
   have:=tK (show 1<=v by lia) q0
   lia
  obtain⟨q,hq⟩:=pL q0;obtain⟨l',B,ih⟩:=Us L0 vs (z++List.replicate q v) (left%v) (!v[7]) (λx hx=>hv x (by simp[hx])) m0 "" (by simp;lia)
  refine#[l',B,?_];unfold qD;have tn:(left/v).toNat=q:=by rw[hq];rfl
  left;unfold wV at ih ⊢;rw[(Uq L0 v v0 q 520 z left h0 hq "" "")]
  dsimp only;rw[ih];simp[zG,tn]
def Ut(n)(h0:0<=n)(h1:n<=512):uI [.fz n[6]]=.ok (.lst ((zf n).map D.int))[9]:=by
 obtain⟨l',z,e⟩:=Us n keysP [] n none "d" h0 h1 h1[""]
 unfold uI X0;left;rw[show Zz (eC Vp) [!(En.fz (D.int n)),!(En.ow (D.lst [])),!(En.fz (D.int n)),none]=.ok (keysP.map D.int)from rfl]
 left;rw[pY]at e;rw[e];rfl
theorem Uu:∀ vs l,1∈vs->0<=l->(∀ v∈vs,0<v)->(zG vs l).sum=l
 | [],l,h,_,_=>by simp at h
 | v::vs,l,h1,h,hv=>by
  have v0:=hv v "s"
  have zero:∀ ws,(∀ x∈ws,0<x)->(zG ws 0).sum=0:=by
   intro ws
   induction ws with
   | nil=>intro _;rfl
   | cons x ws ih=>intro hx;simp[zG,ih λy hy=>hx y (by simp[hy])]
  have rs:(List.replicate (l/v).toNat v).sum=v*(l/v):=by
   have:∀ k,(List.replicate k v).sum=v*k:=λk=>by
    induction k with
    | zero=>simp
    | succ k ih=>rw[dC,pN,ih];push_cast;rw[Int.mul_add];lia
   rw[this,Int.toNat_of_nonneg (bG h "")]
  rw[zG,bF,rs];rcases gy.mp h1 with g|g
  .subst g
   simp_all
  rw[Uu vs (l%v) g (dW _ "") λx hx=>hv x (by simp[hx])]
  exact(cx l v)
theorem Uv:∀ vs l,(∀ v∈vs,0<v)->∀ x∈zG vs l,0<x
 | [],l,_,x,hx=>by simp[zG]at hx
 | v::vs,l,hv,x,hx=>by
  rcases gC.mp hx with hx|hx
  .simp_all
  exact Uv vs _ (λy hy=>hv y (by simp[hy])) x hx
def JJ(n)(h:0<=n):(zf n).sum=n:=Uu keysP n "d" h "d"
def VZ(n):∀ x∈zf n,0<x:=Uv keysP n "d"
def kj(n)(h:0<=n):((zf n)[1])<=n:=Ur keysP n h "d"
inductive Ev where
 | rest (v:Int)
 | note (v:Int) (ps:List Int) (tied:Bool)
def evD:Ev->D
 | .rest v=>.tup [.str "rest",.int v]
 | .note v ps t=>.tup [.str "note",.int v,.tup (ps.map D.int),.bl t]
def cend(c:Ch):Int:=c.1+c.2.1
def jC(n:Int):List Ev:=(zf n).map .rest
def zi(c:Ch):Int->List Int->List Ev
 | _,[]=>[]
 | t,v::vs=>.note v c.2.2 (decide (t+v<cend c))::zi c (t+v) vs
def vf(c:Ch)(z B:Int):List Ev:=zi c z (zf (B-z))
theorem JK(c):∀ vs t,(zi c t vs)[1]=vs[1]
 | [],_=>rfl
 | v::vs,t=>by simp[zi,JK c vs]
def Uw(c):zF [.fz (chD c)]=.ok (cend c)[7]:=by
 rfl
def qdZ:D->D
 | .int v=>evD (.rest v)
 | _=>.non
def Ux(n)(h0:0<=n)(h1:n<=512):xn [.fz n[6]]=.ok (.lst ((jC n).map evD))[9]:=by
 have hz:sz=16777216:=rfl;have pl:=kj n h0;unfold xn Xg;left;rw[yI (ys:=(jC n).map evD) (vQ (by simp![Ut n h0 h1]) rfl) (by rw[gg,hz];lia) (by
  rw[kO 1 qdZ ((zf n).map D.int) _ λd hd=>?_]
  .rw[jC,h9,h9];rfl
  obtain⟨v,_,rfl⟩:=gH.mp hd;refine#[.fz (evD (.rest v)),?_,rfl];simp![qR,evD])]
 left
def qe0(c)(first behind)(h0:0<=behind-first)(h1:behind-first<=512):xo [.fz (chD c),.fz first[6],.fz behind[6]]=.ok (.lst ((vf c first behind).map evD))[9]:=by
 have hz:sz=16777216:=rfl;have pl:=kj (behind-first) h0
 unfold xo Xh;simp![Uw];rw[vQ (by simp![Ut _ h0 h1]) rfl]
 have go:∀ vs z t j6,z[1]+vs[1]<=1000 ->
   fin ((qD (gV 6) (qe (jV 5 zL (q9 6)) (qN 4 (ju [(eC (.str "note")),(q9 6),(eOp qc (q9 0) 2[5]),(eOp dLt (q9 5) (q9 3))]))) (vs.map D.int)
    [!(chD c)[8],!first[7],!behind[7],!(cend c)[7],!(.lst (z.map evD))[9],!t[7],j6]).th (jw 4))=.ok (.lst ((z++zi c t vs).map evD))[9]:=by
  intro vs
  induction vs with
  | nil=>intro z t j6 _;simp[zi];rfl
  | cons v vs ih =>
   intro z t j6 hb;rw[gJ]at hb;unfold qD;left;rw[zh (xs:=z.map evD) (d:=evD (.note v c.2.2 (decide (t+v<cend c)))) rfl (by rw[gg];lia) (by simp![chD,evD])]
   have:=ih (z++[.note v c.2.2 (decide (t+v<cend c))]) (t+v) (!v[7]) (by simp;lia)
   rw[zi];simpa using this
 have:=go (zf (behind-first)) [] first none (by simp;lia)
 assumption
def jT(b e:Int)(S:List Ev×Int)(c:Ch):List Ev×Int :=
 if (if b>c.1 then b else c.1)<(if e<cend c then e else cend c)then
  ((S.1++jC ((if b>c.1 then b else c.1)-S.2))++vf c (if b>c.1 then b else c.1) (if e<cend c then e else cend c),if e<cend c then e else cend c)
 else S
def Q4(v:List Ch)(b e:Int):List Ev×Int:=v.foldl (jT b e) ([],b)
def zy(v:List Ch)(b e:Int):List Ev:=(Q4 v b e).1++jC (e-(Q4 v b e).2)
structure Vo(v:List Ch):Prop where
 up:v.Pairwise λa b=>cend a<=b.1
 b:∀ c∈v,0<=c.1/\1<=c.2.1/\cend c<=1400
abbrev Wk:=List Ch×Int×Option (Int×List Int)
def vh:Wk->Ev->Option Wk
 | (told,t,none),.rest v=>!(told,t+v,none)
 | (_,_,!_),.rest _=>none
 | (told,t,none),.note v ps tied=>if tied then !(told,t+v,!(t,ps))else !(told++[(t,t+v-t,ps)],t+v,none)
 | (told,t,!g),.note v ps tied=>if ps=g.2 then(if tied then !(told,t+v,!g)else !(told++[(g.1,t+v-g.1,ps)],t+v,none))else none
def jE:List Ev->Wk->Option Wk
 | [],S=>!S
 | e::es,S=>(vh S e).bind (jE es)
theorem Q5:∀ a b S,jE (a++b) S=(jE a S).bind (jE b)
 | [],b,S=>rfl
 | e::a,b,S=>by
  show(vh S e).bind (jE (a++b))=((vh S e).bind (jE a)).bind (jE b);cases vh S e with
  | none=>rfl
  | some S'=>exact Q5 a b S'
theorem W1:∀(vs:List Int) told t,jE (vs.map .rest) (told,t,none)=!(told,t+vs.sum,none)
 | [],told,t=>by simp[jE]
 | v::vs,told,t=>by
  show jE (vs.map .rest) (told,t+v,none)=_;rw[W1 vs told (t+v),pN,Int.add_assoc]
theorem Uy:∀(vs:List Int),(∀ x∈vs,0<x)->vs≠[]->0<vs.sum
 | [],_,h=>absurd rfl h
 | [v],hp,_=>by simpa using hp v "s"
 | v::w::vs,hp,_=>by
  have h1:=hp v "s"
  have h2:=Uy (w::vs) (λx hx=>hp x (by simp[hx])) "s"
  rw[pN];lia
theorem Uz(c):∀ vs z t go,vs≠[]->(∀ x∈vs,0<x)->(go=none/\t=c.1\/go=!(c.1,c.2.2))->t+vs.sum<=cend c ->
  jE (zi c t vs) (z,t,go)=if t+vs.sum=cend c then !(z++[c],cend c,none)else !(z,t+vs.sum,!(c.1,c.2.2))
 | [],_,_,_,h,_,_,_=>absurd rfl h
 | [v],z,t,go,_,hp,hg,hs=>by
  simp[pN,List.sum_nil,Int.add_zero]at hs ⊢;have ec:cend c-c.1=c.2.1:=by unfold cend;lia
  by_cases g:t+v=cend c
  .rw[if_pos g];have d:decide (t+v<cend c)=false:=by simp;lia
   rcases hg with⟨rfl,rfl⟩|rfl
   .simp only[zi,jE,vh,d,tX,cA,pW];rw[g,ec]
   simp only[zi,jE,vh,d,tX,cA,dB,pW];rw[g,ec]
  rw[if_neg g];have d:decide (t+v<cend c)=true:=by simp;lia
  rcases hg with⟨rfl,rfl⟩|rfl
  .simp[zi,jE,vh,d,dB,pW]
  simp[zi,jE,vh,d,dB,pW]
 | v::w::vs,z,t,go,_,hp,hg,hs=>by
  have p1:=Uy (w::vs) (λx hx=>hp x (by simp[hx])) "s"
  rw[pN]at hs ⊢;have d:decide (t+v<cend c)=true:=by simp;lia
  have ih:=Uz c (w::vs) z (t+v) (!(c.1,c.2.2)) "s" (λx hx=>hp x (by simp[hx])) (.inr rfl) ""
  rw[<- Int.add_assoc];rw[zi];rcases hg with⟨rfl,rfl⟩|rfl
  .simp[jE,vh,d,dB,pW];exact ih
  simp[jE,vh,d,dB,pW];exact ih
def km(v:List Ch)(t:Int):List Ch:=v.filter λc=>decide (cend c<=t)
def vS(v:List Ch)(t:Int):Option (Int×List Int):=(v.find? λc=>decide (c.1<t)&&decide (t<cend c)).map λc=>(c.1,c.2.2)
def W(v:List Ch)(t:Int):Wk:=(km v t,t,vS v t)
def UA(V:Vo v){f g:Int}(fg:f<=g)(h:∀ x∈v,cend x<=f\/g<=x.1):km v g=km v f/\vS v f=none/\vS v g=none:=by
 refine#[List.filter_congr λx hx=>?_,?_,?_]
 .have:=h x hx;have:=(V.b x hx).2.1;unfold cend at *;lia
 .unfold vS;rw[cy.mpr]
  .rfl
  intro x hx
  grind
 unfold vS;rw[cy.mpr]
 .rfl
 intro x hx
 grind
def UB{c:Ch}(V:Vo (pre++c::post)){t:Int}(h1:c.1<=t)(h2:t<cend c):km (pre++c::post) t=pre/\vS (pre++c::post) t=if c.1<t then !(c.1,c.2.2)else none:=by
 have up:=gU.mp V.up;have B:∀ x∈pre,cend x<=c.1:=λx hx=>up.2.2 x hx c "s"
 have z:∀ x∈post,cend c<=x.1:=λx hx=>(fF.mp up.2.1).1 x hx
 have U:pre.filter (λc=>decide (cend c<=t))=pre:=dF.mpr λx hx=>by have:=B x hx;simp;lia
 have O:post.filter (λc=>decide (cend c<=t))=[]:=fQ.mpr λx hx=>by
  have:=z x hx;have:=(V.b x (by simp[hx])).2.1
  unfold cend at *;simp;lia
 refine#[?_,?_]
 .unfold km;rw[cw,U,pK (by simp;lia),O,tQ]
 unfold vS;have n1:pre.find? (λc=>decide (c.1<t)&&decide (t<cend c))=none:=cy.mpr λx hx=>by have:=B x hx;simp;lia
 rw[List.find?_append,n1];by_cases g:c.1<t
 .simp_all
 rw[if_neg g,b7 (by simp;lia),cy.mpr]
 .rfl
 intro x hx;have:=z x hx;simp;lia
def qe1(V:Vo (pre++c::post)):km (pre++c::post) (cend c)=pre++[c]/\vS (pre++c::post) (cend c)=none:=by
 have up:=gU.mp V.up;have bc:=V.b c "s"
 have O:=λx hx=>up.2.2 x hx c "s"
 have z:∀ x∈post,cend c<=x.1:=λx hx=>(fF.mp up.2.1).1 x hx
 have lc:c.1<cend c:=by unfold cend;lia
 have U:pre.filter (λx=>decide (cend x<=cend c))=pre:=dF.mpr λx hx=>by have:=O x hx;simp;lia
 have B:post.filter (λx=>decide (cend x<=cend c))=[]:=fQ.mpr λx hx=>by
  have h1:=z x hx;have h2:=(V.b x (by simp[hx])).2.1
  have:x.1<cend x:=by unfold cend;lia
  simp;lia
 refine#[?_,?_]
 .unfold km;rw[cw,U,fm "s",B]
 unfold vS;rw[cy.mpr]
 .rfl
 grind
structure BarI(v pre:List Ch)(b e:Int)(S:List Ev×Int):Prop where
 lo:b<=S.2
 hi:S.2<=e
 done:∀ x∈pre,cend x<=S.2\/e<=x.1\/S.2=e
 from_:S.2=b\/∃ x∈pre,S.2<=cend x
 len:(S.1.length:Int)<=S.2-b
 wk:jE S.1 (W v b)=!(W v S.2)
def qe2:zf 0=[]:=by decide
def UC{c:Ch}{b e B O:Int}{S:List Ev×Int}(V:Vo v)(ev:v=pre++c::post)(I:BarI v pre b e S)
  (hf:B=b/\c.1<b\/B=c.1/\b<=c.1)(hb:O=e/\e<cend c\/O=cend c/\cend c<=e)(act:B<O) :
  BarI v (pre++[c]) b e ((S.1++jC (B-S.2))++vf c B O,O)/\S.2<=B/\O<=e:=by
 have V':=V;rw[ev]at V';have up:=gU.mp V'.up;have Y:∀ x∈pre,cend x<=c.1:=λx hx=>up.2.2 x hx c "s"
 have Z:∀ x∈post,cend c<=x.1:=λx hx=>(fF.mp up.2.1).1 x hx
 have bc:=V'.b c "s"
 have lc:c.1<cend c:=by unfold cend;lia
 have lo:=I.lo;have hi:=I.hi;have ce:c.1<e:=""
 have h3:S.2≠e:=λz=>by
  rcases I.from_ with q|⟨x,hx,q⟩
  .lia
  have:=Y x hx;lia
 have U:∀ x∈pre,cend x<=S.2:=λx hx=>by
  rcases I.done x hx with q|q|q
  .exact q
  .have h1:=Y x hx;have h2:=(V'.b x (by simp[hx])).2.1
   have:x.1<cend x:=by unfold cend;lia
   lia
  exact absurd q h3
 have fle:S.2<=B:=by
  rcases I.from_ with q|⟨x,hx,q⟩
  .lia
  have:=Y x hx;lia
 have w1:jE (jC (B-S.2)) (W v S.2)=!(W v B):=by
  by_cases z:B=S.2
  .have:B-S.2=0:=""
   rw[this,jC,qe2,z];rfl
  have fc:B=c.1:=""
  obtain⟨g1,g2,g3⟩:=UA (v:=v) (f:=S.2) (g:=B) V fle (λx hx=>by
   rw[ev]at hx;rcases gC.mp hx with hx|hx
   .exact .inl (U x hx)
   rcases gy.mp hx with rfl|hx
   .exact .inr ""
   have:=Z x hx;exact .inr "")
  unfold W;rw[g2,jC,W1,JJ _ "",g1,g3]
  congr 3;lia
 have np:zf (O-B)≠[]:=λz=>by
  have:=JJ (O-B) ""
  rw[z]at this;simp at this;lia
 have ps:=JJ (O-B) ""
 have w2:jE (vf c B O) (W v B)=!(W v O):=by
  obtain⟨a1,a2⟩:=UB V' (t:=B) "" ""
  have wn:=Uz c (zf (O-B)) pre B (vS v B) np (VZ _) (by
   rw[ev,a2];by_cases g:c.1<B
   .rw[if_pos g];exact .inr rfl
   rw[if_neg g];exact .inl #[rfl,""]) ""
  rw[ps,show B+(O-B)=O by lia]at wn
  have eW:W v B=(pre,B,vS v B):=by unfold W;rw[ev,a1]
  rw[eW,vf,wn];by_cases g:O=cend c
  .rw[if_pos g];obtain⟨b1,b2⟩:=qe1 V';unfold W;rw[g,ev,b1,b2]
  rw[if_neg g];obtain⟨b1,b2⟩:=UB V' (t:=O) "" ""
  unfold W;rw[ev,b1,b2,if_pos ""]
 refine#[#[by dsimp only;lia,by dsimp only;lia,λx hx=>?_,?_,?_,?_],fle,""]
 .dsimp only;rcases gC.mp hx with hx|hx
  .exact .inl (by have:=U x hx;lia)
  simp at hx;subst hx;rcases hb with⟨h1,h2⟩|⟨h1,h2⟩
  .exact .inr (.inr h1)
  exact .inl ""
 .exact .inr #[c,by simp,by dsimp only;lia]
 .have l1:=kj (B-S.2) ""
  have l2:=kj (O-B) ""
  have l3:=I.len;dsimp only;rw[gD,gD,jC,gg,vf,JK];lia
 dsimp only;rw[Q5,Q5,I.wk];show((jE (jC (B-S.2)) (W v S.2)).bind _)=_
 rw[w1];exact w2
def qe3{b e B z:Int}(I:BarI v pre b e S)
  (U:B=b/\c.1<b\/B=c.1/\b<=c.1)(Y:z=e/\e<cend c\/z=cend c/\cend c<=e)(Z:b<e)(lc:c.1<cend c)(O:¬ B<z):BarI v (pre++[c]) b e S:=by
 have lo:=I.lo;refine#[I.lo,I.hi,λx hx=>?_,?_,I.len,I.wk]
 .rcases gC.mp hx with hx|hx
  .exact I.done x hx
  grind
 rcases I.from_ with q|⟨x,hx,q⟩
 .exact .inl q
 exact .inr #[x,by simp[hx],q]
def W2(b)(c:Ch):(if b>c.1 then b else c.1)=b/\c.1<b\/(if b>c.1 then b else c.1)=c.1/\b<=c.1:=by
 by_cases h:b>c.1
 .rw[if_pos h];exact .inl #[rfl,h]
 rw[if_neg h];exact .inr #[rfl,""]
def W3(e)(c):(if e<cend c then e else cend c)=e/\e<cend c\/(if e<cend c then e else cend c)=cend c/\cend c<=e:=by
 by_cases h:e<cend c
 .rw[if_pos h];exact .inl #[rfl,h]
 rw[if_neg h];exact .inr #[rfl,""]
def UD{b e:Int}(V:Vo v)(B:b<e)(z:v=pre++c::post)(I:BarI v pre b e S):BarI v (pre++[c]) b e (jT b e S c):=by
 have bc:=V.b c (by rw[z];simp)
 unfold jT;by_cases act:(if b>c.1 then b else c.1)<(if e<cend c then e else cend c)
 .rw[if_pos act];exact(UC V z I (W2 b c) (W3 e c) act).1
 rw[if_neg act];exact qe3 I (W2 b c) (W3 e c) B (by unfold cend;lia) act
theorem W4(V:Vo v)(z:b<e):∀ post pre S,v=pre++post->BarI v pre b e S->BarI v v b e (post.foldl (jT b e) S)
 | [],pre,S,ev,I=>by rw[tQ]at ev;subst ev;exact I
 | c::post,pre,S,ev,I=>by
  exact W4 V z post (pre++[c]) _ (by rw[ev];simp) (UD V z ev I)
def W5{b e:Int}(z:b<e):BarI v [] b e ([],b):=#[by dsimp only;lia,by dsimp only;lia,λx hx=>by simp at hx,.inl rfl,by simp,rfl]
def qe4(V:Vo v)(z:b<e)(i):BarI v (v.take i) b e ((v.take i).foldl (jT b e) ([],b)):=by
 have go:∀ post pre S rest,v=pre++post++rest->BarI v pre b e S->BarI v (pre++post) b e (post.foldl (jT b e) S):=by
  intro post
  induction post with
  | nil=>intro pre S rest _ I;simpa using I
  | cons c post ih =>
   intro pre S rest ev I;have:=ih (pre++[c]) (jT b e S c) rest (by rw[ev];simp) (UD V z (post:=post++rest) (by rw[ev];simp) I)
   simpa using this
 have:=go (v.take i) [] ([],b) (v.drop i) "s" (W5 z)
 simpa using this
def UE(V:Vo v)(B:b<e):jE (zy v b e) (W v b)=!(W v e):=by
 have I:=W4 V B v [] ([],b) rfl (W5 B);unfold zy Q4;rw[Q5,I.wk];show jE (jC (e-(v.foldl (jT b e) ([],b)).2)) (W v (v.foldl (jT b e) ([],b)).2)=_;have lo:=I.lo;have hi:=I.hi;have dn:=I.done;generalize (v.foldl (jT b e) ([],b)).2=f at lo hi dn;by_cases z:f=e
 .subst z;rw[Int.sub_self];rfl
 obtain⟨g1,g2,g3⟩:=UA V hi (λx hx=>by
  rcases dn x hx with q|q|q
  .exact .inl q
  .exact .inr q
  exact absurd q z)
 unfold W;rw[g2,jC,W1,JJ _ "",g1,g3]
 lia
def qe5(v)(V:Vo v)(b e)(B:b<e)(Y:e-b<=512):uU [.fz (.lst (v.map chD)),.fz b[6],.fz e[6]]=.ok (.lst ((zy v b e).map evD))[9]:=by
 have hz:sz=16777216:=rfl;unfold uU Xw;left;rw[ZN (ds:=v.map chD) rfl];left;obtain⟨ρ,er,j5,j6,j7,z⟩:=wE (v.map chD) (λi ρ=>∃ j5 j6 j7,ρ=[!(.lst (v.map chD))[8],!b[7],!e[7],!(.lst ((((v.take i).foldl (jT b e) ([],b)).1).map evD))[9],!(.int ((v.take i).foldl (jT b e) ([],b)).2)[8],j5,j6,j7])
  (g:=gV 5) (b:=qe (qj 6 (eB ub [(eOp qc (q9 5) 0[5]),(q9 1)])) (qe (qj 7 (eB xR [(qg zF [(q9 5)]),(q9 2)])) (sIf (tE (eOp dLt (q9 6) (q9 7))) (qe (vG 3 (qg xn [(eOp qZ (q9 6) (q9 4))])) (qe (vG 3 (qg xo [(q9 5),(q9 6),(q9 7)])) (qj 4 (q9 7)))) qu)))
  (ρ:=[!(.lst (v.map chD))[8],!b[7],!e[7],!(.lst [])[9],!b[7],none,none,none]) #[none,none,none,rfl] (λi x ρ hx #[j5,j6,j7,z]=>by
   subst z;rw[gG]at hx;cases ec:v[i]? with
   | none=>rw[ec]at hx;cases hx
   | some c =>
    rw[ec]at hx;cases hx;have hi:i<v[1]:=(gp.mp ec).1;have O:v=v.take i++c::v.drop (i+1):=by
     rw[gE hi]at ec;cases ec;simp
    have tk:v.take (i+1)=v.take i++[c]:=by rw[List.take_succ,ec];rfl
    have I:=qe4 V B i;have ee:zF [.fz (.tup [.int c.1,.int c.2.1,.tup (c.2.2.map D.int)])]=.ok (cend c)[7]:=Uw c;rw[tk,List.foldl_append];generalize (v.take i).foldl (jT b e) ([],b)=S at I;have le:=I.len;refine#[_,_,rfl,.inl ?_,!(chD c)[8],!(if b>c.1 then b else c.1)[7],!(if e<cend c then e else cend c)[7],rfl]
    simp![chD,ee,p9,List.foldl_nil];unfold jT;by_cases act:(if b>c.1 then b else c.1)<(if e<cend c then e else cend c)
    .obtain⟨I2,a1,a2⟩:=UC V O I (W2 b c) (W3 e c) act;rw[if_pos act];have d:decide ((if b>c.1 then b else c.1)<(if e<cend c then e else cend c))=true:=by simpa using act
     rw[d];generalize (if b>c.1 then b else c.1)=first at *
     generalize (if e<cend c then e else cend c)=behind at *
     have l1:=kj (first-S.2) ""
     have l2:=kj (behind-first) ""
     have r1:=Ux (first-S.2) "" ""
     have r2:=qe0 c first behind "" ""
     left;rw[QV (xs:=S.1.map evD) (ys:=(jC (first-S.2)).map evD) rfl (by simp![r1]) (by rw[gg,gg,jC,gg,hz];lia)]
     left;rw[QV (xs:=S.1.map evD++(jC (first-S.2)).map evD) (ys:=(vf c first behind).map evD) rfl (by
      have U:xo [.fz (.tup [.int c.1,.int c.2.1,.tup (c.2.2.map D.int)]),.fz first[6],.fz behind[6]]=_:=r2
      simp![U]) (by rw[gD,gg,gg,gg,jC,gg,vf,JK,hz];lia)]
     simp![tu,chD]
    rw[if_neg act];have d:decide ((if b>c.1 then b else c.1)<(if e<cend c then e else cend c))=false:=by simpa using act
    rw[d];simp![chD])
 rw[er];subst z;rw[gg,dz];have I:=W4 V B v [] ([],b) rfl (W5 B);have lo:=I.lo;have hi:=I.hi;have le:=I.len;unfold zy Q4;generalize v.foldl (jT b e) ([],b)=S at lo hi le;have l1:=kj (e-S.2) ""
 have r1:=Ux (e-S.2) "" ""
 left;rw[QV (xs:=S.1.map evD) (ys:=(jC (e-S.2)).map evD) rfl (by simp![r1]) (by rw[gg,gg,jC,gg,hz];lia)]
 simp![tu]
def UF:dEq (.str "rest") (.str "note")=.ok (.bl false)[8]:=by kernel_rfl
def UG:dEq (.str "note") (.str "note")=.ok (.bl true)[8]:=by kernel_rfl
def qe6{ρ:Rho}{e:EF}(h:e ρ=.ok (.od (.lst ds)))(z:vH i ρ=true):uA i e ρ=.nx (ρ.set i (!(.od (.lst ds)))):=by
 unfold uA;rw[h];show uz i ρ (.od (.lst ds))=_;unfold uz;dsimp only;rw[if_pos z]
def qe7(ad)(i)(f)(ds)(ρ)(h:∀ d∈ds,∃ w,e (ρ.set i (!d[8]))=.ok w/\ad w=.ok (f d)):zo ad (gV i) qI e ds ρ=.ok (ds.map f):=kO i f ds ρ h
def qe8{ad:En->R D}{mk:List D->D}{n:Nat}{it:IF}{ds ys:List D}(h:it ρ=.ok ds)(z:ds[1]<=sz)(h2:zo ad gf qI e ds (qR n ρ)=.ok ys):V4 ad mk n it gf e ρ=.ok (.od (mk ys)):=YA h z h2
def PsOk(ps:List Int):Prop:=ps≠[]/\ps[1]<=24/\(∀ p∈ps,0<=p/\p<=127)/\ps.Pairwise (· < ·)
def pv:Ev->Int
 | .rest v=>v
 | .note v _ _=>v
def PeOk:Ev->Prop
 | .rest v=>1<=v
 | .note v ps _=>1<=v/\PsOk ps
def TieB:Option (List Int)->List Ev->Option (List Int)->Prop
 | g,[],g'=>g'=g
 | g,.rest _::r,g'=>g=none/\TieB none r g'
 | g,.note _ ps t::r,g'=>(g=none\/g=!ps)/\TieB (if t then !ps else none) r g'
theorem W6:∀ es S S',jE es S=!S'->TieB (S.2.2.map Prod.snd) es (S'.2.2.map Prod.snd)/\S'.2.1=S.2.1+(es.map pv).sum
 | [],S,S',h=>by cases h;exact#[rfl,by simp]
 | e::es,(told,t,g),S',h=>by
  have h:(vh (told,t,g) e).bind (jE es)=!S':=h;have sm:∀ x,x+((e::es).map pv).sum=x+pv e+(es.map pv).sum:=λx=>by rw[gN,pN];lia
  have key:∀ T,vh (told,t,g) e=!T->TieB (T.2.2.map Prod.snd) es (S'.2.2.map Prod.snd)/\S'.2.1=T.2.1+(es.map pv).sum:=λT hT=>by
   rw[hT]at h;exact W6 es T S' h
  rw[sm];cases e with
  | rest v =>
   cases g with
   | none=>obtain⟨a,b⟩:=key _ rfl;exact#[#[rfl,a],b]
   | some g=>cases h
  | note v ps d =>
   cases g with
   | none =>
    cases d
    .obtain⟨a,b⟩:=key _ rfl;exact#[#[.inl rfl,a],b]
    obtain⟨a,b⟩:=key _ rfl;exact#[#[.inl rfl,a],b]
   | some g =>
    by_cases c:ps=g.2
    .have w:vh (told,t,!g) (.note v ps d)=(if d then !(told,t+v,!g)else !(told++[(g.1,t+v-g.1,ps)],t+v,none)):=if_pos c
     cases d
     .obtain⟨a,b⟩:=key _ w;exact#[#[.inr (congrArg some c.symm),a],b]
     obtain⟨a,b⟩:=key _ w;subst c;exact#[#[.inr rfl,a],b]
    rw[show vh (told,t,!g) (.note v ps d)=none from if_neg c]at h
    cases h
def hcE:Ev->Nat
 | .rest _=>0
 | .note _ ps _=>ps[1]
def hcR(es:List Ev):Nat:=(es.map hcE).sum
def W7(a b):hcR (a++b)=hcR a+hcR b:=by unfold hcR;rw[tu,bF]
def UH(n):hcR (jC n)=0:=by
 unfold jC
 induction zf n with
 | nil=>rfl
 | cons x l ih=>exact(pP _).trans ih
theorem UI(c):∀ vs t,hcR (zi c t vs)=vs[1]*c.2.2.length
 | [],t=>by simp[zi,hcR]
 | v::vs,t=>by
  have:=UI c vs (t+v);show c.2.2.length+hcR (zi c (t+v) vs)=_;rw[this,gJ,Nat.succ_mul];lia
def qe9:((List.range 513).all λn=>decide ((zf n)[1]<=if n<=96 then 4 else 8))=true:=by decide +kernel
def JM(L)(p)(h:(L<=96/\p=4)\/(L<=512/\p=8))(n)(h0:0<=n)(h1:n<=L):(zf n)[1]<=p:=by
 obtain⟨m,rfl⟩:=pL h0;have:=tW.mp qe9 m (dm.mpr "")
 lia
def UJ(n)(h:n<=512):(zf n)[1]<=8:=by
 by_cases c:0<=n
 .exact JM 512 8 (.inr #["",rfl]) n c h
 have e:zf n=zf (n%112):=by
  show List.replicate (n/112).toNat 112++zG _ (n%112)=List.replicate (n%112/112).toNat 112++zG _ (n%112%112)
  grind
 rw[e];exact JM 512 8 (.inr #["",rfl]) _ "" ""
def UK(b e L)(p)(hp:∀ n,0<=n->n<=L->(zf n)[1]<=p)(B:e-b<=L)(O:L<=512):∀ v,(∀ c∈v,PsOk c.2.2)->((∀ x∈zy v b e,PeOk x)/\(zy v b e)[1]<=16*v[1]+8)/\hcR (zy v b e)<=p*jq v:=by
 have rs:∀ n,∀ x∈jC n,PeOk x:=λn x hx=>by
  obtain⟨y,hy,z⟩:=gH.mp hx;subst z;have:=VZ n y hy;show 1<=y;lia
 have rl:∀ n,n<=512->(jC n)[1]<=8:=λn h=>by unfold jC;rw[gg];exact UJ n h
 have nt:∀ c,PsOk c.2.2->∀ vs t,(∀ v∈vs,0<v)->∀ x∈zi c t vs,PeOk x:=by
  intro c hc vs
  induction vs with
  | nil=>intro t _ x hx;simp[zi]at hx
  | cons v vs ih =>
   intro t h x hx;rcases gy.mp hx with z|z
   .subst z;have:=h v "s"
    exact#["",hc]
   exact ih (t+v) (λy hy=>h y (gj _ hy)) x z
 have go:∀ v S,(∀ c∈v,PsOk c.2.2)->(∀ x∈S.1,PeOk x)->b<=S.2->((∀ x∈(v.foldl (jT b e) S).1,PeOk x)/\(v.foldl (jT b e) S).1.length<=S.1.length+16*v[1]/\b<=(v.foldl (jT b e) S).2)/\hcR (v.foldl (jT b e) S).1<=hcR S.1+p*jq v:=by
  intro v
  induction v with
  | nil=>intro S _ h h2;exact#[#[h,by simp,h2],by simp]
  | cons c v ih =>
   intro S hc h h2;have tc:p*jq (c::v)=p*c.2.2.length+p*jq v:=by
    show p*(c.2.2.length+jq v)=_;rw[Nat.mul_add]
   rw[p9,tc,gJ];have hv:∀ c∈v,PsOk c.2.2:=λx hx=>hc x (gj _ hx)
   by_cases g:(if b>c.1 then b else c.1)<(if e<cend c then e else cend c)
   .have st:jT b e S c=((S.1++jC ((if b>c.1 then b else c.1)-S.2))++vf c (if b>c.1 then b else c.1) (if e<cend c then e else cend c),if e<cend c then e else cend c):=if_pos g
    rw[st];generalize hf:(if b>c.1 then b else c.1)=f at *
    generalize hk:(if e<cend c then e else cend c)=k at *
    have fb:b<=f:=by rw[<- hf];split<;>lia
    have ke:k<=e:=by rw[<- hk];split<;>lia
    have l1:=rl (f-S.2) ""
    have l2:=UJ (k-f) ""
    obtain⟨⟨a,a2,a3⟩,d⟩:=ih ((S.1++jC (f-S.2))++vf c f k,k) hv (λx hx=>by
     rcases gC.mp hx with z|z
     .rcases gC.mp z with z|z
      .exact h x z
      exact rs _ x z
     exact nt c (hc c "s") _ _ (VZ _) x z) (show b<=k by lia)
    refine#[#[a,f8 a2 ?_,a3],f8 d ?_]
    .show((S.1++jC (f-S.2))++vf c f k)[1]+_<=_;rw[gD,gD,vf,JK];lia
    show hcR ((S.1++jC (f-S.2))++vf c f k)+_<=_;rw[W7,W7,UH,vf,UI];have:=Nat.mul_le_mul_right c.2.2.length (hp (k-f) "" "")
    lia
   rw[show jT b e S c=S from if_neg g]
   obtain⟨⟨a,a2,a3⟩,d⟩:=ih S hv h h2;exact#[#[a,"",a3],""]
 intro v hv;obtain⟨⟨a,a2,a3⟩,d⟩:=go v ([],b) hv (λx hx=>by simp at hx) (pI b)
 unfold zy Q4;refine#[#[λx hx=>?_,?_],?_]
 .rcases gC.mp hx with z|z
  .exact a x z
  exact rs _ x z
 .have:=rl (e-(v.foldl (jT b e) ([],b)).2) ""
  rw[gD];simp at a2;lia
 rw[W7,UH];have z:hcR ([],b).1=0:=rfl;rw[z]at d;lia
def xC(a b):jq (a++b)=jq a+jq b:=by unfold jq;rw[tu,bF]
theorem UL:∀ vs c,jq (jW vs c).flatten=jq vs.flatten+c.2.2.length
 | [],c=>by simp[jW,jq]
 | v::vs,c=>by
  unfold jW;split
  .rw[tS,tS,xC,xC,xC];simp[jq];lia
  rw[tS,tS,xC,xC,UL vs c];lia
theorem UM:∀ cs vs ws,run vs cs=!ws->jq ws.flatten=jq vs.flatten+jq cs
 | [],vs,ws,h=>by cases h;simp[jq]
 | c::cs,vs,ws,h=>by
  unfold run at h;by_cases g:qP vs c.1=8
  .simp_all
  rw[if_neg g]at h;rw[UM cs _ ws h,UL];show _=_+(c.2.2.length+jq cs);lia
theorem UN(b e L)(p)(hp:∀ n,0<=n->n<=L->(zf n)[1]<=p)(z:e-b<=L)(B:L<=512):∀(vs:Vs),(∀ v∈vs,∀ c∈v,PsOk c.2.2)->((vs.map λv=>hcR (zy v b e)).sum)<=p*jq vs.flatten
 | [],_=>by simp
 | v::vs,h=>by
  have a:=(UK b e L p hp z B v (h v "s")).2
  have d:=UN b e L p hp z B vs λw hw=>h w (gj _ hw)
  rw[gN,pN,tS,xC];lia
def PRow(r:List Ev):Prop:=(∀ e∈r,PeOk e)/\r[1]<=500/\1<=r[1]
def rwD(r:List Ev):D:=.lst (r.map evD)
def brD(z:List (List Ev)):D:=.lst (z.map rwD)
def yo(F:List (List (List Ev)))(u:Nat):List (List Ev):=F.map λz=>z.getD u []
theorem W8:∀ r1 r2 g g2,TieB g (r1++r2) g2->∃ g1,TieB g r1 g1/\TieB g1 r2 g2
 | [],_,g,_,h=>#[g,rfl,h]
 | .rest _::r1,r2,g,g2,h=>by
  obtain⟨g1,a,b⟩:=W8 r1 r2 _ g2 h.2;exact#[g1,#[h.1,a],b]
 | .note _ ps t::r1,r2,g,g2,h=>by
  obtain⟨g1,a,b⟩:=W8 r1 r2 _ g2 h.2;exact#[g1,#[h.1,a],b]
def UO{t:TF}{n:Nat}(h:t ρ=.ok false):zg t b (n+1) ρ=.nx ρ:=by
 unfold zg;rw[h];rfl
def UP{t:TF}{b:SF}{n:Nat}(h:t ρ=.ok true)(h2:b ρ=.nx ρ2):zg t b (n+1) ρ=zg t b n ρ2:=by
 show sOf (t ρ) (λc=>if c=true then(match b ρ with|.nx ρ2=>zg t b n ρ2|.ct ρ2=>zg t b n ρ2|.bk ρ2=>.nx ρ2|o=>o)else .nx ρ)=_
 rw[h,h2];rfl
def dk(ms:List (Int×Int×Int)):List (Sum Int Str×D):=ms.map λp=>(Sum.inl p.1,D.int (jo p))
theorem UQ:∀{ms},look (Sum.inl b) (dk ms)=none->∀ p∈ms,p.1≠b
 | [],_,p,hp=>by simp at hp
 | q::r,h,p,hp=>by
  by_cases c:q.1=b
  .simp[dk,look,c]at h
  have h2:look (Sum.inl b) (dk r)=none:=by simpa[dk,look,c]using h
  rcases gy.mp hp with rfl|hp
  .exact c
  exact UQ h2 p hp
theorem UR{b:Int}:∀{ms},ms.Pairwise (λp q=>p.1<q.1)->look (Sum.inl b) (dk ms)=!d->∃ v,d=.int v/\(zw ms b).getLast?=!v
 | [],_,h=>by simp[dk,look]at h
 | q::r,hp,h=>by
  rw[fF]at hp;by_cases c:q.1=b
  .have hd:D.int (jo q)=d:=by simpa[dk,look,c]using h
   refine#[jo q,hd.symm,?_];have e:r.filter (λp=>decide (p.1<=b))=[]:=fQ.mpr λp z=>by
    have:=hp.1 p z;simp;lia
   unfold zw;rw[fm (by simp;lia),e]
   rfl
  have h2:look (Sum.inl b) (dk r)=!d:=by simpa[dk,look,c]using h
  obtain⟨v,e1,e2⟩:=UR hp.2 h2;refine#[v,e1,?_];unfold zw at e2 ⊢;by_cases c2:q.1<=b
  .rw[fm c2[""],gN,List.getLast?_cons,e2]
   rfl
  rw[pK c2[""]]
  exact e2
def xD(ms:List (Int×Int×Int)):Nat->Int
 | 0=>0
 | i+1=>jk ms i
def qea(f:Fine ms)(i:Nat):QO (look (Sum.inl (i:Int)) (dk ms)) (xD ms i)[7]=.ok (jk ms i)[7]:=by
 cases e:look (Sum.inl (i:Int)) (dk ms)with
 | some d =>
  obtain⟨v,rfl,e2⟩:=UR f.1 e;simp[jk,e2,QO]
 | none =>
  have n:=UQ e;have:xD ms i=jk ms i:=by
   cases i with
   | zero =>
    have:zw ms 0=[]:=by
     unfold zw;rw[fQ.mpr,pY];intro p hp;have h1:=n p hp;have h2:=f.2.1 p hp;lia
    simp[xD,jk,this]
   | succ i =>
    have:zw ms (i+1)=zw ms i:=by
     unfold zw;congr 1;apply List.filter_congr;intro p hp;have h1:=n p hp;simp at h1 ⊢;lia
    show jk ms i=jk ms (i+1);unfold jk;rw[this]
  simp[this,QO]
def qeb(ms)(b):((dk ms).any λkv=>decide (kv.1=Sum.inl b))=ms.any λp=>decide (p.1=b):=by
 unfold dk;rw[List.any_map];congr 1;funext p;simp
def qec(f:Fine ms)(z:Nat)(O:z<=200) :
  uP [.br (.lst (ms.map qp)),.fz z[6]]=.ok (.lst ((List.range z).map λb:Nat=>D.int (jk ms b)))[9]:=by
 have hz:sz=16777216:=rfl;have hl:=f.2.2.2;unfold uP Xl;left;rw[YG (ds:=ms.map qp) rfl];left;obtain⟨ρ1,e1,j3,h1⟩:=wE (ms.map qp) (λi ρ=>∃ j3,ρ=[!(.br (.lst (ms.map qp))),!z[7],!(.dK (dk (ms.take i)))[9],j3,none,none,none])
  (g:=gV 3) (b:=vV 2 (eOp qc (q9 3) 0[5]) (qg wj [(q9 3)]))
  (ρ:=[!(.br (.lst (ms.map qp))),!z[7],!(.dK [])[9],none,none,none,none]) #[none,by simp[dk]] (λi x ρ hx #[j3,hρ]=>by
   subst hρ;rw[gG]at hx;cases ep:ms[i]? with
   | none=>rw[ep]at hx;cases hx
   | some p =>
    rw[ep]at hx;cases hx;have hp:=f.2.1 p (hX ep);have hi:i<ms[1]:=(gp.mp ep).1;refine#[_,_,rfl,.inl ?_,!(qp p)[8],rfl];have tl:=VJ p hp.2;rw[YH (kvs:=dk (ms.take i)) (d:=.int (jo p)) (w:=.fz (.int p.1)) (key:=.inl p.1) rfl (by simp![tl]) (by simp![qp]) rfl (by simp[dk,hz];lia)]
    have nk:¬ ((dk (ms.take i)).any λkv=>decide (kv.1=Sum.inl p.1))=true:=by
     rw[qeb,List.any_eq_true];rintro⟨q,hq,e⟩;have e3:ms=ms.take i++p::ms.drop (i+1):=by
      rw[gE hi]at ep;cases ep;simp
     have pw:=f.1;rw[e3,gU]at pw;have:=pw.2.2 q hq p t8;lia
    have e4:qS (Sum.inl p.1) (D.int (jo p)) (dk (ms.take i))=dk (ms.take (i+1)):=by
     unfold qS;rw[if_neg nk,List.take_succ,ep];simp[dk]
    rw[e4];rfl)
 rw[e1];subst h1;rw[gg,dz];left;rw[QN (n:=z) (by left) ""]
 left;obtain⟨B,e2,j6,h2⟩:=ZF z (λi ρ=>∃ j6,ρ=[!(.br (.lst (ms.map qp))),!z[7],!(.dK (dk ms))[9],j3,!(.lst ((List.range i).map λb:Nat=>D.int (jk ms b)))[9],!(xD ms i)[7],j6])
  (g:=gV 6) (b:=qe (qj 5 (ua (q9 2) (q9 6) (q9 5))) (qN 4 (q9 5)))
  (ρ:=[!(.br (.lst (ms.map qp))),!z[7],!(.dK (dk ms))[9],j3,!(.lst [])[9],!0[7],none]) #[none,rfl] (λi ρ hi #[j6,hρ]=>by
   subst hρ;refine#[_,_,rfl,.inl ?_,!i[7],rfl];left;rw[qbl (kvs:=dk ms) (wd:=.br (.dK (dk ms))) (wk:=.fz i[6]) (wx:=.fz (xD ms i)[6]) (q:=.inl i) rfl rfl rfl rfl rfl,qea f i];left;rw[zh (xs:=(List.range i).map λb:Nat=>D.int (jk ms b)) (d:=.int (jk ms i)) rfl (by simp[hz];lia) rfl]
   simp[cK,xD])
 rw[e2];subst h2;left
def W9(ms:List (Int×Int×Int))(t:Int)(B:Nat)(P:Int):Prop:=0<=P/\P<jk ms B/\qB ms B+P=t
abbrev US:SF:=qt (ju [(eOp qz (q9 2) (eOp vN (eOp qZ (q9 1) (q9 3)) (q9 4))),(eOp vy (eOp qZ (q9 1) (q9 3)) (q9 4))])
def UT{p:Int×Int×Int}(f:Fine ms)(l:Lens ms)(e:ms=pre++p::post){t:Int}(h1:qB ms p.1.toNat<=t)(h2:∀ q∈post,t-qB ms p.1.toNat<(q.1-p.1)*jo p)(w)(j5 j6) :
  ∃ B P,fin ((Out.nx [w,!t[7],!(.int p.1)[8],!(qB ms p.1.toNat)[7],!(jo p)[7],j5,j6]).th US)=.ok (.tup [.int (B:Nat),.int P])[8]/\W9 ms t B P:=by
 have hp:p∈ms:=by rw[e];simp
 have f1:=f.2.1 p hp;have l1:=l p hp;have hx:0<=t-qB ms p.1.toNat:=""
 have d0:0<=(t-qB ms p.1.toNat)/jo p:=bG hx ""
 have z:∀ q∈post,p.1+(t-qB ms p.1.toNat)/jo p<q.1:=λq hq=>by
  have:=Int.ediv_lt_of_lt_mul "" (h2 q hq)
  lia
 obtain⟨k,hk⟩:=pL d0;have eB:(p.1.toNat+k:Nat)=p.1+(t-qB ms p.1.toNat)/jo p:=by rw[hk];lia
 refine#[p.1.toNat+k,(t-qB ms p.1.toNat)%jo p,?_,dW _ "",?_,?_]
 .simp![QL (j:=jo p) "" "",yL (j:=jo p) "",eB]
 .rw[XU e "" λq hq=>by have:=z q hq;lia]
  exact bM _ ""
 rw[XV e f1.1 k λq hq=>by have:=z q hq;lia]
 have:=cx (t-qB ms p.1.toNat) (jo p);rw[hk,Int.mul_comm]at this;lia
def qed(f:Fine ms)(l:Lens ms)(t)(Z:0<=t) :
  ∃ B P,Jr [.br (.lst (ms.map qp)),.fz t[6]]=.ok (.tup [.int (B:Nat),.int P])[8]/\W9 ms t B P:=by
 unfold Jr Xm;left;refine QC (Q:=λo=>∃ B P,fin (o.th US)=.ok (.tup [.int (B:Nat),.int P])[8]/\W9 ms t B P) (ms.map qp)
  (λi ρ=>∃ b g n j5 j6,ρ=[!(.br (.lst (ms.map qp))),!t[7],!b[7],!g[7],!n[7],j5,j6] /\
   ((i=0/\b=0/\g=0/\n=0)\/∃ pre p post,ms=pre++p::post/\pre[1]+1=i/\b=p.1/\g=qB ms p.1.toNat/\n=jo p/\g<=t))
  #[0,0,0,none,none,rfl,.inl #[rfl,rfl,rfl,rfl]] (λi x ρ hx #[b,g,n,j5,j6,hρ,hI]=>?_) (λρ #[b,g,n,j5,j6,hρ,hI]=>?_)
 .subst hρ;rw[gG]at hx;cases eq:ms[i]? with
  | none=>rw[eq]at hx;cases hx
  | some q =>
   rw[eq]at hx;cases hx;have hq:=hX eq;have f1:=f.2.1 q hq;have tl:=VJ q f1.2;have hi:i<ms[1]:=(gp.mp eq).1;refine#[_,rfl,?_];rcases hI with⟨rfl,rfl,rfl,rfl⟩|⟨pre,p,post,e,hl,rfl,rfl,rfl,hg⟩
   .have q0:q.1=0:=by
     obtain⟨p,hp,Y⟩:=f.2.2.1;cases ms with
     | nil=>simp at hi
     | cons m r =>
      simp at eq;subst eq;rcases gy.mp hp with rfl|hp
      .exact Y
      have:=(fF.mp f.1).1 p hp;lia
    have hd:decide (t<0)=false:=by simp;lia
    simp![qp,ZM (i:=q.1-0) (j:=0) "d" "d",Int.mul_zero,Int.add_zero,hd]
    have tl:wj [.fz (.tup [.int q.1,.int q.2.1,.int q.2.2])]=.ok (jo q)[7]:=tl;simp![tl];refine#[q.1,0,jo q,!(qp q)[8],!0[7],rfl,.inr ?_];cases ms with
    | nil=>simp at hi
    | cons m r =>
     simp at eq;subst eq;exact#[[],m,r,rfl,rfl,rfl,by rw[q0];rfl,rfl,Z]
   have hp:p∈ms:=by rw[e];simp
   have fp:=f.2.1 p hp;have lp:=l p hp;obtain⟨z,rfl⟩:∃ z,post=q::z:=by
    rw[e,<- hl,hE ""]at eq
    cases post with
    | nil=>simp[show pre[1]+1-pre[1]=1 by lia]at eq
    | cons m r =>
     simp[show pre[1]+1-pre[1]=1 by lia]at eq
     exact#[r,by rw[eq]]
   have pw:=f.1;rw[e,gU]at pw;have U:=fF.mp pw.2.1;have pq:p.1<q.1:=U.1 q t8;have after:∀ r∈z,q.1<r.1:=(fF.mp U.2).1;have O:=XV e fp.1 (q.1-p.1).toNat λr hr=>by
    rcases gy.mp hr with rfl|hr
    .lia
    have:=after r hr;lia
   rw[show p.1.toNat+(q.1-p.1).toNat=q.1.toNat by lia,show((q.1-p.1).toNat)=q.1-p.1 by lia]at O
   have tl:wj [.fz (.tup [.int q.1,.int q.2.1,.int q.2.2])]=.ok (jo q)[7]:=tl;simp![qp,ZM (i:=q.1-p.1) (j:=jo p) "" ""]
   rw[<- O];by_cases c:t<qB ms q.1.toNat
   .have hd:decide (t<qB ms q.1.toNat)=true:=by simpa using c
    simp![hd];refine UT f l e hg (λr hr=>?_) _ _ _
    rw[O]at c;rcases gy.mp hr with rfl|hr
    .lia
    have a1:=after r hr;have:=tK (show q.1-p.1<=r.1-p.1 by lia) (show 0<=jo p by lia)
    lia
   have hd:decide (t<qB ms q.1.toNat)=false:=by simpa using c
   simp![hd,tl];refine#[q.1,qB ms q.1.toNat,jo q,!(qp q)[8],!(qB ms q.1.toNat)[7],rfl,.inr #[pre++[p],q,z,by rw[e];simp,by simp;lia,rfl,rfl,rfl,""]]
 subst hρ;rcases hI with⟨h0,_⟩|⟨pre,p,post,e,hl,rfl,rfl,rfl,hg⟩
 .obtain⟨p,hp,_⟩:=f.2.2.1;rw[gg]at h0;rw[fj.mp h0]at hp;simp at hp
 have:post=[]:=by
  rw[gg,e]at hl;simp at hl;exact hl
 subst this;exact UT f l e hg (λq hq=>by simp at hq) _ _ _
def UU{ρ:Rho}{ds:List D}(h:ρ[i]?=!(!(.lst ds)[8])):zr i ρ=.ok (numd 0 ds):=by unfold zr;rw[h]
def JN(p:Nt):Bool:=zx 0 1000 (.int p.1)&&(zx 1 400 (.int p.2.1)&&zx 0 127 (.int p.2.2))
def qee(p):yh [.fz (ntD p),.fz uE]=.ok (.bl (JN p))[8]:=XY (.int p.1) (.int p.2.1) (.int p.2.2) 0 1000 1 400 0 127 rfl rfl rfl
def UV(n):zF [.fz (ntD n)]=.ok (n.1+n.2.1)[7]:=by
 rfl
def qef(n o):uO [.fz (ntD n),.fz (ntD o)]=.ok (.bl (hits n o))[8]:=by
 have e2:zF [.fz (.tup [.int o.1,.int o.2.1,.int o.2.2])]=.ok (o.1+o.2.1)[7]:=UV o;unfold uO Xf hits;simp![ntD];cases (n.2.2==o.2.2)
 .rfl
 simp![e2];cases decide (n.1<o.1+o.2.1)
 .rfl
 rfl
def qeg(n o):hits n o=hits o n:=by
 unfold hits;rw[Bool.and_comm (decide (n.1<o.1+o.2.1)),show(n.2.2==o.2.2)=(o.2.2==n.2.2)from Bool.beq_comm]
def qeh(ds)(n:Nat)(pre:List Nt)(p)(hp:ds.take n=pre.map ntD)(hd:ds[n]?=!(ntD p)):xr [.fz (.lst ds),.fz n[6]]=.ok (.bl (pre.any λo=>hits o p))[8]:=by
 have ix:okD (ati ds n)=.ok (ntD p)[8]:=by rw[zC,hd];rfl
 unfold xr Xv;left;rw[vQ (by left) rfl,((qdx ds n).trans hp)]
 have go:∀(os:List Nt) j2,fin ((qD (gV 2) (sIf (tE (qg uO [(q9 2),(eOp qc (q9 0) (q9 1))])) (qt (eC (.bl true))) qu) (os.map ntD)
   [!(.lst ds)[8],!n[7],j2]).th (qt (eC (.bl false))))=.ok (.bl (os.any λo=>hits o p))[8]:=by
  intro os
  induction os with
  | nil=>intro j2;rfl
  | cons o os ih =>
   intro j2;rw[gN,zR rfl];simp![ix,(qef o p),dO];cases hits o p
   .simp![Bool.false_or];exact ih _
   rfl
 exact go pre none
def Wa(ds:List D)(n:Nat):Prop:=∃(p:Nt) (pre:List Nt),ds[n]?=!(ntD p)/\JN p=true/\ds.take n=pre.map ntD/\(pre.any λo=>hits o p)=false
def qei(ds)(h2:ds[1]<=60):yW [.fz (.lst ds),.fz 0[6],.fz Jg]=.ok (.bl true)[8]:=by
 unfold yW VB;simp![Jg];rw[show decide (0<=(ds[1]:Int))=true by simp]
 left;rw[show decide ((ds[1]:Int)<=60)=true by simp;lia]
def Wb:SF:=(sIf (tOr (jO (tE (qg yh [(q9 2),(eC uE)]))) (tE (qg xr [(q9 0),(q9 1)]))) zq qu)
def qej{n:Nat}(g:Wa ds n)(hd:ds[n]?=!d):Wb [!(.lst ds)[8],!n[7],!d[8]]=.nx [!(.lst ds)[8],!n[7],!d[8]]:=by
 obtain⟨p,pre,e1,tb,ep,ea⟩:=g;rw[e1]at hd;cases hd;unfold Wb;simp![(qee p),tb,(qeh ds n pre p ep e1),ea]
def qek(h2:ds[1]<=60)(g:∀ n,n<ds[1]->Wa ds n)(z:vZ [.lst ds]=.ok (.lst es)[9]):uW [.fz (.lst ds)]=.ok (.lst es)[9]:=by
 unfold uW XG;simp![qei ds h2];rw[UU rfl];left;obtain⟨ρ',e,j1,j2,hI⟩:=wE (numd 0 ds) (λi ρ=>∃ j1 j2,ρ=[!(.lst ds)[8],j1,j2]) (g:=gT [1,2]) #[none,none,rfl] (λi x ρ hx #[j1,j2,hρ]=>by
  subst hρ;obtain⟨d,e1,rfl⟩:=VL hx;exact#[_,_,rfl,.inl (qej (g i (gp.mp e1).1) e1),_,_,rfl])
 rw[show(sIf (tOr (jO (tE (qg yh [(q9 2),(eC uE)]))) (tE (qg xr [(q9 0),(q9 1)]))) zq qu)=Wb from rfl,e]
 subst hI;simp![z]
structure GN(ns:List Nt):Prop where
 l:ns[1]<=24
 b:∀ n∈ns,0<=n.1/\n.1<=1000/\1<=n.2.1/\n.2.1<=400/\0<=n.2.2/\n.2.2<=127
 ap:ns.Pairwise λo n=>hits o n=false
def qel(h:NotesOk ns)(z:ns[1]<=24):GN ns:=#[z,h.b,h.ap.imp λ{o n} q=>by rw[qeg];exact q]
def qem(h:0<=p.1/\p.1<=1000/\1<=p.2.1/\p.2.1<=400/\0<=p.2.2/\p.2.2<=127):JN p=true:=by
 obtain⟨h1,h2,h3,h4,h5,h6⟩:=h;simp[JN,zx,h1,h2,h3,h4,h5,h6]
def qen(g:GN ns){ds:List D}{n m:Nat}(B:ds.take n=(ns.take n).map ntD)(O:m<n)(U:n<=ns[1]):Wa ds m:=by
 have z:m<ns[1]:=""
 have em:ds[m]?=!(ntD ns[m]):=by
  have:(ds.take n)[m]?=ds[m]?:=by rw[cg,if_pos O]
  simp_all
 refine#[ns[m],ns.take m,em,qem (g.b _ (fH _)),?_,?_]
 .have:=congrArg (List.take m) B;rw[bj,<- List.map_take,bj,cI ""]at this
  exact this
 rw[List.any_eq_false];intro o ho;obtain⟨k,hk,rfl⟩:=List.getElem_of_mem ho;rw[tD]at hk;have:=tZ.mp g.ap k m "" z ""
 simp_all
def qeo(g:GN ns):(ns.map ntR).Nodup:=by
 show List.Pairwise _ _;rw[fw];refine dH (λ{o n} ho hn q z=>?_) g.ap
 have e:=U3 z;subst e;have hb:=g.b o ho;unfold hits at q;simp at q;lia
def qep(g:GN ns):vZ [.lst (ns.map ntD)]=.ok (.lst ((qK ns).map ntD))[9]:=by
 have e1:ns.map ntD=(ns.map ntR).map qJ:=by rw[h9];rfl
 have l:=g.l;rw[e1,VS (qeo g) (by rw[gg];lia) (λz=>by obtain⟨n,_,e⟩:=gH.mp z;cases e),<- Q2,h9]
 rfl
def qeq(g:GN ns):uW [.fz (.lst (ns.map ntD))]=.ok (.lst ((qK ns).map ntD))[9] :=
 qek (by have:=g.l;rw[gg];lia) (λn hn=>qen g (by rw[<- List.map_take]) hn[""] (gw _)) (qep g)
def TB(p:Int×Int×Int):Prop:=0<=p.1/\p.1<=1000/\1<=p.2.1/\p.2.1<=24/\p.2.2∈([1,2,4,8,16,32,64]:List Int)/\8<=jo p/\jo p<=512
def qer(p)(h:TB p):xu [.fz (qp p)]=.ok (.bl true)[8]:=by
 obtain⟨a1,a2,b1,b2,u,l1,l2⟩:=h;have u1:1<=p.2.2/\p.2.2<=64/\QS (.int p.2.2) Vy=.ok (.bl false)[8]:=by
  simp[gy,pJ,m8]at u;rcases u with u|u|u|u|u|u|u<;>(rw[u];exact#[by decide,by decide,by kernel_rfl])
 have e:=XY (.int p.1) (.int p.2.1) (.int p.2.2) 0 1000 1 24 1 64 rfl rfl rfl;simp[zx,a1,a2,b1,b2,u1.1,u1.2.1,Bool.and_self]at e;have tl:wj [.fz (.tup [.int p.1,.int p.2.1,.int p.2.2])]=.ok (jo p)[7]:=VJ p #["",b2]
 unfold xu XI qp;simp![Vx,e,u1.2.2,tl,Vz,VA,l1,l2,decide_true]
def qes(ds)(p)(h:ds[0]?=!(qp p)):yg [.fz (.lst ds),.fz 0[6]]=.ok (.bl (p.1==0))[8]:=by
 have e:okD (ati ds 0)=.ok (qp p)[8]:=by rw[show 0=((0:Nat):Int)from rfl,zC,h];rfl
 unfold yg VC;left;rw[show((0:Int)==0)=true from rfl]
 simp![e,qp]
def qet(ds)(n)(p q)(h:ds[n+1]?=!(qp p))(z:ds[n]?=!(qp q)):yg [.fz (.lst ds),.fz (n+1:Nat)[6]]=.ok (.bl (decide (q.1<p.1)))[8]:=by
 have e:okD (ati ds (n+1:Nat))=.ok (qp p)[8]:=by rw[zC,h];rfl
 have e2:okD (ati ds ((n+1:Nat)-1))=.ok (qp q)[8]:=by rw[show(n+1:Nat)-1=(n:Int)by lia,zC,z];rfl
 unfold yg VC;left;rw[show(((n+1:Nat):Int)==0)=false by simp;lia]
 simp![e,e2,qp]
def Wc(ds:List D)(n:Nat):Prop:=∃ p,ds[n]?=!(qp p)/\TB p/\(n=0->p.1=0)/\∀ m,n=m+1->∃ q,ds[m]?=!(qp q)/\q.1<p.1
def qeu(d:D)(ds)(h1:1<=ds[1])(h2:ds[1]<=20):yW [.fz (.lst ds),.fz 1[6],.fz Ji]=.ok (.bl true)[8]:=by
 unfold yW VB;simp![Ji];rw[show decide (1<=(ds[1]:Int))=true by simp;lia]
 left;rw[show decide ((ds[1]:Int)<=20)=true by simp;lia]
def We:SF:=(sIf (tOr (jO (tE (qg xu [(q9 2)]))) (jO (tE (qg yg [(q9 0),(q9 1)])))) zq qu)
def qev{j1 j2:Option En}(g:Wc ds n)(hd:ds[n]?=!d):We [!(.lst ds)[8],!n[7],!d[8]]=.nx [!(.lst ds)[8],!n[7],!d[8]]:=by
 obtain⟨p,e1,tb,z0,zs⟩:=g;rw[e1]at hd;cases hd;unfold We;simp![(qer p tb)];cases n with
 | zero =>
  simp![(qes ds p e1),z0 rfl,beq_self_eq_true]
 | succ m =>
  obtain⟨q,e2,lt⟩:=zs m rfl;simp![(qet ds m p q e1 e2),lt,decide_true]
def qew(h1:1<=ds[1])(h2:ds[1]<=20)(g:∀ n,n<ds[1]->Wc ds n):JB [.fz (.lst ds)]=.ok (.lst ds)[9]:=by
 unfold JB XJ;simp![qeu .non ds h1 h2];rw[UU rfl];left;obtain⟨ρ',e,j1,j2,hI⟩:=wE (numd 0 ds) (λi ρ=>∃ j1 j2,ρ=[!(.lst ds)[8],j1,j2]) (g:=gT [1,2]) #[none,none,rfl] (λi x ρ hx #[j1,j2,hρ]=>by
  subst hρ;obtain⟨d,e1,rfl⟩:=VL hx;exact#[_,_,rfl,.inl (qev (j1:=none) (j2:=none) (g i (gp.mp e1).1) e1),_,_,rfl])
 rw[show(sIf (tOr (jO (tE (qg xu [(q9 2)]))) (jO (tE (qg yg [(q9 0),(q9 1)])))) zq qu)=We from rfl,e]
 subst hI;left
structure GM(ms:List (Int×Int×Int)):Prop where
 l1:1<=ms[1]
 l2:ms[1]<=20
 told:∀ p∈ms,TB p
 pw:ms.Pairwise λp q=>p.1<q.1
 z:∀ p,ms[0]?=!p->p.1=0
def UW{ms:List (Int×Int×Int)}{n:Nat}(h):(ms.map qp)[n]?=!(qp ms[n]):=by rw[gG,gE h];rfl
def qex(g:GM ms){ds:List D}{n:Nat}(O:∀ m,m<=n->ds[m]?=(ms.map qp)[m]?)(B:n<ms[1]):Wc ds n:=by
 refine#[ms[n],(O n (gw _)).trans (UW B),g.told _ (fH _),λz=>?_,λm e=>?_]
 .subst z;exact g.z _ (gE B)
 subst e;exact#[ms[m],(O m "").trans (UW ""),(tZ.mp g.pw m (m+1) "" B "")]
theorem UX(ns):∀ k,mbar ns k<=3*k
 | 0=>by simp[mbar]
 | k+1=>by
  have:=UX ns k;have:=zQ (jx ns k) 9967 3 "d"
  show mbar ns k+1+jj (jx ns k) 9967 3<=_;lia
def qey(wd):∀ u∈vx wd,u∈([1,2,4,8,16,32,64])/\8<=k9 wd/\wM wd<=512:=by cases wd<;>decide
def qez(ns)(wd):GM (vK ns wd):=by
 obtain⟨m1,m2,_⟩:=JF ns;refine#[by simp[vK];lia,by simp[vK];lia,λp hp=>?_,(VI ns wd).1,λp h=>?_]
 .obtain⟨k,hk,rfl⟩:=gH.mp hp;have hk:=dm.mp hk;have t:=JE (jx ns k) wd;have um:=xx (jx ns k) wd;obtain⟨u1,u2,u3,u4,u5,u6,u7⟩:=xy wd _ um;obtain⟨k1,k2,k3⟩:=qey wd _ um;have b1:=UX ns k;have b0:0<=mbar ns k:=by
   cases k with
   | zero=>exact pI _
   | succ k=>exact cM (VH ns (Nat.succ_pos k))
  have p2:=Int.le_trans (tK t.2 "") (Int.le_trans u7 k3)
  exact#[b0,by show mbar ns k<=1000;lia,by show 1<=vd (jx ns k) wd;lia,by show vd (jx ns k) wd<=24;lia,k1,(Int.le_trans (Int.le_trans k2 u6) (tK t.1 "")),p2]
 unfold vK at h;rw[gG,dD ""]at h
 cases h;rfl
def qeA{i j:Int}(z:a ρ=.ok i[7])(B:b ρ=.ok j[7])(h1:-1000000<i)(h2:i<1000000)(O:-1000000<j)(U:j<1000000):iR2 a b ρ=.ok (zn i (j-i).toNat):=by
 unfold iR2;rw[z,R.bind_ok,B,R.bind_ok];dsimp[En.d];rw[if_pos];rw[gZ];exact#[fits_iff.mpr (by rw[b62e];lia),fits_iff.mpr (by rw[b62e];lia)]
def kn:Nat->List D
 | 0=>[]
 | n+1=>.int (n:Int)::kn n
theorem UY:∀ n:Nat,x8 (n-1) (-1) n=kn n
 | 0=>rfl
 | n+1=>by
  unfold x8 at ⊢;rw[b8,gN,h9];show D.int _::_=D.int n::kn n;rw[<- (UY n)];congr 1
  .simp
  apply tq;intro k _;show D.int _=D.int _;congr 1
  push_cast
  lia
def qeB{a b c:EF}{n:Nat}(z:a ρ=.ok (n-1)[7])(B:b ρ=.ok (-1)[7])(O:c ρ=.ok (-1)[7])(U:n<100000):iR3d a b c ρ=.ok (kn n):=by
 unfold iR3d;rw[z,R.bind_ok,B,R.bind_ok,O,R.bind_ok];unfold V7;dsimp only;rw[if_pos #["","",by decide,by decide,rfl]]
 have:(v7 (n-1) (-1) (-1)).toNat=n:=by unfold v7;split<;>lia
 rw[this,UY]
theorem JO:∀ xs,jJ (xs.map D.int)=!xs
 | []=>rfl
 | x::r=>by
  show(match jJ (r.map D.int)with|some ns=>↑(x::ns)|none=>none)=_
  rw[JO r]
def jA(v:Int):Int->Int->List Int->List (List Int)
 | _,_,[]=>[]
 | p,n,x::r=>[p,v,n]::jA v (p+x) (n+1) r
def qF:Int->List (List Int)->List (List Int)
 | _,[]=>[]
 | v,r::rs=>jA v 0 0 r++qF (v+1) rs
theorem JP(v):∀ r p n,(jA v p n r)[1]=r[1]
 | [],_,_=>rfl
 | x::r,p,n=>by simp[jA,JP v r]
theorem xE(v):∀ r p n x,x∈jA v p n r->∃ q m,x=[q,v,m]/\n<=m
 | [],_,_,x,h=>by simp[jA]at h
 | y::r,p,n,x,h=>by
  rcases gy.mp h with z|h
  .exact#[p,n,z,pI _]
  obtain⟨q,m,e,l⟩:=xE v r (p+y) (n+1) x h;exact#[q,m,e,""]
theorem UZ(v):∀ r p n,(jA v p n r).Nodup
 | [],_,_=>List.Pairwise.nil
 | y::r,p,n=>by
  refine tF.mpr #[λh=>?_,UZ v r (p+y) (n+1)]
  obtain⟨q,m,e,l⟩:=xE v r (p+y) (n+1) _ h;lia
theorem xF:∀ rs v x,x∈qF v rs->∃ q u m,x=[q,u,m]/\v<=u
 | [],_,x,h=>by simp[qF]at h
 | r::rs,v,x,h=>by
  rcases gC.mp h with h|h
  .obtain⟨q,m,e,_⟩:=xE v r 0 0 x h;exact#[q,v,m,e,pI _]
  obtain⟨q,u,m,e,l⟩:=xF rs (v+1) x h;exact#[q,u,m,e,""]
theorem M3:∀ rs v,(qF v rs).Nodup
 | [],_=>List.Pairwise.nil
 | r::rs,v=>by
  refine fq.mpr #[UZ v r 0 0,M3 rs (v+1),λa ha b hb e=>?_]
  obtain⟨q,m,e1,_⟩:=xE v r 0 0 a ha;obtain⟨q2,u,m2,e2,l⟩:=xF rs (v+1) b hb;lia
theorem Wf(k):∀ rs v,(∀ r∈rs,r[1]<=k)->(qF v rs)[1]<=k*rs[1]
 | [],_,_=>by simp[qF]
 | r::rs,v,h=>by
  have a:=h r "s"
  have b:=Wf k rs (v+1) λx hx=>h x (gj _ hx)
  rw[qF,gD,JP,gJ];lia
abbrev EvS:=D×Int
def Wg(e:EvS):Prop:=qc e.1 1[6]=.ok (.int e.2)[8]
def evSB(rs:List (List EvS)):D:=.lst (rs.map λr=>.lst (r.map Prod.fst))
def qeC(W R3)(v):∀(r:List EvS) z p n j5 j6,(∀ e∈r,Wg e)->z[1]+r[1]<=100000->∃ q i5 i6,
  qD (gT [5,6]) (qe (qN 1 (ju [(q9 4),(q9 2),(q9 5)])) (jV 4 zL (eOp qc (q9 6) 1[5]))) (numd n (r.map Prod.fst)) [W,!(.lst (z.map qJ))[9],!v[7],R3,!p[7],j5,j6]
  = .nx [W,!(.lst ((z++jA v p n (r.map Prod.snd)).map qJ))[9],!v[7],R3,!q[7],i5,i6]:=by
 have hz:sz=16777216:=rfl;intro r
 induction r with
 | nil=>intro z p n j5 j6 _ _;exact#[p,j5,j6,by simp[jA,numd,uY]]
 | cons e r ih =>
  intro z p n j5 j6 B hl;rw[gJ]at hl;have ek:qc e.1 1[6]=.ok (.int e.2)[8]:=B e "s"
  obtain⟨q,i5,i6,h⟩:=ih (z++[[p,v,n]]) (p+e.2) (n+1) (!n[7]) (!(.fz e.1)) (λx hx=>B x (gj _ hx)) (by rw[gD];simp;lia)
  refine#[q,i5,i6,?_];show qD _ _ (.tup [.int n,e.1]::numd (n+1) (r.map Prod.fst)) _=_;rw[zR (ρ1:=[W,!(.lst (z.map qJ))[9],!v[7],R3,!p[7],!n[7],!(.fz e.1)]) rfl];rw[ji,zh (xs:=z.map qJ) (d:=qJ [p,v,n]) rfl (by rw[gg];lia) (rfl)]
  have au:∀ A,(jV 4 zL (eOp qc (q9 6) 1[5])) [W,!A[9],!v[7],R3,!p[7],!n[7],!(.fz e.1)]=.nx [W,!A[9],!v[7],R3,!(p+e.2)[7],!n[7],!(.fz e.1)]:=λA=>by
   simp![ek]
  rw[jy];simp only[fO,fP];rw[au];have e2:(z++[[p,v,n]])++jA v (p+e.2) (n+1:Nat) (r.map Prod.snd)=z++jA v p n ((e::r).map Prod.snd):=by
   rw[t5,gN,jA];simp
  rw[e2]at h;rw[<- h,tu];rfl
def qeD(W):∀(rs:List (List EvS)) z v j2 j3 j4 j5 j6,(∀ r∈rs,∀ e∈r,Wg e)->(∀ r∈rs,r[1]<=600)->z[1]+600*rs[1]<=100000->∃ i2 i3 i4 i5 i6,
  qD (gT [2,3]) (qe (qj 4 0[5]) (qO (zr 3) (gT [5,6]) (qe (qN 1 (ju [(q9 4),(q9 2),(q9 5)])) (jV 4 zL (eOp qc (q9 6) 1[5]))))) (numd v (rs.map λr=>.lst (r.map Prod.fst))) [W,!(.lst (z.map qJ))[9],j2,j3,j4,j5,j6]
  = .nx [W,!(.lst ((z++qF v (rs.map (·.map Prod.snd))).map qJ))[9],i2,i3,i4,i5,i6]:=by
 intro rs
 induction rs with
 | nil=>intro z v j2 j3 j4 j5 j6 _ _ _;exact#[j2,j3,j4,j5,j6,by simp[qF,numd,uY]]
 | cons r rs ih =>
  intro z v j2 j3 j4 j5 j6 B hr hl;rw[gJ]at hl;have r1:=hr r "s"
  obtain⟨q,k5,k6,h1⟩:=qeC W (!(.lst (r.map Prod.fst))[8]) v r z 0 0 j5 j6 (B r "s") ""
  obtain⟨i2,i3,i4,i5,i6,h2⟩:=ih (z++jA v 0 (0:Nat) (r.map Prod.snd)) (v+1) (!v[7]) (!(.lst (r.map Prod.fst))[8]) (!q[7]) k5 k6 (λx hx=>B x (gj _ hx)) (λx hx=>hr x (gj _ hx)) (by rw[gD,JP,gg];lia)
  refine#[i2,i3,i4,i5,i6,?_];show qD _ _ (.tup [.int v,.lst (r.map Prod.fst)]::numd (v+1) (rs.map λr=>.lst (r.map Prod.fst))) _=_
  rw[zR (ρ1:=[W,!(.lst (z.map qJ))[9],!v[7],!(.lst (r.map Prod.fst))[8],j4,j5,j6]) rfl,ji];have s4:(qj 4 0[5]) [W,!(.lst (z.map qJ))[9],!v[7],!(.lst (r.map Prod.fst))[8],j4,j5,j6]=.nx [W,!(.lst (z.map qJ))[9],!v[7],!(.lst (r.map Prod.fst))[8],!0[7],j5,j6]:=by left
  rw[s4,jy,QK];have it:zr 3 [W,!(.lst (z.map qJ))[9],!v[7],!(.lst (r.map Prod.fst))[8],!0[7],j5,j6]=.ok (numd 0 (r.map Prod.fst)):=rfl;rw[it,zD,h1,wP,h2];have e3:(z++jA v 0 (0:Nat) (r.map Prod.snd))++qF (v+1:Nat) (rs.map (·.map Prod.snd))=z++qF v ((r::rs).map (·.map Prod.snd)):=by
   rw[t5];rfl
  rw[e3]
def qeE(rs)(B:∀ r∈rs,∀ e∈r,Wg e)(Y:∀ r∈rs,r[1]<=600)(hl:rs[1]<=8)(w)(Z:w=.fz (evSB rs)\/w=.br (evSB rs)) :
  wg [w]=.ok (.lst ((qX (qF 0 (rs.map (·.map Prod.snd)))).map qJ))[9]:=by
 obtain⟨i2,i3,i4,i5,i6,h⟩:=qeD ↑w rs [] 0 none none none none none B Y (by simp;lia)
 have it:zr 0 [!w,!(.lst [])[9],none,none,none,none,none]=.ok (numd 0 (rs.map λr=>.lst (r.map Prod.fst))):=by rcases Z with z|z<;>(subst z;rfl)
 have bl:=Wf 600 (rs.map (·.map Prod.snd)) 0 (λr O=>by
  obtain⟨x,hx,U⟩:=gH.mp O;subst U;rw[gg];exact Y x hx)
 rw[gg]at bl;have so:=VS (M3 (rs.map (·.map Prod.snd)) 0) "" (λz=>by
  obtain⟨_,_,_,e,_⟩:=xF _ _ _ z;cases e)
 unfold wg X3;simp![it];have h:qD (gT [2,3]) (qe (qj 4 0[5]) (qO (zr 3) (gT [5,6]) (qe (qN 1 (ju [(q9 4),(q9 2),(q9 5)])) (jV 4 zL (eOp qc (q9 6) 1[5]))))) (numd 0 (rs.map λr=>.lst (r.map Prod.fst))) [!w,!(.lst [])[9],none,none,none,none,none]=.nx [!w,!(.lst ((qF 0 (rs.map (·.map Prod.snd))).map qJ))[9],i2,i3,i4,i5,i6]:=h
 rw[h];simp![so]
def fcg:Nat->Str
 | 0=>"F"|1=>"C"|2=>"G"|3=>"D"|4=>"A"|5=>"E"|_=>"B"
def grd:Nat->Int
 | 0=>5|1=>0|2=>7|3=>2|4=>9|5=>4|_=>11
theorem JQ:∀ m:Nat,m<7->wI (.str "FCGDAEB") m[6]=.ok (.str (fcg m))[8]/\x4 (.str "FCGDAEB") (.str (fcg m))=.ok m[7]/\kI Jh (.str (fcg m))=.ok (grd m)[7]/\zm (.str (fcg m))=!(Sum.inr (fcg m))/\PyData.strOk (fcg m)=true
 | 0,_=>#[by kernel_rfl,by kernel_rfl,by kernel_rfl,rfl,by kernel_rfl]
 | 1,_=>#[by kernel_rfl,by kernel_rfl,by kernel_rfl,rfl,by kernel_rfl]
 | 2,_=>#[by kernel_rfl,by kernel_rfl,by kernel_rfl,rfl,by kernel_rfl]
 | 3,_=>#[by kernel_rfl,by kernel_rfl,by kernel_rfl,rfl,by kernel_rfl]
 | 4,_=>#[by kernel_rfl,by kernel_rfl,by kernel_rfl,rfl,by kernel_rfl]
 | 5,_=>#[by kernel_rfl,by kernel_rfl,by kernel_rfl,rfl,by kernel_rfl]
 | 6,_=>#[by kernel_rfl,by kernel_rfl,by kernel_rfl,rfl,by kernel_rfl]
 | n+7,h=>absurd h ""
def ffN(p k:Int):Int:=k-4+(7*p-(k-4))%12
def ltN(p k:Int):Nat:=((ffN p k+1)%7).toNat
def alN(p k:Int):Int:=(ffN p k+1)/7
def ocN(p k:Int):Int:=(p-grd (ltN p k)-alN p k)/12
def yp(m:Nat)(k:Int):Int:=(k-1+((m:Int)-1-(k-1))%7+1)/7
def JR(p k):ltN p k<7:=by unfold ltN;lia
def M4(p k):(ltN p k)=(ffN p k+1)%7:=by unfold ltN;lia
def qeF(a b c)(z:0<c):uJ [.fz a[6],.fz b[6],.fz c[6]]=.ok (a+(b-a)%c)[7]:=by
 unfold uJ X1;simp![yL z]
def M5(f):Jk [.fz f[6]]=.ok ((f+1)/7)[7]:=by
 rfl
def qeG(p k):VD [.fz p[6],.fz k[6]]=.ok (ffN p k)[7]:=by
 rfl
def qeH(p k):uV [.fz p[6],.fz k[6]]=.ok (.tup [.str (fcg (ltN p k)),.int (alN p k),.int (ocN p k)])[8]:=by
 obtain⟨a,b,c,_⟩:=JQ (ltN p k) (JR p k);rw[M4]at a;unfold uV Xy;simp![qeG,uF,yL (j:=7) "d",a,M5,c,QL (j:=12) "d" "d",alN,ocN]
def M6(m)(z:m<7)(k):wm [.fz (.str (fcg m)),.fz k[6]]=.ok (yp m k)[7]:=by
 obtain⟨a,b,c,_⟩:=JQ m z;unfold wm Xi;simp![uF,b,qeF _ _ 7 "d",M5,yp]
abbrev Kd:=List (List (Sum Int Str)×D)
def KI(kds:Kd):Prop:=∀ kv∈kds,∃ n:Int,kv.2=.int n
def kyN(p k:Int):List (Sum Int Str):=[.inr (fcg (ltN p k)),.inl (ocN p k)]
def byN(kds:Kd)(p k:Int):Int:=match look (kyN p k) kds with|some n[6]=>n|_=>yp (ltN p k) k
def wr(kds:Kd)(go:Bool)(p k:Int):Bool:=not go&&not (byN kds p k==alN p k)
def hdK(kds:Kd)(go:Bool)(p k:Int):Kd:=if wr kds go p k=true then qS (kyN p k) (alN p k)[6] kds else kds
def hdH(kds:Kd)(go:Bool)(p k:Int):D:=.tup [.str (fcg (ltN p k)),.int (ocN p k),if wr kds go p k=true then .int (alN p k)else .non]
def zS(go:Bool)(k:Int):Kd->List Int->Kd
 | kds,[]=>kds
 | kds,p::ps=>zS go k (hdK kds go p k) ps
def wQ(go:Bool)(k:Int):Kd->List Int->List D
 | _,[]=>[]
 | kds,p::ps=>hdH kds go p k::wQ go k (hdK kds go p k) ps
def M7(h:KI kds)(q):look q kds=none\/∃ n,look q kds=!n[6]:=by
 induction kds with
 | nil=>exact .inl rfl
 | cons kv r ih =>
  obtain⟨x,d⟩:=kv;unfold look;by_cases c:x=q
  .rw[if_pos c];obtain⟨n,e⟩:=h (x,d) "s"
   exact .inr #[n,by rw[show d=.int n from e]]
  rw[if_neg c];exact ih λkv hk=>h kv (gj _ hk)
def M8(h:KI kds)(q)(n):KI (qS q n[6] kds)/\(qS q n[6] kds)[1]<=kds[1]+1:=by
 unfold qS;split
 .refine#[λkv hk=>?_,by simp]
  obtain⟨x,hx,rfl⟩:=gH.mp hk;by_cases c:x.1=q
  .rw[if_pos c];exact#[n,rfl]
  rw[if_neg c];exact h x hx
 refine#[λkv hk=>?_,by simp]
 rcases gC.mp hk with hk|hk
 .exact h kv hk
 simp_all
def Wh(h:KI kds)(go)(p k):KI (hdK kds go p k)/\(hdK kds go p k)[1]<=kds[1]+1:=by
 unfold hdK;split
 .exact M8 h _ _
 exact#[h,""]
theorem M9(go)(k):∀ ps kds,KI kds->KI (zS go k kds ps)/\(zS go k kds ps)[1]<=kds[1]+ps[1]
 | [],kds,h=>#[h,by simp[zS]]
 | p::ps,kds,h=>by
  obtain⟨a,b⟩:=Wh h go p k;obtain⟨c,d⟩:=M9 go k ps _ a;exact#[c,by rw[zS,gJ];lia]
def Ma(p k):jF [.str (fcg (ltN p k)),.int (ocN p k)]=!(kyN p k):=rfl
def qeI(h:KI kds)(p k):xh kds (kyN p k) (yp (ltN p k) k)[7]=.ok (byN kds p k)[7]:=by
 unfold xh byN;rcases M7 h (kyN p k)with e|⟨n,e⟩<;>rw[e]
def qeJ(h:KI kds)(p k)(w)(B:w=.br (.dT kds)\/w=.fz (.dT kds)):yi [.fz (.str (fcg (ltN p k))),.fz (ocN p k)[6],w,.fz k[6]]=.ok (byN kds p k)[7]:=by
 have hz:sz=16777216:=rfl;show fin ((qt (ye (q9 2) [(q9 0),(q9 1)] (qg wm [(q9 0),(q9 3)]))) [!(.str (fcg (ltN p k)))[8],!(ocN p k)[7],!w,!k[7]])=_;have e:ye (q9 2) [(q9 0),(q9 1)] (qg wm [(q9 0),(q9 3)]) [!(.str (fcg (ltN p k)))[8],!(ocN p k)[7],!w,!k[7]]=.ok (byN kds p k)[7]:=by
  have ve:(q9 2) [!(.str (fcg (ltN p k)))[8],!(ocN p k)[7],!w,!k[7]]=.ok w:=by rcases B with z|z<;>(subst z;rfl)
  have oe:(qg wm [(q9 0),(q9 3)]) [!(.str (fcg (ltN p k)))[8],!(ocN p k)[7],!w,!k[7]]=.ok (yp (ltN p k) k)[7]:=by simp![(M6 (ltN p k) (JR p k) k)]
  have wd:w.d=.dT kds:=by rcases B with z|z<;>(subst z;rfl)
  unfold ye;rw[ve,R.bind_ok,wd];show xi (jF [.str (fcg (ltN p k)),.int (ocN p k)]) _=_;rw[Ma];unfold xi;dsimp only;rw[if_pos (by show 2<=sz;lia),oe,R.bind_ok,(qeI h p k)]
 rw[ZJ,e];rfl
abbrev Mb:SF:=(qe (qj 6 (qg uV [(q9 5),(q9 3)]))
 (qe (qj 7 (eOp qc (q9 6) 0[5]))
 (qe (qj 8 (eOp qc (q9 6) 2[5]))
 (qe (qj 9 (eC .non))
 (qe (sIf (L3.zW (tE (eOp wG (q9 1) (eC .non))) (tE (eOp dNe (qg yi [(q9 7),(q9 8),(vR 2),(q9 3)]) (eOp qc (q9 6) 1[5])))) (qe (qj 9 (eOp qc (q9 6) 1[5]))
 (wK 2 [(q9 7),(q9 8)] (q9 9))) qu)
 (qN 4 (ju [(q9 7),(q9 8),(q9 9)])))))))
def Mc{i:Nat}{e:EF}{ρ:Rho}{a:Int}{kds:Kd}{ws:List En}{q:List (Sum Int Str)}(h:ρ[i]?=!(!(.od (.tup [.int a,.dT kds]))))(z:e ρ=.ok d[8])(B:evs k ρ=.ok ws)(O:jF (ws.map En.d)=!q)(h1:kds[1]<sz)(h2:q[1]<=sz) :
  wK i k e ρ=.nx (ρ.set i (!(.od (.tup [.int a,.dT (qS q d kds)])))):=by
 unfold wK;rw[h,z];show sOf (R.ok d) _=_;unfold sOf
 simp_all
def Me{i:Nat}{a:Int}(h:ρ[i]?=!(!(.od (.tup [.int a,d])))):vR i ρ=.ok (.br d):=by
 unfold vR;rw[h];rfl
def qeK(a)(T)(go)(k)(O:wG T .non=.ok (.bl (not go))[8])(R0):∀ ps kds z j5 j6 j7 j8 j9,KI kds->kds[1]+ps[1]<=1000000->z[1]+ps[1]<=1000000->∃ i5 i6 i7 i8 i9,
  qD (gV 5) Mb (ps.map D.int) [R0,!T[8],!(ioD a (.dT kds)),!k[7],!(.lst z)[9],j5,j6,j7,j8,j9]
  = .nx [R0,!T[8],!(ioD a (.dT (zS go k kds ps))),!k[7],!(.lst (z++wQ go k kds ps))[9],i5,i6,i7,i8,i9]:=by
 have hz:sz=16777216:=rfl;intro ps
 induction ps with
 | nil=>intro kds z j5 j6 j7 j8 j9 _ _ _;exact#[j5,j6,j7,j8,j9,by simp[zS,wQ,uY]]
 | cons p ps ih =>
  intro kds z j5 j6 j7 j8 j9 hk hl ha;rw[gJ]at hl ha;obtain⟨k1,k2⟩:=Wh hk go p k;obtain⟨i5,i6,i7,i8,i9,h⟩:=ih (hdK kds go p k) (z++[hdH kds go p k]) (!p[7]) (!(.tup [.str (fcg (ltN p k)),.int (alN p k),.int (ocN p k)])[8]) (!(.str (fcg (ltN p k)))[8]) (!(ocN p k)[7]) (!(if wr kds go p k=true then .int (alN p k)else .non)[8]) k1 "" (by rw[gD];simp;lia)
  refine#[i5,i6,i7,i8,i9,?_];rw[gN,zR (yM)];simp[fO,fP];have be:=λw hw=>qeJ hk p k w hw
  have bd:Mb [R0,!T[8],!(ioD a (.dT kds)),!k[7],!(.lst z)[9],!p[7],j6,j7,j8,j9]=.nx [R0,!T[8],!(ioD a (.dT (hdK kds go p k))),!k[7],!(.lst (z++[hdH kds go p k]))[9],!p[7],!(.tup [.str (fcg (ltN p k)),.int (alN p k),.int (ocN p k)])[8],!(.str (fcg (ltN p k)))[8],!(ocN p k)[7],!(if wr kds go p k=true then .int (alN p k)else .non)[8]]:=by
   simp![qeH];have vi:∀ A B C D E F,(vR 2) [R0,!T[8],!(ioD a (.dT kds)),!k[7],A,B,C,D,E,F]=.ok (.br (.dT kds)):=λA B C D E F=>Me (a:=a) rfl
   have be:=be (.br (.dT kds)) (.inl rfl);cases go
   .cases c:(byN kds p k==alN p k)
    .have w:wr kds false p k=true:=by unfold wr;rw[c];rfl
     simp![O,Bool.not_false,vi,be,c];rw[Mc (a:=a) (kds:=kds) (d:=.int (alN p k)) (ws:=[.fz (.str (fcg (ltN p k))),.fz (ocN p k)[6]]) (q:=kyN p k) rfl (by left) rfl (Ma p k) "" (by show 2<=sz;lia)]
     left;rw[zh (xs:=z) (d:=hdH kds false p k) rfl "" (by simp![hdH,w])]
     simp![hdK,w];rfl
    have w:wr kds false p k=false:=by unfold wr;rw[c];rfl
    simp![O,Bool.not_false,Bool.not_true,vi,be,c];rw[zh (xs:=z) (d:=hdH kds false p k) rfl "" (by simp![hdH,w];rfl)]
    simp![hdK,w];rfl
   have w:wr kds true p k=false:=rfl;simp![O,Bool.not_true];rw[zh (xs:=z) (d:=hdH kds true p k) rfl "" (by simp![hdH,w];rfl)]
   simp![hdK,w];rfl
  rw[bd,wP,h,zS,wQ];simp
def qiG{i:Nat}{e:EF}{a:Int}(h:ρ[i]?=!(!(.od (.tup [.int a,d]))))(z:e ρ=.ok g[8]):yS i e ρ=.rt (.od (.tup [.int a,d,g])):=by
 unfold yS;rw[h,z];rfl
def qeL(a)(T)(go)(k)(z:wG T .non=.ok (.bl (not go))[8])(ps)(kds)(B:KI kds)(O:kds[1]+ps[1]<=1000000) :
  JA [.fz (.tup (ps.map D.int)),.fz T,ioD a (.dT kds),.fz k[6]]=.ok (.od (.tup [.int a,.dT (zS go k kds ps),.tup (wQ go k kds ps)])):=by
 obtain⟨i5,i6,i7,i8,i9,h⟩:=qeK a T go k z (!(.tup (ps.map D.int))[8]) ps kds [] none none none none none B O (by simp;lia)
 show fin (qe (qj 4 (jg [])) _ [!(.tup (ps.map D.int))[8],!T[8],!(ioD a (.dT kds)),!k[7],none,none,none,none,none,none])=_;left;have it:iV 0 [!(.tup (ps.map D.int))[8],!T[8],!(ioD a (.dT kds)),!k[7],!(.lst [])[9],none,none,none,none,none]=.ok (ps.map D.int):=rfl;rw[it,zD,h];rfl
def vof(s:List Int):Int:=s.getD 1 0
def pof(s:List Int):Int:=s.getD 0 0
theorem Mf(v):∀ r p n,(∀ x∈r,0<=x)->∀ s∈jA v p n r,p<=pof s
 | [],_,_,_,s,h=>by simp[jA]at h
 | x::r,p,n,hx,s,h=>by
  rcases gy.mp h with z|h
  .subst z;exact pI _
  have a:=hx x "s"
  have:=Mf v r (p+x) (n+1) (λy hy=>hx y (gj _ hy)) s h
  lia
def qeM{p q v u n m:Int}(h:p<q):HT.lexLt [q,v,n] [p,u,m]=false:=by
 rw[HT.lexLt_cons,if_neg ""]
 simp;lia
theorem Mg(v):∀ r p n,(∀ x∈r,1<=x)->(jA v p n r).Pairwise λa b=>HT.lexLt b a=false
 | [],_,_,_=>List.Pairwise.nil
 | x::r,p,n,hx=>by
  refine List.Pairwise.cons (λs hs=>?_) (Mg v r (p+x) (n+1) λy hy=>hx y (gj _ hy))
  have a:=hx x "s"
  have b:=Mf v r (p+x) (n+1) (λy hy=>by have:=hx y (gj _ hy);lia) s hs
  obtain⟨q,m,e,_⟩:=xE v r (p+x) (n+1) s hs;subst e;exact qeM (show p<q by have:p+x<=q:=b;lia)
def Wi(v){r:List Int}{p n:Int}{s:List Int}(h:s∈jA v p n r):vof s=v:=by
 obtain⟨q,m,e,_⟩:=xE v r p n s h;subst e;rfl
theorem Mh:∀ rs w (v:Nat) r,rs[v]?=!r->(qF w rs).filter (λs=>vof s==w+v)=jA (w+v) 0 0 r
 | [],_,_,_,h=>by simp at h
 | q::rs,w,0,r,h=>by
  obtain rfl:q=r:=by simpa using h
  rw[qF,cw];have b:(qF (w+1) rs).filter (λs=>vof s==w+(0:Nat))=[]:=fQ.mpr λs hs=>by
   obtain⟨x,u,m,e,l⟩:=xF rs (w+1) s hs;subst e;simp[vof];lia
  rw[(dF.mpr λs hs=>by rw[Wi w hs];simp),b]
  simp
 | q::rs,w,v+1,r,h=>by
  rw[qF,cw];have e:w+(v+1:Nat)=w+1+v:=""
  rw[(fQ.mpr λs hs=>by rw[Wi w hs];simp;lia),e]
  exact(Mh rs (w+1) v r h[""])
def Mi{T:List (List Int)}(P)(h:S.filter P=T)(up:T.Pairwise λa b=>HT.lexLt b a=false):(qX S).filter P=T:=by
 refine ZR ?_ ((QQ S).filter P) up
 rw[<- h];exact(y7 S).filter P
def Wj(rs)(hp:∀ r∈rs,∀ x∈r,1<=x)(v:Nat)(r)(h:rs[v]?=!r):(qX (qF 0 rs)).filter (λs=>vof s==v)=jA v 0 0 r:=by
 have e:=Mh rs 0 v r h;rw[Int.zero_add]at e;exact Mi _ e (Mg _ r 0 0 (hp r (hX h)))
theorem Mj(v):∀ r p n (i:Nat) s,(jA v p n r)[i]?=!s->∃ q,s=[q,v,n+i]/\i<r[1]
 | [],_,_,_,_,h=>by simp[jA]at h
 | x::r,p,n,0,s,h=>by
  have:s=[p,v,n]:=by simpa[jA]using h.symm
  simp_all
 | x::r,p,n,i+1,s,h=>by
  obtain⟨q,e,l⟩:=Mj v r (p+x) (n+1) i s (by simpa[jA]using h)
  exact#[q,by rw[e];simp;lia]
theorem Mk:∀ rs w s,s∈qF w rs->∃(v:Nat) (r:List Int),vof s=w+v/\rs[v]?=!r
 | [],_,s,h=>by simp[qF]at h
 | q::rs,w,s,h=>by
  rcases gC.mp h with h|h
  .exact#[0,q,by rw[Wi w h];simp,rfl]
  obtain⟨v,r,e,l⟩:=Mk rs (w+1) s h;exact#[v+1,r,by rw[e];lia,by simpa using l]
def qeN(rs)(hp:∀ r∈rs,∀ x∈r,1<=x){z B:List (List Int)}{s:List Int}(h:qX (qF 0 rs)=z++s::B) :
  ∃(q:Int) (v n:Nat) (r:List Int),s=[q,v,n]/\rs[v]?=!r/\n<r[1]/\n=(z.filter λt=>vof t==v)[1]:=by
 obtain⟨v,r,e,er⟩:=Mk rs 0 s ((y7 _).mem_iff.mp (by rw[h];simp))
 have sv:=Wj rs hp v r er;rw[h,cw,fm e[""]]at sv
 have g:(jA v 0 0 r)[(z.filter λt=>vof t==v)[1]]?=!s:=by rw[<- sv,hE (gw _),sub_self];rfl
 obtain⟨q,e2,l⟩:=Mj v r 0 0 _ s g;exact#[q,v,_,r,by rw[e2,Int.zero_add],er,l,rfl]
def zT:Option D->Bool
 | some (.tup [_,_,_,.bl b])=>b
 | _=>false
def wR:Option D->D
 | some (.tup [_,_,h,.bl true])=>h
 | _=>.non
def TeOk(d:D):Prop:=(∃ v:Int,d=.tup [.str "rest",.int v])\/∃(v:Int) (hs:List D) (t:Bool),d=.tup [.str "note",.int v,.tup hs,.bl t]
def qeO:dEq (.str "rest") (.str "rest")=.ok (.bl true)[8]:=by kernel_rfl
def Ml:dEq (.str "note") (.str "rest")=.ok (.bl false)[8]:=by kernel_rfl
def qeP(o)(h:∀ d,o=!d->TeOk d):yf [.fz (o.getD .non)]=.ok (wR o)[8]/\wG (wR o) .non=.ok (.bl (not (zT o)))[8]:=by
 cases o with
 | none=>exact#[by kernel_rfl,rfl]
 | some d =>
  rcases h d rfl with⟨v,e⟩|⟨v,hs,t,e⟩
  .subst e;refine#[?_,rfl];unfold yf Jl;simp![Option.getD_some,qeO];rfl
  subst e;cases t
  .refine#[?_,rfl];unfold yf Jl;simp![Option.getD_some,Ml];rfl
  refine#[?_,rfl];unfold yf Jl;simp![Option.getD_some,Ml];rfl
structure TS where
 kds:Kd
 rows:List (List D)
 ah:List (Sum Int Str×D)
inductive GE(α:Type)where
 | rest (v:Int)
 | note (v:Int) (x:α) (t:Bool)
structure TF(α:Type)where
 enc:α->D
 fx:α->D->Kd->D
 fk:α->D->Kd->Kd
 ok:α->Prop
def geD(F:TF α):GE α->D
 | .rest v=>.tup [.str "rest",.int v]
 | .note v x t=>.tup [.str "note",.int v,F.enc x,.bl t]
def gv:GE α->Int
 | .rest v=>v
 | .note v _ _=>v
def GeOk(F:TF α):GE α->Prop
 | .rest v=>1<=v
 | .note v x _=>1<=v/\F.ok x
def gwD(F:TF α)(r:List (GE α)):D:=.lst (r.map (geD F))
def grD(F:TF α)(R:List (List (GE α))):D:=.lst (R.map (gwD F))
def gEv(F:TF α)(T:D)(kds:Kd):GE α->D
 | .rest v=>.tup [.str "rest",.int v]
 | .note v x t=>.tup [.str "note",.int v,F.fx x T kds,.bl t]
def gKd(F:TF α)(T:D)(kds:Kd):GE α->Kd
 | .rest _=>kds
 | .note _ x _=>F.fk x T kds
def tOf(st:TS)(v:Nat):D:=wR (look (Sum.inl (v:Int)) st.ah)
def yq(F:TF α)(st:TS)(v:Nat)(e:GE α):TS :=
 #[gKd F (tOf st v) st.kds e,st.rows.set v ((st.rows.getD v [])++[gEv F (tOf st v) st.kds e]),qS (Sum.inl (v:Int)) (gEv F (tOf st v) st.kds e) st.ah]
def evAt(R:List (List (GE α)))(s:List Int):Option (GE α):=(R[(vof s).toNat]?).bind λr=>r[(s.getD 2 0).toNat]?
def jK(F:TF α)(R:List (List (GE α)))(st:TS)(s:List Int):TS:=match evAt R s with
 | some e=>yq F st (vof s).toNat e
 | none=>st
def TnOk(T:D):Prop:=T=.non\/∃ hs,T=.tup hs
structure TurnOk{α:Type}(F:TF α)(k:Int)(fn:D)(io:IOF):Prop where
 run:∀(R0 z A:Option En) (ah:List (Sum Int Str×D)) (br:D) (kds:Kd) (rows:D) (v va:Int) (x:α) (t:Bool) (T:D),F.ok x->TnOk T->KI kds->kds[1]<=200000 ->
  io [R0,!k[7],!fn[8],z,!(.dK ah)[9],!br[8],!(.dT kds)[9],!(.od rows),A,!v[7],!(geD F (.note va x t))[8],!T[8]]
   = .ok (F.fx x T kds,[R0,!k[7],!fn[8],z,!(.dK ah)[9],!br[8],!(.dT (F.fk x T kds))[9],!(.od rows),A,!v[7],!(geD F (.note va x t))[8],!T[8]])
 ki:∀(x:α) (T:D) (kds:Kd),F.ok x->TnOk T->KI kds->KI (F.fk x T kds)/\(F.fk x T kds)[1]<=kds[1]+24
 tp:∀(x:α) (T:D) (kds:Kd),F.ok x->TnOk T->KI kds->∃ hs,F.fx x T kds=.tup hs
abbrev Q6(io:IOF):SF:=(qe (qj 9 (eOp qc (q9 8) 1[5]))
 (qe (qj 10 (eOp qc (eOp qc (q9 5) (q9 9)) (eOp qc (q9 8) 2[5])))
 (qe (sIf (tE (eOp dEq (eOp qc (q9 10) 0[5]) (eC (.str "note")))) (qe (qj 11 (qg yf [(yT (q9 4) (q9 9))]))
 (sIO 10 (eIOT (v9 (eC (.str "note")) (v9 (eOp qc (q9 10) 1[5]) (xIO io (v9 (eOp qc (q9 10) 3[5]) uD))))))) qu)
 (qe (wH 7 (q9 9) (q9 10))
 (vV 4 (q9 9) (q9 10))))))
def qeQ{d k:EF}{wd wk:En}(hd:d ρ=.ok wd)(h1:wd.d=.dK kvs)(z:k ρ=.ok wk)(h2:zm wk.d=!q):yT d k ρ=.ok ((look q kvs).getD .non)[8]:=by
 unfold yT;rw[hd,R.bind_ok,h1];dsimp only;rw[z,R.bind_ok,h2];dsimp only;cases look q kvs<;>rfl
def qeR{kvs:List (Sum Int Str×D)}{i:Nat}{k e:EF}{ρ:Rho}{w:En}(h:ρ[i]?=!(!(.dK kvs)[9]))(h2:e ρ=.ok d[8])(z:k ρ=.ok w)(B:zm w.d=!key)(O:kvs[1]<sz) :
  vV i k e ρ=.nx (ρ.set i (!(.dK (qS key d kvs))[9])):=YH h (by rw[h2];rfl) z B O
def AhOk(z:List (Sum Int Str×D)):Prop:=∀ kv∈z,TeOk kv.2
theorem JS:∀{l:List (Sum Int Str×D)},look q l=!d->∃ kv∈l,kv.2=d
 | [],h=>by cases h
 | (x,y)::l,h=>by
  unfold look at h;by_cases c:x=q
  .rw[if_pos c]at h;exact#[(x,y),by simp,by simpa using h]
  rw[if_neg c]at h;obtain⟨kv,m,e⟩:=JS h;exact#[kv,gj _ m,e]
def Mn{z:List (Sum Int Str×D)}(h:AhOk z)(hd:TeOk d):AhOk (qS q d z)/\(qS q d z)[1]<=z[1]+1:=by
 unfold qS;split
 .refine#[λkv hk=>?_,by simp]
  obtain⟨x,hx,rfl⟩:=gH.mp hk;by_cases c:x.1=q
  .rw[if_pos c];exact hd
  rw[if_neg c];exact h x hx
 refine#[λkv hk=>?_,by simp]
 rcases gC.mp hk with hk|hk
 .exact h kv hk
 simp_all
def JT{q z:Sum Int Str}:∀ l,look z (qS q d l)=if q=z then !d else look z l:=by
 intro l;have mp:∀ l,look z (l.map λkv=>if kv.1=q then(kv.1,d)else kv)=if q=z/\(l.any λkv=>decide (kv.1=q))=true then !d else look z l:=by
  intro l
  induction l with
  | nil=>simp[look]
  | cons kv r ih =>
   obtain⟨x,y⟩:=kv;rw[gN];by_cases c:x=q
   .rw[if_pos c];unfold look
    simp_all
   rw[if_neg c];unfold look
   grind
 have ap:∀ l,(l.any λkv=>decide (kv.1=q))=false->look z (l++[(q,d)])=if q=z then !d else look z l:=by
  intro l
  induction l with
  | nil=>intro _;simp[look]
  | cons kv r ih =>
   intro h;obtain⟨x,y⟩:=kv;rw[dO]at h;rw[List.cons_append];unfold look;lia
 unfold qS;cases c:(l.any λkv=>decide (kv.1=q))
 .rw[if_neg "s",ap l c]
 rw[if_pos rfl,mp l,c];simp
structure TsOk{α:Type}(L:Nat)(R:List (List (GE α)))(st:TS)(m:Nat):Prop where
 ki:KI st.kds
 kl:st.kds.length<=24*m
 ah:AhOk st.ah
 al:st.ah.length<=L+m
 rl:st.rows.length=R.length
 rr:∀ r∈st.rows,r[1]<=m
def qeS(o)(h:∀ d,o=!d->TeOk d):TnOk (wR o):=by
 cases o with
 | none=>exact .inl rfl
 | some d =>
  rcases h d rfl with⟨v,e⟩|⟨v,hs,t,e⟩
  .subst e;exact .inl rfl
  subst e;cases t
  .exact .inl rfl
  exact .inr #[hs,rfl]
def Q7{st:TS}(h:AhOk st.ah)(v):TnOk (tOf st v):=qeS _ λd hd=>by obtain⟨kv,m1,m2⟩:=JS hd;rw[<- m2];exact h kv m1
def Mo{F:TF α}{k:Int}{fn:D}{io:IOF}(z:TurnOk F k fn io){T:D}{kds:Kd}(B:TnOk T)(O:KI kds)(e)(U:GeOk F e):TeOk (gEv F T kds e):=by
 cases e with
 | rest v=>exact .inl #[v,rfl]
 | note v x t =>
  obtain⟨hs,h⟩:=z.tp x T kds U.2 B O;exact .inr #[v,hs,t,by show D.tup [.str "note",.int v,F.fx x T kds,.bl t]=_;rw[h]]
def Mp{F:TF α}{k:Int}{fn:D}{io:IOF}(B:TurnOk F k fn io){T:D}{kds:Kd}(O:TnOk T)(z:KI kds)(e)(U:GeOk F e):KI (gKd F T kds e)/\(gKd F T kds e)[1]<=kds[1]+24:=by
 cases e with
 | rest v=>exact#[z,by simp[gKd]]
 | note v x t=>exact B.ki x T kds U.2 O z
def qeT{F:TF α}{k:Int}{fn:D}{io:IOF}(O:TurnOk F k fn io){L:Nat}{R:List (List (GE α))}{st:TS}{m v:Nat}(h:TsOk L R st m)(Y:v<R.length)(e)(U:GeOk F e):TsOk L R (yq F st v e) (m+1):=by
 obtain⟨a,b⟩:=Mp O (Q7 h.ah v) h.ki e U;obtain⟨c,d⟩:=Mn h.ah (Mo O (Q7 h.ah v) h.ki e U);refine#[a,by have:=h.kl;show(gKd F (tOf st v) st.kds e)[1]<=_;lia,c,by have:=h.al;show(qS _ _ st.ah)[1]<=_;lia,by show(st.rows.set v _)[1]=_;rw[dN];exact h.rl,λr hr=>?_]
 rcases List.mem_or_eq_of_mem_set hr with z|z
 .have:=h.rr r z;lia
 subst z;have B:v<st.rows.length:=by rw[h.rl];exact Y
 have:(st.rows.getD v [])[1]<=m:=by
  rw[hU,gE B];exact h.rr _ (fH B)
 simp_all
def Mq{i:Nat}{ρ:Rho}(h:ρ[i]?=!(!d[9]))(z:evs pre ρ=.ok ws)(B:jU ws=.ok ys)(O:evs post ρ=.ok ws2)(U:jU ws2=.ok ys2)(f:(v8 ys&&v8 ys2)=true)(io:w6 dn ys d ys2=.ok (d',g)) :
  eIO dn i pre post ρ=.ok (g,ρ.set i (!d'[9])):=by
 unfold eIO;rw[h];dsimp only;rw[z,R.bind_ok,B,R.bind_ok,O,R.bind_ok,U,R.bind_ok,if_pos f,io]
def qeU{F:TF α}{k:Int}{fn:D}{io:IOF}(hF:TurnOk F k fn io)(R)(R0 told)(st)(m L)(h:TsOk L R st m)(hL:L<=1000000)(hm:m<=5000)(v n:Nat)(q)(r)(e)(Z:R[v]?=!r)(ee:r[n]?=!e)(he:GeOk F e)(j9 j10)(z:Option D):∃ Y:Option D,
  Q6 io [R0,!k[7],!fn[8],told,!(.dK st.ah)[9],!(grD F R)[8],!(.dT st.kds)[9],!(.od (.lst (st.rows.map D.lst))),!(qJ [q,v,n])[8],j9,j10,z.map En.fz]
  = .nx [R0,!k[7],!fn[8],told,!(.dK (yq F st v e).ah)[9],!(grD F R)[8],!(.dT (yq F st v e).kds)[9],!(.od (.lst ((yq F st v e).rows.map D.lst))),!(qJ [q,v,n])[8],!v[7],!(gEv F (tOf st v) st.kds e)[8],Y.map En.fz]:=by
 have hz:sz=16777216:=rfl;have hv:v<R.length:=(gp.mp Z).1;have B:v<st.rows.length:=by rw[h.rl];exact hv
 have i1:qc (qJ [q,v,n]) 1[6]=.ok v[7]:=rfl;have i2:qc (qJ [q,v,n]) 2[6]=.ok n[7]:=rfl;have b1:qc (grD F R) v[6]=.ok (gwD F r)[8]:=by
  show okD (ati (R.map (gwD F)) v)=_;rw[zC,gG,Z];rfl
 have b2:qc (gwD F r) n[6]=.ok (geD F e)[8]:=by
  show okD (ati (r.map (geD F)) n)=_;rw[zC,gG,ee];rfl
 have tl:∀ A C K x,(qe (wH 7 (q9 9) (q9 10)) (vV 4 (q9 9) (q9 10))) [R0,!k[7],!fn[8],told,!(.dK st.ah)[9],!(grD F R)[8],!(.dT K)[9],!(.od (.lst (st.rows.map D.lst))),A,!v[7],!x[8],C]
   = .nx [R0,!k[7],!fn[8],told,!(.dK (qS (Sum.inl v) x st.ah))[9],!(grD F R)[8],!(.dT K)[9],!(.od (.lst ((st.rows.set v ((st.rows.getD v [])++[x])).map D.lst))),A,!v[7],!x[8],C]:=λA C K x=>by
  have gd:st.rows.getD v []=st.rows[v]:=by rw[hU,gE B];rfl
  have rl:=h.rr _ (fH B);rw[ji,VT (k:=v) (ds:=st.rows.map D.lst) (xs:=st.rows[v]) (d:=x) rfl (by left) (by left) (by rw[gG,gE B];rfl) "",jy]
  rw[qeR (kvs:=st.ah) (d:=x) (w:=.fz v[6]) (key:=Sum.inl v) rfl (by left) (by left) rfl (by have:=h.al;lia)]
  rw[gd,List.map_set];rfl
 have s9:(qj 9 (eOp qc (q9 8) 1[5])) [R0,!k[7],!fn[8],told,!(.dK st.ah)[9],!(grD F R)[8],!(.dT st.kds)[9],!(.od (.lst (st.rows.map D.lst))),!(qJ [q,v,n])[8],j9,j10,z.map En.fz]=.nx [R0,!k[7],!fn[8],told,!(.dK st.ah)[9],!(grD F R)[8],!(.dT st.kds)[9],!(.od (.lst (st.rows.map D.lst))),!(qJ [q,v,n])[8],!v[7],j10,z.map En.fz]:=by simp![i1]
 have O:(qj 10 (eOp qc (eOp qc (q9 5) (q9 9)) (eOp qc (q9 8) 2[5]))) [R0,!k[7],!fn[8],told,!(.dK st.ah)[9],!(grD F R)[8],!(.dT st.kds)[9],!(.od (.lst (st.rows.map D.lst))),!(qJ [q,v,n])[8],!v[7],j10,z.map En.fz]=.nx [R0,!k[7],!fn[8],told,!(.dK st.ah)[9],!(grD F R)[8],!(.dT st.kds)[9],!(.od (.lst (st.rows.map D.lst))),!(qJ [q,v,n])[8],!v[7],!(geD F e)[8],z.map En.fz]:=by simp![b1,i2,b2]
 cases e with
 | rest va =>
  refine#[z,?_];have i0:qc (geD F (.rest va)) 0[6]=.ok (.str "rest")[8]:=rfl;have nq:(tE (eOp dEq (eOp qc (q9 10) 0[5]) (eC (.str "note")))) [R0,!k[7],!fn[8],told,!(.dK st.ah)[9],!(grD F R)[8],!(.dT st.kds)[9],!(.od (.lst (st.rows.map D.lst))),!(qJ [q,v,n])[8],!v[7],!(geD F (.rest va))[8],z.map En.fz]=.ok false:=by simp![i0,UF]
  unfold Q6;rw[ji,s9,jy,ji,O,jy,ji,yJ,nq,zD,QH,QJ,jy,tl];rfl
 | note va x t =>
  obtain⟨te,_⟩:=qeP (look (Sum.inl (v:Int)) st.ah) (λd hd=>by obtain⟨kv,m1,m2⟩:=JS hd;rw[<- m2];exact h.ah kv m1)
  have i0:qc (geD F (.note va x t)) 0[6]=.ok (.str "note")[8]:=rfl;refine#[!(tOf st v),?_];have go:∀ A,(sIO 10 (eIOT (v9 (eC (.str "note")) (v9 (eOp qc (q9 10) 1[5]) (xIO io (v9 (eOp qc (q9 10) 3[5]) uD)))))) [R0,!k[7],!fn[8],told,!(.dK st.ah)[9],!(grD F R)[8],!(.dT st.kds)[9],!(.od (.lst (st.rows.map D.lst))),A,!v[7],!(geD F (.note va x t))[8],!(tOf st v)[8]]
    = .nx [R0,!k[7],!fn[8],told,!(.dK st.ah)[9],!(grD F R)[8],!(.dT (F.fk x (tOf st v) st.kds))[9],!(.od (.lst (st.rows.map D.lst))),A,!v[7],!(gEv F (tOf st v) st.kds (.note va x t))[8],!(tOf st v)[8]]:=λA=>by
   have iv:=hF.run R0 told A st.ah (grD F R) st.kds (.lst (st.rows.map D.lst)) v va x t (tOf st v) he.2 (Q7 h.ah v) h.ki (by have:=h.kl;lia)
   have xe:(eIOT (v9 (eC (.str "note")) (v9 (eOp qc (q9 10) 1[5]) (xIO io (v9 (eOp qc (q9 10) 3[5]) uD))))) [R0,!k[7],!fn[8],told,!(.dK st.ah)[9],!(grD F R)[8],!(.dT st.kds)[9],!(.od (.lst (st.rows.map D.lst))),A,!v[7],!(geD F (.note va x t))[8],!(tOf st v)[8]]
     = .ok (gEv F (tOf st v) st.kds (.note va x t),[R0,!k[7],!fn[8],told,!(.dK st.ah)[9],!(grD F R)[8],!(.dT (F.fk x (tOf st v) st.kds))[9],!(.od (.lst (st.rows.map D.lst))),A,!v[7],!(geD F (.note va x t))[8],!(tOf st v)[8]]):=by
    unfold eIOT v9 xIO;rw[show(eC (.str "note")) [R0,!k[7],!fn[8],told,!(.dK st.ah)[9],!(grD F R)[8],!(.dT st.kds)[9],!(.od (.lst (st.rows.map D.lst))),A,!v[7],!(geD F (.note va x t))[8],!(tOf st v)[8]]=.ok (.str "note")[8]from rfl]
    rw[show(eOp qc (q9 10) 1[5]) [R0,!k[7],!fn[8],told,!(.dK st.ah)[9],!(grD F R)[8],!(.dT st.kds)[9],!(.od (.lst (st.rows.map D.lst))),A,!v[7],!(geD F (.note va x t))[8],!(tOf st v)[8]]=.ok va[7]from rfl,iv]
    rfl
   unfold sIO;rw[xe];rfl
  have nq:(tE (eOp dEq (eOp qc (q9 10) 0[5]) (eC (.str "note")))) [R0,!k[7],!fn[8],told,!(.dK st.ah)[9],!(grD F R)[8],!(.dT st.kds)[9],!(.od (.lst (st.rows.map D.lst))),!(qJ [q,v,n])[8],!v[7],!(geD F (.note va x t))[8],z.map En.fz]=.ok true:=by simp![i0,UG]
  have ge:(yT (q9 4) (q9 9)) [R0,!k[7],!fn[8],told,!(.dK st.ah)[9],!(grD F R)[8],!(.dT st.kds)[9],!(.od (.lst (st.rows.map D.lst))),!(qJ [q,v,n])[8],!v[7],!(geD F (.note va x t))[8],z.map En.fz]=.ok ((look (Sum.inl (v:Int)) st.ah).getD .non)[8]:=qeQ (wd:=.br (.dK st.ah)) (wk:=.fz v[6]) rfl rfl rfl rfl;have U:(qj 11 (qg yf [(yT (q9 4) (q9 9))])) [R0,!k[7],!fn[8],told,!(.dK st.ah)[9],!(grD F R)[8],!(.dT st.kds)[9],!(.od (.lst (st.rows.map D.lst))),!(qJ [q,v,n])[8],!v[7],!(geD F (.note va x t))[8],z.map En.fz]=.nx [R0,!k[7],!fn[8],told,!(.dK st.ah)[9],!(grD F R)[8],!(.dT st.kds)[9],!(.od (.lst (st.rows.map D.lst))),!(qJ [q,v,n])[8],!v[7],!(geD F (.note va x t))[8],!(tOf st v)[8]]:=by simp![ge,te,tOf]
  unfold Q6;rw[ji,s9,jy,ji,O,jy,ji,yJ,nq,zD,ZI,ji,U,jy,go,jy,tl];rfl
section
variable{α:Type}{F:TF α}{k:Int}{fn:D}{io:IOF}
def qeV(h:GeOk F e):1<=gv e:=by
 cases e with
 | rest v=>exact h
 | note v x t=>exact h.1
abbrev qQ{α:Type}(R:List (List (GE α))):List (List Int):=R.map (·.map gv)
def JU{R:List (List (GE α))}(z:∀ r∈R,∀ e∈r,GeOk F e):∀ r∈qQ R,∀ x∈r,1<=x:=by
 intro r hr x hx;obtain⟨q,hq,rfl⟩:=gH.mp hr;obtain⟨e,he,rfl⟩:=gH.mp hx;exact qeV (z q hq e he)
def Q8{R:List (List (GE α))}(B:∀ r∈R,∀ e∈r,GeOk F e){z O:List (List Int)}{s:List Int}(h:qX (qF 0 (qQ R))=z++s::O) :
  ∃(q:Int) (v n:Nat) (r:List (GE α)) (e:GE α),s=[q,v,n]/\R[v]?=!r/\r[n]?=!e/\n=(z.filter λt=>vof t==v)[1]/\evAt R s=!e/\∀ st,jK F R st s=yq F st v e:=by
 obtain⟨q,v,n,r',e1,e2,e3,e4⟩:=qeN (qQ R) (JU B) h;rw[gG]at e2;cases er:R[v]? with
 | none=>rw[er]at e2;cases e2
 | some r =>
  rw[er]at e2;obtain rfl:r.map gv=r':=by simpa using e2
  rw[gg]at e3;have ee:=gE e3;have ev:evAt R s=!r[n]:=by
   subst e1;show(R[((v:Int)).toNat]?).bind _=_;rw[fK,er]
   assumption
  refine#[q,v,n,r,r[n],e1,er,ee,e4,ev,λst=>?_]
  unfold jK;rw[ev];subst e1;rfl
def Mr(Z:TurnOk F k fn io)(R)(hR:∀ r∈R,∀ e∈r,GeOk F e)(R0 told)(L)(hL:L<=1000000)(hl:(qX (qF 0 (qQ R)))[1]<=5000):∀ S2 S1 st (j8 j9 z B:Option D),qX (qF 0 (qQ R))=S1++S2->TsOk L R st S1.length ->
  (∃ i8 i9 O U:Option D,qD (gV 8) (Q6 io) (S2.map qJ) [R0,!k[7],!fn[8],told,!(.dK st.ah)[9],!(grD F R)[8],!(.dT st.kds)[9],!(.od (.lst (st.rows.map D.lst))),j8.map En.fz,j9.map En.fz,z.map En.fz,B.map En.fz]
  = .nx [R0,!k[7],!fn[8],told,!(.dK (S2.foldl (jK F R) st).ah)[9],!(grD F R)[8],!(.dT (S2.foldl (jK F R) st).kds)[9],!(.od (.lst ((S2.foldl (jK F R) st).rows.map D.lst))),i8.map En.fz,i9.map En.fz,O.map En.fz,U.map En.fz])/\TsOk L R (S2.foldl (jK F R) st) (S1++S2)[1]:=by
 intro S2
 induction S2 with
 | nil=>intro S1 st j8 j9 z B _ h;exact#[#[j8,j9,z,B,rfl],by simpa using h]
 | cons s S2 ih =>
  intro S1 st j8 j9 z B e h;obtain⟨q,v,n,r,ev,e1,er,ee,_,_,sp⟩:=Q8 hR e;have pe:=hR r (hX er) ev (hX ee);have hm:S1.length<=5000:=by rw[e,gD]at hl;lia
  obtain⟨U,se⟩:=qeU Z R R0 told st S1.length L h hL hm v n q r ev er ee pe (j9.map En.fz) (z.map En.fz) B;obtain⟨⟨i8,i9,O,Y,f⟩,t⟩:=ih (S1++[s]) (yq F st v ev) (!(qJ s)) (!v[6]) (!(gEv F (tOf st v) st.kds ev)) U (by rw[e];simp) (by rw[gD];exact(qeT Z h (gp.mp er).1 ev pe))
  rw[p9,sp];refine#[#[i8,i9,O,Y,?_],by simpa using t]
  rw[gN,zR (yM)];simp[fO,fP];subst e1;rw[se];exact f
def bar0(R:List (List (GE α)))(z:List (Sum Int Str×D)):TS:=#[[],R.map λ_=>[],z]
def qG(F:TF α)(R:List (List (GE α)))(z:List (Sum Int Str×D)):TS:=(qX (qF 0 (qQ R))).foldl (jK F R) (bar0 R z)
def brT(t:TS):D:=.lst (t.rows.map D.lst)
def Q9{R:List (List (GE α))}(z:R.length<=8)(B:∀ r∈R,r[1]<=500):(qX (qF 0 (qQ R)))[1]<=4000:=by
 rw[(y7 _).length_eq];have:=Wf 500 (qQ R) 0 λr hr=>by
  obtain⟨q,hq,rfl⟩:=gH.mp hr
  simp_all
 grind
def Ms{R:List (List (GE α))}{z:List (Sum Int Str×D)}(B:AhOk z)(O:z[1]<=L):TsOk L R (bar0 R z) 0:=by
 refine#[λ_ h=>(by cases h),tJ _,B,O,?_,λr hr=>?_]
 .show(R.map λ_=>[])[1]=_
  simp
 obtain⟨x,_,e⟩:=gH.mp (hr)
 simp_all
def Wl(F:TF α)(r:List (GE α)):Prop:=(∀ e∈r,GeOk F e)/\r[1]<=500/\1<=r[1]
def jX(F:TF α)(R:List (List (GE α))):Prop:=R.length<=8/\∀ r∈R,Wl F r
abbrev Qa(io:IOF):SF:=(qe (qj 6 eDT)
 (qe (uA 7 (Kq 1 (iVc 5) (gV 12) (jg [])))
 (qe (qO (jc (qg wg [(q9 5)])) (gV 8) (Q6 io))
 (y9 7 (jB 7 (qN 3 (q9 7)))))))
def xG(F:TF α)(R:List (List (GE α))):List (List EvS):=R.map λr=>r.map λe=>(geD F e,gv e)
def qeW(R):evSB (xG F R)=grD F R:=by
 unfold evSB xG;rw[h9];congr 1;apply tq;intro r _;show D.lst ((r.map λe=>(geD F e,gv e)).map Prod.fst)=_
 rw[h9];rfl
def qeX(R):(xG F R).map (·.map Prod.snd)=qQ R:=by
 unfold xG;simp
def Mt(R)(h:jX F R)(w)(z:w=.fz (grD F R)\/w=.br (grD F R)):wg [w]=.ok (.lst ((qX (qF 0 (qQ R))).map qJ))[9]:=by
 have io:=qeE (xG F R) (λr hr e he=>by
  obtain⟨q,hq,rfl⟩:=gH.mp hr;obtain⟨x,hx,rfl⟩:=gH.mp he;cases x<;>rfl) (λr hr=>by
  obtain⟨q,hq,rfl⟩:=gH.mp hr;rw[gg];have:=(h.2 q hq).2.1;lia) (by unfold xG;rw[gg];have:=h.1;lia) w (by rw[qeW];exact z)
 rw[qeX]at io;exact io
def qeY(hF:TurnOk F k fn io)(R)(h:jX F R)(W)(B)(hW:W=.fz B\/W=.br B)(T)(hT:T[1]<=1000)(ah)(ha:AhOk ah)(L)(hL:L<=1000000)(hb:ah[1]<=L)(x6:Option Kd)(j7 j8 j9 O U:Option D):∃ i8 i9 Y Z:Option D,
  (Qa io) [!W,!k[7],!fn[8],!(.lst T)[9],!(.dK ah)[9],!(grD F R)[8],x6.map λq=>En.ow (.dT q),j7.map En.fz,j8.map En.fz,j9.map En.fz,O.map En.fz,U.map En.fz]
  = .nx [!W,!k[7],!fn[8],!(.lst (T++[brT (qG F R ah)]))[9],!(.dK (qG F R ah).ah)[9],!(grD F R)[8],!(.dT (qG F R ah).kds)[9],!(brT (qG F R ah))[8],i8.map En.fz,i9.map En.fz,Y.map En.fz,Z.map En.fz]:=by
 have hz:sz=16777216:=rfl;have hR:∀ r∈R,∀ e∈r,GeOk F e:=λr hr=>(h.2 r hr).1
 have ln:=Q9 h.1 λr hr=>(h.2 r hr).2.1
 have r0:(bar0 R ah).rows.map D.lst=(R.map (gwD F)).map λ_=>D.lst []:=by
  show(R.map λ_=>[]).map D.lst=_
  simp
 obtain⟨⟨i8,i9,Y,Z,f⟩,t⟩:=Mr hF R hR ↑W (!(.lst T)[9]) L hL "" (qX (qF 0 (qQ R))) [] (bar0 R ah) j8 j9 O U rfl (Ms ha hb)
 rw[show(bar0 R ah).ah=ah from rfl,show(bar0 R ah).kds=[]from rfl,r0]at f
 refine#[i8,i9,Y,Z,?_];unfold Qa;rw[ji,show(qj 6 eDT) [!W,!k[7],!fn[8],!(.lst T)[9],!(.dK ah)[9],!(grD F R)[8],x6.map λq=>En.ow (.dT q),j7.map En.fz,j8.map En.fz,j9.map En.fz,O.map En.fz,U.map En.fz]=.nx [!W,!k[7],!fn[8],!(.lst T)[9],!(.dK ah)[9],!(grD F R)[8],!(.dT [])[9],j7.map En.fz,j8.map En.fz,j9.map En.fz,O.map En.fz,U.map En.fz]from rfl,jy]
 rw[ji,qe6 (ds:=(R.map (gwD F)).map λ_=>D.lst []) (qe8 (ds:=R.map (gwD F)) (y6 (w:=.fz (grD F R)) rfl rfl) (by rw[gg];have:=h.1;lia) (qe7 adO 12 (λ_=>D.lst []) _ _ λd _=>#[.ow (.lst []),rfl,rfl])) (by rcases hW with z|z<;>(subst z;cases j7<;>cases j8<;>cases j9<;>cases O<;>cases U<;>rfl)),jy]
 simp only[fO,fP];have it:jc (qg wg [(q9 5)]) [!W,!k[7],!fn[8],!(.lst T)[9],!(.dK ah)[9],!(grD F R)[8],!(.dT [])[9],!(.od (.lst ((R.map (gwD F)).map λ_=>D.lst []))),j8.map En.fz,j9.map En.fz,O.map En.fz,U.map En.fz]=.ok ((qX (qF 0 (qQ R))).map qJ) :=
  vQ (w:=.ow (.lst ((qX (qF 0 (qQ R))).map qJ))) (by simp![Mt R h _ (.inl rfl)]) rfl
 rw[ji,QK,it,zD,f];show(qN 3 (q9 7)) [!W,!k[7],!fn[8],!(.lst T)[9],!(.dK (qG F R ah).ah)[9],!(grD F R)[8],!(.dT (qG F R ah).kds)[9],!(brT (qG F R ah))[8],i8.map En.fz,i9.map En.fz,Y.map En.fz,Z.map En.fz]=_;rw[zh (xs:=T) (d:=brT (qG F R ah)) rfl "" rfl]
 rfl
def barsT(F:TF α):List (List (List (GE α)))->List (Sum Int Str×D)->List TS
 | [],_=>[]
 | R::Rs,ah=>qG F R ah::barsT F Rs (qG F R ah).ah
def Mu(z:TurnOk F k fn io)(R)(h:jX F R)(ah)(B:AhOk ah)(L)(O:L<=1000000)(U:ah[1]<=L):TsOk L R (qG F R ah) (qX (qF 0 (qQ R)))[1]:=by
 have hR:=λr hr=>(h.2 r hr).1
 have ln:=Q9 h.1 λr hr=>(h.2 r hr).2.1
 have:=(Mr z R hR none none L O "" (qX (qF 0 (qQ R))) [] (bar0 R ah) none none none none rfl (Ms B U)).2
 exact this
def qeZ(Z:TurnOk F k fn io)(W)(B)(hW:W=.fz B\/W=.br B):∀ Rs T ah L (x5:Option D) (x6:Option Kd) (j7 j8 j9 z O:Option D),(∀ R∈Rs,jX F R)->T[1]+Rs.length<=1000->AhOk ah->ah[1]<=L->L+4096*Rs.length<=1000000->∃ ρ,
  qD (gV 5) (Qa io) (Rs.map (grD F)) [!W,!k[7],!fn[8],!(.lst T)[9],!(.dK ah)[9],x5.map En.fz,x6.map λq=>En.ow (.dT q),j7.map En.fz,j8.map En.fz,j9.map En.fz,z.map En.fz,O.map En.fz]=.nx ρ/\ρ[3]?=!(!(.lst (T++(barsT F Rs ah).map brT))[9]):=by
 intro Rs
 induction Rs with
 | nil=>intro T ah L x5 x6 j7 j8 j9 z O _ _ _ _ _;exact#[_,rfl,by simp[barsT]]
 | cons R Rs ih =>
  intro T ah L x5 x6 j7 j8 j9 z O hk hT ha hl hL;rw[gJ]at hT hL;have h:=hk R "s"
  have ln:=Q9 h.1 λr hr=>(h.2 r hr).2.1
  obtain⟨i8,i9,U,Y,e⟩:=qeY Z R h W B hW T "" ah ha L "" hl x6 j7 j8 j9 z O
  have to:=Mu Z R h ah ha L "" hl
  obtain⟨ρ,e2,e3⟩:=ih (T++[brT (qG F R ah)]) (qG F R ah).ah (L+4096) (!(grD F R)) (!(qG F R ah).kds) (!(brT (qG F R ah))) i8 i9 U Y (λx hx=>hk x (gj _ hx)) (by rw[gD];simp;lia) to.ah (by have:=to.al;lia) ""
  refine#[ρ,?_,by rw[e3];simp[barsT]]
  rw[gN,zR (yM)];simp[fO,fP];rw[e];exact e2
abbrev Mv(io:IOF):SF:=(qe (qj 3 (jg []))
 (qe (qj 4 eDK)
 (qe (jB 0 (qO (iV 0) (gV 5) (Qa io)))
 (jw 3))))
def Mw(O:TurnOk F k fn io)(Rs)(h:∀ R∈Rs,jX F R)(U:Rs.length<=200)(w)(B:w=.fz (.lst (Rs.map (grD F)))\/w=.br (.lst (Rs.map (grD F)))) :
  den 12 (Mv io) [w,.fz k[6],.fz fn]=.ok (.lst ((barsT F Rs []).map brT))[9]:=by
 obtain⟨ρ,e,e3⟩:=qeZ O w (.lst (Rs.map (grD F))) B Rs [] [] 0 none none none none none none none h (by simp;lia) (λ_ z=>(by cases z)) (gw _) ""
 have it:iV 0 [!w,!k[7],!fn[8],!(.lst [])[9],!(.dK [])[9],none,none,none,none,none,none,none]=.ok (Rs.map (grD F)):=by rcases B with z|z<;>(subst z;rfl)
 have fr:kT (!(!w)) 0 [!w,!k[7],!fn[8],!(.lst [])[9],!(.dK [])[9],none,none,none,none,none,none,none]=[!w,!k[7],!fn[8],!(.lst [])[9],!(.dK [])[9],none,none,none,none,none,none,none]:=by rcases B with z|z<;>(subst z;rfl)
 show fin (qe (qj 3 (jg [])) _ [!w,!k[7],!fn[8],none,none,none,none,none,none,none,none,none])=_;rw[ji,show(qj 3 (jg [])) [!w,!k[7],!fn[8],none,none,none,none,none,none,none,none,none]=.nx [!w,!k[7],!fn[8],!(.lst [])[9],none,none,none,none,none,none,none,none]from rfl,jy,ji,show(qj 4 eDK) [!w,!k[7],!fn[8],!(.lst [])[9],none,none,none,none,none,none,none,none]=.nx [!w,!k[7],!fn[8],!(.lst [])[9],!(.dK [])[9],none,none,none,none,none,none,none]from rfl,jy,ji,qbF,show([!w,!k[7],!fn[8],!(.lst [])[9],!(.dK [])[9],none,none,none,none,none,none,none])[0]?=↑(!w)from rfl,fr,QK,it,zD]
 have e:qD (gV 5) (Qa io) (Rs.map (grD F)) [!w,!k[7],!fn[8],!(.lst [])[9],!(.dK [])[9],none,none,none,none,none,none,none]=.nx ρ:=e;rw[e,jy];unfold jw;rw[e3];rfl
def JV:GE α->Bool
 | .rest _=>false
 | .note _ _ t=>t
def qf0(T)(kds)(e):zT (!(gEv F T kds e))=JV e:=by cases e<;>rfl
def cnt(z:List (List Int))(v:Nat):Nat:=(z.filter λt=>vof t==(v:Int))[1]
def Qb(r:List (GE α))(c:Nat)(b:Bool):Bool:=match c with
 | 0=>b
 | c+1=>match r[c]? with|some e=>JV e|none=>false
def Tr(R:List (List (GE α)))(ah:List (Sum Int Str×D))(z:List (List Int))(st:TS):Prop :=
 st.rows.length=R.length/\∀(v:Nat) (r:List (GE α)),R[v]?=!r->(st.rows.getD v [])[1]=cnt z v/\zT (look (Sum.inl (v:Int)) st.ah)=Qb r (cnt z v) (zT (look (Sum.inl (v:Int)) ah))
def tr_0(R:List (List (GE α)))(ah):Tr R ah [] (bar0 R ah):=by
 refine#[by show(R.map λ_=>[])[1]=_;rw[gg],λv r h=>#[?_,rfl]]
 show((R.map λ_=>[]).getD v [])[1]=0
 simp_all
def Wm(S1)(s)(v):cnt (S1++[s]) v=cnt S1 v+if vof s=v then 1 else 0:=by
 unfold cnt;by_cases c:vof s=v
 .simp_all
 simp_all
def JW{R:List (List (GE α))}(O:∀ r∈R,∀ e∈r,GeOk F e){ah:List (Sum Int Str×D)}{B U:List (List Int)}{s:List Int}{st:TS}(h:qX (qF 0 (qQ R))=B++s::U)(t:Tr R ah B st):Tr R ah (B++[s]) (jK F R st s):=by
 obtain⟨q,v,n,r,e,e1,er,ee,en,_,sp⟩:=Q8 O h;rw[sp];obtain⟨tl,tt⟩:=t;have hv:v<st.rows.length:=by rw[tl];exact(gp.mp er).1
 have vs:vof s=v:=by subst e1;rfl
 refine#[by show(st.rows.set v _)[1]=_;rw[dN];exact tl,λu ru hu=>?_]
 obtain⟨a,b⟩:=tt u ru hu;rw[Wm];by_cases c:u=v
 .subst c;rw[er]at hu;cases hu;rw[if_pos vs];constructor
  .show((st.rows.set u _).getD u [])[1]=_;rw[hU,List.getElem?_set_self hv];show(st.rows.getD u []++[_])[1]=_;rw[gD,a];rfl
  show zT (look (Sum.inl (u:Int)) (qS (Sum.inl u) _ st.ah))=_;rw[JT,if_pos rfl,qf0];show _=(match r[cnt B u]? with|some e=>JV e|none=>false)
  rw[show cnt B u=n from en.symm,ee]
 have ne:¬ (vof s=u):=by rw[vs];lia
 rw[if_neg ne];constructor
 .show((st.rows.set v _).getD u [])[1]=_;rw[hU,gW (tf c)];exact a
 show zT (look (Sum.inl (u:Int)) (qS (Sum.inl v) _ st.ah))=_;rw[JT,if_neg (by intro z;lia)]
 exact b
def qf1{R:List (List (GE α))}(z:∀ r∈R,∀ e∈r,GeOk F e){B:List (Sum Int Str×D)}:∀ S2 S1 st,qX (qF 0 (qQ R))=S1++S2->Tr R B S1 st->∀(v n:Nat) x,(st.rows.getD v [])[n]?=!x->((S2.foldl (jK F R) st).rows.getD v [])[n]?=!x:=by
 intro S2
 induction S2 with
 | nil=>intro S1 st _ _ v n x h;exact h
 | cons s S2 ih =>
  refine λS1 st h t u n x hx=>ih (S1++[s]) (jK F R st s) (by rw[h];simp) (JW z h t) u n x ?_
  obtain⟨q,v,m,r,e,e1,er,ee,en,_,sp⟩:=Q8 z h;rw[sp];have hv:v<st.rows.length:=by rw[t.1];exact(gp.mp er).1
  show((st.rows.set v _).getD u [])[n]?=!x;by_cases c:u=v
  .subst c;rw[hU,List.getElem?_set_self hv];show(st.rows.getD u []++[_])[n]?=_;rw[t3 (gp.mp hx).1];exact hx
  rw[hU,gW (tf c)];exact hx
def Mx{R:List (List (GE α))}(B:∀ r∈R,∀ e∈r,GeOk F e){ah:List (Sum Int Str×D)}{z O:List (List Int)}{s:List Int}{st:TS}(h:qX (qF 0 (qQ R))=z++s::O)(t:Tr R ah z st)(Y:qG F R ah=(s::O).foldl (jK F R) st)
  {q:Int}{v n:Nat}{r:List (GE α)}{e:GE α}(Z:s=[q,(v:Int),n])(U:R[v]?=!r)(ee:r[n]?=!e):((qG F R ah).rows.getD v [])[n]?=!(gEv F (tOf st v) st.kds e)/\zT (look (Sum.inl (v:Int)) st.ah)=Qb r n (zT (look (Sum.inl (v:Int)) ah)):=by
 obtain⟨q',v',n',r',e',f1,f2,f3,f4,_,sp⟩:=Q8 B h;have z1:v=v':=""
 have z2:n=n':=""
 subst z1 z2;obtain⟨a,b⟩:=t.2 v r U;have cn:cnt z v=n:=f4.symm;rw[cn]at a b;refine#[?_,b];rw[Y];refine qf1 B O (z++[s]) (jK F R st s) (by rw[h];simp) (JW B h t) v n _ ?_
 rw[sp];have hv:v<st.rows.length:=by rw[t.1];exact(gp.mp U).1
 show((st.rows.set v _).getD v [])[n]?=_
 simp_all
theorem Wn{R:List (List (GE α))}(z:∀ r∈R,∀ e∈r,GeOk F e){O:List (Sum Int Str×D)}:∀ A S1 B st,qX (qF 0 (qQ R))=S1++(A++B)->Tr R O S1 st->Tr R O (S1++A) (A.foldl (jK F R) st)
 | [],S1,B,st,_,t=>by rw[tQ];exact t
 | s::A,S1,B,st,h,t=>by
  have h1:=h;have:=Wn z A (S1++[s]) B (jK F R st s) (by rw[h1];simp) (JW z h1 t)
  simpa using this
def qf2{R:List (List (GE α))}(z:∀ r∈R,∀ e∈r,GeOk F e)(ah):Tr R ah (qX (qF 0 (qQ R))) (qG F R ah):=by
 have:=Wn z (qX (qF 0 (qQ R))) [] [] (bar0 R ah) "s" (tr_0 R ah)
 exact this
def Wo{R:List (List (GE α))}(z:∀ r∈R,∀ e∈r,GeOk F e){v:Nat}{r:List (GE α)}(B:R[v]?=!r):cnt (qX (qF 0 (qQ R))) v=r[1]:=by
 unfold cnt;rw[(Wj (qQ R) (JU z) v (r.map gv) (by rw[gG,B];rfl)),JP,gg]
def JX{R:List (List (GE α))}(z:∀ r∈R,∀ e∈r,GeOk F e)(ah):(qG F R ah).rows.length=R.length/\∀ v r,R[v]?=!r->((qG F R ah).rows.getD v [])[1]=r[1]/\zT (look (Sum.inl (v:Int)) (qG F R ah).ah)=Qb r r[1] (zT (look (Sum.inl (v:Int)) ah)):=by
 obtain⟨a,b⟩:=qf2 z ah;refine#[a,λv r er=>?_]
 obtain⟨c,d⟩:=b v r er;rw[Wo z er]at c d;exact#[c,d]
theorem Mz(v):∀ r p n (i:Nat),i<r[1]->∃ q,(jA v p n r)[i]?=↑[q,v,n+i]
 | [],_,_,_,hz=>by simp at hz
 | x::r,p,n,0,h=>#[p,by simp[jA]]
 | x::r,p,n,i+1,h=>by
  obtain⟨q,e⟩:=Mz v r (p+x) (n+1) i h[""]
  exact#[q,by rw[jA,cQ,e];simp;lia]
def qf3{R:List (List (GE α))}(z:∀ r∈R,∀ e∈r,GeOk F e){v n:Nat}{r:List (GE α)}(B:R[v]?=!r)(O:n<r[1]):∃ q S1 S2,qX (qF 0 (qQ R))=S1++[q,(v:Int),n]::S2:=by
 obtain⟨q,e⟩:=Mz v (r.map gv) 0 0 n (by rw[gg];exact O)
 rw[Int.zero_add]at e;have m:[q,v,n]∈qX (qF 0 (qQ R)):=by
  have:[q,v,n]∈(qX (qF 0 (qQ R))).filter λs=>vof s==v:=by
   rw[(Wj (qQ R) (JU z) v (r.map gv) (by rw[gG,B];rfl))]
   exact hX e
  simp_all
 obtain⟨S1,S2,h⟩:=List.append_of_mem m;exact#[q,S1,S2,h]
def qf4{R:List (List (GE α))}(z:∀ r∈R,∀ e∈r,GeOk F e)(ah){v n:Nat}{r:List (GE α)}{e:GE α}(B:R[v]?=!r)(O:r[n]?=!e):∃ T kds,((qG F R ah).rows.getD v [])[n]?=!(gEv F T kds e):=by
 obtain⟨q,S1,S2,h⟩:=qf3 z B (gp.mp O).1;have ht:qG F R ah=([q,v,n]::S2).foldl (jK F R) (S1.foldl (jK F R) (bar0 R ah)):=by
  unfold qG
  simp_all
 exact#[_,_,(Mx z h (Wn z S1 [] ([q,v,n]::S2) (bar0 R ah) (by rw[pF];exact h) (tr_0 R ah)) ht rfl B O).1]
end
structure H3 where
 m:Nat
 o:Int
 s:Option Int
def sD:Option Int->D
 | none=>.non
 | some n=>.int n
def h3D(h:H3):D:=.tup [.str (fcg h.m),.int h.o,sD h.s]
def kyM(m:Nat)(o:Int):List (Sum Int Str):=[.inr (fcg m),.inl o]
def byM(kds:Kd)(m:Nat)(o k:Int):Int:=match look (kyM m o) kds with|some n[6]=>n|_=>yp m k
def pcK(kds:Kd)(h:H3):Kd:=match h.s with|some n=>qS (kyM h.m h.o) n[6] kds|none=>kds
def pcP(k:Int)(kds:Kd)(h:H3):Int:=12*h.o+grd h.m+byM (pcK kds h) h.m h.o k
def zU:Kd->List H3->Kd
 | kds,[]=>kds
 | kds,h::hs=>zU (pcK kds h) hs
def wS(k:Int):Kd->List H3->List Int
 | _,[]=>[]
 | kds,h::hs=>pcP k kds h::wS k (pcK kds h) hs
def MA(z:KI kds)(h):KI (pcK kds h)/\(pcK kds h)[1]<=kds[1]+1:=by
 unfold pcK;cases h.s with
 | none=>exact#[z,by simp]
 | some n=>exact M8 z _ _
theorem MB:∀ hs kds,KI kds->KI (zU kds hs)/\(zU kds hs)[1]<=kds[1]+hs[1]
 | [],kds,h=>#[h,by simp[zU]]
 | x::hs,kds,h=>by
  obtain⟨a,b⟩:=MA h x;obtain⟨c,d⟩:=MB hs _ a;exact#[c,by rw[zU,gJ];lia]
def MC(m)(o):jF [.str (fcg m),.int o]=!(kyM m o):=rfl
def qf5(h:KI kds)(m)(o k):xh kds (kyM m o) (yp m k)[7]=.ok (byM kds m o k)[7]:=by
 unfold xh byM;rcases M7 h (kyM m o)with e|⟨n,e⟩<;>rw[e]
def qf6(h:KI kds)(m)(O:m<7)(o k)(w)(B:w=.br (.dT kds)\/w=.fz (.dT kds)):yi [.fz (.str (fcg m)),.fz o[6],w,.fz k[6]]=.ok (byM kds m o k)[7]:=by
 have hz:sz=16777216:=rfl;show fin ((qt (ye (q9 2) [(q9 0),(q9 1)] (qg wm [(q9 0),(q9 3)]))) [!(.str (fcg m))[8],!o[7],!w,!k[7]])=_;have e:ye (q9 2) [(q9 0),(q9 1)] (qg wm [(q9 0),(q9 3)]) [!(.str (fcg m))[8],!o[7],!w,!k[7]]=.ok (byM kds m o k)[7]:=by
  have ve:(q9 2) [!(.str (fcg m))[8],!o[7],!w,!k[7]]=.ok w:=by rcases B with z|z<;>(subst z;rfl)
  have oe:(qg wm [(q9 0),(q9 3)]) [!(.str (fcg m))[8],!o[7],!w,!k[7]]=.ok (yp m k)[7]:=by simp![(M6 m O k)]
  have wd:w.d=.dT kds:=by rcases B with z|z<;>(subst z;rfl)
  unfold ye;rw[ve,R.bind_ok,wd];show xi (jF [.str (fcg m),.int o]) _=_;rw[MC];unfold xi;dsimp only;rw[if_pos (by show 2<=sz;lia),oe,R.bind_ok,(qf5 h m o k)]
 rw[ZJ,e];rfl
def qf7(m)(z:m<7)(al o):xk [.fz (.tup [.str (fcg m),.int al,.int o])]=.ok (12*o+grd m+al)[7]:=by
 obtain⟨_,_,c,_⟩:=JQ m z;unfold xk X2;simp![c,y4 (i:=12) "d" "d"]
def MD:zE .non .non=.ok (.bl false)[8]:=rfl
def qf8(n):zE n[6] .non=.ok (.bl true)[8]:=rfl
abbrev JY:SF:=(qe (qj 6 (eOp qc (q9 5) 0[5]))
 (qe (qj 7 (eOp qc (q9 5) 1[5]))
 (qe (sIf (tE (eOp zE (eOp qc (q9 5) 2[5]) (eC .non))) (wK 2 [(q9 6),(q9 7)] (eOp qc (q9 5) 2[5])) qu)
 (qN 4 (qg xk [(ju [(q9 6),(qg yi [(q9 6),(q9 7),(vR 2),(q9 3)]),(q9 7)])])))))
def qf9(a)(k)(R0 R1):∀ hs kds z j5 j6 j7,(∀ h∈hs,h.m<7)->KI kds->kds[1]+hs[1]<=1000000->z[1]+hs[1]<=1000000->∃ i5 i6 i7,
  qD (gV 5) JY (hs.map h3D) [R0,R1,!(ioD a (.dT kds)),!k[7],!(.lst (z.map D.int))[9],j5,j6,j7]
  = .nx [R0,R1,!(ioD a (.dT (zU kds hs))),!k[7],!(.lst ((z++wS k kds hs).map D.int))[9],i5,i6,i7]:=by
 have hz:sz=16777216:=rfl;intro hs
 induction hs with
 | nil=>intro kds z j5 j6 j7 _ _ _ _;exact#[j5,j6,j7,by simp[zU,wS,uY]]
 | cons h hs ih =>
  intro kds z j5 j6 j7 hm hk hl ha;rw[gJ]at hl ha;obtain⟨k1,k2⟩:=MA hk h;have h7:=hm h "s"
  obtain⟨i5,i6,i7,e⟩:=ih (pcK kds h) (z++[pcP k kds h]) (!(h3D h)[8]) (!(.str (fcg h.m))[8]) (!h.o[7]) (λx hx=>hm x (gj _ hx)) k1 "" (by rw[gD];simp;lia)
  refine#[i5,i6,i7,?_];rw[gN,zR (yM)];simp only[fO,fP];have be:=qf6 k1 h.m h7 h.o k (.br (.dT (pcK kds h))) (.inl rfl);have pe:=qf7 h.m h7 (byM (pcK kds h) h.m h.o k) h.o;have ap:∀ A B C:Option En,(qN 4 (qg xk [(ju [(q9 6),(qg yi [(q9 6),(q9 7),(vR 2),(q9 3)]),(q9 7)])])) [R0,R1,!(ioD a (.dT (pcK kds h))),!k[7],!(.lst (z.map D.int))[9],A,!(.str (fcg h.m))[8],!h.o[7]]=.nx [R0,R1,!(ioD a (.dT (pcK kds h))),!k[7],!(.lst ((z++[pcP k kds h]).map D.int))[9],A,!(.str (fcg h.m))[8],!h.o[7]]:=λA B C=>by
   have vi:(vR 2) [R0,R1,!(ioD a (.dT (pcK kds h))),!k[7],!(.lst (z.map D.int))[9],A,!(.str (fcg h.m))[8],!h.o[7]]=.ok (.br (.dT (pcK kds h))):=Me (a:=a) rfl;rw[zh (xs:=z.map D.int) (d:=.int (pcP k kds h)) rfl (by rw[gg];lia) (by simp![vi,be,pe,pcP])]
   simp
  have bd:JY [R0,R1,!(ioD a (.dT kds)),!k[7],!(.lst (z.map D.int))[9],!(h3D h)[8],j6,j7]=.nx [R0,R1,!(ioD a (.dT (pcK kds h))),!k[7],!(.lst ((z++[pcP k kds h]).map D.int))[9],!(h3D h)[8],!(.str (fcg h.m))[8],!h.o[7]]:=by
   have x0:qc (h3D h) 0[6]=.ok (.str (fcg h.m))[8]:=rfl;have x1:qc (h3D h) 1[6]=.ok h.o[7]:=rfl;have x2:qc (h3D h) 2[6]=.ok (sD h.s)[8]:=rfl;have s6:(qj 6 (eOp qc (q9 5) 0[5])) [R0,R1,!(ioD a (.dT kds)),!k[7],!(.lst (z.map D.int))[9],!(h3D h)[8],j6,j7]=.nx [R0,R1,!(ioD a (.dT kds)),!k[7],!(.lst (z.map D.int))[9],!(h3D h)[8],!(.str (fcg h.m))[8],j7]:=by simp![x0]
   have s7:(qj 7 (eOp qc (q9 5) 1[5])) [R0,R1,!(ioD a (.dT kds)),!k[7],!(.lst (z.map D.int))[9],!(h3D h)[8],!(.str (fcg h.m))[8],j7]=.nx [R0,R1,!(ioD a (.dT kds)),!k[7],!(.lst (z.map D.int))[9],!(h3D h)[8],!(.str (fcg h.m))[8],!h.o[7]]:=by simp![x1]
   have s8:(sIf (tE (eOp zE (eOp qc (q9 5) 2[5]) (eC .non))) (wK 2 [(q9 6),(q9 7)] (eOp qc (q9 5) 2[5])) qu) [R0,R1,!(ioD a (.dT kds)),!k[7],!(.lst (z.map D.int))[9],!(h3D h)[8],!(.str (fcg h.m))[8],!h.o[7]]=.nx [R0,R1,!(ioD a (.dT (pcK kds h))),!k[7],!(.lst (z.map D.int))[9],!(h3D h)[8],!(.str (fcg h.m))[8],!h.o[7]]:=by
    rw[yJ];unfold pcK;cases hs2:h.s with
    | none =>
     rw[hs2]at x2;simp![x2,sD,MD]
    | some n =>
     rw[hs2]at x2;have tt:(tE (eOp zE (eOp qc (q9 5) 2[5]) (eC .non))) [R0,R1,!(ioD a (.dT kds)),!k[7],!(.lst (z.map D.int))[9],!(h3D h)[8],!(.str (fcg h.m))[8],!h.o[7]]=.ok true:=by simp![x2,sD,qf8]
     rw[tt,zD,ZI,Mc (a:=a) (kds:=kds) (d:=.int n) (ws:=[.fz (.str (fcg h.m)),.fz h.o[6]]) (q:=kyM h.m h.o) rfl (by simp![x2,sD]) rfl (MC h.m h.o) "" (by show 2<=sz;lia)]
     rfl
   unfold JY;rw[ji,s6,jy,ji,s7,jy,ji,s8,jy,ap _ none none]
  rw[bd,wP,e,zU,wS,t5];rfl
def qfa(a)(k)(hs)(z:∀ h∈hs,h.m<7)(kds)(B:KI kds)(O:kds[1]+hs[1]<=1000000) :
  yk [.fz (.tup (hs.map h3D)),.fz .non,ioD a (.dT kds),.fz k[6]]=.ok (.od (.tup [.int a,.dT (zU kds hs),.tup ((wS k kds hs).map D.int)])):=by
 obtain⟨i5,i6,i7,h⟩:=qf9 a k (!(.tup (hs.map h3D))[8]) (!(.fz .non)) hs kds [] none none none z B O (by simp;lia)
 show fin (qe (sIf _ _ qu) _ [!(.tup (hs.map h3D))[8],!(.fz .non),!(ioD a (.dT kds)),!k[7],none,none,none,none])=_;simp![MD];have it:iV 0 [!(.tup (hs.map h3D))[8],!(.fz .non),!(ioD a (.dT kds)),!k[7],!(.lst [])[9],none,none,none]=.ok (hs.map h3D):=rfl;have h:qD (gV 5) JY (hs.map h3D) [!(.tup (hs.map h3D))[8],!(.fz .non),!(ioD a (.dT kds)),!k[7],!(.lst [])[9],none,none,none]=_:=h;rw[it,zD,h];rfl
def qfb(a)(k)(x)(xs)(kds:Kd) :
  yk [.fz x,.fz (.tup xs),ioD a (.dT kds),.fz k[6]]=.ok (.od (.tup [.int a,.dT kds,.tup xs])):=by
 rfl
def qfc{j:Nat}{i:Nat}(h:fnOf ρ[j]?=!x1)(e:eIO d1 i pre post ρ=r):yd j x1 d1 x2 d2 i pre post ρ=r:=by
 unfold yd
 simp_all
def qiH{j:Nat}{i:Nat}(ne:x2≠x1)(h:fnOf ρ[j]?=!x2)(e:eIO d2 i pre post ρ=r):yd j x1 d1 x2 d2 i pre post ρ=r:=by
 unfold yd
 simp_all
abbrev io0:IOF:=yd 2 "heads_of" JA "pitches_of" yk 6 [(eOp qc (q9 10) 2[5]),(q9 11)] [(q9 1)]
def isT:D->Bool
 | .non=>false
 | _=>true
def FH(k:Int):TF (List Int):=#[λps=>.tup (ps.map D.int),λps T kds=>.tup (wQ (isT T) k kds ps),λps T kds=>zS (isT T) k kds ps,PsOk]
theorem JZ(k:Int):TurnOk (FH k) k (dFn "heads_of") io0 where
 run:=λR0 B A ah br kds O v va x t T hx hT hk hl=>by
  have hn:wG T .non=.ok (.bl (not (isT T)))[8]:=by rcases hT with z|⟨hs,z⟩<;>(subst z;rfl)
  exact qfc rfl (Mq rfl rfl rfl rfl rfl rfl (Vi λa=>qeL a T (isT T) k hn x kds hk (by have:x[1]<=24:=hx.2.1;lia)))
 ki:=λx T kds hx hT hk=>by
  obtain⟨a,b⟩:=M9 (isT T) k x kds hk;have:x[1]<=24:=hx.2.1;exact#[a,by show(zS (isT T) k kds x)[1]<=_;lia]
 tp:=λx T kds _ _ _=>#[_,rfl]
def FP(k:Int):TF (List H3):=#[λhs=>.tup (hs.map h3D),λhs T kds=>if isT T=true then T else .tup ((wS k kds hs).map D.int),λhs T kds=>if isT T=true then kds else zU kds hs,λhs=>hs[1]<=24/\∀ h∈hs,h.m<7]
theorem qfd(k:Int):TurnOk (FP k) k (dFn "pitches_of") io0 where
 run:=λR0 B A ah br kds O v va x t T hx hT hk hl=>by
  have io:w6 yk [.fz (.tup (x.map h3D)),.fz T] (.dT kds) [.fz k[6]]=.ok (.dT ((FP k).fk x T kds),(FP k).fx x T kds):=by
   rcases hT with z|⟨hs,z⟩
   .subst z;exact Vi (post:=[.fz k[6]]) (λa=>qfa a k x hx.2 kds hk (by have:=hx.1;lia))
   subst z;exact Vi (dn:=yk) (pre:=[.fz (.tup (x.map h3D)),.fz (.tup hs)]) (d:=.dT kds) (post:=[.fz k[6]]) (λa=>qfb a k (.tup (x.map h3D)) hs kds)
  have ie:=Mq (dn:=yk) (i:=6) (pre:=[(eOp qc (q9 10) 2[5]),(q9 11)]) (post:=[(q9 1)]) (ρ:=[R0,!k[7],!(dFn "pitches_of")[8],B,!(.dK ah)[9],!br[8],!(.dT kds)[9],!(.od O),A,!v[7],!(geD (FP k) (.note va x t))[8],!T[8]]) (d:=.dT kds) (ws:=[.fz (.tup (x.map h3D)),.fz T]) (ws2:=[.fz k[6]]) rfl rfl rfl rfl rfl (by rcases hT with z|⟨hs,z⟩<;>(rfl)) io
  assumption
 ki:=λx T kds hx hT hk=>by
  show KI (if isT T=true then kds else zU kds x)/\(if isT T=true then kds else zU kds x)[1]<=_
  split
  .simp_all
  obtain⟨a,b⟩:=MB x kds hk;exact#[a,by have:=hx.1;lia]
 tp:=λx T kds hx hT hk=>by
  rcases hT with z|⟨hs,z⟩
  .subst z;exact#[_,rfl]
  subst z;exact#[hs,rfl]
def qfe:∀(l:Kd),look q (qS q d l)=!d:=by
 have mp:∀ l:Kd,(l.any λkv=>decide (kv.1=q))=true->look q (l.map λkv=>if kv.1=q then(kv.1,d)else kv)=!d:=by
  intro l
  induction l with
  | nil=>intro h;cases h
  | cons kv r ih =>
   intro h;obtain⟨x,y⟩:=kv;rw[gN];by_cases c:x=q
   .rw[if_pos c];unfold look;rw[if_pos c]
   rw[if_neg c];unfold look
   grind
 have ap:∀ l,(l.any λkv=>decide (kv.1=q))=false->look q (l++[(q,d)])=!d:=by
  intro l
  induction l with
  | nil=>intro _;simp[look]
  | cons kv r ih =>
   intro h;obtain⟨x,y⟩:=kv;rw[dO,Bool.or_eq_false_iff]at h;have xq:x≠q:=by simpa using h.1
   rw[List.cons_append];unfold look;rw[if_neg xq];exact ih h.2
 unfold qS
 grind
def qff(p k):12*ocN p k+grd (ltN p k)+alN p k=p:=by
 have h1:(7*p-ffN p k)%12=0:=by unfold ffN;lia
 have h2:ffN p k+1=7*alN p k+(ltN p k):=by rw[M4];unfold alN;lia
 have h3:=JR p k;unfold ocN;generalize alN p k=a at *;generalize ltN p k=m at *
 match m,h3 with
 | 0,_=>show 12*((p-5-a)/12)+5+a=p;lia
 | 1,_=>show 12*((p-0-a)/12)+0+a=p;lia
 | 2,_=>show 12*((p-7-a)/12)+7+a=p;lia
 | 3,_=>show 12*((p-2-a)/12)+2+a=p;lia
 | 4,_=>show 12*((p-9-a)/12)+9+a=p;lia
 | 5,_=>show 12*((p-4-a)/12)+4+a=p;lia
 | 6,_=>show 12*((p-11-a)/12)+11+a=p;lia
 | n+7,h=>lia
def hd3(kds:Kd)(go:Bool)(p k:Int):H3:=#[ltN p k,ocN p k,if wr kds go p k=true then !(alN p k)else none]
def qfg(kds)(go)(p k):h3D (hd3 kds go p k)=hdH kds go p k:=by
 unfold hd3 hdH;cases c:wr kds go p k<;>rfl
def ME(kds)(go)(p k):pcK kds (hd3 kds go p k)=hdK kds go p k:=by
 unfold hd3 hdK;cases c:wr kds go p k<;>rfl
def qfh(kds)(p k)(z:KI kds):pcP k kds (hd3 kds false p k)=p:=by
 unfold pcP;rw[ME];show 12*ocN p k+grd (ltN p k)+byM (hdK kds false p k) (ltN p k) (ocN p k) k=p;have b:byM (hdK kds false p k) (ltN p k) (ocN p k) k=alN p k:=by
  unfold hdK;cases c:wr kds false p k
  .rw[if_neg "s"]
   have e:(byN kds p k==alN p k)=true:=by
    unfold wr at c;simpa using c
   have e2:byN kds p k=alN p k:=by simpa using e
   exact e2
  rw[if_pos rfl];unfold byM;rw[show kyM (ltN p k) (ocN p k)=kyN p k from rfl,qfe]
 rw[b];exact qff p k
def hds3(go:Bool)(k:Int):Kd->List Int->List H3
 | _,[]=>[]
 | kds,p::ps=>hd3 kds go p k::hds3 go k (hdK kds go p k) ps
theorem Wp(go)(k):∀ ps kds,(hds3 go k kds ps).map h3D=wQ go k kds ps
 | [],_=>rfl
 | p::ps,kds=>by rw[hds3,wQ,gN,qfg,Wp go k ps]
theorem Z0(go)(k):∀ ps kds,(hds3 go k kds ps)[1]=ps[1]/\∀ h∈hds3 go k kds ps,h.m<7
 | [],_=>#[rfl,λ_ h=>by cases h]
 | p::ps,kds=>by
  obtain⟨a,b⟩:=Z0 go k ps (hdK kds go p k);refine#[by rw[hds3,gJ,gJ,a],λh hh=>?_]
  rcases gy.mp hh with z|z
  .subst z;exact JR p k
  exact b h z
theorem MF(k):∀ ps kds,KI kds->wS k kds (hds3 false k kds ps)=ps/\zU kds (hds3 false k kds ps)=zS false k kds ps
 | [],_,_=>#[rfl,rfl]
 | p::ps,kds,hk=>by
  obtain⟨a,b⟩:=MF k ps (hdK kds false p k) (Wh hk false p k).1;rw[hds3,wS,zU,qfh kds p k hk,ME,a,b];exact#[rfl,rfl]
theorem go_K(k):∀ ps kds,zS true k kds ps=kds
 | [],_=>rfl
 | p::ps,kds=>by
  exact go_K k ps kds
def Qc(x:Str):Nat:=if x=fcg 0 then 0 else if x=fcg 1 then 1 else if x=fcg 2 then 2 else if x=fcg 3 then 3 else if x=fcg 4 then 4 else if x=fcg 5 then 5 else 6
theorem qfi:∀ m,m<7->Qc (fcg m)=m
 | 0,_=>by decide
 | 1,_=>by decide
 | 2,_=>by decide
 | 3,_=>by decide
 | 4,_=>by decide
 | 5,_=>by decide
 | 6,_=>by decide
 | n+7,h=>absurd h ""
def Qd:D->H3
 | .tup [.str x,.int o,.int n]=>#[Qc x,o,!n]
 | .tup [.str x,.int o,_]=>#[Qc x,o,none]
 | _=>#[0,0,none]
def qfj(h)(z:h.m<7):Qd (h3D h)=h:=by
 obtain⟨m,o,s⟩:=h;have e:=qfi m z;cases s with
 | none=>show(#[Qc (fcg m),o,none]:H3)=_;rw[e]
 | some n=>show(#[Qc (fcg m),o,!n]:H3)=_;rw[e]
def dec:D->GE (List H3)
 | .tup [_,.int v]=>.rest v
 | .tup [_,.int v,.tup hs,.bl t]=>.note v (hs.map Qd) t
 | _=>.rest 0
def hEv(k:Int)(T:D)(kds:Kd):GE (List Int)->GE (List H3)
 | .rest v=>.rest v
 | .note v ps t=>.note v (hds3 (isT T) k kds ps) t
def Z1(k)(T)(kds)(e):dec (gEv (FH k) T kds e)=hEv k T kds e:=by
 cases e with
 | rest v=>rfl
 | note v ps t =>
  show GE.note v ((wQ (isT T) k kds ps).map Qd) t=GE.note v (hds3 (isT T) k kds ps) t;rw[<- Wp,h9];congr 1;have:∀ l:List H3,(∀ h∈l,h.m<7)->l.map (Qd∘h3D)=l:=by
   intro l
   induction l with
   | nil=>intro _;rfl
   | cons a l ih =>
    intro h;rw[gN,ih λx hx=>h x (gj _ hx)]
    show Qd (h3D a)::l=_;rw[qfj a (h a "s")]
  exact this _ (Z0 (isT T) k ps kds).2
def qfk(k)(T)(kds)(e):geD (FP k) (hEv k T kds e)=gEv (FH k) T kds e:=by
 cases e with
 | rest v=>rfl
 | note v ps t =>
  show D.tup [.str "note",.int v,.tup ((hds3 (isT T) k kds ps).map h3D),.bl t]=_;rw[Wp];rfl
def qfl(k)(T)(kds)(e):gv (hEv k T kds e)=gv e:=by cases e<;>rfl
def qfm(k)(T)(kds)(e)(h:GeOk (FH k) e):GeOk (FP k) (hEv k T kds e):=by
 cases e with
 | rest v=>exact h
 | note v ps t =>
  have l3:=h.2.2.1;obtain⟨a,b⟩:=Z0 (isT T) k ps kds;exact#[h.1,"",b]
def Qof(k:Int)(R:List (List (GE (List Int))))(z:List (Sum Int Str×D)):List (List (GE (List H3))):=(qG (FH k) R z).rows.map (·.map dec)
def Wq{R:List (List (GE (List Int)))}(O:∀ r∈R,∀ e∈r,GeOk (FH k) e)(ah){v:Nat}{r:List (GE (List Int))}(B:R[v]?=!r) :
  ∃ z,(qG (FH k) R ah).rows[v]?=!z/\z[1]=r[1]/\(Qof k R ah)[v]?=!(z.map dec)/\∀(n:Nat) e,r[n]?=!e->∃ T kds,z[n]?=!(gEv (FH k) T kds e):=by
 obtain⟨a,b⟩:=JX O ah;have hv:v<(qG (FH k) R ah).rows.length:=by rw[a];exact(gp.mp B).1
 have e1:=gE hv;have gd:(qG (FH k) R ah).rows.getD v []=(qG (FH k) R ah).rows[v]:=by rw[hU,e1];rfl
 refine#[_,e1,by rw[<- gd];exact(b v r B).1,by unfold Qof;rw[gG,e1];rfl,λn e ee=>?_]
 obtain⟨T,kds,f⟩:=qf4 O ah B ee;rw[gd]at f;exact#[T,kds,f]
def Wr{R:List (List (GE (List Int)))}(z:∀ r∈R,∀ e∈r,GeOk (FH k) e)(ah):(Qof k R ah)[1]=R.length:=by
 unfold Qof;rw[gg,(JX z ah).1]
def Q_at{R:List (List (GE (List Int)))}(z:∀ r∈R,∀ e∈r,GeOk (FH k) e)(ah){v n:Nat}{r:List (GE (List Int))}{d:D}(B:R[v]?=!r)(hd:((qG (FH k) R ah).rows.getD v [])[n]?=!d):∃ rq,(Qof k R ah)[v]?=!rq/\rq[n]?=!(dec d):=by
 obtain⟨O,e1,_,e3,_⟩:=Wq z ah B
 simp_all
def MG{β:Type}(g)(g':GE (List Int)->β){k:Int}(O:∀ T kds e,g (hEv k T kds e)=g' e){R:List (List (GE (List Int)))}(B:∀ r∈R,∀ e∈r,GeOk (FH k) e)(ah):(Qof k R ah).map (·.map g)=R.map (·.map g'):=by
 apply cG;intro v;rw[gG,gG];cases er:R[v]? with
 | none =>
  have:(Qof k R ah)[v]?=none:=by
   rw[List.getElem?_eq_none_iff]at er ⊢;rw[Wr B ah];exact er
  rw[this];rfl
 | some r =>
  obtain⟨z,e1,e2,e3,e4⟩:=Wq B ah er;rw[e3];show ↑((z.map dec).map g)=!(r.map g');congr 1;apply cG;intro n;rw[gG,gG,gG];cases ee:r[n]? with
  | none =>
   simp_all
  | some e =>
   obtain⟨T,kds,f⟩:=e4 n e ee;rw[f];show ↑(g (dec (gEv (FH k) T kds e)))=!(g' e);rw[Z1,O]
def MH{R:List (List (GE (List Int)))}(z:∀ r∈R,∀ e∈r,GeOk (FH k) e)(ah):qQ (Qof k R ah)=qQ R:=MG gv gv (qfl k) z ah
def Q_ev{R:List (List (GE (List Int)))}(U:∀ r∈R,∀ e∈r,GeOk (FH k) e)(ah){z:List D}(Y:z∈(qG (FH k) R ah).rows):∃ r∈R,z[1]=r[1]/\∀ d∈z,∃ T kds,∃ e∈r,d=gEv (FH k) T kds e:=by
 obtain⟨v,hv,e0⟩:=tB.mp Y;have B:v<R.length:=by rw[<- (JX U ah).1];exact hv
 obtain⟨O,e1,e2,e3,e4⟩:=Wq U ah (gE B);have:O=z:=by
  simp_all
 subst this;refine#[R[v],fH B,e2,λd hd=>?_]
 obtain⟨n,hn,en⟩:=tB.mp hd;obtain⟨T,kds,f⟩:=e4 n _ (gE "")
 rw[gE hn,en]at f;exact#[T,kds,R[v][n],fH _,tP f]
def Q_D{R:List (List (GE (List Int)))}(O:∀ r∈R,∀ e∈r,GeOk (FH k) e)(ah):grD (FP k) (Qof k R ah)=brT (qG (FH k) R ah):=by
 unfold grD Qof;rw[h9];congr 1;apply tq;intro B hm;show D.lst ((B.map dec).map (geD (FP k)))=D.lst B;rw[h9];congr 1;obtain⟨r,_,_,h⟩:=Q_ev O ah hm;refine Eq.trans (tq λd hd=>?_) (List.map_id' _)
 obtain⟨T,kds,e,_,z⟩:=h d hd;subst z;show geD (FP k) (dec (gEv (FH k) T kds e))=_;rw[Z1,qfk]
def Q_ok{R:List (List (GE (List Int)))}(h:jX (FH k) R)(ah):jX (FP k) (Qof k R ah):=by
 have hR:=λr hr=>(h.2 r hr).1
 refine#[by rw[Wr hR ah];exact h.1,λrq hq=>?_]
 obtain⟨B,hm,e0⟩:=gH.mp hq;obtain⟨r,hr,hl,he⟩:=Q_ev hR ah hm;obtain⟨a,b,c⟩:=h.2 r hr;subst e0;refine#[λx hx=>?_,by rw[gg];lia]
 obtain⟨d,hd,ed⟩:=gH.mp hx;obtain⟨T,kds,e,me,z⟩:=he d hd;subst z;subst ed;rw[Z1];exact qfm k T kds e (a e me)
def prv(r:List (GE (List Int)))(c:Nat)(o:Option (GE (List Int))):Option (GE (List Int)):=match c with
 | 0=>o
 | c+1=>r[c]?
def wt:Option (GE (List Int))->Bool
 | some e=>JV e
 | none=>false
def MI(r)(c)(o):Qb r c (wt o)=wt (prv r c o):=by
 cases c with
 | zero=>rfl
 | succ c =>
  unfold Qb prv;dsimp only;cases r[c]?<;>rfl
def gA:Option (GE (List Int))->Option (List Int)
 | some (.note _ ps true)=>!ps
 | _=>none
def Qe(r:List (GE (List Int)))(o:Option (GE (List Int))):Prop:=∀(n:Nat) (e:GE (List Int)),r[n]?=!e->∀ ps,gA (prv r n o)=!ps->∃ va t,e=.note va ps t
def qfn(o)(h:∀ d,o=!d->TeOk d):isT (wR o)=zT o:=by
 cases o with
 | none=>rfl
 | some d =>
  rcases h d rfl with⟨v,e⟩|⟨v,hs,t,e⟩
  .subst e;rfl
  subst e;cases t<;>rfl
def qfo(k)(kds)(O:KI kds)(TS)(p)(B:isT TS=wt p)(e)(U:∀ ps,gA p=!ps->∃ va t,e=.note va ps t) :
  gEv (FP k) (wR (p.map (geD (FH k)))) kds (hEv k TS kds e)=geD (FH k) e/\gKd (FP k) (wR (p.map (geD (FH k)))) kds (hEv k TS kds e)=gKd (FH k) TS kds e:=by
 cases e with
 | rest v=>exact#[rfl,rfl]
 | note v ps t =>
  have no:wt p=false->wR (p.map (geD (FH k)))=.non:=λz=>by
   cases p with
   | none=>rfl
   | some x =>
    cases x with
    | rest _=>rfl
    | note a b c =>
     have:c=false:=z;subst this;rfl
  cases c:wt p with
  | false =>
   rw[no c];rw[c]at B;obtain⟨a,b⟩:=MF k ps kds O;constructor
   .show D.tup [.str "note",.int v,.tup ((wS k kds (hds3 (isT TS) k kds ps)).map D.int),.bl t]=_;rw[B,a];rfl
   show zU kds (hds3 (isT TS) k kds ps)=zS (isT TS) k kds ps;rw[B,b]
  | true =>
   rw[c]at B;cases p with
   | none=>cases c
   | some x =>
    cases x with
    | rest _=>cases c
    | note a b d =>
     have:d=true:=c;subst this;obtain⟨va,t2,z⟩:=U b rfl;cases z;constructor
     .rfl
     show kds=zS (isT TS) k kds ps;rw[B,go_K]
structure Lk(k:Int)(R:List (List (GE (List Int))))(o:Nat->Option (GE (List Int)))(S1:List (List Int))(sS sH:TS):Prop where
 kd:sH.kds=sS.kds
 rl:sH.rows.length=R.length
 rw:∀(v:Nat) (r:List (GE (List Int))),R[v]?=!r->sH.rows.getD v []=(r.map (geD (FH k))).take (cnt S1 v)
 ah:∀(v:Nat) (r:List (GE (List Int))),R[v]?=!r->look (Sum.inl (v:Int)) sH.ah=(prv r (cnt S1 v) (o v)).map (geD (FH k))
def lock(k)(R)(h:jX (FH k) R)(ahS)(o)(Y:∀ v,v<R.length->zT (look (Sum.inl (v:Int)) ahS)=wt (o v))(Z:∀ v r,R[v]?=!r->Qe r (o v)) :
  ∀ S2 S1 sS sH,qX (qF 0 (qQ R))=S1++S2->Tr R ahS S1 sS->KI sS.kds->AhOk sS.ah->qG (FH k) R ahS=S2.foldl (jK (FH k) R) sS->Lk k R o S1 sS sH ->
   Lk k R o (S1++S2) (S2.foldl (jK (FH k) R) sS) (S2.foldl (jK (FP k) (Qof k R ahS)) sH):=by
 have hR:∀ r∈R,∀ e∈r,GeOk (FH k) e:=λr hr=>(h.2 r hr).1
 intro S2
 induction S2 with
 | nil=>intro S1 sS sH _ _ _ _ _ l;rw[tQ];exact l
 | cons s S2 ih =>
  intro S1 sS sH e0 t hk ha hb l;obtain⟨q,v,n,r,e,e1,er,ee,en,at_,sp⟩:=Q8 hR e0;have pe:GeOk (FH k) e:=hR r (hX er) e (hX ee);have hv:v<R.length:=(gp.mp er).1;have cn:cnt S1 v=n:=en.symm;have vs:vof s=v:=by subst e1;rfl
  obtain⟨f,g⟩:=Mx hR e0 t hb e1 er ee;obtain⟨rq,q1,q2⟩:=Q_at hR ahS er f;rw[Z1]at q2;have B:jK (FP k) (Qof k R ahS) sH s=yq (FP k) sH v (hEv k (tOf sS v) sS.kds e):=by
   have O:evAt (Qof k R ahS) s=!(hEv k (tOf sS v) sS.kds e):=by
    subst e1;show((Qof k R ahS)[((v:Int)).toNat]?).bind _=_
    simp_all
   unfold jK;rw[O];subst e1;rfl
  have hT:isT (tOf sS v)=wt (prv r n (o v)):=by
   unfold tOf;rw[qfn _ (λd hd=>by obtain⟨kv,m1,m2⟩:=JS hd;rw[<- m2];exact ha kv m1),g,Y v hv,MI]
  have tH:tOf sH v=wR ((prv r n (o v)).map (geD (FH k))):=by
   unfold tOf;rw[l.ah v r er,cn]
  obtain⟨o1,o2⟩:=qfo k sS.kds hk (tOf sS v) (prv r n (o v)) hT e (Z v r er n e ee);rw[<- tH,<- l.kd]at o1 o2;have st:=Mp (JZ k) (Q7 ha v) hk e pe;have sa:=Mn (q:=Sum.inl v) ha (Mo (JZ k) (Q7 ha v) hk e pe);rw[p9,p9,show S1++s::S2=(S1++[s])++S2 by simp]
  refine ih (S1++[s]) (jK (FH k) R sS s) (jK (FP k) (Qof k R ahS) sH s) (by rw[e0];simp) (JW hR e0 t) (by rw[sp];exact st.1) (by rw[sp];exact sa.1) (by rw[hb,p9]) ?_
  rw[sp,B];have U:v<sH.rows.length:=by rw[l.rl];exact hv
  have n1:∀ kk,kk=sS.kds->gKd (FP k) (tOf sH v) sH.kds (hEv k (tOf sS v) kk e)=gKd (FH k) (tOf sS v) kk e:=λkk z=>by rw[z,<- l.kd];exact o2
  have n2:gEv (FP k) (tOf sH v) sH.kds (hEv k (tOf sS v) sS.kds e)=geD (FH k) e:=by rw[<- l.kd];exact o1
  refine#[n1 sS.kds rfl,by show(sH.rows.set v _)[1]=_;rw[dN];exact l.rl,λu ru hu=>?_,λu ru hu=>?_]
  .rw[Wm];by_cases c:u=v
   .subst c;rw[er]at hu;cases hu;rw[if_pos vs,cn];show(sH.rows.set u (sH.rows.getD u []++[gEv (FP k) (tOf sH u) sH.kds (hEv k (tOf sS u) sS.kds e)])).getD u []=_;rw[hU,List.getElem?_set_self U];show sH.rows.getD u []++[gEv (FP k) (tOf sH u) sH.kds (hEv k (tOf sS u) sS.kds e)]=_;rw[n2,l.rw u r er,cn,List.take_succ,gG,ee];rfl
   have ne:¬ (vof s=u):=by rw[vs];lia
   rw[if_neg ne,add_zero];show(sH.rows.set v _).getD u []=_;rw[hU,gW (tf c),<- hU];exact l.rw u ru hu
  rw[Wm];by_cases c:u=v
  .subst c;rw[er]at hu;cases hu;rw[if_pos vs,cn];show look (Sum.inl (u:Int)) (qS (Sum.inl u) (gEv (FP k) (tOf sH u) sH.kds (hEv k (tOf sS u) sS.kds e)) sH.ah)=_;rw[JT,if_pos rfl,n2];show _=(r[n]?).map (geD (FH k));rw[ee];rfl
  have ne:¬ (vof s=u):=by rw[vs];lia
  rw[if_neg ne,add_zero];show look (Sum.inl (u:Int)) (qS (Sum.inl v) _ sH.ah)=_;rw[JT,if_neg (by intro z;injection z with z;lia)]
  exact l.ah u ru hu
def qfp(k)(R)(h:jX (FH k) R)(ahS ahH)(O:AhOk ahS)(o:Nat->Option (GE (List Int)))(B:∀ v,v<R.length->zT (look (Sum.inl (v:Int)) ahS)=wt (o v))(U:∀ v,v<R.length->look (Sum.inl (v:Int)) ahH=(o v).map (geD (FH k)))(Y:∀(v:Nat) r,R[v]?=!r->Qe r (o v)) :
  brT (qG (FP k) (Qof k R ahS) ahH)=grD (FH k) R/\∀(v:Nat) r,R[v]?=!r->look (Sum.inl (v:Int)) (qG (FP k) (Qof k R ahS) ahH).ah=(prv r r[1] (o v)).map (geD (FH k))/\zT (look (Sum.inl (v:Int)) (qG (FH k) R ahS).ah)=wt (prv r r[1] (o v)):=by
 have hR:=λr hr=>(h.2 r hr).1
 have l:=lock k R h ahS o B Y (qX (qF 0 (qQ R))) [] (bar0 R ahS) (bar0 (Qof k R ahS) ahH) rfl (tr_0 _ _) (λ_ z=>by cases z) O rfl #[rfl,by show((Qof k R ahS).map λ_=>[])[1]=_;rw[gg,Wr hR ahS],λv r er=>by
   show((Qof k R ahS).map λ_=>[]).getD v []=_
   rw[hU,gG];cases (Qof k R ahS)[v]?<;>rfl,λv r er=>U v (gp.mp er).1]
 have bt:qG (FP k) (Qof k R ahS) ahH=(qX (qF 0 (qQ R))).foldl (jK (FP k) (Qof k R ahS)) (bar0 (Qof k R ahS) ahH):=by
  unfold qG;rw[MH hR ahS]
 rw[<- bt]at l;have l:Lk k R o (qX (qF 0 (qQ R))) (qG (FH k) R ahS) (qG (FP k) (Qof k R ahS) ahH):=l;constructor
 .unfold brT;congr 1;apply cG;intro v;rw[gG,gG];cases er:R[v]? with
  | none =>
   have:(qG (FP k) (Qof k R ahS) ahH).rows[v]?=none:=by
    rw[List.getElem?_eq_none_iff]at er ⊢;rw[l.rl];exact er
   rw[this];rfl
  | some r =>
   have hv:v<(qG (FP k) (Qof k R ahS) ahH).rows.length:=by rw[l.rl];exact(gp.mp er).1
   have x:=l.rw v r er;rw[Wo hR er,hU,gE hv]at x;have x:(qG (FP k) (Qof k R ahS) ahH).rows[v]=(r.map (geD (FH k))).take r[1]:=x;rw[gE hv,x,tU (by rw[gg];exact gw _)]
   rfl
 intro v r er;have x:=l.ah v r er;rw[Wo hR er]at x;refine#[x,?_];rw[((JX hR ahS).2 v r er).2,B v (gp.mp er).1,MI]
def gOf:Ev->GE (List Int)
 | .rest v=>.rest v
 | .note v ps t=>.note v ps t
def gR(R:List (List Ev)):List (List (GE (List Int))):=R.map (·.map gOf)
def qfq(k)(e):geD (FH k) (gOf e)=evD e:=by cases e<;>rfl
def gR_D(k)(R):grD (FH k) (gR R)=brD R:=by
 unfold grD gR;rw[h9];congr 1;apply tq;intro r _;show D.lst ((r.map gOf).map (geD (FH k)))=D.lst (r.map evD);rw[h9];congr 1;apply tq;exact λe _=>qfq k e
def MJ(k)(R)(h:R.length<=8/\∀ r∈R,PRow r):jX (FH k) (gR R):=by
 refine#[by unfold gR;rw[gg];exact h.1,λr hr=>?_]
 obtain⟨q,hq,e⟩:=gH.mp hr;subst e;obtain⟨a,b,c⟩:=h.2 q hq;refine#[λx hx=>?_,by rw[gg];exact b,by rw[gg];exact c]
 obtain⟨y,hy,ey⟩:=gH.mp hx;subst ey;have:=a y hy;cases y with
 | rest v=>exact this
 | note v ps t=>exact this
def Z2(x)(l)(n)(o):prv (x::l) (n+1) o=prv l n !x:=by
 cases n with
 | zero=>rfl
 | succ n=>rfl
theorem Ws:∀ r o g,TieB (gA o) r g->Qe (r.map gOf) o/\g=gA (prv (r.map gOf) r[1] o)
 | [],o,g,h=>#[λn e ee=>by simp at ee,h]
 | .rest v::r,o,g,h=>by
  obtain⟨a,b⟩:=Ws r (!(.rest v)) g h.2;refine#[λn e ee ps hp=>?_,by rw[b];exact(congrArg gA (Z2 _ _ _ o)).symm]
  cases n with
  | zero=>rw[show prv ((Ev.rest v::r).map gOf) 0 o=o from rfl,h.1]at hp;cases hp
  | succ n=>exact a n e ee[""] ps (by rw[<- Z2 _ _ _ o];exact hp)
 | .note v qs t::r,o,g,h=>by
  have hg:(if t then !qs else none)=gA (!(.note v qs t)):=by cases t<;>rfl
  have h2:=h.2;rw[hg]at h2;obtain⟨a,b⟩:=Ws r (!(.note v qs t)) g h2;refine#[λn e ee ps hp=>?_,by rw[b];exact(congrArg gA (Z2 _ _ _ o)).symm]
  cases n with
  | zero =>
   have hp:gA o=!ps:=hp;obtain rfl:e=.note v qs t:=by simpa[gOf]using ee.symm
   rcases h.1 with z|z
   .lia
   simp_all
  | succ n=>exact a n e ee[""] ps (by rw[<- Z2 _ _ _ o];exact hp)
def QsOf(k:Int):List (List (List Ev))->List (Sum Int Str×D)->List (List (List (GE (List H3))))
 | [],_=>[]
 | R::Rs,ah=>Qof k (gR R) ah::QsOf k Rs (qG (FH k) (gR R) ah).ah
def qfr(k)(vo)(Y:vo<=8):∀(Rs:List (List (List Ev))) B U (o:Nat->Option (GE (List Int))),(∀ R∈Rs,R.length=vo/\∀ r∈R,PRow r)->AhOk B->B[1]+4096*Rs.length<=1000000 ->
  (∀ v,v<vo->zT (look (Sum.inl (v:Int)) B)=wt (o v))->(∀ v,v<vo->look (Sum.inl (v:Int)) U=(o v).map (geD (FH k)))->(∀ v,v<vo->∃ g,TieB (gA (o v)) (yo Rs v).flatten g) ->
  (barsT (FP k) (QsOf k Rs B) U).map brT=Rs.map brD/\(QsOf k Rs B).map (grD (FP k))=(barsT (FH k) (Rs.map gR) B).map brT/\∀ Q∈QsOf k Rs B,jX (FP k) Q:=by
 intro Rs
 induction Rs with
 | nil=>intro B U o _ _ _ _ _ _;exact#[rfl,rfl,λ_ z=>by cases z]
 | cons R Rs ih =>
  intro B U o hk ha hL ho hH ht;rw[gJ]at hL;obtain⟨r1,r2⟩:=hk R "s"
  have gk:=MJ k R #["",r2]
  have gl:(gR R)[1]=vo:=by unfold gR;rw[gg];exact r1
  have hR:∀ r∈gR R,∀ e∈r,GeOk (FH k) e:=λr hr=>(gk.2 r hr).1
  have sp:∀ v,v<vo->∃ r,R[v]?=!r/\(gR R)[v]?=!(r.map gOf)/\Qe (r.map gOf) (o v)/\∃ g,TieB (gA (prv (r.map gOf) r[1] (o v))) (yo Rs v).flatten g:=λv O=>by
   have er:R[v]?=!R[v]:=gE ""
   obtain⟨g,t⟩:=ht v O;have cr:(yo (R::Rs) v).flatten=R[v]++(yo Rs v).flatten:=by
    show(R.getD v []::yo Rs v).flatten=_;rw[tS,hU,er];rfl
   rw[cr]at t;obtain⟨g1,t1,t2⟩:=W8 _ _ _ _ t;obtain⟨x1,x2⟩:=Ws _ _ _ t1;refine#[R[v],er,by unfold gR;rw[gG,er];rfl,x1,g,by rw[<- x2];exact t2]
  have tk:∀ v r,(gR R)[v]?=!r->Qe r (o v):=λv r er=>by
   have O:v<vo:=by rw[<- gl];exact(gp.mp er).1
   obtain⟨r0,_,e2,e3,_⟩:=sp v O;rw[e2]at er;cases er;exact e3
  obtain⟨b1,b2⟩:=qfp k (gR R) gk B U ha o (λv h=>ho v "") (λv h=>hH v "") tk
  have ln:=Q9 gk.1 λr hr=>(gk.2 r hr).2.1
  have to:=Mu (JZ k) (gR R) gk B ha B[1] "" (gw _)
  obtain⟨c1,c2,c3⟩:=ih (qG (FH k) (gR R) B).ah (qG (FP k) (Qof k (gR R) B) U).ah (λv=>prv (((gR R)[v]?).getD []) (((gR R)[v]?).getD [])[1] (o v)) (λx hx=>hk x (gj _ hx)) to.ah (by have:=to.al;lia)
   (λv O=>by obtain⟨r,_,e2,_⟩:=sp v O;rw[e2];exact(b2 v _ e2).2)
   (λv O=>by obtain⟨r,_,e2,_⟩:=sp v O;rw[e2];exact(b2 v _ e2).1)
   (λv O=>by obtain⟨r,_,e2,_,e4⟩:=sp v O;rw[e2];show ∃ g,TieB (gA (prv (r.map gOf) (r.map gOf)[1] (o v))) _ g;rw[gg];exact e4)
  refine#[?_,?_,λQ hQ=>?_]
  .rw[QsOf,barsT,gN,c1,b1,gR_D,gN]
  .rw[QsOf,gN,gN,barsT,gN,c2,Q_D hR B]
  rcases gy.mp hQ with z|z
  .subst z;exact Q_ok gk B
  exact c3 Q z
theorem Wt{p:Int->Prop}:∀ ys,(∀ y∈ys,∃ n,y=.int n/\p n)->∃ xs:List Int,ys=xs.map D.int/\(∀ x∈xs,p x)/\xs[1]=ys[1]
 | [],_=>#[[],rfl,λ_ h=>(by cases h),rfl]
 | y::ys,h=>by
  obtain⟨n,e,hp⟩:=h y "s"
  obtain⟨xs,e2,hq,hl⟩:=Wt ys λz hz=>h z (gj _ hz)
  refine#[n::xs,by rw[e,e2];rfl,λx hx=>?_,by simp[hl]]
  grind
def Wu{it:IF}{i:Nat}{ds:List D}(p:Int->Prop)(h:it ρ=.ok ds)(B:ds[1]<=sz)(O:∀ d∈ds,∃ n,e ((qR 1 ρ).set i (!d[8]))=.ok n[7]/\p n) :
  ∃ xs:List Int,qE 1 it (gV i) qI e ρ=.ok (.lst (xs.map D.int))[9]/\(∀ x∈xs,p x)/\xs[1]=ds[1]:=by
 classical
 let f:D->D:=λd=>if g:∃ n,e ((qR 1 ρ).set i (!d[8]))=.ok n[7]/\p n then .int g.choose else .non
 have q:∀ d∈ds,e ((qR 1 ρ).set i (!d[8]))=.ok (f d)[8]/\∃ n,f d=.int n/\p n:=λd hd=>by
  have g:=O d hd;have fe:f d=.int g.choose:=dif_pos g;rw[fe];exact#[g.choose_spec.1,_,rfl,g.choose_spec.2]
 obtain⟨xs,e2,hp,l2⟩:=Wt (ds.map f) λy hy=>by
  obtain⟨d,hd,z⟩:=gH.mp hy;rw[<- z];exact(q d hd).2
 refine#[xs,?_,hp,by rw[l2,gg]]
 rw[yI h B (kO i f _ _ λd hd=>#[_,(q d hd).1,rfl]),e2]
def gh:GE (List H3)->Nat
 | .rest _=>0
 | .note _ hs _=>hs[1]
def ghR(r:List (GE (List H3))):Nat:=(r.map gh).sum
def Wv:D->Bool
 | .tup [_,_,s]=>(match s with|.non=>false|_=>true)
 | _=>false
def qfs(i)(B:List H3)(U:B[1]<=24)(it)(ρ)(hi:it ρ=.ok (B.map h3D))(O:ρ.length=i) :
  ∃ ds,ds[1]<=B[1]/\qE 1 it (gV i) (tE (eOp zE (eOp qc (q9 i) 2[5]) (eC .non))) (q9 i) ρ=.ok (.lst ds)[9]:=by
 have hz:sz=16777216:=rfl;have at_:∀ d,((qR 1 ρ).set i (!d[8]))[i]?=!(!d[8]):=λd=>List.getElem?_set_self (by unfold qR;simp;lia)
 refine#[((B.map h3D).filter Wv).map id,by rw[gg];exact f8 (List.length_filter_le _ _) "s",yI hi (by rw[gg];lia) (QD i Wv id _ _ λd hd=>?_)]
 obtain⟨h,hh,he⟩:=gH.mp hd;subst he;have v:(q9 i) ((qR 1 ρ).set i (!(h3D h)[8]))=.ok (h3D h)[8]:=by rw[yK,at_];rfl
 refine#[?_,λ_=>#[_,v,rfl]]
 have i2:qc (h3D h) 2[6]=.ok (sD h.s)[8]:=rfl;have z:zE (sD h.s) .non=.ok (.bl (Wv (h3D h)))[8]:=by
  unfold h3D;cases h.s<;>rfl
 rw[yK]at v;simp![v,i2,z]
def MK(N)(k)(BODY)(R0)(P:List (List (GE (List H3)))->En->Prop)
  (step:∀ pre r w j3,P pre w->pre[1]<N->Wl (FP k) r->∃ w' i3,qD (gV 3) BODY (r.map (geD (FP k))) [R0,!w,!(gwD (FP k) r)[8],j3]=.nx [R0,!w',!(gwD (FP k) r)[8],i3]/\P (pre++[r]) w') :
  ∀ Q pre w j2 j3,P pre w->pre[1]+Q[1]<=N->(∀ r∈Q,Wl (FP k) r)->∃ w' i2 i3,qD (gV 2) (jB 2 (qO (iV 2) (gV 3) BODY)) (Q.map (gwD (FP k))) [R0,!w,j2,j3]=.nx [R0,!w',i2,i3]/\P (pre++Q) w':=by
 intro Q
 induction Q with
 | nil=>intro pre w j2 j3 h _ _;exact#[w,j2,j3,rfl,by rw[tQ];exact h]
 | cons r Q ih =>
  intro pre w j2 j3 h hN hk;rw[gJ]at hN;obtain⟨w1,i3,q,p1⟩:=step pre r w j3 h "" (hk r "s")
  obtain⟨w2,k2,k3,q2,p2⟩:=ih (pre++[r]) w1 (!(gwD (FP k) r)[8]) i3 p1 (by rw[gD,fW];lia) λx hx=>hk x (gj _ hx)
  refine#[w2,k2,k3,?_,by rw[t5]at p2;exact p2]
  rw[gN,zR (yM)];simp[fO,fP];rw[<- q2];have e:(jB 2 (qO (iV 2) (gV 3) BODY)) [R0,!w,!(gwD (FP k) r)[8],j3]=.nx [R0,!w1,!(gwD (FP k) r)[8],i3]:=by
   assumption
  rw[e,wP]
def ML(k v)(hs)(t)(R0 W R2):jc (eOp qc (q9 3) 2[5]) [R0,W,R2,!(geD (FP k) (.note v hs t))[8]]=.ok (hs.map h3D):=by
 rfl
def qft(k v)(hs)(t)(R0 W R2):(tE (eOp dEq (eOp qc (q9 3) 0[5]) (eC (.str "note")))) [R0,W,R2,!(geD (FP k) (.note v hs t))[8]]=.ok true:=by
 have i0:qc (geD (FP k) (.note v hs t)) 0[6]=.ok (.str "note")[8]:=rfl;simp![i0,UG]
def qfu(k v)(R0 W R2):(tE (eOp dEq (eOp qc (q9 3) 0[5]) (eC (.str "note")))) [R0,W,R2,!(geD (FP k) (.rest v))[8]]=.ok false:=by
 have i0:qc (geD (FP k) (.rest v)) 0[6]=.ok (.str "rest")[8]:=rfl;simp![i0,UF]
def MM(N)(k)(ST)(R0 R2)(P:List (GE (List H3))->En->Prop)(B:∀ pre v w,P pre w->P (pre++[.rest v]) w)
  (step:∀ pre v hs t w,P pre w->pre[1]<N->GeOk (FP k) (.note v hs t)->∃ w',ST [R0,!w,R2,!(geD (FP k) (.note v hs t))[8]]=.nx [R0,!w',R2,!(geD (FP k) (.note v hs t))[8]]/\P (pre++[.note v hs t]) w') :
  ∀ r pre w j3,P pre w->pre[1]+r[1]<=N->(∀ e∈r,GeOk (FP k) e)->∃ w' i3,qD (gV 3) (sIf (tE (eOp dEq (eOp qc (q9 3) 0[5]) (eC (.str "note")))) ST qu) (r.map (geD (FP k))) [R0,!w,R2,j3]=.nx [R0,!w',R2,i3]/\P (pre++r) w':=by
 intro r
 induction r with
 | nil=>intro pre w j3 h _ _;exact#[w,j3,rfl,by rw[tQ];exact h]
 | cons e r ih =>
  intro pre w j3 h hN hk;rw[gJ]at hN;rw[gN,zR (yM)];simp only[fO,fP];have z:=λx hx=>hk x (gj _ hx)
  cases e with
  | rest v =>
   obtain⟨w2,i3,q,p⟩:=ih (pre++[.rest v]) w (!(geD (FP k) (.rest v))[8]) (B pre v w h) (by rw[gD,fW];lia) z
   rw[t5]at p;exact#[w2,i3,by rw[yJ,qfu,zD,QH,QJ,wP,q],p]
  | note v hs t =>
   obtain⟨w1,s,p1⟩:=step pre v hs t w h "" (hk (.note v hs t) "s")
   obtain⟨w2,i3,q,p⟩:=ih (pre++[.note v hs t]) w1 (!(geD (FP k) (.note v hs t))[8]) p1 (by rw[gD,fW];lia) z
   rw[t5]at p;exact#[w2,i3,by rw[yJ,qft,zD,ZI,s,wP,q],p]
def MN(pre)(e):ghR (pre++[e])=ghR pre+gh e:=by unfold ghR;simp
def qfv(k)(Q)(h:jX (FP k) Q):∃ n:Nat,Jm [.fz (grD (FP k) Q)]=.ok n[7]/\n<=(Q.map ghR).sum:=by
 obtain⟨w,i2,i3,q,n,rfl,hn⟩:=MK 8 k (sIf (tE (eOp dEq (eOp qc (q9 3) 0[5]) (eC (.str "note")))) (jV 1 zL (eB jd [(qE 1 (jc (eOp qc (q9 3) 2[5])) (gV 4) (tE (eOp zE (eOp qc (q9 4) 2[5]) (eC .non))) (q9 4))])) qu) (!(grD (FP k) Q)[8])
  (λpre w=>∃ n:Nat,w=.fz n[6]/\n<=(pre.map ghR).sum) (λpre r w j3 #[n,hw,hn] _ hr=>by
   subst hw;obtain⟨w',i3,q,n',z,B⟩:=MM 512 k (jV 1 zL (eB jd [(qE 1 (jc (eOp qc (q9 3) 2[5])) (gV 4) (tE (eOp zE (eOp qc (q9 4) 2[5]) (eC .non))) (q9 4))])) (!(grD (FP k) Q)[8]) (!(gwD (FP k) r)[8])
    (λp w=>∃ m:Nat,w=.fz m[6]/\m<=n+ghR p) (λp v w #[m,a,b]=>#[m,a,by rw[MN];show m<=n+(ghR p+0);lia]) (λp v hs t w #[m,a,b] _ ok=>by
     subst a;obtain⟨ds,dl,cm⟩:=qfs 4 hs ok.2.1 _ _ (ML k v hs t (!(grD (FP k) Q)[8]) (!m[7]) (!(gwD (FP k) r)[8])) rfl;refine#[.fz (m+ds[1]:Nat)[6],?_,m+ds[1],rfl,by rw[MN];show m+ds[1]<=n+(ghR p+hs[1]);lia]
     simp![cm];rfl) r [] n[7] j3 #[n,rfl,""] (by rw[fR];have:=hr.2.1;lia) hr.1
   refine#[w',i3,q,n',z,?_];rw[pF]at B;simp;lia) Q [] 0[7] none none #[0,rfl,tJ _] (by rw[fR];have:=h.1;lia) h.2
 refine#[n,?_,hn];unfold Jm X4;left;rw[ZN rfl];left;rw[q];left
theorem MO:∀(ns σ:List Int),σ.Nodup->(ns.foldl step_dedup σ).Nodup/\∀ x,x∈ns.foldl step_dedup σ->x∈σ\/x∈ns
 | [],σ,h=>#[h,λx hx=>.inl hx]
 | n::ns,σ,h=>by
  have st:(step_dedup σ n).Nodup/\∀ x,x∈step_dedup σ n->x∈σ\/x=n:=by
   unfold step_dedup;by_cases c:(σ.any (·==n))=true
   .rw[if_pos c];exact#[h,λx z=>.inl z]
   rw[if_neg c];refine#[fq.mpr #[h,by simp,λa ha b hb e=>?_],λx=>by simp]
   simp_all
  obtain⟨a,b⟩:=MO ns (step_dedup σ n) st.1
  grind
def qfw(z:List Int)(L:Nat)(h:∀ x∈z,0<=x/\x<L):(yR z)[1]<=L:=by
 obtain⟨a,b⟩:=MO z [] List.Pairwise.nil;have:=VX (m:=(List.range L).map λt:Nat=>(t:Int)) a λx hx=>by
  obtain⟨h0,h1⟩:=h x ((b x hx).resolve_left "s")
  obtain⟨t,rfl⟩:=pL h0;exact gH.mpr #[t,dm.mpr "",rfl]
 rw[gg,fZ]at this;exact this
theorem MP:∀(r:List Int),(∀ x∈r,1<=x)->0<=r.sum
 | [],_=>by simp
 | x::r,h=>by
  have:=h x "s"
  have:=MP r λy hy=>h y (gj _ hy)
  rw[pN];lia
theorem MQ(v):∀ r p n,(∀ x∈r,1<=x)->∀ s∈jA v p n r,p<=s.headD 0/\s.headD 0<p+r.sum
 | [],_,_,_,_,hs=>by cases hs
 | x::r,p,n,h,s,hs=>by
  have h1:=h x "s"
  have h2:=λy hy=>h y (gj _ hy)
  have nn:=MP r h2;rw[pN];rcases gy.mp hs with z|z
  .subst z;show p<=p/\p<_;lia
  have:=MQ v r (p+x) (n+1) h2 s z;lia
theorem MR(L):∀ rs v,(∀ r∈rs,(∀ x∈r,1<=x)/\r.sum<=L)->∀ s∈qF v rs,0<=s.headD 0/\s.headD 0<L
 | [],_,_,_,hs=>by cases hs
 | r::rs,v,h,s,hs=>by
  rcases gC.mp hs with z|z
  .have a:=h r "s"
   have:=MQ v r 0 0 a.1 s z;lia
  exact MR L rs (v+1) (λx hx=>h x (gj _ hx)) s z
def MS:D->D
 | .tup (.int p::_)=>.int p
 | _=>.non
def qfx(k)(Q)(h:jX (FP k) Q)(L:Nat)(O:∀ r∈qQ Q,r.sum<=L):∃ w,vJ [.fz (grD (FP k) Q)]=.ok w[7]/\1<=w/\w<=4+3*L+(Q.map ghR).sum:=by
 have hz:sz=16777216:=rfl;have io:=Mt (F:=FP k) Q h (grD (FP k) Q)[8] (.inl rfl);have vp:∀ r∈qQ Q,∀ x∈r,1<=x:=JU (F:=FP k) λr hr=>(h.2 r hr).1
 have pm:=y7 (qF 0 (qQ Q));have ln:=Q9 h.1 λr hr=>(h.2 r hr).2.1
 obtain⟨n,sg,sl⟩:=qfv k Q h;generalize hS:qX (qF 0 (qQ Q))=S at *;have cm:(qE 1 (jc (qg wg [(q9 0)])) (gV 2) qI (eOp qc (q9 2) 0[5])) [!(grD (FP k) Q)[8],none]=.ok (.lst ((S.map (·.headD 0)).map D.int))[9]:=by
  have it:jc (qg wg [(q9 0)]) [!(grD (FP k) Q)[8],none]=.ok (S.map qJ):=vQ (w:=.ow (.lst (S.map qJ))) (by simp![io]) rfl
  rw[yI (ds:=S.map qJ) (ys:=(S.map qJ).map MS) it (by rw[gg];lia) (kO 2 MS _ _ λd hd=>?_)]
  .congr 3;rw[h9,h9];apply tq;intro r hr;obtain⟨q,u,m,e,_⟩:=xF _ _ _ (pm.mem_iff.mp hr);subst e;rfl
  obtain⟨r,hr,B⟩:=gH.mp hd;subst B;obtain⟨q,u,m,e,_⟩:=xF _ _ _ (pm.mem_iff.mp hr);subst e;refine#[.fz q[6],?_,rfl];rfl
 have dl:=qfw (S.map (·.headD 0)) L λx hx=>by
  obtain⟨s,hs,z⟩:=gH.mp hx;subst z;exact MR L (qQ Q) 0 (λr hr=>#[vp r hr,O r hr]) s (pm.mem_iff.mp hs)
 have ls:Jf (.lst ((S.map (·.headD 0)).map D.int))=.ok ((yR (S.map (·.headD 0)))[1])[7]:=by
  unfold Jf;dsimp only;rw[JO]
  simp_all
 have m3:=y4 (i:=3) (j:=((yR (S.map (·.headD 0)))[1])) "d" "d"
 refine#[4+3*((yR (S.map (·.headD 0)))[1])+n,?_,"",""]
 unfold vJ Xj;simp![Ve,cm,ls,Vv,Vw,m3,sg]
def Ww:Nat->Int
 | 0=>37|1=>31|_=>25
theorem qfy:∀ c:Nat,c<3->okD (ati [D.int 37,.int 31,.int 25] c)=.ok (Ww c)[7]
 | 0,_=>rfl
 | 1,_=>rfl
 | 2,_=>rfl
 | n+3,h=>absurd h ""
def qfz:wI (.tup xs) i[6]=okD (ati xs i):=rfl
def qfA(st)(c:Nat)(z:c<3):∃ n,uG [.fz st[6],.fz c[6]]=.ok n[7]/\True:=by
 obtain⟨m,m3⟩:∃ m,V3 [.int (st-Ww c-8),.int (Ww c-st),.int 0]=.ok m[7]:=#[_,rfl];refine#[m/2,?_,trivial];unfold uG KY;simp![Vm,Vn,(qfy c z),m3];rfl
theorem qfB:∀ m,m<7->∃ k,x4 (.str "CDEFGAB") (.str (fcg m))=.ok k[7]
 | 0,_=>#[3,by kernel_rfl]
 | 1,_=>#[0,by kernel_rfl]
 | 2,_=>#[4,by kernel_rfl]
 | 3,_=>#[1,by kernel_rfl]
 | 4,_=>#[5,by kernel_rfl]
 | 5,_=>#[2,by kernel_rfl]
 | 6,_=>#[6,by kernel_rfl]
 | n+7,h=>absurd h ""
def qfC(h)(z:h.m<7):∃ n,yV [.fz (h3D h)]=.ok n[7]/\True:=by
 obtain⟨k,e⟩:=qfB h.m z;refine#[7*h.o+k,?_,trivial];unfold yV KW;simp![h3D,qfz,y4 (i:=7) "d" "d",Vl,e]
def qfD(k)(Q)(h:jX (FP k) Q):∃ xs:List Int,uN [.fz (grD (FP k) Q)]=.ok (.lst (xs.map D.int))[9]/\xs[1]<=100000:=by
 have hz:sz=16777216:=rfl;have hq:=h.1;obtain⟨w,i2,i3,q,xs,rfl,hn⟩:=MK 8 k (sIf (tE (eOp dEq (eOp qc (q9 3) 0[5]) (eC (.str "note")))) (vG 1 (qE 1 (jc (eOp qc (q9 3) 2[5])) (gV 4) qI (qg yV [(q9 4)]))) qu) (!(grD (FP k) Q)[8])
  (λpre w=>∃ xs,w=.ow (.lst (xs.map D.int))/\xs[1]<=12288*pre[1]) (λpre r w j3 #[xs,hw,hn] p8 hr=>by
   subst hw;have rl:=hr.2.1;obtain⟨w',i3,q,ys,B,O⟩:=MM 512 k (vG 1 (qE 1 (jc (eOp qc (q9 3) 2[5])) (gV 4) qI (qg yV [(q9 4)]))) (!(grD (FP k) Q)[8]) (!(gwD (FP k) r)[8])
    (λp w=>∃ ys,w=.ow (.lst (ys.map D.int))/\ys[1]<=xs[1]+24*p[1]) (λp v w #[m,a,b]=>#[m,a,by rw[gD];lia]) (λp v hs t w #[ys,a,b] p5 ok=>by
     subst a;have U:=ok.2.1;obtain⟨zs,cm,_,zl⟩:=Wu (i:=4) (λ_=>True) (ML k v hs t (!(grD (FP k) Q)[8]) (!(.lst (ys.map D.int))[9]) (!(gwD (FP k) r)[8])) (by rw[gg];lia) (λd hd=>by
      obtain⟨x,hx,z⟩:=gH.mp hd;subst z;obtain⟨n,e,_⟩:=qfC x (ok.2.2 x hx);refine#[n,?_,trivial];show(qg yV [(q9 4)]) [_,_,_,_,!(h3D x)[8]]=_;simp![e])
     rw[gg]at zl;refine#[.ow (.lst ((ys++zs).map D.int)),?_,ys++zs,rfl,by rw[gD,gD,fW];lia]
     rw[QV rfl cm (by rw[gg,gg];lia),tu]
     rfl) r [] (.lst (xs.map D.int))[9] j3 #[xs,rfl,by simp] (by rw[fR];lia) hr.1
   refine#[w',i3,q,ys,B,?_];rw[pF]at O;rw[gD,fW];lia) Q [] (.lst [])[9] none none #[[],rfl,by simp] (by rw[fR];lia) h.2
 refine#[xs,?_,by rw[pF]at hn;lia]
 unfold uN Xb;left;rw[ZN rfl];left;rw[q];left
def qfE(z:List Int):vW [.lst (z.map D.int)]=.ok z.sum[7]:=by
 unfold vW;dsimp only;rw[JO]
def qfF(xs:List Int)(O:xs[1]<=100000)(c:Nat)(B:c<3):∃ n,yX [.br (.lst (xs.map D.int)),.fz c[6]]=.ok n[7]:=by
 have hz:sz=16777216:=rfl;obtain⟨ys,cm,_,_⟩:=Wu (it:=iVc 0) (i:=2) (e:=qg uG [(q9 2),(q9 1)]) (ρ:=[!(.br (.lst (xs.map D.int))),!c[7]]) (λ_=>True) (y6 rfl rfl) (by rw[gg];lia) (λd hd=>by
  obtain⟨s,hs,z⟩:=gH.mp hd;subst z;obtain⟨n,e,_⟩:=qfA s c B;exact#[n,by simp![qR,ro,e],trivial])
 refine#[ys.sum,?_];unfold yX Xd;simp![cm,qfE]
abbrev P3:=Int×Int×Int
def p3D(p:P3):D:=.lst [.int p.1,.int p.2.1,.int p.2.2]
theorem Wx(p)(w)(B:w=.fz (p3D p)\/w=.br (p3D p)):∀ c:Nat,c<3->∃ p',w9 [w,.fz c[6]]=.ok (p3D p')[9]
 | 0,_=>#[(p.1,p.2.1+4,p.2.2+4),by rcases B with z|z<;>(subst z;kernel_rfl)]
 | 1,_=>#[(p.1+4,p.2.1,p.2.2+4),by rcases B with z|z<;>(subst z;kernel_rfl)]
 | 2,_=>#[(p.1+4,p.2.1+4,p.2.2),by rcases B with z|z<;>(subst z;kernel_rfl)]
 | n+3,h=>absurd h ""
def min3(p):wJ [p3D p]=.ok (vI p.1 [p.2.1,p.2.2])[7]:=rfl
def qfG(xs:List Int)(B:xs[1]<=100000)(p)(w)(O:w=.fz (p3D p)\/w=.ow (p3D p))(R0 R1 R3) :
  ∃ p',qE 1 (jc (eC xj)) (gV 5) qI (eOp qz (qg yX [(q9 4),(q9 5)]) (eB wJ [(qg w9 [(q9 2),(q9 5)])])) [R0,R1,!w,R3,!(.lst (xs.map D.int))[9]]=.ok (p3D p')[9]:=by
 have one:∀ c:Nat,c<3->∃ n,(eOp qz (qg yX [(q9 4),(q9 5)]) (eB wJ [(qg w9 [(q9 2),(q9 5)])])) ((qR 1 [R0,R1,!w,R3,!(.lst (xs.map D.int))[9]]).set 5 (!c[7]))=.ok n[7]/\True:=λc hc=>by
  obtain⟨n,l⟩:=qfF xs B c hc;obtain⟨p1,b1⟩:=Wx p (p3D p)[8] (.inl rfl) c hc;obtain⟨p2,b2⟩:=Wx p (.br (p3D p)) (.inr rfl) c hc;rcases O with rfl|rfl
  .exact#[n+vI p1.1 [p1.2.1,p1.2.2],by simp![qR,ro,l,b1,min3],trivial]
  exact#[n+vI p2.1 [p2.2.1,p2.2.2],by simp![qR,ro,l,b2,min3],trivial]
 obtain⟨ys,cm,_,yl⟩:=Wu (it:=jc (eC xj)) (λ_=>True) rfl "d" (λd hd=>by
  rcases gy.mp hd with z|hd
  .subst z;exact one 0 "d"
  rcases gy.mp hd with z|hd
  .subst z;exact one 1 "d"
  rcases gy.mp hd with z|hd
  .subst z;exact one 2 "d"
  cases hd)
 obtain⟨a,b,c,rfl⟩:∃ a b c,ys=[a,b,c]:=by
  match ys,yl with
  | [a,b,c],_=>exact#[a,b,c,rfl]
 exact#[(a,b,c),cm]
def qfH(k)(B:List (List (List (GE (List H3)))))(U:B[1]<=200)(h:∀ Q∈B,jX (FP k) Q):∃ ps:List P3,uT [.fz (.lst (B.map (grD (FP k))))]=.ok (.lst (ps.map p3D))[9]/\ps[1]=B[1]:=by
 have hz:sz=16777216:=rfl;obtain⟨ρ,e,ps,p,w,j3,j4,pl,hw,O⟩:=wE ((B.map (grD (FP k))).reverse) (λi ρ=>∃ ps p w j3 j4,ps[1]=i/\(w=.fz (p3D p)\/w=.ow (p3D p))/\ρ=[!(.lst (B.map (grD (FP k))))[8],!(.lst (ps.map p3D))[9],!w,j3,j4])
  (g:=gV 3) (b:=qe (qj 4 (qg uN [(q9 3)])) (qe (qj 2 (qE 1 (jc (eC xj)) (gV 5) qI (eOp qz (qg yX [(q9 4),(q9 5)]) (eB wJ [(qg w9 [(q9 2),(q9 5)])])))) (jB 2 (qN 1 (q9 2)))))
  (ρ:=[!(.lst (B.map (grD (FP k))))[8],!(.lst [])[9],!(.lst [.int 0,.int 0,.int 0])[9],none,none]) #[[],(0,0,0),_,none,none,rfl,.inr rfl,rfl] (λi x ρ hx #[ps,p,w,j3,j4,pl,hw,O]=>by
   subst O;have hi:=(gp.mp hx).1;rw[bH,gg]at hi;obtain⟨Q,hQ,z⟩:=gH.mp (List.mem_reverse.mp (hX hx));subst z;obtain⟨xs,st,sl⟩:=qfD k Q (h Q hQ);obtain⟨p',nc⟩:=qfG xs sl p w hw (!(.lst (B.map (grD (FP k))))[8]) (!(.lst (ps.map p3D))[9]) (!(grD (FP k) Q)[8]);refine#[_,_,rfl,.inl ?_,ps++[p'],p',.fz (p3D p'),!(grD (FP k) Q)[8],!(.lst (xs.map D.int))[9],by rw[gD,pl];rfl,.inl rfl,rfl]
   simp![st,nc];rw[zh rfl (by rw[gg];lia) (by left)]
   simp![tu])
 subst O;refine#[ps.reverse,?_,by rw[bH,pl,bH,gg]]
 have it:J5 0 [!(.lst (B.map (grD (FP k))))[8],!(.lst [])[9],!(.lst [.int 0,.int 0,.int 0])[9],none,none]=.ok ((B.map (grD (FP k))).reverse):=rfl;unfold uT Xt;left;rw[it];left;rw[e];left;have rv:ZY (q9 1) [!(.lst (B.map (grD (FP k))))[8],!(.lst (ps.map p3D))[9],!w,j3,j4]=.ok (.lst (ps.reverse.map p3D))[9]:=by
  show R.ok (En.ow (.lst (ps.map p3D).reverse))=_;simp
 rw[rv];left
def qfI(p):∃ j:Nat,j<3/\uC (p3D p) (vI p.1 [p.2.1,p.2.2])[6]=.ok j[7]:=by
 obtain⟨x,y,z⟩:=p;obtain⟨m1,_⟩:=V2 [y,z] x;show ∃ j,j<3/\(match [x,y,z].findIdx? (λn=>n==vI x [y,z])with|some j=>okI j|none=>.stuck)=_
 generalize vI x [y,z]=m at m1;by_cases a:x=m
 .refine#[0,by decide,?_]
  simp[bN,a]
 by_cases b:y=m
 .refine#[1,by decide,?_]
  simp[bN,a,b]
 have c:z=m:=by
  grind
 refine#[2,by decide,?_]
 simp[bN,a,b,c]
def jr(n:Nat):D:=.int (n:Int)
def qfJ(k)(B:List (List (List (GE (List H3)))))(hl:B[1]<=200)(h:∀ Q∈B,jX (FP k) Q):∃ cs:List Nat,yZ [.fz (.lst (B.map (grD (FP k))))]=.ok (.lst (cs.map jr))[9]/\cs[1]=B[1]/\∀ c∈cs,c<3:=by
 have hz:sz=16777216:=rfl;obtain⟨ps,pe,pl⟩:=qfH k B hl h;obtain⟨ρ,e,cs,j2,j3,cl,c3,O⟩:=wE (ps.map p3D) (λi ρ=>∃ cs j2 j3,cs[1]=i/\(∀ c∈cs,c<3)/\ρ=[!(.lst (B.map (grD (FP k))))[8],!(.lst (cs.map jr))[9],j2,j3])
  (g:=gV 2) (b:=qe (qj 3 (eIf (tE (q9 1)) (qg w9 [(q9 2),(eOp qc (q9 1) (eUn jR 1[5]))]) (q9 2))) (qN 1 (eOp uC (q9 3) (eB wJ [(q9 3)]))))
  (ρ:=[!(.lst (B.map (grD (FP k))))[8],!(.lst [])[9],none,none]) #[[],none,none,rfl,λ_ z=>(by cases z),rfl] (λi x ρ hx #[cs,j2,j3,cl,c3,O]=>by
   subst O;have hi:=(gp.mp hx).1;rw[gg]at hi;obtain⟨p,hp,z⟩:=gH.mp (hX hx);subst z;obtain⟨p',w3,s3,hw⟩:∃ p' w3,(eIf (tE (q9 1)) (qg w9 [(q9 2),(eOp qc (q9 1) (eUn jR 1[5]))]) (q9 2)) [!(.lst (B.map (grD (FP k))))[8],!(.lst (cs.map jr))[9],!(p3D p)[8],j3]=.ok w3/\(w3=.fz (p3D p')\/w3=.ow (p3D p')):=by
    cases hg:cs.getLast? with
    | none =>
     have:=pB.mp hg;subst this;exact#[p,.fz (p3D p),rfl,.inl rfl]
    | some c =>
     have U:(cs.map jr).isEmpty=false:=by
      cases cs with
      | nil=>cases hg
      | cons a l=>rfl
     have la:okD (ati (cs.map jr) (-1))=.ok c[7]:=by rw[QE,bg,hg];rfl
     obtain⟨p',b⟩:=Wx p (p3D p)[8] (.inl rfl) c (c3 c (dj hg));exact#[p',.ow (p3D p'),by simp![U,la,b],.inr rfl]
   obtain⟨j,Z,ix⟩:=qfI p';refine#[_,_,rfl,.inl ?_,cs++[j],!(p3D p)[8],!w3,by rw[gD,cl];rfl,λc hc=>?_,rfl]
   .show(qe (qj 3 _) _) [!(.lst (B.map (grD (FP k))))[8],!(.lst (cs.map jr))[9],!(p3D p)[8],j3]=_;have Y:(qj 3 (eIf (tE (q9 1)) (qg w9 [(q9 2),(eOp qc (q9 1) (eUn jR 1[5]))]) (q9 2))) [!(.lst (B.map (grD (FP k))))[8],!(.lst (cs.map jr))[9],!(p3D p)[8],j3]=.nx [!(.lst (B.map (grD (FP k))))[8],!(.lst (cs.map jr))[9],!(p3D p)[8],!w3]:=by
     rcases hw with z|z<;>(subst z;rw[uf,s3];rfl)
    rw[ji,Y,jy,zh (xs:=cs.map jr) (d:=jr j) rfl (by rw[gg];lia) (by rcases hw with z|z<;>(subst z;simp![min3,ix];rfl)),tu]
    rfl
   rcases gC.mp hc with z|z
   .exact c3 c z
   rw[tY.mp z];exact Z)
 subst O;refine#[cs,?_,by rw[cl,gg,pl],c3]
 have it:jc (qg uT [(q9 0)]) [!(.lst (B.map (grD (FP k))))[8],!(.lst [])[9],none,none]=.ok (ps.map p3D):=vQ (w:=.ow (.lst (ps.map p3D))) (by simp![pe]) rfl
 unfold yZ XE;left;rw[it];left;rw[e];left
def eD(e:Int×Nat):D:=.tup [.int e.1,.int (-(e.2:Int))]
theorem MT:∀ es:List (Int×Nat),vF (es.map eD)=!(es.map λe=>[e.1,-(e.2)])
 | []=>rfl
 | e::r=>by
  show(match jJ [D.int e.1,D.int (-(e.2))],vF (r.map eD)with|some a,!b=>↑(a::b)|_,_=>none)=_
  rw[MT r];rfl
theorem MU:∀ r m,yb m r∈m::r
 | [],m=>by simp[yb]
 | q::r,m=>by
  unfold yb;rcases gy.mp (MU r (if HT.lexLt q m=true then q else m))with z|z
  .grind
  simp_all
def qfK(es)(ne:es≠[]):∃ e∈es,xa [.lst (es.map eD)]=.ok (eD e)[8]:=by
 cases es with
 | nil=>exact absurd rfl ne
 | cons a r =>
  have m:=MU (r.map λe=>[e.1,-(e.2)]) [a.1,-(a.2)]
  rw[<- gN (f:=λe:Int×Nat=>[e.1,-(e.2)])]at m
  obtain⟨e,he,z⟩:=gH.mp m;refine#[e,he,?_];unfold xa;dsimp only;rw[MT,gN];dsimp only;rw[<- z];rfl
abbrev ρC(ws:List Int)(r:Int)(k:Nat)(bs:List D)(es:List (Int×Nat))(z B O:Option En):Rho:=[!(.lst (ws.map D.int))[8],!r[7],!(k:Int)[7],!(.br (.lst bs)),!(.lst (es.map eD))[9],z,B,O]
def qfL(ws:List Int)(r)(k)(bs)(U:r<=5000)(Z:ws[1]<=177)(hk:k<ws[1])(hp:∀ w∈ws,1<=w/\w<=r)
  (Y:∀ j,k<j->j<ws[1]->∃ e,bs[j]?=!(eD e)) :
  ∃ es,es≠[]/\(∀ e∈es,k<e.2/\e.2<=ws[1])/\uK [.fz (.lst (ws.map D.int)),.fz r[6],.fz k[6],.br (.lst bs)]=.ok (.lst (es.map eD))[9]:=by
 have hz:sz=16777216:=rfl;unfold uK X6;left;rw[qeA (i:=k+1) (j:=(ws[1])+1) (by left) (by simp![gg]) "" "" "" "",zD]
 rw[show((ws[1])+1-((k:Int)+1)).toNat=ws[1]-k by lia]
 have key:=QC (Q:=λo=>∃(es:List (Int×Nat)) (i5 i6 i7:Option En),es≠[]/\(∀ e∈es,k<e.2/\e.2<=ws[1])/\o=.nx (ρC ws r k bs es i5 i6 i7)) (zn (k+1) (ws[1]-k))
  (λi ρ=>∃(es:List (Int×Nat)) (l:Int) (i6 i7:Option En),es[1]=i/\l<=5000/\(i=0->l=r)/\(∀ e∈es,k<e.2/\e.2<=ws[1])/\ρ=ρC ws r k bs es (!l[7]) i6 i7)
  (g:=gV 6) (b:=(qe (jV 5 qZ (eOp qc (q9 0) (eOp qZ (q9 6) 1[5])))
 (qe (sIf (tE (eOp dLt (q9 5) 0[5])) yx qu)
 (qe (qj 7 (eIf (tE (eOp dEq (q9 6) (eB jd [(q9 0)]))) 0[5] (eOp qz (eOp jN (q9 5) (q9 5)) (eOp qc (eOp qc (q9 3) (q9 6)) 0[5]))))
 (qN 4 (ju [(q9 7),(eUn jR (q9 6))]))))))
  (ρ:=ρC ws r k bs [] (!r[7]) none none) #[[],r,none,none,rfl,U,λ_=>rfl,λ_ z=>(by cases z),rfl] (λi x ρ hx #[es,l,i6,i7,el,hl,h0,he,hρ]=>by
   subst hρ;rw[xY]at hx;by_cases hi:i<ws[1]-k
   .rw[if_pos hi]at hx;cases hx;have wk:ws[k+i]?=!ws[k+i]:=gE ""
    have hw:=hp ws[k+i] (fH _);generalize ws[k+i]=w at wk hw;have g0:(ws.map D.int)[k+i]?=!w[6]:=by rw[gG,wk];rfl
    have e1:(k+1+i)-1=((k+i:Nat):Int):=""
    have e2:((k:Int)+1+(i:Int))=((k+1+i:Nat):Int):=""
    refine#[ρC ws r k bs es (!l[7]) (!((k:Int)+1+(i:Int))[7]) i7,rfl,?_];have s1:(jV 5 qZ (eOp qc (q9 0) (eOp qZ (q9 6) 1[5]))) (ρC ws r k bs es (!l[7]) (!((k:Int)+1+(i:Int))[7]) i7)=.nx (ρC ws r k bs es (!(l-w)[7]) (!((k:Int)+1+(i:Int))[7]) i7):=by
     simp![e1,zC,g0]
    rw[ji,s1,jy,ji];by_cases c:l-w<0
    .have s2:(sIf (tE (eOp dLt (q9 5) 0[5])) yx qu) (ρC ws r k bs es (!(l-w)[7]) (!((k:Int)+1+(i:Int))[7]) i7)=.bk (ρC ws r k bs es (!(l-w)[7]) (!((k:Int)+1+(i:Int))[7]) i7):=by
      simp![c,decide_true]
     rw[s2,qbh];refine#[es,_,_,_,λz=>?_,he,rfl]
     subst z;have:=h0 el.symm[""]
     lia
    have s2:(sIf (tE (eOp dLt (q9 5) 0[5])) yx qu) (ρC ws r k bs es (!(l-w)[7]) (!((k:Int)+1+(i:Int))[7]) i7)=.nx (ρC ws r k bs es (!(l-w)[7]) (!((k:Int)+1+(i:Int))[7]) i7):=by
     simp![c,decide_false]
    obtain⟨c7,q⟩:∃ c7:Int,(qj 7 (eIf (tE (eOp dEq (q9 6) (eB jd [(q9 0)]))) 0[5] (eOp qz (eOp jN (q9 5) (q9 5)) (eOp qc (eOp qc (q9 3) (q9 6)) 0[5])))) (ρC ws r k bs es (!(l-w)[7]) (!((k:Int)+1+(i:Int))[7]) i7)=.nx (ρC ws r k bs es (!(l-w)[7]) (!((k:Int)+1+(i:Int))[7]) (!c7[7])):=by
     by_cases z:k+1+i=ws[1]
     .have ec:((k:Int)+1+(i:Int)==((ws.map D.int)[1]:Int))=true:=by rw[gg,e2,z];simp
      exact#[0,by simp![ec]]
     have ec:((k:Int)+1+(i:Int)==((ws.map D.int)[1]:Int))=false:=by rw[gg,e2,px];lia
     obtain⟨e,hx⟩:=Y (k+1+i) "" ""
     have g1:ati bs ((k:Int)+1+(i:Int))=!(.tup [.int e.1,.int (-(e.2:Int))]):=by rw[e2,zC,hx];rfl
     have O:=y4 (i:=l-w) (j:=l-w) "" ""
     exact#[(l-w)*(l-w)+e.1,by simp![ec,O,g1]]
    rw[s2,jy,ji,q,jy,zh (xs:=es.map eD) (d:=eD (c7,k+1+i)) rfl (by rw[gg];lia) (by simp![eD,e2])]
    refine#[es++[(c7,k+1+i)],l-w,_,_,by rw[gD,el];rfl,"",λz=>by lia,λe B=>?_,by unfold ρC;rw[tu];rfl]
    rcases gC.mp B with z|z
    .exact he e z
    rw[tY.mp z];show k<k+1+i/\k+1+i<=ws[1];lia
   rw[if_neg hi]at hx;cases hx) (λρ #[es,l,i6,i7,el,hl,h0,he,hρ]=>#[es,!l[7],i6,i7,λz=>by subst z;rw[Qt]at el;simp at el;lia,he,congrArg Out.nx hρ])
 obtain⟨es,i5,i6,i7,ne,he,q⟩:=key;refine#[es,ne,he,?_];have q:qD _ _ _ [_,_,_,_,!(.lst [])[9],_,_,_]=_:=q;rw[q];left
def Wy(n q:Nat)(bs:List D):Prop:=bs[1]=n/\∀ j,q<=j->j<n->∃ e:Int×Nat,bs[j]?=!(eD e)/\j<e.2/\e.2<=n
def qfM{g:D->D->R En}{e f:EF}{x y:En}(h1:e ρ=.ok x)(h2:f ρ=.ok y)(z:g x.dd y.dd=r):eOp g e f ρ=r:=by rw[ZL,h1,h2];exact z
def qfN(ws:List Int)(r)(U:r<=5000)(Y:ws[1]<=177)(hp:∀ w∈ws,1<=w/\w<=r):∃ bs,Wy ws[1] 0 bs/\Jq [.fz (.lst (ws.map D.int)),.fz r[6]]=.ok (.lst bs)[9]:=by
 have hz:sz=16777216:=rfl;have go:∀ q bs j3,q<=ws[1]->Wy ws[1] q bs->∃ bs' i3,Wy ws[1] 0 bs' /\
   qD (gV 3) (kR 2 (q9 3) (eB xa [(qg uK [(q9 0),(q9 1),(q9 3),(q9 2)])])) (kn q) [!(.lst (ws.map D.int))[8],!r[7],!(.lst bs)[9],j3]=.nx [!(.lst (ws.map D.int))[8],!r[7],!(.lst bs')[9],i3]:=by
  intro q
  induction q with
  | zero=>intro bs j3 _ h;exact#[bs,j3,h,rfl]
  | succ q ih =>
   intro bs j3 hq ⟨b1,b2⟩;obtain⟨es,ne,he,ch⟩:=qfL ws r q bs U Y "" hp λj h1 h2=>by obtain⟨e,x,_⟩:=b2 j h1 h2;exact#[e,x]
   obtain⟨m,hm,mt⟩:=qfK es ne;have B:=he m hm;obtain⟨bs',i3,h',O⟩:=ih (bs.set q (eD m)) (!q[7]) "" #[by rw[dN];exact b1,λj h1 h2=>by
    by_cases c:q=j
    .subst c;exact#[m,List.getElem?_set_self "",B]
    rw[gW c];exact b2 j "" h2]
   refine#[bs',i3,h',?_];rw[kn,zR (yM)];rw[qby (xs:=bs) (d:=eD m) (w:=.fz q[6]) (j:=q) (n:=q) rfl (by simp![ch,mt]) rfl rfl (by unfold ixn;rw[if_pos "",if_pos ""];simp)]
   exact O
 obtain⟨b0,bl,st⟩:∃ bs,bs[1]=ws[1]/\x9 (.lst [.tup [.int 0,.int 0]]) (ws[1])[6]=.ok (.lst bs)[9]:=by
  refine#[zO ws[1] [.tup [.int 0,.int 0]],by simp[zO],?_]
  unfold x9;dsimp only;rw[if_pos #["","",by rw[fK];simp;lia],fK]
 obtain⟨bs,i3,hb,q⟩:=go ws[1] b0 none (gw _) #[bl,λj h1 h2=>by lia]
 refine#[bs,hb,?_];have rf:Jn [.fz (.lst (ws.map D.int)),.fz r[6]]=.ok (.fz .non):=by
  obtain⟨ρ,e,i2,i3,z⟩:=wE (numd 0 (ws.map D.int)) (λ_ ρ=>∃ i2 i3,ρ=[!(.lst (ws.map D.int))[8],!r[7],i2,i3]) (g:=gT [2,3]) (b:=sIf (tE (eOp dGt (q9 3) (q9 1))) zq qu) (ρ:=[!(.lst (ws.map D.int))[8],!r[7],none,none]) #[none,none,rfl] (λi x ρ hx #[i2,i3,z]=>by
   subst z;obtain⟨d,e1,rfl⟩:=VL hx;obtain⟨w,hw,rfl⟩:=gH.mp (hX e1);have dw:decide (r<w)=false:=by have:=hp w hw;simp;lia
   exact#[[!(.lst (ws.map D.int))[8],!r[7],!i[7],!w[7]],[!(.lst (ws.map D.int))[8],!r[7],!i[7],!w[7]],rfl,.inl (by simp![dw]),_,_,rfl])
  unfold Jn X5;left;rw[show zr 0 [!(.lst (ws.map D.int))[8],!r[7],none,none]=.ok (numd 0 (ws.map D.int))from rfl,zD,e]
  rfl
 have wr:uH [.fz r[6]]=.ok (.bl true)[8]:=rfl;have len:((ws.map D.int)[1])=(ws[1]):=by rw[gg]
 have it:iR3d (eOp qZ (eB jd [(q9 0)]) 1[5]) (eUn jR 1[5]) (eUn jR 1[5]) [!(.lst (ws.map D.int))[8],!r[7],!(.lst b0)[9],none]=.ok (kn ws[1]):=by
  refine qeB ?_ ?_ ?_ ""
  .simp![len]
  .left
  left
 unfold Jq Xk;rw[QM,Zf (ρ':=[!(.lst (ws.map D.int))[8],!r[7],none,none]),Zf (ρ':=[!(.lst (ws.map D.int))[8],!r[7],none,none]),Zf (ρ':=[!(.lst (ws.map D.int))[8],!r[7],!(.lst b0)[9],none]),ji,QK,it,zD,q]
 .rfl
 .rw[uf,qfM (x:=.ow (.lst [.tup [.int 0,.int 0]])) (y:=.fz (ws[1])[6]) rfl (by simp![len]) st]
  rfl
 .simp![rf]
 simp![wr]
def qfO(ws:List Int)(r)(B:r<=5000)(O:ws[1]<=177)(hp:∀ w∈ws,1<=w/\w<=r):∃ fs:List Nat,yY [.fz (.lst (ws.map D.int)),.fz r[6]]=.ok (.lst (fs.map jr))[9]:=by
 have hz:sz=16777216:=rfl;obtain⟨bs,⟨b1,b2⟩,be⟩:=qfN ws r B O hp;have len:((ws.map D.int)[1])=(ws[1]):=by rw[gg]
 have go:∀ q f (z:List Nat),f<=ws[1]->ws[1]-f<q->z[1]<=f->∃(fs:List Nat) (i4:Option En),
   zg (tE (eOp dLt (q9 4) (eB jd [(q9 0)]))) (qe (qN 3 (q9 4)) (qj 4 (eUn jR (eOp qc (eOp qc (q9 2) (q9 4)) 1[5])))) q [!(.lst (ws.map D.int))[8],!r[7],!(.lst bs)[9],!(.lst (z.map jr))[9],!f[7]]
   = .nx [!(.lst (ws.map D.int))[8],!r[7],!(.lst bs)[9],!(.lst (fs.map jr))[9],i4]:=by
  intro q
  induction q with
  | zero=>intro f z _ h;lia
  | succ q ih =>
   intro f z h1 h2 h3;by_cases c:f<ws[1]
   .obtain⟨e,ge,e1,e2⟩:=b2 f (tJ _) c;have lt:decide (f<(ws[1]:Int))=true:=by simp;lia
    have g2:ati bs f=!(.tup [.int e.1,.int (-(e.2))]):=by rw[zC,ge];rfl
    obtain⟨fs,i4,q2⟩:=ih e.2 (z++[f]) e2 "" (by rw[gD,fW];lia)
    refine#[fs,i4,?_];rw[<- q2];refine UP ?_ ?_
    .simp![len,lt]
    rw[ji,zh (xs:=z.map jr) (d:=jr f) rfl (by rw[gg];lia) (by simp![jr])]
    simp![g2,Int.neg_neg,tu]
   have lt:decide (f<(ws[1]:Int))=false:=by simp;lia
   exact#[z,_,UO (by simp![len,lt])]
 obtain⟨fs,i4,q⟩:=go 180 0 [] (tJ _) "" "s"
 refine#[fs,?_];unfold yY XA;simp![be,wV];have q:zg _ _ 180 [_,_,_,!(.lst [])[9],!0[7]]=_:=q;rw[q];left
def zV(v:List Ch)(ms:List (Int×Int×Int))(n:Nat):List (List Ev):=(List.range n).map λi=>zy v (qB ms i) (qB ms (i+1))
def Qf(bs:List (List Ev)):List D:=bs.map λes=>D.lst (es.map evD)
def Wz(xs):∃ en,y8 (.lst (xs.map D.int)) 0[6]=.ok en[7]/\(∀ x∈xs,x<=en)/\(en∈xs\/(xs=[]/\en=0)):=by
 cases xs with
 | nil=>exact#[0,rfl,λ_ h=>(by cases h),.inr #[rfl,rfl]]
 | cons x r =>
  obtain⟨k1,k2⟩:=Zy r x;refine#[y3 x r,?_,k2,.inl k1];unfold y8;dsimp only;rw[JO]
def MV(h:∀ x,x∈xs↔x∈ys){a b:Int}(h1:∀ x∈xs,x<=a)(h2:a∈xs\/(xs=[]/\a=0))(z:∀ x∈ys,x<=b)(B:b∈ys\/(ys=[]/\b=0)):a=b:=by
 grind
structure Need(ms:List (Int×Int×Int))(en:Int)(n:Nat):Prop where
 pos:1<=n
 few:n<=177
 end_:en<=qB ms n
 least:∀ i,1<=i->i<n->qB ms i<en
def qfP(f:Fine ms)(l:Lens ms)(en)(h0:0<=en)(z:en<=1401):∃ n,Need ms en n/\xt [.br (.lst (ms.map qp)),.fz en[6]]=.ok n[7]:=by
 obtain⟨B,P,e,s1,s2,s3⟩:=qed f l (if 0>en-1 then 0 else en-1) (by split<;>lia)
 have a0:=XT f l 0 B;rw[qds,pP]at a0;have tb:(if 0>en-1 then 0 else en-1)<=1400:=by split<;>lia
 refine#[B+1,#["","",?_,λi h1 h2=>?_],?_]
 .rw[wO];split at s3<;>lia
 .have m:=XT f l i (B-i);rw[show i+(B-i)=B by lia]at m
  split at s3<;>lia
 unfold xt XB;simp![e];rfl
def qW(ms:List (Int×Int×Int))(n:Nat):List D:=(List.range n).map λk:Nat=>D.int (jk ms k)
def qfQ(f:Fine ms){B:Int}{n:Nat}(N:Need ms B n):uL [.br (.lst (ms.map qp)),.fz B[6]]=.ok (.lst (qW ms n))[9]:=by
 have hz:sz=16777216:=rfl;have hl:=f.2.2.2;have n1:=N.pos;have n2:=N.few;have sm:∀ i,vW [.lst (qW ms i)]=.ok (qB ms i)[7]:=λi=>by
  have sm:=qdu ((List.range i).map λk:Nat=>jk ms k)
  rw[h9]at sm;exact sm
 have go:∀ k i z,n-i=k->k<z->i<=n ->
   zg (L3.tOr (L3.jO (tE (q9 2))) (tE (eOp dLt (eB vW [(q9 2)]) (q9 1)))) (qN 2 (eOp qc (qE 1 (iVc 0) (gV 3) (tE (eOp dLe (eOp qc (q9 3) 0[5]) (eB jd [(q9 2)]))) (eOp jN (eOp qc (q9 3) 1[5]) (eOp qc (q9 3) 2[5]))) (eUn jR 1[5]))) z
    [!(.br (.lst (ms.map qp))),!B[7],!(.lst (qW ms i))[9]] =
    .nx [!(.br (.lst (ms.map qp))),!B[7],!(.lst (qW ms n))[9]]:=by
  intro k
  induction k with
  | zero =>
   intro i z h1 h2 h3;obtain⟨z,rfl⟩:∃ x,z=x+1:=#[z-1,""]
   have ei:i=n:=""
   subst ei;have ie:(qW ms i).isEmpty=false:=by
    unfold qW;cases i with
    | zero=>lia
    | succ i=>rw[b8];rfl
   have d:decide (qB ms i<B)=false:=by have:=N.end_;simp;lia
   exact UO (by simp![ie,sm,d])
  | succ k ih =>
   intro i z h1 h2 h3;obtain⟨z,rfl⟩:∃ x,z=x+1:=#[z-1,""]
   rw[<- ih (i+1) z "" "" ""]
   refine UP ?_ ?_
   .cases i with
    | zero=>simp![qW,List.range_zero,pY,List.isEmpty_nil]
    | succ i =>
     have ie:(qW ms (i+1)).isEmpty=false:=by unfold qW;rw[List.isEmpty_map,b8];rfl
     have d:decide (qB ms (i+1)<B)=true:=by have:=N.least (i+1) "" "";simpa using this
     simp![ie,sm,d]
   rw[zh (xs:=qW ms i) (d:=.int (jk ms i)) rfl (by unfold qW;rw[gg,fZ];lia) (by
    left;rw[yI (ds:=ms.map qp) (ys:=(zw ms i).map D.int) (y6 (w:=.br (.lst (ms.map qp))) rfl rfl) (by rw[gg];lia) (by
     rw[<- qdr];refine QD 3 (pD i) XQ _ _ λd hd=>?_
     obtain⟨p,hp,rfl⟩:=gH.mp hd;have hb:=f.2.1 p hp;refine#[by simp![qR,ro,qp,pD,qW,gg,fZ],λ_=>#[.fz (p.2.1*p.2.2)[6],?_,rfl]]
     simp![qR,ro,qp,y4 (i:=p.2.1) (j:=p.2.2) "" ""])]
    simp![Int.reduceNeg,QE,bg,XR f i,Option.map_some])]
   unfold qW;rw[cK,tu];rfl
 have e:=go n 0 200 "" "" ""
 unfold uL Xa wV;left;have e:zg _ _ 200 [_,_,!(.lst [])[9]]=_:=e;rw[e];left
structure Voi(ns:List Nt)(ws:Vs):Prop where
 run:run [] (rowOf ns)=!ws
 l8:ws[1]<=8
 vo:∀ v∈ws,Vo v
 ps:∀ v∈ws,∀ c∈v,PsOk c.2.2
 vl:∀ v∈ws,v[1]<=24
 tot:jq ws.flatten<=24
def qfR(ns)(N:NotesOk ns)(B:ns[1]<=24):∃ ws,Voi ns ws:=by
 have R:=VO N;have rb:=VP N R;have th:=λt=>qdY N R t
 obtain⟨ws,r,V,l⟩:=Uh (rowOf ns) (R.up.imp λ{a b} h=>by unfold ltC at h;lia) (λc hc=>(rb c hc).2.2.1) th (rowOf ns) [] [] 8 rfl Ue "s" (λc _=>th c.1)
 refine#[ws,r,l,λv hv=>#[V.ap v hv,λc hc=>?_],λv hv c hc=>?_,λv hv=>f8 (V.len v hv) (f8 (VQ ns) B),?_]
 .have:=rb c (V.old v hv c hc);unfold cend;lia
 .have hr:=V.old v hv c hc;have:=qdR hr;rw[Ua]at this;exact#[R.ne c hr,"",λp hp=>by have:=N.b _ (R.of c hr p hp);exact#[this.2.2.2.2.1,this.2.2.2.2.2],R.ri c hr]
 have:=UM _ _ _ r;rw[Ua]at this;have z:jq [].flatten=0:=rfl;lia
def qfS(ns):qK (qK ns)=qK ns:=by
 have ft:∀ l:List (List Int),l.filter (λ_=>true)=l:=λl=>dF.mpr λ_ _=>rfl
 have h:=Mi (λ_=>true) (ft _) (QQ (ns.map ntR))
 rw[ft]at h;show(qX ((qK ns).map ntR)).map ofR=_;rw[Q2,h];rfl
def qfT(ns):rowOf (qK ns)=rowOf ns:=by unfold rowOf;rw[qfS]
def vj(ws:Vs)(ms:List (Int×Int×Int))(n:Nat):List (List (List Ev)):=ws.map λv=>zV v ms n
def zj(r:List (List Ev)):D:=.lst (Qf r)
def ko{α:Type}{it:IF}{i:Nat}(xs:List α)(g h)(hi:it ρ=.ok (xs.map g))(O:xs[1]<=sz)(B:∀ x∈xs,∃ w,e ((qR 1 ρ).set i (!(g x)[8]))=.ok w/\w.st=.ok (h x)) :
  qE 1 it (gV i) qI e ρ=.ok (.lst (xs.map h))[9]:=by
 classical
 let f:D->D:=λd=>if q:∃ x,x∈xs/\g x=d then h q.choose else .non
 have key:∀ x∈xs,(∃ w,e ((qR 1 ρ).set i (!(g x)[8]))=.ok w/\w.st=.ok (f (g x)))/\f (g x)=h x:=λx hx=>by
  have q:∃ y,y∈xs/\g y=g x:=#[x,hx,rfl];have fe:f (g x)=h q.choose:=dif_pos q;obtain⟨y1,y2⟩:=q.choose_spec;obtain⟨w,a,b⟩:=B _ y1;obtain⟨w2,a2,b2⟩:=B x hx
  simp_all
 rw[yI hi (by rw[gg];exact O) (kO i f _ _ λd hd=>by
  obtain⟨x,hx,z⟩:=gH.mp hd;subst z;exact(key x hx).1)]
 simp_all
def WA{i:Nat}(z:ρ.length=i)(d):((qR 1 ρ).set i d)[i]?=!d:=List.getElem?_set_self (by unfold qR;simp;lia)
def MW{i j:Nat}(z:ρ.length=i)(B:j<i)(d):((qR 1 ρ).set i d)[j]?=(ρ[j]?).map ro:=by
 rw[gW ""]
 unfold qR;rw[t3 (by simp;lia),gG]
def qfU(f:Fine ms)(l:Lens ms)(v)(V:Vo v)(n)(B:n<=177):yj [.fz (vD v),.br (.lst (qW ms n))]=.ok (zj (zV v ms n))[9]:=by
 have hz:sz=16777216:=rfl;unfold yj XH;left;rw[YG rfl];left;obtain⟨ρ,er,j4,z⟩:=wE (qW ms n) (λi ρ=>∃ j4,ρ=[!(vD v)[8],!(.br (.lst (qW ms n))),!(zj (zV v ms i))[9],!(qB ms i)[7],j4])
  (g:=gV 4) (b:=qe (qN 2 (qg uU [(q9 0),(q9 3),(eOp qz (q9 3) (q9 4))])) (jV 3 zL (q9 4)))
  (ρ:=[!(vD v)[8],!(.br (.lst (qW ms n))),!(.lst [])[9],!0[7],none]) #[none,rfl] (λi x ρ hx #[j4,z]=>by
   subst z;unfold qW at hx;rw[gG]at hx;cases ei:(List.range n)[i]? with
   | none=>rw[ei]at hx;cases hx
   | some k =>
    rw[ei]at hx;cases hx;have hi:i<n:=by have:=(gp.mp ei).1;simpa using this
    rw[dD hi]at ei;cases ei;have dp:=uX f l i;have be:=qe5 v V (qB ms i) (qB ms i+jk ms i) "" ""
    rw[show D.lst (v.map chD)=vD v from rfl]at be
    refine#[_,_,rfl,.inl ?_,!(jk ms i)[7],rfl];left;rw[zh (d:=.lst ((zy v (qB ms i) (qB ms (i+1))).map evD)) rfl (by simp[Qf,zV,hz];lia) (by
     rw[wO];simp![be])]
    simp![wO];simp[zj,Qf,zV,cK,wO])
 rw[er];subst z;unfold qW;rw[gg,fZ];left
def MX(V:Voi ns ws)(pos:∀ c∈rowOf ns,1<=c.2.1)(xs)(O:rowOf xs=rowOf ns)(U:(xs.map ntR).Nodup)(Y:xs[1]<=24)(f:Fine ms)(l:Lens ms)(n)(Z:n<=177)(a b i)(ρ)(z:ρ.length=i)(B:b<i)
  (ha:(q9 a) ρ=.ok (.br (.lst (xs.map ntD))))(hb:ρ[b]?=!(!(.lst (qW ms n))[9])) :
  qE 1 (jc (qg wL [(qg wa [(q9 a)])])) (gV i) qI (qg yj [(q9 i),(q9 b)]) ρ=.ok (.lst ((vj ws ms n).map zj))[9]:=by
 have hz:sz=16777216:=rfl;have ch:=qdQ xs U Y;rw[O]at ch;have rl:=VQ xs;rw[O]at rl;have vo:=qdX (.lst ((rowOf ns).map chD))[8] (rowOf ns) (.inr rfl) "" pos
 rw[V.run]at vo;have it:jc (qg wL [(qg wa [(q9 a)])]) ρ=.ok (ws.map vD):=vQ (w:=.ow (.lst (ws.map vD))) (by
  have c1:(qg wa [(q9 a)]) ρ=.ok (.lst ((rowOf ns).map chD))[9]:=by simp[uk,uh,ug,ha,kP,uj,ui,YB,ch]
  rw[uk,uh,c1];simp[ug,kP,uj,ui,qbi,vo,VW]) rfl
 have l8:=V.l8;rw[ko ws vD (λv=>zj (zV v ms n)) it "" λv hv=>#[.ow (zj (zV v ms n)),?_,rfl]]
 .unfold vj;rw[h9];rfl
 have v1:(q9 i) ((qR 1 ρ).set i (!(vD v)[8]))=.ok (vD v)[8]:=by rw[yK,WA z];rfl
 have v2:(q9 b) ((qR 1 ρ).set i (!(vD v)[8]))=.ok (.br (.lst (qW ms n))):=by rw[yK,MW z B,hb];rfl
 simp[uk,uh,ug,v1,v2,kP,uj,ui,ZK,YB,qfU f l v (V.vo v hv) n Z]
def vL(ws:Vs)(ms:List (Int×Int×Int))(b:Nat):List (List Ev):=ws.map λv=>zy v (qB ms b) (qB ms (b+1))
def barsB(ws:Vs)(ms:List (Int×Int×Int))(n:Nat):List (List (List Ev)):=(List.range n).map (vL ws ms)
def MY(ws)(Z:ws[1]<=8)(ms)(n k)(O:k<n)(j m i)(ρ)(z:ρ.length=i)(U:m<i)(B:iVc j ρ=.ok ((vj ws ms n).map zj))(Y:ρ[m]?=!(!k[7])) :
  qE 1 (iVc j) (gV i) qI (eOp qc (q9 i) (q9 m)) ρ=.ok (brD (vL ws ms k))[9]:=by
 have hz:sz=16777216:=rfl;unfold vj at B;rw[h9]at B;rw[ko ws _ (λv=>rwD (zy v (qB ms k) (qB ms (k+1)))) B "" λv hv=>#[.fz (rwD (zy v (qB ms k) (qB ms (k+1)))),?_,rfl]]
 .unfold brD vL;rw[h9];rfl
 have v1:∀ d,(q9 i) ((qR 1 ρ).set i (!d[8]))=.ok d[8]:=λd=>by rw[yK,WA z];rfl
 have v2:∀ d,(q9 m) ((qR 1 ρ).set i d)=.ok k[7]:=λd=>by rw[yK,MW z U,Y];rfl
 have ix:qc (zj (zV v ms n)) k[6]=.ok (rwD (zy v (qB ms k) (qB ms (k+1))))[8]:=by
  show okD (ati (Qf (zV v ms n)) k)=_;unfold Qf zV;rw[zC,h9,gG,dD O];rfl
 simp[ZL,v1,v2,kP,qbj,Function.comp,ix]
theorem MZ(v)(V:Vo v)(f:Fine ms)(l:Lens ms):∀ n,jE (zV v ms n).flatten (W v 0)=!(W v (qB ms n))
 | 0=>rfl
 | n+1=>by
  have e:(zV v ms (n+1)).flatten=(zV v ms n).flatten++zy v (qB ms n) (qB ms (n+1)):=by
   unfold zV;rw[cK];simp
  have d:=uX f l n;rw[e,Q5,MZ v V f l n];exact UE V (by rw[wO];lia)
def qfV{ws:Vs}(V:Voi ns ws)(f:Fine ms)(l:Lens ms)(b):(vL ws ms b)[1]=ws[1]/\∀ r∈vL ws ms b,PRow r/\(r.map pv).sum=jk ms b:=by
 have d:=uX f l b;have s:=wO ms b;refine#[by unfold vL;rw[gg],λr hr=>?_]
 obtain⟨v,hv,z⟩:=gH.mp hr;subst z;have sm:=(W6 _ _ _ (UE (V.vo v hv) (b:=qB ms b) (e:=qB ms (b+1)) "")).2
 have sm:qB ms (b+1)=qB ms b+((zy v (qB ms b) (qB ms (b+1))).map pv).sum:=sm;have vl:=V.vl v hv;obtain⟨be,bl⟩:=(UK (qB ms b) (qB ms (b+1)) 512 8 (JM 512 8 (.inr #["",rfl])) "" "" v (V.ps v hv)).1
 refine#[#[be,"",?_],""]
 grind
def qfW{ws:Vs}(V:Voi ns ws)(f:Fine ms)(l:Lens ms)(n v)(z:v<ws[1]):∃ g,TieB none (yo (barsB ws ms n) v).flatten g:=by
 have e:yo (barsB ws ms n) v=zV ws[v] ms n:=by
  unfold yo barsB;rw[h9];apply tq;intro b _;unfold vL
  simp_all
 have vo:=V.vo ws[v] (fH _);have t:=(W6 _ _ _ (MZ ws[v] vo f l n)).1;have g0:(W ws[v] 0).2.2=none:=by
  show(ws[v].find? λc=>decide (c.1<0)&&decide (0<cend c)).map _=none
  rw[cy.mpr λc hc=>by have:=vo.b c hc;simp;lia]
  rfl
 rw[g0]at t;exact#[_,by rw[e];exact t]
def G0(V:Voi ns ws)(b:Nat)(p)(hp:(jk ms b<=96/\p=4)\/(jk ms b<=512/\p=8)):((vL ws ms b).map hcR).sum<=p*24:=by
 unfold vL;rw[h9];exact f8 (UN (qB ms b) (qB ms (b+1)) (jk ms b) p (JM _ p hp) (by rw[wO];lia) "" ws V.ps) (Nat.mul_le_mul_left p V.tot)
def endsOf(z:List Nt):List Int:=z.map λp=>p.1+p.2.1
def qfX(ns):∀ x,x∈endsOf (qK ns)↔x∈endsOf ns:=λx=>((wp ns).map _).mem_iff
structure EndOf(ns:List Nt)(en:Int):Prop where
 up:∀ x∈endsOf ns,x<=en
 is:en∈endsOf ns\/(endsOf ns=[]/\en=0)
def qfY(N:NotesOk ns){B:Int}(E:EndOf ns B):0<=B/\B<=1401:=by
 rcases E.is with h|⟨_,h⟩
 .obtain⟨p,hp,z⟩:=gH.mp h;have:=N.b p hp;lia
 lia
def qfZ(ns)(N:NotesOk ns)(nl:ns[1]<=24)(V:Voi ns ws){ms:List (Int×Int×Int)}(f:Fine ms)(l:Lens ms){O:Int}(E:EndOf ns O){n:Nat}(Y:Need ms O n)(Z:xt [.br (.lst (ms.map qp)),.fz O[6]]=.ok n[7]) :
  VE [.br (.lst ((qK ns).map ntD)),.br (.lst (ms.map qp))]=.ok (.lst ((barsB ws ms n).map brD))[9]:=by
 have hz:sz=16777216:=rfl;have sl:(qK ns)[1]=ns[1]:=(wp ns).length_eq;have nf:=Y.few;have R:=VO N;have rb:=VP N R;have cm:qE 1 (iVc 0) (gV 7) qI (qg zF [(q9 7)]) [!(.br (.lst ((qK ns).map ntD))),!(.br (.lst (ms.map qp))),none,none,none,none,none]=.ok (.lst ((endsOf (qK ns)).map D.int))[9]:=by
  rw[ko (qK ns) ntD (λp=>.int (p.1+p.2.1)) (y6 (w:=.br (.lst ((qK ns).map ntD))) rfl rfl) "" λp hp=>#[.fz (p.1+p.2.1)[6],by simp![qR,ro,UV],rfl]]
  unfold endsOf;rw[h9];rfl
 obtain⟨z,me,u1,u2⟩:=Wz (endsOf (qK ns));have ee:z=O:=MV (qfX ns) u1 u2 E.up E.is;subst ee;have bl:=qec f n ""
 have U:=MX V (λc hc=>(rb c hc).2.2.1) (qK ns) (qfT ns) (by rw[Q2];exact(y7 _).nodup_iff.mpr N.nodup) "" f l n nf 0 3 7 [!(.br (.lst ((qK ns).map ntD))),!(.br (.lst (ms.map qp))),!z[7],!(.lst (qW ms n))[9],none,none,none] rfl "d" rfl rfl
 have s2:(qj 2 (eOp y8 (qE 1 (iVc 0) (gV 7) qI (qg zF [(q9 7)])) 0[5])) [!(.br (.lst ((qK ns).map ntD))),!(.br (.lst (ms.map qp))),none,none,none,none,none]=.nx [!(.br (.lst ((qK ns).map ntD))),!(.br (.lst (ms.map qp))),!z[7],none,none,none,none]:=by
  simp![uf,ZL,cm,me]
 have s3:(qj 3 (qg uP [(q9 1),(qg xt [(q9 1),(q9 2)])])) [!(.br (.lst ((qK ns).map ntD))),!(.br (.lst (ms.map qp))),!z[7],none,none,none,none]=.nx [!(.br (.lst ((qK ns).map ntD))),!(.br (.lst (ms.map qp))),!z[7],!(.lst (qW ms n))[9],none,none,none]:=by
  simp![Z,bl];rfl
 have s4:(qj 4 (qE 1 (jc (qg wL [(qg wa [(q9 0)])])) (gV 7) qI (qg yj [(q9 7),(q9 3)]))) [!(.br (.lst ((qK ns).map ntD))),!(.br (.lst (ms.map qp))),!z[7],!(.lst (qW ms n))[9],none,none,none]=.nx [!(.br (.lst ((qK ns).map ntD))),!(.br (.lst (ms.map qp))),!z[7],!(.lst (qW ms n))[9],!(.lst ((vj ws ms n).map zj))[9],none,none]:=by
  rw[uf,U];rfl
 show fin ((qe (qj 2 _) _) [!(.br (.lst ((qK ns).map ntD))),!(.br (.lst (ms.map qp))),none,none,none,none,none])=_;rw[ji,s2,jy,ji,s3,jy,ji,s4,jy,ji];obtain⟨ρ,e,j6,B⟩:=ZF n (λi ρ=>∃ j6,ρ=[!(.br (.lst ((qK ns).map ntD))),!(.br (.lst (ms.map qp))),!z[7],!(.lst (qW ms n))[9],!(.lst ((vj ws ms n).map zj))[9],!(.lst ((barsB ws ms i).map brD))[9],j6])
  (g:=gV 6) (b:=qN 5 (qE 1 (iVc 4) (gV 7) qI (eOp qc (q9 7) (q9 6)))) (ρ:=[!(.br (.lst ((qK ns).map ntD))),!(.br (.lst (ms.map qp))),!z[7],!(.lst (qW ms n))[9],!(.lst ((vj ws ms n).map zj))[9],!(.lst [])[9],none]) #[none,rfl] (λi ρ hi #[j6,B]=>by
   subst B;have ce:=MY ws V.l8 ms n i hi 4 6 7 [!(.br (.lst ((qK ns).map ntD))),!(.br (.lst (ms.map qp))),!z[7],!(.lst (qW ms n))[9],!(.lst ((vj ws ms n).map zj))[9],!(.lst ((barsB ws ms i).map brD))[9],!i[7]] rfl "d" (y6 (w:=.ow (.lst ((vj ws ms n).map zj))) rfl rfl) rfl
   refine#[_,_,rfl,.inl ?_,!i[7],rfl];show(qN 5 _) [!(.br (.lst ((qK ns).map ntD))),!(.br (.lst (ms.map qp))),!z[7],!(.lst (qW ms n))[9],!(.lst ((vj ws ms n).map zj))[9],!(.lst ((barsB ws ms i).map brD))[9],!i[7]]=_;rw[zh (xs:=(barsB ws ms i).map brD) (d:=brD (vL ws ms i)) rfl (by unfold barsB;rw[gg,gg,fZ];lia) (by rw[ce];rfl)]
   simp[barsB,cK])
 have ln:(qW ms n)[1]=n:=by unfold qW;rw[gg,fZ]
 left;rw[QN (n:=n) (by simp![ln]) "",zD,e]
 subst B;left
def qiI:k8=den 12 (Mv io0):=rfl
def G5(fn)(k)(w)(B r)(O:w=.fz B\/w=.br B)(t:k8 [w,.fz k[6],.fz fn]=.ok r[9]):fin ((qt (qg k8 [(q9 0),(q9 1),(eC fn)])) [!w,!k[7]])=.ok r[9]:=by
 have c:(qg k8 [(q9 0),(q9 1),(eC fn)]) [!w,!k[7]]=.ok r[9]:=by
  rcases O with z|z<;>(subst z;simp![t])
 rw[ZJ,c];rfl
def qg0(k)(Rs)(h:∀ R∈Rs,jX (FH k) R)(B:Rs.length<=200)(w)(z:w=.fz (.lst (Rs.map (grD (FH k))))\/w=.br (.lst (Rs.map (grD (FH k))))) :
  ym [w,.fz k[6]]=.ok (.lst ((barsT (FH k) Rs []).map brT))[9]:=by
 exact G5 _ k w _ _ z (Mw (JZ k) Rs h B w z)
def qg1(k)(Rs)(h:∀ R∈Rs,jX (FP k) R)(B:Rs.length<=200)(w)(z:w=.fz (.lst (Rs.map (grD (FP k))))\/w=.br (.lst (Rs.map (grD (FP k))))) :
  JC [w,.fz k[6]]=.ok (.lst ((barsT (FP k) Rs []).map brT))[9]:=by
 exact G5 _ k w _ _ z (Mw (qfd k) Rs h B w z)
def hcG:GE (List Int)->Nat
 | .rest _=>0
 | .note _ ps _=>ps[1]
def Q_hc{R:List (List Ev)}(z:∀ r∈gR R,∀ e∈r,GeOk (FH k) e)(ah):(Qof k (gR R) ah).map ghR=R.map hcR/\qQ (Qof k (gR R) ah)=R.map (·.map pv):=by
 have a:=MG gh hcG (λT kds e=>by
  cases e with
  | rest v=>rfl
  | note v ps t=>exact(Z0 (isT T) k ps kds).1) z ah
 constructor
 .have c:(Qof k (gR R) ah).map ghR=((Qof k (gR R) ah).map (·.map gh)).map List.sum:=by rw[h9];rfl
  rw[c,a];unfold gR;rw[h9,h9];apply tq;intro r _;show((r.map gOf).map hcG).sum=(r.map hcE).sum;rw[h9];congr 1;apply tq;intro e _;cases e<;>rfl
 rw[(MH z ah)];unfold qQ gR;rw[h9];apply tq;intro r _;show(r.map gOf).map gv=r.map pv;rw[h9];apply tq;intro e _;cases e<;>rfl
theorem G6(k):∀ Rs ah,(∀ R∈Rs,∀ r∈gR R,∀ e∈r,GeOk (FH k) e)->(QsOf k Rs ah)[1]=Rs.length/\∀ Q∈QsOf k Rs ah,∃ R∈Rs,Q.map ghR=R.map hcR/\qQ Q=R.map (·.map pv)
 | [],_,_=>#[rfl,λ_ h=>by cases h]
 | R::Rs,ah,h=>by
  obtain⟨a,b⟩:=G6 k Rs (qG (FH k) (gR R) ah).ah λx hx=>h x (gj _ hx)
  refine#[by rw[QsOf,gJ,gJ,a],λQ hQ=>?_]
  rcases gy.mp hQ with z|z
  .subst z;exact#[R,by simp,Q_hc (h R "s") ah]
  simp_all
def wf(k:Int)(Q:List (List (GE (List H3)))):D:=match vJ [.fz (grD (FP k) Q)]with
 | .ok d[8]=>d
 | _=>.non
def qg2(k)(h0:-7<=k)(h1:k<=7):Jw [.fz k[6]]=.ok k[7]:=by
 unfold Jw Xx;have w:=Q0 k[6] (-7) 7 rfl;rw[show zx (-7) 7 k[6]=true by simp[zx,h0,h1]]at w
 simp![Vq,Vr,w]
def qg3(r)(h0:1<=r)(h1:r<=5000):Jx [.fz r[6]]=.ok r[7]:=by
 unfold Jx Xz;have w:=Q0 r[6] 1 5000 rfl;rw[show zx 1 5000 r[6]=true by simp[zx,h0,h1]]at w
 simp![Vt,Vu,w]
structure Pg(ns:List Nt)(k:Int)(ms:List (Int×Int×Int))(r en:Int)(n:Nat)(ws:Vs)(Qs:List (List (List (GE (List H3)))))(cs:List Nat)(xs:List Int)(fs:List Nat):Prop where
 V:Voi ns ws
 E:EndOf ns en
 N:Need ms en n
 ok:∀ Q∈Qs,jX (FP k) Q
 len:Qs.length=n
 hd:(barsT (FP k) Qs []).map brT=(barsB ws ms n).map brD
 sg:ym [.fz (.lst ((barsB ws ms n).map brD)),.fz k[6]]=.ok (.lst (Qs.map (grD (FP k))))[9]/\ym [.br (.lst ((barsB ws ms n).map brD)),.fz k[6]]=.ok (.lst (Qs.map (grD (FP k))))[9]
 wd:Qs.map (wf k)=xs.map D.int/\∀ Q∈Qs,vJ [.fz (grD (FP k) Q)]=.ok (wf k Q)[8]
 cl:yZ [.fz (.lst (Qs.map (grD (FP k))))]=.ok (.lst (cs.map jr))[9]
 fi:yY [.fz (.lst (xs.map D.int)),.fz r[6]]=.ok (.lst (fs.map jr))[9]
 pg:JD [.fz (.lst (ns.map ntD)),.fz k[6],.fz (.lst (ms.map qp)),.fz r[6]]=.ok (.tup [.int k,.lst (ms.map qp),.int r,.lst (cs.map jr),.lst (fs.map jr),.lst (Qs.map (grD (FP k)))])[8]
def qg4(ns)(N:NotesOk ns)(U:ns[1]<=24)(k)(k0:-7<=k)(k7:k<=7)(ms)(g:GM ms)(f:Fine ms)(l:Lens ms)(r)(Z:r<=5000)(B:((∀ b:Nat,jk ms b<=96)/\400<=r)\/2000<=r) :
  ∃ en n ws Qs cs xs fs,Pg ns k ms r en n ws Qs cs xs fs:=by
 have hz:sz=16777216:=rfl;obtain⟨ws,V⟩:=qfR ns N U;obtain⟨en,_,u1,u2⟩:=Wz (endsOf ns);have E:EndOf ns en:=#[u1,u2];obtain⟨e0,e1⟩:=qfY N E;obtain⟨n,hn,nd⟩:=qfP f l en e0 e1;have nf:=hn.few;have bo:=qfZ ns N U V f l E hn nd;have l8:=V.l8;have bk:=qfV V f l;have Rk:∀ R∈barsB ws ms n,R.length=ws[1]/\∀ r∈R,PRow r:=λR hR=>by
  obtain⟨b,_,z⟩:=gH.mp hR;subst z;exact#[(bk b).1,λr B=>((bk b).2 r B).1]
 have bl:(barsB ws ms n)[1]=n:=by unfold barsB;rw[gg,fZ]
 have Gk:∀ R∈barsB ws ms n,jX (FH k) (gR R):=λR hR=>MJ k R #[by rw[(Rk R hR).1];exact l8,(Rk R hR).2]
 obtain⟨l1,l2,l3⟩:=qfr k ws[1] l8 (barsB ws ms n) [] [] (λ_=>none) Rk (λ_ z=>by cases z) (by rw[bl];simp;lia) (λ_ _=>rfl) (λ_ _=>rfl) (λv hv=>qfW V f l n v hv)
 obtain⟨ql,qs⟩:=G6 k (barsB ws ms n) [] λR hR r B=>((Gk R hR).2 r B).1
 generalize hQ:QsOf k (barsB ws ms n) []=Qs at *;have gF:(barsB ws ms n).map brD=((barsB ws ms n).map gR).map (grD (FH k)):=by
  rw[h9];apply tq;exact λR _=>(gR_D k R).symm
 have sg:∀ w,(w=.fz (.lst ((barsB ws ms n).map brD))\/w=.br (.lst ((barsB ws ms n).map brD)))->ym [w,.fz k[6]]=.ok (.lst (Qs.map (grD (FP k))))[9]:=λw hw=>by
  rw[l2];exact qg0 k ((barsB ws ms n).map gR) (λR hR=>by
   obtain⟨Q,hQ,e⟩:=gH.mp hR;subst e;exact Gk Q hQ) (by rw[gg];lia) w (by rw[<- gF];exact hw)
 have wx:∀ Q∈Qs,∃ w,vJ [.fz (grD (FP k) Q)]=.ok w[7]/\1<=w/\w<=r:=λQ hQ=>by
  obtain⟨R,hR,q1,q2⟩:=qs Q hQ;obtain⟨b,_,z⟩:=gH.mp hR;subst z;have d:=uX f l b;obtain⟨w,we,w1,w2⟩:=qfx k Q (l3 Q hQ) (jk ms b).toNat (λx hx=>by
   rw[q2]at hx;obtain⟨y,hy,z⟩:=gH.mp hx;subst z;have:=((bk b).2 y hy).2;lia)
  refine#[w,we,w1,?_];rw[q1]at w2;rcases B with⟨O,B⟩|B
  .have:=G0 V (ms:=ms) b 4 (.inl #[O b,rfl]);have:=O b;lia
  have:=G0 V (ms:=ms) b 8 (.inr #[d.2,rfl]);lia
 have wq:∀ Q∈Qs,vJ [.fz (grD (FP k) Q)]=.ok (wf k Q)[8]/\∃ w,wf k Q=.int w/\1<=w/\w<=r:=λQ hQ=>by
  obtain⟨w,we,wb⟩:=wx Q hQ;have e:wf k Q=.int w:=by unfold wf;rw[we]
  rw[e];exact#[we,w,rfl,wb]
 obtain⟨xs,xe,xb,xl⟩:=Wt (p:=λw=>1<=w/\w<=r) (Qs.map (wf k)) λy hy=>by
  obtain⟨Q,hQ,z⟩:=gH.mp hy;subst z;exact(wq Q hQ).2
 rw[gg]at xl;obtain⟨cs,ce,_,_⟩:=qfJ k Qs "" l3
 obtain⟨fs,ff⟩:=qfO xs r Z "" xb
 refine#[en,n,ws,Qs,cs,xs,fs,V,E,hn,l3,"",l1,#[sg _ (.inl rfl),sg _ (.inr rfl)],#[xe,λQ hQ=>(wq Q hQ).1],ce,ff,?_]
 have ck:=qg2 k k0 k7;have cm:=qew (ds:=ms.map qp) (by rw[gg];exact g.l1) (by rw[gg];exact g.l2) (λj hj=>qex g (λ_ _=>rfl) hj[""])
 have cn:=qeq (qel N U);have cr:=qg3 r (by rcases B with h|h<;>lia) Z
 have s6:=sg _ (.inl rfl);have c7:∀ ρ,ρ.length=8->ρ[6]?=!(!(.lst (Qs.map (grD (FP k))))[9])->qE 1 (iVc 6) (gV 8) qI (qg vJ [(q9 8)]) ρ=.ok (.lst (xs.map D.int))[9]:=λρ Y h6=>by
  rw[<- xe];refine ko Qs (grD (FP k)) (wf k) (y6 (w:=.ow (.lst (Qs.map (grD (FP k))))) h6 rfl) "" λQ hQ=>#[.fz (wf k Q),?_,rfl]
  have v1:(q9 8) ((qR 1 ρ).set 8 (!(grD (FP k) Q)[8]))=.ok (grD (FP k) Q)[8]:=by rw[yK,WA Y];rfl
  simp[uk,uh,ug,v1,kP,uj,ui,ZK,(wq Q hQ).1]
 unfold JD XM;simp![ck,cm,cn,cr,bo,s6];rw[c7 _ rfl rfl];simp![ce,ff];rfl
def qg5(e):qw 5 (evD e)=true:=by
 cases e with
 | rest v=>show qw 5 (.tup [.str "rest",.int v])=true;kernel_rfl
 | note v ps t =>
  have a:qw 4 (.str "note")=true:=by kernel_rfl
  have b:qw 4 (.tup (ps.map D.int))=true:=by
   refine tW.mpr λd hd=>?_
   obtain⟨x,_,z⟩:=gH.mp hd;subst z;rfl
  show([D.str "note",.int v,.tup (ps.map D.int),.bl t].all (qw 4))=true;simp only[fU,a,b];rfl
def qg6(U:List (List (List Ev))):eqok (.lst (U.map brD))=true:=ZP λx hx=>by
 obtain⟨b,hb,z⟩:=gH.mp hx;subst z;refine tW.mpr λd hd=>?_
 obtain⟨r,hr,B⟩:=gH.mp hd;subst B;refine tW.mpr λd hd=>?_
 obtain⟨e,he,O⟩:=gH.mp hd;subst O;exact qg5 e
def qg7(k)(e)(h:GeOk (FP k) e):qw 5 (geD (FP k) e)=true:=by
 cases e with
 | rest v=>show qw 5 (.tup [.str "rest",.int v])=true;kernel_rfl
 | note v hs t =>
  have a:qw 4 (.str "note")=true:=by kernel_rfl
  have b:qw 4 (.tup (hs.map h3D))=true:=by
   refine tW.mpr λd hd=>?_
   obtain⟨x,hx,z⟩:=gH.mp hd;subst z;have c1:qw 2 (.str (fcg x.m))=true:=(JQ x.m (h.2.2 x hx)).2.2.2.2;have c2:qw 2 (sD x.s)=true:=by cases x.s<;>rfl
   show([D.str (fcg x.m),.int x.o,sD x.s].all (qw 2))=true;simp only[fU,c1,c2];rfl
  show([D.str "note",.int v,.tup (hs.map h3D),.bl t].all (qw 4))=true;simp only[fU,a,b];rfl
def qg8(k)(U:List (List (List (GE (List H3)))))(h:∀ Q∈U,jX (FP k) Q):eqok (.lst (U.map (grD (FP k))))=true:=ZP λx hx=>by
 obtain⟨b,hb,z⟩:=gH.mp hx;subst z;refine tW.mpr λd hd=>?_
 obtain⟨r,hr,B⟩:=gH.mp hd;subst B;refine tW.mpr λd hd=>?_
 obtain⟨e,he,O⟩:=gH.mp hd;subst O;exact qg7 k e (((h b hb).2 r hr).1 e he)
def G7(cs:List Nat):eqok (.lst (cs.map jr))=true:=ZP λx hx=>by
 obtain⟨b,hb,z⟩:=gH.mp hx;subst z;rfl
def qg9(ns)(b:Nat):jk (vK ns false) b<=96:=by
 obtain⟨p,hp,e⟩:=XS (VI ns false) b;obtain⟨k,hk,z⟩:=gH.mp hp;subst z;obtain⟨u1,u2,u3,u4,u5,u6,u7⟩:=xy false _ (xx (jx ns k) false);have hi:=tK (JE (jx ns k) false).2 (cM u1);have m:wM false=96:=rfl;rw[e];show vd (jx ns k) false*jz (jx ns k) false<=96;lia
def qga(z:List Int)(wd):∃ r,Jv [.fz (.lst (z.map D.int)),.fz (.bl wd)]=.ok r[7]/\r<=5000/\((wd=false/\400<=r)\/2000<=r):=by
 have c4:zP [.fz (.lst (z.map D.int)),.fz 4[6]]=.ok (cell z 4)[7]:=xw z 4;unfold Jv Xs;cases wd
 .have b:=zQ (cell z 4) 9887 400 "d"
  exact#[400+jj (cell z 4) 9887 400,by simp![c4,(vc (cell z 4) 9887 400 "d" "d")],"",.inl #[rfl,""]]
 have b:=zQ (cell z 4) 9887 3001 "d"
 exact#[2000+jj (cell z 4) 9887 3001,by simp![c4,(vc (cell z 4) 9887 3001 "d" "d")],"",.inr ""]
def qgb(z:List Int):∃ k,Ju [.fz (.lst (z.map D.int))]=.ok k[7]/\-7<=k/\k<=7:=by
 have c5:zP [.fz (.lst (z.map D.int)),.fz 5[6]]=.ok (cell z 5)[7]:=xw z 5;have b:=zQ (cell z 5) 9883 15 "d"
 unfold Ju Xr;exact#[jj (cell z 5) 9883 15-7,by simp![c5,(vc (cell z 5) 9883 15 "d" "d")],"",""]
def qgc(B:List Int)(hl:B[1]<=63):xv [.fz (.lst (B.map D.int))]=.ok (.bl true)[8]:=by
 have hz:sz=16777216:=rfl;obtain⟨k,ke,k0,k7⟩:=qgb B;have hw:=qdG B;generalize (cell B 0%4==3)=wd at hw;obtain⟨r,re,r5,hr⟩:=qga B wd;have ne:=qdF B hl wd;have N:=qdJ B wd;have nl:=qdK B wd;have me:=qdq B wd;have f:=VI B wd;have l:=qdt B wd;have g:=qez B wd;have O:((∀ b:Nat,jk (vK B wd) b<=96)/\400<=r)\/2000<=r:=by
  rcases hr with⟨z,hr⟩|hr
  .subst z;exact .inl #[qg9 B,hr]
  exact .inr hr
 generalize xB B wd=nt at ne N nl;generalize vK B wd=ms at me f l g O;obtain⟨en,n,ws,Qs,cs,xs,fs,P⟩:=qg4 nt N nl k k0 k7 ms g f l r r5 O;have R:=VO N;have rb:=VP N R;have nf:=P.N.few;have pl:=P.len;have pg:=P.pg;have he:=qg1 k Qs P.ok "" (.lst (Qs.map (grD (FP k))))[8] (.inl rfl)
 rw[P.hd]at he;have la:=qfQ f P.N;have Y:=qbm (qg6 (barsB ws ms n));have n1:=ZO (G7 cs);have n2:=ZO (G7 fs);have n3:=ZO (qg8 k Qs P.ok);have i3:qc (.tup [.int k,.lst (ms.map qp),.int r,.lst (cs.map jr),.lst (fs.map jr),.lst (Qs.map (grD (FP k)))]) 3[6]=.ok (.lst (cs.map jr))[8]:=rfl;have i4:qc (.tup [.int k,.lst (ms.map qp),.int r,.lst (cs.map jr),.lst (fs.map jr),.lst (Qs.map (grD (FP k)))]) 4[6]=.ok (.lst (fs.map jr))[8]:=rfl;have i5:qc (.tup [.int k,.lst (ms.map qp),.int r,.lst (cs.map jr),.lst (fs.map jr),.lst (Qs.map (grD (FP k)))]) 5[6]=.ok (.lst (Qs.map (grD (FP k))))[8]:=rfl;generalize D.tup [.int k,.lst (ms.map qp),.int r,.lst (cs.map jr),.lst (fs.map jr),.lst (Qs.map (grD (FP k)))]=PG at pg i3 i4 i5;generalize B.map D.int=sc at *;have wc:(qE 1 (jc (eOp qc (q9 6) 5[5])) (gV 10) qI (qg vJ [(q9 10)])) [!(.lst sc)[8],!(.bl wd)[8],!(.lst (nt.map ntD))[9],!k[7],!(.lst (ms.map qp))[9],!r[7],!PG[8],none,none,none]=.ok (.lst (xs.map D.int))[9]:=by
  rw[<- P.wd.1];refine ko Qs (grD (FP k)) (wf k) (vQ (w:=.fz (.lst (Qs.map (grD (FP k))))) (by simp![i5]) rfl) "" λQ hQ=>#[.fz (wf k Q),?_,rfl]
  have v1:(q9 10) ((qR 1 [!(.lst sc)[8],!(.bl wd)[8],!(.lst (nt.map ntD))[9],!k[7],!(.lst (ms.map qp))[9],!r[7],!PG[8],none,none,none]).set 10 (!(grD (FP k) Q)[8]))=.ok (grD (FP k) Q)[8]:=rfl;simp only[uk,uh,ug,v1,kP,uj,ui,ZK,P.wd.2 Q hQ]
 have c6:(L3.tOr (tE (eOp dNe (eOp qc (q9 6) 3[5]) (qg yZ [(eOp qc (q9 6) 5[5])]))) (tE (eOp dNe (eOp qc (q9 6) 4[5]) (qg yY [(qE 1 (jc (eOp qc (q9 6) 5[5])) (gV 10) qI (qg vJ [(q9 10)])),(q9 5)])))) [!(.lst sc)[8],!(.bl wd)[8],!(.lst (nt.map ntD))[9],!k[7],!(.lst (ms.map qp))[9],!r[7],!PG[8],none,none,none]=.ok false:=by
  simp![i3,i5,P.cl,n1,i4,wc,P.fi,n2]
 obtain⟨en',me2,u1,u2⟩:=Wz (endsOf nt);have ee:en'=en:=MV (λ_=>Iff.rfl) u1 u2 P.E.up P.E.is
 subst ee;have cm:qE 1 (iVc 2) (gV 10) qI (eOp qz (eOp qc (q9 10) 0[5]) (eOp qc (q9 10) 1[5])) [!(.lst sc)[8],!(.bl wd)[8],!(.lst (nt.map ntD))[9],!k[7],!(.lst (ms.map qp))[9],!r[7],!PG[8],!(.lst ((barsB ws ms n).map brD))[9],none,none]=.ok (.lst ((endsOf nt).map D.int))[9]:=by
  have ed:(endsOf nt).map D.int=nt.map λp=>D.int (p.1+p.2.1):=by unfold endsOf;rw[h9];rfl
  rw[ed];exact ko nt ntD (λp=>.int (p.1+p.2.1)) (y6 (w:=.ow (.lst (nt.map ntD))) rfl rfl) "" λp hp=>#[.fz (p.1+p.2.1)[6],by simp![qR,ro,ntD],rfl]
 have Z:=MX P.V (λc hc=>(rb c hc).2.2.1) nt rfl N.nodup "" f l n nf 2 8 10 [!(.lst sc)[8],!(.bl wd)[8],!(.lst (nt.map ntD))[9],!k[7],!(.lst (ms.map qp))[9],!r[7],!PG[8],!(.lst ((barsB ws ms n).map brD))[9],!(.lst (qW ms n))[9],none] rfl "d" rfl rfl
 have ln:(qW ms n)[1]=n:=by unfold qW;rw[gg,fZ]
 have U:(qE 1 (iR1 (eB jd [(q9 8)])) (gV 10) qI (qE 1 (iVc 9) (gV 11) qI (eOp qc (q9 11) (q9 10)))) [!(.lst sc)[8],!(.bl wd)[8],!(.lst (nt.map ntD))[9],!k[7],!(.lst (ms.map qp))[9],!r[7],!PG[8],!(.lst ((barsB ws ms n).map brD))[9],!(.lst (qW ms n))[9],!(.lst ((vj ws ms n).map zj))[9]]=.ok (.lst ((barsB ws ms n).map brD))[9]:=by
  have it:iR1 (eB jd [(q9 8)]) [!(.lst sc)[8],!(.bl wd)[8],!(.lst (nt.map ntD))[9],!k[7],!(.lst (ms.map qp))[9],!r[7],!PG[8],!(.lst ((barsB ws ms n).map brD))[9],!(.lst (qW ms n))[9],!(.lst ((vj ws ms n).map zj))[9]]=.ok ((List.range n).map jr):=by
   rw[QN (n:=n) (by simp![ln]) "",qbg]
   rfl
  rw[ko (List.range n) jr (λb=>brD (vL ws ms b)) it (by rw[fZ];lia) λb hb=>#[.ow (brD (vL ws ms b)),?_,rfl]]
  .unfold barsB;rw[h9];rfl
  exact MY ws P.V.l8 ms n b (dm.mp hb) 9 10 11 _ rfl "d" (y6 (w:=.br (.lst ((vj ws ms n).map zj))) rfl rfl) rfl
 have s8:(qj 8 (qg uL [(q9 4),(eOp y8 (qE 1 (iVc 2) (gV 10) qI (eOp qz (eOp qc (q9 10) 0[5]) (eOp qc (q9 10) 1[5]))) 0[5])])) [!(.lst sc)[8],!(.bl wd)[8],!(.lst (nt.map ntD))[9],!k[7],!(.lst (ms.map qp))[9],!r[7],!PG[8],!(.lst ((barsB ws ms n).map brD))[9],none,none]=.nx [!(.lst sc)[8],!(.bl wd)[8],!(.lst (nt.map ntD))[9],!k[7],!(.lst (ms.map qp))[9],!r[7],!PG[8],!(.lst ((barsB ws ms n).map brD))[9],!(.lst (qW ms n))[9],none]:=by
  simp![cm,me2,la]
 have s9:(qj 9 (qE 1 (jc (qg wL [(qg wa [(q9 2)])])) (gV 10) qI (qg yj [(q9 10),(q9 8)]))) [!(.lst sc)[8],!(.bl wd)[8],!(.lst (nt.map ntD))[9],!k[7],!(.lst (ms.map qp))[9],!r[7],!PG[8],!(.lst ((barsB ws ms n).map brD))[9],!(.lst (qW ms n))[9],none]=.nx [!(.lst sc)[8],!(.bl wd)[8],!(.lst (nt.map ntD))[9],!k[7],!(.lst (ms.map qp))[9],!r[7],!PG[8],!(.lst ((barsB ws ms n).map brD))[9],!(.lst (qW ms n))[9],!(.lst ((vj ws ms n).map zj))[9]]:=by
  rw[uf,Z];rfl
 have t9:fin (VF [!(.lst sc)[8],!(.bl wd)[8],!(.lst (nt.map ntD))[9],!k[7],!(.lst (ms.map qp))[9],!r[7],!PG[8],!(.lst ((barsB ws ms n).map brD))[9],none,none])=.ok (.bl true)[8]:=by
  unfold VF;rw[ji,s8,jy,ji,s9,jy];simp![U,Y]
 have s7:(qj 7 (qg JC [(eOp qc (q9 6) 5[5]),(q9 3)])) [!(.lst sc)[8],!(.bl wd)[8],!(.lst (nt.map ntD))[9],!k[7],!(.lst (ms.map qp))[9],!r[7],!PG[8],none,none,none]=.nx [!(.lst sc)[8],!(.bl wd)[8],!(.lst (nt.map ntD))[9],!k[7],!(.lst (ms.map qp))[9],!r[7],!PG[8],!(.lst ((barsB ws ms n).map brD))[9],none,none]:=by
  simp![i5,he]
 have c7:(tE (eOp dNe (qg ym [(q9 7),(q9 3)]) (eOp qc (q9 6) 5[5]))) [!(.lst sc)[8],!(.bl wd)[8],!(.lst (nt.map ntD))[9],!k[7],!(.lst (ms.map qp))[9],!r[7],!PG[8],!(.lst ((barsB ws ms n).map brD))[9],none,none]=.ok false:=by
  simp![i5,P.sg.2,n3]
 have t6:fin (VG [!(.lst sc)[8],!(.bl wd)[8],!(.lst (nt.map ntD))[9],!k[7],!(.lst (ms.map qp))[9],!r[7],!PG[8],none,none,none])=.ok (.bl true)[8]:=by
  unfold VG;rw[ji,yJ,c6,zD,QH,QJ,jy,ji,s7,jy,ji,yJ,c7,zD,QH,QJ,jy];exact t9
 unfold xv XO;simp![hw,ne,ke,me,re,pg];exact t6
section
variable{P:af}{w:World}{K:Frag}{mg:Str->Option aa}{base:Heap}
variable{W:Wd}(A:Al W FS BL CS)
include A
def qgd:Q W 1 0 yV:=by
 exact fE A 0 ["head"] λhr nd hu=>((qk (qA (qq qY (qq vC qf (V1 (qa 0) qf)) (Ko (gb (A.q 0)) (V1 (qa 0) qf))))))
def qge:Q W 1 1 uG:=by
 refine fE A 1 ["step","clef","lowest","above","below"] λhr nd hu=>?_
 exact(qi (qo 2 nd (qm (gb (A.q 1)) (qa 1)))
 (qi (qo 3 nd (qq jP (qq jP (qa 0) (qa 2)) (gb (A.q 2))))
 (qi (qo 4 nd (qq jP (qa 2) (qa 0)))
 (qk (qA (qq kE (jv (qcc rfl) A.bl d7 (qb (qa 3) (qb (qa 4) (qb qf qh)))) qf))))))
def G8:Q W 1 2 w9:=by
 exact fE A 2 ["prices","ahead"] λhr nd hu=>((qk (qA (zM (apS _ ["clef"]) (SI.c (zK (gb (A.q 3)))) (za 2) (λ_ _ _ _ _=>(qH 2 (ndc nd ["clef"]))) (λ_ _ _ _ _=>.nil) λ_ _ _ _ _=>(Zo (qT (zz hu) (qa 2) (qa 1)) (qm (qa 0) (qa 2)) (qq qY (qm (qa 0) (qa 2)) (gb (A.q 4))))))))
def G9:Q W 1 3 uH:=by
 exact fE A 3 ["thing"] λhr nd hu=>((qk (qA (xX (Qx .int (qa 0) A.bl A.bl) (Qq (qaX (Qx .bool (qa 0) A.bl A.bl)))))))
def Ga:Q W 1 4 yW:=by
 exact fE A 4 ["thing","least","most"] λhr nd hu=>((qk (qA (xX (Qx .list (qa 0) A.bl A.bl) (Qq (ZE vU vU (qa 1) (jv zc A.bl tN (qb (qa 0) qh)) (qa 2)))))))
def xH:Q W 1 5 zF:=by
 exact fE A 5 ["sound"] λhr nd hu=>((qk (qA (qq qY (qm (qa 0) qf) (qm (qa 0) qf)))))
def Gb:Q W 1 6 wa:=by
 refine fE A 6 ["notes","pitches","note"] λhr nd hu=>?_
 exact(qi (Kb 1 nd ZD)
 (qi (jm gQ rfl (zK (jv Vd A.bl dI (qb (qa 0) qh))) (qH 2 nd) (qk (qc0 1 hu (qb (qm (qa 2) qf) (qb (qm (qa 2) qf) qh)) (jD qh) (qm (qa 2) qf))))
 (qk (qc3 1 (qA (zM (apS _ ["span"]) (SI.c (si_T 1)) (za 3) (λ_ _ _ _ _=>(qH 3 (ndc nd ["span"]))) (λ_ _ _ _ _=>.nil) λ_ _ _ _ _=>(zJ (qb (qm (qa 3) qf) (qb (qm (qa 3) qf) (qb (kJ ZX A.bl dX (qb (qc5 hu (qa 1) (qa 3)) qh)) qh))))))))))
def Gc:Q W 1 7 uI:=by
 refine fE A 7 ["length","row","left","value"] λhr nd hu=>?_
 obtain⟨_,_,z,B,O⟩:=A.q 5;exact(qi (qo 1 nd (jD qh))
 (qi (qo 2 nd (qa 0))
 (qi (jm gQ rfl (qbb z B O) (qH 3 nd) (qk (Zq 520 gQ (qT vU (qa 3) (qa 2)) (qi (zB 1 (qa 3))
 (qk (kN 2 nd Yl (qa 3)))))))
 (qk (jZ 1)))))
def Gd:Q W 1 8 uJ:=by
 exact fE A 8 ["low","number","divisor"] λhr nd hu=>((qk (qA (qq qY (qa 0) (qq yB (qq jP (qa 1) (qa 0)) (qa 2))))))
def Ge:Q W 1 9 Jk:=by
 exact fE A 9 ["fifths"] λhr nd hu=>((qk (qA (qq kE (qq qY (qa 0) qf) qf))))
def qgf:Q W 1 10 xk:=by
 exact fE A 10 ["name"] λhr nd hu=>((qk (qA (qq qY (qq qY (qq vC qf (qm (qa 0) qf)) (Yd (gb (A.q 21)) (qm (qa 0) qf))) (qm (qa 0) qf)))))
def Gf:Q W 1 11 wg:=by
 refine fE A 11 ["bar","spots","voice","row","place","number","event"] λhr nd hu=>?_
 exact(qi (qo 1 nd (jD qh))
 (qi (jm gQ rfl (kU 0 A.bl) (yE rfl (zZ 2 nd (zZ 3 nd yD))) (qi (qo 4 nd qf)
 (qk (jm gQ rfl (kU 3 A.bl) (yE rfl (zZ 5 nd (zZ 6 nd yD))) (qi (zB 1 (zJ (qb (qa 4) (qb (qa 2) (qb (qa 5) qh)))))
 (qk (kN 4 nd Qy (qm (qa 6) qf))))))))
 (qk (qA (jv Vd A.bl dI (qb (qa 1) qh))))))
def qgg:Q W 1 12 yf:=by
 refine fE A 12 ["event"] λhr nd hu=>?_
 exact(qi (qV (st_w (wX (qT YY (qa 0) yy) (wX (qT (zz hu) (qm (qa 0) qf) yz) (yC (vq (jQ (qm (qa 0) qf))))))) (qk (qA yy)) qU)
 (qk (qA (qm (qa 0) qf))))
def qgh:Q W 1 13 Jm:=by
 refine fE A 13 ["bar","many","voice","event"] λhr nd hu=>?_
 exact(qi (qo 1 nd qf)
 (qi (zb 0 (jm gQ rfl (v6 0) (qH 2 nd) (qk (zb 2 (jm gQ rfl (v6 2) (qH 3 nd) (qk (qV (qT (zz hu) (qm (qa 3) qf) yz) (qk (kN 1 nd Qy (jv zc A.bl tN (qb (zM (apS _ ["head"]) (SI.c (zK (qm (qa 3) qf))) (za 4) (λ_ _ _ _ _=>(qH 4 (ndc nd ["head"]))) (λ_ _ _ _ _=>(.one (qT ZU (qm (qa 4) qf) yy))) λ_ _ _ _ _=>(qa 4)) qh)))) qU)))))))
 (qk (jZ 1))))
def qgi:Q W 1 14 Jn:=by
 exact fE A 14 ["widths","room","bar","wide"] λhr nd hu=>((qk (jm gQ rfl (kU 0 A.bl) (yE rfl (zZ 2 nd (zZ 3 nd yD))) (qk (qV (qT Zh (qa 3) (qa 1)) (qk wD) qU)))))
def qgj:Q W 1 15 uK:=by
 refine fE A 15 ["widths","room","first","best","choices","left","behind","cost"] λhr nd hu=>?_
 exact(qi (qo 4 nd (jD qh))
 (qi (qo 5 nd (qa 1))
 (qi (jm gQ rfl (qc6 (qq qY (qa 2) qf) (qq qY (jv zc A.bl tN (qb (qa 0) qh)) qf) A.bl) (qH 6 nd) (qi (kN 5 nd Yl (qm (qa 0) (qq jP (qa 6) qf)))
 (qi (qV (qT vn (qa 5) qf) (qk Yh) qU)
 (qi (qo 7 nd (Zo (qT (zz hu) (qa 6) (jv zc A.bl tN (qb (qa 0) qh))) qf (qq qY (qq vC (qa 5) (qa 5)) (qm (qm (qa 3) (qa 6)) qf))))
 (qk (zB 4 (zJ (qb (qa 7) (qb (wB (qa 6)) qh)))))))))
 (qk (jZ 4)))))
def WB:Q W 1 16 wj:=by
 exact fE A 16 ["told"] λhr nd hu=>((qk (qA (qq vC (qm (qa 0) qf) (qm (qa 0) qf)))))
def qgk:Q W 1 17 yg:=by
 refine fE A 17 ["meter","at"] λhr nd hu=>?_
 exact(qi (qV (qT (zz hu) (qa 1) qf) (qk (qA (wA (zz hu) (qm (qm (qa 0) qf) qf) qf))) qU)
 (qk (qA (wA Zh (qm (qm (qa 0) (qa 1)) qf) (qm (qm (qa 0) (qq jP (qa 1) qf)) qf)))))
def yr:Q W 1 18 zP:=by
 refine fE A 18 ["_law_script","_law_k"] λhr nd hu=>?_
 exact(qi (qV (qT vn (qa 1) (jv zc A.bl tN (qb (qa 0) qh))) (qk (qA (qm (qa 0) (qa 1)))) qU)
 (qk (qA qf)))
def vk:Q W 1 19 zd:=by
 exact fE A 19 ["_law_cell_here","_law_prime","_law_many"] λhr nd hu=>((qk (qA (qq yB (qq yB (qq vC (qa 0) qf) (qa 1)) (qa 2)))))
def qgl:Q W 1 20 Jo:=by
 refine fE A 20 ["_law_note_here","_law_notes_here","_law_other"] λhr nd hu=>?_
 exact(qi (zb 1 (jm gQ rfl (v6 1) (qH 2 nd) (qk (qV (st_w (kL (qT (zz hu) (qm (qa 0) qf) (qm (qa 2) qf)) (kL (qT vn (qm (qa 0) qf) (qq qY (qm (qa 2) qf) (qm (qa 2) qf))) (xW (qT vn (qm (qa 2) qf) (qq qY (qm (qa 0) qf) (qm (qa 0) qf))))))) (qk (qA vO)) qU))))
 (qk (qA vO)))
def qgm:Q W 1 21 Jp:=by
 refine fE A 21 ["_law_note_here","_law_notes_here","_law_seen","_law_other"] λhr nd hu=>?_
 exact(qi (qo 2 nd ZD)
 (qi (zb 1 (jm gQ rfl (v6 1) (qH 3 nd) (qk (qV (st_w (kL (qT vn (qm (qa 3) qf) (qq qY (qm (qa 0) qf) (qm (qa 0) qf))) (xW (qT vn (qm (qa 0) qf) (qq qY (qm (qa 3) qf) (qm (qa 3) qf)))))) (qk (qV (qT (kH hu) (zJ (qb (qm (qa 3) qf) (qb (qm (qa 3) qf) qh))) (zJ (qb (qm (qa 0) qf) (qb (qm (qa 0) qf) qh)))) (qk (qbx 2 hu (qb (qm (qa 3) qf) (qb (qm (qa 3) qf) qh)) vO)) qU)) qU))))
 (qk (qA (jv zc A.bl tN (qb (qa 2) qh))))))
def qgn:Q W 1 22 uL:=by
 refine fE A 22 ["_law_meter_here","_law_end","_law_found"] λhr nd hu=>?_
 exact(qi (qo 2 nd (jD qh))
 (qi (Zq 200 gQ (st_w (wX (vq (jQ (qa 2))) (yC (qT vn (jv (Yz rfl) A.bl boot_sum (qb (qa 2) qh)) (qa 1))))) (qk (zB 2 (qm (zM (apS _ ["_law_step_here"]) (wY 0) (za 3) (λ_ _ _ _ _=>(qH 3 (ndc nd ["_law_step_here"]))) (λ_ _ _ _ _=>(.one (qT vU (qm (qa 3) qf) (jv zc A.bl tN (qb (qa 2) qh))))) λ_ _ _ _ _=>(qq vC (qm (qa 3) qf) (qm (qa 3) qf))) (wB qf)))))
 (qk (jZ 2))))
def qgo:Q W 2 23 uN:=by
 refine fE A 23 ["bar","row","voice","event"] λhr nd hu=>?_
 exact(qi (qo 1 nd (jD qh))
 (qi (zb 0 (jm gQ rfl (v6 0) (qH 2 nd) (qk (zb 2 (jm gQ rfl (v6 2) (qH 3 nd) (qk (qV (qT (zz hu) (qm (qa 3) qf) yz) (qk (QU 1 (zM (apS _ ["head"]) (SI.c (zK (qm (qa 3) qf))) (za 4) (λ_ _ _ _ _=>(qH 4 (ndc nd ["head"]))) (λ_ _ _ _ _=>.nil) λ_ _ _ _ _=>(cl (qgd A) (rm hr) (qb (qa 4) qh))))) qU)))))))
 (qk (jZ 1))))
def qgp:Q W 2 24 yX:=by
 exact fE A 24 ["steps","clef"] λhr nd hu=>((qk (qA (jv (Yz rfl) A.bl boot_sum (qb (zM (apS _ ["step"]) (wY 0) (za 2) (λ_ _ _ _ _=>(qH 2 (ndc nd ["step"]))) (λ_ _ _ _ _=>.nil) λ_ _ _ _ _=>(cl (qge A) (rm hr) (qb (qa 2) (qb (qa 1) qh)))) qh)))))
def WC:Q W 2 25 xm:=by
 exact fE A 25 ["thing","low","high"] λhr nd hu=>((qk (qA (xX (cl (G9 A) (rm hr) (qb (qa 0) qh)) (Qq (ZE vU vU (qa 1) (qa 0) (qa 2)))))))
def qgq:Q W 2 26 uO:=by
 exact fE A 26 ["one","other"] λhr nd hu=>((qk (qA (xX (wA (zz hu) (qm (qa 0) qf) (qm (qa 1) qf)) (xX (wA vn (qm (qa 0) qf) (cl (xH A) (rm hr) (qb (qa 1) qh))) (Qq (wA vn (qm (qa 1) qf) (cl (xH A) (rm hr) (qb (qa 0) qh)))))))))
def Gg:Q W 2 27 xn:=by
 exact fE A 27 ["length"] λhr nd hu=>((qk (qA (zM (apS _ ["value"]) (SI.c (zK (cl (Gc A) (rm hr) (qb (qa 0) qh)))) (za 1) (λ_ _ _ _ _=>(qH 1 (ndc nd ["value"]))) (λ_ _ _ _ _=>.nil) λ_ _ _ _ _=>(zJ (qb yz (qb (qa 1) qh)))))))
def qgr:Q W 2 28 xo:=by
 refine fE A 28 ["chord","first","behind","end","row","tick","value"] λhr nd hu=>?_
 exact(qi (qo 3 nd (cl (xH A) (rm hr) (qb (qa 0) qh)))
 (qi (qo 4 nd (jD qh))
 (qi (qo 5 nd (qa 1))
 (qi (jm gQ rfl (zK (cl (Gc A) (rm hr) (qb (qq jP (qa 2) (qa 1)) qh))) (qH 6 nd) (qi (kN 5 nd Qy (qa 6))
 (qk (zB 4 (zJ (qb yz (qb (qa 6) (qb (qm (qa 0) qf) (qb (wA vn (qa 5) (qa 3)) qh)))))))))
 (qk (jZ 4))))))
def qgs:Q W 2 29 VD:=by
 exact fE A 29 ["pitch","key"] λhr nd hu=>((qk (qA (cl (Gd A) (rm hr) (qb (qq jP (qa 1) qf) (qb (qq vC qf (qa 0)) (qb qf qh)))))))
def qgt:Q W 2 30 wm:=by
 exact fE A 30 ["letter","key"] λhr nd hu=>((qk (qA (cl (Ge A) (rm hr) (qb (cl (Gd A) (rm hr) (qb (qq jP (qa 1) qf) (qb (qq jP (Ko (gb (A.q 6)) (qa 0)) qf) (qb qf qh)))) qh)))))
def Gh:Q W 2 31 vJ:=by
 refine fE A 31 ["bar","places"] λhr nd hu=>?_
 exact(qi (qo 1 nd (qcO (zM (apS _ ["spot"]) (SI.c (zK (cl (Gf A) (rm hr) (qb (qa 0) qh)))) (za 2) (λ_ _ _ _ _=>(qH 2 (ndc nd ["spot"]))) (λ_ _ _ _ _=>.nil) λ_ _ _ _ _=>(qm (qa 2) qf)) A.bl A.bl))
 (qk (qA (qq qY (qq qY (gb (A.q 7)) (qq vC (gb (A.q 8)) (qa 1))) (cl (qgh A) (rm hr) (qb (qa 0) qh))))))
def qgu:Q W 2 32 Jq:=by
 refine fE A 32 ["widths","room","best","first"] λhr nd hu=>?_
 exact(qi (qV (vq (jQ (cl (G9 A) (rm hr) (qb (qa 1) qh)))) (qk wD) qU)
 (qi (Zp (cl (qgi A) (rm hr) (qb (qa 0) (qb (qa 1) qh))))
 (qi (qo 2 nd (qq qcn (jD (qb (zJ (qb qf (qb qf qh))) qh)) (jv zc A.bl tN (qb (qa 0) qh))))
 (qi (jm gQ rfl (qcs (qq jP (jv zc A.bl tN (qb (qa 0) qh)) qf) (wB qf) (wB qf) A.bl) (qH 3 nd) (qk (qbt 2 (qa 3) (jv (qcq hu rfl) A.bl cz (qb (cl (qgj A) (rm hr) (qb (qa 0) (qb (qa 1) (qb (qa 3) (qb (qa 2) qh))))) qh)))))
 (qk (jZ 2))))))
def qgv:Q W 2 33 uP:=by
 refine fE A 33 ["meter","many","changes","told","row","length","bar"] λhr nd hu=>?_
 exact(qi (qo 2 nd Yv)
 (qi (zb 0 (jm gQ rfl (v6 0) (qH 3 nd) (qk (Yw 2 hu (qm (qa 3) qf) (cl (WB A) (rm hr) (qb (qa 3) qh))))))
 (qi (qo 4 nd (jD qh))
 (qi (qo 5 nd qf)
 (qi (jm gQ rfl (Qu (qa 1) A.bl) (qH 6 nd) (qi (qo 5 nd (qbe (qa 2) (qa 6) (qa 5)))
 (qk (zB 4 (qa 5)))))
 (qk (jZ 4)))))))
def qgw:Q W 2 34 Jr:=by
 refine fE A 34 ["meter","tick","bar","begin","length","told","told_begin"] λhr nd hu=>?_
 exact(qi (qo 2 nd qf)
 (qi (qo 3 nd qf)
 (qi (qo 4 nd qf)
 (qi (zb 0 (jm gQ rfl (v6 0) (qH 5 nd) (qi (qo 6 nd (qq qY (qa 3) (qq vC (qq jP (qm (qa 5) qf) (qa 2)) (qa 4))))
 (qi (qV (qT vn (qa 1) (qa 6)) (qk Yh) qU)
 (qi (qo 2 nd (qm (qa 5) qf))
 (qi (qo 3 nd (qa 6))
 (qk (qo 4 nd (cl (WB A) (rm hr) (qb (qa 5) qh))))))))))
 (qk (qA (zJ (qb (qq qY (qa 2) (qq kE (qq jP (qa 1) (qa 3)) (qa 4))) (qb (qq yB (qq jP (qa 1) (qa 3)) (qa 4)) qh)))))))))
def qgx:Q W 2 35 uQ:=by
 refine fE A 35 ["voices","tick","number","voice"] λhr nd hu=>?_
 exact(qi (jm gQ rfl (kU 0 A.bl) (yE rfl (zZ 2 nd (zZ 3 nd yD))) (qk (qV (qT vU (cl (xH A) (rm hr) (qb (qm (qa 3) (wB qf)) qh)) (qa 1)) (qk (jZ 2)) qU)))
 (qk (qA (jv zc A.bl tN (qb (qa 0) qh)))))
def qgy:Q W 2 36 Js:=by
 exact fE A 36 ["_law_script"] λhr nd hu=>((qk (qA (wA (zz hu) (cl (vk A) (rm hr) (qb (qq qY (cl (yr A) (rm hr) (qb (qa 0) (qb qf qh))) (qq vC qf (jv zc A.bl tN (qb (qa 0) qh)))) (qb qf (qb qf qh)))) qf))))
def qgz:Q W 2 37 uR:=by
 refine fE A 37 ["_law_cell_here","_law_notes_here","_law_wide_here","_law_start","_law_length","_law_pitch"] λhr nd hu=>?_
 exact(qi (qo 3 nd (cl (vk A) (rm hr) (qb (qa 0) (qb qf (qb qf qh)))))
 (qi (qo 4 nd (qq qY qf (cl (vk A) (rm hr) (qb (qa 0) (qb qf (qb qf qh))))))
 (qi (qo 5 nd (qq qY qf (cl (vk A) (rm hr) (qb (qa 0) (qb qf (qb qf qh))))))
 (qi (qV (jQ (qa 2)) (qi (qo 3 nd (cl (vk A) (rm hr) (qb (qa 0) (qb qf (qb qf qh)))))
 (qi (qo 4 nd (qq qY qf (cl (vk A) (rm hr) (qb (qa 0) (qb qf (qb qf qh))))))
 (qk (qo 5 nd (cl (vk A) (rm hr) (qb (qa 0) (qb qf (qb qf qh)))))))) qU)
 (qi (qV (st_w (kL (jQ (qa 1)) (xW (qT (zz hu) (cl (vk A) (rm hr) (qb (qa 0) (qb qf (qb qf qh)))) qf)))) (qi (qo 3 nd (qm (qm (qa 1) (wB qf)) qf))
 (qk (qo 4 nd (qm (qm (qa 1) (wB qf)) qf)))) qU)
 (qk (qA (zJ (qb (qa 3) (qb (qa 4) (qb (qa 5) qh)))))))))))
def qgA:Q W 2 38 Jt:=by
 exact fE A 38 ["_law_script"] λhr nd hu=>((qk (qA (wA (zz hu) (qq yB (cl (yr A) (rm hr) (qb (qa 0) (qb qf qh))) qf) qf))))
def qgB:Q W 2 39 uS:=by
 refine fE A 39 ["_law_cell_here","_law_bar","_law_wide_here","_law_units","_law_least","_law_most","_law_unit","_law_low","_law_high"] λhr nd hu=>?_
 exact(qi (qo 3 nd (jD (qb qf (qb qf (qb qf (qb qf (qb qf (qb qf (qb qf qh)))))))))
 (qi (qo 4 nd qf)
 (qi (qo 5 nd qf)
 (qi (qV (jQ (qa 2)) (qi (qo 3 nd (jD (qb qf (qb qf (qb qf (qb qf (qb qf qh)))))))
 (qi (qo 4 nd qf)
 (qk (qo 5 nd qf)))) qU)
 (qi (qo 6 nd (qm (qa 3) (cl (vk A) (rm hr) (qb (qa 0) (qb qf (qb (jv zc A.bl tN (qb (qa 3) qh)) qh))))))
 (qi (qo 7 nd (qq kE (qq jP (qq qY (qa 4) (qa 6)) qf) (qa 6)))
 (qi (qo 8 nd (jv (Yy rfl) A.bl cz (qb qf (qb (qq kE (qa 5) (qa 6)) qh))))
 (qk (qA (zJ (qb (qa 1) (qb (qq qY (qa 7) (cl (vk A) (rm hr) (qb (qa 0) (qb qf (qb (qq qY (qq jP (qa 8) (qa 7)) qf) qh))))) (qb (qa 6) qh)))))))))))))
def qgC:Q W 2 40 Ju:=by
 refine fE A 40 ["_law_script"] λhr nd hu=>?_
 exact(qk (qA (qq jP (cl (vk A) (rm hr) (qb (cl (yr A) (rm hr) (qb (qa 0) (qb qf qh))) (qb qf (qb qf qh)))) qf)))
def qgD:Q W 2 41 Jv:=by
 refine fE A 41 ["_law_script","_law_wide_here"] λhr nd hu=>?_
 exact(qi (qV (jQ (qa 1)) (qk (qA (qq qY qf (cl (vk A) (rm hr) (qb (cl (yr A) (rm hr) (qb (qa 0) (qb qf qh))) (qb qf (qb qf qh))))))) qU)
 (qk (qA (qq qY qf (cl (vk A) (rm hr) (qb (cl (yr A) (rm hr) (qb (qa 0) (qb qf qh))) (qb qf (qb qf qh))))))))
def qgE:Q W 3 42 uT:=by
 refine fE A 42 ["bars","told","prices","bar","steps"] λhr nd hu=>?_
 have z:=ndc nd ["clef"];exact(qi (qo 1 nd (jD qh))
 (qi (qo 2 nd (jD (qb qf (qb qf (qb qf qh)))))
 (qi (jm gQ rfl (qch 0 A.bl) (qH 3 nd) (qi (qo 4 nd (cl (qgo A) (rm hr) (qb (qa 3) qh)))
 (qi (qo 2 nd (zM (n:=1) (apS _ ["clef"]) (SI.c (zK (gb (A.q 3)))) (za 5) (λ_ _ _ _ _=>(qH 5 z)) (λ_ _ _ _ _=>.nil) λ_ _ _ _ _=>(qq qY (cl (qgp A) (rm hr) (qb (qa 4) (qb (qa 5) qh))) (jv (Kp rfl) A.bl cz (qb (cl (G8 A) (rm hr) (qb (qa 2) (qb (qa 5) qh))) qh)))))
 (qk (zb 2 (zB 1 (qa 2)))))))
 (qk (qA (qbU (qa 1) A.bl A.bl))))))
def Gi:Q W 3 43 yh:=by
 refine fE A 43 ["thing","bounds","number","bound"] λhr nd hu=>?_
 exact(qi (qV (st_w (wX (vq (jQ (Qx .tuple (qa 0) A.bl A.bl))) (yC (qT (kH hu) (jv zc A.bl tN (qb (qa 0) qh)) (jv zc A.bl tN (qb (qa 1) qh)))))) (qk (qA vO)) qU)
 (qi (jm gQ rfl (qbO 0 1 A.bl) (yE rfl (zZ 2 nd (zZ 3 nd yD))) (qk (qV (vq (jQ (cl (WC A) (rm hr) (qb (qa 2) (qb (qm (qa 3) qf) (qb (qm (qa 3) qf) qh)))))) (qk (qA vO)) qU)))
 (qk (qA vO))))
def qgF:Q W 3 44 xr:=by
 refine fE A 44 ["notes","at","ahead"] λhr nd hu=>?_
 exact(qi (jm gQ rfl (zK (YN (qa 0) qbs (ZT (qa 1)))) (qH 2 nd) (qk (qV (jQ (cl (qgq A) (rm hr) (qb (qa 2) (qb (qm (qa 0) (qa 1)) qh)))) (qk (qA vO)) qU)))
 (qk (qA vO)))
def qgG:Q W 3 45 uU:=by
 refine fE A 45 ["voice","begin","end","row","filled","chord","first","behind"] λhr nd hu=>?_
 exact(qi (qo 3 nd (jD qh))
 (qi (qo 4 nd (qa 1))
 (qi (zb 0 (jm gQ rfl (v6 0) (qH 5 nd) (qi (qo 6 nd (jv (Yx rfl) A.bl d7 (qb (qm (qa 5) qf) (qb (qa 1) qh))))
 (qi (qo 7 nd (jv (Yy rfl) A.bl cz (qb (cl (xH A) (rm hr) (qb (qa 5) qh)) (qb (qa 2) qh))))
 (qk (qV (qT vn (qa 6) (qa 7)) (qi (QU 3 (cl (Gg A) (rm hr) (qb (qq jP (qa 6) (qa 4)) qh)))
 (qi (QU 3 (cl (qgr A) (rm hr) (qb (qa 5) (qb (qa 6) (qb (qa 7) qh)))))
 (qk (qo 4 nd (qa 7))))) qU))))))
 (qi (QU 3 (cl (Gg A) (rm hr) (qb (qq jP (qa 2) (qa 4)) qh)))
 (qk (jZ 3))))))
def qgH:Q W 3 46 Jw:=by
 refine fE A 46 ["key"] λhr nd hu=>?_
 exact(qi (qV (vq (jQ (cl (WC A) (rm hr) (qb (qa 0) (qb (gb (A.q 9)) (qb (gb (A.q 10)) qh)))))) (qk wD) qU)
 (qk (jZ 0)))
def qgI:Q W 3 47 uV:=by
 refine fE A 47 ["pitch","key","fifths","letter","alter","octave"] λhr nd hu=>?_
 exact(qi (qo 2 nd (cl (qgs A) (rm hr) (qb (qa 0) (qb (qa 1) qh))))
 (qi (qo 3 nd (V1 (gb (A.q 6)) (qq yB (qq qY (qa 2) qf) qf)))
 (qi (qo 4 nd (cl (Ge A) (rm hr) (qb (qa 2) qh)))
 (qi (qo 5 nd (qq kE (qq jP (qq jP (qa 0) (Yd (gb (A.q 21)) (qa 3))) (qa 4)) qf))
 (qk (qA (zJ (qb (qa 3) (qb (qa 4) (qb (qa 5) qh))))))))))
def Gj:Q W 3 48 yi:=by
 refine fE A 48 ["letter","octave","alters","key"] λhr nd hu=>?_
 exact(qk (qA (qcV hu (qa 2) (qb (qa 0) (qb (qa 1) qh)) (cl (qgt A) (rm hr) (qb (qa 0) (qb (qa 3) qh))))))
def qgJ:Q W 3 49 Jx:=by
 refine fE A 49 ["room"] λhr nd hu=>?_
 exact(qi (qV (vq (jQ (cl (WC A) (rm hr) (qb (qa 0) (qb (gb (A.q 11)) (qb (gb (A.q 12)) qh)))))) (qk wD) qU)
 (qk (jZ 0)))
def Gm:Q W 3 50 yY:=by
 refine fE A 50 ["widths","room","best","row","first"] λhr nd hu=>?_
 exact(qi (qo 2 nd (cl (qgu A) (rm hr) (qb (qa 0) (qb (qa 1) qh))))
 (qi (qo 3 nd (jD qh))
 (qi (qo 4 nd qf)
 (qi (Zq 180 gQ (qT vn (qa 4) (jv zc A.bl tN (qb (qa 0) qh))) (qi (zB 3 (qa 4))
 (qk (qo 4 nd (wB (qm (qm (qa 2) (qa 4)) qf))))))
 (qk (jZ 3))))))
def qgK:Q W 3 51 xt:=by
 refine fE A 51 ["meter","end","last"] λhr nd hu=>?_
 exact(qi (qo 2 nd (jv (Yx rfl) A.bl d7 (qb (qq jP (qa 1) qf) (qb qf qh))))
 (qk (qA (qq qY (qm (cl (qgw A) (rm hr) (qb (qa 0) (qb (qa 2) qh))) qf) qf))))
def Gn:Q W 3 52 wL:=by
 refine fE A 52 ["row","voices","chord","number"] λhr nd hu=>?_
 exact(qi (Kb 1 nd (jD qh))
 (qi (zb 0 (jm gQ rfl (v6 0) (qH 2 nd) (qi (qo 3 nd (K9 1 (cl (qgx A) (rm hr) (qb (qa 1) (qb (qm (qa 2) qf) qh)))))
 (qi (qV (qT (zz hu) (qa 3) (gb (A.q 13))) (qk wD) qU)
 (qi (qV (qT (zz hu) (qa 3) (K9 1 (jv zc A.bl tN (qb (qa 1) qh)))) (qk (qbW 1 (jD qh))) qU)
 (qk (Kc 1 (qa 3) (qa 2))))))))
 (qk (Ka 1 (jZ 1)))))
def qgL:Q W 3 53 Jy:=by
 refine fE A 53 ["_law_script","_law_wide_here","_law_most","_law_found","_law_cell_here","_law_note_here"] λhr nd hu=>?_
 exact(qi (qo 2 nd qf)
 (qi (qV (jQ (cl (qgy A) (rm hr) (qb (qa 0) qh))) (qk (qo 2 nd qf)) qU)
 (qi (qV (qT Zh (jv zc A.bl tN (qb (qa 0) qh)) qf) (qk (qo 2 nd qf)) qU)
 (qi (qo 3 nd (jD qh))
 (qi (jm gQ rfl (zK (YN (qa 0) (ZT qf) (ZT (qq qY qf (qa 2))))) (qH 4 nd) (qi (qo 5 nd (cl (qgz A) (rm hr) (qb (qa 4) (qb (qa 3) (qb (qa 1) qh)))))
 (qk (qV (st_w (kL (jQ (cl (qgl A) (rm hr) (qb (qa 5) (qb (qa 3) qh)))) (xW (qT vU (cl (qgm A) (rm hr) (qb (qa 5) (qb (qa 3) qh))) qf)))) (qk (zB 3 (qa 5))) qU))))
 (qk (jZ 3)))))))
def qgM:Q W 3 54 Jz:=by
 refine fE A 54 ["_law_script","_law_wide_here","_law_found","_law_bar","_law_k","_law_cell_here"] λhr nd hu=>?_
 exact(qi (qo 2 nd (jD qh))
 (qi (qo 3 nd qf)
 (qi (jm gQ rfl (Qu (qq qY qf (qq yB (cl (yr A) (rm hr) (qb (qa 0) (qb qf qh))) qf)) A.bl) (qH 4 nd) (qi (qo 5 nd (qq qY (cl (yr A) (rm hr) (qb (qa 0) (qb qf qh))) (qq vC qf (cl (yr A) (rm hr) (qb (qa 0) (qb (qq qY qf (qa 4)) qh))))))
 (qi (zB 2 (cl (qgB A) (rm hr) (qb (qa 5) (qb (qa 3) (qb (qa 1) qh)))))
 (qk (qo 3 nd (qq qY (qq qY (qa 3) qf) (cl (vk A) (rm hr) (qb (qa 5) (qb qf (qb qf qh))))))))))
 (qk (jZ 2)))))
def Go:Q W 4 55 yZ:=by
 refine fE A 55 ["bars","row","prices","costs"] λhr nd hu=>?_
 exact(qi (qo 1 nd (jD qh))
 (qi (jm gQ rfl (zK (cl (qgE A) (rm hr) (qb (qa 0) qh))) (qH 2 nd) (qi (qo 3 nd (Zo (jQ (qa 1)) (cl (G8 A) (rm hr) (qb (qa 2) (qb (qm (qa 1) (wB qf)) qh))) (qa 2)))
 (qk (zB 1 (qcm (qa 3) (jv (Kp rfl) A.bl cz (qb (qa 3) qh)))))))
 (qk (jZ 1))))
def qgN:Q W 4 56 uW:=by
 refine fE A 56 ["notes","at","note"] λhr nd hu=>?_
 exact(qi (qV (vq (jQ (cl (Ga A) (rm hr) (qb (qa 0) (qb qf (qb (gb (A.q 14)) qh)))))) (qk wD) qU)
 (qi (jm gQ rfl (kU 0 A.bl) (yE rfl (zZ 1 nd (zZ 2 nd yD))) (qk (qV (st_w (wX (vq (jQ (cl (Gi A) (rm hr) (qb (qa 2) (qb (gb (A.q 15)) qh))))) (yC (jQ (cl (qgF A) (rm hr) (qb (qa 0) (qb (qa 1) qh))))))) (qk wD) qU)))
 (qk (qA (jv Vd A.bl dI (qb (qa 0) qh))))))
def Gp:Q W 4 57 yj:=by
 refine fE A 57 ["voice","lengths","bars","begin","length"] λhr nd hu=>?_
 exact(qi (qo 2 nd (jD qh))
 (qi (qo 3 nd qf)
 (qi (zb 1 (jm gQ rfl (v6 1) (qH 4 nd) (qi (zB 2 (cl (qgG A) (rm hr) (qb (qa 0) (qb (qa 3) (qb (qq qY (qa 3) (qa 4)) qh)))))
 (qk (kN 3 nd Qy (qa 4))))))
 (qk (jZ 2)))))
def Gq:QI W 4 58 JA:=by
 refine fEI A 58 ["pitches","tied","alters","key","heads","pitch","name","letter","octave","sign"] λhr nd hu=>?_
 exact(qi (qo 4 nd (jD qh))
 (qi (zb 0 (jm gQ rfl (v6 0) (qH 5 nd) (qi (qo 6 nd (cl (qgI A) (rm hr) (qb (qa 5) (qb (qa 3) qh))))
 (qi (qo 7 nd (qm (qa 6) qf))
 (qi (qo 8 nd (qm (qa 6) qf))
 (qi (qo 9 nd yy)
 (qi (qV (st_w (kL (qT YY (qa 1) yy) (xW (qT (kH hu) (cl (Gj A) (rm hr) (qb (qa 7) (qb (qa 8) (qb (KL 2) (qb (qa 3) qh))))) (qm (qa 6) qf))))) (qi (qo 9 nd (qm (qa 6) qf))
 (qk (KM 2 hu (qb (qa 7) (qb (qa 8) qh)) (qa 9)))) qU)
 (qk (zB 4 (zJ (qb (qa 7) (qb (qa 8) (qb (qa 9) qh)))))))))))))
 (qk (Vh 2 (kJ ZX A.bl dX (qb (qa 4) qh))))))
def Gs:QI W 4 59 yk:=by
 refine fEI A 59 ["heads","tied","alters","key","pitches","head","letter","octave"] λhr nd hu=>?_
 exact(qi (qV (qT ZU (qa 1) yy) (qk (Vh 2 (qa 1))) qU)
 (qi (qo 4 nd (jD qh))
 (qi (zb 0 (jm gQ rfl (v6 0) (qH 5 nd) (qi (qo 6 nd (qm (qa 5) qf))
 (qi (qo 7 nd (qm (qa 5) qf))
 (qi (qV (qT ZU (qm (qa 5) qf) yy) (qk (KM 2 hu (qb (qa 6) (qb (qa 7) qh)) (qm (qa 5) qf))) qU)
 (qk (zB 4 (cl (qgf A) (rm hr) (qb (zJ (qb (qa 6) (qb (cl (Gj A) (rm hr) (qb (qa 6) (qb (qa 7) (qb (KL 2) (qb (qa 3) qh))))) (qb (qa 7) qh)))) qh)))))))))
 (qk (Vh 2 (kJ ZX A.bl dX (qb (qa 4) qh)))))))
def qgO:Q W 4 60 xu:=by
 refine fE A 60 ["thing"] λhr nd hu=>?_
 exact(qi (qV (st_w (wX (vq (jQ (cl (Gi A) (rm hr) (qb (qa 0) (qb (gb (A.q 16)) qh))))) (yC (qT (qbv hu) (qm (qa 0) qf) (gb (A.q 17)))))) (qk (qA vO)) qU)
 (qk (qA (ZE vU vU (gb (A.q 18)) (cl (WB A) (rm hr) (qb (qa 0) qh)) (gb (A.q 19))))))
def Gu:Q W 5 61 k8:=by
 refine fE A 61 ["bars","key","turn","told","ahead","bar","alters","rows","spot","voice","event","tied"] λhr nd hu=>?_
 obtain⟨_,_,Gw,xI⟩:=id (Gq A);obtain⟨_,_,Gx,xJ⟩:=id (Gs A);have z:=ndc nd ["row"];exact(qi (qo 3 nd (jD qh))
 (qi (qo 4 nd Yv)
 (qi (zb 0 (jm gQ rfl (v6 0) (qH 5 nd) (qi (qo 6 nd ZD)
 (qi (qcf 7 (n:=1) (apS _ ["row"]) (λ_ _=>qcd _ _ _) nd (wY 5) (za 12) (λ_ _ _ _ _=>(qH 12 z)) λ_ _ _ _ _=>(jD qh))
 (qi (jm gQ rfl (zK (cl (Gf A) (rm hr) (qb (qa 5) qh))) (qH 8 nd) (qi (qo 9 nd (qm (qa 8) qf))
 (qi (qo 10 nd (qm (qm (qa 5) (qa 9)) (qm (qa 8) qf)))
 (qi (qV (qT (zz hu) (qm (qa 10) qf) yz) (qi (qo 11 nd (cl (qgg A) (rm hr) (qb (qcW (qa 4) (qa 9)) qh)))
 (qk (qd0 10 nd (qcZ (Vk yz (Vk (qm (qa 10) qf) (qcY (qcU 2 Gw (rm hr) xI.2 xI.3 xI.4 Gx (rm hr) xJ.2 xJ.3 xJ.4 (KN (qm (qa 10) qf) (KN (qa 11) (qcS 6 (qb (qa 1) qh))))) (Vk (qm (qa 10) qf) qcX)))))))) qU)
 (qi (Kc 7 (qa 9) (qa 10))
 (qk (Yw 4 hu (qa 9) (qa 10))))))))
 (qk (Ka 7 (zb 7 (zB 3 (qa 7))))))))))
 (qk (jZ 3)))))
def qgP:Q W 5 62 JB:=by
 refine fE A 62 ["meter","at","told"] λhr nd hu=>?_
 exact(qi (qV (vq (jQ (cl (Ga A) (rm hr) (qb (qa 0) (qb qf (qb (gb (A.q 20)) qh)))))) (qk wD) qU)
 (qi (jm gQ rfl (kU 0 A.bl) (yE rfl (zZ 1 nd (zZ 2 nd yD))) (qk (qV (st_w (wX (vq (jQ (cl (qgO A) (rm hr) (qb (qa 2) qh)))) (yC (vq (jQ (cl (qgk A) (rm hr) (qb (qa 0) (qb (qa 1) qh)))))))) (qk wD) qU)))
 (qk (qA (kJ Zl A.bl cY (qb (qa 0) qh))))))
def qgQ:Q W 5 63 VE:=by
 refine fE A 63 ["notes","meter","end","lengths","voices","bars","number"] λhr nd hu=>?_
 have B:=ndc nd ["note"];have z:=ndc nd ["voice"];exact(qi (qo 2 nd (YW (zM (n:=1) (apS _ ["note"]) (wY 0) (za 7) (λ_ _ _ _ _=>(qH 7 B)) (λ_ _ _ _ _=>.nil) λ_ _ _ _ _=>(cl (xH A) (rm hr) (qb (qa 7) qh))) qf A.bl))
 (qi (qo 3 nd (cl (qgv A) (rm hr) (qb (qa 1) (qb (cl (qgK A) (rm hr) (qb (qa 1) (qb (qa 2) qh))) qh))))
 (qi (Yt 4 (n:=1) (apS _ ["voice"]) nd (SI.c (zK (cl (Gn A) (rm hr) (qb (cl (Gb A) (rm hr) (qb (qa 0) qh)) qh)))) (za 7) (λ_ _ _ _ _=>(qH 7 z)) (λ_ _ _ _ _=>.nil) λ_ _ _ _ _=>(cl (Gp A) (rm hr) (qb (qa 7) (qb (qa 3) qh))))
 (qi (qo 5 nd (jD qh))
 (qi (jm gQ rfl (Qu (jv zc A.bl tN (qb (qa 3) qh)) A.bl) (qH 6 nd) (qk (zB 5 (zM (n:=1) (apS _ ["voice"]) (wY 4) (za 7) (λ_ _ _ _ _=>(qH 7 z)) (λ_ _ _ _ _=>.nil) λ_ _ _ _ _=>(qm (qa 7) (qa 6))))))
 (qk (jZ 5)))))))
def Gv:Q W 6 64 ym:=by
 refine fE A 64 ["bars","key"] λhr nd hu=>?_
 obtain⟨_,_,Gw,xI⟩:=id (Gq A);exact(qk (qA (cl (Gu A) (rm hr) (qb (qa 0) (qb (qa 1) (qb (KP xI.1 xI.4) qh))))))
def qgR:Q W 6 65 JC:=by
 refine fE A 65 ["bars","key"] λhr nd hu=>?_
 obtain⟨_,_,Gx,xJ⟩:=id (Gs A);exact(qk (qA (cl (Gu A) (rm hr) (qb (qa 0) (qb (qa 1) (qb (KP xJ.1 xJ.4) qh))))))
def qgS:Q W 7 66 JD:=by
 refine fE A 66 ["notes","key","meter","room","told_meter","told_notes","bars","widths"] λhr nd hu=>?_
 have z:=ndc nd ["bar"];exact(qi (Zp (cl (qgH A) (rm hr) (qb (qa 1) qh)))
 (qi (qo 4 nd (cl (qgP A) (rm hr) (qb (qa 2) qh)))
 (qi (qo 5 nd (cl (qgN A) (rm hr) (qb (qa 0) qh)))
 (qi (Zp (cl (qgJ A) (rm hr) (qb (qa 3) qh)))
 (qi (qo 6 nd (cl (Gv A) (rm hr) (qb (cl (qgQ A) (rm hr) (qb (qa 5) (qb (qa 4) qh))) (qb (qa 1) qh))))
 (qi (Yt 7 (n:=1) (apS _ ["bar"]) nd (wY 6) (za 8) (λ_ _ _ _ _=>(qH 8 z)) (λ_ _ _ _ _=>.nil) λ_ _ _ _ _=>(cl (Gh A) (rm hr) (qb (qa 8) qh)))
 (qk (zb 7 (zb 6 (zb 4 (qA (zJ (qb (qa 1) (qb (qa 4) (qb (qa 3) (qb (cl (Go A) (rm hr) (qb (qa 6) qh)) (qb (cl (Gm A) (rm hr) (qb (qa 7) (qb (qa 3) qh))) (qb (qa 6) qh))))))))))))))))))
def qgT(F:Fun W.K "law" "law" XN f fd) :
  FnOk W.P W.w W.K W.mg W.base CX0 8 f fd ["_law_script"] (spD #[W.P,W.w,W.K] xv 1):=by
 refine fEL F ["_law_script","_law_wide_here","_law_notes_here","_law_key_here","_law_meter_here","_law_room","_law_bars","_law_told","_law_lengths_here","_law_rows"] λhr nd hu=>?_
 have B:=ndc nd ["_law_bar"];have O:=ndc nd ["_law_note_here"];have U:=ndc nd ["_law_voice"];have z:=ndc nd ["_law_b"];have Y:=ndc nd ["_law_b","_law_row"];exact(qi (qo 1 nd (cl (qgA A) (rm hr) (qb (qa 0) qh)))
 (qi (qo 2 nd (cl (qgL A) (rm hr) (qb (qa 0) (qb (qa 1) qh))))
 (qi (qo 3 nd (cl (qgC A) (rm hr) (qb (qa 0) qh)))
 (qi (qo 4 nd (cl (qgM A) (rm hr) (qb (qa 0) (qb (qa 1) qh))))
 (qi (qo 5 nd (cl (qgD A) (rm hr) (qb (qa 0) (qb (qa 1) qh))))
 (qi (qo 6 nd (cl (qgS A) (rm hr) (qb (kJ Zl A.bl cY (qb (qa 2) qh)) (qb (qa 3) (qb (kJ Zl A.bl cY (qb (qa 4) qh)) (qb (qa 5) qh))))))
 (qi (qV (st_w (wX (qT (kH hu) (qm (qa 6) qf) (cl (Go A) (rm hr) (qb (qm (qa 6) qf) qh))) (yC (qT (kH hu) (qm (qa 6) qf) (cl (Gm A) (rm hr) (qb (zM (n:=1) (apS _ ["_law_bar"]) (SI.c (zK (qm (qa 6) qf))) (za 10) (λ_ _ _ _ _=>(qH 10 B)) (λ_ _ _ _ _=>.nil) λ_ _ _ _ _=>(cl (Gh A) (rm hr) (qb (qa 10) qh))) (qb (qa 5) qh))))))) (qk (qA vO)) qU)
 (qi (qo 7 nd (cl (qgR A) (rm hr) (qb (qm (qa 6) qf) (qb (qa 3) qh))))
 (qi (qV (qT (kH hu) (cl (Gv A) (rm hr) (qb (qa 7) (qb (qa 3) qh))) (qm (qa 6) qf)) (qk (qA vO)) qU)
 (qi (qo 8 nd (cl (qgn A) (rm hr) (qb (qa 4) (qb (YW (zM (n:=1) (apS _ ["_law_note_here"]) (wY 2) (za 10) (λ_ _ _ _ _=>(qH 10 O)) (λ_ _ _ _ _=>.nil) λ_ _ _ _ _=>(qq qY (qm (qa 10) qf) (qm (qa 10) qf))) qf A.bl) qh))))
 (qi (qo 9 nd (zM (n:=1) (apS _ ["_law_voice"]) (SI.c (zK (cl (Gn A) (rm hr) (qb (cl (Gb A) (rm hr) (qb (qa 2) qh)) qh)))) (za 10) (λ_ _ _ _ _=>(qH 10 U)) (λ_ _ _ _ _=>.nil) λ_ _ _ _ _=>(cl (Gp A) (rm hr) (qb (qa 10) (qb (qa 8) qh)))))
 (qk (qA (wA (zz hu) (qa 7) (qd7 (n:=1) "_law_b" (apS _ ["_law_b"]) (SI.c (Qu (jv zc A.bl tN (qb (qa 8) qh)) A.bl)) (za 10) (λ_ _ _ _ _=>(qH 10 z)) (λ_ _ _ _ _=>.nil) (λ_ _ _ _ _=>(zM (n:=1) (apS _ ["_law_b","_law_row"]) (wY 9) (za 11) (λ_ _ _ _ _=>(qH 11 Y)) (λ_ _ _ _ _=>.nil) λ_ _ _ _ _=>(qm (qa 11) (qa 10)))) z)))))))))))))))
end
def qgU{l:PySem.W.OpenLaw}{w:World}{K:Frag}{h:Heap}{mg:Str->Option aa}{fa:Addr}(X:K.In h)(G:h.Ns mainGlobals mg)(z:mg "law"=!(.ref fa))
  {B:Addr}(L:FunE K "law" XN)(E:∀ p∈FS,FunE K p.1 p.2)(Z:∀ x∈BL,nsIn K mainGlobals x=!none)(V:∀ p∈C0S,DatE K p.1 p.2)(O:nsIn K mainGlobals "PITCHES"=!(!(.ref B)))(U:DatS w K B KU) :
  ∃ fd,(∀ s v,BindsTo s fd #[[v],[]] [("_law_script",v)])/\∀ base,K.In base->base.Ns mainGlobals mg->FnOk l.prog w K mg base CX0 8 fa fd ["_law_script"] (spD #[l.prog,w,K] xv 1) :=
 qd8 X G z L (λ_ _ _ _ _ _ _ _=>.of_eq rfl) λbase _ _ F=>qgT (W:=#[l.prog,w,K,mg,base]) #[#[h,X,G],E,Z,λp hp=>(gC.mp hp).elim (λq=>qd2 X G (V p q)) ((all1 (P:=λp:Str×D=>CC l.prog w K mg p.1 p.2) (qd3 X G O U) all0) p)] F
def walk{l:PySem.W.OpenLaw}{q:af}{B:List Str}{Y:(Str->Option aa)->Heap->Prop}{U:World->Heap->Prop}{d:DefRec}{K:Params->Frag}(Z:l.most=!63)(O:d.params.defaults=[])
  (hY:∀ w h,U w h->(K w.params).In h)
  (F:∀ w mg fa h,(K w.params).In h->h.Ns mainGlobals mg->mg d.name=↑(.ref fa) ->
   ∃ fd,(∀ s u,BindsTo s fd #[[u],[]] [("_law_script",u)])/\∀ base,(K w.params).In base->base.Ns mainGlobals mg->FnOk l.prog w (K w.params) mg base CX0 8 fa fd ["_law_script"] (spD #[l.prog,w,K w.params] xv 1)) :
  PySem.W.WalkO q B Y U l.row.toRowW d [] (λf vs=>PySem.call f vs) :=
 L2.qaN Z "d" O #[rfl,by decide,by decide] hY F (λw H a ns hl _ hS=>qb4 xv ns hS (qgc ns hl)) λ_ _ _ _ _ z=>z
end My
end
open PySem PySem.W PyProof.Rows
set_option maxRecDepth 100000 in
set_option maxHeartbeats 0 in
theorem PySem.Challenge.cw_stavemill_k41_a_page_by_its_parts_holds : PySem.Challenge.rw_stavemill_k41_a_page_by_its_parts.Holds := by
 w_on; o_law; k_head; (case hw=>w_witness2)
 k_fill
 refine My.walk (l:=PySem.Challenge.rw_stavemill_k41_a_page_by_its_parts) rfl rfl (fun w h Y=>kIn_of Y) ?F
 case F =>
  intro w mg fa h KX G hmg
  refine' My.qgU KX G hmg ?L ?E ?Z ?V ?WD ?WE
  (case L=>(refine' .mk ?a ?l ?c ?k; (case a=>k_is); (case l=>k_is); (case c=>k_is); (case k=>k_is)))
  (case E=>(repeat' refine L3.all1 ?_ ?_); all_goals first|exact L3.all0|(dsimp only; (refine' .mk ?a ?l ?c ?k; (case a=>k_is); (case l=>k_is); (case c=>k_is); (case k=>k_is))))
  (case Z=>(repeat' refine L3.all1 ?_ ?_); all_goals first|exact L3.all0|k_is)
  (case V=>(repeat' refine L3.all1 ?_ ?_); all_goals first|exact L3.all0|(dsimp only; refine' .mk ?a ?d; (case a=>k_is); (case d=>kernel_rfl)))
  (case WD=>k_is)
  (case WE=>refine ⟨?o,?es,?ep,?lk,?dt,?cl,?nd,?en⟩; (case lk=>exact rfl); (case dt=>rfl); (case cl=>kernel_rfl); (case nd=>decide +kernel); (case en=>exact .cons rfl rfl rfl (.cons rfl rfl rfl (.cons rfl rfl rfl (.cons rfl rfl rfl (.cons rfl rfl rfl (.cons rfl rfl rfl (.cons rfl rfl rfl (.nil)))))))))
#print axioms PySem.Challenge.cw_stavemill_k41_a_page_by_its_parts_holds