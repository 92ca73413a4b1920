import PyProof.Rows.All
import KE.KSuperObj
import KE.KPairComp
import KE.KItemsList
import KE.KUnpack
import KE.KEqDict
import KE.KFromBytes
import KE.KMinKey
import KE.KIntText
import KE.KRevIter
import KE.KDictOf
import KE.KTryMore
import KE.KBoundM
import KE.KNestM
import KE.KLam
import PySem.Challenge.RW_castoff_k96_whole_values_by_lines
set_option linter.all false
set_option compiler.extract_closed false
set_option genSizeOf false
set_option Elab.async false
set_option maxRecDepth 100000
set_option maxHeartbeats 4000000
namespace PySem.W.Fast
def tw7532115985343930850:=0
def tw14206947814039349456:=0
def tw5091513897500757579:=0
def tw13569916521419228600:=0
def tw14093417475457718907:=0
def tw791168347598743669:=0
def tw11002938420884781784:=0
def tw12107305868313183740:=0
def tw11108295210536891850:=0
def tw17013686951381400252:=0
def tw13813621336085029992:=0
def tw16607891554487057205:=0
def tw7233555608400564770:=0
def tw784101238485250942:=0
def tw11970936084761559139:=0
def tw2185783616754699464:=0
def tw16884860482431079741:=0
def tw17703683915087338940:=0
def tw9260751624736980537:=0
def tw547815555742830170:=0
def tw8395813997293258743:=0
def tw14120152578069242708:=0
def tw9910104007825741960:=0
def tw10794740737828048100:=0
def tw16418716205289303510:=0
def tw5823791015636447034:=0
def tw835173961649562433:=0
def tw17141428657794465967:=0
def tw9068344798824168809:=0
def tw14644910893030952212:=0
def tw7630103332360456935:=0
def tw3491220214525410414:=0
def tw9063897345767941360:=0
def tw17293211375240185598:=0
def tw2212920001812753192:=0
def tw3176850038019185748:=0
def tw634545688676043920:=0
def tw1549787041774121108:=0
def tw684501565043837574:=0
def tw7000539013502353690:=0
def tw8631865955141307961:=0
def tw8050473515029788256:=0
def tw7339323218882443623:=0
def tw1954604482113079570:=0
def tw17867719061762345583:=0
def tw5851493964534539965:=0
def tw15209044732745604174:=0
def tw1961423353173468061:=0
def tw10845995790435427585:=0
def tw9159583989967166253:=0
def tw2463709967196808269:=0
def tw1765052408225486567:=0
def tw9301896552067003245:=0
def tw9462462641035359008:=0
def tw4362923397974446773:=0
def tw4102837202470416757:=0
def tw3436531984099126404:=0
def tw16018574277699105865:=0
def tw16405782426677842691:=0
def tw10060349139866298620:=0
def tw16580908522784664157:=0
def tw14058878228445388565:=0
def tw17283640346213549888:=0
def tw10146163040501749521:=0
def tw9427726312694093390:=0
def tw11581232423358095680:=0
def tw9871572761100551660:=0
def tw12258557617662788411:=0
def tw10768298541897234277:=0
def tw13709327815241530998:=0
def tw12139935214988223224:=0
def tw17056032731772301374:=0
def tw3715995393142725701:=0
def tw5032495199507217997:=0
def tw17951536806731282512:=0
def tw232545927869058538:=0
def tw5042919577294382854:=0
def tw15255433273367616511:=0
def tw2329145406377009837:=0
def tw13019884284487902847:=0
def tw8452633151791360881:=0
def tw12905824969996025383:=0
def tw5687117446828822778:=0
def tw10664647858460769850:=0
def tw492715265679760126:=0
def tw14741329603931854401:=0
def tw9655636764564534340:=0
def tw18398161643599760974:=0
def tw1773672380801639841:=0
def tw14360405578846468450:=0
def tw17030620717447433704:=0
def tw14868670633265533334:=0
def tw6286748093833662292:=0
def tw8618198127999818542:=0
def tw5152411377571860043:=0
def tw13116912934870228289:=0
def tw1361861579038007302:=0
def tw10043785310518277660:=0
def tw10580539504210518491:=0
def tw2531985745703157163:=0
def tw9120402440375749463:=0
def tw9269473271652124540:=0
def tw9657125417353156307:=0
def tw5750613180667600682:=0
def tw16254852219028925551:=0
def tw255829923808948574:=0
def tw2536838949418837989:=0
def tw14033851410826806756:=0
def tw10676985957955116302:=0
def tw2032752799508173043:=0
def tw1559361109219220516:=0
def tw5049912924035633785:=0
def tw10913971230484964689:=0
def tw12403720783433758030:=0
def tw8205550679727047686:=0
def tw8214446809535539483:=0
def tw16205313100124871898:=0
def tw5095591516518336444:=0
def tw17980565740077194398:=0
def tw8890213028326786885:=0
def tw3762308757456810112:=0
def tw8136325097604690234:=0
def tw16676547158745558592:=0
def tw14862888043669591306:=0
def tw7470891838302423809:=0
def tw15647183640301646881:=0
def tw823186624077500153:=0
def tw3847438457019001928:=0
def tw10435446529189025179:=0
def tw1444162671770945415:=0
def tw10748415867297700446:=0
def tw13181300962952173332:=0
def tw2811009871132549794:=0
def tw8073859058043627488:=0
def tw1640943948199228327:=0
def tw16837914269993910577:=0
def tw12273115189863014480:=0
def tw685845198037933171:=0
def tw12338566919339929020:=0
def tw12665287433294515773:=0
def tw8018386285341648052:=0
def tw13386989726319555309:=0
def tw11394065705913724089:=0
def tw11779665947809716040:=0
def tw14177964550987950868:=0
def tw2862732861130418449:=0
def tw14939752615933048916:=0
def tw2891957853295004089:=0
def tw13748304124632180400:=0
def tw1627926625549152428:=0
def tw8320546004547569645:=0
def tw12786848833357778935:=0
def tw12625593055982108142:=0
def tw3255105982240475747:=0
def tw6858857713852349275:=0
def tw10216095111759430832:=0
def tw7032308307585176644:=0
def tw9810696086041147135:=0
def tw6880332197437627468:=0
def tw10780713259229687608:=0
def tw1962376692950905858:=0
def tw10870607465920484702:=0
def tw18348760558264912765:=0
def tw11451548066878207789:=0
def tw11316228965740046347:=0
def tw800809154973810300:=0
def tw3358911482963645150:=0
def tw5683911568336932384:=0
def tw8459157670415819974:=0
def tw5064593240515132973:=0
def tw15477246306795538102:=0
def tw3336286858109984015:=0
def tw843717407363130996:=0
def tw1713065550545155423:=0
def tw18279496696717006287:=0
def tw7960501585758040035:=0
def tw1522750140238231978:=0
def tw17963188435380237864:=0
def tw6854849274837816192:=0
def tw4173504794468547488:=0
def tw3906817633762790122:=0
def tw14251913781344305848:=0
def tw1212446043281360165:=0
def tw1088757186446950042:=0
def tw7511838603567912617:=0
def tw2773054527802573917:=0
def tw13254218778034153156:=0
def tw15252517505176740982:=0
def tw3938469049175090918:=0
def tw13072531447994776470:=0
def tw6810084960391228747:=0
def tw17588442924921187579:=0
def tw542759235930605896:=0
def tw12207039761955036971:=0
def tw66791419020671506:=0
def tw4897958658219136279:=0
def tw13653879339114771911:=0
def tw13393296192394383837:=0
def tw4931316154718260296:=0
def tw6017390031629383038:=0
def tw6759896228946360554:=0
def tw9205825549670153824:=0
def tw6296049311705434063:=0
def tw5430902699133995602:=0
def tw10585889867078242276:=0
def tw2324717606113809704:=0
def tw10011208721480295968:=0
def tw5607965560547425757:=0
def tw17822385184249801616:=0
def tw375987867926535606:=0
def tw8674271560335437291:=0
def tw15066389480144679384:=0
def tw7264766223238166351:=0
def tw7639077085844409619:=0
def tw8866345099567348647:=0
def tw17182949593247214169:=0
def tw12533185397091856870:=0
def tw7645000928612937429:=0
def tw5291331394009000065:=0
def tw12046504286518616913:=0
def tw10912316569309422439:=0
def tw13406361766800941862:=0
def tw11190596590250798286:=0
def tw13752675351725767938:=0
def tw4776665012864219192:=0
def tw9670955718136017975:=0
def tw16487561508123787592:=0
def tw15847900230795725643:=0
def tw9658643492177713567:=0
def tw202982666094173023:=0
def tw2719114017806548139:=0
def tw12600241220406463934:=0
def tw10099641024884515829:=0
def tw4755507255844451079:=0
def tw10901566170423240071:=0
def tw3813311280871832875:=0
def tw804749526755144243:=0
def tw9919824470169185600:=0
def tw15829933293996966787:=0
def tw9584003345042297747:=0
def tw764260667900062312:=0
def tw1696865912163155250:=0
def tw10914621439781390572:=0
def tw10079785049306903910:=0
def tw3569728954722394023:=0
def tw15741758347439130700:=0
def tw8755669739258578182:=0
def tw15856481460132801802:=0
def tw4761127765615269772:=0
def tw3090642095560914818:=0
def tw1371470575551124400:=0
def tw17702041496388476054:=0
def tw6341736260677381250:=0
def tw4950231905745345345:=0
def tw10988067009480993039:=0
def tw255452079911747689:=0
def tw8116363069571218864:=0
def tw8073463756999354656:=0
def tw18398362729648232254:=0
def tw2932792264497136857:=0
def tw605466742926527525:=0
def tw1552130552177688937:=0
def tw1417293578597485424:=0
def tw7834568992549127399:=0
def tw2889044358410136136:=0
def tw17591731782790450653:=0
def tw17513436698662657607:=0
def tw7994756930901265357:=0
def tw8381120031373512281:=0
def tw8812084742459869795:=0
def tw13968293203730355650:=0
def tw9726354786244953461:=0
def tw7319593132976781985:=0
def tw9375616219177509614:=0
def tw4120952196174544399:=0
def tw13327857422884718817:=0
def tw17699793951711158521:=0
def tw9288628903413471828:=0
def tw7902308469141781716:=0
def tw15787965842259557519:=0
def tw7883241735625130973:=0
def tw7643524967597078765:=0
def tw9891511422727066987:=0
def tw13979971561000441014:=0
def tw17718777779526759676:=0
def tw3939051279877258465:=0
def tw11687155795621219354:=0
def tw17336791243411666895:=0
def tw13091307009063893192:=0
def tw6060235739650969777:=0
def tw3611145443411886489:=0
def tw16659057574204549008:=0
def tw17238635464704378396:=0
def tw16285106023679515268:=0
def tw320643343116412411:=0
def tw12127862296780455669:=0
def tw6874304440426695502:=0
def tw35834236976871493:=0
def tw8791452776513187689:=0
def tw12504697268588308060:=0
def tw11728099505254914448:=0
def tw1647039723167776954:=0
def tw14063411898795912056:=0
def tw5116908473283152718:=0
def tw12455954741552523275:=0
def tw12383749041538632252:=0
def tw10857400906441692811:=0
def tw16138065286658991545:=0
def tw12240427140446017321:=0
def tw212038741964635367:=0
def tw10771639249559987946:=0
def tw10117911618936772649:=0
def tw13681987866467021908:=0
def tw6231241332167231369:=0
def tw9394526817153383932:=0
def tw5696609667365820038:=0
def tw12737564966856543827:=0
def tw9665038890648187805:=0
def tw5797947798632296875:=0
def tw6860836007568386235:=0
def tw6868152712781798007:=0
def tw7852076865196794352:=0
def tw5121030671273307574:=0
def tw8031427300389544650:=0
def tw4589096216770418414:=0
def tw129197187309301773:=0
def tw1814688159145167574:=0
def tw17859098195806520988:=0
def tw17320759912998140984:=0
def tw687642860851472618:=0
def tw206464044737647632:=0
def tw5477957343327896867:=0
def tw16389308925641923869:=0
def tw4888386026890541455:=0
def tw9679969578073820136:=0
def tw18129309565354615867:=0
def tw15317490468152666567:=0
def tw3804661161326290269:=0
def tw3626664880419352335:=0
def tw12822017358731149998:=0
def tw2679366311898624156:=0
def tw10917214234984000380:=0
def tw17458188730265180516:=0
def tw4531319578733323551:=0
def tw13077852839359464051:=0
def tw8892609786078524179:=0
def tw3814569169379604291:=0
def tw2455170954845250550:=0
def tw1446398999535755634:=0
def tw5358428319215026161:=0
def tw7663100471473091997:=0
def tw16339088304913802855:=0
def tw3686404311833766551:=0
def tw17833679630522081240:=0
def tw1706738263416201213:=0
def tw15011403222108321401:=0
def tw957212781411933480:=0
def tw9413836425431981767:=0
def tw13662925854616130510:=0
def tw8155529828088916442:=0
def tw8187756096183443955:=0
def tw16069452810587348911:=0
def tw13751812623799606519:=0
def tw16526129196251301186:=0
def tw2988516988598022851:=0
def tw14977298628924893375:=0
def tw1749972235016246719:=0
def tw14159274277117332748:=0
def tw2289961993945594593:=0
def tw16868189310840381956:=0
def tw2071002594209305445:=0
def tw14222650551282559651:=0
def tw691766822748563808:=0
def tw10793816018398094386:=0
def tw2824361516818874289:=0
def tw8997207537545799767:=0
def tw15210642534770137960:=0
def tw15997128703498137658:=0
def tw3482768347973165396:=0
def tw7187020737259576360:=0
def tw10925664204041337583:=0
def tw9394506104254820280:=0
def tw604292524963393736:=0
def tw6108005224834494043:=0
def tw3379164752876738723:=0
def tw8554325533795632333:=0
def tw6609644166796216141:=0
def tw10779061336962373348:=0
def tw8390746059638707640:=0
def tw12931019778811880646:=0
def tw17138653252796160912:=0
def tw16592216855095116908:=0
def tw16627135825618493877:=0
def tw14313349113091046444:=0
def tw18155796364281887858:=0
def tw5258959866997240081:=0
def tw13862829956439071437:=0
def tw35596120131301845:=0
def tw3159052112591182601:=0
def tw6289155033199386249:=0
def tw12542224887063451157:=0
def tw3463475605180447260:=0
def tw1034966815996327482:=0
def tw14620936648988894494:=0
def tw4497001399028488675:=0
def tw15659267506693838892:=0
def tw3504261850295959361:=0
def tw17827437398137018601:=0
def tw13983527483939565039:=0
def tw17453031728364528376:=0
def tw9192312368791746630:=0
def tw12872139837193378365:=0
def tw16319321852548014742:=0
def tw17889392190807953003:=0
def tw12499086510225375029:=0
def tw5862463490515965264:=0
def tw11195472805705324899:=0
def tw10277767941701527947:=0
def tw14012542077237513169:=0
def tw5126846340567392770:=0
def tw5958021456663908188:=0
def tw8011112102017671476:=0
def tw7682475756534435105:=0
def tw11149423989972873184:=0
def tw13280688889814315813:=0
def tw9976740353191793880:=0
def tw5603438313674615929:=0
def tw2396732788029495937:=0
def tw9933712196169538556:=0
def tw16955103279743504153:=0
def tw2450069719450916949:=0
def tw11204035342251127894:=0
def tw17968368267948264485:=0
def tw16531235388683036075:=0
def tw4539250051567382386:=0
def tw6355911163280063111:=0
def tw10328227219817064105:=0
def tw531261455332355556:=0
def tw9927984762430647371:=0
def tw10790303959980113028:=0
def tw12405805414101382824:=0
def tw16966086204763651837:=0
def tw569915658833092462:=0
def tw5579252565532887565:=0
def tw11290865274065502421:=0
def tw4686257651986322950:=0
def tw3740875878347691697:=0
def tw2583921701576964207:=0
def tw10546870387498915233:=0
def tw11705424573873010257:=0
def tw8683298346165424651:=0
def tw9270053761201823990:=0
def tw13620188287434131049:=0
def tw1749097086169352911:=0
def tw13489100294045598551:=0
def tw2899467255708416801:=0
def tw14267654480252911462:=0
def tw17646812518522248312:=0
def tw12924905413284514525:=0
def tw5630296719713777486:=0
def tw6067106156057368849:=0
def tw3978006514146177372:=0
def tw11554131586060034949:=0
def tw8904082035798638594:=0
def tw4503459118641509198:=0
def tw17026062667713540657:=0
def tw4452831815324742021:=0
def tw6271233442177482845:=0
def tw1596031044310445287:=0
def tw11744256252865948764:=0
def tw6799197232055231062:=0
def tw6172341118091660515:=0
def tw411852188612282848:=0
def tw4477277020464951575:=0
def tw17854460494866133629:=0
def tw4279869583934361809:=0
def tw93019237647050748:=0
def tw6356861100868163436:=0
def tw10823563502952874289:=0
def tw297401932417087200:=0
def tw6363148047226897083:=0
def tw16236673330893240151:=0
def tw13829556972887882010:=0
def tw9461109103959346681:=0
def tw6798161163093260592:=0
def tw2885942843487092867:=0
def tw16390628481949287002:=0
def tw11714545374881836851:=0
def tw4810330466602099638:=0
def tw6260958582317394750:=0
def tw13071194377102132696:=0
def tw8913853605298283167:=0
def tw5402897079422340047:=0
def tw8654155643680976436:=0
def tw10987025067208055798:=0
def tw9196193890135917384:=0
def tw12900367298479400460:=0
def tw16558480564109048735:=0
def tw16521951984526712439:=0
def tw261908929726461847:=0
def tw5457569446377860302:=0
def tw17673969216619174319:=0
def tw13473803199809152529:=0
def tw16600172663753484424:=0
def tw4333529769238793448:=0
def tw9313893929261242788:=0
def tw1534680602187873810:=0
def tw5738371384538218896:=0
def tw632793476401858548:=0
def tw642258957400189435:=0
def tw13240548310270393821:=0
def tw12704457307138241191:=0
def tw9938110146940263454:=0
def tw33873592255947796:=0
def tw7787282622495045939:=0
def tw11654422648106852544:=0
def tw8148822046452979706:=0
def tw10116619898044785721:=0
def tw13612791175235379049:=0
def tw12568345742579931384:=0
def tw9424625931068555400:=0
def tw9970265490141281287:=0
def tw21994393391258737:=0
def tw3027126911347556371:=0
def tw14166424033176729181:=0
def tw5292140575836176343:=0
def tw17203342224519940974:=0
def tw3476255691863361016:=0
def tw4489332935699812920:=0
def tw15511304204128758700:=0
def tw15865446858728748673:=0
def tw4735970374125735789:=0
def tw6818217600681337983:=0
def tw3948831977655925749:=0
def tw13481626884484779236:=0
def tw12579048860875860222:=0
def tw12323866448096951608:=0
def tw1535429370455743305:=0
def tw1119646199879027003:=0
def tw5762105960801692007:=0
def tw11949746586309649957:=0
def tw338108371214951728:=0
def tw10169332548009093374:=0
def tw15506107232343810926:=0
def tw3990564529373232871:=0
def tw11122191322442112164:=0
def tw261993490929178277:=0
def tw7063112675861320530:=0
def tw1120903321086691299:=0
def tw13968062988314228330:=0
def tw93026682584487032:=0
def tw3514902723638170156:=0
def tw110356633488374519:=0
def tw16972803808464467826:=0
def tw1460116232383146487:=0
def tw1814409978504619212:=0
def tw12139194818954916546:=0
def tw17335343498365953373:=0
def tw4201382280142909050:=0
def tw4836117300791772009:=0
def tw3718345362083261088:=0
def tw14259973049525318855:=0
def tw9622310473145425697:=0
def tw13592077442716065257:=0
def tw15331107102415384248:=0
def tw17448855223210167829:=0
def tw6757000972622299543:=0
def tw7373408234616217585:=0
def tw12035277644030660809:=0
def tw18229148780335479017:=0
def tw16074055122699106003:=0
def tw14857309383140371788:=0
def tw11220805273400095581:=0
def tw1638784553143048557:=0
def tw17473556996028398778:=0
def tw4995778087416072582:=0
def tw17471925172100929756:=0
def tw863612494405640657:=0
def tw9361651986629793284:=0
def tw1907791483581778444:=0
def tw12477173493763190485:=0
def tw11905702915731873413:=0
def tw16099499850442753094:=0
def tw9908393551021701942:=0
def tw11686396247991854399:=0
def tw1315287114061418805:=0
def tw16674848767507421595:=0
def tw6598716493987486874:=0
def tw2499847976265568771:=0
def tw13342203996415722548:=0
def tw8545051984254174080:=0
def tw10364876101411336315:=0
def tw15593796387881340327:=0
def tw13305161058165711329:=0
def tw16763347633654264738:=0
def tw13584158378345814973:=0
def tw4436974208254656537:=0
def tw12495301245528224556:=0
def tw9513566491340484295:=0
def tw699159831033206883:=0
def tw16336288717895188027:=0
def tw452842301635378131:=0
def tw8104577135955542597:=0
def tw1247059758832803830:=0
def tw11527670323268959738:=0
def tw13094198809064207061:=0
def tw15906494621521124489:=0
def tw11844069110168983508:=0
def tw5085723444181160321:=0
def tw2511167040701502608:=0
def tw11977809398645339471:=0
def tw11643351761573461437:=0
def tw779868403344864583:=0
def tw1636174165681501056:=0
def tw7689139140508046504:=0
def tw9309156244963888681:=0
def tw3079721417030005454:=0
def tw8181569308301295818:=0
def tw14183857720803921233:=0
def tw1139536233358539525:=0
def tw2620204870063319598:=0
def tw14842735222100240814:=0
def tw14940198362925545848:=0
def tw9111849321318384384:=0
def tw3730179581101143294:=0
def tw10986769803317704822:=0
def tw13867634054048699184:=0
def tw4464567332490713346:=0
def tw17899712960002004445:=0
def tw1579537946828298277:=0
def tw14696872666290000859:=0
def tw15855050531368853088:=0
def tw6552583466320979803:=0
def tw13569339934073510374:=0
def tw12011773355786930714:=0
def tw17532399527810687447:=0
def tw3156132106607751842:=0
def tw10693663208938754536:=0
def tw4376785138604278808:=0
def tw7177023904995484495:=0
def tw477333727566980206:=0
def tw17356569039021511087:=0
def tw15873089620722196104:=0
def tw847868069518201938:=0
def tw329501696603370833:=0
def tw8588366751151563709:=0
def tw15793990729131338220:=0
def tw8048603907839205860:=0
def tw9175493676155965194:=0
def tw12885140783748012650:=0
def tw9698322830136444581:=0
def tw9419370453279861940:=0
def tw8765810648224222201:=0
def tw5442753327431331808:=0
def tw17015327501324542738:=0
def tw11269314674156432201:=0
def tw6352955504575234513:=0
def tw2285422851072805275:=0
def tw11641642037615351552:=0
def tw14700189977328968278:=0
def tw11726327760611289122:=0
def tw4192122740841705656:=0
def tw10540286241776331900:=0
def tw1429798542535150735:=0
def tw5512012233027308377:=0
def tw5911291394905882066:=0
def tw3188735410774258399:=0
def tw16096277529997255483:=0
def tw679078677849523641:=0
def tw16530102399020874702:=0
def tw11032173648634230203:=0
def tw3728575230861160795:=0
def tw16443564352085218251:=0
def tw11089348778527236922:=0
def tw15313753537366966941:=0
def tw15735921691638279609:=0
def tw17118566220332528432:=0
def tw14770981427408347758:=0
def tw8434329879342028115:=0
def tw14584158779446799580:=0
def tw9826686144647627513:=0
def tw14353825863750055266:=0
def tw9130320038475550141:=0
def tw16201548206465664765:=0
def tw7146812306898195776:=0
def tw10414376666523892818:=0
def tw2523409042291051705:=0
def tw8204444727470384728:=0
def tw11038641575634008288:=0
def tw1201765385347499659:=0
def tw939024425238377510:=0
def tw12909083572223641594:=0
def tw1395393524808542792:=0
def tw6035909097397586290:=0
def tw14509128103302046723:=0
def tw9929474764859778217:=0
def tw5304661055761067965:=0
def tw17426465194353691062:=0
def tw6274847022021110742:=0
def tw7694535811603232945:=0
def tw5109621610396439404:=0
def tw905299482426460545:=0
def tw3568838019475068369:=0
def tw8450073084622353708:=0
def tw13139401997246216509:=0
def tw634704031535669326:=0
def tw4320826658860943673:=0
def tw13819317285042505820:=0
def tw7071328825626750146:=0
def tw10623692412252321890:=0
def tw7458286588144404578:=0
def tw3810204936320847458:=0
def tw4934187834262630891:=0
def tw15587512466857994277:=0
def tw4033615350687825702:=0
def tw4394355926412442969:=0
def tw9431989528316082176:=0
def tw10836298116990218953:=0
def tw6378469599960941681:=0
def tw2899692582235093478:=0
def tw12205276836520987536:=0
def tw9916774686118653503:=0
def tw14895432805925142050:=0
def tw11582498969985195371:=0
def tw11872641305793943571:=0
def tw11103172498390692438:=0
def tw7400609802551112270:=0
def tw16848655434503279924:=0
def tw15172190087298081089:=0
def tw10979646323409252396:=0
def tw6455420472468435914:=0
def tw2137388903105540361:=0
def tw5509520306016405031:=0
def tw3466867192522891176:=0
def tw14645039772199627369:=0
def tw10674199649076916320:=0
def tw17335483104772468837:=0
def tw8152448992606901887:=0
def tw14404711691815422649:=0
def tw13465347137532269530:=0
def tw1098824151287424779:=0
def tw18200277886383668864:=0
def tw1946284127864993423:=0
def tw10155095857781541547:=0
def tw18352289724738488620:=0
def tw10309297901468276856:=0
def tw10565235159693301556:=0
def tw4563404115587055619:=0
def tw16543269693956024556:=0
def tw2918850666629828135:=0
def tw15704479963532514737:=0
def tw9105284666711150606:=0
def tw5765415648003406738:=0
def tw9800161209196941447:=0
def tw3073023669632979857:=0
def tw16682223908039967961:=0
def tw3825868367053616296:=0
def tw13858440303080794460:=0
def tw12118540009158087338:=0
def tw5574670047548396175:=0
def tw15331622612369078478:=0
def tw18374610545911179109:=0
def tw3571357443663193077:=0
def tw9191303421249430365:=0
def tw857057462240619737:=0
def tw12046347735777740828:=0
def tw10229994565794749345:=0
def tw9885739312283081137:=0
def tw15420918307982107233:=0
def tw7197954950582381649:=0
def tw8328055055701280984:=0
def tw14329312884455114435:=0
def tw4094681248181204594:=0
def tw4807101652499743693:=0
def tw84762652074914813:=0
def tw15580925628870388728:=0
def tw14171172560522732488:=0
def tw8864066779936382191:=0
def tw14893089005022482987:=0
def tw12498625113726910179:=0
def tw11248973607953663691:=0
def tw12997721900150798293:=0
def tw617562975209492257:=0
def tw14621759047857360535:=0
def tw2961202571741535600:=0
def tw7470900085855706048:=0
def tw4773075375257463582:=0
def tw12422944604339191378:=0
def tw8328853072313430204:=0
def tw1513931987936486418:=0
def tw8056647720159467269:=0
def tw1514847549386059512:=0
def tw691205025523439444:=0
def tw8540578486324311220:=0
def tw5522512436026028875:=0
def tw10094045977390769268:=0
def tw8457760884238378810:=0
def tw4590217217720735426:=0
def tw3348459625156185598:=0
def tw28130829879348920:=0
def tw3944303749326375433:=0
def tw10318019665908775854:=0
def tw16911697347675874434:=0
def tw15944068310511478931:=0
def tw15977745887291411566:=0
def tw13443171997640841368:=0
def tw1196108752074910974:=0
def tw11287901213992771897:=0
def tw3045728944499246990:=0
def tw10029582241420753271:=0
def tw2091835929417600194:=0
def tw7057652181313681503:=0
def tw6906249770002541546:=0
def tw14608443070169870317:=0
def tw2299420057320589975:=0
def tw12032625013066970108:=0
def tw3045855673357760927:=0
def tw11207428713210506494:=0
def tw15780744396142488606:=0
def tw271319799500464341:=0
def tw15908172573108132570:=0
def tw14369424007482074013:=0
def tw5228763046138034100:=0
def tw14455361354935347166:=0
def tw11381143416961867726:=0
def tw3691464393405675652:=0
def tw10808470646318147057:=0
def tw18005675381134881784:=0
def tw4104965023275031820:=0
def tw1915752846642750461:=0
def tw12554441212802210569:=0
def tw970059555897825150:=0
def tw17349797258045860498:=0
def tw16737257738257712553:=0
def tw55351124263635396:=0
def tw6969701593923334535:=0
def tw6402668349706609422:=0
def tw2333001282221400076:=0
def tw2981523697587217852:=0
def tw16024578595974225189:=0
def tw18018164924745978449:=0
def tw7343776917109462908:=0
def tw6456322222586464496:=0
def tw16088052728400046865:=0
def tw18243549115971734024:=0
def tw10552235786953746393:=0
def tw11488704983643161614:=0
def tw6488401919197485013:=0
def tw7521527214605642173:=0
def tw2778347290513317715:=0
def tw2174170878219296073:=0
def tw2928800589438482847:=0
def tw5148036297009071720:=0
def tw7132780211853678754:=0
def tw4090638053291126955:=0
def tw8517511384041669611:=0
def tw4770480134617168931:=0
def tw10844250153180403276:=0
def tw9983032689098815097:=0
def tw12545089020648584200:=0
end PySem.W.Fast
namespace Hk
open PySem PySem.W PyProof.Rows
noncomputable def lk (o : Obj) : Option Obj := match o.data with
  | .freed => none
  | _ => some o
theorem get_lk {h : Heap} {a : Nat} {o : Obj} (e : h.objs[a]? = some o) : h.get? a = lk o := by
  unfold Heap.get? lk
  rw [e]
  cases o with
  | mk c d x s => cases x <;> rfl
noncomputable def pick (os : List Obj) : Nat → List Nat → List (Option Obj) :=
  @List.rec Obj (fun _ => Nat → List Nat → List (Option Obj)) (fun _ as => as.map fun _ => none)
    (fun o _ ih i as => @List.rec Nat (fun _ => List (Option Obj)) [] (fun a r _ => @Bool.rec (fun _ => List (Option Obj)) (ih (Nat.succ i) (a :: r)) (lk o :: ih (Nat.succ i) r) (Nat.beq a i)) as) os
noncomputable def fnd (os : List Obj) (i a : Nat) : Option Obj := if i ≤ a then (os[a - i]?).bind lk else none
theorem fnd_succ {o : Obj} {os : List Obj} {i a : Nat} (h : (fnd os (i + 1) a).isSome = true) : fnd (o :: os) i a = fnd os (i + 1) a := by
  unfold fnd at h ⊢
  by_cases e : i + 1 ≤ a
  · rw [if_pos e, if_pos (by omega), show a - i = (a - (i + 1)) + 1 by omega, List.getElem?_cons_succ]
  · rw [if_neg e] at h; cases h
theorem pick_ok (os : List Obj) : ∀ (i : Nat) (as : List Nat) (ws : List (Option Obj)), pick os i as = ws → (∀ w ∈ ws, w.isSome = true) → as.map (fnd os i) = ws := by
  induction os with
  | nil =>
    intro i as ws e hs
    have e : as.map (fun _ => none) = ws := e
    cases as with
    | nil => exact e
    | cons a r =>
      have := hs none (by rw [← e]; exact List.mem_cons_self ..)
      cases this
  | cons o os ih =>
    intro i as ws e hs
    have key : ∀ (as : List Nat) (ws : List (Option Obj)), as.map (fnd os (i + 1)) = ws → (∀ w ∈ ws, w.isSome = true) → as.map (fnd (o :: os) i) = ws := fun as ws h hs => by
      rw [← h]
      refine List.map_congr_left fun a ha => fnd_succ (hs _ ?_)
      rw [← h]; exact List.mem_map.mpr ⟨a, ha, rfl⟩
    cases as with
    | nil => exact e
    | cons a r =>
      have e : @Bool.rec (fun _ => List (Option Obj)) (pick os (i + 1) (a :: r)) (lk o :: pick os (i + 1) r) (Nat.beq a i) = ws := e
      cases hb : Nat.beq a i with
      | false => rw [hb] at e; exact key _ _ (ih _ _ _ e hs) hs
      | true =>
        rw [hb] at e
        have e : lk o :: pick os (i + 1) r = ws := e
        have ea : a = i := Nat.eq_of_beq_eq_true hb
        have hs' : ∀ w ∈ pick os (i + 1) r, w.isSome = true := fun w hw => hs w (by rw [← e]; exact List.mem_cons_of_mem _ hw)
        rw [List.map_cons, key _ _ (ih _ _ _ rfl hs') hs', ← e]
        congr 1
        unfold fnd
        rw [if_pos (by omega), show a - i = 0 by omega]; rfl
theorem pick_in {K : Frag} {h : Heap} {as : List Nat} (x : pick h.objs.toList 0 as = K.map fun p => some p.2) : as.map h.get? = K.map fun p => some p.2 := by
  have hs : ∀ w ∈ K.map (fun p => some p.2), w.isSome = true := fun w hw => by
    obtain ⟨p, _, rfl⟩ := List.mem_map.mp hw; rfl
  have k := pick_ok _ _ _ _ x hs
  rw [← k] at hs ⊢
  refine List.map_congr_left fun a ha => ?_
  have h1 := hs _ (List.mem_map.mpr ⟨a, ha, rfl⟩)
  unfold fnd at h1 ⊢
  rw [if_pos (Nat.zero_le _), Nat.sub_zero] at h1 ⊢
  rw [Array.getElem?_toList] at h1 ⊢
  cases e : h.objs[a]? with
  | none => rw [e] at h1; cases h1
  | some o => rw [get_lk e]; rfl
noncomputable def hook (K : Params → Frag) (as : List Addr) (e : ∀ P, as = (K P).map (·.1)) : Hook :=
  ⟨List (Option Obj), fun s => pick s.heap.objs.toList 0 as, fun w => (K w.params).map fun p => some p.2, InK K, fun w s x => InK.of e w s (pick_in x), InK.keeps⟩
theorem in_of {K : Params → Frag} {as : List Addr} {e : ∀ P, as = (K P).map (·.1)} {w : World} {h : Heap} (Y : (hook K as e).says w h) : (K w.params).In h := Y
noncomputable def hookT (K : Params → Frag) (as : List Addr) (e : ∀ P, as = (K P).map (·.1)) (ts : List Addr) : Hook where
  α := List (Option Obj) × List (Option Obj)
  obs := fun s => (pick s.heap.objs.toList 0 as, ts.map s.heap.get?)
  val := fun w => ((K w.params).map fun p => some p.2, ts.map fun _ => some (tabObj #[]))
  says := fun w h => InK K w h ∧ ∀ P ∈ ts, h.get? P = some (tabObj #[])
  of := fun w s x => ⟨InK.of e w s (pick_in (Prod.mk.inj x).1), List.map_inj_left.mp (Prod.mk.inj x).2⟩
  keeps := fun w h h' x k => ⟨InK.keeps w h h' x.1 k, fun P hP => k _ _ (x.2 P hP)⟩
theorem inT_of {K : Params → Frag} {as : List Addr} {e : ∀ P, as = (K P).map (·.1)} {ts : List Addr} {w : World} {h : Heap} (Y : (hookT K as e ts).says w h) : (K w.params).In h := Y.1
theorem tabs_of {K : Params → Frag} {as : List Addr} {e : ∀ P, as = (K P).map (·.1)} {ts : List Addr} {w : World} {h : Heap} (Y : (hookT K as e ts).says w h) : ∀ P ∈ ts, h.get? P = some (tabObj #[]) := Y.2
end Hk
section
open PySem PySem.W PyProof.Rows
set_option maxHeartbeats 0
local macro_rules | `(tactic| o_head $H:term) => match H with
  | `(($f:ident $a $b $c $d)) => if f.getId.eraseMacroScopes == `kmHook then `(tactic| o_head (Hk.hookT $a $b $c $d)) else Lean.Macro.throwUnsupported
  | `(($f:ident $a $b $c)) => if f.getId.eraseMacroScopes == `kHook then `(tactic| o_head (Hk.hook $a $b $c)) else Lean.Macro.throwUnsupported
  | _ => Lean.Macro.throwUnsupported
def Hk.vq : Program := view PySem.Challenge.pw_castoff_k96_whole_values_by_lines [176]
def Hk.vl : List Str := ["_wall", "__name__", "CastError", "ValueError", "NoName", "NoNumber", "Twice", "TooMany", "Unknown", "TooWide", "There", "NotThere", "Full", "BadBook", "NoRule", "Unlike", "NoLine", "is_whole", "is_within", "divisor_of", "ratio_of", "plus_ratio", "minus_ratio", "under_ratio", "MOST_PLACES", "check_places", "Shelf", "LETTERS", "FIGURES", "MOST_SIGNS", "MOST_THINGS", "MOST_ROOM", "made_of", "is_name", "check_thing", "Stock", "MOST_FIGURES", "MOST_ASKS", "read_number", "check_asks", "check_rooms", "earlier_asks", "casts_off", "serves", "lying_after", "weighed", "missed_by", "paid_by", "walkers_at", "moves_by_step", "move_by_jump", "Climb", "climb_of", "flow_of", "MOST_TURN", "Rule", "Ranked", "Oldest", "First", "Halving", "Farthest", "make_room", "row_of", "book_of", "MOST_BEST", "Planned", "gaps_of", "stays_of", "rises_of", "best_of", "Dues", "Hand", "move", "step_of", "Rows", "make_oldest", "make_first", "make_halving", "make_farthest", "make_hand", "make_rows", "make_dues", "MAKERS", "maker_of", "check_greater", "lying_by", "first_lack", "FORMS", "read_name", "read_word", "kinds_of", "read_line", "parts_of", "MOST_SHELVES", "check_sizes", "Tower", "Prompt", "MOST_SUMS", "Sums", "depths_of", "is_there", "step_with", "steps_of", "MOST_ASKED", "MOST_DIFFERENT", "worths_of", "rooms_of_sets", "is_in", "has_all", "known_ways", "served_ways", "ways_behind", "all_ways", "row_between", "book_along", "payments_of", "ways_of", "words_or_none", "show_row", "show_step", "show_ratio", "show_paid", "answer_thing", "answer_ask", "answer_again", "book_by", "answer_run", "answer_book", "answer_holds", "answer_even", "answer_best", "answer_ways", "answer_sizes", "answer_parts", "answer_tower", "answer_prompt", "tower_of", "answer_read", "answer_keep", "answer_ahead", "answer_rest", "answer_store", "answer_levels", "answer_found", "answer_spent", "ANSWERS", "Desk", "answer_or_word", "answers_to", "_law_cell", "_law_names", "_law_line", "_law_value", "_law_said", "_law_answer_holds", "_law_all_stored", "_law_tower", "_law_again"].map Str.ofString
local macro_rules | `(tactic| refine $f:ident $xs*) => if f.getId.eraseMacroScopes == `PySem.W.holds_open then `(tactic| refine (holds_open (q := Hk.vq) (loose := Hk.vl) $(xs.extract 2 xs.size)*)) else Lean.Macro.throwUnsupported
open_top hd96 for PySem.Challenge.rw_castoff_k96_whole_values_by_lines
end
def Fa:=@List.length_map
def Fb:=@List.getElem?_eq_getElem
def Fc:=@List.getElem?_eq_some_iff
def Fd:=@List.mem_cons_of_mem
def Fe:=@Nat.le_refl
def Ff:=@List.length_append
def Fg:=@List.mem_singleton
def Fh:=@List.mem_cons
def Fi:=@List.getElem?_map
def Fj:=@List.mem_cons_self
def Fk:=@List.getD_eq_getElem?_getD
def Fl:=@Nat.zero_le
def Fm:=@PySem.Heap.get?_push_of_some
def Fn:=@List.size_toArray
def Fo:=@List.mem_of_getElem?
def Fq:=@List.mem_append
def Fs:=@PySem.Heap.lt_size
def Ft:=@List.map_append
def Fu:=@List.getElem?_append_left
def Fv:=@List.mem_append_right
def Fw:=@Nat.lt_of_lt_of_le
def Fx:=@Nat.lt_of_le_of_lt
def Fy:=@List.getElem?_append_right
def Fz:=@Bool.false_ne_true
def FA:=@Nat.le_trans
def FB:=@PySem.F.plainAttrs_list
def FC:=@PySem.boot_len
def FD:=@decide_eq_true
def FE:=@decide_eq_false
def FF:=@Nat.ne_of_lt
def FG:=@Array.length_toList
def FH:=@List.mem_map
def FI:=@PySem.Heap.get?_push_size
def FJ:=@List.mem_append_left
def FK:=@PySem.wpAny_bind
def FL:=@List.map_map
def FM:=@PySem.F.type_list_append
def FN:=@PySem.F.slot_list_append
def FO:=@Nat.le_succ_of_le
def FP:=@List.mem_iff_getElem?
def FQ:=@Option.some.inj
def FR:=@List.not_mem_nil
def FS:=@List.lookup_cons
def FT:=@List.length_range
def FU:=@List.take_length
def FV:=@List.length_take
def FW:=@PySem.wpAny_pure
def FX:=@List.append_nil
def FY:=@PySem.F.plainAttrs_str
def FZ:=@PySem.wpAny_mono
def Hc:=@PySem.W.kia_one
def Hd:=@List.take_of_length_le
def He:=@List.getElem?_eq_none
def Hf:=@List.length_drop
def Hg:=@List.all_eq_true
def Hh:=@Int.emod_lt_of_pos
def Hi:=@Bool.and_eq_true
def Hj:=@Nat.le_of_eq
def Hl:=@List.nodup_append
def Hm:=@Int.emod_nonneg
def Hn:=@List.replicate_succ
def Ho:=@List.length_filter_le
def Hq:=@Option.map_some
def Hr:=@List.nodup_cons
def Hs:=@List.find?_cons
def Ht:=@PySem.wpAny_truthy_bool
def Hu:=@PySem.lookup_relabel_local
def Hv:=@List.take_add_one
def Hw:=@Nat.lt_irrefl
def Hy:=@PySem.mem_of_lookup
def Hz:=@List.mem_range
def HB:=@PySem.wpAny_Call_Name_kw
def HC:=@Nat.sub_self
def HD:=@List.mem_filter
def HE:=@PySem.F.type_str_join
def HF:=@PySem.F.slot_str_join
def HG:=@PyProof.Rows.callWith_type1
def HI:=@List.append_assoc
def HJ:=@beq_iff_eq
def HK:=@List.nodup_nil
def HL:=@beq_eq_false_iff_ne
def HM:=@Option.isSome_iff_exists
def HP:=@List.any_cons
def HQ:=@List.range_succ
def HR:=@PySem.tupleKind_room_in1
def HS:=@PySem.call_meets
def HU:=@PySem.W.callWith_K
def HV:=@PySem.F.plainAttrs_dict
def HW:=@List.filter_cons_of_pos
def HX:=@List.filter_cons_of_neg
def HY:=@List.eraseIdx_cons_succ
def R0:=@List.take_zero
def R3:=@List.flatten_cons
def R4:=@PySem.W.methodCall_KW
def R5:=@Nat.lt_succ_self
def R6:=@List.sum_cons
def R7:=@List.pairwise_append
def R8:=@List.mem_of_mem_take
def R9:=@PySem.wpAny_passesOwn
def Ra:=@List.sum_append
def Rb:=@List.length_set
def Rc:=@Bool.eq_iff_iff
def Re:=@List.take_succ_cons
def Rf:=@List.getElem?_range
def Rg:=@PySem.codeAny_mono
def Rh:=@Int.add_zero
def Ri:=@List.take_succ
def Rj:=@Nat.add_assoc
def Rk:=@Nat.le_add_right
def Rl:=@List.getElem_mem
def Rm:=@PySem.typeIs_str
def Rn:=@PySem.call_meetsIn
def Ro:=@PySem.F.type_str_split
def Rp:=@PySem.F.slot_str_split
def Rq:=@PySem.wpAny_execs_nil
def Rr:=@List.filter_nil
def Rt:=@PySem.F.slot_dict_get
def Ru:=@List.take_append_drop
def Rv:=@List.length_singleton
def Rx:=@Nat.le_succ
def Ry:=@List.length_erase_le
def Rz:=@PySem.Heap.size_push
def RA:=@ne_true_of_eq_false
def RB:=@PySem.W.plainGet_of
def RC:=@PySem.W.callWith_K0
def RD:=@List.map_congr_left
def RE:=@List.filterMap_cons
def RF:=@PySem.wpAny_pyIter_list
def RG:=@Option.isSome_map
def RH:=@List.take_sublist
def RI:=@List.pairwise_map
def RJ:=@List.mem_range'_1
def RK:=@List.map_set
def RL:=@List.foldl_append
def RM:=@List.ext_getElem?
def RN:=@beq_self_eq_true
def RO:=@Nat.min_eq_right
noncomputable section
open PySem PySem.Spec PyProof.Rows
namespace L2
abbrev Key:=Sum Int Str
def Lh:Key→Value→Bool
 | .inl k,v=>Value.isInt k v
 | .inr x,v=>Value.isStrOf x v
def J8a(w:World):Key→Int
 | .inl k=>hashInt k
 | .inr x=>hashStr w x
theorem Bu:∀{k:Key} {v:Value},Lh k v=true→(∃i t,k=Sum.inl i∧v=Value.int i t)∨(∃x t,k=Sum.inr x∧v=Value.str x t)
 | .inl i,v,h=>by
  obtain ⟨t,e⟩:=Value.isInt_shape (k:=i) (v:=v) h;exact .inl ⟨i,t,rfl,e⟩
 | .inr x,v,h=>by
  obtain ⟨t,e⟩:=Value.isStrOf_shape (x:=x) (v:=v) h;exact .inr ⟨x,t,rfl,e⟩
theorem Wp(i:Int)(t:Tok):Lh (.inl i) (.int i t)=true:=by simp [Lh,Value.isInt]
theorem Wq(x:Str)(t:Tok):Lh (.inr x) (.str x t)=true:=by simp [Lh,Value.isStrOf]
theorem J4y(a b:Int):decide ((Sum.inl a:Key)=Sum.inl b)=(a==b):=by
 by_cases e:a=b
 · subst e;simp
 · have h:¬(Sum.inl a:Key)=Sum.inl b:=fun q=>e (Sum.inl.inj q)
   rw [FE h];exact (HL.mpr e).symm
theorem J4z(a b:Str):decide ((Sum.inr a:Key)=Sum.inr b)=decide (a=b):=by
 by_cases e:a=b
 · subst e;simp
 · have h:¬(Sum.inr a:Key)=Sum.inr b:=fun q=>e (Sum.inr.inj q)
   rw [FE h,FE e]
theorem J50(a:Int)(b:Str):decide ((Sum.inl a:Key)=Sum.inr b)=false:=FE (fun q=>nomatch q)
theorem J51(a:Str)(b:Int):decide ((Sum.inr a:Key)=Sum.inl b)=false:=FE (fun q=>nomatch q)
def Ba(prog:Program)(w:World):PySem.KeyKind prog w Key where
 is:=Lh
 hash:=J8a w
 inj:=fun v a b ha hb=>by
  rcases Bu ha with ⟨i,t,rfl,rfl⟩ | ⟨x,t,rfl,rfl⟩
  · rcases Bu hb with ⟨j,u,rfl,e⟩ | ⟨y,u,rfl,e⟩
    · injection e with e1 _;rw [e1]
    · exact nomatch e
  · rcases Bu hb with ⟨j,u,rfl,e⟩ | ⟨y,u,rfl,e⟩
    · exact nomatch e
    · injection e with e1 _;rw [e1]
 byValue:=fun k v h=>by
   rcases Bu h with ⟨i,t,rfl,rfl⟩ | ⟨x,t,rfl,rfl⟩ <;> rfl
 pyHash:=fun hv h=>by
  rcases Bu hv with ⟨i,t,rfl,rfl⟩ | ⟨x,t,rfl,rfl⟩
  · exact wpAny_pyHash_int h
  · exact wpAny_pyHash_str h
 eqBool:=fun hu hv h=>by
  rcases Bu hu with ⟨i,t,rfl,rfl⟩ | ⟨x,t,rfl,rfl⟩
  · rcases Bu hv with ⟨j,u,rfl,rfl⟩ | ⟨y,u,rfl,rfl⟩
    · rw [J4y]at h;exact wpAny_eqBool_int h
    · rw [J50]at h;exact SeqAt.EqAt.int_str i t y u _ _ _ _ h
  · rcases Bu hv with ⟨j,u,rfl,rfl⟩ | ⟨y,u,rfl,rfl⟩
    · rw [J51]at h;exact SeqAt.EqAt.str_int x t j u _ _ _ _ h
    · rw [J4z]at h;exact wpAny_eqBool_str h
 «strs»:=fun k x t v h=>by
  rcases Bu h with ⟨i,u,rfl,e⟩ | ⟨y,u,rfl,e⟩
  · exact nomatch e
  · injection e with e1 _
    subst e1
    cases v <;> rfl
theorem Q0(prog:Program)(w:World)(i:Int)(t:Tok):(Ba prog w).is (.inl i) (.int i t)=true:=Wp i t
theorem Q1(prog:Program)(w:World)(x:Str)(t:Tok):(Ba prog w).is (.inr x) (.str x t)=true:=Wq x t
end L2
namespace L2
inductive V where
 | non | bl (b:Bool) | int (i:Int) | str (x:Str) | byt (b:Array UInt8) | flt (b:UInt64) | ref (a:Addr) | ty (n:String)
 deriving DecidableEq
def Aw:V→Value→Prop
 | .non,u=>u=Value.none
 | .bl b,u=>u=Value.bool b
 | .int i,u=>∃t,u=Value.int i t
 | .str x,u=>∃t,u=Value.str x t
 | .byt b,u=>∃t,u=Value.bytes b t
 | .flt b,u=>∃t,u=Value.float b t
 | .ref a,u=>u=Value.ref a
 | .ty n,u=>u=Value.type n
abbrev Ax:List V→List Value→Prop:=Paired Aw
theorem Ax.length{xs:List V}{us:List Value}(r:Ax xs us):xs.length=us.length:=Paired.length r
theorem Ax.get:∀{xs:List V} {us:List Value} {i:Nat} {x:V},Ax xs us→xs[i]?=some x→∃u,us[i]?=some u∧Aw x u
 | _,_,_,_,.nil,e=>by simp at e
 | _,_,0,_,.cons r _,e=>by simp at e;subst e;exact ⟨_,rfl,r⟩
 | _,_,i+1,x,.cons _ t,e=>by
  obtain ⟨u,h1,h2⟩:=Ax.get (i:=i) (x:=x) t (by simpa using e);exact ⟨u,by simpa using h1,h2⟩
theorem Ax.set{x:V}{u:Value}(r:Aw x u):∀{xs:List V} {us:List Value} (i:Nat),Ax xs us→Ax (xs.set i x) (us.set i u)
 | _,_,_,.nil=> .nil
 | _,_,0,.cons _ t=> .cons r t
 | _,_,i+1,.cons q t=> .cons q (Ax.set r i t)
theorem Ax.append:∀{xs ys:List V} {us ws:List Value},Ax xs us→Ax ys ws→Ax (xs++ys) (us++ws)
 | _,_,_,_,.nil,s=>s
 | _,_,_,_,.cons r t,s=> .cons r (Ax.append t s)
theorem Ax.take:∀{xs:List V} {us:List Value} (n:Nat),Ax xs us→Ax (xs.take n) (us.take n)
 | _,_,0,_=> .nil
 | _,_,_+1,.nil=> .nil
 | _,_,n+1,.cons r t=> .cons r (Ax.take n t)
theorem Ax.drop:∀{xs:List V} {us:List Value} (n:Nat),Ax xs us→Ax (xs.drop n) (us.drop n)
 | _,_,0,r=>r
 | _,_,_+1,.nil=> .nil
 | _,_,n+1,.cons _ t=>Ax.drop n t
def Gb:Option V→Option Value→Prop
 | some v,some u=>Aw v u
 | none,none=>True
 | _,_=>False
def KV{κ:Type}:List (κ×V)→List (κ×Value)→Prop:=Paired fun (p:κ×V) (q:κ×Value)=>p.1=q.1∧Aw p.2 q.2
def kV:Key→V
 | .inl i=> .int i
 | .inr x=> .str x
inductive HO where
 | lst (xs:List V)
 | tup (xs:List V)
 | dK (kvs:List (Key×V)) | dT (kvs:List (List Key×V))
 | set (S:Int→Bool) (n:Nat)
 | ins (C dx:Addr) (fs:List (Str×V))
 | own (x:Addr)
 | xd (fs:List (Str×V))
 | met (f x:Addr)
 | rng (lo hi:Int)
 | frz (o:Obj) (u:HO)
 | tbl (ps:Array Value)
 | ext (φ:Heap→Prop)
abbrev Hp:=Addr→Option HO
def upd(H:Hp)(a:Addr)(o:HO):Hp:=fun b=>if b=a then some o else H b
theorem A3{H:Hp}{a:Addr}{o:HO}:upd H a o a=some o:=by unfold upd;rw [if_pos rfl]
theorem A4{H:Hp}{a b:Addr}{o:HO}(h:b≠a):upd H a o b=H b:=by unfold upd;rw [if_neg h]
theorem P0{H:Hp}{a:Addr}{o u:HO}:upd (upd H a o) a u=upd H a u:=by
 funext b;unfold upd;split <;> rfl
theorem Bp{H:Hp}{a b:Addr}{o u:HO}(h:H a=some o)(h':H b=some u)(d:o≠u):a≠b:=by
 intro e;subst e;rw [h]at h';exact d (FQ h')
theorem A6{H:Hp}{a b:Addr}{o:HO}(h:H a=some o)(h':H b=none):a≠b:=by
 intro e;subst e;rw [h]at h';cases h'
section
variable (P:Program) (w:World)
def Bv(H:Hp)(h:Heap)(a:Addr):HO→Prop
 | .lst xs=>xs.length≤sizeLine∧∃(its:List Value) (n:Nat),Ax xs its∧h.get? a=some {cls:= .type "list",data:= .seq its.toArray n}
 | .tup xs=>xs.length≤sizeLine∧∃its:List Value,Ax xs its∧IsTup h a its.toArray
 | .dK kvs=>kvs.length≤sizeLine∧(a==sysModules)=false∧∃vs,KV kvs vs∧h.DictOf (Ba P w) a vs
 | .dT kvs=>kvs.length≤sizeLine∧(a==sysModules)=false∧∃xs:List (List Key×Addr×Value),
  Paired (fun (p:List Key×V) (q:List Key×Addr×Value)=>p.1=q.1∧H q.2.1=some (.tup (p.1.map kV))∧Aw p.2 q.2.2) kvs xs∧
  ∃o es ep,h.get? a=some o∧o.ExactDict∧o.data= .dict es ep∧es.toList=xs.map (entryOfKey (tupleKind (Ba P w)))∧(xs.map (·.1)).Nodup
 | .set S n=>h.SetOf (intKind P w) a S n
 | .ins C dx fs=>H dx=some (.own a)∧fs.length≤1000∧dx≠a∧h.get? a=some (PySem.W.instObj C dx)∧
  ∃mA,h.Ns1 dx mA∧(∀f,Gb (fs.lookup f) (mA f))∧PySem.Within mA (fs.map (·.1))
 | .own _=>∃o,h.get? a=some o
 | .xd fs=>∃mA,h.Ns1 a mA∧∀f,Gb (fs.lookup f) (mA f)
 | .rng lo hi=>∃t u v,h.get? a=some {cls:= .type "range",data:= .fields #[.int lo t,.int hi u,.int 1 v]}
 | .frz o u=>h.get? a=some o∧Bv H h a u
 | .tbl ps=>h.get? a=some {cls:= .none,data:= .fields ps}
 | .met f x=>h.get? a=some (PySem.W.methodObj (.ref f) (.ref x))
 | .ext φ=>φ h∧(∃o,h.get? a=some o)∧∀h1 h2:Heap,φ h1→(∀o,h1.get? a=some o→h2.get? a=some o)→φ h2
def HOk(H:Hp)(h:Heap):Prop:=∀a o,H a=some o→Bv P w H h a o
end
section
variable {P:Program} {w:World} {H H':Hp} {h h':Heap} {a:Addr} {o:HO}
theorem Bv.lt(x:Bv P w H h a o):a < h.objs.size:=by
 cases o with
 | lst xs=>obtain ⟨_,_,_,_,e⟩:=x;exact Fs e
 | tup xs=>obtain ⟨_,_,_,p⟩:=x;exact p.lt
 | dK kvs=>obtain ⟨_,_,_,_,o,_,_,e,_⟩:=x;exact Fs e
 | dT kvs=>obtain ⟨_,_,_,_,o,_,_,e,_⟩:=x;exact Fs e
 | set S n=>obtain ⟨o,_,_,_,e,_⟩:=x;exact Fs e
 | ins C dx fs=>obtain ⟨_,_,_,e,_⟩:=x;exact Fs e
 | own y=>obtain ⟨_,e⟩:=x;exact Fs e
 | xd fs=>obtain ⟨_,⟨_,_,_,e,_⟩,_⟩:=x;exact Fs e
 | rng lo hi=>obtain ⟨_,_,_,e⟩:=x;exact Fs e
 | frz ob u=>obtain ⟨e,_⟩:=x;exact Fs e
 | tbl ps=>exact Fs (show h.get? a=some _ from x)
 | met f y=>exact Fs (show h.get? a=some _ from x)
 | ext φ=>obtain ⟨_,⟨_,e⟩,_⟩:=x;exact Fs e
theorem Paired.mapP{α β:Type}{F G:α→β→Prop}:∀{l₁:List α} {l₂:List β},Paired F l₁ l₂→(∀a b,F a b→G a b)→Paired G l₁ l₂
 | _,_,.nil,_=> .nil
 | _,_,.cons r t,f=> .cons (f _ _ r) (Paired.mapP t f)
theorem Bv.stay(x:Bv P w H h a o)(k:∀b u,(b=a∨H b=some (.own a))→h.get? b=some u→h'.get? b=some u)
 (ho:∀b,H b=some (.own a)→H' b=some (.own a)) (ht:∀b xs,H b=some (.tup xs)→H' b=some (.tup xs)):Bv P w H' h' a o:=by
 induction o with
 | lst xs=>obtain ⟨z,its,n,r,e⟩:=x;exact ⟨z,its,n,r,k _ _ (.inl rfl) e⟩
 | tup xs=>obtain ⟨z,its,r,ob,e,c⟩:=x;exact ⟨z,its,r,ob,k _ _ (.inl rfl) e,c⟩
 | dK kvs=>obtain ⟨z,y,vs,r,ob,es,ep,e,c⟩:=x;exact ⟨z,y,vs,r,ob,es,ep,k _ _ (.inl rfl) e,c⟩
 | dT kvs=>
  obtain ⟨z,y,xs,r,ob,es,ep,e,c⟩:=x;exact ⟨z,y,xs,Paired.mapP r fun p q z=>⟨z.1,ht _ _ z.2.1,z.2.2⟩,ob,es,ep,k _ _ (.inl rfl) e,c⟩
 | set S n=>obtain ⟨ob,es,ep,t,e,c⟩:=x;exact ⟨ob,es,ep,t,k _ _ (.inl rfl) e,c⟩
 | ins C dx fs=>
  obtain ⟨d,z,ne,e,mA,⟨od,es,ep,e2,c⟩,r⟩:=x;exact ⟨ho _ d,z,ne,k _ _ (.inl rfl) e,mA,⟨od,es,ep,k _ _ (.inr d) e2,c⟩,r⟩
 | own y=>obtain ⟨ob,e⟩:=x;exact ⟨ob,k _ _ (.inl rfl) e⟩
 | xd fs=>obtain ⟨mA,⟨od,es,ep,e,c⟩,r⟩:=x;exact ⟨mA,⟨od,es,ep,k _ _ (.inl rfl) e,c⟩,r⟩
 | rng lo hi=>obtain ⟨t,u,v,e⟩:=x;exact ⟨t,u,v,k _ _ (.inl rfl) e⟩
 | frz ob u ih=>obtain ⟨e,q⟩:=x;exact ⟨k _ _ (.inl rfl) e,ih q⟩
 | tbl ps=>
  have e:h.get? a=some {cls:= .none,data:= .fields ps}:=x;show h'.get? a=some {cls:= .none,data:= .fields ps};exact k a _ (.inl rfl) e
 | met f y=>
  have e:h.get? a=some (PySem.W.methodObj (.ref f) (.ref y)):=x;show h'.get? a=some (PySem.W.methodObj (.ref f) (.ref y));exact k a _ (.inl rfl) e
 | ext φ=>obtain ⟨p,⟨o,e⟩,st⟩:=x;exact ⟨st _ _ p fun o q=>k _ _ (.inl rfl) q,⟨o,k _ _ (.inl rfl) e⟩,st⟩
theorem HOk.lt(x:HOk P w H h)(e:H a=some o):a < h.objs.size:=(x a o e).lt
theorem HOk.fresh(x:HOk P w H h)(e:h.objs.size≤a):H a=none:=by
 cases q:H a with
 | none=>rfl
 | some u=>exact absurd (Fw (x.lt q) e) (Hw _)
theorem HOk.kept(x:HOk P w H h)(k:∀b u,h.get? b=some u→h'.get? b=some u):HOk P w H h':=fun a o e=>
 (x a o e).stay (fun b u _ q=>k b u q) (fun _ q=>q) fun _ _ q=>q
theorem HOk.laid(x:HOk P w H h)(k:∀b u,h.get? b=some u→h'.get? b=some u)(hp:h.objs.size≤a)(new:Bv P w (upd H a o) h' a o):HOk P w (upd H a o) h':=fun b u e=>by
 have hn:=x.fresh hp
 by_cases hb:b=a
 · subst hb;rw [A3]at e;cases e;exact new
 · rw [A4 hb]at e
   exact (x b u e).stay (fun c v _ q=>k c v q) (fun c q=>by rw [A4 (A6 q hn)];exact q) fun c xs q=>by rw [A4 (A6 q hn)];exact q
end
def Rd(H:Hp)(a:Addr)(u:HO):Prop:=H a=some u∨∃o,H a=some (.frz o u)
theorem Rd.ok{P:Program}{w:World}{H:Hp}{h:Heap}{a:Addr}{u:HO}(r:Rd H a u)(x:HOk P w H h):Bv P w H h a u:=by
 rcases r with r | ⟨o,r⟩
 · exact x a u r
 · obtain ⟨_,q⟩:=x a _ r
   exact q
def Mut:Option HO→Prop
 | some (.lst _)=>True
 | some (.dK _)=>True
 | some (.dT _)=>True
 | some (.set _ _)=>True
 | some (.ins _ _ _)=>True
 | some (.ext _)=>True
 | _=>False
section
variable {P:Program} {w:World} {H:Hp} {h h':Heap} {x e:Addr} {o':HO}
theorem HOk.write(ok:HOk P w H h)(mu:Mut (H x))(he:e=x∨H e=some (.own x))(k:∀b u,b≠e→h.get? b=some u→h'.get? b=some u)(heo:∃u,h'.get? e=some u)
 (new:Bv P w (upd H x o') h' x o'):HOk P w (upd H x o') h':=fun b u q=>by
 have nown:∀c y,H c=some (.own y)→c≠x:=fun c y r z=>by subst z;rw [r]at mu;exact mu
 have ntup:∀c xs,H c=some (.tup xs)→c≠x:=fun c xs r z=>by subst z;rw [r]at mu;exact mu
 by_cases hb:b=x
 · subst hb;rw [A3]at q;cases q;exact new
 · rw [A4 hb]at q
   by_cases hbe:b=e
   · have q':H b=some (.own x):=by
      rcases he with z | z
      · exact absurd (hbe.trans z) hb
      · rw [hbe];exact z
     rw [q]at q';cases q';obtain ⟨v,hv⟩:=heo;exact ⟨v,by rw [hbe];exact hv⟩
   · refine (ok b u q).stay (fun c v hc r=>k c v ?_ r) (fun c r=>by rw [A4 (nown c b r)];exact r) fun c xs r=>by rw [A4 (ntup c xs r)];exact r
     rcases hc with rfl | hc
     · exact hbe
     · rintro rfl
       rcases he with z | z
       · exact nown c b hc z
       · rw [hc]at z;cases z;exact hb rfl
end
structure Un(fs ex:List Addr)(H H':Hp)(h h':Heap):Prop where
 keep:∀b o,h.get? b=some o→H b=none→b∉fs→b∉ex→h'.get? b=some o
 slot:∀b o,h.get? b=some o→H b=none→b∈fs→b∉ex→∃sl,h'.get? b=some {o with slots:=sl}
 free:∀b o,h.get? b=some o→H b=none→b∉ex→H' b=none
 there:∀b o,h.get? b=some o→b∉ex→∃o',h'.get? b=some o'
 tups:∀b xs,H b=some (.tup xs)→H' b=some (.tup xs)
 frzs:∀b o u,H b=some (.frz o u)→H' b=some (.frz o u)
 tbls:∀b ps,H b=some (.tbl ps)→∃more,H' b=some (.tbl (ps++more))
section
variable {fs fs' ex ex':List Addr} {H H1 H2:Hp} {h h1 h2 h':Heap} {a x e:Addr} {o:HO}
theorem Un.any(u:Un fs ex H H1 h h1){b:Addr}{ob:Obj}(q:h.get? b=some ob)(n:H b=none)(hx:b∉ex):∃sl,h1.get? b=some {ob with slots:=sl}:=by
 by_cases hb:b∈fs
 · exact u.slot b ob q n hb hx
 · exact ⟨ob.slots,u.keep b ob q n hb hx⟩
theorem Un.kept(k:∀b u,h.get? b=some u→h'.get? b=some u):Un fs ex H H h h':=
 ⟨fun b ob q _ _ _=>k b ob q,fun b ob q _ _ _=>⟨ob.slots,k b ob q⟩,fun _ _ _ n _=>n,fun b ob q _=>⟨ob,k b ob q⟩,fun _ _ q=>q,fun _ _ _ q=>q,fun _ ps q=>⟨#[],by rw [q];simp⟩⟩
theorem Un.refl:Un fs ex H H h h:=Un.kept fun _ _ q=>q
theorem Un.laid(k:∀b u,h.get? b=some u→h'.get? b=some u)(hp:h.objs.size≤a)(hn:H a=none):Un fs ex H (upd H a o) h h' where
 keep:=fun b u q _ _ _=>k b u q
 slot:=fun b u q _ _ _=>⟨u.slots,k b u q⟩
 free:=fun b u q n _=>by rw [A4 (FF (Fw (Fs q) hp))];exact n
 there:=fun b u q _=>⟨u,k b u q⟩
 tups:=fun b xs q=>by rw [A4 (A6 q hn)];exact q
 frzs:=fun b u xs q=>by rw [A4 (A6 q hn)];exact q
 tbls:=fun b ps q=>⟨#[],by rw [A4 (A6 q hn),q];simp⟩
theorem Un.write(mu:Mut (H x))(he:e=x∨H e=some (.own x))(k:∀b u,b≠e→h.get? b=some u→h'.get? b=some u)(heo:∃u,h'.get? e=some u):Un fs ex H (upd H x o) h h':=by
 have hx:∀b,H b=none→b≠x:=fun b n z=>by subst z;rw [n]at mu;exact mu
 have hb:∀b,H b=none→b≠e:=fun b n z=>by
  subst z;rcases he with r | r
  · exact hx b n r
  · rw [n]at r;cases r
 have hm:∀b u,H b=some u→¬Mut (some u)→b≠x:=fun b u q nm z=>by subst z;rw [q]at mu;exact nm mu
 refine ⟨fun b u q n _ _=>k b u (hb b n) q,fun b u q n _ _=>⟨u.slots,k b u (hb b n) q⟩,fun b u q n _=>by rw [A4 (hx b n)];exact n,fun b u q _=>?_,
  fun b xs q=>by rw [A4 (hm b _ q fun z=>z)];exact q,fun b u xs q=>by rw [A4 (hm b _ q fun z=>z)];exact q,fun b ps q=>⟨#[],by rw [A4 (hm b _ q fun z=>z),q];simp⟩⟩
 by_cases hbe:b=e
 · subst hbe;exact heo
 · exact ⟨u,k b u hbe q⟩
end
def trk(h:Heap)(H:Hp):List Addr:=(List.range h.objs.size).filter fun a=>(H a).isSome
def P2(h:Heap)(H:Hp):Heap:=PySem.W.hideAll h (trk h H)
theorem Wr(h:Heap)(H:Hp):(P2 h H).objs.size=h.objs.size:=PySem.W.hideAll_size _ _
theorem Xw{h:Heap}{H:Hp}{b:Addr}{o:Obj}(e:h.get? b=some o)(n:H b=none):(P2 h H).get? b=some o:=
 PySem.W.hideAll_get _ e fun hm=>by
  have q:(H b).isSome=true:=(HD.mp hm).2;rw [n]at q;simp at q
theorem J2j{h:Heap}{H:Hp}{b:Addr}{o:Obj}(e:(P2 h H).get? b=some o):h.get? b=some o∧H b=none:=by
 have e':h.get? b=some o:=PySem.W.of_hideAll (trk h H) e;refine ⟨e',?_⟩
 cases q:H b with
 | none=>rfl
 | some x=>
  have hm:b∈trk h H:=HD.mpr ⟨Hz.mpr (Fs e'),by simp [q]⟩;have z:(P2 h H).get? b=none:=PySem.W.hideAll_none (trk h H) hm;rw [z]at e;cases e
def J2k(g h:Heap)(L:Addr):List (Addr×Obj):=(List.range h.objs.size).filterMap fun a=>if a=L∨(g.get? a).isSome=true then none else (h.get? a).map fun o=>(a,o)
def rest(g h:Heap)(L d:Addr):List (Addr×Obj):=(J2k g h L).filter fun p=>decide (p.1≠d)
end L2
namespace L2
structure Mod(K:PySem.W.Frag)(mg:Str→Option Value)(base:Heap):Prop where
 kin:K.In base
 glob:base.Ns mainGlobals mg
 blt:∃mb,base.Ns builtinsNs mb∧∀x:Str,x≠"__name__"→mb x=bootBuiltins x
 nolimit:base.NoLimit
structure Cx where
 prog:Program
 w:World
 K:PySem.W.Frag
 mg:Str→Option Value
 base:Heap
 A:Around
 N:List Str
 s₀:Shared
 H₀:Hp
 env:Env
 outer:List Env
 stack:List Env
 ex:List Addr
 fn:Str→Bool
 calm:Bool
 pn:List (Addr×Obj)
 xe:Value→Shared→Prop
def frs(l:List Env):List Addr:=l.filterMap (·.frame)
abbrev Cx.fs(X:Cx):List Addr:=frs X.outer
def Vis(sc:Scope)(x:Str):Prop:=sc.names.lookup x=some .local∨sc.names.lookup x=some .cell∨sc.names.lookup x=some .free
def Loc(sc:Scope)(x:Str):Prop:=sc.names.lookup x=some .local∨sc.names.lookup x=some .cell
def J8b(env:Env)(h:Heap)(m:Str→Option Value)(x:Str)(u:Value):Prop:=
 (env.kindOf x=some .local∧m x=some u)∨((env.kindOf x=some .cell∨env.kindOf x=some .free)∧∃c,env.cells.lookup x=some c∧h.IsCell c (some u))
structure Cx.Ok(X:Cx):Prop where
 mod:Mod X.K X.mg X.base
 kind:X.env.scope.kind= .function
 glob:X.env.globals=mainGlobals
 blt:X.env.builtins=builtinsNs
 above:X.s₀.heap.objs.size≤X.env.locals
 inj:∀x y c,X.env.cells.lookup x=some c→X.env.cells.lookup y=some c→x=y
 has:∀x,(X.env.kindOf x=some .cell∨X.env.kindOf x=some .free)→∃c,X.env.cells.lookup x=some c
 cab:∀x c,X.fn x=true→X.env.cells.lookup x=some c→X.s₀.heap.objs.size≤c
 hd:X.calm=true→X.A.handled=none
 frames:X.A.frames=some X.stack
 stk:X.stack=X.outer∨(X.stack=X.env::X.outer∧X.env.frame=some X.env.locals)
 exf:∀b∈X.ex,b≠X.env.locals∧∀x c,X.env.cells.lookup x=some c→c≠b
 bs:∀b o,X.base.get? b=some o→X.s₀.heap.get? b=some o∧X.H₀ b=none
 bsz:X.base.objs.size≤X.s₀.heap.objs.size
 noex:∀b o,X.base.get? b=some o→b∉X.ex
 exfs:∀b∈X.ex,b∉X.fs
 funs:X.s₀.heap.FunFrames X.base X.outer
 frf:∀b∈X.fs,X.H₀ b=none
structure Inv(X:Cx)(pins:List (Addr×Obj))(σ:List (Option V))(H:Hp)(s:Shared):Prop where
 ok:X.Ok
 os:s.os=X.s₀.os
 bare:AllBare s.gens
 base:Un X.fs X.ex X.H₀ H X.s₀.heap s.heap
 loc:∃m,s.heap.Ns X.env.locals m∧∀(i:Nat) (x:Str) (v:V),X.N[i]?=some x→σ[i]?=some (some v)→Vis X.env.scope x→∃u,Aw v u∧J8b X.env s.heap m x u
 cell:∀x c,X.env.cells.lookup x=some c→∃v,s.heap.IsCell c v
 free:H X.env.locals=none
 freeC:∀x c,X.env.cells.lookup x=some c→H c=none
 pin:∀p∈X.pn++pins,s.heap.get? p.1=some p.2∧H p.1=none∧p.1≠X.env.locals∧p.1∉X.fs∧∀v,p.2.data≠ .cell v
 hok:HOk X.prog X.w H s.heap
 len:σ.length=X.N.length
section
variable {X:Cx} {pins:List (Addr×Obj)} {σ:List (Option V)} {H H':Hp} {s:Shared} {h':Heap}
theorem Cx.Ok.nofr(ok:X.Ok){b:Addr}{o:Obj}(e:X.base.get? b=some o):b∉X.fs:=fun hb=>by
 have:=(ok.funs.mem hb).1;rw [e]at this;cases this
theorem Inv.bs(I:Inv X pins σ H s):∀b o,X.base.get? b=some o→s.heap.get? b=some o∧H b=none:=fun b o e=>
 ⟨I.base.keep b o (I.ok.bs b o e).1 (I.ok.bs b o e).2 (I.ok.nofr e) (I.ok.noex b o e),I.base.free b o (I.ok.bs b o e).1 (I.ok.bs b o e).2 (I.ok.noex b o e)⟩
theorem Inv.bk(I:Inv X pins σ H s):∀b o,X.base.get? b=some o→s.heap.get? b=some o:=fun b o e=>(I.bs b o e).1
theorem Inv.mod(I:Inv X pins σ H s):Mod X.K X.mg X.base:=I.ok.mod
theorem Inv.kIn(I:Inv X pins σ H s):X.K.In s.heap:=I.ok.mod.kin.keeps I.bk
theorem Inv.lt(I:Inv X pins σ H s):X.env.locals < s.heap.objs.size:=let ⟨_,hn,_⟩:=I.loc;hn.lt
theorem Inv.sz(I:Inv X pins σ H s):X.s₀.heap.objs.size≤s.heap.objs.size:=FA I.ok.above (Nat.le_of_lt I.lt)
theorem Inv.nofs(I:Inv X pins σ H s){a:Addr}(h:s.heap.objs.size≤a):a∉X.fs:=fun hb=>by
 obtain ⟨_,o,ho,_⟩:=I.ok.funs.mem hb;exact absurd (Fw (Fs ho) (FA I.sz h)) (Hw _)
theorem Inv.cne(I:Inv X pins σ H s):∀x c,X.env.cells.lookup x=some c→c≠X.env.locals:=fun x c e z=>by
 obtain ⟨v,o,ho,hd⟩:=I.cell x c e;obtain ⟨m,⟨o',es,ep,ho',hd',_⟩,_⟩:=I.loc;rw [z,ho']at ho;cases ho;rw [hd']at hd;cases hd
theorem Inv.funs(I:Inv X pins σ H s):s.heap.FunFrames X.base X.outer:=by
 have all:∀(l:List Env),(∀b∈frs l,b∈X.fs)→X.s₀.heap.FunFrames X.base l→s.heap.FunFrames X.base l:=by
  intro l
  induction l with
  | nil=>intro _ _;trivial
  | cons env r ih=>
   intro hs hl;obtain ⟨hk,⟨L,o,hf,hn,ho,hd⟩,hr⟩:=hl;have hL:L∈X.fs:=hs L (by unfold frs;rw [RE,hf];exact Fj);obtain ⟨sl,e⟩:=I.base.slot L o ho (I.ok.frf L hL) hL fun z=>I.ok.exfs L z hL;exact ⟨hk,⟨L,_,hf,hn,e,hd⟩,ih (fun b hb=>hs b (by unfold frs;rw [RE,hf];exact Fd _ hb)) hr⟩
 exact all X.outer (fun _ hb=>hb) I.ok.funs
theorem Inv.stack(I:Inv X pins σ H s):s.heap.FunFrames X.base X.stack:=by
 rcases I.ok.stk with e | ⟨e,hf⟩
 · rw [e];exact I.funs
 · rw [e]
   obtain ⟨m,hn,_⟩:=I.loc;refine .cons (by rw [I.ok.kind];decide) hf hn ?_ I.funs;exact Heap.get?_none_of_le (FA I.ok.bsz I.ok.above)
theorem Inv.stkSub(I:Inv X pins σ H s):∀b∈frs X.stack,b∈X.env.locals::X.fs:=fun b hb=>by
 rcases I.ok.stk with e | ⟨e,hf⟩
 · rw [e]at hb;exact Fd _ hb
 · rw [e]at hb
   unfold frs at hb;rw [RE,hf]at hb;exact hb
theorem Inv.stkFree(I:Inv X pins σ H s):∀b∈frs X.stack,H b=none:=fun b hb=>by
 rcases Fh.mp (I.stkSub b hb) with e | hb
 · rw [e];exact I.free
 · obtain ⟨_,o,ho,_⟩:=I.ok.funs.mem hb
   exact I.base.free b o ho (I.ok.frf b hb) fun z=>I.ok.exfs b z hb
theorem Inv.step{g':Array GenState}{t':Nat}{d':Drawn}{ch:List Addr}(I:Inv X pins σ H s)
 (hch:∀b∈ch,(b∈X.ex∨X.s₀.heap.objs.size≤b)∧b≠X.env.locals∧(∀x c,X.env.cells.lookup x=some c→c≠b)∧∀p∈X.pn++pins,p.1≠b)
 (keep:∀b o,b≠X.env.locals→b∉X.fs→b∉ch→s.heap.get? b=some o→H b=none→h'.get? b=some o)
 (slot:∀b o,b≠X.env.locals→b∈X.fs→b∉ch→s.heap.get? b=some o→H b=none→∃sl,h'.get? b=some {o with slots:=sl}) (free:∀b o,b∉ch→s.heap.get? b=some o→H b=none→H' b=none)
 (there:∀b o,b∉ch→s.heap.get? b=some o→∃o',h'.get? b=some o')
 (tups:∀b xs,H b=some (.tup xs)→H' b=some (.tup xs)) (frzs:∀b o u,H b=some (.frz o u)→H' b=some (.frz o u)) (tbls:∀b ps,H b=some (.tbl ps)→∃more,H' b=some (.tbl (ps++more)))
 (ns:∀m,s.heap.Ns X.env.locals m→h'.Ns X.env.locals m) (hok:HOk X.prog X.w H' h') (hg:AllBare g'):
 Inv X pins σ H' {s with heap:=h',gens:=g',drawn:=d',toks:=t'}:=by
 have neL:∀b o,X.s₀.heap.get? b=some o→b≠X.env.locals:=fun b o e=>FF (Fw (Fs e) I.ok.above)
 have neC:∀b o,X.s₀.heap.get? b=some o→b∉X.ex→b∉ch:=fun b o e hx hb=>by
  rcases (hch b hb).1 with z | z
  · exact hx z
  · exact absurd (Fw (Fs e) z) (Hw _)
 have cellK:∀x c,X.env.cells.lookup x=some c→∀v,s.heap.IsCell c v→h'.IsCell c v:=fun x c e v ⟨o,ho,hd⟩=>by
  have nch:c∉ch:=fun z=>(hch c z).2.2.1 x c e rfl
  by_cases hc:c∈X.fs
  · obtain ⟨sl,q⟩:=slot c o (I.cne x c e) hc nch ho (I.freeC x c e)
    exact ⟨_,q,hd⟩
  · exact ⟨o,keep c o (I.cne x c e) hc nch ho (I.freeC x c e),hd⟩
 refine ⟨I.ok,I.os,hg,⟨fun b o e n hb hx=>?_,fun b o e n hb hx=>?_,fun b o e n hx=>?_,fun b o e hx=>?_,fun b xs e=>tups b xs (I.base.tups b xs e),fun b o xs e=>frzs b o xs (I.base.frzs b o xs e),fun b ps e=>?_⟩,?_,fun x c e=>?_,?_,fun x c e=>?_,fun p hp=>?_,hok,I.len⟩
 · exact keep b o (neL b o e) hb (neC b o e hx) (I.base.keep b o e n hb hx) (I.base.free b o e n hx)
 · obtain ⟨sl,e1⟩:=I.base.slot b o e n hb hx
   obtain ⟨sl',e2⟩:=slot b _ (neL b o e) hb (neC b o e hx) e1 (I.base.free b o e n hx);exact ⟨sl',e2⟩
 · obtain ⟨o',e1⟩:=I.base.there b o e hx
   exact free b o' (neC b o e hx) e1 (I.base.free b o e n hx)
 · obtain ⟨o',e1⟩:=I.base.there b o e hx
   exact there b o' (neC b o e hx) e1
 · obtain ⟨m1,e1⟩:=I.base.tbls b ps e
   obtain ⟨m2,e2⟩:=tbls b _ e1;exact ⟨m1++m2,by rw [e2,Array.append_assoc]⟩
 · obtain ⟨m,hn,hl⟩:=I.loc
   refine ⟨m,ns m hn,fun i x v e1 e2 e3=>?_⟩;obtain ⟨u,r,l⟩:=hl i x v e1 e2 e3;refine ⟨u,r,?_⟩;rcases l with l | ⟨k,c,e,z⟩
   · exact .inl l
   · exact .inr ⟨k,c,e,cellK x c e _ z⟩
 · obtain ⟨v,z⟩:=I.cell x c e
   exact ⟨v,cellK x c e v z⟩
 · obtain ⟨m,⟨o,_,_,ho,_⟩,_⟩:=I.loc
   exact free _ o (fun z=>(hch _ z).2.1 rfl) ho I.free
 · obtain ⟨v,o,ho,hd⟩:=I.cell x c e
   exact free c o (fun z=>(hch c z).2.2.1 x c e rfl) ho (I.freeC x c e)
 · obtain ⟨e,n,ne,nf,d⟩:=I.pin p hp
   have nch:p.1∉ch:=fun z=>(hch p.1 z).2.2.2 p hp rfl;exact ⟨keep p.1 p.2 ne nf nch e n,free p.1 p.2 nch e n,ne,nf,d⟩
theorem Inv.un{t':Nat}(I:Inv X pins σ H s)(u:Un X.fs [] H H' s.heap h')(hok:HOk X.prog X.w H' h'):Inv X pins σ H' {s with heap:=h',toks:=t'}:=by
 obtain ⟨m,⟨o,es,ep,ho,r⟩,_⟩:=id I.loc;obtain ⟨sl,hL⟩:=u.any ho I.free (by simp)
 exact I.step (g':=s.gens) (d':=s.drawn) (ch:=[]) (fun _ z=>nomatch z) (fun b o _ hb _ e n=>u.keep b o e n hb (by simp)) (fun b o _ hb _ e n=>u.slot b o e n hb (by simp)) (fun b o _ e n=>u.free b o e n (by simp)) (fun b o _ e=>u.there b o e (by simp)) u.tups u.frzs u.tbls (fun m' hm=>by
  obtain ⟨o',es',ep',ho',r'⟩:=hm;rw [ho]at ho';cases ho'
  exact ⟨_,es',ep',hL,r'⟩) hok I.bare
theorem Inv.call{g':Array GenState}{t':Nat}{d':Drawn}{ch:List Addr}(I:Inv X pins σ H s)(u:Un (frs X.stack) ch H H' s.heap h')(hok:HOk X.prog X.w H' h')(hg:AllBare g')
 (hch:∀b∈ch,(b∈X.ex∨X.s₀.heap.objs.size≤b)∧b≠X.env.locals∧(∀x c,X.env.cells.lookup x=some c→c≠b)∧∀p∈X.pn++pins,p.1≠b):
 Inv X pins σ H' {s with heap:=h',gens:=g',drawn:=d',toks:=t'}:=by
 obtain ⟨m,⟨o,es,ep,ho,r⟩,_⟩:=id I.loc;obtain ⟨sl,hL⟩:=u.any ho I.free fun z=>(hch _ z).2.1 rfl
 exact I.step (ch:=ch) hch (fun b o hL hb hc e n=>u.keep b o e n (fun z=>(Fh.mp (I.stkSub b z)).elim hL hb) hc) (fun b o _ _ hc e n=>u.any e n hc) (fun b o hc e n=>u.free b o e n hc) (fun b o hc e=>u.there b o e hc) u.tups u.frzs u.tbls (fun m' hm=>by
  obtain ⟨o',es',ep',ho',r'⟩:=hm;rw [ho]at ho';cases ho'
  exact ⟨_,es',ep',hL,r'⟩) hok hg
theorem Inv.turned{t':Nat}{it:Addr}(I:Inv X pins σ H s)(k:∀b o,b≠it→s.heap.get? b=some o→h'.get? b=some o)(hn:H it=none)(hL:it≠X.env.locals)
 (h1:it∈X.ex∨X.s₀.heap.objs.size≤it) (h2:∀x c,X.env.cells.lookup x=some c→c≠it) (h3:∀p∈X.pn++pins,p.1≠it):Inv X pins σ H {s with heap:=h',toks:=t'}:=by
 have nit:∀b u,H b=some u→b≠it:=fun b u e z=>by rw [z,hn]at e;cases e
 refine I.step (g':=s.gens) (d':=s.drawn) (ch:=[it]) (fun b hb=>?_) (fun b o _ _ hc e _=>k b o (fun z=>hc (by simp [z])) e) (fun b o _ _ hc e _=>⟨o.slots,k b o (fun z=>hc (by simp [z])) e⟩) (fun _ _ _ _ n=>n)
  (fun b o hc e=>⟨o,k b o (fun z=>hc (by simp [z])) e⟩) (fun _ _ e=>e) (fun _ _ _ e=>e) (fun b ps e=>⟨#[],by rw [e];simp⟩) (fun m hm=>?_) (fun b u e=>?_) I.bare
 · have e:b=it:=by simpa using hb
   subst e;exact ⟨h1,hL,h2,h3⟩
 · obtain ⟨o,es,ep,ho,r⟩:=hm
   exact ⟨o,es,ep,k _ o (Ne.symm hL) ho,r⟩
 · refine (I.hok b u e).stay (fun c v hc q=>k c v ?_ q) (fun _ q=>q) fun _ _ q=>q
   rcases hc with z | z
   · rw [z];exact nit b u e
   · exact nit c _ z
theorem Inv.tok(I:Inv X pins σ H s)(t:Nat):Inv X pins σ H {s with toks:=t}:=I.un (h':=s.heap) (t':=t) Un.refl I.hok
theorem Inv.kept{t':Nat}(I:Inv X pins σ H s)(k:∀b u,s.heap.get? b=some u→h'.get? b=some u):Inv X pins σ H {s with heap:=h',toks:=t'}:=I.un (Un.kept k) (I.hok.kept k)
theorem Inv.laid{a:Addr}{o:HO}{t':Nat}(I:Inv X pins σ H s)(k:∀b u,s.heap.get? b=some u→h'.get? b=some u)(hp:s.heap.objs.size≤a)(new:Bv X.prog X.w (upd H a o) h' a o):
 Inv X pins σ (upd H a o) {s with heap:=h',toks:=t'}:=I.un (Un.laid k hp (I.hok.fresh hp)) (I.hok.laid k hp new)
theorem Inv.write{x e:Addr}{o:HO}{t':Nat}(I:Inv X pins σ H s)(mu:Mut (H x))(he:e=x∨H e=some (.own x))(k:∀b u,b≠e→s.heap.get? b=some u→h'.get? b=some u)(heo:∃u,h'.get? e=some u)
 (new:Bv X.prog X.w (upd H x o) h' x o):Inv X pins σ (upd H x o) {s with heap:=h',toks:=t'}:=I.un (Un.write mu he k heo) (I.hok.write mu he k heo new)
theorem Inv.weak{σ':List (Option V)}(I:Inv X pins σ H s)(hl:σ'.length=σ.length)(w:∀(i:Nat) v,σ'[i]?=some (some v)→σ[i]?=some (some v)):Inv X pins σ' H s:=
 ⟨I.ok,I.os,I.bare,I.base,let ⟨m,hn,hl'⟩:=I.loc;⟨m,hn,fun i x v e1 e2 e3=>hl' i x v e1 (w i v e2) e3⟩,I.cell,I.free,I.freeC,I.pin,I.hok,hl.trans I.len⟩
theorem Inv.pins_of{pins':List (Addr×Obj)}(I:Inv X pins σ H s)(h:∀p∈pins',s.heap.get? p.1=some p.2∧H p.1=none∧p.1≠X.env.locals∧p.1∉X.fs∧∀v,p.2.data≠ .cell v):Inv X pins' σ H s:=
 ⟨I.ok,I.os,I.bare,I.base,I.loc,I.cell,I.free,I.freeC,fun p hp=>(Fq.mp hp).elim (fun z=>I.pin p (FJ _ z)) (h p),I.hok,I.len⟩
theorem Q2{N:List Str}(hN:N.Nodup){i j:Nat}{x:Str}(a:N[i]?=some x)(b:N[j]?=some x):i=j:=by
 obtain ⟨h1,e1⟩:=Fc.mp a;obtain ⟨h2,e2⟩:=Fc.mp b;exact (List.getElem_inj hN).mp (e1.trans e2.symm)
theorem Np{M:Model}{A:Around}{E:Value→Shared→Prop}{i:Nat}{x:Str}{v:V}{u:Value}{Q:Unit→Shared→Prop}(I:Inv X pins σ H s)(hN:X.N.Nodup)(hi:X.N[i]?=some x)(hx:Loc X.env.scope x)(r:Aw v u)
 (h:∀s',Inv X pins (σ.set i (some v)) H s'→(∃a,Heap.SameBut a s.heap s'.heap∧(a=X.env.locals∨X.env.cells.lookup x=some a))→Q () s') (hf:X.fn x=true∨X.env.scope.names.lookup x=some .local:=by first | exact .inl rfl | exact .inr rfl | assumption):wpAny M A (storeName X.env x u) Q E s:=by
 obtain ⟨m,hn,hl⟩:=id I.loc
 have hcls:(X.env.scope.kind== .class || (X.env.scope.kind== .module && X.env.locals !=X.env.globals))=false:=by rw [I.ok.kind];rfl
 have hiσ:i < σ.length:=by rw [I.len];exact (Fc.mp hi).1
 have cne:=I.cne
 have tracked:∀{a:Addr} {h':Heap},(∃o,s.heap.get? a=some o∧H a=none)→Heap.SameBut a s.heap h'→HOk X.prog X.w H h':=fun {a h'} ha hs b ob e=>by
  obtain ⟨_,_,hfree⟩:=ha;refine (I.hok b ob e).stay (fun c w' hc q=>(hs.2 c ?_).trans q) (fun _ q=>q) fun _ _ q=>q;rintro rfl;rcases hc with rfl | hc
  · rw [hfree]at e;cases e
  · rw [hfree]at hc;cases hc
 rcases hx with hk | hk
 · refine wpAny_storeName_local hk hn (fun h' hn' hs=>?_) hcls
   obtain ⟨oL,_,_,hoL,_⟩:=id hn;refine h _ ⟨I.ok,I.os,I.bare,⟨fun b o e n hb hx=>?_,fun b o e n hb hx=>?_,I.base.free,fun b o e hx=>?_,I.base.tups,I.base.frzs,I.base.tbls⟩,⟨_,hn',fun j y v' e1 e2 e3=>?_⟩,fun y c e=>?_,I.free,I.freeC,fun p hp=>?_,tracked ⟨oL,hoL,I.free⟩ hs,by simpa using I.len⟩ ⟨_,hs,.inl rfl⟩
   · exact (hs.2 b (FF (Fw (Fs e) I.ok.above))).trans (I.base.keep b o e n hb hx)
   · obtain ⟨sl,e1⟩:=I.base.slot b o e n hb hx
     exact ⟨sl,(hs.2 b (FF (Fw (Fs e) I.ok.above))).trans e1⟩
   · obtain ⟨o',e1⟩:=I.base.there b o e hx
     exact ⟨o',(hs.2 b (FF (Fw (Fs e) I.ok.above))).trans e1⟩
   · by_cases hj:j=i
     · subst hj
       rw [hi]at e1;cases e1;rw [List.getElem?_set_self hiσ]at e2;cases e2;exact ⟨u,r,.inl ⟨hk,by simp⟩⟩
     · rw [List.getElem?_set_ne (Ne.symm hj)]at e2
       obtain ⟨u',r',q⟩:=hl j y v' e1 e2 e3;refine ⟨u',r',?_⟩;rcases q with ⟨k,e⟩ | ⟨k,c,e,z⟩
       · refine .inl ⟨k,?_⟩
         have:y≠x:=fun e=>hj (Q2 hN e1 (e▸hi));simp [this,e]
       · exact .inr ⟨k,c,e,z.sameBut hs (cne y c e)⟩
   · obtain ⟨w',z⟩:=I.cell y c e
     exact ⟨w',z.sameBut hs (cne y c e)⟩
   · obtain ⟨e,n,ne,nf,d⟩:=I.pin p hp
     exact ⟨(hs.2 p.1 ne).trans e,n,ne,nf,d⟩
 · have hfn:X.fn x=true:=by
    rcases hf with z | z
    · exact z
    · rw [z]at hk;cases hk
   obtain ⟨c,hc⟩:=I.ok.has x (.inl hk);obtain ⟨w',z⟩:=I.cell x c hc;refine wpAny_storeName_cell I.ok.kind hk hc z (fun h' hc' hs=>?_);obtain ⟨oc,hoc,hocd⟩:=id z;refine h {s with heap:=h'} ⟨I.ok,I.os,I.bare,⟨fun b o e n hb hx=>?_,fun b o e n hb hx=>?_,I.base.free,fun b o e hx=>?_,I.base.tups,I.base.frzs,I.base.tbls⟩,⟨m,hn.sameBut hs (Ne.symm (cne x c hc)),fun j y v' e1 e2 e3=>?_⟩,fun y c' e=>?_,I.free,I.freeC,fun p hp=>?_,tracked ⟨oc,hoc,I.freeC x c hc⟩ hs,by simpa using I.len⟩ ⟨c,hs,.inr hc⟩
   · exact (hs.2 b (FF (Fw (Fs e) (I.ok.cab x c hfn hc)))).trans (I.base.keep b o e n hb hx)
   · obtain ⟨sl,e1⟩:=I.base.slot b o e n hb hx
     exact ⟨sl,(hs.2 b (FF (Fw (Fs e) (I.ok.cab x c hfn hc)))).trans e1⟩
   · obtain ⟨o',e1⟩:=I.base.there b o e hx
     exact ⟨o',(hs.2 b (FF (Fw (Fs e) (I.ok.cab x c hfn hc)))).trans e1⟩
   · by_cases hj:j=i
     · subst hj
       rw [hi]at e1;cases e1;rw [List.getElem?_set_self hiσ]at e2;cases e2;exact ⟨u,r,.inr ⟨.inl hk,c,hc,hc'⟩⟩
     · rw [List.getElem?_set_ne (Ne.symm hj)]at e2
       obtain ⟨u',r',q⟩:=hl j y v' e1 e2 e3;refine ⟨u',r',?_⟩;rcases q with q | ⟨k,c',e,z'⟩
       · exact .inl q
       · refine .inr ⟨k,c',e,z'.sameBut hs ?_⟩
         rintro rfl;exact hj (Q2 hN e1 (I.ok.inj _ _ _ e hc▸hi))
   · by_cases hcc:c'=c
     · subst hcc;exact ⟨_,hc'⟩
     · obtain ⟨w2,z2⟩:=I.cell y c' e
       exact ⟨w2,z2.sameBut hs hcc⟩
   · obtain ⟨e,n,ne,nf,d⟩:=I.pin p hp
     refine ⟨(hs.2 p.1 ?_).trans e,n,ne,nf,d⟩;intro q;rw [q,hoc]at e;have q':oc=p.2:=FQ e;exact d w' (by rw [← q'];exact hocd)
theorem Mj{M:Model}{A:Around}{E:Value→Shared→Prop}{i:Nat}{x:Str}{v:V}{u:Value}{Q:Unit→Shared→Prop}(I:Inv X pins σ H s)(hN:X.N.Nodup)(hi:X.N[i]?=some x)(hx:Loc X.env.scope x)(r:Aw v u)
 (h:∀s',Inv X pins (σ.set i (some v)) H s'→Q () s') (hf:X.fn x=true∨X.env.scope.names.lookup x=some .local:=by first | exact .inl rfl | exact .inr rfl | assumption):wpAny M A (storeName X.env x u) Q E s:=
 Np I hN hi hx r (fun s' I' _=>h s' I') hf
theorem Inv.call'{s':Shared}{ch:List Addr}(I:Inv X pins σ H s)(ho:s'.os=s.os)(u:Un (frs X.stack) ch H H' s.heap s'.heap)(hok:HOk X.prog X.w H' s'.heap)(hg:AllBare s'.gens)
 (hch:∀b∈ch,(b∈X.ex∨X.s₀.heap.objs.size≤b)∧b≠X.env.locals∧(∀x c,X.env.cells.lookup x=some c→c≠b)∧∀p∈X.pn++pins,p.1≠b):Inv X pins σ H' s':=by
 obtain ⟨h',g',d',t',o'⟩:=s';have e:o'=s.os:=ho;subst e;exact I.call (g':=g') (t':=t') (d':=d') u hok hg hch
end
abbrev XK:=Value→Option Addr→Hp→Prop
abbrev St:=List (Option V)
abbrev VK:=V→Hp→Prop
abbrev TE:=St→Hp→VK→Prop
abbrev TT:=St→Hp→(Bool→Hp→Prop)→Prop
abbrev TA:=St→Hp→(List V→Hp→Prop)→Prop
structure Ig where
 nx:St→Hp→Prop
 rt:VK
 bk:St→Hp→Prop:=fun _ _=>False
 ct:St→Hp→Prop:=fun _ _=>False
abbrev TS:=Ig→St→Hp→Prop
def EP(X:Cx)(pins:List (Addr×Obj))(σ:St)(Q:VK)(u:Value)(s':Shared):Prop:=∃v H',Inv X pins σ H' s'∧Aw v u∧Q v H'
def TP(X:Cx)(pins:List (Addr×Obj))(σ:St)(Q:Bool→Hp→Prop)(b:Bool)(s':Shared):Prop:=∃H',Inv X pins σ H' s'∧Q b H'
def AP(X:Cx)(pins:List (Addr×Obj))(σ:St)(Q:List V→Hp→Prop)(us:List Value)(s':Shared):Prop:=∃vs H',Inv X pins σ H' s'∧Ax vs us∧Q vs H'
def SP(X:Cx)(pins:List (Addr×Obj))(D:Ig)(f:Flow)(s':Shared):Prop:=
 match f with
 | .next=>∃σ' H',Inv X pins σ' H' s'∧D.nx σ' H'
 | .brk=>∃σ' H',Inv X pins σ' H' s'∧D.bk σ' H'
 | .cont=>∃σ' H',Inv X pins σ' H' s'∧D.ct σ' H'
 | .ret u=>∃v σ' H',Inv X pins σ' H' s'∧Aw v u∧D.rt v H'
def PE(X:Cx)(e:Expr)(t:TE):Prop:=
 ∀(pins:List (Addr×Obj)) (s:Shared) (σ:St) (H:Hp) (Q:VK),Inv X pins σ H s→t σ H Q→wpAny (model X.prog X.w) X.A (eval e X.env) (EP X pins σ Q) X.xe s
def PT(X:Cx)(e:Expr)(t:TT):Prop:=
 ∀(pins:List (Addr×Obj)) (s:Shared) (σ:St) (H:Hp) (Q:Bool→Hp→Prop),Inv X pins σ H s→t σ H Q→wpAny (model X.prog X.w) X.A (isTrue e X.env (eval e X.env)) (TP X pins σ Q) X.xe s
def PW(X:Cx)(e:Expr)(t:TT):Prop:=
 ∀(whole:Sem Value) (pins:List (Addr×Obj)) (s:Shared) (σ:St) (H:Hp) (Q:Bool→Hp→Prop),Inv X pins σ H s→t σ H Q→wpAny (model X.prog X.w) X.A (isTrue e X.env whole) (TP X pins σ Q) X.xe s
theorem PW.pt{X:Cx}{e:Expr}{t:TT}(h:PW X e t):PT X e t:=h _
def PA(X:Cx)(es:List Expr)(t:TA):Prop:=
 ∀(pos:Pos) (pins:List (Addr×Obj)) (s:Shared) (σ:St) (H:Hp) (Q:List V→Hp→Prop),Inv X pins σ H s→t σ H Q→wpAny (model X.prog X.w) X.A (spliced (backTo pos (starEach es X.env))) (AP X pins σ Q) X.xe s
def PS(X:Cx)(st:Stmt)(t:TS):Prop:=
 ∀(pins:List (Addr×Obj)) (s:Shared) (σ:St) (H:Hp) (D:Ig),Inv X pins σ H s→t D σ H→wpAny (model X.prog X.w) X.A (exec st X.env) (SP X pins D) X.xe s
def PSs(X:Cx)(st:List Stmt)(t:TS):Prop:=
 ∀(pins:List (Addr×Obj)) (s:Shared) (σ:St) (H:Hp) (D:Ig),Inv X pins σ H s→t D σ H→wpAny (model X.prog X.w) X.A (execs st X.env) (SP X pins D) X.xe s
theorem thn{α:Type}{t:Sem α}{Q Q':α→Shared→Prop}{M:Model}{A:Around}{E:Value→Shared→Prop}{s:Shared}(h:wpAny M A t Q E s)(hQ:∀a s,Q a s→Q' a s):wpAny M A t Q' E s:=FZ h hQ fun _ _ x=>x
end L2
namespace L2
section
variable {X:Cx}
def J52(i:Nat):TE:=fun σ H Q=>∃v,σ[i]?=some (some v)∧Q v H
def tC(v:V):TE:=fun _ H Q=>Q v H
theorem J53{i:Nat}{x:Str}{pos:Pos}(hN:X.N[i]?=some x)(hv:Vis X.env.scope x)(hd:(x==("__debug__":Str))=false:=by decide)(hcd:(x==("__classdict__":Str))=false:=by decide):PE X (.Name x pos) (J52 i):=by
 intro pins s σ H Q I h;obtain ⟨v,e,h⟩:=h;obtain ⟨m,hn,hl⟩:=I.loc;obtain ⟨u,r,l⟩:=hl i x v hN e hv
 have fin:EP X pins σ Q u s:=⟨v,H,I,r,h⟩
 rcases l with ⟨hk,hm⟩ | ⟨hk,c,hc,hcell⟩
 · exact wpAny_Name (wpAny_loadName_local I.ok.kind hk hn hm fin) hd
 · rcases hk with hk | hk
   · exact wpAny_Name (wpAny_loadName_cell I.ok.kind hk hc hcell fin) hd
   · exact wpAny_Name (wpAny_loadName_free I.ok.kind hk hc hcell fin hcd) hd
theorem A8{i j pos}:PE X (.Constant (.int i) j pos) (tC (.int i)):=fun _ _ _ H _ I h=>wpAny_Constant_int ⟨.int i,H,I.tok _,⟨_,rfl⟩,h⟩
theorem Eb{b j pos}:PE X (.Constant (.bool b) j pos) (tC (.bl b)):=fun _ _ _ H _ I h=>Constant_bool ⟨.bl b,H,I,rfl,h⟩
theorem Xx{j pos}:PE X (.Constant .none j pos) (tC .non):=fun _ _ _ H _ I h=>Constant_none ⟨.non,H,I,rfl,h⟩
theorem Am{x j pos}:PE X (.Constant (.str x) j pos) (tC (.str x)):=fun _ _ _ H _ I h=>Calls.Constant_str ⟨.str x,H,I.tok _,⟨_,rfl⟩,h⟩
def Gl(X:Cx)(x:Str):Prop:=X.env.kindOf x=some .globalImplicit
theorem Lr{E:Value→Shared→Prop}{pins:List (Addr×Obj)}{s:Shared}{σ:St}{H:Hp}{x:Str}{u:Value}{pos:Pos}{Q:Value→Shared→Prop}(I:Inv X pins σ H s)(hg:Gl X x)(hm:X.mg x=some u)(h:Q u s)
 (hd:(x==("__debug__":Str))=false:=by decide):wpAny (model X.prog X.w) X.A (eval (.Name x pos) X.env) Q E s:=
 Calls.Name_function_global I.ok.kind hg (Calls.loadGlobal_global (by rw [I.ok.glob];exact I.mod.glob.keeps I.bk) hm h) hd
theorem Kx{E:Value→Shared→Prop}{pins:List (Addr×Obj)}{s:Shared}{σ:St}{H:Hp}{x:Str}{u:Value}{pos:Pos}{Q:Value→Shared→Prop}(I:Inv X pins σ H s)(hg:Gl X x)(hm:X.mg x=none)(hv:bootBuiltins x=some u)(h:Q u s)
 (hn:x≠"__name__":=by decide) (hd:(x==("__debug__":Str))=false:=by decide):wpAny (model X.prog X.w) X.A (eval (.Name x pos) X.env) Q E s:=by
 obtain ⟨mb,h1,h2⟩:=I.mod.blt;exact Calls.Name_function_global I.ok.kind hg (Calls.loadGlobal_builtin (by rw [I.ok.glob];exact I.mod.glob.keeps I.bk) hm (by rw [I.ok.blt];exact h1.keeps I.bk) ((h2 x hn).trans hv) h) hd
theorem Kh{x:Str}{v:V}{u:Value}{pos:Pos}(hg:Gl X x)(hm:X.mg x=some u)(r:Aw v u)(hd:(x==("__debug__":Str))=false:=by decide):PE X (.Name x pos) (tC v):=
 fun _ _ _ H _ I h=>Lr I hg hm ⟨v,H,I,r,h⟩ hd
theorem Ls{x:Str}{v:V}{u:Value}{pos:Pos}(hg:Gl X x)(hm:X.mg x=none)(hv:bootBuiltins x=some u)(r:Aw v u)(hn:x≠"__name__":=by decide)(hd:(x==("__debug__":Str))=false:=by decide):PE X (.Name x pos) (tC v):=
 fun _ _ _ H _ I h=>Kx I hg hm hv ⟨v,H,I,r,h⟩ hn hd
variable {a b:Expr} {ta tb:TE} {pos:Pos}
def PC(X:Cx)(op:CmpOp)(a b:Expr)(t:TE):Prop:=
 ∀(pins:List (Addr×Obj)) (s:Shared) (σ:St) (H:Hp) (Q:VK),Inv X pins σ H s→t σ H Q→
   wpAny (model X.prog X.w) X.A (eval a X.env) (fun v s₁=>wpAny (model X.prog X.w) X.A (eval b X.env) (fun u s₂=>wpAny (model X.prog X.w) X.A (compareOp op v u) (EP X pins σ Q) X.xe s₂) X.xe s₁) X.xe s
theorem Xy(b:Expr){op:CmpOp}(h:op≠ .In)(h2:op≠ .NotIn):behindInMarks op b=false:=by
 have e1:(op==CmpOp.In)=false:=by cases op <;> first | rfl | exact absurd rfl h
 have e2:(op==CmpOp.NotIn)=false:=by cases op <;> first | rfl | exact absurd rfl h2
 cases b <;> simp [behindInMarks,e1,e2]
def tB(t:TE):TT:=fun σ H Q=>t σ H fun x H1=>∃c,x= .bl c∧Q c H1
theorem Ih{op:CmpOp}{t:TE}(h:PC X op a b t)(h1:behindInMarks op b=false:=by first | exact Xy _ (by decide) (by decide) | rfl):PT X (.Compare a [op] [b] pos) (tB t):=by
 intro pins s σ H Q I hw;refine wpAny_isTrue_Compare1 (thn (h pins s σ H _ I hw) fun v s1 h1=>thn h1 fun u s2 h2=>thn h2 fun c s3 hq_=>?_) h1;obtain ⟨x,H1,I1,r1,q1⟩:=hq_;obtain ⟨d,rfl,q⟩:=q1;cases r1;exact Ht ⟨H1,I1,q⟩
theorem Dd{e:Expr}{t:TE}(h:PE X e t)(he:∀whole,isTrue e X.env whole=(do let v ← whole;standAt e.pos;holding [v] (truthy v)):=by intro _;rfl):PT X e (tB t):=by
 intro pins s σ H Q I hw;refine isTrue_plain (thn (h pins s σ H _ I hw) fun v s1 hq_=>?_) (he _);obtain ⟨x,H1,I1,r1,q1⟩:=hq_;obtain ⟨d,rfl,q⟩:=q1;cases r1;exact Ht ⟨H1,I1,q⟩
variable {tA tB':TT} {rest:List Expr}
def J6b(t u:TT):TT:=fun σ H Q=>t σ H fun c H1=>if c=true then u σ H1 Q else Q false H1
def tOr(t u:TT):TT:=fun σ H Q=>t σ H fun c H1=>if c=true then Q true H1 else u σ H1 Q
def J6c(t:TT):TT:=fun σ H Q=>t σ H fun c H1=>Q (!c) H1
theorem P3(ha:PT X a tA):PW X (.BoolOp .And [a] pos) tA:=by
 intro wh pins s σ H Q I h;refine isTrue_and (thn (ha pins s σ H Q I h) fun c s1 e=>?_)
 cases c with
 | true=>exact isTrue_and_nil e
 | false=>exact e
theorem T4(ha:PT X a tA):PW X (.BoolOp .Or [a] pos) tA:=by
 intro wh pins s σ H Q I h;refine isTrue_or (thn (ha pins s σ H Q I h) fun c s1 e=>?_)
 cases c with
 | false=>exact isTrue_or_nil e
 | true=>exact e
theorem T6(ha:PT X a tA)(hb:PW X (.BoolOp .And (b::rest) pos) tB'):PW X (.BoolOp .And (a::b::rest) pos) (J6b tA tB'):=by
 intro wh pins s σ H Q I h;refine isTrue_and (thn (ha pins s σ H _ I h) fun c s1 ⟨H1,I1,q1⟩=>?_)
 cases c with
 | true=>exact hb wh pins s1 σ H1 Q I1 q1
 | false=>exact ⟨H1,I1,q1⟩
theorem Ub(ha:PT X a tA)(hb:PW X (.BoolOp .Or (b::rest) pos) tB'):PW X (.BoolOp .Or (a::b::rest) pos) (tOr tA tB'):=by
 intro wh pins s σ H Q I h;refine isTrue_or (thn (ha pins s σ H _ I h) fun c s1 ⟨H1,I1,q1⟩=>?_)
 cases c with
 | true=>exact ⟨H1,I1,q1⟩
 | false=>exact hb wh pins s1 σ H1 Q I1 q1
theorem Dm(ha:PT X a tA):PT X (.UnaryOp .Not a pos) (J6c tA):=by
 intro pins s σ H Q I h;exact isTrue_not (ha pins s σ H (fun c H1=>Q (!c) H1) I h)
def J3u(ta tb:TE):TE:=fun σ H Q=>ta σ H fun x H1=>∃c,x= .bl c∧if c=true then tb σ H1 Q else Q (.bl false) H1
def J6d(ta tb:TE):TE:=fun σ H Q=>ta σ H fun x H1=>∃c,x= .bl c∧if c=true then Q (.bl true) H1 else tb σ H1 Q
def J3v(ta:TE):TE:=fun σ H Q=>ta σ H fun x H1=>∃c,x= .bl c∧Q (.bl (!c)) H1
theorem Ky{op}{t:TE}(h:PE X a t):PE X (.BoolOp op [a] pos) t:=fun pins s σ H Q I hw=>BoolOp_one (h pins s σ H Q I hw)
theorem Ml(ha:PE X a ta)(hb:PE X (.BoolOp .And (b::rest) pos) tb):PE X (.BoolOp .And (a::b::rest) pos) (J3u ta tb):=by
 intro pins s σ H Q I h;refine BoolOp_and (thn (ha pins s σ H _ I h) fun v s1 hq_=>?_);obtain ⟨x,H1,I1,r1,q1⟩:=hq_;obtain ⟨c,rfl,q1⟩:=q1;cases r1;refine Ht ?_
 cases c with
 | true=>exact hb pins s1 σ H1 Q I1 q1
 | false=>exact ⟨.bl false,H1,I1,rfl,q1⟩
theorem J6e(ha:PE X a ta)(hb:PE X (.BoolOp .Or (b::rest) pos) tb):PE X (.BoolOp .Or (a::b::rest) pos) (J6d ta tb):=by
 intro pins s σ H Q I h;refine BoolOp_or (thn (ha pins s σ H _ I h) fun v s1 hq_=>?_);obtain ⟨x,H1,I1,r1,q1⟩:=hq_;obtain ⟨c,rfl,q1⟩:=q1;cases r1;refine Ht ?_
 cases c with
 | false=>exact hb pins s1 σ H1 Q I1 q1
 | true=>exact ⟨.bl true,H1,I1,rfl,q1⟩
theorem T7(ha:PE X a ta):PE X (.UnaryOp .Not a pos) (J3v ta):=by
 intro pins s σ H Q I h;refine UnaryOp_ (thn (ha pins s σ H _ I h) fun v s1 hq_=>?_);obtain ⟨x,H1,I1,r1,q1⟩:=hq_;obtain ⟨c,rfl,q1⟩:=q1;cases r1;exact not_of (Ht ⟨.bl (!c),H1,I1,rfl,q1⟩)
def tIf(t:TT)(ta tb:TE):TE:=fun σ H Q=>t σ H fun c H1=>if c=true then ta σ H1 Q else tb σ H1 Q
theorem Xz{c:Expr}(hc:PT X c tA)(ha:PE X a ta)(hb:PE X b tb):PE X (.IfExp c a b pos) (tIf tA ta tb):=by
 intro pins s σ H Q I h;refine wpAny_IfExp (thn (hc pins s σ H _ I h) fun d s1 ⟨H1,I1,q1⟩=>?_)
 cases d with
 | true=>exact ha pins s1 σ H1 Q I1 q1
 | false=>exact hb pins s1 σ H1 Q I1 q1
end
end L2
namespace L2
def SqL(K:PySem.W.Frag)(H:Hp)(a:Addr)(xs:List V):Prop:=
 Rd H a (.lst xs)∨
  ∃(o:Obj) (its:Array Value) (n:Nat),K.lookup a=some o∧o.cls= .type "list"∧o.dict=none∧o.data= .seq its n∧its.size≤sizeLine∧Ax xs its.toList
def SqT(K:PySem.W.Frag)(H:Hp)(a:Addr)(xs:List V):Prop:=
 Rd H a (.tup xs)∨
  ∃(o:Obj) (its:Array Value) (n:Nat),K.lookup a=some o∧o.cls= .type "tuple"∧o.data= .seq its n∧its.size≤sizeLine∧Ax xs its.toList
def J8c:Value→Option V
 | .none=>some .non
 | .bool b=>some (.bl b)
 | .int i _=>some (.int i)
 | .str x _=>some (.str x)
 | .bytes b _=>some (.byt b)
 | .float b _=>some (.flt b)
 | .ref a=>some (.ref a)
 | .type n=>some (.ty n)
 | _=>none
theorem Aw.abs{x:V}{u:Value}(r:Aw x u):J8c u=some x:=by
 cases x with
 | non=>cases r;rfl
 | bl _=>cases r;rfl
 | int _=>obtain ⟨t,rfl⟩:=r;rfl
 | str _=>obtain ⟨t,rfl⟩:=r;rfl
 | byt _=>obtain ⟨t,rfl⟩:=r;rfl
 | flt _=>obtain ⟨t,rfl⟩:=r;rfl
 | ref _=>cases r;rfl
 | ty _=>cases r;rfl
theorem Aw.inj{x y:V}{u:Value}(r:Aw x u)(q:Aw y u):x=y:=FQ (r.abs.symm.trans q.abs)
theorem Ax.inj:∀{xs ys:List V} {us:List Value},Ax xs us→Ax ys us→xs=ys
 | _,_,_,.nil,.nil=>rfl
 | _,_,_,.cons r t,.cons r' t'=>by rw [r.inj r',Ax.inj t t']
section
variable {X:Cx} {pins:List (Addr×Obj)} {σ:St} {H:Hp} {s:Shared} {a:Addr} {xs ys:List V}
theorem SqL.of{K:PySem.W.Frag}(h:H a=some (.lst xs)):SqL K H a xs:= .inl (.inl h)
theorem SqT.of{K:PySem.W.Frag}(h:H a=some (.tup xs)):SqT K H a xs:= .inl (.inl h)
theorem Inv.list(I:Inv X pins σ H s)(h:SqL X.K H a xs):∃its:List Value,Ax xs its∧PlainL s.heap a its.toArray∧xs.length≤sizeLine:=by
 rcases h with h | ⟨o,its,n,hk,hc,hd,hs,hz,r⟩
 · obtain ⟨z,its,n,r,e⟩:=h.ok I.hok
   exact ⟨its,r,⟨_,n,e,rfl,rfl,rfl⟩,z⟩
 · refine ⟨its.toList,r,⟨o,n,I.kIn a o hk,hc,hd,by simpa using hs⟩,?_⟩
   have e:=r.length;simp only [FG]at e;omega
theorem Inv.tuple(I:Inv X pins σ H s)(h:SqT X.K H a xs):∃its:List Value,Ax xs its∧IsTup s.heap a its.toArray∧xs.length≤sizeLine:=by
 rcases h with h | ⟨o,its,n,hk,hc,hs,hz,r⟩
 · obtain ⟨z,its,r,p⟩:=h.ok I.hok
   exact ⟨its,r,p,z⟩
 · refine ⟨its.toList,r,⟨o,I.kIn a o hk,hc,n,by simpa using hs⟩,?_⟩
   have e:=r.length;simp only [FG]at e;omega
theorem Inv.list_inj(I:Inv X pins σ H s)(h:SqL X.K H a xs)(h':SqL X.K H a ys):xs=ys:=by
 obtain ⟨its,r,⟨o,n,e,_,_,d⟩,_⟩:=I.list h;obtain ⟨its',r',⟨o',n',e',_,_,d'⟩,_⟩:=I.list h';rw [e]at e';cases e';rw [d]at d'
 injection d' with d1 _
 have:its=its':=by simpa using congrArg Array.toList d1
 subst this;exact r.inj r'
end
abbrev Cx.wish(X:Cx)(E:Value→Shared→Prop):Cx:={X with xe:=E}
abbrev Cx.nox(X:Cx):Cx:=X.wish fun _ _=>False
theorem Cx.Ok.wish{X:Cx}(ok:X.Ok)(E:Value→Shared→Prop):(X.wish E).Ok:=
 ⟨ok.mod,ok.kind,ok.glob,ok.blt,ok.above,ok.inj,ok.has,ok.cab,ok.hd,ok.frames,ok.stk,ok.exf,ok.bs,ok.bsz,ok.noex,ok.exfs,ok.funs,ok.frf⟩
theorem Cx.Ok.unwish{X:Cx}{E:Value→Shared→Prop}(ok:(X.wish E).Ok):X.Ok:=
 ⟨ok.mod,ok.kind,ok.glob,ok.blt,ok.above,ok.inj,ok.has,ok.cab,ok.hd,ok.frames,ok.stk,ok.exf,ok.bs,ok.bsz,ok.noex,ok.exfs,ok.funs,ok.frf⟩
section
variable {X:Cx} {pins:List (Addr×Obj)} {σ:St} {H:Hp} {s:Shared} {E:Value→Shared→Prop}
theorem Inv.wish(I:Inv X pins σ H s)(E:Value→Shared→Prop):Inv (X.wish E) pins σ H s:=⟨I.ok.wish E,I.os,I.bare,I.base,I.loc,I.cell,I.free,I.freeC,I.pin,I.hok,I.len⟩
theorem Inv.unwish(I:Inv (X.wish E) pins σ H s):Inv X pins σ H s:=⟨I.ok.unwish,I.os,I.bare,I.base,I.loc,I.cell,I.free,I.freeC,I.pin,I.hok,I.len⟩
theorem SP.unwish{D:Ig}{f:Flow}{s':Shared}(h:SP (X.wish E) pins D f s'):SP X pins D f s':=by
 cases f with
 | next=>obtain ⟨σ',H',I,q⟩:=h;exact ⟨σ',H',I.unwish,q⟩
 | brk=>obtain ⟨σ',H',I,q⟩:=h;exact ⟨σ',H',I.unwish,q⟩
 | cont=>obtain ⟨σ',H',I,q⟩:=h;exact ⟨σ',H',I.unwish,q⟩
 | ret u=>obtain ⟨v,σ',H',I,r,q⟩:=h;exact ⟨v,σ',H',I.unwish,r,q⟩
theorem PSs.nox{st:List Stmt}{t:TS}(h:PSs X.nox st t):PSs X st t:=fun pins s σ H D I hw=>
 FZ (h pins s σ H D (I.wish _) hw) (fun _ _ q=>q.unwish) fun _ _ z=>False.elim z
end
section
variable {X:Cx} {st:Stmt} {rest:List Stmt} {t u:TS} {e:Expr} {te:TE} {pos:Pos}
def J3w:TS:=fun D σ H=>D.nx σ H
def J6f(t u:TS):TS:=fun D σ H=>t {D with nx:=u D} σ H
theorem Ag:PSs X [] J3w:=fun _ _ σ H _ I h=>Rq ⟨σ,H,I,h⟩
theorem A1(h1:PS X st t)(h2:PSs X rest u):PSs X (st::rest) (J6f t u):=by
 intro pins s σ H D I h;refine wpAny_execs_cons (thn (h1 pins s σ H {D with nx:=u D} I h) fun f s1 q=>?_)
 cases f with
 | next=>
  obtain ⟨σ',H',I',q⟩:=q;exact h2 pins s1 σ' H' D I' q
 | ret v=>exact q
 | brk=>exact q
 | cont=>exact q
theorem A5(h1:PS X st t):PSs X [st] t:=by
 intro pins s σ H D I h;refine wpAny_execs_cons (thn (h1 pins s σ H D I h) fun f s1 q=>?_)
 cases f with
 | next=>exact Rq q
 | ret v=>exact q
 | brk=>exact q
 | cont=>exact q
def J54:TS:=fun D σ H=>D.bk σ H
def J6g:TS:=fun D σ H=>D.ct σ H
theorem Inv.quiet{pins:List (Addr×Obj)}{σ:St}{H:Hp}{s:Shared}(I:Inv X pins σ H s):interactive X.env=false:=by simp [interactive,I.ok.kind]
def J3x(te:TE):TS:=fun D σ H=>te σ H fun _ H1=>D.nx σ H1
theorem Ai(he:PE X e te)(hs:swapsWith e none pos.line X.env=pure false:=by rfl):PS X (.Expr e pos) (J3x te):=by
 intro pins s σ H D I h;exact wpAny_Expr_any (thn (he pins s σ H _ I h) fun v s1 ⟨x,H1,I1,r1,q1⟩=>⟨σ,H1,I1,q1⟩) I.quiet hs
def J6h(te:TE):TS:=fun D σ H=>te σ H D.rt
theorem Ae(he:PE X e te):PS X (.Return (some e) pos) (J6h te):=by
 intro pins s σ H D I h;exact wpAny_Return_some (thn (he pins s σ H _ I h) fun v s1 ⟨x,H1,I1,r1,q1⟩=>⟨x,σ,H1,I1,r1,q1⟩)
def J6i:TS:=fun D _ H=>D.rt .non H
def J6j(c:TT)(t u:TS):TS:=fun D σ H=>c σ H fun b H1=>if b=true then t D σ H1 else u D σ H1
theorem Az{c:Expr}{a b:List Stmt}{tc:TT}(hc:PT X c tc)(ha:PSs X a t)(hb:PSs X b u):PS X (.If c a b pos) (J6j tc t u):=by
 intro pins s σ H D I h;refine wpAny_If (thn (hc pins s σ H _ I h) fun d s1 ⟨H1,I1,q1⟩=>?_)
 cases d with
 | true=>exact ha pins s1 σ H1 D I1 q1
 | false=>exact hb pins s1 σ H1 D I1 q1
def Y0:TS:=fun _ _ _=>False
theorem Be:PS X st Y0:=fun _ _ _ _ _ _ h=>h.elim
end
abbrev TG:=V→St→Hp→(St→Hp→Prop)→Prop
abbrev TGs:=List V→St→Hp→(St→Hp→Prop)→Prop
def PG(X:Cx)(target:Expr)(t:TG):Prop:=
 ∀(pins:List (Addr×Obj)) (s:Shared) (σ:St) (H:Hp) (v:V) (u:Value) (Q:St→Hp→Prop),Inv X pins σ H s→Aw v u→t v σ H Q→
   wpAny (model X.prog X.w) X.A (assign target X.env u) (fun _ s'=>∃σ' H',Inv X pins σ' H' s'∧Q σ' H') X.xe s
def PGs(X:Cx)(ts:List Expr)(t:TGs):Prop:=
 ∀(pins:List (Addr×Obj)) (s:Shared) (σ:St) (H:Hp) (vs:List V) (us:List Value) (Q:St→Hp→Prop),Inv X pins σ H s→Ax vs us→t vs σ H Q→
   wpAny (model X.prog X.w) X.A (assignInOrder ((assignEach ts X.env).map (·.2)) us) (fun _ s'=>∃σ' H',Inv X pins σ' H' s'∧Q σ' H') X.xe s
abbrev Ws:=V→V→V→Hp→(Hp→Prop)→Prop
def J6k(X:Cx)(t:Ws):Prop:=
 ∀(pins:List (Addr×Obj)) (s:Shared) (σ:St) (H:Hp) (o i v:V) (ov iv u:Value) (Q:Hp→Prop),Inv X pins σ H s→Aw o ov→Aw i iv→Aw v u→t o i v H Q→
   wpAny (model X.prog X.w) X.A (setItem ov iv u) (fun _ s'=>∃H',Inv X pins σ H' s'∧Q H') X.xe s
abbrev TIp:=V→V→Hp→VK→Prop
def PIp(X:Cx)(op:Operator)(t:TIp):Prop:=
 ∀(pins:List (Addr×Obj)) (s:Shared) (σ:St) (H:Hp) (x y:V) (v u:Value) (Q:VK),Inv X pins σ H s→Aw x v→Aw y u→t x y H Q→
   wpAny (model X.prog X.w) X.A (inplaceOp op v u) (EP X pins σ Q) X.xe s
section
variable {X:Cx} {pos:Pos}
def Cb(i:Nat):TG:=fun v σ H Q=>Q (σ.set i (some v)) H
theorem Bb{i:Nat}{x:Str}(hN:X.N.Nodup)(hi:X.N[i]?=some x)(hx:Loc X.env.scope x)(hf:X.fn x=true∨X.env.scope.names.lookup x=some .local:=by first | exact .inl rfl | exact .inr rfl | assumption):PG X (.Name x pos) (Cb i):=by
 intro pins s σ H v u Q I r h;exact wpAny_assign_Name (Mj I hN hi hx r (fun s' I'=>⟨_,H,I',h⟩) hf)
def J2l:TGs:=fun vs σ H Q=>vs=[]∧Q σ H
def Mm(t:TG)(u:TGs):TGs:=fun vs σ H Q=>∃v r,vs=v::r∧t v σ H fun σ' H'=>u r σ' H' Q
theorem Lu:PGs X [] J2l:=by
 intro pins s σ H vs us Q I r h;obtain ⟨e,h⟩:=h;subst e;cases r;exact assignInOrder_nil ⟨σ,H,I,h⟩
theorem De{e:Expr}{es:List Expr}{t:TG}{u:TGs}(h1:PG X e t)(h2:PGs X es u)
 (hs:(assignEach (e::es) X.env).map (·.2)=assign e X.env::(assignEach es X.env).map (·.2):=by rfl):PGs X (e::es) (Mm t u):=by
 intro pins s σ H vs us Q I r h;obtain ⟨v,vr,e1,h⟩:=h;subst e1
 cases r with
 | cons r rr=>
  rw [hs];refine assignInOrder_cons (thn (h1 pins s σ H _ _ _ I r h) fun _ s1 hq_=>?_);obtain ⟨σ1,H1,I1,q1⟩:=hq_;exact h2 pins s1 σ1 H1 _ _ Q I1 rr q1
def J2m(K:PySem.W.Frag)(n:Nat)(t:TGs):TG:=fun v σ H Q=>∃a xs,v= .ref a∧SqT K H a xs∧xs.length=n∧t xs σ H Q
theorem P4{es:List Expr}{k:Nat}{t:TGs}{n:Nat}(hc:X.calm=true)(h:PGs X es t)
 (hn:(assignEach es X.env).length=n:=by rfl) (hst:(assignEach es X.env).findIdx? (·.1)=none:=by rfl):PG X (.Tuple es k pos) (J2m X.K n t):=by
 intro pins s σ H v u Q I r hw;obtain ⟨a,xs,e1,hq,hl,hw⟩:=hw;subst e1;cases r;obtain ⟨its,rv,ht,hz⟩:=I.tuple hq;refine assign_Tuple_tuple (I.ok.hd hc) ht (by simp [hn,← hl,rv.length]) hst fun h' hx=>?_;have I1:Inv X pins σ H {s with heap:=h'}:=I.kept (t':=s.toks) fun b o e=>hx b o (FF (Fs e)) e;exact h pins _ σ H xs _ Q I1 (by simpa using rv) hw
def J8d(to ti:TE)(t:Ws):TG:=fun v σ H Q=>to σ H fun o H1=>ti σ H1 fun i H2=>t o i v H2 fun H3=>Q σ H3
def Y1(te:TE)(g:TG):TS:=fun D σ H=>te σ H fun x H1=>g x σ H1 D.nx
theorem Ay{i:Nat}{x:Str}{e:Expr}{te:TE}{pos':Pos}(hN:X.N.Nodup)(hi:X.N[i]?=some x)(hx:Loc X.env.scope x)(he:PE X e te)(hs:swapsWith e (some (.Name x pos')) pos.line X.env=pure false:=by rfl)(hf:X.fn x=true∨X.env.scope.names.lookup x=some .local:=by first | exact .inl rfl | exact .inr rfl | assumption):
 PS X (.Assign [.Name x pos'] e pos) (Y1 te (Cb i)):=by
 intro pins s σ H D I h;refine wpAny_Assign_Name (thn (he pins s σ H _ I h) fun v s1 hq_=>?_) hs;obtain ⟨y,H1,I1,r1,q1⟩:=hq_;exact Mj I1 hN hi hx r1 (fun s2 I2=>⟨_,H1,I2,q1⟩) hf
def J8e(i j:Nat)(ta:TA):TS:=fun D σ H=>ta σ H fun vs H1=>∃v w,vs=[v,w]∧D.nx ((σ.set i (some v)).set j (some w)) H1
def J6l(i:Nat)(te:TE)(ti:TIp):TS:=fun D σ H=>∃x,σ[i]?=some (some x)∧te σ H fun y H1=>ti x y H1 fun z H2=>D.nx (σ.set i (some z)) H2
theorem Y2{i:Nat}{x:Str}{e:Expr}{te:TE}{op:Operator}{ti:TIp}{pos':Pos}(hN:X.N.Nodup)(hi:X.N[i]?=some x)(hx:Loc X.env.scope x)(he:PE X e te)(ho:PIp X op ti)(hf:X.fn x=true∨X.env.scope.names.lookup x=some .local:=by first | exact .inl rfl | exact .inr rfl | assumption):
 PS X (.AugAssign (.Name x pos') op e pos) (J6l i te ti):=by
 intro pins s σ H D I h;obtain ⟨v,e1,h⟩:=h;obtain ⟨m,hn,hl⟩:=I.loc
 have vis:Vis X.env.scope x:=by rcases hx with k | k;exact .inl k;exact .inr (.inl k)
 obtain ⟨u,r,l⟩:=hl i x v hi e1 vis;refine wpAny_AugAssign_Name ?_
 have go:wpAny (model X.prog X.w) X.A (eval e X.env) (fun w s₂=>wpAny (model X.prog X.w) X.A (inplaceOp op u w) (fun r s₃=>wpAny (model X.prog X.w) X.A (storeName X.env x r) (fun _=>SP X pins D .next) X.xe s₃) X.xe s₂) X.xe s:=by
  refine thn (he pins s σ H _ I h) fun w s1 hq_=>?_;obtain ⟨y,H1,I1,r1,q1⟩:=hq_;refine thn (ho pins s1 σ H1 v y u w _ I1 r r1 q1) fun z s2 hq_=>?_;obtain ⟨zv,H2,I2,r2,q2⟩:=hq_;exact Mj I2 hN hi hx r2 (fun s3 I3=>⟨_,H2,I3,q2⟩) hf
 rcases l with ⟨hk,hm⟩ | ⟨hk,c,hc,hcell⟩
 · exact wpAny_loadName_local I.ok.kind hk hn hm go
 · rcases hk with hk | hk
   · exact wpAny_loadName_cell I.ok.kind hk hc hcell go
   · rcases hx with k | k
     · have:X.env.scope.names.lookup x=some .free:=hk
       rw [k]at this;cases this
     · have:X.env.scope.names.lookup x=some .free:=hk
       rw [k]at this;cases this
def J3y(to ti te:TE)(tget:V→V→Hp→VK→Prop)(tip:TIp)(tset:Ws):TS:=fun D σ H=>to σ H fun o H1=>ti σ H1 fun i H2=>tget o i H2 fun x H3=>te σ H3 fun y H4=>tip x y H4 fun z H5=>tset o i z H5 fun H6=>D.nx σ H6
def J6m(X:Cx)(t:V→V→Hp→VK→Prop):Prop:=
 ∀(pins:List (Addr×Obj)) (s:Shared) (σ:St) (H:Hp) (o i:V) (ov iv:Value) (Q:VK),Inv X pins σ H s→Aw o ov→Aw i iv→t o i H Q→
   wpAny (model X.prog X.w) X.A (getItem ov iv) (EP X pins σ Q) X.xe s
theorem Lv{o i e:Expr}{to ti te:TE}{tget:V→V→Hp→VK→Prop}{tip:TIp}{tset:Ws}{op:Operator}{tpos:Pos}(ho:PE X o to)(hi:PE X i ti)(hg:J6m X tget)(he:PE X e te)(hp:PIp X op tip)(hs:J6k X tset)
 (ha:∀ov iv new,augStore i ov iv new=(do holding [new,ov,iv] (setItem ov iv new);release [new,ov,iv] [];pure .next):=by intros;rfl):PS X (.AugAssign (.Subscript o i tpos) op e pos) (J3y to ti te tget tip tset):=by
 intro pins s σ H D I h;refine wpAny_AugAssign_SubscriptAny (thn (ho pins s σ H _ I h) fun ov s1 hq_=>?_) ha;obtain ⟨x1,H1,I1,r1,q1⟩:=hq_;refine thn (hi pins s1 σ H1 _ I1 q1) fun iv s2 hq_=>?_;obtain ⟨x2,H2,I2,r2,q2⟩:=hq_;refine thn (hg pins s2 σ H2 x1 x2 ov iv _ I2 r1 r2 q2) fun old s3 hq_=>?_;obtain ⟨x3,H3,I3,r3,q3⟩:=hq_;refine thn (he pins s3 σ H3 _ I3 q3) fun v s4 hq_=>?_;obtain ⟨x4,H4,I4,r4,q4⟩:=hq_;refine thn (hp pins s4 σ H4 x3 x4 old v _ I4 r3 r4 q4) fun new s5 hq_=>?_;obtain ⟨x5,H5,I5,r5,q5⟩:=hq_
 exact thn (hs pins s5 σ H5 x1 x2 x5 ov iv new _ I5 r1 r2 r5 q5) fun _ s6 ⟨H6,I6,q6⟩=>⟨σ,H6,I6,q6⟩
def ipI(f:Int→Int→Int):TIp:=fun x y H Q=>∃i j,x= .int i∧y= .int j∧Q (.int (f i j)) H
theorem Kz:PIp X .Add (ipI fun i j=>i+j):=by
 intro pins s σ H x y v u Q I r1 r2 h;obtain ⟨i,j,e1,e2,q⟩:=h;subst e1;subst e2;obtain ⟨t,rfl⟩:=r1;obtain ⟨t',rfl⟩:=r2;exact iadd_int ⟨.int _,H,I.tok _,⟨_,rfl⟩,q⟩
end
structure It where
 go:Nat→Hp→Prop
 yld:Nat→Hp→V→Hp→Prop
 stop:Nat→Hp→Prop
def Kb(X:Cx)(pins:List (Addr×Obj))(H:Hp)(b:Addr):Prop:=
 H b=none∧b≠X.env.locals∧b∉X.fs∧(b∈X.ex∨X.s₀.heap.objs.size≤b)∧(∀x c,X.env.cells.lookup x=some c→c≠b)∧∀p∈X.pn++pins,p.1≠b
theorem Inv.fpOk{X:Cx}{pins:List (Addr×Obj)}{σ:St}{H H':Hp}{s:Shared}{b:Addr}(I:Inv X pins σ H s)(hb:s.heap.objs.size≤b)(hn:H' b=none):Kb X pins H' b:=by
 refine ⟨hn,Nat.ne_of_gt (Fw I.lt hb),I.nofs hb,.inr (FA I.sz hb),fun x c e z=>?_,fun p hp z=>?_⟩
 · obtain ⟨v,q⟩:=I.cell x c e
   exact absurd (Fw q.lt (by rw [z];exact hb)) (Hw _)
 · exact absurd (Fw (Fs (I.pin p hp).1) (by rw [z];exact hb)) (Hw _)
structure Wt(P:Program)(w:World)(K:PySem.W.Frag)(tg:Expr)(J:It)(fp:List Addr)(it:Addr)(tn:Nat→Heap→Prop):Prop where
 mem:it∈fp
 obj:∀i h,tn i h→∀b∈fp,∃o,h.get? b=some o∧∀v,o.data≠ .cell v
 keep:∀i h h',tn i h→(∀b∈fp,∀o,h.get? b=some o→h'.get? b=some o)→tn i h'
 item:∀(X:Cx),X.prog=P→X.w=w→X.K=K→X.calm=true→∀(i:Nat) (pins:List (Addr×Obj)) (s:Shared) (σ:St) (H:Hp) (E:Value→Shared→Prop),Inv X pins σ H s→(∀b∈fp,Kb X pins H b)→tn i s.heap→J.go i H→
  wpAny (model P w) X.A (pyNext (.ref it)) (fun r s1=>∃u,r=some u∧
   wpAny (model P w) X.A (letOwnedTupleGo tg (.ref it) u) (fun _ s2=>∃x H',Inv X pins σ H' s2∧Aw x u∧J.yld i H x H'∧tn (i+1) s2.heap∧∀b∈fp,H' b=none) E s1) E s
 done:∀(X:Cx),X.prog=P→X.w=w→X.K=K→X.calm=true→∀(i:Nat) (pins:List (Addr×Obj)) (s:Shared) (σ:St) (H:Hp) (E:Value→Shared→Prop),Inv X pins σ H s→(∀b∈fp,Kb X pins H b)→tn i s.heap→J.stop i H→
   wpAny (model P w) X.A (pyNext (.ref it)) (fun r s1=>r=none∧Inv X pins σ H s1) E s
 self:∀(A:Around) (i:Nat) (s:Shared) (Q:Value→Shared→Prop) (E:Value→Shared→Prop),tn i s.heap→Q (.ref it) s→wpAny (model P w) A (pyIter (.ref it)) Q E s
abbrev TI:=St→Hp→(It→Hp→Prop)→Prop
def PIE(X:Cx)(pins:List (Addr×Obj))(σ:St)(tg:Expr)(R:It→Hp→Prop)(itv:Value)(s2:Shared):Prop:=
 ∃(it:Addr) (fp:List Addr) (tn:Nat→Heap→Prop) (J:It) (H':Hp),itv= .ref it∧Inv X pins σ H' s2∧Wt X.prog X.w X.K tg J fp it tn∧tn 0 s2.heap∧(∀b∈fp,Kb X pins H' b)∧R J H'
def PI(X:Cx)(tg iter:Expr)(wi:TI):Prop:=
 ∀(pins:List (Addr×Obj)) (s:Shared) (σ:St) (H:Hp) (R:It→Hp→Prop),Inv X pins σ H s→wi σ H R→
   wpAny (model X.prog X.w) X.A (eval iter X.env) (fun v s1=>wpAny (model X.prog X.w) X.A (pyIter v) (PIE X pins σ tg R) X.xe s1) X.xe s
theorem Y3{M:Model}{A:Around}{E:Value→Shared→Prop}{s:Shared}{tg:Expr}{it:Addr}{u:Value}{o:Obj}{n:String}{vs:Array Value}{Q:Unit→Shared→Prop}(ho:s.heap.get? it=some o)(hc:o.cls= .type n)(hd:o.data= .fields vs)
 (hn:["enumerate","zip","dict_itemiterator","dict_reverseitemiterator","odict_iterator","itertools.zip_longest","itertools.pairwise"].contains n=false) (hQ:Q () s):wpAny M A (letOwnedTupleGo tg (.ref it) u) Q E s:=by
 unfold letOwnedTupleGo
 cases tg <;> first
  | exact FW hQ
  | (cases u <;> first
   | exact FW hQ
   | (refine FK (wpAny_load ho ?_)
      rw [hc,hd];show wpAny M A (if (["enumerate","zip","dict_itemiterator","dict_reverseitemiterator","odict_iterator","itertools.zip_longest","itertools.pairwise"].contains n && vs[0]?==some (rawInt _))=true then _ else _) Q E s;rw [if_neg (by intro h;rw [hn,Bool.false_and]at h;cases h)]
      exact FW hQ))
def Itl(K:PySem.W.Frag)(a:Addr):It:=
 ⟨fun i H=>∃xs x,SqL K H a xs∧xs[i]?=some x,fun i H x H'=>H'=H∧∀xs,SqL K H a xs→xs[i]?=some x,fun i H=>∃xs,SqL K H a xs∧xs.length≤i⟩
def Itt(K:PySem.W.Frag)(a:Addr):It:=
 ⟨fun i H=>∃xs x,SqT K H a xs∧xs[i]?=some x,fun i H x H'=>H'=H∧∀xs,SqT K H a xs→xs[i]?=some x,fun i H=>∃xs,SqT K H a xs∧xs.length≤i⟩
def Itr(lo:Int)(n:Nat):It:=⟨fun i _=>i < n,fun i H x H'=>H'=H∧x= .int (lo+i),fun i _=>n≤i⟩
theorem Wu{P:Program}{w:World}{K:PySem.W.Frag}{tg:Expr}(a it:Addr):Wt P w K tg (Itl K a) [it] it (fun i h=>h.IsListIter it a i) where
 mem:=by simp
 obj:=fun i h st b hb=>by
  have e:b=it:=by simpa using hb
  subst e;obtain ⟨o,e,c,d⟩:=st;exact ⟨o,e,fun v z=>by rw [d]at z;cases z⟩
 keep:=fun i h h' st k=>st.at fun o e=>k it (by simp) o e
 item:=by
  intro X hP hw hK hc i pins s σ H E I hf st hg;subst hP hw hK;obtain ⟨xs,x,hq,hx⟩:=hg;obtain ⟨its,rv,p,hz⟩:=I.list hq;obtain ⟨u,hu,ru⟩:=rv.get hx;obtain ⟨f0,f1,f2,f3,f4,f5⟩:=hf it (by simp);refine wpAny_pyNext_list_item st p.isList (x:=u) (by simpa using hu) fun h' st' sb=>?_;have I1:Inv X pins σ H {s with heap:=h'}:=I.turned (t':=s.toks) (fun b o hb e=>(sb.2 b hb).trans e) f0 f1 f3 f4 f5;obtain ⟨o,e,c,d⟩:=id st';exact ⟨u,rfl,Y3 (s:={s with heap:=h'}) e c d (by decide) ⟨x,H,I1,ru,⟨rfl,fun ys hy=>by rw [I.list_inj hy hq];exact hx⟩,st',fun b hb=>(hf b hb).1⟩⟩
 done:=by
   intro X hP hw hK hc i pins s σ H E I hf st hg;subst hP hw hK;obtain ⟨xs,hq,hx⟩:=hg;obtain ⟨its,rv,p,hz⟩:=I.list hq;obtain ⟨f0,f1,f2,f3,f4,f5⟩:=hf it (by simp);have hl:=rv.length
   exact wpAny_pyNext_list_end (I.ok.hd hc) st p.isList (by simp;omega) fun h' eb=>⟨rfl,I.turned (t':=s.toks) (fun b o hb e=>eb b o hb e) f0 f1 f3 f4 f5⟩
 self:=fun _ _ _ _ _ st h=>wpAny_pyIter_listiter st h
theorem T8{P:Program}{w:World}{K:PySem.W.Frag}{tg:Expr}(it:Addr)(lo:Int)(n:Nat):Wt P w K tg (Itr lo n) [it] it (fun i h=>IsRangeIter h it (lo+(i:Nat) * 1) ((n:Int) - (i:Nat)) 1) where
 mem:=by simp
 obj:=fun i h st b hb=>by
  have e:b=it:=by simpa using hb
  subst e
  exact ⟨_,st,fun v z=>by
   have z':Data.fields _=Data.cell v:=z
   cases z'⟩
 keep:=fun i h h' st k=>k it (by simp) _ st
 item:=by
  intro X hP hw hK hc i pins s σ H E I hf st hg;subst hP hw hK;obtain ⟨f0,f1,f2,f3,f4,f5⟩:=hf it (by simp);have W:=Walks.range (prog:=X.prog) (w:=X.w) (I.ok.hd hc) it lo 1 n;refine W.item i s _ _ hg st fun v h' tk hv st' kk=>?_;obtain ⟨t,rfl⟩:=hv;have I1:Inv X pins σ H {s with heap:=h',toks:=tk}:=I.turned (fun b o hb e=>kk b o (by simpa using hb) e) f0 f1 f3 f4 f5;refine ⟨_,rfl,Y3 (s:={s with heap:=h',toks:=tk}) (n:="range_iterator") st' rfl rfl (by decide) ⟨.int (lo+i),H,I1,⟨t,?_⟩,⟨rfl,rfl⟩,st',fun b hb=>(hf b hb).1⟩⟩;rw [Int.mul_one]
 done:=by
   intro X hP hw hK hc i pins s σ H E I hf st hg;subst hP hw hK;obtain ⟨f0,f1,f2,f3,f4,f5⟩:=hf it (by simp)
   exact wpAny_pyNext_range_end (I.ok.hd hc) st (by have:n≤i:=hg;omega) fun h' eb=>⟨rfl,I.turned (t':=s.toks) (fun b o hb e=>eb b o hb e) f0 f1 f3 f4 f5⟩
 self:=fun _ _ _ _ _ st h=>wpAny_pyIter_rangeiter st h
end L2
namespace L2
section
variable {X:Cx} {tg:Expr}
def J3z(K:PySem.W.Frag)(tl:TE):TI:=fun σ H R=>tl σ H fun x H1=>∃a,x= .ref a∧(∃xs,SqL K H1 a xs)∧R (Itl K a) H1
def J8f(K:PySem.W.Frag)(tl:TE):TI:=fun σ H R=>tl σ H fun x H1=>∃a,x= .ref a∧(∃xs,SqT K H1 a xs)∧R (Itt K a) H1
theorem Bt{l:Expr}{tl:TE}(hl:PE X l tl):PI X tg l (J3z X.K tl):=by
 intro pins s σ H R I h;refine thn (hl pins s σ H _ I h) fun v s1 hq_=>?_;obtain ⟨x,H1,I1,r1,q1⟩:=hq_;obtain ⟨a,e,⟨xs,hq⟩,q⟩:=q1;subst e;cases r1;obtain ⟨its,rv,p,hz⟩:=I1.list hq;refine RF p.isList ?_;refine ⟨s1.heap.objs.size,[s1.heap.objs.size],_,_,H1,rfl,I1.kept (t':=s1.toks) fun b o e=>Fm _ e,Wu a _,⟨_,FI _ rfl,rfl,rfl⟩,fun b hb=>?_,q⟩
 have e:b=s1.heap.objs.size:=by simpa using hb
 subst e;exact I1.fpOk (Fe _) (I1.hok.fresh (Fe _))
theorem Y4{pins:List (Addr×Obj)}{σ:St}{H:Hp}{s:Shared}{R:It→Hp→Prop}{E:Value→Shared→Prop}{lo hi:Int}{t u v:Tok}{tk:Nat}(I:Inv X pins σ H s)(h1:-(2 ^ 62)≤lo)(h2:lo < 2 ^ 62)(h3:-(2 ^ 62)≤hi)(h4:hi < 2 ^ 62)
 (q:R (Itr lo (hi - lo).toNat) H):wpAny (model X.prog X.w) X.A (pyIter (.ref s.heap.objs.size)) (PIE X pins σ tg R) E {s with heap:=s.heap.push {cls:= .type "range",data:= .fields #[.int lo t,.int hi u,.int 1 v]},toks:=tk}:=by
 refine wpAny_pyIter_range (IsRange.new ..) (small_one h1 h2 h3 h4) ?_;have I1:Inv X pins σ H {s with heap:=s.heap.push {cls:= .type "range",data:= .fields #[.int lo t,.int hi u,.int 1 v]},toks:=tk}:=I.kept fun b o e=>Fm _ e
 refine ⟨(s.heap.push {cls:= .type "range",data:= .fields #[.int lo t,.int hi u,.int 1 v]}).objs.size,[(s.heap.push {cls:= .type "range",data:= .fields #[.int lo t,.int hi u,.int 1 v]}).objs.size],_,_,H,rfl,
  I1.kept (t':=tk) fun b o e=>Fm _ e,T8 _ lo (hi - lo).toNat,?_,fun b hb=>?_,q⟩
 · have e1:lo+((0:Nat):Int) * 1=lo:=by simp
   have e2:(((hi - lo).toNat:Nat):Int) - ((0:Nat):Int)=Builtin.Range.rangeSize lo hi 1:=by rw [rangeSize_one];split <;> omega
   show IsRangeIter _ _ (lo+((0:Nat):Int) * 1) ((((hi - lo).toNat:Nat):Int) - ((0:Nat):Int)) 1;rw [e1,e2];exact FI _ rfl
 · have e:b=(s.heap.push {cls:= .type "range",data:= .fields #[.int lo t,.int hi u,.int 1 v]}).objs.size:=by simpa using hb
   subst e;exact I1.fpOk (Fe _) (I1.hok.fresh (Fe _))
def J40(ta:TA):TI:=fun σ H R=>ta σ H fun vs H1=>∃j:Int,vs=[.int j]∧-(2 ^ 62)≤j∧j < 2 ^ 62∧R (Itr 0 j.toNat) H1
def J6n(ta:TA):TI:=fun σ H R=>ta σ H fun vs H1=>∃i j:Int,vs=[.int i,.int j]∧(-(2 ^ 62)≤i∧i < 2 ^ 62∧-(2 ^ 62)≤j∧j < 2 ^ 62)∧R (Itr i (j - i).toNat) H1
theorem Eg{a:Expr}{ta:TA}{p pos:Pos}(hg:Gl X "range")(hm:X.mg "range"=none)(ha:PA X [a] ta)(hs:starEach [a] X.env=[(false,eval a X.env)]:=by rfl):PI X tg (.Call (.Name "range" p) [a] [] pos) (J40 ta):=by
 intro pins s σ H R I h;refine Call_ (Kx I hg hm boot_range (HG (thn (ha pos pins s σ H _ I h) fun us s1 hq_=>?_) hs rfl));obtain ⟨vs,H1,I1,r1,q1⟩:=hq_;obtain ⟨j,e,q1,q2,q⟩:=q1;subst e
 cases r1 with
 | cons r rr=>
  cases rr;obtain ⟨t,rfl⟩:=r;exact call_range_1 (Y4 I1 (by omega) (by omega) q1 q2 (by simpa using q))
def J6o(wi:TI)(g:TG)(tb:TS):TS:=fun D σ H=>wi σ H fun J H1=>∃W:Nat→Nat→St→Hp→Prop,(∃m,W 0 m σ H1)∧∀i m σ H,W i m σ H→
 (J.stop i H∧D.nx σ H)∨(J.go i H∧∃N:St→Hp→Prop,(∀σ' H',N σ' H'→∃m',m' < m∧W (i+1) m' σ' H')∧∀x H',J.yld i H x H'→g x σ H' fun σ2 H2=>tb {D with nx:=N,ct:=N,bk:=D.nx} σ2 H2)
def L0(fp:List Addr)(h:Heap):List (Addr×Obj):=fp.filterMap fun b=>(h.get? b).map fun o=>(b,o)
theorem Gd{fp:List Addr}{h:Heap}{b:Addr}{o:Obj}(hb:b∈fp)(e:h.get? b=some o):(b,o)∈L0 fp h:=List.mem_filterMap.mpr ⟨b,hb,by rw [e];rfl⟩
theorem Wv{fp:List Addr}{h:Heap}{p:Addr×Obj}(hp:p∈L0 fp h):p.1∈fp∧h.get? p.1=some p.2:=by
 obtain ⟨b,hb,e⟩:=List.mem_filterMap.mp hp
 cases q:h.get? b with
 | none=>rw [q]at e;cases e
 | some o=>
  rw [q]at e;have e':(b,o)=p:=FQ e;subst e';exact ⟨hb,q⟩
theorem Inv.pinned{pins:List (Addr×Obj)}{σ:St}{H:Hp}{s:Shared}{fp:List Addr}(I:Inv X pins σ H s)(hf:∀b∈fp,Kb X pins H b)(ho:∀b∈fp,∃o,s.heap.get? b=some o∧∀v,o.data≠ .cell v):Inv X (pins++L0 fp s.heap) σ H s:=
 I.pins_of fun p hp=>(Fq.mp hp).elim (fun z=>I.pin p (Fv _ z)) fun z=>by
  obtain ⟨hb,e⟩:=Wv z;obtain ⟨f0,f1,f2,_⟩:=hf p.1 hb;obtain ⟨o,e',d⟩:=ho p.1 hb;rw [e]at e';cases e';exact ⟨e,f0,f1,f2,d⟩
theorem Inv.unpinned{pins pl:List (Addr×Obj)}{σ:St}{H:Hp}{s:Shared}(I:Inv X (pins++pl) σ H s):Inv X pins σ H s:=I.pins_of fun p hp=>I.pin p (Fv _ (FJ _ hp))
theorem D0{iter:Expr}{body:List Stmt}{wi:TI}{g:TG}{tb:TS}{pos:Pos}(hp:PassesOwn (model X.prog X.w) X.A X.env X.xe)(hc:X.calm=true)(hi:PI X tg iter wi)(hg:PG X tg g)(hb:PSs X body tb)
 (hs:∀x,foldedSetIterable iter X.env x=pure x:=by intro _;rfl):PS X (.For tg iter body [] pos) (J6o wi g tb):=by
 intro pins s σ H D I h;refine wpAny_For (thn (hi pins s σ H _ I h) fun v s1 h1=>thn h1 fun itv s2 h2=>?_) hs;obtain ⟨it,fp,tn,J,H2,e,I2,T,st2,f2,W,⟨m0,w0⟩,turn⟩:=h2;subst e
 have stat:∀{H':Hp},(∀b∈fp,H' b=none)→∀b∈fp,Kb X pins H' b:=fun hn b hb=>⟨hn b hb,(f2 b hb).2⟩
 refine codeAny_forLoop_any (fun n s'=>∃i σ' H',Inv X pins σ' H' s'∧tn i s'.heap∧(∀b∈fp,H' b=none)∧W i n σ' H') ?_ m0 ⟨0,σ,H2,I2,st2,fun b hb=>(f2 b hb).1,w0⟩;rintro n s3 ⟨i,σ3,H3,I3,st3,fr3,w3⟩;rcases turn i n σ3 H3 w3 with ⟨stop,qn⟩ | ⟨go,N,hN,step⟩
 · refine R9 hp (thn (T.done X rfl rfl rfl hc i pins s3 σ3 H3 X.xe I3 (stat fr3) st3 stop) fun r s4 ⟨hr,I4⟩=>?_)
   subst hr;exact Rq ⟨σ3,H3,I4,qn⟩
 · refine R9 hp (thn (T.item X rfl rfl rfl hc i pins s3 σ3 H3 X.xe I3 (stat fr3) st3 go) fun r s4 ⟨u,hr,h4⟩=>?_)
   subst hr;refine R9 hp (thn h4 fun _ s5 hq_=>?_);obtain ⟨x,H5,I5,r5,y5,st5,fr5⟩:=hq_;have I5':=I5.pinned (stat fr5) (T.obj _ _ st5);refine R9 hp (thn (hg _ s5 σ3 H5 x u _ I5' r5 (step x H5 y5)) fun _ s6 hq_=>?_);obtain ⟨σ6,H6,I6,q6⟩:=hq_;refine R9 hp (thn (hb _ s6 σ6 H6 _ I6 q6) fun f s7 q7=>?_)
   have again:∀{σ7:St} {H7:Hp},Inv X (pins++L0 fp s5.heap) σ7 H7 s7→N σ7 H7→∃m,m < n∧∃i σ' H',Inv X pins σ' H' s7∧tn i s7.heap∧(∀b∈fp,H' b=none)∧W i m σ' H':=fun {σ7 H7} I7 n7=>by
    obtain ⟨m',hm,w7⟩:=hN σ7 H7 n7;refine ⟨m',hm,i+1,σ7,H7,I7.unpinned,T.keep _ _ _ st5 fun b hb o e=>(I7.pin (b,o) (Fv _ (Fv _ (Gd hb e)))).1,fun b hb=>?_,w7⟩;obtain ⟨o,e,d⟩:=T.obj _ _ st5 b hb;exact (I7.pin (b,o) (Fv _ (Fv _ (Gd hb e)))).2.1
   cases f with
   | next=>obtain ⟨σ7,H7,I7,n7⟩:=q7;exact again I7 n7
   | cont=>obtain ⟨σ7,H7,I7,n7⟩:=q7;exact again I7 n7
   | brk=>obtain ⟨σ7,H7,I7,q7⟩:=q7;exact ⟨σ7,H7,I7.unpinned,q7⟩
   | ret v=>obtain ⟨x7,σ7,H7,I7,r7,q7⟩:=q7;exact ⟨x7,σ7,H7,I7.unpinned,r7,q7⟩
end
theorem Y5{K:PySem.W.Frag}{a:Addr}{xs:List V}{g:TG}{tb:TS}{D:Ig}{σ:St}{H:Hp}(Pv:Nat→St→Hp→Prop)(h0:Pv 0 σ H)(hl:∀i σ H,i≤xs.length→Pv i σ H→SqL K H a xs)
 (hs:∀i x σ H,xs[i]?=some x→Pv i σ H→g x σ H fun σ2 H2=>tb {D with nx:=Pv (i+1),ct:=Pv (i+1),bk:=D.nx} σ2 H2) (hd:∀σ H,Pv xs.length σ H→D.nx σ H):
 ∃W:Nat→Nat→St→Hp→Prop,(∃m,W 0 m σ H)∧∀i m σ H,W i m σ H→
  ((Itl K a).stop i H∧D.nx σ H)∨((Itl K a).go i H∧∃N:St→Hp→Prop,(∀σ' H',N σ' H'→∃m',m' < m∧W (i+1) m' σ' H')∧∀x H',(Itl K a).yld i H x H'→g x σ H' fun σ2 H2=>tb {D with nx:=N,ct:=N,bk:=D.nx} σ2 H2):=by
 refine ⟨fun i m σ H=>m=xs.length - i∧i≤xs.length∧Pv i σ H,⟨xs.length,by simp,Fl _,h0⟩,?_⟩;rintro i m σ H ⟨rfl,hi,p⟩;have q:=hl i σ H hi p
 by_cases hlt:i < xs.length
 · refine .inr ⟨⟨xs,xs[i],q,by simp [hlt]⟩,Pv (i+1),fun σ' H' p'=>⟨xs.length - (i+1),by omega,rfl,hlt,p'⟩,fun x H' y=>?_⟩
   obtain ⟨e,y⟩:=y;subst e;exact hs i x σ _ (y xs q) p
 · have e:i=xs.length:=by omega
   subst e;exact .inl ⟨⟨xs,q,Fe _⟩,hd σ H p⟩
theorem Ww{lo:Int}{n:Nat}{g:TG}{tb:TS}{D:Ig}{σ:St}{H:Hp}(Pv:Nat→St→Hp→Prop)(h0:Pv 0 σ H)
 (hs:∀i σ H,i < n→Pv i σ H→g (.int (lo+i)) σ H fun σ2 H2=>tb {D with nx:=Pv (i+1),ct:=Pv (i+1),bk:=D.nx} σ2 H2) (hd:∀σ H,Pv n σ H→D.nx σ H):
 ∃W:Nat→Nat→St→Hp→Prop,(∃m,W 0 m σ H)∧∀i m σ H,W i m σ H→
  ((Itr lo n).stop i H∧D.nx σ H)∨((Itr lo n).go i H∧∃N:St→Hp→Prop,(∀σ' H',N σ' H'→∃m',m' < m∧W (i+1) m' σ' H')∧∀x H',(Itr lo n).yld i H x H'→g x σ H' fun σ2 H2=>tb {D with nx:=N,ct:=N,bk:=D.nx} σ2 H2):=by
 refine ⟨fun i m σ H=>m=n - i∧i≤n∧Pv i σ H,⟨n,by simp,Fl _,h0⟩,?_⟩;rintro i m σ H ⟨rfl,hi,p⟩
 by_cases hlt:i < n
 · refine .inr ⟨hlt,Pv (i+1),fun σ' H' p'=>⟨n - (i+1),by omega,rfl,hlt,p'⟩,fun x H' y=>?_⟩
   obtain ⟨e,y⟩:=y;subst e y;exact hs i σ _ hlt p
 · have e:i=n:=by omega
   subst e;exact .inl ⟨Fe _,hd σ H p⟩
end L2
namespace L2
abbrev R2:=V→V→Hp→VK→Prop
def OpR(X:Cx)(f:Value→Value→Sem Value)(r:R2):Prop:=
 ∀(pins:List (Addr×Obj)) (s:Shared) (σ:St) (H:Hp) (x y:V) (v u:Value) (Q:VK),Inv X pins σ H s→Aw x v→Aw y u→r x y H Q→
   wpAny (model X.prog X.w) X.A (f v u) (EP X pins σ Q) X.xe s
def UnR(X:Cx)(f:Value→Sem Value)(r:V→Hp→VK→Prop):Prop:=
 ∀(pins:List (Addr×Obj)) (s:Shared) (σ:St) (H:Hp) (x:V) (v:Value) (Q:VK),Inv X pins σ H s→Aw x v→r x H Q→
   wpAny (model X.prog X.w) X.A (f v) (EP X pins σ Q) X.xe s
def El(X:Cx)(f:Value)(r:List V→Hp→VK→Prop):Prop:=
 ∀(pins:List (Addr×Obj)) (s:Shared) (σ:St) (H:Hp) (xs:List V) (us:List Value) (Q:VK),Inv X pins σ H s→Ax xs us→r xs H Q→
   wpAny (model X.prog X.w) X.A (call f us) (EP X pins σ Q) X.xe s
def tOp(r:R2)(ta tb:TE):TE:=fun σ H Q=>ta σ H fun x H1=>tb σ H1 fun y H2=>r x y H2 Q
def tUn(r:V→Hp→VK→Prop)(ta:TE):TE:=fun σ H Q=>ta σ H fun x H1=>r x H1 Q
def rI(C:Int→Int→Prop)(g:Int→Int→V):R2:=fun x y H Q=>∃i j,x= .int i∧y= .int j∧C i j∧Q (g i j) H
def rI0(g:Int→Int→V):R2:=fun x y H Q=>∃i j,x= .int i∧y= .int j∧Q (g i j) H
def rU(g:Int→V):V→Hp→VK→Prop:=fun x H Q=>∃i,x= .int i∧Q (g i) H
section
variable {X:Cx} {a b c:Expr} {ta tb tc:TE} {pos:Pos}
theorem J55(ha:PE X a ta)(hb:PE X b tb){pins:List (Addr×Obj)}{s:Shared}{σ:St}{H:Hp}{R:V→V→Hp→Prop}(I:Inv X pins σ H s)
 (h:ta σ H fun x H1=>tb σ H1 fun y H2=>R x y H2) {Q:Value→Shared→Prop} {f:Value→Value→Sem Value}
 (hf:∀v u s2 x y H2,Inv X pins σ H2 s2→Aw x v→Aw y u→R x y H2→wpAny (model X.prog X.w) X.A (f v u) Q X.xe s2):
 wpAny (model X.prog X.w) X.A (eval a X.env) (fun v s₁=>wpAny (model X.prog X.w) X.A (eval b X.env) (fun u s₂=>wpAny (model X.prog X.w) X.A (f v u) Q X.xe s₂) X.xe s₁) X.xe s:=by
 refine thn (ha pins s σ H _ I h) fun v s1 hq_=>?_;obtain ⟨x,H1,I1,r1,q1⟩:=hq_;refine thn (hb pins s1 σ H1 _ I1 q1) fun u s2 hq_=>?_;obtain ⟨y,H2,I2,r2,q2⟩:=hq_;exact hf v u s2 x y H2 I2 r1 r2 q2
theorem Ah{op:Operator}{r:R2}(ho:OpR X (binaryOp op) r)(ha:PE X a ta)(hb:PE X b tb):PE X (.BinOp a op b pos) (tOp r ta tb):=by
 intro pins s σ H Q I h;exact wpAny_BinOp (J55 ha hb I h fun v u s2 x y H2 I2 rx ry q=>ho pins s2 σ H2 x y v u Q I2 rx ry q)
theorem J6p{op:UnaryOp}{r:V→Hp→VK→Prop}(ho:UnR X (unaryOp op) r)(ha:PE X a ta):PE X (.UnaryOp op a pos) (tUn r ta):=by
 intro pins s σ H Q I h;exact UnaryOp_ (thn (ha pins s σ H _ I h) fun v s1 ⟨x,H1,I1,r1,q1⟩=>ho pins s1 σ H1 x v Q I1 r1 q1)
theorem opI{f:Value→Value→Sem Value}{C:Int→Int→Prop}{g:Int→Int→Int}
 (rule:∀(i j:Int) (t u:Tok) (s:Shared) (Q:Value→Shared→Prop) (E:Value→Shared→Prop),C i j→Q (.int (g i j) s.toks) {s with toks:=s.toks+1}→wpAny (model X.prog X.w) X.A (f (.int i t) (.int j u)) Q E s):
 OpR X f (rI C fun i j=> .int (g i j)):=by
 intro pins s σ H x y v u Q I rx ry h;obtain ⟨i,j,rfl,rfl,hc,q⟩:=h;obtain ⟨t,rfl⟩:=rx;obtain ⟨t',rfl⟩:=ry;exact rule i j t t' s _ _ hc ⟨.int (g i j),H,I.tok _,⟨_,rfl⟩,q⟩
theorem J6q{f:Value→Value→Sem Value}{g:Int→Int→Int}
 (rule:∀(i j:Int) (t u:Tok) (s:Shared) (Q:Value→Shared→Prop) (E:Value→Shared→Prop),Q (.int (g i j) s.toks) {s with toks:=s.toks+1}→wpAny (model X.prog X.w) X.A (f (.int i t) (.int j u)) Q E s):
 OpR X f (rI0 fun i j=> .int (g i j)):=by
 intro pins s σ H x y v u Q I rx ry h;obtain ⟨i,j,rfl,rfl,q⟩:=h;obtain ⟨t,rfl⟩:=rx;obtain ⟨t',rfl⟩:=ry;exact rule i j t t' s _ _ ⟨.int (g i j),H,I.tok _,⟨_,rfl⟩,q⟩
theorem J56{f:Value→Value→Sem Value}{g:Int→Int→Bool}
 (rule:∀(i j:Int) (t u:Tok) (s:Shared) (Q:Value→Shared→Prop) (E:Value→Shared→Prop),Q (.bool (g i j)) s→wpAny (model X.prog X.w) X.A (f (.int i t) (.int j u)) Q E s):
 OpR X f (rI0 fun i j=> .bl (g i j)):=by
 intro pins s σ H x y v u Q I rx ry h;obtain ⟨i,j,rfl,rfl,q⟩:=h;obtain ⟨t,rfl⟩:=rx;obtain ⟨t',rfl⟩:=ry;exact rule i j t t' s _ _ ⟨.bl (g i j),H,I,rfl,q⟩
def J6r(i j:Int):Prop:=0 < j∧j < 1073741824
def J6s(i j:Int):Prop:=0≤j∧j≤1000000∧i.natAbs < 2 ^ 64
def Y6(i j:Int):Prop:=(-(2 ^ 64) < i∧i < 2 ^ 64)∨(-(2 ^ 64) < j∧j < 2 ^ 64)
theorem Y6.ok{i j:Int}(h:Y6 i j):IntMulOk i j:=by
 rcases h with ⟨h1,h2⟩ | ⟨h1,h2⟩
 · exact .of_left (intBits_le_64 h1 h2)
 · exact .of_right (intBits_le_64 h1 h2)
theorem Co:OpR X (binaryOp .Add) (rI0 fun i j=> .int (i+j)):=J6q fun _ _ _ _ _ _ _ q=>add_int q
theorem P5:OpR X (binaryOp .Sub) (rI0 fun i j=> .int (i - j)):=J6q fun _ _ _ _ _ _ _ q=>sub_int q
theorem T9:OpR X (binaryOp .Mult) (rI Y6 fun i j=> .int (i * j)):=opI fun _ _ _ _ _ _ _ hc q=>mul_int q hc.ok
theorem Dw:OpR X (binaryOp .FloorDiv) (rI J6r fun i j=> .int (i / j)):=opI fun i j _ _ _ _ _ hc q=>by
 have h1:(0:Int) < j:=hc.1;have h2:j < 1073741824:=hc.2;exact floordiv_int (by omega) (by rw [Int.fdiv_eq_ediv_of_nonneg i (by omega)];exact q) (.inl (PyProof.noPylong_small (by omega)))
theorem C3:OpR X (binaryOp .Mod) (rI (fun _ j=>0 < j) fun i j=> .int (i % j)):=opI fun i j _ _ _ _ _ hc q=>by
 have h1:(0:Int) < j:=hc;exact mod_int' (by omega) (by rw [Int.fmod_eq_emod_of_nonneg i (by omega)];exact q)
theorem Kc:OpR X (binaryOp .Pow) (rI J6s fun i j=> .int (i ^ j.toNat)):=opI fun _ _ _ _ _ _ _ hc q=>pow_int_small hc.1 hc.2.1 hc.2.2 q
theorem unI{f:Value→Sem Value}{g:Int→Int}
 (rule:∀(i:Int) (t:Tok) (s:Shared) (Q:Value→Shared→Prop) (E:Value→Shared→Prop),Q (.int (g i) s.toks) {s with toks:=s.toks+1}→wpAny (model X.prog X.w) X.A (f (.int i t)) Q E s):
 UnR X f (rU fun i=> .int (g i)):=by
 intro pins s σ H x v Q I rx h;obtain ⟨i,rfl,q⟩:=h;obtain ⟨t,rfl⟩:=rx;exact rule i t s _ _ ⟨.int (g i),H,I.tok _,⟨_,rfl⟩,q⟩
theorem J57:UnR X (unaryOp .USub) (rU fun i=> .int (-i)):=unI fun _ _ _ _ _ q=>neg_int q
end
def scal:V→V→Bool
 | .non,.non=>true | .non,.int _=>true | .int _,.non=>true | .non,.bl _=>true | .bl _,.non=>true | .non,.str _=>true | .str _,.non=>true
 | .int _,.int _=>true | .bl _,.bl _=>true | .str _,.str _=>true | .byt _,.byt _=>true
 | .int _,.str _=>true | .str _,.int _=>true | .bl _,.str _=>true | .str _,.bl _=>true
 | _,_=>false
def rEq:R2:=fun x y H Q=>scal x y=true∧Q (.bl (decide (x=y))) H
def rNe:R2:=fun x y H Q=>scal x y=true∧Q (.bl (!decide (x=y))) H
theorem Uc{i j:Int}:decide (V.int i=V.int j)=(i==j):=by
 rw [Rc];simp
theorem Y7{i j:Bool}:decide (V.bl i=V.bl j)=(i==j):=by
 rw [Rc];simp
theorem Ud{i j:Str}:decide (V.str i=V.str j)=(i==j):=by
 rw [Rc];simp
theorem Ue{i j:Array UInt8}:decide (V.byt i=V.byt j)=(i.toList==j.toList):=by
 rw [Rc];cases i;cases j;simp
section
variable {X:Cx} {a b c:Expr} {ta tb tc:TE} {pos:Pos}
theorem B6{pins:List (Addr×Obj)}{σ:St}{H:Hp}{s:Shared}{Q:VK}{k k':Bool}(I:Inv X pins σ H s)(q:Q (.bl k) H)(e:k=k'):EP X pins σ Q (.bool k') s:=by
 subst e;exact ⟨.bl k,H,I,rfl,q⟩
theorem D1:OpR X (compareOp .Eq) rEq:=by
 intro pins s σ H x y v u Q I rx ry h;obtain ⟨hs,q⟩:=h
 cases x with
 | non=>
  cases rx
  cases y with
  | non=>cases ry;exact PySem.EqNone.eq_none_none (B6 I q (by simp))
  | bl j=>cases ry;exact PySem.EqNone.eq_none_bool (B6 I q (by simp))
  | int j=>obtain ⟨t',rfl⟩:=ry;exact PySem.EqNone.eq_none_int (B6 I q (by simp))
  | str j=>obtain ⟨t',rfl⟩:=ry;exact PySem.EqNone.eq_none_str (B6 I q (by simp))
  | _=>exact absurd (show false=true from hs) Fz
 | bl i=>
  cases rx
  cases y with
  | non=>cases ry;exact PySem.EqNone.eq_bool_none (B6 I q (by simp))
  | bl j=>cases ry;exact eq_bool (B6 I q Y7)
  | str j=>obtain ⟨t',rfl⟩:=ry;exact PySem.EqMixed.eq_bool_str (B6 I q (by simp))
  | _=>exact absurd (show false=true from hs) Fz
 | int i=>
  obtain ⟨t,rfl⟩:=rx
  cases y with
  | non=>cases ry;exact PySem.EqNone.eq_int_none (B6 I q (by simp))
  | int j=>obtain ⟨t',rfl⟩:=ry;exact eq_int (B6 I q Uc)
  | str j=>obtain ⟨t',rfl⟩:=ry;exact PySem.EqMixed.eq_int_str (B6 I q (by simp))
  | _=>exact absurd (show false=true from hs) Fz
 | str i=>
  obtain ⟨t,rfl⟩:=rx
  cases y with
  | non=>cases ry;exact PySem.EqNone.eq_str_none (B6 I q (by simp))
  | bl j=>cases ry;exact PySem.EqMixed.eq_str_bool (B6 I q (by simp))
  | int j=>obtain ⟨t',rfl⟩:=ry;exact PySem.EqMixed.eq_str_int (B6 I q (by simp))
  | str j=>obtain ⟨t',rfl⟩:=ry;exact eq_str (B6 I q Ud)
  | _=>exact absurd (show false=true from hs) Fz
 | byt i=>
  obtain ⟨t,rfl⟩:=rx
  cases y with
  | byt j=>obtain ⟨t',rfl⟩:=ry;exact PySem.W.eq_bytes (B6 I q Ue)
  | _=>exact absurd (show false=true from hs) Fz
 | _=>cases y <;> exact absurd (show false=true from hs) Fz
theorem Ug:OpR X (compareOp .NotEq) rNe:=by
 intro pins s σ H x y v u Q I rx ry h;obtain ⟨hs,q⟩:=h
 cases x with
 | non=>
  cases rx
  cases y with
  | non=>cases ry;exact PySem.EqNone.ne_none_none (B6 I q (by simp))
  | bl j=>cases ry;exact PySem.EqNone.ne_none_bool (B6 I q (by simp))
  | int j=>obtain ⟨t',rfl⟩:=ry;exact PySem.EqNone.ne_none_int (B6 I q (by simp))
  | str j=>obtain ⟨t',rfl⟩:=ry;exact PySem.EqNone.ne_none_str (B6 I q (by simp))
  | _=>exact absurd (show false=true from hs) Fz
 | bl i=>
  cases rx
  cases y with
  | non=>cases ry;exact PySem.EqNone.ne_bool_none (B6 I q (by simp))
  | bl j=>cases ry;exact ne_bool (B6 I q (congrArg not Y7))
  | str j=>obtain ⟨t',rfl⟩:=ry;exact PySem.EqMixed.ne_bool_str (B6 I q (by simp))
  | _=>exact absurd (show false=true from hs) Fz
 | int i=>
  obtain ⟨t,rfl⟩:=rx
  cases y with
  | non=>cases ry;exact PySem.EqNone.ne_int_none (B6 I q (by simp))
  | int j=>obtain ⟨t',rfl⟩:=ry;exact ne_int (B6 I q (congrArg not Uc))
  | str j=>obtain ⟨t',rfl⟩:=ry;exact PySem.EqMixed.ne_int_str (B6 I q (by simp))
  | _=>exact absurd (show false=true from hs) Fz
 | str i=>
  obtain ⟨t,rfl⟩:=rx
  cases y with
  | non=>cases ry;exact PySem.EqNone.ne_str_none (B6 I q (by simp))
  | bl j=>cases ry;exact PySem.EqMixed.ne_str_bool (B6 I q (by simp))
  | int j=>obtain ⟨t',rfl⟩:=ry;exact PySem.EqMixed.ne_str_int (B6 I q (by simp))
  | str j=>obtain ⟨t',rfl⟩:=ry;exact ne_str (B6 I q (congrArg not Ud))
  | _=>exact absurd (show false=true from hs) Fz
 | byt i=>
  obtain ⟨t,rfl⟩:=rx
  cases y with
  | byt j=>obtain ⟨t',rfl⟩:=ry;exact PySem.W.ne_bytes (B6 I q (congrArg not Ue))
  | _=>exact absurd (show false=true from hs) Fz
 | _=>cases y <;> exact absurd (show false=true from hs) Fz
theorem Ki:OpR X (compareOp .Lt) (rI0 fun i j=> .bl (decide (i < j))):=J56 fun _ _ _ _ _ _ _ q=>lt_int q
theorem J41:OpR X (compareOp .LtE) (rI0 fun i j=> .bl (decide (i≤j))):=J56 fun _ _ _ _ _ _ _ q=>le_int q
theorem Nq:OpR X (compareOp .Gt) (rI0 fun i j=> .bl (decide (j < i))):=J56 fun _ _ _ _ _ _ _ q=>gt_int q
theorem Wx:OpR X (compareOp .In) (fun x y H Q=>∃i j,x= .str i∧y= .str j∧Q (.bl (!(Builtin.Str.occurrences j i 0 j.length 1).isEmpty)) H):=by
 intro pins s σ H x y v u Q I rx ry h;obtain ⟨i,j,rfl,rfl,q⟩:=h;obtain ⟨t,rfl⟩:=rx;obtain ⟨t',rfl⟩:=ry;exact in_str (B6 I q rfl)
theorem J58:OpR X (compareOp .Is) (fun x y H Q=>y= .non∧Q (.bl (decide (x= .non))) H):=by
 intro pins s σ H x y v u Q I rx ry h;obtain ⟨rfl,q⟩:=h;cases ry;refine is_none_gen (B6 I q ?_)
 cases x <;> first
  | (cases rx;rfl)
  | (obtain ⟨t,rfl⟩:=rx;rfl)
theorem nomark(b:Expr){op:CmpOp}(h:op≠ .In:=by decide)(h2:op≠ .NotIn:=by decide):behindInMarks op b=false:=by
 have e1:(op==CmpOp.In)=false:=by cases op <;> first | rfl | exact absurd rfl h
 have e2:(op==CmpOp.NotIn)=false:=by cases op <;> first | rfl | exact absurd rfl h2
 cases b <;> simp [behindInMarks,e1,e2]
theorem Dx{op:CmpOp}{r:R2}(ho:OpR X (compareOp op) r)(ha:PE X a ta)(hb:PE X b tb)(hm:behindInMarks op b=false):PE X (.Compare a [op] [b] pos) (tOp r ta tb):=by
 intro pins s σ H Q I h;exact wpAny_Compare1 (J55 ha hb I h fun v u s2 x y H2 I2 rx ry q=>ho pins s2 σ H2 x y v u Q I2 rx ry q) hm
def J42(t:TE):TT:=fun σ H Q=>t σ H fun x H'=>∃k,x= .bl k∧Q k H'
theorem Ao{op:CmpOp}{r:R2}(ho:OpR X (compareOp op) r)(ha:PE X a ta)(hb:PE X b tb)(hm:behindInMarks op b=false):PT X (.Compare a [op] [b] pos) (J42 (tOp r ta tb)):=by
 intro pins s σ H Q I h
 refine wpAny_isTrue_Compare1 (thn (ha pins s σ H _ I h) fun v s1 ⟨x,H1,I1,r1,q1⟩=>thn (hb pins s1 σ H1 _ I1 q1) fun u s2 ⟨y,H2,I2,r2,q2⟩=>
  thn (ho pins s2 σ H2 x y v u _ I2 r1 r2 q2) fun c s3 ⟨z,H3,I3,r3,k,e,q3⟩=>?_) hm
 subst e;cases r3;exact Ht ⟨H3,I3,q3⟩
def Y8(r r':R2)(ta tb tc:TE):TE:=fun σ H Q=>ta σ H fun x H1=>tb σ H1 fun y H2=>r x y H2 fun z H3=>∃k,z= .bl k∧
 (if k=true then tc σ H3 fun w' H4=>r' y w' H4 Q else Q (.bl false) H3)
theorem Y9{op op':CmpOp}{r r':R2}(ho:OpR X (compareOp op) r)(ho':OpR X (compareOp op') r')(ha:PE X a ta)(hb:PE X b tb)(hc:PE X c tc)
 (hm:lastMarks [op,op'] [b,c]=false:=by with_unfolding_all rfl):PE X (.Compare a [op,op'] [b,c] pos) (Y8 r r' ta tb tc):=by
 intro pins s σ H Q I h
 refine Compare_chain (thn (ha pins s σ H _ I h) fun v s1 ⟨x,H1,I1,r1,q1⟩=>chain_link (thn (hb pins s1 σ H1 _ I1 q1) fun u s2 ⟨y,H2,I2,r2,q2⟩=>
  thn (ho pins s2 σ H2 x y v u _ I2 r1 r2 q2) fun d s3 ⟨z,H3,I3,r3,k,e,q3⟩=>?_)) hm
 subst e;cases r3;refine Ht ?_
 cases k with
 | false=>exact ite_ff ⟨.bl false,H3,I3,rfl,q3⟩
 | true=>exact ite_tt (chain_last (thn (hc pins s3 σ H3 _ I3 q3) fun w' s4 ⟨z',H4,I4,r4,q4⟩=>ho' pins s4 σ H4 y z' u w' Q I4 r2 r4 q4))
theorem Kd:(sizeLine:Nat) < 2 ^ 63:=by rw [sizeLine_eq];decide
theorem B3:OpR X (binaryOp .Add) (fun x y H Q=>∃i j,x= .str i∧y= .str j∧i.length+j.length≤sizeLine∧Q (.str (i++j)) H):=by
 intro pins s σ H x y v u Q I rx ry h;obtain ⟨i,j,rfl,rfl,hz,q⟩:=h;obtain ⟨t,rfl⟩:=rx;obtain ⟨t',rfl⟩:=ry;exact add_str (fun t' tk=>⟨.str (i++j),H,I.tok _,⟨_,rfl⟩,q⟩) hz
theorem Ic{x:V}{us:List Value}(r:Ax [x] us):∃u,us=[u]∧Aw x u:=by
 cases r with
 | cons r1 r2=>cases r2;exact ⟨_,rfl,r1⟩
theorem J43{x y:V}{us:List Value}(r:Ax [x,y] us):∃u w',us=[u,w']∧Aw x u∧Aw y w':=by
 cases r with
 | cons r1 r2=>
  cases r2 with
  | cons r3 r4=>cases r4;exact ⟨_,_,rfl,r1,r3⟩
theorem Wy(hc:X.calm=true):El X (.builtin "max") (fun xs H Q=>∃i j,xs=[.int i,.int j]∧Q (.int (if j > i then j else i)) H):=by
 intro pins s σ H xs us Q I r h;obtain ⟨i,j,rfl,q⟩:=h;obtain ⟨u,w',rfl,⟨t,rfl⟩,⟨t',rfl⟩⟩:=J43 r
 refine max_two_ints (I.ok.hd hc) fun h' tk k=>⟨_,H,I.kept k,?_,q⟩
 by_cases hj:j > i
 · rw [if_pos hj,if_pos hj];exact ⟨_,rfl⟩
 · rw [if_neg hj,if_neg hj];exact ⟨_,rfl⟩
theorem Nr:El X (.type "int") (fun xs H Q=>(∃i,xs=[.int i]∧Q (.int i) H)∨∃k,xs=[.bl k]∧Q (.int (if k then 1 else 0)) H):=by
 intro pins s σ H xs us Q I r h;rcases h with ⟨i,rfl,q⟩ | ⟨k,rfl,q⟩
 · obtain ⟨u,rfl,t,rfl⟩:=Ic r
   exact call_int_int ⟨.int i,H,I,⟨_,rfl⟩,q⟩
 · obtain ⟨u,rfl,r1⟩:=Ic r
   cases r1;exact call_int_bool ⟨.int (if k then 1 else 0),H,I.tok _,⟨_,rfl⟩,q⟩
theorem Bm:El X (.type "str") (fun xs H Q=>∃i,xs=[.int i]∧i.natAbs.log2 < 1920∧Q (.str (toString i)) H):=by
 intro pins s σ H xs us Q I r h;obtain ⟨i,rfl,hz,q⟩:=h;obtain ⟨u,rfl,t,rfl⟩:=Ic r;exact PySem.P.str_of_int hz ⟨.str _,H,I.tok _,⟨_,rfl⟩,q⟩
end
end L2
namespace L2
structure Ta(h:Heap)(x dx C:Addr)(mA:Str→Option Value):Prop where
 obj:h.get? x=some (PySem.W.instObj C dx)
 ns:h.Ns1 dx mA
 ne:dx≠x
theorem Wz{h:Heap}{dx:Addr}{mA:Str→Option Value}(n:h.Ns1 dx mA):∃od,h.get? dx=some od∧∀name,PySem.W.lookIn name od=some (mA name):=by
 obtain ⟨o,es,ep,ho,hd,hk,_,hm⟩:=n;refine ⟨o,ho,fun name=>?_⟩;have e:=hm name;unfold nsFind findBy at e;rw [← Array.find?_toList]at e;unfold PySem.W.lookIn;rw [hd];dsimp only;split
 · rename_i y q
   rw [q]at e;exact congrArg some e
 · rename_i q
   rw [q]at e
   have a:es.toList.any (·.refKey)=false:=by
    rw [List.any_eq_false];intro y hy;obtain ⟨z,t,hkey⟩:=hk y (Array.mem_toList_iff.mp hy);simp [DictEntry.refKey,hkey]
   have a':¬es.toList.any (·.refKey)=true:=by rw [a];exact Fz
   rw [if_neg a'];exact congrArg some e
theorem Ta.look{h:Heap}{x dx C:Addr}{mA:Str→Option Value}(I:Ta h x dx C mA):∃od,PySem.W.InstAt h x (PySem.W.instObj C dx) C (some od)∧∀name,PySem.W.lookIn name od=some (mA name):=
 let ⟨od,ho,hl⟩:=Wz I.ns
 ⟨od,⟨I.obj,rfl,rfl,ho⟩,hl⟩
section
variable {prog:Program} {w:World} {A:Around} {E:Value→Shared→Prop} {s:Shared} {K:PySem.W.Frag} {x dx C f:Addr} {mA:Str→Option Value} {name:Str} {v:Value}
theorem J2n{expr:Bool}{Q:Value→Shared→Prop}(X:K.In s.heap)(I:Ta s.heap x dx C mA)(hg:PySem.W.plainGet K C name=true)(hh:PySem.W.hasDictIn K C=true)
 (ha:PySem.W.findIn K (.ref C) name=some none) (hv:mA name=some v) (hv':PySem.W.handedIn v=true) (h:Q v {s with toks:=s.toks+1}):
 wpAny (model prog w) A (getAttr (.ref x) name expr) Q E s:=by
 obtain ⟨od,J,hl⟩:=I.look;exact PySem.W.get_value X J (RB hg).1 (PySem.W.findObj_own hh ha rfl (by rw [hl,hv])) hv' h
theorem Ya{pl:Sem Bool}{Q:Value×List Value→Shared→Prop}(X:K.In s.heap)(I:Ta s.heap x dx C mA)(hg:PySem.W.plainGet K C name=true)
 (hf:PySem.W.findIn K (.ref C) name=some (some (.ref f))) (ht:PySem.W.isFn K (.ref f)=true) (hv:mA name=none) (h:Q (.ref f,[.ref x]) s):
 wpAny (model prog w) A (getMethod (.ref x) name pl) Q E s:=by
 obtain ⟨od,J,hl⟩:=I.look;exact PySem.W.method_fn X J (RB hg).1 (RB hg).2 hf (HJ.mp ht) (by show (PySem.W.lookIn name od).map (·.isSome)=some false;rw [hl,hv];rfl) h
theorem J2o{ns:List Str}{Q:Unit→Shared→Prop}(X:K.In s.heap)(I:Ta s.heap x dx C mA)
 (hs:PySem.W.findIn K (.ref C) "__setattr__"=some (some (.builtin "object.__setattr__"))) (hp:PySem.W.plainOver K C=true) (ht:PySem.W.takerIn K C name=some none) (hh:PySem.W.hasDictIn K C=true)
 (hw:PySem.Within mA ns) (hsz:ns.length≤sizeLine)
 (h:∀h',Ta h' x dx C (fun y=>if y=name then some v else mA y)→Heap.SameBut dx s.heap h'→Q () {s with heap:=h',toks:=s.toks+2}):
 wpAny (model prog w) A (setAttr (.ref x) name v) Q E s:=by
 obtain ⟨od,J,hl⟩:=I.look;refine PySem.W.set_plain X J hs (PySem.W.osa_open (s:={s with toks:=s.toks+1}) (r:=none) X J hp ht fun b=>?_);obtain ⟨cd,hc,hd'⟩:=PySem.W.any_some hh;have hx:s.heap.get? x=some ⟨.ref C,some dx,.plain,#[]⟩:=I.obj;refine FK (FW (FK (FK (wpAny_loadPart hx (FK (PySem.W.Looks.here (s:={s with toks:=s.toks+1}) (PySem.W.looks_clsIn X hc) ?_))))));rw [hd'];refine FW (a:=some dx) (FK (FW (FK ?_)));refine wpAny_nsSet1 (s:={s with toks:=s.toks+1}) I.ns fun h' hn2 hs2=>?_;obtain ⟨oD,esD,epD,hoD,hdD,hcD⟩:=hn2.count (PySem.Within.cons name v hw);refine FK (wpAny_lookBehind hoD (by rw [hdD];exact pastItsLine_dict (FA hcD (by rw [List.length_cons];omega))) ?_);exact FW (h _ ⟨(hs2.2 _ (Ne.symm I.ne)).trans I.obj,hn2,I.ne⟩ hs2)
theorem Q3{R:Result→Shared→Prop}{vs:List Value}{kw:List (Str×Value)}(X:K.In s.heap)(hm:PySem.W.makesIn K C=true)
 (hi:PySem.W.findIn K (.ref C) "__init__"=some (some (.ref f))) (hf:PySem.W.typeIn K (.ref f)=some (.type "function"))
 (h:codeAny (model prog w) (A.under (.builtin "type.__call__" ⟨.ref C::vs,kw⟩)) (.call (.ref f) ⟨.ref (s.heap.objs.size+1)::vs,kw⟩) (PySem.W.InitBack (s.heap.objs.size+1) R)
  {s with heap:=(s.heap.push PySem.W.emptyDict).push (PySem.W.instObj C s.heap.objs.size)}):
 codeAny (model prog w) A (.call (.ref C) ⟨vs,kw⟩) R s:=by
 obtain ⟨hh,g,d,t,os⟩:=s;exact PySem.W.make_core (PySem.W.makes_of X hm) (PySem.W.looks_findIn X hi) (fun self=>PySem.W.bind_fn X self hf) (.inl rfl) h
end
def Aj(f:Str)(v:V):List (Str×V)→List (Str×V)
 | []=>[(f,v)]
 | (g,x)::r=>if g=f then (g,v)::r else (g,x)::Aj f v r
theorem An(f g:Str)(v:V):∀fs:List (Str×V),(Aj f v fs).lookup g=if g=f then some v else fs.lookup g
 | []=>by
  show List.lookup g [(f,v)]=_
  by_cases h:g=f
  · have hb:(g==f)=true:=HJ.mpr h
    simp only [List.lookup,hb,if_pos h]
  · have hb:(g==f)=false:=HL.mpr h
    simp only [List.lookup,hb,if_neg h]
 | (k,x)::r=>by
  have ih:=An f g v r;rw [show Aj f v ((k,x)::r)=(if k=f then (k,v)::r else (k,x)::Aj f v r) from rfl]
  by_cases hk:k=f
  · rw [if_pos hk]
    by_cases h:g=k
    · have hb:(g==k)=true:=HJ.mpr h
      simp only [List.lookup,hb,if_pos (h.trans hk)]
    · have hb:(g==k)=false:=HL.mpr h
      simp only [List.lookup,hb,if_neg (fun e:g=f=>h (e.trans hk.symm))]
  · rw [if_neg hk]
    by_cases h:g=k
    · have hb:(g==k)=true:=HJ.mpr h
      simp only [List.lookup,hb,if_neg (fun e:g=f=>hk (h.symm.trans e))]
    · have hb:(g==k)=false:=HL.mpr h
      simp only [List.lookup,hb];exact ih
theorem L3(f:Str)(v:V):∀fs:List (Str×V),f∈(Aj f v fs).map (·.1)∧∀g,g∈fs.map (·.1)→g∈(Aj f v fs).map (·.1)
 | []=>⟨by simp [Aj],fun g h=>by simp at h⟩
 | (k,x)::r=>by
  obtain ⟨i1,i2⟩:=L3 f v r;rw [show Aj f v ((k,x)::r)=(if k=f then (k,v)::r else (k,x)::Aj f v r) from rfl]
  by_cases hk:k=f
  · rw [if_pos hk]
    subst hk;exact ⟨by simp,fun g h=>by simpa using h⟩
  · rw [if_neg hk]
    refine ⟨?_,fun g h=>?_⟩
    · rw [List.map_cons]
      exact Fd _ i1
    · rw [List.map_cons]at h ⊢
      rcases Fh.mp h with e | e
      · exact Fh.mpr (.inl e)
      · exact Fd _ (i2 g e)
theorem Ii(f:Str)(v:V):∀fs:List (Str×V),(Aj f v fs).length≤fs.length+1
 | []=>by simp [Aj]
 | (k,x)::r=>by
  have ih:=Ii f v r;rw [show Aj f v ((k,x)::r)=(if k=f then (k,v)::r else (k,x)::Aj f v r) from rfl]
  by_cases hk:k=f
  · rw [if_pos hk,List.length_cons,List.length_cons];omega
  · rw [if_neg hk,List.length_cons,List.length_cons];omega
theorem Gb.some_of{v:V}{o:Option Value}(r:Gb (some v) o):∃u,o=some u∧Aw v u:=by
 cases o with
 | none=>exact (show False from r).elim
 | some u=>exact ⟨u,rfl,r⟩
theorem Gb.none_of{o:Option Value}(r:Gb none o):o=none:=by
 cases o with
 | none=>rfl
 | some u=>exact (show False from r).elim
theorem X0{v:V}{u:Value}(r:Aw v u):PySem.W.handedIn u=true:=by
 cases v with
 | non=>cases (show u=Value.none from r);rfl
 | bl b=>cases (show u=Value.bool b from r);rfl
 | int i=>obtain ⟨t,e⟩:=(show ∃t,u=Value.int i t from r);cases e;rfl
 | str x=>obtain ⟨t,e⟩:=(show ∃t,u=Value.str x t from r);cases e;rfl
 | byt b=>obtain ⟨t,e⟩:=(show ∃t,u=Value.bytes b t from r);cases e;rfl
 | flt b=>obtain ⟨t,e⟩:=(show ∃t,u=Value.float b t from r);cases e;rfl
 | ref a=>cases (show u=Value.ref a from r);rfl
 | ty n=>cases (show u=Value.type n from r);rfl
section
variable {P:Program} {w:World} {H H':Hp} {h h':Heap} {a C dx:Addr} {fs fs':List (Str×V)}
theorem Lw(hok:HOk P w H h)(e:H a=some (.ins C dx fs)):∃mA,Ta h a dx C mA∧(∀f,Gb (fs.lookup f) (mA f))∧PySem.Within mA (fs.map (·.1))∧fs.length≤1000∧H dx=some (.own a):=by
 obtain ⟨d,z,ne,ob,mA,n,r,q⟩:=(show Bv P w H h a (.ins C dx fs) from hok a _ e)
 exact ⟨mA,⟨ob,n,ne⟩,r,q,z,d⟩
end
structure Cls(K:PySem.W.Frag)(C:Addr):Prop where
 pg:PySem.W.plainGet K C Str.empty=true
 hd:PySem.W.hasDictIn K C=true
 po:PySem.W.plainOver K C=true
 sa:PySem.W.findIn K (.ref C) "__setattr__"=some (some (.builtin "object.__setattr__"))
theorem Cls.get{K:PySem.W.Frag}{C:Addr}(c:Cls K C)(f:Str):PySem.W.plainGet K C f=true:=c.pg
def B7(K:PySem.W.Frag)(C:Addr)(f:Str):Prop:=PySem.W.findIn K (.ref C) f=some none
theorem B7.taker{K:PySem.W.Frag}{C:Addr}{f:Str}(n:B7 K C f):PySem.W.takerIn K C f=some none:=by
 unfold PySem.W.takerIn;rw [show PySem.W.findIn K (.ref C) f=some none from n];rfl
structure J2p(K:PySem.W.Frag)(C:Addr)(m:Str)(f:Addr):Prop where
 at_:PySem.W.findIn K (.ref C) m=some (some (.ref f))
 fn:PySem.W.isFn K (.ref f)=true
 kp:PySem.W.keepIn K (.ref f)=true
section
variable {X:Cx} {pins:List (Addr×Obj)} {σ:St} {H:Hp} {s:Shared} {a C dx:Addr} {fs:List (Str×V)} {f:Str} {v:V} {A:Around} {E:Value→Shared→Prop}
theorem Mn{b:Bool}{Q:Value→Shared→Prop}(I:Inv X pins σ H s)(e:H a=some (.ins C dx fs))(c:Cls X.K C)(n:B7 X.K C f)(l:fs.lookup f=some v)
 (h:∀u s',Inv X pins σ H s'→Aw v u→Q u s'):wpAny (model X.prog X.w) A (getAttr (.ref a) f b) Q E s:=by
 obtain ⟨mA,O,r,_,_,_⟩:=Lw I.hok e;obtain ⟨u,hu,ru⟩:=Gb.some_of (v:=v) (o:=mA f) (by rw [← l];exact r f);exact J2n I.kIn O (c.get f) c.hd n hu (X0 ru) (h u _ (I.tok _) ru)
theorem Ge{m:Str}{g:Addr}{pl:Sem Bool}{Q:Value×List Value→Shared→Prop}(I:Inv X pins σ H s)(e:H a=some (.ins C dx fs))(c:Cls X.K C)(k:J2p X.K C m g)(l:fs.lookup m=none)
 (h:Q (.ref g,[.ref a]) s):wpAny (model X.prog X.w) A (getMethod (.ref a) m pl) Q E s:=by
 obtain ⟨mA,O,r,_,_,_⟩:=Lw I.hok e;have hn:mA m=none:=Gb.none_of (by rw [← l];exact r m);exact Ya I.kIn O (c.get m) k.at_ k.fn hn h
theorem Mo{y:V}{u:Value}{Q:Unit→Shared→Prop}(I:Inv X pins σ H s)(e:H a=some (.ins C dx fs))(c:Cls X.K C)(n:B7 X.K C f)(hl:fs.length < 1000)(ry:Aw y u)
 (h:∀s',Inv X pins σ (upd H a (.ins C dx (Aj f y fs))) s'→Q () s'):wpAny (model X.prog X.w) A (setAttr (.ref a) f u) Q E s:=by
 obtain ⟨mA,O,r,wi,_,ho⟩:=Lw I.hok e
 have hz:(fs.map (·.1)).length≤sizeLine:=by rw [Fa,sizeLine_eq];omega
 refine J2o I.kIn O c.sa c.po n.taker c.hd wi hz fun h' O' sb=>h _ ?_;have hd:∃o,h'.get? dx=some o:=let ⟨o,_,_,e',_⟩:=O'.ns;⟨o,e'⟩;refine I.write (x:=a) (e:=dx) (by rw [e];exact True.intro) (.inr ho) (fun b q hb z=>(sb.2 b hb).trans z) hd ?_;refine ⟨by rw [A4 O.ne];exact ho,?_,O.ne,O'.obj,_,O'.ns,fun g=>?_,fun g hg=>?_⟩
 · have:=Ii f y fs;omega
 · show Gb ((Aj f y fs).lookup g) (if g=f then some u else mA g)
   rw [An]
   by_cases q:g=f
   · rw [if_pos q,if_pos q];exact ry
   · rw [if_neg q,if_neg q];exact r g
 · by_cases q:g=f
   · rw [q];exact (L3 f y fs).1
   · refine (L3 f y fs).2 g (wi g fun z=>hg ?_)
     show (if g=f then some u else mA g)=none;rw [if_neg q];exact z
theorem Inv.made(I:Inv X pins σ H s):Inv X pins σ (upd (upd H s.heap.objs.size (.own (s.heap.objs.size+1))) (s.heap.objs.size+1) (.ins C s.heap.objs.size []))
 {s with heap:=(s.heap.push PySem.W.emptyDict).push (PySem.W.instObj C s.heap.objs.size)}:=by
 have e1:(s.heap.push PySem.W.emptyDict).get? s.heap.objs.size=some PySem.W.emptyDict:=FI s.heap rfl
 have e2:((s.heap.push PySem.W.emptyDict).push (PySem.W.instObj C s.heap.objs.size)).get? (s.heap.objs.size+1)=some (PySem.W.instObj C s.heap.objs.size):=by
  have:=FI (s.heap.push PySem.W.emptyDict) (o:=PySem.W.instObj C s.heap.objs.size) rfl
  rwa [Rz]at this
 have e3:(s.heap.push PySem.W.emptyDict).Ns s.heap.objs.size (fun _=>none):=⟨PySem.W.emptyDict,#[],_,e1,rfl,(fun e he=>absurd he (by simp)),fun _=>rfl⟩
 have I1:=I.laid (a:=s.heap.objs.size) (o:= .own (s.heap.objs.size+1)) (h':=s.heap.push PySem.W.emptyDict) (t':=s.toks) (fun b u q=>Fm _ q) (Fe _) ⟨_,e1⟩;refine I1.laid (a:=s.heap.objs.size+1) (o:= .ins C s.heap.objs.size []) (t':=s.toks) (fun b u q=>Fm _ q) (Hj (Rz _ _)) ?_;have ne:s.heap.objs.size≠s.heap.objs.size+1:=FF (R5 _);refine ⟨by rw [A4 ne,A3],Fl _,ne,e2,fun _=>none,(Heap.Ns1.of_empty e3).at fun o q=>Fm _ q,fun _=>True.intro,fun y hy=>absurd rfl hy⟩
theorem J2q{prog:Program}{w:World}{env:Env}{e:Expr}{f:Str}{pos:Pos}{s:Shared}{Q:Value→Shared→Prop}(hb:attributeBase e f env (eval e env)=eval e env)
 (h:wpAny (model prog w) A (eval e env) (fun o s₁=>wpAny (model prog w) A (getAttr o f true) Q E s₁) E s):wpAny (model prog w) A (eval (.Attribute e f pos) env) Q E s:=
 Attribute_any_ h (by rw [arm_eval_Attribute,hb])
end
def J6t(K:PySem.W.Frag)(ta:TE)(f:Str):TE:=fun σ H Q=>ta σ H fun x H1=>∃a C dx fs v,x= .ref a∧H1 a=some (.ins C dx fs)∧Cls K C∧B7 K C f∧fs.lookup f=some v∧Q v H1
def J6u(K:PySem.W.Frag)(ta tv:TE)(f:Str):TS:=fun D σ H=>tv σ H fun y H1=>ta σ H1 fun x H2=>∃a C dx fs,x= .ref a∧H2 a=some (.ins C dx fs)∧Cls K C∧B7 K C f∧fs.length < 1000∧
 D.nx σ (upd H2 a (.ins C dx (Aj f y fs)))
def J6v(X:Cx)(op:Operator)(rd:V→V→Hp→VK→Prop):Prop:=
 ∀(pins:List (Addr×Obj)) (s:Shared) (σ:St) (H:Hp) (x y:V) (u v:Value) (Q:VK),Inv X pins σ H s→Aw x u→Aw y v→rd x y H Q→wpAny (model X.prog X.w) X.A (inplaceOp op u v) (EP X pins σ Q) X.xe s
def Uh(K:PySem.W.Frag)(ta tv:TE)(rd:V→V→Hp→VK→Prop)(f:Str):TS:=fun D σ H=>ta σ H fun x H1=>∃a C dx fs v,x= .ref a∧H1 a=some (.ins C dx fs)∧Cls K C∧B7 K C f∧fs.lookup f=some v∧
 tv σ H1 fun y H2=>rd v y H2 fun z H3=>∃dx' fs',H3 a=some (.ins C dx' fs')∧fs'.length < 1000∧D.nx σ (upd H3 a (.ins C dx' (Aj f z fs')))
section
variable {X:Cx} {o e value:Expr} {f:Str} {pos pos' tpos:Pos} {ta tv:TE}
theorem Af(he:PE X e ta)(hb:attributeBase e f X.env (eval e X.env)=eval e X.env):PE X (.Attribute e f pos) (J6t X.K ta f):=by
 intro pins s σ H Q I h;refine J2q hb (thn (he pins s σ H _ I h) fun u s1 hq_=>?_);obtain ⟨x,H1,I1,rx,a,C,dx,fs,v,ex,ea,c,n,l,q⟩:=hq_;subst ex;obtain rfl:u=Value.ref a:=rx
 exact Mn I1 ea c n l fun u' s2 I2 ru=>⟨v,H1,I2,ru,q⟩
theorem Bc(ha:PE X o ta)(hv:PE X value tv)(hs:swapsWith value (some (.Attribute o f pos')) pos.line X.env=pure false):PS X (.Assign [.Attribute o f pos'] value pos) (J6u X.K ta tv f):=by
 intro pins s σ H D I h;refine plainObj_wpAny_Assign_Attribute (thn (hv pins s σ H _ I h) fun u s1 ⟨y,H1,I1,ry,q⟩=>thn (ha pins s1 σ H1 _ I1 q) fun ov s2 hq_=>?_) hs;obtain ⟨x,H2,I2,rx,a,C,dx,fs,ex,ea,c,n,l,q2⟩:=hq_;subst ex;obtain rfl:ov=Value.ref a:=rx
 exact Mo I2 ea c n l ry fun s3 I3=>⟨σ,_,I3,q2⟩
theorem Nt{op:Operator}{rd:V→V→Hp→VK→Prop}(ha:PE X o ta)(hv:PE X value tv)(hop:J6v X op rd):PS X (.AugAssign (.Attribute o f tpos) op value pos) (Uh X.K ta tv rd f):=by
 intro pins s σ H D I h;refine wpAny_AugAssign_AttributeAny (thn (ha pins s σ H _ I h) fun ov s1 hq_=>?_);obtain ⟨x,H1,I1,rx,a,C,dx,fs,v,ex,ea,c,n,l,q⟩:=hq_;subst ex;obtain rfl:ov=Value.ref a:=rx;refine Mn I1 ea c n l fun u s2 I2 ru=>thn (hv pins s2 σ H1 _ I2 q) fun w3 s3 ⟨y,H2,I3,ry,q3⟩=>thn (hop pins s3 σ H2 v y u w3 _ I3 ru ry q3) fun w4 s4 hq_=>?_;obtain ⟨z,H3,I4,rz,dx',fs',ea',l',q4⟩:=hq_
 exact Mo I4 ea' c n l' rz fun s5 I5=>⟨σ,_,I5,q4⟩
def J8g:V→V→Hp→VK→Prop:=fun x y H Q=>∃i j,x= .int i∧y= .int j∧Q (.int (i+j)) H
theorem Yb:J6v X .Add J8g:=by
 rintro pins s σ H x y u v Q I rx ry ⟨i,j,rfl,rfl,q⟩
 obtain ⟨t,rfl⟩:=(show ∃t,u=Value.int i t from rx)
 obtain ⟨t',rfl⟩:=(show ∃t',v=Value.int j t' from ry)
 exact PyProof.Rows.iadd_int ⟨.int (i+j),H,I.tok _,⟨_,rfl⟩,q⟩
end
section
variable {X:Cx} {pins:List (Addr×Obj)} {σ:St} {H:Hp} {s:Shared} {A:Around} {E:Value→Shared→Prop} {Q:Value→Shared→Prop} {c:Value} {b:Bool}
inductive L4(K:PySem.W.Frag)(H:Hp):V→Value→Prop where
 | non:L4 K H .non (.type "NoneType")
 | bl (x:Bool):L4 K H (.bl x) (.type "bool")
 | int (i:Int):L4 K H (.int i) (.type "int")
 | str (x:Str):L4 K H (.str x) (.type "str")
 | flt (x:UInt64):L4 K H (.flt x) (.type "float")
 | lst {a:Addr} {xs:List V} (e:H a=some (.lst xs)):L4 K H (.ref a) (.type "list")
 | frz {a:Addr} {o:Obj} {xs:List V} (e:H a=some (.frz o (.lst xs))):L4 K H (.ref a) (.type "list")
 | tup {a:Addr} {xs:List V} (e:H a=some (.tup xs)):L4 K H (.ref a) (.type "tuple")
 | dK {a:Addr} {kvs:List (Key×V)} (e:H a=some (.dK kvs)):L4 K H (.ref a) (.type "dict")
 | dT {a:Addr} {kvs:List (List Key×V)} (e:H a=some (.dT kvs)):L4 K H (.ref a) (.type "dict")
 | ins {a C dx:Addr} {fs:List (Str×V)} (e:H a=some (.ins C dx fs)) (cl:Cls K C) (ha:PySem.W.findIn K (.ref C) "__class__"=some (some (.builtin "object.__class__")))
  (hn:PySem.W.specialIn K (.builtin "object.__class__") "__get__"=some (some (.builtin "getset_descriptor.__get__"))) (htk:PySem.W.takesIn K (.builtin "object.__class__")=some true)
  (hm:PySem.W.mroIn K C (.type "object")=some true):L4 K H (.ref a) (.ref C)
theorem X1{x:V}{u t:Value}(I:Inv X pins σ H s)(rx:Aw x u)(ty:L4 X.K H x t)(e:PySem.W.kitOne X.K t c=some b)(h:∀tk,Q (.bool b) {s with toks:=tk}):
 wpAny (model X.prog X.w) A (call (.builtin "isinstance") [u,c]) Q E s:=by
 cases ty with
 | non=>cases (show u=Value.none from rx);exact Hc PySem.W.kitx_none I.kIn True.intro e (fun z=>nomatch z) h
 | bl y=>cases (show u=Value.bool y from rx);exact Hc PySem.W.kitx_bool I.kIn True.intro e (fun z=>nomatch z) h
 | int i=>obtain ⟨t,q⟩:=(show ∃t,u=Value.int i t from rx);cases q;exact Hc PySem.W.kitx_int I.kIn True.intro e (fun z=>nomatch z) h
 | str y=>obtain ⟨t,q⟩:=(show ∃t,u=Value.str y t from rx);cases q;exact Hc PySem.W.kitx_str I.kIn True.intro e (fun z=>nomatch z) h
 | flt y=>obtain ⟨t,q⟩:=(show ∃t,u=Value.float y t from rx);cases q;exact Hc PySem.W.kitx_float I.kIn True.intro e (fun z=>nomatch z) h
 | @lst a xs ea=>
  cases (show u=Value.ref a from rx)
  obtain ⟨_,_,n,_,h1⟩:=(show Bv X.prog X.w H s.heap a (.lst xs) from I.hok a _ ea)
  exact Hc PySem.W.kitx_list I.kIn ⟨_,h1,rfl⟩ e (fun z=>nomatch z) h
 | @frz a ob xs ea=>
  cases (show u=Value.ref a from rx)
  obtain ⟨_,_,_,n,_,h1⟩:=(show Bv X.prog X.w H s.heap a (.frz ob (.lst xs)) from I.hok a _ ea)
  exact Hc PySem.W.kitx_list I.kIn ⟨_,h1,rfl⟩ e (fun z=>nomatch z) h
 | @tup a xs ea=>
  cases (show u=Value.ref a from rx)
  obtain ⟨_,_,_,p⟩:=(show Bv X.prog X.w H s.heap a (.tup xs) from I.hok a _ ea)
  obtain ⟨o,h1,h2,_⟩:=p;exact Hc PySem.W.kitx_tuple I.kIn ⟨o,h1,h2⟩ e (fun z=>nomatch z) h
 | @dK a kvs ea=>
  cases (show u=Value.ref a from rx)
  obtain ⟨_,_,vs,_,p⟩:=(show Bv X.prog X.w H s.heap a (.dK kvs) from I.hok a _ ea)
  obtain ⟨o,es,ep,h1,h2,_⟩:=p;exact Hc PySem.W.kitx_dict I.kIn ⟨o,h1,h2.1⟩ e (fun z=>nomatch z) h
 | @dT a kvs ea=>
  cases (show u=Value.ref a from rx)
  obtain ⟨_,_,xs,_,o,es,ep,h1,h2,_⟩:=(show Bv X.prog X.w H s.heap a (.dT kvs) from I.hok a _ ea)
  exact Hc PySem.W.kitx_dict I.kIn ⟨o,h1,h2.1⟩ e (fun z=>nomatch z) h
 | @ins a C dx fs ea cl ha hn htk hm=>
  cases (show u=Value.ref a from rx);obtain ⟨mA,O,_⟩:=Lw I.hok ea;obtain ⟨od,J,_⟩:=O.look;exact Hc (PySem.W.kitx_own (cl.get _) cl.hd ha hn htk hm) I.kIn J e (fun z=>nomatch z) h
end
end L2
namespace L2
structure Cv(k:Nat)(A:Around):Prop where
 hd:A.handled=none
 dp:A.depth+3 * k+5 < recursionLimit
 un:A.units+16 * k+200 < cLine
theorem Cv.mono{j k:Nat}{A:Around}(r:Cv k A)(h:j≤k):Cv j A:=⟨r.hd,by have:=r.dp;omega,by have:=r.un;omega⟩
theorem Cv.deeper{k:Nat}{A:Around}(r:Cv (k+1) A)(env:Env):Cv k (A.deeper env):=
 ⟨r.hd,by have:=r.dp;show A.depth+1+3 * k+5 < _;omega,by have:=r.un;show A.units+3+16 * k+200 < _;omega⟩
theorem Tb{A:Around}{C:Addr}{us:List Value}{kw:List (Str×Value)}:(A.under (.builtin "type.__call__" ⟨.ref C::us,kw⟩)).depth=A.depth+1:=by
 first | rfl | simp [Around.under,Code.weight,Code.isCreation,Code.isGuard,Code.isCaller,Code.frames,Code.isFrame,guardIds]
theorem Tc{A:Around}{C:Addr}{us:List Value}{kw:List (Str×Value)}:(A.under (.builtin "type.__call__" ⟨.ref C::us,kw⟩)).units=A.units+1:=by
 first | rfl | simp [Around.under,Code.cUnits,Code.frames,Code.isFrame]
theorem Cv.make{k:Nat}{A:Around}(r:Cv (k+1) A)(C:Addr)(us:List Value)(kw:List (Str×Value)):Cv k (A.under (.builtin "type.__call__" ⟨.ref C::us,kw⟩)):=
 ⟨r.hd,by have:=r.dp;rw [Tb];omega,by have:=r.un;rw [Tc];omega⟩
theorem Cv.depth{k:Nat}{A:Around}(r:Cv k A):A.depth < recursionLimit:=by have:=r.dp;omega
theorem Cv.units{k:Nat}{A:Around}(r:Cv k A):A.units+64 < cLine:=by have:=r.un;omega
def Yc:TA:=fun _ H Q=>Q [] H
def J44(ta:TE)(tr:TA):TA:=fun σ H Q=>ta σ H fun x H1=>tr σ H1 fun xs H2=>Q (x::xs) H2
section
variable {X:Cx} {e:Expr} {es:List Expr} {te:TE} {t:TA} {pos:Pos}
theorem A2:PA X [] Yc:=fun _ _ _ _ H Q I h=>Calls.spliced_nil ⟨[],H,I,.nil,h⟩
theorem A0(ha:PE X e te)(hr:PA X es t)(hs:starEach (e::es) X.env=(false,eval e X.env)::starEach es X.env:=by rfl):PA X (e::es) (J44 te t):=by
 intro pos pins s σ H Q I h;rw [hs];show wpAny _ _ (spliced ((false,eval e X.env)::backTo pos (starEach es X.env))) _ _ s;refine Calls.spliced_cons (thn (ha pins s σ H _ I h) fun u s1 hq_=>?_);obtain ⟨x,H1,I1,r1,q1⟩:=hq_
 exact thn (hr pos pins s1 σ H1 _ I1 q1) fun us s2 ⟨xs,H2,I2,r2,q2⟩=>⟨x::xs,H2,I2,.cons r1 r2,q2⟩
def J6w(t:TA):TE:=fun σ H Q=>t σ H fun xs H1=>xs.length≤sizeLine∧∀p,H1 p=none→Q (.ref p) (upd H1 p (.tup xs))
def J6x(t:TA):TE:=fun σ H Q=>t σ H fun xs H1=>xs.length≤sizeLine∧∀p,H1 p=none→Q (.ref p) (upd H1 p (.lst xs))
theorem Em{x1}(h:PA X es t):PE X (.Tuple es x1 pos) (J6w t):=by
 intro pins s σ H Q I hq;refine wpAny_Tuple_spliced (thn (h pos pins s σ H _ I hq) fun us s1 ⟨xs,H1,I1,r,z,q⟩=>⟨by rw [← r.length];exact z,?_⟩);have hf:H1 s1.heap.objs.size=none:=I1.hok.fresh (Fe _);refine ⟨.ref s1.heap.objs.size,upd H1 s1.heap.objs.size (.tup xs),I1.laid (t':=s1.toks) (fun b u e=>Fm _ e) (Fe _) ?_,rfl,q _ hf⟩;exact ⟨z,us,r,⟨_,FI _ rfl,rfl,_,rfl⟩⟩
theorem Bn(h:PA X es t):PE X (.List es pos) (J6x t):=by
 intro pins s σ H Q I hq;refine wpAny_List_spliced (thn (h pos pins s σ H _ I hq) fun us s1 ⟨xs,H1,I1,r,z,q⟩=>⟨by rw [← r.length];exact z,?_⟩);have hf:H1 s1.heap.objs.size=none:=I1.hok.fresh (Fe _);refine ⟨.ref s1.heap.objs.size,upd H1 s1.heap.objs.size (.lst xs),I1.laid (t':=s1.toks) (fun b u e=>Fm _ e) (Fe _) ?_,rfl,q _ hf⟩;exact ⟨z,us,0,r,FI _ rfl⟩
end
abbrev Sp:=List V→Hp→VK→XK→Prop
abbrev CXT:=List Env→Hp→Shared→XK→Value→Shared→Prop
structure Td(P:Program)(w:World)(K:PySem.W.Frag)(mg:Str→Option Value)(base:Heap)(A:Around)(outer:List Env)(s:Shared)(H:Hp):Prop where
 frames:A.frames=some outer
 mod:Mod K mg base
 bs:∀b o,base.get? b=some o→s.heap.get? b=some o∧H b=none
 bsz:base.objs.size≤s.heap.objs.size
 funs:s.heap.FunFrames base outer
 frf:∀b∈frs outer,H b=none
 hok:HOk P w H s.heap
 bare:AllBare s.gens
def CE(outer:List Env)(P:Program)(w:World)(H:Hp)(s:Shared)(Q:VK)(u:Value)(s':Shared):Prop:=
 ∃v H',s'.os=s.os∧AllBare s'.gens∧Un (frs outer) [] H H' s.heap s'.heap∧HOk P w H' s'.heap∧Aw v u∧Q v H'
def CR(CX:CXT)(outer:List Env)(P:Program)(w:World)(H:Hp)(s:Shared)(Q:VK)(E:XK)(r:Result)(s':Shared):Prop:=
 match r with
 | .ok (.ret u)=>CE outer P w H s Q u s'
 | .ok _=>False
 | .error e=>CX outer H s E e s'
structure Ar(P:Program)(w:World)(K:PySem.W.Frag)(mg:Str→Option Value)(base:Heap)(CX:CXT)(k:Nat)(f:Addr)(fd:FuncData)(ps:List Str)(sp:Sp):Prop where
 len:∀vs H Q E,sp vs H Q E→vs.length=ps.length
 run:∀(A:Around) (outer:List Env) (s:Shared) (H:Hp) (args:Args) (us:List Value) (vs:List V) (Q:VK) (E:XK),Cv k A→Td P w K mg base A outer s H→BindsTo s fd args (ps.zip us)→Ax vs us→sp vs H Q E→
  codeAny (model P w) A (.call (.ref f) args) (CR CX outer P w H s Q E) s
theorem Ar.mono{P:Program}{w:World}{K:PySem.W.Frag}{mg:Str→Option Value}{base:Heap}{CX:CXT}{j k:Nat}{f:Addr}{fd:FuncData}{ps:List Str}{sp:Sp}(F:Ar P w K mg base CX j f fd ps sp)(h:j≤k):
 Ar P w K mg base CX k f fd ps sp:=⟨F.len,fun A outer s H args us vs Q E hr=>F.run A outer s H args us vs Q E (hr.mono h)⟩
theorem Td.make{P:Program}{w:World}{K:PySem.W.Frag}{mg:Str→Option Value}{base:Heap}{A:Around}{outer:List Env}{s:Shared}{H:Hp}(e:Td P w K mg base A outer s H)(C:Addr)(us:List Value)(kw:List (Str×Value)):
 Td P w K mg base (A.under (.builtin "type.__call__" ⟨.ref C::us,kw⟩)) outer s H:=⟨by first | exact e.frames | (simpa [Around.under,Code.envs,Code.isFrame,pushEnvs] using e.frames),e.mod,e.bs,e.bsz,e.funs,e.frf,e.hok,e.bare⟩
section
variable {X:Cx} {pins:List (Addr×Obj)} {σ:St} {H:Hp} {s s':Shared}
theorem Inv.env0(I:Inv X pins σ H s):Td X.prog X.w X.K X.mg X.base X.A X.stack s H:=
 ⟨I.ok.frames,I.ok.mod,I.bs,FA I.ok.bsz I.sz,I.stack,I.stkFree,I.hok,I.bare⟩
theorem Inv.after{Q:VK}{u:Value}(I:Inv X pins σ H s)(h:CE X.stack X.prog X.w H s Q u s'):EP X pins σ Q u s':=by
 obtain ⟨v,H',os,bare,un,hok,r,q⟩:=h;obtain ⟨hh,g,d,t,os'⟩:=s';obtain rfl:os'=s.os:=os;exact ⟨v,H',I.call (h':=hh) (g':=g) (d':=d) (t':=t) (ch:=[]) un hok bare (fun b z=>absurd z (by simp)),r,q⟩
end
def J6y(sp:Sp)(dvs:List V)(E:XK)(t:TA):TE:=fun σ H Q=>t σ H fun vs H1=>sp (vs++dvs) H1 Q E
def D7(K:PySem.W.Frag)(fd:FuncData)(ps:List Str)(ds:List Value):Prop:=
 ∀(s:Shared) (us:List Value),K.In s.heap→(us++ds).length=ps.length→BindsTo s fd ⟨us,[]⟩ (ps.zip (us++ds))
theorem D7.all{K:PySem.W.Frag}{fd:FuncData}{ps:List Str}(h:∀us:List Value,us.length=ps.length→bindArgs fd ⟨us,[]⟩=pure (ps.zip us)):D7 K fd ps []:=fun s us _ hl=>by
 rw [FX]at hl ⊢;exact .of_eq (h us hl)
def L6(CX:CXT)(X:Cx)(E:XK):Prop:=∀(pins:List (Addr×Obj)) (σ:St) (H:Hp) (s:Shared) (e:Value) (s':Shared),Inv X pins σ H s→CX X.stack H s E e s'→X.xe e s'
section
variable {X:Cx} {CX:CXT} {k:Nat} {f C:Addr} {fd:FuncData} {ps:List Str} {sp:Sp} {dvs:List V} {ds:List Value} {E:XK} {x m:Str} {p pos apos:Pos} {e o:Expr} {es:List Expr} {ta:TE} {t:TA}
theorem Yd{pins:List (Addr×Obj)}{σ:St}{H:Hp}{s:Shared}{Q:VK}{us:List Value}{vs:List V}(F:Ar X.prog X.w X.K X.mg X.base CX k f fd ps sp)(hr:Cv k X.A)(hb:D7 X.K fd ps ds)(hd:Ax dvs ds)(hx:L6 CX X E)
 (I:Inv X pins σ H s) (r:Ax vs us) (h:sp (vs++dvs) H Q E):wpAny (model X.prog X.w) X.A (call (.ref f) us) (EP X pins σ Q) X.xe s:=by
 have r2:Ax (vs++dvs) (us++ds):=r.append hd
 have hl:(us++ds).length=ps.length:=by rw [← r2.length];exact F.len _ _ _ _ h
 refine wpAny_call (Rg (F.run X.A X.stack s H ⟨us,[]⟩ (us++ds) (vs++dvs) Q E hr I.env0 (hb s us I.kIn hl) r2 h) fun r s' hq=>?_)
 cases r with
 | error e=>exact hx pins σ H s e s' I hq
 | ok fl=>
  cases fl with
  | ret u=>exact I.after hq
  | next=>exact False.elim hq
  | brk=>exact False.elim hq
  | cont=>exact False.elim hq
theorem J2r(F:Ar X.prog X.w X.K X.mg X.base CX k f fd ps sp)(hr:Cv k X.A)(hg:Gl X x)(hm:X.mg x=some (.ref f))(hk:PySem.W.keepIn X.K (.ref f)=true)(hb:D7 X.K fd ps ds)(hd:Ax dvs ds)(hx:L6 CX X E)
 (ha:PA X (e::es) t) (hdb:(x==("__debug__":Str))=false:=by decide) (he:starEach (e::es) X.env=(false,eval e X.env)::starEach es X.env:=by rfl) (hpl:(backTo pos (starEach es X.env)).any (·.1)=false:=by rfl):
 PE X (.Call (.Name x p) (e::es) [] pos) (J6y sp dvs E t):=by
 intro pins s σ H Q I h;refine HB (Lr I hg hm ?_ hdb);refine HU (h₀:=X.base) I.ok.mod.kin hk (thn (ha pos pins s σ H _ I h) fun us s1 ⟨vs,H1,I1,r,q⟩=>⟨I1.kIn,?_⟩) he hpl;exact Yd F hr hb hd hx I1 r q
structure Mk(K:PySem.W.Frag)(C f:Addr):Prop where
 makes:PySem.W.makesIn K C=true
 init:PySem.W.findIn K (.ref C) "__init__"=some (some (.ref f))
 fn:PySem.W.isFn K (.ref f)=true
 kp:PySem.W.keepIn K (.ref C)=true
end
structure Ab(N P:List Str)(sc:Scope):Prop where
 kind:sc.kind= .function
 co:sc.isCoroutine=false
 gen:sc.isGenerator=false
 nd:N.Nodup
 pre:N.take P.length=P
 par:∀x∈P,sc.names.lookup x=some .local∨sc.names.lookup x=some .cell
 nofree:∀y∈sc.names,y.2≠ .free
theorem Nu{kindOf:Str→Option NameKind}{x:Str}:∀{binds:List (Str×Value)} {m:Str→Option Value},(∀v,(x,v)∉binds)→bindL kindOf binds m x=m x
 | [],_,_=>rfl
 | (n,v)::r,m,h=>by
  unfold bindL;rw [Nu fun w hw=>h w (Fd _ hw)];split
  · have:x≠n:=by rintro rfl;exact h v Fj
    simp [this]
  · rfl
theorem Nv{kindOf:Str→Option NameKind}{x:Str}:∀{binds:List (Str×Value)} {m:Str→Option Value},(∀v,(x,v)∉binds)→bindC kindOf binds m x=m x
 | [],_,_=>rfl
 | (n,v)::r,m,h=>by
  unfold bindC;rw [Nv fun w hw=>h w (Fd _ hw)];split
  · rfl
  · have:x≠n:=by rintro rfl;exact h v Fj
    simp [this]
theorem Nw{kindOf:Str→Option NameKind}{x:Str}{v:Value}:∀{P:List Str} {vs:List Value} {i:Nat} {m:Str→Option Value},P.Nodup→P[i]?=some x→vs[i]?=some v→kindOf x=some .local→
 bindL kindOf (P.zip vs) m x=some v
 | [],_,_,_,_,h,_,_=>by simp at h
 | _::_,[],_,_,_,_,h,_=>by simp at h
 | p::P,w::vs,0,m,nd,h1,h2,hk=>by
  simp at h1 h2;subst h1;subst h2;show bindL kindOf ((p,w)::P.zip vs) m p=_;unfold bindL;rw [Nu fun v hv=>(Hr.mp nd).1 (List.of_mem_zip hv).1,if_pos hk];simp
 | p::P,w::vs,i+1,m,nd,h1,h2,hk=>by
  show bindL kindOf ((p,w)::P.zip vs) m x=_;unfold bindL;exact Nw (i:=i) (Hr.mp nd).2 (by simpa using h1) (by simpa using h2) hk
theorem Nx{kindOf:Str→Option NameKind}{x:Str}{v:Value}:∀{P:List Str} {vs:List Value} {i:Nat} {m:Str→Option Value},P.Nodup→P[i]?=some x→vs[i]?=some v→kindOf x≠some .local→
 bindC kindOf (P.zip vs) m x=some v
 | [],_,_,_,_,h,_,_=>by simp at h
 | _::_,[],_,_,_,_,h,_=>by simp at h
 | p::P,w::vs,0,m,nd,h1,h2,hk=>by
  simp at h1 h2;subst h1;subst h2;show bindC kindOf ((p,w)::P.zip vs) m p=_;unfold bindC;rw [Nv fun v hv=>(Hr.mp nd).1 (List.of_mem_zip hv).1,if_neg hk];simp
 | p::P,w::vs,i+1,m,nd,h1,h2,hk=>by
  show bindC kindOf ((p,w)::P.zip vs) m x=_;unfold bindC;exact Nx (i:=i) (Hr.mp nd).2 (by simpa using h1) (by simpa using h2) hk
def start(N:List Str)(vs:List V):St:=vs.map some++List.replicate (N.length - vs.length) none
def Te(CX:CXT)(P:Program)(w:World)(K:PySem.W.Frag)(mg:Str→Option Value)(base:Heap)(N:List Str)(qual:Str)(scope:Scope)(f:Addr)(cd:Value)(A:Around)(outer:List Env)(s:Shared)(H:Hp)(E:XK):Cx where
 prog:=P
 w:=w
 K:=K
 mg:=mg
 base:=base
 A:=A.deeper (envOfC qual scope s.heap.objs.size f cd)
 N:=N
 s₀:=s
 H₀:=H
 env:=envOfC qual scope s.heap.objs.size f cd
 outer:=outer
 stack:=envOfC qual scope s.heap.objs.size f cd::outer
 ex:=[]
 calm:=true
 fn:=fun _=>true
 pn:=[]
 xe:=fun e s'=>wpAny (model P w) (A.deeper (envOfC qual scope s.heap.objs.size f cd)) (leaving (envOfC qual scope s.heap.objs.size f cd) e) (fun _ s''=>CX outer H s E e s'') (fun e' s''=>CX outer H s E e' s'') s'
theorem Q4{sc:Scope}{n:Nat}{x:Str}(h:sc.names.lookup x=some .cell):∃c,(cellsFrom n sc.names []).lookup x=some c:=by
 have q:=PySem.W.cellsFrom_some sc.names n [] (.inl h);exact HM.mp q
theorem X2{CX:CXT}{P:Program}{w:World}{K:PySem.W.Frag}{mg:Str→Option Value}{base:Heap}{N ps:List Str}{qual:Str}{scope:Scope}{f:Addr}{cd:Value}{A:Around}{outer:List Env}{s s1:Shared}{H:Hp}{E:XK}{us:List Value}{vs:List V}
 (S:Ab N ps scope) (hd:A.handled=none) (e0:Td P w K mg base A outer s H) (hl:vs.length=ps.length) (r:Ax vs us)
 (x:InCallC s s.heap.objs.size (bindL (envOfC qual scope s.heap.objs.size f cd).kindOf (ps.zip us) fun _=>none) (cellsFrom (s.heap.objs.size+1) scope.names []) (bindC (envOfC qual scope s.heap.objs.size f cd).kindOf (ps.zip us) fun _=>none) s1):
 Inv (Te CX P w K mg base N qual scope f cd A outer s H E) [] (start N vs) H s1:=by
 have hpl:ps.length≤N.length:=by have:=congrArg List.length S.pre;rw [FV]at this;omega
 obtain ⟨h1,tk,rfl,hk⟩:=x.done;have noA:∀b:Addr,b∉(Te CX P w K mg base N qual scope f cd A outer s H E).ex:=fun b z=>absurd (show b∈([]:List Addr) from z) (by simp)
 refine ⟨⟨e0.mod,S.kind,rfl,rfl,Fe _,fun y z c h1 h2=>?_,fun y hy=>?_,fun y c _ h=>?_,fun _=>hd,Around.frames_deeper e0.frames,.inr ⟨rfl,rfl⟩,fun b z=>absurd z (noA b),e0.bs,e0.bsz,fun b _ _=>noA b,fun b z=>absurd z (noA b),e0.funs,e0.frf⟩,
  rfl,e0.bare,Un.kept hk,⟨_,x.toInCall.ns,fun i y v h1 h2 h3=>?_⟩,fun y c h=>⟨_,x.cell y c h⟩,e0.hok.fresh (Fe _),fun y c h=>?_,fun p hp=>absurd (show p∈([]:List (Addr×Obj)) from hp) (by simp),e0.hok.kept hk,?_⟩
 · exact name_of_addr x.apart (Hy h1) (Hy h2)
 · have hy:scope.names.lookup y=some .cell∨scope.names.lookup y=some .free:=hy
   rcases hy with hy | hy
   · exact Q4 hy
   · exact absurd rfl (S.nofree _ (Hy hy))
 · exact Nat.le_of_lt (x.above y c (Hy h))
 · have hi:i < vs.length:=by
    unfold start at h2
    by_cases hi:i < vs.length
    · exact hi
    · rw [Fy (by simpa using hi)]at h2
      rw [List.getElem?_replicate]at h2
      split at h2 <;> cases h2
   have ha:vs[i]?=some v:=by
    unfold start at h2;rw [Fu (by simpa using hi),Fi]at h2
    cases e:vs[i]? with
    | none=>rw [e]at h2;cases h2
    | some a=>rw [e]at h2;cases h2;rfl
   obtain ⟨u,hu,rv⟩:=r.get ha
   have hp:ps[i]?=some y:=by
    rw [← S.pre,List.getElem?_take_of_lt (by omega)];exact h1
   have ndP:ps.Nodup:=by rw [← S.pre];exact S.nd.sublist (RH _ _)
   refine ⟨u,rv,?_⟩;rcases S.par y (Fo hp) with k | k
   · exact .inl ⟨k,Nw ndP hp hu k⟩
   · obtain ⟨c,e⟩:=Q4 (n:=s.heap.objs.size+1) k
     refine .inr ⟨.inl k,c,e,?_⟩;have q:=x.cell y c e;rw [Nx ndP hp hu (by show scope.names.lookup y≠_;rw [k];decide)]at q;exact q
 · exact e0.hok.fresh (Nat.le_of_lt (x.above y c (Hy h)))
 · unfold start
   show _=N.length;rw [Ff,Fa,List.length_replicate];omega
theorem J6z{CX:CXT}{P:Program}{w:World}{K:PySem.W.Frag}{mg:Str→Option Value}{base:Heap}{k:Nat}{f:Addr}{name qual:Str}{params:Arguments}{body:List Stmt}{scope:Scope}{dV kV doc pm cdv ct oc:Value}{an od:Option Addr}
 {osl:Array (Option Value)} {N ps:List Str} {sp:Sp} (lk:K.lookup f=some ⟨oc,od,.func (PySem.W.fnOf name qual params body scope dV kV doc pm an cdv ct),osl⟩) (hcd:PySem.W.codeIn K cdv qual=true) (S:Ab N ps scope)
 (len:∀vs H Q E,sp vs H Q E→vs.length=ps.length)
 (hbody:∀(A:Around) (outer:List Env) (s:Shared) (H:Hp) (vs:List V) (Q:VK) (E:XK),Cv k (A.deeper (envOfC qual scope s.heap.objs.size f cdv))→sp vs H Q E→
  ∃t,PSs (Te CX P w K mg base N qual scope f cdv A outer s H E) body t∧t {nx:=fun _ H'=>Q .non H',rt:=Q} (start N vs) H):
 Ar P w K mg base CX (k+1) f (PySem.W.fnOf name qual params body scope dV kV doc pm an cdv ct) ps sp:=by
 refine ⟨len,fun A outer s H args us vs Q E hr e0 hb r hsp=>?_⟩;have hl:=len _ _ _ _ hsp;have KX:K.In s.heap:=e0.mod.kin.keeps fun b o e=>(e0.bs b o e).1;have lim:s.heap.NoLimit:=e0.mod.nolimit.keeps fun b o e=>(e0.bs b o e).1
 have hkind:∀y∈ps.zip us,scope.names.lookup y.1=some .local∨(scope.names.lookup y.1=some .cell∧((cellsFrom (s.heap.objs.size+1) scope.names []).lookup y.1).isSome=true):=fun ⟨n,v⟩ hy=>by
  rcases S.par n (List.of_mem_zip hy).1 with q | q
  · exact .inl q
  · exact .inr ⟨q,PySem.W.cellsFrom_some _ _ _ (.inl q)⟩
 refine codeAny_call_function hr.depth (KX _ _ lk) rfl S.co S.gen rfl (PySem.W.codeRec_of KX hcd) (hb _ _ _ _ ?_);refine wpAny_newFunctionEnv_cells S.kind hkind fun env he s1 x=>?_;subst he;refine ⟨lim.keeps x.toInCall.keep,codeAny_func ?_⟩;obtain ⟨t,ht,hq⟩:=hbody A outer s H vs Q E (hr.deeper _) hsp;have I:Inv (Te CX P w K mg base N qual scope f cdv A outer s H E) [] (start N vs) H s1:=X2 S hr.hd e0 hl r x;refine FZ (ht [] s1 (start N vs) H _ I hq) (fun fl s' hs=>?_) fun e s' hs=>hs
 have fin:∀{σ':St} {H':Hp} {v:V} {u:Value},Inv (Te CX P w K mg base N qual scope f cdv A outer s H E) [] σ' H' s'→Aw v u→Q v H'→CE outer P w H s Q u s':=
  fun {σ' H' v u} J rv q=>⟨v,H',J.os,J.bare,J.base,J.hok,rv,q⟩
 cases fl with
 | ret u=>
  obtain ⟨v,σ',H',J,rv,q⟩:=hs;exact fin J rv q
 | next=>
  obtain ⟨σ',H',J,q⟩:=hs;exact fin (v:=V.non) (u:=Value.none) J rfl q
 | brk=>
  obtain ⟨_,_,_,q⟩:=hs;exact False.elim q
 | cont=>
  obtain ⟨_,_,_,q⟩:=hs;exact False.elim q
end L2
namespace L2
section
variable {X:Cx} {x:Str} {p pos:Pos} {e:Expr} {es:List Expr} {t:TA} {id T:String} {r:List V→Hp→VK→Prop}
def tCB(r:List V→Hp→VK→Prop)(t:TA):TE:=fun σ H Q=>t σ H fun vs H1=>r vs H1 Q
theorem Ap(hc:El X (.builtin id) r)(hg:Gl X x)(hm:X.mg x=none)(hv:bootBuiltins x=some (.builtin id))(ha:PA X (e::es) t)(hn:x≠"__name__":=by decide)(hdb:(x==("__debug__":Str))=false:=by decide)
 (he:starEach (e::es) X.env=(false,eval e X.env)::starEach es X.env:=by rfl) (hpl:(backTo pos (starEach es X.env)).any (·.1)=false:=by rfl):PE X (.Call (.Name x p) (e::es) [] pos) (tCB r t):=by
 intro pins s σ H Q I h;refine HB (Kx I hg hm hv ?_ hn hdb);exact PyProof.Rows.callWith_builtin1 (thn (ha pos pins s σ H _ I h) fun us s1 ⟨vs,H1,I1,r1,q1⟩=>hc pins s1 σ H1 vs us Q I1 r1 q1) he hpl
theorem B5(hc:El X (.type T) r)(hg:Gl X x)(hm:X.mg x=none)(hv:bootBuiltins x=some (.type T))(ha:PA X (e::es) t)(hn:x≠"__name__":=by decide)(hdb:(x==("__debug__":Str))=false:=by decide)
 (he:starEach (e::es) X.env=(false,eval e X.env)::starEach es X.env:=by rfl) (hpl:(backTo pos (starEach es X.env)).any (·.1)=false:=by rfl):PE X (.Call (.Name x p) (e::es) [] pos) (tCB r t):=by
 intro pins s σ H Q I h;refine HB (Kx I hg hm hv ?_ hn hdb);exact HG (thn (ha pos pins s σ H _ I h) fun us s1 ⟨vs,H1,I1,r1,q1⟩=>hc pins s1 σ H1 vs us Q I1 r1 q1) he hpl
end
end L2
namespace HT
open PySem PyProof.Rows
def J45:List Int→List Int→Bool
 | [],[]=>false
 | [],_::_=>true
 | _::_,[]=>false
 | x::xs,y::ys=>if x=y then J45 xs ys else decide (x < y)
section
variable {prog:Program} {w:World} {A:Around} {E:Value→Shared→Prop} {s:Shared}
def sIx(n d:Nat):Option Int→Nat
 | none=>d
 | some v=>if v < 0 then (v+(n:Int)).toNat else min v.toNat n
theorem Kj(n d k:Nat):sIx n d (some (k:Int))=min k n:=by
 show (if (k:Int) < 0 then ((k:Int)+(n:Int)).toNat else min (k:Int).toNat n)=min k n;rw [if_neg (by omega),Int.toNat_natCast]
end
end HT
namespace L2
abbrev TO:=St→Hp→(Option Int→Hp→Prop)→Prop
def PO(X:Cx)(e:Option Expr)(t:TO):Prop:=
 ∀(pins:List (Addr×Obj)) (s:Shared) (σ:St) (H:Hp) (Q:Option Int→Hp→Prop),Inv X pins σ H s→t σ H Q→
   wpAny (model X.prog X.w) X.A (evalPart e X.env) (fun u s'=>∃o H',Inv X pins σ H' s'∧IsPart u o∧Q o H') X.xe s
def Ui:TO:=fun _ H Q=>Q none H
def J46(t:TE):TO:=fun σ H Q=>t σ H fun x H1=>∃i,x= .int i∧Q (some i) H1
section
variable {X:Cx} {e:Expr} {te:TE} {lo hi:Option Expr} {tl th:TO} {pos p2:Pos}
theorem Uj:PO X none Ui:=by
 intro pins s σ H Q I h;rw [evalPart_none];exact FW ⟨none,H,I,.none,h⟩
theorem Ex(h:PE X e te):PO X (some e) (J46 te):=by
 intro pins s σ H Q I hw;rw [evalPart_some];refine thn (h pins s σ H _ I hw) fun u s1 hq_=>?_;obtain ⟨x,H1,I1,r1,q1⟩:=hq_;obtain ⟨i,rfl,q⟩:=q1;obtain ⟨t,rfl⟩:=r1;exact ⟨some i,H1,I1,.int i t,q⟩
def SlR(X:Cx)(r:V→Option Int→Option Int→Hp→VK→Prop):Prop:=
 ∀(pins:List (Addr×Obj)) (s:Shared) (σ:St) (H:Hp) (x:V) (v vl vu:Value) (lo hi:Option Int) (sl:Addr) (Q:VK),Inv X pins σ H s→Aw x v→s.heap.IsSliceOf sl vl vu .none→IsPart vl lo→IsPart vu hi→r x lo hi H Q→
   ∃T id,typeLookup (.type T) "__getitem__"=pure (some (.builtin id))∧s.TypeIs v T∧wpAny (model X.prog X.w) X.A (getItem v (.ref sl)) (EP X pins σ Q) X.xe s
def tSl(r:V→Option Int→Option Int→Hp→VK→Prop)(te:TE)(tl th:TO):TE:=fun σ H Q=>te σ H fun x H1=>tl σ H1 fun l H2=>th σ H2 fun u H3=>r x l u H3 Q
theorem Ij{r:V→Option Int→Option Int→Hp→VK→Prop}(hr:SlR X r)(he:PE X e te)(hl:PO X lo tl)(hu:PO X hi th):PE X (.Subscript e (.Slice lo hi none p2) pos) (tSl r te tl th):=by
 intro pins s σ H Q I h;refine Subscript_ (thn (he pins s σ H _ I h) fun v s1 hq_=>?_);obtain ⟨x,H1,I1,r1,q1⟩:=hq_;refine wpAny_Slice (thn (hl pins s1 σ H1 _ I1 q1) fun vl s2 ⟨l,H2,I2,pl,q2⟩=>thn (hu pins s2 σ H2 _ I2 q2) fun vu s3 hq_=>?_);obtain ⟨u,H3,I3,pu,q3⟩:=hq_;rw [evalPart_none];refine FW ?_;have I4:Inv X pins σ H3 {s3 with heap:=s3.heap.push {cls:= .type "slice",data:= .fields #[vl,vu,.none]}}:=I3.kept (t':=s3.toks) fun b ob q=>Fm _ q;obtain ⟨T,id,hT,ht,hg⟩:=hr pins {s3 with heap:=s3.heap.push {cls:= .type "slice",data:= .fields #[vl,vu,.none]}} σ H3 x v vl vu l u s3.heap.objs.size Q I4 r1 (Heap.IsSliceOf.new ..) pl pu q3;show wpAny (model X.prog X.w) X.A (subscriptTail e (.Slice lo hi none p2) v (.ref s3.heap.objs.size)) (EP X pins σ Q) X.xe {s3 with heap:=s3.heap.push {cls:= .type "slice",data:= .fields #[vl,vu,.none]}};exact tail_any (ops:=[.ref s3.heap.objs.size,v]) ht hT hg (by with_unfolding_all rfl)
def L7(xs:List V)(lo hi:Option Int):List V:=(xs.drop (HT.sIx xs.length 0 lo)).take (HT.sIx xs.length xs.length hi - HT.sIx xs.length 0 lo)
theorem Q5(xs:List V)(lo hi:Option Int):(L7 xs lo hi).length≤xs.length:=by
 unfold L7;rw [FV,Hf];omega
end
end L2
namespace L2
def ixN(n:Nat)(i:Int):Option Nat:=if 0≤i then (if i < n then some i.toNat else none) else if -(n:Int)≤i then some (i+n).toNat else none
def atI{α:Type}(xs:List α)(i:Int):Option α:=(ixN xs.length i).bind fun j=>xs[j]?
theorem Uk{n:Nat}{i:Int}{j:Nat}(h:ixN n i=some j):seqIndex? i n=some j∧j < n∧-(n:Int)≤i∧i < n:=by
 unfold ixN at h
 by_cases h0:0≤i
 · rw [if_pos h0]at h
   by_cases h1:i < n
   · rw [if_pos h1]at h
     have e:i.toNat=j:=FQ h;exact ⟨by rw [seqIndex_of h0 h1,e],by omega,by omega,h1⟩
   · rw [if_neg h1]at h;cases h
 · rw [if_neg h0]at h
   by_cases h1:-(n:Int)≤i
   · rw [if_pos h1]at h
     have e:(i+n).toNat=j:=FQ h;exact ⟨by rw [seqIndex_neg (by omega) h1,e],by omega,h1,by omega⟩
   · rw [if_neg h1]at h;cases h
theorem P6{α:Type}{xs:List α}{i:Int}{v:α}(h:atI xs i=some v):∃j,seqIndex? i xs.length=some j∧xs[j]?=some v∧j < xs.length∧-(xs.length:Int)≤i∧i < xs.length:=by
 unfold atI at h
 cases e:ixN xs.length i with
 | none=>rw [e]at h;cases h
 | some j=>
  rw [e]at h;obtain ⟨h1,h2,h3,h4⟩:=Uk e;exact ⟨j,h1,h,h2,h3,h4⟩
theorem C4{α:Type}{xs:List α}{j:Nat}{v:α}(h:xs[j]?=some v):atI xs (j:Int)=some v:=by
 have hj:j < xs.length:=(Fc.mp h).1
 have e:ixN xs.length (j:Int)=some j:=by
  unfold ixN;rw [if_pos (by omega),if_pos (by omega)];simp
 unfold atI;rw [e];exact h
def J2s(b:Expr):Prop:=∀o i,subscripted b false o i=operate [o,i] (getItem o i)
def IxR(X:Cx)(r:R2):Prop:=
 ∀(value slice:Expr) (pins:List (Addr×Obj)) (s:Shared) (σ:St) (H:Hp) (x y:V) (v u:Value) (Q:VK),Inv X pins σ H s→Aw x v→Aw y u→r x y H Q→
   subscripted slice false v u=operate [v,u] (getItem v u)→wpAny (model X.prog X.w) X.A (subscriptTail value slice v u) (EP X pins σ Q) X.xe s
def MtR(X:Cx)(id:String)(r:V→List V→Hp→VK→Prop):Prop:=
 ∀(pins:List (Addr×Obj)) (s:Shared) (σ:St) (H:Hp) (x:V) (xs:List V) (v:Value) (us:List Value) (Q:VK),Inv X pins σ H s→Aw x v→Ax xs us→r x xs H Q→
   wpAny (model X.prog X.w) X.A (call (.builtin id) (v::us)) (EP X pins σ Q) X.xe s
section
variable {X:Cx} {a b:Expr} {ta tb:TE} {pos:Pos}
theorem Bk{r:R2}(hr:IxR X r)(ha:PE X a ta)(hb:PE X b tb)(hs:J2s b):PE X (.Subscript a b pos) (tOp r ta tb):=by
 intro pins s σ H Q I h;exact Subscript_ (J55 ha hb I h fun v u s2 x y H2 I2 rx ry q=>hr a b pins s2 σ H2 x y v u Q I2 rx ry q (hs _ _))
def X3(K:PySem.W.Frag):R2:=fun x y H Q=>∃p xs i v,x= .ref p∧y= .int i∧SqL K H p xs∧atI xs i=some v∧Q v H
def J70(K:PySem.W.Frag):R2:=fun x y H Q=>∃p xs i v,x= .ref p∧y= .int i∧SqT K H p xs∧atI xs i=some v∧Q v H
def J71:R2:=fun x y H Q=>∃z i c,x= .str z∧y= .int i∧z.length≤sizeLine∧atI z.cps.toList i=some c∧Q (.str ⟨#[c]⟩) H
theorem Bg:IxR X (X3 X.K):=by
 intro value slice pins s σ H x y v u Q I rx ry h hs;obtain ⟨p,xs,i,z,rfl,rfl,hq,he,q⟩:=h;cases rx;obtain ⟨t,rfl⟩:=ry;obtain ⟨its,r,pl,hz⟩:=I.list hq;obtain ⟨j,h1,h2,h3,h4,h5⟩:=P6 he;obtain ⟨w,ew,rw'⟩:=r.get h2;have hl:=r.length;have hn:=Kd
 have fin:EP X pins σ Q w s:=⟨z,H,I,rw',q⟩
 by_cases h0:0≤i
 · have hj:i.toNat=j:=by
    rw [seqIndex_of h0 h5]at h1;exact FQ h1
   exact item_listR pl.isList h0 (by omega) (by rw [hj];simpa using ew) fin hs
 · have hj:(i+(its.toArray.size:Int)).toNat=j:=by
    rw [seqIndex_neg (by omega) h4]at h1;rw [Fn,← hl];exact FQ h1
   exact subscriptTail_builtinR (x:=w) pl.isList.typeIs slot_list_getitem.lookup
    (wpAny_getItem_list_neg (Q:=fun r s'=>r=w∧EP X pins σ Q r s') pl.isList (by omega) (by rw [Fn] <;> omega) (by omega) (by rw [hj];simpa using ew) ⟨rfl,fin⟩) hs
theorem L8:IxR X (J70 X.K):=by
 intro value slice pins s σ H x y v u Q I rx ry h hs;obtain ⟨p,xs,i,z,rfl,rfl,hq,he,q⟩:=h;cases rx;obtain ⟨t,rfl⟩:=ry;obtain ⟨its,r,pl,hz⟩:=I.tuple hq;obtain ⟨j,h1,h2,h3,h4,h5⟩:=P6 he;obtain ⟨w,ew,rw'⟩:=r.get h2;have hl:=r.length;have hn:=Kd
 have fin:EP X pins σ Q w s:=⟨z,H,I,rw',q⟩
 exact subscriptTail_builtinR (x:=w) pl.typeIs slot_tuple_getitem.lookup
  (getItem_tuple (j:=j) (Q:=fun r s'=>r=w∧EP X pins σ Q r s') pl (by omega) (by omega) (by rw [Fn,← hl];exact h1) (by simpa using ew) ⟨rfl,fin⟩) hs
theorem L9:IxR X J71:=by
 intro value slice pins s σ H x y v u Q I rx ry h hs;obtain ⟨z,i,c,rfl,rfl,hz,he,q⟩:=h;obtain ⟨t,rfl⟩:=rx;obtain ⟨t',rfl⟩:=ry;obtain ⟨j,h1,h2,h3,h4,h5⟩:=P6 he
 have hl:z.cps.toList.length=z.length:=by simp [Str.length]
 rw [hl]at h1 h4 h5;have hn:=Kd
 exact tail_any (Rm s z t) slot_str_getitem.lookup (getItem_str (c:=c) (by
  have e1:decide (i < -(2 ^ 63:Int))=false:=FE (by omega);have e2:decide (i ≥ 2 ^ 63)=false:=FE (by omega)
  rw [e1,e2,Bool.or_false]) (by rw [h1];simpa using h2) ⟨.str ⟨#[c]⟩,H,I.tok _,⟨_,rfl⟩,q⟩) hs
theorem Tf(its:List Value)(n j:Nat)(u:Value):Obj.mapSeq (·.setIfInBounds j u) {cls:= .type "list",data:= .seq its.toArray n}={cls:= .type "list",data:= .seq (its.set j u).toArray n}:=by
 simp [Obj.mapSeq]
theorem Inv.lst{pins:List (Addr×Obj)}{σ:St}{H:Hp}{s:Shared}{p:Addr}{xs:List V}(I:Inv X pins σ H s)(h:H p=some (.lst xs)):
 ∃(its:List Value) (n:Nat),Ax xs its∧s.heap.get? p=some {cls:= .type "list",data:= .seq its.toArray n}∧xs.length≤sizeLine:=by
 obtain ⟨z,its,n,r,e⟩:=I.hok p _ h;exact ⟨its,n,r,e,z⟩
theorem Inv.lstUpd{pins:List (Addr×Obj)}{σ:St}{H:Hp}{s:Shared}{p:Addr}{xs ys:List V}{its its':List Value}{n n':Nat}{f:Obj→Obj}(I:Inv X pins σ H s)(h:H p=some (.lst xs))
 (ho:s.heap.get? p=some {cls:= .type "list",data:= .seq its.toArray n}) (hf:f {cls:= .type "list",data:= .seq its.toArray n}={cls:= .type "list",data:= .seq its'.toArray n'}) (r:Ax ys its') (hz:ys.length≤sizeLine) (t:Nat):
 Inv X pins σ (upd H p (.lst ys)) {s with heap:=s.heap.update p f,toks:=t}:=by
 have e:(s.heap.update p f).get? p=some {cls:= .type "list",data:= .seq its'.toArray n'}:=by
  rw [Heap.get?_update_self f ho (by rw [hf] <;> rfl),hf]
 refine I.write (x:=p) (e:=p) (by rw [h];trivial) (.inl rfl) (fun b u hb q=>(Heap.get?_update_other _ _ (Ne.symm hb)).trans q) ⟨_,e⟩ ?_;exact ⟨hz,its',n',r,e⟩
def J47:V→V→V→Hp→(Hp→Prop)→Prop:=fun o i v H Q=>∃p xs k j,o= .ref p∧i= .int k∧H p=some (.lst xs)∧ixN xs.length k=some j∧Q (upd H p (.lst (xs.set j v)))
theorem Kk:J6k X J47:=by
 intro pins s σ H o i v ov iv u Q I ro ri rv h;obtain ⟨p,xs,k,j,rfl,rfl,hp,hj,q⟩:=h;cases ro;obtain ⟨t,rfl⟩:=ri;obtain ⟨its,n,r,ho,hz⟩:=I.lst hp;obtain ⟨h1,h2,h3,h4⟩:=Uk hj;have hl:=r.length;have hn:=Kd
 have I':Inv X pins σ (upd H p (.lst (xs.set j v))) {s with heap:=s.heap.update p (Obj.mapSeq (·.setIfInBounds j u))}:=
  I.lstUpd hp ho (Tf its n j u) (r.set rv j) (by rw [Rb];exact hz) s.toks
 by_cases h0:0≤k
 · have hk:k.toNat=j:=by
    rw [seqIndex_of h0 h4]at h1;exact FQ h1
   exact PySem.W.ki_setAt ho h0 (by omega) (by rw [Fn,← hl];exact h4) (by rw [hk];exact ⟨_,I',q⟩)
 · have hk:(k+(its.toArray.size:Int)).toNat=j:=by
    rw [seqIndex_neg (by omega) h3]at h1;rw [Fn,← hl];exact FQ h1
   exact PySem.W.ki_setBack ho (by omega) (by rw [Fn,← hl];exact h3) (by omega) (by rw [hk];exact ⟨_,I',q⟩)
theorem P7(lo hi:Option Int)(n:Nat):(sliceBounds lo hi none n).1=((HT.sIx n 0 lo:Nat):Int)∧(sliceBounds lo hi none n).2.1=((HT.sIx n n hi:Nat):Int)∧(sliceBounds lo hi none n).2.2=1:=by
 refine ⟨?_,?_,rfl⟩
 · cases lo with
   | none=>simp [sliceBounds,HT.sIx]
   | some i=>
    simp only [sliceBounds,HT.sIx,Option.getD_none,show (1:Int) > 0 by decide,if_true]
    by_cases h:i < 0
    · simp only [h,if_true] <;> omega
    · simp only [h,if_false] <;> omega
 · cases hi with
   | none=>simp [sliceBounds,HT.sIx]
   | some i=>
    simp only [sliceBounds,HT.sIx,Option.getD_none,show (1:Int) > 0 by decide,if_true]
    by_cases h:i < 0
    · simp only [h,if_true] <;> omega
    · simp only [h,if_false] <;> omega
theorem Nk(its:List Value)(lo hi:Option Int):slicePick its.toArray lo hi none=((its.drop (HT.sIx its.length 0 lo)).take (HT.sIx its.length its.length hi - HT.sIx its.length 0 lo)).toArray:=by
 obtain ⟨h1,h2,h3⟩:=P7 lo hi its.toArray.size;unfold slicePick;rw [h1,h2,h3]
 simp only [sliceRange_one,pick_run,Fn] <;> rfl
def J72(K:PySem.W.Frag):V→Option Int→Option Int→Hp→VK→Prop:=fun x lo hi H Q=>∃a xs,x= .ref a∧SqL K H a xs∧∀p,H p=none→Q (.ref p) (upd H p (.lst (L7 xs lo hi)))
theorem Lx:SlR X (J72 X.K):=by
 intro pins s σ H x v vl vu lo hi sl Q I rx hs pl pu h;obtain ⟨a,xs,rfl,hx,q⟩:=h;cases rx;obtain ⟨its,r,ht,hz⟩:=I.list hx;have hlen:=r.length;refine ⟨"list",_,slot_list_getitem.lookup,ht.isList.typeIs,?_⟩
 refine wpAny_getItem_list_slice ht.isList hs pl pu .none (by simp) ?_ (by rw [Fn] <;> omega)
 rw [Nk,← hlen];refine ⟨.ref s.heap.objs.size,_,I.laid (t':=s.toks) (o:= .lst (L7 xs lo hi)) (fun b ob q=>Fm _ q) (Fe _) ?_,rfl,q _ (I.hok.fresh (Fe _))⟩;exact ⟨FA (Q5 xs lo hi) hz,_,0,(r.drop (HT.sIx xs.length 0 lo)).take (HT.sIx xs.length xs.length hi - HT.sIx xs.length 0 lo),FI _ rfl⟩
def Cz:V→Bool
 | .non=>true
 | .bl _=>true
 | .int _=>true
 | .str _=>true
 | _=>false
def eqV:V→V→Bool
 | .non,.non=>true
 | .bl a,.bl b=>a==b
 | .bl a,.int b=>(if a then 1 else 0)==b
 | .int a,.bl b=>a==(if b then 1 else 0)
 | .int a,.int b=>a==b
 | .str a,.str b=>a==b
 | _,_=>false
theorem Ye{A:Around}{s:Shared}{y x:V}{u v:Value}(ry:Aw y u)(rx:Aw x v)(fy:Cz y=true)(fx:Cz x=true):SeqAt.EqAt A s u v (eqV y x):=by
 cases y with
 | non=>
  cases ry
  cases x with
  | non=>cases rx;exact SeqAt.EqAt.same _
  | bl b=>cases rx;exact SeqAt.EqAt.none_bool b
  | int b=>obtain ⟨t,rfl⟩:=rx;exact SeqAt.EqAt.none_int b t
  | str b=>obtain ⟨t,rfl⟩:=rx;exact SeqAt.EqAt.none_str b t
  | _=>exact absurd (show false=true from fx) Fz
 | bl a=>
  cases ry
  cases x with
  | non=>cases rx;exact SeqAt.EqAt.bool_none a
  | bl b=>cases rx;exact SeqAt.EqAt.bool_bool a b
  | int b=>obtain ⟨t,rfl⟩:=rx;exact SeqAt.EqAt.bool_int a b t
  | str b=>obtain ⟨t,rfl⟩:=rx;exact SeqAt.EqAt.bool_str a b t
  | _=>exact absurd (show false=true from fx) Fz
 | int a=>
  obtain ⟨t',rfl⟩:=ry
  cases x with
  | non=>cases rx;exact SeqAt.EqAt.int_none a t'
  | bl b=>cases rx;exact SeqAt.EqAt.int_bool a t' b
  | int b=>obtain ⟨t,rfl⟩:=rx;exact SeqAt.EqAt.int_int a t' b t
  | str b=>obtain ⟨t,rfl⟩:=rx;exact SeqAt.EqAt.int_str a t' b t
  | _=>exact absurd (show false=true from fx) Fz
 | str a=>
  obtain ⟨t',rfl⟩:=ry
  cases x with
  | non=>cases rx;exact SeqAt.EqAt.str_none a t'
  | bl b=>cases rx;exact SeqAt.EqAt.str_bool a t' b
  | int b=>obtain ⟨t,rfl⟩:=rx;exact SeqAt.EqAt.str_int a t' b t
  | str b=>obtain ⟨t,rfl⟩:=rx;exact SeqAt.EqAt.str_str a t' b t
  | _=>exact absurd (show false=true from fx) Fz
 | _=>exact absurd (show false=true from fy) Fz
def eqU(x:V)(u:Value):Bool:=match u with
 | .none=>eqV .non x
 | .bool b=>eqV (.bl b) x
 | .int i _=>eqV (.int i) x
 | .str z _=>eqV (.str z) x
 | _=>false
theorem Yf{x y:V}{u:Value}(r:Aw y u)(f:Cz y=true):eqU x u=eqV y x:=by
 cases y with
 | non=>cases r;rfl
 | bl b=>cases r;rfl
 | int i=>obtain ⟨t,rfl⟩:=r;rfl
 | str z=>obtain ⟨t,rfl⟩:=r;rfl
 | _=>exact absurd (show false=true from f) Fz
theorem P8{x:V}:∀{xs:List V} {us:List Value},Ax xs us→xs.all Cz=true→us.any (eqU x)=xs.any fun y=>eqV y x
 | _,_,.nil,_=>rfl
 | y::xs,u::us,.cons r t,f=>by
  rw [List.all_cons,Hi]at f;rw [HP,HP,Yf r f.1,P8 t f.2]
theorem Mp{A:Around}{s:Shared}{x:V}{v:Value}(rx:Aw x v)(fx:Cz x=true):∀{xs:List V} {us:List Value},Ax xs us→xs.all Cz=true→∀u∈us,SeqAt.EqAt A s u v (eqU x u)
 | _,_,.nil,_=>fun u hu=>by cases hu
 | y::xs,u::us,.cons r t,f=>fun u' hu=>by
  rw [List.all_cons,Hi]at f;rcases Fh.mp hu with rfl | hu
  · rw [Yf r f.1];exact Ye r rx f.1 fx
  · exact Mp rx fx t f.2 u' hu
def inV(x:V)(xs:List V):Bool:=xs.any fun y=>eqV y x
def rIn(K:PySem.W.Frag)(neg:Bool):R2:=fun x y H Q=>∃p xs,y= .ref p∧(SqL K H p xs∨SqT K H p xs)∧Cz x=true∧xs.all Cz=true∧Q (.bl (if neg then !inV x xs else inV x xs)) H
theorem D8:OpR X (compareOp .In) (rIn X.K false):=by
 intro pins s σ H x y v u Q I rx ry h;obtain ⟨p,xs,rfl,hq,fx,fs,q⟩:=h;cases ry;rcases hq with hq | hq
 · obtain ⟨its,r,pl,hz⟩:=I.list hq
   refine SeqAt.in_listAt (eqU x) pl.isList (fun w hw=>Mp rx fx r fs w (by simpa using hw)) ⟨.bl _,H,I,rfl,?_⟩;rw [show its.toArray.any (eqU x)=its.any (eqU x) by simp,P8 r fs];exact q
 · obtain ⟨its,r,pl,hz⟩:=I.tuple hq
   refine SeqAt.in_tupleAt (eqU x) pl (fun w hw=>Mp rx fx r fs w (by simpa using hw)) ⟨.bl _,H,I,rfl,?_⟩;rw [show its.toArray.any (eqU x)=its.any (eqU x) by simp,P8 r fs];exact q
theorem Aq:El X (.builtin "len") (fun xs H Q=>∃p ys,xs=[.ref p]∧(SqL X.K H p ys∨SqT X.K H p ys)∧Q (.int ys.length) H):=by
 intro pins s σ H xs us Q I r h;obtain ⟨p,ys,rfl,hq,q⟩:=h;obtain ⟨u,rfl,rx⟩:=Ic r;cases rx;have hn:=Kd;rcases hq with hq | hq
 · obtain ⟨its,r',pl,hz⟩:=I.list hq
   have hlen:=r'.length
   exact Calls.call_len_list pl.isList (by simp only [Fn] <;> omega) ⟨.int ys.length,H,I.tok _,⟨s.toks+1,by rw [Fn,hlen]⟩,q⟩
 · obtain ⟨its,r',pl,hz⟩:=I.tuple hq
   have hlen:=r'.length
   exact len_tuple pl (by simp only [Fn] <;> omega) ⟨.int ys.length,H,I.tok _,⟨s.toks+1,by rw [Fn,hlen]⟩,q⟩
theorem Ed:El X (.builtin "len") (fun xs H Q=>∃z,xs=[.str z]∧z.length≤sizeLine∧Q (.int z.length) H):=by
 intro pins s σ H xs us Q I r h;obtain ⟨z,rfl,hz,q⟩:=h;obtain ⟨u,rfl,t,rfl⟩:=Ic r;have hn:=Kd;exact len_str (by omega) ⟨.int z.length,H,I.tok _,⟨_,rfl⟩,q⟩
theorem Df:El X (.type "list") (fun xs H Q=>∃p ys,xs=[.ref p]∧(SqL X.K H p ys∨SqT X.K H p ys)∧∀l,H l=none→Q (.ref l) (upd H l (.lst ys))):=by
 intro pins s σ H xs us Q I r h;obtain ⟨p,ys,rfl,hq,q⟩:=h;obtain ⟨u,rfl,rx⟩:=Ic r;cases rx
 have fin:∀(its:List Value),Ax ys its→ys.length≤sizeLine→∀(h':Heap) (c':Nat),(∀b o',s.heap.get? b=some o'→h'.get? b=some o')→
  h'.get? s.heap.objs.size=some {cls:= .type "list",dict:=none,data:= .seq its.toArray c',slots:=#[]}→EP X pins σ Q (.ref s.heap.objs.size) {s with heap:=h'}:=fun its r' hz h' c' kp e=>
  ⟨.ref s.heap.objs.size,_,I.laid (t':=s.toks) kp (Fe _) (show Bv X.prog X.w _ h' _ (.lst ys) from ⟨hz,its,c',r',e⟩),rfl,q _ (I.hok.fresh (Fe _))⟩
 rcases hq with hq | hq
 · obtain ⟨its,r',pl,hz⟩:=I.list hq
   have hlen:=r'.length;obtain ⟨o,ho,hc,n,hd⟩:=pl.isList
   exact call_list_seq p (.inl rfl) ho hc hd (fun h' c' kp e=>fin its r' hz h' c' kp e) (by simp only [Fn] <;> omega)
 · obtain ⟨its,r',pl,hz⟩:=I.tuple hq
   have hlen:=r'.length;obtain ⟨o,ho,hc,n,hd⟩:=pl
   exact call_list_seq p (.inr rfl) ho hc hd (fun h' c' kp e=>fin its r' hz h' c' kp e) (by simp only [Fn] <;> omega)
theorem Nl:El X (.type "tuple") (fun xs H Q=>∃p ys,xs=[.ref p]∧((SqL X.K H p ys∧∀l,H l=none→Q (.ref l) (upd H l (.tup ys)))∨(SqT X.K H p ys∧Q (.ref p) H))):=by
 intro pins s σ H xs us Q I r h;obtain ⟨p,ys,rfl,h⟩:=h;obtain ⟨u,rfl,rx⟩:=Ic r;cases rx;rcases h with ⟨hq,q⟩ | ⟨hq,q⟩
 · obtain ⟨its,r',pl,hz⟩:=I.list hq
   have hlen:=r'.length
   refine call_tuple_list pl.isList (fun h' kp=>?_) (by simp only [Fn] <;> omega)
   have I1:Inv X pins σ H {s with heap:=h'}:=I.kept (t':=s.toks) kp
   have I2:Inv X pins σ (upd H h'.objs.size (.tup ys)) {s with heap:=h'.push {cls:= .type "tuple",data:= .seq its.toArray}}:=
    I1.laid (t':=s.toks) (fun b o e=>Fm _ e) (Fe _) (show Bv X.prog X.w _ _ _ (.tup ys) from ⟨hz,its,r',IsTup.new _ _⟩)
   exact ⟨.ref h'.objs.size,_,I2,rfl,q _ (I1.hok.fresh (Fe _))⟩
 · obtain ⟨its,r',pl,hz⟩:=I.tuple hq
   exact call_tuple_same pl ⟨.ref p,H,I,rfl,q⟩
def tyV(K:PySem.W.Frag)(T:String)(x:V)(H:Hp):Prop:=match x with
 | .str _=>T="str"
 | .int _=>T="int"
 | .ref p=>(T="list"∧∃xs,SqL K H p xs)∨(T="tuple"∧∃o,K.lookup p=some o∧o.cls= .type "tuple"∧o.dict=none)∨
  (T="dict"∧((∃kvs,H p=some (.dK kvs))∨∃kvs,H p=some (.dT kvs)))∨(T="set"∧∃S n,H p=some (.set S n))
 | _=>False
theorem Yg{pins:List (Addr×Obj)}{σ:St}{H:Hp}{s:Shared}{T:String}{x:V}{v:Value}(I:Inv X pins σ H s)(r:Aw x v)(ty:tyV X.K T x H):
 s.TypeIs v T∧∀a,v= .ref a→∃ob,s.heap.get? a=some ob∧ob.dict=none:=by
 cases x with
 | str z=>
  obtain ⟨t,rfl⟩:=r;cases (show T="str" from ty);exact ⟨Rm s z t,fun _ e=>nomatch e⟩
 | int i=>
  obtain ⟨t,rfl⟩:=r;cases (show T="int" from ty);exact ⟨typeIs_int s i t,fun _ e=>nomatch e⟩
 | ref p=>
  cases r;rcases ty with ⟨rfl,xs,hq⟩ | ⟨rfl,o,hk,hc,hd⟩ | ⟨rfl,hk⟩ | ⟨rfl,S,n,hk⟩
  · obtain ⟨its,_,pl,_⟩:=I.list hq
    refine ⟨pl.isList.typeIs,fun a e=>?_⟩;cases e;obtain ⟨o,n,e,c,hd,_⟩:=pl;exact ⟨o,e,hd⟩
  · refine ⟨⟨o,I.kIn p o hk,hc⟩,fun a e=>?_⟩
    cases e;exact ⟨o,I.kIn _ o hk,hd⟩
  · have z:∃o,s.heap.get? p=some o∧o.ExactDict:=by
     rcases hk with ⟨kvs,hk⟩ | ⟨kvs,hk⟩
     · obtain ⟨_,_,_,_,o,_,_,e,ex,_⟩:=I.hok p _ hk
       exact ⟨o,e,ex⟩
     · obtain ⟨_,_,_,_,o,_,_,e,ex,_⟩:=I.hok p _ hk
       exact ⟨o,e,ex⟩
    obtain ⟨o,e,ex⟩:=z;refine ⟨⟨o,e,ex.1⟩,fun a e2=>?_⟩;cases e2;exact ⟨o,e,ex.2.1⟩
  · obtain ⟨o,_,_,_,e,ex,_⟩:=I.hok p _ hk
    refine ⟨⟨o,e,ex.1⟩,fun a e2=>?_⟩;cases e2;exact ⟨o,e,ex.2.1⟩
 | _=>exact False.elim ty
def J73(K:PySem.W.Frag)(T:String)(r:V→List V→Hp→VK→Prop)(to:TE):TE:=fun σ H Q=>to σ H fun x H1=>tyV K T x H1∧r x [] H1 Q
def tBM(K:PySem.W.Frag)(T:String)(r:V→List V→Hp→VK→Prop)(to:TE)(t:TA):TE:=fun σ H Q=>to σ H fun x H1=>tyV K T x H1∧t σ H1 fun xs H2=>r x xs H2 Q
variable {o e:Expr} {es:List Expr} {to:TE} {t:TA} {name:Str} {apos cpos:Pos} {T id:String} {r:V→List V→Hp→VK→Prop}
theorem Tg(pa:PlainAttrs T)(slot:Slot T name id)(hty:typeOf (.builtin id)=pure (.type "method_descriptor"))(hm:MtR X id r)(ho:PE X o to)
 (hbase:attributeBase o name X.env (eval o X.env)=eval o X.env:=by rfl) (hline:(apos.endLine==cpos.line)=true:=by rfl):PE X (.Call (.Attribute o name apos) [] [] cpos) (J73 X.K T r to):=by
 intro pins s σ H Q I h;refine wpAny_Call_method0_late hbase hline (thn (ho pins s σ H _ I h) fun v s1 hq_=>?_);obtain ⟨x,H1,I1,r1,ty,q1⟩:=hq_;obtain ⟨h1,h2⟩:=Yg I1 r1 ty;exact ⟨T,id,pa,slot,hty,h1,h2,Calls.callWith_builtin rfl (PySem.evalArgs_none (hm pins s1 σ H1 x [] v [] Q I1 r1 .nil q1))⟩
theorem Cp(pa:PlainAttrs T)(slot:Slot T name id)(hty:typeOf (.builtin id)=pure (.type "method_descriptor"))(hm:MtR X id r)(ho:PE X o to)(ha:PA X (e::es) t)
 (hbase:attributeBase o name X.env (eval o X.env)=eval o X.env:=by rfl)
 (hfew:((backTo cpos (starEach (e::es) X.env)).all (fun x=>!x.1) && (backToKw cpos (keywordEach [] X.env)).all (fun x=>x.1.isSome)
  && decide ((e::es).length+([]:List Keyword).length+(if ([]:List Keyword).isEmpty then 0 else 1) < 30))=true:=by rfl)
 (hline:(apos.endLine==cpos.line)=true:=by rfl) (hs:starEach (e::es) X.env=(false,eval e X.env)::starEach es X.env:=by rfl) (hplain:(backTo cpos (starEach es X.env)).any (·.1)=false:=by rfl):
 PE X (.Call (.Attribute o name apos) (e::es) [] cpos) (tBM X.K T r to t):=by
 intro pins s σ H Q I h;refine wpAny_Call_method_late hbase hfew hline rfl (thn (ho pins s σ H _ I h) fun v s1 hq_=>?_);obtain ⟨x,H1,I1,r1,ty,q1⟩:=hq_;obtain ⟨h1,h2⟩:=Yg I1 r1 ty;refine ⟨T,id,pa,slot,hty,h1,h2,?_⟩;have hA:=ha cpos pins s1 σ H1 _ I1 q1;rw [hs]at hA ⊢
 refine Calls.callWith_builtin (by show (false || (backTo cpos (starEach es X.env)).any (·.1))=false;rw [hplain] <;> rfl) (Calls.evalArgs_plain ?_)
 exact thn hA fun us s2 ⟨vs,H2,I2,r2,q2⟩=>hm pins s2 σ H2 x vs v us Q I2 r1 r2 q2
end
end L2
namespace L2
def MtM(X:Cx)(id:String)(r:V→List V→Hp→VK→Prop):Prop:=
 ∀(pins:List (Addr×Obj)) (s:Shared) (σ:St) (H:Hp) (x:V) (xs:List V) (v:Value) (us:List Value) (Q:VK),Inv X pins σ H s→Aw x v→Ax xs us→r x xs H Q→
   wpAny (model X.prog X.w) X.A (call (.builtin id) (v::us)) (EP X pins σ Q) X.xe s
theorem Ax.one:∀{x:V} {us:List Value},Ax [x] us→∃u,us=[u]∧Aw x u
 | _,_,.cons r .nil=>⟨_,rfl,r⟩
theorem Ax.two:∀{x y:V} {us:List Value},Ax [x,y] us→∃u v,us=[u,v]∧Aw x u∧Aw y v
 | _,_,_,.cons r (.cons q .nil)=>⟨_,_,rfl,r,q⟩
theorem Ax.zero:∀{us:List Value},Ax [] us→us=[]
 | _,.nil=>rfl
theorem Ax.dropLast{xs:List V}{us:List Value}(h:Ax xs us):Ax xs.dropLast us.dropLast:=by
 induction h with
 | nil=>exact .nil
 | cons r t ih=>
  cases t with
  | nil=>exact .nil
  | cons q t'=>exact .cons r ih
theorem Ax.eraseIdx:∀{xs:List V} {us:List Value} (i:Nat),Ax xs us→Ax (xs.eraseIdx i) (us.eraseIdx i)
 | _,_,_,.nil=> .nil
 | _,_,0,.cons _ t=>t
 | _,_,i+1,.cons r t=> .cons r (Ax.eraseIdx i t)
theorem Ax.rep{xs:List V}{us:List Value}(h:Ax xs us):∀k:Nat,Ax (List.replicate k xs).flatten (List.replicate k us).flatten
 | 0=> .nil
 | k+1=>by
  rw [Hn,Hn,R3,R3];exact Ax.append h (Ax.rep h k)
theorem Ti{α:Type}(l:List α):l.eraseIdx (l.length - 1)=l.dropLast:=by
 induction l with
 | nil=>rfl
 | cons a r ih=>
  cases r with
  | nil=>rfl
  | cons b r=>
   have e:(a::b::r).length - 1=((b::r).length - 1)+1:=by
    have h1:(a::b::r).length=r.length+2:=rfl;have h2:(b::r).length=r.length+1:=rfl;omega
   rw [e,HY,ih]
   all_goals rfl
theorem Ny(its:List Value):∀(k:Nat) (acc:List Value),
 List.foldl (fun x1 x2=>x1++x2) acc.toArray (List.replicate k its.toArray)=(acc++(List.replicate k its).flatten).toArray
 | 0,acc=>by simp
 | k+1,acc=>by
  have e:acc.toArray++its.toArray=(acc++its).toArray:=by simp
  have e2:(acc++its)++(List.replicate k its).flatten=acc++(List.replicate (k+1) its).flatten:=by
   rw [Hn,R3,HI]
  rw [← e2,← Ny its k (acc++its),← e,Hn,List.foldl_cons]
section
variable {X:Cx} {pins:List (Addr×Obj)} {σ:St} {H:Hp} {s:Shared} {l b:Addr} {xs ys zs:List V}
theorem Inv.lset{its its':List Value}{n:Nat}{f:Array Value→Array Value}{t':Nat}(I:Inv X pins σ H s)(hH:H l=some (.lst xs))
 (e:s.heap.get? l=some {cls:= .type "list",data:= .seq its.toArray n}) (hf:f its.toArray=its'.toArray) (hv:Ax ys its') (hz:ys.length≤sizeLine):
 Inv X pins σ (upd H l (.lst ys)) {s with heap:=s.heap.update l (Obj.mapSeq f),toks:=t'}:=by
 have q:=PySem.IsL.update e f;rw [hf]at q;refine I.write (x:=l) (e:=l) (by rw [hH];exact trivial) (.inl rfl) (fun b' u hb hu=>(Heap.get?_update_other s.heap (Obj.mapSeq f) (Ne.symm hb)).trans hu) ⟨_,q⟩ ?_;exact ⟨hz,its',_,hv,q⟩
theorem Inv.lnew{its:List Value}{t':Nat}(I:Inv X pins σ H s)(hv:Ax ys its)(hz:ys.length≤sizeLine):
 Inv X pins σ (upd H s.heap.objs.size (.lst ys)) {s with heap:=s.heap.push {cls:= .type "list",data:= .seq its.toArray},toks:=t'}:=
 I.laid (fun _ _ q=>Fm _ q) (Fe _) ⟨hz,its,0,hv,FI _ rfl⟩
theorem Inv.fresh(I:Inv X pins σ H s):H s.heap.objs.size=none:=I.hok.fresh (Fe _)
theorem Inv.lstM(I:Inv X pins σ H s)(hH:H l=some (.lst xs)):xs.length≤sizeLine∧∃(its:List Value) (n:Nat),Ax xs its∧xs.length=its.length∧s.heap.get? l=some {cls:= .type "list",data:= .seq its.toArray n}:=by
 obtain ⟨z,its,n,r,e⟩:=I.hok l _ hH;exact ⟨z,its,n,r,r.length,e⟩
theorem Yh{n:Nat}(h:n≤sizeLine):Builtin.List.listTooLong n=false:=by
 unfold Builtin.List.listTooLong;exact FE (by omega)
end
section
variable {X:Cx}
def P9:V→List V→Hp→VK→Prop:=fun x vs H Q=>∃l xs y,x= .ref l∧vs=[y]∧H l=some (.lst xs)∧xs.length < sizeLine∧Q .non (upd H l (.lst (xs++[y])))
theorem C7:MtM X "list.append" P9:=by
 intro pins s σ H x vs v us Q I rx rv h;obtain ⟨l,xs,y,rfl,rfl,hH,hz,q⟩:=h;cases rx;obtain ⟨u,rfl,ru⟩:=rv.one;obtain ⟨z,its,n,r,hl,e⟩:=I.lstM hH;refine HS F.slot_list_append ⟨_,e,rfl⟩ F.entry_list_append (F.args_list_append_2 _ _) (PySem.list_append l its.toArray n u (by rw [Fn];omega)) ⟨e,?_⟩;refine ⟨.non,_,I.lset (its':=its++[u]) hH e (by simp) (r.append (.cons ru .nil)) ?_,rfl,q⟩;rw [Ff,Rv];omega
def J74:V→List V→Hp→VK→Prop:=fun x vs H Q=>∃l xs y,x= .ref l∧vs=[]∧H l=some (.lst xs)∧xs[xs.length - 1]?=some y∧Q y (upd H l (.lst xs.dropLast))
theorem Yi:MtM X "list.pop" J74:=by
 intro pins s σ H x vs v us Q I rx rv h;obtain ⟨l,xs,y,rfl,rfl,hH,hy,q⟩:=h;cases rx;have hus:=rv.zero;subst hus;obtain ⟨z,its,n,r,hl,e⟩:=I.lstM hH;obtain ⟨u,hu,ru⟩:=r.get hy
 have hy':its.toArray[its.toArray.size - 1]?=some u:=by
  show its.toArray[its.length - 1]?=some u;rw [← Array.getElem?_toList,← hl];exact hu
 refine HS F.slot_list_pop ⟨_,e,rfl⟩ F.entry_list_pop (F.args_list_pop_1 _) (MeetsSeq.list_pop_last l its.toArray n u hy' (by rw [Fn];omega)) ⟨e,?_⟩;refine ⟨y,_,I.lset (its':=its.dropLast) hH e ?_ r.dropLast ?_,ru,q⟩
 · show its.toArray.eraseIdxIfInBounds (its.toArray.size - 1)=its.dropLast.toArray
   rw [Fn,List.eraseIdxIfInBounds_toArray,Ti]
 · rw [List.length_dropLast]
   omega
def J59:R2:=fun x y H Q=>∃l b xs zs,x= .ref l∧y= .ref b∧H l=some (.lst xs)∧H b=some (.lst zs)∧xs.length+zs.length≤sizeLine∧∀p,H p=none→Q (.ref p) (upd H p (.lst (xs++zs)))
theorem Tj:OpR X (binaryOp .Add) J59:=by
 intro pins s σ H x y v u Q I rx ry h;obtain ⟨l,b,xs,zs,rfl,rfl,hH,hB,hz,q⟩:=h;cases rx;cases ry;obtain ⟨z,its,n,r,hl,e⟩:=I.lstM hH;obtain ⟨z2,its2,n2,r2,hl2,e2⟩:=I.lstM hB;refine PySem.P.add_list e e2 ?_ (by rw [Fn,Fn];omega)
 have ea:its.toArray++its2.toArray=(its++its2).toArray:=by simp
 rw [ea];exact ⟨.ref _,_,I.lnew (t':=s.toks) (r.append r2) (by rw [Ff];omega),rfl,q _ I.fresh⟩
def J75:R2:=fun x y H Q=>∃l k xs,x= .ref l∧y= .int k∧H l=some (.lst xs)∧-(2 ^ 63)≤k∧k < 2 ^ 63∧xs.length * k.toNat≤sizeLine∧
 ∀p,H p=none→Q (.ref p) (upd H p (.lst (List.replicate k.toNat xs).flatten))
theorem J2t{α:Type}(xs:List α)(k:Nat):(List.replicate k xs).flatten.length=k * xs.length:=by
 induction k with
 | zero=>simp
 | succ k ih=>rw [Hn,R3,Ff,ih,Nat.succ_mul,Nat.add_comm]
theorem Tl:OpR X (binaryOp .Mult) J75:=by
 intro pins s σ H x y v u Q I rx ry h;obtain ⟨l,k,xs,rfl,rfl,hH,h1,h2,hz,q⟩:=h;cases rx;obtain ⟨t,rfl⟩:=ry;obtain ⟨z,its,n,r,hl,e⟩:=I.lstM hH
 have hlen:its.toArray.size * k.toNat≤sizeLine:=by rw [Fn,← hl];exact hz
 have hcap:¬its.toArray.size * k.toNat > (2 ^ 63 - 1) / 8:=by
  have:(sizeLine:Nat)≤(2 ^ 63 - 1) / 8:=by decide
  omega
 have hfit:¬(!Builtin.List.listFitsIndex k)=true:=by
  rw [fitsIndex_both h1 h2];exact Fz
 have hlong:¬Builtin.List.listTooLong (its.toArray.size * k.toNat)=true:=by
  rw [Yh hlen];exact Fz
 have hnew:List.foldl (fun x1 x2=>x1++x2) #[] (List.replicate (if its.toArray.isEmpty=true then 0 else k.toNat) its.toArray)=(List.replicate k.toNat its).flatten.toArray:=by
  have f0:∀m:Nat,List.foldl (fun x1 x2=>x1++x2) #[] (List.replicate m its.toArray)=(List.replicate m its).flatten.toArray:=fun m=>by
   have:=Ny its m [];rw [List.nil_append]at this;exact this
  rw [f0]
  cases its with
  | nil=>simp
  | cons a r'=>rw [if_neg (by simp)]
 refine wpAny_binaryOp_repeat_ref (T:="list") (U:="int") (by decide) ⟨_,e,rfl⟩ (fun s'=>typeIs_int s' k t) noFill_list_mul F.fills_int_mul F.slot_int_rmul repeat_list F.slot_int_index.lookup
  (HS F.slot_int_rmul (typeIs_int s k t) F.entry_int_rmul (F.args_int_rmul_2 _ _) (int___rmul___int_list k t l its.toArray n)
   ⟨e,rfl,⟨_,e,rfl⟩,HS F.slot_list_mul ⟨_,e,rfl⟩ F.entry_list_mul (F.args_list_mul_2 _ _) (AutoListH.list___mul___list_int_3 l its.toArray n k t hfit hcap hlong) ⟨e,?_⟩⟩)
 rw [hnew];exact ⟨.ref _,_,I.lnew (t':=s.toks) (r.rep k.toNat) (by rw [J2t,Nat.mul_comm];exact hz),rfl,q _ I.fresh⟩
end
end L2
namespace Att
open PySem PySem.W PySem.Calls PyProof.Rows
theorem Lp{P:Params}{h:Heap}:∀(ns:List Int) (vs:List Value),WellAll P h vs (ns.map WData.int)→IntsAre vs ns:=by
 intro ns
 induction ns with
 | nil=>
  intro vs w;rw [List.map_nil]at w;cases w;exact .nil
 | cons n ns ih=>
  intro vs w;rw [List.map_cons]at w
  cases w with
  | cons a b=>
   cases a;exact .cons _ _ (ih _ b)
theorem X4{l:OpenLaw}{n:Nat}(hn:l.most=some n){P:Params}{h:Heap}{args:List WData}{vals:List Value}
 (hpre:l.row.toRowW.claim.pre args=true) (hwl:WellAll P h vals args):
 ∃a vs ns,vals=[Value.ref a]∧args=[WData.list (ns.map WData.int)]∧h.get? a=some {cls:= .type "list",data:= .seq vs.toArray}∧IntsAre vs ns∧ns.length≤n:=by
 have hsh:WShape.hasAll [] args [.list .int]=true:=(pre_splitW hpre).1;have hc:l.pre.holds [] {args:=args}=true:=(pre_splitW hpre).2;obtain ⟨d,r,rfl,h1,h2⟩:=hasAllW_cons hsh;obtain rfl:=hasAllW_nil h2;obtain ⟨xs,rfl,h3⟩:=hasW_list h1;obtain ⟨ns,rfl⟩:=items_int h3
 have hlen:ns.length≤n:=by
  unfold OpenLaw.pre at hc
  have h4:(WTm.not (.lt (.lit (.int (n:Int))) (.len (.arg 0)))).holds [] {args:=[.list (ns.map .int)]}=true:=by
   have h4:=(holds_andW hc).1;rw [hn]at h4;exact h4
  have h5:=condW_of h4 (w_not (w_lt w_lit (w_len_list (w_arg rfl))));rw [Fa]at h5;refine Nat.le_of_not_lt fun q=>?_
  have q':(n:Int) < ((ns.length:Nat):Int):=by omega
  first
   | (rw [FD q']at h5;exact absurd h5 (by decide))
   | (simp at h5;omega)
 cases hwl with
 | cons w1 w2=>
  cases w2
  cases w1 with
  | list ho hall=>exact ⟨_,_,ns,rfl,rfl,ho,Lp ns _ hall,hlen⟩
theorem X5(l:OpenLaw)(args:List WData):l.row.toRowW.claim.post args (.bool true) args=true:=
 postW_of (r:=l.row.toRowW) (X:=(true==true))
  (show WShape.has [] (.bool true) .bool=true by first | rfl | decide | simp [WShape.has,WShape.arms,WShape.armsAll])
  (show (WTm.eq .res (.lit (.bool true))).value [] {args:=args,res:=some (.bool true),after:=args}=some (.bool (true==true)) from w_eq_bool (w_res rfl) w_lit) rfl
theorem Q6{l:OpenLaw}{n:Nat}{q:Program}{loose:List Str}{XP:(Str→Option Value)→Heap→Prop}{YP:World→Heap→Prop}{d:DefRec}
 (hn:l.most=some n) (hdf:d.params.defaults=[])
 (call:∀(w:World) (s₀ s₁:Shared) (mg mb:Str→Option Value) (fa:Addr) (o:Obj) (pm cd doc:Value) (a:Addr) (vs:List Value) (ns:List Int),
  Ground q loose [] XP w s₀ mg mb s₁.heap→YP w s₁.heap→
  s₁.heap.get? fa=some o→o.data= .func (docDef d.name d.params d.body d.scope pm cd doc)→s₁.heap.CodeRec cd d.name→mg d.name=some (.ref fa)→
  s₁.heap.get? a=some {cls:= .type "list",data:= .seq vs.toArray}→IntsAre vs ns→ns.length≤n→s₁.gens=#[]→
  codeAny (model l.prog w) callerA (.call (.ref fa) ⟨[.ref a],[]⟩) (fun r s'=>r= .ok (.ret (.bool true))∧OldK s₁.heap s'.heap∧s'.os=s₁.os∧AllBare s'.gens) s₁):
 WalkO q loose XP YP l.row.toRowW d [] (fun f vs=>PySem.call f vs):=by
 intro w s₀ s₁ mg mb G Y fa o pm cd doc dV kV ho hd hcd hD hmg hg args vals as hpre hlay hrd hwl hlo;obtain rfl:dV= .none:=Dflts.none hD hdf;obtain rfl:kV= .none:=Dflts.noKw hD;obtain ⟨a,vs,ns,rfl,rfl,hobj,hints,hlen⟩:=X4 hn hpre hwl;refine enter_call (Rg (call w s₀ s₁ mg mb fa o pm cd doc a vs ns G Y ho (fd_plain hd) hcd hmg hobj hints hlen hg) fun r s' hq=>?_);obtain ⟨rfl,h2,h3,h4⟩:=hq;exact ⟨.inl ⟨.bool true,.bool true,[],rfl,fun _=>rfl,.bool true,X5 l _,fun _=>⟨List.Pairwise.nil,fun _ hm=>(nomatch hm)⟩⟩,h2,h3,h4⟩
end Att
namespace L2
theorem Nz:∀{vs:List Value} {ns:List Int},IntsAre vs ns→Ax (ns.map V.int) vs
 | _,_,.nil=> .nil
 | _,_,.cons n t h=> .cons ⟨t,rfl⟩ (Nz h)
def J2u(H:Hp):Prop:=∀b,H b=none∨∃o xs,H b=some (.frz o (.lst xs))
theorem Yj{P:Program}{w:World}{K:PySem.W.Frag}{mg mb:Str→Option Value}{CX:CXT}{k:Nat}{fa a:Addr}{fd:FuncData}{x:Str}{sp:Sp}{s₁:Shared}{vs:List Value}{ns:List Int}
 (KX:K.In s₁.heap) (hns:s₁.heap.Ns mainGlobals mg) (hb:s₁.heap.Ns builtinsNs mb) (hbb:∀x:Str,x≠"__name__"→mb x=bootBuiltins x) (hlim:s₁.heap.NoLimit) (hg:s₁.gens=#[])
 (ha:s₁.heap.get? a=some {cls:= .type "list",data:= .seq vs.toArray}) (hi:IntsAre vs ns) (hl:ns.length≤sizeLine) (hr:Cv k callerA)
 (F:∀base:Heap,K.In base→base.Ns mainGlobals mg→Ar P w K mg base CX k fa fd [x] sp) (hbind:∀(s:Shared) (u:Value),BindsTo s fd ⟨[u],[]⟩ [(x,u)])
 (hsp:∀H:Hp,J2u H→SqL K H a (ns.map V.int)→sp [.ref a] H (fun v _=>v= .bl true) fun _ _ _=>False)
 (hCX:∀H e s',CX [] H s₁ (fun _ _ _=>False) e s'→False):
 codeAny (model P w) callerA (.call (.ref fa) ⟨[.ref a],[]⟩) (fun r s'=>r= .ok (.ret (.bool true))∧OldK s₁.heap s'.heap∧s'.os=s₁.os∧AllBare s'.gens) s₁:=by
 have rv:=Nz hi;have lenV:=hi.length
 have core:∀H:Hp,J2u H→SqL K H a (ns.map V.int)→HOk P w H s₁.heap→(∀b,H b≠none→b=a)→(H a≠none→K.lookup a=none)→
  codeAny (model P w) callerA (.call (.ref fa) ⟨[.ref a],[]⟩) (fun r s'=>r= .ok (.ret (.bool true))∧OldK s₁.heap s'.heap∧s'.os=s₁.os∧AllBare s'.gens) s₁:=by
  intro H hO hS hok hA hK;have base_of:∀{b:Addr} {o:Obj},s₁.heap.get? b=some o→H b=none→(P2 s₁.heap H).get? b=some o:=fun e n=>Xw e n
  have noA:∀{b:Addr} {o:Obj} {es:Array DictEntry} {ep:Nat},s₁.heap.get? b=some o→o.data= .dict es ep→H b=none:=fun {b o es ep} e d=>by
   cases q:H b with
   | none=>rfl
   | some u=>
    have e':b=a:=hA b (by rw [q];simp);subst e';rw [ha]at e;cases e;have d':Data.seq vs.toArray _=Data.dict es ep:=d;cases d'
  have nsK:∀{b:Addr} {m:Str→Option Value},s₁.heap.Ns b m→(P2 s₁.heap H).Ns b m:=fun {b m} ⟨o,es,ep,e,d,r⟩=>⟨o,es,ep,base_of e (noA e d),d,r⟩
  have hKb:K.In (P2 s₁.heap H):=fun b o e=>base_of (KX b o e) (by
   cases q:H b with
   | none=>rfl
   | some u=>
    have e':b=a:=hA b (by rw [q];simp);subst e'
    rw [hK (by rw [q];simp)]at e;cases e)
  have hM:Mod K mg (P2 s₁.heap H):=⟨hKb,nsK hns,⟨mb,nsK hb,hbb⟩,let ⟨mc,h1,h2⟩:=hlim;⟨mc,nsK h1,h2⟩⟩
  have e0:Td P w K mg (P2 s₁.heap H) callerA [] s₁ H:=⟨rfl,hM,fun b o e=>J2j e,Hj (Wr _ _),trivial,fun b hb=>absurd (show b∈([]:List Addr) from hb) (by simp),hok,.of_eq hg⟩
  refine Rg ((F _ hKb (nsK hns)).run callerA [] s₁ H ⟨[.ref a],[]⟩ [.ref a] [.ref a] _ _ hr e0 (hbind s₁ (.ref a)) (.cons rfl .nil) (hsp H hO hS)) fun r s' h=>?_
  cases r with
  | error e=>exact (hCX H e s' h).elim
  | ok fl=>
   cases fl with
   | next=>exact False.elim h
   | brk=>exact False.elim h
   | cont=>exact False.elim h
   | ret u=>
    obtain ⟨v,H',os,bare,un,hok',r',q⟩:=h;have q':v= .bl true:=q;subst q';obtain rfl:u=Value.bool true:=r';refine ⟨rfl,OldK.of_keep fun b o e=>?_,os,bare⟩
    cases q:H b with
    | none=>exact un.keep b o e q (by intro z;exact absurd (show b∈([]:List Addr) from z) (by simp)) (by simp)
    | some u=>
     rcases hO b with z | ⟨ob,xs,z⟩
     · rw [q]at z;cases z
     · have z2:=un.frzs b ob _ z
       obtain ⟨e1,_⟩:=hok b _ z;obtain ⟨e2,_⟩:=hok' b _ z2;rw [e]at e1;cases e1;exact e2
 cases hk:K.lookup a with
 | some o=>
  have e:=KX a o hk;rw [ha]at e;cases e;refine core (fun _=>none) (fun _=> .inl rfl) (.inr ⟨_,vs.toArray,_,hk,rfl,rfl,rfl,by rw [Fn,lenV];exact hl,by simpa using rv⟩) (fun b u z=>by have z':(none:Option HO)=some u:=z;cases z') (fun b z=>absurd rfl z) fun z=>absurd rfl z
 | none=>
  refine core (fun b=>if b=a then some (.frz {cls:= .type "list",data:= .seq vs.toArray} (.lst (ns.map V.int))) else none) (fun b=>?_) (.inl (.inr ⟨{cls:= .type "list",data:= .seq vs.toArray},if_pos rfl⟩)) (fun b u z=>?_) (fun b z=>?_) fun _=>hk
  · by_cases hb:b=a
    · exact .inr ⟨_,_,if_pos hb⟩
    · exact .inl (if_neg hb)
  · by_cases hb:b=a
    · have z':=(if_pos hb).symm.trans z
      cases z';subst hb;exact ⟨ha,by rw [Fa];exact hl,vs,_,rv,ha⟩
    · have z':=(if_neg hb).symm.trans z
      cases z'
  · by_cases hb:b=a
    · exact hb
    · exact absurd (if_neg hb) z
end L2
namespace L2
theorem J2v{l:PySem.W.OpenLaw}{n k:Nat}{q:Program}{loose:List Str}{XP:(Str→Option Value)→Heap→Prop}{YP:World→Heap→Prop}{d:DefRec}{K:Params→PySem.W.Frag}{CX:World→CXT}{sp:World→Sp}{x:Str}
 (hn:l.most=some n) (hn2:n≤sizeLine) (hdf:d.params.defaults=[]) (hr:Cv k callerA)
 (hY:∀(w:World) (h:Heap),YP w h→(K w.params).In h)
 (F:∀(w:World) (mg:Str→Option Value) (fa:Addr) (h:Heap),(K w.params).In h→h.Ns mainGlobals mg→mg d.name=some (.ref fa)→
  ∃fd:FuncData,(∀(s:Shared) (u:Value),BindsTo s fd ⟨[u],[]⟩ [(x,u)])∧
   ∀base:Heap,(K w.params).In base→base.Ns mainGlobals mg→Ar l.prog w (K w.params) mg base (CX w) k fa fd [x] (sp w))
 (hsp:∀(w:World) (H:Hp) (a:Addr) (ns:List Int),ns.length≤n→J2u H→SqL (K w.params) H a (ns.map V.int)→sp w [.ref a] H (fun v _=>v= .bl true) fun _ _ _=>False)
 (hCX:∀(w:World) (H:Hp) (s:Shared) (e:Value) (s':Shared),CX w [] H s (fun _ _ _=>False) e s'→False):
 PySem.W.WalkO q loose XP YP l.row.toRowW d [] (fun f vs=>PySem.call f vs):=by
 refine Att.Q6 hn hdf fun w s₀ s₁ mg mb fa o pm cd doc a vs ns G Y ho hd hcd hmg hobj hints hlen hg=>?_;have KX:=hY w _ Y;obtain ⟨fd,hb,hF⟩:=F w mg fa _ KX G.T.g hmg;exact Yj KX G.T.g G.T.b G.T.builtins G.T.nolimit hg hobj hints (FA hlen hn2) hr hF hb (fun H hO hS=>hsp w H a ns hlen hO hS) fun H e s'=>hCX w H s₁ e s'
theorem Yk{l:PySem.W.OpenLaw}{n k:Nat}{q:Program}{loose:List Str}{XP:(Str→Option Value)→Heap→Prop}{YP:World→Heap→Prop}{d:DefRec}{K:Params→PySem.W.Frag}{CX:CXT}{sp:PySem.W.Frag→Sp}{x:Str}
 (hn:l.most=some n) (hn2:n≤sizeLine) (hdf:d.params.defaults=[]) (hr:Cv k callerA)
 (hY:∀(w:World) (h:Heap),YP w h→(K w.params).In h)
 (F:∀(w:World) (mg:Str→Option Value) (fa:Addr) (h:Heap),(K w.params).In h→h.Ns mainGlobals mg→mg d.name=some (.ref fa)→
  ∃fd:FuncData,(∀(s:Shared) (u:Value),BindsTo s fd ⟨[u],[]⟩ [(x,u)])∧
   ∀base:Heap,(K w.params).In base→base.Ns mainGlobals mg→Ar l.prog w (K w.params) mg base CX k fa fd [x] (sp (K w.params)))
 (hsp:∀(K:PySem.W.Frag) (H:Hp) (a:Addr) (ns:List Int),ns.length≤n→J2u H→SqL K H a (ns.map V.int)→sp K [.ref a] H (fun v _=>v= .bl true) fun _ _ _=>False)
 (hCX:∀(H:Hp) (s:Shared) (e:Value) (s':Shared),CX [] H s (fun _ _ _=>False) e s'→False):
 PySem.W.WalkO q loose XP YP l.row.toRowW d [] (fun f vs=>PySem.call f vs):=
 J2v (K:=K) (CX:=fun _=>CX) (sp:=fun w=>sp (K w.params)) hn hn2 hdf hr hY F (fun w H a ns h1 h2 h3=>hsp (K w.params) H a ns h1 h2 h3) fun _ H s e s'=>hCX H s e s'
end L2
namespace L2
def As(s:Stmt)(j:Nat):Stmt:=match s with
 | .ClassDef _ _ _ body _ _ _ _ _ _ _=>body.getD j (.Pass ⟨0,0,0,0⟩)
 | _=> .Pass ⟨0,0,0,0⟩
def Dg(s:Stmt):Arguments:=match s with
 | .FunctionDef _ a _ _ _ _ _ _ _ _=>a
 | _=>{posonlyargs:=[],args:=[],vararg:=none,kwonlyargs:=[],kw_defaults:=[],kwarg:=none,defaults:=[]}
def D2(s:Stmt):List Stmt:=match s with
 | .FunctionDef _ _ b _ _ _ _ _ _ _=>b
 | _=>[]
def A7(s:Stmt):Scope:=match s with
 | .FunctionDef _ _ _ _ _ _ sc _ _ _=>sc
 | _=>{kind:= .function,names:=[],isGenerator:=false,isCoroutine:=false}
abbrev CX0:CXT:=fun _ _ _ _ _ _=>False
abbrev E0:XK:=fun _ _ _=>False
theorem Ac{X:Cx}:L6 CX0 X E0:=fun _ _ _ _ _ _ _ h=>h.elim
structure Fun(K:PySem.W.Frag)(x qual:Str)(st:Stmt)(f:Addr)(fd:FuncData):Prop where
 ex:∃(oc:Value) (od:Option Addr) (kV doc pm:Value) (an:Option Addr) (cdv ct:Value) (osl:Array (Option Value)),
  fd=PySem.W.fnOf x qual (Dg st) (D2 st) (A7 st) .none kV doc pm an cdv ct∧K.lookup f=some ⟨oc,od,.func fd,osl⟩∧PySem.W.codeIn K cdv qual=true
 kp:PySem.W.keepIn K (.ref f)=true
section
variable {P:Program} {w:World} {K:PySem.W.Frag} {mg:Str→Option Value} {base:Heap}
theorem Fun.ok{x qual:Str}{st:Stmt}{f:Addr}{fd:FuncData}{N ps:List Str}{k:Nat}{sp:Sp}(F:Fun K x qual st f fd)(S:Ab N ps (A7 st))(len:∀vs H Q E,sp vs H Q E→vs.length=ps.length)
 (hbody:∀(cdv:Value) (A:Around) (outer:List Env) (s:Shared) (H:Hp) (vs:List V) (Q:VK) (E:XK),Cv k (A.deeper (envOfC qual (A7 st) s.heap.objs.size f cdv))→sp vs H Q E→
  ∃t,PSs (Te CX0 P w K mg base N qual (A7 st) f cdv A outer s H E).nox (D2 st) t∧t {nx:=fun _ H'=>Q .non H',rt:=Q} (start N vs) H):Ar P w K mg base CX0 (k+1) f fd ps sp:=by
 obtain ⟨oc,od,kV,doc,pm,an,cdv,ct,osl,rfl,lk,hcd⟩:=F.ex;refine J6z lk hcd S len fun A outer s H vs Q E hr hsp=>?_;obtain ⟨t,h,q⟩:=hbody cdv A outer s H vs Q E hr hsp;exact ⟨t,h.nox,q⟩
theorem Fun.binds{x qual:Str}{st:Stmt}{f:Addr}{fd:FuncData}{ps:List Str}(F:Fun K x qual st f fd)
 (h:∀(kV doc pm:Value) (an:Option Addr) (cdv ct:Value) (us:List Value),us.length=ps.length→bindArgs (PySem.W.fnOf x qual (Dg st) (D2 st) (A7 st) .none kV doc pm an cdv ct) ⟨us,[]⟩=pure (ps.zip us)):D7 K fd ps []:=by
 obtain ⟨oc,od,kV,doc,pm,an,cdv,ct,osl,rfl,lk,hcd⟩:=F.ex;exact .all (h kV doc pm an cdv ct)
theorem Pa{x qual:Str}{st:Stmt}{f:Addr}{oc:Value}{od an:Option Addr}{osl:Array (Option Value)}{kV doc pm cdv ct:Value}(l:K.lookup f=some ⟨oc,od,.func (PySem.W.fnOf x qual (Dg st) (D2 st) (A7 st) .none kV doc pm an cdv ct),osl⟩)
 (c:PySem.W.codeIn K cdv qual=true) (k:PySem.W.keepIn K (.ref f)=true):Fun K x qual st f (PySem.W.fnOf x qual (Dg st) (D2 st) (A7 st) .none kV doc pm an cdv ct):=⟨⟨oc,od,kV,doc,pm,an,cdv,ct,osl,rfl,l,c⟩,k⟩
end
theorem C8{A:Around}{k:Nat}(hr:Cv k A):A.units+1 < cLine:=Fx (Nat.add_le_add_left (by decide:1≤64) _) hr.units
section
variable {X:Cx}
theorem pv(i:Nat){x:Str}{pos:Pos}(hN:X.N[i]?=some x:=by rfl)(hv:Vis X.env.scope x:=by first | exact Or.inl rfl | exact Or.inr (Or.inl rfl) | exact Or.inr (Or.inr rfl))(hd:(x==("__debug__":Str))=false:=by decide)
 (hcd:(x==("__classdict__":Str))=false:=by decide):PE X (.Name x pos) (J52 i):=J53 hN hv hd hcd
end
def A9(H H':Hp):Prop:=∀b o,H b=some o→H' b=some o
theorem A9.refl(H:Hp):A9 H H:=fun _ _ h=>h
theorem A9.trans{H H1 H2:Hp}(a:A9 H H1)(b:A9 H1 H2):A9 H H2:=fun c o h=>b c o (a c o h)
theorem A9.seq{K:PySem.W.Frag}{H H':Hp}{a:Addr}{xs:List V}(e:A9 H H')(h:SqL K H a xs):SqL K H' a xs:=by
 rcases h with (h | ⟨o,h⟩) | h
 · exact .inl (.inl (e _ _ h))
 · exact .inl (.inr ⟨o,e _ _ h⟩)
 · exact .inr h
end L2
namespace L2
section
variable {κ:Type} [DecidableEq κ]
def B1(kvs:List (κ×V))(k:κ):Option V:=(kvs.find? fun kv=>decide (kv.1=k)).map (·.2)
def B8(kvs:List (κ×V))(k:κ)(v:V):List (κ×V):=
 if (kvs.any fun kv=>decide (kv.1=k))=true then kvs.map (fun kv=>if kv.1=k then (kv.1,v) else kv) else kvs++[(k,v)]
def Bf(kvs:List (κ×V))(k:κ):List (κ×V):=kvs.filter fun kv=>decide (kv.1≠k)
theorem Bw{p:κ×V}{r:List (κ×V)}{k:κ}(e:p.1=k):B1 (p::r) k=some p.2:=by simp [B1,Hs,e]
theorem Bl{p:κ×V}{r:List (κ×V)}{k:κ}(e:¬p.1=k):B1 (p::r) k=B1 r k:=by simp [B1,Hs,e]
theorem En(k:κ):∀kvs:List (κ×V),(kvs.any fun kv=>decide (kv.1=k))=(B1 kvs k).isSome
 | []=>rfl
 | p::r=>by
  rw [HP]
  by_cases e:p.1=k
  · simp only [Bw e,FD e,Bool.true_or,Option.isSome_some]
  · rw [Bl e,FE e,Bool.false_or];exact En k r
theorem Q7(k j:κ)(y:V):∀kvs:List (κ×V),B1 (kvs.map fun kv=>if kv.1=k then (kv.1,y) else kv) j=(B1 kvs j).map fun x=>if j=k then y else x
 | []=>rfl
 | p::r=>by
  have ih:=Q7 k j y r;rw [List.map_cons]
  by_cases h:p.1=k
  · rw [if_pos h]
    by_cases e:p.1=j
    · rw [Bw (p:=(p.1,y)) e,Bw e,Hq,if_pos (e.symm.trans h)]
    · rw [Bl (p:=(p.1,y)) e,Bl e,ih]
  · rw [if_neg h]
    by_cases e:p.1=j
    · rw [Bw (p:=p) e,Bw e,Hq,if_neg (fun z=>h (e.trans z))]
    · rw [Bl (p:=p) e,Bl e,ih]
theorem O0(k j:κ)(y:V):∀kvs:List (κ×V),B1 kvs k=none→B1 (kvs++[(k,y)]) j=if j=k then some y else B1 kvs j
 | [],_=>by
  by_cases e:k=j
  · rw [if_pos e.symm];exact Bw (p:=(k,y)) e
  · rw [if_neg (fun z=>e z.symm)];exact Bl (p:=(k,y)) e
 | p::r,hn=>by
  rw [List.cons_append]
  have hk:¬p.1=k:=fun z=>by rw [Bw z]at hn;cases hn
  rw [Bl hk]at hn;have ih:=O0 k j y r hn
  by_cases e:p.1=j
  · rw [Bw e,Bw e,if_neg (fun z=>hk (e.trans z))]
  · rw [Bl e,Bl e,ih]
theorem E2(kvs:List (κ×V))(k j:κ)(y:V):B1 (B8 kvs k y) j=if j=k then some y else B1 kvs j:=by
 unfold B8
 by_cases a:(kvs.any fun kv=>decide (kv.1=k))=true
 · rw [if_pos a,Q7]
   rw [En]at a
   by_cases e:j=k
   · obtain ⟨x,hx⟩:=HM.mp a
     rw [if_pos e,e,hx,Hq,if_pos rfl]
   · rw [if_neg e]
     cases B1 kvs j with
     | none=>rfl
     | some x=>rw [Hq,if_neg e]
 · rw [if_neg a]
   refine O0 k j y kvs ?_;rw [En]at a
   cases q:B1 kvs k with
   | none=>rfl
   | some x=>rw [q]at a;exact (a rfl).elim
theorem Bx(kvs:List (κ×V))(k:κ)(v:V):(B8 kvs k v).length≤kvs.length+1:=by
 unfold B8;split
 · rw [Fa];omega
 · rw [Ff,List.length_cons,List.length_nil];omega
theorem Q8{kvs:List (κ×V)}{k:κ}(v:V)(h:B1 kvs k=none):B8 kvs k v=kvs++[(k,v)]:=by
 unfold B8;rw [En,h];exact if_neg (by decide)
theorem Gb.isSome_eq{o:Option V}{u:Option Value}(r:Gb o u):o.isSome=u.isSome:=by
 cases o with
 | none=>cases u with
  | none=>rfl
  | some _=>exact (show False from r).elim
 | some _=>cases u with
  | none=>exact (show False from r).elim
  | some _=>rfl
theorem Gb.getD{o:Option V}{u:Option Value}{d:V}{d':Value}(r:Gb o u)(rd:Aw d d'):Aw (o.getD d) (u.getD d'):=by
 cases o with
 | none=>cases u with
  | none=>exact rd
  | some _=>exact (show False from r).elim
 | some _=>cases u with
  | none=>exact (show False from r).elim
  | some _=>exact r
theorem KV.val{kvs:List (κ×V)}{vs:List (κ×Value)}(r:KV kvs vs)(k:κ):Gb (B1 kvs k) (valueAt vs k):=by
 unfold KV at r
 induction r with
 | nil=>exact True.intro
 | @cons p q ps qs h t ih=>
  obtain ⟨h1,h2⟩:=h
  by_cases e:p.1=k
  · have e':q.1=k:=h1.symm.trans e
    have b:valueAt (q::qs) k=some q.2:=by simp [valueAt,Hs,e']
    rw [Bw e,b];exact h2
  · have e':¬q.1=k:=fun z=>e (h1.trans z)
    have b:valueAt (q::qs) k=valueAt qs k:=by simp [valueAt,Hs,e']
    rw [Bl e,b];exact ih
theorem KV.any{kvs:List (κ×V)}{vs:List (κ×Value)}(r:KV kvs vs)(k:κ):(kvs.any fun kv=>decide (kv.1=k))=vs.any fun kv=>decide (kv.1=k):=by
 unfold KV at r
 induction r with
 | nil=>rfl
 | cons h t ih=>rw [HP,HP,ih,h.1]
theorem KV.repl{kvs:List (κ×V)}{vs:List (κ×Value)}(r:KV kvs vs)(k:κ){y:V}{u:Value}(ry:Aw y u):
 KV (kvs.map fun kv=>if kv.1=k then (kv.1,y) else kv) (vs.map fun kv=>if kv.1=k then (kv.1,u) else kv):=by
 unfold KV at r ⊢
 induction r with
 | nil=>exact .nil
 | @cons p q ps qs h t ih=>
  rw [List.map_cons,List.map_cons];refine .cons ?_ ih;obtain ⟨h1,h2⟩:=h
  by_cases e:p.1=k
  · rw [if_pos e,if_pos (h1.symm.trans e)];exact ⟨h1,ry⟩
  · rw [if_neg e,if_neg (fun z=>e (h1.trans z))];exact ⟨h1,h2⟩
theorem KV.put{kvs:List (κ×V)}{vs:List (κ×Value)}(r:KV kvs vs)(k:κ){y:V}{u:Value}(ry:Aw y u):KV (B8 kvs k y) (stored vs k u):=by
 unfold B8 stored;rw [r.any k]
 by_cases e:(vs.any fun kv=>decide (kv.1=k))=true
 · rw [if_pos e,if_pos e];exact r.repl k ry
 · rw [if_neg e,if_neg e];exact Paired.snoc r ⟨rfl,ry⟩
theorem KV.drop{kvs:List (κ×V)}{vs:List (κ×Value)}(r:KV kvs vs)(k:κ):KV (Bf kvs k) (without vs k):=by
 unfold KV at r ⊢;unfold Bf without
 induction r with
 | nil=>exact .nil
 | @cons p q ps qs h t ih=>
  obtain ⟨h1,h2⟩:=h;rw [List.filter_cons,List.filter_cons]
  by_cases e:p.1=k
  · have a:¬decide (p.1≠k)=true:=by simp [e]
    have b:¬decide (q.1≠k)=true:=by simp [h1.symm.trans e]
    rw [if_neg a,if_neg b];exact ih
  · have e':¬q.1=k:=fun z=>e (h1.trans z)
    have a:decide (p.1≠k)=true:=by simp [e]
    have b:decide (q.1≠k)=true:=by simp [e']
    rw [if_pos a,if_pos b];exact .cons ⟨h1,h2⟩ ih
theorem KV.length{kvs:List (κ×V)}{vs:List (κ×Value)}(r:KV kvs vs):kvs.length=vs.length:=Paired.length r
theorem Q9(kvs:List (κ×V))(k:κ):(Bf kvs k).length≤kvs.length:=Ho _ _
end
theorem Li{P:Program}{w:World}{k:Key}{u:Value}(r:Aw (kV k) u):(Ba P w).is k u=true:=by
 cases k with
 | inl i=>obtain ⟨t,e⟩:=(show ∃t,u=Value.int i t from r);subst e;exact Q0 P w i t
 | inr x=>obtain ⟨t,e⟩:=(show ∃t,u=Value.str x t from r);subst e;exact Q1 P w x t
theorem O1{P:Program}{w:World}:∀{ks:List Key} {us:List Value},Ax (ks.map kV) us→ItemsAre (Ba P w) ks us
 | [],_,r=>by rw [List.map_nil]at r;cases r;exact .nil
 | k::ks,_,r=>by
  rw [List.map_cons]at r
  cases r with
  | cons h t=>exact .cons (Li h) (O1 t)
abbrev KT(H:Hp):List (List Key×V)→List (List Key×Addr×Value)→Prop:=Paired fun p q=>p.1=q.1∧H q.2.1=some (.tup (p.1.map kV))∧Aw p.2 q.2.2
theorem KT.val{H:Hp}{kvs:List (List Key×V)}{xs:List (List Key×Addr×Value)}(r:KT H kvs xs)(k:List Key):Gb (B1 kvs k) ((atKey xs k).map (·.2)):=by
 induction r with
 | nil=>exact True.intro
 | @cons p q ps qs h t ih=>
  obtain ⟨h1,_,h2⟩:=h
  by_cases e:p.1=k
  · have e':q.1=k:=h1.symm.trans e
    have b:atKey (q::qs) k=some q.2:=by simp [atKey,Hs,e']
    rw [Bw e,b];exact h2
  · have e':¬q.1=k:=fun z=>e (h1.trans z)
    have b:atKey (q::qs) k=atKey qs k:=by simp [atKey,Hs,e']
    rw [Bl e,b];exact ih
theorem KT.repl{H:Hp}{kvs:List (List Key×V)}{xs:List (List Key×Addr×Value)}(r:KT H kvs xs)(k:List Key){y:V}{u:Value}(ry:Aw y u):
 KT H (kvs.map fun kv=>if kv.1=k then (kv.1,y) else kv) (xs.map (putAt k u)):=by
 induction r with
 | nil=>exact .nil
 | @cons p q ps qs h t ih=>
  rw [List.map_cons,List.map_cons];refine .cons ?_ ih;obtain ⟨h1,h2,h3⟩:=h;unfold putAt
  by_cases e:p.1=k
  · rw [if_pos e,if_pos (h1.symm.trans e)];exact ⟨h1,h2,ry⟩
  · rw [if_neg e,if_neg (fun z=>e (h1.trans z))];exact ⟨h1,h2,h3⟩
theorem KT.put{H:Hp}{kvs:List (List Key×V)}{xs:List (List Key×Addr×Value)}(r:KT H kvs xs)(k:List Key){b:Addr}{y:V}{u:Value}(hb:H b=some (.tup (k.map kV)))(ry:Aw y u):
 KT H (B8 kvs k y) (storedH xs k b u):=by
 have e:(kvs.any fun kv=>decide (kv.1=k))=(atKey xs k).isSome:=by
  rw [En,(r.val k).isSome_eq,RG]
 unfold B8 storedH;rw [e]
 by_cases q:(atKey xs k).isSome=true
 · rw [if_pos q,if_pos q];exact r.repl k ry
 · rw [if_neg q,if_neg q];exact Paired.snoc r ⟨rfl,hb,ry⟩
theorem KT.keeps{H H':Hp}{kvs:List (List Key×V)}{xs:List (List Key×Addr×Value)}(r:KT H kvs xs)(ht:∀b ys,H b=some (.tup ys)→H' b=some (.tup ys)):KT H' kvs xs:=
 Paired.mapP r fun _ _ z=>⟨z.1,ht _ _ z.2.1,z.2.2⟩
section
variable {P:Program} {w:World} {H:Hp} {h:Heap} {a:Addr}
theorem J48{u:HO}(ok:HOk P w H h)(e:Rd H a u):Bv P w H h a u:=e.ok ok
theorem Lj{kvs:List (Key×V)}(ok:HOk P w H h)(e:Rd H a (.dK kvs)):kvs.length≤sizeLine∧(a==sysModules)=false∧∃vs,KV kvs vs∧h.DictOf (Ba P w) a vs:=
 show Bv P w H h a (.dK kvs) from J48 ok e
theorem Yl{kvs:List (Key×V)}(ok:HOk P w H h)(e:H a=some (.dK kvs)):kvs.length≤sizeLine∧(a==sysModules)=false∧∃vs,KV kvs vs∧h.DictOf (Ba P w) a vs:=Lj ok (.inl e)
theorem La{ks:List Key}(ok:HOk P w H h)(e:H a=some (.tup (ks.map kV))):(tupleKind (Ba P w)).is h ks a:=by
 obtain ⟨_,its,r,o,h1,h2,n,h3⟩:=(show Bv P w H h a (.tup (ks.map kV)) from ok a _ e)
 exact ⟨o,its.toArray,n,h1,h2,h3,by simpa using O1 r⟩
theorem Mq{kvs:List (List Key×V)}(ok:HOk P w H h)(e:Rd H a (.dT kvs)):kvs.length≤sizeLine∧(a==sysModules)=false∧
 ∃xs,KT H kvs xs∧h.DictOfH (tupleKind (Ba P w)) a xs:=by
 obtain ⟨z,y,xs,r,o,es,ep,h1,h2,h3,h4,h5⟩:=(show Bv P w H h a (.dT kvs) from J48 ok e)
 refine ⟨z,y,xs,r,o,es,ep,h1,h2,h3,h4,fun x hx=>?_,h5⟩
 have all:∀{l:List (List Key×V)} {m:List (List Key×Addr×Value)},KT H l m→∀x∈m,(tupleKind (Ba P w)).is h x.1 x.2.1:=by
  intro l m q
  induction q with
  | nil=>intro x hx;exact nomatch hx
  | @cons p q ps qs hq t ih=>
   intro x hx;rcases Fh.mp hx with e | hx
   · subst e
     exact La ok (by rw [← hq.1];exact hq.2.1)
   · exact ih x hx
 exact all r x hx
theorem J76{kvs:List (List Key×V)}(ok:HOk P w H h)(e:H a=some (.dT kvs)):kvs.length≤sizeLine∧(a==sysModules)=false∧
 ∃xs,KT H kvs xs∧h.DictOfH (tupleKind (Ba P w)) a xs:=Mq ok (.inl e)
end
def Cw(H:Hp)(a:Addr)(y:V)(r:Option V):Prop:=
 (∃kvs k,Rd H a (.dK kvs)∧y=kV k∧r=B1 kvs k)∨∃kvs k b,Rd H a (.dT kvs)∧y= .ref b∧H b=some (.tup (k.map kV))∧r=B1 kvs k
def Kl(H:Hp)(a:Addr)(y v:V)(H':Hp):Prop:=
 (∃kvs k,H a=some (.dK kvs)∧y=kV k∧kvs.length < sizeLine∧H'=upd H a (.dK (B8 kvs k v)))∨
 ∃kvs k b,H a=some (.dT kvs)∧y= .ref b∧H b=some (.tup (k.map kV))∧kvs.length < sizeLine∧H'=upd H a (.dT (B8 kvs k v))
theorem Cw.k{H:Hp}{a:Addr}{kvs:List (Key×V)}{k:Key}(e:H a=some (.dK kvs)):Cw H a (kV k) (B1 kvs k):= .inl ⟨kvs,k,.inl e,rfl,rfl⟩
theorem Kl.k{H:Hp}{a:Addr}{kvs:List (Key×V)}{k:Key}{v:V}(e:H a=some (.dK kvs))(hl:kvs.length < sizeLine):Kl H a (kV k) v (upd H a (.dK (B8 kvs k v))):= .inl ⟨kvs,k,e,rfl,hl,rfl⟩
section
variable {X:Cx} {pins:List (Addr×Obj)} {σ:St} {H:Hp} {s:Shared} {a:Addr} {y v:V} {u r:Value} {o:Option V} {A:Around} {E:Value→Shared→Prop}
theorem Inv.big(I:Inv X pins σ H s):sysModules < s.heap.objs.size:=by
 have h:mainGlobals < s.heap.objs.size:=(I.mod.glob.keeps I.bk).lt;exact Nat.lt_trans (by decide) h
theorem X6{Q:Value→Shared→Prop}(hu:A.units+1 < cLine)(I:Inv X pins σ H s)(g:Cw H a y (some v))(ry:Aw y u)(h:∀w' s',Inv X pins σ H s'→Aw v w'→Q w' s'):
 wpAny (model X.prog X.w) A (getItem (.ref a) u) Q E s:=by
 rcases g with ⟨kvs,k,e,ey,l⟩ | ⟨kvs,k,b,e,ey,eb,l⟩
 · subst ey
   obtain ⟨z,hd,vs,rel,dd⟩:=Lj I.hok e;obtain ⟨w',hw,rw'⟩:=Gb.some_of (v:=v) (o:=valueAt vs k) (by rw [l];exact rel.val k);exact wpAny_getItem_of (Li ry) dd.mapOf hw (h w' _ (I.tok _) rw')
 · subst ey
   cases (show u=Value.ref b from ry);obtain ⟨z,hd,xs,rel,dd⟩:=Mq I.hok e;obtain ⟨w',hw,rw'⟩:=Gb.some_of (v:=v) (o:=(atKey xs k).map (·.2)) (by rw [l];exact rel.val k);obtain ⟨p,hp,hp2⟩:=Option.map_eq_some_iff.mp hw;refine wpAny_getItem_heap (HR hu) (La I.hok eb) dd hp ?_;rw [hp2];exact h w' _ (I.tok _) rw'
theorem J8h{Q:Value→Shared→Prop}(hu:A.units+1 < cLine)(I:Inv X pins σ H s)(g:Cw H a y o)(ry:Aw y u)(h:∀s',Inv X pins σ H s'→Q (.bool o.isSome) s'):
 wpAny (model X.prog X.w) A (compareOp .In u (.ref a)) Q E s:=by
 rcases g with ⟨kvs,k,e,ey,l⟩ | ⟨kvs,k,b,e,ey,eb,l⟩
 · subst ey
   obtain ⟨z,hd,vs,rel,dd⟩:=Lj I.hok e;refine wpAny_in_of (Li ry) hd dd.mapOf ?_;rw [← (rel.val k).isSome_eq,← l];exact h _ (I.tok _)
 · subst ey
   cases (show u=Value.ref b from ry);obtain ⟨z,hd,xs,rel,dd⟩:=Mq I.hok e;refine wpAny_in_heap (HR hu) (La I.hok eb) hd dd ?_;have q:=(rel.val k).isSome_eq;rw [RG]at q;rw [← q,← l];exact h _ (I.tok _)
theorem J2w{Q:Value→Shared→Prop}(hu:A.units+1 < cLine)(I:Inv X pins σ H s)(g:Cw H a y o)(ry:Aw y u)(h:∀s',Inv X pins σ H s'→Q (.bool (!o.isSome)) s'):
 wpAny (model X.prog X.w) A (compareOp .NotIn u (.ref a)) Q E s:=by
 rcases g with ⟨kvs,k,e,ey,l⟩ | ⟨kvs,k,b,e,ey,eb,l⟩
 · subst ey
   obtain ⟨z,hd,vs,rel,dd⟩:=Lj I.hok e;refine wpAny_notIn_of (Li ry) hd dd.mapOf ?_;rw [← (rel.val k).isSome_eq,← l];exact h _ (I.tok _)
 · subst ey
   cases (show u=Value.ref b from ry);obtain ⟨z,hd,xs,rel,dd⟩:=Mq I.hok e;refine wpAny_notIn_heap (HR hu) (La I.hok eb) hd dd ?_;have q:=(rel.val k).isSome_eq;rw [RG]at q;rw [← q,← l];exact h _ (I.tok _)
theorem Lz{h':Heap}{t':Nat}{ob:HO}(I:Inv X pins σ H s)(mu:Mut (H a))(hs:Heap.SameBut a s.heap h')(he:∃q,h'.get? a=some q)(new:Bv X.prog X.w (upd H a ob) h' a ob):
 Inv X pins σ (upd H a ob) {s with heap:=h',toks:=t'}:=
 I.write (x:=a) (e:=a) mu (.inl rfl) (fun b q hb z=>(hs.2 b hb).trans z) he new
theorem Tn{P:Program}{w:World}{H':Hp}{h':Heap}{kvs:List (Key×V)}{vs:List (Key×Value)}(z:kvs.length≤sizeLine)(hd:(a==sysModules)=false)(rel:KV kvs vs)(dd:h'.DictOf (Ba P w) a vs):
 Bv P w H' h' a (.dK kvs):=⟨z,hd,vs,rel,dd⟩
theorem X7{H':Hp}{Q:Unit→Shared→Prop}(hu:A.units+1 < cLine)(I:Inv X pins σ H s)(g:Kl H a y v H')(ry:Aw y u)(rv:Aw v r)(h:∀s',Inv X pins σ H' s'→Q () s'):
 wpAny (model X.prog X.w) A (setItem (.ref a) u r) Q E s:=by
 rcases g with ⟨kvs,k,e,ey,l,eH⟩ | ⟨kvs,k,b,e,ey,eb,l,eH⟩
 · subst ey eH
   obtain ⟨z,hd,vs,rel,dd⟩:=Yl I.hok e
   have hz:vs.length≤sizeLine:=by rw [← rel.length];exact z
   have hl:(B8 kvs k v).length≤sizeLine:=by have:=Bx kvs k v;omega
   refine wpAny_setItem_pairs (hsz:=hz) (Li ry) dd fun h' dd' hs=>h _ ?_;have he:∃q,h'.get? a=some q:=let ⟨q,_,_,hq,_⟩:=dd';⟨q,hq⟩;exact Lz I (by rw [e];exact True.intro) hs he (Tn hl hd (rel.put k rv) dd')
 · subst ey eH
   cases (show u=Value.ref b from ry);obtain ⟨z,hd,xs,rel,dd⟩:=J76 I.hok e
   have hz:xs.length≤sizeLine:=by rw [← Paired.length rel];exact z
   have hl:(B8 kvs k v).length≤sizeLine:=by have:=Bx kvs k v;omega
   refine wpAny_setItem_heap (hsz:=hz) (HR hu) (La I.hok eb) dd fun h' dd' hs=>h _ ?_;obtain ⟨q,es,ep,hq,h2,h3,h4,_,h5⟩:=dd';refine Lz I (by rw [e];exact True.intro) hs ⟨q,hq⟩ ⟨hl,hd,_,(rel.put k eb rv).keeps fun c ys ec=>?_,q,es,ep,hq,h2,h3,h4,h5⟩;rw [A4 (Bp ec e (fun z=>nomatch z))];exact ec
end
section
variable {X:Cx} {pins:List (Addr×Obj)} {σ:St} {H:Hp} {s:Shared} {a:Addr} {kvs:List (Key×V)} {k:Key} {u:Value} {A:Around} {E:Value→Shared→Prop}
theorem J77{v:V}{more:List Value}{Q:Value→Shared→Prop}(I:Inv X pins σ H s)(e:H a=some (.dK kvs))(ry:Aw (kV k) u)(l:B1 kvs k=some v)(hm:more=[]∨∃x,more=[x])
 (h:∀w' s',Inv X pins σ (upd H a (.dK (Bf kvs k))) s'→Aw v w'→Q w' s'):wpAny (model X.prog X.w) A (call (.builtin "dict.pop") (.ref a::u::more)) Q E s:=by
 obtain ⟨z,hd,vs,rel,dd⟩:=Yl I.hok e;obtain ⟨w',hw,rw'⟩:=Gb.some_of (v:=v) (o:=valueAt vs k) (by rw [← l];exact rel.val k)
 have hp:(keyPart u).isSome=true:=by
  cases k with
  | inl i=>obtain ⟨t,q⟩:=(show ∃t,u=Value.int i t from ry);subst q;rfl
  | inr x=>obtain ⟨t,q⟩:=(show ∃t,u=Value.str x t from ry);subst q;rfl
 have ha:argsOk "dict.pop" ⟨.ref a::u::more,[]⟩:=by
  rcases hm with q | ⟨x,q⟩
  · subst q;exact PySem.F.args_dict_pop_2 _ _
  · subst q;exact PySem.F.args_dict_pop_3 _ _ _
 refine Rn PySem.F.slot_dict_pop dd.typeIs PySem.F.entry_dict_pop ha (meets_dict_pop_there (Ba X.prog X.w) a (Li ry) more hm hp)
  ⟨vs,w',dd,by rw [← rel.length];exact z,hw,fun h' dd' hs=>h w' _ ?_ rw'⟩
 have he:∃q,h'.get? a=some q:=let ⟨q,_,_,hq,_⟩:=dd';⟨q,hq⟩;exact Lz I (by rw [e];exact True.intro) hs he (Tn (FA (Q9 kvs k) z) hd (rel.drop k) dd')
theorem J78{Q:Value→Shared→Prop}(I:Inv X pins σ H s)(e:Rd H a (.dK kvs))(h:∀t s',Inv X pins σ H s'→Q (.int kvs.length t) s'):wpAny (model X.prog X.w) A (call (.builtin "len") [.ref a]) Q E s:=by
 obtain ⟨z,hd,vs,rel,dd⟩:=Lj I.hok e;refine call_len_dict hd dd (by rw [← rel.length];rw [sizeLine_eq]at z;omega) ?_;rw [← rel.length];exact h _ _ (I.tok _)
end
def J5a(i:Expr):Prop:=∀ov iv,subscripted i false ov iv=operate [ov,iv] (getItem ov iv)
theorem Ul{prog:Program}{w:World}{A:Around}{E:Value→Shared→Prop}{s:Shared}{env:Env}{value slice:Expr}{pos:Pos}{T id:String}{Q:Value→Shared→Prop}
 (hl:typeLookup (.type T) "__getitem__"=pure (some (.builtin id))) (hs:J5a slice)
 (h:wpAny (model prog w) A (eval value env) (fun o s₁=>wpAny (model prog w) A (eval slice env) (fun i s₂=>s₂.TypeIs o T∧wpAny (model prog w) A (getItem o i) Q E s₂) E s₁) E s):
 wpAny (model prog w) A (eval (.Subscript value slice pos) env) Q E s:=by
 refine Subscript_ (FZ h (fun o s₁ h₁=>FZ h₁ (fun i s₂ h₂=>?_) fun _ _ x=>x) fun _ _ x=>x);obtain ⟨hT,h₂⟩:=h₂;unfold subscriptTail;refine FK ?_;rw [getitemInPython_of_ne hT.not_modules];refine FK (wpAny_specialOf hT hl ?_)
 have fin:wpAny (model prog w) A (subscripted slice false o i) (fun r s₃=>wpAny (model prog w) A (letTemporaryGo value o r >>=fun _=>pure r) Q E s₃) E s₂:=by
  rw [hs o i];exact wpAny_operating (FZ h₂ (fun r s₃ h₃=>FK (wpAny_letTemporaryGo (FW h₃))) fun _ _ x=>x)
 first
  | exact FW (FK fin)
  | exact FK (FW (FK fin))
  | exact FK fin
theorem Qa{X:Cx}{pins:List (Addr×Obj)}{σ:St}{H:Hp}{s:Shared}{a:Addr}{y:V}{o:Option V}(I:Inv X pins σ H s)(g:Cw H a y o):s.TypeIs (.ref a) "dict":=by
 rcases g with ⟨kvs,k,e,_,_⟩ | ⟨kvs,k,b,e,_,_,_⟩
 · obtain ⟨_,_,vs,_,dd⟩:=Lj I.hok e
   exact dd.typeIs
 · obtain ⟨_,_,xs,_,dd⟩:=Mq I.hok e
   exact dd.typeIs
def J49(td ty:TE):TE:=fun σ H Q=>td σ H fun x H1=>ty σ H1 fun y H2=>∃a v,x= .ref a∧Cw H2 a y (some v)∧Q v H2
def J79(ty td:TE):TE:=fun σ H Q=>ty σ H fun y H1=>td σ H1 fun x H2=>∃a o,x= .ref a∧Cw H2 a y o∧Q (.bl o.isSome) H2
def Um(ty td:TE):TE:=fun σ H Q=>ty σ H fun y H1=>td σ H1 fun x H2=>∃a o,x= .ref a∧Cw H2 a y o∧Q (.bl (!o.isSome)) H2
def J4a(td ty tv:TE):TS:=fun D σ H=>tv σ H fun v H1=>td σ H1 fun x H2=>ty σ H2 fun y H3=>∃a H4,x= .ref a∧Kl H3 a y v H4∧D.nx σ H4
section
variable {X:Cx} {o i e value:Expr} {pos pos' tpos:Pos} {td ty tv:TE}
theorem Ey(hu:X.A.units+1 < cLine)(ho:PE X o td)(hi:PE X i ty)(hs:J5a i):PE X (.Subscript o i pos) (J49 td ty):=by
 intro pins s σ H Q I h;refine Ul PySem.F.slot_dict_getitem.lookup hs (thn (ho pins s σ H _ I h) fun u s1 ⟨x,H1,I1,rx,q1⟩=>thn (hi pins s1 σ H1 _ I1 q1) fun iv s2 hq_=>?_);obtain ⟨y,H2,I2,ry,a,v,ex,g,q2⟩:=hq_;subst ex;obtain rfl:u=Value.ref a:=rx;exact ⟨Qa I2 g,X6 hu I2 g ry fun w' s3 I3 rw'=>⟨v,H2,I3,rw',q2⟩⟩
theorem Lb(hu:X.A.units+1 < cLine)(hi:PE X i ty)(ho:PE X o td):PC X .In i o (J79 ty td):=by
 intro pins s σ H Q I h;refine thn (hi pins s σ H _ I h) fun iv s1 ⟨y,H1,I1,ry,q1⟩=>thn (ho pins s1 σ H1 _ I1 q1) fun u s2 hq_=>?_;obtain ⟨x,H2,I2,rx,a,ov,ex,g,q2⟩:=hq_;subst ex;obtain rfl:u=Value.ref a:=rx
 exact J8h hu I2 g ry fun s3 I3=>⟨.bl ov.isSome,H2,I3,rfl,q2⟩
theorem X8(hu:X.A.units+1 < cLine)(hi:PE X i ty)(ho:PE X o td):PC X .NotIn i o (Um ty td):=by
 intro pins s σ H Q I h;refine thn (hi pins s σ H _ I h) fun iv s1 ⟨y,H1,I1,ry,q1⟩=>thn (ho pins s1 σ H1 _ I1 q1) fun u s2 hq_=>?_;obtain ⟨x,H2,I2,rx,a,ov,ex,g,q2⟩:=hq_;subst ex;obtain rfl:u=Value.ref a:=rx
 exact J2w hu I2 g ry fun s3 I3=>⟨.bl (!ov.isSome),H2,I3,rfl,q2⟩
theorem Ee(hu:X.A.units+1 < cLine)(ho:PE X o td)(hi:PE X i ty)(hv:PE X value tv)(hs:swapsWith value (some (.Subscript o i pos')) pos.line X.env=pure false):
 PS X (.Assign [.Subscript o i pos'] value pos) (J4a td ty tv):=by
 intro pins s σ H D I h;refine wpAny_Assign_Subscript (thn (hv pins s σ H _ I h) fun r s1 ⟨v,H1,I1,rv,q1⟩=>thn (ho pins s1 σ H1 _ I1 q1) fun u s2 ⟨x,H2,I2,rx,q2⟩=>thn (hi pins s2 σ H2 _ I2 q2) fun iv s3 hq_=>?_) hs;obtain ⟨y,H3,I3,ry,a,H4,ex,g,q3⟩:=hq_;subst ex;obtain rfl:u=Value.ref a:=rx
 exact X7 hu I3 g ry rv fun s4 I4=>⟨σ,H4,I4,q3⟩
end
theorem Ym{P:Program}{w:World}{H:Hp}(h:Heap)(hb:sysModules < h.objs.size):Bv P w H (h.push {cls:= .type "dict",data:= .dict #[]}) h.objs.size (.dK []):=
 ⟨Fl _,HL.mpr (Ne.symm (FF hb)),[],.nil,Heap.DictOf.new h⟩
def Yn:TE:=fun _ H Q=>∀p,H p=none→Q (.ref p) (upd H p (.dK []))
section
variable {X:Cx} {pos:Pos}
theorem C9:PE X (.Dict [] [] pos) Yn:=fun pins s σ H Q I h=>
 wpAny_Dict_empty ⟨.ref s.heap.objs.size,_,I.laid (a:=s.heap.objs.size) (o:= .dK []) (t':=s.toks) (fun _ _ q=>Fm _ q) (Fe _) (Ym s.heap I.big),rfl,h _ (I.hok.fresh (Fe _))⟩
end
def Mr:List (TE×TE)→St→Hp→(List (V×V)→Hp→Prop)→Prop
 | [],_,H,Q=>Q [] H
 | (tk,tv)::r,σ,H,Q=>tk σ H fun x H1=>tv σ H1 fun y H2=>Mr r σ H2 fun ps H3=>Q ((x,y)::ps) H3
def Yo(kvs more:List (Key×V)):List (Key×V):=more.foldl (fun acc kv=>B8 acc kv.1 kv.2) kvs
def J7a(trs:List (TE×TE)):TE:=fun σ H Q=>∀p,H p=none→Mr trs σ (upd H p (.dK [])) fun ps H2=>H2 p=some (.dK [])∧∃kvs:List (Key×V),ps=kvs.map (fun kv=>(kV kv.1,kv.2))∧kvs.length≤15∧Q (.ref p) (upd H2 p (.dK (Yo [] kvs)))
structure M1(X:Cx)(o:Expr)(m:Str)(apos:Pos)(e:Expr)(cpos:Pos):Prop where
 base:attributeBase o m X.env (eval o X.env)=eval o X.env
 few:((backTo cpos (starEach [e] X.env)).all (fun x=>!x.1) && (backToKw cpos (keywordEach [] X.env)).all (fun x=>x.1.isSome)
  && decide (([e]:List Expr).length+([]:List Keyword).length+(if ([]:List Keyword).isEmpty then 0 else 1) < 30))=true
 line:(apos.endLine==cpos.line)=true
 trees:backTo cpos (starEach [e] X.env)=[(false,eval e X.env)]
structure M2(X:Cx)(o:Expr)(m:Str)(apos:Pos)(e f:Expr)(cpos:Pos):Prop where
 base:attributeBase o m X.env (eval o X.env)=eval o X.env
 few:((backTo cpos (starEach [e,f] X.env)).all (fun x=>!x.1) && (backToKw cpos (keywordEach [] X.env)).all (fun x=>x.1.isSome)
  && decide (([e,f]:List Expr).length+([]:List Keyword).length+(if ([]:List Keyword).isEmpty then 0 else 1) < 30))=true
 line:(apos.endLine==cpos.line)=true
 trees:backTo cpos (starEach [e,f] X.env)=[(false,eval e X.env),(false,eval f X.env)]
def IsD(H:Hp)(a:Addr):Prop:=(∃kvs,Rd H a (.dK kvs))∨∃kvs,Rd H a (.dT kvs)
theorem Yp{X:Cx}{pins:List (Addr×Obj)}{σ:St}{H:Hp}{s:Shared}{a:Addr}(I:Inv X pins σ H s)(d:IsD H a):
 s.TypeIs (.ref a) "dict"∧(∀b,Value.ref a= .ref b→∃ob,s.heap.get? b=some ob∧ob.dict=none)∧(a==sysModules)=false:=by
 rcases d with ⟨kvs,e⟩ | ⟨kvs,e⟩
 · obtain ⟨_,hd,vs,_,dd⟩:=Lj I.hok e
   refine ⟨dd.typeIs,fun b q=>?_,hd⟩;cases q;obtain ⟨ob,_,_,h1,h2,_⟩:=dd;exact ⟨ob,h1,h2.2.1⟩
 · obtain ⟨_,hd,xs,_,dd⟩:=Mq I.hok e
   refine ⟨dd.typeIs,fun b q=>?_,hd⟩;cases q;obtain ⟨ob,_,_,h1,h2,_⟩:=dd;exact ⟨ob,h1,h2.2.1⟩
section
variable {X:Cx} {pins:List (Addr×Obj)} {σ:St} {H:Hp} {s:Shared} {a:Addr} {y d:V} {u r:Value} {o:Option V} {A:Around} {E:Value→Shared→Prop}
theorem J5b{Q:Value→Shared→Prop}(hu:A.units+1 < cLine)(I:Inv X pins σ H s)(g:Cw H a y o)(ry:Aw y u)(rd:Aw d r)(h:∀w' s',Inv X pins σ H s'→Aw (o.getD d) w'→Q w' s'):
 wpAny (model X.prog X.w) A (call (.builtin "dict.get") [.ref a,u,r]) Q E s:=by
 rcases g with ⟨kvs,k,e,ey,l⟩ | ⟨kvs,k,b,e,ey,eb,l⟩
 · subst ey
   obtain ⟨z,hd,vs,rel,dd⟩:=Lj I.hok e;refine Rn Rt dd.typeIs PySem.F.entry_dict_get (PySem.F.args_dict_get_3 _ _ _) (meets_dict_get_default (Ba X.prog X.w) a (Li ry) hd r) ⟨_,dd.mapOf,h _ _ (I.tok _) ?_⟩;rw [l];exact (rel.val k).getD rd
 · subst ey
   cases (show u=Value.ref b from ry);obtain ⟨z,hd,xs,rel,dd⟩:=Mq I.hok e;refine Rn Rt dd.typeIs PySem.F.entry_dict_get (PySem.F.args_dict_get_3 _ _ _) (meetsH_dict_get_default (tupleKind (Ba X.prog X.w)) a b hd r) ⟨HR hu,k,xs,La I.hok eb,dd,h _ _ (I.tok _) ?_⟩;rw [l];exact (rel.val k).getD rd
end
def Yq(td ty tx:TE):TE:=fun σ H Q=>td σ H fun x H1=>∃a,x= .ref a∧IsD H1 a∧ty σ H1 fun y H2=>tx σ H2 fun z H3=>∃o,Cw H3 a y o∧Q (o.getD z) H3
def Yr(td ty:TE):TE:=fun σ H Q=>td σ H fun x H1=>∃a,x= .ref a∧IsD H1 a∧ty σ H1 fun y H2=>∃kvs k v,H2 a=some (.dK kvs)∧y=kV k∧B1 kvs k=some v∧Q v (upd H2 a (.dK (Bf kvs k)))
section
variable {X:Cx} {o e f:Expr} {apos cpos:Pos} {td ty tx:TE}
theorem Ms(hu:X.A.units+1 < cLine)(ho:PE X o td)(he:PE X e ty)(hf:PE X f tx)(m:M2 X o "get" apos e f cpos):PE X (.Call (.Attribute o "get" apos) [e,f] [] cpos) (Yq td ty tx):=by
 intro pins s σ H Q I h;refine wpAny_Call_method m.base m.few m.line HV Rt PySem.F.type_dict_get (thn (ho pins s σ H _ I h) fun u s1 hq_=>?_);obtain ⟨x,H1,I1,rx,a,ex,d,q1⟩:=hq_;subst ex;obtain rfl:u=Value.ref a:=rx;obtain ⟨t1,t2,_⟩:=Yp I1 d;refine ⟨t1,t2,?_⟩;rw [m.trees]
 refine Calls.callWith_builtin rfl (Calls.evalArgs_plain (Calls.spliced_cons (thn (he pins s1 σ H1 _ I1 q1) fun iv s2 ⟨y,H2,I2,ry,q2⟩=>
  Calls.spliced_cons (thn (hf pins s2 σ H2 _ I2 q2) fun fv s3 ⟨z,H3,I3,rz,ov,g,q3⟩=>Calls.spliced_nil ?_))))
 exact J5b hu I3 g ry rz fun w' s4 I4 rw'=>⟨_,H3,I4,rw',q3⟩
theorem Km(ho:PE X o td)(he:PE X e ty)(m:M1 X o "pop" apos e cpos):PE X (.Call (.Attribute o "pop" apos) [e] [] cpos) (Yr td ty):=by
 intro pins s σ H Q I h;refine wpAny_Call_method m.base m.few m.line HV PySem.F.slot_dict_pop PySem.F.type_dict_pop (thn (ho pins s σ H _ I h) fun u s1 hq_=>?_);obtain ⟨x,H1,I1,rx,a,ex,d,q1⟩:=hq_;subst ex;obtain rfl:u=Value.ref a:=rx;obtain ⟨t1,t2,_⟩:=Yp I1 d;refine ⟨t1,t2,?_⟩;rw [m.trees];refine Calls.callWith_builtin rfl (Calls.evalArgs_plain (Calls.spliced_cons (thn (he pins s1 σ H1 _ I1 q1) fun iv s2 ⟨y,H2,I2,ry,kvs,k,v,ea,ey,l,q2⟩=>Calls.spliced_nil ?_)));subst ey
 exact J77 I2 ea ry l (.inl rfl) fun w' s3 I3 rw'=>⟨v,_,I3,rw',q2⟩
end
end L2
namespace L2
section
variable {X:Cx}
theorem O2:El X (.builtin "len") (fun xs H Q=>∃a kvs,xs=[V.ref a]∧H a=some (.dK kvs)∧Q (.int kvs.length) H):=by
 intro pins s σ H xs us Q I r h;obtain ⟨a,kvs,rfl,ha,q⟩:=h;obtain ⟨u,rfl,ru⟩:=Ic r;cases ru
 exact J78 I (.inl ha) fun t s' I'=>⟨.int kvs.length,H,I',⟨t,rfl⟩,q⟩
end
section
variable {κ:Type} [DecidableEq κ]
theorem Ys{kvs:List (κ×V)}{k:κ}(h:B1 kvs k=none):¬k∈kvs.map (·.1):=by
 intro m;obtain ⟨p,hp,e⟩:=FH.mp m;have q:(kvs.any fun kv=>decide (kv.1=k))=true:=List.any_eq_true.mpr ⟨p,hp,FD e⟩;rw [En,h]at q;exact absurd q (by simp)
theorem J2x{kvs:List (κ×V)}{k:κ}{v:V}(h:B1 kvs k=some v):k∈kvs.map (·.1):=by
 have q:(kvs.any fun kv=>decide (kv.1=k))=true:=by
  rw [En,h]
  all_goals rfl
 obtain ⟨p,hp,e⟩:=List.any_eq_true.mp q;exact FH.mpr ⟨p,hp,of_decide_eq_true e⟩
end
end L2
namespace L2
structure Def(P:Program)(w:World)(K:PySem.W.Frag)(mg:Str→Option Value)(base:Heap)(CX:CXT)(k:Nat)(x:Str)(ps:List Str)(sp:Sp):Prop where
 ex:∃(f:Addr) (fd:FuncData),Ar P w K mg base CX k f fd ps sp∧mg x=some (.ref f)∧PySem.W.keepIn K (.ref f)=true∧D7 K fd ps []
def Yt(sp:Sp)(E:XK)(t:TA):TE:=fun σ H Q=>t σ H fun vs H1=>sp vs H1 Q E
section
variable {X:Cx} {CX:CXT} {k j:Nat} {ps:List Str} {sp:Sp} {E:XK} {x:Str} {p pos:Pos} {e:Expr} {es:List Expr} {t:TA}
theorem Ad(D:Def X.prog X.w X.K X.mg X.base CX j x ps sp)(hr:Cv k X.A)(hg:Gl X x)(hx:L6 CX X E)(ha:PA X (e::es) t)(hj:j≤k:=by decide)
 (hdb:(x==("__debug__":Str))=false:=by decide) (he:starEach (e::es) X.env=(false,eval e X.env)::starEach es X.env:=by rfl) (hpl:(backTo pos (starEach es X.env)).any (·.1)=false:=by rfl):
 PE X (.Call (.Name x p) (e::es) [] pos) (Yt sp E t):=by
 obtain ⟨f,fd,F,hm,hk,hb⟩:=D.ex;intro pins s σ H Q I h;refine J2r (F.mono hj) hr hg hm hk hb .nil hx ha hdb he hpl pins s σ H Q I ?_;show t σ H fun vs H1=>sp (vs++[]) H1 Q E
 have z:(fun (vs:List V) (H1:Hp)=>sp (vs++[]) H1 Q E)=fun vs H1=>sp vs H1 Q E:=by funext vs H1;rw [FX]
 rw [z];exact h
end
def J8i(i j:Int):Prop:=i.natAbs < 10 ^ 100∧j.natAbs < 10 ^ 100
theorem Uo:(10:Nat) ^ 100≤2 ^ 1000:=by decide+kernel
theorem Up{i:Int}(h:i.natAbs < 10 ^ 100):Builtin.Int.intBits i≤2 ^ 20:=by
 have h1:Builtin.Int.intBits i≤1000:=by
  unfold Builtin.Int.intBits;split
  · omega
  · rename_i hne
    have:=(Nat.log2_lt (n:=i.natAbs) (k:=1000) (by simpa using hne)).mpr (Fw h Uo);omega
 exact FA h1 (by decide)
section
variable {X:Cx}
theorem J2y:OpR X (binaryOp .Mult) (rI J8i fun i j=> .int (i * j)):=opI fun _ _ _ _ _ _ _ hc q=>mul_int q (.of_bits (Up hc.1) (Up hc.2))
theorem Mt:OpR X (binaryOp .FloorDiv) (rI (fun _ j=>j≠0∧j.natAbs < 10 ^ 100) fun i j=> .int (i.fdiv j)):=opI fun i j _ _ _ _ _ hc q=>by
 refine floordiv_int hc.1 q (.inl (PyProof.noPylong_of_log2 ?_))
 have h0:j.natAbs≠0:=by have:=hc.1;omega
 exact Nat.lt_trans ((Nat.log2_lt h0).mpr (Fw hc.2 Uo)) (by decide)
end
def Isi(K:PySem.W.Frag)(H:Hp)(x:V)(n:String)(b:Bool):Prop:=∃t,L4 K H x t∧PySem.W.kitOne K t (.type n)=some b
section
variable {X:Cx}
theorem Ez:El X (.builtin "isinstance") (fun xs H Q=>∃x n b,xs=[x,.ty n]∧Isi X.K H x n b∧Q (.bl b) H):=by
 intro pins s σ H xs us Q I r h;obtain ⟨x,n,b,rfl,⟨t,ty,e⟩,q⟩:=h;obtain ⟨u,c,rfl,r1,r2⟩:=J43 r;cases r2
 exact X1 I r1 ty e fun tk=>⟨.bl b,H,I.tok _,rfl,q⟩
end
section
variable {K:PySem.W.Frag} {H:Hp}
theorem Yu{i:Int}:Isi K H (.int i) "int" true:=⟨_,.int i,rfl⟩
theorem Yv{i:Int}:Isi K H (.int i) "bool" false:=⟨_,.int i,by with_unfolding_all rfl⟩
theorem J5c{i:Int}:Isi K H (.int i) "str" false:=⟨_,.int i,by with_unfolding_all rfl⟩
theorem Yw{i:Bool}:Isi K H (.bl i) "bool" true:=⟨_,.bl i,rfl⟩
theorem Yx{i:Bool}:Isi K H (.bl i) "int" true:=⟨_,.bl i,by with_unfolding_all rfl⟩
theorem J5d{i:Bool}:Isi K H (.bl i) "str" false:=⟨_,.bl i,by with_unfolding_all rfl⟩
theorem J5e{i:Str}:Isi K H (.str i) "str" true:=⟨_,.str i,rfl⟩
theorem Yy{i:Str}:Isi K H (.str i) "int" false:=⟨_,.str i,by with_unfolding_all rfl⟩
theorem J5f{i:Str}:Isi K H (.str i) "bool" false:=⟨_,.str i,by with_unfolding_all rfl⟩
theorem Yz:Isi K H .non "int" false:=⟨_,.non,by with_unfolding_all rfl⟩
theorem J5g:Isi K H .non "str" false:=⟨_,.non,by with_unfolding_all rfl⟩
theorem J00{a:Addr}{xs:List V}(e:H a=some (.lst xs)):Isi K H (.ref a) "list" true:=⟨_,.lst e,rfl⟩
theorem J01{a:Addr}{xs:List V}(e:H a=some (.lst xs)):Isi K H (.ref a) "str" false:=⟨_,.lst e,by with_unfolding_all rfl⟩
theorem J02{a:Addr}{xs:List V}(e:H a=some (.lst xs)):Isi K H (.ref a) "int" false:=⟨_,.lst e,by with_unfolding_all rfl⟩
theorem J03{a:Addr}{xs:List V}(e:H a=some (.lst xs)):Isi K H (.ref a) "tuple" false:=⟨_,.lst e,by with_unfolding_all rfl⟩
theorem J04{a:Addr}{xs:List V}(e:H a=some (.tup xs)):Isi K H (.ref a) "tuple" true:=⟨_,.tup e,rfl⟩
theorem J05{a:Addr}{xs:List V}(e:H a=some (.tup xs)):Isi K H (.ref a) "str" false:=⟨_,.tup e,by with_unfolding_all rfl⟩
theorem J06{a:Addr}{xs:List V}(e:H a=some (.tup xs)):Isi K H (.ref a) "int" false:=⟨_,.tup e,by with_unfolding_all rfl⟩
theorem J07{a:Addr}{xs:List V}(e:H a=some (.tup xs)):Isi K H (.ref a) "list" false:=⟨_,.tup e,by with_unfolding_all rfl⟩
theorem J5h{x:V}{n:String}{b:Bool}{R:Bool→Prop}(h:Isi K H x n b)(q:R b):∃b,Isi K H x n b∧R b:=⟨b,h,q⟩
theorem J2z{p:Addr}{xs:List V}{R:List V→Prop}(h:SqL K H p xs)(q:R xs):∃ys,(SqL K H p ys∨SqT K H p ys)∧R ys:=⟨xs,.inl h,q⟩
theorem J30{p:Addr}{xs:List V}{R:List V→Prop}(h:SqT K H p xs)(q:R xs):∃ys,(SqL K H p ys∨SqT K H p ys)∧R ys:=⟨xs,.inr h,q⟩
theorem Ke{p:Addr}{xs:List V}{i:Int}{v:V}{Q:VK}(h:SqT K H p xs)(e:atI xs i=some v)(q:Q v H):J70 K (.ref p) (.int i) H Q:=⟨p,xs,i,v,rfl,rfl,h,e,q⟩
theorem Ck{p:Addr}{xs:List V}{i:Int}{v:V}{Q:VK}(h:SqL K H p xs)(e:atI xs i=some v)(q:Q v H):X3 K (.ref p) (.int i) H Q:=⟨p,xs,i,v,rfl,rfl,h,e,q⟩
end
theorem To{α:Type}{xs:List α}{i:Int}{v:α}(h0:0≤i)(h:xs[i.toNat]?=some v):atI xs i=some v:=by
 unfold atI ixN;have hl:i.toNat < xs.length:=(Fc.mp h).1;rw [if_pos h0,if_pos (show i < xs.length by omega)];exact h
theorem J08{CX:CXT}{P:Program}{w:World}{K:PySem.W.Frag}{mg:Str→Option Value}{base:Heap}{N:List Str}{qual:Str}{scope:Scope}{f:Addr}{cd:Value}{A:Around}{outer:List Env}{s:Shared}{H:Hp}{E:XK}:
 (Te CX P w K mg base N qual scope f cd A outer s H E).K=K:=rfl
theorem J5i{ns:List Int}{k:Nat}(h:k < ns.length):(ns.map V.int)[k]?=some (V.int (ns.getD k 0)):=by
 rw [Fi,Fk,Fb h];rfl
theorem A9.tup{K:PySem.W.Frag}{H H':Hp}{a:Addr}{xs:List V}(e:A9 H H')(h:SqT K H a xs):SqT K H' a xs:=by
 rcases h with (h | ⟨o,h⟩) | h
 · exact .inl (.inl (e _ _ h))
 · exact .inl (.inr ⟨o,e _ _ h⟩)
 · exact .inr h
theorem A9.new{H:Hp}{p:Addr}{o:HO}(h:H p=none):A9 H (upd H p o):=fun b u e=>by
 rw [A4 (A6 e h)];exact e
section
variable {σ:St} {H:Hp} {Q:VK} {QT:Bool→Hp→Prop} {QA:List V→Hp→Prop} {D:Ig} {K:PySem.W.Frag}
theorem J09{te:TE}{g:TG}:Y1 te g D σ H=te σ H fun x H1=>g x σ H1 D.nx:=rfl
theorem J0a{i:Nat}:J52 i σ H Q=∃v,σ[i]?=some (some v)∧Q v H:=rfl
theorem J7b{v:V}:tC v σ H Q=Q v H:=rfl
theorem J4b{r:R2}{ta tb:TE}:tOp r ta tb σ H Q=ta σ H fun x H1=>tb σ H1 fun y H2=>r x y H2 Q:=rfl
theorem J4c{g:Int→Int→V}{x y:V}:rI0 g x y H Q=∃i j,x= .int i∧y= .int j∧Q (g i j) H:=rfl
theorem J7c{C:Int→Int→Prop}{g:Int→Int→V}{x y:V}:rI C g x y H Q=∃i j,x= .int i∧y= .int j∧C i j∧Q (g i j) H:=rfl
theorem J7d{g:Int→V}{x:V}:rU g x H Q=∃i,x= .int i∧Q (g i) H:=rfl
theorem Uq{i:Nat}{v:V}{N:St→Hp→Prop}:Cb i v σ H N=N (σ.set i (some v)) H:=rfl
theorem J0b{c:TT}{t u:TS}:J6j c t u D σ H=c σ H fun b H1=>if b=true then t D σ H1 else u D σ H1:=rfl
theorem Ur{t:TE}:J42 t σ H QT=t σ H fun x H'=>∃k,x= .bl k∧QT k H':=rfl
theorem J7e{t:TE}:tB t σ H QT=t σ H fun x H1=>∃c,x= .bl c∧QT c H1:=rfl
theorem J0c{te:TE}:J6h te D σ H=te σ H D.rt:=rfl
theorem Us:J6i D σ H=D.rt .non H:=rfl
theorem Ut:J3w D σ H=D.nx σ H:=rfl
theorem Qb:J54 D σ H=D.bk σ H:=rfl
theorem Uu:J6g D σ H=D.ct σ H:=rfl
theorem J4d{r:List V→Hp→VK→Prop}{t:TA}:tCB r t σ H Q=t σ H fun vs H1=>r vs H1 Q:=rfl
theorem Uv{ta:TE}{tr:TA}:J44 ta tr σ H QA=ta σ H fun x H1=>tr σ H1 fun xs H2=>QA (x::xs) H2:=rfl
theorem J0d:Yc σ H QA=QA [] H:=rfl
theorem Uw{sp:Sp}{E:XK}{t:TA}:Yt sp E t σ H Q=t σ H fun vs H1=>sp vs H1 Q E:=rfl
theorem J0e{t:TT}:J6c t σ H QT=t σ H fun c H1=>QT (!c) H1:=rfl
theorem J4e{t u:TT}:tOr t u σ H QT=t σ H fun c H1=>if c=true then QT true H1 else u σ H1 QT:=rfl
theorem J0f{t u:TT}:J6b t u σ H QT=t σ H fun c H1=>if c=true then u σ H1 QT else QT false H1:=rfl
theorem Ux{ta tb:TE}:J3u ta tb σ H Q=ta σ H fun x H1=>∃c,x= .bl c∧if c=true then tb σ H1 Q else Q (.bl false) H1:=rfl
theorem J0g{ta tb:TE}:J6d ta tb σ H Q=ta σ H fun x H1=>∃c,x= .bl c∧if c=true then Q (.bl true) H1 else tb σ H1 Q:=rfl
theorem Uy{ta:TE}:J3v ta σ H Q=ta σ H fun x H1=>∃c,x= .bl c∧Q (.bl (!c)) H1:=rfl
theorem J4f{t:TT}{ta tb:TE}:tIf t ta tb σ H Q=t σ H fun c H1=>if c=true then ta σ H1 Q else tb σ H1 Q:=rfl
theorem J4g{r:V→Hp→VK→Prop}{ta:TE}:tUn r ta σ H Q=ta σ H fun x H1=>r x H1 Q:=rfl
theorem J4h{x y:V}:rEq x y H Q=(scal x y=true∧Q (.bl (decide (x=y))) H):=rfl
theorem J4i{x y:V}:rNe x y H Q=(scal x y=true∧Q (.bl (!decide (x=y))) H):=rfl
theorem J0h{i j:Nat}{ta:TA}:J8e i j ta D σ H=ta σ H fun vs H1=>∃v w,vs=[v,w]∧D.nx ((σ.set i (some v)).set j (some w)) H1:=rfl
theorem J0i{t:TA}:J6w t σ H Q=t σ H fun xs H1=>xs.length≤sizeLine∧∀p,H1 p=none→Q (.ref p) (upd H1 p (.tup xs)):=rfl
theorem J0j{t:TA}:J6x t σ H Q=t σ H fun xs H1=>xs.length≤sizeLine∧∀p,H1 p=none→Q (.ref p) (upd H1 p (.lst xs)):=rfl
theorem Qc:Y0 D σ H=False:=rfl
theorem Uz{te:TE}:J3x te D σ H=te σ H fun _ H1=>D.nx σ H1:=rfl
theorem Qd{t:TG}{u:TGs}{vs:List V}{N:St→Hp→Prop}:Mm t u vs σ H N=∃v r,vs=v::r∧t v σ H fun σ' H'=>u r σ' H' N:=rfl
theorem V0{vs:List V}{N:St→Hp→Prop}:J2l vs σ H N=(vs=[]∧N σ H):=rfl
theorem V1{to ti:TE}{t:Ws}{v:V}{N:St→Hp→Prop}:J8d to ti t v σ H N=to σ H fun o H1=>ti σ H1 fun i H2=>t o i v H2 fun H3=>N σ H3:=rfl
theorem Qe{r r':R2}{ta tb tc:TE}:Y8 r r' ta tb tc σ H Q=ta σ H fun x H1=>tb σ H1 fun y H2=>r x y H2 fun z H3=>∃k,z= .bl k∧
 (if k=true then tc σ H3 fun w' H4=>r' y w' H4 Q else Q (.bl false) H3):=rfl
theorem V2{ta:TA}{R:It→Hp→Prop}:J40 ta σ H R=ta σ H fun vs H1=>∃j:Int,vs=[.int j]∧-(2 ^ 62)≤j∧j < 2 ^ 62∧R (Itr 0 j.toNat) H1:=rfl
theorem V3{ta:TA}{R:It→Hp→Prop}:J6n ta σ H R=ta σ H fun vs H1=>∃i j:Int,vs=[.int i,.int j]∧(-(2 ^ 62)≤i∧i < 2 ^ 62∧-(2 ^ 62)≤j∧j < 2 ^ 62)∧R (Itr i (j - i).toNat) H1:=rfl
theorem Qf{tl:TE}{R:It→Hp→Prop}:J3z K tl σ H R=tl σ H fun x H1=>∃a,x= .ref a∧(∃xs,SqL K H1 a xs)∧R (Itl K a) H1:=rfl
theorem V4{tl:TE}{R:It→Hp→Prop}:J8f K tl σ H R=tl σ H fun x H1=>∃a,x= .ref a∧(∃xs,SqT K H1 a xs)∧R (Itt K a) H1:=rfl
def M0(g:TG)(tb:TS)(D:Ig)(σ:St):It→Hp→Prop:=fun J H1=>∃W:Nat→Nat→St→Hp→Prop,(∃m,W 0 m σ H1)∧∀i m σ H,W i m σ H→
 (J.stop i H∧D.nx σ H)∨(J.go i H∧∃N:St→Hp→Prop,(∀σ' H',N σ' H'→∃m',m' < m∧W (i+1) m' σ' H')∧∀x H',J.yld i H x H'→g x σ H' fun σ2 H2=>tb {D with nx:=N,ct:=N,bk:=D.nx} σ2 H2)
theorem V5{wi:TI}{g:TG}{tb:TS}:J6o wi g tb D σ H=wi σ H (M0 g tb D σ):=rfl
theorem M5{lo:Int}{n:Nat}{g:TG}{tb:TS}(Pv:Nat→St→Hp→Prop)(h0:Pv 0 σ H)
 (hs:∀i σ H,i < n→Pv i σ H→g (.int (lo+i)) σ H fun σ2 H2=>tb {D with nx:=Pv (i+1),ct:=Pv (i+1),bk:=D.nx} σ2 H2) (hd:∀σ H,Pv n σ H→D.nx σ H):M0 g tb D σ (Itr lo n) H:=Ww Pv h0 hs hd
theorem Dy{a:Addr}{xs:List V}{g:TG}{tb:TS}(Pv:Nat→St→Hp→Prop)(h0:Pv 0 σ H)(hl:∀i σ H,i≤xs.length→Pv i σ H→SqL K H a xs)
 (hs:∀i x σ H,xs[i]?=some x→Pv i σ H→g x σ H fun σ2 H2=>tb {D with nx:=Pv (i+1),ct:=Pv (i+1),bk:=D.nx} σ2 H2) (hd:∀σ H,Pv xs.length σ H→D.nx σ H):M0 g tb D σ (Itl K a) H:=Y5 Pv h0 hl hs hd
theorem J5j{t u:TS}(h:∀rest:St→Hp→Prop,rest=u D→t {D with nx:=rest} σ H):J6f t u D σ H:=h _ rfl
theorem J31{rest r:St→Hp→Prop}(h:rest=r)(q:r σ H):rest σ H:=by rw [h];exact q
theorem J32{a:Addr}{ns:List Int}{k:Int}{R:List Int→Prop}(h:SqL K H a (ns.map V.int))(h0:0≤k)(hl:ns.length≤63)(q:R ns):∃x:List Int,SqL K H a (x.map V.int)∧0≤k∧x.length≤63∧R x:=⟨ns,h,h0,hl,q⟩
theorem M7{i j:Int}(h1:0 < j)(h2:j < 1073741824):J6r i j:=⟨h1,h2⟩
theorem Pb{i j:Int}(h1:0≤j)(h2:j≤1000000)(h3:i.natAbs < 2 ^ 64):J6s i j:=⟨h1,h2,h3⟩
theorem J5k{i j:Int}(h1:-(2 ^ 64) < i)(h2:i < 2 ^ 64):Y6 i j:= .inl ⟨h1,h2⟩
theorem J0k{i j:Int}(h1:-(2 ^ 64) < j)(h2:j < 2 ^ 64):Y6 i j:= .inr ⟨h1,h2⟩
end
end L2
namespace L2
def Dz(CX:CXT)(X:Cx)(EE:St→XK):Prop:=∀(pins:List (Addr×Obj)) (σ:St) (H:Hp) (s:Shared) (e:Value) (s':Shared),Inv X pins σ H s→CX X.stack H s (EE σ) e s'→X.xe e s'
abbrev TH:=Value→Addr→TS
abbrev Cx.tryX(X:Cx)(pn:List (Addr×Obj))(xe:Value→Shared→Prop):Cx:={X with pn:=pn,xe:=xe}
section
variable {X:Cx} {body:List Stmt} {h₀:ExceptHandler} {hs:List ExceptHandler} {pos:Pos} {tb:(St→XK)→TS} {th:TH} {pins:List (Addr×Obj)} {σ:St} {H:Hp} {s:Shared} {pn:List (Addr×Obj)} {xe:Value→Shared→Prop}
theorem Inv.tryIn(I:Inv X pins σ H s)(xe:Value→Shared→Prop):Inv (X.tryX (X.pn++pins) xe) [] σ H s:=
 ⟨⟨I.ok.mod,I.ok.kind,I.ok.glob,I.ok.blt,I.ok.above,I.ok.inj,I.ok.has,I.ok.cab,I.ok.hd,I.ok.frames,I.ok.stk,I.ok.exf,I.ok.bs,I.ok.bsz,I.ok.noex,I.ok.exfs,I.ok.funs,I.ok.frf⟩,I.os,I.bare,I.base,I.loc,I.cell,I.free,I.freeC,fun p hp=>I.pin p (by simpa using hp),I.hok,I.len⟩
theorem Inv.tryOut{pl:List (Addr×Obj)}(I0:X.Ok)(I:Inv (X.tryX (X.pn++pins) xe) pl σ H s):Inv X pins σ H s:=
 ⟨I0,I.os,I.bare,I.base,I.loc,I.cell,I.free,I.freeC,fun p hp=>I.pin p (FJ _ hp),I.hok,I.len⟩
theorem SP.tryOut{pl:List (Addr×Obj)}(I0:X.Ok){D:Ig}{f:Flow}{s':Shared}(h:SP (X.tryX (X.pn++pins) xe) pl D f s'):SP X pins D f s':=by
 cases f with
 | next=>obtain ⟨σ',H',I,q⟩:=h;exact ⟨σ',H',I.tryOut I0,q⟩
 | brk=>obtain ⟨σ',H',I,q⟩:=h;exact ⟨σ',H',I.tryOut I0,q⟩
 | cont=>obtain ⟨σ',H',I,q⟩:=h;exact ⟨σ',H',I.tryOut I0,q⟩
 | ret u=>obtain ⟨v,σ',H',I,r,q⟩:=h;exact ⟨v,σ',H',I.tryOut I0,r,q⟩
end
end L2
namespace L2
theorem Pc{prog:Program}{w:World}{A:Around}{R:Result→Shared→Prop}{s:Shared}{elt target iter:Expr}{ifs:List Expr}{scope:Scope}{pos:Pos}{it acc:Value}{env:Env}(I:Nat→Shared→Prop)
 (turn:∀n s,I n s→wpAny (model prog w) A (pyNext it) (fun r s₁=>match r with
  | none=>R (.ok .next) s₁
  | some v=>wpAny (model prog w) A (letOwnedTupleGo target it v) (fun _ s₁=>wpAny (model prog w) A (assign target env v) (fun _ s₂=>
   wpAny (model prog w) A (forIn ifs true fun c r=>if r=true then do let ok ← isTrue c env (eval c env);pure (ForInStep.yield ok) else pure (ForInStep.yield r)) (fun ok s₃=>
    if ok=true then wpAny (model prog w) A (eval elt env) (fun x s₄=>
     wpAny (model prog w) A (call (.builtin "list.append") [acc,x]) (fun _ s₅=>∃m,m < n∧I m s₅) (notedBy (model prog w) A env fun e s'=>R (.error e) s') s₄) (notedBy (model prog w) A env fun e s'=>R (.error e) s') s₃
    else ∃m,m < n∧I m s₃) (notedBy (model prog w) A env fun e s'=>R (.error e) s') s₂) (notedBy (model prog w) A env fun e s'=>R (.error e) s') s₁) (notedBy (model prog w) A env fun e s'=>R (.error e) s') s₁) (notedBy (model prog w) A env fun e s'=>R (.error e) s') s)
 (n:Nat) (h:I n s):
 codeAny (model prog w) A (.compLoop (.ListComp elt [⟨target,iter,ifs,0⟩] scope pos) 0 it acc env) R s:=by
 refine codeAny_loop rfl I (fun n s hI=>?_) n h;show wpAny _ A ((compTurn (.ListComp elt [⟨target,iter,ifs,0⟩] scope pos) 0 it acc env).onRaise (fun x=>do noteFrame x env;theTreesLotGoes x)) _ _ s;refine wpAny_noted ?_;rw [compTurn_list];refine FK (wpAny_standAt (FK (FZ (turn n s hI) (fun r s₁ h₁=>?_) fun _ _ h'=>h')))
 cases r with
 | none=>exact FW h₁
 | some v=>
  refine FK (FZ h₁ (fun _ s₁ h₁=>?_) fun _ _ h'=>h');refine FK (FZ h₁ (fun _ s₂ h₂=>FK (FZ h₂ (fun ok s₃ h₃=>?_) fun _ _ h'=>h')) fun _ _ h'=>h')
  cases ok with
  | false=>exact FW ⟨rfl,h₃⟩
  | true=>
   exact FK (FK (FZ h₃ (fun x s₄ h₄=>FK (FZ h₄ (fun _ s₅ h₅=>FW (FW ⟨rfl,h₅⟩)) fun _ _ h'=>h')) fun _ _ h'=>h'))
def clo(env:Env):List (Str×NameKind)→List (Str×Addr)→List (Str×Addr)
 | [],cs=>cs
 | (n,k)::r,cs=>clo env r (if (k== .free)=true then (match env.cells.lookup n with | some c=>(n,c)::cs | none=>cs) else cs)
theorem Qg{env:Env}:∀(names:List (Str×NameKind)) (cs:List (Str×Addr)),(∀y∈names,y.2= .free→∃c,env.cells.lookup y.1=some c)→
 (forIn (m:=Sem) names cs fun (x:Str×NameKind) (r:List (Str×Addr))=>match x with | (name,kind)=>if (kind== .free)=true then do let c ← cellOf env name;pure (ForInStep.yield ((name,c)::r)) else pure (ForInStep.yield r))=pure (clo env names cs)
 | [],cs,_=>rfl
 | (n,k)::r,cs,h=>by
  rw [List.forIn_cons];have ih:=fun cs=>Qg r cs fun y hy=>h y (Fd _ hy)
  by_cases hk:(k==NameKind.free)=true
  · obtain ⟨c,hc⟩:=h (n,k) Fj (by simpa using hk)
    have e:cellOf env n=pure c:=by unfold cellOf;rw [show env.cells.lookup n=some c from hc]
    simp only [hk,if_true,e,clo];rw [show env.cells.lookup n=some c from hc];exact ih _
  · simp only [hk,clo]
    exact ih _
theorem Lk{scope:Scope}{env:Env}(h:∀y∈scope.names,y.2= .free→∃c,env.cells.lookup y.1=some c):closureFor scope env=pure (clo env scope.names []):=by
 unfold closureFor;show (forIn (m:=Sem) scope.names ([]:List (Str×Addr)) _ >>=fun r=>pure r)=_;rw [Qg scope.names [] h];rfl
theorem Lc{env:Env}{x:Str}{c:Addr}:∀(names:List (Str×NameKind)) (cs:List (Str×Addr)),(clo env names cs).lookup x=some c→env.cells.lookup x=some c∨cs.lookup x=some c
 | [],cs,h=> .inr h
 | (n,k)::r,cs,h=>by
  unfold clo at h;rcases Lc r _ h with q | q
  · exact .inl q
  · split at q
    · split at q
      · rename_i c' hc
        rw [FS]at q
        cases hx:x==n with
        | true=>
         rw [hx]at q
         have e:x=n:=by simpa using hx
         subst e;simp only [Option.some.injEq]at q;subst q;exact .inl hc
        | false=>rw [hx]at q;exact .inr q
      · exact .inr q
    · exact .inr q
theorem Pd{env:Env}{x:Str}{c:Addr}(hc:env.cells.lookup x=some c):∀(names:List (Str×NameKind)) (cs:List (Str×Addr)),(cs.lookup x=some c∨(cs.lookup x=none∧(x,NameKind.free)∈names))→(clo env names cs).lookup x=some c
 | [],cs,h=>by
  rcases h with h | ⟨_,h⟩
  · exact h
  · cases h
 | (n,k)::r,cs,h=>by
  unfold clo;refine Pd hc r _ ?_
  by_cases hx:x=n
  · subst hx
    by_cases hk:(k==NameKind.free)=true
    · rw [if_pos hk,hc]
      exact .inl (by simp [FS])
    · rw [if_neg hk]
      rcases h with h | ⟨h1,h2⟩
      · exact .inl h
      · refine .inr ⟨h1,?_⟩
        rcases Fh.mp h2 with e | e
        · cases e;exact absurd rfl hk
        · exact e
  · have hb:(x==n)=false:=by simpa using hx
    have key:∀cs':List (Str×Addr),cs'.lookup x=cs.lookup x→(cs'.lookup x=some c∨(cs'.lookup x=none∧(x,NameKind.free)∈r)):=fun cs' e=>by
     rw [e];rcases h with h | ⟨h1,h2⟩
     · exact .inl h
     · refine .inr ⟨h1,?_⟩
       rcases Fh.mp h2 with e | e
       · cases e;exact absurd rfl hx
       · exact e
    refine key _ ?_;split
    · split
      · simp [FS,hb]
      · rfl
    · rfl
theorem Gg{env:Env}{k':NameKind}:∀{names:List (Str×NameKind)} {x:Str},(∀y∈names,y.2≠ .cell)→
 (names.map fun (n,k)=>if (k==NameKind.free && env.scope.kind== .function && env.kindOf n==some .cell) then (n,NameKind.cell) else (n,k)).lookup x=some k'→(k'= .cell∨k'= .free)→(x,NameKind.free)∈names
 | [],_,_,h,_=>by simp at h
 | (n,k)::r,x,hc,h,hk=>by
  have ih:=@Gg env k' r x (fun y hy=>hc y (Fd _ hy));have h':List.lookup x ((if (k==NameKind.free && env.scope.kind== .function && env.kindOf n==some .cell)=true then (n,NameKind.cell) else (n,k))::(r.map fun (n,k)=>if (k==NameKind.free && env.scope.kind== .function && env.kindOf n==some .cell) then (n,NameKind.cell) else (n,k)))=some k':=h
  by_cases hx:x=n
  · subst hx
    by_cases q:(k==NameKind.free && env.scope.kind== .function && env.kindOf x==some .cell)=true
    · have:k= .free:=by simp only [Hi,HJ]at q;exact q.1.1
      subst this;exact Fj
    · rw [if_neg q,FS]at h'
      simp only [RN]at h';have e:k=k':=FQ h';rcases hk with z | z
      · exact absurd (e.trans z) (hc (x,k) Fj)
      · rw [e.trans z];exact Fj
  · have hb:(x==n)=false:=by simpa using hx
    refine Fd _ (ih ?_ hk);split at h'
    · rw [FS,hb]at h';exact h'
    · rw [FS,hb]at h';exact h'
theorem Ec{env:Env}:∀{names:List (Str×NameKind)} {x:Str},names.lookup x=some .free→
 (names.map fun (n,k)=>if (k==NameKind.free && env.scope.kind== .function && env.kindOf n==some .cell) then (n,NameKind.cell) else (n,k)).lookup x=some .cell∨
 (names.map fun (n,k)=>if (k==NameKind.free && env.scope.kind== .function && env.kindOf n==some .cell) then (n,NameKind.cell) else (n,k)).lookup x=some .free
 | [],_,h=>by simp at h
 | (n,k)::r,x,h=>by
  have ih:=@Ec env r x;show List.lookup x ((if (k==NameKind.free && env.scope.kind== .function && env.kindOf n==some .cell)=true then (n,NameKind.cell) else (n,k))::_)=_∨List.lookup x ((if (k==NameKind.free && env.scope.kind== .function && env.kindOf n==some .cell)=true then (n,NameKind.cell) else (n,k))::_)=_
  cases hx:x==n with
  | true=>
   simp only [FS,hx]at h;cases h;split
   · left;simp [FS,hx]
   · right;simp [FS,hx]
  | false=>
   simp only [FS,hx]at h;split
   · simp only [FS,hx];exact ih h
   · simp only [FS,hx];exact ih h
structure Blk where
 s:Shared
 H:Hp
 C:Addr
 fp:List Addr
abbrev Cx.blk(X:Cx)(scope:Scope)(N':List Str)(b:Blk):Cx:=
 {X with N:=N',s₀:=b.s,H₀:=b.H,env:=compEnvC scope (clo X.env scope.names []) b.C X.env,outer:=X.stack,ex:=b.fp,fn:=fun _=>false,pn:=[],xe:=fun _ _=>False}
def around(N:List Str)(fs:List Nat):List Str:=fs.map fun j=>N.getD j ""
def E1(N:List Str)(esc scope:Scope)(xs:List Str)(fs:List Nat):Bool:=
 decide (xs++around N fs).Nodup && (match scope.kind with | .function=>true | _=>false) && xs.all (fun x=>decide (scope.names.lookup x=some .local)) &&
 scope.names.all (fun y=>decide (y.2≠ .cell) && (!decide (y.2= .local) || decide (scope.names.lookup y.1=some .local)) && (!decide (y.2= .free) || decide (esc.names.lookup y.1=some .cell) || decide (esc.names.lookup y.1=some .free))) &&
 fs.all fun j=>decide (j < N.length) && decide (scope.names.lookup (N.getD j "")=some .free)
structure Pe(N:List Str)(esc scope:Scope)(xs:List Str)(fs:List Nat):Prop where
 nd:(xs++around N fs).Nodup
 kind:scope.kind= .function
 own:∀x∈xs,scope.names.lookup x=some .local
 cell:∀y∈scope.names,y.2≠ .cell
 names:∀y∈scope.names,y.2= .local→scope.names.lookup y.1=some .local
 free:∀y∈scope.names,y.2= .free→esc.names.lookup y.1=some .cell∨esc.names.lookup y.1=some .free
 fs:∀j∈fs,j < N.length∧scope.names.lookup (N.getD j "")=some .free
theorem Eh{N:List Str}{esc scope:Scope}{xs:List Str}{fs:List Nat}(h:E1 N esc scope xs fs=true):Pe N esc scope xs fs:=by
 unfold E1 at h;simp only [Hi,decide_eq_true_eq,Hg]at h;obtain ⟨⟨⟨⟨h1,h2⟩,h3⟩,h4⟩,h5⟩:=h;refine ⟨h1,?_,h3,fun y hy=>(h4 y hy).1.1,fun y hy e=>?_,fun y hy e=>?_,h5⟩
 · split at h2
   · assumption
   · cases h2
 · have:=(h4 y hy).1.2
   simpa [e] using this
 · have:=(h4 y hy).2
   simpa [e] using this
section
variable {X:Cx} {pins:List (Addr×Obj)} {σ:St} {H:Hp} {s:Shared} {scope:Scope} {xs:List Str} {fs:List Nat} {fp:List Addr} {C:Addr}
theorem J5l(I:Inv X pins σ H s)(O:Pe X.N X.env.scope scope xs fs)(hf:∀b∈fp,Kb X pins H b)(hC:s.heap.objs.size≤C)(hfp:∀b∈fp,b < s.heap.objs.size):(X.blk scope (xs++around X.N fs) ⟨s,H,C,fp⟩).Ok:=by
 have hcl:∀x c,(clo X.env scope.names []).lookup x=some c→X.env.cells.lookup x=some c:=fun x c e=>by
  rcases Lc _ _ e with q | q
  · exact q
  · cases q
 have hsz:∀b o,X.base.get? b=some o→b < X.s₀.heap.objs.size:=fun b o e=>Fw (Fs e) I.ok.bsz;refine ⟨I.ok.mod,O.kind,I.ok.glob,I.ok.blt,hC,fun x y c h1 h2=>I.ok.inj x y c (hcl x c h1) (hcl y c h2),fun x hx=>?_,fun x c z=>(by cases z),I.ok.hd,I.ok.frames,.inl rfl,fun b hb=>⟨FF (Fw (hfp b hb) hC),fun x c e=>(hf b hb).2.2.2.2.1 x c (hcl x c e)⟩,I.bs,FA I.ok.bsz I.sz,fun b o e hb=>?_,fun b hb hs=>?_,I.stack,I.stkFree⟩
 · have hm:(x,NameKind.free)∈scope.names:=by
    rcases hx with hx | hx
    · exact Gg (env:=X.env) O.cell (show (scope.names.map _).lookup x=some NameKind.cell from hx) (.inl rfl)
    · exact Gg (env:=X.env) O.cell (show (scope.names.map _).lookup x=some NameKind.free from hx) (.inr rfl)
   obtain ⟨c,hc⟩:=I.ok.has x (O.free _ hm rfl);exact ⟨c,Pd hc _ _ (.inr ⟨rfl,hm⟩)⟩
 · obtain ⟨_,_,_,h4,_⟩:=hf b hb
   rcases h4 with h4 | h4
   · exact I.ok.noex b o e h4
   · exact absurd (Fw (hsz b o e) h4) (Hw _)
 · obtain ⟨_,h2,h3,_⟩:=hf b hb
   exact (Fh.mp (I.stkSub b hs)).elim h2 h3
theorem J5m{h1:Heap}{t:Nat}{D:Addr}{m:Str→Option Value}(I:Inv X pins σ H s)(O:Pe X.N X.env.scope scope xs fs)(hf:∀b∈fp,Kb X pins H b)(hD:s.heap.objs.size≤D)(hC:s.heap.objs.size≤C)(hfp:∀b∈fp,b < s.heap.objs.size)(hDC:D≠C)
 (k:∀b u,s.heap.get? b=some u→h1.get? b=some u) (hDo:h1.get? D=some {cls:= .type "list",data:= .seq #[] 0}) (hn:h1.Ns C m):
 Inv (X.blk scope (xs++around X.N fs) ⟨s,H,C,fp⟩) [] (xs.map (fun _=>none)++fs.map fun j=>σ.getD j none) (upd H D (.lst [])) {s with heap:=h1,toks:=t}:=by
 have hcl:∀x c,(clo X.env scope.names []).lookup x=some c→X.env.cells.lookup x=some c:=fun x c e=>by
  rcases Lc _ _ e with q | q
  · exact q
  · cases q
 have ok:=J5l (C:=C) I O hf hC hfp;have hnD:H D=none:=I.hok.fresh hD;refine ⟨ok,rfl,I.bare,Un.laid k hD hnD,⟨m,hn,fun i x v e1 e2 e3=>?_⟩,fun x c e=>?_,?_,fun x c e=>?_,fun p hp=>absurd (show p∈([]:List (Addr×Obj)) from hp) (by simp),I.hok.laid k hD ⟨Fl _,[],0,.nil,hDo⟩,by simp [around]⟩
 · by_cases hi:i < xs.length
   · rw [Fu (by simpa using hi),Fi]at e2
     cases q:xs[i]? with
     | none=>rw [q]at e2;cases e2
     | some a=>rw [q]at e2;cases e2
   · have hi:xs.length≤i:=Nat.le_of_not_lt hi
     rw [Fy (by simpa using hi)]at e1 e2;unfold around at e1;rw [Fa]at e2;rw [Fi]at e1 e2
     cases q:fs[i - xs.length]? with
     | none=>rw [q]at e2;cases e2
     | some j=>
      rw [q]at e1 e2;simp only [Hq,Option.some.injEq]at e1 e2;obtain ⟨hj,hl⟩:=O.fs j (Fo q);obtain ⟨m0,_,hl0⟩:=I.loc
      have e1':X.N[j]?=some x:=by rw [← e1,Fk,Fb hj];rfl
      have e2':σ[j]?=some (some v):=by
       rw [Fk]at e2
       cases z:σ[j]? with
       | none=>rw [z]at e2;cases e2
       | some y=>rw [z]at e2;simp only [Option.getD_some]at e2;rw [e2]
      rw [e1]at hl;have hm:(x,NameKind.free)∈scope.names:=Hy hl;have hk:=O.free _ hm rfl;obtain ⟨u,r,l⟩:=hl0 j x v e1' e2' (hk.elim (fun z=> .inr (.inl z)) fun z=> .inr (.inr z));refine ⟨u,r,?_⟩;rcases l with ⟨z,_⟩ | ⟨_,c,hc,cell⟩
      · have z':X.env.scope.names.lookup x=some .local:=z
        rcases hk with hk | hk <;> (rw [z']at hk;cases hk)
      · refine .inr ⟨?_,c,Pd hc _ _ (.inr ⟨rfl,hm⟩),?_⟩
        · exact Ec (env:=X.env) hl
        · obtain ⟨o,ho,hd⟩:=cell
          exact ⟨o,k _ _ ho,hd⟩
 · obtain ⟨v,o,ho,hd⟩:=I.cell x c (hcl x c e)
   exact ⟨v,o,k _ _ ho,hd⟩
 · show upd H D (.lst []) C=none
   rw [A4 (Ne.symm hDC)];exact I.hok.fresh hC
 · obtain ⟨v,q⟩:=I.cell x c (hcl x c e)
   rw [A4 (FF (Fw q.lt hD))];exact I.freeC x c (hcl x c e)
theorem J33{N':List Str}{σ':St}{H':Hp}{s':Shared}{h2:Heap}{pl:List (Addr×Obj)}(I:Inv X pins σ H s)(hf:∀b∈fp,Kb X pins H b)(hC:s.heap.objs.size≤C)(J:Inv (X.blk scope N' ⟨s,H,C,fp⟩) pl σ' H' s')(sb:Heap.SameBut C s'.heap h2):
 Inv X pins σ H' {s' with heap:=h2}:=by
 have u:=J.base;have ne:∀b o,s.heap.get? b=some o→b≠C:=fun b o e=>FF (Fw (Fs e) hC);refine I.call' (ch:=fp) J.os ⟨fun b o e n h1 h2=>(sb.2 b (ne b o e)).trans (u.keep b o e n h1 h2),fun b o e n h1 h2=>?_,u.free,fun b o e hx=>?_,u.tups,u.frzs,u.tbls⟩ (fun a o e=>?_) J.bare fun b hb=>?_
 · obtain ⟨sl,q⟩:=u.slot b o e n h1 h2
   exact ⟨sl,(sb.2 b (ne b o e)).trans q⟩
 · obtain ⟨o',q⟩:=u.there b o e hx
   exact ⟨o',(sb.2 b (ne b o e)).trans q⟩
 · have fr:H' C=none:=J.free
   refine (J.hok a o e).stay (fun b v hc q=>(sb.2 b ?_).trans q) (fun _ q=>q) fun _ _ q=>q;rcases hc with rfl | hc
   · exact A6 e fr
   · exact A6 hc fr
 · obtain ⟨_,h2,h3,h4,h5,h6⟩:=hf b hb
   exact ⟨h4,h2,h5,h6⟩
end
end L2
namespace L2
def J5n(σ σ':St):Prop:=∀(i:Nat) (v:V),σ[i]?=some (some v)→σ'[i]?=some (some v)
def PTs(X:Cx)(ifs:List Expr)(t:TT):Prop:=
 ∀(pins:List (Addr×Obj)) (s:Shared) (σ:St) (H:Hp) (Q:Bool→Hp→Prop),Inv X pins σ H s→t σ H Q→
   wpAny (model X.prog X.w) X.A (forIn ifs true fun c r=>if r=true then do let ok ← isTrue c X.env (eval c X.env);pure (ForInStep.yield ok) else pure (ForInStep.yield r)) (TP X pins σ Q) X.xe s
def Gh:TT:=fun _ H Q=>Q true H
theorem Pf{X:Cx}:PTs X [] Gh:=fun _ _ _ H _ I h=>wpAny_tests_nil ⟨H,I,h⟩
theorem J34{X:Cx}{c:Expr}{t:TT}(hc:PT X c t):PTs X [c] t:=fun pins s σ H Q I h=>wpAny_tests_one (hc pins s σ H Q I h)
def Bq(σ0:St)(g:Blk→TG)(tt:Blk→TT)(te:Blk→TE)(Q:VK)(J:It)(H1:Hp):Prop:=∀(b:Blk) (D:Addr),H1 D=none→∃W:Nat→Nat→List V→Hp→Prop,(∃m,W 0 m [] (upd H1 D (.lst [])))∧∀i m ys H2,W i m ys H2→H2 D=some (.lst ys)∧
 ((J.stop i H2∧Q (.ref D) H2)∨(J.go i H2∧∀x H3,J.yld i H2 x H3→g b x σ0 H3 fun σ6 H6=>J5n σ0 σ6∧tt b σ6 H6 fun ok H7=>
   if ok=true then te b σ6 H7 fun y H8=>H8 D=some (.lst ys)∧ys.length < sizeLine∧∃m',m' < m∧W (i+1) m' (ys++[y]) (upd H8 D (.lst (ys++[y])))
   else ∃m',m' < m∧W (i+1) m' ys H7))
def Qh(wi:TI)(n:Nat)(fs:List Nat)(g:Blk→TG)(tt:Blk→TT)(te:Blk→TE):TE:=fun σ H Q=>wi σ H (Bq (List.replicate n none++fs.map fun j=>σ.getD j none) g tt te Q)
section
variable {X:Cx} {pins:List (Addr×Obj)} {σ:St} {scope:Scope} {xs:List Str} {fs:List Nat} {elt tg iter:Expr} {ifs:List Expr} {pos:Pos} {wi:TI} {g:Blk→TG} {tt:Blk→TT} {te:Blk→TE}
theorem O3{H:Hp}{s:Shared}{C:Addr}{h2:Heap}(I:Inv X pins σ H s)(F:Kb X pins H C)(sb:Heap.SameBut C s.heap h2):Inv X pins σ H {s with heap:=h2}:=
 I.turned (t':=s.toks) (fun b o hb e=>(sb.2 b hb).trans e) F.1 F.2.1 F.2.2.2.1 F.2.2.2.2.1 F.2.2.2.2.2
theorem Qi{Q:VK}{itv:Value}{s2:Shared}{E:Value→Shared→Prop}{RR:Value→Addr→Result→Shared→Prop}(hc:X.calm=true)(O:Pe X.N X.env.scope scope xs fs)
 (hg:∀b,PG (X.blk scope (xs++around X.N fs) b) tg (g b)) (ht:∀b,PTs (X.blk scope (xs++around X.N fs) b) ifs (tt b)) (he:∀b,PE (X.blk scope (xs++around X.N fs) b) elt (te b))
 (h:PIE X pins σ tg (Bq (List.replicate xs.length none++fs.map fun j=>σ.getD j none) g tt te Q) itv s2)
 (hR:∀D C s' m H',s'.heap.Ns C m→Inv X pins σ H' s'→Q (.ref D) H'→Kb X pins H' C→RR (.ref D) C (.ok .next) s'):
 wpAny (model X.prog X.w) X.A (newList []) (fun acc s₃=>wpAny (model X.prog X.w) X.A (newFunctionEnv scope X.env.globals (clo X.env scope.names []) [] X.env.qual none .none (some X.env)) (fun cenv s₄=>
  codeAny (model X.prog X.w) X.A (.compStart (.ListComp elt [⟨tg,iter,ifs,0⟩] scope pos) 0 itv acc {cenv with scope:=relabel scope X.env}) (RR acc cenv.locals) s₄) E s₃) E s2:=by
 obtain ⟨it,fp,tn,J,H2,rfl,I2,T,st2,f2,rd⟩:=h
 have hfp:∀b∈fp,b < s2.heap.objs.size:=fun b hb=>by
  obtain ⟨o,e,_⟩:=T.obj _ _ st2 b hb;exact Fs e
 refine wpAny_newObj_type (wpAny_newFunctionEnv O.cell (by intro y hy;simp at hy) (fun h₁ hns₁ hsb₁=>?_) O.kind);dsimp only at hns₁ hsb₁ ⊢;generalize hH2:s2.heap.push {cls:= .type "list",dict:=none,data:= .seq ([]:List Value).toArray}=HH at hns₁ hsb₁ ⊢
 have hC:HH.objs.size=s2.heap.objs.size+1:=by rw [← hH2,Rz]
 have hDC:s2.heap.objs.size≠HH.objs.size:=by rw [hC];exact FF (R5 _)
 have hCle:s2.heap.objs.size≤HH.objs.size:=by rw [hC];exact Rx _
 have old:∀b o,s2.heap.get? b=some o→h₁.get? b=some o:=fun b o e=>hsb₁.extBut b o (by rw [hC];exact FF (Nat.lt_succ_of_lt (Fs e))) (Fm _ (hH2▸Fm _ e));have hacc:h₁.get? s2.heap.objs.size=some {cls:= .type "list",data:= .seq #[] 0}:=hsb₁.extBut _ _ hDC (Fm _ (hH2▸FI _ rfl));obtain ⟨W,⟨m0,w0⟩,turn⟩:=rd ⟨s2,H2,HH.objs.size,fp⟩ s2.heap.objs.size I2.fresh;have I3:=J5m (t:=s2.toks+([]:List (Str×Value)).length) I2 O f2 (Fe _) hCle hfp hDC old hacc hns₁;rw [show xs.map (fun _=>(none:Option V))=List.replicate xs.length none from List.map_const' ..]at I3;generalize hX:X.blk scope (xs++around X.N fs) ⟨s2,H2,HH.objs.size,fp⟩=X' at I3
 have stat:∀{H':Hp},(∀b∈fp,H' b=none)→∀b∈fp,Kb X' [] H' b:=fun hn b hb=>by
  subst hX;refine ⟨hn b hb,?_,?_,.inl hb,fun x c e=>?_,fun p hp=>absurd hp (by simp)⟩
  · exact (I3.ok.exf b hb).1
  · exact I3.ok.exfs b hb
  · exact (I3.ok.exf b hb).2 x c e
 have fr3:∀b∈fp,upd H2 s2.heap.objs.size (.lst []) b=none:=fun b hb=>by
  rw [A4 (FF (hfp b hb))];exact (f2 b hb).1
 have ccell:∀y c,X.env.cells.lookup y=some c→c≠HH.objs.size:=fun y c e=>by
  obtain ⟨v,q⟩:=I2.cell y c e;exact FF (Fw q.lt hCle)
 have cloc:HH.objs.size≠X.env.locals:=(FF (Fw I2.lt hCle)).symm
 have eP:X'.prog=X.prog:=by rw [← hX]
 have ew:X'.w=X.w:=by rw [← hX]
 have eK:X'.K=X.K:=by rw [← hX]
 have eA:X'.A=X.A:=by rw [← hX]
 have ec:X'.calm=true:=by rw [← hX];exact hc
 have ex:X'.xe=fun _ _=>False:=by rw [← hX]
 have een:X'.env=compEnvC scope (clo X.env scope.names []) HH.objs.size X.env:=by rw [← hX]
 have hg':=hg ⟨s2,H2,HH.objs.size,fp⟩;have ht':=ht ⟨s2,H2,HH.objs.size,fp⟩;have he':=he ⟨s2,H2,HH.objs.size,fp⟩;rw [hX]at hg' ht' he';have st1:tn 0 h₁:=T.keep _ _ _ st2 fun b hb o e=>old b o e
 have loop:∀s₃:Shared,s₃={s2 with heap:=h₁,toks:=s2.toks+([]:List (Str×Value)).length}→
  codeAny (model X.prog X.w) X.A (.compLoop (.ListComp elt [⟨tg,iter,ifs,0⟩] scope pos) 0 (.ref it) (.ref s2.heap.objs.size) (compEnvC scope (clo X.env scope.names []) HH.objs.size X.env))
   (RR (.ref s2.heap.objs.size) HH.objs.size) s₃:=by
  rintro s₃ rfl;refine Pc (fun n s'=>∃i ys H',Inv X' [] (List.replicate xs.length none++fs.map fun j=>σ.getD j none) H' s'∧tn i s'.heap∧(∀b∈fp,H' b=none)∧W i n ys H') ?_ m0 ⟨0,[],_,I3,st1,fr3,w0⟩;rintro n s4 ⟨i,ys,H4,I4,st4,fr4,w4⟩;obtain ⟨hD4,tn4⟩:=turn i n ys H4 w4;rcases tn4 with ⟨stop,qn⟩ | ⟨go,step⟩
  · have td:=T.done X' eP ew eK ec i [] s4 _ H4 (notedBy (model X.prog X.w) X.A (compEnvC scope (clo X.env scope.names []) HH.objs.size X.env) fun e s'=>RR (.ref s2.heap.objs.size) HH.objs.size (.error e) s') I4 (stat fr4) st4 stop
    rw [eA]at td;refine thn td fun r s5 ⟨hr,I5⟩=>?_;subst hr;obtain ⟨m5,hn5,_⟩:=I5.loc;rw [een]at hn5
    have fr5:H4 HH.objs.size=none:=by have:=I5.free;rw [een]at this;exact this
    rw [← hX]at I5;exact hR _ _ _ m5 H4 hn5 (J33 I2 f2 hCle I5 (Heap.SameBut.refl ..)) qn (I2.fpOk hCle fr5)
  · have ti:=T.item X' eP ew eK ec i [] s4 _ H4 (notedBy (model X.prog X.w) X.A (compEnvC scope (clo X.env scope.names []) HH.objs.size X.env) fun e s'=>RR (.ref s2.heap.objs.size) HH.objs.size (.error e) s') I4 (stat fr4) st4 go
    rw [eA]at ti;refine thn ti fun r s5 ⟨u,hr,h5⟩=>?_;subst hr;refine thn h5 fun _ s6 hq_=>?_;obtain ⟨x,H6,I6,r6,y6,st6,fr6⟩:=hq_;have I6':=I6.pinned (stat fr6) (T.obj _ _ st6);have g1:=hg' _ s6 _ H6 x u _ I6' r6 (step x H6 y6);rw [eP,ew,eA,een,ex]at g1;refine FZ g1 (fun _ s7 hq_=>?_) fun _ _ z=>z.elim;obtain ⟨σ7,H7,I7,kp7,q7⟩:=hq_;have t1:=ht' _ s7 σ7 H7 _ I7 q7;rw [eP,ew,eA,een,ex]at t1
    have back:∀{H9:Hp} {s9:Shared},Inv X' ([]++L0 fp s6.heap) σ7 H9 s9→Inv X' [] (List.replicate xs.length none++fs.map fun j=>σ.getD j none) H9 s9∧tn (i+1) s9.heap∧∀b∈fp,H9 b=none:=fun {H9 s9} I9=>by
     refine ⟨I9.unpinned.weak ?_ kp7,T.keep _ _ _ st6 fun b hb o e=>(I9.pin (b,o) (Fv _ (Fv _ (Gd hb e)))).1,fun b hb=>?_⟩
     · rw [I9.len,I4.len]
     · obtain ⟨o,e,d⟩:=T.obj _ _ st6 b hb
       exact (I9.pin (b,o) (Fv _ (Fv _ (Gd hb e)))).2.1
    refine FZ t1 (fun ok s8 ⟨H8,I8,q8⟩=>?_) fun _ _ z=>z.elim
    cases ok with
    | false=>
     rw [if_neg Fz]at q8 ⊢;obtain ⟨m',hm,w8⟩:=q8;obtain ⟨b1,b2,b3⟩:=back I8;exact ⟨m',hm,i+1,ys,H8,b1,b2,b3,w8⟩
    | true=>
     rw [if_pos rfl]at q8 ⊢;have e1:=he' _ s8 σ7 H8 _ I8 q8;rw [eP,ew,eA,een,ex]at e1;refine FZ e1 (fun uy s9 hq_=>?_) fun _ _ z=>z.elim;obtain ⟨y,H9,I9,r9,hD9,hz,m',hm,w9⟩:=hq_;have a1:=C7 (X:=X') (pins:=[]++L0 fp s6.heap) (s:=s9) (σ:=σ7) (H:=H9) (x:= .ref s2.heap.objs.size) (xs:=[y]) (v:= .ref s2.heap.objs.size) (us:=[uy]) (Q:=fun _ H'=>H'=upd H9 s2.heap.objs.size (.lst (ys++[y]))) I9 rfl (.cons r9 .nil) ⟨_,ys,y,rfl,rfl,hD9,hz,rfl⟩;rw [eP,ew,eA,ex]at a1;refine FZ a1 (fun _ s10 hq_=>?_) fun _ _ z=>z.elim;obtain ⟨_,H10,I10,_,e10⟩:=hq_;subst e10;obtain ⟨b1,b2,b3⟩:=back I10;exact ⟨m',hm,i+1,_,_,b1,b2,b3,w9⟩
 exact codeAny_compStart_list (loop _ rfl) (T.self _ 0 _ _ _ st1 (loop _ rfl))
theorem Qj(hc:X.calm=true)(hok:E1 X.N X.env.scope scope xs fs=true)(hi:PI X tg iter wi)
 (hg:∀b,PG (X.blk scope (xs++around X.N fs) b) tg (g b)) (ht:∀b,PTs (X.blk scope (xs++around X.N fs) b) ifs (tt b)) (he:∀b,PE (X.blk scope (xs++around X.N fs) b) elt (te b))
 (hs:∀x,foldedSetIterable iter X.env x=pure x:=by intro _;rfl):
 PE X (.ListComp elt [⟨tg,iter,ifs,0⟩] scope pos) (Qh wi xs.length fs g tt te):=by
 intro pins s σ H Q I h;have O:=Eh hok;rw [eval_ListComp];refine wpAny_comprehension_free (use:=none) rfl hs (Lk fun y hy hf=>I.ok.has _ (O.free y hy hf)) O.kind O.names (thn (hi pins s σ H _ I h) fun v s1 h1=>thn h1 fun itv s2 h2=>?_)
 exact Qi (RR:=fun acc C=>compPost (model X.prog X.w) X.A X.xe none (EP X pins σ Q) acc C) hc O hg ht he h2 fun D C s' m H' hn I' q F=>⟨m,hn,fun h2 sb=>⟨.ref D,H',O3 I' F sb,rfl,q⟩⟩
theorem V6{y:Str}{py:Pos}{i:Nat}(hN:X.N.Nodup)(hy:X.N[i]?=some y)(hyl:X.env.kindOf y=some .local)(hc:X.calm=true)(hok:E1 X.N X.env.scope scope xs fs=true)(hi:PI X tg iter wi)
 (hg:∀b,PG (X.blk scope (xs++around X.N fs) b) tg (g b)) (ht:∀b,PTs (X.blk scope (xs++around X.N fs) b) ifs (tt b)) (he:∀b,PE (X.blk scope (xs++around X.N fs) b) elt (te b)) {spos:Pos}
 (hsw:swapsWith (.ListComp elt [⟨tg,iter,ifs,0⟩] scope pos) (some (.Name y py)) spos.line X.env=pure true:=by rfl)
 (hs:∀x,foldedSetIterable iter X.env x=pure x:=by intro _;rfl):
 PS X (.Assign [.Name y py] (.ListComp elt [⟨tg,iter,ifs,0⟩] scope pos) spos) (Y1 (Qh wi xs.length fs g tt te) (Cb i)):=by
 intro pins s σ H D I h;have O:=Eh hok;rw [exec_Assign_Name_used _ _ _ _ hsw];refine FK (wpAny_standAt (FK ?_));show wpAny _ X.A (do let _ ← comprehension (.ListComp elt [⟨tg,iter,ifs,0⟩] scope pos) scope X.env _ (newList []) false (eval iter X.env) (some (assign (.Name y py) X.env))) _ _ s
 refine FK (FZ (wpAny_comprehension_free (use:=some (assign (.Name y py) X.env)) (Q:=fun _ s'=>SP X pins D .next s') rfl hs (Lk fun y hy hf=>I.ok.has _ (O.free y hy hf)) O.kind O.names
  (thn (hi pins s σ H _ I h) fun v s1 h1=>thn h1 fun itv s2 h2=>?_)) (fun _ s' hq=>FW (FW hq)) fun _ _ e=>e)
 refine Qi (RR:=fun acc C=>compPost (model X.prog X.w) X.A X.xe (some (assign (.Name y py) X.env)) (fun _ s'=>SP X pins D .next s') acc C) hc O hg ht he h2 fun D' C s' m H' hn I0 q0 F=>?_;show wpAny _ X.A (assign (.Name y py) X.env (.ref D')) _ _ _;refine wpAny_assign_Name (Np I0 hN hy (.inl hyl) (v:= .ref D') rfl (fun s3 I3 hsb=>?_) (.inr hyl));obtain ⟨a,sb3,ha⟩:=hsb
 have haC:C≠a:=by
  rcases ha with rfl | ha
  · exact F.2.1
  · exact (F.2.2.2.2.1 y a ha).symm
 exact ⟨m,hn.sameBut sb3 haC,fun h4 sb4=>⟨_,H',O3 I3 F sb4,q0⟩⟩
end
end L2
namespace L2
def Its(z:Str):It:=⟨fun i _=>i < z.cps.size,fun i H x H'=>H'=H∧∃c,z.cps[i]?=some c∧x= .str ⟨#[c]⟩,fun i _=>z.cps.size≤i⟩
def J7f(tl:TE):TI:=fun σ H R=>tl σ H fun x H1=>∃z,x= .str z∧R (Its z) H1
section
variable {P:Program} {w:World} {K:PySem.W.Frag} {tg:Expr}
theorem J0l(ty:String)(hty:ty="str_ascii_iterator"∨ty="str_iterator")(z:Str)(t:Tok)(it:Addr):Wt P w K tg (Its z) [it] it (fun i h=>i≤z.cps.size∧h.IsStrIter it ty z t i) where
 mem:=by simp
 obj:=fun i h st b hb=>by
  have e:b=it:=by simpa using hb
  subst e;obtain ⟨o,e,c,d⟩:=st.2;exact ⟨o,e,fun v z=>by rw [d]at z;cases z⟩
 keep:=fun i h h' st k=>⟨st.1,by obtain ⟨o,e,r⟩:=st.2;exact ⟨o,k it (by simp) o e,r⟩⟩
 item:=by
  intro X hP hw hK hc i pins s σ H E I hf st hg;subst hP hw hK;obtain ⟨f0,f1,f2,f3,f4,f5⟩:=hf it (by simp)
  have W:Walks X.prog X.w X.A it [it] [it] z.cps.size (SignAt z) (fun i h=>h.IsStrIter it ty z t i):=by
   rcases hty with rfl | rfl
   · exact Walks.strAscii (I.ok.hd hc) it z t
   · exact Walks.strWide (I.ok.hd hc) it z t
  refine W.item i s _ _ hg st.2 fun v h' tk hv st' kk=>?_;obtain ⟨c,u,hcc,rfl⟩:=hv;have I1:Inv X pins σ H {s with heap:=h',toks:=tk}:=I.turned (fun b o hb e=>kk b o (by simpa using hb) e) f0 f1 f3 f4 f5;obtain ⟨o,e,cc,d⟩:=id st'
  refine ⟨_,rfl,Y3 (s:={s with heap:=h',toks:=tk}) (n:=ty) e cc d (by rcases hty with rfl | rfl <;> decide) ⟨.str ⟨#[c]⟩,H,I1,⟨u,rfl⟩,⟨rfl,c,hcc,rfl⟩,⟨hg,st'⟩,fun b hb=>(hf b hb).1⟩⟩
 done:=by
   intro X hP hw hK hc i pins s σ H E I hf st hg;subst hP hw hK;obtain ⟨f0,f1,f2,f3,f4,f5⟩:=hf it (by simp)
   have W:Walks X.prog X.w X.A it [it] [it] z.cps.size (SignAt z) (fun i h=>h.IsStrIter it ty z t i):=by
    rcases hty with rfl | rfl
    · exact Walks.strAscii (I.ok.hd hc) it z t
    · exact Walks.strWide (I.ok.hd hc) it z t
   have hi:i=z.cps.size:=Nat.le_antisymm st.1 hg;subst hi
   exact W.done s _ _ st.2 fun h' tk kk=>⟨rfl,I.turned (fun b o hb e=>kk b o (by simpa using hb) e) f0 f1 f3 f4 f5⟩
 self:=fun _ _ _ _ _ st h=>by
  rcases hty with rfl | rfl
  · exact wpAny_pyIter_striter_ascii st.2 h
  · exact wpAny_pyIter_striter_wide st.2 h
end
section
variable {X:Cx} {tg:Expr}
theorem J5o{l:Expr}{tl:TE}(hl:PE X l tl):PI X tg l (J7f tl):=by
 intro pins s σ H R I h;refine thn (hl pins s σ H _ I h) fun v s1 hq_=>?_;obtain ⟨x,H1,I1,r1,q1⟩:=hq_;obtain ⟨z,e,q⟩:=q1;subst e;obtain ⟨t,rfl⟩:=r1
 have fin:∀ty,(ty="str_ascii_iterator"∨ty="str_iterator")→PIE X pins σ tg R (.ref s1.heap.objs.size) {s1 with heap:=s1.heap.push {cls:= .type ty,data:= .fields #[.str z t,.int 0 0]}}:=fun ty hty=>by
  refine ⟨s1.heap.objs.size,[s1.heap.objs.size],_,_,H1,rfl,I1.kept (t':=s1.toks) fun b o e=>Fm _ e,J0l ty hty z t _,⟨Fl _,_,FI _ rfl,rfl,rfl⟩,fun b hb=>?_,q⟩
  have e:b=s1.heap.objs.size:=by simpa using hb
  subst e;exact I1.fpOk (Fe _) I1.fresh
 cases ha:z.cps.all (· < 128)
 · exact wpAny_pyIter_wide ha (fin _ (.inr rfl))
 · exact wpAny_pyIter_ascii ha (fin _ (.inl rfl))
def J7g:V→Option Int→Option Int→Hp→VK→Prop:=fun x lo hi H Q=>∃z,x= .str z∧z.length≤sizeLine∧Q (.str (Txt.slice z lo hi)) H
theorem J5p:SlR X J7g:=by
 intro pins s σ H x v vl vu lo hi sl Q I rx hs pl pu h;obtain ⟨z,rfl,hz,q⟩:=h;obtain ⟨t,rfl⟩:=rx;obtain ⟨o,ho,hc,hd⟩:=hs;refine ⟨"str",_,F.slot_str_getitem.lookup,Rm _ _ _,?_⟩
 have fin:∀(l u:Option (Int×Tok)),s.heap.IsSlice sl l u none→l.map (·.1)=lo→u.map (·.1)=hi→wpAny (model X.prog X.w) X.A (getItem (.str z t) (.ref sl)) (EP X pins σ Q) X.xe s:=fun l u hsl hl hu=>by
  subst hl hu;exact wpAny_getItem_str_slice (l:=l) (u:=u) (st:=none) hsl rfl (post_val_or_str ⟨FA (Txt.slice_le z _ _) hz,fun t' k=>⟨.str _,H,I.tok k,⟨t',rfl⟩,q⟩⟩)
 cases pl <;> cases pu
 · exact fin none none ⟨o,ho,hc,hd⟩ rfl rfl
 · exact fin none (some (_,_)) ⟨o,ho,hc,hd⟩ rfl rfl
 · exact fin (some (_,_)) none ⟨o,ho,hc,hd⟩ rfl rfl
 · exact fin (some (_,_)) (some (_,_)) ⟨o,ho,hc,hd⟩ rfl rfl
theorem Mu:∀{ys:List Str} {us:List Value},Ax (ys.map V.str) us→StrsAre us ys
 | [],_,r=>by rw [List.map_nil]at r;cases r;exact .nil
 | y::ys,us,r=>by
  rw [List.map_cons]at r
  cases r with
  | cons r1 r2=>
   obtain ⟨t,e⟩:=r1;subst e;exact .cons y t (Mu r2)
def J4j(K:PySem.W.Frag):V→List V→Hp→VK→Prop:=fun x vs H Q=>∃z p ys,x= .str z∧vs=[.ref p]∧SqL K H p (ys.map V.str)∧(ys.map (·.length)).sum+ys.length * z.length≤16777216∧Q (.str (Txt.join z ys)) H
theorem Kn:MtR X "str.join" (J4j X.K):=by
 intro pins s σ H x vs v us Q I rx rv h;obtain ⟨z,p,ys,rfl,rfl,hp,hw,q⟩:=h;obtain ⟨t,rfl⟩:=rx;obtain ⟨u,rfl,ru⟩:=rv.one;cases ru;obtain ⟨its,r,pl,hz⟩:=I.list hp
 exact join_list pl.isList (by simpa using Mu r) hw fun t' k=>⟨.str _,H,I.tok k,⟨t',rfl⟩,q⟩
def J7h:V→List V→Hp→VK→Prop:=fun x vs H Q=>∃z y,x= .str z∧vs=[.str y]∧Q (.int (Txt.find z y)) H
theorem O4:∀(l:List (Str×Tok)),Ax ((l.map (·.1)).map V.str) (strValues l)
 | []=> .nil
 | (x,t)::r=> .cons ⟨t,rfl⟩ (O4 r)
def J0m:V→List V→Hp→VK→Prop:=fun x vs H Q=>∃z y,x= .str z∧vs=[.str y]∧(y.length==0)=false∧z.length+2≤sizeLine∧∀p,H p=none→Q (.ref p) (upd H p (.lst ((Txt.split z y).map V.str)))
theorem Mv:MtR X "str.split" J0m:=by
 intro pins s σ H x vs v us Q I rx rv h;obtain ⟨x,y,rfl,rfl,hy,hsz,q⟩:=h;obtain ⟨t,rfl⟩:=rx;obtain ⟨u,rfl,ru⟩:=rv.one;obtain ⟨u,rfl⟩:=ru
 have hn:(Builtin.Str.partsBetween x (Builtin.Str.occurrences x y 0 x.length (x.length+1)) y.length).length≤sizeLine:=by
  have e1:=StrLaws.occ_length_le x y 0 x.length (x.length+1);rw [length_partsBetween];omega
 have fin:∀(l:List (Str×Tok)) (k:Nat),l.map (·.1)=Txt.split x y→EP X pins σ Q (.ref s.heap.objs.size) {s with heap:=s.heap.push {cls:= .type "list",data:= .seq (strValues l).toArray},toks:=k}:=fun l k e=>by
  refine ⟨.ref s.heap.objs.size,_,I.laid (t':=k) (fun b o e=>Fm _ e) (Fe _) ?_,rfl,q _ I.fresh⟩;refine ⟨?_,strValues l,0,e▸O4 l,FI _ rfl⟩;rw [Fa];exact FA (split_le x y) hsz
 cases h1:(decide (x.length < y.length) || decide (Builtin.Str.strKind x < Builtin.Str.strKind y))
 · cases hf:(Builtin.Str.occurrences x y 0 x.length (x.length+1)).isEmpty
   · refine HS F.slot_str_split (Rm _ _ _) F.entry_str_split (F.args_str_split_2 _ _) (meets_str_split_sep x y t u h1 hy hf (by omega) hn) ?_
     show wants _ _ _ {s with toks:=_,heap:=s.heap.push {cls:= .type "list",data:= .seq (strsFrom s.toks (Builtin.Str.partsBetween x (Builtin.Str.occurrences x y 0 x.length (x.length+1)) y.length)).toArray}};rw [strsFrom_eq];exact fin (numbered s.toks _) _ ((numbered_texts _ _).trans ((if_neg (RA h1)).trans (if_neg (RA hf))).symm)
   · exact HS F.slot_str_split (Rm _ _ _) F.entry_str_split (F.args_str_split_2 _ _) (meets_str_split_not_found x y t u h1 hy hf)
      (fin [(x,t)] s.toks ((if_neg (RA h1)).trans (if_pos hf)).symm)
 · exact HS F.slot_str_split (Rm _ _ _) F.entry_str_split (F.args_str_split_2 _ _) (meets_str_split_cannot_occur x y t u h1)
    (fin [(x,t)] s.toks (if_pos h1).symm)
theorem Nm:El X (.type "int") (fun xs H Q=>∃z n,xs=[.str z]∧PySem.intText? z=some n∧z.length≤640∧Q (.int n) H):=by
 intro pins s σ H xs us Q I r h;obtain ⟨z,n,rfl,hn,hl,q⟩:=h;obtain ⟨u,rfl,t,rfl⟩:=Ic r;exact PySem.W.KIN.call_text hn hl ⟨.int n,H,I.tok _,⟨_,rfl⟩,q⟩
def J7i:R2:=fun x y H Q=>∃z n,x= .str z∧y= .int n∧MulOk z n∧Q (.str (Txt.mul z n)) H
def J7j(K:PySem.W.Frag):List V→Hp→VK→Prop:=fun xs H Q=>∃(p:Addr) (bs:List Bool),xs=[.ref p]∧SqL K H p (bs.map V.bl)∧Q (.bl (bs.all id)) H
theorem J0n(hc:X.calm=true):El X (.builtin "all") (J7j X.K):=by
 intro pins s σ H xs us Q I r h;obtain ⟨p,bs,rfl,hp,q⟩:=h;obtain ⟨u,rfl,ru⟩:=Ic r;cases ru;obtain ⟨its,r,pl,hz⟩:=I.list hp
 have hlt:p < s.heap.objs.size:=by obtain ⟨o,n,e,_⟩:=pl;exact Fs e
 refine call_all_walk (RF pl.isList ⟨s.heap.objs.size,_,_,_,_,_,fun i=>bs.getD i true,rfl,Walks.list (show X.A.in1.handled=none from I.ok.hd hc) s.heap.objs.size p (FF hlt) its.toArray,⟨⟨_,FI _ rfl,rfl,rfl⟩,pl.isList.push _⟩,?_,fun h' tk kk=>?_⟩)
 · intro i v s' Q' E' hP hQ'
   have hP:its.toArray[i]?=some v:=hP;have hlen:=r.length;rw [Fa]at hlen
   have hi:i < bs.length:=by
    have:=(Array.getElem?_eq_some_iff.mp hP).1;rw [Fn]at this;omega
   obtain ⟨u,hu,ru⟩:=r.get (i:=i) (x:=V.bl (bs[i])) (by simp [hi])
   have e:u=v:=by
    have:its[i]?=some v:=by simpa using hP
    rw [hu]at this;exact FQ this
   subst e;cases ru;dsimp only at hQ';rw [Fk,Fb hi]at hQ';exact FW hQ'
 · refine ⟨.bl _,H,I.kept (t':=tk) fun b o e=>kk b o ?_ (Fm _ e),rfl,?_⟩
   · simpa using FF (Fs e)
   · have hlen:=r.length
     rw [Fa]at hlen
     have:((List.range its.toArray.size).all fun i=>bs.getD i true)=bs.all id:=by
      rw [Fn,← hlen];rw [Rc,Hg,Hg];constructor
      · intro h x hx
        obtain ⟨i,hi,rfl⟩:=List.mem_iff_getElem.mp hx;have:=h i (by simpa using hi)
        simpa [Fk,Fb hi] using this
      · intro h i hi
        have hi:i < bs.length:=by simpa using hi
        rw [Fk,Fb hi];exact h _ (Rl hi)
     rw [this];exact q
end
abbrev TJ:=Str→St→Hp→(Str→Hp→Prop)→Prop
def J8j:TJ:=fun acc _ H Q=>Q acc H
def J7k(te:TE)(tr:TJ):TJ:=fun acc σ H Q=>te σ H fun x H1=>∃y,x= .str y∧(acc++y).length≤sizeLine∧tr (acc++y) σ H1 Q
def J7l(t:TJ):TE:=fun σ H Q=>t Str.empty σ H fun out H1=>out.length≤sizeLine∧Q (.str out) H1
def J8k(te:TE):TE:=fun σ H Q=>te σ H fun x H1=>(∃z,x= .str z∧z.length≤sizeLine∧Q (.str z) H1)∨∃i,x= .int i∧i.natAbs.log2 < 1920∧Q (.str (toString i)) H1
def J7m(te:TE):TE:=fun σ H Q=>te σ H fun x H1=>∃z,x= .str z∧(PySem.reprText z).length≤sizeLine∧Q (.str (PySem.reprText z)) H1
end L2
namespace L2
abbrev Tp(wi:TI)(fs:List Nat)(te:Blk→TE):TE:=Qh wi 1 fs (fun _=>Cb 0) (fun _=>Gh) te
section
variable {X:Cx} {scope:Scope} {x:Str} {px:Pos} {fs:List Nat} {elt iter:Expr} {pos:Pos} {wi:TI} {te:Blk→TE}
theorem Tq(hok:E1 X.N X.env.scope scope [x] fs=true)(b:Blk):PG (X.blk scope ([x]++around X.N fs) b) (.Name x px) (Cb 0):=
 Bb (Eh hok).nd rfl (.inl (Hu ((Eh hok).own x (by simp)))) (.inr (Hu ((Eh hok).own x (by simp))))
theorem G5(x:Str)(fs:List Nat)(hc:X.calm=true)(hok:E1 X.N X.env.scope scope [x] fs=true)(hi:PI X (.Name x px) iter wi)(he:∀b,PE (X.blk scope ([x]++around X.N fs) b) elt (te b))
 (hs:∀x,foldedSetIterable iter X.env x=pure x:=by intro _;rfl):PE X (.ListComp elt [⟨.Name x px,iter,[],0⟩] scope pos) (Tp wi fs te):=
 Qj (xs:=[x]) (g:=fun _=>Cb 0) (tt:=fun _=>Gh) hc hok hi (Tq hok) (fun _=>Pf) he hs
theorem J0o{y:Str}{py:Pos}{i:Nat}{spos:Pos}(x:Str)(fs:List Nat)(hN:X.N.Nodup)(hy:X.N[i]?=some y)(hyl:X.env.kindOf y=some .local)(hc:X.calm=true)(hok:E1 X.N X.env.scope scope [x] fs=true)(hi:PI X (.Name x px) iter wi)(he:∀b,PE (X.blk scope ([x]++around X.N fs) b) elt (te b))
 (hsw:swapsWith (.ListComp elt [⟨.Name x px,iter,[],0⟩] scope pos) (some (.Name y py)) spos.line X.env=pure true:=by rfl)
 (hs:∀x,foldedSetIterable iter X.env x=pure x:=by intro _;rfl):PS X (.Assign [.Name y py] (.ListComp elt [⟨.Name x px,iter,[],0⟩] scope pos) spos) (Y1 (Tp wi fs te) (Cb i)):=
 V6 (xs:=[x]) (g:=fun _=>Cb 0) (tt:=fun _=>Gh) hN hy hyl hc hok hi (Tq hok) (fun _=>Pf) he hsw hs
end
theorem J4k{x:Option V}{r:St}:J5n (none::r) (x::r):=fun i v e=>by
 cases i with
 | zero=>cases e
 | succ i=>exact e
section
variable {K:PySem.W.Frag} {tail:St} {te:Blk→TE} {Q:VK} {H1:Hp}
def Qk(D:Addr)(n i:Nat)(ys:List V)(Pv:Nat→List V→Hp→Prop):VK:=fun y H4=>H4 D=some (.lst ys)∧ys.length < sizeLine∧∃m',m' < n - i∧(m'=n - (i+1)∧i+1≤n∧Pv (i+1) (ys++[y]) (upd H4 D (.lst (ys++[y]))))
theorem G6{D:Addr}{n i:Nat}{ys:List V}{Pv:Nat→List V→Hp→Prop}{y:V}{H4:Hp}(h1:H4 D=some (.lst ys))(h2:ys.length < sizeLine)(h3:i < n)(h4:Pv (i+1) (ys++[y]) (upd H4 D (.lst (ys++[y])))):Qk D n i ys Pv y H4:=
 ⟨h1,h2,n - (i+1),by omega,rfl,h3,h4⟩
theorem Iu{J:It}(n:Nat)
 (h:∀(b:Blk) (D:Addr),H1 D=none→∃Pv:Nat→List V→Hp→Prop,Pv 0 [] (upd H1 D (.lst []))∧(∀i ys H,Pv i ys H→H D=some (.lst ys))∧(∀ys H,Pv n ys H→J.stop n H∧Q (.ref D) H)∧
  ∀i ys H,i < n→Pv i ys H→J.go i H∧∀x H3,J.yld i H x H3→te b (some x::tail) H3 (Qk D n i ys Pv)):Bq (none::tail) (fun _=>Cb 0) (fun _=>Gh) te Q J H1:=by
 intro b D hD;obtain ⟨Pv,p0,p1,p2,p3⟩:=h b D hD;refine ⟨fun i m ys H=>m=n - i∧i≤n∧Pv i ys H,⟨n,rfl,Fl _,p0⟩,?_⟩;rintro i m ys H ⟨rfl,hi,p⟩;refine ⟨p1 i ys H p,?_⟩
 by_cases hlt:i < n
 · obtain ⟨go,st⟩:=p3 i ys H hlt p
   refine .inr ⟨go,fun x H3 y=>⟨J4k,?_⟩⟩;exact st x H3 y
 · have e:i=n:=by omega
   subst e;exact .inl (p2 ys H p)
theorem Cg{D:Addr}{o:HO}(h:H1 D=none):A9 H1 (upd H1 D o):=fun b u e=>by rw [A4 (A6 e h)];exact e
theorem Tr{z:Str}(f:Nat→V)(hz:z.cps.size≤sizeLine)(he:∀b c H Q',c∈z.cps.toList→A9 H1 H→Q' (f c) H→te b (some (.str ⟨#[c]⟩)::tail) H Q')
 (q:∀D,H1 D=none→Q (.ref D) (upd H1 D (.lst (z.cps.toList.map f)))):Bq (none::tail) (fun _=>Cb 0) (fun _=>Gh) te Q (Its z) H1:=by
 refine Iu z.cps.size (fun b D hD=>⟨fun i ys H=>i≤z.cps.size∧ys=(z.cps.toList.take i).map f∧H=upd H1 D (.lst ys),⟨Fl _,rfl,rfl⟩,?_,?_,?_⟩)
 · rintro i ys H ⟨hi,rfl,rfl⟩
   exact A3
 · rintro ys H ⟨_,rfl,rfl⟩
   refine ⟨Fe _,?_⟩;have e:z.cps.toList.take z.cps.size=z.cps.toList:=Hd (by simp);rw [e];exact q D hD
 · rintro i ys H hi ⟨_,rfl,rfl⟩
   refine ⟨hi,fun x H3 ⟨e3,c,hc,ex⟩=>?_⟩;subst e3 ex
   have hc':z.cps.toList[i]?=some c:=by simpa using hc
   refine he b c _ _ (Fo hc') (Cg hD) (G6 A3 (by rw [Fa,FV,FG];omega) hi ⟨hi,?_,?_⟩)
   · rw [Hv,hc'];simp
   · funext a;by_cases ha:a=D <;> simp [upd,ha]
theorem Ts{a:Addr}{xs:List V}(f:V→V)(hS:SqL K H1 a xs)(hz:xs.length≤sizeLine)(he:∀b x H Q',x∈xs→A9 H1 H→Q' (f x) H→te b (some x::tail) H Q')
 (q:∀D,H1 D=none→Q (.ref D) (upd H1 D (.lst (xs.map f)))):Bq (none::tail) (fun _=>Cb 0) (fun _=>Gh) te Q (Itl K a) H1:=by
 refine Iu xs.length (fun b D hD=>⟨fun i ys H=>i≤xs.length∧ys=(xs.take i).map f∧H=upd H1 D (.lst ys),⟨Fl _,rfl,rfl⟩,?_,?_,?_⟩)
 · rintro i ys H ⟨hi,rfl,rfl⟩
   exact A3
 · rintro ys H ⟨_,rfl,rfl⟩
   refine ⟨⟨xs,(Cg hD).seq hS,Fe _⟩,?_⟩;rw [FU];exact q D hD
 · rintro i ys H hi ⟨_,rfl,rfl⟩
   refine ⟨⟨xs,xs[i],(Cg hD).seq hS,by simp [hi]⟩,fun x H3 ⟨e3,ex⟩=>?_⟩;subst e3;have hc':=ex xs ((Cg hD).seq hS);refine he b x _ _ (Fo hc') (Cg hD) (G6 A3 (by rw [Fa,FV];omega) hi ⟨hi,?_,?_⟩)
   · rw [Hv,hc'];simp
   · funext a;by_cases ha:a=D <;> simp [upd,ha]
theorem Mw{lo:Int}{n:Nat}(f:Int→V)(hz:n≤sizeLine)(he:∀b (i:Nat) H Q',i < n→A9 H1 H→Q' (f (lo+i)) H→te b (some (.int (lo+i))::tail) H Q')
 (q:∀D,H1 D=none→Q (.ref D) (upd H1 D (.lst ((List.range n).map fun (i:Nat)=>f (lo+(i:Int)))))):Bq (none::tail) (fun _=>Cb 0) (fun _=>Gh) te Q (Itr lo n) H1:=by
 refine Iu n (fun b D hD=>⟨fun i ys H=>i≤n∧ys=(List.range i).map (fun (i:Nat)=>f (lo+(i:Int)))∧H=upd H1 D (.lst ys),⟨Fl _,rfl,rfl⟩,?_,?_,?_⟩)
 · rintro i ys H ⟨hi,rfl,rfl⟩
   exact A3
 · rintro ys H ⟨_,rfl,rfl⟩
   exact ⟨Fe _,q D hD⟩
 · rintro i ys H hi ⟨_,rfl,rfl⟩
   refine ⟨hi,fun x H3 ⟨e3,ex⟩=>?_⟩;subst e3 ex;refine he b i _ _ hi (Cg hD) (G6 A3 (by rw [Fa,FT];omega) hi ⟨hi,?_,?_⟩)
   · rw [HQ];simp
   · funext a;by_cases ha:a=D <;> simp [upd,ha]
end
section
variable {σ:St} {H:Hp} {Q:VK} {D:Ig} {K:PySem.W.Frag}
theorem V7{wi:TI}{fs:List Nat}{te:Blk→TE}:Tp wi fs te σ H Q=wi σ H (Bq (none::fs.map fun j=>σ.getD j none) (fun _=>Cb 0) (fun _=>Gh) te Q):=rfl
theorem V8{tl:TE}{R:It→Hp→Prop}:J7f tl σ H R=tl σ H fun x H1=>∃z,x= .str z∧R (Its z) H1:=rfl
theorem J4l{r:V→Option Int→Option Int→Hp→VK→Prop}{te:TE}{tl th:TO}:tSl r te tl th σ H Q=te σ H fun x H1=>tl σ H1 fun l H2=>th σ H2 fun u H3=>r x l u H3 Q:=rfl
theorem O5{QO:Option Int→Hp→Prop}:Ui σ H QO=QO none H:=rfl
theorem V9{t:TE}{QO:Option Int→Hp→Prop}:J46 t σ H QO=t σ H fun x H1=>∃i,x= .int i∧QO (some i) H1:=rfl
theorem J0p{x:V}{lo hi:Option Int}:J7g x lo hi H Q=∃z,x= .str z∧z.length≤sizeLine∧Q (.str (Txt.slice z lo hi)) H:=rfl
theorem J0q{x:V}{lo hi:Option Int}:J72 K x lo hi H Q=∃a xs,x= .ref a∧SqL K H a xs∧∀p,H p=none→Q (.ref p) (upd H p (.lst (L7 xs lo hi))):=rfl
theorem J4m{T:String}{r:V→List V→Hp→VK→Prop}{to:TE}{t:TA}:tBM K T r to t σ H Q=to σ H fun x H1=>tyV K T x H1∧t σ H1 fun xs H2=>r x xs H2 Q:=rfl
theorem J0r{T:String}{r:V→List V→Hp→VK→Prop}{to:TE}:J73 K T r to σ H Q=to σ H fun x H1=>tyV K T x H1∧r x [] H1 Q:=rfl
theorem Va{z:Str}:tyV K "str" (.str z) H=True:=eq_true rfl
theorem Vb{x:V}{vs:List V}:J4j K x vs H Q=∃z p ys,x= .str z∧vs=[.ref p]∧SqL K H p (ys.map V.str)∧(ys.map (·.length)).sum+ys.length * z.length≤16777216∧Q (.str (Txt.join z ys)) H:=rfl
theorem Vc{x:V}{vs:List V}:J7h x vs H Q=∃z y,x= .str z∧vs=[.str y]∧Q (.int (Txt.find z y)) H:=rfl
theorem Ql{x:V}{vs:List V}:J0m x vs H Q=∃z y,x= .str z∧vs=[.str y]∧(y.length==0)=false∧z.length+2≤sizeLine∧∀p,H p=none→Q (.ref p) (upd H p (.lst ((Txt.split z y).map V.str))):=rfl
theorem J0s{xs:List V}:J7j K xs H Q=∃(p:Addr) (bs:List Bool),xs=[.ref p]∧SqL K H p (bs.map V.bl)∧Q (.bl (bs.all id)) H:=rfl
theorem Vd{x y:V}:J7i x y H Q=∃z n,x= .str z∧y= .int n∧MulOk z n∧Q (.str (Txt.mul z n)) H:=rfl
theorem Ve{acc:Str}{QS:Str→Hp→Prop}:J8j acc σ H QS=QS acc H:=rfl
theorem Qm{te:TE}{tr:TJ}{acc:Str}{QS:Str→Hp→Prop}:J7k te tr acc σ H QS=te σ H fun x H1=>∃y,x= .str y∧(acc++y).length≤sizeLine∧tr (acc++y) σ H1 QS:=rfl
theorem Vf{t:TJ}:J7l t σ H Q=t Str.empty σ H fun out H1=>out.length≤sizeLine∧Q (.str out) H1:=rfl
theorem Vg{te:TE}:J7m te σ H Q=te σ H fun x H1=>∃z,x= .str z∧(PySem.reprText z).length≤sizeLine∧Q (.str (PySem.reprText z)) H1:=rfl
theorem J0t{te:TE}:J8k te σ H Q=te σ H fun x H1=>(∃z,x= .str z∧z.length≤sizeLine∧Q (.str z) H1)∨∃i,x= .int i∧i.natAbs.log2 < 1920∧Q (.str (toString i)) H1:=rfl
theorem Qn:Yn σ H Q=∀p,H p=none→Q (.ref p) (upd H p (.dK [])):=rfl
theorem Ld{z:Str}{i:Int}{c:Nat}(hz:z.length≤sizeLine)(e:atI z.cps.toList i=some c)(q:Q (.str ⟨#[c]⟩) H):J71 (.str z) (.int i) H Q:=⟨z,i,c,rfl,rfl,hz,e,q⟩
theorem J4n{X:Cx}{scope:Scope}{N':List Str}{b:Blk}:(X.blk scope N' b).K=X.K:=rfl
end
section
variable {X:Cx} {x:Str} {pos:Pos}
theorem Iv{i:Int}(hg:Gl X x)(hm:∃t,X.mg x=some (.int i t))(hd:(x==("__debug__":Str))=false:=by decide):PE X (.Name x pos) (tC (.int i)):=by
 obtain ⟨t,hm⟩:=hm;exact Kh hg hm ⟨t,rfl⟩ hd
theorem M8{z:Str}(hg:Gl X x)(hm:∃t,X.mg x=some (.str z t))(hd:(x==("__debug__":Str))=false:=by decide):PE X (.Name x pos) (tC (.str z)):=by
 obtain ⟨t,hm⟩:=hm;exact Kh hg hm ⟨t,rfl⟩ hd
end
theorem Eo:sizeLine=16777216:=by decide
theorem Cm{a b:Str}:(a++b).length=a.length+b.length:=strLen_append a b
theorem J35{c:Nat}:(⟨#[c]⟩:Str).length=1:=rfl
theorem Dh{z:Str}:z.cps.toList.length=z.length:=by simp [Str.length]
theorem E3{a b:Str}:(a++b).cps.toList=a.cps.toList++b.cps.toList:=by
 show (a.cps++b.cps).toList=_;simp
theorem X9{K:PySem.W.Frag}{H:Hp}{a:Addr}{ns:List Int}{R:List Int→Prop}(h:SqL K H a (ns.map V.int))(hl:ns.length≤63)(q:R ns):∃x:List Int,SqL K H a (x.map V.int)∧x.length≤63∧R x:=⟨ns,h,hl,q⟩
def J0u(z y:Str):Bool:=!(Builtin.Str.occurrences z y 0 z.length 1).isEmpty
theorem Qo{z:Str}{c:Nat}:J0u z ⟨#[c]⟩=decide (c∈z.cps.toList):=StrLaws.found_one z c
def J7n:R2:=fun x y H Q=>∃i j,x= .str i∧y= .str j∧Q (.bl (J0u j i)) H
def J36:R2:=fun x y H Q=>∃i j,x= .str i∧y= .str j∧Q (.bl (!J0u j i)) H
theorem J0v{X:Cx}:OpR X (compareOp .In) J7n:=Wx
theorem J0w{x y:V}{H:Hp}{Q:VK}:J7n x y H Q=∃i j,x= .str i∧y= .str j∧Q (.bl (J0u j i)) H:=rfl
theorem O6{x y:V}{H:Hp}{Q:VK}:J36 x y H Q=∃i j,x= .str i∧y= .str j∧Q (.bl (!J0u j i)) H:=rfl
theorem J7o{α:Type}{c:α}{r:List α}:atI (c::r) 0=some c:=To (by decide) rfl
end L2
namespace L2
def J0x(xs ys:List V):Bool:=match xs,ys with
 | [],[]=>true
 | x::xs,y::ys=>eqV x y && J0x xs ys
 | _,_=>false
theorem Ph{x y:Str}:eqV (.str x) (.str y)=decide (x=y):=rfl
def EqQ(K:PySem.W.Frag)(H:Hp)(x y:V)(r:Bool):Prop:=∃a b xs ys,x= .ref a∧y= .ref b∧((SqL K H a xs∧SqL K H b ys)∨(SqT K H a xs∧SqT K H b ys))∧xs.all Cz=true∧ys.all Cz=true∧r=J0x xs ys
section
variable {X:Cx} {pins:List (Addr×Obj)} {σ:St} {H:Hp} {s:Shared}
def J8l(K:PySem.W.Frag):R2:=fun x y H Q=>∃r,EqQ K H x y r∧Q (.bl r) H
def J8m(K:PySem.W.Frag):R2:=fun x y H Q=>∃r,EqQ K H x y r∧Q (.bl (!r)) H
end
section
variable {K:PySem.W.Frag} {H:Hp} {Q:VK} {x y:V}
theorem J0y:J8l K x y H Q=∃r,EqQ K H x y r∧Q (.bl r) H:=rfl
theorem J0z:J8m K x y H Q=∃r,EqQ K H x y r∧Q (.bl (!r)) H:=rfl
theorem Qp{xs:List Str}:(xs.map V.str).all Cz=true:=by
 rw [List.all_map];exact Hg.mpr fun _ _=>rfl
end
end L2
namespace L2
structure J37 where
 pn:List (Addr×Obj)
 xe:Value→Shared→Prop
 EE:St→XK
end L2
namespace L2
structure Ca(P:Program)(w:World)(K:PySem.W.Frag)(mg:Str→Option Value)(base:Heap)(CX:CXT)(k:Nat)(C:Addr)(m:Str)(ps:List Str)(sp:Sp):Prop where
 ex:∃(f:Addr) (fd:FuncData),Ar P w K mg base CX k f fd ps sp∧J2p K C m f∧D7 K fd ps []
structure Qq(P:Program)(w:World)(K:PySem.W.Frag)(mg:Str→Option Value)(base:Heap)(CX:CXT)(k:Nat)(x:Str)(C:Addr)(ps:List Str)(sp:Sp):Prop where
 ex:∃(f:Addr) (fd:FuncData),Ar P w K mg base CX k f fd ps sp∧Mk K C f∧mg x=some (.ref C)∧D7 K fd ps []
def Tt(C:Addr)(m:Str)(sp:Sp)(EE:St→XK)(ta:TE)(t:TA):TE:=fun σ H Q=>ta σ H fun x H1=>∃a dx fs,x= .ref a∧H1 a=some (.ins C dx fs)∧fs.lookup m=none∧t σ H1 fun vs H2=>sp (x::vs) H2 Q (EE σ)
def Tu(C:Addr)(sp:Sp)(EE:St→XK)(t:TA):TE:=fun σ H Q=>t σ H fun vs H1=>∀x dx,H1 x=none→H1 dx=none→dx≠x→sp (.ref x::vs) (upd (upd H1 dx (.own x)) x (.ins C dx [])) (fun v H2=>v= .non∧Q (.ref x) H2) (EE σ)
section
variable {X:Cx} {CX:CXT} {k j:Nat} {f C:Addr} {fd:FuncData} {ps:List Str} {sp:Sp} {EE:St→XK} {E:XK} {x m:Str} {p pos apos:Pos} {e o:Expr} {es:List Expr} {ta:TE} {t:TA}
theorem Av(h:L6 CX X E):Dz CX X fun _=>E:=fun pins σ H s e s' I hc=>h pins σ H s e s' I hc
theorem M9{pins:List (Addr×Obj)}{σ:St}{H:Hp}{s:Shared}{Q:VK}{us:List Value}{vs:List V}(F:Ar X.prog X.w X.K X.mg X.base CX k f fd ps sp)(hr:Cv k X.A)(hb:D7 X.K fd ps [])(hx:Dz CX X EE)
 (I:Inv X pins σ H s) (r:Ax vs us) (h:sp vs H Q (EE σ)):wpAny (model X.prog X.w) X.A (call (.ref f) us) (EP X pins σ Q) X.xe s:=by
 have hl:us.length=ps.length:=by rw [← r.length];exact F.len _ _ _ _ h
 have hb':=hb s us I.kIn (by simpa using hl);rw [FX]at hb';refine wpAny_call (Rg (F.run X.A X.stack s H ⟨us,[]⟩ us vs Q (EE σ) hr I.env0 hb' r h) fun r s' hq=>?_)
 cases r with
 | error e=>exact hx pins σ H s e s' I hq
 | ok fl=>
  cases fl with
  | ret u=>exact I.after hq
  | next=>exact False.elim hq
  | brk=>exact False.elim hq
  | cont=>exact False.elim hq
theorem Ak{pl:Sem Bool}(D:Ca X.prog X.w X.K X.mg X.base CX j C m ps sp)(c:Cls X.K C)(hr:Cv k X.A)(hx:Dz CX X EE)(he:PE X o ta)(ha:PA X (e::es) t)(hj:j≤k:=by decide)
 (hst:starEach (e::es) X.env=(false,eval e X.env)::starEach es X.env:=by rfl) (hpl:(backTo pos (starEach es X.env)).any (·.1)=false:=by rfl)
 (ht:eval (.Call (.Attribute o m apos) (e::es) [] pos) X.env=(do
  let ov ← eval o X.env
  standAt apos.atName
  let (f,first) ← holding [ov] (getMethod ov m pl)
  callWith pos f first (backTo pos (starEach (e::es) X.env)) (backToKw pos (keywordEach [] X.env))):=by rfl):
 PE X (.Call (.Attribute o m apos) (e::es) [] pos) (Tt C m sp EE ta t):=by
 obtain ⟨f,fd,F,hm,hb⟩:=D.ex;intro pins s σ H Q I h;refine R4 (pl:=pl) (thn (he pins s σ H _ I h) fun u s1 hq_=>?_) ht;obtain ⟨x,H1,I1,rx,a,dx,fs,ex,ea,l,q⟩:=hq_;subst ex;obtain rfl:u=Value.ref a:=rx;refine Ge I1 ea c hm l ?_;refine HU (first:=[.ref a]) (h₀:=X.base) I.ok.mod.kin hm.kp (thn (ha pos pins s1 σ H1 _ I1 q) fun us s2 ⟨vs,H2,I2,r,q2⟩=>⟨I2.kIn,?_⟩) hst hpl;exact M9 (us:= .ref a::us) (vs:= .ref a::vs) (F.mono hj) hr hb hx I2 (.cons rfl r) q2
theorem G7{pl:Sem Bool}(D:Ca X.prog X.w X.K X.mg X.base CX j C m ps sp)(c:Cls X.K C)(hr:Cv k X.A)(hx:Dz CX X EE)(he:PE X o ta)(hj:j≤k:=by decide)
 (ht:eval (.Call (.Attribute o m apos) [] [] pos) X.env=(do
  let ov ← eval o X.env
  standAt apos.atName
  let (f,first) ← holding [ov] (getMethod ov m pl)
  callWith pos f first (backTo pos (starEach [] X.env)) (backToKw pos (keywordEach [] X.env))):=by rfl):
 PE X (.Call (.Attribute o m apos) [] [] pos) (Tt C m sp EE ta Yc):=by
 obtain ⟨f,fd,F,hm,hb⟩:=D.ex;intro pins s σ H Q I h;refine R4 (pl:=pl) (thn (he pins s σ H _ I h) fun u s1 hq_=>?_) ht;obtain ⟨x,H1,I1,rx,a,dx,fs,ex,ea,l,q⟩:=hq_;subst ex;obtain rfl:u=Value.ref a:=rx;refine Ge I1 ea c hm l ?_;exact RC (first:=[.ref a]) I1.kIn hm.kp (M9 (us:=[.ref a]) (vs:=[.ref a]) (F.mono hj) hr hb hx I1 (.cons rfl .nil) q)
theorem Ko(D:Qq X.prog X.w X.K X.mg X.base CX j x C ps sp)(hr:Cv k X.A)(hg:Gl X x)(hx:Dz CX X EE)(ha:PA X (e::es) t)(hj:j+1≤k:=by decide)(hdb:(x==("__debug__":Str))=false:=by decide)
 (he:starEach (e::es) X.env=(false,eval e X.env)::starEach es X.env:=by rfl) (hpl:(backTo pos (starEach es X.env)).any (·.1)=false:=by rfl):
 PE X (.Call (.Name x p) (e::es) [] pos) (Tu C sp EE t):=by
 obtain ⟨f,fd,F,M,hm,hb⟩:=D.ex;intro pins s0 σ H0 Q I0 h;refine HB (Lr I0 hg hm ?_ hdb);refine HU (h₀:=X.base) I0.ok.mod.kin M.kp (thn (ha pos pins s0 σ H0 _ I0 h) fun us s ⟨vs,H,I,r,q⟩=>⟨I.kIn,?_⟩) he hpl;have hq:=q (s.heap.objs.size+1) s.heap.objs.size (I.hok.fresh (Rx _)) (I.hok.fresh (Fe _)) (FF (R5 _));have I2:=Inv.made (C:=C) I;have r2:Ax (V.ref (s.heap.objs.size+1)::vs) (Value.ref (s.heap.objs.size+1)::us):= .cons rfl r
 have hl:(Value.ref (s.heap.objs.size+1)::us).length=ps.length:=by
  rw [← r2.length];exact F.len _ _ _ _ hq
 have hb':=fun s' (h':X.K.In s'.heap)=>hb s' (Value.ref (s.heap.objs.size+1)::us) h' (by simpa using hl);have hr':Cv (j+1) X.A:=hr.mono hj
 refine wpAny_call (Q3 (f:=f) I.kIn M.makes M.init (HJ.mp M.fn) (Rg (F.run _ X.stack _ _ ⟨Value.ref (s.heap.objs.size+1)::us,[]⟩ (Value.ref (s.heap.objs.size+1)::us) _ _ (EE σ) (hr'.make C us [])
  (I2.env0.make C us []) (by have:=hb' _ I2.kIn;rw [FX]at this;exact this) r2 hq) fun r s' hq'=>?_))
 cases r with
 | error e=>exact hx pins σ _ _ e s' I2 hq'
 | ok fl=>
  cases fl with
  | ret u=>
   obtain ⟨v,H',I3,rv,ev,q3⟩:=I2.after hq';subst ev;exact ⟨rv,⟨V.ref (s.heap.objs.size+1),H',I3,rfl,q3⟩⟩
  | next=>exact False.elim hq'
  | brk=>exact False.elim hq'
  | cont=>exact False.elim hq'
end
section
variable {σ:St} {H:Hp} {Q:VK} {D:Ig} {K:PySem.W.Frag}
theorem Qr{C:Addr}{m:Str}{sp:Sp}{EE:St→XK}{ta:TE}{t:TA}:Tt C m sp EE ta t σ H Q=ta σ H fun x H1=>∃a dx fs,x= .ref a∧H1 a=some (.ins C dx fs)∧fs.lookup m=none∧t σ H1 fun vs H2=>sp (x::vs) H2 Q (EE σ):=rfl
theorem Qs{C:Addr}{sp:Sp}{EE:St→XK}{t:TA}:Tu C sp EE t σ H Q=t σ H fun vs H1=>∀x dx,H1 x=none→H1 dx=none→dx≠x→sp (.ref x::vs) (upd (upd H1 dx (.own x)) x (.ins C dx [])) (fun v H2=>v= .non∧Q (.ref x) H2) (EE σ):=rfl
theorem J10{ta:TE}{f:Str}:J6t K ta f σ H Q=ta σ H fun x H1=>∃a C dx fs v,x= .ref a∧H1 a=some (.ins C dx fs)∧Cls K C∧B7 K C f∧fs.lookup f=some v∧Q v H1:=rfl
theorem Vh{ta tv:TE}{f:Str}:J6u K ta tv f D σ H=tv σ H fun y H1=>ta σ H1 fun x H2=>∃a C dx fs,x= .ref a∧H2 a=some (.ins C dx fs)∧Cls K C∧B7 K C f∧fs.length < 1000∧D.nx σ (upd H2 a (.ins C dx (Aj f y fs))):=rfl
theorem J11{ty td:TE}:J79 ty td σ H Q=ty σ H fun y H1=>td σ H1 fun x H2=>∃a o,x= .ref a∧Cw H2 a y o∧Q (.bl o.isSome) H2:=rfl
theorem O7{ty td:TE}:Um ty td σ H Q=ty σ H fun y H1=>td σ H1 fun x H2=>∃a o,x= .ref a∧Cw H2 a y o∧Q (.bl (!o.isSome)) H2:=rfl
theorem Ma{td ty:TE}:J49 td ty σ H Q=td σ H fun x H1=>ty σ H1 fun y H2=>∃a v,x= .ref a∧Cw H2 a y (some v)∧Q v H2:=rfl
theorem Vi{td ty tv:TE}:J4a td ty tv D σ H=tv σ H fun v H1=>td σ H1 fun x H2=>ty σ H2 fun y H3=>∃a H4,x= .ref a∧Kl H3 a y v H4∧D.nx σ H4:=rfl
theorem Vj{n:Nat}{t:TGs}{v:V}{N:St→Hp→Prop}:J2m K n t v σ H N=∃a xs,v= .ref a∧SqT K H a xs∧xs.length=n∧t xs σ H N:=rfl
end
theorem J5q{a b:Str}{n:Nat}(h1:a.length≤n / 2)(h2:b.length≤n / 2):(a++b).length≤n:=by
 rw [Cm];omega
end L2
namespace L2
open Sem (wp)
section
variable {Pg:Program} {w:World} {A:Around} {E:Value→Shared→Prop} {h:Heap} {g:Array GenState} {d:Drawn} {t:Nat} {os:OsState}
variable {nm q:Str} {C N:Addr} {bs bm bmB:List Value} {hd:Bool} {sn:List Str} {su:List Value} {ab:Bool} {co:Option Bool} {dd:Option Addr} {k0 k1 k2 k3 k5:Option Value} {B nw ni:String}
abbrev J38(h:Heap)(C:Addr):Obj:={cls:= .ref C,data:= .fields #[.ref h.objs.size,.none,.none,.none,.bool false,.none]}
abbrev J39(h:Heap)(C:Addr)(rest:List Value):Heap:=(h.push {cls:= .type "tuple",data:= .seq rest.toArray}).push (J38 h C)
theorem J12{rest:List Value}:∀b o,h.get? b=some o→(J39 h C rest).get? b=some o:=fun _ _ e=>Fm _ (Fm _ e)
end
end L2
namespace L2
theorem J7p{P:Program}{w:World}{k:Key}{u:Value}(h:(Ba P w).is k u=true):Aw (kV k) u:=by
 cases k with
 | inl i=>
  cases u <;> first | (exact absurd h (by intro z;cases z)) | skip
  rename_i j t
  have e:j=i:=by simpa [Ba,Lh,Value.isInt] using h
  exact ⟨t,by rw [e]⟩
 | inr x=>
  cases u <;> first | (exact absurd h (by intro z;cases z)) | skip
  rename_i j t
  have e:j=x:=by simpa [Ba,Lh,Value.isStrOf] using h
  exact ⟨t,by rw [e]⟩
theorem Qt:∀{xs:List V} {us:List Value},Ax xs us→∀{i:Nat} {u:Value},us[i]?=some u→∃x,xs[i]?=some x∧Aw x u
 | _,_,.cons r t,0,u,e=>by cases e;exact ⟨_,rfl,r⟩
 | _,_,.cons r t,i+1,u,e=>Qt t (i:=i) e
theorem Vk:∀{xs:List V} {us:List Value},xs.length=us.length→(∀(j:Nat) (u:Value),us[j]?=some u→∃x,xs[j]?=some x∧Aw x u)→Ax xs us
 | [],[],_,_=> .nil
 | x::xs,u::us,hl,h=>by
  obtain ⟨y,e,r⟩:=h 0 u rfl;cases e;exact .cons r (Vk (by simpa using hl) fun j v e=>h (j+1) v e)
theorem Mx{α β:Type}{F:α→β→Prop}:∀{l:List α} {m:List β},Paired F l m→∀{i:Nat} {b:β},m[i]?=some b→∃a,l[i]?=some a∧F a b
 | _,_,.cons r t,0,b,e=>by cases e;exact ⟨_,rfl,r⟩
 | _,_,.cons r t,i+1,b,e=>Mx t (i:=i) e
theorem O8{α β:Type}(f:α→β):∀(l:List α) (i:Nat),(l.map f).eraseIdx i=(l.eraseIdx i).map f
 | [],_=>rfl
 | _::_,0=>rfl
 | a::l,i+1=>by rw [List.map_cons,HY,HY,List.map_cons,O8 f l i]
theorem Qu(z:Str):∀l:List Str,l.eraseIdx (l.idxOf z)=l.erase z
 | []=>rfl
 | a::l=>by
  by_cases h:a=z
  · subst h;simp
  · have e:(a::l).idxOf z=l.idxOf z+1:=by rw [List.idxOf_cons,show (a==z)=false from beq_false_of_ne h];rfl
    rw [e,HY,Qu z l,List.erase_cons_tail (by simpa using h)]
def Vl(v d:Addr):HO:= .ext fun h=>h.IsValuesView v d
def J13:List V→Hp→VK→Prop:=fun xs H Q=>∃a kvs,xs=[.ref a]∧H a=some (.dK kvs)∧∀l,H l=none→Q (.ref l) (upd H l (.lst (kvs.map fun p=>kV p.1)))
def J3a:V→List V→Hp→VK→Prop:=fun x vs H Q=>∃a kvs,x= .ref a∧vs=[]∧H a=some (.dK kvs)∧∀v,H v=none→Q (.ref v) (upd H v (Vl v a))
def J7q:List V→Hp→VK→Prop:=fun xs H Q=>∃(v d:Addr) (kvs:List (Key×V)) (is:List Int),xs=[.ref v]∧H v=some (Vl v d)∧H d=some (.dK kvs)∧kvs.map (·.2)=is.map V.int∧Q (.int is.sum) H
def Vm:V→List V→Hp→VK→Prop:=fun x vs H Q=>∃(l:Addr) (ys:List Str) (z:Str),x= .ref l∧vs=[.str z]∧H l=some (.lst (ys.map V.str))∧z∈ys∧Q .non (upd H l (.lst ((ys.erase z).map V.str)))
section
variable {X:Cx}
theorem Tv(hc:X.calm=true):El X (.type "list") J13:=by
 intro pins s σ H xs us Q I r h;obtain ⟨a,kvs,rfl,ha,q⟩:=h;obtain ⟨u,rfl,rx⟩:=Ic r;cases rx;obtain ⟨z,lo,ws,rel,ob,es,ep,e1,e2⟩:=I.hok a _ ha
 have dat:s.heap.DictAt (Ba X.prog X.w) a ws ep:=⟨ob,es,e1,e2⟩
 refine PySem.W.kdl_call (PySem.W.kdl_dict (knd:=Ba X.prog X.w) (kvs:=ws) (ep:=ep) lo) (I.ok.hd hc) dat (by rw [← rel.length];exact z) fun h' tk acc c' kp e hi=>?_
 have hv:Ax (kvs.map fun p=>kV p.1) acc.toList:=by
  have h1:=hi.1;have h2:=rel.length;refine Vk (by rw [Fa];exact h2.trans (h1.symm.trans (FG (xs:=acc)).symm)) fun j u ej=>?_;obtain ⟨k,x,ek,hk⟩:=hi.2 j u (by rw [← Array.getElem?_toList];exact ej);obtain ⟨p,ep',hp⟩:=Mx rel ek;exact ⟨kV p.1,by rw [Fi,ep'];rfl,by rw [hp.1];exact J7p hk⟩
 refine ⟨.ref s.heap.objs.size,_,I.laid (t':=tk) kp (Fe _) (show Bv X.prog X.w _ h' _ (.lst (kvs.map fun p=>kV p.1)) from ⟨by rw [Fa];exact z,acc.toList,c',hv,?_⟩),rfl,q _ I.fresh⟩;rw [Array.toArray_toList];exact e
theorem O9:MtM X "list.remove" Vm:=by
 intro pins s σ H x vs v us Q I rx rv h;obtain ⟨l,ys,z,rfl,rfl,hH,hz,q⟩:=h;cases rx;obtain ⟨u,rfl,ru⟩:=rv.one;obtain ⟨t,rfl⟩:=ru;obtain ⟨hs,its,n,r,hl,e⟩:=I.lstM hH;have hj:ys.idxOf z < ys.length:=List.idxOf_lt_length_iff.mpr hz
 have at_:∀(m:Nat) (u:Value),its[m]?=some u→∃y t,ys[m]?=some y∧u= .str y t:=fun m u em=>by
  obtain ⟨x,ex,rx⟩:=Qt r em;rw [Fi]at ex
  cases hy:ys[m]? with
  | none=>rw [hy]at ex;cases ex
  | some y=>
   rw [hy]at ex;cases ex;obtain ⟨t,e⟩:=rx;exact ⟨y,t,rfl,e⟩
 have ev:∀y,y∈its.toArray→MeetsSeq.EqGives y (.str z t) (PyProof.Rows.isStrOf z y):=fun y hy=>by
  obtain ⟨m,hm⟩:=FP.mp (by simpa using hy)
  obtain ⟨y',t',_,rfl⟩:=at_ m y hm
  exact eqGives_str y' z t' t
 have hit:∀(m:Nat) (hm:m < its.toArray.size),∃y t,ys[m]?=some y∧its.toArray[m]= .str y t:=fun m hm=>at_ m _ (by simp)
 refine HS F.slot_list_remove ⟨_,e,rfl⟩ F.entry_list_remove (F.args_list_remove_2 _ _) (MeetsSeq.list_remove l its.toArray n (.str z t) (isStrOf z) ev (ys.idxOf z) (by rw [Fn,← hl,Fa];exact hj) ?_ ?_ (by rw [Fn];omega)) ⟨e,?_⟩
 · obtain ⟨y,t',h1,h2⟩:=hit (ys.idxOf z) (by rw [Fn,← hl,Fa];exact hj)
   rw [h2]
   have e3:ys[ys.idxOf z]?=some z:=by rw [Fb hj,List.getElem_idxOf hj]
   rw [e3]at h1;cases h1;simp [isStrOf]
 · intro m hm hlt
   obtain ⟨y,t',h1,h2⟩:=hit m hm;rw [h2];have e3:(ys[m]'(by omega)==z)=false:=List.not_of_lt_findIdx hlt;rw [Fb (by omega)]at h1;cases h1;exact e3
 · refine ⟨.non,_,I.lset (its':=its.eraseIdx (ys.idxOf z)) hH e ?_ (ys:=(ys.erase z).map V.str) ?_ ?_,rfl,q⟩
   · rw [List.eraseIdxIfInBounds_toArray]
   · have:=r.eraseIdx (ys.idxOf z)
     have e5:(ys.map V.str).eraseIdx (ys.idxOf z)=(ys.erase z).map V.str:=by
      rw [O8,Qu]
     rw [e5]at this;exact this
   · have:=Ry (a:=z) (l:=ys)
     rw [Fa]at hs ⊢;omega
end
section
variable {σ:St} {H:Hp} {Q:VK} {xs:List V} {x y:V}
theorem Qv{td ty:TE}:Yr td ty σ H Q=td σ H fun x H1=>∃a,x= .ref a∧IsD H1 a∧ty σ H1 fun y H2=>∃kvs k v,H2 a=some (.dK kvs)∧y=kV k∧B1 kvs k=some v∧Q v (upd H2 a (.dK (Bf kvs k))):=rfl
theorem Qw{td ty tx:TE}:Yq td ty tx σ H Q=td σ H fun x H1=>∃a,x= .ref a∧IsD H1 a∧ty σ H1 fun y H2=>tx σ H2 fun z H3=>∃o,Cw H3 a y o∧Q (o.getD z) H3:=rfl
theorem Qx:J13 xs H Q=∃a kvs,xs=[.ref a]∧H a=some (.dK kvs)∧∀l,H l=none→Q (.ref l) (upd H l (.lst (kvs.map fun p=>kV p.1))):=rfl
theorem Oa:J3a x xs H Q=∃a kvs,x= .ref a∧xs=[]∧H a=some (.dK kvs)∧∀v,H v=none→Q (.ref v) (upd H v (Vl v a)):=rfl
theorem Vn:J7q xs H Q=∃(v d:Addr) (kvs:List (Key×V)) (is:List Int),xs=[.ref v]∧H v=some (Vl v d)∧H d=some (.dK kvs)∧kvs.map (·.2)=is.map V.int∧Q (.int is.sum) H:=rfl
theorem Ob:Vm x xs H Q=∃(l:Addr) (ys:List Str) (z:Str),x= .ref l∧xs=[.str z]∧H l=some (.lst (ys.map V.str))∧z∈ys∧Q .non (upd H l (.lst ((ys.erase z).map V.str))):=rfl
end
end L2
namespace N1
open PySem L2
def Bh:List Nat:=List.range' 97 26
def Bd:List Nat:=List.range' 48 10
theorem Qy:(Str.ofString "abcdefghijklmnopqrstuvwxyz").cps.toList=Bh:=by decide+kernel
theorem Qz:(Str.ofString "0123456789").cps.toList=Bd:=by decide+kernel
theorem Xa:(Str.ofString "abcdefghijklmnopqrstuvwxyz0123456789").cps.toList=Bh++Bd:=by decide+kernel
theorem S0:(Bh++Bd).length=36:=by decide
theorem Vo{c:Nat}:c∈Bd↔48≤c∧c < 58:=by unfold Bd;rw [RJ]
def Le(l:List Nat)(s:List Nat):Bool:=match l with
 | []=>false
 | c::_=>decide (c∈s)
def Br(l:List Nat):Bool:=decide (1≤l.length) && decide (l.length≤8) && Le l Bh && l.all fun c=>decide (c∈Bh++Bd)
end N1
namespace N1
open PySem L2
def S3(l:List Nat):Bool:=decide (1≤l.length) && decide (l.length≤31) && l.all (fun c=>decide (c∈Bd)) && !(Le l [48] && !decide (l=[48]))
def Xb(l:List Nat):Int:=((NumText.digitsVal l:Nat):Int)
theorem Vp{l:List Nat}:(l.all fun c=>decide (c∈Bd))=true↔NumText.AllDigits l:=by
 rw [Hg];constructor
 · intro h c hc
   have:=h c hc;rw [decide_eq_true_eq,Vo]at this;omega
 · intro h c hc
   have:=h c hc;rw [decide_eq_true_eq,Vo];omega
theorem J3b{c:Nat}:((⟨#[c]⟩:Str)=Str.ofString "0")↔c=48:=by
 have e:Str.ofString "0"=⟨#[48]⟩:=by decide+kernel
 rw [e];simp
theorem J14{z:Str}:(z=Str.ofString "0")↔z.cps.toList=[48]:=by
 have e:Str.ofString "0"=⟨#[48]⟩:=by decide+kernel
 rw [e];constructor
 · intro h;rw [h]
 · intro h
   have:z.cps=#[48]:=by rw [← Array.toList_inj];exact h
   cases z;simp at this;subst this;rfl
theorem J15{z:Str}(h:(z.cps.toList.all fun c=>decide (c∈Bd))=true)(h1:z.cps.toList≠[])(h2:z.length≤4300):PySem.intText? z=some (Xb z.cps.toList):=PySem.intText_digits (Vp.mp h) h1 h2
end N1
namespace N1
open PySem L2
def tx(l:List Nat):Str:=⟨l.toArray⟩
theorem Ik{l:List Nat}:(tx l).cps.toList=l:=by simp [tx]
theorem J8n{z:Str}:tx z.cps.toList=z:=by cases z;simp [tx]
theorem J4o{a b:List Nat}(h:tx a=tx b):a=b:=by rw [← Ik (l:=a),h,Ik]
theorem Vq{a b:List Nat}:tx a++tx b=tx (a++b):=by
 have h:=E3 (a:=tx a) (b:=tx b);rw [Ik,Ik]at h;rw [← J8n (z:=tx a++tx b),h]
theorem S5{l:List Nat}:(tx l).length=l.length:=by rw [← Dh,Ik]
theorem J7r{c:Nat}:(⟨#[c]⟩:Str)=tx [c]:=rfl
theorem S7:(Str.ofString "abcdefghijklmnopqrstuvwxyz0123456789").length=36:=by decide+kernel
def bc(i:Int):Nat:=(Bh++Bd).getD i.toNat 0
theorem Vr(i:Int){k:Int}(h0:0 < k)(h1:k≤36):atI (Str.ofString "abcdefghijklmnopqrstuvwxyz0123456789").cps.toList (i % k)=some (bc (i % k)):=by
 have h2:=Hh i h0;have h3:=Hm i (show k≠0 by omega);refine To h3 ?_
 have h4:(i % k).toNat < (Bh++Bd).length:=by rw [S0];omega
 unfold bc;rw [Xa,Fk,Fb h4];rfl
theorem J16{n:Nat}:ixN (n+1) (-1)=some n:=by
 unfold ixN;rw [if_neg (by decide),if_pos (by omega)];congr 1;omega
theorem J3c{α:Type}{xs:List α}{x:α}:atI (xs++[x]) (-1)=some x:=by
 unfold atI;rw [Ff,Rv,J16];simp
end N1
namespace N1
open L2
def Mb(K:PySem.W.Frag):Sp:=fun vs H Q _=>∃(a:Addr) (ns:List Int) (k:Int),vs=[.ref a,.int k]∧SqL K H a (ns.map V.int)∧0≤k∧ns.length≤63∧Q (.int (ns.getD k.toNat 0)) H
def Mc:Sp:=fun vs H Q _=>∃(z w:Str),vs=[.str z,.str w]∧z.length≤sizeLine∧∀H',A9 H H'→Q (.bl (z.cps.toList.all fun c=>decide (c∈w.cps.toList))) H'
def Gj(K:PySem.W.Frag):Sp:=fun vs H Q _=>∃(x:V),vs=[x]∧((∃z:Str,x= .str z∧z.length≤sizeLine∧∀H',A9 H H'→Q (.bl (Br z.cps.toList)) H')∨(Isi K H x "str" false∧Q (.bl false) H))
def My(K:PySem.W.Frag):Sp:=fun vs H Q _=>∃(a:Addr) (ns:List Int),vs=[.ref a]∧SqL K H a (ns.map V.int)∧ns.length≤63∧∀H',Q (.bl true) H'
end N1
namespace N1
open L2
inductive StE where
 | noname | twice | nonum | many
def nOk:V→Bool
 | .str z=>Br z.cps.toList
 | _=>false
def sOf:V→Str
 | .str z=>z
 | _=>Str.empty
def wIn(lo hi:Int):V→Bool
 | .int i=>decide (lo≤i) && decide (i≤hi)
 | _=>false
abbrev Rw:=Addr×V×V×V
def S8(ks:List Str)(n c r:V):Option StE:=if nOk n=false then some .noname else if sOf n∈ks then some .twice else if wIn 0 (10 ^ 30) c=false then some .nonum else if wIn 1 1000 r=false then some .nonum else none
def Il(ks:List Str):List Rw→Option StE
 | []=>none
 | t::rs=>match S8 ks t.2.1 t.2.2.1 t.2.2.2 with
  | some e=>some e
  | none=>Il (ks++[sOf t.2.1]) rs
def Oc(rs:List Rw):Option StE:=if 60 < rs.length then some .many else Il [] rs
theorem J3d{K:PySem.W.Frag}{H:Hp}{v:V}(h:Cz v=true):∃b c,Isi K H v "int" b∧(b=true→Isi K H v "bool" c)∧((b && !c)=true→∃i,v= .int i)∧((b && !c)=false→∀i,v≠ .int i):=by
 cases v with
 | non=>exact ⟨false,false,Yz,fun h=>by (cases h),fun h=>by (cases h),fun _ i h=>by cases h⟩
 | bl b=>exact ⟨true,true,Yx,fun _=>Yw,fun h=>by (cases h),fun _ i h=>by cases h⟩
 | int i=>exact ⟨true,false,Yu,fun _=>Yv,fun _=>⟨i,rfl⟩,fun h=>by cases h⟩
 | str z=>exact ⟨false,false,Yy,fun h=>by (cases h),fun h=>by (cases h),fun _ i h=>by cases h⟩
 | _=>cases h
def G0(K:PySem.W.Frag):Sp:=fun vs H Q _=>∃(x:V) (b c:Bool),vs=[x]∧Isi K H x "int" b∧(b=true→Isi K H x "bool" c)∧Q (.bl (b && !c)) H
def Iw(K:PySem.W.Frag):Sp:=fun vs H Q _=>∃(v:V) (lo hi:Int),vs=[v,.int lo,.int hi]∧Cz v=true∧Q (.bl (wIn lo hi v)) H
def SameBut(p:Addr)(H H':Hp):Prop:=∀b o,H b=some o→b≠p→H' b=some o
theorem SameBut.trans{p:Addr}{H H1 H2:Hp}(h1:SameBut p H H1)(h2:SameBut p H1 H2):SameBut p H H2:=fun b o e n=>h2 b o (h1 b o e n) n
theorem SameBut.of{p:Addr}{H H1:Hp}(h:A9 H H1):SameBut p H H1:=fun b o e _=>h b o e
theorem Im{p:Addr}{H:Hp}{o:HO}:SameBut p H (upd H p o):=fun b u e n=>by rw [A4 n];exact e
abbrev Th:=Str×Int×Int
def flds(d:Addr):List (Str×V):=Aj "things" (.ref d) []
structure Au(K:PySem.W.Frag)(C:Addr)(H:Hp)(p:Addr)(ts:List Th):Prop where
 ex:∃(dx d:Addr) (kvs:List (Key×V)),H p=some (.ins C dx (flds d))∧H d=some (.dK kvs)∧kvs.map (·.1)=ts.map (fun t=>Sum.inr t.1)∧
  ∀(i:Nat) (t:Th),ts[i]?=some t→∃a,kvs[i]?=some (Sum.inr t.1,.ref a)∧SqT K H a [.int i,.int t.2.1,.int t.2.2]
theorem Au.same{K:PySem.W.Frag}{C:Addr}{H H':Hp}{p:Addr}{ts:List Th}(s:A9 H H')(h:Au K C H p ts):Au K C H' p ts:=by
 obtain ⟨dx,d,kvs,h1,h2,h3,h4⟩:=h.ex;refine ⟨dx,d,kvs,s _ _ h1,s _ _ h2,h3,fun i t e=>?_⟩;obtain ⟨a,e1,e2⟩:=h4 i t e;exact ⟨a,e1,s.tup e2⟩
def iOf:V→Int
 | .int i=>i
 | _=>0
def J17(t:Rw):Th:=(sOf t.2.1,iOf t.2.2.1,iOf t.2.2.2)
theorem SqT.but{K:PySem.W.Frag}{H H':Hp}{p a C dx:Addr}{fs:List (Str×V)}{xs:List V}(s:SameBut p H H')(hp:H p=some (.ins C dx fs))(h:SqT K H a xs):SqT K H' a xs:=by
 rcases h with (h | ⟨o,h⟩) | h
 · exact .inl (.inl (s _ _ h (Bp h hp (by intro z;cases z))))
 · exact .inl (.inr ⟨o,s _ _ h (Bp h hp (by intro z;cases z))⟩)
 · exact .inr h
theorem SqL.but{K:PySem.W.Frag}{H H':Hp}{p a C dx:Addr}{fs:List (Str×V)}{xs:List V}(s:SameBut p H H')(hp:H p=some (.ins C dx fs))(h:SqL K H a xs):SqL K H' a xs:=by
 rcases h with (h | ⟨o,h⟩) | h
 · exact .inl (.inl (s _ _ h (Bp h hp (by intro z;cases z))))
 · exact .inl (.inr ⟨o,s _ _ h (Bp h hp (by intro z;cases z))⟩)
 · exact .inr h
theorem Pj{kvs:List (Key×V)}{ks:List Str}{z:Str}(h:kvs.map (·.1)=ks.map Sum.inr):(B1 kvs (Sum.inr z)).isSome=decide (z∈ks):=by
 have e:(Sum.inr z:Key)∈kvs.map (·.1)↔z∈ks:=by
  rw [h,FH];constructor
  · rintro ⟨a,ha,e⟩;injection e with e;subst e;exact ha
  · intro h;exact ⟨z,h,rfl⟩
 cases hv:B1 kvs (Sum.inr z:Key) with
 | none=>rw [FE fun q=>Ys hv (e.mpr q)];rfl
 | some v=>rw [FD (e.mp (J2x hv))];rfl
theorem Cq{d:Addr}:(flds d).lookup ("things":Str)=some (V.ref d):=by
 unfold flds;rw [An,if_pos rfl]
theorem Od{ks:List Str}{n co r:V}(h:S8 ks n co r=none):∃z c q,n= .str z∧co= .int c∧r= .int q∧¬z∈ks∧Br z.cps.toList=true∧0≤c∧c≤10 ^ 30∧1≤q∧q≤1000:=by
 unfold S8 at h;split at h
 · cases h
 rename_i h1;split at h
 · cases h
 rename_i h2;split at h
 · cases h
 rename_i h3;split at h
 · cases h
 rename_i h4
 cases n with
 | str z=>
  cases co with
  | int c=>
   cases r with
   | int q=>
    simp only [wIn,Bool.and_eq_false_iff,decide_eq_false_iff_not,not_or,Decidable.not_not]at h3 h4;exact ⟨z,c,q,rfl,rfl,rfl,h2,by simpa [nOk] using h1,h3.1,h3.2,h4.1,h4.2⟩
   | _=>exact absurd rfl h4
  | _=>exact absurd rfl h3
 | _=>exact absurd rfl h1
theorem S9{ks:List Str}{rs:List Rw}{i:Nat}{t:Rw}(h:rs[i]?=some t):Il ks (rs.drop i)=match S8 ks t.2.1 t.2.2.1 t.2.2.2 with
 | some e=>some e
 | none=>Il (ks++[sOf t.2.1]) (rs.drop (i+1)):=by
 have e:rs.drop i=t::rs.drop (i+1):=by
  obtain ⟨hi,rfl⟩:=Fc.mp h;exact List.drop_eq_getElem_cons hi
 rw [e];rfl
def Ie(rs:List Rw):List Str:=rs.map fun t=>sOf t.2.1
structure Vs(K:PySem.W.Frag)(H:Hp)(d:Addr)(rs:List Rw):Prop where
 ex:∃kvs:List (Key×V),H d=some (.dK kvs)∧kvs.map (·.1)=(Ie rs).map Sum.inr∧∀(j:Nat) (t:Rw),rs[j]?=some t→∃a,kvs[j]?=some (Sum.inr (sOf t.2.1),.ref a)∧SqT K H a [.int j,.int (iOf t.2.2.1),.int (iOf t.2.2.2)]
theorem Vs.snoc{K:PySem.W.Frag}{H:Hp}{d a:Addr}{rs:List Rw}{t:Rw}{kvs:List (Key×V)}{c q:Int}{z:Str}(h1:H d=some (.dK kvs))(h2:kvs.map (·.1)=(Ie rs).map Sum.inr)
 (h3:∀(j:Nat) (t:Rw),rs[j]?=some t→∃a,kvs[j]?=some (Sum.inr (sOf t.2.1),.ref a)∧SqT K H a [.int j,.int (iOf t.2.2.1),.int (iOf t.2.2.2)])
 (e1:t.2.1= .str z) (e2:t.2.2.1= .int c) (e3:t.2.2.2= .int q) (nz:¬z∈Ie rs) (ha:H a=some (.tup [.int kvs.length,.int c,.int q])):
 Vs K (upd H d (.dK (B8 kvs (Sum.inr z) (.ref a)))) d (rs++[t]):=by
 have hl:kvs.length=rs.length:=by
  have:=congrArg List.length h2
  simpa [Ie] using this
 have hv:B1 kvs (Sum.inr z:Key)=none:=by
  have:=Pj (z:=z) h2;rw [FE nz]at this
  cases h:B1 kvs (Sum.inr z:Key) with
  | none=>rfl
  | some v=>rw [h]at this;cases this
 have J12:∀{b:Addr} {xs:List V} {o:List (Key×V)},SqT K H b xs→SqT K (upd H d (.dK o)) b xs:=fun {b xs o} h=>by
  rcases h with (h | ⟨o',h⟩) | h
  · exact .inl (.inl (by rw [A4 (Bp h h1 (by intro z;cases z))];exact h))
  · exact .inl (.inr ⟨_,by rw [A4 (Bp h h1 (by intro z;cases z))];exact h⟩)
  · exact .inr h
 refine ⟨_,A3,?_,fun j t' hj=>?_⟩
 · rw [Q8 _ hv,Ft,h2]
   simp [Ie,e1,sOf]
 · rw [Q8 _ hv]
   by_cases hlt:j < rs.length
   · rw [Fu hlt]at hj
     obtain ⟨b,e,hb⟩:=h3 j t' hj;exact ⟨b,by rw [Fu (by omega)];exact e,J12 hb⟩
   · rw [Fy (by omega)]at hj
     have hj0:j - rs.length=0:=by
      have:=(Fc.mp hj).1;simp at this;omega
     rw [hj0]at hj;cases hj
     have ej:j=rs.length:=by omega
     subst ej;refine ⟨a,?_,?_⟩
     · rw [← hl,Fy (by omega)];simp [e1,sOf]
     · rw [e2,e3]
       refine J12 (SqT.of ?_);rw [ha,hl];rfl
end N1
namespace L2
theorem Vt{o i v:V}{H:Hp}{Q:Hp→Prop}:J47 o i v H Q=∃p xs k j,o= .ref p∧i= .int k∧H p=some (.lst xs)∧ixN xs.length k=some j∧Q (upd H p (.lst (xs.set j v))):=rfl
end L2
namespace N5
open L2 N1
def md(j:Nat):Int:=if j=0 then 26 else 36
def sgn(F:Nat→Int)(at':Int)(k j:Nat):Nat:=bc ((F j+if (j:Int)=at' then (k:Int) else 0) % md j)
def nmL(F:Nat→Int)(at':Int)(long k:Nat):List Nat:=(List.range long).map (sgn F at' k)
theorem J18{i:Int}:bc (i % 26)∈Bh:=by
 have h1:=Hm i (show (26:Int)≠0 by decide);have h2:=Hh i (show (0:Int) < 26 by decide);unfold bc;generalize i % 26=x at *
 have h3:x.toNat < Bh.length:=by simp [Bh];omega
 rw [Fk,Fu h3,Fb h3];exact Rl h3
theorem J3e{i:Int}:bc (i % 36)∈Bh++Bd:=by
 have h1:=Hm i (show (36:Int)≠0 by decide);have h2:=Hh i (show (0:Int) < 36 by decide);unfold bc;generalize i % 36=x at *
 have h3:x.toNat < (Bh++Bd).length:=by rw [S0];omega
 rw [Fk,Fb h3];exact Rl h3
theorem Pk{x y:Int}(hx0:0≤x)(hx:x < 36)(hy0:0≤y)(hy:y < 36)(h:bc x=bc y):x=y:=by
 have key:∀a:Fin 36,∀b:Fin 36,(Bh++Bd).getD a.val 0=(Bh++Bd).getD b.val 0→a=b:=by decide+kernel
 have:=key ⟨x.toNat,by omega⟩ ⟨y.toNat,by omega⟩ h;have:=congrArg Fin.val this;simp at this;omega
theorem Sa{F:Nat→Int}{at':Int}{long k:Nat}(h1:1≤long)(h2:long≤8):Br (nmL F at' long k)=true:=by
 obtain ⟨n,rfl⟩:∃n,long=n+1:=⟨long - 1,by omega⟩
 have hall:∀c∈nmL F at' (n+1) k,c∈Bh++Bd:=by
  intro c hc;obtain ⟨j,_,rfl⟩:=FH.mp hc
  have hm:md j=26∨md j=36:=by unfold md;split <;> simp
  unfold sgn
  rcases hm with hm | hm <;> rw [hm]
  · exact FJ _ J18
  · exact J3e
 have hl:(nmL F at' (n+1) k).length=n+1:=by simp [nmL]
 have hh:Le (nmL F at' (n+1) k) Bh=true:=by
  unfold nmL;rw [List.range_succ_eq_map,List.map_cons];show decide (sgn F at' k 0∈Bh)=true;rw [decide_eq_true_eq];unfold sgn md;rw [if_pos rfl];exact J18
 unfold Br;rw [hl,hh,FD h1,FD h2];simp only [Bool.true_and];exact Hg.mpr fun c hc=>FD (hall c hc)
theorem J3f{F:Nat→Int}{at':Int}{long k k':Nat}(h0:0≤at')(h1:at' < long)(hk:k < 26)(hk':k' < 26)(h:nmL F at' long k=nmL F at' long k'):k=k':=by
 have hl:at'.toNat < long:=by omega
 have e:=congrArg (fun l=>l[at'.toNat]?) h;simp only [nmL,Fi,Rf hl,Hq,Option.some.injEq]at e;unfold sgn at e;rw [if_pos (by omega),if_pos (by omega)]at e
 have hm:md at'.toNat=26∨md at'.toNat=36:=by unfold md;split <;> simp
 rcases hm with hm | hm <;> rw [hm]at e
 · have:=Pk (by omega) (by omega) (by omega) (by omega) e
   omega
 · have:=Pk (by omega) (by omega) (by omega) (by omega) e
   omega
def nms(F:Nat→Int)(at':Int)(long m:Nat):List Str:=(List.range m).map fun k=>tx (nmL F at' long k)
theorem Xc{F:Nat→Int}{at':Int}{long m:Nat}(h0:0≤at')(h1:at' < long)(hm:m≤26):(nms F at' long m).Nodup:=by
 unfold nms List.Nodup;rw [RI];refine List.Pairwise.imp_of_mem (R:=fun a b=>a≠b) ?_ List.nodup_range;intro a b ha hb ne e;have ha:=Hz.mp ha;have hb:=Hz.mp hb;exact ne (J3f h0 h1 (by omega) (by omega) (J4o e))
theorem ne1:Str.ofString "no name"≠Str.ofString "nothing":=by decide+kernel
theorem G8{H H':Hp}{x dx C:Addr}(hx:H x=none)(hd:H dx=none)(s:SameBut x (upd (upd H dx (.own x)) x (.ins C dx [])) H'):A9 H H':=fun b o e=>by
 have n1:=A6 e hx;have n2:=A6 e hd;exact s b o (by rw [A4 n1,A4 n2];exact e) n1
theorem J19{z:Str}(h:Br z.cps.toList=true):z.length≤8:=by
 unfold Br at h;simp only [Hi,decide_eq_true_eq]at h;have:=h.1.1.2;rw [Dh]at this;exact this
end N5
namespace N4
open L2 N1 N5
def Iy(K:PySem.W.Frag):Sp:=fun vs H Q _=>∃(n co r:V) (e:Addr) (kvs:List (Key×V)) (ks:List Str),vs=[n,co,r,.ref e]∧H e=some (.dK kvs)∧kvs.map (·.1)=ks.map Sum.inr∧S8 ks n co r=none∧∀H',A9 H H'→Q .non H'
def Sb(K:PySem.W.Frag)(C:Addr):Sp:=fun vs H Q _=>∃(p dx ra:Addr) (rs:List Rw),vs=[.ref p,.ref ra]∧H p=some (.ins C dx [])∧SqL K H ra (rs.map fun t=>V.ref t.1)∧(∀t∈rs,SqT K H t.1 [t.2.1,t.2.2.1,t.2.2.2])∧Oc rs=none∧
 ∀H',SameBut p H H'→Au K C H' p (rs.map J17)→Q .non H'
theorem Tx{rs:List Rw}(h:Oc rs=none):rs.length≤60∧Il [] rs=none:=by
 unfold Oc at h;split at h
 · cases h
 · exact ⟨by omega,h⟩
theorem Mz{lo hi c:Int}(h1:lo≤c)(h2:c≤hi):wIn lo hi (.int c)=true:=by
 show (decide (lo≤c) && decide (c≤hi))=true;rw [FD h1,FD h2];rfl
theorem Oe:∀(rs:List Rw) (ks:List Str),(∀t∈rs,∃z c q,t.2.1= .str z∧t.2.2.1= .int c∧t.2.2.2= .int q∧Br z.cps.toList=true∧0≤c∧c≤10 ^ 30∧1≤q∧q≤1000)→(ks++rs.map fun t=>sOf t.2.1).Nodup→Il ks rs=none
 | [],_,_,_=>rfl
 | t::rs,ks,h,nd=>by
  obtain ⟨z,c,q,e1,e2,e3,hn,h1,h2,h3,h4⟩:=h t (Fj ..)
  have hz:¬z∈ks:=fun hz=>by
   rw [List.map_cons,Hl]at nd;exact nd.2.2 z hz (sOf t.2.1) (Fj ..) (by rw [e1];rfl)
  have r0:S8 ks t.2.1 t.2.2.1 t.2.2.2=none:=by
   unfold S8;rw [e1,e2,e3];rw [if_neg (by show ¬Br z.cps.toList=false;rw [hn];decide),if_neg (show ¬sOf (.str z)∈ks from hz),if_neg (by rw [Mz h1 h2];decide),if_neg (by rw [Mz h3 h4];decide)]
  unfold Il;rw [r0];refine Oe rs _ (fun t' ht=>h t' (Fd _ ht)) ?_;rw [HI];exact nd
theorem J1a{kvs:List (Key×V)}{i:Nat}{k:Key}{v:V}(nd:(kvs.map (·.1)).Nodup)(e:kvs[i]?=some (k,v)):B1 kvs k=some v:=by
 induction kvs generalizing i with
 | nil=>rw [List.getElem?_nil]at e;cases e
 | cons p r ih=>
  cases i with
  | zero=>cases e;exact Bw rfl
  | succ i=>
   rw [List.map_cons,Hr]at nd;have hm:(k,v)∈r:=Fo e;rw [Bl (fun z=>nd.1 (by rw [z];exact List.mem_map_of_mem (f:=(·.1)) hm))];exact ih nd.2 e
theorem Xd{ks:List Str}(h:ks.Nodup):(ks.map (Sum.inr:Str→Key)).Nodup:=by
 unfold List.Nodup at *;rw [RI];exact h.imp fun n e=>n (by injection e)
section
variable {K:PySem.W.Frag} {C:Addr} {H H':Hp} {p:Addr} {ts:List Th} {z:Str}
theorem Au.has(h:Au K C H p ts):∃dx d kvs,H p=some (.ins C dx (flds d))∧H d=some (.dK kvs)∧(kvs.map fun q=>kV q.1)=ts.map (fun t=>V.str t.1)∧(∀z,(B1 kvs (Sum.inr z)).isSome=decide (z∈ts.map (·.1)))∧
 ((ts.map (·.1)).Nodup→∀(i:Nat) (t:Th),ts[i]?=some t→∃a,B1 kvs (Sum.inr t.1)=some (.ref a)∧SqT K H a [.int i,.int t.2.1,.int t.2.2]):=by
 obtain ⟨dx,d,kvs,h1,h2,h3,h4⟩:=h.ex
 have h3':kvs.map (·.1)=(ts.map (·.1)).map Sum.inr:=by rw [h3,FL];rfl
 refine ⟨dx,d,kvs,h1,h2,?_,fun z=>Pj h3',fun nd i t e=>?_⟩
 · have:=congrArg (List.map kV) h3
   rw [FL,FL]at this;exact this
 · obtain ⟨a,e1,e2⟩:=h4 i t e
   exact ⟨a,J1a (by rw [h3'];exact Xd nd) e1,e2⟩
end
def pick(w:Nat)(i:Nat)(t:Th):Int:=if w=0 then i else if w=1 then t.2.1 else t.2.2
def Pl(K:PySem.W.Frag)(C:Addr):Sp:=fun vs H Q _=>∃(p:Addr) (ts:List Th),vs=[.ref p]∧Au K C H p ts∧∀l,H l=none→Q (.ref l) (upd H l (.lst ((ts.map (·.1)).map V.str)))
theorem J3g{ts:List Th}{z:Str}(h:z∈ts.map (·.1)):∃(i:Nat) (t:Th),ts[i]?=some t∧t.1=z:=by
 obtain ⟨t,ht,e⟩:=FH.mp h;obtain ⟨i,hi⟩:=FP.mp ht;exact ⟨i,t,hi,e⟩
end N4
namespace N4
open L2 N1 N5
theorem J5r{j:Nat}:md j=26∨md j=36:=by unfold md;split <;> simp
theorem J5s{x y:Int}{j:Nat}(h:bc (x % md j)=bc (y % md j)):x % md j=y % md j:=by
 rcases J5r (j:=j) with hm | hm <;> rw [hm]at h ⊢
 · exact Pk (by omega) (by omega) (by omega) (by omega) h
 · exact Pk (by omega) (by omega) (by omega) (by omega) h
structure Tz(K:PySem.W.Frag)(H:Hp)(r:Addr)(as:List Addr)(ts:List Th):Prop where
 l:SqL K H r (as.map V.ref)
 n:as.length=ts.length
 m:ts.length≤60
 at_:∀(i:Nat) (a:Addr) (t:Th),as[i]?=some a→ts[i]?=some t→SqT K H a [.str t.1,.int t.2.1,.int t.2.2]
 ok:∀t∈ts,Br t.1.cps.toList=true∧0≤t.2.1∧t.2.1≤10 ^ 30∧1≤t.2.2∧t.2.2≤1000
 nd:(ts.map (·.1)).Nodup
def J1b(a:Addr)(t:Th):Rw:=(a,.str t.1,.int t.2.1,.int t.2.2)
theorem Tz.init{K:PySem.W.Frag}{H:Hp}{r:Addr}{as:List Addr}{ts:List Th}(h:Tz K H r as ts):∃rs:List Rw,rs.map (fun t=>V.ref t.1)=as.map V.ref∧(∀t∈rs,SqT K H t.1 [t.2.1,t.2.2.1,t.2.2.2])∧Oc rs=none∧rs.map J17=ts:=by
 have hn:=h.n
 have gt:∀(i:Nat) (x:Addr×Th),(as.zip ts)[i]?=some x→as[i]?=some x.1∧ts[i]?=some x.2:=fun i x e=>by
  rw [List.getElem?_zip_eq_some]at e;exact e
 have e1:((as.zip ts).map fun x=>J1b x.1 x.2).map J17=ts:=by
  rw [FL]
  have:(J17∘fun x:Addr×Th=>J1b x.1 x.2)=Prod.snd:=by funext x;rfl
  rw [this,List.map_snd_zip (by omega)]
 refine ⟨(as.zip ts).map fun x=>J1b x.1 x.2,?_,?_,?_,e1⟩
 · rw [FL]
   have:((fun t:Rw=>V.ref t.1)∘fun x:Addr×Th=>J1b x.1 x.2)=V.ref∘Prod.fst:=by funext x;rfl
   rw [this,← FL,List.map_fst_zip (by omega)]
 · intro t ht
   obtain ⟨x,hx,rfl⟩:=FH.mp ht;obtain ⟨i,hi⟩:=FP.mp hx;obtain ⟨h1,h2⟩:=gt i x hi;exact h.at_ i x.1 x.2 h1 h2
 · unfold Oc
   rw [if_neg (by rw [Fa,List.length_zip];have:=h.m;omega)];refine Oe _ _ (fun t ht=>?_) ?_
   · obtain ⟨x,hx,rfl⟩:=FH.mp ht
     obtain ⟨i,hi⟩:=FP.mp hx;obtain ⟨h1,h2⟩:=gt i x hi;obtain ⟨o1,o2,o3,o4,o5⟩:=h.ok x.2 (Fo h2);exact ⟨x.2.1,x.2.2.1,x.2.2.2,rfl,rfl,rfl,o1,o2,o3,o4,o5⟩
   · rw [List.nil_append,FL]
     have:((fun t:Rw=>sOf t.2.1)∘fun x:Addr×Th=>J1b x.1 x.2)=(fun t:Th=>t.1)∘Prod.snd:=by funext x;rfl
     rw [this,← FL,List.map_snd_zip (by omega)];exact h.nd
end N4
namespace N6
open L2 N1 N5 N4
abbrev Ly:=List (Str×Int)
def Gk:Sp:=fun vs H Q _=>∃n:Int,vs=[.int n]∧1≤n∧n≤1000000∧Q .non H
end N6
namespace N6
open L2 N1 N5 N4
theorem J1c{z:Str}{ys:List Str}:inV (.str z) (ys.map V.str)=decide (z∈ys):=by
 unfold inV
 induction ys with
 | nil=>rfl
 | cons y ys ih=>
  rw [List.map_cons,HP,ih,Ph]
  by_cases h:y=z
  · subst h;simp
  · have h':¬z=y:=fun e=>h e.symm
    simp [h,h']
theorem Of{K:PySem.W.Frag}{H:Hp}{p:Addr}{z:Str}{ys:List Str}{Q:VK}(h:SqL K H p (ys.map V.str))(q:Q (.bl (decide (z∈ys))) H):rIn K false (.str z) (.ref p) H Q:=by
 refine ⟨p,_,rfl,.inl h,rfl,Qp,?_⟩;rw [if_neg (by decide),J1c];exact q
theorem G9{ys:List Str}{i:Nat}(h:i < ys.length):ys[i]?=some (ys.getD i Str.empty):=by
 rw [Fk,Fb h];rfl
theorem Ep{rs:List Int}{i:Nat}(h:i < rs.length):rs[i]?=some (rs.getD i 0):=by
 rw [Fk,Fb h];rfl
end N6
namespace L2
theorem Inv.turned2{X:Cx}{pins:List (Addr×Obj)}{σ:St}{H:Hp}{s:Shared}{h':Heap}{t':Nat}{fp:List Addr}(I:Inv X pins σ H s)(k:∀b o,b∉fp→s.heap.get? b=some o→h'.get? b=some o)(hf:∀it∈fp,Kb X pins H it):
 Inv X pins σ H {s with heap:=h',toks:=t'}:=by
 have nit:∀b u,H b=some u→b∉fp:=fun b u e z=>by rw [(hf b z).1]at e;cases e
 refine I.step (g':=s.gens) (d':=s.drawn) (ch:=fp) (fun b hb=>?_) (fun b o _ _ hc e _=>k b o hc e) (fun b o _ _ hc e _=>⟨o.slots,k b o hc e⟩) (fun _ _ _ _ n=>n)
  (fun b o hc e=>⟨o,k b o hc e⟩) (fun _ _ e=>e) (fun _ _ _ e=>e) (fun b ps e=>⟨#[],by rw [e];simp⟩) (fun m hm=>?_) (fun b u e=>?_) I.bare
 · obtain ⟨_,h1,_,h2,h3,h4⟩:=hf b hb
   exact ⟨h2,h1,h3,h4⟩
 · obtain ⟨o,es,ep,ho,r⟩:=hm
   exact ⟨o,es,ep,k _ o (fun z=>(hf _ z).2.1 rfl) ho,r⟩
 · refine (I.hok b u e).stay (fun c v hc q=>k c v ?_ q) (fun _ q=>q) fun _ _ q=>q
   rcases hc with z | z
   · rw [z];exact nit b u e
   · exact nit c _ z
def Ite(K:PySem.W.Frag)(a:Addr):It:=
 ⟨fun i H=>∃xs x,SqL K H a xs∧xs[i]?=some x,fun i H y H'=>∃t x,y= .ref t∧H t=none∧H'=upd H t (.tup [.int i,x])∧∀xs,SqL K H a xs→xs[i]?=some x,fun i H=>∃xs,SqL K H a xs∧xs.length≤i⟩
def tnE(e it a:Addr)(i:Nat)(h:Heap):Prop:=(∃old,IsEnum h e it i old)∧h.IsListIter it a i
theorem Xe{P:Program}{w:World}{K:PySem.W.Frag}{es:List Expr}{k:Nat}{pos:Pos}(a e it:Addr)(ne:e≠it):Wt P w K (.Tuple es k pos) (Ite K a) [e,it] e (tnE e it a) where
 mem:=by simp
 obj:=fun i h st b hb=>by
  obtain ⟨⟨old,h1⟩,o,h2,c,d⟩:=st
  have hb:b=e∨b=it:=by simpa using hb
  rcases hb with rfl | rfl
  · exact ⟨_,h1,fun v z=>by cases z⟩
  · exact ⟨o,h2,fun v z=>by rw [d]at z;cases z⟩
 keep:=fun i h h' st kk=>by
  obtain ⟨⟨old,h1⟩,h2⟩:=st;exact ⟨⟨old,kk e (by simp) _ h1⟩,h2.at fun o q=>kk it (by simp) o q⟩
 item:=by
  intro X hP hw hK hc i pins s σ H E I hf st hg;subst hP hw hK;obtain ⟨xs,x,hq,hx⟩:=hg;obtain ⟨its,rv,p,hz⟩:=I.list hq;obtain ⟨u,hu,ru⟩:=rv.get hx;obtain ⟨⟨old,h1⟩,h2⟩:=st;have hlt:e < s.heap.objs.size:=Fs h1
  have hit:it < s.heap.objs.size:=by obtain ⟨o,q,_⟩:=id h2;exact Fs q
  refine wpAny_pyNext_enum_item h1 h2 p.isList (x:=u) (by simpa using hu) ne fun h' eo it' ht hs hk=>?_;refine ⟨_,rfl,wpAny_letOwnedTupleGo_enum (s:={s with heap:=h',toks:=s.toks+1}) eo fun h3 e3 sb=>?_⟩;have hf0:H s.heap.objs.size=none:=I.hok.fresh (Fe _)
  have nt:∀b∈[e,it],b≠s.heap.objs.size:=fun b hb=>by
   have hb:b=e∨b=it:=by simpa using hb
   rcases hb with rfl | rfl
   · exact FF hlt
   · exact FF hit
  have I0:Inv X pins σ (upd H s.heap.objs.size (.tup [.int i,x])) {s with heap:=s.heap.push {cls:= .type "tuple",data:= .seq #[.int i s.toks,u]},toks:=s.toks+1}:=
   I.laid (fun b u e=>Fm _ e) (Fe _) ⟨by simp [sizeLine];try decide,[.int i s.toks,u],.cons ⟨_,rfl⟩ (.cons ru .nil),⟨_,FI _ rfl,rfl,_,rfl⟩⟩
  have hfp:∀b∈[e,it],Kb X pins (upd H s.heap.objs.size (.tup [.int i,x])) b:=fun b hb=>by
   obtain ⟨f0,f1,f2,f3,f4,f5⟩:=hf b hb;exact ⟨by rw [A4 (nt b hb)];exact f0,f1,f2,f3,f4,f5⟩
  have I1:Inv X pins σ (upd H s.heap.objs.size (.tup [.int i,x])) {s with heap:=h3,toks:=s.toks+1}:=by
   refine Inv.turned2 (s:={s with heap:=s.heap.push {cls:= .type "tuple",data:= .seq #[.int i s.toks,u]},toks:=s.toks+1}) (t':=s.toks+1) I0 (fun b o hb q=>?_) hfp
   have hb':b≠e∧b≠it:=by simpa using hb
   refine (sb.2 b hb'.1).trans ?_;rcases Heap.get?_push_cases q with ⟨rfl,rfl⟩ | q2
   · exact ht
   · exact hk b o hb'.1 hb'.2 q2
  refine ⟨.ref s.heap.objs.size,upd H s.heap.objs.size (.tup [.int i,x]),I1,rfl,⟨_,x,rfl,hf0,rfl,fun ys hy=>by rw [I.list_inj hy hq];exact hx⟩,⟨⟨u,?_⟩,?_⟩,fun b hb=>(hfp b hb).1⟩
  · show IsEnum h3 e it ((i+1:Nat):Int) u
    rw [show ((i+1:Nat):Int)=(i:Int)+1 from rfl];exact e3
  · exact it'.at fun o q=>(sb.2 it (Ne.symm ne)).trans q
 done:=by
   intro X hP hw hK hc i pins s σ H E I hf st hg;subst hP hw hK;obtain ⟨xs,hq,hx⟩:=hg;obtain ⟨its,rv,p,hz⟩:=I.list hq;obtain ⟨⟨old,h1⟩,h2⟩:=st;have hl:=rv.length
   exact wpAny_pyNext_enum_end (I.ok.hd hc) h1 h2 p.isList (by simp;omega) fun h' eb=>⟨rfl,Inv.turned2 (t':=s.toks) I (fun b o hb q=>eb b o (fun z=>hb (by simp [z])) q) hf⟩
 self:=fun _ _ _ _ _ st h=>wpAny_pyIter_enum st.1.choose_spec h
section
variable {X:Cx}
def J4p(K:PySem.W.Frag)(ta:TA):TI:=fun σ H R=>ta σ H fun vs H1=>∃a,vs=[.ref a]∧(∃xs,SqL K H1 a xs)∧R (Ite K a) H1
theorem Vu{l:Expr}{ta:TA}{p pos pp:Pos}{es:List Expr}{k:Nat}(hg:Gl X "enumerate")(hm:X.mg "enumerate"=none)(ha:PA X [l] ta)(hs:starEach [l] X.env=[(false,eval l X.env)]:=by rfl):PI X (.Tuple es k pp) (.Call (.Name "enumerate" p) [l] [] pos) (J4p X.K ta):=by
 intro pins s σ H R I h;refine Call_ (Kx I hg hm boot_enumerate (HG (thn (ha pos pins s σ H _ I h) fun us s1 hq_=>?_) hs rfl));obtain ⟨vs,H1,I1,r1,q1⟩:=hq_;obtain ⟨a,e,⟨xs,hq⟩,q⟩:=q1;subst e
 cases r1 with
 | cons r rr=>
  cases rr;cases r;obtain ⟨its,rv,p',hz⟩:=I1.list hq;refine call_enumerate_list p'.isList fun h' h1 h2 h3 h4=>?_;refine wpAny_pyIter_enum h1 ?_;refine ⟨_,[s1.heap.objs.size+1,s1.heap.objs.size],_,_,H1,rfl,I1.kept (t':=s1.toks) h4,Xe a _ _ (Nat.succ_ne_self _),⟨⟨_,h1⟩,h2⟩,fun b hb=>?_,q⟩
  have hb:b=s1.heap.objs.size+1∨b=s1.heap.objs.size:=by simpa using hb
  rcases hb with rfl | rfl
  · exact I1.fpOk (Rx _) (I1.hok.fresh (Rx _))
  · exact I1.fpOk (Fe _) (I1.hok.fresh (Fe _))
end
section
variable {K:PySem.W.Frag} {σ:St} {H:Hp} {D:Ig}
theorem Sd{ta:TA}{R:It→Hp→Prop}:J4p K ta σ H R=ta σ H fun vs H1=>∃a,vs=[.ref a]∧(∃xs,SqL K H1 a xs)∧R (Ite K a) H1:=rfl
theorem Vv{a:Addr}{xs:List V}{g:TG}{tb:TS}(Pv:Nat→St→Hp→Prop)(h0:Pv 0 σ H)(hl:∀i σ H,i≤xs.length→Pv i σ H→SqL K H a xs)
 (hs:∀i x σ H t,xs[i]?=some x→Pv i σ H→H t=none→g (.ref t) σ (upd H t (.tup [.int i,x])) fun σ2 H2=>tb {D with nx:=Pv (i+1),ct:=Pv (i+1),bk:=D.nx} σ2 H2) (hd:∀σ H,Pv xs.length σ H→D.nx σ H):M0 g tb D σ (Ite K a) H:=by
 refine ⟨fun i m σ H=>i≤xs.length∧m=xs.length - i∧Pv i σ H,⟨_,Fl _,rfl,h0⟩,fun i m σ H ⟨hi,hm,hP⟩=>?_⟩;have hq:=hl i σ H hi hP
 cases hx:xs[i]? with
 | none=>
  have hn:xs.length≤i:=by simpa using hx
  have e:i=xs.length:=Nat.le_antisymm hi hn;subst e;exact .inl ⟨⟨xs,hq,Fe _⟩,hd σ H hP⟩
 | some x=>
  have hlt:i < xs.length:=(Fc.mp hx).1;refine .inr ⟨⟨xs,x,hq,hx⟩,Pv (i+1),fun σ' H' h=>⟨xs.length - (i+1),by omega,by omega,rfl,h⟩,?_⟩;rintro y H' ⟨t,x',rfl,ht,rfl,hy⟩;have e:=(hy xs hq).symm.trans hx;cases e;exact hs i x σ H t hx hP ht
end
end L2
namespace L2
def Itz(K:PySem.W.Frag)(a b:Addr):It:=
 ⟨fun i H=>∃xs ys x y,SqL K H a xs∧SqL K H b ys∧xs[i]?=some x∧ys[i]?=some y,fun i H v H'=>∃t x y,v= .ref t∧H t=none∧H'=upd H t (.tup [x,y])∧(∀xs,SqL K H a xs→xs[i]?=some x)∧∀ys,SqL K H b ys→ys[i]?=some y,
  fun i H=>∃xs ys,SqL K H a xs∧SqL K H b ys∧(xs.length≤i∨ys.length≤i)⟩
def tnZ(z TI TO i1 i2 a b:Addr)(i:Nat)(h:Heap):Prop:=IsZip h z TI TO .none∧IsPair h TI (.ref i1) (.ref i2)∧(∃x y,IsPair h TO x y)∧h.IsListIter i1 a i∧h.IsListIter i2 b i
theorem J1d{P:Program}{w:World}{K:PySem.W.Frag}{es:List Expr}{k:Nat}{pos:Pos}(a b z TI TO i1 i2:Addr)(D:ZipApart z TI TO i1 i2 a b):Wt P w K (.Tuple es k pos) (Itz K a b) [z,TI,TO,i1,i2] z (tnZ z TI TO i1 i2 a b) where
 mem:=by simp
 obj:=fun i h st c hc=>by
  obtain ⟨h1,h2,⟨x,y,h3⟩,⟨o4,e4,c4,d4⟩,⟨o5,e5,c5,d5⟩⟩:=st
  have hc:c=z∨c=TI∨c=TO∨c=i1∨c=i2:=by simpa using hc
  rcases hc with rfl | rfl | rfl | rfl | rfl
  · exact ⟨_,h1,fun v z=>by cases z⟩
  · exact ⟨_,h2,fun v z=>by cases z⟩
  · exact ⟨_,h3,fun v z=>by cases z⟩
  · exact ⟨o4,e4,fun v z=>by rw [d4]at z;cases z⟩
  · exact ⟨o5,e5,fun v z=>by rw [d5]at z;cases z⟩
 keep:=fun i h h' st kk=>by
  obtain ⟨h1,h2,⟨x,y,h3⟩,h4,h5⟩:=st;exact ⟨kk z (by simp) _ h1,kk TI (by simp) _ h2,⟨x,y,kk TO (by simp) _ h3⟩,h4.at fun o q=>kk i1 (by simp) o q,h5.at fun o q=>kk i2 (by simp) o q⟩
 item:=by
  intro X hP hw hK hc i pins s σ H E I hf st hg;subst hP hw hK;obtain ⟨xs,ys,x,y,hq,hq2,hx,hy⟩:=hg;obtain ⟨its,rv,p,hz⟩:=I.list hq;obtain ⟨jts,rv2,p2,hz2⟩:=I.list hq2;obtain ⟨u,hu,ru⟩:=rv.get hx;obtain ⟨v,hv,rw'⟩:=rv2.get hy;obtain ⟨h1,h2,⟨x0,y0,h3⟩,h4,h5⟩:=st
  have lts:∀c∈[z,TI,TO,i1,i2],c < s.heap.objs.size:=fun c hc'=>by
   have hc':c=z∨c=TI∨c=TO∨c=i1∨c=i2:=by simpa using hc'
   rcases hc' with rfl | rfl | rfl | rfl | rfl
   · exact Fs h1
   · exact Fs h2
   · exact Fs h3
   · obtain ⟨o,q,_⟩:=id h4;exact Fs q
   · obtain ⟨o,q,_⟩:=id h5;exact Fs q
  refine wpAny_pyNext_zip_item D h1 h2 h3 h4 h5 p.isList p2.isList (x:=u) (y:=v) (by simpa using hu) (by simpa using hv) fun h' e1 e3 e4 e5 ht hs hk=>?_;refine ⟨_,rfl,wpAny_letOwnedTupleGo_zip (s:={s with heap:=h'}) e1 fun h6 e6 sb=>?_⟩;have hf0:H s.heap.objs.size=none:=I.hok.fresh (Fe _);have nt:∀c∈[z,TI,TO,i1,i2],c≠s.heap.objs.size:=fun c hc'=>FF (lts c hc')
  have I0:Inv X pins σ (upd H s.heap.objs.size (.tup [x,y])) {s with heap:=s.heap.push {cls:= .type "tuple",data:= .seq #[u,v]}}:=
   I.laid (t':=s.toks) (fun b u e=>Fm _ e) (Fe _) ⟨by simp [sizeLine];try decide,[u,v],.cons ru (.cons rw' .nil),⟨_,FI _ rfl,rfl,_,rfl⟩⟩
  have hfp:∀c∈[z,TI,TO,i1,i2],Kb X pins (upd H s.heap.objs.size (.tup [x,y])) c:=fun c hc'=>by
   obtain ⟨f0,f1,f2,f3,f4,f5⟩:=hf c hc';exact ⟨by rw [A4 (nt c hc')];exact f0,f1,f2,f3,f4,f5⟩
  have I1:Inv X pins σ (upd H s.heap.objs.size (.tup [x,y])) {s with heap:=h6}:=by
   refine Inv.turned2 (s:={s with heap:=s.heap.push {cls:= .type "tuple",data:= .seq #[u,v]}}) (t':=s.toks) I0 (fun c o hc' q=>?_) hfp
   have hb':c≠z∧c≠TI∧c≠TO∧c≠i1∧c≠i2:=by simpa using hc'
   refine (sb.2 c hb'.1).trans ?_;rcases Heap.get?_push_cases q with ⟨rfl,rfl⟩ | q2
   · exact ht
   · exact hk c o hb'.1 hb'.2.2.1 hb'.2.2.2.1 hb'.2.2.2.2 q2
  refine ⟨.ref s.heap.objs.size,upd H s.heap.objs.size (.tup [x,y]),I1,rfl,⟨_,x,y,rfl,hf0,rfl,fun zs hy'=>by rw [I.list_inj hy' hq];exact hx,fun zs hy'=>by rw [I.list_inj hy' hq2];exact hy⟩,?_,fun c hc'=>(hfp c hc').1⟩;have k6:∀c o,c≠z→h'.get? c=some o→h6.get? c=some o:=fun c o n q=>(sb.2 c n).trans q;exact ⟨e6,k6 TI _ D.TIz (hk TI _ D.TIz D.TITO D.TIi1 D.TIi2 h2),⟨_,_,k6 TO _ D.TOz e3⟩,e4.at fun o q=>k6 i1 o D.i1z q,e5.at fun o q=>k6 i2 o D.i2z q⟩
 done:=by
   intro X hP hw hK hc i pins s σ H E I hf st hg;subst hP hw hK;obtain ⟨xs,ys,hq,hq2,hx⟩:=hg;obtain ⟨its,rv,p,hz⟩:=I.list hq;obtain ⟨jts,rv2,p2,hz2⟩:=I.list hq2;obtain ⟨h1,h2,⟨x0,y0,h3⟩,h4,h5⟩:=st;have hl:=rv.length;have hl2:=rv2.length
   exact wpAny_pyNext_zip_end (I.ok.hd hc) D h1 h2 h3 h4 h5 p.isList p2.isList (hx.imp (fun h=>by simp;omega) fun h=>by simp;omega) fun h' eb=>⟨rfl,Inv.turned2 (t':=s.toks) I (fun c o hb q=>by
    have hb':c≠z∧c≠TI∧c≠TO∧c≠i1∧c≠i2:=by simpa using hb
    exact eb c o hb'.1 hb'.2.2.1 hb'.2.2.2.1 hb'.2.2.2.2 q) hf⟩
 self:=fun _ _ _ _ _ st h=>wpAny_pyIter_zip st.1 h
section
variable {X:Cx}
def J7s(K:PySem.W.Frag)(ta:TA):TI:=fun σ H R=>ta σ H fun vs H1=>∃a b,vs=[.ref a,.ref b]∧(∃xs,SqL K H1 a xs)∧(∃ys,SqL K H1 b ys)∧R (Itz K a b) H1
theorem J5t{l r:Expr}{ta:TA}{p pos pp:Pos}{es:List Expr}{k:Nat}(hg:Gl X "zip")(hm:X.mg "zip"=none)(ha:PA X [l,r] ta)(hs:starEach [l,r] X.env=[(false,eval l X.env),(false,eval r X.env)]:=by rfl)(hs2:starEach [r] X.env=[(false,eval r X.env)]:=by rfl):
 PI X (.Tuple es k pp) (.Call (.Name "zip" p) [l,r] [] pos) (J7s X.K ta):=by
 intro pins s σ H R I h;refine Call_ (Kx I hg hm boot_zip (HG (thn (ha pos pins s σ H _ I h) fun us s1 ⟨vs,H1,I1,r1,q1⟩=>?_) (by rw [hs,hs2]) (by rw [hs2];rfl)));obtain ⟨a,b,e,⟨xs,hq⟩,⟨ys,hq2⟩,q⟩:=q1;subst e
 cases r1 with
 | cons r rr=>
  cases rr with
  | cons r' rr=>
   cases rr;cases r;cases r';obtain ⟨its,rv,p',hz⟩:=I1.list hq;obtain ⟨jts,rv2,p2,hz2⟩:=I1.list hq2
   have la:a < s1.heap.objs.size:=by obtain ⟨o,e,_⟩:=p'.isList;exact Fs e
   have lb:b < s1.heap.objs.size:=by obtain ⟨o,e,_⟩:=p2.isList;exact Fs e
   refine call_zip_2 p'.isList p2.isList fun h' h1 h2 h3 h4 h5 h6 h7=>?_;refine wpAny_pyIter_zip h1 ?_;refine ⟨_,[s1.heap.objs.size+4,s1.heap.objs.size+2,s1.heap.objs.size+3,s1.heap.objs.size,s1.heap.objs.size+1],_,_,H1,rfl,I1.kept (t':=s1.toks) h7,J1d a b _ _ _ _ _ (PySem.W.ktu_apart _ _ _ la lb),⟨h1,h2,⟨_,_,h3⟩,h4,h5⟩,fun c hc=>?_,q⟩
   have hc:s1.heap.objs.size≤c:=by
    have hc:c=s1.heap.objs.size+4∨c=s1.heap.objs.size+2∨c=s1.heap.objs.size+3∨c=s1.heap.objs.size∨c=s1.heap.objs.size+1:=by simpa using hc
    rcases hc with rfl | rfl | rfl | rfl | rfl
    · exact Rk _ _
    · exact Rk _ _
    · exact Rk _ _
    · exact Fe _
    · exact Rk _ _
   exact I1.fpOk hc (I1.hok.fresh hc)
end
section
variable {K:PySem.W.Frag} {σ:St} {H:Hp} {D:Ig}
theorem Vw{ta:TA}{R:It→Hp→Prop}:J7s K ta σ H R=ta σ H fun vs H1=>∃a b,vs=[.ref a,.ref b]∧(∃xs,SqL K H1 a xs)∧(∃ys,SqL K H1 b ys)∧R (Itz K a b) H1:=rfl
end
end L2
namespace L2
abbrev Vx(wi:TI)(fs:List Nat)(tt:Blk→TT)(te:Blk→TE):TE:=Qh wi 1 fs (fun _=>Cb 0) tt te
abbrev g2(K:PySem.W.Frag):Blk→TG:=fun _=>J2m K 2 (Mm (Cb 0) (Mm (Cb 1) J2l))
abbrev J1e(K:PySem.W.Frag)(wi:TI)(fs:List Nat)(tt:Blk→TT)(te:Blk→TE):TE:=Qh wi 2 fs (g2 K) tt te
section
variable {X:Cx} {scope:Scope} {x y:Str} {px py pt:Pos} {n:Nat} {fs:List Nat} {elt iter c:Expr} {pos:Pos} {wi:TI} {tt:Blk→TT} {te:Blk→TE}
theorem J3h(hc:X.calm=true)(hok:E1 X.N X.env.scope scope [x,y] fs=true)(b:Blk):PG (X.blk scope ([x,y]++around X.N fs) b) (.Tuple [.Name x px,.Name y py] n pt) (g2 X.K b):=by
 have O:=Eh hok
 refine P4 (X:=X.blk scope ([x,y]++around X.N fs) b) hc (De (Bb O.nd rfl (.inl (Hu (O.own x (by simp)))) (.inr (Hu (O.own x (by simp)))))
  (De (Bb O.nd rfl (.inl (Hu (O.own y (by simp)))) (.inr (Hu (O.own y (by simp))))) Lu))
theorem N0(x y:Str)(fs:List Nat)(hc:X.calm=true)(hok:E1 X.N X.env.scope scope [x,y] fs=true)(hi:PI X (.Tuple [.Name x px,.Name y py] n pt) iter wi)(he:∀b,PE (X.blk scope ([x,y]++around X.N fs) b) elt (te b))
 (hs:∀x,foldedSetIterable iter X.env x=pure x:=by intro _;rfl):PE X (.ListComp elt [⟨.Tuple [.Name x px,.Name y py] n pt,iter,[],0⟩] scope pos) (J1e X.K wi fs (fun _=>Gh) te):=
 Qj (xs:=[x,y]) (g:=g2 X.K) (tt:=fun _=>Gh) hc hok hi (J3h hc hok) (fun _=>Pf) he hs
end
section
variable {K:PySem.W.Frag} {tail:St} {tt:Blk→TT} {te:Blk→TE} {Q:VK} {H1:Hp} {σ:St} {H:Hp}
theorem Se{wi:TI}{fs:List Nat}:Vx wi fs tt te σ H Q=wi σ H (Bq (none::fs.map fun j=>σ.getD j none) (fun _=>Cb 0) tt te Q):=rfl
theorem Sf{wi:TI}{fs:List Nat}:J1e K wi fs tt te σ H Q=wi σ H (Bq (none::none::fs.map fun j=>σ.getD j none) (g2 K) tt te Q):=rfl
theorem J1f{x y:Option V}{r:St}:J5n (none::none::r) (x::y::r):=fun i v e=>by
 match i with
 | 0=>cases e
 | 1=>cases e
 | i+2=>exact e
theorem Kp{H H':Hp}{p:Addr}{o:HO}(s:A9 H H')(h:H p=none):A9 H (upd H' p o):=fun b u e=>by
 rw [A4 (A6 e h)];exact s b u e
theorem Sg{a:Addr}{xs:List V}(p:V→Bool)(f:V→V)(hS:SqL K H1 a xs)(hz:xs.length≤sizeLine)(ht:∀b x H QT,x∈xs→A9 H1 H→(∀H',A9 H H'→QT (p x) H')→tt b (some x::tail) H QT)
 (he:∀b x H Q',x∈xs→p x=true→A9 H1 H→(∀H',A9 H H'→Q' (f x) H')→te b (some x::tail) H Q')
 (q:∀D H',H1 D=none→A9 H1 H'→H' D=some (.lst ((xs.filter p).map f))→Q (.ref D) H'):Bq (none::tail) (fun _=>Cb 0) tt te Q (Itl K a) H1:=by
 intro b D hD;refine ⟨fun i m ys H=>m=xs.length - i∧i≤xs.length∧ys=((xs.take i).filter p).map f∧H D=some (.lst ys)∧A9 H1 H,⟨_,rfl,Fl _,rfl,A3,Cg hD⟩,?_⟩;rintro i m ys H ⟨rfl,hi,rfl,hd,sm⟩;refine ⟨hd,?_⟩
 by_cases hlt:i < xs.length
 · refine .inr ⟨⟨xs,xs[i],sm.seq hS,by simp [hlt]⟩,fun x H3 ⟨e3,ex⟩=>⟨J4k,?_⟩⟩
   subst e3;have hx:=ex xs (sm.seq hS);have hm:=Fo hx
   have hl:(((xs.take i).filter p).map f).length≤i:=by
    rw [Fa];exact FA (Ho _ _) (by rw [FV];omega)
   refine ht b x _ _ hm sm fun H7 s7=>?_
   have htk:(xs.take (i+1)).filter p=(xs.take i).filter p++[x].filter p:=by rw [Hv,hx,List.filter_append];rfl
   by_cases hp:p x=true
   · rw [if_pos hp]
     refine he b x H7 _ hm hp (sm.trans s7) fun H8 s8=>?_;have hd8:=(s7.trans s8) _ _ hd;refine ⟨hd8,by omega,xs.length - (i+1),by omega,rfl,hlt,?_,A3,Kp ((sm.trans s7).trans s8) hD⟩;rw [htk,HW hp,Rr,Ft];rfl
   · rw [if_neg hp]
     refine ⟨xs.length - (i+1),by omega,rfl,hlt,?_,s7 _ _ hd,sm.trans s7⟩;rw [htk,HX hp,Rr,FX]
 · have e:i=xs.length:=by omega
   subst e;refine .inl ⟨⟨xs,sm.seq hS,Fe _⟩,q D H hD sm ?_⟩;rw [hd,FU]
theorem J3i{a:Addr}{as:List Addr}(x1 x2:Nat→V)(p:Nat→Bool)(f:Nat→V)(hS:SqL K H1 a (as.map V.ref))(hz:as.length≤sizeLine)(hT:∀i c,as[i]?=some c→SqT K H1 c [x1 i,x2 i])
 (ht:∀b i H QT,i < as.length→A9 H1 H→(∀H',A9 H H'→QT (p i) H')→tt b (some (x1 i)::some (x2 i)::tail) H QT)
 (he:∀b i H Q',i < as.length→p i=true→A9 H1 H→(∀H',A9 H H'→Q' (f i) H')→te b (some (x1 i)::some (x2 i)::tail) H Q')
 (q:∀D H',H1 D=none→A9 H1 H'→H' D=some (.lst (((List.range as.length).filter p).map f))→Q (.ref D) H'):Bq (none::none::tail) (g2 K) tt te Q (Itl K a) H1:=by
 intro b D hD;refine ⟨fun i m ys H=>m=as.length - i∧i≤as.length∧ys=((List.range i).filter p).map f∧H D=some (.lst ys)∧A9 H1 H,⟨_,rfl,Fl _,rfl,A3,Cg hD⟩,?_⟩;rintro i m ys H ⟨rfl,hi,rfl,hd,sm⟩;refine ⟨hd,?_⟩
 by_cases hlt:i < as.length
 · refine .inr ⟨⟨_,V.ref as[i],sm.seq hS,by simp [hlt]⟩,fun x H3 ⟨e3,ex⟩=>?_⟩
   subst e3;have hx:=ex _ (sm.seq hS)
   have hx':V.ref as[i]=x:=by simpa [hlt] using hx
   subst hx'
   have hl:(((List.range i).filter p).map f).length≤i:=by
    rw [Fa];exact FA (Ho _ _) (by rw [FT];omega)
   have htk:(List.range (i+1)).filter p=(List.range i).filter p++[i].filter p:=by rw [HQ,List.filter_append]
   refine ⟨as[i],_,rfl,sm.tup (hT i _ (by simp [hlt])),rfl,_,_,rfl,_,_,rfl,rfl,J1f,?_⟩;refine ht b i _ _ hlt sm fun H7 s7=>?_
   by_cases hp:p i=true
   · rw [if_pos hp]
     refine he b i H7 _ hlt hp (sm.trans s7) fun H8 s8=>?_;have hd8:=(s7.trans s8) _ _ hd;refine ⟨hd8,by omega,as.length - (i+1),by omega,rfl,hlt,?_,A3,Kp ((sm.trans s7).trans s8) hD⟩;rw [htk,HW hp,Rr,Ft];rfl
   · rw [if_neg hp]
     refine ⟨as.length - (i+1),by omega,rfl,hlt,?_,s7 _ _ hd,sm.trans s7⟩;rw [htk,HX hp,Rr,FX]
 · have e:i=as.length:=by omega
   subst e;exact .inl ⟨⟨_,sm.seq hS,by simp⟩,q D H hD sm hd⟩
end
end L2
namespace L2
section
variable {X:Cx}
def Sh:V→List V→Hp→VK→Prop:=fun x vs H Q=>∃l xs y,x= .ref l∧vs=[.int 0,y]∧H l=some (.lst xs)∧xs.length < sizeLine∧Q .non (upd H l (.lst (y::xs)))
theorem Og:MtM X "list.insert" Sh:=by
 intro pins s σ H x vs v us Q I rx rv h;obtain ⟨l,xs,y,rfl,rfl,hH,hz,q⟩:=h;cases rx
 cases rv with
 | cons r0 rr=>
  obtain ⟨t0,rfl⟩:=r0;obtain ⟨u,rfl,ru⟩:=Ax.one rr;obtain ⟨z,its,n,r,hl,e⟩:=I.lstM hH;refine HS F.slot_list_insert ⟨_,e,rfl⟩ F.entry_list_insert (F.args_list_insert_3 _ _ _) (AutoSeq1.list_insert_list_int_val_1 l its.toArray n 0 t0 u (by decide) (by rw [Fn];omega)) ⟨e,?_⟩;refine ⟨.non,_,I.lset (its':=u::its) hH e ?_ (.cons ru r) ?_,rfl,q⟩
  · simp
  · rw [List.length_cons];omega
theorem Oh{x:V}{vs:List V}{H:Hp}{Q:VK}:Sh x vs H Q=∃l xs y,x= .ref l∧vs=[.int 0,y]∧H l=some (.lst xs)∧xs.length < sizeLine∧Q .non (upd H l (.lst (y::xs))):=rfl
end
end L2
namespace L2
section
variable {X:Cx} {scope:Scope} {x y v:Str} {px py pt pv':Pos} {n i:Nat} {fs:List Nat} {elt iter c:Expr} {pos spos:Pos} {wi:TI} {tt:Blk→TT} {te:Blk→TE}
theorem Si(x:Str)(fs:List Nat)(hN:X.N.Nodup)(hy:X.N[i]?=some v)(hyl:X.env.kindOf v=some .local)(hc:X.calm=true)(hok:E1 X.N X.env.scope scope [x] fs=true)(hi:PI X (.Name x px) iter wi)(ht:∀b,PT (X.blk scope ([x]++around X.N fs) b) c (tt b))(he:∀b,PE (X.blk scope ([x]++around X.N fs) b) elt (te b))
 (hsw:swapsWith (.ListComp elt [⟨.Name x px,iter,[c],0⟩] scope pos) (some (.Name v pv')) spos.line X.env=pure true:=by rfl)
 (hs:∀x,foldedSetIterable iter X.env x=pure x:=by intro _;rfl):PS X (.Assign [.Name v pv'] (.ListComp elt [⟨.Name x px,iter,[c],0⟩] scope pos) spos) (Y1 (Vx wi fs tt te) (Cb i)):=
 V6 (xs:=[x]) (g:=fun _=>Cb 0) (tt:=tt) hN hy hyl hc hok hi (Tq hok) (fun b=>J34 (ht b)) he hsw hs
end
end L2
namespace N08
open PySem PySem.Builtin PySem.Builtin.Str PySem.StrLaws
section
variable (x y:Str)
def greedy:List Nat→Nat→List Nat
 | [],_=>[]
 | i::l,free=>if free≤i∧i+y.length≤x.length∧subAt x y i=true then i::greedy l (i+y.length) else greedy l free
theorem Kf(limit:Nat):∀(l:List Nat) (arr:Array Nat) (free:Nat),arr.size+l.length≤limit→
 (forIn l (arr,free) (occBody x y x.length limit)).run.fst.toList=arr.toList++greedy x y l free
 | [],arr,free,_=>by simp [greedy]
 | i::l,arr,free,h=>by
  rw [List.forIn_cons];unfold occBody;rw [List.length_cons]at h
  by_cases hc:free≤i∧i+y.length≤x.length∧subAt x y i=true
  · rw [if_pos (show (((arr,free).fst.size < limit∧(arr,free).snd≤i)∧i+y.length≤x.length)∧subAt x y i=true from ⟨⟨⟨by show arr.size < limit;omega,hc.1⟩,hc.2.1⟩,hc.2.2⟩)]
    refine (Kf limit l (arr.push i) (i+y.length) (by rw [Array.size_push];omega)).trans ?_;simp only [greedy];rw [if_pos hc];simp
  · rw [if_neg (show ¬((((arr,free).fst.size < limit∧(arr,free).snd≤i)∧i+y.length≤x.length)∧subAt x y i=true) from fun z=>hc ⟨z.1.1.2,z.1.2,z.2⟩)]
    refine (Kf limit l arr free (by omega)).trans ?_;simp only [greedy];rw [if_neg hc]
theorem G1:∀(pre l:List Nat) (free:Nat),(∀i∈pre,¬(free≤i∧i+y.length≤x.length∧subAt x y i=true))→greedy x y (pre++l) free=greedy x y l free
 | [],l,free,_=>rfl
 | i::pre,l,free,h=>by
  show greedy x y (i::(pre++l)) free=_;simp only [greedy];rw [if_neg (h i Fj)];exact G1 pre l free fun j hj=>h j (Fd _ hj)
def cuts(a:Nat):List Nat:=greedy x y (List.range' a (x.length+1 - a)) a
theorem Oi{a:Nat}(h:∀i,a≤i→¬At x y x.length i):cuts x y a=[]:=by
 unfold cuts;have:=G1 x y (List.range' a (x.length+1 - a)) [] a fun i hi z=>h i z.1 ⟨z.2.1,z.2.2⟩;rw [FX]at this;rw [this];rfl
theorem Xf{a c:Nat}(hac:a≤c)(hy:1≤y.length)(hc:At x y x.length c)(h:∀i,a≤i→i < c→¬At x y x.length i):cuts x y a=c::cuts x y (c+y.length):=by
 have hcl:=hc.1;unfold cuts
 have e1:List.range' a (x.length+1 - a)=List.range' a (c - a)++List.range' c (x.length+1 - c):=by
  have:=List.range'_append_1 (s:=a) (m:=c - a) (n:=x.length+1 - c);rw [show a+(c - a)=c by omega]at this;rw [this];congr 1;omega
 have e2:List.range' c (x.length+1 - c)=c::List.range' (c+1) (x.length - c):=by
  rw [show x.length+1 - c=(x.length - c)+1 by omega,List.range'_succ]
 have e3:List.range' (c+1) (x.length - c)=List.range' (c+1) (y.length - 1)++List.range' (c+y.length) (x.length+1 - (c+y.length)):=by
  have:=List.range'_append_1 (s:=c+1) (m:=y.length - 1) (n:=x.length+1 - (c+y.length));rw [show c+1+(y.length - 1)=c+y.length by omega]at this;rw [this];congr 1;omega
 rw [e1,G1 x y _ _ _ fun i hi z=>?_,e2]
 · simp only [greedy]
   rw [if_pos ⟨hac,hcl,hc.2⟩,e3,G1 x y _ _ _ fun i hi z=>?_];rw [RJ]at hi;omega
 · rw [RJ]at hi
   exact h i hi.1 (by omega) ⟨z.2.1,z.2.2⟩
theorem J1g:occurrences x y 0 x.length (x.length+1)=cuts x y 0:=by
 rw [occ_eq,Kf x y (x.length+1) _ #[] 0 (by simp)];unfold cuts;simp
theorem U0(hk:(decide (strKind x < strKind y))=false):Txt.split x y=partsFrom x y.length 0 (cuts x y 0):=by
 unfold Txt.split;rw [J1g,hk,Bool.or_false]
 by_cases h:x.length < y.length
 · rw [if_pos (by simpa using h),Oi x y fun i _ z=>by have:=z.1;omega]
   show [x]=[strSub x 0 x.length];rw [sub_whole]
 · rw [if_neg (by simpa using h),partsBetween_eq]
   split
   · rename_i h2
     rw [List.isEmpty_iff.mp h2];show [x]=[strSub x 0 x.length];rw [sub_whole]
   · rfl
theorem J1h{a:Nat}:(strSub x a x.length).cps.toList=x.cps.toList.drop a:=by
 rw [strSub_toList,Hd];rw [Hf];simp [Str.length]
end
theorem Vy{x y:Str}(h:x.cps.toList=y.cps.toList):x=y:=by
 cases x;cases y
 simpa using h
open PySem.NumText
theorem Xg:∀c:Nat,c < 58→(Char.ofNat c).toNat=c:=by decide
theorem shown{l:List Nat}(h:AllDigits l)(hne:l≠[])(hh:l=[48]∨∃c r,l=c::r∧49≤c):Str.ofString (toString ((digitsVal l:Nat):Int))=⟨l.toArray⟩:=by
 have e:Nat.toDigits 10 (digitsVal l)=l.map Char.ofNat:=by
  cases hl:l.length with
  | zero=>exact absurd (List.length_eq_zero_iff.mp hl) hne
  | succ n=>
   refine toDigits_digitsVal n l hl h ?_;rcases hh with e | h2
   · subst e
     simp at hl;exact .inl hl
   · exact .inr h2
 have e2:toString ((digitsVal l:Nat):Int)=String.ofList (l.map Char.ofNat):=by
  show Nat.repr (digitsVal l)=_;unfold Nat.repr;rw [e]
 rw [e2];rw [Str.ofString_eq_toList];rw [String.toList_ofList,FL];congr 1;congr 1
 conv=>rhs;rw [← List.map_id l]
 exact RD fun c hc=>Xg c (by have:=h c hc;omega)
end N08
namespace L2
open N1 N5
theorem J1i{x:V}(h:Cz x=true):eqV x x=true:=by
 cases x with
 | non=>rfl
 | bl b=>cases b <;> rfl
 | int i=>exact RN i
 | str z=>rw [Ph];simp
 | _=>cases h
section
variable {K:PySem.W.Frag} {tail:St} {te:Blk→TE} {Q:VK} {H1:Hp}
def J8o(P:V→Hp→Prop):Prop:=∀y H H' l zs,P y H→H l=some (.lst zs)→SameBut l H H'→P y H'
theorem J1j{a:Addr}{xs:List V}(P:Nat→V→Hp→Prop)(G:Nat→Prop)(hP:∀i,J8o (P i))(hS:SqL K H1 a xs)(hz:xs.length≤sizeLine)
 (he:∀b i x H Q',xs[i]?=some x→A9 H1 H→(∀j,j < i→G j)→(∀y H',A9 H H'→P i y H'→G i→Q' y H')→te b (some x::tail) H Q')
 (q:∀D ys H',H1 D=none→A9 H1 H'→H' D=some (.lst ys)→ys.length=xs.length→(∀i y,ys[i]?=some y→P i y H')→(∀j,j < xs.length→G j)→Q (.ref D) H'):Bq (none::tail) (fun _=>Cb 0) (fun _=>Gh) te Q (Itl K a) H1:=by
 refine Iu xs.length (fun b D hD=>⟨fun i ys H=>i≤xs.length∧ys.length=i∧H D=some (.lst ys)∧A9 H1 H∧(∀j y,ys[j]?=some y→P j y H)∧∀j,j < i→G j,⟨Fl _,rfl,A3,Cg hD,fun j y e=>by simp at e,fun j h=>absurd h (Nat.not_lt_zero j)⟩,?_,?_,?_⟩)
 · rintro i ys H ⟨hi,_,h,_⟩
   exact h
 · rintro ys H ⟨_,hl,h,sm,hall,hg⟩
   exact ⟨⟨xs,sm.seq hS,Fe _⟩,q D ys H hD sm h hl hall hg⟩
 · rintro i ys H hi ⟨_,hl,h,sm,hall,hg⟩
   refine ⟨⟨xs,xs[i],sm.seq hS,by simp [hi]⟩,fun x H3 ⟨e3,ex⟩=>?_⟩;subst e3;refine he b i x _ _ (ex xs (sm.seq hS)) sm hg fun y H4 sm4 py gi=>?_;have h4:=sm4 _ _ h;have sb:SameBut D H4 (upd H4 D (.lst (ys++[y]))):=Im;refine G6 h4 (by omega) hi ⟨hi,by rw [Ff,hl];rfl,A3,fun c o e=>?_,fun j y' e=>?_,fun j hj=>?_⟩
   · rw [A4 (A6 e hD)];exact sm4 _ _ (sm _ _ e)
   · by_cases hj:j < ys.length
     · rw [Fu hj]at e
       exact hP j _ _ _ _ _ (hall j y' e) h fun c o e n=>by rw [A4 n];exact sm4 _ _ e
     · rw [Fy (by omega)]at e
       have hj0:j=i:=by have:=(Fc.mp e).1;simp at this;omega
       subst hj0;rw [show j - ys.length=0 by omega]at e;cases e;exact hP j _ _ _ _ _ py h4 sb
   · by_cases e:j=i
     · rw [e];exact gi
     · exact hg j (by omega)
end
end L2
namespace N8
open L2 N1 N5 N08
end N8
namespace L2
abbrev g3(K:PySem.W.Frag):Blk→TG:=fun _=>J2m K 3 (Mm (Cb 0) (Mm (Cb 1) (Mm (Cb 2) J2l)))
section
variable {K:PySem.W.Frag} {tail:St} {te:Blk→TE} {Q:VK} {H1:Hp} {σ:St} {H:Hp}
theorem J5u{x y:V}:J59 x y H Q=∃l b xs zs,x= .ref l∧y= .ref b∧H l=some (.lst xs)∧H b=some (.lst zs)∧xs.length+zs.length≤sizeLine∧∀p,H p=none→Q (.ref p) (upd H p (.lst (xs++zs))):=rfl
end
end L2
namespace N12
open L2 N1 N5 N4 N6
def N2:Sp:=fun vs H Q _=>∃(i:Int) (m:Nat),vs=[.int i,.int m]∧m≤26∧∀(p:Addr) (ys:List Str) (H':Hp),H p=none→A9 H H'→H' p=some (.lst (ys.map V.str))→ys.length≤m→m≤ys.length→ys.Nodup→(∀y∈ys,Br y.cps.toList=true)→Q (.ref p) H'
theorem Pm{n k:Nat}(h:k < n):ixN n (k:Int)=some k:=by
 unfold ixN;rw [if_pos (by omega),if_pos (by omega)];simp
end N12
namespace N6
open L2 N1 N5 N4
def Iz(K:PySem.W.Frag)(C:Addr):Sp:=fun vs H Q _=>∃(p:Addr) (ts:List Th) (z:Str),vs=[.ref p,.str z]∧Au K C H p ts∧(ts.map (·.1)).Nodup∧z∈ts.map (·.1)∧∀(i:Nat) (t:Th),ts[i]?=some t→t.1=z→∀a,SqT K H a [.int i,.int t.2.1,.int t.2.2]→Q (.ref a) H
def Sj(K:PySem.W.Frag)(C:Addr):Sp:=fun vs H Q _=>∃(p:Addr) (ts:List Th) (z:Str),vs=[.ref p,.str z]∧Au K C H p ts∧(ts.map (·.1)).Nodup∧z∈ts.map (·.1)∧∀(i:Nat) (t:Th),ts[i]?=some t→t.1=z→Q (.int t.2.2) H
end N6
namespace L2
open PySem.W
theorem J89(val:Nat→Int):∀k,argBest (fun i j=>decide (val i < val j)) k≤k∧∀j,j≤k→val (argBest (fun i j=>decide (val i < val j)) k)≤val j:=by
 intro k
 induction k with
 | zero=>exact ⟨Fe _,fun j hj=>by rw [Nat.le_zero.mp hj];exact Int.le_refl _⟩
 | succ k ih=>
  unfold argBest;split
  · rename_i h
    have h:=of_decide_eq_true h;refine ⟨Fe _,fun j hj=>?_⟩
    by_cases e:j=k+1
    · rw [e];exact Int.le_refl _
    · have:=ih.2 j (by omega);omega
  · rename_i h
    have h:¬(val (k+1) < _):=fun z=>h (FD z);refine ⟨FO ih.1,fun j hj=>?_⟩
    by_cases e:j=k+1
    · rw [e];omega
    · exact ih.2 j (by omega)
end L2
namespace L2
open PySem.W
def J4q(K:PySem.W.Frag):List V→Hp→VK→Prop:=fun xs H Q=>∃(p:Addr) (is:List Int),xs=[.ref p]∧SqL K H p (is.map V.int)∧Q (.int is.sum) H
def J7t(K:PySem.W.Frag):V→V→Hp→VK→Prop:=fun o i H Q=>∃(p:Addr) (xs:List V) (k:Nat) (v:V),o= .ref p∧i= .int k∧SqL K H p xs∧xs[k]?=some v∧Q v H
theorem Xh(is:List Int):preSum (fun i=>is.getD i 0) is.length=is.sum:=by
 have key:∀n,n≤is.length→preSum (fun i=>is.getD i 0) n=(is.take n).sum:=by
  intro n
  induction n with
  | zero=>intro _;rfl
  | succ n ih=>
   intro h
   have e:is.take (n+1)=is.take n++[is.getD n 0]:=by
    rw [Hv,Fk,Fb (by omega)];rfl
   rw [preSum,ih (by omega),e,Ra];simp
 have:=key is.length (Fe _)
 rwa [FU]at this
section
variable {X:Cx}
theorem Oj(hc:X.calm=true):El X (.builtin "sum") (J4q X.K):=by
 intro pins s σ H xs us Q I r h;obtain ⟨p,is,rfl,hp,q⟩:=h;obtain ⟨u,rfl,ru⟩:=Ic r;cases ru;obtain ⟨its,r,pl,hz⟩:=I.list hp
 have hlt:p < s.heap.objs.size:=by obtain ⟨o,n,e,_⟩:=pl;exact Fs e
 have hlen:=r.length;rw [Fa]at hlen;refine call_sum_walkAnyS (RF pl.isList ⟨s.heap.objs.size,_,_,_,_,_,_,fun i=>is.getD i 0,rfl,(Walks.list (show X.A.in1.handled=none from I.ok.hd hc) s.heap.objs.size p (FF hlt) its.toArray).toS,⟨⟨_,FI _ rfl,rfl,rfl⟩,pl.isList.push _⟩,fun b hb=>?_,fun i v hP=>?_,fun s' t' hmv=>?_⟩)
 · show b < (s.heap.push _).objs.size
   rw [Rz];rcases Fh.mp hb with e | hb
   · rw [e];exact R5 _
   · rw [Fg.mp hb];exact Nat.lt_succ_of_lt hlt
 · have hP:its.toArray[i]?=some v:=hP
   have hi:i < is.length:=by
    have:=(Array.getElem?_eq_some_iff.mp hP).1;rw [Fn]at this;omega
   obtain ⟨u,hu,ru⟩:=r.get (i:=i) (x:=V.int (is[i])) (by simp [hi])
   have e:u=v:=by
    have:its[i]?=some v:=by simpa using hP
    rw [hu]at this;exact FQ this
   subst e;show ∃t,u=Value.int (is.getD i 0) t;rw [Fk,Fb hi];exact ru
 · have hk:∀b o,s.heap.get? b=some o→s'.heap.get? b=some o:=fun b o e=>
    hmv.heap b o (fun hI=>absurd (Fs e) (by rw [Fg.mp hI];exact Hw _)) (Fm _ e)
   rw [Moved.eq_with hmv];refine ⟨.int is.sum,H,I.kept (t':=s'.toks) hk,⟨t',?_⟩,q⟩;rw [Fn,← hlen,Xh]
theorem Kq:J6m X (J7t X.K):=by
 intro pins s σ H o i ov iv Q I ro ri h;obtain ⟨p,xs,k,v,rfl,rfl,hq,he,q⟩:=h;cases ro;obtain ⟨t,rfl⟩:=ri;obtain ⟨its,r,pl,hz⟩:=I.list hq;obtain ⟨w,ew,rw'⟩:=r.get he;have hl:=r.length;have hn:=Kd;have hk:=(Fc.mp he).1;exact wpAny_getItem_list pl.isList (by omega) (by omega) (by simpa using ew) ⟨v,H,I,rw',q⟩
end
section
variable {σ:St} {H:Hp} {Q:VK} {D:Ig} {K:PySem.W.Frag} {xs:List V} {x y:V}
theorem Vz:J4q K xs H Q=∃(p:Addr) (is:List Int),xs=[.ref p]∧SqL K H p (is.map V.int)∧Q (.int is.sum) H:=rfl
theorem W0{to ti te:TE}{tget:V→V→Hp→VK→Prop}{tip:TIp}{tset:Ws}:J3y to ti te tget tip tset D σ H=to σ H fun o H1=>ti σ H1 fun i H2=>tget o i H2 fun x H3=>te σ H3 fun y H4=>tip x y H4 fun z H5=>tset o i z H5 fun H6=>D.nx σ H6:=rfl
theorem J1k{f:Int→Int→Int}:ipI f x y H Q=∃i j,x= .int i∧y= .int j∧Q (.int (f i j)) H:=rfl
end
end L2
namespace N31
open L2 N1 N5
end N31
namespace N71
open L2 N1 N5 N4 N6 N12
theorem Io{f:Str}{v:V}:∀{fs:List (Str×V)},(fs.lookup f).isSome=true→(Aj f v fs).length=fs.length:=by
 intro fs
 induction fs with
 | nil=>intro h;cases h
 | cons p r ih=>
  obtain ⟨g,x⟩:=p;intro h
  by_cases e:g=f
  · subst e;simp [Aj]
  · have h2:(r.lookup f).isSome=true:=by
     rw [FS]at h;rw [show (f==g)=false from beq_false_of_ne (fun z=>e z.symm)]at h;exact h
    have:=ih h2;simp [Aj,e,this]
theorem N3(kvs:List (Key×V))(k:Key):B1 (Bf kvs k) k=none:=by
 induction kvs with
 | nil=>rfl
 | cons p r ih=>
  by_cases e:p.1=k
  · have:Bf (p::r) k=Bf r k:=by unfold Bf;rw [HX (by simp [e])]
    rw [this];exact ih
  · have:Bf (p::r) k=p::Bf r k:=by unfold Bf;rw [HW (by simp [e])]
    rw [this,Bl e];exact ih
theorem N7{kvs:List (Key×V)}{k j:Key}(n:j≠k):B1 (Bf kvs k) j=B1 kvs j:=by
 induction kvs with
 | nil=>rfl
 | cons p r ih=>
  by_cases e:p.1=k
  · have h1:Bf (p::r) k=Bf r k:=by unfold Bf;rw [HX (by simp [e])]
    rw [h1,ih,Bl (fun z=>n (by rw [← z,e]))]
  · have h1:Bf (p::r) k=p::Bf r k:=by unfold Bf;rw [HW (by simp [e])]
    rw [h1]
    by_cases e2:p.1=j
    · rw [Bw e2,Bw e2]
    · rw [Bl e2,Bl e2];exact ih
theorem Sl(kvs:List (Key×V))(k:Key):(Bf kvs k).length≤kvs.length:=Q9 kvs k
structure TwA where
 st:Addr
 si:Addr
 ro:Addr
 he:Addr
 la:Addr
 so:Addr
 en:Addr
 fi:Addr
structure Tfs(x:TwA)(pd:Int)(fs:List (Str×V)):Prop where
 st:fs.lookup (Str.ofString "stock")=some (.ref x.st)
 si:fs.lookup (Str.ofString "sizes")=some (.ref x.si)
 ro:fs.lookup (Str.ofString "row")=some (.ref x.ro)
 he:fs.lookup (Str.ofString "held")=some (.ref x.he)
 la:fs.lookup (Str.ofString "late")=some (.ref x.la)
 so:fs.lookup (Str.ofString "store")=some (.ref x.so)
 en:fs.lookup (Str.ofString "entries")=some (.ref x.en)
 fi:fs.lookup (Str.ofString "finds")=some (.ref x.fi)
 pd:fs.lookup (Str.ofString "paid")=some (.int pd)
 n:fs.length < 500
 m:∀m∈[Str.ofString "levels",Str.ofString "stored",Str.ofString "shelf_of",Str.ofString "fetch",Str.ofString "come",Str.ofString "fall_off",Str.ofString "write",Str.ofString "settle",Str.ofString "read",Str.ofString "keep",Str.ofString "rest",Str.ofString "ahead",Str.ofString "diary",Str.ofString "found",Str.ofString "spent"],fs.lookup m=none
theorem Tfs.paid{x:TwA}{pd pd':Int}{fs:List (Str×V)}(h:Tfs x pd fs):Tfs x pd' (Aj (Str.ofString "paid") (.int pd') fs):=by
 have k:∀g,g≠Str.ofString "paid"→(Aj (Str.ofString "paid") (.int pd') fs).lookup g=fs.lookup g:=fun g n=>by rw [An,if_neg n]
 refine ⟨?_,?_,?_,?_,?_,?_,?_,?_,by rw [An,if_pos rfl],?_,?_⟩
 · rw [k _ (by decide+kernel)];exact h.st
 · rw [k _ (by decide+kernel)];exact h.si
 · rw [k _ (by decide+kernel)];exact h.ro
 · rw [k _ (by decide+kernel)];exact h.he
 · rw [k _ (by decide+kernel)];exact h.la
 · rw [k _ (by decide+kernel)];exact h.so
 · rw [k _ (by decide+kernel)];exact h.en
 · rw [k _ (by decide+kernel)];exact h.fi
 · rw [Io (by rw [h.pd];rfl)];exact h.n
 · intro m hm
   have hne:∀m∈[Str.ofString "levels",Str.ofString "stored",Str.ofString "shelf_of",Str.ofString "fetch",Str.ofString "come",Str.ofString "fall_off",Str.ofString "write",Str.ofString "settle",Str.ofString "read",Str.ofString "keep",Str.ofString "rest",Str.ofString "ahead",Str.ofString "diary",Str.ofString "found",Str.ofString "spent"],m≠Str.ofString "paid":=by decide+kernel
   rw [k _ (hne m hm)];exact h.m m hm
theorem Tfs.late{x:TwA}{pd:Int}{l:Addr}{fs:List (Str×V)}(h:Tfs x pd fs):Tfs {x with la:=l} pd (Aj (Str.ofString "late") (.ref l) fs):=by
 have k:∀g,g≠Str.ofString "late"→(Aj (Str.ofString "late") (.ref l) fs).lookup g=fs.lookup g:=fun g n=>by rw [An,if_neg n]
 refine ⟨?_,?_,?_,?_,by rw [An,if_pos rfl],?_,?_,?_,?_,?_,?_⟩
 · rw [k _ (by decide+kernel)];exact h.st
 · rw [k _ (by decide+kernel)];exact h.si
 · rw [k _ (by decide+kernel)];exact h.ro
 · rw [k _ (by decide+kernel)];exact h.he
 · rw [k _ (by decide+kernel)];exact h.so
 · rw [k _ (by decide+kernel)];exact h.en
 · rw [k _ (by decide+kernel)];exact h.fi
 · rw [k _ (by decide+kernel)];exact h.pd
 · rw [Io (by rw [h.la];rfl)];exact h.n
 · intro m hm
   have hne:∀m∈[Str.ofString "levels",Str.ofString "stored",Str.ofString "shelf_of",Str.ofString "fetch",Str.ofString "come",Str.ofString "fall_off",Str.ofString "write",Str.ofString "settle",Str.ofString "read",Str.ofString "keep",Str.ofString "rest",Str.ofString "ahead",Str.ofString "diary",Str.ofString "found",Str.ofString "spent"],m≠Str.ofString "late":=by decide+kernel
   rw [k _ (hne m hm)];exact h.m m hm
structure TwS where
 zs:List Int
 R:List Str
 kh:List (Key×V)
 kl:List (Key×V)
 ks:List (Key×V)
 es:List V
 ff:List Int
 pd:Int
structure B9(C:Addr)(H:Hp)(t:Addr)(x:TwA)(s:TwS):Prop where
 o:∃dx fs,H t=some (.ins C dx fs)∧Tfs x s.pd fs
 si:H x.si=some (.lst (s.zs.map V.int))
 ro:H x.ro=some (.lst (s.R.map V.str))
 he:H x.he=some (.dK s.kh)
 la:H x.la=some (.dK s.kl)
 so:H x.so=some (.dK s.ks)
 en:H x.en=some (.lst s.es)
 fi:H x.fi=some (.lst (s.ff.map V.int))
 d1:x.he≠x.la
 d2:x.he≠x.so
 d3:x.la≠x.so
 l1:x.ro≠x.si
 l2:x.ro≠x.en
 l3:x.ro≠x.fi
 l4:x.si≠x.en
 l5:x.si≠x.fi
 l6:x.en≠x.fi
theorem B9.same{C:Addr}{H H':Hp}{t:Addr}{x:TwA}{s:TwS}(m:A9 H H')(h:B9 C H t x s):B9 C H' t x s:=by
 obtain ⟨dx,fs,h1,h2⟩:=h.o;exact ⟨⟨dx,fs,m _ _ h1,h2⟩,m _ _ h.si,m _ _ h.ro,m _ _ h.he,m _ _ h.la,m _ _ h.so,m _ _ h.en,m _ _ h.fi,h.d1,h.d2,h.d3,h.l1,h.l2,h.l3,h.l4,h.l5,h.l6⟩
def own(t:Addr)(x:TwA):List Addr:=[t,x.ro,x.he,x.la,x.so,x.en,x.fi]
def Off(L:List Addr)(H H':Hp):Prop:=∀b o,H b=some o→b∉L→H' b=some o
theorem Off.trans{L:List Addr}{H H1 H2:Hp}(a:Off L H H1)(b:Off L H1 H2):Off L H H2:=fun c o e n=>b c o (a c o e n) n
theorem Off.of{L:List Addr}{H H1:Hp}(s:A9 H H1):Off L H H1:=fun c o e _=>s c o e
theorem Off.put{L:List Addr}{H:Hp}{b:Addr}{o:HO}(h:b∈L):Off L H (upd H b o):=fun c u e n=>by
 rw [A4 (fun z=>n (by rw [z];exact h))];exact e
section
variable {C:Addr} {H:Hp} {t:Addr} {x:TwA} {s:TwS}
theorem B9.nt(h:B9 C H t x s){b:Addr}{u:HO}(e:H b=some u)(n:∀C dx fs,u≠ .ins C dx fs):t≠b:=by
 obtain ⟨dx,fs,h1,_⟩:=h.o
 exact fun z=>by rw [← z,h1]at e;cases e;exact n _ _ _ rfl
theorem B9.row(h:B9 C H t x s)(R:List Str):B9 C (upd H x.ro (.lst (R.map V.str))) t x {s with R:=R}:=by
 obtain ⟨dx,fs,h1,h2⟩:=h.o;have nt:=h.nt h.ro (by intro _ _ _ z;cases z);refine ⟨⟨dx,fs,by rw [A4 nt];exact h1,h2⟩,by rw [A4 h.l1.symm];exact h.si,A3,?_,?_,?_,by rw [A4 h.l2.symm];exact h.en,by rw [A4 h.l3.symm];exact h.fi,h.d1,h.d2,h.d3,h.l1,h.l2,h.l3,h.l4,h.l5,h.l6⟩
 · rw [A4 (Bp h.he h.ro (by intro z;cases z))];exact h.he
 · rw [A4 (Bp h.la h.ro (by intro z;cases z))];exact h.la
 · rw [A4 (Bp h.so h.ro (by intro z;cases z))];exact h.so
theorem B9.held(h:B9 C H t x s)(k:List (Key×V)):B9 C (upd H x.he (.dK k)) t x {s with kh:=k}:=by
 obtain ⟨dx,fs,h1,h2⟩:=h.o;have nt:=h.nt h.he (by intro _ _ _ z;cases z);refine ⟨⟨dx,fs,by rw [A4 nt];exact h1,h2⟩,?_,?_,A3,by rw [A4 h.d1.symm];exact h.la,by rw [A4 h.d2.symm];exact h.so,?_,?_,h.d1,h.d2,h.d3,h.l1,h.l2,h.l3,h.l4,h.l5,h.l6⟩
 · rw [A4 (Bp h.si h.he (by intro z;cases z))];exact h.si
 · rw [A4 (Bp h.ro h.he (by intro z;cases z))];exact h.ro
 · rw [A4 (Bp h.en h.he (by intro z;cases z))];exact h.en
 · rw [A4 (Bp h.fi h.he (by intro z;cases z))];exact h.fi
theorem B9.late(h:B9 C H t x s)(k:List (Key×V)):B9 C (upd H x.la (.dK k)) t x {s with kl:=k}:=by
 obtain ⟨dx,fs,h1,h2⟩:=h.o;have nt:=h.nt h.la (by intro _ _ _ z;cases z);refine ⟨⟨dx,fs,by rw [A4 nt];exact h1,h2⟩,?_,?_,by rw [A4 h.d1];exact h.he,A3,by rw [A4 h.d3.symm];exact h.so,?_,?_,h.d1,h.d2,h.d3,h.l1,h.l2,h.l3,h.l4,h.l5,h.l6⟩
 · rw [A4 (Bp h.si h.la (by intro z;cases z))];exact h.si
 · rw [A4 (Bp h.ro h.la (by intro z;cases z))];exact h.ro
 · rw [A4 (Bp h.en h.la (by intro z;cases z))];exact h.en
 · rw [A4 (Bp h.fi h.la (by intro z;cases z))];exact h.fi
theorem B9.store(h:B9 C H t x s)(k:List (Key×V)):B9 C (upd H x.so (.dK k)) t x {s with ks:=k}:=by
 obtain ⟨dx,fs,h1,h2⟩:=h.o;have nt:=h.nt h.so (by intro _ _ _ z;cases z);refine ⟨⟨dx,fs,by rw [A4 nt];exact h1,h2⟩,?_,?_,by rw [A4 h.d2];exact h.he,by rw [A4 h.d3];exact h.la,A3,?_,?_,h.d1,h.d2,h.d3,h.l1,h.l2,h.l3,h.l4,h.l5,h.l6⟩
 · rw [A4 (Bp h.si h.so (by intro z;cases z))];exact h.si
 · rw [A4 (Bp h.ro h.so (by intro z;cases z))];exact h.ro
 · rw [A4 (Bp h.en h.so (by intro z;cases z))];exact h.en
 · rw [A4 (Bp h.fi h.so (by intro z;cases z))];exact h.fi
theorem B9.entry(h:B9 C H t x s)(k:List V):B9 C (upd H x.en (.lst k)) t x {s with es:=k}:=by
 obtain ⟨dx,fs,h1,h2⟩:=h.o;have nt:=h.nt h.en (by intro _ _ _ z;cases z);refine ⟨⟨dx,fs,by rw [A4 nt];exact h1,h2⟩,by rw [A4 h.l4];exact h.si,by rw [A4 h.l2];exact h.ro,?_,?_,?_,A3,by rw [A4 h.l6.symm];exact h.fi,h.d1,h.d2,h.d3,h.l1,h.l2,h.l3,h.l4,h.l5,h.l6⟩
 · rw [A4 (Bp h.he h.en (by intro z;cases z))];exact h.he
 · rw [A4 (Bp h.la h.en (by intro z;cases z))];exact h.la
 · rw [A4 (Bp h.so h.en (by intro z;cases z))];exact h.so
theorem B9.find(h:B9 C H t x s)(k:List Int):B9 C (upd H x.fi (.lst (k.map V.int))) t x {s with ff:=k}:=by
 obtain ⟨dx,fs,h1,h2⟩:=h.o;have nt:=h.nt h.fi (by intro _ _ _ z;cases z);refine ⟨⟨dx,fs,by rw [A4 nt];exact h1,h2⟩,by rw [A4 h.l5];exact h.si,by rw [A4 h.l3];exact h.ro,?_,?_,?_,by rw [A4 h.l6];exact h.en,A3,h.d1,h.d2,h.d3,h.l1,h.l2,h.l3,h.l4,h.l5,h.l6⟩
 · rw [A4 (Bp h.he h.fi (by intro z;cases z))];exact h.he
 · rw [A4 (Bp h.la h.fi (by intro z;cases z))];exact h.la
 · rw [A4 (Bp h.so h.fi (by intro z;cases z))];exact h.so
end
theorem B9.paid{C:Addr}{H:Hp}{t:Addr}{x:TwA}{s:TwS}(h:B9 C H t x s){dx:Addr}{fs:List (Str×V)}(ho:H t=some (.ins C dx fs))(hf:Tfs x s.pd fs)(n:Int):B9 C (upd H t (.ins C dx (Aj (Str.ofString "paid") (.int n) fs))) t x {s with pd:=n}:=by
 have nt:∀(b:Addr) (u:HO),H b=some u→(∀C dx fs,u≠ .ins C dx fs)→b≠t:=fun b u e k=>(h.nt e k).symm;refine ⟨⟨dx,_,A3,hf.paid⟩,?_,?_,?_,?_,?_,?_,?_,h.d1,h.d2,h.d3,h.l1,h.l2,h.l3,h.l4,h.l5,h.l6⟩
 · rw [A4 (nt _ _ h.si (by intro _ _ _ z;cases z))];exact h.si
 · rw [A4 (nt _ _ h.ro (by intro _ _ _ z;cases z))];exact h.ro
 · rw [A4 (nt _ _ h.he (by intro _ _ _ z;cases z))];exact h.he
 · rw [A4 (nt _ _ h.la (by intro _ _ _ z;cases z))];exact h.la
 · rw [A4 (nt _ _ h.so (by intro _ _ _ z;cases z))];exact h.so
 · rw [A4 (nt _ _ h.en (by intro _ _ _ z;cases z))];exact h.en
 · rw [A4 (nt _ _ h.fi (by intro _ _ _ z;cases z))];exact h.fi
theorem B9.newLate{C:Addr}{H:Hp}{t:Addr}{x:TwA}{s:TwS}(h:B9 C H t x s){dx:Addr}{fs:List (Str×V)}(ho:H t=some (.ins C dx fs))(hf:Tfs x s.pd fs){l:Addr}(hl:H l=none):B9 C (upd (upd H l (.dK [])) t (.ins C dx (Aj (Str.ofString "late") (.ref l) fs))) t {x with la:=l} {s with kl:=[]}:=by
 have m:A9 H (upd H l (.dK [])):=A9.new hl;have ntl:l≠t:=(A6 ho hl).symm;have nt:∀(b:Addr) (u:HO),H b=some u→(∀C dx fs,u≠ .ins C dx fs)→b≠t:=fun b u e k=>(h.nt e k).symm;refine ⟨⟨dx,_,A3,hf.late⟩,?_,?_,?_,by rw [A4 ntl];exact A3,?_,?_,?_,A6 h.he hl,h.d2,(A6 h.so hl).symm,h.l1,h.l2,h.l3,h.l4,h.l5,h.l6⟩
 · rw [A4 (nt _ _ h.si (by intro _ _ _ z;cases z))];exact m _ _ h.si
 · rw [A4 (nt _ _ h.ro (by intro _ _ _ z;cases z))];exact m _ _ h.ro
 · rw [A4 (nt _ _ h.he (by intro _ _ _ z;cases z))];exact m _ _ h.he
 · rw [A4 (nt _ _ h.so (by intro _ _ _ z;cases z))];exact m _ _ h.so
 · rw [A4 (nt _ _ h.en (by intro _ _ _ z;cases z))];exact m _ _ h.en
 · rw [A4 (nt _ _ h.fi (by intro _ _ _ z;cases z))];exact m _ _ h.fi
def J1l(kl:List (Key×V)):V→Bool
 | .str y=>(B1 kl (Sum.inr y)).isSome
 | _=>false
theorem Ol(R:List Str)(kl:List (Key×V)):((R.map V.str).filter (J1l kl)).map (fun v=>v)=(R.filter fun y=>(B1 kl (Sum.inr y)).isSome).map V.str:=by
 rw [List.map_id',List.filter_map];rfl
structure B2(K:PySem.W.Frag)(S:Addr)(H:Hp)(p:Addr)(ts:List Th)(L:List Addr):Prop where
 ex:∃(dx d:Addr) (kvs:List (Key×V)),H p=some (.ins S dx (flds d))∧H d=some (.dK kvs)∧p∉L∧d∉L∧kvs.map (·.1)=ts.map (fun t=>Sum.inr t.1)∧
  ∀(i:Nat) (t:Th),ts[i]?=some t→∃a,kvs[i]?=some (Sum.inr t.1,.ref a)∧((Rd H a (.tup [.int i,.int t.2.1,.int t.2.2])∧a∉L)∨∀H',SqT K H' a [.int i,.int t.2.1,.int t.2.2])
theorem B2.at{K:PySem.W.Frag}{S:Addr}{H:Hp}{p:Addr}{ts:List Th}{L:List Addr}(h:B2 K S H p ts L):Au K S H p ts:=by
 obtain ⟨dx,d,kvs,h1,h2,_,_,h3,h4⟩:=h.ex;refine ⟨dx,d,kvs,h1,h2,h3,fun i t e=>?_⟩;obtain ⟨a,e1,e2 | e2⟩:=h4 i t e
 · exact ⟨a,e1,.inl e2.1⟩
 · exact ⟨a,e1,e2 H⟩
theorem B2.off{K:PySem.W.Frag}{S:Addr}{H H':Hp}{p:Addr}{ts:List Th}{L:List Addr}(o:Off L H H')(h:B2 K S H p ts L):B2 K S H' p ts L:=by
 obtain ⟨dx,d,kvs,h1,h2,n1,n2,h3,h4⟩:=h.ex;refine ⟨dx,d,kvs,o _ _ h1 n1,o _ _ h2 n2,n1,n2,h3,fun i t e=>?_⟩;obtain ⟨a,e1,⟨e2,n⟩ | e2⟩:=h4 i t e
 · refine ⟨a,e1,.inl ⟨?_,n⟩⟩
   rcases e2 with h | ⟨ob,h⟩
   · exact .inl (o _ _ h n)
   · exact .inr ⟨ob,o _ _ h n⟩
 · exact ⟨a,e1,.inr e2⟩
theorem B2.mono{K:PySem.W.Frag}{S:Addr}{H:Hp}{p:Addr}{ts:List Th}{L L':List Addr}(m:∀b∈L',b∈L∨H b=none)(h:B2 K S H p ts L):B2 K S H p ts L':=by
 obtain ⟨dx,d,kvs,h1,h2,n1,n2,h3,h4⟩:=h.ex
 have k:∀(b:Addr) (u:HO),H b=some u→b∉L→b∉L':=fun b u e n z=>by
  rcases m b z with h | h
  · exact n h
  · rw [h]at e;cases e
 refine ⟨dx,d,kvs,h1,h2,k _ _ h1 n1,k _ _ h2 n2,h3,fun i t e=>?_⟩;obtain ⟨a,e1,⟨e2,n⟩ | e2⟩:=h4 i t e
 · refine ⟨a,e1,.inl ⟨e2,?_⟩⟩
   rcases e2 with h | ⟨ob,h⟩
   · exact k _ _ h n
   · exact k _ _ h n
 · exact ⟨a,e1,.inr e2⟩
theorem B2.of{K:PySem.W.Frag}{S:Addr}{H:Hp}{p:Addr}{ts:List Th}(h:Au K S H p ts):B2 K S H p ts []:=by
 obtain ⟨dx,d,kvs,h1,h2,h3,h4⟩:=h.ex;refine ⟨dx,d,kvs,h1,h2,FR,FR,h3,fun i t e=>?_⟩;obtain ⟨a,e1,e2⟩:=h4 i t e;rcases e2 with e2 | e2
 · exact ⟨a,e1,.inl ⟨e2,FR⟩⟩
 · exact ⟨a,e1,.inr fun _=> .inr e2⟩
theorem Off.mono{L L':List Addr}{H H':Hp}(m:∀b∈L,b∈L')(o:Off L H H'):Off L' H H':=fun b u e n=>o b u e fun z=>n (m b z)
structure TwL(s:TwS)(B:Nat)(hd:Str→Prop):Prop where
 h:∀y,hd y→∃i:Int,B1 s.kh (Sum.inr y)=some (.int i)
 l:∀y,(B1 s.kl (Sum.inr y)).isSome=true→hd y
 st:∀y v,B1 s.ks (Sum.inr y)=some v→∃i:Int,v= .int i
 n1:s.kh.length≤B
 n2:s.kl.length≤B
 n3:s.ks.length≤B
 n4:s.es.length≤B
 b:B≤100000
theorem TwL.iff{s:TwS}{B B':Nat}{p q:Str→Prop}(h:TwL s B p)(e:∀u,p u↔q u)(hB:B≤B')(hb:B'≤100000):TwL s B' q:=
 ⟨fun y hy=>h.h y ((e y).mpr hy),fun y hy=>(e y).mp (h.l y hy),h.st,FA h.n1 hB,FA h.n2 hB,FA h.n3 hB,FA h.n4 hB,hb⟩
theorem Er{R:List Str}{z u:Str}:u∈z::R.erase z↔u∈R∨u=z:=by
 rw [Fh];constructor
 · rintro (h | h)
   · exact .inr h
   · exact .inl (List.mem_of_mem_erase h)
 · rintro (h | h)
   · by_cases e:u=z
     · exact .inl e
     · exact .inr ((List.mem_erase_of_ne e).mpr h)
   · exact .inl h
theorem Pn{R:List Str}{z:Str}(nd:R.Nodup):(z::R.erase z).Nodup:=Hr.mpr ⟨nd.not_mem_erase,nd.erase z⟩
theorem Om{R1:List Str}{S:Nat}(nd:R1.Nodup)(hl:R1.length=S+1):∃y,R1[R1.length - 1]?=some y∧R1.dropLast=R1.take S∧y∈R1∧∀u,u∈R1.dropLast↔u∈R1∧u≠y:=by
 have hS:S < R1.length:=by omega
 have e1:R1.dropLast=R1.take S:=by rw [List.dropLast_eq_take,show R1.length - 1=S by omega]
 have e2:R1=R1.take S++[R1[S]]:=by
  have:=Ru S R1;rw [List.drop_eq_getElem_cons hS,List.drop_eq_nil_of_le (by omega)]at this;exact this.symm
 refine ⟨R1[S],by rw [show R1.length - 1=S by omega,Fb hS],e1,Rl hS,fun u=>?_⟩;rw [e1]
 have nd2:(R1.take S++[R1[S]]).Nodup:=by rw [← e2];exact nd
 have nin:R1[S]∉R1.take S:=fun h=>(Hl.mp nd2).2.2 _ h _ Fj rfl;constructor
 · intro h
   exact ⟨R8 h,fun e=>nin (by rw [← e];exact h)⟩
 · rintro ⟨h1,h2⟩
   rw [e2]at h1;rcases Fq.mp h1 with h | h
   · exact h
   · exact absurd (Fg.mp h) h2
def lvl:List Int→List Str→Nat→List Str
 | [],_,_=>[]
 | z::_,R,0=>R.take z.toNat
 | z::zs,R,i+1=>lvl zs (R.drop z.toNat) i
def pre(zs:List Int)(i:Nat):Int:=(zs.take i).sum
theorem Ip{zs:List Int}(h:∀z∈zs,1≤z)(i:Nat):0≤pre zs i:=by
 unfold pre
 induction zs generalizing i with
 | nil=>simp
 | cons a l ih=>
  cases i with
  | zero=>simp
  | succ i=>
   have h1:=h a Fj;have h2:=ih (fun z hz=>h z (Fd _ hz)) i;rw [Re,R6];omega
theorem Sm{zs:List Int}{i:Nat}(h:i < zs.length):pre zs (i+1)=pre zs i+zs.getD i 0:=by
 unfold pre;rw [Hv,Fb h,Ra,Fk,Fb h];simp
theorem J5v{zs:List Int}(h:∀z∈zs,1≤z):∀{R:List Str} {i:Nat},i < zs.length→lvl zs R i=(R.drop (pre zs i).toNat).take (zs.getD i 0).toNat:=by
 induction zs with
 | nil=>intro R i hi;cases hi
 | cons a l ih=>
  intro R i hi
  cases i with
  | zero=>simp [lvl,pre]
  | succ i=>
   have h1:=h a Fj;have h2:=Ip (zs:=l) (fun z hz=>h z (Fd _ hz)) i
   have e:pre (a::l) (i+1)=a+pre l i:=by unfold pre;rw [Re,R6]
   show lvl l (R.drop a.toNat) i=_;rw [ih (fun z hz=>h z (Fd _ hz)) (by simpa using hi),e,List.drop_drop,show a.toNat+(pre l i).toNat=(a+pre l i).toNat by omega];rfl
theorem Md{zs:List Int}:∀{R:List Str} {i:Nat} {u:Str},u∈lvl zs R i→u∈R:=by
 induction zs with
 | nil=>intro R i u h;cases h
 | cons a l ih=>
  intro R i u h
  cases i with
  | zero=>exact R8 h
  | succ i=>exact List.mem_of_mem_drop (ih (R:=R.drop a.toNat) h)
theorem W1{zs:List Int}(h:∀z∈zs,1≤z):∀{R:List Str} {u:Str},(R.length:Int)≤zs.sum→u∈R→∃i,i < zs.length∧u∈lvl zs R i:=by
 induction zs with
 | nil=>
  intro R u hs hu
  have:R.length=0:=by simp at hs;simp [hs]
  rw [List.length_eq_zero_iff.mp this]at hu;cases hu
 | cons a l ih=>
  intro R u hs hu;have h1:=h a Fj;rw [R6]at hs
  have h3:0≤l.sum:=by
   have:=Ip (zs:=l) (fun z hz=>h z (Fd _ hz)) l.length;unfold pre at this;rw [FU]at this;exact this
  rw [← Ru a.toNat R]at hu;rcases Fq.mp hu with hu | hu
  · exact ⟨0,by simp,hu⟩
  · obtain ⟨i,hi,hui⟩:=ih (fun z hz=>h z (Fd _ hz)) (R:=R.drop a.toNat) (by rw [Hf];omega) hu
    exact ⟨i+1,by simpa using hi,hui⟩
theorem J3j(xs:List V)(a b:Nat)(h:a≤b):L7 xs (some (a:Int)) (some (b:Int))=(xs.drop a).take (b - a):=by
 unfold L7;rw [HT.Kj,HT.Kj]
 by_cases h1:a≤xs.length
 · rw [Nat.min_eq_left h1]
   by_cases h2:b≤xs.length
   · rw [Nat.min_eq_left h2]
   · rw [RO (by omega),Hd (by rw [Hf];exact Fe _),Hd (by rw [Hf];omega)]
 · rw [RO (by omega),RO (by omega),HC,R0,List.drop_eq_nil_of_le (by omega),List.take_nil]
theorem W2{zs:List Int}{R:List Str}{i:Nat}(h:∀z∈zs,1≤z∧z≤1000000)(hi:i < zs.length):L7 (R.map V.str) (some (pre zs i)) (some (pre zs i+zs.getD i 0))=(lvl zs R i).map V.str:=by
 have h0:=Ip (fun z hz=>(h z hz).1) i;have hz:=h _ (Fo (Ep hi));rw [J5v (fun z hz=>(h z hz).1) hi]
 have e1:pre zs i=((pre zs i).toNat:Int):=by omega
 have e2:pre zs i+zs.getD i 0=(((pre zs i).toNat+(zs.getD i 0).toNat:Nat):Int):=by omega
 have:=J3j (R.map V.str) (pre zs i).toNat ((pre zs i).toNat+(zs.getD i 0).toNat) (by omega);rw [← e1,← e2]at this;rw [this,show (pre zs i).toNat+(zs.getD i 0).toNat - (pre zs i).toNat=(zs.getD i 0).toNat by omega,← List.map_drop,← List.map_take]
def Xi(H:Hp)(as:List Addr)(zs:List Int)(R:List Str)(n:Nat):Prop:=as.length=n∧∀(i:Nat) (a:Addr),as[i]?=some a→H a=some (.lst ((lvl zs R i).map V.str))
def D9(w:Nat)(K:PySem.W.Frag)(C:Addr):Sp:=fun vs H Q _=>∃(p:Addr) (ts:List Th) (z:Str),vs=[.ref p,.str z]∧Au K C H p ts∧(ts.map (·.1)).Nodup∧z∈ts.map (·.1)∧∀(i:Nat) (t:Th),ts[i]?=some t→t.1=z→Q (.int (pick w i t)) H
def Cr(C:Addr):Sp:=fun vs H Q _=>∃(t:Addr) (x:TwA) (s:TwS),vs=[.ref t]∧B9 C H t x s∧s.zs.length≤6∧(∀z∈s.zs,1≤z∧z≤1000000)∧
 ∀(p:Addr) (as:List Addr) (H':Hp),H p=none→A9 H H'→H' p=some (.lst (as.map V.ref))→Xi H' as s.zs s.R s.zs.length→(∀a∈as,H a=none)→as.Nodup→p∉as→Q (.ref p) H'
structure Tow(K:PySem.W.Frag)(C S:Addr)(H:Hp)(t:Addr)(x:TwA)(s:TwS)(ts:List Th)(B:Nat):Prop where
 tw:B9 C H t x s
 sk:B2 K S H x.st ts (own t x)
 l:TwL s B (fun y=>y∈s.R)
 nd:s.R.Nodup
 rs:(s.R.length:Int)≤s.zs.sum
 z1:1≤s.zs.length
 zl:s.zs.length≤6
 zz:∀z∈s.zs,1≤z∧z≤1000000
 rn:∀y∈s.R,y∈ts.map (·.1)
 tn:(ts.map (·.1)).Nodup
 tl:ts.length≤59
 ff:s.ff.length=s.zs.length+1
theorem Tow.rl{K:PySem.W.Frag}{C S:Addr}{H:Hp}{t:Addr}{x:TwA}{s:TwS}{ts:List Th}{B:Nat}(h:Tow K C S H t x s ts B):s.R.length≤59:=by
 have h1:=List.Nodup.length_le_of_subset h.nd (fun y hy=>h.rn y hy);rw [Fa]at h1;exact FA h1 h.tl
theorem Tow.s1{K:PySem.W.Frag}{C S:Addr}{H:Hp}{t:Addr}{x:TwA}{s:TwS}{ts:List Th}{B:Nat}(h:Tow K C S H t x s ts B):1≤s.zs.sum:=by
 have h1:=h.z1;have h2:=h.zz
 cases e:s.zs with
 | nil=>rw [e]at h1;cases h1
 | cons a l=>
  rw [e]at h2;have h3:=h2 a Fj;have h4:=Ip (zs:=l) (fun z hz=>(h2 z (Fd _ hz)).1) l.length;unfold pre at h4;rw [FU]at h4;rw [R6];omega
theorem Tow.same{K:PySem.W.Frag}{C S:Addr}{H H':Hp}{t:Addr}{x:TwA}{s:TwS}{ts:List Th}{B:Nat}(m:A9 H H')(h:Tow K C S H t x s ts B):Tow K C S H' t x s ts B:=
 ⟨h.tw.same m,h.sk.off (.of m),h.l,h.nd,h.rs,h.z1,h.zl,h.zz,h.rn,h.tn,h.tl,h.ff⟩
def Di(z:Str)(s:TwS):List Str:=(z::s.R.erase z).take s.zs.sum.toNat
theorem Ga{K:PySem.W.Frag}{C S:Addr}{H H':Hp}{t:Addr}{x:TwA}{s s':TwS}{ts:List Th}{B B':Nat}{z:Str}(h:Tow K C S H t x s ts B)(hz:z∈ts.map (·.1))(o:Off (own t x) H H')(hT:B9 C H' t x s')(eR:s'.R=Di z s)(eZ:s'.zs=s.zs)(hL:TwL s' B' (fun y=>y∈s'.R))(hF:s'.ff.length=s.zs.length+1):Tow K C S H' t x s' ts B':=by
 have hs1:=h.s1;refine ⟨hT,h.sk.off o,hL,?_,?_,by rw [eZ];exact h.z1,by rw [eZ];exact h.zl,by rw [eZ];exact h.zz,fun y hy=>?_,h.tn,h.tl,by rw [eZ];exact hF⟩
 · rw [eR];exact (Pn h.nd).sublist (RH _ _)
 · rw [eR,eZ];unfold Di;rw [FV];omega
 · rw [eR]at hy
   rcases Er.mp (R8 hy) with h1 | h1
   · exact h.rn y h1
   · rw [h1];exact hz
def Gp(K:PySem.W.Frag):Sp:=fun vs H Q _=>∃(a:Addr) (zs:List Int),vs=[.ref a]∧SqL K H a (zs.map V.int)∧1≤zs.length∧zs.length≤6∧(∀z∈zs,1≤z∧z≤1000000)∧Q .non H
def Gq(K:PySem.W.Frag)(S:Addr):Sp:=fun vs H Q _=>∃(p a:Addr) (ts:List Th) (ys:List Str),vs=[.ref p,.ref a]∧Au K S H p ts∧(ts.map (·.1)).Nodup∧SqL K H a (ys.map V.str)∧(∀y∈ys,y∈ts.map (·.1))∧(∀t∈ts,t.2.2=1)∧ys.length≤60∧Q .non H
theorem By{H1 Hk:Hp}{t l C dx:Addr}{fs:List (Str×V)}{o:HO}{f:Str}(sb:SameBut t H1 Hk)(ht:Hk t=some (.ins C dx fs))(hl:Hk l=none):
 SameBut t H1 (upd (upd Hk l o) t (.ins C dx (Aj f (.ref l) fs)))∧upd (upd Hk l o) t (.ins C dx (Aj f (.ref l) fs)) t=some (.ins C dx (Aj f (.ref l) fs))∧upd (upd Hk l o) t (.ins C dx (Aj f (.ref l) fs)) l=some o∧
  (∀b u,Hk b=some u→b≠t→upd (upd Hk l o) t (.ins C dx (Aj f (.ref l) fs)) b=some u)∧H1 l=none∧l≠t∧(∀b u,Hk b=some u→b≠l):=by
 have ntl:l≠t:=(A6 ht hl).symm
 have kp:∀b u,Hk b=some u→b≠t→upd (upd Hk l o) t (.ins C dx (Aj f (.ref l) fs)) b=some u:=fun b u e n=>by
  rw [A4 n,A4 (A6 e hl)];exact e
 refine ⟨fun b u e n=>kp b u (sb b u e n) n,A3,by rw [A4 ntl];exact A3,kp,?_,ntl,fun b u e=>A6 e hl⟩
 cases q:H1 l with
 | none=>rfl
 | some u=>rw [sb _ _ q ntl]at hl;cases hl
theorem Aa{f:Str}{v:V}{fs:List (Str×V)}{k:Nat}(h:fs.length≤k):(Aj f v fs).length≤k+1:=FA (Ii f v fs) (Nat.succ_le_succ h)
def f1(x:TwA):List (Str×V):=Aj (Str.ofString "sizes") (.ref x.si) (Aj (Str.ofString "stock") (.ref x.st) [])
def f3(x:TwA):List (Str×V):=Aj (Str.ofString "late") (.ref x.la) (Aj (Str.ofString "held") (.ref x.he) (Aj (Str.ofString "row") (.ref x.ro) (f1 x)))
def f6(x:TwA):List (Str×V):=Aj (Str.ofString "paid") (.int 0) (Aj (Str.ofString "finds") (.ref x.fi) (Aj (Str.ofString "entries") (.ref x.en) (Aj (Str.ofString "store") (.ref x.so) (f3 x))))
theorem Sn(x:TwA):Tfs x 0 (f6 x):=by
 unfold f6 f3 f1;refine ⟨?_,?_,?_,?_,?_,?_,?_,?_,?_,?_,?_⟩
 case refine_10=>exact Fx (Aa (Aa (Aa (Aa (Aa (Aa (Aa (Aa (Aa (Fe _)))))))))) (by decide)
 case refine_11=>
  intro m hm
  have hne:∀m∈[Str.ofString "levels",Str.ofString "stored",Str.ofString "shelf_of",Str.ofString "fetch",Str.ofString "come",Str.ofString "fall_off",Str.ofString "write",Str.ofString "settle",Str.ofString "read",Str.ofString "keep",Str.ofString "rest",Str.ofString "ahead",Str.ofString "diary",Str.ofString "found",Str.ofString "spent"],m≠Str.ofString "paid"∧m≠Str.ofString "finds"∧m≠Str.ofString "entries"∧m≠Str.ofString "store"∧m≠Str.ofString "late"∧m≠Str.ofString "held"∧m≠Str.ofString "row"∧m≠Str.ofString "sizes"∧m≠Str.ofString "stock":=by decide+kernel
  obtain ⟨h1,h2,h3,h4,h5,h6,h7,h8,h9⟩:=hne m hm;rw [An,if_neg h1,An,if_neg h2,An,if_neg h3,An,if_neg h4,An,if_neg h5,An,if_neg h6,An,if_neg h7,An,if_neg h8,An,if_neg h9];rfl
 all_goals repeat first | (rw [An,if_pos rfl];done) | rw [An,if_neg (by decide+kernel)]
theorem B2.ins{K:PySem.W.Frag}{S C:Addr}{H:Hp}{p t dx:Addr}{ts:List Th}{L:List Addr}(ht:H t=some (.ins C dx []))(h:B2 K S H p ts L):B2 K S H p ts (t::L):=by
 obtain ⟨dy,d,kvs,h1,h2,n1,n2,h3,h4⟩:=h.ex
 have k:∀(b:Addr) (u:HO),H b=some u→u≠ .ins C dx []→b∉L→b∉t::L:=fun b u e ne n z=>by
  rcases Fh.mp z with h | h
  · rw [h,ht]at e;cases e;exact ne rfl
  · exact n h
 refine ⟨dy,d,kvs,h1,h2,k _ _ h1 (by intro z;injection z with _ _ z;cases z) n1,k _ _ h2 (by intro z;cases z) n2,h3,fun i t' e=>?_⟩;obtain ⟨a,e1,⟨e2,n⟩ | e2⟩:=h4 i t' e
 · refine ⟨a,e1,.inl ⟨e2,?_⟩⟩
   rcases e2 with h | ⟨ob,h⟩
   · exact k _ _ h (by intro z;cases z) n
   · exact k _ _ h (by intro z;cases z) n
 · exact ⟨a,e1,.inr e2⟩
theorem J7u(n:Nat):(List.replicate ((n:Int)+1).toNat [V.int 0]).flatten=(List.replicate (n+1) (0:Int)).map V.int:=by
 rw [show ((n:Int)+1).toNat=n+1 by omega,List.map_replicate,List.flatten_replicate_singleton]
end N71
namespace L2
def J8p(t1 t2:TE):TE:=fun σ H Q=>t1 σ H Q∨t2 σ H Q
theorem J1m{t1 t2:TE}{σ:St}{H:Hp}{Q:VK}:J8p t1 t2 σ H Q=(t1 σ H Q∨t2 σ H Q):=rfl
end L2
namespace L2
section
variable {K:PySem.W.Frag} {σ:St} {H:Hp} {D:Ig} {Q:VK}
theorem J1n{x:V}{vs:List V}:J74 x vs H Q=∃l xs y,x= .ref l∧vs=[]∧H l=some (.lst xs)∧xs[xs.length - 1]?=some y∧Q y (upd H l (.lst xs.dropLast)):=rfl
theorem On{ta tv:TE}{rd:V→V→Hp→VK→Prop}{f:Str}:Uh K ta tv rd f D σ H=ta σ H fun x H1=>∃a C dx fs v,x= .ref a∧H1 a=some (.ins C dx fs)∧Cls K C∧B7 K C f∧fs.lookup f=some v∧
 tv σ H1 fun y H2=>rd v y H2 fun z H3=>∃dx' fs',H3 a=some (.ins C dx' fs')∧fs'.length < 1000∧D.nx σ (upd H3 a (.ins C dx' (Aj f z fs'))):=rfl
theorem J1o{i:Nat}{te:TE}{ti:TIp}:J6l i te ti D σ H=∃x,σ[i]?=some (some x)∧te σ H fun y H1=>ti x y H1 fun z H2=>D.nx (σ.set i (some z)) H2:=rfl
end
end L2
namespace L2
open N1 N5
def J1p(K:PySem.W.Frag)(H:Hp)(x y:V):Prop:=∃(a b:Addr) (as bs:List Addr),x= .ref a∧y= .ref b∧SqL K H a (as.map V.ref)∧SqL K H b (bs.map V.ref)∧as.length=bs.length∧∀(i:Nat) (p q:Addr),as[i]?=some p→bs[i]?=some q→∃xs,SqL K H p xs∧SqL K H q xs∧xs.all Cz=true
def J7v(K:PySem.W.Frag):R2:=fun x y H Q=>J1p K H x y∧Q (.bl false) H
theorem W4{K:PySem.W.Frag}{H:Hp}{Q:VK}{x y:V}:J7v K x y H Q=(J1p K H x y∧Q (.bl false) H):=rfl
end L2
namespace N71
open L2 N1 N5 N4 N6 N12
def Ll:Sp:=fun vs H Q _=>∃c:Int,vs=[.int c]∧∀(p:Addr) (zs:List Int) (H':Hp),H p=none→A9 H H'→H' p=some (.lst (zs.map V.int))→1≤zs.length→zs.length≤6→(∀z∈zs,1≤z∧z≤1000000)→Q (.ref p) H'
theorem Tow.up{K:PySem.W.Frag}{C S:Addr}{H:Hp}{t:Addr}{x:TwA}{s:TwS}{ts:List Th}{B B':Nat}(h:Tow K C S H t x s ts B)(hB:B≤B')(hb:B'≤100000):Tow K C S H t x s ts B':=
 ⟨h.tw,h.sk,h.l.iff (fun _=>Iff.rfl) hB hb,h.nd,h.rs,h.z1,h.zl,h.zz,h.rn,h.tn,h.tl,h.ff⟩
theorem W6{L L':List Addr}{H:Hp}{b:Addr}{o:HO}(m:∀c∈L',c∈L∨H c=none)(e:H b=some o)(n:b∉L):b∉L':=fun h=>by
 rcases m b h with h | h
 · exact n h
 · rw [h]at e;cases e
end N71
namespace L2
def Itk(o:Obj)(d:Addr):It:=
 ⟨fun i H=>∃kvs p,H d=some (.frz o (.dK kvs))∧kvs[i]?=some p,fun i H v H'=>H'=H∧∀kvs,H d=some (.frz o (.dK kvs))→∃p,kvs[i]?=some p∧v=kV p.1,
  fun i H=>∃kvs,H d=some (.frz o (.dK kvs))∧kvs.length≤i⟩
section
variable {X:Cx}
def J7w(tl:TE):TI:=fun σ H R=>tl σ H fun x H1=>∃d kvs,x= .ref d∧((H1 d=some (.dK kvs)∧∀o,R (Itk o d) (upd H1 d (.frz o (.dK kvs))))∨∃o,H1 d=some (.frz o (.dK kvs))∧R (Itk o d) H1)
end
section
variable {σ:St} {H:Hp} {D:Ig}
theorem So{tl:TE}{R:It→Hp→Prop}:J7w tl σ H R=tl σ H fun x H1=>∃d kvs,x= .ref d∧((H1 d=some (.dK kvs)∧∀o,R (Itk o d) (upd H1 d (.frz o (.dK kvs))))∨∃o,H1 d=some (.frz o (.dK kvs))∧R (Itk o d) H1):=rfl
end
end L2
namespace N74
open L2 N1 N5 N4 N6 N12 N71
structure Gt where
 h:Str→Int
 l:Str→Bool
 st:Str→Int
 es:List (List V)
def Cd{α:Type}(f:Str→α)(z:Str)(v:α):Str→α:=fun y=>if y=z then v else f y
theorem Al{α:Type}{f:Str→α}{z:Str}{v:α}:Cd f z v z=v:=if_pos rfl
theorem B0{α:Type}{f:Str→α}{z y:Str}{v:α}(n:y≠z):Cd f z v y=f y:=if_neg n
def wrT(z:Str)(v:Int):List V:=[.str (Str.ofString "write"),.str z,.int v]
def Gt.write(g:Gt)(z:Str):Gt:={g with st:=Cd g.st z (g.h z),es:=g.es++[wrT z (g.h z)]}
def Gt.late(g:Gt)(z:Str)(b:Bool):Gt:={g with l:=Cd g.l z b}
def Gt.hold(g:Gt)(z:Str)(v:Int):Gt:={g with h:=Cd g.h z v}
def G2(pr:Bool)(z:Str)(g:Gt):Gt:=if pr then g.write z else g.late z true
def Ci(z:Str)(g:Gt):Gt:=if g.l z then (g.late z false).write z else g
def J1q(R:List Str):Str:=(R[R.length - 1]?).getD Str.empty
def Bz(S:Int)(R:List Str)(z:Str)(g:Gt):Gt:=if S < ((z::R.erase z).length:Int) then Ci (J1q (z::R.erase z)) g else g
def Dn(w z:Str)(g:Gt):Gt:={g with es:=g.es++[[.str w,.str z]],h:=Cd g.h z (g.st z)}
def Cs(S:Int)(R:List Str)(z:Str)(g:Gt):Gt:=Bz S R z (if z∈R then g else Dn (Str.ofString "fetch") z g)
def Oo(pr:Bool)(S:Int)(R:List Str)(z:Str)(v:Int)(g:Gt):Gt:=Bz S R z (G2 pr z (g.hold z v))
def Ce(S:Int)(R:List Str)(z:Str)(g:Gt):Gt:=if z∈R then g else Bz S R z (Dn (Str.ofString "ahead") z g)
def C6(ys:List Str)(g:Gt):Gt:=ys.foldl (fun g y=>g.write y) g
def G3(R:List Str)(g:Gt):Gt:={C6 (R.filter g.l) g with l:=fun _=>false}
structure TwG(H:Hp)(s:TwS)(g:Gt)(B:Nat)(hd:Str→Prop):Prop where
 h:∀y,hd y→B1 s.kh (Sum.inr y)=some (.int (g.h y))
 l:∀y,(B1 s.kl (Sum.inr y)).isSome=g.l y
 lh:∀y,g.l y=true→hd y
 st:∀y,(B1 s.ks (Sum.inr y)).getD (.int 0)= .int (g.st y)
 es:∃us:List Addr,s.es=us.map V.ref∧us.length=g.es.length∧∀(i:Nat) (u:Addr) (e:List V),us[i]?=some u→g.es[i]?=some e→H u=some (.tup e)
 n1:s.kh.length≤B
 n2:s.kl.length≤B
 n3:s.ks.length≤B
 n4:s.es.length≤B
 b:B≤100000
 fl:∀e∈g.es,e.all Cz=true
section
variable {H H':Hp} {s s':TwS} {g:Gt} {B B':Nat} {hd q:Str→Prop} {z:Str}
theorem TwG.toL(h:TwG H s g B hd):TwL s B hd:=by
 refine ⟨fun y hy=>⟨_,h.h y hy⟩,fun y hy=>h.lh y (by rw [← h.l y];exact hy),fun y v hv=>?_,h.n1,h.n2,h.n3,h.n4,h.b⟩;have:=h.st y;rw [hv]at this;exact ⟨_,this⟩
theorem TwG.keep(h:TwG H s g B hd)(k:∀v e,H v=some (.tup e)→H' v=some (.tup e)):TwG H' s g B hd:=by
 obtain ⟨us,e1,e2,e3⟩:=h.es;exact ⟨h.h,h.l,h.lh,h.st,⟨us,e1,e2,fun i u e h1 h2=>k _ _ (e3 i u e h1 h2)⟩,h.n1,h.n2,h.n3,h.n4,h.b,h.fl⟩
theorem TwG.same(m:A9 H H')(h:TwG H s g B hd):TwG H' s g B hd:=h.keep fun v e hv=>m _ _ hv
theorem Kr{C t:Addr}{x:TwA}(hT:B9 C H t x s')(o:Off (own t x) H H'):∀v e,H v=some (.tup e)→H' v=some (.tup e):=fun v e hv=>by
 refine o v _ hv fun hm=>?_;obtain ⟨dx,fs,h1,h2⟩:=hT.o
 have hm':v=t∨v=x.ro∨v=x.he∨v=x.la∨v=x.so∨v=x.en∨v=x.fi:=by simpa [own] using hm
 rcases hm' with e | e | e | e | e | e | e <;> rw [e]at hv
 · rw [h1]at hv;cases hv
 · rw [hT.ro]at hv;cases hv
 · rw [hT.he]at hv;cases hv
 · rw [hT.la]at hv;cases hv
 · rw [hT.so]at hv;cases hv
 · rw [hT.en]at hv;cases hv
 · rw [hT.fi]at hv;cases hv
theorem TwG.off{C t:Addr}{x:TwA}(hT:B9 C H t x s')(o:Off (own t x) H H')(h:TwG H s g B hd):TwG H' s g B hd:=h.keep (Kr hT o)
theorem TwG.iff(h:TwG H s g B hd)(e:∀u,hd u↔q u)(hB:B≤B')(hb:B'≤100000):TwG H s g B' q:=
 ⟨fun y hy=>h.h y ((e y).mpr hy),h.l,fun y hy=>(e y).mp (h.lh y hy),h.st,h.es,FA h.n1 hB,FA h.n2 hB,FA h.n3 hB,FA h.n4 hB,hb,h.fl⟩
theorem TwG.cast(h:TwG H s g B hd)(e1:s'.kh=s.kh)(e2:s'.kl=s.kl)(e3:s'.ks=s.ks)(e4:s'.es=s.es):TwG H s' g B hd:=
 ⟨by rw [e1];exact h.h,by rw [e2];exact h.l,h.lh,by rw [e3];exact h.st,by rw [e4];exact h.es,by rw [e1];exact h.n1,by rw [e2];exact h.n2,by rw [e3];exact h.n3,by rw [e4];exact h.n4,h.b,h.fl⟩
theorem Gr{y z:Str}(e:y≠z):(Sum.inr y:Key)≠Sum.inr z:=fun h=>e (by injection h)
theorem Po{us:List Addr}{ee:List (List V)}{u:Addr}{e:List V}(hl:us.length=ee.length)(k:∀v e,H v=some (.tup e)→H' v=some (.tup e))(h:∀(i:Nat) (u:Addr) (e:List V),us[i]?=some u→ee[i]?=some e→H u=some (.tup e))(hu:H' u=some (.tup e)):
 ∀(i:Nat) (v:Addr) (f:List V),(us++[u])[i]?=some v→(ee++[e])[i]?=some f→H' v=some (.tup f):=by
 intro i v f h1 h2
 by_cases hi:i < us.length
 · rw [Fu hi]at h1
   rw [Fu (by omega)]at h2;exact k _ _ (h i v f h1 h2)
 · have h3:=(Fc.mp h1).1
   rw [Ff]at h3
   have h4:i=us.length:=by simp at h3;omega
   subst h4;rw [Fy (Fe _),HC]at h1;rw [hl,Fy (Fe _),HC]at h2;cases h1;cases h2;exact hu
theorem Pp{ee:List (List V)}{e:List V}(h:∀e∈ee,e.all Cz=true)(he:e.all Cz=true):∀f∈ee++[e],f.all Cz=true:=fun f hf=>by
 rcases Fq.mp hf with h1 | h1
 · exact h f h1
 · rw [Fg.mp h1];exact he
theorem TwG.wrote(h:TwG H s g B hd)(hz:hd z)(k:∀v e,H v=some (.tup e)→H' v=some (.tup e)){u:Addr}(hu:H' u=some (.tup (wrT z (g.h z))))(hB:B+1≤100000):TwG H' {s with ks:=B8 s.ks (Sum.inr z) (.int (g.h z)),es:=s.es++[.ref u]} (g.write z) (B+1) hd:=by
 obtain ⟨us,e1,e2,e3⟩:=h.es;have h5:=Bx s.ks (Sum.inr z:Key) (V.int (g.h z));refine ⟨h.h,h.l,h.lh,fun y=>?_,⟨us++[u],by rw [Ft,e1];rfl,by show _=(g.es++[_]).length;rw [Ff,Ff,e2];rfl,Po e2 k e3 hu⟩,FO h.n1,FO h.n2,by have:=h.n3;show (B8 _ _ _).length≤_;omega,by have:=h.n4;show (s.es++[_]).length≤_;rw [Ff];show s.es.length+1≤_;omega,hB,Pp h.fl rfl⟩;show (B1 (B8 s.ks (Sum.inr z) (.int (g.h z))) (Sum.inr y)).getD (.int 0)= .int (Cd g.st z (g.h z) y);rw [E2]
 by_cases e:y=z
 · subst e;rw [if_pos rfl,Al];rfl
 · rw [if_neg (Gr e),B0 e];exact h.st y
theorem TwG.noted(h:TwG H s g B hd)(k:∀v e,H v=some (.tup e)→H' v=some (.tup e)){u:Addr}{e:List V}(hu:H' u=some (.tup e))(he:e.all Cz=true)(hB:B+1≤100000){pd:Int}:TwG H' {s with pd:=pd,es:=s.es++[.ref u]} {g with es:=g.es++[e]} (B+1) hd:=by
 obtain ⟨us,e1,e2,e3⟩:=h.es;exact ⟨h.h,h.l,h.lh,h.st,⟨us++[u],by rw [Ft,e1];rfl,by show _=(g.es++[_]).length;rw [Ff,Ff,e2];rfl,Po e2 k e3 hu⟩,FO h.n1,FO h.n2,FO h.n3,by have:=h.n4;show (s.es++[_]).length≤_;rw [Ff];show s.es.length+1≤_;omega,hB,Pp h.fl he⟩
theorem TwG.fetched(h:TwG H s g B hd)(k:∀v e,H v=some (.tup e)→H' v=some (.tup e)){u:Addr}{w:Str}(hu:H' u=some (.tup [.str w,.str z]))(hB:B+1≤100000){pd:Int}:TwG H' {s with pd:=pd,es:=s.es++[.ref u],kh:=B8 s.kh (Sum.inr z) (.int (g.st z))} (Dn w z g) (B+1) (fun y=>hd y∨y=z):=by
 obtain ⟨us,e1,e2,e3⟩:=h.es;have h5:=Bx s.kh (Sum.inr z:Key) (V.int (g.st z));refine ⟨fun y hy=>?_,h.l,fun y hy=> .inl (h.lh y hy),h.st,⟨us++[u],by rw [Ft,e1];rfl,by show _=(g.es++[_]).length;rw [Ff,Ff,e2];rfl,Po e2 k e3 hu⟩,by have:=h.n1;show (B8 _ _ _).length≤_;omega,FO h.n2,FO h.n3,by have:=h.n4;show (s.es++[_]).length≤_;rw [Ff];show s.es.length+1≤_;omega,hB,Pp h.fl rfl⟩;show B1 (B8 s.kh (Sum.inr z) (.int (g.st z))) (Sum.inr y)=some (.int (Cd g.h z (g.st z) y));rw [E2]
 by_cases e:y=z
 · subst e;rw [if_pos rfl,Al]
 · rw [if_neg (Gr e),B0 e];exact h.h y (hy.resolve_right e)
theorem TwG.kept(h:TwG H s g B hd)(v:Int)(hB:B+1≤100000):TwG H {s with kh:=B8 s.kh (Sum.inr z) (.int v)} (g.hold z v) (B+1) (fun y=>hd y∨y=z):=by
 have h5:=Bx s.kh (Sum.inr z:Key) (V.int v);refine ⟨fun y hy=>?_,h.l,fun y hy=> .inl (h.lh y hy),h.st,h.es,by have:=h.n1;show (B8 _ _ _).length≤_;omega,FO h.n2,FO h.n3,FO h.n4,hB,h.fl⟩;show B1 (B8 s.kh (Sum.inr z) (.int v)) (Sum.inr y)=some (.int (Cd g.h z v y));rw [E2]
 by_cases e:y=z
 · subst e;rw [if_pos rfl,Al]
 · rw [if_neg (Gr e),B0 e];exact h.h y (hy.resolve_right e)
theorem TwG.lateOn(h:TwG H s g B hd)(hz:hd z)(hB:B+1≤100000):TwG H {s with kl:=B8 s.kl (Sum.inr z) (.bl true)} (g.late z true) (B+1) hd:=by
 have h5:=Bx s.kl (Sum.inr z:Key) (V.bl true);refine ⟨h.h,fun y=>?_,fun y hy=>?_,h.st,h.es,FO h.n1,by have:=h.n2;show (B8 _ _ _).length≤_;omega,FO h.n3,FO h.n4,hB,h.fl⟩
 · show (B1 (B8 s.kl (Sum.inr z) (.bl true)) (Sum.inr y)).isSome=Cd g.l z true y
   rw [E2]
   by_cases e:y=z
   · subst e;rw [if_pos rfl,Al];rfl
   · rw [if_neg (Gr e),B0 e];exact h.l y
 · by_cases e:y=z
   · rw [e];exact hz
   · have hy2:Cd g.l z true y=true:=hy
     rw [B0 e]at hy2;exact h.lh y hy2
theorem TwG.lateOff(h:TwG H s g B hd):TwG H {s with kl:=Bf s.kl (Sum.inr z)} (g.late z false) B hd:=by
 have h5:=Sl s.kl (Sum.inr z:Key);refine ⟨h.h,fun y=>?_,fun y hy=>?_,h.st,h.es,h.n1,by have:=h.n2;show (Bf _ _).length≤_;omega,h.n3,h.n4,h.b,h.fl⟩
 · show (B1 (Bf s.kl (Sum.inr z)) (Sum.inr y)).isSome=Cd g.l z false y
   by_cases e:y=z
   · subst e;rw [N3,Al];rfl
   · rw [N7 (Gr e),B0 e];exact h.l y
 · have hy2:Cd g.l z false y=true:=hy
   by_cases e:y=z
   · rw [e,Al]at hy2;cases hy2
   · rw [B0 e]at hy2;exact h.lh y hy2
theorem TwG.popped(h:TwG H s g B hd)(hz:g.l z=false):TwG H {s with kh:=Bf s.kh (Sum.inr z)} g B (fun y=>hd y∧y≠z):=by
 have h5:=Sl s.kh (Sum.inr z:Key);refine ⟨fun y hy=>?_,h.l,fun y hy=>⟨h.lh y hy,fun e=>by rw [e,hz]at hy;cases hy⟩,h.st,h.es,by have:=h.n1;show (Bf _ _).length≤_;omega,h.n2,h.n3,h.n4,h.b,h.fl⟩;show B1 (Bf s.kh (Sum.inr z)) (Sum.inr y)=_;rw [N7 (Gr hy.2)];exact h.h y hy.1
theorem TwG.noLate(h:TwG H s g B hd):TwG H {s with kl:=[]} {g with l:=fun _=>false} B hd:=
 ⟨h.h,(fun y=>rfl),(fun y hy=>by cases hy),h.st,h.es,h.n1,Fl _,h.n3,h.n4,h.b,h.fl⟩
end
structure Cj(K:PySem.W.Frag)(C S:Addr)(H:Hp)(t:Addr)(x:TwA)(s:TwS)(g:Gt)(ts:List Th)(B:Nat):Prop where
 to:Tow K C S H t x s ts B
 g:TwG H s g B (fun y=>y∈s.R)
theorem Cj.same{K:PySem.W.Frag}{C S:Addr}{H H':Hp}{t:Addr}{x:TwA}{s:TwS}{g:Gt}{ts:List Th}{B:Nat}(m:A9 H H')(h:Cj K C S H t x s g ts B):Cj K C S H' t x s g ts B:=⟨h.to.same m,h.g.same m⟩
def Bo(ts:List Th)(z:Str):Int:=((ts.find? fun t=>t.1=z).map fun t=>t.2.1).getD 0
theorem Oq{ts:List Th}{z:Str}{i:Nat}{t:Th}(nd:(ts.map (·.1)).Nodup)(h:ts[i]?=some t)(e:t.1=z):Bo ts z=t.2.1:=by
 unfold Bo
 cases hf:ts.find? (fun t=>t.1=z) with
 | none=>
  rw [List.find?_eq_none]at hf;exact absurd (by simpa using e) (hf t (Fo h))
 | some t'=>
  have h1:=List.mem_of_find?_eq_some hf
  have h2:t'.1=z:=by simpa using List.find?_some hf
  obtain ⟨j,hj⟩:=FP.mp h1
  have ij:i=j:=by
   have hi:=(Fc.mp h).1;have hj':=(Fc.mp hj).1;refine (List.getElem_inj (h₀:=show i < (ts.map fun t:Th=>t.1).length by simpa using hi) (h₁:=show j < (ts.map fun t:Th=>t.1).length by simpa using hj') nd).mp ?_;have a1:ts[i]=t:=(Fc.mp h).2;have a2:ts[j]=t':=(Fc.mp hj).2;rw [List.getElem_map,List.getElem_map,a1,a2,e,h2]
  subst ij;rw [hj]at h;cases h;rfl
def Do(C:Addr):Sp:=fun vs H Q _=>∃(t:Addr) (x:TwA) (s:TwS) (g:Gt) (z:Str) (B:Nat) (hd:Str→Prop),vs=[.ref t,.str z]∧B9 C H t x s∧TwG H s g B hd∧B≤90000∧hd z∧
 ∀(s':TwS) (H':Hp),Off (own t x) H H'→B9 C H' t x s'→s'.R=s.R→s'.zs=s.zs→s'.ff=s.ff→s'.pd=s.pd→s'.kl=s.kl→TwG H' s' (g.write z) (B+1) hd→Q .non H'
def Da(C:Addr)(pr:Bool):Sp:=fun vs H Q _=>∃(t:Addr) (x:TwA) (s:TwS) (g:Gt) (z:Str) (B:Nat) (hd:Str→Prop),vs=[.ref t,.str z]∧B9 C H t x s∧TwG H s g B hd∧B≤90000∧hd z∧
 ∀(s':TwS) (H':Hp),Off (own t x) H H'→B9 C H' t x s'→s'.R=s.R→s'.zs=s.zs→s'.ff=s.ff→s'.pd=s.pd→TwG H' s' (G2 pr z g) (B+1) hd→Q .non H'
def Ei(C:Addr):Sp:=fun vs H Q _=>∃(t:Addr) (x:TwA) (s:TwS) (g:Gt) (z:Str) (B:Nat) (hd:Str→Prop),vs=[.ref t,.str z]∧B9 C H t x s∧TwG H s g B hd∧B≤90000∧hd z∧
 ∀(s':TwS) (H':Hp),Off (own t x) H H'→B9 C H' t x s'→s'.R=s.R→s'.zs=s.zs→s'.ff=s.ff→s'.pd=s.pd→TwG H' s' (Ci z g) (B+1) (fun y=>hd y∧y≠z)→Q .non H'
def Ej(C:Addr):Sp:=fun vs H Q _=>∃(t:Addr) (x:TwA) (s:TwS) (g:Gt) (z:Str) (B:Nat),vs=[.ref t,.str z]∧B9 C H t x s∧TwG H s g B (fun y=>y∈s.R∨y=z)∧B≤90000∧s.R.Nodup∧s.R.length≤60∧(s.R.length:Int)≤s.zs.sum∧1≤s.zs.sum∧
 ∀(s':TwS) (H':Hp),Off (own t x) H H'→B9 C H' t x s'→s'.R=(z::s.R.erase z).take s.zs.sum.toNat→s'.zs=s.zs→s'.ff=s.ff→s'.pd=s.pd→TwG H' s' (Bz s.zs.sum s.R z g) (B+1) (fun y=>y∈s'.R)→Q .non H'
def Ct(K:PySem.W.Frag)(C S:Addr):Sp:=fun vs H Q _=>∃(t:Addr) (x:TwA) (s:TwS) (g:Gt) (z:Str) (ts:List Th) (B:Nat) (hd:Str→Prop),vs=[.ref t,.str z]∧B9 C H t x s∧B2 K S H x.st ts (own t x)∧(ts.map (·.1)).Nodup∧z∈ts.map (·.1)∧TwG H s g B hd∧Q (.int (g.st z)) H
def Dq(K:PySem.W.Frag)(C S:Addr):Sp:=fun vs H Q _=>∃(t:Addr) (x:TwA) (s:TwS) (g:Gt) (w z:Str) (ts:List Th) (B:Nat) (p:Str→Prop),vs=[.ref t,.str w,.str z]∧B9 C H t x s∧B2 K S H x.st ts (own t x)∧(ts.map (·.1)).Nodup∧z∈ts.map (·.1)∧TwG H s g B p∧B≤90000∧
 ∀(s':TwS) (H':Hp),Off (own t x) H H'→B9 C H' t x s'→s'.R=s.R→s'.zs=s.zs→s'.ff=s.ff→s'.pd=s.pd+Bo ts z→TwG H' s' (Dn w z g) (B+1) (fun y=>p y∨y=z)→Q .non H'
def N9(C:Addr):Sp:=fun vs H Q _=>∃(t:Addr) (x:TwA) (s:TwS),vs=[.ref t]∧B9 C H t x s∧s.es.length≤100000∧∀(p:Addr) (H':Hp),H p=none→A9 H H'→H' p=some (.lst s.es)→Q (.ref p) H'
def g0:Gt:=⟨fun _=>0,fun _=>false,fun _=>0,[]⟩
end N74
namespace N74
open L2 N1 N5 N4 N6 N12 N71
theorem Cj.up{K:PySem.W.Frag}{C S:Addr}{H:Hp}{t:Addr}{x:TwA}{s:TwS}{g:Gt}{ts:List Th}{B B':Nat}(h:Cj K C S H t x s g ts B)(hB:B≤B')(hb:B'≤100000):Cj K C S H t x s g ts B':=⟨h.to.up hB hb,h.g.iff (fun _=>Iff.rfl) hB hb⟩
end N74
namespace L2
theorem W7{σ:St}{H:Hp}{Q:VK}{trs:List (TE×TE)}:J7a trs σ H Q=∀p,H p=none→Mr trs σ (upd H p (.dK [])) fun ps H2=>H2 p=some (.dK [])∧∃kvs:List (Key×V),ps=kvs.map (fun kv=>(kV kv.1,kv.2))∧kvs.length≤15∧Q (.ref p) (upd H2 p (.dK (Yo [] kvs))):=rfl
end L2
namespace N76
open L2 N1 N5 N4 N6 N12 N71 N74
structure StA where
 li:Addr
 ne:Addr
 la:Addr
 fa:Addr
 no:Addr
def J7x(S:Int)(R:List Str)(d:Int)(z:Str):List Str:=if 6 < d then R else if d=6∧z∈R then R else (z::R.erase z).take S.toNat
def J7y(pr:Bool)(S:Int)(R:List Str)(d:Int)(z:Str)(v:Int)(g:Gt):Gt:=if 6 < d then G3 R g else if d=6 then Ce S R z g else if d < 3 then Cs S R z g else Oo pr S R z v g
def J7z(S:Int)(R:List Str)(d:Int)(z:Str)(v:Int)(g:Gt):V:=if 6 < d then .int ((R.filter g.l).length:Nat) else if d=6 then .bl (decide (z∉R)) else if d < 3 then .int ((Cs S R z g).h z) else .int v
def s0(zs:List Int):TwS:=⟨zs,[],[],[],[],[],[],0⟩
theorem Gs{K:PySem.W.Frag}{S:Addr}{H H':Hp}{p:Addr}{ts:List Th}{L L1 M:List Addr}(h:B2 K S H p ts L)(o:Off M H H')(hM:∀b∈M,b∈L)(m:∀b∈L1,b∈L∨H b=none):B2 K S H' p ts L1:=
 ((h.mono (L':=L++L1) (fun b hb=>by
   rcases Fq.mp hb with k | k
   · exact .inl k
   · exact m b k)).off (o.mono fun b hb=>FJ _ (hM b hb))).mono fun b hb=> .inl (Fv _ hb)
theorem Na{K:PySem.W.Frag}{C S:Addr}{H H':Hp}{t:Addr}{x:TwA}{s:TwS}{g:Gt}{ts:List Th}{B:Nat}{M:List Addr}(h:Cj K C S H t x s g ts B)(o:Off M H H')(n:∀b∈x.si::own t x,b∉M)(kt:∀v e,H v=some (.tup e)→H' v=some (.tup e))(sk:B2 K S H' x.st ts (own t x)):Cj K C S H' t x s g ts B:=by
 obtain ⟨dx,fs,h1,h2⟩:=h.to.tw.o;exact ⟨⟨⟨⟨dx,fs,o _ _ h1 (n _ (by simp [own])),h2⟩,o _ _ h.to.tw.si (n _ (by simp [own])),o _ _ h.to.tw.ro (n _ (by simp [own])),o _ _ h.to.tw.he (n _ (by simp [own])),o _ _ h.to.tw.la (n _ (by simp [own])),o _ _ h.to.tw.so (n _ (by simp [own])),o _ _ h.to.tw.en (n _ (by simp [own])),o _ _ h.to.tw.fi (n _ (by simp [own])),h.to.tw.d1,h.to.tw.d2,h.to.tw.d3,h.to.tw.l1,h.to.tw.l2,h.to.tw.l3,h.to.tw.l4,h.to.tw.l5,h.to.tw.l6⟩,sk,h.to.l,h.to.nd,h.to.rs,h.to.z1,h.to.zl,h.to.zz,h.to.rn,h.to.tn,h.to.tl,h.to.ff⟩,h.g.keep kt⟩
theorem Nb{C:Addr}{H:Hp}{t:Addr}{x:TwA}{s:TwS}(h:B9 C H t x s):∀b∈x.si::own t x,∃o,H b=some o:=fun b hb=>by
 obtain ⟨dx,fs,h1,h2⟩:=h.o
 have hb':b=x.si∨b=t∨b=x.ro∨b=x.he∨b=x.la∨b=x.so∨b=x.en∨b=x.fi:=by simpa [own] using hb
 rcases hb' with h' | h' | h' | h' | h' | h' | h' | h' <;> rw [h']
 · exact ⟨_,h.si⟩
 · exact ⟨_,h1⟩
 · exact ⟨_,h.ro⟩
 · exact ⟨_,h.he⟩
 · exact ⟨_,h.la⟩
 · exact ⟨_,h.so⟩
 · exact ⟨_,h.en⟩
 · exact ⟨_,h.fi⟩
end N76
namespace N75
open L2 N1 N5 N4 N6 N12 N71 N74 N76
def J1r(d:Int):Prop:=3≤d∧d < 6
instance (d:Int):Decidable (J1r d):=inferInstanceAs (Decidable (3≤d∧d < 6))
def o1(d:Int)(z:Str)(g:Gt):Str→Bool:=if J1r d then Cd g.l z true else g.l
def h1(d:Int)(z:Str)(v:Int)(g:Gt):Str→Int:=if J1r d then Cd g.h z v else g.h
def J8q(R:List Str)(d:Int)(z:Str):Option Str:=if z∈R then none else if d < 3 then some (Str.ofString "fetch") else if d=6 then some (Str.ofString "ahead") else none
def Xj(c k:Int):Int:=(c % 1000000007+7919 * k+1) * (c % 1000000007+7919 * k+1) % 2147483647 * 48271 % 2147483629
def J8r(j:Int):Int:=if j=0 then 10 ^ 30 else if j=1 then -10 ^ 30 else 0
def J5w(v:Int):Int:=if v % 11=5 then J8r (v / 11 % 3) else if v % 3=0 then v / 3 % 7 - 3 else v ^ 5 % (2 * 10 ^ 30+1) - 10 ^ 30
def Sq:Sp:=fun vs H Q _=>∃c k:Int,vs=[.int c,.int k]∧0≤k∧k≤1000∧(0≤Xj c k→Xj c k < 2147483629→Q (.int (Xj c k)) H)
def Nc:Sp:=fun vs H Q _=>∃(c:Int) (k:Nat),vs=[.int c,.int k]∧k≤200∧∀(H':Hp),-(10 ^ 30)≤J5w (Xj c k)→J5w (Xj c k)≤10 ^ 30→A9 H H'→Q (.int (J5w (Xj c k))) H'
def J8s(H:Hp)(as:List Addr)(es:List (List V)):Prop:=as.length=es.length∧∀(i:Nat) (a:Addr) (e:List V),as[i]?=some a→es[i]?=some e→H a=some (.tup e)
def D4(C:Addr):Sp:=fun vs H Q _=>∃(t:Addr) (x:TwA) (s:TwS),vs=[.ref t]∧B9 C H t x s∧Q (.int s.pd) H
end N75
namespace L2
def Dj(K:PySem.W.Frag):Nat→Hp→V→V→Prop
 | 0,_,x,y=>x=y∧Cz x=true
 | n+1,H,x,y=>Dj K n H x y∨∃a b xs ys,x= .ref a∧y= .ref b∧((SqL K H a xs∧SqL K H b ys)∨(SqT K H a xs∧SqT K H b ys))∧xs.length=ys.length∧∀(i:Nat) (x' y':V),xs[i]?=some x'→ys[i]?=some y'→Dj K n H x' y'
def Ks(K:PySem.W.Frag)(n:Nat)(H:Hp)(x y:V):Prop:=∃a b xs ys,x= .ref a∧y= .ref b∧((SqL K H a xs∧SqL K H b ys)∨(SqT K H a xs∧SqT K H b ys))∧xs.length=ys.length∧∀(i:Nat) (x' y':V),xs[i]?=some x'→ys[i]?=some y'→Dj K n H x' y'
theorem Dj.up{K:PySem.W.Frag}{H:Hp}{n:Nat}{x y:V}(h:Dj K n H x y):Dj K (n+1) H x y:=by unfold Dj;exact .inl h
theorem Dj.of{K:PySem.W.Frag}{H:Hp}{n:Nat}{x y:V}(h:Ks K n H x y):Dj K (n+1) H x y:=by unfold Dj;exact .inr h
theorem Dj.flat{K:PySem.W.Frag}{H:Hp}{x:V}(h:Cz x=true):∀{n:Nat},Dj K n H x x:=by
 intro n
 induction n with
 | zero=>unfold Dj;exact ⟨rfl,h⟩
 | succ n ih=>exact ih.up
section
variable {X:Cx} {pins:List (Addr×Obj)} {σ:St} {H:Hp} {s:Shared}
theorem Sr{xs ys:List V}{us ws:List Value}{P:V→V→Prop}{R:Value→Value→Prop}(rx:Ax xs us)(ry:Ax ys ws)(hl:xs.length=ys.length)(h:∀(i:Nat) (x y:V),xs[i]?=some x→ys[i]?=some y→P x y)(k:∀x y u w,Aw x u→Aw y w→P x y→R u w):
 ∀j (h1:j < us.toArray.size) (h2:j < ws.toArray.size),R us.toArray[j] ws.toArray[j]:=by
 intro j h1 h2;have lx:=rx.length;have ly:=ry.length;rw [Fn]at h1 h2
 have hx:j < xs.length:=by omega
 have hy:j < ys.length:=by omega
 obtain ⟨u,hu,ru⟩:=rx.get (i:=j) (x:=xs[j]) (by simp [hx]);obtain ⟨w,hw,rw'⟩:=ry.get (i:=j) (x:=ys[j]) (by simp [hy])
 have eu:us.toArray[j]=u:=by
  have:=Fb h1;rw [this]at hu
  simpa using hu
 have ew:ws.toArray[j]=w:=by
  have:=Fb h2;rw [this]at hw
  simpa using hw
 rw [eu,ew];exact k _ _ _ _ ru rw' (h j _ _ (Fb hx) (Fb hy))
theorem Ss{n:Nat}:((List.range n).all fun _=>true)=true:=by rw [Hg];intros;rfl
theorem Su{n:Nat}{x y:V}{u w:Value}{A:Around}(I:Inv X pins σ H s)(rx:Aw x u)(ry:Aw y w)(h:Ks X.K n H x y)(hu:A.units < cLine)
 (k:∀x y u w,Aw x u→Aw y w→Dj X.K n H x y→SeqAt.EqAt A.in1 s u w true):SeqAt.RcAt A s u w true∧SeqAt.RcNeAt A s u w false:=by
 obtain ⟨a,b,xs,ys,rfl,rfl,hq,hl,hall⟩:=h;cases rx;cases ry;rcases hq with ⟨h1,h2⟩ | ⟨h1,h2⟩
 · obtain ⟨us,r1,p1,z1⟩:=I.list h1
   obtain ⟨ws,r2,p2,z2⟩:=I.list h2;have lx:=r1.length;have ly:=r2.length;have he:=Sr r1 r2 hl hall k;have c1:=SeqAt.RcAt.lists (e:=fun _=>true) p1.isList p2.isList (by simp;omega) hu he;have c2:=SeqAt.RcNeAt.lists (e:=fun _=>true) p1.isList p2.isList (by simp;omega) hu he;rw [Ss]at c1 c2;exact ⟨c1,c2⟩
 · obtain ⟨us,r1,p1,z1⟩:=I.tuple h1
   obtain ⟨ws,r2,p2,z2⟩:=I.tuple h2;have lx:=r1.length;have ly:=r2.length;have he:=Sr r1 r2 hl hall k
   have hsz:us.toArray.size=ws.toArray.size:=by simp;omega
   have c1:=SeqAt.RcAt.tuples (e:=fun _=>true) (show s.heap.IsTuple a us.toArray from p1) (show s.heap.IsTuple b ws.toArray from p2) hu he;have c2:=SeqAt.RcNeAt.tuples (e:=fun _=>true) (show s.heap.IsTuple a us.toArray from p1) (show s.heap.IsTuple b ws.toArray from p2) hu he;rw [Ss,hsz,RN,Bool.and_true]at c1 c2;exact ⟨c1,c2⟩
theorem J1s(I:Inv X pins σ H s):∀(n:Nat) (x y:V) (u w:Value) (A:Around),Aw x u→Aw y w→Dj X.K n H x y→A.units+n < cLine→SeqAt.EqAt A s u w true:=by
 intro n
 induction n with
 | zero=>
  intro x y u w A rx ry h hu;unfold Dj at h;obtain ⟨rfl,f⟩:=h;have:=Ye (A:=A) (s:=s) rx ry f f;rw [show eqV x x=true from J1i f]at this;exact this
 | succ n ih=>
  intro x y u w A rx ry h hu;unfold Dj at h;rcases h with h | h
  · exact ih x y u w A rx ry h (by omega)
  · have c:=Su I rx ry h (by omega) (fun x y u w r1 r2 k=>ih x y u w A.in1 r1 r2 k (by show A.units+1+n < cLine;omega))
    obtain ⟨a,b,xs,ys,rfl,rfl,_⟩:=h;cases rx;cases ry
    by_cases e:a=b
    · subst e;exact SeqAt.EqAt.same _
    · exact SeqAt.EqAt.of_refs e c.1
def J80(K:PySem.W.Frag)(n:Nat):R2:=fun x y H Q=>Ks K n H x y∧Q (.bl true) H
def J8t(K:PySem.W.Frag)(n:Nat):R2:=fun x y H Q=>Ks K n H x y∧Q (.bl false) H
theorem J5x{k:Nat}(n:Nat)(hr:Cv k X.A)(hn:n≤100:=by decide):OpR X (compareOp .Eq) (J80 X.K n):=by
 intro pins s σ H x y v u Q I rx ry h;have hu:X.A.units < cLine:=Fx (by omega) hr.un;exact (Su I rx ry h.1 hu (fun x y u w r1 r2 k=>J1s I n x y u w X.A.in1 r1 r2 k (by have:=hr.un;show X.A.units+1+n < cLine;omega))).1 X.prog X.w X.xe _ ⟨.bl true,H,I,rfl,h.2⟩
theorem J1t{K:PySem.W.Frag}{H:Hp}{Q:VK}{x y:V}{n:Nat}:J80 K n x y H Q=(Ks K n H x y∧Q (.bl true) H):=rfl
theorem J1u{K:PySem.W.Frag}{H:Hp}{Q:VK}{x y:V}{n:Nat}:J8t K n x y H Q=(Ks K n H x y∧Q (.bl false) H):=rfl
end
end L2
namespace L2
open PySem.W
structure J81(K:PySem.W.Frag)(C:Addr):Prop where
 ca:PySem.W.findIn K (.ref C) "__class__"=some (some (.builtin "object.__class__"))
 gs:PySem.W.specialIn K (.builtin "object.__class__") "__get__"=some (some (.builtin "getset_descriptor.__get__"))
 tk:PySem.W.takesIn K (.builtin "object.__class__")=some true
 mo:PySem.W.mroIn K C (.type "object")=some true
def J82(K:PySem.W.Frag):List V→Hp→VK→Prop:=fun xs H Q=>∃(p C dx D:Addr) (fs:List (Str×V)) (b:Bool),xs=[.ref p,.ref D]∧H p=some (.ins C dx fs)∧Cls K C∧J81 K C∧PySem.W.kitOne K (.ref C) (.ref D)=some b∧Q (.bl b) H
theorem W8{K:PySem.W.Frag}{xs:List V}{H:Hp}{Q:VK}:J82 K xs H Q=∃(p C dx D:Addr) (fs:List (Str×V)) (b:Bool),xs=[.ref p,.ref D]∧H p=some (.ins C dx fs)∧Cls K C∧J81 K C∧PySem.W.kitOne K (.ref C) (.ref D)=some b∧Q (.bl b) H:=rfl
end L2
namespace N79
open L2 N1 N5 N4 N6 N12 N71 N74 N76 N75
def shx(zs:List Int)(R:List Str)(z:Str):Nat:=((List.range zs.length).find? fun i=>decide (z∈lvl zs R i)).getD zs.length
theorem Pq{zs:List Int}{R:List Str}{z:Str}{i:Nat}(hi:i < zs.length)(h:z∈lvl zs R i)(n:∀j,j < i→z∉lvl zs R j):shx zs R z=i:=by
 have e:(List.range zs.length).find? (fun i=>decide (z∈lvl zs R i))=some i:=List.find?_range_eq_some.mpr ⟨FD h,Hz.mpr hi,fun j hj=>by simp [n j hj]⟩;unfold shx;rw [e];rfl
theorem Pr{zs:List Int}{R:List Str}{z:Str}(n:∀j,j < zs.length→z∉lvl zs R j):shx zs R z=zs.length:=by
 have e:(List.range zs.length).find? (fun i=>decide (z∈lvl zs R i))=none:=List.find?_eq_none.mpr fun j hj=>by simp [n j (Hz.mp hj)]
 unfold shx;rw [e];rfl
def bump(ff:List Int)(k:Nat):List Int:=ff.set k (ff.getD k 0+1)
def J83(ff zs:List Int)(R:List Str)(d:Int)(z:Str):List Int:=if d < 6 then bump ff (shx zs R z) else ff
def Dr(K:PySem.W.Frag)(C S:Addr):Sp:=fun vs H Q _=>∃(t:Addr) (x:TwA) (s:TwS) (z:Str) (ts:List Th),vs=[.ref t,.str z]∧B9 C H t x s∧B2 K S H x.st ts (own t x)∧(ts.map (·.1)).Nodup∧z∈ts.map (·.1)∧s.zs.length≤6∧(∀z∈s.zs,1≤z∧z≤1000000)∧(s.R.length:Int)≤s.zs.sum∧
 ∀(k:Nat) (H':Hp),A9 H H'→k≤s.zs.length→(k < s.zs.length↔z∈s.R)→shx s.zs s.R z≤k→k≤shx s.zs s.R z→Q (.int k) H'
def Ds(K:PySem.W.Frag)(C S:Addr):Sp:=fun vs H Q _=>∃(t:Addr) (x:TwA) (s:TwS) (g:Gt) (z:Str) (ts:List Th) (B:Nat),vs=[.ref t,.str z]∧Cj K C S H t x s g ts B∧z∈ts.map (·.1)∧B≤80000∧
 ∀(s':TwS) (H':Hp),Off (own t x) H H'→Cj K C S H' t x s' (Cs s.zs.sum s.R z g) ts (B+2)→s'.R=Di z s→s'.zs=s.zs→s'.pd=s.pd+(if z∈s.R then 0 else Bo ts z)→s'.ff=bump s.ff (shx s.zs s.R z)→Q (.int ((Cs s.zs.sum s.R z g).h z)) H'
def Dt(K:PySem.W.Frag)(C S:Addr)(pr:Bool):Sp:=fun vs H Q _=>∃(t:Addr) (x:TwA) (s:TwS) (g:Gt) (z:Str) (v:Int) (ts:List Th) (B:Nat),vs=[.ref t,.str z,.int v]∧-(10 ^ 30)≤v∧v≤10 ^ 30∧Cj K C S H t x s g ts B∧z∈ts.map (·.1)∧B≤80000∧
 ∀(s':TwS) (H':Hp),Off (own t x) H H'→Cj K C S H' t x s' (Oo pr s.zs.sum s.R z v g) ts (B+3)→s'.R=Di z s→s'.zs=s.zs→s'.pd=s.pd→s'.ff=bump s.ff (shx s.zs s.R z)→Q .non H'
def D5(K:PySem.W.Frag)(C S:Addr):Sp:=fun vs H Q _=>∃(t:Addr) (x:TwA) (s:TwS) (g:Gt) (z:Str) (ts:List Th) (B:Nat),vs=[.ref t,.str z]∧Cj K C S H t x s g ts B∧z∈ts.map (·.1)∧B≤80000∧
 ∀(s':TwS) (H':Hp),Off (own t x) H H'→Cj K C S H' t x s' (Ce s.zs.sum s.R z g) ts (B+2)→s'.R=(if z∈s.R then s.R else Di z s)→s'.zs=s.zs→s'.pd=s.pd+(if z∈s.R then 0 else Bo ts z)→s'.ff=s.ff→Q (.bl (decide (z∉s.R))) H'
def Du(K:PySem.W.Frag)(C S:Addr):Sp:=fun vs H Q _=>∃(t:Addr) (x:TwA) (s:TwS) (g:Gt) (ts:List Th) (B:Nat),vs=[.ref t]∧Cj K C S H t x s g ts B∧B≤80000∧
 ∀(x':TwA) (s':TwS) (H':Hp),Off (own t x) H H'→(∀b∈own t x',b∈own t x∨H b=none)→Cj K C S H' t x' s' (G3 s.R g) ts (B+100)→s'.R=s.R→s'.zs=s.zs→s'.pd=s.pd→s'.ff=s.ff→x'.st=x.st→x'.si=x.si→Q (.int ((s.R.filter g.l).length:Nat)) H'
def Ek(K:PySem.W.Frag)(C S:Addr):Sp:=fun vs H Q _=>∃(t dx p a:Addr) (ts:List Th) (zs:List Int),vs=[.ref t,.ref p,.ref a]∧H t=some (.ins C dx [])∧Au K S H p ts∧(ts.map (·.1)).Nodup∧(∀t∈ts,t.2.2=1)∧ts.length≤59∧SqL K H a (zs.map V.int)∧1≤zs.length∧zs.length≤6∧(∀z∈zs,1≤z∧z≤1000000)∧
 ∀(x:TwA) (s:TwS) (H':Hp),SameBut t H H'→Cj K C S H' t x s g0 ts 1→s.R=[]→s.zs=zs→s.pd=0→s.ff=List.replicate (zs.length+1) 0→x.st=p→(∀b∈x.si::own t x,b=t∨H b=none)→Q .non H'
def D6(C:Addr):Sp:=fun vs H Q _=>∃(t:Addr) (x:TwA) (s:TwS),vs=[.ref t]∧B9 C H t x s∧∀(p:Addr) (H':Hp),H p=none→A9 H H'→H' p=some (.lst (s.ff.map V.int))→Q (.ref p) H'
def Os(K:PySem.W.Frag)(C1 C2 Sk:Addr):Sp:=fun vs H Q _=>∃(C t:Addr) (z:Str) (d v:Int) (pr:Bool) (x:TwA) (s:TwS) (g:Gt) (ts:List Th) (B:Nat),vs=[.ref t,.str z,.int d,.int v]∧(pr=true∧C=C2∨pr=false∧C=C1)∧Cj K C Sk H t x s g ts B∧z∈ts.map (·.1)∧B≤80000∧0≤d∧d≤6∧-(10 ^ 30)≤v∧v≤10 ^ 30∧
 ∀(s':TwS) (H':Hp),Off (own t x) H H'→Cj K C Sk H' t x s' (J7y pr s.zs.sum s.R d z v g) ts (B+100)→s'.R=J7x s.zs.sum s.R d z→s'.zs=s.zs→s'.pd=s.pd+(if (J8q s.R d z).isSome then Bo ts z else 0)→s'.ff=J83 s.ff s.zs s.R d z→Q (J7z s.zs.sum s.R d z v g) H'
structure J84(H:Hp)(p:Addr)(zs:List Int)(R:List Str)(ff:List Int)(pd:Int)(lv fo:Addr)(as:List Addr):Prop where
 o:H p=some (.lst [.ref lv,.ref fo,.int pd])
 l:H lv=some (.lst (as.map V.ref))
 a:Xi H as zs R zs.length
 f:H fo=some (.lst (ff.map V.int))
open Classical in
def Rst(L:List Addr)(H:Hp):Hp:=fun b=>if b∈L then none else H b
theorem Rst.get{L:List Addr}{H:Hp}{b:Addr}{o:HO}(n:b∉L)(h:H b=some o):Rst L H b=some o:=by unfold Rst;rw [if_neg n];exact h
theorem Rst.at{L:List Addr}{H:Hp}{b:Addr}{o:HO}(h:Rst L H b=some o):b∉L∧H b=some o:=by
 unfold Rst at h;split at h
 · cases h
 · rename_i n;exact ⟨n,h⟩
theorem Rst.step{L L':List Addr}{H H':Hp}(o:Off L H H')(m:∀b∈L',b∈L∨H b=none):A9 (Rst L H) (Rst L' H'):=fun b u h=>by
 obtain ⟨n,e⟩:=Rst.at h;exact Rst.get (W6 m e n) (o _ _ e n)
structure Tw where
 C:Addr
 t:Addr
 x:TwA
 s:TwS
 g:Gt
def Tw.ow(w:Tw):List Addr:=w.x.si::own w.t w.x
def Kg(ks:List Addr)(ws:List Tw):List Addr:=ks++ws.flatMap Tw.ow
structure Tws(K:PySem.W.Frag)(S st:Addr)(ts:List Th)(B:Nat)(H:Hp)(ks:List Addr)(ws:List Tw):Prop where
 ok:∀w∈ws,Cj K w.C S H w.t w.x w.s w.g ts B
 ap:ws.Pairwise fun a b=>∀c∈a.ow,c∉b.ow
 sk:B2 K S H st ts (Kg ks ws)
 es:∀w∈ws,w.x.st=st
 kk:∀c∈ks,∀w∈ws,c∉w.ow
 kl:∀c∈ks,∃o,H c=some o∧∀e,o≠ .tup e
section
variable {K:PySem.W.Frag} {S st:Addr} {ts:List Th} {B B':Nat} {H H':Hp} {ks:List Addr} {ws l1 l2:List Tw} {w w':Tw}
theorem B4{c:Addr}:c∈Kg ks ws↔c∈ks∨∃w∈ws,c∈w.ow:=by unfold Kg;rw [Fq,List.mem_flatMap]
theorem Tws.live(h:Tws K S st ts B H ks ws):∀b∈Kg ks ws,∃o,H b=some o:=fun b hb=>by
 rcases B4.mp hb with hb | ⟨w,hw,hb⟩
 · obtain ⟨o,e,_⟩:=h.kl b hb;exact ⟨o,e⟩
 · exact Nb (h.ok w hw).to.tw b hb
theorem Tws.same(m:A9 H H')(h:Tws K S st ts B H ks ws):Tws K S st ts B H' ks ws:=⟨fun w hw=>(h.ok w hw).same m,h.ap,h.sk.off (.of m),h.es,h.kk,fun c hc=>by obtain ⟨o,e,n⟩:=h.kl c hc;exact ⟨o,m _ _ e,n⟩⟩
theorem Tws.up(h:Tws K S st ts B H ks ws)(hB:B≤B')(hb:B'≤100000):Tws K S st ts B' H ks ws:=⟨fun w hw=>(h.ok w hw).up hB hb,h.ap,h.sk,h.es,h.kk,h.kl⟩
theorem Tws.deed(h:Tws K S st ts B H ks (l1++w::l2))(o:Off (own w.t w.x) H H')(m:∀b∈own w'.t w'.x,b∈own w.t w.x∨H b=none)(tw:Cj K w'.C S H' w'.t w'.x w'.s w'.g ts B')(hB:B≤B')(est:w'.x.st=w.x.st)(esi:w'.x.si=w.x.si):
 Tws K S st ts B' H' ks (l1++w'::l2)∧A9 (Rst (Kg ks (l1++w::l2)) H) (Rst (Kg ks (l1++w'::l2)) H')∧∀c∈ks,∀o,H c=some o→H' c=some o:=by
 have hw:=h.ok w (by simp);have hb:B'≤100000:=tw.g.b;have kt:=Kr hw.to.tw o
 have m2:∀b∈w'.ow,b∈w.ow∨H b=none:=fun b hb=>by
  rcases Fh.mp hb with e | e
  · exact .inl (by rw [e,esi];exact Fj)
  · exact (m b e).imp (Fd _) id
 have mL:∀b∈Kg ks (l1++w'::l2),b∈Kg ks (l1++w::l2)∨H b=none:=fun b hb=>by
  rcases B4.mp hb with hb | ⟨v,hv,hb⟩
  · exact .inl (B4.mpr (.inl hb))
  · rcases Fq.mp hv with hv | hv
    · exact .inl (B4.mpr (.inr ⟨v,FJ _ hv,hb⟩))
    · rcases Fh.mp hv with e | hv
      · rw [e]at hb;exact (m2 b hb).imp (fun k=>B4.mpr (.inr ⟨w,by simp,k⟩)) id
      · exact .inl (B4.mpr (.inr ⟨v,Fv _ (Fd _ hv),hb⟩))
 have oL:Off (Kg ks (l1++w::l2)) H H':=o.mono fun b hb=>B4.mpr (.inr ⟨w,by simp,Fd _ hb⟩);have hap:=R7.mp h.ap;have hap2:=List.pairwise_cons.mp hap.2.1
 have far:∀v∈l1++l2,(∀c∈v.ow,c∉w.ow)∧∀c∈w.ow,c∉v.ow:=fun v hv=>by
  rcases Fq.mp hv with hv | hv
  · exact ⟨hap.2.2 v hv w Fj,fun c h1 h2=>hap.2.2 v hv w Fj c h2 h1⟩
  · exact ⟨fun c h1 h2=>hap2.1 v hv c h2 h1,hap2.1 v hv⟩
 have lv:∀v∈l1++l2,v∈l1++w::l2:=fun v hv=>by
  rcases Fq.mp hv with hv | hv
  · exact FJ _ hv
  · exact Fv _ (Fd _ hv)
 have sk:=Gs h.sk oL (fun b hb=>hb) mL
 have far2:∀v∈l1++l2,(∀c∈v.ow,c∉w'.ow):=fun v hv c h1 h2=>by
  rcases m2 c h2 with k | k
  · exact (far v hv).1 c h1 k
  · obtain ⟨u,e⟩:=Nb (h.ok v (lv v hv)).to.tw c h1;rw [k]at e;cases e
 have okv:∀v∈l1++l2,Cj K v.C S H' v.t v.x v.s v.g ts B':=fun v hv=>
  (Na (h.ok v (lv v hv)) (M:=own w.t w.x) o (fun b h1 h2=>(far v hv).1 b h1 (Fd _ h2)) kt (by
   rw [h.es v (lv v hv)]
   exact sk.mono fun b hb=> .inl (B4.mpr (.inr ⟨v,by
    rcases Fq.mp hv with hv | hv
    · exact FJ _ hv
    · exact Fv _ (Fd _ hv),Fd _ hb⟩)))).up hB hb
 have all:∀v∈l1++w'::l2,v=w'∨v∈l1++l2:=fun v hv=>by
  rcases Fq.mp hv with hv | hv
  · exact .inr (FJ _ hv)
  · rcases Fh.mp hv with e | hv
    · exact .inl e
    · exact .inr (Fv _ hv)
 have kw:∀c∈ks,c∉w.ow:=fun c hc=>h.kk c hc w (by simp);refine ⟨⟨fun v hv=>(all v hv).elim (fun e=>by rw [e];exact tw) (okv v),?_,sk,fun v hv=>(all v hv).elim (fun e=>by rw [e,est];exact h.es w (by simp)) (fun k=>h.es v (lv v k)),fun c hc v hv=>(all v hv).elim (fun e=>?_) (fun k=>h.kk c hc v (lv v k)),fun c hc=>?_⟩,Rst.step oL mL,fun c hc u e=>o _ _ e fun k=>kw c hc (Fd _ k)⟩
 · refine R7.mpr ⟨hap.1,List.pairwise_cons.mpr ⟨fun v hv c h1 h2=>far2 v (Fv _ hv) c h2 h1,hap2.2⟩,fun a ha b hb=>?_⟩
   rcases Fh.mp hb with e | hb
   · rw [e];exact far2 a (FJ _ ha)
   · exact hap.2.2 a ha b (Fd _ hb)
 · rw [e]
   obtain ⟨u,k,_⟩:=h.kl c hc;exact W6 m2 k (kw c hc)
 · obtain ⟨u,k1,k2⟩:=h.kl c hc
   exact ⟨u,o _ _ k1 fun k=>kw c hc (Fd _ k),k2⟩
theorem Tws.put{c:Addr}{u:HO}(h:Tws K S st ts B H ks ws)(hc:c∈ks)(hu:∀e,u≠ .tup e)(sb:SameBut c H H')(hc':H' c=some u):
 Tws K S st ts B H' ks ws∧A9 (Rst (Kg ks ws) H) (Rst (Kg ks ws) H'):=by
 have o:Off [c] H H':=fun b v e n=>sb b v e fun z=>n (by rw [z];simp)
 have oL:Off (Kg ks ws) H H':=o.mono fun b hb=>by rw [Fg.mp hb];exact B4.mpr (.inl hc)
 obtain ⟨u0,k1,k2⟩:=h.kl c hc
 have kt:∀v e,H v=some (.tup e)→H' v=some (.tup e):=fun v e hv=>sb _ _ hv fun z=>by rw [z,k1]at hv;cases hv;exact k2 _ rfl
 have sk:=Gs h.sk oL (fun b hb=>hb) (fun b hb=> .inl hb)
 refine ⟨⟨fun v hv=>Na (h.ok v hv) (M:=[c]) o (fun b h1 h2=>h.kk c hc v hv (by rw [← Fg.mp h2];exact h1)) kt (by
  rw [h.es v hv]
  exact sk.mono fun b hb=> .inl (B4.mpr (.inr ⟨v,hv,Fd _ hb⟩))),h.ap,sk,h.es,h.kk,fun d hd=>?_⟩,Rst.step oL fun b hb=> .inl hb⟩
 by_cases e:d=c
 · rw [e];exact ⟨u,hc',hu⟩
 · obtain ⟨v,p1,p2⟩:=h.kl d hd;exact ⟨v,sb _ _ p1 e,p2⟩
end
def wrB(e:List V):Bool:=decide (e[0]?=some (.str (Str.ofString "write")))
def wzB(y:Str)(e:List V):Bool:=wrB e && decide (e[1]?=some (.str y))
def J1v(es:List (List V)):List (List V):=es.filter fun e=>!wrB e
def cw(y:Str)(es:List (List V)):Nat:=(es.filter (wzB y)).length
def FmE(es:List (List V)):Prop:=∀e∈es,∃w z tl,e= .str w:: .str z::tl
structure J8u(hd:Str→Prop)(g1 g2:Gt)(cv:Str→Int)(kp:Str→Nat):Prop where
 a1:∀y,hd y→g1.h y=cv y
 a2:∀y,hd y→g2.h y=cv y
 b1:∀y,g1.l y=false→g1.st y=cv y
 b2:∀y,g2.st y=cv y
 p:∀y,g2.l y=false
 lh:∀y,g1.l y=true→hd y
 ca:J1v g1.es=J1v g2.es
 n2:∀y,cw y g2.es=kp y
 n1:∀y,cw y g1.es+(if g1.l y=true then 1 else 0)≤kp y
 n3:∀y,0 < kp y→g1.l y=true∨0 < cw y g1.es
 f1:FmE g1.es
 f2:FmE g2.es
section
variable {hd q:Str→Prop} {g1 g2:Gt} {cv:Str→Int} {kp:Str→Nat} {z w:Str} {v S d:Int} {R:List Str}
theorem J5y(g:Gt):(Bz S R z g).h=g.h:=by
 unfold Bz;split
 · unfold Ci;split <;> rfl
 · rfl
end
def Ot(K:PySem.W.Frag)(C1 C2 Sk:Addr):Sp:=fun vs H Q _=>∃(C t:Addr) (x:TwA) (s:TwS) (g:Gt) (ts:List Th) (B:Nat),vs=[.ref t]∧(C=C2∨C=C1)∧Cj K C Sk H t x s g ts B∧
 ∀(p lv fo:Addr) (as:List Addr) (H':Hp),(∀b∈p::lv::fo::as,H b=none)→A9 H H'→J84 H' p s.zs s.R s.ff s.pd lv fo as→Q (.ref p) H'
def Ou(K:PySem.W.Frag)(C1 C2 Sk:Addr):Sp:=fun vs H Q _=>∃(C t:Addr) (x:TwA) (s:TwS) (g:Gt) (ts:List Th) (B:Nat),vs=[.ref t]∧(C=C2∨C=C1)∧Cj K C Sk H t x s g ts B∧FmE g.es∧
 ∀(p:Addr) (us:List Addr) (H':Hp),A9 H H'→H' p=some (.lst (us.map V.ref))→J8s H' us (J1v g.es)→Q (.ref p) H'
def Lm(K:PySem.W.Frag)(C1 C2 Sk:Addr):Sp:=fun vs H Q _=>∃(C t:Addr) (z:Str) (x:TwA) (s:TwS) (g:Gt) (ts:List Th) (B:Nat),vs=[.ref t,.str z]∧(C=C2∨C=C1)∧Cj K C Sk H t x s g ts B∧FmE g.es∧∀H',A9 H H'→Q (.int (cw z g.es:Nat)) H'
def Kp4(K:PySem.W.Frag)(H:Hp)(a:Addr):Prop:=∃l r e s,H a=some (.tup [.ref l,.ref r,.ref e,.ref s])∧Ks K 3 H (.ref l) (.ref r)∧Ks K 3 H (.ref e) (.ref s)
def Ov(K:PySem.W.Frag)(C1 C2 Sk:Addr):Sp:=fun vs H Q _=>∃(t1 t2:Addr) (x1 x2:TwA) (s1 s2:TwS) (g1 g2:Gt) (ts:List Th) (B:Nat),vs=[.ref t1,.ref t2]∧Cj K C1 Sk H t1 x1 s1 g1 ts B∧Cj K C2 Sk H t2 x2 s2 g2 ts B∧s2.zs=s1.zs∧s2.R=s1.R∧g1.es.length≤1000∧
 ∀(a:Addr) (H':Hp),A9 H H'→(∀L:List Addr,(∀b∈L,∃o,H b=some o)→(∀b∈L,∀e,H b≠some (.tup e))→Kp4 K (Rst L H') a)→Q (.ref a) H'
def Lo(K:PySem.W.Frag)(C1 C2 Sk:Addr):Sp:=fun vs H Q _=>∃(t1 t2 kd:Addr) (x1 x2:TwA) (s1 s2:TwS) (g1 g2:Gt) (ts:List Th) (B:Nat) (kk:List (Key×V)) (cv:Str→Int) (kp:Str→Nat),vs=[.ref t1,.ref t2,.ref kd]∧Cj K C1 Sk H t1 x1 s1 g1 ts B∧Cj K C2 Sk H t2 x2 s2 g2 ts B∧J8u (fun y=>y∈s1.R) g1 g2 cv kp∧(∀y,g1.l y=false)∧H kd=some (.dK kk)∧(∀(i:Nat) p,kk[i]?=some p→∃y,p.1=Sum.inr y∧y∈ts.map (·.1)∧B1 kk (Sum.inr y)=some (.int (kp y:Nat)))∧kd∉x1.si::own t1 x1∧kd∉x2.si::own t2 x2∧B2 K Sk H x1.st ts (kd::own t1 x1)∧B2 K Sk H x2.st ts (kd::own t2 x2)∧
 ∀H',SameBut kd H H'→Cj K C1 Sk H' t1 x1 s1 g1 ts B→Cj K C2 Sk H' t2 x2 s2 g2 ts B→Q (.bl true) H'
section
variable {K:PySem.W.Frag} {S st:Addr} {ts:List Th} {B:Nat} {H H':Hp} {ks:List Addr} {ws:List Tw} {w:Tw}
theorem Tws.add(h:Tws K S st ts B H ks ws)(m:A9 H H')(tw:Cj K w.C S H' w.t w.x w.s w.g ts B)(n:∀b∈w.ow,H b=none)(e:w.x.st=st):Tws K S st ts B H' ks (ws++[w]):=by
 have far:∀b o,H b=some o→b∉w.ow:=fun b o k hb=>by rw [n b hb]at k;cases k
 refine ⟨fun v hv=>?_,R7.mpr ⟨h.ap,List.pairwise_singleton _ _,fun a ha b hb c hc=>?_⟩,(h.sk.mono fun b hb=>?_).off (.of m),fun v hv=>?_,fun c hc v hv=>?_,fun c hc=>?_⟩
 · rcases Fq.mp hv with hv | hv
   · exact (h.ok v hv).same m
   · rw [Fg.mp hv];exact tw
 · rw [Fg.mp hb]
   obtain ⟨o,k⟩:=Nb (h.ok a ha).to.tw c hc;exact far c o k
 · rcases B4.mp hb with hb | ⟨v,hv,hb⟩
   · exact .inl (B4.mpr (.inl hb))
   · rcases Fq.mp hv with hv | hv
     · exact .inl (B4.mpr (.inr ⟨v,hv,hb⟩))
     · rw [Fg.mp hv]at hb;exact .inr (n b hb)
 · rcases Fq.mp hv with hv | hv
   · exact h.es v hv
   · rw [Fg.mp hv];exact e
 · obtain ⟨o,k,_⟩:=h.kl c hc
   rcases Fq.mp hv with hv | hv
   · exact h.kk c hc v hv
   · rw [Fg.mp hv];exact far c o k
 · obtain ⟨o,k,k2⟩:=h.kl c hc
   exact ⟨o,m _ _ k,k2⟩
end
theorem none_of{Ha Hb:Hp}{b:Addr}(sm:A9 Ha Hb)(e:Hb b=none):Ha b=none:=by
 cases k:Ha b with
 | none=>rfl
 | some o=>rw [sm _ _ k]at e;cases e
end N79
namespace NTx
open L2 N1 N5 N8 N08 PySem.NumText PySem.StrLaws
open PySem.Builtin.Str (strSub strKind subAt)
def dg(n:Nat):List Nat:=if n < 10 then [48+n] else dg (n / 10)++[48+n % 10]
termination_by n
decreasing_by omega
theorem Nd{n:Nat}(h:n < 10):dg n=[48+n]:=by unfold dg;rw [if_pos h]
theorem J1w{n:Nat}(h:¬n < 10):dg n=dg (n / 10)++[48+n % 10]:=by rw [dg];rw [if_neg h]
theorem J5z(n:Nat):AllDigits (dg n)∧digitsVal (dg n)=n∧dg n≠[]∧(dg n=[48]∨∃c r,dg n=c::r∧49≤c):=by
 induction n using Nat.strongRecOn with
 | ind n ih=>
  by_cases h:n < 10
  · rw [Nd h]
    refine ⟨fun c hc=>?_,?_,by simp,?_⟩
    · rw [Fg.mp hc];omega
    · show 0 * 10+(48+n - 48)=n
      omega
    · by_cases h0:n=0
      · exact .inl (by rw [h0])
      · exact .inr ⟨_,_,rfl,by omega⟩
  · obtain ⟨a,b,c,d⟩:=ih (n / 10) (by omega)
    rw [J1w h];refine ⟨fun x hx=>?_,?_,by simp,.inr ?_⟩
    · rcases Fq.mp hx with hx | hx
      · exact a x hx
      · rw [Fg.mp hx];omega
    · rw [digitsVal_snoc,b];omega
    · rcases d with d | ⟨x,r,d,hx⟩
      · rw [d]at b
        have:digitsVal [48]=0:=rfl;omega
      · exact ⟨x,r++[48+n % 10],by rw [d];rfl,hx⟩
theorem J1x:∀(k n:Nat),n < 10 ^ (k+1)→(dg n).length≤k+1
 | 0,n,h=>by rw [Nd (by simpa using h)];simp
 | k+1,n,h=>by
  by_cases hn:n < 10
  · rw [Nd hn];simp
  · rw [J1w hn,Ff,Rv]
    have:=J1x k (n / 10) (by rw [Nat.pow_succ]at h;omega);omega
theorem Nf{v:Int}(h0:0≤v)(h1:v < 10 ^ 31):S3 (Str.ofString (toString v)).cps.toList=true∧Xb (Str.ofString (toString v)).cps.toList=v:=by
 obtain ⟨n,rfl⟩:∃n:Nat,v=n:=⟨v.toNat,by omega⟩
 obtain ⟨a,b,c,d⟩:=J5z n;have e:=shown a c d;rw [b]at e;rw [e];show S3 (dg n)=true∧Xb (dg n)=n
 have h31:(n:Int) < ((10 ^ 31:Nat):Int):=by simpa using h1
 have hl:=J1x 30 n (Int.ofNat_lt.mp h31);have hp:=List.length_pos_iff.mpr c;refine ⟨?_,by unfold Xb;rw [b]⟩;unfold S3;rw [FD (show 1≤(dg n).length by omega),FD (show (dg n).length≤31 by omega),Vp.mpr a];rcases d with d | ⟨x,r,d,hx⟩
 · rw [d];rfl
 · rw [d]
   have:x≠48:=by omega
   simp [Le,this]
theorem Sv{x:Str}{a b c:Nat}(h:∀i,a≤i→i < b→x.cps.toList[i]?≠some c){i:Nat}(h1:a≤i)(h2:i < b){y:Str}{r:List Nat}(hy:y.cps.toList=c::r):¬At x y x.length i:=fun z=>by
 have e:=z.2;rw [subAt_eq,HJ,hy]at e
 have hl:y.length=r.length+1:=by unfold Str.length;rw [← FG,hy];rfl
 rw [hl]at e;refine h i h1 h2 ?_
 cases hd:x.cps.toList.drop i with
 | nil=>rw [hd]at e;cases e
 | cons d t=>
  rw [hd]at e;have:d=c:=(List.cons.inj e).1;rw [← this,← List.head?_drop,hd];rfl
theorem Ng{x y:Str}{c:Nat}{r:List Nat}(hy:y.cps.toList=c::r):∀(ps:List Str) (a:Nat),ps≠[]→(∀p∈ps,c∉p.cps.toList)→a≤x.length→x.cps.toList.drop a=(Str.join y ps).cps.toList→partsFrom x y.length a (cuts x y a)=ps
 | [],a,h,_,_,_=>absurd rfl h
 | [p],a,_,h,ha,e=>by
  have e':x.cps.toList.drop a=p.cps.toList:=e;rw [Oi x y fun i hi=>?_]
  · show [strSub x a x.length]=[p]
    congr 1;exact Vy (by rw [J1h];exact e')
  · by_cases hl:i < x.length
    · refine Sv (b:=x.length) (fun j hj _ ej=>?_) hi hl hy
      refine h p (by simp) ?_;rw [← e',FP];exact ⟨j - a,by rw [List.getElem?_drop,show a+(j - a)=j by omega];exact ej⟩
    · intro z
      have:=z.1
      have hl':y.length=r.length+1:=by unfold Str.length;rw [← FG,hy];rfl
      omega
 | p::q::ps,a,_,h,ha,e=>by
  have hl':y.length=r.length+1:=by unfold Str.length;rw [← FG,hy];rfl
  have e':x.cps.toList.drop a=p.cps.toList++(y.cps.toList++(Str.join y (q::ps)).cps.toList):=by
   rw [e];show (p++y++Str.join y (q::ps)).cps.toList=_;rw [E3,E3,HI]
  have hlen:x.length - a=p.length+(y.length+(Str.join y (q::ps)).cps.toList.length):=by
   have:=congrArg List.length e';rw [Hf,Ff,Ff,FG,FG,FG]at this;unfold Str.length;rw [this]
  have gp:∀j,a≤j→j < a+p.length→x.cps.toList[j]?≠some c:=fun j h1 h2 ej=>by
   refine h p (by simp) ?_;rw [FP];refine ⟨j - a,?_⟩
   have:(x.cps.toList.drop a)[j - a]?=some c:=by rw [List.getElem?_drop,show a+(j - a)=j by omega];exact ej
   rw [e',Fu (by rw [FG];unfold Str.length at h2;omega)]at this;exact this
  have dr:x.cps.toList.drop (a+p.length)=y.cps.toList++(Str.join y (q::ps)).cps.toList:=by
   rw [← List.drop_drop,e'];exact List.drop_left' (by unfold Str.length;rw [FG])
  have hc:At x y x.length (a+p.length):=by
   refine ⟨by omega,?_⟩;rw [subAt_eq,dr,HJ];exact List.take_left' (by unfold Str.length;rw [FG])
  rw [Xf x y (by omega) (by omega) hc fun i h1 h2=>Sv gp h1 h2 hy];show strSub x a (a+p.length)::partsFrom x y.length (a+p.length+y.length) (cuts x y (a+p.length+y.length))=_;rw [Ng hy (q::ps) (a+p.length+y.length) (by simp) (fun z hz=>h z (Fd _ hz)) (by omega) (by rw [← List.drop_drop,dr];exact List.drop_left' (by unfold Str.length;rw [FG]))];congr 1;refine Vy ?_;rw [strSub_toList,e',show a+p.length - a=p.length by omega];exact List.take_left' (by unfold Str.length;rw [FG])
theorem Nh{y:Str}{c:Nat}{r:List Nat}{ps:List Str}(hy:y.cps.toList=c::r)(hk:strKind y=1)(hne:ps≠[])(h:∀p∈ps,c∉p.cps.toList):Txt.split (Str.join y ps) y=ps:=by
 rw [U0 _ _ (by rw [hk];exact FE (by have:=PyProof.Rows.strKind_pos (Str.join y ps);omega))];exact Ng hy ps 0 hne h (Fl _) rfl
theorem Ow{l:List Nat}(h:Br l=true){c:Nat}(hc:c∈l):48≤c∧c≤122∧c≠59:=by
 unfold Br at h;simp only [Hi]at h;have:=Hg.mp h.2 c hc
 have hm:c∈Bh++Bd:=by simpa using this
 have key:∀c∈Bh++Bd,48≤c∧c≤122∧c≠59:=by decide+kernel
 exact key c hm
def Me:Sp:=fun vs H Q _=>∃(z:Str),vs=[.str z]∧S3 z.cps.toList=true∧∀H',A9 H H'→Q (.int (Xb z.cps.toList)) H'
theorem K0{l:List Nat}(h:Br l=true):1≤l.length∧l.length≤8:=by
 unfold Br at h;simp only [Hi,decide_eq_true_eq]at h;exact ⟨h.1.1.1,h.1.1.2⟩
theorem K1{y:Str}{b:Nat}:∀{ps:List Str},(∀p∈ps,p.length≤b)→(Str.join y ps).length≤ps.length * (b+y.length)
 | [],_=>Fl _
 | [p],h=>by
  show p.length≤_;have:=h p (by simp);simp;omega
 | p::q::r,h=>by
  show (p++y++Str.join y (q::r)).length≤_;rw [Cm,Cm];have:=K1 (y:=y) (ps:=q::r) fun x hx=>h x (Fd _ hx);have:=h p (by simp);rw [show (p::q::r).length=(q::r).length+1 from rfl,Nat.add_mul];omega
theorem W9{y:Str}:∀{ps:List Str},ps≠[]→(∀p∈ps,p.cps.toList≠[])→(Str.join y ps).cps.toList≠[]
 | [],h,_=>absurd rfl h
 | [p],_,h=>h p (by simp)
 | p::q::r,_,h=>by
  show (p++y++Str.join y (q::r)).cps.toList≠[];rw [E3,E3];intro e;have:=h p (by simp);simp [this]at e
end NTx
namespace L2
def J85:Option V→Option Value→Prop
 | none,o=>o=none
 | some v,o=>∃u,o=some u∧Aw v u
structure Sw(P:Params)(K:PySem.W.Frag)(a:Addr)(x:Str)(o:Option V):Prop where
 lo:(a==sysModules)=false
 ex:∃es n,K.lookup a=some ⟨.type "dict",none,.dict es n,#[]⟩∧PySem.W.KeysLit P es.toList∧J85 o (findBy Value.isStrOf es x)
theorem Cy{P:Params}{K:PySem.W.Frag}{a:Addr}{x:Str}{o:Option V}{r:Option Value}{es:Array DictEntry}{n:Nat}(lo:(a==sysModules)=false)(hl:K.lookup a=some ⟨.type "dict",none,.dict es n,#[]⟩)(hk:PySem.W.KeysLit P es.toList)(e:PySem.W.nsIn K a x=some r)(q:J85 o r):Sw P K a x o:=
 ⟨lo,es,n,hl,hk,by rw [PySem.W.find_K hl e];exact q⟩
def J4r(P:Params)(K:PySem.W.Frag)(td ty:TE):TE:=fun σ H Q=>td σ H fun x H1=>ty σ H1 fun y H2=>∃a w v,x= .ref a∧y= .str w∧Sw P K a w (some v)∧Q v H2
def J4s(P:Params)(K:PySem.W.Frag)(ty td:TE):TE:=fun σ H Q=>ty σ H fun y H1=>td σ H1 fun x H2=>∃a w o,x= .ref a∧y= .str w∧Sw P K a w o∧Q (.bl (!o.isSome)) H2
section
variable {X:Cx} {o i:Expr} {td ty:TE} {pos:Pos}
theorem Wa(ho:PE X o td)(hi:PE X i ty)(hs:J5a i):PE X (.Subscript o i pos) (J4r X.w.params X.K td ty):=by
 intro pins s σ H Q I h;refine Ul PySem.F.slot_dict_getitem.lookup hs (thn (ho pins s σ H _ I h) fun u s1 ⟨x,H1,I1,rx,q1⟩=>thn (hi pins s1 σ H1 _ I1 q1) fun iv s2 hq_=>?_);obtain ⟨y,H2,I2,ry,a,w,v,ex,ey,g,q2⟩:=hq_;subst ex;subst ey;obtain rfl:u=Value.ref a:=rx;obtain ⟨t,rfl⟩:=ry;obtain ⟨es,n,hl,hk,hf⟩:=g.ex;have hm:=PySem.W.mapOf_K (prog:=X.prog) (w:=X.w) I2.kIn hl hk;obtain ⟨r,e1,e2⟩:=hf;exact ⟨hm.typeIs,wpAny_getItem_of (strKind_is X.prog X.w w t) hm e1 ⟨v,H2,I2.tok _,e2,q2⟩⟩
theorem J3k(hi:PE X i ty)(ho:PE X o td):PC X .NotIn i o (J4s X.w.params X.K ty td):=by
 intro pins s σ H Q I h;refine thn (hi pins s σ H _ I h) fun iv s1 ⟨y,H1,I1,ry,q1⟩=>thn (ho pins s1 σ H1 _ I1 q1) fun u s2 hq_=>?_;obtain ⟨x,H2,I2,rx,a,w,ov,ex,ey,g,q2⟩:=hq_;subst ex;subst ey;obtain rfl:u=Value.ref a:=rx;obtain ⟨t,rfl⟩:=ry;obtain ⟨es,n,hl,hk,hf⟩:=g.ex;have hm:=PySem.W.mapOf_K (prog:=X.prog) (w:=X.w) I2.kIn hl hk;refine wpAny_notIn_of (strKind_is X.prog X.w w t) g.lo hm ⟨.bl (!ov.isSome),H2,I2.tok _,?_,q2⟩;show Value.bool _=Value.bool _
 cases ov with
 | none=>rw [show findBy Value.isStrOf es w=none from hf];rfl
 | some v=>obtain ⟨r,e1,_⟩:=hf;rw [e1];rfl
theorem Wb{P:Params}{K:PySem.W.Frag}{σ:St}{H:Hp}{Q:VK}:J4r P K td ty σ H Q=td σ H fun x H1=>ty σ H1 fun y H2=>∃a w v,x= .ref a∧y= .str w∧Sw P K a w (some v)∧Q v H2:=rfl
theorem Wc{P:Params}{K:PySem.W.Frag}{σ:St}{H:Hp}{Q:VK}:J4s P K ty td σ H Q=ty σ H fun y H1=>td σ H1 fun x H2=>∃a w o,x= .ref a∧y= .str w∧Sw P K a w o∧Q (.bl (!o.isSome)) H2:=rfl
end
def J1y{ι:Type}(fa:ι→Addr)(sp:ι→Sp)(E:XK)(tv:TE)(t:TA):TE:=fun σ H Q=>tv σ H fun x H1=>∃b,x= .ref (fa b)∧t σ H1 fun vs H2=>sp b vs H2 Q E
section
variable {ι:Type} {X:Cx} {CX:CXT} {k j:Nat} {fa:ι→Addr} {nm:ι→Str} {ps:List Str} {sp:ι→Sp} {E:XK} {x:Str} {p pos:Pos} {e:Expr} {es:List Expr} {tv:TE} {t:TA}
theorem J1z(D:∀b,Def X.prog X.w X.K X.mg X.base CX j (nm b) ps (sp b))(hf:∀b,X.mg (nm b)=some (.ref (fa b)))(hr:Cv k X.A)(hx:L6 CX X E)(hv:PE X (.Name x p) tv)(ha:PA X (e::es) t)(hj:j≤k:=by decide)
 (he:starEach (e::es) X.env=(false,eval e X.env)::starEach es X.env:=by rfl) (hpl:(backTo pos (starEach es X.env)).any (·.1)=false:=by rfl):
 PE X (.Call (.Name x p) (e::es) [] pos) (J1y fa sp E tv t):=by
 intro pins s σ H Q I h;refine HB (thn (hv pins s σ H _ I h) fun u s1 hq_=>?_);obtain ⟨y,H1,I1,ry,b,ey,q1⟩:=hq_;obtain ⟨f,fd,F,hm,hk,hb⟩:=(D b).ex
 obtain rfl:f=fa b:=by rw [hf b]at hm;cases hm;rfl
 subst ey;obtain rfl:u=Value.ref (fa b):=ry;refine HU (h₀:=X.base) I.ok.mod.kin hk (thn (ha pos pins s1 σ H1 _ I1 q1) fun us s2 ⟨vs,H2,I2,r,q2⟩=>⟨I2.kIn,?_⟩) he hpl;refine Yd (F.mono hj) hr hb .nil hx I2 r ?_;rw [FX];exact q2
theorem Sx{σ:St}{H:Hp}{Q:VK}:J1y fa sp E tv t σ H Q=tv σ H fun x H1=>∃b,x= .ref (fa b)∧t σ H1 fun vs H2=>sp b vs H2 Q E:=rfl
end
end L2
namespace L2
def btK(kf:Nat→List Int):Nat→Nat→Bool:=fun i j=>HT.J45 (kf i) (kf j)
end L2
namespace N32
open L2 N1 N5 N31
def tl(f:Nat→Int)(b n:Nat):Int:=((List.range' b (n - b)).map f).sum
end N32
open L2 N1 N5 N31 N4 N32
namespace N41
end N41
namespace N14
open L2 N1 N5 N4 N6 N12 N32
end N14
namespace N20
open L2 N1 N5 N4 N6 N12 N32 N14
end N20
namespace L2
theorem Xk{z:Str}{ys:List Str}:inV (.str z) (ys.map V.str)=decide (z∈ys):=by
 unfold inV
 induction ys with
 | nil=>rfl
 | cons y ys ih=>
  rw [List.map_cons,HP,ih,Ph]
  by_cases h:y=z
  · subst h;simp
  · have h':¬z=y:=fun e=>h e.symm
    simp [h,h']
end L2
namespace N18
open L2 N1 N5 N4 N6 N12 N32 N14
end N18
namespace N25
open L2 N1 N5 N4 N6 N12 N32 N14 N20
end N25
namespace NR
open L2 N1 N5 N4 N6 N12 N32 N14 N20 N18 N25
structure J92 where
 C:Addr
 St:Type
 At:Hp→List Addr→Addr→Addr→Int→St→Prop
 asked:Int→St→Str→St
 pick:Int→St→List Str→St×Str
 gone:Int→St→Str→St
 came:Int→St→Str→St
 inv:List Str→Int→St→List Str→Prop
 mid:List Str→Int→Str→St→List Str→Prop
 dep:∀{H H':Hp} {M:List Addr} {q p:Addr} {n:Int} {s:St},(∀m∈M,∀o,H m=some o→H' m=some o)→At H M q p n s→At H' M q p n s
 live:∀{H:Hp} {M:List Addr} {q p:Addr} {n:Int} {s:St},At H M q p n s→∀m∈M,H m≠none
 obj:∀{H:Hp} {M:List Addr} {q p:Addr} {n:Int} {s:St},At H M q p n s→∃dx fs,H q=some (.ins C dx fs)∧fs.lookup ("stock":Str)=some (.ref p)∧fs.lookup ("places":Str)=some (.int n)∧fs.lookup ("asked":Str)=none∧fs.lookup ("choice":Str)=none∧fs.lookup ("gone":Str)=none∧fs.lookup ("came":Str)=none∧fs.lookup ("nests":Str)=none
 i_hit:∀{ns:List Str} {n:Int} {s:St} {l:List Str} {z:Str},inv ns n s l→z∈ns→z∈l→inv ns n (asked n s z) l
 i_mid:∀{ns:List Str} {n:Int} {s:St} {l:List Str} {z:Str},inv ns n s l→z∈ns→z∉l→mid ns n z (asked n s z) l
 i_pick:∀{ns:List Str} {n:Int} {s:St} {l:List Str} {z:Str},mid ns n z s l→l≠[]→(pick n s l).2∈l∧mid ns n z (gone n (pick n s l).1 (pick n s l).2) (l.erase (pick n s l).2)
 i_came:∀{ns:List Str} {n:Int} {s:St} {l:List Str} {z:Str},mid ns n z s l→z∈ns→z∉l→inv ns n (came n s z) (l++[z])
 cnt:St→Nat:=fun _=>0
 c_ask:∀n s z,cnt (asked n s z)≤cnt s+1:=by exact fun _ _ _=>Fl _
 c_pick:∀n s l,cnt (pick n s l).1≤cnt s:=by exact fun _ _ _=>Fl _
 c_gone:∀n s z,cnt (gone n s z)≤cnt s:=by exact fun _ _ _=>Fl _
 c_came:∀n s z,cnt (came n s z)≤cnt s:=by exact fun _ _ _=>Fl _
end NR
namespace N22
open L2 N1 N5 N4 N6 N12 N32 N14 N20 N18 N25 NR
end N22
namespace N21
open L2 N1 N5 N4 N6 N12 N32 N14 N20 N18 N25 NR N22
end N21
namespace N24
open L2 N1 N5 N4 N6 N12 N32 N14 N20 N18 N25 NR N22 N21
end N24
namespace L2
theorem Xl{H1 H8:Hp}{as:List Addr}{f:Nat→List V}{i:Nat}{t8 D:Addr}{l l':List V}(hl:as.length=i)(hall:∀(j:Nat) c,as[j]?=some c→H1 c=some (.tup (f j)))(s:A9 H1 H8)(hd:H8 D=some (.lst l))(ht:H8 t8=some (.tup (f i))):∀(j:Nat) c,(as++[t8])[j]?=some c→upd H8 D (.lst l') c=some (.tup (f j)):=fun j c e=>by
 by_cases hj:j < as.length
 · rw [Fu hj]at e
   have g:=s _ _ (hall j c e);rw [A4 (Bp g hd (by intro z;cases z))];exact g
 · rw [Fy (by omega)]at e
   have hj0:j=i:=by have:=(Fc.mp e).1;simp at this;omega
   subst hj0;rw [show j - as.length=0 by omega]at e;cases e;rw [A4 (Bp ht hd (by intro z;cases z))];exact ht
section
variable {K:PySem.W.Frag} {H1:Hp} {tail:St} {te:Blk→TE} {Q:VK} {a:Addr}
theorem Xm{as:List Addr}(x1 x2:Nat→V)(f:Nat→List V)(hS:SqL K H1 a (as.map V.ref))(hz:as.length≤sizeLine)(hT:∀(i:Nat) c,as[i]?=some c→H1 c=some (.tup [x1 i,x2 i]))
 (he:∀b (i:Nat) H Q',i < as.length→A9 H1 H→(∀t H',A9 H H'→H' t=some (.tup (f i))→Q' (.ref t) H')→te b (some (x1 i)::some (x2 i)::tail) H Q')
 (q:∀(D:Addr) (bs:List Addr) (H':Hp),H1 D=none→A9 H1 H'→H' D=some (.lst (bs.map V.ref))→bs.length=as.length→(∀(i:Nat) b,bs[i]?=some b→H' b=some (.tup (f i)))→Q (.ref D) H'):Bq (none::none::tail) (g2 K) (fun _=>Gh) te Q (Itl K a) H1:=by
 intro b D hD;refine ⟨fun i m ys H=>m=as.length - i∧i≤as.length∧H D=some (.lst ys)∧A9 H1 H∧∃bs:List Addr,ys=bs.map V.ref∧bs.length=i∧∀(j:Nat) c,bs[j]?=some c→H c=some (.tup (f j)),⟨_,rfl,Fl _,A3,Cg hD,[],rfl,rfl,fun j y e=>by simp at e⟩,?_⟩;rintro i m ys H ⟨rfl,hi,hd,sm,bs,rfl,hl,hall⟩;refine ⟨hd,?_⟩
 by_cases hlt:i < as.length
 · refine .inr ⟨⟨_,V.ref as[i],sm.seq hS,by simp [hlt]⟩,fun x H3 ⟨e3,ex⟩=>?_⟩
   subst e3;have hx:=ex _ (sm.seq hS)
   have hx':V.ref as[i]=x:=by simpa [hlt] using hx
   subst hx';refine ⟨as[i],_,rfl,SqT.of (sm _ _ (hT i _ (by simp [hlt]))),rfl,_,_,rfl,_,_,rfl,rfl,J1f,?_⟩;show Gh _ _ _;unfold Gh;dsimp only;rw [if_pos rfl];refine he b i _ _ hlt sm fun t8 H8 s8 ht8=>?_;have hd8:=s8 _ _ hd;exact ⟨hd8,by rw [Fa];omega,as.length - (i+1),by omega,rfl,hlt,A3,Kp (sm.trans s8) hD,bs++[t8],by rw [Ft];rfl,by rw [Ff,hl];rfl,Xl hl hall s8 hd8 ht8⟩
 · have e:i=as.length:=by omega
   subst e;exact .inl ⟨⟨_,sm.seq hS,by simp⟩,q D bs H hD sm hd hl hall⟩
end
end L2
namespace L2
section
variable {K:PySem.W.Frag} {H1:Hp} {tail:St} {te:Blk→TE} {Q:VK} {a c:Addr}
theorem J20{xs zs:List V}(f:Nat→V)(hlen:zs.length=xs.length)(hA:SqL K H1 a xs)(hC:SqL K H1 c zs)(hz:zs.length≤sizeLine)
 (he:∀b (i:Nat) x z H Q',xs[i]?=some x→zs[i]?=some z→A9 H1 H→(∀H',A9 H H'→Q' (f i) H')→te b (some x::some z::tail) H Q')
 (q:∀(D:Addr) (H':Hp),H1 D=none→A9 H1 H'→H' D=some (.lst ((List.range zs.length).map f))→Q (.ref D) H'):Bq (none::none::tail) (g2 K) (fun _=>Gh) te Q (Itz K a c) H1:=by
 intro b D hD;refine ⟨fun i m ys H=>m=zs.length - i∧i≤zs.length∧H D=some (.lst ys)∧A9 H1 H∧ys=(List.range i).map f,⟨_,rfl,Fl _,A3,Cg hD,rfl⟩,?_⟩;rintro i m ys H ⟨rfl,hi,hd,sm,hys⟩;refine ⟨hd,?_⟩
 by_cases hlt:i < zs.length
 · have hx:xs[i]?=some (xs[i]'(by omega)):=Fb (by omega)
   have hy:zs[i]?=some zs[i]:=Fb hlt;refine .inr ⟨⟨xs,zs,_,_,sm.seq hA,sm.seq hC,hx,hy⟩,?_⟩;rintro v H3 ⟨t,x',z',rfl,hn,rfl,g1,g2'⟩;have e1:=(g1 xs (sm.seq hA)).symm.trans hx;have e2:=(g2' zs (sm.seq hC)).symm.trans hy;cases e1;cases e2;have s3:A9 H (upd H t (.tup [xs[i]'(by omega),zs[i]])):=A9.new hn;refine ⟨t,_,rfl,SqT.of A3,rfl,_,_,rfl,_,_,rfl,rfl,J1f,?_⟩;show Gh _ _ _;unfold Gh;dsimp only;rw [if_pos rfl];refine he b i _ _ _ _ hx hy (sm.trans s3) fun H8 s8=>?_;have s38:=s3.trans s8;have hd8:=s38 _ _ hd;exact ⟨hd8,by rw [hys,Fa,FT];omega,zs.length - (i+1),by omega,rfl,hlt,A3,Kp (sm.trans s38) hD,by rw [hys,HQ,Ft];rfl⟩
 · have e:i=zs.length:=by omega
   subst e;exact .inl ⟨⟨_,_,sm.seq hA,sm.seq hC,.inr (Fe _)⟩,q D H hD sm (by rw [hd,hys])⟩
end
end L2
namespace N85
open L2 N1 N5 N4 N6 N12 N71 N74 N75 N79 NTx
inductive W85 | thing | tower | prompt | read | keep | ahead | rest | store | levels | found | spent | again
def wd:W85→Str
 | .thing=>Str.ofString "thing" | .tower=>Str.ofString "tower" | .prompt=>Str.ofString "prompt" | .read=>Str.ofString "read" | .keep=>Str.ofString "keep" | .ahead=>Str.ofString "ahead"
 | .rest=>Str.ofString "rest" | .store=>Str.ofString "store" | .levels=>Str.ofString "levels" | .found=>Str.ofString "found" | .spent=>Str.ofString "spent" | .again=>Str.ofString "again"
def fm:W85→List Str
 | .thing=>[Str.ofString "NAME",Str.ofString "COST",Str.ofString "ROOM"] | .tower=>[Str.ofString "SIZE",Str.ofString ".."] | .prompt=>[Str.ofString "SIZE",Str.ofString ".."]
 | .read=>[Str.ofString "NAME"] | .keep=>[Str.ofString "NAME",Str.ofString "VALUE"] | .ahead=>[Str.ofString "NAME"] | .store=>[Str.ofString "NAME"]
 | _=>[]
def Bi(fs:List Str)(n:Nat):List Str:=if Str.ofString ".."∈fs then List.replicate (max 1 n) (fs.getD 0 Str.empty) else fs
def Wd(k w:Str)(v:V):Prop:=(k=Str.ofString "NAME"∧Br w.cps.toList=true∧v= .str w)∨(k≠Str.ofString "NAME"∧k≠Str.ofString "RULE"∧S3 w.cps.toList=true∧v= .int (Xb w.cps.toList))
structure Ln where
 b:W85
 ws:List Str
 vs:List V
structure Ln.ok(l:Ln):Prop where
 k:(Bi (fm l.b) l.ws.length).length=l.ws.length
 v:l.vs.length=l.ws.length
 m:l.ws.length≤100
 w:∀(i:Nat) k w v,(Bi (fm l.b) l.ws.length)[i]?=some k→l.ws[i]?=some w→l.vs[i]?=some v→Wd k w v
def Ln.txt(l:Ln):Str:=Txt.join (Str.ofString " ") (wd l.b::l.ws)
theorem U1{l:List Nat}(h:S3 l=true):1≤l.length∧l.length≤31∧∀c∈l,48≤c∧c≤57:=by
 unfold S3 at h;simp only [Hi,decide_eq_true_eq,Bool.not_eq_true']at h;refine ⟨h.1.1.1,h.1.1.2,fun c hc=>?_⟩;have:=Hg.mp h.1.2 c hc
 have h2:c∈Bd:=by simpa using this
 revert h2
 have:∀c∈Bd,48≤c∧c≤57:=by decide
 exact this c
theorem Ln.ok.word{l:Ln}(h:l.ok){w:Str}(hw:w∈l.ws):1≤w.cps.toList.length∧w.cps.toList.length≤31∧32∉w.cps.toList:=by
 obtain ⟨i,hi⟩:=FP.mp hw;have hil:=(Fc.mp hi).1
 obtain ⟨k,hk⟩:∃k,(Bi (fm l.b) l.ws.length)[i]?=some k:=⟨_,Fb (by rw [h.k];exact hil)⟩
 obtain ⟨v,hv⟩:∃v,l.vs[i]?=some v:=⟨_,Fb (by rw [h.v];exact hil)⟩
 rcases h.w i k w v hk hi hv with ⟨_,h1,_⟩ | ⟨_,_,h1,_⟩
 · obtain ⟨a,b⟩:=K0 h1
   exact ⟨a,by omega,fun hc=>by have:=Ow h1 hc;omega⟩
 · obtain ⟨a,b,c⟩:=U1 h1
   exact ⟨a,b,fun hc=>by have:=c _ hc;omega⟩
theorem We(b:W85):(wd b).cps.toList.length≤6∧1≤(wd b).cps.toList.length∧32∉(wd b).cps.toList:=by cases b <;> decide+kernel
theorem J21(b:W85):(fm b).length≤4∧(Str.ofString ".."∈fm b→1≤(fm b).length):=by cases b <;> exact ⟨by decide,fun _=>by first | decide | (rename_i h;exact absurd h (by decide))⟩
theorem Ln.ok.split{l:Ln}(h:l.ok):Txt.split l.txt (Str.ofString " ")=wd l.b::l.ws:=by
 have e:l.txt=Str.join (Str.ofString " ") (wd l.b::l.ws):=StrLaws.glued_eq_join _ _;rw [e];refine Nh (c:=32) (r:=[]) (by decide+kernel) (by decide+kernel) (by simp) fun p hp=>?_;rcases Fh.mp hp with k | k
 · rw [k];exact (We l.b).2.2
 · exact (h.word k).2.2
theorem Ln.ok.long{l:Ln}(h:l.ok):l.txt.length≤4000:=by
 have e:l.txt=Str.join (Str.ofString " ") (wd l.b::l.ws):=StrLaws.glued_eq_join _ _;rw [e]
 have h1:=K1 (y:=Str.ofString " ") (b:=31) (ps:=wd l.b::l.ws) fun p hp=>by
  rw [← Dh];rcases Fh.mp hp with k | k
  · rw [k];have:=(We l.b).1;omega
  · exact (h.word k).2.1
 have h2:(Str.ofString " ").length=1:=by decide+kernel
 rw [h2,List.length_cons]at h1;have:=h.m;omega
def U2(P:Params)(K:PySem.W.Frag)(xF:Addr)(b:W85):Prop:=∃a:Addr,Sw P K xF (wd b) (some (.ref a))∧∀H:Hp,SqT K H a ((fm b).map V.str)
theorem D3{P:Params}{K:PySem.W.Frag}{xF a:Addr}{b:W85}{es:Array DictEntry}{n nU:Nat}{dU:Option Addr}{its:Array Value}{sU:Array (Option Value)}(lo:(xF==sysModules)=false)(hl:K.lookup xF=some ⟨.type "dict",none,.dict es n,#[]⟩)(hk:PySem.W.KeysLit P es.toList)(e:PySem.W.nsIn K xF (wd b)=some (some (.ref a)))(lU:K.lookup a=some ⟨.type "tuple",dU,.seq its nU,sU⟩)(v:Ax ((fm b).map V.str) its.toList):U2 P K xF b:=
 ⟨a,Cy lo hl hk e ⟨_,rfl,rfl⟩,fun H=> .inr ⟨_,_,_,lU,rfl,rfl,(by have:=Eo;have h1:=v.length;rw [Fa]at h1;have h2:=(J21 b).1;rw [← FG];omega),v⟩⟩
theorem J60{x:V}{xs:List V}:L7 (x::xs) (some 1) none=xs:=by
 unfold L7;rw [show HT.sIx (x::xs).length 0 (some 1)=1 by rw [show (1:Int)=((1:Nat):Int) by rfl,HT.Kj];simp];rw [show HT.sIx (x::xs).length (x::xs).length none=(x::xs).length from rfl];rw [List.drop_succ_cons,List.drop_zero,Hd (by simp)]
def K2:Sp:=fun vs H Q _=>∃z:Str,vs=[.str z]∧Br z.cps.toList=true∧∀H',A9 H H'→Q (.str z) H'
def K3:Sp:=fun vs H Q _=>∃(k w:Str) (v:V),vs=[.str k,.str w]∧Wd k w v∧∀H',A9 H H'→Q v H'
def Gu(K:PySem.W.Frag):Sp:=fun vs H Q _=>∃(a:Addr) (fs:List Str) (n:Nat),vs=[.ref a,.int n]∧SqT K H a (fs.map V.str)∧fs.length≤4∧n≤100∧(Str.ofString ".."∈fs→1≤fs.length)∧∀(p:Addr) (H':Hp),H p=none→A9 H H'→H' p=some (.lst ((Bi fs n).map V.str))→Q (.ref p) H'
def K4:Sp:=fun vs H Q _=>∃l:Ln,vs=[.str l.txt]∧l.ok∧∀(t g:Addr) (H':Hp),A9 H H'→H t=none→H g=none→t≠g→H' t=some (.tup [.str (wd l.b),.ref g])→H' g=some (.lst l.vs)→Q (.ref t) H'
theorem Wf{K:PySem.W.Frag}{H:Hp}{p:Addr}{z:Str}{ys:List Str}{Q:VK}(h:SqT K H p (ys.map V.str))(q:Q (.bl (decide (z∈ys))) H):rIn K false (.str z) (.ref p) H Q:=by
 refine ⟨p,_,rfl,.inr h,rfl,Qp,?_⟩;rw [if_neg (by decide),Xk];exact q
theorem Gv{v:Int}(h0:0≤v)(h1:v≤10 ^ 40):v.natAbs.log2 < 1920:=by
 by_cases e:v.natAbs=0
 · rw [e];decide
 · refine (Nat.log2_lt e).mpr ?_
   have h2:v.natAbs≤10 ^ 40:=by omega
   exact Fx h2 (by decide+kernel)
theorem Kt{ys:List Str}{b:Nat}(h:∀y∈ys,y.length≤b):(ys.map fun x=>x.length).sum≤ys.length * b:=by
 induction ys with
 | nil=>simp
 | cons y r ih=>
  rw [List.map_cons,R6,List.length_cons,Nat.add_mul];have h1:=h y Fj;have h2:=ih fun u hu=>h u (Fd _ hu);omega
theorem sp1:(Str.ofString " ").length=1:=by decide+kernel
def J86:V→V
 | .int i=> .str (Str.ofString (toString i))
 | _=> .non
theorem Xn(xs:List Int):(xs.map V.int).map J86=(xs.map fun i=>Str.ofString (toString i)).map V.str:=by
 rw [FL,FL];rfl
theorem Mf{v:Int}(h0:0≤v)(h1:v < 10 ^ 31):(Str.ofString (toString v)).length≤31:=by
 have:=(U1 (Nf h0 h1).1).2.1;rw [← Dh];exact this
theorem Wg{zs:List Int}:∀{R:List Str} (i:Nat),(lvl zs R i).length≤R.length:=by
 induction zs with
 | nil=>intro R i;show 0≤_;omega
 | cons z zs ih=>
  intro R i
  cases i with
  | zero=>show (R.take z.toNat).length≤_;rw [FV];omega
  | succ i=>
   show (lvl zs (R.drop z.toNat) i).length≤_;refine FA (ih i) ?_;rw [Hf];omega
def thd:Th:=(Str.empty,0,0)
theorem Wh{ts:List Th}{i j:Nat}{t u:Th}(nd:(ts.map (·.1)).Nodup)(h1:ts[i]?=some t)(h2:ts[j]?=some u)(e:t.1=u.1):t=u:=by
 have a1:(ts.map (·.1))[i]?=some t.1:=by rw [Fi,h1];rfl
 have a2:(ts.map (·.1))[j]?=some t.1:=by rw [Fi,h2,e];rfl
 have hij:i=j:=(List.getElem?_inj (by have:=(Fc.mp a1).1;exact this) nd).mp (a1.trans a2.symm);subst hij;rw [h1]at h2;exact FQ h2
structure Dfs(st as:Addr)(tw:V)(fs:List (Str×V)):Prop where
 st:fs.lookup (Str.ofString "stock")=some (.ref st)
 as:fs.lookup (Str.ofString "asks")=some (.ref as)
 tw:fs.lookup (Str.ofString "tower")=some tw
 n:fs.length < 500
 m:fs.lookup (Str.ofString "say")=none
 k:fs.lookup (Str.ofString "things")=none
theorem Dfs.stock{st as st':Addr}{tw:V}{fs:List (Str×V)}(h:Dfs st as tw fs):Dfs st' as tw (Aj (Str.ofString "stock") (.ref st') fs):=by
 refine ⟨by rw [An,if_pos rfl],?_,?_,by rw [Io (by rw [h.st];rfl)];exact h.n,?_,?_⟩ <;> rw [An,if_neg (by decide+kernel)]
 · exact h.as
 · exact h.tw
 · exact h.m
 · exact h.k
theorem Dfs.asks{st as as':Addr}{tw:V}{fs:List (Str×V)}(h:Dfs st as tw fs):Dfs st as' tw (Aj (Str.ofString "asks") (.ref as') fs):=by
 refine ⟨?_,by rw [An,if_pos rfl],?_,by rw [Io (by rw [h.as];rfl)];exact h.n,?_,?_⟩ <;> rw [An,if_neg (by decide+kernel)]
 · exact h.st
 · exact h.tw
 · exact h.m
 · exact h.k
theorem Dfs.tower{st as:Addr}{tw tw':V}{fs:List (Str×V)}(h:Dfs st as tw fs):Dfs st as tw' (Aj (Str.ofString "tower") tw' fs):=by
 refine ⟨?_,?_,by rw [An,if_pos rfl],by rw [Io (by rw [h.tw];rfl)];exact h.n,?_,?_⟩ <;> rw [An,if_neg (by decide+kernel)]
 · exact h.st
 · exact h.as
 · exact h.m
 · exact h.k
structure Dk(C:Addr)(H:Hp)(d st as:Addr)(tw:V):Prop where
 o:∃dx fs,H d=some (.ins C dx fs)∧Dfs st as tw fs
theorem Dk.same{C d st as:Addr}{tw:V}{H H':Hp}(m:A9 H H')(h:Dk C H d st as tw):Dk C H' d st as tw:=let ⟨dx,fs,h1,h2⟩:=h.o;⟨dx,fs,m _ _ h1,h2⟩
structure Lq(K:PySem.W.Frag)(S:Addr)(H0 H:Hp)(p:Addr)(ts:List Th):Prop where
 at':Au K S H p ts
 fr:∀dx d fs,H p=some (.ins S dx fs)→fs.lookup (Str.ofString "things")=some (.ref d)→H0 d=none
theorem Lq.mk'{K:PySem.W.Frag}{S p:Addr}{H0 H0' H H':Hp}{ts ts':List Th}(h:Lq K S H0 H p ts)(a:Au K S H' p ts')(e:H' p=H p)(m:∀b,H0 b=none→H0' b=none):Lq K S H0' H' p ts':=⟨a,fun dx d fs e1 e2=>m _ (h.fr dx d fs (by rw [← e];exact e1) e2)⟩
theorem Lq.t{K:PySem.W.Frag}{S p:Addr}{H0 H:Hp}{ts:List Th}{L:List Addr}(h:Lq K S H0 H p ts)(hp:p∉L)(hL:∀b∈L,∃o,H0 b=some o)(ht:∀b∈L,∃kv,H b=some (.dK kv)):B2 K S H p ts L:=by
 obtain ⟨dx,d,kvs,h1,h2,h3,h4⟩:=h.at'.ex;refine ⟨dx,d,kvs,h1,h2,hp,fun m=>?_,h3,fun i t e=>?_⟩
 · obtain ⟨o,ho⟩:=hL d m
   rw [h.fr dx d _ h1 (by with_unfolding_all rfl)]at ho;cases ho
 · obtain ⟨a,e1,e2⟩:=h4 i t e
   refine ⟨a,e1,?_⟩;rcases e2 with e2 | e2
   · refine .inl ⟨e2,fun m=>?_⟩
     obtain ⟨kv,hk⟩:=ht a m
     rcases e2 with e2 | ⟨o,e2⟩ <;> rw [hk]at e2 <;> cases e2
   · exact .inr fun _=> .inr e2
def Gw(K:PySem.W.Frag)(C:Addr):Sp:=fun vs H Q _=>∃(p dx ra:Addr) (rs:List Rw),vs=[.ref p,.ref ra]∧H p=some (.ins C dx [])∧SqL K H ra (rs.map fun t=>V.ref t.1)∧(∀t∈rs,SqT K H t.1 [t.2.1,t.2.2.1,t.2.2.2])∧Oc rs=none∧
 ∀H',SameBut p H H'→Lq K C H H' p (rs.map J17)→Q .non H'
def K5(K:PySem.W.Frag)(D S:Addr):Sp:=fun vs H Q _=>∃(d dx:Addr),vs=[.ref d]∧H d=some (.ins D dx [])∧∀(st as:Addr) (H':Hp),SameBut d H H'→Dk D H' d st as .non→Lq K S H H' st []→H' as=some (.lst [])→H st=none→H as=none→Q .non H'
def Mg(D:Addr):Sp:=fun vs H Q _=>∃(d st as t:Addr),vs=[.ref d]∧Dk D H d st as (.ref t)∧Q (.ref t) H
abbrev Dv(C1 C2:Addr):Bool→Addr:=fun w=>match w with | true=>C2 | false=>C1
def E4(K:PySem.W.Frag)(D S:Addr):Sp:=fun vs H Q _=>∃(d gv st as:Addr) (tw:V) (ts:List Th) (t:Th),vs=[.ref d,.ref gv]∧Dk D H d st as tw∧Au K S H st ts∧((ts++[t]).map (·.1)).Nodup∧ts.length≤59∧(∀u∈ts++[t],Br u.1.cps.toList=true∧0≤u.2.1∧u.2.1≤10 ^ 30∧1≤u.2.2∧u.2.2≤1000)∧H gv=some (.lst [.str t.1,.int t.2.1,.int t.2.2])∧
 ∀(st':Addr) (H':Hp),SameBut d H H'→Dk D H' d st' as tw→Lq K S H H' st' (ts++[t])→H st'=none→Q (.str (Str.ofString "ok")) H'
def Es(D:Addr):Sp:=fun vs H Q _=>∃(d gv st as:Addr) (tw:V),vs=[.ref d,.ref gv]∧Dk D H d st as tw∧∀(as':Addr) (H':Hp),SameBut d H H'→Dk D H' d st as' tw→H' as'=some (.lst [])→H as'=none→Q (.str (Str.ofString "ok")) H'
theorem J22{K:PySem.W.Frag}{S D d dx p:Addr}{H:Hp}{fs:List (Str×V)}{ts:List Th}(h:Au K S H p ts)(hd:H d=some (.ins D dx fs))(hf:fs.lookup (Str.ofString "things")=none):B2 K S H p ts [d]:=by
 obtain ⟨dx',d',kvs,h1,h2,h3,h4⟩:=h.ex;refine ⟨dx',d',kvs,h1,h2,fun m=>?_,fun m=>?_,h3,fun i t e=>?_⟩
 · rw [Fg.mp m,hd]at h1
   cases h1;rw [show (flds d').lookup (Str.ofString "things")=some (.ref d') by with_unfolding_all rfl]at hf;cases hf
 · rw [Fg.mp m,hd]at h2
   cases h2
 · obtain ⟨a,e1,e2⟩:=h4 i t e
   refine ⟨a,e1,?_⟩;rcases e2 with e2 | e2
   · refine .inl ⟨e2,fun m=>?_⟩
     rcases e2 with e2 | ⟨o,e2⟩ <;> rw [Fg.mp m,hd]at e2 <;> cases e2
   · exact .inr fun _=> .inr e2
theorem Tws.last{K:PySem.W.Frag}{S st:Addr}{ts:List Th}{B:Nat}{H:Hp}{ks:List Addr}{l1 l2:List Tw}(h:Tws K S st ts B H ks (l1++l2)):Tws K S st ts B H ks l2:=
 ⟨fun w hw=>h.ok w (Fv _ hw),(R7.mp h.ap).2.1,h.sk.mono fun b hb=> .inl (by
  rcases B4.mp hb with k | ⟨w,hw,k⟩
  · exact B4.mpr (.inl k)
  · exact B4.mpr (.inr ⟨w,Fv _ hw,k⟩)),fun w hw=>h.es w (Fv _ hw),fun c hc w hw=>h.kk c hc w (Fv _ hw),h.kl⟩
def C0(K:PySem.W.Frag)(D C1 C2 S:Addr)(pr:Bool):Sp:=fun vs H Q _=>∃(d gv st as:Addr) (tw:V) (ts:List Th) (zs:List Int) (ks:List Addr) (ws:List Tw) (B:Nat),vs=[.ref d,.ref gv]∧Dk D H d st as tw∧Au K S H st ts∧Tws K S st ts B H ks ws∧d∈ks∧1≤B∧B≤90000∧(ts.map (·.1)).Nodup∧(∀t∈ts,t.2.2=1)∧ts.length≤59∧H gv=some (.lst (zs.map V.int))∧1≤zs.length∧zs.length≤6∧(∀z∈zs,1≤z∧z≤1000000)∧
 ∀(t:Addr) (x:TwA) (s:TwS) (H':Hp),SameBut d H H'→Dk D H' d st as (.ref t)→Tws K S st ts B H' ks (ws++[⟨Dv C1 C2 pr,t,x,s,g0⟩])→s.R=[]→s.zs=zs→s.pd=0→s.ff=List.replicate (zs.length+1) 0→(∀b∈x.si::own t x,H b=none)→Q (.str (Str.ofString "ok")) H'
structure DkT(K:PySem.W.Frag)(D C1 C2 S:Addr)(H:Hp)(d st as t:Addr)(pr:Bool)(x:TwA)(s:TwS)(g:Gt)(ts:List Th)(B:Nat):Prop where
 d:Dk D H d st as (.ref t)
 t:Cj K (Dv C1 C2 pr) S H t x s g ts B
def nT(i:Int):Str:=Str.ofString (toString i)
def Et(K:PySem.W.Frag)(D C1 C2 S:Addr):Sp:=fun vs H Q _=>∃(d gv st as t:Addr) (pr:Bool) (x:TwA) (s:TwS) (g:Gt) (ts:List Th) (B:Nat) (z:Str),vs=[.ref d,.ref gv]∧DkT K D C1 C2 S H d st as t pr x s g ts B∧H gv=some (.lst [.str z])∧z∈ts.map (·.1)∧B≤80000∧0≤(Cs s.zs.sum s.R z g).h z∧(Cs s.zs.sum s.R z g).h z≤10 ^ 30∧
 ∀(s':TwS) (H':Hp),Off (own t x) H H'→Cj K (Dv C1 C2 pr) S H' t x s' (Cs s.zs.sum s.R z g) ts (B+2)→s'.R=Di z s→s'.zs=s.zs→s'.pd=s.pd+(if z∈s.R then 0 else Bo ts z)→s'.ff=bump s.ff (shx s.zs s.R z)→Q (.str (nT ((Cs s.zs.sum s.R z g).h z))) H'
def Eu(K:PySem.W.Frag)(D C1 C2 S:Addr):Sp:=fun vs H Q _=>∃(d gv st as t:Addr) (pr:Bool) (x:TwA) (s:TwS) (g:Gt) (ts:List Th) (B:Nat) (z:Str) (v:Int),vs=[.ref d,.ref gv]∧DkT K D C1 C2 S H d st as t pr x s g ts B∧H gv=some (.lst [.str z,.int v])∧-(10 ^ 30)≤v∧v≤10 ^ 30∧z∈ts.map (·.1)∧B≤80000∧
 ∀(s':TwS) (H':Hp),Off (own t x) H H'→Cj K (Dv C1 C2 pr) S H' t x s' (Oo pr s.zs.sum s.R z v g) ts (B+3)→s'.R=Di z s→s'.zs=s.zs→s'.pd=s.pd→s'.ff=bump s.ff (shx s.zs s.R z)→Q (.str (Str.ofString "ok")) H'
def E5(K:PySem.W.Frag)(D C1 C2 S:Addr):Sp:=fun vs H Q _=>∃(d gv st as t:Addr) (pr:Bool) (x:TwA) (s:TwS) (g:Gt) (ts:List Th) (B:Nat) (z:Str),vs=[.ref d,.ref gv]∧DkT K D C1 C2 S H d st as t pr x s g ts B∧H gv=some (.lst [.str z])∧z∈ts.map (·.1)∧B≤80000∧
 ∀(s':TwS) (H':Hp),Off (own t x) H H'→Cj K (Dv C1 C2 pr) S H' t x s' (Ce s.zs.sum s.R z g) ts (B+2)→s'.R=(if z∈s.R then s.R else Di z s)→s'.zs=s.zs→s'.pd=s.pd+(if z∈s.R then 0 else Bo ts z)→s'.ff=s.ff→Q (.str (if z∈s.R then Str.ofString "no" else Str.ofString "yes")) H'
def Ew(K:PySem.W.Frag)(D C1 C2 S:Addr):Sp:=fun vs H Q _=>∃(d gv st as t:Addr) (pr:Bool) (x:TwA) (s:TwS) (g:Gt) (ts:List Th) (B:Nat),vs=[.ref d,.ref gv]∧DkT K D C1 C2 S H d st as t pr x s g ts B∧B≤80000∧
 ∀(x':TwA) (s':TwS) (H':Hp),Off (own t x) H H'→(∀b∈own t x',b∈own t x∨H b=none)→Cj K (Dv C1 C2 pr) S H' t x' s' (G3 s.R g) ts (B+100)→s'.R=s.R→s'.zs=s.zs→s'.pd=s.pd→s'.ff=s.ff→x'.st=x.st→x'.si=x.si→Q (.str (nT ((s.R.filter g.l).length:Nat))) H'
def E6(K:PySem.W.Frag)(D C1 C2 S:Addr):Sp:=fun vs H Q _=>∃(d gv st as t:Addr) (pr:Bool) (x:TwA) (s:TwS) (g:Gt) (ts:List Th) (B:Nat) (z:Str),vs=[.ref d,.ref gv]∧DkT K D C1 C2 S H d st as t pr x s g ts B∧H gv=some (.lst [.str z])∧z∈ts.map (·.1)∧0≤g.st z∧g.st z≤10 ^ 30∧Q (.str (nT (g.st z))) H
def slash:Str:=Str.ofString "/"
def J8v(zs:List Int)(R:List Str):Str:=Txt.join (Str.ofString " ") ((List.range zs.length).map fun j=>Txt.join (Str.ofString " ") (lvl zs R j++[slash]))
def Dl(K:PySem.W.Frag)(D C1 C2 S:Addr):Sp:=fun vs H Q _=>∃(d gv st as t:Addr) (pr:Bool) (x:TwA) (s:TwS) (g:Gt) (ts:List Th) (B:Nat),vs=[.ref d,.ref gv]∧DkT K D C1 C2 S H d st as t pr x s g ts B∧(∀y∈s.R,y.length≤8)∧∀H',A9 H H'→Q (.str (J8v s.zs s.R)) H'
def E7(K:PySem.W.Frag)(D C1 C2 S:Addr):Sp:=fun vs H Q _=>∃(d gv st as t:Addr) (pr:Bool) (x:TwA) (s:TwS) (g:Gt) (ts:List Th) (B:Nat),vs=[.ref d,.ref gv]∧DkT K D C1 C2 S H d st as t pr x s g ts B∧(∀i∈s.ff,0≤i∧i≤1000)∧∀H',A9 H H'→Q (.str (Txt.join (Str.ofString " ") (s.ff.map nT))) H'
def E8(K:PySem.W.Frag)(D C1 C2 S:Addr):Sp:=fun vs H Q _=>∃(d gv st as t:Addr) (pr:Bool) (x:TwA) (s:TwS) (g:Gt) (ts:List Th) (B:Nat),vs=[.ref d,.ref gv]∧DkT K D C1 C2 S H d st as t pr x s g ts B∧0≤s.pd∧s.pd≤10 ^ 33∧Q (.str (nT s.pd)) H
abbrev spA(K:PySem.W.Frag)(D C1 C2 S:Addr):W85→Sp:=fun b=>match b with
 | .thing=>E4 K D S | .tower=>C0 K D C1 C2 S false | .prompt=>C0 K D C1 C2 S true | .read=>Et K D C1 C2 S | .keep=>Eu K D C1 C2 S | .ahead=>E5 K D C1 C2 S
 | .rest=>Ew K D C1 C2 S | .store=>E6 K D C1 C2 S | .levels=>Dl K D C1 C2 S | .found=>E7 K D C1 C2 S | .spent=>E8 K D C1 C2 S | .again=>Es D
theorem J87{K:PySem.W.Frag}{D C1 C2 S:Addr}{b:W85}{vs:List V}{H:Hp}{Q:VK}{E E':XK}(h:spA K D C1 C2 S b vs H Q E):spA K D C1 C2 S b vs H Q E':=by cases b <;> exact h
def Ku(K:PySem.W.Frag)(D C1 C2 S:Addr):Sp:=fun vs H Q E=>∃(d:Addr) (l:Ln),vs=[.ref d,.str l.txt]∧l.ok∧∀(gv:Addr) (H1:Hp),A9 H H1→H gv=none→H1 gv=some (.lst l.vs)→spA K D C1 C2 S l.b [.ref d,.ref gv] H1 Q E
end N85
namespace L2
def J3l:V→List V→Hp→VK→Prop:=fun x vs H Q=>∃a kvs,x= .ref a∧vs=[]∧H a=some (.dK kvs)∧Q .non (upd H a (.dK []))
section
variable {X:Cx}
theorem Xo:MtM X "dict.clear" J3l:=by
 intro pins s σ H x vs v us Q I rx rv h;obtain ⟨a,kvs,rfl,rfl,ha,q⟩:=h;cases rx;have hus:=rv.zero;subst hus;obtain ⟨z,lo,ws,rel,dd⟩:=I.hok a _ ha;refine Rn PySem.F.slot_dict_clear dd.typeIs PySem.F.entry_dict_clear (PySem.F.args_dict_clear_1 _) (meets_dict_clear (knd:=Ba X.prog X.w) (d:=a)) ⟨ws,dd,by rw [← rel.length];exact z,fun h' hd hs=>?_⟩;obtain ⟨ob,es,ep,e1,e2⟩:=id hd;exact ⟨.non,_,I.write (x:=a) (e:=a) (t':=s.toks) (by rw [ha];trivial) (.inl rfl) (fun b u nb e=>(hs.2 b nb).trans e) ⟨_,e1⟩ (show Bv X.prog X.w _ h' _ (.dK []) from ⟨Fl _,lo,[],.nil,hd⟩),rfl,q⟩
end
end L2
namespace N23
open L2 N1 N5 N4 N6 N12 N32 N14 N20 N18 N25 NR N22 N21 N24
end N23
namespace L2
def U3{ι:Type}(C:ι→Addr)(m:Str)(sp:ι→Sp)(EE:St→XK)(ta:TE)(t:TA):TE:=fun σ H Q=>ta σ H fun x H1=>∃b a dx fs,x= .ref a∧H1 a=some (.ins (C b) dx fs)∧fs.lookup m=none∧t σ H1 fun vs H2=>sp b (x::vs) H2 Q (EE σ)
section
variable {ι:Type} {X:Cx} {CX:CXT} {k j:Nat} {C:ι→Addr} {ps:List Str} {sp:ι→Sp} {EE:St→XK} {m:Str} {pos apos:Pos} {e o:Expr} {es:List Expr} {ta:TE} {t:TA}
theorem Kv{pl:Sem Bool}(D:∀b,Ca X.prog X.w X.K X.mg X.base CX j (C b) m ps (sp b))(c:∀b,Cls X.K (C b))(hr:Cv k X.A)(hx:Dz CX X EE)(he:PE X o ta)(ha:PA X (e::es) t)(hj:j≤k:=by decide)
 (hst:starEach (e::es) X.env=(false,eval e X.env)::starEach es X.env:=by rfl) (hpl:(backTo pos (starEach es X.env)).any (·.1)=false:=by rfl)
 (ht:eval (.Call (.Attribute o m apos) (e::es) [] pos) X.env=(do
  let ov ← eval o X.env
  standAt apos.atName
  let (f,first) ← holding [ov] (getMethod ov m pl)
  callWith pos f first (backTo pos (starEach (e::es) X.env)) (backToKw pos (keywordEach [] X.env))):=by rfl):
 PE X (.Call (.Attribute o m apos) (e::es) [] pos) (U3 C m sp EE ta t):=by
 intro pins s σ H Q I h;refine R4 (pl:=pl) (thn (he pins s σ H _ I h) fun u s1 hq_=>?_) ht;obtain ⟨x,H1,I1,rx,b,a,dx,fs,ex,ea,l,q⟩:=hq_;obtain ⟨f,fd,F,hm,hb⟩:=(D b).ex;subst ex;obtain rfl:u=Value.ref a:=rx;refine Ge I1 ea (c b) hm l ?_;refine HU (first:=[.ref a]) (h₀:=X.base) I.ok.mod.kin hm.kp (thn (ha pos pins s1 σ H1 _ I1 q) fun us s2 ⟨vs,H2,I2,r,q2⟩=>⟨I2.kIn,?_⟩) hst hpl;exact M9 (us:= .ref a::us) (vs:= .ref a::vs) (F.mono hj) hr hb hx I2 (.cons rfl r) q2
theorem Sy{σ:St}{H:Hp}{Q:VK}:U3 C m sp EE ta t σ H Q=ta σ H fun x H1=>∃b a dx fs,x= .ref a∧H1 a=some (.ins (C b) dx fs)∧fs.lookup m=none∧t σ H1 fun vs H2=>sp b (x::vs) H2 Q (EE σ):=rfl
end
end L2
namespace N29
open L2 N1 N5 N4 N6 N12 N32 N14 N20 N18 N25 NR N22 N21 N24 N23
inductive W5 where
 | ra | ol | fi | ha | fa
structure C5 where
 ra:Addr
 ol:Addr
 fi:Addr
 ha:Addr
 fa:Addr
structure L5 where
 k:Int
 la:List (Key×V)
 pu:List (Key×V)
 ta:List (Key×V)
 e:Int
end N29
namespace L2
section
variable {ι:Type} {X:Cx} {CX:CXT} {k j:Nat} {C:ι→Addr} {ps:List Str} {sp:ι→Sp} {EE:St→XK} {m:Str} {pos apos:Pos} {o:Expr} {ta:TE}
theorem K6{pl:Sem Bool}(D:∀b,Ca X.prog X.w X.K X.mg X.base CX j (C b) m ps (sp b))(c:∀b,Cls X.K (C b))(hr:Cv k X.A)(hx:Dz CX X EE)(he:PE X o ta)(hj:j≤k:=by decide)
 (ht:eval (.Call (.Attribute o m apos) [] [] pos) X.env=(do
  let ov ← eval o X.env
  standAt apos.atName
  let (f,first) ← holding [ov] (getMethod ov m pl)
  callWith pos f first (backTo pos (starEach [] X.env)) (backToKw pos (keywordEach [] X.env))):=by rfl):
 PE X (.Call (.Attribute o m apos) [] [] pos) (U3 C m sp EE ta Yc):=by
 intro pins s σ H Q I h;refine R4 (pl:=pl) (thn (he pins s σ H _ I h) fun u s1 hq_=>?_) ht;obtain ⟨x,H1,I1,rx,b,a,dx,fs,ex,ea,l,q⟩:=hq_;obtain ⟨f,fd,F,hm,hb⟩:=(D b).ex;subst ex;obtain rfl:u=Value.ref a:=rx;refine Ge I1 ea (c b) hm l ?_;exact RC (first:=[.ref a]) I1.kIn hm.kp (M9 (us:=[.ref a]) (vs:=[.ref a]) (F.mono hj) hr hb hx I1 (.cons rfl .nil) q)
end
end L2
namespace N30
open PySem
end N30
namespace L2
open N30
section
variable {K:Type} [DecidableEq K]
def ds1(s:List K)(y:K):List K:=if y∈s then s else s++[y]
def ds(ys:List K):List K:=ys.foldl ds1 []
end
end L2
namespace N35
open L2 N1 N5 N31 N4 N32 N41
variable {ys:List Str} {R:Str→Int} {n c:Nat}
theorem Xp{K:PySem.W.Frag}{H1:Hp}{tail:L2.St}{te:Blk→TE}{Q:VK}{a:Addr}{xs:List V}(f:Nat→List V)(hS:SqL K H1 a xs)(hz:xs.length≤sizeLine)(he:∀b (i:Nat) x H Q',xs[i]?=some x→A9 H1 H→(∀t H',A9 H H'→H' t=some (.tup (f i))→Q' (.ref t) H')→te b (some x::tail) H Q')
 (q:∀(D:Addr) (as:List Addr) (H':Hp),H1 D=none→A9 H1 H'→H' D=some (.lst (as.map V.ref))→as.length=xs.length→(∀i b,as[i]?=some b→H' b=some (.tup (f i)))→Q (.ref D) H'):Bq (none::tail) (fun _=>Cb 0) (fun _=>Gh) te Q (Itl K a) H1:=by
 refine Iu xs.length (fun b D hD=>⟨fun i ys H=>i≤xs.length∧H D=some (.lst ys)∧A9 H1 H∧∃as:List Addr,ys=as.map V.ref∧as.length=i∧∀j c,as[j]?=some c→H c=some (.tup (f j)),⟨Fl _,A3,Cg hD,[],rfl,rfl,fun j y e=>by simp at e⟩,?_,?_,?_⟩)
 · rintro i ys H ⟨hi,h,_⟩
   exact h
 · rintro ys H ⟨_,h,sm,as,rfl,hl,hall⟩
   exact ⟨⟨xs,sm.seq hS,Fe _⟩,q D as H hD sm h hl hall⟩
 · rintro i ys H hi ⟨_,h,sm,as,rfl,hl,hall⟩
   refine ⟨⟨xs,xs[i],sm.seq hS,by simp [hi]⟩,fun x H3 ⟨e3,ex⟩=>?_⟩;subst e3;refine he b i x _ _ (ex xs (sm.seq hS)) sm fun t H4 sm4 py=>?_;have h4:=sm4 _ _ h;refine G6 h4 (by rw [Fa];omega) hi ⟨hi,A3,fun c o e=>?_,as++[t],by rw [Ft];rfl,by rw [Ff,hl];rfl,fun j c e=>?_⟩
   · rw [A4 (A6 e hD)];exact sm4 _ _ (sm _ _ e)
   · by_cases hj:j < as.length
     · rw [Fu hj]at e
       have g:=sm4 _ _ (hall j c e);rw [A4 (Bp g h4 (by intro z;cases z))];exact g
     · rw [Fy (by omega)]at e
       have hj0:j=i:=by have:=(Fc.mp e).1;simp at this;omega
       subst hj0;rw [show j - as.length=0 by omega]at e;cases e;rw [A4 (Bp py h4 (by intro z;cases z))];exact py
theorem J61(ns:List Int)(lo hi:Nat):∃cs:List Int,L7 (ns.map V.int) (some (lo:Int)) (some (hi:Int))=cs.map V.int∧cs.length≤hi - lo∧cs.length≤ns.length - lo:=by
 unfold L7;rw [HT.Kj,HT.Kj,Fa,← List.map_drop,← List.map_take];refine ⟨_,rfl,?_,?_⟩
 · rw [FV,Hf];omega
 · rw [FV,Hf];omega
end N35
namespace N34
open L2 N1 N5 N31 N4 N32 N41 N35
variable {ys:List Str} {R:Str→Int} {n c:Nat}
def Fp(i:Int)(k:Nat):Nat→Int
 | 0=>i+(k:Int) / 8
 | j+1=>(i / 24).fdiv ((j:Int)+1)+5 * j
def nmP(i:Int)(k:Nat):List Nat:=nmL (Fp i k) (-1) (1+k % 8) 0
def Iq(i:Int)(n:Nat):List Nat:=(List.range n).map fun (j:Nat)=>bc (((i / 24).fdiv ((j:Int)+1)+5 * j) % 36)
theorem Xq{i:Int}{n:Nat}:Iq i (n+1)=Iq i n++[bc (((i / 24).fdiv ((n:Int)+1)+5 * n) % 36)]:=by
 unfold Iq;rw [HQ,Ft];rfl
theorem U4{i:Int}{k:Nat}:nmP i k=bc ((i+(k:Int) / 8) % 26)::(Iq i 7).take (k % 8):=by
 unfold nmP nmL Iq;rw [Nat.add_comm,List.range_succ_eq_map,List.map_cons,FL,← List.map_take,List.take_range,Nat.min_eq_left (by omega)];congr 1
 · unfold sgn md
   rw [if_neg (by omega),if_pos rfl,Rh];rfl
 · refine RD fun j _=>?_
   show sgn (Fp i k) (-1) 0 (j+1)=_;unfold sgn md;rw [if_neg (by omega),if_neg (by omega),Rh];rfl
theorem J23{i:Int}{k:Nat}:Br (nmP i k)=true:=Sa (by omega) (by omega)
theorem J3m{i:Int}{k k':Nat}(hk:k < 26)(hk':k' < 26)(h:nmP i k=nmP i k'):k=k':=by
 have hl:=congrArg List.length h;unfold nmP nmL at hl;rw [Fa,Fa,FT,FT]at hl;rw [U4,U4]at h
 injection h with h1 _
 have h2:=J5s (j:=0) (show bc ((i+(k:Int) / 8) % md 0)=bc ((i+(k':Int) / 8) % md 0) from h1);have h3:(i+(k:Int) / 8) % 26=(i+(k':Int) / 8) % 26:=h2;omega
def Xr(i:Int)(m:Nat):List Str:=(List.range m).map fun k=>tx (nmP i k)
theorem U5{i:Int}{m:Nat}(hm:m≤26):(Xr i m).Nodup:=by
 unfold Xr List.Nodup;rw [RI];refine List.Pairwise.imp_of_mem (R:=fun a b=>a≠b) ?_ List.nodup_range;intro a b ha hb hab e;exact hab (J3m (by have:=Hz.mp ha;omega) (by have:=Hz.mp hb;omega) (J4o e))
theorem U6{l:List Nat}{k:Nat}(h:k≤l.length):Txt.slice (tx l) none (some (k:Int))=tx (l.take k):=by
 have e:=HJ.mp (PyProof.Rows.slice_closes_toL (x:=tx l) (j:=(k:Int)) (by omega) (by rw [S5];omega));rw [e,Ik];unfold tx;rw [show ((k:Int) - 0).toNat=k by omega];rfl
end N34
namespace L2
def J62:V→List V→Hp→VK→Prop:=fun x vs H Q=>∃(l:Addr) (ys:List Str) (z:Str),x= .ref l∧vs=[.str z]∧H l=some (.lst (ys.map V.str))∧z∈ys∧Q (.int (ys.idxOf z:Nat)) H
section
variable {X:Cx}
theorem Sz{x:V}{vs:List V}{H:Hp}{Q:VK}:J62 x vs H Q=∃(l:Addr) (ys:List Str) (z:Str),x= .ref l∧vs=[.str z]∧H l=some (.lst (ys.map V.str))∧z∈ys∧Q (.int (ys.idxOf z:Nat)) H:=rfl
end
end L2
namespace N36
open L2 N1 N5 N4 N6 N12 N32 N14 N20 N18 N25 NR N22 N21 N24 N23 N29
def pos(row:List Str)(z:Str):Nat:=if z∈row then row.idxOf z else row.length
inductive W3 where
 | ol | ha | fa
def Gx:Sp:=fun vs H Q _=>∃(i:Int) (m:Nat),vs=[.int i,.int m]∧m≤26∧∀(p:Addr) (ys:List Str) (H':Hp),H p=none→A9 H H'→H' p=some (.lst (ys.map V.str))→ys.length=m→ys.Nodup→(∀y∈ys,Br y.cps.toList=true)→Q (.ref p) H'
end N36
namespace L2
section
variable {X:Cx} {CX:CXT} {k j:Nat} {C:Addr} {ps:List Str} {sp:Sp} {EE:St→XK} {x:Str} {p pos:Pos}
theorem Ox(D:Qq X.prog X.w X.K X.mg X.base CX j x C ps sp)(hr:Cv k X.A)(hg:Gl X x)(hx:Dz CX X EE)(hj:j+1≤k:=by decide)(hdb:(x==("__debug__":Str))=false:=by decide):
 PE X (.Call (.Name x p) [] [] pos) (Tu C sp EE Yc):=by
 obtain ⟨f,fd,F,M,hm,hb⟩:=D.ex;intro pins s0 σ H0 Q I h;refine HB (Lr I hg hm ?_ hdb);have q:∀x dx,H0 x=none→H0 dx=none→dx≠x→sp [.ref x] (upd (upd H0 dx (.own x)) x (.ins C dx [])) (fun v H2=>v= .non∧Q (.ref x) H2) (EE σ):=h;refine RC (first:=[]) I.kIn M.kp ?_;have hq:=q (s0.heap.objs.size+1) s0.heap.objs.size (I.hok.fresh (Rx _)) (I.hok.fresh (Fe _)) (FF (R5 _));have I2:=Inv.made (C:=C) I;have r2:Ax [V.ref (s0.heap.objs.size+1)] [Value.ref (s0.heap.objs.size+1)]:= .cons rfl .nil
 have hl:[Value.ref (s0.heap.objs.size+1)].length=ps.length:=by
  rw [← r2.length];exact F.len _ _ _ _ hq
 have hb':=fun s' (h':X.K.In s'.heap)=>hb s' [Value.ref (s0.heap.objs.size+1)] h' (by simpa using hl);have hr':Cv (j+1) X.A:=hr.mono hj
 refine wpAny_call (Q3 (f:=f) I.kIn M.makes M.init (HJ.mp M.fn) (Rg (F.run _ X.stack _ _ ⟨[Value.ref (s0.heap.objs.size+1)],[]⟩ [Value.ref (s0.heap.objs.size+1)] _ _ (EE σ) (hr'.make C [] [])
  (I2.env0.make C [] []) (by have:=hb' _ I2.kIn;rw [FX]at this;exact this) r2 hq) fun r s' hq'=>?_))
 cases r with
 | error e=>exact hx pins σ _ _ e s' I2 hq'
 | ok fl=>
  cases fl with
  | ret u=>
   obtain ⟨v,H',I3,rv,ev,q3⟩:=I2.after hq';subst ev;exact ⟨rv,⟨V.ref (s0.heap.objs.size+1),H',I3,rfl,q3⟩⟩
  | next=>exact False.elim hq'
  | brk=>exact False.elim hq'
  | cont=>exact False.elim hq'
end
end L2
namespace N85
open L2 N1 N5 N4 N6 N12 N71 N74 N75 N79 NTx
structure LsA where
 sd:Addr
 li:Addr
 ne:Addr
 la:Addr
 fa:Addr
 fo:Addr
structure LsS where
 R:List Str
 g:Gt
 ff:List Int
 pd:Int
 pr:Bool
structure GOk(g:Gt):Prop where
 h:∀y,0≤g.h y∧g.h y≤10 ^ 30
 s:∀y,0≤g.st y∧g.st y≤10 ^ 30
theorem GOk.hold{g:Gt}{z:Str}{v:Int}(k:GOk g)(h0:0≤v)(h1:v≤10 ^ 30):GOk (g.hold z v):=⟨fun y=>by
 show 0≤Cd g.h z v y∧Cd g.h z v y≤_
 by_cases e:y=z
 · rw [e,Al];exact ⟨h0,h1⟩
 · rw [B0 e];exact k.h y,k.s⟩
theorem GOk.fetch{g:Gt}{w z:Str}(k:GOk g):GOk (Dn w z g):=⟨fun y=>by
 show 0≤Cd g.h z (g.st z) y∧Cd g.h z (g.st z) y≤_
 by_cases e:y=z
 · rw [e,Al];exact k.s z
 · rw [B0 e];exact k.h y,k.s⟩
theorem GOk.write{g:Gt}{z:Str}(k:GOk g):GOk (g.write z):=⟨k.h,fun y=>by
 show 0≤Cd g.st z (g.h z) y∧Cd g.st z (g.h z) y≤_
 by_cases e:y=z
 · rw [e,Al];exact k.h z
 · rw [B0 e];exact k.s y⟩
theorem GOk.late{g:Gt}{z:Str}{b:Bool}(k:GOk g):GOk (g.late z b):=⟨k.h,k.s⟩
theorem GOk.fall{g:Gt}{z:Str}(k:GOk g):GOk (Ci z g):=by unfold Ci;split;exact k.late.write;exact k
theorem GOk.come{g:Gt}{S:Int}{R:List Str}{z:Str}(k:GOk g):GOk (Bz S R z g):=by unfold Bz;split;exact k.fall;exact k
theorem GOk.read{g:Gt}{S:Int}{R:List Str}{z:Str}(k:GOk g):GOk (Cs S R z g):=by unfold Cs;split;exact k.come;exact k.fetch.come
theorem GOk.ahead{g:Gt}{S:Int}{R:List Str}{z:Str}(k:GOk g):GOk (Ce S R z g):=by unfold Ce;split;exact k;exact k.fetch.come
theorem GOk.keep{g:Gt}{pr:Bool}{S:Int}{R:List Str}{z:Str}{v:Int}(k:GOk g)(h0:0≤v)(h1:v≤10 ^ 30):GOk (Oo pr S R z v g):=by
 unfold Oo G2;split
 · exact (k.hold h0 h1).write.come
 · exact (k.hold h0 h1).late.come
theorem GOk.g0:GOk g0:=by
 have e:(0:Int)≤0∧(0:Int)≤10 ^ 30:=by decide
 exact ⟨fun y=>e,fun y=>e⟩
theorem GOk.of{g g':Gt}(k:GOk g)(h1:g'.h=g.h)(h2:∀y,g'.st y=g.st y∨g'.st y=g.h y):GOk g':=⟨fun y=>by rw [h1];exact k.h y,fun y=>by
 rcases h2 y with e | e <;> rw [e]
 · exact k.s y
 · exact k.h y⟩
def J4t(pr:Bool)(b:W85)(S:Int)(R:List Str)(z:Str)(v:Int)(g:Gt):Gt:=match b with | .read=>Cs S R z g | .keep=>Oo pr S R z v g | .ahead=>Ce S R z g | _=>g
def Ps(S:Int)(R:List Str)(z:Str):List Str:=(z::R.erase z).take S.toNat
def Wi(b:W85)(S:Int)(R:List Str)(z:Str):List Str:=match b with | .read=>Ps S R z | .keep=>Ps S R z | .ahead=>if z∈R then R else Ps S R z | _=>R
def J24(b:W85)(S:Int)(R:List Str)(z:Str)(g:Gt):Str:=match b with | .read=>nT ((Cs S R z g).h z) | .keep=>Str.ofString "ok" | _=>if z∈R then Str.ofString "no" else Str.ofString "yes"
def J25(b:W85):Prop:=b= .read∨b= .keep∨b= .ahead
def J26(b:W85):Prop:=b= .again∨b= .rest∨b= .store∨b= .levels∨b= .found∨b= .spent
def Ea(b:W85)(z:Str)(v:Int):Ln:=match b with
 | .keep=>⟨b,[z,nT v],[.str z,.int v]⟩ | .read=>⟨b,[z],[.str z]⟩ | .ahead=>⟨b,[z],[.str z]⟩ | .store=>⟨b,[z],[.str z]⟩ | _=>⟨b,[],[]⟩
theorem J3n{x z:Str}:Txt.join (Str.ofString " ") [x,z]=x++Str.ofString " "++z:=StrLaws.glued_eq_join _ _
theorem J8w{x z w:Str}:Txt.join (Str.ofString " ") [x,z,w]=x++Str.ofString " "++(z++Str.ofString " "++w):=StrLaws.glued_eq_join _ _
theorem J63{x:Str}:Txt.join (Str.ofString " ") [x]=x:=StrLaws.glued_eq_join _ _
theorem Ni{a b:W85}(h:wd a=wd b):a=b:=by cases a <;> cases b <;> first | rfl | exact absurd h (by decide+kernel)
def lnT(z:Str)(c:Int):Ln:=⟨.thing,[z,nT c,Str.ofString "1"],[.str z,.int c,.int 1]⟩
theorem J8x{x z w u:Str}:Txt.join (Str.ofString " ") [x,z,w,u]=x++Str.ofString " "++(z++Str.ofString " "++(w++Str.ofString " "++u)):=StrLaws.glued_eq_join _ _
theorem J3o{z:Str}{c:Int}:(lnT z c).txt=Str.ofString "thing "++z++Str.ofString " "++Str.ofString (toString c)++Str.ofString " 1":=by
 show Txt.join (Str.ofString " ") [wd .thing,z,nT c,Str.ofString "1"]=_;rw [J8x];show Str.ofString "thing"++Str.ofString " "++(z++Str.ofString " "++(Str.ofString (toString c)++Str.ofString " "++Str.ofString "1"))=_;rw [show Str.ofString "thing"++Str.ofString " "=Str.ofString "thing " by decide+kernel];rw [show Str.ofString " 1"=Str.ofString " "++Str.ofString "1" by decide+kernel];simp only [Str.append_assoc]
theorem J27:Wd (Str.ofString "ROOM") (Str.ofString "1") (.int 1):= .inr ⟨by decide+kernel,by decide+kernel,by decide+kernel,by
 have:=(Nf (v:=1) (by decide) (by decide)).2
 have e:Str.ofString (toString (1:Int))=Str.ofString "1":=by decide+kernel
 rw [e]at this
 rw [this]⟩
theorem Nj{k:Str}{c:Int}(hk:k≠Str.ofString "NAME"∧k≠Str.ofString "RULE")(h0:0≤c)(h1:c≤10 ^ 30):Wd k (nT c) (.int c):=by
 have h:=Nf h0 (Int.lt_of_le_of_lt h1 (by decide));exact .inr ⟨hk.1,hk.2,h.1,by rw [show nT c=Str.ofString (toString c) from rfl,h.2]⟩
theorem Lf{z:Str}(h:Br z.cps.toList=true):Wd (Str.ofString "NAME") z (.str z):= .inl ⟨rfl,h,rfl⟩
theorem J64{z:Str}{c:Int}(h:Br z.cps.toList=true)(h0:0≤c)(h1:c≤10 ^ 30):(lnT z c).ok:=⟨by show (Bi (fm .thing) 3).length=3;decide+kernel,rfl,by show 3≤100;decide,fun i k w v e1 e2 e3=>by
 have ek:Bi (fm (lnT z c).b) (lnT z c).ws.length=[Str.ofString "NAME",Str.ofString "COST",Str.ofString "ROOM"]:=by show Bi (fm .thing) 3=_;decide+kernel
 rw [ek]at e1
 match i,e1,e2,e3 with
 | 0,e1,e2,e3=>cases e1;cases e2;cases e3;exact Lf h
 | 1,e1,e2,e3=>cases e1;cases e2;cases e3;exact Nj ⟨by decide+kernel,by decide+kernel⟩ h0 h1
 | 2,e1,e2,e3=>cases e1;cases e2;cases e3;exact J27
 | i+3,e1,_,_=>cases e1⟩
theorem Pt{b:W85}{z:Str}{v:Int}(hb:J25 b∨J26 b)(h:Br z.cps.toList=true)(h0:0≤v)(h1:v≤10 ^ 30):(Ea b z v).ok:=by
 have e0:∀b:W85,Bi (fm b) 0=[]→(⟨b,[],[]⟩:Ln).ok:=fun b e=>⟨by show (Bi (fm b) 0).length=0;rw [e];rfl,rfl,Fl _,fun i k w v _ e2 _=>by cases e2⟩
 have e1:∀b:W85,Bi (fm b) 1=[Str.ofString "NAME"]→(⟨b,[z],[.str z]⟩:Ln).ok:=fun b e=>⟨by show (Bi (fm b) 1).length=1;rw [e];rfl,rfl,by show 1≤100;decide,fun i k w v a1 a2 a3=>by
  have a1':(Bi (fm b) 1)[i]?=some k:=a1;rw [e]at a1'
  match i,a1',a2,a3 with
  | 0,a1',a2,a3=>cases a1';cases a2;cases a3;exact Lf h
  | i+1,a1',_,_=>cases a1'⟩
 have e2:(Ea .keep z v).ok:=⟨by show (Bi (fm .keep) 2).length=2;decide+kernel,rfl,by show 2≤100;decide,fun i k w u a1 a2 a3=>by
  have ek:Bi (fm .keep) 2=[Str.ofString "NAME",Str.ofString "VALUE"]:=by decide+kernel
  have a1':(Bi (fm .keep) 2)[i]?=some k:=a1;rw [ek]at a1'
  match i,a1',a2,a3 with
  | 0,a1',a2,a3=>cases a1';cases a2;cases a3;exact Lf h
  | 1,a1',a2,a3=>cases a1';cases a2;cases a3;exact Nj ⟨by decide+kernel,by decide+kernel⟩ h0 h1
  | i+2,a1',_,_=>cases a1'⟩
 rcases hb with (rfl | rfl | rfl) | (rfl | rfl | rfl | rfl | rfl | rfl)
 · exact e1 _ (by decide+kernel)
 · exact e2
 · exact e1 _ (by decide+kernel)
 · exact e0 _ (by decide+kernel)
 · exact e0 _ (by decide+kernel)
 · exact e1 _ (by decide+kernel)
 · exact e0 _ (by decide+kernel)
 · exact e0 _ (by decide+kernel)
 · exact e0 _ (by decide+kernel)
def lnW(pr:Bool)(zs:List Int):Ln:=⟨if pr then .prompt else .tower,zs.map nT,zs.map V.int⟩
theorem U7{pr:Bool}{zs:List Int}(h1:1≤zs.length)(h6:zs.length≤6)(hz:∀u∈zs,1≤u∧u≤1000):(lnW pr zs).ok:=by
 have ek:Bi (fm (lnW pr zs).b) (lnW pr zs).ws.length=List.replicate zs.length (Str.ofString "SIZE"):=by
  have e:(lnW pr zs).ws.length=zs.length:=Fa ..;rw [e]
  have ef:fm (lnW pr zs).b=[Str.ofString "SIZE",Str.ofString ".."]:=by unfold lnW;cases pr <;> rfl
  rw [ef];unfold Bi;rw [if_pos (by decide+kernel),Nat.max_eq_right h1];rfl
 have ew:(lnW pr zs).ws.length=zs.length:=Fa ..;have ev:(lnW pr zs).vs.length=zs.length:=Fa ..;refine ⟨by rw [ek,ew,List.length_replicate],by rw [ew,ev],by omega,fun i k w v a1 a2 a3=>?_⟩;rw [ek]at a1;have hk:=List.eq_of_mem_replicate (Fo a1);have a2':(zs.map nT)[i]?=some w:=a2;have a3':(zs.map V.int)[i]?=some v:=a3;rw [Fi]at a2' a3'
 cases e:zs[i]? with
 | none=>rw [e]at a2';cases a2'
 | some u=>
  rw [e]at a2' a3';cases a2';cases a3';have:=hz u (Fo e);rw [hk];exact Nj ⟨by decide+kernel,by decide+kernel⟩ (by omega) (by omega)
theorem Wj{pr:Bool}{zs:List Int}(h1:1≤zs.length):(lnW pr zs).txt=(if pr then Str.ofString "prompt " else Str.ofString "tower ")++Txt.join (Str.ofString " ") (zs.map nT):=by
 have e:∀xs:List Str,Txt.join (Str.ofString " ") xs=Str.join (Str.ofString " ") xs:=fun xs=>StrLaws.glued_eq_join _ _
 cases zs with
 | nil=>cases h1
 | cons z zs=>
  show Txt.join (Str.ofString " ") (wd (if pr then .prompt else .tower)::nT z::zs.map nT)=_++Txt.join (Str.ofString " ") (nT z::zs.map nT);rw [e,e];show wd (if pr then .prompt else .tower)++Str.ofString " "++Str.join (Str.ofString " ") (nT z::zs.map nT)=_;cases pr
  · show Str.ofString "tower"++Str.ofString " "++_=Str.ofString "tower "++_
    rw [show Str.ofString "tower"++Str.ofString " "=Str.ofString "tower " by decide+kernel]
  · show Str.ofString "prompt"++Str.ofString " "++_=Str.ofString "prompt "++_
    rw [show Str.ofString "prompt"++Str.ofString " "=Str.ofString "prompt " by decide+kernel]
theorem Oy{K:PySem.W.Frag}{S D d dx p:Addr}{H:Hp}{fs:List (Str×V)}{ts:List Th}{L:List Addr}(h:B2 K S H p ts L)(hd:H d=some (.ins D dx fs))(hf:fs.lookup (Str.ofString "things")=none):B2 K S H p ts (d::L):=by
 obtain ⟨dx',d',kvs,h1,h2,n1,n2,h3,h4⟩:=h.ex;refine ⟨dx',d',kvs,h1,h2,fun m=>?_,fun m=>?_,h3,fun i t e=>?_⟩
 · rcases Fh.mp m with m | m
   · rw [m,hd]at h1
     cases h1;rw [show (flds d').lookup (Str.ofString "things")=some (.ref d') by with_unfolding_all rfl]at hf;cases hf
   · exact n1 m
 · rcases Fh.mp m with m | m
   · rw [m,hd]at h2;cases h2
   · exact n2 m
 · obtain ⟨a,e1,e2⟩:=h4 i t e
   refine ⟨a,e1,?_⟩;rcases e2 with ⟨e2,e3⟩ | e2
   · refine .inl ⟨e2,fun m=>?_⟩
     rcases Fh.mp m with m | m
     · rcases e2 with e2 | ⟨o,e2⟩ <;> rw [m,hd]at e2 <;> cases e2
     · exact e3 m
   · exact .inr e2
theorem Tws.moved{K:PySem.W.Frag}{S st:Addr}{ts:List Th}{B:Nat}{H H':Hp}{ks ks':List Addr}{ws:List Tw}(h:Tws K S st ts B H ks ws)(o:Off ks H H')(m:∀c∈ks',c∈ks∨H c=none)(kl:∀c∈ks',∃u,H' c=some u∧∀e,u≠ .tup e):Tws K S st ts B H' ks' ws:=by
 have oL:Off (Kg ks ws) H H':=o.mono fun b hb=>B4.mpr (.inl hb)
 have kt:∀v e,H v=some (.tup e)→H' v=some (.tup e):=fun v e hv=>o _ _ hv fun z=>by
  obtain ⟨u0,k1,k2⟩:=h.kl v z;rw [k1]at hv;cases hv;exact k2 _ rfl
 have sk:B2 K S H' st ts (Kg ks ws):=N76.Gs h.sk oL (fun b hb=>hb) (fun b hb=> .inl hb)
 have sk2:B2 K S H' st ts (Kg ks' ws):=N76.Gs h.sk oL (fun b hb=>hb) (fun b hb=>by
  rcases B4.mp hb with hb | ⟨v,hv,hb⟩
  · exact (m b hb).imp (fun k=>B4.mpr (.inl k)) id
  · exact .inl (B4.mpr (.inr ⟨v,hv,hb⟩)))
 refine ⟨fun v hv=>N76.Na (h.ok v hv) (M:=ks) o (fun b h1 h2=>h.kk b h2 v hv h1) kt (by
  rw [h.es v hv]
  exact sk.mono fun b hb=> .inl (B4.mpr (.inr ⟨v,hv,Fd _ hb⟩))),h.ap,sk2,h.es,fun c hc v hv hb=>?_,kl⟩
 rcases m c hc with k | k
 · exact h.kk c k v hv hb
 · obtain ⟨u,e⟩:=h.live c (B4.mpr (.inr ⟨v,hv,hb⟩))
   rw [k]at e;cases e
theorem T1{K:PySem.W.Frag}{S st:Addr}{ts:List Th}{B:Nat}{H:Hp}{ks:List Addr}(h:B2 K S H st ts ks)(kl:∀c∈ks,∃u,H c=some u∧∀e,u≠ .tup e):Tws K S st ts B H ks []:=
 ⟨(fun w hw=>by cases hw),List.Pairwise.nil,h.mono (fun b hb=>by
   rcases B4.mp hb with k | ⟨w,hw,_⟩
   · exact .inl k
   · cases hw),(fun w hw=>by cases hw),(fun c _ w hw=>by cases hw),kl⟩
theorem Pu{S:Int}{R:List Str}{z:Str}{g:Gt}(h:∀y,g.l y=false):∀y,(Bz S R z g).l y=false:=by
 unfold Bz;split
 · unfold Ci
   rw [if_neg (by rw [h];decide)];exact h
 · exact h
theorem Pw{b:W85}{S:Int}{R:List Str}{z:Str}{v:Int}{g:Gt}(h:∀y,g.l y=false):∀y,(J4t true b S R z v g).l y=false:=by
 cases b <;> try exact h
 · show ∀y,(Bz S R z (if z∈R then g else Dn (Str.ofString "fetch") z g)).l y=false
   refine Pu ?_
   by_cases k:z∈R
   · rw [if_pos k];exact h
   · rw [if_neg k];exact h
 · show ∀y,(Bz S R z ((g.hold z v).write z)).l y=false
   exact Pu h
 · show ∀y,(if z∈R then g else Bz S R z (Dn (Str.ofString "ahead") z g)).l y=false
   by_cases k:z∈R
   · rw [if_pos k];exact h
   · rw [if_neg k];exact Pu h
theorem Oz{y:Str}:∀{ys:List Str} {g:Gt},(C6 ys g).h=g.h∧(C6 ys g).st y=if y∈ys then g.h y else g.st y:=by
 intro ys
 induction ys with
 | nil=>intro g;exact ⟨rfl,by rw [if_neg FR];rfl⟩
 | cons a ys ih=>
  intro g;have e:C6 (a::ys) g=C6 ys (g.write a):=rfl;rw [e];obtain ⟨i1,i2⟩:=ih (g:=g.write a);refine ⟨i1,?_⟩;rw [i2];have e1:(g.write a).h=g.h:=rfl;have e2:(g.write a).st y=Cd g.st a (g.h a) y:=rfl;rw [e1,e2]
  by_cases m:y∈ys
  · rw [if_pos m,if_pos (Fd _ m)]
  · rw [if_neg m]
    by_cases k:y=a
    · rw [k,Al,if_pos Fj]
    · rw [B0 k,if_neg fun q=>(Fh.mp q).elim k m]
theorem Kw{R:List Str}{g:Gt}(h:∀y,g.l y=true→y∈R):(G3 R g).h=g.h∧(G3 R g).l=(fun _=>false)∧(G3 R g).st=fun y=>if g.l y then g.h y else g.st y:=by
 refine ⟨(Oz (y:=Str.empty)).1,rfl,?_⟩;funext y;show (C6 (R.filter g.l) g).st y=_;rw [(Oz (y:=y)).2]
 by_cases k:g.l y=true
 · rw [if_pos k,if_pos (HD.mpr ⟨h y k,k⟩)]
 · rw [if_neg k,if_neg fun m=>k (HD.mp m).2]
end N85
namespace L2
def J4u:V→List V→Hp→VK→Prop:=fun x vs H Q=>∃a kvs k v,x= .ref a∧vs=[kV k,v]∧H a=some (.dK kvs)∧kvs.length < sizeLine∧(∀u,B1 kvs k=some u→Q u H)∧(B1 kvs k=none→Q v (upd H a (.dK (B8 kvs k v))))
section
variable {X:Cx}
theorem J3p:MtM X "dict.setdefault" J4u:=by
 intro pins s σ H x vs u us Q I rx rv h;obtain ⟨a,kvs,k,v,rfl,rfl,ha,hl,q1,q2⟩:=h;cases rx;obtain ⟨u1,u2,rfl,r1,r2⟩:=rv.two;obtain ⟨z,lo,ws,rel,dd⟩:=Yl I.hok ha;refine Rn PySem.F.slot_dict_setdefault dd.typeIs PySem.F.entry_dict_setdefault (PySem.F.args_dict_setdefault_3 _ _ _) (PySem.kt_meets_setdefault (Ba X.prog X.w) a (Li r1) lo u2) ⟨ws,dd,by rw [← rel.length];exact z,fun w hw=>?_,fun hn h' dd' hs=>?_⟩
 · have r:=rel.val k
   rw [hw]at r
   cases e:B1 kvs k with
   | none=>rw [e]at r;cases r
   | some y=>
    rw [e]at r;exact ⟨y,H,I.tok _,r,q1 y e⟩
 · have e:B1 kvs k=none:=by
    have r:=rel.val k;rw [hn]at r
    cases e:B1 kvs k with
    | none=>rfl
    | some y=>rw [e]at r;cases r
   have hl2:(B8 kvs k v).length≤sizeLine:=by have:=Bx kvs k v;omega
   have he:∃q,h'.get? a=some q:=let ⟨q,_,_,hq,_⟩:=dd';⟨q,hq⟩;exact ⟨v,_,Lz I (by rw [ha];exact True.intro) hs he (Tn hl2 lo (rel.put k r2) dd'),r2,q2 e⟩
theorem Wk{x:V}{vs:List V}{H:Hp}{Q:VK}:J4u x vs H Q=∃a kvs k v,x= .ref a∧vs=[kV k,v]∧H a=some (.dK kvs)∧kvs.length < sizeLine∧(∀u,B1 kvs k=some u→Q u H)∧(B1 kvs k=none→Q v (upd H a (.dK (B8 kvs k v)))):=rfl
end
end L2
namespace L2
def J4v(tb:J37→TS):TS:=fun D σ H=>∀(pn:List (Addr×Obj)) (xe:Value→Shared→Prop),tb ⟨pn,xe,fun _ _ _ _=>False⟩ D σ H
section
variable {X:Cx} {pos:Pos}
theorem J3q{body:List Stmt}{h₀:ExceptHandler}{hs:List ExceptHandler}{tb:J37→TS}(hst:X.stack=X.env::X.outer)(hfr:X.env.frame=some X.env.locals)
 (hb:∀t:J37,Dz CX0 (X.tryX t.pn t.xe) t.EE→PSs (X.tryX t.pn t.xe) body (tb t)):PS X (.Try body (h₀::hs) [] [] pos) (J4v tb):=by
 intro pins s σ H D I h;refine wpAny_Try_except ?_;have P1:Dz CX0 (X.tryX (X.pn++pins) (fun _ _=>False)) (fun _ _ _ _=>False):=fun _ _ _ _ _ _ _ hc=>hc.elim;refine FZ (hb ⟨_,_,_⟩ P1 [] s σ H D (I.tryIn _) (h _ _)) (fun f s1 q=>?_) fun e s1 q=>q.elim;have q':=q.tryOut I.ok
 cases f with
 | next=>exact Rq q'
 | brk=>exact q'
 | cont=>exact q'
 | ret u=>exact q'
theorem Wl{tb:J37→TS}{D:Ig}{σ:St}{H:Hp}:J4v tb D σ H=∀(pn:List (Addr×Obj)) (xe:Value→Shared→Prop),tb ⟨pn,xe,fun _ _ _ _=>False⟩ D σ H:=rfl
end
end L2
namespace N96
open L2 N1 N5 N4 N6 N12 N71 N74 N75 N79 NTx N85
structure M6 where
 ts:List Th
 on:Bool
 pr:Bool
 zs:List Int
 R:List Str
 g:Gt
def m0:M6:=⟨[],false,false,[],[],g0⟩
inductive Op | thing (t:Th) | tower (pr:Bool) (zs:List Int) | deed (b:W85) (z:Str) (v:Int)
def Op.ln:Op→Ln
 | .thing t=>lnT t.1 t.2.1
 | .tower pr zs=>lnW pr zs
 | .deed b z v=>Ea b z v
def U8(b:W85):Prop:=b= .read∨b= .keep∨b= .ahead∨b= .rest∨b= .store
def goG(pr:Bool)(b:W85)(S:Int)(R:List Str)(z:Str)(v:Int)(g:Gt):Gt:=match b with | .rest=>G3 R g | b=>J4t pr b S R z v g
def M6.nxt(m:M6):Op→M6
 | .thing t=>{m with ts:=m.ts++[t]}
 | .tower pr zs=>⟨m.ts,true,pr,zs,[],g0⟩
 | .deed b z v=>{m with R:=Wi b m.zs.sum m.R z,g:=goG m.pr b m.zs.sum m.R z v m.g}
def M6.ans(m:M6):Op→Str
 | .deed b z v=>match b with | .rest=>nT ((m.R.filter m.g.l).length:Nat) | .store=>nT (m.g.st z) | b=>J24 b m.zs.sum m.R z m.g
 | _=>Str.ofString "ok"
def M6.run(m:M6)(os:List Op):M6:=os.foldl M6.nxt m
def M6.anl(m:M6):List Op→List Str
 | []=>[]
 | o::os=>m.ans o::(m.nxt o).anl os
def Nn(m:M6):Op→Prop
 | .thing t=>m.on=false∧t.1∉m.ts.map (·.1)∧m.ts.length≤20∧Br t.1.cps.toList=true∧0≤t.2.1∧t.2.1≤10 ^ 30∧t.2.2=1
 | .tower _ zs=>1≤zs.length∧zs.length≤6∧∀u∈zs,1≤u∧u≤1000
 | .deed b z v=>m.on=true∧U8 b∧z∈m.ts.map (·.1)∧0≤v∧v≤10 ^ 30
def wt:Op→Nat
 | .deed b _ _=>match b with | .rest=>100 | .store=>0 | _=>4
 | _=>4
def wts(os:List Op):Nat:=(os.map wt).sum
def Lg(m:M6):List Op→Prop
 | []=>True
 | o::os=>Nn m o∧o.ln.ok∧Lg (m.nxt o) os
theorem J3r{os ps:List Op}:∀{m:M6},m.run (os++ps)=(m.run os).run ps:=fun {m}=>RL
theorem Cu{os:List Op}{o:Op}{m:M6}:m.run (os++[o])=(m.run os).nxt o:=J3r
theorem J3s{os ps:List Op}:∀{m:M6},m.anl (os++ps)=m.anl os++(m.run os).anl ps:=by
 induction os with
 | nil=>intro m;rfl
 | cons o os ih=>intro m;show _::(m.nxt o).anl (os++ps)=_;rw [ih];rfl
theorem Mh{os:List Op}:∀{m:M6},(m.anl os).length=os.length:=by
 induction os with
 | nil=>intro m;rfl
 | cons o os ih=>intro m;show ((m.nxt o).anl os).length+1=_;rw [ih];rfl
theorem J28{os:List Op}{o:Op}{m:M6}:m.anl (os++[o])=m.anl os++[(m.run os).ans o]:=J3s
theorem Lg.app{os ps:List Op}:∀{m:M6},Lg m os→Lg (m.run os) ps→Lg m (os++ps):=by
 induction os with
 | nil=>intro m _ h;exact h
 | cons o os ih=>intro m h k;exact ⟨h.1,h.2.1,ih h.2.2 k⟩
theorem Lg.snoc{os:List Op}{o:Op}{m:M6}(h:Lg m os)(k:Nn (m.run os) o)(l:o.ln.ok):Lg m (os++[o]):=h.app ⟨k,l,trivial⟩
theorem Lg.at{os:List Op}:∀{m:M6} {i:Nat} {o:Op},Lg m os→os[i]?=some o→Nn (m.run (os.take i)) o∧o.ln.ok∧(m.anl os)[i]?=some ((m.run (os.take i)).ans o)∧m.run (os.take (i+1))=(m.run (os.take i)).nxt o:=by
 induction os with
 | nil=>intro m i o _ e;cases e
 | cons p os ih=>
  intro m i o h e
  cases i with
  | zero=>
   cases (show some p=some o from e);exact ⟨h.1,h.2.1,rfl,rfl⟩
  | succ i=>exact ih h.2.2 e
theorem E9{os:List Op}{o:Op}:wts (os++[o])=wts os+wt o:=by unfold wts;rw [Ft,Ra];show _+(wt o+0)=_;omega
theorem J29{os:List Op}{i:Nat}:wts (os.take i)≤wts os:=by
 have e:wts os=wts (os.take i)+wts (os.drop i):=by
  unfold wts;rw [← Ra,← Ft,Ru]
 omega
def LD(H:Hp)(c:Addr):Prop:=(∃kv,H c=some (.dK kv))∨∃xs,H c=some (.lst xs)
theorem LD.same{H H':Hp}{c:Addr}(h:LD H c)(e:∀o,H c=some o→H' c=some o):LD H' c:=h.imp (fun ⟨kv,k⟩=>⟨kv,e _ k⟩) fun ⟨xs,k⟩=>⟨xs,e _ k⟩
theorem LD.ex{H:Hp}{c:Addr}(h:LD H c):∃u,H c=some u∧∀e,u≠ .tup e:=by
 rcases h with ⟨kv,k⟩ | ⟨xs,k⟩
 · exact ⟨_,k,fun e z=>by cases z⟩
 · exact ⟨_,k,fun e z=>by cases z⟩
theorem J65{K:PySem.W.Frag}{S p:Addr}{H0 H:Hp}{ts:List Th}{L:List Addr}(h:Lq K S H0 H p ts)(hp:p∉L)(hL:∀b∈L,∃o,H0 b=some o)(ht:∀b∈L,LD H b):B2 K S H p ts L:=by
 obtain ⟨dx,d,kvs,h1,h2,h3,h4⟩:=h.at'.ex;refine ⟨dx,d,kvs,h1,h2,hp,fun m=>?_,h3,fun i t e=>?_⟩
 · obtain ⟨o,ho⟩:=hL d m
   rw [h.fr dx d _ h1 (by with_unfolding_all rfl)]at ho;cases ho
 · obtain ⟨a,e1,e2⟩:=h4 i t e
   refine ⟨a,e1,?_⟩;rcases e2 with e2 | e2
   · refine .inl ⟨e2,fun m=>?_⟩
     rcases ht a m with ⟨kv,hk⟩ | ⟨kv,hk⟩
     · rcases e2 with e2 | ⟨o,e2⟩ <;> rw [hk]at e2 <;> cases e2
     · rcases e2 with e2 | ⟨o,e2⟩ <;> rw [hk]at e2 <;> cases e2
   · exact .inr fun _=> .inr e2
structure DkM(K:PySem.W.Frag)(D C1 C2 S:Addr)(H0 H:Hp)(d:Addr)(ks:List Addr)(m:M6)(B:Nat):Prop where
 ex:∃(st as:Addr) (tw:V) (ws:List Tw),Dk D H d st as tw∧Tws K S st m.ts B H (d::ks) ws∧(∀w∈ws,∀c∈w.ow,H0 c=none)∧(m.on=false→ws=[])∧(m.on=true→∃(t:Addr) (x:TwA) (s:TwS),tw= .ref t∧ws=[⟨Dv C1 C2 m.pr,t,x,s,m.g⟩]∧s.R=m.R∧s.zs=m.zs)
 nd:(m.ts.map (·.1)).Nodup
 th:∀t∈m.ts,Br t.1.cps.toList=true∧0≤t.2.1∧t.2.1≤10 ^ 30∧t.2.2=1
 n:m.ts.length≤21
 ok:GOk m.g
 np:m.pr=true→∀y,m.g.l y=false
 d0:H0 d=none
 k0:∀c∈ks,H0 c=none
 ld:∀c∈ks,LD H c
 sm:A9 H0 H
 b1:1≤B
section
variable {K:PySem.W.Frag} {D C1 C2 S d gv:Addr} {ks ks':List Addr} {m:M6} {op:Op} {B B':Nat} {H0 H H':Hp} {Q:VK} {E:XK}
theorem Px{c:Addr}(sm:A9 H0 H)(h:H c=none):H0 c=none:=by
 cases e:H0 c with
 | none=>rfl
 | some o=>rw [sm _ _ e]at h;cases h
theorem DkM.same(h:DkM K D C1 C2 S H0 H d ks m B)(sm:A9 H H'):DkM K D C1 C2 S H0 H' d ks m B:=by
 obtain ⟨st,as,tw,ws,h1,h2,h3,h4,h5⟩:=h.ex;exact ⟨⟨st,as,tw,ws,h1.same sm,h2.same sm,h3,h4,h5⟩,h.nd,h.th,h.n,h.ok,h.np,h.d0,h.k0,fun c hc=>(h.ld c hc).same fun o=>sm c o,h.sm.trans sm,h.b1⟩
theorem DkM.dn(h:DkM K D C1 C2 S H0 H d ks m B):d∉ks:=fun hm=>by
 obtain ⟨st,as,tw,ws,⟨dx,fs,h1,_⟩,_⟩:=h.ex
 rcases h.ld d hm with ⟨kv,k⟩ | ⟨kv,k⟩ <;> rw [k]at h1 <;> cases h1
theorem DkM.moved(h:DkM K D C1 C2 S H0 H d ks m B)(o:Off ks H H')(mm:∀c∈ks',c∈ks∨H c=none)(ld:∀c∈ks',LD H' c):DkM K D C1 C2 S H0 H' d ks' m B:=by
 have hdn:=h.dn;obtain ⟨st,as,tw,ws,h1,h2,h3,h4,h5⟩:=h.ex;obtain ⟨dx,fs,ho,hf⟩:=h1.o;have ho':=o _ _ ho hdn;refine ⟨⟨st,as,tw,ws,⟨dx,fs,ho',hf⟩,N85.Tws.moved h2 (fun b u e n=>o b u e fun k=>n (Fd _ k)) (fun c hc=>?_) (fun c hc=>?_),h3,h4,h5⟩,h.nd,h.th,h.n,h.ok,h.np,h.d0,fun c hc=>?_,ld,fun b u e=>o b u (h.sm b u e) fun k=>(by rw [h.k0 b k]at e;cases e),h.b1⟩
 · rcases Fh.mp hc with k | k
   · rw [k];exact .inl Fj
   · exact (mm c k).imp (Fd _) id
 · rcases Fh.mp hc with k | k
   · rw [k];exact ⟨_,ho',fun e z=>by cases z⟩
   · exact (ld c k).ex
 · rcases mm c hc with k | k
   · exact h.k0 c k
   · exact Px h.sm k
def Fr6(ks:List Addr)(H H':Hp):Prop:=(∀c∈ks,∀o,H c=some o→H' c=some o)∧∀c e,H c=some (.tup e)→H' c=some (.tup e)
theorem J2a(h:DkM K D C1 C2 S H0 H d ks m B)(sb:SameBut d H H'):Fr6 ks H H'∧A9 H0 H'∧∀c∈ks,LD H' c:=by
 have hdn:=h.dn;obtain ⟨st,as,tw,ws,⟨dx,fs,ho,_⟩,_⟩:=h.ex;refine ⟨⟨fun c hc o e=>sb c o e fun k=>hdn (k▸hc),fun c e k=>sb c _ k fun z=>(by rw [z,ho]at k;cases k)⟩,fun b u e=>sb b u (h.sm b u e) fun z=>(by rw [z,h.d0]at e;cases e),fun c hc=>(h.ld c hc).same fun o e=>sb c o e fun k=>hdn (k▸hc)⟩
theorem J4w(h:DkM K D C1 C2 S H0 H d ks m B)(ok:Nn m op)(hg:H gv=some (.lst op.ln.vs))(hB:B≤20000)
 (q:∀H',Fr6 ks H H'→DkM K D C1 C2 S H0 H' d ks (m.nxt op) (B+wt op)→Q (.str (m.ans op)) H'):spA K D C1 C2 S op.ln.b [.ref d,.ref gv] H Q E:=by
 obtain ⟨st,as,tw,ws,hD,hT,h0,hoff,hon⟩:=h.ex;have hdn:=h.dn
 cases op with
 | thing t=>
  obtain ⟨e1,e2,e3,e4,e5,e6,e7⟩:=ok;have hw:=hoff e1;subst hw;refine ⟨d,gv,st,as,tw,m.ts,t,rfl,hD,hT.sk.at,?_,by omega,fun u hu=>?_,by rw [e7];exact hg,fun st' H' sb hD' stk hst=>?_⟩
  · rw [Ft]
    exact Hl.mpr ⟨h.nd,by simp,fun a ha b hb e=>e2 (by rw [show t.1=b from (Fg.mp hb).symm,← e];exact ha)⟩
  · rcases Fq.mp hu with k | k
    · have:=h.th u k
      exact ⟨this.1,this.2.1,this.2.2.1,by omega,by omega⟩
    · rw [Fg.mp k]
      exact ⟨e4,e5,e6,by omega,by omega⟩
  · obtain ⟨f1,f2,f3⟩:=J2a h sb
    obtain ⟨dx,fs,ho',hf⟩:=hD'.o
    have sk:B2 K S H' st' (m.ts++[t]) ks:=J65 stk (fun k=>by
     obtain ⟨u,hu,_⟩:=(h.ld _ k).ex
     rw [hst]at hu;cases hu) (fun b hb=>by obtain ⟨u,hu,_⟩:=(h.ld b hb).ex;exact ⟨u,hu⟩) f3
    refine q H' f1 ⟨⟨st',as,tw,[],hD',T1 (Oy sk ho' hf.k) fun c hc=>?_,(fun w hw=>by cases hw),fun _=>rfl,fun k=>(by rw [show (m.nxt (.thing t)).on=m.on from rfl,e1]at k;cases k)⟩,?_,fun u hu=>?_,by show (m.ts++[t]).length≤21;rw [Ff];show _+1≤21;omega,h.ok,h.np,h.d0,h.k0,f3,f2,by have:=h.b1;omega⟩
    · rcases Fh.mp hc with k | k
      · rw [k];exact ⟨_,ho',fun e z=>by cases z⟩
      · exact (f3 c k).ex
    · show ((m.ts++[t]).map (·.1)).Nodup
      rw [Ft];exact Hl.mpr ⟨h.nd,by simp,fun a ha b hb e=>e2 (by rw [show t.1=b from (Fg.mp hb).symm,← e];exact ha)⟩
    · rcases Fq.mp hu with k | k
      · exact h.th u k
      · rw [Fg.mp k];exact ⟨e4,e5,e6,e7⟩
 | tower pr zs=>
  obtain ⟨z1,z6,zz⟩:=ok
  have key:C0 K D C1 C2 S pr [.ref d,.ref gv] H Q E:=by
   refine ⟨d,gv,st,as,tw,m.ts,zs,d::ks,ws,B,rfl,hD,hT.sk.at,hT,Fj,h.b1,by omega,h.nd,fun t ht=>(h.th t ht).2.2.2,by have:=h.n;omega,hg,z1,z6,fun z hz=>by have:=zz z hz;omega,fun t x s H' sb hD' hT' eR eZ _ _ hn=>?_⟩;obtain ⟨f1,f2,f3⟩:=J2a h sb;refine q H' f1 ⟨⟨st,as,.ref t,_,hD',(Tws.last hT').up (by omega) (by show B+4≤_;omega),fun w hw c hc=>?_,(fun k=>by cases k),fun _=>⟨t,x,s,rfl,rfl,eR,eZ⟩⟩,h.nd,h.th,h.n,GOk.g0,fun _ y=>rfl,h.d0,h.k0,f3,f2,by have:=h.b1;omega⟩;rw [Fg.mp hw]at hc;exact Px h.sm (hn c hc)
  cases pr
  · exact key
  · exact key
 | deed b z v=>
  obtain ⟨e1,e2,e3,e4,e5⟩:=ok;obtain ⟨t,x,s,rfl,rfl,eR,eZ⟩:=hon e1;have htG:=hT.ok _ (Fg.mpr rfl)
  have dk:DkT K D C1 C2 S H d st as t m.pr x s m.g m.ts B:=⟨hD,htG⟩
  have hap:∀c∈d::ks,c∉own t x:=fun c hc k=>hT.kk c hc _ (Fg.mpr rfl) (Fd _ k);have h0':∀c∈x.si::own t x,H0 c=none:=h0 _ (Fg.mpr rfl)
  have key:∀(x':TwA) (s':TwS) (g':Gt) (H':Hp) (n:Nat) (o:Off (own t x) H H') (hn:∀b∈own t x',b∈own t x∨H b=none) (tw:Cj K (Dv C1 C2 m.pr) S H' t x' s' g' m.ts (B+n)) (est:x'.st=x.st) (esi:x'.si=x.si),s'.R=Wi b m.zs.sum m.R z→s'.zs=m.zs→g'=goG m.pr b m.zs.sum m.R z v m.g→GOk g'→(m.pr=true→∀y,g'.l y=false)→n≤wt (.deed b z v)→Q (.str (m.ans (.deed b z v))) H':=fun x' s' g' H' n o hn tw est esi eR' eZ' eg ok' np' hw=>by
   obtain ⟨tw',_,kc⟩:=Tws.deed (l1:=[]) (l2:=[]) (w:=⟨Dv C1 C2 m.pr,t,x,s,m.g⟩) (w':=⟨Dv C1 C2 m.pr,t,x',s',g'⟩) hT o hn tw (by omega) est esi
   have hw1:wt (.deed b z v)≤100:=by cases b <;> first | exact Fe 100 | exact Fl 100 | exact (by decide:4≤100)
   obtain ⟨dx,fs,ho,hf⟩:=hD.o;have ld':∀c∈ks,LD H' c:=fun c hc=>(h.ld c hc).same fun o e=>kc c (Fd _ hc) o e;refine q H' ⟨fun c hc=>kc c (Fd _ hc),fun c e k=>Kr htG.to.tw o c e k⟩ ⟨⟨st,as,.ref t,_,⟨dx,fs,o _ _ ho (hap d Fj),hf⟩,tw'.up (by omega) (by omega),fun w hw c hc=>?_,fun k=>(by rw [show (m.nxt (.deed b z v)).on=m.on from rfl,e1]at k;cases k),fun _=>⟨t,x',s',rfl,by rw [eg];rfl,eR',eZ'⟩⟩,h.nd,h.th,h.n,by show GOk (goG ..);rw [← eg];exact ok',by show _→∀y,(goG m.pr b m.zs.sum m.R z v m.g).l y=false;rw [← eg];exact np',h.d0,h.k0,ld',fun c u e=>o c u (h.sm c u e) fun k=>(by rw [h0' c (Fd _ k)]at e;cases e),by have:=h.b1;omega⟩;rw [Fg.mp hw]at hc;rcases Fh.mp hc with k | k
   · rw [k,show (⟨Dv C1 C2 m.pr,t,x',s',g'⟩:Tw).x.si=x.si from esi];exact h0' _ Fj
   · rcases hn c k with j | j
     · exact h0' c (Fd _ j)
     · exact Px h.sm j
  rcases e2 with rfl | rfl | rfl | rfl | rfl
  · refine ⟨d,gv,st,as,t,m.pr,x,s,m.g,m.ts,B,z,rfl,dk,hg,e3,by omega,(h.ok.read.h z).1,(h.ok.read.h z).2,fun s' H' o tw eR' eZ' _ _=>?_⟩
    have:=key x s' _ H' 2 o (fun b hb=> .inl hb) tw rfl rfl (by rw [eR'];unfold Di;rw [eR,eZ];rfl) (by rw [eZ',eZ]) (by rw [eR,eZ];rfl) h.ok.read (fun e=>by rw [eR,eZ];exact Pw (b:= .read) (v:=v) (h.np e)) (by show 2≤4;decide);rw [eR,eZ];exact this
  · refine ⟨d,gv,st,as,t,m.pr,x,s,m.g,m.ts,B,z,v,rfl,dk,hg,by omega,e5,e3,by omega,fun s' H' o tw eR' eZ' _ _=>?_⟩
    exact key x s' _ H' 3 o (fun b hb=> .inl hb) tw rfl rfl (by rw [eR'];unfold Di;rw [eR,eZ];rfl) (by rw [eZ',eZ]) (by rw [eR,eZ];rfl) (h.ok.keep e4 e5) (fun e=>by rw [eR,eZ,e];exact Pw (b:= .keep) (h.np e)) (by show 3≤4;decide)
  · refine ⟨d,gv,st,as,t,m.pr,x,s,m.g,m.ts,B,z,rfl,dk,hg,e3,by omega,fun s' H' o tw eR' eZ' _ _=>?_⟩
    have:=key x s' _ H' 2 o (fun b hb=> .inl hb) tw rfl rfl (by rw [eR'];unfold Di;rw [eR,eZ];rfl) (by rw [eZ',eZ]) (by rw [eR,eZ];rfl) h.ok.ahead (fun e=>by rw [eR,eZ];exact Pw (b:= .ahead) (v:=v) (h.np e)) (by show 2≤4;decide);rw [eR];exact this
  · refine ⟨d,gv,st,as,t,m.pr,x,s,m.g,m.ts,B,rfl,dk,by omega,fun x' s' H' o hn tw eR' eZ' _ _ est esi=>?_⟩
    obtain ⟨r1,r2,r3⟩:=Kw (R:=s.R) (g:=m.g) fun y hy=>htG.g.lh y hy;have:=key x' s' _ H' 100 o hn tw est esi (by rw [eR',eR];rfl) (by rw [eZ',eZ]) (by rw [eR];rfl) (h.ok.of r1 fun y=>?_) (fun _ y=>by rw [r2]) (Fe _)
    · rw [eR];exact this
    · rw [r3]
      dsimp only;split
      · exact .inr rfl
      · exact .inl rfl
  · refine ⟨d,gv,st,as,t,m.pr,x,s,m.g,m.ts,B,z,rfl,dk,hg,e3,(h.ok.s z).1,(h.ok.s z).2,?_⟩
    exact key x s m.g H 0 (fun b o e _=>e) (fun b hb=> .inl hb) (by exact htG) rfl rfl eR eZ rfl h.ok h.np (Fl _)
theorem DkM.row(h:DkM K D C1 C2 S H0 H d ks m B)(e:m.on=true):m.R.Nodup∧(m.R.length:Int)≤m.zs.sum∧(∀y,m.g.l y=true→y∈m.R)∧∀y∈m.R,y∈m.ts.map (·.1):=by
 obtain ⟨st,as,tw,ws,hD,hT,h0,hoff,hon⟩:=h.ex;obtain ⟨t,x,s,rfl,rfl,eR,eZ⟩:=hon e;have htG:=hT.ok _ (Fg.mpr rfl);rw [← eR,← eZ];exact ⟨htG.to.nd,htG.to.rs,htG.g.lh,htG.to.rn⟩
end
def cv(vl:Str→List Int)(y:Str):Int:=((vl y).getLast?).getD 0
structure CvG(hd:Str→Prop)(g:Gt)(vl:Str→List Int):Prop where
 a:∀y,hd y→g.h y=cv vl y
 b:∀y,g.l y=false→g.st y=cv vl y
 lh:∀y,g.l y=true→hd y
 s:∀y,g.st y=0∨g.st y∈vl y
section
variable {hd:Str→Prop} {g:Gt} {vl:Str→List Int} {z w:Str} {v S:Int} {R:List Str} {pr:Bool}
theorem J4x(y:Str):cv vl y=0∨cv vl y∈vl y:=by
 unfold cv
 cases e:(vl y).getLast? with
 | none=>exact .inl rfl
 | some u=>exact .inr (List.mem_of_getLast? e)
def Cc(vl:Str→List Int)(z:Str)(v:Int):Str→List Int:=Cd vl z (vl z++[v])
theorem Wm:cv (Cc vl z v) z=v:=by unfold cv Cc;rw [Al,List.getLast?_append];rfl
theorem J2b{y:Str}(n:y≠z):cv (Cc vl z v) y=cv vl y:=by unfold cv Cc;rw [B0 n]
theorem CvG.fetch(h:CvG (fun y=>y∈R) g vl)(hz:z∉R):CvG (fun y=>y∈R∨y=z) (Dn w z g) vl:=by
 have hl:g.l z=false:=by cases k:g.l z with | false=>rfl | true=>exact absurd (h.lh z k) hz
 refine ⟨fun y k=>?_,h.b,fun y k=> .inl (h.lh y k),h.s⟩;show Cd g.h z (g.st z) y=_
 by_cases e:y=z
 · rw [e,Al];exact h.b z hl
 · rw [B0 e];exact h.a y (k.resolve_right e)
theorem CvG.or(h:CvG (fun y=>y∈R) g vl)(hz:z∈R):CvG (fun y=>y∈R∨y=z) g vl:=⟨fun y k=>h.a y (k.elim id fun e=>by rw [e];exact hz),h.b,fun y k=> .inl (h.lh y k),h.s⟩
theorem CvG.keep(h:CvG (fun y=>y∈R) g vl)(np:pr=true→∀y,g.l y=false):CvG (fun y=>y∈R∨y=z) (G2 pr z (g.hold z v)) (Cc vl z v):=by
 have a:∀y,y∈R∨y=z→Cd g.h z v y=cv (Cc vl z v) y:=fun y k=>by
  by_cases e:y=z
  · rw [e,Al,Wm]
  · rw [B0 e,J2b e];exact h.a y (k.resolve_right e)
 have s':∀y,g.st y=0∨g.st y∈Cc vl z v y:=fun y=>(h.s y).imp id fun k=>by
  unfold Cc
  by_cases e:y=z
  · rw [e,Al];rw [e]at k;exact FJ _ k
  · rw [B0 e];exact k
 unfold G2
 cases pr with
 | true=>
  refine ⟨a,fun y k=>?_,fun y k=> .inl (h.lh y k),fun y=>?_⟩
  · show Cd g.st z (Cd g.h z v z) y=_
    by_cases e:y=z
    · rw [e,Al,Al,Wm]
    · rw [B0 e,J2b e];exact h.b y (np rfl y)
  · show Cd g.st z (Cd g.h z v z) y=0∨Cd g.st z (Cd g.h z v z) y∈_
    by_cases e:y=z
    · rw [e,Al,Al];exact .inr (by unfold Cc;rw [Al];simp)
    · rw [B0 e];exact s' y
 | false=>
  refine ⟨a,fun y k=>?_,fun y k=>?_,s'⟩
  · have k':Cd g.l z true y=false:=k
    by_cases e:y=z
    · rw [e,Al]at k';cases k'
    · rw [B0 e]at k'
      rw [J2b e];exact h.b y k'
  · have k':Cd g.l z true y=true:=k
    by_cases e:y=z
    · exact .inr e
    · rw [B0 e]at k';exact .inl (h.lh y k')
theorem CvG.fall{hd':Str→Prop}{u:Str}(h:CvG hd g vl)(hm:∀y,hd' y→hd y)(k1:∀y,(Ci u g).l y=true→hd' y):CvG hd' (Ci u g) vl:=by
 unfold Ci at k1 ⊢
 by_cases e:g.l u=true
 · rw [if_pos e]at k1 ⊢
   refine ⟨fun y k=>h.a y (hm y k),fun y k=>?_,k1,fun y=>?_⟩
   · have k':Cd g.l u false y=false:=k
     show Cd g.st u (g.h u) y=_
     by_cases c:y=u
     · rw [c,Al];exact h.a u (h.lh u e)
     · rw [B0 c]at k' ⊢;exact h.b y k'
   · show Cd g.st u (g.h u) y=0∨Cd g.st u (g.h u) y∈_
     by_cases c:y=u
     · rw [c,Al,h.a u (h.lh u e)];exact J4x u
     · rw [B0 c];exact h.s y
 · rw [if_neg e]at k1 ⊢
   exact ⟨fun y k=>h.a y (hm y k),h.b,k1,h.s⟩
theorem CvG.come(h:CvG (fun y=>y∈R∨y=z) g vl)(k1:∀y,(Bz S R z g).l y=true→y∈Ps S R z):CvG (fun y=>y∈Ps S R z) (Bz S R z g) vl:=by
 have hm:∀u,u∈Ps S R z→u∈R∨u=z:=fun u hu=>by
  rcases Fh.mp (R8 hu) with e | e
  · exact .inr e
  · exact .inl (List.mem_of_mem_erase e)
 unfold Bz at k1 ⊢
 by_cases hf:S < ((z::R.erase z).length:Int)
 · rw [if_pos hf]at k1 ⊢
   exact h.fall hm k1
 · rw [if_neg hf]at k1 ⊢
   exact ⟨fun y k=>h.a y (hm y k),h.b,k1,h.s⟩
def goL(b:W85)(vl:Str→List Int)(z:Str)(v:Int):Str→List Int:=match b with | .keep=>Cc vl z v | _=>vl
theorem CvG.go{b:W85}(hb:U8 b)(h:CvG (fun y=>y∈R) g vl)(np:pr=true→∀y,g.l y=false)(k1:∀y,(goG pr b S R z v g).l y=true→y∈Wi b S R z):CvG (fun y=>y∈Wi b S R z) (goG pr b S R z v g) (goL b vl z v):=by
 rcases hb with rfl | rfl | rfl | rfl | rfl
 · show CvG (fun y=>y∈Ps S R z) (Cs S R z g) vl
   unfold Cs;refine CvG.come ?_ k1
   by_cases hz:z∈R
   · rw [if_pos hz];exact h.or hz
   · rw [if_neg hz];exact h.fetch hz
 · exact CvG.come (h.keep np) k1
 · show CvG (fun y=>y∈if z∈R then R else Ps S R z) (Ce S R z g) vl
   have k2:∀y,(Ce S R z g).l y=true→y∈if z∈R then R else Ps S R z:=k1
   unfold Ce at k2 ⊢
   by_cases hz:z∈R
   · simp only [if_pos hz];exact h
   · simp only [if_neg hz]at k2 ⊢;exact (h.fetch hz).come k2
 · show CvG (fun y=>y∈R) (G3 R g) vl
   obtain ⟨r1,r2,r3⟩:=Kw (R:=R) (g:=g) h.lh
   have r3':∀y,(G3 R g).st y=if g.l y then g.h y else g.st y:=fun y=>by rw [r3]
   refine ⟨fun y k=>by rw [r1];exact h.a y k,fun y _=>?_,fun y k=>(by rw [r2]at k;cases k),fun y=>?_⟩
   · rw [r3']
     by_cases c:g.l y=true
     · rw [if_pos c];exact h.a y (h.lh y c)
     · rw [if_neg c];exact h.b y (by cases e:g.l y with | false=>rfl | true=>exact absurd e c)
   · rw [r3']
     by_cases c:g.l y=true
     · rw [if_pos c,h.a y (h.lh y c)];exact J4x y
     · rw [if_neg c];exact h.s y
 · exact h
theorem J8y:CvG (fun y=>y∈([]:List Str)) g0 (fun _=>[]):=⟨fun y k=>(by cases k),fun y _=>rfl,(fun y k=>by cases k),fun y=> .inl rfl⟩
theorem J3t(h:CvG (fun y=>y∈R) g vl):(Cs S R z g).h z=cv vl z:=by
 unfold Cs;rw [J5y]
 by_cases hz:z∈R
 · rw [if_pos hz];exact h.a z hz
 · rw [if_neg hz];exact (h.fetch (w:=Str.ofString "fetch") hz).a z (.inr rfl)
end
end N96
namespace N96
open L2 N1 N5 N4 N6 N12 N71 N74 N75 N79 NTx N85
structure Dc(H:Hp)(kn:Addr)(LL:List Addr)(vl:Str→List Int)(N:Nat):Prop where
 ex:∃(kvs:List (Key×V)) (la:Str→Addr),H kn=some (.dK kvs)∧kvs.length≤N∧(∀y,vl y=[]→B1 kvs (Sum.inr y)=none)∧(∀y,vl y≠[]→B1 kvs (Sum.inr y)=some (.ref (la y))∧la y∈LL∧H (la y)=some (.lst ((vl y).map fun i=>V.str (nT i))))∧(∀y u,vl y≠[]→vl u≠[]→la y=la u→y=u)
 ld:∀c∈LL,∃xs,H c=some (.lst xs)
 l:∀y,(vl y).length≤N
def Ir(H:Hp)(fr:Addr)(g:Gt)(N:Nat):Prop:=∃kf,H fr=some (.dK kf)∧kf.length≤N∧∀y,g.l y=true→(B1 kf (Sum.inr y)).isSome=true
def Cf(H:Hp)(tl:Addr)(ops:List Op):Prop:=∃rs:List Addr,H tl=some (.lst (rs.map V.ref))∧rs.length=ops.length∧∀(i:Nat) r o u,rs[i]?=some r→ops[i]?=some o→(m0.anl ops)[i]?=some u→H r=some (.tup [.str o.ln.txt,.str u])
section
variable {H H':Hp} {kn fr tl:Addr} {LL:List Addr} {vl:Str→List Int} {N:Nat} {g:Gt} {ops:List Op} {op:Op} {z:Str} {v:Int} {b:W85} {S:Int} {R:List Str} {pr:Bool}
theorem Dc.off{L:List Addr}(h:Dc H kn LL vl N)(o:Off L H H')(n1:kn∉L)(n2:∀c∈LL,c∉L):Dc H' kn LL vl N:=by
 obtain ⟨kvs,la,h1,h2,h3,h4,h5⟩:=h.ex;exact ⟨⟨kvs,la,o _ _ h1 n1,h2,h3,fun y hy=>by obtain ⟨a,b,c⟩:=h4 y hy;exact ⟨a,b,o _ _ c (n2 _ b)⟩,h5⟩,fun c hc=>by obtain ⟨xs,e⟩:=h.ld c hc;exact ⟨xs,o _ _ e (n2 c hc)⟩,h.l⟩
theorem Dc.same(h:Dc H kn LL vl N)(sm:A9 H H'):Dc H' kn LL vl N:=h.off (L:=[]) (.of sm) (by simp) (by simp)
theorem Dc.kp(h:Dc H kn LL vl N)(k:∀c∈kn::LL,∀o,H c=some o→H' c=some o):Dc H' kn LL vl N:=by
 obtain ⟨kvs,la,h1,h2,h3,h4,h5⟩:=h.ex;exact ⟨⟨kvs,la,k _ Fj _ h1,h2,h3,fun y hy=>by obtain ⟨a,b,c⟩:=h4 y hy;exact ⟨a,b,k _ (Fd _ b) _ c⟩,h5⟩,fun c hc=>by obtain ⟨xs,e⟩:=h.ld c hc;exact ⟨xs,k _ (Fd _ hc) _ e⟩,h.l⟩
theorem Dc.nl(h:Dc H kn LL vl N):kn∉LL:=fun hm=>by
 obtain ⟨kvs,la,h1,_⟩:=h.ex;obtain ⟨xs,e⟩:=h.ld kn hm;rw [h1]at e;cases e
theorem Dc.up{N':Nat}(h:Dc H kn LL vl N)(hN:N≤N'):Dc H kn LL vl N':=by
 obtain ⟨kvs,la,h1,h2,h3⟩:=h.ex;exact ⟨⟨kvs,la,h1,FA h2 hN,h3⟩,h.ld,fun y=>FA (h.l y) hN⟩
theorem J66(e:H kn=some (.dK [])):Dc H kn [] (fun _=>[]) N:=⟨⟨[],fun _=>kn,e,Fl _,fun y _=>rfl,(fun y hy=>absurd rfl hy),fun y u hy=>absurd rfl hy⟩,fun c hc=>(by cases hc),fun y=>Fl _⟩
theorem Mi(y:Str)(h:Cc vl z v y≠[]):y=z∨vl y≠[]:=by
 by_cases e:y=z
 · exact .inl e
 · unfold Cc at h;rw [B0 e]at h;exact .inr h
theorem Dc.more(h:Dc H kn LL vl N)(hz:vl z≠[]){kvs:List (Key×V)}{a:Addr}(hk:H kn=some (.dK kvs))(ha:B1 kvs (Sum.inr z)=some (.ref a)):
 a∈LL∧H a=some (.lst ((vl z).map fun i=>V.str (nT i)))∧Dc (upd H a (.lst ((vl z).map (fun i=>V.str (nT i))++[.str (nT v)]))) kn LL (Cc vl z v) (N+1):=by
 obtain ⟨kvs',la,h1,h2,h3,h4,h5⟩:=h.ex;rw [hk]at h1;cases h1;obtain ⟨a1,a2,a3⟩:=h4 z hz;rw [ha]at a1;cases a1;have hkn:kn≠la z:=fun e=>h.nl (e▸a2);refine ⟨a2,a3,⟨kvs,la,by rw [A4 hkn];exact hk,by omega,fun y hy=>?_,fun y hy=>?_,fun y u hy hu=>?_⟩,fun c hc=>?_,fun y=>?_⟩
 · refine h3 y ?_
   unfold Cc at hy
   by_cases e:y=z
   · rw [e,Al]at hy;exact absurd hy (by simp)
   · rw [B0 e]at hy;exact hy
 · rcases Mi y hy with e | e
   · rw [e]
     refine ⟨ha,a2,?_⟩;rw [A3];unfold Cc;rw [Al,Ft];rfl
   · by_cases c:y=z
     · rw [c]
       refine ⟨ha,a2,?_⟩;rw [A3];unfold Cc;rw [Al,Ft];rfl
     · obtain ⟨b1,b2,b3⟩:=h4 y e
       refine ⟨b1,b2,?_⟩;rw [A4 fun k=>c (h5 y z e hz k)];unfold Cc;rw [B0 c];exact b3
 · have f:∀y,Cc vl z v y≠[]→vl y≠[]:=fun y k=>(Mi y k).elim (fun e=>by rw [e];exact hz) id
   exact h5 y u (f y hy) (f u hu)
 · by_cases e:c=la z
   · exact ⟨_,by rw [e,A3]⟩
   · obtain ⟨xs,k⟩:=h.ld c hc
     exact ⟨xs,by rw [A4 e];exact k⟩
 · unfold Cc
   by_cases e:y=z
   · rw [e,Al,Ff];have:=h.l z;show _+1≤_;omega
   · rw [B0 e];have:=h.l y;omega
theorem Dc.first(h:Dc H kn LL vl N)(hz:vl z=[]){kvs:List (Key×V)}{a:Addr}(hk:H kn=some (.dK kvs))(ha:H a=none):
 Dc (upd (upd (upd H a (.lst [])) kn (.dK (B8 kvs (Sum.inr z) (.ref a)))) a (.lst [.str (nT v)])) kn (a::LL) (Cc vl z v) (N+1):=by
 obtain ⟨kvs',la,h1,h2,h3,h4,h5⟩:=h.ex;rw [hk]at h1;cases h1
 have hkn:kn≠a:=fun e=>by rw [← e,hk]at ha;cases ha
 have hl:=Bx kvs (Sum.inr z:Key) (V.ref a)
 have hla:∀y,vl y≠[]→la y≠a:=fun y hy e=>by
  have:=(h4 y hy).2.2;rw [e,ha]at this;cases this
 refine ⟨⟨B8 kvs (Sum.inr z) (.ref a),fun y=>if y=z then a else la y,by rw [A4 hkn,A3],by omega,fun y hy=>?_,fun y hy=>?_,fun y u hy hu=>?_⟩,fun c hc=>?_,fun y=>?_⟩
 · unfold Cc at hy
   by_cases e:y=z
   · rw [e,Al,hz]at hy;cases hy
   · rw [B0 e]at hy
     rw [E2,if_neg (Gr e)];exact h3 y hy
 · by_cases c:y=z
   · rw [c]
     dsimp only;rw [if_pos rfl];refine ⟨by rw [E2,if_pos rfl],Fj,?_⟩;rw [A3];unfold Cc;rw [Al,hz];rfl
   · have e:=(Mi y hy).resolve_left c
     obtain ⟨b1,b2,b3⟩:=h4 y e;dsimp only;rw [if_neg c];refine ⟨by rw [E2,if_neg (Gr c)];exact b1,Fd _ b2,?_⟩;rw [A4 (hla y e),A4 (fun k:la y=kn=>h.nl (k▸b2)),A4 (hla y e)];unfold Cc;rw [B0 c];exact b3
 · have f:∀y,y≠z→Cc vl z v y≠[]→vl y≠[]:=fun y n k=>(Mi y k).resolve_left n
   dsimp only
   by_cases c1:y=z
   · by_cases c2:u=z
     · intro _;rw [c1,c2]
     · rw [if_pos c1,if_neg c2]
       intro k;exact absurd k.symm (hla u (f u c2 hu))
   · by_cases c2:u=z
     · rw [if_neg c1,if_pos c2]
       intro k;exact absurd k (hla y (f y c1 hy))
     · rw [if_neg c1,if_neg c2]
       exact h5 y u (f y c1 hy) (f u c2 hu)
 · rcases Fh.mp hc with k | k
   · exact ⟨_,by rw [k,A3]⟩
   · obtain ⟨xs,e⟩:=h.ld c k
     have n1:c≠a:=fun j=>by rw [j,ha]at e;cases e
     exact ⟨xs,by rw [A4 n1,A4 (fun j:c=kn=>h.nl (j▸k)),A4 n1];exact e⟩
 · unfold Cc
   by_cases e:y=z
   · rw [e,Al,hz];show 1≤_;omega
   · rw [B0 e];have:=h.l y;omega
theorem Ir.up{N':Nat}(h:Ir H fr g N)(hN:N≤N'):Ir H fr g N':=let ⟨kf,a,b,c⟩:=h;⟨kf,a,FA b hN,c⟩
theorem Ir.kp(h:Ir H fr g N)(k:∀o,H fr=some o→H' fr=some o):Ir H' fr g N:=let ⟨kf,a,b,c⟩:=h;⟨kf,k _ a,b,c⟩
theorem Ir.le{g':Gt}(h:Ir H fr g N)(k:∀y,g'.l y=true→g.l y=true):Ir H fr g' N:=let ⟨kf,a,b,c⟩:=h;⟨kf,a,b,fun y e=>c y (k y e)⟩
theorem J67{u y:Str}(h:(Ci u g).l y=true):g.l y=true:=by
 unfold Ci at h
 by_cases e:g.l u=true
 · rw [if_pos e]at h
   have h':Cd g.l u false y=true:=h
   by_cases c:y=u
   · rw [c,Al]at h';cases h'
   · rw [B0 c]at h';exact h'
 · rw [if_neg e]at h;exact h
theorem U9{y:Str}(h:(Bz S R z g).l y=true):g.l y=true:=by
 unfold Bz at h;split at h
 · exact J67 h
 · exact h
theorem J88(hb:U8 b){y:Str}(h:(goG pr b S R z v g).l y=true):(b= .keep∧y=z)∨(b≠ .rest∧g.l y=true):=by
 rcases hb with rfl | rfl | rfl | rfl | rfl
 · refine .inr ⟨(fun k=>by cases k),?_⟩
   have h':(Cs S R z g).l y=true:=h;unfold Cs at h';have h2:=U9 h'
   by_cases c:z∈R
   · rw [if_pos c]at h2;exact h2
   · rw [if_neg c]at h2;exact h2
 · have h2:(G2 pr z (g.hold z v)).l y=true:=U9 (show (Bz S R z (G2 pr z (g.hold z v))).l y=true from h)
   unfold G2 at h2;cases pr
   · have h3:Cd g.l z true y=true:=h2
     by_cases c:y=z
     · exact .inl ⟨rfl,c⟩
     · rw [B0 c]at h3;exact .inr ⟨(fun k=>by cases k),h3⟩
   · exact .inr ⟨(fun k=>by cases k),h2⟩
 · refine .inr ⟨(fun k=>by cases k),?_⟩
   have h':(Ce S R z g).l y=true:=h;unfold Ce at h'
   by_cases c:z∈R
   · rw [if_pos c]at h';exact h'
   · rw [if_neg c]at h';exact U9 (g:=Dn (Str.ofString "ahead") z g) h'
 · cases h
 · exact .inr ⟨(fun k=>by cases k),h⟩
theorem J2c:∀{kf:List (Key×V)} {ys:List Str},ys.Nodup→(∀y∈ys,(B1 kf (Sum.inr y)).isSome=true)→ys.length≤kf.length:=by
 intro kf
 induction kf with
 | nil=>
  intro ys _ h
  cases ys with
  | nil=>exact Fe _
  | cons y ys=>exact absurd (h y Fj) (by show ¬(none:Option V).isSome=true;decide)
 | cons p kf ih=>
  intro ys nd h
  by_cases hp:∃y,p.1=(Sum.inr y:Key)∧y∈ys
  · obtain ⟨y,e,hy⟩:=hp
    have:=ih (ys:=ys.erase y) (nd.erase y) fun u hu=>by
     have hu2:=(List.Nodup.mem_erase_iff nd).mp hu;have:=h u hu2.2;unfold B1 at this ⊢;rw [Hs]at this;have ne:decide (p.1=(Sum.inr u:Key))=false:=FE fun k=>hu2.1 (Sum.inr.inj (k.symm.trans e));rw [ne]at this;exact this
    rw [List.length_erase_of_mem hy]at this;have hpos:0 < ys.length:=List.length_pos_of_mem hy;rw [List.length_cons];omega
  · have:=ih nd fun u hu=>by
     have k:=h u hu;unfold B1 at k ⊢;rw [Hs]at k;have ne:decide (p.1=(Sum.inr u:Key))=false:=FE fun k=>hp ⟨u,k,hu⟩;rw [ne]at k;exact k
    rw [List.length_cons];omega
theorem Ir.count(h:Ir H fr g N)(nd:R.Nodup):∃kf,H fr=some (.dK kf)∧kf.length≤N∧(R.filter g.l).length≤kf.length:=by
 obtain ⟨kf,a,b,c⟩:=h;exact ⟨kf,a,b,J2c (nd.sublist List.filter_sublist) fun y hy=>c y (HD.mp hy).2⟩
theorem Cf.kp(h:Cf H tl ops)(k:∀o,H tl=some o→H' tl=some o)(kt:∀c e,H c=some (.tup e)→H' c=some (.tup e)):Cf H' tl ops:=by
 obtain ⟨rs,h1,h2,h3⟩:=h;exact ⟨rs,k _ h1,h2,fun i r o u a b c=>kt _ _ (h3 i r o u a b c)⟩
theorem J2d(h:H tl=some (.lst [])):Cf H tl []:=⟨[],h,rfl,fun i r o u a=>by cases a⟩
theorem Cf.snoc{rs:List Addr}{p:Addr}(h2:rs.length=ops.length)(h3:∀(i:Nat) r o u,rs[i]?=some r→ops[i]?=some o→(m0.anl ops)[i]?=some u→H r=some (.tup [.str o.ln.txt,.str u]))(e:H tl=some (.lst ((rs++[p]).map V.ref)))(hp:H p=some (.tup [.str op.ln.txt,.str ((m0.run ops).ans op)])):Cf H tl (ops++[op]):=by
 have hl:(m0.anl ops).length=ops.length:=Mh;refine ⟨rs++[p],e,by rw [Ff,Ff,h2];rfl,fun i r o u a b c=>?_⟩;rw [J28]at c
 by_cases k:i < ops.length
 · rw [Fu (by omega)]at a b c
   exact h3 i r o u a b c
 · rw [Fy (by omega)]at a b c
   have ei:i=ops.length:=by
    have:=(Fc.mp b).1;rw [List.length_cons,List.length_nil]at this;omega
   rw [ei,h2,HC]at a;rw [ei,HC]at b;rw [ei,hl,HC]at c;cases a;cases b;cases c;exact hp
end
def K7(K:PySem.W.Frag):Sp:=fun vs H Q _=>∃(c:Int) (np:Addr) (ys:List Str),vs=[.int c,.ref np]∧SqL K H np (ys.map V.str)∧1≤ys.length∧ys.length≤8∧(∀y∈ys,y.length≤8)∧∀(b:W85) (z:Str) (v:Int) (H':Hp),U8 b→z∈ys→0≤v→v≤10 ^ 30→A9 H H'→(c % 14=13→b= .rest)→Q (.str (Ea b z v).txt) H'
def Gy:Sp:=fun vs H Q _=>∃(kn:Addr) (LL:List Addr) (vl:Str→List Int) (N:Nat) (z:Str),vs=[.ref kn,.str z]∧Dc H kn LL vl N∧N≤100∧Q (.str (nT (cv vl z))) H
def K8(K:PySem.W.Frag)(D C1 C2 S:Addr):Sp:=fun vs H Q _=>∃(d tl:Addr) (op:Op) (ops:List Op) (ks:List Addr) (B:Nat) (H0:Hp),vs=[.ref d,.str op.ln.txt,.ref tl]∧DkM K D C1 C2 S H0 H d ks (m0.run ops) B∧Lg m0 ops∧Nn (m0.run ops) op∧op.ln.ok∧tl∈ks∧Cf H tl ops∧B≤20000∧ops.length≤900∧
 ∀H',(∀c∈ks,c≠tl→∀o,H c=some o→H' c=some o)→DkM K D C1 C2 S H0 H' d ks (m0.run (ops++[op])) (B+wt op)→Lg m0 (ops++[op])→Cf H' tl (ops++[op])→Q (.str ((m0.run ops).ans op)) H'
def Gz:Sp:=fun vs H Q _=>∃(w kn fr:Addr) (LL:List Addr) (b:W85) (z:Str) (v:Int) (m:M6) (vl:Str→List Int) (N:Nat),vs=[.ref w,.str (m.ans (.deed b z v)),.ref kn,.ref fr,.bl m.pr]∧U8 b∧H w=some (.lst ((wd b::(Ea b z v).ws).map V.str))∧Dc H kn LL vl N∧Ir H fr m.g N∧N≤90∧CvG (fun y=>y∈m.R) m.g vl∧(m.pr=true→∀y,m.g.l y=false)∧m.R.Nodup∧w∉kn::fr::LL∧kn≠fr∧0≤v∧v≤10 ^ 30∧
 ∀(LL':List Addr) (H':Hp),Off (kn::fr::LL) H H'→(∀c∈LL',c∈LL∨H c=none)→Dc H' kn LL' (goL b vl z v) (N+1)→Ir H' fr (m.nxt (.deed b z v)).g (N+1)→Q (.bl true) H'
def Bj(y:Str):Op:= .deed .store y 0
def G4(K:PySem.W.Frag)(D C1 C2 S:Addr):Sp:=fun vs H Q _=>∃(d np kn tl:Addr) (ys:List Str) (ops:List Op) (ks LL:List Addr) (B N:Nat) (H0:Hp) (vl:Str→List Int),vs=[.ref d,.ref np,.ref kn,.ref tl]∧DkM K D C1 C2 S H0 H d ks (m0.run ops) B∧Lg m0 ops∧tl∈ks∧Cf H tl ops∧B≤20000∧ops.length≤800∧H0 np=some (.lst (ys.map V.str))∧ys.length≤8∧(∀y∈ys,y.length≤8)∧(∀y∈ys,y∈(m0.run ops).ts.map (·.1))∧(m0.run ops).on=true∧Dc H kn LL vl N∧N≤100∧(∀c∈kn::LL,c∈ks∧c≠tl)∧(∀y,(m0.run ops).g.st y=cv vl y)∧
 ∀H',(∀c∈ks,c≠tl→∀o,H c=some o→H' c=some o)→DkM K D C1 C2 S H0 H' d ks (m0.run (ops++ys.map Bj)) B→Lg m0 (ops++ys.map Bj)→m0.run (ops++ys.map Bj)=m0.run ops→Cf H' tl (ops++ys.map Bj)→Q (.bl true) H'
def Ia:Sp:=fun vs H Q _=>∃(c:Int) (pr:Bool),vs=[.int c,.bl pr]∧∀(zs:List Int) (H':Hp),1≤zs.length→zs.length≤6→(∀u∈zs,1≤u∧u≤1000)→A9 H H'→Q (.str (lnW pr zs).txt) H'
def nl1:Str:=Str.ofString "\n"
def J2e(H:Hp)(p:Addr)(us:List Str):Prop:=∃rs:List Addr,H p=some (.lst (rs.map V.ref))∧rs.length=us.length∧∀(i:Nat) r u,rs[i]?=some r→us[i]?=some u→H r=some (.tup [.bl true,.str u])
def K9(K:PySem.W.Frag)(D C1 C2 S:Addr):Sp:=fun vs H Q _=>∃(d:Addr) (op:Op) (m:M6) (ks:List Addr) (B:Nat) (H0:Hp),vs=[.ref d,.str op.ln.txt]∧DkM K D C1 C2 S H0 H d ks m B∧Nn m op∧op.ln.ok∧B≤20000∧
 ∀(p:Addr) (H':Hp),Fr6 ks H H'→DkM K D C1 C2 S H0 H' d ks (m.nxt op) (B+wt op)→H' p=some (.tup [.bl true,.str (m.ans op)])→Q (.ref p) H'
def Ef(K:PySem.W.Frag):Sp:=fun vs H Q _=>∃(ops:List Op),vs=[.str (Txt.join nl1 (ops.map fun o=>o.ln.txt))]∧ops≠[]∧Lg m0 ops∧wts ops≤15000∧ops.length≤900∧∀(p:Addr) (H':Hp),A9 H H'→J2e H' p (m0.anl ops)→Q (.ref p) H'
def Ib:Sp:=fun vs H Q _=>∃(tl:Addr) (ops:List Op),vs=[.ref tl]∧Cf H tl ops∧ops≠[]∧Lg m0 ops∧wts ops≤15000∧ops.length≤900∧∀H',Q (.bl true) H'
end N96
namespace N96
open L2 N1 N5 N4 N6 N12 N71 N74 N75 N79 NTx N85
theorem Wn{y:Str}{c:Nat}:∀{ps:List Str},c∈(Str.join y ps).cps.toList→c∈y.cps.toList∨∃p∈ps,c∈p.cps.toList
 | [],h=>by cases h
 | [p],h=> .inr ⟨p,by simp,h⟩
 | p::q::r,h=>by
  have h':c∈(p++y++Str.join y (q::r)).cps.toList:=h;rw [E3,E3]at h';rcases Fq.mp h' with h' | h'
  · rcases Fq.mp h' with h' | h'
    · exact .inr ⟨p,by simp,h'⟩
    · exact .inl h'
  · rcases Wn h' with k | ⟨u,hu,k⟩
    · exact .inl k
    · exact .inr ⟨u,Fd _ hu,k⟩
theorem J68(b:W85):10∉(wd b).cps.toList:=by cases b <;> decide+kernel
theorem J2f{l:Ln}(h:l.ok):10∉l.txt.cps.toList∧l.txt.cps.toList≠[]:=by
 have e:l.txt=Str.join (Str.ofString " ") (wd l.b::l.ws):=StrLaws.glued_eq_join _ _;rw [e];refine ⟨fun hc=>?_,W9 (by simp) fun p hp k=>?_⟩
 · rcases Wn hc with k | ⟨p,hp,k⟩
   · revert k;decide+kernel
   rcases Fh.mp hp with j | hw
   · rw [j]at k;exact J68 _ k
   · obtain ⟨i,hi⟩:=FP.mp hw
     have hil:=(Fc.mp hi).1
     obtain ⟨k',hk⟩:∃k,(Bi (fm l.b) l.ws.length)[i]?=some k:=⟨_,Fb (by rw [h.k];exact hil)⟩
     obtain ⟨v,hv⟩:∃v,l.vs[i]?=some v:=⟨_,Fb (by rw [h.v];exact hil)⟩
     rcases h.w i k' p v hk hi hv with ⟨_,h1,_⟩ | ⟨_,_,h1,_⟩
     · have:=Ow h1 k;omega
     · have:=(U1 h1).2.2 _ k;omega
 · have:1≤p.cps.toList.length:=by
    rcases Fh.mp hp with j | hw
    · rw [j];exact (We _).2.1
    · exact (h.word hw).1
   rw [k]at this;exact absurd this (by decide)
theorem Lg.lok{os:List Op}:∀{m:M6},Lg m os→∀o∈os,o.ln.ok:=by
 induction os with
 | nil=>intro m _ o h;cases h
 | cons p os ih=>
  intro m h o ho;rcases Fh.mp ho with k | k
  · rw [k];exact h.2.1
  · exact ih h.2.2 o k
section
variable {ops:List Op} {m:M6}
theorem Xs(h:Lg m ops)(hne:ops≠[]):Txt.split (Txt.join nl1 (ops.map fun o=>o.ln.txt)) nl1=ops.map fun o=>o.ln.txt:=by
 have e:Txt.join nl1 (ops.map fun o=>o.ln.txt)=Str.join nl1 (ops.map fun o=>o.ln.txt):=StrLaws.glued_eq_join _ _;rw [e];refine Nh (c:=10) (r:=[]) (by decide+kernel) (by decide+kernel) (by simpa using hne) fun p hp=>?_;obtain ⟨o,ho,rfl⟩:=FH.mp hp;exact (J2f (h.lok o ho)).1
theorem J69(h:Lg m ops)(hne:ops≠[]):Txt.join nl1 (ops.map fun o=>o.ln.txt)≠Str.ofString "":=fun k=>by
 have e:Txt.join nl1 (ops.map fun o=>o.ln.txt)=Str.join nl1 (ops.map fun o=>o.ln.txt):=StrLaws.glued_eq_join _ _;rw [e]at k;refine W9 (y:=nl1) (ps:=ops.map fun o=>o.ln.txt) (by simpa using hne) (fun p hp=>?_) (by rw [k];decide+kernel);obtain ⟨o,ho,rfl⟩:=FH.mp hp;exact (J2f (h.lok o ho)).2
theorem T3(h:Lg m ops)(hl:ops.length≤900):(Txt.join nl1 (ops.map fun o=>o.ln.txt)).length≤3600900∧((ops.map fun o=>o.ln.txt).map (·.length)).sum≤3600000:=by
 have e:Txt.join nl1 (ops.map fun o=>o.ln.txt)=Str.join nl1 (ops.map fun o=>o.ln.txt):=StrLaws.glued_eq_join _ _;rw [e]
 have lk:∀p∈ops.map (fun o=>o.ln.txt),p.length≤4000:=fun p hp=>by
  obtain ⟨o,ho,rfl⟩:=FH.mp hp;exact (h.lok o ho).long
 have h1:=K1 (y:=nl1) lk
 have h2:nl1.length=1:=by decide+kernel
 rw [h2,Fa]at h1;have h3:=Kt lk;rw [Fa]at h3;exact ⟨by omega,by omega⟩
end
theorem Xt{vl:Str→List Int}{z:Str}(h:vl z≠[]):atI ((vl z).map fun i=>V.str (nT i)) (-1)=some (.str (nT (cv vl z))):=by
 unfold cv
 cases e:(vl z).getLast? with
 | none=>exact absurd (List.getLast?_eq_none_iff.mp e) h
 | some u=>
  obtain ⟨ys,hy⟩:=List.getLast?_eq_some_iff.mp e;rw [hy,Ft];exact J3c
section
variable {K:PySem.W.Frag} {D C1 C2 S d dx st as:Addr} {H Hx H':Hp} {ks ks':List Addr} {m:M6} {B:Nat} {H0:Hp}
theorem Wo(h0:H d=none)(h1:H dx=none)(sb:SameBut d (upd (upd H dx (.own d)) d (.ins D dx [])) H')(hD:Dk D H' d st as .non)(stk:Lq K S Hx H' st []):DkM K D C1 C2 S H H' d [] m0 1:=by
 obtain ⟨dy,fs,ho,hf⟩:=id hD.o;refine ⟨⟨st,as,.non,[],hD,T1 (Oy (stk.t (L:=[]) (by simp) (by simp) (by simp)) ho hf.k) (fun c hc=>?_),(fun w hw=>by cases hw),fun _=>rfl,(fun k=>by cases (show false=true from k))⟩,HK,(fun t ht=>by cases ht),Fl _,GOk.g0,fun _ y=>rfl,h0,(fun c hc=>by cases hc),(fun c hc=>by cases hc),G8 h0 h1 sb,Fe _⟩;rw [Fg.mp hc];exact ⟨_,ho,fun e z=>by cases z⟩
theorem DkM.new(h:DkM K D C1 C2 S H0 H d ks m B){c:Addr}{o:HO}(hc:H c=none)(ho:LD (upd H c o) c):DkM K D C1 C2 S H0 (upd H c o) d (c::ks) m B:=
 h.moved (.of (A9.new hc)) (fun b hb=>(Fh.mp hb).elim (fun k=> .inr (by rw [k];exact hc)) .inl) fun b hb=>(Fh.mp hb).elim (fun k=>by rw [k];exact ho) fun k=>(h.ld b k).same fun o e=>A9.new hc _ _ e
theorem DkM.perm(h:DkM K D C1 C2 S H0 H d ks m B)(e:∀c,c∈ks'↔c∈ks):DkM K D C1 C2 S H0 H d ks' m B:=h.moved (fun b u e _=>e) (fun c hc=> .inl ((e c).mp hc)) fun c hc=>h.ld c ((e c).mp hc)
theorem DkM.sub(h:DkM K D C1 C2 S H0 H d ks m B)(e:∀c∈ks',c∈ks):DkM K D C1 C2 S H0 H d ks' m B:=h.moved (fun b u e _=>e) (fun c hc=> .inl (e c hc)) fun c hc=>h.ld c (e c hc)
theorem DkM.put(h:DkM K D C1 C2 S H0 H d ks m B){c:Addr}{o:HO}(hc:c∈ks)(ho:LD (upd H c o) c):DkM K D C1 C2 S H0 (upd H c o) d ks m B:=
 h.moved (fun b u e n=>by rw [A4 (fun k=>n (by rw [k];exact hc))];exact e) (fun b hb=> .inl hb) fun b hb=>by
  by_cases k:b=c
  · rw [k];exact ho
  · exact (h.ld b hb).same fun o e=>by rw [A4 k];exact e
end
theorem Xu{m:M6}{z:Str}(on:m.on=true)(hz:z∈m.ts.map (·.1)):Nn m (Bj z):=⟨on,.inr (.inr (.inr (.inr rfl))),hz,by decide,by decide⟩
theorem Py{b:W85}(h:U8 b):J25 b∨J26 b:=by
 rcases h with rfl | rfl | rfl | rfl | rfl <;> first | exact .inl (.inl rfl) | exact .inl (.inr (.inl rfl)) | exact .inl (.inr (.inr rfl)) | exact .inr (.inr (.inl rfl)) | exact .inr (.inl rfl) | exact .inr (.inr (.inr (.inl rfl)))
theorem Pz{us:List Str}{i:Nat}(hi:i < us.length):us[i]?=some (us.getD i Str.empty):=by rw [Fk,Fb hi];rfl
theorem J2g{H:Hp}{rs:List Addr}{ops:List Op}(t2:rs.length=ops.length)(t3:∀(i:Nat) r o u,rs[i]?=some r→ops[i]?=some o→(m0.anl ops)[i]?=some u→H r=some (.tup [.str o.ln.txt,.str u]))(i:Nat)(c:Addr)(e:rs[i]?=some c):H c=some (.tup [.str ((ops.map fun o=>o.ln.txt).getD i Str.empty),.str ((m0.anl ops).getD i Str.empty)]):=by
 have hi:i < ops.length:=by have:=(Fc.mp e).1;omega
 have e2:ops[i]?=some ops[i]:=Fb hi
 have e4:(ops.map fun o=>o.ln.txt).getD i Str.empty=ops[i].ln.txt:=by rw [Fk,Fi,e2];rfl
 rw [e4];exact t3 i c _ _ e e2 (Pz (by rw [Mh];exact hi))
theorem Xv{us:List Str}:(((List.range us.length).filter fun _=>true).map fun i=>V.str (us.getD i Str.empty))=us.map V.str:=by
 rw [List.filter_eq_self.mpr fun _ _=>rfl];refine RM fun i=>?_;rw [Fi,Fi]
 by_cases h:i < us.length
 · rw [Rf h,Pz h];rfl
 · rw [He (by rw [FT];omega),He (by omega)];rfl
theorem Ua{K:PySem.W.Frag}{H:Hp}{p D:Addr}{us:List Str}{bs:List Addr}(h:J2e H p us)(hD:H D=some (.lst (bs.map V.ref)))(hl:bs.length=us.length)(hb:∀(i:Nat) b,bs[i]?=some b→H b=some (.tup [.bl true,.str (us.getD i Str.empty)])):Ks K 1 H (.ref p) (.ref D):=by
 obtain ⟨rs,h1,h2,h3⟩:=h;refine ⟨p,D,_,_,rfl,rfl,.inl ⟨SqL.of h1,SqL.of hD⟩,by rw [Fa,Fa,h2,hl],fun i x y hx hy=>?_⟩;rw [Fi]at hx hy
 cases e1:rs[i]? with
 | none=>rw [e1]at hx;cases hx
 | some r=>
 cases e2:bs[i]? with
 | none=>rw [e2]at hy;cases hy
 | some b=>
 rw [e1]at hx;rw [e2]at hy;cases hx;cases hy
 have hi:i < us.length:=by have:=(Fc.mp e1).1;omega
 refine .of ⟨r,b,_,_,rfl,rfl,.inr ⟨SqT.of (h3 i r _ e1 (Pz hi)),SqT.of (hb i b e2)⟩,rfl,fun j x y hx hy=>?_⟩
 match j,hx,hy with
 | 0,e1,e2=>cases e1;cases e2;exact Dj.flat rfl
 | 1,e1,e2=>cases e1;cases e2;exact Dj.flat rfl
 | j+2,e1,_=>simp at e1
theorem Ka{ops:List Op}{ys:List Str}:wts (ops++ys.map Bj)=wts ops:=by
 unfold wts;rw [Ft,Ra,FL]
 have:((ys.map (wt∘Bj)).sum:Nat)=0:=by
  induction ys with
  | nil=>rfl
  | cons y ys ih=>rw [List.map_cons,R6,ih];rfl
 omega
theorem J2h{b:W85}{z:Str}{v:Int}:(Ea b z v).b=b:=by cases b <;> rfl
theorem J2i{b:W85}{z:Str}{v:Int}(h:(Ea b z v).ok)(hb:b≠ .rest):(Ea b z v).txt≠Str.ofString "rest":=fun e=>by
 have h1:=h.split;rw [e,J2h]at h1
 have h2:Txt.split (Str.ofString "rest") (Str.ofString " ")=[Str.ofString "rest"]:=by decide+kernel
 rw [h2]at h1;exact hb (Ni (a:= .rest) (b:=b) (List.cons.inj h1).1).symm
structure S6(K:PySem.W.Frag)(D C1 C2 S:Addr)(H1 H:Hp)(d tl sl kn fr:Addr)(LL:List Addr)(ops:List Op)(vl:Str→List Int)(N:Nat)(pr:Bool)(ys:List Str)(cs:List Int):Prop where
 M:DkM K D C1 C2 S H1 H d (kn::fr::sl::tl::LL) (m0.run ops) (1+wts ops)
 lg:Lg m0 ops
 T:Cf H tl ops
 k:Dc H kn LL vl N
 f:Ir H fr (m0.run ops).g N
 nkf:kn≠fr
 ntl:tl∉kn::fr::LL
 nsl:sl∉kn::fr::LL
 nst:sl≠tl
 s:H sl=some (.lst (cs.map V.int))
 cv:CvG (fun y=>y∈(m0.run ops).R) (m0.run ops).g vl
 on:(m0.run ops).on=true
 pr:(m0.run ops).pr=pr
 ts:(m0.run ops).ts.map (·.1)=ys
section
variable {K:PySem.W.Frag} {D C1 C2 S d tl sl kn fr:Addr} {H H1 H2 H3 H4:Hp} {LL LL':List Addr} {ops:List Op} {vl:Str→List Int} {N:Nat} {pr:Bool} {ys:List Str} {cs:List Int} {b:W85} {z:Str} {v:Int}
theorem S6.mem(h:S6 K D C1 C2 S H1 H d tl sl kn fr LL ops vl N pr ys cs){c:Addr}(hc:c∈kn::fr::LL):c∈kn::fr::sl::tl::LL∧c≠tl:=by
 refine ⟨?_,fun e=>h.ntl (e▸hc)⟩;rcases Fh.mp hc with k | hc
 · rw [k];simp
 · rcases Fh.mp hc with k | k
   · rw [k];simp
   · simp [k]
theorem S6.deed(h:S6 K D C1 C2 S H1 H d tl sl kn fr LL ops vl N pr ys cs)(hb:U8 b)(M2:DkM K D C1 C2 S H1 H2 d (kn::fr::sl::tl::LL) (m0.run (ops++[.deed b z v])) (1+wts ops+wt (.deed b z v)))(lg2:Lg m0 (ops++[.deed b z v]))(T2:Cf H2 tl (ops++[.deed b z v]))
 (k2:∀c∈kn::fr::sl::tl::LL,c≠tl→∀o,H c=some o→H2 c=some o) (sm:A9 H2 H3) (o:Off (kn::fr::LL) H3 H4) (mm:∀c∈LL',c∈LL∨H3 c=none) (k4:Dc H4 kn LL' (goL b vl z v) (N+1)) (f4:Ir H4 fr ((m0.run ops).nxt (.deed b z v)).g (N+1)):
 S6 K D C1 C2 S H1 H4 d tl sl kn fr LL' (ops++[.deed b z v]) (goL b vl z v) (N+1) pr ys cs:=by
 have M3:=M2.same sm;have s3:H3 sl=some (.lst (cs.map V.int)):=sm _ _ (k2 sl (by simp) h.nst _ h.s);obtain ⟨rs,t1,t2,t3⟩:=id T2;have tt3:=sm _ _ t1
 have nt':∀c∈LL',c≠tl∧c≠sl:=fun c hc=>by
  rcases mm c hc with j | j
  · exact ⟨fun e=>h.ntl (e▸(by simp [j])),fun e=>h.nsl (e▸(by simp [j]))⟩
  · exact ⟨fun e=>(by rw [e,tt3]at j;cases j),fun e=>(by rw [e,s3]at j;cases j)⟩
 have hlk:∀c∈kn::fr::LL,LD H3 c:=fun c hc=>M3.ld c (h.mem hc).1
 have ntup:∀c e,H3 c=some (.tup e)→c∉kn::fr::LL:=fun c e j hc=>by
  rcases hlk c hc with ⟨kv,i⟩ | ⟨xs,i⟩ <;> rw [i]at j <;> cases j
 have s4:=o _ _ s3 h.nsl
 have M4:DkM K D C1 C2 S H1 H4 d (kn::fr::sl::tl::LL') (m0.run (ops++[.deed b z v])) (1+wts ops+wt (.deed b z v)):=M3.moved (fun c u e n=>o c u e fun j=>n (h.mem j).1) (fun c hc=>by
  simp only [Fh]at hc ⊢;rcases hc with j | j | j | j | j
  · exact .inl (.inl j)
  · exact .inl (.inr (.inl j))
  · exact .inl (.inr (.inr (.inl j)))
  · exact .inl (.inr (.inr (.inr (.inl j))))
  · exact (mm c j).imp (fun j=> .inr (.inr (.inr (.inr j)))) id) fun c hc=>by
  simp only [Fh]at hc;rcases hc with j | j | j | j | j
  · obtain ⟨kvs,la,e,_⟩:=k4.ex
    rw [j];exact .inl ⟨_,e⟩
  · obtain ⟨kf,e,_⟩:=id f4
    rw [j];exact .inl ⟨_,e⟩
  · rw [j];exact .inr ⟨_,s4⟩
  · rw [j];exact .inr ⟨_,o _ _ tt3 h.ntl⟩
  · exact .inr (k4.ld c j)
 have er:m0.run (ops++[.deed b z v])=(m0.run ops).nxt (.deed b z v):=Cu
 have on':(m0.run (ops++[.deed b z v])).on=true:=by rw [er];exact h.on
 have hr:=(M4.row on').2.2.1;refine ⟨by rw [E9,← Rj];exact M4,lg2,(T2.kp (fun o=>sm _ o) fun c e=>sm _ _).kp (fun u e=>o _ _ e h.ntl) (fun c e j=>o _ _ j (ntup c e j)),k4,by rw [er];exact f4,h.nkf,fun j=>?_,fun j=>?_,h.nst,s4,?_,on',by rw [er];exact h.pr,by rw [er];exact h.ts⟩
 · simp only [Fh]at j
   rcases j with j | j | j
   · exact h.ntl (by rw [j];simp)
   · exact h.ntl (by rw [j];simp)
   · exact (nt' _ j).1 rfl
 · simp only [Fh]at j
   rcases j with j | j | j
   · exact h.nsl (by rw [j];simp)
   · exact h.nsl (by rw [j];simp)
   · exact (nt' _ j).2 rfl
 · rw [er]at hr ⊢
   exact h.cv.go hb h.M.np hr
theorem S6.more(h:S6 K D C1 C2 S H1 H d tl sl kn fr LL ops vl N pr ys cs){os:List Op}(er:m0.run os=m0.run ops)(ew:wts os=wts ops)(k2:∀c∈kn::fr::sl::tl::LL,c≠tl→∀o,H c=some o→H2 c=some o)(M2:DkM K D C1 C2 S H1 H2 d (kn::fr::sl::tl::LL) (m0.run os) (1+wts ops))(lg2:Lg m0 os)(T2:Cf H2 tl os):S6 K D C1 C2 S H1 H2 d tl sl kn fr LL os vl N pr ys cs:=
 ⟨by rw [ew];exact M2,lg2,T2,h.k.kp fun c hc=>k2 c (h.mem (by rcases Fh.mp hc with j | j <;> simp [j])).1 (h.mem (by rcases Fh.mp hc with j | j <;> simp [j])).2,by rw [er];exact h.f.kp (k2 fr (by simp) fun e=>h.ntl (by rw [← e];simp)),h.nkf,h.ntl,h.nsl,h.nst,k2 sl (by simp) h.nst _ h.s,by rw [er];exact h.cv,by rw [er];exact h.on,by rw [er];exact h.pr,by rw [er];exact h.ts⟩
theorem S6.same(h:S6 K D C1 C2 S H1 H d tl sl kn fr LL ops vl N pr ys cs)(sm:A9 H H2):S6 K D C1 C2 S H1 H2 d tl sl kn fr LL ops vl N pr ys cs:=
 ⟨h.M.same sm,h.lg,h.T.kp (fun o=>sm _ o) fun c e=>sm _ _,h.k.same sm,h.f.kp fun o=>sm _ o,h.nkf,h.ntl,h.nsl,h.nst,sm _ _ h.s,h.cv,h.on,h.pr,h.ts⟩
theorem S6.fresh{zs:List Int}(M:DkM K D C1 C2 S H1 H d (kn::fr::sl::tl::[]) (m0.run ops) (1+wts ops))(lg:Lg m0 ops)(T:Cf H tl ops)(ek:H kn=some (.dK []))(ef:H fr=some (.dK []))(nkf:kn≠fr)(nst:sl≠tl)(s:H sl=some (.lst (cs.map V.int))){ts:List Th}(er:m0.run ops=⟨ts,true,pr,zs,[],g0⟩)(hts:ts.map (·.1)=ys):S6 K D C1 C2 S H1 H d tl sl kn fr [] ops (fun _=>[]) 0 pr ys cs:=by
 obtain ⟨rs,t1,_⟩:=id T;refine ⟨M,lg,T,J66 ek,⟨[],ef,Fe _,fun y hy=>by rw [er]at hy;cases hy⟩,nkf,fun j=>?_,fun j=>?_,nst,s,by rw [er];exact J8y,by rw [er],by rw [er],by rw [er];exact hts⟩
 · simp only [Fh,FR,or_false]at j
   rcases j with j | j
   · rw [j,ek]at t1;cases t1
   · rw [j,ef]at t1;cases t1
 · simp only [Fh,FR,or_false]at j
   rcases j with j | j
   · rw [j,ek]at s;cases s
   · rw [j,ef]at s;cases s
end
end N96
namespace L2
section
variable {A B C D F G H I J K L M N O Q R:Sort _} {Z:Prop}
theorem x1{p:A→Prop}(e:∃a,p a)(z:∀a,p a→Z):Z:=e.elim z
theorem x2{p:A→B→Prop}(e:∃a b,p a b)(z:∀a b,p a b→Z):Z:=e.elim fun a e=>x1 e (z a)
theorem x3{p:A→B→C→Prop}(e:∃a b c,p a b c)(z:∀a b c,p a b c→Z):Z:=e.elim fun a e=>x2 e (z a)
theorem x4{p:A→B→C→D→Prop}(e:∃a b c d,p a b c d)(z:∀a b c d,p a b c d→Z):Z:=e.elim fun a e=>x3 e (z a)
theorem x5{p:A→B→C→D→F→Prop}(e:∃a b c d f,p a b c d f)(z:∀a b c d f,p a b c d f→Z):Z:=e.elim fun a e=>x4 e (z a)
theorem x6{p:A→B→C→D→F→G→Prop}(e:∃a b c d f g,p a b c d f g)(z:∀a b c d f g,p a b c d f g→Z):Z:=e.elim fun a e=>x5 e (z a)
theorem x7{p:A→B→C→D→F→G→H→Prop}(e:∃a b c d f g h,p a b c d f g h)(z:∀a b c d f g h,p a b c d f g h→Z):Z:=e.elim fun a e=>x6 e (z a)
theorem x8{p:A→B→C→D→F→G→H→I→Prop}(e:∃a b c d f g h i,p a b c d f g h i)(z:∀a b c d f g h i,p a b c d f g h i→Z):Z:=e.elim fun a e=>x7 e (z a)
theorem x9{p:A→B→C→D→F→G→H→I→J→Prop}(e:∃a b c d f g h i j,p a b c d f g h i j)(z:∀a b c d f g h i j,p a b c d f g h i j→Z):Z:=e.elim fun a e=>x8 e (z a)
theorem x10{p:A→B→C→D→F→G→H→I→J→K→Prop}(e:∃a b c d f g h i j k,p a b c d f g h i j k)(z:∀a b c d f g h i j k,p a b c d f g h i j k→Z):Z:=e.elim fun a e=>x9 e (z a)
theorem x11{p:A→B→C→D→F→G→H→I→J→K→L→Prop}(e:∃a b c d f g h i j k l,p a b c d f g h i j k l)(z:∀a b c d f g h i j k l,p a b c d f g h i j k l→Z):Z:=e.elim fun a e=>x10 e (z a)
theorem x12{p:A→B→C→D→F→G→H→I→J→K→L→M→Prop}(e:∃a b c d f g h i j k l m,p a b c d f g h i j k l m)(z:∀a b c d f g h i j k l m,p a b c d f g h i j k l m→Z):Z:=e.elim fun a e=>x11 e (z a)
theorem x13{p:A→B→C→D→F→G→H→I→J→K→L→M→N→Prop}(e:∃a b c d f g h i j k l m n,p a b c d f g h i j k l m n)(z:∀a b c d f g h i j k l m n,p a b c d f g h i j k l m n→Z):Z:=e.elim fun a e=>x12 e (z a)
theorem v2{p:A→B→Prop}(a:A)(b:B)(e:p a b):∃a b,p a b:=⟨a,b,e⟩
theorem v3{p:A→B→C→Prop}(a:A)(b:B)(c:C)(e:p a b c):∃a b c,p a b c:=⟨a,v2 b c e⟩
theorem v4{p:A→B→C→D→Prop}(a:A)(b:B)(c:C)(d:D)(e:p a b c d):∃a b c d,p a b c d:=⟨a,v3 b c d e⟩
theorem v5{p:A→B→C→D→F→Prop}(a:A)(b:B)(c:C)(d:D)(f:F)(e:p a b c d f):∃a b c d f,p a b c d f:=⟨a,v4 b c d f e⟩
theorem v6{p:A→B→C→D→F→G→Prop}(a:A)(b:B)(c:C)(d:D)(f:F)(g:G)(e:p a b c d f g):∃a b c d f g,p a b c d f g:=⟨a,v5 b c d f g e⟩
theorem v7{p:A→B→C→D→F→G→H→Prop}(a:A)(b:B)(c:C)(d:D)(f:F)(g:G)(h:H)(e:p a b c d f g h):∃a b c d f g h,p a b c d f g h:=⟨a,v6 b c d f g h e⟩
theorem v8{p:A→B→C→D→F→G→H→I→Prop}(a:A)(b:B)(c:C)(d:D)(f:F)(g:G)(h:H)(i:I)(e:p a b c d f g h i):∃a b c d f g h i,p a b c d f g h i:=⟨a,v7 b c d f g h i e⟩
theorem v9{p:A→B→C→D→F→G→H→I→J→Prop}(a:A)(b:B)(c:C)(d:D)(f:F)(g:G)(h:H)(i:I)(j:J)(e:p a b c d f g h i j):∃a b c d f g h i j,p a b c d f g h i j:=⟨a,v8 b c d f g h i j e⟩
theorem v10{p:A→B→C→D→F→G→H→I→J→K→Prop}(a:A)(b:B)(c:C)(d:D)(f:F)(g:G)(h:H)(i:I)(j:J)(k:K)(e:p a b c d f g h i j k):∃a b c d f g h i j k,p a b c d f g h i j k:=⟨a,v9 b c d f g h i j k e⟩
variable {V:Type} {v:List V} {t:Nat}
theorem n0{f:List V}{p:Prop}(e:v=f∧p)(z:f.length=t):v.length=t:=e.1▸z
theorem n1{u:A→List V}{p:A→Prop}(e:∃a,v=u a∧p a)(z:∀a,(u a).length=t):v.length=t:=e.elim fun a e=>n0 e (z a)
theorem n2{u:A→B→List V}{p:A→B→Prop}(e:∃a b,v=u a b∧p a b)(z:∀a b,(u a b).length=t):v.length=t:=e.elim fun a e=>n1 e (z a)
theorem n3{u:A→B→C→List V}{p:A→B→C→Prop}(e:∃a b c,v=u a b c∧p a b c)(z:∀a b c,(u a b c).length=t):v.length=t:=e.elim fun a e=>n2 e (z a)
theorem n4{u:A→B→C→D→List V}{p:A→B→C→D→Prop}(e:∃a b c d,v=u a b c d∧p a b c d)(z:∀a b c d,(u a b c d).length=t):v.length=t:=e.elim fun a e=>n3 e (z a)
theorem n5{u:A→B→C→D→F→List V}{p:A→B→C→D→F→Prop}(e:∃a b c d f,v=u a b c d f∧p a b c d f)(z:∀a b c d f,(u a b c d f).length=t):v.length=t:=e.elim fun a e=>n4 e (z a)
theorem n6{u:A→B→C→D→F→G→List V}{p:A→B→C→D→F→G→Prop}(e:∃a b c d f g,v=u a b c d f g∧p a b c d f g)(z:∀a b c d f g,(u a b c d f g).length=t):v.length=t:=e.elim fun a e=>n5 e (z a)
theorem n7{u:A→B→C→D→F→G→H→List V}{p:A→B→C→D→F→G→H→Prop}(e:∃a b c d f g h,v=u a b c d f g h∧p a b c d f g h)(z:∀a b c d f g h,(u a b c d f g h).length=t):v.length=t:=e.elim fun a e=>n6 e (z a)
theorem n8{u:A→B→C→D→F→G→H→I→List V}{p:A→B→C→D→F→G→H→I→Prop}(e:∃a b c d f g h i,v=u a b c d f g h i∧p a b c d f g h i)(z:∀a b c d f g h i,(u a b c d f g h i).length=t):v.length=t:=e.elim fun a e=>n7 e (z a)
theorem n9{u:A→B→C→D→F→G→H→I→J→List V}{p:A→B→C→D→F→G→H→I→J→Prop}(e:∃a b c d f g h i j,v=u a b c d f g h i j∧p a b c d f g h i j)(z:∀a b c d f g h i j,(u a b c d f g h i j).length=t):v.length=t:=e.elim fun a e=>n8 e (z a)
theorem n10{u:A→B→C→D→F→G→H→I→J→K→List V}{p:A→B→C→D→F→G→H→I→J→K→Prop}(e:∃a b c d f g h i j k,v=u a b c d f g h i j k∧p a b c d f g h i j k)(z:∀a b c d f g h i j k,(u a b c d f g h i j k).length=t):v.length=t:=e.elim fun a e=>n9 e (z a)
theorem n11{u:A→B→C→D→F→G→H→I→J→K→L→List V}{p:A→B→C→D→F→G→H→I→J→K→L→Prop}(e:∃a b c d f g h i j k l,v=u a b c d f g h i j k l∧p a b c d f g h i j k l)(z:∀a b c d f g h i j k l,(u a b c d f g h i j k l).length=t):v.length=t:=e.elim fun a e=>n10 e (z a)
theorem n12{u:A→B→C→D→F→G→H→I→J→K→L→M→List V}{p:A→B→C→D→F→G→H→I→J→K→L→M→Prop}(e:∃a b c d f g h i j k l m,v=u a b c d f g h i j k l m∧p a b c d f g h i j k l m)(z:∀a b c d f g h i j k l m,(u a b c d f g h i j k l m).length=t):v.length=t:=e.elim fun a e=>n11 e (z a)
theorem n13{u:A→B→C→D→F→G→H→I→J→K→L→M→N→List V}{p:A→B→C→D→F→G→H→I→J→K→L→M→N→Prop}(e:∃a b c d f g h i j k l m n,v=u a b c d f g h i j k l m n∧p a b c d f g h i j k l m n)(z:∀a b c d f g h i j k l m n,(u a b c d f g h i j k l m n).length=t):v.length=t:=e.elim fun a e=>n12 e (z a)
end
section
variable {A B C D F G H I J K L M N O Q R S T U W X Y Z:Prop}
theorem y2(e:A∧B)(z:A→B→Z):Z:=z e.1 e.2
theorem y3(e:A∧B∧C)(z:A→B→C→Z):Z:=y2 e.2 (z e.1)
theorem y4(e:A∧B∧C∧D)(z:A→B→C→D→Z):Z:=y3 e.2 (z e.1)
theorem y5(e:A∧B∧C∧D∧F)(z:A→B→C→D→F→Z):Z:=y4 e.2 (z e.1)
theorem y6(e:A∧B∧C∧D∧F∧G)(z:A→B→C→D→F→G→Z):Z:=y5 e.2 (z e.1)
theorem y7(e:A∧B∧C∧D∧F∧G∧H)(z:A→B→C→D→F→G→H→Z):Z:=y6 e.2 (z e.1)
theorem y8(e:A∧B∧C∧D∧F∧G∧H∧I)(z:A→B→C→D→F→G→H→I→Z):Z:=y7 e.2 (z e.1)
theorem y9(e:A∧B∧C∧D∧F∧G∧H∧I∧J)(z:A→B→C→D→F→G→H→I→J→Z):Z:=y8 e.2 (z e.1)
theorem y10(e:A∧B∧C∧D∧F∧G∧H∧I∧J∧K)(z:A→B→C→D→F→G→H→I→J→K→Z):Z:=y9 e.2 (z e.1)
theorem y11(e:A∧B∧C∧D∧F∧G∧H∧I∧J∧K∧L)(z:A→B→C→D→F→G→H→I→J→K→L→Z):Z:=y10 e.2 (z e.1)
theorem y12(e:A∧B∧C∧D∧F∧G∧H∧I∧J∧K∧L∧M)(z:A→B→C→D→F→G→H→I→J→K→L→M→Z):Z:=y11 e.2 (z e.1)
theorem y13(e:A∧B∧C∧D∧F∧G∧H∧I∧J∧K∧L∧M∧N)(z:A→B→C→D→F→G→H→I→J→K→L→M→N→Z):Z:=y12 e.2 (z e.1)
theorem y14(e:A∧B∧C∧D∧F∧G∧H∧I∧J∧K∧L∧M∧N∧O)(z:A→B→C→D→F→G→H→I→J→K→L→M→N→O→Z):Z:=y13 e.2 (z e.1)
theorem y15(e:A∧B∧C∧D∧F∧G∧H∧I∧J∧K∧L∧M∧N∧O∧Q)(z:A→B→C→D→F→G→H→I→J→K→L→M→N→O→Q→Z):Z:=y14 e.2 (z e.1)
theorem y16(e:A∧B∧C∧D∧F∧G∧H∧I∧J∧K∧L∧M∧N∧O∧Q∧R)(z:A→B→C→D→F→G→H→I→J→K→L→M→N→O→Q→R→Z):Z:=y15 e.2 (z e.1)
theorem y17(e:A∧B∧C∧D∧F∧G∧H∧I∧J∧K∧L∧M∧N∧O∧Q∧R∧S)(z:A→B→C→D→F→G→H→I→J→K→L→M→N→O→Q→R→S→Z):Z:=y16 e.2 (z e.1)
end
end L2
open PySem PySem.W PyProof.Rows
namespace L2
structure Bs(P:Program)(w:World)(K:PySem.W.Frag)(mg:Str→Option Value)(base:Heap):Prop where
 ex:∃h:Heap,K.In h∧h.Ns mainGlobals mg
theorem lc{α:Type}{us:List α}{n:Nat}(h:us.length=n+1):∃u r,us=u::r∧r.length=n:=by
 cases us with
 | nil=>cases h
 | cons u r=>exact ⟨u,r,rfl,Nat.succ.inj h⟩
theorem l0{α:Type}{us:List α}(h:us.length=0):us=[]:=by
 cases us with
 | nil=>rfl
 | cons u r=>cases h
section
variable {P:Program} {w:World} {K:PySem.W.Frag} {mg:Str→Option Value} {base:Heap} {CX:CXT} {k:Nat} {sp:Sp} {ps:List Str} {x qual n p1 p2 p3 p4 p5 p6 p7:Str} {st:Stmt} {f C:Addr} {fd:FuncData}
theorem Fun.d(F:Fun K x qual st f fd)(B:Bs P w K mg base)(a:PySem.W.nsIn K mainGlobals x=some (some (.ref f)))(o:Ar P w K mg base CX k f fd ps sp)(b:D7 K fd ps []):Def P w K mg base CX k x ps sp:=
 let ⟨_,X,G⟩:=B.ex;⟨f,fd,o,PySem.W.mg_of X G a,F.kp,b⟩
theorem Fun.m(F:Fun K x qual st f fd)(B:Bs P w K mg base)(M:J2p K C x f)(o:Ar P w K mg base CX k f fd ps sp)(b:D7 K fd ps []):Ca P w K mg base CX k C x ps sp:=
 ⟨f,fd,o,M,b⟩
theorem Fun.i(F:Fun K x qual st f fd)(B:Bs P w K mg base)(M:Mk K C f)(a:PySem.W.nsIn K mainGlobals n=some (some (.ref C)))(o:Ar P w K mg base CX k f fd ps sp)(b:D7 K fd ps []):Qq P w K mg base CX k n C ps sp:=
 let ⟨_,X,G⟩:=B.ex;⟨f,fd,o,M,PySem.W.mg_of X G a,b⟩
theorem Fun.e1(F:Fun K x qual st f fd)(h:∀(kV doc pm:Value) (an:Option Addr) (cdv ct u:Value),bindArgs (PySem.W.fnOf x qual (Dg st) (D2 st) (A7 st) .none kV doc pm an cdv ct) ⟨[u],[]⟩=pure [(p1,u)]):D7 K fd [p1] []:=
 F.binds (ps:=[p1]) fun kV doc pm an cdv ct us hl=>by
  obtain ⟨u,us,rfl,h1⟩:=lc hl;cases l0 h1;exact h kV doc pm an cdv ct u
theorem Fun.e2(F:Fun K x qual st f fd)(h:∀(kV doc pm:Value) (an:Option Addr) (cdv ct u v:Value),bindArgs (PySem.W.fnOf x qual (Dg st) (D2 st) (A7 st) .none kV doc pm an cdv ct) ⟨[u,v],[]⟩=pure [(p1,u),(p2,v)]):D7 K fd [p1,p2] []:=
 F.binds (ps:=[p1,p2]) fun kV doc pm an cdv ct us hl=>by
  obtain ⟨u,us,rfl,h1⟩:=lc hl;obtain ⟨v,us,rfl,h2⟩:=lc h1;cases l0 h2;exact h kV doc pm an cdv ct u v
theorem Fun.e3(F:Fun K x qual st f fd)(h:∀(kV doc pm:Value) (an:Option Addr) (cdv ct u v w:Value),bindArgs (PySem.W.fnOf x qual (Dg st) (D2 st) (A7 st) .none kV doc pm an cdv ct) ⟨[u,v,w],[]⟩=pure [(p1,u),(p2,v),(p3,w)]):D7 K fd [p1,p2,p3] []:=
 F.binds (ps:=[p1,p2,p3]) fun kV doc pm an cdv ct us hl=>by
  obtain ⟨u,us,rfl,h1⟩:=lc hl;obtain ⟨v,us,rfl,h2⟩:=lc h1;obtain ⟨w,us,rfl,h3⟩:=lc h2;cases l0 h3;exact h kV doc pm an cdv ct u v w
theorem Fun.e4(F:Fun K x qual st f fd)(h:∀(kV doc pm:Value) (an:Option Addr) (cdv ct u v w y:Value),bindArgs (PySem.W.fnOf x qual (Dg st) (D2 st) (A7 st) .none kV doc pm an cdv ct) ⟨[u,v,w,y],[]⟩=pure [(p1,u),(p2,v),(p3,w),(p4,y)]):D7 K fd [p1,p2,p3,p4] []:=
 F.binds (ps:=[p1,p2,p3,p4]) fun kV doc pm an cdv ct us hl=>by
  obtain ⟨u,us,rfl,h1⟩:=lc hl;obtain ⟨v,us,rfl,h2⟩:=lc h1;obtain ⟨w,us,rfl,h3⟩:=lc h2;obtain ⟨y,us,rfl,h4⟩:=lc h3;cases l0 h4;exact h kV doc pm an cdv ct u v w y
theorem Fun.e5(F:Fun K x qual st f fd)(h:∀(kV doc pm:Value) (an:Option Addr) (cdv ct u v w y z:Value),bindArgs (PySem.W.fnOf x qual (Dg st) (D2 st) (A7 st) .none kV doc pm an cdv ct) ⟨[u,v,w,y,z],[]⟩=pure [(p1,u),(p2,v),(p3,w),(p4,y),(p5,z)]):D7 K fd [p1,p2,p3,p4,p5] []:=
 F.binds (ps:=[p1,p2,p3,p4,p5]) fun kV doc pm an cdv ct us hl=>by
  obtain ⟨u,us,rfl,h1⟩:=lc hl;obtain ⟨v,us,rfl,h2⟩:=lc h1;obtain ⟨w,us,rfl,h3⟩:=lc h2;obtain ⟨y,us,rfl,h4⟩:=lc h3;obtain ⟨z,us,rfl,h5⟩:=lc h4;cases l0 h5;exact h kV doc pm an cdv ct u v w y z
end
abbrev Gf(K:PySem.W.Frag)(x:Str)(st:Stmt):Prop:=∃(f:Addr) (fd:FuncData),PySem.W.nsIn K mainGlobals x=some (some (.ref f))∧Fun K x x st f fd
abbrev Gm(K:PySem.W.Frag)(C:Addr)(x q:Str)(st:Stmt):Prop:=∃(f:Addr) (fd:FuncData),J2p K C x f∧Fun K x q st f fd
abbrev Gi(K:PySem.W.Frag)(C:Addr)(q:Str)(st:Stmt):Prop:=∃(f:Addr) (fd:FuncData),Mk K C f∧Fun K "__init__" q st f fd
abbrev Gc(K:PySem.W.Frag)(x:Str)(C:Addr):Prop:=PySem.W.nsIn K mainGlobals x=some (some (.ref C))
abbrev Gn(K:PySem.W.Frag)(C:Addr)(x:Str):Prop:=PySem.W.findIn K (.ref C) x=some none
section
variable {P:Program} {w:World} {K:PySem.W.Frag} {mg:Str→Option Value} {base:Heap} {CX:CXT} {k:Nat} {sp:Sp} {ps:List Str} {x q n:Str} {st:Stmt} {C:Addr}
theorem Gf.d(F:Gf K x st)(B:Bs P w K mg base)(o:∀{f fd},Fun K x x st f fd→Ar P w K mg base CX k f fd ps sp)(b:∀{f fd},Fun K x x st f fd→D7 K fd ps []:=by walk_at "bd"):Def P w K mg base CX k x ps sp:=
 let ⟨_,_,a,G⟩:=F;G.d B a (o G) (b G)
theorem Gm.m(F:Gm K C x q st)(B:Bs P w K mg base)(o:∀{f fd},Fun K x q st f fd→Ar P w K mg base CX k f fd ps sp)(b:∀{f fd},Fun K x q st f fd→D7 K fd ps []:=by walk_at "bd"):Ca P w K mg base CX k C x ps sp:=
 let ⟨_,_,a,G⟩:=F;G.m B a (o G) (b G)
theorem Gi.i(F:Gi K C q st)(B:Bs P w K mg base)(a:Gc K n C)(o:∀{f fd},Fun K "__init__" q st f fd→Ar P w K mg base CX k f fd ps sp)(b:∀{f fd},Fun K "__init__" q st f fd→D7 K fd ps []:=by walk_at "bd"):Qq P w K mg base CX k n C ps sp:=
 let ⟨_,_,M,G⟩:=F;G.i B M a (o G) (b G)
end
theorem J8z{n:Str}{N:List Str}{v:V}{vs:List V}:start (n::N) (v::vs)=some v::start N vs:=by
 simp [start]
theorem J90{n:Str}{N:List Str}:start (n::N) []=none::start N []:=rfl
theorem J91:start [] []=[]:=rfl
end L2
namespace K96
open L2 N1 N5 N4 N6 N12 N71 N74 N76 N75 N79 NTx N85 N96
local macro_rules | `(tactic| walk_at "rq") => `(tactic| simp only [J09, J0a, J7b, J4b, J4c, J7c, J7d, Uq, J0b, Ur, J7e, J0c, Us, Ut, Qb, Uu, J4d, Uv, J0d, Uw, J0e, J4e, J0f, Ux, J0g, Uy, J4f, J4g, J4h, J4i, J0h, J0i, J0j, Qc, Uz, Qd, V0, V1, Qe, V2, V3, Qf, V4, V5, scal, V7, V8, J4l, O5, V9, J0p, J0q, J4m, J0r, Va, Vb, Vc, Ql, J0s, Vd, Ve, Qm, Vf, J0t, Vg, Qn, true_implies, false_implies, Bool.false_and, Bool.true_and, Bool.and_true, Bool.and_false, Bool.false_or, Bool.true_or, Bool.or_true, Bool.or_false, J0y, J0z, Qr, Qs, J10, Vh, J11, O7, Ma, Vi, Vj, J0w, O6, Qo, J4n, Int.zero_add, Int.toNat_natCast, P0, List.map_cons, List.map_nil, List.getD_cons_zero, List.getD_cons_succ, J08, List.length_cons, List.length_nil, List.getElem?_cons_zero, List.getElem?_cons_succ, List.set_cons_zero, List.set_cons_succ, Option.some.injEq, V.int.injEq, V.bl.injEq, V.str.injEq, V.ref.injEq, V.ty.injEq, exists_eq_left', exists_eq_left, exists_and_left, exists_eq, exists_eq', List.cons.injEq, and_true, true_and, decide_eq_true_eq, Bool.not_eq_true', decide_eq_false_iff_not, reduceCtorEq, exists_const, Bool.true_eq_false, Bool.false_eq_true, if_true, if_false, ite_true, ite_false, Bool.not_true, Bool.not_false, decide_true, decide_false, Bool.not_not, false_and, and_false, exists_false, false_or, or_false, true_or, or_true, and_assoc, not_true_eq_false, not_false_eq_true, Int.reduceToNat, Nat.reduceAdd, Mb, Mc, Gj, My, G0, Iw, Iy, Sb, Iz, Sj, Qx, Oa, Vn, Ob, Qv, Qw, Oh, J1n, On, J1o, Vz, Sd, Se, Pl, N2, Cr, D9, Gp, Gq, Gk, J1m, W4, Vt, Ll, W0, J1k, Do, Da, Ei, Ej, Ct, Dq, N9, Ma, Sq, Nc, D4, Dr, Ds, Dt, D5, Du, Ek, D6, Os, Ot, Ou, Lm, Ov, Lo, W8, J1t, J1u, So, Wb, Wc, Sx, Me, Gw, K2, K3, Gu, K4, K5, Mg, E4, Es, C0, Et, Eu, E5, Ew, E6, Dl, E7, E8, Ku, Sf, Vw, Sy, W7, Mr, Sz, Wl, Wk, N36.Gx, K7, Gy, K8, Gz, G4, Ia, K9, Ef, Ib])
local macro_rules | `(tactic| walk_at "rd") => `(tactic| first | (dsimp only [J09, J0a, J7b, J4b, J4c, J7c, J7d, Uq, J0b, Ur, J7e, J0c, Us, Ut, Qb, Uu, J4d, Uv, J0d, Uw, J0e, J4e, J0f, Ux, J0g, Uy, J4f, J4g, J4h, J4i, J0h, J0i, J0j, Qc, Uz, Qd, V0, V1, Qe, V2, V3, Qf, V4, V5, scal, V7, V8, J4l, O5, V9, J0p, J0q, J4m, J0r, Va, Vb, Vc, Ql, J0s, Vd, Ve, Qm, Vf, J0t, Vg, Qn, true_implies, false_implies, Bool.false_and, Bool.true_and, Bool.and_true, Bool.and_false, Bool.false_or, Bool.true_or, Bool.or_true, Bool.or_false, J0y, J0z, Qr, Qs, J10, Vh, J11, O7, Ma, Vi, Vj, J0w, O6, Qo, J4n, Int.zero_add, Int.toNat_natCast, P0, List.map_cons, List.map_nil, List.getD_cons_zero, List.getD_cons_succ, J08, List.length_cons, List.length_nil, List.getElem?_cons_zero, List.getElem?_cons_succ, List.set_cons_zero, List.set_cons_succ, Option.some.injEq, V.int.injEq, V.bl.injEq, V.str.injEq, V.ref.injEq, V.ty.injEq, exists_eq_left', exists_eq_left, exists_and_left, exists_eq, exists_eq', List.cons.injEq, and_true, true_and, decide_eq_true_eq, Bool.not_eq_true', decide_eq_false_iff_not, reduceCtorEq, exists_const, Bool.true_eq_false, Bool.false_eq_true, if_true, if_false, ite_true, ite_false, Bool.not_true, Bool.not_false, decide_true, decide_false, Bool.not_not, false_and, and_false, exists_false, false_or, or_false, true_or, or_true, and_assoc, not_true_eq_false, not_false_eq_true, Int.reduceToNat, Nat.reduceAdd, Mb, Mc, Gj, My, G0, Iw, Iy, Sb, Iz, Sj, Qx, Oa, Vn, Ob, Qv, Qw, Oh, J1n, On, J1o, Vz, Sd, Se, Pl, N2, Cr, D9, Gp, Gq, Gk, J1m, W4, Vt, Ll, W0, J1k, Do, Da, Ei, Ej, Ct, Dq, N9, Ma, Sq, Nc, D4, Dr, Ds, Dt, D5, Du, Ek, D6, Os, Ot, Ou, Lm, Ov, Lo, W8, J1t, J1u, So, Wb, Wc, Sx, Me, Gw, K2, K3, Gu, K4, K5, Mg, E4, Es, C0, Et, Eu, E5, Ew, E6, Dl, E7, E8, Ku, Sf, Vw, Sy, W7, Mr, Sz, Wl, Wk, N36.Gx, K7, Gy, K8, Gz, G4, Ia, K9, Ef, Ib]; try walk_at "rq") | walk_at "rq")
local macro_rules | `(tactic| walk_at "hp") => `(tactic| first | with_reducible assumption | exact A3 | (rw [A4 (by first | with_reducible assumption | exact A6 (by with_reducible assumption) (by with_reducible assumption))]; first | with_reducible assumption | exact A3))
local macro_rules | `(tactic| walk_at "sq") => `(tactic| (repeat' first | with_reducible assumption | exact SqT.of A3 | exact SqL.of A3 | refine' A9.tup (A9.new (by with_reducible assumption)) ?_ | refine' A9.seq (A9.new (by with_reducible assumption)) ?_))
local macro_rules | `(tactic| walk_at "isi") => `(tactic| first | exact Yu | exact Yv | exact Yw | exact J5c | exact J5e | exact Yy | exact J5f | exact Yx | exact J5d | exact Yz | exact J5g | exact J04 (by walk_at "hp") | exact J00 (by walk_at "hp") | exact J07 (by walk_at "hp") | exact J03 (by walk_at "hp") | exact J05 (by walk_at "hp") | exact J01 (by walk_at "hp") | exact J06 (by walk_at "hp") | exact J02 (by walk_at "hp"))
local macro_rules | `(tactic| walk_at "slen") => `(tactic| first | omega | decide +kernel | (refine J5q ?_ ?_ <;> walk_at "slen"))
local macro_rules | `(tactic| walk_at "side") => `(tactic| first | with_reducible assumption | with_reducible exact M7 (by omega) (by omega) | with_reducible exact Pb (by decide) (by decide) (by decide) | with_reducible exact J5k (by omega) (by omega) | with_reducible exact J0k (by omega) (by omega) | omega | decide | decide +kernel | (have := Eo; omega) | (simp only [Cm, J35, Eo]; omega) | (rw [Eo]; walk_at "slen"; done))
local macro_rules | `(tactic| walk_at "go1") => `(tactic| first | walk_at "rd" | ((with_reducible refine And.intro ?_ ?_); (focus (walk_at "side"; done))) | ((with_reducible apply J5h); (focus (walk_at "isi"; done))) | ((with_reducible apply Ke); (focus (walk_at "sq"; done)); (focus rfl)) | ((with_reducible apply Ck); (focus (walk_at "sq"; done)); (focus rfl)) | ((with_reducible apply J30); (focus (walk_at "sq"; done))) | ((with_reducible apply J2z); (focus (walk_at "sq"; done))) | ((with_reducible apply X9); (focus (walk_at "sq"; done)); (focus (assumption; done))) | ((with_reducible apply J32); (focus (walk_at "sq"; done)); (focus (decide; done)); (focus (assumption; done))) | (intro (_ : List (Addr × PySem.Obj)) (_ : PySem.Value → PySem.Shared → Prop)) | with_reducible refine J5j fun _ _ => ?_ | (refine J31 (by with_reducible assumption) ?_; subst_vars))
local macro_rules | `(tactic| walk_at "go") => `(tactic| repeat walk_at "go1")
def top(i:Nat):Stmt:=PySem.Challenge.pw_castoff_k96_whole_values_by_lines.main.body.getD i (.Pass ⟨0,0,0,0⟩)
structure Txt(K:W.Frag)(mg:Str→Option Value)(xF_thing xF_tower xF_prompt xF_read xF_keep xF_ahead xF_rest xF_store xF_levels xF_found xF_spent xF_again Z2 Z1 Z0 Z5 xanswer_thing xanswer_tower xanswer_prompt xanswer_read xanswer_keep xanswer_ahead xanswer_rest xanswer_store xanswer_levels xanswer_found xanswer_spent xanswer_again Zg Z8:Addr):Prop where
 Z8e:mg "Stock"=some (.ref Z2)
 Za:Cls K Z2
 Zk:B7 K Z2 "things"
 Z8f:mg "Tower"=some (.ref Z1)
 Z4:Cls K Z1
 Z0j:B7 K Z1 "stock"
 Zx:B7 K Z1 "sizes"
 Zs:B7 K Z1 "row"
 Zt:B7 K Z1 "held"
 Z01:B7 K Z1 "late"
 Z0v:B7 K Z1 "store"
 Z0l:B7 K Z1 "entries"
 Z0k:B7 K Z1 "finds"
 Z10:B7 K Z1 "paid"
 Z8d:mg "Prompt"=some (.ref Z0)
 Z3:Cls K Z0
 Z0b:B7 K Z0 "stock"
 Zr:B7 K Z0 "sizes"
 Zl:B7 K Z0 "row"
 Zn:B7 K Z0 "held"
 Z03:B7 K Z0 "late"
 Z0o:B7 K Z0 "store"
 Z0d:B7 K Z0 "entries"
 Z0c:B7 K Z0 "finds"
 Z0w:B7 K Z0 "paid"
 Z8g:mg "Desk"=some (.ref Z5)
 Z02:Cls K Z5
 Z0e:B7 K Z5 "stock"
 Z2x:B7 K Z5 "asks"
 Z0f:B7 K Z5 "tower"
 Z5r:mg "answer_thing"=some (.ref xanswer_thing)
 Z5s:mg "answer_tower"=some (.ref xanswer_tower)
 Z53:mg "answer_prompt"=some (.ref xanswer_prompt)
 Z6r:mg "answer_read"=some (.ref xanswer_read)
 Z6s:mg "answer_keep"=some (.ref xanswer_keep)
 Z5t:mg "answer_ahead"=some (.ref xanswer_ahead)
 Z6t:mg "answer_rest"=some (.ref xanswer_rest)
 Z5u:mg "answer_store"=some (.ref xanswer_store)
 Z54:mg "answer_levels"=some (.ref xanswer_levels)
 Z5v:mg "answer_found"=some (.ref xanswer_found)
 Z5w:mg "answer_spent"=some (.ref xanswer_spent)
 Z5x:mg "answer_again"=some (.ref xanswer_again)
 Z7j:mg "FORMS"=some (.ref Zg)
 Z7z:mg "ANSWERS"=some (.ref Z8)
 Zh:mg "len"=none
 Z0p:mg "isinstance"=none
 Z4n:mg "int"=none
 Z76:mg "bool"=none
 Z14:mg "str"=none
 Z32:mg "list"=none
 Z7m:mg "all"=none
 Z21:mg "range"=none
 Z75:mg "sum"=none
 Z2y:mg "enumerate"=none
 Z87:mg "abs"=none
 Z7n:mg "max"=none
 Z7o:mg "zip"=none
 Z5y:mg "tuple"=none
 Z3z:∃t,mg "LETTERS"=some (.str "abcdefghijklmnopqrstuvwxyz" t)
 Z40:∃t,mg "FIGURES"=some (.str "0123456789" t)
 Z3r:∃t,mg "MOST_SIGNS"=some (.int 8 t)
 Z34:∃t,mg "MOST_THINGS"=some (.int 60 t)
 Z43:∃t,mg "MOST_ROOM"=some (.int 1000 t)
 Z35:∃t,mg "MOST_PLACES"=some (.int 1000000 t)
 Z2e:∃t,mg "MOST_SHELVES"=some (.int 6 t)
 Z2f:∃t,mg "MOST_FIGURES"=some (.int 31 t)
local macro_rules | `(tactic| walk_at "sc") => `(tactic| exact ⟨rfl, rfl, rfl, by decide +kernel, rfl, by decide +kernel, by decide +kernel⟩)
local macro_rules | `(tactic| walk_at "su") => `(tactic| simp only [J8z, J90, J91])
set_option hygiene false in
local macro_rules | `(tactic| walk_at "st") => `(tactic| (walk_at "su"; have line := Eo))
local macro_rules | `(tactic| walk_at "bd") => `(tactic| (intro _ _ F; first | (refine F.e1 ?_; exact fun _ _ _ _ _ _ _ => rfl) | (refine F.e2 ?_; exact fun _ _ _ _ _ _ _ _ => rfl) | (refine F.e3 ?_; exact fun _ _ _ _ _ _ _ _ _ => rfl) | (refine F.e4 ?_; exact fun _ _ _ _ _ _ _ _ _ _ => rfl) | (refine F.e0 ?_; exact fun _ _ _ _ _ _ => rfl) | (refine F.e5 ?_; exact fun _ _ _ _ _ _ _ _ _ _ _ => rfl) | (refine F.e6 ?_; exact fun _ _ _ _ _ _ _ _ _ _ _ _ => rfl)))
section
variable {P:Program} {w:World} {K:W.Frag} {mg:Str→Option Value} {base:Heap} {xF_thing xF_tower xF_prompt xF_read xF_keep xF_ahead xF_rest xF_store xF_levels xF_found xF_spent xF_again Z2 Z1 Z0 Z5 xanswer_thing xanswer_tower xanswer_prompt xanswer_read xanswer_keep xanswer_ahead xanswer_rest xanswer_store xanswer_levels xanswer_found xanswer_spent xanswer_again Zg Z8:Addr}
variable {f:Addr} {fd:FuncData} (T:Txt K mg xF_thing xF_tower xF_prompt xF_read xF_keep xF_ahead xF_rest xF_store xF_levels xF_found xF_spent xF_again Z2 Z1 Z0 Z5 xanswer_thing xanswer_tower xanswer_prompt xanswer_read xanswer_keep xanswer_ahead xanswer_rest xanswer_store xanswer_levels xanswer_found xanswer_spent xanswer_again Zg Z8)
set_option hygiene false in
local macro_rules | `(tactic| walk_at "ok") => `(tactic| refine F.ok sc (fun vs H Q E h_ => ?_) (fun cdv A outer s H vs Q E hr h_ => ?_))
set_option hygiene false in
local macro_rules | `(tactic| walk_at "rt") => `(tactic| (rename_i rest hrest; subst hrest))
local macro_rules | `(tactic| walk_at "rs") => `(tactic| (walk_at "rt"; walk_at "go"))
abbrev Z4e:Stmt:=top 34
abbrev Z4f:Stmt:=top 35
abbrev Z49:Stmt:=top 17
abbrev Z44:Stmt:=top 18
abbrev Z36:Stmt:=top 36
abbrev Z3s:Stmt:=As (top 37) 0
abbrev Z37:Stmt:=As (top 37) 1
abbrev Z2g:Stmt:=top 26
abbrev Z1w:Stmt:=As (top 37) 3
abbrev Z1h:Stmt:=As (top 37) 4
abbrev Z22:Stmt:=As (top 37) 5
abbrev Z23:Stmt:=As (top 37) 6
abbrev Z38:Stmt:=top 107
abbrev Z39:Stmt:=top 44
abbrev Z3a:Stmt:=As (top 108) 10
abbrev Z2h:Stmt:=As (top 108) 11
abbrev Z1x:Stmt:=As (top 108) 9
abbrev Z3t:Stmt:=As (top 108) 8
abbrev Z2i:Stmt:=As (top 108) 1
abbrev Z1y:Stmt:=As (top 108) 6
abbrev Z2j:Stmt:=As (top 108) 2
abbrev Z3b:Stmt:=As (top 108) 7
abbrev Z3u:Stmt:=As (top 108) 12
abbrev Z3v:Stmt:=As (top 108) 13
abbrev Z3c:Stmt:=As (top 108) 15
abbrev Z3w:Stmt:=As (top 108) 14
abbrev Z3d:Stmt:=As (top 108) 4
abbrev Z3e:Stmt:=As (top 108) 5
abbrev Z3x:Stmt:=As (top 108) 0
abbrev Z2k:Stmt:=As (top 108) 10
abbrev Z24:Stmt:=As (top 109) 0
abbrev Z1i:Stmt:=As (top 108) 9
abbrev Z3f:Stmt:=As (top 108) 8
abbrev Z25:Stmt:=As (top 108) 1
abbrev Z1j:Stmt:=As (top 108) 6
abbrev Z26:Stmt:=As (top 108) 2
abbrev Z2l:Stmt:=As (top 108) 7
abbrev Z3g:Stmt:=As (top 108) 12
abbrev Z3h:Stmt:=As (top 108) 13
abbrev Z2m:Stmt:=As (top 108) 15
abbrev Z2n:Stmt:=As (top 108) 4
abbrev Z2o:Stmt:=As (top 108) 5
abbrev Z3i:Stmt:=As (top 108) 0
abbrev Z3j:Stmt:=As (top 108) 14
abbrev Z3k:Stmt:=top 41
abbrev Z45:Stmt:=top 99
abbrev Z46:Stmt:=top 100
abbrev Z4a:Stmt:=top 101
abbrev Z47:Stmt:=top 102
abbrev Z48:Stmt:=As (top 163) 0
abbrev Z4b:Stmt:=top 153
abbrev Z2p:Stmt:=top 139
abbrev Z2q:Stmt:=top 141
abbrev Z2r:Stmt:=top 151
abbrev Z27:Stmt:=top 152
abbrev Z3l:Stmt:=top 154
abbrev Z3m:Stmt:=top 155
abbrev Z2s:Stmt:=top 156
abbrev Z3n:Stmt:=top 157
abbrev Z2t:Stmt:=top 158
abbrev Z28:Stmt:=top 159
abbrev Z2u:Stmt:=top 160
abbrev Z2v:Stmt:=top 161
abbrev Z4c:Stmt:=As (top 163) 1
abbrev Z1z:Stmt:=top 164
abbrev Z3y:Stmt:=top 165
abbrev Z4t:Stmt:=top 167
abbrev Z4g:Stmt:=top 168
abbrev Z4u:Stmt:=top 169
abbrev Z4h:Stmt:=top 170
abbrev Z4v:Stmt:=top 171
abbrev Z20:Stmt:=top 172
abbrev Z2w:Stmt:=top 173
abbrev Z4i:Stmt:=top 174
abbrev Z4j:Stmt:=top 175
abbrev Z3o:Stmt:=top 176
include T in
theorem Z7p(F:Fun K "made_of" "made_of" Z4e f fd):Ar P w K mg base CX0 1 f fd ["text","signs"] (Mc):=by
 have sc:Ab ["text","signs"] ["text","signs"] (A7 Z4e):=by walk_at "sc"
 walk_at "ok"
 · exact n2 h_ fun _ _=>rfl
 refine x2 h_ fun z w e_=>y3 e_ fun e0 hz q=>?_;clear e_ h_;subst e0;refine ⟨_,(@A5 _ _ _ (@Ae _ _ _ _ (Ap (J0n rfl) rfl T.Z7m (by first | rfl | decide+kernel) (A0 (G5 "sign" [1] rfl rfl (J5o (pv 0)) (fun b=>(Dx J0v (pv 0) (pv 1) (by with_unfolding_all rfl)))) A2)))),?_⟩;walk_at "su";walk_at "go";refine Tr (fun c=>V.bl (decide (c∈w.cps.toList))) hz (fun b c H' Q' hc sm q'=>?_) fun D hD=>?_
 · walk_at "go"
   exact q'
 · refine ⟨_,rfl,z.cps.toList.map fun c=>decide (c∈w.cps.toList),?_,?_⟩
   · rw [FL];exact SqL.of A3
   · rw [List.all_map];exact q _ (A9.new hD)
variable (Z11:Def P w K mg base CX0 1 "made_of" ["text","signs"] (Mc))
include T Z11 in
theorem Z7q(F:Fun K "is_name" "is_name" Z4f f fd):Ar P w K mg base CX0 2 f fd ["thing"] (Gj K):=by
 have sc:Ab ["thing"] ["thing"] (A7 Z4f):=by walk_at "sc"
 walk_at "ok"
 · exact n1 h_ fun _=>rfl
 refine x1 h_ fun x e_=>y2 e_ fun e0 hx=>?_;clear e_ h_;subst e0
 refine ⟨_,(@A1 _ _ _ _ _ (Az (Dm (Dd (Ap Ez rfl T.Z0p (by first | rfl | decide+kernel) (A0 (pv 0) (A0 (Ls (v:= .ty "str") rfl T.Z14 (by first | rfl | decide+kernel) rfl) A2)))))
  (@A5 _ _ _ (@Ae _ _ _ _ Eb))
  Ag)
  (@A1 _ _ _ _ _ (Az (PW.pt (Ub (Ao Ki (Ap Ed rfl T.Zh FC (A0 (pv 0) A2)) A8 (nomark _)) (T4 (Ao Nq (Ap Ed rfl T.Zh FC (A0 (pv 0) A2)) (Iv rfl T.Z3r) (nomark _)))))
   (@A5 _ _ _ (@Ae _ _ _ _ Eb))
   Ag)
  (@A5 _ _ _ (@Ae _ _ _ _ (Ml (Dx J0v (@Bk _ _ _ _ _ _ _ L9 (pv 0) A8 (fun _ _=>rfl)) (M8 rfl T.Z3z) (by with_unfolding_all rfl)) (Ky (Ad Z11 hr rfl Ac (A0 (pv 0) (A0 (Ah B3 (M8 rfl T.Z3z) (M8 rfl T.Z40)) A2))))))))),?_⟩
 walk_at "su";rcases hx with ⟨z,rfl,hz,q⟩ | ⟨hi,q⟩
 · walk_at "go"
   have hl:=Dh (z:=z);split
   · rename_i h1
     have e:Br z.cps.toList=false:=by unfold Br;rw [FE (show ¬1≤z.cps.toList.length by omega)];rfl
     rw [e]at q;exact q _ (A9.refl H)
   · rename_i h1
     refine ⟨hz,?_⟩;split
     · have e:Br z.cps.toList=false:=by unfold Br;rw [FE (show ¬z.cps.toList.length≤8 by omega),Bool.and_false];rfl
       rw [e]at q;exact q _ (A9.refl H)
     · rename_i h2
       obtain ⟨c,r,hcr⟩:∃c r,z.cps.toList=c::r:=by
        cases h:z.cps.toList with
        | nil=>rw [h]at hl;simp at hl;omega
        | cons c r=>exact ⟨c,r,rfl⟩
       have hn:Br z.cps.toList=(decide (c∈Bh) && z.cps.toList.all fun c=>decide (c∈Bh++Bd)):=by
        unfold Br;rw [FD (show 1≤z.cps.toList.length by omega),FD (show z.cps.toList.length≤8 by omega)];rw [hcr];rfl
       rw [hn]at q;walk_at "go";refine Ld hz (by rw [hcr];exact J7o) ?_;walk_at "go";rw [Qy];split
       · rename_i hc
         rw [FD hc,Bool.true_and]at q;walk_at "go";rw [E3,Qy,Qz];exact q
       · rename_i hc
         rw [FE hc,Bool.false_and]at q;exact q _ (A9.refl H)
 · walk_at "go"
   refine ⟨_,hi,?_⟩;walk_at "go";exact q
variable (Z12:Def P w K mg base CX0 2 "is_name" ["thing"] (Gj K))
include T in
theorem Z7f(F:Fun K "is_whole" "is_whole" Z49 f fd):Ar P w K mg base CX0 1 f fd ["thing"] (G0 K):=by
 have sc:Ab ["thing"] ["thing"] (A7 Z49):=by walk_at "sc"
 walk_at "ok"
 · exact n3 h_ fun _ _ _=>rfl
 refine x3 h_ fun x b c e_=>y4 e_ fun e0 h1 h2 q=>?_;clear e_ h_;subst e0;refine ⟨_,(@A5 _ _ _ (@Ae _ _ _ _ (Ml (Ap Ez rfl T.Z0p (by first | rfl | decide+kernel) (A0 (pv 0) (A0 (Ls (v:= .ty "int") rfl T.Z4n (by first | rfl | decide+kernel) rfl) A2))) (Ky (T7 (Ap Ez rfl T.Z0p (by first | rfl | decide+kernel) (A0 (pv 0) (A0 (Ls (v:= .ty "bool") rfl T.Z76 (by first | rfl | decide+kernel) rfl) A2)))))))),?_⟩;walk_at "su";walk_at "go";refine ⟨_,h1,?_⟩;cases b
 · walk_at "go"
   exact q
 · walk_at "go"
   refine ⟨_,h2 rfl,?_⟩;walk_at "go";exact q
variable (Z3p:Def P w K mg base CX0 1 "is_whole" ["thing"] (G0 K))
include T Z3p in
theorem Z77(F:Fun K "is_within" "is_within" Z44 f fd):Ar P w K mg base CX0 2 f fd ["thing","least","most"] (Iw K):=by
 have sc:Ab ["thing","least","most"] ["thing","least","most"] (A7 Z44):=by walk_at "sc"
 walk_at "ok"
 · exact n3 h_ fun _ _ _=>rfl
 refine x3 h_ fun v lo hi e_=>y3 e_ fun e0 hv q=>?_;clear e_ h_;subst e0;refine ⟨_,(@A5 _ _ _ (@Ae _ _ _ _ (Ml (Ad Z3p hr rfl Ac (A0 (pv 0) A2)) (Ky (Y9 J41 J41 (pv 1) (pv 0) (pv 2)))))),?_⟩;walk_at "su";obtain ⟨b,c,h1,h2,h3,h4⟩:=J3d (K:=K) (H:=H) hv;walk_at "go";refine ⟨b,h1,c,h2,?_⟩;split
 · rename_i h
   obtain ⟨i,rfl⟩:=h3 h;simp only [wIn]at q;walk_at "go";split
   · rename_i h'
     rw [FD h',Bool.true_and]at q;exact q
   · rename_i h'
     rw [FE h',Bool.false_and]at q;exact q
 · rename_i h
   have e:wIn lo hi v=false:=by
    cases v with
    | int i=>exact absurd rfl (h4 (by simpa using h) i)
    | _=>rfl
   rw [e]at q;exact q
variable (Zd:Def P w K mg base CX0 2 "is_within" ["thing","least","most"] (Iw K))
include T Z12 Zd in
theorem Z5z(F:Fun K "check_thing" "check_thing" Z36 f fd):Ar P w K mg base CX0 3 f fd ["name","cost","room","earlier"] (Iy K):=by
 have sc:Ab ["name","cost","room","earlier"] ["name","cost","room","earlier"] (A7 Z36):=by walk_at "sc"
 walk_at "ok"
 · exact n6 h_ fun _ _ _ _ _ _=>rfl
 refine x6 h_ fun n co r e kvs ks e_=>y5 e_ fun e0 he hk hrow q=>?_;clear e_ h_;subst e0
 refine ⟨_,(@A1 _ _ _ _ _ (Az (Dm (Dd (Ad Z12 hr rfl Ac (A0 (pv 0) A2))))
  (@A5 _ _ _ Be)
  Ag)
  (@A1 _ _ _ _ _ (Az (Ih (Lb (C8 hr) (pv 0) (pv 3)))
   (@A5 _ _ _ Be)
   Ag)
  (@A1 _ _ _ _ _ (Az (Dm (Dd (Ad Zd hr rfl Ac (A0 (pv 1) (A0 A8 (A0 (Ah Kc A8 A8) A2))))))
   (@A5 _ _ _ Be)
   Ag)
  (@A5 _ _ _ (Az (Dm (Dd (Ad Zd hr rfl Ac (A0 (pv 2) (A0 A8 (A0 (Iv rfl T.Z43) A2))))))
   (@A5 _ _ _ Be)
   Ag))))),?_⟩
 walk_at "su";obtain ⟨z,c,w,rfl,rfl,rfl,nz,hb,h1,h2,h3,h4⟩:=Od hrow;have line:=Eo;have hz8:=J19 hb;walk_at "go";intro H1 sm1;rw [hb];have he1:=sm1 _ _ he;walk_at "go";refine ⟨_,Cw.k (k:=Sum.inr z) he1,?_⟩;rw [Pj hk,FE nz];walk_at "go";refine ⟨rfl,?_⟩;split
 · rename_i h
   exact absurd h (by rw [Mz h1 h2];decide)
 · walk_at "go"
   refine ⟨rfl,?_⟩;split
   · rename_i h
     exact absurd h (by rw [Mz h3 h4];decide)
   · walk_at "go"
     exact q _ sm1
variable (Z1k:Def P w K mg base CX0 3 "check_thing" ["name","cost","room","earlier"] (Iy K))
include T Z1k in
theorem Z6u(F:Fun K "__init__" "Stock.__init__" Z3s f fd):Ar P w K mg base CX0 4 f fd ["self","rows"] (Gw K Z2):=by
 have sc:Ab ["self","rows","name","cost","room"] ["self","rows"] (A7 Z3s):=by walk_at "sc"
 walk_at "ok"
 · exact n4 h_ fun _ _ _ _=>rfl
 refine x4 h_ fun p dx ra rs e_=>y6 e_ fun e0 hp hrs hall er q=>?_;clear e_ h_;subst e0
 refine ⟨_,(@A1 _ _ _ _ _ (Az (Ao Nq (Ap Aq rfl T.Zh FC (A0 (pv 1) A2)) (Iv rfl T.Z34) (nomark _))
  (@A5 _ _ _ Be)
  Ag)
  (@A1 _ _ _ _ _ (Bc (pv 0) C9 rfl)
  (@A5 _ _ _ (D0 PassesOwn.never rfl (Bt (pv 1)) (P4 rfl (De (Bb (i:=2) sc.nd rfl (Or.inl rfl)) (De (Bb (i:=3) sc.nd rfl (Or.inl rfl)) (De (Bb (i:=4) sc.nd rfl (Or.inl rfl)) Lu))))
   (@A1 _ _ _ _ _ (Ai (Ad Z1k hr rfl Ac (A0 (pv 2) (A0 (pv 3) (A0 (pv 4) (A0 (Af (pv 0) rfl) A2))))))
   (@A5 _ _ _ (Ee (C8 hr) (Af (pv 0) rfl) (pv 2) (Em (A0 (Ap O2 rfl T.Zh FC (A0 (Af (pv 0) rfl) A2)) (A0 (pv 3) (A0 (pv 4) A2)))) rfl))))))),?_⟩
 walk_at "st";obtain ⟨hl60,hstk⟩:=Tx er;walk_at "go";rw [Fa];split
 · rename_i h
   exact absurd h (by omega)
 · rename_i h
   walk_at "go";intro d hd;have npd:p≠d:=A6 hp hd;walk_at "go";refine ⟨Z2,dx,[],by rw [A4 npd];exact hp,T.Za,T.Zk,by decide,?_⟩
   have sb0:SameBut p H (upd (upd H d (.dK [])) p (.ins Z2 dx (flds d))):=fun b o e n=>by rw [A4 n,A4 (A6 e hd)];exact e
   have hp0:upd (upd H d (.dK [])) p (.ins Z2 dx (flds d)) p=some (.ins Z2 dx (flds d)):=A3
   have hd0:upd (upd H d (.dK [])) p (.ins Z2 dx (flds d)) d=some (.dK []):=by rw [A4 npd.symm,A3]
   unfold flds at sb0 hp0 hd0;generalize upd (upd H d (HO.dK [])) p (HO.ins Z2 dx (Aj (Str.ofString "things") (V.ref d) []))=H0 at sb0 hp0 hd0 ⊢;walk_at "go";refine ⟨⟨_,SqL.but sb0 hp hrs⟩,?_⟩;refine Dy (xs:=rs.map fun t=>V.ref t.1) (fun i σ H'=>∃v1 v2 v3,σ=[some (V.ref p),some (V.ref ra),v1,v2,v3]∧SameBut p H H'∧H' p=some (.ins Z2 dx (flds d))∧Vs K H' d (rs.take i)∧Il (Ie (rs.take i)) (rs.drop i)=none) ⟨none,none,none,rfl,sb0,hp0,⟨[],hd0,rfl,fun j t e=>by simp at e⟩,by rw [R0,List.drop_zero];exact hstk⟩ (fun i σ H' _ h_=>by obtain ⟨v1,v2,v3,_,sb,_⟩:=h_;exact SqL.but sb hp hrs) ?_ ?_
   · rintro i x σ H' hx ⟨v1,v2,v3,rfl,sb,hp',⟨kvs,hd',hk,hm⟩,hst⟩
     rw [Fi]at hx
     cases ht:rs[i]? with
     | none=>rw [ht]at hx;cases hx
     | some t=>
      rw [ht]at hx;simp only [Hq,Option.some.injEq]at hx;subst hx;have hi:i < rs.length:=(Fc.mp ht).1;have r1:=SqT.but sb hp (hall t (Fo ht));rw [S9 ht]at hst
      have hkl:kvs.length=i:=by
       have:=congrArg List.length hk;simp [Ie]at this;omega
      cases hrow:S8 (Ie (rs.take i)) t.2.1 t.2.2.1 t.2.2.2 with
      | some e=>rw [hrow]at hst;cases hst
      | none=>
       rw [hrow]at hst;obtain ⟨z,c,q',e1,e2,e3,nz,hb,_⟩:=Od hrow;walk_at "go";refine ⟨_,r1,rfl,?_⟩;walk_at "go";refine ⟨Z2,dx,flds d,hp',T.Za,T.Zk,_,Cq,d,rfl,kvs,hd',_,hk,hrow,fun H1 sm1=>?_⟩;rw [e1,e2,e3];have hp1:=sm1 _ _ hp';have hd1:=sm1 _ _ hd';walk_at "go";refine ⟨Z2,dx,flds d,hp1,T.Za,T.Zk,_,Cq,?_⟩;walk_at "go";refine ⟨kvs,hd1,by omega,fun t2 ht2=>?_⟩;have np2:p≠t2:=A6 hp1 ht2;have nd2:d≠t2:=A6 hd1 ht2
       have hd2:upd H1 t2 (.tup [.int kvs.length,.int c,.int q']) d=some (.dK kvs):=by rw [A4 nd2];exact hd1
       refine ⟨Z2,dx,flds d,by rw [A4 np2];exact hp1,T.Za,T.Zk,_,Cq,d,rfl,_,Kl.k (k:=Sum.inr z) hd2 (by omega),?_,?_,?_,?_⟩
       · intro b o eb nb
         have h1:=sm1 _ _ (sb b o eb nb);rw [A4 (A6 eb hd),A4 (A6 h1 ht2)];exact h1
       · rw [A4 npd,A4 np2];exact hp1
       · rw [Hv,ht]
         refine Vs.snoc hd2 hk (fun j t' e=>?_) e1 e2 e3 nz A3;obtain ⟨a,q1,q2⟩:=hm j t' e;exact ⟨a,q1,(sm1.trans (A9.new ht2)).tup q2⟩
       · rw [Hv,ht]
         have e:Ie (rs.take kvs.length++(some t).toList)=Ie (rs.take kvs.length)++[sOf t.2.1]:=by unfold Ie;simp
         rw [e];exact hst
   · rintro σ H' ⟨v1,v2,v3,rfl,sb,hp',⟨kvs,hd',hk,hm⟩,hst⟩
     simp only [Fa,FU,List.drop_length]at hk hm hst;show Q V.non H';refine q _ sb ⟨⟨dx,d,kvs,hp',hd',?_,fun i t ht=>?_⟩,fun dx2 d2 fs2 e1 e2=>?_⟩
     · rw [hk];unfold Ie;rw [FL,FL];rfl
     · rw [Fi]at ht
       cases hr:rs[i]? with
       | none=>rw [hr]at ht;cases ht
       | some t'=>
        rw [hr]at ht;simp only [Hq,Option.some.injEq]at ht;subst ht;exact hm i t' hr
     · rw [hp']at e1
       cases e1;rw [Cq]at e2;cases e2;exact hd
variable (Z0g:Qq P w K mg base CX0 4 "Stock" Z2 ["self","rows"] (Gw K Z2))
include T in
theorem Z60(F:Fun K "names" "Stock.names" Z37 f fd):Ar P w K mg base CX0 1 f fd ["self"] (Pl K Z2):=by
 have sc:Ab ["self"] ["self"] (A7 Z37):=by walk_at "sc"
 walk_at "ok"
 · exact n2 h_ fun _ _=>rfl
 refine x2 h_ fun p ts e_=>y3 e_ fun e0 hs q=>?_;clear e_ h_;subst e0;refine ⟨_,(@A5 _ _ _ (@Ae _ _ _ _ (B5 (Tv rfl) rfl T.Z32 (by first | rfl | decide+kernel) (A0 (Af (pv 0) rfl) A2)))),?_⟩;walk_at "su";obtain ⟨dx,d,kvs,h1,h2,h3,h4,h5⟩:=Au.has hs;walk_at "go";refine ⟨Z2,dx,flds d,h1,T.Za,T.Zk,_,Cq,?_⟩;walk_at "go";refine ⟨_,h2,fun l hl=>?_⟩;rw [h3];have:=q l hl;rw [FL]at this;exact this
variable (Zi:Ca P w K mg base CX0 1 Z2 "names" ["self"] (Pl K Z2))
include T Zd in
theorem Z55(F:Fun K "check_places" "check_places" Z2g f fd):Ar P w K mg base CX0 3 f fd ["places"] (Gk):=by
 have sc:Ab ["places"] ["places"] (A7 Z2g):=by walk_at "sc"
 walk_at "ok"
 · exact n1 h_ fun _=>rfl
 refine x1 h_ fun n e_=>y4 e_ fun e0 h1 h2 q=>?_;clear e_ h_;subst e0
 refine ⟨_,(@A5 _ _ _ (Az (Dm (Dd (Ad Zd hr rfl Ac (A0 (pv 0) (A0 A8 (A0 (Iv rfl T.Z35) A2))))))
  (@A5 _ _ _ Be)
  Ag)),?_⟩
 walk_at "su";walk_at "go";refine ⟨rfl,?_⟩;rw [Mz h1 h2];walk_at "go";exact q
variable (Z15:Def P w K mg base CX0 3 "check_places" ["places"] (Gk))
include T in
theorem Z4o(F:Fun K "thing_of" "Stock.thing_of" Z1w f fd):Ar P w K mg base CX0 1 f fd ["self","name"] (Iz K Z2):=by
 have sc:Ab ["self","name"] ["self","name"] (A7 Z1w):=by walk_at "sc"
 walk_at "ok"
 · exact n3 h_ fun _ _ _=>rfl
 refine x3 h_ fun p ts z e_=>y5 e_ fun e0 hs nd hz q=>?_;clear e_ h_;subst e0
 refine ⟨_,(@A1 _ _ _ _ _ (Az (Ih (X8 (C8 hr) (pv 1) (Af (pv 0) rfl)))
  (@A5 _ _ _ Be)
  Ag)
  (@A5 _ _ _ (@Ae _ _ _ _ (Ey (C8 hr) (Af (pv 0) rfl) (pv 1) (fun _ _=>rfl))))),?_⟩
 walk_at "su";obtain ⟨dx,d,kvs,h1,h2,h3,h4,h5⟩:=Au.has hs;have line:=Eo;walk_at "go";refine ⟨Z2,dx,flds d,h1,T.Za,T.Zk,_,Cq,d,rfl,_,Cw.k (k:=Sum.inr z) h2,?_⟩;rw [h4,FD hz];obtain ⟨i,t,ht,rfl⟩:=J3g hz;obtain ⟨a,e1,e2⟩:=h5 nd i t ht;walk_at "go";refine ⟨Z2,dx,flds d,h1,T.Za,T.Zk,_,Cq,?_⟩;walk_at "go";refine ⟨V.ref a,by rw [← e1];exact Cw.k (k:=Sum.inr t.1) h2,?_⟩;exact q i t ht rfl a e2
variable (Zb:Ca P w K mg base CX0 1 Z2 "thing_of" ["self","name"] (Iz K Z2))
include T Zb in
theorem Z4k(F:Fun K "number_of" "Stock.number_of" Z1h f fd):Ar P w K mg base CX0 2 f fd ["self","name"] (D9 0 K Z2):=by
 have sc:Ab ["self","name"] ["self","name"] (A7 Z1h):=by walk_at "sc"
 walk_at "ok"
 · exact n3 h_ fun _ _ _=>rfl
 refine x3 h_ fun p ts z e_=>y5 e_ fun e0 hs nd hz q=>?_;clear e_ h_;subst e0;refine ⟨_,(@A5 _ _ _ (@Ae _ _ _ _ (@Bk _ _ _ _ _ _ _ L8 (Ak Zb T.Za hr (Av Ac) (pv 0) (A0 (pv 1) A2)) A8 (fun _ _=>rfl)))),?_⟩;walk_at "su";obtain ⟨dx,d,kvs,h1,h2,h3,h4,h5⟩:=Au.has hs;walk_at "go";refine ⟨dx,flds d,h1,by rfl,?_⟩;walk_at "go";refine ⟨ts,hs,nd,hz,fun i t ht e a ha=>?_⟩;refine Ke ha rfl ?_;exact q i t ht e
variable (Z7:Ca P w K mg base CX0 2 Z2 "number_of" ["self","name"] (D9 0 K Z2))
include T Zb in
theorem Z4w(F:Fun K "cost_of" "Stock.cost_of" Z22 f fd):Ar P w K mg base CX0 2 f fd ["self","name"] (D9 1 K Z2):=by
 have sc:Ab ["self","name"] ["self","name"] (A7 Z22):=by walk_at "sc"
 walk_at "ok"
 · exact n3 h_ fun _ _ _=>rfl
 refine x3 h_ fun p ts z e_=>y5 e_ fun e0 hs nd hz q=>?_;clear e_ h_;subst e0;refine ⟨_,(@A5 _ _ _ (@Ae _ _ _ _ (@Bk _ _ _ _ _ _ _ L8 (Ak Zb T.Za hr (Av Ac) (pv 0) (A0 (pv 1) A2)) A8 (fun _ _=>rfl)))),?_⟩;walk_at "su";obtain ⟨dx,d,kvs,h1,h2,h3,h4,h5⟩:=Au.has hs;walk_at "go";refine ⟨dx,flds d,h1,by rfl,?_⟩;walk_at "go";refine ⟨ts,hs,nd,hz,fun i t ht e a ha=>?_⟩;refine Ke ha rfl ?_;exact q i t ht e
variable (Ze:Ca P w K mg base CX0 2 Z2 "cost_of" ["self","name"] (D9 1 K Z2))
include T Zb in
theorem Z4x(F:Fun K "room_of" "Stock.room_of" Z23 f fd):Ar P w K mg base CX0 2 f fd ["self","name"] (D9 2 K Z2):=by
 have sc:Ab ["self","name"] ["self","name"] (A7 Z23):=by walk_at "sc"
 walk_at "ok"
 · exact n3 h_ fun _ _ _=>rfl
 refine x3 h_ fun p ts z e_=>y5 e_ fun e0 hs nd hz q=>?_;clear e_ h_;subst e0;refine ⟨_,(@A5 _ _ _ (@Ae _ _ _ _ (@Bk _ _ _ _ _ _ _ L8 (Ak Zb T.Za hr (Av Ac) (pv 0) (A0 (pv 1) A2)) A8 (fun _ _=>rfl)))),?_⟩;walk_at "su";obtain ⟨dx,d,kvs,h1,h2,h3,h4,h5⟩:=Au.has hs;walk_at "go";refine ⟨dx,flds d,h1,by rfl,?_⟩;walk_at "go";refine ⟨ts,hs,nd,hz,fun i t ht e a ha=>?_⟩;refine Ke ha rfl ?_;exact q i t ht e
variable (Zu:Ca P w K mg base CX0 2 Z2 "room_of" ["self","name"] (D9 2 K Z2))
include T Z15 in
theorem Z61(F:Fun K "check_sizes" "check_sizes" Z38 f fd):Ar P w K mg base CX0 4 f fd ["sizes"] (Gp K):=by
 have sc:Ab ["sizes","size"] ["sizes"] (A7 Z38):=by walk_at "sc"
 walk_at "ok"
 · exact n2 h_ fun _ _=>rfl
 refine x2 h_ fun a zs e_=>y6 e_ fun e0 hS h1 h6 hz q=>?_;clear e_ h_;subst e0
 refine ⟨_,(@A1 _ _ _ _ _ (Az (PW.pt (Ub (Ao Ki (Ap Aq rfl T.Zh FC (A0 (pv 0) A2)) A8 (nomark _)) (T4 (Ao Nq (Ap Aq rfl T.Zh FC (A0 (pv 0) A2)) (Iv rfl T.Z2e) (nomark _)))))
  (@A5 _ _ _ Be)
  Ag)
  (@A5 _ _ _ (D0 PassesOwn.never rfl (Bt (pv 0)) (Bb (i:=1) sc.nd rfl (Or.inl rfl))
   (@A5 _ _ _ (Ai (Ad Z15 hr rfl Ac (A0 (pv 1) A2))))))),?_⟩
 walk_at "st";walk_at "go";rw [Fa,if_neg (by omega)];refine ⟨_,.inl hS,?_⟩;rw [Fa,if_neg (by omega)];walk_at "go";refine ⟨⟨_,hS⟩,?_⟩;refine Dy (xs:=zs.map V.int) (fun i σ H'=>∃(v1:Option V),σ=[some (V.ref a),v1]∧H'=H) ⟨none,rfl,rfl⟩ (fun i σ H' _ h_=>by obtain ⟨v1,_,rfl⟩:=h_;exact hS) ?_ ?_
 · rintro i v σ H' hv ⟨v1,rfl,rfl⟩
   obtain ⟨n,hn,rfl⟩:=FH.mp (Fo hv);have h:=hz n hn;walk_at "go";exact h.2
 · rintro σ H' ⟨v1,rfl,rfl⟩
   exact q
variable (Z04:Def P w K mg base CX0 4 "check_sizes" ["sizes"] (Gp K))
include T Zu in
theorem Z62(F:Fun K "check_rooms" "check_rooms" Z39 f fd):Ar P w K mg base CX0 4 f fd ["stock","asks"] (Gq K Z2):=by
 have sc:Ab ["stock","asks","name"] ["stock","asks"] (A7 Z39):=by walk_at "sc"
 walk_at "ok"
 · exact n4 h_ fun _ _ _ _=>rfl
 refine x4 h_ fun p a ts ys e_=>y8 e_ fun e0 hs nd hS hy hr1 hl q=>?_;clear e_ h_;subst e0
 refine ⟨_,(@A5 _ _ _ (D0 PassesOwn.never rfl (Bt (pv 1)) (Bb (i:=2) sc.nd rfl (Or.inl rfl))
  (@A5 _ _ _ (Az (Ao Ug (Ak Zu T.Za hr (Av Ac) (pv 0) (A0 (pv 2) A2)) A8 (nomark _))
   (@A5 _ _ _ Be)
   Ag)))),?_⟩
 walk_at "st";obtain ⟨dy,e,kvs,h1,h2,h3,h4,h5⟩:=Au.has hs;walk_at "go";refine ⟨⟨_,hS⟩,?_⟩;refine Dy (xs:=ys.map V.str) (fun i σ H'=>∃(v1:Option V),σ=[some (V.ref p),some (V.ref a),v1]∧H'=H) ⟨none,rfl,rfl⟩ (fun i σ H' _ h_=>by obtain ⟨v1,_,rfl⟩:=h_;exact hS) ?_ ?_
 · rintro i v σ H' hv ⟨v1,rfl,rfl⟩
   obtain ⟨y,hyy,rfl⟩:=FH.mp (Fo hv);walk_at "go";refine ⟨dy,flds e,h1,by rfl,ts,hs,nd,hy y hyy,fun j t' ht' e'=>?_⟩;have hp2:pick 2 j t'=1:=hr1 t' (Fo ht');rw [hp2];clear e' ht';walk_at "go"
 · rintro σ H' ⟨v1,rfl,rfl⟩
   exact q
variable (Z05:Def P w K mg base CX0 4 "check_rooms" ["stock","asks"] (Gq K Z2))
include T in
theorem Z63(F:Fun K "write" "Tower.write" Z3a f fd):Ar P w K mg base CX0 2 f fd ["self","name"] (Do Z1):=by
 have sc:Ab ["self","name"] ["self","name"] (A7 Z3a):=by walk_at "sc"
 walk_at "ok"
 · exact n7 h_ fun _ _ _ _ _ _ _=>rfl
 refine x7 h_ fun t x s g z B hd e_=>y6 e_ fun e0 hT hL hB hz q=>?_;clear e_ h_;subst e0
 refine ⟨_,(@A1 _ _ _ _ _ (Ee (C8 hr) (Af (pv 0) rfl) (pv 1) (Ey (C8 hr) (Af (pv 0) rfl) (pv 1) (fun _ _=>rfl)) rfl)
  (@A5 _ _ _ (Ai (Cp FB FN FM C7 (Af (pv 0) rfl) (A0 (Em (A0 Am (A0 (pv 1) (A0 (Ey (C8 hr) (Af (pv 0) rfl) (pv 1) (fun _ _=>rfl)) A2)))) A2))))),?_⟩
 walk_at "st";obtain ⟨dx,fs,ho,hf⟩:=hT.o;have hi:=hL.h z hz;have n3:=hL.n3;have n4:=hL.n4;walk_at "go";refine ⟨Z1,dx,fs,ho,T.Z4,T.Zt,_,hf.he,x.he,rfl,.int (g.h z),by rw [← hi];exact Cw.k (k:=Sum.inr z) hT.he,Z1,dx,fs,ho,T.Z4,T.Z0v,_,hf.so,x.so,rfl,_,Kl.k (k:=Sum.inr z) hT.so (by omega),?_⟩;have hT1:=hT.store (B8 s.ks (Sum.inr z) (.int (g.h z)));have o1:Off (own t x) H (upd H x.so (.dK (B8 s.ks (Sum.inr z) (.int (g.h z))))):=Off.put (by simp [own]);generalize upd H x.so (.dK (B8 s.ks (Sum.inr z) (.int (g.h z))))=H1 at hT1 o1 ⊢;obtain ⟨dx1,fs1,ho1,hf1⟩:=hT1.o;walk_at "go";refine ⟨Z1,dx1,fs1,ho1,T.Z4,T.Z0l,_,hf1.en,.inl ⟨rfl,_,SqL.of hT1.en⟩,Z1,dx1,fs1,ho1,T.Z4,T.Zt,_,hf1.he,x.he,rfl,.int (g.h z),by rw [← hi];exact Cw.k (k:=Sum.inr z) hT1.he,by omega,fun u hu=>?_⟩;have sm2:A9 H1 (upd H1 u (.tup (wrT z (g.h z)))):=A9.new hu;have hT2:=hT1.same sm2;have hu2:upd H1 u (.tup (wrT z (g.h z))) u=some (.tup (wrT z (g.h z))):=A3
 have nue:u≠x.en:=(A6 hT1.en hu).symm;have o2:Off (own t x) H (upd H1 u (.tup (wrT z (g.h z)))):=o1.trans (.of sm2);show P9 _ _ (upd H1 u (.tup (wrT z (g.h z)))) _;generalize upd H1 u (.tup (wrT z (g.h z)))=H2 at hT2 o2 hu2 ⊢;refine ⟨x.en,_,_,rfl,rfl,hT2.en,by show s.es.length < _;omega,?_⟩;walk_at "go";have oF:=o2.trans (Off.put (H:=H2) (b:=x.en) (o:= .lst (s.es++[.ref u])) (by simp [own]));exact q {s with ks:=B8 s.ks (Sum.inr z) (.int (g.h z)),es:=s.es++[.ref u]} _ oF (hT2.entry (s.es++[.ref u])) rfl rfl rfl rfl rfl (hL.wrote hz (Kr hT oF) (by rw [A4 nue];exact hu2) (by omega))
variable (Z06:Ca P w K mg base CX0 2 Z1 "write" ["self","name"] (Do Z1))
include T in
theorem Z56(F:Fun K "settle" "Tower.settle" Z2h f fd):Ar P w K mg base CX0 1 f fd ["self","name"] (Da Z1 false):=by
 have sc:Ab ["self","name"] ["self","name"] (A7 Z2h):=by walk_at "sc"
 walk_at "ok"
 · exact n7 h_ fun _ _ _ _ _ _ _=>rfl
 refine x7 h_ fun t x s g z B hd e_=>y6 e_ fun e0 hT hL hB hz q=>?_;clear e_ h_;subst e0;refine ⟨_,(@A5 _ _ _ (Ee (C8 hr) (Af (pv 0) rfl) (pv 1) Eb rfl)),?_⟩;walk_at "st";obtain ⟨dx,fs,ho,hf⟩:=hT.o;walk_at "go";have h2:=hL.n2;refine ⟨Z1,dx,fs,ho,T.Z4,T.Z01,_,hf.la,x.la,rfl,_,Kl.k (k:=Sum.inr z) hT.la (by omega),?_⟩;have o:Off (own t x) H (upd H x.la (.dK (B8 s.kl (Sum.inr z) (.bl true)))):=Off.put (by simp [own]);exact q _ _ o (hT.late (B8 s.kl (Sum.inr z) (.bl true))) rfl rfl rfl rfl ((hL.lateOn hz (by omega)).off hT o)
variable (Z16:Ca P w K mg base CX0 1 Z1 "settle" ["self","name"] (Da Z1 false))
include T Z06 in
theorem Z4p(F:Fun K "fall_off" "Tower.fall_off" Z1x f fd):Ar P w K mg base CX0 3 f fd ["self","name"] (Ei Z1):=by
 have sc:Ab ["self","name"] ["self","name"] (A7 Z1x):=by walk_at "sc"
 walk_at "ok"
 · exact n7 h_ fun _ _ _ _ _ _ _=>rfl
 refine x7 h_ fun t x s g z B hd e_=>y6 e_ fun e0 hT hL hB hz q=>?_;clear e_ h_;subst e0
 refine ⟨_,(@A1 _ _ _ _ _ (Az (Ih (Lb (C8 hr) (pv 1) (Af (pv 0) rfl)))
  (@A1 _ _ _ _ _ (Ai (Km (Af (pv 0) rfl) (pv 1) ⟨rfl,rfl,rfl,rfl⟩))
  (@A5 _ _ _ (Ai (Ak Z06 T.Z4 hr (Av Ac) (pv 0) (A0 (pv 1) A2)))))
  Ag)
  (@A5 _ _ _ (Ai (Km (Af (pv 0) rfl) (pv 1) ⟨rfl,rfl,rfl,rfl⟩)))),?_⟩
 walk_at "st";obtain ⟨dx,fs,ho,hf⟩:=hT.o;walk_at "go";refine ⟨Z1,dx,fs,ho,T.Z4,T.Z01,_,hf.la,x.la,rfl,_,Cw.k (k:=Sum.inr z) hT.la,?_⟩;rename_i rest hrest
 have key:∀(s1:TwS) (H1:Hp),Off (own t x) H H1→B9 Z1 H1 t x s1→s1.R=s.R→s1.zs=s.zs→s1.ff=s.ff→s1.pd=s.pd→TwG H1 s1 (Ci z g) (B+1) hd→(Ci z g).l z=false→rest [some (V.ref t),some (V.str z)] H1:=by
  intro s1 H1 o1 hT1 e1 e2 e3 e4 hL1 hz1;obtain ⟨dx1,fs1,ho1,hf1⟩:=hT1.o;have hi1:=hL1.h z hz;subst hrest;walk_at "go";refine ⟨Z1,dx1,fs1,ho1,T.Z4,T.Zt,_,hf1.he,x.he,rfl,.inl ⟨_,.inl hT1.he⟩,_,hT1.he,Sum.inr z,rfl,_,hi1,?_⟩;have oP:Off (own t x) H1 (upd H1 x.he (.dK (Bf s1.kh (Sum.inr z)))):=Off.put (by simp [own]);exact q _ _ (o1.trans oP) (hT1.held (Bf s1.kh (Sum.inr z))) e1 e2 e3 e4 ((hL1.popped hz1).off hT1 oP)
 clear hrest;rw [hL.l z]
 by_cases hin:g.l z=true
 · rw [if_pos hin]
   have hsome:(B1 s.kl (Sum.inr z)).isSome=true:=by rw [hL.l z];exact hin
   obtain ⟨vl,hvl⟩:=HM.mp hsome;walk_at "go";refine ⟨Z1,dx,fs,ho,T.Z4,T.Z01,_,hf.la,x.la,rfl,.inl ⟨_,.inl hT.la⟩,_,hT.la,Sum.inr z,rfl,_,hvl,?_⟩;have hT1:=hT.late (Bf s.kl (Sum.inr z));have o1:Off (own t x) H (upd H x.la (.dK (Bf s.kl (Sum.inr z)))):=Off.put (by simp [own]);have hL1:=(hL.lateOff (z:=z)).off hT o1;generalize upd H x.la (.dK (Bf s.kl (Sum.inr z)))=H1 at hT1 o1 hL1 ⊢;obtain ⟨dx1,fs1,ho1,hf1⟩:=hT1.o
   have eG:Ci z g=(g.late z false).write z:=by unfold Ci;rw [if_pos hin]
   walk_at "go";refine ⟨dx1,fs1,ho1,hf1.m _ (by simp),x,_,hT1,_,B,hd,hL1,hB,hz,fun s2 H2 o2 hT2 e1 e2 e3 e4 _ hL2=>?_⟩;exact key s2 H2 (o1.trans o2) hT2 e1 e2 e3 e4 (by rw [eG];exact hL2) (by rw [eG];exact Al)
 · rw [if_neg hin]
   have eG:Ci z g=g:=by unfold Ci;rw [if_neg hin]
   exact key s H (fun b o e _=>e) hT rfl rfl rfl rfl (by rw [eG];exact hL.iff (fun _=>Iff.rfl) (by omega) (by omega)) (by rw [eG];simpa using hin)
variable (Z0s:Ca P w K mg base CX0 3 Z1 "fall_off" ["self","name"] (Ei Z1))
include T Z0s in
theorem Z6v(F:Fun K "come" "Tower.come" Z3t f fd):Ar P w K mg base CX0 4 f fd ["self","name"] (Ej Z1):=by
 have sc:Ab ["self","name"] ["self","name"] (A7 Z3t):=by walk_at "sc"
 walk_at "ok"
 · exact n6 h_ fun _ _ _ _ _ _=>rfl
 refine x6 h_ fun t x s g z B e_=>y9 e_ fun e0 hT hL hB nd hRl hRs hS1 q=>?_;clear e_ h_;subst e0
 refine ⟨_,(@A1 _ _ _ _ _ (Az (Ao D8 (pv 1) (Af (pv 0) rfl) (by with_unfolding_all rfl))
  (@A5 _ _ _ (Ai (Cp FB PySem.F.slot_list_remove PySem.F.type_list_remove O9 (Af (pv 0) rfl) (A0 (pv 1) A2))))
  Ag)
  (@A1 _ _ _ _ _ (Ai (Cp FB PySem.F.slot_list_insert PySem.F.type_list_insert Og (Af (pv 0) rfl) (A0 A8 (A0 (pv 1) A2))))
  (@A5 _ _ _ (Az (Ao Nq (Ap Aq rfl T.Zh FC (A0 (Af (pv 0) rfl) A2)) (Ap (Oj rfl) rfl T.Z75 (by first | rfl | decide+kernel) (A0 (Af (pv 0) rfl) A2)) (nomark _))
   (@A5 _ _ _ (Ai (Ak Z0s T.Z4 hr (Av Ac) (pv 0) (A0 (Tg FB PySem.F.slot_list_pop PySem.F.type_list_pop Yi (Af (pv 0) rfl)) A2))))
   Ag)))),?_⟩
 walk_at "st";obtain ⟨dx,fs,ho,hf⟩:=hT.o;walk_at "go";refine ⟨Z1,dx,fs,ho,T.Z4,T.Zs,_,hf.ro,Of (SqL.of hT.ro) ⟨_,rfl,?_⟩⟩;rename_i rest hrest
 have key:∀H1:Hp,Off (own t x) H H1→B9 Z1 H1 t x {s with R:=s.R.erase z}→rest [some (V.ref t),some (V.str z)] H1:=by
  intro H1 o1 hT1;obtain ⟨dx1,fs1,ho1,hf1⟩:=hT1.o;have hel:(s.R.erase z).length≤s.R.length:=Ry;subst hrest;walk_at "go";refine ⟨Z1,dx1,fs1,ho1,T.Z4,T.Zs,_,hf1.ro,.inl ⟨rfl,_,SqL.of hT1.ro⟩,x.ro,rfl,_,hT1.ro,by rw [Fa];show (s.R.erase z).length < _;omega,?_⟩;have hT2:B9 Z1 (upd H1 x.ro (.lst (V.str z::List.map V.str {s with R:=s.R.erase z}.R))) t x {s with R:=z::s.R.erase z}:=hT1.row (z::s.R.erase z);have o2:Off (own t x) H (upd H1 x.ro (.lst (V.str z::List.map V.str {s with R:=s.R.erase z}.R))):=o1.trans (Off.put (by simp [own]));generalize upd H1 x.ro (.lst (V.str z::List.map V.str {s with R:=s.R.erase z}.R))=H2 at hT2 o2 ⊢;obtain ⟨dx2,fs2,ho2,hf2⟩:=hT2.o;walk_at "go";refine ⟨Z1,dx2,fs2,ho2,T.Z4,T.Zs,_,hf2.ro,x.ro,rfl,_,.inl (SqL.of hT2.ro),Z1,dx2,fs2,ho2,T.Z4,T.Zx,_,hf2.si,x.si,rfl,_,SqL.of hT2.si,?_⟩;rw [Fa];have hl1:(z::s.R.erase z).length=(s.R.erase z).length+1:=rfl
  have ndc:=Pn (z:=z) nd
  by_cases hov:s.zs.sum < ((z::s.R.erase z).length:Int)
  · rw [if_pos hov]
    obtain ⟨y,hy,edl,hyin,hiff⟩:=Om (S:=s.zs.sum.toNat) ndc (by omega)
    have eG:Bz s.zs.sum s.R z g=Ci y g:=by unfold Bz J1q;rw [if_pos hov,hy];rfl
    refine ⟨dx2,fs2,ho2,hf2.m _ (by simp),Z1,dx2,fs2,ho2,T.Z4,T.Zs,_,hf2.ro,.inl ⟨rfl,_,SqL.of hT2.ro⟩,x.ro,rfl,_,hT2.ro,V.str y,by rw [Fa,Fi,hy];rfl,?_⟩
    have hT3:B9 Z1 (upd H2 x.ro (.lst ((z::s.R.erase z).map V.str).dropLast)) t x {s with R:=(z::s.R.erase z).dropLast}:=by
     rw [← List.map_dropLast];exact hT2.row ((z::s.R.erase z).dropLast)
    have o3:Off (own t x) H (upd H2 x.ro (.lst ((z::s.R.erase z).map V.str).dropLast)):=o2.trans (Off.put (by simp [own]));have hL3:=hL.off hT o3;walk_at "go";refine ⟨x,_,hT3,g,B,_,hL3.cast rfl rfl rfl rfl,hB,Er.mp hyin,fun s' H' o hT' e1 e2 e3 e4 hL'=>?_⟩;have e1':s'.R=(z::s.R.erase z).dropLast:=e1;exact q s' H' (o3.trans o) hT' (by rw [e1',edl]) e2 e3 e4 (by rw [eG];exact hL'.iff (fun u=>by rw [e1',hiff u,Er]) (Fe _) (by omega))
  · rw [if_neg hov]
    have eG:Bz s.zs.sum s.R z g=g:=by unfold Bz;rw [if_neg hov]
    exact q _ H2 o2 hT2 (by rw [Hd (by omega)]) rfl rfl rfl (by rw [eG];exact ((hL.off hT o2).iff (fun u=>(Er (R:=s.R) (z:=z) (u:=u)).symm) (by omega) (by omega)).cast rfl rfl rfl rfl)
 clear hrest
 by_cases hin:z∈s.R
 · rw [if_pos (by simpa using hin)]
   refine ⟨Z1,dx,fs,ho,T.Z4,T.Zs,_,hf.ro,.inl ⟨rfl,_,SqL.of hT.ro⟩,x.ro,rfl,s.R,hT.ro,hin,?_⟩;exact key _ (Off.put (by simp [own])) (hT.row (s.R.erase z))
 · rw [if_neg (by simpa using hin)]
   have:=key H (fun b o e _=>e) (by rw [List.erase_of_not_mem hin];exact hT);exact this
variable (Zm:Ca P w K mg base CX0 4 Z1 "come" ["self","name"] (Ej Z1))
include T in
theorem Z57(F:Fun K "levels" "Tower.levels" Z2i f fd):Ar P w K mg base CX0 1 f fd ["self"] (Cr Z1):=by
 have sc:Ab ["self","told","start","size"] ["self"] (A7 Z2i):=by walk_at "sc"
 walk_at "ok"
 · exact n3 h_ fun _ _ _=>rfl
 refine x3 h_ fun t x s e_=>y5 e_ fun e0 hT hzl hz q=>?_;clear e_ h_;subst e0
 refine ⟨_,(@A1 _ _ _ _ _ (Ay (i:=1) sc.nd rfl (Or.inl rfl) (@Bn _ _ _ _ A2))
  (@A1 _ _ _ _ _ (Ay (i:=2) sc.nd rfl (Or.inl rfl) A8)
  (@A1 _ _ _ _ _ (D0 PassesOwn.never rfl (Bt (Af (pv 0) rfl)) (Bb (i:=3) sc.nd rfl (Or.inl rfl))
   (@A1 _ _ _ _ _ (Ai (Cp FB FN FM C7 (pv 1) (A0 (Ij Lx (Af (pv 0) rfl) (Ex (pv 2)) (Ex (Ah Co (pv 2) (pv 3)))) A2)))
   (@A5 _ _ _ (Y2 (i:=2) sc.nd rfl (Or.inl rfl) (pv 3) Kz))))
  (@A5 _ _ _ (@Ae _ _ _ _ (pv 1)))))),?_⟩
 walk_at "st";obtain ⟨dx,fs,ho,hf⟩:=hT.o;walk_at "go";intro p hp;walk_at "go";have sm0:A9 H (upd H p (.lst [])):=A9.new hp;have hp0:upd H p (.lst []) p=some (.lst []):=A3;generalize upd H p (.lst [])=H0 at sm0 hp0 ⊢;refine ⟨Z1,dx,fs,sm0 _ _ ho,T.Z4,T.Zx,_,hf.si,x.si,rfl,⟨_,SqL.of (sm0 _ _ hT.si)⟩,?_⟩;rename_i rest hrest
 refine Dy (xs:=s.zs.map V.int) (fun i σ H'=>∃(as:List Addr) (v3:Option V),σ=[some (V.ref t),some (V.ref p),some (V.int (pre s.zs i)),v3]∧A9 H H'∧H' p=some (.lst (as.map V.ref))∧Xi H' as s.zs s.R i∧(∀a∈as,H a=none)∧as.Nodup∧p∉as)
  ⟨[],none,rfl,sm0,hp0,⟨rfl,fun i a e=>by simp at e⟩,(fun a ha=>by cases ha),HK,(fun h=>by cases h)⟩ (fun i σ H' _ h_=>by obtain ⟨as,v3,_,sm,_⟩:=h_;exact SqL.of (sm _ _ hT.si)) ?_ ?_
 · rintro i v σ H' hv ⟨as,v3,rfl,sm,hp',hA,hn,nd,hpn⟩
   have hi:i < s.zs.length:=by
    have:=(Fc.mp hv).1;rw [Fa]at this;exact this
   have hgi:s.zs[i]?=some (s.zs.getD i 0):=Ep hi;rw [Fi,hgi]at hv;cases hv;have hz1:=hz _ (Fo hgi);have hpn0:=Ip (fun z h=>(hz z h).1) i;rw [Sm hi];have hal:as.length≤i:=Hj hA.1;walk_at "go";refine ⟨.inl ⟨rfl,_,SqL.of hp'⟩,Z1,dx,fs,sm _ _ ho,T.Z4,T.Zs,_,hf.ro,x.ro,rfl,_,SqL.of (sm _ _ hT.ro),fun l hl=>?_⟩;rw [W2 hz hi];have npl:p≠l:=A6 hp' hl;have sm2:A9 H' (upd H' l (.lst ((lvl s.zs s.R i).map V.str))):=A9.new hl
   have hlH:H l=none:=by
    cases e:H l with
    | none=>rfl
    | some o=>rw [sm _ _ e]at hl;cases hl
   refine ⟨p,_,_,rfl,rfl,sm2 _ _ hp',by rw [Fa];omega,?_⟩
   have hla:l∉as:=fun h=>by
    obtain ⟨j,hj⟩:=FP.mp h;rw [hA.2 j l hj]at hl;cases hl
   have sm3:A9 H (upd (upd H' l (.lst ((lvl s.zs s.R i).map V.str))) p (.lst (as.map V.ref++[V.ref l]))):=fun b o e=>by rw [A4 (A6 e hp)];exact (sm.trans sm2) _ _ e
   have hp3:upd (upd H' l (.lst ((lvl s.zs s.R i).map V.str))) p (.lst (as.map V.ref++[V.ref l])) p=some (.lst ((as++[l]).map V.ref)):=by rw [A3,Ft];rfl
   have hA3:Xi (upd (upd H' l (.lst ((lvl s.zs s.R i).map V.str))) p (.lst (as.map V.ref++[V.ref l]))) (as++[l]) s.zs s.R (i+1):=by
    refine ⟨by rw [Ff,hA.1];rfl,fun j a e=>?_⟩
    by_cases hj:j < as.length
    · rw [Fu hj]at e
      have h1:=hA.2 j a e;rw [A4 (fun z=>hpn (by rw [← z];exact Fo e))];exact sm2 _ _ h1
    · rw [Fy (by omega)]at e
      have hj0:j=i:=by
       have h1:=(Fc.mp e).1;have h2:=hA.1;simp at h1;omega
      rw [show j - as.length=0 by have:=hA.1;omega]at e;cases e;rw [A4 npl.symm,A3,hj0]
   generalize upd (upd H' l (.lst ((lvl s.zs s.R i).map V.str))) p (.lst (as.map V.ref++[V.ref l]))=H3 at sm3 hp3 hA3 ⊢;walk_at "go";refine ⟨as++[l],hp3,hA3,fun a ha=>?_,?_,fun h=>?_⟩
   · rcases Fq.mp ha with ha | ha
     · exact hn a ha
     · rw [Fg.mp ha];exact hlH
   · exact Hl.mpr ⟨nd,Hr.mpr ⟨FR,HK⟩,fun a ha b hb e=>hla (by rw [← Fg.mp hb,← e];exact ha)⟩
   · rcases Fq.mp h with h | h
     · exact hpn h
     · exact npl (Fg.mp h)
 · rintro σ H' ⟨as,v3,rfl,sm,hp',hA,hn,nd,hpn⟩
   rw [Fa]at hA;walk_at "go";exact q p as _ hp sm hp' hA hn nd hpn
variable (Zy:Ca P w K mg base CX0 1 Z1 "levels" ["self"] (Cr Z1))
include T Z7 Zy in
theorem Z4q(F:Fun K "shelf_of" "Tower.shelf_of" Z1y f fd):Ar P w K mg base CX0 4 f fd ["self","name"] (Dr K Z1 Z2):=by
 have sc:Ab ["self","name","number","names"] ["self","name"] (A7 Z1y):=by walk_at "sc"
 walk_at "ok"
 · exact n5 h_ fun _ _ _ _ _=>rfl
 refine x5 h_ fun t x s z ts e_=>y9 e_ fun e0 hT hs nd hz hzl hzz hRs q=>?_;clear e_ h_;subst e0
 refine ⟨_,(@A1 _ _ _ _ _ (Ai (Ak Z7 T.Za hr (Av Ac) (Af (pv 0) rfl) (A0 (pv 1) A2)))
  (@A1 _ _ _ _ _ (D0 PassesOwn.never rfl (Vu rfl T.Z2y (A0 (G7 Zy T.Z4 hr (Av Ac) (pv 0)) A2)) (P4 rfl (De (Bb (i:=2) sc.nd rfl (Or.inl rfl)) (De (Bb (i:=3) sc.nd rfl (Or.inl rfl)) Lu)))
   (@A5 _ _ _ (Az (Ao D8 (pv 1) (pv 3) (by with_unfolding_all rfl))
    (@A5 _ _ _ (@Ae _ _ _ _ (pv 2)))
    Ag)))
  (@A5 _ _ _ (@Ae _ _ _ _ (Ap Aq rfl T.Zh FC (A0 (Af (pv 0) rfl) A2)))))),?_⟩
 walk_at "st";obtain ⟨dx,fs,ho,hf⟩:=hT.o;obtain ⟨dy,e,kvs,h1,h2,h3,h4,h5⟩:=Au.has hs.at;walk_at "go";refine ⟨Z1,dx,fs,ho,T.Z4,T.Z0j,_,hf.st,x.st,rfl,dy,flds e,h1,by rfl,x.st,rfl,ts,hs.at,nd,hz,fun i t' ht' e'=>?_⟩;clear e' ht';walk_at "go";refine ⟨dx,fs,ho,hf.m _ (by simp),x,s,hT,hzl,hzz,fun p as H1 hp sm1 hp1 hA han nda hpn=>⟨⟨_,SqL.of hp1⟩,?_⟩⟩;rename_i rest hrest;refine Vv (xs:=as.map V.ref) (fun i σ H'=>∃(v2 v3:Option V),σ=[some (V.ref t),some (V.str z),v2,v3]∧A9 H1 H'∧∀j,j < i→z∉lvl s.zs s.R j) ⟨none,none,rfl,A9.refl _,fun j hj=>absurd hj (Nat.not_lt_zero j)⟩ (fun i σ H' _ h_=>by obtain ⟨v2,v3,_,sm,_⟩:=h_;exact SqL.of (sm _ _ hp1)) ?_ ?_
 · rintro i v σ H' u hv ⟨v2,v3,rfl,sm,hno⟩ hu
   have hi:i < as.length:=by
    have:=(Fc.mp hv).1;rw [Fa]at this;exact this
   have hai:as[i]?=some as[i]:=Fb hi;rw [Fi,hai]at hv;cases hv;have hla:=(sm.trans (A9.new (o:= .tup [.int i,.ref as[i]]) hu)) _ _ (hA.2 i _ hai);have smu:=sm.trans (A9.new (o:= .tup [.int i,.ref as[i]]) hu);walk_at "go";refine ⟨_,SqT.of A3,rfl,_,_,rfl,_,_,rfl,rfl,?_⟩;generalize upd H' u (.tup [.int i,.ref as[i]])=H2 at hla smu ⊢
   have hzl2:i < s.zs.length:=by have:=hA.1;omega
   walk_at "go";refine Of (SqL.of hla) ⟨_,rfl,?_⟩
   by_cases hin:z∈lvl s.zs s.R i
   · rw [if_pos (by simpa using hin)]
     walk_at "go";exact q i H2 (sm1.trans smu) (by omega) ⟨fun _=>Md hin,fun _=>hzl2⟩ (Hj (Pq hzl2 hin hno)) (Hj (Pq hzl2 hin hno).symm)
   · rw [if_neg (by simpa using hin)]
     walk_at "go";intro j hj
     by_cases e:j=i
     · rw [e];exact hin
     · exact hno j (by omega)
 · rintro σ H' ⟨v2,v3,rfl,sm,hno⟩
   rw [Fa,hA.1]at hno;have smA:=sm1.trans sm;walk_at "go";refine ⟨Z1,dx,fs,smA _ _ ho,T.Z4,T.Zx,_,hf.si,x.si,rfl,_,.inl (SqL.of (smA _ _ hT.si)),?_⟩;rw [Fa];refine q s.zs.length H' smA (Fe _) ⟨fun h=>absurd h (Hw _),fun h=>?_⟩ (Hj (Pr hno)) (Hj (Pr hno).symm);obtain ⟨j,hj,hjz⟩:=W1 (fun z h=>(hzz z h).1) hRs h;exact absurd hjz (hno j hj)
variable (Zc:Ca P w K mg base CX0 4 Z1 "shelf_of" ["self","name"] (Dr K Z1 Z2))
include T Z7 in
theorem Z58(F:Fun K "stored" "Tower.stored" Z2j f fd):Ar P w K mg base CX0 4 f fd ["self","name"] (Ct K Z1 Z2):=by
 have sc:Ab ["self","name"] ["self","name"] (A7 Z2j):=by walk_at "sc"
 walk_at "ok"
 · exact n8 h_ fun _ _ _ _ _ _ _ _=>rfl
 refine x8 h_ fun t x s g z ts B hd e_=>y7 e_ fun e0 hT hs nd hz hL q=>?_;clear e_ h_;subst e0
 refine ⟨_,(@A1 _ _ _ _ _ (Ai (Ak Z7 T.Za hr (Av Ac) (Af (pv 0) rfl) (A0 (pv 1) A2)))
  (@A5 _ _ _ (@Ae _ _ _ _ (Ms (C8 hr) (Af (pv 0) rfl) (pv 1) A8 ⟨rfl,rfl,rfl,rfl⟩)))),?_⟩
 walk_at "st";obtain ⟨dx,fs,ho,hf⟩:=hT.o;obtain ⟨dy,e,kvs,h1,h2,h3,h4,h5⟩:=Au.has hs.at;walk_at "go";refine ⟨Z1,dx,fs,ho,T.Z4,T.Z0j,_,hf.st,x.st,rfl,dy,flds e,h1,by rfl,x.st,rfl,ts,hs.at,nd,hz,fun i t' ht' e'=>?_⟩;clear e' ht';walk_at "go";refine ⟨Z1,dx,fs,ho,T.Z4,T.Z0v,_,hf.so,x.so,rfl,.inl ⟨_,.inl hT.so⟩,_,Cw.k (k:=Sum.inr z) hT.so,?_⟩;have hst:=hL.st z
 cases hv:B1 s.ks (Sum.inr z) with
 | none=>rw [hv]at hst;rw [← hst]at q;exact q
 | some v=>rw [hv]at hst;rw [← hst]at q;exact q
variable (Zz:Ca P w K mg base CX0 4 Z1 "stored" ["self","name"] (Ct K Z1 Z2))
include T Ze Zz in
theorem Z64(F:Fun K "fetch" "Tower.fetch" Z3b f fd):Ar P w K mg base CX0 5 f fd ["self","word","name"] (Dq K Z1 Z2):=by
 have sc:Ab ["self","word","name"] ["self","word","name"] (A7 Z3b):=by walk_at "sc"
 walk_at "ok"
 · exact n9 h_ fun _ _ _ _ _ _ _ _ _=>rfl
 refine x9 h_ fun t x s g w2 z ts B p e_=>y8 e_ fun e0 hT hs nd hz hL hB q=>?_;clear e_ h_;subst e0
 refine ⟨_,(@A1 _ _ _ _ _ (Nt (pv 0) (Ak Ze T.Za hr (Av Ac) (Af (pv 0) rfl) (A0 (pv 2) A2)) Yb)
  (@A1 _ _ _ _ _ (Ai (Cp FB FN FM C7 (Af (pv 0) rfl) (A0 (Em (A0 (pv 1) (A0 (pv 2) A2))) A2)))
  (@A5 _ _ _ (Ee (C8 hr) (Af (pv 0) rfl) (pv 2) (Ak Zz T.Z4 hr (Av Ac) (pv 0) (A0 (pv 2) A2)) rfl)))),?_⟩
 walk_at "st";obtain ⟨dx,fs,ho,hf⟩:=hT.o;obtain ⟨dy,e,kvs,h1,h2,h3,h4,h5⟩:=Au.has hs.at;walk_at "go";refine ⟨Z1,dx,fs,ho,T.Z4,T.Z10,_,hf.pd,Z1,dx,fs,ho,T.Z4,T.Z0j,_,hf.st,x.st,rfl,dy,flds e,h1,by rfl,x.st,rfl,ts,hs.at,nd,hz,fun i t' ht' e'=>⟨_,_,rfl,rfl,dx,fs,ho,by have:=hf.n;omega,?_⟩⟩;have ec:pick 1 i t'=Bo ts z:=(Oq nd ht' e').symm;rw [ec];clear e' ec;have hT1:=hT.paid ho hf (s.pd+Bo ts z);have o1:Off (own t x) H (upd H t (.ins Z1 dx (Aj (Str.ofString "paid") (.int (s.pd+Bo ts z)) fs))):=Off.put (by simp [own]);generalize upd H t (.ins Z1 dx (Aj (Str.ofString "paid") (.int (s.pd+Bo ts z)) fs))=H1 at hT1 o1 ⊢;clear ht';obtain ⟨dx1,fs1,ho1,hf1⟩:=hT1.o;have n4:=hL.n4;walk_at "go";refine ⟨Z1,dx1,fs1,ho1,T.Z4,T.Z0l,_,hf1.en,.inl ⟨rfl,_,SqL.of hT1.en⟩,by omega,fun u hu=>?_⟩;have sm2:A9 H1 (upd H1 u (.tup [.str w2,.str z])):=A9.new hu;have hT2:=hT1.same sm2;have hu2:upd H1 u (.tup [.str w2,.str z]) u=some (.tup [.str w2,.str z]):=A3
 have nue:u≠x.en:=(A6 hT1.en hu).symm;have o2:Off (own t x) H (upd H1 u (.tup [.str w2,.str z])):=o1.trans (.of sm2);generalize upd H1 u (.tup [.str w2,.str z])=H2 at hT2 o2 hu2 ⊢;refine ⟨x.en,_,_,rfl,rfl,hT2.en,by show s.es.length < _;omega,?_⟩;have hT3:=hT2.entry (s.es++[.ref u]);have o3:Off (own t x) H (upd H2 x.en (.lst (s.es++[.ref u]))):=o2.trans (Off.put (by simp [own]));have hs3:=hs.off o3
 have hu3:upd H2 x.en (.lst (s.es++[.ref u])) u=some (.tup [.str w2,.str z]):=by rw [A4 nue];exact hu2
 have hst:=hL.st;walk_at "go";show _;generalize upd H2 x.en (.lst (s.es++[.ref u]))=H3 at hT3 o3 hs3 hu3 ⊢;obtain ⟨dx3,fs3,ho3,hf3⟩:=hT3.o
 have hL3:=(hL.fetched (Kr hT o3) hu3 (by omega) (pd:=s.pd+Bo ts z))
 have oF:Off (own t x) H3 (upd H3 x.he (.dK (B8 s.kh (Sum.inr z) (.int (g.st z))))):=Off.put (by simp [own]);have n1:=hL.n1;have hL2:=hL.noted (Kr hT o3) hu3 rfl (by omega) (pd:=s.pd+Bo ts z);have fin:=q {s with pd:=s.pd+Bo ts z,es:=s.es++[.ref u],kh:=B8 s.kh (Sum.inr z) (.int (g.st z))} _ (o3.trans oF) (hT3.held (B8 s.kh (Sum.inr z) (.int (g.st z)))) rfl rfl rfl rfl (hL3.off hT3 oF);exact ⟨dx3,fs3,ho3,hf3.m _ (by simp),x,_,hT3,_,ts,hs3,nd,hz,_,_,hL2,Z1,dx3,fs3,ho3,T.Z4,T.Zt,_,hf3.he,x.he,rfl,_,Kl.k (k:=Sum.inr z) hT3.he (by show s.kh.length < _;omega),fin⟩
variable (Z07:Ca P w K mg base CX0 5 Z1 "fetch" ["self","word","name"] (Dq K Z1 Z2))
include T Zc Z07 Zm in
theorem Z6w(F:Fun K "read" "Tower.read" Z3u f fd):Ar P w K mg base CX0 6 f fd ["self","name"] (Ds K Z1 Z2):=by
 have sc:Ab ["self","name","place"] ["self","name"] (A7 Z3u):=by walk_at "sc"
 walk_at "ok"
 · exact n7 h_ fun _ _ _ _ _ _ _=>rfl
 refine x7 h_ fun t x s g z ts B e_=>y5 e_ fun e0 hG hz hB q=>?_;clear e_ h_;subst e0
 refine ⟨_,(@A1 _ _ _ _ _ (Ay (i:=2) sc.nd rfl (Or.inl rfl) (Ak Zc T.Z4 hr (Av Ac) (pv 0) (A0 (pv 1) A2)))
  (@A1 _ _ _ _ _ (Lv (Af (pv 0) rfl) (pv 2) Kq A8 Kz Kk)
  (@A1 _ _ _ _ _ (Az (Ao D1 (pv 2) (Ap Aq rfl T.Zh FC (A0 (Af (pv 0) rfl) A2)) (nomark _))
   (@A5 _ _ _ (Ai (Ak Z07 T.Z4 hr (Av Ac) (pv 0) (A0 Am (A0 (pv 1) A2)))))
   Ag)
  (@A1 _ _ _ _ _ (Ai (Ak Zm T.Z4 hr (Av Ac) (pv 0) (A0 (pv 1) A2)))
  (@A5 _ _ _ (@Ae _ _ _ _ (Ey (C8 hr) (Af (pv 0) rfl) (pv 1) (fun _ _=>rfl)))))))),?_⟩
 walk_at "st";have hW:=hG.to;obtain ⟨dx,fs,ho,hf⟩:=hW.tw.o;walk_at "go";refine ⟨dx,fs,ho,hf.m _ (by simp),x,s,hW.tw,ts,hW.sk,hW.tn,hz,hW.zl,hW.zz,hW.rs,fun k H1 sm1 hk hkR hk1 hk2=>?_⟩;have hT1:=hW.tw.same sm1;have o1:Off (own t x) H H1:= .of sm1;obtain ⟨dx1,fs1,ho1,hf1⟩:=hT1.o;have hfl:=hW.ff;have hgk:s.ff[k]?=some (s.ff.getD k 0):=Ep (by omega);walk_at "go";refine ⟨Z1,dx1,fs1,ho1,T.Z4,T.Z0k,_,hf1.fi,?_⟩;refine ⟨x.fi,s.ff.map V.int,k,V.int (s.ff.getD k 0),rfl,rfl,SqL.of hT1.fi,by rw [Fi,hgk];rfl,?_⟩;walk_at "go";refine ⟨_,hT1.fi,k,by rw [Fa];exact Pm (by omega),?_⟩;rw [← RK];have hT2:=hT1.find (s.ff.set k (s.ff.getD k 0+1));have o2:Off (own t x) H (upd H1 x.fi (.lst ((s.ff.set k (s.ff.getD k 0+1)).map V.int))):=o1.trans (Off.put (by simp [own]))
 have hff2:(s.ff.set k (s.ff.getD k 0+1)).length=s.zs.length+1:=by rw [Rb];exact hfl
 have hfb:s.ff.set k (s.ff.getD k 0+1)=bump s.ff (shx s.zs s.R z)∧True:=⟨by rw [show shx s.zs s.R z=k by omega];rfl,trivial⟩
 generalize upd H1 x.fi (.lst ((s.ff.set k (s.ff.getD k 0+1)).map V.int))=H2 at hT2 o2 ⊢;generalize s.ff.set k (s.ff.getD k 0+1)=ff2 at hT2 hff2 hfb;have hs2:=hW.sk.off o2;have hL2:=(hG.g.off hW.tw o2).cast (s':={s with ff:=ff2}) rfl rfl rfl rfl;obtain ⟨dx2,fs2,ho2,hf2⟩:=hT2.o;clear hT1 o1 ho1 hf1 hgk hfl;walk_at "go";refine ⟨Z1,dx2,fs2,ho2,T.Z4,T.Zx,_,hf2.si,x.si,rfl,_,.inl (SqL.of hT2.si),?_⟩;rw [Fa];rename_i rest hrest
 have key:∀(s3:TwS) (H3:Hp),Off (own t x) H H3→B9 Z1 H3 t x s3→s3.R=s.R→s3.zs=s.zs→s3.ff=ff2→s3.pd=s.pd+(if z∈s.R then 0 else Bo ts z)→TwG H3 s3 (if z∈s.R then g else Dn (Str.ofString "fetch") z g) (B+1) (fun y=>y∈s.R∨y=z)→rest [some (V.ref t),some (V.str z),some (V.int k)] H3:=by
  intro s3 H3 o3 hT3 eR eZ eF eP hL3;obtain ⟨dx3,fs3,ho3,hf3⟩:=hT3.o;have hrl:=hW.rl;have hrs:=hW.rs;have hs1:=hW.s1;subst hrest;walk_at "go";refine ⟨dx3,fs3,ho3,hf3.m _ (by simp),x,s3,hT3,_,B+1,by rw [eR];exact hL3,by omega,by rw [eR];exact hW.nd,by rw [eR];omega,by rw [eR,eZ];exact hrs,by rw [eZ];exact hs1,fun s4 H4 o4 hT4 eR4 eZ4 eF4 eP4 hL4=>?_⟩;rw [eR,eZ]at hL4;obtain ⟨dx4,fs4,ho4,hf4⟩:=hT4.o
  have eR5:s4.R=Di z s:=by rw [eR4,eR,eZ];rfl
  have hzin:z∈s4.R:=by
   rw [eR5];unfold Di
   obtain ⟨n,hn⟩:∃n,s.zs.sum.toNat=n+1:=⟨s.zs.sum.toNat - 1,by omega⟩
   rw [hn,Re];exact Fj
  have hi:=hL4.h z hzin;walk_at "go";refine ⟨Z1,dx4,fs4,ho4,T.Z4,T.Zt,_,hf4.he,x.he,rfl,.int ((Cs s.zs.sum s.R z g).h z),by rw [← show B1 s4.kh (Sum.inr z)=some (.int ((Cs s.zs.sum s.R z g).h z)) from hi];exact Cw.k (k:=Sum.inr z) hT4.he,?_⟩;have o5:=o3.trans o4;exact q s4 H4 o5 ⟨Ga hW hz o5 hT4 eR5 (by rw [eZ4,eZ]) hL4.toL (by rw [eF4];exact hff2),hL4⟩ eR5 (by rw [eZ4,eZ]) (by rw [eP4,eP]) (by rw [eF4];exact hfb.1)
 clear hrest;have hl:=hW.l
 by_cases hk2:k=s.zs.length
 · rw [if_pos (by show (k:Int)=(s.zs.length:Int);omega)]
   have hzR:z∉s.R:=fun h=>by have:=hkR.mpr h;omega
   refine ⟨dx2,fs2,ho2,hf2.m _ (by simp),x,_,hT2,g,ts,hs2,hW.tn,hz,B,_,hL2,by omega,fun s3 H3 o3 hT3 e1 e2 e3 e4 hL3=>key s3 H3 (o2.trans o3) hT3 e1 e2 e3 (by rw [e4,if_neg hzR]) (by rw [if_neg hzR];exact hL3)⟩
 · rw [if_neg (by show ¬(k:Int)=(s.zs.length:Int);omega)]
   have hzR:z∈s.R:=hkR.mp (by omega);have hl2:=hL2.iff (q:=fun y=>y∈s.R∨y=z) (B':=B+1) (fun u=>⟨.inl,fun h=>h.elim id fun e=>by rw [e];exact hzR⟩) (by omega) (by omega);exact key _ H2 o2 hT2 rfl rfl rfl (by rw [if_pos hzR,Rh]) (by rw [if_pos hzR];exact hl2)
variable (Z29:Ca P w K mg base CX0 6 Z1 "read" ["self","name"] (Ds K Z1 Z2))
include T Zc Zd Z16 Zm in
theorem Z6x(F:Fun K "keep" "Tower.keep" Z3v f fd):Ar P w K mg base CX0 6 f fd ["self","name","value"] (Dt K Z1 Z2 false):=by
 have sc:Ab ["self","name","value","place"] ["self","name","value"] (A7 Z3v):=by walk_at "sc"
 walk_at "ok"
 · exact n8 h_ fun _ _ _ _ _ _ _ _=>rfl
 refine x8 h_ fun t x s g z v ts B e_=>y7 e_ fun e0 hv1 hv2 hG hz hB q=>?_;clear e_ h_;subst e0
 refine ⟨_,(@A1 _ _ _ _ _ (Ay (i:=3) sc.nd rfl (Or.inl rfl) (Ak Zc T.Z4 hr (Av Ac) (pv 0) (A0 (pv 1) A2)))
  (@A1 _ _ _ _ _ (Az (Dm (Dd (Ad Zd hr rfl Ac (A0 (pv 2) (A0 (Ah P5 A8 (Ah Kc A8 A8)) (A0 (Ah Kc A8 A8) A2))))))
   (@A5 _ _ _ Be)
   Ag)
  (@A1 _ _ _ _ _ (Lv (Af (pv 0) rfl) (pv 3) Kq A8 Kz Kk)
  (@A1 _ _ _ _ _ (Ee (C8 hr) (Af (pv 0) rfl) (pv 1) (pv 2) rfl)
  (@A1 _ _ _ _ _ (Ai (Ak Z16 T.Z4 hr (Av Ac) (pv 0) (A0 (pv 1) A2)))
  (@A5 _ _ _ (Ai (Ak Zm T.Z4 hr (Av Ac) (pv 0) (A0 (pv 1) A2))))))))),?_⟩
 walk_at "st";have hW:=hG.to;obtain ⟨dx,fs,ho,hf⟩:=hW.tw.o;have hrl:=hW.rl;have hrs:=hW.rs;have hs1:=hW.s1;walk_at "go";refine ⟨dx,fs,ho,hf.m _ (by simp),x,s,hW.tw,ts,hW.sk,hW.tn,hz,hW.zl,hW.zz,hW.rs,fun k H1 sm1 hk hkR hk1 hk2=>?_⟩;have hT1:=hW.tw.same sm1;have o1:Off (own t x) H H1:= .of sm1;obtain ⟨dx1,fs1,ho1,hf1⟩:=hT1.o;have hfl:=hW.ff;have hgk:s.ff[k]?=some (s.ff.getD k 0):=Ep (by omega)
 have hw:wIn (0 - 10 ^ 30) (10 ^ 30) (V.int v)=true:=by simp [wIn];omega
 walk_at "go";refine ⟨rfl,?_⟩;rw [if_neg (by rw [hw];decide)];walk_at "go";refine ⟨Z1,dx1,fs1,ho1,T.Z4,T.Z0k,_,hf1.fi,?_⟩;refine ⟨x.fi,s.ff.map V.int,k,V.int (s.ff.getD k 0),rfl,rfl,SqL.of hT1.fi,by rw [Fi,hgk];rfl,?_⟩;walk_at "go";refine ⟨_,hT1.fi,k,by rw [Fa];exact Pm (by omega),?_⟩;rw [← RK];have hT2:=hT1.find (s.ff.set k (s.ff.getD k 0+1));have o2:Off (own t x) H (upd H1 x.fi (.lst ((s.ff.set k (s.ff.getD k 0+1)).map V.int))):=o1.trans (Off.put (by simp [own]))
 have hff2:(s.ff.set k (s.ff.getD k 0+1)).length=s.zs.length+1:=by rw [Rb];exact hfl
 have hfb:s.ff.set k (s.ff.getD k 0+1)=bump s.ff (shx s.zs s.R z)∧True:=⟨by rw [show shx s.zs s.R z=k by omega];rfl,trivial⟩
 generalize upd H1 x.fi (.lst ((s.ff.set k (s.ff.getD k 0+1)).map V.int))=H2 at hT2 o2 ⊢;generalize s.ff.set k (s.ff.getD k 0+1)=ff2 at hT2 hff2 hfb;have hL2:=(hG.g.off hW.tw o2).cast (s':={s with ff:=ff2}) rfl rfl rfl rfl;obtain ⟨dx2,fs2,ho2,hf2⟩:=hT2.o;clear hT1 o1 ho1 hf1 hgk hfl;have n1:=hG.g.n1;walk_at "go";refine ⟨Z1,dx2,fs2,ho2,T.Z4,T.Zt,_,hf2.he,x.he,rfl,_,Kl.k (k:=Sum.inr z) hT2.he (by show s.kh.length < _;omega),?_⟩;have hT3:=hT2.held (B8 s.kh (Sum.inr z) (.int v));have oP:Off (own t x) H2 (upd H2 x.he (.dK (B8 s.kh (Sum.inr z) (.int v)))):=Off.put (by simp [own]);have o3:=o2.trans oP;have hL3:=(hL2.kept (z:=z) v (by omega)).off hT2 oP;walk_at "go";show _;generalize upd H2 x.he (.dK (B8 s.kh (Sum.inr z) (.int v)))=H3 at hT3 o3 hL3 ⊢;obtain ⟨dx3,fs3,ho3,hf3⟩:=hT3.o;refine ⟨dx3,fs3,ho3,hf3.m _ (by simp),x,_,hT3,_,B+1,_,hL3,by omega,.inr rfl,fun s4 H4 o4 hT4 eR eZ eF eP hL4=>?_⟩;obtain ⟨dx4,fs4,ho4,hf4⟩:=hT4.o
 have eR':s4.R=s.R:=eR;have eZ':s4.zs=s.zs:=eZ;have eP':s4.pd=s.pd:=eP
 have eF':s4.ff=ff2∧True:=⟨eF,trivial⟩
 clear eR eZ eF eP;walk_at "go";refine ⟨dx4,fs4,ho4,hf4.m _ (by simp),x,s4,hT4,_,B+2,by rw [eR'];exact hL4,by omega,by rw [eR'];exact hW.nd,by rw [eR'];omega,by rw [eR',eZ'];exact hrs,by rw [eZ'];exact hs1,fun s5 H5 o5 hT5 eR5 eZ5 eF5 eP5 hL5=>?_⟩;rw [eR',eZ']at hL5
 have eR6:s5.R=Di z s:=by rw [eR5,eR',eZ'];rfl
 have o6:=(o3.trans o4).trans o5;walk_at "go";exact q s5 H5 o6 ⟨Ga hW hz o6 hT5 eR6 (by rw [eZ5,eZ']) hL5.toL (by rw [eF5,eF'.1];exact hff2),hL5⟩ eR6 (by rw [eZ5,eZ']) (by rw [eP5,eP']) (by rw [eF5,eF'.1];exact hfb.1)
variable (Z2a:Ca P w K mg base CX0 6 Z1 "keep" ["self","name","value"] (Dt K Z1 Z2 false))
include T Zc Z07 Zm in
theorem Z65(F:Fun K "ahead" "Tower.ahead" Z3c f fd):Ar P w K mg base CX0 6 f fd ["self","name"] (D5 K Z1 Z2):=by
 have sc:Ab ["self","name"] ["self","name"] (A7 Z3c):=by walk_at "sc"
 walk_at "ok"
 · exact n7 h_ fun _ _ _ _ _ _ _=>rfl
 refine x7 h_ fun t x s g z ts B e_=>y5 e_ fun e0 hG hz hB q=>?_;clear e_ h_;subst e0
 refine ⟨_,(@A1 _ _ _ _ _ (Az (Ao Ki (Ak Zc T.Z4 hr (Av Ac) (pv 0) (A0 (pv 1) A2)) (Ap Aq rfl T.Zh FC (A0 (Af (pv 0) rfl) A2)) (nomark _))
  (@A5 _ _ _ (@Ae _ _ _ _ Eb))
  Ag)
  (@A1 _ _ _ _ _ (Ai (Ak Z07 T.Z4 hr (Av Ac) (pv 0) (A0 Am (A0 (pv 1) A2))))
  (@A1 _ _ _ _ _ (Ai (Ak Zm T.Z4 hr (Av Ac) (pv 0) (A0 (pv 1) A2)))
  (@A5 _ _ _ (@Ae _ _ _ _ Eb))))),?_⟩
 walk_at "st";have hW:=hG.to;obtain ⟨dx,fs,ho,hf⟩:=hW.tw.o;have hrl:=hW.rl;have hrs:=hW.rs;have hs1:=hW.s1;walk_at "go";refine ⟨dx,fs,ho,hf.m _ (by simp),x,s,hW.tw,ts,hW.sk,hW.tn,hz,hW.zl,hW.zz,hW.rs,fun k H1 sm1 hk hkR hk1 hk2=>?_⟩;have hG1:=hG.same sm1;have hT1:=hG1.to.tw;have o1:Off (own t x) H H1:= .of sm1;have hs2:=hW.sk.off o1;obtain ⟨dx1,fs1,ho1,hf1⟩:=hT1.o;refine ⟨Z1,dx1,fs1,ho1,T.Z4,T.Zx,_,hf1.si,x.si,rfl,_,.inl (SqL.of hT1.si),?_⟩;rw [Fa]
 by_cases hk2:k < s.zs.length
 · rw [if_pos (by omega)]
   have hzR:=hkR.mp hk2
   have eG:Ce s.zs.sum s.R z g=g:=by unfold Ce;rw [if_pos hzR]
   have:=q s H1 o1 (by rw [eG];exact ⟨hG1.to.up (by omega) (by omega),hG1.g.iff (fun _=>Iff.rfl) (by omega) (by omega)⟩) (by rw [if_pos hzR]) rfl (by rw [if_pos hzR,Rh]) rfl;rw [FE (fun h=>h hzR)]at this;exact this
 · rw [if_neg (by omega)]
   have hzR:¬z∈s.R:=fun h=>hk2 (hkR.mpr h)
   have eG:Ce s.zs.sum s.R z g=Bz s.zs.sum s.R z (Dn (Str.ofString "ahead") z g):=by unfold Ce;rw [if_neg hzR]
   walk_at "go";refine ⟨dx1,fs1,ho1,hf1.m _ (by simp),x,_,hT1,g,ts,hs2,hW.tn,hz,B,_,hG1.g,by omega,fun s3 H3 o3 hT3 eR eZ eF eP hL3=>?_⟩;obtain ⟨dx3,fs3,ho3,hf3⟩:=hT3.o;walk_at "go";refine ⟨dx3,fs3,ho3,hf3.m _ (by simp),x,s3,hT3,_,B+1,by rw [eR];exact hL3,by omega,by rw [eR];exact hW.nd,by rw [eR];omega,by rw [eR,eZ];exact hrs,by rw [eZ];exact hs1,fun s4 H4 o4 hT4 eR4 eZ4 eF4 eP4 hL4=>?_⟩;rw [eR,eZ]at hL4
   have eR5:s4.R=Di z s:=by rw [eR4,eR,eZ];rfl
   have o5:=(o1.trans o3).trans o4;walk_at "go";have:=q s4 H4 o5 (by rw [eG];exact ⟨Ga hW hz o5 hT4 eR5 (by rw [eZ4,eZ]) hL4.toL (by rw [eF4,eF];exact hW.ff),hL4⟩) (by rw [eR5,if_neg hzR]) (by rw [eZ4,eZ]) (by rw [eP4,eP,if_neg hzR]) (by rw [eF4,eF]);rw [FD (show z∉s.R from hzR)]at this;exact this
variable (Z1l:Ca P w K mg base CX0 6 Z1 "ahead" ["self","name"] (D5 K Z1 Z2))
include T Z06 in
theorem Z6y(F:Fun K "rest" "Tower.rest" Z3w f fd):Ar P w K mg base CX0 4 f fd ["self"] (Du K Z1 Z2):=by
 have sc:Ab ["self","names","name"] ["self"] (A7 Z3w):=by walk_at "sc"
 walk_at "ok"
 · exact n6 h_ fun _ _ _ _ _ _=>rfl
 refine x6 h_ fun t x s g ts B e_=>y4 e_ fun e0 hG hB q=>?_;clear e_ h_;subst e0
 refine ⟨_,(@A1 _ _ _ _ _ (Si (i:=1) "name" [0] sc.nd rfl rfl rfl rfl (Bt (Af (pv 0) rfl)) (fun b=>(Ih (Lb (C8 hr) (pv 0) (Af (pv 1) rfl)))) (fun b=>(pv 0)))
  (@A1 _ _ _ _ _ (D0 PassesOwn.never rfl (Bt (pv 1)) (Bb (i:=2) sc.nd rfl (Or.inl rfl))
   (@A5 _ _ _ (Ai (Ak Z06 T.Z4 hr (Av Ac) (pv 0) (A0 (pv 2) A2)))))
  (@A1 _ _ _ _ _ (Bc (pv 0) C9 rfl)
  (@A5 _ _ _ (@Ae _ _ _ _ (Ap Aq rfl T.Zh FC (A0 (pv 1) A2))))))),?_⟩
 walk_at "st";have hW:=hG.to;obtain ⟨dx,fs,ho,hf⟩:=hW.tw.o;have hrl:=hW.rl;walk_at "go";refine ⟨Z1,dx,fs,ho,T.Z4,T.Zs,_,hf.ro,x.ro,rfl,⟨_,SqL.of hW.tw.ro⟩,Sg (xs:=s.R.map V.str) (J1l s.kl) (fun v=>v) (SqL.of hW.tw.ro) (by rw [Fa];omega) ?_ ?_ ?_⟩
 · intro b v H5 QT hx sm q'
   obtain ⟨y,hy,rfl⟩:=FH.mp hx;have q2:=q' H5 (A9.refl _);walk_at "go";exact ⟨Z1,dx,fs,sm _ _ ho,T.Z4,T.Z01,_,hf.la,x.la,rfl,_,Cw.k (k:=Sum.inr y) (sm _ _ hW.tw.la),q2⟩
 · intro b v H5 Q' hx _ sm q'
   obtain ⟨y,_,rfl⟩:=FH.mp hx;walk_at "go";exact q' _ (A9.refl _)
 · intro D H1 hD sm1 hD1
   rw [Ol,show (s.R.filter fun y=>(B1 s.kl (Sum.inr y)).isSome)=s.R.filter g.l by congr 1;funext y;exact hG.g.l y]at hD1;have hns:∀y∈s.R.filter g.l,y∈s.R:=fun y hy=>(HD.mp hy).1;have hnl:(s.R.filter g.l).length≤59:=FA (Ho _ _) hrl;have hrG:G3 s.R g={C6 (s.R.filter g.l) g with l:=fun _=>false}:=rfl;generalize s.R.filter g.l=ns at hD1 hns hnl hrG q;have hT1:=hW.tw.same sm1;have o1:Off (own t x) H H1:= .of sm1
   have hDo:∀b∈own t x,D≠b:=fun b hb e=>by
    have hb':b=t∨b=x.ro∨b=x.he∨b=x.la∨b=x.so∨b=x.en∨b=x.fi:=by simpa [own] using hb
    have hT0:=hW.tw
    rcases hb' with h | h | h | h | h | h | h <;> rw [e,h]at hD
    · rw [ho]at hD;cases hD
    · rw [hT0.ro]at hD;cases hD
    · rw [hT0.he]at hD;cases hD
    · rw [hT0.la]at hD;cases hD
    · rw [hT0.so]at hD;cases hD
    · rw [hT0.en]at hD;cases hD
    · rw [hT0.fi]at hD;cases hD
   walk_at "go";refine ⟨⟨_,SqL.of hD1⟩,?_⟩;rename_i rest hrest;refine Dy (xs:=ns.map V.str) (fun i σ H'=>∃(s':TwS) (v2:Option V),σ=[some (V.ref t),some (V.ref D),v2]∧Off (own t x) H H'∧H' D=some (.lst (ns.map V.str))∧B9 Z1 H' t x s'∧s'.R=s.R∧s'.zs=s.zs∧s'.ff=s.ff∧s'.pd=s.pd∧TwG H' s' (C6 (ns.take i) g) (B+i) (fun y=>y∈s.R)) ⟨s,none,rfl,o1,hD1,hT1,rfl,rfl,rfl,rfl,hG.g.same sm1⟩ (fun i σ H' _ h_=>by obtain ⟨s',v2,_,_,hD',_⟩:=h_;exact SqL.of hD') ?_ ?_
   · rintro i v σ H' hv ⟨s',v2,rfl,o',hD',hT',e1,e2,e3,e4,hL'⟩
     have hi:i < ns.length:=by
      have:=(Fc.mp hv).1;rw [Fa]at this;exact this
     rw [Fi,G9 hi]at hv;cases hv;have hyR:=hns _ (Fo (G9 hi))
     have htk:C6 (ns.take (i+1)) g=(C6 (ns.take i) g).write (ns.getD i Str.empty):=by
      rw [Ri,G9 hi];unfold C6;rw [RL];rfl
     generalize ns.getD i Str.empty=y at hyR htk ⊢;obtain ⟨dx',fs',ho',hf'⟩:=hT'.o;walk_at "go";refine ⟨dx',fs',ho',hf'.m _ (by simp),x,s',hT',_,B+i,_,hL',by omega,hyR,fun s2 H2 o2 hT2 f1 f2 f3 f4 _ hL2=>?_⟩;walk_at "go";exact ⟨o'.trans o2,o2 _ _ hD' (fun h=>hDo _ h rfl),s2,hT2,f1.trans e1,f2.trans e2,f3.trans e3,f4.trans e4,by rw [htk];exact hL2⟩
   · rintro σ H' ⟨s',v2,rfl,o',hD',hT',e1,e2,e3,e4,hL'⟩
     obtain ⟨dx',fs',ho',hf'⟩:=hT'.o;rw [Fa,FU]at hL';walk_at "go";intro l hl0;refine ⟨Z1,dx',fs',by rw [A4 (A6 ho' hl0)];exact ho',T.Z4,T.Z01,by have:=hf'.n;omega,?_⟩;have hTn:=hT'.newLate ho' hf' hl0;have oN:Off (own t x) H' (upd (upd H' l (.dK [])) t (.ins Z1 dx' (Aj (Str.ofString "late") (.ref l) fs'))):=(Off.of (A9.new hl0)).trans (Off.put (by simp [own]))
     have hlH:H l=none:=by
      cases e:H l with
      | none=>rfl
      | some o=>
       by_cases hin:l∈own t x
       · have hb':l=t∨l=x.ro∨l=x.he∨l=x.la∨l=x.so∨l=x.en∨l=x.fi:=by simpa [own] using hin
         rcases hb' with h | h | h | h | h | h | h <;> rw [h]at hl0
         · rw [ho']at hl0;cases hl0
         · rw [hT'.ro]at hl0;cases hl0
         · rw [hT'.he]at hl0;cases hl0
         · rw [hT'.la]at hl0;cases hl0
         · rw [hT'.so]at hl0;cases hl0
         · rw [hT'.en]at hl0;cases hl0
         · rw [hT'.fi]at hl0;cases hl0
       · rw [o' _ _ e hin]at hl0;cases hl0
     have hDN:=oN _ _ hD' (fun h=>hDo _ h rfl);generalize upd (upd H' l (.dK [])) t (.ins Z1 dx' (Aj (Str.ofString "late") (.ref l) fs'))=HN at hTn oN hDN ⊢;have oA:=o'.trans oN
     have hown:∀b∈own t {x with la:=l},b∈own t x++[l]:=fun b hb=>by
      have hb':b=t∨b=x.ro∨b=x.he∨b=l∨b=x.so∨b=x.en∨b=x.fi:=by simpa [own] using hb
      simp only [own,Fq,Fh,FR,or_false]
      rcases hb' with h | h | h | h | h | h | h <;> simp [h]
     have hsN:B2 K Z2 HN x.st ts (own t {x with la:=l}):=((hW.sk.mono (L':=own t x++[l]) (fun b hb=>by rcases Fq.mp hb with h | h;(· exact .inl h);(· rw [Fg.mp h];exact .inr hlH))).off (oA.mono fun b hb=>FJ _ hb)).mono fun b hb=> .inl (hown b hb);walk_at "go";refine ⟨_,.inl (SqL.of hDN),?_⟩;have hGn:=(hL'.noLate).off hT' oN;rw [← hrG]at hGn;rw [Fa];refine q {x with la:=l} {s' with kl:=[]} HN oA (fun b hb=>?_) ⟨⟨hTn,hsN,?_,by show s'.R.Nodup;rw [e1];exact hW.nd,by show (s'.R.length:Int)≤s'.zs.sum;rw [e1,e2];exact hW.rs,by show 1≤s'.zs.length;rw [e2];exact hW.z1,by show s'.zs.length≤6;rw [e2];exact hW.zl,by show ∀z∈s'.zs,_;rw [e2];exact hW.zz,by show ∀y∈s'.R,_;rw [e1];exact hW.rn,hW.tn,hW.tl,by show s'.ff.length=s'.zs.length+1;rw [e2,e3];exact hW.ff⟩,?_⟩ e1 e2 e4 e3 rfl rfl
     · rcases Fq.mp (hown b hb) with h | h
       · exact .inl h
       · rw [Fg.mp h];exact .inr hlH
     · show TwL _ _ (fun y=>y∈s'.R)
       exact (hGn.iff (q:=fun y=>y∈s'.R) (B':=B+100) (fun u=>by rw [e1]) (by omega) (by omega)).toL
     · show TwG _ _ _ _ (fun y=>y∈s'.R)
       exact hGn.iff (q:=fun y=>y∈s'.R) (B':=B+100) (fun u=>by rw [e1]) (by omega) (by omega)
variable (Z2b:Ca P w K mg base CX0 4 Z1 "rest" ["self"] (Du K Z1 Z2))
include T in
theorem Z66(F:Fun K "found" "Tower.found" Z3d f fd):Ar P w K mg base CX0 1 f fd ["self"] (D6 Z1):=by
 have sc:Ab ["self"] ["self"] (A7 Z3d):=by walk_at "sc"
 walk_at "ok"
 · exact n3 h_ fun _ _ _=>rfl
 refine x3 h_ fun t x s e_=>y3 e_ fun e0 hT q=>?_;clear e_ h_;subst e0;refine ⟨_,(@A5 _ _ _ (@Ae _ _ _ _ (B5 Df rfl T.Z32 (by first | rfl | decide+kernel) (A0 (Af (pv 0) rfl) A2)))),?_⟩;walk_at "st";obtain ⟨dx,fs,ho,hf⟩:=hT.o;walk_at "go";exact ⟨Z1,dx,fs,ho,T.Z4,T.Z0k,_,hf.fi,x.fi,rfl,_,.inl (SqL.of hT.fi),fun l hl=>q l _ hl (A9.new hl) A3⟩
variable (Z1m:Ca P w K mg base CX0 1 Z1 "found" ["self"] (D6 Z1))
include T in
theorem Z67(F:Fun K "spent" "Tower.spent" Z3e f fd):Ar P w K mg base CX0 1 f fd ["self"] (D4 Z1):=by
 have sc:Ab ["self"] ["self"] (A7 Z3e):=by walk_at "sc"
 walk_at "ok"
 · exact n3 h_ fun _ _ _=>rfl
 refine x3 h_ fun t x s e_=>y3 e_ fun e0 hT q=>?_;clear e_ h_;subst e0;refine ⟨_,(@A5 _ _ _ (@Ae _ _ _ _ (Af (pv 0) rfl))),?_⟩;walk_at "su";obtain ⟨dx,fs,ho,hf⟩:=hT.o;walk_at "go";exact ⟨Z1,dx,fs,ho,T.Z4,T.Z10,_,hf.pd,q⟩
variable (Z1n:Ca P w K mg base CX0 1 Z1 "spent" ["self"] (D4 Z1))
include T Z04 Z05 Zi in
theorem Z6z(F:Fun K "__init__" "Tower.__init__" Z3x f fd):Ar P w K mg base CX0 5 f fd ["self","stock","sizes"] (Ek K Z1 Z2):=by
 have sc:Ab ["self","stock","sizes"] ["self","stock","sizes"] (A7 Z3x):=by walk_at "sc"
 walk_at "ok"
 · exact n6 h_ fun _ _ _ _ _ _=>rfl
 refine x6 h_ fun t dx p a ts zs e_=>y11 e_ fun e0 ht hs nd hr1 htl hS hz1 hz6 hzz q=>?_;clear e_ h_;subst e0
 refine ⟨_,(@A1 _ _ _ _ _ (Ai (Ad Z04 hr rfl Ac (A0 (pv 2) A2)))
  (@A1 _ _ _ _ _ (Ai (Ad Z05 hr rfl Ac (A0 (pv 1) (A0 (G7 Zi T.Za hr (Av Ac) (pv 1)) A2))))
  (@A1 _ _ _ _ _ (Bc (pv 0) (pv 1) rfl)
  (@A1 _ _ _ _ _ (Bc (pv 0) (B5 Df rfl T.Z32 (by first | rfl | decide+kernel) (A0 (pv 2) A2)) rfl)
  (@A1 _ _ _ _ _ (Bc (pv 0) (@Bn _ _ _ _ A2) rfl)
  (@A1 _ _ _ _ _ (Bc (pv 0) C9 rfl)
  (@A1 _ _ _ _ _ (Bc (pv 0) C9 rfl)
  (@A1 _ _ _ _ _ (Bc (pv 0) C9 rfl)
  (@A1 _ _ _ _ _ (Bc (pv 0) (@Bn _ _ _ _ A2) rfl)
  (@A1 _ _ _ _ _ (Bc (pv 0) (Ah Tl (@Bn _ _ _ _ (A0 A8 A2)) (Ah Co (Ap Aq rfl T.Zh FC (A0 (pv 2) A2)) A8)) rfl)
  (@A5 _ _ _ (Bc (pv 0) A8 rfl)))))))))))),?_⟩
 walk_at "st";obtain ⟨dy,e,kvs,h1,h2,h3,h4,h5⟩:=Au.has hs;walk_at "go";refine ⟨zs,hS,hz1,hz6,hzz,?_⟩;walk_at "go";refine ⟨dy,flds e,h1,by rfl,ts,hs,fun l hl=>?_⟩;have sm1:A9 H (upd H l (.lst ((ts.map (·.1)).map V.str))):=A9.new hl;refine ⟨ts,hs.same sm1,nd,ts.map (·.1),SqL.of A3,fun y hy=>hy,hr1,by rw [Fa];omega,?_⟩;have ht1:=sm1 _ _ ht;have hs1:=B2.of (hs.same sm1);have hS1:=sm1.seq hS
 have nw:∀b,upd H l (.lst ((ts.map (·.1)).map V.str)) b=none→H b=none:=fun b hb=>by
  cases q:H b with
  | none=>rfl
  | some o=>rw [sm1 _ _ q]at hb;cases hb
 generalize upd H l (.lst ((ts.map (·.1)).map V.str))=H1 at sm1 ht1 hs1 hS1 nw ⊢;walk_at "go";refine ⟨Z1,dx,[],ht1,T.Z4,T.Z0j,by decide,?_⟩;have sbA:SameBut t H1 (upd H1 t (.ins Z1 dx (Aj (Str.ofString "stock") (V.ref p) []))):=Im;have htA:upd H1 t (.ins Z1 dx (Aj (Str.ofString "stock") (V.ref p) [])) t=some (.ins Z1 dx (Aj (Str.ofString "stock") (V.ref p) [])):=A3;have hSA:=SqL.but sbA ht1 hS1;walk_at "go";show _;generalize upd H1 t (.ins Z1 dx (Aj (Str.ofString "stock") (V.ref p) []))=HA at sbA htA hSA ⊢;intro si hsi;refine ⟨Z1,dx,_,by rw [A4 (A6 htA hsi)];exact htA,T.Z4,T.Zx,Fx (Aa (Fe _)) (by decide),?_⟩;obtain ⟨sb1,ht2,hsi1,k1,nsi,tsi,d1⟩:=By (o:= .lst (zs.map V.int)) (f:=Str.ofString "sizes") sbA htA hsi;walk_at "go";show _;generalize upd (upd HA si (.lst (zs.map V.int))) t (.ins Z1 dx (Aj (Str.ofString "sizes") (V.ref si) (Aj (Str.ofString "stock") (V.ref p) [])))=HB0 at sb1 ht2 k1 hsi1 ⊢
 intro ro hron;refine ⟨Z1,dx,_,by rw [A4 (A6 ht2 hron)];exact ht2,T.Z4,T.Zs,Fx (Aa (Aa (Fe _))) (by decide),?_⟩;obtain ⟨sb2,ht3,hro2,k2,nro,tro,d2⟩:=By (o:= .lst []) (f:=Str.ofString "row") sb1 ht2 hron;have hsi2:=k2 _ _ hsi1 tsi;have ne_ro_si:ro≠si:=(d2 _ _ hsi1).symm;walk_at "go";show _;generalize upd (upd HB0 ro (.lst [])) t (.ins Z1 dx (Aj (Str.ofString "row") (V.ref ro) (Aj (Str.ofString "sizes") (V.ref si) (Aj (Str.ofString "stock") (V.ref p) []))))=HB1 at sb2 ht3 k2 hsi2 hro2 ⊢;intro he hhen;refine ⟨Z1,dx,_,by rw [A4 (A6 ht3 hhen)];exact ht3,T.Z4,T.Zt,Fx (Aa (Aa (Aa (Fe _)))) (by decide),?_⟩;obtain ⟨sb3,ht4,hhe3,k3,nhe,the,d3⟩:=By (o:= .dK []) (f:=Str.ofString "held") sb2 ht3 hhen;have hsi3:=k3 _ _ hsi2 tsi;have ne_he_si:he≠si:=(d3 _ _ hsi2).symm;have hro3:=k3 _ _ hro2 tro;have ne_he_ro:he≠ro:=(d3 _ _ hro2).symm;walk_at "go";show _
 generalize upd (upd HB1 he (.dK [])) t (.ins Z1 dx (Aj (Str.ofString "held") (V.ref he) (Aj (Str.ofString "row") (V.ref ro) (Aj (Str.ofString "sizes") (V.ref si) (Aj (Str.ofString "stock") (V.ref p) [])))))=HB2 at sb3 ht4 k3 hsi3 hro3 hhe3 ⊢;intro la hlan;refine ⟨Z1,dx,_,by rw [A4 (A6 ht4 hlan)];exact ht4,T.Z4,T.Z01,Fx (Aa (Aa (Aa (Aa (Fe _))))) (by decide),?_⟩;obtain ⟨sb4,ht5,hla4,k4,nla,tla,d4⟩:=By (o:= .dK []) (f:=Str.ofString "late") sb3 ht4 hlan;have hsi4:=k4 _ _ hsi3 tsi;have ne_la_si:la≠si:=(d4 _ _ hsi3).symm;have hro4:=k4 _ _ hro3 tro;have ne_la_ro:la≠ro:=(d4 _ _ hro3).symm;have hhe4:=k4 _ _ hhe3 the;have ne_la_he:la≠he:=(d4 _ _ hhe3).symm;walk_at "go";show _;generalize upd (upd HB2 la (.dK [])) t (.ins Z1 dx (Aj (Str.ofString "late") (V.ref la) (Aj (Str.ofString "held") (V.ref he) (Aj (Str.ofString "row") (V.ref ro) (Aj (Str.ofString "sizes") (V.ref si) (Aj (Str.ofString "stock") (V.ref p) []))))))=HB3 at sb4 ht5 k4 hsi4 hro4 hhe4 hla4 ⊢
 intro so hson;refine ⟨Z1,dx,_,by rw [A4 (A6 ht5 hson)];exact ht5,T.Z4,T.Z0v,Fx (Aa (Aa (Aa (Aa (Aa (Fe _)))))) (by decide),?_⟩;obtain ⟨sb5,ht6,hso5,k5,nso,tso,d5⟩:=By (o:= .dK []) (f:=Str.ofString "store") sb4 ht5 hson;have hsi5:=k5 _ _ hsi4 tsi;have ne_so_si:so≠si:=(d5 _ _ hsi4).symm;have hro5:=k5 _ _ hro4 tro;have ne_so_ro:so≠ro:=(d5 _ _ hro4).symm;have hhe5:=k5 _ _ hhe4 the;have ne_so_he:so≠he:=(d5 _ _ hhe4).symm;have hla5:=k5 _ _ hla4 tla;have ne_so_la:so≠la:=(d5 _ _ hla4).symm;walk_at "go";show _;generalize upd (upd HB3 so (.dK [])) t (.ins Z1 dx (Aj (Str.ofString "store") (V.ref so) (Aj (Str.ofString "late") (V.ref la) (Aj (Str.ofString "held") (V.ref he) (Aj (Str.ofString "row") (V.ref ro) (Aj (Str.ofString "sizes") (V.ref si) (Aj (Str.ofString "stock") (V.ref p) [])))))))=HB4 at sb5 ht6 k5 hsi5 hro5 hhe5 hla5 hso5 ⊢;intro en henn;refine ⟨Z1,dx,_,by rw [A4 (A6 ht6 henn)];exact ht6,T.Z4,T.Z0l,Fx (Aa (Aa (Aa (Aa (Aa (Aa (Fe _))))))) (by decide),?_⟩
 obtain ⟨sb6,ht7,hen6,k6,nen,ten,d6⟩:=By (o:= .lst []) (f:=Str.ofString "entries") sb5 ht6 henn;have hsi6:=k6 _ _ hsi5 tsi;have ne_en_si:en≠si:=(d6 _ _ hsi5).symm;have hro6:=k6 _ _ hro5 tro;have ne_en_ro:en≠ro:=(d6 _ _ hro5).symm;have hhe6:=k6 _ _ hhe5 the;have ne_en_he:en≠he:=(d6 _ _ hhe5).symm;have hla6:=k6 _ _ hla5 tla;have ne_en_la:en≠la:=(d6 _ _ hla5).symm;have hso6:=k6 _ _ hso5 tso;have ne_en_so:en≠so:=(d6 _ _ hso5).symm;walk_at "go";show _;generalize upd (upd HB4 en (.lst [])) t (.ins Z1 dx (Aj (Str.ofString "entries") (V.ref en) (Aj (Str.ofString "store") (V.ref so) (Aj (Str.ofString "late") (V.ref la) (Aj (Str.ofString "held") (V.ref he) (Aj (Str.ofString "row") (V.ref ro) (Aj (Str.ofString "sizes") (V.ref si) (Aj (Str.ofString "stock") (V.ref p) []))))))))=HB5 at sb6 ht7 k6 hsi6 hro6 hhe6 hla6 hso6 hen6 ⊢;intro l0 hl0;have hS5:=SqL.but sb6 ht1 hS1;have smz:A9 HB5 (upd HB5 l0 (.lst [V.int 0])):=A9.new hl0
 have sbz:SameBut t H1 (upd HB5 l0 (.lst [V.int 0])):=sb6.trans (.of smz);have hlz:upd HB5 l0 (.lst [V.int 0]) l0=some (.lst [V.int 0]):=A3;have htz:=smz _ _ ht7;have hsiz:=smz _ _ hsi6;have hroz:=smz _ _ hro6;have hhez:=smz _ _ hhe6;have hlaz:=smz _ _ hla6;have hsoz:=smz _ _ hso6;have henz:=smz _ _ hen6;have hSz:=smz.seq hS5;generalize upd HB5 l0 (.lst [V.int 0])=HZ at sbz hlz htz hsiz hroz hhez hlaz hsoz henz hSz ⊢;refine ⟨_,.inl hSz,?_⟩;rw [Fa];refine ⟨l0,_,_,rfl,rfl,hlz,by omega,by omega,by simp;omega,fun fi hfi=>?_⟩;rw [J7u];refine ⟨Z1,dx,_,by rw [A4 (A6 htz hfi)];exact htz,T.Z4,T.Z0k,Fx (Aa (Aa (Aa (Aa (Aa (Aa (Aa (Fe _)))))))) (by decide),?_⟩;obtain ⟨sb7,ht8,hfi7,k7,nfi,tfi,d7⟩:=By (o:= .lst ((List.replicate (zs.length+1) (0:Int)).map V.int)) (f:=Str.ofString "finds") sbz htz hfi;have hsi7:=k7 _ _ hsiz tsi;have hro7:=k7 _ _ hroz tro;have hhe7:=k7 _ _ hhez the
 have hla7:=k7 _ _ hlaz tla;have hso7:=k7 _ _ hsoz tso;have hen7:=k7 _ _ henz ten;have ne_fi_si:=(d7 _ _ hsiz).symm;have ne_fi_ro:=(d7 _ _ hroz).symm;have ne_fi_en:=(d7 _ _ henz).symm;walk_at "go";refine ⟨Z1,dx,_,ht8,T.Z4,T.Z10,Fx (Aa (Aa (Aa (Aa (Aa (Aa (Aa (Aa (Fe _))))))))) (by decide),?_⟩
 have kz:∀b u,HZ b=some u→upd HZ fi (.lst ((List.replicate (zs.length+1) (0:Int)).map V.int)) b=some u:=fun b u e=>by rw [A4 (A6 e hfi)];exact e
 refine q ⟨p,si,ro,he,la,so,en,fi⟩ ⟨zs,[],[],[],[],[],List.replicate (zs.length+1) 0,0⟩ _ (fun b o e nb=>?_) ⟨?_,?_⟩ rfl rfl rfl rfl rfl (fun b hb=>?_)
 · rw [A4 nb];exact kz _ _ (sbz _ _ (sm1 _ _ e) nb)
 · have hfin:∀u:HO,SameBut t H1 (upd (upd HZ fi (.lst ((List.replicate (zs.length+1) (0:Int)).map V.int))) t u):=fun u b o e nb=>by rw [A4 nb];exact kz _ _ (sbz _ _ e nb)
   refine ⟨⟨⟨dx,f6 ⟨p,si,ro,he,la,so,en,fi⟩,A3,Sn _⟩,by rw [A4 tsi];exact kz _ _ hsiz,by rw [A4 tro];exact kz _ _ hroz,by rw [A4 the];exact kz _ _ hhez,by rw [A4 tla];exact kz _ _ hlaz,by rw [A4 tso];exact kz _ _ hsoz,by rw [A4 ten];exact kz _ _ henz,by rw [A4 tfi];exact A3,ne_la_he.symm,ne_so_he.symm,ne_so_la.symm,ne_ro_si,ne_en_ro.symm,ne_fi_ro.symm,ne_en_si.symm,ne_fi_si.symm,ne_fi_en.symm⟩,?_,⟨(fun y hy=>by cases hy),(fun y hy=>by cases hy),(fun y v hv=>by cases hv),Fl _,Fl _,Fl _,Fl _,by decide⟩,HK,?_,hz1,hz6,hzz,(fun y hy=>by cases hy),nd,htl,by simp⟩
   · refine ((hs1.ins ht1).mono fun b hb=>?_).off fun b o e n=>hfin _ b o e fun z=>n (by rw [z];simp [own])
     have hb':b=t∨b=ro∨b=he∨b=la∨b=so∨b=en∨b=fi:=by simpa [own] using hb
     rcases hb' with h | h | h | h | h | h | h <;> rw [h]
     · exact .inl Fj
     · exact .inr nro
     · exact .inr nhe
     · exact .inr nla
     · exact .inr nso
     · exact .inr nen
     · exact .inr nfi
   · have h4:=Ip (zs:=zs) (fun z hz=>(hzz z hz).1) zs.length
     unfold pre at h4;rw [FU]at h4;exact h4
 · exact ⟨(fun y hy=>by cases hy),(fun y=>rfl),(fun y hy=>by cases hy),(fun y=>rfl),⟨[],rfl,rfl,fun i u e h=>by simp at h⟩,Fl _,Fl _,Fl _,Fl _,by decide,(fun e he=>by cases he)⟩
 · have hb':b=si∨b=t∨b=ro∨b=he∨b=la∨b=so∨b=en∨b=fi:=by simpa [own] using hb
   rcases hb' with h | h | h | h | h | h | h | h <;> rw [h]
   · exact .inr (nw _ nsi)
   · exact .inl rfl
   · exact .inr (nw _ nro)
   · exact .inr (nw _ nhe)
   · exact .inr (nw _ nla)
   · exact .inr (nw _ nso)
   · exact .inr (nw _ nen)
   · exact .inr (nw _ nfi)
variable (Z2c:Qq P w K mg base CX0 5 "Tower" Z1 ["self","stock","sizes"] (Ek K Z1 Z2))
include T in
theorem Z59(F:Fun K "write" "Tower.write" Z2k f fd):Ar P w K mg base CX0 2 f fd ["self","name"] (Do Z0):=by
 have sc:Ab ["self","name"] ["self","name"] (A7 Z2k):=by walk_at "sc"
 walk_at "ok"
 · exact n7 h_ fun _ _ _ _ _ _ _=>rfl
 refine x7 h_ fun t x s g z B hd e_=>y6 e_ fun e0 hT hL hB hz q=>?_;clear e_ h_;subst e0
 refine ⟨_,(@A1 _ _ _ _ _ (Ee (C8 hr) (Af (pv 0) rfl) (pv 1) (Ey (C8 hr) (Af (pv 0) rfl) (pv 1) (fun _ _=>rfl)) rfl)
  (@A5 _ _ _ (Ai (Cp FB FN FM C7 (Af (pv 0) rfl) (A0 (Em (A0 Am (A0 (pv 1) (A0 (Ey (C8 hr) (Af (pv 0) rfl) (pv 1) (fun _ _=>rfl)) A2)))) A2))))),?_⟩
 walk_at "st";obtain ⟨dx,fs,ho,hf⟩:=hT.o;have hi:=hL.h z hz;have n3:=hL.n3;have n4:=hL.n4;walk_at "go";refine ⟨Z0,dx,fs,ho,T.Z3,T.Zn,_,hf.he,x.he,rfl,.int (g.h z),by rw [← hi];exact Cw.k (k:=Sum.inr z) hT.he,Z0,dx,fs,ho,T.Z3,T.Z0o,_,hf.so,x.so,rfl,_,Kl.k (k:=Sum.inr z) hT.so (by omega),?_⟩;have hT1:=hT.store (B8 s.ks (Sum.inr z) (.int (g.h z)));have o1:Off (own t x) H (upd H x.so (.dK (B8 s.ks (Sum.inr z) (.int (g.h z))))):=Off.put (by simp [own]);generalize upd H x.so (.dK (B8 s.ks (Sum.inr z) (.int (g.h z))))=H1 at hT1 o1 ⊢;obtain ⟨dx1,fs1,ho1,hf1⟩:=hT1.o;walk_at "go";refine ⟨Z0,dx1,fs1,ho1,T.Z3,T.Z0d,_,hf1.en,.inl ⟨rfl,_,SqL.of hT1.en⟩,Z0,dx1,fs1,ho1,T.Z3,T.Zn,_,hf1.he,x.he,rfl,.int (g.h z),by rw [← hi];exact Cw.k (k:=Sum.inr z) hT1.he,by omega,fun u hu=>?_⟩;have sm2:A9 H1 (upd H1 u (.tup (wrT z (g.h z)))):=A9.new hu;have hT2:=hT1.same sm2;have hu2:upd H1 u (.tup (wrT z (g.h z))) u=some (.tup (wrT z (g.h z))):=A3
 have nue:u≠x.en:=(A6 hT1.en hu).symm;have o2:Off (own t x) H (upd H1 u (.tup (wrT z (g.h z)))):=o1.trans (.of sm2);show P9 _ _ (upd H1 u (.tup (wrT z (g.h z)))) _;generalize upd H1 u (.tup (wrT z (g.h z)))=H2 at hT2 o2 hu2 ⊢;refine ⟨x.en,_,_,rfl,rfl,hT2.en,by show s.es.length < _;omega,?_⟩;walk_at "go";have oF:=o2.trans (Off.put (H:=H2) (b:=x.en) (o:= .lst (s.es++[.ref u])) (by simp [own]));exact q {s with ks:=B8 s.ks (Sum.inr z) (.int (g.h z)),es:=s.es++[.ref u]} _ oF (hT2.entry (s.es++[.ref u])) rfl rfl rfl rfl rfl (hL.wrote hz (Kr hT oF) (by rw [A4 nue];exact hu2) (by omega))
variable (Zf:Ca P w K mg base CX0 2 Z0 "write" ["self","name"] (Do Z0))
include T Zf in
theorem Z4y(F:Fun K "settle" "Prompt.settle" Z24 f fd):Ar P w K mg base CX0 3 f fd ["self","name"] (Da Z0 true):=by
 have sc:Ab ["self","name"] ["self","name"] (A7 Z24):=by walk_at "sc"
 walk_at "ok"
 · exact n7 h_ fun _ _ _ _ _ _ _=>rfl
 refine x7 h_ fun t x s g z B hd e_=>y6 e_ fun e0 hT hL hB hz q=>?_;clear e_ h_;subst e0;refine ⟨_,(@A5 _ _ _ (Ai (Ak Zf T.Z3 hr (Av Ac) (pv 0) (A0 (pv 1) A2)))),?_⟩;walk_at "st";obtain ⟨dx,fs,ho,hf⟩:=hT.o;walk_at "go";exact ⟨dx,fs,ho,hf.m _ (by simp),x,s,hT,g,B,hd,hL,hB,hz,fun s' H' o hT' e1 e2 e3 e4 _ hL'=>q s' H' o hT' e1 e2 e3 e4 hL'⟩
variable (Z0x:Ca P w K mg base CX0 3 Z0 "settle" ["self","name"] (Da Z0 true))
include T Zf in
theorem Z4l(F:Fun K "fall_off" "Tower.fall_off" Z1i f fd):Ar P w K mg base CX0 3 f fd ["self","name"] (Ei Z0):=by
 have sc:Ab ["self","name"] ["self","name"] (A7 Z1i):=by walk_at "sc"
 walk_at "ok"
 · exact n7 h_ fun _ _ _ _ _ _ _=>rfl
 refine x7 h_ fun t x s g z B hd e_=>y6 e_ fun e0 hT hL hB hz q=>?_;clear e_ h_;subst e0
 refine ⟨_,(@A1 _ _ _ _ _ (Az (Ih (Lb (C8 hr) (pv 1) (Af (pv 0) rfl)))
  (@A1 _ _ _ _ _ (Ai (Km (Af (pv 0) rfl) (pv 1) ⟨rfl,rfl,rfl,rfl⟩))
  (@A5 _ _ _ (Ai (Ak Zf T.Z3 hr (Av Ac) (pv 0) (A0 (pv 1) A2)))))
  Ag)
  (@A5 _ _ _ (Ai (Km (Af (pv 0) rfl) (pv 1) ⟨rfl,rfl,rfl,rfl⟩)))),?_⟩
 walk_at "st";obtain ⟨dx,fs,ho,hf⟩:=hT.o;walk_at "go";refine ⟨Z0,dx,fs,ho,T.Z3,T.Z03,_,hf.la,x.la,rfl,_,Cw.k (k:=Sum.inr z) hT.la,?_⟩;rename_i rest hrest
 have key:∀(s1:TwS) (H1:Hp),Off (own t x) H H1→B9 Z0 H1 t x s1→s1.R=s.R→s1.zs=s.zs→s1.ff=s.ff→s1.pd=s.pd→TwG H1 s1 (Ci z g) (B+1) hd→(Ci z g).l z=false→rest [some (V.ref t),some (V.str z)] H1:=by
  intro s1 H1 o1 hT1 e1 e2 e3 e4 hL1 hz1;obtain ⟨dx1,fs1,ho1,hf1⟩:=hT1.o;have hi1:=hL1.h z hz;subst hrest;walk_at "go";refine ⟨Z0,dx1,fs1,ho1,T.Z3,T.Zn,_,hf1.he,x.he,rfl,.inl ⟨_,.inl hT1.he⟩,_,hT1.he,Sum.inr z,rfl,_,hi1,?_⟩;have oP:Off (own t x) H1 (upd H1 x.he (.dK (Bf s1.kh (Sum.inr z)))):=Off.put (by simp [own]);exact q _ _ (o1.trans oP) (hT1.held (Bf s1.kh (Sum.inr z))) e1 e2 e3 e4 ((hL1.popped hz1).off hT1 oP)
 clear hrest;rw [hL.l z]
 by_cases hin:g.l z=true
 · rw [if_pos hin]
   have hsome:(B1 s.kl (Sum.inr z)).isSome=true:=by rw [hL.l z];exact hin
   obtain ⟨vl,hvl⟩:=HM.mp hsome;walk_at "go";refine ⟨Z0,dx,fs,ho,T.Z3,T.Z03,_,hf.la,x.la,rfl,.inl ⟨_,.inl hT.la⟩,_,hT.la,Sum.inr z,rfl,_,hvl,?_⟩;have hT1:=hT.late (Bf s.kl (Sum.inr z));have o1:Off (own t x) H (upd H x.la (.dK (Bf s.kl (Sum.inr z)))):=Off.put (by simp [own]);have hL1:=(hL.lateOff (z:=z)).off hT o1;generalize upd H x.la (.dK (Bf s.kl (Sum.inr z)))=H1 at hT1 o1 hL1 ⊢;obtain ⟨dx1,fs1,ho1,hf1⟩:=hT1.o
   have eG:Ci z g=(g.late z false).write z:=by unfold Ci;rw [if_pos hin]
   walk_at "go";refine ⟨dx1,fs1,ho1,hf1.m _ (by simp),x,_,hT1,_,B,hd,hL1,hB,hz,fun s2 H2 o2 hT2 e1 e2 e3 e4 _ hL2=>?_⟩;exact key s2 H2 (o1.trans o2) hT2 e1 e2 e3 e4 (by rw [eG];exact hL2) (by rw [eG];exact Al)
 · rw [if_neg hin]
   have eG:Ci z g=g:=by unfold Ci;rw [if_neg hin]
   exact key s H (fun b o e _=>e) hT rfl rfl rfl rfl (by rw [eG];exact hL.iff (fun _=>Iff.rfl) (by omega) (by omega)) (by rw [eG];simpa using hin)
variable (Z0n:Ca P w K mg base CX0 3 Z0 "fall_off" ["self","name"] (Ei Z0))
include T Z0n in
theorem Z68(F:Fun K "come" "Tower.come" Z3f f fd):Ar P w K mg base CX0 4 f fd ["self","name"] (Ej Z0):=by
 have sc:Ab ["self","name"] ["self","name"] (A7 Z3f):=by walk_at "sc"
 walk_at "ok"
 · exact n6 h_ fun _ _ _ _ _ _=>rfl
 refine x6 h_ fun t x s g z B e_=>y9 e_ fun e0 hT hL hB nd hRl hRs hS1 q=>?_;clear e_ h_;subst e0
 refine ⟨_,(@A1 _ _ _ _ _ (Az (Ao D8 (pv 1) (Af (pv 0) rfl) (by with_unfolding_all rfl))
  (@A5 _ _ _ (Ai (Cp FB PySem.F.slot_list_remove PySem.F.type_list_remove O9 (Af (pv 0) rfl) (A0 (pv 1) A2))))
  Ag)
  (@A1 _ _ _ _ _ (Ai (Cp FB PySem.F.slot_list_insert PySem.F.type_list_insert Og (Af (pv 0) rfl) (A0 A8 (A0 (pv 1) A2))))
  (@A5 _ _ _ (Az (Ao Nq (Ap Aq rfl T.Zh FC (A0 (Af (pv 0) rfl) A2)) (Ap (Oj rfl) rfl T.Z75 (by first | rfl | decide+kernel) (A0 (Af (pv 0) rfl) A2)) (nomark _))
   (@A5 _ _ _ (Ai (Ak Z0n T.Z3 hr (Av Ac) (pv 0) (A0 (Tg FB PySem.F.slot_list_pop PySem.F.type_list_pop Yi (Af (pv 0) rfl)) A2))))
   Ag)))),?_⟩
 walk_at "st";obtain ⟨dx,fs,ho,hf⟩:=hT.o;walk_at "go";refine ⟨Z0,dx,fs,ho,T.Z3,T.Zl,_,hf.ro,Of (SqL.of hT.ro) ⟨_,rfl,?_⟩⟩;rename_i rest hrest
 have key:∀H1:Hp,Off (own t x) H H1→B9 Z0 H1 t x {s with R:=s.R.erase z}→rest [some (V.ref t),some (V.str z)] H1:=by
  intro H1 o1 hT1;obtain ⟨dx1,fs1,ho1,hf1⟩:=hT1.o;have hel:(s.R.erase z).length≤s.R.length:=Ry;subst hrest;walk_at "go";refine ⟨Z0,dx1,fs1,ho1,T.Z3,T.Zl,_,hf1.ro,.inl ⟨rfl,_,SqL.of hT1.ro⟩,x.ro,rfl,_,hT1.ro,by rw [Fa];show (s.R.erase z).length < _;omega,?_⟩;have hT2:B9 Z0 (upd H1 x.ro (.lst (V.str z::List.map V.str {s with R:=s.R.erase z}.R))) t x {s with R:=z::s.R.erase z}:=hT1.row (z::s.R.erase z);have o2:Off (own t x) H (upd H1 x.ro (.lst (V.str z::List.map V.str {s with R:=s.R.erase z}.R))):=o1.trans (Off.put (by simp [own]));generalize upd H1 x.ro (.lst (V.str z::List.map V.str {s with R:=s.R.erase z}.R))=H2 at hT2 o2 ⊢;obtain ⟨dx2,fs2,ho2,hf2⟩:=hT2.o;walk_at "go";refine ⟨Z0,dx2,fs2,ho2,T.Z3,T.Zl,_,hf2.ro,x.ro,rfl,_,.inl (SqL.of hT2.ro),Z0,dx2,fs2,ho2,T.Z3,T.Zr,_,hf2.si,x.si,rfl,_,SqL.of hT2.si,?_⟩;rw [Fa];have hl1:(z::s.R.erase z).length=(s.R.erase z).length+1:=rfl
  have ndc:=Pn (z:=z) nd
  by_cases hov:s.zs.sum < ((z::s.R.erase z).length:Int)
  · rw [if_pos hov]
    obtain ⟨y,hy,edl,hyin,hiff⟩:=Om (S:=s.zs.sum.toNat) ndc (by omega)
    have eG:Bz s.zs.sum s.R z g=Ci y g:=by unfold Bz J1q;rw [if_pos hov,hy];rfl
    refine ⟨dx2,fs2,ho2,hf2.m _ (by simp),Z0,dx2,fs2,ho2,T.Z3,T.Zl,_,hf2.ro,.inl ⟨rfl,_,SqL.of hT2.ro⟩,x.ro,rfl,_,hT2.ro,V.str y,by rw [Fa,Fi,hy];rfl,?_⟩
    have hT3:B9 Z0 (upd H2 x.ro (.lst ((z::s.R.erase z).map V.str).dropLast)) t x {s with R:=(z::s.R.erase z).dropLast}:=by
     rw [← List.map_dropLast];exact hT2.row ((z::s.R.erase z).dropLast)
    have o3:Off (own t x) H (upd H2 x.ro (.lst ((z::s.R.erase z).map V.str).dropLast)):=o2.trans (Off.put (by simp [own]));have hL3:=hL.off hT o3;walk_at "go";refine ⟨x,_,hT3,g,B,_,hL3.cast rfl rfl rfl rfl,hB,Er.mp hyin,fun s' H' o hT' e1 e2 e3 e4 hL'=>?_⟩;have e1':s'.R=(z::s.R.erase z).dropLast:=e1;exact q s' H' (o3.trans o) hT' (by rw [e1',edl]) e2 e3 e4 (by rw [eG];exact hL'.iff (fun u=>by rw [e1',hiff u,Er]) (Fe _) (by omega))
  · rw [if_neg hov]
    have eG:Bz s.zs.sum s.R z g=g:=by unfold Bz;rw [if_neg hov]
    exact q _ H2 o2 hT2 (by rw [Hd (by omega)]) rfl rfl rfl (by rw [eG];exact ((hL.off hT o2).iff (fun u=>(Er (R:=s.R) (z:=z) (u:=u)).symm) (by omega) (by omega)).cast rfl rfl rfl rfl)
 clear hrest
 by_cases hin:z∈s.R
 · rw [if_pos (by simpa using hin)]
   refine ⟨Z0,dx,fs,ho,T.Z3,T.Zl,_,hf.ro,.inl ⟨rfl,_,SqL.of hT.ro⟩,x.ro,rfl,s.R,hT.ro,hin,?_⟩;exact key _ (Off.put (by simp [own])) (hT.row (s.R.erase z))
 · rw [if_neg (by simpa using hin)]
   have:=key H (fun b o e _=>e) (by rw [List.erase_of_not_mem hin];exact hT);exact this
variable (Zj:Ca P w K mg base CX0 4 Z0 "come" ["self","name"] (Ej Z0))
include T in
theorem Z4z(F:Fun K "levels" "Tower.levels" Z25 f fd):Ar P w K mg base CX0 1 f fd ["self"] (Cr Z0):=by
 have sc:Ab ["self","told","start","size"] ["self"] (A7 Z25):=by walk_at "sc"
 walk_at "ok"
 · exact n3 h_ fun _ _ _=>rfl
 refine x3 h_ fun t x s e_=>y5 e_ fun e0 hT hzl hz q=>?_;clear e_ h_;subst e0
 refine ⟨_,(@A1 _ _ _ _ _ (Ay (i:=1) sc.nd rfl (Or.inl rfl) (@Bn _ _ _ _ A2))
  (@A1 _ _ _ _ _ (Ay (i:=2) sc.nd rfl (Or.inl rfl) A8)
  (@A1 _ _ _ _ _ (D0 PassesOwn.never rfl (Bt (Af (pv 0) rfl)) (Bb (i:=3) sc.nd rfl (Or.inl rfl))
   (@A1 _ _ _ _ _ (Ai (Cp FB FN FM C7 (pv 1) (A0 (Ij Lx (Af (pv 0) rfl) (Ex (pv 2)) (Ex (Ah Co (pv 2) (pv 3)))) A2)))
   (@A5 _ _ _ (Y2 (i:=2) sc.nd rfl (Or.inl rfl) (pv 3) Kz))))
  (@A5 _ _ _ (@Ae _ _ _ _ (pv 1)))))),?_⟩
 walk_at "st";obtain ⟨dx,fs,ho,hf⟩:=hT.o;walk_at "go";intro p hp;walk_at "go";have sm0:A9 H (upd H p (.lst [])):=A9.new hp;have hp0:upd H p (.lst []) p=some (.lst []):=A3;generalize upd H p (.lst [])=H0 at sm0 hp0 ⊢;refine ⟨Z0,dx,fs,sm0 _ _ ho,T.Z3,T.Zr,_,hf.si,x.si,rfl,⟨_,SqL.of (sm0 _ _ hT.si)⟩,?_⟩;rename_i rest hrest
 refine Dy (xs:=s.zs.map V.int) (fun i σ H'=>∃(as:List Addr) (v3:Option V),σ=[some (V.ref t),some (V.ref p),some (V.int (pre s.zs i)),v3]∧A9 H H'∧H' p=some (.lst (as.map V.ref))∧Xi H' as s.zs s.R i∧(∀a∈as,H a=none)∧as.Nodup∧p∉as)
  ⟨[],none,rfl,sm0,hp0,⟨rfl,fun i a e=>by simp at e⟩,(fun a ha=>by cases ha),HK,(fun h=>by cases h)⟩ (fun i σ H' _ h_=>by obtain ⟨as,v3,_,sm,_⟩:=h_;exact SqL.of (sm _ _ hT.si)) ?_ ?_
 · rintro i v σ H' hv ⟨as,v3,rfl,sm,hp',hA,hn,nd,hpn⟩
   have hi:i < s.zs.length:=by
    have:=(Fc.mp hv).1;rw [Fa]at this;exact this
   have hgi:s.zs[i]?=some (s.zs.getD i 0):=Ep hi;rw [Fi,hgi]at hv;cases hv;have hz1:=hz _ (Fo hgi);have hpn0:=Ip (fun z h=>(hz z h).1) i;rw [Sm hi];have hal:as.length≤i:=Hj hA.1;walk_at "go";refine ⟨.inl ⟨rfl,_,SqL.of hp'⟩,Z0,dx,fs,sm _ _ ho,T.Z3,T.Zl,_,hf.ro,x.ro,rfl,_,SqL.of (sm _ _ hT.ro),fun l hl=>?_⟩;rw [W2 hz hi];have npl:p≠l:=A6 hp' hl;have sm2:A9 H' (upd H' l (.lst ((lvl s.zs s.R i).map V.str))):=A9.new hl
   have hlH:H l=none:=by
    cases e:H l with
    | none=>rfl
    | some o=>rw [sm _ _ e]at hl;cases hl
   refine ⟨p,_,_,rfl,rfl,sm2 _ _ hp',by rw [Fa];omega,?_⟩
   have hla:l∉as:=fun h=>by
    obtain ⟨j,hj⟩:=FP.mp h;rw [hA.2 j l hj]at hl;cases hl
   have sm3:A9 H (upd (upd H' l (.lst ((lvl s.zs s.R i).map V.str))) p (.lst (as.map V.ref++[V.ref l]))):=fun b o e=>by rw [A4 (A6 e hp)];exact (sm.trans sm2) _ _ e
   have hp3:upd (upd H' l (.lst ((lvl s.zs s.R i).map V.str))) p (.lst (as.map V.ref++[V.ref l])) p=some (.lst ((as++[l]).map V.ref)):=by rw [A3,Ft];rfl
   have hA3:Xi (upd (upd H' l (.lst ((lvl s.zs s.R i).map V.str))) p (.lst (as.map V.ref++[V.ref l]))) (as++[l]) s.zs s.R (i+1):=by
    refine ⟨by rw [Ff,hA.1];rfl,fun j a e=>?_⟩
    by_cases hj:j < as.length
    · rw [Fu hj]at e
      have h1:=hA.2 j a e;rw [A4 (fun z=>hpn (by rw [← z];exact Fo e))];exact sm2 _ _ h1
    · rw [Fy (by omega)]at e
      have hj0:j=i:=by
       have h1:=(Fc.mp e).1;have h2:=hA.1;simp at h1;omega
      rw [show j - as.length=0 by have:=hA.1;omega]at e;cases e;rw [A4 npl.symm,A3,hj0]
   generalize upd (upd H' l (.lst ((lvl s.zs s.R i).map V.str))) p (.lst (as.map V.ref++[V.ref l]))=H3 at sm3 hp3 hA3 ⊢;walk_at "go";refine ⟨as++[l],hp3,hA3,fun a ha=>?_,?_,fun h=>?_⟩
   · rcases Fq.mp ha with ha | ha
     · exact hn a ha
     · rw [Fg.mp ha];exact hlH
   · exact Hl.mpr ⟨nd,Hr.mpr ⟨FR,HK⟩,fun a ha b hb e=>hla (by rw [← Fg.mp hb,← e];exact ha)⟩
   · rcases Fq.mp h with h | h
     · exact hpn h
     · exact npl (Fg.mp h)
 · rintro σ H' ⟨as,v3,rfl,sm,hp',hA,hn,nd,hpn⟩
   rw [Fa]at hA;walk_at "go";exact q p as _ hp sm hp' hA hn nd hpn
variable (Zv:Ca P w K mg base CX0 1 Z0 "levels" ["self"] (Cr Z0))
include T Z7 Zv in
theorem Z4m(F:Fun K "shelf_of" "Tower.shelf_of" Z1j f fd):Ar P w K mg base CX0 4 f fd ["self","name"] (Dr K Z0 Z2):=by
 have sc:Ab ["self","name","number","names"] ["self","name"] (A7 Z1j):=by walk_at "sc"
 walk_at "ok"
 · exact n5 h_ fun _ _ _ _ _=>rfl
 refine x5 h_ fun t x s z ts e_=>y9 e_ fun e0 hT hs nd hz hzl hzz hRs q=>?_;clear e_ h_;subst e0
 refine ⟨_,(@A1 _ _ _ _ _ (Ai (Ak Z7 T.Za hr (Av Ac) (Af (pv 0) rfl) (A0 (pv 1) A2)))
  (@A1 _ _ _ _ _ (D0 PassesOwn.never rfl (Vu rfl T.Z2y (A0 (G7 Zv T.Z3 hr (Av Ac) (pv 0)) A2)) (P4 rfl (De (Bb (i:=2) sc.nd rfl (Or.inl rfl)) (De (Bb (i:=3) sc.nd rfl (Or.inl rfl)) Lu)))
   (@A5 _ _ _ (Az (Ao D8 (pv 1) (pv 3) (by with_unfolding_all rfl))
    (@A5 _ _ _ (@Ae _ _ _ _ (pv 2)))
    Ag)))
  (@A5 _ _ _ (@Ae _ _ _ _ (Ap Aq rfl T.Zh FC (A0 (Af (pv 0) rfl) A2)))))),?_⟩
 walk_at "st";obtain ⟨dx,fs,ho,hf⟩:=hT.o;obtain ⟨dy,e,kvs,h1,h2,h3,h4,h5⟩:=Au.has hs.at;walk_at "go";refine ⟨Z0,dx,fs,ho,T.Z3,T.Z0b,_,hf.st,x.st,rfl,dy,flds e,h1,by rfl,x.st,rfl,ts,hs.at,nd,hz,fun i t' ht' e'=>?_⟩;clear e' ht';walk_at "go";refine ⟨dx,fs,ho,hf.m _ (by simp),x,s,hT,hzl,hzz,fun p as H1 hp sm1 hp1 hA han nda hpn=>⟨⟨_,SqL.of hp1⟩,?_⟩⟩;rename_i rest hrest;refine Vv (xs:=as.map V.ref) (fun i σ H'=>∃(v2 v3:Option V),σ=[some (V.ref t),some (V.str z),v2,v3]∧A9 H1 H'∧∀j,j < i→z∉lvl s.zs s.R j) ⟨none,none,rfl,A9.refl _,fun j hj=>absurd hj (Nat.not_lt_zero j)⟩ (fun i σ H' _ h_=>by obtain ⟨v2,v3,_,sm,_⟩:=h_;exact SqL.of (sm _ _ hp1)) ?_ ?_
 · rintro i v σ H' u hv ⟨v2,v3,rfl,sm,hno⟩ hu
   have hi:i < as.length:=by
    have:=(Fc.mp hv).1;rw [Fa]at this;exact this
   have hai:as[i]?=some as[i]:=Fb hi;rw [Fi,hai]at hv;cases hv;have hla:=(sm.trans (A9.new (o:= .tup [.int i,.ref as[i]]) hu)) _ _ (hA.2 i _ hai);have smu:=sm.trans (A9.new (o:= .tup [.int i,.ref as[i]]) hu);walk_at "go";refine ⟨_,SqT.of A3,rfl,_,_,rfl,_,_,rfl,rfl,?_⟩;generalize upd H' u (.tup [.int i,.ref as[i]])=H2 at hla smu ⊢
   have hzl2:i < s.zs.length:=by have:=hA.1;omega
   walk_at "go";refine Of (SqL.of hla) ⟨_,rfl,?_⟩
   by_cases hin:z∈lvl s.zs s.R i
   · rw [if_pos (by simpa using hin)]
     walk_at "go";exact q i H2 (sm1.trans smu) (by omega) ⟨fun _=>Md hin,fun _=>hzl2⟩ (Hj (Pq hzl2 hin hno)) (Hj (Pq hzl2 hin hno).symm)
   · rw [if_neg (by simpa using hin)]
     walk_at "go";intro j hj
     by_cases e:j=i
     · rw [e];exact hin
     · exact hno j (by omega)
 · rintro σ H' ⟨v2,v3,rfl,sm,hno⟩
   rw [Fa,hA.1]at hno;have smA:=sm1.trans sm;walk_at "go";refine ⟨Z0,dx,fs,smA _ _ ho,T.Z3,T.Zr,_,hf.si,x.si,rfl,_,.inl (SqL.of (smA _ _ hT.si)),?_⟩;rw [Fa];refine q s.zs.length H' smA (Fe _) ⟨fun h=>absurd h (Hw _),fun h=>?_⟩ (Hj (Pr hno)) (Hj (Pr hno).symm);obtain ⟨j,hj,hjz⟩:=W1 (fun z h=>(hzz z h).1) hRs h;exact absurd hjz (hno j hj)
variable (Z9:Ca P w K mg base CX0 4 Z0 "shelf_of" ["self","name"] (Dr K Z0 Z2))
include T Z7 in
theorem Z50(F:Fun K "stored" "Tower.stored" Z26 f fd):Ar P w K mg base CX0 4 f fd ["self","name"] (Ct K Z0 Z2):=by
 have sc:Ab ["self","name"] ["self","name"] (A7 Z26):=by walk_at "sc"
 walk_at "ok"
 · exact n8 h_ fun _ _ _ _ _ _ _ _=>rfl
 refine x8 h_ fun t x s g z ts B hd e_=>y7 e_ fun e0 hT hs nd hz hL q=>?_;clear e_ h_;subst e0
 refine ⟨_,(@A1 _ _ _ _ _ (Ai (Ak Z7 T.Za hr (Av Ac) (Af (pv 0) rfl) (A0 (pv 1) A2)))
  (@A5 _ _ _ (@Ae _ _ _ _ (Ms (C8 hr) (Af (pv 0) rfl) (pv 1) A8 ⟨rfl,rfl,rfl,rfl⟩)))),?_⟩
 walk_at "st";obtain ⟨dx,fs,ho,hf⟩:=hT.o;obtain ⟨dy,e,kvs,h1,h2,h3,h4,h5⟩:=Au.has hs.at;walk_at "go";refine ⟨Z0,dx,fs,ho,T.Z3,T.Z0b,_,hf.st,x.st,rfl,dy,flds e,h1,by rfl,x.st,rfl,ts,hs.at,nd,hz,fun i t' ht' e'=>?_⟩;clear e' ht';walk_at "go";refine ⟨Z0,dx,fs,ho,T.Z3,T.Z0o,_,hf.so,x.so,rfl,.inl ⟨_,.inl hT.so⟩,_,Cw.k (k:=Sum.inr z) hT.so,?_⟩;have hst:=hL.st z
 cases hv:B1 s.ks (Sum.inr z) with
 | none=>rw [hv]at hst;rw [← hst]at q;exact q
 | some v=>rw [hv]at hst;rw [← hst]at q;exact q
variable (Zw:Ca P w K mg base CX0 4 Z0 "stored" ["self","name"] (Ct K Z0 Z2))
include T Ze Zw in
theorem Z5a(F:Fun K "fetch" "Tower.fetch" Z2l f fd):Ar P w K mg base CX0 5 f fd ["self","word","name"] (Dq K Z0 Z2):=by
 have sc:Ab ["self","word","name"] ["self","word","name"] (A7 Z2l):=by walk_at "sc"
 walk_at "ok"
 · exact n9 h_ fun _ _ _ _ _ _ _ _ _=>rfl
 refine x9 h_ fun t x s g w2 z ts B p e_=>y8 e_ fun e0 hT hs nd hz hL hB q=>?_;clear e_ h_;subst e0
 refine ⟨_,(@A1 _ _ _ _ _ (Nt (pv 0) (Ak Ze T.Za hr (Av Ac) (Af (pv 0) rfl) (A0 (pv 2) A2)) Yb)
  (@A1 _ _ _ _ _ (Ai (Cp FB FN FM C7 (Af (pv 0) rfl) (A0 (Em (A0 (pv 1) (A0 (pv 2) A2))) A2)))
  (@A5 _ _ _ (Ee (C8 hr) (Af (pv 0) rfl) (pv 2) (Ak Zw T.Z3 hr (Av Ac) (pv 0) (A0 (pv 2) A2)) rfl)))),?_⟩
 walk_at "st";obtain ⟨dx,fs,ho,hf⟩:=hT.o;obtain ⟨dy,e,kvs,h1,h2,h3,h4,h5⟩:=Au.has hs.at;walk_at "go";refine ⟨Z0,dx,fs,ho,T.Z3,T.Z0w,_,hf.pd,Z0,dx,fs,ho,T.Z3,T.Z0b,_,hf.st,x.st,rfl,dy,flds e,h1,by rfl,x.st,rfl,ts,hs.at,nd,hz,fun i t' ht' e'=>⟨_,_,rfl,rfl,dx,fs,ho,by have:=hf.n;omega,?_⟩⟩;have ec:pick 1 i t'=Bo ts z:=(Oq nd ht' e').symm;rw [ec];clear e' ec;have hT1:=hT.paid ho hf (s.pd+Bo ts z);have o1:Off (own t x) H (upd H t (.ins Z0 dx (Aj (Str.ofString "paid") (.int (s.pd+Bo ts z)) fs))):=Off.put (by simp [own]);generalize upd H t (.ins Z0 dx (Aj (Str.ofString "paid") (.int (s.pd+Bo ts z)) fs))=H1 at hT1 o1 ⊢;clear ht';obtain ⟨dx1,fs1,ho1,hf1⟩:=hT1.o;have n4:=hL.n4;walk_at "go";refine ⟨Z0,dx1,fs1,ho1,T.Z3,T.Z0d,_,hf1.en,.inl ⟨rfl,_,SqL.of hT1.en⟩,by omega,fun u hu=>?_⟩;have sm2:A9 H1 (upd H1 u (.tup [.str w2,.str z])):=A9.new hu;have hT2:=hT1.same sm2;have hu2:upd H1 u (.tup [.str w2,.str z]) u=some (.tup [.str w2,.str z]):=A3
 have nue:u≠x.en:=(A6 hT1.en hu).symm;have o2:Off (own t x) H (upd H1 u (.tup [.str w2,.str z])):=o1.trans (.of sm2);generalize upd H1 u (.tup [.str w2,.str z])=H2 at hT2 o2 hu2 ⊢;refine ⟨x.en,_,_,rfl,rfl,hT2.en,by show s.es.length < _;omega,?_⟩;have hT3:=hT2.entry (s.es++[.ref u]);have o3:Off (own t x) H (upd H2 x.en (.lst (s.es++[.ref u]))):=o2.trans (Off.put (by simp [own]));have hs3:=hs.off o3
 have hu3:upd H2 x.en (.lst (s.es++[.ref u])) u=some (.tup [.str w2,.str z]):=by rw [A4 nue];exact hu2
 have hst:=hL.st;walk_at "go";show _;generalize upd H2 x.en (.lst (s.es++[.ref u]))=H3 at hT3 o3 hs3 hu3 ⊢;obtain ⟨dx3,fs3,ho3,hf3⟩:=hT3.o
 have hL3:=(hL.fetched (Kr hT o3) hu3 (by omega) (pd:=s.pd+Bo ts z))
 have oF:Off (own t x) H3 (upd H3 x.he (.dK (B8 s.kh (Sum.inr z) (.int (g.st z))))):=Off.put (by simp [own]);have n1:=hL.n1;have hL2:=hL.noted (Kr hT o3) hu3 rfl (by omega) (pd:=s.pd+Bo ts z);have fin:=q {s with pd:=s.pd+Bo ts z,es:=s.es++[.ref u],kh:=B8 s.kh (Sum.inr z) (.int (g.st z))} _ (o3.trans oF) (hT3.held (B8 s.kh (Sum.inr z) (.int (g.st z)))) rfl rfl rfl rfl (hL3.off hT3 oF);exact ⟨dx3,fs3,ho3,hf3.m _ (by simp),x,_,hT3,_,ts,hs3,nd,hz,_,_,hL2,Z0,dx3,fs3,ho3,T.Z3,T.Zn,_,hf3.he,x.he,rfl,_,Kl.k (k:=Sum.inr z) hT3.he (by show s.kh.length < _;omega),fin⟩
variable (Z00:Ca P w K mg base CX0 5 Z0 "fetch" ["self","word","name"] (Dq K Z0 Z2))
include T Z9 Z00 Zj in
theorem Z69(F:Fun K "read" "Tower.read" Z3g f fd):Ar P w K mg base CX0 6 f fd ["self","name"] (Ds K Z0 Z2):=by
 have sc:Ab ["self","name","place"] ["self","name"] (A7 Z3g):=by walk_at "sc"
 walk_at "ok"
 · exact n7 h_ fun _ _ _ _ _ _ _=>rfl
 refine x7 h_ fun t x s g z ts B e_=>y5 e_ fun e0 hG hz hB q=>?_;clear e_ h_;subst e0
 refine ⟨_,(@A1 _ _ _ _ _ (Ay (i:=2) sc.nd rfl (Or.inl rfl) (Ak Z9 T.Z3 hr (Av Ac) (pv 0) (A0 (pv 1) A2)))
  (@A1 _ _ _ _ _ (Lv (Af (pv 0) rfl) (pv 2) Kq A8 Kz Kk)
  (@A1 _ _ _ _ _ (Az (Ao D1 (pv 2) (Ap Aq rfl T.Zh FC (A0 (Af (pv 0) rfl) A2)) (nomark _))
   (@A5 _ _ _ (Ai (Ak Z00 T.Z3 hr (Av Ac) (pv 0) (A0 Am (A0 (pv 1) A2)))))
   Ag)
  (@A1 _ _ _ _ _ (Ai (Ak Zj T.Z3 hr (Av Ac) (pv 0) (A0 (pv 1) A2)))
  (@A5 _ _ _ (@Ae _ _ _ _ (Ey (C8 hr) (Af (pv 0) rfl) (pv 1) (fun _ _=>rfl)))))))),?_⟩
 walk_at "st";have hW:=hG.to;obtain ⟨dx,fs,ho,hf⟩:=hW.tw.o;walk_at "go";refine ⟨dx,fs,ho,hf.m _ (by simp),x,s,hW.tw,ts,hW.sk,hW.tn,hz,hW.zl,hW.zz,hW.rs,fun k H1 sm1 hk hkR hk1 hk2=>?_⟩;have hT1:=hW.tw.same sm1;have o1:Off (own t x) H H1:= .of sm1;obtain ⟨dx1,fs1,ho1,hf1⟩:=hT1.o;have hfl:=hW.ff;have hgk:s.ff[k]?=some (s.ff.getD k 0):=Ep (by omega);walk_at "go";refine ⟨Z0,dx1,fs1,ho1,T.Z3,T.Z0c,_,hf1.fi,?_⟩;refine ⟨x.fi,s.ff.map V.int,k,V.int (s.ff.getD k 0),rfl,rfl,SqL.of hT1.fi,by rw [Fi,hgk];rfl,?_⟩;walk_at "go";refine ⟨_,hT1.fi,k,by rw [Fa];exact Pm (by omega),?_⟩;rw [← RK];have hT2:=hT1.find (s.ff.set k (s.ff.getD k 0+1));have o2:Off (own t x) H (upd H1 x.fi (.lst ((s.ff.set k (s.ff.getD k 0+1)).map V.int))):=o1.trans (Off.put (by simp [own]))
 have hff2:(s.ff.set k (s.ff.getD k 0+1)).length=s.zs.length+1:=by rw [Rb];exact hfl
 have hfb:s.ff.set k (s.ff.getD k 0+1)=bump s.ff (shx s.zs s.R z)∧True:=⟨by rw [show shx s.zs s.R z=k by omega];rfl,trivial⟩
 generalize upd H1 x.fi (.lst ((s.ff.set k (s.ff.getD k 0+1)).map V.int))=H2 at hT2 o2 ⊢;generalize s.ff.set k (s.ff.getD k 0+1)=ff2 at hT2 hff2 hfb;have hs2:=hW.sk.off o2;have hL2:=(hG.g.off hW.tw o2).cast (s':={s with ff:=ff2}) rfl rfl rfl rfl;obtain ⟨dx2,fs2,ho2,hf2⟩:=hT2.o;clear hT1 o1 ho1 hf1 hgk hfl;walk_at "go";refine ⟨Z0,dx2,fs2,ho2,T.Z3,T.Zr,_,hf2.si,x.si,rfl,_,.inl (SqL.of hT2.si),?_⟩;rw [Fa];rename_i rest hrest
 have key:∀(s3:TwS) (H3:Hp),Off (own t x) H H3→B9 Z0 H3 t x s3→s3.R=s.R→s3.zs=s.zs→s3.ff=ff2→s3.pd=s.pd+(if z∈s.R then 0 else Bo ts z)→TwG H3 s3 (if z∈s.R then g else Dn (Str.ofString "fetch") z g) (B+1) (fun y=>y∈s.R∨y=z)→rest [some (V.ref t),some (V.str z),some (V.int k)] H3:=by
  intro s3 H3 o3 hT3 eR eZ eF eP hL3;obtain ⟨dx3,fs3,ho3,hf3⟩:=hT3.o;have hrl:=hW.rl;have hrs:=hW.rs;have hs1:=hW.s1;subst hrest;walk_at "go";refine ⟨dx3,fs3,ho3,hf3.m _ (by simp),x,s3,hT3,_,B+1,by rw [eR];exact hL3,by omega,by rw [eR];exact hW.nd,by rw [eR];omega,by rw [eR,eZ];exact hrs,by rw [eZ];exact hs1,fun s4 H4 o4 hT4 eR4 eZ4 eF4 eP4 hL4=>?_⟩;rw [eR,eZ]at hL4;obtain ⟨dx4,fs4,ho4,hf4⟩:=hT4.o
  have eR5:s4.R=Di z s:=by rw [eR4,eR,eZ];rfl
  have hzin:z∈s4.R:=by
   rw [eR5];unfold Di
   obtain ⟨n,hn⟩:∃n,s.zs.sum.toNat=n+1:=⟨s.zs.sum.toNat - 1,by omega⟩
   rw [hn,Re];exact Fj
  have hi:=hL4.h z hzin;walk_at "go";refine ⟨Z0,dx4,fs4,ho4,T.Z3,T.Zn,_,hf4.he,x.he,rfl,.int ((Cs s.zs.sum s.R z g).h z),by rw [← show B1 s4.kh (Sum.inr z)=some (.int ((Cs s.zs.sum s.R z g).h z)) from hi];exact Cw.k (k:=Sum.inr z) hT4.he,?_⟩;have o5:=o3.trans o4;exact q s4 H4 o5 ⟨Ga hW hz o5 hT4 eR5 (by rw [eZ4,eZ]) hL4.toL (by rw [eF4];exact hff2),hL4⟩ eR5 (by rw [eZ4,eZ]) (by rw [eP4,eP]) (by rw [eF4];exact hfb.1)
 clear hrest;have hl:=hW.l
 by_cases hk2:k=s.zs.length
 · rw [if_pos (by show (k:Int)=(s.zs.length:Int);omega)]
   have hzR:z∉s.R:=fun h=>by have:=hkR.mpr h;omega
   refine ⟨dx2,fs2,ho2,hf2.m _ (by simp),x,_,hT2,g,ts,hs2,hW.tn,hz,B,_,hL2,by omega,fun s3 H3 o3 hT3 e1 e2 e3 e4 hL3=>key s3 H3 (o2.trans o3) hT3 e1 e2 e3 (by rw [e4,if_neg hzR]) (by rw [if_neg hzR];exact hL3)⟩
 · rw [if_neg (by show ¬(k:Int)=(s.zs.length:Int);omega)]
   have hzR:z∈s.R:=hkR.mp (by omega);have hl2:=hL2.iff (q:=fun y=>y∈s.R∨y=z) (B':=B+1) (fun u=>⟨.inl,fun h=>h.elim id fun e=>by rw [e];exact hzR⟩) (by omega) (by omega);exact key _ H2 o2 hT2 rfl rfl rfl (by rw [if_pos hzR,Rh]) (by rw [if_pos hzR];exact hl2)
variable (Z1o:Ca P w K mg base CX0 6 Z0 "read" ["self","name"] (Ds K Z0 Z2))
include T Z9 Zd Z0x Zj in
theorem Z6a(F:Fun K "keep" "Tower.keep" Z3h f fd):Ar P w K mg base CX0 6 f fd ["self","name","value"] (Dt K Z0 Z2 true):=by
 have sc:Ab ["self","name","value","place"] ["self","name","value"] (A7 Z3h):=by walk_at "sc"
 walk_at "ok"
 · exact n8 h_ fun _ _ _ _ _ _ _ _=>rfl
 refine x8 h_ fun t x s g z v ts B e_=>y7 e_ fun e0 hv1 hv2 hG hz hB q=>?_;clear e_ h_;subst e0
 refine ⟨_,(@A1 _ _ _ _ _ (Ay (i:=3) sc.nd rfl (Or.inl rfl) (Ak Z9 T.Z3 hr (Av Ac) (pv 0) (A0 (pv 1) A2)))
  (@A1 _ _ _ _ _ (Az (Dm (Dd (Ad Zd hr rfl Ac (A0 (pv 2) (A0 (Ah P5 A8 (Ah Kc A8 A8)) (A0 (Ah Kc A8 A8) A2))))))
   (@A5 _ _ _ Be)
   Ag)
  (@A1 _ _ _ _ _ (Lv (Af (pv 0) rfl) (pv 3) Kq A8 Kz Kk)
  (@A1 _ _ _ _ _ (Ee (C8 hr) (Af (pv 0) rfl) (pv 1) (pv 2) rfl)
  (@A1 _ _ _ _ _ (Ai (Ak Z0x T.Z3 hr (Av Ac) (pv 0) (A0 (pv 1) A2)))
  (@A5 _ _ _ (Ai (Ak Zj T.Z3 hr (Av Ac) (pv 0) (A0 (pv 1) A2))))))))),?_⟩
 walk_at "st";have hW:=hG.to;obtain ⟨dx,fs,ho,hf⟩:=hW.tw.o;have hrl:=hW.rl;have hrs:=hW.rs;have hs1:=hW.s1;walk_at "go";refine ⟨dx,fs,ho,hf.m _ (by simp),x,s,hW.tw,ts,hW.sk,hW.tn,hz,hW.zl,hW.zz,hW.rs,fun k H1 sm1 hk hkR hk1 hk2=>?_⟩;have hT1:=hW.tw.same sm1;have o1:Off (own t x) H H1:= .of sm1;obtain ⟨dx1,fs1,ho1,hf1⟩:=hT1.o;have hfl:=hW.ff;have hgk:s.ff[k]?=some (s.ff.getD k 0):=Ep (by omega)
 have hw:wIn (0 - 10 ^ 30) (10 ^ 30) (V.int v)=true:=by simp [wIn];omega
 walk_at "go";refine ⟨rfl,?_⟩;rw [if_neg (by rw [hw];decide)];walk_at "go";refine ⟨Z0,dx1,fs1,ho1,T.Z3,T.Z0c,_,hf1.fi,?_⟩;refine ⟨x.fi,s.ff.map V.int,k,V.int (s.ff.getD k 0),rfl,rfl,SqL.of hT1.fi,by rw [Fi,hgk];rfl,?_⟩;walk_at "go";refine ⟨_,hT1.fi,k,by rw [Fa];exact Pm (by omega),?_⟩;rw [← RK];have hT2:=hT1.find (s.ff.set k (s.ff.getD k 0+1));have o2:Off (own t x) H (upd H1 x.fi (.lst ((s.ff.set k (s.ff.getD k 0+1)).map V.int))):=o1.trans (Off.put (by simp [own]))
 have hff2:(s.ff.set k (s.ff.getD k 0+1)).length=s.zs.length+1:=by rw [Rb];exact hfl
 have hfb:s.ff.set k (s.ff.getD k 0+1)=bump s.ff (shx s.zs s.R z)∧True:=⟨by rw [show shx s.zs s.R z=k by omega];rfl,trivial⟩
 generalize upd H1 x.fi (.lst ((s.ff.set k (s.ff.getD k 0+1)).map V.int))=H2 at hT2 o2 ⊢;generalize s.ff.set k (s.ff.getD k 0+1)=ff2 at hT2 hff2 hfb;have hL2:=(hG.g.off hW.tw o2).cast (s':={s with ff:=ff2}) rfl rfl rfl rfl;obtain ⟨dx2,fs2,ho2,hf2⟩:=hT2.o;clear hT1 o1 ho1 hf1 hgk hfl;have n1:=hG.g.n1;walk_at "go";refine ⟨Z0,dx2,fs2,ho2,T.Z3,T.Zn,_,hf2.he,x.he,rfl,_,Kl.k (k:=Sum.inr z) hT2.he (by show s.kh.length < _;omega),?_⟩;have hT3:=hT2.held (B8 s.kh (Sum.inr z) (.int v));have oP:Off (own t x) H2 (upd H2 x.he (.dK (B8 s.kh (Sum.inr z) (.int v)))):=Off.put (by simp [own]);have o3:=o2.trans oP;have hL3:=(hL2.kept (z:=z) v (by omega)).off hT2 oP;walk_at "go";show _;generalize upd H2 x.he (.dK (B8 s.kh (Sum.inr z) (.int v)))=H3 at hT3 o3 hL3 ⊢;obtain ⟨dx3,fs3,ho3,hf3⟩:=hT3.o;refine ⟨dx3,fs3,ho3,hf3.m _ (by simp),x,_,hT3,_,B+1,_,hL3,by omega,.inr rfl,fun s4 H4 o4 hT4 eR eZ eF eP hL4=>?_⟩;obtain ⟨dx4,fs4,ho4,hf4⟩:=hT4.o
 have eR':s4.R=s.R:=eR;have eZ':s4.zs=s.zs:=eZ;have eP':s4.pd=s.pd:=eP
 have eF':s4.ff=ff2∧True:=⟨eF,trivial⟩
 clear eR eZ eF eP;walk_at "go";refine ⟨dx4,fs4,ho4,hf4.m _ (by simp),x,s4,hT4,_,B+2,by rw [eR'];exact hL4,by omega,by rw [eR'];exact hW.nd,by rw [eR'];omega,by rw [eR',eZ'];exact hrs,by rw [eZ'];exact hs1,fun s5 H5 o5 hT5 eR5 eZ5 eF5 eP5 hL5=>?_⟩;rw [eR',eZ']at hL5
 have eR6:s5.R=Di z s:=by rw [eR5,eR',eZ'];rfl
 have o6:=(o3.trans o4).trans o5;walk_at "go";exact q s5 H5 o6 ⟨Ga hW hz o6 hT5 eR6 (by rw [eZ5,eZ']) hL5.toL (by rw [eF5,eF'.1];exact hff2),hL5⟩ eR6 (by rw [eZ5,eZ']) (by rw [eP5,eP']) (by rw [eF5,eF'.1];exact hfb.1)
variable (Z1p:Ca P w K mg base CX0 6 Z0 "keep" ["self","name","value"] (Dt K Z0 Z2 true))
include T Z9 Z00 Zj in
theorem Z5b(F:Fun K "ahead" "Tower.ahead" Z2m f fd):Ar P w K mg base CX0 6 f fd ["self","name"] (D5 K Z0 Z2):=by
 have sc:Ab ["self","name"] ["self","name"] (A7 Z2m):=by walk_at "sc"
 walk_at "ok"
 · exact n7 h_ fun _ _ _ _ _ _ _=>rfl
 refine x7 h_ fun t x s g z ts B e_=>y5 e_ fun e0 hG hz hB q=>?_;clear e_ h_;subst e0
 refine ⟨_,(@A1 _ _ _ _ _ (Az (Ao Ki (Ak Z9 T.Z3 hr (Av Ac) (pv 0) (A0 (pv 1) A2)) (Ap Aq rfl T.Zh FC (A0 (Af (pv 0) rfl) A2)) (nomark _))
  (@A5 _ _ _ (@Ae _ _ _ _ Eb))
  Ag)
  (@A1 _ _ _ _ _ (Ai (Ak Z00 T.Z3 hr (Av Ac) (pv 0) (A0 Am (A0 (pv 1) A2))))
  (@A1 _ _ _ _ _ (Ai (Ak Zj T.Z3 hr (Av Ac) (pv 0) (A0 (pv 1) A2)))
  (@A5 _ _ _ (@Ae _ _ _ _ Eb))))),?_⟩
 walk_at "st";have hW:=hG.to;obtain ⟨dx,fs,ho,hf⟩:=hW.tw.o;have hrl:=hW.rl;have hrs:=hW.rs;have hs1:=hW.s1;walk_at "go";refine ⟨dx,fs,ho,hf.m _ (by simp),x,s,hW.tw,ts,hW.sk,hW.tn,hz,hW.zl,hW.zz,hW.rs,fun k H1 sm1 hk hkR hk1 hk2=>?_⟩;have hG1:=hG.same sm1;have hT1:=hG1.to.tw;have o1:Off (own t x) H H1:= .of sm1;have hs2:=hW.sk.off o1;obtain ⟨dx1,fs1,ho1,hf1⟩:=hT1.o;refine ⟨Z0,dx1,fs1,ho1,T.Z3,T.Zr,_,hf1.si,x.si,rfl,_,.inl (SqL.of hT1.si),?_⟩;rw [Fa]
 by_cases hk2:k < s.zs.length
 · rw [if_pos (by omega)]
   have hzR:=hkR.mp hk2
   have eG:Ce s.zs.sum s.R z g=g:=by unfold Ce;rw [if_pos hzR]
   have:=q s H1 o1 (by rw [eG];exact ⟨hG1.to.up (by omega) (by omega),hG1.g.iff (fun _=>Iff.rfl) (by omega) (by omega)⟩) (by rw [if_pos hzR]) rfl (by rw [if_pos hzR,Rh]) rfl;rw [FE (fun h=>h hzR)]at this;exact this
 · rw [if_neg (by omega)]
   have hzR:¬z∈s.R:=fun h=>hk2 (hkR.mpr h)
   have eG:Ce s.zs.sum s.R z g=Bz s.zs.sum s.R z (Dn (Str.ofString "ahead") z g):=by unfold Ce;rw [if_neg hzR]
   walk_at "go";refine ⟨dx1,fs1,ho1,hf1.m _ (by simp),x,_,hT1,g,ts,hs2,hW.tn,hz,B,_,hG1.g,by omega,fun s3 H3 o3 hT3 eR eZ eF eP hL3=>?_⟩;obtain ⟨dx3,fs3,ho3,hf3⟩:=hT3.o;walk_at "go";refine ⟨dx3,fs3,ho3,hf3.m _ (by simp),x,s3,hT3,_,B+1,by rw [eR];exact hL3,by omega,by rw [eR];exact hW.nd,by rw [eR];omega,by rw [eR,eZ];exact hrs,by rw [eZ];exact hs1,fun s4 H4 o4 hT4 eR4 eZ4 eF4 eP4 hL4=>?_⟩;rw [eR,eZ]at hL4
   have eR5:s4.R=Di z s:=by rw [eR4,eR,eZ];rfl
   have o5:=(o1.trans o3).trans o4;walk_at "go";have:=q s4 H4 o5 (by rw [eG];exact ⟨Ga hW hz o5 hT4 eR5 (by rw [eZ4,eZ]) hL4.toL (by rw [eF4,eF];exact hW.ff),hL4⟩) (by rw [eR5,if_neg hzR]) (by rw [eZ4,eZ]) (by rw [eP4,eP,if_neg hzR]) (by rw [eF4,eF]);rw [FD (show z∉s.R from hzR)]at this;exact this
variable (Z17:Ca P w K mg base CX0 6 Z0 "ahead" ["self","name"] (D5 K Z0 Z2))
include T in
theorem Z5c(F:Fun K "found" "Tower.found" Z2n f fd):Ar P w K mg base CX0 1 f fd ["self"] (D6 Z0):=by
 have sc:Ab ["self"] ["self"] (A7 Z2n):=by walk_at "sc"
 walk_at "ok"
 · exact n3 h_ fun _ _ _=>rfl
 refine x3 h_ fun t x s e_=>y3 e_ fun e0 hT q=>?_;clear e_ h_;subst e0;refine ⟨_,(@A5 _ _ _ (@Ae _ _ _ _ (B5 Df rfl T.Z32 (by first | rfl | decide+kernel) (A0 (Af (pv 0) rfl) A2)))),?_⟩;walk_at "st";obtain ⟨dx,fs,ho,hf⟩:=hT.o;walk_at "go";exact ⟨Z0,dx,fs,ho,T.Z3,T.Z0c,_,hf.fi,x.fi,rfl,_,.inl (SqL.of hT.fi),fun l hl=>q l _ hl (A9.new hl) A3⟩
variable (Z18:Ca P w K mg base CX0 1 Z0 "found" ["self"] (D6 Z0))
include T in
theorem Z5d(F:Fun K "spent" "Tower.spent" Z2o f fd):Ar P w K mg base CX0 1 f fd ["self"] (D4 Z0):=by
 have sc:Ab ["self"] ["self"] (A7 Z2o):=by walk_at "sc"
 walk_at "ok"
 · exact n3 h_ fun _ _ _=>rfl
 refine x3 h_ fun t x s e_=>y3 e_ fun e0 hT q=>?_;clear e_ h_;subst e0;refine ⟨_,(@A5 _ _ _ (@Ae _ _ _ _ (Af (pv 0) rfl))),?_⟩;walk_at "su";obtain ⟨dx,fs,ho,hf⟩:=hT.o;walk_at "go";exact ⟨Z0,dx,fs,ho,T.Z3,T.Z0w,_,hf.pd,q⟩
variable (Z19:Ca P w K mg base CX0 1 Z0 "spent" ["self"] (D4 Z0))
include T Z04 Z05 Zi in
theorem Z6b(F:Fun K "__init__" "Tower.__init__" Z3i f fd):Ar P w K mg base CX0 5 f fd ["self","stock","sizes"] (Ek K Z0 Z2):=by
 have sc:Ab ["self","stock","sizes"] ["self","stock","sizes"] (A7 Z3i):=by walk_at "sc"
 walk_at "ok"
 · exact n6 h_ fun _ _ _ _ _ _=>rfl
 refine x6 h_ fun t dx p a ts zs e_=>y11 e_ fun e0 ht hs nd hr1 htl hS hz1 hz6 hzz q=>?_;clear e_ h_;subst e0
 refine ⟨_,(@A1 _ _ _ _ _ (Ai (Ad Z04 hr rfl Ac (A0 (pv 2) A2)))
  (@A1 _ _ _ _ _ (Ai (Ad Z05 hr rfl Ac (A0 (pv 1) (A0 (G7 Zi T.Za hr (Av Ac) (pv 1)) A2))))
  (@A1 _ _ _ _ _ (Bc (pv 0) (pv 1) rfl)
  (@A1 _ _ _ _ _ (Bc (pv 0) (B5 Df rfl T.Z32 (by first | rfl | decide+kernel) (A0 (pv 2) A2)) rfl)
  (@A1 _ _ _ _ _ (Bc (pv 0) (@Bn _ _ _ _ A2) rfl)
  (@A1 _ _ _ _ _ (Bc (pv 0) C9 rfl)
  (@A1 _ _ _ _ _ (Bc (pv 0) C9 rfl)
  (@A1 _ _ _ _ _ (Bc (pv 0) C9 rfl)
  (@A1 _ _ _ _ _ (Bc (pv 0) (@Bn _ _ _ _ A2) rfl)
  (@A1 _ _ _ _ _ (Bc (pv 0) (Ah Tl (@Bn _ _ _ _ (A0 A8 A2)) (Ah Co (Ap Aq rfl T.Zh FC (A0 (pv 2) A2)) A8)) rfl)
  (@A5 _ _ _ (Bc (pv 0) A8 rfl)))))))))))),?_⟩
 walk_at "st";obtain ⟨dy,e,kvs,h1,h2,h3,h4,h5⟩:=Au.has hs;walk_at "go";refine ⟨zs,hS,hz1,hz6,hzz,?_⟩;walk_at "go";refine ⟨dy,flds e,h1,by rfl,ts,hs,fun l hl=>?_⟩;have sm1:A9 H (upd H l (.lst ((ts.map (·.1)).map V.str))):=A9.new hl;refine ⟨ts,hs.same sm1,nd,ts.map (·.1),SqL.of A3,fun y hy=>hy,hr1,by rw [Fa];omega,?_⟩;have ht1:=sm1 _ _ ht;have hs1:=B2.of (hs.same sm1);have hS1:=sm1.seq hS
 have nw:∀b,upd H l (.lst ((ts.map (·.1)).map V.str)) b=none→H b=none:=fun b hb=>by
  cases q:H b with
  | none=>rfl
  | some o=>rw [sm1 _ _ q]at hb;cases hb
 generalize upd H l (.lst ((ts.map (·.1)).map V.str))=H1 at sm1 ht1 hs1 hS1 nw ⊢;walk_at "go";refine ⟨Z0,dx,[],ht1,T.Z3,T.Z0b,by decide,?_⟩;have sbA:SameBut t H1 (upd H1 t (.ins Z0 dx (Aj (Str.ofString "stock") (V.ref p) []))):=Im;have htA:upd H1 t (.ins Z0 dx (Aj (Str.ofString "stock") (V.ref p) [])) t=some (.ins Z0 dx (Aj (Str.ofString "stock") (V.ref p) [])):=A3;have hSA:=SqL.but sbA ht1 hS1;walk_at "go";show _;generalize upd H1 t (.ins Z0 dx (Aj (Str.ofString "stock") (V.ref p) []))=HA at sbA htA hSA ⊢;intro si hsi;refine ⟨Z0,dx,_,by rw [A4 (A6 htA hsi)];exact htA,T.Z3,T.Zr,Fx (Aa (Fe _)) (by decide),?_⟩;obtain ⟨sb1,ht2,hsi1,k1,nsi,tsi,d1⟩:=By (o:= .lst (zs.map V.int)) (f:=Str.ofString "sizes") sbA htA hsi;walk_at "go";show _;generalize upd (upd HA si (.lst (zs.map V.int))) t (.ins Z0 dx (Aj (Str.ofString "sizes") (V.ref si) (Aj (Str.ofString "stock") (V.ref p) [])))=HB0 at sb1 ht2 k1 hsi1 ⊢
 intro ro hron;refine ⟨Z0,dx,_,by rw [A4 (A6 ht2 hron)];exact ht2,T.Z3,T.Zl,Fx (Aa (Aa (Fe _))) (by decide),?_⟩;obtain ⟨sb2,ht3,hro2,k2,nro,tro,d2⟩:=By (o:= .lst []) (f:=Str.ofString "row") sb1 ht2 hron;have hsi2:=k2 _ _ hsi1 tsi;have ne_ro_si:ro≠si:=(d2 _ _ hsi1).symm;walk_at "go";show _;generalize upd (upd HB0 ro (.lst [])) t (.ins Z0 dx (Aj (Str.ofString "row") (V.ref ro) (Aj (Str.ofString "sizes") (V.ref si) (Aj (Str.ofString "stock") (V.ref p) []))))=HB1 at sb2 ht3 k2 hsi2 hro2 ⊢;intro he hhen;refine ⟨Z0,dx,_,by rw [A4 (A6 ht3 hhen)];exact ht3,T.Z3,T.Zn,Fx (Aa (Aa (Aa (Fe _)))) (by decide),?_⟩;obtain ⟨sb3,ht4,hhe3,k3,nhe,the,d3⟩:=By (o:= .dK []) (f:=Str.ofString "held") sb2 ht3 hhen;have hsi3:=k3 _ _ hsi2 tsi;have ne_he_si:he≠si:=(d3 _ _ hsi2).symm;have hro3:=k3 _ _ hro2 tro;have ne_he_ro:he≠ro:=(d3 _ _ hro2).symm;walk_at "go";show _
 generalize upd (upd HB1 he (.dK [])) t (.ins Z0 dx (Aj (Str.ofString "held") (V.ref he) (Aj (Str.ofString "row") (V.ref ro) (Aj (Str.ofString "sizes") (V.ref si) (Aj (Str.ofString "stock") (V.ref p) [])))))=HB2 at sb3 ht4 k3 hsi3 hro3 hhe3 ⊢;intro la hlan;refine ⟨Z0,dx,_,by rw [A4 (A6 ht4 hlan)];exact ht4,T.Z3,T.Z03,Fx (Aa (Aa (Aa (Aa (Fe _))))) (by decide),?_⟩;obtain ⟨sb4,ht5,hla4,k4,nla,tla,d4⟩:=By (o:= .dK []) (f:=Str.ofString "late") sb3 ht4 hlan;have hsi4:=k4 _ _ hsi3 tsi;have ne_la_si:la≠si:=(d4 _ _ hsi3).symm;have hro4:=k4 _ _ hro3 tro;have ne_la_ro:la≠ro:=(d4 _ _ hro3).symm;have hhe4:=k4 _ _ hhe3 the;have ne_la_he:la≠he:=(d4 _ _ hhe3).symm;walk_at "go";show _;generalize upd (upd HB2 la (.dK [])) t (.ins Z0 dx (Aj (Str.ofString "late") (V.ref la) (Aj (Str.ofString "held") (V.ref he) (Aj (Str.ofString "row") (V.ref ro) (Aj (Str.ofString "sizes") (V.ref si) (Aj (Str.ofString "stock") (V.ref p) []))))))=HB3 at sb4 ht5 k4 hsi4 hro4 hhe4 hla4 ⊢
 intro so hson;refine ⟨Z0,dx,_,by rw [A4 (A6 ht5 hson)];exact ht5,T.Z3,T.Z0o,Fx (Aa (Aa (Aa (Aa (Aa (Fe _)))))) (by decide),?_⟩;obtain ⟨sb5,ht6,hso5,k5,nso,tso,d5⟩:=By (o:= .dK []) (f:=Str.ofString "store") sb4 ht5 hson;have hsi5:=k5 _ _ hsi4 tsi;have ne_so_si:so≠si:=(d5 _ _ hsi4).symm;have hro5:=k5 _ _ hro4 tro;have ne_so_ro:so≠ro:=(d5 _ _ hro4).symm;have hhe5:=k5 _ _ hhe4 the;have ne_so_he:so≠he:=(d5 _ _ hhe4).symm;have hla5:=k5 _ _ hla4 tla;have ne_so_la:so≠la:=(d5 _ _ hla4).symm;walk_at "go";show _;generalize upd (upd HB3 so (.dK [])) t (.ins Z0 dx (Aj (Str.ofString "store") (V.ref so) (Aj (Str.ofString "late") (V.ref la) (Aj (Str.ofString "held") (V.ref he) (Aj (Str.ofString "row") (V.ref ro) (Aj (Str.ofString "sizes") (V.ref si) (Aj (Str.ofString "stock") (V.ref p) [])))))))=HB4 at sb5 ht6 k5 hsi5 hro5 hhe5 hla5 hso5 ⊢;intro en henn;refine ⟨Z0,dx,_,by rw [A4 (A6 ht6 henn)];exact ht6,T.Z3,T.Z0d,Fx (Aa (Aa (Aa (Aa (Aa (Aa (Fe _))))))) (by decide),?_⟩
 obtain ⟨sb6,ht7,hen6,k6,nen,ten,d6⟩:=By (o:= .lst []) (f:=Str.ofString "entries") sb5 ht6 henn;have hsi6:=k6 _ _ hsi5 tsi;have ne_en_si:en≠si:=(d6 _ _ hsi5).symm;have hro6:=k6 _ _ hro5 tro;have ne_en_ro:en≠ro:=(d6 _ _ hro5).symm;have hhe6:=k6 _ _ hhe5 the;have ne_en_he:en≠he:=(d6 _ _ hhe5).symm;have hla6:=k6 _ _ hla5 tla;have ne_en_la:en≠la:=(d6 _ _ hla5).symm;have hso6:=k6 _ _ hso5 tso;have ne_en_so:en≠so:=(d6 _ _ hso5).symm;walk_at "go";show _;generalize upd (upd HB4 en (.lst [])) t (.ins Z0 dx (Aj (Str.ofString "entries") (V.ref en) (Aj (Str.ofString "store") (V.ref so) (Aj (Str.ofString "late") (V.ref la) (Aj (Str.ofString "held") (V.ref he) (Aj (Str.ofString "row") (V.ref ro) (Aj (Str.ofString "sizes") (V.ref si) (Aj (Str.ofString "stock") (V.ref p) []))))))))=HB5 at sb6 ht7 k6 hsi6 hro6 hhe6 hla6 hso6 hen6 ⊢;intro l0 hl0;have hS5:=SqL.but sb6 ht1 hS1;have smz:A9 HB5 (upd HB5 l0 (.lst [V.int 0])):=A9.new hl0
 have sbz:SameBut t H1 (upd HB5 l0 (.lst [V.int 0])):=sb6.trans (.of smz);have hlz:upd HB5 l0 (.lst [V.int 0]) l0=some (.lst [V.int 0]):=A3;have htz:=smz _ _ ht7;have hsiz:=smz _ _ hsi6;have hroz:=smz _ _ hro6;have hhez:=smz _ _ hhe6;have hlaz:=smz _ _ hla6;have hsoz:=smz _ _ hso6;have henz:=smz _ _ hen6;have hSz:=smz.seq hS5;generalize upd HB5 l0 (.lst [V.int 0])=HZ at sbz hlz htz hsiz hroz hhez hlaz hsoz henz hSz ⊢;refine ⟨_,.inl hSz,?_⟩;rw [Fa];refine ⟨l0,_,_,rfl,rfl,hlz,by omega,by omega,by simp;omega,fun fi hfi=>?_⟩;rw [J7u];refine ⟨Z0,dx,_,by rw [A4 (A6 htz hfi)];exact htz,T.Z3,T.Z0c,Fx (Aa (Aa (Aa (Aa (Aa (Aa (Aa (Fe _)))))))) (by decide),?_⟩;obtain ⟨sb7,ht8,hfi7,k7,nfi,tfi,d7⟩:=By (o:= .lst ((List.replicate (zs.length+1) (0:Int)).map V.int)) (f:=Str.ofString "finds") sbz htz hfi;have hsi7:=k7 _ _ hsiz tsi;have hro7:=k7 _ _ hroz tro;have hhe7:=k7 _ _ hhez the
 have hla7:=k7 _ _ hlaz tla;have hso7:=k7 _ _ hsoz tso;have hen7:=k7 _ _ henz ten;have ne_fi_si:=(d7 _ _ hsiz).symm;have ne_fi_ro:=(d7 _ _ hroz).symm;have ne_fi_en:=(d7 _ _ henz).symm;walk_at "go";refine ⟨Z0,dx,_,ht8,T.Z3,T.Z0w,Fx (Aa (Aa (Aa (Aa (Aa (Aa (Aa (Aa (Fe _))))))))) (by decide),?_⟩
 have kz:∀b u,HZ b=some u→upd HZ fi (.lst ((List.replicate (zs.length+1) (0:Int)).map V.int)) b=some u:=fun b u e=>by rw [A4 (A6 e hfi)];exact e
 refine q ⟨p,si,ro,he,la,so,en,fi⟩ ⟨zs,[],[],[],[],[],List.replicate (zs.length+1) 0,0⟩ _ (fun b o e nb=>?_) ⟨?_,?_⟩ rfl rfl rfl rfl rfl (fun b hb=>?_)
 · rw [A4 nb];exact kz _ _ (sbz _ _ (sm1 _ _ e) nb)
 · have hfin:∀u:HO,SameBut t H1 (upd (upd HZ fi (.lst ((List.replicate (zs.length+1) (0:Int)).map V.int))) t u):=fun u b o e nb=>by rw [A4 nb];exact kz _ _ (sbz _ _ e nb)
   refine ⟨⟨⟨dx,f6 ⟨p,si,ro,he,la,so,en,fi⟩,A3,Sn _⟩,by rw [A4 tsi];exact kz _ _ hsiz,by rw [A4 tro];exact kz _ _ hroz,by rw [A4 the];exact kz _ _ hhez,by rw [A4 tla];exact kz _ _ hlaz,by rw [A4 tso];exact kz _ _ hsoz,by rw [A4 ten];exact kz _ _ henz,by rw [A4 tfi];exact A3,ne_la_he.symm,ne_so_he.symm,ne_so_la.symm,ne_ro_si,ne_en_ro.symm,ne_fi_ro.symm,ne_en_si.symm,ne_fi_si.symm,ne_fi_en.symm⟩,?_,⟨(fun y hy=>by cases hy),(fun y hy=>by cases hy),(fun y v hv=>by cases hv),Fl _,Fl _,Fl _,Fl _,by decide⟩,HK,?_,hz1,hz6,hzz,(fun y hy=>by cases hy),nd,htl,by simp⟩
   · refine ((hs1.ins ht1).mono fun b hb=>?_).off fun b o e n=>hfin _ b o e fun z=>n (by rw [z];simp [own])
     have hb':b=t∨b=ro∨b=he∨b=la∨b=so∨b=en∨b=fi:=by simpa [own] using hb
     rcases hb' with h | h | h | h | h | h | h <;> rw [h]
     · exact .inl Fj
     · exact .inr nro
     · exact .inr nhe
     · exact .inr nla
     · exact .inr nso
     · exact .inr nen
     · exact .inr nfi
   · have h4:=Ip (zs:=zs) (fun z hz=>(hzz z hz).1) zs.length
     unfold pre at h4;rw [FU]at h4;exact h4
 · exact ⟨(fun y hy=>by cases hy),(fun y=>rfl),(fun y hy=>by cases hy),(fun y=>rfl),⟨[],rfl,rfl,fun i u e h=>by simp at h⟩,Fl _,Fl _,Fl _,Fl _,by decide,(fun e he=>by cases he)⟩
 · have hb':b=si∨b=t∨b=ro∨b=he∨b=la∨b=so∨b=en∨b=fi:=by simpa [own] using hb
   rcases hb' with h | h | h | h | h | h | h | h <;> rw [h]
   · exact .inr (nw _ nsi)
   · exact .inl rfl
   · exact .inr (nw _ nro)
   · exact .inr (nw _ nhe)
   · exact .inr (nw _ nla)
   · exact .inr (nw _ nso)
   · exact .inr (nw _ nen)
   · exact .inr (nw _ nfi)
variable (Z1q:Qq P w K mg base CX0 5 "Prompt" Z0 ["self","stock","sizes"] (Ek K Z0 Z2))
include T Zf in
theorem Z6c(F:Fun K "rest" "Tower.rest" Z3j f fd):Ar P w K mg base CX0 4 f fd ["self"] (Du K Z0 Z2):=by
 have sc:Ab ["self","names","name"] ["self"] (A7 Z3j):=by walk_at "sc"
 walk_at "ok"
 · exact n6 h_ fun _ _ _ _ _ _=>rfl
 refine x6 h_ fun t x s g ts B e_=>y4 e_ fun e0 hG hB q=>?_;clear e_ h_;subst e0
 refine ⟨_,(@A1 _ _ _ _ _ (Si (i:=1) "name" [0] sc.nd rfl rfl rfl rfl (Bt (Af (pv 0) rfl)) (fun b=>(Ih (Lb (C8 hr) (pv 0) (Af (pv 1) rfl)))) (fun b=>(pv 0)))
  (@A1 _ _ _ _ _ (D0 PassesOwn.never rfl (Bt (pv 1)) (Bb (i:=2) sc.nd rfl (Or.inl rfl))
   (@A5 _ _ _ (Ai (Ak Zf T.Z3 hr (Av Ac) (pv 0) (A0 (pv 2) A2)))))
  (@A1 _ _ _ _ _ (Bc (pv 0) C9 rfl)
  (@A5 _ _ _ (@Ae _ _ _ _ (Ap Aq rfl T.Zh FC (A0 (pv 1) A2))))))),?_⟩
 walk_at "st";have hW:=hG.to;obtain ⟨dx,fs,ho,hf⟩:=hW.tw.o;have hrl:=hW.rl;walk_at "go";refine ⟨Z0,dx,fs,ho,T.Z3,T.Zl,_,hf.ro,x.ro,rfl,⟨_,SqL.of hW.tw.ro⟩,Sg (xs:=s.R.map V.str) (J1l s.kl) (fun v=>v) (SqL.of hW.tw.ro) (by rw [Fa];omega) ?_ ?_ ?_⟩
 · intro b v H5 QT hx sm q'
   obtain ⟨y,hy,rfl⟩:=FH.mp hx;have q2:=q' H5 (A9.refl _);walk_at "go";exact ⟨Z0,dx,fs,sm _ _ ho,T.Z3,T.Z03,_,hf.la,x.la,rfl,_,Cw.k (k:=Sum.inr y) (sm _ _ hW.tw.la),q2⟩
 · intro b v H5 Q' hx _ sm q'
   obtain ⟨y,_,rfl⟩:=FH.mp hx;walk_at "go";exact q' _ (A9.refl _)
 · intro D H1 hD sm1 hD1
   rw [Ol,show (s.R.filter fun y=>(B1 s.kl (Sum.inr y)).isSome)=s.R.filter g.l by congr 1;funext y;exact hG.g.l y]at hD1;have hns:∀y∈s.R.filter g.l,y∈s.R:=fun y hy=>(HD.mp hy).1;have hnl:(s.R.filter g.l).length≤59:=FA (Ho _ _) hrl;have hrG:G3 s.R g={C6 (s.R.filter g.l) g with l:=fun _=>false}:=rfl;generalize s.R.filter g.l=ns at hD1 hns hnl hrG q;have hT1:=hW.tw.same sm1;have o1:Off (own t x) H H1:= .of sm1
   have hDo:∀b∈own t x,D≠b:=fun b hb e=>by
    have hb':b=t∨b=x.ro∨b=x.he∨b=x.la∨b=x.so∨b=x.en∨b=x.fi:=by simpa [own] using hb
    have hT0:=hW.tw
    rcases hb' with h | h | h | h | h | h | h <;> rw [e,h]at hD
    · rw [ho]at hD;cases hD
    · rw [hT0.ro]at hD;cases hD
    · rw [hT0.he]at hD;cases hD
    · rw [hT0.la]at hD;cases hD
    · rw [hT0.so]at hD;cases hD
    · rw [hT0.en]at hD;cases hD
    · rw [hT0.fi]at hD;cases hD
   walk_at "go";refine ⟨⟨_,SqL.of hD1⟩,?_⟩;rename_i rest hrest;refine Dy (xs:=ns.map V.str) (fun i σ H'=>∃(s':TwS) (v2:Option V),σ=[some (V.ref t),some (V.ref D),v2]∧Off (own t x) H H'∧H' D=some (.lst (ns.map V.str))∧B9 Z0 H' t x s'∧s'.R=s.R∧s'.zs=s.zs∧s'.ff=s.ff∧s'.pd=s.pd∧TwG H' s' (C6 (ns.take i) g) (B+i) (fun y=>y∈s.R)) ⟨s,none,rfl,o1,hD1,hT1,rfl,rfl,rfl,rfl,hG.g.same sm1⟩ (fun i σ H' _ h_=>by obtain ⟨s',v2,_,_,hD',_⟩:=h_;exact SqL.of hD') ?_ ?_
   · rintro i v σ H' hv ⟨s',v2,rfl,o',hD',hT',e1,e2,e3,e4,hL'⟩
     have hi:i < ns.length:=by
      have:=(Fc.mp hv).1;rw [Fa]at this;exact this
     rw [Fi,G9 hi]at hv;cases hv;have hyR:=hns _ (Fo (G9 hi))
     have htk:C6 (ns.take (i+1)) g=(C6 (ns.take i) g).write (ns.getD i Str.empty):=by
      rw [Ri,G9 hi];unfold C6;rw [RL];rfl
     generalize ns.getD i Str.empty=y at hyR htk ⊢;obtain ⟨dx',fs',ho',hf'⟩:=hT'.o;walk_at "go";refine ⟨dx',fs',ho',hf'.m _ (by simp),x,s',hT',_,B+i,_,hL',by omega,hyR,fun s2 H2 o2 hT2 f1 f2 f3 f4 _ hL2=>?_⟩;walk_at "go";exact ⟨o'.trans o2,o2 _ _ hD' (fun h=>hDo _ h rfl),s2,hT2,f1.trans e1,f2.trans e2,f3.trans e3,f4.trans e4,by rw [htk];exact hL2⟩
   · rintro σ H' ⟨s',v2,rfl,o',hD',hT',e1,e2,e3,e4,hL'⟩
     obtain ⟨dx',fs',ho',hf'⟩:=hT'.o;rw [Fa,FU]at hL';walk_at "go";intro l hl0;refine ⟨Z0,dx',fs',by rw [A4 (A6 ho' hl0)];exact ho',T.Z3,T.Z03,by have:=hf'.n;omega,?_⟩;have hTn:=hT'.newLate ho' hf' hl0;have oN:Off (own t x) H' (upd (upd H' l (.dK [])) t (.ins Z0 dx' (Aj (Str.ofString "late") (.ref l) fs'))):=(Off.of (A9.new hl0)).trans (Off.put (by simp [own]))
     have hlH:H l=none:=by
      cases e:H l with
      | none=>rfl
      | some o=>
       by_cases hin:l∈own t x
       · have hb':l=t∨l=x.ro∨l=x.he∨l=x.la∨l=x.so∨l=x.en∨l=x.fi:=by simpa [own] using hin
         rcases hb' with h | h | h | h | h | h | h <;> rw [h]at hl0
         · rw [ho']at hl0;cases hl0
         · rw [hT'.ro]at hl0;cases hl0
         · rw [hT'.he]at hl0;cases hl0
         · rw [hT'.la]at hl0;cases hl0
         · rw [hT'.so]at hl0;cases hl0
         · rw [hT'.en]at hl0;cases hl0
         · rw [hT'.fi]at hl0;cases hl0
       · rw [o' _ _ e hin]at hl0;cases hl0
     have hDN:=oN _ _ hD' (fun h=>hDo _ h rfl);generalize upd (upd H' l (.dK [])) t (.ins Z0 dx' (Aj (Str.ofString "late") (.ref l) fs'))=HN at hTn oN hDN ⊢;have oA:=o'.trans oN
     have hown:∀b∈own t {x with la:=l},b∈own t x++[l]:=fun b hb=>by
      have hb':b=t∨b=x.ro∨b=x.he∨b=l∨b=x.so∨b=x.en∨b=x.fi:=by simpa [own] using hb
      simp only [own,Fq,Fh,FR,or_false]
      rcases hb' with h | h | h | h | h | h | h <;> simp [h]
     have hsN:B2 K Z2 HN x.st ts (own t {x with la:=l}):=((hW.sk.mono (L':=own t x++[l]) (fun b hb=>by rcases Fq.mp hb with h | h;(· exact .inl h);(· rw [Fg.mp h];exact .inr hlH))).off (oA.mono fun b hb=>FJ _ hb)).mono fun b hb=> .inl (hown b hb);walk_at "go";refine ⟨_,.inl (SqL.of hDN),?_⟩;have hGn:=(hL'.noLate).off hT' oN;rw [← hrG]at hGn;rw [Fa];refine q {x with la:=l} {s' with kl:=[]} HN oA (fun b hb=>?_) ⟨⟨hTn,hsN,?_,by show s'.R.Nodup;rw [e1];exact hW.nd,by show (s'.R.length:Int)≤s'.zs.sum;rw [e1,e2];exact hW.rs,by show 1≤s'.zs.length;rw [e2];exact hW.z1,by show s'.zs.length≤6;rw [e2];exact hW.zl,by show ∀z∈s'.zs,_;rw [e2];exact hW.zz,by show ∀y∈s'.R,_;rw [e1];exact hW.rn,hW.tn,hW.tl,by show s'.ff.length=s'.zs.length+1;rw [e2,e3];exact hW.ff⟩,?_⟩ e1 e2 e4 e3 rfl rfl
     · rcases Fq.mp (hown b hb) with h | h
       · exact .inl h
       · rw [Fg.mp h];exact .inr hlH
     · show TwL _ _ (fun y=>y∈s'.R)
       exact (hGn.iff (q:=fun y=>y∈s'.R) (B':=B+100) (fun u=>by rw [e1]) (by omega) (by omega)).toL
     · show TwG _ _ _ _ (fun y=>y∈s'.R)
       exact hGn.iff (q:=fun y=>y∈s'.R) (B':=B+100) (fun u=>by rw [e1]) (by omega) (by omega)
variable (Z1r:Ca P w K mg base CX0 4 Z0 "rest" ["self"] (Du K Z0 Z2))
include T Z11 in
theorem Z6d(F:Fun K "read_number" "read_number" Z3k f fd):Ar P w K mg base CX0 2 f fd ["text"] (Me):=by
 have sc:Ab ["text"] ["text"] (A7 Z3k):=by walk_at "sc"
 walk_at "ok"
 · exact n1 h_ fun _=>rfl
 refine x1 h_ fun z e_=>y3 e_ fun e0 hn q=>?_;clear e_ h_;subst e0
 refine ⟨_,(@A1 _ _ _ _ _ (Az (PW.pt (Ub (Ao Ki (Ap Ed rfl T.Zh FC (A0 (pv 0) A2)) A8 (nomark _)) (Ub (Ao Nq (Ap Ed rfl T.Zh FC (A0 (pv 0) A2)) (Iv rfl T.Z2f) (nomark _)) (T4 (Dm (Dd (Ad Z11 hr rfl Ac (A0 (pv 0) (A0 (M8 rfl T.Z40) A2)))))))))
  (@A5 _ _ _ Be)
  Ag)
  (@A1 _ _ _ _ _ (Az (PW.pt (T6 (Ao D1 (@Bk _ _ _ _ _ _ _ L9 (pv 0) A8 (fun _ _=>rfl)) Am (nomark _)) (P3 (Ao Ug (pv 0) Am (nomark _)))))
   (@A5 _ _ _ Be)
   Ag)
  (@A5 _ _ _ (@Ae _ _ _ _ (B5 Nm rfl T.Z4n (by first | rfl | decide+kernel) (A0 (pv 0) A2)))))),?_⟩
 walk_at "st";have hl:=Dh (z:=z)
 obtain ⟨h1,h2,h3,h4⟩:1≤z.length∧z.length≤31∧(z.cps.toList.all fun c=>decide (c∈Bd))=true∧(Le z.cps.toList [48] && !decide (z.cps.toList=[48]))=false:=by
  have h:=hn;unfold S3 at h;simp only [Hi,decide_eq_true_eq,Bool.not_eq_true']at h;exact ⟨by omega,by omega,h.1.2,h.2⟩
 walk_at "go";rw [if_neg (by omega)];refine ⟨by omega,?_⟩;rw [if_neg (by omega)];refine ⟨by omega,fun H1 sm1=>?_⟩;rw [Qz,if_neg (by rw [h3];simp)]
 obtain ⟨c,r,hcr⟩:∃c r,z.cps.toList=c::r:=by
  cases h:z.cps.toList with
  | nil=>rw [h]at hl;simp at hl;omega
  | cons c r=>exact ⟨c,r,rfl⟩
 have fin:(∃x,PySem.intText? z=some x∧z.length≤640∧Q (V.int x) H1):=⟨_,J15 h3 (by rw [hcr];simp) (by omega),by omega,q _ sm1⟩
 walk_at "rs";refine Ld (by omega) (by rw [hcr];exact J7o) ?_;walk_at "go";simp only [J3b];simp only [J14];split
 · rename_i h5
   have h7:z.cps.toList=[48]:=by
    rw [hcr,h5]at h4;rw [hcr,h5]
    simpa [Le] using h4
   rw [if_neg (fun h6=>h6 h7)];walk_at "go";exact fin
 · walk_at "go"
   exact fin
variable (Z1s:Def P w K mg base CX0 2 "read_number" ["text"] (Me))
include T Z12 in
theorem Z78(F:Fun K "read_name" "read_name" Z45 f fd):Ar P w K mg base CX0 3 f fd ["word"] (K2):=by
 have sc:Ab ["word"] ["word"] (A7 Z45):=by walk_at "sc"
 walk_at "ok"
 · exact n1 h_ fun _=>rfl
 refine x1 h_ fun z e_=>y3 e_ fun e0 hz q=>?_;clear e_ h_;subst e0
 refine ⟨_,(@A1 _ _ _ _ _ (Az (Dm (Dd (Ad Z12 hr rfl Ac (A0 (pv 0) A2))))
  (@A5 _ _ _ Be)
  Ag)
  (@A5 _ _ _ (@Ae _ _ _ _ (pv 0)))),?_⟩
 walk_at "st";have hl:=K0 hz;rw [Dh]at hl;walk_at "go";intro H' sm;rw [hz,if_neg (by simp)];walk_at "rs";exact q H' sm
variable (Z2z:Def P w K mg base CX0 3 "read_name" ["word"] (K2))
include T Z2z Z1s in
theorem Z79(F:Fun K "read_word" "read_word" Z46 f fd):Ar P w K mg base CX0 4 f fd ["kind","word"] (K3):=by
 have sc:Ab ["kind","word"] ["kind","word"] (A7 Z46):=by walk_at "sc"
 walk_at "ok"
 · exact n3 h_ fun _ _ _=>rfl
 refine x3 h_ fun k w' v e_=>y3 e_ fun e0 hW q=>?_;clear e_ h_;subst e0
 refine ⟨_,(@A1 _ _ _ _ _ (Az (Ao D1 (pv 0) Am (nomark _))
  (@A5 _ _ _ (@Ae _ _ _ _ (Ad Z2z hr rfl Ac (A0 (pv 1) A2))))
  Ag)
  (@A1 _ _ _ _ _ (Az (Ao D1 (pv 0) Am (nomark _))
   (@A5 _ _ _ Be)
   Ag)
  (@A5 _ _ _ (@Ae _ _ _ _ (Ad Z1s hr rfl Ac (A0 (pv 1) A2)))))),?_⟩
 walk_at "st";walk_at "go";rcases hW with ⟨h1,h2,rfl⟩ | ⟨h1,h2,h3,rfl⟩
 · rw [if_pos h1]
   exact ⟨h2,q⟩
 · rw [if_neg h1]
   walk_at "rs";rw [if_neg h2];walk_at "rs";exact q
variable (Z30:Def P w K mg base CX0 4 "read_word" ["kind","word"] (K3))
include T in
theorem Z7g(F:Fun K "kinds_of" "kinds_of" Z4a f fd):Ar P w K mg base CX0 1 f fd ["form","many"] (Gu K):=by
 have sc:Ab ["form","many"] ["form","many"] (A7 Z4a):=by walk_at "sc"
 walk_at "ok"
 · exact n3 h_ fun _ _ _=>rfl
 refine x3 h_ fun a fs n e_=>y6 e_ fun e0 hS hl hn h1 q=>?_;clear e_ h_;subst e0
 refine ⟨_,(@A1 _ _ _ _ _ (Az (Ao D8 Am (pv 0) (by with_unfolding_all rfl))
  (@A5 _ _ _ (@Ae _ _ _ _ (Ah Tl (@Bn _ _ _ _ (A0 (@Bk _ _ _ _ _ _ _ L8 (pv 0) A8 (fun _ _=>rfl)) A2)) (Ap (Wy rfl) rfl T.Z7n (by first | rfl | decide+kernel) (A0 A8 (A0 (pv 1) A2))))))
  Ag)
  (@A5 _ _ _ (@Ae _ _ _ _ (B5 Df rfl T.Z32 (by first | rfl | decide+kernel) (A0 (pv 0) A2))))),?_⟩
 walk_at "st";walk_at "go";refine Wf hS ⟨_,rfl,?_⟩
 by_cases hd:Str.ofString ".."∈fs
 · rw [if_pos (by simpa using hd)]
   have hl1:=h1 hd;refine Ke hS (v:=V.str (fs.getD 0 Str.empty)) (C4 (j:=0) (by cases fs with | nil=>exact absurd hl1 (by simp) | cons u r=>rfl)) ⟨by omega,fun p hp=>?_⟩;show J75 (V.ref p) (V.int (if (n:Int) > 1 then (n:Int) else 1)) _ _
   have em:(if (n:Int) > 1 then (n:Int) else 1)=((max 1 n:Nat):Int):=by split <;> omega
   rw [em]
   have hm:max 1 n≤100:=by omega
   refine ⟨p,_,_,rfl,rfl,A3,by omega,by omega,by rw [Int.toNat_natCast];simp only [List.length_cons,List.length_nil];omega,fun p1 hp1=>?_⟩;refine q p1 _ (none_of (A9.new hp) hp1) ((A9.new hp).trans (A9.new hp1)) ?_;rw [A3,Int.toNat_natCast];unfold Bi;rw [if_pos hd,List.map_replicate];congr 2;generalize max 1 n=m
   induction m with
   | zero=>rfl
   | succ m ih=>rw [Hn,R3,ih,Hn];rfl
 · rw [if_neg (by simpa using hd)]
   walk_at "rs";intro l hl;refine q l _ hl (A9.new hl) ?_;rw [A3];unfold Bi;rw [if_neg hd]
variable (Z3q:Def P w K mg base CX0 1 "kinds_of" ["form","many"] (Gu K))
include T Z3q Z30 in
theorem Z7a(F:Fun K "read_line" "read_line" Z47 f fd)(Z6e:∀b,U2 w.params K Zg b):Ar P w K mg base CX0 5 f fd ["line"] (K4):=by
 have sc:Ab ["line","words","first","kinds"] ["line"] (A7 Z47):=by walk_at "sc"
 walk_at "ok"
 · exact n1 h_ fun _=>rfl
 refine x1 h_ fun l e_=>y3 e_ fun e0 ok q=>?_;clear e_ h_;subst e0
 refine ⟨_,(@A1 _ _ _ _ _ (Ay (i:=1) sc.nd rfl (Or.inl rfl) (Cp FY Rp Ro Mv (pv 0) (A0 Am A2)))
  (@A1 _ _ _ _ _ (Ay (i:=2) sc.nd rfl (Or.inl rfl) (@Bk _ _ _ _ _ _ _ Bg (pv 1) A8 (fun _ _=>rfl)))
  (@A1 _ _ _ _ _ (Az (Ih (J3k (pv 2) (Kh (v:= .ref Zg) rfl T.Z7j rfl)))
   (@A5 _ _ _ Be)
   Ag)
  (@A1 _ _ _ _ _ (Ay (i:=3) sc.nd rfl (Or.inl rfl) (Ad Z3q hr rfl Ac (A0 (Wa (Kh (v:= .ref Zg) rfl T.Z7j rfl) (pv 2) (fun _ _=>rfl)) (A0 (Ah P5 (Ap Aq rfl T.Zh FC (A0 (pv 1) A2)) A8) A2))))
  (@A1 _ _ _ _ _ (Az (Ao Ug (Ap Aq rfl T.Zh FC (A0 (pv 3) A2)) (Ah P5 (Ap Aq rfl T.Zh FC (A0 (pv 1) A2)) A8) (nomark _))
   (@A5 _ _ _ Be)
   Ag)
  (@A5 _ _ _ (@Ae _ _ _ _ (Em (A0 (pv 2) (A0 (N0 "kind" "word" [] rfl rfl (J5t rfl T.Z7o (A0 (pv 3) (A0 (Ij Lx (pv 1) (Ex A8) Uj) A2))) (fun b=>(Ad Z30 hr rfl Ac (A0 (pv 0) (A0 (pv 1) A2))))) A2)))))))))),?_⟩
 walk_at "st";have hlong:=ok.long;walk_at "go";intro p hp;rw [ok.split];have sm1:A9 H (upd H p (.lst ((wd l.b::l.ws).map V.str))):=A9.new hp;have hp1:upd H p (.lst ((wd l.b::l.ws).map V.str)) p=some (.lst ((wd l.b::l.ws).map V.str)):=A3;generalize upd H p (.lst ((wd l.b::l.ws).map V.str))=H1 at sm1 hp1 ⊢;obtain ⟨fa,hf1,hf2⟩:=Z6e l.b;walk_at "rs";refine Ck (SqL.of hp1) (v:=V.str (wd l.b)) (C4 (j:=0) rfl) ?_;walk_at "rs";refine ⟨_,hf1,?_⟩;rw [if_neg (by simp)];walk_at "rs";refine ⟨_,hf1,_,.inl (SqL.of hp1),fa,rfl,fm l.b,l.ws.length,by rw [Fa,List.length_cons];omega,hf2 H1,(J21 l.b).1,ok.m,(J21 l.b).2,fun k2 H2 hk sm2 hk2=>?_⟩;have hp2:=sm2 _ _ hp1;have sm02:=sm1.trans sm2;clear sm1 sm2 hp1 hf1 hf2;have hkl:=ok.k;have hall:=ok.w;generalize Bi (fm l.b) l.ws.length=ks at hk2 hkl hall;walk_at "rs";refine ⟨_,.inl (SqL.of hk2),_,.inl (SqL.of hp2),?_⟩;rw [if_neg (by rw [Fa,Fa,List.length_cons];omega)]
 walk_at "rs";refine ⟨_,SqL.of hp2,fun p3 hp3=>?_⟩;rw [List.map_cons,J60];have sm3:A9 H2 (upd H2 p3 (.lst (l.ws.map V.str))):=A9.new hp3;have hp33:upd H2 p3 (.lst (l.ws.map V.str)) p3=some (.lst (l.ws.map V.str)):=A3;generalize upd H2 p3 (.lst (l.ws.map V.str))=H3 at sm3 hp33 ⊢;have hk3:=sm3 _ _ hk2;have sm03:=sm02.trans sm3;clear sm02 sm3 hp2 hk2 hp3;have hvl:=ok.v;have hml:=ok.m;refine ⟨⟨_,SqL.of hk3⟩,⟨_,SqL.of hp33⟩,?_⟩;refine J20 (fun i=>l.vs.getD i .non) (by rw [Fa,Fa];omega) (SqL.of hk3) (SqL.of hp33) (by rw [Fa];omega) (fun b i x z H' Q' hx hz sm q'=>?_) fun D H4 hD sm4 hD4=>?_
 · rw [Fi]at hx hz
   cases hki:ks[i]? with
   | none=>rw [hki]at hx;cases hx
   | some k=>
   cases hwi:l.ws[i]? with
   | none=>rw [hwi]at hz;cases hz
   | some w'=>
   rw [hki]at hx;rw [hwi]at hz;cases hx;cases hz;have hil:=(Fc.mp hwi).1
   have hvi:l.vs[i]?=some (l.vs.getD i .non):=by rw [Fk,Fb (by omega)];rfl
   have hW:=hall i k w' _ hki hwi hvi;walk_at "go";exact ⟨_,hW,q'⟩
 have eD:(List.range (l.ws.map V.str).length).map (fun i=>l.vs.getD i V.non)=l.vs:=by
  refine RM fun i=>?_;rw [Fi]
  by_cases hi:i < l.vs.length
  · rw [Rf (by rw [Fa];omega),Fb hi]
    show some (l.vs.getD i V.non)=_;rw [Fk,Fb hi];rfl
  · rw [He (by rw [FT,Fa];omega),He (by omega)];rfl
 rw [eD]at hD4;clear eD;refine ⟨by omega,fun t ht=>?_⟩;have sm04:=sm03.trans sm4;exact q t D _ (sm04.trans (A9.new ht)) (none_of sm04 ht) (none_of sm03 hD) (A6 hD4 ht).symm A3 ((A9.new ht) _ _ hD4)
variable (Z31:Def P w K mg base CX0 5 "read_line" ["line"] (K4))
include T Z0g in
theorem Z7b(F:Fun K "__init__" "Desk.__init__" Z48 f fd):Ar P w K mg base CX0 6 f fd ["self"] (K5 K Z5 Z2):=by
 have sc:Ab ["self"] ["self"] (A7 Z48):=by walk_at "sc"
 walk_at "ok"
 · exact n2 h_ fun _ _=>rfl
 refine x2 h_ fun d dx e_=>y3 e_ fun e0 hd q=>?_;clear e_ h_;subst e0
 refine ⟨_,(@A1 _ _ _ _ _ (Bc (pv 0) (Ko Z0g hr rfl (Av Ac) (A0 (@Bn _ _ _ _ A2) A2)) rfl)
  (@A1 _ _ _ _ _ (Bc (pv 0) (@Bn _ _ _ _ A2) rfl)
  (@A5 _ _ _ (Bc (pv 0) Xx rfl)))),?_⟩
 walk_at "st";walk_at "go";intro p hp st dx2 hst hdx2 ne1;have sm1:A9 H (upd H p (.lst [])):=A9.new hp;have hp1:upd H p (.lst []) p=some (.lst []):=A3;generalize upd H p (.lst [])=H1 at sm1 hp1 hst hdx2 ⊢
 have smx:A9 H1 (upd (upd H1 dx2 (.own st)) st (.ins Z2 dx2 [])):=fun b o e=>by rw [A4 (A6 e hst),A4 (A6 e hdx2)];exact e
 refine ⟨dx2,A3,[],⟨SqL.of (smx _ _ hp1),(fun t ht=>absurd ht FR),rfl,fun H2 sb2 stkN=>?_⟩⟩;have stk:=stkN.at';have sm2:A9 H1 H2:=G8 hst hdx2 sb2;have sm02:=sm1.trans sm2;have hst0:H st=none:=none_of sm1 hst;have hd2:=sm02 _ _ hd;have hds:d≠st:=A6 hd hst0;have stk2:Au K Z2 H2 st []:=stk
 have stkn:Lq K Z2 H H2 st []:=stkN.mk' stk rfl fun b e=>by
  cases k:H b with
  | none=>rfl
  | some o=>rw [smx _ _ (sm1 _ _ k)]at e;cases e
 clear stk stkN smx sb2 hst hdx2 ne1 sm1 hp1 sm2 hp;refine ⟨Z5,dx,[],hd2,T.Z02,T.Z0e,by decide,?_⟩;walk_at "rs";intro as has;have hd3:upd H2 d (.ins Z5 dx (Aj (Str.ofString "stock") (.ref st) [])) d=some (.ins Z5 dx (Aj (Str.ofString "stock") (.ref st) [])):=A3
 have sb3:SameBut d H (upd H2 d (.ins Z5 dx (Aj (Str.ofString "stock") (.ref st) []))):=fun b o e nb=>by rw [A4 nb];exact sm02 _ _ e
 have stk3:Au K Z2 (upd H2 d (.ins Z5 dx (Aj (Str.ofString "stock") (.ref st) []))) st []:=by
  obtain ⟨dx',d',kvs,h1,h2,h3,h4⟩:=stk2.ex
  have hk:kvs=[]:=by cases kvs with | nil=>rfl | cons u r=>cases h3
  subst hk
  have n1:st≠d:=fun e=>by rw [e,hd2]at h1;cases h1
  have n2:d'≠d:=fun e=>by rw [e,hd2]at h2;cases h2
  exact ⟨dx',d',[],by rw [A4 n1];exact h1,by rw [A4 n2];exact h2,h3,fun i t e=>by simp at e⟩
 have hst3:upd H2 d (.ins Z5 dx (Aj (Str.ofString "stock") (.ref st) [])) st=H2 st:=A4 hds.symm;generalize upd H2 d (.ins Z5 dx (Aj (Str.ofString "stock") (.ref st) []))=H3 at hd3 sb3 stk3 has hst3 ⊢;have nad:d≠as:=A6 hd3 has
 have has0:H as=none:=by
  cases k:H as with
  | none=>rfl
  | some o=>rw [sb3 _ _ k nad.symm]at has;cases has
 refine ⟨Z5,dx,_,by rw [A4 nad];exact hd3,T.Z02,T.Z2x,Fx (Fe 1) (by decide),?_⟩;have has4:upd H3 as (.lst []) as=some (.lst []):=A3;have sm4:A9 H3 (upd H3 as (.lst [])):=A9.new has;generalize upd H3 as (.lst [])=H4 at has4 sm4 ⊢;have hd4:=sm4 _ _ hd3;have stk4:=stk3.same sm4;have sb4:SameBut d H H4:=fun b o e nb=>sm4 _ _ (sb3 _ _ e nb);walk_at "rs";refine ⟨Z5,dx,_,A3,T.Z02,T.Z0f,Fx (Fe 2) (by decide),?_⟩;have nad2:as≠d:=nad.symm;refine q st as _ (fun b o e nb=>by rw [A4 nb];exact sb4 _ _ e nb) ⟨dx,_,A3,⟨by with_unfolding_all rfl,by with_unfolding_all rfl,by with_unfolding_all rfl,by show 3 < 500;decide,by with_unfolding_all rfl,by with_unfolding_all rfl⟩⟩ (stkn.mk' ?_ ?_ fun b e=>e) (by rw [A4 nad2];exact has4) hst0 has0
 case refine_2=>
  obtain ⟨dx',d',kvs,h1,h2,h3,h4⟩:=stk2.ex;rw [A4 hds.symm,h1];refine sm4 _ _ ?_;rw [hst3];exact h1
 obtain ⟨dx',d',kvs,h1,h2,h3,h4⟩:=stk4.ex
 have hk:kvs=[]:=by cases kvs with | nil=>rfl | cons u r=>cases h3
 subst hk;have n1:st≠d:=hds.symm
 have n2:d'≠d:=fun e=>by rw [e,hd4]at h2;cases h2
 exact ⟨dx',d',[],by rw [A4 n1];exact h1,by rw [A4 n2];exact h2,h3,fun i t e=>by simp at e⟩
variable (Z0m:Qq P w K mg base CX0 6 "Desk" Z5 ["self"] (K5 K Z5 Z2))
include T in
theorem Z7h(F:Fun K "tower_of" "tower_of" Z4b f fd):Ar P w K mg base CX0 1 f fd ["desk"] (Mg Z5):=by
 have sc:Ab ["desk"] ["desk"] (A7 Z4b):=by walk_at "sc"
 walk_at "ok"
 · exact n4 h_ fun _ _ _ _=>rfl
 refine x4 h_ fun d st as t e_=>y3 e_ fun e0 hD q=>?_;clear e_ h_;subst e0
 refine ⟨_,(@A1 _ _ _ _ _ (Az (Ao J58 (Af (pv 0) rfl) Xx (nomark _))
  (@A5 _ _ _ Be)
  Ag)
  (@A5 _ _ _ (@Ae _ _ _ _ (Af (pv 0) rfl)))),?_⟩
 walk_at "su";obtain ⟨dx,fs,ho,hf⟩:=id hD.o;walk_at "go";refine ⟨Z5,dx,fs,ho,T.Z02,T.Z0f,_,hf.tw,?_⟩;rw [if_neg (by simp)];walk_at "rs";exact ⟨Z5,dx,fs,ho,T.Z02,T.Z0f,_,hf.tw,q⟩
variable (Z6:Def P w K mg base CX0 1 "tower_of" ["desk"] (Mg Z5))
include T Zi Ze Zu Z0g in
theorem Z5e(F:Fun K "answer_thing" "answer_thing" Z2p f fd):Ar P w K mg base CX0 9 f fd ["desk","given"] (E4 K Z5 Z2):=by
 have sc:Ab ["desk","given","stock","earlier"] ["desk","given"] (A7 Z2p):=by walk_at "sc"
 walk_at "ok"
 · exact n7 h_ fun _ _ _ _ _ _ _=>rfl
 refine x7 h_ fun d gv st as tw ts t e_=>y8 e_ fun e0 hD hst nd hl hok hg q=>?_;clear e_ h_;subst e0
 refine ⟨_,(@A1 _ _ _ _ _ (Ay (i:=2) sc.nd rfl (Or.inr rfl) (Af (pv 0) rfl))
  (@A1 _ _ _ _ _ (J0o (i:=3) "name" [2] sc.nd rfl rfl rfl rfl (Bt (G7 Zi T.Za hr (Av Ac) (pv 2))) (fun b=>(Em (A0 (pv 0) (A0 (Ak Ze T.Za hr (Av Ac) (pv 1) (A0 (pv 0) A2)) (A0 (Ak Zu T.Za hr (Av Ac) (pv 1) (A0 (pv 0) A2)) A2))))))
  (@A1 _ _ _ _ _ (Bc (pv 0) (Ko Z0g hr rfl (Av Ac) (A0 (Ah Tj (pv 3) (@Bn _ _ _ _ (A0 (B5 Nl rfl T.Z5y (by first | rfl | decide+kernel) (A0 (pv 1) A2)) A2))) A2)) rfl)
  (@A5 _ _ _ (@Ae _ _ _ _ Am))))),?_⟩
 walk_at "st";obtain ⟨dx,fs,ho,hf⟩:=id hD.o;walk_at "go";refine ⟨Z5,dx,fs,ho,T.Z02,T.Z0e,_,hf.st,?_⟩;walk_at "rs";obtain ⟨dx',d',kvs',g1,g2,g3⟩:=Au.has hst;clear g3;refine ⟨dx',flds d',g1,by rfl,ts,hst,fun l hl=>?_⟩;have sm1:A9 H (upd H l (.lst ((ts.map (·.1)).map V.str))):=A9.new hl;have hl1:upd H l (.lst ((ts.map (·.1)).map V.str)) l=some (.lst ((ts.map (·.1)).map V.str)):=A3;generalize upd H l (.lst ((ts.map (·.1)).map V.str))=H1 at sm1 hl1 ⊢;have hst1:=hst.same sm1
 have nd1:(ts.map (·.1)).Nodup:=by
  rw [Ft]at nd;exact (Hl.mp nd).1
 refine ⟨⟨_,SqL.of hl1⟩,N35.Xp (xs:=(ts.map (·.1)).map V.str) (fun i=>[V.str (ts.getD i thd).1,V.int (ts.getD i thd).2.1,V.int (ts.getD i thd).2.2]) (SqL.of hl1) (by rw [Fa,Fa];omega) (fun b i x H' Q' hx sm q'=>?_) fun r as' H2 hr sm2 hr2 hal hT=>?_⟩
 · rw [Fi,Fi]at hx
   cases ht:ts[i]? with
   | none=>rw [ht]at hx;cases hx
   | some u=>
   rw [ht]at hx;cases hx
   have eu:ts.getD i thd=u:=by rw [Fk,ht];rfl
   rw [eu]at q';have hum:u.1∈ts.map (·.1):=FH.mpr ⟨u,Fo ht,rfl⟩;have hst':=hst1.same sm;obtain ⟨dx2,d2,kvs2,k1,k2,_⟩:=Au.has hst';walk_at "go";refine ⟨dx2,flds d2,k1,by rfl,ts,hst',nd1,hum,fun i1 t1 h1 e1=>⟨dx2,flds d2,k1,by rfl,ts,hst',nd1,hum,fun i2 t2 h2 e2=>⟨by omega,fun p hp=>?_⟩⟩⟩;have u1:=Wh nd1 h1 ht e1;have u2:=Wh nd1 h2 ht e2;subst u1;subst u2;exact q' p _ (A9.new hp) A3
 rw [Fa,Fa]at hal;have sm02:=sm1.trans sm2;have hg2:=sm02 _ _ hg;have hst2:=hst.same sm02;have hd2:=sm02 _ _ ho;clear hst1 sm1 sm2 hl1 hl g1 g2;walk_at "rs";refine ⟨_,.inl ⟨SqL.of hg2,fun l3 hl3=>⟨by omega,fun p3 hp3=>?_⟩⟩⟩;have sm3:A9 H2 (upd H2 l3 (.tup [.str t.1,.int t.2.1,.int t.2.2])):=A9.new hl3;have hl33:upd H2 l3 (.tup [.str t.1,.int t.2.1,.int t.2.2]) l3=some (.tup [.str t.1,.int t.2.1,.int t.2.2]):=A3;generalize upd H2 l3 (.tup [.str t.1,.int t.2.1,.int t.2.2])=H3 at sm3 hl33 hp3 ⊢;have sm4:A9 H3 (upd H3 p3 (.lst [V.ref l3])):=A9.new hp3;have hp34:upd H3 p3 (.lst [V.ref l3]) p3=some (.lst [V.ref l3]):=A3;generalize upd H3 p3 (.lst [V.ref l3])=H4 at sm4 hp34 ⊢;have sm24:=sm3.trans sm4;refine ⟨r,p3,_,_,rfl,rfl,sm24 _ _ hr2,hp34,by rw [Fa];simp only [List.length_cons,List.length_nil];omega,fun c5 hc5=>?_⟩;have sm5:A9 H4 (upd H4 c5 (.lst (as'.map V.ref++[V.ref l3]))):=A9.new hc5
 have hc55:upd H4 c5 (.lst (as'.map V.ref++[V.ref l3])) c5=some (.lst ((as'++[l3]).map V.ref)):=by rw [A3,Ft];rfl
 generalize upd H4 c5 (.lst (as'.map V.ref++[V.ref l3]))=H5 at sm5 hc55 ⊢;have sm25:=sm24.trans sm5;have hl35:=sm5 _ _ (sm4 _ _ hl33);have hd5:=sm25 _ _ hd2;have sm05:=sm02.trans sm25
 have rows:Tz K H5 c5 (as'++[l3]) (ts++[t]):=⟨SqL.of hc55,by rw [Ff,Ff,hal];rfl,by rw [Ff];simp only [List.length_cons,List.length_nil];omega,fun i a u h1 h2=>?_,hok,nd⟩
 case refine_1=>
  by_cases hi:i < ts.length
  · rw [Fu (by omega)]at h1
    rw [Fu hi]at h2;have h3:=hT i a h1;rw [show ts.getD i thd=u by rw [Fk,h2];rfl]at h3;exact SqT.of (sm25 _ _ h3)
  · have hl9:=(Fc.mp h1).1
    rw [Ff]at hl9;simp only [List.length_cons,List.length_nil]at hl9
    have hi2:i=ts.length:=by omega
    rw [Fy (by omega),hal,hi2,HC]at h1;rw [Fy (by omega),hi2,HC]at h2;cases h1;cases h2;exact SqT.of hl35
 intro st2 dy hst2' hdy ne1;obtain ⟨rws,r1,r2,r3,r4⟩:=rows.init
 have smx:A9 H5 (upd (upd H5 dy (.own st2)) st2 (.ins Z2 dy [])):=fun b o e=>by rw [A4 (A6 e hst2'),A4 (A6 e hdy)];exact e
 refine ⟨dy,c5,rfl,A3,rws,by rw [r1];exact smx.seq rows.l,fun u hu=>smx.tup (r2 u hu),r3,fun H6 sb6 stkN=>?_⟩;rw [r4]at stkN;have stk:=stkN.at';have sm6:A9 H5 H6:=G8 hst2' hdy sb6;have hd6:=sm6 _ _ hd5;have sm06:=sm05.trans sm6;have hst0:H st2=none:=none_of sm05 hst2'
 have stkn:Lq K Z2 H H6 st2 (ts++[t]):=stkN.mk' stk rfl fun b e=>by
  cases k:H b with
  | none=>rfl
  | some o=>rw [smx _ _ (sm05 _ _ k)]at e;cases e
 have hdst:st2≠d:=fun e=>by rw [e,ho]at hst0;cases hst0
 clear stkN r1 r2 r3 r4 smx sb6 rows hst2' hdy ne1;refine ⟨Z5,dx,fs,hd6,T.Z02,T.Z0e,by have:=hf.n;omega,?_⟩;walk_at "rs";refine q st2 _ (fun b o e nb=>by rw [A4 nb];exact sm06 _ _ e) ⟨dx,_,A3,hf.stock⟩ (stkn.mk' ?_ (A4 hdst) fun b e=>e) hst0;have:=J22 stk hd6 hf.k;exact (this.off (H':=upd H6 d (.ins Z5 dx (Aj (Str.ofString "stock") (.ref st2) fs))) fun b o e nb=>by rw [A4 (fun k=>nb (by rw [k];simp))];exact e).at
variable (Z1a:Def P w K mg base CX0 9 "answer_thing" ["desk","given"] (E4 K Z5 Z2))
include T in
theorem Z5f(F:Fun K "answer_again" "answer_again" Z2q f fd):Ar P w K mg base CX0 9 f fd ["desk","given"] (Es Z5):=by
 have sc:Ab ["desk","given"] ["desk","given"] (A7 Z2q):=by walk_at "sc"
 walk_at "ok"
 · exact n5 h_ fun _ _ _ _ _=>rfl
 refine x5 h_ fun d gv st as tw e_=>y3 e_ fun e0 hD q=>?_;clear e_ h_;subst e0
 refine ⟨_,(@A1 _ _ _ _ _ (Bc (pv 0) (@Bn _ _ _ _ A2) rfl)
  (@A5 _ _ _ (@Ae _ _ _ _ Am))),?_⟩
 walk_at "su";obtain ⟨dx,fs,ho,hf⟩:=id hD.o;walk_at "go";intro p hp
 have hp1:upd H p (.lst []) d=some (.ins Z5 dx fs):=by rw [A4 (A6 ho hp)];exact ho
 refine ⟨Z5,dx,fs,hp1,T.Z02,T.Z2x,by have:=hf.n;omega,?_⟩;walk_at "rs";have npd:p≠d:=(A6 ho hp).symm;exact q p _ (fun b o e nb=>by rw [A4 nb,A4 (A6 e hp)];exact e) ⟨dx,_,A3,hf.asks⟩ (by rw [A4 npd];exact A3) hp
variable (Z1b:Def P w K mg base CX0 9 "answer_again" ["desk","given"] (Es Z5))
include T Z2c in
theorem Z5g(F:Fun K "answer_tower" "answer_tower" Z2r f fd):Ar P w K mg base CX0 9 f fd ["desk","given"] (C0 K Z5 Z1 Z0 Z2 false):=by
 have sc:Ab ["desk","given"] ["desk","given"] (A7 Z2r):=by walk_at "sc"
 walk_at "ok"
 · exact n10 h_ fun _ _ _ _ _ _ _ _ _ _=>rfl
 refine x10 h_ fun d gv st as tw ts zs ks ws B e_=>y15 e_ fun e0 hD hst hW hdk hB1 hB2 nd hrm hl hg hz1 hz6 hzz q=>?_;clear e_ h_;subst e0
 refine ⟨_,(@A1 _ _ _ _ _ (Bc (pv 0) (Ko Z2c hr rfl (Av Ac) (A0 (Af (pv 0) rfl) (A0 (pv 1) A2))) rfl)
  (@A5 _ _ _ (@Ae _ _ _ _ Am))),?_⟩
 walk_at "st";obtain ⟨dx,fs,ho,hf⟩:=id hD.o;walk_at "go";refine ⟨Z5,dx,fs,ho,T.Z02,T.Z0e,_,hf.st,fun t dy ht hdy ne1=>?_⟩
 have smx:A9 H (upd (upd H dy (.own t)) t (.ins Z1 dy [])):=fun b o e=>by rw [A4 (A6 e ht),A4 (A6 e hdy)];exact e
 refine ⟨dy,st,rfl,A3,ts,hst.same smx,nd,hrm,hl,zs,SqL.of (smx _ _ hg),hz1,hz6,hzz,fun x s H2 sb2 tw e1 e2 e3 e4 e5 fr=>?_⟩;have sm2:A9 H H2:=G8 ht hdy sb2
 have fr2:∀b∈x.si::own t x,H b=none:=fun b hb=>by
  rcases fr b hb with k | k
  · rw [k];exact ht
  · cases k2:H b with
    | none=>rfl
    | some o=>rw [smx _ _ k2]at k;cases k
 have hW2:=hW.add (w:=⟨Z1,t,x,s,g0⟩) sm2 (tw.up hB1 (by omega)) fr2 e5;have hd2:=sm2 _ _ ho;clear smx sb2 fr hst hW tw;refine ⟨Z5,dx,fs,hd2,T.Z02,T.Z0f,by have:=hf.n;omega,?_⟩;walk_at "rs"
 have sb3:SameBut d H2 (upd H2 d (.ins Z5 dx (Aj (Str.ofString "tower") (.ref t) fs))):=fun b o e nb=>by rw [A4 nb];exact e
 exact q t x s _ (fun b o e nb=>by rw [A4 nb];exact sm2 _ _ e) ⟨dx,_,A3,hf.tower⟩ (hW2.put hdk (fun e z=>by cases z) sb3 A3).1 e1 e2 e3 e4 fr2
variable (Z1c:Def P w K mg base CX0 9 "answer_tower" ["desk","given"] (C0 K Z5 Z1 Z0 Z2 false))
include T Z1q in
theorem Z51(F:Fun K "answer_prompt" "answer_prompt" Z27 f fd):Ar P w K mg base CX0 9 f fd ["desk","given"] (C0 K Z5 Z1 Z0 Z2 true):=by
 have sc:Ab ["desk","given"] ["desk","given"] (A7 Z27):=by walk_at "sc"
 walk_at "ok"
 · exact n10 h_ fun _ _ _ _ _ _ _ _ _ _=>rfl
 refine x10 h_ fun d gv st as tw ts zs ks ws B e_=>y15 e_ fun e0 hD hst hW hdk hB1 hB2 nd hrm hl hg hz1 hz6 hzz q=>?_;clear e_ h_;subst e0
 refine ⟨_,(@A1 _ _ _ _ _ (Bc (pv 0) (Ko Z1q hr rfl (Av Ac) (A0 (Af (pv 0) rfl) (A0 (pv 1) A2))) rfl)
  (@A5 _ _ _ (@Ae _ _ _ _ Am))),?_⟩
 walk_at "st";obtain ⟨dx,fs,ho,hf⟩:=id hD.o;walk_at "go";refine ⟨Z5,dx,fs,ho,T.Z02,T.Z0e,_,hf.st,fun t dy ht hdy ne1=>?_⟩
 have smx:A9 H (upd (upd H dy (.own t)) t (.ins Z0 dy [])):=fun b o e=>by rw [A4 (A6 e ht),A4 (A6 e hdy)];exact e
 refine ⟨dy,st,rfl,A3,ts,hst.same smx,nd,hrm,hl,zs,SqL.of (smx _ _ hg),hz1,hz6,hzz,fun x s H2 sb2 tw e1 e2 e3 e4 e5 fr=>?_⟩;have sm2:A9 H H2:=G8 ht hdy sb2
 have fr2:∀b∈x.si::own t x,H b=none:=fun b hb=>by
  rcases fr b hb with k | k
  · rw [k];exact ht
  · cases k2:H b with
    | none=>rfl
    | some o=>rw [smx _ _ k2]at k;cases k
 have hW2:=hW.add (w:=⟨Z0,t,x,s,g0⟩) sm2 (tw.up hB1 (by omega)) fr2 e5;have hd2:=sm2 _ _ ho;clear smx sb2 fr hst hW tw;refine ⟨Z5,dx,fs,hd2,T.Z02,T.Z0f,by have:=hf.n;omega,?_⟩;walk_at "rs"
 have sb3:SameBut d H2 (upd H2 d (.ins Z5 dx (Aj (Str.ofString "tower") (.ref t) fs))):=fun b o e nb=>by rw [A4 nb];exact e
 exact q t x s _ (fun b o e nb=>by rw [A4 nb];exact sm2 _ _ e) ⟨dx,_,A3,hf.tower⟩ (hW2.put hdk (fun e z=>by cases z) sb3 A3).1 e1 e2 e3 e4 fr2
variable (Z0y:Def P w K mg base CX0 9 "answer_prompt" ["desk","given"] (C0 K Z5 Z1 Z0 Z2 true))
include T Z6 Z29 Z1o in
theorem Z6f(F:Fun K "answer_read" "answer_read" Z3l f fd):Ar P w K mg base CX0 9 f fd ["desk","given"] (Et K Z5 Z1 Z0 Z2):=by
 have sc:Ab ["desk","given"] ["desk","given"] (A7 Z3l):=by walk_at "sc"
 walk_at "ok"
 · exact n12 h_ fun _ _ _ _ _ _ _ _ _ _ _ _=>rfl
 refine x12 h_ fun d gv st as t pr x s g ts B z e_=>y8 e_ fun e0 hD hg hz hB h0 h1 q=>?_;clear e_ h_;subst e0;refine ⟨_,(@A5 _ _ _ (@Ae _ _ _ _ (B5 Bm rfl T.Z14 (by first | rfl | decide+kernel) (A0 (Kv (C:=Dv Z1 Z0) (sp:=fun w=>Ds K (Dv Z1 Z0 w) Z2) (fun w=>by cases w;exact Z29;exact Z1o) (fun w=>by cases w;exact T.Z4;exact T.Z3) hr (Av Ac) (Ad Z6 hr rfl Ac (A0 (pv 0) A2)) (A0 (@Bk _ _ _ _ _ _ _ Bg (pv 1) A8 (fun _ _=>rfl)) A2)) A2)))),?_⟩;walk_at "st";obtain ⟨dx,fs,ho,hf⟩:=id hD.t.to.tw.o;walk_at "go";refine ⟨st,as,t,hD.d,pr,dx,fs,ho,hf.m _ (by simp),Ck (SqL.of hg) (v:=V.str z) (C4 (j:=0) rfl) ⟨x,s,g,z,rfl,ts,B,hD.t,hz,hB,fun s' H' o tw e1 e2 e3 e4=>⟨Gv h0 (by omega),q s' H' o tw e1 e2 e3 e4⟩⟩⟩
variable (Z1t:Def P w K mg base CX0 9 "answer_read" ["desk","given"] (Et K Z5 Z1 Z0 Z2))
include T Z6 Z2a Z1p in
theorem Z6g(F:Fun K "answer_keep" "answer_keep" Z3m f fd):Ar P w K mg base CX0 9 f fd ["desk","given"] (Eu K Z5 Z1 Z0 Z2):=by
 have sc:Ab ["desk","given"] ["desk","given"] (A7 Z3m):=by walk_at "sc"
 walk_at "ok"
 · exact n13 h_ fun _ _ _ _ _ _ _ _ _ _ _ _ _=>rfl
 refine x13 h_ fun d gv st as t pr x s g ts B z v e_=>y8 e_ fun e0 hD hg hv1 hv2 hz hB q=>?_;clear e_ h_;subst e0
 refine ⟨_,(@A1 _ _ _ _ _ (Ai (Kv (C:=Dv Z1 Z0) (sp:=fun w=>Dt K (Dv Z1 Z0 w) Z2 w) (fun w=>by cases w;exact Z2a;exact Z1p) (fun w=>by cases w;exact T.Z4;exact T.Z3) hr (Av Ac) (Ad Z6 hr rfl Ac (A0 (pv 0) A2)) (A0 (@Bk _ _ _ _ _ _ _ Bg (pv 1) A8 (fun _ _=>rfl)) (A0 (@Bk _ _ _ _ _ _ _ Bg (pv 1) A8 (fun _ _=>rfl)) A2))))
  (@A5 _ _ _ (@Ae _ _ _ _ Am))),?_⟩
 walk_at "st";obtain ⟨dx,fs,ho,hf⟩:=id hD.t.to.tw.o;walk_at "go";refine ⟨st,as,t,hD.d,pr,dx,fs,ho,hf.m _ (by simp),Ck (SqL.of hg) (v:=V.str z) (C4 (j:=0) rfl) (Ck (SqL.of hg) (v:=V.int v) (C4 (j:=1) rfl) ⟨x,s,g,z,rfl,v,rfl,hv1,hv2,ts,B,hD.t,hz,hB,fun s' H' o tw e1 e2 e3 e4=>?_⟩)⟩;walk_at "rs";exact q s' H' o tw e1 e2 e3 e4
variable (Z1u:Def P w K mg base CX0 9 "answer_keep" ["desk","given"] (Eu K Z5 Z1 Z0 Z2))
include T Z6 Z1l Z17 in
theorem Z5h(F:Fun K "answer_ahead" "answer_ahead" Z2s f fd):Ar P w K mg base CX0 9 f fd ["desk","given"] (E5 K Z5 Z1 Z0 Z2):=by
 have sc:Ab ["desk","given"] ["desk","given"] (A7 Z2s):=by walk_at "sc"
 walk_at "ok"
 · exact n12 h_ fun _ _ _ _ _ _ _ _ _ _ _ _=>rfl
 refine x12 h_ fun d gv st as t pr x s g ts B z e_=>y6 e_ fun e0 hD hg hz hB q=>?_;clear e_ h_;subst e0;refine ⟨_,(@A5 _ _ _ (@Ae _ _ _ _ (Xz (Dd (Kv (C:=Dv Z1 Z0) (sp:=fun w=>D5 K (Dv Z1 Z0 w) Z2) (fun w=>by cases w;exact Z1l;exact Z17) (fun w=>by cases w;exact T.Z4;exact T.Z3) hr (Av Ac) (Ad Z6 hr rfl Ac (A0 (pv 0) A2)) (A0 (@Bk _ _ _ _ _ _ _ Bg (pv 1) A8 (fun _ _=>rfl)) A2))) Am Am))),?_⟩;walk_at "st";obtain ⟨dx,fs,ho,hf⟩:=id hD.t.to.tw.o;walk_at "go";refine ⟨st,as,t,hD.d,pr,dx,fs,ho,hf.m _ (by simp),Ck (SqL.of hg) (v:=V.str z) (C4 (j:=0) rfl) ⟨x,s,g,z,rfl,ts,B,hD.t,hz,hB,fun s' H' o tw e1 e2 e3 e4=>?_⟩⟩;have q1:=q s' H' o tw e1 e2 e3 e4
 by_cases hR:z∈s.R
 · rw [if_neg (fun k=>k hR)]
   rw [if_pos hR]at q1;exact q1
 · rw [if_pos hR]
   rw [if_neg hR]at q1;exact q1
variable (Z1d:Def P w K mg base CX0 9 "answer_ahead" ["desk","given"] (E5 K Z5 Z1 Z0 Z2))
include T Z6 Z2b Z1r in
theorem Z6h(F:Fun K "answer_rest" "answer_rest" Z3n f fd):Ar P w K mg base CX0 9 f fd ["desk","given"] (Ew K Z5 Z1 Z0 Z2):=by
 have sc:Ab ["desk","given"] ["desk","given"] (A7 Z3n):=by walk_at "sc"
 walk_at "ok"
 · exact n11 h_ fun _ _ _ _ _ _ _ _ _ _ _=>rfl
 refine x11 h_ fun d gv st as t pr x s g ts B e_=>y4 e_ fun e0 hD hB q=>?_;clear e_ h_;subst e0;refine ⟨_,(@A5 _ _ _ (@Ae _ _ _ _ (B5 Bm rfl T.Z14 (by first | rfl | decide+kernel) (A0 (K6 (C:=Dv Z1 Z0) (sp:=fun w=>Du K (Dv Z1 Z0 w) Z2) (fun w=>by cases w;exact Z2b;exact Z1r) (fun w=>by cases w;exact T.Z4;exact T.Z3) hr (Av Ac) (Ad Z6 hr rfl Ac (A0 (pv 0) A2))) A2)))),?_⟩;walk_at "st";obtain ⟨dx,fs,ho,hf⟩:=id hD.t.to.tw.o;walk_at "go";refine ⟨st,as,t,hD.d,pr,dx,fs,ho,hf.m _ (by simp),x,s,g,ts,B,hD.t,hB,fun x' s' H' o m tw e1 e2 e3 e4 e5 e6=>⟨Gv (by omega) (by have:=hD.t.to.rl;have:=Ho g.l s.R;omega),q x' s' H' o m tw e1 e2 e3 e4 e5 e6⟩⟩
variable (Z1v:Def P w K mg base CX0 9 "answer_rest" ["desk","given"] (Ew K Z5 Z1 Z0 Z2))
include T Z6 Zz Zw in
theorem Z5i(F:Fun K "answer_store" "answer_store" Z2t f fd):Ar P w K mg base CX0 9 f fd ["desk","given"] (E6 K Z5 Z1 Z0 Z2):=by
 have sc:Ab ["desk","given"] ["desk","given"] (A7 Z2t):=by walk_at "sc"
 walk_at "ok"
 · exact n12 h_ fun _ _ _ _ _ _ _ _ _ _ _ _=>rfl
 refine x12 h_ fun d gv st as t pr x s g ts B z e_=>y7 e_ fun e0 hD hg hz h0 h1 q=>?_;clear e_ h_;subst e0;refine ⟨_,(@A5 _ _ _ (@Ae _ _ _ _ (B5 Bm rfl T.Z14 (by first | rfl | decide+kernel) (A0 (Kv (C:=Dv Z1 Z0) (sp:=fun w=>Ct K (Dv Z1 Z0 w) Z2) (fun w=>by cases w;exact Zz;exact Zw) (fun w=>by cases w;exact T.Z4;exact T.Z3) hr (Av Ac) (Ad Z6 hr rfl Ac (A0 (pv 0) A2)) (A0 (@Bk _ _ _ _ _ _ _ Bg (pv 1) A8 (fun _ _=>rfl)) A2)) A2)))),?_⟩;walk_at "st";obtain ⟨dx,fs,ho,hf⟩:=id hD.t.to.tw.o;walk_at "go";refine ⟨st,as,t,hD.d,pr,dx,fs,ho,hf.m _ (by simp),Ck (SqL.of hg) (v:=V.str z) (C4 (j:=0) rfl) ⟨x,s,g,z,rfl,hD.t.to.tw,ts,hD.t.to.sk,hD.t.to.tn,hz,B,_,hD.t.g,Gv h0 (by omega),q⟩⟩
variable (Z1e:Def P w K mg base CX0 9 "answer_store" ["desk","given"] (E6 K Z5 Z1 Z0 Z2))
include T Z6 Zy Zv in
theorem Z52(F:Fun K "answer_levels" "answer_levels" Z28 f fd):Ar P w K mg base CX0 9 f fd ["desk","given"] (Dl K Z5 Z1 Z0 Z2):=by
 have sc:Ab ["desk","given"] ["desk","given"] (A7 Z28):=by walk_at "sc"
 walk_at "ok"
 · exact n11 h_ fun _ _ _ _ _ _ _ _ _ _ _=>rfl
 refine x11 h_ fun d gv st as t pr x s g ts B e_=>y4 e_ fun e0 hD hyl q=>?_;clear e_ h_;subst e0;refine ⟨_,(@A5 _ _ _ (@Ae _ _ _ _ (Cp FY HF HE Kn Am (A0 (G5 "names" [] rfl rfl (Bt (K6 (C:=Dv Z1 Z0) (sp:=fun w=>Cr (Dv Z1 Z0 w)) (fun w=>by cases w;exact Zy;exact Zv) (fun w=>by cases w;exact T.Z4;exact T.Z3) hr (Av Ac) (Ad Z6 hr rfl Ac (A0 (pv 0) A2)))) (fun b=>(Cp FY HF HE Kn Am (A0 (Ah Tj (pv 0) (@Bn _ _ _ _ (A0 Am A2))) A2)))) A2)))),?_⟩;walk_at "st";obtain ⟨dx,fs,ho,hf⟩:=id hD.t.to.tw.o;walk_at "go";have hz6:=hD.t.to.zl;refine ⟨st,as,t,hD.d,pr,dx,fs,ho,hf.m _ (by simp),x,s,hD.t.to.tw,hz6,hD.t.to.zz,fun p ls H1 hp sm1 hp1 hL _ _ _=>⟨⟨_,SqL.of hp1⟩,?_⟩⟩;refine J1j (fun i y _=>y=V.str (Txt.join (Str.ofString " ") (lvl s.zs s.R i++[slash]))) (fun _=>True) (fun i y H H' l zs h _ _=>h) (SqL.of hp1) (by rw [Fa,hL.1];omega) (fun b i y H' Q' hy sm' _ q'=>?_) (fun D yl H5 hDn sm5 hyD hyl5 hall _=>?_)
 · rw [Fi]at hy
   cases hl:ls[i]? with
   | none=>rw [hl]at hy;cases hy
   | some a'=>
   rw [hl]at hy;cases hy;have ha:=sm' _ _ (hL.2 i a' hl);walk_at "go";intro p2 hp2;have ha2:=(A9.new hp2 (o:= .lst [V.str (Str.ofString "/")])) _ _ ha;have hll:(lvl s.zs s.R i).length≤59:=FA (Wg i) hD.t.to.rl;refine ⟨a',p2,_,_,rfl,rfl,ha2,A3,by rw [Fa];simp only [List.length_cons,List.length_nil];omega,fun p3 hp3=>?_⟩;refine ⟨p3,rfl,lvl s.zs s.R i++[slash],SqL.of (by rw [A3,Ft];rfl),?_,q' _ _ ((A9.new hp2).trans (A9.new hp3)) rfl trivial⟩;rw [sp1]
   have h1:=Kt (ys:=lvl s.zs s.R i++[slash]) (b:=8) fun y hy=>by
    rcases Fq.mp hy with k | k
    · exact hyl y (Md k)
    · rw [Fg.mp k];decide+kernel
   rw [Ff]at h1 ⊢;simp only [List.length_cons,List.length_nil]at h1 ⊢;omega
 have ey:yl=((List.range s.zs.length).map fun j=>Txt.join (Str.ofString " ") (lvl s.zs s.R j++[slash])).map V.str:=by
  rw [Fa,hL.1]at hyl5;rw [FL];refine RM fun i=>?_;rw [Fi]
  by_cases hi:i < s.zs.length
  · rw [Rf hi,Fb (by omega)]
    exact congrArg some (hall i _ (Fb (by omega)))
  · rw [He (by omega),He (by rw [FT];omega)];rfl
 rw [ey]at hyD;refine ⟨D,rfl,_,SqL.of hyD,?_,q _ (sm1.trans sm5)⟩;rw [sp1]
 have h1:=Kt (ys:=(List.range s.zs.length).map fun j=>Txt.join (Str.ofString " ") (lvl s.zs s.R j++[slash])) (b:=1000) fun y hy=>by
  obtain ⟨j,_,rfl⟩:=FH.mp hy;have hll:(lvl s.zs s.R j).length≤59:=FA (Wg j) hD.t.to.rl;rw [show Txt.join (Str.ofString " ") (lvl s.zs s.R j++[slash])=Str.join (Str.ofString " ") (lvl s.zs s.R j++[slash]) from StrLaws.glued_eq_join _ _]
  have h2:=K1 (y:=Str.ofString " ") (b:=8) (ps:=lvl s.zs s.R j++[slash]) fun p hp=>by
   rcases Fq.mp hp with k | k
   · exact hyl p (Md k)
   · rw [Fg.mp k];decide+kernel
  rw [sp1,Ff]at h2;simp only [List.length_cons,List.length_nil]at h2;omega
 rw [Fa,FT]at h1 ⊢;omega
variable (Z0z:Def P w K mg base CX0 9 "answer_levels" ["desk","given"] (Dl K Z5 Z1 Z0 Z2))
include T Z6 Z1m Z18 in
theorem Z5j(F:Fun K "answer_found" "answer_found" Z2u f fd):Ar P w K mg base CX0 9 f fd ["desk","given"] (E7 K Z5 Z1 Z0 Z2):=by
 have sc:Ab ["desk","given"] ["desk","given"] (A7 Z2u):=by walk_at "sc"
 walk_at "ok"
 · exact n11 h_ fun _ _ _ _ _ _ _ _ _ _ _=>rfl
 refine x11 h_ fun d gv st as t pr x s g ts B e_=>y4 e_ fun e0 hD hf0 q=>?_;clear e_ h_;subst e0;refine ⟨_,(@A5 _ _ _ (@Ae _ _ _ _ (Cp FY HF HE Kn Am (A0 (G5 "number" [] rfl rfl (Bt (K6 (C:=Dv Z1 Z0) (sp:=fun w=>D6 (Dv Z1 Z0 w)) (fun w=>by cases w;exact Z1m;exact Z18) (fun w=>by cases w;exact T.Z4;exact T.Z3) hr (Av Ac) (Ad Z6 hr rfl Ac (A0 (pv 0) A2)))) (fun b=>(B5 Bm rfl T.Z14 (by first | rfl | decide+kernel) (A0 (pv 0) A2)))) A2)))),?_⟩;walk_at "st";obtain ⟨dx,fs,ho,hf⟩:=id hD.t.to.tw.o;walk_at "go";refine ⟨st,as,t,hD.d,pr,dx,fs,ho,hf.m _ (by simp),x,s,hD.t.to.tw,fun p H1 hp sm1 hp1=>⟨⟨_,SqL.of hp1⟩,?_⟩⟩;have hfl:=hD.t.to.ff;have hz6:=hD.t.to.zl;refine Ts J86 (SqL.of hp1) (by rw [Fa];omega) (fun b y H' Q' hy sm q'=>?_) fun D hDn=>?_
 · obtain ⟨i,hi,rfl⟩:=FH.mp hy
   have hi1:=hf0 i hi;walk_at "go";exact ⟨Gv hi1.1 (by omega),q'⟩
 rw [Xn];refine ⟨D,rfl,_,SqL.of A3,?_,?_⟩
 · rw [sp1]
   have h1:=Kt (ys:=s.ff.map fun i=>Str.ofString (toString i)) (b:=31) fun y hy=>by
    obtain ⟨i,hi,rfl⟩:=FH.mp hy;have:=hf0 i hi;exact Mf this.1 (by omega)
   rw [Fa]at h1 ⊢;omega
 · exact q _ (sm1.trans (A9.new hDn))
variable (Z1f:Def P w K mg base CX0 9 "answer_found" ["desk","given"] (E7 K Z5 Z1 Z0 Z2))
include T Z6 Z1n Z19 in
theorem Z5k(F:Fun K "answer_spent" "answer_spent" Z2v f fd):Ar P w K mg base CX0 9 f fd ["desk","given"] (E8 K Z5 Z1 Z0 Z2):=by
 have sc:Ab ["desk","given"] ["desk","given"] (A7 Z2v):=by walk_at "sc"
 walk_at "ok"
 · exact n11 h_ fun _ _ _ _ _ _ _ _ _ _ _=>rfl
 refine x11 h_ fun d gv st as t pr x s g ts B e_=>y5 e_ fun e0 hD h0 h1 q=>?_;clear e_ h_;subst e0;refine ⟨_,(@A5 _ _ _ (@Ae _ _ _ _ (B5 Bm rfl T.Z14 (by first | rfl | decide+kernel) (A0 (K6 (C:=Dv Z1 Z0) (sp:=fun w=>D4 (Dv Z1 Z0 w)) (fun w=>by cases w;exact Z1n;exact Z19) (fun w=>by cases w;exact T.Z4;exact T.Z3) hr (Av Ac) (Ad Z6 hr rfl Ac (A0 (pv 0) A2))) A2)))),?_⟩;walk_at "st";obtain ⟨dx,fs,ho,hf⟩:=id hD.t.to.tw.o;walk_at "go";exact ⟨st,as,t,hD.d,pr,dx,fs,ho,hf.m _ (by simp),x,s,hD.t.to.tw,Gv h0 (by omega),q⟩
variable (Z1g:Def P w K mg base CX0 9 "answer_spent" ["desk","given"] (E8 K Z5 Z1 Z0 Z2))
include T Z31 Z1a Z1c Z0y Z1t Z1u Z1d Z1v Z1e Z0z Z1f Z1g Z1b in
theorem Z7i(F:Fun K "say" "Desk.say" Z4c f fd)(Z7r:∀b,Sw w.params K Z8 (wd b) (some (.ref ((fun w:W85=>match w with | .thing=>xanswer_thing | .tower=>xanswer_tower | .prompt=>xanswer_prompt | .read=>xanswer_read | .keep=>xanswer_keep | .ahead=>xanswer_ahead | .rest=>xanswer_rest | .store=>xanswer_store | .levels=>xanswer_levels | .found=>xanswer_found | .spent=>xanswer_spent | .again=>xanswer_again) b)))):Ar P w K mg base CX0 10 f fd ["self","line"] (Ku K Z5 Z1 Z0 Z2):=by
 have sc:Ab ["self","line","told","answer"] ["self","line"] (A7 Z4c):=by walk_at "sc"
 walk_at "ok"
 · exact n2 h_ fun _ _=>rfl
 refine x2 h_ fun d l e_=>y3 e_ fun e0 ok q=>?_;clear e_ h_;subst e0
 refine ⟨_,(@A1 _ _ _ _ _ (Ay (i:=2) sc.nd rfl (Or.inl rfl) (Ad Z31 hr rfl Ac (A0 (pv 1) A2)))
  (@A1 _ _ _ _ _ (Ay (i:=3) sc.nd rfl (Or.inl rfl) (Wa (Kh (v:= .ref Z8) rfl T.Z7z rfl) (@Bk _ _ _ _ _ _ _ L8 (pv 2) A8 (fun _ _=>rfl)) (fun _ _=>rfl)))
  (@A5 _ _ _ (@Ae _ _ _ _ (J1z (fa:=(fun w:W85=>match w with | .thing=>xanswer_thing | .tower=>xanswer_tower | .prompt=>xanswer_prompt | .read=>xanswer_read | .keep=>xanswer_keep | .ahead=>xanswer_ahead | .rest=>xanswer_rest | .store=>xanswer_store | .levels=>xanswer_levels | .found=>xanswer_found | .spent=>xanswer_spent | .again=>xanswer_again)) (nm:=(fun w:W85=>match w with | .thing=>"answer_thing" | .tower=>"answer_tower" | .prompt=>"answer_prompt" | .read=>"answer_read" | .keep=>"answer_keep" | .ahead=>"answer_ahead" | .rest=>"answer_rest" | .store=>"answer_store" | .levels=>"answer_levels" | .found=>"answer_found" | .spent=>"answer_spent" | .again=>"answer_again")) (sp:=spA K Z5 Z1 Z0 Z2) (fun w=>by cases w;exact Z1a;exact Z1c;exact Z0y;exact Z1t;exact Z1u;exact Z1d;exact Z1v;exact Z1e;exact Z0z;exact Z1f;exact Z1g;exact Z1b) (fun w=>by cases w;exact T.Z5r;exact T.Z5s;exact T.Z53;exact T.Z6r;exact T.Z6s;exact T.Z5t;exact T.Z6t;exact T.Z5u;exact T.Z54;exact T.Z5v;exact T.Z5w;exact T.Z5x) hr Ac (pv 3) (A0 (pv 0) (A0 (@Bk _ _ _ _ _ _ _ L8 (pv 2) A8 (fun _ _=>rfl)) A2))))))),?_⟩
 walk_at "su";walk_at "go";refine ⟨l,rfl,ok,fun t g H1 sm1 ht hg ntg ht1 hg1=>?_⟩;have hans:=Z7r l.b;walk_at "rs";refine Ke (SqT.of ht1) (v:=V.str (wd l.b)) (C4 (j:=0) rfl) ⟨_,rfl,_,hans,?_⟩;walk_at "rs";exact ⟨l.b,rfl,Ke (SqT.of ht1) (v:=V.ref g) (C4 (j:=1) rfl) (J87 (q g H1 sm1 hg hg1))⟩
variable (Z0t:Ca P w K mg base CX0 10 Z5 "say" ["self","line"] (Ku K Z5 Z1 Z0 Z2))
include T Z0t in
theorem Z4r(F:Fun K "answer_or_word" "answer_or_word" Z1z f fd):Ar P w K mg base CX0 11 f fd ["desk","line"] (K9 K Z5 Z1 Z0 Z2):=by
 have sc:Ab ["desk","line","refusal"] ["desk","line"] (A7 Z1z):=by walk_at "sc"
 walk_at "ok"
 · exact n6 h_ fun _ _ _ _ _ _=>rfl
 refine x6 h_ fun d op m ks B H0 e_=>y6 e_ fun e0 hM ok lok hB q=>?_;clear e_ h_;subst e0;refine ⟨_,(@A5 _ _ _ (J3q rfl rfl (fun t hp=>(@A5 _ _ _ (@Ae _ _ _ _ (Em (A0 Eb (A0 (Ak Z0t T.Z02 hr hp (pv 0) (A0 (pv 1) A2)) A2)))))))),?_⟩;walk_at "st";obtain ⟨st,as,tw,ws,hD,_⟩:=id hM.ex;obtain ⟨dx,fs,ho,hf⟩:=hD.o;walk_at "go";refine ⟨dx,fs,ho,hf.m,op.ln,rfl,lok,fun gv H1 sm1 hgv hg1=>?_⟩
 refine J4w (hM.same sm1) ok hg1 hB fun H2 fr hM2=>⟨by omega,fun p hp=>?_⟩
 refine q p _ ⟨fun c hc o e=>?_,fun c e k=>?_⟩ (hM2.same (A9.new hp)) A3
 · exact A9.new hp _ _ (fr.1 c hc o (sm1 _ _ e))
 · exact A9.new hp _ _ (fr.2 c e (sm1 _ _ k))
variable (Z0u:Def P w K mg base CX0 11 "answer_or_word" ["desk","line"] (K9 K Z5 Z1 Z0 Z2))
include T Z0m Z0u in
theorem Z70(F:Fun K "answers_to" "answers_to" Z3y f fd):Ar P w K mg base CX0 12 f fd ["text"] (Ef K):=by
 have sc:Ab ["text","desk"] ["text"] (A7 Z3y):=by walk_at "sc"
 walk_at "ok"
 · exact n1 h_ fun _=>rfl
 refine x1 h_ fun ops e_=>y6 e_ fun e0 hne hlg hw hl q=>?_;clear e_ h_;subst e0
 refine ⟨_,(@A1 _ _ _ _ _ (Az (Ao D1 (pv 0) Am (nomark _))
  (@A5 _ _ _ (@Ae _ _ _ _ (@Bn _ _ _ _ A2)))
  Ag)
  (@A1 _ _ _ _ _ (Ay (i:=1) sc.nd rfl (Or.inr rfl) (Ox Z0m hr rfl (Av Ac)))
  (@A5 _ _ _ (@Ae _ _ _ _ (G5 "line" [1] rfl rfl (Bt (Cp FY Rp Ro Mv (pv 0) (A0 Am A2))) (fun b=>(Ad Z0u hr rfl Ac (A0 (pv 1) (A0 (pv 0) A2))))))))),?_⟩
 walk_at "st";walk_at "go";rename_i rest hrest;rw [if_neg (J69 hlg hne)];subst hrest;walk_at "go";intro d dx hd hdx ne1;refine ⟨dx,A3,fun st as H3 sb3 hD3 stkN has3 hst0 has0=>?_⟩;have hM:=Wo (C1:=Z1) (C2:=Z0) hd hdx sb3 hD3 stkN;clear sb3 hD3 stkN has3 hst0 has0 hd hdx ne1;walk_at "rs";obtain ⟨lt1,lt2⟩:=T3 hlg hl;refine ⟨by omega,fun p hp=>?_⟩;have ec:Txt.split (Txt.join nl1 (ops.map fun o=>o.ln.txt)) (Str.ofString "\n")=ops.map fun o=>o.ln.txt:=Xs hlg hne;rw [ec];have hM4:=hM.new hp (o:= .lst ((ops.map fun o=>o.ln.txt).map V.str)) (.inr ⟨_,A3⟩);have hl4:upd H3 p (.lst ((ops.map fun o=>o.ln.txt).map V.str)) p=some (.lst ((ops.map fun o=>o.ln.txt).map V.str)):=A3;generalize upd H3 p (.lst ((ops.map fun o=>o.ln.txt).map V.str))=H4 at hM4 hl4 ⊢;clear hM hp ec lt1 lt2;refine ⟨⟨_,SqL.of hl4⟩,?_⟩
 refine Iu ops.length fun b D hD=>⟨fun i ys H'=>∃rs:List Addr,ys=rs.map V.ref∧rs.length=i∧i≤ops.length∧H' D=some (.lst ys)∧H' p=some (.lst ((ops.map fun o=>o.ln.txt).map V.str))∧DkM K Z5 Z1 Z0 Z2 H H' d [D,p] (m0.run (ops.take i)) (1+wts (ops.take i))∧∀(j:Nat) r u,rs[j]?=some r→(m0.anl ops)[j]?=some u→H' r=some (.tup [.bl true,.str u]),⟨[],rfl,rfl,Fl _,A3,by rw [A4 (A6 hl4 hD)];exact hl4,hM4.new hD (.inr ⟨_,A3⟩),(fun j r u a=>by cases a)⟩,?_,?_,?_⟩
 · rintro i ys H' ⟨rs,_,_,_,h,_⟩
   exact h
 · rintro ys H' ⟨rs,rfl,hr,_,h1,h2,hM',h3⟩
   refine ⟨⟨_,SqL.of h2,by rw [Fa,Fa];exact Fe _⟩,q D H' hM'.sm ⟨rs,h1,by rw [Mh];exact hr,h3⟩⟩
 · rintro i ys H' hi ⟨rs,rfl,hr,_,h1,h2,hM',h3⟩
   obtain ⟨o,ho⟩:∃o,ops[i]?=some o:=⟨_,Fb hi⟩
   obtain ⟨ok1,ok2,ok3,ok4⟩:=hlg.at ho
   have hoV:((ops.map fun o=>o.ln.txt).map V.str)[i]?=some (V.str o.ln.txt):=by rw [Fi,Fi,ho];rfl
   refine ⟨⟨_,_,SqL.of h2,hoV⟩,fun x H5 ⟨e5,ex⟩=>?_⟩;subst e5;have ex2:=ex _ (SqL.of h2);rw [hoV]at ex2;cases ex2;walk_at "go";have hwt:=J29 (os:=ops) (i:=i);refine ⟨o,rfl,m0.run (ops.take i),[D,p],1+wts (ops.take i),H,hM',ok1,ok2,by omega,fun r H6 fr hM6 hr6=>?_⟩;have h6:=fr.1 D (by simp) _ h1;have hpD:p≠D:=fun e=>(A6 hl4 hD) e
   have htk:ops.take (i+1)=ops.take i++[o]:=by rw [Ri,ho];rfl
   have hrD:∀{r:Addr} {e:List V} {l:List V},H6 r=some (.tup e)→upd H6 D (.lst l) r=some (.tup e):=fun {r e l} k=>by rw [A4 (fun z=>by rw [z,h6]at k;cases k)];exact k
   refine G6 h6 (by rw [Fa];omega) hi ⟨rs++[r],by rw [Ft];rfl,by rw [Ff,hr];rfl,hi,A3,by rw [A4 hpD];exact fr.1 p (by simp) _ h2,?_,fun j r' u a c=>?_⟩
   · rw [htk,Cu,E9,← Rj]
     exact hM6.put (by simp) (.inr ⟨_,A3⟩)
   · by_cases k:j < rs.length
     · rw [Fu k]at a
       exact hrD (fr.2 _ _ (h3 j r' u a c))
     · rw [Fy (by omega)]at a
       have ej:j=i:=by
        have:=(Fc.mp a).1;rw [List.length_cons,List.length_nil]at this;omega
       rw [ej,hr,HC]at a;cases a;rw [ej,ok3]at c;cases c;exact hrD hr6
variable (Z2d:Def P w K mg base CX0 12 "answers_to" ["text"] (Ef K))
include T in
theorem Z80(F:Fun K "_law_cell" "_law_cell" Z4t f fd):Ar P w K mg base CX0 1 f fd ["_law_script","_law_k"] (Mb K):=by
 have sc:Ab ["_law_script","_law_k"] ["_law_script","_law_k"] (A7 Z4t):=by walk_at "sc"
 walk_at "ok"
 · exact n3 h_ fun _ _ _=>rfl
 refine x3 h_ fun a ns k e_=>y5 e_ fun e0 hS h0 hl q=>?_;clear e_ h_;subst e0
 refine ⟨_,(@A1 _ _ _ _ _ (Az (Ao Ki (pv 1) (Ap Aq rfl T.Zh FC (A0 (pv 0) A2)) (nomark _))
  (@A5 _ _ _ (@Ae _ _ _ _ (@Bk _ _ _ _ _ _ _ Bg (pv 0) (pv 1) (fun _ _=>rfl))))
  Ag)
  (@A5 _ _ _ (@Ae _ _ _ _ A8))),?_⟩
 walk_at "su";walk_at "go";rw [Fa];split
 · rename_i hk
   exact Ck hS (To h0 (J5i (by omega))) q
 · rename_i hk
   rw [Fk,He (by omega)]at q;walk_at "go";exact q
variable (Z13:Def P w K mg base CX0 1 "_law_cell" ["_law_script","_law_k"] (Mb K))
include T in
theorem Z7s(F:Fun K "_law_names" "_law_names" Z4g f fd):Ar P w K mg base CX0 1 f fd ["_law_cell_here","_law_many"] (N36.Gx):=by
 have sc:Ab ["_law_cell_here","_law_many","_law_signs","_law_tail","_law_j","_law_long","_law_at","_law_names_here","_law_k","_law_name","_law_by"] ["_law_cell_here","_law_many"] (A7 Z4g):=by walk_at "sc"
 walk_at "ok"
 · exact n2 h_ fun _ _=>rfl
 refine x2 h_ fun i m e_=>y3 e_ fun e0 hm q=>?_;clear e_ h_;subst e0
 refine ⟨_,(@A1 _ _ _ _ _ (Ay (i:=2) sc.nd rfl (Or.inr rfl) Am)
  (@A1 _ _ _ _ _ (Az (Ao D1 (Ah C3 (Ah Dw (pv 0) A8) A8) A8 (nomark _))
   (@A1 _ _ _ _ _ (Ay (i:=3) sc.nd rfl (Or.inr rfl) Am)
   (@A1 _ _ _ _ _ (D0 PassesOwn.never rfl (Eg rfl T.Z21 (A0 A8 A2)) (Bb (i:=4) sc.nd rfl (Or.inl rfl))
    (@A5 _ _ _ (Ay (i:=3) sc.nd rfl (Or.inr rfl) (Ah B3 (pv 3) (@Bk _ _ _ _ _ _ _ L9 (pv 2) (Ah C3 (Ah Co (Ah Mt (Ah Dw (pv 0) A8) (Ah Co (pv 4) A8)) (Ah T9 A8 (pv 4))) A8) (fun _ _=>rfl))))))
   (@A5 _ _ _ (@Ae _ _ _ _ (G5 "_law_k" [2,3,0] rfl rfl (Eg rfl T.Z21 (A0 (pv 1) A2)) (fun b=>(Ah B3 (@Bk _ _ _ _ _ _ _ L9 (pv 1) (Ah C3 (Ah Co (pv 3) (Ah Dw (pv 0) A8)) A8) (fun _ _=>rfl)) (Ij J5p (pv 2) Uj (Ex (Ah C3 (pv 0) A8))))))))))
   Ag)
  (@A1 _ _ _ _ _ (Ay (i:=5) sc.nd rfl (Or.inl rfl) (Ah Co A8 (Ah C3 (pv 0) A8)))
  (@A1 _ _ _ _ _ (Ay (i:=6) sc.nd rfl (Or.inl rfl) (Ah C3 (Ah Dw (pv 0) A8) (pv 5)))
  (@A1 _ _ _ _ _ (Ay (i:=7) sc.nd rfl (Or.inl rfl) (@Bn _ _ _ _ A2))
  (@A1 _ _ _ _ _ (D0 PassesOwn.never rfl (Eg rfl T.Z21 (A0 (pv 1) A2)) (Bb (i:=8) sc.nd rfl (Or.inl rfl))
   (@A1 _ _ _ _ _ (Ay (i:=9) sc.nd rfl (Or.inl rfl) Am)
   (@A1 _ _ _ _ _ (D0 PassesOwn.never rfl (Eg rfl T.Z21 (A0 (pv 5) A2)) (Bb (i:=4) sc.nd rfl (Or.inl rfl))
    (@A1 _ _ _ _ _ (Ay (i:=10) sc.nd rfl (Or.inl rfl) (Ah Co (Ah Mt (Ah Dw (pv 0) A8) (Ah Co (pv 4) A8)) (Ah T9 A8 (pv 4))))
    (@A1 _ _ _ _ _ (Az (Ao D1 (pv 4) (pv 6) (nomark _))
     (@A5 _ _ _ (Ay (i:=10) sc.nd rfl (Or.inl rfl) (Ah Co (pv 10) (pv 8))))
     Ag)
    (@A5 _ _ _ (Az (Ao D1 (pv 4) A8 (nomark _))
     (@A5 _ _ _ (Ay (i:=9) sc.nd rfl (Or.inl rfl) (Ah B3 (pv 9) (@Bk _ _ _ _ _ _ _ L9 (pv 2) (Ah C3 (pv 10) A8) (fun _ _=>rfl)))))
     (@A5 _ _ _ (Ay (i:=9) sc.nd rfl (Or.inl rfl) (Ah B3 (pv 9) (@Bk _ _ _ _ _ _ _ L9 (pv 2) (Ah C3 (pv 10) A8) (fun _ _=>rfl))))))))))
   (@A5 _ _ _ (Ai (Cp FB FN FM C7 (pv 7) (A0 (pv 9) A2)))))))
  (@A5 _ _ _ (@Ae _ _ _ _ (pv 7))))))))),?_⟩
 walk_at "st";have bl:=S7;walk_at "go";split
 · rename_i hst
   clear hst;walk_at "go";rename_i rest hrest;refine M5 (n:=7) (fun j σ H'=>∃(v4:Option V),σ=[some (V.int i),some (V.int m),some (V.str (Str.ofString "abcdefghijklmnopqrstuvwxyz0123456789")),some (V.str (tx (N34.Iq i j))),v4,none,none,none,none,none,none]∧H'=H) ⟨none,rfl,rfl⟩ ?_ ?_
   · rintro j σ H' hj ⟨v4,rfl,rfl⟩
     have hzl:(tx (N34.Iq i j)).length=j:=by rw [S5];simp [N34.Iq]
     walk_at "go";refine Ld (by omega) (Vr _ (by decide) (by decide)) ?_;walk_at "go";rw [N34.Xq,← Vq];rfl
   · rintro σ H' ⟨v4,rfl,rfl⟩
     subst hrest;walk_at "go";refine Mw (fun x=>V.str (tx (N34.nmP i x.toNat))) (by omega) (fun b k H2 Q' hk sm q'=>?_) fun D hD=>?_
     · rw [show (0+(k:Int)).toNat=k by omega,N34.U4]at q'
       have k1:=Hm (k:Int) (show (8:Int)≠0 by decide);walk_at "go";refine Ld (by omega) (Vr _ (by decide) (by decide)) ?_;walk_at "go"
       have e8:(k:Int) % 8=((k % 8:Nat):Int):=by omega
       have htl:(N34.Iq i 7).length=7:=by unfold N34.Iq;rw [Fa,FT]
       have hsl:=N34.U6 (l:=N34.Iq i 7) (k:=k % 8) (by omega);rw [← e8]at hsl;rw [hsl];refine ⟨by rw [S5,htl,line];decide,by rw [S5,FV,htl];show 1+_≤_;omega,?_⟩;rw [J7r,Vq];exact q'
     · refine q D (N34.Xr i m) _ hD (A9.new hD) ?_ (by unfold N34.Xr;rw [Fa,FT]) (N34.U5 (by omega)) fun y hy=>?_
       · rw [A3]
         unfold N34.Xr;rw [FL];congr 2;refine RD fun k _=>?_;show V.str (tx (N34.nmP i (0+(k:Int)).toNat))=_;rw [show (0+(k:Int)).toNat=k by omega];rfl
       · unfold N34.Xr at hy
         obtain ⟨k,_,rfl⟩:=FH.mp hy;rw [Ik];exact N34.J23
 · rename_i hst
   clear hst;walk_at "go";intro p hp
   obtain ⟨L,hL⟩:∃L:Nat,(L:Int)=1+i % 8:=⟨(1+i % 8).toNat,by omega⟩
   have hL2:1≤L:=by omega
   have hL8:L≤8:=by omega
   rw [← hL];have ha0:=Hm (i / 8) (show (L:Int)≠0 by omega);have ha1:=Hh (i / 8) (show (0:Int) < L by omega);clear hL;generalize i / 8 % (L:Int)=at' at ha0 ha1 ⊢;walk_at "go";refine M5 (fun k σ H'=>∃(v7 v8 v9 v10:Option V),σ=[some (V.int i),some (V.int m),some (V.str (Str.ofString "abcdefghijklmnopqrstuvwxyz0123456789")),none,v7,some (V.int L),some (V.int at'),some (V.ref p),v8,v9,v10]∧H'=upd H p (.lst ((nms (fun j=>(i / 64).fdiv (j+1)+6 * j) at' L k).map V.str))) ⟨none,none,none,none,rfl,rfl⟩ ?_ ?_
   · rintro k σ H' hk ⟨v7,v8,v9,v10,rfl,rfl⟩
     have hlen:((nms (fun j=>(i / 64).fdiv ((j:Int)+1)+6 * j) at' L k).map V.str).length=k:=by rw [Fa];unfold nms;rw [Fa,FT]
     walk_at "go";rename_i rest hrest;refine M5 (fun j σ H'=>∃(v9 v10:Option V),σ=[some (V.int i),some (V.int m),some (V.str (Str.ofString "abcdefghijklmnopqrstuvwxyz0123456789")),none,v9,some (V.int L),some (V.int at'),some (V.ref p),some (V.int k),some (V.str (tx (nmL (fun j=>(i / 64).fdiv (j+1)+6 * j) at' j k))),v10]∧H'=upd H p (.lst ((nms (fun j=>(i / 64).fdiv (j+1)+6 * j) at' L k).map V.str))) ⟨v7,v10,rfl,rfl⟩ ?_ ?_
     · rintro j σ H' hj ⟨v9,v10,rfl,rfl⟩
       have hzl:(tx (nmL (fun j=>(i / 64).fdiv ((j:Int)+1)+6 * j) at' j k)).length=j:=by rw [S5];simp [nmL]
       have hsg:nmL (fun j=>(i / 64).fdiv ((j:Int)+1)+6 * j) at' (j+1) k=nmL (fun j=>(i / 64).fdiv ((j:Int)+1)+6 * j) at' j k++[N5.sgn (fun j=>(i / 64).fdiv ((j:Int)+1)+6 * j) at' k j]:=by
        unfold nmL;rw [HQ,Ft];rfl
       unfold N5.sgn at hsg;walk_at "go";rename_i rest hrest
       have key1:∀b1:Int,((i / 64).fdiv ((j:Int)+1)+6 * j+(if (j:Int)=at' then (k:Int) else 0)=b1)→rest [some (V.int i),some (V.int m),some (V.str (Str.ofString "abcdefghijklmnopqrstuvwxyz0123456789")),none,some (V.int j),some (V.int L),some (V.int at'),some (V.ref p),some (V.int k),some (V.str (tx (nmL (fun j=>(i / 64).fdiv (j+1)+6 * j) at' j k))),some (V.int b1)] (upd H p (.lst ((nms (fun j=>(i / 64).fdiv (j+1)+6 * j) at' L k).map V.str))):=by
        intro b1 hb1;rw [hb1]at hsg;clear hb1;subst hrest;generalize nmL (fun j=>(i / 64).fdiv ((j:Int)+1)+6 * j) at' j k=zl at hsg hzl ⊢;walk_at "go";split
        · rename_i hj0
          walk_at "go";refine Ld (by omega) (Vr _ (by decide) (by decide)) ?_;walk_at "go";rw [hsg,← Vq];unfold md;rw [if_pos (by omega)];rfl
        · rename_i hj0
          walk_at "go";refine Ld (by omega) (Vr _ (by decide) (by decide)) ?_;walk_at "go";rw [hsg,← Vq];unfold md;rw [if_neg (by omega)];rfl
       clear hrest;split
       · rename_i he
         walk_at "go";exact key1 _ (by rw [if_pos he])
       · rename_i he
         exact key1 _ (by rw [if_neg he];omega)
     · rintro σ H' ⟨v9,v10,rfl,rfl⟩
       walk_at "go";refine ⟨.inl ⟨rfl,_,SqL.of A3⟩,p,_,_,rfl,rfl,A3,by omega,?_⟩;walk_at "go";unfold nms;rw [HQ,Ft,Ft];rfl
   · rintro σ H' ⟨v7,v8,v9,v10,rfl,rfl⟩
     walk_at "go";refine q p _ _ hp (A9.new hp) A3 (by unfold nms;simp) (Xc ha0 ha1 (by omega)) fun y hy=>?_;unfold nms at hy;obtain ⟨k,_,rfl⟩:=FH.mp hy;rw [Ik];exact Sa (by omega) hL8
variable (Z41:Def P w K mg base CX0 1 "_law_names" ["_law_cell_here","_law_many"] (N36.Gx))
include T in
theorem Z81(F:Fun K "_law_line" "_law_line" Z4u f fd):Ar P w K mg base CX0 1 f fd ["_law_cell_here","_law_names_here"] (K7 K):=by
 have sc:Ab ["_law_cell_here","_law_names_here","_law_name"] ["_law_cell_here","_law_names_here"] (A7 Z4u):=by walk_at "sc"
 walk_at "ok"
 · exact n3 h_ fun _ _ _=>rfl
 refine x3 h_ fun c np ys e_=>y6 e_ fun e0 hS h1 h8 hy q=>?_;clear e_ h_;subst e0
 refine ⟨_,(@A1 _ _ _ _ _ (Ay (i:=2) sc.nd rfl (Or.inl rfl) (@Bk _ _ _ _ _ _ _ Bg (pv 1) (Ah C3 (Ah Dw (pv 0) A8) (Ap Aq rfl T.Zh FC (A0 (pv 1) A2))) (fun _ _=>rfl)))
  (@A1 _ _ _ _ _ (Az (Ao Ki (Ah C3 (pv 0) A8) A8 (nomark _))
   (@A5 _ _ _ (@Ae _ _ _ _ (Ah B3 Am (pv 2))))
   Ag)
  (@A1 _ _ _ _ _ (Az (Ao Ki (Ah C3 (pv 0) A8) A8 (nomark _))
   (@A5 _ _ _ (@Ae _ _ _ _ (Ah B3 (Ah B3 (Ah B3 Am (pv 2)) Am) (B5 Bm rfl T.Z14 (by first | rfl | decide+kernel) (A0 (Ah C3 (Ah T9 (Ah Dw (pv 0) A8) A8) (@Bk _ _ _ _ _ _ _ Bg (@Bn _ _ _ _ (A0 A8 (A0 (Ah Co (Ah Kc A8 A8) A8) A2))) (Ah C3 (Ah Dw (pv 0) A8) A8) (fun _ _=>rfl))) A2)))))
   Ag)
  (@A1 _ _ _ _ _ (Az (Ao Ki (Ah C3 (pv 0) A8) A8 (nomark _))
   (@A5 _ _ _ (@Ae _ _ _ _ (Ah B3 Am (pv 2))))
   Ag)
  (@A1 _ _ _ _ _ (Az (Ao D1 (Ah C3 (pv 0) A8) A8 (nomark _))
   (@A5 _ _ _ (@Ae _ _ _ _ (Ah B3 Am (pv 2))))
   Ag)
  (@A5 _ _ _ (@Ae _ _ _ _ Am))))))),?_⟩
 walk_at "st"
 have hlp:0 < ((ys.map V.str).length:Int):=by rw [Fa];omega
 have hi0:=Hm (c / 14) (show ((ys.map V.str).length:Int)≠0 by omega);have hi1:=Hh (c / 14) hlp
 obtain ⟨i,hi⟩:∃i:Nat,c / 14 % ((ys.map V.str).length:Int)=i:=⟨(c / 14 % ((ys.map V.str).length:Int)).toNat,by omega⟩
 rw [hi,Fa]at hi1
 obtain ⟨z,hz⟩:∃z,ys[i]?=some z:=⟨_,Fb (by omega)⟩
 have hzV:(ys.map V.str)[i]?=some (V.str z):=by rw [Fi,hz];rfl
 have hzm:=Fo hz;have hz8:=hy z hzm;walk_at "go";rw [hi];refine Ck hS (C4 hzV) ?_;walk_at "rs";rename_i rest hrest
 have k5:(Str.ofString "read ").length=5:=by decide+kernel
 have k6:(Str.ofString "ahead ").length=6:=by decide+kernel
 have k7:(Str.ofString "store ").length=6:=by decide+kernel
 have k8:(Str.ofString "keep ").length=5:=by decide+kernel
 split
 · rename_i h5
   have e:(Ea .read z 0).txt=Str.ofString "read "++z:=by
    show Txt.join (Str.ofString " ") [wd .read,z]=_;rw [J3n];show Str.ofString "read"++Str.ofString " "++z=_;rw [show Str.ofString "read"++Str.ofString " "=Str.ofString "read " by decide+kernel]
   rw [← e];exact ⟨by rw [k5];omega,q .read z 0 H (.inl rfl) hzm (by decide) (by decide) (A9.refl _) (fun k=>by omega)⟩
 rename_i h5;subst hrest;walk_at "go";rename_i rest hrest;split
 · rename_i h9
   subst hrest;walk_at "go";have hv0:=fun (x:Int) (hx:0 < x)=>Hm (c / 28 * 48271) (show x≠0 by omega);have hv1:=fun (x:Int) (hx:0 < x)=>Hh (c / 28 * 48271) hx;refine ⟨by rw [Cm,k8,sp1];omega,M7 (by decide) (by decide),J0k (by decide) (by decide),Pb (by decide) (by decide) (by decide),by decide,fun p hp=>⟨M7 (by decide) (by decide),by decide,?_⟩⟩;have sm:A9 H (upd H p (.lst [V.int 97,V.int (10 ^ 30+1)])):=A9.new hp
   obtain ⟨x,hx,hx0,hx1⟩:∃x:Int,atI [V.int 97,V.int (10 ^ 30+1)] (c / 14 % 2)=some (V.int x)∧0 < x∧x≤10 ^ 30+1:=by
    rcases (show c / 14 % 2=0∨c / 14 % 2=1 by omega) with e | e
    · exact ⟨97,by rw [e];rfl,by decide,by decide⟩
    · exact ⟨10 ^ 30+1,by rw [e];rfl,by decide,by decide⟩
   refine Ck (SqL.of A3) hx ⟨x,rfl,hx0,?_⟩;have hv0:=hv0 x hx0;have hv1:=hv1 x hx0;generalize c / 28 * 48271 % x=v at hv0 hv1 ⊢;have hn:(Str.ofString (toString v)).length≤31:=Mf hv0 (by omega)
   have e:(Ea .keep z v).txt=Str.ofString "keep "++z++Str.ofString " "++Str.ofString (toString v):=by
    show Txt.join (Str.ofString " ") [wd .keep,z,nT v]=_;rw [J8w];show Str.ofString "keep"++Str.ofString " "++(z++Str.ofString " "++Str.ofString (toString v))=_;rw [show Str.ofString "keep"++Str.ofString " "=Str.ofString "keep " by decide+kernel];simp only [Str.append_assoc]
   rw [← e];exact ⟨Gv hv0 (by omega),by rw [Cm,Cm,k8,sp1];omega,q .keep z v _ (.inr (.inl rfl)) hzm hv0 (by omega) sm (fun k=>by omega)⟩
 rename_i h9;subst hrest;walk_at "go";rename_i rest hrest;split
 · rename_i h11
   have e:(Ea .ahead z 0).txt=Str.ofString "ahead "++z:=by
    show Txt.join (Str.ofString " ") [wd .ahead,z]=_;rw [J3n];show Str.ofString "ahead"++Str.ofString " "++z=_;rw [show Str.ofString "ahead"++Str.ofString " "=Str.ofString "ahead " by decide+kernel]
   rw [← e];exact ⟨by rw [k6];omega,q .ahead z 0 H (.inr (.inr (.inl rfl))) hzm (by decide) (by decide) (A9.refl _) (fun k=>by omega)⟩
 rename_i h11;subst hrest;walk_at "go";rename_i rest hrest;split
 · rename_i h12
   have e:(Ea .store z 0).txt=Str.ofString "store "++z:=by
    show Txt.join (Str.ofString " ") [wd .store,z]=_;rw [J3n];show Str.ofString "store"++Str.ofString " "++z=_;rw [show Str.ofString "store"++Str.ofString " "=Str.ofString "store " by decide+kernel]
   rw [← e];exact ⟨by rw [k7];omega,q .store z 0 H (.inr (.inr (.inr (.inr rfl)))) hzm (by decide) (by decide) (A9.refl _) (fun k=>by omega)⟩
 subst hrest;walk_at "go";have e:(Ea .rest z 0).txt=Str.ofString "rest":=J63;rw [← e];exact q .rest z 0 H (.inr (.inr (.inr (.inl rfl)))) hzm (by decide) (by decide) (A9.refl _) (fun _=>rfl)
variable (Z4d:Def P w K mg base CX0 1 "_law_line" ["_law_cell_here","_law_names_here"] (K7 K))
include T in
theorem Z7t(F:Fun K "_law_value" "_law_value" Z4h f fd):Ar P w K mg base CX0 1 f fd ["_law_known","_law_name"] (Gy):=by
 have sc:Ab ["_law_known","_law_name"] ["_law_known","_law_name"] (A7 Z4h):=by walk_at "sc"
 walk_at "ok"
 · exact n5 h_ fun _ _ _ _ _=>rfl
 refine x5 h_ fun kn LL vl N z e_=>y4 e_ fun e0 hK hN q=>?_;clear e_ h_;subst e0
 refine ⟨_,(@A1 _ _ _ _ _ (Az (Ih (Lb (C8 hr) (pv 1) (pv 0)))
  (@A5 _ _ _ (@Ae _ _ _ _ (@Bk _ _ _ _ _ _ _ Bg (Ey (C8 hr) (pv 0) (pv 1) (fun _ _=>rfl)) (J6p J57 A8) (fun _ _=>rfl))))
  Ag)
  (@A5 _ _ _ (@Ae _ _ _ _ Am))),?_⟩
 walk_at "st";walk_at "go";rename_i rest hrest;obtain ⟨kvs,la,h1,h2,h3,h4,h5⟩:=hK.ex;refine ⟨_,Cw.k (k:=Sum.inr z) h1,?_⟩
 by_cases hz:vl z=[]
 · have gN:=Cw.k (k:=Sum.inr z) h1
   rw [h3 z hz,if_neg (by decide)];subst hrest;walk_at "go"
   have e:cv vl z=0:=by unfold cv;rw [hz];rfl
   rw [e]at q;exact q
 · obtain ⟨a1,a2,a3⟩:=h4 z hz
   rw [a1,if_pos (show (some (V.ref (la z))).isSome=true from rfl)];have gV:=Cw.k (k:=Sum.inr z) h1;rw [a1]at gV;refine ⟨_,gV,?_⟩;exact Ck (SqL.of a3) (Xt hz) q
variable (Z0r:Def P w K mg base CX0 1 "_law_value" ["_law_known","_law_name"] (Gy))
include T Z0t in
theorem Z82(F:Fun K "_law_said" "_law_said" Z4v f fd):Ar P w K mg base CX0 11 f fd ["_law_desk","_law_line_here","_law_told"] (K8 K Z5 Z1 Z0 Z2):=by
 have sc:Ab ["_law_desk","_law_line_here","_law_told","_law_answer"] ["_law_desk","_law_line_here","_law_told"] (A7 Z4v):=by walk_at "sc"
 walk_at "ok"
 · exact n7 h_ fun _ _ _ _ _ _ _=>rfl
 refine x7 h_ fun d tl op ops ks B H0 e_=>y10 e_ fun e0 hM hlg ok lok htl hT hB hol q=>?_;clear e_ h_;subst e0
 refine ⟨_,(@A1 _ _ _ _ _ (Ay (i:=3) sc.nd rfl (Or.inl rfl) (Ak Z0t T.Z02 hr (Av Ac) (pv 0) (A0 (pv 1) A2)))
  (@A1 _ _ _ _ _ (Ai (Cp FB FN FM C7 (pv 2) (A0 (Em (A0 (pv 1) (A0 (pv 3) A2))) A2)))
  (@A5 _ _ _ (@Ae _ _ _ _ (pv 3))))),?_⟩
 walk_at "st";obtain ⟨st,as,tw,ws,hD,_⟩:=id hM.ex;obtain ⟨dx,fs,ho,hf⟩:=hD.o;walk_at "go";rename_i rest hrest;refine ⟨dx,fs,ho,hf.m,op.ln,rfl,lok,fun gv H1 sm1 hgv hg1=>?_⟩;refine J4w (hM.same sm1) ok hg1 hB fun H2 fr hM2=>?_;have hT2:Cf H2 tl ops:=(hT.kp (fun o=>sm1 _ o) fun c e=>sm1 _ _).kp (fun o=>fr.1 tl htl o) fr.2;have hk2:∀c∈ks,∀o,H c=some o→H2 c=some o:=fun c hc o e=>fr.1 c hc o (sm1 _ _ e);clear hT fr sm1 hgv hg1 ho hf hD;obtain ⟨rs,t1,t2,t3⟩:=hT2;subst hrest;walk_at "go";refine ⟨.inl ⟨rfl,_,SqL.of t1⟩,by omega,fun p hp=>?_⟩;have hpt:tl≠p:=A6 t1 hp;refine ⟨tl,_,_,rfl,rfl,by rw [A4 hpt];exact t1,by rw [Fa];omega,?_⟩;walk_at "go";have sm3:A9 H2 (upd H2 p (.tup [V.str op.ln.txt,V.str ((m0.run ops).ans op)])):=A9.new hp;have hp3:upd H2 p (.tup [V.str op.ln.txt,V.str ((m0.run ops).ans op)]) p=some (.tup [V.str op.ln.txt,V.str ((m0.run ops).ans op)]):=A3;have hM3:=hM2.same sm3
 have t13:=sm3 _ _ t1;generalize upd H2 p (.tup [V.str op.ln.txt,V.str ((m0.run ops).ans op)])=H3 at sm3 hp3 hM3 t13 ⊢
 have ut:∀{b:Addr} {u:HO},b≠tl→H3 b=some u→upd H3 tl (.lst (rs.map V.ref++[V.ref p])) b=some u:=fun n e=>by rw [A4 n];exact e
 have hM4:DkM K Z5 Z1 Z0 Z2 H0 (upd H3 tl (.lst (rs.map V.ref++[V.ref p]))) d ks ((m0.run ops).nxt op) (B+wt op):=hM3.moved (fun b u e nb=>ut (fun k=>nb (by rw [k];exact htl)) e) (fun c hc=> .inl hc) fun c hc=>by
  by_cases k:c=tl
  · exact .inr ⟨_,by rw [k];exact A3⟩
  · exact (hM3.ld c hc).same fun o e=>ut k e
 refine q _ (fun c hc ne o e=>ut ne (sm3 _ _ (hk2 c hc o e))) (by rw [Cu];exact hM4) (hlg.snoc ok lok) ?_;refine Cf.snoc (rs:=rs) (p:=p) t2 (fun i r o u a b c=>?_) (by rw [A3,Ft];rfl) (ut (fun k=>hpt k.symm) hp3);have r1:=t3 i r o u a b c;exact ut (fun k=>by rw [k,t1]at r1;cases r1) (sm3 _ _ r1)
variable (Z0h:Def P w K mg base CX0 11 "_law_said" ["_law_desk","_law_line_here","_law_told"] (K8 K Z5 Z1 Z0 Z2))
include T Z0r in
theorem Z4s(F:Fun K "_law_answer_holds" "_law_answer_holds" Z20 f fd):Ar P w K mg base CX0 2 f fd ["_law_words","_law_answer","_law_known","_law_fresh","_law_prompt"] (Gz):=by
 have sc:Ab ["_law_words","_law_answer","_law_known","_law_fresh","_law_prompt","_law_many"] ["_law_words","_law_answer","_law_known","_law_fresh","_law_prompt"] (A7 Z20):=by walk_at "sc"
 walk_at "ok"
 · exact n10 h_ fun _ _ _ _ _ _ _ _ _ _=>rfl
 refine x10 h_ fun w' kn fr LL b z v m vl N e_=>y14 e_ fun e0 hb hw hK hF hN hC np nd hwn hkf hv0 hv1 q=>?_;clear e_ h_;subst e0
 refine ⟨_,(@A1 _ _ _ _ _ (Az (Dm (Dd (Ap Ez rfl T.Z0p (by first | rfl | decide+kernel) (A0 (pv 1) (A0 (Ls (v:= .ty "str") rfl T.Z14 (by first | rfl | decide+kernel) rfl) A2)))))
  (@A5 _ _ _ (@Ae _ _ _ _ Eb))
  Ag)
  (@A1 _ _ _ _ _ (Az (Ao D1 (@Bk _ _ _ _ _ _ _ Bg (pv 0) A8 (fun _ _=>rfl)) Am (nomark _))
   (@A5 _ _ _ (@Ae _ _ _ _ (Dx D1 (pv 1) (Ad Z0r hr rfl Ac (A0 (pv 2) (A0 (@Bk _ _ _ _ _ _ _ Bg (pv 0) A8 (fun _ _=>rfl)) A2))) (nomark _))))
   Ag)
  (@A1 _ _ _ _ _ (Az (Ao D1 (@Bk _ _ _ _ _ _ _ Bg (pv 0) A8 (fun _ _=>rfl)) Am (nomark _))
   (@A1 _ _ _ _ _ (Ai (Cp FB FN FM C7 (Cp HV PySem.F.slot_dict_setdefault PySem.F.type_dict_setdefault J3p (pv 2) (A0 (@Bk _ _ _ _ _ _ _ Bg (pv 0) A8 (fun _ _=>rfl)) (A0 (@Bn _ _ _ _ A2) A2))) (A0 (@Bk _ _ _ _ _ _ _ Bg (pv 0) A8 (fun _ _=>rfl)) A2)))
   (@A1 _ _ _ _ _ (Ee (C8 hr) (pv 3) (@Bk _ _ _ _ _ _ _ Bg (pv 0) A8 (fun _ _=>rfl)) Eb rfl)
   (@A5 _ _ _ (@Ae _ _ _ _ (Dx D1 (pv 1) Am (nomark _))))))
   Ag)
  (@A1 _ _ _ _ _ (Az (Ao D1 (@Bk _ _ _ _ _ _ _ Bg (pv 0) A8 (fun _ _=>rfl)) Am (nomark _))
   (@A5 _ _ _ (@Ae _ _ _ _ (Dx D8 (pv 1) (Em (A0 Am (A0 Am A2))) (by with_unfolding_all rfl))))
   Ag)
  (@A1 _ _ _ _ _ (Az (Ao D1 (@Bk _ _ _ _ _ _ _ Bg (pv 0) A8 (fun _ _=>rfl)) Am (nomark _))
   (@A5 _ _ _ (@Ae _ _ _ _ (J6e (Dx D1 (pv 1) (Ad Z0r hr rfl Ac (A0 (pv 2) (A0 (@Bk _ _ _ _ _ _ _ Bg (pv 0) A8 (fun _ _=>rfl)) A2))) (nomark _)) (Ky (Ml (T7 (pv 4)) (Ky (Dx D8 (pv 1) (Ah Tj (@Bn _ _ _ _ (A0 Am A2)) (Ms (C8 hr) (pv 2) (@Bk _ _ _ _ _ _ _ Bg (pv 0) A8 (fun _ _=>rfl)) (@Bn _ _ _ _ A2) ⟨rfl,rfl,rfl,rfl⟩)) (by with_unfolding_all rfl))))))))
   Ag)
  (@A1 _ _ _ _ _ (Ay (i:=5) sc.nd rfl (Or.inl rfl) (Ap O2 rfl T.Zh FC (A0 (pv 3) A2)))
  (@A1 _ _ _ _ _ (Ai (Tg HV PySem.F.slot_dict_clear PySem.F.type_dict_clear Xo (pv 3)))
  (@A5 _ _ _ (@Ae _ _ _ _ (Dx D8 (pv 1) (G5 "_law_k" [] rfl rfl (Eg rfl T.Z21 (A0 (Ah Co (Ah J2y (pv 5) (B5 Nr rfl T.Z4n (by first | rfl | decide+kernel) (A0 (T7 (pv 4)) A2))) A8) A2)) (fun b=>(B5 Bm rfl T.Z14 (by first | rfl | decide+kernel) (A0 (pv 0) A2)))) (by with_unfolding_all rfl))))))))))),?_⟩
 walk_at "st";walk_at "go";rename_i rest hrest;have hw0:((wd b::(Ea b z v).ws).map V.str)[0]?=some (V.str (wd b)):=rfl;have iw:∀{R':VK},R' (.str (wd b)) H→X3 K (V.ref w') (V.int 0) H R':=fun r=>Ck (SqL.of hw) (v:=V.str (wd b)) (C4 (j:=0) hw0) r;have np1:N≤90:=hN
 have line2:wd b≠Str.empty:=fun e=>by
  have:=(We b).2.1;rw [e]at this;exact absurd this (by decide)
 have fin0:b≠ .keep→∀H',A9 H H'→Q (.bl true) H':=fun nk H' sm=>q LL H' (.of sm) (fun c hc=> .inl hc) (by rw [show goL b vl z v=vl by cases b <;> first | rfl | exact absurd rfl nk];exact (hK.same sm).up (by omega)) (((hF.kp fun o=>sm _ o).up (by omega)).le fun y hy=>(J88 hb hy).elim (fun k=>absurd k.1 nk) (·.2))
 refine iw ⟨rfl,?_⟩
 by_cases b1:b= .read
 · subst b1
   rw [if_pos (show V.str (wd .read)=V.str (Str.ofString "read") from rfl)];refine Ck (SqL.of hw) (v:=V.str z) (C4 (j:=1) (show ([wd .read,z].map V.str)[1]?=some (V.str z) from rfl)) ⟨LL,vl,N,z,rfl,hK,by omega,?_⟩;rw [show decide (m.ans (.deed .read z v)=nT (cv vl z))=true from FD (by show nT ((Cs m.zs.sum m.R z m.g).h z)=_;rw [J3t hC])];exact fin0 (fun k=>by cases k) H (A9.refl _)
 rw [if_neg (show ¬V.str (wd b)=V.str (Str.ofString "read") from fun e=>b1 (Ni (V.str.inj e)))];subst hrest;walk_at "go";rename_i rest hrest;refine iw ⟨rfl,?_⟩
 by_cases b2:b= .keep
 · subst b2
   rw [if_pos (show V.str (wd .keep)=V.str (Str.ofString "keep") from rfl)];subst hrest;walk_at "go";rename_i rest hrest;obtain ⟨kvs,la,h1,h2,h3,h4,h5⟩:=id hK.ex
   have key:∀(LL':List Addr) (H2:Hp),Off (kn::LL) H H2→Dc H2 kn LL' (Cc vl z v) (N+1)→(∀c∈LL',c∈LL∨H c=none)→rest [some (V.ref w'),some (V.str (m.ans (Op.deed W85.keep z v))),some (V.ref kn),some (V.ref fr),some (V.bl m.pr),none] H2:=fun LL' H2 o hK2 hm=>by
    subst hrest;walk_at "go"
    have hw2:=o _ _ hw fun k=>hwn (by rcases Fh.mp k with e | e <;> simp [e])
    obtain ⟨kf,f1,f2,f3⟩:=id hF
    have hfl:fr∉LL:=fun e=>by
     obtain ⟨xs,k⟩:=hK.ld fr e;rw [f1]at k;cases k
    have f12:=o _ _ f1 fun k=>(Fh.mp k).elim (fun e=>hkf e.symm) hfl
    have hfn:∀c∈LL',c≠fr:=fun c hc e=>by
     rcases hm c hc with k | k
     · exact hfl (e▸k)
     · rw [e,f1]at k;cases k
    refine Ck (SqL.of hw2) (v:=V.str z) (C4 (j:=1) rfl) ⟨_,Kl.k (k:=Sum.inr z) f12 (by omega),?_⟩
    have fP:Ir (upd H2 fr (.dK (B8 kf (Sum.inr z) (V.bl true)))) fr (m.nxt (.deed .keep z v)).g (N+1):=by
     have hl:=Bx kf (Sum.inr z:Key) (V.bl true);refine ⟨_,A3,by omega,fun y hy=>?_⟩;rw [E2]
     by_cases e:y=z
     · rw [e,if_pos rfl];rfl
     · rw [if_neg (Gr e)]
       exact f3 y ((J88 hb hy).elim (fun k=>absurd k.2 e) (·.2))
    have kP:Dc (upd H2 fr (.dK (B8 kf (Sum.inr z) (V.bl true)))) kn LL' (goL .keep vl z v) (N+1):=hK2.kp fun c hc o e=>by
     rw [A4 ((Fh.mp hc).elim (fun k=>by rw [k];exact hkf) (hfn c))];exact e
    have offP:Off (kn::fr::LL) H (upd H2 fr (.dK (B8 kf (Sum.inr z) (V.bl true)))):=fun c u e n=>by
     rw [A4 (fun k=>n (by rw [k];simp))];exact o c u e fun k=>n ((Fh.mp k).elim (fun j=>by rw [j];simp) fun j=>by simp [j])
    generalize upd H2 fr (.dK (B8 kf (Sum.inr z) (V.bl true)))=H3 at fP kP offP ⊢;walk_at "rs";exact q LL' H3 offP hm kP fP
   have iz:∀{H1:Hp} {R':VK},A9 H H1→R' (.str z) H1→X3 K (V.ref w') (V.int 1) H1 R':=fun sm r=>Ck (SqL.of (sm _ _ hw)) (v:=V.str z) (C4 (j:=1) rfl) r;have ivv:∀{H1:Hp} {R':VK},H1 w'=some (.lst ((wd .keep::(Ea .keep z v).ws).map V.str))→R' (.str (nT v)) H1→X3 K (V.ref w') (V.int 2) H1 R':=fun hw1 r=>Ck (SqL.of hw1) (v:=V.str (nT v)) (C4 (j:=2) rfl) r;refine ⟨.inr (.inr (.inl ⟨rfl,.inl ⟨_,h1⟩⟩)),iz (A9.refl _) ⟨Fl _,fun p hp=>⟨kvs,Sum.inr z,rfl,by rw [A4 (A6 h1 hp)];exact h1,by omega,fun u hu=>?_,fun hn=>?_⟩⟩⟩
   · have hz:vl z≠[]:=fun e=>by rw [h3 z e]at hu;cases hu
     have sm1:A9 H (upd H p (.lst [])):=A9.new hp;generalize upd H p (.lst [])=H1 at sm1 ⊢;have hK1:=hK.same sm1;obtain ⟨a1,a2,a3⟩:=h4 z hz;rw [a1]at hu;cases hu;obtain ⟨b1,b2,b3⟩:=hK1.more (v:=v) hz (sm1 _ _ h1) a1;have hl:=hK.l z;refine ⟨.inl ⟨rfl,_,SqL.of b2⟩,ivv (sm1 _ _ hw) ⟨la z,_,_,rfl,rfl,b2,by rw [Fa];omega,?_⟩⟩;refine key LL _ (fun c u e n=>?_) b3 fun c hc=> .inl hc;rw [A4 (fun k=>n (by rw [k];exact Fd _ b1))];exact sm1 _ _ e
   · have hz:vl z=[]:=by
      cases e:vl z with
      | nil=>rfl
      | cons i r=>
       have:=(h4 z (by rw [e];simp)).1;rw [hn]at this;cases this
     have hkp:kn≠p:=A6 h1 hp
     have e1:upd (upd H p (.lst [])) kn (.dK (B8 kvs (Sum.inr z) (.ref p))) p=some (.lst []):=by rw [A4 hkp.symm];exact A3
     have e2:upd (upd H p (.lst [])) kn (.dK (B8 kvs (Sum.inr z) (.ref p))) w'=some (.lst ((wd .keep::(Ea .keep z v).ws).map V.str)):=by
      rw [A4 (fun k=>hwn (by rw [k];exact Fj)),A4 (A6 hw hp)];exact hw
     refine ⟨.inl ⟨rfl,_,SqL.of e1⟩,ivv e2 ⟨p,_,_,rfl,rfl,e1,by show 0 < _;omega,?_⟩⟩;refine key (p::LL) _ (fun c u e n=>?_) (hK.first (v:=v) hz h1 hp) fun c hc=>?_
     · have n1:c≠p:=A6 e hp
       rw [A4 n1,A4 (fun k=>n (by rw [k];exact Fj)),A4 n1];exact e
     · rcases Fh.mp hc with k | k
       · exact .inr (by rw [k];exact hp)
       · exact .inl k
 rw [if_neg (show ¬V.str (wd b)=V.str (Str.ofString "keep") from fun e=>b2 (Ni (V.str.inj e)))];subst hrest;walk_at "go";rename_i rest hrest;refine iw ⟨rfl,?_⟩
 by_cases b3:b= .ahead
 · subst b3
   rw [if_pos (show V.str (wd .ahead)=V.str (Str.ofString "ahead") from rfl)];refine ⟨by omega,fun p hp=>Wf (ys:=[Str.ofString "yes",Str.ofString "no"]) (SqT.of A3) ?_⟩
   rw [show decide (m.ans (.deed .ahead z v)∈[Str.ofString "yes",Str.ofString "no"])=true from FD (by
    show J24 .ahead m.zs.sum m.R z m.g∈_;unfold J24;dsimp only
    split <;> simp)]
   exact fin0 (fun k=>by cases k) _ (A9.new hp)
 rw [if_neg (show ¬V.str (wd b)=V.str (Str.ofString "ahead") from fun e=>b3 (Ni (V.str.inj e)))];subst hrest;walk_at "go";rename_i rest hrest;refine iw ⟨rfl,?_⟩
 by_cases b4:b= .store
 · subst b4
   rw [if_pos (show V.str (wd .store)=V.str (Str.ofString "store") from rfl)];have iz:∀{H1:Hp} {R':VK},A9 H H1→R' (.str z) H1→X3 K (V.ref w') (V.int 1) H1 R':=fun sm r=>Ck (SqL.of (sm _ _ hw)) (v:=V.str z) (C4 (j:=1) rfl) r
   have fin1:=fin0 fun k=>by cases k
   refine iz (A9.refl _) ⟨LL,vl,N,z,rfl,hK,by omega,?_⟩;split
   · exact fin1 H (A9.refl _)
   rename_i hne;have hst:m.ans (.deed .store z v)=nT (m.g.st z):=rfl;rw [hst]at hne ⊢
   have hpr:m.pr=false:=by
    cases e:m.pr with
    | false=>rfl
    | true=>exact absurd (by rw [hC.b z (np e z)]) hne
   rw [if_pos hpr];refine ⟨by omega,fun p hp=>?_⟩;have sm1:A9 H (upd H p (.lst [V.str (Str.ofString "0")])):=A9.new hp;have hp1:upd H p (.lst [V.str (Str.ofString "0")]) p=some (.lst ([Str.ofString "0"].map V.str)):=A3;generalize upd H p (.lst [V.str (Str.ofString "0")])=H1 at sm1 hp1 ⊢;have hK1:=hK.same sm1;obtain ⟨kvs,la,h1,h2,h3,h4,h5⟩:=id hK1.ex;refine ⟨.inl ⟨_,.inl h1⟩,iz sm1 ⟨Fl _,fun p2 hp2=>?_⟩⟩;have sm2:A9 H1 (upd H1 p2 (.lst [])):=A9.new hp2;have hp22:upd H1 p2 (.lst []) p2=some (.lst (([]:List Str).map V.str)):=A3;generalize upd H1 p2 (.lst [])=H2 at sm2 hp22 ⊢;refine ⟨_,Cw.k (k:=Sum.inr z) (sm2 _ _ h1),?_⟩
   have fin2:∀(c:Addr) (us:List Str),H2 c=some (.lst (us.map V.str))→us.length≤100→nT (m.g.st z)∈Str.ofString "0"::us→J59 (V.ref p) (V.ref c) H2 fun y H3=>rIn K false (V.str (nT (m.g.st z))) y H3 Q:=fun c us hc hl hin=>by
    rw [J5u];refine ⟨p,c,_,_,rfl,rfl,sm2 _ _ hp1,hc,by rw [Fa,Fa];show 1+_≤_;omega,fun p3 hp3=>?_⟩;refine Of (ys:=Str.ofString "0"::us) (SqL.of A3) ?_;rw [show decide (nT (m.g.st z)∈Str.ofString "0"::us)=true from FD hin];exact fin1 _ ((sm1.trans sm2).trans (A9.new hp3))
   have h0:m.g.st z=0→nT (m.g.st z)=Str.ofString "0":=fun e=>by rw [e];rfl
   by_cases hz:vl z=[]
   · rw [h3 z hz]
     refine fin2 p2 [] hp22 (by decide) ?_;rcases hC.s z with e | e
     · rw [h0 e];simp
     · rw [hz]at e;cases e
   · obtain ⟨a1,a2,a3⟩:=h4 z hz
     rw [a1];refine fin2 (la z) ((vl z).map nT) (by rw [FL];exact sm2 _ _ a3) (by rw [Fa];have:=hK.l z;omega) ?_;rcases hC.s z with e | e
     · rw [h0 e];simp
     · exact Fd _ (FH.mpr ⟨_,e,rfl⟩)
 rw [if_neg (show ¬V.str (wd b)=V.str (Str.ofString "store") from fun e=>b4 (Ni (V.str.inj e)))];subst hrest;walk_at "go"
 have b5:b= .rest:=by
  rcases hb with h | h | h | h | h
  · exact absurd h b1
  · exact absurd h b2
  · exact absurd h b3
  · exact h
  · exact absurd h b4
 subst b5;obtain ⟨kf,f1,f2,f3⟩:=hF.count nd;refine ⟨kf,f1,?_⟩;walk_at "rs";refine ⟨.inr (.inr (.inl ⟨rfl,.inl ⟨_,f1⟩⟩)),fr,kf,rfl,rfl,f1,?_⟩;walk_at "go"
 have hmul:(kf.length:Int) * (if m.pr=false then 1 else 0)=((if m.pr=false then kf.length else 0:Nat):Int):=by
  split
  · rw [Int.mul_one]
  · rw [Int.mul_zero];rfl
 rw [hmul]
 have hcn:(m.R.filter m.g.l).length≤(if m.pr=false then kf.length else 0):=by
  split
  · exact f3
  · rename_i hp
    have hp':m.pr=true:=by cases e:m.pr with | true=>rfl | false=>exact absurd e hp
    rw [List.filter_eq_nil_iff.mpr fun y _=>by rw [np hp' y];decide];exact Fl _
 obtain ⟨k,hk⟩:∃k:Nat,(if m.pr=false then kf.length else 0)=k:=⟨_,rfl⟩
 have hk90:k≤90:=by rw [← hk];split <;> omega
 rw [hk]at hcn ⊢;have hw2:fr≠w':=fun e=>hwn (by rw [← e];simp)
 have hfl:fr∉LL:=fun e=>by
  obtain ⟨xs,j⟩:=hK.ld fr e;rw [f1]at j;cases j
 have g1:upd H fr (.dK []) fr=some (.dK []):=A3
 have ofr:∀{c:Addr} {u:HO},c≠fr→H c=some u→upd H fr (.dK []) c=some u:=fun n e=>by rw [A4 n];exact e
 have kP:Dc (upd H fr (.dK [])) kn LL vl (N+1):=(hK.kp fun c hc o e=>ofr ((Fh.mp hc).elim (fun j=>by rw [j];exact hkf) fun j e=>hfl (e▸j)) e).up (by omega)
 have fP:Ir (upd H fr (.dK [])) fr (m.nxt (.deed .rest z v)).g (N+1):=⟨[],g1,Fl _,fun y hy=>by
  have hy':(G3 m.R m.g).l y=true:=hy;rw [(Kw (R:=m.R) (g:=m.g) hC.lh).2.1]at hy'
  cases hy'⟩
 have oP:Off (kn::fr::LL) H (upd H fr (.dK [])):=fun c u e n=>ofr (fun j=>n (by rw [j];simp)) e;generalize upd H fr (.dK [])=H1 at kP fP oP ⊢
 refine ⟨by split <;> exact ⟨by omega,by decide⟩,by omega,by omega,?_⟩
 rw [show ((k:Int)+1).toNat=k+1 by omega];refine Mw (fun x=>V.str (nT x)) (by omega) (fun b i H2 Q' hi sm q'=>?_) fun D hD=>?_
 · walk_at "go"
   rw [Int.zero_add]at q';exact ⟨Gv (by omega) (by omega),q'⟩
 refine Of (ys:=(List.range (k+1)).map fun (i:Nat)=>nT (0+(i:Int))) (SqL.of (by rw [A3,FL];rfl)) ?_;rw [show decide (m.ans (.deed .rest z v)∈(List.range (k+1)).map fun (i:Nat)=>nT (0+(i:Int)))=true from FD (FH.mpr ⟨(m.R.filter m.g.l).length,Hz.mpr (by omega),by show nT (0+((m.R.filter m.g.l).length:Int))=nT _;rw [Int.zero_add]⟩)];exact q LL _ (oP.trans (.of (A9.new hD))) (fun c hc=> .inl hc) (kP.same (A9.new hD)) (fP.kp fun o e=>A9.new hD _ _ e)
variable (Z0i:Def P w K mg base CX0 2 "_law_answer_holds" ["_law_words","_law_answer","_law_known","_law_fresh","_law_prompt"] (Gz))
include T Z0h Z0r in
theorem Z5l(F:Fun K "_law_all_stored" "_law_all_stored" Z2w f fd):Ar P w K mg base CX0 12 f fd ["_law_desk","_law_names_here","_law_known","_law_told"] (G4 K Z5 Z1 Z0 Z2):=by
 have sc:Ab ["_law_desk","_law_names_here","_law_known","_law_told","_law_name"] ["_law_desk","_law_names_here","_law_known","_law_told"] (A7 Z2w):=by walk_at "sc"
 walk_at "ok"
 · exact n12 h_ fun _ _ _ _ _ _ _ _ _ _ _ _=>rfl
 refine x12 h_ fun d np kn tl ys ops ks LL B N H0 vl e_=>y17 e_ fun e0 hM hlg htl hT hB hol hnp hy8 hyl hyn hon hK hN hks hst q=>?_;clear e_ h_;subst e0
 refine ⟨_,(@A1 _ _ _ _ _ (D0 PassesOwn.never rfl (Bt (pv 1)) (Bb (i:=4) sc.nd rfl (Or.inl rfl))
  (@A5 _ _ _ (Az (Ao Ug (Ad Z0h hr rfl Ac (A0 (pv 0) (A0 (Ah B3 Am (pv 4)) (A0 (pv 3) A2)))) (Ad Z0r hr rfl Ac (A0 (pv 2) (A0 (pv 4) A2))) (nomark _))
   (@A5 _ _ _ (@Ae _ _ _ _ Eb))
   Ag)))
  (@A5 _ _ _ (@Ae _ _ _ _ Eb))),?_⟩
 walk_at "st";walk_at "go";rename_i rest hrest;have hny:=hM.sm _ _ hnp;refine ⟨⟨_,SqL.of hny⟩,?_⟩;refine Dy (xs:=ys.map V.str) (fun i σ H'=>∃(v4:Option V),σ=[some (V.ref d),some (V.ref np),some (V.ref kn),some (V.ref tl),v4]∧(∀c∈ks,c≠tl→∀o,H c=some o→H' c=some o)∧DkM K Z5 Z1 Z0 Z2 H0 H' d ks (m0.run ops) B∧Lg m0 (ops++(ys.take i).map Bj)∧m0.run (ops++(ys.take i).map Bj)=m0.run ops∧Cf H' tl (ops++(ys.take i).map Bj)) ⟨none,rfl,(fun c _ _ o e=>e),hM,(by rw [R0,List.map_nil,FX];exact hlg),(by rw [R0,List.map_nil,FX]),(by rw [R0,List.map_nil,FX];exact hT)⟩ (fun i σ H' _ h_=>by obtain ⟨_,_,_,h,_⟩:=h_;exact SqL.of (h.sm _ _ hnp)) ?_ ?_
 · clear hrest hny hT hlg hM
   rintro i x σ H' hx ⟨v4,rfl,hk,hM',hlg',hrun,hT'⟩;rw [Fi]at hx
   cases hcx:ys[i]? with
   | none=>rw [hcx]at hx;cases hx
   | some z=>
   rw [hcx]at hx;cases hx;have hzm:=Fo hcx;walk_at "go"
   have k6:(Str.ofString "store ").length=6:=by decide+kernel
   have hz8:=hyl z hzm
   have e:(Bj z).ln.txt=Str.ofString "store "++z:=by
    show Txt.join (Str.ofString " ") [wd .store,z]=_;rw [J3n];show Str.ofString "store"++Str.ofString " "++z=_;rw [show Str.ofString "store"++Str.ofString " "=Str.ofString "store " by decide+kernel]
   have hok:Nn (m0.run (ops++(ys.take i).map Bj)) (Bj z):=by rw [hrun];exact Xu hon (hyn z hzm)
   have htk:(ys.take (i+1)).map Bj=(ys.take i).map Bj++[Bj z]:=by rw [Ri,hcx,Ft];rfl
   have hlk:(Bj z).ln.ok:=by
    obtain ⟨t,ht,e⟩:=FH.mp (hyn z hzm);have hn:=(hM'.th t ht).1;rw [e]at hn;exact Pt (b:= .store) (z:=z) (v:=0) (Py (.inr (.inr (.inr (.inr rfl))))) hn (by decide) (by decide)
   refine ⟨by rw [k6];omega,tl,Bj z,e.symm,rfl,ops++(ys.take i).map Bj,ks,B,H0,by rw [hrun];exact hM',hlg',hok,hlk,htl,hT',hB,?_,fun H2 hk2 hM2 hlg2 hT2=>?_⟩
   · rw [Ff,Fa,FV];omega
   have hkn:∀c∈kn::LL,∀o,H c=some o→H2 c=some o:=fun c hc o e=>hk2 c (hks c hc).1 (hks c hc).2 o (hk c (hks c hc).1 (hks c hc).2 o e);rw [Cu,hrun]at hM2;refine ⟨LL,vl,N,hK.kp hkn,hN,?_⟩;rw [if_neg (fun k=>k (by rw [hrun];show nT ((m0.run ops).g.st z)=_;rw [hst]))];refine ⟨fun c hc ne o e=>hk2 c hc ne o (hk c hc ne o e),hM2,?_,?_,?_⟩
   · rw [htk,← HI];exact hlg2
   · rw [htk,← HI,Cu,hrun];rfl
   · rw [htk,← HI];exact hT2
 · rintro σ H' ⟨v4,rfl,hk,hM',hlg',hrun,hT'⟩
   rw [Fa,FU]at hlg' hrun hT';subst hrest;walk_at "go";exact q _ hk (by rw [hrun];exact hM') hlg' hrun hT'
variable (Z0q:Def P w K mg base CX0 12 "_law_all_stored" ["_law_desk","_law_names_here","_law_known","_law_told"] (G4 K Z5 Z1 Z0 Z2))
include T in
theorem Z7u(F:Fun K "_law_tower" "_law_tower" Z4i f fd):Ar P w K mg base CX0 1 f fd ["_law_cell_here","_law_prompt"] (Ia):=by
 have sc:Ab ["_law_cell_here","_law_prompt","_law_sizes","_law_k"] ["_law_cell_here","_law_prompt"] (A7 Z4i):=by walk_at "sc"
 walk_at "ok"
 · exact n2 h_ fun _ _=>rfl
 refine x2 h_ fun c pr e_=>y2 e_ fun e0 q=>?_;clear e_ h_;subst e0
 refine ⟨_,(@A1 _ _ _ _ _ (Ay (i:=2) sc.nd rfl (Or.inl rfl) (@Bn _ _ _ _ A2))
  (@A1 _ _ _ _ _ (D0 PassesOwn.never rfl (Eg rfl T.Z21 (A0 (Ah Co A8 (Ah C3 (pv 0) A8)) A2)) (Bb (i:=3) sc.nd rfl (Or.inl rfl))
   (@A5 _ _ _ (Ai (Cp FB FN FM C7 (pv 2) (A0 (B5 Bm rfl T.Z14 (by first | rfl | decide+kernel) (A0 (Ah Co A8 (Ah C3 (Ah Mt (Ah Dw (pv 0) A8) (Ah Co (pv 3) A8)) A8)) A2)) A2)))))
  (@A5 _ _ _ (@Ae _ _ _ _ (Ah B3 (@Bk _ _ _ _ _ _ _ Bg (@Bn _ _ _ _ (A0 Am (A0 Am A2))) (B5 Nr rfl T.Z4n (by first | rfl | decide+kernel) (A0 (pv 1) A2)) (fun _ _=>rfl)) (Cp FY HF HE Kn Am (A0 (pv 2) A2))))))),?_⟩
 walk_at "st";walk_at "go";intro p hp;walk_at "go";rename_i rest hrest
 obtain ⟨n,hn⟩:∃n:Nat,(1+c % 6).toNat=n:=⟨_,rfl⟩
 have hn1:1≤n:=by omega
 have hn6:n≤6:=by omega
 have hne:1+c % 6=(n:Int):=by omega
 rw [hne];refine M5 (lo:=0) (n:=n) (fun k σ H'=>∃(zs:List Int) (v4:Option V),σ=[some (V.int c),some (V.bl pr),some (V.ref p),v4]∧zs.length=k∧(∀u∈zs,1≤u∧u≤1000)∧H'=upd H p (.lst ((zs.map nT).map V.str))) ⟨[],none,rfl,rfl,(fun u hu=>by cases hu),rfl⟩ ?_ ?_
 · clear hrest
   rintro k σ H' hk ⟨zs,v4,rfl,hzl,hz,rfl⟩;walk_at "go";have hg:upd H p (.lst ((zs.map nT).map V.str)) p=some (.lst ((zs.map nT).map V.str)):=A3;have hu0:=Hm ((c / 6).fdiv ((k:Int)+1)) (show (4:Int)≠0 by decide);have hu1:=Hh ((c / 6).fdiv ((k:Int)+1)) (show (0:Int) < 4 by decide)
   obtain ⟨u,hu⟩:∃u:Int,1+(c / 6).fdiv ((k:Int)+1) % 4=u:=⟨_,rfl⟩
   rw [hu];refine ⟨.inl ⟨rfl,_,SqL.of hg⟩,M7 (by decide) (by decide),by omega,by omega,by decide,Gv (by omega) (by omega),p,_,_,rfl,rfl,hg,by rw [Fa,Fa];omega,zs++[u],by rw [Ff,hzl];rfl,fun x hx=>?_,?_⟩
   · rcases Fq.mp hx with hx | hx
     · exact hz x hx
     · rw [Fg.mp hx];omega
   · rw [P0,Ft,Ft];rfl
 · rintro σ H' ⟨zs,v4,rfl,hzl,hz,rfl⟩
   subst hrest;walk_at "go";intro mk hmk;have hg:upd H p (.lst ((zs.map nT).map V.str)) p=some (.lst ((zs.map nT).map V.str)):=A3;have sm1:A9 H (upd H p (.lst ((zs.map nT).map V.str))):=A9.new hp;generalize upd H p (.lst ((zs.map nT).map V.str))=H1 at hg sm1 hmk ⊢;have sm2:A9 H1 (upd H1 mk (.lst [V.str (Str.ofString "tower "),V.str (Str.ofString "prompt ")])):=A9.new hmk
   have hmkV:atI [V.str (Str.ofString "tower "),V.str (Str.ofString "prompt ")] (if pr=true then 1 else 0)=some (V.str (if pr=true then Str.ofString "prompt " else Str.ofString "tower ")):=by cases pr <;> rfl
   have htx:(lnW pr zs).txt.length≤4000:=(U7 (by omega) (by omega) hz).long;rw [Wj (by omega),Cm]at htx;refine Ck (SqL.of A3) hmkV ⟨_,SqL.of (sm2 _ _ hg),?_,_,rfl,by omega,?_⟩
   · rw [sp1]
     have h1:=Kt (ys:=zs.map nT) (b:=31) fun y hy=>by
      obtain ⟨i,hi,rfl⟩:=FH.mp hy;have:=hz i hi;exact Mf (by omega) (by omega)
     rw [Fa]at h1 ⊢;omega
   · rw [← Wj (by omega)]
     exact q zs _ (by omega) (by omega) hz (sm1.trans sm2)
variable (Z33:Def P w K mg base CX0 1 "_law_tower" ["_law_cell_here","_law_prompt"] (Ia))
include T Z2d in
theorem Z7v(F:Fun K "_law_again" "_law_again" Z4j f fd):Ar P w K mg base CX0 13 f fd ["_law_told"] (Ib):=by
 have sc:Ab ["_law_told","_law_found"] ["_law_told"] (A7 Z4j):=by walk_at "sc"
 walk_at "ok"
 · exact n2 h_ fun _ _=>rfl
 refine x2 h_ fun tl ops e_=>y7 e_ fun e0 hT hne hlg hw hl q=>?_;clear e_ h_;subst e0
 refine ⟨_,(@A1 _ _ _ _ _ (Ay (i:=1) sc.nd rfl (Or.inl rfl) (Ad Z2d hr rfl Ac (A0 (Cp FY HF HE Kn Am (A0 (N0 "_law_line_here" "_law_answer" [] rfl rfl (Bt (pv 0)) (fun b=>(pv 0))) A2)) A2)))
  (@A5 _ _ _ (@Ae _ _ _ _ (Dx (J5x 1 hr) (pv 1) (N0 "_law_line_here" "_law_answer" [] rfl rfl (Bt (pv 0)) (fun b=>(Em (A0 Eb (A0 (pv 1) A2))))) (nomark _))))),?_⟩
 walk_at "st";walk_at "go";rename_i rest hrest;obtain ⟨rs,t1,t2,t3⟩:=hT;refine ⟨⟨_,SqL.of t1⟩,?_⟩;obtain ⟨lt1,lt2⟩:=T3 hlg hl;have htup:=J2g t2 t3;refine J3i (fun i=>V.str ((ops.map fun o=>o.ln.txt).getD i Str.empty)) (fun i=>V.str ((m0.anl ops).getD i Str.empty)) (fun _=>true) (fun i=>V.str ((ops.map fun o=>o.ln.txt).getD i Str.empty)) (SqL.of t1) (by omega) (fun i c e=>SqT.of (htup i c e)) (fun b i H QT hi sm k=>k H (A9.refl _)) (fun b i H Q' hi _ sm k=>?_) fun D H2 hD sm2 hD2=>?_
 · walk_at "go"
   exact k _ (A9.refl _)
 rw [show rs.length=(ops.map fun o=>o.ln.txt).length by rw [Fa,t2],Xv]at hD2;refine ⟨D,rfl,_,SqL.of hD2,?_,ops,rfl,hne,hlg,hw,hl,fun p H3 sm3 hp=>?_⟩
 · rw [show (Str.ofString "\n").length=1 by decide+kernel,Fa];omega
 subst hrest;walk_at "go";have sm23:=sm2.trans sm3;have t13:=sm23 _ _ t1;refine ⟨⟨_,SqL.of t13⟩,?_⟩;refine Xm (fun i=>V.str ((ops.map fun o=>o.ln.txt).getD i Str.empty)) (fun i=>V.str ((m0.anl ops).getD i Str.empty)) (fun i=>[.bl true,.str ((m0.anl ops).getD i Str.empty)]) (SqL.of t13) (by omega) (fun i c e=>sm23 _ _ (htup i c e)) (fun b i H' Q' hi sm k=>?_) fun D' bs H4 hDn' sm4 hD4 hbl hb=>?_
 · walk_at "go"
   exact fun t ht=>k t _ (A9.new ht) A3
 · obtain ⟨rs',p1,p2,p3⟩:=hp
   exact ⟨Ua ⟨rs',sm4 _ _ p1,p2,fun i r u a b=>sm4 _ _ (p3 i r u a b)⟩ hD4 (by rw [hbl,Mh,t2]) hb,q H4⟩
variable (Z42:Def P w K mg base CX0 13 "_law_again" ["_law_told"] (Ib))
include T Z13 Z41 Z33 Z4d Z0h Z0i Z0q Z42 Z0m in
theorem Z8b(F:Fun K "law" "law" Z3o f fd):Ar P w K mg base CX0 14 f fd ["_law_script"] (My K):=by
 have sc:Ab ["_law_script","_law_names_here","_law_desk","_law_told","_law_name","_law_prompt","_law_known","_law_fresh","_law_cell_here","_law_line_here","_law_answer"] ["_law_script"] (A7 Z3o):=by walk_at "sc"
 walk_at "ok"
 · exact n2 h_ fun _ _=>rfl
 refine x2 h_ fun a ns e_=>y4 e_ fun e0 hS hl q=>?_;clear e_ h_;subst e0
 refine ⟨_,(@A1 _ _ _ _ _ (Ay (i:=1) sc.nd rfl (Or.inl rfl) (Ad Z41 hr rfl Ac (A0 (Ad Z13 hr rfl Ac (A0 (pv 0) (A0 A8 A2))) (A0 (Ah Co A8 (Ah C3 (Ad Z13 hr rfl Ac (A0 (pv 0) (A0 A8 A2))) A8)) A2))))
  (@A1 _ _ _ _ _ (Ay (i:=2) sc.nd rfl (Or.inl rfl) (Ox Z0m hr rfl (Av Ac)))
  (@A1 _ _ _ _ _ (Ay (i:=3) sc.nd rfl (Or.inl rfl) (@Bn _ _ _ _ A2))
  (@A1 _ _ _ _ _ (D0 PassesOwn.never rfl (Bt (pv 1)) (Bb (i:=4) sc.nd rfl (Or.inl rfl))
   (@A5 _ _ _ (Ai (Ad Z0h hr rfl Ac (A0 (pv 2) (A0 (Ah B3 (Ah B3 (Ah B3 (Ah B3 Am (pv 4)) Am) (B5 Bm rfl T.Z14 (by first | rfl | decide+kernel) (A0 (Ah C3 (Ad Z13 hr rfl Ac (A0 (pv 0) (A0 A8 A2))) (Ah Kc A8 A8)) A2))) Am) (A0 (pv 3) A2)))))))
  (@A1 _ _ _ _ _ (Ay (i:=5) sc.nd rfl (Or.inl rfl) (Dx D1 (Ah C3 (Ad Z13 hr rfl Ac (A0 (pv 0) (A0 A8 A2))) A8) A8 (nomark _)))
  (@A1 _ _ _ _ _ (Ai (Ad Z0h hr rfl Ac (A0 (pv 2) (A0 (Ad Z33 hr rfl Ac (A0 (Ad Z13 hr rfl Ac (A0 (pv 0) (A0 A8 A2))) (A0 (pv 5) A2))) (A0 (pv 3) A2)))))
  (@A1 _ _ _ _ _ (Ay (i:=6) sc.nd rfl (Or.inl rfl) C9)
  (@A1 _ _ _ _ _ (Ay (i:=7) sc.nd rfl (Or.inl rfl) C9)
  (@A1 _ _ _ _ _ (D0 PassesOwn.never rfl (Bt (Ij Lx (pv 0) (Ex A8) (Ex A8))) (Bb (i:=8) sc.nd rfl (Or.inl rfl))
   (@A1 _ _ _ _ _ (Ay (i:=9) sc.nd rfl (Or.inl rfl) (Ad Z4d hr rfl Ac (A0 (pv 8) (A0 (pv 1) A2))))
   (@A1 _ _ _ _ _ (Ay (i:=10) sc.nd rfl (Or.inl rfl) (Ad Z0h hr rfl Ac (A0 (pv 2) (A0 (pv 9) (A0 (pv 3) A2)))))
   (@A1 _ _ _ _ _ (Az (Dm (Dd (Ad Z0i hr rfl Ac (A0 (Cp FY Rp Ro Mv (pv 9) (A0 Am A2)) (A0 (pv 10) (A0 (pv 6) (A0 (pv 7) (A0 (pv 5) A2))))))))
    (@A5 _ _ _ (@Ae _ _ _ _ Eb))
    Ag)
   (@A1 _ _ _ _ _ (Az (PW.pt (T6 (Ao D1 (pv 9) Am (nomark _)) (P3 (Dm (Dd (Ad Z0q hr rfl Ac (A0 (pv 2) (A0 (pv 1) (A0 (pv 6) (A0 (pv 3) A2))))))))))
    (@A5 _ _ _ (@Ae _ _ _ _ Eb))
    Ag)
   (@A5 _ _ _ (Az (PW.pt (T6 (Ao D1 (pv 9) Am (nomark _)) (P3 (Ao D1 (Ah C3 (pv 8) A8) A8 (nomark _)))))
    (@A1 _ _ _ _ _ (Ay (i:=6) sc.nd rfl (Or.inl rfl) C9)
    (@A1 _ _ _ _ _ (Ay (i:=7) sc.nd rfl (Or.inl rfl) C9)
    (@A5 _ _ _ (Ai (Ad Z0h hr rfl Ac (A0 (pv 2) (A0 (Ad Z33 hr rfl Ac (A0 (Ah Dw (pv 8) A8) (A0 (pv 5) A2))) (A0 (pv 3) A2))))))))
    Ag)))))))
  (@A1 _ _ _ _ _ (Ay (i:=10) sc.nd rfl (Or.inl rfl) (Ad Z0h hr rfl Ac (A0 (pv 2) (A0 Am (A0 (pv 3) A2)))))
  (@A1 _ _ _ _ _ (Az (Dm (Dd (Ad Z0i hr rfl Ac (A0 (@Bn _ _ _ _ (A0 Am A2)) (A0 (pv 10) (A0 (pv 6) (A0 (pv 7) (A0 (pv 5) A2))))))))
   (@A5 _ _ _ (@Ae _ _ _ _ Eb))
   Ag)
  (@A5 _ _ _ (@Ae _ _ _ _ (Ml (Ad Z0q hr rfl Ac (A0 (pv 2) (A0 (pv 1) (A0 (pv 6) (A0 (pv 3) A2))))) (Ky (Ad Z42 hr rfl Ac (A0 (pv 3) A2))))))))))))))))),?_⟩
 walk_at "st";walk_at "go"
 obtain ⟨m,hm⟩:∃m:Nat,(m:Int)=1+ns.getD 1 0 % 8:=⟨(1+ns.getD 1 0 % 8).toNat,by omega⟩
 have hm1:1≤m:=by omega
 have hm8:m≤8:=by omega
 rw [← hm];refine ⟨m,rfl,by omega,fun np ys H1 hnp sm1 hny hyl ynd hyn=>?_⟩;clear hm;have hS1:=sm1.seq hS;clear hS sm1 hnp;walk_at "rs";intro d dx hd hdx ne1;refine ⟨dx,A3,fun st as H3 sb3 hD3 stkN has3 hst0 has0=>?_⟩;have hM:=Wo (C1:=Z1) (C2:=Z0) hd hdx sb3 hD3 stkN;clear sb3 hD3 stkN has3 hst0 has0 hd hdx ne1;walk_at "rs";intro tl htl;have hM4:=hM.new htl (o:= .lst []) (.inr ⟨_,A3⟩);have ht4:upd H3 tl (.lst []) tl=some (.lst []):=A3;generalize upd H3 tl (.lst [])=H4 at hM4 ht4 ⊢;clear hM htl;walk_at "rs";have hny4:=hM4.sm _ _ hny;refine ⟨⟨_,SqL.of hny4⟩,?_⟩;rename_i rest hrest;refine Dy (xs:=ys.map V.str) (fun i σ H'=>∃(v4:Option V) (ops:List Op),σ=[some (V.ref a),some (V.ref np),some (V.ref d),some (V.ref tl),v4,none,none,none,none,none,none]∧DkM K Z5 Z1 Z0 Z2 H1 H' d [tl] (m0.run ops) (1+wts ops)∧Lg m0 ops∧Cf H' tl ops∧ops.length=i∧wts ops=4 * i∧(m0.run ops).ts.map (·.1)=ys.take i∧(m0.run ops).on=false) ⟨none,[],rfl,hM4,trivial,J2d ht4,rfl,rfl,by rw [R0];rfl,rfl⟩ (fun i σ H' _ h_=>by obtain ⟨_,_,_,h,_⟩:=h_;exact SqL.of (h.sm _ _ hny)) ?_ ?_
 · clear hrest hM4 ht4 hny4
   rintro i x σ H' hx ⟨v4,ops,rfl,hM,hlg,hT,hol,hws,hts,hon⟩;rw [Fi]at hx
   cases hcx:ys[i]? with
   | none=>rw [hcx]at hx;cases hx
   | some z=>
   rw [hcx]at hx;cases hx;have hzm:=Fo hcx;have hi:i < ys.length:=(Fc.mp hcx).1;have hS':=hM.sm.seq hS1;walk_at "go";have hlV:=hl;have hz8:=(K0 (hyn z hzm)).2;rw [Dh]at hz8
   obtain ⟨c,hc⟩:∃c:Int,ns.getD 2 0 % 10 ^ 30=c:=⟨_,rfl⟩
   have hc0:0≤c:=by rw [← hc];exact Hm _ (by decide)
   have hc1:c≤10 ^ 30:=by rw [← hc];exact Int.le_of_lt (Hh _ (by decide))
   have hn31:(Str.ofString (toString c)).length≤31:=Mf hc0 (by omega)
   have k6:(Str.ofString "thing ").length=6:=by decide+kernel
   have k2:(Str.ofString " 1").length=2:=by decide+kernel
   have htk:ys.take (i+1)=ys.take i++[z]:=by rw [Ri,hcx];rfl
   have hzts:z∉(m0.run ops).ts.map (·.1):=fun h=>by
    rw [hts]at h;have nd2:(ys.take (i+1)).Nodup:=ynd.sublist (RH _ _);rw [htk]at nd2;exact (Hl.mp nd2).2.2 z h z (Fg.mpr rfl) rfl
   have htl:(m0.run ops).ts.length≤20:=by
    have:=congrArg List.length hts;rw [Fa,FV]at this;omega
   refine ⟨by rw [k6];omega,by rw [Cm,k6,sp1];omega,ns,hS',by decide,hl,Pb (by decide) (by decide) (by decide),by decide,?_⟩;rw [hc];refine ⟨Gv hc0 (by omega),by rw [Cm,Cm,k6,sp1];omega,by rw [Cm,Cm,Cm,k6,sp1,k2];omega,tl,.thing (z,c,1),J3o.symm,rfl,ops,[tl],1+wts ops,H1,hM,hlg,⟨hon,hzts,htl,hyn z hzm,hc0,hc1,rfl⟩,J64 (hyn z hzm) hc0 hc1,Fg.mpr rfl,hT,by omega,by omega,fun H2 hk2 hM2 hlg2 hT2=>⟨ops++[.thing (z,c,1)],?_,hlg2,hT2,by rw [Ff,hol];rfl,by rw [E9,hws];show 4 * i+4=_;omega,?_,?_⟩⟩
   · rw [E9,← Rj];exact hM2
   · rw [Cu]
     show ((m0.run ops).ts++[(z,c,(1:Int))]).map (·.1)=_;rw [Ft,hts,htk];rfl
   · rw [Cu];exact hon
 · rintro σ H' ⟨v4,ops,rfl,hM,hlg,hT,hol,hws,hts,hon⟩
   clear hM4 ht4 hny4;subst hrest;walk_at "go";rw [Fa,FU]at hts;rw [Fa]at hol hws;have hS':=hM.sm.seq hS1;refine ⟨ns,hS',by decide,hl,by decide,?_⟩
   obtain ⟨pr,hpr⟩:∃pr:Bool,decide (ns.getD 4 0 % 3=1)=pr:=⟨_,rfl⟩
   rw [hpr];clear hpr;walk_at "rs";intro zs H5 z1 z6 hz sm5;refine ⟨tl,.tower pr zs,rfl,rfl,ops,[tl],1+wts ops,H1,hM.same sm5,hlg,⟨z1,z6,hz⟩,U7 (by omega) z6 hz,Fg.mpr rfl,hT.kp (fun o=>sm5 _ o) (fun c e=>sm5 _ _),by omega,by omega,fun H6 hk6 hM6 hlg6 hT6=>?_⟩
   have hr:m0.run (ops++[.tower pr zs])=⟨(m0.run ops).ts,true,pr,zs,[],g0⟩:=by rw [Cu];rfl
   have hw6:wts (ops++[.tower pr zs])=wts ops+4:=E9
   have hl6:(ops++[Op.tower pr zs]).length=ops.length+1:=by rw [Ff];rfl
   rw [Rj,show wt (.tower pr zs)=4 from rfl,← hw6]at hM6;generalize ops++[.tower pr zs]=ops1 at hr hw6 hl6 hM6 hlg6 hT6;generalize (m0.run ops).ts=ts at hts hr;clear hM hlg hT hon hS' hk6 sm5;walk_at "rs";intro kn hkn;have hM7:=hM6.new hkn (o:= .dK []) (.inl ⟨_,A3⟩);have hk7:upd H6 kn (.dK []) kn=some (.dK []):=A3;have sm7:A9 H6 (upd H6 kn (.dK [])):=A9.new hkn
   have ntk:kn≠tl:=fun e=>by
    obtain ⟨rs,h,_⟩:=hT6;rw [e,h]at hkn;cases hkn
   have hT7:=hT6.kp (fun o=>sm7 _ o) (fun c e=>sm7 _ _);generalize upd H6 kn (.dK [])=H7 at hM7 hk7 sm7 hT7 ⊢;walk_at "rs";intro fr hfr;have hM8:=hM7.new hfr (o:= .dK []) (.inl ⟨_,A3⟩);have hf8:upd H7 fr (.dK []) fr=some (.dK []):=A3;have sm8:A9 H7 (upd H7 fr (.dK [])):=A9.new hfr
   have nft:fr≠tl:=fun e=>by
    obtain ⟨rs,h,_⟩:=hT7;rw [e,h]at hfr;cases hfr
   have nkf:kn≠fr:=A6 hk7 hfr;have hT8:=hT7.kp (fun o=>sm8 _ o) (fun c e=>sm8 _ _);have hk8:=sm8 _ _ hk7;generalize upd H7 fr (.dK [])=H8 at hM8 hf8 sm8 hT8 hk8 ⊢;clear hM6 hM7 hT6 hT7 sm7 sm8 hkn hfr hk7;have hS8:=hM8.sm.seq hS1;walk_at "rs";refine ⟨_,hS8,fun sl hsl=>?_⟩
   obtain ⟨cs,hcs,hcs55⟩:∃cs:List Int,L7 (ns.map V.int) (some 5) (some 60)=cs.map V.int∧cs.length≤55:=by
    obtain ⟨cs,h1,h2,_⟩:=N35.J61 ns 5 60;exact ⟨cs,h1,h2⟩
   rw [hcs]
   have nst:sl≠tl:=fun e=>by
    obtain ⟨rs,h,_⟩:=hT8;rw [e,h]at hsl;cases hsl
   have sm9:A9 H8 (upd H8 sl (.lst (cs.map V.int))):=A9.new hsl;have hs9:upd H8 sl (.lst (cs.map V.int)) sl=some (.lst (cs.map V.int)):=A3;have hM9:=hM8.new hsl (o:= .lst (cs.map V.int)) (.inr ⟨_,hs9⟩);have hT9:=hT8.kp (fun o=>sm9 _ o) (fun c e=>sm9 _ _);have hk9:=sm9 _ _ hk8;have hf9:=sm9 _ _ hf8;generalize upd H8 sl (.lst (cs.map V.int))=H9 at hM9 hT9 hk9 hf9 hs9 sm9 ⊢;clear hM8 hT8 hk8 hf8 sm9 hcs hsl hS8
   have h6:S6 K Z5 Z1 Z0 Z2 H1 H9 d tl sl kn fr [] ops1 (fun _=>[]) 0 pr ys cs:=S6.fresh (ts:=ts) (hM9.perm (by intro c;simp only [Fh,FR,or_false];constructor <;> (rintro (j | j | j | j) <;> simp [j]))) hlg6 hT9 hk9 hf9 nkf nst hs9 hr hts
   clear hM9 hT9 hk9 hf9 hr hlg6 ntk nft nkf hts;refine ⟨⟨_,SqL.of hs9⟩,?_⟩;rename_i rest hrest;refine Dy (xs:=cs.map V.int) (fun i σ H'=>∃(kn fr:Addr) (LL:List Addr) (os:List Op) (vl:Str→List Int) (N:Nat) (v8 v9 v10:Option V),σ=[some (V.ref a),some (V.ref np),some (V.ref d),some (V.ref tl),v4,some (V.bl pr),some (V.ref kn),some (V.ref fr),v8,v9,v10]∧S6 K Z5 Z1 Z0 Z2 H1 H' d tl sl kn fr LL os vl N pr ys cs∧N≤i∧wts os≤36+104 * i∧os.length≤9+10 * i∧1≤os.length) ⟨kn,fr,[],ops1,_,0,none,none,none,rfl,h6,Fe _,by omega,by omega,by omega⟩ (fun i σ H' _ h_=>by obtain ⟨_,_,_,_,_,_,_,_,_,_,h,_⟩:=h_;exact SqL.of h.s) ?_ ?_
   · clear hrest h6 hs9 hw6 hl6 hws hol
     rintro i x σ H' hx ⟨kn,fr,LL,os,vl,N,v8,v9,v10,rfl,h,hNi,hwi,hli,hl1⟩;rw [Fi]at hx
     cases hcx:cs[i]? with
     | none=>rw [hcx]at hx;cases hx
     | some c=>
     rw [hcx]at hx;cases hx;have hi:i < cs.length:=(Fc.mp hcx).1;walk_at "go"
     have hi55:i < 55:=by omega
     refine ⟨ys,SqL.of (h.M.sm _ _ hny),by omega,by omega,fun y hy=>by have:=(K0 (hyn y hy)).2;rw [Dh]at this;exact this,fun b z v H2 hb hz hv0 hv1 sm2 h13=>?_⟩;have h2:=h.same sm2;clear h sm2;have lok:(Ea b z v).ok:=Pt (Py hb) (hyn z hz) hv0 hv1
     have dok:Nn (m0.run os) (.deed b z v):=⟨h2.on,hb,by rw [h2.ts];exact hz,hv0,hv1⟩
     walk_at "rs";refine ⟨tl,.deed b z v,rfl,rfl,os,kn::fr::sl::tl::LL,1+wts os,H1,h2.M,h2.lg,dok,lok,by simp,h2.T,by omega,by omega,fun H3 hk3 hM3 hlg3 hT3=>?_⟩;walk_at "rs";have hlong:=lok.long;refine ⟨by omega,fun p hp=>?_⟩;have sm4:A9 H3 (upd H3 p (.lst ((Txt.split (Ea b z v).txt (Str.ofString " ")).map V.str))):=A9.new hp
     have hw4:upd H3 p (.lst ((Txt.split (Ea b z v).txt (Str.ofString " ")).map V.str)) p=some (.lst ((wd b::(Ea b z v).ws).map V.str)):=by rw [A3,lok.split,J2h]
     generalize upd H3 p (.lst ((Txt.split (Ea b z v).txt (Str.ofString " ")).map V.str))=H4 at sm4 hw4 ⊢
     refine ⟨kn,fr,LL,b,z,v,m0.run os,rfl,rfl,rfl,h2.pr.symm,hb,hw4,vl,N,(h2.k.kp fun c hc o e=>hk3 c (h2.mem (by rcases Fh.mp hc with j | j <;> simp [j])).1 (h2.mem (by rcases Fh.mp hc with j | j <;> simp [j])).2 o e).same sm4,(h2.f.kp (hk3 fr (by simp) fun e=>h2.ntl (by rw [← e];simp))).kp (fun o=>sm4 _ o),by omega,h2.cv,h2.M.np,(h2.M.row h2.on).1,fun j=>?_,h2.nkf,hv0,hv1,fun LL' H5 o mm k4 f4=>?_⟩
     · obtain ⟨u,hu,_⟩:=(hM3.ld p (h2.mem j).1).ex
       rw [hp]at hu;cases hu
     have h5:=h2.deed hb hM3 hlg3 hT3 hk3 sm4 o mm k4 f4
     have nx:=(Cu:m0.run (os++[.deed b z v])=_)
     have hw5:wts (os++[.deed b z v])=wts os+wt (.deed b z v):=E9
     have hl5:(os++[Op.deed b z v]).length=os.length+1:=by rw [Ff];rfl
     have hwt:wt (.deed b z v)≤100:=by cases b <;> first | exact Fe 100 | exact Fl 100 | exact (by decide:4≤100)
     have rl:=(Kw (R:=(m0.run os).R) (g:=(m0.run os).g) h2.cv.lh).2.1;clear hM3 hlg3 hT3 hk3 sm4 hw4 o mm k4 f4 h2 dok;rename_i rest hrest
     by_cases hbr:b= .rest
     · subst hbr
       have et:(Ea .rest z v).txt=Str.ofString "rest":=J63;rw [et]
       have hgl:∀y,(m0.run (os++[.deed .rest z v])).g.l y=false:=fun y=>by
        rw [nx];show (G3 (m0.run os).R (m0.run os).g).l y=false;rw [rl]
       clear nx rl;generalize os++[Op.deed .rest z v]=os1 at h5 hw5 hl5 hgl;subst hrest;walk_at "go"
       refine ⟨ys,os1,kn::fr::sl::tl::LL',LL',1+wts os1,N+1,H1,h5.M,h5.lg,by simp,h5.T,by omega,by omega,hny,by omega,fun y hy=>by have:=(K0 (hyn y hy)).2;rw [Dh]at this;exact this,fun y hy=>by rw [h5.ts];exact hy,h5.on,_,h5.k,by omega,fun c hc=>h5.mem (by rcases Fh.mp hc with j | j <;> simp [j]),fun y=>h5.cv.b y (hgl y),fun H6 hk6 hM6 hlg6 er6 hT6=>?_⟩
       have h7:=h5.more er6 Ka hk6 hM6 hlg6 hT6;have hw7:wts (os1++ys.map Bj)=wts os1:=Ka
       have hl7:(os1++ys.map Bj).length=os1.length+ys.length:=by rw [Ff,Fa]
       clear h5 hk6 hM6 hlg6 er6 hT6 hgl;generalize os1++ys.map Bj=os2 at h7 hw7 hl7 ⊢;walk_at "rs";split
       · rename_i hc13
         walk_at "go";have nst7:=h7.nst
         have ntl7:tl∈kn::fr::sl::tl::LL':=by simp
         intro kn2 hkn2;have sm7:A9 H6 (upd H6 kn2 (.dK [])):=A9.new hkn2;have hk7:upd H6 kn2 (.dK []) kn2=some (.dK []):=A3;have hM7:=h7.M.new hkn2 (o:= .dK []) (.inl ⟨_,A3⟩);have h8:=h7.same sm7;clear h7;generalize upd H6 kn2 (.dK [])=H7 at sm7 hk7 hM7 h8 ⊢;walk_at "rs";intro fr2 hfr2;have sm8:A9 H7 (upd H7 fr2 (.dK [])):=A9.new hfr2;have hf8:upd H7 fr2 (.dK []) fr2=some (.dK []):=A3;have nkf2:kn2≠fr2:=A6 hk7 hfr2
         have hM8:=(hM7.new hfr2 (o:= .dK []) (.inl ⟨_,A3⟩)).sub (ks':=kn2::fr2::sl::tl::[]) (by
          intro c hc;simp only [Fh,FR,or_false]at hc ⊢
          rcases hc with j | j | j | j <;> simp [j])
         have hk8:=sm8 _ _ hk7;have h9:=h8.same sm8;clear h8 hM7;generalize upd H7 fr2 (.dK [])=H8 at sm8 hk8 hf8 hM8 h9 ⊢
         obtain ⟨ts7,hts7,er7⟩:∃ts:List Th,ts.map (·.1)=ys∧(m0.run os2).ts=ts:=⟨_,h9.ts,rfl⟩
         walk_at "rs";intro zs2 H9 z1 z6 hz2 sm9;have hM9:=hM8.same sm9;have h10:=h9.same sm9;have hk9:=sm9 _ _ hk8;have hf9:=sm9 _ _ hf8;clear hM8 h9 hk8 hf8 sm9;refine ⟨tl,.tower pr zs2,rfl,rfl,os2,kn2::fr2::sl::tl::[],1+wts os2,H1,hM9,h10.lg,⟨z1,z6,hz2⟩,U7 (by omega) z6 hz2,by simp,h10.T,by omega,by omega,fun H10 hk10 hM10 hlg10 hT10=>?_⟩
         have ntl2:kn2≠tl∧fr2≠tl:=by
          obtain ⟨rs,e,_⟩:=id h10.T;exact ⟨fun j=>(by rw [j,e]at hk9;cases hk9),fun j=>(by rw [j,e]at hf9;cases hf9)⟩
         have hr:m0.run (os2++[.tower pr zs2])=⟨ts7,true,pr,zs2,[],g0⟩:=by rw [Cu,← er7];rfl
         have hw8:wts (os2++[.tower pr zs2])=wts os2+4:=E9
         have hl8:(os2++[Op.tower pr zs2]).length=os2.length+1:=by rw [Ff];rfl
         rw [Rj,show wt (.tower pr zs2)=4 from rfl,← hw8]at hM10;exact ⟨[],_,_,0,S6.fresh hM10 hlg10 hT10 (hk10 kn2 (by simp) ntl2.1 _ hk9) (hk10 fr2 (by simp) ntl2.2 _ hf9) nkf2 nst7 (hk10 sl (by simp) nst7 _ h10.s) hr hts7,by omega,by omega,by omega,by omega⟩
       · exact ⟨LL',os2,_,N+1,h7,by omega,by omega,by omega,by omega⟩
     · have hnr:=J2i lok hbr
       have h13':¬c % 14=13:=fun e=>hbr (h13 e);clear nx rl;subst hrest;walk_at "go";rw [if_neg hnr];walk_at "rs";rw [if_neg hnr];exact ⟨LL',_,_,N+1,h5,by omega,by omega,by omega,by omega⟩
   · rintro σ H' ⟨kn,fr,LL,os,vl,N,v8,v9,v10,rfl,h,hNi,hwi,hli,hl1⟩
     rw [Fa]at hNi hwi hli;subst hrest;walk_at "go"
     obtain ⟨z,hz⟩:∃z,ys[0]?=some z:=⟨_,Fb (by omega)⟩
     have hzm:=Fo hz;have lok:(Ea .rest z 0).ok:=Pt (Py (.inr (.inr (.inr (.inl rfl))))) (hyn z hzm) (by decide) (by decide)
     have dok:Nn (m0.run os) (.deed .rest z 0):=⟨h.on,.inr (.inr (.inr (.inl rfl))),by rw [h.ts];exact hzm,by decide,by decide⟩
     have et:(Ea .rest z 0).txt=Str.ofString "rest":=J63;refine ⟨tl,.deed .rest z 0,et.symm,rfl,os,kn::fr::sl::tl::LL,1+wts os,H1,h.M,h.lg,dok,lok,by simp,h.T,by omega,by omega,fun H3 hk3 hM3 hlg3 hT3=>?_⟩;walk_at "rs";intro p hp;have sm4:A9 H3 (upd H3 p (.lst [V.str (Str.ofString "rest")])):=A9.new hp;have hw4:upd H3 p (.lst [V.str (Str.ofString "rest")]) p=some (.lst ((wd .rest::(Ea .rest z 0).ws).map V.str)):=A3;generalize upd H3 p (.lst [V.str (Str.ofString "rest")])=H4 at sm4 hw4 ⊢
     refine ⟨kn,fr,LL,.rest,z,0,m0.run os,rfl,rfl,rfl,h.pr.symm,.inr (.inr (.inr (.inl rfl))),hw4,vl,N,(h.k.kp fun c hc o e=>hk3 c (h.mem (by rcases Fh.mp hc with j | j <;> simp [j])).1 (h.mem (by rcases Fh.mp hc with j | j <;> simp [j])).2 o e).same sm4,(h.f.kp (hk3 fr (by simp) fun e=>h.ntl (by rw [← e];simp))).kp (fun o=>sm4 _ o),by omega,h.cv,h.M.np,(h.M.row h.on).1,fun j=>?_,h.nkf,by decide,by decide,fun LL' H5 o mm k4 f4=>?_⟩
     · obtain ⟨u,hu,_⟩:=(hM3.ld p (h.mem j).1).ex
       rw [hp]at hu;cases hu
     have h5:=h.deed (.inr (.inr (.inr (.inl rfl)))) hM3 hlg3 hT3 hk3 sm4 o mm k4 f4
     have nx:=(Cu:m0.run (os++[.deed .rest z 0])=_)
     have hw5:wts (os++[.deed .rest z 0])=wts os+100:=E9
     have hl5:(os++[Op.deed .rest z 0]).length=os.length+1:=by rw [Ff];rfl
     have hgl:∀y,(m0.run (os++[.deed .rest z 0])).g.l y=false:=fun y=>by
      rw [nx];show (G3 (m0.run os).R (m0.run os).g).l y=false;rw [(Kw (R:=(m0.run os).R) (g:=(m0.run os).g) h.cv.lh).2.1]
     clear hM3 hlg3 hT3 hk3 sm4 hw4 o mm k4 f4 h dok nx;generalize os++[Op.deed .rest z 0]=os1 at h5 hw5 hl5 hgl;walk_at "rs"
     refine ⟨ys,os1,kn::fr::sl::tl::LL',LL',1+wts os1,N+1,H1,h5.M,h5.lg,by simp,h5.T,by omega,by omega,hny,by omega,fun y hy=>by have:=(K0 (hyn y hy)).2;rw [Dh]at this;exact this,fun y hy=>by rw [h5.ts];exact hy,h5.on,_,h5.k,by omega,fun c hc=>h5.mem (by rcases Fh.mp hc with j | j <;> simp [j]),fun y=>h5.cv.b y (hgl y),fun H6 hk6 hM6 hlg6 er6 hT6=>?_⟩
     have h7:=h5.more er6 Ka hk6 hM6 hlg6 hT6;have hw7:wts (os1++ys.map Bj)=wts os1:=Ka
     have hl7:(os1++ys.map Bj).length=os1.length+ys.length:=by rw [Ff,Fa]
     clear h5 hk6 hM6 hlg6 er6 hT6 hgl;generalize os1++ys.map Bj=os2 at h7 hw7 hl7 ⊢;refine ⟨os2,h7.T,fun e=>by rw [e,List.length_nil]at hl7;omega,h7.lg,by omega,by omega,fun H'=>q H'⟩
end
theorem J6a{l:W.OpenLaw}{w:World}{K:W.Frag}{h:Heap}{mg:Str→Option Value}{fa f75 xF_thing xF_tower xF_prompt xF_read xF_keep xF_ahead xF_rest xF_store xF_levels xF_found xF_spent xF_again Z2 Z1 Z0 Z5 xanswer_thing xanswer_tower xanswer_prompt xanswer_read xanswer_keep xanswer_ahead xanswer_rest xanswer_store xanswer_levels xanswer_found xanswer_spent xanswer_again Zg Z8:Addr}(X:K.In h)(G:h.Ns mainGlobals mg)(hfa:mg "law"=some (.ref fa))
 {od75 an75:Option Addr} {sl75:Array (Option Value)} {oc75 kV75 dc75 pm75 cd75 ct75:Value}
 (Z7k:Gc K "Stock" Z2) (Z88:Cls K Z2)
 (Z7l:Gc K "Tower" Z1) (Z89:Cls K Z1)
 (Z7c:Gc K "Prompt" Z0) (Z85:Cls K Z0)
 (Z83:Gc K "Desk" Z5) (Z8c:Cls K Z5)
 (Z6i:Gc K "answer_thing" xanswer_thing)
 (Z6j:Gc K "answer_tower" xanswer_tower)
 (Z5m:Gc K "answer_prompt" xanswer_prompt)
 (Z71:Gc K "answer_read" xanswer_read)
 (Z72:Gc K "answer_keep" xanswer_keep)
 (Z6k:Gc K "answer_ahead" xanswer_ahead)
 (Z73:Gc K "answer_rest" xanswer_rest)
 (Z6l:Gc K "answer_store" xanswer_store)
 (Z5n:Gc K "answer_levels" xanswer_levels)
 (Z6m:Gc K "answer_found" xanswer_found)
 (Z6n:Gc K "answer_spent" xanswer_spent)
 (Z6o:Gc K "answer_again" xanswer_again)
 (Z8a:Gc K "FORMS" Zg)
 (Z84:Gc K "ANSWERS" Z8)
 (F0:Gf K "made_of" Z4e)
 (F1:Gf K "is_name" Z4f)
 (F2:Gf K "is_whole" Z49)
 (F3:Gf K "is_within" Z44)
 (F4:Gf K "check_thing" Z36)
 (F5:Gi K Z2 "Stock.__init__" Z3s)
 (F6:Gm K Z2 "names" "Stock.names" Z37)
 (F7:Gf K "check_places" Z2g)
 (F8:Gm K Z2 "thing_of" "Stock.thing_of" Z1w)
 (F9:Gm K Z2 "number_of" "Stock.number_of" Z1h)
 (F10:Gm K Z2 "cost_of" "Stock.cost_of" Z22)
 (F11:Gm K Z2 "room_of" "Stock.room_of" Z23)
 (F12:Gf K "check_sizes" Z38)
 (F13:Gf K "check_rooms" Z39)
 (F14:Gm K Z1 "write" "Tower.write" Z3a)
 (F15:Gm K Z1 "settle" "Tower.settle" Z2h)
 (F16:Gm K Z1 "fall_off" "Tower.fall_off" Z1x)
 (F17:Gm K Z1 "come" "Tower.come" Z3t)
 (F18:Gm K Z1 "levels" "Tower.levels" Z2i)
 (F19:Gm K Z1 "shelf_of" "Tower.shelf_of" Z1y)
 (F20:Gm K Z1 "stored" "Tower.stored" Z2j)
 (F21:Gm K Z1 "fetch" "Tower.fetch" Z3b)
 (F22:Gm K Z1 "read" "Tower.read" Z3u)
 (F23:Gm K Z1 "keep" "Tower.keep" Z3v)
 (F24:Gm K Z1 "ahead" "Tower.ahead" Z3c)
 (F25:Gm K Z1 "rest" "Tower.rest" Z3w)
 (F26:Gm K Z1 "found" "Tower.found" Z3d)
 (F27:Gm K Z1 "spent" "Tower.spent" Z3e)
 (F28:Gi K Z1 "Tower.__init__" Z3x)
 (F29:Gm K Z0 "write" "Tower.write" Z2k)
 (F30:Gm K Z0 "settle" "Prompt.settle" Z24)
 (F31:Gm K Z0 "fall_off" "Tower.fall_off" Z1i)
 (F32:Gm K Z0 "come" "Tower.come" Z3f)
 (F33:Gm K Z0 "levels" "Tower.levels" Z25)
 (F34:Gm K Z0 "shelf_of" "Tower.shelf_of" Z1j)
 (F35:Gm K Z0 "stored" "Tower.stored" Z26)
 (F36:Gm K Z0 "fetch" "Tower.fetch" Z2l)
 (F37:Gm K Z0 "read" "Tower.read" Z3g)
 (F38:Gm K Z0 "keep" "Tower.keep" Z3h)
 (F39:Gm K Z0 "ahead" "Tower.ahead" Z2m)
 (F40:Gm K Z0 "found" "Tower.found" Z2n)
 (F41:Gm K Z0 "spent" "Tower.spent" Z2o)
 (F42:Gi K Z0 "Tower.__init__" Z3i)
 (F43:Gm K Z0 "rest" "Tower.rest" Z3j)
 (F44:Gf K "read_number" Z3k)
 (F45:Gf K "read_name" Z45)
 (F46:Gf K "read_word" Z46)
 (F47:Gf K "kinds_of" Z4a)
 (F48:Gf K "read_line" Z47)
 (F49:Gi K Z5 "Desk.__init__" Z48)
 (F50:Gf K "tower_of" Z4b)
 (F51:Gf K "answer_thing" Z2p)
 (F52:Gf K "answer_again" Z2q)
 (F53:Gf K "answer_tower" Z2r)
 (F54:Gf K "answer_prompt" Z27)
 (F55:Gf K "answer_read" Z3l)
 (F56:Gf K "answer_keep" Z3m)
 (F57:Gf K "answer_ahead" Z2s)
 (F58:Gf K "answer_rest" Z3n)
 (F59:Gf K "answer_store" Z2t)
 (F60:Gf K "answer_levels" Z28)
 (F61:Gf K "answer_found" Z2u)
 (F62:Gf K "answer_spent" Z2v)
 (F63:Gm K Z5 "say" "Desk.say" Z4c)
 (F64:Gf K "answer_or_word" Z1z)
 (F65:Gf K "answers_to" Z3y)
 (F66:Gf K "_law_cell" Z4t)
 (F67:Gf K "_law_names" Z4g)
 (F68:Gf K "_law_line" Z4u)
 (F69:Gf K "_law_value" Z4h)
 (F70:Gf K "_law_said" Z4v)
 (F71:Gf K "_law_answer_holds" Z20)
 (F72:Gf K "_law_all_stored" Z2w)
 (F73:Gf K "_law_tower" Z4i)
 (F74:Gf K "_law_again" Z4j)
 (a75:Gc K "law" f75) (l75:K.lookup f75=some ⟨oc75,od75,.func (W.fnOf "law" "law" (Dg Z3o) (D2 Z3o) (A7 Z3o) .none kV75 dc75 pm75 an75 cd75 ct75),sl75⟩) (c75:W.codeIn K cd75 "law"=true) (k75:W.keepIn K (.ref f75)=true)
 (Zh:W.nsIn K mainGlobals "len"=some none)
 (Z0p:W.nsIn K mainGlobals "isinstance"=some none)
 (Z4n:W.nsIn K mainGlobals "int"=some none)
 (Z76:W.nsIn K mainGlobals "bool"=some none)
 (Z14:W.nsIn K mainGlobals "str"=some none)
 (Z32:W.nsIn K mainGlobals "list"=some none)
 (Z7m:W.nsIn K mainGlobals "all"=some none)
 (Z21:W.nsIn K mainGlobals "range"=some none)
 (Z75:W.nsIn K mainGlobals "sum"=some none)
 (Z2y:W.nsIn K mainGlobals "enumerate"=some none)
 (Z87:W.nsIn K mainGlobals "abs"=some none)
 (Z7n:W.nsIn K mainGlobals "max"=some none)
 (Z7o:W.nsIn K mainGlobals "zip"=some none)
 (Z5y:W.nsIn K mainGlobals "tuple"=some none)
 {Z7w:Tok} (Z3z:W.nsIn K mainGlobals "LETTERS"=some (some (.str "abcdefghijklmnopqrstuvwxyz" Z7w)))
 {Z7x:Tok} (Z40:W.nsIn K mainGlobals "FIGURES"=some (some (.str "0123456789" Z7x)))
 {Z74:Tok} (Z3r:W.nsIn K mainGlobals "MOST_SIGNS"=some (some (.int 8 Z74)))
 {Z6p:Tok} (Z34:W.nsIn K mainGlobals "MOST_THINGS"=some (some (.int 60 Z6p)))
 {Z7d:Tok} (Z43:W.nsIn K mainGlobals "MOST_ROOM"=some (some (.int 1000 Z7d)))
 {Z6q:Tok} (Z35:W.nsIn K mainGlobals "MOST_PLACES"=some (some (.int 1000000 Z6q)))
 {Z5o:Tok} (Z2e:W.nsIn K mainGlobals "MOST_SHELVES"=some (some (.int 6 Z5o)))
 {Z5p:Tok} (Z2f:W.nsIn K mainGlobals "MOST_FIGURES"=some (some (.int 31 Z5p)))
 (Zk:Gn K Z2 "things")
 (Z0j:Gn K Z1 "stock")
 (Zx:Gn K Z1 "sizes")
 (Zs:Gn K Z1 "row")
 (Zt:Gn K Z1 "held")
 (Z01:Gn K Z1 "late")
 (Z0v:Gn K Z1 "store")
 (Z0l:Gn K Z1 "entries")
 (Z0k:Gn K Z1 "finds")
 (Z10:Gn K Z1 "paid")
 (Z0b:Gn K Z0 "stock")
 (Zr:Gn K Z0 "sizes")
 (Zl:Gn K Z0 "row")
 (Zn:Gn K Z0 "held")
 (Z03:Gn K Z0 "late")
 (Z0o:Gn K Z0 "store")
 (Z0d:Gn K Z0 "entries")
 (Z0c:Gn K Z0 "finds")
 (Z0w:Gn K Z0 "paid")
 (Z0e:Gn K Z5 "stock")
 (Z2x:Gn K Z5 "asks")
 (Z0f:Gn K Z5 "tower")
 {Z7e:Array DictEntry} {Z86:Nat} (Z08:K.lookup Zg=some ⟨.type "dict",none,.dict Z7e Z86,#[]⟩) (Z09:W.KeysLit w.params Z7e.toList) (Z0a:(Zg==sysModules)=false)
 (wT0_FORMS:W.nsIn K Zg "thing"=some (some (.ref xF_thing)))
 (wT1_FORMS:W.nsIn K Zg "tower"=some (some (.ref xF_tower)))
 (wT2_FORMS:W.nsIn K Zg "prompt"=some (some (.ref xF_prompt)))
 (wT3_FORMS:W.nsIn K Zg "read"=some (some (.ref xF_read)))
 (wT4_FORMS:W.nsIn K Zg "keep"=some (some (.ref xF_keep)))
 (wT5_FORMS:W.nsIn K Zg "ahead"=some (some (.ref xF_ahead)))
 (wT6_FORMS:W.nsIn K Zg "rest"=some (some (.ref xF_rest)))
 (wT7_FORMS:W.nsIn K Zg "store"=some (some (.ref xF_store)))
 (wT8_FORMS:W.nsIn K Zg "levels"=some (some (.ref xF_levels)))
 (wT9_FORMS:W.nsIn K Zg "found"=some (some (.ref xF_found)))
 (wT10_FORMS:W.nsIn K Zg "spent"=some (some (.ref xF_spent)))
 (wT11_FORMS:W.nsIn K Zg "again"=some (some (.ref xF_again)))
 {Z5q:Array DictEntry} {Z7y:Nat} (Zo:K.lookup Z8=some ⟨.type "dict",none,.dict Z5q Z7y,#[]⟩) (Zp:W.KeysLit w.params Z5q.toList) (Zq:(Z8==sysModules)=false)
 (wT0_ANSWERS:W.nsIn K Z8 "thing"=some (some (.ref xanswer_thing)))
 (wT1_ANSWERS:W.nsIn K Z8 "tower"=some (some (.ref xanswer_tower)))
 (wT2_ANSWERS:W.nsIn K Z8 "prompt"=some (some (.ref xanswer_prompt)))
 (wT3_ANSWERS:W.nsIn K Z8 "read"=some (some (.ref xanswer_read)))
 (wT4_ANSWERS:W.nsIn K Z8 "keep"=some (some (.ref xanswer_keep)))
 (wT5_ANSWERS:W.nsIn K Z8 "ahead"=some (some (.ref xanswer_ahead)))
 (wT6_ANSWERS:W.nsIn K Z8 "rest"=some (some (.ref xanswer_rest)))
 (wT7_ANSWERS:W.nsIn K Z8 "store"=some (some (.ref xanswer_store)))
 (wT8_ANSWERS:W.nsIn K Z8 "levels"=some (some (.ref xanswer_levels)))
 (wT9_ANSWERS:W.nsIn K Z8 "found"=some (some (.ref xanswer_found)))
 (wT10_ANSWERS:W.nsIn K Z8 "spent"=some (some (.ref xanswer_spent)))
 (wT11_ANSWERS:W.nsIn K Z8 "again"=some (some (.ref xanswer_again)))
 {tk0_F_thing tk1_F_thing tk2_F_thing:Tok} {dU_F_thing:Option Addr} {nU_F_thing:Nat} {sU_F_thing:Array (Option Value)} (lU_F_thing:K.lookup xF_thing=some ⟨.type "tuple",dU_F_thing,.seq #[.str "NAME" tk0_F_thing,.str "COST" tk1_F_thing,.str "ROOM" tk2_F_thing] nU_F_thing,sU_F_thing⟩)
 {tk0_F_tower tk1_F_tower:Tok} {dU_F_tower:Option Addr} {nU_F_tower:Nat} {sU_F_tower:Array (Option Value)} (lU_F_tower:K.lookup xF_tower=some ⟨.type "tuple",dU_F_tower,.seq #[.str "SIZE" tk0_F_tower,.str ".." tk1_F_tower] nU_F_tower,sU_F_tower⟩)
 {tk0_F_prompt tk1_F_prompt:Tok} {dU_F_prompt:Option Addr} {nU_F_prompt:Nat} {sU_F_prompt:Array (Option Value)} (lU_F_prompt:K.lookup xF_prompt=some ⟨.type "tuple",dU_F_prompt,.seq #[.str "SIZE" tk0_F_prompt,.str ".." tk1_F_prompt] nU_F_prompt,sU_F_prompt⟩)
 {tk0_F_read:Tok} {dU_F_read:Option Addr} {nU_F_read:Nat} {sU_F_read:Array (Option Value)} (lU_F_read:K.lookup xF_read=some ⟨.type "tuple",dU_F_read,.seq #[.str "NAME" tk0_F_read] nU_F_read,sU_F_read⟩)
 {tk0_F_keep tk1_F_keep:Tok} {dU_F_keep:Option Addr} {nU_F_keep:Nat} {sU_F_keep:Array (Option Value)} (lU_F_keep:K.lookup xF_keep=some ⟨.type "tuple",dU_F_keep,.seq #[.str "NAME" tk0_F_keep,.str "VALUE" tk1_F_keep] nU_F_keep,sU_F_keep⟩)
 {tk0_F_ahead:Tok} {dU_F_ahead:Option Addr} {nU_F_ahead:Nat} {sU_F_ahead:Array (Option Value)} (lU_F_ahead:K.lookup xF_ahead=some ⟨.type "tuple",dU_F_ahead,.seq #[.str "NAME" tk0_F_ahead] nU_F_ahead,sU_F_ahead⟩)
 {dU_F_rest:Option Addr} {nU_F_rest:Nat} {sU_F_rest:Array (Option Value)} (lU_F_rest:K.lookup xF_rest=some ⟨.type "tuple",dU_F_rest,.seq #[] nU_F_rest,sU_F_rest⟩)
 {tk0_F_store:Tok} {dU_F_store:Option Addr} {nU_F_store:Nat} {sU_F_store:Array (Option Value)} (lU_F_store:K.lookup xF_store=some ⟨.type "tuple",dU_F_store,.seq #[.str "NAME" tk0_F_store] nU_F_store,sU_F_store⟩)
 {dU_F_levels:Option Addr} {nU_F_levels:Nat} {sU_F_levels:Array (Option Value)} (lU_F_levels:K.lookup xF_levels=some ⟨.type "tuple",dU_F_levels,.seq #[] nU_F_levels,sU_F_levels⟩)
 {dU_F_found:Option Addr} {nU_F_found:Nat} {sU_F_found:Array (Option Value)} (lU_F_found:K.lookup xF_found=some ⟨.type "tuple",dU_F_found,.seq #[] nU_F_found,sU_F_found⟩)
 {dU_F_spent:Option Addr} {nU_F_spent:Nat} {sU_F_spent:Array (Option Value)} (lU_F_spent:K.lookup xF_spent=some ⟨.type "tuple",dU_F_spent,.seq #[] nU_F_spent,sU_F_spent⟩)
 {dU_F_again:Option Addr} {nU_F_again:Nat} {sU_F_again:Array (Option Value)} (lU_F_again:K.lookup xF_again=some ⟨.type "tuple",dU_F_again,.seq #[] nU_F_again,sU_F_again⟩)
 :∃fd:FuncData,(∀(s:Shared) (v:Value),BindsTo s fd ⟨[v],[]⟩ [("_law_script",v)])∧∀base:Heap,K.In base→base.Ns mainGlobals mg→Ar l.prog w K mg base CX0 14 fa fd ["_law_script"] (My K):=by
 have e:=hfa.symm.trans (W.mg_of X G a75);cases e
 have T:Txt K mg xF_thing xF_tower xF_prompt xF_read xF_keep xF_ahead xF_rest xF_store xF_levels xF_found xF_spent xF_again Z2 Z1 Z0 Z5 xanswer_thing xanswer_tower xanswer_prompt xanswer_read xanswer_keep xanswer_ahead xanswer_rest xanswer_store xanswer_levels xanswer_found xanswer_spent xanswer_again Zg Z8:=⟨W.mg_of X G Z7k,Z88,Zk,W.mg_of X G Z7l,Z89,Z0j,Zx,Zs,Zt,Z01,Z0v,Z0l,Z0k,Z10,W.mg_of X G Z7c,Z85,Z0b,Zr,Zl,Zn,Z03,Z0o,Z0d,Z0c,Z0w,W.mg_of X G Z83,Z8c,Z0e,Z2x,Z0f,W.mg_of X G Z6i,W.mg_of X G Z6j,W.mg_of X G Z5m,W.mg_of X G Z71,W.mg_of X G Z72,W.mg_of X G Z6k,W.mg_of X G Z73,W.mg_of X G Z6l,W.mg_of X G Z5n,W.mg_of X G Z6m,W.mg_of X G Z6n,W.mg_of X G Z6o,W.mg_of X G Z8a,W.mg_of X G Z84,W.mg_none_of X G Zh,W.mg_none_of X G Z0p,W.mg_none_of X G Z4n,W.mg_none_of X G Z76,W.mg_none_of X G Z14,W.mg_none_of X G Z32,W.mg_none_of X G Z7m,W.mg_none_of X G Z21,W.mg_none_of X G Z75,W.mg_none_of X G Z2y,W.mg_none_of X G Z87,W.mg_none_of X G Z7n,W.mg_none_of X G Z7o,W.mg_none_of X G Z5y,⟨_,W.mg_of X G Z3z⟩,⟨_,W.mg_of X G Z40⟩,⟨_,W.mg_of X G Z3r⟩,⟨_,W.mg_of X G Z34⟩,⟨_,W.mg_of X G Z43⟩,⟨_,W.mg_of X G Z35⟩,⟨_,W.mg_of X G Z2e⟩,⟨_,W.mg_of X G Z2f⟩⟩
 have F75:=Pa (st:=Z3o) l75 c75 k75;refine ⟨W.fnOf "law" "law" (Dg Z3o) (D2 Z3o) (A7 Z3o) .none kV75 dc75 pm75 an75 cd75 ct75,fun s v=> .of_eq rfl,fun base _ _=>?_⟩
 have B:Bs l.prog w K mg base:=⟨h,X,G⟩
 have Z11:=F0.d B (Z7p T);have Z12:=F1.d B (Z7q T Z11);have Z3p:=F2.d B (Z7f T);have Zd:=F3.d B (Z77 T Z3p);have Z1k:=F4.d B (Z5z T Z12 Zd);have Z0g:=F5.i B Z7k (Z6u T Z1k);have Zi:=F6.m B (Z60 T);have Z15:=F7.d B (Z55 T Zd);have Zb:=F8.m B (Z4o T);have Z7:=F9.m B (Z4k T Zb);have Ze:=F10.m B (Z4w T Zb);have Zu:=F11.m B (Z4x T Zb);have Z04:=F12.d B (Z61 T Z15);have Z05:=F13.d B (Z62 T Zu);have Z06:=F14.m B (Z63 T);have Z16:=F15.m B (Z56 T);have Z0s:=F16.m B (Z4p T Z06);have Zm:=F17.m B (Z6v T Z0s);have Zy:=F18.m B (Z57 T);have Zc:=F19.m B (Z4q T Z7 Zy);have Zz:=F20.m B (Z58 T Z7);have Z07:=F21.m B (Z64 T Ze Zz);have Z29:=F22.m B (Z6w T Zm Zc Z07);have Z2a:=F23.m B (Z6x T Zd Z16 Zm Zc);have Z1l:=F24.m B (Z65 T Zm Zc Z07);have Z2b:=F25.m B (Z6y T Z06);have Z1m:=F26.m B (Z66 T);have Z1n:=F27.m B (Z67 T);have Z2c:=F28.i B Z7l (Z6z T Zi Z04 Z05);have Zf:=F29.m B (Z59 T);have Z0x:=F30.m B (Z4y T Zf)
 have Z0n:=F31.m B (Z4l T Zf);have Zj:=F32.m B (Z68 T Z0n);have Zv:=F33.m B (Z4z T);have Z9:=F34.m B (Z4m T Z7 Zv);have Zw:=F35.m B (Z50 T Z7);have Z00:=F36.m B (Z5a T Ze Zw);have Z1o:=F37.m B (Z69 T Zj Z9 Z00);have Z1p:=F38.m B (Z6a T Zd Z0x Zj Z9);have Z17:=F39.m B (Z5b T Zj Z9 Z00);have Z18:=F40.m B (Z5c T);have Z19:=F41.m B (Z5d T);have Z1q:=F42.i B Z7c (Z6b T Zi Z04 Z05);have Z1r:=F43.m B (Z6c T Zf);have Z1s:=F44.d B (Z6d T Z11);have Z2z:=F45.d B (Z78 T Z12);have Z30:=F46.d B (Z79 T Z1s Z2z);have Z3q:=F47.d B (Z7g T)
 have Z6e:∀b,U2 w.params K Zg b:=fun b=>match b with | .thing=>D3 Z0a Z08 Z09 wT0_FORMS lU_F_thing (.cons ⟨_,rfl⟩ (.cons ⟨_,rfl⟩ (.cons ⟨_,rfl⟩ .nil))) | .tower=>D3 Z0a Z08 Z09 wT1_FORMS lU_F_tower (.cons ⟨_,rfl⟩ (.cons ⟨_,rfl⟩ .nil)) | .prompt=>D3 Z0a Z08 Z09 wT2_FORMS lU_F_prompt (.cons ⟨_,rfl⟩ (.cons ⟨_,rfl⟩ .nil)) | .read=>D3 Z0a Z08 Z09 wT3_FORMS lU_F_read (.cons ⟨_,rfl⟩ .nil) | .keep=>D3 Z0a Z08 Z09 wT4_FORMS lU_F_keep (.cons ⟨_,rfl⟩ (.cons ⟨_,rfl⟩ .nil)) | .ahead=>D3 Z0a Z08 Z09 wT5_FORMS lU_F_ahead (.cons ⟨_,rfl⟩ .nil) | .rest=>D3 Z0a Z08 Z09 wT6_FORMS lU_F_rest .nil | .store=>D3 Z0a Z08 Z09 wT7_FORMS lU_F_store (.cons ⟨_,rfl⟩ .nil) | .levels=>D3 Z0a Z08 Z09 wT8_FORMS lU_F_levels .nil | .found=>D3 Z0a Z08 Z09 wT9_FORMS lU_F_found .nil | .spent=>D3 Z0a Z08 Z09 wT10_FORMS lU_F_spent .nil | .again=>D3 Z0a Z08 Z09 wT11_FORMS lU_F_again .nil
 have Z31:=F48.d B (fun F_=>Z7a T Z30 Z3q F_ Z6e);have Z0m:=F49.i B Z83 (Z7b T Z0g);have Z6:=F50.d B (Z7h T);have Z1a:=F51.d B (Z5e T Z0g Zi Ze Zu);have Z1b:=F52.d B (Z5f T);have Z1c:=F53.d B (Z5g T Z2c);have Z0y:=F54.d B (Z51 T Z1q);have Z1t:=F55.d B (Z6f T Z29 Z1o Z6);have Z1u:=F56.d B (Z6g T Z2a Z1p Z6);have Z1d:=F57.d B (Z5h T Z1l Z17 Z6);have Z1v:=F58.d B (Z6h T Z2b Z1r Z6);have Z1e:=F59.d B (Z5i T Zz Zw Z6);have Z0z:=F60.d B (Z52 T Zy Zv Z6);have Z1f:=F61.d B (Z5j T Z1m Z18 Z6);have Z1g:=F62.d B (Z5k T Z1n Z19 Z6)
 have Z7r:∀b,Sw w.params K Z8 (wd b) (some (.ref ((fun w:W85=>match w with | .thing=>xanswer_thing | .tower=>xanswer_tower | .prompt=>xanswer_prompt | .read=>xanswer_read | .keep=>xanswer_keep | .ahead=>xanswer_ahead | .rest=>xanswer_rest | .store=>xanswer_store | .levels=>xanswer_levels | .found=>xanswer_found | .spent=>xanswer_spent | .again=>xanswer_again) b))):=fun b=>match b with | .thing=>Cy Zq Zo Zp wT0_ANSWERS ⟨_,rfl,rfl⟩ | .tower=>Cy Zq Zo Zp wT1_ANSWERS ⟨_,rfl,rfl⟩ | .prompt=>Cy Zq Zo Zp wT2_ANSWERS ⟨_,rfl,rfl⟩ | .read=>Cy Zq Zo Zp wT3_ANSWERS ⟨_,rfl,rfl⟩ | .keep=>Cy Zq Zo Zp wT4_ANSWERS ⟨_,rfl,rfl⟩ | .ahead=>Cy Zq Zo Zp wT5_ANSWERS ⟨_,rfl,rfl⟩ | .rest=>Cy Zq Zo Zp wT6_ANSWERS ⟨_,rfl,rfl⟩ | .store=>Cy Zq Zo Zp wT7_ANSWERS ⟨_,rfl,rfl⟩ | .levels=>Cy Zq Zo Zp wT8_ANSWERS ⟨_,rfl,rfl⟩ | .found=>Cy Zq Zo Zp wT9_ANSWERS ⟨_,rfl,rfl⟩ | .spent=>Cy Zq Zo Zp wT10_ANSWERS ⟨_,rfl,rfl⟩ | .again=>Cy Zq Zo Zp wT11_ANSWERS ⟨_,rfl,rfl⟩
 have Z0t:=F63.m B (fun F_=>Z7i T Z31 Z1a Z1b Z1c Z0y Z1t Z1u Z1d Z1v Z1e Z0z Z1f Z1g F_ Z7r);have Z0u:=F64.d B (Z4r T Z0t);have Z2d:=F65.d B (Z70 T Z0m Z0u);have Z13:=F66.d B (Z80 T);have Z41:=F67.d B (Z7s T);have Z4d:=F68.d B (Z81 T);have Z0r:=F69.d B (Z7t T);have Z0h:=F70.d B (Z82 T Z0t);have Z0i:=F71.d B (Z4s T Z0r);have Z0q:=F72.d B (Z5l T Z0r Z0h);have Z33:=F73.d B (Z7u T);have Z42:=F74.d B (Z7v T Z2d);exact Z8b T Z0m Z13 Z41 Z4d Z0h Z0i Z0q Z33 Z42 F75
end K96
open PySem PySem.W PyProof.Rows
set_option maxRecDepth 100000 in
set_option maxHeartbeats 0 in
theorem PySem.Challenge.cw_castoff_k96_whole_values_by_lines_holds : PySem.Challenge.rw_castoff_k96_whole_values_by_lines.Holds := by
 refine hd96 ?_
 k_fill
 refine L2.Yk (l:=PySem.Challenge.rw_castoff_k96_whole_values_by_lines) (n:=63) (k:=14) (x:="_law_script") (CX:=L2.CX0) (sp:=N1.My) rfl (by decide) rfl ⟨rfl,by decide,by decide⟩ (fun w h Y=>Hk.inT_of Y) ?F ?S ?C
 case F=>
  intro w mg fa h KX G hmg;refine' K96.J6a KX G hmg ..
  any_goals first | k_is | (refine' ⟨_,_,?j,L2.Pa ?l ?c ?k⟩;(case j=>k_is);case l|c|k=>k_is) | (refine' ⟨_,_,⟨?j,?m,?n⟩,L2.Pa ?l ?c ?k⟩;(case j|m|n=>k_is);case l|c|k=>k_is) | (refine' ⟨_,_,⟨?i,?j,?m,?n⟩,L2.Pa ?l ?c ?k⟩;(case i|j|m|n=>k_is);case l|c|k=>k_is) | (refine' ⟨?i,?j,?m,?n⟩;case i|j|m|n=>k_is) | rfl | kernel_rfl | exact ⟨⟨_,_,rfl,rfl⟩,⟨_,_,rfl,rfl⟩,⟨_,_,rfl,rfl⟩,⟨_,_,rfl,rfl⟩,⟨_,_,rfl,rfl⟩,⟨_,_,rfl,rfl⟩,⟨_,_,rfl,rfl⟩,⟨_,_,rfl,rfl⟩,⟨_,_,rfl,rfl⟩,⟨_,_,rfl,rfl⟩,⟨_,_,rfl,rfl⟩,⟨_,_,rfl,rfl⟩,⟨_,_,rfl,rfl⟩,⟨_,_,rfl,rfl⟩,⟨_,_,rfl,rfl⟩,⟨_,_,rfl,rfl⟩,⟨_,_,rfl,rfl⟩,⟨_,_,rfl,rfl⟩,⟨_,_,rfl,rfl⟩,⟨_,_,rfl,rfl⟩,⟨_,_,rfl,rfl⟩,trivial⟩ | fail
 case S=>exact fun K H a ns hl hO hS=>⟨a,ns,rfl,hS,hl,fun _=>rfl⟩
 case C=>exact fun H s e s' z=>z
