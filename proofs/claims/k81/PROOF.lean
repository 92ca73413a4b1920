import PyProof.Rows.All
import KE.KSuperObj
import KE.KPairComp
import KE.KLam
import KE.KNestM
import KE.KItemsList
import KE.KUnpack
import KE.KEqDict
import KE.KFromBytes
import KE.KMinKey
import KE.KIntText
import KE.KRevIter
import KE.KDictOf
import KE.KTryMore
import KE.KBoundM
import PySem.Challenge.RW_castoff_k81_things_and_asks
set_option linter.all false
set_option compiler.extract_closed false
set_option genSizeOf false
set_option Elab.async false
set_option maxRecDepth 100000
set_option maxHeartbeats 4000000
namespace PySem.W.Fast
def tw44526843737143056:=0
def tw13082821367561929514:=0
def tw4605224352525079469:=0
def tw15666046459191406141:=0
def tw18101003695043465846:=0
def tw12909081728290272624:=0
def tw18353733921328244829:=0
def tw14787805836655263905:=0
def tw10479231893954392175:=0
def tw17445168146823923169:=0
def tw12433620263082192781:=0
def tw12798037405497680560:=0
def tw17132886760076991015:=0
def tw14482559178484198947:=0
def tw5501648527507076414:=0
def tw14833911989750575725:=0
def tw10940556511696813240:=0
def tw1140311195905976545:=0
def tw9626243278726034196:=0
def tw1999676451785182175:=0
def tw14031100151021351506:=0
def tw11569542583831137785:=0
def tw5187807116136220845:=0
def tw5057747795346635369:=0
def tw9363801943368500827:=0
def tw15013699122048260031:=0
def tw4251672903057680540:=0
def tw16217083656853366154:=0
def tw8721756722170833776:=0
def tw1885029143311931449:=0
def tw14633933033707408738:=0
def tw238337647504159859:=0
def tw9028900979960737013:=0
def tw8474418936133872803:=0
def tw5642880202578235597:=0
def tw13909506039703815929:=0
def tw16487215627821533717:=0
def tw5030801020338839737:=0
def tw6040137874444457387:=0
def tw14017939208329492767:=0
def tw14203529833066332948:=0
def tw9801715161163572832:=0
def tw6527450118238789858:=0
def tw12414133540853922103:=0
def tw12742383759014072266:=0
def tw13831771750532081976:=0
def tw16906304694390280019:=0
def tw7877893299991583640:=0
def tw13753842922916787420:=0
def tw17487744626470981640:=0
def tw2573564757309110696:=0
def tw14562969270826559842:=0
def tw10216423845559864776:=0
def tw6590419656665204933:=0
def tw6390200974161089840:=0
def tw17974021277135769200:=0
def tw2631842776105348164:=0
def tw3436531984099126404:=0
def tw13870966397629319134:=0
def tw15518735532015457185:=0
def tw7399641896284761304:=0
def tw3390333496058585488:=0
def tw12266374231161382757:=0
def tw14887872437220378963:=0
def tw2946230054687146341:=0
def tw15789485945038831089:=0
def tw5964513638818813366:=0
def tw6985306983135139648:=0
def tw11033079181393118843:=0
def tw13901893472476207869:=0
def tw943652608434797411:=0
def tw18009020945081967008:=0
def tw3222409100582638504:=0
def tw1762647977235791957:=0
def tw7346876814889635709:=0
def tw11084303465480673551:=0
def tw498252031222241067:=0
def tw2731172329506830586:=0
def tw137472834858791560:=0
def tw11325614698089361018:=0
def tw453172520619522156:=0
def tw10269160501264483874:=0
def tw8869992079264465919:=0
def tw9051681804963976895:=0
def tw6432005085749653667:=0
def tw14051056969181277084:=0
def tw14071897393026739273:=0
def tw11161989692572089084:=0
def tw12218956295138584295:=0
def tw2274421866063276796:=0
def tw17717434776575344573:=0
def tw11565970909582700045:=0
def tw5249174340575555923:=0
def tw13748037729806664859:=0
def tw11071625366457873331:=0
def tw4961535663764191398:=0
def tw13716480262787891243:=0
def tw13191447734651841:=0
def tw11533336502669760091:=0
def tw9836777569825567830:=0
def tw11858937512202461830:=0
def tw939148075966387194:=0
def tw6137418504036266034:=0
def tw9986802711205338830:=0
def tw1280162945279820234:=0
def tw12532680535710261635:=0
def tw1645106609184365760:=0
def tw17055969987667211113:=0
def tw197704697350937235:=0
def tw14583454344424365550:=0
def tw3366648854606495529:=0
def tw3562220381558664524:=0
def tw12581776904078612563:=0
def tw3771327898343875627:=0
def tw16430316784165029215:=0
def tw13732458639416697569:=0
def tw7381774265975927363:=0
def tw6975136451928837280:=0
def tw3050941554461473200:=0
def tw4423064130501428773:=0
def tw8734334993891118544:=0
def tw13822812369031223743:=0
def tw15405440352096869989:=0
def tw11402046064189179183:=0
def tw12948676568902572764:=0
def tw12659485574655434364:=0
def tw10753368370291086420:=0
def tw3187305255759419117:=0
def tw8132558210240393878:=0
def tw3013989689606998530:=0
def tw7170174933243120259:=0
def tw5810325547173978681:=0
def tw8616181957093561767:=0
def tw646627936380098565:=0
def tw10394091454565652652:=0
def tw2552256549926228130:=0
def tw2922656433805350997:=0
def tw8578087448631727214:=0
def tw16600586430726961377:=0
def tw5275030724122273208:=0
def tw161069964333051865:=0
def tw6276967931164948552:=0
def tw2781622695239634068:=0
def tw12451064884085146093:=0
def tw6212725542208341561:=0
def tw5179600461488057228:=0
def tw7094282015336424185:=0
def tw12486323858053093780:=0
def tw6764150383618506549:=0
def tw13550360256170789169:=0
def tw17848719854888439112:=0
def tw8100560115239610962:=0
def tw8522685724571562227:=0
def tw4150279995565309758:=0
def tw5261042043757437654:=0
def tw15306593906478148917:=0
def tw16327742371512077385:=0
def tw13079284204708195517:=0
def tw12934245408694789201:=0
def tw17430310474509611399:=0
def tw16882032530982733187:=0
def tw16323985820016192520:=0
def tw5461437269898061944:=0
def tw9267229833859914982:=0
def tw5393954411572909089:=0
def tw1183463380645142019:=0
def tw18333136035928318917:=0
def tw4477209693188362091:=0
def tw17796759966728528648:=0
def tw965202981308822587:=0
def tw15190813285592941034:=0
def tw16901796770072972506:=0
def tw7210559224756326334:=0
def tw4043153132130471759:=0
def tw16650405271368358861:=0
def tw3735028658360989989:=0
def tw10990517615704962629:=0
def tw5678145943230289423:=0
def tw12467826752802331453:=0
def tw5215853819082203008:=0
def tw6643528200782639519:=0
def tw6127142696008306340:=0
def tw6282392095227971288:=0
def tw6621248882944547273:=0
def tw13039917794262772859:=0
def tw11922800118771413515:=0
def tw6466161024902344347:=0
def tw3636929338492549622:=0
def tw17720811873739724710:=0
def tw8541390206661805037:=0
def tw1452278312649522950:=0
def tw6431874641306135095:=0
def tw8267216979819506290:=0
def tw8540588173918993858:=0
def tw1161779766522246893:=0
def tw1968999898114809891:=0
def tw3183487042325300239:=0
def tw4112719927288613253:=0
def tw12374946681987747114:=0
def tw16892257180756799479:=0
def tw17655135498976640361:=0
def tw301877618156583629:=0
def tw14888155548442708933:=0
def tw11825028124450727256:=0
def tw11350755422738716949:=0
def tw12487023910250552123:=0
def tw14794227530724001862:=0
def tw10977648891848503133:=0
def tw3187931438871049358:=0
def tw12700984042213116066:=0
def tw17645029426821712436:=0
def tw9656268094566464779:=0
def tw11134732389862329296:=0
def tw11389532532750949724:=0
def tw16605231238183295820:=0
def tw16844777488936028898:=0
def tw3352825487263691987:=0
def tw6598276007097503179:=0
def tw4424274431395474055:=0
def tw6114455896855848381:=0
def tw6623397777008772114:=0
def tw6170561491161639917:=0
def tw3257444962511353498:=0
def tw13113167152663815590:=0
def tw6372688876363625178:=0
def tw11664672549071977955:=0
def tw16563502940978748400:=0
def tw16550831225427015682:=0
def tw1253446614608202370:=0
def tw4023418260404522246:=0
def tw10037464527458170030:=0
def tw18162592058583272805:=0
def tw11745192235943813982:=0
def tw7480155387615008270:=0
def tw5220284526038418829:=0
def tw9706707842601371735:=0
def tw1589725882142207138:=0
def tw7276522927636971601:=0
def tw3209752865267557675:=0
def tw14710686517241498927:=0
def tw10853541562695927057:=0
def tw6637571854676955143:=0
def tw13077093964120206389:=0
def tw705385633349305607:=0
def tw12896606273344671643:=0
def tw6611251567810490524:=0
def tw5368639584813342186:=0
def tw10949780645166531300:=0
def tw17091606734424659509:=0
def tw6225996949813460677:=0
def tw1533076220633723491:=0
def tw434746117665995188:=0
def tw6222301298358138496:=0
def tw5980095382970434532:=0
def tw9604213303638687349:=0
def tw13269690820280977250:=0
def tw1661320840129352941:=0
def tw13434265434119632216:=0
def tw13459812895695448898:=0
def tw9665029882527852072:=0
def tw3393546447093636660:=0
def tw15879470536981896647:=0
def tw14002104181662999152:=0
def tw6924673777695264764:=0
def tw12380076615815288307:=0
def tw14960967606737141180:=0
def tw2920015915453359700:=0
def tw9888172708929688825:=0
def tw4415793365438894713:=0
def tw8768464302183861354:=0
def tw8226239829041462856:=0
def tw134664159653141336:=0
def tw9570289045688806086:=0
def tw16066020260319384123:=0
def tw5538680220296552353:=0
def tw17087496862228537788:=0
def tw12775303255079289887:=0
def tw9496741784729124138:=0
def tw13877809679482003053:=0
def tw1985431351168914220:=0
def tw6745555065093850868:=0
def tw469614136029209877:=0
def tw8315196357371059137:=0
def tw15632738026758264841:=0
def tw17624324443400467190:=0
def tw4463448376440391408:=0
def tw9853140540465593939:=0
def tw13168884884296961440:=0
def tw17607514847214109156:=0
def tw8404801493987586433:=0
def tw150440322310801173:=0
def tw3732170098409766463:=0
def tw1145806758929731197:=0
def tw15117343320686739027:=0
def tw12696097911802600678:=0
def tw11782685949702761057:=0
def tw5303487065307641446:=0
def tw17850468900795299220:=0
def tw14899284302995760164:=0
def tw5460672873744240482:=0
def tw9491139722917151247:=0
def tw10114251909430195492:=0
def tw17421589637862944505:=0
def tw16150574094642474756:=0
def tw6171264152311132587:=0
def tw8251140463268587681:=0
def tw17894774046857648974:=0
def tw1957078099483208600:=0
def tw8359727292347733638:=0
def tw7770942972289912886:=0
def tw15981853811645618677:=0
def tw9603468637688356818:=0
def tw12514366815355431739:=0
def tw12628922389571145071:=0
def tw9837944635119206376:=0
def tw18203564884892809715:=0
def tw4792491369623515457:=0
def tw11757564853762927037:=0
def tw2231851702589273103:=0
def tw10696857273970044053:=0
def tw10458625417519716990:=0
def tw5796151554647333226:=0
def tw2454866726345799350:=0
def tw9145405260646136845:=0
def tw1535526689594798530:=0
def tw15778357447700015064:=0
def tw10814966551138611251:=0
def tw16524199694843618282:=0
def tw9705789753324510017:=0
def tw14415501223048548641:=0
def tw1948835433246343657:=0
def tw2944657548477013274:=0
def tw9952221889193114222:=0
def tw529353181553318542:=0
def tw15213113851339547038:=0
def tw6318098710139721467:=0
def tw3233803178504412183:=0
def tw13997315185638733804:=0
def tw7742728443149757848:=0
def tw5947421885485694434:=0
def tw5575645679726925042:=0
def tw13468818216873741661:=0
def tw9539135832883947512:=0
def tw1819874003788299557:=0
def tw7118336092624965844:=0
def tw13564457107693449933:=0
def tw15053458710676268738:=0
def tw1685735606631645791:=0
def tw14089744692894600147:=0
def tw17871637841697926894:=0
def tw6922725646893335690:=0
def tw11532327256594757703:=0
def tw5239745397340161874:=0
def tw11540610427047462942:=0
def tw7593197565536615738:=0
def tw16531099675602370618:=0
def tw5729412227009373585:=0
def tw11548224981212671932:=0
def tw1759238847592876681:=0
def tw7193062984333992768:=0
def tw9943501465198728446:=0
def tw8395138441417913477:=0
def tw10475072872712154967:=0
def tw2619187488641040940:=0
def tw1734231321316456077:=0
def tw16088401436261850418:=0
def tw8513457234931636415:=0
def tw3251150464045714425:=0
def tw6713122853084889549:=0
def tw18315545662069953866:=0
def tw639188668767131709:=0
def tw4379417939650332269:=0
def tw13491092590987707862:=0
def tw4870127986458899198:=0
def tw7263140661050027816:=0
def tw13734963910889098408:=0
def tw8022686944680854633:=0
def tw5841699980614012779:=0
def tw4043556456900544789:=0
def tw13568181448426153008:=0
def tw4705746536347560369:=0
def tw12159048775005075223:=0
def tw2976491073661666188:=0
def tw7407790498406397224:=0
def tw1532536971756310224:=0
def tw7271267603990490500:=0
def tw493373059010196996:=0
def tw8793013006399051920:=0
def tw10689546066001256385:=0
def tw17896665193061719743:=0
def tw17078098063126618051:=0
def tw11809409836258834878:=0
def tw14715097915525338545:=0
def tw16806621836635341980:=0
def tw15265539033148932196:=0
def tw18202729114522425418:=0
def tw17707672326267984637:=0
def tw415238034879438315:=0
def tw5695523858165088696:=0
def tw9024744123075741083:=0
def tw2935948130655545008:=0
def tw17220827760478102470:=0
def tw11855286023415418197:=0
def tw1116583072787396966:=0
def tw849074153531555390:=0
def tw5330369202287071111:=0
def tw3522737940401793228:=0
def tw2133184975505648257:=0
def tw5150543830682440025:=0
def tw5644756006229038134:=0
def tw16884833116444583804:=0
def tw8799831207909920773:=0
def tw18292648220821735611:=0
def tw2808706464195087744:=0
def tw16083784432286237277:=0
def tw12706631313523529428:=0
def tw11340075054293335900:=0
def tw17852243560194135713:=0
def tw15342235100210952564:=0
def tw6318038948254294096:=0
def tw1579443395430670811:=0
def tw2658003993059620480:=0
def tw4526466912562190871:=0
def tw14656206627673528966:=0
def tw17247127843801992450:=0
def tw11632811150908169892:=0
def tw14043280230775139177:=0
def tw17394052359437375142:=0
def tw13723379044129618441:=0
def tw12068215774408716621:=0
def tw17212949661979281144:=0
def tw8259255207768074099:=0
def tw10074301535403620888:=0
def tw17738993955184561661:=0
def tw9479080911972595243:=0
def tw17739139550339455276:=0
def tw220609249802538442:=0
def tw12332290849589575244:=0
def tw2914523226244335334:=0
def tw134867794532074491:=0
def tw6390203384630102244:=0
def tw3761730875082612778:=0
def tw7926949347217373234:=0
def tw13104381830959310204:=0
def tw8004898670229139339:=0
def tw10265549920085983101:=0
def tw5430201531093049944:=0
def tw1952985710539234188:=0
def tw11971724672808249939:=0
def tw3346422673030167681:=0
def tw13432350617040885856:=0
def tw8770578112919633287:=0
def tw13682210267830539859:=0
def tw8232050920901007788:=0
def tw10666055163963709024:=0
def tw1269933922752201432:=0
def tw12829091499101667170:=0
def tw11604706419980597121:=0
def tw14814751747587461083:=0
def tw3132531733751078078:=0
def tw14897651390153894405:=0
def tw17251481829820659314:=0
def tw8879968703364480888:=0
def tw7066557560698921633:=0
def tw2338954487483936204:=0
def tw3294336990175840881:=0
def tw3289843109139404972:=0
def tw833498686053063730:=0
def tw16800549594844097078:=0
def tw5967864453345830661:=0
def tw951320276956872991:=0
def tw6495512439110559413:=0
def tw7281526703620727636:=0
def tw7111097230473039966:=0
def tw14454235766639067103:=0
def tw1421979199458886062:=0
def tw12902400524400959803:=0
def tw15248023655084652131:=0
def tw102423640331170653:=0
def tw7806117460654899098:=0
def tw5536681511266095402:=0
def tw13522776964043873881:=0
def tw6646180564101398267:=0
def tw5153839009504050669:=0
def tw16880482196006915729:=0
def tw2443986124859099290:=0
def tw8668275027606987730:=0
def tw2095540125615510002:=0
def tw16770667578321433811:=0
def tw14028140100047978122:=0
def tw9722691908389001389:=0
def tw7309710388522399884:=0
def tw11258244490074254605:=0
def tw13082184771010814377:=0
def tw2899587226325659191:=0
def tw15583042949700468501:=0
def tw2527847347648266905:=0
def tw15146698702508696920:=0
def tw3508760151754379170:=0
def tw12553764307010209526:=0
def tw5745949703429215939:=0
def tw16082422630708444985:=0
def tw13840887810734657777:=0
def tw7223775370094660526:=0
def tw11280329185417620453:=0
def tw8842053843424885503:=0
def tw1395435446164195604:=0
def tw2551435649555182052:=0
def tw15838361609096847613:=0
def tw803153567883796653:=0
def tw18100924217863889794:=0
def tw5602988859239082348:=0
def tw7994882322836805518:=0
def tw15652289358371735768:=0
def tw6475173978568613810:=0
def tw17781677081649659453:=0
def tw15899725760961397619:=0
def tw6831068773364892721:=0
def tw11872733169230146396:=0
def tw890109683742042568:=0
def tw8904465872770702458:=0
def tw11877320501383971824:=0
def tw9107813241304332905:=0
def tw6704275926699757219:=0
def tw826706188773468861:=0
def tw1237366362963796804:=0
def tw3895204186487230690:=0
def tw9791458581979339702:=0
def tw15250492635360186496:=0
def tw802396911850807989:=0
def tw6447589092706651811:=0
def tw17902593251242257267:=0
def tw10269710158189860009:=0
def tw12771807818000793954:=0
def tw3447241366844812288:=0
def tw9520974548915222775:=0
def tw11452929022663464894:=0
def tw5932183962046670479:=0
def tw13257817645977547287:=0
def tw13732348124321695613:=0
def tw4691868007216877489:=0
def tw8405550775525696850:=0
def tw1183571264733693010:=0
def tw3555321485739333585:=0
def tw8514872637403065031:=0
def tw16097082050098014168:=0
def tw18436607655305598436:=0
def tw10817790641174996607:=0
def tw15944349867398960453:=0
def tw13468275690649156802:=0
def tw1928613677450381692:=0
def tw5162521417900705124:=0
def tw13827770098379872061:=0
def tw14465285138901819536:=0
def tw6936761802638515186:=0
def tw11043123786157889516:=0
def tw9236052924550278596:=0
def tw1529542808132264036:=0
def tw2768935579794449745:=0
def tw16708969200077407704:=0
def tw561312015940402894:=0
def tw349739674641902143:=0
def tw2845801312235451336:=0
def tw17493924154253644971:=0
def tw5499663955201427713:=0
def tw5066626847775588044:=0
def tw5407248285015047817:=0
def tw7197157852669440657:=0
def tw110847163976158160:=0
def tw6175030333426144096:=0
def tw18011440287111731691:=0
def tw14935395792764375995:=0
def tw16334554922778671034:=0
def tw3569544757534800048:=0
def tw10913100042188072598:=0
def tw17218585122062894814:=0
def tw13325496428917346207:=0
def tw7900122981823210585:=0
def tw8534321368912767269:=0
def tw5916257953378609826:=0
def tw9973617420335089340:=0
def tw10257723862875089014:=0
def tw14038031056289998503:=0
def tw4061023094556007992:=0
def tw14255469107989639345:=0
def tw17886511441427212916:=0
def tw2641466622493289849:=0
def tw16988691422854706882:=0
def tw5667143938890202430:=0
def tw12841889679162131406:=0
def tw3192966125332271056:=0
def tw2278362215853818619:=0
def tw452698138350601220:=0
def tw10670352398140121343:=0
def tw17050513540083798198:=0
def tw6910469801628256160:=0
def tw13062399234146222136:=0
def tw10024625123874938794:=0
def tw13292104458071851541:=0
def tw3753311814958712412:=0
def tw8053567497994474050:=0
def tw8916112594418145573:=0
def tw3155424008577744717:=0
def tw3306970969610545956:=0
def tw18298541073772034771:=0
def tw5888160221538937711:=0
def tw6734501266747427552:=0
def tw6154707419536983372:=0
def tw11374681433697052467:=0
def tw12382471520601526963:=0
def tw1434793998222884261:=0
def tw16312981628391844989:=0
def tw7571692027458292387:=0
def tw7384649449438756987:=0
def tw16143687471021408437:=0
def tw17870549860248176263:=0
def tw7570185052898848088:=0
def tw13309954783163744896:=0
def tw8040211578802050646:=0
def tw13783188294045559173:=0
def tw14458226808985007371:=0
def tw10889201270122614486:=0
def tw16284750051512451615:=0
def tw18289740884169519538:=0
def tw13649937691355981223:=0
def tw3021242493868933645:=0
def tw12659502646327060253:=0
def tw11775539090094079402:=0
def tw15286754602721520755:=0
def tw6456301874401871498:=0
def tw15639041560708583085:=0
def tw2054929691119679991:=0
def tw16142849907112688972:=0
def tw3085337336191230449:=0
def tw17132188053416605240:=0
def tw1286894286230654825:=0
def tw5763250634609262383:=0
def tw17514338636742064783:=0
def tw13155627379975838720:=0
def tw18093285024247433177:=0
def tw12515814397069943124:=0
def tw444927534387138565:=0
def tw18296367887788675895:=0
def tw1500306223871324996:=0
def tw1114200766735539916:=0
def tw16068139865285580438:=0
def tw1958412842983424421:=0
def tw10922928700259364903:=0
def tw5695699662132776923:=0
def tw2083932278783674685:=0
def tw7289330206532066410:=0
def tw5260011785883832865:=0
def tw2792358700904508212:=0
def tw2754699548966205559:=0
def tw13023172692345685338:=0
def tw8466555659129910710:=0
def tw15914516527699957140:=0
def tw1871671642337657811:=0
def tw15419410892313070902:=0
def tw197387993066150102:=0
def tw2318612542338308390:=0
def tw2966913555873779092:=0
def tw2265278131783191192:=0
def tw9782182029368048575:=0
def tw2683544032208806478:=0
def tw11393855502314740339:=0
def tw10016307270930899125:=0
def tw13073025157718101249:=0
def tw15886674508555657959:=0
def tw5311173751063074900:=0
def tw355148136738029304:=0
def tw10655005529678172216:=0
def tw14162809702263073940:=0
def tw2701503435511842149:=0
def tw1262959563267428855:=0
def tw16072519937884049117:=0
def tw3614242065077770501:=0
def tw10135771953749733067:=0
def tw9420153902705763942:=0
def tw6319632905931991807:=0
def tw9757726655837836525:=0
def tw4759291316835808279:=0
def tw11555269950195636446:=0
def tw17189708566578998436:=0
def tw9291528063421399608:=0
def tw1284906319509948219:=0
def tw1784759048384877659:=0
def tw17802307031074933548:=0
def tw6647568872551427676:=0
def tw15081646759276540620:=0
def tw7797603866190160561:=0
def tw10413763391463514296:=0
def tw12208573566980903763:=0
def tw8497426371552722452:=0
def tw12710797197777953665:=0
def tw6862762127078122695:=0
def tw13377825608356230631:=0
def tw2138471134097689670:=0
def tw1299773827634071015:=0
def tw14851829962000108519:=0
def tw18078689977841947264:=0
def tw11404372418158115275:=0
def tw10871372896037686580:=0
def tw5864611136856842917:=0
def tw10713449607607746500:=0
def tw6602101437914177900:=0
def tw13155351360146101515:=0
def tw11834404133480171047:=0
def tw12252906573290221754:=0
def tw7685973066497778374:=0
def tw17836709656015927573:=0
def tw2574334693315720537:=0
def tw7579416948319121007:=0
def tw11869954659804783955:=0
def tw5324662727727095771:=0
def tw16172846373252914609:=0
def tw15452027529731929756:=0
def tw4820831990757130126:=0
def tw16728680920700060548:=0
def tw3767209352732343524:=0
def tw17462351380910526528:=0
def tw18251260225532812262:=0
def tw16140004143521070175:=0
def tw10705348422011641466:=0
def tw226523552198466125:=0
def tw2835252336929249940:=0
def tw10755005280543181701:=0
def tw9668061980263546402:=0
def tw15630338305646732325:=0
def tw8875211770478915825:=0
def tw3850839380481923116:=0
def tw5636390979643295338:=0
def tw10244135525458453726:=0
def tw16345963525723028349:=0
def tw11088120674856681350:=0
def tw2893072343081863001:=0
def tw2789144722659484418:=0
def tw13040710776035523987:=0
def tw16910767174281234097:=0
def tw12831819556613363234:=0
def tw9325631349146519223:=0
def tw3021878403103258703:=0
def tw14532046472766145665:=0
def tw5354341646750415284:=0
def tw15150741408833167181:=0
def tw15581441669954005772:=0
def tw7243650301043040874:=0
def tw6715133411334459828:=0
def tw15314463294534223680:=0
def tw13445155869956268284:=0
def tw2434171725634155992:=0
def tw5993759951972031472:=0
def tw10324385615318687169:=0
def tw15301704253991432403:=0
def tw8915415991823348284:=0
def tw14506246472832789548:=0
def tw3316402857253390701:=0
def tw8120387592371106071:=0
def tw4128398640732894284:=0
def tw9303409273875822173:=0
def tw4417518170681347102:=0
def tw11771347374249553448:=0
def tw11575991386560216056:=0
def tw764991406833164806:=0
def tw687645884077410122:=0
def tw12639766381661217789:=0
def tw9043823005688254142:=0
def tw15192235550569365621:=0
def tw15990699251227703538:=0
def tw17224219763897066487:=0
def tw7949195190893892816:=0
def tw654411412017581025:=0
def tw15263288365598664131:=0
def tw13309263067012015845:=0
def tw11392362580615510396:=0
def tw11874042513189559334:=0
def tw11024246085006720985:=0
def tw3130433108506621693:=0
def tw14766368824455063264:=0
def tw17524171747307148343:=0
def tw11702774489174852089:=0
def tw5538827800351195071:=0
def tw6111684808237216675:=0
def tw15598307059943602713:=0
def tw4504304597095636390:=0
def tw12305680101715889863:=0
def tw12395403477535820932:=0
def tw409617147632826173:=0
def tw10459893177651669299:=0
def tw3399364358570437390:=0
def tw8658020612651601159:=0
def tw11968121845534983283:=0
def tw15703934376251478691:=0
def tw14562034733599482013:=0
def tw5497512168984987156:=0
def tw15994958285666959058:=0
def tw12835427769626363079:=0
def tw17398643635803758554:=0
def tw12513429092822435144:=0
def tw16667985456562188307:=0
def tw5057497487442375922:=0
def tw2675545141212989199:=0
def tw5615113341782070938:=0
def tw5288674996448747169:=0
def tw1860585076775151299:=0
def tw7825401087879090851:=0
def tw1740607536215470943:=0
def tw14870914687797468056:=0
def tw7097374983875277571:=0
def tw792329924970009305:=0
def tw4927882221260855251:=0
def tw467959193269198316:=0
def tw10423854779400431113:=0
def tw3672607123248184317:=0
def tw12969253004649002385:=0
def tw4003415782171471236:=0
def tw10043054402438559159:=0
def tw9067234816262450377:=0
def tw13279290076402536995:=0
def tw12146099423981288868:=0
def tw1700586898352665602:=0
def tw7740356053484294291:=0
def tw5876765610607577233:=0
def tw17147309360357837388:=0
def tw5288364405323972853:=0
def tw15495853682860981644:=0
def tw15880379938440606099:=0
def tw17609958086788402356:=0
def tw15934164557967807789:=0
def tw5061107868032701764:=0
def tw1882019455625395256:=0
def tw10284578950084632973:=0
def tw2571203666279943079:=0
def tw16869936471789022286:=0
def tw5492539083688670416:=0
def tw1177134051460421274:=0
def tw15015587163029923206:=0
def tw16556678332899627220:=0
def tw15169064240643464785:=0
def tw3264887764584541766:=0
def tw1104676810231042430:=0
def tw10724127782765301549:=0
end PySem.W.Fast
namespace Hk
open PySem PySem.W PyProof.Rows
noncomputable def lk (o : Obj) : Option Obj := match o.data with
  | .freed => none
  | _ => some o
theorem get_lk {h : Heap} {a : Nat} {o : Obj} (e : h.objs[a]? = some o) : h.get? a = lk o := by
  unfold Heap.get? lk
  rw [e]
  cases o with
  | mk c d x s => cases x <;> rfl
noncomputable def pick (os : List Obj) : Nat → List Nat → List (Option Obj) :=
  @List.rec Obj (fun _ => Nat → List Nat → List (Option Obj)) (fun _ as => as.map fun _ => none)
    (fun o _ ih i as => @List.rec Nat (fun _ => List (Option Obj)) [] (fun a r _ => @Bool.rec (fun _ => List (Option Obj)) (ih (Nat.succ i) (a :: r)) (lk o :: ih (Nat.succ i) r) (Nat.beq a i)) as) os
noncomputable def fnd (os : List Obj) (i a : Nat) : Option Obj := if i ≤ a then (os[a - i]?).bind lk else none
theorem fnd_succ {o : Obj} {os : List Obj} {i a : Nat} (h : (fnd os (i + 1) a).isSome = true) : fnd (o :: os) i a = fnd os (i + 1) a := by
  unfold fnd at h ⊢
  by_cases e : i + 1 ≤ a
  · rw [if_pos e, if_pos (by omega), show a - i = (a - (i + 1)) + 1 by omega, List.getElem?_cons_succ]
  · rw [if_neg e] at h; cases h
theorem pick_ok (os : List Obj) : ∀ (i : Nat) (as : List Nat) (ws : List (Option Obj)), pick os i as = ws → (∀ w ∈ ws, w.isSome = true) → as.map (fnd os i) = ws := by
  induction os with
  | nil =>
    intro i as ws e hs
    have e : as.map (fun _ => none) = ws := e
    cases as with
    | nil => exact e
    | cons a r =>
      have := hs none (by rw [← e]; exact List.mem_cons_self ..)
      cases this
  | cons o os ih =>
    intro i as ws e hs
    have key : ∀ (as : List Nat) (ws : List (Option Obj)), as.map (fnd os (i + 1)) = ws → (∀ w ∈ ws, w.isSome = true) → as.map (fnd (o :: os) i) = ws := fun as ws h hs => by
      rw [← h]
      refine List.map_congr_left fun a ha => fnd_succ (hs _ ?_)
      rw [← h]; exact List.mem_map.mpr ⟨a, ha, rfl⟩
    cases as with
    | nil => exact e
    | cons a r =>
      have e : @Bool.rec (fun _ => List (Option Obj)) (pick os (i + 1) (a :: r)) (lk o :: pick os (i + 1) r) (Nat.beq a i) = ws := e
      cases hb : Nat.beq a i with
      | false => rw [hb] at e; exact key _ _ (ih _ _ _ e hs) hs
      | true =>
        rw [hb] at e
        have e : lk o :: pick os (i + 1) r = ws := e
        have ea : a = i := Nat.eq_of_beq_eq_true hb
        have hs' : ∀ w ∈ pick os (i + 1) r, w.isSome = true := fun w hw => hs w (by rw [← e]; exact List.mem_cons_of_mem _ hw)
        rw [List.map_cons, key _ _ (ih _ _ _ rfl hs') hs', ← e]
        congr 1
        unfold fnd
        rw [if_pos (by omega), show a - i = 0 by omega]; rfl
theorem pick_in {K : Frag} {h : Heap} {as : List Nat} (x : pick h.objs.toList 0 as = K.map fun p => some p.2) : as.map h.get? = K.map fun p => some p.2 := by
  have hs : ∀ w ∈ K.map (fun p => some p.2), w.isSome = true := fun w hw => by
    obtain ⟨p, _, rfl⟩ := List.mem_map.mp hw; rfl
  have k := pick_ok _ _ _ _ x hs
  rw [← k] at hs ⊢
  refine List.map_congr_left fun a ha => ?_
  have h1 := hs _ (List.mem_map.mpr ⟨a, ha, rfl⟩)
  unfold fnd at h1 ⊢
  rw [if_pos (Nat.zero_le _), Nat.sub_zero] at h1 ⊢
  rw [Array.getElem?_toList] at h1 ⊢
  cases e : h.objs[a]? with
  | none => rw [e] at h1; cases h1
  | some o => rw [get_lk e]; rfl
noncomputable def hook (K : Params → Frag) (as : List Addr) (e : ∀ P, as = (K P).map (·.1)) : Hook :=
  ⟨List (Option Obj), fun s => pick s.heap.objs.toList 0 as, fun w => (K w.params).map fun p => some p.2, InK K, fun w s x => InK.of e w s (pick_in x), InK.keeps⟩
theorem in_of {K : Params → Frag} {as : List Addr} {e : ∀ P, as = (K P).map (·.1)} {w : World} {h : Heap} (Y : (hook K as e).says w h) : (K w.params).In h := Y
noncomputable def hookT (K : Params → Frag) (as : List Addr) (e : ∀ P, as = (K P).map (·.1)) (ts : List Addr) : Hook where
  α := List (Option Obj) × List (Option Obj)
  obs := fun s => (pick s.heap.objs.toList 0 as, ts.map s.heap.get?)
  val := fun w => ((K w.params).map fun p => some p.2, ts.map fun _ => some (tabObj #[]))
  says := fun w h => InK K w h ∧ ∀ P ∈ ts, h.get? P = some (tabObj #[])
  of := fun w s x => ⟨InK.of e w s (pick_in (Prod.mk.inj x).1), List.map_inj_left.mp (Prod.mk.inj x).2⟩
  keeps := fun w h h' x k => ⟨InK.keeps w h h' x.1 k, fun P hP => k _ _ (x.2 P hP)⟩
theorem inT_of {K : Params → Frag} {as : List Addr} {e : ∀ P, as = (K P).map (·.1)} {ts : List Addr} {w : World} {h : Heap} (Y : (hookT K as e ts).says w h) : (K w.params).In h := Y.1
theorem tabs_of {K : Params → Frag} {as : List Addr} {e : ∀ P, as = (K P).map (·.1)} {ts : List Addr} {w : World} {h : Heap} (Y : (hookT K as e ts).says w h) : ∀ P ∈ ts, h.get? P = some (tabObj #[]) := Y.2
end Hk
section
open PySem PySem.W PyProof.Rows
set_option maxHeartbeats 0
local macro_rules | `(tactic| o_head $H:term) => match H with
  | `(($f:ident $a $b $c $d)) => if f.getId.eraseMacroScopes == `kmHook then `(tactic| o_head (Hk.hookT $a $b $c $d)) else Lean.Macro.throwUnsupported
  | `(($f:ident $a $b $c)) => if f.getId.eraseMacroScopes == `kHook then `(tactic| o_head (Hk.hook $a $b $c)) else Lean.Macro.throwUnsupported
  | _ => Lean.Macro.throwUnsupported
def Hk.vq : Program := view PySem.Challenge.pw_castoff_k81_things_and_asks [170]
def Hk.vl : List Str := ["_wall", "__name__", "CastError", "ValueError", "NoName", "NoNumber", "Twice", "TooMany", "Unknown", "TooWide", "There", "NotThere", "Full", "BadBook", "NoRule", "Unlike", "NoLine", "is_whole", "is_within", "divisor_of", "ratio_of", "plus_ratio", "minus_ratio", "under_ratio", "MOST_PLACES", "check_places", "Shelf", "LETTERS", "FIGURES", "MOST_SIGNS", "MOST_THINGS", "MOST_ROOM", "made_of", "is_name", "check_thing", "Stock", "MOST_FIGURES", "MOST_ASKS", "read_number", "check_asks", "check_rooms", "earlier_asks", "casts_off", "serves", "lying_after", "weighed", "missed_by", "paid_by", "walkers_at", "moves_by_step", "move_by_jump", "Climb", "climb_of", "flow_of", "MOST_TURN", "Rule", "Ranked", "Oldest", "First", "Halving", "Farthest", "make_room", "row_of", "book_of", "MOST_BEST", "Planned", "gaps_of", "stays_of", "rises_of", "best_of", "Dues", "Hand", "move", "step_of", "Rows", "make_oldest", "make_first", "make_halving", "make_farthest", "make_hand", "make_rows", "make_dues", "MAKERS", "maker_of", "check_greater", "lying_by", "first_lack", "FORMS", "read_name", "read_word", "kinds_of", "read_line", "parts_of", "MOST_SHELVES", "check_sizes", "Tower", "Prompt", "MOST_SUMS", "Sums", "depths_of", "is_there", "step_with", "steps_of", "MOST_ASKED", "MOST_DIFFERENT", "worths_of", "rooms_of_sets", "is_in", "has_all", "known_ways", "served_ways", "ways_behind", "all_ways", "row_between", "book_along", "payments_of", "ways_of", "words_or_none", "show_row", "show_step", "show_ratio", "show_paid", "answer_thing", "answer_ask", "answer_again", "book_by", "answer_run", "answer_book", "answer_holds", "answer_even", "answer_best", "answer_ways", "answer_sizes", "answer_parts", "answer_tower", "answer_prompt", "tower_of", "answer_read", "answer_keep", "answer_ahead", "answer_rest", "answer_store", "answer_levels", "answer_found", "answer_spent", "ANSWERS", "Desk", "_law_cell_at", "_law_mix", "_law_names", "_law_cost", "_law_told"].map Str.ofString
local macro_rules | `(tactic| refine $f:ident $xs*) => if f.getId.eraseMacroScopes == `PySem.W.holds_open then `(tactic| refine (holds_open (q := Hk.vq) (loose := Hk.vl) $(xs.extract 2 xs.size)*)) else Lean.Macro.throwUnsupported
open_top hd81 for PySem.Challenge.rw_castoff_k81_things_and_asks
end
def Fa:=@List.length_map
def Fb:=@List.getElem?_eq_getElem
def Fc:=@List.getD_eq_getElem?_getD
def Fd:=@PySem.Heap.get?_push_of_some
def Fe:=@List.getElem?_map
def Ff:=@List.mem_of_getElem?
def Fg:=@Nat.le_refl
def Fh:=@List.mem_singleton
def Fi:=@List.getElem?_eq_some_iff
def Fj:=@Nat.lt_of_lt_of_le
def Fk:=@List.mem_cons_of_mem
def Fl:=@PySem.Heap.lt_size
def Fm:=@List.length_append
def Fn:=@List.size_toArray
def Fo:=@Nat.ne_of_lt
def Fp:=@List.map_append
def Fq:=@PySem.wpAny_bind
def Fs:=@PySem.Heap.get?_push_size
def Ft:=@Bool.false_ne_true
def Fu:=@List.mem_cons_self
def Fv:=@List.mem_cons
def Fw:=@decide_eq_false
def Fx:=@List.mem_append_right
def Fy:=@List.getElem?_append_left
def Fz:=@List.mem_map
def FA:=@decide_eq_true
def FB:=@Nat.zero_le
def FC:=@List.mem_iff_getElem?
def FD:=@List.getElem?_append_right
def FE:=@Array.length_toList
def FF:=@List.mem_append
def FG:=@Nat.le_trans
def FH:=@List.map_map
def FJ:=@List.append_nil
def FK:=@PySem.wpAny_pure
def FL:=@Option.some.inj
def FM:=@PySem.boot_len
def FN:=@PySem.mem_of_lookup
def FO:=@List.nodup_cons
def FP:=@List.lookup_cons
def FQ:=@List.take_add_one
def FR:=@Int.emod_lt_of_pos
def FS:=@List.getElem?_eq_none
def FT:=@PySem.wpAny_mono
def FU:=@List.all_eq_true
def FV:=@List.nodup_append
def FW:=@List.length_range
def FX:=@PySem.W.kia_one
def FY:=@Int.emod_nonneg
def FZ:=@PySem.wpAny_Call_Name_kw
def Ha:=@List.not_mem_nil
def Hb:=@List.length_eq_zero_iff
def Hc:=@Bool.and_eq_true
def Hd:=@PySem.F.plain_min_loop
def He:=@PySem.F.plainAttrs_str
def Hf:=@List.flatten_cons
def Hg:=@PySem.W.callWith_K
def Hh:=@beq_eq_false_iff_ne
def Hi:=@List.replicate_succ
def Hj:=@Nat.lt_irrefl
def Hl:=@List.take_length
def Hm:=@List.length_take
def Hn:=@List.getElem_mem
def Ho:=@List.nodup_nil
def Hq:=@PySem.F.type_str_join
def Hr:=@PySem.F.slot_str_join
def Hs:=@List.mem_of_mem_erase
def Ht:=@Option.map_some
def Hu:=@PySem.wpAny_truthy_bool
def Hv:=@PySem.lookup_relabel_local
def Hw:=@List.mem_append_left
def Hx:=@PySem.F.type_list_append
def Hy:=@PySem.F.slot_list_append
def Hz:=@List.length_erase_of_mem
def HA:=@List.length_pos_iff
def HC:=@List.getElem?_range
def HD:=@PySem.F.plainAttrs_list
def HE:=@Nat.lt_succ_self
def HF:=@List.mem_range
def HG:=@Int.le_refl
def HI:=@PySem.codeAny_mono
def HJ:=@Nat.lt_of_le_of_lt
def HK:=@Int.lt_of_le_of_lt
def HL:=@PySem.wpAny_passesOwn
def HM:=@PyProof.Rows.callWith_type1
def HN:=@beq_iff_eq
def HP:=@PySem.W.plainGet_of
def HQ:=@PySem.wpAny_holding
def HR:=@List.range_succ
def HS:=@List.find?_cons
def HU:=@PySem.tupleKind_room_in1
def HV:=@PySem.wpAny_tryCatch
def HW:=@Int.le_trans
def HX:=@PySem.W.methodCall_KW
def HY:=@PySem.wpAny_call
def HZ:=@List.length_drop
def R0:=@List.any_cons
def R1:=@Nat.le_succ
def R3:=@Bool.eq_iff_iff
def R5:=@List.filterMap_cons
def R6:=@Nat.le_of_eq
def R7:=@List.getElem?_zip_eq_some
def R8:=@PySem.wpAny_pyIter_list
def R9:=@Nat.lt_succ_of_lt
def Ra:=@List.ext_getElem?
def Rb:=@List.append_assoc
def Rc:=@Option.isSome_iff_exists
def Re:=@PySem.F.plainAttrs_dict
def Rf:=@Nat.le_add_right
def Rg:=@List.filter_cons
def Rh:=@PySem.call_meets
def Ri:=@PySem.F.entry_min_loop
def Rj:=@Nat.le_of_lt
def Rk:=@List.take_of_length_le
def Rl:=@List.length_pos_of_mem
def Rm:=@PySem.wpAny_execs_nil
def Rn:=@List.sum_append
def Ro:=@List.of_mem_zip
def Rp:=@List.mem_filter
def Rq:=@PySem.F.slot_dict_get
def Rr:=@List.length_filter_le
def Rt:=@List.getElem?_of_mem
def Ru:=@PySem.Heap.size_push
def Rv:=@ne_true_of_eq_false
def Rx:=@PySem.Heap.SameBut.update
def Ry:=@PySem.plainId_quiet
def Rz:=@PySem.typeIs_str
def RA:=@PySem.call_meetsIn
def RB:=@Option.isSome_map
def RC:=@Nat.lt_trans
def RD:=@List.mem_range'_1
def RE:=@List.foldl_append
def RF:=@Nat.le_of_not_lt
def RG:=@PySem.wpAny_letGo
noncomputable section
open PySem PySem.Spec PyProof.Rows
namespace L2
abbrev Key:=Sum Int Str
def Lh:Key→Value→Bool
 | .inl k,v=>Value.isInt k v
 | .inr x,v=>Value.isStrOf x v
def Jaw(w:World):Key→Int
 | .inl k=>hashInt k
 | .inr x=>hashStr w x
theorem Bi:∀{k:Key} {v:Value},Lh k v=true→(∃i t,k=Sum.inl i∧v=Value.int i t)∨(∃x t,k=Sum.inr x∧v=Value.str x t)
 | .inl i,v,h=>by
  obtain ⟨t,e⟩:=Value.isInt_shape (k:=i) (v:=v) h;exact .inl ⟨i,t,rfl,e⟩
 | .inr x,v,h=>by
  obtain ⟨t,e⟩:=Value.isStrOf_shape (x:=x) (v:=v) h;exact .inr ⟨x,t,rfl,e⟩
theorem Xb(i:Int)(t:Tok):Lh (.inl i) (.int i t)=true:=by simp [Lh,Value.isInt]
theorem Xc(x:Str)(t:Tok):Lh (.inr x) (.str x t)=true:=by simp [Lh,Value.isStrOf]
theorem J6x(a b:Int):decide ((Sum.inl a:Key)=Sum.inl b)=(a==b):=by
 by_cases e:a=b
 · subst e;simp
 · have h:¬(Sum.inl a:Key)=Sum.inl b:=fun q=>e (Sum.inl.inj q)
   rw [Fw h];exact (Hh.mpr e).symm
theorem J6y(a b:Str):decide ((Sum.inr a:Key)=Sum.inr b)=decide (a=b):=by
 by_cases e:a=b
 · subst e;simp
 · have h:¬(Sum.inr a:Key)=Sum.inr b:=fun q=>e (Sum.inr.inj q)
   rw [Fw h,Fw e]
theorem J6z(a:Int)(b:Str):decide ((Sum.inl a:Key)=Sum.inr b)=false:=Fw (fun q=>nomatch q)
theorem J70(a:Str)(b:Int):decide ((Sum.inr a:Key)=Sum.inl b)=false:=Fw (fun q=>nomatch q)
def B7(prog:Program)(w:World):PySem.KeyKind prog w Key where
 is:=Lh
 hash:=Jaw w
 inj:=fun v a b ha hb=>by
  rcases Bi ha with ⟨i,t,rfl,rfl⟩ | ⟨x,t,rfl,rfl⟩
  · rcases Bi hb with ⟨j,u,rfl,e⟩ | ⟨y,u,rfl,e⟩
    · injection e with e1 _;rw [e1]
    · exact nomatch e
  · rcases Bi hb with ⟨j,u,rfl,e⟩ | ⟨y,u,rfl,e⟩
    · exact nomatch e
    · injection e with e1 _;rw [e1]
 byValue:=fun k v h=>by
   rcases Bi h with ⟨i,t,rfl,rfl⟩ | ⟨x,t,rfl,rfl⟩ <;> rfl
 pyHash:=fun hv h=>by
  rcases Bi hv with ⟨i,t,rfl,rfl⟩ | ⟨x,t,rfl,rfl⟩
  · exact wpAny_pyHash_int h
  · exact wpAny_pyHash_str h
 eqBool:=fun hu hv h=>by
  rcases Bi hu with ⟨i,t,rfl,rfl⟩ | ⟨x,t,rfl,rfl⟩
  · rcases Bi hv with ⟨j,u,rfl,rfl⟩ | ⟨y,u,rfl,rfl⟩
    · rw [J6x]at h;exact wpAny_eqBool_int h
    · rw [J6z]at h;exact SeqAt.EqAt.int_str i t y u _ _ _ _ h
  · rcases Bi hv with ⟨j,u,rfl,rfl⟩ | ⟨y,u,rfl,rfl⟩
    · rw [J70]at h;exact SeqAt.EqAt.str_int x t j u _ _ _ _ h
    · rw [J6y]at h;exact wpAny_eqBool_str h
 «strs»:=fun k x t v h=>by
  rcases Bi h with ⟨i,u,rfl,e⟩ | ⟨y,u,rfl,e⟩
  · exact nomatch e
  · injection e with e1 _
    subst e1
    cases v <;> rfl
theorem Py(prog:Program)(w:World)(i:Int)(t:Tok):(B7 prog w).is (.inl i) (.int i t)=true:=Xb i t
theorem Pz(prog:Program)(w:World)(x:Str)(t:Tok):(B7 prog w).is (.inr x) (.str x t)=true:=Xc x t
end L2
namespace L2
inductive V where
 | non | bl (b:Bool) | int (i:Int) | str (x:Str) | byt (b:Array UInt8) | flt (b:UInt64) | ref (a:Addr) | ty (n:String)
 deriving DecidableEq
def An:V→Value→Prop
 | .non,u=>u=Value.none
 | .bl b,u=>u=Value.bool b
 | .int i,u=>∃t,u=Value.int i t
 | .str x,u=>∃t,u=Value.str x t
 | .byt b,u=>∃t,u=Value.bytes b t
 | .flt b,u=>∃t,u=Value.float b t
 | .ref a,u=>u=Value.ref a
 | .ty n,u=>u=Value.type n
abbrev Ao:List V→List Value→Prop:=Paired An
theorem Ao.length{xs:List V}{us:List Value}(r:Ao xs us):xs.length=us.length:=Paired.length r
theorem Ao.get:∀{xs:List V} {us:List Value} {i:Nat} {x:V},Ao xs us→xs[i]?=some x→∃u,us[i]?=some u∧An x u
 | _,_,_,_,.nil,e=>by simp at e
 | _,_,0,_,.cons r _,e=>by simp at e;subst e;exact ⟨_,rfl,r⟩
 | _,_,i+1,x,.cons _ t,e=>by
  obtain ⟨u,h1,h2⟩:=Ao.get (i:=i) (x:=x) t (by simpa using e);exact ⟨u,by simpa using h1,h2⟩
theorem Ao.set{x:V}{u:Value}(r:An x u):∀{xs:List V} {us:List Value} (i:Nat),Ao xs us→Ao (xs.set i x) (us.set i u)
 | _,_,_,.nil=> .nil
 | _,_,0,.cons _ t=> .cons r t
 | _,_,i+1,.cons q t=> .cons q (Ao.set r i t)
theorem Ao.append:∀{xs ys:List V} {us ws:List Value},Ao xs us→Ao ys ws→Ao (xs++ys) (us++ws)
 | _,_,_,_,.nil,s=>s
 | _,_,_,_,.cons r t,s=> .cons r (Ao.append t s)
theorem Ao.take:∀{xs:List V} {us:List Value} (n:Nat),Ao xs us→Ao (xs.take n) (us.take n)
 | _,_,0,_=> .nil
 | _,_,_+1,.nil=> .nil
 | _,_,n+1,.cons r t=> .cons r (Ao.take n t)
theorem Ao.drop:∀{xs:List V} {us:List Value} (n:Nat),Ao xs us→Ao (xs.drop n) (us.drop n)
 | _,_,0,r=>r
 | _,_,_+1,.nil=> .nil
 | _,_,n+1,.cons _ t=>Ao.drop n t
def E6:Option V→Option Value→Prop
 | some v,some u=>An v u
 | none,none=>True
 | _,_=>False
def KV{κ:Type}:List (κ×V)→List (κ×Value)→Prop:=Paired fun (p:κ×V) (q:κ×Value)=>p.1=q.1∧An p.2 q.2
def kV:Key→V
 | .inl i=> .int i
 | .inr x=> .str x
inductive HO where
 | lst (xs:List V)
 | tup (xs:List V)
 | dK (kvs:List (Key×V)) | dT (kvs:List (List Key×V))
 | set (S:Int→Bool) (n:Nat)
 | ins (C dx:Addr) (fs:List (Str×V))
 | own (x:Addr)
 | xd (fs:List (Str×V))
 | met (f x:Addr)
 | rng (lo hi:Int)
 | frz (o:Obj) (u:HO)
 | tbl (ps:Array Value)
 | ext (φ:Heap→Prop)
abbrev Hp:=Addr→Option HO
def upd(H:Hp)(a:Addr)(o:HO):Hp:=fun b=>if b=a then some o else H b
theorem A1{H:Hp}{a:Addr}{o:HO}:upd H a o a=some o:=by unfold upd;rw [if_pos rfl]
theorem A3{H:Hp}{a b:Addr}{o:HO}(h:b≠a):upd H a o b=H b:=by unfold upd;rw [if_neg h]
theorem Uk{H:Hp}{a:Addr}{o u:HO}:upd (upd H a o) a u=upd H a u:=by
 funext b;unfold upd;split <;> rfl
theorem Bt{H:Hp}{a b:Addr}{o u:HO}(h:H a=some o)(h':H b=some u)(d:o≠u):a≠b:=by
 intro e;subst e;rw [h]at h';exact d (FL h')
theorem A8{H:Hp}{a b:Addr}{o:HO}(h:H a=some o)(h':H b=none):a≠b:=by
 intro e;subst e;rw [h]at h';cases h'
section
variable (P:Program) (w:World)
def Bd(H:Hp)(h:Heap)(a:Addr):HO→Prop
 | .lst xs=>xs.length≤sizeLine∧∃(its:List Value) (n:Nat),Ao xs its∧h.get? a=some {cls:= .type "list",data:= .seq its.toArray n}
 | .tup xs=>xs.length≤sizeLine∧∃its:List Value,Ao xs its∧IsTup h a its.toArray
 | .dK kvs=>kvs.length≤sizeLine∧(a==sysModules)=false∧∃vs,KV kvs vs∧h.DictOf (B7 P w) a vs
 | .dT kvs=>kvs.length≤sizeLine∧(a==sysModules)=false∧∃xs:List (List Key×Addr×Value),
  Paired (fun (p:List Key×V) (q:List Key×Addr×Value)=>p.1=q.1∧H q.2.1=some (.tup (p.1.map kV))∧An p.2 q.2.2) kvs xs∧
  ∃o es ep,h.get? a=some o∧o.ExactDict∧o.data= .dict es ep∧es.toList=xs.map (entryOfKey (tupleKind (B7 P w)))∧(xs.map (·.1)).Nodup
 | .set S n=>h.SetOf (intKind P w) a S n
 | .ins C dx fs=>H dx=some (.own a)∧fs.length≤1000∧dx≠a∧h.get? a=some (PySem.W.instObj C dx)∧
  ∃mA,h.Ns1 dx mA∧(∀f,E6 (fs.lookup f) (mA f))∧PySem.Within mA (fs.map (·.1))
 | .own _=>∃o,h.get? a=some o
 | .xd fs=>∃mA,h.Ns1 a mA∧∀f,E6 (fs.lookup f) (mA f)
 | .rng lo hi=>∃t u v,h.get? a=some {cls:= .type "range",data:= .fields #[.int lo t,.int hi u,.int 1 v]}
 | .frz o u=>h.get? a=some o∧Bd H h a u
 | .tbl ps=>h.get? a=some {cls:= .none,data:= .fields ps}
 | .met f x=>h.get? a=some (PySem.W.methodObj (.ref f) (.ref x))
 | .ext φ=>φ h∧(∃o,h.get? a=some o)∧∀h1 h2:Heap,φ h1→(∀o,h1.get? a=some o→h2.get? a=some o)→φ h2
def HOk(H:Hp)(h:Heap):Prop:=∀a o,H a=some o→Bd P w H h a o
end
section
variable {P:Program} {w:World} {H H':Hp} {h h':Heap} {a:Addr} {o:HO}
theorem Bd.lt(x:Bd P w H h a o):a < h.objs.size:=by
 cases o with
 | lst xs=>obtain ⟨_,_,_,_,e⟩:=x;exact Fl e
 | tup xs=>obtain ⟨_,_,_,p⟩:=x;exact p.lt
 | dK kvs=>obtain ⟨_,_,_,_,o,_,_,e,_⟩:=x;exact Fl e
 | dT kvs=>obtain ⟨_,_,_,_,o,_,_,e,_⟩:=x;exact Fl e
 | set S n=>obtain ⟨o,_,_,_,e,_⟩:=x;exact Fl e
 | ins C dx fs=>obtain ⟨_,_,_,e,_⟩:=x;exact Fl e
 | own y=>obtain ⟨_,e⟩:=x;exact Fl e
 | xd fs=>obtain ⟨_,⟨_,_,_,e,_⟩,_⟩:=x;exact Fl e
 | rng lo hi=>obtain ⟨_,_,_,e⟩:=x;exact Fl e
 | frz ob u=>obtain ⟨e,_⟩:=x;exact Fl e
 | tbl ps=>exact Fl (show h.get? a=some _ from x)
 | met f y=>exact Fl (show h.get? a=some _ from x)
 | ext φ=>obtain ⟨_,⟨_,e⟩,_⟩:=x;exact Fl e
theorem Paired.mapP{α β:Type}{F G:α→β→Prop}:∀{l₁:List α} {l₂:List β},Paired F l₁ l₂→(∀a b,F a b→G a b)→Paired G l₁ l₂
 | _,_,.nil,_=> .nil
 | _,_,.cons r t,f=> .cons (f _ _ r) (Paired.mapP t f)
theorem Bd.stay(x:Bd P w H h a o)(k:∀b u,(b=a∨H b=some (.own a))→h.get? b=some u→h'.get? b=some u)
 (ho:∀b,H b=some (.own a)→H' b=some (.own a)) (ht:∀b xs,H b=some (.tup xs)→H' b=some (.tup xs)):Bd P w H' h' a o:=by
 induction o with
 | lst xs=>obtain ⟨z,its,n,r,e⟩:=x;exact ⟨z,its,n,r,k _ _ (.inl rfl) e⟩
 | tup xs=>obtain ⟨z,its,r,ob,e,c⟩:=x;exact ⟨z,its,r,ob,k _ _ (.inl rfl) e,c⟩
 | dK kvs=>obtain ⟨z,y,vs,r,ob,es,ep,e,c⟩:=x;exact ⟨z,y,vs,r,ob,es,ep,k _ _ (.inl rfl) e,c⟩
 | dT kvs=>
  obtain ⟨z,y,xs,r,ob,es,ep,e,c⟩:=x;exact ⟨z,y,xs,Paired.mapP r fun p q z=>⟨z.1,ht _ _ z.2.1,z.2.2⟩,ob,es,ep,k _ _ (.inl rfl) e,c⟩
 | set S n=>obtain ⟨ob,es,ep,t,e,c⟩:=x;exact ⟨ob,es,ep,t,k _ _ (.inl rfl) e,c⟩
 | ins C dx fs=>
  obtain ⟨d,z,ne,e,mA,⟨od,es,ep,e2,c⟩,r⟩:=x;exact ⟨ho _ d,z,ne,k _ _ (.inl rfl) e,mA,⟨od,es,ep,k _ _ (.inr d) e2,c⟩,r⟩
 | own y=>obtain ⟨ob,e⟩:=x;exact ⟨ob,k _ _ (.inl rfl) e⟩
 | xd fs=>obtain ⟨mA,⟨od,es,ep,e,c⟩,r⟩:=x;exact ⟨mA,⟨od,es,ep,k _ _ (.inl rfl) e,c⟩,r⟩
 | rng lo hi=>obtain ⟨t,u,v,e⟩:=x;exact ⟨t,u,v,k _ _ (.inl rfl) e⟩
 | frz ob u ih=>obtain ⟨e,q⟩:=x;exact ⟨k _ _ (.inl rfl) e,ih q⟩
 | tbl ps=>
  have e:h.get? a=some {cls:= .none,data:= .fields ps}:=x;show h'.get? a=some {cls:= .none,data:= .fields ps};exact k a _ (.inl rfl) e
 | met f y=>
  have e:h.get? a=some (PySem.W.methodObj (.ref f) (.ref y)):=x;show h'.get? a=some (PySem.W.methodObj (.ref f) (.ref y));exact k a _ (.inl rfl) e
 | ext φ=>obtain ⟨p,⟨o,e⟩,st⟩:=x;exact ⟨st _ _ p fun o q=>k _ _ (.inl rfl) q,⟨o,k _ _ (.inl rfl) e⟩,st⟩
theorem HOk.lt(x:HOk P w H h)(e:H a=some o):a < h.objs.size:=(x a o e).lt
theorem HOk.fresh(x:HOk P w H h)(e:h.objs.size≤a):H a=none:=by
 cases q:H a with
 | none=>rfl
 | some u=>exact absurd (Fj (x.lt q) e) (Hj _)
theorem HOk.kept(x:HOk P w H h)(k:∀b u,h.get? b=some u→h'.get? b=some u):HOk P w H h':=fun a o e=>
 (x a o e).stay (fun b u _ q=>k b u q) (fun _ q=>q) fun _ _ q=>q
theorem HOk.laid(x:HOk P w H h)(k:∀b u,h.get? b=some u→h'.get? b=some u)(hp:h.objs.size≤a)(new:Bd P w (upd H a o) h' a o):HOk P w (upd H a o) h':=fun b u e=>by
 have hn:=x.fresh hp
 by_cases hb:b=a
 · subst hb;rw [A1]at e;cases e;exact new
 · rw [A3 hb]at e
   exact (x b u e).stay (fun c v _ q=>k c v q) (fun c q=>by rw [A3 (A8 q hn)];exact q) fun c xs q=>by rw [A3 (A8 q hn)];exact q
end
def Rd(H:Hp)(a:Addr)(u:HO):Prop:=H a=some u∨∃o,H a=some (.frz o u)
theorem Rd.ok{P:Program}{w:World}{H:Hp}{h:Heap}{a:Addr}{u:HO}(r:Rd H a u)(x:HOk P w H h):Bd P w H h a u:=by
 rcases r with r | ⟨o,r⟩
 · exact x a u r
 · obtain ⟨_,q⟩:=x a _ r
   exact q
def Mut:Option HO→Prop
 | some (.lst _)=>True
 | some (.dK _)=>True
 | some (.dT _)=>True
 | some (.set _ _)=>True
 | some (.ins _ _ _)=>True
 | some (.ext _)=>True
 | _=>False
section
variable {P:Program} {w:World} {H:Hp} {h h':Heap} {x e:Addr} {o':HO}
theorem HOk.write(ok:HOk P w H h)(mu:Mut (H x))(he:e=x∨H e=some (.own x))(k:∀b u,b≠e→h.get? b=some u→h'.get? b=some u)(heo:∃u,h'.get? e=some u)
 (new:Bd P w (upd H x o') h' x o'):HOk P w (upd H x o') h':=fun b u q=>by
 have nown:∀c y,H c=some (.own y)→c≠x:=fun c y r z=>by subst z;rw [r]at mu;exact mu
 have ntup:∀c xs,H c=some (.tup xs)→c≠x:=fun c xs r z=>by subst z;rw [r]at mu;exact mu
 by_cases hb:b=x
 · subst hb;rw [A1]at q;cases q;exact new
 · rw [A3 hb]at q
   by_cases hbe:b=e
   · have q':H b=some (.own x):=by
      rcases he with z | z
      · exact absurd (hbe.trans z) hb
      · rw [hbe];exact z
     rw [q]at q';cases q';obtain ⟨v,hv⟩:=heo;exact ⟨v,by rw [hbe];exact hv⟩
   · refine (ok b u q).stay (fun c v hc r=>k c v ?_ r) (fun c r=>by rw [A3 (nown c b r)];exact r) fun c xs r=>by rw [A3 (ntup c xs r)];exact r
     rcases hc with rfl | hc
     · exact hbe
     · rintro rfl
       rcases he with z | z
       · exact nown c b hc z
       · rw [hc]at z;cases z;exact hb rfl
end
structure Un(fs ex:List Addr)(H H':Hp)(h h':Heap):Prop where
 keep:∀b o,h.get? b=some o→H b=none→b∉fs→b∉ex→h'.get? b=some o
 slot:∀b o,h.get? b=some o→H b=none→b∈fs→b∉ex→∃sl,h'.get? b=some {o with slots:=sl}
 free:∀b o,h.get? b=some o→H b=none→b∉ex→H' b=none
 there:∀b o,h.get? b=some o→b∉ex→∃o',h'.get? b=some o'
 tups:∀b xs,H b=some (.tup xs)→H' b=some (.tup xs)
 frzs:∀b o u,H b=some (.frz o u)→H' b=some (.frz o u)
 tbls:∀b ps,H b=some (.tbl ps)→∃more,H' b=some (.tbl (ps++more))
section
variable {fs fs' ex ex':List Addr} {H H1 H2:Hp} {h h1 h2 h':Heap} {a x e:Addr} {o:HO}
theorem Un.any(u:Un fs ex H H1 h h1){b:Addr}{ob:Obj}(q:h.get? b=some ob)(n:H b=none)(hx:b∉ex):∃sl,h1.get? b=some {ob with slots:=sl}:=by
 by_cases hb:b∈fs
 · exact u.slot b ob q n hb hx
 · exact ⟨ob.slots,u.keep b ob q n hb hx⟩
theorem Un.kept(k:∀b u,h.get? b=some u→h'.get? b=some u):Un fs ex H H h h':=
 ⟨fun b ob q _ _ _=>k b ob q,fun b ob q _ _ _=>⟨ob.slots,k b ob q⟩,fun _ _ _ n _=>n,fun b ob q _=>⟨ob,k b ob q⟩,fun _ _ q=>q,fun _ _ _ q=>q,fun _ ps q=>⟨#[],by rw [q];simp⟩⟩
theorem Un.refl:Un fs ex H H h h:=Un.kept fun _ _ q=>q
theorem Un.laid(k:∀b u,h.get? b=some u→h'.get? b=some u)(hp:h.objs.size≤a)(hn:H a=none):Un fs ex H (upd H a o) h h' where
 keep:=fun b u q _ _ _=>k b u q
 slot:=fun b u q _ _ _=>⟨u.slots,k b u q⟩
 free:=fun b u q n _=>by rw [A3 (Fo (Fj (Fl q) hp))];exact n
 there:=fun b u q _=>⟨u,k b u q⟩
 tups:=fun b xs q=>by rw [A3 (A8 q hn)];exact q
 frzs:=fun b u xs q=>by rw [A3 (A8 q hn)];exact q
 tbls:=fun b ps q=>⟨#[],by rw [A3 (A8 q hn),q];simp⟩
theorem Un.write(mu:Mut (H x))(he:e=x∨H e=some (.own x))(k:∀b u,b≠e→h.get? b=some u→h'.get? b=some u)(heo:∃u,h'.get? e=some u):Un fs ex H (upd H x o) h h':=by
 have hx:∀b,H b=none→b≠x:=fun b n z=>by subst z;rw [n]at mu;exact mu
 have hb:∀b,H b=none→b≠e:=fun b n z=>by
  subst z;rcases he with r | r
  · exact hx b n r
  · rw [n]at r;cases r
 have hm:∀b u,H b=some u→¬Mut (some u)→b≠x:=fun b u q nm z=>by subst z;rw [q]at mu;exact nm mu
 refine ⟨fun b u q n _ _=>k b u (hb b n) q,fun b u q n _ _=>⟨u.slots,k b u (hb b n) q⟩,fun b u q n _=>by rw [A3 (hx b n)];exact n,fun b u q _=>?_,
  fun b xs q=>by rw [A3 (hm b _ q fun z=>z)];exact q,fun b u xs q=>by rw [A3 (hm b _ q fun z=>z)];exact q,fun b ps q=>⟨#[],by rw [A3 (hm b _ q fun z=>z),q];simp⟩⟩
 by_cases hbe:b=e
 · subst hbe;exact heo
 · exact ⟨u,k b u hbe q⟩
end
def trk(h:Heap)(H:Hp):List Addr:=(List.range h.objs.size).filter fun a=>(H a).isSome
def Oi(h:Heap)(H:Hp):Heap:=PySem.W.hideAll h (trk h H)
theorem Xd(h:Heap)(H:Hp):(Oi h H).objs.size=h.objs.size:=PySem.W.hideAll_size _ _
theorem M6{h:Heap}{H:Hp}{b:Addr}{o:Obj}(e:h.get? b=some o)(n:H b=none):(Oi h H).get? b=some o:=
 PySem.W.hideAll_get _ e fun hm=>by
  have q:(H b).isSome=true:=(Rp.mp hm).2;rw [n]at q;simp at q
theorem J3x{h:Heap}{H:Hp}{b:Addr}{o:Obj}(e:(Oi h H).get? b=some o):h.get? b=some o∧H b=none:=by
 have e':h.get? b=some o:=PySem.W.of_hideAll (trk h H) e;refine ⟨e',?_⟩
 cases q:H b with
 | none=>rfl
 | some x=>
  have hm:b∈trk h H:=Rp.mpr ⟨HF.mpr (Fl e'),by simp [q]⟩;have z:(Oi h H).get? b=none:=PySem.W.hideAll_none (trk h H) hm;rw [z]at e;cases e
def J3y(g h:Heap)(L:Addr):List (Addr×Obj):=(List.range h.objs.size).filterMap fun a=>if a=L∨(g.get? a).isSome=true then none else (h.get? a).map fun o=>(a,o)
def rest(g h:Heap)(L d:Addr):List (Addr×Obj):=(J3y g h L).filter fun p=>decide (p.1≠d)
end L2
namespace L2
structure Mod(K:PySem.W.Frag)(mg:Str→Option Value)(base:Heap):Prop where
 kin:K.In base
 glob:base.Ns mainGlobals mg
 blt:∃mb,base.Ns builtinsNs mb∧∀x:Str,x≠"__name__"→mb x=bootBuiltins x
 nolimit:base.NoLimit
structure Cx where
 prog:Program
 w:World
 K:PySem.W.Frag
 mg:Str→Option Value
 base:Heap
 A:Around
 N:List Str
 s₀:Shared
 H₀:Hp
 env:Env
 outer:List Env
 stack:List Env
 ex:List Addr
 fn:Str→Bool
 calm:Bool
 pn:List (Addr×Obj)
 xe:Value→Shared→Prop
def frs(l:List Env):List Addr:=l.filterMap (·.frame)
abbrev Cx.fs(X:Cx):List Addr:=frs X.outer
def Vis(sc:Scope)(x:Str):Prop:=sc.names.lookup x=some .local∨sc.names.lookup x=some .cell∨sc.names.lookup x=some .free
def Loc(sc:Scope)(x:Str):Prop:=sc.names.lookup x=some .local∨sc.names.lookup x=some .cell
def Jax(env:Env)(h:Heap)(m:Str→Option Value)(x:Str)(u:Value):Prop:=
 (env.kindOf x=some .local∧m x=some u)∨((env.kindOf x=some .cell∨env.kindOf x=some .free)∧∃c,env.cells.lookup x=some c∧h.IsCell c (some u))
structure Cx.Ok(X:Cx):Prop where
 mod:Mod X.K X.mg X.base
 kind:X.env.scope.kind= .function
 glob:X.env.globals=mainGlobals
 blt:X.env.builtins=builtinsNs
 above:X.s₀.heap.objs.size≤X.env.locals
 inj:∀x y c,X.env.cells.lookup x=some c→X.env.cells.lookup y=some c→x=y
 has:∀x,(X.env.kindOf x=some .cell∨X.env.kindOf x=some .free)→∃c,X.env.cells.lookup x=some c
 cab:∀x c,X.fn x=true→X.env.cells.lookup x=some c→X.s₀.heap.objs.size≤c
 hd:X.calm=true→X.A.handled=none
 frames:X.A.frames=some X.stack
 stk:X.stack=X.outer∨(X.stack=X.env::X.outer∧X.env.frame=some X.env.locals)
 exf:∀b∈X.ex,b≠X.env.locals∧∀x c,X.env.cells.lookup x=some c→c≠b
 bs:∀b o,X.base.get? b=some o→X.s₀.heap.get? b=some o∧X.H₀ b=none
 bsz:X.base.objs.size≤X.s₀.heap.objs.size
 noex:∀b o,X.base.get? b=some o→b∉X.ex
 exfs:∀b∈X.ex,b∉X.fs
 funs:X.s₀.heap.FunFrames X.base X.outer
 frf:∀b∈X.fs,X.H₀ b=none
structure Inv(X:Cx)(pins:List (Addr×Obj))(σ:List (Option V))(H:Hp)(s:Shared):Prop where
 ok:X.Ok
 os:s.os=X.s₀.os
 bare:AllBare s.gens
 base:Un X.fs X.ex X.H₀ H X.s₀.heap s.heap
 loc:∃m,s.heap.Ns X.env.locals m∧∀(i:Nat) (x:Str) (v:V),X.N[i]?=some x→σ[i]?=some (some v)→Vis X.env.scope x→∃u,An v u∧Jax X.env s.heap m x u
 cell:∀x c,X.env.cells.lookup x=some c→∃v,s.heap.IsCell c v
 free:H X.env.locals=none
 freeC:∀x c,X.env.cells.lookup x=some c→H c=none
 pin:∀p∈X.pn++pins,s.heap.get? p.1=some p.2∧H p.1=none∧p.1≠X.env.locals∧p.1∉X.fs∧∀v,p.2.data≠ .cell v
 hok:HOk X.prog X.w H s.heap
 len:σ.length=X.N.length
section
variable {X:Cx} {pins:List (Addr×Obj)} {σ:List (Option V)} {H H':Hp} {s:Shared} {h':Heap}
theorem Cx.Ok.nofr(ok:X.Ok){b:Addr}{o:Obj}(e:X.base.get? b=some o):b∉X.fs:=fun hb=>by
 have:=(ok.funs.mem hb).1;rw [e]at this;cases this
theorem Inv.bs(I:Inv X pins σ H s):∀b o,X.base.get? b=some o→s.heap.get? b=some o∧H b=none:=fun b o e=>
 ⟨I.base.keep b o (I.ok.bs b o e).1 (I.ok.bs b o e).2 (I.ok.nofr e) (I.ok.noex b o e),I.base.free b o (I.ok.bs b o e).1 (I.ok.bs b o e).2 (I.ok.noex b o e)⟩
theorem Inv.bk(I:Inv X pins σ H s):∀b o,X.base.get? b=some o→s.heap.get? b=some o:=fun b o e=>(I.bs b o e).1
theorem Inv.mod(I:Inv X pins σ H s):Mod X.K X.mg X.base:=I.ok.mod
theorem Inv.kIn(I:Inv X pins σ H s):X.K.In s.heap:=I.ok.mod.kin.keeps I.bk
theorem Inv.lt(I:Inv X pins σ H s):X.env.locals < s.heap.objs.size:=let ⟨_,hn,_⟩:=I.loc;hn.lt
theorem Inv.sz(I:Inv X pins σ H s):X.s₀.heap.objs.size≤s.heap.objs.size:=FG I.ok.above (Rj I.lt)
theorem Inv.nofs(I:Inv X pins σ H s){a:Addr}(h:s.heap.objs.size≤a):a∉X.fs:=fun hb=>by
 obtain ⟨_,o,ho,_⟩:=I.ok.funs.mem hb;exact absurd (Fj (Fl ho) (FG I.sz h)) (Hj _)
theorem Inv.cne(I:Inv X pins σ H s):∀x c,X.env.cells.lookup x=some c→c≠X.env.locals:=fun x c e z=>by
 obtain ⟨v,o,ho,hd⟩:=I.cell x c e;obtain ⟨m,⟨o',es,ep,ho',hd',_⟩,_⟩:=I.loc;rw [z,ho']at ho;cases ho;rw [hd']at hd;cases hd
theorem Inv.funs(I:Inv X pins σ H s):s.heap.FunFrames X.base X.outer:=by
 have all:∀(l:List Env),(∀b∈frs l,b∈X.fs)→X.s₀.heap.FunFrames X.base l→s.heap.FunFrames X.base l:=by
  intro l
  induction l with
  | nil=>intro _ _;trivial
  | cons env r ih=>
   intro hs hl;obtain ⟨hk,⟨L,o,hf,hn,ho,hd⟩,hr⟩:=hl;have hL:L∈X.fs:=hs L (by unfold frs;rw [R5,hf];exact Fu);obtain ⟨sl,e⟩:=I.base.slot L o ho (I.ok.frf L hL) hL fun z=>I.ok.exfs L z hL;exact ⟨hk,⟨L,_,hf,hn,e,hd⟩,ih (fun b hb=>hs b (by unfold frs;rw [R5,hf];exact Fk _ hb)) hr⟩
 exact all X.outer (fun _ hb=>hb) I.ok.funs
theorem Inv.stack(I:Inv X pins σ H s):s.heap.FunFrames X.base X.stack:=by
 rcases I.ok.stk with e | ⟨e,hf⟩
 · rw [e];exact I.funs
 · rw [e]
   obtain ⟨m,hn,_⟩:=I.loc;refine .cons (by rw [I.ok.kind];decide) hf hn ?_ I.funs;exact Heap.get?_none_of_le (FG I.ok.bsz I.ok.above)
theorem Inv.stkSub(I:Inv X pins σ H s):∀b∈frs X.stack,b∈X.env.locals::X.fs:=fun b hb=>by
 rcases I.ok.stk with e | ⟨e,hf⟩
 · rw [e]at hb;exact Fk _ hb
 · rw [e]at hb
   unfold frs at hb;rw [R5,hf]at hb;exact hb
theorem Inv.stkFree(I:Inv X pins σ H s):∀b∈frs X.stack,H b=none:=fun b hb=>by
 rcases Fv.mp (I.stkSub b hb) with e | hb
 · rw [e];exact I.free
 · obtain ⟨_,o,ho,_⟩:=I.ok.funs.mem hb
   exact I.base.free b o ho (I.ok.frf b hb) fun z=>I.ok.exfs b z hb
theorem Inv.step{g':Array GenState}{t':Nat}{d':Drawn}{ch:List Addr}(I:Inv X pins σ H s)
 (hch:∀b∈ch,(b∈X.ex∨X.s₀.heap.objs.size≤b)∧b≠X.env.locals∧(∀x c,X.env.cells.lookup x=some c→c≠b)∧∀p∈X.pn++pins,p.1≠b)
 (keep:∀b o,b≠X.env.locals→b∉X.fs→b∉ch→s.heap.get? b=some o→H b=none→h'.get? b=some o)
 (slot:∀b o,b≠X.env.locals→b∈X.fs→b∉ch→s.heap.get? b=some o→H b=none→∃sl,h'.get? b=some {o with slots:=sl}) (free:∀b o,b∉ch→s.heap.get? b=some o→H b=none→H' b=none)
 (there:∀b o,b∉ch→s.heap.get? b=some o→∃o',h'.get? b=some o')
 (tups:∀b xs,H b=some (.tup xs)→H' b=some (.tup xs)) (frzs:∀b o u,H b=some (.frz o u)→H' b=some (.frz o u)) (tbls:∀b ps,H b=some (.tbl ps)→∃more,H' b=some (.tbl (ps++more)))
 (ns:∀m,s.heap.Ns X.env.locals m→h'.Ns X.env.locals m) (hok:HOk X.prog X.w H' h') (hg:AllBare g'):
 Inv X pins σ H' {s with heap:=h',gens:=g',drawn:=d',toks:=t'}:=by
 have neL:∀b o,X.s₀.heap.get? b=some o→b≠X.env.locals:=fun b o e=>Fo (Fj (Fl e) I.ok.above)
 have neC:∀b o,X.s₀.heap.get? b=some o→b∉X.ex→b∉ch:=fun b o e hx hb=>by
  rcases (hch b hb).1 with z | z
  · exact hx z
  · exact absurd (Fj (Fl e) z) (Hj _)
 have cellK:∀x c,X.env.cells.lookup x=some c→∀v,s.heap.IsCell c v→h'.IsCell c v:=fun x c e v ⟨o,ho,hd⟩=>by
  have nch:c∉ch:=fun z=>(hch c z).2.2.1 x c e rfl
  by_cases hc:c∈X.fs
  · obtain ⟨sl,q⟩:=slot c o (I.cne x c e) hc nch ho (I.freeC x c e)
    exact ⟨_,q,hd⟩
  · exact ⟨o,keep c o (I.cne x c e) hc nch ho (I.freeC x c e),hd⟩
 refine ⟨I.ok,I.os,hg,⟨fun b o e n hb hx=>?_,fun b o e n hb hx=>?_,fun b o e n hx=>?_,fun b o e hx=>?_,fun b xs e=>tups b xs (I.base.tups b xs e),fun b o xs e=>frzs b o xs (I.base.frzs b o xs e),fun b ps e=>?_⟩,?_,fun x c e=>?_,?_,fun x c e=>?_,fun p hp=>?_,hok,I.len⟩
 · exact keep b o (neL b o e) hb (neC b o e hx) (I.base.keep b o e n hb hx) (I.base.free b o e n hx)
 · obtain ⟨sl,e1⟩:=I.base.slot b o e n hb hx
   obtain ⟨sl',e2⟩:=slot b _ (neL b o e) hb (neC b o e hx) e1 (I.base.free b o e n hx);exact ⟨sl',e2⟩
 · obtain ⟨o',e1⟩:=I.base.there b o e hx
   exact free b o' (neC b o e hx) e1 (I.base.free b o e n hx)
 · obtain ⟨o',e1⟩:=I.base.there b o e hx
   exact there b o' (neC b o e hx) e1
 · obtain ⟨m1,e1⟩:=I.base.tbls b ps e
   obtain ⟨m2,e2⟩:=tbls b _ e1;exact ⟨m1++m2,by rw [e2,Array.append_assoc]⟩
 · obtain ⟨m,hn,hl⟩:=I.loc
   refine ⟨m,ns m hn,fun i x v e1 e2 e3=>?_⟩;obtain ⟨u,r,l⟩:=hl i x v e1 e2 e3;refine ⟨u,r,?_⟩;rcases l with l | ⟨k,c,e,z⟩
   · exact .inl l
   · exact .inr ⟨k,c,e,cellK x c e _ z⟩
 · obtain ⟨v,z⟩:=I.cell x c e
   exact ⟨v,cellK x c e v z⟩
 · obtain ⟨m,⟨o,_,_,ho,_⟩,_⟩:=I.loc
   exact free _ o (fun z=>(hch _ z).2.1 rfl) ho I.free
 · obtain ⟨v,o,ho,hd⟩:=I.cell x c e
   exact free c o (fun z=>(hch c z).2.2.1 x c e rfl) ho (I.freeC x c e)
 · obtain ⟨e,n,ne,nf,d⟩:=I.pin p hp
   have nch:p.1∉ch:=fun z=>(hch p.1 z).2.2.2 p hp rfl;exact ⟨keep p.1 p.2 ne nf nch e n,free p.1 p.2 nch e n,ne,nf,d⟩
theorem Inv.un{t':Nat}(I:Inv X pins σ H s)(u:Un X.fs [] H H' s.heap h')(hok:HOk X.prog X.w H' h'):Inv X pins σ H' {s with heap:=h',toks:=t'}:=by
 obtain ⟨m,⟨o,es,ep,ho,r⟩,_⟩:=id I.loc;obtain ⟨sl,hL⟩:=u.any ho I.free (by simp)
 exact I.step (g':=s.gens) (d':=s.drawn) (ch:=[]) (fun _ z=>nomatch z) (fun b o _ hb _ e n=>u.keep b o e n hb (by simp)) (fun b o _ hb _ e n=>u.slot b o e n hb (by simp)) (fun b o _ e n=>u.free b o e n (by simp)) (fun b o _ e=>u.there b o e (by simp)) u.tups u.frzs u.tbls (fun m' hm=>by
  obtain ⟨o',es',ep',ho',r'⟩:=hm;rw [ho]at ho';cases ho'
  exact ⟨_,es',ep',hL,r'⟩) hok I.bare
theorem Inv.call{g':Array GenState}{t':Nat}{d':Drawn}{ch:List Addr}(I:Inv X pins σ H s)(u:Un (frs X.stack) ch H H' s.heap h')(hok:HOk X.prog X.w H' h')(hg:AllBare g')
 (hch:∀b∈ch,(b∈X.ex∨X.s₀.heap.objs.size≤b)∧b≠X.env.locals∧(∀x c,X.env.cells.lookup x=some c→c≠b)∧∀p∈X.pn++pins,p.1≠b):
 Inv X pins σ H' {s with heap:=h',gens:=g',drawn:=d',toks:=t'}:=by
 obtain ⟨m,⟨o,es,ep,ho,r⟩,_⟩:=id I.loc;obtain ⟨sl,hL⟩:=u.any ho I.free fun z=>(hch _ z).2.1 rfl
 exact I.step (ch:=ch) hch (fun b o hL hb hc e n=>u.keep b o e n (fun z=>(Fv.mp (I.stkSub b z)).elim hL hb) hc) (fun b o _ _ hc e n=>u.any e n hc) (fun b o hc e n=>u.free b o e n hc) (fun b o hc e=>u.there b o e hc) u.tups u.frzs u.tbls (fun m' hm=>by
  obtain ⟨o',es',ep',ho',r'⟩:=hm;rw [ho]at ho';cases ho'
  exact ⟨_,es',ep',hL,r'⟩) hok hg
theorem Inv.turned{t':Nat}{it:Addr}(I:Inv X pins σ H s)(k:∀b o,b≠it→s.heap.get? b=some o→h'.get? b=some o)(hn:H it=none)(hL:it≠X.env.locals)
 (h1:it∈X.ex∨X.s₀.heap.objs.size≤it) (h2:∀x c,X.env.cells.lookup x=some c→c≠it) (h3:∀p∈X.pn++pins,p.1≠it):Inv X pins σ H {s with heap:=h',toks:=t'}:=by
 have nit:∀b u,H b=some u→b≠it:=fun b u e z=>by rw [z,hn]at e;cases e
 refine I.step (g':=s.gens) (d':=s.drawn) (ch:=[it]) (fun b hb=>?_) (fun b o _ _ hc e _=>k b o (fun z=>hc (by simp [z])) e) (fun b o _ _ hc e _=>⟨o.slots,k b o (fun z=>hc (by simp [z])) e⟩) (fun _ _ _ _ n=>n)
  (fun b o hc e=>⟨o,k b o (fun z=>hc (by simp [z])) e⟩) (fun _ _ e=>e) (fun _ _ _ e=>e) (fun b ps e=>⟨#[],by rw [e];simp⟩) (fun m hm=>?_) (fun b u e=>?_) I.bare
 · have e:b=it:=by simpa using hb
   subst e;exact ⟨h1,hL,h2,h3⟩
 · obtain ⟨o,es,ep,ho,r⟩:=hm
   exact ⟨o,es,ep,k _ o (Ne.symm hL) ho,r⟩
 · refine (I.hok b u e).stay (fun c v hc q=>k c v ?_ q) (fun _ q=>q) fun _ _ q=>q
   rcases hc with z | z
   · rw [z];exact nit b u e
   · exact nit c _ z
theorem Inv.tok(I:Inv X pins σ H s)(t:Nat):Inv X pins σ H {s with toks:=t}:=I.un (h':=s.heap) (t':=t) Un.refl I.hok
theorem Inv.kept{t':Nat}(I:Inv X pins σ H s)(k:∀b u,s.heap.get? b=some u→h'.get? b=some u):Inv X pins σ H {s with heap:=h',toks:=t'}:=I.un (Un.kept k) (I.hok.kept k)
theorem Inv.laid{a:Addr}{o:HO}{t':Nat}(I:Inv X pins σ H s)(k:∀b u,s.heap.get? b=some u→h'.get? b=some u)(hp:s.heap.objs.size≤a)(new:Bd X.prog X.w (upd H a o) h' a o):
 Inv X pins σ (upd H a o) {s with heap:=h',toks:=t'}:=I.un (Un.laid k hp (I.hok.fresh hp)) (I.hok.laid k hp new)
theorem Inv.write{x e:Addr}{o:HO}{t':Nat}(I:Inv X pins σ H s)(mu:Mut (H x))(he:e=x∨H e=some (.own x))(k:∀b u,b≠e→s.heap.get? b=some u→h'.get? b=some u)(heo:∃u,h'.get? e=some u)
 (new:Bd X.prog X.w (upd H x o) h' x o):Inv X pins σ (upd H x o) {s with heap:=h',toks:=t'}:=I.un (Un.write mu he k heo) (I.hok.write mu he k heo new)
theorem Inv.weak{σ':List (Option V)}(I:Inv X pins σ H s)(hl:σ'.length=σ.length)(w:∀(i:Nat) v,σ'[i]?=some (some v)→σ[i]?=some (some v)):Inv X pins σ' H s:=
 ⟨I.ok,I.os,I.bare,I.base,let ⟨m,hn,hl'⟩:=I.loc;⟨m,hn,fun i x v e1 e2 e3=>hl' i x v e1 (w i v e2) e3⟩,I.cell,I.free,I.freeC,I.pin,I.hok,hl.trans I.len⟩
theorem Inv.pins_of{pins':List (Addr×Obj)}(I:Inv X pins σ H s)(h:∀p∈pins',s.heap.get? p.1=some p.2∧H p.1=none∧p.1≠X.env.locals∧p.1∉X.fs∧∀v,p.2.data≠ .cell v):Inv X pins' σ H s:=
 ⟨I.ok,I.os,I.bare,I.base,I.loc,I.cell,I.free,I.freeC,fun p hp=>(FF.mp hp).elim (fun z=>I.pin p (Hw _ z)) (h p),I.hok,I.len⟩
theorem Q0{N:List Str}(hN:N.Nodup){i j:Nat}{x:Str}(a:N[i]?=some x)(b:N[j]?=some x):i=j:=by
 obtain ⟨h1,e1⟩:=Fi.mp a;obtain ⟨h2,e2⟩:=Fi.mp b;exact (List.getElem_inj hN).mp (e1.trans e2.symm)
theorem Nj{M:Model}{A:Around}{E:Value→Shared→Prop}{i:Nat}{x:Str}{v:V}{u:Value}{Q:Unit→Shared→Prop}(I:Inv X pins σ H s)(hN:X.N.Nodup)(hi:X.N[i]?=some x)(hx:Loc X.env.scope x)(r:An v u)
 (h:∀s',Inv X pins (σ.set i (some v)) H s'→(∃a,Heap.SameBut a s.heap s'.heap∧(a=X.env.locals∨X.env.cells.lookup x=some a))→Q () s') (hf:X.fn x=true∨X.env.scope.names.lookup x=some .local:=by first | exact .inl rfl | exact .inr rfl | assumption):wpAny M A (storeName X.env x u) Q E s:=by
 obtain ⟨m,hn,hl⟩:=id I.loc
 have hcls:(X.env.scope.kind== .class || (X.env.scope.kind== .module && X.env.locals !=X.env.globals))=false:=by rw [I.ok.kind];rfl
 have hiσ:i < σ.length:=by rw [I.len];exact (Fi.mp hi).1
 have cne:=I.cne
 have tracked:∀{a:Addr} {h':Heap},(∃o,s.heap.get? a=some o∧H a=none)→Heap.SameBut a s.heap h'→HOk X.prog X.w H h':=fun {a h'} ha hs b ob e=>by
  obtain ⟨_,_,hfree⟩:=ha;refine (I.hok b ob e).stay (fun c w' hc q=>(hs.2 c ?_).trans q) (fun _ q=>q) fun _ _ q=>q;rintro rfl;rcases hc with rfl | hc
  · rw [hfree]at e;cases e
  · rw [hfree]at hc;cases hc
 rcases hx with hk | hk
 · refine wpAny_storeName_local hk hn (fun h' hn' hs=>?_) hcls
   obtain ⟨oL,_,_,hoL,_⟩:=id hn;refine h _ ⟨I.ok,I.os,I.bare,⟨fun b o e n hb hx=>?_,fun b o e n hb hx=>?_,I.base.free,fun b o e hx=>?_,I.base.tups,I.base.frzs,I.base.tbls⟩,⟨_,hn',fun j y v' e1 e2 e3=>?_⟩,fun y c e=>?_,I.free,I.freeC,fun p hp=>?_,tracked ⟨oL,hoL,I.free⟩ hs,by simpa using I.len⟩ ⟨_,hs,.inl rfl⟩
   · exact (hs.2 b (Fo (Fj (Fl e) I.ok.above))).trans (I.base.keep b o e n hb hx)
   · obtain ⟨sl,e1⟩:=I.base.slot b o e n hb hx
     exact ⟨sl,(hs.2 b (Fo (Fj (Fl e) I.ok.above))).trans e1⟩
   · obtain ⟨o',e1⟩:=I.base.there b o e hx
     exact ⟨o',(hs.2 b (Fo (Fj (Fl e) I.ok.above))).trans e1⟩
   · by_cases hj:j=i
     · subst hj
       rw [hi]at e1;cases e1;rw [List.getElem?_set_self hiσ]at e2;cases e2;exact ⟨u,r,.inl ⟨hk,by simp⟩⟩
     · rw [List.getElem?_set_ne (Ne.symm hj)]at e2
       obtain ⟨u',r',q⟩:=hl j y v' e1 e2 e3;refine ⟨u',r',?_⟩;rcases q with ⟨k,e⟩ | ⟨k,c,e,z⟩
       · refine .inl ⟨k,?_⟩
         have:y≠x:=fun e=>hj (Q0 hN e1 (e▸hi));simp [this,e]
       · exact .inr ⟨k,c,e,z.sameBut hs (cne y c e)⟩
   · obtain ⟨w',z⟩:=I.cell y c e
     exact ⟨w',z.sameBut hs (cne y c e)⟩
   · obtain ⟨e,n,ne,nf,d⟩:=I.pin p hp
     exact ⟨(hs.2 p.1 ne).trans e,n,ne,nf,d⟩
 · have hfn:X.fn x=true:=by
    rcases hf with z | z
    · exact z
    · rw [z]at hk;cases hk
   obtain ⟨c,hc⟩:=I.ok.has x (.inl hk);obtain ⟨w',z⟩:=I.cell x c hc;refine wpAny_storeName_cell I.ok.kind hk hc z (fun h' hc' hs=>?_);obtain ⟨oc,hoc,hocd⟩:=id z;refine h {s with heap:=h'} ⟨I.ok,I.os,I.bare,⟨fun b o e n hb hx=>?_,fun b o e n hb hx=>?_,I.base.free,fun b o e hx=>?_,I.base.tups,I.base.frzs,I.base.tbls⟩,⟨m,hn.sameBut hs (Ne.symm (cne x c hc)),fun j y v' e1 e2 e3=>?_⟩,fun y c' e=>?_,I.free,I.freeC,fun p hp=>?_,tracked ⟨oc,hoc,I.freeC x c hc⟩ hs,by simpa using I.len⟩ ⟨c,hs,.inr hc⟩
   · exact (hs.2 b (Fo (Fj (Fl e) (I.ok.cab x c hfn hc)))).trans (I.base.keep b o e n hb hx)
   · obtain ⟨sl,e1⟩:=I.base.slot b o e n hb hx
     exact ⟨sl,(hs.2 b (Fo (Fj (Fl e) (I.ok.cab x c hfn hc)))).trans e1⟩
   · obtain ⟨o',e1⟩:=I.base.there b o e hx
     exact ⟨o',(hs.2 b (Fo (Fj (Fl e) (I.ok.cab x c hfn hc)))).trans e1⟩
   · by_cases hj:j=i
     · subst hj
       rw [hi]at e1;cases e1;rw [List.getElem?_set_self hiσ]at e2;cases e2;exact ⟨u,r,.inr ⟨.inl hk,c,hc,hc'⟩⟩
     · rw [List.getElem?_set_ne (Ne.symm hj)]at e2
       obtain ⟨u',r',q⟩:=hl j y v' e1 e2 e3;refine ⟨u',r',?_⟩;rcases q with q | ⟨k,c',e,z'⟩
       · exact .inl q
       · refine .inr ⟨k,c',e,z'.sameBut hs ?_⟩
         rintro rfl;exact hj (Q0 hN e1 (I.ok.inj _ _ _ e hc▸hi))
   · by_cases hcc:c'=c
     · subst hcc;exact ⟨_,hc'⟩
     · obtain ⟨w2,z2⟩:=I.cell y c' e
       exact ⟨w2,z2.sameBut hs hcc⟩
   · obtain ⟨e,n,ne,nf,d⟩:=I.pin p hp
     refine ⟨(hs.2 p.1 ?_).trans e,n,ne,nf,d⟩;intro q;rw [q,hoc]at e;have q':oc=p.2:=FL e;exact d w' (by rw [← q'];exact hocd)
theorem Q1{M:Model}{A:Around}{E:Value→Shared→Prop}{i:Nat}{x:Str}{v:V}{u:Value}{Q:Unit→Shared→Prop}(I:Inv X pins σ H s)(hN:X.N.Nodup)(hi:X.N[i]?=some x)(hx:Loc X.env.scope x)(r:An v u)
 (h:∀s',Inv X pins (σ.set i (some v)) H s'→Q () s') (hf:X.fn x=true∨X.env.scope.names.lookup x=some .local:=by first | exact .inl rfl | exact .inr rfl | assumption):wpAny M A (storeName X.env x u) Q E s:=
 Nj I hN hi hx r (fun s' I' _=>h s' I') hf
theorem Inv.call'{s':Shared}{ch:List Addr}(I:Inv X pins σ H s)(ho:s'.os=s.os)(u:Un (frs X.stack) ch H H' s.heap s'.heap)(hok:HOk X.prog X.w H' s'.heap)(hg:AllBare s'.gens)
 (hch:∀b∈ch,(b∈X.ex∨X.s₀.heap.objs.size≤b)∧b≠X.env.locals∧(∀x c,X.env.cells.lookup x=some c→c≠b)∧∀p∈X.pn++pins,p.1≠b):Inv X pins σ H' s':=by
 obtain ⟨h',g',d',t',o'⟩:=s';have e:o'=s.os:=ho;subst e;exact I.call (g':=g') (t':=t') (d':=d') u hok hg hch
end
abbrev XK:=Value→Option Addr→Hp→Prop
abbrev St:=List (Option V)
abbrev VK:=V→Hp→Prop
abbrev TE:=St→Hp→VK→Prop
abbrev TT:=St→Hp→(Bool→Hp→Prop)→Prop
abbrev TA:=St→Hp→(List V→Hp→Prop)→Prop
structure G5 where
 nx:St→Hp→Prop
 rt:VK
 bk:St→Hp→Prop:=fun _ _=>False
 ct:St→Hp→Prop:=fun _ _=>False
abbrev TS:=G5→St→Hp→Prop
def EP(X:Cx)(pins:List (Addr×Obj))(σ:St)(Q:VK)(u:Value)(s':Shared):Prop:=∃v H',Inv X pins σ H' s'∧An v u∧Q v H'
def TP(X:Cx)(pins:List (Addr×Obj))(σ:St)(Q:Bool→Hp→Prop)(b:Bool)(s':Shared):Prop:=∃H',Inv X pins σ H' s'∧Q b H'
def AP(X:Cx)(pins:List (Addr×Obj))(σ:St)(Q:List V→Hp→Prop)(us:List Value)(s':Shared):Prop:=∃vs H',Inv X pins σ H' s'∧Ao vs us∧Q vs H'
def SP(X:Cx)(pins:List (Addr×Obj))(D:G5)(f:Flow)(s':Shared):Prop:=
 match f with
 | .next=>∃σ' H',Inv X pins σ' H' s'∧D.nx σ' H'
 | .brk=>∃σ' H',Inv X pins σ' H' s'∧D.bk σ' H'
 | .cont=>∃σ' H',Inv X pins σ' H' s'∧D.ct σ' H'
 | .ret u=>∃v σ' H',Inv X pins σ' H' s'∧An v u∧D.rt v H'
def PE(X:Cx)(e:Expr)(t:TE):Prop:=
 ∀(pins:List (Addr×Obj)) (s:Shared) (σ:St) (H:Hp) (Q:VK),Inv X pins σ H s→t σ H Q→wpAny (model X.prog X.w) X.A (eval e X.env) (EP X pins σ Q) X.xe s
def PT(X:Cx)(e:Expr)(t:TT):Prop:=
 ∀(pins:List (Addr×Obj)) (s:Shared) (σ:St) (H:Hp) (Q:Bool→Hp→Prop),Inv X pins σ H s→t σ H Q→wpAny (model X.prog X.w) X.A (isTrue e X.env (eval e X.env)) (TP X pins σ Q) X.xe s
def PW(X:Cx)(e:Expr)(t:TT):Prop:=
 ∀(whole:Sem Value) (pins:List (Addr×Obj)) (s:Shared) (σ:St) (H:Hp) (Q:Bool→Hp→Prop),Inv X pins σ H s→t σ H Q→wpAny (model X.prog X.w) X.A (isTrue e X.env whole) (TP X pins σ Q) X.xe s
theorem PW.pt{X:Cx}{e:Expr}{t:TT}(h:PW X e t):PT X e t:=h _
def PA(X:Cx)(es:List Expr)(t:TA):Prop:=
 ∀(pos:Pos) (pins:List (Addr×Obj)) (s:Shared) (σ:St) (H:Hp) (Q:List V→Hp→Prop),Inv X pins σ H s→t σ H Q→wpAny (model X.prog X.w) X.A (spliced (backTo pos (starEach es X.env))) (AP X pins σ Q) X.xe s
def PS(X:Cx)(st:Stmt)(t:TS):Prop:=
 ∀(pins:List (Addr×Obj)) (s:Shared) (σ:St) (H:Hp) (D:G5),Inv X pins σ H s→t D σ H→wpAny (model X.prog X.w) X.A (exec st X.env) (SP X pins D) X.xe s
def PSs(X:Cx)(st:List Stmt)(t:TS):Prop:=
 ∀(pins:List (Addr×Obj)) (s:Shared) (σ:St) (H:Hp) (D:G5),Inv X pins σ H s→t D σ H→wpAny (model X.prog X.w) X.A (execs st X.env) (SP X pins D) X.xe s
theorem thn{α:Type}{t:Sem α}{Q Q':α→Shared→Prop}{M:Model}{A:Around}{E:Value→Shared→Prop}{s:Shared}(h:wpAny M A t Q E s)(hQ:∀a s,Q a s→Q' a s):wpAny M A t Q' E s:=FT h hQ fun _ _ x=>x
end L2
namespace L2
section
variable {X:Cx}
def J71(i:Nat):TE:=fun σ H Q=>∃v,σ[i]?=some (some v)∧Q v H
def tC(v:V):TE:=fun _ H Q=>Q v H
theorem J72{i:Nat}{x:Str}{pos:Pos}(hN:X.N[i]?=some x)(hv:Vis X.env.scope x)(hd:(x==("__debug__":Str))=false:=by decide)(hcd:(x==("__classdict__":Str))=false:=by decide):PE X (.Name x pos) (J71 i):=by
 intro pins s σ H Q I h;obtain ⟨v,e,h⟩:=h;obtain ⟨m,hn,hl⟩:=I.loc;obtain ⟨u,r,l⟩:=hl i x v hN e hv
 have fin:EP X pins σ Q u s:=⟨v,H,I,r,h⟩
 rcases l with ⟨hk,hm⟩ | ⟨hk,c,hc,hcell⟩
 · exact wpAny_Name (wpAny_loadName_local I.ok.kind hk hn hm fin) hd
 · rcases hk with hk | hk
   · exact wpAny_Name (wpAny_loadName_cell I.ok.kind hk hc hcell fin) hd
   · exact wpAny_Name (wpAny_loadName_free I.ok.kind hk hc hcell fin hcd) hd
theorem Aa{i j pos}:PE X (.Constant (.int i) j pos) (tC (.int i)):=fun _ _ _ H _ I h=>wpAny_Constant_int ⟨.int i,H,I.tok _,⟨_,rfl⟩,h⟩
theorem Cm{b j pos}:PE X (.Constant (.bool b) j pos) (tC (.bl b)):=fun _ _ _ H _ I h=>Constant_bool ⟨.bl b,H,I,rfl,h⟩
theorem J73{j pos}:PE X (.Constant .none j pos) (tC .non):=fun _ _ _ H _ I h=>Constant_none ⟨.non,H,I,rfl,h⟩
theorem Ai{x j pos}:PE X (.Constant (.str x) j pos) (tC (.str x)):=fun _ _ _ H _ I h=>Calls.Constant_str ⟨.str x,H,I.tok _,⟨_,rfl⟩,h⟩
def Gl(X:Cx)(x:Str):Prop:=X.env.kindOf x=some .globalImplicit
theorem K4{E:Value→Shared→Prop}{pins:List (Addr×Obj)}{s:Shared}{σ:St}{H:Hp}{x:Str}{u:Value}{pos:Pos}{Q:Value→Shared→Prop}(I:Inv X pins σ H s)(hg:Gl X x)(hm:X.mg x=some u)(h:Q u s)
 (hd:(x==("__debug__":Str))=false:=by decide):wpAny (model X.prog X.w) X.A (eval (.Name x pos) X.env) Q E s:=
 Calls.Name_function_global I.ok.kind hg (Calls.loadGlobal_global (by rw [I.ok.glob];exact I.mod.glob.keeps I.bk) hm h) hd
theorem Ir{E:Value→Shared→Prop}{pins:List (Addr×Obj)}{s:Shared}{σ:St}{H:Hp}{x:Str}{u:Value}{pos:Pos}{Q:Value→Shared→Prop}(I:Inv X pins σ H s)(hg:Gl X x)(hm:X.mg x=none)(hv:bootBuiltins x=some u)(h:Q u s)
 (hn:x≠"__name__":=by decide) (hd:(x==("__debug__":Str))=false:=by decide):wpAny (model X.prog X.w) X.A (eval (.Name x pos) X.env) Q E s:=by
 obtain ⟨mb,h1,h2⟩:=I.mod.blt;exact Calls.Name_function_global I.ok.kind hg (Calls.loadGlobal_builtin (by rw [I.ok.glob];exact I.mod.glob.keeps I.bk) hm (by rw [I.ok.blt];exact h1.keeps I.bk) ((h2 x hn).trans hv) h) hd
theorem Cu{x:Str}{v:V}{u:Value}{pos:Pos}(hg:Gl X x)(hm:X.mg x=some u)(r:An v u)(hd:(x==("__debug__":Str))=false:=by decide):PE X (.Name x pos) (tC v):=
 fun _ _ _ H _ I h=>K4 I hg hm ⟨v,H,I,r,h⟩ hd
theorem Lr{x:Str}{v:V}{u:Value}{pos:Pos}(hg:Gl X x)(hm:X.mg x=none)(hv:bootBuiltins x=some u)(r:An v u)(hn:x≠"__name__":=by decide)(hd:(x==("__debug__":Str))=false:=by decide):PE X (.Name x pos) (tC v):=
 fun _ _ _ H _ I h=>Ir I hg hm hv ⟨v,H,I,r,h⟩ hn hd
variable {a b:Expr} {ta tb:TE} {pos:Pos}
def PC(X:Cx)(op:CmpOp)(a b:Expr)(t:TE):Prop:=
 ∀(pins:List (Addr×Obj)) (s:Shared) (σ:St) (H:Hp) (Q:VK),Inv X pins σ H s→t σ H Q→
   wpAny (model X.prog X.w) X.A (eval a X.env) (fun v s₁=>wpAny (model X.prog X.w) X.A (eval b X.env) (fun u s₂=>wpAny (model X.prog X.w) X.A (compareOp op v u) (EP X pins σ Q) X.xe s₂) X.xe s₁) X.xe s
theorem Q2(b:Expr){op:CmpOp}(h:op≠ .In)(h2:op≠ .NotIn):behindInMarks op b=false:=by
 have e1:(op==CmpOp.In)=false:=by cases op <;> first | rfl | exact absurd rfl h
 have e2:(op==CmpOp.NotIn)=false:=by cases op <;> first | rfl | exact absurd rfl h2
 cases b <;> simp [behindInMarks,e1,e2]
def tB(t:TE):TT:=fun σ H Q=>t σ H fun x H1=>∃c,x= .bl c∧Q c H1
theorem Yl{op:CmpOp}{t:TE}(h:PC X op a b t)(h1:behindInMarks op b=false:=by first | exact Q2 _ (by decide) (by decide) | rfl):PE X (.Compare a [op] [b] pos) t:=fun pins s σ H Q I hw=>wpAny_Compare1 (h pins s σ H Q I hw) h1
theorem Oj{op:CmpOp}{t:TE}(h:PC X op a b t)(h1:behindInMarks op b=false:=by first | exact Q2 _ (by decide) (by decide) | rfl):PT X (.Compare a [op] [b] pos) (tB t):=by
 intro pins s σ H Q I hw;refine wpAny_isTrue_Compare1 (thn (h pins s σ H _ I hw) fun v s1 h1=>thn h1 fun u s2 h2=>thn h2 fun c s3 hq_=>?_) h1;obtain ⟨x,H1,I1,r1,q1⟩:=hq_;obtain ⟨d,rfl,q⟩:=q1;cases r1;exact Hu ⟨H1,I1,q⟩
theorem Bv{e:Expr}{t:TE}(h:PE X e t)(he:∀whole,isTrue e X.env whole=(do let v ← whole;standAt e.pos;holding [v] (truthy v)):=by intro _;rfl):PT X e (tB t):=by
 intro pins s σ H Q I hw;refine isTrue_plain (thn (h pins s σ H _ I hw) fun v s1 hq_=>?_) (he _);obtain ⟨x,H1,I1,r1,q1⟩:=hq_;obtain ⟨d,rfl,q⟩:=q1;cases r1;exact Hu ⟨H1,I1,q⟩
variable {tA tB':TT} {rest:List Expr}
def J8y(t u:TT):TT:=fun σ H Q=>t σ H fun c H1=>if c=true then u σ H1 Q else Q false H1
def tOr(t u:TT):TT:=fun σ H Q=>t σ H fun c H1=>if c=true then Q true H1 else u σ H1 Q
def J8z(t:TT):TT:=fun σ H Q=>t σ H fun c H1=>Q (!c) H1
theorem Ol(ha:PT X a tA):PW X (.BoolOp .And [a] pos) tA:=by
 intro wh pins s σ H Q I h;refine isTrue_and (thn (ha pins s σ H Q I h) fun c s1 e=>?_)
 cases c with
 | true=>exact isTrue_and_nil e
 | false=>exact e
theorem Iu(ha:PT X a tA):PW X (.BoolOp .Or [a] pos) tA:=by
 intro wh pins s σ H Q I h;refine isTrue_or (thn (ha pins s σ H Q I h) fun c s1 e=>?_)
 cases c with
 | false=>exact isTrue_or_nil e
 | true=>exact e
theorem Om(ha:PT X a tA)(hb:PW X (.BoolOp .And (b::rest) pos) tB'):PW X (.BoolOp .And (a::b::rest) pos) (J8y tA tB'):=by
 intro wh pins s σ H Q I h;refine isTrue_and (thn (ha pins s σ H _ I h) fun c s1 ⟨H1,I1,q1⟩=>?_)
 cases c with
 | true=>exact hb wh pins s1 σ H1 Q I1 q1
 | false=>exact ⟨H1,I1,q1⟩
theorem Li(ha:PT X a tA)(hb:PW X (.BoolOp .Or (b::rest) pos) tB'):PW X (.BoolOp .Or (a::b::rest) pos) (tOr tA tB'):=by
 intro wh pins s σ H Q I h;refine isTrue_or (thn (ha pins s σ H _ I h) fun c s1 ⟨H1,I1,q1⟩=>?_)
 cases c with
 | true=>exact ⟨H1,I1,q1⟩
 | false=>exact hb wh pins s1 σ H1 Q I1 q1
theorem Cb(ha:PT X a tA):PT X (.UnaryOp .Not a pos) (J8z tA):=by
 intro pins s σ H Q I h;exact isTrue_not (ha pins s σ H (fun c H1=>Q (!c) H1) I h)
def J5p(ta tb:TE):TE:=fun σ H Q=>ta σ H fun x H1=>∃c,x= .bl c∧if c=true then tb σ H1 Q else Q (.bl false) H1
def Jay(ta tb:TE):TE:=fun σ H Q=>ta σ H fun x H1=>∃c,x= .bl c∧if c=true then Q (.bl true) H1 else tb σ H1 Q
def J5q(ta:TE):TE:=fun σ H Q=>ta σ H fun x H1=>∃c,x= .bl c∧Q (.bl (!c)) H1
theorem On{op}{t:TE}(h:PE X a t):PE X (.BoolOp op [a] pos) t:=fun pins s σ H Q I hw=>BoolOp_one (h pins s σ H Q I hw)
theorem Oo(ha:PE X a ta)(hb:PE X (.BoolOp .And (b::rest) pos) tb):PE X (.BoolOp .And (a::b::rest) pos) (J5p ta tb):=by
 intro pins s σ H Q I h;refine BoolOp_and (thn (ha pins s σ H _ I h) fun v s1 hq_=>?_);obtain ⟨x,H1,I1,r1,q1⟩:=hq_;obtain ⟨c,rfl,q1⟩:=q1;cases r1;refine Hu ?_
 cases c with
 | true=>exact hb pins s1 σ H1 Q I1 q1
 | false=>exact ⟨.bl false,H1,I1,rfl,q1⟩
theorem J74(ha:PE X a ta):PE X (.UnaryOp .Not a pos) (J5q ta):=by
 intro pins s σ H Q I h;refine UnaryOp_ (thn (ha pins s σ H _ I h) fun v s1 hq_=>?_);obtain ⟨x,H1,I1,r1,q1⟩:=hq_;obtain ⟨c,rfl,q1⟩:=q1;cases r1;exact not_of (Hu ⟨.bl (!c),H1,I1,rfl,q1⟩)
def tIf(t:TT)(ta tb:TE):TE:=fun σ H Q=>t σ H fun c H1=>if c=true then ta σ H1 Q else tb σ H1 Q
theorem Q3{c:Expr}(hc:PT X c tA)(ha:PE X a ta)(hb:PE X b tb):PE X (.IfExp c a b pos) (tIf tA ta tb):=by
 intro pins s σ H Q I h;refine wpAny_IfExp (thn (hc pins s σ H _ I h) fun d s1 ⟨H1,I1,q1⟩=>?_)
 cases d with
 | true=>exact ha pins s1 σ H1 Q I1 q1
 | false=>exact hb pins s1 σ H1 Q I1 q1
end
end L2
namespace L2
def SqL(K:PySem.W.Frag)(H:Hp)(a:Addr)(xs:List V):Prop:=
 Rd H a (.lst xs)∨
  ∃(o:Obj) (its:Array Value) (n:Nat),K.lookup a=some o∧o.cls= .type "list"∧o.dict=none∧o.data= .seq its n∧its.size≤sizeLine∧Ao xs its.toList
def SqT(K:PySem.W.Frag)(H:Hp)(a:Addr)(xs:List V):Prop:=
 Rd H a (.tup xs)∨
  ∃(o:Obj) (its:Array Value) (n:Nat),K.lookup a=some o∧o.cls= .type "tuple"∧o.data= .seq its n∧its.size≤sizeLine∧Ao xs its.toList
def Jaz:Value→Option V
 | .none=>some .non
 | .bool b=>some (.bl b)
 | .int i _=>some (.int i)
 | .str x _=>some (.str x)
 | .bytes b _=>some (.byt b)
 | .float b _=>some (.flt b)
 | .ref a=>some (.ref a)
 | .type n=>some (.ty n)
 | _=>none
theorem An.abs{x:V}{u:Value}(r:An x u):Jaz u=some x:=by
 cases x with
 | non=>cases r;rfl
 | bl _=>cases r;rfl
 | int _=>obtain ⟨t,rfl⟩:=r;rfl
 | str _=>obtain ⟨t,rfl⟩:=r;rfl
 | byt _=>obtain ⟨t,rfl⟩:=r;rfl
 | flt _=>obtain ⟨t,rfl⟩:=r;rfl
 | ref _=>cases r;rfl
 | ty _=>cases r;rfl
theorem An.inj{x y:V}{u:Value}(r:An x u)(q:An y u):x=y:=FL (r.abs.symm.trans q.abs)
theorem Ao.inj:∀{xs ys:List V} {us:List Value},Ao xs us→Ao ys us→xs=ys
 | _,_,_,.nil,.nil=>rfl
 | _,_,_,.cons r t,.cons r' t'=>by rw [r.inj r',Ao.inj t t']
section
variable {X:Cx} {pins:List (Addr×Obj)} {σ:St} {H:Hp} {s:Shared} {a:Addr} {xs ys:List V}
theorem SqL.of{K:PySem.W.Frag}(h:H a=some (.lst xs)):SqL K H a xs:= .inl (.inl h)
theorem SqT.of{K:PySem.W.Frag}(h:H a=some (.tup xs)):SqT K H a xs:= .inl (.inl h)
theorem Inv.list(I:Inv X pins σ H s)(h:SqL X.K H a xs):∃its:List Value,Ao xs its∧PlainL s.heap a its.toArray∧xs.length≤sizeLine:=by
 rcases h with h | ⟨o,its,n,hk,hc,hd,hs,hz,r⟩
 · obtain ⟨z,its,n,r,e⟩:=h.ok I.hok
   exact ⟨its,r,⟨_,n,e,rfl,rfl,rfl⟩,z⟩
 · refine ⟨its.toList,r,⟨o,n,I.kIn a o hk,hc,hd,by simpa using hs⟩,?_⟩
   have e:=r.length;simp only [FE]at e;omega
theorem Inv.tuple(I:Inv X pins σ H s)(h:SqT X.K H a xs):∃its:List Value,Ao xs its∧IsTup s.heap a its.toArray∧xs.length≤sizeLine:=by
 rcases h with h | ⟨o,its,n,hk,hc,hs,hz,r⟩
 · obtain ⟨z,its,r,p⟩:=h.ok I.hok
   exact ⟨its,r,p,z⟩
 · refine ⟨its.toList,r,⟨o,I.kIn a o hk,hc,n,by simpa using hs⟩,?_⟩
   have e:=r.length;simp only [FE]at e;omega
theorem Inv.list_inj(I:Inv X pins σ H s)(h:SqL X.K H a xs)(h':SqL X.K H a ys):xs=ys:=by
 obtain ⟨its,r,⟨o,n,e,_,_,d⟩,_⟩:=I.list h;obtain ⟨its',r',⟨o',n',e',_,_,d'⟩,_⟩:=I.list h';rw [e]at e';cases e';rw [d]at d'
 injection d' with d1 _
 have:its=its':=by simpa using congrArg Array.toList d1
 subst this;exact r.inj r'
end
abbrev Cx.wish(X:Cx)(E:Value→Shared→Prop):Cx:={X with xe:=E}
abbrev Cx.nox(X:Cx):Cx:=X.wish fun _ _=>False
theorem Cx.Ok.wish{X:Cx}(ok:X.Ok)(E:Value→Shared→Prop):(X.wish E).Ok:=
 ⟨ok.mod,ok.kind,ok.glob,ok.blt,ok.above,ok.inj,ok.has,ok.cab,ok.hd,ok.frames,ok.stk,ok.exf,ok.bs,ok.bsz,ok.noex,ok.exfs,ok.funs,ok.frf⟩
theorem Cx.Ok.unwish{X:Cx}{E:Value→Shared→Prop}(ok:(X.wish E).Ok):X.Ok:=
 ⟨ok.mod,ok.kind,ok.glob,ok.blt,ok.above,ok.inj,ok.has,ok.cab,ok.hd,ok.frames,ok.stk,ok.exf,ok.bs,ok.bsz,ok.noex,ok.exfs,ok.funs,ok.frf⟩
section
variable {X:Cx} {pins:List (Addr×Obj)} {σ:St} {H:Hp} {s:Shared} {E:Value→Shared→Prop}
theorem Inv.wish(I:Inv X pins σ H s)(E:Value→Shared→Prop):Inv (X.wish E) pins σ H s:=⟨I.ok.wish E,I.os,I.bare,I.base,I.loc,I.cell,I.free,I.freeC,I.pin,I.hok,I.len⟩
theorem Inv.unwish(I:Inv (X.wish E) pins σ H s):Inv X pins σ H s:=⟨I.ok.unwish,I.os,I.bare,I.base,I.loc,I.cell,I.free,I.freeC,I.pin,I.hok,I.len⟩
theorem SP.unwish{D:G5}{f:Flow}{s':Shared}(h:SP (X.wish E) pins D f s'):SP X pins D f s':=by
 cases f with
 | next=>obtain ⟨σ',H',I,q⟩:=h;exact ⟨σ',H',I.unwish,q⟩
 | brk=>obtain ⟨σ',H',I,q⟩:=h;exact ⟨σ',H',I.unwish,q⟩
 | cont=>obtain ⟨σ',H',I,q⟩:=h;exact ⟨σ',H',I.unwish,q⟩
 | ret u=>obtain ⟨v,σ',H',I,r,q⟩:=h;exact ⟨v,σ',H',I.unwish,r,q⟩
theorem PSs.nox{st:List Stmt}{t:TS}(h:PSs X.nox st t):PSs X st t:=fun pins s σ H D I hw=>
 FT (h pins s σ H D (I.wish _) hw) (fun _ _ q=>q.unwish) fun _ _ z=>False.elim z
end
section
variable {X:Cx} {st:Stmt} {rest:List Stmt} {t u:TS} {e:Expr} {te:TE} {pos:Pos}
def Ym:TS:=fun D σ H=>D.nx σ H
def J90(t u:TS):TS:=fun D σ H=>t {D with nx:=u D} σ H
theorem Ag:PSs X [] Ym:=fun _ _ σ H _ I h=>Rm ⟨σ,H,I,h⟩
theorem A2(h1:PS X st t)(h2:PSs X rest u):PSs X (st::rest) (J90 t u):=by
 intro pins s σ H D I h;refine wpAny_execs_cons (thn (h1 pins s σ H {D with nx:=u D} I h) fun f s1 q=>?_)
 cases f with
 | next=>
  obtain ⟨σ',H',I',q⟩:=q;exact h2 pins s1 σ' H' D I' q
 | ret v=>exact q
 | brk=>exact q
 | cont=>exact q
theorem A5(h1:PS X st t):PSs X [st] t:=by
 intro pins s σ H D I h;refine wpAny_execs_cons (thn (h1 pins s σ H D I h) fun f s1 q=>?_)
 cases f with
 | next=>exact Rm q
 | ret v=>exact q
 | brk=>exact q
 | cont=>exact q
def J75:TS:=fun D σ H=>D.bk σ H
def J91:TS:=fun D σ H=>D.ct σ H
theorem Oq:PS X (.Pass pos) Ym:=fun _ _ σ H _ I h=>wpAny_Pass ⟨σ,H,I,h⟩
theorem Inv.quiet{pins:List (Addr×Obj)}{σ:St}{H:Hp}{s:Shared}(I:Inv X pins σ H s):interactive X.env=false:=by simp [interactive,I.ok.kind]
def J5r(te:TE):TS:=fun D σ H=>te σ H fun _ H1=>D.nx σ H1
theorem B0(he:PE X e te)(hs:swapsWith e none pos.line X.env=pure false:=by rfl):PS X (.Expr e pos) (J5r te):=by
 intro pins s σ H D I h;exact wpAny_Expr_any (thn (he pins s σ H _ I h) fun v s1 ⟨x,H1,I1,r1,q1⟩=>⟨σ,H1,I1,q1⟩) I.quiet hs
def J92(te:TE):TS:=fun D σ H=>te σ H D.rt
theorem Ac(he:PE X e te):PS X (.Return (some e) pos) (J92 te):=by
 intro pins s σ H D I h;exact wpAny_Return_some (thn (he pins s σ H _ I h) fun v s1 ⟨x,H1,I1,r1,q1⟩=>⟨x,σ,H1,I1,r1,q1⟩)
def J93:TS:=fun D _ H=>D.rt .non H
def J94(c:TT)(t u:TS):TS:=fun D σ H=>c σ H fun b H1=>if b=true then t D σ H1 else u D σ H1
theorem Ay{c:Expr}{a b:List Stmt}{tc:TT}(hc:PT X c tc)(ha:PSs X a t)(hb:PSs X b u):PS X (.If c a b pos) (J94 tc t u):=by
 intro pins s σ H D I h;refine wpAny_If (thn (hc pins s σ H _ I h) fun d s1 ⟨H1,I1,q1⟩=>?_)
 cases d with
 | true=>exact ha pins s1 σ H1 D I1 q1
 | false=>exact hb pins s1 σ H1 D I1 q1
def Yn:TS:=fun _ _ _=>False
theorem Az:PS X st Yn:=fun _ _ _ _ _ _ h=>h.elim
end
abbrev TG:=V→St→Hp→(St→Hp→Prop)→Prop
abbrev TGs:=List V→St→Hp→(St→Hp→Prop)→Prop
def PG(X:Cx)(target:Expr)(t:TG):Prop:=
 ∀(pins:List (Addr×Obj)) (s:Shared) (σ:St) (H:Hp) (v:V) (u:Value) (Q:St→Hp→Prop),Inv X pins σ H s→An v u→t v σ H Q→
   wpAny (model X.prog X.w) X.A (assign target X.env u) (fun _ s'=>∃σ' H',Inv X pins σ' H' s'∧Q σ' H') X.xe s
def PGs(X:Cx)(ts:List Expr)(t:TGs):Prop:=
 ∀(pins:List (Addr×Obj)) (s:Shared) (σ:St) (H:Hp) (vs:List V) (us:List Value) (Q:St→Hp→Prop),Inv X pins σ H s→Ao vs us→t vs σ H Q→
   wpAny (model X.prog X.w) X.A (assignInOrder ((assignEach ts X.env).map (·.2)) us) (fun _ s'=>∃σ' H',Inv X pins σ' H' s'∧Q σ' H') X.xe s
abbrev Xe:=V→V→V→Hp→(Hp→Prop)→Prop
def J95(X:Cx)(t:Xe):Prop:=
 ∀(pins:List (Addr×Obj)) (s:Shared) (σ:St) (H:Hp) (o i v:V) (ov iv u:Value) (Q:Hp→Prop),Inv X pins σ H s→An o ov→An i iv→An v u→t o i v H Q→
   wpAny (model X.prog X.w) X.A (setItem ov iv u) (fun _ s'=>∃H',Inv X pins σ H' s'∧Q H') X.xe s
abbrev TIp:=V→V→Hp→VK→Prop
section
variable {X:Cx} {pos:Pos}
def Bz(i:Nat):TG:=fun v σ H Q=>Q (σ.set i (some v)) H
theorem Bj{i:Nat}{x:Str}(hN:X.N.Nodup)(hi:X.N[i]?=some x)(hx:Loc X.env.scope x)(hf:X.fn x=true∨X.env.scope.names.lookup x=some .local:=by first | exact .inl rfl | exact .inr rfl | assumption):PG X (.Name x pos) (Bz i):=by
 intro pins s σ H v u Q I r h;exact wpAny_assign_Name (Q1 I hN hi hx r (fun s' I'=>⟨_,H,I',h⟩) hf)
def J3z:TGs:=fun vs σ H Q=>vs=[]∧Q σ H
def M7(t:TG)(u:TGs):TGs:=fun vs σ H Q=>∃v r,vs=v::r∧t v σ H fun σ' H'=>u r σ' H' Q
theorem Ls:PGs X [] J3z:=by
 intro pins s σ H vs us Q I r h;obtain ⟨e,h⟩:=h;subst e;cases r;exact assignInOrder_nil ⟨σ,H,I,h⟩
theorem Cg{e:Expr}{es:List Expr}{t:TG}{u:TGs}(h1:PG X e t)(h2:PGs X es u)
 (hs:(assignEach (e::es) X.env).map (·.2)=assign e X.env::(assignEach es X.env).map (·.2):=by rfl):PGs X (e::es) (M7 t u):=by
 intro pins s σ H vs us Q I r h;obtain ⟨v,vr,e1,h⟩:=h;subst e1
 cases r with
 | cons r rr=>
  rw [hs];refine assignInOrder_cons (thn (h1 pins s σ H _ _ _ I r h) fun _ s1 hq_=>?_);obtain ⟨σ1,H1,I1,q1⟩:=hq_;exact h2 pins s1 σ1 H1 _ _ Q I1 rr q1
def J40(K:PySem.W.Frag)(n:Nat)(t:TGs):TG:=fun v σ H Q=>∃a xs,v= .ref a∧SqT K H a xs∧xs.length=n∧t xs σ H Q
theorem Os{es:List Expr}{k:Nat}{t:TGs}{n:Nat}(hc:X.calm=true)(h:PGs X es t)
 (hn:(assignEach es X.env).length=n:=by rfl) (hst:(assignEach es X.env).findIdx? (·.1)=none:=by rfl):PG X (.Tuple es k pos) (J40 X.K n t):=by
 intro pins s σ H v u Q I r hw;obtain ⟨a,xs,e1,hq,hl,hw⟩:=hw;subst e1;cases r;obtain ⟨its,rv,ht,hz⟩:=I.tuple hq;refine assign_Tuple_tuple (I.ok.hd hc) ht (by simp [hn,← hl,rv.length]) hst fun h' hx=>?_;have I1:Inv X pins σ H {s with heap:=h'}:=I.kept (t':=s.toks) fun b o e=>hx b o (Fo (Fl e)) e;exact h pins _ σ H xs _ Q I1 (by simpa using rv) hw
def J96(to ti:TE)(t:Xe):TG:=fun v σ H Q=>to σ H fun o H1=>ti σ H1 fun i H2=>t o i v H2 fun H3=>Q σ H3
theorem J76{o i:Expr}{to ti:TE}{t:Xe}(ho:PE X o to)(hi:PE X i ti)(hs:J95 X t)
 (ha:∀v,assign (.Subscript o i pos) X.env v=(do
  let ov ← holding [v] (eval o X.env)
  let iv ← holding [v,ov] (eval i X.env)
  standAt pos
  holding [v,ov,iv] (setItem ov iv v)
  release [v,ov,iv] []):=by intro _;rfl):PG X (.Subscript o i pos) (J96 to ti t):=by
 intro pins s σ H v u Q I r h;rw [ha];refine Fq (HQ (thn (ho pins s σ H _ I h) fun ov s1 hq_=>?_));obtain ⟨x,H1,I1,r1,q1⟩:=hq_;refine Fq (HQ (thn (hi pins s1 σ H1 _ I1 q1) fun iv s2 hq_=>?_));obtain ⟨y,H2,I2,r2,q2⟩:=hq_;refine Fq (wpAny_standAt (Fq (HQ (thn (hs pins s2 σ H2 x y v ov iv u _ I2 r1 r2 r q2) fun _ s3 ⟨H3,I3,q3⟩=>?_))));exact wpAny_release ⟨σ,H3,I3,q3⟩
def Yo(te:TE)(g:TG):TS:=fun D σ H=>te σ H fun x H1=>g x σ H1 D.nx
theorem J77{tg e:Expr}{te:TE}{g:TG}(he:PE X e te)(hg:PG X tg g)(hs:swapsWithSole [tg] e pos.line X.env=pure false:=by rfl)(hw:swappedStores [tg] e X.env=pure none:=by rfl)
 (h1:(assignEach [tg] X.env).map (·.2)=[assign tg X.env]:=by rfl):PS X (.Assign [tg] e pos) (Yo te g):=by
 intro pins s σ H D I h;refine wpAny_Assign_stores (thn (he pins s σ H _ I h) fun v s1 hq_=>?_) hs hw;obtain ⟨x,H1,I1,r1,q1⟩:=hq_;rw [h1];exact thn (hg pins s1 σ H1 x v _ I1 r1 q1) fun _ s2 q=>q
theorem Aj{i:Nat}{x:Str}{e:Expr}{te:TE}{pos':Pos}(hN:X.N.Nodup)(hi:X.N[i]?=some x)(hx:Loc X.env.scope x)(he:PE X e te)(hs:swapsWith e (some (.Name x pos')) pos.line X.env=pure false:=by rfl)(hf:X.fn x=true∨X.env.scope.names.lookup x=some .local:=by first | exact .inl rfl | exact .inr rfl | assumption):
 PS X (.Assign [.Name x pos'] e pos) (Yo te (Bz i)):=by
 intro pins s σ H D I h;refine wpAny_Assign_Name (thn (he pins s σ H _ I h) fun v s1 hq_=>?_) hs;obtain ⟨y,H1,I1,r1,q1⟩:=hq_;exact Q1 I1 hN hi hx r1 (fun s2 I2=>⟨_,H1,I2,q1⟩) hf
def Jb0(i j:Nat)(ta:TA):TS:=fun D σ H=>ta σ H fun vs H1=>∃v w,vs=[v,w]∧D.nx ((σ.set i (some v)).set j (some w)) H1
def J97(i:Nat)(te:TE)(ti:TIp):TS:=fun D σ H=>∃x,σ[i]?=some (some x)∧te σ H fun y H1=>ti x y H1 fun z H2=>D.nx (σ.set i (some z)) H2
def J98(to ti te:TE)(tget:V→V→Hp→VK→Prop)(tip:TIp)(tset:Xe):TS:=fun D σ H=>to σ H fun o H1=>ti σ H1 fun i H2=>tget o i H2 fun x H3=>te σ H3 fun y H4=>tip x y H4 fun z H5=>tset o i z H5 fun H6=>D.nx σ H6
def ipI(f:Int→Int→Int):TIp:=fun x y H Q=>∃i j,x= .int i∧y= .int j∧Q (.int (f i j)) H
end
section
variable {X:Cx} {pos:Pos}
def Yp(c:TT)(tb:TS):TS:=fun D σ H=>∃W:Nat→St→Hp→Prop,(∃m,W m σ H)∧∀m σ H,W m σ H→
 c σ H fun b H1=>if b=true then ∃N:St→Hp→Prop,(∀σ' H',N σ' H'→∃m',m' < m∧W m' σ' H')∧tb {D with nx:=N,ct:=N,bk:=D.nx} σ H1 else D.nx σ H1
theorem Yq{c:Expr}{body:List Stmt}{tc:TT}{tb:TS}(hp:PassesOwn (model X.prog X.w) X.A X.env X.xe)(hc:PT X c tc)(hb:PSs X body tb):PS X (.While c body [] pos) (Yp tc tb):=by
 intro pins s σ H D I h;obtain ⟨W,⟨m0,w0⟩,turn⟩:=h;refine wpAny_While (codeAny_whileLoop (fun n s'=>∃σ' H',Inv X pins σ' H' s'∧W n σ' H') ?_ m0 ⟨σ,H,I,w0⟩);rintro n s1 ⟨σ1,H1,I1,w1⟩;refine HL hp (thn (hc pins s1 σ1 H1 _ I1 (turn n σ1 H1 w1)) fun b s2 ⟨H2,I2,q2⟩=>?_)
 cases b with
 | true=>
  obtain ⟨N,hN,q2⟩:=q2;rw [if_pos rfl];refine HL hp (thn (hb pins s2 σ1 H2 _ I2 q2) fun f s3 q3=>?_)
  cases f with
  | next=>
   obtain ⟨σ3,H3,I3,n3⟩:=q3;obtain ⟨m',hm,w3⟩:=hN σ3 H3 n3;exact ⟨m',hm,σ3,H3,I3,w3⟩
  | cont=>
   obtain ⟨σ3,H3,I3,n3⟩:=q3;obtain ⟨m',hm,w3⟩:=hN σ3 H3 n3;exact ⟨m',hm,σ3,H3,I3,w3⟩
  | brk=>exact q3
  | ret v=>exact q3
 | false=>
  rw [if_neg Ft];exact Rm ⟨σ1,H2,I2,q2⟩
end
structure It where
 go:Nat→Hp→Prop
 yld:Nat→Hp→V→Hp→Prop
 stop:Nat→Hp→Prop
def D3(X:Cx)(pins:List (Addr×Obj))(H:Hp)(b:Addr):Prop:=
 H b=none∧b≠X.env.locals∧b∉X.fs∧(b∈X.ex∨X.s₀.heap.objs.size≤b)∧(∀x c,X.env.cells.lookup x=some c→c≠b)∧∀p∈X.pn++pins,p.1≠b
theorem Inv.fpOk{X:Cx}{pins:List (Addr×Obj)}{σ:St}{H H':Hp}{s:Shared}{b:Addr}(I:Inv X pins σ H s)(hb:s.heap.objs.size≤b)(hn:H' b=none):D3 X pins H' b:=by
 refine ⟨hn,Nat.ne_of_gt (Fj I.lt hb),I.nofs hb,.inr (FG I.sz hb),fun x c e z=>?_,fun p hp z=>?_⟩
 · obtain ⟨v,q⟩:=I.cell x c e
   exact absurd (Fj q.lt (by rw [z];exact hb)) (Hj _)
 · exact absurd (Fj (Fl (I.pin p hp).1) (by rw [z];exact hb)) (Hj _)
structure Xf(P:Program)(w:World)(K:PySem.W.Frag)(tg:Expr)(J:It)(fp:List Addr)(it:Addr)(tn:Nat→Heap→Prop):Prop where
 mem:it∈fp
 obj:∀i h,tn i h→∀b∈fp,∃o,h.get? b=some o∧∀v,o.data≠ .cell v
 keep:∀i h h',tn i h→(∀b∈fp,∀o,h.get? b=some o→h'.get? b=some o)→tn i h'
 item:∀(X:Cx),X.prog=P→X.w=w→X.K=K→X.calm=true→∀(i:Nat) (pins:List (Addr×Obj)) (s:Shared) (σ:St) (H:Hp) (E:Value→Shared→Prop),Inv X pins σ H s→(∀b∈fp,D3 X pins H b)→tn i s.heap→J.go i H→
  wpAny (model P w) X.A (pyNext (.ref it)) (fun r s1=>∃u,r=some u∧
   wpAny (model P w) X.A (letOwnedTupleGo tg (.ref it) u) (fun _ s2=>∃x H',Inv X pins σ H' s2∧An x u∧J.yld i H x H'∧tn (i+1) s2.heap∧∀b∈fp,H' b=none) E s1) E s
 done:∀(X:Cx),X.prog=P→X.w=w→X.K=K→X.calm=true→∀(i:Nat) (pins:List (Addr×Obj)) (s:Shared) (σ:St) (H:Hp) (E:Value→Shared→Prop),Inv X pins σ H s→(∀b∈fp,D3 X pins H b)→tn i s.heap→J.stop i H→
   wpAny (model P w) X.A (pyNext (.ref it)) (fun r s1=>r=none∧Inv X pins σ H s1) E s
 self:∀(A:Around) (i:Nat) (s:Shared) (Q:Value→Shared→Prop) (E:Value→Shared→Prop),tn i s.heap→Q (.ref it) s→wpAny (model P w) A (pyIter (.ref it)) Q E s
abbrev TI:=St→Hp→(It→Hp→Prop)→Prop
def PIE(X:Cx)(pins:List (Addr×Obj))(σ:St)(tg:Expr)(R:It→Hp→Prop)(itv:Value)(s2:Shared):Prop:=
 ∃(it:Addr) (fp:List Addr) (tn:Nat→Heap→Prop) (J:It) (H':Hp),itv= .ref it∧Inv X pins σ H' s2∧Xf X.prog X.w X.K tg J fp it tn∧tn 0 s2.heap∧(∀b∈fp,D3 X pins H' b)∧R J H'
def PI(X:Cx)(tg iter:Expr)(wi:TI):Prop:=
 ∀(pins:List (Addr×Obj)) (s:Shared) (σ:St) (H:Hp) (R:It→Hp→Prop),Inv X pins σ H s→wi σ H R→
   wpAny (model X.prog X.w) X.A (eval iter X.env) (fun v s1=>wpAny (model X.prog X.w) X.A (pyIter v) (PIE X pins σ tg R) X.xe s1) X.xe s
theorem Yr{M:Model}{A:Around}{E:Value→Shared→Prop}{s:Shared}{tg:Expr}{it:Addr}{u:Value}{o:Obj}{n:String}{vs:Array Value}{Q:Unit→Shared→Prop}(ho:s.heap.get? it=some o)(hc:o.cls= .type n)(hd:o.data= .fields vs)
 (hn:["enumerate","zip","dict_itemiterator","dict_reverseitemiterator","odict_iterator","itertools.zip_longest","itertools.pairwise"].contains n=false) (hQ:Q () s):wpAny M A (letOwnedTupleGo tg (.ref it) u) Q E s:=by
 unfold letOwnedTupleGo
 cases tg <;> first
  | exact FK hQ
  | (cases u <;> first
   | exact FK hQ
   | (refine Fq (wpAny_load ho ?_)
      rw [hc,hd];show wpAny M A (if (["enumerate","zip","dict_itemiterator","dict_reverseitemiterator","odict_iterator","itertools.zip_longest","itertools.pairwise"].contains n && vs[0]?==some (rawInt _))=true then _ else _) Q E s;rw [if_neg (by intro h;rw [hn,Bool.false_and]at h;cases h)]
      exact FK hQ))
def Itl(K:PySem.W.Frag)(a:Addr):It:=
 ⟨fun i H=>∃xs x,SqL K H a xs∧xs[i]?=some x,fun i H x H'=>H'=H∧∀xs,SqL K H a xs→xs[i]?=some x,fun i H=>∃xs,SqL K H a xs∧xs.length≤i⟩
def Itt(K:PySem.W.Frag)(a:Addr):It:=
 ⟨fun i H=>∃xs x,SqT K H a xs∧xs[i]?=some x,fun i H x H'=>H'=H∧∀xs,SqT K H a xs→xs[i]?=some x,fun i H=>∃xs,SqT K H a xs∧xs.length≤i⟩
def Itr(lo:Int)(n:Nat):It:=⟨fun i _=>i < n,fun i H x H'=>H'=H∧x= .int (lo+i),fun i _=>n≤i⟩
theorem Xg{P:Program}{w:World}{K:PySem.W.Frag}{tg:Expr}(a it:Addr):Xf P w K tg (Itl K a) [it] it (fun i h=>h.IsListIter it a i) where
 mem:=by simp
 obj:=fun i h st b hb=>by
  have e:b=it:=by simpa using hb
  subst e;obtain ⟨o,e,c,d⟩:=st;exact ⟨o,e,fun v z=>by rw [d]at z;cases z⟩
 keep:=fun i h h' st k=>st.at fun o e=>k it (by simp) o e
 item:=by
  intro X hP hw hK hc i pins s σ H E I hf st hg;subst hP hw hK;obtain ⟨xs,x,hq,hx⟩:=hg;obtain ⟨its,rv,p,hz⟩:=I.list hq;obtain ⟨u,hu,ru⟩:=rv.get hx;obtain ⟨f0,f1,f2,f3,f4,f5⟩:=hf it (by simp);refine wpAny_pyNext_list_item st p.isList (x:=u) (by simpa using hu) fun h' st' sb=>?_;have I1:Inv X pins σ H {s with heap:=h'}:=I.turned (t':=s.toks) (fun b o hb e=>(sb.2 b hb).trans e) f0 f1 f3 f4 f5;obtain ⟨o,e,c,d⟩:=id st';exact ⟨u,rfl,Yr (s:={s with heap:=h'}) e c d (by decide) ⟨x,H,I1,ru,⟨rfl,fun ys hy=>by rw [I.list_inj hy hq];exact hx⟩,st',fun b hb=>(hf b hb).1⟩⟩
 done:=by
   intro X hP hw hK hc i pins s σ H E I hf st hg;subst hP hw hK;obtain ⟨xs,hq,hx⟩:=hg;obtain ⟨its,rv,p,hz⟩:=I.list hq;obtain ⟨f0,f1,f2,f3,f4,f5⟩:=hf it (by simp);have hl:=rv.length
   exact wpAny_pyNext_list_end (I.ok.hd hc) st p.isList (by simp;omega) fun h' eb=>⟨rfl,I.turned (t':=s.toks) (fun b o hb e=>eb b o hb e) f0 f1 f3 f4 f5⟩
 self:=fun _ _ _ _ _ st h=>wpAny_pyIter_listiter st h
theorem Tg{P:Program}{w:World}{K:PySem.W.Frag}{tg:Expr}(it:Addr)(lo:Int)(n:Nat):Xf P w K tg (Itr lo n) [it] it (fun i h=>IsRangeIter h it (lo+(i:Nat) * 1) ((n:Int) - (i:Nat)) 1) where
 mem:=by simp
 obj:=fun i h st b hb=>by
  have e:b=it:=by simpa using hb
  subst e
  exact ⟨_,st,fun v z=>by
   have z':Data.fields _=Data.cell v:=z
   cases z'⟩
 keep:=fun i h h' st k=>k it (by simp) _ st
 item:=by
  intro X hP hw hK hc i pins s σ H E I hf st hg;subst hP hw hK;obtain ⟨f0,f1,f2,f3,f4,f5⟩:=hf it (by simp);have W:=Walks.range (prog:=X.prog) (w:=X.w) (I.ok.hd hc) it lo 1 n;refine W.item i s _ _ hg st fun v h' tk hv st' kk=>?_;obtain ⟨t,rfl⟩:=hv;have I1:Inv X pins σ H {s with heap:=h',toks:=tk}:=I.turned (fun b o hb e=>kk b o (by simpa using hb) e) f0 f1 f3 f4 f5;refine ⟨_,rfl,Yr (s:={s with heap:=h',toks:=tk}) (n:="range_iterator") st' rfl rfl (by decide) ⟨.int (lo+i),H,I1,⟨t,?_⟩,⟨rfl,rfl⟩,st',fun b hb=>(hf b hb).1⟩⟩;rw [Int.mul_one]
 done:=by
   intro X hP hw hK hc i pins s σ H E I hf st hg;subst hP hw hK;obtain ⟨f0,f1,f2,f3,f4,f5⟩:=hf it (by simp)
   exact wpAny_pyNext_range_end (I.ok.hd hc) st (by have:n≤i:=hg;omega) fun h' eb=>⟨rfl,I.turned (t':=s.toks) (fun b o hb e=>eb b o hb e) f0 f1 f3 f4 f5⟩
 self:=fun _ _ _ _ _ st h=>wpAny_pyIter_rangeiter st h
end L2
namespace L2
section
variable {X:Cx} {tg:Expr}
def J5s(K:PySem.W.Frag)(tl:TE):TI:=fun σ H R=>tl σ H fun x H1=>∃a,x= .ref a∧(∃xs,SqL K H1 a xs)∧R (Itl K a) H1
def Jb1(K:PySem.W.Frag)(tl:TE):TI:=fun σ H R=>tl σ H fun x H1=>∃a,x= .ref a∧(∃xs,SqT K H1 a xs)∧R (Itt K a) H1
theorem Cv{l:Expr}{tl:TE}(hl:PE X l tl):PI X tg l (J5s X.K tl):=by
 intro pins s σ H R I h;refine thn (hl pins s σ H _ I h) fun v s1 hq_=>?_;obtain ⟨x,H1,I1,r1,q1⟩:=hq_;obtain ⟨a,e,⟨xs,hq⟩,q⟩:=q1;subst e;cases r1;obtain ⟨its,rv,p,hz⟩:=I1.list hq;refine R8 p.isList ?_;refine ⟨s1.heap.objs.size,[s1.heap.objs.size],_,_,H1,rfl,I1.kept (t':=s1.toks) fun b o e=>Fd _ e,Xg a _,⟨_,Fs _ rfl,rfl,rfl⟩,fun b hb=>?_,q⟩
 have e:b=s1.heap.objs.size:=by simpa using hb
 subst e;exact I1.fpOk (Fg _) (I1.hok.fresh (Fg _))
theorem Ys{pins:List (Addr×Obj)}{σ:St}{H:Hp}{s:Shared}{R:It→Hp→Prop}{E:Value→Shared→Prop}{lo hi:Int}{t u v:Tok}{tk:Nat}(I:Inv X pins σ H s)(h1:-(2 ^ 62)≤lo)(h2:lo < 2 ^ 62)(h3:-(2 ^ 62)≤hi)(h4:hi < 2 ^ 62)
 (q:R (Itr lo (hi - lo).toNat) H):wpAny (model X.prog X.w) X.A (pyIter (.ref s.heap.objs.size)) (PIE X pins σ tg R) E {s with heap:=s.heap.push {cls:= .type "range",data:= .fields #[.int lo t,.int hi u,.int 1 v]},toks:=tk}:=by
 refine wpAny_pyIter_range (IsRange.new ..) (small_one h1 h2 h3 h4) ?_;have I1:Inv X pins σ H {s with heap:=s.heap.push {cls:= .type "range",data:= .fields #[.int lo t,.int hi u,.int 1 v]},toks:=tk}:=I.kept fun b o e=>Fd _ e
 refine ⟨(s.heap.push {cls:= .type "range",data:= .fields #[.int lo t,.int hi u,.int 1 v]}).objs.size,[(s.heap.push {cls:= .type "range",data:= .fields #[.int lo t,.int hi u,.int 1 v]}).objs.size],_,_,H,rfl,
  I1.kept (t':=tk) fun b o e=>Fd _ e,Tg _ lo (hi - lo).toNat,?_,fun b hb=>?_,q⟩
 · have e1:lo+((0:Nat):Int) * 1=lo:=by simp
   have e2:(((hi - lo).toNat:Nat):Int) - ((0:Nat):Int)=Builtin.Range.rangeSize lo hi 1:=by rw [rangeSize_one];split <;> omega
   show IsRangeIter _ _ (lo+((0:Nat):Int) * 1) ((((hi - lo).toNat:Nat):Int) - ((0:Nat):Int)) 1;rw [e1,e2];exact Fs _ rfl
 · have e:b=(s.heap.push {cls:= .type "range",data:= .fields #[.int lo t,.int hi u,.int 1 v]}).objs.size:=by simpa using hb
   subst e;exact I1.fpOk (Fg _) (I1.hok.fresh (Fg _))
def J5t(ta:TA):TI:=fun σ H R=>ta σ H fun vs H1=>∃j:Int,vs=[.int j]∧-(2 ^ 62)≤j∧j < 2 ^ 62∧R (Itr 0 j.toNat) H1
def J99(ta:TA):TI:=fun σ H R=>ta σ H fun vs H1=>∃i j:Int,vs=[.int i,.int j]∧(-(2 ^ 62)≤i∧i < 2 ^ 62∧-(2 ^ 62)≤j∧j < 2 ^ 62)∧R (Itr i (j - i).toNat) H1
theorem Gr{a:Expr}{ta:TA}{p pos:Pos}(hg:Gl X "range")(hm:X.mg "range"=none)(ha:PA X [a] ta)(hs:starEach [a] X.env=[(false,eval a X.env)]:=by rfl):PI X tg (.Call (.Name "range" p) [a] [] pos) (J5t ta):=by
 intro pins s σ H R I h;refine Call_ (Ir I hg hm boot_range (HM (thn (ha pos pins s σ H _ I h) fun us s1 hq_=>?_) hs rfl));obtain ⟨vs,H1,I1,r1,q1⟩:=hq_;obtain ⟨j,e,q1,q2,q⟩:=q1;subst e
 cases r1 with
 | cons r rr=>
  cases rr;obtain ⟨t,rfl⟩:=r;exact call_range_1 (Ys I1 (by omega) (by omega) q1 q2 (by simpa using q))
def J9a(wi:TI)(g:TG)(tb:TS):TS:=fun D σ H=>wi σ H fun J H1=>∃W:Nat→Nat→St→Hp→Prop,(∃m,W 0 m σ H1)∧∀i m σ H,W i m σ H→
 (J.stop i H∧D.nx σ H)∨(J.go i H∧∃N:St→Hp→Prop,(∀σ' H',N σ' H'→∃m',m' < m∧W (i+1) m' σ' H')∧∀x H',J.yld i H x H'→g x σ H' fun σ2 H2=>tb {D with nx:=N,ct:=N,bk:=D.nx} σ2 H2)
def Ky(fp:List Addr)(h:Heap):List (Addr×Obj):=fp.filterMap fun b=>(h.get? b).map fun o=>(b,o)
theorem Eh{fp:List Addr}{h:Heap}{b:Addr}{o:Obj}(hb:b∈fp)(e:h.get? b=some o):(b,o)∈Ky fp h:=List.mem_filterMap.mpr ⟨b,hb,by rw [e];rfl⟩
theorem Xh{fp:List Addr}{h:Heap}{p:Addr×Obj}(hp:p∈Ky fp h):p.1∈fp∧h.get? p.1=some p.2:=by
 obtain ⟨b,hb,e⟩:=List.mem_filterMap.mp hp
 cases q:h.get? b with
 | none=>rw [q]at e;cases e
 | some o=>
  rw [q]at e;have e':(b,o)=p:=FL e;subst e';exact ⟨hb,q⟩
theorem Inv.pinned{pins:List (Addr×Obj)}{σ:St}{H:Hp}{s:Shared}{fp:List Addr}(I:Inv X pins σ H s)(hf:∀b∈fp,D3 X pins H b)(ho:∀b∈fp,∃o,s.heap.get? b=some o∧∀v,o.data≠ .cell v):Inv X (pins++Ky fp s.heap) σ H s:=
 I.pins_of fun p hp=>(FF.mp hp).elim (fun z=>I.pin p (Fx _ z)) fun z=>by
  obtain ⟨hb,e⟩:=Xh z;obtain ⟨f0,f1,f2,_⟩:=hf p.1 hb;obtain ⟨o,e',d⟩:=ho p.1 hb;rw [e]at e';cases e';exact ⟨e,f0,f1,f2,d⟩
theorem Inv.unpinned{pins pl:List (Addr×Obj)}{σ:St}{H:Hp}{s:Shared}(I:Inv X (pins++pl) σ H s):Inv X pins σ H s:=I.pins_of fun p hp=>I.pin p (Fx _ (Hw _ hp))
theorem E2{iter:Expr}{body:List Stmt}{wi:TI}{g:TG}{tb:TS}{pos:Pos}(hp:PassesOwn (model X.prog X.w) X.A X.env X.xe)(hc:X.calm=true)(hi:PI X tg iter wi)(hg:PG X tg g)(hb:PSs X body tb)
 (hs:∀x,foldedSetIterable iter X.env x=pure x:=by intro _;rfl):PS X (.For tg iter body [] pos) (J9a wi g tb):=by
 intro pins s σ H D I h;refine wpAny_For (thn (hi pins s σ H _ I h) fun v s1 h1=>thn h1 fun itv s2 h2=>?_) hs;obtain ⟨it,fp,tn,J,H2,e,I2,T,st2,f2,W,⟨m0,w0⟩,turn⟩:=h2;subst e
 have stat:∀{H':Hp},(∀b∈fp,H' b=none)→∀b∈fp,D3 X pins H' b:=fun hn b hb=>⟨hn b hb,(f2 b hb).2⟩
 refine codeAny_forLoop_any (fun n s'=>∃i σ' H',Inv X pins σ' H' s'∧tn i s'.heap∧(∀b∈fp,H' b=none)∧W i n σ' H') ?_ m0 ⟨0,σ,H2,I2,st2,fun b hb=>(f2 b hb).1,w0⟩;rintro n s3 ⟨i,σ3,H3,I3,st3,fr3,w3⟩;rcases turn i n σ3 H3 w3 with ⟨stop,qn⟩ | ⟨go,N,hN,step⟩
 · refine HL hp (thn (T.done X rfl rfl rfl hc i pins s3 σ3 H3 X.xe I3 (stat fr3) st3 stop) fun r s4 ⟨hr,I4⟩=>?_)
   subst hr;exact Rm ⟨σ3,H3,I4,qn⟩
 · refine HL hp (thn (T.item X rfl rfl rfl hc i pins s3 σ3 H3 X.xe I3 (stat fr3) st3 go) fun r s4 ⟨u,hr,h4⟩=>?_)
   subst hr;refine HL hp (thn h4 fun _ s5 hq_=>?_);obtain ⟨x,H5,I5,r5,y5,st5,fr5⟩:=hq_;have I5':=I5.pinned (stat fr5) (T.obj _ _ st5);refine HL hp (thn (hg _ s5 σ3 H5 x u _ I5' r5 (step x H5 y5)) fun _ s6 hq_=>?_);obtain ⟨σ6,H6,I6,q6⟩:=hq_;refine HL hp (thn (hb _ s6 σ6 H6 _ I6 q6) fun f s7 q7=>?_)
   have again:∀{σ7:St} {H7:Hp},Inv X (pins++Ky fp s5.heap) σ7 H7 s7→N σ7 H7→∃m,m < n∧∃i σ' H',Inv X pins σ' H' s7∧tn i s7.heap∧(∀b∈fp,H' b=none)∧W i m σ' H':=fun {σ7 H7} I7 n7=>by
    obtain ⟨m',hm,w7⟩:=hN σ7 H7 n7;refine ⟨m',hm,i+1,σ7,H7,I7.unpinned,T.keep _ _ _ st5 fun b hb o e=>(I7.pin (b,o) (Fx _ (Fx _ (Eh hb e)))).1,fun b hb=>?_,w7⟩;obtain ⟨o,e,d⟩:=T.obj _ _ st5 b hb;exact (I7.pin (b,o) (Fx _ (Fx _ (Eh hb e)))).2.1
   cases f with
   | next=>obtain ⟨σ7,H7,I7,n7⟩:=q7;exact again I7 n7
   | cont=>obtain ⟨σ7,H7,I7,n7⟩:=q7;exact again I7 n7
   | brk=>obtain ⟨σ7,H7,I7,q7⟩:=q7;exact ⟨σ7,H7,I7.unpinned,q7⟩
   | ret v=>obtain ⟨x7,σ7,H7,I7,r7,q7⟩:=q7;exact ⟨x7,σ7,H7,I7.unpinned,r7,q7⟩
end
theorem Yt{K:PySem.W.Frag}{a:Addr}{xs:List V}{g:TG}{tb:TS}{D:G5}{σ:St}{H:Hp}(Pv:Nat→St→Hp→Prop)(h0:Pv 0 σ H)(hl:∀i σ H,i≤xs.length→Pv i σ H→SqL K H a xs)
 (hs:∀i x σ H,xs[i]?=some x→Pv i σ H→g x σ H fun σ2 H2=>tb {D with nx:=Pv (i+1),ct:=Pv (i+1),bk:=D.nx} σ2 H2) (hd:∀σ H,Pv xs.length σ H→D.nx σ H):
 ∃W:Nat→Nat→St→Hp→Prop,(∃m,W 0 m σ H)∧∀i m σ H,W i m σ H→
  ((Itl K a).stop i H∧D.nx σ H)∨((Itl K a).go i H∧∃N:St→Hp→Prop,(∀σ' H',N σ' H'→∃m',m' < m∧W (i+1) m' σ' H')∧∀x H',(Itl K a).yld i H x H'→g x σ H' fun σ2 H2=>tb {D with nx:=N,ct:=N,bk:=D.nx} σ2 H2):=by
 refine ⟨fun i m σ H=>m=xs.length - i∧i≤xs.length∧Pv i σ H,⟨xs.length,by simp,FB _,h0⟩,?_⟩;rintro i m σ H ⟨rfl,hi,p⟩;have q:=hl i σ H hi p
 by_cases hlt:i < xs.length
 · refine .inr ⟨⟨xs,xs[i],q,by simp [hlt]⟩,Pv (i+1),fun σ' H' p'=>⟨xs.length - (i+1),by omega,rfl,hlt,p'⟩,fun x H' y=>?_⟩
   obtain ⟨e,y⟩:=y;subst e;exact hs i x σ _ (y xs q) p
 · have e:i=xs.length:=by omega
   subst e;exact .inl ⟨⟨xs,q,Fg _⟩,hd σ H p⟩
theorem Xi{lo:Int}{n:Nat}{g:TG}{tb:TS}{D:G5}{σ:St}{H:Hp}(Pv:Nat→St→Hp→Prop)(h0:Pv 0 σ H)
 (hs:∀i σ H,i < n→Pv i σ H→g (.int (lo+i)) σ H fun σ2 H2=>tb {D with nx:=Pv (i+1),ct:=Pv (i+1),bk:=D.nx} σ2 H2) (hd:∀σ H,Pv n σ H→D.nx σ H):
 ∃W:Nat→Nat→St→Hp→Prop,(∃m,W 0 m σ H)∧∀i m σ H,W i m σ H→
  ((Itr lo n).stop i H∧D.nx σ H)∨((Itr lo n).go i H∧∃N:St→Hp→Prop,(∀σ' H',N σ' H'→∃m',m' < m∧W (i+1) m' σ' H')∧∀x H',(Itr lo n).yld i H x H'→g x σ H' fun σ2 H2=>tb {D with nx:=N,ct:=N,bk:=D.nx} σ2 H2):=by
 refine ⟨fun i m σ H=>m=n - i∧i≤n∧Pv i σ H,⟨n,by simp,FB _,h0⟩,?_⟩;rintro i m σ H ⟨rfl,hi,p⟩
 by_cases hlt:i < n
 · refine .inr ⟨hlt,Pv (i+1),fun σ' H' p'=>⟨n - (i+1),by omega,rfl,hlt,p'⟩,fun x H' y=>?_⟩
   obtain ⟨e,y⟩:=y;subst e y;exact hs i σ _ hlt p
 · have e:i=n:=by omega
   subst e;exact .inl ⟨Fg _,hd σ H p⟩
end L2
namespace L2
abbrev R2:=V→V→Hp→VK→Prop
def OpR(X:Cx)(f:Value→Value→Sem Value)(r:R2):Prop:=
 ∀(pins:List (Addr×Obj)) (s:Shared) (σ:St) (H:Hp) (x y:V) (v u:Value) (Q:VK),Inv X pins σ H s→An x v→An y u→r x y H Q→
   wpAny (model X.prog X.w) X.A (f v u) (EP X pins σ Q) X.xe s
def UnR(X:Cx)(f:Value→Sem Value)(r:V→Hp→VK→Prop):Prop:=
 ∀(pins:List (Addr×Obj)) (s:Shared) (σ:St) (H:Hp) (x:V) (v:Value) (Q:VK),Inv X pins σ H s→An x v→r x H Q→
   wpAny (model X.prog X.w) X.A (f v) (EP X pins σ Q) X.xe s
def D7(X:Cx)(f:Value)(r:List V→Hp→VK→Prop):Prop:=
 ∀(pins:List (Addr×Obj)) (s:Shared) (σ:St) (H:Hp) (xs:List V) (us:List Value) (Q:VK),Inv X pins σ H s→Ao xs us→r xs H Q→
   wpAny (model X.prog X.w) X.A (call f us) (EP X pins σ Q) X.xe s
def tOp(r:R2)(ta tb:TE):TE:=fun σ H Q=>ta σ H fun x H1=>tb σ H1 fun y H2=>r x y H2 Q
def tUn(r:V→Hp→VK→Prop)(ta:TE):TE:=fun σ H Q=>ta σ H fun x H1=>r x H1 Q
def rI(C:Int→Int→Prop)(g:Int→Int→V):R2:=fun x y H Q=>∃i j,x= .int i∧y= .int j∧C i j∧Q (g i j) H
def rI0(g:Int→Int→V):R2:=fun x y H Q=>∃i j,x= .int i∧y= .int j∧Q (g i j) H
def rU(g:Int→V):V→Hp→VK→Prop:=fun x H Q=>∃i,x= .int i∧Q (g i) H
section
variable {X:Cx} {a b c:Expr} {ta tb tc:TE} {pos:Pos}
theorem J78(ha:PE X a ta)(hb:PE X b tb){pins:List (Addr×Obj)}{s:Shared}{σ:St}{H:Hp}{R:V→V→Hp→Prop}(I:Inv X pins σ H s)
 (h:ta σ H fun x H1=>tb σ H1 fun y H2=>R x y H2) {Q:Value→Shared→Prop} {f:Value→Value→Sem Value}
 (hf:∀v u s2 x y H2,Inv X pins σ H2 s2→An x v→An y u→R x y H2→wpAny (model X.prog X.w) X.A (f v u) Q X.xe s2):
 wpAny (model X.prog X.w) X.A (eval a X.env) (fun v s₁=>wpAny (model X.prog X.w) X.A (eval b X.env) (fun u s₂=>wpAny (model X.prog X.w) X.A (f v u) Q X.xe s₂) X.xe s₁) X.xe s:=by
 refine thn (ha pins s σ H _ I h) fun v s1 hq_=>?_;obtain ⟨x,H1,I1,r1,q1⟩:=hq_;refine thn (hb pins s1 σ H1 _ I1 q1) fun u s2 hq_=>?_;obtain ⟨y,H2,I2,r2,q2⟩:=hq_;exact hf v u s2 x y H2 I2 r1 r2 q2
theorem Ah{op:Operator}{r:R2}(ho:OpR X (binaryOp op) r)(ha:PE X a ta)(hb:PE X b tb):PE X (.BinOp a op b pos) (tOp r ta tb):=by
 intro pins s σ H Q I h;exact wpAny_BinOp (J78 ha hb I h fun v u s2 x y H2 I2 rx ry q=>ho pins s2 σ H2 x y v u Q I2 rx ry q)
theorem J9b{op:UnaryOp}{r:V→Hp→VK→Prop}(ho:UnR X (unaryOp op) r)(ha:PE X a ta):PE X (.UnaryOp op a pos) (tUn r ta):=by
 intro pins s σ H Q I h;exact UnaryOp_ (thn (ha pins s σ H _ I h) fun v s1 ⟨x,H1,I1,r1,q1⟩=>ho pins s1 σ H1 x v Q I1 r1 q1)
theorem opI{f:Value→Value→Sem Value}{C:Int→Int→Prop}{g:Int→Int→Int}
 (rule:∀(i j:Int) (t u:Tok) (s:Shared) (Q:Value→Shared→Prop) (E:Value→Shared→Prop),C i j→Q (.int (g i j) s.toks) {s with toks:=s.toks+1}→wpAny (model X.prog X.w) X.A (f (.int i t) (.int j u)) Q E s):
 OpR X f (rI C fun i j=> .int (g i j)):=by
 intro pins s σ H x y v u Q I rx ry h;obtain ⟨i,j,rfl,rfl,hc,q⟩:=h;obtain ⟨t,rfl⟩:=rx;obtain ⟨t',rfl⟩:=ry;exact rule i j t t' s _ _ hc ⟨.int (g i j),H,I.tok _,⟨_,rfl⟩,q⟩
theorem J9c{f:Value→Value→Sem Value}{g:Int→Int→Int}
 (rule:∀(i j:Int) (t u:Tok) (s:Shared) (Q:Value→Shared→Prop) (E:Value→Shared→Prop),Q (.int (g i j) s.toks) {s with toks:=s.toks+1}→wpAny (model X.prog X.w) X.A (f (.int i t) (.int j u)) Q E s):
 OpR X f (rI0 fun i j=> .int (g i j)):=by
 intro pins s σ H x y v u Q I rx ry h;obtain ⟨i,j,rfl,rfl,q⟩:=h;obtain ⟨t,rfl⟩:=rx;obtain ⟨t',rfl⟩:=ry;exact rule i j t t' s _ _ ⟨.int (g i j),H,I.tok _,⟨_,rfl⟩,q⟩
theorem J79{f:Value→Value→Sem Value}{g:Int→Int→Bool}
 (rule:∀(i j:Int) (t u:Tok) (s:Shared) (Q:Value→Shared→Prop) (E:Value→Shared→Prop),Q (.bool (g i j)) s→wpAny (model X.prog X.w) X.A (f (.int i t) (.int j u)) Q E s):
 OpR X f (rI0 fun i j=> .bl (g i j)):=by
 intro pins s σ H x y v u Q I rx ry h;obtain ⟨i,j,rfl,rfl,q⟩:=h;obtain ⟨t,rfl⟩:=rx;obtain ⟨t',rfl⟩:=ry;exact rule i j t t' s _ _ ⟨.bl (g i j),H,I,rfl,q⟩
def J9d(i j:Int):Prop:=0 < j∧j < 1073741824
def J9e(i j:Int):Prop:=0≤j∧j≤1000000∧i.natAbs < 2 ^ 64
def Ti(i j:Int):Prop:=(-(2 ^ 64) < i∧i < 2 ^ 64)∨(-(2 ^ 64) < j∧j < 2 ^ 64)
theorem Ti.ok{i j:Int}(h:Ti i j):IntMulOk i j:=by
 rcases h with ⟨h1,h2⟩ | ⟨h1,h2⟩
 · exact .of_left (intBits_le_64 h1 h2)
 · exact .of_right (intBits_le_64 h1 h2)
theorem E3:OpR X (binaryOp .Add) (rI0 fun i j=> .int (i+j)):=J9c fun _ _ _ _ _ _ _ q=>add_int q
theorem Ot:OpR X (binaryOp .Sub) (rI0 fun i j=> .int (i - j)):=J9c fun _ _ _ _ _ _ _ q=>sub_int q
theorem Tj:OpR X (binaryOp .Mult) (rI Ti fun i j=> .int (i * j)):=opI fun _ _ _ _ _ _ _ hc q=>mul_int q hc.ok
theorem K5:OpR X (binaryOp .FloorDiv) (rI J9d fun i j=> .int (i / j)):=opI fun i j _ _ _ _ _ hc q=>by
 have h1:(0:Int) < j:=hc.1;have h2:j < 1073741824:=hc.2;exact floordiv_int (by omega) (by rw [Int.fdiv_eq_ediv_of_nonneg i (by omega)];exact q) (.inl (PyProof.noPylong_small (by omega)))
theorem Cc:OpR X (binaryOp .Mod) (rI (fun _ j=>0 < j) fun i j=> .int (i % j)):=opI fun i j _ _ _ _ _ hc q=>by
 have h1:(0:Int) < j:=hc;exact mod_int' (by omega) (by rw [Int.fmod_eq_emod_of_nonneg i (by omega)];exact q)
theorem Tl:OpR X (binaryOp .Pow) (rI J9e fun i j=> .int (i ^ j.toNat)):=opI fun _ _ _ _ _ _ _ hc q=>pow_int_small hc.1 hc.2.1 hc.2.2 q
theorem unI{f:Value→Sem Value}{g:Int→Int}
 (rule:∀(i:Int) (t:Tok) (s:Shared) (Q:Value→Shared→Prop) (E:Value→Shared→Prop),Q (.int (g i) s.toks) {s with toks:=s.toks+1}→wpAny (model X.prog X.w) X.A (f (.int i t)) Q E s):
 UnR X f (rU fun i=> .int (g i)):=by
 intro pins s σ H x v Q I rx h;obtain ⟨i,rfl,q⟩:=h;obtain ⟨t,rfl⟩:=rx;exact rule i t s _ _ ⟨.int (g i),H,I.tok _,⟨_,rfl⟩,q⟩
theorem J7a:UnR X (unaryOp .USub) (rU fun i=> .int (-i)):=unI fun _ _ _ _ _ q=>neg_int q
end
def scal:V→V→Bool
 | .non,.non=>true | .non,.int _=>true | .int _,.non=>true | .non,.bl _=>true | .bl _,.non=>true | .non,.str _=>true | .str _,.non=>true
 | .int _,.int _=>true | .bl _,.bl _=>true | .str _,.str _=>true | .byt _,.byt _=>true
 | .int _,.str _=>true | .str _,.int _=>true | .bl _,.str _=>true | .str _,.bl _=>true
 | _,_=>false
def rEq:R2:=fun x y H Q=>scal x y=true∧Q (.bl (decide (x=y))) H
def rNe:R2:=fun x y H Q=>scal x y=true∧Q (.bl (!decide (x=y))) H
theorem Ul{i j:Int}:decide (V.int i=V.int j)=(i==j):=by
 rw [R3];simp
theorem Yu{i j:Bool}:decide (V.bl i=V.bl j)=(i==j):=by
 rw [R3];simp
theorem Um{i j:Str}:decide (V.str i=V.str j)=(i==j):=by
 rw [R3];simp
theorem Uo{i j:Array UInt8}:decide (V.byt i=V.byt j)=(i.toList==j.toList):=by
 rw [R3];cases i;cases j;simp
section
variable {X:Cx} {a b c:Expr} {ta tb tc:TE} {pos:Pos}
theorem B2{pins:List (Addr×Obj)}{σ:St}{H:Hp}{s:Shared}{Q:VK}{k k':Bool}(I:Inv X pins σ H s)(q:Q (.bl k) H)(e:k=k'):EP X pins σ Q (.bool k') s:=by
 subst e;exact ⟨.bl k,H,I,rfl,q⟩
theorem G6:OpR X (compareOp .Eq) rEq:=by
 intro pins s σ H x y v u Q I rx ry h;obtain ⟨hs,q⟩:=h
 cases x with
 | non=>
  cases rx
  cases y with
  | non=>cases ry;exact PySem.EqNone.eq_none_none (B2 I q (by simp))
  | bl j=>cases ry;exact PySem.EqNone.eq_none_bool (B2 I q (by simp))
  | int j=>obtain ⟨t',rfl⟩:=ry;exact PySem.EqNone.eq_none_int (B2 I q (by simp))
  | str j=>obtain ⟨t',rfl⟩:=ry;exact PySem.EqNone.eq_none_str (B2 I q (by simp))
  | _=>exact absurd (show false=true from hs) Ft
 | bl i=>
  cases rx
  cases y with
  | non=>cases ry;exact PySem.EqNone.eq_bool_none (B2 I q (by simp))
  | bl j=>cases ry;exact eq_bool (B2 I q Yu)
  | str j=>obtain ⟨t',rfl⟩:=ry;exact PySem.EqMixed.eq_bool_str (B2 I q (by simp))
  | _=>exact absurd (show false=true from hs) Ft
 | int i=>
  obtain ⟨t,rfl⟩:=rx
  cases y with
  | non=>cases ry;exact PySem.EqNone.eq_int_none (B2 I q (by simp))
  | int j=>obtain ⟨t',rfl⟩:=ry;exact eq_int (B2 I q Ul)
  | str j=>obtain ⟨t',rfl⟩:=ry;exact PySem.EqMixed.eq_int_str (B2 I q (by simp))
  | _=>exact absurd (show false=true from hs) Ft
 | str i=>
  obtain ⟨t,rfl⟩:=rx
  cases y with
  | non=>cases ry;exact PySem.EqNone.eq_str_none (B2 I q (by simp))
  | bl j=>cases ry;exact PySem.EqMixed.eq_str_bool (B2 I q (by simp))
  | int j=>obtain ⟨t',rfl⟩:=ry;exact PySem.EqMixed.eq_str_int (B2 I q (by simp))
  | str j=>obtain ⟨t',rfl⟩:=ry;exact eq_str (B2 I q Um)
  | _=>exact absurd (show false=true from hs) Ft
 | byt i=>
  obtain ⟨t,rfl⟩:=rx
  cases y with
  | byt j=>obtain ⟨t',rfl⟩:=ry;exact PySem.W.eq_bytes (B2 I q Uo)
  | _=>exact absurd (show false=true from hs) Ft
 | _=>cases y <;> exact absurd (show false=true from hs) Ft
theorem Iq:OpR X (compareOp .NotEq) rNe:=by
 intro pins s σ H x y v u Q I rx ry h;obtain ⟨hs,q⟩:=h
 cases x with
 | non=>
  cases rx
  cases y with
  | non=>cases ry;exact PySem.EqNone.ne_none_none (B2 I q (by simp))
  | bl j=>cases ry;exact PySem.EqNone.ne_none_bool (B2 I q (by simp))
  | int j=>obtain ⟨t',rfl⟩:=ry;exact PySem.EqNone.ne_none_int (B2 I q (by simp))
  | str j=>obtain ⟨t',rfl⟩:=ry;exact PySem.EqNone.ne_none_str (B2 I q (by simp))
  | _=>exact absurd (show false=true from hs) Ft
 | bl i=>
  cases rx
  cases y with
  | non=>cases ry;exact PySem.EqNone.ne_bool_none (B2 I q (by simp))
  | bl j=>cases ry;exact ne_bool (B2 I q (congrArg not Yu))
  | str j=>obtain ⟨t',rfl⟩:=ry;exact PySem.EqMixed.ne_bool_str (B2 I q (by simp))
  | _=>exact absurd (show false=true from hs) Ft
 | int i=>
  obtain ⟨t,rfl⟩:=rx
  cases y with
  | non=>cases ry;exact PySem.EqNone.ne_int_none (B2 I q (by simp))
  | int j=>obtain ⟨t',rfl⟩:=ry;exact ne_int (B2 I q (congrArg not Ul))
  | str j=>obtain ⟨t',rfl⟩:=ry;exact PySem.EqMixed.ne_int_str (B2 I q (by simp))
  | _=>exact absurd (show false=true from hs) Ft
 | str i=>
  obtain ⟨t,rfl⟩:=rx
  cases y with
  | non=>cases ry;exact PySem.EqNone.ne_str_none (B2 I q (by simp))
  | bl j=>cases ry;exact PySem.EqMixed.ne_str_bool (B2 I q (by simp))
  | int j=>obtain ⟨t',rfl⟩:=ry;exact PySem.EqMixed.ne_str_int (B2 I q (by simp))
  | str j=>obtain ⟨t',rfl⟩:=ry;exact ne_str (B2 I q (congrArg not Um))
  | _=>exact absurd (show false=true from hs) Ft
 | byt i=>
  obtain ⟨t,rfl⟩:=rx
  cases y with
  | byt j=>obtain ⟨t',rfl⟩:=ry;exact PySem.W.ne_bytes (B2 I q (congrArg not Uo))
  | _=>exact absurd (show false=true from hs) Ft
 | _=>cases y <;> exact absurd (show false=true from hs) Ft
theorem M8:OpR X (compareOp .Lt) (rI0 fun i j=> .bl (decide (i < j))):=J79 fun _ _ _ _ _ _ _ q=>lt_int q
theorem J5u:OpR X (compareOp .LtE) (rI0 fun i j=> .bl (decide (i≤j))):=J79 fun _ _ _ _ _ _ _ q=>le_int q
theorem K6:OpR X (compareOp .Gt) (rI0 fun i j=> .bl (decide (j < i))):=J79 fun _ _ _ _ _ _ _ q=>gt_int q
theorem Xj:OpR X (compareOp .In) (fun x y H Q=>∃i j,x= .str i∧y= .str j∧Q (.bl (!(Builtin.Str.occurrences j i 0 j.length 1).isEmpty)) H):=by
 intro pins s σ H x y v u Q I rx ry h;obtain ⟨i,j,rfl,rfl,q⟩:=h;obtain ⟨t,rfl⟩:=rx;obtain ⟨t',rfl⟩:=ry;exact in_str (B2 I q rfl)
theorem nomark(b:Expr){op:CmpOp}(h:op≠ .In:=by decide)(h2:op≠ .NotIn:=by decide):behindInMarks op b=false:=by
 have e1:(op==CmpOp.In)=false:=by cases op <;> first | rfl | exact absurd rfl h
 have e2:(op==CmpOp.NotIn)=false:=by cases op <;> first | rfl | exact absurd rfl h2
 cases b <;> simp [behindInMarks,e1,e2]
theorem K7{op:CmpOp}{r:R2}(ho:OpR X (compareOp op) r)(ha:PE X a ta)(hb:PE X b tb)(hm:behindInMarks op b=false):PE X (.Compare a [op] [b] pos) (tOp r ta tb):=by
 intro pins s σ H Q I h;exact wpAny_Compare1 (J78 ha hb I h fun v u s2 x y H2 I2 rx ry q=>ho pins s2 σ H2 x y v u Q I2 rx ry q) hm
def J5v(t:TE):TT:=fun σ H Q=>t σ H fun x H'=>∃k,x= .bl k∧Q k H'
theorem Ak{op:CmpOp}{r:R2}(ho:OpR X (compareOp op) r)(ha:PE X a ta)(hb:PE X b tb)(hm:behindInMarks op b=false):PT X (.Compare a [op] [b] pos) (J5v (tOp r ta tb)):=by
 intro pins s σ H Q I h
 refine wpAny_isTrue_Compare1 (thn (ha pins s σ H _ I h) fun v s1 ⟨x,H1,I1,r1,q1⟩=>thn (hb pins s1 σ H1 _ I1 q1) fun u s2 ⟨y,H2,I2,r2,q2⟩=>
  thn (ho pins s2 σ H2 x y v u _ I2 r1 r2 q2) fun c s3 ⟨z,H3,I3,r3,k,e,q3⟩=>?_) hm
 subst e;cases r3;exact Hu ⟨H3,I3,q3⟩
def Yv(r r':R2)(ta tb tc:TE):TE:=fun σ H Q=>ta σ H fun x H1=>tb σ H1 fun y H2=>r x y H2 fun z H3=>∃k,z= .bl k∧
 (if k=true then tc σ H3 fun w' H4=>r' y w' H4 Q else Q (.bl false) H3)
theorem Yw{op op':CmpOp}{r r':R2}(ho:OpR X (compareOp op) r)(ho':OpR X (compareOp op') r')(ha:PE X a ta)(hb:PE X b tb)(hc:PE X c tc)
 (hm:lastMarks [op,op'] [b,c]=false:=by with_unfolding_all rfl):PE X (.Compare a [op,op'] [b,c] pos) (Yv r r' ta tb tc):=by
 intro pins s σ H Q I h
 refine Compare_chain (thn (ha pins s σ H _ I h) fun v s1 ⟨x,H1,I1,r1,q1⟩=>chain_link (thn (hb pins s1 σ H1 _ I1 q1) fun u s2 ⟨y,H2,I2,r2,q2⟩=>
  thn (ho pins s2 σ H2 x y v u _ I2 r1 r2 q2) fun d s3 ⟨z,H3,I3,r3,k,e,q3⟩=>?_)) hm
 subst e;cases r3;refine Hu ?_
 cases k with
 | false=>exact ite_ff ⟨.bl false,H3,I3,rfl,q3⟩
 | true=>exact ite_tt (chain_last (thn (hc pins s3 σ H3 _ I3 q3) fun w' s4 ⟨z',H4,I4,r4,q4⟩=>ho' pins s4 σ H4 y z' u w' Q I4 r2 r4 q4))
theorem Kz:(sizeLine:Nat) < 2 ^ 63:=by rw [sizeLine_eq];decide
theorem Au:OpR X (binaryOp .Add) (fun x y H Q=>∃i j,x= .str i∧y= .str j∧i.length+j.length≤sizeLine∧Q (.str (i++j)) H):=by
 intro pins s σ H x y v u Q I rx ry h;obtain ⟨i,j,rfl,rfl,hz,q⟩:=h;obtain ⟨t,rfl⟩:=rx;obtain ⟨t',rfl⟩:=ry;exact add_str (fun t' tk=>⟨.str (i++j),H,I.tok _,⟨_,rfl⟩,q⟩) hz
theorem Do{x:V}{us:List Value}(r:Ao [x] us):∃u,us=[u]∧An x u:=by
 cases r with
 | cons r1 r2=>cases r2;exact ⟨_,rfl,r1⟩
theorem J5w{x y:V}{us:List Value}(r:Ao [x,y] us):∃u w',us=[u,w']∧An x u∧An y w':=by
 cases r with
 | cons r1 r2=>
  cases r2 with
  | cons r3 r4=>cases r4;exact ⟨_,_,rfl,r1,r3⟩
theorem Xk(hc:X.calm=true):D7 X (.builtin "max") (fun xs H Q=>∃i j,xs=[.int i,.int j]∧Q (.int (if j > i then j else i)) H):=by
 intro pins s σ H xs us Q I r h;obtain ⟨i,j,rfl,q⟩:=h;obtain ⟨u,w',rfl,⟨t,rfl⟩,⟨t',rfl⟩⟩:=J5w r
 refine max_two_ints (I.ok.hd hc) fun h' tk k=>⟨_,H,I.kept k,?_,q⟩
 by_cases hj:j > i
 · rw [if_pos hj,if_pos hj];exact ⟨_,rfl⟩
 · rw [if_neg hj,if_neg hj];exact ⟨_,rfl⟩
theorem Xl:D7 X (.type "int") (fun xs H Q=>(∃i,xs=[.int i]∧Q (.int i) H)∨∃k,xs=[.bl k]∧Q (.int (if k then 1 else 0)) H):=by
 intro pins s σ H xs us Q I r h;rcases h with ⟨i,rfl,q⟩ | ⟨k,rfl,q⟩
 · obtain ⟨u,rfl,t,rfl⟩:=Do r
   exact call_int_int ⟨.int i,H,I,⟨_,rfl⟩,q⟩
 · obtain ⟨u,rfl,r1⟩:=Do r
   cases r1;exact call_int_bool ⟨.int (if k then 1 else 0),H,I.tok _,⟨_,rfl⟩,q⟩
theorem Ci:D7 X (.type "str") (fun xs H Q=>∃i,xs=[.int i]∧i.natAbs.log2 < 1920∧Q (.str (toString i)) H):=by
 intro pins s σ H xs us Q I r h;obtain ⟨i,rfl,hz,q⟩:=h;obtain ⟨u,rfl,t,rfl⟩:=Do r;exact PySem.P.str_of_int hz ⟨.str _,H,I.tok _,⟨_,rfl⟩,q⟩
end
end L2
namespace L2
structure Tn(h:Heap)(x dx C:Addr)(mA:Str→Option Value):Prop where
 obj:h.get? x=some (PySem.W.instObj C dx)
 ns:h.Ns1 dx mA
 ne:dx≠x
theorem Xm{h:Heap}{dx:Addr}{mA:Str→Option Value}(n:h.Ns1 dx mA):∃od,h.get? dx=some od∧∀name,PySem.W.lookIn name od=some (mA name):=by
 obtain ⟨o,es,ep,ho,hd,hk,_,hm⟩:=n;refine ⟨o,ho,fun name=>?_⟩;have e:=hm name;unfold nsFind findBy at e;rw [← Array.find?_toList]at e;unfold PySem.W.lookIn;rw [hd];dsimp only;split
 · rename_i y q
   rw [q]at e;exact congrArg some e
 · rename_i q
   rw [q]at e
   have a:es.toList.any (·.refKey)=false:=by
    rw [List.any_eq_false];intro y hy;obtain ⟨z,t,hkey⟩:=hk y (Array.mem_toList_iff.mp hy);simp [DictEntry.refKey,hkey]
   have a':¬es.toList.any (·.refKey)=true:=by rw [a];exact Ft
   rw [if_neg a'];exact congrArg some e
theorem Tn.look{h:Heap}{x dx C:Addr}{mA:Str→Option Value}(I:Tn h x dx C mA):∃od,PySem.W.InstAt h x (PySem.W.instObj C dx) C (some od)∧∀name,PySem.W.lookIn name od=some (mA name):=
 let ⟨od,ho,hl⟩:=Xm I.ns
 ⟨od,⟨I.obj,rfl,rfl,ho⟩,hl⟩
section
variable {prog:Program} {w:World} {A:Around} {E:Value→Shared→Prop} {s:Shared} {K:PySem.W.Frag} {x dx C f:Addr} {mA:Str→Option Value} {name:Str} {v:Value}
theorem J41{expr:Bool}{Q:Value→Shared→Prop}(X:K.In s.heap)(I:Tn s.heap x dx C mA)(hg:PySem.W.plainGet K C name=true)(hh:PySem.W.hasDictIn K C=true)
 (ha:PySem.W.findIn K (.ref C) name=some none) (hv:mA name=some v) (hv':PySem.W.handedIn v=true) (h:Q v {s with toks:=s.toks+1}):
 wpAny (model prog w) A (getAttr (.ref x) name expr) Q E s:=by
 obtain ⟨od,J,hl⟩:=I.look;exact PySem.W.get_value X J (HP hg).1 (PySem.W.findObj_own hh ha rfl (by rw [hl,hv])) hv' h
theorem Yx{pl:Sem Bool}{Q:Value×List Value→Shared→Prop}(X:K.In s.heap)(I:Tn s.heap x dx C mA)(hg:PySem.W.plainGet K C name=true)
 (hf:PySem.W.findIn K (.ref C) name=some (some (.ref f))) (ht:PySem.W.isFn K (.ref f)=true) (hv:mA name=none) (h:Q (.ref f,[.ref x]) s):
 wpAny (model prog w) A (getMethod (.ref x) name pl) Q E s:=by
 obtain ⟨od,J,hl⟩:=I.look;exact PySem.W.method_fn X J (HP hg).1 (HP hg).2 hf (HN.mp ht) (by show (PySem.W.lookIn name od).map (·.isSome)=some false;rw [hl,hv];rfl) h
theorem J42{ns:List Str}{Q:Unit→Shared→Prop}(X:K.In s.heap)(I:Tn s.heap x dx C mA)
 (hs:PySem.W.findIn K (.ref C) "__setattr__"=some (some (.builtin "object.__setattr__"))) (hp:PySem.W.plainOver K C=true) (ht:PySem.W.takerIn K C name=some none) (hh:PySem.W.hasDictIn K C=true)
 (hw:PySem.Within mA ns) (hsz:ns.length≤sizeLine)
 (h:∀h',Tn h' x dx C (fun y=>if y=name then some v else mA y)→Heap.SameBut dx s.heap h'→Q () {s with heap:=h',toks:=s.toks+2}):
 wpAny (model prog w) A (setAttr (.ref x) name v) Q E s:=by
 obtain ⟨od,J,hl⟩:=I.look;refine PySem.W.set_plain X J hs (PySem.W.osa_open (s:={s with toks:=s.toks+1}) (r:=none) X J hp ht fun b=>?_);obtain ⟨cd,hc,hd'⟩:=PySem.W.any_some hh;have hx:s.heap.get? x=some ⟨.ref C,some dx,.plain,#[]⟩:=I.obj;refine Fq (FK (Fq (Fq (wpAny_loadPart hx (Fq (PySem.W.Looks.here (s:={s with toks:=s.toks+1}) (PySem.W.looks_clsIn X hc) ?_))))));rw [hd'];refine FK (a:=some dx) (Fq (FK (Fq ?_)));refine wpAny_nsSet1 (s:={s with toks:=s.toks+1}) I.ns fun h' hn2 hs2=>?_;obtain ⟨oD,esD,epD,hoD,hdD,hcD⟩:=hn2.count (PySem.Within.cons name v hw);refine Fq (wpAny_lookBehind hoD (by rw [hdD];exact pastItsLine_dict (FG hcD (by rw [List.length_cons];omega))) ?_);exact FK (h _ ⟨(hs2.2 _ (Ne.symm I.ne)).trans I.obj,hn2,I.ne⟩ hs2)
theorem Q4{R:Result→Shared→Prop}{vs:List Value}{kw:List (Str×Value)}(X:K.In s.heap)(hm:PySem.W.makesIn K C=true)
 (hi:PySem.W.findIn K (.ref C) "__init__"=some (some (.ref f))) (hf:PySem.W.typeIn K (.ref f)=some (.type "function"))
 (h:codeAny (model prog w) (A.under (.builtin "type.__call__" ⟨.ref C::vs,kw⟩)) (.call (.ref f) ⟨.ref (s.heap.objs.size+1)::vs,kw⟩) (PySem.W.InitBack (s.heap.objs.size+1) R)
  {s with heap:=(s.heap.push PySem.W.emptyDict).push (PySem.W.instObj C s.heap.objs.size)}):
 codeAny (model prog w) A (.call (.ref C) ⟨vs,kw⟩) R s:=by
 obtain ⟨hh,g,d,t,os⟩:=s;exact PySem.W.make_core (PySem.W.makes_of X hm) (PySem.W.looks_findIn X hi) (fun self=>PySem.W.bind_fn X self hf) (.inl rfl) h
end
def B3(f:Str)(v:V):List (Str×V)→List (Str×V)
 | []=>[(f,v)]
 | (g,x)::r=>if g=f then (g,v)::r else (g,x)::B3 f v r
theorem B4(f g:Str)(v:V):∀fs:List (Str×V),(B3 f v fs).lookup g=if g=f then some v else fs.lookup g
 | []=>by
  show List.lookup g [(f,v)]=_
  by_cases h:g=f
  · have hb:(g==f)=true:=HN.mpr h
    simp only [List.lookup,hb,if_pos h]
  · have hb:(g==f)=false:=Hh.mpr h
    simp only [List.lookup,hb,if_neg h]
 | (k,x)::r=>by
  have ih:=B4 f g v r;rw [show B3 f v ((k,x)::r)=(if k=f then (k,v)::r else (k,x)::B3 f v r) from rfl]
  by_cases hk:k=f
  · rw [if_pos hk]
    by_cases h:g=k
    · have hb:(g==k)=true:=HN.mpr h
      simp only [List.lookup,hb,if_pos (h.trans hk)]
    · have hb:(g==k)=false:=Hh.mpr h
      simp only [List.lookup,hb,if_neg (fun e:g=f=>h (e.trans hk.symm))]
  · rw [if_neg hk]
    by_cases h:g=k
    · have hb:(g==k)=true:=HN.mpr h
      simp only [List.lookup,hb,if_neg (fun e:g=f=>hk (h.symm.trans e))]
    · have hb:(g==k)=false:=Hh.mpr h
      simp only [List.lookup,hb];exact ih
theorem L0(f:Str)(v:V):∀fs:List (Str×V),f∈(B3 f v fs).map (·.1)∧∀g,g∈fs.map (·.1)→g∈(B3 f v fs).map (·.1)
 | []=>⟨by simp [B3],fun g h=>by simp at h⟩
 | (k,x)::r=>by
  obtain ⟨i1,i2⟩:=L0 f v r;rw [show B3 f v ((k,x)::r)=(if k=f then (k,v)::r else (k,x)::B3 f v r) from rfl]
  by_cases hk:k=f
  · rw [if_pos hk]
    subst hk;exact ⟨by simp,fun g h=>by simpa using h⟩
  · rw [if_neg hk]
    refine ⟨?_,fun g h=>?_⟩
    · rw [List.map_cons]
      exact Fk _ i1
    · rw [List.map_cons]at h ⊢
      rcases Fv.mp h with e | e
      · exact Fv.mpr (.inl e)
      · exact Fk _ (i2 g e)
theorem Dq(f:Str)(v:V):∀fs:List (Str×V),(B3 f v fs).length≤fs.length+1
 | []=>by simp [B3]
 | (k,x)::r=>by
  have ih:=Dq f v r;rw [show B3 f v ((k,x)::r)=(if k=f then (k,v)::r else (k,x)::B3 f v r) from rfl]
  by_cases hk:k=f
  · rw [if_pos hk,List.length_cons,List.length_cons];omega
  · rw [if_neg hk,List.length_cons,List.length_cons];omega
theorem E6.some_of{v:V}{o:Option Value}(r:E6 (some v) o):∃u,o=some u∧An v u:=by
 cases o with
 | none=>exact (show False from r).elim
 | some u=>exact ⟨u,rfl,r⟩
theorem E6.none_of{o:Option Value}(r:E6 none o):o=none:=by
 cases o with
 | none=>rfl
 | some u=>exact (show False from r).elim
theorem Xn{v:V}{u:Value}(r:An v u):PySem.W.handedIn u=true:=by
 cases v with
 | non=>cases (show u=Value.none from r);rfl
 | bl b=>cases (show u=Value.bool b from r);rfl
 | int i=>obtain ⟨t,e⟩:=(show ∃t,u=Value.int i t from r);cases e;rfl
 | str x=>obtain ⟨t,e⟩:=(show ∃t,u=Value.str x t from r);cases e;rfl
 | byt b=>obtain ⟨t,e⟩:=(show ∃t,u=Value.bytes b t from r);cases e;rfl
 | flt b=>obtain ⟨t,e⟩:=(show ∃t,u=Value.float b t from r);cases e;rfl
 | ref a=>cases (show u=Value.ref a from r);rfl
 | ty n=>cases (show u=Value.type n from r);rfl
section
variable {P:Program} {w:World} {H H':Hp} {h h':Heap} {a C dx:Addr} {fs fs':List (Str×V)}
theorem K8(hok:HOk P w H h)(e:H a=some (.ins C dx fs)):∃mA,Tn h a dx C mA∧(∀f,E6 (fs.lookup f) (mA f))∧PySem.Within mA (fs.map (·.1))∧fs.length≤1000∧H dx=some (.own a):=by
 obtain ⟨d,z,ne,ob,mA,n,r,q⟩:=(show Bd P w H h a (.ins C dx fs) from hok a _ e)
 exact ⟨mA,⟨ob,n,ne⟩,r,q,z,d⟩
end
structure Cls(K:PySem.W.Frag)(C:Addr):Prop where
 pg:PySem.W.plainGet K C Str.empty=true
 hd:PySem.W.hasDictIn K C=true
 po:PySem.W.plainOver K C=true
 sa:PySem.W.findIn K (.ref C) "__setattr__"=some (some (.builtin "object.__setattr__"))
theorem Cls.get{K:PySem.W.Frag}{C:Addr}(c:Cls K C)(f:Str):PySem.W.plainGet K C f=true:=c.pg
def Ap(K:PySem.W.Frag)(C:Addr)(f:Str):Prop:=PySem.W.findIn K (.ref C) f=some none
theorem Ap.taker{K:PySem.W.Frag}{C:Addr}{f:Str}(n:Ap K C f):PySem.W.takerIn K C f=some none:=by
 unfold PySem.W.takerIn;rw [show PySem.W.findIn K (.ref C) f=some none from n];rfl
structure Xo(K:PySem.W.Frag)(C:Addr)(m:Str)(f:Addr):Prop where
 at_:PySem.W.findIn K (.ref C) m=some (some (.ref f))
 fn:PySem.W.isFn K (.ref f)=true
 kp:PySem.W.keepIn K (.ref f)=true
section
variable {X:Cx} {pins:List (Addr×Obj)} {σ:St} {H:Hp} {s:Shared} {a C dx:Addr} {fs:List (Str×V)} {f:Str} {v:V} {A:Around} {E:Value→Shared→Prop}
theorem M9{b:Bool}{Q:Value→Shared→Prop}(I:Inv X pins σ H s)(e:H a=some (.ins C dx fs))(c:Cls X.K C)(n:Ap X.K C f)(l:fs.lookup f=some v)
 (h:∀u s',Inv X pins σ H s'→An v u→Q u s'):wpAny (model X.prog X.w) A (getAttr (.ref a) f b) Q E s:=by
 obtain ⟨mA,O,r,_,_,_⟩:=K8 I.hok e;obtain ⟨u,hu,ru⟩:=E6.some_of (v:=v) (o:=mA f) (by rw [← l];exact r f);exact J41 I.kIn O (c.get f) c.hd n hu (Xn ru) (h u _ (I.tok _) ru)
theorem Iv{m:Str}{g:Addr}{pl:Sem Bool}{Q:Value×List Value→Shared→Prop}(I:Inv X pins σ H s)(e:H a=some (.ins C dx fs))(c:Cls X.K C)(k:Xo X.K C m g)(l:fs.lookup m=none)
 (h:Q (.ref g,[.ref a]) s):wpAny (model X.prog X.w) A (getMethod (.ref a) m pl) Q E s:=by
 obtain ⟨mA,O,r,_,_,_⟩:=K8 I.hok e;have hn:mA m=none:=E6.none_of (by rw [← l];exact r m);exact Yx I.kIn O (c.get m) k.at_ k.fn hn h
theorem Ma{y:V}{u:Value}{Q:Unit→Shared→Prop}(I:Inv X pins σ H s)(e:H a=some (.ins C dx fs))(c:Cls X.K C)(n:Ap X.K C f)(hl:fs.length < 1000)(ry:An y u)
 (h:∀s',Inv X pins σ (upd H a (.ins C dx (B3 f y fs))) s'→Q () s'):wpAny (model X.prog X.w) A (setAttr (.ref a) f u) Q E s:=by
 obtain ⟨mA,O,r,wi,_,ho⟩:=K8 I.hok e
 have hz:(fs.map (·.1)).length≤sizeLine:=by rw [Fa,sizeLine_eq];omega
 refine J42 I.kIn O c.sa c.po n.taker c.hd wi hz fun h' O' sb=>h _ ?_;have hd:∃o,h'.get? dx=some o:=let ⟨o,_,_,e',_⟩:=O'.ns;⟨o,e'⟩;refine I.write (x:=a) (e:=dx) (by rw [e];exact True.intro) (.inr ho) (fun b q hb z=>(sb.2 b hb).trans z) hd ?_;refine ⟨by rw [A3 O.ne];exact ho,?_,O.ne,O'.obj,_,O'.ns,fun g=>?_,fun g hg=>?_⟩
 · have:=Dq f y fs;omega
 · show E6 ((B3 f y fs).lookup g) (if g=f then some u else mA g)
   rw [B4]
   by_cases q:g=f
   · rw [if_pos q,if_pos q];exact ry
   · rw [if_neg q,if_neg q];exact r g
 · by_cases q:g=f
   · rw [q];exact (L0 f y fs).1
   · refine (L0 f y fs).2 g (wi g fun z=>hg ?_)
     show (if g=f then some u else mA g)=none;rw [if_neg q];exact z
theorem Inv.made(I:Inv X pins σ H s):Inv X pins σ (upd (upd H s.heap.objs.size (.own (s.heap.objs.size+1))) (s.heap.objs.size+1) (.ins C s.heap.objs.size []))
 {s with heap:=(s.heap.push PySem.W.emptyDict).push (PySem.W.instObj C s.heap.objs.size)}:=by
 have e1:(s.heap.push PySem.W.emptyDict).get? s.heap.objs.size=some PySem.W.emptyDict:=Fs s.heap rfl
 have e2:((s.heap.push PySem.W.emptyDict).push (PySem.W.instObj C s.heap.objs.size)).get? (s.heap.objs.size+1)=some (PySem.W.instObj C s.heap.objs.size):=by
  have:=Fs (s.heap.push PySem.W.emptyDict) (o:=PySem.W.instObj C s.heap.objs.size) rfl
  rwa [Ru]at this
 have e3:(s.heap.push PySem.W.emptyDict).Ns s.heap.objs.size (fun _=>none):=⟨PySem.W.emptyDict,#[],_,e1,rfl,(fun e he=>absurd he (by simp)),fun _=>rfl⟩
 have I1:=I.laid (a:=s.heap.objs.size) (o:= .own (s.heap.objs.size+1)) (h':=s.heap.push PySem.W.emptyDict) (t':=s.toks) (fun b u q=>Fd _ q) (Fg _) ⟨_,e1⟩;refine I1.laid (a:=s.heap.objs.size+1) (o:= .ins C s.heap.objs.size []) (t':=s.toks) (fun b u q=>Fd _ q) (R6 (Ru _ _)) ?_;have ne:s.heap.objs.size≠s.heap.objs.size+1:=Fo (HE _);refine ⟨by rw [A3 ne,A1],FB _,ne,e2,fun _=>none,(Heap.Ns1.of_empty e3).at fun o q=>Fd _ q,fun _=>True.intro,fun y hy=>absurd rfl hy⟩
theorem Up{prog:Program}{w:World}{env:Env}{e:Expr}{f:Str}{pos:Pos}{s:Shared}{Q:Value→Shared→Prop}(hb:attributeBase e f env (eval e env)=eval e env)
 (h:wpAny (model prog w) A (eval e env) (fun o s₁=>wpAny (model prog w) A (getAttr o f true) Q E s₁) E s):wpAny (model prog w) A (eval (.Attribute e f pos) env) Q E s:=
 Attribute_any_ h (by rw [arm_eval_Attribute,hb])
end
def J9f(K:PySem.W.Frag)(ta:TE)(f:Str):TE:=fun σ H Q=>ta σ H fun x H1=>∃a C dx fs v,x= .ref a∧H1 a=some (.ins C dx fs)∧Cls K C∧Ap K C f∧fs.lookup f=some v∧Q v H1
def J9g(K:PySem.W.Frag)(ta tv:TE)(f:Str):TS:=fun D σ H=>tv σ H fun y H1=>ta σ H1 fun x H2=>∃a C dx fs,x= .ref a∧H2 a=some (.ins C dx fs)∧Cls K C∧Ap K C f∧fs.length < 1000∧
 D.nx σ (upd H2 a (.ins C dx (B3 f y fs)))
def J9h(X:Cx)(op:Operator)(rd:V→V→Hp→VK→Prop):Prop:=
 ∀(pins:List (Addr×Obj)) (s:Shared) (σ:St) (H:Hp) (x y:V) (u v:Value) (Q:VK),Inv X pins σ H s→An x u→An y v→rd x y H Q→wpAny (model X.prog X.w) X.A (inplaceOp op u v) (EP X pins σ Q) X.xe s
def Uq(K:PySem.W.Frag)(ta tv:TE)(rd:V→V→Hp→VK→Prop)(f:Str):TS:=fun D σ H=>ta σ H fun x H1=>∃a C dx fs v,x= .ref a∧H1 a=some (.ins C dx fs)∧Cls K C∧Ap K C f∧fs.lookup f=some v∧
 tv σ H1 fun y H2=>rd v y H2 fun z H3=>∃dx' fs',H3 a=some (.ins C dx' fs')∧fs'.length < 1000∧D.nx σ (upd H3 a (.ins C dx' (B3 f z fs')))
section
variable {X:Cx} {o e value:Expr} {f:Str} {pos pos' tpos:Pos} {ta tv:TE}
theorem Av(he:PE X e ta)(hb:attributeBase e f X.env (eval e X.env)=eval e X.env):PE X (.Attribute e f pos) (J9f X.K ta f):=by
 intro pins s σ H Q I h;refine Up hb (thn (he pins s σ H _ I h) fun u s1 hq_=>?_);obtain ⟨x,H1,I1,rx,a,C,dx,fs,v,ex,ea,c,n,l,q⟩:=hq_;subst ex;obtain rfl:u=Value.ref a:=rx
 exact M9 I1 ea c n l fun u' s2 I2 ru=>⟨v,H1,I2,ru,q⟩
theorem C1(ha:PE X o ta)(hv:PE X value tv)(hs:swapsWith value (some (.Attribute o f pos')) pos.line X.env=pure false):PS X (.Assign [.Attribute o f pos'] value pos) (J9g X.K ta tv f):=by
 intro pins s σ H D I h;refine plainObj_wpAny_Assign_Attribute (thn (hv pins s σ H _ I h) fun u s1 ⟨y,H1,I1,ry,q⟩=>thn (ha pins s1 σ H1 _ I1 q) fun ov s2 hq_=>?_) hs;obtain ⟨x,H2,I2,rx,a,C,dx,fs,ex,ea,c,n,l,q2⟩:=hq_;subst ex;obtain rfl:ov=Value.ref a:=rx
 exact Ma I2 ea c n l ry fun s3 I3=>⟨σ,_,I3,q2⟩
theorem Nk{op:Operator}{rd:V→V→Hp→VK→Prop}(ha:PE X o ta)(hv:PE X value tv)(hop:J9h X op rd):PS X (.AugAssign (.Attribute o f tpos) op value pos) (Uq X.K ta tv rd f):=by
 intro pins s σ H D I h;refine wpAny_AugAssign_AttributeAny (thn (ha pins s σ H _ I h) fun ov s1 hq_=>?_);obtain ⟨x,H1,I1,rx,a,C,dx,fs,v,ex,ea,c,n,l,q⟩:=hq_;subst ex;obtain rfl:ov=Value.ref a:=rx;refine M9 I1 ea c n l fun u s2 I2 ru=>thn (hv pins s2 σ H1 _ I2 q) fun w3 s3 ⟨y,H2,I3,ry,q3⟩=>thn (hop pins s3 σ H2 v y u w3 _ I3 ru ry q3) fun w4 s4 hq_=>?_;obtain ⟨z,H3,I4,rz,dx',fs',ea',l',q4⟩:=hq_
 exact Ma I4 ea' c n l' rz fun s5 I5=>⟨σ,_,I5,q4⟩
def J7b:V→V→Hp→VK→Prop:=fun x y H Q=>∃i j,x= .int i∧y= .int j∧Q (.int (i+j)) H
theorem Yy:J9h X .Add J7b:=by
 rintro pins s σ H x y u v Q I rx ry ⟨i,j,rfl,rfl,q⟩
 obtain ⟨t,rfl⟩:=(show ∃t,u=Value.int i t from rx)
 obtain ⟨t',rfl⟩:=(show ∃t',v=Value.int j t' from ry)
 exact PyProof.Rows.iadd_int ⟨.int (i+j),H,I.tok _,⟨_,rfl⟩,q⟩
end
section
variable {X:Cx} {pins:List (Addr×Obj)} {σ:St} {H:Hp} {s:Shared} {A:Around} {E:Value→Shared→Prop} {Q:Value→Shared→Prop} {c:Value} {b:Bool}
inductive L1(K:PySem.W.Frag)(H:Hp):V→Value→Prop where
 | non:L1 K H .non (.type "NoneType")
 | bl (x:Bool):L1 K H (.bl x) (.type "bool")
 | int (i:Int):L1 K H (.int i) (.type "int")
 | str (x:Str):L1 K H (.str x) (.type "str")
 | flt (x:UInt64):L1 K H (.flt x) (.type "float")
 | lst {a:Addr} {xs:List V} (e:H a=some (.lst xs)):L1 K H (.ref a) (.type "list")
 | frz {a:Addr} {o:Obj} {xs:List V} (e:H a=some (.frz o (.lst xs))):L1 K H (.ref a) (.type "list")
 | tup {a:Addr} {xs:List V} (e:H a=some (.tup xs)):L1 K H (.ref a) (.type "tuple")
 | dK {a:Addr} {kvs:List (Key×V)} (e:H a=some (.dK kvs)):L1 K H (.ref a) (.type "dict")
 | dT {a:Addr} {kvs:List (List Key×V)} (e:H a=some (.dT kvs)):L1 K H (.ref a) (.type "dict")
 | ins {a C dx:Addr} {fs:List (Str×V)} (e:H a=some (.ins C dx fs)) (cl:Cls K C) (ha:PySem.W.findIn K (.ref C) "__class__"=some (some (.builtin "object.__class__")))
  (hn:PySem.W.specialIn K (.builtin "object.__class__") "__get__"=some (some (.builtin "getset_descriptor.__get__"))) (htk:PySem.W.takesIn K (.builtin "object.__class__")=some true)
  (hm:PySem.W.mroIn K C (.type "object")=some true):L1 K H (.ref a) (.ref C)
theorem Xp{x:V}{u t:Value}(I:Inv X pins σ H s)(rx:An x u)(ty:L1 X.K H x t)(e:PySem.W.kitOne X.K t c=some b)(h:∀tk,Q (.bool b) {s with toks:=tk}):
 wpAny (model X.prog X.w) A (call (.builtin "isinstance") [u,c]) Q E s:=by
 cases ty with
 | non=>cases (show u=Value.none from rx);exact FX PySem.W.kitx_none I.kIn True.intro e (fun z=>nomatch z) h
 | bl y=>cases (show u=Value.bool y from rx);exact FX PySem.W.kitx_bool I.kIn True.intro e (fun z=>nomatch z) h
 | int i=>obtain ⟨t,q⟩:=(show ∃t,u=Value.int i t from rx);cases q;exact FX PySem.W.kitx_int I.kIn True.intro e (fun z=>nomatch z) h
 | str y=>obtain ⟨t,q⟩:=(show ∃t,u=Value.str y t from rx);cases q;exact FX PySem.W.kitx_str I.kIn True.intro e (fun z=>nomatch z) h
 | flt y=>obtain ⟨t,q⟩:=(show ∃t,u=Value.float y t from rx);cases q;exact FX PySem.W.kitx_float I.kIn True.intro e (fun z=>nomatch z) h
 | @lst a xs ea=>
  cases (show u=Value.ref a from rx)
  obtain ⟨_,_,n,_,h1⟩:=(show Bd X.prog X.w H s.heap a (.lst xs) from I.hok a _ ea)
  exact FX PySem.W.kitx_list I.kIn ⟨_,h1,rfl⟩ e (fun z=>nomatch z) h
 | @frz a ob xs ea=>
  cases (show u=Value.ref a from rx)
  obtain ⟨_,_,_,n,_,h1⟩:=(show Bd X.prog X.w H s.heap a (.frz ob (.lst xs)) from I.hok a _ ea)
  exact FX PySem.W.kitx_list I.kIn ⟨_,h1,rfl⟩ e (fun z=>nomatch z) h
 | @tup a xs ea=>
  cases (show u=Value.ref a from rx)
  obtain ⟨_,_,_,p⟩:=(show Bd X.prog X.w H s.heap a (.tup xs) from I.hok a _ ea)
  obtain ⟨o,h1,h2,_⟩:=p;exact FX PySem.W.kitx_tuple I.kIn ⟨o,h1,h2⟩ e (fun z=>nomatch z) h
 | @dK a kvs ea=>
  cases (show u=Value.ref a from rx)
  obtain ⟨_,_,vs,_,p⟩:=(show Bd X.prog X.w H s.heap a (.dK kvs) from I.hok a _ ea)
  obtain ⟨o,es,ep,h1,h2,_⟩:=p;exact FX PySem.W.kitx_dict I.kIn ⟨o,h1,h2.1⟩ e (fun z=>nomatch z) h
 | @dT a kvs ea=>
  cases (show u=Value.ref a from rx)
  obtain ⟨_,_,xs,_,o,es,ep,h1,h2,_⟩:=(show Bd X.prog X.w H s.heap a (.dT kvs) from I.hok a _ ea)
  exact FX PySem.W.kitx_dict I.kIn ⟨o,h1,h2.1⟩ e (fun z=>nomatch z) h
 | @ins a C dx fs ea cl ha hn htk hm=>
  cases (show u=Value.ref a from rx);obtain ⟨mA,O,_⟩:=K8 I.hok ea;obtain ⟨od,J,_⟩:=O.look;exact FX (PySem.W.kitx_own (cl.get _) cl.hd ha hn htk hm) I.kIn J e (fun z=>nomatch z) h
end
end L2
namespace L2
structure Bh(k:Nat)(A:Around):Prop where
 hd:A.handled=none
 dp:A.depth+3 * k+5 < recursionLimit
 un:A.units+16 * k+200 < cLine
theorem Bh.mono{j k:Nat}{A:Around}(r:Bh k A)(h:j≤k):Bh j A:=⟨r.hd,by have:=r.dp;omega,by have:=r.un;omega⟩
theorem Bh.deeper{k:Nat}{A:Around}(r:Bh (k+1) A)(env:Env):Bh k (A.deeper env):=
 ⟨r.hd,by have:=r.dp;show A.depth+1+3 * k+5 < _;omega,by have:=r.un;show A.units+3+16 * k+200 < _;omega⟩
theorem Bh.in1{k:Nat}{A:Around}(r:Bh (k+1) A):Bh k A.in1:=
 ⟨r.hd,by have:=r.dp;show A.depth+3 * k+5 < _;omega,by have:=r.un;show A.units+1+16 * k+200 < _;omega⟩
theorem To{A:Around}{C:Addr}{us:List Value}{kw:List (Str×Value)}:(A.under (.builtin "type.__call__" ⟨.ref C::us,kw⟩)).depth=A.depth+1:=by
 first | rfl | simp [Around.under,Code.weight,Code.isCreation,Code.isGuard,Code.isCaller,Code.frames,Code.isFrame,guardIds]
theorem Tp{A:Around}{C:Addr}{us:List Value}{kw:List (Str×Value)}:(A.under (.builtin "type.__call__" ⟨.ref C::us,kw⟩)).units=A.units+1:=by
 first | rfl | simp [Around.under,Code.cUnits,Code.frames,Code.isFrame]
theorem Bh.make{k:Nat}{A:Around}(r:Bh (k+1) A)(C:Addr)(us:List Value)(kw:List (Str×Value)):Bh k (A.under (.builtin "type.__call__" ⟨.ref C::us,kw⟩)):=
 ⟨r.hd,by have:=r.dp;rw [To];omega,by have:=r.un;rw [Tp];omega⟩
theorem Bh.depth{k:Nat}{A:Around}(r:Bh k A):A.depth < recursionLimit:=by have:=r.dp;omega
theorem Bh.units{k:Nat}{A:Around}(r:Bh k A):A.units+64 < cLine:=by have:=r.un;omega
def J43:TA:=fun _ H Q=>Q [] H
def Yz(ta:TE)(tr:TA):TA:=fun σ H Q=>ta σ H fun x H1=>tr σ H1 fun xs H2=>Q (x::xs) H2
section
variable {X:Cx} {e:Expr} {es:List Expr} {te:TE} {t:TA} {pos:Pos}
theorem A4:PA X [] J43:=fun _ _ _ _ H Q I h=>Calls.spliced_nil ⟨[],H,I,.nil,h⟩
theorem A0(ha:PE X e te)(hr:PA X es t)(hs:starEach (e::es) X.env=(false,eval e X.env)::starEach es X.env:=by rfl):PA X (e::es) (Yz te t):=by
 intro pos pins s σ H Q I h;rw [hs];show wpAny _ _ (spliced ((false,eval e X.env)::backTo pos (starEach es X.env))) _ _ s;refine Calls.spliced_cons (thn (ha pins s σ H _ I h) fun u s1 hq_=>?_);obtain ⟨x,H1,I1,r1,q1⟩:=hq_
 exact thn (hr pos pins s1 σ H1 _ I1 q1) fun us s2 ⟨xs,H2,I2,r2,q2⟩=>⟨x::xs,H2,I2,.cons r1 r2,q2⟩
def J9i(t:TA):TE:=fun σ H Q=>t σ H fun xs H1=>xs.length≤sizeLine∧∀p,H1 p=none→Q (.ref p) (upd H1 p (.tup xs))
def J9j(t:TA):TE:=fun σ H Q=>t σ H fun xs H1=>xs.length≤sizeLine∧∀p,H1 p=none→Q (.ref p) (upd H1 p (.lst xs))
theorem Iw{x1}(h:PA X es t):PE X (.Tuple es x1 pos) (J9i t):=by
 intro pins s σ H Q I hq;refine wpAny_Tuple_spliced (thn (h pos pins s σ H _ I hq) fun us s1 ⟨xs,H1,I1,r,z,q⟩=>⟨by rw [← r.length];exact z,?_⟩);have hf:H1 s1.heap.objs.size=none:=I1.hok.fresh (Fg _);refine ⟨.ref s1.heap.objs.size,upd H1 s1.heap.objs.size (.tup xs),I1.laid (t':=s1.toks) (fun b u e=>Fd _ e) (Fg _) ?_,rfl,q _ hf⟩;exact ⟨z,us,r,⟨_,Fs _ rfl,rfl,_,rfl⟩⟩
theorem Bp(h:PA X es t):PE X (.List es pos) (J9j t):=by
 intro pins s σ H Q I hq;refine wpAny_List_spliced (thn (h pos pins s σ H _ I hq) fun us s1 ⟨xs,H1,I1,r,z,q⟩=>⟨by rw [← r.length];exact z,?_⟩);have hf:H1 s1.heap.objs.size=none:=I1.hok.fresh (Fg _);refine ⟨.ref s1.heap.objs.size,upd H1 s1.heap.objs.size (.lst xs),I1.laid (t':=s1.toks) (fun b u e=>Fd _ e) (Fg _) ?_,rfl,q _ hf⟩;exact ⟨z,us,0,r,Fs _ rfl⟩
end
abbrev Sp:=List V→Hp→VK→XK→Prop
abbrev CXT:=List Env→Hp→Shared→XK→Value→Shared→Prop
structure K9(P:Program)(w:World)(K:PySem.W.Frag)(mg:Str→Option Value)(base:Heap)(A:Around)(outer:List Env)(s:Shared)(H:Hp):Prop where
 frames:A.frames=some outer
 mod:Mod K mg base
 bs:∀b o,base.get? b=some o→s.heap.get? b=some o∧H b=none
 bsz:base.objs.size≤s.heap.objs.size
 funs:s.heap.FunFrames base outer
 frf:∀b∈frs outer,H b=none
 hok:HOk P w H s.heap
 bare:AllBare s.gens
def CE(outer:List Env)(P:Program)(w:World)(H:Hp)(s:Shared)(Q:VK)(u:Value)(s':Shared):Prop:=
 ∃v H',s'.os=s.os∧AllBare s'.gens∧Un (frs outer) [] H H' s.heap s'.heap∧HOk P w H' s'.heap∧An v u∧Q v H'
def CR(CX:CXT)(outer:List Env)(P:Program)(w:World)(H:Hp)(s:Shared)(Q:VK)(E:XK)(r:Result)(s':Shared):Prop:=
 match r with
 | .ok (.ret u)=>CE outer P w H s Q u s'
 | .ok _=>False
 | .error e=>CX outer H s E e s'
structure Al(P:Program)(w:World)(K:PySem.W.Frag)(mg:Str→Option Value)(base:Heap)(CX:CXT)(k:Nat)(f:Addr)(fd:FuncData)(ps:List Str)(sp:Sp):Prop where
 len:∀vs H Q E,sp vs H Q E→vs.length=ps.length
 run:∀(A:Around) (outer:List Env) (s:Shared) (H:Hp) (args:Args) (us:List Value) (vs:List V) (Q:VK) (E:XK),Bh k A→K9 P w K mg base A outer s H→BindsTo s fd args (ps.zip us)→Ao vs us→sp vs H Q E→
  codeAny (model P w) A (.call (.ref f) args) (CR CX outer P w H s Q E) s
theorem Al.mono{P:Program}{w:World}{K:PySem.W.Frag}{mg:Str→Option Value}{base:Heap}{CX:CXT}{j k:Nat}{f:Addr}{fd:FuncData}{ps:List Str}{sp:Sp}(F:Al P w K mg base CX j f fd ps sp)(h:j≤k):
 Al P w K mg base CX k f fd ps sp:=⟨F.len,fun A outer s H args us vs Q E hr=>F.run A outer s H args us vs Q E (hr.mono h)⟩
theorem K9.make{P:Program}{w:World}{K:PySem.W.Frag}{mg:Str→Option Value}{base:Heap}{A:Around}{outer:List Env}{s:Shared}{H:Hp}(e:K9 P w K mg base A outer s H)(C:Addr)(us:List Value)(kw:List (Str×Value)):
 K9 P w K mg base (A.under (.builtin "type.__call__" ⟨.ref C::us,kw⟩)) outer s H:=⟨by first | exact e.frames | (simpa [Around.under,Code.envs,Code.isFrame,pushEnvs] using e.frames),e.mod,e.bs,e.bsz,e.funs,e.frf,e.hok,e.bare⟩
theorem K9.in1{P:Program}{w:World}{K:PySem.W.Frag}{mg:Str→Option Value}{base:Heap}{A:Around}{outer:List Env}{s:Shared}{H:Hp}(e:K9 P w K mg base A outer s H):
 K9 P w K mg base A.in1 outer s H:=⟨e.frames,e.mod,e.bs,e.bsz,e.funs,e.frf,e.hok,e.bare⟩
section
variable {X:Cx} {pins:List (Addr×Obj)} {σ:St} {H:Hp} {s s':Shared}
theorem Inv.env0(I:Inv X pins σ H s):K9 X.prog X.w X.K X.mg X.base X.A X.stack s H:=
 ⟨I.ok.frames,I.ok.mod,I.bs,FG I.ok.bsz I.sz,I.stack,I.stkFree,I.hok,I.bare⟩
theorem Inv.after{Q:VK}{u:Value}(I:Inv X pins σ H s)(h:CE X.stack X.prog X.w H s Q u s'):EP X pins σ Q u s':=by
 obtain ⟨v,H',os,bare,un,hok,r,q⟩:=h;obtain ⟨hh,g,d,t,os'⟩:=s';obtain rfl:os'=s.os:=os;exact ⟨v,H',I.call (h':=hh) (g':=g) (d':=d) (t':=t) (ch:=[]) un hok bare (fun b z=>absurd z (by simp)),r,q⟩
end
def J9k(sp:Sp)(dvs:List V)(E:XK)(t:TA):TE:=fun σ H Q=>t σ H fun vs H1=>sp (vs++dvs) H1 Q E
def C0(K:PySem.W.Frag)(fd:FuncData)(ps:List Str)(ds:List Value):Prop:=
 ∀(s:Shared) (us:List Value),K.In s.heap→(us++ds).length=ps.length→BindsTo s fd ⟨us,[]⟩ (ps.zip (us++ds))
theorem C0.all{K:PySem.W.Frag}{fd:FuncData}{ps:List Str}(h:∀us:List Value,us.length=ps.length→bindArgs fd ⟨us,[]⟩=pure (ps.zip us)):C0 K fd ps []:=fun s us _ hl=>by
 rw [FJ]at hl ⊢;exact .of_eq (h us hl)
def Iy(CX:CXT)(X:Cx)(E:XK):Prop:=∀(pins:List (Addr×Obj)) (σ:St) (H:Hp) (s:Shared) (e:Value) (s':Shared),Inv X pins σ H s→CX X.stack H s E e s'→X.xe e s'
section
variable {X:Cx} {CX:CXT} {k:Nat} {f C:Addr} {fd:FuncData} {ps:List Str} {sp:Sp} {dvs:List V} {ds:List Value} {E:XK} {x m:Str} {p pos apos:Pos} {e o:Expr} {es:List Expr} {ta:TE} {t:TA}
theorem J00{pins:List (Addr×Obj)}{σ:St}{H:Hp}{s:Shared}{Q:VK}{us:List Value}{vs:List V}(F:Al X.prog X.w X.K X.mg X.base CX k f fd ps sp)(hr:Bh k X.A)(hb:C0 X.K fd ps ds)(hd:Ao dvs ds)(hx:Iy CX X E)
 (I:Inv X pins σ H s) (r:Ao vs us) (h:sp (vs++dvs) H Q E):wpAny (model X.prog X.w) X.A (call (.ref f) us) (EP X pins σ Q) X.xe s:=by
 have r2:Ao (vs++dvs) (us++ds):=r.append hd
 have hl:(us++ds).length=ps.length:=by rw [← r2.length];exact F.len _ _ _ _ h
 refine HY (HI (F.run X.A X.stack s H ⟨us,[]⟩ (us++ds) (vs++dvs) Q E hr I.env0 (hb s us I.kIn hl) r2 h) fun r s' hq=>?_)
 cases r with
 | error e=>exact hx pins σ H s e s' I hq
 | ok fl=>
  cases fl with
  | ret u=>exact I.after hq
  | next=>exact False.elim hq
  | brk=>exact False.elim hq
  | cont=>exact False.elim hq
theorem J44(F:Al X.prog X.w X.K X.mg X.base CX k f fd ps sp)(hr:Bh k X.A)(hg:Gl X x)(hm:X.mg x=some (.ref f))(hk:PySem.W.keepIn X.K (.ref f)=true)(hb:C0 X.K fd ps ds)(hd:Ao dvs ds)(hx:Iy CX X E)
 (ha:PA X (e::es) t) (hdb:(x==("__debug__":Str))=false:=by decide) (he:starEach (e::es) X.env=(false,eval e X.env)::starEach es X.env:=by rfl) (hpl:(backTo pos (starEach es X.env)).any (·.1)=false:=by rfl):
 PE X (.Call (.Name x p) (e::es) [] pos) (J9k sp dvs E t):=by
 intro pins s σ H Q I h;refine FZ (K4 I hg hm ?_ hdb);refine Hg (h₀:=X.base) I.ok.mod.kin hk (thn (ha pos pins s σ H _ I h) fun us s1 ⟨vs,H1,I1,r,q⟩=>⟨I1.kIn,?_⟩) he hpl;exact J00 F hr hb hd hx I1 r q
structure Mk(K:PySem.W.Frag)(C f:Addr):Prop where
 makes:PySem.W.makesIn K C=true
 init:PySem.W.findIn K (.ref C) "__init__"=some (some (.ref f))
 fn:PySem.W.isFn K (.ref f)=true
 kp:PySem.W.keepIn K (.ref C)=true
end
structure A9(N P:List Str)(sc:Scope):Prop where
 kind:sc.kind= .function
 co:sc.isCoroutine=false
 gen:sc.isGenerator=false
 nd:N.Nodup
 pre:N.take P.length=P
 par:∀x∈P,sc.names.lookup x=some .local∨sc.names.lookup x=some .cell
 nofree:∀y∈sc.names,y.2≠ .free
theorem Nl{kindOf:Str→Option NameKind}{x:Str}:∀{binds:List (Str×Value)} {m:Str→Option Value},(∀v,(x,v)∉binds)→bindL kindOf binds m x=m x
 | [],_,_=>rfl
 | (n,v)::r,m,h=>by
  unfold bindL;rw [Nl fun w hw=>h w (Fk _ hw)];split
  · have:x≠n:=by rintro rfl;exact h v Fu
    simp [this]
  · rfl
theorem Nm{kindOf:Str→Option NameKind}{x:Str}:∀{binds:List (Str×Value)} {m:Str→Option Value},(∀v,(x,v)∉binds)→bindC kindOf binds m x=m x
 | [],_,_=>rfl
 | (n,v)::r,m,h=>by
  unfold bindC;rw [Nm fun w hw=>h w (Fk _ hw)];split
  · rfl
  · have:x≠n:=by rintro rfl;exact h v Fu
    simp [this]
theorem Nn{kindOf:Str→Option NameKind}{x:Str}{v:Value}:∀{P:List Str} {vs:List Value} {i:Nat} {m:Str→Option Value},P.Nodup→P[i]?=some x→vs[i]?=some v→kindOf x=some .local→
 bindL kindOf (P.zip vs) m x=some v
 | [],_,_,_,_,h,_,_=>by simp at h
 | _::_,[],_,_,_,_,h,_=>by simp at h
 | p::P,w::vs,0,m,nd,h1,h2,hk=>by
  simp at h1 h2;subst h1;subst h2;show bindL kindOf ((p,w)::P.zip vs) m p=_;unfold bindL;rw [Nl fun v hv=>(FO.mp nd).1 (Ro hv).1,if_pos hk];simp
 | p::P,w::vs,i+1,m,nd,h1,h2,hk=>by
  show bindL kindOf ((p,w)::P.zip vs) m x=_;unfold bindL;exact Nn (i:=i) (FO.mp nd).2 (by simpa using h1) (by simpa using h2) hk
theorem Np{kindOf:Str→Option NameKind}{x:Str}{v:Value}:∀{P:List Str} {vs:List Value} {i:Nat} {m:Str→Option Value},P.Nodup→P[i]?=some x→vs[i]?=some v→kindOf x≠some .local→
 bindC kindOf (P.zip vs) m x=some v
 | [],_,_,_,_,h,_,_=>by simp at h
 | _::_,[],_,_,_,_,h,_=>by simp at h
 | p::P,w::vs,0,m,nd,h1,h2,hk=>by
  simp at h1 h2;subst h1;subst h2;show bindC kindOf ((p,w)::P.zip vs) m p=_;unfold bindC;rw [Nm fun v hv=>(FO.mp nd).1 (Ro hv).1,if_neg hk];simp
 | p::P,w::vs,i+1,m,nd,h1,h2,hk=>by
  show bindC kindOf ((p,w)::P.zip vs) m x=_;unfold bindC;exact Np (i:=i) (FO.mp nd).2 (by simpa using h1) (by simpa using h2) hk
def start(N:List Str)(vs:List V):St:=vs.map some++List.replicate (N.length - vs.length) none
def Q5(CX:CXT)(P:Program)(w:World)(K:PySem.W.Frag)(mg:Str→Option Value)(base:Heap)(N:List Str)(qual:Str)(scope:Scope)(f:Addr)(cd:Value)(A:Around)(outer:List Env)(s:Shared)(H:Hp)(E:XK):Cx where
 prog:=P
 w:=w
 K:=K
 mg:=mg
 base:=base
 A:=A.deeper (envOfC qual scope s.heap.objs.size f cd)
 N:=N
 s₀:=s
 H₀:=H
 env:=envOfC qual scope s.heap.objs.size f cd
 outer:=outer
 stack:=envOfC qual scope s.heap.objs.size f cd::outer
 ex:=[]
 calm:=true
 fn:=fun _=>true
 pn:=[]
 xe:=fun e s'=>wpAny (model P w) (A.deeper (envOfC qual scope s.heap.objs.size f cd)) (leaving (envOfC qual scope s.heap.objs.size f cd) e) (fun _ s''=>CX outer H s E e s'') (fun e' s''=>CX outer H s E e' s'') s'
theorem Q6{sc:Scope}{n:Nat}{x:Str}(h:sc.names.lookup x=some .cell):∃c,(cellsFrom n sc.names []).lookup x=some c:=by
 have q:=PySem.W.cellsFrom_some sc.names n [] (.inl h);exact Rc.mp q
theorem Xq{CX:CXT}{P:Program}{w:World}{K:PySem.W.Frag}{mg:Str→Option Value}{base:Heap}{N ps:List Str}{qual:Str}{scope:Scope}{f:Addr}{cd:Value}{A:Around}{outer:List Env}{s s1:Shared}{H:Hp}{E:XK}{us:List Value}{vs:List V}
 (S:A9 N ps scope) (hd:A.handled=none) (e0:K9 P w K mg base A outer s H) (hl:vs.length=ps.length) (r:Ao vs us)
 (x:InCallC s s.heap.objs.size (bindL (envOfC qual scope s.heap.objs.size f cd).kindOf (ps.zip us) fun _=>none) (cellsFrom (s.heap.objs.size+1) scope.names []) (bindC (envOfC qual scope s.heap.objs.size f cd).kindOf (ps.zip us) fun _=>none) s1):
 Inv (Q5 CX P w K mg base N qual scope f cd A outer s H E) [] (start N vs) H s1:=by
 have hpl:ps.length≤N.length:=by have:=congrArg List.length S.pre;rw [Hm]at this;omega
 obtain ⟨h1,tk,rfl,hk⟩:=x.done;have noA:∀b:Addr,b∉(Q5 CX P w K mg base N qual scope f cd A outer s H E).ex:=fun b z=>absurd (show b∈([]:List Addr) from z) (by simp)
 refine ⟨⟨e0.mod,S.kind,rfl,rfl,Fg _,fun y z c h1 h2=>?_,fun y hy=>?_,fun y c _ h=>?_,fun _=>hd,Around.frames_deeper e0.frames,.inr ⟨rfl,rfl⟩,fun b z=>absurd z (noA b),e0.bs,e0.bsz,fun b _ _=>noA b,fun b z=>absurd z (noA b),e0.funs,e0.frf⟩,
  rfl,e0.bare,Un.kept hk,⟨_,x.toInCall.ns,fun i y v h1 h2 h3=>?_⟩,fun y c h=>⟨_,x.cell y c h⟩,e0.hok.fresh (Fg _),fun y c h=>?_,fun p hp=>absurd (show p∈([]:List (Addr×Obj)) from hp) (by simp),e0.hok.kept hk,?_⟩
 · exact name_of_addr x.apart (FN h1) (FN h2)
 · have hy:scope.names.lookup y=some .cell∨scope.names.lookup y=some .free:=hy
   rcases hy with hy | hy
   · exact Q6 hy
   · exact absurd rfl (S.nofree _ (FN hy))
 · exact Rj (x.above y c (FN h))
 · have hi:i < vs.length:=by
    unfold start at h2
    by_cases hi:i < vs.length
    · exact hi
    · rw [FD (by simpa using hi)]at h2
      rw [List.getElem?_replicate]at h2
      split at h2 <;> cases h2
   have ha:vs[i]?=some v:=by
    unfold start at h2;rw [Fy (by simpa using hi),Fe]at h2
    cases e:vs[i]? with
    | none=>rw [e]at h2;cases h2
    | some a=>rw [e]at h2;cases h2;rfl
   obtain ⟨u,hu,rv⟩:=r.get ha
   have hp:ps[i]?=some y:=by
    rw [← S.pre,List.getElem?_take_of_lt (by omega)];exact h1
   have ndP:ps.Nodup:=by rw [← S.pre];exact S.nd.sublist (List.take_sublist _ _)
   refine ⟨u,rv,?_⟩;rcases S.par y (Ff hp) with k | k
   · exact .inl ⟨k,Nn ndP hp hu k⟩
   · obtain ⟨c,e⟩:=Q6 (n:=s.heap.objs.size+1) k
     refine .inr ⟨.inl k,c,e,?_⟩;have q:=x.cell y c e;rw [Np ndP hp hu (by show scope.names.lookup y≠_;rw [k];decide)]at q;exact q
 · exact e0.hok.fresh (Rj (x.above y c (FN h)))
 · unfold start
   show _=N.length;rw [Fm,Fa,List.length_replicate];omega
theorem J5x{CX:CXT}{P:Program}{w:World}{K:PySem.W.Frag}{mg:Str→Option Value}{base:Heap}{k:Nat}{f:Addr}{name qual:Str}{params:Arguments}{body:List Stmt}{scope:Scope}{dV kV doc pm cdv ct oc:Value}{an od:Option Addr}
 {osl:Array (Option Value)} {N ps:List Str} {sp:Sp} (lk:K.lookup f=some ⟨oc,od,.func (PySem.W.fnOf name qual params body scope dV kV doc pm an cdv ct),osl⟩) (hcd:PySem.W.codeIn K cdv qual=true) (S:A9 N ps scope)
 (len:∀vs H Q E,sp vs H Q E→vs.length=ps.length)
 (hbody:∀(A:Around) (outer:List Env) (s:Shared) (H:Hp) (vs:List V) (Q:VK) (E:XK),Bh k (A.deeper (envOfC qual scope s.heap.objs.size f cdv))→sp vs H Q E→
  ∃t,PSs (Q5 CX P w K mg base N qual scope f cdv A outer s H E) body t∧t {nx:=fun _ H'=>Q .non H',rt:=Q} (start N vs) H):
 Al P w K mg base CX (k+1) f (PySem.W.fnOf name qual params body scope dV kV doc pm an cdv ct) ps sp:=by
 refine ⟨len,fun A outer s H args us vs Q E hr e0 hb r hsp=>?_⟩;have hl:=len _ _ _ _ hsp;have KX:K.In s.heap:=e0.mod.kin.keeps fun b o e=>(e0.bs b o e).1;have lim:s.heap.NoLimit:=e0.mod.nolimit.keeps fun b o e=>(e0.bs b o e).1
 have hkind:∀y∈ps.zip us,scope.names.lookup y.1=some .local∨(scope.names.lookup y.1=some .cell∧((cellsFrom (s.heap.objs.size+1) scope.names []).lookup y.1).isSome=true):=fun ⟨n,v⟩ hy=>by
  rcases S.par n (Ro hy).1 with q | q
  · exact .inl q
  · exact .inr ⟨q,PySem.W.cellsFrom_some _ _ _ (.inl q)⟩
 refine codeAny_call_function hr.depth (KX _ _ lk) rfl S.co S.gen rfl (PySem.W.codeRec_of KX hcd) (hb _ _ _ _ ?_);refine wpAny_newFunctionEnv_cells S.kind hkind fun env he s1 x=>?_;subst he;refine ⟨lim.keeps x.toInCall.keep,codeAny_func ?_⟩;obtain ⟨t,ht,hq⟩:=hbody A outer s H vs Q E (hr.deeper _) hsp;have I:Inv (Q5 CX P w K mg base N qual scope f cdv A outer s H E) [] (start N vs) H s1:=Xq S hr.hd e0 hl r x;refine FT (ht [] s1 (start N vs) H _ I hq) (fun fl s' hs=>?_) fun e s' hs=>hs
 have fin:∀{σ':St} {H':Hp} {v:V} {u:Value},Inv (Q5 CX P w K mg base N qual scope f cdv A outer s H E) [] σ' H' s'→An v u→Q v H'→CE outer P w H s Q u s':=
  fun {σ' H' v u} J rv q=>⟨v,H',J.os,J.bare,J.base,J.hok,rv,q⟩
 cases fl with
 | ret u=>
  obtain ⟨v,σ',H',J,rv,q⟩:=hs;exact fin J rv q
 | next=>
  obtain ⟨σ',H',J,q⟩:=hs;exact fin (v:=V.non) (u:=Value.none) J rfl q
 | brk=>
  obtain ⟨_,_,_,q⟩:=hs;exact False.elim q
 | cont=>
  obtain ⟨_,_,_,q⟩:=hs;exact False.elim q
end L2
namespace L2
section
variable {X:Cx} {x:Str} {p pos:Pos} {e:Expr} {es:List Expr} {t:TA} {id T:String} {r:List V→Hp→VK→Prop}
def tCB(r:List V→Hp→VK→Prop)(t:TA):TE:=fun σ H Q=>t σ H fun vs H1=>r vs H1 Q
theorem Aq(hc:D7 X (.builtin id) r)(hg:Gl X x)(hm:X.mg x=none)(hv:bootBuiltins x=some (.builtin id))(ha:PA X (e::es) t)(hn:x≠"__name__":=by decide)(hdb:(x==("__debug__":Str))=false:=by decide)
 (he:starEach (e::es) X.env=(false,eval e X.env)::starEach es X.env:=by rfl) (hpl:(backTo pos (starEach es X.env)).any (·.1)=false:=by rfl):PE X (.Call (.Name x p) (e::es) [] pos) (tCB r t):=by
 intro pins s σ H Q I h;refine FZ (Ir I hg hm hv ?_ hn hdb);exact PyProof.Rows.callWith_builtin1 (thn (ha pos pins s σ H _ I h) fun us s1 ⟨vs,H1,I1,r1,q1⟩=>hc pins s1 σ H1 vs us Q I1 r1 q1) he hpl
theorem Bq(hc:D7 X (.type T) r)(hg:Gl X x)(hm:X.mg x=none)(hv:bootBuiltins x=some (.type T))(ha:PA X (e::es) t)(hn:x≠"__name__":=by decide)(hdb:(x==("__debug__":Str))=false:=by decide)
 (he:starEach (e::es) X.env=(false,eval e X.env)::starEach es X.env:=by rfl) (hpl:(backTo pos (starEach es X.env)).any (·.1)=false:=by rfl):PE X (.Call (.Name x p) (e::es) [] pos) (tCB r t):=by
 intro pins s σ H Q I h;refine FZ (Ir I hg hm hv ?_ hn hdb);exact HM (thn (ha pos pins s σ H _ I h) fun us s1 ⟨vs,H1,I1,r1,q1⟩=>hc pins s1 σ H1 vs us Q I1 r1 q1) he hpl
end
end L2
namespace HT
open PySem PyProof.Rows
def Dg:List Int→List Int→Bool
 | [],[]=>false
 | [],_::_=>true
 | _::_,[]=>false
 | x::xs,y::ys=>if x=y then Dg xs ys else decide (x < y)
theorem Tq(x y:Int)(xs ys:List Int):Dg (x::xs) (y::ys)=if x=y then Dg xs ys else decide (x < y):=rfl
theorem Na:Dg [] []=false:=rfl
theorem Mb(y:Int)(ys:List Int):Dg [] (y::ys)=true:=rfl
theorem Mc(x:Int)(xs:List Int):Dg (x::xs) []=false:=rfl
theorem J01(A:Around)(s:Shared)(a:Int)(t:Tok)(c:Int)(u:Tok):∃e,SeqAt.EqAt A s (.int a t) (.int c u) e∧(e=true↔a=c):=
 ⟨(a==c),SeqAt.EqAt.int_int a t c u,by simp⟩
theorem J02(A:Around)(s:Shared)(a:Int)(t:Tok)(c:Int)(u:Tok)(prog:Program)(w:World)(E:Value→Shared→Prop)(Q:Value→Shared→Prop)(h:Q (.bool (decide (a < c))) s):
 wpAny (model prog w) A (richCompare .Lt (.int a t) (.int c u)) Q E s:=
 (PyProof.Rows.lt_int h:wpAny (model prog w) A (compareOp .Lt (.int a t) (.int c u)) Q E s)
section
open PySem.SeqAt
open PySem.AutoSeq1 (wpAny_loadPart')
open PySem.MeetsSeq PySem.MeetsSeq2 PySem.MeetsSeq3
theorem Nb(l b:Addr)(items items2:Array Value)(n n2:Nat)(dd dd2:Option Addr)(sl sl2:Array (Option Value))(ns ms:List Int)(hi:IntsAre items.toList ns)(hj:IntsAre items2.toList ms):
 Meets (Builtin.«tuple.__lt__» ⟨[.ref l,.ref b],[]⟩)
  (fun _ R s=>s.heap.get? l=some {cls:= .type "tuple",dict:=dd,data:= .seq items n,slots:=sl}∧s.heap.get? b=some {cls:= .type "tuple",dict:=dd2,data:= .seq items2 n2,slots:=sl2}∧
   R (.ok (.ret (.bool (Dg ns ms)))) s):=
 .of_wp fun prog w A R s h=>by
  obtain ⟨hp,g,d,tk,os⟩:=s;obtain ⟨hl,hb,h⟩:=h;have f2:=AutoSeq1.sub_tuple_tuple
  have z1:items.size=ns.length:=by rw [← hi.length];simp
  have z2:items2.size=ms.length:=by rw [← hj.length];simp
  wp_walk using wpAny_loadPart' hl,wpAny_loadPart' hb,wpAny_forIn_list _ (fun rest b s'=>b.1=none∧s'=⟨hp,g,d,tk,os⟩∧∃(vs ws:List Value) (ns' ms':List Int),rest=vs.zip ws∧
   IntsAre vs ns'∧IntsAre ws ms'∧ns'.length+items2.size=ms'.length+items.size∧R (.ok (.ret (.bool (Dg ns' ms')))) ⟨hp,g,d,tk,os⟩) _
  case turn=>
   rintro ⟨y,x⟩ rest b s' ⟨hb',rfl,vs,ws,ns',ms',hz,hvi,hwi,hlen,hR⟩
   cases hvi with
   | nil=>rw [List.zip_nil_left]at hz;cases hz
   | cons a t hvi'=>
    cases hwi with
    | nil=>rw [List.zip_nil_right]at hz;cases hz
    | cons c u hwi'=>
     rw [List.zip_cons_cons]at hz
     injection hz with hyx hrest
     injection hyx with hy hx
     subst hy hx;rw [Tq]at hR;simp only [List.length_cons]at hlen;obtain ⟨e,he,hiff⟩:=J01 A.in1 ⟨hp,g,d,tk,os⟩ a t c u;refine Fq (he prog w _ _ ?_)
     cases e with
     | true=>
      rw [if_pos (hiff.mp rfl)]at hR
      wp_walk
      exact ⟨rfl,rfl,_,_,_,_,hrest,hvi',hwi',by omega,hR⟩
     | false=>
      rw [if_neg (fun q=>absurd (hiff.mpr q) Ft)]at hR;have hri:=J02 A.in1 ⟨hp,g,d,tk,os⟩ a t c u prog w
      wp_walk using hri
      exact ⟨_,rfl,by simpa using hR⟩
  case fin=>
   rintro ⟨b1,b2⟩ s' ⟨hb',rfl,vs,ws,ns',ms',hz,hvi,hwi,hlen,hR⟩;simp only at hb';subst hb'
   have hv:Dg ns' ms'=decide (items.size < items2.size):=by
    cases hvi with
    | nil=>
     cases hwi with
     | nil=>
      simp only [List.length_nil]at hlen;rw [Na];exact (Fw (by omega)).symm
     | cons c u hw=>
      simp only [List.length_nil,List.length_cons]at hlen;rw [Mb];exact (FA (by omega)).symm
    | cons a t hv=>
     cases hwi with
     | nil=>
      simp only [List.length_nil,List.length_cons]at hlen;rw [Mc];exact (Fw (by omega)).symm
     | cons c u hw=>
      rw [List.zip_cons_cons]at hz;cases hz
   rw [hv]at hR
   wp_walk
   exact ⟨_,rfl,by simpa [Builtin.Tuple.tupleCompareSizes] using hR⟩
  case h=>
   exact ⟨rfl,rfl,items.toList,items2.toList,ns,ms,rfl,hi,hj,by omega,h⟩
end
section
variable {prog:Program} {w:World} {A:Around} {E:Value→Shared→Prop} {s:Shared}
theorem Tr{l b:Addr}{items items2:Array Value}{ns ms:List Int}{Q:Value→Shared→Prop}(hl:IsTup s.heap l items)(hb:IsTup s.heap b items2)(hi:IntsAre items.toList ns)(hj:IntsAre items2.toList ms)
 (hu:A.units < cLine) (h:Q (.bool (Dg ns ms)) s):wpAny (model prog w) A (compareOp .Lt (.ref l) (.ref b)) Q E s:=by
 obtain ⟨⟨cls,dd,data,sl⟩,ho,hc,n,hd⟩:=id hl;obtain ⟨⟨cls2,dd2,data2,sl2⟩,ho2,hc2,n2,hd2⟩:=id hb;simp only at hc hd hc2 hd2;subst hc hd hc2 hd2
 exact richCompare_meets_room (op:= .Lt) ⟨_,ho,rfl⟩ ⟨_,ho2,rfl⟩ PySem.F.slot_tuple_lt PySem.F.entry_tuple_lt (PySem.F.args_tuple_lt_2 _ _) (Nb l b items items2 n n2 dd dd2 sl sl2 ns ms hi hj)
  ⟨ho,ho2,show Value.bool (Dg ns ms)≠Value.notImplemented∧Q (.bool (Dg ns ms)) s from ⟨(fun x=>nomatch x),h⟩⟩ hu
def sIx(n d:Nat):Option Int→Nat
 | none=>d
 | some v=>if v < 0 then (v+(n:Int)).toNat else min v.toNat n
theorem Ou(n d k:Nat):sIx n d (some (k:Int))=min k n:=by
 show (if (k:Int) < 0 then ((k:Int)+(n:Int)).toNat else min (k:Int).toNat n)=min k n;rw [if_neg (by omega),Int.toNat_natCast]
end
end HT
namespace L2
abbrev TO:=St→Hp→(Option Int→Hp→Prop)→Prop
def PO(X:Cx)(e:Option Expr)(t:TO):Prop:=
 ∀(pins:List (Addr×Obj)) (s:Shared) (σ:St) (H:Hp) (Q:Option Int→Hp→Prop),Inv X pins σ H s→t σ H Q→
   wpAny (model X.prog X.w) X.A (evalPart e X.env) (fun u s'=>∃o H',Inv X pins σ H' s'∧IsPart u o∧Q o H') X.xe s
def Ur:TO:=fun _ H Q=>Q none H
def J5y(t:TE):TO:=fun σ H Q=>t σ H fun x H1=>∃i,x= .int i∧Q (some i) H1
theorem Md{ns:List Int}:∀{us:List Value},Ao (ns.map V.int) us→IntsAre us ns:=by
 induction ns with
 | nil=>intro us r;rw [List.map_nil]at r;cases r;exact .nil
 | cons n ns ih=>
  intro us r;rw [List.map_cons]at r
  cases r with
  | cons r1 r2=>
   obtain ⟨t,e⟩:=r1;subst e;exact .cons n t (ih r2)
section
variable {X:Cx} {e:Expr} {te:TE} {lo hi:Option Expr} {tl th:TO} {pos p2:Pos}
theorem J45:PO X none Ur:=by
 intro pins s σ H Q I h;rw [evalPart_none];exact FK ⟨none,H,I,.none,h⟩
theorem Ov(h:PE X e te):PO X (some e) (J5y te):=by
 intro pins s σ H Q I hw;rw [evalPart_some];refine thn (h pins s σ H _ I hw) fun u s1 hq_=>?_;obtain ⟨x,H1,I1,r1,q1⟩:=hq_;obtain ⟨i,rfl,q⟩:=q1;obtain ⟨t,rfl⟩:=r1;exact ⟨some i,H1,I1,.int i t,q⟩
def SlR(X:Cx)(r:V→Option Int→Option Int→Hp→VK→Prop):Prop:=
 ∀(pins:List (Addr×Obj)) (s:Shared) (σ:St) (H:Hp) (x:V) (v vl vu:Value) (lo hi:Option Int) (sl:Addr) (Q:VK),Inv X pins σ H s→An x v→s.heap.IsSliceOf sl vl vu .none→IsPart vl lo→IsPart vu hi→r x lo hi H Q→
   ∃T id,typeLookup (.type T) "__getitem__"=pure (some (.builtin id))∧s.TypeIs v T∧wpAny (model X.prog X.w) X.A (getItem v (.ref sl)) (EP X pins σ Q) X.xe s
def tSl(r:V→Option Int→Option Int→Hp→VK→Prop)(te:TE)(tl th:TO):TE:=fun σ H Q=>te σ H fun x H1=>tl σ H1 fun l H2=>th σ H2 fun u H3=>r x l u H3 Q
theorem Q7{r:V→Option Int→Option Int→Hp→VK→Prop}(hr:SlR X r)(he:PE X e te)(hl:PO X lo tl)(hu:PO X hi th):PE X (.Subscript e (.Slice lo hi none p2) pos) (tSl r te tl th):=by
 intro pins s σ H Q I h;refine Subscript_ (thn (he pins s σ H _ I h) fun v s1 hq_=>?_);obtain ⟨x,H1,I1,r1,q1⟩:=hq_;refine wpAny_Slice (thn (hl pins s1 σ H1 _ I1 q1) fun vl s2 ⟨l,H2,I2,pl,q2⟩=>thn (hu pins s2 σ H2 _ I2 q2) fun vu s3 hq_=>?_);obtain ⟨u,H3,I3,pu,q3⟩:=hq_;rw [evalPart_none];refine FK ?_;have I4:Inv X pins σ H3 {s3 with heap:=s3.heap.push {cls:= .type "slice",data:= .fields #[vl,vu,.none]}}:=I3.kept (t':=s3.toks) fun b ob q=>Fd _ q;obtain ⟨T,id,hT,ht,hg⟩:=hr pins {s3 with heap:=s3.heap.push {cls:= .type "slice",data:= .fields #[vl,vu,.none]}} σ H3 x v vl vu l u s3.heap.objs.size Q I4 r1 (Heap.IsSliceOf.new ..) pl pu q3;show wpAny (model X.prog X.w) X.A (subscriptTail e (.Slice lo hi none p2) v (.ref s3.heap.objs.size)) (EP X pins σ Q) X.xe {s3 with heap:=s3.heap.push {cls:= .type "slice",data:= .fields #[vl,vu,.none]}};exact tail_any (ops:=[.ref s3.heap.objs.size,v]) ht hT hg (by with_unfolding_all rfl)
def Nc(xs:List V)(lo hi:Option Int):List V:=(xs.drop (HT.sIx xs.length 0 lo)).take (HT.sIx xs.length xs.length hi - HT.sIx xs.length 0 lo)
theorem Q8(xs:List V)(lo hi:Option Int):(Nc xs lo hi).length≤xs.length:=by
 unfold Nc;rw [Hm,HZ];omega
end
end L2
namespace L2
def ixN(n:Nat)(i:Int):Option Nat:=if 0≤i then (if i < n then some i.toNat else none) else if -(n:Int)≤i then some (i+n).toNat else none
def atI{α:Type}(xs:List α)(i:Int):Option α:=(ixN xs.length i).bind fun j=>xs[j]?
theorem Us{n:Nat}{i:Int}{j:Nat}(h:ixN n i=some j):seqIndex? i n=some j∧j < n∧-(n:Int)≤i∧i < n:=by
 unfold ixN at h
 by_cases h0:0≤i
 · rw [if_pos h0]at h
   by_cases h1:i < n
   · rw [if_pos h1]at h
     have e:i.toNat=j:=FL h;exact ⟨by rw [seqIndex_of h0 h1,e],by omega,by omega,h1⟩
   · rw [if_neg h1]at h;cases h
 · rw [if_neg h0]at h
   by_cases h1:-(n:Int)≤i
   · rw [if_pos h1]at h
     have e:(i+n).toNat=j:=FL h;exact ⟨by rw [seqIndex_neg (by omega) h1,e],by omega,h1,by omega⟩
   · rw [if_neg h1]at h;cases h
theorem Ow{α:Type}{xs:List α}{i:Int}{v:α}(h:atI xs i=some v):∃j,seqIndex? i xs.length=some j∧xs[j]?=some v∧j < xs.length∧-(xs.length:Int)≤i∧i < xs.length:=by
 unfold atI at h
 cases e:ixN xs.length i with
 | none=>rw [e]at h;cases h
 | some j=>
  rw [e]at h;obtain ⟨h1,h2,h3,h4⟩:=Us e;exact ⟨j,h1,h,h2,h3,h4⟩
theorem Bo{α:Type}{xs:List α}{j:Nat}{v:α}(h:xs[j]?=some v):atI xs (j:Int)=some v:=by
 have hj:j < xs.length:=(Fi.mp h).1
 have e:ixN xs.length (j:Int)=some j:=by
  unfold ixN;rw [if_pos (by omega),if_pos (by omega)];simp
 unfold atI;rw [e];exact h
theorem J03{α:Type}(xs:List α)(v:α):atI (xs++[v]) (-1)=some v:=by
 have hl:(xs++[v]).length=xs.length+1:=by simp
 have e:ixN (xs++[v]).length (-1)=some xs.length:=by
  unfold ixN;rw [hl,if_neg (by decide),if_pos (by omega)];congr 1;omega
 unfold atI;rw [e];show (xs++[v])[xs.length]?=some v;simp
def J46(b:Expr):Prop:=∀o i,subscripted b false o i=operate [o,i] (getItem o i)
def IxR(X:Cx)(r:R2):Prop:=
 ∀(value slice:Expr) (pins:List (Addr×Obj)) (s:Shared) (σ:St) (H:Hp) (x y:V) (v u:Value) (Q:VK),Inv X pins σ H s→An x v→An y u→r x y H Q→
   subscripted slice false v u=operate [v,u] (getItem v u)→wpAny (model X.prog X.w) X.A (subscriptTail value slice v u) (EP X pins σ Q) X.xe s
def MtR(X:Cx)(id:String)(r:V→List V→Hp→VK→Prop):Prop:=
 ∀(pins:List (Addr×Obj)) (s:Shared) (σ:St) (H:Hp) (x:V) (xs:List V) (v:Value) (us:List Value) (Q:VK),Inv X pins σ H s→An x v→Ao xs us→r x xs H Q→
   wpAny (model X.prog X.w) X.A (call (.builtin id) (v::us)) (EP X pins σ Q) X.xe s
section
variable {X:Cx} {a b:Expr} {ta tb:TE} {pos:Pos}
theorem Bn{r:R2}(hr:IxR X r)(ha:PE X a ta)(hb:PE X b tb)(hs:J46 b):PE X (.Subscript a b pos) (tOp r ta tb):=by
 intro pins s σ H Q I h;exact Subscript_ (J78 ha hb I h fun v u s2 x y H2 I2 rx ry q=>hr a b pins s2 σ H2 x y v u Q I2 rx ry q (hs _ _))
def J9l(K:PySem.W.Frag):R2:=fun x y H Q=>∃p xs i v,x= .ref p∧y= .int i∧SqL K H p xs∧atI xs i=some v∧Q v H
def J9m(K:PySem.W.Frag):R2:=fun x y H Q=>∃p xs i v,x= .ref p∧y= .int i∧SqT K H p xs∧atI xs i=some v∧Q v H
def J9n:R2:=fun x y H Q=>∃z i c,x= .str z∧y= .int i∧z.length≤sizeLine∧atI z.cps.toList i=some c∧Q (.str ⟨#[c]⟩) H
theorem C8:IxR X (J9l X.K):=by
 intro value slice pins s σ H x y v u Q I rx ry h hs;obtain ⟨p,xs,i,z,rfl,rfl,hq,he,q⟩:=h;cases rx;obtain ⟨t,rfl⟩:=ry;obtain ⟨its,r,pl,hz⟩:=I.list hq;obtain ⟨j,h1,h2,h3,h4,h5⟩:=Ow he;obtain ⟨w,ew,rw'⟩:=r.get h2;have hl:=r.length;have hn:=Kz
 have fin:EP X pins σ Q w s:=⟨z,H,I,rw',q⟩
 by_cases h0:0≤i
 · have hj:i.toNat=j:=by
    rw [seqIndex_of h0 h5]at h1;exact FL h1
   exact item_listR pl.isList h0 (by omega) (by rw [hj];simpa using ew) fin hs
 · have hj:(i+(its.toArray.size:Int)).toNat=j:=by
    rw [seqIndex_neg (by omega) h4]at h1;rw [Fn,← hl];exact FL h1
   exact subscriptTail_builtinR (x:=w) pl.isList.typeIs slot_list_getitem.lookup
    (wpAny_getItem_list_neg (Q:=fun r s'=>r=w∧EP X pins σ Q r s') pl.isList (by omega) (by rw [Fn] <;> omega) (by omega) (by rw [hj];simpa using ew) ⟨rfl,fin⟩) hs
theorem Cp:IxR X (J9m X.K):=by
 intro value slice pins s σ H x y v u Q I rx ry h hs;obtain ⟨p,xs,i,z,rfl,rfl,hq,he,q⟩:=h;cases rx;obtain ⟨t,rfl⟩:=ry;obtain ⟨its,r,pl,hz⟩:=I.tuple hq;obtain ⟨j,h1,h2,h3,h4,h5⟩:=Ow he;obtain ⟨w,ew,rw'⟩:=r.get h2;have hl:=r.length;have hn:=Kz
 have fin:EP X pins σ Q w s:=⟨z,H,I,rw',q⟩
 exact subscriptTail_builtinR (x:=w) pl.typeIs slot_tuple_getitem.lookup
  (getItem_tuple (j:=j) (Q:=fun r s'=>r=w∧EP X pins σ Q r s') pl (by omega) (by omega) (by rw [Fn,← hl];exact h1) (by simpa using ew) ⟨rfl,fin⟩) hs
theorem Ts:IxR X J9n:=by
 intro value slice pins s σ H x y v u Q I rx ry h hs;obtain ⟨z,i,c,rfl,rfl,hz,he,q⟩:=h;obtain ⟨t,rfl⟩:=rx;obtain ⟨t',rfl⟩:=ry;obtain ⟨j,h1,h2,h3,h4,h5⟩:=Ow he
 have hl:z.cps.toList.length=z.length:=by simp [Str.length]
 rw [hl]at h1 h4 h5;have hn:=Kz
 exact tail_any (Rz s z t) slot_str_getitem.lookup (getItem_str (c:=c) (by
  have e1:decide (i < -(2 ^ 63:Int))=false:=Fw (by omega);have e2:decide (i ≥ 2 ^ 63)=false:=Fw (by omega)
  rw [e1,e2,Bool.or_false]) (by rw [h1];simpa using h2) ⟨.str ⟨#[c]⟩,H,I.tok _,⟨_,rfl⟩,q⟩) hs
theorem Tt(its:List Value)(n j:Nat)(u:Value):Obj.mapSeq (·.setIfInBounds j u) {cls:= .type "list",data:= .seq its.toArray n}={cls:= .type "list",data:= .seq (its.set j u).toArray n}:=by
 simp [Obj.mapSeq]
theorem Inv.lst{pins:List (Addr×Obj)}{σ:St}{H:Hp}{s:Shared}{p:Addr}{xs:List V}(I:Inv X pins σ H s)(h:H p=some (.lst xs)):
 ∃(its:List Value) (n:Nat),Ao xs its∧s.heap.get? p=some {cls:= .type "list",data:= .seq its.toArray n}∧xs.length≤sizeLine:=by
 obtain ⟨z,its,n,r,e⟩:=I.hok p _ h;exact ⟨its,n,r,e,z⟩
theorem Inv.lstUpd{pins:List (Addr×Obj)}{σ:St}{H:Hp}{s:Shared}{p:Addr}{xs ys:List V}{its its':List Value}{n n':Nat}{f:Obj→Obj}(I:Inv X pins σ H s)(h:H p=some (.lst xs))
 (ho:s.heap.get? p=some {cls:= .type "list",data:= .seq its.toArray n}) (hf:f {cls:= .type "list",data:= .seq its.toArray n}={cls:= .type "list",data:= .seq its'.toArray n'}) (r:Ao ys its') (hz:ys.length≤sizeLine) (t:Nat):
 Inv X pins σ (upd H p (.lst ys)) {s with heap:=s.heap.update p f,toks:=t}:=by
 have e:(s.heap.update p f).get? p=some {cls:= .type "list",data:= .seq its'.toArray n'}:=by
  rw [Heap.get?_update_self f ho (by rw [hf] <;> rfl),hf]
 refine I.write (x:=p) (e:=p) (by rw [h];trivial) (.inl rfl) (fun b u hb q=>(Heap.get?_update_other _ _ (Ne.symm hb)).trans q) ⟨_,e⟩ ?_;exact ⟨hz,its',n',r,e⟩
def J5z:V→V→V→Hp→(Hp→Prop)→Prop:=fun o i v H Q=>∃p xs k j,o= .ref p∧i= .int k∧H p=some (.lst xs)∧ixN xs.length k=some j∧Q (upd H p (.lst (xs.set j v)))
theorem J04:J95 X J5z:=by
 intro pins s σ H o i v ov iv u Q I ro ri rv h;obtain ⟨p,xs,k,j,rfl,rfl,hp,hj,q⟩:=h;cases ro;obtain ⟨t,rfl⟩:=ri;obtain ⟨its,n,r,ho,hz⟩:=I.lst hp;obtain ⟨h1,h2,h3,h4⟩:=Us hj;have hl:=r.length;have hn:=Kz
 have I':Inv X pins σ (upd H p (.lst (xs.set j v))) {s with heap:=s.heap.update p (Obj.mapSeq (·.setIfInBounds j u))}:=
  I.lstUpd hp ho (Tt its n j u) (r.set rv j) (by rw [List.length_set];exact hz) s.toks
 by_cases h0:0≤k
 · have hk:k.toNat=j:=by
    rw [seqIndex_of h0 h4]at h1;exact FL h1
   exact PySem.W.ki_setAt ho h0 (by omega) (by rw [Fn,← hl];exact h4) (by rw [hk];exact ⟨_,I',q⟩)
 · have hk:(k+(its.toArray.size:Int)).toNat=j:=by
    rw [seqIndex_neg (by omega) h3]at h1;rw [Fn,← hl];exact FL h1
   exact PySem.W.ki_setBack ho (by omega) (by rw [Fn,← hl];exact h3) (by omega) (by rw [hk];exact ⟨_,I',q⟩)
theorem Ox(lo hi:Option Int)(n:Nat):(sliceBounds lo hi none n).1=((HT.sIx n 0 lo:Nat):Int)∧(sliceBounds lo hi none n).2.1=((HT.sIx n n hi:Nat):Int)∧(sliceBounds lo hi none n).2.2=1:=by
 refine ⟨?_,?_,rfl⟩
 · cases lo with
   | none=>simp [sliceBounds,HT.sIx]
   | some i=>
    simp only [sliceBounds,HT.sIx,Option.getD_none,show (1:Int) > 0 by decide,if_true]
    by_cases h:i < 0
    · simp only [h,if_true] <;> omega
    · simp only [h,if_false] <;> omega
 · cases hi with
   | none=>simp [sliceBounds,HT.sIx]
   | some i=>
    simp only [sliceBounds,HT.sIx,Option.getD_none,show (1:Int) > 0 by decide,if_true]
    by_cases h:i < 0
    · simp only [h,if_true] <;> omega
    · simp only [h,if_false] <;> omega
theorem Nd(its:List Value)(lo hi:Option Int):slicePick its.toArray lo hi none=((its.drop (HT.sIx its.length 0 lo)).take (HT.sIx its.length its.length hi - HT.sIx its.length 0 lo)).toArray:=by
 obtain ⟨h1,h2,h3⟩:=Ox lo hi its.toArray.size;unfold slicePick;rw [h1,h2,h3]
 simp only [sliceRange_one,pick_run,Fn] <;> rfl
def J9o(K:PySem.W.Frag):V→Option Int→Option Int→Hp→VK→Prop:=fun x lo hi H Q=>∃a xs,x= .ref a∧SqL K H a xs∧∀p,H p=none→Q (.ref p) (upd H p (.lst (Nc xs lo hi)))
theorem Ut:SlR X (J9o X.K):=by
 intro pins s σ H x v vl vu lo hi sl Q I rx hs pl pu h;obtain ⟨a,xs,rfl,hx,q⟩:=h;cases rx;obtain ⟨its,r,ht,hz⟩:=I.list hx;have hlen:=r.length;refine ⟨"list",_,slot_list_getitem.lookup,ht.isList.typeIs,?_⟩
 refine wpAny_getItem_list_slice ht.isList hs pl pu .none (by simp) ?_ (by rw [Fn] <;> omega)
 rw [Nd,← hlen];refine ⟨.ref s.heap.objs.size,_,I.laid (t':=s.toks) (o:= .lst (Nc xs lo hi)) (fun b ob q=>Fd _ q) (Fg _) ?_,rfl,q _ (I.hok.fresh (Fg _))⟩;exact ⟨FG (Q8 xs lo hi) hz,_,0,(r.drop (HT.sIx xs.length 0 lo)).take (HT.sIx xs.length xs.length hi - HT.sIx xs.length 0 lo),Fs _ rfl⟩
def Co:V→Bool
 | .non=>true
 | .bl _=>true
 | .int _=>true
 | .str _=>true
 | _=>false
def eqV:V→V→Bool
 | .non,.non=>true
 | .bl a,.bl b=>a==b
 | .bl a,.int b=>(if a then 1 else 0)==b
 | .int a,.bl b=>a==(if b then 1 else 0)
 | .int a,.int b=>a==b
 | .str a,.str b=>a==b
 | _,_=>false
theorem J05{A:Around}{s:Shared}{y x:V}{u v:Value}(ry:An y u)(rx:An x v)(fy:Co y=true)(fx:Co x=true):SeqAt.EqAt A s u v (eqV y x):=by
 cases y with
 | non=>
  cases ry
  cases x with
  | non=>cases rx;exact SeqAt.EqAt.same _
  | bl b=>cases rx;exact SeqAt.EqAt.none_bool b
  | int b=>obtain ⟨t,rfl⟩:=rx;exact SeqAt.EqAt.none_int b t
  | str b=>obtain ⟨t,rfl⟩:=rx;exact SeqAt.EqAt.none_str b t
  | _=>exact absurd (show false=true from fx) Ft
 | bl a=>
  cases ry
  cases x with
  | non=>cases rx;exact SeqAt.EqAt.bool_none a
  | bl b=>cases rx;exact SeqAt.EqAt.bool_bool a b
  | int b=>obtain ⟨t,rfl⟩:=rx;exact SeqAt.EqAt.bool_int a b t
  | str b=>obtain ⟨t,rfl⟩:=rx;exact SeqAt.EqAt.bool_str a b t
  | _=>exact absurd (show false=true from fx) Ft
 | int a=>
  obtain ⟨t',rfl⟩:=ry
  cases x with
  | non=>cases rx;exact SeqAt.EqAt.int_none a t'
  | bl b=>cases rx;exact SeqAt.EqAt.int_bool a t' b
  | int b=>obtain ⟨t,rfl⟩:=rx;exact SeqAt.EqAt.int_int a t' b t
  | str b=>obtain ⟨t,rfl⟩:=rx;exact SeqAt.EqAt.int_str a t' b t
  | _=>exact absurd (show false=true from fx) Ft
 | str a=>
  obtain ⟨t',rfl⟩:=ry
  cases x with
  | non=>cases rx;exact SeqAt.EqAt.str_none a t'
  | bl b=>cases rx;exact SeqAt.EqAt.str_bool a t' b
  | int b=>obtain ⟨t,rfl⟩:=rx;exact SeqAt.EqAt.str_int a t' b t
  | str b=>obtain ⟨t,rfl⟩:=rx;exact SeqAt.EqAt.str_str a t' b t
  | _=>exact absurd (show false=true from fx) Ft
 | _=>exact absurd (show false=true from fy) Ft
def eqU(x:V)(u:Value):Bool:=match u with
 | .none=>eqV .non x
 | .bool b=>eqV (.bl b) x
 | .int i _=>eqV (.int i) x
 | .str z _=>eqV (.str z) x
 | _=>false
theorem J06{x y:V}{u:Value}(r:An y u)(f:Co y=true):eqU x u=eqV y x:=by
 cases y with
 | non=>cases r;rfl
 | bl b=>cases r;rfl
 | int i=>obtain ⟨t,rfl⟩:=r;rfl
 | str z=>obtain ⟨t,rfl⟩:=r;rfl
 | _=>exact absurd (show false=true from f) Ft
theorem Ka{x:V}:∀{xs:List V} {us:List Value},Ao xs us→xs.all Co=true→us.any (eqU x)=xs.any fun y=>eqV y x
 | _,_,.nil,_=>rfl
 | y::xs,u::us,.cons r t,f=>by
  rw [List.all_cons,Hc]at f;rw [R0,R0,J06 r f.1,Ka t f.2]
theorem G7{A:Around}{s:Shared}{x:V}{v:Value}(rx:An x v)(fx:Co x=true):∀{xs:List V} {us:List Value},Ao xs us→xs.all Co=true→∀u∈us,SeqAt.EqAt A s u v (eqU x u)
 | _,_,.nil,_=>fun u hu=>by cases hu
 | y::xs,u::us,.cons r t,f=>fun u' hu=>by
  rw [List.all_cons,Hc]at f;rcases Fv.mp hu with rfl | hu
  · rw [J06 r f.1];exact J05 r rx f.1 fx
  · exact G7 rx fx t f.2 u' hu
def inV(x:V)(xs:List V):Bool:=xs.any fun y=>eqV y x
def rIn(K:PySem.W.Frag)(neg:Bool):R2:=fun x y H Q=>∃p xs,y= .ref p∧(SqL K H p xs∨SqT K H p xs)∧Co x=true∧xs.all Co=true∧Q (.bl (if neg then !inV x xs else inV x xs)) H
theorem Xr:OpR X (compareOp .In) (rIn X.K false):=by
 intro pins s σ H x y v u Q I rx ry h;obtain ⟨p,xs,rfl,hq,fx,fs,q⟩:=h;cases ry;rcases hq with hq | hq
 · obtain ⟨its,r,pl,hz⟩:=I.list hq
   refine SeqAt.in_listAt (eqU x) pl.isList (fun w hw=>G7 rx fx r fs w (by simpa using hw)) ⟨.bl _,H,I,rfl,?_⟩;rw [show its.toArray.any (eqU x)=its.any (eqU x) by simp,Ka r fs];exact q
 · obtain ⟨its,r,pl,hz⟩:=I.tuple hq
   refine SeqAt.in_tupleAt (eqU x) pl (fun w hw=>G7 rx fx r fs w (by simpa using hw)) ⟨.bl _,H,I,rfl,?_⟩;rw [show its.toArray.any (eqU x)=its.any (eqU x) by simp,Ka r fs];exact q
theorem Oy:OpR X (compareOp .NotIn) (rIn X.K true):=by
 intro pins s σ H x y v u Q I rx ry h;obtain ⟨p,xs,rfl,hq,fx,fs,q⟩:=h;cases ry;rcases hq with hq | hq
 · obtain ⟨its,r,pl,hz⟩:=I.list hq
   refine SeqAt.notIn_listAt (eqU x) pl.isList (fun w hw=>G7 rx fx r fs w (by simpa using hw)) ⟨.bl _,H,I,rfl,?_⟩;rw [show its.toArray.any (eqU x)=its.any (eqU x) by simp,Ka r fs];exact q
 · obtain ⟨its,r,pl,hz⟩:=I.tuple hq
   refine SeqAt.notIn_tupleAt (eqU x) pl (fun w hw=>G7 rx fx r fs w (by simpa using hw)) ⟨.bl _,H,I,rfl,?_⟩;rw [show its.toArray.any (eqU x)=its.any (eqU x) by simp,Ka r fs];exact q
theorem Ba:D7 X (.builtin "len") (fun xs H Q=>∃p ys,xs=[.ref p]∧(SqL X.K H p ys∨SqT X.K H p ys)∧Q (.int ys.length) H):=by
 intro pins s σ H xs us Q I r h;obtain ⟨p,ys,rfl,hq,q⟩:=h;obtain ⟨u,rfl,rx⟩:=Do r;cases rx;have hn:=Kz;rcases hq with hq | hq
 · obtain ⟨its,r',pl,hz⟩:=I.list hq
   have hlen:=r'.length
   exact Calls.call_len_list pl.isList (by simp only [Fn] <;> omega) ⟨.int ys.length,H,I.tok _,⟨s.toks+1,by rw [Fn,hlen]⟩,q⟩
 · obtain ⟨its,r',pl,hz⟩:=I.tuple hq
   have hlen:=r'.length
   exact len_tuple pl (by simp only [Fn] <;> omega) ⟨.int ys.length,H,I.tok _,⟨s.toks+1,by rw [Fn,hlen]⟩,q⟩
theorem Cj:D7 X (.builtin "len") (fun xs H Q=>∃z,xs=[.str z]∧z.length≤sizeLine∧Q (.int z.length) H):=by
 intro pins s σ H xs us Q I r h;obtain ⟨z,rfl,hz,q⟩:=h;obtain ⟨u,rfl,t,rfl⟩:=Do r;have hn:=Kz;exact len_str (by omega) ⟨.int z.length,H,I.tok _,⟨_,rfl⟩,q⟩
theorem Oz:D7 X (.type "list") (fun xs H Q=>∃p ys,xs=[.ref p]∧(SqL X.K H p ys∨SqT X.K H p ys)∧∀l,H l=none→Q (.ref l) (upd H l (.lst ys))):=by
 intro pins s σ H xs us Q I r h;obtain ⟨p,ys,rfl,hq,q⟩:=h;obtain ⟨u,rfl,rx⟩:=Do r;cases rx
 have fin:∀(its:List Value),Ao ys its→ys.length≤sizeLine→∀(h':Heap) (c':Nat),(∀b o',s.heap.get? b=some o'→h'.get? b=some o')→
  h'.get? s.heap.objs.size=some {cls:= .type "list",dict:=none,data:= .seq its.toArray c',slots:=#[]}→EP X pins σ Q (.ref s.heap.objs.size) {s with heap:=h'}:=fun its r' hz h' c' kp e=>
  ⟨.ref s.heap.objs.size,_,I.laid (t':=s.toks) kp (Fg _) (show Bd X.prog X.w _ h' _ (.lst ys) from ⟨hz,its,c',r',e⟩),rfl,q _ (I.hok.fresh (Fg _))⟩
 rcases hq with hq | hq
 · obtain ⟨its,r',pl,hz⟩:=I.list hq
   have hlen:=r'.length;obtain ⟨o,ho,hc,n,hd⟩:=pl.isList
   exact call_list_seq p (.inl rfl) ho hc hd (fun h' c' kp e=>fin its r' hz h' c' kp e) (by simp only [Fn] <;> omega)
 · obtain ⟨its,r',pl,hz⟩:=I.tuple hq
   have hlen:=r'.length;obtain ⟨o,ho,hc,n,hd⟩:=pl
   exact call_list_seq p (.inr rfl) ho hc hd (fun h' c' kp e=>fin its r' hz h' c' kp e) (by simp only [Fn] <;> omega)
theorem Nf:D7 X (.type "tuple") (fun xs H Q=>∃p ys,xs=[.ref p]∧((SqL X.K H p ys∧∀l,H l=none→Q (.ref l) (upd H l (.tup ys)))∨(SqT X.K H p ys∧Q (.ref p) H))):=by
 intro pins s σ H xs us Q I r h;obtain ⟨p,ys,rfl,h⟩:=h;obtain ⟨u,rfl,rx⟩:=Do r;cases rx;rcases h with ⟨hq,q⟩ | ⟨hq,q⟩
 · obtain ⟨its,r',pl,hz⟩:=I.list hq
   have hlen:=r'.length
   refine call_tuple_list pl.isList (fun h' kp=>?_) (by simp only [Fn] <;> omega)
   have I1:Inv X pins σ H {s with heap:=h'}:=I.kept (t':=s.toks) kp
   have I2:Inv X pins σ (upd H h'.objs.size (.tup ys)) {s with heap:=h'.push {cls:= .type "tuple",data:= .seq its.toArray}}:=
    I1.laid (t':=s.toks) (fun b o e=>Fd _ e) (Fg _) (show Bd X.prog X.w _ _ _ (.tup ys) from ⟨hz,its,r',IsTup.new _ _⟩)
   exact ⟨.ref h'.objs.size,_,I2,rfl,q _ (I1.hok.fresh (Fg _))⟩
 · obtain ⟨its,r',pl,hz⟩:=I.tuple hq
   exact call_tuple_same pl ⟨.ref p,H,I,rfl,q⟩
def tyV(K:PySem.W.Frag)(T:String)(x:V)(H:Hp):Prop:=match x with
 | .str _=>T="str"
 | .int _=>T="int"
 | .ref p=>(T="list"∧∃xs,SqL K H p xs)∨(T="tuple"∧∃o,K.lookup p=some o∧o.cls= .type "tuple"∧o.dict=none)∨
  (T="dict"∧((∃kvs,H p=some (.dK kvs))∨∃kvs,H p=some (.dT kvs)))∨(T="set"∧∃S n,H p=some (.set S n))
 | _=>False
theorem J07{pins:List (Addr×Obj)}{σ:St}{H:Hp}{s:Shared}{T:String}{x:V}{v:Value}(I:Inv X pins σ H s)(r:An x v)(ty:tyV X.K T x H):
 s.TypeIs v T∧∀a,v= .ref a→∃ob,s.heap.get? a=some ob∧ob.dict=none:=by
 cases x with
 | str z=>
  obtain ⟨t,rfl⟩:=r;cases (show T="str" from ty);exact ⟨Rz s z t,fun _ e=>nomatch e⟩
 | int i=>
  obtain ⟨t,rfl⟩:=r;cases (show T="int" from ty);exact ⟨typeIs_int s i t,fun _ e=>nomatch e⟩
 | ref p=>
  cases r;rcases ty with ⟨rfl,xs,hq⟩ | ⟨rfl,o,hk,hc,hd⟩ | ⟨rfl,hk⟩ | ⟨rfl,S,n,hk⟩
  · obtain ⟨its,_,pl,_⟩:=I.list hq
    refine ⟨pl.isList.typeIs,fun a e=>?_⟩;cases e;obtain ⟨o,n,e,c,hd,_⟩:=pl;exact ⟨o,e,hd⟩
  · refine ⟨⟨o,I.kIn p o hk,hc⟩,fun a e=>?_⟩
    cases e;exact ⟨o,I.kIn _ o hk,hd⟩
  · have z:∃o,s.heap.get? p=some o∧o.ExactDict:=by
     rcases hk with ⟨kvs,hk⟩ | ⟨kvs,hk⟩
     · obtain ⟨_,_,_,_,o,_,_,e,ex,_⟩:=I.hok p _ hk
       exact ⟨o,e,ex⟩
     · obtain ⟨_,_,_,_,o,_,_,e,ex,_⟩:=I.hok p _ hk
       exact ⟨o,e,ex⟩
    obtain ⟨o,e,ex⟩:=z;refine ⟨⟨o,e,ex.1⟩,fun a e2=>?_⟩;cases e2;exact ⟨o,e,ex.2.1⟩
  · obtain ⟨o,_,_,_,e,ex,_⟩:=I.hok p _ hk
    refine ⟨⟨o,e,ex.1⟩,fun a e2=>?_⟩;cases e2;exact ⟨o,e,ex.2.1⟩
 | _=>exact False.elim ty
def J9p(K:PySem.W.Frag)(T:String)(r:V→List V→Hp→VK→Prop)(to:TE):TE:=fun σ H Q=>to σ H fun x H1=>tyV K T x H1∧r x [] H1 Q
def tBM(K:PySem.W.Frag)(T:String)(r:V→List V→Hp→VK→Prop)(to:TE)(t:TA):TE:=fun σ H Q=>to σ H fun x H1=>tyV K T x H1∧t σ H1 fun xs H2=>r x xs H2 Q
variable {o e:Expr} {es:List Expr} {to:TE} {t:TA} {name:Str} {apos cpos:Pos} {T id:String} {r:V→List V→Hp→VK→Prop}
theorem J7c(pa:PlainAttrs T)(slot:Slot T name id)(hty:typeOf (.builtin id)=pure (.type "method_descriptor"))(hm:MtR X id r)(ho:PE X o to)
 (hbase:attributeBase o name X.env (eval o X.env)=eval o X.env:=by rfl) (hline:(apos.endLine==cpos.line)=true:=by rfl):PE X (.Call (.Attribute o name apos) [] [] cpos) (J9p X.K T r to):=by
 intro pins s σ H Q I h;refine wpAny_Call_method0_late hbase hline (thn (ho pins s σ H _ I h) fun v s1 hq_=>?_);obtain ⟨x,H1,I1,r1,ty,q1⟩:=hq_;obtain ⟨h1,h2⟩:=J07 I1 r1 ty;exact ⟨T,id,pa,slot,hty,h1,h2,Calls.callWith_builtin rfl (PySem.evalArgs_none (hm pins s1 σ H1 x [] v [] Q I1 r1 .nil q1))⟩
theorem Ey(pa:PlainAttrs T)(slot:Slot T name id)(hty:typeOf (.builtin id)=pure (.type "method_descriptor"))(hm:MtR X id r)(ho:PE X o to)(ha:PA X (e::es) t)
 (hbase:attributeBase o name X.env (eval o X.env)=eval o X.env:=by rfl)
 (hfew:((backTo cpos (starEach (e::es) X.env)).all (fun x=>!x.1) && (backToKw cpos (keywordEach [] X.env)).all (fun x=>x.1.isSome)
  && decide ((e::es).length+([]:List Keyword).length+(if ([]:List Keyword).isEmpty then 0 else 1) < 30))=true:=by rfl)
 (hline:(apos.endLine==cpos.line)=true:=by rfl) (hs:starEach (e::es) X.env=(false,eval e X.env)::starEach es X.env:=by rfl) (hplain:(backTo cpos (starEach es X.env)).any (·.1)=false:=by rfl):
 PE X (.Call (.Attribute o name apos) (e::es) [] cpos) (tBM X.K T r to t):=by
 intro pins s σ H Q I h;refine wpAny_Call_method_late hbase hfew hline rfl (thn (ho pins s σ H _ I h) fun v s1 hq_=>?_);obtain ⟨x,H1,I1,r1,ty,q1⟩:=hq_;obtain ⟨h1,h2⟩:=J07 I1 r1 ty;refine ⟨T,id,pa,slot,hty,h1,h2,?_⟩;have hA:=ha cpos pins s1 σ H1 _ I1 q1;rw [hs]at hA ⊢
 refine Calls.callWith_builtin (by show (false || (backTo cpos (starEach es X.env)).any (·.1))=false;rw [hplain] <;> rfl) (Calls.evalArgs_plain ?_)
 exact thn hA fun us s2 ⟨vs,H2,I2,r2,q2⟩=>hm pins s2 σ H2 x vs v us Q I2 r1 r2 q2
end
end L2
namespace L2
def MtM(X:Cx)(id:String)(r:V→List V→Hp→VK→Prop):Prop:=
 ∀(pins:List (Addr×Obj)) (s:Shared) (σ:St) (H:Hp) (x:V) (xs:List V) (v:Value) (us:List Value) (Q:VK),Inv X pins σ H s→An x v→Ao xs us→r x xs H Q→
   wpAny (model X.prog X.w) X.A (call (.builtin id) (v::us)) (EP X pins σ Q) X.xe s
theorem Ao.one:∀{x:V} {us:List Value},Ao [x] us→∃u,us=[u]∧An x u
 | _,_,.cons r .nil=>⟨_,rfl,r⟩
theorem Ao.zero:∀{us:List Value},Ao [] us→us=[]
 | _,.nil=>rfl
theorem Ao.rep{xs:List V}{us:List Value}(h:Ao xs us):∀k:Nat,Ao (List.replicate k xs).flatten (List.replicate k us).flatten
 | 0=> .nil
 | k+1=>by
  rw [Hi,Hi,Hf,Hf];exact Ao.append h (Ao.rep h k)
theorem Nq(its:List Value):∀(k:Nat) (acc:List Value),
 List.foldl (fun x1 x2=>x1++x2) acc.toArray (List.replicate k its.toArray)=(acc++(List.replicate k its).flatten).toArray
 | 0,acc=>by simp
 | k+1,acc=>by
  have e:acc.toArray++its.toArray=(acc++its).toArray:=by simp
  have e2:(acc++its)++(List.replicate k its).flatten=acc++(List.replicate (k+1) its).flatten:=by
   rw [Hi,Hf,Rb]
  rw [← e2,← Nq its k (acc++its),← e,Hi,List.foldl_cons]
section
variable {X:Cx} {pins:List (Addr×Obj)} {σ:St} {H:Hp} {s:Shared} {l b:Addr} {xs ys zs:List V}
theorem Inv.lset{its its':List Value}{n:Nat}{f:Array Value→Array Value}{t':Nat}(I:Inv X pins σ H s)(hH:H l=some (.lst xs))
 (e:s.heap.get? l=some {cls:= .type "list",data:= .seq its.toArray n}) (hf:f its.toArray=its'.toArray) (hv:Ao ys its') (hz:ys.length≤sizeLine):
 Inv X pins σ (upd H l (.lst ys)) {s with heap:=s.heap.update l (Obj.mapSeq f),toks:=t'}:=by
 have q:=PySem.IsL.update e f;rw [hf]at q;refine I.write (x:=l) (e:=l) (by rw [hH];exact trivial) (.inl rfl) (fun b' u hb hu=>(Heap.get?_update_other s.heap (Obj.mapSeq f) (Ne.symm hb)).trans hu) ⟨_,q⟩ ?_;exact ⟨hz,its',_,hv,q⟩
theorem Inv.lnew{its:List Value}{t':Nat}(I:Inv X pins σ H s)(hv:Ao ys its)(hz:ys.length≤sizeLine):
 Inv X pins σ (upd H s.heap.objs.size (.lst ys)) {s with heap:=s.heap.push {cls:= .type "list",data:= .seq its.toArray},toks:=t'}:=
 I.laid (fun _ _ q=>Fd _ q) (Fg _) ⟨hz,its,0,hv,Fs _ rfl⟩
theorem Inv.fresh(I:Inv X pins σ H s):H s.heap.objs.size=none:=I.hok.fresh (Fg _)
theorem Inv.lstM(I:Inv X pins σ H s)(hH:H l=some (.lst xs)):xs.length≤sizeLine∧∃(its:List Value) (n:Nat),Ao xs its∧xs.length=its.length∧s.heap.get? l=some {cls:= .type "list",data:= .seq its.toArray n}:=by
 obtain ⟨z,its,n,r,e⟩:=I.hok l _ hH;exact ⟨z,its,n,r,r.length,e⟩
theorem J08{n:Nat}(h:n≤sizeLine):Builtin.List.listTooLong n=false:=by
 unfold Builtin.List.listTooLong;exact Fw (by omega)
end
section
variable {X:Cx}
def J47:V→List V→Hp→VK→Prop:=fun x vs H Q=>∃l xs y,x= .ref l∧vs=[y]∧H l=some (.lst xs)∧xs.length < sizeLine∧Q .non (upd H l (.lst (xs++[y])))
theorem Dd:MtM X "list.append" J47:=by
 intro pins s σ H x vs v us Q I rx rv h;obtain ⟨l,xs,y,rfl,rfl,hH,hz,q⟩:=h;cases rx;obtain ⟨u,rfl,ru⟩:=rv.one;obtain ⟨z,its,n,r,hl,e⟩:=I.lstM hH;refine Rh F.slot_list_append ⟨_,e,rfl⟩ F.entry_list_append (F.args_list_append_2 _ _) (PySem.list_append l its.toArray n u (by rw [Fn];omega)) ⟨e,?_⟩;refine ⟨.non,_,I.lset (its':=its++[u]) hH e (by simp) (r.append (.cons ru .nil)) ?_,rfl,q⟩;rw [Fm,List.length_singleton];omega
def Jb2:V→List V→Hp→VK→Prop:=fun x vs H Q=>∃l xs y,x= .ref l∧vs=[]∧H l=some (.lst xs)∧xs[xs.length - 1]?=some y∧Q y (upd H l (.lst xs.dropLast))
def J7d:V→List V→Hp→VK→Prop:=fun x vs H Q=>∃l xs i k y,x= .ref l∧vs=[.int i]∧H l=some (.lst xs)∧-(2 ^ 63)≤i∧i < 2 ^ 63∧seqIndex? i xs.length=some k∧xs[k]?=some y∧Q y (upd H l (.lst (xs.eraseIdx k)))
def Jb3:R2:=fun x y H Q=>∃l b xs zs,x= .ref l∧y= .ref b∧H l=some (.lst xs)∧H b=some (.lst zs)∧xs.length+zs.length≤sizeLine∧∀p,H p=none→Q (.ref p) (upd H p (.lst (xs++zs)))
theorem L3:OpR X (binaryOp .Add) Jb3:=by
 intro pins s σ H x y v u Q I rx ry h;obtain ⟨l,b,xs,zs,rfl,rfl,hH,hB,hz,q⟩:=h;cases rx;cases ry;obtain ⟨z,its,n,r,hl,e⟩:=I.lstM hH;obtain ⟨z2,its2,n2,r2,hl2,e2⟩:=I.lstM hB;refine PySem.P.add_list e e2 ?_ (by rw [Fn,Fn];omega)
 have ea:its.toArray++its2.toArray=(its++its2).toArray:=by simp
 rw [ea];exact ⟨.ref _,_,I.lnew (t':=s.toks) (r.append r2) (by rw [Fm];omega),rfl,q _ I.fresh⟩
def J9q:R2:=fun x y H Q=>∃l k xs,x= .ref l∧y= .int k∧H l=some (.lst xs)∧-(2 ^ 63)≤k∧k < 2 ^ 63∧xs.length * k.toNat≤sizeLine∧
 ∀p,H p=none→Q (.ref p) (upd H p (.lst (List.replicate k.toNat xs).flatten))
theorem J48{α:Type}(xs:List α)(k:Nat):(List.replicate k xs).flatten.length=k * xs.length:=by
 induction k with
 | zero=>simp
 | succ k ih=>rw [Hi,Hf,Fm,ih,Nat.succ_mul,Nat.add_comm]
theorem J7e:OpR X (binaryOp .Mult) J9q:=by
 intro pins s σ H x y v u Q I rx ry h;obtain ⟨l,k,xs,rfl,rfl,hH,h1,h2,hz,q⟩:=h;cases rx;obtain ⟨t,rfl⟩:=ry;obtain ⟨z,its,n,r,hl,e⟩:=I.lstM hH
 have hlen:its.toArray.size * k.toNat≤sizeLine:=by rw [Fn,← hl];exact hz
 have hcap:¬its.toArray.size * k.toNat > (2 ^ 63 - 1) / 8:=by
  have:(sizeLine:Nat)≤(2 ^ 63 - 1) / 8:=by decide
  omega
 have hfit:¬(!Builtin.List.listFitsIndex k)=true:=by
  rw [fitsIndex_both h1 h2];exact Ft
 have hlong:¬Builtin.List.listTooLong (its.toArray.size * k.toNat)=true:=by
  rw [J08 hlen];exact Ft
 have hnew:List.foldl (fun x1 x2=>x1++x2) #[] (List.replicate (if its.toArray.isEmpty=true then 0 else k.toNat) its.toArray)=(List.replicate k.toNat its).flatten.toArray:=by
  have f0:∀m:Nat,List.foldl (fun x1 x2=>x1++x2) #[] (List.replicate m its.toArray)=(List.replicate m its).flatten.toArray:=fun m=>by
   have:=Nq its m [];rw [List.nil_append]at this;exact this
  rw [f0]
  cases its with
  | nil=>simp
  | cons a r'=>rw [if_neg (by simp)]
 refine wpAny_binaryOp_repeat_ref (T:="list") (U:="int") (by decide) ⟨_,e,rfl⟩ (fun s'=>typeIs_int s' k t) noFill_list_mul F.fills_int_mul F.slot_int_rmul repeat_list F.slot_int_index.lookup
  (Rh F.slot_int_rmul (typeIs_int s k t) F.entry_int_rmul (F.args_int_rmul_2 _ _) (int___rmul___int_list k t l its.toArray n)
   ⟨e,rfl,⟨_,e,rfl⟩,Rh F.slot_list_mul ⟨_,e,rfl⟩ F.entry_list_mul (F.args_list_mul_2 _ _) (AutoListH.list___mul___list_int_3 l its.toArray n k t hfit hcap hlong) ⟨e,?_⟩⟩)
 rw [hnew];exact ⟨.ref _,_,I.lnew (t':=s.toks) (r.rep k.toNat) (by rw [J48,Nat.mul_comm];exact hz),rfl,q _ I.fresh⟩
end
end L2
namespace Att
open PySem PySem.W PySem.Calls PyProof.Rows
theorem Lo{P:Params}{h:Heap}:∀(ns:List Int) (vs:List Value),WellAll P h vs (ns.map WData.int)→IntsAre vs ns:=by
 intro ns
 induction ns with
 | nil=>
  intro vs w;rw [List.map_nil]at w;cases w;exact .nil
 | cons n ns ih=>
  intro vs w;rw [List.map_cons]at w
  cases w with
  | cons a b=>
   cases a;exact .cons _ _ (ih _ b)
theorem Xs{l:OpenLaw}{n:Nat}(hn:l.most=some n){P:Params}{h:Heap}{args:List WData}{vals:List Value}
 (hpre:l.row.toRowW.claim.pre args=true) (hwl:WellAll P h vals args):
 ∃a vs ns,vals=[Value.ref a]∧args=[WData.list (ns.map WData.int)]∧h.get? a=some {cls:= .type "list",data:= .seq vs.toArray}∧IntsAre vs ns∧ns.length≤n:=by
 have hsh:WShape.hasAll [] args [.list .int]=true:=(pre_splitW hpre).1;have hc:l.pre.holds [] {args:=args}=true:=(pre_splitW hpre).2;obtain ⟨d,r,rfl,h1,h2⟩:=hasAllW_cons hsh;obtain rfl:=hasAllW_nil h2;obtain ⟨xs,rfl,h3⟩:=hasW_list h1;obtain ⟨ns,rfl⟩:=items_int h3
 have hlen:ns.length≤n:=by
  unfold OpenLaw.pre at hc
  have h4:(WTm.not (.lt (.lit (.int (n:Int))) (.len (.arg 0)))).holds [] {args:=[.list (ns.map .int)]}=true:=by
   have h4:=(holds_andW hc).1;rw [hn]at h4;exact h4
  have h5:=condW_of h4 (w_not (w_lt w_lit (w_len_list (w_arg rfl))));rw [Fa]at h5;refine RF fun q=>?_
  have q':(n:Int) < ((ns.length:Nat):Int):=by omega
  first
   | (rw [FA q']at h5;exact absurd h5 (by decide))
   | (simp at h5;omega)
 cases hwl with
 | cons w1 w2=>
  cases w2
  cases w1 with
  | list ho hall=>exact ⟨_,_,ns,rfl,rfl,ho,Lo ns _ hall,hlen⟩
theorem Xt(l:OpenLaw)(args:List WData):l.row.toRowW.claim.post args (.bool true) args=true:=
 postW_of (r:=l.row.toRowW) (X:=(true==true))
  (show WShape.has [] (.bool true) .bool=true by first | rfl | decide | simp [WShape.has,WShape.arms,WShape.armsAll])
  (show (WTm.eq .res (.lit (.bool true))).value [] {args:=args,res:=some (.bool true),after:=args}=some (.bool (true==true)) from w_eq_bool (w_res rfl) w_lit) rfl
theorem Q9{l:OpenLaw}{n:Nat}{q:Program}{loose:List Str}{XP:(Str→Option Value)→Heap→Prop}{YP:World→Heap→Prop}{d:DefRec}
 (hn:l.most=some n) (hdf:d.params.defaults=[])
 (call:∀(w:World) (s₀ s₁:Shared) (mg mb:Str→Option Value) (fa:Addr) (o:Obj) (pm cd doc:Value) (a:Addr) (vs:List Value) (ns:List Int),
  Ground q loose [] XP w s₀ mg mb s₁.heap→YP w s₁.heap→
  s₁.heap.get? fa=some o→o.data= .func (docDef d.name d.params d.body d.scope pm cd doc)→s₁.heap.CodeRec cd d.name→mg d.name=some (.ref fa)→
  s₁.heap.get? a=some {cls:= .type "list",data:= .seq vs.toArray}→IntsAre vs ns→ns.length≤n→s₁.gens=#[]→
  codeAny (model l.prog w) callerA (.call (.ref fa) ⟨[.ref a],[]⟩) (fun r s'=>r= .ok (.ret (.bool true))∧OldK s₁.heap s'.heap∧s'.os=s₁.os∧AllBare s'.gens) s₁):
 WalkO q loose XP YP l.row.toRowW d [] (fun f vs=>PySem.call f vs):=by
 intro w s₀ s₁ mg mb G Y fa o pm cd doc dV kV ho hd hcd hD hmg hg args vals as hpre hlay hrd hwl hlo;obtain rfl:dV= .none:=Dflts.none hD hdf;obtain rfl:kV= .none:=Dflts.noKw hD;obtain ⟨a,vs,ns,rfl,rfl,hobj,hints,hlen⟩:=Xs hn hpre hwl;refine enter_call (HI (call w s₀ s₁ mg mb fa o pm cd doc a vs ns G Y ho (fd_plain hd) hcd hmg hobj hints hlen hg) fun r s' hq=>?_);obtain ⟨rfl,h2,h3,h4⟩:=hq;exact ⟨.inl ⟨.bool true,.bool true,[],rfl,fun _=>rfl,.bool true,Xt l _,fun _=>⟨List.Pairwise.nil,fun _ hm=>(nomatch hm)⟩⟩,h2,h3,h4⟩
end Att
namespace L2
theorem Nr:∀{vs:List Value} {ns:List Int},IntsAre vs ns→Ao (ns.map V.int) vs
 | _,_,.nil=> .nil
 | _,_,.cons n t h=> .cons ⟨t,rfl⟩ (Nr h)
end L2
namespace L2
def Ar(s:Stmt)(j:Nat):Stmt:=match s with
 | .ClassDef _ _ _ body _ _ _ _ _ _ _=>body.getD j (.Pass ⟨0,0,0,0⟩)
 | _=> .Pass ⟨0,0,0,0⟩
def Bk(s:Stmt):Arguments:=match s with
 | .FunctionDef _ a _ _ _ _ _ _ _ _=>a
 | _=>{posonlyargs:=[],args:=[],vararg:=none,kwonlyargs:=[],kw_defaults:=[],kwarg:=none,defaults:=[]}
def Be(s:Stmt):List Stmt:=match s with
 | .FunctionDef _ _ b _ _ _ _ _ _ _=>b
 | _=>[]
def A6(s:Stmt):Scope:=match s with
 | .FunctionDef _ _ _ _ _ _ sc _ _ _=>sc
 | _=>{kind:= .function,names:=[],isGenerator:=false,isCoroutine:=false}
abbrev CX0:CXT:=fun _ _ _ _ _ _=>False
abbrev E0:XK:=fun _ _ _=>False
theorem Ab{X:Cx}:Iy CX0 X E0:=fun _ _ _ _ _ _ _ h=>h.elim
structure Fun(K:PySem.W.Frag)(x qual:Str)(st:Stmt)(f:Addr)(fd:FuncData):Prop where
 ex:∃(oc:Value) (od:Option Addr) (kV doc pm:Value) (an:Option Addr) (cdv ct:Value) (osl:Array (Option Value)),
  fd=PySem.W.fnOf x qual (Bk st) (Be st) (A6 st) .none kV doc pm an cdv ct∧K.lookup f=some ⟨oc,od,.func fd,osl⟩∧PySem.W.codeIn K cdv qual=true
 kp:PySem.W.keepIn K (.ref f)=true
section
variable {P:Program} {w:World} {K:PySem.W.Frag} {mg:Str→Option Value} {base:Heap}
theorem Fun.ok{x qual:Str}{st:Stmt}{f:Addr}{fd:FuncData}{N ps:List Str}{k:Nat}{sp:Sp}(F:Fun K x qual st f fd)(S:A9 N ps (A6 st))(len:∀vs H Q E,sp vs H Q E→vs.length=ps.length)
 (hbody:∀(cdv:Value) (A:Around) (outer:List Env) (s:Shared) (H:Hp) (vs:List V) (Q:VK) (E:XK),Bh k (A.deeper (envOfC qual (A6 st) s.heap.objs.size f cdv))→sp vs H Q E→
  ∃t,PSs (Q5 CX0 P w K mg base N qual (A6 st) f cdv A outer s H E).nox (Be st) t∧t {nx:=fun _ H'=>Q .non H',rt:=Q} (start N vs) H):Al P w K mg base CX0 (k+1) f fd ps sp:=by
 obtain ⟨oc,od,kV,doc,pm,an,cdv,ct,osl,rfl,lk,hcd⟩:=F.ex;refine J5x lk hcd S len fun A outer s H vs Q E hr hsp=>?_;obtain ⟨t,h,q⟩:=hbody cdv A outer s H vs Q E hr hsp;exact ⟨t,h.nox,q⟩
theorem Fun.binds{x qual:Str}{st:Stmt}{f:Addr}{fd:FuncData}{ps:List Str}(F:Fun K x qual st f fd)
 (h:∀(kV doc pm:Value) (an:Option Addr) (cdv ct:Value) (us:List Value),us.length=ps.length→bindArgs (PySem.W.fnOf x qual (Bk st) (Be st) (A6 st) .none kV doc pm an cdv ct) ⟨us,[]⟩=pure (ps.zip us)):C0 K fd ps []:=by
 obtain ⟨oc,od,kV,doc,pm,an,cdv,ct,osl,rfl,lk,hcd⟩:=F.ex;exact .all (h kV doc pm an cdv ct)
theorem E4{x qual:Str}{st:Stmt}{f:Addr}{oc:Value}{od an:Option Addr}{osl:Array (Option Value)}{kV doc pm cdv ct:Value}(l:K.lookup f=some ⟨oc,od,.func (PySem.W.fnOf x qual (Bk st) (Be st) (A6 st) .none kV doc pm an cdv ct),osl⟩)
 (c:PySem.W.codeIn K cdv qual=true) (k:PySem.W.keepIn K (.ref f)=true):Fun K x qual st f (PySem.W.fnOf x qual (Bk st) (Be st) (A6 st) .none kV doc pm an cdv ct):=⟨⟨oc,od,kV,doc,pm,an,cdv,ct,osl,rfl,l,c⟩,k⟩
end
theorem Dh{A:Around}{k:Nat}(hr:Bh k A):A.units+1 < cLine:=HJ (Nat.add_le_add_left (by decide:1≤64) _) hr.units
section
variable {X:Cx}
theorem pv(i:Nat){x:Str}{pos:Pos}(hN:X.N[i]?=some x:=by rfl)(hv:Vis X.env.scope x:=by first | exact Or.inl rfl | exact Or.inr (Or.inl rfl) | exact Or.inr (Or.inr rfl))(hd:(x==("__debug__":Str))=false:=by decide)
 (hcd:(x==("__classdict__":Str))=false:=by decide):PE X (.Name x pos) (J71 i):=J72 hN hv hd hcd
end
def A7(H H':Hp):Prop:=∀b o,H b=some o→H' b=some o
theorem A7.refl(H:Hp):A7 H H:=fun _ _ h=>h
theorem A7.trans{H H1 H2:Hp}(a:A7 H H1)(b:A7 H1 H2):A7 H H2:=fun c o h=>b c o (a c o h)
theorem A7.seq{K:PySem.W.Frag}{H H':Hp}{a:Addr}{xs:List V}(e:A7 H H')(h:SqL K H a xs):SqL K H' a xs:=by
 rcases h with (h | ⟨o,h⟩) | h
 · exact .inl (.inl (e _ _ h))
 · exact .inl (.inr ⟨o,e _ _ h⟩)
 · exact .inr h
end L2
namespace L2
section
variable {κ:Type} [DecidableEq κ]
def Bb(kvs:List (κ×V))(k:κ):Option V:=(kvs.find? fun kv=>decide (kv.1=k)).map (·.2)
def Cq(kvs:List (κ×V))(k:κ)(v:V):List (κ×V):=
 if (kvs.any fun kv=>decide (kv.1=k))=true then kvs.map (fun kv=>if kv.1=k then (kv.1,v) else kv) else kvs++[(k,v)]
def Kb(kvs:List (κ×V))(k:κ):List (κ×V):=kvs.filter fun kv=>decide (kv.1≠k)
theorem Bx{p:κ×V}{r:List (κ×V)}{k:κ}(e:p.1=k):Bb (p::r) k=some p.2:=by simp [Bb,HS,e]
theorem By{p:κ×V}{r:List (κ×V)}{k:κ}(e:¬p.1=k):Bb (p::r) k=Bb r k:=by simp [Bb,HS,e]
theorem Cz(k:κ):∀kvs:List (κ×V),(kvs.any fun kv=>decide (kv.1=k))=(Bb kvs k).isSome
 | []=>rfl
 | p::r=>by
  rw [R0]
  by_cases e:p.1=k
  · simp only [Bx e,FA e,Bool.true_or,Option.isSome_some]
  · rw [By e,Fw e,Bool.false_or];exact Cz k r
theorem Qa(k j:κ)(y:V):∀kvs:List (κ×V),Bb (kvs.map fun kv=>if kv.1=k then (kv.1,y) else kv) j=(Bb kvs j).map fun x=>if j=k then y else x
 | []=>rfl
 | p::r=>by
  have ih:=Qa k j y r;rw [List.map_cons]
  by_cases h:p.1=k
  · rw [if_pos h]
    by_cases e:p.1=j
    · rw [Bx (p:=(p.1,y)) e,Bx e,Ht,if_pos (e.symm.trans h)]
    · rw [By (p:=(p.1,y)) e,By e,ih]
  · rw [if_neg h]
    by_cases e:p.1=j
    · rw [Bx (p:=p) e,Bx e,Ht,if_neg (fun z=>h (e.trans z))]
    · rw [By (p:=p) e,By e,ih]
theorem Nt(k j:κ)(y:V):∀kvs:List (κ×V),Bb kvs k=none→Bb (kvs++[(k,y)]) j=if j=k then some y else Bb kvs j
 | [],_=>by
  by_cases e:k=j
  · rw [if_pos e.symm];exact Bx (p:=(k,y)) e
  · rw [if_neg (fun z=>e z.symm)];exact By (p:=(k,y)) e
 | p::r,hn=>by
  rw [List.cons_append]
  have hk:¬p.1=k:=fun z=>by rw [Bx z]at hn;cases hn
  rw [By hk]at hn;have ih:=Nt k j y r hn
  by_cases e:p.1=j
  · rw [Bx e,Bx e,if_neg (fun z=>hk (e.trans z))]
  · rw [By e,By e,ih]
theorem G8(kvs:List (κ×V))(k j:κ)(y:V):Bb (Cq kvs k y) j=if j=k then some y else Bb kvs j:=by
 unfold Cq
 by_cases a:(kvs.any fun kv=>decide (kv.1=k))=true
 · rw [if_pos a,Qa]
   rw [Cz]at a
   by_cases e:j=k
   · obtain ⟨x,hx⟩:=Rc.mp a
     rw [if_pos e,e,hx,Ht,if_pos rfl]
   · rw [if_neg e]
     cases Bb kvs j with
     | none=>rfl
     | some x=>rw [Ht,if_neg e]
 · rw [if_neg a]
   refine Nt k j y kvs ?_;rw [Cz]at a
   cases q:Bb kvs k with
   | none=>rfl
   | some x=>rw [q]at a;exact (a rfl).elim
theorem Cf(kvs:List (κ×V))(k:κ)(v:V):(Cq kvs k v).length≤kvs.length+1:=by
 unfold Cq;split
 · rw [Fa];omega
 · rw [Fm,List.length_cons,List.length_nil];omega
theorem Kc{kvs:List (κ×V)}{k:κ}(v:V)(h:Bb kvs k=none):Cq kvs k v=kvs++[(k,v)]:=by
 unfold Cq;rw [Cz,h];exact if_neg (by decide)
theorem E6.isSome_eq{o:Option V}{u:Option Value}(r:E6 o u):o.isSome=u.isSome:=by
 cases o with
 | none=>cases u with
  | none=>rfl
  | some _=>exact (show False from r).elim
 | some _=>cases u with
  | none=>exact (show False from r).elim
  | some _=>rfl
theorem E6.getD{o:Option V}{u:Option Value}{d:V}{d':Value}(r:E6 o u)(rd:An d d'):An (o.getD d) (u.getD d'):=by
 cases o with
 | none=>cases u with
  | none=>exact rd
  | some _=>exact (show False from r).elim
 | some _=>cases u with
  | none=>exact (show False from r).elim
  | some _=>exact r
theorem KV.val{kvs:List (κ×V)}{vs:List (κ×Value)}(r:KV kvs vs)(k:κ):E6 (Bb kvs k) (valueAt vs k):=by
 unfold KV at r
 induction r with
 | nil=>exact True.intro
 | @cons p q ps qs h t ih=>
  obtain ⟨h1,h2⟩:=h
  by_cases e:p.1=k
  · have e':q.1=k:=h1.symm.trans e
    have b:valueAt (q::qs) k=some q.2:=by simp [valueAt,HS,e']
    rw [Bx e,b];exact h2
  · have e':¬q.1=k:=fun z=>e (h1.trans z)
    have b:valueAt (q::qs) k=valueAt qs k:=by simp [valueAt,HS,e']
    rw [By e,b];exact ih
theorem KV.any{kvs:List (κ×V)}{vs:List (κ×Value)}(r:KV kvs vs)(k:κ):(kvs.any fun kv=>decide (kv.1=k))=vs.any fun kv=>decide (kv.1=k):=by
 unfold KV at r
 induction r with
 | nil=>rfl
 | cons h t ih=>rw [R0,R0,ih,h.1]
theorem KV.repl{kvs:List (κ×V)}{vs:List (κ×Value)}(r:KV kvs vs)(k:κ){y:V}{u:Value}(ry:An y u):
 KV (kvs.map fun kv=>if kv.1=k then (kv.1,y) else kv) (vs.map fun kv=>if kv.1=k then (kv.1,u) else kv):=by
 unfold KV at r ⊢
 induction r with
 | nil=>exact .nil
 | @cons p q ps qs h t ih=>
  rw [List.map_cons,List.map_cons];refine .cons ?_ ih;obtain ⟨h1,h2⟩:=h
  by_cases e:p.1=k
  · rw [if_pos e,if_pos (h1.symm.trans e)];exact ⟨h1,ry⟩
  · rw [if_neg e,if_neg (fun z=>e (h1.trans z))];exact ⟨h1,h2⟩
theorem KV.put{kvs:List (κ×V)}{vs:List (κ×Value)}(r:KV kvs vs)(k:κ){y:V}{u:Value}(ry:An y u):KV (Cq kvs k y) (stored vs k u):=by
 unfold Cq stored;rw [r.any k]
 by_cases e:(vs.any fun kv=>decide (kv.1=k))=true
 · rw [if_pos e,if_pos e];exact r.repl k ry
 · rw [if_neg e,if_neg e];exact Paired.snoc r ⟨rfl,ry⟩
theorem KV.drop{kvs:List (κ×V)}{vs:List (κ×Value)}(r:KV kvs vs)(k:κ):KV (Kb kvs k) (without vs k):=by
 unfold KV at r ⊢;unfold Kb without
 induction r with
 | nil=>exact .nil
 | @cons p q ps qs h t ih=>
  obtain ⟨h1,h2⟩:=h;rw [Rg,Rg]
  by_cases e:p.1=k
  · have a:¬decide (p.1≠k)=true:=by simp [e]
    have b:¬decide (q.1≠k)=true:=by simp [h1.symm.trans e]
    rw [if_neg a,if_neg b];exact ih
  · have e':¬q.1=k:=fun z=>e (h1.trans z)
    have a:decide (p.1≠k)=true:=by simp [e]
    have b:decide (q.1≠k)=true:=by simp [e']
    rw [if_pos a,if_pos b];exact .cons ⟨h1,h2⟩ ih
theorem KV.length{kvs:List (κ×V)}{vs:List (κ×Value)}(r:KV kvs vs):kvs.length=vs.length:=Paired.length r
theorem J09(kvs:List (κ×V))(k:κ):(Kb kvs k).length≤kvs.length:=Rr _ _
end
theorem Me{P:Program}{w:World}{k:Key}{u:Value}(r:An (kV k) u):(B7 P w).is k u=true:=by
 cases k with
 | inl i=>obtain ⟨t,e⟩:=(show ∃t,u=Value.int i t from r);subst e;exact Py P w i t
 | inr x=>obtain ⟨t,e⟩:=(show ∃t,u=Value.str x t from r);subst e;exact Pz P w x t
theorem Nu{P:Program}{w:World}:∀{ks:List Key} {us:List Value},Ao (ks.map kV) us→ItemsAre (B7 P w) ks us
 | [],_,r=>by rw [List.map_nil]at r;cases r;exact .nil
 | k::ks,_,r=>by
  rw [List.map_cons]at r
  cases r with
  | cons h t=>exact .cons (Me h) (Nu t)
abbrev KT(H:Hp):List (List Key×V)→List (List Key×Addr×Value)→Prop:=Paired fun p q=>p.1=q.1∧H q.2.1=some (.tup (p.1.map kV))∧An p.2 q.2.2
theorem KT.val{H:Hp}{kvs:List (List Key×V)}{xs:List (List Key×Addr×Value)}(r:KT H kvs xs)(k:List Key):E6 (Bb kvs k) ((atKey xs k).map (·.2)):=by
 induction r with
 | nil=>exact True.intro
 | @cons p q ps qs h t ih=>
  obtain ⟨h1,_,h2⟩:=h
  by_cases e:p.1=k
  · have e':q.1=k:=h1.symm.trans e
    have b:atKey (q::qs) k=some q.2:=by simp [atKey,HS,e']
    rw [Bx e,b];exact h2
  · have e':¬q.1=k:=fun z=>e (h1.trans z)
    have b:atKey (q::qs) k=atKey qs k:=by simp [atKey,HS,e']
    rw [By e,b];exact ih
theorem KT.repl{H:Hp}{kvs:List (List Key×V)}{xs:List (List Key×Addr×Value)}(r:KT H kvs xs)(k:List Key){y:V}{u:Value}(ry:An y u):
 KT H (kvs.map fun kv=>if kv.1=k then (kv.1,y) else kv) (xs.map (putAt k u)):=by
 induction r with
 | nil=>exact .nil
 | @cons p q ps qs h t ih=>
  rw [List.map_cons,List.map_cons];refine .cons ?_ ih;obtain ⟨h1,h2,h3⟩:=h;unfold putAt
  by_cases e:p.1=k
  · rw [if_pos e,if_pos (h1.symm.trans e)];exact ⟨h1,h2,ry⟩
  · rw [if_neg e,if_neg (fun z=>e (h1.trans z))];exact ⟨h1,h2,h3⟩
theorem KT.put{H:Hp}{kvs:List (List Key×V)}{xs:List (List Key×Addr×Value)}(r:KT H kvs xs)(k:List Key){b:Addr}{y:V}{u:Value}(hb:H b=some (.tup (k.map kV)))(ry:An y u):
 KT H (Cq kvs k y) (storedH xs k b u):=by
 have e:(kvs.any fun kv=>decide (kv.1=k))=(atKey xs k).isSome:=by
  rw [Cz,(r.val k).isSome_eq,RB]
 unfold Cq storedH;rw [e]
 by_cases q:(atKey xs k).isSome=true
 · rw [if_pos q,if_pos q];exact r.repl k ry
 · rw [if_neg q,if_neg q];exact Paired.snoc r ⟨rfl,hb,ry⟩
theorem KT.keeps{H H':Hp}{kvs:List (List Key×V)}{xs:List (List Key×Addr×Value)}(r:KT H kvs xs)(ht:∀b ys,H b=some (.tup ys)→H' b=some (.tup ys)):KT H' kvs xs:=
 Paired.mapP r fun _ _ z=>⟨z.1,ht _ _ z.2.1,z.2.2⟩
section
variable {P:Program} {w:World} {H:Hp} {h:Heap} {a:Addr}
theorem J60{u:HO}(ok:HOk P w H h)(e:Rd H a u):Bd P w H h a u:=e.ok ok
theorem Lj{kvs:List (Key×V)}(ok:HOk P w H h)(e:Rd H a (.dK kvs)):kvs.length≤sizeLine∧(a==sysModules)=false∧∃vs,KV kvs vs∧h.DictOf (B7 P w) a vs:=
 show Bd P w H h a (.dK kvs) from J60 ok e
theorem J61{kvs:List (Key×V)}(ok:HOk P w H h)(e:H a=some (.dK kvs)):kvs.length≤sizeLine∧(a==sysModules)=false∧∃vs,KV kvs vs∧h.DictOf (B7 P w) a vs:=Lj ok (.inl e)
theorem L4{ks:List Key}(ok:HOk P w H h)(e:H a=some (.tup (ks.map kV))):(tupleKind (B7 P w)).is h ks a:=by
 obtain ⟨_,its,r,o,h1,h2,n,h3⟩:=(show Bd P w H h a (.tup (ks.map kV)) from ok a _ e)
 exact ⟨o,its.toArray,n,h1,h2,h3,by simpa using Nu r⟩
theorem Mf{kvs:List (List Key×V)}(ok:HOk P w H h)(e:Rd H a (.dT kvs)):kvs.length≤sizeLine∧(a==sysModules)=false∧
 ∃xs,KT H kvs xs∧h.DictOfH (tupleKind (B7 P w)) a xs:=by
 obtain ⟨z,y,xs,r,o,es,ep,h1,h2,h3,h4,h5⟩:=(show Bd P w H h a (.dT kvs) from J60 ok e)
 refine ⟨z,y,xs,r,o,es,ep,h1,h2,h3,h4,fun x hx=>?_,h5⟩
 have all:∀{l:List (List Key×V)} {m:List (List Key×Addr×Value)},KT H l m→∀x∈m,(tupleKind (B7 P w)).is h x.1 x.2.1:=by
  intro l m q
  induction q with
  | nil=>intro x hx;exact nomatch hx
  | @cons p q ps qs hq t ih=>
   intro x hx;rcases Fv.mp hx with e | hx
   · subst e
     exact L4 ok (by rw [← hq.1];exact hq.2.1)
   · exact ih x hx
 exact all r x hx
theorem J9r{kvs:List (List Key×V)}(ok:HOk P w H h)(e:H a=some (.dT kvs)):kvs.length≤sizeLine∧(a==sysModules)=false∧
 ∃xs,KT H kvs xs∧h.DictOfH (tupleKind (B7 P w)) a xs:=Mf ok (.inl e)
end
def D0(H:Hp)(a:Addr)(y:V)(r:Option V):Prop:=
 (∃kvs k,Rd H a (.dK kvs)∧y=kV k∧r=Bb kvs k)∨∃kvs k b,Rd H a (.dT kvs)∧y= .ref b∧H b=some (.tup (k.map kV))∧r=Bb kvs k
def Mg(H:Hp)(a:Addr)(y v:V)(H':Hp):Prop:=
 (∃kvs k,H a=some (.dK kvs)∧y=kV k∧kvs.length < sizeLine∧H'=upd H a (.dK (Cq kvs k v)))∨
 ∃kvs k b,H a=some (.dT kvs)∧y= .ref b∧H b=some (.tup (k.map kV))∧kvs.length < sizeLine∧H'=upd H a (.dT (Cq kvs k v))
theorem D0.k{H:Hp}{a:Addr}{kvs:List (Key×V)}{k:Key}(e:H a=some (.dK kvs)):D0 H a (kV k) (Bb kvs k):= .inl ⟨kvs,k,.inl e,rfl,rfl⟩
theorem Mg.k{H:Hp}{a:Addr}{kvs:List (Key×V)}{k:Key}{v:V}(e:H a=some (.dK kvs))(hl:kvs.length < sizeLine):Mg H a (kV k) v (upd H a (.dK (Cq kvs k v))):= .inl ⟨kvs,k,e,rfl,hl,rfl⟩
section
variable {X:Cx} {pins:List (Addr×Obj)} {σ:St} {H:Hp} {s:Shared} {a:Addr} {y v:V} {u r:Value} {o:Option V} {A:Around} {E:Value→Shared→Prop}
theorem Inv.big(I:Inv X pins σ H s):sysModules < s.heap.objs.size:=by
 have h:mainGlobals < s.heap.objs.size:=(I.mod.glob.keeps I.bk).lt;exact RC (by decide) h
theorem Xu{Q:Value→Shared→Prop}(hu:A.units+1 < cLine)(I:Inv X pins σ H s)(g:D0 H a y (some v))(ry:An y u)(h:∀w' s',Inv X pins σ H s'→An v w'→Q w' s'):
 wpAny (model X.prog X.w) A (getItem (.ref a) u) Q E s:=by
 rcases g with ⟨kvs,k,e,ey,l⟩ | ⟨kvs,k,b,e,ey,eb,l⟩
 · subst ey
   obtain ⟨z,hd,vs,rel,dd⟩:=Lj I.hok e;obtain ⟨w',hw,rw'⟩:=E6.some_of (v:=v) (o:=valueAt vs k) (by rw [l];exact rel.val k);exact wpAny_getItem_of (Me ry) dd.mapOf hw (h w' _ (I.tok _) rw')
 · subst ey
   cases (show u=Value.ref b from ry);obtain ⟨z,hd,xs,rel,dd⟩:=Mf I.hok e;obtain ⟨w',hw,rw'⟩:=E6.some_of (v:=v) (o:=(atKey xs k).map (·.2)) (by rw [l];exact rel.val k);obtain ⟨p,hp,hp2⟩:=Option.map_eq_some_iff.mp hw;refine wpAny_getItem_heap (HU hu) (L4 I.hok eb) dd hp ?_;rw [hp2];exact h w' _ (I.tok _) rw'
theorem Jb4{Q:Value→Shared→Prop}(hu:A.units+1 < cLine)(I:Inv X pins σ H s)(g:D0 H a y o)(ry:An y u)(h:∀s',Inv X pins σ H s'→Q (.bool o.isSome) s'):
 wpAny (model X.prog X.w) A (compareOp .In u (.ref a)) Q E s:=by
 rcases g with ⟨kvs,k,e,ey,l⟩ | ⟨kvs,k,b,e,ey,eb,l⟩
 · subst ey
   obtain ⟨z,hd,vs,rel,dd⟩:=Lj I.hok e;refine wpAny_in_of (Me ry) hd dd.mapOf ?_;rw [← (rel.val k).isSome_eq,← l];exact h _ (I.tok _)
 · subst ey
   cases (show u=Value.ref b from ry);obtain ⟨z,hd,xs,rel,dd⟩:=Mf I.hok e;refine wpAny_in_heap (HU hu) (L4 I.hok eb) hd dd ?_;have q:=(rel.val k).isSome_eq;rw [RB]at q;rw [← q,← l];exact h _ (I.tok _)
theorem J49{Q:Value→Shared→Prop}(hu:A.units+1 < cLine)(I:Inv X pins σ H s)(g:D0 H a y o)(ry:An y u)(h:∀s',Inv X pins σ H s'→Q (.bool (!o.isSome)) s'):
 wpAny (model X.prog X.w) A (compareOp .NotIn u (.ref a)) Q E s:=by
 rcases g with ⟨kvs,k,e,ey,l⟩ | ⟨kvs,k,b,e,ey,eb,l⟩
 · subst ey
   obtain ⟨z,hd,vs,rel,dd⟩:=Lj I.hok e;refine wpAny_notIn_of (Me ry) hd dd.mapOf ?_;rw [← (rel.val k).isSome_eq,← l];exact h _ (I.tok _)
 · subst ey
   cases (show u=Value.ref b from ry);obtain ⟨z,hd,xs,rel,dd⟩:=Mf I.hok e;refine wpAny_notIn_heap (HU hu) (L4 I.hok eb) hd dd ?_;have q:=(rel.val k).isSome_eq;rw [RB]at q;rw [← q,← l];exact h _ (I.tok _)
theorem P0{h':Heap}{t':Nat}{ob:HO}(I:Inv X pins σ H s)(mu:Mut (H a))(hs:Heap.SameBut a s.heap h')(he:∃q,h'.get? a=some q)(new:Bd X.prog X.w (upd H a ob) h' a ob):
 Inv X pins σ (upd H a ob) {s with heap:=h',toks:=t'}:=
 I.write (x:=a) (e:=a) mu (.inl rfl) (fun b q hb z=>(hs.2 b hb).trans z) he new
theorem J0a{P:Program}{w:World}{H':Hp}{h':Heap}{kvs:List (Key×V)}{vs:List (Key×Value)}(z:kvs.length≤sizeLine)(hd:(a==sysModules)=false)(rel:KV kvs vs)(dd:h'.DictOf (B7 P w) a vs):
 Bd P w H' h' a (.dK kvs):=⟨z,hd,vs,rel,dd⟩
theorem Xv{H':Hp}{Q:Unit→Shared→Prop}(hu:A.units+1 < cLine)(I:Inv X pins σ H s)(g:Mg H a y v H')(ry:An y u)(rv:An v r)(h:∀s',Inv X pins σ H' s'→Q () s'):
 wpAny (model X.prog X.w) A (setItem (.ref a) u r) Q E s:=by
 rcases g with ⟨kvs,k,e,ey,l,eH⟩ | ⟨kvs,k,b,e,ey,eb,l,eH⟩
 · subst ey eH
   obtain ⟨z,hd,vs,rel,dd⟩:=J61 I.hok e
   have hz:vs.length≤sizeLine:=by rw [← rel.length];exact z
   have hl:(Cq kvs k v).length≤sizeLine:=by have:=Cf kvs k v;omega
   refine wpAny_setItem_pairs (hsz:=hz) (Me ry) dd fun h' dd' hs=>h _ ?_;have he:∃q,h'.get? a=some q:=let ⟨q,_,_,hq,_⟩:=dd';⟨q,hq⟩;exact P0 I (by rw [e];exact True.intro) hs he (J0a hl hd (rel.put k rv) dd')
 · subst ey eH
   cases (show u=Value.ref b from ry);obtain ⟨z,hd,xs,rel,dd⟩:=J9r I.hok e
   have hz:xs.length≤sizeLine:=by rw [← Paired.length rel];exact z
   have hl:(Cq kvs k v).length≤sizeLine:=by have:=Cf kvs k v;omega
   refine wpAny_setItem_heap (hsz:=hz) (HU hu) (L4 I.hok eb) dd fun h' dd' hs=>h _ ?_;obtain ⟨q,es,ep,hq,h2,h3,h4,_,h5⟩:=dd';refine P0 I (by rw [e];exact True.intro) hs ⟨q,hq⟩ ⟨hl,hd,_,(rel.put k eb rv).keeps fun c ys ec=>?_,q,es,ep,hq,h2,h3,h4,h5⟩;rw [A3 (Bt ec e (fun z=>nomatch z))];exact ec
end
section
variable {X:Cx} {pins:List (Addr×Obj)} {σ:St} {H:Hp} {s:Shared} {a:Addr} {kvs:List (Key×V)} {k:Key} {u:Value} {A:Around} {E:Value→Shared→Prop}
theorem J9s{v:V}{more:List Value}{Q:Value→Shared→Prop}(I:Inv X pins σ H s)(e:H a=some (.dK kvs))(ry:An (kV k) u)(l:Bb kvs k=some v)(hm:more=[]∨∃x,more=[x])
 (h:∀w' s',Inv X pins σ (upd H a (.dK (Kb kvs k))) s'→An v w'→Q w' s'):wpAny (model X.prog X.w) A (call (.builtin "dict.pop") (.ref a::u::more)) Q E s:=by
 obtain ⟨z,hd,vs,rel,dd⟩:=J61 I.hok e;obtain ⟨w',hw,rw'⟩:=E6.some_of (v:=v) (o:=valueAt vs k) (by rw [← l];exact rel.val k)
 have hp:(keyPart u).isSome=true:=by
  cases k with
  | inl i=>obtain ⟨t,q⟩:=(show ∃t,u=Value.int i t from ry);subst q;rfl
  | inr x=>obtain ⟨t,q⟩:=(show ∃t,u=Value.str x t from ry);subst q;rfl
 have ha:argsOk "dict.pop" ⟨.ref a::u::more,[]⟩:=by
  rcases hm with q | ⟨x,q⟩
  · subst q;exact PySem.F.args_dict_pop_2 _ _
  · subst q;exact PySem.F.args_dict_pop_3 _ _ _
 refine RA PySem.F.slot_dict_pop dd.typeIs PySem.F.entry_dict_pop ha (meets_dict_pop_there (B7 X.prog X.w) a (Me ry) more hm hp)
  ⟨vs,w',dd,by rw [← rel.length];exact z,hw,fun h' dd' hs=>h w' _ ?_ rw'⟩
 have he:∃q,h'.get? a=some q:=let ⟨q,_,_,hq,_⟩:=dd';⟨q,hq⟩;exact P0 I (by rw [e];exact True.intro) hs he (J0a (FG (J09 kvs k) z) hd (rel.drop k) dd')
theorem J9t{Q:Value→Shared→Prop}(I:Inv X pins σ H s)(e:Rd H a (.dK kvs))(h:∀t s',Inv X pins σ H s'→Q (.int kvs.length t) s'):wpAny (model X.prog X.w) A (call (.builtin "len") [.ref a]) Q E s:=by
 obtain ⟨z,hd,vs,rel,dd⟩:=Lj I.hok e;refine call_len_dict hd dd (by rw [← rel.length];rw [sizeLine_eq]at z;omega) ?_;rw [← rel.length];exact h _ _ (I.tok _)
end
def J7f(i:Expr):Prop:=∀ov iv,subscripted i false ov iv=operate [ov,iv] (getItem ov iv)
theorem Uu{prog:Program}{w:World}{A:Around}{E:Value→Shared→Prop}{s:Shared}{env:Env}{value slice:Expr}{pos:Pos}{T id:String}{Q:Value→Shared→Prop}
 (hl:typeLookup (.type T) "__getitem__"=pure (some (.builtin id))) (hs:J7f slice)
 (h:wpAny (model prog w) A (eval value env) (fun o s₁=>wpAny (model prog w) A (eval slice env) (fun i s₂=>s₂.TypeIs o T∧wpAny (model prog w) A (getItem o i) Q E s₂) E s₁) E s):
 wpAny (model prog w) A (eval (.Subscript value slice pos) env) Q E s:=by
 refine Subscript_ (FT h (fun o s₁ h₁=>FT h₁ (fun i s₂ h₂=>?_) fun _ _ x=>x) fun _ _ x=>x);obtain ⟨hT,h₂⟩:=h₂;unfold subscriptTail;refine Fq ?_;rw [getitemInPython_of_ne hT.not_modules];refine Fq (wpAny_specialOf hT hl ?_)
 have fin:wpAny (model prog w) A (subscripted slice false o i) (fun r s₃=>wpAny (model prog w) A (letTemporaryGo value o r >>=fun _=>pure r) Q E s₃) E s₂:=by
  rw [hs o i];exact wpAny_operating (FT h₂ (fun r s₃ h₃=>Fq (wpAny_letTemporaryGo (FK h₃))) fun _ _ x=>x)
 first
  | exact FK (Fq fin)
  | exact Fq (FK (Fq fin))
  | exact Fq fin
theorem Qb{X:Cx}{pins:List (Addr×Obj)}{σ:St}{H:Hp}{s:Shared}{a:Addr}{y:V}{o:Option V}(I:Inv X pins σ H s)(g:D0 H a y o):s.TypeIs (.ref a) "dict":=by
 rcases g with ⟨kvs,k,e,_,_⟩ | ⟨kvs,k,b,e,_,_,_⟩
 · obtain ⟨_,_,vs,_,dd⟩:=Lj I.hok e
   exact dd.typeIs
 · obtain ⟨_,_,xs,_,dd⟩:=Mf I.hok e
   exact dd.typeIs
def J62(td ty:TE):TE:=fun σ H Q=>td σ H fun x H1=>ty σ H1 fun y H2=>∃a v,x= .ref a∧D0 H2 a y (some v)∧Q v H2
def J9u(ty td:TE):TE:=fun σ H Q=>ty σ H fun y H1=>td σ H1 fun x H2=>∃a o,x= .ref a∧D0 H2 a y o∧Q (.bl o.isSome) H2
def Uv(ty td:TE):TE:=fun σ H Q=>ty σ H fun y H1=>td σ H1 fun x H2=>∃a o,x= .ref a∧D0 H2 a y o∧Q (.bl (!o.isSome)) H2
def J63(td ty tv:TE):TS:=fun D σ H=>tv σ H fun v H1=>td σ H1 fun x H2=>ty σ H2 fun y H3=>∃a H4,x= .ref a∧Mg H3 a y v H4∧D.nx σ H4
section
variable {X:Cx} {o i e value:Expr} {pos pos' tpos:Pos} {td ty tv:TE}
theorem P1(hu:X.A.units+1 < cLine)(ho:PE X o td)(hi:PE X i ty)(hs:J7f i):PE X (.Subscript o i pos) (J62 td ty):=by
 intro pins s σ H Q I h;refine Uu PySem.F.slot_dict_getitem.lookup hs (thn (ho pins s σ H _ I h) fun u s1 ⟨x,H1,I1,rx,q1⟩=>thn (hi pins s1 σ H1 _ I1 q1) fun iv s2 hq_=>?_);obtain ⟨y,H2,I2,ry,a,v,ex,g,q2⟩:=hq_;subst ex;obtain rfl:u=Value.ref a:=rx;exact ⟨Qb I2 g,Xu hu I2 g ry fun w' s3 I3 rw'=>⟨v,H2,I3,rw',q2⟩⟩
theorem Tu(hu:X.A.units+1 < cLine)(hi:PE X i ty)(ho:PE X o td):PC X .In i o (J9u ty td):=by
 intro pins s σ H Q I h;refine thn (hi pins s σ H _ I h) fun iv s1 ⟨y,H1,I1,ry,q1⟩=>thn (ho pins s1 σ H1 _ I1 q1) fun u s2 hq_=>?_;obtain ⟨x,H2,I2,rx,a,ov,ex,g,q2⟩:=hq_;subst ex;obtain rfl:u=Value.ref a:=rx
 exact Jb4 hu I2 g ry fun s3 I3=>⟨.bl ov.isSome,H2,I3,rfl,q2⟩
theorem Xw(hu:X.A.units+1 < cLine)(hi:PE X i ty)(ho:PE X o td):PC X .NotIn i o (Uv ty td):=by
 intro pins s σ H Q I h;refine thn (hi pins s σ H _ I h) fun iv s1 ⟨y,H1,I1,ry,q1⟩=>thn (ho pins s1 σ H1 _ I1 q1) fun u s2 hq_=>?_;obtain ⟨x,H2,I2,rx,a,ov,ex,g,q2⟩:=hq_;subst ex;obtain rfl:u=Value.ref a:=rx
 exact J49 hu I2 g ry fun s3 I3=>⟨.bl (!ov.isSome),H2,I3,rfl,q2⟩
theorem Gs(hu:X.A.units+1 < cLine)(ho:PE X o td)(hi:PE X i ty)(hv:PE X value tv)(hs:swapsWith value (some (.Subscript o i pos')) pos.line X.env=pure false):
 PS X (.Assign [.Subscript o i pos'] value pos) (J63 td ty tv):=by
 intro pins s σ H D I h;refine wpAny_Assign_Subscript (thn (hv pins s σ H _ I h) fun r s1 ⟨v,H1,I1,rv,q1⟩=>thn (ho pins s1 σ H1 _ I1 q1) fun u s2 ⟨x,H2,I2,rx,q2⟩=>thn (hi pins s2 σ H2 _ I2 q2) fun iv s3 hq_=>?_) hs;obtain ⟨y,H3,I3,ry,a,H4,ex,g,q3⟩:=hq_;subst ex;obtain rfl:u=Value.ref a:=rx
 exact Xv hu I3 g ry rv fun s4 I4=>⟨σ,H4,I4,q3⟩
end
theorem J0b{P:Program}{w:World}{H:Hp}(h:Heap)(hb:sysModules < h.objs.size):Bd P w H (h.push {cls:= .type "dict",data:= .dict #[]}) h.objs.size (.dK []):=
 ⟨FB _,Hh.mpr (Ne.symm (Fo hb)),[],.nil,Heap.DictOf.new h⟩
def J0c:TE:=fun _ H Q=>∀p,H p=none→Q (.ref p) (upd H p (.dK []))
section
variable {X:Cx} {pos:Pos}
theorem E7:PE X (.Dict [] [] pos) J0c:=fun pins s σ H Q I h=>
 wpAny_Dict_empty ⟨.ref s.heap.objs.size,_,I.laid (a:=s.heap.objs.size) (o:= .dK []) (t':=s.toks) (fun _ _ q=>Fd _ q) (Fg _) (J0b s.heap I.big),rfl,h _ (I.hok.fresh (Fg _))⟩
end
def J0d:List (TE×TE)→St→Hp→(List (V×V)→Hp→Prop)→Prop
 | [],_,H,Q=>Q [] H
 | (tk,tv)::r,σ,H,Q=>tk σ H fun x H1=>tv σ H1 fun y H2=>J0d r σ H2 fun ps H3=>Q ((x,y)::ps) H3
def J0e(kvs more:List (Key×V)):List (Key×V):=more.foldl (fun acc kv=>Cq acc kv.1 kv.2) kvs
def J9v(trs:List (TE×TE)):TE:=fun σ H Q=>∀p,H p=none→J0d trs σ (upd H p (.dK [])) fun ps H2=>H2 p=some (.dK [])∧∃kvs:List (Key×V),ps=kvs.map (fun kv=>(kV kv.1,kv.2))∧kvs.length≤15∧Q (.ref p) (upd H2 p (.dK (J0e [] kvs)))
structure M1(X:Cx)(o:Expr)(m:Str)(apos:Pos)(e:Expr)(cpos:Pos):Prop where
 base:attributeBase o m X.env (eval o X.env)=eval o X.env
 few:((backTo cpos (starEach [e] X.env)).all (fun x=>!x.1) && (backToKw cpos (keywordEach [] X.env)).all (fun x=>x.1.isSome)
  && decide (([e]:List Expr).length+([]:List Keyword).length+(if ([]:List Keyword).isEmpty then 0 else 1) < 30))=true
 line:(apos.endLine==cpos.line)=true
 trees:backTo cpos (starEach [e] X.env)=[(false,eval e X.env)]
structure M2(X:Cx)(o:Expr)(m:Str)(apos:Pos)(e f:Expr)(cpos:Pos):Prop where
 base:attributeBase o m X.env (eval o X.env)=eval o X.env
 few:((backTo cpos (starEach [e,f] X.env)).all (fun x=>!x.1) && (backToKw cpos (keywordEach [] X.env)).all (fun x=>x.1.isSome)
  && decide (([e,f]:List Expr).length+([]:List Keyword).length+(if ([]:List Keyword).isEmpty then 0 else 1) < 30))=true
 line:(apos.endLine==cpos.line)=true
 trees:backTo cpos (starEach [e,f] X.env)=[(false,eval e X.env),(false,eval f X.env)]
def IsD(H:Hp)(a:Addr):Prop:=(∃kvs,Rd H a (.dK kvs))∨∃kvs,Rd H a (.dT kvs)
theorem J0f{X:Cx}{pins:List (Addr×Obj)}{σ:St}{H:Hp}{s:Shared}{a:Addr}(I:Inv X pins σ H s)(d:IsD H a):
 s.TypeIs (.ref a) "dict"∧(∀b,Value.ref a= .ref b→∃ob,s.heap.get? b=some ob∧ob.dict=none)∧(a==sysModules)=false:=by
 rcases d with ⟨kvs,e⟩ | ⟨kvs,e⟩
 · obtain ⟨_,hd,vs,_,dd⟩:=Lj I.hok e
   refine ⟨dd.typeIs,fun b q=>?_,hd⟩;cases q;obtain ⟨ob,_,_,h1,h2,_⟩:=dd;exact ⟨ob,h1,h2.2.1⟩
 · obtain ⟨_,hd,xs,_,dd⟩:=Mf I.hok e
   refine ⟨dd.typeIs,fun b q=>?_,hd⟩;cases q;obtain ⟨ob,_,_,h1,h2,_⟩:=dd;exact ⟨ob,h1,h2.2.1⟩
section
variable {X:Cx} {pins:List (Addr×Obj)} {σ:St} {H:Hp} {s:Shared} {a:Addr} {y d:V} {u r:Value} {o:Option V} {A:Around} {E:Value→Shared→Prop}
theorem J7g{Q:Value→Shared→Prop}(hu:A.units+1 < cLine)(I:Inv X pins σ H s)(g:D0 H a y o)(ry:An y u)(rd:An d r)(h:∀w' s',Inv X pins σ H s'→An (o.getD d) w'→Q w' s'):
 wpAny (model X.prog X.w) A (call (.builtin "dict.get") [.ref a,u,r]) Q E s:=by
 rcases g with ⟨kvs,k,e,ey,l⟩ | ⟨kvs,k,b,e,ey,eb,l⟩
 · subst ey
   obtain ⟨z,hd,vs,rel,dd⟩:=Lj I.hok e;refine RA Rq dd.typeIs PySem.F.entry_dict_get (PySem.F.args_dict_get_3 _ _ _) (meets_dict_get_default (B7 X.prog X.w) a (Me ry) hd r) ⟨_,dd.mapOf,h _ _ (I.tok _) ?_⟩;rw [l];exact (rel.val k).getD rd
 · subst ey
   cases (show u=Value.ref b from ry);obtain ⟨z,hd,xs,rel,dd⟩:=Mf I.hok e;refine RA Rq dd.typeIs PySem.F.entry_dict_get (PySem.F.args_dict_get_3 _ _ _) (meetsH_dict_get_default (tupleKind (B7 X.prog X.w)) a b hd r) ⟨HU hu,k,xs,L4 I.hok eb,dd,h _ _ (I.tok _) ?_⟩;rw [l];exact (rel.val k).getD rd
end
def J7h(td ty:TE):TE:=fun σ H Q=>td σ H fun x H1=>∃a,x= .ref a∧IsD H1 a∧ty σ H1 fun y H2=>∃o,D0 H2 a y o∧Q (o.getD .non) H2
def J0g(td ty tx:TE):TE:=fun σ H Q=>td σ H fun x H1=>∃a,x= .ref a∧IsD H1 a∧ty σ H1 fun y H2=>tx σ H2 fun z H3=>∃o,D0 H3 a y o∧Q (o.getD z) H3
def J0h(td ty:TE):TE:=fun σ H Q=>td σ H fun x H1=>∃a,x= .ref a∧IsD H1 a∧ty σ H1 fun y H2=>∃kvs k v,H2 a=some (.dK kvs)∧y=kV k∧Bb kvs k=some v∧Q v (upd H2 a (.dK (Kb kvs k)))
section
variable {X:Cx} {o e f:Expr} {apos cpos:Pos} {td ty tx:TE}
theorem Qc(hu:X.A.units+1 < cLine)(ho:PE X o td)(he:PE X e ty)(hf:PE X f tx)(m:M2 X o "get" apos e f cpos):PE X (.Call (.Attribute o "get" apos) [e,f] [] cpos) (J0g td ty tx):=by
 intro pins s σ H Q I h;refine wpAny_Call_method m.base m.few m.line Re Rq PySem.F.type_dict_get (thn (ho pins s σ H _ I h) fun u s1 hq_=>?_);obtain ⟨x,H1,I1,rx,a,ex,d,q1⟩:=hq_;subst ex;obtain rfl:u=Value.ref a:=rx;obtain ⟨t1,t2,_⟩:=J0f I1 d;refine ⟨t1,t2,?_⟩;rw [m.trees]
 refine Calls.callWith_builtin rfl (Calls.evalArgs_plain (Calls.spliced_cons (thn (he pins s1 σ H1 _ I1 q1) fun iv s2 ⟨y,H2,I2,ry,q2⟩=>
  Calls.spliced_cons (thn (hf pins s2 σ H2 _ I2 q2) fun fv s3 ⟨z,H3,I3,rz,ov,g,q3⟩=>Calls.spliced_nil ?_))))
 exact J7g hu I3 g ry rz fun w' s4 I4 rw'=>⟨_,H3,I4,rw',q3⟩
theorem J0i(ho:PE X o td)(he:PE X e ty)(m:M1 X o "pop" apos e cpos):PE X (.Call (.Attribute o "pop" apos) [e] [] cpos) (J0h td ty):=by
 intro pins s σ H Q I h;refine wpAny_Call_method m.base m.few m.line Re PySem.F.slot_dict_pop PySem.F.type_dict_pop (thn (ho pins s σ H _ I h) fun u s1 hq_=>?_);obtain ⟨x,H1,I1,rx,a,ex,d,q1⟩:=hq_;subst ex;obtain rfl:u=Value.ref a:=rx;obtain ⟨t1,t2,_⟩:=J0f I1 d;refine ⟨t1,t2,?_⟩;rw [m.trees];refine Calls.callWith_builtin rfl (Calls.evalArgs_plain (Calls.spliced_cons (thn (he pins s1 σ H1 _ I1 q1) fun iv s2 ⟨y,H2,I2,ry,kvs,k,v,ea,ey,l,q2⟩=>Calls.spliced_nil ?_)));subst ey
 exact J9s I2 ea ry l (.inl rfl) fun w' s3 I3 rw'=>⟨v,_,I3,rw',q2⟩
end
end L2
namespace L2
section
variable {X:Cx}
theorem Xx:D7 X (.builtin "len") (fun xs H Q=>∃a kvs,xs=[V.ref a]∧H a=some (.dK kvs)∧Q (.int kvs.length) H):=by
 intro pins s σ H xs us Q I r h;obtain ⟨a,kvs,rfl,ha,q⟩:=h;obtain ⟨u,rfl,ru⟩:=Do r;cases ru
 exact J9t I (.inl ha) fun t s' I'=>⟨.int kvs.length,H,I',⟨t,rfl⟩,q⟩
end
section
variable {κ:Type} [DecidableEq κ]
theorem J0j{kvs:List (κ×V)}{k:κ}(h:Bb kvs k=none):¬k∈kvs.map (·.1):=by
 intro m;obtain ⟨p,hp,e⟩:=Fz.mp m;have q:(kvs.any fun kv=>decide (kv.1=k))=true:=List.any_eq_true.mpr ⟨p,hp,FA e⟩;rw [Cz,h]at q;exact absurd q (by simp)
theorem J4a{kvs:List (κ×V)}{k:κ}{v:V}(h:Bb kvs k=some v):k∈kvs.map (·.1):=by
 have q:(kvs.any fun kv=>decide (kv.1=k))=true:=by
  rw [Cz,h]
  all_goals rfl
 obtain ⟨p,hp,e⟩:=List.any_eq_true.mp q;exact Fz.mpr ⟨p,hp,of_decide_eq_true e⟩
end
end L2
namespace L2
structure Def(P:Program)(w:World)(K:PySem.W.Frag)(mg:Str→Option Value)(base:Heap)(CX:CXT)(k:Nat)(x:Str)(ps:List Str)(sp:Sp):Prop where
 ex:∃(f:Addr) (fd:FuncData),Al P w K mg base CX k f fd ps sp∧mg x=some (.ref f)∧PySem.W.keepIn K (.ref f)=true∧C0 K fd ps []
def J0k(sp:Sp)(E:XK)(t:TA):TE:=fun σ H Q=>t σ H fun vs H1=>sp vs H1 Q E
section
variable {X:Cx} {CX:CXT} {k j:Nat} {ps:List Str} {sp:Sp} {E:XK} {x:Str} {p pos:Pos} {e:Expr} {es:List Expr} {t:TA}
theorem Ad(D:Def X.prog X.w X.K X.mg X.base CX j x ps sp)(hr:Bh k X.A)(hg:Gl X x)(hx:Iy CX X E)(ha:PA X (e::es) t)(hj:j≤k:=by decide)
 (hdb:(x==("__debug__":Str))=false:=by decide) (he:starEach (e::es) X.env=(false,eval e X.env)::starEach es X.env:=by rfl) (hpl:(backTo pos (starEach es X.env)).any (·.1)=false:=by rfl):
 PE X (.Call (.Name x p) (e::es) [] pos) (J0k sp E t):=by
 obtain ⟨f,fd,F,hm,hk,hb⟩:=D.ex;intro pins s σ H Q I h;refine J44 (F.mono hj) hr hg hm hk hb .nil hx ha hdb he hpl pins s σ H Q I ?_;show t σ H fun vs H1=>sp (vs++[]) H1 Q E
 have z:(fun (vs:List V) (H1:Hp)=>sp (vs++[]) H1 Q E)=fun vs H1=>sp vs H1 Q E:=by funext vs H1;rw [FJ]
 rw [z];exact h
end
def Jb5(i j:Int):Prop:=i.natAbs < 10 ^ 100∧j.natAbs < 10 ^ 100
theorem Uw:(10:Nat) ^ 100≤2 ^ 1000:=by decide+kernel
theorem Ux{i:Int}(h:i.natAbs < 10 ^ 100):Builtin.Int.intBits i≤2 ^ 20:=by
 have h1:Builtin.Int.intBits i≤1000:=by
  unfold Builtin.Int.intBits;split
  · omega
  · rename_i hne
    have:=(Nat.log2_lt (n:=i.natAbs) (k:=1000) (by simpa using hne)).mpr (Fj h Uw);omega
 exact FG h1 (by decide)
section
variable {X:Cx}
theorem Uy:OpR X (binaryOp .Mult) (rI Jb5 fun i j=> .int (i * j)):=opI fun _ _ _ _ _ _ _ hc q=>mul_int q (.of_bits (Ux hc.1) (Ux hc.2))
theorem Qd:OpR X (binaryOp .FloorDiv) (rI (fun _ j=>j≠0∧j.natAbs < 10 ^ 100) fun i j=> .int (i.fdiv j)):=opI fun i j _ _ _ _ _ hc q=>by
 refine floordiv_int hc.1 q (.inl (PyProof.noPylong_of_log2 ?_))
 have h0:j.natAbs≠0:=by have:=hc.1;omega
 exact RC ((Nat.log2_lt h0).mpr (Fj hc.2 Uw)) (by decide)
end
def Isi(K:PySem.W.Frag)(H:Hp)(x:V)(n:String)(b:Bool):Prop:=∃t,L1 K H x t∧PySem.W.kitOne K t (.type n)=some b
section
variable {X:Cx}
theorem Dr:D7 X (.builtin "isinstance") (fun xs H Q=>∃x n b,xs=[x,.ty n]∧Isi X.K H x n b∧Q (.bl b) H):=by
 intro pins s σ H xs us Q I r h;obtain ⟨x,n,b,rfl,⟨t,ty,e⟩,q⟩:=h;obtain ⟨u,c,rfl,r1,r2⟩:=J5w r;cases r2
 exact Xp I r1 ty e fun tk=>⟨.bl b,H,I.tok _,rfl,q⟩
end
section
variable {K:PySem.W.Frag} {H:Hp}
theorem J0l{i:Int}:Isi K H (.int i) "int" true:=⟨_,.int i,rfl⟩
theorem J0m{i:Int}:Isi K H (.int i) "bool" false:=⟨_,.int i,by with_unfolding_all rfl⟩
theorem J7i{i:Int}:Isi K H (.int i) "str" false:=⟨_,.int i,by with_unfolding_all rfl⟩
theorem J0n{i:Bool}:Isi K H (.bl i) "bool" true:=⟨_,.bl i,rfl⟩
theorem J0o{i:Bool}:Isi K H (.bl i) "int" true:=⟨_,.bl i,by with_unfolding_all rfl⟩
theorem J7j{i:Bool}:Isi K H (.bl i) "str" false:=⟨_,.bl i,by with_unfolding_all rfl⟩
theorem J7k{i:Str}:Isi K H (.str i) "str" true:=⟨_,.str i,rfl⟩
theorem J0p{i:Str}:Isi K H (.str i) "int" false:=⟨_,.str i,by with_unfolding_all rfl⟩
theorem J7l{i:Str}:Isi K H (.str i) "bool" false:=⟨_,.str i,by with_unfolding_all rfl⟩
theorem J0q:Isi K H .non "int" false:=⟨_,.non,by with_unfolding_all rfl⟩
theorem J7m:Isi K H .non "str" false:=⟨_,.non,by with_unfolding_all rfl⟩
theorem J0r{a:Addr}{xs:List V}(e:H a=some (.lst xs)):Isi K H (.ref a) "list" true:=⟨_,.lst e,rfl⟩
theorem J0s{a:Addr}{xs:List V}(e:H a=some (.lst xs)):Isi K H (.ref a) "str" false:=⟨_,.lst e,by with_unfolding_all rfl⟩
theorem J0t{a:Addr}{xs:List V}(e:H a=some (.lst xs)):Isi K H (.ref a) "int" false:=⟨_,.lst e,by with_unfolding_all rfl⟩
theorem J0u{a:Addr}{xs:List V}(e:H a=some (.lst xs)):Isi K H (.ref a) "tuple" false:=⟨_,.lst e,by with_unfolding_all rfl⟩
theorem J0v{a:Addr}{xs:List V}(e:H a=some (.tup xs)):Isi K H (.ref a) "tuple" true:=⟨_,.tup e,rfl⟩
theorem J0w{a:Addr}{xs:List V}(e:H a=some (.tup xs)):Isi K H (.ref a) "str" false:=⟨_,.tup e,by with_unfolding_all rfl⟩
theorem J0x{a:Addr}{xs:List V}(e:H a=some (.tup xs)):Isi K H (.ref a) "int" false:=⟨_,.tup e,by with_unfolding_all rfl⟩
theorem J0y{a:Addr}{xs:List V}(e:H a=some (.tup xs)):Isi K H (.ref a) "list" false:=⟨_,.tup e,by with_unfolding_all rfl⟩
theorem J7n{x:V}{n:String}{b:Bool}{R:Bool→Prop}(h:Isi K H x n b)(q:R b):∃b,Isi K H x n b∧R b:=⟨b,h,q⟩
theorem J4b{p:Addr}{xs:List V}{R:List V→Prop}(h:SqL K H p xs)(q:R xs):∃ys,(SqL K H p ys∨SqT K H p ys)∧R ys:=⟨xs,.inl h,q⟩
theorem J4c{p:Addr}{xs:List V}{R:List V→Prop}(h:SqT K H p xs)(q:R xs):∃ys,(SqL K H p ys∨SqT K H p ys)∧R ys:=⟨xs,.inr h,q⟩
theorem D4{p:Addr}{xs:List V}{i:Int}{v:V}{Q:VK}(h:SqT K H p xs)(e:atI xs i=some v)(q:Q v H):J9m K (.ref p) (.int i) H Q:=⟨p,xs,i,v,rfl,rfl,h,e,q⟩
theorem Cr{p:Addr}{xs:List V}{i:Int}{v:V}{Q:VK}(h:SqL K H p xs)(e:atI xs i=some v)(q:Q v H):J9l K (.ref p) (.int i) H Q:=⟨p,xs,i,v,rfl,rfl,h,e,q⟩
end
theorem J4d{c:TT}{tb:TS}{D:G5}{σ:St}{H:Hp}{m0:Nat}(Pv:Nat→St→Hp→Prop)(h0:Pv m0 σ H)
 (hs:∀m σ H,Pv m σ H→c σ H fun b H1=>if b=true then ∃N:St→Hp→Prop,(∀σ' H',N σ' H'→∃m',m' < m∧Pv m' σ' H')∧tb {D with nx:=N,ct:=N,bk:=D.nx} σ H1 else D.nx σ H1):Yp c tb D σ H:=⟨Pv,⟨m0,h0⟩,hs⟩
theorem Mh{α:Type}{xs:List α}{i:Int}{v:α}(h0:0≤i)(h:xs[i.toNat]?=some v):atI xs i=some v:=by
 unfold atI ixN;have hl:i.toNat < xs.length:=(Fi.mp h).1;rw [if_pos h0,if_pos (show i < xs.length by omega)];exact h
theorem J0z{CX:CXT}{P:Program}{w:World}{K:PySem.W.Frag}{mg:Str→Option Value}{base:Heap}{N:List Str}{qual:Str}{scope:Scope}{f:Addr}{cd:Value}{A:Around}{outer:List Env}{s:Shared}{H:Hp}{E:XK}:
 (Q5 CX P w K mg base N qual scope f cd A outer s H E).K=K:=rfl
theorem J7o{ns:List Int}{k:Nat}(h:k < ns.length):(ns.map V.int)[k]?=some (V.int (ns.getD k 0)):=by
 rw [Fe,Fc,Fb h];rfl
theorem A7.tup{K:PySem.W.Frag}{H H':Hp}{a:Addr}{xs:List V}(e:A7 H H')(h:SqT K H a xs):SqT K H' a xs:=by
 rcases h with (h | ⟨o,h⟩) | h
 · exact .inl (.inl (e _ _ h))
 · exact .inl (.inr ⟨o,e _ _ h⟩)
 · exact .inr h
theorem A7.new{H:Hp}{p:Addr}{o:HO}(h:H p=none):A7 H (upd H p o):=fun b u e=>by
 rw [A3 (A8 e h)];exact e
section
variable {σ:St} {H:Hp} {Q:VK} {QT:Bool→Hp→Prop} {QA:List V→Hp→Prop} {D:G5} {K:PySem.W.Frag}
theorem J10{te:TE}{g:TG}:Yo te g D σ H=te σ H fun x H1=>g x σ H1 D.nx:=rfl
theorem J11{i:Nat}:J71 i σ H Q=∃v,σ[i]?=some (some v)∧Q v H:=rfl
theorem J9w{v:V}:tC v σ H Q=Q v H:=rfl
theorem J64{r:R2}{ta tb:TE}:tOp r ta tb σ H Q=ta σ H fun x H1=>tb σ H1 fun y H2=>r x y H2 Q:=rfl
theorem J65{g:Int→Int→V}{x y:V}:rI0 g x y H Q=∃i j,x= .int i∧y= .int j∧Q (g i j) H:=rfl
theorem J9x{C:Int→Int→Prop}{g:Int→Int→V}{x y:V}:rI C g x y H Q=∃i j,x= .int i∧y= .int j∧C i j∧Q (g i j) H:=rfl
theorem J9y{g:Int→V}{x:V}:rU g x H Q=∃i,x= .int i∧Q (g i) H:=rfl
theorem Uz{i:Nat}{v:V}{N:St→Hp→Prop}:Bz i v σ H N=N (σ.set i (some v)) H:=rfl
theorem J12{c:TT}{t u:TS}:J94 c t u D σ H=c σ H fun b H1=>if b=true then t D σ H1 else u D σ H1:=rfl
theorem V0{t:TE}:J5v t σ H QT=t σ H fun x H'=>∃k,x= .bl k∧QT k H':=rfl
theorem J9z{t:TE}:tB t σ H QT=t σ H fun x H1=>∃c,x= .bl c∧QT c H1:=rfl
theorem J13{te:TE}:J92 te D σ H=te σ H D.rt:=rfl
theorem V1:J93 D σ H=D.rt .non H:=rfl
theorem V2:Ym D σ H=D.nx σ H:=rfl
theorem Qe:J75 D σ H=D.bk σ H:=rfl
theorem V3:J91 D σ H=D.ct σ H:=rfl
theorem J66{r:List V→Hp→VK→Prop}{t:TA}:tCB r t σ H Q=t σ H fun vs H1=>r vs H1 Q:=rfl
theorem V4{ta:TE}{tr:TA}:Yz ta tr σ H QA=ta σ H fun x H1=>tr σ H1 fun xs H2=>QA (x::xs) H2:=rfl
theorem J14:J43 σ H QA=QA [] H:=rfl
theorem V5{sp:Sp}{E:XK}{t:TA}:J0k sp E t σ H Q=t σ H fun vs H1=>sp vs H1 Q E:=rfl
theorem J15{t:TT}:J8z t σ H QT=t σ H fun c H1=>QT (!c) H1:=rfl
theorem J67{t u:TT}:tOr t u σ H QT=t σ H fun c H1=>if c=true then QT true H1 else u σ H1 QT:=rfl
theorem J16{t u:TT}:J8y t u σ H QT=t σ H fun c H1=>if c=true then u σ H1 QT else QT false H1:=rfl
theorem V6{ta tb:TE}:J5p ta tb σ H Q=ta σ H fun x H1=>∃c,x= .bl c∧if c=true then tb σ H1 Q else Q (.bl false) H1:=rfl
theorem J17{ta tb:TE}:Jay ta tb σ H Q=ta σ H fun x H1=>∃c,x= .bl c∧if c=true then Q (.bl true) H1 else tb σ H1 Q:=rfl
theorem V7{ta:TE}:J5q ta σ H Q=ta σ H fun x H1=>∃c,x= .bl c∧Q (.bl (!c)) H1:=rfl
theorem J68{t:TT}{ta tb:TE}:tIf t ta tb σ H Q=t σ H fun c H1=>if c=true then ta σ H1 Q else tb σ H1 Q:=rfl
theorem J69{r:V→Hp→VK→Prop}{ta:TE}:tUn r ta σ H Q=ta σ H fun x H1=>r x H1 Q:=rfl
theorem J6a{x y:V}:rEq x y H Q=(scal x y=true∧Q (.bl (decide (x=y))) H):=rfl
theorem J6b{x y:V}:rNe x y H Q=(scal x y=true∧Q (.bl (!decide (x=y))) H):=rfl
theorem J18{i j:Nat}{ta:TA}:Jb0 i j ta D σ H=ta σ H fun vs H1=>∃v w,vs=[v,w]∧D.nx ((σ.set i (some v)).set j (some w)) H1:=rfl
theorem J19{t:TA}:J9i t σ H Q=t σ H fun xs H1=>xs.length≤sizeLine∧∀p,H1 p=none→Q (.ref p) (upd H1 p (.tup xs)):=rfl
theorem J1a{t:TA}:J9j t σ H Q=t σ H fun xs H1=>xs.length≤sizeLine∧∀p,H1 p=none→Q (.ref p) (upd H1 p (.lst xs)):=rfl
theorem Qf:Yn D σ H=False:=rfl
theorem V8{te:TE}:J5r te D σ H=te σ H fun _ H1=>D.nx σ H1:=rfl
theorem Qg{t:TG}{u:TGs}{vs:List V}{N:St→Hp→Prop}:M7 t u vs σ H N=∃v r,vs=v::r∧t v σ H fun σ' H'=>u r σ' H' N:=rfl
theorem V9{vs:List V}{N:St→Hp→Prop}:J3z vs σ H N=(vs=[]∧N σ H):=rfl
theorem Va{to ti:TE}{t:Xe}{v:V}{N:St→Hp→Prop}:J96 to ti t v σ H N=to σ H fun o H1=>ti σ H1 fun i H2=>t o i v H2 fun H3=>N σ H3:=rfl
theorem Qh{r r':R2}{ta tb tc:TE}:Yv r r' ta tb tc σ H Q=ta σ H fun x H1=>tb σ H1 fun y H2=>r x y H2 fun z H3=>∃k,z= .bl k∧
 (if k=true then tc σ H3 fun w' H4=>r' y w' H4 Q else Q (.bl false) H3):=rfl
theorem Vb{ta:TA}{R:It→Hp→Prop}:J5t ta σ H R=ta σ H fun vs H1=>∃j:Int,vs=[.int j]∧-(2 ^ 62)≤j∧j < 2 ^ 62∧R (Itr 0 j.toNat) H1:=rfl
theorem Vc{ta:TA}{R:It→Hp→Prop}:J99 ta σ H R=ta σ H fun vs H1=>∃i j:Int,vs=[.int i,.int j]∧(-(2 ^ 62)≤i∧i < 2 ^ 62∧-(2 ^ 62)≤j∧j < 2 ^ 62)∧R (Itr i (j - i).toNat) H1:=rfl
theorem Qi{tl:TE}{R:It→Hp→Prop}:J5s K tl σ H R=tl σ H fun x H1=>∃a,x= .ref a∧(∃xs,SqL K H1 a xs)∧R (Itl K a) H1:=rfl
theorem Vd{tl:TE}{R:It→Hp→Prop}:Jb1 K tl σ H R=tl σ H fun x H1=>∃a,x= .ref a∧(∃xs,SqT K H1 a xs)∧R (Itt K a) H1:=rfl
def Kd(g:TG)(tb:TS)(D:G5)(σ:St):It→Hp→Prop:=fun J H1=>∃W:Nat→Nat→St→Hp→Prop,(∃m,W 0 m σ H1)∧∀i m σ H,W i m σ H→
 (J.stop i H∧D.nx σ H)∨(J.go i H∧∃N:St→Hp→Prop,(∀σ' H',N σ' H'→∃m',m' < m∧W (i+1) m' σ' H')∧∀x H',J.yld i H x H'→g x σ H' fun σ2 H2=>tb {D with nx:=N,ct:=N,bk:=D.nx} σ2 H2)
theorem Ve{wi:TI}{g:TG}{tb:TS}:J9a wi g tb D σ H=wi σ H (Kd g tb D σ):=rfl
theorem P3{lo:Int}{n:Nat}{g:TG}{tb:TS}(Pv:Nat→St→Hp→Prop)(h0:Pv 0 σ H)
 (hs:∀i σ H,i < n→Pv i σ H→g (.int (lo+i)) σ H fun σ2 H2=>tb {D with nx:=Pv (i+1),ct:=Pv (i+1),bk:=D.nx} σ2 H2) (hd:∀σ H,Pv n σ H→D.nx σ H):Kd g tb D σ (Itr lo n) H:=Xi Pv h0 hs hd
theorem Ke{a:Addr}{xs:List V}{g:TG}{tb:TS}(Pv:Nat→St→Hp→Prop)(h0:Pv 0 σ H)(hl:∀i σ H,i≤xs.length→Pv i σ H→SqL K H a xs)
 (hs:∀i x σ H,xs[i]?=some x→Pv i σ H→g x σ H fun σ2 H2=>tb {D with nx:=Pv (i+1),ct:=Pv (i+1),bk:=D.nx} σ2 H2) (hd:∀σ H,Pv xs.length σ H→D.nx σ H):Kd g tb D σ (Itl K a) H:=Yt Pv h0 hl hs hd
theorem J7p{t u:TS}(h:∀rest:St→Hp→Prop,rest=u D→t {D with nx:=rest} σ H):J90 t u D σ H:=h _ rfl
theorem J4e{rest r:St→Hp→Prop}(h:rest=r)(q:r σ H):rest σ H:=by rw [h];exact q
theorem J4f{a:Addr}{ns:List Int}{k:Int}{R:List Int→Prop}(h:SqL K H a (ns.map V.int))(h0:0≤k)(hl:ns.length≤63)(q:R ns):∃x:List Int,SqL K H a (x.map V.int)∧0≤k∧x.length≤63∧R x:=⟨ns,h,h0,hl,q⟩
theorem P4{i j:Int}(h1:0 < j)(h2:j < 1073741824):J9d i j:=⟨h1,h2⟩
theorem P5{i j:Int}(h1:0≤j)(h2:j≤1000000)(h3:i.natAbs < 2 ^ 64):J9e i j:=⟨h1,h2,h3⟩
theorem J7q{i j:Int}(h1:-(2 ^ 64) < i)(h2:i < 2 ^ 64):Ti i j:= .inl ⟨h1,h2⟩
theorem J1b{i j:Int}(h1:-(2 ^ 64) < j)(h2:j < 2 ^ 64):Ti i j:= .inr ⟨h1,h2⟩
end
end L2
namespace L2
def Ds(CX:CXT)(X:Cx)(EE:St→XK):Prop:=∀(pins:List (Addr×Obj)) (σ:St) (H:Hp) (s:Shared) (e:Value) (s':Shared),Inv X pins σ H s→CX X.stack H s (EE σ) e s'→X.xe e s'
abbrev TH:=Value→Addr→TS
end L2
namespace L2
theorem P6{prog:Program}{w:World}{A:Around}{R:Result→Shared→Prop}{s:Shared}{elt target iter:Expr}{ifs:List Expr}{scope:Scope}{pos:Pos}{it acc:Value}{env:Env}(I:Nat→Shared→Prop)
 (turn:∀n s,I n s→wpAny (model prog w) A (pyNext it) (fun r s₁=>match r with
  | none=>R (.ok .next) s₁
  | some v=>wpAny (model prog w) A (letOwnedTupleGo target it v) (fun _ s₁=>wpAny (model prog w) A (assign target env v) (fun _ s₂=>
   wpAny (model prog w) A (forIn ifs true fun c r=>if r=true then do let ok ← isTrue c env (eval c env);pure (ForInStep.yield ok) else pure (ForInStep.yield r)) (fun ok s₃=>
    if ok=true then wpAny (model prog w) A (eval elt env) (fun x s₄=>
     wpAny (model prog w) A (call (.builtin "list.append") [acc,x]) (fun _ s₅=>∃m,m < n∧I m s₅) (notedBy (model prog w) A env fun e s'=>R (.error e) s') s₄) (notedBy (model prog w) A env fun e s'=>R (.error e) s') s₃
    else ∃m,m < n∧I m s₃) (notedBy (model prog w) A env fun e s'=>R (.error e) s') s₂) (notedBy (model prog w) A env fun e s'=>R (.error e) s') s₁) (notedBy (model prog w) A env fun e s'=>R (.error e) s') s₁) (notedBy (model prog w) A env fun e s'=>R (.error e) s') s)
 (n:Nat) (h:I n s):
 codeAny (model prog w) A (.compLoop (.ListComp elt [⟨target,iter,ifs,0⟩] scope pos) 0 it acc env) R s:=by
 refine codeAny_loop rfl I (fun n s hI=>?_) n h;show wpAny _ A ((compTurn (.ListComp elt [⟨target,iter,ifs,0⟩] scope pos) 0 it acc env).onRaise (fun x=>do noteFrame x env;theTreesLotGoes x)) _ _ s;refine wpAny_noted ?_;rw [compTurn_list];refine Fq (wpAny_standAt (Fq (FT (turn n s hI) (fun r s₁ h₁=>?_) fun _ _ h'=>h')))
 cases r with
 | none=>exact FK h₁
 | some v=>
  refine Fq (FT h₁ (fun _ s₁ h₁=>?_) fun _ _ h'=>h');refine Fq (FT h₁ (fun _ s₂ h₂=>Fq (FT h₂ (fun ok s₃ h₃=>?_) fun _ _ h'=>h')) fun _ _ h'=>h')
  cases ok with
  | false=>exact FK ⟨rfl,h₃⟩
  | true=>
   exact Fq (Fq (FT h₃ (fun x s₄ h₄=>Fq (FT h₄ (fun _ s₅ h₅=>FK (FK ⟨rfl,h₅⟩)) fun _ _ h'=>h')) fun _ _ h'=>h'))
def clo(env:Env):List (Str×NameKind)→List (Str×Addr)→List (Str×Addr)
 | [],cs=>cs
 | (n,k)::r,cs=>clo env r (if (k== .free)=true then (match env.cells.lookup n with | some c=>(n,c)::cs | none=>cs) else cs)
theorem Qj{env:Env}:∀(names:List (Str×NameKind)) (cs:List (Str×Addr)),(∀y∈names,y.2= .free→∃c,env.cells.lookup y.1=some c)→
 (forIn (m:=Sem) names cs fun (x:Str×NameKind) (r:List (Str×Addr))=>match x with | (name,kind)=>if (kind== .free)=true then do let c ← cellOf env name;pure (ForInStep.yield ((name,c)::r)) else pure (ForInStep.yield r))=pure (clo env names cs)
 | [],cs,_=>rfl
 | (n,k)::r,cs,h=>by
  rw [List.forIn_cons];have ih:=fun cs=>Qj r cs fun y hy=>h y (Fk _ hy)
  by_cases hk:(k==NameKind.free)=true
  · obtain ⟨c,hc⟩:=h (n,k) Fu (by simpa using hk)
    have e:cellOf env n=pure c:=by unfold cellOf;rw [show env.cells.lookup n=some c from hc]
    simp only [hk,if_true,e,clo];rw [show env.cells.lookup n=some c from hc];exact ih _
  · simp only [hk,clo]
    exact ih _
theorem Lk{scope:Scope}{env:Env}(h:∀y∈scope.names,y.2= .free→∃c,env.cells.lookup y.1=some c):closureFor scope env=pure (clo env scope.names []):=by
 unfold closureFor;show (forIn (m:=Sem) scope.names ([]:List (Str×Addr)) _ >>=fun r=>pure r)=_;rw [Qj scope.names [] h];rfl
theorem L7{env:Env}{x:Str}{c:Addr}:∀(names:List (Str×NameKind)) (cs:List (Str×Addr)),(clo env names cs).lookup x=some c→env.cells.lookup x=some c∨cs.lookup x=some c
 | [],cs,h=> .inr h
 | (n,k)::r,cs,h=>by
  unfold clo at h;rcases L7 r _ h with q | q
  · exact .inl q
  · split at q
    · split at q
      · rename_i c' hc
        rw [FP]at q
        cases hx:x==n with
        | true=>
         rw [hx]at q
         have e:x=n:=by simpa using hx
         subst e;simp only [Option.some.injEq]at q;subst q;exact .inl hc
        | false=>rw [hx]at q;exact .inr q
      · exact .inr q
    · exact .inr q
theorem P7{env:Env}{x:Str}{c:Addr}(hc:env.cells.lookup x=some c):∀(names:List (Str×NameKind)) (cs:List (Str×Addr)),(cs.lookup x=some c∨(cs.lookup x=none∧(x,NameKind.free)∈names))→(clo env names cs).lookup x=some c
 | [],cs,h=>by
  rcases h with h | ⟨_,h⟩
  · exact h
  · cases h
 | (n,k)::r,cs,h=>by
  unfold clo;refine P7 hc r _ ?_
  by_cases hx:x=n
  · subst hx
    by_cases hk:(k==NameKind.free)=true
    · rw [if_pos hk,hc]
      exact .inl (by simp [FP])
    · rw [if_neg hk]
      rcases h with h | ⟨h1,h2⟩
      · exact .inl h
      · refine .inr ⟨h1,?_⟩
        rcases Fv.mp h2 with e | e
        · cases e;exact absurd rfl hk
        · exact e
  · have hb:(x==n)=false:=by simpa using hx
    have key:∀cs':List (Str×Addr),cs'.lookup x=cs.lookup x→(cs'.lookup x=some c∨(cs'.lookup x=none∧(x,NameKind.free)∈r)):=fun cs' e=>by
     rw [e];rcases h with h | ⟨h1,h2⟩
     · exact .inl h
     · refine .inr ⟨h1,?_⟩
       rcases Fv.mp h2 with e | e
       · cases e;exact absurd rfl hx
       · exact e
    refine key _ ?_;split
    · split
      · simp [FP,hb]
      · rfl
    · rfl
theorem Ei{env:Env}{k':NameKind}:∀{names:List (Str×NameKind)} {x:Str},(∀y∈names,y.2≠ .cell)→
 (names.map fun (n,k)=>if (k==NameKind.free && env.scope.kind== .function && env.kindOf n==some .cell) then (n,NameKind.cell) else (n,k)).lookup x=some k'→(k'= .cell∨k'= .free)→(x,NameKind.free)∈names
 | [],_,_,h,_=>by simp at h
 | (n,k)::r,x,hc,h,hk=>by
  have ih:=@Ei env k' r x (fun y hy=>hc y (Fk _ hy));have h':List.lookup x ((if (k==NameKind.free && env.scope.kind== .function && env.kindOf n==some .cell)=true then (n,NameKind.cell) else (n,k))::(r.map fun (n,k)=>if (k==NameKind.free && env.scope.kind== .function && env.kindOf n==some .cell) then (n,NameKind.cell) else (n,k)))=some k':=h
  by_cases hx:x=n
  · subst hx
    by_cases q:(k==NameKind.free && env.scope.kind== .function && env.kindOf x==some .cell)=true
    · have:k= .free:=by simp only [Hc,HN]at q;exact q.1.1
      subst this;exact Fu
    · rw [if_neg q,FP]at h'
      simp only [beq_self_eq_true]at h';have e:k=k':=FL h';rcases hk with z | z
      · exact absurd (e.trans z) (hc (x,k) Fu)
      · rw [e.trans z];exact Fu
  · have hb:(x==n)=false:=by simpa using hx
    refine Fk _ (ih ?_ hk);split at h'
    · rw [FP,hb]at h';exact h'
    · rw [FP,hb]at h';exact h'
theorem D8{env:Env}:∀{names:List (Str×NameKind)} {x:Str},names.lookup x=some .free→
 (names.map fun (n,k)=>if (k==NameKind.free && env.scope.kind== .function && env.kindOf n==some .cell) then (n,NameKind.cell) else (n,k)).lookup x=some .cell∨
 (names.map fun (n,k)=>if (k==NameKind.free && env.scope.kind== .function && env.kindOf n==some .cell) then (n,NameKind.cell) else (n,k)).lookup x=some .free
 | [],_,h=>by simp at h
 | (n,k)::r,x,h=>by
  have ih:=@D8 env r x;show List.lookup x ((if (k==NameKind.free && env.scope.kind== .function && env.kindOf n==some .cell)=true then (n,NameKind.cell) else (n,k))::_)=_∨List.lookup x ((if (k==NameKind.free && env.scope.kind== .function && env.kindOf n==some .cell)=true then (n,NameKind.cell) else (n,k))::_)=_
  cases hx:x==n with
  | true=>
   simp only [FP,hx]at h;cases h;split
   · left;simp [FP,hx]
   · right;simp [FP,hx]
  | false=>
   simp only [FP,hx]at h;split
   · simp only [FP,hx];exact ih h
   · simp only [FP,hx];exact ih h
structure Blk where
 s:Shared
 H:Hp
 C:Addr
 fp:List Addr
abbrev Cx.blk(X:Cx)(scope:Scope)(N':List Str)(b:Blk):Cx:=
 {X with N:=N',s₀:=b.s,H₀:=b.H,env:=compEnvC scope (clo X.env scope.names []) b.C X.env,outer:=X.stack,ex:=b.fp,fn:=fun _=>false,pn:=[],xe:=fun _ _=>False}
def around(N:List Str)(fs:List Nat):List Str:=fs.map fun j=>N.getD j ""
def Cw(N:List Str)(esc scope:Scope)(xs:List Str)(fs:List Nat):Bool:=
 decide (xs++around N fs).Nodup && (match scope.kind with | .function=>true | _=>false) && xs.all (fun x=>decide (scope.names.lookup x=some .local)) &&
 scope.names.all (fun y=>decide (y.2≠ .cell) && (!decide (y.2= .local) || decide (scope.names.lookup y.1=some .local)) && (!decide (y.2= .free) || decide (esc.names.lookup y.1=some .cell) || decide (esc.names.lookup y.1=some .free))) &&
 fs.all fun j=>decide (j < N.length) && decide (scope.names.lookup (N.getD j "")=some .free)
structure P8(N:List Str)(esc scope:Scope)(xs:List Str)(fs:List Nat):Prop where
 nd:(xs++around N fs).Nodup
 kind:scope.kind= .function
 own:∀x∈xs,scope.names.lookup x=some .local
 cell:∀y∈scope.names,y.2≠ .cell
 names:∀y∈scope.names,y.2= .local→scope.names.lookup y.1=some .local
 free:∀y∈scope.names,y.2= .free→esc.names.lookup y.1=some .cell∨esc.names.lookup y.1=some .free
 fs:∀j∈fs,j < N.length∧scope.names.lookup (N.getD j "")=some .free
theorem De{N:List Str}{esc scope:Scope}{xs:List Str}{fs:List Nat}(h:Cw N esc scope xs fs=true):P8 N esc scope xs fs:=by
 unfold Cw at h;simp only [Hc,decide_eq_true_eq,FU]at h;obtain ⟨⟨⟨⟨h1,h2⟩,h3⟩,h4⟩,h5⟩:=h;refine ⟨h1,?_,h3,fun y hy=>(h4 y hy).1.1,fun y hy e=>?_,fun y hy e=>?_,h5⟩
 · split at h2
   · assumption
   · cases h2
 · have:=(h4 y hy).1.2
   simpa [e] using this
 · have:=(h4 y hy).2
   simpa [e] using this
section
variable {X:Cx} {pins:List (Addr×Obj)} {σ:St} {H:Hp} {s:Shared} {scope:Scope} {xs:List Str} {fs:List Nat} {fp:List Addr} {C:Addr}
theorem J7r(I:Inv X pins σ H s)(O:P8 X.N X.env.scope scope xs fs)(hf:∀b∈fp,D3 X pins H b)(hC:s.heap.objs.size≤C)(hfp:∀b∈fp,b < s.heap.objs.size):(X.blk scope (xs++around X.N fs) ⟨s,H,C,fp⟩).Ok:=by
 have hcl:∀x c,(clo X.env scope.names []).lookup x=some c→X.env.cells.lookup x=some c:=fun x c e=>by
  rcases L7 _ _ e with q | q
  · exact q
  · cases q
 have hsz:∀b o,X.base.get? b=some o→b < X.s₀.heap.objs.size:=fun b o e=>Fj (Fl e) I.ok.bsz;refine ⟨I.ok.mod,O.kind,I.ok.glob,I.ok.blt,hC,fun x y c h1 h2=>I.ok.inj x y c (hcl x c h1) (hcl y c h2),fun x hx=>?_,fun x c z=>(by cases z),I.ok.hd,I.ok.frames,.inl rfl,fun b hb=>⟨Fo (Fj (hfp b hb) hC),fun x c e=>(hf b hb).2.2.2.2.1 x c (hcl x c e)⟩,I.bs,FG I.ok.bsz I.sz,fun b o e hb=>?_,fun b hb hs=>?_,I.stack,I.stkFree⟩
 · have hm:(x,NameKind.free)∈scope.names:=by
    rcases hx with hx | hx
    · exact Ei (env:=X.env) O.cell (show (scope.names.map _).lookup x=some NameKind.cell from hx) (.inl rfl)
    · exact Ei (env:=X.env) O.cell (show (scope.names.map _).lookup x=some NameKind.free from hx) (.inr rfl)
   obtain ⟨c,hc⟩:=I.ok.has x (O.free _ hm rfl);exact ⟨c,P7 hc _ _ (.inr ⟨rfl,hm⟩)⟩
 · obtain ⟨_,_,_,h4,_⟩:=hf b hb
   rcases h4 with h4 | h4
   · exact I.ok.noex b o e h4
   · exact absurd (Fj (hsz b o e) h4) (Hj _)
 · obtain ⟨_,h2,h3,_⟩:=hf b hb
   exact (Fv.mp (I.stkSub b hs)).elim h2 h3
theorem J7s{h1:Heap}{t:Nat}{D:Addr}{m:Str→Option Value}(I:Inv X pins σ H s)(O:P8 X.N X.env.scope scope xs fs)(hf:∀b∈fp,D3 X pins H b)(hD:s.heap.objs.size≤D)(hC:s.heap.objs.size≤C)(hfp:∀b∈fp,b < s.heap.objs.size)(hDC:D≠C)
 (k:∀b u,s.heap.get? b=some u→h1.get? b=some u) (hDo:h1.get? D=some {cls:= .type "list",data:= .seq #[] 0}) (hn:h1.Ns C m):
 Inv (X.blk scope (xs++around X.N fs) ⟨s,H,C,fp⟩) [] (xs.map (fun _=>none)++fs.map fun j=>σ.getD j none) (upd H D (.lst [])) {s with heap:=h1,toks:=t}:=by
 have hcl:∀x c,(clo X.env scope.names []).lookup x=some c→X.env.cells.lookup x=some c:=fun x c e=>by
  rcases L7 _ _ e with q | q
  · exact q
  · cases q
 have ok:=J7r (C:=C) I O hf hC hfp;have hnD:H D=none:=I.hok.fresh hD;refine ⟨ok,rfl,I.bare,Un.laid k hD hnD,⟨m,hn,fun i x v e1 e2 e3=>?_⟩,fun x c e=>?_,?_,fun x c e=>?_,fun p hp=>absurd (show p∈([]:List (Addr×Obj)) from hp) (by simp),I.hok.laid k hD ⟨FB _,[],0,.nil,hDo⟩,by simp [around]⟩
 · by_cases hi:i < xs.length
   · rw [Fy (by simpa using hi),Fe]at e2
     cases q:xs[i]? with
     | none=>rw [q]at e2;cases e2
     | some a=>rw [q]at e2;cases e2
   · have hi:xs.length≤i:=RF hi
     rw [FD (by simpa using hi)]at e1 e2;unfold around at e1;rw [Fa]at e2;rw [Fe]at e1 e2
     cases q:fs[i - xs.length]? with
     | none=>rw [q]at e2;cases e2
     | some j=>
      rw [q]at e1 e2;simp only [Ht,Option.some.injEq]at e1 e2;obtain ⟨hj,hl⟩:=O.fs j (Ff q);obtain ⟨m0,_,hl0⟩:=I.loc
      have e1':X.N[j]?=some x:=by rw [← e1,Fc,Fb hj];rfl
      have e2':σ[j]?=some (some v):=by
       rw [Fc]at e2
       cases z:σ[j]? with
       | none=>rw [z]at e2;cases e2
       | some y=>rw [z]at e2;simp only [Option.getD_some]at e2;rw [e2]
      rw [e1]at hl;have hm:(x,NameKind.free)∈scope.names:=FN hl;have hk:=O.free _ hm rfl;obtain ⟨u,r,l⟩:=hl0 j x v e1' e2' (hk.elim (fun z=> .inr (.inl z)) fun z=> .inr (.inr z));refine ⟨u,r,?_⟩;rcases l with ⟨z,_⟩ | ⟨_,c,hc,cell⟩
      · have z':X.env.scope.names.lookup x=some .local:=z
        rcases hk with hk | hk <;> (rw [z']at hk;cases hk)
      · refine .inr ⟨?_,c,P7 hc _ _ (.inr ⟨rfl,hm⟩),?_⟩
        · exact D8 (env:=X.env) hl
        · obtain ⟨o,ho,hd⟩:=cell
          exact ⟨o,k _ _ ho,hd⟩
 · obtain ⟨v,o,ho,hd⟩:=I.cell x c (hcl x c e)
   exact ⟨v,o,k _ _ ho,hd⟩
 · show upd H D (.lst []) C=none
   rw [A3 (Ne.symm hDC)];exact I.hok.fresh hC
 · obtain ⟨v,q⟩:=I.cell x c (hcl x c e)
   rw [A3 (Fo (Fj q.lt hD))];exact I.freeC x c (hcl x c e)
theorem J4g{N':List Str}{σ':St}{H':Hp}{s':Shared}{h2:Heap}{pl:List (Addr×Obj)}(I:Inv X pins σ H s)(hf:∀b∈fp,D3 X pins H b)(hC:s.heap.objs.size≤C)(J:Inv (X.blk scope N' ⟨s,H,C,fp⟩) pl σ' H' s')(sb:Heap.SameBut C s'.heap h2):
 Inv X pins σ H' {s' with heap:=h2}:=by
 have u:=J.base;have ne:∀b o,s.heap.get? b=some o→b≠C:=fun b o e=>Fo (Fj (Fl e) hC);refine I.call' (ch:=fp) J.os ⟨fun b o e n h1 h2=>(sb.2 b (ne b o e)).trans (u.keep b o e n h1 h2),fun b o e n h1 h2=>?_,u.free,fun b o e hx=>?_,u.tups,u.frzs,u.tbls⟩ (fun a o e=>?_) J.bare fun b hb=>?_
 · obtain ⟨sl,q⟩:=u.slot b o e n h1 h2
   exact ⟨sl,(sb.2 b (ne b o e)).trans q⟩
 · obtain ⟨o',q⟩:=u.there b o e hx
   exact ⟨o',(sb.2 b (ne b o e)).trans q⟩
 · have fr:H' C=none:=J.free
   refine (J.hok a o e).stay (fun b v hc q=>(sb.2 b ?_).trans q) (fun _ q=>q) fun _ _ q=>q;rcases hc with rfl | hc
   · exact A8 e fr
   · exact A8 hc fr
 · obtain ⟨_,h2,h3,h4,h5,h6⟩:=hf b hb
   exact ⟨h4,h2,h5,h6⟩
end
end L2
namespace L2
def J7t(σ σ':St):Prop:=∀(i:Nat) (v:V),σ[i]?=some (some v)→σ'[i]?=some (some v)
def PTs(X:Cx)(ifs:List Expr)(t:TT):Prop:=
 ∀(pins:List (Addr×Obj)) (s:Shared) (σ:St) (H:Hp) (Q:Bool→Hp→Prop),Inv X pins σ H s→t σ H Q→
   wpAny (model X.prog X.w) X.A (forIn ifs true fun c r=>if r=true then do let ok ← isTrue c X.env (eval c X.env);pure (ForInStep.yield ok) else pure (ForInStep.yield r)) (TP X pins σ Q) X.xe s
def G9:TT:=fun _ H Q=>Q true H
theorem P9{X:Cx}:PTs X [] G9:=fun _ _ _ H _ I h=>wpAny_tests_nil ⟨H,I,h⟩
theorem J4h{X:Cx}{c:Expr}{t:TT}(hc:PT X c t):PTs X [c] t:=fun pins s σ H Q I h=>wpAny_tests_one (hc pins s σ H Q I h)
def Br(σ0:St)(g:Blk→TG)(tt:Blk→TT)(te:Blk→TE)(Q:VK)(J:It)(H1:Hp):Prop:=∀(b:Blk) (D:Addr),H1 D=none→∃W:Nat→Nat→List V→Hp→Prop,(∃m,W 0 m [] (upd H1 D (.lst [])))∧∀i m ys H2,W i m ys H2→H2 D=some (.lst ys)∧
 ((J.stop i H2∧Q (.ref D) H2)∨(J.go i H2∧∀x H3,J.yld i H2 x H3→g b x σ0 H3 fun σ6 H6=>J7t σ0 σ6∧tt b σ6 H6 fun ok H7=>
   if ok=true then te b σ6 H7 fun y H8=>H8 D=some (.lst ys)∧ys.length < sizeLine∧∃m',m' < m∧W (i+1) m' (ys++[y]) (upd H8 D (.lst (ys++[y])))
   else ∃m',m' < m∧W (i+1) m' ys H7))
def Nv(wi:TI)(n:Nat)(fs:List Nat)(g:Blk→TG)(tt:Blk→TT)(te:Blk→TE):TE:=fun σ H Q=>wi σ H (Br (List.replicate n none++fs.map fun j=>σ.getD j none) g tt te Q)
section
variable {X:Cx} {pins:List (Addr×Obj)} {σ:St} {scope:Scope} {xs:List Str} {fs:List Nat} {elt tg iter:Expr} {ifs:List Expr} {pos:Pos} {wi:TI} {g:Blk→TG} {tt:Blk→TT} {te:Blk→TE}
theorem Nw{H:Hp}{s:Shared}{C:Addr}{h2:Heap}(I:Inv X pins σ H s)(F:D3 X pins H C)(sb:Heap.SameBut C s.heap h2):Inv X pins σ H {s with heap:=h2}:=
 I.turned (t':=s.toks) (fun b o hb e=>(sb.2 b hb).trans e) F.1 F.2.1 F.2.2.2.1 F.2.2.2.2.1 F.2.2.2.2.2
theorem Qk{Q:VK}{itv:Value}{s2:Shared}{E:Value→Shared→Prop}{RR:Value→Addr→Result→Shared→Prop}(hc:X.calm=true)(O:P8 X.N X.env.scope scope xs fs)
 (hg:∀b,PG (X.blk scope (xs++around X.N fs) b) tg (g b)) (ht:∀b,PTs (X.blk scope (xs++around X.N fs) b) ifs (tt b)) (he:∀b,PE (X.blk scope (xs++around X.N fs) b) elt (te b))
 (h:PIE X pins σ tg (Br (List.replicate xs.length none++fs.map fun j=>σ.getD j none) g tt te Q) itv s2)
 (hR:∀D C s' m H',s'.heap.Ns C m→Inv X pins σ H' s'→Q (.ref D) H'→D3 X pins H' C→RR (.ref D) C (.ok .next) s'):
 wpAny (model X.prog X.w) X.A (newList []) (fun acc s₃=>wpAny (model X.prog X.w) X.A (newFunctionEnv scope X.env.globals (clo X.env scope.names []) [] X.env.qual none .none (some X.env)) (fun cenv s₄=>
  codeAny (model X.prog X.w) X.A (.compStart (.ListComp elt [⟨tg,iter,ifs,0⟩] scope pos) 0 itv acc {cenv with scope:=relabel scope X.env}) (RR acc cenv.locals) s₄) E s₃) E s2:=by
 obtain ⟨it,fp,tn,J,H2,rfl,I2,T,st2,f2,rd⟩:=h
 have hfp:∀b∈fp,b < s2.heap.objs.size:=fun b hb=>by
  obtain ⟨o,e,_⟩:=T.obj _ _ st2 b hb;exact Fl e
 refine wpAny_newObj_type (wpAny_newFunctionEnv O.cell (by intro y hy;simp at hy) (fun h₁ hns₁ hsb₁=>?_) O.kind);dsimp only at hns₁ hsb₁ ⊢;generalize hH2:s2.heap.push {cls:= .type "list",dict:=none,data:= .seq ([]:List Value).toArray}=HH at hns₁ hsb₁ ⊢
 have hC:HH.objs.size=s2.heap.objs.size+1:=by rw [← hH2,Ru]
 have hDC:s2.heap.objs.size≠HH.objs.size:=by rw [hC];exact Fo (HE _)
 have hCle:s2.heap.objs.size≤HH.objs.size:=by rw [hC];exact R1 _
 have old:∀b o,s2.heap.get? b=some o→h₁.get? b=some o:=fun b o e=>hsb₁.extBut b o (by rw [hC];exact Fo (R9 (Fl e))) (Fd _ (hH2▸Fd _ e));have hacc:h₁.get? s2.heap.objs.size=some {cls:= .type "list",data:= .seq #[] 0}:=hsb₁.extBut _ _ hDC (Fd _ (hH2▸Fs _ rfl));obtain ⟨W,⟨m0,w0⟩,turn⟩:=rd ⟨s2,H2,HH.objs.size,fp⟩ s2.heap.objs.size I2.fresh;have I3:=J7s (t:=s2.toks+([]:List (Str×Value)).length) I2 O f2 (Fg _) hCle hfp hDC old hacc hns₁;rw [show xs.map (fun _=>(none:Option V))=List.replicate xs.length none from List.map_const' ..]at I3;generalize hX:X.blk scope (xs++around X.N fs) ⟨s2,H2,HH.objs.size,fp⟩=X' at I3
 have stat:∀{H':Hp},(∀b∈fp,H' b=none)→∀b∈fp,D3 X' [] H' b:=fun hn b hb=>by
  subst hX;refine ⟨hn b hb,?_,?_,.inl hb,fun x c e=>?_,fun p hp=>absurd hp (by simp)⟩
  · exact (I3.ok.exf b hb).1
  · exact I3.ok.exfs b hb
  · exact (I3.ok.exf b hb).2 x c e
 have fr3:∀b∈fp,upd H2 s2.heap.objs.size (.lst []) b=none:=fun b hb=>by
  rw [A3 (Fo (hfp b hb))];exact (f2 b hb).1
 have ccell:∀y c,X.env.cells.lookup y=some c→c≠HH.objs.size:=fun y c e=>by
  obtain ⟨v,q⟩:=I2.cell y c e;exact Fo (Fj q.lt hCle)
 have cloc:HH.objs.size≠X.env.locals:=(Fo (Fj I2.lt hCle)).symm
 have eP:X'.prog=X.prog:=by rw [← hX]
 have ew:X'.w=X.w:=by rw [← hX]
 have eK:X'.K=X.K:=by rw [← hX]
 have eA:X'.A=X.A:=by rw [← hX]
 have ec:X'.calm=true:=by rw [← hX];exact hc
 have ex:X'.xe=fun _ _=>False:=by rw [← hX]
 have een:X'.env=compEnvC scope (clo X.env scope.names []) HH.objs.size X.env:=by rw [← hX]
 have hg':=hg ⟨s2,H2,HH.objs.size,fp⟩;have ht':=ht ⟨s2,H2,HH.objs.size,fp⟩;have he':=he ⟨s2,H2,HH.objs.size,fp⟩;rw [hX]at hg' ht' he';have st1:tn 0 h₁:=T.keep _ _ _ st2 fun b hb o e=>old b o e
 have loop:∀s₃:Shared,s₃={s2 with heap:=h₁,toks:=s2.toks+([]:List (Str×Value)).length}→
  codeAny (model X.prog X.w) X.A (.compLoop (.ListComp elt [⟨tg,iter,ifs,0⟩] scope pos) 0 (.ref it) (.ref s2.heap.objs.size) (compEnvC scope (clo X.env scope.names []) HH.objs.size X.env))
   (RR (.ref s2.heap.objs.size) HH.objs.size) s₃:=by
  rintro s₃ rfl;refine P6 (fun n s'=>∃i ys H',Inv X' [] (List.replicate xs.length none++fs.map fun j=>σ.getD j none) H' s'∧tn i s'.heap∧(∀b∈fp,H' b=none)∧W i n ys H') ?_ m0 ⟨0,[],_,I3,st1,fr3,w0⟩;rintro n s4 ⟨i,ys,H4,I4,st4,fr4,w4⟩;obtain ⟨hD4,tn4⟩:=turn i n ys H4 w4;rcases tn4 with ⟨stop,qn⟩ | ⟨go,step⟩
  · have td:=T.done X' eP ew eK ec i [] s4 _ H4 (notedBy (model X.prog X.w) X.A (compEnvC scope (clo X.env scope.names []) HH.objs.size X.env) fun e s'=>RR (.ref s2.heap.objs.size) HH.objs.size (.error e) s') I4 (stat fr4) st4 stop
    rw [eA]at td;refine thn td fun r s5 ⟨hr,I5⟩=>?_;subst hr;obtain ⟨m5,hn5,_⟩:=I5.loc;rw [een]at hn5
    have fr5:H4 HH.objs.size=none:=by have:=I5.free;rw [een]at this;exact this
    rw [← hX]at I5;exact hR _ _ _ m5 H4 hn5 (J4g I2 f2 hCle I5 (Heap.SameBut.refl ..)) qn (I2.fpOk hCle fr5)
  · have ti:=T.item X' eP ew eK ec i [] s4 _ H4 (notedBy (model X.prog X.w) X.A (compEnvC scope (clo X.env scope.names []) HH.objs.size X.env) fun e s'=>RR (.ref s2.heap.objs.size) HH.objs.size (.error e) s') I4 (stat fr4) st4 go
    rw [eA]at ti;refine thn ti fun r s5 ⟨u,hr,h5⟩=>?_;subst hr;refine thn h5 fun _ s6 hq_=>?_;obtain ⟨x,H6,I6,r6,y6,st6,fr6⟩:=hq_;have I6':=I6.pinned (stat fr6) (T.obj _ _ st6);have g1:=hg' _ s6 _ H6 x u _ I6' r6 (step x H6 y6);rw [eP,ew,eA,een,ex]at g1;refine FT g1 (fun _ s7 hq_=>?_) fun _ _ z=>z.elim;obtain ⟨σ7,H7,I7,kp7,q7⟩:=hq_;have t1:=ht' _ s7 σ7 H7 _ I7 q7;rw [eP,ew,eA,een,ex]at t1
    have back:∀{H9:Hp} {s9:Shared},Inv X' ([]++Ky fp s6.heap) σ7 H9 s9→Inv X' [] (List.replicate xs.length none++fs.map fun j=>σ.getD j none) H9 s9∧tn (i+1) s9.heap∧∀b∈fp,H9 b=none:=fun {H9 s9} I9=>by
     refine ⟨I9.unpinned.weak ?_ kp7,T.keep _ _ _ st6 fun b hb o e=>(I9.pin (b,o) (Fx _ (Fx _ (Eh hb e)))).1,fun b hb=>?_⟩
     · rw [I9.len,I4.len]
     · obtain ⟨o,e,d⟩:=T.obj _ _ st6 b hb
       exact (I9.pin (b,o) (Fx _ (Fx _ (Eh hb e)))).2.1
    refine FT t1 (fun ok s8 ⟨H8,I8,q8⟩=>?_) fun _ _ z=>z.elim
    cases ok with
    | false=>
     rw [if_neg Ft]at q8 ⊢;obtain ⟨m',hm,w8⟩:=q8;obtain ⟨b1,b2,b3⟩:=back I8;exact ⟨m',hm,i+1,ys,H8,b1,b2,b3,w8⟩
    | true=>
     rw [if_pos rfl]at q8 ⊢;have e1:=he' _ s8 σ7 H8 _ I8 q8;rw [eP,ew,eA,een,ex]at e1;refine FT e1 (fun uy s9 hq_=>?_) fun _ _ z=>z.elim;obtain ⟨y,H9,I9,r9,hD9,hz,m',hm,w9⟩:=hq_;have a1:=Dd (X:=X') (pins:=[]++Ky fp s6.heap) (s:=s9) (σ:=σ7) (H:=H9) (x:= .ref s2.heap.objs.size) (xs:=[y]) (v:= .ref s2.heap.objs.size) (us:=[uy]) (Q:=fun _ H'=>H'=upd H9 s2.heap.objs.size (.lst (ys++[y]))) I9 rfl (.cons r9 .nil) ⟨_,ys,y,rfl,rfl,hD9,hz,rfl⟩;rw [eP,ew,eA,ex]at a1;refine FT a1 (fun _ s10 hq_=>?_) fun _ _ z=>z.elim;obtain ⟨_,H10,I10,_,e10⟩:=hq_;subst e10;obtain ⟨b1,b2,b3⟩:=back I10;exact ⟨m',hm,i+1,_,_,b1,b2,b3,w9⟩
 exact codeAny_compStart_list (loop _ rfl) (T.self _ 0 _ _ _ st1 (loop _ rfl))
theorem Mi(hc:X.calm=true)(hok:Cw X.N X.env.scope scope xs fs=true)(hi:PI X tg iter wi)
 (hg:∀b,PG (X.blk scope (xs++around X.N fs) b) tg (g b)) (ht:∀b,PTs (X.blk scope (xs++around X.N fs) b) ifs (tt b)) (he:∀b,PE (X.blk scope (xs++around X.N fs) b) elt (te b))
 (hs:∀x,foldedSetIterable iter X.env x=pure x:=by intro _;rfl):
 PE X (.ListComp elt [⟨tg,iter,ifs,0⟩] scope pos) (Nv wi xs.length fs g tt te):=by
 intro pins s σ H Q I h;have O:=De hok;rw [eval_ListComp];refine wpAny_comprehension_free (use:=none) rfl hs (Lk fun y hy hf=>I.ok.has _ (O.free y hy hf)) O.kind O.names (thn (hi pins s σ H _ I h) fun v s1 h1=>thn h1 fun itv s2 h2=>?_)
 exact Qk (RR:=fun acc C=>compPost (model X.prog X.w) X.A X.xe none (EP X pins σ Q) acc C) hc O hg ht he h2 fun D C s' m H' hn I' q F=>⟨m,hn,fun h2 sb=>⟨.ref D,H',Nw I' F sb,rfl,q⟩⟩
theorem J4i{y:Str}{py:Pos}{i:Nat}(hN:X.N.Nodup)(hy:X.N[i]?=some y)(hyl:X.env.kindOf y=some .local)(hc:X.calm=true)(hok:Cw X.N X.env.scope scope xs fs=true)(hi:PI X tg iter wi)
 (hg:∀b,PG (X.blk scope (xs++around X.N fs) b) tg (g b)) (ht:∀b,PTs (X.blk scope (xs++around X.N fs) b) ifs (tt b)) (he:∀b,PE (X.blk scope (xs++around X.N fs) b) elt (te b)) {spos:Pos}
 (hsw:swapsWith (.ListComp elt [⟨tg,iter,ifs,0⟩] scope pos) (some (.Name y py)) spos.line X.env=pure true:=by rfl)
 (hs:∀x,foldedSetIterable iter X.env x=pure x:=by intro _;rfl):
 PS X (.Assign [.Name y py] (.ListComp elt [⟨tg,iter,ifs,0⟩] scope pos) spos) (Yo (Nv wi xs.length fs g tt te) (Bz i)):=by
 intro pins s σ H D I h;have O:=De hok;rw [exec_Assign_Name_used _ _ _ _ hsw];refine Fq (wpAny_standAt (Fq ?_));show wpAny _ X.A (do let _ ← comprehension (.ListComp elt [⟨tg,iter,ifs,0⟩] scope pos) scope X.env _ (newList []) false (eval iter X.env) (some (assign (.Name y py) X.env))) _ _ s
 refine Fq (FT (wpAny_comprehension_free (use:=some (assign (.Name y py) X.env)) (Q:=fun _ s'=>SP X pins D .next s') rfl hs (Lk fun y hy hf=>I.ok.has _ (O.free y hy hf)) O.kind O.names
  (thn (hi pins s σ H _ I h) fun v s1 h1=>thn h1 fun itv s2 h2=>?_)) (fun _ s' hq=>FK (FK hq)) fun _ _ e=>e)
 refine Qk (RR:=fun acc C=>compPost (model X.prog X.w) X.A X.xe (some (assign (.Name y py) X.env)) (fun _ s'=>SP X pins D .next s') acc C) hc O hg ht he h2 fun D' C s' m H' hn I0 q0 F=>?_;show wpAny _ X.A (assign (.Name y py) X.env (.ref D')) _ _ _;refine wpAny_assign_Name (Nj I0 hN hy (.inl hyl) (v:= .ref D') rfl (fun s3 I3 hsb=>?_) (.inr hyl));obtain ⟨a,sb3,ha⟩:=hsb
 have haC:C≠a:=by
  rcases ha with rfl | ha
  · exact F.2.1
  · exact (F.2.2.2.2.1 y a ha).symm
 exact ⟨m,hn.sameBut sb3 haC,fun h4 sb4=>⟨_,H',Nw I3 F sb4,q0⟩⟩
end
end L2
namespace L2
def sg(c:Nat):Str:=⟨#[c]⟩
def Its(z:Str):It:=⟨fun i _=>i < z.cps.size,fun i H x H'=>H'=H∧∃c,z.cps[i]?=some c∧x= .str ⟨#[c]⟩,fun i _=>z.cps.size≤i⟩
def Ja0(tl:TE):TI:=fun σ H R=>tl σ H fun x H1=>∃z,x= .str z∧R (Its z) H1
section
variable {P:Program} {w:World} {K:PySem.W.Frag} {tg:Expr}
theorem J1c(ty:String)(hty:ty="str_ascii_iterator"∨ty="str_iterator")(z:Str)(t:Tok)(it:Addr):Xf P w K tg (Its z) [it] it (fun i h=>i≤z.cps.size∧h.IsStrIter it ty z t i) where
 mem:=by simp
 obj:=fun i h st b hb=>by
  have e:b=it:=by simpa using hb
  subst e;obtain ⟨o,e,c,d⟩:=st.2;exact ⟨o,e,fun v z=>by rw [d]at z;cases z⟩
 keep:=fun i h h' st k=>⟨st.1,by obtain ⟨o,e,r⟩:=st.2;exact ⟨o,k it (by simp) o e,r⟩⟩
 item:=by
  intro X hP hw hK hc i pins s σ H E I hf st hg;subst hP hw hK;obtain ⟨f0,f1,f2,f3,f4,f5⟩:=hf it (by simp)
  have W:Walks X.prog X.w X.A it [it] [it] z.cps.size (SignAt z) (fun i h=>h.IsStrIter it ty z t i):=by
   rcases hty with rfl | rfl
   · exact Walks.strAscii (I.ok.hd hc) it z t
   · exact Walks.strWide (I.ok.hd hc) it z t
  refine W.item i s _ _ hg st.2 fun v h' tk hv st' kk=>?_;obtain ⟨c,u,hcc,rfl⟩:=hv;have I1:Inv X pins σ H {s with heap:=h',toks:=tk}:=I.turned (fun b o hb e=>kk b o (by simpa using hb) e) f0 f1 f3 f4 f5;obtain ⟨o,e,cc,d⟩:=id st'
  refine ⟨_,rfl,Yr (s:={s with heap:=h',toks:=tk}) (n:=ty) e cc d (by rcases hty with rfl | rfl <;> decide) ⟨.str ⟨#[c]⟩,H,I1,⟨u,rfl⟩,⟨rfl,c,hcc,rfl⟩,⟨hg,st'⟩,fun b hb=>(hf b hb).1⟩⟩
 done:=by
   intro X hP hw hK hc i pins s σ H E I hf st hg;subst hP hw hK;obtain ⟨f0,f1,f2,f3,f4,f5⟩:=hf it (by simp)
   have W:Walks X.prog X.w X.A it [it] [it] z.cps.size (SignAt z) (fun i h=>h.IsStrIter it ty z t i):=by
    rcases hty with rfl | rfl
    · exact Walks.strAscii (I.ok.hd hc) it z t
    · exact Walks.strWide (I.ok.hd hc) it z t
   have hi:i=z.cps.size:=Nat.le_antisymm st.1 hg;subst hi
   exact W.done s _ _ st.2 fun h' tk kk=>⟨rfl,I.turned (fun b o hb e=>kk b o (by simpa using hb) e) f0 f1 f3 f4 f5⟩
 self:=fun _ _ _ _ _ st h=>by
  rcases hty with rfl | rfl
  · exact wpAny_pyIter_striter_ascii st.2 h
  · exact wpAny_pyIter_striter_wide st.2 h
end
section
variable {X:Cx} {tg:Expr}
theorem J7u{l:Expr}{tl:TE}(hl:PE X l tl):PI X tg l (Ja0 tl):=by
 intro pins s σ H R I h;refine thn (hl pins s σ H _ I h) fun v s1 hq_=>?_;obtain ⟨x,H1,I1,r1,q1⟩:=hq_;obtain ⟨z,e,q⟩:=q1;subst e;obtain ⟨t,rfl⟩:=r1
 have fin:∀ty,(ty="str_ascii_iterator"∨ty="str_iterator")→PIE X pins σ tg R (.ref s1.heap.objs.size) {s1 with heap:=s1.heap.push {cls:= .type ty,data:= .fields #[.str z t,.int 0 0]}}:=fun ty hty=>by
  refine ⟨s1.heap.objs.size,[s1.heap.objs.size],_,_,H1,rfl,I1.kept (t':=s1.toks) fun b o e=>Fd _ e,J1c ty hty z t _,⟨FB _,_,Fs _ rfl,rfl,rfl⟩,fun b hb=>?_,q⟩
  have e:b=s1.heap.objs.size:=by simpa using hb
  subst e;exact I1.fpOk (Fg _) I1.fresh
 cases ha:z.cps.all (· < 128)
 · exact wpAny_pyIter_wide ha (fin _ (.inr rfl))
 · exact wpAny_pyIter_ascii ha (fin _ (.inl rfl))
def Jb6:V→Option Int→Option Int→Hp→VK→Prop:=fun x lo hi H Q=>∃z,x= .str z∧z.length≤sizeLine∧Q (.str (Txt.slice z lo hi)) H
theorem Mj:∀{ys:List Str} {us:List Value},Ao (ys.map V.str) us→StrsAre us ys
 | [],_,r=>by rw [List.map_nil]at r;cases r;exact .nil
 | y::ys,us,r=>by
  rw [List.map_cons]at r
  cases r with
  | cons r1 r2=>
   obtain ⟨t,e⟩:=r1;subst e;exact .cons y t (Mj r2)
def J6c(K:PySem.W.Frag):V→List V→Hp→VK→Prop:=fun x vs H Q=>∃z p ys,x= .str z∧vs=[.ref p]∧SqL K H p (ys.map V.str)∧(ys.map (·.length)).sum+ys.length * z.length≤16777216∧Q (.str (Txt.join z ys)) H
theorem Gu:MtR X "str.join" (J6c X.K):=by
 intro pins s σ H x vs v us Q I rx rv h;obtain ⟨z,p,ys,rfl,rfl,hp,hw,q⟩:=h;obtain ⟨t,rfl⟩:=rx;obtain ⟨u,rfl,ru⟩:=rv.one;cases ru;obtain ⟨its,r,pl,hz⟩:=I.list hp
 exact join_list pl.isList (by simpa using Mj r) hw fun t' k=>⟨.str _,H,I.tok k,⟨t',rfl⟩,q⟩
def Ja1:V→List V→Hp→VK→Prop:=fun x vs H Q=>∃z y,x= .str z∧vs=[.str y]∧Q (.int (Txt.find z y)) H
theorem Nx:∀(l:List (Str×Tok)),Ao ((l.map (·.1)).map V.str) (strValues l)
 | []=> .nil
 | (x,t)::r=> .cons ⟨t,rfl⟩ (Nx r)
def J1d:V→List V→Hp→VK→Prop:=fun x vs H Q=>∃z y,x= .str z∧vs=[.str y]∧(y.length==0)=false∧z.length+2≤sizeLine∧∀p,H p=none→Q (.ref p) (upd H p (.lst ((Txt.split z y).map V.str)))
theorem J1e:MtR X "str.split" J1d:=by
 intro pins s σ H x vs v us Q I rx rv h;obtain ⟨x,y,rfl,rfl,hy,hsz,q⟩:=h;obtain ⟨t,rfl⟩:=rx;obtain ⟨u,rfl,ru⟩:=rv.one;obtain ⟨u,rfl⟩:=ru
 have hn:(Builtin.Str.partsBetween x (Builtin.Str.occurrences x y 0 x.length (x.length+1)) y.length).length≤sizeLine:=by
  have e1:=StrLaws.occ_length_le x y 0 x.length (x.length+1);rw [length_partsBetween];omega
 have fin:∀(l:List (Str×Tok)) (k:Nat),l.map (·.1)=Txt.split x y→EP X pins σ Q (.ref s.heap.objs.size) {s with heap:=s.heap.push {cls:= .type "list",data:= .seq (strValues l).toArray},toks:=k}:=fun l k e=>by
  refine ⟨.ref s.heap.objs.size,_,I.laid (t':=k) (fun b o e=>Fd _ e) (Fg _) ?_,rfl,q _ I.fresh⟩;refine ⟨?_,strValues l,0,e▸Nx l,Fs _ rfl⟩;rw [Fa];exact FG (split_le x y) hsz
 cases h1:(decide (x.length < y.length) || decide (Builtin.Str.strKind x < Builtin.Str.strKind y))
 · cases hf:(Builtin.Str.occurrences x y 0 x.length (x.length+1)).isEmpty
   · refine Rh F.slot_str_split (Rz _ _ _) F.entry_str_split (F.args_str_split_2 _ _) (meets_str_split_sep x y t u h1 hy hf (by omega) hn) ?_
     show wants _ _ _ {s with toks:=_,heap:=s.heap.push {cls:= .type "list",data:= .seq (strsFrom s.toks (Builtin.Str.partsBetween x (Builtin.Str.occurrences x y 0 x.length (x.length+1)) y.length)).toArray}};rw [strsFrom_eq];exact fin (numbered s.toks _) _ ((numbered_texts _ _).trans ((if_neg (Rv h1)).trans (if_neg (Rv hf))).symm)
   · exact Rh F.slot_str_split (Rz _ _ _) F.entry_str_split (F.args_str_split_2 _ _) (meets_str_split_not_found x y t u h1 hy hf)
      (fin [(x,t)] s.toks ((if_neg (Rv h1)).trans (if_pos hf)).symm)
 · exact Rh F.slot_str_split (Rz _ _ _) F.entry_str_split (F.args_str_split_2 _ _) (meets_str_split_cannot_occur x y t u h1)
    (fin [(x,t)] s.toks (if_pos h1).symm)
theorem Ng:D7 X (.type "int") (fun xs H Q=>∃z n,xs=[.str z]∧PySem.intText? z=some n∧z.length≤640∧Q (.int n) H):=by
 intro pins s σ H xs us Q I r h;obtain ⟨z,n,rfl,hn,hl,q⟩:=h;obtain ⟨u,rfl,t,rfl⟩:=Do r;exact PySem.W.KIN.call_text hn hl ⟨.int n,H,I.tok _,⟨_,rfl⟩,q⟩
def Ja2:R2:=fun x y H Q=>∃z n,x= .str z∧y= .int n∧MulOk z n∧Q (.str (Txt.mul z n)) H
def Ja3(K:PySem.W.Frag):List V→Hp→VK→Prop:=fun xs H Q=>∃(p:Addr) (bs:List Bool),xs=[.ref p]∧SqL K H p (bs.map V.bl)∧Q (.bl (bs.all id)) H
theorem J1f(hc:X.calm=true):D7 X (.builtin "all") (Ja3 X.K):=by
 intro pins s σ H xs us Q I r h;obtain ⟨p,bs,rfl,hp,q⟩:=h;obtain ⟨u,rfl,ru⟩:=Do r;cases ru;obtain ⟨its,r,pl,hz⟩:=I.list hp
 have hlt:p < s.heap.objs.size:=by obtain ⟨o,n,e,_⟩:=pl;exact Fl e
 refine call_all_walk (R8 pl.isList ⟨s.heap.objs.size,_,_,_,_,_,fun i=>bs.getD i true,rfl,Walks.list (show X.A.in1.handled=none from I.ok.hd hc) s.heap.objs.size p (Fo hlt) its.toArray,⟨⟨_,Fs _ rfl,rfl,rfl⟩,pl.isList.push _⟩,?_,fun h' tk kk=>?_⟩)
 · intro i v s' Q' E' hP hQ'
   have hP:its.toArray[i]?=some v:=hP;have hlen:=r.length;rw [Fa]at hlen
   have hi:i < bs.length:=by
    have:=(Array.getElem?_eq_some_iff.mp hP).1;rw [Fn]at this;omega
   obtain ⟨u,hu,ru⟩:=r.get (i:=i) (x:=V.bl (bs[i])) (by simp [hi])
   have e:u=v:=by
    have:its[i]?=some v:=by simpa using hP
    rw [hu]at this;exact FL this
   subst e;cases ru;dsimp only at hQ';rw [Fc,Fb hi]at hQ';exact FK hQ'
 · refine ⟨.bl _,H,I.kept (t':=tk) fun b o e=>kk b o ?_ (Fd _ e),rfl,?_⟩
   · simpa using Fo (Fl e)
   · have hlen:=r.length
     rw [Fa]at hlen
     have:((List.range its.toArray.size).all fun i=>bs.getD i true)=bs.all id:=by
      rw [Fn,← hlen];rw [R3,FU,FU];constructor
      · intro h x hx
        obtain ⟨i,hi,rfl⟩:=List.mem_iff_getElem.mp hx;have:=h i (by simpa using hi)
        simpa [Fc,Fb hi] using this
      · intro h i hi
        have hi:i < bs.length:=by simpa using hi
        rw [Fc,Fb hi];exact h _ (Hn hi)
     rw [this];exact q
end
abbrev TJ:=Str→St→Hp→(Str→Hp→Prop)→Prop
def PJ(X:Cx)(es:List Expr)(t:TJ):Prop:=
 ∀(acc:Str) (pins:List (Addr×Obj)) (s:Shared) (σ:St) (H:Hp) (Q:Str→Hp→Prop),Inv X pins σ H s→t acc σ H Q→
   Joins (model X.prog X.w) X.A X.xe (evalEach es X.env) acc (fun out s'=>∃H',Inv X pins σ H' s'∧Q out H') s
def Ja4:TJ:=fun acc _ H Q=>Q acc H
def J6d(te:TE)(tr:TJ):TJ:=fun acc σ H Q=>te σ H fun x H1=>∃y,x= .str y∧(acc++y).length≤sizeLine∧tr (acc++y) σ H1 Q
def J6e(t:TJ):TE:=fun σ H Q=>t Str.empty σ H fun out H1=>out.length≤sizeLine∧Q (.str out) H1
def Ja5(te:TE):TE:=fun σ H Q=>te σ H fun x H1=>(∃z,x= .str z∧z.length≤sizeLine∧Q (.str z) H1)∨∃i,x= .int i∧i.natAbs.log2 < 1920∧Q (.str (toString i)) H1
def Ja6(te:TE):TE:=fun σ H Q=>te σ H fun x H1=>∃z,x= .str z∧(PySem.reprText z).length≤sizeLine∧Q (.str (PySem.reprText z)) H1
section
variable {X:Cx} {e v₁ v₂:Expr} {es:List Expr} {te:TE} {tr t:TJ} {pos:Pos}
theorem Tv:PJ X [] Ja4:=fun _ _ _ _ H _ I h=>⟨H,I,h⟩
theorem Gv(he:PE X e te)(hr:PJ X es tr):PJ X (e::es) (J6d te tr):=by
 intro acc pins s σ H Q I h;refine thn (he pins s σ H _ I h) fun v s1 hq_=>?_;obtain ⟨x,H1,I1,r1,y,ex,hz,q⟩:=hq_;subst ex;obtain ⟨t,rfl⟩:=r1;exact ⟨y,t,rfl,hz,hr _ pins s1 σ H1 Q I1 q⟩
theorem Joins.mono{M:Model}{A:Around}{E:Value→Shared→Prop}{Q Q':Str→Shared→Prop}(h:∀o s,Q o s→Q' o s):∀{parts:List (Sem Value)} {acc:Str} {s:Shared},Joins M A E parts acc Q s→Joins M A E parts acc Q' s
 | [],_,_,q=>h _ _ q
 | _::_,_,_,q=>FT q (fun v s1 ⟨y,t,e,hz,r⟩=>⟨y,t,e,hz,Joins.mono h r⟩) fun _ _ x=>x
theorem Pa(h:PJ X (v₁::v₂::es) t):PE X (.JoinedStr (v₁::v₂::es) pos) (J6e t):=by
 intro pins s σ H Q I hq;refine wpAny_JoinedStr (Joins.mono (fun o s1 hq_=>?_) (h Str.empty pins s σ H _ I hq));obtain ⟨H1,I1,hz,q⟩:=hq_;exact ⟨hz,.str o,H1,I1.tok _,⟨_,rfl⟩,q⟩
theorem Tx(h:PE X e te):PE X (.FormattedValue e (-1) none pos) (Ja5 te):=by
 intro pins s σ H Q I hq;refine wpAny_FormattedValue_plain (thn (h pins s σ H _ I hq) fun v s1 hq_=>?_);obtain ⟨x,H1,I1,r1,q⟩:=hq_;rcases q with ⟨z,rfl,hz,q⟩ | ⟨i,rfl,hz,q⟩
 · obtain ⟨t,rfl⟩:=r1
   exact wpAny_formatField_str ⟨.str z,H1,I1,⟨_,rfl⟩,q⟩ ⟨.str z,H1,I1.tok _,⟨_,rfl⟩,q⟩ hz
 · obtain ⟨t,rfl⟩:=r1
   exact wpAny_formatField_int hz ⟨.str _,H1,I1.tok _,⟨_,rfl⟩,q⟩
end
end L2
namespace L2
abbrev Tz(wi:TI)(fs:List Nat)(te:Blk→TE):TE:=Nv wi 1 fs (fun _=>Bz 0) (fun _=>G9) te
section
variable {X:Cx} {scope:Scope} {x:Str} {px:Pos} {fs:List Nat} {elt iter:Expr} {pos:Pos} {wi:TI} {te:Blk→TE}
theorem U0(hok:Cw X.N X.env.scope scope [x] fs=true)(b:Blk):PG (X.blk scope ([x]++around X.N fs) b) (.Name x px) (Bz 0):=
 Bj (De hok).nd rfl (.inl (Hv ((De hok).own x (by simp)))) (.inr (Hv ((De hok).own x (by simp))))
theorem Kf(x:Str)(fs:List Nat)(hc:X.calm=true)(hok:Cw X.N X.env.scope scope [x] fs=true)(hi:PI X (.Name x px) iter wi)(he:∀b,PE (X.blk scope ([x]++around X.N fs) b) elt (te b))
 (hs:∀x,foldedSetIterable iter X.env x=pure x:=by intro _;rfl):PE X (.ListComp elt [⟨.Name x px,iter,[],0⟩] scope pos) (Tz wi fs te):=
 Mi (xs:=[x]) (g:=fun _=>Bz 0) (tt:=fun _=>G9) hc hok hi (U0 hok) (fun _=>P9) he hs
theorem Ql{y:Str}{py:Pos}{i:Nat}{spos:Pos}(x:Str)(fs:List Nat)(hN:X.N.Nodup)(hy:X.N[i]?=some y)(hyl:X.env.kindOf y=some .local)(hc:X.calm=true)(hok:Cw X.N X.env.scope scope [x] fs=true)(hi:PI X (.Name x px) iter wi)(he:∀b,PE (X.blk scope ([x]++around X.N fs) b) elt (te b))
 (hsw:swapsWith (.ListComp elt [⟨.Name x px,iter,[],0⟩] scope pos) (some (.Name y py)) spos.line X.env=pure true:=by rfl)
 (hs:∀x,foldedSetIterable iter X.env x=pure x:=by intro _;rfl):PS X (.Assign [.Name y py] (.ListComp elt [⟨.Name x px,iter,[],0⟩] scope pos) spos) (Yo (Tz wi fs te) (Bz i)):=
 J4i (xs:=[x]) (g:=fun _=>Bz 0) (tt:=fun _=>G9) hN hy hyl hc hok hi (U0 hok) (fun _=>P9) he hsw hs
end
theorem J6f{x:Option V}{r:St}:J7t (none::r) (x::r):=fun i v e=>by
 cases i with
 | zero=>cases e
 | succ i=>exact e
section
variable {K:PySem.W.Frag} {tail:St} {te:Blk→TE} {Q:VK} {H1:Hp}
def Qm(D:Addr)(n i:Nat)(ys:List V)(Pv:Nat→List V→Hp→Prop):VK:=fun y H4=>H4 D=some (.lst ys)∧ys.length < sizeLine∧∃m',m' < n - i∧(m'=n - (i+1)∧i+1≤n∧Pv (i+1) (ys++[y]) (upd H4 D (.lst (ys++[y]))))
theorem Ga{D:Addr}{n i:Nat}{ys:List V}{Pv:Nat→List V→Hp→Prop}{y:V}{H4:Hp}(h1:H4 D=some (.lst ys))(h2:ys.length < sizeLine)(h3:i < n)(h4:Pv (i+1) (ys++[y]) (upd H4 D (.lst (ys++[y])))):Qm D n i ys Pv y H4:=
 ⟨h1,h2,n - (i+1),by omega,rfl,h3,h4⟩
theorem Kg{J:It}(n:Nat)
 (h:∀(b:Blk) (D:Addr),H1 D=none→∃Pv:Nat→List V→Hp→Prop,Pv 0 [] (upd H1 D (.lst []))∧(∀i ys H,Pv i ys H→H D=some (.lst ys))∧(∀ys H,Pv n ys H→J.stop n H∧Q (.ref D) H)∧
  ∀i ys H,i < n→Pv i ys H→J.go i H∧∀x H3,J.yld i H x H3→te b (some x::tail) H3 (Qm D n i ys Pv)):Br (none::tail) (fun _=>Bz 0) (fun _=>G9) te Q J H1:=by
 intro b D hD;obtain ⟨Pv,p0,p1,p2,p3⟩:=h b D hD;refine ⟨fun i m ys H=>m=n - i∧i≤n∧Pv i ys H,⟨n,rfl,FB _,p0⟩,?_⟩;rintro i m ys H ⟨rfl,hi,p⟩;refine ⟨p1 i ys H p,?_⟩
 by_cases hlt:i < n
 · obtain ⟨go,st⟩:=p3 i ys H hlt p
   refine .inr ⟨go,fun x H3 y=>⟨J6f,?_⟩⟩;exact st x H3 y
 · have e:i=n:=by omega
   subst e;exact .inl (p2 ys H p)
theorem C6{D:Addr}{o:HO}(h:H1 D=none):A7 H1 (upd H1 D o):=fun b u e=>by rw [A3 (A8 e h)];exact e
theorem U1{z:Str}(f:Nat→V)(hz:z.cps.size≤sizeLine)(he:∀b c H Q',c∈z.cps.toList→A7 H1 H→Q' (f c) H→te b (some (.str ⟨#[c]⟩)::tail) H Q')
 (q:∀D,H1 D=none→Q (.ref D) (upd H1 D (.lst (z.cps.toList.map f)))):Br (none::tail) (fun _=>Bz 0) (fun _=>G9) te Q (Its z) H1:=by
 refine Kg z.cps.size (fun b D hD=>⟨fun i ys H=>i≤z.cps.size∧ys=(z.cps.toList.take i).map f∧H=upd H1 D (.lst ys),⟨FB _,rfl,rfl⟩,?_,?_,?_⟩)
 · rintro i ys H ⟨hi,rfl,rfl⟩
   exact A1
 · rintro ys H ⟨_,rfl,rfl⟩
   refine ⟨Fg _,?_⟩;have e:z.cps.toList.take z.cps.size=z.cps.toList:=Rk (by simp);rw [e];exact q D hD
 · rintro i ys H hi ⟨_,rfl,rfl⟩
   refine ⟨hi,fun x H3 ⟨e3,c,hc,ex⟩=>?_⟩;subst e3 ex
   have hc':z.cps.toList[i]?=some c:=by simpa using hc
   refine he b c _ _ (Ff hc') (C6 hD) (Ga A1 (by rw [Fa,Hm,FE];omega) hi ⟨hi,?_,?_⟩)
   · rw [FQ,hc'];simp
   · funext a;by_cases ha:a=D <;> simp [upd,ha]
end
section
variable {σ:St} {H:Hp} {Q:VK} {D:G5} {K:PySem.W.Frag}
theorem Vf{wi:TI}{fs:List Nat}{te:Blk→TE}:Tz wi fs te σ H Q=wi σ H (Br (none::fs.map fun j=>σ.getD j none) (fun _=>Bz 0) (fun _=>G9) te Q):=rfl
theorem Vg{tl:TE}{R:It→Hp→Prop}:Ja0 tl σ H R=tl σ H fun x H1=>∃z,x= .str z∧R (Its z) H1:=rfl
theorem J6g{r:V→Option Int→Option Int→Hp→VK→Prop}{te:TE}{tl th:TO}:tSl r te tl th σ H Q=te σ H fun x H1=>tl σ H1 fun l H2=>th σ H2 fun u H3=>r x l u H3 Q:=rfl
theorem Ny{QO:Option Int→Hp→Prop}:Ur σ H QO=QO none H:=rfl
theorem Vh{t:TE}{QO:Option Int→Hp→Prop}:J5y t σ H QO=t σ H fun x H1=>∃i,x= .int i∧QO (some i) H1:=rfl
theorem J1g{x:V}{lo hi:Option Int}:Jb6 x lo hi H Q=∃z,x= .str z∧z.length≤sizeLine∧Q (.str (Txt.slice z lo hi)) H:=rfl
theorem J1h{x:V}{lo hi:Option Int}:J9o K x lo hi H Q=∃a xs,x= .ref a∧SqL K H a xs∧∀p,H p=none→Q (.ref p) (upd H p (.lst (Nc xs lo hi))):=rfl
theorem J6h{T:String}{r:V→List V→Hp→VK→Prop}{to:TE}{t:TA}:tBM K T r to t σ H Q=to σ H fun x H1=>tyV K T x H1∧t σ H1 fun xs H2=>r x xs H2 Q:=rfl
theorem J1i{T:String}{r:V→List V→Hp→VK→Prop}{to:TE}:J9p K T r to σ H Q=to σ H fun x H1=>tyV K T x H1∧r x [] H1 Q:=rfl
theorem Vi{z:Str}:tyV K "str" (.str z) H=True:=eq_true rfl
theorem Vj{x:V}{vs:List V}:J6c K x vs H Q=∃z p ys,x= .str z∧vs=[.ref p]∧SqL K H p (ys.map V.str)∧(ys.map (·.length)).sum+ys.length * z.length≤16777216∧Q (.str (Txt.join z ys)) H:=rfl
theorem Vk{x:V}{vs:List V}:Ja1 x vs H Q=∃z y,x= .str z∧vs=[.str y]∧Q (.int (Txt.find z y)) H:=rfl
theorem Qn{x:V}{vs:List V}:J1d x vs H Q=∃z y,x= .str z∧vs=[.str y]∧(y.length==0)=false∧z.length+2≤sizeLine∧∀p,H p=none→Q (.ref p) (upd H p (.lst ((Txt.split z y).map V.str))):=rfl
theorem J1j{xs:List V}:Ja3 K xs H Q=∃(p:Addr) (bs:List Bool),xs=[.ref p]∧SqL K H p (bs.map V.bl)∧Q (.bl (bs.all id)) H:=rfl
theorem Vl{x y:V}:Ja2 x y H Q=∃z n,x= .str z∧y= .int n∧MulOk z n∧Q (.str (Txt.mul z n)) H:=rfl
theorem Vm{acc:Str}{QS:Str→Hp→Prop}:Ja4 acc σ H QS=QS acc H:=rfl
theorem Qo{te:TE}{tr:TJ}{acc:Str}{QS:Str→Hp→Prop}:J6d te tr acc σ H QS=te σ H fun x H1=>∃y,x= .str y∧(acc++y).length≤sizeLine∧tr (acc++y) σ H1 QS:=rfl
theorem Vn{t:TJ}:J6e t σ H Q=t Str.empty σ H fun out H1=>out.length≤sizeLine∧Q (.str out) H1:=rfl
theorem Vo{te:TE}:Ja6 te σ H Q=te σ H fun x H1=>∃z,x= .str z∧(PySem.reprText z).length≤sizeLine∧Q (.str (PySem.reprText z)) H1:=rfl
theorem J1k{te:TE}:Ja5 te σ H Q=te σ H fun x H1=>(∃z,x= .str z∧z.length≤sizeLine∧Q (.str z) H1)∨∃i,x= .int i∧i.natAbs.log2 < 1920∧Q (.str (toString i)) H1:=rfl
theorem Qp:J0c σ H Q=∀p,H p=none→Q (.ref p) (upd H p (.dK [])):=rfl
theorem U2{z:Str}{i:Int}{c:Nat}(hz:z.length≤sizeLine)(e:atI z.cps.toList i=some c)(q:Q (.str ⟨#[c]⟩) H):J9n (.str z) (.int i) H Q:=⟨z,i,c,rfl,rfl,hz,e,q⟩
theorem J6i{X:Cx}{scope:Scope}{N':List Str}{b:Blk}:(X.blk scope N' b).K=X.K:=rfl
end
section
variable {X:Cx} {x:Str} {pos:Pos}
theorem Ej{i:Int}(hg:Gl X x)(hm:∃t,X.mg x=some (.int i t))(hd:(x==("__debug__":Str))=false:=by decide):PE X (.Name x pos) (tC (.int i)):=by
 obtain ⟨t,hm⟩:=hm;exact Cu hg hm ⟨t,rfl⟩ hd
theorem Lu{z:Str}(hg:Gl X x)(hm:∃t,X.mg x=some (.str z t))(hd:(x==("__debug__":Str))=false:=by decide):PE X (.Name x pos) (tC (.str z)):=by
 obtain ⟨t,hm⟩:=hm;exact Cu hg hm ⟨t,rfl⟩ hd
end
theorem Bl:sizeLine=16777216:=by decide
theorem Aw{a b:Str}:(a++b).length=a.length+b.length:=strLen_append a b
theorem Vp{c:Nat}:(⟨#[c]⟩:Str).length=1:=rfl
theorem Bm{z:Str}:z.cps.toList.length=z.length:=by simp [Str.length]
theorem E8{a b:Str}:(a++b).cps.toList=a.cps.toList++b.cps.toList:=by
 show (a.cps++b.cps).toList=_;simp
theorem Xy{K:PySem.W.Frag}{H:Hp}{a:Addr}{ns:List Int}{R:List Int→Prop}(h:SqL K H a (ns.map V.int))(hl:ns.length≤63)(q:R ns):∃x:List Int,SqL K H a (x.map V.int)∧x.length≤63∧R x:=⟨ns,h,hl,q⟩
def J1l(z y:Str):Bool:=!(Builtin.Str.occurrences z y 0 z.length 1).isEmpty
theorem Qq{z:Str}{c:Nat}:J1l z ⟨#[c]⟩=decide (c∈z.cps.toList):=StrLaws.found_one z c
def Ja7:R2:=fun x y H Q=>∃i j,x= .str i∧y= .str j∧Q (.bl (J1l j i)) H
def J4j:R2:=fun x y H Q=>∃i j,x= .str i∧y= .str j∧Q (.bl (!J1l j i)) H
theorem J1m{X:Cx}:OpR X (compareOp .In) Ja7:=Xj
theorem J1n{x y:V}{H:Hp}{Q:VK}:Ja7 x y H Q=∃i j,x= .str i∧y= .str j∧Q (.bl (J1l j i)) H:=rfl
theorem Nz{x y:V}{H:Hp}{Q:VK}:J4j x y H Q=∃i j,x= .str i∧y= .str j∧Q (.bl (!J1l j i)) H:=rfl
theorem Ja8{α:Type}{c:α}{r:List α}:atI (c::r) 0=some c:=Mh (by decide) rfl
end L2
namespace L2
def Gb(xs ys:List V):Bool:=match xs,ys with
 | [],[]=>true
 | x::xs,y::ys=>eqV x y && Gb xs ys
 | _,_=>false
theorem Iz:∀{xs ys:List V},xs.length≠ys.length→Gb xs ys=false
 | [],[],h=>absurd rfl h
 | [],_::_,_=>rfl
 | _::_,[],_=>rfl
 | x::xs,y::ys,h=>by
  unfold Gb;rw [Iz (fun e=>h (by simp [e])),Bool.and_false]
theorem K0:∀{xs ys:List V},xs.length=ys.length→Gb xs ys=(List.range xs.length).all fun i=>eqV (xs.getD i .non) (ys.getD i .non)
 | [],[],_=>rfl
 | [],_::_,h=>by cases h
 | _::_,[],h=>by cases h
 | x::xs,y::ys,h=>by
  unfold Gb;rw [K0 (by simpa using h),List.length_cons,List.range_succ_eq_map,List.all_cons,List.all_map];rfl
theorem Vq{x y:Str}:eqV (.str x) (.str y)=decide (x=y):=rfl
theorem Ll:∀{xs ys:List Str},Gb (xs.map V.str) (ys.map V.str)=decide (xs=ys)
 | [],[]=>rfl
 | [],_::_=>rfl
 | _::_,[]=>rfl
 | x::xs,y::ys=>by
  show (eqV (.str x) (.str y) && Gb (xs.map V.str) (ys.map V.str))=_;rw [Ll,Vq]
  by_cases h:x=y
  · subst h;simp
  · simp [h]
def EqQ(K:PySem.W.Frag)(H:Hp)(x y:V)(r:Bool):Prop:=∃a b xs ys,x= .ref a∧y= .ref b∧((SqL K H a xs∧SqL K H b ys)∨(SqT K H a xs∧SqT K H b ys))∧xs.all Co=true∧ys.all Co=true∧r=Gb xs ys
section
variable {X:Cx} {pins:List (Addr×Obj)} {σ:St} {H:Hp} {s:Shared}
theorem Ml{xs ys:List V}{us ws:List Value}{A:Around}(rx:Ao xs us)(ry:Ao ys ws)(fx:xs.all Co=true)(fy:ys.all Co=true):
 ∀j (h1:j < us.toArray.size) (h2:j < ws.toArray.size),SeqAt.EqAt A s us.toArray[j] ws.toArray[j] (eqV (xs.getD j .non) (ys.getD j .non)):=by
 intro j h1 h2;have lx:=rx.length;have ly:=ry.length;rw [Fn]at h1 h2
 have hx:j < xs.length:=by omega
 have hy:j < ys.length:=by omega
 obtain ⟨u,hu,ru⟩:=rx.get (i:=j) (x:=xs[j]) (by simp [hx]);obtain ⟨w,hw,rw'⟩:=ry.get (i:=j) (x:=ys[j]) (by simp [hy])
 have eu:us.toArray[j]=u:=by
  have:=Fb h1;rw [this]at hu
  simpa using hu
 have ew:ws.toArray[j]=w:=by
  have:=Fb h2;rw [this]at hw
  simpa using hw
 rw [eu,ew,Fc,Fc,Fb hx,Fb hy];exact J05 ru rw' (FU.mp fx _ (Hn hx)) (FU.mp fy _ (Hn hy))
theorem J7v{x y:V}{u v:Value}{r:Bool}{A:Around}(I:Inv X pins σ H s)(rx:An x u)(ry:An y v)(h:EqQ X.K H x y r)(hu:A.units < cLine):SeqAt.RcAt A s u v r:=by
 obtain ⟨a,b,xs,ys,rfl,rfl,hq,fx,fy,rfl⟩:=h;cases rx;cases ry;rcases hq with ⟨h1,h2⟩ | ⟨h1,h2⟩
 · obtain ⟨us,r1,p1,z1⟩:=I.list h1
   obtain ⟨ws,r2,p2,z2⟩:=I.list h2;have lx:=r1.length;have ly:=r2.length
   by_cases hl:xs.length=ys.length
   · rw [K0 hl]
     have:=SeqAt.RcAt.lists p1.isList p2.isList (by simp;omega) hu (Ml r1 r2 fx fy);rw [Fn,← lx]at this;exact this
   · rw [Iz hl]
     exact SeqAt.RcAt.lists_lengths p1.isList p2.isList (by simp;omega) hu
 · obtain ⟨us,r1,p1,z1⟩:=I.tuple h1
   obtain ⟨ws,r2,p2,z2⟩:=I.tuple h2;have lx:=r1.length;have ly:=r2.length;have:=SeqAt.RcAt.tuples (show s.heap.IsTuple a us.toArray from p1) (show s.heap.IsTuple b ws.toArray from p2) hu (Ml r1 r2 fx fy);rw [Fn,Fn,← lx,← ly]at this
   by_cases hl:xs.length=ys.length
   · rw [K0 hl]
     rw [hl,Nat.min_self,beq_self_eq_true,Bool.and_true]at this;rw [hl];exact this
   · rw [Iz hl]
     rw [Hh.mpr hl,Bool.and_false]at this;exact this
def Ja9(K:PySem.W.Frag):R2:=fun x y H Q=>∃r,EqQ K H x y r∧Q (.bl r) H
def Jb7(K:PySem.W.Frag):R2:=fun x y H Q=>∃r,EqQ K H x y r∧Q (.bl (!r)) H
theorem J1o{k:Nat}(hr:Bh k X.A):OpR X (compareOp .Eq) (Ja9 X.K):=by
 intro pins s σ H x y v u Q I rx ry h;obtain ⟨r,e,q⟩:=h;exact J7v I rx ry e (HJ (by omega) hr.un) X.prog X.w X.xe _ ⟨.bl r,H,I,rfl,q⟩
end
section
variable {K:PySem.W.Frag} {H:Hp} {Q:VK} {x y:V}
theorem J1p:Ja9 K x y H Q=∃r,EqQ K H x y r∧Q (.bl r) H:=rfl
theorem J1q:Jb7 K x y H Q=∃r,EqQ K H x y r∧Q (.bl (!r)) H:=rfl
theorem Kh{xs:List Str}:(xs.map V.str).all Co=true:=by
 rw [List.all_map];exact FU.mpr fun _ _=>rfl
end
end L2
namespace L2
structure Ck(P:Program)(w:World)(K:PySem.W.Frag)(mg:Str→Option Value)(base:Heap)(CX:CXT)(k:Nat)(C:Addr)(m:Str)(ps:List Str)(sp:Sp):Prop where
 ex:∃(f:Addr) (fd:FuncData),Al P w K mg base CX k f fd ps sp∧Xo K C m f∧C0 K fd ps []
structure Pb(P:Program)(w:World)(K:PySem.W.Frag)(mg:Str→Option Value)(base:Heap)(CX:CXT)(k:Nat)(x:Str)(C:Addr)(ps:List Str)(sp:Sp):Prop where
 ex:∃(f:Addr) (fd:FuncData),Al P w K mg base CX k f fd ps sp∧Mk K C f∧mg x=some (.ref C)∧C0 K fd ps []
def U3(C:Addr)(m:Str)(sp:Sp)(EE:St→XK)(ta:TE)(t:TA):TE:=fun σ H Q=>ta σ H fun x H1=>∃a dx fs,x= .ref a∧H1 a=some (.ins C dx fs)∧fs.lookup m=none∧t σ H1 fun vs H2=>sp (x::vs) H2 Q (EE σ)
def U4(C:Addr)(sp:Sp)(EE:St→XK)(t:TA):TE:=fun σ H Q=>t σ H fun vs H1=>∀x dx,H1 x=none→H1 dx=none→dx≠x→sp (.ref x::vs) (upd (upd H1 dx (.own x)) x (.ins C dx [])) (fun v H2=>v= .non∧Q (.ref x) H2) (EE σ)
section
variable {X:Cx} {CX:CXT} {k j:Nat} {f C:Addr} {fd:FuncData} {ps:List Str} {sp:Sp} {EE:St→XK} {E:XK} {x m:Str} {p pos apos:Pos} {e o:Expr} {es:List Expr} {ta:TE} {t:TA}
theorem As(h:Iy CX X E):Ds CX X fun _=>E:=fun pins σ H s e s' I hc=>h pins σ H s e s' I hc
theorem Lv{pins:List (Addr×Obj)}{σ:St}{H:Hp}{s:Shared}{Q:VK}{us:List Value}{vs:List V}(F:Al X.prog X.w X.K X.mg X.base CX k f fd ps sp)(hr:Bh k X.A)(hb:C0 X.K fd ps [])(hx:Ds CX X EE)
 (I:Inv X pins σ H s) (r:Ao vs us) (h:sp vs H Q (EE σ)):wpAny (model X.prog X.w) X.A (call (.ref f) us) (EP X pins σ Q) X.xe s:=by
 have hl:us.length=ps.length:=by rw [← r.length];exact F.len _ _ _ _ h
 have hb':=hb s us I.kIn (by simpa using hl);rw [FJ]at hb';refine HY (HI (F.run X.A X.stack s H ⟨us,[]⟩ us vs Q (EE σ) hr I.env0 hb' r h) fun r s' hq=>?_)
 cases r with
 | error e=>exact hx pins σ H s e s' I hq
 | ok fl=>
  cases fl with
  | ret u=>exact I.after hq
  | next=>exact False.elim hq
  | brk=>exact False.elim hq
  | cont=>exact False.elim hq
theorem Am{pl:Sem Bool}(D:Ck X.prog X.w X.K X.mg X.base CX j C m ps sp)(c:Cls X.K C)(hr:Bh k X.A)(hx:Ds CX X EE)(he:PE X o ta)(ha:PA X (e::es) t)(hj:j≤k:=by decide)
 (hst:starEach (e::es) X.env=(false,eval e X.env)::starEach es X.env:=by rfl) (hpl:(backTo pos (starEach es X.env)).any (·.1)=false:=by rfl)
 (ht:eval (.Call (.Attribute o m apos) (e::es) [] pos) X.env=(do
  let ov ← eval o X.env
  standAt apos.atName
  let (f,first) ← holding [ov] (getMethod ov m pl)
  callWith pos f first (backTo pos (starEach (e::es) X.env)) (backToKw pos (keywordEach [] X.env))):=by rfl):
 PE X (.Call (.Attribute o m apos) (e::es) [] pos) (U3 C m sp EE ta t):=by
 obtain ⟨f,fd,F,hm,hb⟩:=D.ex;intro pins s σ H Q I h;refine HX (pl:=pl) (thn (he pins s σ H _ I h) fun u s1 hq_=>?_) ht;obtain ⟨x,H1,I1,rx,a,dx,fs,ex,ea,l,q⟩:=hq_;subst ex;obtain rfl:u=Value.ref a:=rx;refine Iv I1 ea c hm l ?_;refine Hg (first:=[.ref a]) (h₀:=X.base) I.ok.mod.kin hm.kp (thn (ha pos pins s1 σ H1 _ I1 q) fun us s2 ⟨vs,H2,I2,r,q2⟩=>⟨I2.kIn,?_⟩) hst hpl;exact Lv (us:= .ref a::us) (vs:= .ref a::vs) (F.mono hj) hr hb hx I2 (.cons rfl r) q2
theorem Df{pl:Sem Bool}(D:Ck X.prog X.w X.K X.mg X.base CX j C m ps sp)(c:Cls X.K C)(hr:Bh k X.A)(hx:Ds CX X EE)(he:PE X o ta)(hj:j≤k:=by decide)
 (ht:eval (.Call (.Attribute o m apos) [] [] pos) X.env=(do
  let ov ← eval o X.env
  standAt apos.atName
  let (f,first) ← holding [ov] (getMethod ov m pl)
  callWith pos f first (backTo pos (starEach [] X.env)) (backToKw pos (keywordEach [] X.env))):=by rfl):
 PE X (.Call (.Attribute o m apos) [] [] pos) (U3 C m sp EE ta J43):=by
 obtain ⟨f,fd,F,hm,hb⟩:=D.ex;intro pins s σ H Q I h;refine HX (pl:=pl) (thn (he pins s σ H _ I h) fun u s1 hq_=>?_) ht;obtain ⟨x,H1,I1,rx,a,dx,fs,ex,ea,l,q⟩:=hq_;subst ex;obtain rfl:u=Value.ref a:=rx;refine Iv I1 ea c hm l ?_;exact PySem.W.callWith_K0 (first:=[.ref a]) I1.kIn hm.kp (Lv (us:=[.ref a]) (vs:=[.ref a]) (F.mono hj) hr hb hx I1 (.cons rfl .nil) q)
theorem E9(D:Pb X.prog X.w X.K X.mg X.base CX j x C ps sp)(hr:Bh k X.A)(hg:Gl X x)(hx:Ds CX X EE)(ha:PA X (e::es) t)(hj:j+1≤k:=by decide)(hdb:(x==("__debug__":Str))=false:=by decide)
 (he:starEach (e::es) X.env=(false,eval e X.env)::starEach es X.env:=by rfl) (hpl:(backTo pos (starEach es X.env)).any (·.1)=false:=by rfl):
 PE X (.Call (.Name x p) (e::es) [] pos) (U4 C sp EE t):=by
 obtain ⟨f,fd,F,M,hm,hb⟩:=D.ex;intro pins s0 σ H0 Q I0 h;refine FZ (K4 I0 hg hm ?_ hdb);refine Hg (h₀:=X.base) I0.ok.mod.kin M.kp (thn (ha pos pins s0 σ H0 _ I0 h) fun us s ⟨vs,H,I,r,q⟩=>⟨I.kIn,?_⟩) he hpl;have hq:=q (s.heap.objs.size+1) s.heap.objs.size (I.hok.fresh (R1 _)) (I.hok.fresh (Fg _)) (Fo (HE _));have I2:=Inv.made (C:=C) I;have r2:Ao (V.ref (s.heap.objs.size+1)::vs) (Value.ref (s.heap.objs.size+1)::us):= .cons rfl r
 have hl:(Value.ref (s.heap.objs.size+1)::us).length=ps.length:=by
  rw [← r2.length];exact F.len _ _ _ _ hq
 have hb':=fun s' (h':X.K.In s'.heap)=>hb s' (Value.ref (s.heap.objs.size+1)::us) h' (by simpa using hl);have hr':Bh (j+1) X.A:=hr.mono hj
 refine HY (Q4 (f:=f) I.kIn M.makes M.init (HN.mp M.fn) (HI (F.run _ X.stack _ _ ⟨Value.ref (s.heap.objs.size+1)::us,[]⟩ (Value.ref (s.heap.objs.size+1)::us) _ _ (EE σ) (hr'.make C us [])
  (I2.env0.make C us []) (by have:=hb' _ I2.kIn;rw [FJ]at this;exact this) r2 hq) fun r s' hq'=>?_))
 cases r with
 | error e=>exact hx pins σ _ _ e s' I2 hq'
 | ok fl=>
  cases fl with
  | ret u=>
   obtain ⟨v,H',I3,rv,ev,q3⟩:=I2.after hq';subst ev;exact ⟨rv,⟨V.ref (s.heap.objs.size+1),H',I3,rfl,q3⟩⟩
  | next=>exact False.elim hq'
  | brk=>exact False.elim hq'
  | cont=>exact False.elim hq'
end
section
variable {σ:St} {H:Hp} {Q:VK} {D:G5} {K:PySem.W.Frag}
theorem Qr{C:Addr}{m:Str}{sp:Sp}{EE:St→XK}{ta:TE}{t:TA}:U3 C m sp EE ta t σ H Q=ta σ H fun x H1=>∃a dx fs,x= .ref a∧H1 a=some (.ins C dx fs)∧fs.lookup m=none∧t σ H1 fun vs H2=>sp (x::vs) H2 Q (EE σ):=rfl
theorem Qs{C:Addr}{sp:Sp}{EE:St→XK}{t:TA}:U4 C sp EE t σ H Q=t σ H fun vs H1=>∀x dx,H1 x=none→H1 dx=none→dx≠x→sp (.ref x::vs) (upd (upd H1 dx (.own x)) x (.ins C dx [])) (fun v H2=>v= .non∧Q (.ref x) H2) (EE σ):=rfl
theorem J1r{ta:TE}{f:Str}:J9f K ta f σ H Q=ta σ H fun x H1=>∃a C dx fs v,x= .ref a∧H1 a=some (.ins C dx fs)∧Cls K C∧Ap K C f∧fs.lookup f=some v∧Q v H1:=rfl
theorem Vr{ta tv:TE}{f:Str}:J9g K ta tv f D σ H=tv σ H fun y H1=>ta σ H1 fun x H2=>∃a C dx fs,x= .ref a∧H2 a=some (.ins C dx fs)∧Cls K C∧Ap K C f∧fs.length < 1000∧D.nx σ (upd H2 a (.ins C dx (B3 f y fs))):=rfl
theorem J1s{ty td:TE}:J9u ty td σ H Q=ty σ H fun y H1=>td σ H1 fun x H2=>∃a o,x= .ref a∧D0 H2 a y o∧Q (.bl o.isSome) H2:=rfl
theorem O0{ty td:TE}:Uv ty td σ H Q=ty σ H fun y H1=>td σ H1 fun x H2=>∃a o,x= .ref a∧D0 H2 a y o∧Q (.bl (!o.isSome)) H2:=rfl
theorem Vs{td ty:TE}:J62 td ty σ H Q=td σ H fun x H1=>ty σ H1 fun y H2=>∃a v,x= .ref a∧D0 H2 a y (some v)∧Q v H2:=rfl
theorem Vt{td ty tv:TE}:J63 td ty tv D σ H=tv σ H fun v H1=>td σ H1 fun x H2=>ty σ H2 fun y H3=>∃a H4,x= .ref a∧Mg H3 a y v H4∧D.nx σ H4:=rfl
theorem Vu{n:Nat}{t:TGs}{v:V}{N:St→Hp→Prop}:J40 K n t v σ H N=∃a xs,v= .ref a∧SqT K H a xs∧xs.length=n∧t xs σ H N:=rfl
end
theorem J7w{a b:Str}{n:Nat}(h1:a.length≤n / 2)(h2:b.length≤n / 2):(a++b).length≤n:=by
 rw [Aw];omega
end L2
namespace L2
open Sem (wp)
section
variable {Pg:Program} {w:World} {A:Around} {E:Value→Shared→Prop} {h:Heap} {g:Array GenState} {d:Drawn} {t:Nat} {os:OsState}
variable {nm q:Str} {C N:Addr} {bs bm bmB:List Value} {hd:Bool} {sn:List Str} {su:List Value} {ab:Bool} {co:Option Bool} {dd:Option Addr} {k0 k1 k2 k3 k5:Option Value} {B nw ni:String}
abbrev J4k(h:Heap)(C:Addr):Obj:={cls:= .ref C,data:= .fields #[.ref h.objs.size,.none,.none,.none,.bool false,.none]}
abbrev J4l(h:Heap)(C:Addr)(rest:List Value):Heap:=(h.push {cls:= .type "tuple",data:= .seq rest.toArray}).push (J4k h C)
theorem J1t{rest:List Value}:∀b o,h.get? b=some o→(J4l h C rest).get? b=some o:=fun _ _ e=>Fd _ (Fd _ e)
end
def exO(n:Bool)(x C:Addr)(od:Option Addr):HO:= .ext fun h=>∃vs sl,h.get? x=some ⟨.ref C,od,.fields vs,sl⟩∧(n=true→∃t,vs=#[.ref t,.none,.none,.none,.bool false,.none])
end L2
namespace L2
open Sem (wp)
def pI(C:Addr)(H₀:Hp)(EE:St→XK):St→Addr→Hp→Prop:=fun σ x H2=>∃od,H2 x=some (exO true x C od)∧H₀ x=none∧EE σ (.ref C) (some x) (upd H2 x (exO false x C od))
end L2
namespace L2
theorem Jaa{P:Program}{w:World}{k:Key}{u:Value}(h:(B7 P w).is k u=true):An (kV k) u:=by
 cases k with
 | inl i=>
  cases u <;> first | (exact absurd h (by intro z;cases z)) | skip
  rename_i j t
  have e:j=i:=by simpa [B7,Lh,Value.isInt] using h
  exact ⟨t,by rw [e]⟩
 | inr x=>
  cases u <;> first | (exact absurd h (by intro z;cases z)) | skip
  rename_i j t
  have e:j=x:=by simpa [B7,Lh,Value.isStrOf] using h
  exact ⟨t,by rw [e]⟩
theorem Vv:∀{xs:List V} {us:List Value},xs.length=us.length→(∀(j:Nat) (u:Value),us[j]?=some u→∃x,xs[j]?=some x∧An x u)→Ao xs us
 | [],[],_,_=> .nil
 | x::xs,u::us,hl,h=>by
  obtain ⟨y,e,r⟩:=h 0 u rfl;cases e;exact .cons r (Vv (by simpa using hl) fun j v e=>h (j+1) v e)
theorem K1{α β:Type}{F:α→β→Prop}:∀{l:List α} {m:List β},Paired F l m→∀{i:Nat} {b:β},m[i]?=some b→∃a,l[i]?=some a∧F a b
 | _,_,.cons r t,0,b,e=>by cases e;exact ⟨_,rfl,r⟩
 | _,_,.cons r t,i+1,b,e=>K1 t (i:=i) e
def Mm(v d:Addr):HO:= .ext fun h=>h.IsValuesView v d
theorem Xz:∀(is:List Int),preSum (fun i=>is.getD i 0) is.length=is.sum:=by
 intro is
 have key:∀n,n≤is.length→preSum (fun i=>is.getD i 0) n=(is.take n).sum:=by
  intro n
  induction n with
  | zero=>intro _;rfl
  | succ n ih=>
   intro h
   have e:is.take (n+1)=is.take n++[is.getD n 0]:=by
    rw [FQ,Fc,Fb (by omega)];rfl
   rw [preSum,ih (by omega),e,Rn];simp
 have:=key is.length (Fg _)
 rwa [Hl]at this
def J1u:List V→Hp→VK→Prop:=fun xs H Q=>∃a kvs,xs=[.ref a]∧H a=some (.dK kvs)∧∀l,H l=none→Q (.ref l) (upd H l (.lst (kvs.map fun p=>kV p.1)))
def Vw:V→List V→Hp→VK→Prop:=fun x vs H Q=>∃a kvs,x= .ref a∧vs=[]∧H a=some (.dK kvs)∧∀v,H v=none→Q (.ref v) (upd H v (Mm v a))
def J6j:List V→Hp→VK→Prop:=fun xs H Q=>∃(v d:Addr) (kvs:List (Key×V)) (is:List Int),xs=[.ref v]∧H v=some (Mm v d)∧H d=some (.dK kvs)∧kvs.map (·.2)=is.map V.int∧Q (.int is.sum) H
def J4m:V→List V→Hp→VK→Prop:=fun x vs H Q=>∃(l:Addr) (ys:List Str) (z:Str),x= .ref l∧vs=[.str z]∧H l=some (.lst (ys.map V.str))∧z∈ys∧Q .non (upd H l (.lst ((ys.erase z).map V.str)))
section
variable {X:Cx}
theorem Mn(hc:X.calm=true):D7 X (.type "list") J1u:=by
 intro pins s σ H xs us Q I r h;obtain ⟨a,kvs,rfl,ha,q⟩:=h;obtain ⟨u,rfl,rx⟩:=Do r;cases rx;obtain ⟨z,lo,ws,rel,ob,es,ep,e1,e2⟩:=I.hok a _ ha
 have dat:s.heap.DictAt (B7 X.prog X.w) a ws ep:=⟨ob,es,e1,e2⟩
 refine PySem.W.kdl_call (PySem.W.kdl_dict (knd:=B7 X.prog X.w) (kvs:=ws) (ep:=ep) lo) (I.ok.hd hc) dat (by rw [← rel.length];exact z) fun h' tk acc c' kp e hi=>?_
 have hv:Ao (kvs.map fun p=>kV p.1) acc.toList:=by
  have h1:=hi.1;have h2:=rel.length;refine Vv (by rw [Fa];exact h2.trans (h1.symm.trans (FE (xs:=acc)).symm)) fun j u ej=>?_;obtain ⟨k,x,ek,hk⟩:=hi.2 j u (by rw [← Array.getElem?_toList];exact ej);obtain ⟨p,ep',hp⟩:=K1 rel ek;exact ⟨kV p.1,by rw [Fe,ep'];rfl,by rw [hp.1];exact Jaa hk⟩
 refine ⟨.ref s.heap.objs.size,_,I.laid (t':=tk) kp (Fg _) (show Bd X.prog X.w _ h' _ (.lst (kvs.map fun p=>kV p.1)) from ⟨by rw [Fa];exact z,acc.toList,c',hv,?_⟩),rfl,q _ I.fresh⟩;rw [Array.toArray_toList];exact e
theorem Y0:MtM X "dict.values" Vw:=by
 intro pins s σ H x vs v us Q I rx rv h;obtain ⟨a,kvs,rfl,rfl,ha,q⟩:=h;cases rx;have hus:=rv.zero;subst hus;obtain ⟨z,lo,ws,rel,dd⟩:=I.hok a _ ha;refine RA PySem.F.slot_dict_values dd.typeIs PySem.F.entry_dict_values (PySem.F.args_dict_values_1 _) (meets_dict_values (B7 X.prog X.w) a lo) ⟨⟨ws,dd⟩,?_⟩;refine ⟨.ref s.heap.objs.size,_,I.laid (t':=s.toks) (fun b o e=>Fd _ e) (Fg _) (show Bd X.prog X.w _ _ _ (Mm s.heap.objs.size a) from ⟨⟨_,Fs _ rfl,rfl,rfl⟩,⟨_,Fs _ rfl⟩,fun h1 h2 ⟨o,e1,e2⟩ k=>⟨o,k _ e1,e2⟩⟩),rfl,q _ I.fresh⟩
theorem Y1(hc:X.calm=true):D7 X (.builtin "sum") J6j:=by
 intro pins s σ H xs us Q I r h;obtain ⟨v,d,kvs,is,rfl,hv,hd,hm,q⟩:=h;obtain ⟨u,rfl,rx⟩:=Do r;cases rx;obtain ⟨z,lo,ws,rel,ob,es,ep,e1,e2⟩:=I.hok d _ hd
 have dat:s.heap.DictAt (B7 X.prog X.w) d ws ep:=⟨ob,es,e1,e2⟩
 have hvw:s.heap.IsValuesView v d:=(I.hok v _ hv).1;have src:=PySem.W.kdl_values (prog:=X.prog) (w:=X.w) (r:=v) (d:=d) (knd:=B7 X.prog X.w) (kvs:=ws) (ep:=ep)
 have hlen:ws.length=is.length:=by
  have:=congrArg List.length hm;simp only [Fa]at this;rw [← rel.length];exact this
 refine call_sum_walkAnyS ?_;obtain ⟨oI,St,hit,W,st⟩:=src.iter X.A.in1 s (I.ok.hd hc) ⟨hvw,dat⟩;refine hit _ _ ⟨s.heap.objs.size,_,_,_,_,_,_,fun i=>is.getD i 0,rfl,W.toS,st,fun b hb=>?_,fun i u hp=>?_,fun s' t' hmv=>?_⟩
 · show b < (s.heap.push oI).objs.size
   rw [size_push'];rcases Fv.mp hb with e | hb
   · rw [e];exact HE _
   · rw [Fh.mp hb];exact R9 (Fl e1)
 · obtain ⟨k,ek⟩:=hp
   obtain ⟨p,ep',hp'⟩:=K1 rel ek
   have e3:(kvs.map (·.2))[i]?=some p.2:=by rw [Fe,ep'];rfl
   rw [hm,Fe]at e3
   cases hi:is[i]? with
   | none=>rw [hi]at e3;cases e3
   | some n=>
    rw [hi]at e3;have e4:V.int n=p.2:=FL e3;have r2:=hp'.2;rw [← e4]at r2;show ∃t,u=Value.int (is.getD i 0) t;rw [Fc,hi];exact r2
 · have hk:∀b o,s.heap.get? b=some o→s'.heap.get? b=some o:=fun b o e=>
    hmv.heap b o (fun hI=>absurd (Fl e) (by rw [Fh.mp hI];exact Hj _)) (Fd _ e)
   rw [Moved.eq_with hmv];refine ⟨.int is.sum,H,I.kept (t':=s'.toks) hk,⟨t',?_⟩,q⟩;rw [hlen,Xz]
def Jab:R2:=fun x y H Q=>∃a b,x= .bl a∧y= .bl b∧Q (.bl (!(a==b))) H
end
section
variable {σ:St} {H:Hp} {Q:VK} {xs:List V} {x y:V}
theorem Qt{td ty:TE}:J0h td ty σ H Q=td σ H fun x H1=>∃a,x= .ref a∧IsD H1 a∧ty σ H1 fun y H2=>∃kvs k v,H2 a=some (.dK kvs)∧y=kV k∧Bb kvs k=some v∧Q v (upd H2 a (.dK (Kb kvs k))):=rfl
theorem Qu{td ty tx:TE}:J0g td ty tx σ H Q=td σ H fun x H1=>∃a,x= .ref a∧IsD H1 a∧ty σ H1 fun y H2=>tx σ H2 fun z H3=>∃o,D0 H3 a y o∧Q (o.getD z) H3:=rfl
theorem Qv:J7d x xs H Q=∃l ys i k y,x= .ref l∧xs=[.int i]∧H l=some (.lst ys)∧-(2 ^ 63)≤i∧i < 2 ^ 63∧seqIndex? i ys.length=some k∧ys[k]?=some y∧Q y (upd H l (.lst (ys.eraseIdx k))):=rfl
theorem Qw:J1u xs H Q=∃a kvs,xs=[.ref a]∧H a=some (.dK kvs)∧∀l,H l=none→Q (.ref l) (upd H l (.lst (kvs.map fun p=>kV p.1))):=rfl
theorem O1:Vw x xs H Q=∃a kvs,x= .ref a∧xs=[]∧H a=some (.dK kvs)∧∀v,H v=none→Q (.ref v) (upd H v (Mm v a)):=rfl
theorem Vx:J6j xs H Q=∃(v d:Addr) (kvs:List (Key×V)) (is:List Int),xs=[.ref v]∧H v=some (Mm v d)∧H d=some (.dK kvs)∧kvs.map (·.2)=is.map V.int∧Q (.int is.sum) H:=rfl
theorem O2:J4m x xs H Q=∃(l:Addr) (ys:List Str) (z:Str),x= .ref l∧xs=[.str z]∧H l=some (.lst (ys.map V.str))∧z∈ys∧Q .non (upd H l (.lst ((ys.erase z).map V.str))):=rfl
theorem Vy:Jab x y H Q=∃a b,x= .bl a∧y= .bl b∧Q (.bl (!(a==b))) H:=rfl
end
end L2
namespace N1
open PySem L2
def B1:List Nat:=List.range' 97 26
def B8:List Nat:=List.range' 48 10
theorem Mo:(Str.ofString "abcdefghijklmnopqrstuvwxyz").cps.toList=B1:=by decide+kernel
theorem Qx:(Str.ofString "0123456789").cps.toList=B8:=by decide+kernel
theorem J4n:(Str.ofString "abcdefghijklmnopqrstuvwxyz").length=26:=by decide+kernel
theorem J4o:(Str.ofString "0123456789").length=10:=by decide+kernel
theorem Y2:(Str.ofString "abcdefghijklmnopqrstuvwxyz0123456789").cps.toList=B1++B8:=by decide+kernel
theorem Qy:(B1++B8).length=36:=by decide
theorem Vz{c:Nat}:c∈B8↔48≤c∧c < 58:=by unfold B8;rw [RD]
def L8(l:List Nat)(s:List Nat):Bool:=match l with
 | []=>false
 | c::_=>decide (c∈s)
def B9(l:List Nat):Bool:=decide (1≤l.length) && decide (l.length≤8) && L8 l B1 && l.all fun c=>decide (c∈B1++B8)
end N1
namespace N1
open PySem L2
def Qz(l:List Nat):Bool:=decide (1≤l.length) && decide (l.length≤31) && l.all (fun c=>decide (c∈B8)) && !(L8 l [48] && !decide (l=[48]))
def Y3(l:List Nat):Int:=((NumText.digitsVal l:Nat):Int)
theorem W0{l:List Nat}:(l.all fun c=>decide (c∈B8))=true↔NumText.AllDigits l:=by
 rw [FU];constructor
 · intro h c hc
   have:=h c hc;rw [decide_eq_true_eq,Vz]at this;omega
 · intro h c hc
   have:=h c hc;rw [decide_eq_true_eq,Vz];omega
theorem J4p{c:Nat}:((⟨#[c]⟩:Str)=Str.ofString "0")↔c=48:=by
 have e:Str.ofString "0"=⟨#[48]⟩:=by decide+kernel
 rw [e];simp
theorem J1v{z:Str}:(z=Str.ofString "0")↔z.cps.toList=[48]:=by
 have e:Str.ofString "0"=⟨#[48]⟩:=by decide+kernel
 rw [e];constructor
 · intro h;rw [h]
 · intro h
   have:z.cps=#[48]:=by rw [← Array.toList_inj];exact h
   cases z;simp at this;subst this;rfl
theorem J1w{z:Str}(h:(z.cps.toList.all fun c=>decide (c∈B8))=true)(h1:z.cps.toList≠[])(h2:z.length≤4300):PySem.intText? z=some (Y3 z.cps.toList):=PySem.intText_digits (W0.mp h) h1 h2
end N1
namespace N1
open PySem L2
def tx(l:List Nat):Str:=⟨l.toArray⟩
theorem L9{l:List Nat}:(tx l).cps.toList=l:=by simp [tx]
theorem Jb8{z:Str}:tx z.cps.toList=z:=by cases z;simp [tx]
theorem Jac{a b:List Nat}(h:tx a=tx b):a=b:=by rw [← L9 (l:=a),h,L9]
theorem Jad{a b:List Nat}:tx a++tx b=tx (a++b):=by
 have h:=E8 (a:=tx a) (b:=tx b);rw [L9,L9]at h;rw [← Jb8 (z:=tx a++tx b),h]
theorem J6k{l:List Nat}:(tx l).length=l.length:=by rw [← Bm,L9]
theorem Jae{c:Nat}:(⟨#[c]⟩:Str)=tx [c]:=rfl
theorem S0:(Str.ofString "abcdefghijklmnopqrstuvwxyz0123456789").length=36:=by decide+kernel
def bc(i:Int):Nat:=(B1++B8).getD i.toNat 0
theorem Jaf(i:Int){k:Int}(h0:0 < k)(h1:k≤36):atI (Str.ofString "abcdefghijklmnopqrstuvwxyz0123456789").cps.toList (i % k)=some (bc (i % k)):=by
 have h2:=FR i h0;have h3:=FY i (show k≠0 by omega);refine Mh h3 ?_
 have h4:(i % k).toNat < (B1++B8).length:=by rw [Qy];omega
 unfold bc;rw [Y2,Fc,Fb h4];rfl
end N1
namespace N1
open L2
def Lw(K:PySem.W.Frag):Sp:=fun vs H Q _=>∃(a:Addr) (ns:List Int) (k:Int),vs=[.ref a,.int k]∧SqL K H a (ns.map V.int)∧0≤k∧ns.length≤63∧Q (.int (ns.getD k.toNat 0)) H
def Lx:Sp:=fun vs H Q _=>∃(z w:Str),vs=[.str z,.str w]∧z.length≤sizeLine∧∀H',A7 H H'→Q (.bl (z.cps.toList.all fun c=>decide (c∈w.cps.toList))) H'
def Ek(K:PySem.W.Frag):Sp:=fun vs H Q _=>∃(x:V),vs=[x]∧((∃z:Str,x= .str z∧z.length≤sizeLine∧∀H',A7 H H'→Q (.bl (B9 z.cps.toList)) H')∨(Isi K H x "str" false∧Q (.bl false) H))
end N1
namespace N1
open L2
inductive StE where
 | noname | twice | nonum | many
def nOk:V→Bool
 | .str z=>B9 z.cps.toList
 | _=>false
def sOf:V→Str
 | .str z=>z
 | _=>Str.empty
def wIn(lo hi:Int):V→Bool
 | .int i=>decide (lo≤i) && decide (i≤hi)
 | _=>false
abbrev Rw:=Addr×V×V×V
def S3(ks:List Str)(n c r:V):Option StE:=if nOk n=false then some .noname else if sOf n∈ks then some .twice else if wIn 0 (10 ^ 30) c=false then some .nonum else if wIn 1 1000 r=false then some .nonum else none
def Gd(ks:List Str):List Rw→Option StE
 | []=>none
 | t::rs=>match S3 ks t.2.1 t.2.2.1 t.2.2.2 with
  | some e=>some e
  | none=>Gd (ks++[sOf t.2.1]) rs
def S4(rs:List Rw):Option StE:=if 60 < rs.length then some .many else Gd [] rs
theorem J4q{K:PySem.W.Frag}{H:Hp}{v:V}(h:Co v=true):∃b c,Isi K H v "int" b∧(b=true→Isi K H v "bool" c)∧((b && !c)=true→∃i,v= .int i)∧((b && !c)=false→∀i,v≠ .int i):=by
 cases v with
 | non=>exact ⟨false,false,J0q,fun h=>by (cases h),fun h=>by (cases h),fun _ i h=>by cases h⟩
 | bl b=>exact ⟨true,true,J0o,fun _=>J0n,fun h=>by (cases h),fun _ i h=>by cases h⟩
 | int i=>exact ⟨true,false,J0l,fun _=>J0m,fun _=>⟨i,rfl⟩,fun h=>by cases h⟩
 | str z=>exact ⟨false,false,J0p,fun h=>by (cases h),fun h=>by (cases h),fun _ i h=>by cases h⟩
 | _=>cases h
def Dt(K:PySem.W.Frag):Sp:=fun vs H Q _=>∃(x:V) (b c:Bool),vs=[x]∧Isi K H x "int" b∧(b=true→Isi K H x "bool" c)∧Q (.bl (b && !c)) H
def Gw(K:PySem.W.Frag):Sp:=fun vs H Q _=>∃(v:V) (lo hi:Int),vs=[v,.int lo,.int hi]∧Co v=true∧Q (.bl (wIn lo hi v)) H
def SameBut(p:Addr)(H H':Hp):Prop:=∀b o,H b=some o→b≠p→H' b=some o
theorem SameBut.trans{p:Addr}{H H1 H2:Hp}(h1:SameBut p H H1)(h2:SameBut p H1 H2):SameBut p H H2:=fun b o e n=>h2 b o (h1 b o e n) n
theorem SameBut.of{p:Addr}{H H1:Hp}(h:A7 H H1):SameBut p H H1:=fun b o e _=>h b o e
theorem S5{p:Addr}{H:Hp}{o:HO}:SameBut p H (upd H p o):=fun b u e n=>by rw [A3 n];exact e
abbrev Th:=Str×Int×Int
def flds(d:Addr):List (Str×V):=B3 "things" (.ref d) []
structure Af(K:PySem.W.Frag)(C:Addr)(H:Hp)(p:Addr)(ts:List Th):Prop where
 ex:∃(dx d:Addr) (kvs:List (Key×V)),H p=some (.ins C dx (flds d))∧H d=some (.dK kvs)∧kvs.map (·.1)=ts.map (fun t=>Sum.inr t.1)∧
  ∀(i:Nat) (t:Th),ts[i]?=some t→∃a,kvs[i]?=some (Sum.inr t.1,.ref a)∧SqT K H a [.int i,.int t.2.1,.int t.2.2]
theorem Af.same{K:PySem.W.Frag}{C:Addr}{H H':Hp}{p:Addr}{ts:List Th}(s:A7 H H')(h:Af K C H p ts):Af K C H' p ts:=by
 obtain ⟨dx,d,kvs,h1,h2,h3,h4⟩:=h.ex;refine ⟨dx,d,kvs,s _ _ h1,s _ _ h2,h3,fun i t e=>?_⟩;obtain ⟨a,e1,e2⟩:=h4 i t e;exact ⟨a,e1,s.tup e2⟩
def iOf:V→Int
 | .int i=>i
 | _=>0
def J4r(t:Rw):Th:=(sOf t.2.1,iOf t.2.2.1,iOf t.2.2.2)
theorem SqT.but{K:PySem.W.Frag}{H H':Hp}{p a C dx:Addr}{fs:List (Str×V)}{xs:List V}(s:SameBut p H H')(hp:H p=some (.ins C dx fs))(h:SqT K H a xs):SqT K H' a xs:=by
 rcases h with (h | ⟨o,h⟩) | h
 · exact .inl (.inl (s _ _ h (Bt h hp (by intro z;cases z))))
 · exact .inl (.inr ⟨o,s _ _ h (Bt h hp (by intro z;cases z))⟩)
 · exact .inr h
theorem SqL.but{K:PySem.W.Frag}{H H':Hp}{p a C dx:Addr}{fs:List (Str×V)}{xs:List V}(s:SameBut p H H')(hp:H p=some (.ins C dx fs))(h:SqL K H a xs):SqL K H' a xs:=by
 rcases h with (h | ⟨o,h⟩) | h
 · exact .inl (.inl (s _ _ h (Bt h hp (by intro z;cases z))))
 · exact .inl (.inr ⟨o,s _ _ h (Bt h hp (by intro z;cases z))⟩)
 · exact .inr h
theorem Ki{kvs:List (Key×V)}{ks:List Str}{z:Str}(h:kvs.map (·.1)=ks.map Sum.inr):(Bb kvs (Sum.inr z)).isSome=decide (z∈ks):=by
 have e:(Sum.inr z:Key)∈kvs.map (·.1)↔z∈ks:=by
  rw [h,Fz];constructor
  · rintro ⟨a,ha,e⟩;injection e with e;subst e;exact ha
  · intro h;exact ⟨z,h,rfl⟩
 cases hv:Bb kvs (Sum.inr z:Key) with
 | none=>rw [Fw fun q=>J0j hv (e.mpr q)];rfl
 | some v=>rw [FA (e.mp (J4a hv))];rfl
theorem Bu{d:Addr}:(flds d).lookup ("things":Str)=some (V.ref d):=by
 unfold flds;rw [B4,if_pos rfl]
theorem O3{ks:List Str}{n co r:V}(h:S3 ks n co r=none):∃z c q,n= .str z∧co= .int c∧r= .int q∧¬z∈ks∧B9 z.cps.toList=true∧0≤c∧c≤10 ^ 30∧1≤q∧q≤1000:=by
 unfold S3 at h;split at h
 · cases h
 rename_i h1;split at h
 · cases h
 rename_i h2;split at h
 · cases h
 rename_i h3;split at h
 · cases h
 rename_i h4
 cases n with
 | str z=>
  cases co with
  | int c=>
   cases r with
   | int q=>
    simp only [wIn,Bool.and_eq_false_iff,decide_eq_false_iff_not,not_or,Decidable.not_not]at h3 h4;exact ⟨z,c,q,rfl,rfl,rfl,h2,by simpa [nOk] using h1,h3.1,h3.2,h4.1,h4.2⟩
   | _=>exact absurd rfl h4
  | _=>exact absurd rfl h3
 | _=>exact absurd rfl h1
theorem S6{ks:List Str}{rs:List Rw}{i:Nat}{t:Rw}(h:rs[i]?=some t):Gd ks (rs.drop i)=match S3 ks t.2.1 t.2.2.1 t.2.2.2 with
 | some e=>some e
 | none=>Gd (ks++[sOf t.2.1]) (rs.drop (i+1)):=by
 have e:rs.drop i=t::rs.drop (i+1):=by
  obtain ⟨hi,rfl⟩:=Fi.mp h;exact List.drop_eq_getElem_cons hi
 rw [e];rfl
def Ez(rs:List Rw):List Str:=rs.map fun t=>sOf t.2.1
structure W1(K:PySem.W.Frag)(H:Hp)(d:Addr)(rs:List Rw):Prop where
 ex:∃kvs:List (Key×V),H d=some (.dK kvs)∧kvs.map (·.1)=(Ez rs).map Sum.inr∧∀(j:Nat) (t:Rw),rs[j]?=some t→∃a,kvs[j]?=some (Sum.inr (sOf t.2.1),.ref a)∧SqT K H a [.int j,.int (iOf t.2.2.1),.int (iOf t.2.2.2)]
theorem W1.snoc{K:PySem.W.Frag}{H:Hp}{d a:Addr}{rs:List Rw}{t:Rw}{kvs:List (Key×V)}{c q:Int}{z:Str}(h1:H d=some (.dK kvs))(h2:kvs.map (·.1)=(Ez rs).map Sum.inr)
 (h3:∀(j:Nat) (t:Rw),rs[j]?=some t→∃a,kvs[j]?=some (Sum.inr (sOf t.2.1),.ref a)∧SqT K H a [.int j,.int (iOf t.2.2.1),.int (iOf t.2.2.2)])
 (e1:t.2.1= .str z) (e2:t.2.2.1= .int c) (e3:t.2.2.2= .int q) (nz:¬z∈Ez rs) (ha:H a=some (.tup [.int kvs.length,.int c,.int q])):
 W1 K (upd H d (.dK (Cq kvs (Sum.inr z) (.ref a)))) d (rs++[t]):=by
 have hl:kvs.length=rs.length:=by
  have:=congrArg List.length h2
  simpa [Ez] using this
 have hv:Bb kvs (Sum.inr z:Key)=none:=by
  have:=Ki (z:=z) h2;rw [Fw nz]at this
  cases h:Bb kvs (Sum.inr z:Key) with
  | none=>rfl
  | some v=>rw [h]at this;cases this
 have J1t:∀{b:Addr} {xs:List V} {o:List (Key×V)},SqT K H b xs→SqT K (upd H d (.dK o)) b xs:=fun {b xs o} h=>by
  rcases h with (h | ⟨o',h⟩) | h
  · exact .inl (.inl (by rw [A3 (Bt h h1 (by intro z;cases z))];exact h))
  · exact .inl (.inr ⟨_,by rw [A3 (Bt h h1 (by intro z;cases z))];exact h⟩)
  · exact .inr h
 refine ⟨_,A1,?_,fun j t' hj=>?_⟩
 · rw [Kc _ hv,Fp,h2]
   simp [Ez,e1,sOf]
 · rw [Kc _ hv]
   by_cases hlt:j < rs.length
   · rw [Fy hlt]at hj
     obtain ⟨b,e,hb⟩:=h3 j t' hj;exact ⟨b,by rw [Fy (by omega)];exact e,J1t hb⟩
   · rw [FD (by omega)]at hj
     have hj0:j - rs.length=0:=by
      have:=(Fi.mp hj).1;simp at this;omega
     rw [hj0]at hj;cases hj
     have ej:j=rs.length:=by omega
     subst ej;refine ⟨a,?_,?_⟩
     · rw [← hl,FD (by omega)];simp [e1,sOf]
     · rw [e2,e3]
       refine J1t (SqT.of ?_);rw [ha,hl];rfl
end N1
namespace L2
section
variable {X:Cx} {pins:List (Addr×Obj)} {σ:St} {H:Hp} {s:Shared}
theorem Mp{c:Const}{j pos}{es:List Expr}{te:TE}{t:TA}(ha:PE X (.Constant c j pos) te)(hr:PA X es t):PA X (.Constant c j pos::es) (Yz te t):=A0 ha hr rfl
end
theorem W4{o i v:V}{H:Hp}{Q:Hp→Prop}:J5z o i v H Q=∃p xs k j,o= .ref p∧i= .int k∧H p=some (.lst xs)∧ixN xs.length k=some j∧Q (upd H p (.lst (xs.set j v))):=rfl
end L2
namespace N5
open L2 N1
def md(j:Nat):Int:=if j=0 then 26 else 36
def sgn(F:Nat→Int)(at':Int)(k j:Nat):Nat:=bc ((F j+if (j:Int)=at' then (k:Int) else 0) % md j)
def nmL(F:Nat→Int)(at':Int)(long k:Nat):List Nat:=(List.range long).map (sgn F at' k)
theorem J1x{i:Int}:bc (i % 26)∈B1:=by
 have h1:=FY i (show (26:Int)≠0 by decide);have h2:=FR i (show (0:Int) < 26 by decide);unfold bc;generalize i % 26=x at *
 have h3:x.toNat < B1.length:=by simp [B1];omega
 rw [Fc,Fy h3,Fb h3];exact Hn h3
theorem W7{i:Int}:bc (i % 36)∈B1++B8:=by
 have h1:=FY i (show (36:Int)≠0 by decide);have h2:=FR i (show (0:Int) < 36 by decide);unfold bc;generalize i % 36=x at *
 have h3:x.toNat < (B1++B8).length:=by rw [Qy];omega
 rw [Fc,Fb h3];exact Hn h3
theorem U5{x y:Int}(hx0:0≤x)(hx:x < 36)(hy0:0≤y)(hy:y < 36)(h:bc x=bc y):x=y:=by
 have key:∀a:Fin 36,∀b:Fin 36,(B1++B8).getD a.val 0=(B1++B8).getD b.val 0→a=b:=by decide+kernel
 have:=key ⟨x.toNat,by omega⟩ ⟨y.toNat,by omega⟩ h;have:=congrArg Fin.val this;simp at this;omega
theorem S7{F:Nat→Int}{at':Int}{long k:Nat}(h1:1≤long)(h2:long≤8):B9 (nmL F at' long k)=true:=by
 obtain ⟨n,rfl⟩:∃n,long=n+1:=⟨long - 1,by omega⟩
 have hall:∀c∈nmL F at' (n+1) k,c∈B1++B8:=by
  intro c hc;obtain ⟨j,_,rfl⟩:=Fz.mp hc
  have hm:md j=26∨md j=36:=by unfold md;split <;> simp
  unfold sgn
  rcases hm with hm | hm <;> rw [hm]
  · exact Hw _ J1x
  · exact W7
 have hl:(nmL F at' (n+1) k).length=n+1:=by simp [nmL]
 have hh:L8 (nmL F at' (n+1) k) B1=true:=by
  unfold nmL;rw [List.range_succ_eq_map,List.map_cons];show decide (sgn F at' k 0∈B1)=true;rw [decide_eq_true_eq];unfold sgn md;rw [if_pos rfl];exact J1x
 unfold B9;rw [hl,hh,FA h1,FA h2];simp only [Bool.true_and];exact FU.mpr fun c hc=>FA (hall c hc)
def nms(F:Nat→Int)(at':Int)(long m:Nat):List Str:=(List.range m).map fun k=>tx (nmL F at' long k)
theorem ne1:Str.ofString "no name"≠Str.ofString "nothing":=by decide+kernel
theorem ne2:Str.ofString "twice"≠Str.ofString "nothing":=by decide+kernel
theorem SqT.butL{K:PySem.W.Frag}{H H':Hp}{p a:Addr}{zs:List V}{xs:List V}(s:SameBut p H H')(hp:H p=some (.lst zs))(h:SqT K H a xs):SqT K H' a xs:=by
 rcases h with (h | ⟨o,h⟩) | h
 · exact .inl (.inl (s _ _ h (Bt h hp (by intro z;cases z))))
 · exact .inl (.inr ⟨o,s _ _ h (Bt h hp (by intro z;cases z))⟩)
 · exact .inr h
theorem Gx{H H':Hp}{x dx C:Addr}(hx:H x=none)(hd:H dx=none)(s:SameBut x (upd (upd H dx (.own x)) x (.ins C dx [])) H'):A7 H H':=fun b o e=>by
 have n1:=A8 e hx;have n2:=A8 e hd;exact s b o (by rw [A3 n1,A3 n2];exact e) n1
theorem J1y{z:Str}(h:B9 z.cps.toList=true):z.length≤8:=by
 unfold B9 at h;simp only [Hc,decide_eq_true_eq]at h;have:=h.1.1.2;rw [Bm]at this;exact this
end N5
namespace L2
open N1 N5
section
variable {K:PySem.W.Frag} {tail:St} {te:Blk→TE} {Q:VK} {H1:Hp}
theorem S8{a:Addr}{xs:List V}(f:Nat→V)(hS:SqL K H1 a xs)(hz:xs.length≤sizeLine)(he:∀b i x H Q',xs[i]?=some x→A7 H1 H→Q' (f i) H→te b (some x::tail) H Q')
 (q:∀D,H1 D=none→Q (.ref D) (upd H1 D (.lst ((List.range xs.length).map f)))):Br (none::tail) (fun _=>Bz 0) (fun _=>G9) te Q (Itl K a) H1:=by
 refine Kg xs.length (fun b D hD=>⟨fun i ys H=>i≤xs.length∧ys=(List.range i).map f∧H=upd H1 D (.lst ys),⟨FB _,rfl,rfl⟩,?_,?_,?_⟩)
 · rintro i ys H ⟨hi,rfl,rfl⟩
   exact A1
 · rintro ys H ⟨_,rfl,rfl⟩
   exact ⟨⟨xs,(C6 hD).seq hS,Fg _⟩,q D hD⟩
 · rintro i ys H hi ⟨_,rfl,rfl⟩
   refine ⟨⟨xs,xs[i],(C6 hD).seq hS,by simp [hi]⟩,fun x H3 ⟨e3,ex⟩=>?_⟩;subst e3;refine he b i x _ _ (ex xs ((C6 hD).seq hS)) (C6 hD) (Ga A1 (by rw [Fa,FW];omega) hi ⟨hi,?_,?_⟩)
   · rw [HR];simp
   · funext a;by_cases ha:a=D <;> simp [upd,ha]
def J1z(P:V→Hp→Prop):Prop:=∀y H H' l zs,P y H→H l=some (.lst zs)→SameBut l H H'→P y H'
theorem J20{lo:Int}{n:Nat}(P:Nat→V→Hp→Prop)(hP:∀i,J1z (P i))(hz:n≤sizeLine)(he:∀b (i:Nat) H Q',i < n→A7 H1 H→(∀y H',A7 H H'→P i y H'→Q' y H')→te b (some (.int (lo+i))::tail) H Q')
 (q:∀D ys H',H1 D=none→A7 H1 H'→H' D=some (.lst ys)→ys.length=n→(∀i y,ys[i]?=some y→P i y H')→Q (.ref D) H'):Br (none::tail) (fun _=>Bz 0) (fun _=>G9) te Q (Itr lo n) H1:=by
 refine Kg n (fun b D hD=>⟨fun i ys H=>i≤n∧ys.length=i∧H D=some (.lst ys)∧A7 H1 H∧∀j y,ys[j]?=some y→P j y H,⟨FB _,rfl,A1,C6 hD,fun j y e=>by simp at e⟩,?_,?_,?_⟩)
 · rintro i ys H ⟨hi,_,h,_⟩
   exact h
 · rintro ys H ⟨_,hl,h,sm,hall⟩
   exact ⟨Fg _,q D ys H hD sm h hl hall⟩
 · rintro i ys H hi ⟨_,hl,h,sm,hall⟩
   refine ⟨hi,fun x H3 ⟨e3,ex⟩=>?_⟩;subst e3 ex;refine he b i _ _ hi sm fun y H4 sm4 py=>?_;have h4:=sm4 _ _ h;have sb:SameBut D H4 (upd H4 D (.lst (ys++[y]))):=S5;refine Ga h4 (by omega) hi ⟨hi,by rw [Fm,hl];rfl,A1,fun c o e=>?_,fun j y' e=>?_⟩
   · rw [A3 (A8 e hD)];exact sm4 _ _ (sm _ _ e)
   · by_cases hj:j < ys.length
     · rw [Fy hj]at e
       have:=hall j y' e
       exact hP j _ _ _ _ _ this h fun c o e n=>by rw [A3 n];exact sm4 _ _ e
     · rw [FD (by omega)]at e
       have hj0:j=i:=by have:=(Fi.mp e).1;simp at this;omega
       subst hj0;rw [show j - ys.length=0 by omega]at e;cases e;exact hP j _ _ _ _ _ py h4 sb
end
end L2
namespace N4
open L2 N1 N5
def Gy(K:PySem.W.Frag):Sp:=fun vs H Q _=>∃(n co r:V) (e:Addr) (kvs:List (Key×V)) (ks:List Str),vs=[n,co,r,.ref e]∧H e=some (.dK kvs)∧kvs.map (·.1)=ks.map Sum.inr∧S3 ks n co r=none∧∀H',A7 H H'→Q .non H'
theorem U6{rs:List Rw}(h:S4 rs=none):rs.length≤60∧Gd [] rs=none:=by
 unfold S4 at h;split at h
 · cases h
 · exact ⟨by omega,h⟩
theorem Mq{lo hi c:Int}(h1:lo≤c)(h2:c≤hi):wIn lo hi (.int c)=true:=by
 show (decide (lo≤c) && decide (c≤hi))=true;rw [FA h1,FA h2];rfl
theorem O4:∀(rs:List Rw) (ks:List Str),(∀t∈rs,∃z c q,t.2.1= .str z∧t.2.2.1= .int c∧t.2.2.2= .int q∧B9 z.cps.toList=true∧0≤c∧c≤10 ^ 30∧1≤q∧q≤1000)→(ks++rs.map fun t=>sOf t.2.1).Nodup→Gd ks rs=none
 | [],_,_,_=>rfl
 | t::rs,ks,h,nd=>by
  obtain ⟨z,c,q,e1,e2,e3,hn,h1,h2,h3,h4⟩:=h t (Fu ..)
  have hz:¬z∈ks:=fun hz=>by
   rw [List.map_cons,FV]at nd;exact nd.2.2 z hz (sOf t.2.1) (Fu ..) (by rw [e1];rfl)
  have r0:S3 ks t.2.1 t.2.2.1 t.2.2.2=none:=by
   unfold S3;rw [e1,e2,e3];rw [if_neg (by show ¬B9 z.cps.toList=false;rw [hn];decide),if_neg (show ¬sOf (.str z)∈ks from hz),if_neg (by rw [Mq h1 h2];decide),if_neg (by rw [Mq h3 h4];decide)]
  unfold Gd;rw [r0];refine O4 rs _ (fun t' ht=>h t' (Fk _ ht)) ?_;rw [Rb];exact nd
theorem J21{kvs:List (Key×V)}{i:Nat}{k:Key}{v:V}(nd:(kvs.map (·.1)).Nodup)(e:kvs[i]?=some (k,v)):Bb kvs k=some v:=by
 induction kvs generalizing i with
 | nil=>rw [List.getElem?_nil]at e;cases e
 | cons p r ih=>
  cases i with
  | zero=>cases e;exact Bx rfl
  | succ i=>
   rw [List.map_cons,FO]at nd;have hm:(k,v)∈r:=Ff e;rw [By (fun z=>nd.1 (by rw [z];exact List.mem_map_of_mem (f:=(·.1)) hm))];exact ih nd.2 e
theorem Y4{ks:List Str}(h:ks.Nodup):(ks.map (Sum.inr:Str→Key)).Nodup:=by
 unfold List.Nodup at *;rw [List.pairwise_map];exact h.imp fun n e=>n (by injection e)
section
variable {K:PySem.W.Frag} {C:Addr} {H H':Hp} {p:Addr} {ts:List Th} {z:Str}
theorem Af.has(h:Af K C H p ts):∃dx d kvs,H p=some (.ins C dx (flds d))∧H d=some (.dK kvs)∧(kvs.map fun q=>kV q.1)=ts.map (fun t=>V.str t.1)∧(∀z,(Bb kvs (Sum.inr z)).isSome=decide (z∈ts.map (·.1)))∧
 ((ts.map (·.1)).Nodup→∀(i:Nat) (t:Th),ts[i]?=some t→∃a,Bb kvs (Sum.inr t.1)=some (.ref a)∧SqT K H a [.int i,.int t.2.1,.int t.2.2]):=by
 obtain ⟨dx,d,kvs,h1,h2,h3,h4⟩:=h.ex
 have h3':kvs.map (·.1)=(ts.map (·.1)).map Sum.inr:=by rw [h3,FH];rfl
 refine ⟨dx,d,kvs,h1,h2,?_,fun z=>Ki h3',fun nd i t e=>?_⟩
 · have:=congrArg (List.map kV) h3
   rw [FH,FH]at this;exact this
 · obtain ⟨a,e1,e2⟩:=h4 i t e
   exact ⟨a,J21 (by rw [h3'];exact Y4 nd) e1,e2⟩
end
def pick(w:Nat)(i:Nat)(t:Th):Int:=if w=0 then i else if w=1 then t.2.1 else t.2.2
def Pc(K:PySem.W.Frag)(C:Addr):Sp:=fun vs H Q _=>∃(p:Addr) (ts:List Th) (z:Str),vs=[.ref p,.str z]∧Af K C H p ts∧Q (.bl (decide (z∈ts.map (·.1)))) H
def Pd(K:PySem.W.Frag)(C:Addr):Sp:=fun vs H Q _=>∃(p:Addr) (ts:List Th),vs=[.ref p]∧Af K C H p ts∧∀l,H l=none→Q (.ref l) (upd H l (.lst ((ts.map (·.1)).map V.str)))
theorem W8{ts:List Th}{z:Str}(h:z∈ts.map (·.1)):∃(i:Nat) (t:Th),ts[i]?=some t∧t.1=z:=by
 obtain ⟨t,ht,e⟩:=Fz.mp h;obtain ⟨i,hi⟩:=FC.mp ht;exact ⟨i,t,hi,e⟩
end N4
namespace N4
open L2 N1 N5
theorem J22{j:Nat}:md j=26∨md j=36:=by unfold md;split <;> simp
theorem J7x{x y:Int}{j:Nat}(h:bc (x % md j)=bc (y % md j)):x % md j=y % md j:=by
 rcases J22 (j:=j) with hm | hm <;> rw [hm]at h ⊢
 · exact U5 (by omega) (by omega) (by omega) (by omega) h
 · exact U5 (by omega) (by omega) (by omega) (by omega) h
def G2(F:Nat→Int)(at' be:Int)(k:Nat)(j:Nat):Int:=F j+(if (j:Int)=at' then (k:Int) % 26 else 0)+(if (j:Int)=be∧25 < k then (k:Int) / 26 else 0)
theorem J23{f:Nat→List Nat}{m:Nat}(h:∀a b,a < m→b < m→f a=f b→a=b):((List.range m).map fun k=>tx (f k)).Nodup:=by
 unfold List.Nodup;rw [List.pairwise_map];refine List.Pairwise.imp_of_mem (R:=fun a b=>a≠b) ?_ List.nodup_range;intro a b ha hb ne e;exact ne (h a b (HF.mp ha) (HF.mp hb) (Jac e))
structure U7(K:PySem.W.Frag)(H:Hp)(r:Addr)(as:List Addr)(ts:List Th):Prop where
 l:SqL K H r (as.map V.ref)
 n:as.length=ts.length
 m:ts.length≤60
 at_:∀(i:Nat) (a:Addr) (t:Th),as[i]?=some a→ts[i]?=some t→SqT K H a [.str t.1,.int t.2.1,.int t.2.2]
 ok:∀t∈ts,B9 t.1.cps.toList=true∧0≤t.2.1∧t.2.1≤10 ^ 30∧1≤t.2.2∧t.2.2≤1000
 nd:(ts.map (·.1)).Nodup
def J24(a:Addr)(t:Th):Rw:=(a,.str t.1,.int t.2.1,.int t.2.2)
theorem U7.init{K:PySem.W.Frag}{H:Hp}{r:Addr}{as:List Addr}{ts:List Th}(h:U7 K H r as ts):∃rs:List Rw,rs.map (fun t=>V.ref t.1)=as.map V.ref∧(∀t∈rs,SqT K H t.1 [t.2.1,t.2.2.1,t.2.2.2])∧S4 rs=none∧rs.map J4r=ts:=by
 have hn:=h.n
 have gt:∀(i:Nat) (x:Addr×Th),(as.zip ts)[i]?=some x→as[i]?=some x.1∧ts[i]?=some x.2:=fun i x e=>by
  rw [R7]at e;exact e
 have e1:((as.zip ts).map fun x=>J24 x.1 x.2).map J4r=ts:=by
  rw [FH]
  have:(J4r∘fun x:Addr×Th=>J24 x.1 x.2)=Prod.snd:=by funext x;rfl
  rw [this,List.map_snd_zip (by omega)]
 refine ⟨(as.zip ts).map fun x=>J24 x.1 x.2,?_,?_,?_,e1⟩
 · rw [FH]
   have:((fun t:Rw=>V.ref t.1)∘fun x:Addr×Th=>J24 x.1 x.2)=V.ref∘Prod.fst:=by funext x;rfl
   rw [this,← FH,List.map_fst_zip (by omega)]
 · intro t ht
   obtain ⟨x,hx,rfl⟩:=Fz.mp ht;obtain ⟨i,hi⟩:=FC.mp hx;obtain ⟨h1,h2⟩:=gt i x hi;exact h.at_ i x.1 x.2 h1 h2
 · unfold S4
   rw [if_neg (by rw [Fa,List.length_zip];have:=h.m;omega)];refine O4 _ _ (fun t ht=>?_) ?_
   · obtain ⟨x,hx,rfl⟩:=Fz.mp ht
     obtain ⟨i,hi⟩:=FC.mp hx;obtain ⟨h1,h2⟩:=gt i x hi;obtain ⟨o1,o2,o3,o4,o5⟩:=h.ok x.2 (Ff h2);exact ⟨x.2.1,x.2.2.1,x.2.2.2,rfl,rfl,rfl,o1,o2,o3,o4,o5⟩
   · rw [List.nil_append,FH]
     have:((fun t:Rw=>sOf t.2.1)∘fun x:Addr×Th=>J24 x.1 x.2)=(fun t:Th=>t.1)∘Prod.snd:=by funext x;rfl
     rw [this,← FH,List.map_snd_zip (by omega)];exact h.nd
end N4
namespace N6
open L2 N1 N5 N4
def sfl(p d:Addr)(n:Int):List (Str×V):=B3 "rooms" (.ref d) (B3 "places" (.int n) (B3 "stock" (.ref p) []))
theorem La{p d:Addr}{n:Int}:(sfl p d n).lookup ("stock":Str)=some (V.ref p):=by
 unfold sfl;rw [B4,if_neg (by decide),B4,if_neg (by decide),B4,if_pos rfl]
theorem U8{p d:Addr}{n:Int}:(sfl p d n).lookup ("places":Str)=some (V.int n):=by
 unfold sfl;rw [B4,if_neg (by decide),B4,if_pos rfl]
theorem Ea{p d:Addr}{n:Int}:(sfl p d n).lookup ("rooms":Str)=some (V.ref d):=by
 unfold sfl;rw [B4,if_pos rfl]
abbrev Ly:=List (Str×Int)
def lyK(ls:Ly):List (Key×V):=ls.map fun x=>(Sum.inr x.1,.int x.2)
def lyN(ls:Ly):List Str:=ls.map (·.1)
def lyS(ls:Ly):Int:=(ls.map (·.2)).sum
structure Ax(S:Addr)(H:Hp)(q p d:Addr)(n:Int)(ls:Ly):Prop where
 o:∃dx,H q=some (.ins S dx (sfl p d n))
 d:H d=some (.dK (lyK ls))
 nd:(lyN ls).Nodup
theorem Ax.same{S:Addr}{H H':Hp}{q p d:Addr}{n:Int}{ls:Ly}(s:A7 H H')(h:Ax S H q p d n ls):Ax S H' q p d n ls:=
 ⟨h.o.imp fun _ e=>s _ _ e,s _ _ h.d,h.nd⟩
structure Bw(K:PySem.W.Frag)(C:Addr)(H:Hp)(p:Addr)(ts:List Th)(d:Addr):Prop where
 ex:∃(dx e:Addr) (kvs:List (Key×V)),e≠d∧H p=some (.ins C dx (flds e))∧H e=some (.dK kvs)∧kvs.map (·.1)=ts.map (fun t=>Sum.inr t.1)∧
  ∀(i:Nat) (t:Th),ts[i]?=some t→∃a,kvs[i]?=some (Sum.inr t.1,.ref a)∧SqT K H a [.int i,.int t.2.1,.int t.2.2]
section
variable {K:PySem.W.Frag} {C S:Addr} {H H':Hp} {p q d:Addr} {ts:List Th} {n:Int} {ls:Ly} {z:Str}
theorem Bw.at(h:Bw K C H p ts d):Af K C H p ts:=by
 obtain ⟨dx,e,kvs,_,r⟩:=h.ex;exact ⟨dx,e,kvs,r⟩
theorem Bw.of(h:Af K C H p ts)(hd:H d=none):Bw K C H p ts d:=by
 obtain ⟨dx,e,kvs,h1,h2,r⟩:=h.ex;exact ⟨dx,e,kvs,A8 h2 hd,h1,h2,r⟩
theorem Bw.same(s:A7 H H')(h:Bw K C H p ts d):Bw K C H' p ts d:=by
 obtain ⟨dx,e,kvs,n,h1,h2,h3,h4⟩:=h.ex;refine ⟨dx,e,kvs,n,s _ _ h1,s _ _ h2,h3,fun i t q=>?_⟩;obtain ⟨a,e1,e2⟩:=h4 i t q;exact ⟨a,e1,s.tup e2⟩
theorem SqT.butD{a:Addr}{xs:List V}{kvs:List (Key×V)}(s:SameBut d H H')(hd:H d=some (.dK kvs))(h:SqT K H a xs):SqT K H' a xs:=by
 rcases h with (h | ⟨o,h⟩) | h
 · exact .inl (.inl (s _ _ h (Bt h hd (by intro z;cases z))))
 · exact .inl (.inr ⟨o,s _ _ h (Bt h hd (by intro z;cases z))⟩)
 · exact .inr h
theorem SqL.butD{a:Addr}{xs:List V}{kvs:List (Key×V)}(s:SameBut d H H')(hd:H d=some (.dK kvs))(h:SqL K H a xs):SqL K H' a xs:=by
 rcases h with (h | ⟨o,h⟩) | h
 · exact .inl (.inl (s _ _ h (Bt h hd (by intro z;cases z))))
 · exact .inl (.inr ⟨o,s _ _ h (Bt h hd (by intro z;cases z))⟩)
 · exact .inr h
theorem Bw.butD{kvs':List (Key×V)}(s:SameBut d H H')(hd:H d=some (.dK kvs'))(h:Bw K C H p ts d):Bw K C H' p ts d:=by
 obtain ⟨dx,e,kvs,n,h1,h2,h3,h4⟩:=h.ex;refine ⟨dx,e,kvs,n,s _ _ h1 (Bt h1 hd (by intro z;cases z)),s _ _ h2 n,h3,fun i t q=>?_⟩;obtain ⟨a,e1,e2⟩:=h4 i t q;exact ⟨a,e1,SqT.butD s hd e2⟩
theorem Bw.butL{l:Addr}{zs:List V}(s:SameBut l H H')(hl:H l=some (.lst zs))(h:Bw K C H p ts d):Bw K C H' p ts d:=by
 obtain ⟨dx,e,kvs,n,h1,h2,h3,h4⟩:=h.ex;refine ⟨dx,e,kvs,n,s _ _ h1 (Bt h1 hl (by intro z;cases z)),s _ _ h2 (Bt h2 hl (by intro z;cases z)),h3,fun i t q=>?_⟩;obtain ⟨a,e1,e2⟩:=h4 i t q;exact ⟨a,e1,SqT.butL s hl e2⟩
theorem Ax.butL{l:Addr}{zs:List V}(s:SameBut l H H')(hl:H l=some (.lst zs))(h:Ax S H q p d n ls):Ax S H' q p d n ls:=
 ⟨h.o.imp fun _ e=>s _ _ e (Bt e hl (by intro z;cases z)),s _ _ h.d (Bt h.d hl (by intro z;cases z)),h.nd⟩
theorem J4s:(lyK ls).map (·.1)=(lyN ls).map Sum.inr:=by unfold lyK lyN;rw [FH,FH];rfl
theorem Y5:((lyK ls).map fun x=>kV x.1)=(lyN ls).map V.str:=by unfold lyK lyN;rw [FH,FH];rfl
theorem J25:(lyK ls).map (·.2)=(ls.map (·.2)).map V.int:=by unfold lyK;rw [FH,FH];rfl
theorem Pe:(Bb (lyK ls) (Sum.inr z)).isSome=decide (z∈lyN ls):=Ki J4s
theorem J4t{r:Int}(h:¬z∈lyN ls):Cq (lyK ls) (Sum.inr z) (.int r)=lyK (ls++[(z,r)]):=by
 have hv:Bb (lyK ls) (Sum.inr z:Key)=none:=by
  have:=Pe (ls:=ls) (z:=z);rw [Fw h]at this
  cases hv:Bb (lyK ls) (Sum.inr z:Key) with
  | none=>rfl
  | some v=>rw [hv]at this;cases this
 rw [Kc _ hv];unfold lyK;rw [Fp];rfl
def lyD(ls:Ly)(z:Str):Ly:=ls.filter fun x=>decide (x.1≠z)
theorem J26:Kb (lyK ls) (Sum.inr z)=lyK (lyD ls z):=by
 unfold Kb lyK lyD;rw [List.filter_map];congr 1;refine List.filter_congr fun x _=>?_;show decide ((Sum.inr x.1:Key)≠Sum.inr z)=decide (x.1≠z);exact decide_eq_decide.mpr ⟨fun h e=>h (by rw [e]),fun h e=>h (by injection e)⟩
theorem Gz(nd:(lyN ls).Nodup):lyN (lyD ls z)=(lyN ls).erase z:=by
 unfold lyN lyD at *;rw [List.Nodup.erase_eq_filter nd,List.filter_map];congr 1;refine List.filter_congr fun x _=>?_
 by_cases h:x.1=z
 · simp [h]
 · simp [h]
end
theorem Ax.put{S:Addr}{H H1:Hp}{q p d:Addr}{n:Int}{ls:Ly}{z:Str}{r:Int}(h:Ax S H q p d n ls)(s:A7 H H1)(hz:¬z∈lyN ls):Ax S (upd H1 d (.dK (Cq (lyK ls) (Sum.inr z) (.int r)))) q p d n (ls++[(z,r)]):=by
 obtain ⟨dx,ho⟩:=h.o;have h1:=s _ _ ho;have h2:=s _ _ h.d;refine ⟨⟨dx,by rw [A3 (Bt h1 h2 (by intro z;cases z))];exact h1⟩,by rw [A1,J4t hz],?_⟩
 have e:lyN (ls++[(z,r)])=lyN ls++[z]:=by unfold lyN;rw [Fp];rfl
 rw [e,FV];exact ⟨h.nd,by simp,fun a ha b hb e=>hz (by rw [Fh.mp hb]at e;rw [← e];exact ha)⟩
theorem Ax.cast{S:Addr}{H:Hp}{q p d:Addr}{n:Int}{ls:Ly}{z:Str}(h:Ax S H q p d n ls):Ax S (upd H d (.dK (Kb (lyK ls) (Sum.inr z)))) q p d n (lyD ls z):=by
 obtain ⟨dx,ho⟩:=h.o;refine ⟨⟨dx,by rw [A3 (Bt ho h.d (by intro z;cases z))];exact ho⟩,by rw [A1,J26],?_⟩;rw [Gz h.nd];exact h.nd.erase z
def Kj(S:Addr):Sp:=fun vs H Q _=>∃(q dx p:Addr) (n:Int),vs=[.ref q,.ref p,.int n]∧H q=some (.ins S dx [])∧1≤n∧n≤1000000∧∀H' d,SameBut q H H'→H d=none→Ax S H' q p d n []→Q .non H'
def Kk(S:Addr):Sp:=fun vs H Q _=>∃(q p d:Addr) (n:Int) (ls:Ly),vs=[.ref q]∧Ax S H q p d n ls∧∀l,H l=none→Q (.ref l) (upd H l (.lst ((lyN ls).map V.str)))
def Kl(S:Addr):Sp:=fun vs H Q _=>∃(q p d:Addr) (n:Int) (ls:Ly) (z:Str),vs=[.ref q,.str z]∧Ax S H q p d n ls∧Q (.bl (decide (z∈lyN ls))) H
def Lz(S:Addr):Sp:=fun vs H Q _=>∃(q p d:Addr) (n:Int) (ls:Ly),vs=[.ref q]∧Ax S H q p d n ls∧∀H',A7 H H'→Q (.int (n - lyS ls)) H'
end N6
namespace N6
open L2 N1 N5 N4
theorem J27:Str.ofString "abcdefghijklmnopqrstuvwxyz"++Str.ofString "0123456789"=Str.ofString "abcdefghijklmnopqrstuvwxyz0123456789":=by decide+kernel
theorem J7y(i:Int):atI (Str.ofString "abcdefghijklmnopqrstuvwxyz").cps.toList (i % 26)=some (bc (i % 26)):=by
 have h2:=FR i (show (0:Int) < 26 by decide);have h3:=FY i (show (26:Int)≠0 by decide);refine Mh h3 ?_
 have hl:B1.length=26:=by decide
 have h4:(i % 26).toNat < B1.length:=by rw [hl];omega
 unfold bc;rw [Mo,Fc,Fy h4,Fb h4];rfl
theorem J7z{k:Int}(h0:0≤k)(h1:k < 10):bc (26+k)∈B1++B8:=by
 have:=W7 (i:=26+k)
 rwa [Int.emod_eq_of_lt (by omega) (by omega)]at this
theorem O5{l:List Nat}{c:Nat}(h:B9 l=true)(hl:l.length < 8)(hc:c∈B1++B8):B9 (l++[c])=true:=by
 unfold B9 at h ⊢;simp only [Hc,decide_eq_true_eq,FU]at h ⊢;obtain ⟨⟨⟨h1,h2⟩,h3⟩,h4⟩:=h;refine ⟨⟨⟨by simp,by simp;omega⟩,?_⟩,fun x hx=>?_⟩
 · cases l with
   | nil=>simp at h1
   | cons a r=>exact h3
 · rcases FF.mp hx with hx | hx
   · exact h4 x hx
   · rw [Fh.mp hx];exact hc
theorem El{F:Nat→Int}{at':Int}{long k:Nat}:(nmL F at' long k).length=long:=by simp [nmL]
theorem S9{F:Nat→Int}{at':Int}{long k k':Nat}(h0:0≤at')(h1:at' < long)(hk:k < k'+26)(hk':k' < k+26)(h:nmL F at' long k=nmL F at' long k'):k=k':=by
 have hl:at'.toNat < long:=by omega
 have e:=congrArg (fun l=>l[at'.toNat]?) h;simp only [nmL,Fe,HC hl,Ht,Option.some.injEq]at e;unfold sgn at e;rw [if_pos (by omega),if_pos (by omega)]at e;have e2:=J7x e
 rcases J22 (j:=at'.toNat) with hm | hm <;> rw [hm]at e2 <;> omega
theorem J28{F:Nat→Int}{at':Int}{j k:Nat}:nmL F at' (j+1) k=nmL F at' j k++[sgn F at' k j]:=by
 unfold nmL;rw [HR,Fp];rfl
def nm3(F:Nat→Int)(at':Int)(long k:Nat):List Nat:=nmL F at' long k++if 25 < k then [bc (26+(k:Int) / 26)] else []
theorem J29{F:Nat→Int}{at':Int}{long k:Nat}(h1:1≤long)(h2:long≤8)(h3:25 < k→long≤7)(hk:k < 61):B9 (nm3 F at' long k)=true:=by
 unfold nm3;split
 · rename_i h
   exact O5 (S7 h1 h2) (by rw [El];have:=h3 h;omega) (J7z (by omega) (by omega))
 · rw [FJ];exact S7 h1 h2
theorem J4u{F:Nat→Int}{at':Int}{long k k':Nat}(h0:0≤at')(h1:at' < long)(hk:k < 61)(hk':k' < 61)(h:nm3 F at' long k=nm3 F at' long k'):k=k':=by
 have hl:=congrArg List.length h;unfold nm3 at h hl;rw [Fm,Fm,El,El]at hl;obtain ⟨e1,e2⟩:=List.append_inj h (by rw [El,El])
 by_cases c1:25 < k
 · by_cases c2:25 < k'
   · rw [if_pos c1,if_pos c2]at e2
     injection e2 with e3
     have e4:=U5 (by omega) (by omega) (by omega) (by omega) e3;exact S9 h0 h1 (by omega) (by omega) e1
   · rw [if_pos c1,if_neg c2]at hl;simp at hl
 · by_cases c2:25 < k'
   · rw [if_neg c1,if_pos c2]at hl;simp at hl
   · exact S9 h0 h1 (by omega) (by omega) e1
end N6
namespace L2
theorem Inv.turned2{X:Cx}{pins:List (Addr×Obj)}{σ:St}{H:Hp}{s:Shared}{h':Heap}{t':Nat}{fp:List Addr}(I:Inv X pins σ H s)(k:∀b o,b∉fp→s.heap.get? b=some o→h'.get? b=some o)(hf:∀it∈fp,D3 X pins H it):
 Inv X pins σ H {s with heap:=h',toks:=t'}:=by
 have nit:∀b u,H b=some u→b∉fp:=fun b u e z=>by rw [(hf b z).1]at e;cases e
 refine I.step (g':=s.gens) (d':=s.drawn) (ch:=fp) (fun b hb=>?_) (fun b o _ _ hc e _=>k b o hc e) (fun b o _ _ hc e _=>⟨o.slots,k b o hc e⟩) (fun _ _ _ _ n=>n)
  (fun b o hc e=>⟨o,k b o hc e⟩) (fun _ _ e=>e) (fun _ _ _ e=>e) (fun b ps e=>⟨#[],by rw [e];simp⟩) (fun m hm=>?_) (fun b u e=>?_) I.bare
 · obtain ⟨_,h1,_,h2,h3,h4⟩:=hf b hb
   exact ⟨h2,h1,h3,h4⟩
 · obtain ⟨o,es,ep,ho,r⟩:=hm
   exact ⟨o,es,ep,k _ o (fun z=>(hf _ z).2.1 rfl) ho,r⟩
 · refine (I.hok b u e).stay (fun c v hc q=>k c v ?_ q) (fun _ q=>q) fun _ _ q=>q
   rcases hc with z | z
   · rw [z];exact nit b u e
   · exact nit c _ z
def Ite(K:PySem.W.Frag)(a:Addr):It:=
 ⟨fun i H=>∃xs x,SqL K H a xs∧xs[i]?=some x,fun i H y H'=>∃t x,y= .ref t∧H t=none∧H'=upd H t (.tup [.int i,x])∧∀xs,SqL K H a xs→xs[i]?=some x,fun i H=>∃xs,SqL K H a xs∧xs.length≤i⟩
def tnE(e it a:Addr)(i:Nat)(h:Heap):Prop:=(∃old,IsEnum h e it i old)∧h.IsListIter it a i
theorem Y6{P:Program}{w:World}{K:PySem.W.Frag}{es:List Expr}{k:Nat}{pos:Pos}(a e it:Addr)(ne:e≠it):Xf P w K (.Tuple es k pos) (Ite K a) [e,it] e (tnE e it a) where
 mem:=by simp
 obj:=fun i h st b hb=>by
  obtain ⟨⟨old,h1⟩,o,h2,c,d⟩:=st
  have hb:b=e∨b=it:=by simpa using hb
  rcases hb with rfl | rfl
  · exact ⟨_,h1,fun v z=>by cases z⟩
  · exact ⟨o,h2,fun v z=>by rw [d]at z;cases z⟩
 keep:=fun i h h' st kk=>by
  obtain ⟨⟨old,h1⟩,h2⟩:=st;exact ⟨⟨old,kk e (by simp) _ h1⟩,h2.at fun o q=>kk it (by simp) o q⟩
 item:=by
  intro X hP hw hK hc i pins s σ H E I hf st hg;subst hP hw hK;obtain ⟨xs,x,hq,hx⟩:=hg;obtain ⟨its,rv,p,hz⟩:=I.list hq;obtain ⟨u,hu,ru⟩:=rv.get hx;obtain ⟨⟨old,h1⟩,h2⟩:=st;have hlt:e < s.heap.objs.size:=Fl h1
  have hit:it < s.heap.objs.size:=by obtain ⟨o,q,_⟩:=id h2;exact Fl q
  refine wpAny_pyNext_enum_item h1 h2 p.isList (x:=u) (by simpa using hu) ne fun h' eo it' ht hs hk=>?_;refine ⟨_,rfl,wpAny_letOwnedTupleGo_enum (s:={s with heap:=h',toks:=s.toks+1}) eo fun h3 e3 sb=>?_⟩;have hf0:H s.heap.objs.size=none:=I.hok.fresh (Fg _)
  have nt:∀b∈[e,it],b≠s.heap.objs.size:=fun b hb=>by
   have hb:b=e∨b=it:=by simpa using hb
   rcases hb with rfl | rfl
   · exact Fo hlt
   · exact Fo hit
  have I0:Inv X pins σ (upd H s.heap.objs.size (.tup [.int i,x])) {s with heap:=s.heap.push {cls:= .type "tuple",data:= .seq #[.int i s.toks,u]},toks:=s.toks+1}:=
   I.laid (fun b u e=>Fd _ e) (Fg _) ⟨by simp [sizeLine];try decide,[.int i s.toks,u],.cons ⟨_,rfl⟩ (.cons ru .nil),⟨_,Fs _ rfl,rfl,_,rfl⟩⟩
  have hfp:∀b∈[e,it],D3 X pins (upd H s.heap.objs.size (.tup [.int i,x])) b:=fun b hb=>by
   obtain ⟨f0,f1,f2,f3,f4,f5⟩:=hf b hb;exact ⟨by rw [A3 (nt b hb)];exact f0,f1,f2,f3,f4,f5⟩
  have I1:Inv X pins σ (upd H s.heap.objs.size (.tup [.int i,x])) {s with heap:=h3,toks:=s.toks+1}:=by
   refine Inv.turned2 (s:={s with heap:=s.heap.push {cls:= .type "tuple",data:= .seq #[.int i s.toks,u]},toks:=s.toks+1}) (t':=s.toks+1) I0 (fun b o hb q=>?_) hfp
   have hb':b≠e∧b≠it:=by simpa using hb
   refine (sb.2 b hb'.1).trans ?_;rcases Heap.get?_push_cases q with ⟨rfl,rfl⟩ | q2
   · exact ht
   · exact hk b o hb'.1 hb'.2 q2
  refine ⟨.ref s.heap.objs.size,upd H s.heap.objs.size (.tup [.int i,x]),I1,rfl,⟨_,x,rfl,hf0,rfl,fun ys hy=>by rw [I.list_inj hy hq];exact hx⟩,⟨⟨u,?_⟩,?_⟩,fun b hb=>(hfp b hb).1⟩
  · show IsEnum h3 e it ((i+1:Nat):Int) u
    rw [show ((i+1:Nat):Int)=(i:Int)+1 from rfl];exact e3
  · exact it'.at fun o q=>(sb.2 it (Ne.symm ne)).trans q
 done:=by
   intro X hP hw hK hc i pins s σ H E I hf st hg;subst hP hw hK;obtain ⟨xs,hq,hx⟩:=hg;obtain ⟨its,rv,p,hz⟩:=I.list hq;obtain ⟨⟨old,h1⟩,h2⟩:=st;have hl:=rv.length
   exact wpAny_pyNext_enum_end (I.ok.hd hc) h1 h2 p.isList (by simp;omega) fun h' eb=>⟨rfl,Inv.turned2 (t':=s.toks) I (fun b o hb q=>eb b o (fun z=>hb (by simp [z])) q) hf⟩
 self:=fun _ _ _ _ _ st h=>wpAny_pyIter_enum st.1.choose_spec h
section
variable {X:Cx}
def J6l(K:PySem.W.Frag)(ta:TA):TI:=fun σ H R=>ta σ H fun vs H1=>∃a,vs=[.ref a]∧(∃xs,SqL K H1 a xs)∧R (Ite K a) H1
theorem J4v{l:Expr}{ta:TA}{p pos pp:Pos}{es:List Expr}{k:Nat}(hg:Gl X "enumerate")(hm:X.mg "enumerate"=none)(ha:PA X [l] ta)(hs:starEach [l] X.env=[(false,eval l X.env)]:=by rfl):PI X (.Tuple es k pp) (.Call (.Name "enumerate" p) [l] [] pos) (J6l X.K ta):=by
 intro pins s σ H R I h;refine Call_ (Ir I hg hm boot_enumerate (HM (thn (ha pos pins s σ H _ I h) fun us s1 hq_=>?_) hs rfl));obtain ⟨vs,H1,I1,r1,q1⟩:=hq_;obtain ⟨a,e,⟨xs,hq⟩,q⟩:=q1;subst e
 cases r1 with
 | cons r rr=>
  cases rr;cases r;obtain ⟨its,rv,p',hz⟩:=I1.list hq;refine call_enumerate_list p'.isList fun h' h1 h2 h3 h4=>?_;refine wpAny_pyIter_enum h1 ?_;refine ⟨_,[s1.heap.objs.size+1,s1.heap.objs.size],_,_,H1,rfl,I1.kept (t':=s1.toks) h4,Y6 a _ _ (Nat.succ_ne_self _),⟨⟨_,h1⟩,h2⟩,fun b hb=>?_,q⟩
  have hb:b=s1.heap.objs.size+1∨b=s1.heap.objs.size:=by simpa using hb
  rcases hb with rfl | rfl
  · exact I1.fpOk (R1 _) (I1.hok.fresh (R1 _))
  · exact I1.fpOk (Fg _) (I1.hok.fresh (Fg _))
end
section
variable {K:PySem.W.Frag} {σ:St} {H:Hp} {D:G5}
theorem Sa{ta:TA}{R:It→Hp→Prop}:J6l K ta σ H R=ta σ H fun vs H1=>∃a,vs=[.ref a]∧(∃xs,SqL K H1 a xs)∧R (Ite K a) H1:=rfl
theorem J4w{a:Addr}{xs:List V}{g:TG}{tb:TS}(Pv:Nat→St→Hp→Prop)(h0:Pv 0 σ H)(hl:∀i σ H,i≤xs.length→Pv i σ H→SqL K H a xs)
 (hs:∀i x σ H t,xs[i]?=some x→Pv i σ H→H t=none→g (.ref t) σ (upd H t (.tup [.int i,x])) fun σ2 H2=>tb {D with nx:=Pv (i+1),ct:=Pv (i+1),bk:=D.nx} σ2 H2) (hd:∀σ H,Pv xs.length σ H→D.nx σ H):Kd g tb D σ (Ite K a) H:=by
 refine ⟨fun i m σ H=>i≤xs.length∧m=xs.length - i∧Pv i σ H,⟨_,FB _,rfl,h0⟩,fun i m σ H ⟨hi,hm,hP⟩=>?_⟩;have hq:=hl i σ H hi hP
 cases hx:xs[i]? with
 | none=>
  have hn:xs.length≤i:=by simpa using hx
  have e:i=xs.length:=Nat.le_antisymm hi hn;subst e;exact .inl ⟨⟨xs,hq,Fg _⟩,hd σ H hP⟩
 | some x=>
  have hlt:i < xs.length:=(Fi.mp hx).1;refine .inr ⟨⟨xs,x,hq,hx⟩,Pv (i+1),fun σ' H' h=>⟨xs.length - (i+1),by omega,by omega,rfl,h⟩,?_⟩;rintro y H' ⟨t,x',rfl,ht,rfl,hy⟩;have e:=(hy xs hq).symm.trans hx;cases e;exact hs i x σ H t hx hP ht
end
end L2
namespace L2
def Itz(K:PySem.W.Frag)(a b:Addr):It:=
 ⟨fun i H=>∃xs ys x y,SqL K H a xs∧SqL K H b ys∧xs[i]?=some x∧ys[i]?=some y,fun i H v H'=>∃t x y,v= .ref t∧H t=none∧H'=upd H t (.tup [x,y])∧(∀xs,SqL K H a xs→xs[i]?=some x)∧∀ys,SqL K H b ys→ys[i]?=some y,
  fun i H=>∃xs ys,SqL K H a xs∧SqL K H b ys∧(xs.length≤i∨ys.length≤i)⟩
def tnZ(z TI TO i1 i2 a b:Addr)(i:Nat)(h:Heap):Prop:=IsZip h z TI TO .none∧IsPair h TI (.ref i1) (.ref i2)∧(∃x y,IsPair h TO x y)∧h.IsListIter i1 a i∧h.IsListIter i2 b i
theorem J2a{P:Program}{w:World}{K:PySem.W.Frag}{es:List Expr}{k:Nat}{pos:Pos}(a b z TI TO i1 i2:Addr)(D:ZipApart z TI TO i1 i2 a b):Xf P w K (.Tuple es k pos) (Itz K a b) [z,TI,TO,i1,i2] z (tnZ z TI TO i1 i2 a b) where
 mem:=by simp
 obj:=fun i h st c hc=>by
  obtain ⟨h1,h2,⟨x,y,h3⟩,⟨o4,e4,c4,d4⟩,⟨o5,e5,c5,d5⟩⟩:=st
  have hc:c=z∨c=TI∨c=TO∨c=i1∨c=i2:=by simpa using hc
  rcases hc with rfl | rfl | rfl | rfl | rfl
  · exact ⟨_,h1,fun v z=>by cases z⟩
  · exact ⟨_,h2,fun v z=>by cases z⟩
  · exact ⟨_,h3,fun v z=>by cases z⟩
  · exact ⟨o4,e4,fun v z=>by rw [d4]at z;cases z⟩
  · exact ⟨o5,e5,fun v z=>by rw [d5]at z;cases z⟩
 keep:=fun i h h' st kk=>by
  obtain ⟨h1,h2,⟨x,y,h3⟩,h4,h5⟩:=st;exact ⟨kk z (by simp) _ h1,kk TI (by simp) _ h2,⟨x,y,kk TO (by simp) _ h3⟩,h4.at fun o q=>kk i1 (by simp) o q,h5.at fun o q=>kk i2 (by simp) o q⟩
 item:=by
  intro X hP hw hK hc i pins s σ H E I hf st hg;subst hP hw hK;obtain ⟨xs,ys,x,y,hq,hq2,hx,hy⟩:=hg;obtain ⟨its,rv,p,hz⟩:=I.list hq;obtain ⟨jts,rv2,p2,hz2⟩:=I.list hq2;obtain ⟨u,hu,ru⟩:=rv.get hx;obtain ⟨v,hv,rw'⟩:=rv2.get hy;obtain ⟨h1,h2,⟨x0,y0,h3⟩,h4,h5⟩:=st
  have lts:∀c∈[z,TI,TO,i1,i2],c < s.heap.objs.size:=fun c hc'=>by
   have hc':c=z∨c=TI∨c=TO∨c=i1∨c=i2:=by simpa using hc'
   rcases hc' with rfl | rfl | rfl | rfl | rfl
   · exact Fl h1
   · exact Fl h2
   · exact Fl h3
   · obtain ⟨o,q,_⟩:=id h4;exact Fl q
   · obtain ⟨o,q,_⟩:=id h5;exact Fl q
  refine wpAny_pyNext_zip_item D h1 h2 h3 h4 h5 p.isList p2.isList (x:=u) (y:=v) (by simpa using hu) (by simpa using hv) fun h' e1 e3 e4 e5 ht hs hk=>?_;refine ⟨_,rfl,wpAny_letOwnedTupleGo_zip (s:={s with heap:=h'}) e1 fun h6 e6 sb=>?_⟩;have hf0:H s.heap.objs.size=none:=I.hok.fresh (Fg _);have nt:∀c∈[z,TI,TO,i1,i2],c≠s.heap.objs.size:=fun c hc'=>Fo (lts c hc')
  have I0:Inv X pins σ (upd H s.heap.objs.size (.tup [x,y])) {s with heap:=s.heap.push {cls:= .type "tuple",data:= .seq #[u,v]}}:=
   I.laid (t':=s.toks) (fun b u e=>Fd _ e) (Fg _) ⟨by simp [sizeLine];try decide,[u,v],.cons ru (.cons rw' .nil),⟨_,Fs _ rfl,rfl,_,rfl⟩⟩
  have hfp:∀c∈[z,TI,TO,i1,i2],D3 X pins (upd H s.heap.objs.size (.tup [x,y])) c:=fun c hc'=>by
   obtain ⟨f0,f1,f2,f3,f4,f5⟩:=hf c hc';exact ⟨by rw [A3 (nt c hc')];exact f0,f1,f2,f3,f4,f5⟩
  have I1:Inv X pins σ (upd H s.heap.objs.size (.tup [x,y])) {s with heap:=h6}:=by
   refine Inv.turned2 (s:={s with heap:=s.heap.push {cls:= .type "tuple",data:= .seq #[u,v]}}) (t':=s.toks) I0 (fun c o hc' q=>?_) hfp
   have hb':c≠z∧c≠TI∧c≠TO∧c≠i1∧c≠i2:=by simpa using hc'
   refine (sb.2 c hb'.1).trans ?_;rcases Heap.get?_push_cases q with ⟨rfl,rfl⟩ | q2
   · exact ht
   · exact hk c o hb'.1 hb'.2.2.1 hb'.2.2.2.1 hb'.2.2.2.2 q2
  refine ⟨.ref s.heap.objs.size,upd H s.heap.objs.size (.tup [x,y]),I1,rfl,⟨_,x,y,rfl,hf0,rfl,fun zs hy'=>by rw [I.list_inj hy' hq];exact hx,fun zs hy'=>by rw [I.list_inj hy' hq2];exact hy⟩,?_,fun c hc'=>(hfp c hc').1⟩;have k6:∀c o,c≠z→h'.get? c=some o→h6.get? c=some o:=fun c o n q=>(sb.2 c n).trans q;exact ⟨e6,k6 TI _ D.TIz (hk TI _ D.TIz D.TITO D.TIi1 D.TIi2 h2),⟨_,_,k6 TO _ D.TOz e3⟩,e4.at fun o q=>k6 i1 o D.i1z q,e5.at fun o q=>k6 i2 o D.i2z q⟩
 done:=by
   intro X hP hw hK hc i pins s σ H E I hf st hg;subst hP hw hK;obtain ⟨xs,ys,hq,hq2,hx⟩:=hg;obtain ⟨its,rv,p,hz⟩:=I.list hq;obtain ⟨jts,rv2,p2,hz2⟩:=I.list hq2;obtain ⟨h1,h2,⟨x0,y0,h3⟩,h4,h5⟩:=st;have hl:=rv.length;have hl2:=rv2.length
   exact wpAny_pyNext_zip_end (I.ok.hd hc) D h1 h2 h3 h4 h5 p.isList p2.isList (hx.imp (fun h=>by simp;omega) fun h=>by simp;omega) fun h' eb=>⟨rfl,Inv.turned2 (t':=s.toks) I (fun c o hb q=>by
    have hb':c≠z∧c≠TI∧c≠TO∧c≠i1∧c≠i2:=by simpa using hb
    exact eb c o hb'.1 hb'.2.2.1 hb'.2.2.2.1 hb'.2.2.2.2 q) hf⟩
 self:=fun _ _ _ _ _ st h=>wpAny_pyIter_zip st.1 h
section
variable {X:Cx}
def Jag(K:PySem.W.Frag)(ta:TA):TI:=fun σ H R=>ta σ H fun vs H1=>∃a b,vs=[.ref a,.ref b]∧(∃xs,SqL K H1 a xs)∧(∃ys,SqL K H1 b ys)∧R (Itz K a b) H1
theorem J2b{l r:Expr}{ta:TA}{p pos pp:Pos}{es:List Expr}{k:Nat}(hg:Gl X "zip")(hm:X.mg "zip"=none)(ha:PA X [l,r] ta)(hs:starEach [l,r] X.env=[(false,eval l X.env),(false,eval r X.env)]:=by rfl)(hs2:starEach [r] X.env=[(false,eval r X.env)]:=by rfl):
 PI X (.Tuple es k pp) (.Call (.Name "zip" p) [l,r] [] pos) (Jag X.K ta):=by
 intro pins s σ H R I h;refine Call_ (Ir I hg hm boot_zip (HM (thn (ha pos pins s σ H _ I h) fun us s1 ⟨vs,H1,I1,r1,q1⟩=>?_) (by rw [hs,hs2]) (by rw [hs2];rfl)));obtain ⟨a,b,e,⟨xs,hq⟩,⟨ys,hq2⟩,q⟩:=q1;subst e
 cases r1 with
 | cons r rr=>
  cases rr with
  | cons r' rr=>
   cases rr;cases r;cases r';obtain ⟨its,rv,p',hz⟩:=I1.list hq;obtain ⟨jts,rv2,p2,hz2⟩:=I1.list hq2
   have la:a < s1.heap.objs.size:=by obtain ⟨o,e,_⟩:=p'.isList;exact Fl e
   have lb:b < s1.heap.objs.size:=by obtain ⟨o,e,_⟩:=p2.isList;exact Fl e
   refine call_zip_2 p'.isList p2.isList fun h' h1 h2 h3 h4 h5 h6 h7=>?_;refine wpAny_pyIter_zip h1 ?_;refine ⟨_,[s1.heap.objs.size+4,s1.heap.objs.size+2,s1.heap.objs.size+3,s1.heap.objs.size,s1.heap.objs.size+1],_,_,H1,rfl,I1.kept (t':=s1.toks) h7,J2a a b _ _ _ _ _ (PySem.W.ktu_apart _ _ _ la lb),⟨h1,h2,⟨_,_,h3⟩,h4,h5⟩,fun c hc=>?_,q⟩
   have hc:s1.heap.objs.size≤c:=by
    have hc:c=s1.heap.objs.size+4∨c=s1.heap.objs.size+2∨c=s1.heap.objs.size+3∨c=s1.heap.objs.size∨c=s1.heap.objs.size+1:=by simpa using hc
    rcases hc with rfl | rfl | rfl | rfl | rfl
    · exact Rf _ _
    · exact Rf _ _
    · exact Rf _ _
    · exact Fg _
    · exact Rf _ _
   exact I1.fpOk hc (I1.hok.fresh hc)
end
section
variable {K:PySem.W.Frag} {σ:St} {H:Hp} {D:G5}
theorem W9{ta:TA}{R:It→Hp→Prop}:Jag K ta σ H R=ta σ H fun vs H1=>∃a b,vs=[.ref a,.ref b]∧(∃xs,SqL K H1 a xs)∧(∃ys,SqL K H1 b ys)∧R (Itz K a b) H1:=rfl
theorem J4x{a b:Addr}{xs ys:List V}{g:TG}{tb:TS}(hlen:xs.length=ys.length)(Pv:Nat→St→Hp→Prop)(h0:Pv 0 σ H)(hl:∀i σ H,i≤xs.length→Pv i σ H→SqL K H a xs∧SqL K H b ys)
 (hs:∀i x y σ H t,xs[i]?=some x→ys[i]?=some y→Pv i σ H→H t=none→g (.ref t) σ (upd H t (.tup [x,y])) fun σ2 H2=>tb {D with nx:=Pv (i+1),ct:=Pv (i+1),bk:=D.nx} σ2 H2) (hd:∀σ H,Pv xs.length σ H→D.nx σ H):Kd g tb D σ (Itz K a b) H:=by
 refine ⟨fun i m σ H=>i≤xs.length∧m=xs.length - i∧Pv i σ H,⟨_,FB _,rfl,h0⟩,fun i m σ H ⟨hi,hm,hP⟩=>?_⟩;obtain ⟨hq,hq2⟩:=hl i σ H hi hP
 by_cases hlt:i < xs.length
 · have hx:xs[i]?=some xs[i]:=Fb hlt
   have hy:ys[i]?=some (ys[i]'(by omega)):=Fb (by omega);refine .inr ⟨⟨xs,ys,_,_,hq,hq2,hx,hy⟩,Pv (i+1),fun σ' H' h=>⟨xs.length - (i+1),by omega,by omega,rfl,h⟩,?_⟩;rintro v H' ⟨t,x',y',rfl,ht,rfl,h1,h2⟩;have e:=(h1 xs hq).symm.trans hx;have e2:=(h2 ys hq2).symm.trans hy;cases e;cases e2;exact hs i _ _ σ H t hx hy hP ht
 · have e:i=xs.length:=by omega
   subst e;exact .inl ⟨⟨xs,ys,hq,hq2,.inl (Fg _)⟩,hd σ H hP⟩
end
end L2
namespace L2
abbrev Wa(wi:TI)(fs:List Nat)(tt:Blk→TT)(te:Blk→TE):TE:=Nv wi 1 fs (fun _=>Bz 0) tt te
abbrev g2(K:PySem.W.Frag):Blk→TG:=fun _=>J40 K 2 (M7 (Bz 0) (M7 (Bz 1) J3z))
abbrev J2c(K:PySem.W.Frag)(wi:TI)(fs:List Nat)(tt:Blk→TT)(te:Blk→TE):TE:=Nv wi 2 fs (g2 K) tt te
section
variable {X:Cx} {scope:Scope} {x y:Str} {px py pt:Pos} {n:Nat} {fs:List Nat} {elt iter c:Expr} {pos:Pos} {wi:TI} {tt:Blk→TT} {te:Blk→TE}
theorem J2d(x:Str)(fs:List Nat)(hc:X.calm=true)(hok:Cw X.N X.env.scope scope [x] fs=true)(hi:PI X (.Name x px) iter wi)(ht:∀b,PT (X.blk scope ([x]++around X.N fs) b) c (tt b))(he:∀b,PE (X.blk scope ([x]++around X.N fs) b) elt (te b))
 (hs:∀x,foldedSetIterable iter X.env x=pure x:=by intro _;rfl):PE X (.ListComp elt [⟨.Name x px,iter,[c],0⟩] scope pos) (Wa wi fs tt te):=
 Mi (xs:=[x]) (g:=fun _=>Bz 0) (tt:=tt) hc hok hi (U0 hok) (fun b=>J4h (ht b)) he hs
theorem J4y(hc:X.calm=true)(hok:Cw X.N X.env.scope scope [x,y] fs=true)(b:Blk):PG (X.blk scope ([x,y]++around X.N fs) b) (.Tuple [.Name x px,.Name y py] n pt) (g2 X.K b):=by
 have O:=De hok
 refine Os (X:=X.blk scope ([x,y]++around X.N fs) b) hc (Cg (Bj O.nd rfl (.inl (Hv (O.own x (by simp)))) (.inr (Hv (O.own x (by simp)))))
  (Cg (Bj O.nd rfl (.inl (Hv (O.own y (by simp)))) (.inr (Hv (O.own y (by simp))))) Ls))
theorem J2e(x y:Str)(fs:List Nat)(hc:X.calm=true)(hok:Cw X.N X.env.scope scope [x,y] fs=true)(hi:PI X (.Tuple [.Name x px,.Name y py] n pt) iter wi)(he:∀b,PE (X.blk scope ([x,y]++around X.N fs) b) elt (te b))
 (hs:∀x,foldedSetIterable iter X.env x=pure x:=by intro _;rfl):PE X (.ListComp elt [⟨.Tuple [.Name x px,.Name y py] n pt,iter,[],0⟩] scope pos) (J2c X.K wi fs (fun _=>G9) te):=
 Mi (xs:=[x,y]) (g:=g2 X.K) (tt:=fun _=>G9) hc hok hi (J4y hc hok) (fun _=>P9) he hs
end
section
variable {K:PySem.W.Frag} {tail:St} {tt:Blk→TT} {te:Blk→TE} {Q:VK} {H1:Hp} {σ:St} {H:Hp}
theorem Sb{wi:TI}{fs:List Nat}:Wa wi fs tt te σ H Q=wi σ H (Br (none::fs.map fun j=>σ.getD j none) (fun _=>Bz 0) tt te Q):=rfl
theorem Sd{wi:TI}{fs:List Nat}:J2c K wi fs tt te σ H Q=wi σ H (Br (none::none::fs.map fun j=>σ.getD j none) (g2 K) tt te Q):=rfl
theorem Jah{x y:Option V}{r:St}:J7t (none::none::r) (x::y::r):=fun i v e=>by
 match i with
 | 0=>cases e
 | 1=>cases e
 | i+2=>exact e
theorem Se{H H':Hp}{p:Addr}{o:HO}(s:A7 H H')(h:H p=none):A7 H (upd H' p o):=fun b u e=>by
 rw [A3 (A8 e h)];exact s b u e
theorem J2f{a:Addr}{xs:List V}(p:V→Bool)(f:V→V)(hS:SqL K H1 a xs)(hz:xs.length≤sizeLine)(ht:∀b x H QT,x∈xs→A7 H1 H→(∀H',A7 H H'→QT (p x) H')→tt b (some x::tail) H QT)
 (he:∀b x H Q',x∈xs→p x=true→A7 H1 H→(∀H',A7 H H'→Q' (f x) H')→te b (some x::tail) H Q')
 (q:∀D H',H1 D=none→A7 H1 H'→H' D=some (.lst ((xs.filter p).map f))→Q (.ref D) H'):Br (none::tail) (fun _=>Bz 0) tt te Q (Itl K a) H1:=by
 intro b D hD;refine ⟨fun i m ys H=>m=xs.length - i∧i≤xs.length∧ys=((xs.take i).filter p).map f∧H D=some (.lst ys)∧A7 H1 H,⟨_,rfl,FB _,rfl,A1,C6 hD⟩,?_⟩;rintro i m ys H ⟨rfl,hi,rfl,hd,sm⟩;refine ⟨hd,?_⟩
 by_cases hlt:i < xs.length
 · refine .inr ⟨⟨xs,xs[i],sm.seq hS,by simp [hlt]⟩,fun x H3 ⟨e3,ex⟩=>⟨J6f,?_⟩⟩
   subst e3;have hx:=ex xs (sm.seq hS);have hm:=Ff hx
   have hl:(((xs.take i).filter p).map f).length≤i:=by
    rw [Fa];exact FG (Rr _ _) (by rw [Hm];omega)
   refine ht b x _ _ hm sm fun H7 s7=>?_
   have htk:(xs.take (i+1)).filter p=(xs.take i).filter p++[x].filter p:=by rw [FQ,hx,List.filter_append];rfl
   by_cases hp:p x=true
   · rw [if_pos hp]
     refine he b x H7 _ hm hp (sm.trans s7) fun H8 s8=>?_;have hd8:=(s7.trans s8) _ _ hd;refine ⟨hd8,by omega,xs.length - (i+1),by omega,rfl,hlt,?_,A1,Se ((sm.trans s7).trans s8) hD⟩;rw [htk,List.filter_cons_of_pos hp,List.filter_nil,Fp];rfl
   · rw [if_neg hp]
     refine ⟨xs.length - (i+1),by omega,rfl,hlt,?_,s7 _ _ hd,sm.trans s7⟩;rw [htk,List.filter_cons_of_neg hp,List.filter_nil,FJ]
 · have e:i=xs.length:=by omega
   subst e;refine .inl ⟨⟨xs,sm.seq hS,Fg _⟩,q D H hD sm ?_⟩;rw [hd,Hl]
end
end L2
namespace L2
section
variable {X:Cx}
def J2g:V→List V→Hp→VK→Prop:=fun x vs H Q=>∃l xs y,x= .ref l∧vs=[.int 0,y]∧H l=some (.lst xs)∧xs.length < sizeLine∧Q .non (upd H l (.lst (y::xs)))
theorem O6{x:V}{vs:List V}{H:Hp}{Q:VK}:J2g x vs H Q=∃l xs y,x= .ref l∧vs=[.int 0,y]∧H l=some (.lst xs)∧xs.length < sizeLine∧Q .non (upd H l (.lst (y::xs))):=rfl
end
end L2
namespace L2
def Pf(v d:Addr):HO:= .ext fun h=>h.IsItemsView v d
def Iti(o:Obj)(d:Addr):It:=
 ⟨fun i H=>∃kvs p,H d=some (.frz o (.dK kvs))∧kvs[i]?=some p,fun i H v H'=>∃t k x,v= .ref t∧H t=none∧H'=upd H t (.tup [kV k,x])∧∀kvs,H d=some (.frz o (.dK kvs))→kvs[i]?=some (k,x),
  fun i H=>∃kvs,H d=some (.frz o (.dK kvs))∧kvs.length≤i⟩
section
variable {X:Cx}
def J80:V→List V→Hp→VK→Prop:=fun x vs H Q=>∃a kvs,x= .ref a∧vs=[]∧H a=some (.dK kvs)∧∀v,H v=none→Q (.ref v) (upd H v (Pf v a))
def Jai(tv:TE):TI:=fun σ H R=>tv σ H fun x H1=>∃v d kvs,x= .ref v∧H1 v=some (Pf v d)∧H1 d=some (.dK kvs)∧∀o,R (Iti o d) (upd H1 d (.frz o (.dK kvs)))
end
section
variable {K:PySem.W.Frag} {tail:St} {te:Blk→TE} {Q:VK} {H1:Hp} {σ:St} {H:Hp}
theorem Sf{x:V}{vs:List V}:J80 x vs H Q=∃a kvs,x= .ref a∧vs=[]∧H a=some (.dK kvs)∧∀v,H v=none→Q (.ref v) (upd H v (Pf v a)):=rfl
theorem Sg{tv:TE}{R:It→Hp→Prop}:Jai tv σ H R=tv σ H fun x H1=>∃v d kvs,x= .ref v∧H1 v=some (Pf v d)∧H1 d=some (.dK kvs)∧∀o,R (Iti o d) (upd H1 d (.frz o (.dK kvs))):=rfl
end
end L2
namespace N08
open PySem PySem.Builtin PySem.Builtin.Str PySem.StrLaws
section
variable (x y:Str)
def greedy:List Nat→Nat→List Nat
 | [],_=>[]
 | i::l,free=>if free≤i∧i+y.length≤x.length∧subAt x y i=true then i::greedy l (i+y.length) else greedy l free
theorem K2(limit:Nat):∀(l:List Nat) (arr:Array Nat) (free:Nat),arr.size+l.length≤limit→
 (forIn l (arr,free) (occBody x y x.length limit)).run.fst.toList=arr.toList++greedy x y l free
 | [],arr,free,_=>by simp [greedy]
 | i::l,arr,free,h=>by
  rw [List.forIn_cons];unfold occBody;rw [List.length_cons]at h
  by_cases hc:free≤i∧i+y.length≤x.length∧subAt x y i=true
  · rw [if_pos (show (((arr,free).fst.size < limit∧(arr,free).snd≤i)∧i+y.length≤x.length)∧subAt x y i=true from ⟨⟨⟨by show arr.size < limit;omega,hc.1⟩,hc.2.1⟩,hc.2.2⟩)]
    refine (K2 limit l (arr.push i) (i+y.length) (by rw [Array.size_push];omega)).trans ?_;simp only [greedy];rw [if_pos hc];simp
  · rw [if_neg (show ¬((((arr,free).fst.size < limit∧(arr,free).snd≤i)∧i+y.length≤x.length)∧subAt x y i=true) from fun z=>hc ⟨z.1.1.2,z.1.2,z.2⟩)]
    refine (K2 limit l arr free (by omega)).trans ?_;simp only [greedy];rw [if_neg hc]
theorem Du:∀(pre l:List Nat) (free:Nat),(∀i∈pre,¬(free≤i∧i+y.length≤x.length∧subAt x y i=true))→greedy x y (pre++l) free=greedy x y l free
 | [],l,free,_=>rfl
 | i::pre,l,free,h=>by
  show greedy x y (i::(pre++l)) free=_;simp only [greedy];rw [if_neg (h i Fu)];exact Du pre l free fun j hj=>h j (Fk _ hj)
def cuts(a:Nat):List Nat:=greedy x y (List.range' a (x.length+1 - a)) a
theorem O7{a:Nat}(h:∀i,a≤i→¬At x y x.length i):cuts x y a=[]:=by
 unfold cuts;have:=Du x y (List.range' a (x.length+1 - a)) [] a fun i hi z=>h i z.1 ⟨z.2.1,z.2.2⟩;rw [FJ]at this;rw [this];rfl
theorem Y7{a c:Nat}(hac:a≤c)(hy:1≤y.length)(hc:At x y x.length c)(h:∀i,a≤i→i < c→¬At x y x.length i):cuts x y a=c::cuts x y (c+y.length):=by
 have hcl:=hc.1;unfold cuts
 have e1:List.range' a (x.length+1 - a)=List.range' a (c - a)++List.range' c (x.length+1 - c):=by
  have:=List.range'_append_1 (s:=a) (m:=c - a) (n:=x.length+1 - c);rw [show a+(c - a)=c by omega]at this;rw [this];congr 1;omega
 have e2:List.range' c (x.length+1 - c)=c::List.range' (c+1) (x.length - c):=by
  rw [show x.length+1 - c=(x.length - c)+1 by omega,List.range'_succ]
 have e3:List.range' (c+1) (x.length - c)=List.range' (c+1) (y.length - 1)++List.range' (c+y.length) (x.length+1 - (c+y.length)):=by
  have:=List.range'_append_1 (s:=c+1) (m:=y.length - 1) (n:=x.length+1 - (c+y.length));rw [show c+1+(y.length - 1)=c+y.length by omega]at this;rw [this];congr 1;omega
 rw [e1,Du x y _ _ _ fun i hi z=>?_,e2]
 · simp only [greedy]
   rw [if_pos ⟨hac,hcl,hc.2⟩,e3,Du x y _ _ _ fun i hi z=>?_];rw [RD]at hi;omega
 · rw [RD]at hi
   exact h i hi.1 (by omega) ⟨z.2.1,z.2.2⟩
theorem J2h:occurrences x y 0 x.length (x.length+1)=cuts x y 0:=by
 rw [occ_eq,K2 x y (x.length+1) _ #[] 0 (by simp)];unfold cuts;simp
theorem U9(hk:(decide (strKind x < strKind y))=false):Txt.split x y=partsFrom x y.length 0 (cuts x y 0):=by
 unfold Txt.split;rw [J2h,hk,Bool.or_false]
 by_cases h:x.length < y.length
 · rw [if_pos (by simpa using h),O7 x y fun i _ z=>by have:=z.1;omega]
   show [x]=[strSub x 0 x.length];rw [sub_whole]
 · rw [if_neg (by simpa using h),partsBetween_eq]
   split
   · rename_i h2
     rw [List.isEmpty_iff.mp h2];show [x]=[strSub x 0 x.length];rw [sub_whole]
   · rfl
theorem J2i{a:Nat}:(strSub x a x.length).cps.toList=x.cps.toList.drop a:=by
 rw [strSub_toList,Rk];rw [HZ];simp [Str.length]
end
theorem Wb{x y:Str}(h:x.cps.toList=y.cps.toList):x=y:=by
 cases x;cases y
 simpa using h
open PySem.NumText
theorem Y8:∀c:Nat,c < 58→(Char.ofNat c).toNat=c:=by decide
theorem shown{l:List Nat}(h:AllDigits l)(hne:l≠[])(hh:l=[48]∨∃c r,l=c::r∧49≤c):Str.ofString (toString ((digitsVal l:Nat):Int))=⟨l.toArray⟩:=by
 have e:Nat.toDigits 10 (digitsVal l)=l.map Char.ofNat:=by
  cases hl:l.length with
  | zero=>exact absurd (Hb.mp hl) hne
  | succ n=>
   refine toDigits_digitsVal n l hl h ?_;rcases hh with e | h2
   · subst e
     simp at hl;exact .inl hl
   · exact .inr h2
 have e2:toString ((digitsVal l:Nat):Int)=String.ofList (l.map Char.ofNat):=by
  show Nat.repr (digitsVal l)=_;unfold Nat.repr;rw [e]
 rw [e2];rw [Str.ofString_eq_toList];rw [String.toList_ofList,FH];congr 1;congr 1
 conv=>rhs;rw [← List.map_id l]
 exact List.map_congr_left fun c hc=>Y8 c (by have:=h c hc;omega)
end N08
namespace L2
abbrev g3(K:PySem.W.Frag):Blk→TG:=fun _=>J40 K 3 (M7 (Bz 0) (M7 (Bz 1) (M7 (Bz 2) J3z)))
abbrev J81(K:PySem.W.Frag)(wi:TI)(fs:List Nat)(te:Blk→TE):TE:=Nv wi 3 fs (g3 K) (fun _=>G9) te
section
variable {K:PySem.W.Frag} {tail:St} {te:Blk→TE} {Q:VK} {H1:Hp} {σ:St} {H:Hp}
theorem Sh{wi:TI}{fs:List Nat}:J81 K wi fs te σ H Q=wi σ H (Br (none::none::none::fs.map fun j=>σ.getD j none) (g3 K) (fun _=>G9) te Q):=rfl
end
end L2
namespace N8
open L2 N1 N5 N08
theorem Cy{n:Int}(h0:0≤n)(h1:n < 10 ^ 40):(Str.ofString (toString n)).length≤40:=by
 obtain ⟨m,rfl⟩:=Int.eq_ofNat_of_zero_le h0;rw [Str.ofString_eq_toList];show ((Nat.repr m).toList.map Char.toNat).toArray.size≤40;rw [Fn,Fa,String.length_toList];exact (Nat.length_repr_le_iff (by decide)).mpr (by exact_mod_cast h1)
end N8
namespace N12
open L2 N1 N5 N4 N6
def Em:Sp:=fun vs H Q _=>∃(i:Int) (m:Nat),vs=[.int i,.int m]∧m≤26∧∀(p:Addr) (ys:List Str) (H':Hp),H p=none→A7 H H'→H' p=some (.lst (ys.map V.str))→ys.length≤m→m≤ys.length→ys.Nodup→(∀y∈ys,B9 y.cps.toList=true)→Q (.ref p) H'
theorem Y9{ys:List Str}{z:Str}(nd:ys.Nodup)(h:z∉ys)(j:Nat):(ys.set j z).Nodup:=by
 induction ys generalizing j with
 | nil=>exact nd
 | cons a ys ih=>
  rw [FO]at nd;have h1:z≠a:=fun e=>h (by rw [e];exact Fu);have h2:z∉ys:=fun e=>h (Fk _ e)
  cases j with
  | zero=>exact FO.mpr ⟨h2,nd.2⟩
  | succ j=>
   refine FO.mpr ⟨fun e=>?_,ih nd.2 h2 j⟩;rcases List.mem_or_eq_of_mem_set e with e | e
   · exact nd.1 e
   · exact h1 e.symm
theorem J82{n k:Nat}(h:k < n):ixN n (k:Int)=some k:=by
 unfold ixN;rw [if_pos (by omega),if_pos (by omega)];simp
theorem seven:(Str.ofString "7").cps.toList=[55]∧(Str.ofString "7").length=1:=by decide+kernel
end N12
namespace N6
open L2 N1 N5 N4
def M0(K:PySem.W.Frag)(C S:Addr):Sp:=fun vs H Q _=>∃(q p d:Addr) (n:Int) (ls:Ly) (ts:List Th) (z:Str) (r:Int),vs=[.ref q,.str z]∧Ax S H q p d n ls∧Bw K C H p ts d∧(ts.map (·.1)).Nodup∧ls.length≤1000∧
 z∈ts.map (·.1)∧(∀t∈ts,t.1=z→t.2.2=r)∧¬z∈lyN ls∧r≤n - lyS ls∧∀H',SameBut d H H'→Ax S H' q p d n (ls++[(z,r)])→Q .non H'
def Km(S:Addr):Sp:=fun vs H Q _=>∃(q p d:Addr) (n:Int) (ls:Ly) (z:Str),vs=[.ref q,.str z]∧Ax S H q p d n ls∧z∈lyN ls∧∀H',SameBut d H H'→Ax S H' q p d n (lyD ls z)→Q .non H'
end N6
namespace L2
open PySem.W
def J6m(K:PySem.W.Frag):List V→Hp→VK→Prop:=fun xs H Q=>∃(p:Addr) (is:List Int),xs=[.ref p]∧SqL K H p (is.map V.int)∧Q (.int is.sum) H
def Jaj(K:PySem.W.Frag):V→V→Hp→VK→Prop:=fun o i H Q=>∃(p:Addr) (xs:List V) (k:Nat) (v:V),o= .ref p∧i= .int k∧SqL K H p xs∧xs[k]?=some v∧Q v H
theorem Ya(is:List Int):preSum (fun i=>is.getD i 0) is.length=is.sum:=by
 have key:∀n,n≤is.length→preSum (fun i=>is.getD i 0) n=(is.take n).sum:=by
  intro n
  induction n with
  | zero=>intro _;rfl
  | succ n ih=>
   intro h
   have e:is.take (n+1)=is.take n++[is.getD n 0]:=by
    rw [FQ,Fc,Fb (by omega)];rfl
   rw [preSum,ih (by omega),e,Rn];simp
 have:=key is.length (Fg _)
 rwa [Hl]at this
section
variable {X:Cx}
theorem O8(hc:X.calm=true):D7 X (.builtin "sum") (J6m X.K):=by
 intro pins s σ H xs us Q I r h;obtain ⟨p,is,rfl,hp,q⟩:=h;obtain ⟨u,rfl,ru⟩:=Do r;cases ru;obtain ⟨its,r,pl,hz⟩:=I.list hp
 have hlt:p < s.heap.objs.size:=by obtain ⟨o,n,e,_⟩:=pl;exact Fl e
 have hlen:=r.length;rw [Fa]at hlen;refine call_sum_walkAnyS (R8 pl.isList ⟨s.heap.objs.size,_,_,_,_,_,_,fun i=>is.getD i 0,rfl,(Walks.list (show X.A.in1.handled=none from I.ok.hd hc) s.heap.objs.size p (Fo hlt) its.toArray).toS,⟨⟨_,Fs _ rfl,rfl,rfl⟩,pl.isList.push _⟩,fun b hb=>?_,fun i v hP=>?_,fun s' t' hmv=>?_⟩)
 · show b < (s.heap.push _).objs.size
   rw [Ru];rcases Fv.mp hb with e | hb
   · rw [e];exact HE _
   · rw [Fh.mp hb];exact R9 hlt
 · have hP:its.toArray[i]?=some v:=hP
   have hi:i < is.length:=by
    have:=(Array.getElem?_eq_some_iff.mp hP).1;rw [Fn]at this;omega
   obtain ⟨u,hu,ru⟩:=r.get (i:=i) (x:=V.int (is[i])) (by simp [hi])
   have e:u=v:=by
    have:its[i]?=some v:=by simpa using hP
    rw [hu]at this;exact FL this
   subst e;show ∃t,u=Value.int (is.getD i 0) t;rw [Fc,Fb hi];exact ru
 · have hk:∀b o,s.heap.get? b=some o→s'.heap.get? b=some o:=fun b o e=>
    hmv.heap b o (fun hI=>absurd (Fl e) (by rw [Fh.mp hI];exact Hj _)) (Fd _ e)
   rw [Moved.eq_with hmv];refine ⟨.int is.sum,H,I.kept (t':=s'.toks) hk,⟨t',?_⟩,q⟩;rw [Fn,← hlen,Ya]
end
section
variable {σ:St} {H:Hp} {Q:VK} {D:G5} {K:PySem.W.Frag} {xs:List V} {x y:V}
theorem Wc:J6m K xs H Q=∃(p:Addr) (is:List Int),xs=[.ref p]∧SqL K H p (is.map V.int)∧Q (.int is.sum) H:=rfl
theorem Wd:Jaj K x y H Q=∃(p:Addr) (xs:List V) (k:Nat) (v:V),x= .ref p∧y= .int k∧SqL K H p xs∧xs[k]?=some v∧Q v H:=rfl
theorem We{to ti te:TE}{tget:V→V→Hp→VK→Prop}{tip:TIp}{tset:Xe}:J98 to ti te tget tip tset D σ H=to σ H fun o H1=>ti σ H1 fun i H2=>tget o i H2 fun x H3=>te σ H3 fun y H4=>tip x y H4 fun z H5=>tset o i z H5 fun H6=>D.nx σ H6:=rfl
theorem J2j{f:Int→Int→Int}:ipI f x y H Q=∃i j,x= .int i∧y= .int j∧Q (.int (f i j)) H:=rfl
end
end L2
namespace N31
open L2 N1 N5
end N31
namespace N32
open L2 N1 N5 N31
def tl(f:Nat→Int)(b n:Nat):Int:=((List.range' b (n - b)).map f).sum
end N32
namespace N32
open L2 N1 N5 N31 N4
def rm(ts:List Th)(z:Str):Int:=((ts.find? fun t=>decide (t.1=z)).map (·.2.2)).getD 0
theorem O9{ts:List Th}(nd:(ts.map (·.1)).Nodup){i:Nat}{t:Th}(h:ts[i]?=some t):rm ts t.1=t.2.2:=by
 induction ts generalizing i with
 | nil=>simp at h
 | cons u r ih=>
  rw [List.map_cons,FO]at nd
  cases i with
  | zero=>
   rw [List.getElem?_cons_zero]at h;cases h;simp [rm]
  | succ i=>
   rw [List.getElem?_cons_succ]at h;have ne:¬u.1=t.1:=fun e=>nd.1 (by rw [e];exact Fz.mpr ⟨t,Ff h,rfl⟩);have:=ih nd.2 h;unfold rm at this ⊢;rw [List.find?_cons_of_neg (by simpa using ne)];exact this
theorem none_of{H H':Hp}{D:Addr}(s:A7 H H')(h:H' D=none):H D=none:=by
 cases e:H D with
 | none=>rfl
 | some o=>rw [s _ _ e]at h;cases h
def En:Sp:=fun vs H Q _=>∃(i:Int),vs=[.int i]∧1≤i∧i≤1000000∧Q .non H
def Eo(K:PySem.W.Frag)(C:Addr):Sp:=fun vs H Q _=>∃(p:Addr) (ts:List Th) (z:Str),vs=[.ref p,.str z]∧Af K C H p ts∧(ts.map (·.1)).Nodup∧z∈ts.map (·.1)∧∀(i:Nat) (t:Th),ts[i]?=some t→t.1=z→∀a,SqT K H a [.int i,.int t.2.1,.int t.2.2]→Q (.ref a) H
def Ia(K:PySem.W.Frag)(C:Addr):Sp:=fun vs H Q _=>∃(p:Addr) (ts:List Th) (z:Str),vs=[.ref p,.str z]∧Af K C H p ts∧(ts.map (·.1)).Nodup∧z∈ts.map (·.1)∧Q (.int (rm ts z)) H
def Oa(K:PySem.W.Frag)(C:Addr):Sp:=fun vs H Q _=>∃(p a:Addr) (pl:Int) (ts:List Th) (ys:List Str),vs=[.ref p,.ref a,.int pl]∧Af K C H p ts∧(ts.map (·.1)).Nodup∧SqL K H a (ys.map V.str)∧ys.length≤200∧(∀y∈ys,y∈ts.map (·.1))∧(∀t∈ts,t.2.2≤pl)∧1≤pl∧pl≤1000000∧∀H',A7 H H'→Q (.bl true) H'
section
variable {K:PySem.W.Frag} {σ:L2.St} {H:Hp} {Q:VK}
theorem Si{td ty:TE}:J7h td ty σ H Q=td σ H fun x H1=>∃a,x= .ref a∧IsD H1 a∧ty σ H1 fun y H2=>∃o,D0 H2 a y o∧Q (o.getD .non) H2:=rfl
theorem Sj{tk tv:TE}:J9v [(tk,tv)] σ H Q=∀p,H p=none→tk σ (upd H p (.dK [])) fun x H1=>tv σ H1 fun y H2=>H2 p=some (.dK [])∧∃kvs:List (Key×V),[(x,y)]=kvs.map (fun kv=>(kV kv.1,kv.2))∧kvs.length≤15∧Q (.ref p) (upd H2 p (.dK (J0e [] kvs))):=rfl
end
end N32
open L2 N1 N5 N31 N4 N32
namespace N41
def sm(f:Str→Int)(L:List Str):Int:=(L.map f).sum
theorem D5(f:Str→Int):sm f []=0:=rfl
theorem C9(f:Str→Int)(x:Str)(L:List Str):sm f (x::L)=f x+sm f L:=by unfold sm;rw [List.map_cons,List.sum_cons]
theorem J2k(f:Str→Int)(L M:List Str):sm f (L++M)=sm f L+sm f M:=by unfold sm;rw [Fp,Rn]
theorem Jak{f:Str→Int}{L:List Str}(h:∀y∈L,0≤f y):0≤sm f L:=by
 induction L with
 | nil=>exact HG _
 | cons x r ih=>
  rw [C9];have h1:=h x Fu;have h2:=ih fun y hy=>h y (Fk _ hy);omega
theorem J2l{f:Str→Int}{L:List Str}{z:Str}(h:z∈L):sm f (L.erase z)=sm f L - f z:=by
 induction L with
 | nil=>cases h
 | cons x r ih=>
  by_cases e:x=z
  · subst e;rw [List.erase_cons_head,C9];omega
  · rw [List.erase_cons_tail (by simpa using e),C9,C9,ih ((Fv.mp h).resolve_left fun k=>e k.symm)];omega
end N41
namespace N41
def cst(ts:List Th)(z:Str):Int:=((ts.find? fun t=>decide (t.1=z)).map (·.2.1)).getD 0
theorem Ph{ts:List Th}(nd:(ts.map (·.1)).Nodup){i:Nat}{t:Th}(h:ts[i]?=some t):cst ts t.1=t.2.1:=by
 induction ts generalizing i with
 | nil=>simp at h
 | cons u r ih=>
  rw [List.map_cons,FO]at nd
  cases i with
  | zero=>
   rw [List.getElem?_cons_zero]at h;cases h;simp [cst]
  | succ i=>
   rw [List.getElem?_cons_succ]at h;have ne:¬u.1=t.1:=fun e=>nd.1 (by rw [e];exact Fz.mpr ⟨t,Ff h,rfl⟩);have:=ih nd.2 h;unfold cst at this ⊢;rw [List.find?_cons_of_neg (by simpa using ne)];exact this
def Ib(K:PySem.W.Frag)(C:Addr):Sp:=fun vs H Q _=>∃(p a:Addr) (pl:Int) (ts:List Th) (ys:List Str),vs=[.ref p,.ref a,.int pl]∧Af K C H p ts∧(ts.map (·.1)).Nodup∧SqL K H a (ys.map V.str)∧ys.length≤200∧(∀y∈ys,y∈ts.map (·.1))∧(∀y∈ys,rm ts y≤pl)∧1≤pl∧pl≤1000000∧∀H',A7 H H'→Q (.bl true) H'
def Eb(K:PySem.W.Frag)(C:Addr):Sp:=fun vs H Q _=>∃(p:Addr) (ts:List Th) (z:Str),vs=[.ref p,.str z]∧Af K C H p ts∧(ts.map (·.1)).Nodup∧z∈ts.map (·.1)∧Q (.int (cst ts z)) H
end N41
namespace L2
open PySem.W
def Jal(K:PySem.W.Frag):List V→Hp→VK→Prop:=fun xs H Q=>∃(p:Addr) (is:List Int),xs=[.ref p]∧SqL K H p (is.map V.int)∧is≠[]∧∀v∈is,(∀x∈is,x≤v)→Q (.int v) H
theorem Wf(val:Nat→Int):∀k,argBest (fun i j=>decide (val i < val j)) k≤k∧∀j,j≤k→val (argBest (fun i j=>decide (val i < val j)) k)≤val j:=by
 intro k
 induction k with
 | zero=>exact ⟨Fg _,fun j hj=>by rw [Nat.le_zero.mp hj];exact HG _⟩
 | succ k ih=>
  unfold argBest;split
  · rename_i h
    have h:=of_decide_eq_true h;refine ⟨Fg _,fun j hj=>?_⟩
    by_cases e:j=k+1
    · rw [e];exact HG _
    · have:=ih.2 j (by omega);omega
  · rename_i h
    have h:¬(val (k+1) < _):=fun z=>h (FA z);refine ⟨Nat.le_succ_of_le ih.1,fun j hj=>?_⟩
    by_cases e:j=k+1
    · rw [e];omega
    · exact ih.2 j (by omega)
section
variable {K:PySem.W.Frag} {H:Hp} {Q:VK} {xs:List V}
theorem Wh:Jal K xs H Q=∃(p:Addr) (is:List Int),xs=[.ref p]∧SqL K H p (is.map V.int)∧is≠[]∧∀v∈is,(∀x∈is,x≤v)→Q (.int v) H:=rfl
end
end L2
namespace L2
theorem Wi{σ:St}{H:Hp}{D:G5}{i:Nat}{te:TE}{ti:TIp}:J97 i te ti D σ H=∃x,σ[i]?=some (some x)∧te σ H fun y H1=>ti x y H1 fun z H2=>D.nx (σ.set i (some z)) H2:=rfl
end L2
namespace L2
def J2m(K:PySem.W.Frag):Nat→Hp→V→V→Prop
 | 0,_,x,y=>x=y∧Co x=true
 | n+1,H,x,y=>J2m K n H x y∨∃a b xs ys,x= .ref a∧y= .ref b∧((SqL K H a xs∧SqL K H b ys)∨(SqT K H a xs∧SqT K H b ys))∧xs.length=ys.length∧∀(i:Nat) (x' y':V),xs[i]?=some x'→ys[i]?=some y'→J2m K n H x' y'
def Wj(K:PySem.W.Frag)(n:Nat)(H:Hp)(x y:V):Prop:=∃a b xs ys,x= .ref a∧y= .ref b∧((SqL K H a xs∧SqL K H b ys)∨(SqT K H a xs∧SqT K H b ys))∧xs.length=ys.length∧∀(i:Nat) (x' y':V),xs[i]?=some x'→ys[i]?=some y'→J2m K n H x' y'
section
variable {X:Cx} {pins:List (Addr×Obj)} {σ:St} {H:Hp} {s:Shared}
def Jb9(K:PySem.W.Frag)(n:Nat):R2:=fun x y H Q=>Wj K n H x y∧Q (.bl true) H
def Jba(K:PySem.W.Frag)(n:Nat):R2:=fun x y H Q=>Wj K n H x y∧Q (.bl false) H
theorem J2n{K:PySem.W.Frag}{H:Hp}{Q:VK}{x y:V}{n:Nat}:Jb9 K n x y H Q=(Wj K n H x y∧Q (.bl true) H):=rfl
theorem J2o{K:PySem.W.Frag}{H:Hp}{Q:VK}{x y:V}{n:Nat}:Jba K n x y H Q=(Wj K n H x y∧Q (.bl false) H):=rfl
end
end L2
namespace L2
open PySem.W
def Jam:List V→Hp→VK→Prop:=fun xs H Q=>∃(v d:Addr) (kvs:List (Key×V)) (is:List Int),xs=[.ref v]∧H v=some (Mm v d)∧H d=some (.dK kvs)∧kvs.map (·.2)=is.map V.int∧is≠[]∧∀m∈is,(∀x∈is,x≤m)→Q (.int m) H
section
variable {X:Cx}
theorem Wl{xs:List V}{H:Hp}{Q:VK}:Jam xs H Q=∃(v d:Addr) (kvs:List (Key×V)) (is:List Int),xs=[.ref v]∧H v=some (Mm v d)∧H d=some (.dK kvs)∧kvs.map (·.2)=is.map V.int∧is≠[]∧∀m∈is,(∀x∈is,x≤m)→Q (.int m) H:=rfl
end
end L2
namespace N14
open L2 N1 N5 N4 N6 N12 N32
abbrev Row:=Str×Bool×List Str
def G0(ls:Ly)(gone:List Str):Ly:=gone.foldl lyD ls
def okG(z:Str):Ly→List Str→Prop
 | _,[]=>True
 | ls,o::r=>o≠z∧o∈lyN ls∧okG z (lyD ls o) r
def Wm(R:Str→Int)(n:Int)(ls:Ly)(z:Str)(row:Row):Prop:=row.1=z∧row.2.1=decide (z∈lyN ls)∧okG z ls row.2.2∧(z∉lyN ls→R z≤n - lyS (G0 ls row.2.2))
def D9(R:Str→Int)(ls:Ly)(z:Str)(gone:List Str):Ly:=if z∈lyN ls then G0 ls gone else G0 ls gone++[(z,R z)]
def Mr(R:Str→Int):Ly→List (Str×List Str)→Ly
 | ls,[]=>ls
 | ls,(z,g)::r=>Mr R (D9 R ls z g) r
structure Ge(K:PySem.W.Frag)(H:Hp)(b:Addr)(as gs:List Addr)(rs:List Row):Prop where
 l:SqL K H b (as.map V.ref)
 n:as.length=rs.length
 m:gs.length=rs.length
 t:∀(i:Nat) (a g:Addr) (r:Row),as[i]?=some a→gs[i]?=some g→rs[i]?=some r→SqT K H a [.str r.1,.bl r.2.1,.ref g]∧SqL K H g (r.2.2.map V.str)
theorem Ge.same{K:PySem.W.Frag}{H H':Hp}{b:Addr}{as gs:List Addr}{rs:List Row}(s:A7 H H')(h:Ge K H b as gs rs):Ge K H' b as gs rs:=
 ⟨s.seq h.l,h.n,h.m,fun i a g r e1 e2 e3=>⟨s.tup (h.t i a g r e1 e2 e3).1,s.seq (h.t i a g r e1 e2 e3).2⟩⟩
theorem J2p{z:Str}:∀{ls:Ly} {gone:List Str} {i:Nat} {o:Str},okG z ls gone→gone[i]?=some o→o≠z∧o∈lyN (G0 ls (gone.take i)):=by
 intro ls gone
 induction gone generalizing ls with
 | nil=>intro i o _ h;simp at h
 | cons x r ih=>
  intro i o h e;obtain ⟨h1,h2,h3⟩:=h
  cases i with
  | zero=>cases e;exact ⟨h1,h2⟩
  | succ i=>exact ih h3 e
theorem Yb{ls:Ly}{gone:List Str}{i:Nat}{o:Str}(h:gone[i]?=some o):G0 ls (gone.take (i+1))=lyD (G0 ls (gone.take i)) o:=by
 unfold G0;rw [FQ,h,RE];rfl
def Ep(K:PySem.W.Frag)(S:Addr):Sp:=fun vs H Q _=>∃(q p d g:Addr) (n:Int) (ls:Ly) (z:Str) (gone:List Str),vs=[.ref q,.str z,.ref g]∧Ax S H q p d n ls∧SqL K H g (gone.map V.str)∧okG z ls gone∧
 ∀H',SameBut d H H'→Ax S H' q p d n (G0 ls gone)→Q (.bl true) H'
def Dv(K:PySem.W.Frag)(C S:Addr):Sp:=fun vs H Q _=>∃(q p d r g:Addr) (n:Int) (ls:Ly) (ts:List Th) (z:Str) (row:Row),vs=[.ref q,.str z,.ref r]∧Ax S H q p d n ls∧Bw K C H p ts d∧(ts.map (·.1)).Nodup∧z∈ts.map (·.1)∧ls.length≤500∧SqT K H r [.str row.1,.bl row.2.1,.ref g]∧SqL K H g (row.2.2.map V.str)∧Wm (rm ts) n ls z row∧
 ∀H',SameBut d H H'→Ax S H' q p d n (D9 (rm ts) ls z row.2.2)→Q (.bl true) H'
theorem Jan{ts:List Th}{z:Str}{r:Int}(nd:(ts.map (·.1)).Nodup)(hz:z∈ts.map (·.1))(h:∀t∈ts,t.1=z→t.2.2=r):rm ts z=r:=by
 obtain ⟨i,t,ht,rfl⟩:=W8 hz;rw [O9 nd ht,h t (Ff ht) rfl]
theorem J83(ls:Ly)(z:Str):(lyD ls z).length≤ls.length:=Rr _ _
theorem Wn(ls:Ly)(g:List Str):(G0 ls g).length≤ls.length:=by
 unfold G0
 induction g generalizing ls with
 | nil=>exact Fg _
 | cons x r ih=>exact FG (ih _) (J83 _ _)
theorem Wo{ls:Ly}{z u:Str}:u∈lyN (lyD ls z)↔u∈lyN ls∧u≠z:=by
 unfold lyN lyD;simp only [Fz,Rp,decide_eq_true_eq];constructor
 · rintro ⟨x,⟨h1,h2⟩,rfl⟩;exact ⟨⟨x,h1,rfl⟩,h2⟩
 · rintro ⟨⟨x,h1,rfl⟩,h2⟩;exact ⟨x,⟨h1,h2⟩,rfl⟩
theorem Sk{ls:Ly}{g:List Str}{u:Str}:u∈lyN (G0 ls g)↔u∈lyN ls∧u∉g:=by
 unfold G0
 induction g generalizing ls with
 | nil=>simp
 | cons x r ih=>
  rw [List.foldl_cons,ih,Wo,Fv,and_assoc];constructor
  · rintro ⟨h1,h2,h3⟩;exact ⟨h1,fun h=>h.elim h2 h3⟩
  · rintro ⟨h1,h2⟩;exact ⟨h1,fun h=>h2 (.inl h),fun h=>h2 (.inr h)⟩
theorem Ms{R:Str→Int}:∀(xs:List (Str×List Str)) (ls:Ly) (z:Str) (g:List Str),Mr R ls (xs++[(z,g)])=D9 R (Mr R ls xs) z g
 | [],_,_,_=>rfl
 | (_,_)::r,_,_,_=>Ms r _ _ _
def J4z(ys:List Str)(rs:List Row):List (Str×List Str):=ys.zip (rs.map (·.2.2))
def stL(R:Str→Int)(ys:List Str)(rs:List Row)(i:Nat):Ly:=Mr R [] ((J4z ys rs).take i)
theorem J50{ys:List Str}{rs:List Row}{i:Nat}{z:Str}{r:Row}(h1:ys[i]?=some z)(h2:rs[i]?=some r):(J4z ys rs)[i]?=some (z,r.2.2):=by
 unfold J4z;rw [R7];exact ⟨h1,by rw [Fe,h2];rfl⟩
theorem Sl{R:Str→Int}{ys:List Str}{rs:List Row}{i:Nat}{z:Str}{r:Row}(h1:ys[i]?=some z)(h2:rs[i]?=some r):stL R ys rs (i+1)=D9 R (stL R ys rs i) z r.2.2:=by
 unfold stL;rw [FQ,J50 h1 h2];exact Ms _ _ _ _
theorem J2q(R:Str→Int)(ls:Ly)(z:Str)(g:List Str):(D9 R ls z g).length≤ls.length+1:=by
 have h:=Wn ls g;unfold D9;split
 · omega
 · rw [Fm];simpa using h
theorem Sm(R:Str→Int):∀(xs:List (Str×List Str)) (ls:Ly),(Mr R ls xs).length≤ls.length+xs.length
 | [],ls=>by simp [Mr]
 | (z,g)::r,ls=>by
  have h:=Sm R r (D9 R ls z g);have h':=J2q R ls z g;simp only [Mr,List.length_cons];omega
theorem J84(R:Str→Int)(ys:List Str)(rs:List Row)(i:Nat):(stL R ys rs i).length≤i:=by
 have h:=Sm R ((J4z ys rs).take i) [];rw [Hm]at h;unfold stL;simp only [List.length_nil]at h;omega
structure J2r(R:Str→Int)(n:Int)(ys:List Str)(rs:List Row):Prop where
 len:ys.length=rs.length
 row:∀{i:Nat} {z:Str} {r:Row},ys[i]?=some z→rs[i]?=some r→Wm R n (stL R ys rs i) z r
structure Pj(H H':Hp)(l:Addr)(qs:List Addr)(W:Nat→Ly)(n:Nat):Prop where
 L:H' l=some (.lst (qs.map V.ref))
 N:qs.length=n
 d:(l::qs).Nodup
 q:∀(j:Nat) (q:Addr),qs[j]?=some q→H q=none∧H' q=some (.lst ((lyN (W (j+1))).map V.str))
def Er(K:PySem.W.Frag)(C:Addr):Sp:=fun vs H Q _=>∃(p a b:Addr) (n:Int) (ts:List Th) (ys:List Str) (as gs:List Addr) (rs:List Row),vs=[.ref p,.ref a,.int n,.ref b]∧Af K C H p ts∧(ts.map (·.1)).Nodup∧SqL K H a (ys.map V.str)∧ys.length≤200∧(∀y∈ys,y∈ts.map (·.1))∧(∀y∈ys,rm ts y≤n)∧1≤n∧n≤1000000∧
 Ge K H b as gs rs∧J2r (rm ts) n ys rs∧∀l qs H',H l=none→A7 H H'→Pj H H' l qs (stL (rm ts) ys rs) ys.length→Q (.ref l) H'
theorem Pj.same{H H' H1:Hp}{l:Addr}{qs:List Addr}{W:Nat→Ly}{n:Nat}(h:Pj H H' l qs W n)(s:A7 H' H1):Pj H H1 l qs W n:=⟨s _ _ h.L,h.N,h.d,fun j q hj=>⟨(h.q j q hj).1,s _ _ (h.q j q hj).2⟩⟩
theorem Pj.step{H H' H1:Hp}{l d x:Addr}{qs:List Addr}{W:Nat→Ly}{n:Nat}{kvs:List (Key×V)}(h:Pj H H' l qs W n)(hs:A7 H H')(hd:H' d=some (.dK kvs))(sb:SameBut d H' H1)(hH:A7 H H1)(hx:H1 x=none):Pj H (upd (upd H1 x (.lst ((lyN (W (n+1))).map V.str))) l (.lst ((qs++[x]).map V.ref))) l (qs++[x]) W (n+1):=by
 have hld:l≠d:=fun e=>by have:=h.L;rw [e,hd]at this;cases this
 have hl1:=sb _ _ h.L hld
 have hlx:l≠x:=fun e=>by rw [e,hx]at hl1;cases hl1
 have hqx:∀q∈qs,q≠x∧q≠l∧H1 q=H' q:=fun q hq=>by
  obtain ⟨j,hj⟩:=Rt hq;have h2:=(h.q j q hj).2
  have hqd:q≠d:=fun e=>by rw [e,hd]at h2;cases h2
  have h3:=sb _ _ h2 hqd;refine ⟨fun e=>(by rw [e,hx]at h3;cases h3),fun e=>(FO.mp h.d).1 (e▸hq),by rw [h3,h2]⟩
 refine ⟨A1,by rw [Fm,h.N];rfl,?_,?_⟩
 · rw [← List.cons_append,FV]
   refine ⟨h.d,FO.mpr ⟨by simp,Ho⟩,fun y hy u hu=>?_⟩;rw [Fh]at hu;rw [hu];rcases Fv.mp hy with e | e
   · rw [e];exact hlx
   · exact (hqx y e).1
 · intro j q hj
   rcases Nat.lt_or_ge j qs.length with h1 | h1
   · rw [Fy h1]at hj
     obtain ⟨n1,n2,n3⟩:=hqx q (Ff hj);rw [A3 n2,A3 n1,n3];exact h.q j q hj
   · rw [FD h1]at hj
     have e:j - qs.length=0:=by
      rcases Nat.eq_zero_or_pos (j - qs.length) with e | e
      · exact e
      · rw [FS (by simp;omega)]at hj;cases hj
     rw [e]at hj;cases hj
     have ej:j=n:=by have:=h.N;omega
     subst ej;refine ⟨?_,by rw [A3 hlx.symm];exact A1⟩
     cases e2:H x with
     | none=>rfl
     | some o=>rw [hH _ _ e2]at hx;cases hx
theorem Sn{H H':Hp}{x dx:Addr}{o1 o2:HO}(h1:H x=none)(h2:H dx=none)(sb:SameBut x (upd (upd H dx o1) x o2) H'):A7 H H':=fun b o e=>by
 have n1:b≠x:=fun h=>by rw [h,h1]at e;cases e
 have n2:b≠dx:=fun h=>by rw [h,h2]at e;cases e
 exact sb _ _ (by rw [A3 n1,A3 n2];exact e) n1
theorem So{H:Hp}{x dx d:Addr}{o1 o2:HO}(h:upd (upd H dx o1) x o2 d=none):H d=none:=by
 by_cases e1:d=x
 · rw [e1,A1]at h;cases h
 rw [A3 e1]at h
 by_cases e2:d=dx
 · rw [e2,A1]at h;cases h
 rw [A3 e2]at h;exact h
theorem Bf{H H':Hp}{d:Addr}(s:A7 H H')(h:H' d=none):H d=none:=by
 cases e:H d with
 | none=>rfl
 | some o=>rw [s _ _ e]at h;cases h
theorem Mt{H H' H1:Hp}{d:Addr}(s:A7 H H')(hd:H d=none)(sb:SameBut d H' H1):A7 H H1:=fun b o e=>sb _ _ (s _ _ e) fun h=>by rw [h,hd]at e;cases e
theorem Wp{H H':Hp}{l:Addr}{o:HO}(s:A7 H H')(hl:H l=none):A7 H (upd H' l o):=fun b u e=>by
 rw [A3 (fun h=>by rw [h,hl]at e;cases e)];exact s _ _ e
structure OkL(R:Str→Int)(ns:List Str)(ls:Ly):Prop where
 nd:(lyN ls).Nodup
 r:∀x∈ls,x.2=R x.1
 s:∀u∈lyN ls,u∈ns
theorem OkL.nil{R:Str→Int}{ns:List Str}:OkL R ns []:=⟨Ho,by simp,by simp [lyN]⟩
theorem OkL.drop{R:Str→Int}{ns:List Str}{ls:Ly}{z:Str}(h:OkL R ns ls):OkL R ns (lyD ls z):=
 ⟨by rw [Gz h.nd];exact h.nd.erase _,fun x hx=>h.r x (Rp.mp hx).1,fun u hu=>h.s u (Wo.mp hu).1⟩
theorem OkL.drops{R:Str→Int}{ns:List Str}{ls:Ly}{g:List Str}(h:OkL R ns ls):OkL R ns (G0 ls g):=by
 unfold G0
 induction g generalizing ls with
 | nil=>exact h
 | cons x r ih=>exact ih h.drop
theorem OkL.put{R:Str→Int}{ns:List Str}{ls:Ly}{z:Str}(h:OkL R ns ls)(hz:z∉lyN ls)(hn:z∈ns):OkL R ns (ls++[(z,R z)]):=by
 have e:lyN (ls++[(z,R z)])=lyN ls++[z]:=by unfold lyN;rw [Fp];rfl
 refine ⟨?_,?_,?_⟩
 · rw [e,FV]
   refine ⟨h.nd,by simp,fun y hy u hu=>?_⟩;rw [Fh]at hu;rw [hu];exact fun e=>hz (e▸hy)
 · intro x hx
   rcases FF.mp hx with h1 | h1
   · exact h.r x h1
   · rw [Fh.mp h1]
 · intro u hu
   rw [e]at hu;rcases FF.mp hu with h1 | h1
   · exact h.s u h1
   · rw [Fh.mp h1];exact hn
theorem OkL.step{R:Str→Int}{ns:List Str}{ls:Ly}{z:Str}{g:List Str}(h:OkL R ns ls)(hn:z∈ns):OkL R ns (D9 R ls z g):=by
 unfold D9;split
 · exact h.drops
 · rename_i hz
   exact h.drops.put (fun hh=>hz (Sk.mp hh).1) hn
def Kp(M:List Addr)(H H':Hp):Prop:=∀b o,b∉M→H b=some o→H' b=some o
theorem Kp.trans{M:List Addr}{H H1 H2:Hp}(h1:Kp M H H1)(h2:Kp M H1 H2):Kp M H H2:=fun b o n e=>h2 b o n (h1 b o n e)
theorem Kp.of{M:List Addr}{H H1:Hp}(h:A7 H H1):Kp M H H1:=fun b o _ e=>h b o e
theorem Kp.upd{M:List Addr}{H H1:Hp}{p:Addr}{o:HO}(h:Kp M H H1)(hp:p∈M):Kp M H (upd H1 p o):=fun b u n e=>by
 have hb:b≠p:=fun e2=>n (by rw [e2];exact hp);rw [A3 hb];exact h b u n e
theorem Kp.same{M:List Addr}{H0 H H1:Hp}(s:A7 H0 H)(h:Kp M H H1)(hn:∀p∈M,H0 p=none):A7 H0 H1:=fun b o e=>h b o (fun hb=>by rw [hn b hb]at e;cases e) (s b o e)
theorem Pk{α:Type}{xs:List α}{y z:α}{i:Nat}(h:(xs++[y])[i]?=some z):(i < xs.length∧xs[i]?=some z)∨(i=xs.length∧z=y):=by
 rcases Nat.lt_or_ge i xs.length with h1 | h1
 · rw [Fy h1]at h;exact .inl ⟨h1,h⟩
 · rw [FD h1]at h
   rcases Nat.eq_zero_or_pos (i - xs.length) with e | e
   · rw [e]at h;cases h;exact .inr ⟨by omega,rfl⟩
   · rw [FS (by simp;omega)]at h;cases h
theorem J85{R:Str→Int}{ls:Ly}{z:Str}{g:List Str}(h:z∉lyN ls):lyN (D9 R ls z g)=lyN (G0 ls g)++[z]:=by
 unfold D9;rw [if_neg h];unfold lyN;rw [Fp];rfl
theorem Ua{R:Str→Int}{ls:Ly}{z:Str}{g:List Str}(h:z∈lyN ls):D9 R ls z g=G0 ls g:=by
 unfold D9;rw [if_pos h]
end N14
namespace L2
structure J2s(P:Program)(w:World)(K:PySem.W.Frag)(mg:Str→Option Value)(base:Heap)(CX:CXT)(k:Nat)(x:Str)(C:Addr)(ps:List Str)(sp:Sp):Prop where
 ex:∃(f:Addr) (fd:FuncData),Al P w K mg base CX k f fd ps sp∧Mk K C f∧mg x=some (.ref C)∧C0 K fd ps []∧PySem.W.findCls K (.ref C) (.type "type") "__init__"=some (.val (.ref f))∧PySem.W.keepIn K (.ref f)=true
 sp:PySem.W.specialIn K (.ref C) "__getattribute__"=some (some (.builtin "type.__getattribute__"))
 rd:PySem.W.readsIn K C (.type "type")=true
def J2t(sp:Sp)(EE:St→XK)(t:TA):TE:=fun σ H Q=>t σ H fun vs H1=>sp vs H1 Q (EE σ)
section
variable {X:Cx} {CX:CXT} {k j:Nat} {C:Addr} {ps:List Str} {sp:Sp} {EE:St→XK} {x:Str} {pos apos:Pos} {e o:Expr} {es:List Expr} {t:TA}
theorem Mu{pl:Sem Bool}(D:J2s X.prog X.w X.K X.mg X.base CX j x C ps sp)(hr:Bh k X.A)(hx:Ds CX X EE)(he:PE X o (tC (.ref C)))(ha:PA X (e::es) t)(hj:j≤k:=by decide)
 (hst:starEach (e::es) X.env=(false,eval e X.env)::starEach es X.env:=by rfl) (hpl:(backTo pos (starEach es X.env)).any (·.1)=false:=by rfl)
 (ht:eval (.Call (.Attribute o "__init__" apos) (e::es) [] pos) X.env=(do
  let ov ← eval o X.env
  standAt apos.atName
  let (f,first) ← holding [ov] (getMethod ov "__init__" pl)
  callWith pos f first (backTo pos (starEach (e::es) X.env)) (backToKw pos (keywordEach [] X.env))):=by rfl):
 PE X (.Call (.Attribute o "__init__" apos) (e::es) [] pos) (J2t sp EE t):=by
 obtain ⟨f,fd,F,M,hm,hb,hc,hk⟩:=D.ex;intro pins s σ H Q I h;refine HX (pl:=pl) (thn (he pins s σ H (fun v H1=>v= .ref C∧t σ H1 fun vs H2=>sp vs H2 Q (EE σ)) I ⟨rfl,h⟩) fun u s1 hq_=>?_) ht;obtain ⟨x,H1,I1,rx,q⟩:=hq_;obtain ⟨rfl,q⟩:=q;obtain rfl:u=Value.ref C:=rx;refine PySem.W.method_cls I1.kIn D.sp (PySem.W.cls_value I1.kIn D.rd hc rfl ?_);have I2:=I1.tok (s1.toks+1);exact Hg (first:=[]) (h₀:=X.base) I.ok.mod.kin hk (thn (ha pos pins _ σ H1 _ I2 q) fun us s2 ⟨vs,H2,I3,r,q2⟩=>⟨I3.kIn,Lv (us:=us) (vs:=vs) (F.mono hj) hr hb hx I3 r q2⟩) hst hpl
theorem Sq{σ:St}{H:Hp}{Q:VK}:J2t sp EE t σ H Q=t σ H fun vs H1=>sp vs H1 Q (EE σ):=rfl
end
end L2
namespace L2
def ipM:TIp:=fun x y H Q=>∃i j,x= .int i∧y= .int j∧Ti i j∧Q (.int (i * j)) H
theorem J2u{x y:V}{H:Hp}{Q:VK}:ipM x y H Q=∃i j,x= .int i∧y= .int j∧Ti i j∧Q (.int (i * j)) H:=rfl
end L2
namespace N20
open L2 N1 N5 N4 N6 N12 N32 N14
end N20
namespace N71
open L2 N1 N5 N4 N6 N12
theorem Sr{f:Str}{v:V}:∀{fs:List (Str×V)},(fs.lookup f).isSome=true→(B3 f v fs).length=fs.length:=by
 intro fs
 induction fs with
 | nil=>intro h;cases h
 | cons p r ih=>
  obtain ⟨g,x⟩:=p;intro h
  by_cases e:g=f
  · subst e;simp [B3]
  · have h2:(r.lookup f).isSome=true:=by
     rw [FP]at h;rw [show (f==g)=false from beq_false_of_ne (fun z=>e z.symm)]at h;exact h
    have:=ih h2;simp [B3,e,this]
structure TwA where
 st:Addr
 si:Addr
 ro:Addr
 he:Addr
 la:Addr
 so:Addr
 en:Addr
 fi:Addr
structure TwS where
 zs:List Int
 R:List Str
 kh:List (Key×V)
 kl:List (Key×V)
 ks:List (Key×V)
 es:List V
 ff:List Int
 pd:Int
def Off(L:List Addr)(H H':Hp):Prop:=∀b o,H b=some o→b∉L→H' b=some o
structure Lb(K:PySem.W.Frag)(S:Addr)(H:Hp)(p:Addr)(ts:List Th)(L:List Addr):Prop where
 ex:∃(dx d:Addr) (kvs:List (Key×V)),H p=some (.ins S dx (flds d))∧H d=some (.dK kvs)∧p∉L∧d∉L∧kvs.map (·.1)=ts.map (fun t=>Sum.inr t.1)∧
  ∀(i:Nat) (t:Th),ts[i]?=some t→∃a,kvs[i]?=some (Sum.inr t.1,.ref a)∧((Rd H a (.tup [.int i,.int t.2.1,.int t.2.2])∧a∉L)∨∀H',SqT K H' a [.int i,.int t.2.1,.int t.2.2])
theorem Lb.at{K:PySem.W.Frag}{S:Addr}{H:Hp}{p:Addr}{ts:List Th}{L:List Addr}(h:Lb K S H p ts L):Af K S H p ts:=by
 obtain ⟨dx,d,kvs,h1,h2,_,_,h3,h4⟩:=h.ex;refine ⟨dx,d,kvs,h1,h2,h3,fun i t e=>?_⟩;obtain ⟨a,e1,e2 | e2⟩:=h4 i t e
 · exact ⟨a,e1,.inl e2.1⟩
 · exact ⟨a,e1,e2 H⟩
theorem Lb.off{K:PySem.W.Frag}{S:Addr}{H H':Hp}{p:Addr}{ts:List Th}{L:List Addr}(o:Off L H H')(h:Lb K S H p ts L):Lb K S H' p ts L:=by
 obtain ⟨dx,d,kvs,h1,h2,n1,n2,h3,h4⟩:=h.ex;refine ⟨dx,d,kvs,o _ _ h1 n1,o _ _ h2 n2,n1,n2,h3,fun i t e=>?_⟩;obtain ⟨a,e1,⟨e2,n⟩ | e2⟩:=h4 i t e
 · refine ⟨a,e1,.inl ⟨?_,n⟩⟩
   rcases e2 with h | ⟨ob,h⟩
   · exact .inl (o _ _ h n)
   · exact .inr ⟨ob,o _ _ h n⟩
 · exact ⟨a,e1,.inr e2⟩
end N71
namespace L2
section
variable {K:PySem.W.Frag} {σ:St} {H:Hp} {D:G5} {Q:VK}
theorem J2v{x:V}{vs:List V}:Jb2 x vs H Q=∃l xs y,x= .ref l∧vs=[]∧H l=some (.lst xs)∧xs[xs.length - 1]?=some y∧Q y (upd H l (.lst xs.dropLast)):=rfl
theorem Ob{ta tv:TE}{rd:V→V→Hp→VK→Prop}{f:Str}:Uq K ta tv rd f D σ H=ta σ H fun x H1=>∃a C dx fs v,x= .ref a∧H1 a=some (.ins C dx fs)∧Cls K C∧Ap K C f∧fs.lookup f=some v∧
 tv σ H1 fun y H2=>rd v y H2 fun z H3=>∃dx' fs',H3 a=some (.ins C dx' fs')∧fs'.length < 1000∧D.nx σ (upd H3 a (.ins C dx' (B3 f z fs'))):=rfl
theorem J2w{i:Nat}{te:TE}{ti:TIp}:J97 i te ti D σ H=∃x,σ[i]?=some (some x)∧te σ H fun y H1=>ti x y H1 fun z H2=>D.nx (σ.set i (some z)) H2:=rfl
end
end L2
namespace L2
theorem Oc{z:Str}{ys:List Str}:inV (.str z) (ys.map V.str)=decide (z∈ys):=by
 unfold inV
 induction ys with
 | nil=>rfl
 | cons y ys ih=>
  rw [List.map_cons,R0,ih,Vq]
  by_cases h:y=z
  · subst h;simp
  · have h':¬z=y:=fun e=>h e.symm
    simp [h,h']
theorem J51{K:PySem.W.Frag}{H:Hp}{p:Addr}{z:Str}{ys:List Str}{Q:VK}(h:SqL K H p (ys.map V.str))(q:Q (.bl (!decide (z∈ys))) H):rIn K true (.str z) (.ref p) H Q:=by
 refine ⟨p,_,rfl,.inl h,rfl,Kh,?_⟩;rw [if_pos rfl,Oc];exact q
end L2
namespace N53
open L2 N1 N5
theorem J2x{kvs:List (Key×V)}{ks:List Str}{z:Str}{v:V}(h:kvs.map (·.1)=ks.map Sum.inr):(Cq kvs (Sum.inr z) v).map (·.1)=(if z∈ks then ks else ks++[z]).map Sum.inr:=by
 have hm:=Ki (z:=z) h
 by_cases hz:z∈ks
 · rw [if_pos hz,← h]
   unfold Cq;rw [Cz,hm,FA hz,if_pos rfl,FH];refine List.map_congr_left fun e _=>?_;show (if e.1=Sum.inr z then (e.1,v) else e).1=e.1
   split <;> rfl
 · rw [if_neg hz,Kc v (by rw [Fw hz]at hm;simpa using hm),Fp,Fp,h]
   rfl
end N53
namespace N18
open L2 N1 N5 N4 N6 N12 N32 N14
end N18
namespace N25
open L2 N1 N5 N4 N6 N12 N32 N14 N20
theorem J52{y z:Str}(h:y≠z):(Sum.inr y:Key)≠Sum.inr z:=fun e=>h (by injection e)
theorem Pl{R:Str→Int}{ns:List Str}:∀{ls:Ly},(∀x∈ls,x.2=R x.1)→lyS ls=N41.sm R (lyN ls)
 | [],_=>rfl
 | x::r,h=>by
  have ih:=Pl (R:=R) (ns:=ns) (ls:=r) fun y hy=>h y (Fk _ hy);have h1:=h x (Fu ..);unfold lyS at ih ⊢;unfold lyN at ih ⊢;rw [List.map_cons,List.sum_cons,List.map_cons,N41.C9,ih,h1]
end N25
namespace N25
open L2 N1 N5 N4 N6 N12 N32 N14 N20
theorem Od{M:List Addr}{a:Addr}{H H':Hp}(s:SameBut a H H')(h:a∈M):Kp M H H':=fun b o n e=>s b o e (fun e2=>n (e2▸h))
theorem M3{M:List Addr}{H H':Hp}{b:Addr}(k:Kp M H H')(hb:b∉M)(h:H' b=none):H b=none:=by
 cases e:H b with
 | none=>rfl
 | some o=>rw [k b o hb e]at h;cases h
theorem J2y{M:List Addr}{H H':Hp}{w:Addr}{o:HO}(k:Kp M H H')(hw:H w=none):Kp M H (upd H' w o):=fun b u n e=>by
 rw [A3 (fun h=>by rw [h,hw]at e;cases e)];exact k b u n e
theorem J2z{L M:List Str}(h:L.Nodup)(hs:∀z∈L,z∈M):L.length≤M.length:=by
 induction L generalizing M with
 | nil=>exact FB _
 | cons x r ih=>
  obtain ⟨hx,hr⟩:=FO.mp h;have hm:=hs x (Fu ..);have:=ih (M:=M.erase x) hr fun z hz=>(List.mem_erase_of_ne (fun e=>hx (by rw [← e];exact hz))).mpr (hs z (Fk _ hz));rw [Hz hm]at this;have hp:0 < M.length:=Rl hm;rw [List.length_cons];omega
end N25
namespace NR
open L2 N1 N5 N4 N6 N12 N32 N14 N20 N18 N25
structure Ae where
 C:Addr
 St:Type
 At:Hp→List Addr→Addr→Addr→Int→St→Prop
 asked:Int→St→Str→St
 pick:Int→St→List Str→St×Str
 gone:Int→St→Str→St
 came:Int→St→Str→St
 inv:List Str→Int→St→List Str→Prop
 mid:List Str→Int→Str→St→List Str→Prop
 dep:∀{H H':Hp} {M:List Addr} {q p:Addr} {n:Int} {s:St},(∀m∈M,∀o,H m=some o→H' m=some o)→At H M q p n s→At H' M q p n s
 live:∀{H:Hp} {M:List Addr} {q p:Addr} {n:Int} {s:St},At H M q p n s→∀m∈M,H m≠none
 obj:∀{H:Hp} {M:List Addr} {q p:Addr} {n:Int} {s:St},At H M q p n s→∃dx fs,H q=some (.ins C dx fs)∧fs.lookup ("stock":Str)=some (.ref p)∧fs.lookup ("places":Str)=some (.int n)∧fs.lookup ("asked":Str)=none∧fs.lookup ("choice":Str)=none∧fs.lookup ("gone":Str)=none∧fs.lookup ("came":Str)=none∧fs.lookup ("nests":Str)=none
 i_hit:∀{ns:List Str} {n:Int} {s:St} {l:List Str} {z:Str},inv ns n s l→z∈ns→z∈l→inv ns n (asked n s z) l
 i_mid:∀{ns:List Str} {n:Int} {s:St} {l:List Str} {z:Str},inv ns n s l→z∈ns→z∉l→mid ns n z (asked n s z) l
 i_pick:∀{ns:List Str} {n:Int} {s:St} {l:List Str} {z:Str},mid ns n z s l→l≠[]→(pick n s l).2∈l∧mid ns n z (gone n (pick n s l).1 (pick n s l).2) (l.erase (pick n s l).2)
 i_came:∀{ns:List Str} {n:Int} {s:St} {l:List Str} {z:Str},mid ns n z s l→z∈ns→z∉l→inv ns n (came n s z) (l++[z])
 cnt:St→Nat:=fun _=>0
 c_ask:∀n s z,cnt (asked n s z)≤cnt s+1:=by exact fun _ _ _=>FB _
 c_pick:∀n s l,cnt (pick n s l).1≤cnt s:=by exact fun _ _ _=>FB _
 c_gone:∀n s z,cnt (gone n s z)≤cnt s:=by exact fun _ _ _=>FB _
 c_came:∀n s z,cnt (came n s z)≤cnt s:=by exact fun _ _ _=>FB _
def gfin(T:Ae)(R:Str→Int)(n need:Int):Nat→T.St→List Str→List Str→T.St×List Str×List Str
 | 0,s,l,w=>(s,l,w)
 | k+1,s,l,w=>if need≤n - N41.sm R l then (s,l,w) else gfin T R n need k (T.gone n (T.pick n s l).1 (T.pick n s l).2) (l.erase (T.pick n s l).2) (w++[(T.pick n s l).2])
def gf(T:Ae)(R:Str→Int)(n need:Int)(s:T.St)(l w:List Str):T.St×List Str×List Str:=gfin T R n need l.length s l w
section
variable {T:Ae} {R:Str→Int} {n need:Int} {s:T.St} {l w ns:List Str} {z:Str}
theorem Lc(h:need≤n - N41.sm R l):gf T R n need s l w=(s,l,w):=by
 unfold gf
 cases hk:l.length with
 | zero=>rfl
 | succ k=>
  show (if _ then _ else _)=_;rw [if_pos h]
theorem J30(h:¬need≤n - N41.sm R l)(hp:(T.pick n s l).2∈l):gf T R n need s l w=gf T R n need (T.gone n (T.pick n s l).1 (T.pick n s l).2) (l.erase (T.pick n s l).2) (w++[(T.pick n s l).2]):=by
 unfold gf;have hl:=Hz hp;have h0:0 < l.length:=Rl hp;rw [show l.length=(l.erase (T.pick n s l).2).length+1 by omega];show (if _ then _ else _)=_;rw [if_neg h]
theorem J31:∀(k:Nat) (s:T.St) (l w:List Str),l.length=k→T.mid ns n z s l→need≤n→T.mid ns n z (gf T R n need s l w).1 (gf T R n need s l w).2.1∧need≤n - N41.sm R (gf T R n need s l w).2.1∧(∀u∈(gf T R n need s l w).2.1,u∈l)∧(l.Nodup→(gf T R n need s l w).2.1.Nodup)∧(gf T R n need s l w).2.1.length≤l.length:=by
 intro k
 induction k with
 | zero=>
  intro s l w hk hm hn;have hL:l=[]:=Hb.mp hk;subst hL
  have he:need≤n - N41.sm R []:=by rw [N41.D5];omega
  rw [Lc he];exact ⟨hm,he,fun z hz=>hz,id,Fg _⟩
 | succ k ih=>
  intro s l w hk hm hn
  by_cases he:need≤n - N41.sm R l
  · rw [Lc he]
    exact ⟨hm,he,fun z hz=>hz,id,Fg _⟩
  · have hne:l≠[]:=fun e=>by rw [e]at hk;cases hk
    obtain ⟨hp,hm2⟩:=T.i_pick hm hne;rw [J30 he hp];have hl:=Hz hp;obtain ⟨a,b,c,d,e⟩:=ih _ _ (w++[(T.pick n s l).2]) (by omega) hm2 hn;exact ⟨a,b,fun u hu=>Hs (c u hu),fun hnd=>d (hnd.erase _),by omega⟩
end
def gask(T:Ae)(R:Str→Int)(n:Int)(s:T.St×List Str)(z:Str):(T.St×List Str)×N14.Row:=
 if z∈s.2 then ((T.asked n s.1 z,s.2),(z,true,[]))
 else ((T.came n (gf T R n (R z) (T.asked n s.1 z) s.2 []).1 z,(gf T R n (R z) (T.asked n s.1 z) s.2 []).2.1++[z]),(z,false,(gf T R n (R z) (T.asked n s.1 z) s.2 []).2.2))
def gst(T:Ae)(R:Str→Int)(n:Int)(s0:T.St)(ys:List Str)(i:Nat):T.St×List Str:=(ys.take i).foldl (fun s z=>(gask T R n s z).1) (s0,[])
def grow(T:Ae)(R:Str→Int)(n:Int)(s0:T.St)(ys:List Str)(i:Nat):N14.Row:=(gask T R n (gst T R n s0 ys i) (ys.getD i Str.empty)).2
def grows(T:Ae)(R:Str→Int)(n:Int)(s0:T.St)(ys:List Str)(i:Nat):List N14.Row:=(List.range i).map (grow T R n s0 ys)
section
variable {T:Ae} {R:Str→Int} {n:Int} {s0:T.St} {ys ns:List Str} {i:Nat} {z:Str}
theorem Gg(h:ys[i]?=some z):gst T R n s0 ys (i+1)=(gask T R n (gst T R n s0 ys i) z).1:=by
 unfold gst;rw [FQ,h,RE];rfl
theorem Pm(h:ys[i]?=some z):grow T R n s0 ys i=(gask T R n (gst T R n s0 ys i) z).2:=by
 unfold grow;rw [Fc,h];rfl
theorem Ic:(grows T R n s0 ys i).length=i:=by unfold grows;rw [Fa,FW]
theorem J32{u v:Str}{l:List Str}(e:u=v)(h:u∈l):v∈l:=e▸h
structure GI(T:Ae)(ns:List Str)(n:Int)(s:T.St×List Str):Prop where
 i:T.inv ns n s.1 s.2
 nd:s.2.Nodup
 s:∀u∈s.2,u∈ns
theorem GI.ask{s:T.St×List Str}(h:GI T ns n s)(hz:z∈ns)(hR:R z≤n):GI T ns n (gask T R n s z).1:=by
 unfold gask;split
 · rename_i hm
   exact ⟨T.i_hit h.i hz hm,h.nd,h.s⟩
 · rename_i hm
   obtain ⟨a,b,c,d,e⟩:=J31 (R:=R) _ _ _ [] rfl (T.i_mid h.i hz hm) hR;have hm2:z∉(gf T R n (R z) (T.asked n s.1 z) s.2 []).2.1:=fun hh=>hm (c z hh);refine ⟨T.i_came a hz hm2,?_,fun u hu=>?_⟩
   · show ((gf T R n (R z) (T.asked n s.1 z) s.2 []).2.1++[z]).Nodup
     rw [FV];refine ⟨d h.nd,by simp,fun y hy u hu e=>hm2 (J32 (e.trans (Fh.mp hu)) hy)⟩
   · rcases FF.mp hu with hu | hu
     · exact h.s u (c u hu)
     · rw [Fh.mp hu];exact hz
theorem Kn(h0:T.inv ns n s0 [])(hin:∀y∈ys,y∈ns)(hR:∀y∈ys,R y≤n):∀i,i≤ys.length→GI T ns n (gst T R n s0 ys i)
 | 0,_=>⟨h0,Ho,by simp [gst]⟩
 | i+1,h=>by
  have hz:=Fb (show i < ys.length by omega);have hm:=Ff hz;rw [Gg hz];exact (Kn h0 hin hR i (by omega)).ask (hin _ hm) (hR _ hm)
end
theorem J33{T:Ae}{R:Str→Int}{n need:Int}:∀(k:Nat) (s:T.St) (l w:List Str),T.cnt (gfin T R n need k s l w).1≤T.cnt s:=by
 intro k
 induction k with
 | zero=>intro s l w;exact Fg _
 | succ k ih=>
  intro s l w;unfold gfin;split
  · exact Fg _
  · exact FG (ih _ _ _) (FG (T.c_gone _ _ _) (T.c_pick _ _ _))
theorem J34{T:Ae}{R:Str→Int}{n:Int}{s:T.St×List Str}{z:Str}:T.cnt (gask T R n s z).1.1≤T.cnt s.1+1:=by
 unfold gask;split
 · exact T.c_ask _ _ _
 · exact FG (T.c_came _ _ _) (FG (J33 _ _ _ _) (T.c_ask _ _ _))
theorem Wq{T:Ae}{R:Str→Int}{n:Int}{s0:T.St}{ys:List Str}:∀i,i≤ys.length→T.cnt (gst T R n s0 ys i).1≤T.cnt s0+i
 | 0,_=>Fg _
 | i+1,h=>by
  have hz:=Fb (show i < ys.length by omega);rw [Gg hz];have:=Wq (T:=T) (R:=R) (n:=n) (s0:=s0) (ys:=ys) i (by omega);have h2:=J34 (T:=T) (R:=R) (n:=n) (s:=gst T R n s0 ys i) (z:=ys[i]);omega
structure D6(T:Ae)(K:PySem.W.Frag)(C S:Addr)(H0 H:Hp)(q p sh d:Addr)(M:List Addr)(n:Int)(ts:List Th)(ls:Ly)(s:T.St):Prop where
 h:T.At H M q p n s
 shf:Ax S H sh p d n ls
 st:Af K C H0 p ts
 sm:A7 H0 H
 n0:∀m∈M,H0 m=none
 nd:H0 d=none
 nsh:sh∉M
 ndm:d∉M
 ok:OkL (rm ts) (ts.map (·.1)) ls
section
variable {T:Ae} {K:PySem.W.Frag} {C S:Addr} {H0 H H' H1 H2:Hp} {q p sh d w:Addr} {M:List Addr} {n:Int} {ts:List Th} {ls:Ly} {s s':T.St}
theorem Pn(e:A7 H H')(h:T.At H M q p n s):T.At H' M q p n s:=T.dep (fun m _ o=>e m o) h
theorem J35(e:SameBut d H H')(hd:d∉M)(h:T.At H M q p n s):T.At H' M q p n s:=T.dep (fun m hm o e1=>e m o e1 (fun e2=>hd (e2▸hm))) h
theorem D6.same(r:D6 T K C S H0 H q p sh d M n ts ls s)(e:A7 H H'):D6 T K C S H0 H' q p sh d M n ts ls s:=
 ⟨Pn e r.h,r.shf.same e,r.st,r.sm.trans e,r.n0,r.nd,r.nsh,r.ndm,r.ok⟩
theorem D6.x(r:D6 T K C S H0 H q p sh d M n ts ls s):Bw K C H p ts d:=(Bw.of r.st r.nd).same r.sm
theorem D6.left(r:D6 T K C S H0 H q p sh d M n ts ls s):n - lyS ls=n - N41.sm (rm ts) (lyN ls):=by rw [Pl (ns:=ts.map (·.1)) r.ok.r]
theorem D6.rule(r:D6 T K C S H0 H q p sh d M n ts ls s)(k:Kp M H H')(h:T.At H' M q p n s'):D6 T K C S H0 H' q p sh d M n ts ls s':=
 ⟨h,⟨r.shf.o.imp fun _ e=>k _ _ r.nsh e,k _ _ r.ndm r.shf.d,r.shf.nd⟩,r.st,Kp.same r.sm k r.n0,r.n0,r.nd,r.nsh,r.ndm,r.ok⟩
theorem D6.shelf{ls':Ly}(r:D6 T K C S H0 H q p sh d M n ts ls s)(k:SameBut d H H')(hs:Ax S H' sh p d n ls')(ok:OkL (rm ts) (ts.map (·.1)) ls'):D6 T K C S H0 H' q p sh d M n ts ls' s:=
 ⟨J35 k r.ndm r.h,hs,r.st,Mt r.sm r.nd k,r.n0,r.nd,r.nsh,r.ndm,ok⟩
theorem D6.lst{zs:List V}(r:D6 T K C S H0 H q p sh d M n ts ls s)(k:SameBut w H H')(hw:H w=some (.lst zs))(hm:w∉M)(h0:H0 w=none):D6 T K C S H0 H' q p sh d M n ts ls s:=
 ⟨J35 k hm r.h,r.shf.butL k hw,r.st,Mt r.sm h0 k,r.n0,r.nd,r.nsh,r.ndm,r.ok⟩
theorem D6.free{b:Addr}(r:D6 T K C S H0 H q p sh d M n ts ls s)(hb:H b=none):b∉d::M:=fun hm=>by
 rcases Fv.mp hm with e | e
 · rw [e,r.shf.d]at hb;cases hb
 · exact T.live r.h b e hb
theorem Ko{M:List Addr}{d:Addr}{H H':Hp}(k:Kp M H H'):Kp (d::M) H H':=fun b o n e=>k b o (fun h=>n (Fk _ h)) e
theorem J36{a:Addr}{xs:List V}(h:SqL K H a xs)(k:Kp M H H')(na:a∉M):SqL K H' a xs:=by
 rcases h with (h | ⟨o,h⟩) | h
 · exact .inl (.inl (k _ _ na h))
 · exact .inl (.inr ⟨o,k _ _ na h⟩)
 · exact .inr h
end
def Cs(T:Ae):Sp:=fun vs H Q _=>∃(q p:Addr) (n:Int) (M:List Addr) (s:T.St) (l ns:List Str) (z:Str),vs=[.ref q,.str z]∧T.At H M q p n s∧T.inv ns n s l∧z∈ns∧ns.length≤60∧∀H',Kp M H H'→T.At H' M q p n (T.asked n s z)→Q .non H'
def Cd(T:Ae)(K:PySem.W.Frag):Sp:=fun vs H Q _=>∃(q p a:Addr) (n:Int) (M:List Addr) (s:T.St) (l ns:List Str) (z:Str),vs=[.ref q,.ref a]∧T.At H M q p n s∧T.mid ns n z s l∧l≠[]∧H a=some (.lst (l.map V.str))∧a∉M∧ns.length≤60∧l.length≤60∧T.cnt s≤300∧∀H',Kp M H H'→T.At H' M q p n (T.pick n s l).1→Q (.str (T.pick n s l).2) H'
def Di(T:Ae):Sp:=fun vs H Q _=>∃(q p:Addr) (n:Int) (M:List Addr) (s:T.St) (l ns:List Str) (z:Str),vs=[.ref q,.str (T.pick n s l).2]∧T.At H M q p n (T.pick n s l).1∧T.mid ns n z s l∧l≠[]∧ns.length≤60∧∀H',Kp M H H'→T.At H' M q p n (T.gone n (T.pick n s l).1 (T.pick n s l).2)→Q .non H'
def Dj(T:Ae):Sp:=fun vs H Q _=>∃(q p:Addr) (n:Int) (M:List Addr) (s:T.St) (l ns:List Str) (z:Str),vs=[.ref q,.str z]∧T.At H M q p n s∧T.mid ns n z s l∧z∈ns∧z∉l∧ns.length≤60∧∀H',Kp M H H'→T.At H' M q p n (T.came n s z)→Q .non H'
def Mv(T:Ae)(K:PySem.W.Frag)(C S:Addr):Sp:=fun vs H Q _=>∃(H0:Hp) (q p sh d:Addr) (M:List Addr) (n need:Int) (ts:List Th) (ls:Ly) (s:T.St) (z:Str),vs=[.ref q,.ref sh,.int need]∧D6 T K C S H0 H q p sh d M n ts ls s∧T.mid (ts.map (·.1)) n z s (lyN ls)∧need≤n∧ls.length≤60∧ts.length≤60∧T.cnt s≤300∧
 ∀(w:Addr) (ls':Ly) (H':Hp),Kp (d::M) H H'→H w=none→H' w=some (.lst ((gf T (rm ts) n need s (lyN ls) []).2.2.map V.str))→lyN ls'=(gf T (rm ts) n need s (lyN ls) []).2.1→D6 T K C S H0 H' q p sh d M n ts ls' (gf T (rm ts) n need s (lyN ls) []).1→Q (.ref w) H'
def Po(T:Ae)(K:PySem.W.Frag)(C S:Addr):Sp:=fun vs H Q _=>∃(H0:Hp) (q p sh d:Addr) (M:List Addr) (n:Int) (ts:List Th) (ls:Ly) (s:T.St) (z:Str),vs=[.ref q,.ref sh,.str z]∧D6 T K C S H0 H q p sh d M n ts ls s∧T.inv (ts.map (·.1)) n s (lyN ls)∧(ts.map (·.1)).Nodup∧ts.length≤60∧z∈ts.map (·.1)∧rm ts z≤n∧T.cnt s≤299∧
 ∀(t g:Addr) (ls':Ly) (H':Hp),Kp (d::M) H H'→H t=none→H g=none→H' t=some (.tup [.str (gask T (rm ts) n (s,lyN ls) z).2.1,.bl (gask T (rm ts) n (s,lyN ls) z).2.2.1,.ref g])→H' g=some (.lst ((gask T (rm ts) n (s,lyN ls) z).2.2.2.map V.str))→lyN ls'=(gask T (rm ts) n (s,lyN ls) z).1.2→D6 T K C S H0 H' q p sh d M n ts ls' (gask T (rm ts) n (s,lyN ls) z).1.1→Q (.ref t) H'
end NR
namespace L2
section
variable {X:Cx} {pins:List (Addr×Obj)} {σ:St} {H:Hp} {s:Shared} {a C dx g:Addr} {fs:List (Str×V)} {m:Str} {A:Around} {E:Value→Shared→Prop}
theorem Ss{b:Bool}{Q:Value→Shared→Prop}(I:Inv X pins σ H s)(e:H a=some (.ins C dx fs))(c:Cls X.K C)(k:Xo X.K C m g)(l:fs.lookup m=none)
 (hgf:PySem.W.specialIn X.K (.ref g) "__get__"=some (some (.builtin "function.__get__"))) (ht:PySem.W.takesIn X.K (.ref g)=some false) (hc:PySem.W.copiedNames.contains m=false)
 (h:Q (.ref s.heap.objs.size) {s with heap:=s.heap.push (PySem.W.methodObj (.ref g) (.ref a)),toks:=s.toks+1}):wpAny (model X.prog X.w) A (getAttr (.ref a) m b) Q E s:=by
 obtain ⟨mA,O,r,_,_,_⟩:=K8 I.hok e;have hn:mA m=none:=E6.none_of (by rw [← l];exact r m);obtain ⟨od,J,hl⟩:=O.look;have hK:X.K.In ({s with toks:=s.toks+1}:Shared).heap:=I.kIn
 exact PySem.W.get_bind I.kIn J (HP (c.get m)).1 (PySem.W.findObj_fn c.hd k.at_ hgf ht hc (by rw [hl,hn])) (HP (c.get m)).2
  (HY (PySem.W.fn_get (s:={s with toks:=s.toks+1}) hK (HN.mp k.fn) (PySem.W.handed_on rfl h)))
end
end L2
namespace L2
section
variable {X:Cx} {k:Nat} {f a q:Addr} {fd:FuncData} {ps:List Str} {sp:Sp}
theorem Mw{pins:List (Addr×Obj)}{σ:St}{H:Hp}{s:Shared}{Q:VK}{us:List Value}{vs:List V}{E:Value→Shared→Prop}(F:Al X.prog X.w X.K X.mg X.base CX0 k f fd ps sp)(hr:Bh (k+1) X.A)(hb:C0 X.K fd ps [])
 (I:Inv X pins σ H s) (r:Ao vs us) (hq:s.heap.get? q=some (PySem.W.methodObj (.ref f) (.ref a))) (h:sp (.ref a::vs) H Q E0):wpAny (model X.prog X.w) X.A.in1 (call (.ref q) us) (EP X pins σ Q) E s:=by
 have r':Ao (V.ref a::vs) (Value.ref a::us):= .cons rfl r
 have hl:(Value.ref a::us).length=ps.length:=by rw [← r'.length];exact F.len _ _ _ _ h
 have hb':=hb s (Value.ref a::us) I.kIn (by simpa using hl);rw [FJ]at hb';refine HY (ks_codeAny_call_bound (a:=⟨us,[]⟩) hq (HI (F.run X.A.in1 X.stack s H ⟨Value.ref a::us,[]⟩ (Value.ref a::us) (V.ref a::vs) Q E0 hr.in1 (K9.in1 I.env0) hb' r' h) fun r s' hq=>?_))
 cases r with
 | error e=>exact False.elim hq
 | ok fl=>
  cases fl with
  | ret u=>exact I.after hq
  | next=>exact False.elim hq
  | brk=>exact False.elim hq
  | cont=>exact False.elim hq
end
def btK(kf:Nat→List Int):Nat→Nat→Bool:=fun i j=>HT.Dg (kf i) (kf j)
section
variable {X:Cx} {pins:List (Addr×Obj)} {σ:St} {k:Nat} {g a q mo it S:Addr} {fd:FuncData} {ps:List Str} {sp:Sp} {H0:Hp} {xs:List V} {kf:Nat→List Int} {R:Result→Shared→Prop}
theorem Inv.turn1{H:Hp}{s:Shared}{b:Addr}{h':Heap}{t':Nat}(I:Inv X pins σ H s)(fp:D3 X pins H b)(hk:∀c o,c≠b→s.heap.get? c=some o→h'.get? c=some o):Inv X pins σ H {s with heap:=h',toks:=t'}:=
 I.turned hk fp.1 fp.2.1 fp.2.2.2.1 fp.2.2.2.2.1 fp.2.2.2.2.2
theorem D3.at{H H':Hp}{b:Addr}(h:D3 X pins H b)(hn:H' b=none):D3 X pins H' b:=⟨hn,h.2⟩
theorem Yc(F:Al X.prog X.w X.K X.mg X.base CX0 k g fd ps sp)(hr:Bh (k+1) X.A)(hb:C0 X.K fd ps [])(hq:SqL X.K H0 a xs)(hai:a≠it)
 (turn:∀i v,xs[i]?=some v→∀H',A7 H0 H'→sp [.ref q,v] H' (fun u H''=>A7 H' H''∧∃t,u= .ref t∧H'' t=some (.tup ((kf i).map V.int))) E0)
 (hR:∀v u H' s',A7 H0 H'→Inv X pins σ H' s'→An v u→xs[argBest (btK kf) (xs.length - 1)]?=some v→R (.ok (.ret u)) s')
 (nmi:mo≠it) (nms:mo≠S) (nis:it≠S):
 ∀(r j:Nat) (s:Shared) (H:Hp) (vb:Value) (t:Addr) (c:Nat) (v0:V),xs.length - (j+1)=r→j+1≤xs.length→Inv X pins σ H s→A7 H0 H→D3 X pins H mo→D3 X pins H it→D3 X pins H S→
   s.heap.get? mo=some (PySem.W.methodObj (.ref g) (.ref q))→s.heap.get? S=some (seqObj "list" #[vb,.ref t] c)→s.heap.IsListIter it a (j+1)→
   xs[argBest (btK kf) j]?=some v0→An v0 vb→H t=some (.tup ((kf (argBest (btK kf) j)).map V.int))→
   codeAny (model X.prog X.w) X.A (.builtin "min.loop" ⟨[.ref it,.ref mo,.ref S],[]⟩) R s:=by
 have hname:(toString "min"++toString ".loop":String)="min.loop":=by decide
 have hh:X.A.in1.handled=none:=hr.hd;intro r
 induction r with
 | zero=>
  intro j s H vb t c v0 hrr hj I sm fm fi fs gm gS hit hx0 rv0 ht;obtain ⟨its,rv,p,hz⟩:=I.list (sm.seq hq);have hln:=rv.length;have W:=Walks.list (prog:=X.prog) (w:=X.w) (A:=X.A.in1) hh it a hai its.toArray
  have hsz:its.toArray.size=xs.length:=by rw [Fn,hln]
  have hin:j+1=xs.length:=by omega
  refine codeAny_builtin Ri ?_;rw [Around.under_plainId Hd _];show wpAny _ X.A.in1 (seqItems? (.ref S) >>=_) _ _ _;refine Fq (wpAny_seqItems gS rfl ?_);show wpAny _ X.A.in1 (tryCatch (pyNext (.ref it)) _ >>=_) _ _ _;refine Fq (HV (W.done _ _ _ ⟨by rw [hsz,← hin];exact hit,p.isList⟩ fun h' tk' hk'=>?_));have hk2:∀b o,b≠it→s.heap.get? b=some o→h'.get? b=some o:=fun b o e=>hk' b o (by simpa using e);have I1:Inv X pins σ H {s with heap:=h',toks:=tk'}:=I.turn1 fi hk2;have gS':=hk2 S _ (Ne.symm nis) gS;have s1:=Rx h' S (Obj.mapSeq fun _=>(#[]:Array Value));show wpAny _ X.A.in1 (updateSeq S (fun _=>#[]) >>=_) _ _ _;refine Fq ?_;refine wpAny_updateSeq gS' rfl (Fq (RG (FK ?_)));refine hR v0 vb H _ sm (I1.turn1 (t':=tk') fs fun b o e e2=>(s1.2 b e).trans e2) rv0 ?_;rw [show xs.length - 1=j by omega]
  exact hx0
 | succ r ih=>
  intro j s H vb t c v0 hrr hj I sm fm fi fs gm gS hit hx0 rv0 ht;obtain ⟨its,rv,p,hz⟩:=I.list (sm.seq hq);have hln:=rv.length;have W:=Walks.list (prog:=X.prog) (w:=X.w) (A:=X.A.in1) hh it a hai its.toArray
  have hsz:its.toArray.size=xs.length:=by rw [Fn,hln]
  have hlt:j+1 < xs.length:=by omega
  refine codeAny_builtin Ri ?_;rw [Around.under_plainId Hd _];show wpAny _ X.A.in1 (seqItems? (.ref S) >>=_) _ _ _;refine Fq (wpAny_seqItems gS rfl ?_);show wpAny _ X.A.in1 (tryCatch (pyNext (.ref it)) _ >>=_) _ _ _;refine Fq (HV (W.item (j+1) _ _ _ (by rw [hsz];exact hlt) ⟨hit,p.isList⟩ fun v h' tk' hP hst' hk'=>?_));have hk2:∀b o,b≠it→s.heap.get? b=some o→h'.get? b=some o:=fun b o e=>hk' b o (by simpa using e);have hxj:=Fb hlt;obtain ⟨v',hv',rv'⟩:=rv.get hxj
  have hvv:v'=v:=by
   have:its[j+1]?=some v:=by simpa using hP
   rw [hv']at this;exact FL this
  subst hvv;obtain ⟨oI',hoI',hoc,hod⟩:=id hst'.1;have I1:Inv X pins σ H {s with heap:=h',toks:=tk'}:=I.turn1 fi hk2;have gS':=hk2 S _ (Ne.symm nis) gS;have gm':=hk2 mo _ nmi gm
  have I1p:Inv X (pins++[(mo,PySem.W.methodObj (.ref g) (.ref q)),(S,seqObj "list" #[vb,.ref t] c),(it,oI')]) σ H {s with heap:=h',toks:=tk'}:=I1.pins_of fun p hp=>by
   rcases FF.mp hp with hp | hp
   · exact I1.pin p (Fx _ hp)
   · simp only [Fv,Ha,or_false]at hp
     rcases hp with rfl | rfl | rfl
     · exact ⟨gm',fm.1,fm.2.1,fm.2.2.1,fun v e=>by cases e⟩
     · exact ⟨gS',fs.1,fs.2.1,fs.2.2.1,fun v e=>by cases e⟩
     · exact ⟨hoI',fi.1,fi.2.1,fi.2.2.1,fun v e=>by rw [hod]at e;cases e⟩
  show wpAny _ X.A.in1 (tryCatch (holding [v'] (call (.ref mo) [v'])) _ >>=_) _ _ _;refine Fq (HV (HQ (thn (Mw (vs:=[xs[j+1]]) F hr hb I1p (.cons rv' .nil) gm' (turn (j+1) _ hxj H sm)) fun x s2 he=>?_)));obtain ⟨y,H2,I2p,ry,sm2,t2,rfl,ht2⟩:=he;obtain rfl:x=Value.ref t2:=ry;have P2:=fun p hp=>I2p.pin p (Fx _ (Fx _ hp));have pm:=P2 (mo,PySem.W.methodObj (.ref g) (.ref q)) (by simp);have pS:=P2 (S,seqObj "list" #[vb,.ref t] c) (by simp);have pI:=P2 (it,oI') (by simp);have I2:Inv X pins σ H2 s2:=I2p.pins_of fun p hp=>I2p.pin p (Fx _ (Hw _ hp))
  have hit2:s2.heap.IsListIter it a (j+1+1):=⟨oI',pI.1,hoc,hod⟩
  have smx:=sm.trans sm2;have ht':=sm2 _ _ ht;obtain ⟨us1,r1,p1,_⟩:=I2.tuple (SqT.of ht2);obtain ⟨us2,r2,p2,_⟩:=I2.tuple (SqT.of ht');have hu:X.A.in1.units < cLine:=HJ (by omega) hr.in1.un;show wpAny _ X.A.in1 (tryCatch (holding [v',.ref t2] (richCompare .Lt (.ref t2) (.ref t) >>=_)) _ >>=_) _ _ _;refine Fq (HV (HQ (Fq (HT.Tr p1 p2 (Md r1) (Md r2) hu ?_))));refine Fq (HQ (Hu ?_));refine Fq (RG (FK ?_))
  have eB:argBest (btK kf) (j+1)=if HT.Dg (kf (j+1)) (kf (argBest (btK kf) j))=true then j+1 else argBest (btK kf) j:=rfl
  by_cases hb':HT.Dg (kf (j+1)) (kf (argBest (btK kf) j))=true
  · have s1:=Rx s2.heap S (Obj.mapSeq fun _=>#[v',.ref t2])
    obtain ⟨c2,hc2⟩:∃c2,(s2.heap.update S (Obj.mapSeq fun _=>#[v',.ref t2])).get? S=some (seqObj "list" #[v',.ref t2] c2):=⟨_,get?_update_seq pS.1 fun _=>#[v',.ref t2]⟩
    rw [if_pos hb']at eB;simp only [hb',if_true];refine Fq ?_;refine wpAny_updateSeq pS.1 rfl (Fq (RG ?_));rw [hname];have I3:Inv X pins σ H2 {s2 with heap:=s2.heap.update S (Obj.mapSeq fun _=>#[v',.ref t2]),toks:=s2.toks}:=I2.turn1 (fs.at pS.2.1) fun b o e e2=>(s1.2 b e).trans e2;exact FK ⟨Ry Hd _,ih (j+1) _ H2 v' t2 c2 _ (by omega) hlt I3 smx (fm.at pm.2.1) (fi.at pI.2.1) (fs.at pS.2.1) ((s1.2 mo nms).trans pm.1) hc2 ⟨oI',(s1.2 it nis).trans pI.1,hoc,hod⟩ (by rw [eB];exact hxj) rv' (by rw [eB];exact ht2)⟩
  · rw [if_neg hb']at eB
    simp only [hb',Bool.false_eq_true,if_false];refine Fq (RG ?_);rw [hname];exact FK ⟨Ry Hd _,ih (j+1) s2 H2 vb t c v0 (by omega) hlt I2 smx (fm.at pm.2.1) (fi.at pI.2.1) (fs.at pS.2.1) pm.1 pS.1 hit2 (by rw [eB];exact hx0) rv0 (by rw [eB];exact ht')⟩
end
section
variable {X:Cx} {pins:List (Addr×Obj)} {σ:St} {k:Nat} {g a q mo:Addr} {fd:FuncData} {ps:List Str} {sp:Sp} {H:Hp} {s:Shared} {xs:List V} {kf:Nat→List Int} {Q:VK}
theorem Yd(F:Al X.prog X.w X.K X.mg X.base CX0 k g fd ps sp)(hr:Bh (k+1) X.A)(hb:C0 X.K fd ps [])(I:Inv X pins σ H s)(hq:SqL X.K H a xs)(hne:xs≠[])
 (gm:s.heap.get? mo=some (PySem.W.methodObj (.ref g) (.ref q))) (fm:D3 X pins H mo)
 (turn:∀i v,xs[i]?=some v→∀H',A7 H H'→sp [.ref q,v] H' (fun u H''=>A7 H' H''∧∃t,u= .ref t∧H'' t=some (.tup ((kf i).map V.int))) E0)
 (hQ:∀v H',A7 H H'→xs[argBest (btK kf) (xs.length - 1)]?=some v→Q v H'):
 wpAny (model X.prog X.w) X.A (call (.builtin "min") [.ref a] [(Str.ofString "key",.ref mo)]) (EP X pins σ Q) X.xe s:=by
 have hname:(toString "min"++toString ".loop":String)="min.loop":=by decide
 have hh:X.A.in1.handled=none:=hr.hd;obtain ⟨its,rv,p,hz⟩:=I.list hq;have hln:=rv.length;have hpos:0 < xs.length:=HA.mpr hne
 have hla:a < s.heap.objs.size:=by obtain ⟨o,n,e,_⟩:=p;exact Fl e
 have hlm:mo < s.heap.objs.size:=Fl gm;refine kmk_tree PySem.F.kind_min PySem.F.plain_min PySem.F.entry_min (kmk_min_key _ _) ?_;show wpAny _ X.A.in1 (Builtin.Builtins.bindParams "min" ["key","default"] 0 ⟨[],[(Str.ofString "key",.ref mo)]⟩ >>=_) _ _ s;refine Fq (wpAny_of_eq (show Builtin.Builtins.bindParams "min" ["key","default"] 0 ⟨[],[(Str.ofString "key",.ref mo)]⟩=pure [some (.ref mo),none] from rfl) ?_);refine Fq (FK ?_);refine Fq (R8 p.isList ?_);refine Fq (wpAny_newList ?_ (FB _));rw [hname];refine FK ⟨Ry Hd _,?_⟩;have hS:(s.heap.push {cls:= .type "list_iterator",data:= .fields #[.ref a,.int 0 0]}).objs.size=s.heap.objs.size+1:=size_push' ..;generalize hSe:(s.heap.push {cls:= .type "list_iterator",data:= .fields #[.ref a,.int 0 0]}).objs.size=S at hS;have hai:a≠s.heap.objs.size:=Fo hla
 have nmi:mo≠s.heap.objs.size:=Fo hlm
 have nms:mo≠S:=by rw [hS];exact Fo (R9 hlm)
 have nis:s.heap.objs.size≠S:=by rw [hS];exact Fo (HE _)
 have k1:∀b o,s.heap.get? b=some o→((s.heap.push {cls:= .type "list_iterator",data:= .fields #[.ref a,.int 0 0]}).push (seqObj "list" #[] 0)).get? b=some o:=fun b o e=>Fd _ (Fd _ e);have fi:D3 X pins H s.heap.objs.size:=I.fpOk (Fg _) (I.hok.fresh (Fg _));have fs:D3 X pins H S:=I.fpOk (by rw [hS];exact R1 _) (I.hok.fresh (by rw [hS];exact R1 _));have gI:((s.heap.push {cls:= .type "list_iterator",data:= .fields #[.ref a,.int 0 0]}).push (seqObj "list" #[] 0)).get? s.heap.objs.size=some {cls:= .type "list_iterator",data:= .fields #[.ref a,.int 0 0]}:=Fd _ (Fs _ rfl)
 have gS:((s.heap.push {cls:= .type "list_iterator",data:= .fields #[.ref a,.int 0 0]}).push (seqObj "list" #[] 0)).get? S=some (seqObj "list" #[] 0):=by rw [← hSe];exact Fs _ rfl
 have gm1:=k1 _ _ gm;have I1:Inv X pins σ H {s with heap:=(s.heap.push {cls:= .type "list_iterator",data:= .fields #[.ref a,.int 0 0]}).push (seqObj "list" #[] 0),toks:=s.toks}:=I.kept k1;obtain ⟨its',rv1,p1,_⟩:=I1.list hq;have hln1:=rv1.length;have W:=Walks.list (prog:=X.prog) (w:=X.w) (A:=X.A.in1) hh s.heap.objs.size a hai its'.toArray
 have hsz:its'.toArray.size=xs.length:=by rw [Fn,hln1]
 refine codeAny_builtin Ri ?_;rw [Around.under_plainId Hd _];show wpAny _ X.A.in1 (seqItems? (.ref S) >>=_) _ _ _;refine Fq (wpAny_seqItems gS rfl ?_);show wpAny _ X.A.in1 (tryCatch (pyNext (.ref s.heap.objs.size)) _ >>=_) _ _ _;refine Fq (HV (W.item 0 _ _ _ (by rw [hsz];exact hpos) ⟨⟨_,gI,rfl,rfl⟩,p1.isList⟩ fun v h' tk' hP hst' hk'=>?_));have hk2:∀b o,b≠s.heap.objs.size→((s.heap.push {cls:= .type "list_iterator",data:= .fields #[.ref a,.int 0 0]}).push (seqObj "list" #[] 0)).get? b=some o→h'.get? b=some o:=fun b o e=>hk' b o (by simpa using e);have hx0:=Fb hpos;obtain ⟨v',hv',rv'⟩:=rv1.get hx0
 have hvv:v'=v:=by
  have:its'[0]?=some v:=by simpa using hP
  rw [hv']at this;exact FL this
 subst hvv;obtain ⟨oI',hoI',hoc,hod⟩:=id hst'.1;have I2:Inv X pins σ H {s with heap:=h',toks:=tk'}:=I1.turn1 fi hk2;have gS':=hk2 S _ (Ne.symm nis) gS;have gm':=hk2 mo _ nmi gm1
 have I2p:Inv X (pins++[(mo,PySem.W.methodObj (.ref g) (.ref q)),(S,seqObj "list" #[] 0),(s.heap.objs.size,oI')]) σ H {s with heap:=h',toks:=tk'}:=I2.pins_of fun p hp=>by
  rcases FF.mp hp with hp | hp
  · exact I2.pin p (Fx _ hp)
  · simp only [Fv,Ha,or_false]at hp
    rcases hp with rfl | rfl | rfl
    · exact ⟨gm',fm.1,fm.2.1,fm.2.2.1,fun v e=>by cases e⟩
    · exact ⟨gS',fs.1,fs.2.1,fs.2.2.1,fun v e=>by cases e⟩
    · exact ⟨hoI',fi.1,fi.2.1,fi.2.2.1,fun v e=>by rw [hod]at e;cases e⟩
 show wpAny _ X.A.in1 (tryCatch (holding [v'] (call (.ref mo) [v'])) _ >>=_) _ _ _;refine Fq (HV (HQ (thn (Mw (vs:=[xs[0]]) F hr hb I2p (.cons rv' .nil) gm' (turn 0 _ hx0 H (A7.refl H))) fun x s2 he=>?_)));obtain ⟨y,H2,I3p,ry,sm2,t2,rfl,ht2⟩:=he;obtain rfl:x=Value.ref t2:=ry;have P2:=fun p hp=>I3p.pin p (Fx _ (Fx _ hp));have pm:=P2 (mo,PySem.W.methodObj (.ref g) (.ref q)) (by simp);have pS:=P2 (S,seqObj "list" #[] 0) (by simp);have pI:=P2 (s.heap.objs.size,oI') (by simp);have I3:Inv X pins σ H2 s2:=I3p.pins_of fun p hp=>I3p.pin p (Fx _ (Hw _ hp));have s1:=Rx s2.heap S (Obj.mapSeq fun _=>#[v',.ref t2])
 obtain ⟨c2,hc2⟩:∃c2,(s2.heap.update S (Obj.mapSeq fun _=>#[v',.ref t2])).get? S=some (seqObj "list" #[v',.ref t2] c2):=⟨_,get?_update_seq pS.1 fun _=>#[v',.ref t2]⟩
 show wpAny _ X.A.in1 (updateSeq S (fun _=>#[v',.ref t2]) >>=_) _ _ _;refine Fq ?_;refine wpAny_updateSeq pS.1 rfl ?_;rw [hname];have I4:Inv X pins σ H2 {s2 with heap:=s2.heap.update S (Obj.mapSeq fun _=>#[v',.ref t2]),toks:=s2.toks}:=I3.turn1 (fs.at pS.2.1) fun b o e e2=>(s1.2 b e).trans e2;refine FK ⟨Ry Hd _,Yc (H0:=H) (kf:=kf) (xs:=xs) (a:=a) F hr hb hq hai turn (fun v u H' s' smH I' ru hv=>?_) nmi nms nis _ 0 _ H2 v' t2 c2 xs[0] rfl hpos I4 sm2 (fm.at pm.2.1) (fi.at pI.2.1) (fs.at pS.2.1) ((s1.2 mo nms).trans pm.1) hc2 ⟨oI',(s1.2 _ nis).trans pI.1,hoc,hod⟩ hx0 rv' ht2⟩;exact ⟨v,H',I',ru,hQ v H' smH hv⟩
end
structure J37(P:Program)(w:World)(K:PySem.W.Frag)(mg:Str→Option Value)(base:Heap)(k:Nat)(C:Addr)(m:Str)(ps:List Str)(sp:Sp):Prop where
 ex:∃(f:Addr) (fd:FuncData),Al P w K mg base CX0 k f fd ps sp∧Xo K C m f∧C0 K fd ps []∧PySem.W.specialIn K (.ref f) "__get__"=some (some (.builtin "function.__get__"))∧PySem.W.takesIn K (.ref f)=some false
def J6n(K:PySem.W.Frag)(C:Addr)(m:Str)(sp:Sp)(ta:TA)(to:TE):TE:=fun σ H Q=>ta σ H fun vs H1=>to σ H1 fun o H2=>∃(a q dx:Addr) (fs:List (Str×V)) (xs:List V) (kf:Nat→List Int),vs=[.ref a]∧o= .ref q∧H2 q=some (.ins C dx fs)∧fs.lookup m=none∧SqL K H2 a xs∧xs≠[]∧
 (∀i v,xs[i]?=some v→∀H',A7 H2 H'→sp [.ref q,v] H' (fun u H''=>A7 H' H''∧∃t,u= .ref t∧H'' t=some (.tup ((kf i).map V.int))) E0)∧∀v H',A7 H2 H'→xs[argBest (btK kf) (xs.length - 1)]?=some v→Q v H'
section
variable {X:Cx} {k j:Nat} {C:Addr} {ps:List Str} {sp:Sp} {m:Str} {x:Str} {p pos apos kp:Pos} {e o:Expr} {t:TA} {to:TE}
theorem Wr(D:J37 X.prog X.w X.K X.mg X.base j C m ps sp)(c:Cls X.K C)(hr:Bh k X.A)(hg:Gl X x)(hm:X.mg x=none)(hv:bootBuiltins x=some (.builtin "min"))(ha:PA X [e] t)(ho:PE X o to)(hba:attributeBase o m X.env (eval o X.env)=eval o X.env)(hcn:PySem.W.copiedNames.contains m=false:=by decide+kernel)(hj:j+1≤k:=by decide)(hn:x≠"__name__":=by decide)(hdb:(x==("__debug__":Str))=false:=by decide)
 (he:backTo pos (starEach [e] X.env)=(false,eval e X.env)::backTo pos (starEach [] X.env):=by rfl) (hpl:(backTo pos (starEach [e] X.env)).any (·.1)=false:=by rfl):
 PE X (.Call (.Name x p) [e] [⟨some (Str.ofString "key"),.Attribute o m apos,kp⟩] pos) (J6n X.K C m sp t to):=by
 obtain ⟨g,fd,F,M,hb,hgf,htk⟩:=D.ex;intro pins s σ H Q I h;refine FZ (Ir I hg hm hv ?_ hn hdb);refine callWith_kw (thn (ha pos pins s σ H _ I h) fun us s1 hq_=>?_) he hpl;obtain ⟨vs,H1,I1,r1,q1⟩:=hq_;refine kws_cons (Up hba (thn (ho pins s1 σ H1 _ I1 q1) fun u s2 hq_=>?_));obtain ⟨y,H2,I2,ry,a,q,dx,fs,xs,kf,ev,ey,hq,hl,hx,hne,turn,fin⟩:=hq_;subst ev ey;obtain rfl:u=Value.ref q:=ry;obtain ⟨u,rfl,ru⟩:=Do r1;obtain rfl:u=Value.ref a:=ru;refine Ss I2 hq c M hl hgf htk hcn (kws_nil ?_);have I3:Inv X pins σ H2 {s2 with heap:=s2.heap.push (PySem.W.methodObj (.ref g) (.ref q)),toks:=s2.toks+1}:=I2.kept fun b o e=>Fd _ e;exact Yd (q:=q) (g:=g) (F.mono (show j≤j from Fg j)) (hr.mono hj) hb I3 hx hne (Fs _ rfl) (I2.fpOk (Fg _) (I2.hok.fresh (Fg _))) turn fin
theorem Ws{K:PySem.W.Frag}{σ:St}{H:Hp}{Q:VK}:J6n K C m sp t to σ H Q=t σ H fun vs H1=>to σ H1 fun o H2=>∃(a q dx:Addr) (fs:List (Str×V)) (xs:List V) (kf:Nat→List Int),vs=[.ref a]∧o= .ref q∧H2 q=some (.ins C dx fs)∧fs.lookup m=none∧SqL K H2 a xs∧xs≠[]∧
 (∀i v,xs[i]?=some v→∀H',A7 H2 H'→sp [.ref q,v] H' (fun u H''=>A7 H' H''∧∃t,u= .ref t∧H'' t=some (.tup ((kf i).map V.int))) E0)∧∀v H',A7 H2 H'→xs[argBest (btK kf) (xs.length - 1)]?=some v→Q v H':=rfl
end
end L2
namespace L2
def J86(C:Bool→Addr)(m:Str)(sp:Bool→Sp)(EE:St→XK)(ta:TE)(t:TA):TE:=fun σ H Q=>ta σ H fun x H1=>∃b a dx fs,x= .ref a∧H1 a=some (.ins (C b) dx fs)∧fs.lookup m=none∧t σ H1 fun vs H2=>sp b (x::vs) H2 Q (EE σ)
section
variable {X:Cx} {CX:CXT} {k j:Nat} {C:Bool→Addr} {ps:List Str} {sp:Bool→Sp} {EE:St→XK} {m:Str} {pos apos:Pos} {e o:Expr} {es:List Expr} {ta:TE} {t:TA}
theorem Su{σ:St}{H:Hp}{Q:VK}:J86 C m sp EE ta t σ H Q=ta σ H fun x H1=>∃b a dx fs,x= .ref a∧H1 a=some (.ins (C b) dx fs)∧fs.lookup m=none∧t σ H1 fun vs H2=>sp b (x::vs) H2 Q (EE σ):=rfl
end
end L2
namespace N22
open L2 N1 N5 N4 N6 N12 N32 N14 N20 N18 N25 NR
def rf0(p:Addr)(n:Int):List (Str×V):=B3 "places" (.int n) (B3 "stock" (.ref p) [])
def rf1(p:Addr)(n k:Int)(la pa:Addr):List (Str×V):=B3 "put_at" (.ref pa) (B3 "last" (.ref la) (B3 "present" (.int k) (rf0 p n)))
theorem Ye{l:List Str}(h:l≠[]):l.headD Str.empty∈l:=by
 cases l with
 | nil=>exact absurd rfl h
 | cons x r=>exact Fu ..
structure S1 where
 k:Int
 la:List (Key×V)
 pu:List (Key×V)
def pv(s:S1)(z:Str):Int:=match Bb s.pu (Sum.inr z) with
 | some (.int i)=>i
 | _=>0
def Ct(kvs:List (Key×V))(ns:List Str):Prop:=∃ks:List Str,kvs.map (·.1)=ks.map Sum.inr∧ks.Nodup∧∀z∈ks,z∈ns
theorem Ct.nil{ns:List Str}:Ct [] ns:=⟨[],rfl,Ho,by simp⟩
theorem Ct.len{kvs:List (Key×V)}{ns:List Str}(h:Ct kvs ns):kvs.length≤ns.length:=by
 obtain ⟨ks,e,nd,s⟩:=h;have:=congrArg List.length e;rw [Fa,Fa]at this;have:=J2z nd s;omega
theorem Ct.put{kvs:List (Key×V)}{ns:List Str}{z:Str}{v:V}(h:Ct kvs ns)(hz:z∈ns):Ct (Cq kvs (Sum.inr z) v) ns:=by
 obtain ⟨ks,e,nd,s⟩:=h;refine ⟨if z∈ks then ks else ks++[z],N53.J2x e,?_,?_⟩
 · split
   · exact nd
   · rename_i hn
     rw [FV];exact ⟨nd,by simp,fun a ha b hb e2=>hn (J32 (e2.trans (Fh.mp hb)) ha)⟩
 · intro u hu
   split at hu
   · exact s u hu
   · rcases FF.mp hu with hu | hu
     · exact s u hu
     · rw [Fh.mp hu];exact hz
structure FI(ns:List Str)(s:S1)(l:List Str)(B:Int):Prop where
 a:Ct s.la ns
 b:Ct s.pu ns
 v:∀z∈l,∃i,Bb s.pu (Sum.inr z)=some (.int i)∧i≤B
 o:l.Pairwise fun x y=>pv s x < pv s y
theorem J38{s:S1}{z:Str}{i:Int}(h:Bb s.pu (Sum.inr z)=some (.int i)):pv s z=i:=by unfold pv;rw [h]
def J39(s:S1)(z:Str):S1:=⟨s.k+1,Cq s.la (Sum.inr z) (.int (s.k+1)),s.pu⟩
def Ld(s:S1)(z:Str):S1:=⟨s.k,s.la,Cq s.pu (Sum.inr z) (.int s.k)⟩
theorem FI.ask{ns:List Str}{s:S1}{l:List Str}{z:Str}{B:Int}(h:FI ns s l B)(hz:z∈ns):FI ns (J39 s z) l B:=⟨h.a.put hz,h.b,h.v,h.o⟩
theorem FI.mono{ns:List Str}{s:S1}{l:List Str}{B B':Int}(h:FI ns s l B)(hb:B≤B'):FI ns s l B':=⟨h.a,h.b,fun z hz=>(h.v z hz).imp fun _ e=>⟨e.1,HW e.2 hb⟩,h.o⟩
theorem FI.drop{ns:List Str}{s:S1}{l:List Str}{z:Str}{B:Int}(h:FI ns s l B):FI ns s (l.erase z) B:=
 ⟨h.a,h.b,fun u hu=>h.v u (Hs hu),h.o.sublist List.erase_sublist⟩
theorem FI.came{ns:List Str}{s:S1}{l:List Str}{z:Str}(h:FI ns s l (s.k - 1))(hz:z∈ns)(hn:z∉l):FI ns (Ld s z) (l++[z]) s.k:=by
 have hne:∀u∈l,(Sum.inr u:Key)≠Sum.inr z:=fun u hu e=>hn (by injection e with e;rw [← e];exact hu)
 have hold:∀u∈l,Bb (Cq s.pu (Sum.inr z) (.int s.k)) (Sum.inr u)=Bb s.pu (Sum.inr u):=fun u hu=>by rw [G8,if_neg (hne u hu)]
 have hnew:Bb (Cq s.pu (Sum.inr z) (.int s.k)) (Sum.inr z)=some (.int s.k):=by rw [G8,if_pos rfl]
 have pold:∀u∈l,pv (Ld s z) u=pv s u:=fun u hu=>by
  unfold pv Ld;simp only;rw [hold u hu]
 refine ⟨h.a,h.b.put hz,fun u hu=>?_,?_⟩
 · rcases FF.mp hu with hu | hu
   · obtain ⟨i,e,hi⟩:=h.v u hu
     exact ⟨i,(hold u hu).trans e,by omega⟩
   · rw [Fh.mp hu]
     exact ⟨s.k,hnew,HG _⟩
 · rw [List.pairwise_append]
   refine ⟨?_,List.pairwise_singleton ..,fun u hu y hy=>?_⟩
   · exact h.o.imp_of_mem fun hx hy hxy=>by rw [pold _ hx,pold _ hy];exact hxy
   · rw [Fh]at hy
     rw [hy,pold u hu];obtain ⟨i,e,hi⟩:=h.v u hu;rw [J38 e,J38 (s:=Ld s z) hnew];omega
def FAt(C:Addr)(H:Hp)(M:List Addr)(q p:Addr)(n:Int)(s:S1):Prop:=∃la pa,M=[q,la,pa]∧la≠pa∧(∃dx,H q=some (.ins C dx (rf1 p n s.k la pa)))∧H la=some (.dK s.la)∧H pa=some (.dK s.pu)
def T1(C:Addr):Ae where
 C:=C
 St:=S1
 At:=FAt C
 asked:=fun _ s z=>J39 s z
 pick:=fun _ s l=>(s,l.headD Str.empty)
 gone:=fun _ s _=>s
 came:=fun _ s z=>Ld s z
 inv:=fun ns _ s l=>FI ns s l s.k
 mid:=fun ns _ _ s l=>FI ns s l (s.k - 1)
 dep:=fun e ⟨la,pa,hM,d,⟨dx,ho⟩,h1,h2⟩=>by
  rw [hM]at e;exact ⟨la,pa,hM,d,⟨dx,e _ (by simp) _ ho⟩,e _ (by simp) _ h1,e _ (by simp) _ h2⟩
 live:=fun ⟨la,pa,hM,d,⟨dx,ho⟩,h1,h2⟩ m hm e=>by
  rw [hM]at hm;simp only [Fv,Ha,or_false]at hm;rcases hm with e1 | e1 | e1
  · rw [e1,ho]at e;cases e
  · rw [e1,h1]at e;cases e
  · rw [e1,h2]at e;cases e
 obj:=fun ⟨la,pa,hM,d,⟨dx,ho⟩,h1,h2⟩=>⟨dx,_,ho,by rfl,by rfl,by rfl,by rfl,by rfl,by rfl,by rfl⟩
 i_hit:=fun {ns n s l z} h hz _=>(FI.ask h hz).mono (show s.k≤s.k+1 by omega)
 i_mid:=fun {ns n s l z} h hz _=>(FI.ask h hz).mono (show s.k≤s.k+1 - 1 by omega)
 i_pick:=fun h hl=>⟨Ye hl,FI.drop h⟩
 i_came:=fun h hz hn=>FI.came h hz hn
theorem Yf{kf:Nat→List Int}{v:Nat→Int}{m:Nat}(hk:∀i,i≤m→kf i=[v i])(ho:∀i,i≤m→v 0≤v i):argBest (btK kf) m=0:=by
 have:∀j,j≤m→argBest (btK kf) j=0:=by
  intro j
  induction j with
  | zero=>intro _;rfl
  | succ j ih=>
   intro hj;show (if btK kf (j+1) (argBest (btK kf) j)=true then j+1 else argBest (btK kf) j)=0;rw [ih (by omega)]
   have:btK kf (j+1) 0=false:=by
    unfold btK;rw [hk _ hj,hk 0 (by omega)];show (if v (j+1)=v 0 then false else decide (v (j+1) < v 0))=false;have:=ho (j+1) hj;split
    · rfl
    · exact Fw (by omega)
   rw [this];rfl
 exact this m (Fg _)
def Ie(C:Addr):Sp:=fun vs H Q _=>∃(q dx p:Addr) (n:Int),vs=[.ref q,.ref p,.int n]∧H q=some (.ins C dx [])∧1≤n∧n≤1000000∧∀H' la pa,SameBut q H H'→H la=none→H pa=none→FAt C H' [q,la,pa] q p n ⟨0,[],[]⟩→Q .non H'
def Dw(C:Addr):Sp:=fun vs H Q _=>∃(q p:Addr) (n:Int) (M:List Addr) (s:S1) (z:Str),vs=[.ref q,.str z]∧FAt C H M q p n s∧s.la.length≤1000∧∀H',Kp M H H'→FAt C H' M q p n (J39 s z)→Q .non H'
def Ec(C:Addr):Sp:=fun vs H Q _=>∃(q p:Addr) (n:Int) (M:List Addr) (s:S1) (z:Str) (i:Int),vs=[.ref q,.str z]∧FAt C H M q p n s∧Bb s.pu (Sum.inr z)=some (.int i)∧∀t,H t=none→Q (.ref t) (upd H t (.tup [.int i]))
section
variable {p la pa:Addr} {n k k':Int}
theorem J53:(rf1 p n k la pa).length=5:=by rfl
theorem Gh:(rf1 p n k la pa).lookup ("present":Str)=some (V.int k):=by rfl
theorem J3a:(rf1 p n k la pa).lookup ("last":Str)=some (V.ref la):=by rfl
theorem Wt:(rf1 p n k la pa).lookup ("put_at":Str)=some (V.ref pa):=by rfl
end
end N22
namespace N21
open L2 N1 N5 N4 N6 N12 N32 N14 N20 N18 N25 NR N22
structure S2 where
 k:Int
 la:List (Key×V)
def lv(s:S2)(z:Str):Int:=match Bb s.la (Sum.inr z) with
 | some (.int i)=>i
 | _=>0
theorem Wu{s:S2}{z:Str}{i:Int}(h:Bb s.la (Sum.inr z)=some (.int i)):lv s z=i:=by unfold lv;rw [h]
def lmin(v:Str→Int)(l:List Str):Str:=l.getD (argBest (fun i j=>decide (v (l.getD i Str.empty) < v (l.getD j Str.empty))) (l.length - 1)) Str.empty
theorem J54{v:Str→Int}{l:List Str}(h:l≠[]):lmin v l∈l∧∀u∈l,v (lmin v l)≤v u:=by
 have hl0:0 < l.length:=HA.mpr h;have hb:=Wf (fun i=>v (l.getD i Str.empty)) (l.length - 1);unfold lmin;generalize argBest (fun i j=>decide (v (l.getD i Str.empty) < v (l.getD j Str.empty))) (l.length - 1)=m at hb
 have hm:m < l.length:=by omega
 refine ⟨?_,fun u hu=>?_⟩
 · rw [Fc,Fb hm];exact Hn hm
 · obtain ⟨j,hj⟩:=FC.mp hu
   have hjl:=(Fi.mp hj).1;have:=hb.2 j (by omega);rw [show l.getD j Str.empty=u by rw [Fc,hj];rfl]at this;exact this
structure LI(ns:List Str)(s:S2)(l:List Str):Prop where
 a:Ct s.la ns
 v:∀z∈l,∃i,Bb s.la (Sum.inr z)=some (.int i)∧i≤s.k
 o:l.Pairwise fun x y=>lv s x≠lv s y
def Lp(s:S2)(z:Str):S2:=⟨s.k+1,Cq s.la (Sum.inr z) (.int (s.k+1))⟩
theorem Wv{s:S2}{z u:Str}(h:u≠z):Bb (Lp s z).la (Sum.inr u)=Bb s.la (Sum.inr u):=by
 unfold Lp;simp only;rw [G8,if_neg (J52 h)]
theorem Pp{s:S2}{z:Str}:Bb (Lp s z).la (Sum.inr z)=some (.int (s.k+1)):=by
 unfold Lp;simp only;rw [G8,if_pos rfl]
theorem Mx{s:S2}{z u:Str}(h:u≠z):lv (Lp s z) u=lv s u:=by unfold lv;rw [Wv h]
theorem J3b{s:S2}{z:Str}:lv (Lp s z) z=s.k+1:=Wu Pp
theorem LI.le{ns:List Str}{s:S2}{l:List Str}(h:LI ns s l):∀z∈l,lv s z≤s.k:=fun z hz=>by
 obtain ⟨i,e,hi⟩:=h.v z hz;rw [Wu e];exact hi
theorem LI.ask{ns:List Str}{s:S2}{l:List Str}{z:Str}(h:LI ns s l)(hz:z∈ns):LI ns (Lp s z) l:=by
 refine ⟨h.a.put hz,fun u hu=>?_,h.o.imp_of_mem fun {x y} hx hy hxy=>?_⟩
 · by_cases e:u=z
   · rw [e];exact ⟨_,Pp,HG _⟩
   · obtain ⟨i,e1,e2⟩:=h.v u hu
     exact ⟨i,(Wv e).trans e1,by show i≤s.k+1;omega⟩
 · have lx:=h.le x hx
   have ly:=h.le y hy
   by_cases ex:x=z
   · by_cases ey:y=z
     · exact absurd (by rw [ex,ey]) hxy
     · rw [ex,J3b,Mx ey];omega
   · by_cases ey:y=z
     · rw [ey,J3b,Mx ex];omega
     · rw [Mx ex,Mx ey];exact hxy
theorem LI.drop{ns:List Str}{s:S2}{l:List Str}{z:Str}(h:LI ns s l):LI ns s (l.erase z):=
 ⟨h.a,fun u hu=>h.v u (Hs hu),h.o.sublist List.erase_sublist⟩
structure LM(ns:List Str)(z:Str)(s:S2)(l:List Str):Prop where
 i:LI ns s l
 z:Bb s.la (Sum.inr z)=some (.int s.k)
 b:∀u∈l,lv s u < s.k
theorem LI.mid{ns:List Str}{s:S2}{l:List Str}{z:Str}(h:LI ns s l)(hz:z∈ns)(hn:z∉l):LM ns z (Lp s z) l:=
 ⟨h.ask hz,Pp,fun u hu=>by
  have:=h.le u hu;have e:lv (Lp s z) u=lv s u:=Mx (fun e=>hn (by rw [← e];exact hu));show lv (Lp s z) u < s.k+1
  omega⟩
theorem LM.came{ns:List Str}{s:S2}{l:List Str}{z:Str}(h:LM ns z s l):LI ns s (l++[z]):=by
 refine ⟨h.i.a,fun u hu=>?_,?_⟩
 · rcases FF.mp hu with hu | hu
   · exact h.i.v u hu
   · rw [Fh.mp hu];exact ⟨_,h.z,HG _⟩
 · rw [List.pairwise_append]
   refine ⟨h.i.o,List.pairwise_singleton ..,fun u hu y hy=>?_⟩;rw [Fh.mp hy,Wu h.z];have:=h.b u hu;omega
def rf2(p:Addr)(n k:Int)(la:Addr):List (Str×V):=B3 "last" (.ref la) (B3 "present" (.int k) (rf0 p n))
def OAt(C:Addr)(H:Hp)(M:List Addr)(q p:Addr)(n:Int)(s:S2):Prop:=∃la,M=[q,la]∧(∃dx,H q=some (.ins C dx (rf2 p n s.k la)))∧H la=some (.dK s.la)
def T2(C:Addr):Ae where
 C:=C
 St:=S2
 At:=OAt C
 asked:=fun _ s z=>Lp s z
 pick:=fun _ s l=>(s,lmin (lv s) l)
 gone:=fun _ s _=>s
 came:=fun _ s _=>s
 inv:=fun ns _ s l=>LI ns s l
 mid:=fun ns _ z s l=>LM ns z s l
 dep:=fun e ⟨la,hM,⟨dx,ho⟩,h1⟩=>by
  rw [hM]at e;exact ⟨la,hM,⟨dx,e _ (by simp) _ ho⟩,e _ (by simp) _ h1⟩
 live:=fun ⟨la,hM,⟨dx,ho⟩,h1⟩ m hm e=>by
  rw [hM]at hm;simp only [Fv,Ha,or_false]at hm;rcases hm with e1 | e1
  · rw [e1,ho]at e;cases e
  · rw [e1,h1]at e;cases e
 obj:=fun ⟨la,hM,⟨dx,ho⟩,h1⟩=>⟨dx,_,ho,by rfl,by rfl,by rfl,by rfl,by rfl,by rfl,by rfl⟩
 i_hit:=fun h hz _=>LI.ask h hz
 i_mid:=fun h hz hn=>LI.mid h hz hn
 i_pick:=fun h hl=>⟨(J54 hl).1,LI.drop h.i,h.z,fun u hu=>h.b u (Hs hu)⟩
 i_came:=fun h _ _=>LM.came h
def s20:S2:=⟨0,[]⟩
section
variable {p la:Addr} {n k k':Int}
theorem J55:(rf2 p n k la).length=4:=by rfl
theorem Lm:(rf2 p n k la).lookup ("present":Str)=some (V.int k):=by rfl
theorem Sv:(rf2 p n k la).lookup ("last":Str)=some (V.ref la):=by rfl
end
def Dx(C:Addr):Sp:=fun vs H Q _=>∃(q p:Addr) (n:Int) (M:List Addr) (s:S2) (z:Str),vs=[.ref q,.str z]∧OAt C H M q p n s∧s.la.length≤1000∧∀H',Kp M H H'→OAt C H' M q p n (Lp s z)→Q .non H'
def Ig(C:Addr):Sp:=fun vs H Q _=>∃(q p:Addr) (n:Int) (M:List Addr) (s:S2) (z:Str) (i:Int),vs=[.ref q,.str z]∧OAt C H M q p n s∧Bb s.la (Sum.inr z)=some (.int i)∧Q (.int i) H
def Ed(C:Addr):Sp:=fun vs H Q _=>∃(q p:Addr) (n:Int) (M:List Addr) (s:S2) (z:Str) (i:Int),vs=[.ref q,.str z]∧OAt C H M q p n s∧Bb s.la (Sum.inr z)=some (.int i)∧∀t,H t=none→Q (.ref t) (upd H t (.tup [.int i]))
theorem J87{v:Nat→Int}:btK (fun i=>[v i])=fun i j=>decide (v i < v j):=by
 funext i j;show (if v i=v j then false else decide (v i < v j))=decide (v i < v j);split
 · rename_i e;rw [e];exact (Fw (Int.lt_irrefl _)).symm
 · rfl
def Le(T:Ae)(K:PySem.W.Frag)(C S:Addr):Sp:=fun vs H Q _=>∃(H0:Hp) (q p a:Addr) (M:List Addr) (n:Int) (ts:List Th) (ys:List Str) (s0:T.St),vs=[.ref q,.ref a]∧T.At H M q p n s0∧T.inv (ts.map (·.1)) n s0 []∧Af K C H0 p ts∧A7 H0 H∧(∀m∈M,H0 m=none)∧(ts.map (·.1)).Nodup∧ts.length≤60∧SqL K H a (ys.map V.str)∧a∉M∧ys.length≤200∧(∀y∈ys,y∈ts.map (·.1))∧(∀y∈ys,rm ts y≤n)∧1≤n∧n≤1000000∧T.cnt s0≤50∧
 ∀(b:Addr) (as gs:List Addr) (H':Hp),Kp M H H'→H' b=some (.lst (as.map V.ref))→(∀(i:Nat) a,as[i]?=some a→∃xs,H' a=some (.tup xs))→Ge K H' b as gs (grows T (rm ts) n s0 ys ys.length)→T.At H' M q p n (gst T (rm ts) n s0 ys ys.length).1→H b=none→b∉gs→gs.Nodup→(∀(i:Nat) a g,as[i]?=some a→gs[i]?=some g→H a=none∧H g=none∧g∉M∧H' a=some (.tup [.str (NR.grow T (rm ts) n s0 ys i).1,.bl (NR.grow T (rm ts) n s0 ys i).2.1,.ref g])∧H' g=some (.lst ((NR.grow T (rm ts) n s0 ys i).2.2.map V.str)))→Q (.ref b) H'
end N21
namespace N24
open L2 N1 N5 N4 N6 N12 N32 N14 N20 N18 N25 NR N22 N21
end N24
namespace L2
def J56:List V→Hp→VK→Prop:=fun xs H Q=>∃a kvs,xs=[.ref a]∧H a=some (.dK kvs)∧∀l,H l=none→Q (.ref l) (upd H l (.dK kvs))
section
variable {H:Hp} {Q:VK} {x:V} {xs:List V}
theorem Oe:J56 xs H Q=∃a kvs,xs=[.ref a]∧H a=some (.dK kvs)∧∀l,H l=none→Q (.ref l) (upd H l (.dK kvs)):=rfl
end
end L2
namespace L2
section
variable {P:Program} {w:World} {K:PySem.W.Frag} {mg:Str→Option Value} {base:Heap} {x qual:Str} {st:Stmt} {f:Addr} {fd:FuncData} {dv:List Value} {N ps:List Str} {k:Nat} {sp:Sp}
def J88:List V→List V→List V
 | [a,b,c],[d]=>[a,b,c,d]
 | _,_=>[]
theorem Ww{a b c d:V}:J88 [a,b,c] [d]=[a,b,c,d]:=rfl
end
def J89(C:Addr)(sp:Sp)(dvs:List V)(EE:St→XK)(t:TA):TE:=fun σ H Q=>t σ H fun vs H1=>∀x dx,H1 x=none→H1 dx=none→dx≠x→sp (.ref x::(vs++dvs)) (upd (upd H1 dx (.own x)) x (.ins C dx [])) (fun v H2=>v= .non∧Q (.ref x) H2) (EE σ)
def J8a(C:Addr)(sp:Sp)(EE:St→XK)(t tk:TA):TE:=fun σ H Q=>t σ H fun vs H1=>tk σ H1 fun zs H2=>∀x dx,H2 x=none→H2 dx=none→dx≠x→sp (J88 (.ref x::vs) zs) (upd (upd H2 dx (.own x)) x (.ins C dx [])) (fun v H3=>v= .non∧Q (.ref x) H3) (EE σ)
section
variable {X:Cx} {CX:CXT} {k j:Nat} {f C:Addr} {fd:FuncData} {ps:List Str} {sp:Sp} {EE:St→XK} {x kn:Str} {p pos kpos:Pos} {e ke:Expr} {es:List Expr} {kws:List Keyword} {t tk:TA} {te:TE} {dvs:List V}
theorem Sw{σ:St}{H:Hp}{Q:VK}:J89 C sp dvs EE t σ H Q=t σ H fun vs H1=>∀x dx,H1 x=none→H1 dx=none→dx≠x→sp (.ref x::(vs++dvs)) (upd (upd H1 dx (.own x)) x (.ins C dx [])) (fun v H2=>v= .non∧Q (.ref x) H2) (EE σ):=rfl
theorem Sx{σ:St}{H:Hp}{Q:VK}:J8a C sp EE t tk σ H Q=t σ H fun vs H1=>tk σ H1 fun zs H2=>∀x dx,H2 x=none→H2 dx=none→dx≠x→sp (J88 (.ref x::vs) zs) (upd (upd H2 dx (.own x)) x (.ins C dx [])) (fun v H3=>v= .non∧Q (.ref x) H3) (EE σ):=rfl
end
end L2
namespace N23
open L2 N1 N5 N4 N6 N12 N32 N14 N20 N18 N25 NR N22 N21 N24
end N23
namespace N26
open L2 N1 N5 N4 N6 N12 N32 N14 N20 N18 N25 NR
structure R4 where
 a:List Str
 b:List Str
 p:List Str
 q:List Str
 k:Int
 r:Bool
theorem J3c{K:PySem.W.Frag}{H:Hp}{a p:Addr}{L:List Str}(h:H a=some (.lst (L.map V.str)))(hp:H p=some (.lst [])):EqQ K H (.ref a) (.ref p) (decide (L=[])):=
 ⟨a,p,L.map V.str,([]:List Str).map V.str,rfl,rfl,.inl ⟨SqL.of h,SqL.of hp⟩,Kh,Kh,Ll.symm⟩
def l4(s:R4)(j:Nat):List Str:=match j with
 | 0=>s.a
 | 1=>s.b
 | 2=>s.p
 | _=>s.q
end N26
namespace L2
def J3d{ι:Type}(C:ι→Addr)(m:Str)(sp:ι→Sp)(EE:St→XK)(ta:TE)(t:TA):TE:=fun σ H Q=>ta σ H fun x H1=>∃b a dx fs,x= .ref a∧H1 a=some (.ins (C b) dx fs)∧fs.lookup m=none∧t σ H1 fun vs H2=>sp b (x::vs) H2 Q (EE σ)
section
variable {ι:Type} {X:Cx} {CX:CXT} {k j:Nat} {C:ι→Addr} {ps:List Str} {sp:ι→Sp} {EE:St→XK} {m:Str} {pos apos:Pos} {e o:Expr} {es:List Expr} {ta:TE} {t:TA}
theorem Kq{pl:Sem Bool}(D:∀b,Ck X.prog X.w X.K X.mg X.base CX j (C b) m ps (sp b))(c:∀b,Cls X.K (C b))(hr:Bh k X.A)(hx:Ds CX X EE)(he:PE X o ta)(ha:PA X (e::es) t)(hj:j≤k:=by decide)
 (hst:starEach (e::es) X.env=(false,eval e X.env)::starEach es X.env:=by rfl) (hpl:(backTo pos (starEach es X.env)).any (·.1)=false:=by rfl)
 (ht:eval (.Call (.Attribute o m apos) (e::es) [] pos) X.env=(do
  let ov ← eval o X.env
  standAt apos.atName
  let (f,first) ← holding [ov] (getMethod ov m pl)
  callWith pos f first (backTo pos (starEach (e::es) X.env)) (backToKw pos (keywordEach [] X.env))):=by rfl):
 PE X (.Call (.Attribute o m apos) (e::es) [] pos) (J3d C m sp EE ta t):=by
 intro pins s σ H Q I h;refine HX (pl:=pl) (thn (he pins s σ H _ I h) fun u s1 hq_=>?_) ht;obtain ⟨x,H1,I1,rx,b,a,dx,fs,ex,ea,l,q⟩:=hq_;obtain ⟨f,fd,F,hm,hb⟩:=(D b).ex;subst ex;obtain rfl:u=Value.ref a:=rx;refine Iv I1 ea (c b) hm l ?_;refine Hg (first:=[.ref a]) (h₀:=X.base) I.ok.mod.kin hm.kp (thn (ha pos pins s1 σ H1 _ I1 q) fun us s2 ⟨vs,H2,I2,r,q2⟩=>⟨I2.kIn,?_⟩) hst hpl;exact Lv (us:= .ref a::us) (vs:= .ref a::vs) (F.mono hj) hr hb hx I2 (.cons rfl r) q2
theorem Sy{σ:St}{H:Hp}{Q:VK}:J3d C m sp EE ta t σ H Q=ta σ H fun x H1=>∃b a dx fs,x= .ref a∧H1 a=some (.ins (C b) dx fs)∧fs.lookup m=none∧t σ H1 fun vs H2=>sp b (x::vs) H2 Q (EE σ):=rfl
end
def Jao:R2:=fun x y H Q=>∃a b kvs,x= .ref a∧y= .ref b∧H a=some (.dK kvs)∧H b=some (.dK kvs)∧(∀p∈kvs,Co p.2=true)∧Q (.bl false) H
section
variable {X:Cx}
theorem Wx{x y:V}{H:Hp}{Q:VK}:Jao x y H Q=∃a b kvs,x= .ref a∧y= .ref b∧H a=some (.dK kvs)∧H b=some (.dK kvs)∧(∀p∈kvs,Co p.2=true)∧Q (.bl false) H:=rfl
end
end L2
namespace L2
open PySem.W
def Jap(K:PySem.W.Frag):List V→Hp→VK→Prop:=fun xs H Q=>∃(p C dx D:Addr) (fs:List (Str×V)),xs=[.ref p,.ref D]∧H p=some (.ins C dx fs)∧PySem.W.kitOne K (.ref C) (.ref D)=some true∧Q (.bl true) H
theorem Wy{K:PySem.W.Frag}{xs:List V}{H:Hp}{Q:VK}:Jap K xs H Q=∃(p C dx D:Addr) (fs:List (Str×V)),xs=[.ref p,.ref D]∧H p=some (.ins C dx fs)∧PySem.W.kitOne K (.ref C) (.ref D)=some true∧Q (.bl true) H:=rfl
end L2
namespace L2
def J8b(K:PySem.W.Frag):List V→Hp→VK→Prop:=fun xs H Q=>∃(p:Addr) (ys:List Str),xs=[.ref p]∧SqL K H p (ys.map V.str)∧ys.length < 64∧∀(q:Addr) (zs:List Str),H q=none→zs.Perm ys→sortedS zs=true→Q (.ref q) (upd H q (.lst (zs.map V.str)))
theorem Sz{K:PySem.W.Frag}{xs:List V}{H:Hp}{Q:VK}:J8b K xs H Q=∃(p:Addr) (ys:List Str),xs=[.ref p]∧SqL K H p (ys.map V.str)∧ys.length < 64∧∀(q:Addr) (zs:List Str),H q=none→zs.Perm ys→sortedS zs=true→Q (.ref q) (upd H q (.lst (zs.map V.str))):=rfl
end L2
namespace N28
open L2 N1 N5 N4 N6 N12 N32 N14 N20 N18 N25 NR N22 N21 N24 N23 N26
def Kr{ι:Type}(T:ι→Ae)(K:PySem.W.Frag)(C S:Addr):Sp:=fun vs H Q E=>∃b,Mv (T b) K C S vs H Q E
def M4{ι:Type}(T:ι→Ae)(K:PySem.W.Frag)(C S:Addr):Sp:=fun vs H Q E=>∃b,Po (T b) K C S vs H Q E
def Dk(K:PySem.W.Frag):Sp:=fun vs H Q _=>∃(X q dx p:Addr) (n:Int),vs=[.ref q,.ref p,.int n]∧H q=some (.ins X dx [])∧Cls K X∧Ap K X "stock"∧Ap K X "places"∧1≤n∧n≤1000000∧∀H',SameBut q H H'→H' q=some (.ins X dx (rf0 p n))→Q .non H'
def Ce(K:PySem.W.Frag):Sp:=fun vs H Q _=>∃(X q dx p:Addr) (n:Int),vs=[.ref q,.ref p,.int n]∧H q=some (.ins X dx [])∧Cls K X∧(Ap K X "stock"∧Ap K X "places")∧Ap K X "present"∧Ap K X "last"∧1≤n∧n≤1000000∧∀H' la,SameBut q H H'→H la=none→la≠q→H' q=some (.ins X dx (rf2 p n 0 la))→H' la=some (.dK [])→Q .non H'
inductive Wk(R:Str→Int)(n need:Int):List Str→List Str→List Str→Prop
 | nil {l:List Str} (h:need≤n - N41.sm R l):Wk R n need l [] l
 | cons {l w l':List Str} {x:Str} (hx:x∈l) (h:¬need≤n - N41.sm R l) (t:Wk R n need (l.erase x) w l'):Wk R n need l (x::w) l'
theorem J57{T:Ae}{R:Str→Int}{n need:Int}{z:Str}{ns:List Str}:∀(k:Nat) (s:T.St) (l w:List Str),l.length=k→T.mid ns n z s l→need≤n→∃v,(gf T R n need s l w).2.2=w++v∧Wk R n need l v (gf T R n need s l w).2.1:=by
 intro k
 induction k with
 | zero=>
  intro s l w hk hm hn;have hL:l=[]:=Hb.mp hk;subst hL
  have he:need≤n - N41.sm R []:=by rw [N41.D5];omega
  rw [Lc he];exact ⟨[],(FJ _).symm,.nil he⟩
 | succ k ih=>
  intro s l w hk hm hn
  by_cases he:need≤n - N41.sm R l
  · rw [Lc he]
    exact ⟨[],(FJ _).symm,.nil he⟩
  · have hne:l≠[]:=fun e=>by rw [e]at hk;cases hk
    obtain ⟨hp,hm2⟩:=T.i_pick hm hne;rw [J30 he hp];have hl:=Hz hp;obtain ⟨v,e1,e2⟩:=ih _ _ (w++[(T.pick n s l).2]) (by omega) hm2 hn;exact ⟨(T.pick n s l).2::v,by rw [e1,Rb];rfl,.cons hp he e2⟩
def Jbb(R:Str→Int)(n:Int)(l:List Str)(z:Str)(b:Bool)(w l':List Str):Prop:=(b=true∧z∈l∧w=[]∧l'=l)∨(b=false∧z∉l∧∃l1,Wk R n (R z) l w l1∧l'=l1++[z])
theorem J3e{T:Ae}{R:Str→Int}{n:Int}{z:Str}{ns:List Str}{s:T.St×List Str}(h:GI T ns n s)(hz:z∈ns)(hR:R z≤n):(gask T R n s z).2.1=z∧Jbb R n s.2 z (gask T R n s z).2.2.1 (gask T R n s z).2.2.2 (gask T R n s z).1.2:=by
 unfold gask;split
 · rename_i hm
   exact ⟨rfl,.inl ⟨rfl,hm,rfl,rfl⟩⟩
 · rename_i hm
   obtain ⟨v,e1,e2⟩:=J57 (R:=R) (need:=R z) _ _ _ [] rfl (T.i_mid h.i hz hm) hR;refine ⟨rfl,.inr ⟨rfl,hm,_,?_,rfl⟩⟩;show Wk R n (R z) s.2 (gf T R n (R z) (T.asked n s.1 z) s.2 []).2.2 _;rw [e1];exact e2
theorem Wk.ly{R:Str→Int}{n need:Int}{ns:List Str}{z:Str}{l w l':List Str}(h:Wk R n need l w l'):∀{ls:Ly},OkL R ns ls→lyN ls=l→z∉l→lyN (G0 ls w)=l'∧okG z ls w∧need≤n - N41.sm R l':=by
 induction h with
 | nil h=>intro ls _ e _;exact ⟨e,trivial,h⟩
 | cons hx h t ih=>
  rename_i l0 w0 l1 x;intro ls ok e hz
  have e2:lyN (lyD ls x)=l0.erase x:=by rw [Gz ok.nd,e]
  obtain ⟨a,b,c⟩:=ih ok.drop e2 (fun hh=>hz (Hs hh));exact ⟨a,⟨fun ez=>hz (ez▸hx),by rw [e];exact hx,b⟩,c⟩
section
variable {T:Ae} {R:Str→Int} {n:Int} {s0:T.St} {ys ns:List Str}
theorem My{i:Nat}(h:i < ys.length):(grows T R n s0 ys ys.length)[i]?=some (grow T R n s0 ys i):=by unfold grows;rw [Fe,HC h];rfl
theorem J6o(h0:T.inv ns n s0 [])(hin:∀y∈ys,y∈ns)(hR:∀y∈ys,R y≤n):∀i,i≤ys.length→OkL R ns (stL R ys (grows T R n s0 ys ys.length) i)∧lyN (stL R ys (grows T R n s0 ys ys.length) i)=(gst T R n s0 ys i).2∧(∀z r,i < ys.length→ys[i]?=some z→(grows T R n s0 ys ys.length)[i]?=some r→Wm R n (stL R ys (grows T R n s0 ys ys.length) i) z r):=by
 have row:∀i,i < ys.length→OkL R ns (stL R ys (grows T R n s0 ys ys.length) i)→lyN (stL R ys (grows T R n s0 ys ys.length) i)=(gst T R n s0 ys i).2→∀z,ys[i]?=some z→Wm R n (stL R ys (grows T R n s0 ys ys.length) i) z (grow T R n s0 ys i)∧lyN (D9 R (stL R ys (grows T R n s0 ys ys.length) i) z (grow T R n s0 ys i).2.2)=(gst T R n s0 ys (i+1)).2:=by
  intro i hi ok e z hz;have hm:=Ff hz;have gi:=Kn (T:=T) (R:=R) h0 hin hR i (by omega);rw [Gg hz,Pm hz];obtain ⟨e1,hw⟩:=J3e gi (hin z hm) (hR z hm);rcases hw with ⟨b,hz1,w,l'⟩ | ⟨b,hz1,l1,wk,l'⟩
  · rw [← e]at hz1
    rw [l',Ua hz1,w];refine ⟨⟨e1,by rw [b];exact (FA hz1).symm,by rw [w];trivial,fun hh=>absurd hz1 hh⟩,e⟩
  · have hz2:=hz1
    rw [← e]at hz2;obtain ⟨a1,a2,a3⟩:=wk.ly ok e hz1;rw [l',J85 hz2,a1];refine ⟨⟨e1,by rw [b];exact (Fw hz2).symm,a2,fun _=>?_⟩,rfl⟩;rw [Pl (ns:=ns) (OkL.drops (g:=(gask T R n (gst T R n s0 ys i) z).2.2.2) ok).r,a1];exact a3
 intro i
 induction i with
 | zero=>
  intro _;have ok:OkL R ns (stL R ys (grows T R n s0 ys ys.length) 0):=OkL.nil;exact ⟨ok,rfl,fun z r hi hz hr=>by rw [My hi]at hr;cases hr;exact (row 0 hi ok rfl z hz).1⟩
 | succ i ih=>
  intro hi;obtain ⟨ok,e,_⟩:=ih (by omega)
  have hi':i < ys.length:=by omega
  have hz:=Fb hi';have st:=Sl (R:=R) hz (My (T:=T) (R:=R) (n:=n) (s0:=s0) hi')
  have ok2:OkL R ns (stL R ys (grows T R n s0 ys ys.length) (i+1)):=by rw [st];exact ok.step (hin _ (Ff hz))
  have e2:lyN (stL R ys (grows T R n s0 ys ys.length) (i+1))=(gst T R n s0 ys (i+1)).2:=by rw [st];exact (row i hi' ok e _ hz).2
  exact ⟨ok2,e2,fun z r hi2 hz2 hr=>by rw [My hi2]at hr;cases hr;exact (row (i+1) hi2 ok2 e2 z hz2).1⟩
theorem Yg(h0:T.inv ns n s0 [])(hin:∀y∈ys,y∈ns)(hR:∀y∈ys,R y≤n):J2r R n ys (grows T R n s0 ys ys.length):=by
 refine ⟨Ic.symm,fun {i z r} h1 h2=>?_⟩;have hi:=(Fi.mp h1).1;exact (J6o h0 hin hR i (by omega)).2.2 z r hi h1 h2
end
def Ih{ι:Type}(T:ι→Ae)(K:PySem.W.Frag)(C S:Addr):Sp:=fun vs H Q E=>∃b,Le (T b) K C S vs H Q E
end N28
namespace L2
def Jaq:Option V→Option Value→Prop
 | none,o=>o=none
 | some v,o=>∃u,o=some u∧An v u
structure Nh(P:Params)(K:PySem.W.Frag)(a:Addr)(x:Str)(o:Option V):Prop where
 lo:(a==sysModules)=false
 ex:∃es n,K.lookup a=some ⟨.type "dict",none,.dict es n,#[]⟩∧PySem.W.KeysLit P es.toList∧Jaq o (findBy Value.isStrOf es x)
theorem Dy{P:Params}{K:PySem.W.Frag}{a:Addr}{x:Str}{o:Option V}{r:Option Value}{es:Array DictEntry}{n:Nat}(lo:(a==sysModules)=false)(hl:K.lookup a=some ⟨.type "dict",none,.dict es n,#[]⟩)(hk:PySem.W.KeysLit P es.toList)(e:PySem.W.nsIn K a x=some r)(q:Jaq o r):Nh P K a x o:=
 ⟨lo,es,n,hl,hk,by rw [PySem.W.find_K hl e];exact q⟩
def J6p(P:Params)(K:PySem.W.Frag)(td ty:TE):TE:=fun σ H Q=>td σ H fun x H1=>ty σ H1 fun y H2=>∃a w v,x= .ref a∧y= .str w∧Nh P K a w (some v)∧Q v H2
def J6q(P:Params)(K:PySem.W.Frag)(ty td:TE):TE:=fun σ H Q=>ty σ H fun y H1=>td σ H1 fun x H2=>∃a w o,x= .ref a∧y= .str w∧Nh P K a w o∧Q (.bl (!o.isSome)) H2
section
variable {X:Cx} {o i:Expr} {td ty:TE} {pos:Pos}
theorem Pq(ho:PE X o td)(hi:PE X i ty)(hs:J7f i):PE X (.Subscript o i pos) (J6p X.w.params X.K td ty):=by
 intro pins s σ H Q I h;refine Uu PySem.F.slot_dict_getitem.lookup hs (thn (ho pins s σ H _ I h) fun u s1 ⟨x,H1,I1,rx,q1⟩=>thn (hi pins s1 σ H1 _ I1 q1) fun iv s2 hq_=>?_);obtain ⟨y,H2,I2,ry,a,w,v,ex,ey,g,q2⟩:=hq_;subst ex;subst ey;obtain rfl:u=Value.ref a:=rx;obtain ⟨t,rfl⟩:=ry;obtain ⟨es,n,hl,hk,hf⟩:=g.ex;have hm:=PySem.W.mapOf_K (prog:=X.prog) (w:=X.w) I2.kIn hl hk;obtain ⟨r,e1,e2⟩:=hf;exact ⟨hm.typeIs,wpAny_getItem_of (strKind_is X.prog X.w w t) hm e1 ⟨v,H2,I2.tok _,e2,q2⟩⟩
theorem Wz(hi:PE X i ty)(ho:PE X o td):PC X .NotIn i o (J6q X.w.params X.K ty td):=by
 intro pins s σ H Q I h;refine thn (hi pins s σ H _ I h) fun iv s1 ⟨y,H1,I1,ry,q1⟩=>thn (ho pins s1 σ H1 _ I1 q1) fun u s2 hq_=>?_;obtain ⟨x,H2,I2,rx,a,w,ov,ex,ey,g,q2⟩:=hq_;subst ex;subst ey;obtain rfl:u=Value.ref a:=rx;obtain ⟨t,rfl⟩:=ry;obtain ⟨es,n,hl,hk,hf⟩:=g.ex;have hm:=PySem.W.mapOf_K (prog:=X.prog) (w:=X.w) I2.kIn hl hk;refine wpAny_notIn_of (strKind_is X.prog X.w w t) g.lo hm ⟨.bl (!ov.isSome),H2,I2.tok _,?_,q2⟩;show Value.bool _=Value.bool _
 cases ov with
 | none=>rw [show findBy Value.isStrOf es w=none from hf];rfl
 | some v=>obtain ⟨r,e1,_⟩:=hf;rw [e1];rfl
theorem X0{P:Params}{K:PySem.W.Frag}{σ:St}{H:Hp}{Q:VK}:J6p P K td ty σ H Q=td σ H fun x H1=>ty σ H1 fun y H2=>∃a w v,x= .ref a∧y= .str w∧Nh P K a w (some v)∧Q v H2:=rfl
theorem X1{P:Params}{K:PySem.W.Frag}{σ:St}{H:Hp}{Q:VK}:J6q P K ty td σ H Q=ty σ H fun y H1=>td σ H1 fun x H2=>∃a w o,x= .ref a∧y= .str w∧Nh P K a w o∧Q (.bl (!o.isSome)) H2:=rfl
end
def J3f{ι:Type}(fa:ι→Addr)(sp:ι→Sp)(E:XK)(tv:TE)(t:TA):TE:=fun σ H Q=>tv σ H fun x H1=>∃b,x= .ref (fa b)∧t σ H1 fun vs H2=>sp b vs H2 Q E
section
variable {ι:Type} {X:Cx} {CX:CXT} {k j:Nat} {fa:ι→Addr} {nm:ι→Str} {ps:List Str} {sp:ι→Sp} {E:XK} {x:Str} {p pos:Pos} {e:Expr} {es:List Expr} {tv:TE} {t:TA}
theorem T3(D:∀b,Def X.prog X.w X.K X.mg X.base CX j (nm b) ps (sp b))(hf:∀b,X.mg (nm b)=some (.ref (fa b)))(hr:Bh k X.A)(hx:Iy CX X E)(hv:PE X (.Name x p) tv)(ha:PA X (e::es) t)(hj:j≤k:=by decide)
 (he:starEach (e::es) X.env=(false,eval e X.env)::starEach es X.env:=by rfl) (hpl:(backTo pos (starEach es X.env)).any (·.1)=false:=by rfl):
 PE X (.Call (.Name x p) (e::es) [] pos) (J3f fa sp E tv t):=by
 intro pins s σ H Q I h;refine FZ (thn (hv pins s σ H _ I h) fun u s1 hq_=>?_);obtain ⟨y,H1,I1,ry,b,ey,q1⟩:=hq_;obtain ⟨f,fd,F,hm,hk,hb⟩:=(D b).ex
 obtain rfl:f=fa b:=by rw [hf b]at hm;cases hm;rfl
 subst ey;obtain rfl:u=Value.ref (fa b):=ry;refine Hg (h₀:=X.base) I.ok.mod.kin hk (thn (ha pos pins s1 σ H1 _ I1 q1) fun us s2 ⟨vs,H2,I2,r,q2⟩=>⟨I2.kIn,?_⟩) he hpl;refine J00 (F.mono hj) hr hb .nil hx I2 r ?_;rw [FJ];exact q2
theorem T4{σ:St}{H:Hp}{Q:VK}:J3f fa sp E tv t σ H Q=tv σ H fun x H1=>∃b,x= .ref (fa b)∧t σ H1 fun vs H2=>sp b vs H2 Q E:=rfl
end
end L2
namespace N63
open L2 N1 N5 N4 N6 N12 N32 N14 N20 N18 N25 NR N22 N21 N28
section
variable {H H':Hp} {x dx:Addr} {o:HO}
theorem X2(h1:H x=none)(h2:H dx=none)(s:SameBut x (upd (upd H dx (.own x)) x o) H'):A7 H H':=fun b ob e=>by
 have n1:b≠x:=fun e2=>by rw [e2,h1]at e;cases e
 have n2:b≠dx:=fun e2=>by rw [e2,h2]at e;cases e
 exact s b ob (by rw [A3 n1,A3 n2];exact e) n1
theorem J8c(h1:H x=none)(h2:H dx=none):A7 H (upd (upd H dx (.own x)) x o):=fun b ob e=>by
 have n1:b≠x:=fun e2=>by rw [e2,h1]at e;cases e
 have n2:b≠dx:=fun e2=>by rw [e2,h2]at e;cases e
 rw [A3 n1,A3 n2];exact e
theorem Pr(h1:H x=none)(h2:H dx=none){l:Addr}(h:upd (upd H dx (.own x)) x o l=none):H l=none:=by
 cases e:H l with
 | none=>rfl
 | some ob=>rw [J8c (o:=o) h1 h2 _ _ e]at h;cases h
end
end N63
namespace L2
open PySem.W
section
variable {X:Cx} {pins:List (Addr×Obj)} {σ:List (Option V)} {H H':Hp} {s:Shared} {h':Heap}
theorem Inv.grown{t':Nat}{tp:Addr}{ps more:Array Value}(I:Inv X pins σ H s)(ht:H tp=some (.tbl ps))(k:∀b u,b≠tp→s.heap.get? b=some u→h'.get? b=some u)(e:h'.get? tp=some (tabObj (ps++more)))
 (hT:H' tp=some (.tbl (ps++more))) (old:∀b,b≠tp→b < s.heap.objs.size→H' b=H b) (new:∀b u,s.heap.objs.size≤b→H' b=some u→Bd X.prog X.w H' h' b u):Inv X pins σ H' {s with heap:=h',toks:=t'}:=by
 have lt:∀b u,H b=some u→b < s.heap.objs.size:=fun b u q=>(I.hok b u q).lt
 have nt:∀b u,H b=some u→(∀ps,u≠ .tbl ps)→b≠tp:=fun b u q n z=>by rw [z,ht]at q;cases q;exact n _ rfl
 have st:∀b u,H b=some u→b≠tp→H' b=some u:=fun b u q n=>by rw [old b n (lt b u q)];exact q
 refine I.un ⟨fun b o q n _ _=>k b o (fun z=>by rw [z,ht]at n;cases n) q,fun b o q n _ _=>⟨o.slots,k b o (fun z=>by rw [z,ht]at n;cases n) q⟩,fun b o q n _=>?_,fun b o q _=>?_,fun b xs q=>st b _ q (nt b _ q fun _ z=>by cases z),fun b o u q=>st b _ q (nt b _ q fun _ z=>by cases z),fun b ps' q=>?_⟩ fun b u q=>?_
 · rw [old b (fun z=>by rw [z,ht]at n;cases n) (Fl q)];exact n
 · by_cases z:b=tp
   · subst z;exact ⟨_,e⟩
   · exact ⟨o,k b o z q⟩
 · by_cases z:b=tp
   · subst z;rw [ht]at q;cases q;exact ⟨more,hT⟩
   · exact ⟨#[],by rw [st b _ q z];simp⟩
 · by_cases z:b=tp
   · subst z;rw [hT]at q;cases q;exact e
   · by_cases hb:b < s.heap.objs.size
     · have q0:H b=some u:=by rw [← old b z hb];exact q
       refine (I.hok b u q0).stay (fun c v hc r=>k c v (fun w'=>?_) r) (fun c r=>st c _ r (nt c _ r fun _ z=>by cases z)) fun c xs r=>st c _ r (nt c _ r fun _ z=>by cases z);rcases hc with rfl | hc
       · exact z w'
       · rw [w',ht]at hc;cases hc
     · exact new b u (RF hb) q
end
def Ks(c:Addr)(qual:Str):HO:= .ext fun h=>h.CodeRec (.ref c) qual
def fnO(f:Addr)(o:Obj):HO:= .ext fun h=>h.get? f=some o
theorem T5{P:Program}{w:World}{H:Hp}{h:Heap}{c:Addr}{qual:Str}(x:h.CodeRec (.ref c) qual):Bd P w H h c (Ks c qual):=by
 refine ⟨x,?_,fun h1 h2 y k=>?_⟩
 · obtain ⟨c',oc,vs,tq,e,hoc,_⟩:=x
   cases e;exact ⟨oc,hoc⟩
 · obtain ⟨c',oc,vs,tq,e,hoc,r⟩:=y
   cases e;exact ⟨_,oc,vs,tq,rfl,k _ hoc,r⟩
theorem Ps{P:Program}{w:World}{H:Hp}{h:Heap}{f:Addr}{o:Obj}(x:h.get? f=some o):Bd P w H h f (fnO f o):=⟨x,⟨o,x⟩,fun _ _ y k=>k _ y⟩
def Bc(tp:Addr)(pos:Pos)(qual:Str)(H:Hp):Prop:=H tp=some (.tbl #[])∨∃c,H tp=some (.tbl #[rawInt pos.line,rawInt pos.col,.ref c])∧H c=some (Ks c qual)
def J8d(tp:Addr)(pos:Pos)(qual:Str)(fo:Addr→Value→Obj):TE:=fun _ H Q=>Bc tp pos qual H∧∀f c ct H',H f=none→N1.SameBut tp H H'→Bc tp pos qual H'→H' c=some (Ks c qual)→H' f=some (fnO f (fo c ct))→Q (.ref f) H'
section
variable {X:Cx}
theorem J8e{args:Arguments}{body:Expr}{scope:Scope}{pos:Pos}{c tp:Addr}(hdef:defaultsOf args X.env=([],[]))(hcl:closureFor scope X.env=pure [])(hcode:X.env.code= .ref c)(hc:codeHdIn X.K c tp=true)(hne:mainGlobals≠tp)
 (hB:X.base.BuiltinsAt X.mg tp):
 PE X (.Lambda args body scope pos) (J8d tp pos (X.env.qual++"<lambda>") fun c ct=>kla_obj "<lambda>" (X.env.qual++"<lambda>") args body scope [] ((X.mg "__name__").getD .none) c ct):=by
 intro pins s σ H Q I h;obtain ⟨hL,q⟩:=h;have C:CodeHd s.heap c tp:=codeHd_of_K I.kIn hc;have G:s.heap.Ns mainGlobals X.mg:=I.mod.glob.keeps I.bk;have B:s.heap.BuiltinsAt X.mg tp:=hB.keeps I.bk;refine kla_eval hdef ?_;rcases hL with hE | ⟨c',hE,hc'⟩
 · have hP:s.heap.get? tp=some (tabObj #[]):=I.hok tp _ hE
   have ltt:=Fl hP;refine kla_makeFunction hcl I.ok.glob G hcode C hP (by first | trivial | exact .nil | simp [TriplesOk]) rfl hne B fun c' ctv h' tk hx hge hlt hrec htab=>?_;have ncf:c'≠h'.objs.size:=Fo hlt;have ltc:tp < c':=Fj ltt hge;have szf:s.heap.objs.size≤h'.objs.size:=FG hge (Rj hlt);have ntf:tp≠h'.objs.size:=Fo (RC ltc hlt);have ntc:tp≠c':=Fo ltc;generalize hF:(kla_obj "<lambda>" (X.env.qual++"<lambda>") args body scope [] ((X.mg "__name__").getD .none) c' ctv)=fo
   have I2:Inv X pins σ (upd (upd (upd H tp (.tbl #[rawInt pos.line,rawInt pos.col,.ref c'])) c' (Ks c' (X.env.qual++"<lambda>"))) h'.objs.size (fnO h'.objs.size fo)) {s with heap:=h'.push fo,toks:=tk}:=by
    refine I.grown (more:=#[rawInt pos.line,rawInt pos.col,.ref c']) hE (fun b u nb e=>Fd _ (hx b u nb e)) (Fd _ htab) ?_ (fun b nb lb=>?_) fun b u lb e=>?_
    · rw [A3 ntf,A3 ntc];exact A1
    · rw [A3 (Fo (Fj lb szf)),A3 (Fo (Fj lb hge)),A3 nb]
    · by_cases e1:b=h'.objs.size
      · subst e1
        rw [A1]at e;cases e;exact Ps (Fs _ (by rw [← hF];rfl))
      · rw [A3 e1]at e
        by_cases e2:b=c'
        · subst e2
          rw [A1]at e;cases e;obtain ⟨c2,oc,vs,tq,ec,hoc,r⟩:=hrec;exact T5 ⟨c2,oc,vs,tq,ec,Fd _ hoc,r⟩
        · rw [A3 e2,A3 (fun z=>by rw [z]at lb;exact Hj _ (Fj ltt lb)),I.hok.fresh lb]at e
          cases e
   refine ⟨.ref h'.objs.size,_,I2,rfl,q _ c' ctv _ (I.hok.fresh szf) (fun b o e nb=>?_) (.inr ⟨c',?_,?_⟩) ?_ (by rw [A1,← hF])⟩
   · have lb:=(I.hok b o e).lt
     rw [A3 (Fo (Fj lb szf)),A3 (Fo (Fj lb hge)),A3 nb];exact e
   · rw [A3 ntf,A3 ntc];exact A1
   · rw [A3 ncf];exact A1
   · rw [A3 ncf];exact A1
 · have hP:s.heap.get? tp=some (tabObj #[rawInt pos.line,rawInt pos.col,.ref c']):=I.hok tp _ hE
   have ltt:=Fl hP;have ltc:=(I.hok c' _ hc').lt;refine kla_makeFunctionHit (cv:= .ref c') hcl I.ok.glob G hcode C hP (by simp [TriplesOk,rawInt]) (by simp [codeAmong,rawInt]) B fun ctv h' tk hk hsz=>?_;generalize hF:({cls:= .type "function",data:= .func (kla_fn "<lambda>" (X.env.qual++"<lambda>") args body scope [] ((X.mg "__name__").getD .none) (.ref c') ctv)}:Obj)=fo;have I2:=I.laid (a:=h'.objs.size) (o:=fnO h'.objs.size fo) (t':=tk) (h':=h'.push fo) (fun b u e=>Fd _ (hk b u e)) hsz (Ps (Fs _ (by rw [← hF];rfl)));have nw:=I.hok.fresh hsz
   have sm:∀b o,H b=some o→upd H h'.objs.size (fnO h'.objs.size fo) b=some o:=fun b o e=>by rw [A3 (A8 e nw)];exact e
   exact ⟨.ref h'.objs.size,_,I2,rfl,q _ c' ctv _ nw (fun b o e _=>sm b o e) (.inr ⟨c',sm _ _ hE,sm _ _ hc'⟩) (sm _ _ hc') (by rw [A1,← hF])⟩
end
def J8f(K:PySem.W.Frag)(f tp:Addr):Prop:=∃(oc:Value) (od:Option Addr) (fd:FuncData) (sl:Array (Option Value)) (c:Addr),K.lookup f=some ⟨oc,od,.func fd,sl⟩∧fd.code= .ref c∧codeHdIn K c tp=true
section
variable {P:Program} {w:World} {K:PySem.W.Frag} {mg:Str→Option Value} {base:Heap}
theorem Fun.okC{x qual:Str}{st:Stmt}{f tp:Addr}{fd:FuncData}{N ps:List Str}{k:Nat}{sp:Sp}(F:Fun K x qual st f fd)(M:J8f K f tp)(S:A9 N ps (A6 st))(len:∀vs H Q E,sp vs H Q E→vs.length=ps.length)
 (hbody:∀(c:Addr) (A:Around) (outer:List Env) (s:Shared) (H:Hp) (vs:List V) (Q:VK) (E:XK),codeHdIn K c tp=true→Bh k (A.deeper (envOfC qual (A6 st) s.heap.objs.size f (.ref c)))→sp vs H Q E→
  ∃t,PSs (Q5 CX0 P w K mg base N qual (A6 st) f (.ref c) A outer s H E).nox (Be st) t∧t {nx:=fun _ H'=>Q .non H',rt:=Q} (start N vs) H):Al P w K mg base CX0 (k+1) f fd ps sp:=by
 obtain ⟨oc,od,kV,doc,pm,an,cdv,ct,osl,rfl,lk,hcd⟩:=F.ex;obtain ⟨oc',od',fd',sl',c,lk',e,hc⟩:=M;rw [lk]at lk';cases lk';have e:cdv= .ref c:=e;subst e;refine J5x lk hcd S len fun A outer s H vs Q E hr hsp=>?_;obtain ⟨t,h,q⟩:=hbody c A outer s H vs Q E hc hr hsp;exact ⟨t,h.nox,q⟩
end
theorem J3g{tp:Addr}{pos:Pos}{qual:Str}{fo:Addr→Value→Obj}{σ:St}{H:Hp}{Q:VK}:J8d tp pos qual fo σ H Q=(Bc tp pos qual H∧∀f c ct H',H f=none→N1.SameBut tp H H'→Bc tp pos qual H'→H' c=some (Ks c qual)→H' f=some (fnO f (fo c ct))→Q (.ref f) H'):=rfl
end L2
namespace L2
open PySem.W
def E5(c:Addr)(o:Obj):HO:= .frz o (.ext fun h=>h.get? c=some o)
theorem X3{P:Program}{w:World}{H:Hp}{h:Heap}{c:Addr}{o:Obj}(e:h.get? c=some o):Bd P w H h c (E5 c o):=⟨e,e,⟨o,e⟩,fun _ _ y k=>k _ y⟩
structure Ni where
 qual:Str
 args:Arguments
 body:Expr
 scope:Scope
abbrev J8g(L:Ni)(cl:List (Str×Addr))(pm:Value)(cd:Addr)(ct:Value):Obj:=kla_obj "<lambda>" L.qual L.args L.body L.scope cl pm cd ct
def Mz(L:Ni)(cl:List (Str×Addr))(H:Hp)(f:Addr):Prop:=∃pm cd ct,H f=some (fnO f (J8g L cl pm cd ct))∧H cd=some (Ks cd L.qual)
def Ca(H:Hp)(cl:List (Str×Addr))(vs:List V):Prop:=Paired (fun (p:Str×Addr) (v:V)=>∃o u,H p.2=some (E5 p.2 o)∧o.data= .cell (some u)∧An v u) cl vs
theorem Mz.same{L:Ni}{cl:List (Str×Addr)}{H H':Hp}{f:Addr}(s:A7 H H')(h:Mz L cl H f):Mz L cl H' f:=let ⟨pm,cd,ct,a,b⟩:=h;⟨pm,cd,ct,s _ _ a,s _ _ b⟩
theorem Ca.same{cl:List (Str×Addr)}{H H':Hp}{vs:List V}(s:A7 H H')(h:Ca H cl vs):Ca H' cl vs:=Paired.mapP h fun p v ⟨o,u,a,b⟩=>⟨o,u,s _ _ a,b⟩
theorem Ca.get{H:Hp}:∀{cl:List (Str×Addr)} {vs:List V},Ca H cl vs→∀p∈cl,∃o u,H p.2=some (E5 p.2 o)∧o.data= .cell (some u)
 | _,_,.nil,_,h=>by cases h
 | _,_,.cons ⟨o,u,a,b,_⟩ t,p,h=>by
  rcases Fv.mp h with rfl | h
  · exact ⟨o,u,a,b⟩
  · exact Ca.get t p h
theorem Ca.ix{H:Hp}:∀{cl:List (Str×Addr)} {vs:List V} {i:Nat} {v:V},Ca H cl vs→vs[i]?=some v→∃p o u,cl[i]?=some p∧H p.2=some (E5 p.2 o)∧o.data= .cell (some u)∧An v u
 | _,_,_,_,.nil,h=>by cases h
 | _,_,0,v,.cons ⟨o,u,a,b,c⟩ t,h=>by
  simp at h;subst h;exact ⟨_,o,u,rfl,a,b,c⟩
 | _,_,i+1,v,.cons _ t,h=>by
  obtain ⟨p,o,u,e,r⟩:=Ca.ix (i:=i) (v:=v) t (by simpa using h);exact ⟨p,o,u,by simpa using e,r⟩
def unk(H:Hp)(as:List Addr):Hp:=fun b=>if b∈as then none else H b
def retr(H H0:Hp)(as:List Addr):Hp:=fun b=>if b∈as then H0 b else H b
section
variable {H H0:Hp} {as:List Addr} {b:Addr}
theorem Lf(h:b∈as):unk H as b=none:=if_pos h
theorem C4(h:b∉as):unk H as b=H b:=if_neg h
theorem Ii(h:b∈as):retr H H0 as b=H0 b:=if_pos h
theorem D1(h:b∉as):retr H H0 as b=H b:=if_neg h
theorem Ee(h:H b=none):unk H as b=none:=by
 by_cases z:b∈as
 · exact Lf z
 · rw [C4 z];exact h
theorem T7{o:HO}(h:unk H as b=some o):b∉as∧H b=some o:=by
 by_cases z:b∈as
 · rw [Lf z]at h;cases h
 · rw [C4 z]at h;exact ⟨z,h⟩
end
structure C7(N ps:List Str)(sc:Scope)(cl:List (Str×Addr)):Prop where
 kind:sc.kind= .function
 co:sc.isCoroutine=false
 gen:sc.isGenerator=false
 nd:(ps++cl.map (·.1)).Nodup
 N:N=ps++cl.map (·.1)
 par:∀x∈ps,sc.names.lookup x=some .local
 nocell:∀y∈sc.names,y.2≠ .cell
 fr:∀x,sc.names.lookup x=some .free→∃c,cl.lookup x=some c
 frk:∀p∈cl,sc.names.lookup p.1=some .free
 inj:∀x y c,cl.lookup x=some c→cl.lookup y=some c→x=y
def cxL(P:Program)(w:World)(K:PySem.W.Frag)(mg:Str→Option Value)(base:Heap)(N:List Str)(qual:Str)(scope:Scope)(f:Addr)(cd:Value)(A:Around)(outer:List Env)(s:Shared)(H:Hp)(cl:List (Str×Addr)):Cx where
 prog:=P
 w:=w
 K:=K
 mg:=mg
 base:=base
 A:=A.deeper (envX qual scope s.heap.objs.size f cd cl)
 N:=N
 s₀:=s
 H₀:=H
 env:=envX qual scope s.heap.objs.size f cd cl
 outer:=outer
 stack:=envX qual scope s.heap.objs.size f cd cl::outer
 ex:=[]
 calm:=true
 fn:=fun _=>false
 pn:=[]
 xe:=fun _ _=>False
theorem J58{x:Str}{u:Value}:∀{l:List (Str×Value)},(l.map (·.1)).Nodup→(x,u)∈l→l.lookup x=some u:=by
 intro l
 induction l with
 | nil=>intro _ h;cases h
 | cons p r ih=>
  intro nd h;rw [List.map_cons,FO]at nd;rcases Fv.mp h with e | h
  · rw [← e,List.lookup_cons_self]
  · have n:x≠p.1:=fun e=>nd.1 (Fz.mpr ⟨_,h,e⟩)
    rw [FP,show (x==p.1)=false from Hh.mpr n];exact ih nd.2 h
theorem J3h{x:Str}{u:Value}:∀{ps:List Str} {us:List Value} {i:Nat},ps.Nodup→ps[i]?=some x→us[i]?=some u→(ps.zip us).reverse.lookup x=some u:=by
 intro ps us i nd h1 h2;refine J58 ?_ ?_
 · rw [List.map_reverse]
   refine (List.reverse_perm _).nodup_iff.mpr ?_
   have key:∀(ps:List Str) (us:List Value),((ps.zip us).map (·.1)).Sublist ps:=by
    intro ps
    induction ps with
    | nil=>intro us;cases us <;> exact List.Sublist.refl _
    | cons p r ih=>
     intro us
     cases us with
     | nil=>exact List.nil_sublist _
     | cons u v=>exact (ih v).cons₂ p
   exact nd.sublist (key ps us)
 · rw [List.mem_reverse]
   exact Ff (i:=i) (by rw [R7];exact ⟨h1,h2⟩)
section
variable {P:Program} {w:World} {K:PySem.W.Frag} {mg:Str→Option Value} {base:Heap}
theorem J59{k:Nat}{f:Addr}{L:Ni}{cl:List (Str×Addr)}{pm ct:Value}{cd:Addr}{N ps:List Str}{A:Around}{outer:List Env}{s:Shared}{H:Hp}{us:List Value}{vs fvs:List V}{Q:VK}{E:XK}
 (S:C7 N ps L.scope cl) (hb:bindArgs (kla_fn "<lambda>" L.qual L.args L.body L.scope cl pm (.ref cd) ct) ⟨us,[]⟩=pure (ps.zip us)) (hr:Bh (k+1) A) (e0:K9 P w K mg base A outer s H) (r:Ao vs us) (hl:vs.length=ps.length)
 (hf:H f=some (fnO f (J8g L cl pm cd ct))) (hc:H cd=some (Ks cd L.qual)) (hcs:Ca H cl fvs)
 (hbody:∃t,PE (cxL P w K mg base N L.qual L.scope f (.ref cd) A outer s (unk H (cl.map (·.2))) cl) L.body t∧t (vs.map some++fvs.map some) (unk H (cl.map (·.2))) fun v H'=>(∀c∈cl.map (·.2),H' c=none)→Q v (retr H' H (cl.map (·.2)))):
 codeAny (model P w) A (.call (.ref f) ⟨us,[]⟩) (CR CX0 outer P w H s Q E) s:=by
 have hf1:s.heap.get? f=some (J8g L cl pm cd ct):=(e0.hok f _ hf).1;have hc1:s.heap.CodeRec (.ref cd) L.qual:=(e0.hok cd _ hc).1;have lim:s.heap.NoLimit:=e0.mod.nolimit.keeps fun b o e=>(e0.bs b o e).1
 have hcm:∀c∈cl.map (·.2),∃o u,H c=some (E5 c o)∧o.data= .cell (some u)∧s.heap.get? c=some o:=fun c h=>by
  obtain ⟨p,hp,rfl⟩:=Fz.mp h;obtain ⟨o,u,a,b⟩:=hcs.get p hp;exact ⟨o,u,a,b,(e0.hok _ _ a).1⟩
 have nfs:∀c∈cl.map (·.2),c∉frs outer:=fun c h z=>by
  obtain ⟨o,u,a,_⟩:=hcm c h;rw [e0.frf c z]at a;cases a
 refine kla_callFunE hr.depth hf1 rfl S.co S.gen rfl hc1 ?_;rw [hb];refine FK (wpAny_newFunctionEnv S.nocell (fun y hy=>S.par y.1 (Ro hy).1) (fun h₁ hns hsb=>?_) S.kind);have kp:∀b o,s.heap.get? b=some o→h₁.get? b=some o:=fun b o e=>hsb.extBut b o (Fo (Fl e)) (Fd _ e);refine ⟨lim.keeps kp,?_⟩;show codeAny _ _ (.expr L.body (envX L.qual L.scope s.heap.objs.size f (.ref cd) cl)) _ _;obtain ⟨t,ht,hq⟩:=hbody;have noA:∀b:Addr,b∉(cxL P w K mg base N L.qual L.scope f (.ref cd) A outer s (unk H (cl.map (·.2))) cl).ex:=fun b z=>absurd (show b∈([]:List Addr) from z) (by simp);have cin:∀x c,cl.lookup x=some c→c∈cl.map (·.2):=fun x c e=>Fz.mpr ⟨(x,c),FN e,rfl⟩
 have hok1:HOk P w (unk H (cl.map (·.2))) h₁:=fun b o e=>by
  obtain ⟨nb,e⟩:=T7 e;refine (e0.hok b o e).stay (fun c v _ q=>kp c v q) (fun c q=>?_) fun c xs q=>?_
  · rw [C4 fun z=>?_]
    · exact q
    · obtain ⟨o',_,a,_⟩:=hcm c z
      rw [a]at q;cases q
  · rw [C4 fun z=>?_]
    · exact q
    · obtain ⟨o',_,a,_⟩:=hcm c z
      rw [a]at q;cases q
 have I:Inv (cxL P w K mg base N L.qual L.scope f (.ref cd) A outer s (unk H (cl.map (·.2))) cl) [] (vs.map some++fvs.map some) (unk H (cl.map (·.2))) {s with heap:=h₁,toks:=s.toks+(ps.zip us).length}:=by
  refine ⟨⟨e0.mod,S.kind,rfl,rfl,Fg _,S.inj,fun y hy=>?_,fun y c h=>(by cases h),fun _=>hr.hd,Around.frames_deeper e0.frames,.inr ⟨rfl,rfl⟩,fun b z=>absurd z (noA b),fun b o e=>⟨(e0.bs b o e).1,Ee (e0.bs b o e).2⟩,e0.bsz,fun b _ _=>noA b,fun b z=>absurd z (noA b),e0.funs,fun b z=>Ee (e0.frf b z)⟩,
   rfl,e0.bare,Un.kept kp,⟨_,hns,fun i x v h1 h2 _=>?_⟩,fun y c h=>?_,Ee (e0.hok.fresh (Fg _)),fun y c h=>Lf (cin y c h),fun p hp=>absurd (show p∈([]:List (Addr×Obj)) from hp) (by simp),hok1,?_⟩
  · have hy:L.scope.names.lookup y=some .cell∨L.scope.names.lookup y=some .free:=hy
    rcases hy with hy | hy
    · exact absurd rfl (S.nocell _ (FN hy))
    · exact S.fr y hy
  · have h1:N[i]?=some x:=h1
    rw [S.N]at h1
    by_cases hi:i < ps.length
    · rw [Fy hi]at h1
      rw [Fy (by rw [Fa];omega),Fe]at h2
      cases e:vs[i]? with
      | none=>rw [e]at h2;cases h2
      | some a=>
       rw [e]at h2;cases h2;obtain ⟨u,hu,rv⟩:=r.get e;exact ⟨u,rv,.inl ⟨S.par x (Ff h1),J3h (S.nd.sublist (List.sublist_append_left ..)) h1 hu⟩⟩
    · rw [FD (by omega),Fe]at h1
      rw [FD (by rw [Fa];omega),Fa,Fe,hl]at h2
      cases e:fvs[i - ps.length]? with
      | none=>rw [e]at h2;cases h2
      | some a=>
       rw [e]at h2;cases h2;obtain ⟨p,o,u,hp,a,b,rv⟩:=hcs.ix e;rw [hp]at h1;cases h1;have hm:=Ff hp;refine ⟨u,rv,.inr ⟨.inr (S.frk p hm),p.2,lookup_of_mem_nodup (S.nd.sublist (List.sublist_append_right ..)) hm,o,kp _ _ (e0.hok _ _ a).1,b⟩⟩
  · obtain ⟨o,u,_,b,e⟩:=hcm c (cin y c h)
    exact ⟨some u,o,kp _ _ e,b⟩
  · show _=N.length
    rw [S.N,Fm,Fm,Fa,Fa,Fa,hl];have:=Paired.length hcs;omega
 refine kla_codeExpr (FT (ht [] _ _ _ _ I hq) (fun v s' hq_=>?_) fun e s' z=>False.elim z);obtain ⟨x,H',J,rx,q⟩:=hq_;have ub:Un (frs outer) [] (unk H (cl.map (·.2))) H' s.heap s'.heap:=J.base
 have hc0:∀c∈cl.map (·.2),H' c=none:=fun c h=>by
  obtain ⟨o,u,_,_,e⟩:=hcm c h;exact ub.free c o e (Lf h) (by simp)
 refine ⟨x,retr H' H (cl.map (·.2)),J.os,J.bare,⟨fun b o e n hb hx=>ub.keep b o e (Ee n) hb hx,fun b o e n hb hx=>ub.slot b o e (Ee n) hb hx,fun b o e n hx=>?_,ub.there,fun b xs e=>?_,fun b o u e=>?_,fun b pp e=>?_⟩,fun b o e=>?_,rx,q hc0⟩
 · by_cases z:b∈cl.map (·.2)
   · rw [Ii z];exact n
   · rw [D1 z];exact ub.free b o e (Ee n) hx
 · by_cases z:b∈cl.map (·.2)
   · rw [Ii z];exact e
   · rw [D1 z];exact ub.tups b xs (by rw [C4 z];exact e)
 · by_cases z:b∈cl.map (·.2)
   · rw [Ii z];exact e
   · rw [D1 z];exact ub.frzs b o u (by rw [C4 z];exact e)
 · by_cases z:b∈cl.map (·.2)
   · rw [Ii z];exact ⟨#[],by rw [e];simp⟩
   · rw [D1 z];exact ub.tbls b pp (by rw [C4 z];exact e)
 · by_cases z:b∈cl.map (·.2)
   · rw [Ii z]at e
     obtain ⟨ob,u,a,_,e2⟩:=hcm b z;rw [a]at e;cases e;exact X3 (ub.keep b ob e2 (Lf z) (nfs b z) (by simp))
   · rw [D1 z]at e
     refine (J.hok b o e).stay (fun c v _ q=>q) (fun c q=>?_) fun c xs q=>?_
     · rw [D1 fun z=>?_]
       · exact q
       · rw [hc0 c z]at q;cases q
     · rw [D1 fun z=>?_]
       · exact q
       · rw [hc0 c z]at q;cases q
structure Ln(P:Program)(w:World)(K:PySem.W.Frag)(mg:Str→Option Value)(base:Heap)(CX:CXT)(k:Nat)(f:Addr)(J:Hp→Prop)(sp:Sp):Prop where
 fnd:PySem.W.keepIn K (.ref f)=true∨∀(H:Hp) (h:Heap),HOk P w H h→J H→FnAt f h
 run:∀(A:Around) (outer:List Env) (s:Shared) (H:Hp) (us:List Value) (vs:List V) (Q:VK) (E:XK),Bh k A→K9 P w K mg base A outer s H→Ao vs us→J H→sp vs H Q E→codeAny (model P w) A (.call (.ref f) ⟨us,[]⟩) (CR CX outer P w H s Q E) s
theorem Ln.ofLam{k:Nat}{L:Ni}{cl:List (Str×Addr)}{fvs:List V}{N ps:List Str}{sp:Sp}{f:Addr}{J:Hp→Prop}(S:C7 N ps L.scope cl)
 (hb:∀(pm ct cd:Value) (us:List Value),us.length=ps.length→bindArgs (kla_fn "<lambda>" L.qual L.args L.body L.scope cl pm cd ct) ⟨us,[]⟩=pure (ps.zip us)) (len:∀vs H Q E,sp vs H Q E→vs.length=ps.length) (hJ:∀H,J H→Mz L cl H f∧Ca H cl fvs)
 (hbody:∀(cd:Addr) (A:Around) (outer:List Env) (s:Shared) (H:Hp) (vs:List V) (Q:VK) (E:XK),Bh k (A.deeper (envX L.qual L.scope s.heap.objs.size f (.ref cd) cl))→J H→sp vs H Q E→∃t,PE (cxL P w K mg base N L.qual L.scope f (.ref cd) A outer s (unk H (cl.map (·.2))) cl) L.body t∧t (vs.map some++fvs.map some) (unk H (cl.map (·.2))) fun v H'=>(∀c∈cl.map (·.2),H' c=none)→Q v (retr H' H (cl.map (·.2)))):
 Ln P w K mg base CX0 (k+1) f J sp:=by
 refine ⟨.inr fun H h ok j=>?_,fun A outer s H us vs Q E hr e0 r j h=>?_⟩
 · obtain ⟨⟨pm,cd,ct,a,_⟩,_⟩:=hJ H j
   exact ⟨_,_,_,_,(ok f _ a).1⟩
 · obtain ⟨⟨pm,cd,ct,a,b⟩,c⟩:=hJ H j
   have hl:=len _ _ _ _ h;exact J59 S (hb _ _ _ us (by rw [← r.length];exact hl)) hr e0 r hl a b c (hbody cd A outer s H vs Q E (hr.deeper _) j h)
end
def J3i{ι:Type}(fa:ι→Addr)(J:ι→Hp→Prop)(sp:ι→Sp)(E:XK)(tv:TE)(t:TA):TE:=fun σ H Q=>tv σ H fun x H1=>∃b,x= .ref (fa b)∧J b H1∧t σ H1 fun vs H2=>J b H2∧sp b vs H2 Q E
section
variable {ι:Type} {X:Cx} {CX:CXT} {k j:Nat} {fa:ι→Addr} {J:ι→Hp→Prop} {sp:ι→Sp} {E:XK} {x:Str} {p pos:Pos} {e:Expr} {es:List Expr} {tv:TE} {t:TA}
theorem J3j(D:∀b,Ln X.prog X.w X.K X.mg X.base CX j (fa b) (J b) (sp b))(hr:Bh k X.A)(hx:Iy CX X E)(hv:PE X (.Name x p) tv)(ha:PA X (e::es) t)(hj:j≤k:=by decide)
 (he:starEach (e::es) X.env=(false,eval e X.env)::starEach es X.env:=by rfl) (hpl:(backTo pos (starEach es X.env)).any (·.1)=false:=by rfl):
 PE X (.Call (.Name x p) (e::es) [] pos) (J3i fa J sp E tv t):=by
 intro pins s σ H Q I h;refine FZ (thn (hv pins s σ H _ I h) fun u s1 hq_=>?_);obtain ⟨y,H1,I1,ry,b,ey,j1,q1⟩:=hq_;subst ey;obtain rfl:u=Value.ref (fa b):=ry
 have go:∀(us:List Value) (s2:Shared) (vs:List V) (H2:Hp),Inv X pins σ H2 s2→Ao vs us→J b H2→sp b vs H2 Q E→wpAny (model X.prog X.w) X.A (call (.ref (fa b)) us) (EP X pins σ Q) X.xe s2:=fun us s2 vs H2 I2 r j2 q2=>by
  refine HY (HI ((D b).run X.A X.stack s2 H2 us vs Q E (hr.mono hj) I2.env0 r j2 q2) fun r s' hq=>?_)
  cases r with
  | error e=>exact hx pins σ H2 s2 e s' I2 hq
  | ok fl=>
   cases fl with
   | ret u=>exact I2.after hq
   | next=>exact False.elim hq
   | brk=>exact False.elim hq
   | cont=>exact False.elim hq
 rcases (D b).fnd with hk | hk
 · refine Hg (h₀:=X.base) I.ok.mod.kin hk (thn (ha pos pins s1 σ H1 _ I1 q1) fun us s2 ⟨vs,H2,I2,r,j2,q2⟩=>⟨I2.kIn,go us s2 vs H2 I2 r j2 q2⟩) he hpl
 · refine callWith_F (hk _ _ I1.hok j1) (thn (ha pos pins s1 σ H1 _ I1 q1) fun us s2 ⟨vs,H2,I2,r,j2,q2⟩=>⟨hk _ _ I2.hok j2,go us s2 vs H2 I2 r j2 q2⟩) he hpl
theorem T8{σ:St}{H:Hp}{Q:VK}:J3i fa J sp E tv t σ H Q=tv σ H fun x H1=>∃b,x= .ref (fa b)∧J b H1∧t σ H1 fun vs H2=>J b H2∧sp b vs H2 Q E:=rfl
end
def Jar(s:Stmt):Expr:=match s with
 | .Return (some e) _=>e
 | _=> .Constant .none 0 ⟨0,0,0,0⟩
def J6r(qual:Str)(e:Expr):Ni:=match e with
 | .Lambda a b s _=>⟨qual,a,b,s⟩
 | _=>⟨qual,Bk (.Pass ⟨0,0,0,0⟩),e,A6 (.Pass ⟨0,0,0,0⟩)⟩
theorem C7.mk1{ps:List Str}{sc:Scope}{x:Str}{c:Addr}(kind:sc.kind= .function)(co:sc.isCoroutine=false)(gen:sc.isGenerator=false)(nd:(ps++[x]).Nodup)(par:∀y∈ps,sc.names.lookup y=some .local)(nocell:∀y∈sc.names,y.2≠ .cell)
 (fr:∀y∈sc.names,y.2= .free→y.1=x) (frk:sc.names.lookup x=some .free):C7 (ps++[x]) ps sc [(x,c)]:=by
 refine ⟨kind,co,gen,nd,rfl,par,nocell,fun y hy=>⟨c,?_⟩,fun p hp=>?_,fun y z d h1 h2=>?_⟩
 · have e:y=x:=fr _ (FN hy) rfl
   rw [e,List.lookup_cons_self]
 · rw [Fh.mp hp];exact frk
 · have e1:=Fh.mp (FN h1)
   have e2:=Fh.mp (FN h2);rw [(Prod.mk.inj e1).1,(Prod.mk.inj e2).1]
theorem C7.mk0{ps:List Str}{sc:Scope}(kind:sc.kind= .function)(co:sc.isCoroutine=false)(gen:sc.isGenerator=false)(nd:ps.Nodup)(par:∀y∈ps,sc.names.lookup y=some .local)(nocell:∀y∈sc.names,y.2≠ .cell)
 (fr:∀y∈sc.names,y.2≠ .free):C7 ps ps sc []:=
 ⟨kind,co,gen,by rw [List.map_nil,FJ];exact nd,by rw [List.map_nil,FJ],par,nocell,fun y hy=>absurd rfl (fr _ (FN hy)),(fun p hp=>by cases hp),(fun y z d h1 _=>by cases h1)⟩
end L2
namespace N64
open L2 N1 N5 N4 N6 N12 N32 N14 N20 N18 N25 NR N22 N21 N24 N23 N28 N63
section
variable {T:Ae} {pk:T.St→List Str→Str} {ak:T.St→Str→T.St}
theorem J8h{R:Str→Int}:∀{l:List Str},(∀u∈l,R u=1)→N41.sm R l=l.length:=by
 intro l
 induction l with
 | nil=>intro _;rfl
 | cons x r ih=>
  intro h;rw [N41.C9,ih (fun u hu=>h u (Fk _ hu)),h x Fu,List.length_cons];omega
structure Tw(n1 n2:Int)(l1 l2:List Str):Prop where
 s:∀u∈l1,u∈l2
 a:(l1.length:Int)≤n1
 b:(l2.length:Int)≤n2
 f:(l1.length:Int) < n1→∀u∈l2,u∈l1
variable {R:Str→Int} {n1 n2:Int} {ns ys:List Str} {s0:T.St}
end
inductive W2 where
 | ha
 | fa (ys:List Str) (h:ys.length≤1000)
structure C2 where
 ha:Addr
 fa:Addr
def W6(T:Ae)(s0:T.St)(ts:List Th)(n:Int)(ys:List Str):Nat→Ly:=stL (rm ts) ys (grows T (rm ts) n s0 ys ys.length)
def L6(T:Ae)(s0:T.St)(ts:List Th)(n:Int)(ys:List Str)(i:Nat):List Str:=(gst T (rm ts) n s0 ys i).2
def r6(T:Ae)(s0:T.St)(ts:List Th)(n:Int)(ys:List Str)(i:Nat):N14.Row:=NR.grow T (rm ts) n s0 ys i
structure Bk6(T:Ae)(s0:T.St)(H:Hp)(b:Addr)(as gs:List Addr)(ts:List Th)(n:Int)(ys:List Str):Prop where
 L:H b=some (.lst (as.map V.ref))
 ln:as.length=ys.length
 m:gs.length=ys.length
 t:∀(i:Nat) (a g:Addr),as[i]?=some a→gs[i]?=some g→H a=some (.tup [.str (r6 T s0 ts n ys i).1,.bl (r6 T s0 ts n ys i).2.1,.ref g])∧H g=some (.lst ((r6 T s0 ts n ys i).2.2.map V.str))
section
variable {T:Ae} {s0:T.St} {ts:List Th} {n:Int} {ys:List Str}
theorem Jbc(h0:T.inv (ts.map (·.1)) n s0 [])(hin:∀y∈ys,y∈ts.map (·.1))(hR:∀y∈ys,rm ts y≤n){i:Nat}(hi:i≤ys.length):lyN (W6 T s0 ts n ys i)=L6 T s0 ts n ys i:=(J6o (T:=T) (R:=rm ts) (n:=n) (s0:=s0) h0 hin hR i hi).2.1
end
end N64
namespace N62
open L2 N1 N5 N4 N6 N12 N32 N14 N20 N18 N25 NR N22 N21 N28 N63 N64 N41
inductive W3 where
 | ol | fi | hd
 deriving DecidableEq
structure C3 where
 ol:Addr
 fi:Addr
 hd:Addr
def Jas(a b:List Str):List Str:=a.filter fun u=>decide (u∉b)
def pS(b:List Str):V→Bool
 | .str u=>decide (u∉b)
 | _=>false
def lk(T:Ae)(s0:T.St)(ts:List Th)(n1 n2:Int)(ys:List Str)(i:Nat):List Str:=Jas (L6 T s0 ts n1 ys (i+1)) (L6 T s0 ts n2 ys (i+1))
end N62
namespace N66
open L2 N1 N5 N4 N6 N12 N32 N14 N20 N18 N25 NR N22 N21 N26 N28 N63 N64 N62
def lt(i:Nat):Str:=⟨#[97+i]⟩
def lts(n:Nat):List Str:=(List.range n).map lt
def ms(T:Ae)(R:Str→Int)(n:Int)(s0:T.St)(ys:List Str)(i:Nat):Nat:=(List.range i).countP fun j=>!(NR.grow T R n s0 ys j).2.1
end N66
namespace N51
open L2 N1 N5 N53
def sl(ys:List Str)(s e:Nat):List Str:=(ys.drop s).take (e - s)
end N51
namespace N55
open L2 N1 N5 N53 N51
abbrev BR:=Str×Bool
abbrev Bk5:=Addr×Str×Bool×Addr
structure Lq(H:Hp)(p:Addr)(bs:List Bk5):Prop where
 l:H p=some (.lst (bs.map fun r=>V.ref r.1))
 t:∀r∈bs,H r.1=some (.tup [.str r.2.1,.bl r.2.2.1,.ref r.2.2.2])
theorem Lq.same{H H':Hp}{p:Addr}{bs:List Bk5}(s:A7 H H')(h:Lq H p bs):Lq H' p bs:=⟨s _ _ h.l,fun r hr=>s _ _ (h.t r hr)⟩
def brs(bs:List Bk5):List BR:=bs.map fun r=>(r.2.1,r.2.2.1)
end N55
namespace N55
open L2 N1 N5 N53 N51
section
variable {tp:Addr} {pos:Pos} {qual:Str} {H H1 H2 H':Hp}
theorem Kt(h:Bc tp pos qual H):∃ps,H tp=some (.tbl ps):=by
 rcases h with h | ⟨c,h,_⟩
 · exact ⟨_,h⟩
 · exact ⟨_,h⟩
theorem B6(s:A7 H H')(h:Bc tp pos qual H):Bc tp pos qual H':=by
 rcases h with h | ⟨c,h,h'⟩
 · exact .inl (s _ _ h)
 · exact .inr ⟨c,s _ _ h,s _ _ h'⟩
theorem Ub(h:Bc tp pos qual H){p:Addr}{o:HO}(e:H p=some o)(n:∀ps,o≠ .tbl ps):p≠tp:=fun z=>by
 obtain ⟨ps,h'⟩:=Kt h;rw [z,h']at e;cases e;exact n _ rfl
structure Tk(tp:Addr)(pos:Pos)(qual:Str)(H H':Hp):Prop where
 but:SameBut tp H H'
 lam:Bc tp pos qual H'
theorem Tk.trans(a:Tk tp pos qual H H1)(b:Tk tp pos qual H1 H2):Tk tp pos qual H H2:=⟨a.but.trans b.but,b.lam⟩
theorem Tk.of(h:Bc tp pos qual H)(s:A7 H H1):Tk tp pos qual H H1:=⟨.of s,B6 s h⟩
theorem Tk.get(t:Tk tp pos qual H H')(h:Bc tp pos qual H){p:Addr}{o:HO}(e:H p=some o)(n:∀ps,o≠ .tbl ps):H' p=some o:=t.but _ _ e (Ub h e n)
theorem Tk.lst(t:Tk tp pos qual H H')(h:Bc tp pos qual H){p:Addr}{xs:List V}(e:H p=some (.lst xs)):H' p=some (.lst xs):=t.get h e fun _ z=>by cases z
theorem Tk.tup(t:Tk tp pos qual H H')(h:Bc tp pos qual H){p:Addr}{xs:List V}(e:H p=some (.tup xs)):H' p=some (.tup xs):=t.get h e fun _ z=>by cases z
theorem Lq.tk{p:Addr}{bs:List Bk5}(t:Tk tp pos qual H H')(h:Bc tp pos qual H)(b:Lq H p bs):Lq H' p bs:=⟨t.lst h b.l,fun r hr=>t.tup h (b.t r hr)⟩
end
def J8i(H:Hp):V→Bool
 | .ref t=>match H t with
  | some (.tup [.str _,.bl b,.ref _])=>!b
  | _=>false
 | _=>false
theorem Pt{H:Hp}{t g:Addr}{y:Str}{b:Bool}(h:H t=some (.tup [.str y,.bl b,.ref g])):J8i H (.ref t)=!b:=by
 show (match H t with | some (.tup [.str _,.bl b,.ref _])=>!b | _=>false)=!b;rw [h]
end N55
namespace N54
open L2 N1 N5 N4 N6 N12 N32 N14 N20 N18 N25 NR N22 N21 N28 N53 N64 N66
inductive W5 where
 | hd | fi | ol | ra | ru
structure C5 where
 hd:Addr
 fi:Addr
 ol:Addr
 ra:Addr
 ru:Addr
section
variable {T:Ae} {s0:T.St} {ts:List Th} {n:Int} {ys:List Str}
def rws(T:Ae)(s0:T.St)(ts:List Th)(n:Int)(ys:List Str):List N55.BR:=(List.range ys.length).map fun j=>((r6 T s0 ts n ys j).1,(r6 T s0 ts n ys j).2.1)
end
def mk5(T:Ae)(s0:T.St)(ts:List Th)(n:Int)(ys:List Str)(as gs:List Addr):List N55.Bk5:=(List.range ys.length).map fun j=>(as.getD j 0,(r6 T s0 ts n ys j).1,(r6 T s0 ts n ys j).2.1,gs.getD j 0)
theorem J8j{T:Ae}{s0:T.St}{ts:List Th}{n:Int}{ys:List Str}{H:Hp}{b:Addr}{as gs:List Addr}(B:Bk6 T s0 H b as gs ts n ys):N55.Lq H b (mk5 T s0 ts n ys as gs)∧N55.brs (mk5 T s0 ts n ys as gs)=rws T s0 ts n ys∧∀r∈mk5 T s0 ts n ys as gs,∃l:List Str,H r.2.2.2=some (.lst (l.map V.str)):=by
 have hg:∀(l:List Addr) (j:Nat),j < l.length→l[j]?=some (l.getD j 0):=fun l j hj=>by rw [Fc,Fb hj];rfl
 have hat:∀r∈mk5 T s0 ts n ys as gs,∃j,j < ys.length∧r=(as.getD j 0,(r6 T s0 ts n ys j).1,(r6 T s0 ts n ys j).2.1,gs.getD j 0):=fun r hr=>by
  obtain ⟨j,hj,rfl⟩:=Fz.mp hr;exact ⟨j,HF.mp hj,rfl⟩
 refine ⟨⟨?_,fun r hr=>?_⟩,?_,fun r hr=>?_⟩
 · rw [B.L]
   congr 2;refine Ra fun j=>?_;unfold mk5;rw [Fe,Fe,Fe]
   by_cases hj:j < ys.length
   · rw [hg as j (by rw [B.ln];exact hj),HC hj]
     rfl
   · rw [FS (by rw [B.ln];omega),FS (by rw [FW];omega)]
     rfl
 · obtain ⟨j,hj,rfl⟩:=hat r hr
   exact (B.t j _ _ (hg as j (by rw [B.ln];exact hj)) (hg gs j (by rw [B.m];exact hj))).1
 · unfold N55.brs mk5 rws
   rw [FH];rfl
 · obtain ⟨j,hj,rfl⟩:=hat r hr
   exact ⟨_,(B.t j _ _ (hg as j (by rw [B.ln];exact hj)) (hg gs j (by rw [B.m];exact hj))).2⟩
end N54
namespace N74
open L2 N1 N5 N4 N6 N12 N71
structure Gt where
 h:Str→Int
 l:Str→Bool
 st:Str→Int
 es:List (List V)
section
variable {H H':Hp} {s s':TwS} {g:Gt} {B B':Nat} {hd q:Str→Prop} {z:Str}
theorem J8k{y z:Str}(e:y≠z):(Sum.inr y:Key)≠Sum.inr z:=fun h=>e (by injection h)
end
end N74
namespace N76
open L2 N1 N5 N4 N6 N12 N71 N74
structure StA where
 li:Addr
 ne:Addr
 la:Addr
 fa:Addr
 no:Addr
def s0(zs:List Int):TwS:=⟨zs,[],[],[],[],[],[],0⟩
end N76
namespace N75
open L2 N1 N5 N4 N6 N12 N71 N74 N76
def J3k(d:Int):Prop:=3≤d∧d < 6
instance (d:Int):Decidable (J3k d):=inferInstanceAs (Decidable (3≤d∧d < 6))
def Yh(c k:Int):Int:=(c % 1000000007+7919 * k+1) * (c % 1000000007+7919 * k+1) % 2147483647 * 48271 % 2147483629
def T9:Sp:=fun vs H Q _=>∃c k:Int,vs=[.int c,.int k]∧0≤k∧k≤1000∧(0≤Yh c k→Yh c k < 2147483629→Q (.int (Yh c k)) H)
end N75
namespace N79
open L2 N1 N5 N4 N6 N12 N71 N74 N76 N75
structure Tw where
 C:Addr
 t:Addr
 x:TwA
 s:TwS
 g:Gt
end N79
namespace NTx
open L2 N1 N5 N8 N08 PySem.NumText PySem.StrLaws
open PySem.Builtin.Str (strSub strKind subAt)
def dg(n:Nat):List Nat:=if n < 10 then [48+n] else dg (n / 10)++[48+n % 10]
termination_by n
decreasing_by omega
theorem N0{n:Nat}(h:n < 10):dg n=[48+n]:=by unfold dg;rw [if_pos h]
theorem J3l{n:Nat}(h:¬n < 10):dg n=dg (n / 10)++[48+n % 10]:=by rw [dg];rw [if_neg h]
theorem J8l(n:Nat):AllDigits (dg n)∧digitsVal (dg n)=n∧dg n≠[]∧(dg n=[48]∨∃c r,dg n=c::r∧49≤c):=by
 induction n using Nat.strongRecOn with
 | ind n ih=>
  by_cases h:n < 10
  · rw [N0 h]
    refine ⟨fun c hc=>?_,?_,by simp,?_⟩
    · rw [Fh.mp hc];omega
    · show 0 * 10+(48+n - 48)=n
      omega
    · by_cases h0:n=0
      · exact .inl (by rw [h0])
      · exact .inr ⟨_,_,rfl,by omega⟩
  · obtain ⟨a,b,c,d⟩:=ih (n / 10) (by omega)
    rw [J3l h];refine ⟨fun x hx=>?_,?_,by simp,.inr ?_⟩
    · rcases FF.mp hx with hx | hx
      · exact a x hx
      · rw [Fh.mp hx];omega
    · rw [digitsVal_snoc,b];omega
    · rcases d with d | ⟨x,r,d,hx⟩
      · rw [d]at b
        have:digitsVal [48]=0:=rfl;omega
      · exact ⟨x,r++[48+n % 10],by rw [d];rfl,hx⟩
theorem J3m:∀(k n:Nat),n < 10 ^ (k+1)→(dg n).length≤k+1
 | 0,n,h=>by rw [N0 (by simpa using h)];simp
 | k+1,n,h=>by
  by_cases hn:n < 10
  · rw [N0 hn];simp
  · rw [J3l hn,Fm,List.length_singleton]
    have:=J3m k (n / 10) (by rw [Nat.pow_succ]at h;omega);omega
theorem Ta{v:Int}(h0:0≤v)(h1:v < 10 ^ 31):Qz (Str.ofString (toString v)).cps.toList=true∧Y3 (Str.ofString (toString v)).cps.toList=v:=by
 obtain ⟨n,rfl⟩:∃n:Nat,v=n:=⟨v.toNat,by omega⟩
 obtain ⟨a,b,c,d⟩:=J8l n;have e:=shown a c d;rw [b]at e;rw [e];show Qz (dg n)=true∧Y3 (dg n)=n
 have h31:(n:Int) < ((10 ^ 31:Nat):Int):=by simpa using h1
 have hl:=J3m 30 n (Int.ofNat_lt.mp h31);have hp:=HA.mpr c;refine ⟨?_,by unfold Y3;rw [b]⟩;unfold Qz;rw [FA (show 1≤(dg n).length by omega),FA (show (dg n).length≤31 by omega),W0.mpr a];rcases d with d | ⟨x,r,d,hx⟩
 · rw [d];rfl
 · rw [d]
   have:x≠48:=by omega
   simp [L8,this]
theorem Tb{x:Str}{a b c:Nat}(h:∀i,a≤i→i < b→x.cps.toList[i]?≠some c){i:Nat}(h1:a≤i)(h2:i < b){y:Str}{r:List Nat}(hy:y.cps.toList=c::r):¬At x y x.length i:=fun z=>by
 have e:=z.2;rw [subAt_eq,HN,hy]at e
 have hl:y.length=r.length+1:=by unfold Str.length;rw [← FE,hy];rfl
 rw [hl]at e;refine h i h1 h2 ?_
 cases hd:x.cps.toList.drop i with
 | nil=>rw [hd]at e;cases e
 | cons d t=>
  rw [hd]at e;have:d=c:=(List.cons.inj e).1;rw [← this,← List.head?_drop,hd];rfl
theorem N2{x y:Str}{c:Nat}{r:List Nat}(hy:y.cps.toList=c::r):∀(ps:List Str) (a:Nat),ps≠[]→(∀p∈ps,c∉p.cps.toList)→a≤x.length→x.cps.toList.drop a=(Str.join y ps).cps.toList→partsFrom x y.length a (cuts x y a)=ps
 | [],a,h,_,_,_=>absurd rfl h
 | [p],a,_,h,ha,e=>by
  have e':x.cps.toList.drop a=p.cps.toList:=e;rw [O7 x y fun i hi=>?_]
  · show [strSub x a x.length]=[p]
    congr 1;exact Wb (by rw [J2i];exact e')
  · by_cases hl:i < x.length
    · refine Tb (b:=x.length) (fun j hj _ ej=>?_) hi hl hy
      refine h p (by simp) ?_;rw [← e',FC];exact ⟨j - a,by rw [List.getElem?_drop,show a+(j - a)=j by omega];exact ej⟩
    · intro z
      have:=z.1
      have hl':y.length=r.length+1:=by unfold Str.length;rw [← FE,hy];rfl
      omega
 | p::q::ps,a,_,h,ha,e=>by
  have hl':y.length=r.length+1:=by unfold Str.length;rw [← FE,hy];rfl
  have e':x.cps.toList.drop a=p.cps.toList++(y.cps.toList++(Str.join y (q::ps)).cps.toList):=by
   rw [e];show (p++y++Str.join y (q::ps)).cps.toList=_;rw [E8,E8,Rb]
  have hlen:x.length - a=p.length+(y.length+(Str.join y (q::ps)).cps.toList.length):=by
   have:=congrArg List.length e';rw [HZ,Fm,Fm,FE,FE,FE]at this;unfold Str.length;rw [this]
  have gp:∀j,a≤j→j < a+p.length→x.cps.toList[j]?≠some c:=fun j h1 h2 ej=>by
   refine h p (by simp) ?_;rw [FC];refine ⟨j - a,?_⟩
   have:(x.cps.toList.drop a)[j - a]?=some c:=by rw [List.getElem?_drop,show a+(j - a)=j by omega];exact ej
   rw [e',Fy (by rw [FE];unfold Str.length at h2;omega)]at this;exact this
  have dr:x.cps.toList.drop (a+p.length)=y.cps.toList++(Str.join y (q::ps)).cps.toList:=by
   rw [← List.drop_drop,e'];exact List.drop_left' (by unfold Str.length;rw [FE])
  have hc:At x y x.length (a+p.length):=by
   refine ⟨by omega,?_⟩;rw [subAt_eq,dr,HN];exact List.take_left' (by unfold Str.length;rw [FE])
  rw [Y7 x y (by omega) (by omega) hc fun i h1 h2=>Tb gp h1 h2 hy];show strSub x a (a+p.length)::partsFrom x y.length (a+p.length+y.length) (cuts x y (a+p.length+y.length))=_;rw [N2 hy (q::ps) (a+p.length+y.length) (by simp) (fun z hz=>h z (Fk _ hz)) (by omega) (by rw [← List.drop_drop,dr];exact List.drop_left' (by unfold Str.length;rw [FE]))];congr 1;refine Wb ?_;rw [strSub_toList,e',show a+p.length - a=p.length by omega];exact List.take_left' (by unfold Str.length;rw [FE])
theorem Uc{y:Str}{c:Nat}{r:List Nat}{ps:List Str}(hy:y.cps.toList=c::r)(hk:strKind y=1)(hne:ps≠[])(h:∀p∈ps,c∉p.cps.toList):Txt.split (Str.join y ps) y=ps:=by
 rw [U9 _ _ (by rw [hk];exact Fw (by have:=PyProof.Rows.strKind_pos (Str.join y ps);omega))];exact N2 hy ps 0 hne h (FB _) rfl
theorem Yi{l:List Nat}(h:B9 l=true){c:Nat}(hc:c∈l):48≤c∧c≤122∧c≠59:=by
 unfold B9 at h;simp only [Hc]at h;have:=FU.mp h.2 c hc
 have hm:c∈B1++B8:=by simpa using this
 have key:∀c∈B1++B8,48≤c∧c≤122∧c≠59:=by decide+kernel
 exact key c hm
def M5:Sp:=fun vs H Q _=>∃(z:Str),vs=[.str z]∧Qz z.cps.toList=true∧∀H',A7 H H'→Q (.int (Y3 z.cps.toList)) H'
theorem Da{l:List Nat}(h:B9 l=true):1≤l.length∧l.length≤8:=by
 unfold B9 at h;simp only [Hc,decide_eq_true_eq]at h;exact ⟨h.1.1.1,h.1.1.2⟩
theorem Of{y:Str}{b:Nat}:∀{ps:List Str},(∀p∈ps,p.length≤b)→(Str.join y ps).length≤ps.length * (b+y.length)
 | [],_=>FB _
 | [p],h=>by
  show p.length≤_;have:=h p (by simp);simp;omega
 | p::q::r,h=>by
  show (p++y++Str.join y (q::r)).length≤_;rw [Aw,Aw];have:=Of (y:=y) (ps:=q::r) fun x hx=>h x (Fk _ hx);have:=h p (by simp);rw [show (p::q::r).length=(q::r).length+1 from rfl,Nat.add_mul];omega
end NTx
namespace L2
section
variable {K:PySem.W.Frag} {H1:Hp} {tail:St} {te:Blk→TE} {Q:VK} {a c:Addr}
theorem J3n{xs zs:List V}(f:Nat→V)(hlen:zs.length=xs.length)(hA:SqL K H1 a xs)(hC:SqL K H1 c zs)(hz:zs.length≤sizeLine)
 (he:∀b (i:Nat) x z H Q',xs[i]?=some x→zs[i]?=some z→A7 H1 H→(∀H',A7 H H'→Q' (f i) H')→te b (some x::some z::tail) H Q')
 (q:∀(D:Addr) (H':Hp),H1 D=none→A7 H1 H'→H' D=some (.lst ((List.range zs.length).map f))→Q (.ref D) H'):Br (none::none::tail) (g2 K) (fun _=>G9) te Q (Itz K a c) H1:=by
 intro b D hD;refine ⟨fun i m ys H=>m=zs.length - i∧i≤zs.length∧H D=some (.lst ys)∧A7 H1 H∧ys=(List.range i).map f,⟨_,rfl,FB _,A1,C6 hD,rfl⟩,?_⟩;rintro i m ys H ⟨rfl,hi,hd,sm,hys⟩;refine ⟨hd,?_⟩
 by_cases hlt:i < zs.length
 · have hx:xs[i]?=some (xs[i]'(by omega)):=Fb (by omega)
   have hy:zs[i]?=some zs[i]:=Fb hlt;refine .inr ⟨⟨xs,zs,_,_,sm.seq hA,sm.seq hC,hx,hy⟩,?_⟩;rintro v H3 ⟨t,x',z',rfl,hn,rfl,g1,g2'⟩;have e1:=(g1 xs (sm.seq hA)).symm.trans hx;have e2:=(g2' zs (sm.seq hC)).symm.trans hy;cases e1;cases e2;have s3:A7 H (upd H t (.tup [xs[i]'(by omega),zs[i]])):=A7.new hn;refine ⟨t,_,rfl,SqT.of A1,rfl,_,_,rfl,_,_,rfl,rfl,Jah,?_⟩;show G9 _ _ _;unfold G9;dsimp only;rw [if_pos rfl];refine he b i _ _ _ _ hx hy (sm.trans s3) fun H8 s8=>?_;have s38:=s3.trans s8;have hd8:=s38 _ _ hd;exact ⟨hd8,by rw [hys,Fa,FW];omega,zs.length - (i+1),by omega,rfl,hlt,A1,Se (sm.trans s38) hD,by rw [hys,HR,Fp];rfl⟩
 · have e:i=zs.length:=by omega
   subst e;exact .inl ⟨⟨_,_,sm.seq hA,sm.seq hC,.inr (Fg _)⟩,q D H hD sm (by rw [hd,hys])⟩
end
end L2
namespace N85
open L2 N1 N5 N4 N6 N12 N71 N74 N75 N79 NTx
inductive W85 | thing | tower | prompt | read | keep | ahead | rest | store | levels | found | spent | again
def fm:W85→List Str
 | .thing=>[Str.ofString "NAME",Str.ofString "COST",Str.ofString "ROOM"] | .tower=>[Str.ofString "SIZE",Str.ofString ".."] | .prompt=>[Str.ofString "SIZE",Str.ofString ".."]
 | .read=>[Str.ofString "NAME"] | .keep=>[Str.ofString "NAME",Str.ofString "VALUE"] | .ahead=>[Str.ofString "NAME"] | .store=>[Str.ofString "NAME"]
 | _=>[]
def Bg(fs:List Str)(n:Nat):List Str:=if Str.ofString ".."∈fs then List.replicate (max 1 n) (fs.getD 0 Str.empty) else fs
theorem J3o{l:List Nat}(h:Qz l=true):1≤l.length∧l.length≤31∧∀c∈l,48≤c∧c≤57:=by
 unfold Qz at h;simp only [Hc,decide_eq_true_eq,Bool.not_eq_true']at h;refine ⟨h.1.1.1,h.1.1.2,fun c hc=>?_⟩;have:=FU.mp h.1.2 c hc
 have h2:c∈B8:=by simpa using this
 revert h2
 have:∀c∈B8,48≤c∧c≤57:=by decide
 exact this c
theorem J8m{x:V}{xs:List V}:Nc (x::xs) (some 1) none=xs:=by
 unfold Nc;rw [show HT.sIx (x::xs).length 0 (some 1)=1 by rw [show (1:Int)=((1:Nat):Int) by rfl,HT.Ou];simp];rw [show HT.sIx (x::xs).length (x::xs).length none=(x::xs).length from rfl];rw [List.drop_succ_cons,List.drop_zero,Rk (by simp)]
def Ij:Sp:=fun vs H Q _=>∃z:Str,vs=[.str z]∧B9 z.cps.toList=true∧∀H',A7 H H'→Q (.str z) H'
def Es(K:PySem.W.Frag):Sp:=fun vs H Q _=>∃(a:Addr) (fs:List Str) (n:Nat),vs=[.ref a,.int n]∧SqT K H a (fs.map V.str)∧fs.length≤4∧n≤100∧(Str.ofString ".."∈fs→1≤fs.length)∧∀(p:Addr) (H':Hp),H p=none→A7 H H'→H' p=some (.lst ((Bg fs n).map V.str))→Q (.ref p) H'
theorem J5a{K:PySem.W.Frag}{H:Hp}{p:Addr}{z:Str}{ys:List Str}{Q:VK}(h:SqT K H p (ys.map V.str))(q:Q (.bl (decide (z∈ys))) H):rIn K false (.str z) (.ref p) H Q:=by
 refine ⟨p,_,rfl,.inr h,rfl,Kh,?_⟩;rw [if_neg (by decide),Oc];exact q
theorem Gj{v:Int}(h0:0≤v)(h1:v≤10 ^ 40):v.natAbs.log2 < 1920:=by
 by_cases e:v.natAbs=0
 · rw [e];decide
 · refine (Nat.log2_lt e).mpr ?_
   have h2:v.natAbs≤10 ^ 40:=by omega
   exact HJ h2 (by decide+kernel)
theorem Ku{ys:List Str}{b:Nat}(h:∀y∈ys,y.length≤b):(ys.map fun x=>x.length).sum≤ys.length * b:=by
 induction ys with
 | nil=>simp
 | cons y r ih=>
  rw [List.map_cons,List.sum_cons,List.length_cons,Nat.add_mul];have h1:=h y Fu;have h2:=ih fun u hu=>h u (Fk _ hu);omega
theorem sp1:(Str.ofString " ").length=1:=by decide+kernel
theorem Cy{v:Int}(h0:0≤v)(h1:v < 10 ^ 31):(Str.ofString (toString v)).length≤31:=by
 have:=(J3o (Ta h0 h1).1).2.1;rw [← Bm];exact this
def thd:Th:=(Str.empty,0,0)
structure Dfs(st as:Addr)(tw:V)(fs:List (Str×V)):Prop where
 st:fs.lookup (Str.ofString "stock")=some (.ref st)
 as:fs.lookup (Str.ofString "asks")=some (.ref as)
 tw:fs.lookup (Str.ofString "tower")=some tw
 n:fs.length < 500
 m:fs.lookup (Str.ofString "say")=none
 k:fs.lookup (Str.ofString "things")=none
theorem Dfs.stock{st as st':Addr}{tw:V}{fs:List (Str×V)}(h:Dfs st as tw fs):Dfs st' as tw (B3 (Str.ofString "stock") (.ref st') fs):=by
 refine ⟨by rw [B4,if_pos rfl],?_,?_,by rw [Sr (by rw [h.st];rfl)];exact h.n,?_,?_⟩ <;> rw [B4,if_neg (by decide+kernel)]
 · exact h.as
 · exact h.tw
 · exact h.m
 · exact h.k
theorem Dfs.asks{st as as':Addr}{tw:V}{fs:List (Str×V)}(h:Dfs st as tw fs):Dfs st as' tw (B3 (Str.ofString "asks") (.ref as') fs):=by
 refine ⟨?_,by rw [B4,if_pos rfl],?_,by rw [Sr (by rw [h.as];rfl)];exact h.n,?_,?_⟩ <;> rw [B4,if_neg (by decide+kernel)]
 · exact h.st
 · exact h.tw
 · exact h.m
 · exact h.k
structure K3(C:Addr)(H:Hp)(d st as:Addr)(tw:V):Prop where
 o:∃dx fs,H d=some (.ins C dx fs)∧Dfs st as tw fs
theorem K3.same{C d st as:Addr}{tw:V}{H H':Hp}(m:A7 H H')(h:K3 C H d st as tw):K3 C H' d st as tw:=let ⟨dx,fs,h1,h2⟩:=h.o;⟨dx,fs,m _ _ h1,h2⟩
structure Ud(K:PySem.W.Frag)(S:Addr)(H0 H:Hp)(p:Addr)(ts:List Th):Prop where
 at':Af K S H p ts
 fr:∀dx d fs,H p=some (.ins S dx fs)→fs.lookup (Str.ofString "things")=some (.ref d)→H0 d=none
theorem Ud.mk'{K:PySem.W.Frag}{S p:Addr}{H0 H0' H H':Hp}{ts ts':List Th}(h:Ud K S H0 H p ts)(a:Af K S H' p ts')(e:H' p=H p)(m:∀b,H0 b=none→H0' b=none):Ud K S H0' H' p ts':=⟨a,fun dx d fs e1 e2=>m _ (h.fr dx d fs (by rw [← e];exact e1) e2)⟩
def Et(K:PySem.W.Frag)(C:Addr):Sp:=fun vs H Q _=>∃(p dx ra:Addr) (rs:List Rw),vs=[.ref p,.ref ra]∧H p=some (.ins C dx [])∧SqL K H ra (rs.map fun t=>V.ref t.1)∧(∀t∈rs,SqT K H t.1 [t.2.1,t.2.2.1,t.2.2.2])∧S4 rs=none∧
 ∀H',SameBut p H H'→Ud K C H H' p (rs.map J4r)→Q .non H'
def Ik(K:PySem.W.Frag)(D S:Addr):Sp:=fun vs H Q _=>∃(d dx:Addr),vs=[.ref d]∧H d=some (.ins D dx [])∧∀(st as:Addr) (H':Hp),SameBut d H H'→K3 D H' d st as .non→Ud K S H H' st []→H' as=some (.lst [])→H st=none→H as=none→Q .non H'
def Dl(D:Addr):Sp:=fun vs H Q _=>∃(d gv st as:Addr) (tw:V),vs=[.ref d,.ref gv]∧K3 D H d st as tw∧∀(as':Addr) (H':Hp),SameBut d H H'→K3 D H' d st as' tw→H' as'=some (.lst [])→H as'=none→Q (.str (Str.ofString "ok")) H'
theorem Kv{K:PySem.W.Frag}{S D d dx p:Addr}{H:Hp}{fs:List (Str×V)}{ts:List Th}(h:Af K S H p ts)(hd:H d=some (.ins D dx fs))(hf:fs.lookup (Str.ofString "things")=none):Lb K S H p ts [d]:=by
 obtain ⟨dx',d',kvs,h1,h2,h3,h4⟩:=h.ex;refine ⟨dx',d',kvs,h1,h2,fun m=>?_,fun m=>?_,h3,fun i t e=>?_⟩
 · rw [Fh.mp m,hd]at h1
   cases h1;rw [show (flds d').lookup (Str.ofString "things")=some (.ref d') by with_unfolding_all rfl]at hf;cases hf
 · rw [Fh.mp m,hd]at h2
   cases h2
 · obtain ⟨a,e1,e2⟩:=h4 i t e
   refine ⟨a,e1,?_⟩;rcases e2 with e2 | e2
   · refine .inl ⟨e2,fun m=>?_⟩
     rcases e2 with e2 | ⟨o,e2⟩ <;> rw [Fh.mp m,hd]at e2 <;> cases e2
   · exact .inr fun _=> .inr e2
def nT(i:Int):Str:=Str.ofString (toString i)
end N85
namespace N29
open L2 N1 N5 N4 N6 N12 N32 N14 N20 N18 N25 NR N22 N21 N24 N23
inductive W5 where
 | ra | ol | fi | ha | fa
structure C5 where
 ra:Addr
 ol:Addr
 fi:Addr
 ha:Addr
 fa:Addr
structure L5 where
 k:Int
 la:List (Key×V)
 pu:List (Key×V)
 ta:List (Key×V)
 e:Int
end N29
namespace N30
open PySem
end N30
namespace L2
open N30
section
variable {K:Type} [DecidableEq K]
def ds1(s:List K)(y:K):List K:=if y∈s then s else s++[y]
def ds(ys:List K):List K:=ys.foldl ds1 []
end
end L2
namespace L2
open N30
section
variable {X:Cx}
def J3p(K:PySem.W.Frag)(t:TA):TE:=fun σ H Q=>t σ H fun vs H1=>∃(a:Addr) (ns:List Int),vs=[.ref a]∧SqL K H1 a (ns.map V.int)∧ns.length < 64∧∀(q:Addr) (zs:List Int),H1 q=none→zs.Perm (ds ns)→zs.Pairwise (· ≤·)→Q (.ref q) (upd H1 q (.lst (zs.map V.int)))
variable {e:Expr} {t:TA} {p p2 pos pos2:Pos}
end
theorem N3{K:PySem.W.Frag}{σ:St}{H:Hp}{Q:VK}{t:TA}:J3p K t σ H Q=t σ H fun vs H1=>∃(a:Addr) (ns:List Int),vs=[.ref a]∧SqL K H1 a (ns.map V.int)∧ns.length < 64∧∀(q:Addr) (zs:List Int),H1 q=none→zs.Perm (ds ns)→zs.Pairwise (· ≤·)→Q (.ref q) (upd H1 q (.lst (zs.map V.int))):=rfl
end L2
namespace N35
open L2 N1 N5 N31 N4 N32 N41
variable {ys:List Str} {R:Str→Int} {n c:Nat}
theorem Yj{K:PySem.W.Frag}{H1:Hp}{tail:L2.St}{te:Blk→TE}{Q:VK}{a:Addr}{xs:List V}(f:Nat→List V)(hS:SqL K H1 a xs)(hz:xs.length≤sizeLine)(he:∀b (i:Nat) x H Q',xs[i]?=some x→A7 H1 H→(∀t H',A7 H H'→H' t=some (.tup (f i))→Q' (.ref t) H')→te b (some x::tail) H Q')
 (q:∀(D:Addr) (as:List Addr) (H':Hp),H1 D=none→A7 H1 H'→H' D=some (.lst (as.map V.ref))→as.length=xs.length→(∀i b,as[i]?=some b→H' b=some (.tup (f i)))→Q (.ref D) H'):Br (none::tail) (fun _=>Bz 0) (fun _=>G9) te Q (Itl K a) H1:=by
 refine Kg xs.length (fun b D hD=>⟨fun i ys H=>i≤xs.length∧H D=some (.lst ys)∧A7 H1 H∧∃as:List Addr,ys=as.map V.ref∧as.length=i∧∀j c,as[j]?=some c→H c=some (.tup (f j)),⟨FB _,A1,C6 hD,[],rfl,rfl,fun j y e=>by simp at e⟩,?_,?_,?_⟩)
 · rintro i ys H ⟨hi,h,_⟩
   exact h
 · rintro ys H ⟨_,h,sm,as,rfl,hl,hall⟩
   exact ⟨⟨xs,sm.seq hS,Fg _⟩,q D as H hD sm h hl hall⟩
 · rintro i ys H hi ⟨_,h,sm,as,rfl,hl,hall⟩
   refine ⟨⟨xs,xs[i],sm.seq hS,by simp [hi]⟩,fun x H3 ⟨e3,ex⟩=>?_⟩;subst e3;refine he b i x _ _ (ex xs (sm.seq hS)) sm fun t H4 sm4 py=>?_;have h4:=sm4 _ _ h;refine Ga h4 (by rw [Fa];omega) hi ⟨hi,A1,fun c o e=>?_,as++[t],by rw [Fp];rfl,by rw [Fm,hl];rfl,fun j c e=>?_⟩
   · rw [A3 (A8 e hD)];exact sm4 _ _ (sm _ _ e)
   · by_cases hj:j < as.length
     · rw [Fy hj]at e
       have g:=sm4 _ _ (hall j c e);rw [A3 (Bt g h4 (by intro z;cases z))];exact g
     · rw [FD (by omega)]at e
       have hj0:j=i:=by have:=(Fi.mp e).1;simp at this;omega
       subst hj0;rw [show j - as.length=0 by omega]at e;cases e;rw [A3 (Bt py h4 (by intro z;cases z))];exact py
theorem J8n(ns:List Int)(lo hi:Nat):∃cs:List Int,Nc (ns.map V.int) (some (lo:Int)) (some (hi:Int))=cs.map V.int∧cs.length≤hi - lo∧cs.length≤ns.length - lo:=by
 unfold Nc;rw [HT.Ou,HT.Ou,Fa,← List.map_drop,← List.map_take];refine ⟨_,rfl,?_,?_⟩
 · rw [Hm,HZ];omega
 · rw [Hm,HZ];omega
end N35
namespace N36
open L2 N1 N5 N4 N6 N12 N32 N14 N20 N18 N25 NR N22 N21 N24 N23 N29
def pos(row:List Str)(z:Str):Nat:=if z∈row then row.idxOf z else row.length
inductive W3 where
 | ol | ha | fa
end N36
namespace L2
section
variable {X:Cx} {CX:CXT} {k j:Nat} {C:Addr} {ps:List Str} {sp:Sp} {EE:St→XK} {x:Str} {p pos:Pos}
theorem Og(D:Pb X.prog X.w X.K X.mg X.base CX j x C ps sp)(hr:Bh k X.A)(hg:Gl X x)(hx:Ds CX X EE)(hj:j+1≤k:=by decide)(hdb:(x==("__debug__":Str))=false:=by decide):
 PE X (.Call (.Name x p) [] [] pos) (U4 C sp EE J43):=by
 obtain ⟨f,fd,F,M,hm,hb⟩:=D.ex;intro pins s0 σ H0 Q I h;refine FZ (K4 I hg hm ?_ hdb);have q:∀x dx,H0 x=none→H0 dx=none→dx≠x→sp [.ref x] (upd (upd H0 dx (.own x)) x (.ins C dx [])) (fun v H2=>v= .non∧Q (.ref x) H2) (EE σ):=h;refine PySem.W.callWith_K0 (first:=[]) I.kIn M.kp ?_;have hq:=q (s0.heap.objs.size+1) s0.heap.objs.size (I.hok.fresh (R1 _)) (I.hok.fresh (Fg _)) (Fo (HE _));have I2:=Inv.made (C:=C) I;have r2:Ao [V.ref (s0.heap.objs.size+1)] [Value.ref (s0.heap.objs.size+1)]:= .cons rfl .nil
 have hl:[Value.ref (s0.heap.objs.size+1)].length=ps.length:=by
  rw [← r2.length];exact F.len _ _ _ _ hq
 have hb':=fun s' (h':X.K.In s'.heap)=>hb s' [Value.ref (s0.heap.objs.size+1)] h' (by simpa using hl);have hr':Bh (j+1) X.A:=hr.mono hj
 refine HY (Q4 (f:=f) I.kIn M.makes M.init (HN.mp M.fn) (HI (F.run _ X.stack _ _ ⟨[Value.ref (s0.heap.objs.size+1)],[]⟩ [Value.ref (s0.heap.objs.size+1)] _ _ (EE σ) (hr'.make C [] [])
  (I2.env0.make C [] []) (by have:=hb' _ I2.kIn;rw [FJ]at this;exact this) r2 hq) fun r s' hq'=>?_))
 cases r with
 | error e=>exact hx pins σ _ _ e s' I2 hq'
 | ok fl=>
  cases fl with
  | ret u=>
   obtain ⟨v,H',I3,rv,ev,q3⟩:=I2.after hq';subst ev;exact ⟨rv,⟨V.ref (s0.heap.objs.size+1),H',I3,rfl,q3⟩⟩
  | next=>exact False.elim hq'
  | brk=>exact False.elim hq'
  | cont=>exact False.elim hq'
end
end L2
namespace N85
open L2 N1 N5 N4 N6 N12 N71 N74 N75 N79 NTx
theorem J3q{y:Str}:∀{ps qs:List Str},ps≠[]→qs≠[]→Str.join y (ps++qs)=Str.join y ps++y++Str.join y qs:=by
 intro ps
 induction ps with
 | nil=>intro qs h;exact absurd rfl h
 | cons p ps ih=>
  intro qs _ hq
  cases ps with
  | nil=>
   cases qs with
   | nil=>exact absurd rfl hq
   | cons q qs=>rfl
  | cons p2 ps=>
   have:=ih (qs:=qs) (by simp) hq;show p++y++Str.join y ((p2::ps)++qs)=(p++y++Str.join y (p2::ps))++y++Str.join y qs;rw [this];simp only [Str.append_assoc]
theorem Yk{y:Str}:∀{xss:List (List Str)},(∀xs∈xss,xs≠[])→Str.join y (xss.map (Str.join y))=Str.join y xss.flatten:=by
 intro xss
 induction xss with
 | nil=>intro _;rfl
 | cons xs xss ih=>
  intro h;have hx:=h xs Fu;have ht:=ih fun u hu=>h u (Fk _ hu)
  cases xss with
  | nil=>rw [Hf,List.flatten_nil,FJ];rfl
  | cons ys r=>
   have hne:(ys::r).flatten≠[]:=by
    rw [Hf];intro e;exact h ys (by simp) (List.append_eq_nil_iff.mp e).1
   rw [Hf,J3q hx hne,← ht];rfl
structure LsA where
 sd:Addr
 li:Addr
 ne:Addr
 la:Addr
 fa:Addr
 fo:Addr
structure LsS where
 R:List Str
 g:Gt
 ff:List Int
 pd:Int
 pr:Bool
def Il:Sp:=fun vs H Q _=>∃(c:Int) (k:Nat),vs=[.int c,.int k]∧k≤100∧∀v:Int,0≤v→v≤10 ^ 30→Q (.int v) H
theorem J8o{x z w:Str}:Txt.join (Str.ofString " ") [x,z,w]=x++Str.ofString " "++(z++Str.ofString " "++w):=StrLaws.glued_eq_join _ _
theorem Jbd{x:Str}:Txt.join (Str.ofString " ") [x]=x:=StrLaws.glued_eq_join _ _
theorem Jbe{x z w u:Str}:Txt.join (Str.ofString " ") [x,z,w,u]=x++Str.ofString " "++(z++Str.ofString " "++(w++Str.ofString " "++u)):=StrLaws.glued_eq_join _ _
end N85
namespace L2
open PySem.W
section
variable {X:Cx}
theorem J5b{cl:List (Str×Addr)}{args:Arguments}{body:Expr}{scope:Scope}{pos:Pos}{c tp:Addr}(hdef:defaultsOf args X.env=([],[]))(hcl:closureFor scope X.env=pure cl)(hcode:X.env.code= .ref c)(hc:codeHdIn X.K c tp=true)(hne:mainGlobals≠tp)
 (hB:X.base.BuiltinsAt X.mg tp):
 PE X (.Lambda args body scope pos) (J8d tp pos (X.env.qual++"<lambda>") fun c ct=>kla_obj "<lambda>" (X.env.qual++"<lambda>") args body scope cl ((X.mg "__name__").getD .none) c ct):=by
 intro pins s σ H Q I h;obtain ⟨hL,q⟩:=h;have C:CodeHd s.heap c tp:=codeHd_of_K I.kIn hc;have G:s.heap.Ns mainGlobals X.mg:=I.mod.glob.keeps I.bk;have B:s.heap.BuiltinsAt X.mg tp:=hB.keeps I.bk;refine kla_eval hdef ?_;rcases hL with hE | ⟨c',hE,hc'⟩
 · have hP:s.heap.get? tp=some (tabObj #[]):=I.hok tp _ hE
   have ltt:=Fl hP;refine kla_makeFunction hcl I.ok.glob G hcode C hP (by first | trivial | exact .nil | simp [TriplesOk]) rfl hne B fun c' ctv h' tk hx hge hlt hrec htab=>?_;have ncf:c'≠h'.objs.size:=Fo hlt;have ltc:tp < c':=Fj ltt hge;have szf:s.heap.objs.size≤h'.objs.size:=FG hge (Rj hlt);have ntf:tp≠h'.objs.size:=Fo (RC ltc hlt);have ntc:tp≠c':=Fo ltc;generalize hF:(kla_obj "<lambda>" (X.env.qual++"<lambda>") args body scope cl ((X.mg "__name__").getD .none) c' ctv)=fo
   have I2:Inv X pins σ (upd (upd (upd H tp (.tbl #[rawInt pos.line,rawInt pos.col,.ref c'])) c' (Ks c' (X.env.qual++"<lambda>"))) h'.objs.size (fnO h'.objs.size fo)) {s with heap:=h'.push fo,toks:=tk}:=by
    refine I.grown (more:=#[rawInt pos.line,rawInt pos.col,.ref c']) hE (fun b u nb e=>Fd _ (hx b u nb e)) (Fd _ htab) ?_ (fun b nb lb=>?_) fun b u lb e=>?_
    · rw [A3 ntf,A3 ntc];exact A1
    · rw [A3 (Fo (Fj lb szf)),A3 (Fo (Fj lb hge)),A3 nb]
    · by_cases e1:b=h'.objs.size
      · subst e1
        rw [A1]at e;cases e;exact Ps (Fs _ (by rw [← hF];rfl))
      · rw [A3 e1]at e
        by_cases e2:b=c'
        · subst e2
          rw [A1]at e;cases e;obtain ⟨c2,oc,vs,tq,ec,hoc,r⟩:=hrec;exact T5 ⟨c2,oc,vs,tq,ec,Fd _ hoc,r⟩
        · rw [A3 e2,A3 (fun z=>by rw [z]at lb;exact Hj _ (Fj ltt lb)),I.hok.fresh lb]at e
          cases e
   refine ⟨.ref h'.objs.size,_,I2,rfl,q _ c' ctv _ (I.hok.fresh szf) (fun b o e nb=>?_) (.inr ⟨c',?_,?_⟩) ?_ (by rw [A1,← hF])⟩
   · have lb:=(I.hok b o e).lt
     rw [A3 (Fo (Fj lb szf)),A3 (Fo (Fj lb hge)),A3 nb];exact e
   · rw [A3 ntf,A3 ntc];exact A1
   · rw [A3 ncf];exact A1
   · rw [A3 ncf];exact A1
 · have hP:s.heap.get? tp=some (tabObj #[rawInt pos.line,rawInt pos.col,.ref c']):=I.hok tp _ hE
   have ltt:=Fl hP;have ltc:=(I.hok c' _ hc').lt;refine kla_makeFunctionHit (cv:= .ref c') hcl I.ok.glob G hcode C hP (by simp [TriplesOk,rawInt]) (by simp [codeAmong,rawInt]) B fun ctv h' tk hk hsz=>?_;generalize hF:({cls:= .type "function",data:= .func (kla_fn "<lambda>" (X.env.qual++"<lambda>") args body scope cl ((X.mg "__name__").getD .none) (.ref c') ctv)}:Obj)=fo;have I2:=I.laid (a:=h'.objs.size) (o:=fnO h'.objs.size fo) (t':=tk) (h':=h'.push fo) (fun b u e=>Fd _ (hk b u e)) hsz (Ps (Fs _ (by rw [← hF];rfl)));have nw:=I.hok.fresh hsz
   have sm:∀b o,H b=some o→upd H h'.objs.size (fnO h'.objs.size fo) b=some o:=fun b o e=>by rw [A3 (A8 e nw)];exact e
   exact ⟨.ref h'.objs.size,_,I2,rfl,q _ c' ctv _ nw (fun b o e _=>sm b o e) (.inr ⟨c',sm _ _ hE,sm _ _ hc'⟩) (sm _ _ hc') (by rw [A1,← hF])⟩
end
theorem HOk.lend{P:Program}{w:World}{H:Hp}{h:Heap}{c:Addr}{o:Obj}(ok:HOk P w H h)(n:H c=none)(e:h.get? c=some o):HOk P w (upd H c (E5 c o)) h:=fun b u q=>by
 by_cases z:b=c
 · subst z
   rw [A1]at q;cases q;exact X3 e
 · rw [A3 z]at q
   exact (ok b u q).stay (fun d ob _ q=>q) (fun d q=>by rw [A3 (A8 q n)];exact q) fun d xs q=>by rw [A3 (A8 q n)];exact q
theorem HOk.back{P:Program}{w:World}{H:Hp}{h:Heap}{c:Addr}{o:Obj}(ok:HOk P w H h)(n:H c=some (E5 c o)):HOk P w (unk H [c]) h:=fun b u q=>by
 obtain ⟨nb,q⟩:=T7 q;refine (ok b u q).stay (fun d ob _ q=>q) (fun d q=>?_) fun d xs q=>?_
 · rw [C4 fun z=>?_]
   · exact q
   · rw [Fh.mp z,n]at q;cases q
 · rw [C4 fun z=>?_]
   · exact q
   · rw [Fh.mp z,n]at q;cases q
theorem CE.back{outer:List Env}{P:Program}{w:World}{H:Hp}{s s':Shared}{Q:VK}{u:Value}{c:Addr}{o:Obj}(n:H c=none)(e:s.heap.get? c=some o)(nf:c∉frs outer)(h:CE outer P w (upd H c (E5 c o)) s (fun y H2=>H2 c=some (E5 c o)→Q y (unk H2 [c])) u s'):CE outer P w H s Q u s':=by
 obtain ⟨v,H',os,bare,un,ok,rv,q⟩:=h;have hc:H' c=some (E5 c o):=un.frzs c o _ A1;have ec:s'.heap.get? c=some o:=(ok c _ hc).1
 have up:∀b u,H b=some u→upd H c (E5 c o) b=some u∧b≠c:=fun b u q=>⟨by rw [A3 (A8 q n)];exact q,A8 q n⟩
 have out:∀b,b≠c→unk H' [c] b=H' b:=fun b nb=>C4 fun z=>nb (Fh.mp z);refine ⟨v,unk H' [c],os,bare,⟨fun b ob q' m hb hx=>?_,fun b ob q' m hb hx=>?_,fun b ob q' m hx=>?_,un.there,fun b xs q'=>?_,fun b ob w' q'=>?_,fun b ps q'=>?_⟩,ok.back hc,rv,q hc⟩
 · by_cases z:b=c
   · rw [z,e]at q'
     cases q';rw [z];exact ec
   · exact un.keep b ob q' (by rw [A3 z];exact m) hb hx
 · have z:b≠c:=fun z=>nf (by rw [← z];exact hb)
   exact un.slot b ob q' (by rw [A3 z];exact m) hb hx
 · by_cases z:b=c
   · subst z;exact Lf (by simp)
   · rw [out b z];exact un.free b ob q' (by rw [A3 z];exact m) hx
 · obtain ⟨a,nb⟩:=up b _ q'
   rw [out b nb];exact un.tups b xs a
 · obtain ⟨a,nb⟩:=up b _ q'
   rw [out b nb];exact un.frzs b ob w' a
 · obtain ⟨a,nb⟩:=up b _ q'
   rw [out b nb];exact un.tbls b ps a
def J6s(sp:Sp)(c:Addr)(i:Nat)(E:XK)(t:TA):TE:=fun σ H Q=>t σ H fun vs H1=>∃v,σ[i]?=some (some v)∧∀o u,o.data= .cell (some u)→An v u→H1 c=none→sp vs (upd H1 c (E5 c o)) (fun y H2=>H2 c=some (E5 c o)→Q y (unk H2 [c])) E
section
variable {X:Cx} {k j:Nat} {ps:List Str} {sp:Sp} {E:XK} {g x:Str} {p pos:Pos} {e:Expr} {es:List Expr} {t:TA} {c:Addr} {i:Nat}
theorem J5c(D:Def X.prog X.w X.K X.mg X.base CX0 j g ps sp)(hr:Bh k X.A)(hg:Gl X g)(ha:PA X (e::es) t)(hN:X.N[i]?=some x)(hk:X.env.scope.names.lookup x=some .cell)(hcx:X.env.cells.lookup x=some c)(hfn:X.fn x=true:=by rfl)(hj:j≤k:=by decide)
 (hdb:(g==("__debug__":Str))=false:=by decide) (he:starEach (e::es) X.env=(false,eval e X.env)::starEach es X.env:=by rfl) (hpl:(backTo pos (starEach es X.env)).any (·.1)=false:=by rfl):
 PE X (.Call (.Name g p) (e::es) [] pos) (J6s sp c i E t):=by
 obtain ⟨f,fd,F,hm,hkp,hb⟩:=D.ex;intro pins s σ H Q I h
 have fin:∀(us:List Value) (s2:Shared) (vs:List V) (H2:Hp),Inv X pins σ H2 s2→Ao vs us→(∃v,σ[i]?=some (some v)∧∀o u,o.data= .cell (some u)→An v u→H2 c=none→sp vs (upd H2 c (E5 c o)) (fun y H3=>H3 c=some (E5 c o)→Q y (unk H3 [c])) E)→wpAny (model X.prog X.w) X.A (call (.ref f) us) (EP X pins σ Q) X.xe s2:=fun us s2 vs H2 I2 r ⟨v,hv,q⟩=>by
  obtain ⟨m,hns,hloc⟩:=I2.loc;obtain ⟨u,ru,lk⟩:=hloc i x v hN hv (.inr (.inl hk))
  obtain ⟨o,ho,hd⟩:∃o,s2.heap.get? c=some o∧o.data= .cell (some u):=by
   rcases lk with ⟨z,_⟩ | ⟨_,c2,e,o,a,b⟩
   · have z:X.env.scope.names.lookup x=some .local:=z
     rw [hk]at z;cases z
   · rw [hcx]at e;cases e
     exact ⟨o,a,b⟩
  have fc:H2 c=none:=I2.freeC x c hcx;have cge:X.s₀.heap.objs.size≤c:=I2.ok.cab x c hfn hcx;have e0:=I2.env0
  have nf:c∉frs X.stack:=fun hb=>by
   rcases I2.ok.stk with z | ⟨z,z2⟩
   · rw [z]at hb
     obtain ⟨_,ob,e1,_⟩:=I2.ok.funs.mem hb;exact absurd (Fl e1) (Nat.not_lt.mpr cge)
   · rw [z]at hb
     unfold frs at hb;rw [R5,z2]at hb;rcases Fv.mp hb with w' | hb
     · obtain ⟨ob,es',ep,e1,d1,_⟩:=hns
       rw [← w',ho]at e1;cases e1;rw [hd]at d1;cases d1
     · obtain ⟨_,ob,e1,_⟩:=I2.ok.funs.mem hb
       exact absurd (Fl e1) (Nat.not_lt.mpr cge)
  have e1:K9 X.prog X.w X.K X.mg X.base X.A X.stack s2 (upd H2 c (E5 c o)):=by
   refine ⟨e0.frames,e0.mod,fun b ob q=>⟨(e0.bs b ob q).1,?_⟩,e0.bsz,e0.funs,fun b hb=>?_,e0.hok.lend fc ho,e0.bare⟩
   · have lb:b < c:=Fj (Fj (Fl q) I2.ok.bsz) cge
     rw [A3 (Fo lb)];exact (e0.bs b ob q).2
   · rw [A3 (fun z=>nf (by rw [← z];exact hb))];exact e0.frf b hb
  have hs:=q o u hd ru fc
  have hl:us.length=ps.length:=by rw [← r.length];exact F.len _ _ _ _ hs
  have hb':=hb s2 us I2.kIn (by simpa using hl);rw [FJ]at hb';refine HY (HI ((F.mono hj).run X.A X.stack s2 _ ⟨us,[]⟩ us vs _ E hr e1 hb' r hs) fun rr s' hq=>?_)
  cases rr with
  | error e=>exact False.elim hq
  | ok fl=>
   cases fl with
   | ret u'=>exact I2.after (CE.back fc ho nf hq)
   | next=>exact False.elim hq
   | brk=>exact False.elim hq
   | cont=>exact False.elim hq
 refine FZ (K4 I hg hm ?_ hdb);refine Hg (h₀:=X.base) I.ok.mod.kin hkp (thn (ha pos pins s σ H _ I h) fun us s1 ⟨vs,H1,I1,r,q⟩=>⟨I1.kIn,?_⟩) he hpl;exact fin us s1 vs H1 I1 r q
theorem X4{σ:St}{H:Hp}{Q:VK}:J6s sp c i E t σ H Q=t σ H fun vs H1=>∃v,σ[i]?=some (some v)∧∀o u,o.data= .cell (some u)→An v u→H1 c=none→sp vs (upd H1 c (E5 c o)) (fun y H2=>H2 c=some (E5 c o)→Q y (unk H2 [c])) E:=rfl
end
end L2
namespace L2
open PySem.W
def Ue(tps:List Addr)(H:Hp):Prop:=(∀t∈tps,H t=some (.tbl #[]))∧∀b,b∉tps→H b=none∨∃o xs,H b=some (.frz o (.lst xs))
theorem Ug{P:Program}{w:World}{K:PySem.W.Frag}{mg mb:Str→Option Value}{CX:CXT}{k:Nat}{fa a:Addr}{tps:List Addr}{fd:FuncData}{x:Str}{sp:Sp}{s₁:Shared}{vs:List Value}{ns:List Int}
 (KX:K.In s₁.heap) (hns:s₁.heap.Ns mainGlobals mg) (hb:s₁.heap.Ns builtinsNs mb) (hbb:∀x:Str,x≠"__name__"→mb x=bootBuiltins x) (hlim:s₁.heap.NoLimit) (hg:s₁.gens=#[])
 (ha:s₁.heap.get? a=some {cls:= .type "list",data:= .seq vs.toArray}) (hi:IntsAre vs ns) (hl:ns.length≤sizeLine) (hr:Bh k callerA)
 (hT:∀tp∈tps,s₁.heap.get? tp=some (tabObj #[])) (hct:∀tp∈tps,isCodeTable s₁.heap tp) (hKt:∀tp∈tps,K.lookup tp=none)
 (hbm:∃bm ob,mg "__builtins__"=some (.ref bm)∧bm≠builtinsNs∧s₁.heap.get? bm=some ob∧ob.cls= .type "module"∧ob.dict=some builtinsNs∧ob.data= .plain)
 (F:∀base:Heap,K.In base→base.Ns mainGlobals mg→(∀tp∈tps,base.BuiltinsAt mg tp)→Al P w K mg base CX k fa fd [x] sp) (hbind:∀(s:Shared) (u:Value),BindsTo s fd ⟨[u],[]⟩ [(x,u)])
 (hsp:∀H:Hp,Ue tps H→SqL K H a (ns.map V.int)→sp [.ref a] H (fun v _=>v= .bl true) fun _ _ _=>False)
 (hCX:∀H e s',CX [] H s₁ (fun _ _ _=>False) e s'→False):
 codeAny (model P w) callerA (.call (.ref fa) ⟨[.ref a],[]⟩) (fun r s'=>r= .ok (.ret (.bool true))∧OldK s₁.heap s'.heap∧s'.os=s₁.os∧AllBare s'.gens) s₁:=by
 have rv:=Nr hi;have lenV:=hi.length
 have nta:a∉tps:=fun e=>by have:=hT a e;rw [ha]at this;cases this
 have core:∀H:Hp,Ue tps H→SqL K H a (ns.map V.int)→HOk P w H s₁.heap→(∀b,b∉tps→H b≠none→b=a∧K.lookup a=none)→
  codeAny (model P w) callerA (.call (.ref fa) ⟨[.ref a],[]⟩) (fun r s'=>r= .ok (.ret (.bool true))∧OldK s₁.heap s'.heap∧s'.os=s₁.os∧AllBare s'.gens) s₁:=by
  intro H hO hS hok hA
  have off:∀{b:Addr} {o:Obj} {es:Array DictEntry} {ep:Nat},s₁.heap.get? b=some o→o.data= .dict es ep→H b=none:=fun {b o es ep} e d=>by
   by_cases h1:b∈tps
   · rw [hT b h1]at e;cases e;cases d
   · cases q:H b with
     | none=>rfl
     | some u=>
      obtain ⟨e',_⟩:=hA b h1 (by rw [q];simp);subst e';rw [ha]at e;cases e;cases d
  have nsT:∀{b:Addr} {m:Str→Option Value},s₁.heap.Ns b m→(Oi s₁.heap H).Ns b m:=fun {b m} ⟨o,es,ep,e,d,r⟩=>⟨o,es,ep,M6 e (off e d),d,r⟩
  have inT:K.In (Oi s₁.heap H):=fun b o e=>M6 (KX b o e) (by
   by_cases h1:b∈tps
   · rw [hKt b h1]at e;cases e
   · cases q:H b with
     | none=>rfl
     | some u=>
      obtain ⟨e',hk⟩:=hA b h1 (by rw [q];simp)
      subst e';rw [hk]at e;cases e)
  have mT:Mod K mg (Oi s₁.heap H):=⟨inT,nsT hns,⟨mb,nsT hb,hbb⟩,let ⟨mc,h1,h2⟩:=hlim;⟨mc,nsT h1,h2⟩⟩
  have e0:K9 P w K mg (Oi s₁.heap H) callerA [] s₁ H:=⟨rfl,mT,fun b o e=>J3x e,R6 (Xd _ _),trivial,fun b hb=>absurd (show b∈([]:List Addr) from hb) (by simp),hok,.of_eq hg⟩
  have bT:∀tp∈tps,(Oi s₁.heap H).BuiltinsAt mg tp:=fun tp htp=>by
   obtain ⟨bm,ob,m1,m2,m3,m4,m5,m6⟩:=hbm
   have ntp:bm∉tps:=fun e=>by rw [hT bm e]at m3;cases m3;cases m4
   refine ⟨bm,ob,m1,m2,fun e=>?_,fun e=>ntp (e▸htp),M6 m3 ?_,m4,m5,m6⟩
   · obtain ⟨o,es,ep,e1,d1,_⟩:=hns
     rw [← e,m3]at e1;cases e1;rw [m6]at d1;cases d1
   · cases q:H bm with
     | none=>rfl
     | some u=>
      obtain ⟨e',_⟩:=hA bm ntp (by rw [q];simp);rw [e',ha]at m3;cases m3;cases m6
  refine HI ((F _ inT (nsT hns) bT).run callerA [] s₁ H ⟨[.ref a],[]⟩ [.ref a] [.ref a] _ _ hr e0 (hbind s₁ (.ref a)) (.cons rfl .nil) (hsp H hO hS)) fun r s' h=>?_
  cases r with
  | error e=>exact (hCX H e s' h).elim
  | ok fl=>
   cases fl with
   | next=>exact False.elim h
   | brk=>exact False.elim h
   | cont=>exact False.elim h
   | ret u=>
    obtain ⟨v,H',os,bare,un,hok',r',q⟩:=h;obtain rfl:v= .bl true:=q;obtain rfl:u=Value.bool true:=r'
    have kp:∀b o,b∉tps→s₁.heap.get? b=some o→s'.heap.get? b=some o:=fun b o nb e=>by
     cases q:H b with
     | none=>exact un.keep b o e q (by intro z;exact absurd (show b∈([]:List Addr) from z) (by simp)) (by simp)
     | some u=>
      rcases hO.2 b nb with z | ⟨ob,xs,z⟩
      · rw [q]at z;cases z
      · obtain ⟨e1,_⟩:=hok b _ z
        obtain ⟨e2,_⟩:=hok' b _ (un.frzs b ob _ z);rw [e]at e1;cases e1;exact e2
    have tT:∀tp∈tps,∃more,s'.heap.get? tp=some {cls:= .none,data:= .fields (#[]++more)}:=fun tp htp=>by
     obtain ⟨more,hm⟩:=un.tbls tp #[] (hO.1 tp htp);exact ⟨more,hok' tp _ hm⟩
    refine ⟨rfl,⟨fun b o e=>?_,fun b o e=>?_⟩,os,bare⟩
    · by_cases nb:b∈tps
      · rw [hT b nb]at e;cases e
        obtain ⟨more,tT⟩:=tT b nb;exact .inr (.inl ⟨hct b nb,rfl,#[],more,rfl,tT⟩)
      · exact .inl (kp b o nb e)
    · by_cases nb:b∈tps
      · obtain ⟨more,tT⟩:=tT b nb;exact ⟨_,tT⟩
      · exact ⟨o,kp b o nb e⟩
 have tOk:∀H:Hp,∀tp∈tps,Bd P w H s₁.heap tp (.tbl #[]):=fun H=>hT
 cases hk:K.lookup a with
 | some o=>
  have e:=KX a o hk;rw [ha]at e;cases e;refine core (fun b=>if b∈tps then some (.tbl #[]) else none) ⟨fun t ht=>if_pos ht,fun b nb=> .inl (if_neg nb)⟩ (.inr ⟨_,vs.toArray,_,hk,rfl,rfl,rfl,by rw [Fn,lenV];exact hl,by simpa using rv⟩) (fun b u z=>?_) (fun b nb z=>absurd (if_neg nb) z)
  by_cases h1:b∈tps
  · have z':=(if_pos h1).symm.trans z
    cases z';exact tOk _ b h1
  · have z':=(if_neg h1).symm.trans z
    cases z'
 | none=>
  refine core (fun b=>if b∈tps then some (.tbl #[]) else if b=a then some (.frz {cls:= .type "list",data:= .seq vs.toArray} (.lst (ns.map V.int))) else none) ⟨fun t ht=>if_pos ht,fun b nb=>?_⟩ (.inl (.inr ⟨{cls:= .type "list",data:= .seq vs.toArray},(if_neg nta).trans (if_pos rfl)⟩)) (fun b u z=>?_) (fun b nb z=>⟨?_,hk⟩)
  · by_cases h2:b=a
    · exact .inr ⟨_,_,(if_neg nb).trans (if_pos h2)⟩
    · exact .inl ((if_neg nb).trans (if_neg h2))
  · by_cases h1:b∈tps
    · have z':=(if_pos h1).symm.trans z
      cases z';exact tOk _ b h1
    · have z1:=(if_neg h1).symm.trans z
      by_cases h2:b=a
      · have z':=(if_pos h2).symm.trans z1
        cases z';subst h2;exact ⟨ha,by rw [Fa];exact hl,vs,_,rv,ha⟩
      · have z':=(if_neg h2).symm.trans z1
        cases z'
  · by_cases h2:b=a
    · exact h2
    · exact absurd ((if_neg nb).trans (if_neg h2)) z
theorem Uh{l:PySem.W.OpenLaw}{n k:Nat}{q:Program}{loose:List Str}{XP:(Str→Option Value)→Heap→Prop}{YP:World→Heap→Prop}{d:DefRec}{K:Params→PySem.W.Frag}{CX:CXT}{sp:PySem.W.Frag→Sp}{x:Str}{tps:List Addr}
 (hn:l.most=some n) (hn2:n≤sizeLine) (hdf:d.params.defaults=[]) (hr:Bh k callerA)
 (hY:∀(w:World) (h:Heap),YP w h→(K w.params).In h) (hT:∀(w:World) (h:Heap),YP w h→∀tp∈tps,h.get? tp=some (tabObj #[])) (hKt:∀w:World,∀tp∈tps,(K w.params).lookup tp=none)
 (F:∀(w:World) (mg:Str→Option Value) (fa:Addr) (h:Heap),(K w.params).In h→h.Ns mainGlobals mg→mg d.name=some (.ref fa)→
  (∀tp∈tps,∃c,codeHdIn (K w.params) c tp=true)∧∃fd:FuncData,(∀(s:Shared) (u:Value),BindsTo s fd ⟨[u],[]⟩ [(x,u)])∧
   ∀base:Heap,(K w.params).In base→base.Ns mainGlobals mg→(∀tp∈tps,base.BuiltinsAt mg tp)→Al l.prog w (K w.params) mg base CX k fa fd [x] (sp (K w.params)))
 (hsp:∀(K:PySem.W.Frag) (H:Hp) (a:Addr) (ns:List Int),ns.length≤n→Ue tps H→SqL K H a (ns.map V.int)→sp K [.ref a] H (fun v _=>v= .bl true) fun _ _ _=>False)
 (hCX:∀(H:Hp) (s:Shared) (e:Value) (s':Shared),CX [] H s (fun _ _ _=>False) e s'→False):
 PySem.W.WalkO q loose XP YP l.row.toRowW d [] (fun f vs=>PySem.call f vs):=by
 refine Att.Q9 hn hdf fun w s₀ s₁ mg mb fa o pm cd doc a vs ns G Y ho hd hcd hmg hobj hints hlen hg=>?_;have KX:=hY w _ Y;obtain ⟨hcs,fd,hb,hF⟩:=F w mg fa _ KX G.T.g hmg
 have hct:∀tp∈tps,isCodeTable s₁.heap tp:=fun tp htp=>by
  obtain ⟨c,hc⟩:=hcs tp htp;obtain ⟨o,vs,f,tf,fl,tg,b,n,tt,e1,e2,e3,e4,_⟩:=codeHd_of_K KX hc;exact ⟨c,o,vs,e1,e2,e3,e4⟩
 exact Ug KX G.T.g G.T.b G.T.builtins G.T.nolimit hg hobj hints (FG hlen hn2) hr (hT w _ Y) hct (hKt w) G.T.bmain hF hb (fun H hO hS=>hsp (K w.params) H a ns hlen hO hS) fun H e s'=>hCX H s₁ e s'
theorem alln{p:Addr→Prop}:∀t∈([]:List Addr),p t:=fun _ h=>by cases h
theorem allc{p:Addr→Prop}{a:Addr}{l:List Addr}(h:p a)(r:∀t∈l,p t):∀t∈a::l,p t:=fun t ht=>by
 rcases Fv.mp ht with e | ht
 · rw [e];exact h
 · exact r t ht
end L2
namespace NPb
open L2 N1 N5 N53 N51 N55 N32 N41
def spW(zs:List Str)(g:Str→Int):Sp:=fun vs H Q _=>∃z,vs=[.str z]∧z∈zs∧∀H',A7 H H'→Q (.int (g z)) H'
structure Wg(P:Program)(w:World)(K:PySem.W.Frag)(mg:Str→Option Value)(base:Heap) where
 f:Addr
 J:Hp→Prop
 zs:List Str
 g:Str→Int
 ok:Ln P w K mg base CX0 4 f J (spW zs g)
 keep:∀{H H':Hp},A7 H H'→J H→J H'
def wsm(g:Str→Int)(bs:List Bk5):Int:=((bs.filter fun r=>!r.2.2.1).map fun r=>g r.2.1).sum
def nmV(H:Hp):V→Str
 | .ref t=>match H t with
  | some (.tup [.str z,.bl _,.ref _])=>z
  | _=>""
 | _=>""
theorem J3r{H:Hp}{t g:Addr}{y:Str}{b:Bool}(h:H t=some (.tup [.str y,.bl b,.ref g])):nmV H (.ref t)=y:=by
 show (match H t with | some (.tup [.str z,.bl _,.ref _])=>z | _=>("":Str))=y;rw [h]
theorem J5d{H:Hp}{g:Str→Int}{bs:List Bk5}(h:∀r∈bs,H r.1=some (.tup [.str r.2.1,.bl r.2.2.1,.ref r.2.2.2])):(((bs.map fun r=>V.ref r.1).filter (J8i H)).map fun x=>V.int (g (nmV H x)))=((bs.filter fun r=>!r.2.2.1).map fun r=>g r.2.1).map V.int:=by
 induction bs with
 | nil=>rfl
 | cons r bs ih=>
  have hr:=h r Fu;have e:=Pt hr;have e2:=J3r hr;have ih':=ih fun x hx=>h x (Fk _ hx);rw [List.map_cons,Rg,Rg,e]
  by_cases hb:(!r.2.2.1)=true
  · rw [if_pos hb,if_pos hb,List.map_cons,List.map_cons,List.map_cons,ih',e2]
  · rw [if_neg hb,if_neg hb,ih']
def Dz(P:Program)(w:World)(K:PySem.W.Frag)(mg:Str→Option Value)(base:Heap):Sp:=fun vs H Q _=>∃(p:Addr) (b:Wg P w K mg base) (bs:List Bk5),vs=[.ref p,.ref b.f]∧Lq H p bs∧bs.length≤250∧(∀r∈bs,r.2.2.1=false→r.2.1∈b.zs)∧b.J H∧∀H',A7 H H'→Q (.int (wsm b.g bs)) H'
def Dm(tp:Addr)(pos:Pos)(qual:Str):Sp:=fun vs H Q _=>∃(p:Addr) (bs:List Bk5),vs=[.ref p]∧Lq H p bs∧bs.length≤250∧Bc tp pos qual H∧∀H',Tk tp pos qual H H'→Q (.int (wsm (fun _=>1) bs)) H'
def Gk(tp:Addr)(pos:Pos)(qual:Str)(K:PySem.W.Frag)(C:Addr):Sp:=fun vs H Q _=>∃(st p:Addr) (ts:List Th) (bs:List Bk5),vs=[.ref st,.ref p]∧Af K C H st ts∧(ts.map (·.1)).Nodup∧Lq H p bs∧bs.length≤250∧(∀r∈bs,r.2.1∈ts.map (·.1))∧Bc tp pos qual H∧
 ∀H',Tk tp pos qual H H'→Q (.int (wsm (cst ts) bs)) H'
def Odd(u:HO):Prop:=(∃ps,u= .tbl ps)∨∃c o,u=E5 c o
theorem SqT.odd{K:PySem.W.Frag}{H H':Hp}{p a:Addr}{u:HO}{xs:List V}(s:SameBut p H H')(hp:H p=some u)(hu:Odd u)(h:SqT K H a xs):SqT K H' a xs:=by
 rcases h with (h | ⟨o,h⟩) | h
 · refine .inl (.inl (s _ _ h (Bt h hp fun z=>?_)))
   rcases hu with ⟨_,e⟩ | ⟨_,_,e⟩ <;> rw [e]at z <;> cases z
 · refine .inl (.inr ⟨o,s _ _ h (Bt h hp fun z=>?_)⟩)
   rcases hu with ⟨_,e⟩ | ⟨_,_,e⟩ <;> rw [e]at z <;> cases z
 · exact .inr h
theorem Af.odd{K:PySem.W.Frag}{C:Addr}{H H':Hp}{p st:Addr}{u:HO}{ts:List Th}(s:SameBut p H H')(hp:H p=some u)(hu:Odd u)(h:Af K C H st ts):Af K C H' st ts:=by
 obtain ⟨dx,d,kvs,h1,h2,h3,h4⟩:=h.ex;refine ⟨dx,d,kvs,s _ _ h1 (Bt h1 hp fun z=>?_),s _ _ h2 (Bt h2 hp fun z=>?_),h3,fun i t e=>?_⟩
 · rcases hu with ⟨_,e⟩ | ⟨_,_,e⟩ <;> rw [e]at z <;> cases z
 · rcases hu with ⟨_,e⟩ | ⟨_,_,e⟩ <;> rw [e]at z <;> cases z
 · obtain ⟨a,e1,e2⟩:=h4 i t e
   exact ⟨a,e1,SqT.odd s hp hu e2⟩
theorem J5e{H:Hp}{c:Addr}:SameBut c H (unk H [c]):=fun b o e n=>by
 rw [C4 fun z=>n (Fh.mp z)];exact e
theorem N7{H:Hp}{as:List Addr}:retr (unk H as) H as=H:=by
 funext b
 by_cases z:b∈as
 · rw [Ii z]
 · rw [D1 z,C4 z]
def J6t(e:Expr)(i:Nat):Expr:=match e with
 | .Call _ as _ _=>as.getD i e
 | _=>e
def PJ(L:Ni)(K:PySem.W.Frag)(C f c st:Addr)(ts:List Th)(H:Hp):Prop:=Mz L [("stock",c)] H f∧Ca H [("stock",c)] [V.ref st]∧Af K C H st ts
theorem PJ.same{L:Ni}{K:PySem.W.Frag}{C f c st:Addr}{ts:List Th}{H H':Hp}(s:A7 H H')(h:PJ L K C f c st ts H):PJ L K C f c st ts H':=⟨h.1.same s,h.2.1.same s,h.2.2.same s⟩
theorem lent{tp:Addr}{pos:Pos}{qual:Str}{H H2 H3:Hp}{c:Addr}{o:Obj}(t:Tk tp pos qual H H2)(n:H2 c=none)(sm:A7 (upd H2 c (E5 c o)) H3):Tk tp pos qual H (unk H3 [c]):=by
 have up:∀b u,H2 b=some u→unk H3 [c] b=some u:=fun b u e=>by
  have nb:b≠c:=A8 e n;rw [C4 fun z=>nb (Fh.mp z)];exact sm _ _ (by rw [A3 nb];exact e)
 exact t.trans (Tk.of t.lam fun b u e=>up b u e)
end NPb
namespace N81
open L2 N1 N5 N4 N6 N12 N32 N14 N18 N20 N25 NR N22 N21 N28 N55 N64 N54 NPb NTx N85
structure C2 where
 ol:Addr
 fi:Addr
def T81(c:C2):Bool→Ae
 | true=>T2 c.ol
 | false=>T1 c.fi
def z81(c:C2):(b:Bool)→(T81 c b).St
 | true=>s20
 | false=>(⟨0,[],[]⟩:S1)
theorem Oh{c:C2}{ns:List Str}{n:Int}{b:Bool}:(T81 c b).inv ns n (z81 c b) []:=by
 cases b with
 | true=>exact (⟨Ct.nil,by simp,List.Pairwise.nil⟩:LI ns s20 [])
 | false=>exact ⟨Ct.nil,Ct.nil,by simp,List.Pairwise.nil⟩
theorem Jat{c:C2}{b:Bool}:(T81 c b).cnt (z81 c b)=0:=by cases b <;> rfl
def rl:Bool→Str
 | true=>Str.ofString "oldest"
 | false=>Str.ofString "first"
def C2.d(m:C2):Bool→Addr
 | true=>m.ol
 | false=>m.fi
def rnm:Bool→Str
 | true=>Str.ofString "make_oldest"
 | false=>Str.ofString "make_first"
def Eu(c:C2)(b:Bool):Sp:=fun vs H Q _=>∃(st a:Addr) (n:Int),vs=[.ref st,.int n,.ref a]∧1≤n∧n≤1000000∧∀(q:Addr) (M:List Addr) (H':Hp),A7 H H'→(∀m∈M,H m=none)→(T81 c b).At H' M q st n (z81 c b)→Q (.ref q) H'
def Dc(m:C2):Sp:=fun vs H Q _=>∃b:Bool,vs=[.str (rl b)]∧Q (.ref (m.d b)) H
theorem J6u{R:Str→Int}:∀{l ns:List Str},l.Nodup→(∀y∈l,y∈ns)→(∀y∈ns,0≤R y)→N41.sm R l≤N41.sm R ns:=by
 intro l
 induction l with
 | nil=>intro ns _ _ h;rw [N41.D5];exact N41.Jak h
 | cons a l ih=>
  intro ns nd hs h0;have ha:=hs a Fu;have h1:=N41.J2l (f:=R) ha;have nd':=FO.mp nd;have h2:=ih (ns:=ns.erase a) nd'.2 (fun y hy=>(List.mem_erase_of_ne fun e=>nd'.1 (by rw [← e];exact hy)).mpr (hs y (Fk _ hy))) fun y hy=>h0 y (Hs hy);rw [N41.C9];omega
def foS(s:List Str)(z:Str):List Str:=if z∈s then s else s++[z]
def fo(ys:List Str):List Str:=ys.foldl foS []
theorem X5{ys:List Str}{z:Str}:fo (ys++[z])=foS (fo ys) z:=by unfold fo;rw [RE];rfl
theorem J8p{s:List Str}{z:Str}(h:s.Nodup):(foS s z).Nodup∧∀y,y∈foS s z↔y∈s∨y=z:=by
 unfold foS;split
 · rename_i m
   exact ⟨h,fun y=>⟨.inl,fun k=>k.elim id fun e=>by rw [e];exact m⟩⟩
 · rename_i m
   exact ⟨FV.mpr ⟨h,by simp,fun a ha b hb e=>m (by rw [Fh.mp hb]at e;rw [← e];exact ha)⟩,fun y=>by rw [FF,Fh]⟩
theorem J8q:∀{ys s:List Str},s.Nodup→(ys.foldl foS s).Nodup∧∀y,y∈ys.foldl foS s↔y∈s∨y∈ys:=by
 intro ys
 induction ys with
 | nil=>intro s h;exact ⟨h,fun y=>⟨.inl,fun k=>k.elim id fun m=>by cases m⟩⟩
 | cons z ys ih=>
  intro s h;have h1:=J8p (z:=z) h;have h2:=ih h1.1;refine ⟨h2.1,fun y=>?_⟩;show y∈ys.foldl foS (foS s z)↔_;rw [h2.2,h1.2,Fv];constructor
  · rintro ((k | k) | k)
    · exact .inl k
    · exact .inr (.inl k)
    · exact .inr (.inr k)
  · rintro (k | k | k)
    · exact .inl (.inl k)
    · exact .inl (.inr k)
    · exact .inr k
theorem X6{ys:List Str}:(fo ys).Nodup∧∀y,y∈fo ys↔y∈ys:=by
 have h:=J8q (ys:=ys) (s:=[]) Ho
 exact ⟨h.1,fun y=>by
  have:=h.2 y;unfold fo;rw [this]
  exact ⟨fun k=>k.elim (fun m=>by cases m) id,.inr⟩⟩
section
variable {T:Ae} {R:Str→Int} {n:Int} {s0:T.St} {ys ns:List Str} {z:Str}
theorem Tc{s:T.St×List Str}(h:GI T ns n s)(hz:z∈ns)(h0:∀y∈ns,0≤R y)(hs:N41.sm R ns≤n):(gask T R n s z).2=(z,decide (z∈s.2),[])∧(gask T R n s z).1.2=foS s.2 z:=by
 unfold gask foS
 by_cases m:z∈s.2
 · rw [if_pos m,if_pos m]
   exact ⟨by rw [FA m],rfl⟩
 · have h1:=J6u (R:=R) (l:=s.2++[z]) (ns:=ns) (FV.mpr ⟨h.nd,by simp,fun a ha b hb e=>m (by rw [Fh.mp hb]at e;rw [← e];exact ha)⟩) (fun y hy=>by
    rcases FF.mp hy with k | k
    · exact h.s y k
    · rw [Fh.mp k];exact hz) h0
   rw [N41.J2k,N41.C9,N41.D5]at h1;rw [if_neg m,if_neg m,Lc (by omega)];exact ⟨by rw [Fw m],rfl⟩
theorem X7(i0:T.inv ns n s0 [])(hin:∀y∈ys,y∈ns)(h0:∀y∈ns,0≤R y)(hR:∀y∈ys,R y≤n)(hs:N41.sm R ns≤n):∀i,i≤ys.length→(gst T R n s0 ys i).2=fo (ys.take i):=by
 intro i
 induction i with
 | zero=>intro _;rw [List.take_zero];rfl
 | succ i ih=>
  intro hi;have hz:ys[i]?=some (ys[i]'(by omega)):=Fb (by omega);have gi:=Kn (T:=T) (R:=R) (n:=n) (s0:=s0) i0 hin hR i (by omega);rw [Gg hz,(Tc gi (hin _ (Ff hz)) h0 hs).2,ih (by omega),FQ,hz];exact X5.symm
theorem J3s(i0:T.inv ns n s0 [])(hin:∀y∈ys,y∈ns)(h0:∀y∈ns,0≤R y)(hR:∀y∈ys,R y≤n)(hs:N41.sm R ns≤n){i:Nat}(hz:ys[i]?=some z):NR.grow T R n s0 ys i=(z,decide (z∈fo (ys.take i)),[]):=by
 have hi:=(Fi.mp hz).1;rw [Pm hz,(Tc (Kn (T:=T) (R:=R) (n:=n) (s0:=s0) i0 hin hR i (by omega)) (hin _ (Ff hz)) h0 hs).1,X7 i0 hin h0 hR hs i (by omega)]
end
def bwd(ys:List Str)(i:Nat):Str:=ys.getD i Str.empty++(if ys.getD i Str.empty∈fo (ys.take i) then Str.ofString "+" else Str.ofString "-")
def bws(ys:List Str):List Str:=(List.range ys.length).map (bwd ys)
def bkT(ys:List Str):Str:=if ys=[] then Str.ofString "none" else Txt.join (Str.ofString " ") (bws ys)
def rnT(C:Str→Int)(ys:List Str):Str:=Txt.join (Str.ofString " ") ([Str.ofString "missed",nT ((fo ys).length:Nat),Str.ofString "paid",nT (N41.sm C (fo ys)),Str.ofString "left"]++fo ys)
def Jbf(m:Nat):Str:=Str.ofString "row "++nT (m:Nat)
inductive W81 | thing | ask | again | run | book
def wd1:W81→Str
 | .thing=>Str.ofString "thing" | .ask=>Str.ofString "ask" | .again=>Str.ofString "again" | .run=>Str.ofString "run" | .book=>Str.ofString "book"
def fm1:W81→List Str
 | .thing=>[Str.ofString "NAME",Str.ofString "COST",Str.ofString "ROOM"] | .ask=>[Str.ofString "NAME",Str.ofString ".."] | .again=>[]
 | .run=>[Str.ofString "RULE",Str.ofString "PLACES"] | .book=>[Str.ofString "RULE",Str.ofString "PLACES"]
def Wd1(m:C2)(k w:Str)(v:V):Prop:=(k=Str.ofString "NAME"∧B9 w.cps.toList=true∧v= .str w)∨(k=Str.ofString "RULE"∧∃b,w=rl b∧v= .ref (m.d b))∨(k≠Str.ofString "NAME"∧k≠Str.ofString "RULE"∧Qz w.cps.toList=true∧v= .int (Y3 w.cps.toList))
structure L81 where
 b:W81
 ws:List Str
 vs:List V
structure L81.ok(m:C2)(l:L81):Prop where
 k:(Bg (fm1 l.b) l.ws.length).length=l.ws.length
 v:l.vs.length=l.ws.length
 n:l.ws.length≤100
 w:∀(i:Nat) k w v,(Bg (fm1 l.b) l.ws.length)[i]?=some k→l.ws[i]?=some w→l.vs[i]?=some v→Wd1 m k w v
def L81.txt(l:L81):Str:=Txt.join (Str.ofString " ") (wd1 l.b::l.ws)
theorem Jau(b:Bool):1≤(rl b).cps.toList.length∧(rl b).cps.toList.length≤31∧32∉(rl b).cps.toList:=by cases b <;> decide+kernel
theorem L81.ok.word{m:C2}{l:L81}(h:l.ok m){w:Str}(hw:w∈l.ws):1≤w.cps.toList.length∧w.cps.toList.length≤31∧32∉w.cps.toList:=by
 obtain ⟨i,hi⟩:=FC.mp hw;have hil:=(Fi.mp hi).1
 obtain ⟨k,hk⟩:∃k,(Bg (fm1 l.b) l.ws.length)[i]?=some k:=⟨_,Fb (by rw [h.k];exact hil)⟩
 obtain ⟨v,hv⟩:∃v,l.vs[i]?=some v:=⟨_,Fb (by rw [h.v];exact hil)⟩
 rcases h.w i k w v hk hi hv with ⟨_,h1,_⟩ | ⟨_,b,rfl,_⟩ | ⟨_,_,h1,_⟩
 · obtain ⟨a,b⟩:=Da h1
   exact ⟨a,by omega,fun hc=>by have:=Yi h1 hc;omega⟩
 · exact Jau b
 · obtain ⟨a,b,c⟩:=J3o h1
   exact ⟨a,b,fun hc=>by have:=c _ hc;omega⟩
theorem J3t(b:W81):(wd1 b).cps.toList.length≤6∧1≤(wd1 b).cps.toList.length∧32∉(wd1 b).cps.toList:=by cases b <;> decide+kernel
theorem Ui(b:W81):(fm1 b).length≤4∧(Str.ofString ".."∈fm1 b→1≤(fm1 b).length):=by cases b <;> exact ⟨by decide,fun _=>by first | decide | (rename_i h;exact absurd h (by decide))⟩
theorem L81.ok.split{m:C2}{l:L81}(h:l.ok m):Txt.split l.txt (Str.ofString " ")=wd1 l.b::l.ws:=by
 have e:l.txt=Str.join (Str.ofString " ") (wd1 l.b::l.ws):=StrLaws.glued_eq_join _ _;rw [e];refine Uc (c:=32) (r:=[]) (by decide+kernel) (by decide+kernel) (by simp) fun p hp=>?_;rcases Fv.mp hp with k | k
 · rw [k];exact (J3t l.b).2.2
 · exact (h.word k).2.2
theorem L81.ok.long{m:C2}{l:L81}(h:l.ok m):l.txt.length≤4000:=by
 have e:l.txt=Str.join (Str.ofString " ") (wd1 l.b::l.ws):=StrLaws.glued_eq_join _ _;rw [e]
 have h1:=Of (y:=Str.ofString " ") (b:=31) (ps:=wd1 l.b::l.ws) fun p hp=>by
  rw [← Bm];rcases Fv.mp hp with k | k
  · rw [k];have:=(J3t l.b).1;omega
  · exact (h.word k).2.1
 have h2:(Str.ofString " ").length=1:=by decide+kernel
 rw [h2,List.length_cons]at h1;have:=h.n;omega
def Pu(P:Params)(K:PySem.W.Frag)(xF:Addr)(b:W81):Prop:=∃a:Addr,Nh P K xF (wd1 b) (some (.ref a))∧∀H:Hp,SqT K H a ((fm1 b).map V.str)
theorem Gp{P:Params}{K:PySem.W.Frag}{xF a:Addr}{b:W81}{es:Array DictEntry}{n nU:Nat}{dU:Option Addr}{its:Array Value}{sU:Array (Option Value)}(lo:(xF==sysModules)=false)(hl:K.lookup xF=some ⟨.type "dict",none,.dict es n,#[]⟩)(hk:PySem.W.KeysLit P es.toList)(e:PySem.W.nsIn K xF (wd1 b)=some (some (.ref a)))(lU:K.lookup a=some ⟨.type "tuple",dU,.seq its nU,sU⟩)(v:Ao ((fm1 b).map V.str) its.toList):Pu P K xF b:=
 ⟨a,Dy lo hl hk e ⟨_,rfl,rfl⟩,fun H=> .inr ⟨_,_,_,lU,rfl,rfl,(by have:=Bl;have h1:=v.length;rw [Fa]at h1;have h2:=(Ui b).1;rw [← FE];omega),v⟩⟩
def Im(m:C2):Sp:=fun vs H Q _=>∃(k w:Str) (v:V),vs=[.str k,.str w]∧Wd1 m k w v∧∀H',A7 H H'→Q v H'
def Io(m:C2):Sp:=fun vs H Q _=>∃l:L81,vs=[.str l.txt]∧l.ok m∧∀(t g:Addr) (H':Hp),A7 H H'→H t=none→H g=none→t≠g→H' t=some (.tup [.str (wd1 l.b),.ref g])→H' g=some (.lst l.vs)→Q (.ref t) H'
theorem Lg{m:C2}{k:Str}{c:Int}(hk:k≠Str.ofString "NAME"∧k≠Str.ofString "RULE")(h0:0≤c)(h1:c≤10 ^ 30):Wd1 m k (nT c) (.int c):=by
 have h:=Ta h0 (HK h1 (by decide));exact .inr (.inr ⟨hk.1,hk.2,h.1,by rw [show nT c=Str.ofString (toString c) from rfl,h.2]⟩)
def lnR(m:C2)(w:W81)(b:Bool)(n:Int):L81:=⟨w,[rl b,nT n],[.ref (m.d b),.int n]⟩
theorem Pw{m:C2}{w:W81}{b:Bool}{n:Int}(hw:w= .run∨w= .book)(h0:0≤n)(h1:n≤10 ^ 30):(lnR m w b n).ok m:=by
 have ek:Bg (fm1 w) 2=[Str.ofString "RULE",Str.ofString "PLACES"]:=by rcases hw with rfl | rfl <;> decide+kernel
 refine ⟨by show (Bg (fm1 w) 2).length=2;rw [ek];rfl,rfl,by show 2≤100;decide,fun i k w' v e1 e2 e3=>?_⟩;have e1':(Bg (fm1 w) 2)[i]?=some k:=e1;rw [ek]at e1'
 match i,e1',e2,e3 with
 | 0,e1',e2,e3=>cases e1';cases e2;cases e3;exact .inr (.inl ⟨rfl,b,rfl,rfl⟩)
 | 1,e1',e2,e3=>cases e1';cases e2;cases e3;exact Lg ⟨by decide+kernel,by decide+kernel⟩ h0 h1
 | i+2,e1',_,_=>cases e1'
theorem X8{m:C2}{w:W81}{b:Bool}:(lnR m w b 1000000).txt=wd1 w++Str.ofString " "++(rl b++Str.ofString " 1000000"):=by
 show Txt.join (Str.ofString " ") [wd1 w,rl b,nT 1000000]=_;rw [J8o,Str.append_assoc (rl b),show Str.ofString " "++nT 1000000=Str.ofString " 1000000" by decide+kernel]
def J3u(z:Str)(c r:Int):L81:=⟨.thing,[z,nT c,nT r],[.str z,.int c,.int r]⟩
theorem J5f{m:C2}{z:Str}{c r:Int}(h:B9 z.cps.toList=true)(h0:0≤c)(h1:c≤10 ^ 30)(r0:0≤r)(r1:r≤10 ^ 30):(J3u z c r).ok m:=⟨by show (Bg (fm1 .thing) 3).length=3;decide+kernel,rfl,by show 3≤100;decide,fun i k w v e1 e2 e3=>by
 have ek:Bg (fm1 (J3u z c r).b) (J3u z c r).ws.length=[Str.ofString "NAME",Str.ofString "COST",Str.ofString "ROOM"]:=by show Bg (fm1 .thing) 3=_;decide+kernel
 rw [ek]at e1
 match i,e1,e2,e3 with
 | 0,e1,e2,e3=>cases e1;cases e2;cases e3;exact .inl ⟨rfl,h,rfl⟩
 | 1,e1,e2,e3=>cases e1;cases e2;cases e3;exact Lg ⟨by decide+kernel,by decide+kernel⟩ h0 h1
 | 2,e1,e2,e3=>cases e1;cases e2;cases e3;exact Lg ⟨by decide+kernel,by decide+kernel⟩ r0 r1
 | i+3,e1,_,_=>cases e1⟩
theorem J3v{z:Str}{c r:Int}:(J3u z c r).txt=Str.ofString "thing "++z++Str.ofString " "++nT c++Str.ofString " "++nT r:=by
 show Txt.join (Str.ofString " ") [wd1 .thing,z,nT c,nT r]=_;rw [Jbe];show Str.ofString "thing"++Str.ofString " "++(z++Str.ofString " "++(nT c++Str.ofString " "++nT r))=_;rw [show Str.ofString "thing"++Str.ofString " "=Str.ofString "thing " by decide+kernel];simp only [Str.append_assoc]
def lnA(zs:List Str):L81:=⟨.ask,zs,zs.map V.str⟩
theorem J8r{m:C2}{zs:List Str}(h1:1≤zs.length)(h2:zs.length≤100)(h:∀z∈zs,B9 z.cps.toList=true):(lnA zs).ok m:=by
 have ek:Bg (fm1 .ask) zs.length=List.replicate zs.length (Str.ofString "NAME"):=by
  unfold Bg;rw [if_pos (by decide+kernel),Nat.max_eq_right h1];rfl
 refine ⟨by show (Bg (fm1 .ask) zs.length).length=zs.length;rw [ek,List.length_replicate],Fa ..,h2,fun i k w v e1 e2 e3=>?_⟩;have e1':(Bg (fm1 .ask) zs.length)[i]?=some k:=e1;rw [ek]at e1';have hk:=List.eq_of_mem_replicate (Ff e1');have e2':zs[i]?=some w:=e2;have e3':(zs.map V.str)[i]?=some v:=e3;rw [Fe,e2']at e3';cases e3';exact .inl ⟨hk,h w (Ff e2'),rfl⟩
theorem X9{zs:List Str}(h1:1≤zs.length):(lnA zs).txt=Str.ofString "ask "++Txt.join (Str.ofString " ") zs:=by
 have e:∀xs:List Str,Txt.join (Str.ofString " ") xs=Str.join (Str.ofString " ") xs:=fun xs=>StrLaws.glued_eq_join _ _
 cases zs with
 | nil=>cases h1
 | cons z zs=>
  show Txt.join (Str.ofString " ") (wd1 .ask::z::zs)=_;rw [e,e];show wd1 .ask++Str.ofString " "++Str.join (Str.ofString " ") (z::zs)=_;rw [show wd1 .ask++Str.ofString " "=Str.ofString "ask " by decide+kernel]
def ln0:L81:=⟨.again,[],[]⟩
theorem J8s{m:C2}:ln0.ok m:=⟨by show (Bg (fm1 .again) 0).length=0;decide+kernel,rfl,FB _,fun i k w v _ e2 _=>by cases e2⟩
theorem J5g:ln0.txt=Str.ofString "again":=Jbd
theorem J5h{α:Type}{f:Str→α}{L:List Str}:(List.range L.length).map (fun i=>f (L.getD i Str.empty))=L.map f:=by
 refine Ra fun i=>?_;rw [Fe,Fe]
 by_cases h:i < L.length
 · rw [HC h,Fb h]
   show some (f (L.getD i Str.empty))=_;rw [Fc,Fb h];rfl
 · rw [FS (by rw [FW];omega),FS (by omega)];rfl
structure Dk1(K:PySem.W.Frag)(D S:Addr)(H:Hp)(d st as:Addr)(ts:List Th)(ys:List Str):Prop where
 d:K3 D H d st as .non
 s:Af K S H st ts
 a:H as=some (.lst (ys.map V.str))
 nd:(ts.map (·.1)).Nodup
 l:ts.length≤59
 g:∀u∈ts,B9 u.1.cps.toList=true∧0≤u.2.1∧u.2.1≤10 ^ 30∧1≤u.2.2∧u.2.2≤1000
 y:∀y∈ys,y∈ts.map (·.1)
 yl:ys.length≤200
theorem Dk1.same{K:PySem.W.Frag}{D S:Addr}{H H':Hp}{d st as:Addr}{ts:List Th}{ys:List Str}(m:A7 H H')(h:Dk1 K D S H d st as ts ys):Dk1 K D S H' d st as ts ys:=⟨h.d.same m,h.s.same m,m _ _ h.a,h.nd,h.l,h.g,h.y,h.yl⟩
theorem N9{ts:List Th}{y:Str}(nd:(ts.map (·.1)).Nodup)(g:∀u∈ts,B9 u.1.cps.toList=true∧0≤u.2.1∧u.2.1≤10 ^ 30∧1≤u.2.2∧u.2.2≤1000)(h:y∈ts.map (·.1)):1≤rm ts y∧rm ts y≤1000:=by
 obtain ⟨u,hu,rfl⟩:=Fz.mp h;obtain ⟨i,hi⟩:=FC.mp hu;have e:rm ts u.1=u.2.2:=O9 nd hi;rw [e];exact (g u hu).2.2.2
theorem Td{ts:List Th}{y:Str}{n:Int}(nd:(ts.map (·.1)).Nodup)(g:∀u∈ts,B9 u.1.cps.toList=true∧0≤u.2.1∧u.2.1≤10 ^ 30∧1≤u.2.2∧u.2.2≤1000)(hs:N41.sm (rm ts) (ts.map (·.1))≤n)(h:y∈ts.map (·.1)):rm ts y≤n:=by
 have:=J6u (R:=rm ts) (l:=[y]) (ns:=ts.map (·.1)) (by simp) (fun z hz=>by rw [Fh.mp hz];exact h) fun z hz=>by have:=(N9 nd g hz).1;omega
 rw [N41.C9,N41.D5]at this;omega
theorem J6v{T:Ae}{s0:T.St}{ts:List Th}{ys:List Str}{n:Int}{i:Nat}{z:Str}(nd:(ts.map (·.1)).Nodup)(g:∀u∈ts,B9 u.1.cps.toList=true∧0≤u.2.1∧u.2.1≤10 ^ 30∧1≤u.2.2∧u.2.2≤1000)(hy:∀y∈ys,y∈ts.map (·.1))(hs:N41.sm (rm ts) (ts.map (·.1))≤n)(i0:T.inv (ts.map (·.1)) n s0 [])(hz:ys[i]?=some z):r6 T s0 ts n ys i=(z,decide (z∈fo (ys.take i)),[]):=
 J3s i0 hy (fun y h=>by have:=(N9 nd g h).1;omega) (fun y h=>Td nd g hs (hy y h)) hs hz
theorem Te{tm tp:Addr}{pm pp:Pos}{qm qp:Str}{H H':Hp}(t:Tk tm pm qm H H')(hm:Bc tm pm qm H)(h:Bc tp pp qp H)(n:tm≠tp):Bc tp pp qp H':=by
 rcases h with h | ⟨c,h,h'⟩
 · exact .inl (t.but _ _ h n.symm)
 · exact .inr ⟨c,t.but _ _ h n.symm,t.get hm h' fun ps z=>by unfold Ks at z;cases z⟩
theorem J3w{K:PySem.W.Frag}{tm:Addr}{pm:Pos}{qm:Str}{H H':Hp}{a:Addr}{xs:List V}(t:Tk tm pm qm H H')(hm:Bc tm pm qm H)(h:SqL K H a xs):SqL K H' a xs:=by
 rcases h with (h | ⟨o,h⟩) | h
 · exact .inl (.inl (t.lst hm h))
 · exact .inl (.inr ⟨o,t.get hm h fun ps z=>by cases z⟩)
 · exact .inr h
theorem J8t{K:PySem.W.Frag}{tm:Addr}{pm:Pos}{qm:Str}{H H':Hp}{a:Addr}{xs:List V}(t:Tk tm pm qm H H')(hm:Bc tm pm qm H)(h:SqT K H a xs):SqT K H' a xs:=by
 rcases h with (h | ⟨o,h⟩) | h
 · exact .inl (.inl (t.tup hm h))
 · exact .inl (.inr ⟨o,t.get hm h fun ps z=>by cases z⟩)
 · exact .inr h
theorem Xa{K:PySem.W.Frag}{tm:Addr}{pm:Pos}{qm:Str}{H H':Hp}{b:Addr}{as gs:List Addr}{rs:List N14.Row}(t:Tk tm pm qm H H')(hm:Bc tm pm qm H)(h:Ge K H b as gs rs):Ge K H' b as gs rs:=
 ⟨J3w t hm h.l,h.n,h.m,fun i a g r e1 e2 e3=>⟨J8t t hm (h.t i a g r e1 e2 e3).1,J3w t hm (h.t i a g r e1 e2 e3).2⟩⟩
theorem Dk1.tk{K:PySem.W.Frag}{D S tm:Addr}{pm:Pos}{qm:Str}{H H':Hp}{d st as:Addr}{ts:List Th}{ys:List Str}(t:Tk tm pm qm H H')(hm:Bc tm pm qm H)(h:Dk1 K D S H d st as ts ys):Dk1 K D S H' d st as ts ys:=by
 obtain ⟨ps,ht⟩:=Kt hm;obtain ⟨dx,fs,h1,h2⟩:=h.d.o;exact ⟨⟨⟨dx,fs,t.get hm h1 (fun ps z=>by cases z),h2⟩⟩,NPb.Af.odd t.but ht (.inl ⟨_,rfl⟩) h.s,t.lst hm h.a,h.nd,h.l,h.g,h.y,h.yl⟩
theorem Px{ys:List Str}{i:Nat}{z:Str}(h:ys[i]?=some z):fo (ys.take (i+1))=foS (fo (ys.take i)) z:=by rw [FQ,h];exact X5
theorem J6w{T:Ae}{s0:T.St}{ts:List Th}{ys:List Str}{n:Int}{as gs:List Addr}{g:Str→Int}(hr:∀(i:Nat) z,ys[i]?=some z→r6 T s0 ts n ys i=(z,decide (z∈fo (ys.take i)),[])):NPb.wsm g (mk5 T s0 ts n ys as gs)=N41.sm g (fo ys):=by
 have key:∀m,m≤ys.length→((((List.range m).map fun j=>((as.getD j 0,(r6 T s0 ts n ys j).1,(r6 T s0 ts n ys j).2.1,gs.getD j 0):N55.Bk5)).filter fun r=>!r.2.2.1).map fun r=>g r.2.1).sum=N41.sm g (fo (ys.take m)):=by
  intro m
  induction m with
  | zero=>intro _;rw [List.take_zero];rfl
  | succ m ih=>
   intro hm;have hz:ys[m]?=some (ys[m]'(by omega)):=Fb (by omega);rw [HR,Fp,List.filter_append,Fp,Rn,ih (by omega),Px hz];have e:=hr m _ hz;unfold foS
   by_cases k:(ys[m]'(by omega))∈fo (ys.take m)
   · rw [if_pos k]
     simp [e,k]
   · rw [if_neg k,N41.J2k,N41.C9,N41.D5]
     simp [e,k]
 have:=key ys.length (Fg _);rw [Hl]at this;exact this
theorem Dk1.sb{K:PySem.W.Frag}{D S b:Addr}{ps:Array Value}{H H':Hp}{d st as:Addr}{ts:List Th}{ys:List Str}(sb:SameBut b H H')(ht:H b=some (.tbl ps))(h:Dk1 K D S H d st as ts ys):Dk1 K D S H' d st as ts ys:=by
 obtain ⟨dx,fs,h1,h2⟩:=h.d.o
 have ne:∀c o,H c=some o→(∀ps,o≠ .tbl ps)→c≠b:=fun c o e n k=>by rw [k,ht]at e;cases e;exact n _ rfl
 exact ⟨⟨⟨dx,fs,sb _ _ h1 (ne _ _ h1 fun ps z=>by cases z),h2⟩⟩,NPb.Af.odd sb ht (.inl ⟨_,rfl⟩) h.s,sb _ _ h.a (ne _ _ h.a fun ps z=>by cases z),h.nd,h.l,h.g,h.y,h.yl⟩
theorem Dk1.kp{K:PySem.W.Frag}{D S tm tp:Addr}{pm pp:Pos}{qm qp:Str}{H H':Hp}{d st as:Addr}{ts:List Th}{ys:List Str}(kp:∀b o,H b=some o→b≠tm→b≠tp→H' b=some o)(hm:Bc tm pm qm H)(hp:Bc tp pp qp H)(n:tm≠tp)(h:Dk1 K D S H d st as ts ys):Dk1 K D S H' d st as ts ys:=by
 obtain ⟨ps,h1⟩:=Kt hm;obtain ⟨ps2,h2⟩:=Kt hp
 have a1:SameBut tm H (fun b=>if b=tp then H tp else H' b):=fun b o e nb=>by
  by_cases k:b=tp
  · show (if b=tp then H tp else H' b)=_
    rw [if_pos k,← k];exact e
  · show (if b=tp then H tp else H' b)=_
    rw [if_neg k];exact kp b o e nb k
 have a2:SameBut tp (fun b=>if b=tp then H tp else H' b) H':=fun b o e nb=>by
  have e':(if b=tp then H tp else H' b)=some o:=e;rw [if_neg nb]at e';exact e'
 exact (h.sb a1 h1).sb a2 (ps:=ps2) (by show (if tp=tp then H tp else H' tp)=_;rw [if_pos rfl];exact h2)
theorem J8u{tm tp:Addr}{pm pp:Pos}{qm qp:Str}{H H':Hp}(kp:∀b o,H b=some o→b≠tm→b≠tp→H' b=some o)(hm:Bc tm pm qm H)(hp:Bc tp pp qp H){c:Addr}{o:HO}(e:H c=some o)(n:∀ps,o≠ .tbl ps):H' c=some o:=kp c o e (Ub hm e n) (Ub hp e n)
theorem Dk1.but{K:PySem.W.Frag}{D S:Addr}{H H':Hp}{d d2 st as dx:Addr}{fs:List (Str×V)}{ts:List Th}{ys:List Str}(sb:SameBut d2 H H')(h2:H d2=some (.ins D dx fs))(hf:fs.lookup (Str.ofString "things")=none)(n:d≠d2)(h:Dk1 K D S H d st as ts ys):Dk1 K D S H' d st as ts ys:=by
 obtain ⟨dx',fs',h1,h3⟩:=h.d.o;refine ⟨⟨⟨dx',fs',sb _ _ h1 n,h3⟩⟩,?_,sb _ _ h.a (fun e=>by have h9:=h.a;rw [e,h2]at h9;cases h9),h.nd,h.l,h.g,h.y,h.yl⟩;exact ((Kv h.s h2 hf).off (H':=H') fun b o e nb=>sb b o e fun k=>nb (by rw [k];simp)).at
theorem J8v{T:Ae}{s0:T.St}{ts:List Th}{ys:List Str}{n:Int}{as gs:List Addr}(hr:∀(i:Nat) z,ys[i]?=some z→r6 T s0 ts n ys i=(z,decide (z∈fo (ys.take i)),[])):∀r∈mk5 T s0 ts n ys as gs,r.2.1∈ys:=fun r h=>by
 obtain ⟨j,hj,rfl⟩:=Fz.mp h;have hj:=HF.mp hj;have hz:ys[j]?=some (ys[j]'hj):=Fb hj;show (r6 T s0 ts n ys j).1∈ys;rw [hr j _ hz];exact Ff hz
theorem Jav:∀{l:List Str},(l.map fun z=>[z]).flatten=l:=by
 intro l
 induction l with
 | nil=>rfl
 | cons a l ih=>rw [List.map_cons,Hf,ih];rfl
theorem J5i{m p:Str}{l:List Str}:Txt.join (Str.ofString " ") ([Str.ofString "missed "++m,Str.ofString "paid "++p,Str.ofString "left"]++l)=Txt.join (Str.ofString " ") ([Str.ofString "missed",m,Str.ofString "paid",p,Str.ofString "left"]++l):=by
 have e:∀xs:List Str,Txt.join (Str.ofString " ") xs=Str.join (Str.ofString " ") xs:=fun xs=>StrLaws.glued_eq_join _ _;rw [e,e]
 have h:=Yk (y:=Str.ofString " ") (xss:=[[Str.ofString "missed",m],[Str.ofString "paid",p],[Str.ofString "left"]]++l.map fun z=>[z]) (by
  intro xs hx;rcases FF.mp hx with k | k
  · simp only [Fv,Ha,or_false]at k
    rcases k with k | k | k <;> rw [k] <;> simp
  · obtain ⟨z,_,rfl⟩:=Fz.mp k;simp)
 have f1:([[Str.ofString "missed",m],[Str.ofString "paid",p],[Str.ofString "left"]]++l.map fun z=>[z]).flatten=[Str.ofString "missed",m,Str.ofString "paid",p,Str.ofString "left"]++l:=by
  rw [List.flatten_append];rw [Jav];rfl
 rw [f1]at h;rw [← h,Fp,FH]
 have f2:(l.map (Str.join (Str.ofString " ")∘fun z=>[z]))=l:=by
  rw [show (Str.join (Str.ofString " ")∘fun z=>[z])=id from rfl,List.map_id]
 rw [f2];show _=Str.join _ ([Str.join (Str.ofString " ") [Str.ofString "missed",m],Str.join (Str.ofString " ") [Str.ofString "paid",p],Str.join (Str.ofString " ") [Str.ofString "left"]]++l)
 have g1:Str.join (Str.ofString " ") [Str.ofString "missed",m]=Str.ofString "missed "++m:=by
  show Str.ofString "missed"++Str.ofString " "++m=_;rw [show Str.ofString "missed"++Str.ofString " "=Str.ofString "missed " by decide+kernel]
 have g2:Str.join (Str.ofString " ") [Str.ofString "paid",p]=Str.ofString "paid "++p:=by
  show Str.ofString "paid"++Str.ofString " "++p=_;rw [show Str.ofString "paid"++Str.ofString " "=Str.ofString "paid " by decide+kernel]
 rw [g1,g2];rfl
theorem J5j{ts:List Th}{y:Str}(nd:(ts.map (·.1)).Nodup)(g:∀u∈ts,B9 u.1.cps.toList=true∧0≤u.2.1∧u.2.1≤10 ^ 30∧1≤u.2.2∧u.2.2≤1000)(h:y∈ts.map (·.1)):0≤N41.cst ts y∧N41.cst ts y≤10 ^ 30:=by
 obtain ⟨u,hu,rfl⟩:=Fz.mp h;obtain ⟨i,hi⟩:=FC.mp hu;rw [N41.Ph nd hi];exact ⟨(g u hu).2.1,(g u hu).2.2.1⟩
theorem smc{ts:List Th}{l:List Str}(nd:(ts.map (·.1)).Nodup)(g:∀u∈ts,B9 u.1.cps.toList=true∧0≤u.2.1∧u.2.1≤10 ^ 30∧1≤u.2.2∧u.2.2≤1000)(h:∀y∈l,y∈ts.map (·.1)):0≤N41.sm (N41.cst ts) l∧N41.sm (N41.cst ts) l≤10 ^ 30 * l.length:=by
 induction l with
 | nil=>rw [N41.D5];exact ⟨HG _,HG _⟩
 | cons a l ih=>
  have h1:=ih fun y hy=>h y (Fk _ hy);have h2:=J5j nd g (h a Fu);rw [N41.C9,List.length_cons];omega
theorem Uj{ts:List Th}{ys:List Str}(hy:∀y∈ys,y∈ts.map (·.1)):(fo ys).length≤ts.length:=by
 have:=List.Nodup.length_le_of_subset (X6 (ys:=ys)).1 fun y h=>hy y ((X6.2 y).mp h);rw [Fa]at this;exact this
def Ef(K:PySem.W.Frag)(D S:Addr):Sp:=fun vs H Q _=>∃(d gv st as:Addr) (ts:List Th) (ys zs:List Str),vs=[.ref d,.ref gv]∧Dk1 K D S H d st as ts ys∧H gv=some (.lst (zs.map V.str))∧ys.length+zs.length≤200∧(∀z∈zs,z∈ts.map (·.1))∧
 ∀(as':Addr) (H':Hp),SameBut d H H'→Dk1 K D S H' d st as' ts (ys++zs)→H as'=none→Q (.str (Jbf (ys.length+zs.length))) H'
def E1(K:PySem.W.Frag)(D S:Addr)(m c:C2):Sp:=fun vs H Q _=>∃(d st as:Addr) (ts:List Th) (ys:List Str) (b:Bool) (n:Int),vs=[.ref d,.ref (m.d b),.int n]∧Dk1 K D S H d st as ts ys∧N41.sm (rm ts) (ts.map (·.1))≤n∧1≤n∧n≤1000000∧
 ∀(bk:Addr) (as' gs:List Addr) (H':Hp),A7 H H'→H bk=none→Bk6 (T81 c b) (z81 c b) H' bk as' gs ts n ys→Ge K H' bk as' gs (grows (T81 c b) (rm ts) n (z81 c b) ys ys.length)→Q (.ref bk) H'
def Dn(K:PySem.W.Frag)(D S:Addr)(m:C2):Sp:=fun vs H Q _=>∃(d gv st as:Addr) (ts:List Th) (ys:List Str) (b:Bool) (n:Int),vs=[.ref d,.ref gv]∧Dk1 K D S H d st as ts ys∧H gv=some (.lst [.ref (m.d b),.int n])∧N41.sm (rm ts) (ts.map (·.1))≤n∧1≤n∧n≤1000000∧∀H',A7 H H'→Q (.str (bkT ys)) H'
def Eg(tm tp:Addr)(pm pp:Pos)(qm qp:Str)(K:PySem.W.Frag)(D S:Addr)(m:C2):Sp:=fun vs H Q _=>∃(d gv st as:Addr) (ts:List Th) (ys:List Str) (b:Bool) (n:Int),vs=[.ref d,.ref gv]∧Dk1 K D S H d st as ts ys∧H gv=some (.lst [.ref (m.d b),.int n])∧N41.sm (rm ts) (ts.map (·.1))≤n∧1≤n∧n≤1000000∧Bc tm pm qm H∧Bc tp pp qp H∧tm≠tp∧
 ∀H',(∀b o,H b=some o→b≠tm→b≠tp→H' b=some o)→Bc tm pm qm H'→Bc tp pp qp H'→Q (.str (rnT (N41.cst ts) ys)) H'
def D2(K:PySem.W.Frag)(D S:Addr):Sp:=fun vs H Q _=>∃(d gv st as:Addr) (ts:List Th) (ys:List Str) (t:Th),vs=[.ref d,.ref gv]∧Dk1 K D S H d st as ts ys∧((ts++[t]).map (·.1)).Nodup∧ts.length≤58∧(∀u∈ts++[t],B9 u.1.cps.toList=true∧0≤u.2.1∧u.2.1≤10 ^ 30∧1≤u.2.2∧u.2.2≤1000)∧H gv=some (.lst [.str t.1,.int t.2.1,.int t.2.2])∧
 ∀(st':Addr) (H':Hp),SameBut d H H'→Dk1 K D S H' d st' as (ts++[t]) ys→H st'=none→Q (.str (Str.ofString "ok")) H'
def Ew:Sp:=fun vs H Q _=>∃(a:Addr) (xs:List Str),vs=[.ref a]∧H a=some (.lst (xs.map V.str))∧xs.length≤250∧(∀x∈xs,x.length≤40)∧∀H',A7 H H'→Q (.str (if xs=[] then Str.ofString "none" else Txt.join (Str.ofString " ") xs)) H'
def Kw:Sp:=fun vs H Q _=>∃(t g:Addr) (z:Str) (b:Bool),vs=[.ref t]∧H t=some (.tup [.str z,.bl b,.ref g])∧H g=some (.lst [])∧z.length≤8∧Q (.str (z++(if b then Str.ofString "+" else Str.ofString "-"))) H
def Ex:Sp:=fun vs H Q _=>∃(i:Int),vs=[.int i]∧0≤i∧i≤10 ^ 33∧Q (.str (Str.ofString "paid "++nT i)) H
abbrev Tf(tm tp:Addr)(pm pp:Pos)(qm qp:Str)(K:PySem.W.Frag)(D S:Addr)(m:C2):W81→Sp:=fun b=>match b with
 | .thing=>D2 K D S | .ask=>Ef K D S | .again=>Dl D | .run=>Eg tm tp pm pp qm qp K D S m | .book=>Dn K D S m
theorem J5k{tm tp:Addr}{pm pp:Pos}{qm qp:Str}{K:PySem.W.Frag}{D S:Addr}{m:C2}{b:W81}{vs:List V}{H:Hp}{Q:VK}{E E':XK}(h:Tf tm tp pm pp qm qp K D S m b vs H Q E):Tf tm tp pm pp qm qp K D S m b vs H Q E':=by cases b <;> exact h
def Kx(A:W81→Sp)(m:C2)(D:Addr):Sp:=fun vs H Q E=>∃(d:Addr) (l:L81),vs=[.ref d,.str l.txt]∧l.ok m∧∀(gv:Addr) (H1:Hp),A7 H H1→H gv=none→H1 gv=some (.lst l.vs)→A l.b [.ref d,.ref gv] H1 Q E
theorem J8w{ts:List Th}(nd:(ts.map (·.1)).Nodup)(hl:ts.length≤59)(g:∀u∈ts,B9 u.1.cps.toList=true∧0≤u.2.1∧u.2.1≤10 ^ 30∧1≤u.2.2∧u.2.2≤1000):N41.sm (rm ts) (ts.map (·.1))≤59000:=by
 have key:∀l:List Str,(∀y∈l,y∈ts.map (·.1))→N41.sm (rm ts) l≤1000 * l.length:=by
  intro l
  induction l with
  | nil=>intro _;rw [N41.D5];exact HG _
  | cons a l ih=>
   intro h;have h1:=ih fun y hy=>h y (Fk _ hy);have h2:=(N9 nd g (h a Fu)).2;rw [N41.C9,List.length_cons];omega
 have:=key _ fun y hy=>hy;rw [Fa]at this;omega
def Ip(tm tp:Addr)(pm pp:Pos)(qm qp:Str)(K:PySem.W.Frag)(D S:Addr):Sp:=fun vs H Q _=>∃(d st as a co:Addr) (ts:List Th) (ys:List Str) (kc:List (Key×V)),vs=[.ref d,.ref a,.ref co]∧Dk1 K D S H d st as ts ys∧H a=some (.lst (ys.map V.str))∧H co=some (.dK kc)∧(∀t∈ts,Bb kc (Sum.inr t.1)=some (.int t.2.1))∧Bc tm pm qm H∧Bc tp pp qp H∧tm≠tp∧
 ∀H',(∀b o,H b=some o→b≠tm→b≠tp→H' b=some o)→Bc tm pm qm H'→Bc tp pp qp H'→Q (.bl true) H'
def Gq(tm tp:Addr)(K:PySem.W.Frag):Sp:=fun vs H Q _=>∃(a:Addr) (ns:List Int),vs=[.ref a]∧SqL K H a (ns.map V.int)∧ns.length≤63∧H tm=some (.tbl #[])∧H tp=some (.tbl #[])∧∀H',Q (.bl true) H'
end N81
namespace L2
section
variable {A B C D F G H I J K L M N O Q R:Sort _} {Z:Prop}
theorem x1{p:A→Prop}(e:∃a,p a)(z:∀a,p a→Z):Z:=e.elim z
theorem x2{p:A→B→Prop}(e:∃a b,p a b)(z:∀a b,p a b→Z):Z:=e.elim fun a e=>x1 e (z a)
theorem x3{p:A→B→C→Prop}(e:∃a b c,p a b c)(z:∀a b c,p a b c→Z):Z:=e.elim fun a e=>x2 e (z a)
theorem x4{p:A→B→C→D→Prop}(e:∃a b c d,p a b c d)(z:∀a b c d,p a b c d→Z):Z:=e.elim fun a e=>x3 e (z a)
theorem x5{p:A→B→C→D→F→Prop}(e:∃a b c d f,p a b c d f)(z:∀a b c d f,p a b c d f→Z):Z:=e.elim fun a e=>x4 e (z a)
theorem x6{p:A→B→C→D→F→G→Prop}(e:∃a b c d f g,p a b c d f g)(z:∀a b c d f g,p a b c d f g→Z):Z:=e.elim fun a e=>x5 e (z a)
theorem x7{p:A→B→C→D→F→G→H→Prop}(e:∃a b c d f g h,p a b c d f g h)(z:∀a b c d f g h,p a b c d f g h→Z):Z:=e.elim fun a e=>x6 e (z a)
theorem x8{p:A→B→C→D→F→G→H→I→Prop}(e:∃a b c d f g h i,p a b c d f g h i)(z:∀a b c d f g h i,p a b c d f g h i→Z):Z:=e.elim fun a e=>x7 e (z a)
theorem x9{p:A→B→C→D→F→G→H→I→J→Prop}(e:∃a b c d f g h i j,p a b c d f g h i j)(z:∀a b c d f g h i j,p a b c d f g h i j→Z):Z:=e.elim fun a e=>x8 e (z a)
theorem x10{p:A→B→C→D→F→G→H→I→J→K→Prop}(e:∃a b c d f g h i j k,p a b c d f g h i j k)(z:∀a b c d f g h i j k,p a b c d f g h i j k→Z):Z:=e.elim fun a e=>x9 e (z a)
theorem x11{p:A→B→C→D→F→G→H→I→J→K→L→Prop}(e:∃a b c d f g h i j k l,p a b c d f g h i j k l)(z:∀a b c d f g h i j k l,p a b c d f g h i j k l→Z):Z:=e.elim fun a e=>x10 e (z a)
theorem x12{p:A→B→C→D→F→G→H→I→J→K→L→M→Prop}(e:∃a b c d f g h i j k l m,p a b c d f g h i j k l m)(z:∀a b c d f g h i j k l m,p a b c d f g h i j k l m→Z):Z:=e.elim fun a e=>x11 e (z a)
theorem v2{p:A→B→Prop}(a:A)(b:B)(e:p a b):∃a b,p a b:=⟨a,b,e⟩
theorem v3{p:A→B→C→Prop}(a:A)(b:B)(c:C)(e:p a b c):∃a b c,p a b c:=⟨a,v2 b c e⟩
theorem v4{p:A→B→C→D→Prop}(a:A)(b:B)(c:C)(d:D)(e:p a b c d):∃a b c d,p a b c d:=⟨a,v3 b c d e⟩
theorem v5{p:A→B→C→D→F→Prop}(a:A)(b:B)(c:C)(d:D)(f:F)(e:p a b c d f):∃a b c d f,p a b c d f:=⟨a,v4 b c d f e⟩
theorem v6{p:A→B→C→D→F→G→Prop}(a:A)(b:B)(c:C)(d:D)(f:F)(g:G)(e:p a b c d f g):∃a b c d f g,p a b c d f g:=⟨a,v5 b c d f g e⟩
theorem v7{p:A→B→C→D→F→G→H→Prop}(a:A)(b:B)(c:C)(d:D)(f:F)(g:G)(h:H)(e:p a b c d f g h):∃a b c d f g h,p a b c d f g h:=⟨a,v6 b c d f g h e⟩
theorem v8{p:A→B→C→D→F→G→H→I→Prop}(a:A)(b:B)(c:C)(d:D)(f:F)(g:G)(h:H)(i:I)(e:p a b c d f g h i):∃a b c d f g h i,p a b c d f g h i:=⟨a,v7 b c d f g h i e⟩
theorem v9{p:A→B→C→D→F→G→H→I→J→Prop}(a:A)(b:B)(c:C)(d:D)(f:F)(g:G)(h:H)(i:I)(j:J)(e:p a b c d f g h i j):∃a b c d f g h i j,p a b c d f g h i j:=⟨a,v8 b c d f g h i j e⟩
theorem v10{p:A→B→C→D→F→G→H→I→J→K→Prop}(a:A)(b:B)(c:C)(d:D)(f:F)(g:G)(h:H)(i:I)(j:J)(k:K)(e:p a b c d f g h i j k):∃a b c d f g h i j k,p a b c d f g h i j k:=⟨a,v9 b c d f g h i j k e⟩
theorem v11{p:A→B→C→D→F→G→H→I→J→K→L→Prop}(a:A)(b:B)(c:C)(d:D)(f:F)(g:G)(h:H)(i:I)(j:J)(k:K)(l:L)(e:p a b c d f g h i j k l):∃a b c d f g h i j k l,p a b c d f g h i j k l:=⟨a,v10 b c d f g h i j k l e⟩
variable {V:Type} {v:List V} {t:Nat}
theorem n0{f:List V}{p:Prop}(e:v=f∧p)(z:f.length=t):v.length=t:=e.1▸z
theorem n1{u:A→List V}{p:A→Prop}(e:∃a,v=u a∧p a)(z:∀a,(u a).length=t):v.length=t:=e.elim fun a e=>n0 e (z a)
theorem n2{u:A→B→List V}{p:A→B→Prop}(e:∃a b,v=u a b∧p a b)(z:∀a b,(u a b).length=t):v.length=t:=e.elim fun a e=>n1 e (z a)
theorem n3{u:A→B→C→List V}{p:A→B→C→Prop}(e:∃a b c,v=u a b c∧p a b c)(z:∀a b c,(u a b c).length=t):v.length=t:=e.elim fun a e=>n2 e (z a)
theorem n4{u:A→B→C→D→List V}{p:A→B→C→D→Prop}(e:∃a b c d,v=u a b c d∧p a b c d)(z:∀a b c d,(u a b c d).length=t):v.length=t:=e.elim fun a e=>n3 e (z a)
theorem n5{u:A→B→C→D→F→List V}{p:A→B→C→D→F→Prop}(e:∃a b c d f,v=u a b c d f∧p a b c d f)(z:∀a b c d f,(u a b c d f).length=t):v.length=t:=e.elim fun a e=>n4 e (z a)
theorem n6{u:A→B→C→D→F→G→List V}{p:A→B→C→D→F→G→Prop}(e:∃a b c d f g,v=u a b c d f g∧p a b c d f g)(z:∀a b c d f g,(u a b c d f g).length=t):v.length=t:=e.elim fun a e=>n5 e (z a)
theorem n7{u:A→B→C→D→F→G→H→List V}{p:A→B→C→D→F→G→H→Prop}(e:∃a b c d f g h,v=u a b c d f g h∧p a b c d f g h)(z:∀a b c d f g h,(u a b c d f g h).length=t):v.length=t:=e.elim fun a e=>n6 e (z a)
theorem n8{u:A→B→C→D→F→G→H→I→List V}{p:A→B→C→D→F→G→H→I→Prop}(e:∃a b c d f g h i,v=u a b c d f g h i∧p a b c d f g h i)(z:∀a b c d f g h i,(u a b c d f g h i).length=t):v.length=t:=e.elim fun a e=>n7 e (z a)
theorem n9{u:A→B→C→D→F→G→H→I→J→List V}{p:A→B→C→D→F→G→H→I→J→Prop}(e:∃a b c d f g h i j,v=u a b c d f g h i j∧p a b c d f g h i j)(z:∀a b c d f g h i j,(u a b c d f g h i j).length=t):v.length=t:=e.elim fun a e=>n8 e (z a)
theorem n10{u:A→B→C→D→F→G→H→I→J→K→List V}{p:A→B→C→D→F→G→H→I→J→K→Prop}(e:∃a b c d f g h i j k,v=u a b c d f g h i j k∧p a b c d f g h i j k)(z:∀a b c d f g h i j k,(u a b c d f g h i j k).length=t):v.length=t:=e.elim fun a e=>n9 e (z a)
theorem n11{u:A→B→C→D→F→G→H→I→J→K→L→List V}{p:A→B→C→D→F→G→H→I→J→K→L→Prop}(e:∃a b c d f g h i j k l,v=u a b c d f g h i j k l∧p a b c d f g h i j k l)(z:∀a b c d f g h i j k l,(u a b c d f g h i j k l).length=t):v.length=t:=e.elim fun a e=>n10 e (z a)
theorem n12{u:A→B→C→D→F→G→H→I→J→K→L→M→List V}{p:A→B→C→D→F→G→H→I→J→K→L→M→Prop}(e:∃a b c d f g h i j k l m,v=u a b c d f g h i j k l m∧p a b c d f g h i j k l m)(z:∀a b c d f g h i j k l m,(u a b c d f g h i j k l m).length=t):v.length=t:=e.elim fun a e=>n11 e (z a)
end
section
variable {A B C D F G H I J K L M N O Q R S T U W X Y Z:Prop}
theorem y2(e:A∧B)(z:A→B→Z):Z:=z e.1 e.2
theorem y3(e:A∧B∧C)(z:A→B→C→Z):Z:=y2 e.2 (z e.1)
theorem y4(e:A∧B∧C∧D)(z:A→B→C→D→Z):Z:=y3 e.2 (z e.1)
theorem y5(e:A∧B∧C∧D∧F)(z:A→B→C→D→F→Z):Z:=y4 e.2 (z e.1)
theorem y6(e:A∧B∧C∧D∧F∧G)(z:A→B→C→D→F→G→Z):Z:=y5 e.2 (z e.1)
theorem y7(e:A∧B∧C∧D∧F∧G∧H)(z:A→B→C→D→F→G→H→Z):Z:=y6 e.2 (z e.1)
theorem y8(e:A∧B∧C∧D∧F∧G∧H∧I)(z:A→B→C→D→F→G→H→I→Z):Z:=y7 e.2 (z e.1)
theorem y9(e:A∧B∧C∧D∧F∧G∧H∧I∧J)(z:A→B→C→D→F→G→H→I→J→Z):Z:=y8 e.2 (z e.1)
theorem y10(e:A∧B∧C∧D∧F∧G∧H∧I∧J∧K)(z:A→B→C→D→F→G→H→I→J→K→Z):Z:=y9 e.2 (z e.1)
theorem y11(e:A∧B∧C∧D∧F∧G∧H∧I∧J∧K∧L)(z:A→B→C→D→F→G→H→I→J→K→L→Z):Z:=y10 e.2 (z e.1)
theorem y12(e:A∧B∧C∧D∧F∧G∧H∧I∧J∧K∧L∧M)(z:A→B→C→D→F→G→H→I→J→K→L→M→Z):Z:=y11 e.2 (z e.1)
theorem y13(e:A∧B∧C∧D∧F∧G∧H∧I∧J∧K∧L∧M∧N)(z:A→B→C→D→F→G→H→I→J→K→L→M→N→Z):Z:=y12 e.2 (z e.1)
theorem y14(e:A∧B∧C∧D∧F∧G∧H∧I∧J∧K∧L∧M∧N∧O)(z:A→B→C→D→F→G→H→I→J→K→L→M→N→O→Z):Z:=y13 e.2 (z e.1)
theorem y15(e:A∧B∧C∧D∧F∧G∧H∧I∧J∧K∧L∧M∧N∧O∧Q)(z:A→B→C→D→F→G→H→I→J→K→L→M→N→O→Q→Z):Z:=y14 e.2 (z e.1)
theorem y16(e:A∧B∧C∧D∧F∧G∧H∧I∧J∧K∧L∧M∧N∧O∧Q∧R)(z:A→B→C→D→F→G→H→I→J→K→L→M→N→O→Q→R→Z):Z:=y15 e.2 (z e.1)
theorem y17(e:A∧B∧C∧D∧F∧G∧H∧I∧J∧K∧L∧M∧N∧O∧Q∧R∧S)(z:A→B→C→D→F→G→H→I→J→K→L→M→N→O→Q→R→S→Z):Z:=y16 e.2 (z e.1)
end
end L2
open PySem PySem.W PyProof.Rows
namespace L2
structure Bs(P:Program)(w:World)(K:PySem.W.Frag)(mg:Str→Option Value)(base:Heap):Prop where
 ex:∃h:Heap,K.In h∧h.Ns mainGlobals mg
theorem lc{α:Type}{us:List α}{n:Nat}(h:us.length=n+1):∃u r,us=u::r∧r.length=n:=by
 cases us with
 | nil=>cases h
 | cons u r=>exact ⟨u,r,rfl,Nat.succ.inj h⟩
theorem l0{α:Type}{us:List α}(h:us.length=0):us=[]:=by
 cases us with
 | nil=>rfl
 | cons u r=>cases h
section
variable {P:Program} {w:World} {K:PySem.W.Frag} {mg:Str→Option Value} {base:Heap} {CX:CXT} {k:Nat} {sp:Sp} {ps:List Str} {x qual n p1 p2 p3 p4 p5 p6 p7:Str} {st:Stmt} {f C:Addr} {fd:FuncData}
theorem Fun.d(F:Fun K x qual st f fd)(B:Bs P w K mg base)(a:PySem.W.nsIn K mainGlobals x=some (some (.ref f)))(o:Al P w K mg base CX k f fd ps sp)(b:C0 K fd ps []):Def P w K mg base CX k x ps sp:=
 let ⟨_,X,G⟩:=B.ex;⟨f,fd,o,PySem.W.mg_of X G a,F.kp,b⟩
theorem Fun.m(F:Fun K x qual st f fd)(B:Bs P w K mg base)(M:Xo K C x f)(o:Al P w K mg base CX k f fd ps sp)(b:C0 K fd ps []):Ck P w K mg base CX k C x ps sp:=
 ⟨f,fd,o,M,b⟩
theorem Fun.i(F:Fun K x qual st f fd)(B:Bs P w K mg base)(M:Mk K C f)(a:PySem.W.nsIn K mainGlobals n=some (some (.ref C)))(o:Al P w K mg base CX k f fd ps sp)(b:C0 K fd ps []):Pb P w K mg base CX k n C ps sp:=
 let ⟨_,X,G⟩:=B.ex;⟨f,fd,o,M,PySem.W.mg_of X G a,b⟩
theorem Fun.e1(F:Fun K x qual st f fd)(h:∀(kV doc pm:Value) (an:Option Addr) (cdv ct u:Value),bindArgs (PySem.W.fnOf x qual (Bk st) (Be st) (A6 st) .none kV doc pm an cdv ct) ⟨[u],[]⟩=pure [(p1,u)]):C0 K fd [p1] []:=
 F.binds (ps:=[p1]) fun kV doc pm an cdv ct us hl=>by
  obtain ⟨u,us,rfl,h1⟩:=lc hl;cases l0 h1;exact h kV doc pm an cdv ct u
theorem Fun.e2(F:Fun K x qual st f fd)(h:∀(kV doc pm:Value) (an:Option Addr) (cdv ct u v:Value),bindArgs (PySem.W.fnOf x qual (Bk st) (Be st) (A6 st) .none kV doc pm an cdv ct) ⟨[u,v],[]⟩=pure [(p1,u),(p2,v)]):C0 K fd [p1,p2] []:=
 F.binds (ps:=[p1,p2]) fun kV doc pm an cdv ct us hl=>by
  obtain ⟨u,us,rfl,h1⟩:=lc hl;obtain ⟨v,us,rfl,h2⟩:=lc h1;cases l0 h2;exact h kV doc pm an cdv ct u v
theorem Fun.e3(F:Fun K x qual st f fd)(h:∀(kV doc pm:Value) (an:Option Addr) (cdv ct u v w:Value),bindArgs (PySem.W.fnOf x qual (Bk st) (Be st) (A6 st) .none kV doc pm an cdv ct) ⟨[u,v,w],[]⟩=pure [(p1,u),(p2,v),(p3,w)]):C0 K fd [p1,p2,p3] []:=
 F.binds (ps:=[p1,p2,p3]) fun kV doc pm an cdv ct us hl=>by
  obtain ⟨u,us,rfl,h1⟩:=lc hl;obtain ⟨v,us,rfl,h2⟩:=lc h1;obtain ⟨w,us,rfl,h3⟩:=lc h2;cases l0 h3;exact h kV doc pm an cdv ct u v w
theorem Fun.e4(F:Fun K x qual st f fd)(h:∀(kV doc pm:Value) (an:Option Addr) (cdv ct u v w y:Value),bindArgs (PySem.W.fnOf x qual (Bk st) (Be st) (A6 st) .none kV doc pm an cdv ct) ⟨[u,v,w,y],[]⟩=pure [(p1,u),(p2,v),(p3,w),(p4,y)]):C0 K fd [p1,p2,p3,p4] []:=
 F.binds (ps:=[p1,p2,p3,p4]) fun kV doc pm an cdv ct us hl=>by
  obtain ⟨u,us,rfl,h1⟩:=lc hl;obtain ⟨v,us,rfl,h2⟩:=lc h1;obtain ⟨w,us,rfl,h3⟩:=lc h2;obtain ⟨y,us,rfl,h4⟩:=lc h3;cases l0 h4;exact h kV doc pm an cdv ct u v w y
end
abbrev Gf(K:PySem.W.Frag)(x:Str)(st:Stmt):Prop:=∃(f:Addr) (fd:FuncData),PySem.W.nsIn K mainGlobals x=some (some (.ref f))∧Fun K x x st f fd
abbrev Gm(K:PySem.W.Frag)(C:Addr)(x q:Str)(st:Stmt):Prop:=∃(f:Addr) (fd:FuncData),Xo K C x f∧Fun K x q st f fd
abbrev Gi(K:PySem.W.Frag)(C:Addr)(q:Str)(st:Stmt):Prop:=∃(f:Addr) (fd:FuncData),Mk K C f∧Fun K "__init__" q st f fd
abbrev Gc(K:PySem.W.Frag)(x:Str)(C:Addr):Prop:=PySem.W.nsIn K mainGlobals x=some (some (.ref C))
abbrev Gn(K:PySem.W.Frag)(C:Addr)(x:Str):Prop:=PySem.W.findIn K (.ref C) x=some none
section
variable {P:Program} {w:World} {K:PySem.W.Frag} {mg:Str→Option Value} {base:Heap} {CX:CXT} {k:Nat} {sp:Sp} {ps:List Str} {x q n:Str} {st:Stmt} {C:Addr}
theorem Gf.d(F:Gf K x st)(B:Bs P w K mg base)(o:∀{f fd},Fun K x x st f fd→Al P w K mg base CX k f fd ps sp)(b:∀{f fd},Fun K x x st f fd→C0 K fd ps []:=by walk_at "bd"):Def P w K mg base CX k x ps sp:=
 let ⟨_,_,a,G⟩:=F;G.d B a (o G) (b G)
theorem Gm.m(F:Gm K C x q st)(B:Bs P w K mg base)(o:∀{f fd},Fun K x q st f fd→Al P w K mg base CX k f fd ps sp)(b:∀{f fd},Fun K x q st f fd→C0 K fd ps []:=by walk_at "bd"):Ck P w K mg base CX k C x ps sp:=
 let ⟨_,_,a,G⟩:=F;G.m B a (o G) (b G)
theorem Gi.i(F:Gi K C q st)(B:Bs P w K mg base)(a:Gc K n C)(o:∀{f fd},Fun K "__init__" q st f fd→Al P w K mg base CX k f fd ps sp)(b:∀{f fd},Fun K "__init__" q st f fd→C0 K fd ps []:=by walk_at "bd"):Pb P w K mg base CX k n C ps sp:=
 let ⟨_,_,M,G⟩:=F;G.i B M a (o G) (b G)
end
theorem Jbg{n:Str}{N:List Str}{v:V}{vs:List V}:start (n::N) (v::vs)=some v::start N vs:=by
 simp [start]
theorem Jbh{n:Str}{N:List Str}:start (n::N) []=none::start N []:=rfl
theorem Jbi:start [] []=[]:=rfl
end L2
namespace K81
open L2 N1 N5 N31 N4 N6 N12 N32 N41 N14 N20 N18 N25 NR N22 N21 N24 N28 N55 N63 N71 N74 N75 NPb NTx N64 N54 N85 N81
local macro_rules | `(tactic| walk_at "rq") => `(tactic| simp only [J10, J11, J9w, J64, J65, J9x, J9y, Uz, J12, V0, J9z, J13, V1, V2, Qe, V3, J66, V4, J14, V5, J15, J67, J16, V6, J17, V7, J68, J69, J6a, J6b, J18, J19, J1a, Qf, V8, Qg, V9, Va, Qh, Vb, Vc, Qi, Vd, Ve, scal, Vf, Vg, J6g, Ny, Vh, J1g, J1h, J6h, J1i, Vi, Vj, Vk, Qn, J1j, Vl, Vm, Qo, Vn, J1k, Vo, Qp, true_implies, false_implies, Bool.false_and, Bool.true_and, Bool.and_true, Bool.and_false, Bool.false_or, Bool.true_or, Bool.or_true, Bool.or_false, J1p, J1q, Qr, Qs, J1r, Vr, J1s, O0, Vs, Vt, Vu, J1n, Nz, Qq, J6i, Int.zero_add, Int.toNat_natCast, Uk, List.map_cons, List.map_nil, List.getD_cons_zero, List.getD_cons_succ, J0z, List.length_cons, List.length_nil, List.getElem?_cons_zero, List.getElem?_cons_succ, List.set_cons_zero, List.set_cons_succ, Option.some.injEq, V.int.injEq, V.bl.injEq, V.str.injEq, V.ref.injEq, V.ty.injEq, exists_eq_left', exists_eq_left, exists_and_left, exists_eq, exists_eq', List.cons.injEq, and_true, true_and, decide_eq_true_eq, Bool.not_eq_true', decide_eq_false_iff_not, reduceCtorEq, exists_const, Bool.true_eq_false, Bool.false_eq_true, if_true, if_false, ite_true, ite_false, Bool.not_true, Bool.not_false, decide_true, decide_false, Bool.not_not, false_and, and_false, exists_false, false_or, or_false, true_or, or_true, and_assoc, not_true_eq_false, not_false_eq_true, Int.reduceToNat, Nat.reduceAdd, Lw, Lx, Ek, Dt, Gw, Gy, Pc, Ia, Eo, En, N41.Ib, M0, Km, Qw, O1, Vx, O2, Qt, Pd, Kj, Kk, Kl, Lz, Sa, W9, Em, Sf, Sg, Ep, Dv, Er, Sh, Qv, Sb, Sd, Wh, Wl, J2o, W4, Si, Sq, Wc, Ws, Cs, Cd, Di, Dj, Mv, Po, Ob, Qu, J7b, Wi, J2j, Vy, Dk, Ce, Wy, Sz, Dx, Ig, Ed, Dw, Ec, Ie, Kr, M4, Ih, Le, Sw, Sx, Ww, Oe, Sy, Wx, J2u, List.cons_append, List.nil_append, Su, Sj, T4, J3g, X4, T8, Dz, Gk, spW, Eb, Wd, J2v, J2w, O6, J2n, Oa, We, N3, Dm, M5, X0, X1, Et, Ij, Es, Ik, Im, Io, D2, Dl, Ef, E1, Dn, Eg, Kx, Eu, Dc, Ew, Kw, Ex, Ip, Gq, Il])
local macro_rules | `(tactic| walk_at "rd") => `(tactic| first | (dsimp only [J10, J11, J9w, J64, J65, J9x, J9y, Uz, J12, V0, J9z, J13, V1, V2, Qe, V3, J66, V4, J14, V5, J15, J67, J16, V6, J17, V7, J68, J69, J6a, J6b, J18, J19, J1a, Qf, V8, Qg, V9, Va, Qh, Vb, Vc, Qi, Vd, Ve, scal, Vf, Vg, J6g, Ny, Vh, J1g, J1h, J6h, J1i, Vi, Vj, Vk, Qn, J1j, Vl, Vm, Qo, Vn, J1k, Vo, Qp, true_implies, false_implies, Bool.false_and, Bool.true_and, Bool.and_true, Bool.and_false, Bool.false_or, Bool.true_or, Bool.or_true, Bool.or_false, J1p, J1q, Qr, Qs, J1r, Vr, J1s, O0, Vs, Vt, Vu, J1n, Nz, Qq, J6i, Int.zero_add, Int.toNat_natCast, Uk, List.map_cons, List.map_nil, List.getD_cons_zero, List.getD_cons_succ, J0z, List.length_cons, List.length_nil, List.getElem?_cons_zero, List.getElem?_cons_succ, List.set_cons_zero, List.set_cons_succ, Option.some.injEq, V.int.injEq, V.bl.injEq, V.str.injEq, V.ref.injEq, V.ty.injEq, exists_eq_left', exists_eq_left, exists_and_left, exists_eq, exists_eq', List.cons.injEq, and_true, true_and, decide_eq_true_eq, Bool.not_eq_true', decide_eq_false_iff_not, reduceCtorEq, exists_const, Bool.true_eq_false, Bool.false_eq_true, if_true, if_false, ite_true, ite_false, Bool.not_true, Bool.not_false, decide_true, decide_false, Bool.not_not, false_and, and_false, exists_false, false_or, or_false, true_or, or_true, and_assoc, not_true_eq_false, not_false_eq_true, Int.reduceToNat, Nat.reduceAdd, Lw, Lx, Ek, Dt, Gw, Gy, Pc, Ia, Eo, En, N41.Ib, M0, Km, Qw, O1, Vx, O2, Qt, Pd, Kj, Kk, Kl, Lz, Sa, W9, Em, Sf, Sg, Ep, Dv, Er, Sh, Qv, Sb, Sd, Wh, Wl, J2o, W4, Si, Sq, Wc, Ws, Cs, Cd, Di, Dj, Mv, Po, Ob, Qu, J7b, Wi, J2j, Vy, Dk, Ce, Wy, Sz, Dx, Ig, Ed, Dw, Ec, Ie, Kr, M4, Ih, Le, Sw, Sx, Ww, Oe, Sy, Wx, J2u, List.cons_append, List.nil_append, Su, Sj, T4, J3g, X4, T8, Dz, Gk, spW, Eb, Wd, J2v, J2w, O6, J2n, Oa, We, N3, Dm, M5, X0, X1, Et, Ij, Es, Ik, Im, Io, D2, Dl, Ef, E1, Dn, Eg, Kx, Eu, Dc, Ew, Kw, Ex, Ip, Gq, Il]; try walk_at "rq") | walk_at "rq")
local macro_rules | `(tactic| walk_at "hp") => `(tactic| first | with_reducible assumption | exact A1 | (rw [A3 (by first | with_reducible assumption | exact A8 (by with_reducible assumption) (by with_reducible assumption))]; first | with_reducible assumption | exact A1))
local macro_rules | `(tactic| walk_at "sq") => `(tactic| (repeat' first | with_reducible assumption | exact SqT.of A1 | exact SqL.of A1 | refine' A7.tup (A7.new (by with_reducible assumption)) ?_ | refine' A7.seq (A7.new (by with_reducible assumption)) ?_))
local macro_rules | `(tactic| walk_at "isi") => `(tactic| first | exact J0l | exact J0m | exact J0n | exact J7i | exact J7k | exact J0p | exact J7l | exact J0o | exact J7j | exact J0q | exact J7m | exact J0v (by walk_at "hp") | exact J0r (by walk_at "hp") | exact J0y (by walk_at "hp") | exact J0u (by walk_at "hp") | exact J0w (by walk_at "hp") | exact J0s (by walk_at "hp") | exact J0x (by walk_at "hp") | exact J0t (by walk_at "hp"))
local macro_rules | `(tactic| walk_at "slen") => `(tactic| first | omega | decide +kernel | (refine J7w ?_ ?_ <;> walk_at "slen"))
local macro_rules | `(tactic| walk_at "side") => `(tactic| first | with_reducible assumption | with_reducible exact P4 (by omega) (by omega) | with_reducible exact P5 (by decide) (by decide) (by decide) | with_reducible exact J7q (by omega) (by omega) | with_reducible exact J1b (by omega) (by omega) | omega | decide | decide +kernel | (have := Bl; omega) | (simp only [Aw, Vp, Bl]; omega) | (rw [Bl]; walk_at "slen"; done))
local macro_rules | `(tactic| walk_at "go1") => `(tactic| first | walk_at "rd" | ((with_reducible refine And.intro ?_ ?_); (focus (walk_at "side"; done))) | ((with_reducible apply J7n); (focus (walk_at "isi"; done))) | ((with_reducible apply D4); (focus (walk_at "sq"; done)); (focus rfl)) | ((with_reducible apply Cr); (focus (walk_at "sq"; done)); (focus rfl)) | ((with_reducible apply J4c); (focus (walk_at "sq"; done))) | ((with_reducible apply J4b); (focus (walk_at "sq"; done))) | ((with_reducible apply Xy); (focus (walk_at "sq"; done)); (focus (assumption; done))) | ((with_reducible apply J4f); (focus (walk_at "sq"; done)); (focus (decide; done)); (focus (assumption; done))) | (intro (_ : List (Addr × PySem.Obj)) (_ : PySem.Value → PySem.Shared → Prop)) | with_reducible refine J7p fun _ _ => ?_ | (refine J4e (by with_reducible assumption) ?_; subst_vars))
local macro_rules | `(tactic| walk_at "go") => `(tactic| repeat walk_at "go1")
def top(i:Nat):Stmt:=PySem.Challenge.pw_castoff_k81_things_and_asks.main.body.getD i (.Pass ⟨0,0,0,0⟩)
structure Txt(K:W.Frag)(mg:Str→Option Value)(xF_thing xF_ask xF_again xF_run xF_book Z2 Z3 Zl Z8 Z0 Z1 Z4 xanswer_thing xanswer_ask xanswer_again xanswer_run xanswer_book xmake_first xmake_oldest Zo Zm Ze:Addr):Prop where
 Z89:mg "Stock"=some (.ref Z2)
 Zb:Cls K Z2
 Zc:Ap K Z2 "things"
 Z8a:mg "Shelf"=some (.ref Z3)
 Z7:Cls K Z3
 Z00:Ap K Z3 "stock"
 Z0o:Ap K Z3 "places"
 Zp:Ap K Z3 "rooms"
 Z7j:mg "Rule"=some (.ref Zl)
 Z8b:Cls K Zl
 Z45:Ap K Zl "stock"
 Z42:Ap K Zl "places"
 Z7t:mg "Ranked"=some (.ref Z8)
 Z87:Cls K Z8
 Z3r:Ap K Z8 "stock"
 Z37:Ap K Z8 "places"
 Z2r:Ap K Z8 "present"
 Z43:Ap K Z8 "last"
 Z88:mg "Oldest"=some (.ref Z0)
 Zk:Cls K Z0
 Z0p:Ap K Z0 "stock"
 Z0f:Ap K Z0 "places"
 Zv:Ap K Z0 "present"
 Z0b:Ap K Z0 "last"
 Z8c:mg "First"=some (.ref Z1)
 Zi:Cls K Z1
 Z0x:Ap K Z1 "stock"
 Z0q:Ap K Z1 "places"
 Zr:Ap K Z1 "present"
 Z1d:Ap K Z1 "last"
 Z07:Ap K Z1 "put_at"
 Z8d:mg "Desk"=some (.ref Z4)
 Za:Cls K Z4
 Zn:Ap K Z4 "stock"
 Zq:Ap K Z4 "asks"
 Z2s:Ap K Z4 "tower"
 Z4x:mg "answer_thing"=some (.ref xanswer_thing)
 Z67:mg "answer_ask"=some (.ref xanswer_ask)
 Z4y:mg "answer_again"=some (.ref xanswer_again)
 Z68:mg "answer_run"=some (.ref xanswer_run)
 Z5o:mg "answer_book"=some (.ref xanswer_book)
 Z69:mg "make_first"=some (.ref xmake_first)
 Z5p:mg "make_oldest"=some (.ref xmake_oldest)
 Z6a:mg "MAKERS"=some (.ref Zo)
 Z72:mg "FORMS"=some (.ref Zm)
 Z7k:mg "ANSWERS"=some (.ref Ze)
 Zt:mg "len"=none
 Z08:mg "isinstance"=none
 Z4o:mg "int"=none
 Z6b:mg "bool"=none
 Z2k:mg "str"=none
 Z46:mg "list"=none
 Z76:mg "all"=none
 Z2q:mg "range"=none
 Z3d:mg "enumerate"=none
 Z64:mg "zip"=none
 Z4p:mg "sum"=none
 Z65:mg "min"=none
 Z4z:mg "tuple"=none
 Z7z:mg "abs"=none
 Z77:mg "max"=none
 Z38:∃t,mg "LETTERS"=some (.str "abcdefghijklmnopqrstuvwxyz" t)
 Z39:∃t,mg "FIGURES"=some (.str "0123456789" t)
 Z2t:∃t,mg "MOST_SIGNS"=some (.int 8 t)
 Z27:∃t,mg "MOST_THINGS"=some (.int 60 t)
 Z3e:∃t,mg "MOST_ROOM"=some (.int 1000 t)
 Z0y:∃t,mg "MOST_PLACES"=some (.int 1000000 t)
 Z3f:∃t,mg "MOST_ASKS"=some (.int 200 t)
 Z1s:∃t,mg "MOST_FIGURES"=some (.int 31 t)
local macro_rules | `(tactic| walk_at "sc") => `(tactic| exact ⟨rfl, rfl, rfl, by decide +kernel, rfl, by decide +kernel, by decide +kernel⟩)
local macro_rules | `(tactic| walk_at "su") => `(tactic| simp only [Jbg, Jbh, Jbi])
set_option hygiene false in
local macro_rules | `(tactic| walk_at "st") => `(tactic| (walk_at "su"; have line := Bl))
local macro_rules | `(tactic| walk_at "bd") => `(tactic| (intro _ _ F; first | (refine F.e1 ?_; exact fun _ _ _ _ _ _ _ => rfl) | (refine F.e2 ?_; exact fun _ _ _ _ _ _ _ _ => rfl) | (refine F.e3 ?_; exact fun _ _ _ _ _ _ _ _ _ => rfl) | (refine F.e4 ?_; exact fun _ _ _ _ _ _ _ _ _ _ => rfl) | (refine F.e0 ?_; exact fun _ _ _ _ _ _ => rfl) | (refine F.e5 ?_; exact fun _ _ _ _ _ _ _ _ _ _ _ => rfl) | (refine F.e6 ?_; exact fun _ _ _ _ _ _ _ _ _ _ _ _ => rfl)))
section
variable {P:Program} {w:World} {K:W.Frag} {mg:Str→Option Value} {base:Heap} {xF_thing xF_ask xF_again xF_run xF_book Z2 Z3 Zl Z8 Z0 Z1 Z4 xanswer_thing xanswer_ask xanswer_again xanswer_run xanswer_book xmake_first xmake_oldest Zo Zm Ze:Addr}
variable {f:Addr} {fd:FuncData} (T:Txt K mg xF_thing xF_ask xF_again xF_run xF_book Z2 Z3 Zl Z8 Z0 Z1 Z4 xanswer_thing xanswer_ask xanswer_again xanswer_run xanswer_book xmake_first xmake_oldest Zo Zm Ze)
set_option hygiene false in
local macro_rules | `(tactic| walk_at "ok") => `(tactic| refine F.ok sc (fun vs H Q E h_ => ?_) (fun cdv A outer s H vs Q E hr h_ => ?_))
set_option hygiene false in
local macro_rules | `(tactic| walk_at "rt") => `(tactic| (rename_i rest hrest; subst hrest))
local macro_rules | `(tactic| walk_at "rs") => `(tactic| (walk_at "rt"; walk_at "go"))
abbrev Z3s:Stmt:=top 17
abbrev Z3g:Stmt:=top 18
abbrev Z1t:Stmt:=top 26
abbrev Z47:Stmt:=top 34
abbrev Z48:Stmt:=top 35
abbrev Z28:Stmt:=top 36
abbrev Z2u:Stmt:=Ar (top 37) 0
abbrev Z3h:Stmt:=Ar (top 37) 2
abbrev Z1b:Stmt:=Ar (top 37) 3
abbrev Z1e:Stmt:=Ar (top 37) 6
abbrev Z1f:Stmt:=Ar (top 37) 5
abbrev Z2v:Stmt:=top 43
abbrev Z2w:Stmt:=Ar (top 27) 0
abbrev Z29:Stmt:=Ar (top 27) 1
abbrev Z2a:Stmt:=Ar (top 27) 2
abbrev Z0v:Stmt:=Ar (top 27) 3
abbrev Z3i:Stmt:=Ar (top 27) 4
abbrev Z2x:Stmt:=Ar (top 27) 5
abbrev Z2b:Stmt:=Ar (top 37) 1
abbrev Z3j:Stmt:=top 46
abbrev Z4g:Stmt:=top 47
abbrev Z2c:Stmt:=top 48
abbrev Z2d:Stmt:=top 41
abbrev Z49:Stmt:=top 49
abbrev Z04:Stmt:=top 50
abbrev Z0i:Stmt:=top 51
abbrev Z0c:Stmt:=Ar (top 61) 0
abbrev Z01:Stmt:=Ar (top 62) 0
abbrev Z2e:Stmt:=Ar (top 62) 0
abbrev Z2y:Stmt:=Ar (top 64) 0
abbrev Z0e:Stmt:=Ar (top 62) 2
abbrev Z1c:Stmt:=Ar (top 62) 3
abbrev Z02:Stmt:=Ar (top 62) 4
abbrev Z1u:Stmt:=Ar (top 62) 1
abbrev Z1g:Stmt:=Ar (top 62) 5
abbrev Z2f:Stmt:=Ar (top 61) 4
abbrev Z2g:Stmt:=Ar (top 61) 5
abbrev Z0j:Stmt:=Ar (top 62) 2
abbrev Z09:Stmt:=Ar (top 64) 2
abbrev Z2h:Stmt:=Ar (top 62) 1
abbrev Z1v:Stmt:=Ar (top 62) 5
abbrev Z2z:Stmt:=Ar (top 61) 4
abbrev Z30:Stmt:=Ar (top 64) 1
abbrev Z31:Stmt:=top 86
abbrev Z2i:Stmt:=top 85
abbrev Z3t:Stmt:=top 93
abbrev Z3k:Stmt:=top 67
abbrev Z4h:Stmt:=top 68
abbrev Z4a:Stmt:=top 69
abbrev Z3l:Stmt:=top 99
abbrev Z3m:Stmt:=top 100
abbrev Z3u:Stmt:=top 101
abbrev Z3n:Stmt:=top 102
abbrev Z3o:Stmt:=Ar (top 163) 0
abbrev Z1h:Stmt:=top 134
abbrev Z3v:Stmt:=top 135
abbrev Z3p:Stmt:=top 138
abbrev Z1w:Stmt:=top 141
abbrev Z1x:Stmt:=top 139
abbrev Z32:Stmt:=top 140
abbrev Z4b:Stmt:=top 142
abbrev Z2j:Stmt:=top 144
abbrev Z33:Stmt:=top 143
abbrev Z3w:Stmt:=Ar (top 163) 1
abbrev Z3q:Stmt:=top 165
abbrev Z50:Stmt:=top 166
abbrev Z4c:Stmt:=top 167
abbrev Z4i:Stmt:=top 168
abbrev Z4j:Stmt:=top 169
abbrev Z2l:Stmt:=top 170
def J5l:Ni:=J6r (("missed_by"++".<locals>.")++"<lambda>") (J6t (Jar ((Be Z04).getD 0 (.Pass ⟨0,0,0,0⟩))) 1)
def J5m:Ni:=J6r (("paid_by"++".<locals>.")++"<lambda>") (J6t (Jar ((Be Z0i).getD 0 (.Pass ⟨0,0,0,0⟩))) 1)
include T in
theorem Z6x(F:Fun K "is_whole" "is_whole" Z3s f fd):Al P w K mg base CX0 1 f fd ["thing"] (Dt K):=by
 have sc:A9 ["thing"] ["thing"] (A6 Z3s):=by walk_at "sc"
 walk_at "ok"
 · exact n3 h_ fun _ _ _=>rfl
 refine x3 h_ fun x b c e_=>y4 e_ fun e0 h1 h2 q=>?_;clear e_ h_;subst e0;refine ⟨_,(@A5 _ _ _ (@Ac _ _ _ _ (Oo (Aq Dr rfl T.Z08 (by first | rfl | decide+kernel) (A0 (pv 0) (A0 (Lr (v:= .ty "int") rfl T.Z4o (by first | rfl | decide+kernel) rfl) A4))) (On (J74 (Aq Dr rfl T.Z08 (by first | rfl | decide+kernel) (A0 (pv 0) (A0 (Lr (v:= .ty "bool") rfl T.Z6b (by first | rfl | decide+kernel) rfl) A4)))))))),?_⟩;walk_at "su";walk_at "go";refine ⟨_,h1,?_⟩;cases b
 · walk_at "go"
   exact q
 · walk_at "go"
   refine ⟨_,h2 rfl,?_⟩;walk_at "go";exact q
variable (Z2m:Def P w K mg base CX0 1 "is_whole" ["thing"] (Dt K))
include T Z2m in
theorem Z6c(F:Fun K "is_within" "is_within" Z3g f fd):Al P w K mg base CX0 2 f fd ["thing","least","most"] (Gw K):=by
 have sc:A9 ["thing","least","most"] ["thing","least","most"] (A6 Z3g):=by walk_at "sc"
 walk_at "ok"
 · exact n3 h_ fun _ _ _=>rfl
 refine x3 h_ fun v lo hi e_=>y3 e_ fun e0 hv q=>?_;clear e_ h_;subst e0;refine ⟨_,(@A5 _ _ _ (@Ac _ _ _ _ (Oo (Ad Z2m hr rfl Ab (A0 (pv 0) A4)) (On (Yw J5u J5u (pv 1) (pv 0) (pv 2)))))),?_⟩;walk_at "su";obtain ⟨b,c,h1,h2,h3,h4⟩:=J4q (K:=K) (H:=H) hv;walk_at "go";refine ⟨b,h1,c,h2,?_⟩;split
 · rename_i h
   obtain ⟨i,rfl⟩:=h3 h;simp only [wIn]at q;walk_at "go";split
   · rename_i h'
     rw [FA h',Bool.true_and]at q;exact q
   · rename_i h'
     rw [Fw h',Bool.false_and]at q;exact q
 · rename_i h
   have e:wIn lo hi v=false:=by
    cases v with
    | int i=>exact absurd rfl (h4 (by simpa using h) i)
    | _=>rfl
   rw [e]at q;exact q
variable (Zu:Def P w K mg base CX0 2 "is_within" ["thing","least","most"] (Gw K))
include T Zu in
theorem Z4q(F:Fun K "check_places" "check_places" Z1t f fd):Al P w K mg base CX0 3 f fd ["places"] (En):=by
 have sc:A9 ["places"] ["places"] (A6 Z1t):=by walk_at "sc"
 walk_at "ok"
 · exact n1 h_ fun _=>rfl
 refine x1 h_ fun i e_=>y4 e_ fun e0 h1 h2 q=>?_;clear e_ h_;subst e0
 refine ⟨_,(@A5 _ _ _ (Ay (Cb (Bv (Ad Zu hr rfl Ab (A0 (pv 0) (A0 Aa (A0 (Ej rfl T.Z0y) A4))))))
  (@A5 _ _ _ Az)
  Ag)),?_⟩
 walk_at "su";walk_at "go";rw [if_neg (by rw [Mq h1 h2];decide)];exact ⟨rfl,q⟩
variable (Zd:Def P w K mg base CX0 3 "check_places" ["places"] (En))
include T in
theorem Z78(F:Fun K "made_of" "made_of" Z47 f fd):Al P w K mg base CX0 1 f fd ["text","signs"] (Lx):=by
 have sc:A9 ["text","signs"] ["text","signs"] (A6 Z47):=by walk_at "sc"
 walk_at "ok"
 · exact n2 h_ fun _ _=>rfl
 refine x2 h_ fun z w e_=>y3 e_ fun e0 hz q=>?_;clear e_ h_;subst e0;refine ⟨_,(@A5 _ _ _ (@Ac _ _ _ _ (Aq (J1f rfl) rfl T.Z76 (by first | rfl | decide+kernel) (A0 (Kf "sign" [1] rfl rfl (J7u (pv 0)) (fun b=>(K7 J1m (pv 0) (pv 1) (by with_unfolding_all rfl)))) A4)))),?_⟩;walk_at "su";walk_at "go";refine U1 (fun c=>V.bl (decide (c∈w.cps.toList))) hz (fun b c H' Q' hc sm q'=>?_) fun D hD=>?_
 · walk_at "go"
   exact q'
 · refine ⟨_,rfl,z.cps.toList.map fun c=>decide (c∈w.cps.toList),?_,?_⟩
   · rw [FH];exact SqL.of A1
   · rw [List.all_map];exact q _ (A7.new hD)
variable (Z0k:Def P w K mg base CX0 1 "made_of" ["text","signs"] (Lx))
include T Z0k in
theorem Z79(F:Fun K "is_name" "is_name" Z48 f fd):Al P w K mg base CX0 2 f fd ["thing"] (Ek K):=by
 have sc:A9 ["thing"] ["thing"] (A6 Z48):=by walk_at "sc"
 walk_at "ok"
 · exact n1 h_ fun _=>rfl
 refine x1 h_ fun x e_=>y2 e_ fun e0 hx=>?_;clear e_ h_;subst e0
 refine ⟨_,(@A2 _ _ _ _ _ (Ay (Cb (Bv (Aq Dr rfl T.Z08 (by first | rfl | decide+kernel) (A0 (pv 0) (A0 (Lr (v:= .ty "str") rfl T.Z2k (by first | rfl | decide+kernel) rfl) A4)))))
  (@A5 _ _ _ (@Ac _ _ _ _ Cm))
  Ag)
  (@A2 _ _ _ _ _ (Ay (PW.pt (Li (Ak M8 (Aq Cj rfl T.Zt FM (A0 (pv 0) A4)) Aa (nomark _)) (Iu (Ak K6 (Aq Cj rfl T.Zt FM (A0 (pv 0) A4)) (Ej rfl T.Z2t) (nomark _)))))
   (@A5 _ _ _ (@Ac _ _ _ _ Cm))
   Ag)
  (@A5 _ _ _ (@Ac _ _ _ _ (Oo (K7 J1m (@Bn _ _ _ _ _ _ _ Ts (pv 0) Aa (fun _ _=>rfl)) (Lu rfl T.Z38) (by with_unfolding_all rfl)) (On (Ad Z0k hr rfl Ab (A0 (pv 0) (A0 (Ah Au (Lu rfl T.Z38) (Lu rfl T.Z39)) A4))))))))),?_⟩
 walk_at "su";rcases hx with ⟨z,rfl,hz,q⟩ | ⟨hi,q⟩
 · walk_at "go"
   have hl:=Bm (z:=z);split
   · rename_i h1
     have e:B9 z.cps.toList=false:=by unfold B9;rw [Fw (show ¬1≤z.cps.toList.length by omega)];rfl
     rw [e]at q;exact q _ (A7.refl H)
   · rename_i h1
     refine ⟨hz,?_⟩;split
     · have e:B9 z.cps.toList=false:=by unfold B9;rw [Fw (show ¬z.cps.toList.length≤8 by omega),Bool.and_false];rfl
       rw [e]at q;exact q _ (A7.refl H)
     · rename_i h2
       obtain ⟨c,r,hcr⟩:∃c r,z.cps.toList=c::r:=by
        cases h:z.cps.toList with
        | nil=>rw [h]at hl;simp at hl;omega
        | cons c r=>exact ⟨c,r,rfl⟩
       have hn:B9 z.cps.toList=(decide (c∈B1) && z.cps.toList.all fun c=>decide (c∈B1++B8)):=by
        unfold B9;rw [FA (show 1≤z.cps.toList.length by omega),FA (show z.cps.toList.length≤8 by omega)];rw [hcr];rfl
       rw [hn]at q;walk_at "go";refine U2 hz (by rw [hcr];exact Ja8) ?_;walk_at "go";rw [Mo];split
       · rename_i hc
         rw [FA hc,Bool.true_and]at q;walk_at "go";rw [E8,Mo,Qx];exact q
       · rename_i hc
         rw [Fw hc,Bool.false_and]at q;exact q _ (A7.refl H)
 · walk_at "go"
   refine ⟨_,hi,?_⟩;walk_at "go";exact q
variable (Z0l:Def P w K mg base CX0 2 "is_name" ["thing"] (Ek K))
include T Z0l Zu in
theorem Z51(F:Fun K "check_thing" "check_thing" Z28 f fd):Al P w K mg base CX0 3 f fd ["name","cost","room","earlier"] (Gy K):=by
 have sc:A9 ["name","cost","room","earlier"] ["name","cost","room","earlier"] (A6 Z28):=by walk_at "sc"
 walk_at "ok"
 · exact n6 h_ fun _ _ _ _ _ _=>rfl
 refine x6 h_ fun n co r e kvs ks e_=>y5 e_ fun e0 he hk hrow q=>?_;clear e_ h_;subst e0
 refine ⟨_,(@A2 _ _ _ _ _ (Ay (Cb (Bv (Ad Z0l hr rfl Ab (A0 (pv 0) A4))))
  (@A5 _ _ _ Az)
  Ag)
  (@A2 _ _ _ _ _ (Ay (Oj (Tu (Dh hr) (pv 0) (pv 3)))
   (@A5 _ _ _ Az)
   Ag)
  (@A2 _ _ _ _ _ (Ay (Cb (Bv (Ad Zu hr rfl Ab (A0 (pv 1) (A0 Aa (A0 (Ah Tl Aa Aa) A4))))))
   (@A5 _ _ _ Az)
   Ag)
  (@A5 _ _ _ (Ay (Cb (Bv (Ad Zu hr rfl Ab (A0 (pv 2) (A0 Aa (A0 (Ej rfl T.Z3e) A4))))))
   (@A5 _ _ _ Az)
   Ag))))),?_⟩
 walk_at "su";obtain ⟨z,c,w,rfl,rfl,rfl,nz,hb,h1,h2,h3,h4⟩:=O3 hrow;have line:=Bl;have hz8:=J1y hb;walk_at "go";intro H1 sm1;rw [hb];have he1:=sm1 _ _ he;walk_at "go";refine ⟨_,D0.k (k:=Sum.inr z) he1,?_⟩;rw [Ki hk,Fw nz];walk_at "go";refine ⟨rfl,?_⟩;split
 · rename_i h
   exact absurd h (by rw [Mq h1 h2];decide)
 · walk_at "go"
   refine ⟨rfl,?_⟩;split
   · rename_i h
     exact absurd h (by rw [Mq h3 h4];decide)
   · walk_at "go"
     exact q _ sm1
variable (Z0z:Def P w K mg base CX0 3 "check_thing" ["name","cost","room","earlier"] (Gy K))
include T Z0z in
theorem Z5q(F:Fun K "__init__" "Stock.__init__" Z2u f fd):Al P w K mg base CX0 4 f fd ["self","rows"] (Et K Z2):=by
 have sc:A9 ["self","rows","name","cost","room"] ["self","rows"] (A6 Z2u):=by walk_at "sc"
 walk_at "ok"
 · exact n4 h_ fun _ _ _ _=>rfl
 refine x4 h_ fun p dx ra rs e_=>y6 e_ fun e0 hp hrs hall er q=>?_;clear e_ h_;subst e0
 refine ⟨_,(@A2 _ _ _ _ _ (Ay (Ak K6 (Aq Ba rfl T.Zt FM (A0 (pv 1) A4)) (Ej rfl T.Z27) (nomark _))
  (@A5 _ _ _ Az)
  Ag)
  (@A2 _ _ _ _ _ (C1 (pv 0) E7 rfl)
  (@A5 _ _ _ (E2 PassesOwn.never rfl (Cv (pv 1)) (Os rfl (Cg (Bj (i:=2) sc.nd rfl (Or.inl rfl)) (Cg (Bj (i:=3) sc.nd rfl (Or.inl rfl)) (Cg (Bj (i:=4) sc.nd rfl (Or.inl rfl)) Ls))))
   (@A2 _ _ _ _ _ (B0 (Ad Z0z hr rfl Ab (A0 (pv 2) (A0 (pv 3) (A0 (pv 4) (A0 (Av (pv 0) rfl) A4))))))
   (@A5 _ _ _ (Gs (Dh hr) (Av (pv 0) rfl) (pv 2) (Iw (A0 (Aq Xx rfl T.Zt FM (A0 (Av (pv 0) rfl) A4)) (A0 (pv 3) (A0 (pv 4) A4)))) rfl))))))),?_⟩
 walk_at "st";obtain ⟨hl60,hstk⟩:=U6 er;walk_at "go";rw [Fa];split
 · rename_i h
   exact absurd h (by omega)
 · rename_i h
   walk_at "go";intro d hd;have npd:p≠d:=A8 hp hd;walk_at "go";refine ⟨Z2,dx,[],by rw [A3 npd];exact hp,T.Zb,T.Zc,by decide,?_⟩
   have sb0:SameBut p H (upd (upd H d (.dK [])) p (.ins Z2 dx (flds d))):=fun b o e n=>by rw [A3 n,A3 (A8 e hd)];exact e
   have hp0:upd (upd H d (.dK [])) p (.ins Z2 dx (flds d)) p=some (.ins Z2 dx (flds d)):=A1
   have hd0:upd (upd H d (.dK [])) p (.ins Z2 dx (flds d)) d=some (.dK []):=by rw [A3 npd.symm,A1]
   unfold flds at sb0 hp0 hd0;generalize upd (upd H d (HO.dK [])) p (HO.ins Z2 dx (B3 (Str.ofString "things") (V.ref d) []))=H0 at sb0 hp0 hd0 ⊢;walk_at "go";refine ⟨⟨_,SqL.but sb0 hp hrs⟩,?_⟩;refine Ke (xs:=rs.map fun t=>V.ref t.1) (fun i σ H'=>∃v1 v2 v3,σ=[some (V.ref p),some (V.ref ra),v1,v2,v3]∧SameBut p H H'∧H' p=some (.ins Z2 dx (flds d))∧W1 K H' d (rs.take i)∧Gd (Ez (rs.take i)) (rs.drop i)=none) ⟨none,none,none,rfl,sb0,hp0,⟨[],hd0,rfl,fun j t e=>by simp at e⟩,by rw [List.take_zero,List.drop_zero];exact hstk⟩ (fun i σ H' _ h_=>by obtain ⟨v1,v2,v3,_,sb,_⟩:=h_;exact SqL.but sb hp hrs) ?_ ?_
   · rintro i x σ H' hx ⟨v1,v2,v3,rfl,sb,hp',⟨kvs,hd',hk,hm⟩,hst⟩
     rw [Fe]at hx
     cases ht:rs[i]? with
     | none=>rw [ht]at hx;cases hx
     | some t=>
      rw [ht]at hx;simp only [Ht,Option.some.injEq]at hx;subst hx;have hi:i < rs.length:=(Fi.mp ht).1;have r1:=SqT.but sb hp (hall t (Ff ht));rw [S6 ht]at hst
      have hkl:kvs.length=i:=by
       have:=congrArg List.length hk;simp [Ez]at this;omega
      cases hrow:S3 (Ez (rs.take i)) t.2.1 t.2.2.1 t.2.2.2 with
      | some e=>rw [hrow]at hst;cases hst
      | none=>
       rw [hrow]at hst;obtain ⟨z,c,q',e1,e2,e3,nz,hb,_⟩:=O3 hrow;walk_at "go";refine ⟨_,r1,rfl,?_⟩;walk_at "go";refine ⟨Z2,dx,flds d,hp',T.Zb,T.Zc,_,Bu,d,rfl,kvs,hd',_,hk,hrow,fun H1 sm1=>?_⟩;rw [e1,e2,e3];have hp1:=sm1 _ _ hp';have hd1:=sm1 _ _ hd';walk_at "go";refine ⟨Z2,dx,flds d,hp1,T.Zb,T.Zc,_,Bu,?_⟩;walk_at "go";refine ⟨kvs,hd1,by omega,fun t2 ht2=>?_⟩;have np2:p≠t2:=A8 hp1 ht2;have nd2:d≠t2:=A8 hd1 ht2
       have hd2:upd H1 t2 (.tup [.int kvs.length,.int c,.int q']) d=some (.dK kvs):=by rw [A3 nd2];exact hd1
       refine ⟨Z2,dx,flds d,by rw [A3 np2];exact hp1,T.Zb,T.Zc,_,Bu,d,rfl,_,Mg.k (k:=Sum.inr z) hd2 (by omega),?_,?_,?_,?_⟩
       · intro b o eb nb
         have h1:=sm1 _ _ (sb b o eb nb);rw [A3 (A8 eb hd),A3 (A8 h1 ht2)];exact h1
       · rw [A3 npd,A3 np2];exact hp1
       · rw [FQ,ht]
         refine W1.snoc hd2 hk (fun j t' e=>?_) e1 e2 e3 nz A1;obtain ⟨a,q1,q2⟩:=hm j t' e;exact ⟨a,q1,(sm1.trans (A7.new ht2)).tup q2⟩
       · rw [FQ,ht]
         have e:Ez (rs.take kvs.length++(some t).toList)=Ez (rs.take kvs.length)++[sOf t.2.1]:=by unfold Ez;simp
         rw [e];exact hst
   · rintro σ H' ⟨v1,v2,v3,rfl,sb,hp',⟨kvs,hd',hk,hm⟩,hst⟩
     simp only [Fa,Hl,List.drop_length]at hk hm hst;show Q V.non H';refine q _ sb ⟨⟨dx,d,kvs,hp',hd',?_,fun i t ht=>?_⟩,fun dx2 d2 fs2 e1 e2=>?_⟩
     · rw [hk];unfold Ez;rw [FH,FH];rfl
     · rw [Fe]at ht
       cases hr:rs[i]? with
       | none=>rw [hr]at ht;cases ht
       | some t'=>
        rw [hr]at ht;simp only [Ht,Option.some.injEq]at ht;subst ht;exact hm i t' hr
     · rw [hp']at e1
       cases e1;rw [Bu]at e2;cases e2;exact hd
variable (Zw:Pb P w K mg base CX0 4 "Stock" Z2 ["self","rows"] (Et K Z2))
include T in
theorem Z6d(F:Fun K "has" "Stock.has" Z3h f fd):Al P w K mg base CX0 1 f fd ["self","name"] (Pc K Z2):=by
 have sc:A9 ["self","name"] ["self","name"] (A6 Z3h):=by walk_at "sc"
 walk_at "ok"
 · exact n3 h_ fun _ _ _=>rfl
 refine x3 h_ fun p ts z e_=>y3 e_ fun e0 hs q=>?_;clear e_ h_;subst e0;refine ⟨_,(@A5 _ _ _ (@Ac _ _ _ _ (Yl (Tu (Dh hr) (pv 1) (Av (pv 0) rfl))))),?_⟩;walk_at "su";obtain ⟨dx,d,kvs,h1,h2,h3,h4,h5⟩:=Af.has hs;walk_at "go";refine ⟨Z2,dx,flds d,h1,T.Zb,T.Zc,_,Bu,d,rfl,_,D0.k (k:=Sum.inr z) h2,?_⟩;rw [h4];exact q
variable (Z1z:Ck P w K mg base CX0 1 Z2 "has" ["self","name"] (Pc K Z2))
include T in
theorem Z4e(F:Fun K "thing_of" "Stock.thing_of" Z1b f fd):Al P w K mg base CX0 1 f fd ["self","name"] (Eo K Z2):=by
 have sc:A9 ["self","name"] ["self","name"] (A6 Z1b):=by walk_at "sc"
 walk_at "ok"
 · exact n3 h_ fun _ _ _=>rfl
 refine x3 h_ fun p ts z e_=>y5 e_ fun e0 hs nd hz q=>?_;clear e_ h_;subst e0
 refine ⟨_,(@A2 _ _ _ _ _ (Ay (Oj (Xw (Dh hr) (pv 1) (Av (pv 0) rfl)))
  (@A5 _ _ _ Az)
  Ag)
  (@A5 _ _ _ (@Ac _ _ _ _ (P1 (Dh hr) (Av (pv 0) rfl) (pv 1) (fun _ _=>rfl))))),?_⟩
 walk_at "su";obtain ⟨dx,d,kvs,h1,h2,h3,h4,h5⟩:=Af.has hs;have line:=Bl;walk_at "go";refine ⟨Z2,dx,flds d,h1,T.Zb,T.Zc,_,Bu,d,rfl,_,D0.k (k:=Sum.inr z) h2,?_⟩;rw [h4,FA hz];obtain ⟨i,t,ht,rfl⟩:=W8 hz;obtain ⟨a,e1,e2⟩:=h5 nd i t ht;walk_at "go";refine ⟨Z2,dx,flds d,h1,T.Zb,T.Zc,_,Bu,?_⟩;walk_at "go";refine ⟨V.ref a,by rw [← e1];exact D0.k (k:=Sum.inr t.1) h2,?_⟩;exact q i t ht rfl a e2
variable (Zj:Ck P w K mg base CX0 1 Z2 "thing_of" ["self","name"] (Eo K Z2))
include T Zj in
theorem Z4k(F:Fun K "room_of" "Stock.room_of" Z1e f fd):Al P w K mg base CX0 2 f fd ["self","name"] (Ia K Z2):=by
 have sc:A9 ["self","name"] ["self","name"] (A6 Z1e):=by walk_at "sc"
 walk_at "ok"
 · exact n3 h_ fun _ _ _=>rfl
 refine x3 h_ fun p ts z e_=>y5 e_ fun e0 hs nd hz q=>?_;clear e_ h_;subst e0;refine ⟨_,(@A5 _ _ _ (@Ac _ _ _ _ (@Bn _ _ _ _ _ _ _ Cp (Am Zj T.Zb hr (As Ab) (pv 0) (A0 (pv 1) A4)) Aa (fun _ _=>rfl)))),?_⟩;walk_at "su";obtain ⟨dx,d,kvs,h1,h2,h3,h4,h5⟩:=Af.has hs;walk_at "go";refine ⟨dx,flds d,h1,by rfl,?_⟩;walk_at "go";refine ⟨ts,hs,nd,hz,fun i t ht e a ha=>?_⟩;subst e;refine D4 ha rfl ?_;rw [O9 nd ht]at q;exact q
variable (Z5:Ck P w K mg base CX0 2 Z2 "room_of" ["self","name"] (Ia K Z2))
include T Zj in
theorem Z4l(F:Fun K "cost_of" "Stock.cost_of" Z1f f fd):Al P w K mg base CX0 2 f fd ["self","name"] (Eb K Z2):=by
 have sc:A9 ["self","name"] ["self","name"] (A6 Z1f):=by walk_at "sc"
 walk_at "ok"
 · exact n3 h_ fun _ _ _=>rfl
 refine x3 h_ fun p ts z e_=>y5 e_ fun e0 hs nd hz q=>?_;clear e_ h_;subst e0;refine ⟨_,(@A5 _ _ _ (@Ac _ _ _ _ (@Bn _ _ _ _ _ _ _ Cp (Am Zj T.Zb hr (As Ab) (pv 0) (A0 (pv 1) A4)) Aa (fun _ _=>rfl)))),?_⟩;walk_at "su";obtain ⟨dx,d,kvs,h1,h2,h3,h4,h5⟩:=Af.has hs;walk_at "go";refine ⟨dx,flds d,h1,by rfl,?_⟩;walk_at "go";refine ⟨ts,hs,nd,hz,fun i t ht e a ha=>?_⟩;subst e;refine D4 ha rfl ?_;rw [Ph nd ht]at q;exact q
variable (Zf:Ck P w K mg base CX0 2 Z2 "cost_of" ["self","name"] (Eb K Z2))
include T Zd Z1z Z5 in
theorem Z5r(F:Fun K "check_asks" "check_asks" Z2v f fd):Al P w K mg base CX0 4 f fd ["stock","asks","places"] (N41.Ib K Z2):=by
 have sc:A9 ["stock","asks","places","number","name"] ["stock","asks","places"] (A6 Z2v):=by walk_at "sc"
 walk_at "ok"
 · exact n5 h_ fun _ _ _ _ _=>rfl
 refine x5 h_ fun p a pl ts ys e_=>y10 e_ fun e0 hs nd hS hl hin hw h1 h2 q=>?_;clear e_ h_;subst e0
 refine ⟨_,(@A2 _ _ _ _ _ (B0 (Ad Zd hr rfl Ab (A0 (pv 2) A4)))
  (@A2 _ _ _ _ _ (Ay (Ak K6 (Aq Ba rfl T.Zt FM (A0 (pv 1) A4)) (Ej rfl T.Z3f) (nomark _))
   (@A5 _ _ _ Az)
   Ag)
  (@A2 _ _ _ _ _ (E2 PassesOwn.never rfl (J4v rfl T.Z3d (A0 (pv 1) A4)) (Os rfl (Cg (Bj (i:=3) sc.nd rfl (Or.inl rfl)) (Cg (Bj (i:=4) sc.nd rfl (Or.inl rfl)) Ls)))
   (@A2 _ _ _ _ _ (Ay (Cb (Bv (Am Z1z T.Zb hr (As Ab) (pv 0) (A0 (pv 4) A4))))
    (@A5 _ _ _ Az)
    Ag)
   (@A5 _ _ _ (Ay (Ak K6 (Am Z5 T.Zb hr (As Ab) (pv 0) (A0 (pv 4) A4)) (pv 2) (nomark _))
    (@A5 _ _ _ Az)
    Ag))))
  (@A5 _ _ _ (@Ac _ _ _ _ Cm))))),?_⟩
 walk_at "st";walk_at "go";rw [Fa,if_neg (by omega)];walk_at "go";refine ⟨⟨_,hS⟩,?_⟩;rename_i rest hrest;refine J4w (xs:=ys.map V.str) (fun i σ H'=>∃v3 v4,σ=[some (V.ref p),some (V.ref a),some (V.int pl),v3,v4]∧A7 H H') ⟨none,none,rfl,A7.refl _⟩ (fun i σ H' _ ⟨v3,v4,_,sm⟩=>sm.seq hS) ?_ ?_
 · rintro i x σ H' t hx ⟨v3,v4,rfl,sm⟩ ht
   rw [Fe]at hx
   cases hy:ys[i]? with
   | none=>rw [hy]at hx;cases hx
   | some y=>
    rw [hy]at hx;cases hx;have hyin:=hin y (Ff hy);walk_at "go";refine ⟨_,SqT.of A1,rfl,_,_,rfl,_,_,rfl,rfl,?_⟩;have sm2:=sm.trans (A7.new (o:= .tup [.int i,.str y]) ht);generalize upd H' t (.tup [.int i,.str y])=H2 at sm2 ⊢;have hs2:=Af.same sm2 hs;obtain ⟨dx,d,kvs,g1,g2,_⟩:=Af.has hs2;walk_at "go";refine ⟨dx,flds d,g1,by rfl,ts,hs2,?_⟩;rw [if_neg (fun h=>h hyin)];walk_at "go";refine ⟨dx,flds d,g1,by rfl,ts,hs2,nd,hyin,?_⟩;rw [if_neg (by have:=hw y (Ff hy);omega)];exact sm2
 · rintro σ H' ⟨v3,v4,rfl,sm⟩
   walk_at "go";exact q _ sm
variable (Zg:Def P w K mg base CX0 4 "check_asks" ["stock","asks","places"] (N41.Ib K Z2))
include T Zd in
theorem Z5s(F:Fun K "__init__" "Shelf.__init__" Z2w f fd):Al P w K mg base CX0 4 f fd ["self","stock","places"] (Kj Z3):=by
 have sc:A9 ["self","stock","places"] ["self","stock","places"] (A6 Z2w):=by walk_at "sc"
 walk_at "ok"
 · exact n4 h_ fun _ _ _ _=>rfl
 refine x4 h_ fun s dx p n e_=>y5 e_ fun e0 hs h1 h2 q=>?_;clear e_ h_;subst e0
 refine ⟨_,(@A2 _ _ _ _ _ (B0 (Ad Zd hr rfl Ab (A0 (pv 2) A4)))
  (@A2 _ _ _ _ _ (C1 (pv 0) (pv 1) rfl)
  (@A2 _ _ _ _ _ (C1 (pv 0) (pv 2) rfl)
  (@A5 _ _ _ (C1 (pv 0) E7 rfl))))),?_⟩
 walk_at "su";walk_at "go";refine ⟨Z3,dx,[],hs,T.Z7,T.Z00,by decide,?_⟩;walk_at "go";refine ⟨Z3,dx,_,A1,T.Z7,T.Z0o,by simp [B3],?_⟩;walk_at "go";intro d hd
 have nd:d≠s:=fun e=>by rw [e,A1]at hd;cases hd
 have hd0:H d=none:=by rw [A3 nd]at hd;exact hd
 refine ⟨Z3,dx,_,by rw [A3 nd.symm,A1],T.Z7,T.Zp,by have:=Dq "places" (V.int n) (B3 "stock" (V.ref p) []);have:=Dq "stock" (V.ref p) [];simp at *;omega,?_⟩;refine q _ d (fun b o e nb=>?_) hd0 ⟨⟨dx,A1⟩,by rw [A3 nd,A1];rfl,Ho⟩;rw [A3 nb,A3 (A8 e hd0),A3 nb];exact e
variable (Zx:Pb P w K mg base CX0 4 "Shelf" Z3 ["self","stock","places"] (Kj Z3))
include T in
theorem Z52(F:Fun K "lying" "Shelf.lying" Z29 f fd):Al P w K mg base CX0 1 f fd ["self"] (Kk Z3):=by
 have sc:A9 ["self"] ["self"] (A6 Z29):=by walk_at "sc"
 walk_at "ok"
 · exact n5 h_ fun _ _ _ _ _=>rfl
 refine x5 h_ fun s p d n ls e_=>y3 e_ fun e0 hs q=>?_;clear e_ h_;subst e0;refine ⟨_,(@A5 _ _ _ (@Ac _ _ _ _ (Bq (Mn rfl) rfl T.Z46 (by first | rfl | decide+kernel) (A0 (Av (pv 0) rfl) A4)))),?_⟩;walk_at "su";obtain ⟨⟨dx,ho⟩,hd,_⟩:=hs;walk_at "go";refine ⟨Z3,dx,_,ho,T.Z7,T.Zp,_,Ea,?_⟩;walk_at "go";refine ⟨_,hd,fun l hl=>?_⟩;rw [Y5];exact q l hl
variable (Zs:Ck P w K mg base CX0 1 Z3 "lying" ["self"] (Kk Z3))
include T in
theorem Z53(F:Fun K "holds" "Shelf.holds" Z2a f fd):Al P w K mg base CX0 1 f fd ["self","name"] (Kl Z3):=by
 have sc:A9 ["self","name"] ["self","name"] (A6 Z2a):=by walk_at "sc"
 walk_at "ok"
 · exact n6 h_ fun _ _ _ _ _ _=>rfl
 refine x6 h_ fun s p d n ls z e_=>y3 e_ fun e0 hs q=>?_;clear e_ h_;subst e0;refine ⟨_,(@A5 _ _ _ (@Ac _ _ _ _ (Yl (Tu (Dh hr) (pv 1) (Av (pv 0) rfl))))),?_⟩;walk_at "su";obtain ⟨⟨dx,ho⟩,hd,_⟩:=hs;walk_at "go";refine ⟨Z3,dx,_,ho,T.Z7,T.Zp,_,Ea,d,rfl,_,D0.k (k:=Sum.inr z) hd,?_⟩;rw [Pe];exact q
variable (Z6:Ck P w K mg base CX0 1 Z3 "holds" ["self","name"] (Kl Z3))
include T in
theorem Z4d(F:Fun K "room_left" "Shelf.room_left" Z0v f fd):Al P w K mg base CX0 1 f fd ["self"] (Lz Z3):=by
 have sc:A9 ["self"] ["self"] (A6 Z0v):=by walk_at "sc"
 walk_at "ok"
 · exact n5 h_ fun _ _ _ _ _=>rfl
 refine x5 h_ fun s p d n ls e_=>y3 e_ fun e0 hs q=>?_;clear e_ h_;subst e0;refine ⟨_,(@A5 _ _ _ (@Ac _ _ _ _ (Ah Ot (Av (pv 0) rfl) (Aq (Y1 rfl) rfl T.Z4p (by first | rfl | decide+kernel) (A0 (J7c Re PySem.F.slot_dict_values PySem.F.type_dict_values Y0 (Av (pv 0) rfl)) A4))))),?_⟩;walk_at "su";obtain ⟨⟨dx,ho⟩,hd,_⟩:=hs;walk_at "go";refine ⟨Z3,dx,_,ho,T.Z7,T.Z0o,_,U8,Z3,dx,_,ho,T.Z7,T.Zp,_,Ea,?_⟩;refine ⟨.inr (.inr (.inl ⟨rfl,.inl ⟨_,hd⟩⟩)),d,rfl,_,hd,fun v hv=>⟨d,A1,_,(A7.new hv) _ _ hd,_,J25,n,rfl,q _ (A7.new hv)⟩⟩
variable (Z9:Ck P w K mg base CX0 1 Z3 "room_left" ["self"] (Lz Z3))
include T Z5 Z6 Z9 in
theorem Z6e(F:Fun K "put" "Shelf.put" Z3i f fd):Al P w K mg base CX0 4 f fd ["self","name"] (M0 K Z2 Z3):=by
 have sc:A9 ["self","name","room"] ["self","name"] (A6 Z3i):=by walk_at "sc"
 walk_at "ok"
 · exact n8 h_ fun _ _ _ _ _ _ _ _=>rfl
 refine x8 h_ fun s p d n ls ts z r e_=>y10 e_ fun e0 hs hx nd hl hz hr' hin hle q=>?_;clear e_ h_;subst e0
 refine ⟨_,(@A2 _ _ _ _ _ (Aj (i:=2) sc.nd rfl (Or.inl rfl) (Am Z5 T.Zb hr (As Ab) (Av (pv 0) rfl) (A0 (pv 1) A4)))
  (@A2 _ _ _ _ _ (Ay (Bv (Am Z6 T.Z7 hr (As Ab) (pv 0) (A0 (pv 1) A4)))
   (@A5 _ _ _ Az)
   Ag)
  (@A2 _ _ _ _ _ (Ay (Ak K6 (pv 2) (Df Z9 T.Z7 hr (As Ab) (pv 0)) (nomark _))
   (@A5 _ _ _ Az)
   Ag)
  (@A5 _ _ _ (Gs (Dh hr) (Av (pv 0) rfl) (pv 1) (pv 2) rfl))))),?_⟩
 walk_at "st";have hsA:=hs;obtain ⟨⟨dx,ho⟩,hd,hnd⟩:=hs;obtain ⟨dy,e,kvs,h1,h2,h3,h4,h5⟩:=Af.has hx.at;walk_at "go";refine ⟨Z3,dx,_,ho,T.Z7,T.Z00,_,La,?_⟩;walk_at "go";refine ⟨dy,flds e,h1,by rfl,ts,hx.at,nd,hz,?_⟩;rw [Jan nd hz hr'];walk_at "go";refine ⟨dx,_,ho,by rfl,?_⟩;walk_at "go";refine ⟨_,_,_,_,hsA,?_⟩;rw [if_neg (by simpa using hin)];walk_at "go";refine ⟨dx,_,ho,by rfl,_,_,_,_,hsA,fun H1 sm1=>?_⟩;rw [if_neg (by omega)];walk_at "go";refine ⟨Z3,dx,_,sm1 _ _ ho,T.Z7,T.Zp,_,Ea,?_⟩
 have hll:(lyK ls).length < sizeLine:=by unfold lyK;rw [Fa];omega
 refine ⟨d,rfl,_,Mg.k (k:=Sum.inr z) (sm1 _ _ hd) hll,?_⟩;refine q _ (fun b o e n=>?_) (hsA.put sm1 hin);rw [A3 n];exact sm1 _ _ e
variable (Z05:Ck P w K mg base CX0 4 Z3 "put" ["self","name"] (M0 K Z2 Z3))
include T Z6 in
theorem Z5t(F:Fun K "cast" "Shelf.cast" Z2x f fd):Al P w K mg base CX0 2 f fd ["self","name"] (Km Z3):=by
 have sc:A9 ["self","name"] ["self","name"] (A6 Z2x):=by walk_at "sc"
 walk_at "ok"
 · exact n6 h_ fun _ _ _ _ _ _=>rfl
 refine x6 h_ fun s p d n ls z e_=>y4 e_ fun e0 hs hin q=>?_;clear e_ h_;subst e0
 refine ⟨_,(@A2 _ _ _ _ _ (Ay (Cb (Bv (Am Z6 T.Z7 hr (As Ab) (pv 0) (A0 (pv 1) A4))))
  (@A5 _ _ _ Az)
  Ag)
  (@A5 _ _ _ (B0 (J0i (Av (pv 0) rfl) (pv 1) ⟨rfl,rfl,rfl,rfl⟩)))),?_⟩
 walk_at "st";have hsA:=hs;obtain ⟨⟨dx,ho⟩,hd,hnd⟩:=hs;walk_at "go";refine ⟨dx,_,ho,by rfl,_,_,_,_,hsA,?_⟩;rw [if_neg (fun h=>h hin)];walk_at "go";have hv:=Pe (ls:=ls) (z:=z);rw [FA hin]at hv;obtain ⟨v,hv⟩:=Rc.mp hv;refine ⟨Z3,dx,_,ho,T.Z7,T.Zp,_,Ea,d,rfl,.inl ⟨_,.inl hd⟩,_,hd,Sum.inr z,rfl,v,hv,?_⟩;exact q _ (fun b o e n=>by rw [A3 n];exact e) hsA.cast
variable (Zy:Ck P w K mg base CX0 2 Z3 "cast" ["self","name"] (Km Z3))
include T in
theorem Z54(F:Fun K "names" "Stock.names" Z2b f fd):Al P w K mg base CX0 1 f fd ["self"] (Pd K Z2):=by
 have sc:A9 ["self"] ["self"] (A6 Z2b):=by walk_at "sc"
 walk_at "ok"
 · exact n2 h_ fun _ _=>rfl
 refine x2 h_ fun p ts e_=>y3 e_ fun e0 hs q=>?_;clear e_ h_;subst e0;refine ⟨_,(@A5 _ _ _ (@Ac _ _ _ _ (Bq (Mn rfl) rfl T.Z46 (by first | rfl | decide+kernel) (A0 (Av (pv 0) rfl) A4)))),?_⟩;walk_at "su";obtain ⟨dx,d,kvs,h1,h2,h3,h4,h5⟩:=Af.has hs;walk_at "go";refine ⟨Z2,dx,flds d,h1,T.Zb,T.Zc,_,Bu,?_⟩;walk_at "go";refine ⟨_,h2,fun l hl=>?_⟩;rw [h3];have:=q l hl;rw [FH]at this;exact this
variable (Z10:Ck P w K mg base CX0 1 Z2 "names" ["self"] (Pd K Z2))
include T Z6 Zy in
theorem Z6f(F:Fun K "casts_off" "casts_off" Z3j f fd):Al P w K mg base CX0 3 f fd ["shelf","name","gone"] (Ep K Z3):=by
 have sc:A9 ["shelf","name","gone","other"] ["shelf","name","gone"] (A6 Z3j):=by walk_at "sc"
 walk_at "ok"
 · exact n8 h_ fun _ _ _ _ _ _ _ _=>rfl
 refine x8 h_ fun q' p d g n ls z gone e_=>y5 e_ fun e0 hs hg hok q=>?_;clear e_ h_;subst e0
 refine ⟨_,(@A2 _ _ _ _ _ (E2 PassesOwn.never rfl (Cv (pv 2)) (Bj (i:=3) sc.nd rfl (Or.inl rfl))
  (@A2 _ _ _ _ _ (Ay (PW.pt (Li (Ak G6 (pv 3) (pv 1) (nomark _)) (Iu (Cb (Bv (Am Z6 T.Z7 hr (As Ab) (pv 0) (A0 (pv 3) A4)))))))
   (@A5 _ _ _ (@Ac _ _ _ _ Cm))
   Ag)
  (@A5 _ _ _ (B0 (Am Zy T.Z7 hr (As Ab) (pv 0) (A0 (pv 3) A4))))))
  (@A5 _ _ _ (@Ac _ _ _ _ Cm))),?_⟩
 walk_at "st";have hd0:=hs.d;walk_at "go";refine ⟨⟨_,hg⟩,?_⟩;refine Ke (xs:=gone.map V.str) (fun i σ H'=>∃(v3:Option V),σ=[some (V.ref q'),some (V.str z),some (V.ref g),v3]∧SameBut d H H'∧Ax Z3 H' q' p d n (G0 ls (gone.take i))) ⟨none,rfl,.of (A7.refl H),hs⟩ (fun i σ H' _ h_=>by obtain ⟨v3,_,sb,_⟩:=h_;exact SqL.butD sb hd0 hg) ?_ ?_
 · rintro i v σ H' hv ⟨v3,rfl,sb,hs'⟩
   rw [Fe]at hv
   cases ho:gone[i]? with
   | none=>rw [ho]at hv;cases hv
   | some o=>
    rw [ho]at hv;cases hv;obtain ⟨h1,h2⟩:=J2p hok ho;rw [Yb ho];obtain ⟨⟨dx,ho'⟩,hd',hnd'⟩:=id hs';walk_at "go";rw [if_neg h1];refine ⟨dx,_,ho',by rfl,_,_,_,_,hs',?_⟩;rw [if_neg (fun h=>h h2)];walk_at "rs";refine ⟨dx,_,ho',by rfl,?_⟩;refine ⟨_,_,_,_,hs',h2,fun H2 sb2 hs2=>⟨sb.trans sb2,hs2⟩⟩
 · rintro σ H' ⟨v3,rfl,sb,hs'⟩
   rw [Fa,Hl]at hs';walk_at "go";exact q H' sb hs'
variable (Z20:Def P w K mg base CX0 3 "casts_off" ["shelf","name","gone"] (Ep K Z3))
include T Z6 Z20 Z5 Z9 Z05 in
theorem Z7l(F:Fun K "serves" "serves" Z4g f fd):Al P w K mg base CX0 5 f fd ["shelf","name","row"] (Dv K Z2 Z3):=by
 have sc:A9 ["shelf","name","row","there"] ["shelf","name","row"] (A6 Z4g):=by walk_at "sc"
 walk_at "ok"
 · exact n10 h_ fun _ _ _ _ _ _ _ _ _ _=>rfl
 refine x10 h_ fun q' p d r g n ls ts z row e_=>y10 e_ fun e0 hs hx nd hz hl hr' hg hok q=>?_;clear e_ h_;subst e0
 refine ⟨_,(@A2 _ _ _ _ _ (Aj (i:=3) sc.nd rfl (Or.inl rfl) (Am Z6 T.Z7 hr (As Ab) (pv 0) (A0 (pv 1) A4)))
  (@A2 _ _ _ _ _ (Ay (PW.pt (Li (Ak Iq (@Bn _ _ _ _ _ _ _ Cp (pv 2) Aa (fun _ _=>rfl)) (pv 1) (nomark _)) (Iu (Ak Iq (@Bn _ _ _ _ _ _ _ Cp (pv 2) Aa (fun _ _=>rfl)) (pv 3) (nomark _)))))
   (@A5 _ _ _ (@Ac _ _ _ _ Cm))
   Ag)
  (@A2 _ _ _ _ _ (Ay (Cb (Bv (Ad Z20 hr rfl Ab (A0 (pv 0) (A0 (pv 1) (A0 (@Bn _ _ _ _ _ _ _ Cp (pv 2) Aa (fun _ _=>rfl)) A4))))))
   (@A5 _ _ _ (@Ac _ _ _ _ Cm))
   Ag)
  (@A2 _ _ _ _ _ (Ay (Bv (pv 3))
   (@A5 _ _ _ (@Ac _ _ _ _ Cm))
   Ag)
  (@A2 _ _ _ _ _ (Ay (Ak K6 (Am Z5 T.Zb hr (As Ab) (Av (pv 0) rfl) (A0 (pv 1) A4)) (Df Z9 T.Z7 hr (As Ab) (pv 0)) (nomark _))
   (@A5 _ _ _ (@Ac _ _ _ _ Cm))
   Ag)
  (@A2 _ _ _ _ _ (B0 (Am Z05 T.Z7 hr (As Ab) (pv 0) (A0 (pv 1) A4)))
  (@A5 _ _ _ (@Ac _ _ _ _ Cm)))))))),?_⟩
 walk_at "st";obtain ⟨⟨dx,ho⟩,hd,hnd⟩:=id hs;obtain ⟨e1,e2,e3,e4⟩:=hok;obtain ⟨r0,r1,r2⟩:=row;simp only at e1 e2 e3 e4 hr' hg q;subst e1;walk_at "go";refine ⟨dx,_,ho,by rfl,_,_,_,_,hs,?_⟩;walk_at "go";refine ⟨_,_,_,_,hs,_,hg,e3,fun H1 sb1 hs1=>?_⟩;walk_at "rt";obtain ⟨⟨dx1,ho1⟩,hd1,hnd1⟩:=id hs1;walk_at "go"
 by_cases hin:r0∈lyN ls
 · rw [if_pos hin]
   refine q H1 sb1 ?_;unfold D9;rw [if_pos hin];exact hs1
 rw [if_neg hin];walk_at "rt";have hx1:=hx.butD sb1 hd;obtain ⟨dy,e,kvs,h1,h2,h3,h4,h5⟩:=Af.has hx1.at;walk_at "go";refine ⟨Z3,dx1,_,ho1,T.Z7,T.Z00,_,La,_,rfl,dy,flds e,h1,by rfl,_,rfl,ts,hx1.at,nd,hz,dx1,_,ho1,by rfl,_,_,_,_,hs1,fun H2 sm2=>?_⟩;have hroom:=e4 hin;rw [if_neg (by omega)];walk_at "rt";have hs2:=hs1.same sm2;have hx2:=hx1.same sm2;have hle:=Wn ls r2;obtain ⟨⟨dx2,ho2⟩,hd2,hnd2⟩:=id hs2;walk_at "go";refine ⟨dx2,_,ho2,by rfl,_,_,_,_,hs2,ts,hx2,nd,by omega,hz,rm ts r0,fun t ht e=>?_,fun h=>hin (Sk.mp h).1,hroom,fun H3 sb3 hs3=>?_⟩
 · obtain ⟨i,hi⟩:=Rt ht
   rw [← e,O9 nd hi]
 walk_at "rs";refine q H3 ((sb1.trans (.of sm2)).trans sb3) ?_;unfold D9;rw [if_neg hin];exact hs3
variable (Z3x:Def P w K mg base CX0 5 "serves" ["shelf","name","row"] (Dv K Z2 Z3))
include T Zg Zx Z3x Zs in
theorem Z55(F:Fun K "lying_after" "lying_after" Z2c f fd):Al P w K mg base CX0 7 f fd ["stock","asks","places","book"] (Er K Z2):=by
 have sc:A9 ["stock","asks","places","book","shelf","told","name","row"] ["stock","asks","places","book"] (A6 Z2c):=by walk_at "sc"
 walk_at "ok"
 · exact n9 h_ fun _ _ _ _ _ _ _ _ _=>rfl
 refine x9 h_ fun p a b n ts ys as gs rs e_=>y12 e_ fun e0 hst nd ha hlen hin hrm hn1 hn2 hb hlaw q=>?_;clear e_ h_;subst e0
 refine ⟨_,(@A2 _ _ _ _ _ (B0 (Ad Zg hr rfl Ab (A0 (pv 0) (A0 (pv 1) (A0 (pv 2) A4)))))
  (@A2 _ _ _ _ _ (Aj (i:=4) sc.nd rfl (Or.inl rfl) (E9 Zx hr rfl (As Ab) (A0 (pv 0) (A0 (pv 2) A4))))
  (@A2 _ _ _ _ _ (Aj (i:=5) sc.nd rfl (Or.inl rfl) (@Bp _ _ _ _ A4))
  (@A2 _ _ _ _ _ (E2 PassesOwn.never rfl (J2b rfl T.Z64 (A0 (pv 1) (A0 (pv 3) A4))) (Os rfl (Cg (Bj (i:=6) sc.nd rfl (Or.inl rfl)) (Cg (Bj (i:=7) sc.nd rfl (Or.inl rfl)) Ls)))
   (@A2 _ _ _ _ _ (Ay (Cb (Bv (Ad Z3x hr rfl Ab (A0 (pv 4) (A0 (pv 6) (A0 (pv 7) A4))))))
    (@A5 _ _ _ Az)
    Ag)
   (@A5 _ _ _ (B0 (Ey HD Hy Hx Dd (pv 5) (A0 (Df Zs T.Z7 hr (As Ab) (pv 4)) A4))))))
  (@A2 _ _ _ _ _ (Ay (Ak Iq (Aq Ba rfl T.Zt FM (A0 (pv 1) A4)) (Aq Ba rfl T.Zt FM (A0 (pv 3) A4)) (nomark _))
   (@A5 _ _ _ Az)
   Ag)
  (@A5 _ _ _ (@Ac _ _ _ _ (pv 5)))))))),?_⟩
 walk_at "st";walk_at "go";refine ⟨ts,hst,nd,ys,ha,hlen,hin,hrm,hn1,hn2,fun H1 sm1=>?_⟩;walk_at "rs";intro x dx hx hdx hne;refine ⟨dx,A1,hn1,hn2,fun H2 d sb hdn hs2=>?_⟩;have sm2:=sm1.trans (Sn hx hdx sb);have hd0:=Bf sm1 (So hdn);clear hdn sb hdx hne;walk_at "rs";intro l hl;walk_at "rt";have sm3:A7 H (upd H2 l (.lst [])):=Wp sm2 (Bf sm2 hl);have hs3:=hs2.same (A7.new (o:= .lst []) hl);have hx3:=(Bw.of hst hd0).same sm3
 have htold:Pj H (upd H2 l (.lst [])) l [] (stL (rm ts) ys rs) 0:=⟨A1,rfl,by simp,by simp⟩
 have hl0:=Bf sm2 hl;walk_at "go";rename_i rest hrest;refine ⟨⟨_,sm3.seq ha⟩,⟨_,(hb.same sm3).l⟩,?_⟩;clear hl hs2 sm2 hx sm1
 have hlen2:(ys.map V.str).length=(as.map V.ref).length:=by rw [Fa,Fa,hlaw.len,hb.n]
 refine J4x hlen2 (fun i σ H'=>∃(v6 v7:Option V) (qs:List Addr),σ=[some (V.ref p),some (V.ref a),some (V.int n),some (V.ref b),some (V.ref x),some (V.ref l),v6,v7]∧A7 H H'∧Ax Z3 H' x p d n (stL (rm ts) ys rs i)∧Bw K Z2 H' p ts d∧Pj H H' l qs (stL (rm ts) ys rs) i) ⟨none,none,[],rfl,sm3,hs3,hx3,htold⟩ (fun i σ H' _ ⟨_,_,_,_,sm,_⟩=>⟨sm.seq ha,(hb.same sm).l⟩) ?_ ?_
 · clear hs3 hx3 htold sm3 hrest
   rintro i u y σ H' t hu hy ⟨v6,v7,qs,rfl,sm,hs',hx',ht'⟩ htn;rw [Fe]at hu hy
   cases hz:ys[i]? with
   | none=>rw [hz]at hu;cases hu
   | some z=>
   rw [hz]at hu;cases hu
   cases hr:as[i]? with
   | none=>rw [hr]at hy;cases hy
   | some r=>
   rw [hr]at hy;cases hy;have hi:i < as.length:=(Fi.mp hr).1
   have hi2:i < rs.length:=by rw [← hb.n];exact hi
   have hi3:i < gs.length:=by rw [hb.m];exact hi2
   have hrow:=Fb hi2;have hg:=Fb hi3;generalize rs[i]=row at hrow;generalize gs[i]=g at hg;obtain ⟨hT,hG⟩:=hb.t i r g row hr hg hrow;have hok:=hlaw.row hz hrow;have hstep:=Sl (R:=rm ts) hz hrow;have hle:=J84 (rm ts) ys rs i;have hi4:i < ys.length:=(Fi.mp hz).1;have hzin:=hin z (Ff hz);walk_at "go";refine ⟨_,SqT.of A1,rfl,_,_,rfl,_,_,rfl,rfl,?_⟩;have smt:A7 H' (upd H' t (.tup [V.str z,V.ref r])):=A7.new htn;have sm4:=sm.trans smt;have hs4:=hs'.same smt;have hx4:=hx'.same smt;have ht4:=ht'.same smt;generalize upd H' t (.tup [V.str z,V.ref r])=H4 at smt sm4 hs4 hx4 ht4 ⊢;clear smt ht' hx' hs' sm htn;have hT4:=sm4.tup hT;have hG4:=sm4.seq hG;walk_at "go";refine ⟨_,_,g,_,_,hs4,ts,hx4,nd,hzin,by omega,row,hT4,hG4,hok,fun H5 sb5 hs5=>?_⟩;walk_at "rt";have hd4:=hs4.d;have sm5:=Mt sm4 hd0 sb5;have hx5:=hx4.butD sb5 hd4
   rw [← hstep]at hs5;obtain ⟨⟨dx5,ho5⟩,hd5,hnd5⟩:=id hs5
   have hld:l≠d:=fun e=>by have:=ht4.L;rw [e,hd4]at this;cases this
   have hl5:=sb5 _ _ ht4.L hld;walk_at "go";refine ⟨.inl ⟨rfl,_,SqL.of hl5⟩,dx5,_,ho5,by rfl,_,_,_,_,hs5,fun y hy=>?_⟩
   have hly:l≠y:=fun e=>by rw [e,hy]at hl5;cases hl5
   have smy:A7 H5 (upd H5 y (.lst ((lyN (stL (rm ts) ys rs (i+1))).map V.str))):=A7.new hy;have hq4:=ht4.N;refine ⟨_,_,_,rfl,rfl,smy _ _ hl5,by rw [Fa];omega,?_⟩;have key:=ht4.step sm4 hd4 sb5 sm5 hy;rw [Fp]at key;exact ⟨Wp (sm5.trans smy) hl0,(hs5.same smy).butL (fun b o e nb=>by rw [A3 nb];exact e) (smy _ _ hl5),(hx5.same smy).butL (fun b o e nb=>by rw [A3 nb];exact e) (smy _ _ hl5),_,key⟩
 · clear hs3 hx3 htold sm3
   rintro σ H' ⟨v6,v7,qs,rfl,sm,hs',hx',ht'⟩;subst hrest;rw [Fa]at ht' hs';walk_at "go";refine ⟨_,.inl (sm.seq ha),_,.inl (hb.same sm).l,?_⟩;rw [if_neg (by rw [hlen2];exact fun h=>h rfl)];walk_at "rs";exact q l qs H' hl0 sm ht'
variable (Z11:Def P w K mg base CX0 7 "lying_after" ["stock","asks","places","book"] (Er K Z2))
include T Z0k in
theorem Z56(F:Fun K "read_number" "read_number" Z2d f fd):Al P w K mg base CX0 2 f fd ["text"] (M5):=by
 have sc:A9 ["text"] ["text"] (A6 Z2d):=by walk_at "sc"
 walk_at "ok"
 · exact n1 h_ fun _=>rfl
 refine x1 h_ fun z e_=>y3 e_ fun e0 hn q=>?_;clear e_ h_;subst e0
 refine ⟨_,(@A2 _ _ _ _ _ (Ay (PW.pt (Li (Ak M8 (Aq Cj rfl T.Zt FM (A0 (pv 0) A4)) Aa (nomark _)) (Li (Ak K6 (Aq Cj rfl T.Zt FM (A0 (pv 0) A4)) (Ej rfl T.Z1s) (nomark _)) (Iu (Cb (Bv (Ad Z0k hr rfl Ab (A0 (pv 0) (A0 (Lu rfl T.Z39) A4)))))))))
  (@A5 _ _ _ Az)
  Ag)
  (@A2 _ _ _ _ _ (Ay (PW.pt (Om (Ak G6 (@Bn _ _ _ _ _ _ _ Ts (pv 0) Aa (fun _ _=>rfl)) Ai (nomark _)) (Ol (Ak Iq (pv 0) Ai (nomark _)))))
   (@A5 _ _ _ Az)
   Ag)
  (@A5 _ _ _ (@Ac _ _ _ _ (Bq Ng rfl T.Z4o (by first | rfl | decide+kernel) (A0 (pv 0) A4)))))),?_⟩
 walk_at "st";have hl:=Bm (z:=z)
 obtain ⟨h1,h2,h3,h4⟩:1≤z.length∧z.length≤31∧(z.cps.toList.all fun c=>decide (c∈B8))=true∧(L8 z.cps.toList [48] && !decide (z.cps.toList=[48]))=false:=by
  have h:=hn;unfold Qz at h;simp only [Hc,decide_eq_true_eq,Bool.not_eq_true']at h;exact ⟨by omega,by omega,h.1.2,h.2⟩
 walk_at "go";rw [if_neg (by omega)];refine ⟨by omega,?_⟩;rw [if_neg (by omega)];refine ⟨by omega,fun H1 sm1=>?_⟩;rw [Qx,if_neg (by rw [h3];simp)]
 obtain ⟨c,r,hcr⟩:∃c r,z.cps.toList=c::r:=by
  cases h:z.cps.toList with
  | nil=>rw [h]at hl;simp at hl;omega
  | cons c r=>exact ⟨c,r,rfl⟩
 have fin:(∃x,PySem.intText? z=some x∧z.length≤640∧Q (V.int x) H1):=⟨_,J1w h3 (by rw [hcr];simp) (by omega),by omega,q _ sm1⟩
 walk_at "rs";refine U2 (by omega) (by rw [hcr];exact Ja8) ?_;walk_at "go";simp only [J4p];simp only [J1v];split
 · rename_i h5
   have h7:z.cps.toList=[48]:=by
    rw [hcr,h5]at h4;rw [hcr,h5]
    simpa [L8] using h4
   rw [if_neg (fun h6=>h6 h7)];walk_at "go";exact fin
 · walk_at "go"
   exact fin
variable (Z12:Def P w K mg base CX0 2 "read_number" ["text"] (M5))
include T in
theorem Z7a(F:Fun K "weighed" "weighed" Z49 f fd):Al P w K mg base CX0 5 f fd ["book","weigh"] (Dz P w K mg base):=by
 have sc:A9 ["book","weigh"] ["book","weigh"] (A6 Z49):=by walk_at "sc"
 walk_at "ok"
 · exact n3 h_ fun _ _ _=>rfl
 refine x3 h_ fun p b bs e_=>y6 e_ fun e0 hB hbl hin hJ q=>?_;clear e_ h_;subst e0;refine ⟨_,(@A5 _ _ _ (@Ac _ _ _ _ (Aq (O8 rfl) rfl T.Z4p (by first | rfl | decide+kernel) (A0 (J2d "row" [1] rfl rfl (Cv (pv 0)) (fun b=>(Cb (Bv (@Bn _ _ _ _ _ _ _ Cp (pv 0) Aa (fun _ _=>rfl))))) (fun b=>(J3j (fa:=(fun b:Wg P w K mg base=>b.f)) (J:=(fun b=>b.J)) (sp:=(fun b=>spW b.zs b.g)) (fun b=>b.ok) hr Ab (pv 1) (A0 (@Bn _ _ _ _ _ _ _ Cp (pv 0) Aa (fun _ _=>rfl)) A4)))) A4)))),?_⟩;walk_at "st";walk_at "go";refine ⟨⟨_,SqL.of hB.l⟩,J2f (xs:=bs.map fun r=>V.ref r.1) (J8i H) (fun x=>V.int (b.g (nmV H x))) (SqL.of hB.l) (by rw [Fa];omega) ?_ ?_ ?_⟩
 · intro b' v H5 QT hx sm q'
   obtain ⟨r,hr,rfl⟩:=Fz.mp hx;have q2:=q' H5 (A7.refl _);rw [Pt (hB.t r hr)]at q2;have g3:=sm _ _ (hB.t r hr);walk_at "go";exact D4 (SqT.of g3) rfl ⟨_,rfl,q2⟩
 · intro b' v H5 Q' hx hm sm q'
   obtain ⟨r,hr,rfl⟩:=Fz.mp hx;have g3:=sm _ _ (hB.t r hr);have hJ2:=b.keep sm hJ;walk_at "go";refine ⟨b,rfl,hJ2,D4 (SqT.of g3) rfl ⟨hJ2,_,rfl,hin r hr (by have:=Pt (hB.t r hr);rw [hm]at this;simpa using this.symm),fun H7 s7=>?_⟩⟩;have:=q' H7 s7;rw [J3r (hB.t r hr)]at this;exact this
 · intro D H' hD sm hD2
   rw [J5d hB.t]at hD2;have q2:=q H' sm;exact ⟨D,rfl,_,SqL.of hD2,q2⟩
variable (Z0m:Def P w K mg base CX0 5 "weighed" ["book","weigh"] (Dz P w K mg base))
theorem J5n{f:Addr}{zs:List Str}(T:Txt K mg xF_thing xF_ask xF_again xF_run xF_book Z2 Z3 Zl Z8 Z0 Z1 Z4 xanswer_thing xanswer_ask xanswer_again xanswer_run xanswer_book xmake_first xmake_oldest Zo Zm Ze):Ln P w K mg base CX0 4 f (Mz J5l [] · f) (spW zs fun _=>1):=by
 have sc:C7 ["name"] ["name"] J5l.scope []:=C7.mk0 (ps:=["name"]) (sc:=J5l.scope) rfl rfl rfl (by decide+kernel) (by decide+kernel) (by decide+kernel) (by decide+kernel);refine Ln.ofLam (fvs:=[]) sc (fun pm ct cd us hl=>match us,hl with | [_],_=>rfl) (fun vs H Q E h=>?_) (fun H h=>⟨h,.nil⟩) (fun cd A outer s H vs Q E hr hJ h=>?_)
 · obtain ⟨z,rfl,_⟩:=h;rfl
 obtain ⟨z,rfl,hz,q⟩:=h;refine ⟨_,Aa,?_⟩;walk_at "go";intro _;rw [N7];exact q _ (A7.refl _)
include T Z0m in
theorem Z6g(F:Fun K "missed_by" "missed_by" Z04 f fd)(M:J8f K f 559)(HB:base.BuiltinsAt mg 559):Al P w K mg base CX0 6 f fd ["book"] (Dm 559 (⟨247,25,247,39⟩:Pos) (("missed_by"++".<locals>.")++"<lambda>")):=by
 have sc:A9 ["book"] ["book"] (A6 Z04):=by walk_at "sc"
 refine F.okC M sc (fun vs H Q E h_=>?_) (fun c A outer s H vs Q E hc hr h_=>?_)
 · exact n2 h_ fun _ _=>rfl
 refine x2 h_ fun p bs e_=>y5 e_ fun e0 hB hbl hL q=>?_;clear e_ h_;subst e0;refine ⟨_,(@A5 _ _ _ (@Ac _ _ _ _ (Ad Z0m hr rfl Ab (A0 (pv 0) (A0 (J8e rfl rfl rfl hc (by decide) HB) A4))))),?_⟩;walk_at "st";walk_at "go";refine ⟨hL,fun f2 c2 ct H2 hf2 sb hL2 hc2 hff=>?_⟩;walk_at "go";refine ⟨⟨f2,(Mz J5l [] · f2),bs.map (·.2.1),fun _=>1,J5n T,fun s h=>h.same s⟩,rfl,bs,Lq.tk ⟨sb,hL2⟩ hL hB,hbl,fun r hr _=>Fz.mpr ⟨r,hr,rfl⟩,⟨_,c2,ct,hff,hc2⟩,fun H3 sm3=>q _ ⟨sb.trans (.of sm3),B6 sm3 hL2⟩⟩
variable (Z21:Def P w K mg base CX0 6 "missed_by" ["book"] (Dm 559 (⟨247,25,247,39⟩:Pos) (("missed_by"++".<locals>.")++"<lambda>")))
theorem J5o{f c st:Addr}{ts:List Th}(nd:(ts.map (·.1)).Nodup)(T:Txt K mg xF_thing xF_ask xF_again xF_run xF_book Z2 Z3 Zl Z8 Z0 Z1 Z4 xanswer_thing xanswer_ask xanswer_again xanswer_run xanswer_book xmake_first xmake_oldest Zo Zm Ze)(Zf:Ck P w K mg base CX0 2 Z2 "cost_of" ["self","name"] (Eb K Z2)):Ln P w K mg base CX0 4 f (PJ J5m K Z2 f c st ts) (spW (ts.map (·.1)) (cst ts)):=by
 have sc:C7 ["name","stock"] ["name"] J5m.scope [("stock",c)]:=C7.mk1 (ps:=["name"]) (sc:=J5m.scope) (x:="stock") rfl rfl rfl (by decide+kernel) (by decide+kernel) (by decide+kernel) (by decide+kernel) rfl;refine Ln.ofLam (fvs:=[V.ref st]) sc (fun pm ct cd us hl=>match us,hl with | [_],_=>rfl) (fun vs H Q E h=>?_) (fun H h=>⟨h.1,h.2.1⟩) (fun cd A outer s H vs Q E hr hJ h=>?_)
 · obtain ⟨z,rfl,_⟩:=h;rfl
 obtain ⟨z,rfl,hz,q⟩:=h;refine ⟨_,(Am Zf T.Zb hr (As Ab) (pv 1) (A0 (pv 0) A4)),?_⟩;obtain ⟨o,u,hco,_⟩:=hJ.2.1.get _ (Fu ..);have hst:=Af.odd J5e hco (.inr ⟨_,_,rfl⟩) hJ.2.2;obtain ⟨dx,d,kvs,h1,_⟩:=hst.ex;walk_at "go"
 first | exact ⟨dx,_,h1,rfl,ts,hst,nd,hz,fun _=>by rw [N7];exact q _ (A7.refl _)⟩ | exact ⟨dx,_,h1,rfl,ts,z,rfl,hst,nd,hz,fun _=>by rw [N7];exact q _ (A7.refl _)⟩
include T Z0m Zf in
theorem Z7b(F:Fun K "paid_by" "paid_by" Z0i f fd)(M:J8f K f 566)(HB:base.BuiltinsAt mg 566):Al P w K mg base CX0 6 f fd ["stock","book"] (Gk 566 (⟨249,25,249,57⟩:Pos) (("paid_by"++".<locals>.")++"<lambda>") K Z2):=by
 have sc:A9 ["stock","book"] ["stock","book"] (A6 Z0i):=by walk_at "sc"
 refine F.okC M sc (fun vs H Q E h_=>?_) (fun c A outer s H vs Q E hc hr h_=>?_)
 · exact n4 h_ fun _ _ _ _=>rfl
 refine x4 h_ fun st p ts bs e_=>y8 e_ fun e0 hst nd hB hbl hin hL q=>?_;clear e_ h_;subst e0;refine ⟨_,(@A5 _ _ _ (@Ac _ _ _ _ (J5c (E:=fun _ _ _=>False) (i:=0) Z0m hr rfl (A0 (pv 1) (A0 (J5b rfl rfl rfl hc (by decide) HB) A4)) rfl rfl rfl))),?_⟩;walk_at "st";walk_at "go";refine ⟨hL,fun f2 c2 ct H2 hf2 sb hL2 hc2 hff=>?_⟩
 have tk2:Tk 566 (⟨249,25,249,57⟩:Pos) (("paid_by"++".<locals>.")++"<lambda>") H H2:=⟨sb,hL2⟩
 obtain ⟨tb,htb⟩:=Kt hL;have hst2:=Af.odd sb htb (.inl ⟨_,rfl⟩) hst;have hB2:=Lq.tk tk2 hL hB;walk_at "go";intro o u ho hu hcn;have s3:A7 H2 (upd H2 (s.heap.objs.size+1) (E5 (s.heap.objs.size+1) o)):=C6 hcn;refine ⟨⟨f2,PJ J5m K Z2 f2 (s.heap.objs.size+1) st ts,ts.map (·.1),cst ts,J5o nd T Zf,fun s h=>h.same s⟩,rfl,bs,hB2.same s3,hbl,fun r hr _=>hin r hr,⟨⟨_,c2,ct,s3 _ _ hff,s3 _ _ hc2⟩,.cons ⟨o,u,A1,ho,hu⟩ .nil,hst2.same s3⟩,fun H3 sm3 _=>q _ (lent tk2 hcn sm3)⟩
variable (Z3a:Def P w K mg base CX0 6 "paid_by" ["stock","book"] (Gk 566 (⟨249,25,249,57⟩:Pos) (("paid_by"++".<locals>.")++"<lambda>") K Z2))
include T Zd in
theorem Z6h(F:Fun K "__init__" "Rule.__init__" Z0c f fd):Al P w K mg base CX0 4 f fd ["self","stock","places"] (Dk K):=by
 have sc:A9 ["self","stock","places"] ["self","stock","places"] (A6 Z0c):=by walk_at "sc"
 walk_at "ok"
 · exact n5 h_ fun _ _ _ _ _=>rfl
 refine x5 h_ fun X q' dx p n e_=>y8 e_ fun e0 hq hcl hns hnp h1 h2 q=>?_;clear e_ h_;subst e0
 refine ⟨_,(@A2 _ _ _ _ _ (B0 (Ad Zd hr rfl Ab (A0 (pv 2) A4)))
  (@A2 _ _ _ _ _ (C1 (pv 0) (pv 1) rfl)
  (@A5 _ _ _ (C1 (pv 0) (pv 2) rfl)))),?_⟩
 walk_at "su";walk_at "go";refine ⟨X,dx,[],hq,hcl,hns,by decide,?_⟩;walk_at "go";refine ⟨X,dx,_,A1,hcl,hnp,by simp [B3],?_⟩;walk_at "go";exact q _ (fun b o e nb=>by rw [A3 nb];exact e) A1
variable (Z06:J2s P w K mg base CX0 4 "Rule" Zl ["self","stock","places"] (Dk K))
include T Z06 in
theorem Z57(F:Fun K "__init__" "Ranked.__init__" Z01 f fd):Al P w K mg base CX0 5 f fd ["self","stock","places"] (Ce K):=by
 have sc:A9 ["self","stock","places"] ["self","stock","places"] (A6 Z01):=by walk_at "sc"
 walk_at "ok"
 · exact n5 h_ fun _ _ _ _ _=>rfl
 refine x5 h_ fun X q' dx p n e_=>y9 e_ fun e0 hq hcl o8 hpr hla5 h1 h2 q=>?_;clear e_ h_;subst e0;obtain ⟨hns,hnp⟩:=o8
 refine ⟨_,(@A2 _ _ _ _ _ (B0 (Mu Z06 hr (As Ab) (Cu (v:= .ref Zl) rfl T.Z7j rfl) (A0 (pv 0) (A0 (pv 1) (A0 (pv 2) A4)))))
  (@A2 _ _ _ _ _ (C1 (pv 0) Aa rfl)
  (@A5 _ _ _ (C1 (pv 0) E7 rfl)))),?_⟩
 walk_at "st";walk_at "go";refine ⟨X,dx,hq,hcl,hns,hnp,h1,h2,fun H1 sb1 hq1=>?_⟩;walk_at "rs";refine ⟨X,dx,_,hq1,hcl,hpr,by rw [show (rf0 p n).length=2 from rfl];decide,?_⟩
 have sb2:SameBut q' H1 (upd H1 q' (.ins X dx (B3 "present" (V.int 0) (rf0 p n)))):=fun b o e nb=>by rw [A3 nb];exact e
 have hq2:upd H1 q' (.ins X dx (B3 "present" (V.int 0) (rf0 p n))) q'=some (.ins X dx (B3 "present" (V.int 0) (rf0 p n))):=A1;generalize upd H1 q' (.ins X dx (B3 "present" (V.int 0) (rf0 p n)))=H2 at sb2 hq2 ⊢;walk_at "rs";intro la hla
 have n1:la≠q':=fun e=>by rw [e,hq2]at hla;cases hla
 refine ⟨X,dx,_,by rw [A3 n1.symm];exact hq2,hcl,hla5,by rw [show (B3 "present" (V.int 0) (rf0 p n)).length=3 from rfl];decide,?_⟩;have sb12:=sb1.trans sb2
 have hla0:H la=none:=by
  cases e2:H la with
  | none=>rfl
  | some o=>rw [sb12 _ _ e2 n1]at hla;cases hla
 walk_at "go";exact q _ la (fun b o e nb=>by rw [A3 nb,A3 (fun e2=>by rw [e2,hla0]at e;cases e)];exact sb12 _ _ e nb) hla0 n1 A1 (by rw [A3 n1,A1])
variable (Z13:J2s P w K mg base CX0 5 "Ranked" Z8 ["self","stock","places"] (Ce K))
include T Z06 in
theorem Z58(F:Fun K "__init__" "Ranked.__init__" Z2e f fd):Al P w K mg base CX0 5 f fd ["self","stock","places"] (Ce K):=by
 have sc:A9 ["self","stock","places"] ["self","stock","places"] (A6 Z2e):=by walk_at "sc"
 walk_at "ok"
 · exact n5 h_ fun _ _ _ _ _=>rfl
 refine x5 h_ fun X q' dx p n e_=>y9 e_ fun e0 hq hcl o8 hpr hla5 h1 h2 q=>?_;clear e_ h_;subst e0;obtain ⟨hns,hnp⟩:=o8
 refine ⟨_,(@A2 _ _ _ _ _ (B0 (Mu Z06 hr (As Ab) (Cu (v:= .ref Zl) rfl T.Z7j rfl) (A0 (pv 0) (A0 (pv 1) (A0 (pv 2) A4)))))
  (@A2 _ _ _ _ _ (C1 (pv 0) Aa rfl)
  (@A5 _ _ _ (C1 (pv 0) E7 rfl)))),?_⟩
 walk_at "st";walk_at "go";refine ⟨X,dx,hq,hcl,hns,hnp,h1,h2,fun H1 sb1 hq1=>?_⟩;walk_at "rs";refine ⟨X,dx,_,hq1,hcl,hpr,by rw [show (rf0 p n).length=2 from rfl];decide,?_⟩
 have sb2:SameBut q' H1 (upd H1 q' (.ins X dx (B3 "present" (V.int 0) (rf0 p n)))):=fun b o e nb=>by rw [A3 nb];exact e
 have hq2:upd H1 q' (.ins X dx (B3 "present" (V.int 0) (rf0 p n))) q'=some (.ins X dx (B3 "present" (V.int 0) (rf0 p n))):=A1;generalize upd H1 q' (.ins X dx (B3 "present" (V.int 0) (rf0 p n)))=H2 at sb2 hq2 ⊢;walk_at "rs";intro la hla
 have n1:la≠q':=fun e=>by rw [e,hq2]at hla;cases hla
 refine ⟨X,dx,_,by rw [A3 n1.symm];exact hq2,hcl,hla5,by rw [show (B3 "present" (V.int 0) (rf0 p n)).length=3 from rfl];decide,?_⟩;have sb12:=sb1.trans sb2
 have hla0:H la=none:=by
  cases e2:H la with
  | none=>rfl
  | some o=>rw [sb12 _ _ e2 n1]at hla;cases hla
 walk_at "go";exact q _ la (fun b o e nb=>by rw [A3 nb,A3 (fun e2=>by rw [e2,hla0]at e;cases e)];exact sb12 _ _ e nb) hla0 n1 A1 (by rw [A3 n1,A1])
variable (Z14:Pb P w K mg base CX0 5 "Oldest" Z0 ["self","stock","places"] (Ce K))
include T Z13 in
theorem Z5u(F:Fun K "__init__" "First.__init__" Z2y f fd):Al P w K mg base CX0 6 f fd ["self","stock","places"] (Ie Z1):=by
 have sc:A9 ["self","stock","places"] ["self","stock","places"] (A6 Z2y):=by walk_at "sc"
 walk_at "ok"
 · exact n4 h_ fun _ _ _ _=>rfl
 refine x4 h_ fun q' dx p n e_=>y5 e_ fun e0 hq h1 h2 q=>?_;clear e_ h_;subst e0
 refine ⟨_,(@A2 _ _ _ _ _ (B0 (Mu Z13 hr (As Ab) (Cu (v:= .ref Z8) rfl T.Z7t rfl) (A0 (pv 0) (A0 (pv 1) (A0 (pv 2) A4)))))
  (@A5 _ _ _ (C1 (pv 0) E7 rfl))),?_⟩
 walk_at "st";walk_at "go";refine ⟨Z1,dx,hq,T.Zi,T.Z0x,T.Z0q,T.Zr,T.Z1d,h1,h2,fun H1 la sb1 hla n1 hq1' hl1=>?_⟩;have hq1:H1 q'=some (.ins Z1 dx (B3 "last" (V.ref la) (B3 "present" (V.int 0) (rf0 p n)))):=hq1';clear hq1';walk_at "rs";intro pa hpa
 have n2:pa≠q':=fun e=>by rw [e,hq1]at hpa;cases hpa
 have n3:la≠pa:=fun e=>by rw [← e,hl1]at hpa;cases hpa
 refine ⟨Z1,dx,_,by rw [A3 n2.symm];exact hq1,T.Zi,T.Z07,by rw [show (B3 "last" (V.ref la) (B3 "present" (V.int 0) (rf0 p n))).length=4 from rfl];decide,?_⟩
 have hpa0:H pa=none:=by
  cases e2:H pa with
  | none=>rfl
  | some o=>rw [sb1 _ _ e2 n2]at hpa;cases hpa
 walk_at "go";exact q _ la pa (fun b o e nb=>by rw [A3 nb,A3 (fun e2=>by rw [e2,hpa0]at e;cases e)];exact sb1 _ _ e nb) hla hpa0 ⟨la,pa,rfl,n3,⟨dx,A1⟩,by rw [A3 n1,A3 n3];exact hl1,by rw [A3 n2,A1]⟩
variable (Z1i:Pb P w K mg base CX0 6 "First" Z1 ["self","stock","places"] (Ie Z1))
include T in
theorem Z3y(F:Fun K "number_ask" "Ranked.number_ask" Z0e f fd):Al P w K mg base CX0 1 f fd ["self","name"] (Dx Z0):=by
 have sc:A9 ["self","name"] ["self","name"] (A6 Z0e):=by walk_at "sc"
 walk_at "ok"
 · exact n6 h_ fun _ _ _ _ _ _=>rfl
 refine x6 h_ fun q' p n M s z e_=>y4 e_ fun e0 hh hl q=>?_;clear e_ h_;subst e0
 refine ⟨_,(@A2 _ _ _ _ _ (Nk (pv 0) Aa Yy)
  (@A5 _ _ _ (Gs (Dh hr) (Av (pv 0) rfl) (pv 1) (Av (pv 0) rfl) rfl))),?_⟩
 walk_at "st";obtain ⟨la,hM,⟨dx,ho⟩,hla⟩:=hh
 have hM2:M=[q',la]∧True:=⟨hM,trivial⟩
 clear hM
 have nq1:q'≠la:=fun e=>by rw [e,hla]at ho;cases ho
 walk_at "go";refine ⟨Z0,dx,_,ho,T.Zk,T.Zv,_,Lm,s.k,rfl,dx,_,ho,by rw [J55];decide,?_⟩;have ho1:upd H q' (.ins Z0 dx (rf2 p n (s.k+1) la)) q'=some (.ins Z0 dx (rf2 p n (s.k+1) la)):=A1
 have hla1:upd H q' (.ins Z0 dx (rf2 p n (s.k+1) la)) la=some (.dK s.la):=by rw [A3 nq1.symm];exact hla
 have kp1:Kp M H (upd H q' (.ins Z0 dx (rf2 p n (s.k+1) la))):=(Kp.of (A7.refl H)).upd (by rw [hM2.1];simp);rename_i rest hrest;show rest _ (upd H q' (.ins Z0 dx (rf2 p n (s.k+1) la)));generalize upd H q' (.ins Z0 dx (rf2 p n (s.k+1) la))=H1 at ho1 hla1 kp1 ⊢;have hlp:=Cf s.la (Sum.inr z:Key) (V.int (s.k+1));subst hrest;walk_at "go";exact ⟨Z0,dx,_,ho1,T.Zk,T.Zv,_,Lm,Z0,dx,_,ho1,T.Zk,T.Z0b,_,Sv,la,rfl,_,Mg.k (k:=Sum.inr z) hla1 (by omega),q _ (kp1.upd (by rw [hM2.1];simp)) ⟨la,hM2.1,⟨dx,by rw [A3 nq1];exact ho1⟩,A1⟩⟩
variable (Zz:Ck P w K mg base CX0 1 Z0 "number_ask" ["self","name"] (Dx Z0))
include T in
theorem Z4f(F:Fun K "last_of" "Ranked.last_of" Z1c f fd):Al P w K mg base CX0 1 f fd ["self","name"] (Ig Z0):=by
 have sc:A9 ["self","name"] ["self","name"] (A6 Z1c):=by walk_at "sc"
 walk_at "ok"
 · exact n7 h_ fun _ _ _ _ _ _ _=>rfl
 refine x7 h_ fun q' p n M s z i e_=>y4 e_ fun e0 hh hv q=>?_;clear e_ h_;subst e0;refine ⟨_,(@A5 _ _ _ (@Ac _ _ _ _ (Qc (Dh hr) (Av (pv 0) rfl) (pv 1) Aa ⟨rfl,rfl,rfl,rfl⟩))),?_⟩;walk_at "st";obtain ⟨la,hM,⟨dx,ho⟩,hla⟩:=hh;clear hM;walk_at "go";exact ⟨Z0,dx,_,ho,T.Zk,T.Z0b,_,Sv,la,rfl,.inl ⟨_,.inl hla⟩,some (.int i),by rw [← hv];exact D0.k (k:=Sum.inr z) hla,q⟩
variable (Z0a:Ck P w K mg base CX0 1 Z0 "last_of" ["self","name"] (Ig Z0))
include T Z0a in
theorem Z59(F:Fun K "rank" "Ranked.rank" Z02 f fd):Al P w K mg base CX0 2 f fd ["self","name"] (Ed Z0):=by
 have sc:A9 ["self","name"] ["self","name"] (A6 Z02):=by walk_at "sc"
 walk_at "ok"
 · exact n7 h_ fun _ _ _ _ _ _ _=>rfl
 refine x7 h_ fun q' p n M s z i e_=>y4 e_ fun e0 hh hv q=>?_;clear e_ h_;subst e0;refine ⟨_,(@A5 _ _ _ (@Ac _ _ _ _ (Iw (A0 (Am Z0a T.Zk hr (As Ab) (pv 0) (A0 (pv 1) A4)) A4)))),?_⟩;walk_at "st";obtain ⟨la,hM,⟨dx,ho⟩,hla⟩:=id hh;clear hM;walk_at "go";exact ⟨dx,_,ho,by rfl,p,n,M,s,hh,i,hv,by omega,fun t ht=>q t ht⟩
variable (Z15:J37 P w K mg base 2 Z0 "rank" ["self","name"] (Ed Z0))
include T Zz in
theorem Z4r(F:Fun K "asked" "Ranked.asked" Z1u f fd):Al P w K mg base CX0 3 f fd ["self","name"] (Cs (T2 Z0)):=by
 have sc:A9 ["self","name"] ["self","name"] (A6 Z1u):=by walk_at "sc"
 walk_at "ok"
 · exact n8 h_ fun _ _ _ _ _ _ _ _=>rfl
 refine x8 h_ fun q' p n M s l ns z e_=>y6 e_ fun e0 hh hi hz hns q=>?_;clear e_ h_;subst e0;refine ⟨_,(@A5 _ _ _ (B0 (Am Zz T.Zk hr (As Ab) (pv 0) (A0 (pv 1) A4)))),?_⟩;walk_at "st";have hh':OAt Z0 H M q' p n s:=hh;obtain ⟨la,hM,⟨dx,ho⟩,hla⟩:=id hh';have hlen:=hi.a.len;walk_at "go";exact ⟨dx,_,ho,by rfl,p,n,M,s,hh',by omega,fun H1 kp1 h1=>q H1 kp1 h1⟩
variable (Z0r:Ck P w K mg base CX0 3 Z0 "asked" ["self","name"] (Cs (T2 Z0)))
include T Z15 in
theorem Z4m(F:Fun K "choice" "Ranked.choice" Z1g f fd):Al P w K mg base CX0 4 f fd ["self","lying"] (Cd (T2 Z0) K):=by
 have sc:A9 ["self","lying"] ["self","lying"] (A6 Z1g):=by walk_at "sc"
 walk_at "ok"
 · exact n9 h_ fun _ _ _ _ _ _ _ _ _=>rfl
 refine x9 h_ fun q' p a n M s l ns z e_=>y10 e_ fun e0 hh hm hl ha ham hns hll hcn q=>?_;clear e_ h_;subst e0;refine ⟨_,(@A5 _ _ _ (@Ac _ _ _ _ (Wr Z15 T.Zk hr rfl T.Z65 (by first | rfl | decide+kernel) (A0 (pv 1) A4) (pv 0) rfl))),?_⟩;walk_at "st";have hh':OAt Z0 H M q' p n s:=hh;obtain ⟨la,hM,⟨dx,ho⟩,hla⟩:=id hh';clear hM;have hm':LM ns z s l:=hm;have q2:∀H',Kp M H H'→OAt Z0 H' M q' p n s→Q (.str (lmin (lv s) l)) H':=q;clear q hm;walk_at "go";refine ⟨dx,_,ho,by rfl,l.map V.str,SqL.of ha,by simpa using hl,fun i=>[lv s (l.getD i Str.empty)],fun i v hv H1 sm1=>?_,fun v H1 sm1 hv=>?_⟩
 · rw [Fe]at hv
   cases hz:l[i]? with
   | none=>rw [hz]at hv;cases hv
   | some u=>
   rw [hz]at hv;cases hv;obtain ⟨j,hj,_⟩:=hm'.i.v u (Ff hz);refine ⟨p,n,M,s,u,rfl,(T2 Z0).dep (fun m _ o=>sm1 m o) hh',j,hj,fun t ht=>⟨A7.new ht,?_⟩⟩;rw [A1];show _=some (HO.tup [V.int (lv s (l.getD i Str.empty))]);rw [Fc,hz];show _=some (HO.tup [V.int (lv s u)]);rw [Wu hj]
 · rw [J87,Fa,Fe]at hv
   have hb:=Wf (fun i=>lv s (l.getD i Str.empty)) (l.length - 1);have hl0:0 < l.length:=HA.mpr hl
   have hlt:argBest (fun i j=>decide (lv s (l.getD i Str.empty) < lv s (l.getD j Str.empty))) (l.length - 1) < l.length:=by omega
   have e:v=V.str (lmin (lv s) l):=by
    unfold lmin;rw [Fc,Fb hlt];rw [Fb hlt]at hv;exact (FL hv).symm
   rw [e];exact q2 _ (Kp.of sm1) ((T2 Z0).dep (fun m _ o=>sm1 m o) hh')
variable (Z0g:Ck P w K mg base CX0 4 Z0 "choice" ["self","lying"] (Cd (T2 Z0) K))
include T in
theorem Z5a(F:Fun K "gone" "Rule.gone" Z2f f fd):Al P w K mg base CX0 3 f fd ["self","name"] (Di (T2 Z0)):=by
 have sc:A9 ["self","name"] ["self","name"] (A6 Z2f):=by walk_at "sc"
 walk_at "ok"
 · exact n8 h_ fun _ _ _ _ _ _ _ _=>rfl
 refine x8 h_ fun q' p n M s l ns z e_=>y6 e_ fun e0 hh hm hl hns q=>?_;clear e_ h_;subst e0;refine ⟨_,(@A5 _ _ _ Oq),?_⟩;walk_at "su";walk_at "go";exact q _ (Kp.of (A7.refl _)) hh
variable (Z16:Ck P w K mg base CX0 3 Z0 "gone" ["self","name"] (Di (T2 Z0)))
include T in
theorem Z5b(F:Fun K "came" "Rule.came" Z2g f fd):Al P w K mg base CX0 1 f fd ["self","name"] (Dj (T2 Z0)):=by
 have sc:A9 ["self","name"] ["self","name"] (A6 Z2g):=by walk_at "sc"
 walk_at "ok"
 · exact n8 h_ fun _ _ _ _ _ _ _ _=>rfl
 refine x8 h_ fun q' p n M s l ns z e_=>y7 e_ fun e0 hh hm hz hzl hns q=>?_;clear e_ h_;subst e0;refine ⟨_,(@A5 _ _ _ Oq),?_⟩;walk_at "su";walk_at "go";exact q _ (Kp.of (A7.refl _)) hh
variable (Z17:Ck P w K mg base CX0 1 Z0 "came" ["self","name"] (Dj (T2 Z0)))
include T in
theorem Z44(F:Fun K "number_ask" "Ranked.number_ask" Z0j f fd):Al P w K mg base CX0 1 f fd ["self","name"] (Dw Z1):=by
 have sc:A9 ["self","name"] ["self","name"] (A6 Z0j):=by walk_at "sc"
 walk_at "ok"
 · exact n6 h_ fun _ _ _ _ _ _=>rfl
 refine x6 h_ fun q' p n M s z e_=>y4 e_ fun e0 hh hl q=>?_;clear e_ h_;subst e0
 refine ⟨_,(@A2 _ _ _ _ _ (Nk (pv 0) Aa Yy)
  (@A5 _ _ _ (Gs (Dh hr) (Av (pv 0) rfl) (pv 1) (Av (pv 0) rfl) rfl))),?_⟩
 walk_at "st";obtain ⟨la,pa,hM,d,⟨dx,ho⟩,hla,hpa⟩:=hh
 have hM2:M=[q',la,pa]∧True:=⟨hM,trivial⟩
 clear hM
 have nq1:q'≠la:=fun e=>by rw [e,hla]at ho;cases ho
 have nq2:q'≠pa:=fun e=>by rw [e,hpa]at ho;cases ho
 walk_at "go";refine ⟨Z1,dx,_,ho,T.Zi,T.Zr,_,Gh,s.k,rfl,dx,_,ho,by rw [J53];decide,?_⟩;have ho1:upd H q' (.ins Z1 dx (rf1 p n (s.k+1) la pa)) q'=some (.ins Z1 dx (rf1 p n (s.k+1) la pa)):=A1
 have hla1:upd H q' (.ins Z1 dx (rf1 p n (s.k+1) la pa)) la=some (.dK s.la):=by rw [A3 nq1.symm];exact hla
 have hpa1:upd H q' (.ins Z1 dx (rf1 p n (s.k+1) la pa)) pa=some (.dK s.pu):=by rw [A3 nq2.symm];exact hpa
 have kp1:Kp M H (upd H q' (.ins Z1 dx (rf1 p n (s.k+1) la pa))):=(Kp.of (A7.refl H)).upd (by rw [hM2.1];simp);rename_i rest hrest;show rest _ (upd H q' (.ins Z1 dx (rf1 p n (s.k+1) la pa)));generalize upd H q' (.ins Z1 dx (rf1 p n (s.k+1) la pa))=H1 at ho1 hla1 hpa1 kp1 ⊢;have hlp:=Cf s.la (Sum.inr z:Key) (V.int (s.k+1));subst hrest;walk_at "go";exact ⟨Z1,dx,_,ho1,T.Zi,T.Zr,_,Gh,Z1,dx,_,ho1,T.Zi,T.Z1d,_,J3a,la,rfl,_,Mg.k (k:=Sum.inr z) hla1 (by omega),q _ (kp1.upd (by rw [hM2.1];simp)) ⟨la,pa,hM2.1,d,⟨dx,by rw [A3 nq1];exact ho1⟩,A1,by rw [A3 d.symm];exact hpa1⟩⟩
variable (Z03:Ck P w K mg base CX0 1 Z1 "number_ask" ["self","name"] (Dw Z1))
include T in
theorem Z5v(F:Fun K "rank" "First.rank" Z09 f fd):Al P w K mg base CX0 1 f fd ["self","name"] (Ec Z1):=by
 have sc:A9 ["self","name"] ["self","name"] (A6 Z09):=by walk_at "sc"
 walk_at "ok"
 · exact n7 h_ fun _ _ _ _ _ _ _=>rfl
 refine x7 h_ fun q' p n M s z i e_=>y4 e_ fun e0 hh hv q=>?_;clear e_ h_;subst e0;refine ⟨_,(@A5 _ _ _ (@Ac _ _ _ _ (Iw (A0 (Qc (Dh hr) (Av (pv 0) rfl) (pv 1) Aa ⟨rfl,rfl,rfl,rfl⟩) A4)))),?_⟩;walk_at "st";obtain ⟨la,pa,hM,d,⟨dx,ho⟩,hla,hpa⟩:=hh;clear hM;walk_at "go";exact ⟨Z1,dx,_,ho,T.Zi,T.Z07,_,Wt,pa,rfl,.inl ⟨_,.inl hpa⟩,some (.int i),by rw [← hv];exact D0.k (k:=Sum.inr z) hpa,by omega,fun t ht=>q t ht⟩
variable (Z1j:J37 P w K mg base 1 Z1 "rank" ["self","name"] (Ec Z1))
include T Z03 in
theorem Z5c(F:Fun K "asked" "Ranked.asked" Z2h f fd):Al P w K mg base CX0 3 f fd ["self","name"] (Cs (T1 Z1)):=by
 have sc:A9 ["self","name"] ["self","name"] (A6 Z2h):=by walk_at "sc"
 walk_at "ok"
 · exact n8 h_ fun _ _ _ _ _ _ _ _=>rfl
 refine x8 h_ fun q' p n M s l ns z e_=>y6 e_ fun e0 hh hi hz hns q=>?_;clear e_ h_;subst e0;refine ⟨_,(@A5 _ _ _ (B0 (Am Z03 T.Zi hr (As Ab) (pv 0) (A0 (pv 1) A4)))),?_⟩;walk_at "st";have hh':FAt Z1 H M q' p n s:=hh;obtain ⟨la,pa,hM,d,⟨dx,ho⟩,hla,hpa⟩:=id hh';have hlen:=hi.a.len;walk_at "go";exact ⟨dx,_,ho,by rfl,p,n,M,s,hh',by omega,fun H1 kp1 h1=>q H1 kp1 h1⟩
variable (Z18:Ck P w K mg base CX0 3 Z1 "asked" ["self","name"] (Cs (T1 Z1)))
include T Z1j in
theorem Z4s(F:Fun K "choice" "Ranked.choice" Z1v f fd):Al P w K mg base CX0 4 f fd ["self","lying"] (Cd (T1 Z1) K):=by
 have sc:A9 ["self","lying"] ["self","lying"] (A6 Z1v):=by walk_at "sc"
 walk_at "ok"
 · exact n9 h_ fun _ _ _ _ _ _ _ _ _=>rfl
 refine x9 h_ fun q' p a n M s l ns z e_=>y10 e_ fun e0 hh hm hl ha ham hns hll hcn q=>?_;clear e_ h_;subst e0;refine ⟨_,(@A5 _ _ _ (@Ac _ _ _ _ (Wr Z1j T.Zi hr rfl T.Z65 (by first | rfl | decide+kernel) (A0 (pv 1) A4) (pv 0) rfl))),?_⟩;walk_at "st";have hh':FAt Z1 H M q' p n s:=hh;obtain ⟨la,pa,hM,d,⟨dx,ho⟩,hla,hpa⟩:=id hh';clear hM;have hm':FI ns s l (s.k - 1):=hm;have q2:∀H',Kp M H H'→FAt Z1 H' M q' p n s→Q (.str (l.headD Str.empty)) H':=q;clear q hm;walk_at "go";refine ⟨dx,_,ho,by rfl,l.map V.str,SqL.of ha,by simpa using hl,fun i=>[N22.pv s (l.getD i Str.empty)],fun i v hv H1 sm1=>?_,fun v H1 sm1 hv=>?_⟩
 · rw [Fe]at hv
   cases hz:l[i]? with
   | none=>rw [hz]at hv;cases hv
   | some u=>
   rw [hz]at hv;cases hv;obtain ⟨j,hj,_⟩:=hm'.v u (Ff hz);refine ⟨p,n,M,s,u,rfl,(T1 Z1).dep (fun m _ o=>sm1 m o) hh',j,hj,fun t ht=>⟨A7.new ht,?_⟩⟩;rw [A1];show _=some (HO.tup [V.int (N22.pv s (l.getD i Str.empty))]);rw [Fc,hz];show _=some (HO.tup [V.int (N22.pv s u)]);rw [J38 hj]
 · have hb:argBest (btK fun i=>[N22.pv s (l.getD i Str.empty)]) ((l.map V.str).length - 1)=0:=by
    rw [Fa];refine Yf (v:=fun i=>N22.pv s (l.getD i Str.empty)) (fun i _=>rfl) (fun i hi=>?_);have hl0:0 < l.length:=HA.mpr hl
    by_cases e:i=0
    · rw [e];exact HG _
    · have:=(List.pairwise_iff_getElem.mp hm'.o) 0 i hl0 (by omega) (by omega)
      rw [Fc,Fc,Fb hl0,Fb (show i < l.length by omega)];exact Int.le_of_lt this
   rw [hb]at hv
   cases l with
   | nil=>exact absurd rfl hl
   | cons x r=>
    cases hv;exact q2 _ (Kp.of sm1) ((T1 Z1).dep (fun m _ o=>sm1 m o) hh')
variable (Z0s:Ck P w K mg base CX0 4 Z1 "choice" ["self","lying"] (Cd (T1 Z1) K))
include T in
theorem Z5w(F:Fun K "gone" "Rule.gone" Z2z f fd):Al P w K mg base CX0 3 f fd ["self","name"] (Di (T1 Z1)):=by
 have sc:A9 ["self","name"] ["self","name"] (A6 Z2z):=by walk_at "sc"
 walk_at "ok"
 · exact n8 h_ fun _ _ _ _ _ _ _ _=>rfl
 refine x8 h_ fun q' p n M s l ns z e_=>y6 e_ fun e0 hh hm hl hns q=>?_;clear e_ h_;subst e0;refine ⟨_,(@A5 _ _ _ Oq),?_⟩;walk_at "su";walk_at "go";exact q _ (Kp.of (A7.refl _)) hh
variable (Z1k:Ck P w K mg base CX0 3 Z1 "gone" ["self","name"] (Di (T1 Z1)))
include T in
theorem Z5x(F:Fun K "came" "First.came" Z30 f fd):Al P w K mg base CX0 1 f fd ["self","name"] (Dj (T1 Z1)):=by
 have sc:A9 ["self","name"] ["self","name"] (A6 Z30):=by walk_at "sc"
 walk_at "ok"
 · exact n8 h_ fun _ _ _ _ _ _ _ _=>rfl
 refine x8 h_ fun q' p n M s l ns z e_=>y7 e_ fun e0 hh hm hz hzl hns q=>?_;clear e_ h_;subst e0;refine ⟨_,(@A5 _ _ _ (Gs (Dh hr) (Av (pv 0) rfl) (pv 1) (Av (pv 0) rfl) rfl)),?_⟩;walk_at "st";have hh':FAt Z1 H M q' p n s:=hh;obtain ⟨la,pa,hM,d,⟨dx,ho⟩,hla,hpa⟩:=id hh'
 have hM2:M=[q',la,pa]∧True:=⟨hM,trivial⟩
 clear hM;have hlen:=hm.b.len
 have nq2:q'≠pa:=fun e=>by rw [e,hpa]at ho;cases ho
 have q2:∀H',Kp M H H'→FAt Z1 H' M q' p n (Ld s z)→Q .non H':=q;clear q;have hlp:=Cf s.pu (Sum.inr z:Key) (V.int s.k);walk_at "go";refine ⟨Z1,dx,_,ho,T.Zi,T.Zr,_,Gh,Z1,dx,_,ho,T.Zi,T.Z07,_,Wt,pa,rfl,_,Mg.k (k:=Sum.inr z) hpa (by omega),q2 _ ((Kp.of (A7.refl H)).upd (by rw [hM2.1];simp)) ⟨la,pa,hM2.1,d,⟨dx,by rw [A3 nq2];exact ho⟩,by rw [A3 d];exact hla,A1⟩⟩
variable (Z1l:Ck P w K mg base CX0 1 Z1 "came" ["self","name"] (Dj (T1 Z1)))
include T Z1i in
theorem Z5y(F:Fun K "make_first" "make_first" Z31 f fd):Al P w K mg base CX0 8 f fd ["stock","places","asks"] (Eu (C2.mk Z0 Z1) false):=by
 have sc:A9 ["stock","places","asks"] ["stock","places","asks"] (A6 Z31):=by walk_at "sc"
 walk_at "ok"
 · exact n3 h_ fun _ _ _=>rfl
 refine x3 h_ fun st a n e_=>y4 e_ fun e0 h1 h2 q=>?_;clear e_ h_;subst e0;refine ⟨_,(@A5 _ _ _ (@Ac _ _ _ _ (E9 Z1i hr rfl (As Ab) (A0 (pv 0) (A0 (pv 1) A4))))),?_⟩;walk_at "su";walk_at "go";intro x dx hx hd hne;refine ⟨dx,A1,h1,h2,fun H' la pa sb hla hpa hg=>?_⟩
 exact q x [x,la,pa] H' (X2 hx hd sb) (fun m hm=>by simp only [Fv,Ha,or_false]at hm;rcases hm with e | e | e <;> rw [e];exact hx;exact Pr hx hd hla;exact Pr hx hd hpa) hg
variable (Z1m:Def P w K mg base CX0 8 "make_first" ["stock","places","asks"] (Eu (C2.mk Z0 Z1) false))
include T Z14 in
theorem Z5d(F:Fun K "make_oldest" "make_oldest" Z2i f fd):Al P w K mg base CX0 8 f fd ["stock","places","asks"] (Eu (C2.mk Z0 Z1) true):=by
 have sc:A9 ["stock","places","asks"] ["stock","places","asks"] (A6 Z2i):=by walk_at "sc"
 walk_at "ok"
 · exact n3 h_ fun _ _ _=>rfl
 refine x3 h_ fun st a n e_=>y4 e_ fun e0 h1 h2 q=>?_;clear e_ h_;subst e0;refine ⟨_,(@A5 _ _ _ (@Ac _ _ _ _ (E9 Z14 hr rfl (As Ab) (A0 (pv 0) (A0 (pv 1) A4))))),?_⟩;walk_at "su";walk_at "go";intro x dx hx hd hne;refine ⟨Z0,dx,A1,T.Zk,T.Z0p,T.Z0f,T.Zv,T.Z0b,h1,h2,fun H' la sb hla nla hq' hla'=>?_⟩
 exact q x [x,la] H' (X2 hx hd sb) (fun m hm=>by simp only [Fv,Ha,or_false]at hm;rcases hm with e | e <;> rw [e];exact hx;exact Pr hx hd hla) ⟨la,rfl,⟨dx,hq'⟩,hla'⟩
variable (Z19:Def P w K mg base CX0 8 "make_oldest" ["stock","places","asks"] (Eu (C2.mk Z0 Z1) true))
include T in
theorem Z6y(F:Fun K "maker_of" "maker_of" Z3t f fd)(Z66:∀b,Nh w.params K Zo (rl b) (some (.ref (C2.d (C2.mk xmake_oldest xmake_first) b)))):Al P w K mg base CX0 2 f fd ["word"] (Dc (C2.mk xmake_oldest xmake_first)):=by
 have sc:A9 ["word"] ["word"] (A6 Z3t):=by walk_at "sc"
 walk_at "ok"
 · exact n1 h_ fun _=>rfl
 refine x1 h_ fun b e_=>y2 e_ fun e0 q=>?_;clear e_ h_;subst e0
 refine ⟨_,(@A2 _ _ _ _ _ (Ay (PW.pt (Li (Cb (Bv (Aq Dr rfl T.Z08 (by first | rfl | decide+kernel) (A0 (pv 0) (A0 (Lr (v:= .ty "str") rfl T.Z2k (by first | rfl | decide+kernel) rfl) A4))))) (Iu (Oj (Wz (pv 0) (Cu (v:= .ref Zo) rfl T.Z6a rfl))))))
  (@A5 _ _ _ Az)
  Ag)
  (@A5 _ _ _ (@Ac _ _ _ _ (Pq (Cu (v:= .ref Zo) rfl T.Z6a rfl) (pv 0) (fun _ _=>rfl))))),?_⟩
 walk_at "st";walk_at "go";refine ⟨_,Z66 b,?_⟩;rw [if_neg (by simp)];walk_at "rs";exact ⟨_,Z66 b,q⟩
variable (Z2n:Def P w K mg base CX0 2 "maker_of" ["word"] (Dc (C2.mk xmake_oldest xmake_first)))
include T Z9 Zs Z0s Z0g Zy Z1k Z16 in
theorem Z6i(F:Fun K "make_room" "make_room" Z3k f fd):Al P w K mg base CX0 5 f fd ["rule","shelf","room"] (Kr (T81 (C2.mk Z0 Z1)) K Z2 Z3):=by
 have sc:A9 ["rule","shelf","room","went","name"] ["rule","shelf","room"] (A6 Z3k):=by walk_at "sc"
 walk_at "ok"
 · exact x1 h_ fun _ h_=>n12 h_ fun _ _ _ _ _ _ _ _ _ _ _ _=>rfl
 refine x1 h_ fun w8 h_=>x12 h_ fun H0 q' p sh d M n need ts ls s z e_=>y8 e_ fun e0 hr' hm hn hll htl hcn q=>?_;clear e_ h_;clear h_;subst e0
 refine ⟨_,(@A2 _ _ _ _ _ (Aj (i:=3) sc.nd rfl (Or.inl rfl) (@Bp _ _ _ _ A4))
  (@A2 _ _ _ _ _ (Yq PassesOwn.never (Ak M8 (Df Z9 T.Z7 hr (As Ab) (pv 1)) (pv 2) (nomark _))
   (@A2 _ _ _ _ _ (Aj (i:=4) sc.nd rfl (Or.inl rfl) (Kq (C:=fun w=>(T81 (C2.mk Z0 Z1) w).C) (sp:=fun w=>Cd (T81 (C2.mk Z0 Z1) w) K) (fun w=>by cases w;exact Z0s;exact Z0g) (fun w=>by cases w;exact T.Zi;exact T.Zk) hr (As Ab) (pv 0) (A0 (Df Zs T.Z7 hr (As Ab) (pv 1)) A4)))
   (@A2 _ _ _ _ _ (B0 (Am Zy T.Z7 hr (As Ab) (pv 1) (A0 (pv 4) A4)))
   (@A2 _ _ _ _ _ (B0 (Kq (C:=fun w=>(T81 (C2.mk Z0 Z1) w).C) (sp:=fun w=>Di (T81 (C2.mk Z0 Z1) w)) (fun w=>by cases w;exact Z1k;exact Z16) (fun w=>by cases w;exact T.Zi;exact T.Zk) hr (As Ab) (pv 0) (A0 (pv 4) A4)))
   (@A5 _ _ _ (B0 (Ey HD Hy Hx Dd (pv 3) (A0 (pv 4) A4))))))))
  (@A5 _ _ _ (@Ac _ _ _ _ (pv 3))))),?_⟩
 walk_at "st";walk_at "go";intro w hw;have kp0:Kp (d::M) H (upd H w (.lst [])):=Kp.of (A7.new hw);have hr0:=hr'.same (A7.new (o:= .lst []) hw);have hww:upd H w (.lst []) w=some (.lst []):=A1;have nw:=hr'.free hw;have nw0:H0 w=none:=Bf hr'.sm hw;have nwm:w∉M:=fun h=>nw (Fk _ h);have nwd:w≠d:=fun h=>nw (by rw [h];simp);generalize upd H w (.lst [])=H1 at kp0 hr0 hww ⊢;walk_at "rs";rename_i rest hrest;refine J4d (m0:=ls.length) (fun m σ H5=>∃(ls':Ly) (s':((T81 (C2.mk Z0 Z1) w8)).St) (wl:List Str) (v4:Option V),σ=[some (V.ref q'),some (V.ref sh),some (V.int need),some (V.ref w),v4]∧Kp (d::M) H H5∧H5 w=some (.lst (wl.map V.str))∧D6 (T81 (C2.mk Z0 Z1) w8) K Z2 Z3 H0 H5 q' p sh d M n ts ls' s'∧((T81 (C2.mk Z0 Z1) w8)).mid (ts.map (·.1)) n z s' (lyN ls')∧gf (T81 (C2.mk Z0 Z1) w8) (rm ts) n need s (lyN ls) []=gf (T81 (C2.mk Z0 Z1) w8) (rm ts) n need s' (lyN ls') wl∧wl.length+ls'.length≤60∧((T81 (C2.mk Z0 Z1) w8)).cnt s'≤300∧m=ls'.length) ⟨ls,s,[],none,rfl,kp0,hww,hr0,hm,rfl,by simpa using hll,hcn,rfl⟩ ?_
 clear hr' hr0 hww kp0 hm;rintro m' σ H5 ⟨ls',s',wl,v4,rfl,kp5,hw5,hr5,hm5,hf5,hl5,hcn5,rfl⟩;have hleft:=hr5.left;obtain ⟨⟨dx,ho⟩,hd,hnd⟩:=id hr5.shf;walk_at "go";refine ⟨dx,_,ho,by rfl,_,_,_,_,hr5.shf,fun H6 sm6=>?_⟩;have hr6:=hr5.same sm6;have hw6:=sm6 _ _ hw5;have kp6:=kp5.trans (Kp.of sm6)
 by_cases hlt:need≤n - N41.sm (rm ts) (lyN ls')
 · rw [if_neg (by rw [hleft];omega)]
   have e1:gf (T81 (C2.mk Z0 Z1) w8) (rm ts) n need s (lyN ls) []=(s',lyN ls',wl)∧True:=⟨hf5.trans (Lc hlt),trivial⟩
   clear hf5;subst hrest;walk_at "go";exact q w ls' H6 kp6 hw (by rw [e1.1];exact hw6) (by rw [e1.1]) (by rw [e1.1];exact hr6)
 · rw [if_pos (by rw [hleft];omega)]
   clear hrest;refine ⟨_,fun σ' H7 h=>h,?_⟩;have hLne:lyN ls'≠[]:=fun e=>hlt (by rw [e,N41.D5];omega);obtain ⟨⟨dx6,ho6⟩,hd6,hnd6⟩:=id hr6.shf;obtain ⟨dq,fs,hoq,o1,o2,o3,hec,o4⟩:=Ae.obj _ hr6.h;clear hleft ho hd hnd hr5 hw5 kp5 sm6;walk_at "go";refine ⟨w8,dq,_,hoq,hec,dx6,_,ho6,by rfl,_,_,_,_,hr6.shf,fun l hl=>?_⟩;have sml:A7 H6 (upd H6 l (.lst ((lyN ls').map V.str))):=A7.new hl;have hl7:upd H6 l (.lst ((lyN ls').map V.str)) l=some (.lst ((lyN ls').map V.str)):=A1;have nl:=hr6.free hl;have hr7:=hr6.same sml;have hw7:=sml _ _ hw6;have kp7:=kp6.trans (Kp.of sml);generalize upd H6 l (.lst ((lyN ls').map V.str))=H7 at hr7 hw7 kp7 hl7 ⊢;clear hr6 hw6 kp6 hoq ho6 hd6 hnd6 sml hl hec;obtain ⟨hf,hm8⟩:=Ae.i_pick _ hm5 hLne;have hcn6:=FG (FG (Ae.c_gone (T81 (C2.mk Z0 Z1) w8) n (Ae.pick _ n s' (lyN ls')).1 (Ae.pick _ n s' (lyN ls')).2) (Ae.c_pick (T81 (C2.mk Z0 Z1) w8) n s' (lyN ls'))) hcn5
   have hlen:(lyN ls').length≤60:=by unfold lyN;rw [Fa];omega
   refine ⟨p,n,M,s',hr7.h,lyN ls',ts.map (·.1),z,hm5,hLne,hl7,fun h=>nl (Fk _ h),by rw [Fa];exact htl,hlen,hcn5,fun H8 kp8 hh8=>?_⟩;have hr8:=hr7.rule kp8 hh8;have hw8:=kp8 _ _ nwm hw7;have kp08:=kp7.trans (Ko (d:=d) kp8)
   have hfin':gf (T81 (C2.mk Z0 Z1) w8) (rm ts) n need s (lyN ls) []=gf (T81 (C2.mk Z0 Z1) w8) (rm ts) n need (Ae.gone _ n (Ae.pick _ n s' (lyN ls')).1 (Ae.pick _ n s' (lyN ls')).2) ((lyN ls').erase (Ae.pick _ n s' (lyN ls')).2) (wl++[(Ae.pick _ n s' (lyN ls')).2])∧True:=⟨hf5.trans (J30 hlt hf),trivial⟩
   clear hf5 hr7 hw7 kp7 kp8 hh8 hl7;obtain ⟨⟨dx8,ho8⟩,hd8,hnd8⟩:=id hr8.shf;walk_at "rs";refine ⟨dx8,_,ho8,by rfl,_,_,_,_,hr8.shf,hf,fun H9 sb9 hs9=>?_⟩;have hr9:=hr8.shelf sb9 hs9 hr8.ok.drop;have hw9:=sb9 _ _ hw8 nwd;obtain ⟨dq9,fs9,hoq9,o5,o6,o7,o8,heg,o9⟩:=Ae.obj _ hr9.h;have hnames:=Gz (z:=(Ae.pick _ n s' (lyN ls')).2) hr8.ok.nd;walk_at "rs";refine ⟨w8,dq9,_,hoq9,heg,p,n,M,s',lyN ls',rfl,hr9.h,ts.map (·.1),z,hm5,hLne,by rw [Fa];exact htl,fun H10 kp10 hh10=>?_⟩;have hr10:=hr9.rule kp10 hh10;have hw10:=kp10 _ _ nwm hw9;have kp010:Kp (d::M) H H10:=(kp08.trans (Od sb9 (by simp))).trans (Ko kp10);clear hr8 hs9 hh10 sb9 kp10 hw8 hw9 kp08 hd8 hnd8 ho8 hoq9 hr9 heg;have hel:=Hz hf;have hlp:0 < (lyN ls').length:=Rl hf
   have hll5:(lyN ls').length=ls'.length∧True:=⟨by unfold lyN;rw [Fa],trivial⟩
   have hll6:(lyD ls' (Ae.pick _ n s' (lyN ls')).2).length+1≤ls'.length:=by
    have e:(lyN (lyD ls' (Ae.pick _ n s' (lyN ls')).2)).length=(lyD ls' (Ae.pick _ n s' (lyN ls')).2).length:=by unfold lyN;rw [Fa]
    rw [hnames]at e;omega
   rw [← hnames]at hm8 hfin';walk_at "rs";generalize hfe:(Ae.pick _ n s' (lyN ls')).2=f at hf hm8 hfin' hnames hel hr10 hll6 hcn6 ⊢
   have hwl:(wl++[f]).length=wl.length+1:=by rw [Fm];rfl
   refine ⟨.inl ⟨rfl,_,SqL.of hw10⟩,w,_,_,rfl,rfl,hw10,by rw [Fa];omega,(lyD ls' f).length,by omega,J2y kp010 hw,lyD ls' f,_,wl++[f],by rw [A1,Fp];rfl,hr10.lst (fun b o e nb=>by rw [A3 nb];exact e) hw10 nwm nw0,hm8,hfin'.1,by omega,hcn6,rfl⟩
variable (Z22:Def P w K mg base CX0 5 "make_room" ["rule","shelf","room"] (Kr (T81 (C2.mk Z0 Z1)) K Z2 Z3))
include T Z18 Z0r Z6 Z5 Z22 Z05 Z1l Z17 in
theorem Z7m(F:Fun K "row_of" "row_of" Z4h f fd):Al P w K mg base CX0 7 f fd ["rule","shelf","name"] (M4 (T81 (C2.mk Z0 Z1)) K Z2 Z3):=by
 have sc:A9 ["rule","shelf","name","went"] ["rule","shelf","name"] (A6 Z4h):=by walk_at "sc"
 walk_at "ok"
 · exact x1 h_ fun _ h_=>n11 h_ fun _ _ _ _ _ _ _ _ _ _ _=>rfl
 refine x1 h_ fun w8 h_=>x11 h_ fun H0 q' p sh d M n ts ls s z e_=>y9 e_ fun e0 hr' hi nd htl hz hzn hcn q=>?_;clear e_ h_;clear h_;subst e0
 refine ⟨_,(@A2 _ _ _ _ _ (B0 (Kq (C:=fun w=>(T81 (C2.mk Z0 Z1) w).C) (sp:=fun w=>Cs (T81 (C2.mk Z0 Z1) w)) (fun w=>by cases w;exact Z18;exact Z0r) (fun w=>by cases w;exact T.Zi;exact T.Zk) hr (As Ab) (pv 0) (A0 (pv 2) A4)))
  (@A2 _ _ _ _ _ (Ay (Bv (Am Z6 T.Z7 hr (As Ab) (pv 1) (A0 (pv 2) A4)))
   (@A5 _ _ _ (@Ac _ _ _ _ (Iw (A0 (pv 2) (A0 Cm (A0 (@Bp _ _ _ _ A4) A4))))))
   Ag)
  (@A2 _ _ _ _ _ (Aj (i:=3) sc.nd rfl (Or.inl rfl) (Ad Z22 hr rfl Ab (A0 (pv 0) (A0 (pv 1) (A0 (Am Z5 T.Zb hr (As Ab) (Av (pv 1) rfl) (A0 (pv 2) A4)) A4)))))
  (@A2 _ _ _ _ _ (B0 (Am Z05 T.Z7 hr (As Ab) (pv 1) (A0 (pv 2) A4)))
  (@A2 _ _ _ _ _ (B0 (Kq (C:=fun w=>(T81 (C2.mk Z0 Z1) w).C) (sp:=fun w=>Dj (T81 (C2.mk Z0 Z1) w)) (fun w=>by cases w;exact Z1l;exact Z17) (fun w=>by cases w;exact T.Zi;exact T.Zk) hr (As Ab) (pv 0) (A0 (pv 2) A4)))
  (@A5 _ _ _ (@Ac _ _ _ _ (Iw (A0 (pv 2) (A0 Cm (A0 (pv 3) A4))))))))))),?_⟩
 walk_at "st";obtain ⟨dq,fs,hoq,o1,o2,hea,o3⟩:=Ae.obj _ hr'.h;walk_at "go";refine ⟨w8,dq,_,hoq,hea,p,n,M,s,hr'.h,lyN ls,ts.map (·.1),hi,hz,by rw [Fa];exact htl,fun H1 kp1 hh1=>?_⟩;have hr1:=hr'.rule kp1 hh1;obtain ⟨⟨dx,ho⟩,hd,hnd⟩:=id hr1.shf;have fresh:∀b,H1 b=none→H b=none:=fun b e=>M3 kp1 (fun hm=>hr1.free e (Fk _ hm)) e
 have hlsl:(lyN ls).length≤60:=by
  have:=N25.J2z hr1.ok.nd hr1.ok.s;rw [Fa]at this;omega
 clear hoq hea;walk_at "rs";refine ⟨dx,_,ho,by rfl,_,_,_,_,hr1.shf,?_⟩
 by_cases hzL:z∈lyN ls
 · have e:gask (T81 (C2.mk Z0 Z1) w8) (rm ts) n (s,lyN ls) z=((Ae.asked _ n s z,lyN ls),(z,true,[])):=by unfold gask;rw [if_pos hzL]
   rw [if_pos hzL];rw [e]at q;refine ⟨by omega,fun g hg=>⟨by omega,fun t ht=>?_⟩⟩;have s1:A7 H1 (upd H1 g (.lst [])):=A7.new hg;have k1:upd H1 g (.lst []) g=some (.lst (([]:List Str).map V.str)):=A1;generalize upd H1 g (.lst [])=H2 at s1 k1 ht ⊢;have s2:A7 H2 (upd H2 t (.tup [V.str z,V.bl true,V.ref g])):=A7.new ht;exact q t g ls _ (Ko (kp1.trans (Kp.of (s1.trans s2)))) (fresh t (Bf s1 ht)) (fresh g hg) A1 (s2 _ _ k1) rfl (hr1.same (s1.trans s2))
 rw [if_neg hzL]
 have eh:gask (T81 (C2.mk Z0 Z1) w8) (rm ts) n (s,lyN ls) z=((Ae.came _ n (gf (T81 (C2.mk Z0 Z1) w8) (rm ts) n (rm ts z) (Ae.asked _ n s z) (lyN ls) []).1 z,(gf (T81 (C2.mk Z0 Z1) w8) (rm ts) n (rm ts z) (Ae.asked _ n s z) (lyN ls) []).2.1++[z]),(z,false,(gf (T81 (C2.mk Z0 Z1) w8) (rm ts) n (rm ts z) (Ae.asked _ n s z) (lyN ls) []).2.2)):=by unfold gask;rw [if_neg hzL]
 rw [eh]at q;clear eh;have hm1:=Ae.i_mid _ hi hz hzL;obtain ⟨hI,hne,hsub,hnd2,hwl⟩:=J31 (R:=rm ts) (n:=n) (need:=rm ts z) _ _ _ [] rfl hm1 hzn;obtain ⟨dy,e,kvs,h1,h2,h3,h4,h5⟩:=Af.has hr1.x.at;walk_at "rs";refine ⟨Z3,dx,_,ho,T.Z7,T.Z00,_,La,_,rfl,dy,flds e,h1,by rfl,_,rfl,ts,hr1.x.at,nd,hz,w8,H0,p,d,M,n,ts,ls,_,hr1,z,hm1,hzn,by unfold lyN at hlsl;rw [Fa]at hlsl;exact hlsl,htl,FG (Ae.c_ask (T81 (C2.mk Z0 Z1) w8) n s z) (by omega),fun g ls2 H2 kp2 hg hg2 hln2 hr2=>?_⟩;obtain ⟨⟨dx2,ho2⟩,hd2,hnd2'⟩:=id hr2.shf;have kp02:Kp (d::M) H H2:=(Ko kp1).trans kp2;have ngo:=hr1.free hg;have ngd:g≠d:=fun h=>ngo (by rw [h];simp);have ngm:g∉M:=fun h=>ngo (Fk _ h);have hnl:z∉lyN ls2:=fun h=>hzL (hsub z (by rw [← hln2];exact h))
 have hlen2:ls2.length≤60:=by
  have e1:(lyN ls2).length=ls2.length:=by unfold lyN;rw [Fa]
  rw [hln2]at e1;omega
 have hleft2:=hr2.left;rw [hln2]at hleft2;generalize gf (T81 (C2.mk Z0 Z1) w8) (rm ts) n (rm ts z) (Ae.asked _ n s z) (lyN ls) []=F at hr2 hg2 q hne hI hleft2 hln2;obtain ⟨s2,l2,w2⟩:=F;simp only at hr2 hg2 q hne hI hleft2 hln2;clear hr1 hh1 kp1 h1 h2 h3 h4 h5 ho hd hnd hsub hnd2 hwl;walk_at "rs";refine ⟨dx2,_,ho2,by rfl,_,_,_,_,hr2.shf,ts,hr2.x,nd,by omega,hz,rm ts z,fun t ht e=>?_,hnl,by omega,fun H3 sb3 hs3=>?_⟩
 · obtain ⟨i,hi'⟩:=Rt ht
   rw [← e,O9 nd hi']
 have hr3:=hr2.shelf sb3 hs3 (hr2.ok.put hnl hz);obtain ⟨dq3,fs3,hoq3,o4,o5,o6,o7,o8,hec,o9⟩:=Ae.obj _ hr3.h;have hg3:=sb3 _ _ hg2 ngd
 have hl3:lyN (ls2++[(z,rm ts z)])=l2++[z]∧True:=⟨by unfold lyN at hln2 ⊢;rw [Fp,hln2];rfl,trivial⟩
 rw [hln2]at hnl;walk_at "rs";refine ⟨w8,dq3,_,hoq3,hec,p,n,M,s2,hr3.h,l2,ts.map (·.1),hI,hz,hnl,by rw [Fa];exact htl,fun H4 kp4 hh4=>?_⟩;have hr4:=hr3.rule kp4 hh4;have hg4:=kp4 _ _ ngm hg3;have kp04:Kp (d::M) H H4:=(kp02.trans (Od sb3 (by simp))).trans (Ko kp4);walk_at "rs";intro t ht;exact q t g _ _ (kp04.trans (Kp.of (A7.new ht))) (M3 kp04 (hr4.free ht) ht) (fresh g hg) A1 (A7.new ht _ _ hg4) hl3.1 (hr4.same (A7.new ht))
variable (Z3z:Def P w K mg base CX0 7 "row_of" ["rule","shelf","name"] (M4 (T81 (C2.mk Z0 Z1)) K Z2 Z3))
include T Zg Zx Z3z in
theorem Z7c(F:Fun K "book_of" "book_of" Z4a f fd):Al P w K mg base CX0 8 f fd ["rule","asks"] (Ih (T81 (C2.mk Z0 Z1)) K Z2 Z3):=by
 have sc:A9 ["rule","asks","shelf"] ["rule","asks"] (A6 Z4a):=by walk_at "sc"
 walk_at "ok"
 · exact x1 h_ fun _ h_=>n9 h_ fun _ _ _ _ _ _ _ _ _=>rfl
 refine x1 h_ fun w8 h_=>x9 h_ fun H0 q' p a M n ts ys s0 e_=>y17 e_ fun e0 hh hi0 hsto sm0 hm0 nd htl ha ham hlen hin hrm hn1 hn2 hcn q=>?_;clear e_ h_;clear h_;subst e0
 refine ⟨_,(@A2 _ _ _ _ _ (B0 (Ad Zg hr rfl Ab (A0 (Av (pv 0) rfl) (A0 (pv 1) (A0 (Av (pv 0) rfl) A4)))))
  (@A2 _ _ _ _ _ (Aj (i:=2) sc.nd rfl (Or.inr rfl) (E9 Zx hr rfl (As Ab) (A0 (Av (pv 0) rfl) (A0 (Av (pv 0) rfl) A4))))
  (@A5 _ _ _ (@Ac _ _ _ _ (Kf "name" [0,2] rfl rfl (Cv (pv 1)) (fun b=>(Ad Z3z hr rfl Ab (A0 (pv 1) (A0 (pv 2) (A0 (pv 0) A4)))))))))),?_⟩
 walk_at "st"
 have hcl:∀w,Cls K (T81 (C2.mk Z0 Z1) w).C:=fun w=>by cases w;exact T.Zi;exact T.Zk
 have hns:∀w,Ap K (T81 (C2.mk Z0 Z1) w).C "stock":=fun w=>by cases w;exact T.Z0x;exact T.Z0p
 have hnp:∀w,Ap K (T81 (C2.mk Z0 Z1) w).C "places":=fun w=>by cases w;exact T.Z0q;exact T.Z0f
 obtain ⟨dq,fs,hoq,hst_,hpl_,o1⟩:=Ae.obj _ hh;walk_at "go";refine ⟨_,dq,_,hoq,hcl w8,hns w8,_,hst_,_,dq,_,hoq,hcl w8,hnp w8,_,hpl_,p,rfl,n,rfl,ts,hsto.same sm0,nd,ys,ha,hlen,hin,hrm,hn1,hn2,fun H1 sm1=>?_⟩;have hh1:=Pn sm1 hh;have ha1:=sm1.seq ha;obtain ⟨dq1,fs1,hoq1,hst1,hpl1,o2⟩:=Ae.obj _ hh1;clear hoq hst_ hpl_;walk_at "rs";refine ⟨_,dq1,_,hoq1,hcl w8,hns w8,_,hst1,_,dq1,_,hoq1,hcl w8,hnp w8,_,hpl1,fun sh dx hsh hdx hne=>⟨dx,p,rfl,n,rfl,A1,hn1,hn2,fun H2 d sb hdn hs2=>?_⟩⟩;have sm2:=Sn hsh hdx sb;have hd0:=So hdn;have hd1:H0 d=none:=Bf (sm0.trans sm1) hd0;have nsh:sh∉M:=fun h=>Ae.live _ hh1 _ h hsh;have ndm:d∉M:=fun h=>Ae.live _ hh1 _ h hd0
 have hr2:D6 (T81 (C2.mk Z0 Z1) w8) K Z2 Z3 H0 H2 q' p sh d M n ts [] s0:=⟨Pn sm2 hh1,hs2,hsto,(sm0.trans sm1).trans sm2,hm0,hd1,nsh,ndm,OkL.nil⟩
 have ha2:=sm2.seq ha1;clear hdn sb hdx hsh hne hh1 hoq1 hs2 hst1 hpl1;walk_at "rs";refine ⟨⟨_,ha2⟩,?_⟩
 have kpM:∀{H':Hp},Kp (d::M) H2 H'→Kp M H1 H':=fun {H'} k b o nb e=>k b o (fun hm=>by
  rcases Fv.mp hm with e1 | e1
  · rw [e1,hd0]at e;cases e
  · exact nb e1) (sm2 _ _ e)
 refine Kg ys.length fun b D hD=>⟨fun i zs H'=>∃(as gs:List Addr) (ls':Ly),zs=as.map V.ref∧as.length=i∧gs.length=i∧i≤ys.length∧H' D=some (.lst zs)∧Kp (d::M) H2 H'∧lyN ls'=(gst (T81 (C2.mk Z0 Z1) w8) (rm ts) n s0 ys i).2∧D6 (T81 (C2.mk Z0 Z1) w8) K Z2 Z3 H0 H' q' p sh d M n ts ls' (gst (T81 (C2.mk Z0 Z1) w8) (rm ts) n s0 ys i).1∧gs.Nodup∧∀(j:Nat) a g,as[j]?=some a→gs[j]?=some g→a∉d::M∧g∉d::M∧a≠D∧g≠D∧H' a=some (.tup [.str (NR.grow (T81 (C2.mk Z0 Z1) w8) (rm ts) n s0 ys j).1,.bl (NR.grow (T81 (C2.mk Z0 Z1) w8) (rm ts) n s0 ys j).2.1,.ref g])∧H' g=some (.lst ((NR.grow (T81 (C2.mk Z0 Z1) w8) (rm ts) n s0 ys j).2.2.map V.str))∧H1 a=none∧H1 g=none,⟨[],[],[],rfl,rfl,rfl,FB _,A1,Kp.of (A7.new hD),rfl,hr2.same (A7.new hD),Ho,by simp⟩,?_,?_,?_⟩
 · rintro i zs H' ⟨as,gs,ls',_,_,_,_,h,_⟩
   exact h
 · rintro zs H' ⟨as,gs,ls',rfl,e1,e2,_,hDD,kp,hln,hr3,hnd,hall⟩
   have ha3:=J36 ha1 (kpM kp) ham;refine ⟨⟨_,ha3,by rw [Fa];exact Fg _⟩,?_⟩;have hrl:=Ic (T:=(T81 (C2.mk Z0 Z1) w8)) (R:=rm ts) (n:=n) (s0:=s0) (ys:=ys) (i:=ys.length)
   have hra:∀j,j < ys.length→(grows (T81 (C2.mk Z0 Z1) w8) (rm ts) n s0 ys ys.length)[j]?=some (NR.grow (T81 (C2.mk Z0 Z1) w8) (rm ts) n s0 ys j):=fun j hj=>by unfold grows;rw [Fe,HC hj];rfl
   refine q D as gs H' ((Kp.of sm1).trans (kpM kp)) hDD (fun i a hi=>?_) ⟨SqL.of hDD,by rw [e1,hrl],by rw [e2,hrl],fun i a g r h1 h2 h3=>?_⟩ hr3.h (Bf sm1 (Bf sm2 hD)) (fun hm=>?_) hnd (fun i a g h1 h2=>?_)
   · have hil:i < as.length:=(Fi.mp hi).1
     obtain ⟨_,_,_,_,k1,_⟩:=hall i a _ hi (Fb (show i < gs.length by omega));exact ⟨_,k1⟩
   · have hil:i < as.length:=(Fi.mp h1).1
     obtain ⟨_,_,_,_,k1,k2,_⟩:=hall i a g h1 h2;rw [hra i (by omega)]at h3;cases h3;exact ⟨SqT.of k1,SqL.of k2⟩
   · obtain ⟨j,hj⟩:=FC.mp hm
     have hjl:j < gs.length:=(Fi.mp hj).1;obtain ⟨_,_,_,h4,_⟩:=hall j _ _ (Fb (show j < as.length by omega)) hj;exact h4 rfl
   · obtain ⟨_,h2',_,_,k1,k2,z1,z2⟩:=hall i a g h1 h2
     exact ⟨Bf sm1 z1,Bf sm1 z2,fun hm=>h2' (Fk _ hm),k1,k2⟩
 · rintro i zs H' hi ⟨as,gs,ls',rfl,e1,e2,_,hDD,kp,hln,hr3,hnd,hall⟩
   have ha3:=J36 ha1 (kpM kp) ham;have hz:=Fb hi;generalize ys[i]'hi=z at hz;refine ⟨⟨_,V.str z,ha3,by rw [Fe,hz];rfl⟩,fun x H3 ⟨e3,ex⟩=>?_⟩;subst e3;have hx:=ex _ ha3;rw [Fe,hz]at hx;cases hx;have hsi:=Kn (R:=rm ts) hi0 hin hrm i (by omega);have hzm:=Ff hz;have e1':=R6 e1;have e1'':=R6 e1.symm;have e2':=R6 e2;have e2'':=R6 e2.symm;clear e1 e2;have hrowi:=Pm (T:=(T81 (C2.mk Z0 Z1) w8)) (R:=rm ts) (n:=n) (s0:=s0) hz;have hss:=Gg (T:=(T81 (C2.mk Z0 Z1) w8)) (R:=rm ts) (n:=n) (s0:=s0) hz
   have hpair:(gst (T81 (C2.mk Z0 Z1) w8) (rm ts) n s0 ys i)=((gst (T81 (C2.mk Z0 Z1) w8) (rm ts) n s0 ys i).1,lyN ls')∧True:=⟨by rw [hln],trivial⟩
   walk_at "go";refine ⟨w8,H0,p,d,M,n,ts,ls',_,hr3,by rw [hln];exact hsi.i,nd,htl,hin z hzm,hrm z hzm,FG (Wq i (by omega)) (by omega),fun t g ls2 H4 kp4 ht hg ht4 hg4 hln4 hr4=>?_⟩;rw [← hpair.1]at ht4 hg4 hln4 hr4;have hD3:D∉d::M:=hr2.free hD;have hDD4:=kp4 _ _ hD3 hDD
   have htD:t≠D:=fun e=>by rw [e,hDD]at ht;cases ht
   have hgD:g≠D:=fun e=>by rw [e,hDD]at hg;cases hg
   have ht1:H1 t=none:=M3 (kpM kp) (fun hm=>hr3.free ht (Fk _ hm)) ht;have hg1:H1 g=none:=M3 (kpM kp) (fun hm=>hr3.free hg (Fk _ hm)) hg
   have hndg:(gs++[g]).Nodup:=by
    rw [FV];refine ⟨hnd,by simp,fun x hx y hy e=>?_⟩;obtain ⟨j,hj⟩:=FC.mp hx;have hjl:j < gs.length:=(Fi.mp hj).1;obtain ⟨_,_,_,_,_,k2,_⟩:=hall j _ _ (Fb (show j < as.length by omega)) hj;rw [e,Fh.mp hy,hg]at k2;cases k2
   refine Ga hDD4 (by rw [Fa];omega) hi ⟨as++[t],by rw [Fp];rfl,by rw [Fm];simp only [List.length_cons,List.length_nil];omega,gs++[g],by rw [Fm];simp only [List.length_cons,List.length_nil];omega,hi,A1,J2y (kp.trans kp4) hD,ls2,by rw [hss];exact hln4,?_,hndg,fun j a' g' h1 h2=>?_⟩
   · rw [hss]
     exact hr4.lst (fun b o e nb=>by rw [A3 nb];exact e) hDD4 (fun h=>hD3 (Fk _ h)) (Bf hr2.sm hD)
   · rcases Pk h1 with ⟨l1,c1⟩ | ⟨l1,c1⟩
     · rcases Pk h2 with ⟨l2,c2⟩ | ⟨l2,c2⟩
       · obtain ⟨n1,n2,n3,n4,k1,k2,z1,z2⟩:=hall j a' g' c1 c2
         refine ⟨n1,n2,n3,n4,?_,?_,z1,z2⟩
         · rw [A3 n3];exact kp4 _ _ n1 k1
         · rw [A3 n4];exact kp4 _ _ n2 k2
       · omega
     · rcases Pk h2 with ⟨l2,c2⟩ | ⟨l2,c2⟩
       · omega
       · rw [c1,c2,show j=i by omega,hrowi]
         refine ⟨hr3.free ht,hr3.free hg,htD,hgD,?_,?_,ht1,hg1⟩
         · rw [A3 htD];exact ht4
         · rw [A3 hgD];exact hg4
variable (Z3b:Def P w K mg base CX0 8 "book_of" ["rule","asks"] (Ih (T81 (C2.mk Z0 Z1)) K Z2 Z3))
include T Z0l in
theorem Z6j(F:Fun K "read_name" "read_name" Z3l f fd):Al P w K mg base CX0 3 f fd ["word"] (Ij):=by
 have sc:A9 ["word"] ["word"] (A6 Z3l):=by walk_at "sc"
 walk_at "ok"
 · exact n1 h_ fun _=>rfl
 refine x1 h_ fun z e_=>y3 e_ fun e0 hz q=>?_;clear e_ h_;subst e0
 refine ⟨_,(@A2 _ _ _ _ _ (Ay (Cb (Bv (Ad Z0l hr rfl Ab (A0 (pv 0) A4))))
  (@A5 _ _ _ Az)
  Ag)
  (@A5 _ _ _ (@Ac _ _ _ _ (pv 0)))),?_⟩
 walk_at "st";have hl:=Da hz;rw [Bm]at hl;walk_at "go";intro H' sm;rw [hz,if_neg (by simp)];walk_at "rs";exact q H' sm
variable (Z23:Def P w K mg base CX0 3 "read_name" ["word"] (Ij))
include T Z23 Z12 Z2n in
theorem Z6k(F:Fun K "read_word" "read_word" Z3m f fd):Al P w K mg base CX0 4 f fd ["kind","word"] (Im (C2.mk xmake_oldest xmake_first)):=by
 have sc:A9 ["kind","word"] ["kind","word"] (A6 Z3m):=by walk_at "sc"
 walk_at "ok"
 · exact n3 h_ fun _ _ _=>rfl
 refine x3 h_ fun k w' v e_=>y3 e_ fun e0 hW q=>?_;clear e_ h_;subst e0
 refine ⟨_,(@A2 _ _ _ _ _ (Ay (Ak G6 (pv 0) Ai (nomark _))
  (@A5 _ _ _ (@Ac _ _ _ _ (Ad Z23 hr rfl Ab (A0 (pv 1) A4))))
  Ag)
  (@A2 _ _ _ _ _ (Ay (Ak G6 (pv 0) Ai (nomark _))
   (@A5 _ _ _ (@Ac _ _ _ _ (Ad Z2n hr rfl Ab (A0 (pv 1) A4))))
   Ag)
  (@A5 _ _ _ (@Ac _ _ _ _ (Ad Z12 hr rfl Ab (A0 (pv 1) A4)))))),?_⟩
 walk_at "st";walk_at "go";rcases hW with ⟨h1,h2,rfl⟩ | ⟨h1,b,rfl,rfl⟩ | ⟨h1,h2,h3,rfl⟩
 · rw [if_pos h1]
   exact ⟨h2,q⟩
 · rw [if_neg (by rw [h1];decide+kernel)]
   walk_at "rs";rw [if_pos h1];exact ⟨b,rfl,q H (A7.refl H)⟩
 · rw [if_neg h1]
   walk_at "rs";rw [if_neg h2];walk_at "rs";exact q
variable (Z24:Def P w K mg base CX0 4 "read_word" ["kind","word"] (Im (C2.mk xmake_oldest xmake_first)))
include T in
theorem Z6z(F:Fun K "kinds_of" "kinds_of" Z3u f fd):Al P w K mg base CX0 1 f fd ["form","many"] (Es K):=by
 have sc:A9 ["form","many"] ["form","many"] (A6 Z3u):=by walk_at "sc"
 walk_at "ok"
 · exact n3 h_ fun _ _ _=>rfl
 refine x3 h_ fun a fs n e_=>y6 e_ fun e0 hS hl hn h1 q=>?_;clear e_ h_;subst e0
 refine ⟨_,(@A2 _ _ _ _ _ (Ay (Ak Xr Ai (pv 0) (by with_unfolding_all rfl))
  (@A5 _ _ _ (@Ac _ _ _ _ (Ah J7e (@Bp _ _ _ _ (A0 (@Bn _ _ _ _ _ _ _ Cp (pv 0) Aa (fun _ _=>rfl)) A4)) (Aq (Xk rfl) rfl T.Z77 (by first | rfl | decide+kernel) (A0 Aa (A0 (pv 1) A4))))))
  Ag)
  (@A5 _ _ _ (@Ac _ _ _ _ (Bq Oz rfl T.Z46 (by first | rfl | decide+kernel) (A0 (pv 0) A4))))),?_⟩
 walk_at "st";walk_at "go";refine J5a hS ⟨_,rfl,?_⟩
 by_cases hd:Str.ofString ".."∈fs
 · rw [if_pos (by simpa using hd)]
   have hl1:=h1 hd;refine D4 hS (v:=V.str (fs.getD 0 Str.empty)) (Bo (j:=0) (by cases fs with | nil=>exact absurd hl1 (by simp) | cons u r=>rfl)) ⟨by omega,fun p hp=>?_⟩;show J9q (V.ref p) (V.int (if (n:Int) > 1 then (n:Int) else 1)) _ _
   have em:(if (n:Int) > 1 then (n:Int) else 1)=((max 1 n:Nat):Int):=by split <;> omega
   rw [em]
   have hm:max 1 n≤100:=by omega
   refine ⟨p,_,_,rfl,rfl,A1,by omega,by omega,by rw [Int.toNat_natCast];simp only [List.length_cons,List.length_nil];omega,fun p1 hp1=>?_⟩;refine q p1 _ (none_of (A7.new hp) hp1) ((A7.new hp).trans (A7.new hp1)) ?_;rw [A1,Int.toNat_natCast];unfold Bg;rw [if_pos hd,List.map_replicate];congr 2;generalize max 1 n=m
   induction m with
   | zero=>rfl
   | succ m ih=>rw [Hi,Hf,ih,Hi];rfl
 · rw [if_neg (by simpa using hd)]
   walk_at "rs";intro l hl;refine q l _ hl (A7.new hl) ?_;rw [A1];unfold Bg;rw [if_neg hd]
variable (Z2o:Def P w K mg base CX0 1 "kinds_of" ["form","many"] (Es K))
include T Z2o Z24 in
theorem Z6l(F:Fun K "read_line" "read_line" Z3n f fd)(Z5e:∀b,Pu w.params K Zm b):Al P w K mg base CX0 5 f fd ["line"] (Io (C2.mk xmake_oldest xmake_first)):=by
 have sc:A9 ["line","words","first","kinds"] ["line"] (A6 Z3n):=by walk_at "sc"
 walk_at "ok"
 · exact n1 h_ fun _=>rfl
 refine x1 h_ fun l e_=>y3 e_ fun e0 ok q=>?_;clear e_ h_;subst e0
 refine ⟨_,(@A2 _ _ _ _ _ (Aj (i:=1) sc.nd rfl (Or.inl rfl) (Ey He PySem.F.slot_str_split PySem.F.type_str_split J1e (pv 0) (A0 Ai A4)))
  (@A2 _ _ _ _ _ (Aj (i:=2) sc.nd rfl (Or.inl rfl) (@Bn _ _ _ _ _ _ _ C8 (pv 1) Aa (fun _ _=>rfl)))
  (@A2 _ _ _ _ _ (Ay (Oj (Wz (pv 2) (Cu (v:= .ref Zm) rfl T.Z72 rfl)))
   (@A5 _ _ _ Az)
   Ag)
  (@A2 _ _ _ _ _ (Aj (i:=3) sc.nd rfl (Or.inl rfl) (Ad Z2o hr rfl Ab (A0 (Pq (Cu (v:= .ref Zm) rfl T.Z72 rfl) (pv 2) (fun _ _=>rfl)) (A0 (Ah Ot (Aq Ba rfl T.Zt FM (A0 (pv 1) A4)) Aa) A4))))
  (@A2 _ _ _ _ _ (Ay (Ak Iq (Aq Ba rfl T.Zt FM (A0 (pv 3) A4)) (Ah Ot (Aq Ba rfl T.Zt FM (A0 (pv 1) A4)) Aa) (nomark _))
   (@A5 _ _ _ Az)
   Ag)
  (@A5 _ _ _ (@Ac _ _ _ _ (Iw (A0 (pv 2) (A0 (J2e "kind" "word" [] rfl rfl (J2b rfl T.Z64 (A0 (pv 3) (A0 (Q7 Ut (pv 1) (Ov Aa) J45) A4))) (fun b=>(Ad Z24 hr rfl Ab (A0 (pv 0) (A0 (pv 1) A4))))) A4)))))))))),?_⟩
 walk_at "st";have hlong:=ok.long;walk_at "go";intro p hp;rw [ok.split];have sm1:A7 H (upd H p (.lst ((wd1 l.b::l.ws).map V.str))):=A7.new hp;have hp1:upd H p (.lst ((wd1 l.b::l.ws).map V.str)) p=some (.lst ((wd1 l.b::l.ws).map V.str)):=A1;generalize upd H p (.lst ((wd1 l.b::l.ws).map V.str))=H1 at sm1 hp1 ⊢;obtain ⟨fa,hf1,hf2⟩:=Z5e l.b;walk_at "rs";refine Cr (SqL.of hp1) (v:=V.str (wd1 l.b)) (Bo (j:=0) rfl) ?_;walk_at "rs";refine ⟨_,hf1,?_⟩;rw [if_neg (by simp)];walk_at "rs";refine ⟨_,hf1,_,.inl (SqL.of hp1),fa,rfl,fm1 l.b,l.ws.length,by rw [Fa,List.length_cons];omega,hf2 H1,(Ui l.b).1,ok.n,(Ui l.b).2,fun k2 H2 hk sm2 hk2=>?_⟩;have hp2:=sm2 _ _ hp1;have sm02:=sm1.trans sm2;clear sm1 sm2 hp1 hf1 hf2;have hkl:=ok.k;have hall:=ok.w;generalize Bg (fm1 l.b) l.ws.length=ks at hk2 hkl hall;walk_at "rs";refine ⟨_,.inl (SqL.of hk2),_,.inl (SqL.of hp2),?_⟩;rw [if_neg (by rw [Fa,Fa,List.length_cons];omega)]
 walk_at "rs";refine ⟨_,SqL.of hp2,fun p3 hp3=>?_⟩;rw [List.map_cons,J8m];have sm3:A7 H2 (upd H2 p3 (.lst (l.ws.map V.str))):=A7.new hp3;have hp33:upd H2 p3 (.lst (l.ws.map V.str)) p3=some (.lst (l.ws.map V.str)):=A1;generalize upd H2 p3 (.lst (l.ws.map V.str))=H3 at sm3 hp33 ⊢;have hk3:=sm3 _ _ hk2;have sm03:=sm02.trans sm3;clear sm02 sm3 hp2 hk2 hp3;have hvl:=ok.v;have hml:=ok.n;refine ⟨⟨_,SqL.of hk3⟩,⟨_,SqL.of hp33⟩,?_⟩;refine J3n (fun i=>l.vs.getD i .non) (by rw [Fa,Fa];omega) (SqL.of hk3) (SqL.of hp33) (by rw [Fa];omega) (fun b i x z H' Q' hx hz sm q'=>?_) fun D H4 hD sm4 hD4=>?_
 · rw [Fe]at hx hz
   cases hki:ks[i]? with
   | none=>rw [hki]at hx;cases hx
   | some k=>
   cases hwi:l.ws[i]? with
   | none=>rw [hwi]at hz;cases hz
   | some w'=>
   rw [hki]at hx;rw [hwi]at hz;cases hx;cases hz;have hil:=(Fi.mp hwi).1
   have hvi:l.vs[i]?=some (l.vs.getD i .non):=by rw [Fc,Fb (by omega)];rfl
   have hW:=hall i k w' _ hki hwi hvi;walk_at "go";exact ⟨_,hW,q'⟩
 have eD:(List.range (l.ws.map V.str).length).map (fun i=>l.vs.getD i V.non)=l.vs:=by
  refine Ra fun i=>?_;rw [Fe]
  by_cases hi:i < l.vs.length
  · rw [HC (by rw [Fa];omega),Fb hi]
    show some (l.vs.getD i V.non)=_;rw [Fc,Fb hi];rfl
  · rw [FS (by rw [FW,Fa];omega),FS (by omega)];rfl
 rw [eD]at hD4;clear eD;refine ⟨by omega,fun t ht=>?_⟩;have sm04:=sm03.trans sm4;exact q t D _ (sm04.trans (A7.new ht)) (none_of sm04 ht) (none_of sm03 hD) (A8 hD4 ht).symm A1 ((A7.new ht) _ _ hD4)
variable (Z25:Def P w K mg base CX0 5 "read_line" ["line"] (Io (C2.mk xmake_oldest xmake_first)))
include T Zw in
theorem Z6m(F:Fun K "__init__" "Desk.__init__" Z3o f fd):Al P w K mg base CX0 6 f fd ["self"] (Ik K Z4 Z2):=by
 have sc:A9 ["self"] ["self"] (A6 Z3o):=by walk_at "sc"
 walk_at "ok"
 · exact n2 h_ fun _ _=>rfl
 refine x2 h_ fun d dx e_=>y3 e_ fun e0 hd q=>?_;clear e_ h_;subst e0
 refine ⟨_,(@A2 _ _ _ _ _ (C1 (pv 0) (E9 Zw hr rfl (As Ab) (A0 (@Bp _ _ _ _ A4) A4)) rfl)
  (@A2 _ _ _ _ _ (C1 (pv 0) (@Bp _ _ _ _ A4) rfl)
  (@A5 _ _ _ (C1 (pv 0) J73 rfl)))),?_⟩
 walk_at "st";walk_at "go";intro p hp st dx2 hst hdx2 ne1;have sm1:A7 H (upd H p (.lst [])):=A7.new hp;have hp1:upd H p (.lst []) p=some (.lst []):=A1;generalize upd H p (.lst [])=H1 at sm1 hp1 hst hdx2 ⊢
 have smx:A7 H1 (upd (upd H1 dx2 (.own st)) st (.ins Z2 dx2 [])):=fun b o e=>by rw [A3 (A8 e hst),A3 (A8 e hdx2)];exact e
 refine ⟨dx2,A1,[],⟨SqL.of (smx _ _ hp1),(fun t ht=>absurd ht Ha),rfl,fun H2 sb2 stkN=>?_⟩⟩;have stk:=stkN.at';have sm2:A7 H1 H2:=Gx hst hdx2 sb2;have sm02:=sm1.trans sm2;have hst0:H st=none:=none_of sm1 hst;have hd2:=sm02 _ _ hd;have hds:d≠st:=A8 hd hst0;have stk2:Af K Z2 H2 st []:=stk
 have stkn:Ud K Z2 H H2 st []:=stkN.mk' stk rfl fun b e=>by
  cases k:H b with
  | none=>rfl
  | some o=>rw [smx _ _ (sm1 _ _ k)]at e;cases e
 clear stk stkN smx sb2 hst hdx2 ne1 sm1 hp1 sm2 hp;refine ⟨Z4,dx,[],hd2,T.Za,T.Zn,by decide,?_⟩;walk_at "rs";intro as has;have hd3:upd H2 d (.ins Z4 dx (B3 (Str.ofString "stock") (.ref st) [])) d=some (.ins Z4 dx (B3 (Str.ofString "stock") (.ref st) [])):=A1
 have sb3:SameBut d H (upd H2 d (.ins Z4 dx (B3 (Str.ofString "stock") (.ref st) []))):=fun b o e nb=>by rw [A3 nb];exact sm02 _ _ e
 have stk3:Af K Z2 (upd H2 d (.ins Z4 dx (B3 (Str.ofString "stock") (.ref st) []))) st []:=by
  obtain ⟨dx',d',kvs,h1,h2,h3,h4⟩:=stk2.ex
  have hk:kvs=[]:=by cases kvs with | nil=>rfl | cons u r=>cases h3
  subst hk
  have n1:st≠d:=fun e=>by rw [e,hd2]at h1;cases h1
  have n2:d'≠d:=fun e=>by rw [e,hd2]at h2;cases h2
  exact ⟨dx',d',[],by rw [A3 n1];exact h1,by rw [A3 n2];exact h2,h3,fun i t e=>by simp at e⟩
 have hst3:upd H2 d (.ins Z4 dx (B3 (Str.ofString "stock") (.ref st) [])) st=H2 st:=A3 hds.symm;generalize upd H2 d (.ins Z4 dx (B3 (Str.ofString "stock") (.ref st) []))=H3 at hd3 sb3 stk3 has hst3 ⊢;have nad:d≠as:=A8 hd3 has
 have has0:H as=none:=by
  cases k:H as with
  | none=>rfl
  | some o=>rw [sb3 _ _ k nad.symm]at has;cases has
 refine ⟨Z4,dx,_,by rw [A3 nad];exact hd3,T.Za,T.Zq,HJ (Fg 1) (by decide),?_⟩;have has4:upd H3 as (.lst []) as=some (.lst []):=A1;have sm4:A7 H3 (upd H3 as (.lst [])):=A7.new has;generalize upd H3 as (.lst [])=H4 at has4 sm4 ⊢;have hd4:=sm4 _ _ hd3;have stk4:=stk3.same sm4;have sb4:SameBut d H H4:=fun b o e nb=>sm4 _ _ (sb3 _ _ e nb);walk_at "rs";refine ⟨Z4,dx,_,A1,T.Za,T.Z2s,HJ (Fg 2) (by decide),?_⟩;have nad2:as≠d:=nad.symm;refine q st as _ (fun b o e nb=>by rw [A3 nb];exact sb4 _ _ e nb) ⟨dx,_,A1,⟨by with_unfolding_all rfl,by with_unfolding_all rfl,by with_unfolding_all rfl,by show 3 < 500;decide,by with_unfolding_all rfl,by with_unfolding_all rfl⟩⟩ (stkn.mk' ?_ ?_ fun b e=>e) (by rw [A3 nad2];exact has4) hst0 has0
 case refine_2=>
  obtain ⟨dx',d',kvs,h1,h2,h3,h4⟩:=stk2.ex;rw [A3 hds.symm,h1];refine sm4 _ _ ?_;rw [hst3];exact h1
 obtain ⟨dx',d',kvs,h1,h2,h3,h4⟩:=stk4.ex
 have hk:kvs=[]:=by cases kvs with | nil=>rfl | cons u r=>cases h3
 subst hk;have n1:st≠d:=hds.symm
 have n2:d'≠d:=fun e=>by rw [e,hd4]at h2;cases h2
 exact ⟨dx',d',[],by rw [A3 n1];exact h1,by rw [A3 n2];exact h2,h3,fun i t e=>by simp at e⟩
variable (Z0w:Pb P w K mg base CX0 6 "Desk" Z4 ["self"] (Ik K Z4 Z2))
include T in
theorem Z4n(F:Fun K "words_or_none" "words_or_none" Z1h f fd):Al P w K mg base CX0 1 f fd ["parts"] (Ew):=by
 have sc:A9 ["parts"] ["parts"] (A6 Z1h):=by walk_at "sc"
 walk_at "ok"
 · exact n2 h_ fun _ _=>rfl
 refine x2 h_ fun a xs e_=>y5 e_ fun e0 ha hl hx q=>?_;clear e_ h_;subst e0;refine ⟨_,(@A5 _ _ _ (@Ac _ _ _ _ (Q3 (Ak (J1o hr) (pv 0) (@Bp _ _ _ _ A4) (nomark _)) Ai (Ey He Hr Hq Gu Ai (A0 (pv 0) A4))))),?_⟩;walk_at "st";walk_at "go";intro p hp;have sm:A7 H (upd H p (.lst [])):=A7.new hp;refine ⟨_,N26.J3c (sm _ _ ha) A1,?_⟩
 by_cases e:xs=[]
 · rw [if_pos (FA e)]
   have:=q _ sm;rw [if_pos e]at this;exact this
 · rw [if_neg (by rw [Fw e];decide)]
   have:=q _ sm;rw [if_neg e]at this;have h1:=Ku hx;exact ⟨xs,SqL.of (sm _ _ ha),by rw [sp1];omega,this⟩
variable (Z0h:Def P w K mg base CX0 1 "words_or_none" ["parts"] (Ew))
include T in
theorem Z70(F:Fun K "show_row" "show_row" Z3v f fd):Al P w K mg base CX0 1 f fd ["row"] (Kw):=by
 have sc:A9 ["row"] ["row"] (A6 Z3v):=by walk_at "sc"
 walk_at "ok"
 · exact n4 h_ fun _ _ _ _=>rfl
 refine x4 h_ fun t' g z b e_=>y5 e_ fun e0 ht hg hz q=>?_;clear e_ h_;subst e0;refine ⟨_,(@A5 _ _ _ (@Ac _ _ _ _ (Ah Au (Ah Au (@Bn _ _ _ _ _ _ _ Cp (pv 0) Aa (fun _ _=>rfl)) (Q3 (Bv (@Bn _ _ _ _ _ _ _ Cp (pv 0) Aa (fun _ _=>rfl))) Ai Ai)) (Ey He Hr Hq Gu Ai (A0 (@Bn _ _ _ _ _ _ _ Cp (pv 0) Aa (fun _ _=>rfl)) A4))))),?_⟩;walk_at "st";walk_at "go";refine D4 (SqT.of ht) (v:=V.str z) (Bo (j:=0) rfl) ?_;refine D4 (SqT.of ht) (v:=V.bl b) (Bo (j:=1) rfl) ⟨b,rfl,?_⟩
 have e1:(Str.ofString "+").length=1:=by decide+kernel
 have e2:(Str.ofString "-").length=1:=by decide+kernel
 have e3:Txt.join (Str.ofString ",") []=Str.empty:=by decide+kernel
 cases b with
 | true=>
  rw [if_pos rfl];refine ⟨z,rfl,by omega,D4 (SqT.of ht) (v:=V.ref g) (Bo (j:=2) rfl) ⟨g,rfl,[],SqL.of hg,by decide,?_,?_⟩⟩
  · rw [e3,Aw,e1];show z.length+1+0≤_;omega
  · rw [e3,Str.append_empty];exact q
 | false=>
  rw [if_neg (by decide)];refine ⟨z,rfl,by omega,D4 (SqT.of ht) (v:=V.ref g) (Bo (j:=2) rfl) ⟨g,rfl,[],SqL.of hg,by decide,?_,?_⟩⟩
  · rw [e3,Aw,e2];show z.length+1+0≤_;omega
  · rw [e3,Str.append_empty];exact q
variable (Z2p:Def P w K mg base CX0 1 "show_row" ["row"] (Kw))
include T in
theorem Z6n(F:Fun K "show_paid" "show_paid" Z3p f fd):Al P w K mg base CX0 1 f fd ["paid"] (Ex):=by
 have sc:A9 ["paid"] ["paid"] (A6 Z3p):=by walk_at "sc"
 walk_at "ok"
 · exact n1 h_ fun _=>rfl
 refine x1 h_ fun i e_=>y4 e_ fun e0 h0 h1 q=>?_;clear e_ h_;subst e0;refine ⟨_,(@A5 _ _ _ (@Ac _ _ _ _ (Pa (Gv Ai (Gv (Tx (pv 0)) Tv))))),?_⟩;walk_at "st";walk_at "go"
 have e:Str.empty++Str.ofString "paid "=Str.ofString "paid ":=by decide+kernel
 have e1:(Str.ofString "paid ").length=5:=by decide+kernel
 have hl:(Str.ofString (toString i)).length≤40:=N8.Cy h0 (HK h1 (by decide));rw [e];exact ⟨Gj h0 (by omega),by rw [Aw];omega,by rw [Aw];omega,q⟩
variable (Z26:Def P w K mg base CX0 1 "show_paid" ["paid"] (Ex))
include T in
theorem Z4t(F:Fun K "answer_again" "answer_again" Z1w f fd):Al P w K mg base CX0 11 f fd ["desk","given"] (Dl Z4):=by
 have sc:A9 ["desk","given"] ["desk","given"] (A6 Z1w):=by walk_at "sc"
 walk_at "ok"
 · exact n5 h_ fun _ _ _ _ _=>rfl
 refine x5 h_ fun d gv st as tw e_=>y3 e_ fun e0 hD q=>?_;clear e_ h_;subst e0
 refine ⟨_,(@A2 _ _ _ _ _ (C1 (pv 0) (@Bp _ _ _ _ A4) rfl)
  (@A5 _ _ _ (@Ac _ _ _ _ Ai))),?_⟩
 walk_at "su";obtain ⟨dx,fs,ho,hf⟩:=id hD.o;walk_at "go";intro p hp
 have hp1:upd H p (.lst []) d=some (.ins Z4 dx fs):=by rw [A3 (A8 ho hp)];exact ho
 refine ⟨Z4,dx,fs,hp1,T.Za,T.Zq,by have:=hf.n;omega,?_⟩;walk_at "rs";have npd:p≠d:=(A8 ho hp).symm;exact q p _ (fun b o e nb=>by rw [A3 nb,A3 (A8 e hp)];exact e) ⟨dx,_,A1,hf.asks⟩ (by rw [A3 npd];exact A1) hp
variable (Z0t:Def P w K mg base CX0 11 "answer_again" ["desk","given"] (Dl Z4))
include T Z10 Zf Z5 Zw in
theorem Z4u(F:Fun K "answer_thing" "answer_thing" Z1x f fd):Al P w K mg base CX0 11 f fd ["desk","given"] (D2 K Z4 Z2):=by
 have sc:A9 ["desk","given","stock","earlier"] ["desk","given"] (A6 Z1x):=by walk_at "sc"
 walk_at "ok"
 · exact n7 h_ fun _ _ _ _ _ _ _=>rfl
 refine x7 h_ fun d gv st as ts ys t e_=>y7 e_ fun e0 hK nd hl hok hg q=>?_;clear e_ h_;subst e0
 refine ⟨_,(@A2 _ _ _ _ _ (Aj (i:=2) sc.nd rfl (Or.inr rfl) (Av (pv 0) rfl))
  (@A2 _ _ _ _ _ (Ql (i:=3) "name" [2] sc.nd rfl rfl rfl rfl (Cv (Df Z10 T.Zb hr (As Ab) (pv 2))) (fun b=>(Iw (A0 (pv 0) (A0 (Am Zf T.Zb hr (As Ab) (pv 1) (A0 (pv 0) A4)) (A0 (Am Z5 T.Zb hr (As Ab) (pv 1) (A0 (pv 0) A4)) A4))))))
  (@A2 _ _ _ _ _ (C1 (pv 0) (E9 Zw hr rfl (As Ab) (A0 (Ah L3 (pv 3) (@Bp _ _ _ _ (A0 (Bq Nf rfl T.Z4z (by first | rfl | decide+kernel) (A0 (pv 1) A4)) A4))) A4)) rfl)
  (@A5 _ _ _ (@Ac _ _ _ _ Ai))))),?_⟩
 walk_at "su";obtain ⟨hD,hst,hak,_,_,_,hyy,hyl⟩:=id hK;have line:=Bl;obtain ⟨dx,fs,ho,hf⟩:=id hD.o;walk_at "go";refine ⟨Z4,dx,fs,ho,T.Za,T.Zn,_,hf.st,?_⟩;walk_at "rs";obtain ⟨dx',d',kvs',g1,g2,g3⟩:=Af.has hst;clear g3;refine ⟨dx',flds d',g1,by rfl,ts,hst,fun l hl=>?_⟩;have sm1:A7 H (upd H l (.lst ((ts.map (·.1)).map V.str))):=A7.new hl;have hl1:upd H l (.lst ((ts.map (·.1)).map V.str)) l=some (.lst ((ts.map (·.1)).map V.str)):=A1;generalize upd H l (.lst ((ts.map (·.1)).map V.str))=H1 at sm1 hl1 ⊢;have hst1:=hst.same sm1
 have nd1:(ts.map (·.1)).Nodup:=by
  rw [Fp]at nd;exact (FV.mp nd).1
 refine ⟨⟨_,SqL.of hl1⟩,N35.Yj (xs:=(ts.map (·.1)).map V.str) (fun i=>[V.str (ts.getD i thd).1,V.int (ts.getD i thd).2.1,V.int (ts.getD i thd).2.2]) (SqL.of hl1) (by rw [Fa,Fa];omega) (fun b i x H' Q' hx sm q'=>?_) fun r as' H2 hr sm2 hr2 hal hT=>?_⟩
 · rw [Fe,Fe]at hx
   cases ht:ts[i]? with
   | none=>rw [ht]at hx;cases hx
   | some u=>
   rw [ht]at hx;cases hx
   have eu:ts.getD i thd=u:=by rw [Fc,ht];rfl
   rw [eu]at q';have hum:u.1∈ts.map (·.1):=Fz.mpr ⟨u,Ff ht,rfl⟩;have hst':=hst1.same sm;obtain ⟨dx2,d2,kvs2,k1,k2,_⟩:=Af.has hst';walk_at "go";refine ⟨dx2,flds d2,k1,by rfl,ts,hst',nd1,hum,dx2,flds d2,k1,by rfl,ts,hst',nd1,hum,by omega,fun p hp=>?_⟩;obtain ⟨i9,hi9⟩:=FC.mp (Ff ht);rw [Ph nd1 hi9,O9 nd1 hi9];exact q' p _ (A7.new hp) A1
 rw [Fa,Fa]at hal;have sm02:=sm1.trans sm2;have hg2:=sm02 _ _ hg;have hst2:=hst.same sm02;have hd2:=sm02 _ _ ho;clear hst1 sm1 sm2 hl1 hl g1 g2;walk_at "rs";refine ⟨_,.inl ⟨SqL.of hg2,fun l3 hl3=>⟨by omega,fun p3 hp3=>?_⟩⟩⟩;have sm3:A7 H2 (upd H2 l3 (.tup [.str t.1,.int t.2.1,.int t.2.2])):=A7.new hl3;have hl33:upd H2 l3 (.tup [.str t.1,.int t.2.1,.int t.2.2]) l3=some (.tup [.str t.1,.int t.2.1,.int t.2.2]):=A1;generalize upd H2 l3 (.tup [.str t.1,.int t.2.1,.int t.2.2])=H3 at sm3 hl33 hp3 ⊢;have sm4:A7 H3 (upd H3 p3 (.lst [V.ref l3])):=A7.new hp3;have hp34:upd H3 p3 (.lst [V.ref l3]) p3=some (.lst [V.ref l3]):=A1;generalize upd H3 p3 (.lst [V.ref l3])=H4 at sm4 hp34 ⊢;have sm24:=sm3.trans sm4;refine ⟨r,p3,_,_,rfl,rfl,sm24 _ _ hr2,hp34,by rw [Fa];simp only [List.length_cons,List.length_nil];omega,fun c5 hc5=>?_⟩;have sm5:A7 H4 (upd H4 c5 (.lst (as'.map V.ref++[V.ref l3]))):=A7.new hc5
 have hc55:upd H4 c5 (.lst (as'.map V.ref++[V.ref l3])) c5=some (.lst ((as'++[l3]).map V.ref)):=by rw [A1,Fp];rfl
 generalize upd H4 c5 (.lst (as'.map V.ref++[V.ref l3]))=H5 at sm5 hc55 ⊢;have sm25:=sm24.trans sm5;have hl35:=sm5 _ _ (sm4 _ _ hl33);have hd5:=sm25 _ _ hd2;have sm05:=sm02.trans sm25
 have rows:U7 K H5 c5 (as'++[l3]) (ts++[t]):=⟨SqL.of hc55,by rw [Fm,Fm,hal];rfl,by rw [Fm];simp only [List.length_cons,List.length_nil];omega,fun i a u h1 h2=>?_,hok,nd⟩
 case refine_1=>
  by_cases hi:i < ts.length
  · rw [Fy (by omega)]at h1
    rw [Fy hi]at h2;have h3:=hT i a h1;rw [show ts.getD i thd=u by rw [Fc,h2];rfl]at h3;exact SqT.of (sm25 _ _ h3)
  · have hl9:=(Fi.mp h1).1
    rw [Fm]at hl9;simp only [List.length_cons,List.length_nil]at hl9
    have hi2:i=ts.length:=by omega
    rw [FD (by omega),hal,hi2,Nat.sub_self]at h1;rw [FD (by omega),hi2,Nat.sub_self]at h2;cases h1;cases h2;exact SqT.of hl35
 intro st2 dy hst2' hdy ne1;obtain ⟨rws,r1,r2,r3,r4⟩:=rows.init
 have smx:A7 H5 (upd (upd H5 dy (.own st2)) st2 (.ins Z2 dy [])):=fun b o e=>by rw [A3 (A8 e hst2'),A3 (A8 e hdy)];exact e
 refine ⟨dy,c5,rfl,A1,rws,by rw [r1];exact smx.seq rows.l,fun u hu=>smx.tup (r2 u hu),r3,fun H6 sb6 stkN=>?_⟩;rw [r4]at stkN;have stk:=stkN.at';have sm6:A7 H5 H6:=Gx hst2' hdy sb6;have hd6:=sm6 _ _ hd5;have sm06:=sm05.trans sm6;have hst0:H st2=none:=none_of sm05 hst2'
 have stkn:Ud K Z2 H H6 st2 (ts++[t]):=stkN.mk' stk rfl fun b e=>by
  cases k:H b with
  | none=>rfl
  | some o=>rw [smx _ _ (sm05 _ _ k)]at e;cases e
 have hdst:st2≠d:=fun e=>by rw [e,ho]at hst0;cases hst0
 clear stkN r1 r2 r3 r4 smx sb6 rows hst2' hdy ne1;refine ⟨Z4,dx,fs,hd6,T.Za,T.Zn,by have:=hf.n;omega,?_⟩;walk_at "rs"
 have nad:as≠d:=fun e=>by rw [e,ho]at hak;cases hak
 have stk2:Af K Z2 (upd H6 d (.ins Z4 dx (B3 (Str.ofString "stock") (.ref st2) fs))) st2 (ts++[t]):=by
  have:=Kv stk hd6 hf.k;exact (this.off (H':=upd H6 d (.ins Z4 dx (B3 (Str.ofString "stock") (.ref st2) fs))) fun b o e nb=>by rw [A3 (fun k=>nb (by rw [k];simp))];exact e).at
 refine q st2 _ (fun b o e nb=>by rw [A3 nb];exact sm06 _ _ e) ⟨⟨⟨dx,_,A1,hf.stock⟩⟩,stk2,by rw [A3 nad];exact sm06 _ _ hak,nd,by rw [Fm];simp only [List.length_cons,List.length_nil];omega,hok,fun y hy=>by rw [Fp];exact Hw _ (hyy y hy),hyl⟩ hst0
variable (Z0u:Def P w K mg base CX0 11 "answer_thing" ["desk","given"] (D2 K Z4 Z2))
include T Zg in
theorem Z5z(F:Fun K "answer_ask" "answer_ask" Z32 f fd):Al P w K mg base CX0 11 f fd ["desk","given"] (Ef K Z4 Z2):=by
 have sc:A9 ["desk","given","asks","many"] ["desk","given"] (A6 Z32):=by walk_at "sc"
 walk_at "ok"
 · exact n7 h_ fun _ _ _ _ _ _ _=>rfl
 refine x7 h_ fun d gv st as ts ys zs e_=>y6 e_ fun e0 hK hg hl hz q=>?_;clear e_ h_;subst e0
 refine ⟨_,(@A2 _ _ _ _ _ (Aj (i:=2) sc.nd rfl (Or.inl rfl) (Ah L3 (Av (pv 0) rfl) (pv 1)))
  (@A2 _ _ _ _ _ (B0 (Ad Zg hr rfl Ab (A0 (Av (pv 0) rfl) (A0 (pv 2) (A0 (Ej rfl T.Z0y) A4)))))
  (@A2 _ _ _ _ _ (C1 (pv 0) (pv 2) rfl)
  (@A2 _ _ _ _ _ (Aj (i:=3) sc.nd rfl (Or.inl rfl) (Aq Ba rfl T.Zt FM (A0 (pv 2) A4)))
  (@A5 _ _ _ (@Ac _ _ _ _ (Pa (Gv Ai (Gv (Tx (pv 3)) Tv))))))))),?_⟩
 walk_at "su";obtain ⟨hD,hst,hak,nd,hl59,hgd,hyy,hyl⟩:=id hK;have line:=Bl;obtain ⟨dx,fs,ho,hf⟩:=id hD.o;walk_at "go";refine ⟨Z4,dx,fs,ho,T.Za,T.Zq,_,hf.as,as,gv,_,_,rfl,rfl,hak,hg,by rw [Fa,Fa];omega,fun c hc=>?_⟩;rw [← Fp];have sm1:A7 H (upd H c (.lst ((ys++zs).map V.str))):=A7.new hc;have hc1:upd H c (.lst ((ys++zs).map V.str)) c=some (.lst ((ys++zs).map V.str)):=A1;generalize upd H c (.lst ((ys++zs).map V.str))=H1 at sm1 hc1 ⊢;have ho1:=sm1 _ _ ho;have hst1:=hst.same sm1
 have hyz:∀y∈ys++zs,y∈ts.map (·.1):=fun y hy=>by
  rcases FF.mp hy with k | k
  · exact hyy y k
  · exact hz y k
 walk_at "rs";refine ⟨Z4,dx,fs,ho1,T.Za,T.Zn,_,hf.st,st,rfl,ts,hst1,nd,ys++zs,SqL.of hc1,by rw [Fm];omega,hyz,fun y hy=>by have:=(N9 nd hgd (hyz y hy)).2;omega,by decide,by decide,fun H2 sm2=>?_⟩;have ho2:=sm2 _ _ ho1;have hc2:=sm2 _ _ hc1;have hst2:=hst1.same sm2;have sm02:=sm1.trans sm2;have ncd:c≠d:=(A8 ho hc).symm;walk_at "rs";refine ⟨Z4,dx,fs,ho2,T.Za,T.Zq,by have:=hf.n;omega,?_⟩;walk_at "rs"
 have hc3:upd H2 d (.ins Z4 dx (B3 (Str.ofString "asks") (.ref c) fs)) c=some (.lst ((ys++zs).map V.str)):=by rw [A3 ncd];exact hc2
 refine ⟨_,.inl (SqL.of hc3),?_⟩;walk_at "rs";rw [Fa,Fm]
 have e:Str.empty++Str.ofString "row "=Str.ofString "row ":=by decide+kernel
 have e1:(Str.ofString "row ").length=4:=by decide+kernel
 have hl9:=N8.Cy (n:=((ys.length+zs.length:Nat):Int)) (by omega) (by omega);rw [e];refine ⟨Gj (by omega) (by omega),by rw [Aw];omega,by rw [Aw];omega,q c _ (fun b o e nb=>by rw [A3 nb];exact sm02 _ _ e) ⟨⟨⟨dx,_,A1,hf.asks⟩⟩,?_,hc3,nd,hl59,hgd,hyz,by rw [Fm];omega⟩ hc⟩;exact ((Kv hst2 ho2 hf.k).off (H':=upd H2 d (.ins Z4 dx (B3 (Str.ofString "asks") (.ref c) fs))) fun b o e nb=>by rw [A3 (fun k=>nb (by rw [k];simp))];exact e).at
variable (Z1n:Def P w K mg base CX0 11 "answer_ask" ["desk","given"] (Ef K Z4 Z2))
include T Z1m Z19 Z3b in
theorem Z7d(F:Fun K "book_by" "book_by" Z4b f fd):Al P w K mg base CX0 10 f fd ["desk","make","places"] (E1 K Z4 Z2 (C2.mk xmake_oldest xmake_first) (C2.mk Z0 Z1)):=by
 have sc:A9 ["desk","make","places"] ["desk","make","places"] (A6 Z4b):=by walk_at "sc"
 walk_at "ok"
 · exact n7 h_ fun _ _ _ _ _ _ _=>rfl
 refine x7 h_ fun d st as ts ys b n e_=>y6 e_ fun e0 hK hs hn1 hn2 q=>?_;clear e_ h_;subst e0;refine ⟨_,(@A5 _ _ _ (@Ac _ _ _ _ (Ad Z3b hr rfl Ab (A0 (T3 (fa:=(C2.d (C2.mk xmake_oldest xmake_first))) (nm:=rnm) (sp:=(Eu (C2.mk Z0 Z1))) (fun w=>by cases w;exact Z1m;exact Z19) (fun w=>by cases w;exact T.Z69;exact T.Z5p) hr Ab (pv 1) (A0 (Av (pv 0) rfl) (A0 (pv 2) (A0 (Av (pv 0) rfl) A4)))) (A0 (Av (pv 0) rfl) A4))))),?_⟩;walk_at "su";obtain ⟨hD,hst,hak,nd,hl59,hgd,hyy,hyl⟩:=id hK;have line:=Bl;obtain ⟨dx,fs,ho,hf⟩:=id hD.o;walk_at "go";refine ⟨b,rfl,Z4,dx,fs,ho,T.Za,T.Zn,_,hf.st,Z4,dx,fs,ho,T.Za,T.Zq,_,hf.as,st,rfl,as,rfl,hn1,hn2,fun q' M H1 sm1 hM hAt=>?_⟩;have ho1:=sm1 _ _ ho
 have ham:as∉M:=fun h=>by
  have:=hM as h;rw [hak]at this;cases this
 refine ⟨Z4,dx,fs,ho1,T.Za,T.Zq,_,hf.as,?_⟩;refine ⟨b,H,st,as,rfl,M,n,ts,ys,z81 _ b,hAt,Oh,hst,sm1,hM,nd,by omega,SqL.of (sm1 _ _ hak),ham,hyl,hyy,fun y hy=>Td nd hgd hs (hyy y hy),hn1,hn2,by rw [Jat];omega,fun bk as' gs H2 kp2 hb htup bk2 hAt2 hbn nbg ngs hrow=>?_⟩;have sm2:A7 H H2:=fun x o e=>kp2 x o (fun h=>by rw [hM x h]at e;cases e) (sm1 x o e);exact q bk as' gs H2 sm2 (Bf sm1 hbn) ⟨hb,by rw [bk2.n,Ic],by rw [bk2.m,Ic],fun i a g h1 h2=>⟨(hrow i a g h1 h2).2.2.2.1,(hrow i a g h1 h2).2.2.2.2⟩⟩ bk2
variable (Z0n:Def P w K mg base CX0 10 "book_by" ["desk","make","places"] (E1 K Z4 Z2 (C2.mk xmake_oldest xmake_first) (C2.mk Z0 Z1)))
include T Z0n Z2p Z0h in
theorem Z5f(F:Fun K "answer_book" "answer_book" Z2j f fd):Al P w K mg base CX0 11 f fd ["desk","given"] (Dn K Z4 Z2 (C2.mk xmake_oldest xmake_first)):=by
 have sc:A9 ["desk","given"] ["desk","given"] (A6 Z2j):=by walk_at "sc"
 walk_at "ok"
 · exact n8 h_ fun _ _ _ _ _ _ _ _=>rfl
 refine x8 h_ fun d gv st as ts ys b n e_=>y7 e_ fun e0 hK hg hs hn1 hn2 q=>?_;clear e_ h_;subst e0;refine ⟨_,(@A5 _ _ _ (@Ac _ _ _ _ (Ad Z0h hr rfl Ab (A0 (Kf "row" [] rfl rfl (Cv (Ad Z0n hr rfl Ab (A0 (pv 0) (A0 (@Bn _ _ _ _ _ _ _ C8 (pv 1) Aa (fun _ _=>rfl)) (A0 (@Bn _ _ _ _ _ _ _ C8 (pv 1) Aa (fun _ _=>rfl)) A4))))) (fun b=>(Ad Z2p hr rfl Ab (A0 (pv 0) A4)))) A4)))),?_⟩;walk_at "su";obtain ⟨hD,hst,hak,nd,hl59,hgd,hyy,hyl⟩:=id hK;have line:=Bl;walk_at "go";refine Cr (SqL.of hg) (v:=V.ref _) (Bo (j:=0) rfl) ?_;refine Cr (SqL.of hg) (v:=V.int n) (Bo (j:=1) rfl) ⟨st,as,ts,ys,b,rfl,n,rfl,hK,hs,hn1,hn2,fun bk as' gs H1 sm1 hbk B _=>⟨⟨_,SqL.of B.L⟩,?_⟩⟩
 have hnm:∀y∈ys,y.length≤8:=fun y hy=>by
  obtain ⟨u,hu,rfl⟩:=Fz.mp (hyy y hy);have h2:=(Da (hgd u hu).1).2;rw [Bm]at h2;exact h2
 refine S8 (fun i=>V.str (bwd ys i)) (SqL.of B.L) (by rw [Fa,B.ln];omega) ?_ ?_
 · intro b' i x H7 Q' hx sm7 q'
   rw [Fe]at hx
   cases ha:as'[i]? with
   | none=>rw [ha]at hx;cases hx
   | some a'=>
   rw [ha]at hx;cases hx
   have hi:i < ys.length:=by have:=(Fi.mp ha).1;rw [B.ln]at this;exact this
   have hz:ys[i]?=some (ys[i]'hi):=Fb hi;have hgi:gs[i]?=some (gs[i]'(by rw [B.m];exact hi)):=Fb _;obtain ⟨t1,t2⟩:=B.t i _ _ ha hgi;rw [J6v nd hgd hyy hs Oh hz]at t1 t2
   have e:bwd ys i=ys[i]'hi++(if decide ((ys[i]'hi)∈fo (ys.take i))=true then Str.ofString "+" else Str.ofString "-"):=by
    unfold bwd;rw [Fc,hz];simp
   rw [e]at q';walk_at "go";exact ⟨_,_,_,sm7 _ _ t1,sm7 _ _ t2,hnm _ (Ff hz),q'⟩
 rw [Fa,B.ln];intro ro hro
 have er:(List.range ys.length).map (fun i=>V.str (bwd ys i))=(bws ys).map V.str:=by unfold bws;rw [FH];rfl
 rw [er];refine ⟨ro,rfl,bws ys,A1,by unfold bws;rw [Fa,FW];omega,fun x hx=>?_,fun H9 sm9=>?_⟩
 · obtain ⟨i,hi,rfl⟩:=Fz.mp hx
   have hi:=HF.mp hi
   have e1:(Str.ofString "+").length=1:=by decide+kernel
   have e2:(Str.ofString "-").length=1:=by decide+kernel
   have hz:ys.getD i Str.empty=ys[i]'hi:=by rw [Fc,Fb hi];rfl
   have h8:=hnm _ (Hn hi);unfold bwd;rw [Aw,hz]
   split <;> omega
 · have e:(bws ys=[])↔ys=[]:=by
    unfold bws;rw [List.map_eq_nil_iff,List.range_eq_nil,Hb]
   have:=q H9 ((sm1.trans (A7.new hro)).trans sm9);unfold bkT at this
   by_cases k:ys=[]
   · rw [if_pos k]at this
     rw [if_pos (e.mpr k)];exact this
   · rw [if_neg k]at this
     rw [if_neg fun z=>k (e.mp z)];exact this
variable (Z1a:Def P w K mg base CX0 11 "answer_book" ["desk","given"] (Dn K Z4 Z2 (C2.mk xmake_oldest xmake_first)))
include T Z0n Z21 Z3a Z11 Z26 in
theorem Z60(F:Fun K "answer_run" "answer_run" Z33 f fd):Al P w K mg base CX0 11 f fd ["desk","given"] (Eg 559 566 (⟨247,25,247,39⟩:Pos) (⟨249,25,249,57⟩:Pos) (("missed_by"++".<locals>.")++"<lambda>") (("paid_by"++".<locals>.")++"<lambda>") K Z4 Z2 (C2.mk xmake_oldest xmake_first)):=by
 have sc:A9 ["desk","given","book","missed","paid","left"] ["desk","given"] (A6 Z33):=by walk_at "sc"
 walk_at "ok"
 · exact n8 h_ fun _ _ _ _ _ _ _ _=>rfl
 refine x8 h_ fun d gv st as ts ys b n e_=>y10 e_ fun e0 hK hg hs hn1 hn2 hLm hLp ntt q=>?_;clear e_ h_;subst e0
 refine ⟨_,(@A2 _ _ _ _ _ (Aj (i:=2) sc.nd rfl (Or.inl rfl) (Ad Z0n hr rfl Ab (A0 (pv 0) (A0 (@Bn _ _ _ _ _ _ _ C8 (pv 1) Aa (fun _ _=>rfl)) (A0 (@Bn _ _ _ _ _ _ _ C8 (pv 1) Aa (fun _ _=>rfl)) A4)))))
  (@A2 _ _ _ _ _ (Aj (i:=3) sc.nd rfl (Or.inl rfl) (Ad Z21 hr rfl Ab (A0 (pv 2) A4)))
  (@A2 _ _ _ _ _ (Aj (i:=4) sc.nd rfl (Or.inl rfl) (Ad Z3a hr rfl Ab (A0 (Av (pv 0) rfl) (A0 (pv 2) A4))))
  (@A2 _ _ _ _ _ (Aj (i:=5) sc.nd rfl (Or.inl rfl) (@Bn _ _ _ _ _ _ _ C8 (Ah L3 (@Bp _ _ _ _ (A0 (@Bp _ _ _ _ A4) A4)) (Ad Z11 hr rfl Ab (A0 (Av (pv 0) rfl) (A0 (Av (pv 0) rfl) (A0 (@Bn _ _ _ _ _ _ _ C8 (pv 1) Aa (fun _ _=>rfl)) (A0 (pv 2) A4)))))) (J9b J7a Aa) (fun _ _=>rfl)))
  (@A5 _ _ _ (@Ac _ _ _ _ (Ey He Hr Hq Gu Ai (A0 (Ah L3 (@Bp _ _ _ _ (A0 (Pa (Gv Ai (Gv (Tx (pv 3)) Tv))) (A0 (Ad Z26 hr rfl Ab (A0 (pv 4) A4)) (A0 Ai A4)))) (pv 5)) A4)))))))),?_⟩
 walk_at "su";obtain ⟨hD,hst,hak,nd,hl59,hgd,hyy,hyl⟩:=id hK;have line:=Bl;walk_at "go";refine Cr (SqL.of hg) (v:=V.ref _) (Bo (j:=0) rfl) ?_;refine Cr (SqL.of hg) (v:=V.int n) (Bo (j:=1) rfl) ⟨st,as,ts,ys,b,rfl,n,rfl,hK,hs,hn1,hn2,fun bk as' gs H1 sm1 hbk B BA=>?_⟩;have hK1:=hK.same sm1;have hg1:=sm1 _ _ hg;have hLm1:=B6 sm1 hLm;have hLp1:=B6 sm1 hLp;have B5:=(J8j B).1;walk_at "rs";have hrow:=fun i z (hz:ys[i]?=some z)=>J6v (i:=i) nd hgd hyy hs (Oh (c:=C2.mk Z0 Z1) (b:=b)) hz
 have hbl:(mk5 (T81 (C2.mk Z0 Z1) b) (z81 (C2.mk Z0 Z1) b) ts n ys as' gs).length≤250:=by unfold mk5;rw [Fa,FW];omega
 refine ⟨_,B5,hbl,hLm1,fun H2 tk2=>?_⟩;rw [J6w hrow,J8h (fun _ _=>rfl)];have hK2:=hK1.tk tk2 hLm1;have hg2:=tk2.lst hLm1 hg1;have B52:=B5.tk tk2 hLm1;have BA2:=Xa tk2 hLm1 BA;have hLp2:=Te tk2 hLm1 hLp1 ntt;have hLm2:=tk2.lam;walk_at "rs";obtain ⟨dx,fs,ho2,hf⟩:=id hK2.d.o;refine ⟨Z4,dx,fs,ho2,T.Za,T.Zn,_,hf.st,st,rfl,ts,hK2.s,nd,_,B52,hbl,fun r hr=>hyy _ (J8v hrow r hr),hLp2,fun H3 tk3=>?_⟩;rw [J6w hrow];have hK3:=hK2.tk tk3 hLp2;have hg3:=tk3.lst hLp2 hg2;have BA3:=Xa tk3 hLp2 BA2;have hLm3:=Te tk3 hLp2 hLm2 ntt.symm;have hLp3:=tk3.lam
 have ho3:=tk3.get hLp2 ho2 fun ps z=>by cases z
 walk_at "rs";intro p hp;refine ⟨by omega,fun p1 hp1=>?_⟩;have hpp:upd (upd H3 p (.lst [])) p1 (.lst [V.ref p]) p=some (.lst []):=(A7.new hp1) _ _ A1;have hp11:upd (upd H3 p (.lst [])) p1 (.lst [V.ref p]) p1=some (.lst [V.ref p]):=A1;have sm4:A7 H3 (upd (upd H3 p (.lst [])) p1 (.lst [V.ref p])):=(A7.new hp).trans (A7.new hp1);generalize upd (upd H3 p (.lst [])) p1 (.lst [V.ref p])=H4 at sm4 hpp hp11 ⊢;have hK4:=hK3.same sm4;have hg4:=sm4 _ _ hg3;have BA4:=BA3.same sm4;have ho4:=sm4 _ _ ho3;have hLm4:=B6 sm4 hLm3;have hLp4:=B6 sm4 hLp3;refine ⟨Z4,dx,fs,ho4,T.Za,T.Zn,_,hf.st,Z4,dx,fs,ho4,T.Za,T.Zq,_,hf.as,Cr (SqL.of hg4) (v:=V.int n) (Bo (j:=1) rfl) ⟨st,rfl,as,rfl,bk,n,rfl,rfl,ts,hK4.s,nd,ys,SqL.of hK4.a,hyl,hyy,fun y hy=>Td nd hgd hs (hyy y hy),hn1,hn2,as',gs,_,BA4,Yg Oh hyy (fun y hy=>Td nd hgd hs (hyy y hy)),fun l qs H5 hl5 sm5 td=>?_⟩⟩;have hR:=fun y hy=>Td nd hgd hs (hyy y hy)
 obtain ⟨pre,lf,hlf,hlv⟩:∃(pre:List V) (lf:Addr),V.ref p::qs.map V.ref=pre++[V.ref lf]∧H5 lf=some (.lst ((fo ys).map V.str)):=by
  by_cases h:qs=[]
  · refine ⟨[],p,by rw [h];rfl,?_⟩
    have:ys=[]:=Hb.mp (by rw [← td.N,h];rfl);rw [this];exact sm5 _ _ hpp
  · have hn0:0 < qs.length:=HA.mpr h
    have hq:qs[qs.length - 1]?=some (qs.getLast h):=by rw [List.getLast_eq_getElem];exact Fb _
    have t:=(td.q _ _ hq).2;refine ⟨V.ref p::qs.dropLast.map V.ref,qs.getLast h,?_,?_⟩
    · rw [List.cons_append]
      congr 1;exact (congrArg (List.map V.ref) (List.dropLast_concat_getLast h)).symm.trans Fp
    · have e2:=(Jbc Oh hyy hR (Fg _)).trans ((X7 (T:=T81 (C2.mk Z0 Z1) b) (s0:=z81 (C2.mk Z0 Z1) b) Oh hyy (fun y h=>by have:=(N9 nd hgd h).1;omega) hR hs _ (Fg ys.length)).trans (by rw [Hl]))
      rw [show qs.length - 1+1=ys.length by rw [← td.N];omega]at t;rw [t];congr 3
 have hql:qs.length≤200:=by rw [td.N];omega
 refine ⟨p1,l,_,_,rfl,rfl,sm5 _ _ hp11,td.L,by rw [Fa];simp only [List.length_cons,List.length_nil];omega,fun c hc=>?_⟩;rw [List.singleton_append,hlf];have sm6:A7 H5 (upd H5 c (.lst (pre++[V.ref lf]))):=A7.new hc;have hc6:upd H5 c (.lst (pre++[V.ref lf])) c=some (.lst (pre++[V.ref lf])):=A1;generalize upd H5 c (.lst (pre++[V.ref lf]))=H6 at sm6 hc6 ⊢;refine Cr (SqL.of hc6) (L2.J03 pre (V.ref lf)) ?_;have hlv6:=sm6 _ _ hlv;have sm46:=sm5.trans sm6;walk_at "rs";have hfl:=Uj hyy;have hfy:∀y∈fo ys,y∈ts.map (·.1):=fun y h=>hyy y ((X6.2 y).mp h);have hsc:=smc nd hgd hfy
 have hsc2:sm (cst ts) (fo ys)≤10 ^ 33:=by omega
 have e0:Str.empty++Str.ofString "missed "=Str.ofString "missed ":=by decide+kernel
 have e1:(Str.ofString "missed ").length=7:=by decide+kernel
 have e2:(Str.ofString "paid ").length=5:=by decide+kernel
 have e4:(Str.ofString "left").length=4:=by decide+kernel
 have hl1:=N8.Cy (n:=(((fo ys).length:Nat):Int)) (by omega) (by omega);have hl2:(nT (sm (cst ts) (fo ys))).length≤40:=N8.Cy hsc.1 (HK hsc2 (by decide));rw [e0];refine ⟨Gj (by omega) (by omega),by rw [Aw];omega,by rw [Aw];omega,hsc.1,hsc2,by omega,fun p9 hp9=>?_⟩;have sm7:A7 H6 (upd H6 p9 (.lst [V.str (Str.ofString "missed "++Str.ofString (toString ((fo ys).length:Int))),V.str (Str.ofString "paid "++nT (sm (cst ts) (fo ys))),V.str (Str.ofString "left")])):=A7.new hp9;have hp7:upd H6 p9 (.lst [V.str (Str.ofString "missed "++Str.ofString (toString ((fo ys).length:Int))),V.str (Str.ofString "paid "++nT (sm (cst ts) (fo ys))),V.str (Str.ofString "left")]) p9=some (.lst ([Str.ofString "missed "++nT ((fo ys).length:Nat),Str.ofString "paid "++nT (sm (cst ts) (fo ys)),Str.ofString "left"].map V.str)):=A1;generalize upd H6 p9 (.lst [V.str (Str.ofString "missed "++Str.ofString (toString ((fo ys).length:Int))),V.str (Str.ofString "paid "++nT (sm (cst ts) (fo ys))),V.str (Str.ofString "left")])=H7 at sm7 hp7 ⊢
 refine ⟨p9,lf,_,_,rfl,rfl,hp7,sm7 _ _ hlv6,by rw [Fa,Fa];simp only [List.length_cons,List.length_nil];omega,fun c9 hc9=>?_⟩;rw [← Fp];refine ⟨c9,rfl,_,SqL.of A1,?_,?_⟩
 · have h1:=Ku (ys:=[Str.ofString "missed "++nT ((fo ys).length:Nat),Str.ofString "paid "++nT (sm (cst ts) (fo ys)),Str.ofString "left"]++fo ys) (b:=60) fun x hx=>by
    rcases FF.mp hx with k | k
    · simp only [Fv,Ha,or_false]at k
      have hl1':(nT ((fo ys).length:Nat)).length≤40:=hl1
      rcases k with k | k | k <;> rw [k]
      · rw [Aw];omega
      · rw [Aw];omega
      · omega
    · obtain ⟨u,hu,rfl⟩:=Fz.mp (hfy x k)
      have h2:=(Da (hgd u hu).1).2;rw [Bm]at h2;omega
   rw [sp1];rw [Fm]at h1 ⊢;simp only [List.length_cons,List.length_nil]at h1 ⊢;omega
 · rw [J5i]
   have smz:A7 H4 (upd H7 c9 (.lst (([Str.ofString "missed "++nT ((fo ys).length:Nat),Str.ofString "paid "++nT (sm (cst ts) (fo ys)),Str.ofString "left"]++fo ys).map V.str))):=(sm46.trans sm7).trans (A7.new hc9);refine q _ (fun b' o e n1 n2=>smz _ _ (sm4 _ _ (tk3.but _ _ (tk2.but _ _ (sm1 _ _ e) n1) n2))) (B6 smz hLm4) (B6 smz hLp4)
variable (Z1o:Def P w K mg base CX0 11 "answer_run" ["desk","given"] (Eg 559 566 (⟨247,25,247,39⟩:Pos) (⟨249,25,249,57⟩:Pos) (("missed_by"++".<locals>.")++"<lambda>") (("paid_by"++".<locals>.")++"<lambda>") K Z4 Z2 (C2.mk xmake_oldest xmake_first)))
include T Z25 Z0u Z1n Z0t Z1o Z1a in
theorem Z71(F:Fun K "say" "Desk.say" Z3w f fd)(Z7e:∀b,Nh w.params K Ze (wd1 b) (some (.ref ((fun w:W81=>match w with | .thing=>xanswer_thing | .ask=>xanswer_ask | .again=>xanswer_again | .run=>xanswer_run | .book=>xanswer_book) b)))):Al P w K mg base CX0 12 f fd ["self","line"] (Kx (Tf 559 566 (⟨247,25,247,39⟩:Pos) (⟨249,25,249,57⟩:Pos) (("missed_by"++".<locals>.")++"<lambda>") (("paid_by"++".<locals>.")++"<lambda>") K Z4 Z2 (C2.mk xmake_oldest xmake_first)) (C2.mk xmake_oldest xmake_first) Z4):=by
 have sc:A9 ["self","line","told","answer"] ["self","line"] (A6 Z3w):=by walk_at "sc"
 walk_at "ok"
 · exact n2 h_ fun _ _=>rfl
 refine x2 h_ fun d l e_=>y3 e_ fun e0 ok q=>?_;clear e_ h_;subst e0
 refine ⟨_,(@A2 _ _ _ _ _ (Aj (i:=2) sc.nd rfl (Or.inl rfl) (Ad Z25 hr rfl Ab (A0 (pv 1) A4)))
  (@A2 _ _ _ _ _ (Aj (i:=3) sc.nd rfl (Or.inl rfl) (Pq (Cu (v:= .ref Ze) rfl T.Z7k rfl) (@Bn _ _ _ _ _ _ _ Cp (pv 2) Aa (fun _ _=>rfl)) (fun _ _=>rfl)))
  (@A5 _ _ _ (@Ac _ _ _ _ (T3 (fa:=(fun w:W81=>match w with | .thing=>xanswer_thing | .ask=>xanswer_ask | .again=>xanswer_again | .run=>xanswer_run | .book=>xanswer_book)) (nm:=(fun w:W81=>match w with | .thing=>"answer_thing" | .ask=>"answer_ask" | .again=>"answer_again" | .run=>"answer_run" | .book=>"answer_book")) (sp:=(Tf 559 566 (⟨247,25,247,39⟩:Pos) (⟨249,25,249,57⟩:Pos) (("missed_by"++".<locals>.")++"<lambda>") (("paid_by"++".<locals>.")++"<lambda>") K Z4 Z2 (C2.mk xmake_oldest xmake_first))) (fun w=>by cases w;exact Z0u;exact Z1n;exact Z0t;exact Z1o;exact Z1a) (fun w=>by cases w;exact T.Z4x;exact T.Z67;exact T.Z4y;exact T.Z68;exact T.Z5o) hr Ab (pv 3) (A0 (pv 0) (A0 (@Bn _ _ _ _ _ _ _ Cp (pv 2) Aa (fun _ _=>rfl)) A4))))))),?_⟩
 walk_at "su";walk_at "go";refine ⟨l,rfl,ok,fun t g H1 sm1 ht hg ntg ht1 hg1=>?_⟩;have hans:=Z7e l.b;walk_at "rs";refine D4 (SqT.of ht1) (v:=V.str (wd1 l.b)) (Bo (j:=0) rfl) ⟨_,rfl,_,hans,?_⟩;walk_at "rs";exact ⟨l.b,rfl,D4 (SqT.of ht1) (v:=V.ref g) (Bo (j:=1) rfl) (J5k (q g H1 sm1 hg hg1))⟩
variable (Zh:Ck P w K mg base CX0 12 Z4 "say" ["self","line"] (Kx (Tf 559 566 (⟨247,25,247,39⟩:Pos) (⟨249,25,249,57⟩:Pos) (("missed_by"++".<locals>.")++"<lambda>") (("paid_by"++".<locals>.")++"<lambda>") K Z4 Z2 (C2.mk xmake_oldest xmake_first)) (C2.mk xmake_oldest xmake_first) Z4))
include T in
theorem Z6o(F:Fun K "_law_cell_at" "_law_cell_at" Z3q f fd):Al P w K mg base CX0 1 f fd ["_law_script","_law_k"] (Lw K):=by
 have sc:A9 ["_law_script","_law_k"] ["_law_script","_law_k"] (A6 Z3q):=by walk_at "sc"
 walk_at "ok"
 · exact n3 h_ fun _ _ _=>rfl
 refine x3 h_ fun a ns k e_=>y5 e_ fun e0 hS h0 hl q=>?_;clear e_ h_;subst e0
 refine ⟨_,(@A2 _ _ _ _ _ (Ay (Ak M8 (pv 1) (Aq Ba rfl T.Zt FM (A0 (pv 0) A4)) (nomark _))
  (@A5 _ _ _ (@Ac _ _ _ _ (@Bn _ _ _ _ _ _ _ C8 (pv 0) (pv 1) (fun _ _=>rfl))))
  Ag)
  (@A5 _ _ _ (@Ac _ _ _ _ Aa))),?_⟩
 walk_at "su";walk_at "go";rw [Fa];split
 · rename_i hk
   exact Cr hS (Mh h0 (J7o (by omega))) q
 · rename_i hk
   rw [Fc,FS (by omega)]at q;walk_at "go";exact q
variable (Z0d:Def P w K mg base CX0 1 "_law_cell_at" ["_law_script","_law_k"] (Lw K))
include T in
theorem Z7u(F:Fun K "_law_mix" "_law_mix" Z50 f fd):Al P w K mg base CX0 1 f fd ["_law_cell","_law_k"] (T9):=by
 have sc:A9 ["_law_cell","_law_k","_law_number"] ["_law_cell","_law_k"] (A6 Z50):=by walk_at "sc"
 walk_at "ok"
 · exact n2 h_ fun _ _=>rfl
 refine x2 h_ fun c k e_=>y4 e_ fun e0 hk0 hk1 q=>?_;clear e_ h_;subst e0
 refine ⟨_,(@A2 _ _ _ _ _ (Aj (i:=2) sc.nd rfl (Or.inl rfl) (Ah E3 (Ah E3 (Ah Cc (pv 0) Aa) (Ah Tj Aa (pv 1))) Aa))
  (@A5 _ _ _ (@Ac _ _ _ _ (Ah Cc (Ah Tj (Ah Cc (Ah Uy (pv 2) (pv 2)) Aa) Aa) Aa)))),?_⟩
 walk_at "su";have hx0:=FY c (show (1000000007:Int)≠0 by decide);have hx1:=FR c (show (0:Int) < 1000000007 by decide);unfold Yh at q;walk_at "go"
 have big:(c % 1000000007+7919 * k+1).natAbs < 10 ^ 100:=by omega
 generalize c % 1000000007+7919 * k+1=u at big q ⊢;have hy0:=FY (u * u) (show (2147483647:Int)≠0 by decide);have hy1:=FR (u * u) (show (0:Int) < 2147483647 by decide);exact ⟨⟨big,big⟩,by decide,J1b (by omega) (by omega),by decide,q (FY _ (by decide)) (FR _ (by decide))⟩
variable (Z1y:Def P w K mg base CX0 1 "_law_mix" ["_law_cell","_law_k"] (T9))
include T in
theorem Z7f(F:Fun K "_law_names" "_law_names" Z4c f fd):Al P w K mg base CX0 1 f fd ["_law_cell","_law_many"] (Em):=by
 have sc:A9 ["_law_cell","_law_many","_law_letters","_law_long","_law_at","_law_names_here","_law_k","_law_name","_law_j","_law_signs","_law_sign"] ["_law_cell","_law_many"] (A6 Z4c):=by walk_at "sc"
 walk_at "ok"
 · exact n2 h_ fun _ _=>rfl
 refine x2 h_ fun i m e_=>y3 e_ fun e0 hm q=>?_;clear e_ h_;subst e0
 refine ⟨_,(@A2 _ _ _ _ _ (Aj (i:=2) sc.nd rfl (Or.inl rfl) Ai)
  (@A2 _ _ _ _ _ (Aj (i:=3) sc.nd rfl (Or.inl rfl) (Ah E3 Aa (Ah Cc (pv 0) Aa)))
  (@A2 _ _ _ _ _ (Aj (i:=4) sc.nd rfl (Or.inl rfl) (Ah Cc (Ah K5 (pv 0) Aa) (pv 3)))
  (@A2 _ _ _ _ _ (Aj (i:=5) sc.nd rfl (Or.inl rfl) (@Bp _ _ _ _ A4))
  (@A2 _ _ _ _ _ (E2 PassesOwn.never rfl (Gr rfl T.Z2q (A0 (pv 1) A4)) (Bj (i:=6) sc.nd rfl (Or.inl rfl))
   (@A2 _ _ _ _ _ (Aj (i:=7) sc.nd rfl (Or.inl rfl) Ai)
   (@A2 _ _ _ _ _ (E2 PassesOwn.never rfl (Gr rfl T.Z2q (A0 (pv 3) A4)) (Bj (i:=8) sc.nd rfl (Or.inl rfl))
    (@A2 _ _ _ _ _ (Aj (i:=9) sc.nd rfl (Or.inl rfl) (pv 2))
    (@A2 _ _ _ _ _ (Ay (Ak K6 (pv 8) Aa (nomark _))
     (@A5 _ _ _ (Aj (i:=9) sc.nd rfl (Or.inl rfl) (Ah Au (pv 2) Ai)))
     Ag)
    (@A2 _ _ _ _ _ (Aj (i:=10) sc.nd rfl (Or.inl rfl) (Ah E3 (Ah Qd (pv 0) (Ah E3 Aa (Ah Tj Aa (pv 8)))) (Ah Uy (Bq Xl rfl T.Z4o (by first | rfl | decide+kernel) (A0 (K7 G6 (pv 8) (pv 4) (nomark _)) A4)) (pv 6))))
    (@A5 _ _ _ (Aj (i:=7) sc.nd rfl (Or.inl rfl) (Ah Au (pv 7) (@Bn _ _ _ _ _ _ _ Ts (pv 9) (Ah Cc (pv 10) (Aq Cj rfl T.Zt FM (A0 (pv 9) A4))) (fun _ _=>rfl)))))))))
   (@A5 _ _ _ (B0 (Ey HD Hy Hx Dd (pv 5) (A0 (pv 7) A4)))))))
  (@A2 _ _ _ _ _ (Ay (PW.pt (Om (Ak K6 (pv 1) Aa (nomark _)) (Om (Ak M8 (pv 3) Aa (nomark _)) (Ol (Ak G6 (Ah Cc (Ah K5 (pv 0) Aa) Aa) Aa (nomark _))))))
   (@A5 _ _ _ (J77 (Ah Au (@Bn _ _ _ _ _ _ _ C8 (pv 5) Aa (fun _ _=>rfl)) Ai) (J76 (pv 5) (Ah Ot (pv 1) Aa) J04)))
   Ag)
  (@A5 _ _ _ (@Ac _ _ _ _ (pv 5))))))))),?_⟩
 walk_at "st";have ll:=J4n;have fl:=J4o;have bl:=S0
 have hL1:1≤(1+i % 8).toNat:=by omega
 have hL8:(1+i % 8).toNat≤8:=by omega
 have h8:(1+i % 8)=((1+i % 8).toNat:Int):=by omega
 walk_at "go";rw [h8];clear h8;generalize (1+i % 8).toNat=L at hL1 hL8 ⊢;have ha0:=FY (i / 8) (show (L:Int)≠0 by omega);have ha1:=FR (i / 8) (show (0:Int) < L by omega);walk_at "go";generalize i / 8 % (L:Int)=at' at ha0 ha1 ⊢;intro p hp;walk_at "go";refine P3 (fun k σ H'=>∃(v6 v7 v8 v9 v10:Option V),σ=[some (V.int i),some (V.int m),some (V.str (Str.ofString "abcdefghijklmnopqrstuvwxyz")),some (V.int L),some (V.int at'),some (V.ref p),v6,v7,v8,v9,v10]∧H'=upd H p (.lst (((List.range k).map fun k=>tx (N6.nm3 (fun j:Nat=>i.fdiv (64+7 * (j:Int))) at' L k)).map V.str))) ⟨none,none,none,none,none,rfl,rfl⟩ ?_ ?_
 · rintro k σ H' hk ⟨v6,v7,v8,v9,v10,rfl,rfl⟩
   have hlen:(((List.range k).map fun k=>tx (N6.nm3 (fun j:Nat=>i.fdiv (64+7 * (j:Int))) at' L k)).map V.str).length=k:=by simp
   walk_at "go";rename_i rest hrest;refine P3 (fun j σ H'=>∃(v8 v9 v10:Option V),σ=[some (V.int i),some (V.int m),some (V.str (Str.ofString "abcdefghijklmnopqrstuvwxyz")),some (V.int L),some (V.int at'),some (V.ref p),some (V.int k),some (V.str (tx (nmL (fun j:Nat=>i.fdiv (64+7 * (j:Int))) at' j k))),v8,v9,v10]∧H'=upd H p (.lst (((List.range k).map fun k=>tx (N6.nm3 (fun j:Nat=>i.fdiv (64+7 * (j:Int))) at' L k)).map V.str))) ⟨v8,v9,v10,rfl,rfl⟩ ?_ ?_
   · rintro j σ H' hj ⟨v8,v9,v10,rfl,rfl⟩
     have hzl:(tx (nmL (fun j:Nat=>i.fdiv (64+7 * (j:Int))) at' j k)).length≤8:=by rw [J6k,El];omega
     rw [J28];generalize upd H p (.lst (((List.range k).map fun k=>tx (N6.nm3 (fun j:Nat=>i.fdiv (64+7 * (j:Int))) at' L k)).map V.str))=Hp';generalize nmL (fun j:Nat=>i.fdiv (64+7 * (j:Int))) at' j k=zl at hzl ⊢;unfold N5.sgn md;walk_at "go";rename_i rest hrest
     have key2:∀(z:Str) (M:Nat),0 < M→M≤36→z.length=M→(∀x:Int,atI z.cps.toList (x % M)=some (bc (x % M)))→(M:Int)=(if j=0 then 26 else 36)→rest [some (V.int i),some (V.int m),some (V.str (Str.ofString "abcdefghijklmnopqrstuvwxyz")),some (V.int L),some (V.int at'),some (V.ref p),some (V.int k),some (V.str (tx zl)),some (V.int j),some (V.str z),v10] Hp':=by
      intro z M hM0 hM1 hzM hix hMj;subst hrest;rw [← hMj];clear hMj;walk_at "go"
      refine ⟨⟨by split <;> decide,by omega⟩,?_⟩
      walk_at "go";refine U2 (by omega) (hix _) ⟨_,rfl,by rw [Vp];omega,?_,rfl⟩
      have e:(if (j:Int)=at' then (1:Int) else 0) * k=if (j:Int)=at' then (k:Int) else 0:=by split <;> simp
      rw [Jae,Jad,e]
     clear hrest;split
     · rename_i hj0
       refine ⟨by omega,?_⟩;rw [J27];exact key2 _ 36 (by decide) (by decide) bl (fun x=>Jaf x (by decide) (by decide)) (by rw [if_neg (by omega)];rfl)
     · rename_i hj0
       exact key2 _ 26 (by decide) (by decide) ll (fun x=>J7y x) (by rw [if_pos (by omega)];rfl)
   · rintro σ H' ⟨v8,v9,v10,rfl,rfl⟩
     subst hrest;walk_at "go"
     have hz3:tx (nmL (fun j:Nat=>i.fdiv (64+7 * (j:Int))) at' L k)=tx (N6.nm3 (fun j:Nat=>i.fdiv (64+7 * (j:Int))) at' L k)∧True:=by
      unfold N6.nm3;rw [if_neg (by omega),FJ];exact ⟨rfl,trivial⟩
     rw [hz3.1];refine ⟨.inl ⟨rfl,_,SqL.of A1⟩,p,_,_,rfl,rfl,A1,by rw [hlen];omega,?_⟩;walk_at "go";congr 2;rw [HR,Fp,Fp];rfl
 · rintro σ H' ⟨v6,v7,v8,v9,v10,rfl,rfl⟩
   have ndA:((List.range m).map fun k=>tx (N6.nm3 (fun j:Nat=>i.fdiv (64+7 * (j:Int))) at' L k)).Nodup:=J23 fun a b ha hb e=>J4u ha0 ha1 (by omega) (by omega) e
   have nmA:∀y∈(List.range m).map fun k=>tx (N6.nm3 (fun j:Nat=>i.fdiv (64+7 * (j:Int))) at' L k),B9 y.cps.toList=true∧y.length≤L∧L≤y.length:=fun y hy=>by
    obtain ⟨k,hk,rfl⟩:=Fz.mp hy;have:=HF.mp hk;rw [L9,J6k]
    have e:N6.nm3 (fun j:Nat=>i.fdiv (64+7 * (j:Int))) at' L k=nmL (fun j:Nat=>i.fdiv (64+7 * (j:Int))) at' L k:=by unfold N6.nm3;rw [if_neg (by omega),FJ]
    refine ⟨J29 hL1 hL8 (fun h=>by omega) (by omega),?_⟩;rw [e,El];omega
   have lnA:((List.range m).map fun k=>tx (N6.nm3 (fun j:Nat=>i.fdiv (64+7 * (j:Int))) at' L k)).length≤m∧m≤((List.range m).map fun k=>tx (N6.nm3 (fun j:Nat=>i.fdiv (64+7 * (j:Int))) at' L k)).length:=by simp
   generalize ((List.range m).map fun k=>tx (N6.nm3 (fun j:Nat=>i.fdiv (64+7 * (j:Int))) at' L k))=ys at ndA nmA lnA ⊢;walk_at "go";rename_i rest hrest
   have key:∀zs:List Str,zs.length≤m→m≤zs.length→zs.Nodup→(∀y∈zs,B9 y.cps.toList=true)→rest [some (V.int i),some (V.int m),some (V.str (Str.ofString "abcdefghijklmnopqrstuvwxyz")),some (V.int L),some (V.int at'),some (V.ref p),v6,v7,v8,v9,v10] (upd H p (.lst (zs.map V.str))):=by
    intro zs g1 g2 g3 g4;subst hrest;walk_at "go";exact q p zs _ hp (A7.new hp) A1 g1 g2 g3 g4
   clear hrest;have key0:=key ys lnA.1 lnA.2 ndA fun y hy=>(nmA y hy).1;split
   · rename_i hm1
     split
     · rename_i hL7
       refine ⟨P4 (by decide) (by decide),by decide,?_⟩;split
       · have h0:ys[0]?=some (ys.getD 0 Str.empty):=by rw [Fc,Fb (by omega)];rfl
         have hin:=Ff h0;obtain ⟨n1,n2,n3⟩:=nmA _ hin;obtain ⟨sv,sl⟩:=seven;refine Cr (SqL.of A1) (v:=V.str (ys.getD 0 Str.empty)) (Mh (by decide) (by rw [show (0:Int).toNat=0 from rfl,Fe,h0];rfl)) ⟨_,rfl,by omega,?_⟩;generalize ys.getD 0 Str.empty=y0 at n1 n2 n3 ⊢;walk_at "go";refine ⟨_,A1,m - 1,?_,?_⟩
         · rw [Fa,show ((m:Int) - 1)=((m - 1:Nat):Int) by omega]
           exact J82 (by omega)
         · walk_at "go"
           have hzl:(y0++Str.ofString "7").length=y0.length+1∧True:=⟨by rw [← Bm,E8,Fm,Bm,sv];rfl,trivial⟩
           rw [← List.map_set];refine key _ (by rw [List.length_set];omega) (by rw [List.length_set];omega) (Y9 ndA (fun h=>by have:=nmA _ h;omega) _) fun y hy=>?_;rcases List.mem_or_eq_of_mem_set hy with h | h
           · exact (nmA y h).1
           · rw [h,E8,sv]
             exact O5 n1 (by rw [Bm];omega) (by decide)
       · exact key0
     · exact key0
   · exact key0
variable (Z3c:Def P w K mg base CX0 1 "_law_names" ["_law_cell","_law_many"] (Em))
include T Z1y in
theorem Z7n(F:Fun K "_law_cost" "_law_cost" Z4i f fd):Al P w K mg base CX0 2 f fd ["_law_cell","_law_k"] (Il):=by
 have sc:A9 ["_law_cell","_law_k","_law_number"] ["_law_cell","_law_k"] (A6 Z4i):=by walk_at "sc"
 walk_at "ok"
 · exact n2 h_ fun _ _=>rfl
 refine x2 h_ fun c k e_=>y3 e_ fun e0 hk q=>?_;clear e_ h_;subst e0
 refine ⟨_,(@A2 _ _ _ _ _ (Aj (i:=2) sc.nd rfl (Or.inl rfl) (Ad Z1y hr rfl Ab (A0 (pv 0) (A0 (pv 1) A4))))
  (@A2 _ _ _ _ _ (Ay (Ak G6 (Ah Cc (pv 2) Aa) Aa (nomark _))
   (@A5 _ _ _ (@Ac _ _ _ _ (Ah Cc (Ah K5 (pv 2) Aa) Aa)))
   Ag)
  (@A5 _ _ _ (@Ac _ _ _ _ (Ah Cc (Ah Tl (pv 2) Aa) (Ah E3 (Ah Tl Aa Aa) Aa)))))),?_⟩
 walk_at "st";walk_at "go";refine ⟨_,_,rfl,by omega,by omega,fun h0 h1=>?_⟩;generalize Yh c k=v0 at h0 h1;walk_at "rs"
 by_cases h3:v0 % 3=0
 · rw [if_pos h3]
   refine ⟨P4 (by decide) (by decide),by decide,?_⟩;have a1:=FY (v0 / 3) (show (10:Int)≠0 by decide);have a2:=FR (v0 / 3) (show (0:Int) < 10 by decide);exact q _ a1 (by omega)
 · rw [if_neg h3]
   walk_at "rs";have a1:=FY (v0 ^ 5) (show (10:Int) ^ 30+1≠0 by decide);have a2:=FR (v0 ^ 5) (show (0:Int) < 10 ^ 30+1 by decide);exact ⟨P5 (by omega) (by omega) (by omega),P5 (by omega) (by omega) (by decide),by decide,q _ a1 (by omega)⟩
variable (Z40:Def P w K mg base CX0 2 "_law_cost" ["_law_cell","_law_k"] (Il))
include T Zh in
theorem Z7o(F:Fun K "_law_told" "_law_told" Z4j f fd):Al P w K mg base CX0 13 f fd ["_law_desk","_law_asks","_law_costs"] (Ip 559 566 (⟨247,25,247,39⟩:Pos) (⟨249,25,249,57⟩:Pos) (("missed_by"++".<locals>.")++"<lambda>") (("paid_by"++".<locals>.")++"<lambda>") K Z4 Z2):=by
 have sc:A9 ["_law_desk","_law_asks","_law_costs","_law_first","_law_words","_law_name","_law_sign","_law_book","_law_paid","_law_run","_law_rule"] ["_law_desk","_law_asks","_law_costs"] (A6 Z4j):=by walk_at "sc"
 walk_at "ok"
 · exact n8 h_ fun _ _ _ _ _ _ _ _=>rfl
 refine x8 h_ fun d st as a co ts ys kc e_=>y9 e_ fun e0 hK ha hco hcv hLm hLp ntt q=>?_;clear e_ h_;subst e0
 refine ⟨_,(@A2 _ _ _ _ _ (Aj (i:=3) sc.nd rfl (Or.inl rfl) (@Bp _ _ _ _ A4))
  (@A2 _ _ _ _ _ (Aj (i:=4) sc.nd rfl (Or.inl rfl) (@Bp _ _ _ _ A4))
  (@A2 _ _ _ _ _ (E2 PassesOwn.never rfl (Cv (pv 1)) (Bj (i:=5) sc.nd rfl (Or.inl rfl))
   (@A2 _ _ _ _ _ (Aj (i:=6) sc.nd rfl (Or.inl rfl) Ai)
   (@A2 _ _ _ _ _ (Ay (Ak Oy (pv 5) (pv 3) (by with_unfolding_all rfl))
    (@A2 _ _ _ _ _ (Aj (i:=6) sc.nd rfl (Or.inl rfl) Ai)
    (@A5 _ _ _ (B0 (Ey HD Hy Hx Dd (pv 3) (A0 (pv 5) A4)))))
    Ag)
   (@A5 _ _ _ (B0 (Ey HD Hy Hx Dd (pv 4) (A0 (Ah Au (pv 5) (pv 6)) A4)))))))
  (@A2 _ _ _ _ _ (Aj (i:=7) sc.nd rfl (Or.inl rfl) (Ey He Hr Hq Gu Ai (A0 (pv 4) A4)))
  (@A2 _ _ _ _ _ (Ay (Ak (J1o hr) (pv 4) (@Bp _ _ _ _ A4) (nomark _))
   (@A5 _ _ _ (Aj (i:=7) sc.nd rfl (Or.inl rfl) Ai))
   Ag)
  (@A2 _ _ _ _ _ (Aj (i:=8) sc.nd rfl (Or.inl rfl) (Bq Ci rfl T.Z2k (by first | rfl | decide+kernel) (A0 (Aq (O8 rfl) rfl T.Z4p (by first | rfl | decide+kernel) (A0 (Kf "_law_name" [2] rfl rfl (Cv (pv 3)) (fun b=>(P1 (Dh hr) (pv 1) (pv 0) (fun _ _=>rfl)))) A4)) A4)))
  (@A2 _ _ _ _ _ (Aj (i:=9) sc.nd rfl (Or.inl rfl) (Ey He Hr Hq Gu Ai (A0 (Ah L3 (@Bp _ _ _ _ (@Mp _ _ _ _ _ _ _ Ai (A0 (Bq Ci rfl T.Z2k (by first | rfl | decide+kernel) (A0 (Aq Ba rfl T.Zt FM (A0 (pv 3) A4)) A4)) (@Mp _ _ _ _ _ _ _ Ai (A0 (pv 8) (@Mp _ _ _ _ _ _ _ Ai A4)))))) (pv 3)) A4)))
  (@A2 _ _ _ _ _ (E2 PassesOwn.never rfl (Cv (@Bp _ _ _ _ (A0 Ai (A0 Ai (A0 Ai A4))))) (Bj (i:=10) sc.nd rfl (Or.inl rfl))
   (@A5 _ _ _ (Ay (PW.pt (Li (Ak Iq (Am Zh T.Za hr (As Ab) (pv 0) (A0 (Ah Au (Ah Au Ai (pv 10)) Ai) A4)) (pv 7) (nomark _)) (Iu (Ak Iq (Am Zh T.Za hr (As Ab) (pv 0) (A0 (Ah Au (Ah Au Ai (pv 10)) Ai) A4)) (pv 9) (nomark _)))))
    (@A5 _ _ _ (@Ac _ _ _ _ Cm))
    Ag)))
  (@A5 _ _ _ (@Ac _ _ _ _ Cm)))))))))),?_⟩
 walk_at "su";obtain ⟨hD,hst,hak,nd,hl59,hgd,hyy,hyl⟩:=id hK;have line:=Bl;walk_at "go";intro pf hpf;have sm1:A7 H (upd H pf (.lst [])):=A7.new hpf;have hf1:upd H pf (.lst []) pf=some (.lst []):=A1;generalize upd H pf (.lst [])=H1 at sm1 hf1 ⊢;walk_at "rs";intro pw hpw;have sm2:A7 H1 (upd H1 pw (.lst [])):=A7.new hpw;have hw2:upd H1 pw (.lst []) pw=some (.lst []):=A1;have hf2:=sm2 _ _ hf1;have nfw:pf≠pw:=A8 hf1 hpw;generalize upd H1 pw (.lst [])=H2 at sm2 hw2 hf2 ⊢;have sm02:=sm1.trans sm2;have hK2:=hK.same sm02;have ha2:=sm02 _ _ ha;have hco2:=sm02 _ _ hco;have hLm2:=B6 sm02 hLm;have hLp2:=B6 sm02 hLp;walk_at "rs";have hpf0:H pf=none:=hpf;have hpw0:H pw=none:=Bf sm1 hpw;refine ⟨⟨_,SqL.of ha2⟩,?_⟩;rename_i rest hrest;refine Ke (xs:=ys.map V.str) (fun i σ H'=>∃(v5 v6:Option V),σ=[some (V.ref d),some (V.ref a),some (V.ref co),some (V.ref pf),some (V.ref pw),v5,v6,none,none,none,none]∧A7 H H'∧H' pf=some (.lst ((fo (ys.take i)).map V.str))∧H' pw=some (.lst (((List.range i).map (bwd ys)).map V.str))) ⟨none,none,rfl,sm02,hf2,hw2⟩ (fun i σ H' _ h=>by obtain ⟨_,_,_,sm,_⟩:=h;exact SqL.of (sm _ _ ha)) ?_ ?_
 · clear hrest
   rintro i x σ H' hx ⟨v5,v6,rfl,sm,hf',hw'⟩;rw [Fe]at hx
   cases hz:ys[i]? with
   | none=>rw [hz]at hx;cases hx
   | some z=>
   rw [hz]at hx;cases hx
   have hyn8:z.length≤8:=by
    obtain ⟨u,hu,e⟩:=Fz.mp (hyy z (Ff hz));have h2:=(Da (hgd u hu).1).2;rw [Bm,e]at h2;exact h2
   have hil:=(Fi.mp hz).1
   have ebw:bwd ys i=z++(if z∈fo (ys.take i) then Str.ofString "+" else Str.ofString "-"):=by
    unfold bwd;rw [Fc,hz];rfl
   have erng:((List.range (i+1)).map (bwd ys))=(List.range i).map (bwd ys)++[bwd ys i]:=by rw [HR,Fp];rfl
   have hfi:(fo (ys.take i)).length≤59:=FG (Uj fun y hy=>hyy y (List.mem_of_mem_take hy)) hl59
   have e1:(Str.ofString "+").length=1:=by decide+kernel
   have e2:(Str.ofString "-").length=1:=by decide+kernel
   walk_at "go";refine J51 (SqL.of hf') ⟨_,rfl,?_⟩;rename_i nx hnx
   have key:∀(sg:Str) (H5:Hp),sg.length=1→A7 H H5→H5 pf=some (.lst ((fo (ys.take (i+1))).map V.str))→H5 pw=some (.lst (((List.range i).map (bwd ys)).map V.str))→bwd ys i=z++sg→nx [some (V.ref d),some (V.ref a),some (V.ref co),some (V.ref pf),some (V.ref pw),some (V.str z),some (V.str sg),none,none,none,none] H5:=by
    clear hf' hw' sm;intro sg H5 hs1 sm5 hf5 hw5 eb;subst hnx;walk_at "go";refine ⟨.inl ⟨rfl,_,SqL.of hw5⟩,by omega,pw,_,_,rfl,rfl,hw5,by rw [Fa,Fa,FW];omega,fun b o e=>?_,?_,?_⟩
    · rw [A3 (A8 e hpw0)];exact sm5 _ _ e
    · rw [A3 nfw];exact hf5
    · rw [A1,erng,Fp,eb];rfl
   by_cases k:z∈fo (ys.take i)
   · rw [if_neg (by simp [k])]
     rw [if_pos k]at ebw;exact key _ H' e1 sm (by rw [Px hz];unfold foS;rw [if_pos k];exact hf') hw' ebw
   · rw [if_pos (by simp [k])]
     rw [if_neg k]at ebw;clear hnx;walk_at "go";refine ⟨.inl ⟨rfl,_,SqL.of hf'⟩,pf,_,_,rfl,rfl,hf',by rw [Fa];omega,key _ _ e2 (fun b o e=>?_) ?_ ?_ ebw⟩
     · rw [A3 (A8 e hpf0)];exact sm _ _ e
     · rw [A1,Px hz];unfold foS;rw [if_neg k,Fp];rfl
     · rw [A3 nfw.symm];exact hw'
 · rintro σ H3 ⟨v5,v6,rfl,sm3,hf3,hw3⟩
   rw [Fa,Hl]at hf3;rw [Fa]at hw3;subst hrest;walk_at "go"
   have hbl:((bws ys).map fun x=>x.length).sum≤(bws ys).length * 10:=Ku fun x hx=>by
    obtain ⟨i,hi,rfl⟩:=Fz.mp hx;have hi:=HF.mp hi;have hz:ys[i]?=some (ys[i]'hi):=Fb hi
    have e1:(Str.ofString "+").length=1:=by decide+kernel
    have e2:(Str.ofString "-").length=1:=by decide+kernel
    have h8:(ys[i]'hi).length≤8:=by
     obtain ⟨u,hu,e⟩:=Fz.mp (hyy _ (Hn hi));have h2:=(Da (hgd u hu).1).2;rw [Bm,e]at h2;exact h2
    unfold bwd;rw [Fc,hz,Aw];show (ys[i]'hi).length+_≤10
    split <;> omega
   have hbn:(bws ys).length=ys.length:=by unfold bws;rw [Fa,FW]
   refine ⟨bws ys,SqL.of hw3,by rw [sp1];omega,?_⟩;walk_at "rs";rename_i nx hnx
   have key2:∀(H4:Hp),A7 H H4→H4 pf=some (.lst ((fo ys).map V.str))→nx [some (V.ref d),some (V.ref a),some (V.ref co),some (V.ref pf),some (V.ref pw),v5,v6,some (V.str (bkT ys)),none,none,none] H4:=by
    clear sm3 hf3 hw3;intro H4 sm4 hf4;subst hnx;walk_at "go";have hco4:=sm4 _ _ hco;have hfl:=Uj hyy;have hfy:∀y∈fo ys,y∈ts.map (·.1):=fun y h=>hyy y ((X6.2 y).mp h);have hsc:=smc nd hgd hfy
    have hsc2:sm (cst ts) (fo ys)≤10 ^ 33:=by omega
    refine ⟨⟨_,SqL.of hf4⟩,?_⟩;refine S8 (fun i=>V.int (cst ts ((fo ys).getD i Str.empty))) (SqL.of hf4) (by rw [Fa];omega) ?_ ?_
    · intro b i x H7 Q' hx sm7 q'
      rw [Fe]at hx
      cases hz:(fo ys)[i]? with
      | none=>rw [hz]at hx;cases hx
      | some z=>
      rw [hz]at hx;cases hx;obtain ⟨u,hu,eu⟩:=Fz.mp (hfy z (Ff hz));obtain ⟨j,hj⟩:=FC.mp hu;have gV:=D0.k (k:=Sum.inr z) (sm7 _ _ hco4);rw [← eu,hcv u hu,← Ph nd hj,eu]at gV
      have ez:(fo ys).getD i Str.empty=z:=by rw [Fc,hz];rfl
      rw [ez]at q';walk_at "go";exact ⟨_,gV,q'⟩
    rw [Fa,J5h (f:=fun z=>V.int (cst ts z))];intro pc hpc
    have ecs:(fo ys).map (fun z=>V.int (cst ts z))=((fo ys).map (cst ts)).map V.int:=by rw [FH];rfl
    rw [ecs];have sm5:A7 H4 (upd H4 pc (.lst (((fo ys).map (cst ts)).map V.int))):=A7.new hpc;have hpc5:upd H4 pc (.lst (((fo ys).map (cst ts)).map V.int)) pc=some (.lst (((fo ys).map (cst ts)).map V.int)):=A1;generalize upd H4 pc (.lst (((fo ys).map (cst ts)).map V.int))=H5 at sm5 hpc5 ⊢;refine ⟨pc,rfl,_,SqL.of hpc5,?_⟩;rw [show ((fo ys).map (cst ts)).sum=sm (cst ts) (fo ys) from rfl];refine ⟨Gj hsc.1 (by omega),?_⟩;have sm05:=sm4.trans sm5;have hf5:=sm5 _ _ hf4;walk_at "rs";refine ⟨_,.inl (SqL.of hf5),by rw [Fa];exact Gj (by omega) (by omega),by omega,fun p6 hp6=>?_⟩;rw [Fa];have sm6:A7 H5 (upd H5 p6 (.lst [V.str (Str.ofString "missed"),V.str (Str.ofString (toString ((fo ys).length:Int))),V.str (Str.ofString "paid"),V.str (Str.ofString (toString (sm (cst ts) (fo ys)))),V.str (Str.ofString "left")])):=A7.new hp6;have hp66:upd H5 p6 (.lst [V.str (Str.ofString "missed"),V.str (Str.ofString (toString ((fo ys).length:Int))),V.str (Str.ofString "paid"),V.str (Str.ofString (toString (sm (cst ts) (fo ys)))),V.str (Str.ofString "left")]) p6=some (.lst ([Str.ofString "missed",nT ((fo ys).length:Nat),Str.ofString "paid",nT (sm (cst ts) (fo ys)),Str.ofString "left"].map V.str)):=A1
    generalize upd H5 p6 (.lst [V.str (Str.ofString "missed"),V.str (Str.ofString (toString ((fo ys).length:Int))),V.str (Str.ofString "paid"),V.str (Str.ofString (toString (sm (cst ts) (fo ys)))),V.str (Str.ofString "left")])=H6 at sm6 hp66 ⊢;refine ⟨p6,pf,_,_,rfl,rfl,hp66,sm6 _ _ hf5,by rw [Fa,Fa];simp only [List.length_cons,List.length_nil];omega,fun c6 hc6=>?_⟩;rw [← Fp];have hl1:(nT ((fo ys).length:Nat)).length≤40:=N8.Cy (n:=(((fo ys).length:Nat):Int)) (by omega) (by omega);have hl2:(nT (sm (cst ts) (fo ys))).length≤40:=N8.Cy hsc.1 (HK hsc2 (by decide));refine ⟨c6,rfl,_,SqL.of A1,?_,?_⟩
    · have e5:(Str.ofString "missed").length=6∧(Str.ofString "paid").length=4∧(Str.ofString "left").length=4:=by decide+kernel
      have h1:=Ku (ys:=[Str.ofString "missed",nT ((fo ys).length:Nat),Str.ofString "paid",nT (sm (cst ts) (fo ys)),Str.ofString "left"]++fo ys) (b:=60) fun x hx=>by
       rcases FF.mp hx with k | k
       · simp only [Fv,Ha,or_false]at k
         rcases k with k | k | k | k | k <;> rw [k] <;> omega
       · obtain ⟨u,hu,rfl⟩:=Fz.mp (hfy x k)
         have h2:=(Da (hgd u hu).1).2;rw [Bm]at h2;omega
      rw [sp1];rw [Fm]at h1 ⊢;simp only [List.length_cons,List.length_nil]at h1 ⊢;omega
    rw [show Txt.join (Str.ofString " ") ([Str.ofString "missed",nT ((fo ys).length:Nat),Str.ofString "paid",nT (sm (cst ts) (fo ys)),Str.ofString "left"]++fo ys)=rnT (cst ts) ys from rfl];have sm7:A7 H (upd H6 c6 (.lst (([Str.ofString "missed",nT ((fo ys).length:Nat),Str.ofString "paid",nT (sm (cst ts) (fo ys)),Str.ofString "left"]++fo ys).map V.str))):=(sm05.trans sm6).trans (A7.new hc6);generalize upd H6 c6 (.lst (([Str.ofString "missed",nT ((fo ys).length:Nat),Str.ofString "paid",nT (sm (cst ts) (fo ys)),Str.ofString "left"]++fo ys).map V.str))=H7 at sm7 ⊢;clear hf5 hpc5 sm05 sm5 hpc hf4 sm4 hco4 sm6 hp66 hp6 hc6;walk_at "rs";intro pl hpl;have sm8:A7 H7 (upd H7 pl (.lst [V.str (Str.ofString "oldest"),V.str (Str.ofString "first"),V.str (Str.ofString "oldest")])):=A7.new hpl;have hpl8:upd H7 pl (.lst [V.str (Str.ofString "oldest"),V.str (Str.ofString "first"),V.str (Str.ofString "oldest")]) pl=some (.lst (([true,false,true].map rl).map V.str)):=A1
    generalize upd H7 pl (.lst [V.str (Str.ofString "oldest"),V.str (Str.ofString "first"),V.str (Str.ofString "oldest")])=H8 at sm8 hpl8 ⊢;have sm08:=sm7.trans sm8;refine ⟨⟨_,SqL.of hpl8⟩,?_⟩;rename_i rest hrest;refine Ke (xs:=([true,false,true].map rl).map V.str) (fun i σ H'=>∃(v10:Option V),σ=[some (V.ref d),some (V.ref a),some (V.ref co),some (V.ref pf),some (V.ref pw),v5,v6,some (V.str (bkT ys)),some (V.str (Str.ofString (toString (sm (cst ts) (fo ys))))),some (V.str (rnT (cst ts) ys)),v10]∧Dk1 K Z4 Z2 H' d st as ts ys∧H' pl=some (.lst (([true,false,true].map rl).map V.str))∧(∀b o,H b=some o→b≠559→b≠566→H' b=some o)∧Bc 559 (⟨247,25,247,39⟩:Pos) (("missed_by"++".<locals>.")++"<lambda>") H'∧Bc 566 (⟨249,25,249,57⟩:Pos) (("paid_by"++".<locals>.")++"<lambda>") H') ⟨none,rfl,hK.same sm08,hpl8,fun b o e _ _=>sm08 _ _ e,B6 sm08 hLm,B6 sm08 hLp⟩ (fun i σ H' _ h=>by obtain ⟨_,_,_,h,_⟩:=h;exact SqL.of h) ?_ ?_
    · clear hrest hpl8 hpl
      rintro i x σ H' hx ⟨v10,rfl,hK',hpl',hkp,hLm',hLp'⟩;rw [Fe,Fe]at hx
      cases hb:[true,false,true][i]? with
      | none=>rw [hb]at hx;cases hx
      | some b=>
      rw [hb]at hx;cases hx;obtain ⟨dx,fs,ho,hf⟩:=id hK'.d.o;walk_at "go"
      have eb:(Str.ofString "book "++rl b++Str.ofString " 1000000")=(lnR (C2.mk xmake_oldest xmake_first) .book b 1000000).txt:=by rw [X8,show wd1 .book++Str.ofString " "=Str.ofString "book " by decide+kernel,Str.append_assoc]
      have er:(Str.ofString "run "++rl b++Str.ofString " 1000000")=(lnR (C2.mk xmake_oldest xmake_first) .run b 1000000).txt:=by rw [X8,show wd1 .run++Str.ofString " "=Str.ofString "run " by decide+kernel,Str.append_assoc]
      have hbl:(rl b).length≤6:=by cases b <;> decide+kernel
      have l5:(Str.ofString "book ").length=5∧(Str.ofString "run ").length=4∧(Str.ofString " 1000000").length=8:=by decide+kernel
      have hbig:=J8w nd hl59 hgd;refine ⟨dx,fs,ho,hf.m,by omega,by rw [Aw];omega,_,eb,Pw (.inr rfl) (by decide) (by decide),fun gv H1 sm hgn hgv=>?_⟩;refine ⟨d,gv,st,as,ts,ys,b,1000000,rfl,hK'.same sm,hgv,by omega,by decide,by decide,fun H2 sm2=>⟨rfl,?_⟩⟩;rw [if_neg (by simp)];have sm12:=sm.trans sm2;refine ⟨dx,fs,sm12 _ _ ho,hf.m,by omega,by rw [Aw];omega,_,er,Pw (.inl rfl) (by decide) (by decide),fun gv2 H3 sm3 hgn2 hgv2=>?_⟩;have sm13:=sm12.trans sm3;refine ⟨d,gv2,st,as,ts,ys,b,1000000,rfl,hK'.same sm13,hgv2,by omega,by decide,by decide,B6 sm13 hLm',B6 sm13 hLp',ntt,fun H4 kp4 hLm4 hLp4=>⟨rfl,?_⟩⟩;rw [if_neg (by simp)];exact ⟨(hK'.same sm13).kp kp4 (B6 sm13 hLm') (B6 sm13 hLp') ntt,J8u kp4 (B6 sm13 hLm') (B6 sm13 hLp') (sm13 _ _ hpl') (fun ps z=>by cases z),fun b o e n1 n2=>kp4 _ _ (sm13 _ _ (hkp _ _ e n1 n2)) n1 n2,hLm4,hLp4⟩
    · rintro σ H9 ⟨v10,rfl,hK9,hpl9,hkp9,hLm9,hLp9⟩
      subst hrest;walk_at "go";exact q H9 hkp9 hLm9 hLp9
   intro p hp;have sm4:A7 H3 (upd H3 p (.lst [])):=A7.new hp;refine ⟨_,N26.J3c (L:=bws ys) (sm4 _ _ hw3) A1,?_⟩
   have e:(bws ys=[])↔ys=[]:=by rw [← Hb,hbn,Hb]
   have h2:=key2 _ (sm3.trans sm4) (sm4 _ _ hf3);unfold bkT at h2
   by_cases k:ys=[]
   · rw [if_pos k]at h2
     rw [if_pos (FA (e.mpr k))];exact h2
   · rw [if_neg k]at h2
     rw [if_neg (by rw [Fw fun z=>k (e.mp z)];decide)];exact h2
variable (Z41:Def P w K mg base CX0 13 "_law_told" ["_law_desk","_law_asks","_law_costs"] (Ip 559 566 (⟨247,25,247,39⟩:Pos) (⟨249,25,249,57⟩:Pos) (("missed_by"++".<locals>.")++"<lambda>") (("paid_by"++".<locals>.")++"<lambda>") K Z4 Z2))
include T Z0d Z1y Z3c Z40 Z0w Zh Z41 in
theorem Z84(F:Fun K "law" "law" Z2l f fd):Al P w K mg base CX0 14 f fd ["_law_script"] (Gq 559 566 K):=by
 have sc:A9 ["_law_script","_law_names_here","_law_costs","_law_k","_law_desk","_law_beside","_law_many","_law_asks","_law_cell","_law_room","_law_name","_law_some"] ["_law_script"] (A6 Z2l):=by walk_at "sc"
 walk_at "ok"
 · exact n2 h_ fun _ _=>rfl
 refine x2 h_ fun a ns e_=>y6 e_ fun e0 hS hl hM hP q=>?_;clear e_ h_;subst e0
 refine ⟨_,(@A2 _ _ _ _ _ (Aj (i:=1) sc.nd rfl (Or.inr rfl) (Ad Z3c hr rfl Ab (A0 (Ad Z0d hr rfl Ab (A0 (pv 0) (A0 Aa A4))) (A0 Aa A4))))
  (@A2 _ _ _ _ _ (Aj (i:=2) sc.nd rfl (Or.inl rfl) E7)
  (@A2 _ _ _ _ _ (E2 PassesOwn.never rfl (Gr rfl T.Z2q (A0 Aa A4)) (Bj (i:=3) sc.nd rfl (Or.inl rfl))
   (@A5 _ _ _ (Gs (Dh hr) (pv 2) (@Bn _ _ _ _ _ _ _ C8 (pv 1) (pv 3) (fun _ _=>rfl)) (Ad Z40 hr rfl Ab (A0 (Ad Z0d hr rfl Ab (A0 (pv 0) (A0 Aa A4))) (A0 (pv 3) A4))) rfl)))
  (@A2 _ _ _ _ _ (Aj (i:=4) sc.nd rfl (Or.inl rfl) (Og Z0w hr rfl (As Ab)))
  (@A2 _ _ _ _ _ (Aj (i:=5) sc.nd rfl (Or.inl rfl) (Og Z0w hr rfl (As Ab)))
  (@A2 _ _ _ _ _ (Aj (i:=6) sc.nd rfl (Or.inr rfl) Aa)
  (@A2 _ _ _ _ _ (Aj (i:=7) sc.nd rfl (Or.inl rfl) (@Bp _ _ _ _ A4))
  (@A2 _ _ _ _ _ (E2 PassesOwn.never rfl (Cv (Q7 Ut (pv 0) (Ov Aa) (Ov Aa))) (Bj (i:=8) sc.nd rfl (Or.inr rfl))
   (@A5 _ _ _ (Ay (PW.pt (Om (Ak M8 (pv 6) Aa (nomark _)) (Ol (PW.pt (Li (Ak G6 (pv 6) Aa (nomark _)) (Iu (Ak M8 (Ah Cc (pv 8) Aa) Aa (nomark _))))))))
    (@A2 _ _ _ _ _ (Aj (i:=9) sc.nd rfl (Or.inl rfl) (Ah E3 Aa (Ah Cc (Ad Z1y hr rfl Ab (A0 (Ad Z0d hr rfl Ab (A0 (pv 0) (A0 Aa A4))) (A0 (pv 6) A4))) Aa)))
    (@A2 _ _ _ _ _ (Aj (i:=10) sc.nd rfl (Or.inl rfl) (@Bn _ _ _ _ _ _ _ C8 (pv 1) (pv 6) (fun _ _=>rfl)))
    (@A2 _ _ _ _ _ (Ay (Ak Iq (Am Zh T.Za hr (As Ab) (pv 4) (A0 (Ah Au (Ah Au (Ah Au (Ah Au (Ah Au Ai (pv 10)) Ai) (Bq Ci rfl T.Z2k (by first | rfl | decide+kernel) (A0 (P1 (Dh hr) (pv 2) (pv 10) (fun _ _=>rfl)) A4))) Ai) (Bq Ci rfl T.Z2k (by first | rfl | decide+kernel) (A0 (pv 9) A4))) A4)) Ai (nomark _))
     (@A5 _ _ _ (@Ac _ _ _ _ Cm))
     Ag)
    (@A5 _ _ _ (Aj (i:=6) sc.nd rfl (Or.inr rfl) (Ah E3 (pv 6) Aa))))))
    (@A5 _ _ _ (Ay (Ak G6 (Ah Cc (pv 8) Aa) Aa (nomark _))
     (@A2 _ _ _ _ _ (Aj (i:=7) sc.nd rfl (Or.inl rfl) (@Bp _ _ _ _ A4))
     (@A5 _ _ _ (Ay (Ak Iq (Am Zh T.Za hr (As Ab) (pv 4) (A0 Ai A4)) Ai (nomark _))
      (@A5 _ _ _ (@Ac _ _ _ _ Cm))
      Ag)))
     (@A2 _ _ _ _ _ (Ql (i:=11) "_law_k" [1,6,8] sc.nd rfl rfl rfl rfl (Gr rfl T.Z2q (A0 (Ah E3 Aa (Ah Cc (Ah K5 (pv 8) Aa) Aa)) A4)) (fun b=>(@Bn _ _ _ _ _ _ _ C8 (pv 1) (Ah Cc (Ah Qd (Ah K5 (pv 3) Aa) (Ah E3 Aa (pv 0))) (pv 2)) (fun _ _=>rfl))))
     (@A2 _ _ _ _ _ (Aj (i:=7) sc.nd rfl (Or.inl rfl) (Ah L3 (pv 7) (pv 11)))
     (@A5 _ _ _ (Ay (Ak Iq (Am Zh T.Za hr (As Ab) (pv 4) (A0 (Ah Au Ai (Ey He Hr Hq Gu Ai (A0 (pv 11) A4))) A4)) (Ah Au Ai (Bq Ci rfl T.Z2k (by first | rfl | decide+kernel) (A0 (Aq Ba rfl T.Zt FM (A0 (pv 7) A4)) A4))) (nomark _))
      (@A5 _ _ _ (@Ac _ _ _ _ Cm))
      Ag)))))))))
  (@A2 _ _ _ _ _ (Ay (Cb (Bv (Ad Z41 hr rfl Ab (A0 (pv 4) (A0 (pv 7) (A0 (pv 2) A4))))))
   (@A5 _ _ _ (@Ac _ _ _ _ Cm))
   Ag)
  (@A5 _ _ _ (@Ac _ _ _ _ (Oo (K7 G6 (Am Zh T.Za hr (As Ab) (pv 5) (A0 Ai A4)) Ai (nomark _)) (On (K7 G6 (Am Zh T.Za hr (As Ab) (pv 5) (A0 Ai A4)) Ai (nomark _))))))))))))))),?_⟩
 walk_at "st";walk_at "go";refine ⟨12,rfl,by decide,fun np ys H1 hnp sm1 hny hy1 hy2 ynd hyn=>?_⟩;have hS1:=sm1.seq hS;have hM1:=sm1 _ _ hM;have hP1:=sm1 _ _ hP;clear hS hM hP sm1 hnp;walk_at "rs";intro pc hpc;have sm2:A7 H1 (upd H1 pc (.dK [])):=A7.new hpc;have hc2:upd H1 pc (.dK []) pc=some (.dK []):=A1;have hny2:=sm2 _ _ hny;have hS2:=sm2.seq hS1;have hM2:=sm2 _ _ hM1;have hP2:=sm2 _ _ hP1
 have hcn:np≠pc:=fun e=>by rw [e,hpc]at hny;cases hny
 generalize upd H1 pc (.dK [])=H2 at sm2 hc2 hny2 hS2 hM2 hP2 ⊢;clear hny hS1 hM1 hP1 sm2 hpc;walk_at "rs";rename_i rest hrest;refine P3 (lo:=0) (n:=12) (fun i σ H'=>∃(kc:List (Key×V)) (v3:Option V),σ=[some (V.ref a),some (V.ref np),some (V.ref pc),v3,none,none,none,none,none,none,none,none]∧H' pc=some (.dK kc)∧kc.length≤i∧(∀(j:Nat) z,j < i→ys[j]?=some z→∃c:Int,Bb kc (Sum.inr z)=some (.int c)∧0≤c∧c≤10 ^ 30)∧H' np=some (.lst (ys.map V.str))∧SqL K H' a (ns.map V.int)∧H' 559=some (.tbl #[])∧H' 566=some (.tbl #[])) ⟨[],none,rfl,hc2,Fg _,(fun j z h=>by omega),hny2,hS2,hM2,hP2⟩ ?_ ?_
 · clear hrest hc2 hny2 hS2 hM2 hP2
   rintro i σ H' hi ⟨kc,v3,rfl,hc,hcl,hcv,hny,hS,hM,hP⟩
   obtain ⟨z,hz⟩:∃z,ys[i]?=some z:=⟨_,Fb (by omega)⟩
   have hzV:(ys.map V.str)[i]?=some (V.str z):=by rw [Fe,hz];rfl
   walk_at "go";refine ⟨i,rfl,by omega,fun v hv0 hv1=>Cr (SqL.of hny) (Bo hzV) ⟨_,Mg.k (k:=Sum.inr z) hc (by omega),?_⟩⟩;have hkl:=Cf kc (Sum.inr z:Key) (V.int v);refine ⟨_,A1,by omega,fun j y hj hy=>?_,by rw [A3 hcn];exact hny,?_,by rw [A3 (fun k=>by rw [← k,hM]at hc;cases hc)];exact hM,by rw [A3 (fun k=>by rw [← k,hP]at hc;cases hc)];exact hP⟩
   · rw [G8]
     by_cases e:y=z
     · rw [e,if_pos rfl]
       exact ⟨v,rfl,hv0,hv1⟩
     · rw [if_neg (J8k e)]
       refine hcv j y ?_ hy;have:j≠i:=fun k=>e (by rw [k,hz]at hy;cases hy;rfl);omega
   · rcases hS with (h | ⟨o,h⟩) | h
     · exact .inl (.inl (by rw [A3 (fun k=>by rw [k,hc]at h;cases h)];exact h))
     · exact .inl (.inr ⟨o,by rw [A3 (fun k=>by rw [k,hc]at h;cases h)];exact h⟩)
     · exact .inr h
 · rintro σ H' ⟨kc,v3,rfl,hc,hcl,hcv,hny,hS,hM,hP⟩
   clear hc2 hny2 hS2 hM2 hP2;subst hrest;walk_at "go";intro d dx hd hdx ne1
   have smx:A7 H' (upd (upd H' dx (.own d)) d (.ins Z4 dx [])):=fun b o e=>by rw [A3 (A8 e hd),A3 (A8 e hdx)];exact e
   refine ⟨dx,A1,fun st0 as0 H3 sb3 hD3 stkN has3 hst0 has0=>?_⟩;have sm3:A7 H' H3:=Gx hd hdx sb3
   have hK3:Dk1 K Z4 Z2 H3 d st0 as0 [] []:=⟨hD3,stkN.at',has3,Ho,FB _,(fun u hu=>by cases hu),(fun y hy=>by cases hy),FB _⟩
   have hc3:=sm3 _ _ hc;have hny3:=sm3 _ _ hny;have hS3:=sm3.seq hS;have hM3:=sm3 _ _ hM;have hP3:=sm3 _ _ hP;clear hc hny hS hM hP sm3 smx sb3 hD3 stkN has3 hst0 has0 hd hdx ne1;walk_at "rs";intro d2 dx2 hd2 hdx2 ne2
   have smx:A7 H3 (upd (upd H3 dx2 (.own d2)) d2 (.ins Z4 dx2 [])):=fun b o e=>by rw [A3 (A8 e hd2),A3 (A8 e hdx2)];exact e
   refine ⟨dx2,A1,fun st2 as2 H4 sb4 hD4 stkN has4 hst0 has0=>?_⟩;have sm4:A7 H3 H4:=Gx hd2 hdx2 sb4
   have hB4:Dk1 K Z4 Z2 H4 d2 st2 as2 [] []:=⟨hD4,stkN.at',has4,Ho,FB _,(fun u hu=>by cases hu),(fun y hy=>by cases hy),FB _⟩
   have hK4:=hK3.same sm4
   have ndd:d2≠d:=fun e=>by
    obtain ⟨_,_,ho,_⟩:=hK3.d.o;rw [e,ho]at hd2;cases hd2
   have hc4:=sm4 _ _ hc3;have hny4:=sm4 _ _ hny3;have hS4:=sm4.seq hS3;have hM4:=sm4 _ _ hM3;have hP4:=sm4 _ _ hP3;clear hc3 hny3 hS3 hM3 hP3 hK3 sm4 smx sb4 hD4 stkN has4 hst0 has0 hd2 hdx2 ne2;walk_at "rs";intro pa hpa;have sm5:A7 H4 (upd H4 pa (.lst [])):=A7.new hpa;have hpa5:upd H4 pa (.lst []) pa=some (.lst []):=A1;generalize upd H4 pa (.lst [])=H5 at sm5 hpa5 ⊢;have hK5:=hK4.same sm5;have hB5:=hB4.same sm5;have hc5:=sm5 _ _ hc4;have hny5:=sm5 _ _ hny4;have hS5:=sm5.seq hS4;have hM5:=sm5 _ _ hM4;have hP5:=sm5 _ _ hP4;clear hK4 hB4 hc4 hny4 hS4 hM4 hP4 sm5 hpa;walk_at "rs";refine ⟨_,hS5,fun sl hsl=>?_⟩
   obtain ⟨cs,hcs,hcs60⟩:∃cs:List Int,Nc (ns.map V.int) (some 4) (some 64)=cs.map V.int∧cs.length≤60:=by
    obtain ⟨cs,h1,h2,_⟩:=N35.J8n ns 4 64;exact ⟨cs,h1,h2⟩
   rw [hcs];have sm6:A7 H5 (upd H5 sl (.lst (cs.map V.int))):=A7.new hsl;have hsl6:upd H5 sl (.lst (cs.map V.int)) sl=some (.lst (cs.map V.int)):=A1;generalize upd H5 sl (.lst (cs.map V.int))=H6 at sm6 hsl6 ⊢;refine ⟨⟨_,SqL.of hsl6⟩,?_⟩
   have hcv12:∀z∈ys,∃c:Int,Bb kc (Sum.inr z)=some (.int c)∧0≤c∧c≤10 ^ 30:=fun z hz=>by
    obtain ⟨j,hj⟩:=FC.mp hz;have:=(Fi.mp hj).1;exact hcv j z (by omega) hj
   rename_i rest hrest;refine Ke (xs:=cs.map V.int) (fun i σ H'=>∃(many:Nat) (st as al:Addr) (ts:List Th) (zs:List Str) (v3 v8 v9 v10 v11:Option V),σ=[some (V.ref a),some (V.ref np),some (V.ref pc),v3,some (V.ref d),some (V.ref d2),some (V.int (many:Int)),some (V.ref al),v8,v9,v10,v11]∧Dk1 K Z4 Z2 H' d st as ts zs∧Dk1 K Z4 Z2 H' d2 st2 as2 [] []∧many≤12∧ts.map (·.1)=ys.take many∧(1≤i→1≤many)∧(∀t∈ts,Bb kc (Sum.inr t.1)=some (.int t.2.1))∧zs.length≤3 * i∧H' al=some (.lst (zs.map V.str))∧H' pc=some (.dK kc)∧H' np=some (.lst (ys.map V.str))∧SqL K H' a (ns.map V.int)∧H' 559=some (.tbl #[])∧H' 566=some (.tbl #[])∧H' sl=some (.lst (cs.map V.int))) ⟨0,st0,as0,pa,[],[],_,_,_,_,_,rfl,hK5.same sm6,hB5.same sm6,by decide,rfl,(fun h=>by omega),(fun t ht=>by cases ht),Fg _,sm6 _ _ hpa5,sm6 _ _ hc5,sm6 _ _ hny5,sm6.seq hS5,sm6 _ _ hM5,sm6 _ _ hP5,hsl6⟩ (fun i σ H' _ h_=>by obtain ⟨_,_,_,_,_,_,_,_,_,_,_,_,_,_,_,_,_,_,_,_,_,_,_,_,_,h⟩:=h_;exact SqL.of h) ?_ ?_
   · clear hrest hK5 hB5 hc5 hny5 hS5 hM5 hP5 hsl6 sm6 hpa5
     rintro i x0 σ H' hx ⟨many,st,as,al,ts,zs,v3,v8,v9,v10,v11,rfl,hK,hB,hm12,hts,hm1,htv,hzl,hal,hc,hny,hS,hM,hP,hslv⟩;rw [Fe]at hx
     cases hcx:cs[i]? with
     | none=>rw [hcx]at hx;cases hx
     | some c=>
     rw [hcx]at hx;cases hx
     have hi60:i < 60:=by have:=(Fi.mp hcx).1;omega
     walk_at "go"
     have step81:∀{p q r e:Prop} [Decidable p] [Decidable q] [Decidable r] {A B:Prop},e→(¬p→¬q)→(p→A)→(¬q→B)→(if p then if q then A else (e∧if r then A else B) else B):=by
      intro p q r e _ _ _ A B he hpq hA hB
      by_cases h:p
      · rw [if_pos h]
        by_cases k:q
        · rw [if_pos k];exact hA h
        · rw [if_neg k]
          refine ⟨he,?_⟩;split
          · exact hA h
          · exact hB k
      · rw [if_neg h];exact hB (hpq h)
     obtain ⟨dx,fs,ho,hf⟩:=id hK.d.o;obtain ⟨dx2,fs2,ho2,hf2⟩:=id hB.d.o;have line:=Bl
     have hzl2:zs.length≤180:=by omega
     refine step81 (by decide) (fun h k=>h (by omega)) (fun h12=>?_) (fun hm0=>?_)
     · obtain ⟨z,hz⟩:∃z,ys[many]?=some z:=⟨_,Fb (by omega)⟩
       have hzV:(ys.map V.str)[many]?=some (V.str z):=by rw [Fe,hz];rfl
       have hzn:=hyn z (Ff hz);obtain ⟨k,hk,hk0,hk1⟩:=hcv12 z (Ff hz);walk_at "go";refine ⟨ns.getD 3 0,(many:Int),rfl,by omega,by omega,fun hx0 hx1=>⟨_,rfl,by decide,?_⟩⟩
       obtain ⟨r,hr,hr0,hr1⟩:∃r:Int,1+Yh (ns.getD 3 0) (many:Int) % 1000=r∧1≤r∧r≤1000:=⟨_,rfl,by omega,by omega⟩
       rw [hr];walk_at "rs";refine Cr (SqL.of hny) (Bo hzV) ?_;walk_at "rs";have hz8:=(Da hzn).2;rw [Bm]at hz8;have hn31:(Str.ofString (toString k)).length≤31:=Cy hk0 (HK hk1 (by decide));have hr31:(Str.ofString (toString r)).length≤31:=Cy (HW (by decide) hr0) (HK hr1 (by decide))
       have k6:(Str.ofString "thing ").length=6:=by decide+kernel
       have k1:(Str.ofString " ").length=1:=by decide+kernel
       have gV:=D0.k (k:=Sum.inr z) hc;rw [hk]at gV
       have hztk:ys.take (many+1)=ys.take many++[z]:=by rw [FQ,hz];rfl
       have htl:ts.length≤12:=by
        have:=congrArg List.length hts;rw [Fa,Hm]at this;omega
       refine ⟨dx,fs,ho,hf.m,by rw [k6];omega,by rw [Aw,k6,k1];omega,_,gV,k,rfl,Gj hk0 (HW hk1 (by decide)),by rw [Aw,Aw,k6,k1];omega,by rw [Aw,Aw,Aw,k6,k1];omega,Gj (HW (by decide) hr0) (HW hr1 (by decide)),by rw [Aw,Aw,Aw,Aw,k6,k1];omega,J3u z k r,J3v.symm,J5f hzn hk0 hk1 (HW (by decide) hr0) (HW hr1 (by decide)),fun gv H2 sm2 hgv hgv2=>?_⟩;refine ⟨d,gv,st,as,ts,zs,(z,k,r),rfl,hK.same sm2,?_,by omega,?_,hgv2,fun st' H3 sb3 hK3 hst3=>⟨rfl,?_⟩⟩
       · rw [Fp,hts]
         show (ys.take many++[z]).Nodup;rw [← hztk];exact ynd.sublist (List.take_sublist _ _)
       · intro u hu
         rcases FF.mp hu with hu | hu
         · exact hK.g u hu
         · rw [Fh.mp hu]
           exact ⟨hzn,hk0,hk1,hr0,hr1⟩
       · rw [if_neg (by simp)]
         walk_at "rs";have keep:∀b o,H' b=some o→(∀c x f,o≠ .ins c x f)→H3 b=some o:=fun b o e n=>sb3 _ _ (sm2 _ _ e) (fun k=>by rw [k,ho]at e;cases e;exact n _ _ _ rfl);refine ⟨many+1,rfl,st',as,ts++[(z,k,r)],zs,hK3,(hB.same sm2).but sb3 (sm2 _ _ ho) hf.k ndd,by omega,by rw [Fp,hts,hztk];rfl,fun _=>by omega,fun u hu=>?_,by omega,keep _ _ hal (fun c x f z=>by cases z),keep _ _ hc (fun c x f z=>by cases z),keep _ _ hny (fun c x f z=>by cases z),SqL.but sb3 (sm2 _ _ ho) (sm2.seq hS),keep _ _ hM (fun c x f z=>by cases z),keep _ _ hP (fun c x f z=>by cases z),keep _ _ hslv (fun c x f z=>by cases z)⟩;rcases FF.mp hu with hu | hu
         · exact htv u hu
         · rw [Fh.mp hu];exact hk
     · walk_at "go"
       by_cases h7:c % 32=7
       · rw [if_pos h7]
         walk_at "go";intro pn hpn;have sm7:A7 H' (upd H' pn (.lst [])):=A7.new hpn;have hpn7:upd H' pn (.lst []) pn=some (.lst []):=A1;generalize upd H' pn (.lst [])=H7 at sm7 hpn7 ⊢;walk_at "rs";refine ⟨dx,fs,sm7 _ _ ho,hf.m,ln0,J5g.symm,J8s,fun gv H2 sm2 hgv hgv2=>?_⟩;have sm12:=sm7.trans sm2
         have hpd:pn≠d:=fun k=>by rw [k,ho]at hpn;cases hpn
         refine ⟨d,gv,st,as,.non,rfl,(hK.same sm12).d,fun as' H3 sb3 hD3 has3 hn3=>⟨rfl,?_⟩⟩;rw [if_neg (by simp)];have keep:∀b o,H' b=some o→(∀c x f,o≠ .ins c x f)→H3 b=some o:=fun b o e n=>sb3 _ _ (sm12 _ _ e) (fun k=>by rw [k,ho]at e;cases e;exact n _ _ _ rfl);have hst3:=((Kv (hK.same sm12).s (sm12 _ _ ho) hf.k).off (H':=H3) fun b o e nb=>sb3 b o e fun k=>nb (by rw [k];simp)).at;exact ⟨many,rfl,st,as',ts,[],⟨hD3,hst3,has3,hK.nd,hK.l,hK.g,(fun y hy=>by cases hy),FB _⟩,(hB.same sm12).but sb3 (sm12 _ _ ho) hf.k ndd,hm12,hts,(fun _=>by omega),htv,FB _,sb3 _ _ (sm2 _ _ hpn7) hpd,keep _ _ hc (fun c x f z=>by cases z),keep _ _ hny (fun c x f z=>by cases z),SqL.but sb3 (sm12 _ _ ho) (sm12.seq hS),keep _ _ hM (fun c x f z=>by cases z),keep _ _ hP (fun c x f z=>by cases z),keep _ _ hslv (fun c x f z=>by cases z)⟩
       · rw [if_neg h7]
         walk_at "go";refine J20 (fun i y H=>∃w:Str,y=V.str w∧w∈ys.take many) (fun i y H H' l zs h hl sb=>h) (by omega) (fun b j G3 Q' hj sm3 q'=>?_) fun D yl H4 hDn sm4 hyD hyl2 hall=>?_
         · walk_at "go"
           have e0:=FY ((c / 8).fdiv (1+(j:Int))) (show (many:Int)≠0 by omega);have e1:=FR ((c / 8).fdiv (1+(j:Int))) (show (0:Int) < many by omega);generalize (c / 8).fdiv (1+(j:Int)) % (many:Int)=e at e0 e1 ⊢
           obtain ⟨k,rfl⟩:∃k:Nat,e=(k:Int):=⟨e.toNat,by omega⟩
           obtain ⟨w,hw⟩:∃w,ys[k]?=some w:=⟨_,Fb (by omega)⟩
           have hwV:(ys.map V.str)[k]?=some (V.str w):=by rw [Fe,hw];rfl
           exact Cr (SqL.of (sm3 _ _ hny)) (Bo hwV) (q' _ _ (fun _ _ h=>h) ⟨w,rfl,Ff (i:=k) (by rw [List.getElem?_take,if_pos (by omega)];exact hw)⟩)
         · obtain ⟨ws,rfl,hws⟩:∃ws:List Str,yl=ws.map V.str∧∀u∈ws,u∈ys.take many:=by
            clear hyD hyl2;refine ⟨yl.map fun y=>match y with | .str u=>u | _=>Str.empty,?_,fun u hu=>?_⟩
            · rw [FH]
              refine Ra fun i=>?_;rw [Fe]
              cases e:yl[i]? with
              | none=>rfl
              | some y=>obtain ⟨u,rfl,_⟩:=hall i y e;rfl
            · obtain ⟨y,hy,rfl⟩:=Fz.mp hu
              obtain ⟨i,hi⟩:=FC.mp hy;obtain ⟨u,rfl,h1⟩:=hall i y hi;exact h1
           rw [Fa]at hyl2;clear hall;walk_at "rs"
           have hws3:ws.length≤3:=by omega
           have hws1:1≤ws.length:=by omega
           refine ⟨al,D,_,_,rfl,rfl,sm4 _ _ hal,hyD,by rw [Fa,Fa];omega,fun c2 hc2=>?_⟩;rw [← Fp];have sm5:A7 H4 (upd H4 c2 (.lst ((zs++ws).map V.str))):=A7.new hc2;have hc5:upd H4 c2 (.lst ((zs++ws).map V.str)) c2=some (.lst ((zs++ws).map V.str)):=A1;have hD5:=sm5 _ _ hyD;generalize upd H4 c2 (.lst ((zs++ws).map V.str))=H5 at sm5 hc5 hD5 ⊢;have sm45:=sm4.trans sm5;walk_at "rs";have hwn:∀w∈ws,B9 w.cps.toList=true:=fun w hw=>hyn w (List.mem_of_mem_take (hws w hw));have hok:(lnA ws).ok (C2.mk xmake_oldest xmake_first):=J8r hws1 (by omega) hwn;have hlong:=hok.long;rw [X9 hws1,Aw]at hlong
           have hsl:=Ku (ys:=ws) (b:=8) fun y hy=>by
            have:=(Da (hwn y hy)).2;rw [Bm]at this;omega
           have k1:(Str.ofString " ").length=1:=by decide+kernel
           have k4:(Str.ofString "row ").length=4:=by decide+kernel
           refine ⟨dx,fs,sm45 _ _ ho,hf.m,ws,SqL.of hD5,by rw [k1];omega,by omega,lnA ws,(X9 hws1).symm,hok,fun gv H6 sm6 hgv hgv6=>?_⟩;have sm46:=sm45.trans sm6
           have hcd:c2≠d:=fun k=>by have h9:=sm4 _ _ ho;rw [← k,hc2]at h9;cases h9
           refine ⟨d,gv,st,as,ts,zs,ws,rfl,hK.same sm46,hgv6,by omega,fun z hz=>by rw [hts];exact hws z hz,fun as' H7 sb7 hK7 hn7=>?_⟩;have hc7:=sb7 _ _ (sm6 _ _ hc5) hcd;refine ⟨_,.inl (SqL.of hc7),?_⟩;rw [Fa,Fm];have hl9:=N8.Cy (n:=((zs.length+ws.length:Nat):Int)) (by omega) (by omega);refine ⟨Gj (by omega) (by omega),by rw [k4];omega,rfl,?_⟩;rw [if_neg (fun h=>h rfl)];have keep:∀b o,H' b=some o→(∀c x f,o≠ .ins c x f)→H7 b=some o:=fun b o e n=>sb7 _ _ (sm46 _ _ e) (fun k=>by rw [k,ho]at e;cases e;exact n _ _ _ rfl);exact ⟨many,rfl,st,as',ts,zs++ws,hK7,(hB.same sm46).but sb7 (sm46 _ _ ho) hf.k ndd,hm12,hts,(fun _=>by omega),htv,by rw [Fm];omega,hc7,keep _ _ hc (fun c x f z=>by cases z),keep _ _ hny (fun c x f z=>by cases z),SqL.but sb7 (sm46 _ _ ho) (sm46.seq hS),keep _ _ hM (fun c x f z=>by cases z),keep _ _ hP (fun c x f z=>by cases z),keep _ _ hslv (fun c x f z=>by cases z)⟩
   · rintro σ H' ⟨many,st,as,al,ts,zs,v3,v8,v9,v10,v11,rfl,hK,hB,hm12,hts,hm1,htv,hzl,hal,hc,hny,hS,hM,hP,hslv⟩
     subst hrest;walk_at "go";refine ⟨st,as,ts,zs,hK,hal,kc,hc,htv,.inl hM,.inl hP,by decide,fun H9 kp9 hLm9 hLp9=>?_⟩;have hB9:=hB.kp (pm:=⟨0,0,0,0⟩) (qm:=Str.empty) (pp:=⟨0,0,0,0⟩) (qp:=Str.empty) kp9 (.inl hM) (.inl hP) (by decide);obtain ⟨dx9,fs9,ho9,hf9⟩:=id hB9.d.o
     have eb:Str.ofString "book first 5"=(lnR (C2.mk xmake_oldest xmake_first) .book false 5).txt:=by show _=Txt.join (Str.ofString " ") [wd1 .book,rl false,nT 5];rw [J8o];decide+kernel
     have er:Str.ofString "run oldest 7"=(lnR (C2.mk xmake_oldest xmake_first) .run true 7).txt:=by show _=Txt.join (Str.ofString " ") [wd1 .run,rl true,nT 7];rw [J8o];decide+kernel
     have s5:N41.sm (rm []) (([]:List Th).map (·.1))≤5:=by show N41.sm (rm []) []≤5;rw [N41.D5];decide
     walk_at "rs";refine ⟨dx9,fs9,ho9,hf9.m,_,eb,Pw (.inr rfl) (by decide) (by decide),fun gv G1 sg hgn hgv=>?_⟩;refine ⟨d2,gv,st2,as2,[],[],false,5,rfl,hB9.same sg,hgv,s5,by decide,by decide,fun G2 sg2=>?_⟩;refine ⟨rfl,?_⟩;rw [if_pos (show V.str (bkT [])=V.str (Str.ofString "none") from rfl)];have sg12:=sg.trans sg2
     have s7:N41.sm (rm []) (([]:List Th).map (·.1))≤7:=by show N41.sm (rm []) []≤7;rw [N41.D5];decide
     refine ⟨dx9,fs9,sg12 _ _ ho9,hf9.m,_,er,Pw (.inl rfl) (by decide) (by decide),fun gv2 G3 sg3 hgn2 hgv2=>?_⟩;have sg13:=sg12.trans sg3;refine ⟨d2,gv2,st2,as2,[],[],true,7,rfl,hB9.same sg13,hgv2,s7,by decide,by decide,B6 sg13 hLm9,B6 sg13 hLp9,by decide,fun G4 kp4 hLm4 hLp4=>⟨rfl,?_⟩⟩
     have e7:rnT (N41.cst []) []=Str.ofString "missed 0 paid 0 left":=by
      show Txt.join (Str.ofString " ") [Str.ofString "missed",nT 0,Str.ofString "paid",nT (N41.sm (N41.cst []) []),Str.ofString "left"]=_;rw [N41.D5,show ∀xs:List Str,Txt.join (Str.ofString " ") xs=Str.join (Str.ofString " ") xs from fun xs=>StrLaws.glued_eq_join _ _];decide+kernel
     have e8:decide (V.str (Str.ofString "missed 0 paid 0 left")=V.str (Str.ofString "missed 0 paid 0 left"))=true:=FA rfl;rw [e7,e8];exact q _
end
theorem J8x{l:W.OpenLaw}{w:World}{K:W.Frag}{h:Heap}{mg:Str→Option Value}{fa f24 f25 f26 f27 f32 f38 f69 xF_thing xF_ask xF_again xF_run xF_book Z2 Z3 Zl Z8 Z0 Z1 Z4 xanswer_thing xanswer_ask xanswer_again xanswer_run xanswer_book xmake_first xmake_oldest Zo Zm Ze:Addr}(X:K.In h)(G:h.Ns mainGlobals mg)(hfa:mg "law"=some (.ref fa))
 {od24 an24 od25 an25 od26 an26 od27 an27 od32 an32 od38 an38 od69 an69:Option Addr} {sl24 sl25 sl26 sl27 sl32 sl38 sl69:Array (Option Value)} {oc24 kV24 dc24 pm24 cd24 ct24 oc25 kV25 dc25 pm25 cd25 ct25 oc26 kV26 dc26 pm26 cd26 ct26 oc27 kV27 dc27 pm27 cd27 ct27 oc32 kV32 dc32 pm32 cd32 ct32 oc38 kV38 dc38 pm38 cd38 ct38 oc69 kV69 dc69 pm69 cd69 ct69:Value}
 (Z73:Gc K "Stock" Z2) (Z80:Cls K Z2)
 (Z74:Gc K "Shelf" Z3) (Z81:Cls K Z3)
 (Z7p:Gc K "Rule" Zl) (Z85:Cls K Zl)
 (Z6p:Gc K "Ranked" Z8) (Z7v:Cls K Z8)
 (Z6q:Gc K "Oldest" Z0) (Z7w:Cls K Z0)
 (Z75:Gc K "First" Z1) (Z82:Cls K Z1)
 (Z7q:Gc K "Desk" Z4) (Z86:Cls K Z4)
 (Z5g:Gc K "answer_thing" xanswer_thing)
 (Z6r:Gc K "answer_ask" xanswer_ask)
 (Z5h:Gc K "answer_again" xanswer_again)
 (Z6s:Gc K "answer_run" xanswer_run)
 (Z61:Gc K "answer_book" xanswer_book)
 (Z6t:Gc K "make_first" xmake_first)
 (Z62:Gc K "make_oldest" xmake_oldest)
 (Z7x:Gc K "MAKERS" Zo)
 (Z83:Gc K "FORMS" Zm)
 (Z7r:Gc K "ANSWERS" Ze)
 (F0:Gf K "is_whole" Z3s)
 (F1:Gf K "is_within" Z3g)
 (F2:Gf K "check_places" Z1t)
 (F3:Gf K "made_of" Z47)
 (F4:Gf K "is_name" Z48)
 (F5:Gf K "check_thing" Z28)
 (F6:Gi K Z2 "Stock.__init__" Z2u)
 (F7:Gm K Z2 "has" "Stock.has" Z3h)
 (F8:Gm K Z2 "thing_of" "Stock.thing_of" Z1b)
 (F9:Gm K Z2 "room_of" "Stock.room_of" Z1e)
 (F10:Gm K Z2 "cost_of" "Stock.cost_of" Z1f)
 (F11:Gf K "check_asks" Z2v)
 (F12:Gi K Z3 "Shelf.__init__" Z2w)
 (F13:Gm K Z3 "lying" "Shelf.lying" Z29)
 (F14:Gm K Z3 "holds" "Shelf.holds" Z2a)
 (F15:Gm K Z3 "room_left" "Shelf.room_left" Z0v)
 (F16:Gm K Z3 "put" "Shelf.put" Z3i)
 (F17:Gm K Z3 "cast" "Shelf.cast" Z2x)
 (F18:Gm K Z2 "names" "Stock.names" Z2b)
 (F19:Gf K "casts_off" Z3j)
 (F20:Gf K "serves" Z4g)
 (F21:Gf K "lying_after" Z2c)
 (F22:Gf K "read_number" Z2d)
 (F23:Gf K "weighed" Z49)
 (a24:Gc K "missed_by" f24) (l24:K.lookup f24=some ⟨oc24,od24,.func (W.fnOf "missed_by" "missed_by" (Bk Z04) (Be Z04) (A6 Z04) .none kV24 dc24 pm24 an24 cd24 ct24),sl24⟩) (c24:W.codeIn K cd24 "missed_by"=true) (k24:W.keepIn K (.ref f24)=true)
 {cq9:Addr} (mc24:cd24= .ref cq9) (mh24:W.codeHdIn K cq9 559=true)
 (a25:Gc K "paid_by" f25) (l25:K.lookup f25=some ⟨oc25,od25,.func (W.fnOf "paid_by" "paid_by" (Bk Z0i) (Be Z0i) (A6 Z0i) .none kV25 dc25 pm25 an25 cd25 ct25),sl25⟩) (c25:W.codeIn K cd25 "paid_by"=true) (k25:W.keepIn K (.ref f25)=true)
 {cq9:Addr} (mc25:cd25= .ref cq9) (mh25:W.codeHdIn K cq9 566=true)
 (a26:W.findIn K (.ref Zl) "__init__"=some (some (.ref f26))) (l26:K.lookup f26=some ⟨oc26,od26,.func (W.fnOf "__init__" "Rule.__init__" (Bk Z0c) (Be Z0c) (A6 Z0c) .none kV26 dc26 pm26 an26 cd26 ct26),sl26⟩) (c26:W.codeIn K cd26 "Rule.__init__"=true) (n26:W.isFn K (.ref f26)=true) (k26:W.keepIn K (.ref Zl)=true) (m26:W.makesIn K Zl=true) (kf26:W.keepIn K (.ref f26)=true)
 (fc26:W.findCls K (.ref Zl) (.type "type") "__init__"=some (.val (.ref f26))) (sc26:W.specialIn K (.ref Zl) "__getattribute__"=some (some (.builtin "type.__getattribute__"))) (rc26:W.readsIn K Zl (.type "type")=true)
 (a27:W.findIn K (.ref Z8) "__init__"=some (some (.ref f27))) (l27:K.lookup f27=some ⟨oc27,od27,.func (W.fnOf "__init__" "Ranked.__init__" (Bk Z01) (Be Z01) (A6 Z01) .none kV27 dc27 pm27 an27 cd27 ct27),sl27⟩) (c27:W.codeIn K cd27 "Ranked.__init__"=true) (n27:W.isFn K (.ref f27)=true) (k27:W.keepIn K (.ref Z8)=true) (m27:W.makesIn K Z8=true) (kf27:W.keepIn K (.ref f27)=true)
 (fc27:W.findCls K (.ref Z8) (.type "type") "__init__"=some (.val (.ref f27))) (sc27:W.specialIn K (.ref Z8) "__getattribute__"=some (some (.builtin "type.__getattribute__"))) (rc27:W.readsIn K Z8 (.type "type")=true)
 (F28:Gi K Z0 "Ranked.__init__" Z2e)
 (F29:Gi K Z1 "First.__init__" Z2y)
 (F30:Gm K Z0 "number_ask" "Ranked.number_ask" Z0e)
 (F31:Gm K Z0 "last_of" "Ranked.last_of" Z1c)
 (a32:W.findIn K (.ref Z0) "rank"=some (some (.ref f32))) (l32:K.lookup f32=some ⟨oc32,od32,.func (W.fnOf "rank" "Ranked.rank" (Bk Z02) (Be Z02) (A6 Z02) .none kV32 dc32 pm32 an32 cd32 ct32),sl32⟩) (c32:W.codeIn K cd32 "Ranked.rank"=true) (n32:W.isFn K (.ref f32)=true) (k32:W.keepIn K (.ref f32)=true)
 (gv32:W.specialIn K (.ref f32) "__get__"=some (some (.builtin "function.__get__"))) (tv32:W.takesIn K (.ref f32)=some false)
 (F33:Gm K Z0 "asked" "Ranked.asked" Z1u)
 (F34:Gm K Z0 "choice" "Ranked.choice" Z1g)
 (F35:Gm K Z0 "gone" "Rule.gone" Z2f)
 (F36:Gm K Z0 "came" "Rule.came" Z2g)
 (F37:Gm K Z1 "number_ask" "Ranked.number_ask" Z0j)
 (a38:W.findIn K (.ref Z1) "rank"=some (some (.ref f38))) (l38:K.lookup f38=some ⟨oc38,od38,.func (W.fnOf "rank" "First.rank" (Bk Z09) (Be Z09) (A6 Z09) .none kV38 dc38 pm38 an38 cd38 ct38),sl38⟩) (c38:W.codeIn K cd38 "First.rank"=true) (n38:W.isFn K (.ref f38)=true) (k38:W.keepIn K (.ref f38)=true)
 (gv38:W.specialIn K (.ref f38) "__get__"=some (some (.builtin "function.__get__"))) (tv38:W.takesIn K (.ref f38)=some false)
 (F39:Gm K Z1 "asked" "Ranked.asked" Z2h)
 (F40:Gm K Z1 "choice" "Ranked.choice" Z1v)
 (F41:Gm K Z1 "gone" "Rule.gone" Z2z)
 (F42:Gm K Z1 "came" "First.came" Z30)
 (F43:Gf K "make_first" Z31)
 (F44:Gf K "make_oldest" Z2i)
 (F45:Gf K "maker_of" Z3t)
 (F46:Gf K "make_room" Z3k)
 (F47:Gf K "row_of" Z4h)
 (F48:Gf K "book_of" Z4a)
 (F49:Gf K "read_name" Z3l)
 (F50:Gf K "read_word" Z3m)
 (F51:Gf K "kinds_of" Z3u)
 (F52:Gf K "read_line" Z3n)
 (F53:Gi K Z4 "Desk.__init__" Z3o)
 (F54:Gf K "words_or_none" Z1h)
 (F55:Gf K "show_row" Z3v)
 (F56:Gf K "show_paid" Z3p)
 (F57:Gf K "answer_again" Z1w)
 (F58:Gf K "answer_thing" Z1x)
 (F59:Gf K "answer_ask" Z32)
 (F60:Gf K "book_by" Z4b)
 (F61:Gf K "answer_book" Z2j)
 (F62:Gf K "answer_run" Z33)
 (F63:Gm K Z4 "say" "Desk.say" Z3w)
 (F64:Gf K "_law_cell_at" Z3q)
 (F65:Gf K "_law_mix" Z50)
 (F66:Gf K "_law_names" Z4c)
 (F67:Gf K "_law_cost" Z4i)
 (F68:Gf K "_law_told" Z4j)
 (a69:Gc K "law" f69) (l69:K.lookup f69=some ⟨oc69,od69,.func (W.fnOf "law" "law" (Bk Z2l) (Be Z2l) (A6 Z2l) .none kV69 dc69 pm69 an69 cd69 ct69),sl69⟩) (c69:W.codeIn K cd69 "law"=true) (k69:W.keepIn K (.ref f69)=true)
 (Zt:W.nsIn K mainGlobals "len"=some none)
 (Z08:W.nsIn K mainGlobals "isinstance"=some none)
 (Z4o:W.nsIn K mainGlobals "int"=some none)
 (Z6b:W.nsIn K mainGlobals "bool"=some none)
 (Z2k:W.nsIn K mainGlobals "str"=some none)
 (Z46:W.nsIn K mainGlobals "list"=some none)
 (Z76:W.nsIn K mainGlobals "all"=some none)
 (Z2q:W.nsIn K mainGlobals "range"=some none)
 (Z3d:W.nsIn K mainGlobals "enumerate"=some none)
 (Z64:W.nsIn K mainGlobals "zip"=some none)
 (Z4p:W.nsIn K mainGlobals "sum"=some none)
 (Z65:W.nsIn K mainGlobals "min"=some none)
 (Z4z:W.nsIn K mainGlobals "tuple"=some none)
 (Z7z:W.nsIn K mainGlobals "abs"=some none)
 (Z77:W.nsIn K mainGlobals "max"=some none)
 {Z7g:Tok} (Z38:W.nsIn K mainGlobals "LETTERS"=some (some (.str "abcdefghijklmnopqrstuvwxyz" Z7g)))
 {Z7h:Tok} (Z39:W.nsIn K mainGlobals "FIGURES"=some (some (.str "0123456789" Z7h)))
 {Z63:Tok} (Z2t:W.nsIn K mainGlobals "MOST_SIGNS"=some (some (.int 8 Z63)))
 {Z5i:Tok} (Z27:W.nsIn K mainGlobals "MOST_THINGS"=some (some (.int 60 Z5i)))
 {Z6u:Tok} (Z3e:W.nsIn K mainGlobals "MOST_ROOM"=some (some (.int 1000 Z6u)))
 {Z5j:Tok} (Z0y:W.nsIn K mainGlobals "MOST_PLACES"=some (some (.int 1000000 Z5j)))
 {Z6v:Tok} (Z3f:W.nsIn K mainGlobals "MOST_ASKS"=some (some (.int 200 Z6v)))
 {Z4v:Tok} (Z1s:W.nsIn K mainGlobals "MOST_FIGURES"=some (some (.int 31 Z4v)))
 (Zc:Gn K Z2 "things")
 (Z00:Gn K Z3 "stock")
 (Z0o:Gn K Z3 "places")
 (Zp:Gn K Z3 "rooms")
 (Z45:Gn K Zl "stock")
 (Z42:Gn K Zl "places")
 (Z3r:Gn K Z8 "stock")
 (Z37:Gn K Z8 "places")
 (Z2r:Gn K Z8 "present")
 (Z43:Gn K Z8 "last")
 (Z0p:Gn K Z0 "stock")
 (Z0f:Gn K Z0 "places")
 (Zv:Gn K Z0 "present")
 (Z0b:Gn K Z0 "last")
 (Z0x:Gn K Z1 "stock")
 (Z0q:Gn K Z1 "places")
 (Zr:Gn K Z1 "present")
 (Z1d:Gn K Z1 "last")
 (Z07:Gn K Z1 "put_at")
 (Zn:Gn K Z4 "stock")
 (Zq:Gn K Z4 "asks")
 (Z2s:Gn K Z4 "tower")
 {Z5k:Array DictEntry} {Z7s:Nat} (Z5l:K.lookup Zo=some ⟨.type "dict",none,.dict Z5k Z7s,#[]⟩) (Z5m:W.KeysLit w.params Z5k.toList) (Z5n:(Zo==sysModules)=false)
 (wT0_MAKERS:W.nsIn K Zo "first"=some (some (.ref xmake_first)))
 (wT1_MAKERS:W.nsIn K Zo "oldest"=some (some (.ref xmake_oldest)))
 {Z6w:Array DictEntry} {Z7y:Nat} (Z34:K.lookup Zm=some ⟨.type "dict",none,.dict Z6w Z7y,#[]⟩) (Z35:W.KeysLit w.params Z6w.toList) (Z36:(Zm==sysModules)=false)
 (wT0_FORMS:W.nsIn K Zm "thing"=some (some (.ref xF_thing)))
 (wT1_FORMS:W.nsIn K Zm "ask"=some (some (.ref xF_ask)))
 (wT2_FORMS:W.nsIn K Zm "again"=some (some (.ref xF_again)))
 (wT3_FORMS:W.nsIn K Zm "run"=some (some (.ref xF_run)))
 (wT4_FORMS:W.nsIn K Zm "book"=some (some (.ref xF_book)))
 {Z4w:Array DictEntry} {Z7i:Nat} (Z1p:K.lookup Ze=some ⟨.type "dict",none,.dict Z4w Z7i,#[]⟩) (Z1q:W.KeysLit w.params Z4w.toList) (Z1r:(Ze==sysModules)=false)
 (wT0_ANSWERS:W.nsIn K Ze "thing"=some (some (.ref xanswer_thing)))
 (wT1_ANSWERS:W.nsIn K Ze "ask"=some (some (.ref xanswer_ask)))
 (wT2_ANSWERS:W.nsIn K Ze "again"=some (some (.ref xanswer_again)))
 (wT3_ANSWERS:W.nsIn K Ze "run"=some (some (.ref xanswer_run)))
 (wT4_ANSWERS:W.nsIn K Ze "book"=some (some (.ref xanswer_book)))
 {tk0_F_thing tk1_F_thing tk2_F_thing:Tok} {dU_F_thing:Option Addr} {nU_F_thing:Nat} {sU_F_thing:Array (Option Value)} (lU_F_thing:K.lookup xF_thing=some ⟨.type "tuple",dU_F_thing,.seq #[.str "NAME" tk0_F_thing,.str "COST" tk1_F_thing,.str "ROOM" tk2_F_thing] nU_F_thing,sU_F_thing⟩)
 {tk0_F_ask tk1_F_ask:Tok} {dU_F_ask:Option Addr} {nU_F_ask:Nat} {sU_F_ask:Array (Option Value)} (lU_F_ask:K.lookup xF_ask=some ⟨.type "tuple",dU_F_ask,.seq #[.str "NAME" tk0_F_ask,.str ".." tk1_F_ask] nU_F_ask,sU_F_ask⟩)
 {dU_F_again:Option Addr} {nU_F_again:Nat} {sU_F_again:Array (Option Value)} (lU_F_again:K.lookup xF_again=some ⟨.type "tuple",dU_F_again,.seq #[] nU_F_again,sU_F_again⟩)
 {tk0_F_run tk1_F_run:Tok} {dU_F_run:Option Addr} {nU_F_run:Nat} {sU_F_run:Array (Option Value)} (lU_F_run:K.lookup xF_run=some ⟨.type "tuple",dU_F_run,.seq #[.str "RULE" tk0_F_run,.str "PLACES" tk1_F_run] nU_F_run,sU_F_run⟩)
 {tk0_F_book tk1_F_book:Tok} {dU_F_book:Option Addr} {nU_F_book:Nat} {sU_F_book:Array (Option Value)} (lU_F_book:K.lookup xF_book=some ⟨.type "tuple",dU_F_book,.seq #[.str "RULE" tk0_F_book,.str "PLACES" tk1_F_book] nU_F_book,sU_F_book⟩)
 :(∀tp∈([559,566]:List Addr),∃c,W.codeHdIn K c tp=true)∧∃fd:FuncData,(∀(s:Shared) (v:Value),BindsTo s fd ⟨[v],[]⟩ [("_law_script",v)])∧∀base:Heap,K.In base→base.Ns mainGlobals mg→(∀tp∈([559,566]:List Addr),base.BuiltinsAt mg tp)→Al l.prog w K mg base CX0 14 fa fd ["_law_script"] (Gq 559 566 K):=by
 have e:=hfa.symm.trans (W.mg_of X G a69);cases e
 have T:Txt K mg xF_thing xF_ask xF_again xF_run xF_book Z2 Z3 Zl Z8 Z0 Z1 Z4 xanswer_thing xanswer_ask xanswer_again xanswer_run xanswer_book xmake_first xmake_oldest Zo Zm Ze:=⟨W.mg_of X G Z73,Z80,Zc,W.mg_of X G Z74,Z81,Z00,Z0o,Zp,W.mg_of X G Z7p,Z85,Z45,Z42,W.mg_of X G Z6p,Z7v,Z3r,Z37,Z2r,Z43,W.mg_of X G Z6q,Z7w,Z0p,Z0f,Zv,Z0b,W.mg_of X G Z75,Z82,Z0x,Z0q,Zr,Z1d,Z07,W.mg_of X G Z7q,Z86,Zn,Zq,Z2s,W.mg_of X G Z5g,W.mg_of X G Z6r,W.mg_of X G Z5h,W.mg_of X G Z6s,W.mg_of X G Z61,W.mg_of X G Z6t,W.mg_of X G Z62,W.mg_of X G Z7x,W.mg_of X G Z83,W.mg_of X G Z7r,W.mg_none_of X G Zt,W.mg_none_of X G Z08,W.mg_none_of X G Z4o,W.mg_none_of X G Z6b,W.mg_none_of X G Z2k,W.mg_none_of X G Z46,W.mg_none_of X G Z76,W.mg_none_of X G Z2q,W.mg_none_of X G Z3d,W.mg_none_of X G Z64,W.mg_none_of X G Z4p,W.mg_none_of X G Z65,W.mg_none_of X G Z4z,W.mg_none_of X G Z7z,W.mg_none_of X G Z77,⟨_,W.mg_of X G Z38⟩,⟨_,W.mg_of X G Z39⟩,⟨_,W.mg_of X G Z2t⟩,⟨_,W.mg_of X G Z27⟩,⟨_,W.mg_of X G Z3e⟩,⟨_,W.mg_of X G Z0y⟩,⟨_,W.mg_of X G Z3f⟩,⟨_,W.mg_of X G Z1s⟩⟩
 have F24:=E4 (st:=Z04) l24 c24 k24;have F25:=E4 (st:=Z0i) l25 c25 k25;have F26:=E4 (st:=Z0c) l26 c26 kf26;have F27:=E4 (st:=Z01) l27 c27 kf27;have F32:=E4 (st:=Z02) l32 c32 k32;have F38:=E4 (st:=Z09) l38 c38 k38;have F69:=E4 (st:=Z2l) l69 c69 k69;refine ⟨L2.allc ⟨_,mh24⟩ (L2.allc ⟨_,mh25⟩ (L2.alln)),W.fnOf "law" "law" (Bk Z2l) (Be Z2l) (A6 Z2l) .none kV69 dc69 pm69 an69 cd69 ct69,fun s v=> .of_eq rfl,fun base _ _ HB=>?_⟩
 have B:Bs l.prog w K mg base:=⟨h,X,G⟩
 have Z2m:=F0.d B (Z6x T);have Zu:=F1.d B (Z6c T Z2m);have Zd:=F2.d B (Z4q T Zu);have Z0k:=F3.d B (Z78 T);have Z0l:=F4.d B (Z79 T Z0k);have Z0z:=F5.d B (Z51 T Zu Z0l);have Zw:=F6.i B Z73 (Z5q T Z0z);have Z1z:=F7.m B (Z6d T);have Zj:=F8.m B (Z4e T);have Z5:=F9.m B (Z4k T Zj);have Zf:=F10.m B (Z4l T Zj);have Zg:=F11.d B (Z5r T Zd Z1z Z5);have Zx:=F12.i B Z74 (Z5s T Zd);have Zs:=F13.m B (Z52 T);have Z6:=F14.m B (Z53 T);have Z9:=F15.m B (Z4d T);have Z05:=F16.m B (Z6e T Z5 Z6 Z9);have Zy:=F17.m B (Z5t T Z6);have Z10:=F18.m B (Z54 T);have Z20:=F19.d B (Z6f T Z6 Zy);have Z3x:=F20.d B (Z7l T Z5 Z6 Z9 Z05 Z20);have Z11:=F21.d B (Z55 T Zg Zx Zs Z3x);have Z12:=F22.d B (Z56 T Z0k);have Z0m:=F23.d B (Z7a T)
 have Z21:Def l.prog w K mg base CX0 6 "missed_by" ["book"] (Dm 559 (⟨247,25,247,39⟩:Pos) (("missed_by"++".<locals>.")++"<lambda>")):=⟨⟨f24,_,Z6g T Z0m F24 ⟨_,_,_,_,_,l24,mc24,mh24⟩ (HB 559 (by simp)),W.mg_of X G a24,k24,F24.e1 fun _ _ _ _ _ _ _=>rfl⟩⟩
 have Z3a:Def l.prog w K mg base CX0 6 "paid_by" ["stock","book"] (Gk 566 (⟨249,25,249,57⟩:Pos) (("paid_by"++".<locals>.")++"<lambda>") K Z2):=⟨⟨f25,_,Z7b T Zf Z0m F25 ⟨_,_,_,_,_,l25,mc25,mh25⟩ (HB 566 (by simp)),W.mg_of X G a25,k25,F25.e2 fun _ _ _ _ _ _ _ _=>rfl⟩⟩
 have Z06:J2s l.prog w K mg base CX0 4 "Rule" Zl ["self","stock","places"] (Dk K):=⟨⟨f26,_,Z6h T Zd F26,⟨m26,a26,n26,k26⟩,W.mg_of X G Z7p,F26.e3 fun _ _ _ _ _ _ _ _ _=>rfl,fc26,kf26⟩,sc26,rc26⟩
 have Z13:J2s l.prog w K mg base CX0 5 "Ranked" Z8 ["self","stock","places"] (Ce K):=⟨⟨f27,_,Z57 T Z06 F27,⟨m27,a27,n27,k27⟩,W.mg_of X G Z6p,F27.e3 fun _ _ _ _ _ _ _ _ _=>rfl,fc27,kf27⟩,sc27,rc27⟩
 have Z14:=F28.i B Z6q (Z58 T Z06);have Z1i:=F29.i B Z75 (Z5u T Z13);have Zz:=F30.m B (Z3y T);have Z0a:=F31.m B (Z4f T)
 have Z15:J37 l.prog w K mg base 2 Z0 "rank" ["self","name"] (Ed Z0):=⟨⟨f32,_,Z59 T Z0a F32,⟨a32,n32,k32⟩,F32.e2 fun _ _ _ _ _ _ _ _=>rfl,gv32,tv32⟩⟩
 have Z0r:=F33.m B (Z4r T Zz);have Z0g:=F34.m B (Z4m T Z15);have Z16:=F35.m B (Z5a T);have Z17:=F36.m B (Z5b T);have Z03:=F37.m B (Z44 T)
 have Z1j:J37 l.prog w K mg base 1 Z1 "rank" ["self","name"] (Ec Z1):=⟨⟨f38,_,Z5v T F38,⟨a38,n38,k38⟩,F38.e2 fun _ _ _ _ _ _ _ _=>rfl,gv38,tv38⟩⟩
 have Z18:=F39.m B (Z5c T Z03);have Z0s:=F40.m B (Z4s T Z1j);have Z1k:=F41.m B (Z5w T);have Z1l:=F42.m B (Z5x T);have Z1m:=F43.d B (Z5y T Z1i);have Z19:=F44.d B (Z5d T Z14)
 have Z66:∀b,Nh w.params K Zo (rl b) (some (.ref (C2.d (C2.mk xmake_oldest xmake_first) b))):=fun b=>match b with | false=>Dy Z5n Z5l Z5m wT0_MAKERS ⟨_,rfl,rfl⟩ | true=>Dy Z5n Z5l Z5m wT1_MAKERS ⟨_,rfl,rfl⟩
 have Z2n:=F45.d B (fun F_=>Z6y T F_ Z66);have Z22:=F46.d B (Z6i T Zs Z9 Zy Z0g Z16 Z0s Z1k);have Z3z:=F47.d B (Z7m T Z5 Z6 Z05 Z0r Z17 Z18 Z1l Z22);have Z3b:=F48.d B (Z7c T Zg Zx Z3z);have Z23:=F49.d B (Z6j T Z0l);have Z24:=F50.d B (Z6k T Z12 Z2n Z23);have Z2o:=F51.d B (Z6z T)
 have Z5e:∀b,Pu w.params K Zm b:=fun b=>match b with | .thing=>Gp Z36 Z34 Z35 wT0_FORMS lU_F_thing (.cons ⟨_,rfl⟩ (.cons ⟨_,rfl⟩ (.cons ⟨_,rfl⟩ .nil))) | .ask=>Gp Z36 Z34 Z35 wT1_FORMS lU_F_ask (.cons ⟨_,rfl⟩ (.cons ⟨_,rfl⟩ .nil)) | .again=>Gp Z36 Z34 Z35 wT2_FORMS lU_F_again .nil | .run=>Gp Z36 Z34 Z35 wT3_FORMS lU_F_run (.cons ⟨_,rfl⟩ (.cons ⟨_,rfl⟩ .nil)) | .book=>Gp Z36 Z34 Z35 wT4_FORMS lU_F_book (.cons ⟨_,rfl⟩ (.cons ⟨_,rfl⟩ .nil))
 have Z25:=F52.d B (fun F_=>Z6l T Z24 Z2o F_ Z5e);have Z0w:=F53.i B Z7q (Z6m T Zw);have Z0h:=F54.d B (Z4n T);have Z2p:=F55.d B (Z70 T);have Z26:=F56.d B (Z6n T);have Z0t:=F57.d B (Z4t T);have Z0u:=F58.d B (Z4u T Zw Z5 Zf Z10);have Z1n:=F59.d B (Z5z T Zg);have Z0n:=F60.d B (Z7d T Z1m Z19 Z3b);have Z1a:=F61.d B (Z5f T Z0h Z2p Z0n);have Z1o:=F62.d B (Z60 T Z11 Z21 Z3a Z26 Z0n)
 have Z7e:∀b,Nh w.params K Ze (wd1 b) (some (.ref ((fun w:W81=>match w with | .thing=>xanswer_thing | .ask=>xanswer_ask | .again=>xanswer_again | .run=>xanswer_run | .book=>xanswer_book) b))):=fun b=>match b with | .thing=>Dy Z1r Z1p Z1q wT0_ANSWERS ⟨_,rfl,rfl⟩ | .ask=>Dy Z1r Z1p Z1q wT1_ANSWERS ⟨_,rfl,rfl⟩ | .again=>Dy Z1r Z1p Z1q wT2_ANSWERS ⟨_,rfl,rfl⟩ | .run=>Dy Z1r Z1p Z1q wT3_ANSWERS ⟨_,rfl,rfl⟩ | .book=>Dy Z1r Z1p Z1q wT4_ANSWERS ⟨_,rfl,rfl⟩
 have Zh:=F63.m B (fun F_=>Z71 T Z25 Z0t Z0u Z1n Z1a Z1o F_ Z7e);have Z0d:=F64.d B (Z6o T);have Z1y:=F65.d B (Z7u T);have Z3c:=F66.d B (Z7f T);have Z40:=F67.d B (Z7n T Z1y);have Z41:=F68.d B (Z7o T Zh);exact Z84 T Z0w Zh Z0d Z1y Z3c Z40 Z41 F69
end K81
open PySem PySem.W PyProof.Rows
set_option maxRecDepth 100000 in
set_option maxHeartbeats 0 in
theorem PySem.Challenge.cw_castoff_k81_things_and_asks_holds : PySem.Challenge.rw_castoff_k81_things_and_asks.Holds := by
 refine hd81 ?_
 k_fill
 refine L2.Uh (l:=PySem.Challenge.rw_castoff_k81_things_and_asks) (n:=63) (k:=14) (x:="_law_script") (CX:=L2.CX0) (sp:=N81.Gq 559 566) (tps:=[559,566]) rfl (by decide) rfl ⟨rfl,by decide,by decide⟩ (fun w h Y=>Hk.inT_of Y) (fun w h Y=>L2.allc (Hk.tabs_of Y _ (by simp)) (L2.allc (Hk.tabs_of Y _ (by simp)) (L2.alln))) (fun w=>L2.allc (by kernel_rfl) (L2.allc (by kernel_rfl) (L2.alln))) ?F ?S ?C
 case F=>
  intro w mg fa h KX G hmg;refine' K81.J8x KX G hmg ..
  any_goals first | k_is | (refine' ⟨_,_,?j,L2.E4 ?l ?c ?k⟩;(case j=>k_is);case l|c|k=>k_is) | (refine' ⟨_,_,⟨?j,?m,?n⟩,L2.E4 ?l ?c ?k⟩;(case j|m|n=>k_is);case l|c|k=>k_is) | (refine' ⟨_,_,⟨?i,?j,?m,?n⟩,L2.E4 ?l ?c ?k⟩;(case i|j|m|n=>k_is);case l|c|k=>k_is) | (refine' ⟨?i,?j,?m,?n⟩;case i|j|m|n=>k_is) | rfl | kernel_rfl | exact ⟨⟨_,_,rfl,rfl⟩,⟨_,_,rfl,rfl⟩,⟨_,_,rfl,rfl⟩,⟨_,_,rfl,rfl⟩,⟨_,_,rfl,rfl⟩,⟨_,_,rfl,rfl⟩,⟨_,_,rfl,rfl⟩,trivial⟩ | fail | exact ⟨⟨_,_,rfl,rfl⟩,⟨_,_,rfl,rfl⟩,⟨_,_,rfl,rfl⟩,⟨_,_,rfl,rfl⟩,⟨_,_,rfl,rfl⟩,⟨_,_,rfl,rfl⟩,⟨_,_,rfl,rfl⟩,⟨_,_,rfl,rfl⟩,⟨_,_,rfl,rfl⟩,⟨_,_,rfl,rfl⟩,⟨_,_,rfl,rfl⟩,⟨_,_,rfl,rfl⟩,⟨_,_,rfl,rfl⟩,⟨_,_,rfl,rfl⟩,⟨_,_,rfl,rfl⟩,⟨_,_,rfl,rfl⟩,⟨_,_,rfl,rfl⟩,⟨_,_,rfl,rfl⟩,⟨_,_,rfl,rfl⟩,⟨_,_,rfl,rfl⟩,⟨_,_,rfl,rfl⟩,trivial⟩ | fail
 case S=>exact fun K H a ns hl hO hS=>⟨a,ns,rfl,hS,hl,hO.1 _ (by simp),hO.1 _ (by simp),fun _=>rfl⟩
 case C=>exact fun H s e s' z=>z
