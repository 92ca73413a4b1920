import PyProof.Rows.All
import KE.KSuperObj
import KE.KPairComp
import KE.KItemsList
import KE.KUnpack
import KE.KEqDict
import KE.KFromBytes
import KE.KMinKey
import KE.KIntText
import KE.KRevIter
import KE.KDictOf
import KE.KTryMore
import KE.KBoundM
import KE.KNestM
import KE.KLam
import PySem.Challenge.RW_castoff_k85_tower_lines
set_option linter.all false
set_option compiler.extract_closed false
set_option genSizeOf false
set_option Elab.async false
set_option maxRecDepth 100000
set_option maxHeartbeats 4000000
namespace PySem.W.Fast
def tw14221877613565113641:=0
def tw1932984104235398583:=0
def tw16278320047277443332:=0
def tw17928048248462058388:=0
def tw3528379685054385743:=0
def tw406910032736540481:=0
def tw513545379039010228:=0
def tw1914962861413637840:=0
def tw6793205064211281046:=0
def tw9228037180364779152:=0
def tw13204010130365490404:=0
def tw9534617367155177985:=0
def tw6929579007473976574:=0
def tw12220062435379996066:=0
def tw6712635939360538599:=0
def tw14933624981915524420:=0
def tw9747701368026954425:=0
def tw7229785603801108880:=0
def tw15394220121506348477:=0
def tw9255447994080402054:=0
def tw17993574196603763411:=0
def tw10260161251056174456:=0
def tw4055295231951732228:=0
def tw1125556358805011560:=0
def tw17600732930966597386:=0
def tw11151525495129089638:=0
def tw11820468401072890997:=0
def tw3399583454434157614:=0
def tw13882408797454499035:=0
def tw15178286555806456376:=0
def tw10016396987575192419:=0
def tw2584949873481362418:=0
def tw2081184480117960988:=0
def tw7034272282924770338:=0
def tw3134945101514472356:=0
def tw11605654144925171320:=0
def tw13966311037593589948:=0
def tw14001303297765974712:=0
def tw17596653296790470234:=0
def tw13987982915923541318:=0
def tw11503685828341566909:=0
def tw8822145387719556529:=0
def tw16642079266598149859:=0
def tw14878735643867000462:=0
def tw3251494676527657371:=0
def tw16624075984375621433:=0
def tw14402572068922230482:=0
def tw11117524368545195033:=0
def tw2086125876869195317:=0
def tw8908810299853901321:=0
def tw6567254313307259433:=0
def tw6906798336639068003:=0
def tw17667300296606956116:=0
def tw3050541280330389065:=0
def tw1924301910019214572:=0
def tw9397178790947204225:=0
def tw3436531984099126404:=0
def tw13496488921737359425:=0
def tw5883797456189358445:=0
def tw8524177292736123527:=0
def tw16987788886665114064:=0
def tw11980216426992560857:=0
def tw713438974998362337:=0
def tw13008062448624793100:=0
def tw4440118127542354130:=0
def tw3907368338591109132:=0
def tw17907058210765560864:=0
def tw14891410938337609487:=0
def tw13684116888950156945:=0
def tw7047963027103949994:=0
def tw8039212911474804180:=0
def tw2799914679275634018:=0
def tw3917859197401809777:=0
def tw4065306763127938089:=0
def tw17141415684735206524:=0
def tw16100619825919151879:=0
def tw13355174535420842493:=0
def tw4377362168442857398:=0
def tw8518878302215045082:=0
def tw3188590249116637899:=0
def tw8853557279591870601:=0
def tw6014866073561780299:=0
def tw6317217804054328389:=0
def tw13288596761999429283:=0
def tw9768566431964104742:=0
def tw16042746420896752998:=0
def tw14432174443545372706:=0
def tw4769808379726620533:=0
def tw3334809331895608264:=0
def tw3032878282457773781:=0
def tw7501953582160321598:=0
def tw9037141328810746724:=0
def tw3254702168019232978:=0
def tw14090883005284197066:=0
def tw13978091060201354674:=0
def tw18157475895562843263:=0
def tw4893392804994230490:=0
def tw1847542172039932400:=0
def tw12124335675444815279:=0
def tw13375467950257476575:=0
def tw16921257812216901171:=0
def tw12205650042748859383:=0
def tw15543921645301162907:=0
def tw8771340447134393218:=0
def tw17926317381212419089:=0
def tw12728867416461489512:=0
def tw5134678446892899474:=0
def tw6807594229925032727:=0
def tw16008303827792000680:=0
def tw7522209395072756005:=0
def tw12279344860151074770:=0
def tw8398054527856232093:=0
def tw11396807996215037146:=0
def tw3804215231666017286:=0
def tw12228749845670234412:=0
def tw2129160871615597456:=0
def tw9665819760710068674:=0
def tw9643327338708364913:=0
def tw14387275981629657345:=0
def tw14043844072859912780:=0
def tw16268607558480932769:=0
def tw4639953240261508509:=0
def tw6380546294162335846:=0
def tw1476350281039146252:=0
def tw4542039427592147926:=0
def tw10231871662380469301:=0
def tw17633892969101494369:=0
def tw8975650637185931861:=0
def tw4527306037329226109:=0
def tw16350160866128708036:=0
def tw2626059684557123183:=0
def tw38727578166921219:=0
def tw18189033016077945986:=0
def tw3627040234540000312:=0
def tw4384632593494229118:=0
def tw11878149843235989164:=0
def tw2711660207890405667:=0
def tw12481730104209132037:=0
def tw4265742081583258748:=0
def tw12460458730326583703:=0
def tw3035436980569792912:=0
def tw2066277868767536057:=0
def tw14011147135122420184:=0
def tw15194061055306186953:=0
def tw9200317002899904317:=0
def tw2464103958762613956:=0
def tw10628871273512273976:=0
def tw13649442361751117029:=0
def tw1315915358921398904:=0
def tw13032338859941962813:=0
def tw15703128885157055964:=0
def tw9489501080034783712:=0
def tw1049686455619826387:=0
def tw3953375363698038217:=0
def tw3927604437312497778:=0
def tw7135878134500297191:=0
def tw10333778239673390127:=0
def tw298841056852507612:=0
def tw10624112580430922696:=0
def tw5251931050522661176:=0
def tw6730255571849814548:=0
def tw14654533247722586752:=0
def tw2007682142575109854:=0
def tw10414583982221313922:=0
def tw5025817601665247753:=0
def tw12505913726461718777:=0
def tw11320356689312452159:=0
def tw10205196093943231056:=0
def tw7988808876488777730:=0
def tw8387168133478524908:=0
def tw78892255218232730:=0
def tw6193235746357257941:=0
def tw16599094223448924425:=0
def tw17483423744981900522:=0
def tw5385865841819605307:=0
def tw14912537650403435563:=0
def tw4684462263652702823:=0
def tw7179570049509708662:=0
def tw6008106884480206500:=0
def tw112756457469705548:=0
def tw7320409168227383916:=0
def tw12524361017770517686:=0
def tw1887136757093994644:=0
def tw16816635988687536465:=0
def tw5245045558773249478:=0
def tw6971487653251858186:=0
def tw10747673958101279693:=0
def tw17886537894761940185:=0
def tw11972378979763507528:=0
def tw9670675863841032874:=0
def tw4109471348064787130:=0
def tw16872413340708339026:=0
def tw11355494662002707658:=0
def tw3697134974332146559:=0
def tw12064187857172985295:=0
def tw4184157203677015748:=0
def tw9055656585377919071:=0
def tw15411261884687818638:=0
def tw1740327363341136627:=0
def tw18286722721997669955:=0
def tw13593566528178086340:=0
def tw17318108272423573410:=0
def tw5883804051262771894:=0
def tw15206032470259816492:=0
def tw157030315868565243:=0
def tw2030419466646362830:=0
def tw9030833315414409064:=0
def tw5666241227639072164:=0
def tw16644345903679492076:=0
def tw18100356375658750809:=0
def tw17780509015987267516:=0
def tw8162601558257452010:=0
def tw4689670639028893131:=0
def tw17369908044403672095:=0
def tw14708218973153764532:=0
def tw13366781781446269962:=0
def tw1507232756689469239:=0
def tw14505226438193680675:=0
def tw1162080925719201511:=0
def tw6846344536692266205:=0
def tw12223325193771443642:=0
def tw9289165440510766497:=0
def tw11475504222176349877:=0
def tw2214917432877618981:=0
def tw10374788730317097187:=0
def tw11261544948877192274:=0
def tw2228561696964340730:=0
def tw1166591947010351070:=0
def tw3074613266260410899:=0
def tw1119479483144018708:=0
def tw18401044905130890948:=0
def tw2999484761924034943:=0
def tw1335225107298310251:=0
def tw9105757088688163371:=0
def tw7274909249905311714:=0
def tw14474740752990600641:=0
def tw4911060444887484547:=0
def tw10928749002824660483:=0
def tw17817948881424236127:=0
def tw1534724496673079127:=0
def tw17081637766559620108:=0
def tw2813344288796716551:=0
def tw1676280232398414007:=0
def tw9925208957423105767:=0
def tw1478607365832800996:=0
def tw13648068328742321582:=0
def tw11420223540869133603:=0
def tw15086167910699277952:=0
def tw4832644971190062554:=0
def tw10152547928448852848:=0
def tw2728591428492843990:=0
def tw16199030633882299840:=0
def tw749998860297386716:=0
def tw1258452573682599262:=0
def tw14009998946889739722:=0
def tw15232523823363668574:=0
def tw13390705086808829045:=0
def tw213772795337061691:=0
def tw17156129833980448141:=0
def tw15067664659818234604:=0
def tw11399671692973532380:=0
def tw15233422031656080311:=0
def tw9246563179729286242:=0
def tw12999088736863372381:=0
def tw3000890311939086417:=0
def tw16511804826870451853:=0
def tw2207973783773428036:=0
def tw9164935446729409180:=0
def tw7538688605828121955:=0
def tw7241562333091774404:=0
def tw14911820805604946777:=0
def tw2545306239754777539:=0
def tw3438817794660363945:=0
def tw8479481004282456285:=0
def tw16594731006000154782:=0
def tw15809060892747482177:=0
def tw15734089009634003925:=0
def tw11061132405236960626:=0
def tw14348135067650518805:=0
def tw441929226930174845:=0
def tw13238139186071489656:=0
def tw8960608458529044160:=0
def tw5053280962562935288:=0
def tw7582451464805606331:=0
def tw12068128895804610905:=0
def tw4308056903401080521:=0
def tw5689501404442240671:=0
def tw15348083639585111504:=0
def tw10957504569864796906:=0
def tw5446107124632523541:=0
def tw10451381737971042374:=0
def tw14720260145394638587:=0
def tw2155586654425598276:=0
def tw1727632337684513925:=0
def tw6305602514576202781:=0
def tw12440203628621312956:=0
def tw5406034975182797296:=0
def tw10033516571632114184:=0
def tw17492717484135821007:=0
def tw16705898984673700033:=0
def tw17085987234796761803:=0
def tw17550014544915379666:=0
def tw16396398142226280305:=0
def tw14626483841903922317:=0
def tw7600874487782791728:=0
def tw8910145186999965116:=0
def tw15009671972364455142:=0
def tw6485951294532745556:=0
def tw13435072040481142226:=0
def tw7409359069719481919:=0
def tw16485018356865045264:=0
def tw9542699690520313366:=0
def tw3694465223379429311:=0
def tw8225205006959018045:=0
def tw16686662209429961037:=0
def tw5765556855038102883:=0
def tw3714905861801595062:=0
def tw16854069129995717197:=0
def tw11252328878640604792:=0
def tw16059818197034940845:=0
def tw1378236547291322970:=0
def tw6893936562428905168:=0
def tw2319372787381694583:=0
def tw8166284455442969625:=0
def tw11248097370356926431:=0
def tw2602430131690111375:=0
def tw5540301832910874707:=0
def tw15101437589741919772:=0
def tw2813832892215350250:=0
def tw13473955892844548502:=0
def tw5215314346845076969:=0
def tw10614033222933836146:=0
def tw10111311527500844912:=0
def tw16806132903045930772:=0
def tw12771264274464965302:=0
def tw16592418489098664764:=0
def tw4610776556839366567:=0
def tw8622356406699897019:=0
def tw2176704170311266660:=0
def tw8440219907531302927:=0
def tw13162691243633998403:=0
def tw6677535257446311385:=0
def tw2081416687189029426:=0
def tw14702626025542105915:=0
def tw8966548234680908144:=0
def tw5853988920439664464:=0
def tw15874268018718688232:=0
def tw14107759827335249643:=0
def tw17541288200316970295:=0
def tw13150342654871818135:=0
def tw17696051063264212679:=0
def tw17195559943557772586:=0
def tw365397480407647982:=0
def tw13941943071880541125:=0
def tw16652713050121550819:=0
def tw9943775296536016409:=0
def tw9977221793663606131:=0
def tw1960213167885976244:=0
def tw8514889180523688057:=0
def tw1806132955823678973:=0
def tw762898325660294564:=0
def tw1731828244950462275:=0
def tw419932216230990086:=0
def tw17141651821368476498:=0
def tw14107891112710455628:=0
def tw4186508842613589015:=0
def tw9674847792907836379:=0
def tw12722504249658778398:=0
def tw14167511883030056915:=0
def tw11339195147491056967:=0
def tw17434470860405528459:=0
def tw3974589161707394187:=0
def tw356814713394187840:=0
def tw1866577192044945685:=0
def tw9111771494883642504:=0
def tw2297168275178207889:=0
def tw4293779633059965479:=0
def tw3925152023911072556:=0
def tw1247221010669233326:=0
def tw6225787772100785029:=0
def tw2850964352025816036:=0
def tw2322017880493775667:=0
def tw5561560439065945958:=0
def tw6131083187915735928:=0
def tw4130895520873852068:=0
def tw12640471911306098459:=0
def tw3947375052694506900:=0
def tw12255115652653330756:=0
def tw6355144676137563951:=0
def tw12920529549520832551:=0
def tw12718477932999489449:=0
def tw13174940195138901289:=0
def tw5928775936688490088:=0
def tw16914920418231053722:=0
def tw16724729370871093180:=0
def tw4822870468253268865:=0
def tw1293505650674274912:=0
def tw14507630105437659630:=0
def tw13849866758696580325:=0
def tw10529621429499723177:=0
def tw7670626977322348705:=0
def tw7880615057639880749:=0
def tw8190306627063890093:=0
def tw18425651147728941025:=0
def tw15340466201432178160:=0
def tw11053060527484415334:=0
def tw13526495945404487490:=0
def tw4108087763202458727:=0
def tw2488421460303003232:=0
def tw14700354255826370677:=0
def tw15907090865198369549:=0
def tw10825019508786379291:=0
def tw3374999354722895316:=0
def tw17334637200003087386:=0
def tw5228072609710309305:=0
def tw4809812831146582986:=0
def tw11830017424447569409:=0
def tw12651722995530424223:=0
def tw10545028539861651836:=0
def tw9981708000158231231:=0
def tw3123519515217201383:=0
def tw1529290299632518366:=0
def tw12498264790366790821:=0
def tw15569907313640919856:=0
def tw30272987822855000:=0
def tw6760836186670457685:=0
def tw4382167550266646188:=0
def tw2694483899725759887:=0
def tw17173192100360270186:=0
def tw1515638453455204177:=0
def tw17111766816410138548:=0
def tw15918122565960625149:=0
def tw17154932509224235189:=0
def tw9906978212179047632:=0
def tw8213415390200385181:=0
def tw7945110009621987873:=0
def tw3690496936872725130:=0
def tw14240372394788198481:=0
def tw11372792915876105183:=0
def tw6885151790302479598:=0
def tw8597517783788849923:=0
def tw10459512452797428685:=0
def tw7081537499057483112:=0
def tw10634543507205067391:=0
def tw1632848760453413896:=0
def tw7506464058367941668:=0
def tw16217681276954398585:=0
def tw1650099289442000626:=0
def tw5805072497183652052:=0
def tw10612747730136719066:=0
def tw15001034581542554245:=0
def tw12386268349743034267:=0
def tw15017056839189054105:=0
def tw12575978687452412453:=0
def tw8620660586990106687:=0
def tw8199323653478851114:=0
def tw1833607075662336909:=0
def tw13660830101078409723:=0
def tw18342290089753616725:=0
def tw17200432733492180531:=0
def tw18087480454544562234:=0
def tw332252170721126996:=0
def tw16586234233126625369:=0
def tw14535775948404100325:=0
def tw7394483977065914834:=0
def tw16080398868309075248:=0
def tw10629497982378880945:=0
def tw5389835946780422878:=0
def tw11256692414214622674:=0
def tw6624680414297869061:=0
def tw13636395757169798577:=0
def tw6383366832137912537:=0
def tw10062229125807324515:=0
def tw6014732423020585008:=0
def tw12162037965625587850:=0
def tw15005928547638175591:=0
def tw4229034544614422700:=0
def tw813549744037773043:=0
def tw13454636568680237049:=0
def tw13086376480936280272:=0
def tw4297414975618476453:=0
def tw13915710838019418272:=0
def tw7088606170451773957:=0
def tw5373333313410619955:=0
def tw15144596734624455567:=0
def tw12182886259051132332:=0
def tw2385803382031140166:=0
def tw2702708693764797788:=0
def tw12442380818269681789:=0
def tw18317099640276704007:=0
def tw10987717165276089990:=0
def tw16174347662204423255:=0
def tw7920343654960646634:=0
def tw9578683620688836706:=0
def tw5371721985700210868:=0
def tw15732195295372697963:=0
def tw9373309066178196219:=0
def tw6342307041735958616:=0
def tw12985415760444710186:=0
def tw13888345771642054852:=0
def tw12705318451447478080:=0
def tw18288803762952956523:=0
def tw12737730857730993235:=0
def tw4005555848462129779:=0
def tw474947501408087122:=0
def tw13698499353099146715:=0
def tw16994547292857772517:=0
def tw7799793735511297540:=0
def tw11847765596566872676:=0
def tw10488460173924555048:=0
def tw2272583342336631694:=0
def tw15502930523602439612:=0
def tw4975015752297347608:=0
def tw3704411811995902809:=0
def tw18310101731787277007:=0
def tw15441205463184037923:=0
def tw13241914120917470786:=0
def tw3736935421546135864:=0
def tw547346037656514336:=0
def tw16558489766525670999:=0
def tw4528333248175995532:=0
def tw886690579213489085:=0
def tw15567706485833464973:=0
def tw3666104989971693350:=0
def tw7312438899068406740:=0
def tw16705814004911805956:=0
def tw4561553947900977539:=0
def tw13270064037119026501:=0
def tw10149241700539408951:=0
def tw1843333623554459353:=0
def tw15945859138321309107:=0
def tw2792976583688713108:=0
def tw17064052288450345714:=0
def tw8414952022059085024:=0
def tw178486179209993397:=0
def tw16811754518558765641:=0
def tw16013541600091422283:=0
def tw12693109960094885313:=0
def tw17153784172595887208:=0
def tw12950885709835273762:=0
def tw4023021610799079444:=0
def tw14375521391410526317:=0
def tw1345122536984088291:=0
def tw5817893692196064527:=0
def tw10607670266702623313:=0
def tw12023469354787795292:=0
def tw8829478916537992738:=0
def tw8324056402435023602:=0
def tw4449831821590265699:=0
def tw7708314737866542120:=0
def tw13482631232176185959:=0
def tw11210849357287318478:=0
def tw855792690916543953:=0
def tw8218370847583860022:=0
def tw4322243982351715539:=0
def tw6334928889378381038:=0
def tw5314487589634880084:=0
def tw5070630987637307488:=0
def tw2649303282467614163:=0
def tw11955879193159775744:=0
def tw16295491789112485337:=0
def tw5890547473869182366:=0
def tw3680691059809200806:=0
def tw7322696906828439693:=0
def tw380704154212997484:=0
def tw5079901337676694851:=0
def tw11210113763129214293:=0
def tw5337575773470117901:=0
def tw6101409417720876180:=0
def tw5608995047830648801:=0
def tw10210784926020183155:=0
def tw11930671977969308613:=0
def tw5864310963864027885:=0
def tw15697762011349363469:=0
def tw8700952011471688695:=0
def tw10563677646013842304:=0
def tw13323027399761773529:=0
def tw16749586152531638502:=0
def tw10488657521639078985:=0
def tw15102182390277009840:=0
def tw4265166161945295525:=0
def tw7809610260928658778:=0
def tw1388052735290065032:=0
def tw12138209677298654016:=0
def tw10241351161450556833:=0
def tw16748655391086176945:=0
def tw17265366888150906906:=0
def tw9664635814264880234:=0
def tw6181458109699116811:=0
def tw14323669751359623169:=0
def tw16098871812814496367:=0
def tw1465240747720708487:=0
def tw2825417891707687878:=0
def tw12059203947811350104:=0
def tw9948854582852267340:=0
def tw3416839784031613731:=0
def tw7091581549695951951:=0
def tw11523083077361252373:=0
def tw7981968753727164798:=0
def tw13710737863394106425:=0
def tw9130780642523414429:=0
def tw14692829124061878624:=0
def tw17543782082898866593:=0
def tw7140004785255291127:=0
def tw7951576062724214445:=0
def tw16515156060630483471:=0
def tw6292069367911850282:=0
def tw10590749026295047462:=0
def tw11699475920275318008:=0
def tw7900911503865626435:=0
def tw10535784308110378983:=0
def tw9230114366117292401:=0
def tw17504079659295789244:=0
def tw8832239554607249333:=0
def tw11147506418808209787:=0
def tw4526650326788275769:=0
def tw7856451925818154316:=0
def tw13405744704596515523:=0
def tw12965677210987244068:=0
def tw4331032699376762957:=0
def tw14395121344933966418:=0
def tw17811609966178791318:=0
def tw11249234173692182821:=0
def tw7578627015541318193:=0
def tw7159714896673641650:=0
def tw5412228252777244978:=0
def tw16673138577320329676:=0
def tw11184385799677712212:=0
def tw3627947946210755106:=0
def tw17712919231985032874:=0
def tw361708523754065756:=0
def tw15132247444472347614:=0
def tw4701754003827419993:=0
def tw14479965506600133713:=0
def tw7927474331782449071:=0
def tw4655481766796212268:=0
def tw15825616479165497391:=0
def tw10891510446364335546:=0
def tw16825582514509104710:=0
def tw7611163034508881843:=0
def tw16541530575978025086:=0
def tw15170151107440015204:=0
def tw7436294839721234932:=0
def tw9692899514601201531:=0
def tw837808720458654706:=0
def tw13236221491888800772:=0
def tw3654873482568506843:=0
def tw6897415674495286858:=0
def tw14180527867731109070:=0
def tw8857167665620056357:=0
def tw16852139570021577785:=0
def tw7573650749410377760:=0
def tw10560826297904435560:=0
def tw13163813246156525014:=0
def tw9719442773606189366:=0
def tw3630992297795681745:=0
def tw12312150491342195160:=0
def tw3093276901396739709:=0
def tw12103461738038337196:=0
def tw13017514663764068494:=0
def tw18167282452981947045:=0
def tw15534801757577594989:=0
def tw18144188881294643823:=0
def tw15623244547701687756:=0
def tw2130216699041134730:=0
def tw7018552646454516478:=0
def tw15174214274070707860:=0
def tw7199738415289184336:=0
def tw3600937465216267195:=0
def tw13415680509535712733:=0
def tw10117332789520882859:=0
def tw15012302187109868366:=0
def tw7854588589988767503:=0
def tw5085104096428489554:=0
def tw366125276817276559:=0
def tw12828090041971318845:=0
def tw15833424976251423279:=0
def tw7333377609747404031:=0
def tw16246501287199201341:=0
def tw1480239225855726361:=0
def tw10955112759593159270:=0
def tw10066487577730037623:=0
def tw8767373436847566684:=0
def tw250656689202303474:=0
def tw6866968529731859888:=0
def tw2432359644593461310:=0
def tw9304347048369368445:=0
def tw17994497157339844153:=0
def tw3230454806852700025:=0
def tw9828431698040411148:=0
def tw5272944792227626190:=0
def tw13849803011632494397:=0
def tw12663413090158036020:=0
def tw10813640716391409580:=0
def tw16811789273700865983:=0
def tw13210340509678111994:=0
def tw17977656322186723268:=0
def tw1624788964653522670:=0
def tw13108457870417800998:=0
def tw624775163244110727:=0
def tw974518770487640121:=0
def tw1583253377598128589:=0
def tw16490189166609215466:=0
def tw12772539545241976074:=0
def tw5608571506676808837:=0
def tw7944538798325112757:=0
def tw4876572236707737253:=0
def tw7647775475649823640:=0
def tw9105475739398703968:=0
def tw17941796174536892089:=0
def tw10232157359520205522:=0
def tw17658549337891292576:=0
def tw6190866126173669565:=0
def tw15729152016536898608:=0
def tw15488455606330757022:=0
def tw3467854490758605630:=0
def tw16810136866600091966:=0
def tw6204663592483797822:=0
def tw15456867119017330719:=0
def tw4841223235493344337:=0
def tw7268037015209302010:=0
def tw2972749781576161245:=0
def tw9063487198289716940:=0
def tw16546839378224020922:=0
def tw1221153055703454957:=0
def tw4690519639516388677:=0
def tw4492146485727703294:=0
def tw9349333600118638603:=0
def tw17647515804127053756:=0
def tw5532220399572278943:=0
def tw15457701263483024022:=0
def tw12681010659097020554:=0
def tw7015374826196977248:=0
def tw15799286828563691352:=0
def tw6756808813111925970:=0
def tw14475148396594164341:=0
def tw2403950259472419383:=0
def tw28925913692900909:=0
def tw4724622007836639307:=0
def tw5886127227996310847:=0
def tw6983058389391779729:=0
def tw2921196652148787085:=0
def tw15217157059220462124:=0
def tw2330011253638456637:=0
def tw7412032415396693667:=0
def tw6379420519953007908:=0
def tw15348583166427073286:=0
def tw13455959834776791116:=0
def tw17933638134658002784:=0
def tw9040022592415129019:=0
def tw12834927931577236494:=0
def tw13188262141786861791:=0
def tw656347010910947672:=0
def tw9827432734065459090:=0
def tw7608245383574630279:=0
def tw5338330312844822917:=0
def tw695685426047018580:=0
def tw9262624035556794627:=0
def tw7153426474874834720:=0
def tw16022954318286986915:=0
def tw4745464667866848357:=0
def tw5079795190760458788:=0
def tw16623578381915470966:=0
def tw17959071944332782896:=0
def tw17584215435977622621:=0
def tw871610634374782609:=0
def tw7402055070270626909:=0
def tw657622492511214805:=0
def tw17102281248993934320:=0
def tw3512906778672752722:=0
def tw10861451062152936897:=0
def tw4130429420318390715:=0
def tw13910175908129977305:=0
def tw14783115030135119237:=0
def tw8613149804150825877:=0
def tw14178475756741093659:=0
def tw17504071358543181481:=0
def tw1881988469775621102:=0
def tw14327361028582321076:=0
def tw3521505805501194567:=0
def tw17664386079958102053:=0
def tw9733828523211506809:=0
def tw17128999113329282772:=0
def tw523297461884638047:=0
def tw5403043383267128388:=0
def tw645618281024543079:=0
def tw1750491292623500961:=0
def tw10024919949468353692:=0
def tw803538789570746367:=0
def tw9560537888945295054:=0
def tw10218338101326329173:=0
def tw1660005365628149058:=0
def tw14621863413282321804:=0
def tw2390140573152264563:=0
def tw1482175269880394896:=0
def tw1714822006977905112:=0
def tw2761528304939714958:=0
def tw855102664040528248:=0
def tw6521671010183282225:=0
def tw6043229085828932052:=0
def tw10333772782509814168:=0
def tw6104315049169152802:=0
def tw6928593950312599142:=0
def tw16246161052617038207:=0
def tw2027312156012837278:=0
def tw12192945035699514516:=0
def tw854585091559757613:=0
def tw16039885563264731682:=0
def tw7168325438390881140:=0
def tw4919717076505951218:=0
def tw5503800274769573303:=0
def tw9128148162123410226:=0
def tw4621925348278420062:=0
def tw7310264629523271869:=0
def tw11620958589700904374:=0
def tw14629047370237866514:=0
def tw7037942437581245897:=0
def tw12190725974677370667:=0
def tw17155090051154298707:=0
def tw13355504182037970291:=0
def tw18096972768138489758:=0
def tw2333708672333757648:=0
def tw11480714954247354475:=0
def tw11950627446494666306:=0
def tw8941775408256099353:=0
def tw4109207190654910982:=0
def tw12726705419795876386:=0
def tw463430848727463170:=0
def tw7224900643775812824:=0
def tw13204868668878294866:=0
def tw11730845331142486024:=0
def tw9790716672304047828:=0
def tw7171379880651004357:=0
def tw17175668662551928384:=0
def tw7704658791942289453:=0
def tw3863755278916150344:=0
def tw12009645840521390862:=0
def tw10557794383272661709:=0
def tw16444772608639158690:=0
def tw16670142192570069507:=0
def tw16443386913409831570:=0
def tw17863689754958819648:=0
def tw11466354458300450341:=0
def tw16883861708986959132:=0
def tw3511953634134568677:=0
def tw3366072237430983300:=0
def tw12259314919924462482:=0
def tw17461964529530558301:=0
def tw10448909495805589118:=0
def tw13769305191268461165:=0
def tw8639528855720048747:=0
def tw4972135012577917497:=0
def tw8866107076963189111:=0
def tw4717273759613540001:=0
def tw14720746897627649764:=0
def tw3839489167763356800:=0
def tw13094688220580047391:=0
def tw954571513571518119:=0
def tw7160603846049392125:=0
def tw6808932561052931807:=0
def tw10276312649508979844:=0
end PySem.W.Fast
namespace Hk
open PySem PySem.W PyProof.Rows
noncomputable def lk (o : Obj) : Option Obj := match o.data with
  | .freed => none
  | _ => some o
theorem get_lk {h : Heap} {a : Nat} {o : Obj} (e : h.objs[a]? = some o) : h.get? a = lk o := by
  unfold Heap.get? lk
  rw [e]
  cases o with
  | mk c d x s => cases x <;> rfl
noncomputable def pick (os : List Obj) : Nat → List Nat → List (Option Obj) :=
  @List.rec Obj (fun _ => Nat → List Nat → List (Option Obj)) (fun _ as => as.map fun _ => none)
    (fun o _ ih i as => @List.rec Nat (fun _ => List (Option Obj)) [] (fun a r _ => @Bool.rec (fun _ => List (Option Obj)) (ih (Nat.succ i) (a :: r)) (lk o :: ih (Nat.succ i) r) (Nat.beq a i)) as) os
noncomputable def fnd (os : List Obj) (i a : Nat) : Option Obj := if i ≤ a then (os[a - i]?).bind lk else none
theorem fnd_succ {o : Obj} {os : List Obj} {i a : Nat} (h : (fnd os (i + 1) a).isSome = true) : fnd (o :: os) i a = fnd os (i + 1) a := by
  unfold fnd at h ⊢
  by_cases e : i + 1 ≤ a
  · rw [if_pos e, if_pos (by omega), show a - i = (a - (i + 1)) + 1 by omega, List.getElem?_cons_succ]
  · rw [if_neg e] at h; cases h
theorem pick_ok (os : List Obj) : ∀ (i : Nat) (as : List Nat) (ws : List (Option Obj)), pick os i as = ws → (∀ w ∈ ws, w.isSome = true) → as.map (fnd os i) = ws := by
  induction os with
  | nil =>
    intro i as ws e hs
    have e : as.map (fun _ => none) = ws := e
    cases as with
    | nil => exact e
    | cons a r =>
      have := hs none (by rw [← e]; exact List.mem_cons_self ..)
      cases this
  | cons o os ih =>
    intro i as ws e hs
    have key : ∀ (as : List Nat) (ws : List (Option Obj)), as.map (fnd os (i + 1)) = ws → (∀ w ∈ ws, w.isSome = true) → as.map (fnd (o :: os) i) = ws := fun as ws h hs => by
      rw [← h]
      refine List.map_congr_left fun a ha => fnd_succ (hs _ ?_)
      rw [← h]; exact List.mem_map.mpr ⟨a, ha, rfl⟩
    cases as with
    | nil => exact e
    | cons a r =>
      have e : @Bool.rec (fun _ => List (Option Obj)) (pick os (i + 1) (a :: r)) (lk o :: pick os (i + 1) r) (Nat.beq a i) = ws := e
      cases hb : Nat.beq a i with
      | false => rw [hb] at e; exact key _ _ (ih _ _ _ e hs) hs
      | true =>
        rw [hb] at e
        have e : lk o :: pick os (i + 1) r = ws := e
        have ea : a = i := Nat.eq_of_beq_eq_true hb
        have hs' : ∀ w ∈ pick os (i + 1) r, w.isSome = true := fun w hw => hs w (by rw [← e]; exact List.mem_cons_of_mem _ hw)
        rw [List.map_cons, key _ _ (ih _ _ _ rfl hs') hs', ← e]
        congr 1
        unfold fnd
        rw [if_pos (by omega), show a - i = 0 by omega]; rfl
theorem pick_in {K : Frag} {h : Heap} {as : List Nat} (x : pick h.objs.toList 0 as = K.map fun p => some p.2) : as.map h.get? = K.map fun p => some p.2 := by
  have hs : ∀ w ∈ K.map (fun p => some p.2), w.isSome = true := fun w hw => by
    obtain ⟨p, _, rfl⟩ := List.mem_map.mp hw; rfl
  have k := pick_ok _ _ _ _ x hs
  rw [← k] at hs ⊢
  refine List.map_congr_left fun a ha => ?_
  have h1 := hs _ (List.mem_map.mpr ⟨a, ha, rfl⟩)
  unfold fnd at h1 ⊢
  rw [if_pos (Nat.zero_le _), Nat.sub_zero] at h1 ⊢
  rw [Array.getElem?_toList] at h1 ⊢
  cases e : h.objs[a]? with
  | none => rw [e] at h1; cases h1
  | some o => rw [get_lk e]; rfl
noncomputable def hook (K : Params → Frag) (as : List Addr) (e : ∀ P, as = (K P).map (·.1)) : Hook :=
  ⟨List (Option Obj), fun s => pick s.heap.objs.toList 0 as, fun w => (K w.params).map fun p => some p.2, InK K, fun w s x => InK.of e w s (pick_in x), InK.keeps⟩
theorem in_of {K : Params → Frag} {as : List Addr} {e : ∀ P, as = (K P).map (·.1)} {w : World} {h : Heap} (Y : (hook K as e).says w h) : (K w.params).In h := Y
noncomputable def hookT (K : Params → Frag) (as : List Addr) (e : ∀ P, as = (K P).map (·.1)) (ts : List Addr) : Hook where
  α := List (Option Obj) × List (Option Obj)
  obs := fun s => (pick s.heap.objs.toList 0 as, ts.map s.heap.get?)
  val := fun w => ((K w.params).map fun p => some p.2, ts.map fun _ => some (tabObj #[]))
  says := fun w h => InK K w h ∧ ∀ P ∈ ts, h.get? P = some (tabObj #[])
  of := fun w s x => ⟨InK.of e w s (pick_in (Prod.mk.inj x).1), List.map_inj_left.mp (Prod.mk.inj x).2⟩
  keeps := fun w h h' x k => ⟨InK.keeps w h h' x.1 k, fun P hP => k _ _ (x.2 P hP)⟩
theorem inT_of {K : Params → Frag} {as : List Addr} {e : ∀ P, as = (K P).map (·.1)} {ts : List Addr} {w : World} {h : Heap} (Y : (hookT K as e ts).says w h) : (K w.params).In h := Y.1
theorem tabs_of {K : Params → Frag} {as : List Addr} {e : ∀ P, as = (K P).map (·.1)} {ts : List Addr} {w : World} {h : Heap} (Y : (hookT K as e ts).says w h) : ∀ P ∈ ts, h.get? P = some (tabObj #[]) := Y.2
end Hk
section
open PySem PySem.W PyProof.Rows
set_option maxHeartbeats 0
local macro_rules | `(tactic| o_head $H:term) => match H with
  | `(($f:ident $a $b $c $d)) => if f.getId.eraseMacroScopes == `kmHook then `(tactic| o_head (Hk.hookT $a $b $c $d)) else Lean.Macro.throwUnsupported
  | `(($f:ident $a $b $c)) => if f.getId.eraseMacroScopes == `kHook then `(tactic| o_head (Hk.hook $a $b $c)) else Lean.Macro.throwUnsupported
  | _ => Lean.Macro.throwUnsupported
def Hk.vq : Program := view PySem.Challenge.pw_castoff_k85_tower_lines [178]
def Hk.vl : List Str := ["_wall", "__name__", "CastError", "ValueError", "NoName", "NoNumber", "Twice", "TooMany", "Unknown", "TooWide", "There", "NotThere", "Full", "BadBook", "NoRule", "Unlike", "NoLine", "is_whole", "is_within", "divisor_of", "ratio_of", "plus_ratio", "minus_ratio", "under_ratio", "MOST_PLACES", "check_places", "Shelf", "LETTERS", "FIGURES", "MOST_SIGNS", "MOST_THINGS", "MOST_ROOM", "made_of", "is_name", "check_thing", "Stock", "MOST_FIGURES", "MOST_ASKS", "read_number", "check_asks", "check_rooms", "earlier_asks", "casts_off", "serves", "lying_after", "weighed", "missed_by", "paid_by", "walkers_at", "moves_by_step", "move_by_jump", "Climb", "climb_of", "flow_of", "MOST_TURN", "Rule", "Ranked", "Oldest", "First", "Halving", "Farthest", "make_room", "row_of", "book_of", "MOST_BEST", "Planned", "gaps_of", "stays_of", "rises_of", "best_of", "Dues", "Hand", "move", "step_of", "Rows", "make_oldest", "make_first", "make_halving", "make_farthest", "make_hand", "make_rows", "make_dues", "MAKERS", "maker_of", "check_greater", "lying_by", "first_lack", "FORMS", "read_name", "read_word", "kinds_of", "read_line", "parts_of", "MOST_SHELVES", "check_sizes", "Tower", "Prompt", "MOST_SUMS", "Sums", "depths_of", "is_there", "step_with", "steps_of", "MOST_ASKED", "MOST_DIFFERENT", "worths_of", "rooms_of_sets", "is_in", "has_all", "known_ways", "served_ways", "ways_behind", "all_ways", "row_between", "book_along", "payments_of", "ways_of", "words_or_none", "show_row", "show_step", "show_ratio", "show_paid", "answer_thing", "answer_ask", "answer_again", "book_by", "answer_run", "answer_book", "answer_holds", "answer_even", "answer_best", "answer_ways", "answer_sizes", "answer_parts", "answer_tower", "answer_prompt", "tower_of", "answer_read", "answer_keep", "answer_ahead", "answer_rest", "answer_store", "answer_levels", "answer_found", "answer_spent", "ANSWERS", "Desk", "_law_cell_at", "_law_mix", "_law_names", "_law_cost", "_law_new", "_law_come", "_law_count", "_law_fetch", "_law_rest", "_law_levels", "_law_moved", "_law_told", "_law_line"].map Str.ofString
local macro_rules | `(tactic| refine $f:ident $xs*) => if f.getId.eraseMacroScopes == `PySem.W.holds_open then `(tactic| refine (holds_open (q := Hk.vq) (loose := Hk.vl) $(xs.extract 2 xs.size)*)) else Lean.Macro.throwUnsupported
open_top hd85 for PySem.Challenge.rw_castoff_k85_tower_lines
end
def Fa:=@List.length_map
def Fb:=@List.mem_cons_of_mem
def Fc:=@List.mem_singleton
def Fd:=@List.getElem?_eq_getElem
def Fe:=@List.getElem?_eq_some_iff
def Ff:=@Nat.le_refl
def Fg:=@List.getElem?_map
def Fh:=@List.getD_eq_getElem?_getD
def Fi:=@List.mem_cons_self
def Fj:=@List.length_append
def Fk:=@List.mem_of_getElem?
def Fl:=@PySem.Heap.get?_push_of_some
def Fm:=@List.size_toArray
def Fn:=@List.mem_append
def Fo:=@List.mem_cons
def Fp:=@PySem.Heap.lt_size
def Fq:=@Nat.zero_le
def Fs:=@List.mem_append_right
def Ft:=@Nat.lt_of_lt_of_le
def Fu:=@Bool.false_ne_true
def Fv:=@List.mem_map
def Fw:=@List.getElem?_append_left
def Fx:=@PySem.F.plainAttrs_list
def Fy:=@PySem.boot_len
def Fz:=@Nat.lt_of_le_of_lt
def FA:=@Nat.le_trans
def FB:=@List.getElem?_append_right
def FC:=@List.map_append
def FD:=@Nat.ne_of_lt
def FE:=@List.mem_iff_getElem?
def FF:=@decide_eq_false
def FG:=@PySem.Heap.get?_push_size
def FH:=@Array.length_toList
def FI:=@decide_eq_true
def FJ:=@PySem.wpAny_bind
def FK:=@Nat.le_succ_of_le
def FL:=@List.mem_append_left
def FM:=@List.map_map
def FN:=@Option.some.inj
def FO:=@List.nodup_cons
def FP:=@List.append_nil
def FQ:=@List.not_mem_nil
def FR:=@List.lookup_cons
def FS:=@List.take_of_length_le
def FT:=@Int.emod_lt_of_pos
def FU:=@PySem.wpAny_pure
def FV:=@List.take_length
def FW:=@List.flatten_cons
def FX:=@PySem.F.type_list_append
def FY:=@PySem.F.slot_list_append
def FZ:=@PySem.W.kia_one
def Hc:=@Int.emod_nonneg
def Hd:=@PySem.wpAny_mono
def He:=@List.length_take
def Hf:=@Bool.and_eq_true
def Hg:=@PySem.F.plainAttrs_str
def Hh:=@List.nodup_nil
def Hi:=@List.length_drop
def Hj:=@List.all_eq_true
def Hl:=@Option.isSome_iff_exists
def Hm:=@Nat.le_of_eq
def Hn:=@List.mem_filter
def Ho:=@List.replicate_succ
def Hq:=@PySem.F.type_str_join
def Hr:=@PySem.F.slot_str_join
def Hs:=@List.length_filter_le
def Ht:=@List.getElem?_eq_none
def Hu:=@List.drop_eq_getElem_cons
def Hv:=@Option.map_some
def Hw:=@List.length_set
def Hx:=@PySem.lookup_relabel_local
def Hy:=@List.take_add_one
def Hz:=@List.nodup_append
def HB:=@Nat.lt_irrefl
def HC:=@PySem.mem_of_lookup
def HD:=@PySem.wpAny_Call_Name_kw
def HE:=@PySem.wpAny_passesOwn
def HF:=@List.find?_cons
def HG:=@List.any_cons
def HI:=@List.length_replicate
def HJ:=@PySem.wpAny_truthy_bool
def HK:=@PyProof.Rows.callWith_type1
def HL:=@PySem.call_meets
def HM:=@List.getElem_mem
def HP:=@beq_eq_false_iff_ne
def HQ:=@List.take_succ_cons
def HR:=@List.sum_cons
def HS:=@PySem.tupleKind_room_in1
def HU:=@beq_iff_eq
def HV:=@PySem.W.callWith_K
def HW:=@List.eraseIdx_cons_succ
def HX:=@Int.le_refl
def HY:=@List.mem_range
def R0:=@PySem.W.methodCall_KW
def R3:=@Nat.lt_succ_self
def R4:=@List.pairwise_append
def R5:=@List.length_erase_le
def R6:=@List.range_succ
def R7:=@Bool.eq_iff_iff
def R8:=@PySem.codeAny_mono
def R9:=@List.map_set
def Ra:=@Int.le_trans
def Rb:=@List.take_succ
def Rc:=@List.mem_or_eq_of_mem_set
def Re:=@List.take_sublist
def Rf:=@List.length_range
def Rg:=@List.append_assoc
def Rh:=@PySem.F.type_list_remove
def Ri:=@PySem.F.type_list_insert
def Rj:=@PySem.F.slot_list_remove
def Rk:=@PySem.F.slot_list_insert
def Rl:=@List.eq_of_mem_replicate
def Rm:=@Nat.le_add_right
def Rn:=@List.filter_cons_of_pos
def Ro:=@List.filter_cons_of_neg
def Rp:=@Nat.sub_self
def Rq:=@PySem.wpAny_execs_nil
def Rr:=@PySem.F.type_list_pop
def Rt:=@PySem.F.slot_list_pop
def Ru:=@PySem.F.slot_dict_get
def Rv:=@List.length_singleton
def Rx:=@List.erase_of_not_mem
def Ry:=@Nat.le_succ
def Rz:=@List.take_zero
def RA:=@List.mem_of_mem_take
def RB:=@List.drop_zero
def RC:=@PySem.Heap.size_push
def RD:=@ne_true_of_eq_false
def RE:=@PySem.W.plainGet_of
def RF:=@PySem.W.callWith_K0
def RG:=@List.getElem?_range
def RH:=@List.filterMap_cons
def RI:=@PySem.typeIs_str
def RJ:=@List.map_replicate
def RK:=@List.getElem_idxOf
def RL:=@List.getElem?_drop
def RM:=@Int.lt_of_le_of_lt
def RN:=@PySem.wpAny_pyIter_list
def RO:=@of_decide_eq_true
def RP:=@Option.isSome_map
def RQ:=@List.mem_range'_1
def RS:=@List.map_dropLast
def RT:=@List.ext_getElem?
def RU:=@Int.add_zero
def RV:=@Nat.min_eq_right
def RW:=@List.flatten_nil
def RX:=@PySem.sizeLine_eq
noncomputable section
open PySem PySem.Spec PyProof.Rows
namespace L2
abbrev Key:=Sum Int Str
def Mc:Key→Value→Bool
 | .inl k,v=>Value.isInt k v
 | .inr x,v=>Value.isStrOf x v
def J7o(w:World):Key→Int
 | .inl k=>hashInt k
 | .inr x=>hashStr w x
theorem By:∀{k:Key} {v:Value},Mc k v=true→(∃i t,k=Sum.inl i∧v=Value.int i t)∨(∃x t,k=Sum.inr x∧v=Value.str x t)
 | .inl i,v,h=>by
  obtain ⟨t,e⟩:=Value.isInt_shape (k:=i) (v:=v) h;exact .inl ⟨i,t,rfl,e⟩
 | .inr x,v,h=>by
  obtain ⟨t,e⟩:=Value.isStrOf_shape (x:=x) (v:=v) h;exact .inr ⟨x,t,rfl,e⟩
theorem We(i:Int)(t:Tok):Mc (.inl i) (.int i t)=true:=by simp [Mc,Value.isInt]
theorem Wf(x:Str)(t:Tok):Mc (.inr x) (.str x t)=true:=by simp [Mc,Value.isStrOf]
theorem J4o(a b:Int):decide ((Sum.inl a:Key)=Sum.inl b)=(a==b):=by
 by_cases e:a=b
 · subst e;simp
 · have h:¬(Sum.inl a:Key)=Sum.inl b:=fun q=>e (Sum.inl.inj q)
   rw [FF h];exact (HP.mpr e).symm
theorem J4p(a b:Str):decide ((Sum.inr a:Key)=Sum.inr b)=decide (a=b):=by
 by_cases e:a=b
 · subst e;simp
 · have h:¬(Sum.inr a:Key)=Sum.inr b:=fun q=>e (Sum.inr.inj q)
   rw [FF h,FF e]
theorem J4q(a:Int)(b:Str):decide ((Sum.inl a:Key)=Sum.inr b)=false:=FF (fun q=>nomatch q)
theorem J4r(a:Str)(b:Int):decide ((Sum.inr a:Key)=Sum.inl b)=false:=FF (fun q=>nomatch q)
def B8(prog:Program)(w:World):PySem.KeyKind prog w Key where
 is:=Mc
 hash:=J7o w
 inj:=fun v a b ha hb=>by
  rcases By ha with ⟨i,t,rfl,rfl⟩ | ⟨x,t,rfl,rfl⟩
  · rcases By hb with ⟨j,u,rfl,e⟩ | ⟨y,u,rfl,e⟩
    · injection e with e1 _;rw [e1]
    · exact nomatch e
  · rcases By hb with ⟨j,u,rfl,e⟩ | ⟨y,u,rfl,e⟩
    · exact nomatch e
    · injection e with e1 _;rw [e1]
 byValue:=fun k v h=>by
   rcases By h with ⟨i,t,rfl,rfl⟩ | ⟨x,t,rfl,rfl⟩ <;> rfl
 pyHash:=fun hv h=>by
  rcases By hv with ⟨i,t,rfl,rfl⟩ | ⟨x,t,rfl,rfl⟩
  · exact wpAny_pyHash_int h
  · exact wpAny_pyHash_str h
 eqBool:=fun hu hv h=>by
  rcases By hu with ⟨i,t,rfl,rfl⟩ | ⟨x,t,rfl,rfl⟩
  · rcases By hv with ⟨j,u,rfl,rfl⟩ | ⟨y,u,rfl,rfl⟩
    · rw [J4o]at h;exact wpAny_eqBool_int h
    · rw [J4q]at h;exact SeqAt.EqAt.int_str i t y u _ _ _ _ h
  · rcases By hv with ⟨j,u,rfl,rfl⟩ | ⟨y,u,rfl,rfl⟩
    · rw [J4r]at h;exact SeqAt.EqAt.str_int x t j u _ _ _ _ h
    · rw [J4p]at h;exact wpAny_eqBool_str h
 «strs»:=fun k x t v h=>by
  rcases By h with ⟨i,u,rfl,e⟩ | ⟨y,u,rfl,e⟩
  · exact nomatch e
  · injection e with e1 _
    subst e1
    cases v <;> rfl
theorem Q2(prog:Program)(w:World)(i:Int)(t:Tok):(B8 prog w).is (.inl i) (.int i t)=true:=We i t
theorem Q3(prog:Program)(w:World)(x:Str)(t:Tok):(B8 prog w).is (.inr x) (.str x t)=true:=Wf x t
end L2
namespace L2
inductive V where
 | non | bl (b:Bool) | int (i:Int) | str (x:Str) | byt (b:Array UInt8) | flt (b:UInt64) | ref (a:Addr) | ty (n:String)
 deriving DecidableEq
def B4:V→Value→Prop
 | .non,u=>u=Value.none
 | .bl b,u=>u=Value.bool b
 | .int i,u=>∃t,u=Value.int i t
 | .str x,u=>∃t,u=Value.str x t
 | .byt b,u=>∃t,u=Value.bytes b t
 | .flt b,u=>∃t,u=Value.float b t
 | .ref a,u=>u=Value.ref a
 | .ty n,u=>u=Value.type n
abbrev B3:List V→List Value→Prop:=Paired B4
theorem B3.length{xs:List V}{us:List Value}(r:B3 xs us):xs.length=us.length:=Paired.length r
theorem B3.get:∀{xs:List V} {us:List Value} {i:Nat} {x:V},B3 xs us→xs[i]?=some x→∃u,us[i]?=some u∧B4 x u
 | _,_,_,_,.nil,e=>by simp at e
 | _,_,0,_,.cons r _,e=>by simp at e;subst e;exact ⟨_,rfl,r⟩
 | _,_,i+1,x,.cons _ t,e=>by
  obtain ⟨u,h1,h2⟩:=B3.get (i:=i) (x:=x) t (by simpa using e);exact ⟨u,by simpa using h1,h2⟩
theorem B3.set{x:V}{u:Value}(r:B4 x u):∀{xs:List V} {us:List Value} (i:Nat),B3 xs us→B3 (xs.set i x) (us.set i u)
 | _,_,_,.nil=> .nil
 | _,_,0,.cons _ t=> .cons r t
 | _,_,i+1,.cons q t=> .cons q (B3.set r i t)
theorem B3.append:∀{xs ys:List V} {us ws:List Value},B3 xs us→B3 ys ws→B3 (xs++ys) (us++ws)
 | _,_,_,_,.nil,s=>s
 | _,_,_,_,.cons r t,s=> .cons r (B3.append t s)
theorem B3.take:∀{xs:List V} {us:List Value} (n:Nat),B3 xs us→B3 (xs.take n) (us.take n)
 | _,_,0,_=> .nil
 | _,_,_+1,.nil=> .nil
 | _,_,n+1,.cons r t=> .cons r (B3.take n t)
theorem B3.drop:∀{xs:List V} {us:List Value} (n:Nat),B3 xs us→B3 (xs.drop n) (us.drop n)
 | _,_,0,r=>r
 | _,_,_+1,.nil=> .nil
 | _,_,n+1,.cons _ t=>B3.drop n t
def G2:Option V→Option Value→Prop
 | some v,some u=>B4 v u
 | none,none=>True
 | _,_=>False
def KV{κ:Type}:List (κ×V)→List (κ×Value)→Prop:=Paired fun (p:κ×V) (q:κ×Value)=>p.1=q.1∧B4 p.2 q.2
def kV:Key→V
 | .inl i=> .int i
 | .inr x=> .str x
inductive HO where
 | lst (xs:List V)
 | tup (xs:List V)
 | dK (kvs:List (Key×V)) | dT (kvs:List (List Key×V))
 | set (S:Int→Bool) (n:Nat)
 | ins (C dx:Addr) (fs:List (Str×V))
 | own (x:Addr)
 | xd (fs:List (Str×V))
 | met (f x:Addr)
 | rng (lo hi:Int)
 | frz (o:Obj) (u:HO)
 | tbl (ps:Array Value)
 | ext (φ:Heap→Prop)
abbrev Hp:=Addr→Option HO
def upd(H:Hp)(a:Addr)(o:HO):Hp:=fun b=>if b=a then some o else H b
theorem A5{H:Hp}{a:Addr}{o:HO}:upd H a o a=some o:=by unfold upd;rw [if_pos rfl]
theorem A3{H:Hp}{a b:Addr}{o:HO}(h:b≠a):upd H a o b=H b:=by unfold upd;rw [if_neg h]
theorem U5{H:Hp}{a:Addr}{o u:HO}:upd (upd H a o) a u=upd H a u:=by
 funext b;unfold upd;split <;> rfl
theorem Bx{H:Hp}{a b:Addr}{o u:HO}(h:H a=some o)(h':H b=some u)(d:o≠u):a≠b:=by
 intro e;subst e;rw [h]at h';exact d (FN h')
theorem A2{H:Hp}{a b:Addr}{o:HO}(h:H a=some o)(h':H b=none):a≠b:=by
 intro e;subst e;rw [h]at h';cases h'
section
variable (P:Program) (w:World)
def C8(H:Hp)(h:Heap)(a:Addr):HO→Prop
 | .lst xs=>xs.length≤sizeLine∧∃(its:List Value) (n:Nat),B3 xs its∧h.get? a=some {cls:= .type "list",data:= .seq its.toArray n}
 | .tup xs=>xs.length≤sizeLine∧∃its:List Value,B3 xs its∧IsTup h a its.toArray
 | .dK kvs=>kvs.length≤sizeLine∧(a==sysModules)=false∧∃vs,KV kvs vs∧h.DictOf (B8 P w) a vs
 | .dT kvs=>kvs.length≤sizeLine∧(a==sysModules)=false∧∃xs:List (List Key×Addr×Value),
  Paired (fun (p:List Key×V) (q:List Key×Addr×Value)=>p.1=q.1∧H q.2.1=some (.tup (p.1.map kV))∧B4 p.2 q.2.2) kvs xs∧
  ∃o es ep,h.get? a=some o∧o.ExactDict∧o.data= .dict es ep∧es.toList=xs.map (entryOfKey (tupleKind (B8 P w)))∧(xs.map (·.1)).Nodup
 | .set S n=>h.SetOf (intKind P w) a S n
 | .ins C dx fs=>H dx=some (.own a)∧fs.length≤1000∧dx≠a∧h.get? a=some (PySem.W.instObj C dx)∧
  ∃mA,h.Ns1 dx mA∧(∀f,G2 (fs.lookup f) (mA f))∧PySem.Within mA (fs.map (·.1))
 | .own _=>∃o,h.get? a=some o
 | .xd fs=>∃mA,h.Ns1 a mA∧∀f,G2 (fs.lookup f) (mA f)
 | .rng lo hi=>∃t u v,h.get? a=some {cls:= .type "range",data:= .fields #[.int lo t,.int hi u,.int 1 v]}
 | .frz o u=>h.get? a=some o∧C8 H h a u
 | .tbl ps=>h.get? a=some {cls:= .none,data:= .fields ps}
 | .met f x=>h.get? a=some (PySem.W.methodObj (.ref f) (.ref x))
 | .ext φ=>φ h∧(∃o,h.get? a=some o)∧∀h1 h2:Heap,φ h1→(∀o,h1.get? a=some o→h2.get? a=some o)→φ h2
def HOk(H:Hp)(h:Heap):Prop:=∀a o,H a=some o→C8 P w H h a o
end
section
variable {P:Program} {w:World} {H H':Hp} {h h':Heap} {a:Addr} {o:HO}
theorem C8.lt(x:C8 P w H h a o):a < h.objs.size:=by
 cases o with
 | lst xs=>obtain ⟨_,_,_,_,e⟩:=x;exact Fp e
 | tup xs=>obtain ⟨_,_,_,p⟩:=x;exact p.lt
 | dK kvs=>obtain ⟨_,_,_,_,o,_,_,e,_⟩:=x;exact Fp e
 | dT kvs=>obtain ⟨_,_,_,_,o,_,_,e,_⟩:=x;exact Fp e
 | set S n=>obtain ⟨o,_,_,_,e,_⟩:=x;exact Fp e
 | ins C dx fs=>obtain ⟨_,_,_,e,_⟩:=x;exact Fp e
 | own y=>obtain ⟨_,e⟩:=x;exact Fp e
 | xd fs=>obtain ⟨_,⟨_,_,_,e,_⟩,_⟩:=x;exact Fp e
 | rng lo hi=>obtain ⟨_,_,_,e⟩:=x;exact Fp e
 | frz ob u=>obtain ⟨e,_⟩:=x;exact Fp e
 | tbl ps=>exact Fp (show h.get? a=some _ from x)
 | met f y=>exact Fp (show h.get? a=some _ from x)
 | ext φ=>obtain ⟨_,⟨_,e⟩,_⟩:=x;exact Fp e
theorem Paired.mapP{α β:Type}{F G:α→β→Prop}:∀{l₁:List α} {l₂:List β},Paired F l₁ l₂→(∀a b,F a b→G a b)→Paired G l₁ l₂
 | _,_,.nil,_=> .nil
 | _,_,.cons r t,f=> .cons (f _ _ r) (Paired.mapP t f)
theorem C8.stay(x:C8 P w H h a o)(k:∀b u,(b=a∨H b=some (.own a))→h.get? b=some u→h'.get? b=some u)
 (ho:∀b,H b=some (.own a)→H' b=some (.own a)) (ht:∀b xs,H b=some (.tup xs)→H' b=some (.tup xs)):C8 P w H' h' a o:=by
 induction o with
 | lst xs=>obtain ⟨z,its,n,r,e⟩:=x;exact ⟨z,its,n,r,k _ _ (.inl rfl) e⟩
 | tup xs=>obtain ⟨z,its,r,ob,e,c⟩:=x;exact ⟨z,its,r,ob,k _ _ (.inl rfl) e,c⟩
 | dK kvs=>obtain ⟨z,y,vs,r,ob,es,ep,e,c⟩:=x;exact ⟨z,y,vs,r,ob,es,ep,k _ _ (.inl rfl) e,c⟩
 | dT kvs=>
  obtain ⟨z,y,xs,r,ob,es,ep,e,c⟩:=x;exact ⟨z,y,xs,Paired.mapP r fun p q z=>⟨z.1,ht _ _ z.2.1,z.2.2⟩,ob,es,ep,k _ _ (.inl rfl) e,c⟩
 | set S n=>obtain ⟨ob,es,ep,t,e,c⟩:=x;exact ⟨ob,es,ep,t,k _ _ (.inl rfl) e,c⟩
 | ins C dx fs=>
  obtain ⟨d,z,ne,e,mA,⟨od,es,ep,e2,c⟩,r⟩:=x;exact ⟨ho _ d,z,ne,k _ _ (.inl rfl) e,mA,⟨od,es,ep,k _ _ (.inr d) e2,c⟩,r⟩
 | own y=>obtain ⟨ob,e⟩:=x;exact ⟨ob,k _ _ (.inl rfl) e⟩
 | xd fs=>obtain ⟨mA,⟨od,es,ep,e,c⟩,r⟩:=x;exact ⟨mA,⟨od,es,ep,k _ _ (.inl rfl) e,c⟩,r⟩
 | rng lo hi=>obtain ⟨t,u,v,e⟩:=x;exact ⟨t,u,v,k _ _ (.inl rfl) e⟩
 | frz ob u ih=>obtain ⟨e,q⟩:=x;exact ⟨k _ _ (.inl rfl) e,ih q⟩
 | tbl ps=>
  have e:h.get? a=some {cls:= .none,data:= .fields ps}:=x;show h'.get? a=some {cls:= .none,data:= .fields ps};exact k a _ (.inl rfl) e
 | met f y=>
  have e:h.get? a=some (PySem.W.methodObj (.ref f) (.ref y)):=x;show h'.get? a=some (PySem.W.methodObj (.ref f) (.ref y));exact k a _ (.inl rfl) e
 | ext φ=>obtain ⟨p,⟨o,e⟩,st⟩:=x;exact ⟨st _ _ p fun o q=>k _ _ (.inl rfl) q,⟨o,k _ _ (.inl rfl) e⟩,st⟩
theorem HOk.lt(x:HOk P w H h)(e:H a=some o):a < h.objs.size:=(x a o e).lt
theorem HOk.fresh(x:HOk P w H h)(e:h.objs.size≤a):H a=none:=by
 cases q:H a with
 | none=>rfl
 | some u=>exact absurd (Ft (x.lt q) e) (HB _)
theorem HOk.kept(x:HOk P w H h)(k:∀b u,h.get? b=some u→h'.get? b=some u):HOk P w H h':=fun a o e=>
 (x a o e).stay (fun b u _ q=>k b u q) (fun _ q=>q) fun _ _ q=>q
theorem HOk.laid(x:HOk P w H h)(k:∀b u,h.get? b=some u→h'.get? b=some u)(hp:h.objs.size≤a)(new:C8 P w (upd H a o) h' a o):HOk P w (upd H a o) h':=fun b u e=>by
 have hn:=x.fresh hp
 by_cases hb:b=a
 · subst hb;rw [A5]at e;cases e;exact new
 · rw [A3 hb]at e
   exact (x b u e).stay (fun c v _ q=>k c v q) (fun c q=>by rw [A3 (A2 q hn)];exact q) fun c xs q=>by rw [A3 (A2 q hn)];exact q
end
def Rd(H:Hp)(a:Addr)(u:HO):Prop:=H a=some u∨∃o,H a=some (.frz o u)
theorem Rd.ok{P:Program}{w:World}{H:Hp}{h:Heap}{a:Addr}{u:HO}(r:Rd H a u)(x:HOk P w H h):C8 P w H h a u:=by
 rcases r with r | ⟨o,r⟩
 · exact x a u r
 · obtain ⟨_,q⟩:=x a _ r
   exact q
def Mut:Option HO→Prop
 | some (.lst _)=>True
 | some (.dK _)=>True
 | some (.dT _)=>True
 | some (.set _ _)=>True
 | some (.ins _ _ _)=>True
 | some (.ext _)=>True
 | _=>False
section
variable {P:Program} {w:World} {H:Hp} {h h':Heap} {x e:Addr} {o':HO}
theorem HOk.write(ok:HOk P w H h)(mu:Mut (H x))(he:e=x∨H e=some (.own x))(k:∀b u,b≠e→h.get? b=some u→h'.get? b=some u)(heo:∃u,h'.get? e=some u)
 (new:C8 P w (upd H x o') h' x o'):HOk P w (upd H x o') h':=fun b u q=>by
 have nown:∀c y,H c=some (.own y)→c≠x:=fun c y r z=>by subst z;rw [r]at mu;exact mu
 have ntup:∀c xs,H c=some (.tup xs)→c≠x:=fun c xs r z=>by subst z;rw [r]at mu;exact mu
 by_cases hb:b=x
 · subst hb;rw [A5]at q;cases q;exact new
 · rw [A3 hb]at q
   by_cases hbe:b=e
   · have q':H b=some (.own x):=by
      rcases he with z | z
      · exact absurd (hbe.trans z) hb
      · rw [hbe];exact z
     rw [q]at q';cases q';obtain ⟨v,hv⟩:=heo;exact ⟨v,by rw [hbe];exact hv⟩
   · refine (ok b u q).stay (fun c v hc r=>k c v ?_ r) (fun c r=>by rw [A3 (nown c b r)];exact r) fun c xs r=>by rw [A3 (ntup c xs r)];exact r
     rcases hc with rfl | hc
     · exact hbe
     · rintro rfl
       rcases he with z | z
       · exact nown c b hc z
       · rw [hc]at z;cases z;exact hb rfl
end
structure Un(fs ex:List Addr)(H H':Hp)(h h':Heap):Prop where
 keep:∀b o,h.get? b=some o→H b=none→b∉fs→b∉ex→h'.get? b=some o
 slot:∀b o,h.get? b=some o→H b=none→b∈fs→b∉ex→∃sl,h'.get? b=some {o with slots:=sl}
 free:∀b o,h.get? b=some o→H b=none→b∉ex→H' b=none
 there:∀b o,h.get? b=some o→b∉ex→∃o',h'.get? b=some o'
 tups:∀b xs,H b=some (.tup xs)→H' b=some (.tup xs)
 frzs:∀b o u,H b=some (.frz o u)→H' b=some (.frz o u)
 tbls:∀b ps,H b=some (.tbl ps)→∃more,H' b=some (.tbl (ps++more))
section
variable {fs fs' ex ex':List Addr} {H H1 H2:Hp} {h h1 h2 h':Heap} {a x e:Addr} {o:HO}
theorem Un.any(u:Un fs ex H H1 h h1){b:Addr}{ob:Obj}(q:h.get? b=some ob)(n:H b=none)(hx:b∉ex):∃sl,h1.get? b=some {ob with slots:=sl}:=by
 by_cases hb:b∈fs
 · exact u.slot b ob q n hb hx
 · exact ⟨ob.slots,u.keep b ob q n hb hx⟩
theorem Un.kept(k:∀b u,h.get? b=some u→h'.get? b=some u):Un fs ex H H h h':=
 ⟨fun b ob q _ _ _=>k b ob q,fun b ob q _ _ _=>⟨ob.slots,k b ob q⟩,fun _ _ _ n _=>n,fun b ob q _=>⟨ob,k b ob q⟩,fun _ _ q=>q,fun _ _ _ q=>q,fun _ ps q=>⟨#[],by rw [q];simp⟩⟩
theorem Un.refl:Un fs ex H H h h:=Un.kept fun _ _ q=>q
theorem Un.laid(k:∀b u,h.get? b=some u→h'.get? b=some u)(hp:h.objs.size≤a)(hn:H a=none):Un fs ex H (upd H a o) h h' where
 keep:=fun b u q _ _ _=>k b u q
 slot:=fun b u q _ _ _=>⟨u.slots,k b u q⟩
 free:=fun b u q n _=>by rw [A3 (FD (Ft (Fp q) hp))];exact n
 there:=fun b u q _=>⟨u,k b u q⟩
 tups:=fun b xs q=>by rw [A3 (A2 q hn)];exact q
 frzs:=fun b u xs q=>by rw [A3 (A2 q hn)];exact q
 tbls:=fun b ps q=>⟨#[],by rw [A3 (A2 q hn),q];simp⟩
theorem Un.write(mu:Mut (H x))(he:e=x∨H e=some (.own x))(k:∀b u,b≠e→h.get? b=some u→h'.get? b=some u)(heo:∃u,h'.get? e=some u):Un fs ex H (upd H x o) h h':=by
 have hx:∀b,H b=none→b≠x:=fun b n z=>by subst z;rw [n]at mu;exact mu
 have hb:∀b,H b=none→b≠e:=fun b n z=>by
  subst z;rcases he with r | r
  · exact hx b n r
  · rw [n]at r;cases r
 have hm:∀b u,H b=some u→¬Mut (some u)→b≠x:=fun b u q nm z=>by subst z;rw [q]at mu;exact nm mu
 refine ⟨fun b u q n _ _=>k b u (hb b n) q,fun b u q n _ _=>⟨u.slots,k b u (hb b n) q⟩,fun b u q n _=>by rw [A3 (hx b n)];exact n,fun b u q _=>?_,
  fun b xs q=>by rw [A3 (hm b _ q fun z=>z)];exact q,fun b u xs q=>by rw [A3 (hm b _ q fun z=>z)];exact q,fun b ps q=>⟨#[],by rw [A3 (hm b _ q fun z=>z),q];simp⟩⟩
 by_cases hbe:b=e
 · subst hbe;exact heo
 · exact ⟨u,k b u hbe q⟩
end
def trk(h:Heap)(H:Hp):List Addr:=(List.range h.objs.size).filter fun a=>(H a).isSome
def P9(h:Heap)(H:Hp):Heap:=PySem.W.hideAll h (trk h H)
theorem Wg(h:Heap)(H:Hp):(P9 h H).objs.size=h.objs.size:=PySem.W.hideAll_size _ _
theorem Xh{h:Heap}{H:Hp}{b:Addr}{o:Obj}(e:h.get? b=some o)(n:H b=none):(P9 h H).get? b=some o:=
 PySem.W.hideAll_get _ e fun hm=>by
  have q:(H b).isSome=true:=(Hn.mp hm).2;rw [n]at q;simp at q
theorem J29{h:Heap}{H:Hp}{b:Addr}{o:Obj}(e:(P9 h H).get? b=some o):h.get? b=some o∧H b=none:=by
 have e':h.get? b=some o:=PySem.W.of_hideAll (trk h H) e;refine ⟨e',?_⟩
 cases q:H b with
 | none=>rfl
 | some x=>
  have hm:b∈trk h H:=Hn.mpr ⟨HY.mpr (Fp e'),by simp [q]⟩;have z:(P9 h H).get? b=none:=PySem.W.hideAll_none (trk h H) hm;rw [z]at e;cases e
def J2a(g h:Heap)(L:Addr):List (Addr×Obj):=(List.range h.objs.size).filterMap fun a=>if a=L∨(g.get? a).isSome=true then none else (h.get? a).map fun o=>(a,o)
def rest(g h:Heap)(L d:Addr):List (Addr×Obj):=(J2a g h L).filter fun p=>decide (p.1≠d)
end L2
namespace L2
structure Mod(K:PySem.W.Frag)(mg:Str→Option Value)(base:Heap):Prop where
 kin:K.In base
 glob:base.Ns mainGlobals mg
 blt:∃mb,base.Ns builtinsNs mb∧∀x:Str,x≠"__name__"→mb x=bootBuiltins x
 nolimit:base.NoLimit
structure Cx where
 prog:Program
 w:World
 K:PySem.W.Frag
 mg:Str→Option Value
 base:Heap
 A:Around
 N:List Str
 s₀:Shared
 H₀:Hp
 env:Env
 outer:List Env
 stack:List Env
 ex:List Addr
 fn:Str→Bool
 calm:Bool
 pn:List (Addr×Obj)
 xe:Value→Shared→Prop
def frs(l:List Env):List Addr:=l.filterMap (·.frame)
abbrev Cx.fs(X:Cx):List Addr:=frs X.outer
def Vis(sc:Scope)(x:Str):Prop:=sc.names.lookup x=some .local∨sc.names.lookup x=some .cell∨sc.names.lookup x=some .free
def Loc(sc:Scope)(x:Str):Prop:=sc.names.lookup x=some .local∨sc.names.lookup x=some .cell
def J7p(env:Env)(h:Heap)(m:Str→Option Value)(x:Str)(u:Value):Prop:=
 (env.kindOf x=some .local∧m x=some u)∨((env.kindOf x=some .cell∨env.kindOf x=some .free)∧∃c,env.cells.lookup x=some c∧h.IsCell c (some u))
structure Cx.Ok(X:Cx):Prop where
 mod:Mod X.K X.mg X.base
 kind:X.env.scope.kind= .function
 glob:X.env.globals=mainGlobals
 blt:X.env.builtins=builtinsNs
 above:X.s₀.heap.objs.size≤X.env.locals
 inj:∀x y c,X.env.cells.lookup x=some c→X.env.cells.lookup y=some c→x=y
 has:∀x,(X.env.kindOf x=some .cell∨X.env.kindOf x=some .free)→∃c,X.env.cells.lookup x=some c
 cab:∀x c,X.fn x=true→X.env.cells.lookup x=some c→X.s₀.heap.objs.size≤c
 hd:X.calm=true→X.A.handled=none
 frames:X.A.frames=some X.stack
 stk:X.stack=X.outer∨(X.stack=X.env::X.outer∧X.env.frame=some X.env.locals)
 exf:∀b∈X.ex,b≠X.env.locals∧∀x c,X.env.cells.lookup x=some c→c≠b
 bs:∀b o,X.base.get? b=some o→X.s₀.heap.get? b=some o∧X.H₀ b=none
 bsz:X.base.objs.size≤X.s₀.heap.objs.size
 noex:∀b o,X.base.get? b=some o→b∉X.ex
 exfs:∀b∈X.ex,b∉X.fs
 funs:X.s₀.heap.FunFrames X.base X.outer
 frf:∀b∈X.fs,X.H₀ b=none
structure Inv(X:Cx)(pins:List (Addr×Obj))(σ:List (Option V))(H:Hp)(s:Shared):Prop where
 ok:X.Ok
 os:s.os=X.s₀.os
 bare:AllBare s.gens
 base:Un X.fs X.ex X.H₀ H X.s₀.heap s.heap
 loc:∃m,s.heap.Ns X.env.locals m∧∀(i:Nat) (x:Str) (v:V),X.N[i]?=some x→σ[i]?=some (some v)→Vis X.env.scope x→∃u,B4 v u∧J7p X.env s.heap m x u
 cell:∀x c,X.env.cells.lookup x=some c→∃v,s.heap.IsCell c v
 free:H X.env.locals=none
 freeC:∀x c,X.env.cells.lookup x=some c→H c=none
 pin:∀p∈X.pn++pins,s.heap.get? p.1=some p.2∧H p.1=none∧p.1≠X.env.locals∧p.1∉X.fs∧∀v,p.2.data≠ .cell v
 hok:HOk X.prog X.w H s.heap
 len:σ.length=X.N.length
section
variable {X:Cx} {pins:List (Addr×Obj)} {σ:List (Option V)} {H H':Hp} {s:Shared} {h':Heap}
theorem Cx.Ok.nofr(ok:X.Ok){b:Addr}{o:Obj}(e:X.base.get? b=some o):b∉X.fs:=fun hb=>by
 have:=(ok.funs.mem hb).1;rw [e]at this;cases this
theorem Inv.bs(I:Inv X pins σ H s):∀b o,X.base.get? b=some o→s.heap.get? b=some o∧H b=none:=fun b o e=>
 ⟨I.base.keep b o (I.ok.bs b o e).1 (I.ok.bs b o e).2 (I.ok.nofr e) (I.ok.noex b o e),I.base.free b o (I.ok.bs b o e).1 (I.ok.bs b o e).2 (I.ok.noex b o e)⟩
theorem Inv.bk(I:Inv X pins σ H s):∀b o,X.base.get? b=some o→s.heap.get? b=some o:=fun b o e=>(I.bs b o e).1
theorem Inv.mod(I:Inv X pins σ H s):Mod X.K X.mg X.base:=I.ok.mod
theorem Inv.kIn(I:Inv X pins σ H s):X.K.In s.heap:=I.ok.mod.kin.keeps I.bk
theorem Inv.lt(I:Inv X pins σ H s):X.env.locals < s.heap.objs.size:=let ⟨_,hn,_⟩:=I.loc;hn.lt
theorem Inv.sz(I:Inv X pins σ H s):X.s₀.heap.objs.size≤s.heap.objs.size:=FA I.ok.above (Nat.le_of_lt I.lt)
theorem Inv.nofs(I:Inv X pins σ H s){a:Addr}(h:s.heap.objs.size≤a):a∉X.fs:=fun hb=>by
 obtain ⟨_,o,ho,_⟩:=I.ok.funs.mem hb;exact absurd (Ft (Fp ho) (FA I.sz h)) (HB _)
theorem Inv.cne(I:Inv X pins σ H s):∀x c,X.env.cells.lookup x=some c→c≠X.env.locals:=fun x c e z=>by
 obtain ⟨v,o,ho,hd⟩:=I.cell x c e;obtain ⟨m,⟨o',es,ep,ho',hd',_⟩,_⟩:=I.loc;rw [z,ho']at ho;cases ho;rw [hd']at hd;cases hd
theorem Inv.funs(I:Inv X pins σ H s):s.heap.FunFrames X.base X.outer:=by
 have all:∀(l:List Env),(∀b∈frs l,b∈X.fs)→X.s₀.heap.FunFrames X.base l→s.heap.FunFrames X.base l:=by
  intro l
  induction l with
  | nil=>intro _ _;trivial
  | cons env r ih=>
   intro hs hl;obtain ⟨hk,⟨L,o,hf,hn,ho,hd⟩,hr⟩:=hl;have hL:L∈X.fs:=hs L (by unfold frs;rw [RH,hf];exact Fi);obtain ⟨sl,e⟩:=I.base.slot L o ho (I.ok.frf L hL) hL fun z=>I.ok.exfs L z hL;exact ⟨hk,⟨L,_,hf,hn,e,hd⟩,ih (fun b hb=>hs b (by unfold frs;rw [RH,hf];exact Fb _ hb)) hr⟩
 exact all X.outer (fun _ hb=>hb) I.ok.funs
theorem Inv.stack(I:Inv X pins σ H s):s.heap.FunFrames X.base X.stack:=by
 rcases I.ok.stk with e | ⟨e,hf⟩
 · rw [e];exact I.funs
 · rw [e]
   obtain ⟨m,hn,_⟩:=I.loc;refine .cons (by rw [I.ok.kind];decide) hf hn ?_ I.funs;exact Heap.get?_none_of_le (FA I.ok.bsz I.ok.above)
theorem Inv.stkSub(I:Inv X pins σ H s):∀b∈frs X.stack,b∈X.env.locals::X.fs:=fun b hb=>by
 rcases I.ok.stk with e | ⟨e,hf⟩
 · rw [e]at hb;exact Fb _ hb
 · rw [e]at hb
   unfold frs at hb;rw [RH,hf]at hb;exact hb
theorem Inv.stkFree(I:Inv X pins σ H s):∀b∈frs X.stack,H b=none:=fun b hb=>by
 rcases Fo.mp (I.stkSub b hb) with e | hb
 · rw [e];exact I.free
 · obtain ⟨_,o,ho,_⟩:=I.ok.funs.mem hb
   exact I.base.free b o ho (I.ok.frf b hb) fun z=>I.ok.exfs b z hb
theorem Inv.step{g':Array GenState}{t':Nat}{d':Drawn}{ch:List Addr}(I:Inv X pins σ H s)
 (hch:∀b∈ch,(b∈X.ex∨X.s₀.heap.objs.size≤b)∧b≠X.env.locals∧(∀x c,X.env.cells.lookup x=some c→c≠b)∧∀p∈X.pn++pins,p.1≠b)
 (keep:∀b o,b≠X.env.locals→b∉X.fs→b∉ch→s.heap.get? b=some o→H b=none→h'.get? b=some o)
 (slot:∀b o,b≠X.env.locals→b∈X.fs→b∉ch→s.heap.get? b=some o→H b=none→∃sl,h'.get? b=some {o with slots:=sl}) (free:∀b o,b∉ch→s.heap.get? b=some o→H b=none→H' b=none)
 (there:∀b o,b∉ch→s.heap.get? b=some o→∃o',h'.get? b=some o')
 (tups:∀b xs,H b=some (.tup xs)→H' b=some (.tup xs)) (frzs:∀b o u,H b=some (.frz o u)→H' b=some (.frz o u)) (tbls:∀b ps,H b=some (.tbl ps)→∃more,H' b=some (.tbl (ps++more)))
 (ns:∀m,s.heap.Ns X.env.locals m→h'.Ns X.env.locals m) (hok:HOk X.prog X.w H' h') (hg:AllBare g'):
 Inv X pins σ H' {s with heap:=h',gens:=g',drawn:=d',toks:=t'}:=by
 have neL:∀b o,X.s₀.heap.get? b=some o→b≠X.env.locals:=fun b o e=>FD (Ft (Fp e) I.ok.above)
 have neC:∀b o,X.s₀.heap.get? b=some o→b∉X.ex→b∉ch:=fun b o e hx hb=>by
  rcases (hch b hb).1 with z | z
  · exact hx z
  · exact absurd (Ft (Fp e) z) (HB _)
 have cellK:∀x c,X.env.cells.lookup x=some c→∀v,s.heap.IsCell c v→h'.IsCell c v:=fun x c e v ⟨o,ho,hd⟩=>by
  have nch:c∉ch:=fun z=>(hch c z).2.2.1 x c e rfl
  by_cases hc:c∈X.fs
  · obtain ⟨sl,q⟩:=slot c o (I.cne x c e) hc nch ho (I.freeC x c e)
    exact ⟨_,q,hd⟩
  · exact ⟨o,keep c o (I.cne x c e) hc nch ho (I.freeC x c e),hd⟩
 refine ⟨I.ok,I.os,hg,⟨fun b o e n hb hx=>?_,fun b o e n hb hx=>?_,fun b o e n hx=>?_,fun b o e hx=>?_,fun b xs e=>tups b xs (I.base.tups b xs e),fun b o xs e=>frzs b o xs (I.base.frzs b o xs e),fun b ps e=>?_⟩,?_,fun x c e=>?_,?_,fun x c e=>?_,fun p hp=>?_,hok,I.len⟩
 · exact keep b o (neL b o e) hb (neC b o e hx) (I.base.keep b o e n hb hx) (I.base.free b o e n hx)
 · obtain ⟨sl,e1⟩:=I.base.slot b o e n hb hx
   obtain ⟨sl',e2⟩:=slot b _ (neL b o e) hb (neC b o e hx) e1 (I.base.free b o e n hx);exact ⟨sl',e2⟩
 · obtain ⟨o',e1⟩:=I.base.there b o e hx
   exact free b o' (neC b o e hx) e1 (I.base.free b o e n hx)
 · obtain ⟨o',e1⟩:=I.base.there b o e hx
   exact there b o' (neC b o e hx) e1
 · obtain ⟨m1,e1⟩:=I.base.tbls b ps e
   obtain ⟨m2,e2⟩:=tbls b _ e1;exact ⟨m1++m2,by rw [e2,Array.append_assoc]⟩
 · obtain ⟨m,hn,hl⟩:=I.loc
   refine ⟨m,ns m hn,fun i x v e1 e2 e3=>?_⟩;obtain ⟨u,r,l⟩:=hl i x v e1 e2 e3;refine ⟨u,r,?_⟩;rcases l with l | ⟨k,c,e,z⟩
   · exact .inl l
   · exact .inr ⟨k,c,e,cellK x c e _ z⟩
 · obtain ⟨v,z⟩:=I.cell x c e
   exact ⟨v,cellK x c e v z⟩
 · obtain ⟨m,⟨o,_,_,ho,_⟩,_⟩:=I.loc
   exact free _ o (fun z=>(hch _ z).2.1 rfl) ho I.free
 · obtain ⟨v,o,ho,hd⟩:=I.cell x c e
   exact free c o (fun z=>(hch c z).2.2.1 x c e rfl) ho (I.freeC x c e)
 · obtain ⟨e,n,ne,nf,d⟩:=I.pin p hp
   have nch:p.1∉ch:=fun z=>(hch p.1 z).2.2.2 p hp rfl;exact ⟨keep p.1 p.2 ne nf nch e n,free p.1 p.2 nch e n,ne,nf,d⟩
theorem Inv.un{t':Nat}(I:Inv X pins σ H s)(u:Un X.fs [] H H' s.heap h')(hok:HOk X.prog X.w H' h'):Inv X pins σ H' {s with heap:=h',toks:=t'}:=by
 obtain ⟨m,⟨o,es,ep,ho,r⟩,_⟩:=id I.loc;obtain ⟨sl,hL⟩:=u.any ho I.free (by simp)
 exact I.step (g':=s.gens) (d':=s.drawn) (ch:=[]) (fun _ z=>nomatch z) (fun b o _ hb _ e n=>u.keep b o e n hb (by simp)) (fun b o _ hb _ e n=>u.slot b o e n hb (by simp)) (fun b o _ e n=>u.free b o e n (by simp)) (fun b o _ e=>u.there b o e (by simp)) u.tups u.frzs u.tbls (fun m' hm=>by
  obtain ⟨o',es',ep',ho',r'⟩:=hm;rw [ho]at ho';cases ho'
  exact ⟨_,es',ep',hL,r'⟩) hok I.bare
theorem Inv.call{g':Array GenState}{t':Nat}{d':Drawn}{ch:List Addr}(I:Inv X pins σ H s)(u:Un (frs X.stack) ch H H' s.heap h')(hok:HOk X.prog X.w H' h')(hg:AllBare g')
 (hch:∀b∈ch,(b∈X.ex∨X.s₀.heap.objs.size≤b)∧b≠X.env.locals∧(∀x c,X.env.cells.lookup x=some c→c≠b)∧∀p∈X.pn++pins,p.1≠b):
 Inv X pins σ H' {s with heap:=h',gens:=g',drawn:=d',toks:=t'}:=by
 obtain ⟨m,⟨o,es,ep,ho,r⟩,_⟩:=id I.loc;obtain ⟨sl,hL⟩:=u.any ho I.free fun z=>(hch _ z).2.1 rfl
 exact I.step (ch:=ch) hch (fun b o hL hb hc e n=>u.keep b o e n (fun z=>(Fo.mp (I.stkSub b z)).elim hL hb) hc) (fun b o _ _ hc e n=>u.any e n hc) (fun b o hc e n=>u.free b o e n hc) (fun b o hc e=>u.there b o e hc) u.tups u.frzs u.tbls (fun m' hm=>by
  obtain ⟨o',es',ep',ho',r'⟩:=hm;rw [ho]at ho';cases ho'
  exact ⟨_,es',ep',hL,r'⟩) hok hg
theorem Inv.turned{t':Nat}{it:Addr}(I:Inv X pins σ H s)(k:∀b o,b≠it→s.heap.get? b=some o→h'.get? b=some o)(hn:H it=none)(hL:it≠X.env.locals)
 (h1:it∈X.ex∨X.s₀.heap.objs.size≤it) (h2:∀x c,X.env.cells.lookup x=some c→c≠it) (h3:∀p∈X.pn++pins,p.1≠it):Inv X pins σ H {s with heap:=h',toks:=t'}:=by
 have nit:∀b u,H b=some u→b≠it:=fun b u e z=>by rw [z,hn]at e;cases e
 refine I.step (g':=s.gens) (d':=s.drawn) (ch:=[it]) (fun b hb=>?_) (fun b o _ _ hc e _=>k b o (fun z=>hc (by simp [z])) e) (fun b o _ _ hc e _=>⟨o.slots,k b o (fun z=>hc (by simp [z])) e⟩) (fun _ _ _ _ n=>n)
  (fun b o hc e=>⟨o,k b o (fun z=>hc (by simp [z])) e⟩) (fun _ _ e=>e) (fun _ _ _ e=>e) (fun b ps e=>⟨#[],by rw [e];simp⟩) (fun m hm=>?_) (fun b u e=>?_) I.bare
 · have e:b=it:=by simpa using hb
   subst e;exact ⟨h1,hL,h2,h3⟩
 · obtain ⟨o,es,ep,ho,r⟩:=hm
   exact ⟨o,es,ep,k _ o (Ne.symm hL) ho,r⟩
 · refine (I.hok b u e).stay (fun c v hc q=>k c v ?_ q) (fun _ q=>q) fun _ _ q=>q
   rcases hc with z | z
   · rw [z];exact nit b u e
   · exact nit c _ z
theorem Inv.tok(I:Inv X pins σ H s)(t:Nat):Inv X pins σ H {s with toks:=t}:=I.un (h':=s.heap) (t':=t) Un.refl I.hok
theorem Inv.kept{t':Nat}(I:Inv X pins σ H s)(k:∀b u,s.heap.get? b=some u→h'.get? b=some u):Inv X pins σ H {s with heap:=h',toks:=t'}:=I.un (Un.kept k) (I.hok.kept k)
theorem Inv.laid{a:Addr}{o:HO}{t':Nat}(I:Inv X pins σ H s)(k:∀b u,s.heap.get? b=some u→h'.get? b=some u)(hp:s.heap.objs.size≤a)(new:C8 X.prog X.w (upd H a o) h' a o):
 Inv X pins σ (upd H a o) {s with heap:=h',toks:=t'}:=I.un (Un.laid k hp (I.hok.fresh hp)) (I.hok.laid k hp new)
theorem Inv.write{x e:Addr}{o:HO}{t':Nat}(I:Inv X pins σ H s)(mu:Mut (H x))(he:e=x∨H e=some (.own x))(k:∀b u,b≠e→s.heap.get? b=some u→h'.get? b=some u)(heo:∃u,h'.get? e=some u)
 (new:C8 X.prog X.w (upd H x o) h' x o):Inv X pins σ (upd H x o) {s with heap:=h',toks:=t'}:=I.un (Un.write mu he k heo) (I.hok.write mu he k heo new)
theorem Inv.weak{σ':List (Option V)}(I:Inv X pins σ H s)(hl:σ'.length=σ.length)(w:∀(i:Nat) v,σ'[i]?=some (some v)→σ[i]?=some (some v)):Inv X pins σ' H s:=
 ⟨I.ok,I.os,I.bare,I.base,let ⟨m,hn,hl'⟩:=I.loc;⟨m,hn,fun i x v e1 e2 e3=>hl' i x v e1 (w i v e2) e3⟩,I.cell,I.free,I.freeC,I.pin,I.hok,hl.trans I.len⟩
theorem Inv.pins_of{pins':List (Addr×Obj)}(I:Inv X pins σ H s)(h:∀p∈pins',s.heap.get? p.1=some p.2∧H p.1=none∧p.1≠X.env.locals∧p.1∉X.fs∧∀v,p.2.data≠ .cell v):Inv X pins' σ H s:=
 ⟨I.ok,I.os,I.bare,I.base,I.loc,I.cell,I.free,I.freeC,fun p hp=>(Fn.mp hp).elim (fun z=>I.pin p (FL _ z)) (h p),I.hok,I.len⟩
theorem Q4{N:List Str}(hN:N.Nodup){i j:Nat}{x:Str}(a:N[i]?=some x)(b:N[j]?=some x):i=j:=by
 obtain ⟨h1,e1⟩:=Fe.mp a;obtain ⟨h2,e2⟩:=Fe.mp b;exact (List.getElem_inj hN).mp (e1.trans e2.symm)
theorem O8{M:Model}{A:Around}{E:Value→Shared→Prop}{i:Nat}{x:Str}{v:V}{u:Value}{Q:Unit→Shared→Prop}(I:Inv X pins σ H s)(hN:X.N.Nodup)(hi:X.N[i]?=some x)(hx:Loc X.env.scope x)(r:B4 v u)
 (h:∀s',Inv X pins (σ.set i (some v)) H s'→(∃a,Heap.SameBut a s.heap s'.heap∧(a=X.env.locals∨X.env.cells.lookup x=some a))→Q () s') (hf:X.fn x=true∨X.env.scope.names.lookup x=some .local:=by first | exact .inl rfl | exact .inr rfl | assumption):wpAny M A (storeName X.env x u) Q E s:=by
 obtain ⟨m,hn,hl⟩:=id I.loc
 have hcls:(X.env.scope.kind== .class || (X.env.scope.kind== .module && X.env.locals !=X.env.globals))=false:=by rw [I.ok.kind];rfl
 have hiσ:i < σ.length:=by rw [I.len];exact (Fe.mp hi).1
 have cne:=I.cne
 have tracked:∀{a:Addr} {h':Heap},(∃o,s.heap.get? a=some o∧H a=none)→Heap.SameBut a s.heap h'→HOk X.prog X.w H h':=fun {a h'} ha hs b ob e=>by
  obtain ⟨_,_,hfree⟩:=ha;refine (I.hok b ob e).stay (fun c w' hc q=>(hs.2 c ?_).trans q) (fun _ q=>q) fun _ _ q=>q;rintro rfl;rcases hc with rfl | hc
  · rw [hfree]at e;cases e
  · rw [hfree]at hc;cases hc
 rcases hx with hk | hk
 · refine wpAny_storeName_local hk hn (fun h' hn' hs=>?_) hcls
   obtain ⟨oL,_,_,hoL,_⟩:=id hn;refine h _ ⟨I.ok,I.os,I.bare,⟨fun b o e n hb hx=>?_,fun b o e n hb hx=>?_,I.base.free,fun b o e hx=>?_,I.base.tups,I.base.frzs,I.base.tbls⟩,⟨_,hn',fun j y v' e1 e2 e3=>?_⟩,fun y c e=>?_,I.free,I.freeC,fun p hp=>?_,tracked ⟨oL,hoL,I.free⟩ hs,by simpa using I.len⟩ ⟨_,hs,.inl rfl⟩
   · exact (hs.2 b (FD (Ft (Fp e) I.ok.above))).trans (I.base.keep b o e n hb hx)
   · obtain ⟨sl,e1⟩:=I.base.slot b o e n hb hx
     exact ⟨sl,(hs.2 b (FD (Ft (Fp e) I.ok.above))).trans e1⟩
   · obtain ⟨o',e1⟩:=I.base.there b o e hx
     exact ⟨o',(hs.2 b (FD (Ft (Fp e) I.ok.above))).trans e1⟩
   · by_cases hj:j=i
     · subst hj
       rw [hi]at e1;cases e1;rw [List.getElem?_set_self hiσ]at e2;cases e2;exact ⟨u,r,.inl ⟨hk,by simp⟩⟩
     · rw [List.getElem?_set_ne (Ne.symm hj)]at e2
       obtain ⟨u',r',q⟩:=hl j y v' e1 e2 e3;refine ⟨u',r',?_⟩;rcases q with ⟨k,e⟩ | ⟨k,c,e,z⟩
       · refine .inl ⟨k,?_⟩
         have:y≠x:=fun e=>hj (Q4 hN e1 (e▸hi));simp [this,e]
       · exact .inr ⟨k,c,e,z.sameBut hs (cne y c e)⟩
   · obtain ⟨w',z⟩:=I.cell y c e
     exact ⟨w',z.sameBut hs (cne y c e)⟩
   · obtain ⟨e,n,ne,nf,d⟩:=I.pin p hp
     exact ⟨(hs.2 p.1 ne).trans e,n,ne,nf,d⟩
 · have hfn:X.fn x=true:=by
    rcases hf with z | z
    · exact z
    · rw [z]at hk;cases hk
   obtain ⟨c,hc⟩:=I.ok.has x (.inl hk);obtain ⟨w',z⟩:=I.cell x c hc;refine wpAny_storeName_cell I.ok.kind hk hc z (fun h' hc' hs=>?_);obtain ⟨oc,hoc,hocd⟩:=id z;refine h {s with heap:=h'} ⟨I.ok,I.os,I.bare,⟨fun b o e n hb hx=>?_,fun b o e n hb hx=>?_,I.base.free,fun b o e hx=>?_,I.base.tups,I.base.frzs,I.base.tbls⟩,⟨m,hn.sameBut hs (Ne.symm (cne x c hc)),fun j y v' e1 e2 e3=>?_⟩,fun y c' e=>?_,I.free,I.freeC,fun p hp=>?_,tracked ⟨oc,hoc,I.freeC x c hc⟩ hs,by simpa using I.len⟩ ⟨c,hs,.inr hc⟩
   · exact (hs.2 b (FD (Ft (Fp e) (I.ok.cab x c hfn hc)))).trans (I.base.keep b o e n hb hx)
   · obtain ⟨sl,e1⟩:=I.base.slot b o e n hb hx
     exact ⟨sl,(hs.2 b (FD (Ft (Fp e) (I.ok.cab x c hfn hc)))).trans e1⟩
   · obtain ⟨o',e1⟩:=I.base.there b o e hx
     exact ⟨o',(hs.2 b (FD (Ft (Fp e) (I.ok.cab x c hfn hc)))).trans e1⟩
   · by_cases hj:j=i
     · subst hj
       rw [hi]at e1;cases e1;rw [List.getElem?_set_self hiσ]at e2;cases e2;exact ⟨u,r,.inr ⟨.inl hk,c,hc,hc'⟩⟩
     · rw [List.getElem?_set_ne (Ne.symm hj)]at e2
       obtain ⟨u',r',q⟩:=hl j y v' e1 e2 e3;refine ⟨u',r',?_⟩;rcases q with q | ⟨k,c',e,z'⟩
       · exact .inl q
       · refine .inr ⟨k,c',e,z'.sameBut hs ?_⟩
         rintro rfl;exact hj (Q4 hN e1 (I.ok.inj _ _ _ e hc▸hi))
   · by_cases hcc:c'=c
     · subst hcc;exact ⟨_,hc'⟩
     · obtain ⟨w2,z2⟩:=I.cell y c' e
       exact ⟨w2,z2.sameBut hs hcc⟩
   · obtain ⟨e,n,ne,nf,d⟩:=I.pin p hp
     refine ⟨(hs.2 p.1 ?_).trans e,n,ne,nf,d⟩;intro q;rw [q,hoc]at e;have q':oc=p.2:=FN e;exact d w' (by rw [← q'];exact hocd)
theorem N3{M:Model}{A:Around}{E:Value→Shared→Prop}{i:Nat}{x:Str}{v:V}{u:Value}{Q:Unit→Shared→Prop}(I:Inv X pins σ H s)(hN:X.N.Nodup)(hi:X.N[i]?=some x)(hx:Loc X.env.scope x)(r:B4 v u)
 (h:∀s',Inv X pins (σ.set i (some v)) H s'→Q () s') (hf:X.fn x=true∨X.env.scope.names.lookup x=some .local:=by first | exact .inl rfl | exact .inr rfl | assumption):wpAny M A (storeName X.env x u) Q E s:=
 O8 I hN hi hx r (fun s' I' _=>h s' I') hf
theorem Inv.call'{s':Shared}{ch:List Addr}(I:Inv X pins σ H s)(ho:s'.os=s.os)(u:Un (frs X.stack) ch H H' s.heap s'.heap)(hok:HOk X.prog X.w H' s'.heap)(hg:AllBare s'.gens)
 (hch:∀b∈ch,(b∈X.ex∨X.s₀.heap.objs.size≤b)∧b≠X.env.locals∧(∀x c,X.env.cells.lookup x=some c→c≠b)∧∀p∈X.pn++pins,p.1≠b):Inv X pins σ H' s':=by
 obtain ⟨h',g',d',t',o'⟩:=s';have e:o'=s.os:=ho;subst e;exact I.call (g':=g') (t':=t') (d':=d') u hok hg hch
end
abbrev XK:=Value→Option Addr→Hp→Prop
abbrev St:=List (Option V)
abbrev VK:=V→Hp→Prop
abbrev TE:=St→Hp→VK→Prop
abbrev TT:=St→Hp→(Bool→Hp→Prop)→Prop
abbrev TA:=St→Hp→(List V→Hp→Prop)→Prop
structure Gy where
 nx:St→Hp→Prop
 rt:VK
 bk:St→Hp→Prop:=fun _ _=>False
 ct:St→Hp→Prop:=fun _ _=>False
abbrev TS:=Gy→St→Hp→Prop
def EP(X:Cx)(pins:List (Addr×Obj))(σ:St)(Q:VK)(u:Value)(s':Shared):Prop:=∃v H',Inv X pins σ H' s'∧B4 v u∧Q v H'
def TP(X:Cx)(pins:List (Addr×Obj))(σ:St)(Q:Bool→Hp→Prop)(b:Bool)(s':Shared):Prop:=∃H',Inv X pins σ H' s'∧Q b H'
def AP(X:Cx)(pins:List (Addr×Obj))(σ:St)(Q:List V→Hp→Prop)(us:List Value)(s':Shared):Prop:=∃vs H',Inv X pins σ H' s'∧B3 vs us∧Q vs H'
def SP(X:Cx)(pins:List (Addr×Obj))(D:Gy)(f:Flow)(s':Shared):Prop:=
 match f with
 | .next=>∃σ' H',Inv X pins σ' H' s'∧D.nx σ' H'
 | .brk=>∃σ' H',Inv X pins σ' H' s'∧D.bk σ' H'
 | .cont=>∃σ' H',Inv X pins σ' H' s'∧D.ct σ' H'
 | .ret u=>∃v σ' H',Inv X pins σ' H' s'∧B4 v u∧D.rt v H'
def PE(X:Cx)(e:Expr)(t:TE):Prop:=
 ∀(pins:List (Addr×Obj)) (s:Shared) (σ:St) (H:Hp) (Q:VK),Inv X pins σ H s→t σ H Q→wpAny (model X.prog X.w) X.A (eval e X.env) (EP X pins σ Q) X.xe s
def PT(X:Cx)(e:Expr)(t:TT):Prop:=
 ∀(pins:List (Addr×Obj)) (s:Shared) (σ:St) (H:Hp) (Q:Bool→Hp→Prop),Inv X pins σ H s→t σ H Q→wpAny (model X.prog X.w) X.A (isTrue e X.env (eval e X.env)) (TP X pins σ Q) X.xe s
def PW(X:Cx)(e:Expr)(t:TT):Prop:=
 ∀(whole:Sem Value) (pins:List (Addr×Obj)) (s:Shared) (σ:St) (H:Hp) (Q:Bool→Hp→Prop),Inv X pins σ H s→t σ H Q→wpAny (model X.prog X.w) X.A (isTrue e X.env whole) (TP X pins σ Q) X.xe s
theorem PW.pt{X:Cx}{e:Expr}{t:TT}(h:PW X e t):PT X e t:=h _
def PA(X:Cx)(es:List Expr)(t:TA):Prop:=
 ∀(pos:Pos) (pins:List (Addr×Obj)) (s:Shared) (σ:St) (H:Hp) (Q:List V→Hp→Prop),Inv X pins σ H s→t σ H Q→wpAny (model X.prog X.w) X.A (spliced (backTo pos (starEach es X.env))) (AP X pins σ Q) X.xe s
def PS(X:Cx)(st:Stmt)(t:TS):Prop:=
 ∀(pins:List (Addr×Obj)) (s:Shared) (σ:St) (H:Hp) (D:Gy),Inv X pins σ H s→t D σ H→wpAny (model X.prog X.w) X.A (exec st X.env) (SP X pins D) X.xe s
def PSs(X:Cx)(st:List Stmt)(t:TS):Prop:=
 ∀(pins:List (Addr×Obj)) (s:Shared) (σ:St) (H:Hp) (D:Gy),Inv X pins σ H s→t D σ H→wpAny (model X.prog X.w) X.A (execs st X.env) (SP X pins D) X.xe s
theorem thn{α:Type}{t:Sem α}{Q Q':α→Shared→Prop}{M:Model}{A:Around}{E:Value→Shared→Prop}{s:Shared}(h:wpAny M A t Q E s)(hQ:∀a s,Q a s→Q' a s):wpAny M A t Q' E s:=Hd h hQ fun _ _ x=>x
end L2
namespace L2
section
variable {X:Cx}
def J4s(i:Nat):TE:=fun σ H Q=>∃v,σ[i]?=some (some v)∧Q v H
def tC(v:V):TE:=fun _ H Q=>Q v H
theorem J4t{i:Nat}{x:Str}{pos:Pos}(hN:X.N[i]?=some x)(hv:Vis X.env.scope x)(hd:(x==("__debug__":Str))=false:=by decide)(hcd:(x==("__classdict__":Str))=false:=by decide):PE X (.Name x pos) (J4s i):=by
 intro pins s σ H Q I h;obtain ⟨v,e,h⟩:=h;obtain ⟨m,hn,hl⟩:=I.loc;obtain ⟨u,r,l⟩:=hl i x v hN e hv
 have fin:EP X pins σ Q u s:=⟨v,H,I,r,h⟩
 rcases l with ⟨hk,hm⟩ | ⟨hk,c,hc,hcell⟩
 · exact wpAny_Name (wpAny_loadName_local I.ok.kind hk hn hm fin) hd
 · rcases hk with hk | hk
   · exact wpAny_Name (wpAny_loadName_cell I.ok.kind hk hc hcell fin) hd
   · exact wpAny_Name (wpAny_loadName_free I.ok.kind hk hc hcell fin hcd) hd
theorem Aa{i j pos}:PE X (.Constant (.int i) j pos) (tC (.int i)):=fun _ _ _ H _ I h=>wpAny_Constant_int ⟨.int i,H,I.tok _,⟨_,rfl⟩,h⟩
theorem Gz{b j pos}:PE X (.Constant (.bool b) j pos) (tC (.bl b)):=fun _ _ _ H _ I h=>Constant_bool ⟨.bl b,H,I,rfl,h⟩
theorem Xi{j pos}:PE X (.Constant .none j pos) (tC .non):=fun _ _ _ H _ I h=>Constant_none ⟨.non,H,I,rfl,h⟩
theorem A8{x j pos}:PE X (.Constant (.str x) j pos) (tC (.str x)):=fun _ _ _ H _ I h=>Calls.Constant_str ⟨.str x,H,I.tok _,⟨_,rfl⟩,h⟩
def Gl(X:Cx)(x:Str):Prop:=X.env.kindOf x=some .globalImplicit
theorem Mn{E:Value→Shared→Prop}{pins:List (Addr×Obj)}{s:Shared}{σ:St}{H:Hp}{x:Str}{u:Value}{pos:Pos}{Q:Value→Shared→Prop}(I:Inv X pins σ H s)(hg:Gl X x)(hm:X.mg x=some u)(h:Q u s)
 (hd:(x==("__debug__":Str))=false:=by decide):wpAny (model X.prog X.w) X.A (eval (.Name x pos) X.env) Q E s:=
 Calls.Name_function_global I.ok.kind hg (Calls.loadGlobal_global (by rw [I.ok.glob];exact I.mod.glob.keeps I.bk) hm h) hd
theorem Li{E:Value→Shared→Prop}{pins:List (Addr×Obj)}{s:Shared}{σ:St}{H:Hp}{x:Str}{u:Value}{pos:Pos}{Q:Value→Shared→Prop}(I:Inv X pins σ H s)(hg:Gl X x)(hm:X.mg x=none)(hv:bootBuiltins x=some u)(h:Q u s)
 (hn:x≠"__name__":=by decide) (hd:(x==("__debug__":Str))=false:=by decide):wpAny (model X.prog X.w) X.A (eval (.Name x pos) X.env) Q E s:=by
 obtain ⟨mb,h1,h2⟩:=I.mod.blt;exact Calls.Name_function_global I.ok.kind hg (Calls.loadGlobal_builtin (by rw [I.ok.glob];exact I.mod.glob.keeps I.bk) hm (by rw [I.ok.blt];exact h1.keeps I.bk) ((h2 x hn).trans hv) h) hd
theorem Kv{x:Str}{v:V}{u:Value}{pos:Pos}(hg:Gl X x)(hm:X.mg x=some u)(r:B4 v u)(hd:(x==("__debug__":Str))=false:=by decide):PE X (.Name x pos) (tC v):=
 fun _ _ _ H _ I h=>Mn I hg hm ⟨v,H,I,r,h⟩ hd
theorem Pa{x:Str}{v:V}{u:Value}{pos:Pos}(hg:Gl X x)(hm:X.mg x=none)(hv:bootBuiltins x=some u)(r:B4 v u)(hn:x≠"__name__":=by decide)(hd:(x==("__debug__":Str))=false:=by decide):PE X (.Name x pos) (tC v):=
 fun _ _ _ H _ I h=>Li I hg hm hv ⟨v,H,I,r,h⟩ hn hd
variable {a b:Expr} {ta tb:TE} {pos:Pos}
def PC(X:Cx)(op:CmpOp)(a b:Expr)(t:TE):Prop:=
 ∀(pins:List (Addr×Obj)) (s:Shared) (σ:St) (H:Hp) (Q:VK),Inv X pins σ H s→t σ H Q→
   wpAny (model X.prog X.w) X.A (eval a X.env) (fun v s₁=>wpAny (model X.prog X.w) X.A (eval b X.env) (fun u s₂=>wpAny (model X.prog X.w) X.A (compareOp op v u) (EP X pins σ Q) X.xe s₂) X.xe s₁) X.xe s
theorem Xj(b:Expr){op:CmpOp}(h:op≠ .In)(h2:op≠ .NotIn):behindInMarks op b=false:=by
 have e1:(op==CmpOp.In)=false:=by cases op <;> first | rfl | exact absurd rfl h
 have e2:(op==CmpOp.NotIn)=false:=by cases op <;> first | rfl | exact absurd rfl h2
 cases b <;> simp [behindInMarks,e1,e2]
def tB(t:TE):TT:=fun σ H Q=>t σ H fun x H1=>∃c,x= .bl c∧Q c H1
theorem Ia{op:CmpOp}{t:TE}(h:PC X op a b t)(h1:behindInMarks op b=false:=by first | exact Xj _ (by decide) (by decide) | rfl):PT X (.Compare a [op] [b] pos) (tB t):=by
 intro pins s σ H Q I hw;refine wpAny_isTrue_Compare1 (thn (h pins s σ H _ I hw) fun v s1 h1=>thn h1 fun u s2 h2=>thn h2 fun c s3 hq_=>?_) h1;obtain ⟨x,H1,I1,r1,q1⟩:=hq_;obtain ⟨d,rfl,q⟩:=q1;cases r1;exact HJ ⟨H1,I1,q⟩
theorem Eg{e:Expr}{t:TE}(h:PE X e t)(he:∀whole,isTrue e X.env whole=(do let v ← whole;standAt e.pos;holding [v] (truthy v)):=by intro _;rfl):PT X e (tB t):=by
 intro pins s σ H Q I hw;refine isTrue_plain (thn (h pins s σ H _ I hw) fun v s1 hq_=>?_) (he _);obtain ⟨x,H1,I1,r1,q1⟩:=hq_;obtain ⟨d,rfl,q⟩:=q1;cases r1;exact HJ ⟨H1,I1,q⟩
variable {tA tB':TT} {rest:List Expr}
def J5s(t u:TT):TT:=fun σ H Q=>t σ H fun c H1=>if c=true then u σ H1 Q else Q false H1
def tOr(t u:TT):TT:=fun σ H Q=>t σ H fun c H1=>if c=true then Q true H1 else u σ H1 Q
def J5t(t:TT):TT:=fun σ H Q=>t σ H fun c H1=>Q (!c) H1
theorem Pb(ha:PT X a tA):PW X (.BoolOp .And [a] pos) tA:=by
 intro wh pins s σ H Q I h;refine isTrue_and (thn (ha pins s σ H Q I h) fun c s1 e=>?_)
 cases c with
 | true=>exact isTrue_and_nil e
 | false=>exact e
theorem T2(ha:PT X a tA):PW X (.BoolOp .Or [a] pos) tA:=by
 intro wh pins s σ H Q I h;refine isTrue_or (thn (ha pins s σ H Q I h) fun c s1 e=>?_)
 cases c with
 | false=>exact isTrue_or_nil e
 | true=>exact e
theorem Pc(ha:PT X a tA)(hb:PW X (.BoolOp .And (b::rest) pos) tB'):PW X (.BoolOp .And (a::b::rest) pos) (J5s tA tB'):=by
 intro wh pins s σ H Q I h;refine isTrue_and (thn (ha pins s σ H _ I h) fun c s1 ⟨H1,I1,q1⟩=>?_)
 cases c with
 | true=>exact hb wh pins s1 σ H1 Q I1 q1
 | false=>exact ⟨H1,I1,q1⟩
theorem U6(ha:PT X a tA)(hb:PW X (.BoolOp .Or (b::rest) pos) tB'):PW X (.BoolOp .Or (a::b::rest) pos) (tOr tA tB'):=by
 intro wh pins s σ H Q I h;refine isTrue_or (thn (ha pins s σ H _ I h) fun c s1 ⟨H1,I1,q1⟩=>?_)
 cases c with
 | true=>exact ⟨H1,I1,q1⟩
 | false=>exact hb wh pins s1 σ H1 Q I1 q1
theorem G3(ha:PT X a tA):PT X (.UnaryOp .Not a pos) (J5t tA):=by
 intro pins s σ H Q I h;exact isTrue_not (ha pins s σ H (fun c H1=>Q (!c) H1) I h)
def J3n(ta tb:TE):TE:=fun σ H Q=>ta σ H fun x H1=>∃c,x= .bl c∧if c=true then tb σ H1 Q else Q (.bl false) H1
def J7q(ta tb:TE):TE:=fun σ H Q=>ta σ H fun x H1=>∃c,x= .bl c∧if c=true then Q (.bl true) H1 else tb σ H1 Q
def J3o(ta:TE):TE:=fun σ H Q=>ta σ H fun x H1=>∃c,x= .bl c∧Q (.bl (!c)) H1
theorem T3{op}{t:TE}(h:PE X a t):PE X (.BoolOp op [a] pos) t:=fun pins s σ H Q I hw=>BoolOp_one (h pins s σ H Q I hw)
theorem T4(ha:PE X a ta)(hb:PE X (.BoolOp .And (b::rest) pos) tb):PE X (.BoolOp .And (a::b::rest) pos) (J3n ta tb):=by
 intro pins s σ H Q I h;refine BoolOp_and (thn (ha pins s σ H _ I h) fun v s1 hq_=>?_);obtain ⟨x,H1,I1,r1,q1⟩:=hq_;obtain ⟨c,rfl,q1⟩:=q1;cases r1;refine HJ ?_
 cases c with
 | true=>exact hb pins s1 σ H1 Q I1 q1
 | false=>exact ⟨.bl false,H1,I1,rfl,q1⟩
theorem Xk(ha:PE X a ta):PE X (.UnaryOp .Not a pos) (J3o ta):=by
 intro pins s σ H Q I h;refine UnaryOp_ (thn (ha pins s σ H _ I h) fun v s1 hq_=>?_);obtain ⟨x,H1,I1,r1,q1⟩:=hq_;obtain ⟨c,rfl,q1⟩:=q1;cases r1;exact not_of (HJ ⟨.bl (!c),H1,I1,rfl,q1⟩)
def tIf(t:TT)(ta tb:TE):TE:=fun σ H Q=>t σ H fun c H1=>if c=true then ta σ H1 Q else tb σ H1 Q
theorem Xl{c:Expr}(hc:PT X c tA)(ha:PE X a ta)(hb:PE X b tb):PE X (.IfExp c a b pos) (tIf tA ta tb):=by
 intro pins s σ H Q I h;refine wpAny_IfExp (thn (hc pins s σ H _ I h) fun d s1 ⟨H1,I1,q1⟩=>?_)
 cases d with
 | true=>exact ha pins s1 σ H1 Q I1 q1
 | false=>exact hb pins s1 σ H1 Q I1 q1
end
end L2
namespace L2
def SqL(K:PySem.W.Frag)(H:Hp)(a:Addr)(xs:List V):Prop:=
 Rd H a (.lst xs)∨
  ∃(o:Obj) (its:Array Value) (n:Nat),K.lookup a=some o∧o.cls= .type "list"∧o.dict=none∧o.data= .seq its n∧its.size≤sizeLine∧B3 xs its.toList
def SqT(K:PySem.W.Frag)(H:Hp)(a:Addr)(xs:List V):Prop:=
 Rd H a (.tup xs)∨
  ∃(o:Obj) (its:Array Value) (n:Nat),K.lookup a=some o∧o.cls= .type "tuple"∧o.data= .seq its n∧its.size≤sizeLine∧B3 xs its.toList
def J7r:Value→Option V
 | .none=>some .non
 | .bool b=>some (.bl b)
 | .int i _=>some (.int i)
 | .str x _=>some (.str x)
 | .bytes b _=>some (.byt b)
 | .float b _=>some (.flt b)
 | .ref a=>some (.ref a)
 | .type n=>some (.ty n)
 | _=>none
theorem B4.abs{x:V}{u:Value}(r:B4 x u):J7r u=some x:=by
 cases x with
 | non=>cases r;rfl
 | bl _=>cases r;rfl
 | int _=>obtain ⟨t,rfl⟩:=r;rfl
 | str _=>obtain ⟨t,rfl⟩:=r;rfl
 | byt _=>obtain ⟨t,rfl⟩:=r;rfl
 | flt _=>obtain ⟨t,rfl⟩:=r;rfl
 | ref _=>cases r;rfl
 | ty _=>cases r;rfl
theorem B4.inj{x y:V}{u:Value}(r:B4 x u)(q:B4 y u):x=y:=FN (r.abs.symm.trans q.abs)
theorem B3.inj:∀{xs ys:List V} {us:List Value},B3 xs us→B3 ys us→xs=ys
 | _,_,_,.nil,.nil=>rfl
 | _,_,_,.cons r t,.cons r' t'=>by rw [r.inj r',B3.inj t t']
section
variable {X:Cx} {pins:List (Addr×Obj)} {σ:St} {H:Hp} {s:Shared} {a:Addr} {xs ys:List V}
theorem SqL.of{K:PySem.W.Frag}(h:H a=some (.lst xs)):SqL K H a xs:= .inl (.inl h)
theorem SqT.of{K:PySem.W.Frag}(h:H a=some (.tup xs)):SqT K H a xs:= .inl (.inl h)
theorem Inv.list(I:Inv X pins σ H s)(h:SqL X.K H a xs):∃its:List Value,B3 xs its∧PlainL s.heap a its.toArray∧xs.length≤sizeLine:=by
 rcases h with h | ⟨o,its,n,hk,hc,hd,hs,hz,r⟩
 · obtain ⟨z,its,n,r,e⟩:=h.ok I.hok
   exact ⟨its,r,⟨_,n,e,rfl,rfl,rfl⟩,z⟩
 · refine ⟨its.toList,r,⟨o,n,I.kIn a o hk,hc,hd,by simpa using hs⟩,?_⟩
   have e:=r.length;simp only [FH]at e;omega
theorem Inv.tuple(I:Inv X pins σ H s)(h:SqT X.K H a xs):∃its:List Value,B3 xs its∧IsTup s.heap a its.toArray∧xs.length≤sizeLine:=by
 rcases h with h | ⟨o,its,n,hk,hc,hs,hz,r⟩
 · obtain ⟨z,its,r,p⟩:=h.ok I.hok
   exact ⟨its,r,p,z⟩
 · refine ⟨its.toList,r,⟨o,I.kIn a o hk,hc,n,by simpa using hs⟩,?_⟩
   have e:=r.length;simp only [FH]at e;omega
theorem Inv.list_inj(I:Inv X pins σ H s)(h:SqL X.K H a xs)(h':SqL X.K H a ys):xs=ys:=by
 obtain ⟨its,r,⟨o,n,e,_,_,d⟩,_⟩:=I.list h;obtain ⟨its',r',⟨o',n',e',_,_,d'⟩,_⟩:=I.list h';rw [e]at e';cases e';rw [d]at d'
 injection d' with d1 _
 have:its=its':=by simpa using congrArg Array.toList d1
 subst this;exact r.inj r'
end
abbrev Cx.wish(X:Cx)(E:Value→Shared→Prop):Cx:={X with xe:=E}
abbrev Cx.nox(X:Cx):Cx:=X.wish fun _ _=>False
theorem Cx.Ok.wish{X:Cx}(ok:X.Ok)(E:Value→Shared→Prop):(X.wish E).Ok:=
 ⟨ok.mod,ok.kind,ok.glob,ok.blt,ok.above,ok.inj,ok.has,ok.cab,ok.hd,ok.frames,ok.stk,ok.exf,ok.bs,ok.bsz,ok.noex,ok.exfs,ok.funs,ok.frf⟩
theorem Cx.Ok.unwish{X:Cx}{E:Value→Shared→Prop}(ok:(X.wish E).Ok):X.Ok:=
 ⟨ok.mod,ok.kind,ok.glob,ok.blt,ok.above,ok.inj,ok.has,ok.cab,ok.hd,ok.frames,ok.stk,ok.exf,ok.bs,ok.bsz,ok.noex,ok.exfs,ok.funs,ok.frf⟩
section
variable {X:Cx} {pins:List (Addr×Obj)} {σ:St} {H:Hp} {s:Shared} {E:Value→Shared→Prop}
theorem Inv.wish(I:Inv X pins σ H s)(E:Value→Shared→Prop):Inv (X.wish E) pins σ H s:=⟨I.ok.wish E,I.os,I.bare,I.base,I.loc,I.cell,I.free,I.freeC,I.pin,I.hok,I.len⟩
theorem Inv.unwish(I:Inv (X.wish E) pins σ H s):Inv X pins σ H s:=⟨I.ok.unwish,I.os,I.bare,I.base,I.loc,I.cell,I.free,I.freeC,I.pin,I.hok,I.len⟩
theorem SP.unwish{D:Gy}{f:Flow}{s':Shared}(h:SP (X.wish E) pins D f s'):SP X pins D f s':=by
 cases f with
 | next=>obtain ⟨σ',H',I,q⟩:=h;exact ⟨σ',H',I.unwish,q⟩
 | brk=>obtain ⟨σ',H',I,q⟩:=h;exact ⟨σ',H',I.unwish,q⟩
 | cont=>obtain ⟨σ',H',I,q⟩:=h;exact ⟨σ',H',I.unwish,q⟩
 | ret u=>obtain ⟨v,σ',H',I,r,q⟩:=h;exact ⟨v,σ',H',I.unwish,r,q⟩
theorem PSs.nox{st:List Stmt}{t:TS}(h:PSs X.nox st t):PSs X st t:=fun pins s σ H D I hw=>
 Hd (h pins s σ H D (I.wish _) hw) (fun _ _ q=>q.unwish) fun _ _ z=>False.elim z
end
section
variable {X:Cx} {st:Stmt} {rest:List Stmt} {t u:TS} {e:Expr} {te:TE} {pos:Pos}
def J3p:TS:=fun D σ H=>D.nx σ H
def J5u(t u:TS):TS:=fun D σ H=>t {D with nx:=u D} σ H
theorem Ah:PSs X [] J3p:=fun _ _ σ H _ I h=>Rq ⟨σ,H,I,h⟩
theorem A1(h1:PS X st t)(h2:PSs X rest u):PSs X (st::rest) (J5u t u):=by
 intro pins s σ H D I h;refine wpAny_execs_cons (thn (h1 pins s σ H {D with nx:=u D} I h) fun f s1 q=>?_)
 cases f with
 | next=>
  obtain ⟨σ',H',I',q⟩:=q;exact h2 pins s1 σ' H' D I' q
 | ret v=>exact q
 | brk=>exact q
 | cont=>exact q
theorem A6(h1:PS X st t):PSs X [st] t:=by
 intro pins s σ H D I h;refine wpAny_execs_cons (thn (h1 pins s σ H D I h) fun f s1 q=>?_)
 cases f with
 | next=>exact Rq q
 | ret v=>exact q
 | brk=>exact q
 | cont=>exact q
def J4u:TS:=fun D σ H=>D.bk σ H
def J5v:TS:=fun D σ H=>D.ct σ H
theorem Inv.quiet{pins:List (Addr×Obj)}{σ:St}{H:Hp}{s:Shared}(I:Inv X pins σ H s):interactive X.env=false:=by simp [interactive,I.ok.kind]
def J3q(te:TE):TS:=fun D σ H=>te σ H fun _ H1=>D.nx σ H1
theorem Ai(he:PE X e te)(hs:swapsWith e none pos.line X.env=pure false:=by rfl):PS X (.Expr e pos) (J3q te):=by
 intro pins s σ H D I h;exact wpAny_Expr_any (thn (he pins s σ H _ I h) fun v s1 ⟨x,H1,I1,r1,q1⟩=>⟨σ,H1,I1,q1⟩) I.quiet hs
def J5w(te:TE):TS:=fun D σ H=>te σ H D.rt
theorem Ae(he:PE X e te):PS X (.Return (some e) pos) (J5w te):=by
 intro pins s σ H D I h;exact wpAny_Return_some (thn (he pins s σ H _ I h) fun v s1 ⟨x,H1,I1,r1,q1⟩=>⟨x,σ,H1,I1,r1,q1⟩)
def J5x:TS:=fun D _ H=>D.rt .non H
def J5y(c:TT)(t u:TS):TS:=fun D σ H=>c σ H fun b H1=>if b=true then t D σ H1 else u D σ H1
theorem Az{c:Expr}{a b:List Stmt}{tc:TT}(hc:PT X c tc)(ha:PSs X a t)(hb:PSs X b u):PS X (.If c a b pos) (J5y tc t u):=by
 intro pins s σ H D I h;refine wpAny_If (thn (hc pins s σ H _ I h) fun d s1 ⟨H1,I1,q1⟩=>?_)
 cases d with
 | true=>exact ha pins s1 σ H1 D I1 q1
 | false=>exact hb pins s1 σ H1 D I1 q1
def Xm:TS:=fun _ _ _=>False
theorem Bm:PS X st Xm:=fun _ _ _ _ _ _ h=>h.elim
end
abbrev TG:=V→St→Hp→(St→Hp→Prop)→Prop
abbrev TGs:=List V→St→Hp→(St→Hp→Prop)→Prop
def PG(X:Cx)(target:Expr)(t:TG):Prop:=
 ∀(pins:List (Addr×Obj)) (s:Shared) (σ:St) (H:Hp) (v:V) (u:Value) (Q:St→Hp→Prop),Inv X pins σ H s→B4 v u→t v σ H Q→
   wpAny (model X.prog X.w) X.A (assign target X.env u) (fun _ s'=>∃σ' H',Inv X pins σ' H' s'∧Q σ' H') X.xe s
def PGs(X:Cx)(ts:List Expr)(t:TGs):Prop:=
 ∀(pins:List (Addr×Obj)) (s:Shared) (σ:St) (H:Hp) (vs:List V) (us:List Value) (Q:St→Hp→Prop),Inv X pins σ H s→B3 vs us→t vs σ H Q→
   wpAny (model X.prog X.w) X.A (assignInOrder ((assignEach ts X.env).map (·.2)) us) (fun _ s'=>∃σ' H',Inv X pins σ' H' s'∧Q σ' H') X.xe s
abbrev T6:=V→V→V→Hp→(Hp→Prop)→Prop
def J4v(X:Cx)(t:T6):Prop:=
 ∀(pins:List (Addr×Obj)) (s:Shared) (σ:St) (H:Hp) (o i v:V) (ov iv u:Value) (Q:Hp→Prop),Inv X pins σ H s→B4 o ov→B4 i iv→B4 v u→t o i v H Q→
   wpAny (model X.prog X.w) X.A (setItem ov iv u) (fun _ s'=>∃H',Inv X pins σ H' s'∧Q H') X.xe s
abbrev TIp:=V→V→Hp→VK→Prop
def PIp(X:Cx)(op:Operator)(t:TIp):Prop:=
 ∀(pins:List (Addr×Obj)) (s:Shared) (σ:St) (H:Hp) (x y:V) (v u:Value) (Q:VK),Inv X pins σ H s→B4 x v→B4 y u→t x y H Q→
   wpAny (model X.prog X.w) X.A (inplaceOp op v u) (EP X pins σ Q) X.xe s
section
variable {X:Cx} {pos:Pos}
def Ce(i:Nat):TG:=fun v σ H Q=>Q (σ.set i (some v)) H
theorem Bj{i:Nat}{x:Str}(hN:X.N.Nodup)(hi:X.N[i]?=some x)(hx:Loc X.env.scope x)(hf:X.fn x=true∨X.env.scope.names.lookup x=some .local:=by first | exact .inl rfl | exact .inr rfl | assumption):PG X (.Name x pos) (Ce i):=by
 intro pins s σ H v u Q I r h;exact wpAny_assign_Name (N3 I hN hi hx r (fun s' I'=>⟨_,H,I',h⟩) hf)
def J2b:TGs:=fun vs σ H Q=>vs=[]∧Q σ H
def N7(t:TG)(u:TGs):TGs:=fun vs σ H Q=>∃v r,vs=v::r∧t v σ H fun σ' H'=>u r σ' H' Q
theorem Kw:PGs X [] J2b:=by
 intro pins s σ H vs us Q I r h;obtain ⟨e,h⟩:=h;subst e;cases r;exact assignInOrder_nil ⟨σ,H,I,h⟩
theorem Cq{e:Expr}{es:List Expr}{t:TG}{u:TGs}(h1:PG X e t)(h2:PGs X es u)
 (hs:(assignEach (e::es) X.env).map (·.2)=assign e X.env::(assignEach es X.env).map (·.2):=by rfl):PGs X (e::es) (N7 t u):=by
 intro pins s σ H vs us Q I r h;obtain ⟨v,vr,e1,h⟩:=h;subst e1
 cases r with
 | cons r rr=>
  rw [hs];refine assignInOrder_cons (thn (h1 pins s σ H _ _ _ I r h) fun _ s1 hq_=>?_);obtain ⟨σ1,H1,I1,q1⟩:=hq_;exact h2 pins s1 σ1 H1 _ _ Q I1 rr q1
def J2c(K:PySem.W.Frag)(n:Nat)(t:TGs):TG:=fun v σ H Q=>∃a xs,v= .ref a∧SqT K H a xs∧xs.length=n∧t xs σ H Q
theorem N9{es:List Expr}{k:Nat}{t:TGs}{n:Nat}(hc:X.calm=true)(h:PGs X es t)
 (hn:(assignEach es X.env).length=n:=by rfl) (hst:(assignEach es X.env).findIdx? (·.1)=none:=by rfl):PG X (.Tuple es k pos) (J2c X.K n t):=by
 intro pins s σ H v u Q I r hw;obtain ⟨a,xs,e1,hq,hl,hw⟩:=hw;subst e1;cases r;obtain ⟨its,rv,ht,hz⟩:=I.tuple hq;refine assign_Tuple_tuple (I.ok.hd hc) ht (by simp [hn,← hl,rv.length]) hst fun h' hx=>?_;have I1:Inv X pins σ H {s with heap:=h'}:=I.kept (t':=s.toks) fun b o e=>hx b o (FD (Fp e)) e;exact h pins _ σ H xs _ Q I1 (by simpa using rv) hw
def J5z(to ti:TE)(t:T6):TG:=fun v σ H Q=>to σ H fun o H1=>ti σ H1 fun i H2=>t o i v H2 fun H3=>Q σ H3
theorem Xn{o i:Expr}{to ti:TE}{t:T6}(ho:PE X o to)(hi:PE X i ti)(hs:J4v X t)
 (ha:∀v,assign (.Subscript o i pos) X.env v=(do
  let ov ← holding [v] (eval o X.env)
  let iv ← holding [v,ov] (eval i X.env)
  standAt pos
  holding [v,ov,iv] (setItem ov iv v)
  release [v,ov,iv] []):=by intro _;rfl):PG X (.Subscript o i pos) (J5z to ti t):=by
 intro pins s σ H v u Q I r h;rw [ha];refine FJ (wpAny_holding (thn (ho pins s σ H _ I h) fun ov s1 hq_=>?_));obtain ⟨x,H1,I1,r1,q1⟩:=hq_;refine FJ (wpAny_holding (thn (hi pins s1 σ H1 _ I1 q1) fun iv s2 hq_=>?_));obtain ⟨y,H2,I2,r2,q2⟩:=hq_;refine FJ (wpAny_standAt (FJ (wpAny_holding (thn (hs pins s2 σ H2 x y v ov iv u _ I2 r1 r2 r q2) fun _ s3 ⟨H3,I3,q3⟩=>?_))));exact wpAny_release ⟨σ,H3,I3,q3⟩
def Wh(te:TE)(g:TG):TS:=fun D σ H=>te σ H fun x H1=>g x σ H1 D.nx
theorem Xo{tg e:Expr}{te:TE}{g:TG}(he:PE X e te)(hg:PG X tg g)(hs:swapsWithSole [tg] e pos.line X.env=pure false:=by rfl)(hw:swappedStores [tg] e X.env=pure none:=by rfl)
 (h1:(assignEach [tg] X.env).map (·.2)=[assign tg X.env]:=by rfl):PS X (.Assign [tg] e pos) (Wh te g):=by
 intro pins s σ H D I h;refine wpAny_Assign_stores (thn (he pins s σ H _ I h) fun v s1 hq_=>?_) hs hw;obtain ⟨x,H1,I1,r1,q1⟩:=hq_;rw [h1];exact thn (hg pins s1 σ H1 x v _ I1 r1 q1) fun _ s2 q=>q
theorem As{i:Nat}{x:Str}{e:Expr}{te:TE}{pos':Pos}(hN:X.N.Nodup)(hi:X.N[i]?=some x)(hx:Loc X.env.scope x)(he:PE X e te)(hs:swapsWith e (some (.Name x pos')) pos.line X.env=pure false:=by rfl)(hf:X.fn x=true∨X.env.scope.names.lookup x=some .local:=by first | exact .inl rfl | exact .inr rfl | assumption):
 PS X (.Assign [.Name x pos'] e pos) (Wh te (Ce i)):=by
 intro pins s σ H D I h;refine wpAny_Assign_Name (thn (he pins s σ H _ I h) fun v s1 hq_=>?_) hs;obtain ⟨y,H1,I1,r1,q1⟩:=hq_;exact N3 I1 hN hi hx r1 (fun s2 I2=>⟨_,H1,I2,q1⟩) hf
def J7s(i j:Nat)(ta:TA):TS:=fun D σ H=>ta σ H fun vs H1=>∃v w,vs=[v,w]∧D.nx ((σ.set i (some v)).set j (some w)) H1
def J60(i:Nat)(te:TE)(ti:TIp):TS:=fun D σ H=>∃x,σ[i]?=some (some x)∧te σ H fun y H1=>ti x y H1 fun z H2=>D.nx (σ.set i (some z)) H2
theorem Xp{i:Nat}{x:Str}{e:Expr}{te:TE}{op:Operator}{ti:TIp}{pos':Pos}(hN:X.N.Nodup)(hi:X.N[i]?=some x)(hx:Loc X.env.scope x)(he:PE X e te)(ho:PIp X op ti)(hf:X.fn x=true∨X.env.scope.names.lookup x=some .local:=by first | exact .inl rfl | exact .inr rfl | assumption):
 PS X (.AugAssign (.Name x pos') op e pos) (J60 i te ti):=by
 intro pins s σ H D I h;obtain ⟨v,e1,h⟩:=h;obtain ⟨m,hn,hl⟩:=I.loc
 have vis:Vis X.env.scope x:=by rcases hx with k | k;exact .inl k;exact .inr (.inl k)
 obtain ⟨u,r,l⟩:=hl i x v hi e1 vis;refine wpAny_AugAssign_Name ?_
 have go:wpAny (model X.prog X.w) X.A (eval e X.env) (fun w s₂=>wpAny (model X.prog X.w) X.A (inplaceOp op u w) (fun r s₃=>wpAny (model X.prog X.w) X.A (storeName X.env x r) (fun _=>SP X pins D .next) X.xe s₃) X.xe s₂) X.xe s:=by
  refine thn (he pins s σ H _ I h) fun w s1 hq_=>?_;obtain ⟨y,H1,I1,r1,q1⟩:=hq_;refine thn (ho pins s1 σ H1 v y u w _ I1 r r1 q1) fun z s2 hq_=>?_;obtain ⟨zv,H2,I2,r2,q2⟩:=hq_;exact N3 I2 hN hi hx r2 (fun s3 I3=>⟨_,H2,I3,q2⟩) hf
 rcases l with ⟨hk,hm⟩ | ⟨hk,c,hc,hcell⟩
 · exact wpAny_loadName_local I.ok.kind hk hn hm go
 · rcases hk with hk | hk
   · exact wpAny_loadName_cell I.ok.kind hk hc hcell go
   · rcases hx with k | k
     · have:X.env.scope.names.lookup x=some .free:=hk
       rw [k]at this;cases this
     · have:X.env.scope.names.lookup x=some .free:=hk
       rw [k]at this;cases this
def J3r(to ti te:TE)(tget:V→V→Hp→VK→Prop)(tip:TIp)(tset:T6):TS:=fun D σ H=>to σ H fun o H1=>ti σ H1 fun i H2=>tget o i H2 fun x H3=>te σ H3 fun y H4=>tip x y H4 fun z H5=>tset o i z H5 fun H6=>D.nx σ H6
def J61(X:Cx)(t:V→V→Hp→VK→Prop):Prop:=
 ∀(pins:List (Addr×Obj)) (s:Shared) (σ:St) (H:Hp) (o i:V) (ov iv:Value) (Q:VK),Inv X pins σ H s→B4 o ov→B4 i iv→t o i H Q→
   wpAny (model X.prog X.w) X.A (getItem ov iv) (EP X pins σ Q) X.xe s
theorem Mo{o i e:Expr}{to ti te:TE}{tget:V→V→Hp→VK→Prop}{tip:TIp}{tset:T6}{op:Operator}{tpos:Pos}(ho:PE X o to)(hi:PE X i ti)(hg:J61 X tget)(he:PE X e te)(hp:PIp X op tip)(hs:J4v X tset)
 (ha:∀ov iv new,augStore i ov iv new=(do holding [new,ov,iv] (setItem ov iv new);release [new,ov,iv] [];pure .next):=by intros;rfl):PS X (.AugAssign (.Subscript o i tpos) op e pos) (J3r to ti te tget tip tset):=by
 intro pins s σ H D I h;refine wpAny_AugAssign_SubscriptAny (thn (ho pins s σ H _ I h) fun ov s1 hq_=>?_) ha;obtain ⟨x1,H1,I1,r1,q1⟩:=hq_;refine thn (hi pins s1 σ H1 _ I1 q1) fun iv s2 hq_=>?_;obtain ⟨x2,H2,I2,r2,q2⟩:=hq_;refine thn (hg pins s2 σ H2 x1 x2 ov iv _ I2 r1 r2 q2) fun old s3 hq_=>?_;obtain ⟨x3,H3,I3,r3,q3⟩:=hq_;refine thn (he pins s3 σ H3 _ I3 q3) fun v s4 hq_=>?_;obtain ⟨x4,H4,I4,r4,q4⟩:=hq_;refine thn (hp pins s4 σ H4 x3 x4 old v _ I4 r3 r4 q4) fun new s5 hq_=>?_;obtain ⟨x5,H5,I5,r5,q5⟩:=hq_
 exact thn (hs pins s5 σ H5 x1 x2 x5 ov iv new _ I5 r1 r2 r5 q5) fun _ s6 ⟨H6,I6,q6⟩=>⟨σ,H6,I6,q6⟩
def ipI(f:Int→Int→Int):TIp:=fun x y H Q=>∃i j,x= .int i∧y= .int j∧Q (.int (f i j)) H
theorem Lj:PIp X .Add (ipI fun i j=>i+j):=by
 intro pins s σ H x y v u Q I r1 r2 h;obtain ⟨i,j,e1,e2,q⟩:=h;subst e1;subst e2;obtain ⟨t,rfl⟩:=r1;obtain ⟨t',rfl⟩:=r2;exact iadd_int ⟨.int _,H,I.tok _,⟨_,rfl⟩,q⟩
end
section
variable {X:Cx} {pos:Pos}
def Xq(c:TT)(tb:TS):TS:=fun D σ H=>∃W:Nat→St→Hp→Prop,(∃m,W m σ H)∧∀m σ H,W m σ H→
 c σ H fun b H1=>if b=true then ∃N:St→Hp→Prop,(∀σ' H',N σ' H'→∃m',m' < m∧W m' σ' H')∧tb {D with nx:=N,ct:=N,bk:=D.nx} σ H1 else D.nx σ H1
theorem Xr{c:Expr}{body:List Stmt}{tc:TT}{tb:TS}(hp:PassesOwn (model X.prog X.w) X.A X.env X.xe)(hc:PT X c tc)(hb:PSs X body tb):PS X (.While c body [] pos) (Xq tc tb):=by
 intro pins s σ H D I h;obtain ⟨W,⟨m0,w0⟩,turn⟩:=h;refine wpAny_While (codeAny_whileLoop (fun n s'=>∃σ' H',Inv X pins σ' H' s'∧W n σ' H') ?_ m0 ⟨σ,H,I,w0⟩);rintro n s1 ⟨σ1,H1,I1,w1⟩;refine HE hp (thn (hc pins s1 σ1 H1 _ I1 (turn n σ1 H1 w1)) fun b s2 ⟨H2,I2,q2⟩=>?_)
 cases b with
 | true=>
  obtain ⟨N,hN,q2⟩:=q2;rw [if_pos rfl];refine HE hp (thn (hb pins s2 σ1 H2 _ I2 q2) fun f s3 q3=>?_)
  cases f with
  | next=>
   obtain ⟨σ3,H3,I3,n3⟩:=q3;obtain ⟨m',hm,w3⟩:=hN σ3 H3 n3;exact ⟨m',hm,σ3,H3,I3,w3⟩
  | cont=>
   obtain ⟨σ3,H3,I3,n3⟩:=q3;obtain ⟨m',hm,w3⟩:=hN σ3 H3 n3;exact ⟨m',hm,σ3,H3,I3,w3⟩
  | brk=>exact q3
  | ret v=>exact q3
 | false=>
  rw [if_neg Fu];exact Rq ⟨σ1,H2,I2,q2⟩
end
structure It where
 go:Nat→Hp→Prop
 yld:Nat→Hp→V→Hp→Prop
 stop:Nat→Hp→Prop
def Km(X:Cx)(pins:List (Addr×Obj))(H:Hp)(b:Addr):Prop:=
 H b=none∧b≠X.env.locals∧b∉X.fs∧(b∈X.ex∨X.s₀.heap.objs.size≤b)∧(∀x c,X.env.cells.lookup x=some c→c≠b)∧∀p∈X.pn++pins,p.1≠b
theorem Inv.fpOk{X:Cx}{pins:List (Addr×Obj)}{σ:St}{H H':Hp}{s:Shared}{b:Addr}(I:Inv X pins σ H s)(hb:s.heap.objs.size≤b)(hn:H' b=none):Km X pins H' b:=by
 refine ⟨hn,Nat.ne_of_gt (Ft I.lt hb),I.nofs hb,.inr (FA I.sz hb),fun x c e z=>?_,fun p hp z=>?_⟩
 · obtain ⟨v,q⟩:=I.cell x c e
   exact absurd (Ft q.lt (by rw [z];exact hb)) (HB _)
 · exact absurd (Ft (Fp (I.pin p hp).1) (by rw [z];exact hb)) (HB _)
structure T7(P:Program)(w:World)(K:PySem.W.Frag)(tg:Expr)(J:It)(fp:List Addr)(it:Addr)(tn:Nat→Heap→Prop):Prop where
 mem:it∈fp
 obj:∀i h,tn i h→∀b∈fp,∃o,h.get? b=some o∧∀v,o.data≠ .cell v
 keep:∀i h h',tn i h→(∀b∈fp,∀o,h.get? b=some o→h'.get? b=some o)→tn i h'
 item:∀(X:Cx),X.prog=P→X.w=w→X.K=K→X.calm=true→∀(i:Nat) (pins:List (Addr×Obj)) (s:Shared) (σ:St) (H:Hp) (E:Value→Shared→Prop),Inv X pins σ H s→(∀b∈fp,Km X pins H b)→tn i s.heap→J.go i H→
  wpAny (model P w) X.A (pyNext (.ref it)) (fun r s1=>∃u,r=some u∧
   wpAny (model P w) X.A (letOwnedTupleGo tg (.ref it) u) (fun _ s2=>∃x H',Inv X pins σ H' s2∧B4 x u∧J.yld i H x H'∧tn (i+1) s2.heap∧∀b∈fp,H' b=none) E s1) E s
 done:∀(X:Cx),X.prog=P→X.w=w→X.K=K→X.calm=true→∀(i:Nat) (pins:List (Addr×Obj)) (s:Shared) (σ:St) (H:Hp) (E:Value→Shared→Prop),Inv X pins σ H s→(∀b∈fp,Km X pins H b)→tn i s.heap→J.stop i H→
   wpAny (model P w) X.A (pyNext (.ref it)) (fun r s1=>r=none∧Inv X pins σ H s1) E s
 self:∀(A:Around) (i:Nat) (s:Shared) (Q:Value→Shared→Prop) (E:Value→Shared→Prop),tn i s.heap→Q (.ref it) s→wpAny (model P w) A (pyIter (.ref it)) Q E s
abbrev TI:=St→Hp→(It→Hp→Prop)→Prop
def PIE(X:Cx)(pins:List (Addr×Obj))(σ:St)(tg:Expr)(R:It→Hp→Prop)(itv:Value)(s2:Shared):Prop:=
 ∃(it:Addr) (fp:List Addr) (tn:Nat→Heap→Prop) (J:It) (H':Hp),itv= .ref it∧Inv X pins σ H' s2∧T7 X.prog X.w X.K tg J fp it tn∧tn 0 s2.heap∧(∀b∈fp,Km X pins H' b)∧R J H'
def PI(X:Cx)(tg iter:Expr)(wi:TI):Prop:=
 ∀(pins:List (Addr×Obj)) (s:Shared) (σ:St) (H:Hp) (R:It→Hp→Prop),Inv X pins σ H s→wi σ H R→
   wpAny (model X.prog X.w) X.A (eval iter X.env) (fun v s1=>wpAny (model X.prog X.w) X.A (pyIter v) (PIE X pins σ tg R) X.xe s1) X.xe s
theorem U7{M:Model}{A:Around}{E:Value→Shared→Prop}{s:Shared}{tg:Expr}{it:Addr}{u:Value}{o:Obj}{n:String}{vs:Array Value}{Q:Unit→Shared→Prop}(ho:s.heap.get? it=some o)(hc:o.cls= .type n)(hd:o.data= .fields vs)
 (hn:["enumerate","zip","dict_itemiterator","dict_reverseitemiterator","odict_iterator","itertools.zip_longest","itertools.pairwise"].contains n=false) (hQ:Q () s):wpAny M A (letOwnedTupleGo tg (.ref it) u) Q E s:=by
 unfold letOwnedTupleGo
 cases tg <;> first
  | exact FU hQ
  | (cases u <;> first
   | exact FU hQ
   | (refine FJ (wpAny_load ho ?_)
      rw [hc,hd];show wpAny M A (if (["enumerate","zip","dict_itemiterator","dict_reverseitemiterator","odict_iterator","itertools.zip_longest","itertools.pairwise"].contains n && vs[0]?==some (rawInt _))=true then _ else _) Q E s;rw [if_neg (by intro h;rw [hn,Bool.false_and]at h;cases h)]
      exact FU hQ))
def Itl(K:PySem.W.Frag)(a:Addr):It:=
 ⟨fun i H=>∃xs x,SqL K H a xs∧xs[i]?=some x,fun i H x H'=>H'=H∧∀xs,SqL K H a xs→xs[i]?=some x,fun i H=>∃xs,SqL K H a xs∧xs.length≤i⟩
def Itt(K:PySem.W.Frag)(a:Addr):It:=
 ⟨fun i H=>∃xs x,SqT K H a xs∧xs[i]?=some x,fun i H x H'=>H'=H∧∀xs,SqT K H a xs→xs[i]?=some x,fun i H=>∃xs,SqT K H a xs∧xs.length≤i⟩
def Itr(lo:Int)(n:Nat):It:=⟨fun i _=>i < n,fun i H x H'=>H'=H∧x= .int (lo+i),fun i _=>n≤i⟩
theorem Wi{P:Program}{w:World}{K:PySem.W.Frag}{tg:Expr}(a it:Addr):T7 P w K tg (Itl K a) [it] it (fun i h=>h.IsListIter it a i) where
 mem:=by simp
 obj:=fun i h st b hb=>by
  have e:b=it:=by simpa using hb
  subst e;obtain ⟨o,e,c,d⟩:=st;exact ⟨o,e,fun v z=>by rw [d]at z;cases z⟩
 keep:=fun i h h' st k=>st.at fun o e=>k it (by simp) o e
 item:=by
  intro X hP hw hK hc i pins s σ H E I hf st hg;subst hP hw hK;obtain ⟨xs,x,hq,hx⟩:=hg;obtain ⟨its,rv,p,hz⟩:=I.list hq;obtain ⟨u,hu,ru⟩:=rv.get hx;obtain ⟨f0,f1,f2,f3,f4,f5⟩:=hf it (by simp);refine wpAny_pyNext_list_item st p.isList (x:=u) (by simpa using hu) fun h' st' sb=>?_;have I1:Inv X pins σ H {s with heap:=h'}:=I.turned (t':=s.toks) (fun b o hb e=>(sb.2 b hb).trans e) f0 f1 f3 f4 f5;obtain ⟨o,e,c,d⟩:=id st';exact ⟨u,rfl,U7 (s:={s with heap:=h'}) e c d (by decide) ⟨x,H,I1,ru,⟨rfl,fun ys hy=>by rw [I.list_inj hy hq];exact hx⟩,st',fun b hb=>(hf b hb).1⟩⟩
 done:=by
   intro X hP hw hK hc i pins s σ H E I hf st hg;subst hP hw hK;obtain ⟨xs,hq,hx⟩:=hg;obtain ⟨its,rv,p,hz⟩:=I.list hq;obtain ⟨f0,f1,f2,f3,f4,f5⟩:=hf it (by simp);have hl:=rv.length
   exact wpAny_pyNext_list_end (I.ok.hd hc) st p.isList (by simp;omega) fun h' eb=>⟨rfl,I.turned (t':=s.toks) (fun b o hb e=>eb b o hb e) f0 f1 f3 f4 f5⟩
 self:=fun _ _ _ _ _ st h=>wpAny_pyIter_listiter st h
theorem T8{P:Program}{w:World}{K:PySem.W.Frag}{tg:Expr}(it:Addr)(lo:Int)(n:Nat):T7 P w K tg (Itr lo n) [it] it (fun i h=>IsRangeIter h it (lo+(i:Nat) * 1) ((n:Int) - (i:Nat)) 1) where
 mem:=by simp
 obj:=fun i h st b hb=>by
  have e:b=it:=by simpa using hb
  subst e
  exact ⟨_,st,fun v z=>by
   have z':Data.fields _=Data.cell v:=z
   cases z'⟩
 keep:=fun i h h' st k=>k it (by simp) _ st
 item:=by
  intro X hP hw hK hc i pins s σ H E I hf st hg;subst hP hw hK;obtain ⟨f0,f1,f2,f3,f4,f5⟩:=hf it (by simp);have W:=Walks.range (prog:=X.prog) (w:=X.w) (I.ok.hd hc) it lo 1 n;refine W.item i s _ _ hg st fun v h' tk hv st' kk=>?_;obtain ⟨t,rfl⟩:=hv;have I1:Inv X pins σ H {s with heap:=h',toks:=tk}:=I.turned (fun b o hb e=>kk b o (by simpa using hb) e) f0 f1 f3 f4 f5;refine ⟨_,rfl,U7 (s:={s with heap:=h',toks:=tk}) (n:="range_iterator") st' rfl rfl (by decide) ⟨.int (lo+i),H,I1,⟨t,?_⟩,⟨rfl,rfl⟩,st',fun b hb=>(hf b hb).1⟩⟩;rw [Int.mul_one]
 done:=by
   intro X hP hw hK hc i pins s σ H E I hf st hg;subst hP hw hK;obtain ⟨f0,f1,f2,f3,f4,f5⟩:=hf it (by simp)
   exact wpAny_pyNext_range_end (I.ok.hd hc) st (by have:n≤i:=hg;omega) fun h' eb=>⟨rfl,I.turned (t':=s.toks) (fun b o hb e=>eb b o hb e) f0 f1 f3 f4 f5⟩
 self:=fun _ _ _ _ _ st h=>wpAny_pyIter_rangeiter st h
end L2
namespace L2
section
variable {X:Cx} {tg:Expr}
def J3s(K:PySem.W.Frag)(tl:TE):TI:=fun σ H R=>tl σ H fun x H1=>∃a,x= .ref a∧(∃xs,SqL K H1 a xs)∧R (Itl K a) H1
def J7t(K:PySem.W.Frag)(tl:TE):TI:=fun σ H R=>tl σ H fun x H1=>∃a,x= .ref a∧(∃xs,SqT K H1 a xs)∧R (Itt K a) H1
theorem C9{l:Expr}{tl:TE}(hl:PE X l tl):PI X tg l (J3s X.K tl):=by
 intro pins s σ H R I h;refine thn (hl pins s σ H _ I h) fun v s1 hq_=>?_;obtain ⟨x,H1,I1,r1,q1⟩:=hq_;obtain ⟨a,e,⟨xs,hq⟩,q⟩:=q1;subst e;cases r1;obtain ⟨its,rv,p,hz⟩:=I1.list hq;refine RN p.isList ?_;refine ⟨s1.heap.objs.size,[s1.heap.objs.size],_,_,H1,rfl,I1.kept (t':=s1.toks) fun b o e=>Fl _ e,Wi a _,⟨_,FG _ rfl,rfl,rfl⟩,fun b hb=>?_,q⟩
 have e:b=s1.heap.objs.size:=by simpa using hb
 subst e;exact I1.fpOk (Ff _) (I1.hok.fresh (Ff _))
theorem Xs{pins:List (Addr×Obj)}{σ:St}{H:Hp}{s:Shared}{R:It→Hp→Prop}{E:Value→Shared→Prop}{lo hi:Int}{t u v:Tok}{tk:Nat}(I:Inv X pins σ H s)(h1:-(2 ^ 62)≤lo)(h2:lo < 2 ^ 62)(h3:-(2 ^ 62)≤hi)(h4:hi < 2 ^ 62)
 (q:R (Itr lo (hi - lo).toNat) H):wpAny (model X.prog X.w) X.A (pyIter (.ref s.heap.objs.size)) (PIE X pins σ tg R) E {s with heap:=s.heap.push {cls:= .type "range",data:= .fields #[.int lo t,.int hi u,.int 1 v]},toks:=tk}:=by
 refine wpAny_pyIter_range (IsRange.new ..) (small_one h1 h2 h3 h4) ?_;have I1:Inv X pins σ H {s with heap:=s.heap.push {cls:= .type "range",data:= .fields #[.int lo t,.int hi u,.int 1 v]},toks:=tk}:=I.kept fun b o e=>Fl _ e
 refine ⟨(s.heap.push {cls:= .type "range",data:= .fields #[.int lo t,.int hi u,.int 1 v]}).objs.size,[(s.heap.push {cls:= .type "range",data:= .fields #[.int lo t,.int hi u,.int 1 v]}).objs.size],_,_,H,rfl,
  I1.kept (t':=tk) fun b o e=>Fl _ e,T8 _ lo (hi - lo).toNat,?_,fun b hb=>?_,q⟩
 · have e1:lo+((0:Nat):Int) * 1=lo:=by simp
   have e2:(((hi - lo).toNat:Nat):Int) - ((0:Nat):Int)=Builtin.Range.rangeSize lo hi 1:=by rw [rangeSize_one];split <;> omega
   show IsRangeIter _ _ (lo+((0:Nat):Int) * 1) ((((hi - lo).toNat:Nat):Int) - ((0:Nat):Int)) 1;rw [e1,e2];exact FG _ rfl
 · have e:b=(s.heap.push {cls:= .type "range",data:= .fields #[.int lo t,.int hi u,.int 1 v]}).objs.size:=by simpa using hb
   subst e;exact I1.fpOk (Ff _) (I1.hok.fresh (Ff _))
def J3t(ta:TA):TI:=fun σ H R=>ta σ H fun vs H1=>∃j:Int,vs=[.int j]∧-(2 ^ 62)≤j∧j < 2 ^ 62∧R (Itr 0 j.toNat) H1
def J62(ta:TA):TI:=fun σ H R=>ta σ H fun vs H1=>∃i j:Int,vs=[.int i,.int j]∧(-(2 ^ 62)≤i∧i < 2 ^ 62∧-(2 ^ 62)≤j∧j < 2 ^ 62)∧R (Itr i (j - i).toNat) H1
theorem Iq{a:Expr}{ta:TA}{p pos:Pos}(hg:Gl X "range")(hm:X.mg "range"=none)(ha:PA X [a] ta)(hs:starEach [a] X.env=[(false,eval a X.env)]:=by rfl):PI X tg (.Call (.Name "range" p) [a] [] pos) (J3t ta):=by
 intro pins s σ H R I h;refine Call_ (Li I hg hm boot_range (HK (thn (ha pos pins s σ H _ I h) fun us s1 hq_=>?_) hs rfl));obtain ⟨vs,H1,I1,r1,q1⟩:=hq_;obtain ⟨j,e,q1,q2,q⟩:=q1;subst e
 cases r1 with
 | cons r rr=>
  cases rr;obtain ⟨t,rfl⟩:=r;exact call_range_1 (Xs I1 (by omega) (by omega) q1 q2 (by simpa using q))
def J63(wi:TI)(g:TG)(tb:TS):TS:=fun D σ H=>wi σ H fun J H1=>∃W:Nat→Nat→St→Hp→Prop,(∃m,W 0 m σ H1)∧∀i m σ H,W i m σ H→
 (J.stop i H∧D.nx σ H)∨(J.go i H∧∃N:St→Hp→Prop,(∀σ' H',N σ' H'→∃m',m' < m∧W (i+1) m' σ' H')∧∀x H',J.yld i H x H'→g x σ H' fun σ2 H2=>tb {D with nx:=N,ct:=N,bk:=D.nx} σ2 H2)
def Lk(fp:List Addr)(h:Heap):List (Addr×Obj):=fp.filterMap fun b=>(h.get? b).map fun o=>(b,o)
theorem G4{fp:List Addr}{h:Heap}{b:Addr}{o:Obj}(hb:b∈fp)(e:h.get? b=some o):(b,o)∈Lk fp h:=List.mem_filterMap.mpr ⟨b,hb,by rw [e];rfl⟩
theorem Wj{fp:List Addr}{h:Heap}{p:Addr×Obj}(hp:p∈Lk fp h):p.1∈fp∧h.get? p.1=some p.2:=by
 obtain ⟨b,hb,e⟩:=List.mem_filterMap.mp hp
 cases q:h.get? b with
 | none=>rw [q]at e;cases e
 | some o=>
  rw [q]at e;have e':(b,o)=p:=FN e;subst e';exact ⟨hb,q⟩
theorem Inv.pinned{pins:List (Addr×Obj)}{σ:St}{H:Hp}{s:Shared}{fp:List Addr}(I:Inv X pins σ H s)(hf:∀b∈fp,Km X pins H b)(ho:∀b∈fp,∃o,s.heap.get? b=some o∧∀v,o.data≠ .cell v):Inv X (pins++Lk fp s.heap) σ H s:=
 I.pins_of fun p hp=>(Fn.mp hp).elim (fun z=>I.pin p (Fs _ z)) fun z=>by
  obtain ⟨hb,e⟩:=Wj z;obtain ⟨f0,f1,f2,_⟩:=hf p.1 hb;obtain ⟨o,e',d⟩:=ho p.1 hb;rw [e]at e';cases e';exact ⟨e,f0,f1,f2,d⟩
theorem Inv.unpinned{pins pl:List (Addr×Obj)}{σ:St}{H:Hp}{s:Shared}(I:Inv X (pins++pl) σ H s):Inv X pins σ H s:=I.pins_of fun p hp=>I.pin p (Fs _ (FL _ hp))
theorem D8{iter:Expr}{body:List Stmt}{wi:TI}{g:TG}{tb:TS}{pos:Pos}(hp:PassesOwn (model X.prog X.w) X.A X.env X.xe)(hc:X.calm=true)(hi:PI X tg iter wi)(hg:PG X tg g)(hb:PSs X body tb)
 (hs:∀x,foldedSetIterable iter X.env x=pure x:=by intro _;rfl):PS X (.For tg iter body [] pos) (J63 wi g tb):=by
 intro pins s σ H D I h;refine wpAny_For (thn (hi pins s σ H _ I h) fun v s1 h1=>thn h1 fun itv s2 h2=>?_) hs;obtain ⟨it,fp,tn,J,H2,e,I2,T,st2,f2,W,⟨m0,w0⟩,turn⟩:=h2;subst e
 have stat:∀{H':Hp},(∀b∈fp,H' b=none)→∀b∈fp,Km X pins H' b:=fun hn b hb=>⟨hn b hb,(f2 b hb).2⟩
 refine codeAny_forLoop_any (fun n s'=>∃i σ' H',Inv X pins σ' H' s'∧tn i s'.heap∧(∀b∈fp,H' b=none)∧W i n σ' H') ?_ m0 ⟨0,σ,H2,I2,st2,fun b hb=>(f2 b hb).1,w0⟩;rintro n s3 ⟨i,σ3,H3,I3,st3,fr3,w3⟩;rcases turn i n σ3 H3 w3 with ⟨stop,qn⟩ | ⟨go,N,hN,step⟩
 · refine HE hp (thn (T.done X rfl rfl rfl hc i pins s3 σ3 H3 X.xe I3 (stat fr3) st3 stop) fun r s4 ⟨hr,I4⟩=>?_)
   subst hr;exact Rq ⟨σ3,H3,I4,qn⟩
 · refine HE hp (thn (T.item X rfl rfl rfl hc i pins s3 σ3 H3 X.xe I3 (stat fr3) st3 go) fun r s4 ⟨u,hr,h4⟩=>?_)
   subst hr;refine HE hp (thn h4 fun _ s5 hq_=>?_);obtain ⟨x,H5,I5,r5,y5,st5,fr5⟩:=hq_;have I5':=I5.pinned (stat fr5) (T.obj _ _ st5);refine HE hp (thn (hg _ s5 σ3 H5 x u _ I5' r5 (step x H5 y5)) fun _ s6 hq_=>?_);obtain ⟨σ6,H6,I6,q6⟩:=hq_;refine HE hp (thn (hb _ s6 σ6 H6 _ I6 q6) fun f s7 q7=>?_)
   have again:∀{σ7:St} {H7:Hp},Inv X (pins++Lk fp s5.heap) σ7 H7 s7→N σ7 H7→∃m,m < n∧∃i σ' H',Inv X pins σ' H' s7∧tn i s7.heap∧(∀b∈fp,H' b=none)∧W i m σ' H':=fun {σ7 H7} I7 n7=>by
    obtain ⟨m',hm,w7⟩:=hN σ7 H7 n7;refine ⟨m',hm,i+1,σ7,H7,I7.unpinned,T.keep _ _ _ st5 fun b hb o e=>(I7.pin (b,o) (Fs _ (Fs _ (G4 hb e)))).1,fun b hb=>?_,w7⟩;obtain ⟨o,e,d⟩:=T.obj _ _ st5 b hb;exact (I7.pin (b,o) (Fs _ (Fs _ (G4 hb e)))).2.1
   cases f with
   | next=>obtain ⟨σ7,H7,I7,n7⟩:=q7;exact again I7 n7
   | cont=>obtain ⟨σ7,H7,I7,n7⟩:=q7;exact again I7 n7
   | brk=>obtain ⟨σ7,H7,I7,q7⟩:=q7;exact ⟨σ7,H7,I7.unpinned,q7⟩
   | ret v=>obtain ⟨x7,σ7,H7,I7,r7,q7⟩:=q7;exact ⟨x7,σ7,H7,I7.unpinned,r7,q7⟩
end
theorem Xt{K:PySem.W.Frag}{a:Addr}{xs:List V}{g:TG}{tb:TS}{D:Gy}{σ:St}{H:Hp}(Pv:Nat→St→Hp→Prop)(h0:Pv 0 σ H)(hl:∀i σ H,i≤xs.length→Pv i σ H→SqL K H a xs)
 (hs:∀i x σ H,xs[i]?=some x→Pv i σ H→g x σ H fun σ2 H2=>tb {D with nx:=Pv (i+1),ct:=Pv (i+1),bk:=D.nx} σ2 H2) (hd:∀σ H,Pv xs.length σ H→D.nx σ H):
 ∃W:Nat→Nat→St→Hp→Prop,(∃m,W 0 m σ H)∧∀i m σ H,W i m σ H→
  ((Itl K a).stop i H∧D.nx σ H)∨((Itl K a).go i H∧∃N:St→Hp→Prop,(∀σ' H',N σ' H'→∃m',m' < m∧W (i+1) m' σ' H')∧∀x H',(Itl K a).yld i H x H'→g x σ H' fun σ2 H2=>tb {D with nx:=N,ct:=N,bk:=D.nx} σ2 H2):=by
 refine ⟨fun i m σ H=>m=xs.length - i∧i≤xs.length∧Pv i σ H,⟨xs.length,by simp,Fq _,h0⟩,?_⟩;rintro i m σ H ⟨rfl,hi,p⟩;have q:=hl i σ H hi p
 by_cases hlt:i < xs.length
 · refine .inr ⟨⟨xs,xs[i],q,by simp [hlt]⟩,Pv (i+1),fun σ' H' p'=>⟨xs.length - (i+1),by omega,rfl,hlt,p'⟩,fun x H' y=>?_⟩
   obtain ⟨e,y⟩:=y;subst e;exact hs i x σ _ (y xs q) p
 · have e:i=xs.length:=by omega
   subst e;exact .inl ⟨⟨xs,q,Ff _⟩,hd σ H p⟩
theorem Wk{lo:Int}{n:Nat}{g:TG}{tb:TS}{D:Gy}{σ:St}{H:Hp}(Pv:Nat→St→Hp→Prop)(h0:Pv 0 σ H)
 (hs:∀i σ H,i < n→Pv i σ H→g (.int (lo+i)) σ H fun σ2 H2=>tb {D with nx:=Pv (i+1),ct:=Pv (i+1),bk:=D.nx} σ2 H2) (hd:∀σ H,Pv n σ H→D.nx σ H):
 ∃W:Nat→Nat→St→Hp→Prop,(∃m,W 0 m σ H)∧∀i m σ H,W i m σ H→
  ((Itr lo n).stop i H∧D.nx σ H)∨((Itr lo n).go i H∧∃N:St→Hp→Prop,(∀σ' H',N σ' H'→∃m',m' < m∧W (i+1) m' σ' H')∧∀x H',(Itr lo n).yld i H x H'→g x σ H' fun σ2 H2=>tb {D with nx:=N,ct:=N,bk:=D.nx} σ2 H2):=by
 refine ⟨fun i m σ H=>m=n - i∧i≤n∧Pv i σ H,⟨n,by simp,Fq _,h0⟩,?_⟩;rintro i m σ H ⟨rfl,hi,p⟩
 by_cases hlt:i < n
 · refine .inr ⟨hlt,Pv (i+1),fun σ' H' p'=>⟨n - (i+1),by omega,rfl,hlt,p'⟩,fun x H' y=>?_⟩
   obtain ⟨e,y⟩:=y;subst e y;exact hs i σ _ hlt p
 · have e:i=n:=by omega
   subst e;exact .inl ⟨Ff _,hd σ H p⟩
end L2
namespace L2
abbrev R2:=V→V→Hp→VK→Prop
def OpR(X:Cx)(f:Value→Value→Sem Value)(r:R2):Prop:=
 ∀(pins:List (Addr×Obj)) (s:Shared) (σ:St) (H:Hp) (x y:V) (v u:Value) (Q:VK),Inv X pins σ H s→B4 x v→B4 y u→r x y H Q→
   wpAny (model X.prog X.w) X.A (f v u) (EP X pins σ Q) X.xe s
def Eh(X:Cx)(f:Value)(r:List V→Hp→VK→Prop):Prop:=
 ∀(pins:List (Addr×Obj)) (s:Shared) (σ:St) (H:Hp) (xs:List V) (us:List Value) (Q:VK),Inv X pins σ H s→B3 xs us→r xs H Q→
   wpAny (model X.prog X.w) X.A (call f us) (EP X pins σ Q) X.xe s
def tOp(r:R2)(ta tb:TE):TE:=fun σ H Q=>ta σ H fun x H1=>tb σ H1 fun y H2=>r x y H2 Q
def tUn(r:V→Hp→VK→Prop)(ta:TE):TE:=fun σ H Q=>ta σ H fun x H1=>r x H1 Q
def rI(C:Int→Int→Prop)(g:Int→Int→V):R2:=fun x y H Q=>∃i j,x= .int i∧y= .int j∧C i j∧Q (g i j) H
def rI0(g:Int→Int→V):R2:=fun x y H Q=>∃i j,x= .int i∧y= .int j∧Q (g i j) H
def rU(g:Int→V):V→Hp→VK→Prop:=fun x H Q=>∃i,x= .int i∧Q (g i) H
section
variable {X:Cx} {a b c:Expr} {ta tb tc:TE} {pos:Pos}
theorem J4w(ha:PE X a ta)(hb:PE X b tb){pins:List (Addr×Obj)}{s:Shared}{σ:St}{H:Hp}{R:V→V→Hp→Prop}(I:Inv X pins σ H s)
 (h:ta σ H fun x H1=>tb σ H1 fun y H2=>R x y H2) {Q:Value→Shared→Prop} {f:Value→Value→Sem Value}
 (hf:∀v u s2 x y H2,Inv X pins σ H2 s2→B4 x v→B4 y u→R x y H2→wpAny (model X.prog X.w) X.A (f v u) Q X.xe s2):
 wpAny (model X.prog X.w) X.A (eval a X.env) (fun v s₁=>wpAny (model X.prog X.w) X.A (eval b X.env) (fun u s₂=>wpAny (model X.prog X.w) X.A (f v u) Q X.xe s₂) X.xe s₁) X.xe s:=by
 refine thn (ha pins s σ H _ I h) fun v s1 hq_=>?_;obtain ⟨x,H1,I1,r1,q1⟩:=hq_;refine thn (hb pins s1 σ H1 _ I1 q1) fun u s2 hq_=>?_;obtain ⟨y,H2,I2,r2,q2⟩:=hq_;exact hf v u s2 x y H2 I2 r1 r2 q2
theorem Al{op:Operator}{r:R2}(ho:OpR X (binaryOp op) r)(ha:PE X a ta)(hb:PE X b tb):PE X (.BinOp a op b pos) (tOp r ta tb):=by
 intro pins s σ H Q I h;exact wpAny_BinOp (J4w ha hb I h fun v u s2 x y H2 I2 rx ry q=>ho pins s2 σ H2 x y v u Q I2 rx ry q)
theorem opI{f:Value→Value→Sem Value}{C:Int→Int→Prop}{g:Int→Int→Int}
 (rule:∀(i j:Int) (t u:Tok) (s:Shared) (Q:Value→Shared→Prop) (E:Value→Shared→Prop),C i j→Q (.int (g i j) s.toks) {s with toks:=s.toks+1}→wpAny (model X.prog X.w) X.A (f (.int i t) (.int j u)) Q E s):
 OpR X f (rI C fun i j=> .int (g i j)):=by
 intro pins s σ H x y v u Q I rx ry h;obtain ⟨i,j,rfl,rfl,hc,q⟩:=h;obtain ⟨t,rfl⟩:=rx;obtain ⟨t',rfl⟩:=ry;exact rule i j t t' s _ _ hc ⟨.int (g i j),H,I.tok _,⟨_,rfl⟩,q⟩
theorem J64{f:Value→Value→Sem Value}{g:Int→Int→Int}
 (rule:∀(i j:Int) (t u:Tok) (s:Shared) (Q:Value→Shared→Prop) (E:Value→Shared→Prop),Q (.int (g i j) s.toks) {s with toks:=s.toks+1}→wpAny (model X.prog X.w) X.A (f (.int i t) (.int j u)) Q E s):
 OpR X f (rI0 fun i j=> .int (g i j)):=by
 intro pins s σ H x y v u Q I rx ry h;obtain ⟨i,j,rfl,rfl,q⟩:=h;obtain ⟨t,rfl⟩:=rx;obtain ⟨t',rfl⟩:=ry;exact rule i j t t' s _ _ ⟨.int (g i j),H,I.tok _,⟨_,rfl⟩,q⟩
theorem J2d{f:Value→Value→Sem Value}{g:Int→Int→Bool}
 (rule:∀(i j:Int) (t u:Tok) (s:Shared) (Q:Value→Shared→Prop) (E:Value→Shared→Prop),Q (.bool (g i j)) s→wpAny (model X.prog X.w) X.A (f (.int i t) (.int j u)) Q E s):
 OpR X f (rI0 fun i j=> .bl (g i j)):=by
 intro pins s σ H x y v u Q I rx ry h;obtain ⟨i,j,rfl,rfl,q⟩:=h;obtain ⟨t,rfl⟩:=rx;obtain ⟨t',rfl⟩:=ry;exact rule i j t t' s _ _ ⟨.bl (g i j),H,I,rfl,q⟩
def J65(i j:Int):Prop:=0 < j∧j < 1073741824
def J66(i j:Int):Prop:=0≤j∧j≤1000000∧i.natAbs < 2 ^ 64
def Xu(i j:Int):Prop:=(-(2 ^ 64) < i∧i < 2 ^ 64)∨(-(2 ^ 64) < j∧j < 2 ^ 64)
theorem Xu.ok{i j:Int}(h:Xu i j):IntMulOk i j:=by
 rcases h with ⟨h1,h2⟩ | ⟨h1,h2⟩
 · exact .of_left (intBits_le_64 h1 h2)
 · exact .of_right (intBits_le_64 h1 h2)
theorem Cm:OpR X (binaryOp .Add) (rI0 fun i j=> .int (i+j)):=J64 fun _ _ _ _ _ _ _ q=>add_int q
theorem Ll:OpR X (binaryOp .Sub) (rI0 fun i j=> .int (i - j)):=J64 fun _ _ _ _ _ _ _ q=>sub_int q
theorem T9:OpR X (binaryOp .Mult) (rI Xu fun i j=> .int (i * j)):=opI fun _ _ _ _ _ _ _ hc q=>mul_int q hc.ok
theorem Ir:OpR X (binaryOp .FloorDiv) (rI J65 fun i j=> .int (i / j)):=opI fun i j _ _ _ _ _ hc q=>by
 have h1:(0:Int) < j:=hc.1;have h2:j < 1073741824:=hc.2;exact floordiv_int (by omega) (by rw [Int.fdiv_eq_ediv_of_nonneg i (by omega)];exact q) (.inl (PyProof.noPylong_small (by omega)))
theorem Co:OpR X (binaryOp .Mod) (rI (fun _ j=>0 < j) fun i j=> .int (i % j)):=opI fun i j _ _ _ _ _ hc q=>by
 have h1:(0:Int) < j:=hc;exact mod_int' (by omega) (by rw [Int.fmod_eq_emod_of_nonneg i (by omega)];exact q)
theorem Kn:OpR X (binaryOp .Pow) (rI J66 fun i j=> .int (i ^ j.toNat)):=opI fun _ _ _ _ _ _ _ hc q=>pow_int_small hc.1 hc.2.1 hc.2.2 q
end
def scal:V→V→Bool
 | .non,.non=>true | .non,.int _=>true | .int _,.non=>true | .non,.bl _=>true | .bl _,.non=>true | .non,.str _=>true | .str _,.non=>true
 | .int _,.int _=>true | .bl _,.bl _=>true | .str _,.str _=>true | .byt _,.byt _=>true
 | .int _,.str _=>true | .str _,.int _=>true | .bl _,.str _=>true | .str _,.bl _=>true
 | _,_=>false
def rEq:R2:=fun x y H Q=>scal x y=true∧Q (.bl (decide (x=y))) H
def rNe:R2:=fun x y H Q=>scal x y=true∧Q (.bl (!decide (x=y))) H
theorem U8{i j:Int}:decide (V.int i=V.int j)=(i==j):=by
 rw [R7];simp
theorem Xv{i j:Bool}:decide (V.bl i=V.bl j)=(i==j):=by
 rw [R7];simp
theorem U9{i j:Str}:decide (V.str i=V.str j)=(i==j):=by
 rw [R7];simp
theorem Ua{i j:Array UInt8}:decide (V.byt i=V.byt j)=(i.toList==j.toList):=by
 rw [R7];cases i;cases j;simp
section
variable {X:Cx} {a b c:Expr} {ta tb tc:TE} {pos:Pos}
theorem Bb{pins:List (Addr×Obj)}{σ:St}{H:Hp}{s:Shared}{Q:VK}{k k':Bool}(I:Inv X pins σ H s)(q:Q (.bl k) H)(e:k=k'):EP X pins σ Q (.bool k') s:=by
 subst e;exact ⟨.bl k,H,I,rfl,q⟩
theorem D1:OpR X (compareOp .Eq) rEq:=by
 intro pins s σ H x y v u Q I rx ry h;obtain ⟨hs,q⟩:=h
 cases x with
 | non=>
  cases rx
  cases y with
  | non=>cases ry;exact PySem.EqNone.eq_none_none (Bb I q (by simp))
  | bl j=>cases ry;exact PySem.EqNone.eq_none_bool (Bb I q (by simp))
  | int j=>obtain ⟨t',rfl⟩:=ry;exact PySem.EqNone.eq_none_int (Bb I q (by simp))
  | str j=>obtain ⟨t',rfl⟩:=ry;exact PySem.EqNone.eq_none_str (Bb I q (by simp))
  | _=>exact absurd (show false=true from hs) Fu
 | bl i=>
  cases rx
  cases y with
  | non=>cases ry;exact PySem.EqNone.eq_bool_none (Bb I q (by simp))
  | bl j=>cases ry;exact eq_bool (Bb I q Xv)
  | str j=>obtain ⟨t',rfl⟩:=ry;exact PySem.EqMixed.eq_bool_str (Bb I q (by simp))
  | _=>exact absurd (show false=true from hs) Fu
 | int i=>
  obtain ⟨t,rfl⟩:=rx
  cases y with
  | non=>cases ry;exact PySem.EqNone.eq_int_none (Bb I q (by simp))
  | int j=>obtain ⟨t',rfl⟩:=ry;exact eq_int (Bb I q U8)
  | str j=>obtain ⟨t',rfl⟩:=ry;exact PySem.EqMixed.eq_int_str (Bb I q (by simp))
  | _=>exact absurd (show false=true from hs) Fu
 | str i=>
  obtain ⟨t,rfl⟩:=rx
  cases y with
  | non=>cases ry;exact PySem.EqNone.eq_str_none (Bb I q (by simp))
  | bl j=>cases ry;exact PySem.EqMixed.eq_str_bool (Bb I q (by simp))
  | int j=>obtain ⟨t',rfl⟩:=ry;exact PySem.EqMixed.eq_str_int (Bb I q (by simp))
  | str j=>obtain ⟨t',rfl⟩:=ry;exact eq_str (Bb I q U9)
  | _=>exact absurd (show false=true from hs) Fu
 | byt i=>
  obtain ⟨t,rfl⟩:=rx
  cases y with
  | byt j=>obtain ⟨t',rfl⟩:=ry;exact PySem.W.eq_bytes (Bb I q Ua)
  | _=>exact absurd (show false=true from hs) Fu
 | _=>cases y <;> exact absurd (show false=true from hs) Fu
theorem Na:OpR X (compareOp .NotEq) rNe:=by
 intro pins s σ H x y v u Q I rx ry h;obtain ⟨hs,q⟩:=h
 cases x with
 | non=>
  cases rx
  cases y with
  | non=>cases ry;exact PySem.EqNone.ne_none_none (Bb I q (by simp))
  | bl j=>cases ry;exact PySem.EqNone.ne_none_bool (Bb I q (by simp))
  | int j=>obtain ⟨t',rfl⟩:=ry;exact PySem.EqNone.ne_none_int (Bb I q (by simp))
  | str j=>obtain ⟨t',rfl⟩:=ry;exact PySem.EqNone.ne_none_str (Bb I q (by simp))
  | _=>exact absurd (show false=true from hs) Fu
 | bl i=>
  cases rx
  cases y with
  | non=>cases ry;exact PySem.EqNone.ne_bool_none (Bb I q (by simp))
  | bl j=>cases ry;exact ne_bool (Bb I q (congrArg not Xv))
  | str j=>obtain ⟨t',rfl⟩:=ry;exact PySem.EqMixed.ne_bool_str (Bb I q (by simp))
  | _=>exact absurd (show false=true from hs) Fu
 | int i=>
  obtain ⟨t,rfl⟩:=rx
  cases y with
  | non=>cases ry;exact PySem.EqNone.ne_int_none (Bb I q (by simp))
  | int j=>obtain ⟨t',rfl⟩:=ry;exact ne_int (Bb I q (congrArg not U8))
  | str j=>obtain ⟨t',rfl⟩:=ry;exact PySem.EqMixed.ne_int_str (Bb I q (by simp))
  | _=>exact absurd (show false=true from hs) Fu
 | str i=>
  obtain ⟨t,rfl⟩:=rx
  cases y with
  | non=>cases ry;exact PySem.EqNone.ne_str_none (Bb I q (by simp))
  | bl j=>cases ry;exact PySem.EqMixed.ne_str_bool (Bb I q (by simp))
  | int j=>obtain ⟨t',rfl⟩:=ry;exact PySem.EqMixed.ne_str_int (Bb I q (by simp))
  | str j=>obtain ⟨t',rfl⟩:=ry;exact ne_str (Bb I q (congrArg not U9))
  | _=>exact absurd (show false=true from hs) Fu
 | byt i=>
  obtain ⟨t,rfl⟩:=rx
  cases y with
  | byt j=>obtain ⟨t',rfl⟩:=ry;exact PySem.W.ne_bytes (Bb I q (congrArg not Ua))
  | _=>exact absurd (show false=true from hs) Fu
 | _=>cases y <;> exact absurd (show false=true from hs) Fu
theorem Nb:OpR X (compareOp .Lt) (rI0 fun i j=> .bl (decide (i < j))):=J2d fun _ _ _ _ _ _ _ q=>lt_int q
theorem J3u:OpR X (compareOp .LtE) (rI0 fun i j=> .bl (decide (i≤j))):=J2d fun _ _ _ _ _ _ _ q=>le_int q
theorem Kx:OpR X (compareOp .Gt) (rI0 fun i j=> .bl (decide (j < i))):=J2d fun _ _ _ _ _ _ _ q=>gt_int q
theorem J67:OpR X (compareOp .GtE) (rI0 fun i j=> .bl (decide (j≤i))):=J2d fun _ _ _ _ _ _ _ q=>ge_int q
theorem Wl:OpR X (compareOp .In) (fun x y H Q=>∃i j,x= .str i∧y= .str j∧Q (.bl (!(Builtin.Str.occurrences j i 0 j.length 1).isEmpty)) H):=by
 intro pins s σ H x y v u Q I rx ry h;obtain ⟨i,j,rfl,rfl,q⟩:=h;obtain ⟨t,rfl⟩:=rx;obtain ⟨t',rfl⟩:=ry;exact in_str (Bb I q rfl)
theorem J4x:OpR X (compareOp .Is) (fun x y H Q=>y= .non∧Q (.bl (decide (x= .non))) H):=by
 intro pins s σ H x y v u Q I rx ry h;obtain ⟨rfl,q⟩:=h;cases ry;refine is_none_gen (Bb I q ?_)
 cases x <;> first
  | (cases rx;rfl)
  | (obtain ⟨t,rfl⟩:=rx;rfl)
theorem nomark(b:Expr){op:CmpOp}(h:op≠ .In:=by decide)(h2:op≠ .NotIn:=by decide):behindInMarks op b=false:=by
 have e1:(op==CmpOp.In)=false:=by cases op <;> first | rfl | exact absurd rfl h
 have e2:(op==CmpOp.NotIn)=false:=by cases op <;> first | rfl | exact absurd rfl h2
 cases b <;> simp [behindInMarks,e1,e2]
theorem Iu{op:CmpOp}{r:R2}(ho:OpR X (compareOp op) r)(ha:PE X a ta)(hb:PE X b tb)(hm:behindInMarks op b=false):PE X (.Compare a [op] [b] pos) (tOp r ta tb):=by
 intro pins s σ H Q I h;exact wpAny_Compare1 (J4w ha hb I h fun v u s2 x y H2 I2 rx ry q=>ho pins s2 σ H2 x y v u Q I2 rx ry q) hm
def J3v(t:TE):TT:=fun σ H Q=>t σ H fun x H'=>∃k,x= .bl k∧Q k H'
theorem Aj{op:CmpOp}{r:R2}(ho:OpR X (compareOp op) r)(ha:PE X a ta)(hb:PE X b tb)(hm:behindInMarks op b=false):PT X (.Compare a [op] [b] pos) (J3v (tOp r ta tb)):=by
 intro pins s σ H Q I h
 refine wpAny_isTrue_Compare1 (thn (ha pins s σ H _ I h) fun v s1 ⟨x,H1,I1,r1,q1⟩=>thn (hb pins s1 σ H1 _ I1 q1) fun u s2 ⟨y,H2,I2,r2,q2⟩=>
  thn (ho pins s2 σ H2 x y v u _ I2 r1 r2 q2) fun c s3 ⟨z,H3,I3,r3,k,e,q3⟩=>?_) hm
 subst e;cases r3;exact HJ ⟨H3,I3,q3⟩
def Xw(r r':R2)(ta tb tc:TE):TE:=fun σ H Q=>ta σ H fun x H1=>tb σ H1 fun y H2=>r x y H2 fun z H3=>∃k,z= .bl k∧
 (if k=true then tc σ H3 fun w' H4=>r' y w' H4 Q else Q (.bl false) H3)
theorem Xx{op op':CmpOp}{r r':R2}(ho:OpR X (compareOp op) r)(ho':OpR X (compareOp op') r')(ha:PE X a ta)(hb:PE X b tb)(hc:PE X c tc)
 (hm:lastMarks [op,op'] [b,c]=false:=by with_unfolding_all rfl):PE X (.Compare a [op,op'] [b,c] pos) (Xw r r' ta tb tc):=by
 intro pins s σ H Q I h
 refine Compare_chain (thn (ha pins s σ H _ I h) fun v s1 ⟨x,H1,I1,r1,q1⟩=>chain_link (thn (hb pins s1 σ H1 _ I1 q1) fun u s2 ⟨y,H2,I2,r2,q2⟩=>
  thn (ho pins s2 σ H2 x y v u _ I2 r1 r2 q2) fun d s3 ⟨z,H3,I3,r3,k,e,q3⟩=>?_)) hm
 subst e;cases r3;refine HJ ?_
 cases k with
 | false=>exact ite_ff ⟨.bl false,H3,I3,rfl,q3⟩
 | true=>exact ite_tt (chain_last (thn (hc pins s3 σ H3 _ I3 q3) fun w' s4 ⟨z',H4,I4,r4,q4⟩=>ho' pins s4 σ H4 y z' u w' Q I4 r2 r4 q4))
theorem Ko:(sizeLine:Nat) < 2 ^ 63:=by rw [RX];decide
theorem Bf:OpR X (binaryOp .Add) (fun x y H Q=>∃i j,x= .str i∧y= .str j∧i.length+j.length≤sizeLine∧Q (.str (i++j)) H):=by
 intro pins s σ H x y v u Q I rx ry h;obtain ⟨i,j,rfl,rfl,hz,q⟩:=h;obtain ⟨t,rfl⟩:=rx;obtain ⟨t',rfl⟩:=ry;exact add_str (fun t' tk=>⟨.str (i++j),H,I.tok _,⟨_,rfl⟩,q⟩) hz
theorem Gv{x:V}{us:List Value}(r:B3 [x] us):∃u,us=[u]∧B4 x u:=by
 cases r with
 | cons r1 r2=>cases r2;exact ⟨_,rfl,r1⟩
theorem J3w{x y:V}{us:List Value}(r:B3 [x,y] us):∃u w',us=[u,w']∧B4 x u∧B4 y w':=by
 cases r with
 | cons r1 r2=>
  cases r2 with
  | cons r3 r4=>cases r4;exact ⟨_,_,rfl,r1,r3⟩
theorem Wm(hc:X.calm=true):Eh X (.builtin "max") (fun xs H Q=>∃i j,xs=[.int i,.int j]∧Q (.int (if j > i then j else i)) H):=by
 intro pins s σ H xs us Q I r h;obtain ⟨i,j,rfl,q⟩:=h;obtain ⟨u,w',rfl,⟨t,rfl⟩,⟨t',rfl⟩⟩:=J3w r
 refine max_two_ints (I.ok.hd hc) fun h' tk k=>⟨_,H,I.kept k,?_,q⟩
 by_cases hj:j > i
 · rw [if_pos hj,if_pos hj];exact ⟨_,rfl⟩
 · rw [if_neg hj,if_neg hj];exact ⟨_,rfl⟩
theorem Iv:Eh X (.type "int") (fun xs H Q=>(∃i,xs=[.int i]∧Q (.int i) H)∨∃k,xs=[.bl k]∧Q (.int (if k then 1 else 0)) H):=by
 intro pins s σ H xs us Q I r h;rcases h with ⟨i,rfl,q⟩ | ⟨k,rfl,q⟩
 · obtain ⟨u,rfl,t,rfl⟩:=Gv r
   exact call_int_int ⟨.int i,H,I,⟨_,rfl⟩,q⟩
 · obtain ⟨u,rfl,r1⟩:=Gv r
   cases r1;exact call_int_bool ⟨.int (if k then 1 else 0),H,I.tok _,⟨_,rfl⟩,q⟩
theorem B7:Eh X (.type "str") (fun xs H Q=>∃i,xs=[.int i]∧i.natAbs.log2 < 1920∧Q (.str (toString i)) H):=by
 intro pins s σ H xs us Q I r h;obtain ⟨i,rfl,hz,q⟩:=h;obtain ⟨u,rfl,t,rfl⟩:=Gv r;exact PySem.P.str_of_int hz ⟨.str _,H,I.tok _,⟨_,rfl⟩,q⟩
end
end L2
namespace L2
structure Ta(h:Heap)(x dx C:Addr)(mA:Str→Option Value):Prop where
 obj:h.get? x=some (PySem.W.instObj C dx)
 ns:h.Ns1 dx mA
 ne:dx≠x
theorem Wn{h:Heap}{dx:Addr}{mA:Str→Option Value}(n:h.Ns1 dx mA):∃od,h.get? dx=some od∧∀name,PySem.W.lookIn name od=some (mA name):=by
 obtain ⟨o,es,ep,ho,hd,hk,_,hm⟩:=n;refine ⟨o,ho,fun name=>?_⟩;have e:=hm name;unfold nsFind findBy at e;rw [← Array.find?_toList]at e;unfold PySem.W.lookIn;rw [hd];dsimp only;split
 · rename_i y q
   rw [q]at e;exact congrArg some e
 · rename_i q
   rw [q]at e
   have a:es.toList.any (·.refKey)=false:=by
    rw [List.any_eq_false];intro y hy;obtain ⟨z,t,hkey⟩:=hk y (Array.mem_toList_iff.mp hy);simp [DictEntry.refKey,hkey]
   have a':¬es.toList.any (·.refKey)=true:=by rw [a];exact Fu
   rw [if_neg a'];exact congrArg some e
theorem Ta.look{h:Heap}{x dx C:Addr}{mA:Str→Option Value}(I:Ta h x dx C mA):∃od,PySem.W.InstAt h x (PySem.W.instObj C dx) C (some od)∧∀name,PySem.W.lookIn name od=some (mA name):=
 let ⟨od,ho,hl⟩:=Wn I.ns
 ⟨od,⟨I.obj,rfl,rfl,ho⟩,hl⟩
section
variable {prog:Program} {w:World} {A:Around} {E:Value→Shared→Prop} {s:Shared} {K:PySem.W.Frag} {x dx C f:Addr} {mA:Str→Option Value} {name:Str} {v:Value}
theorem J2e{expr:Bool}{Q:Value→Shared→Prop}(X:K.In s.heap)(I:Ta s.heap x dx C mA)(hg:PySem.W.plainGet K C name=true)(hh:PySem.W.hasDictIn K C=true)
 (ha:PySem.W.findIn K (.ref C) name=some none) (hv:mA name=some v) (hv':PySem.W.handedIn v=true) (h:Q v {s with toks:=s.toks+1}):
 wpAny (model prog w) A (getAttr (.ref x) name expr) Q E s:=by
 obtain ⟨od,J,hl⟩:=I.look;exact PySem.W.get_value X J (RE hg).1 (PySem.W.findObj_own hh ha rfl (by rw [hl,hv])) hv' h
theorem Xy{pl:Sem Bool}{Q:Value×List Value→Shared→Prop}(X:K.In s.heap)(I:Ta s.heap x dx C mA)(hg:PySem.W.plainGet K C name=true)
 (hf:PySem.W.findIn K (.ref C) name=some (some (.ref f))) (ht:PySem.W.isFn K (.ref f)=true) (hv:mA name=none) (h:Q (.ref f,[.ref x]) s):
 wpAny (model prog w) A (getMethod (.ref x) name pl) Q E s:=by
 obtain ⟨od,J,hl⟩:=I.look;exact PySem.W.method_fn X J (RE hg).1 (RE hg).2 hf (HU.mp ht) (by show (PySem.W.lookIn name od).map (·.isSome)=some false;rw [hl,hv];rfl) h
theorem J2f{ns:List Str}{Q:Unit→Shared→Prop}(X:K.In s.heap)(I:Ta s.heap x dx C mA)
 (hs:PySem.W.findIn K (.ref C) "__setattr__"=some (some (.builtin "object.__setattr__"))) (hp:PySem.W.plainOver K C=true) (ht:PySem.W.takerIn K C name=some none) (hh:PySem.W.hasDictIn K C=true)
 (hw:PySem.Within mA ns) (hsz:ns.length≤sizeLine)
 (h:∀h',Ta h' x dx C (fun y=>if y=name then some v else mA y)→Heap.SameBut dx s.heap h'→Q () {s with heap:=h',toks:=s.toks+2}):
 wpAny (model prog w) A (setAttr (.ref x) name v) Q E s:=by
 obtain ⟨od,J,hl⟩:=I.look;refine PySem.W.set_plain X J hs (PySem.W.osa_open (s:={s with toks:=s.toks+1}) (r:=none) X J hp ht fun b=>?_);obtain ⟨cd,hc,hd'⟩:=PySem.W.any_some hh;have hx:s.heap.get? x=some ⟨.ref C,some dx,.plain,#[]⟩:=I.obj;refine FJ (FU (FJ (FJ (wpAny_loadPart hx (FJ (PySem.W.Looks.here (s:={s with toks:=s.toks+1}) (PySem.W.looks_clsIn X hc) ?_))))));rw [hd'];refine FU (a:=some dx) (FJ (FU (FJ ?_)));refine wpAny_nsSet1 (s:={s with toks:=s.toks+1}) I.ns fun h' hn2 hs2=>?_;obtain ⟨oD,esD,epD,hoD,hdD,hcD⟩:=hn2.count (PySem.Within.cons name v hw);refine FJ (wpAny_lookBehind hoD (by rw [hdD];exact pastItsLine_dict (FA hcD (by rw [List.length_cons];omega))) ?_);exact FU (h _ ⟨(hs2.2 _ (Ne.symm I.ne)).trans I.obj,hn2,I.ne⟩ hs2)
theorem Q5{R:Result→Shared→Prop}{vs:List Value}{kw:List (Str×Value)}(X:K.In s.heap)(hm:PySem.W.makesIn K C=true)
 (hi:PySem.W.findIn K (.ref C) "__init__"=some (some (.ref f))) (hf:PySem.W.typeIn K (.ref f)=some (.type "function"))
 (h:codeAny (model prog w) (A.under (.builtin "type.__call__" ⟨.ref C::vs,kw⟩)) (.call (.ref f) ⟨.ref (s.heap.objs.size+1)::vs,kw⟩) (PySem.W.InitBack (s.heap.objs.size+1) R)
  {s with heap:=(s.heap.push PySem.W.emptyDict).push (PySem.W.instObj C s.heap.objs.size)}):
 codeAny (model prog w) A (.call (.ref C) ⟨vs,kw⟩) R s:=by
 obtain ⟨hh,g,d,t,os⟩:=s;exact PySem.W.make_core (PySem.W.makes_of X hm) (PySem.W.looks_findIn X hi) (fun self=>PySem.W.bind_fn X self hf) (.inl rfl) h
end
def Am(f:Str)(v:V):List (Str×V)→List (Str×V)
 | []=>[(f,v)]
 | (g,x)::r=>if g=f then (g,v)::r else (g,x)::Am f v r
theorem Ap(f g:Str)(v:V):∀fs:List (Str×V),(Am f v fs).lookup g=if g=f then some v else fs.lookup g
 | []=>by
  show List.lookup g [(f,v)]=_
  by_cases h:g=f
  · have hb:(g==f)=true:=HU.mpr h
    simp only [List.lookup,hb,if_pos h]
  · have hb:(g==f)=false:=HP.mpr h
    simp only [List.lookup,hb,if_neg h]
 | (k,x)::r=>by
  have ih:=Ap f g v r;rw [show Am f v ((k,x)::r)=(if k=f then (k,v)::r else (k,x)::Am f v r) from rfl]
  by_cases hk:k=f
  · rw [if_pos hk]
    by_cases h:g=k
    · have hb:(g==k)=true:=HU.mpr h
      simp only [List.lookup,hb,if_pos (h.trans hk)]
    · have hb:(g==k)=false:=HP.mpr h
      simp only [List.lookup,hb,if_neg (fun e:g=f=>h (e.trans hk.symm))]
  · rw [if_neg hk]
    by_cases h:g=k
    · have hb:(g==k)=true:=HU.mpr h
      simp only [List.lookup,hb,if_neg (fun e:g=f=>hk (h.symm.trans e))]
    · have hb:(g==k)=false:=HP.mpr h
      simp only [List.lookup,hb];exact ih
theorem Lm(f:Str)(v:V):∀fs:List (Str×V),f∈(Am f v fs).map (·.1)∧∀g,g∈fs.map (·.1)→g∈(Am f v fs).map (·.1)
 | []=>⟨by simp [Am],fun g h=>by simp at h⟩
 | (k,x)::r=>by
  obtain ⟨i1,i2⟩:=Lm f v r;rw [show Am f v ((k,x)::r)=(if k=f then (k,v)::r else (k,x)::Am f v r) from rfl]
  by_cases hk:k=f
  · rw [if_pos hk]
    subst hk;exact ⟨by simp,fun g h=>by simpa using h⟩
  · rw [if_neg hk]
    refine ⟨?_,fun g h=>?_⟩
    · rw [List.map_cons]
      exact Fb _ i1
    · rw [List.map_cons]at h ⊢
      rcases Fo.mp h with e | e
      · exact Fo.mpr (.inl e)
      · exact Fb _ (i2 g e)
theorem Ib(f:Str)(v:V):∀fs:List (Str×V),(Am f v fs).length≤fs.length+1
 | []=>by simp [Am]
 | (k,x)::r=>by
  have ih:=Ib f v r;rw [show Am f v ((k,x)::r)=(if k=f then (k,v)::r else (k,x)::Am f v r) from rfl]
  by_cases hk:k=f
  · rw [if_pos hk,List.length_cons,List.length_cons];omega
  · rw [if_neg hk,List.length_cons,List.length_cons];omega
theorem G2.some_of{v:V}{o:Option Value}(r:G2 (some v) o):∃u,o=some u∧B4 v u:=by
 cases o with
 | none=>exact (show False from r).elim
 | some u=>exact ⟨u,rfl,r⟩
theorem G2.none_of{o:Option Value}(r:G2 none o):o=none:=by
 cases o with
 | none=>rfl
 | some u=>exact (show False from r).elim
theorem Wo{v:V}{u:Value}(r:B4 v u):PySem.W.handedIn u=true:=by
 cases v with
 | non=>cases (show u=Value.none from r);rfl
 | bl b=>cases (show u=Value.bool b from r);rfl
 | int i=>obtain ⟨t,e⟩:=(show ∃t,u=Value.int i t from r);cases e;rfl
 | str x=>obtain ⟨t,e⟩:=(show ∃t,u=Value.str x t from r);cases e;rfl
 | byt b=>obtain ⟨t,e⟩:=(show ∃t,u=Value.bytes b t from r);cases e;rfl
 | flt b=>obtain ⟨t,e⟩:=(show ∃t,u=Value.float b t from r);cases e;rfl
 | ref a=>cases (show u=Value.ref a from r);rfl
 | ty n=>cases (show u=Value.type n from r);rfl
section
variable {P:Program} {w:World} {H H':Hp} {h h':Heap} {a C dx:Addr} {fs fs':List (Str×V)}
theorem Mp(hok:HOk P w H h)(e:H a=some (.ins C dx fs)):∃mA,Ta h a dx C mA∧(∀f,G2 (fs.lookup f) (mA f))∧PySem.Within mA (fs.map (·.1))∧fs.length≤1000∧H dx=some (.own a):=by
 obtain ⟨d,z,ne,ob,mA,n,r,q⟩:=(show C8 P w H h a (.ins C dx fs) from hok a _ e)
 exact ⟨mA,⟨ob,n,ne⟩,r,q,z,d⟩
end
structure Cls(K:PySem.W.Frag)(C:Addr):Prop where
 pg:PySem.W.plainGet K C Str.empty=true
 hd:PySem.W.hasDictIn K C=true
 po:PySem.W.plainOver K C=true
 sa:PySem.W.findIn K (.ref C) "__setattr__"=some (some (.builtin "object.__setattr__"))
theorem Cls.get{K:PySem.W.Frag}{C:Addr}(c:Cls K C)(f:Str):PySem.W.plainGet K C f=true:=c.pg
def Bc(K:PySem.W.Frag)(C:Addr)(f:Str):Prop:=PySem.W.findIn K (.ref C) f=some none
theorem Bc.taker{K:PySem.W.Frag}{C:Addr}{f:Str}(n:Bc K C f):PySem.W.takerIn K C f=some none:=by
 unfold PySem.W.takerIn;rw [show PySem.W.findIn K (.ref C) f=some none from n];rfl
structure J2g(K:PySem.W.Frag)(C:Addr)(m:Str)(f:Addr):Prop where
 at_:PySem.W.findIn K (.ref C) m=some (some (.ref f))
 fn:PySem.W.isFn K (.ref f)=true
 kp:PySem.W.keepIn K (.ref f)=true
section
variable {X:Cx} {pins:List (Addr×Obj)} {σ:St} {H:Hp} {s:Shared} {a C dx:Addr} {fs:List (Str×V)} {f:Str} {v:V} {A:Around} {E:Value→Shared→Prop}
theorem Nc{b:Bool}{Q:Value→Shared→Prop}(I:Inv X pins σ H s)(e:H a=some (.ins C dx fs))(c:Cls X.K C)(n:Bc X.K C f)(l:fs.lookup f=some v)
 (h:∀u s',Inv X pins σ H s'→B4 v u→Q u s'):wpAny (model X.prog X.w) A (getAttr (.ref a) f b) Q E s:=by
 obtain ⟨mA,O,r,_,_,_⟩:=Mp I.hok e;obtain ⟨u,hu,ru⟩:=G2.some_of (v:=v) (o:=mA f) (by rw [← l];exact r f);exact J2e I.kIn O (c.get f) c.hd n hu (Wo ru) (h u _ (I.tok _) ru)
theorem G5{m:Str}{g:Addr}{pl:Sem Bool}{Q:Value×List Value→Shared→Prop}(I:Inv X pins σ H s)(e:H a=some (.ins C dx fs))(c:Cls X.K C)(k:J2g X.K C m g)(l:fs.lookup m=none)
 (h:Q (.ref g,[.ref a]) s):wpAny (model X.prog X.w) A (getMethod (.ref a) m pl) Q E s:=by
 obtain ⟨mA,O,r,_,_,_⟩:=Mp I.hok e;have hn:mA m=none:=G2.none_of (by rw [← l];exact r m);exact Xy I.kIn O (c.get m) k.at_ k.fn hn h
theorem Nd{y:V}{u:Value}{Q:Unit→Shared→Prop}(I:Inv X pins σ H s)(e:H a=some (.ins C dx fs))(c:Cls X.K C)(n:Bc X.K C f)(hl:fs.length < 1000)(ry:B4 y u)
 (h:∀s',Inv X pins σ (upd H a (.ins C dx (Am f y fs))) s'→Q () s'):wpAny (model X.prog X.w) A (setAttr (.ref a) f u) Q E s:=by
 obtain ⟨mA,O,r,wi,_,ho⟩:=Mp I.hok e
 have hz:(fs.map (·.1)).length≤sizeLine:=by rw [Fa,RX];omega
 refine J2f I.kIn O c.sa c.po n.taker c.hd wi hz fun h' O' sb=>h _ ?_;have hd:∃o,h'.get? dx=some o:=let ⟨o,_,_,e',_⟩:=O'.ns;⟨o,e'⟩;refine I.write (x:=a) (e:=dx) (by rw [e];exact True.intro) (.inr ho) (fun b q hb z=>(sb.2 b hb).trans z) hd ?_;refine ⟨by rw [A3 O.ne];exact ho,?_,O.ne,O'.obj,_,O'.ns,fun g=>?_,fun g hg=>?_⟩
 · have:=Ib f y fs;omega
 · show G2 ((Am f y fs).lookup g) (if g=f then some u else mA g)
   rw [Ap]
   by_cases q:g=f
   · rw [if_pos q,if_pos q];exact ry
   · rw [if_neg q,if_neg q];exact r g
 · by_cases q:g=f
   · rw [q];exact (Lm f y fs).1
   · refine (Lm f y fs).2 g (wi g fun z=>hg ?_)
     show (if g=f then some u else mA g)=none;rw [if_neg q];exact z
theorem Inv.made(I:Inv X pins σ H s):Inv X pins σ (upd (upd H s.heap.objs.size (.own (s.heap.objs.size+1))) (s.heap.objs.size+1) (.ins C s.heap.objs.size []))
 {s with heap:=(s.heap.push PySem.W.emptyDict).push (PySem.W.instObj C s.heap.objs.size)}:=by
 have e1:(s.heap.push PySem.W.emptyDict).get? s.heap.objs.size=some PySem.W.emptyDict:=FG s.heap rfl
 have e2:((s.heap.push PySem.W.emptyDict).push (PySem.W.instObj C s.heap.objs.size)).get? (s.heap.objs.size+1)=some (PySem.W.instObj C s.heap.objs.size):=by
  have:=FG (s.heap.push PySem.W.emptyDict) (o:=PySem.W.instObj C s.heap.objs.size) rfl
  rwa [RC]at this
 have e3:(s.heap.push PySem.W.emptyDict).Ns s.heap.objs.size (fun _=>none):=⟨PySem.W.emptyDict,#[],_,e1,rfl,(fun e he=>absurd he (by simp)),fun _=>rfl⟩
 have I1:=I.laid (a:=s.heap.objs.size) (o:= .own (s.heap.objs.size+1)) (h':=s.heap.push PySem.W.emptyDict) (t':=s.toks) (fun b u q=>Fl _ q) (Ff _) ⟨_,e1⟩;refine I1.laid (a:=s.heap.objs.size+1) (o:= .ins C s.heap.objs.size []) (t':=s.toks) (fun b u q=>Fl _ q) (Hm (RC _ _)) ?_;have ne:s.heap.objs.size≠s.heap.objs.size+1:=FD (R3 _);refine ⟨by rw [A3 ne,A5],Fq _,ne,e2,fun _=>none,(Heap.Ns1.of_empty e3).at fun o q=>Fl _ q,fun _=>True.intro,fun y hy=>absurd rfl hy⟩
theorem J2h{prog:Program}{w:World}{env:Env}{e:Expr}{f:Str}{pos:Pos}{s:Shared}{Q:Value→Shared→Prop}(hb:attributeBase e f env (eval e env)=eval e env)
 (h:wpAny (model prog w) A (eval e env) (fun o s₁=>wpAny (model prog w) A (getAttr o f true) Q E s₁) E s):wpAny (model prog w) A (eval (.Attribute e f pos) env) Q E s:=
 Attribute_any_ h (by rw [arm_eval_Attribute,hb])
end
def J68(K:PySem.W.Frag)(ta:TE)(f:Str):TE:=fun σ H Q=>ta σ H fun x H1=>∃a C dx fs v,x= .ref a∧H1 a=some (.ins C dx fs)∧Cls K C∧Bc K C f∧fs.lookup f=some v∧Q v H1
def J69(K:PySem.W.Frag)(ta tv:TE)(f:Str):TS:=fun D σ H=>tv σ H fun y H1=>ta σ H1 fun x H2=>∃a C dx fs,x= .ref a∧H2 a=some (.ins C dx fs)∧Cls K C∧Bc K C f∧fs.length < 1000∧
 D.nx σ (upd H2 a (.ins C dx (Am f y fs)))
def J6a(X:Cx)(op:Operator)(rd:V→V→Hp→VK→Prop):Prop:=
 ∀(pins:List (Addr×Obj)) (s:Shared) (σ:St) (H:Hp) (x y:V) (u v:Value) (Q:VK),Inv X pins σ H s→B4 x u→B4 y v→rd x y H Q→wpAny (model X.prog X.w) X.A (inplaceOp op u v) (EP X pins σ Q) X.xe s
def Ub(K:PySem.W.Frag)(ta tv:TE)(rd:V→V→Hp→VK→Prop)(f:Str):TS:=fun D σ H=>ta σ H fun x H1=>∃a C dx fs v,x= .ref a∧H1 a=some (.ins C dx fs)∧Cls K C∧Bc K C f∧fs.lookup f=some v∧
 tv σ H1 fun y H2=>rd v y H2 fun z H3=>∃dx' fs',H3 a=some (.ins C dx' fs')∧fs'.length < 1000∧D.nx σ (upd H3 a (.ins C dx' (Am f z fs')))
section
variable {X:Cx} {o e value:Expr} {f:Str} {pos pos' tpos:Pos} {ta tv:TE}
theorem Af(he:PE X e ta)(hb:attributeBase e f X.env (eval e X.env)=eval e X.env):PE X (.Attribute e f pos) (J68 X.K ta f):=by
 intro pins s σ H Q I h;refine J2h hb (thn (he pins s σ H _ I h) fun u s1 hq_=>?_);obtain ⟨x,H1,I1,rx,a,C,dx,fs,v,ex,ea,c,n,l,q⟩:=hq_;subst ex;obtain rfl:u=Value.ref a:=rx
 exact Nc I1 ea c n l fun u' s2 I2 ru=>⟨v,H1,I2,ru,q⟩
theorem Bl(ha:PE X o ta)(hv:PE X value tv)(hs:swapsWith value (some (.Attribute o f pos')) pos.line X.env=pure false):PS X (.Assign [.Attribute o f pos'] value pos) (J69 X.K ta tv f):=by
 intro pins s σ H D I h;refine plainObj_wpAny_Assign_Attribute (thn (hv pins s σ H _ I h) fun u s1 ⟨y,H1,I1,ry,q⟩=>thn (ha pins s1 σ H1 _ I1 q) fun ov s2 hq_=>?_) hs;obtain ⟨x,H2,I2,rx,a,C,dx,fs,ex,ea,c,n,l,q2⟩:=hq_;subst ex;obtain rfl:ov=Value.ref a:=rx
 exact Nd I2 ea c n l ry fun s3 I3=>⟨σ,_,I3,q2⟩
theorem O9{op:Operator}{rd:V→V→Hp→VK→Prop}(ha:PE X o ta)(hv:PE X value tv)(hop:J6a X op rd):PS X (.AugAssign (.Attribute o f tpos) op value pos) (Ub X.K ta tv rd f):=by
 intro pins s σ H D I h;refine wpAny_AugAssign_AttributeAny (thn (ha pins s σ H _ I h) fun ov s1 hq_=>?_);obtain ⟨x,H1,I1,rx,a,C,dx,fs,v,ex,ea,c,n,l,q⟩:=hq_;subst ex;obtain rfl:ov=Value.ref a:=rx;refine Nc I1 ea c n l fun u s2 I2 ru=>thn (hv pins s2 σ H1 _ I2 q) fun w3 s3 ⟨y,H2,I3,ry,q3⟩=>thn (hop pins s3 σ H2 v y u w3 _ I3 ru ry q3) fun w4 s4 hq_=>?_;obtain ⟨z,H3,I4,rz,dx',fs',ea',l',q4⟩:=hq_
 exact Nd I4 ea' c n l' rz fun s5 I5=>⟨σ,_,I5,q4⟩
def J7u:V→V→Hp→VK→Prop:=fun x y H Q=>∃i j,x= .int i∧y= .int j∧Q (.int (i+j)) H
theorem Xz:J6a X .Add J7u:=by
 rintro pins s σ H x y u v Q I rx ry ⟨i,j,rfl,rfl,q⟩
 obtain ⟨t,rfl⟩:=(show ∃t,u=Value.int i t from rx)
 obtain ⟨t',rfl⟩:=(show ∃t',v=Value.int j t' from ry)
 exact PyProof.Rows.iadd_int ⟨.int (i+j),H,I.tok _,⟨_,rfl⟩,q⟩
end
section
variable {X:Cx} {pins:List (Addr×Obj)} {σ:St} {H:Hp} {s:Shared} {A:Around} {E:Value→Shared→Prop} {Q:Value→Shared→Prop} {c:Value} {b:Bool}
inductive Lo(K:PySem.W.Frag)(H:Hp):V→Value→Prop where
 | non:Lo K H .non (.type "NoneType")
 | bl (x:Bool):Lo K H (.bl x) (.type "bool")
 | int (i:Int):Lo K H (.int i) (.type "int")
 | str (x:Str):Lo K H (.str x) (.type "str")
 | flt (x:UInt64):Lo K H (.flt x) (.type "float")
 | lst {a:Addr} {xs:List V} (e:H a=some (.lst xs)):Lo K H (.ref a) (.type "list")
 | frz {a:Addr} {o:Obj} {xs:List V} (e:H a=some (.frz o (.lst xs))):Lo K H (.ref a) (.type "list")
 | tup {a:Addr} {xs:List V} (e:H a=some (.tup xs)):Lo K H (.ref a) (.type "tuple")
 | dK {a:Addr} {kvs:List (Key×V)} (e:H a=some (.dK kvs)):Lo K H (.ref a) (.type "dict")
 | dT {a:Addr} {kvs:List (List Key×V)} (e:H a=some (.dT kvs)):Lo K H (.ref a) (.type "dict")
 | ins {a C dx:Addr} {fs:List (Str×V)} (e:H a=some (.ins C dx fs)) (cl:Cls K C) (ha:PySem.W.findIn K (.ref C) "__class__"=some (some (.builtin "object.__class__")))
  (hn:PySem.W.specialIn K (.builtin "object.__class__") "__get__"=some (some (.builtin "getset_descriptor.__get__"))) (htk:PySem.W.takesIn K (.builtin "object.__class__")=some true)
  (hm:PySem.W.mroIn K C (.type "object")=some true):Lo K H (.ref a) (.ref C)
theorem Wp{x:V}{u t:Value}(I:Inv X pins σ H s)(rx:B4 x u)(ty:Lo X.K H x t)(e:PySem.W.kitOne X.K t c=some b)(h:∀tk,Q (.bool b) {s with toks:=tk}):
 wpAny (model X.prog X.w) A (call (.builtin "isinstance") [u,c]) Q E s:=by
 cases ty with
 | non=>cases (show u=Value.none from rx);exact FZ PySem.W.kitx_none I.kIn True.intro e (fun z=>nomatch z) h
 | bl y=>cases (show u=Value.bool y from rx);exact FZ PySem.W.kitx_bool I.kIn True.intro e (fun z=>nomatch z) h
 | int i=>obtain ⟨t,q⟩:=(show ∃t,u=Value.int i t from rx);cases q;exact FZ PySem.W.kitx_int I.kIn True.intro e (fun z=>nomatch z) h
 | str y=>obtain ⟨t,q⟩:=(show ∃t,u=Value.str y t from rx);cases q;exact FZ PySem.W.kitx_str I.kIn True.intro e (fun z=>nomatch z) h
 | flt y=>obtain ⟨t,q⟩:=(show ∃t,u=Value.float y t from rx);cases q;exact FZ PySem.W.kitx_float I.kIn True.intro e (fun z=>nomatch z) h
 | @lst a xs ea=>
  cases (show u=Value.ref a from rx)
  obtain ⟨_,_,n,_,h1⟩:=(show C8 X.prog X.w H s.heap a (.lst xs) from I.hok a _ ea)
  exact FZ PySem.W.kitx_list I.kIn ⟨_,h1,rfl⟩ e (fun z=>nomatch z) h
 | @frz a ob xs ea=>
  cases (show u=Value.ref a from rx)
  obtain ⟨_,_,_,n,_,h1⟩:=(show C8 X.prog X.w H s.heap a (.frz ob (.lst xs)) from I.hok a _ ea)
  exact FZ PySem.W.kitx_list I.kIn ⟨_,h1,rfl⟩ e (fun z=>nomatch z) h
 | @tup a xs ea=>
  cases (show u=Value.ref a from rx)
  obtain ⟨_,_,_,p⟩:=(show C8 X.prog X.w H s.heap a (.tup xs) from I.hok a _ ea)
  obtain ⟨o,h1,h2,_⟩:=p;exact FZ PySem.W.kitx_tuple I.kIn ⟨o,h1,h2⟩ e (fun z=>nomatch z) h
 | @dK a kvs ea=>
  cases (show u=Value.ref a from rx)
  obtain ⟨_,_,vs,_,p⟩:=(show C8 X.prog X.w H s.heap a (.dK kvs) from I.hok a _ ea)
  obtain ⟨o,es,ep,h1,h2,_⟩:=p;exact FZ PySem.W.kitx_dict I.kIn ⟨o,h1,h2.1⟩ e (fun z=>nomatch z) h
 | @dT a kvs ea=>
  cases (show u=Value.ref a from rx)
  obtain ⟨_,_,xs,_,o,es,ep,h1,h2,_⟩:=(show C8 X.prog X.w H s.heap a (.dT kvs) from I.hok a _ ea)
  exact FZ PySem.W.kitx_dict I.kIn ⟨o,h1,h2.1⟩ e (fun z=>nomatch z) h
 | @ins a C dx fs ea cl ha hn htk hm=>
  cases (show u=Value.ref a from rx);obtain ⟨mA,O,_⟩:=Mp I.hok ea;obtain ⟨od,J,_⟩:=O.look;exact FZ (PySem.W.kitx_own (cl.get _) cl.hd ha hn htk hm) I.kIn J e (fun z=>nomatch z) h
end
end L2
namespace L2
structure Cy(k:Nat)(A:Around):Prop where
 hd:A.handled=none
 dp:A.depth+3 * k+5 < recursionLimit
 un:A.units+16 * k+200 < cLine
theorem Cy.mono{j k:Nat}{A:Around}(r:Cy k A)(h:j≤k):Cy j A:=⟨r.hd,by have:=r.dp;omega,by have:=r.un;omega⟩
theorem Cy.deeper{k:Nat}{A:Around}(r:Cy (k+1) A)(env:Env):Cy k (A.deeper env):=
 ⟨r.hd,by have:=r.dp;show A.depth+1+3 * k+5 < _;omega,by have:=r.un;show A.units+3+16 * k+200 < _;omega⟩
theorem Tb{A:Around}{C:Addr}{us:List Value}{kw:List (Str×Value)}:(A.under (.builtin "type.__call__" ⟨.ref C::us,kw⟩)).depth=A.depth+1:=by
 first | rfl | simp [Around.under,Code.weight,Code.isCreation,Code.isGuard,Code.isCaller,Code.frames,Code.isFrame,guardIds]
theorem Tc{A:Around}{C:Addr}{us:List Value}{kw:List (Str×Value)}:(A.under (.builtin "type.__call__" ⟨.ref C::us,kw⟩)).units=A.units+1:=by
 first | rfl | simp [Around.under,Code.cUnits,Code.frames,Code.isFrame]
theorem Cy.make{k:Nat}{A:Around}(r:Cy (k+1) A)(C:Addr)(us:List Value)(kw:List (Str×Value)):Cy k (A.under (.builtin "type.__call__" ⟨.ref C::us,kw⟩)):=
 ⟨r.hd,by have:=r.dp;rw [Tb];omega,by have:=r.un;rw [Tc];omega⟩
theorem Cy.depth{k:Nat}{A:Around}(r:Cy k A):A.depth < recursionLimit:=by have:=r.dp;omega
theorem Cy.units{k:Nat}{A:Around}(r:Cy k A):A.units+64 < cLine:=by have:=r.un;omega
def Y0:TA:=fun _ H Q=>Q [] H
def Y1(ta:TE)(tr:TA):TA:=fun σ H Q=>ta σ H fun x H1=>tr σ H1 fun xs H2=>Q (x::xs) H2
section
variable {X:Cx} {e:Expr} {es:List Expr} {te:TE} {t:TA} {pos:Pos}
theorem A4:PA X [] Y0:=fun _ _ _ _ H Q I h=>Calls.spliced_nil ⟨[],H,I,.nil,h⟩
theorem A0(ha:PE X e te)(hr:PA X es t)(hs:starEach (e::es) X.env=(false,eval e X.env)::starEach es X.env:=by rfl):PA X (e::es) (Y1 te t):=by
 intro pos pins s σ H Q I h;rw [hs];show wpAny _ _ (spliced ((false,eval e X.env)::backTo pos (starEach es X.env))) _ _ s;refine Calls.spliced_cons (thn (ha pins s σ H _ I h) fun u s1 hq_=>?_);obtain ⟨x,H1,I1,r1,q1⟩:=hq_
 exact thn (hr pos pins s1 σ H1 _ I1 q1) fun us s2 ⟨xs,H2,I2,r2,q2⟩=>⟨x::xs,H2,I2,.cons r1 r2,q2⟩
def J6b(t:TA):TE:=fun σ H Q=>t σ H fun xs H1=>xs.length≤sizeLine∧∀p,H1 p=none→Q (.ref p) (upd H1 p (.tup xs))
def J6c(t:TA):TE:=fun σ H Q=>t σ H fun xs H1=>xs.length≤sizeLine∧∀p,H1 p=none→Q (.ref p) (upd H1 p (.lst xs))
theorem G6{x1}(h:PA X es t):PE X (.Tuple es x1 pos) (J6b t):=by
 intro pins s σ H Q I hq;refine wpAny_Tuple_spliced (thn (h pos pins s σ H _ I hq) fun us s1 ⟨xs,H1,I1,r,z,q⟩=>⟨by rw [← r.length];exact z,?_⟩);have hf:H1 s1.heap.objs.size=none:=I1.hok.fresh (Ff _);refine ⟨.ref s1.heap.objs.size,upd H1 s1.heap.objs.size (.tup xs),I1.laid (t':=s1.toks) (fun b u e=>Fl _ e) (Ff _) ?_,rfl,q _ hf⟩;exact ⟨z,us,r,⟨_,FG _ rfl,rfl,_,rfl⟩⟩
theorem Bv(h:PA X es t):PE X (.List es pos) (J6c t):=by
 intro pins s σ H Q I hq;refine wpAny_List_spliced (thn (h pos pins s σ H _ I hq) fun us s1 ⟨xs,H1,I1,r,z,q⟩=>⟨by rw [← r.length];exact z,?_⟩);have hf:H1 s1.heap.objs.size=none:=I1.hok.fresh (Ff _);refine ⟨.ref s1.heap.objs.size,upd H1 s1.heap.objs.size (.lst xs),I1.laid (t':=s1.toks) (fun b u e=>Fl _ e) (Ff _) ?_,rfl,q _ hf⟩;exact ⟨z,us,0,r,FG _ rfl⟩
end
abbrev Sp:=List V→Hp→VK→XK→Prop
abbrev CXT:=List Env→Hp→Shared→XK→Value→Shared→Prop
structure Td(P:Program)(w:World)(K:PySem.W.Frag)(mg:Str→Option Value)(base:Heap)(A:Around)(outer:List Env)(s:Shared)(H:Hp):Prop where
 frames:A.frames=some outer
 mod:Mod K mg base
 bs:∀b o,base.get? b=some o→s.heap.get? b=some o∧H b=none
 bsz:base.objs.size≤s.heap.objs.size
 funs:s.heap.FunFrames base outer
 frf:∀b∈frs outer,H b=none
 hok:HOk P w H s.heap
 bare:AllBare s.gens
def CE(outer:List Env)(P:Program)(w:World)(H:Hp)(s:Shared)(Q:VK)(u:Value)(s':Shared):Prop:=
 ∃v H',s'.os=s.os∧AllBare s'.gens∧Un (frs outer) [] H H' s.heap s'.heap∧HOk P w H' s'.heap∧B4 v u∧Q v H'
def CR(CX:CXT)(outer:List Env)(P:Program)(w:World)(H:Hp)(s:Shared)(Q:VK)(E:XK)(r:Result)(s':Shared):Prop:=
 match r with
 | .ok (.ret u)=>CE outer P w H s Q u s'
 | .ok _=>False
 | .error e=>CX outer H s E e s'
structure Au(P:Program)(w:World)(K:PySem.W.Frag)(mg:Str→Option Value)(base:Heap)(CX:CXT)(k:Nat)(f:Addr)(fd:FuncData)(ps:List Str)(sp:Sp):Prop where
 len:∀vs H Q E,sp vs H Q E→vs.length=ps.length
 run:∀(A:Around) (outer:List Env) (s:Shared) (H:Hp) (args:Args) (us:List Value) (vs:List V) (Q:VK) (E:XK),Cy k A→Td P w K mg base A outer s H→BindsTo s fd args (ps.zip us)→B3 vs us→sp vs H Q E→
  codeAny (model P w) A (.call (.ref f) args) (CR CX outer P w H s Q E) s
theorem Au.mono{P:Program}{w:World}{K:PySem.W.Frag}{mg:Str→Option Value}{base:Heap}{CX:CXT}{j k:Nat}{f:Addr}{fd:FuncData}{ps:List Str}{sp:Sp}(F:Au P w K mg base CX j f fd ps sp)(h:j≤k):
 Au P w K mg base CX k f fd ps sp:=⟨F.len,fun A outer s H args us vs Q E hr=>F.run A outer s H args us vs Q E (hr.mono h)⟩
theorem Td.make{P:Program}{w:World}{K:PySem.W.Frag}{mg:Str→Option Value}{base:Heap}{A:Around}{outer:List Env}{s:Shared}{H:Hp}(e:Td P w K mg base A outer s H)(C:Addr)(us:List Value)(kw:List (Str×Value)):
 Td P w K mg base (A.under (.builtin "type.__call__" ⟨.ref C::us,kw⟩)) outer s H:=⟨by first | exact e.frames | (simpa [Around.under,Code.envs,Code.isFrame,pushEnvs] using e.frames),e.mod,e.bs,e.bsz,e.funs,e.frf,e.hok,e.bare⟩
section
variable {X:Cx} {pins:List (Addr×Obj)} {σ:St} {H:Hp} {s s':Shared}
theorem Inv.env0(I:Inv X pins σ H s):Td X.prog X.w X.K X.mg X.base X.A X.stack s H:=
 ⟨I.ok.frames,I.ok.mod,I.bs,FA I.ok.bsz I.sz,I.stack,I.stkFree,I.hok,I.bare⟩
theorem Inv.after{Q:VK}{u:Value}(I:Inv X pins σ H s)(h:CE X.stack X.prog X.w H s Q u s'):EP X pins σ Q u s':=by
 obtain ⟨v,H',os,bare,un,hok,r,q⟩:=h;obtain ⟨hh,g,d,t,os'⟩:=s';obtain rfl:os'=s.os:=os;exact ⟨v,H',I.call (h':=hh) (g':=g) (d':=d) (t':=t) (ch:=[]) un hok bare (fun b z=>absurd z (by simp)),r,q⟩
end
def J6d(sp:Sp)(dvs:List V)(E:XK)(t:TA):TE:=fun σ H Q=>t σ H fun vs H1=>sp (vs++dvs) H1 Q E
def De(K:PySem.W.Frag)(fd:FuncData)(ps:List Str)(ds:List Value):Prop:=
 ∀(s:Shared) (us:List Value),K.In s.heap→(us++ds).length=ps.length→BindsTo s fd ⟨us,[]⟩ (ps.zip (us++ds))
theorem De.all{K:PySem.W.Frag}{fd:FuncData}{ps:List Str}(h:∀us:List Value,us.length=ps.length→bindArgs fd ⟨us,[]⟩=pure (ps.zip us)):De K fd ps []:=fun s us _ hl=>by
 rw [FP]at hl ⊢;exact .of_eq (h us hl)
def Lp(CX:CXT)(X:Cx)(E:XK):Prop:=∀(pins:List (Addr×Obj)) (σ:St) (H:Hp) (s:Shared) (e:Value) (s':Shared),Inv X pins σ H s→CX X.stack H s E e s'→X.xe e s'
section
variable {X:Cx} {CX:CXT} {k:Nat} {f C:Addr} {fd:FuncData} {ps:List Str} {sp:Sp} {dvs:List V} {ds:List Value} {E:XK} {x m:Str} {p pos apos:Pos} {e o:Expr} {es:List Expr} {ta:TE} {t:TA}
theorem Y2{pins:List (Addr×Obj)}{σ:St}{H:Hp}{s:Shared}{Q:VK}{us:List Value}{vs:List V}(F:Au X.prog X.w X.K X.mg X.base CX k f fd ps sp)(hr:Cy k X.A)(hb:De X.K fd ps ds)(hd:B3 dvs ds)(hx:Lp CX X E)
 (I:Inv X pins σ H s) (r:B3 vs us) (h:sp (vs++dvs) H Q E):wpAny (model X.prog X.w) X.A (call (.ref f) us) (EP X pins σ Q) X.xe s:=by
 have r2:B3 (vs++dvs) (us++ds):=r.append hd
 have hl:(us++ds).length=ps.length:=by rw [← r2.length];exact F.len _ _ _ _ h
 refine wpAny_call (R8 (F.run X.A X.stack s H ⟨us,[]⟩ (us++ds) (vs++dvs) Q E hr I.env0 (hb s us I.kIn hl) r2 h) fun r s' hq=>?_)
 cases r with
 | error e=>exact hx pins σ H s e s' I hq
 | ok fl=>
  cases fl with
  | ret u=>exact I.after hq
  | next=>exact False.elim hq
  | brk=>exact False.elim hq
  | cont=>exact False.elim hq
theorem J2i(F:Au X.prog X.w X.K X.mg X.base CX k f fd ps sp)(hr:Cy k X.A)(hg:Gl X x)(hm:X.mg x=some (.ref f))(hk:PySem.W.keepIn X.K (.ref f)=true)(hb:De X.K fd ps ds)(hd:B3 dvs ds)(hx:Lp CX X E)
 (ha:PA X (e::es) t) (hdb:(x==("__debug__":Str))=false:=by decide) (he:starEach (e::es) X.env=(false,eval e X.env)::starEach es X.env:=by rfl) (hpl:(backTo pos (starEach es X.env)).any (·.1)=false:=by rfl):
 PE X (.Call (.Name x p) (e::es) [] pos) (J6d sp dvs E t):=by
 intro pins s σ H Q I h;refine HD (Mn I hg hm ?_ hdb);refine HV (h₀:=X.base) I.ok.mod.kin hk (thn (ha pos pins s σ H _ I h) fun us s1 ⟨vs,H1,I1,r,q⟩=>⟨I1.kIn,?_⟩) he hpl;exact Y2 F hr hb hd hx I1 r q
structure Mk(K:PySem.W.Frag)(C f:Addr):Prop where
 makes:PySem.W.makesIn K C=true
 init:PySem.W.findIn K (.ref C) "__init__"=some (some (.ref f))
 fn:PySem.W.isFn K (.ref f)=true
 kp:PySem.W.keepIn K (.ref C)=true
end
structure Ab(N P:List Str)(sc:Scope):Prop where
 kind:sc.kind= .function
 co:sc.isCoroutine=false
 gen:sc.isGenerator=false
 nd:N.Nodup
 pre:N.take P.length=P
 par:∀x∈P,sc.names.lookup x=some .local∨sc.names.lookup x=some .cell
 nofree:∀y∈sc.names,y.2≠ .free
theorem Oa{kindOf:Str→Option NameKind}{x:Str}:∀{binds:List (Str×Value)} {m:Str→Option Value},(∀v,(x,v)∉binds)→bindL kindOf binds m x=m x
 | [],_,_=>rfl
 | (n,v)::r,m,h=>by
  unfold bindL;rw [Oa fun w hw=>h w (Fb _ hw)];split
  · have:x≠n:=by rintro rfl;exact h v Fi
    simp [this]
  · rfl
theorem Ob{kindOf:Str→Option NameKind}{x:Str}:∀{binds:List (Str×Value)} {m:Str→Option Value},(∀v,(x,v)∉binds)→bindC kindOf binds m x=m x
 | [],_,_=>rfl
 | (n,v)::r,m,h=>by
  unfold bindC;rw [Ob fun w hw=>h w (Fb _ hw)];split
  · rfl
  · have:x≠n:=by rintro rfl;exact h v Fi
    simp [this]
theorem Oc{kindOf:Str→Option NameKind}{x:Str}{v:Value}:∀{P:List Str} {vs:List Value} {i:Nat} {m:Str→Option Value},P.Nodup→P[i]?=some x→vs[i]?=some v→kindOf x=some .local→
 bindL kindOf (P.zip vs) m x=some v
 | [],_,_,_,_,h,_,_=>by simp at h
 | _::_,[],_,_,_,_,h,_=>by simp at h
 | p::P,w::vs,0,m,nd,h1,h2,hk=>by
  simp at h1 h2;subst h1;subst h2;show bindL kindOf ((p,w)::P.zip vs) m p=_;unfold bindL;rw [Oa fun v hv=>(FO.mp nd).1 (List.of_mem_zip hv).1,if_pos hk];simp
 | p::P,w::vs,i+1,m,nd,h1,h2,hk=>by
  show bindL kindOf ((p,w)::P.zip vs) m x=_;unfold bindL;exact Oc (i:=i) (FO.mp nd).2 (by simpa using h1) (by simpa using h2) hk
theorem Od{kindOf:Str→Option NameKind}{x:Str}{v:Value}:∀{P:List Str} {vs:List Value} {i:Nat} {m:Str→Option Value},P.Nodup→P[i]?=some x→vs[i]?=some v→kindOf x≠some .local→
 bindC kindOf (P.zip vs) m x=some v
 | [],_,_,_,_,h,_,_=>by simp at h
 | _::_,[],_,_,_,_,h,_=>by simp at h
 | p::P,w::vs,0,m,nd,h1,h2,hk=>by
  simp at h1 h2;subst h1;subst h2;show bindC kindOf ((p,w)::P.zip vs) m p=_;unfold bindC;rw [Ob fun v hv=>(FO.mp nd).1 (List.of_mem_zip hv).1,if_neg hk];simp
 | p::P,w::vs,i+1,m,nd,h1,h2,hk=>by
  show bindC kindOf ((p,w)::P.zip vs) m x=_;unfold bindC;exact Od (i:=i) (FO.mp nd).2 (by simpa using h1) (by simpa using h2) hk
def start(N:List Str)(vs:List V):St:=vs.map some++List.replicate (N.length - vs.length) none
def Te(CX:CXT)(P:Program)(w:World)(K:PySem.W.Frag)(mg:Str→Option Value)(base:Heap)(N:List Str)(qual:Str)(scope:Scope)(f:Addr)(cd:Value)(A:Around)(outer:List Env)(s:Shared)(H:Hp)(E:XK):Cx where
 prog:=P
 w:=w
 K:=K
 mg:=mg
 base:=base
 A:=A.deeper (envOfC qual scope s.heap.objs.size f cd)
 N:=N
 s₀:=s
 H₀:=H
 env:=envOfC qual scope s.heap.objs.size f cd
 outer:=outer
 stack:=envOfC qual scope s.heap.objs.size f cd::outer
 ex:=[]
 calm:=true
 fn:=fun _=>true
 pn:=[]
 xe:=fun e s'=>wpAny (model P w) (A.deeper (envOfC qual scope s.heap.objs.size f cd)) (leaving (envOfC qual scope s.heap.objs.size f cd) e) (fun _ s''=>CX outer H s E e s'') (fun e' s''=>CX outer H s E e' s'') s'
theorem Q6{sc:Scope}{n:Nat}{x:Str}(h:sc.names.lookup x=some .cell):∃c,(cellsFrom n sc.names []).lookup x=some c:=by
 have q:=PySem.W.cellsFrom_some sc.names n [] (.inl h);exact Hl.mp q
theorem Wq{CX:CXT}{P:Program}{w:World}{K:PySem.W.Frag}{mg:Str→Option Value}{base:Heap}{N ps:List Str}{qual:Str}{scope:Scope}{f:Addr}{cd:Value}{A:Around}{outer:List Env}{s s1:Shared}{H:Hp}{E:XK}{us:List Value}{vs:List V}
 (S:Ab N ps scope) (hd:A.handled=none) (e0:Td P w K mg base A outer s H) (hl:vs.length=ps.length) (r:B3 vs us)
 (x:InCallC s s.heap.objs.size (bindL (envOfC qual scope s.heap.objs.size f cd).kindOf (ps.zip us) fun _=>none) (cellsFrom (s.heap.objs.size+1) scope.names []) (bindC (envOfC qual scope s.heap.objs.size f cd).kindOf (ps.zip us) fun _=>none) s1):
 Inv (Te CX P w K mg base N qual scope f cd A outer s H E) [] (start N vs) H s1:=by
 have hpl:ps.length≤N.length:=by have:=congrArg List.length S.pre;rw [He]at this;omega
 obtain ⟨h1,tk,rfl,hk⟩:=x.done;have noA:∀b:Addr,b∉(Te CX P w K mg base N qual scope f cd A outer s H E).ex:=fun b z=>absurd (show b∈([]:List Addr) from z) (by simp)
 refine ⟨⟨e0.mod,S.kind,rfl,rfl,Ff _,fun y z c h1 h2=>?_,fun y hy=>?_,fun y c _ h=>?_,fun _=>hd,Around.frames_deeper e0.frames,.inr ⟨rfl,rfl⟩,fun b z=>absurd z (noA b),e0.bs,e0.bsz,fun b _ _=>noA b,fun b z=>absurd z (noA b),e0.funs,e0.frf⟩,
  rfl,e0.bare,Un.kept hk,⟨_,x.toInCall.ns,fun i y v h1 h2 h3=>?_⟩,fun y c h=>⟨_,x.cell y c h⟩,e0.hok.fresh (Ff _),fun y c h=>?_,fun p hp=>absurd (show p∈([]:List (Addr×Obj)) from hp) (by simp),e0.hok.kept hk,?_⟩
 · exact name_of_addr x.apart (HC h1) (HC h2)
 · have hy:scope.names.lookup y=some .cell∨scope.names.lookup y=some .free:=hy
   rcases hy with hy | hy
   · exact Q6 hy
   · exact absurd rfl (S.nofree _ (HC hy))
 · exact Nat.le_of_lt (x.above y c (HC h))
 · have hi:i < vs.length:=by
    unfold start at h2
    by_cases hi:i < vs.length
    · exact hi
    · rw [FB (by simpa using hi)]at h2
      rw [List.getElem?_replicate]at h2
      split at h2 <;> cases h2
   have ha:vs[i]?=some v:=by
    unfold start at h2;rw [Fw (by simpa using hi),Fg]at h2
    cases e:vs[i]? with
    | none=>rw [e]at h2;cases h2
    | some a=>rw [e]at h2;cases h2;rfl
   obtain ⟨u,hu,rv⟩:=r.get ha
   have hp:ps[i]?=some y:=by
    rw [← S.pre,List.getElem?_take_of_lt (by omega)];exact h1
   have ndP:ps.Nodup:=by rw [← S.pre];exact S.nd.sublist (Re _ _)
   refine ⟨u,rv,?_⟩;rcases S.par y (Fk hp) with k | k
   · exact .inl ⟨k,Oc ndP hp hu k⟩
   · obtain ⟨c,e⟩:=Q6 (n:=s.heap.objs.size+1) k
     refine .inr ⟨.inl k,c,e,?_⟩;have q:=x.cell y c e;rw [Od ndP hp hu (by show scope.names.lookup y≠_;rw [k];decide)]at q;exact q
 · exact e0.hok.fresh (Nat.le_of_lt (x.above y c (HC h)))
 · unfold start
   show _=N.length;rw [Fj,Fa,HI];omega
theorem J6e{CX:CXT}{P:Program}{w:World}{K:PySem.W.Frag}{mg:Str→Option Value}{base:Heap}{k:Nat}{f:Addr}{name qual:Str}{params:Arguments}{body:List Stmt}{scope:Scope}{dV kV doc pm cdv ct oc:Value}{an od:Option Addr}
 {osl:Array (Option Value)} {N ps:List Str} {sp:Sp} (lk:K.lookup f=some ⟨oc,od,.func (PySem.W.fnOf name qual params body scope dV kV doc pm an cdv ct),osl⟩) (hcd:PySem.W.codeIn K cdv qual=true) (S:Ab N ps scope)
 (len:∀vs H Q E,sp vs H Q E→vs.length=ps.length)
 (hbody:∀(A:Around) (outer:List Env) (s:Shared) (H:Hp) (vs:List V) (Q:VK) (E:XK),Cy k (A.deeper (envOfC qual scope s.heap.objs.size f cdv))→sp vs H Q E→
  ∃t,PSs (Te CX P w K mg base N qual scope f cdv A outer s H E) body t∧t {nx:=fun _ H'=>Q .non H',rt:=Q} (start N vs) H):
 Au P w K mg base CX (k+1) f (PySem.W.fnOf name qual params body scope dV kV doc pm an cdv ct) ps sp:=by
 refine ⟨len,fun A outer s H args us vs Q E hr e0 hb r hsp=>?_⟩;have hl:=len _ _ _ _ hsp;have KX:K.In s.heap:=e0.mod.kin.keeps fun b o e=>(e0.bs b o e).1;have lim:s.heap.NoLimit:=e0.mod.nolimit.keeps fun b o e=>(e0.bs b o e).1
 have hkind:∀y∈ps.zip us,scope.names.lookup y.1=some .local∨(scope.names.lookup y.1=some .cell∧((cellsFrom (s.heap.objs.size+1) scope.names []).lookup y.1).isSome=true):=fun ⟨n,v⟩ hy=>by
  rcases S.par n (List.of_mem_zip hy).1 with q | q
  · exact .inl q
  · exact .inr ⟨q,PySem.W.cellsFrom_some _ _ _ (.inl q)⟩
 refine codeAny_call_function hr.depth (KX _ _ lk) rfl S.co S.gen rfl (PySem.W.codeRec_of KX hcd) (hb _ _ _ _ ?_);refine wpAny_newFunctionEnv_cells S.kind hkind fun env he s1 x=>?_;subst he;refine ⟨lim.keeps x.toInCall.keep,codeAny_func ?_⟩;obtain ⟨t,ht,hq⟩:=hbody A outer s H vs Q E (hr.deeper _) hsp;have I:Inv (Te CX P w K mg base N qual scope f cdv A outer s H E) [] (start N vs) H s1:=Wq S hr.hd e0 hl r x;refine Hd (ht [] s1 (start N vs) H _ I hq) (fun fl s' hs=>?_) fun e s' hs=>hs
 have fin:∀{σ':St} {H':Hp} {v:V} {u:Value},Inv (Te CX P w K mg base N qual scope f cdv A outer s H E) [] σ' H' s'→B4 v u→Q v H'→CE outer P w H s Q u s':=
  fun {σ' H' v u} J rv q=>⟨v,H',J.os,J.bare,J.base,J.hok,rv,q⟩
 cases fl with
 | ret u=>
  obtain ⟨v,σ',H',J,rv,q⟩:=hs;exact fin J rv q
 | next=>
  obtain ⟨σ',H',J,q⟩:=hs;exact fin (v:=V.non) (u:=Value.none) J rfl q
 | brk=>
  obtain ⟨_,_,_,q⟩:=hs;exact False.elim q
 | cont=>
  obtain ⟨_,_,_,q⟩:=hs;exact False.elim q
end L2
namespace L2
section
variable {X:Cx} {x:Str} {p pos:Pos} {e:Expr} {es:List Expr} {t:TA} {id T:String} {r:List V→Hp→VK→Prop}
def tCB(r:List V→Hp→VK→Prop)(t:TA):TE:=fun σ H Q=>t σ H fun vs H1=>r vs H1 Q
theorem Aq(hc:Eh X (.builtin id) r)(hg:Gl X x)(hm:X.mg x=none)(hv:bootBuiltins x=some (.builtin id))(ha:PA X (e::es) t)(hn:x≠"__name__":=by decide)(hdb:(x==("__debug__":Str))=false:=by decide)
 (he:starEach (e::es) X.env=(false,eval e X.env)::starEach es X.env:=by rfl) (hpl:(backTo pos (starEach es X.env)).any (·.1)=false:=by rfl):PE X (.Call (.Name x p) (e::es) [] pos) (tCB r t):=by
 intro pins s σ H Q I h;refine HD (Li I hg hm hv ?_ hn hdb);exact PyProof.Rows.callWith_builtin1 (thn (ha pos pins s σ H _ I h) fun us s1 ⟨vs,H1,I1,r1,q1⟩=>hc pins s1 σ H1 vs us Q I1 r1 q1) he hpl
theorem B0(hc:Eh X (.type T) r)(hg:Gl X x)(hm:X.mg x=none)(hv:bootBuiltins x=some (.type T))(ha:PA X (e::es) t)(hn:x≠"__name__":=by decide)(hdb:(x==("__debug__":Str))=false:=by decide)
 (he:starEach (e::es) X.env=(false,eval e X.env)::starEach es X.env:=by rfl) (hpl:(backTo pos (starEach es X.env)).any (·.1)=false:=by rfl):PE X (.Call (.Name x p) (e::es) [] pos) (tCB r t):=by
 intro pins s σ H Q I h;refine HD (Li I hg hm hv ?_ hn hdb);exact HK (thn (ha pos pins s σ H _ I h) fun us s1 ⟨vs,H1,I1,r1,q1⟩=>hc pins s1 σ H1 vs us Q I1 r1 q1) he hpl
end
end L2
namespace HT
open PySem PyProof.Rows
def J3x:List Int→List Int→Bool
 | [],[]=>false
 | [],_::_=>true
 | _::_,[]=>false
 | x::xs,y::ys=>if x=y then J3x xs ys else decide (x < y)
section
variable {prog:Program} {w:World} {A:Around} {E:Value→Shared→Prop} {s:Shared}
def sIx(n d:Nat):Option Int→Nat
 | none=>d
 | some v=>if v < 0 then (v+(n:Int)).toNat else min v.toNat n
theorem Ky(n d k:Nat):sIx n d (some (k:Int))=min k n:=by
 show (if (k:Int) < 0 then ((k:Int)+(n:Int)).toNat else min (k:Int).toNat n)=min k n;rw [if_neg (by omega),Int.toNat_natCast]
end
end HT
namespace L2
abbrev TO:=St→Hp→(Option Int→Hp→Prop)→Prop
def PO(X:Cx)(e:Option Expr)(t:TO):Prop:=
 ∀(pins:List (Addr×Obj)) (s:Shared) (σ:St) (H:Hp) (Q:Option Int→Hp→Prop),Inv X pins σ H s→t σ H Q→
   wpAny (model X.prog X.w) X.A (evalPart e X.env) (fun u s'=>∃o H',Inv X pins σ H' s'∧IsPart u o∧Q o H') X.xe s
def Uc:TO:=fun _ H Q=>Q none H
def J3y(t:TE):TO:=fun σ H Q=>t σ H fun x H1=>∃i,x= .int i∧Q (some i) H1
section
variable {X:Cx} {e:Expr} {te:TE} {lo hi:Option Expr} {tl th:TO} {pos p2:Pos}
theorem J2j:PO X none Uc:=by
 intro pins s σ H Q I h;rw [evalPart_none];exact FU ⟨none,H,I,.none,h⟩
theorem E9(h:PE X e te):PO X (some e) (J3y te):=by
 intro pins s σ H Q I hw;rw [evalPart_some];refine thn (h pins s σ H _ I hw) fun u s1 hq_=>?_;obtain ⟨x,H1,I1,r1,q1⟩:=hq_;obtain ⟨i,rfl,q⟩:=q1;obtain ⟨t,rfl⟩:=r1;exact ⟨some i,H1,I1,.int i t,q⟩
def SlR(X:Cx)(r:V→Option Int→Option Int→Hp→VK→Prop):Prop:=
 ∀(pins:List (Addr×Obj)) (s:Shared) (σ:St) (H:Hp) (x:V) (v vl vu:Value) (lo hi:Option Int) (sl:Addr) (Q:VK),Inv X pins σ H s→B4 x v→s.heap.IsSliceOf sl vl vu .none→IsPart vl lo→IsPart vu hi→r x lo hi H Q→
   ∃T id,typeLookup (.type T) "__getitem__"=pure (some (.builtin id))∧s.TypeIs v T∧wpAny (model X.prog X.w) X.A (getItem v (.ref sl)) (EP X pins σ Q) X.xe s
def tSl(r:V→Option Int→Option Int→Hp→VK→Prop)(te:TE)(tl th:TO):TE:=fun σ H Q=>te σ H fun x H1=>tl σ H1 fun l H2=>th σ H2 fun u H3=>r x l u H3 Q
theorem Ic{r:V→Option Int→Option Int→Hp→VK→Prop}(hr:SlR X r)(he:PE X e te)(hl:PO X lo tl)(hu:PO X hi th):PE X (.Subscript e (.Slice lo hi none p2) pos) (tSl r te tl th):=by
 intro pins s σ H Q I h;refine Subscript_ (thn (he pins s σ H _ I h) fun v s1 hq_=>?_);obtain ⟨x,H1,I1,r1,q1⟩:=hq_;refine wpAny_Slice (thn (hl pins s1 σ H1 _ I1 q1) fun vl s2 ⟨l,H2,I2,pl,q2⟩=>thn (hu pins s2 σ H2 _ I2 q2) fun vu s3 hq_=>?_);obtain ⟨u,H3,I3,pu,q3⟩:=hq_;rw [evalPart_none];refine FU ?_;have I4:Inv X pins σ H3 {s3 with heap:=s3.heap.push {cls:= .type "slice",data:= .fields #[vl,vu,.none]}}:=I3.kept (t':=s3.toks) fun b ob q=>Fl _ q;obtain ⟨T,id,hT,ht,hg⟩:=hr pins {s3 with heap:=s3.heap.push {cls:= .type "slice",data:= .fields #[vl,vu,.none]}} σ H3 x v vl vu l u s3.heap.objs.size Q I4 r1 (Heap.IsSliceOf.new ..) pl pu q3;show wpAny (model X.prog X.w) X.A (subscriptTail e (.Slice lo hi none p2) v (.ref s3.heap.objs.size)) (EP X pins σ Q) X.xe {s3 with heap:=s3.heap.push {cls:= .type "slice",data:= .fields #[vl,vu,.none]}};exact tail_any (ops:=[.ref s3.heap.objs.size,v]) ht hT hg (by with_unfolding_all rfl)
def Kz(xs:List V)(lo hi:Option Int):List V:=(xs.drop (HT.sIx xs.length 0 lo)).take (HT.sIx xs.length xs.length hi - HT.sIx xs.length 0 lo)
theorem Q7(xs:List V)(lo hi:Option Int):(Kz xs lo hi).length≤xs.length:=by
 unfold Kz;rw [He,Hi];omega
end
end L2
namespace L2
def ixN(n:Nat)(i:Int):Option Nat:=if 0≤i then (if i < n then some i.toNat else none) else if -(n:Int)≤i then some (i+n).toNat else none
def atI{α:Type}(xs:List α)(i:Int):Option α:=(ixN xs.length i).bind fun j=>xs[j]?
theorem Ud{n:Nat}{i:Int}{j:Nat}(h:ixN n i=some j):seqIndex? i n=some j∧j < n∧-(n:Int)≤i∧i < n:=by
 unfold ixN at h
 by_cases h0:0≤i
 · rw [if_pos h0]at h
   by_cases h1:i < n
   · rw [if_pos h1]at h
     have e:i.toNat=j:=FN h;exact ⟨by rw [seqIndex_of h0 h1,e],by omega,by omega,h1⟩
   · rw [if_neg h1]at h;cases h
 · rw [if_neg h0]at h
   by_cases h1:-(n:Int)≤i
   · rw [if_pos h1]at h
     have e:(i+n).toNat=j:=FN h;exact ⟨by rw [seqIndex_neg (by omega) h1,e],by omega,h1,by omega⟩
   · rw [if_neg h1]at h;cases h
theorem Pd{α:Type}{xs:List α}{i:Int}{v:α}(h:atI xs i=some v):∃j,seqIndex? i xs.length=some j∧xs[j]?=some v∧j < xs.length∧-(xs.length:Int)≤i∧i < xs.length:=by
 unfold atI at h
 cases e:ixN xs.length i with
 | none=>rw [e]at h;cases h
 | some j=>
  rw [e]at h;obtain ⟨h1,h2,h3,h4⟩:=Ud e;exact ⟨j,h1,h,h2,h3,h4⟩
theorem Cv{α:Type}{xs:List α}{j:Nat}{v:α}(h:xs[j]?=some v):atI xs (j:Int)=some v:=by
 have hj:j < xs.length:=(Fe.mp h).1
 have e:ixN xs.length (j:Int)=some j:=by
  unfold ixN;rw [if_pos (by omega),if_pos (by omega)];simp
 unfold atI;rw [e];exact h
def J2k(b:Expr):Prop:=∀o i,subscripted b false o i=operate [o,i] (getItem o i)
def IxR(X:Cx)(r:R2):Prop:=
 ∀(value slice:Expr) (pins:List (Addr×Obj)) (s:Shared) (σ:St) (H:Hp) (x y:V) (v u:Value) (Q:VK),Inv X pins σ H s→B4 x v→B4 y u→r x y H Q→
   subscripted slice false v u=operate [v,u] (getItem v u)→wpAny (model X.prog X.w) X.A (subscriptTail value slice v u) (EP X pins σ Q) X.xe s
def MtR(X:Cx)(id:String)(r:V→List V→Hp→VK→Prop):Prop:=
 ∀(pins:List (Addr×Obj)) (s:Shared) (σ:St) (H:Hp) (x:V) (xs:List V) (v:Value) (us:List Value) (Q:VK),Inv X pins σ H s→B4 x v→B3 xs us→r x xs H Q→
   wpAny (model X.prog X.w) X.A (call (.builtin id) (v::us)) (EP X pins σ Q) X.xe s
section
variable {X:Cx} {a b:Expr} {ta tb:TE} {pos:Pos}
theorem Bz{r:R2}(hr:IxR X r)(ha:PE X a ta)(hb:PE X b tb)(hs:J2k b):PE X (.Subscript a b pos) (tOp r ta tb):=by
 intro pins s σ H Q I h;exact Subscript_ (J4w ha hb I h fun v u s2 x y H2 I2 rx ry q=>hr a b pins s2 σ H2 x y v u Q I2 rx ry q (hs _ _))
def J6f(K:PySem.W.Frag):R2:=fun x y H Q=>∃p xs i v,x= .ref p∧y= .int i∧SqL K H p xs∧atI xs i=some v∧Q v H
def J6g(K:PySem.W.Frag):R2:=fun x y H Q=>∃p xs i v,x= .ref p∧y= .int i∧SqT K H p xs∧atI xs i=some v∧Q v H
def J6h:R2:=fun x y H Q=>∃z i c,x= .str z∧y= .int i∧z.length≤sizeLine∧atI z.cps.toList i=some c∧Q (.str ⟨#[c]⟩) H
theorem Bp:IxR X (J6f X.K):=by
 intro value slice pins s σ H x y v u Q I rx ry h hs;obtain ⟨p,xs,i,z,rfl,rfl,hq,he,q⟩:=h;cases rx;obtain ⟨t,rfl⟩:=ry;obtain ⟨its,r,pl,hz⟩:=I.list hq;obtain ⟨j,h1,h2,h3,h4,h5⟩:=Pd he;obtain ⟨w,ew,rw'⟩:=r.get h2;have hl:=r.length;have hn:=Ko
 have fin:EP X pins σ Q w s:=⟨z,H,I,rw',q⟩
 by_cases h0:0≤i
 · have hj:i.toNat=j:=by
    rw [seqIndex_of h0 h5]at h1;exact FN h1
   exact item_listR pl.isList h0 (by omega) (by rw [hj];simpa using ew) fin hs
 · have hj:(i+(its.toArray.size:Int)).toNat=j:=by
    rw [seqIndex_neg (by omega) h4]at h1;rw [Fm,← hl];exact FN h1
   exact subscriptTail_builtinR (x:=w) pl.isList.typeIs slot_list_getitem.lookup
    (wpAny_getItem_list_neg (Q:=fun r s'=>r=w∧EP X pins σ Q r s') pl.isList (by omega) (by rw [Fm] <;> omega) (by omega) (by rw [hj];simpa using ew) ⟨rfl,fin⟩) hs
theorem Lq:IxR X (J6g X.K):=by
 intro value slice pins s σ H x y v u Q I rx ry h hs;obtain ⟨p,xs,i,z,rfl,rfl,hq,he,q⟩:=h;cases rx;obtain ⟨t,rfl⟩:=ry;obtain ⟨its,r,pl,hz⟩:=I.tuple hq;obtain ⟨j,h1,h2,h3,h4,h5⟩:=Pd he;obtain ⟨w,ew,rw'⟩:=r.get h2;have hl:=r.length;have hn:=Ko
 have fin:EP X pins σ Q w s:=⟨z,H,I,rw',q⟩
 exact subscriptTail_builtinR (x:=w) pl.typeIs slot_tuple_getitem.lookup
  (getItem_tuple (j:=j) (Q:=fun r s'=>r=w∧EP X pins σ Q r s') pl (by omega) (by omega) (by rw [Fm,← hl];exact h1) (by simpa using ew) ⟨rfl,fin⟩) hs
theorem Tf:IxR X J6h:=by
 intro value slice pins s σ H x y v u Q I rx ry h hs;obtain ⟨z,i,c,rfl,rfl,hz,he,q⟩:=h;obtain ⟨t,rfl⟩:=rx;obtain ⟨t',rfl⟩:=ry;obtain ⟨j,h1,h2,h3,h4,h5⟩:=Pd he
 have hl:z.cps.toList.length=z.length:=by simp [Str.length]
 rw [hl]at h1 h4 h5;have hn:=Ko
 exact tail_any (RI s z t) slot_str_getitem.lookup (getItem_str (c:=c) (by
  have e1:decide (i < -(2 ^ 63:Int))=false:=FF (by omega);have e2:decide (i ≥ 2 ^ 63)=false:=FF (by omega)
  rw [e1,e2,Bool.or_false]) (by rw [h1];simpa using h2) ⟨.str ⟨#[c]⟩,H,I.tok _,⟨_,rfl⟩,q⟩) hs
theorem Tg(its:List Value)(n j:Nat)(u:Value):Obj.mapSeq (·.setIfInBounds j u) {cls:= .type "list",data:= .seq its.toArray n}={cls:= .type "list",data:= .seq (its.set j u).toArray n}:=by
 simp [Obj.mapSeq]
theorem Inv.lst{pins:List (Addr×Obj)}{σ:St}{H:Hp}{s:Shared}{p:Addr}{xs:List V}(I:Inv X pins σ H s)(h:H p=some (.lst xs)):
 ∃(its:List Value) (n:Nat),B3 xs its∧s.heap.get? p=some {cls:= .type "list",data:= .seq its.toArray n}∧xs.length≤sizeLine:=by
 obtain ⟨z,its,n,r,e⟩:=I.hok p _ h;exact ⟨its,n,r,e,z⟩
theorem Inv.lstUpd{pins:List (Addr×Obj)}{σ:St}{H:Hp}{s:Shared}{p:Addr}{xs ys:List V}{its its':List Value}{n n':Nat}{f:Obj→Obj}(I:Inv X pins σ H s)(h:H p=some (.lst xs))
 (ho:s.heap.get? p=some {cls:= .type "list",data:= .seq its.toArray n}) (hf:f {cls:= .type "list",data:= .seq its.toArray n}={cls:= .type "list",data:= .seq its'.toArray n'}) (r:B3 ys its') (hz:ys.length≤sizeLine) (t:Nat):
 Inv X pins σ (upd H p (.lst ys)) {s with heap:=s.heap.update p f,toks:=t}:=by
 have e:(s.heap.update p f).get? p=some {cls:= .type "list",data:= .seq its'.toArray n'}:=by
  rw [Heap.get?_update_self f ho (by rw [hf] <;> rfl),hf]
 refine I.write (x:=p) (e:=p) (by rw [h];trivial) (.inl rfl) (fun b u hb q=>(Heap.get?_update_other _ _ (Ne.symm hb)).trans q) ⟨_,e⟩ ?_;exact ⟨hz,its',n',r,e⟩
def J3z:V→V→V→Hp→(Hp→Prop)→Prop:=fun o i v H Q=>∃p xs k j,o= .ref p∧i= .int k∧H p=some (.lst xs)∧ixN xs.length k=some j∧Q (upd H p (.lst (xs.set j v)))
theorem Et:J4v X J3z:=by
 intro pins s σ H o i v ov iv u Q I ro ri rv h;obtain ⟨p,xs,k,j,rfl,rfl,hp,hj,q⟩:=h;cases ro;obtain ⟨t,rfl⟩:=ri;obtain ⟨its,n,r,ho,hz⟩:=I.lst hp;obtain ⟨h1,h2,h3,h4⟩:=Ud hj;have hl:=r.length;have hn:=Ko
 have I':Inv X pins σ (upd H p (.lst (xs.set j v))) {s with heap:=s.heap.update p (Obj.mapSeq (·.setIfInBounds j u))}:=
  I.lstUpd hp ho (Tg its n j u) (r.set rv j) (by rw [Hw];exact hz) s.toks
 by_cases h0:0≤k
 · have hk:k.toNat=j:=by
    rw [seqIndex_of h0 h4]at h1;exact FN h1
   exact PySem.W.ki_setAt ho h0 (by omega) (by rw [Fm,← hl];exact h4) (by rw [hk];exact ⟨_,I',q⟩)
 · have hk:(k+(its.toArray.size:Int)).toNat=j:=by
    rw [seqIndex_neg (by omega) h3]at h1;rw [Fm,← hl];exact FN h1
   exact PySem.W.ki_setBack ho (by omega) (by rw [Fm,← hl];exact h3) (by omega) (by rw [hk];exact ⟨_,I',q⟩)
theorem Pe(lo hi:Option Int)(n:Nat):(sliceBounds lo hi none n).1=((HT.sIx n 0 lo:Nat):Int)∧(sliceBounds lo hi none n).2.1=((HT.sIx n n hi:Nat):Int)∧(sliceBounds lo hi none n).2.2=1:=by
 refine ⟨?_,?_,rfl⟩
 · cases lo with
   | none=>simp [sliceBounds,HT.sIx]
   | some i=>
    simp only [sliceBounds,HT.sIx,Option.getD_none,show (1:Int) > 0 by decide,if_true]
    by_cases h:i < 0
    · simp only [h,if_true] <;> omega
    · simp only [h,if_false] <;> omega
 · cases hi with
   | none=>simp [sliceBounds,HT.sIx]
   | some i=>
    simp only [sliceBounds,HT.sIx,Option.getD_none,show (1:Int) > 0 by decide,if_true]
    by_cases h:i < 0
    · simp only [h,if_true] <;> omega
    · simp only [h,if_false] <;> omega
theorem O4(its:List Value)(lo hi:Option Int):slicePick its.toArray lo hi none=((its.drop (HT.sIx its.length 0 lo)).take (HT.sIx its.length its.length hi - HT.sIx its.length 0 lo)).toArray:=by
 obtain ⟨h1,h2,h3⟩:=Pe lo hi its.toArray.size;unfold slicePick;rw [h1,h2,h3]
 simp only [sliceRange_one,pick_run,Fm] <;> rfl
def J6i(K:PySem.W.Frag):V→Option Int→Option Int→Hp→VK→Prop:=fun x lo hi H Q=>∃a xs,x= .ref a∧SqL K H a xs∧∀p,H p=none→Q (.ref p) (upd H p (.lst (Kz xs lo hi)))
theorem L0:SlR X (J6i X.K):=by
 intro pins s σ H x v vl vu lo hi sl Q I rx hs pl pu h;obtain ⟨a,xs,rfl,hx,q⟩:=h;cases rx;obtain ⟨its,r,ht,hz⟩:=I.list hx;have hlen:=r.length;refine ⟨"list",_,slot_list_getitem.lookup,ht.isList.typeIs,?_⟩
 refine wpAny_getItem_list_slice ht.isList hs pl pu .none (by simp) ?_ (by rw [Fm] <;> omega)
 rw [O4,← hlen];refine ⟨.ref s.heap.objs.size,_,I.laid (t':=s.toks) (o:= .lst (Kz xs lo hi)) (fun b ob q=>Fl _ q) (Ff _) ?_,rfl,q _ (I.hok.fresh (Ff _))⟩;exact ⟨FA (Q7 xs lo hi) hz,_,0,(r.drop (HT.sIx xs.length 0 lo)).take (HT.sIx xs.length xs.length hi - HT.sIx xs.length 0 lo),FG _ rfl⟩
def Df:V→Bool
 | .non=>true
 | .bl _=>true
 | .int _=>true
 | .str _=>true
 | _=>false
def eqV:V→V→Bool
 | .non,.non=>true
 | .bl a,.bl b=>a==b
 | .bl a,.int b=>(if a then 1 else 0)==b
 | .int a,.bl b=>a==(if b then 1 else 0)
 | .int a,.int b=>a==b
 | .str a,.str b=>a==b
 | _,_=>false
theorem J4y{A:Around}{s:Shared}{y x:V}{u v:Value}(ry:B4 y u)(rx:B4 x v)(fy:Df y=true)(fx:Df x=true):SeqAt.EqAt A s u v (eqV y x):=by
 cases y with
 | non=>
  cases ry
  cases x with
  | non=>cases rx;exact SeqAt.EqAt.same _
  | bl b=>cases rx;exact SeqAt.EqAt.none_bool b
  | int b=>obtain ⟨t,rfl⟩:=rx;exact SeqAt.EqAt.none_int b t
  | str b=>obtain ⟨t,rfl⟩:=rx;exact SeqAt.EqAt.none_str b t
  | _=>exact absurd (show false=true from fx) Fu
 | bl a=>
  cases ry
  cases x with
  | non=>cases rx;exact SeqAt.EqAt.bool_none a
  | bl b=>cases rx;exact SeqAt.EqAt.bool_bool a b
  | int b=>obtain ⟨t,rfl⟩:=rx;exact SeqAt.EqAt.bool_int a b t
  | str b=>obtain ⟨t,rfl⟩:=rx;exact SeqAt.EqAt.bool_str a b t
  | _=>exact absurd (show false=true from fx) Fu
 | int a=>
  obtain ⟨t',rfl⟩:=ry
  cases x with
  | non=>cases rx;exact SeqAt.EqAt.int_none a t'
  | bl b=>cases rx;exact SeqAt.EqAt.int_bool a t' b
  | int b=>obtain ⟨t,rfl⟩:=rx;exact SeqAt.EqAt.int_int a t' b t
  | str b=>obtain ⟨t,rfl⟩:=rx;exact SeqAt.EqAt.int_str a t' b t
  | _=>exact absurd (show false=true from fx) Fu
 | str a=>
  obtain ⟨t',rfl⟩:=ry
  cases x with
  | non=>cases rx;exact SeqAt.EqAt.str_none a t'
  | bl b=>cases rx;exact SeqAt.EqAt.str_bool a t' b
  | int b=>obtain ⟨t,rfl⟩:=rx;exact SeqAt.EqAt.str_int a t' b t
  | str b=>obtain ⟨t,rfl⟩:=rx;exact SeqAt.EqAt.str_str a t' b t
  | _=>exact absurd (show false=true from fx) Fu
 | _=>exact absurd (show false=true from fy) Fu
def eqU(x:V)(u:Value):Bool:=match u with
 | .none=>eqV .non x
 | .bool b=>eqV (.bl b) x
 | .int i _=>eqV (.int i) x
 | .str z _=>eqV (.str z) x
 | _=>false
theorem Y3{x y:V}{u:Value}(r:B4 y u)(f:Df y=true):eqU x u=eqV y x:=by
 cases y with
 | non=>cases r;rfl
 | bl b=>cases r;rfl
 | int i=>obtain ⟨t,rfl⟩:=r;rfl
 | str z=>obtain ⟨t,rfl⟩:=r;rfl
 | _=>exact absurd (show false=true from f) Fu
theorem L3{x:V}:∀{xs:List V} {us:List Value},B3 xs us→xs.all Df=true→us.any (eqU x)=xs.any fun y=>eqV y x
 | _,_,.nil,_=>rfl
 | y::xs,u::us,.cons r t,f=>by
  rw [List.all_cons,Hf]at f;rw [HG,HG,Y3 r f.1,L3 t f.2]
theorem Ie{A:Around}{s:Shared}{x:V}{v:Value}(rx:B4 x v)(fx:Df x=true):∀{xs:List V} {us:List Value},B3 xs us→xs.all Df=true→∀u∈us,SeqAt.EqAt A s u v (eqU x u)
 | _,_,.nil,_=>fun u hu=>by cases hu
 | y::xs,u::us,.cons r t,f=>fun u' hu=>by
  rw [List.all_cons,Hf]at f;rcases Fo.mp hu with rfl | hu
  · rw [Y3 r f.1];exact J4y r rx f.1 fx
  · exact Ie rx fx t f.2 u' hu
def inV(x:V)(xs:List V):Bool:=xs.any fun y=>eqV y x
def rIn(K:PySem.W.Frag)(neg:Bool):R2:=fun x y H Q=>∃p xs,y= .ref p∧(SqL K H p xs∨SqT K H p xs)∧Df x=true∧xs.all Df=true∧Q (.bl (if neg then !inV x xs else inV x xs)) H
theorem Ck:OpR X (compareOp .In) (rIn X.K false):=by
 intro pins s σ H x y v u Q I rx ry h;obtain ⟨p,xs,rfl,hq,fx,fs,q⟩:=h;cases ry;rcases hq with hq | hq
 · obtain ⟨its,r,pl,hz⟩:=I.list hq
   refine SeqAt.in_listAt (eqU x) pl.isList (fun w hw=>Ie rx fx r fs w (by simpa using hw)) ⟨.bl _,H,I,rfl,?_⟩;rw [show its.toArray.any (eqU x)=its.any (eqU x) by simp,L3 r fs];exact q
 · obtain ⟨its,r,pl,hz⟩:=I.tuple hq
   refine SeqAt.in_tupleAt (eqU x) pl (fun w hw=>Ie rx fx r fs w (by simpa using hw)) ⟨.bl _,H,I,rfl,?_⟩;rw [show its.toArray.any (eqU x)=its.any (eqU x) by simp,L3 r fs];exact q
theorem Pf:OpR X (compareOp .NotIn) (rIn X.K true):=by
 intro pins s σ H x y v u Q I rx ry h;obtain ⟨p,xs,rfl,hq,fx,fs,q⟩:=h;cases ry;rcases hq with hq | hq
 · obtain ⟨its,r,pl,hz⟩:=I.list hq
   refine SeqAt.notIn_listAt (eqU x) pl.isList (fun w hw=>Ie rx fx r fs w (by simpa using hw)) ⟨.bl _,H,I,rfl,?_⟩;rw [show its.toArray.any (eqU x)=its.any (eqU x) by simp,L3 r fs];exact q
 · obtain ⟨its,r,pl,hz⟩:=I.tuple hq
   refine SeqAt.notIn_tupleAt (eqU x) pl (fun w hw=>Ie rx fx r fs w (by simpa using hw)) ⟨.bl _,H,I,rfl,?_⟩;rw [show its.toArray.any (eqU x)=its.any (eqU x) by simp,L3 r fs];exact q
theorem Ar:Eh X (.builtin "len") (fun xs H Q=>∃p ys,xs=[.ref p]∧(SqL X.K H p ys∨SqT X.K H p ys)∧Q (.int ys.length) H):=by
 intro pins s σ H xs us Q I r h;obtain ⟨p,ys,rfl,hq,q⟩:=h;obtain ⟨u,rfl,rx⟩:=Gv r;cases rx;have hn:=Ko;rcases hq with hq | hq
 · obtain ⟨its,r',pl,hz⟩:=I.list hq
   have hlen:=r'.length
   exact Calls.call_len_list pl.isList (by simp only [Fm] <;> omega) ⟨.int ys.length,H,I.tok _,⟨s.toks+1,by rw [Fm,hlen]⟩,q⟩
 · obtain ⟨its,r',pl,hz⟩:=I.tuple hq
   have hlen:=r'.length
   exact len_tuple pl (by simp only [Fm] <;> omega) ⟨.int ys.length,H,I.tok _,⟨s.toks+1,by rw [Fm,hlen]⟩,q⟩
theorem Dj:Eh X (.builtin "len") (fun xs H Q=>∃z,xs=[.str z]∧z.length≤sizeLine∧Q (.int z.length) H):=by
 intro pins s σ H xs us Q I r h;obtain ⟨z,rfl,hz,q⟩:=h;obtain ⟨u,rfl,t,rfl⟩:=Gv r;have hn:=Ko;exact len_str (by omega) ⟨.int z.length,H,I.tok _,⟨_,rfl⟩,q⟩
theorem Dk:Eh X (.type "list") (fun xs H Q=>∃p ys,xs=[.ref p]∧(SqL X.K H p ys∨SqT X.K H p ys)∧∀l,H l=none→Q (.ref l) (upd H l (.lst ys))):=by
 intro pins s σ H xs us Q I r h;obtain ⟨p,ys,rfl,hq,q⟩:=h;obtain ⟨u,rfl,rx⟩:=Gv r;cases rx
 have fin:∀(its:List Value),B3 ys its→ys.length≤sizeLine→∀(h':Heap) (c':Nat),(∀b o',s.heap.get? b=some o'→h'.get? b=some o')→
  h'.get? s.heap.objs.size=some {cls:= .type "list",dict:=none,data:= .seq its.toArray c',slots:=#[]}→EP X pins σ Q (.ref s.heap.objs.size) {s with heap:=h'}:=fun its r' hz h' c' kp e=>
  ⟨.ref s.heap.objs.size,_,I.laid (t':=s.toks) kp (Ff _) (show C8 X.prog X.w _ h' _ (.lst ys) from ⟨hz,its,c',r',e⟩),rfl,q _ (I.hok.fresh (Ff _))⟩
 rcases hq with hq | hq
 · obtain ⟨its,r',pl,hz⟩:=I.list hq
   have hlen:=r'.length;obtain ⟨o,ho,hc,n,hd⟩:=pl.isList
   exact call_list_seq p (.inl rfl) ho hc hd (fun h' c' kp e=>fin its r' hz h' c' kp e) (by simp only [Fm] <;> omega)
 · obtain ⟨its,r',pl,hz⟩:=I.tuple hq
   have hlen:=r'.length;obtain ⟨o,ho,hc,n,hd⟩:=pl
   exact call_list_seq p (.inr rfl) ho hc hd (fun h' c' kp e=>fin its r' hz h' c' kp e) (by simp only [Fm] <;> omega)
theorem O5:Eh X (.type "tuple") (fun xs H Q=>∃p ys,xs=[.ref p]∧((SqL X.K H p ys∧∀l,H l=none→Q (.ref l) (upd H l (.tup ys)))∨(SqT X.K H p ys∧Q (.ref p) H))):=by
 intro pins s σ H xs us Q I r h;obtain ⟨p,ys,rfl,h⟩:=h;obtain ⟨u,rfl,rx⟩:=Gv r;cases rx;rcases h with ⟨hq,q⟩ | ⟨hq,q⟩
 · obtain ⟨its,r',pl,hz⟩:=I.list hq
   have hlen:=r'.length
   refine call_tuple_list pl.isList (fun h' kp=>?_) (by simp only [Fm] <;> omega)
   have I1:Inv X pins σ H {s with heap:=h'}:=I.kept (t':=s.toks) kp
   have I2:Inv X pins σ (upd H h'.objs.size (.tup ys)) {s with heap:=h'.push {cls:= .type "tuple",data:= .seq its.toArray}}:=
    I1.laid (t':=s.toks) (fun b o e=>Fl _ e) (Ff _) (show C8 X.prog X.w _ _ _ (.tup ys) from ⟨hz,its,r',IsTup.new _ _⟩)
   exact ⟨.ref h'.objs.size,_,I2,rfl,q _ (I1.hok.fresh (Ff _))⟩
 · obtain ⟨its,r',pl,hz⟩:=I.tuple hq
   exact call_tuple_same pl ⟨.ref p,H,I,rfl,q⟩
def tyV(K:PySem.W.Frag)(T:String)(x:V)(H:Hp):Prop:=match x with
 | .str _=>T="str"
 | .int _=>T="int"
 | .ref p=>(T="list"∧∃xs,SqL K H p xs)∨(T="tuple"∧∃o,K.lookup p=some o∧o.cls= .type "tuple"∧o.dict=none)∨
  (T="dict"∧((∃kvs,H p=some (.dK kvs))∨∃kvs,H p=some (.dT kvs)))∨(T="set"∧∃S n,H p=some (.set S n))
 | _=>False
theorem Y4{pins:List (Addr×Obj)}{σ:St}{H:Hp}{s:Shared}{T:String}{x:V}{v:Value}(I:Inv X pins σ H s)(r:B4 x v)(ty:tyV X.K T x H):
 s.TypeIs v T∧∀a,v= .ref a→∃ob,s.heap.get? a=some ob∧ob.dict=none:=by
 cases x with
 | str z=>
  obtain ⟨t,rfl⟩:=r;cases (show T="str" from ty);exact ⟨RI s z t,fun _ e=>nomatch e⟩
 | int i=>
  obtain ⟨t,rfl⟩:=r;cases (show T="int" from ty);exact ⟨typeIs_int s i t,fun _ e=>nomatch e⟩
 | ref p=>
  cases r;rcases ty with ⟨rfl,xs,hq⟩ | ⟨rfl,o,hk,hc,hd⟩ | ⟨rfl,hk⟩ | ⟨rfl,S,n,hk⟩
  · obtain ⟨its,_,pl,_⟩:=I.list hq
    refine ⟨pl.isList.typeIs,fun a e=>?_⟩;cases e;obtain ⟨o,n,e,c,hd,_⟩:=pl;exact ⟨o,e,hd⟩
  · refine ⟨⟨o,I.kIn p o hk,hc⟩,fun a e=>?_⟩
    cases e;exact ⟨o,I.kIn _ o hk,hd⟩
  · have z:∃o,s.heap.get? p=some o∧o.ExactDict:=by
     rcases hk with ⟨kvs,hk⟩ | ⟨kvs,hk⟩
     · obtain ⟨_,_,_,_,o,_,_,e,ex,_⟩:=I.hok p _ hk
       exact ⟨o,e,ex⟩
     · obtain ⟨_,_,_,_,o,_,_,e,ex,_⟩:=I.hok p _ hk
       exact ⟨o,e,ex⟩
    obtain ⟨o,e,ex⟩:=z;refine ⟨⟨o,e,ex.1⟩,fun a e2=>?_⟩;cases e2;exact ⟨o,e,ex.2.1⟩
  · obtain ⟨o,_,_,_,e,ex,_⟩:=I.hok p _ hk
    refine ⟨⟨o,e,ex.1⟩,fun a e2=>?_⟩;cases e2;exact ⟨o,e,ex.2.1⟩
 | _=>exact False.elim ty
def J6j(K:PySem.W.Frag)(T:String)(r:V→List V→Hp→VK→Prop)(to:TE):TE:=fun σ H Q=>to σ H fun x H1=>tyV K T x H1∧r x [] H1 Q
def tBM(K:PySem.W.Frag)(T:String)(r:V→List V→Hp→VK→Prop)(to:TE)(t:TA):TE:=fun σ H Q=>to σ H fun x H1=>tyV K T x H1∧t σ H1 fun xs H2=>r x xs H2 Q
variable {o e:Expr} {es:List Expr} {to:TE} {t:TA} {name:Str} {apos cpos:Pos} {T id:String} {r:V→List V→Hp→VK→Prop}
theorem Ti(pa:PlainAttrs T)(slot:Slot T name id)(hty:typeOf (.builtin id)=pure (.type "method_descriptor"))(hm:MtR X id r)(ho:PE X o to)
 (hbase:attributeBase o name X.env (eval o X.env)=eval o X.env:=by rfl) (hline:(apos.endLine==cpos.line)=true:=by rfl):PE X (.Call (.Attribute o name apos) [] [] cpos) (J6j X.K T r to):=by
 intro pins s σ H Q I h;refine wpAny_Call_method0_late hbase hline (thn (ho pins s σ H _ I h) fun v s1 hq_=>?_);obtain ⟨x,H1,I1,r1,ty,q1⟩:=hq_;obtain ⟨h1,h2⟩:=Y4 I1 r1 ty;exact ⟨T,id,pa,slot,hty,h1,h2,Calls.callWith_builtin rfl (PySem.evalArgs_none (hm pins s1 σ H1 x [] v [] Q I1 r1 .nil q1))⟩
theorem D3(pa:PlainAttrs T)(slot:Slot T name id)(hty:typeOf (.builtin id)=pure (.type "method_descriptor"))(hm:MtR X id r)(ho:PE X o to)(ha:PA X (e::es) t)
 (hbase:attributeBase o name X.env (eval o X.env)=eval o X.env:=by rfl)
 (hfew:((backTo cpos (starEach (e::es) X.env)).all (fun x=>!x.1) && (backToKw cpos (keywordEach [] X.env)).all (fun x=>x.1.isSome)
  && decide ((e::es).length+([]:List Keyword).length+(if ([]:List Keyword).isEmpty then 0 else 1) < 30))=true:=by rfl)
 (hline:(apos.endLine==cpos.line)=true:=by rfl) (hs:starEach (e::es) X.env=(false,eval e X.env)::starEach es X.env:=by rfl) (hplain:(backTo cpos (starEach es X.env)).any (·.1)=false:=by rfl):
 PE X (.Call (.Attribute o name apos) (e::es) [] cpos) (tBM X.K T r to t):=by
 intro pins s σ H Q I h;refine wpAny_Call_method_late hbase hfew hline rfl (thn (ho pins s σ H _ I h) fun v s1 hq_=>?_);obtain ⟨x,H1,I1,r1,ty,q1⟩:=hq_;obtain ⟨h1,h2⟩:=Y4 I1 r1 ty;refine ⟨T,id,pa,slot,hty,h1,h2,?_⟩;have hA:=ha cpos pins s1 σ H1 _ I1 q1;rw [hs]at hA ⊢
 refine Calls.callWith_builtin (by show (false || (backTo cpos (starEach es X.env)).any (·.1))=false;rw [hplain] <;> rfl) (Calls.evalArgs_plain ?_)
 exact thn hA fun us s2 ⟨vs,H2,I2,r2,q2⟩=>hm pins s2 σ H2 x vs v us Q I2 r1 r2 q2
end
end L2
namespace L2
def MtM(X:Cx)(id:String)(r:V→List V→Hp→VK→Prop):Prop:=
 ∀(pins:List (Addr×Obj)) (s:Shared) (σ:St) (H:Hp) (x:V) (xs:List V) (v:Value) (us:List Value) (Q:VK),Inv X pins σ H s→B4 x v→B3 xs us→r x xs H Q→
   wpAny (model X.prog X.w) X.A (call (.builtin id) (v::us)) (EP X pins σ Q) X.xe s
theorem B3.one:∀{x:V} {us:List Value},B3 [x] us→∃u,us=[u]∧B4 x u
 | _,_,.cons r .nil=>⟨_,rfl,r⟩
theorem B3.zero:∀{us:List Value},B3 [] us→us=[]
 | _,.nil=>rfl
theorem B3.dropLast{xs:List V}{us:List Value}(h:B3 xs us):B3 xs.dropLast us.dropLast:=by
 induction h with
 | nil=>exact .nil
 | cons r t ih=>
  cases t with
  | nil=>exact .nil
  | cons q t'=>exact .cons r ih
theorem B3.eraseIdx:∀{xs:List V} {us:List Value} (i:Nat),B3 xs us→B3 (xs.eraseIdx i) (us.eraseIdx i)
 | _,_,_,.nil=> .nil
 | _,_,0,.cons _ t=>t
 | _,_,i+1,.cons r t=> .cons r (B3.eraseIdx i t)
theorem B3.rep{xs:List V}{us:List Value}(h:B3 xs us):∀k:Nat,B3 (List.replicate k xs).flatten (List.replicate k us).flatten
 | 0=> .nil
 | k+1=>by
  rw [Ho,Ho,FW,FW];exact B3.append h (B3.rep h k)
theorem Tj{α:Type}(l:List α):l.eraseIdx (l.length - 1)=l.dropLast:=by
 induction l with
 | nil=>rfl
 | cons a r ih=>
  cases r with
  | nil=>rfl
  | cons b r=>
   have e:(a::b::r).length - 1=((b::r).length - 1)+1:=by
    have h1:(a::b::r).length=r.length+2:=rfl;have h2:(b::r).length=r.length+1:=rfl;omega
   rw [e,HW,ih]
   all_goals rfl
theorem Oe(its:List Value):∀(k:Nat) (acc:List Value),
 List.foldl (fun x1 x2=>x1++x2) acc.toArray (List.replicate k its.toArray)=(acc++(List.replicate k its).flatten).toArray
 | 0,acc=>by simp
 | k+1,acc=>by
  have e:acc.toArray++its.toArray=(acc++its).toArray:=by simp
  have e2:(acc++its)++(List.replicate k its).flatten=acc++(List.replicate (k+1) its).flatten:=by
   rw [Ho,FW,Rg]
  rw [← e2,← Oe its k (acc++its),← e,Ho,List.foldl_cons]
section
variable {X:Cx} {pins:List (Addr×Obj)} {σ:St} {H:Hp} {s:Shared} {l b:Addr} {xs ys zs:List V}
theorem Inv.lset{its its':List Value}{n:Nat}{f:Array Value→Array Value}{t':Nat}(I:Inv X pins σ H s)(hH:H l=some (.lst xs))
 (e:s.heap.get? l=some {cls:= .type "list",data:= .seq its.toArray n}) (hf:f its.toArray=its'.toArray) (hv:B3 ys its') (hz:ys.length≤sizeLine):
 Inv X pins σ (upd H l (.lst ys)) {s with heap:=s.heap.update l (Obj.mapSeq f),toks:=t'}:=by
 have q:=PySem.IsL.update e f;rw [hf]at q;refine I.write (x:=l) (e:=l) (by rw [hH];exact trivial) (.inl rfl) (fun b' u hb hu=>(Heap.get?_update_other s.heap (Obj.mapSeq f) (Ne.symm hb)).trans hu) ⟨_,q⟩ ?_;exact ⟨hz,its',_,hv,q⟩
theorem Inv.lnew{its:List Value}{t':Nat}(I:Inv X pins σ H s)(hv:B3 ys its)(hz:ys.length≤sizeLine):
 Inv X pins σ (upd H s.heap.objs.size (.lst ys)) {s with heap:=s.heap.push {cls:= .type "list",data:= .seq its.toArray},toks:=t'}:=
 I.laid (fun _ _ q=>Fl _ q) (Ff _) ⟨hz,its,0,hv,FG _ rfl⟩
theorem Inv.fresh(I:Inv X pins σ H s):H s.heap.objs.size=none:=I.hok.fresh (Ff _)
theorem Inv.lstM(I:Inv X pins σ H s)(hH:H l=some (.lst xs)):xs.length≤sizeLine∧∃(its:List Value) (n:Nat),B3 xs its∧xs.length=its.length∧s.heap.get? l=some {cls:= .type "list",data:= .seq its.toArray n}:=by
 obtain ⟨z,its,n,r,e⟩:=I.hok l _ hH;exact ⟨z,its,n,r,r.length,e⟩
theorem Y5{n:Nat}(h:n≤sizeLine):Builtin.List.listTooLong n=false:=by
 unfold Builtin.List.listTooLong;exact FF (by omega)
end
section
variable {X:Cx}
def Ph:V→List V→Hp→VK→Prop:=fun x vs H Q=>∃l xs y,x= .ref l∧vs=[y]∧H l=some (.lst xs)∧xs.length < sizeLine∧Q .non (upd H l (.lst (xs++[y])))
theorem Dg:MtM X "list.append" Ph:=by
 intro pins s σ H x vs v us Q I rx rv h;obtain ⟨l,xs,y,rfl,rfl,hH,hz,q⟩:=h;cases rx;obtain ⟨u,rfl,ru⟩:=rv.one;obtain ⟨z,its,n,r,hl,e⟩:=I.lstM hH;refine HL F.slot_list_append ⟨_,e,rfl⟩ F.entry_list_append (F.args_list_append_2 _ _) (PySem.list_append l its.toArray n u (by rw [Fm];omega)) ⟨e,?_⟩;refine ⟨.non,_,I.lset (its':=its++[u]) hH e (by simp) (r.append (.cons ru .nil)) ?_,rfl,q⟩;rw [Fj,Rv];omega
def J6k:V→List V→Hp→VK→Prop:=fun x vs H Q=>∃l xs y,x= .ref l∧vs=[]∧H l=some (.lst xs)∧xs[xs.length - 1]?=some y∧Q y (upd H l (.lst xs.dropLast))
theorem Tl:MtM X "list.pop" J6k:=by
 intro pins s σ H x vs v us Q I rx rv h;obtain ⟨l,xs,y,rfl,rfl,hH,hy,q⟩:=h;cases rx;have hus:=rv.zero;subst hus;obtain ⟨z,its,n,r,hl,e⟩:=I.lstM hH;obtain ⟨u,hu,ru⟩:=r.get hy
 have hy':its.toArray[its.toArray.size - 1]?=some u:=by
  show its.toArray[its.length - 1]?=some u;rw [← Array.getElem?_toList,← hl];exact hu
 refine HL F.slot_list_pop ⟨_,e,rfl⟩ F.entry_list_pop (F.args_list_pop_1 _) (MeetsSeq.list_pop_last l its.toArray n u hy' (by rw [Fm];omega)) ⟨e,?_⟩;refine ⟨y,_,I.lset (its':=its.dropLast) hH e ?_ r.dropLast ?_,ru,q⟩
 · show its.toArray.eraseIdxIfInBounds (its.toArray.size - 1)=its.dropLast.toArray
   rw [Fm,List.eraseIdxIfInBounds_toArray,Tj]
 · rw [List.length_dropLast]
   omega
def J7v:R2:=fun x y H Q=>∃l b xs zs,x= .ref l∧y= .ref b∧H l=some (.lst xs)∧H b=some (.lst zs)∧xs.length+zs.length≤sizeLine∧∀p,H p=none→Q (.ref p) (upd H p (.lst (xs++zs)))
theorem Nf:OpR X (binaryOp .Add) J7v:=by
 intro pins s σ H x y v u Q I rx ry h;obtain ⟨l,b,xs,zs,rfl,rfl,hH,hB,hz,q⟩:=h;cases rx;cases ry;obtain ⟨z,its,n,r,hl,e⟩:=I.lstM hH;obtain ⟨z2,its2,n2,r2,hl2,e2⟩:=I.lstM hB;refine PySem.P.add_list e e2 ?_ (by rw [Fm,Fm];omega)
 have ea:its.toArray++its2.toArray=(its++its2).toArray:=by simp
 rw [ea];exact ⟨.ref _,_,I.lnew (t':=s.toks) (r.append r2) (by rw [Fj];omega),rfl,q _ I.fresh⟩
def J6l:R2:=fun x y H Q=>∃l k xs,x= .ref l∧y= .int k∧H l=some (.lst xs)∧-(2 ^ 63)≤k∧k < 2 ^ 63∧xs.length * k.toNat≤sizeLine∧
 ∀p,H p=none→Q (.ref p) (upd H p (.lst (List.replicate k.toNat xs).flatten))
theorem J2l{α:Type}(xs:List α)(k:Nat):(List.replicate k xs).flatten.length=k * xs.length:=by
 induction k with
 | zero=>simp
 | succ k ih=>rw [Ho,FW,Fj,ih,Nat.succ_mul,Nat.add_comm]
theorem Tn:OpR X (binaryOp .Mult) J6l:=by
 intro pins s σ H x y v u Q I rx ry h;obtain ⟨l,k,xs,rfl,rfl,hH,h1,h2,hz,q⟩:=h;cases rx;obtain ⟨t,rfl⟩:=ry;obtain ⟨z,its,n,r,hl,e⟩:=I.lstM hH
 have hlen:its.toArray.size * k.toNat≤sizeLine:=by rw [Fm,← hl];exact hz
 have hcap:¬its.toArray.size * k.toNat > (2 ^ 63 - 1) / 8:=by
  have:(sizeLine:Nat)≤(2 ^ 63 - 1) / 8:=by decide
  omega
 have hfit:¬(!Builtin.List.listFitsIndex k)=true:=by
  rw [fitsIndex_both h1 h2];exact Fu
 have hlong:¬Builtin.List.listTooLong (its.toArray.size * k.toNat)=true:=by
  rw [Y5 hlen];exact Fu
 have hnew:List.foldl (fun x1 x2=>x1++x2) #[] (List.replicate (if its.toArray.isEmpty=true then 0 else k.toNat) its.toArray)=(List.replicate k.toNat its).flatten.toArray:=by
  have f0:∀m:Nat,List.foldl (fun x1 x2=>x1++x2) #[] (List.replicate m its.toArray)=(List.replicate m its).flatten.toArray:=fun m=>by
   have:=Oe its m [];rw [List.nil_append]at this;exact this
  rw [f0]
  cases its with
  | nil=>simp
  | cons a r'=>rw [if_neg (by simp)]
 refine wpAny_binaryOp_repeat_ref (T:="list") (U:="int") (by decide) ⟨_,e,rfl⟩ (fun s'=>typeIs_int s' k t) noFill_list_mul F.fills_int_mul F.slot_int_rmul repeat_list F.slot_int_index.lookup
  (HL F.slot_int_rmul (typeIs_int s k t) F.entry_int_rmul (F.args_int_rmul_2 _ _) (int___rmul___int_list k t l its.toArray n)
   ⟨e,rfl,⟨_,e,rfl⟩,HL F.slot_list_mul ⟨_,e,rfl⟩ F.entry_list_mul (F.args_list_mul_2 _ _) (AutoListH.list___mul___list_int_3 l its.toArray n k t hfit hcap hlong) ⟨e,?_⟩⟩)
 rw [hnew];exact ⟨.ref _,_,I.lnew (t':=s.toks) (r.rep k.toNat) (by rw [J2l,Nat.mul_comm];exact hz),rfl,q _ I.fresh⟩
end
end L2
namespace Att
open PySem PySem.W PySem.Calls PyProof.Rows
theorem Ml{P:Params}{h:Heap}:∀(ns:List Int) (vs:List Value),WellAll P h vs (ns.map WData.int)→IntsAre vs ns:=by
 intro ns
 induction ns with
 | nil=>
  intro vs w;rw [List.map_nil]at w;cases w;exact .nil
 | cons n ns ih=>
  intro vs w;rw [List.map_cons]at w
  cases w with
  | cons a b=>
   cases a;exact .cons _ _ (ih _ b)
theorem Wr{l:OpenLaw}{n:Nat}(hn:l.most=some n){P:Params}{h:Heap}{args:List WData}{vals:List Value}
 (hpre:l.row.toRowW.claim.pre args=true) (hwl:WellAll P h vals args):
 ∃a vs ns,vals=[Value.ref a]∧args=[WData.list (ns.map WData.int)]∧h.get? a=some {cls:= .type "list",data:= .seq vs.toArray}∧IntsAre vs ns∧ns.length≤n:=by
 have hsh:WShape.hasAll [] args [.list .int]=true:=(pre_splitW hpre).1;have hc:l.pre.holds [] {args:=args}=true:=(pre_splitW hpre).2;obtain ⟨d,r,rfl,h1,h2⟩:=hasAllW_cons hsh;obtain rfl:=hasAllW_nil h2;obtain ⟨xs,rfl,h3⟩:=hasW_list h1;obtain ⟨ns,rfl⟩:=items_int h3
 have hlen:ns.length≤n:=by
  unfold OpenLaw.pre at hc
  have h4:(WTm.not (.lt (.lit (.int (n:Int))) (.len (.arg 0)))).holds [] {args:=[.list (ns.map .int)]}=true:=by
   have h4:=(holds_andW hc).1;rw [hn]at h4;exact h4
  have h5:=condW_of h4 (w_not (w_lt w_lit (w_len_list (w_arg rfl))));rw [Fa]at h5;refine Nat.le_of_not_lt fun q=>?_
  have q':(n:Int) < ((ns.length:Nat):Int):=by omega
  first
   | (rw [FI q']at h5;exact absurd h5 (by decide))
   | (simp at h5;omega)
 cases hwl with
 | cons w1 w2=>
  cases w2
  cases w1 with
  | list ho hall=>exact ⟨_,_,ns,rfl,rfl,ho,Ml ns _ hall,hlen⟩
theorem Ws(l:OpenLaw)(args:List WData):l.row.toRowW.claim.post args (.bool true) args=true:=
 postW_of (r:=l.row.toRowW) (X:=(true==true))
  (show WShape.has [] (.bool true) .bool=true by first | rfl | decide | simp [WShape.has,WShape.arms,WShape.armsAll])
  (show (WTm.eq .res (.lit (.bool true))).value [] {args:=args,res:=some (.bool true),after:=args}=some (.bool (true==true)) from w_eq_bool (w_res rfl) w_lit) rfl
theorem Q8{l:OpenLaw}{n:Nat}{q:Program}{loose:List Str}{XP:(Str→Option Value)→Heap→Prop}{YP:World→Heap→Prop}{d:DefRec}
 (hn:l.most=some n) (hdf:d.params.defaults=[])
 (call:∀(w:World) (s₀ s₁:Shared) (mg mb:Str→Option Value) (fa:Addr) (o:Obj) (pm cd doc:Value) (a:Addr) (vs:List Value) (ns:List Int),
  Ground q loose [] XP w s₀ mg mb s₁.heap→YP w s₁.heap→
  s₁.heap.get? fa=some o→o.data= .func (docDef d.name d.params d.body d.scope pm cd doc)→s₁.heap.CodeRec cd d.name→mg d.name=some (.ref fa)→
  s₁.heap.get? a=some {cls:= .type "list",data:= .seq vs.toArray}→IntsAre vs ns→ns.length≤n→s₁.gens=#[]→
  codeAny (model l.prog w) callerA (.call (.ref fa) ⟨[.ref a],[]⟩) (fun r s'=>r= .ok (.ret (.bool true))∧OldK s₁.heap s'.heap∧s'.os=s₁.os∧AllBare s'.gens) s₁):
 WalkO q loose XP YP l.row.toRowW d [] (fun f vs=>PySem.call f vs):=by
 intro w s₀ s₁ mg mb G Y fa o pm cd doc dV kV ho hd hcd hD hmg hg args vals as hpre hlay hrd hwl hlo;obtain rfl:dV= .none:=Dflts.none hD hdf;obtain rfl:kV= .none:=Dflts.noKw hD;obtain ⟨a,vs,ns,rfl,rfl,hobj,hints,hlen⟩:=Wr hn hpre hwl;refine enter_call (R8 (call w s₀ s₁ mg mb fa o pm cd doc a vs ns G Y ho (fd_plain hd) hcd hmg hobj hints hlen hg) fun r s' hq=>?_);obtain ⟨rfl,h2,h3,h4⟩:=hq;exact ⟨.inl ⟨.bool true,.bool true,[],rfl,fun _=>rfl,.bool true,Ws l _,fun _=>⟨List.Pairwise.nil,fun _ hm=>(nomatch hm)⟩⟩,h2,h3,h4⟩
end Att
namespace L2
theorem Of:∀{vs:List Value} {ns:List Int},IntsAre vs ns→B3 (ns.map V.int) vs
 | _,_,.nil=> .nil
 | _,_,.cons n t h=> .cons ⟨t,rfl⟩ (Of h)
def J2m(H:Hp):Prop:=∀b,H b=none∨∃o xs,H b=some (.frz o (.lst xs))
theorem Y6{P:Program}{w:World}{K:PySem.W.Frag}{mg mb:Str→Option Value}{CX:CXT}{k:Nat}{fa a:Addr}{fd:FuncData}{x:Str}{sp:Sp}{s₁:Shared}{vs:List Value}{ns:List Int}
 (KX:K.In s₁.heap) (hns:s₁.heap.Ns mainGlobals mg) (hb:s₁.heap.Ns builtinsNs mb) (hbb:∀x:Str,x≠"__name__"→mb x=bootBuiltins x) (hlim:s₁.heap.NoLimit) (hg:s₁.gens=#[])
 (ha:s₁.heap.get? a=some {cls:= .type "list",data:= .seq vs.toArray}) (hi:IntsAre vs ns) (hl:ns.length≤sizeLine) (hr:Cy k callerA)
 (F:∀base:Heap,K.In base→base.Ns mainGlobals mg→Au P w K mg base CX k fa fd [x] sp) (hbind:∀(s:Shared) (u:Value),BindsTo s fd ⟨[u],[]⟩ [(x,u)])
 (hsp:∀H:Hp,J2m H→SqL K H a (ns.map V.int)→sp [.ref a] H (fun v _=>v= .bl true) fun _ _ _=>False)
 (hCX:∀H e s',CX [] H s₁ (fun _ _ _=>False) e s'→False):
 codeAny (model P w) callerA (.call (.ref fa) ⟨[.ref a],[]⟩) (fun r s'=>r= .ok (.ret (.bool true))∧OldK s₁.heap s'.heap∧s'.os=s₁.os∧AllBare s'.gens) s₁:=by
 have rv:=Of hi;have lenV:=hi.length
 have core:∀H:Hp,J2m H→SqL K H a (ns.map V.int)→HOk P w H s₁.heap→(∀b,H b≠none→b=a)→(H a≠none→K.lookup a=none)→
  codeAny (model P w) callerA (.call (.ref fa) ⟨[.ref a],[]⟩) (fun r s'=>r= .ok (.ret (.bool true))∧OldK s₁.heap s'.heap∧s'.os=s₁.os∧AllBare s'.gens) s₁:=by
  intro H hO hS hok hA hK;have base_of:∀{b:Addr} {o:Obj},s₁.heap.get? b=some o→H b=none→(P9 s₁.heap H).get? b=some o:=fun e n=>Xh e n
  have noA:∀{b:Addr} {o:Obj} {es:Array DictEntry} {ep:Nat},s₁.heap.get? b=some o→o.data= .dict es ep→H b=none:=fun {b o es ep} e d=>by
   cases q:H b with
   | none=>rfl
   | some u=>
    have e':b=a:=hA b (by rw [q];simp);subst e';rw [ha]at e;cases e;have d':Data.seq vs.toArray _=Data.dict es ep:=d;cases d'
  have nsK:∀{b:Addr} {m:Str→Option Value},s₁.heap.Ns b m→(P9 s₁.heap H).Ns b m:=fun {b m} ⟨o,es,ep,e,d,r⟩=>⟨o,es,ep,base_of e (noA e d),d,r⟩
  have hKb:K.In (P9 s₁.heap H):=fun b o e=>base_of (KX b o e) (by
   cases q:H b with
   | none=>rfl
   | some u=>
    have e':b=a:=hA b (by rw [q];simp);subst e'
    rw [hK (by rw [q];simp)]at e;cases e)
  have hM:Mod K mg (P9 s₁.heap H):=⟨hKb,nsK hns,⟨mb,nsK hb,hbb⟩,let ⟨mc,h1,h2⟩:=hlim;⟨mc,nsK h1,h2⟩⟩
  have e0:Td P w K mg (P9 s₁.heap H) callerA [] s₁ H:=⟨rfl,hM,fun b o e=>J29 e,Hm (Wg _ _),trivial,fun b hb=>absurd (show b∈([]:List Addr) from hb) (by simp),hok,.of_eq hg⟩
  refine R8 ((F _ hKb (nsK hns)).run callerA [] s₁ H ⟨[.ref a],[]⟩ [.ref a] [.ref a] _ _ hr e0 (hbind s₁ (.ref a)) (.cons rfl .nil) (hsp H hO hS)) fun r s' h=>?_
  cases r with
  | error e=>exact (hCX H e s' h).elim
  | ok fl=>
   cases fl with
   | next=>exact False.elim h
   | brk=>exact False.elim h
   | cont=>exact False.elim h
   | ret u=>
    obtain ⟨v,H',os,bare,un,hok',r',q⟩:=h;have q':v= .bl true:=q;subst q';obtain rfl:u=Value.bool true:=r';refine ⟨rfl,OldK.of_keep fun b o e=>?_,os,bare⟩
    cases q:H b with
    | none=>exact un.keep b o e q (by intro z;exact absurd (show b∈([]:List Addr) from z) (by simp)) (by simp)
    | some u=>
     rcases hO b with z | ⟨ob,xs,z⟩
     · rw [q]at z;cases z
     · have z2:=un.frzs b ob _ z
       obtain ⟨e1,_⟩:=hok b _ z;obtain ⟨e2,_⟩:=hok' b _ z2;rw [e]at e1;cases e1;exact e2
 cases hk:K.lookup a with
 | some o=>
  have e:=KX a o hk;rw [ha]at e;cases e;refine core (fun _=>none) (fun _=> .inl rfl) (.inr ⟨_,vs.toArray,_,hk,rfl,rfl,rfl,by rw [Fm,lenV];exact hl,by simpa using rv⟩) (fun b u z=>by have z':(none:Option HO)=some u:=z;cases z') (fun b z=>absurd rfl z) fun z=>absurd rfl z
 | none=>
  refine core (fun b=>if b=a then some (.frz {cls:= .type "list",data:= .seq vs.toArray} (.lst (ns.map V.int))) else none) (fun b=>?_) (.inl (.inr ⟨{cls:= .type "list",data:= .seq vs.toArray},if_pos rfl⟩)) (fun b u z=>?_) (fun b z=>?_) fun _=>hk
  · by_cases hb:b=a
    · exact .inr ⟨_,_,if_pos hb⟩
    · exact .inl (if_neg hb)
  · by_cases hb:b=a
    · have z':=(if_pos hb).symm.trans z
      cases z';subst hb;exact ⟨ha,by rw [Fa];exact hl,vs,_,rv,ha⟩
    · have z':=(if_neg hb).symm.trans z
      cases z'
  · by_cases hb:b=a
    · exact hb
    · exact absurd (if_neg hb) z
end L2
namespace L2
theorem J2n{l:PySem.W.OpenLaw}{n k:Nat}{q:Program}{loose:List Str}{XP:(Str→Option Value)→Heap→Prop}{YP:World→Heap→Prop}{d:DefRec}{K:Params→PySem.W.Frag}{CX:World→CXT}{sp:World→Sp}{x:Str}
 (hn:l.most=some n) (hn2:n≤sizeLine) (hdf:d.params.defaults=[]) (hr:Cy k callerA)
 (hY:∀(w:World) (h:Heap),YP w h→(K w.params).In h)
 (F:∀(w:World) (mg:Str→Option Value) (fa:Addr) (h:Heap),(K w.params).In h→h.Ns mainGlobals mg→mg d.name=some (.ref fa)→
  ∃fd:FuncData,(∀(s:Shared) (u:Value),BindsTo s fd ⟨[u],[]⟩ [(x,u)])∧
   ∀base:Heap,(K w.params).In base→base.Ns mainGlobals mg→Au l.prog w (K w.params) mg base (CX w) k fa fd [x] (sp w))
 (hsp:∀(w:World) (H:Hp) (a:Addr) (ns:List Int),ns.length≤n→J2m H→SqL (K w.params) H a (ns.map V.int)→sp w [.ref a] H (fun v _=>v= .bl true) fun _ _ _=>False)
 (hCX:∀(w:World) (H:Hp) (s:Shared) (e:Value) (s':Shared),CX w [] H s (fun _ _ _=>False) e s'→False):
 PySem.W.WalkO q loose XP YP l.row.toRowW d [] (fun f vs=>PySem.call f vs):=by
 refine Att.Q8 hn hdf fun w s₀ s₁ mg mb fa o pm cd doc a vs ns G Y ho hd hcd hmg hobj hints hlen hg=>?_;have KX:=hY w _ Y;obtain ⟨fd,hb,hF⟩:=F w mg fa _ KX G.T.g hmg;exact Y6 KX G.T.g G.T.b G.T.builtins G.T.nolimit hg hobj hints (FA hlen hn2) hr hF hb (fun H hO hS=>hsp w H a ns hlen hO hS) fun H e s'=>hCX w H s₁ e s'
theorem Y7{l:PySem.W.OpenLaw}{n k:Nat}{q:Program}{loose:List Str}{XP:(Str→Option Value)→Heap→Prop}{YP:World→Heap→Prop}{d:DefRec}{K:Params→PySem.W.Frag}{CX:CXT}{sp:PySem.W.Frag→Sp}{x:Str}
 (hn:l.most=some n) (hn2:n≤sizeLine) (hdf:d.params.defaults=[]) (hr:Cy k callerA)
 (hY:∀(w:World) (h:Heap),YP w h→(K w.params).In h)
 (F:∀(w:World) (mg:Str→Option Value) (fa:Addr) (h:Heap),(K w.params).In h→h.Ns mainGlobals mg→mg d.name=some (.ref fa)→
  ∃fd:FuncData,(∀(s:Shared) (u:Value),BindsTo s fd ⟨[u],[]⟩ [(x,u)])∧
   ∀base:Heap,(K w.params).In base→base.Ns mainGlobals mg→Au l.prog w (K w.params) mg base CX k fa fd [x] (sp (K w.params)))
 (hsp:∀(K:PySem.W.Frag) (H:Hp) (a:Addr) (ns:List Int),ns.length≤n→J2m H→SqL K H a (ns.map V.int)→sp K [.ref a] H (fun v _=>v= .bl true) fun _ _ _=>False)
 (hCX:∀(H:Hp) (s:Shared) (e:Value) (s':Shared),CX [] H s (fun _ _ _=>False) e s'→False):
 PySem.W.WalkO q loose XP YP l.row.toRowW d [] (fun f vs=>PySem.call f vs):=
 J2n (K:=K) (CX:=fun _=>CX) (sp:=fun w=>sp (K w.params)) hn hn2 hdf hr hY F (fun w H a ns h1 h2 h3=>hsp (K w.params) H a ns h1 h2 h3) fun _ H s e s'=>hCX H s e s'
end L2
namespace L2
def Av(s:Stmt)(j:Nat):Stmt:=match s with
 | .ClassDef _ _ _ body _ _ _ _ _ _ _=>body.getD j (.Pass ⟨0,0,0,0⟩)
 | _=> .Pass ⟨0,0,0,0⟩
def Dl(s:Stmt):Arguments:=match s with
 | .FunctionDef _ a _ _ _ _ _ _ _ _=>a
 | _=>{posonlyargs:=[],args:=[],vararg:=none,kwonlyargs:=[],kw_defaults:=[],kwarg:=none,defaults:=[]}
def D6(s:Stmt):List Stmt:=match s with
 | .FunctionDef _ _ b _ _ _ _ _ _ _=>b
 | _=>[]
def A7(s:Stmt):Scope:=match s with
 | .FunctionDef _ _ _ _ _ _ sc _ _ _=>sc
 | _=>{kind:= .function,names:=[],isGenerator:=false,isCoroutine:=false}
abbrev CX0:CXT:=fun _ _ _ _ _ _=>False
abbrev E0:XK:=fun _ _ _=>False
theorem Ad{X:Cx}:Lp CX0 X E0:=fun _ _ _ _ _ _ _ h=>h.elim
structure Fun(K:PySem.W.Frag)(x qual:Str)(st:Stmt)(f:Addr)(fd:FuncData):Prop where
 ex:∃(oc:Value) (od:Option Addr) (kV doc pm:Value) (an:Option Addr) (cdv ct:Value) (osl:Array (Option Value)),
  fd=PySem.W.fnOf x qual (Dl st) (D6 st) (A7 st) .none kV doc pm an cdv ct∧K.lookup f=some ⟨oc,od,.func fd,osl⟩∧PySem.W.codeIn K cdv qual=true
 kp:PySem.W.keepIn K (.ref f)=true
section
variable {P:Program} {w:World} {K:PySem.W.Frag} {mg:Str→Option Value} {base:Heap}
theorem Fun.ok{x qual:Str}{st:Stmt}{f:Addr}{fd:FuncData}{N ps:List Str}{k:Nat}{sp:Sp}(F:Fun K x qual st f fd)(S:Ab N ps (A7 st))(len:∀vs H Q E,sp vs H Q E→vs.length=ps.length)
 (hbody:∀(cdv:Value) (A:Around) (outer:List Env) (s:Shared) (H:Hp) (vs:List V) (Q:VK) (E:XK),Cy k (A.deeper (envOfC qual (A7 st) s.heap.objs.size f cdv))→sp vs H Q E→
  ∃t,PSs (Te CX0 P w K mg base N qual (A7 st) f cdv A outer s H E).nox (D6 st) t∧t {nx:=fun _ H'=>Q .non H',rt:=Q} (start N vs) H):Au P w K mg base CX0 (k+1) f fd ps sp:=by
 obtain ⟨oc,od,kV,doc,pm,an,cdv,ct,osl,rfl,lk,hcd⟩:=F.ex;refine J6e lk hcd S len fun A outer s H vs Q E hr hsp=>?_;obtain ⟨t,h,q⟩:=hbody cdv A outer s H vs Q E hr hsp;exact ⟨t,h.nox,q⟩
theorem Fun.binds{x qual:Str}{st:Stmt}{f:Addr}{fd:FuncData}{ps:List Str}(F:Fun K x qual st f fd)
 (h:∀(kV doc pm:Value) (an:Option Addr) (cdv ct:Value) (us:List Value),us.length=ps.length→bindArgs (PySem.W.fnOf x qual (Dl st) (D6 st) (A7 st) .none kV doc pm an cdv ct) ⟨us,[]⟩=pure (ps.zip us)):De K fd ps []:=by
 obtain ⟨oc,od,kV,doc,pm,an,cdv,ct,osl,rfl,lk,hcd⟩:=F.ex;exact .all (h kV doc pm an cdv ct)
theorem Pj{x qual:Str}{st:Stmt}{f:Addr}{oc:Value}{od an:Option Addr}{osl:Array (Option Value)}{kV doc pm cdv ct:Value}(l:K.lookup f=some ⟨oc,od,.func (PySem.W.fnOf x qual (Dl st) (D6 st) (A7 st) .none kV doc pm an cdv ct),osl⟩)
 (c:PySem.W.codeIn K cdv qual=true) (k:PySem.W.keepIn K (.ref f)=true):Fun K x qual st f (PySem.W.fnOf x qual (Dl st) (D6 st) (A7 st) .none kV doc pm an cdv ct):=⟨⟨oc,od,kV,doc,pm,an,cdv,ct,osl,rfl,l,c⟩,k⟩
end
theorem Ao{A:Around}{k:Nat}(hr:Cy k A):A.units+1 < cLine:=Fz (Nat.add_le_add_left (by decide:1≤64) _) hr.units
section
variable {X:Cx}
theorem pv(i:Nat){x:Str}{pos:Pos}(hN:X.N[i]?=some x:=by rfl)(hv:Vis X.env.scope x:=by first | exact Or.inl rfl | exact Or.inr (Or.inl rfl) | exact Or.inr (Or.inr rfl))(hd:(x==("__debug__":Str))=false:=by decide)
 (hcd:(x==("__classdict__":Str))=false:=by decide):PE X (.Name x pos) (J4s i):=J4t hN hv hd hcd
end
def A9(H H':Hp):Prop:=∀b o,H b=some o→H' b=some o
theorem A9.refl(H:Hp):A9 H H:=fun _ _ h=>h
theorem A9.trans{H H1 H2:Hp}(a:A9 H H1)(b:A9 H1 H2):A9 H H2:=fun c o h=>b c o (a c o h)
theorem A9.seq{K:PySem.W.Frag}{H H':Hp}{a:Addr}{xs:List V}(e:A9 H H')(h:SqL K H a xs):SqL K H' a xs:=by
 rcases h with (h | ⟨o,h⟩) | h
 · exact .inl (.inl (e _ _ h))
 · exact .inl (.inr ⟨o,e _ _ h⟩)
 · exact .inr h
end L2
namespace L2
section
variable {κ:Type} [DecidableEq κ]
def Ay(kvs:List (κ×V))(k:κ):Option V:=(kvs.find? fun kv=>decide (kv.1=k)).map (·.2)
def B1(kvs:List (κ×V))(k:κ)(v:V):List (κ×V):=
 if (kvs.any fun kv=>decide (kv.1=k))=true then kvs.map (fun kv=>if kv.1=k then (kv.1,v) else kv) else kvs++[(k,v)]
def B9(kvs:List (κ×V))(k:κ):List (κ×V):=kvs.filter fun kv=>decide (kv.1≠k)
theorem C0{p:κ×V}{r:List (κ×V)}{k:κ}(e:p.1=k):Ay (p::r) k=some p.2:=by simp [Ay,HF,e]
theorem Bq{p:κ×V}{r:List (κ×V)}{k:κ}(e:¬p.1=k):Ay (p::r) k=Ay r k:=by simp [Ay,HF,e]
theorem Cr(k:κ):∀kvs:List (κ×V),(kvs.any fun kv=>decide (kv.1=k))=(Ay kvs k).isSome
 | []=>rfl
 | p::r=>by
  rw [HG]
  by_cases e:p.1=k
  · simp only [C0 e,FI e,Bool.true_or,Option.isSome_some]
  · rw [Bq e,FF e,Bool.false_or];exact Cr k r
theorem Q9(k j:κ)(y:V):∀kvs:List (κ×V),Ay (kvs.map fun kv=>if kv.1=k then (kv.1,y) else kv) j=(Ay kvs j).map fun x=>if j=k then y else x
 | []=>rfl
 | p::r=>by
  have ih:=Q9 k j y r;rw [List.map_cons]
  by_cases h:p.1=k
  · rw [if_pos h]
    by_cases e:p.1=j
    · rw [C0 (p:=(p.1,y)) e,C0 e,Hv,if_pos (e.symm.trans h)]
    · rw [Bq (p:=(p.1,y)) e,Bq e,ih]
  · rw [if_neg h]
    by_cases e:p.1=j
    · rw [C0 (p:=p) e,C0 e,Hv,if_neg (fun z=>h (e.trans z))]
    · rw [Bq (p:=p) e,Bq e,ih]
theorem Og(k j:κ)(y:V):∀kvs:List (κ×V),Ay kvs k=none→Ay (kvs++[(k,y)]) j=if j=k then some y else Ay kvs j
 | [],_=>by
  by_cases e:k=j
  · rw [if_pos e.symm];exact C0 (p:=(k,y)) e
  · rw [if_neg (fun z=>e z.symm)];exact Bq (p:=(k,y)) e
 | p::r,hn=>by
  rw [List.cons_append]
  have hk:¬p.1=k:=fun z=>by rw [C0 z]at hn;cases hn
  rw [Bq hk]at hn;have ih:=Og k j y r hn
  by_cases e:p.1=j
  · rw [C0 e,C0 e,if_neg (fun z=>hk (e.trans z))]
  · rw [Bq e,Bq e,ih]
theorem C3(kvs:List (κ×V))(k j:κ)(y:V):Ay (B1 kvs k y) j=if j=k then some y else Ay kvs j:=by
 unfold B1
 by_cases a:(kvs.any fun kv=>decide (kv.1=k))=true
 · rw [if_pos a,Q9]
   rw [Cr]at a
   by_cases e:j=k
   · obtain ⟨x,hx⟩:=Hl.mp a
     rw [if_pos e,e,hx,Hv,if_pos rfl]
   · rw [if_neg e]
     cases Ay kvs j with
     | none=>rfl
     | some x=>rw [Hv,if_neg e]
 · rw [if_neg a]
   refine Og k j y kvs ?_;rw [Cr]at a
   cases q:Ay kvs k with
   | none=>rfl
   | some x=>rw [q]at a;exact (a rfl).elim
theorem Bg(kvs:List (κ×V))(k:κ)(v:V):(B1 kvs k v).length≤kvs.length+1:=by
 unfold B1;split
 · rw [Fa];omega
 · rw [Fj,List.length_cons,List.length_nil];omega
theorem Ng{kvs:List (κ×V)}{k:κ}(v:V)(h:Ay kvs k=none):B1 kvs k v=kvs++[(k,v)]:=by
 unfold B1;rw [Cr,h];exact if_neg (by decide)
theorem G2.isSome_eq{o:Option V}{u:Option Value}(r:G2 o u):o.isSome=u.isSome:=by
 cases o with
 | none=>cases u with
  | none=>rfl
  | some _=>exact (show False from r).elim
 | some _=>cases u with
  | none=>exact (show False from r).elim
  | some _=>rfl
theorem G2.getD{o:Option V}{u:Option Value}{d:V}{d':Value}(r:G2 o u)(rd:B4 d d'):B4 (o.getD d) (u.getD d'):=by
 cases o with
 | none=>cases u with
  | none=>exact rd
  | some _=>exact (show False from r).elim
 | some _=>cases u with
  | none=>exact (show False from r).elim
  | some _=>exact r
theorem KV.val{kvs:List (κ×V)}{vs:List (κ×Value)}(r:KV kvs vs)(k:κ):G2 (Ay kvs k) (valueAt vs k):=by
 unfold KV at r
 induction r with
 | nil=>exact True.intro
 | @cons p q ps qs h t ih=>
  obtain ⟨h1,h2⟩:=h
  by_cases e:p.1=k
  · have e':q.1=k:=h1.symm.trans e
    have b:valueAt (q::qs) k=some q.2:=by simp [valueAt,HF,e']
    rw [C0 e,b];exact h2
  · have e':¬q.1=k:=fun z=>e (h1.trans z)
    have b:valueAt (q::qs) k=valueAt qs k:=by simp [valueAt,HF,e']
    rw [Bq e,b];exact ih
theorem KV.any{kvs:List (κ×V)}{vs:List (κ×Value)}(r:KV kvs vs)(k:κ):(kvs.any fun kv=>decide (kv.1=k))=vs.any fun kv=>decide (kv.1=k):=by
 unfold KV at r
 induction r with
 | nil=>rfl
 | cons h t ih=>rw [HG,HG,ih,h.1]
theorem KV.repl{kvs:List (κ×V)}{vs:List (κ×Value)}(r:KV kvs vs)(k:κ){y:V}{u:Value}(ry:B4 y u):
 KV (kvs.map fun kv=>if kv.1=k then (kv.1,y) else kv) (vs.map fun kv=>if kv.1=k then (kv.1,u) else kv):=by
 unfold KV at r ⊢
 induction r with
 | nil=>exact .nil
 | @cons p q ps qs h t ih=>
  rw [List.map_cons,List.map_cons];refine .cons ?_ ih;obtain ⟨h1,h2⟩:=h
  by_cases e:p.1=k
  · rw [if_pos e,if_pos (h1.symm.trans e)];exact ⟨h1,ry⟩
  · rw [if_neg e,if_neg (fun z=>e (h1.trans z))];exact ⟨h1,h2⟩
theorem KV.put{kvs:List (κ×V)}{vs:List (κ×Value)}(r:KV kvs vs)(k:κ){y:V}{u:Value}(ry:B4 y u):KV (B1 kvs k y) (stored vs k u):=by
 unfold B1 stored;rw [r.any k]
 by_cases e:(vs.any fun kv=>decide (kv.1=k))=true
 · rw [if_pos e,if_pos e];exact r.repl k ry
 · rw [if_neg e,if_neg e];exact Paired.snoc r ⟨rfl,ry⟩
theorem KV.drop{kvs:List (κ×V)}{vs:List (κ×Value)}(r:KV kvs vs)(k:κ):KV (B9 kvs k) (without vs k):=by
 unfold KV at r ⊢;unfold B9 without
 induction r with
 | nil=>exact .nil
 | @cons p q ps qs h t ih=>
  obtain ⟨h1,h2⟩:=h;rw [List.filter_cons,List.filter_cons]
  by_cases e:p.1=k
  · have a:¬decide (p.1≠k)=true:=by simp [e]
    have b:¬decide (q.1≠k)=true:=by simp [h1.symm.trans e]
    rw [if_neg a,if_neg b];exact ih
  · have e':¬q.1=k:=fun z=>e (h1.trans z)
    have a:decide (p.1≠k)=true:=by simp [e]
    have b:decide (q.1≠k)=true:=by simp [e']
    rw [if_pos a,if_pos b];exact .cons ⟨h1,h2⟩ ih
theorem KV.length{kvs:List (κ×V)}{vs:List (κ×Value)}(r:KV kvs vs):kvs.length=vs.length:=Paired.length r
theorem Nh(kvs:List (κ×V))(k:κ):(B9 kvs k).length≤kvs.length:=Hs _ _
end
theorem Md{P:Program}{w:World}{k:Key}{u:Value}(r:B4 (kV k) u):(B8 P w).is k u=true:=by
 cases k with
 | inl i=>obtain ⟨t,e⟩:=(show ∃t,u=Value.int i t from r);subst e;exact Q2 P w i t
 | inr x=>obtain ⟨t,e⟩:=(show ∃t,u=Value.str x t from r);subst e;exact Q3 P w x t
theorem Oh{P:Program}{w:World}:∀{ks:List Key} {us:List Value},B3 (ks.map kV) us→ItemsAre (B8 P w) ks us
 | [],_,r=>by rw [List.map_nil]at r;cases r;exact .nil
 | k::ks,_,r=>by
  rw [List.map_cons]at r
  cases r with
  | cons h t=>exact .cons (Md h) (Oh t)
abbrev KT(H:Hp):List (List Key×V)→List (List Key×Addr×Value)→Prop:=Paired fun p q=>p.1=q.1∧H q.2.1=some (.tup (p.1.map kV))∧B4 p.2 q.2.2
theorem KT.val{H:Hp}{kvs:List (List Key×V)}{xs:List (List Key×Addr×Value)}(r:KT H kvs xs)(k:List Key):G2 (Ay kvs k) ((atKey xs k).map (·.2)):=by
 induction r with
 | nil=>exact True.intro
 | @cons p q ps qs h t ih=>
  obtain ⟨h1,_,h2⟩:=h
  by_cases e:p.1=k
  · have e':q.1=k:=h1.symm.trans e
    have b:atKey (q::qs) k=some q.2:=by simp [atKey,HF,e']
    rw [C0 e,b];exact h2
  · have e':¬q.1=k:=fun z=>e (h1.trans z)
    have b:atKey (q::qs) k=atKey qs k:=by simp [atKey,HF,e']
    rw [Bq e,b];exact ih
theorem KT.repl{H:Hp}{kvs:List (List Key×V)}{xs:List (List Key×Addr×Value)}(r:KT H kvs xs)(k:List Key){y:V}{u:Value}(ry:B4 y u):
 KT H (kvs.map fun kv=>if kv.1=k then (kv.1,y) else kv) (xs.map (putAt k u)):=by
 induction r with
 | nil=>exact .nil
 | @cons p q ps qs h t ih=>
  rw [List.map_cons,List.map_cons];refine .cons ?_ ih;obtain ⟨h1,h2,h3⟩:=h;unfold putAt
  by_cases e:p.1=k
  · rw [if_pos e,if_pos (h1.symm.trans e)];exact ⟨h1,h2,ry⟩
  · rw [if_neg e,if_neg (fun z=>e (h1.trans z))];exact ⟨h1,h2,h3⟩
theorem KT.put{H:Hp}{kvs:List (List Key×V)}{xs:List (List Key×Addr×Value)}(r:KT H kvs xs)(k:List Key){b:Addr}{y:V}{u:Value}(hb:H b=some (.tup (k.map kV)))(ry:B4 y u):
 KT H (B1 kvs k y) (storedH xs k b u):=by
 have e:(kvs.any fun kv=>decide (kv.1=k))=(atKey xs k).isSome:=by
  rw [Cr,(r.val k).isSome_eq,RP]
 unfold B1 storedH;rw [e]
 by_cases q:(atKey xs k).isSome=true
 · rw [if_pos q,if_pos q];exact r.repl k ry
 · rw [if_neg q,if_neg q];exact Paired.snoc r ⟨rfl,hb,ry⟩
theorem KT.keeps{H H':Hp}{kvs:List (List Key×V)}{xs:List (List Key×Addr×Value)}(r:KT H kvs xs)(ht:∀b ys,H b=some (.tup ys)→H' b=some (.tup ys)):KT H' kvs xs:=
 Paired.mapP r fun _ _ z=>⟨z.1,ht _ _ z.2.1,z.2.2⟩
section
variable {P:Program} {w:World} {H:Hp} {h:Heap} {a:Addr}
theorem J40{u:HO}(ok:HOk P w H h)(e:Rd H a u):C8 P w H h a u:=e.ok ok
theorem Me{kvs:List (Key×V)}(ok:HOk P w H h)(e:Rd H a (.dK kvs)):kvs.length≤sizeLine∧(a==sysModules)=false∧∃vs,KV kvs vs∧h.DictOf (B8 P w) a vs:=
 show C8 P w H h a (.dK kvs) from J40 ok e
theorem Y8{kvs:List (Key×V)}(ok:HOk P w H h)(e:H a=some (.dK kvs)):kvs.length≤sizeLine∧(a==sysModules)=false∧∃vs,KV kvs vs∧h.DictOf (B8 P w) a vs:=Me ok (.inl e)
theorem Lr{ks:List Key}(ok:HOk P w H h)(e:H a=some (.tup (ks.map kV))):(tupleKind (B8 P w)).is h ks a:=by
 obtain ⟨_,its,r,o,h1,h2,n,h3⟩:=(show C8 P w H h a (.tup (ks.map kV)) from ok a _ e)
 exact ⟨o,its.toArray,n,h1,h2,h3,by simpa using Oh r⟩
theorem Ni{kvs:List (List Key×V)}(ok:HOk P w H h)(e:Rd H a (.dT kvs)):kvs.length≤sizeLine∧(a==sysModules)=false∧
 ∃xs,KT H kvs xs∧h.DictOfH (tupleKind (B8 P w)) a xs:=by
 obtain ⟨z,y,xs,r,o,es,ep,h1,h2,h3,h4,h5⟩:=(show C8 P w H h a (.dT kvs) from J40 ok e)
 refine ⟨z,y,xs,r,o,es,ep,h1,h2,h3,h4,fun x hx=>?_,h5⟩
 have all:∀{l:List (List Key×V)} {m:List (List Key×Addr×Value)},KT H l m→∀x∈m,(tupleKind (B8 P w)).is h x.1 x.2.1:=by
  intro l m q
  induction q with
  | nil=>intro x hx;exact nomatch hx
  | @cons p q ps qs hq t ih=>
   intro x hx;rcases Fo.mp hx with e | hx
   · subst e
     exact Lr ok (by rw [← hq.1];exact hq.2.1)
   · exact ih x hx
 exact all r x hx
theorem J6m{kvs:List (List Key×V)}(ok:HOk P w H h)(e:H a=some (.dT kvs)):kvs.length≤sizeLine∧(a==sysModules)=false∧
 ∃xs,KT H kvs xs∧h.DictOfH (tupleKind (B8 P w)) a xs:=Ni ok (.inl e)
end
def Br(H:Hp)(a:Addr)(y:V)(r:Option V):Prop:=
 (∃kvs k,Rd H a (.dK kvs)∧y=kV k∧r=Ay kvs k)∨∃kvs k b,Rd H a (.dT kvs)∧y= .ref b∧H b=some (.tup (k.map kV))∧r=Ay kvs k
def Ea(H:Hp)(a:Addr)(y v:V)(H':Hp):Prop:=
 (∃kvs k,H a=some (.dK kvs)∧y=kV k∧kvs.length < sizeLine∧H'=upd H a (.dK (B1 kvs k v)))∨
 ∃kvs k b,H a=some (.dT kvs)∧y= .ref b∧H b=some (.tup (k.map kV))∧kvs.length < sizeLine∧H'=upd H a (.dT (B1 kvs k v))
theorem Br.k{H:Hp}{a:Addr}{kvs:List (Key×V)}{k:Key}(e:H a=some (.dK kvs)):Br H a (kV k) (Ay kvs k):= .inl ⟨kvs,k,.inl e,rfl,rfl⟩
theorem Ea.k{H:Hp}{a:Addr}{kvs:List (Key×V)}{k:Key}{v:V}(e:H a=some (.dK kvs))(hl:kvs.length < sizeLine):Ea H a (kV k) v (upd H a (.dK (B1 kvs k v))):= .inl ⟨kvs,k,e,rfl,hl,rfl⟩
section
variable {X:Cx} {pins:List (Addr×Obj)} {σ:St} {H:Hp} {s:Shared} {a:Addr} {y v:V} {u r:Value} {o:Option V} {A:Around} {E:Value→Shared→Prop}
theorem Inv.big(I:Inv X pins σ H s):sysModules < s.heap.objs.size:=by
 have h:mainGlobals < s.heap.objs.size:=(I.mod.glob.keeps I.bk).lt;exact Nat.lt_trans (by decide) h
theorem Wt{Q:Value→Shared→Prop}(hu:A.units+1 < cLine)(I:Inv X pins σ H s)(g:Br H a y (some v))(ry:B4 y u)(h:∀w' s',Inv X pins σ H s'→B4 v w'→Q w' s'):
 wpAny (model X.prog X.w) A (getItem (.ref a) u) Q E s:=by
 rcases g with ⟨kvs,k,e,ey,l⟩ | ⟨kvs,k,b,e,ey,eb,l⟩
 · subst ey
   obtain ⟨z,hd,vs,rel,dd⟩:=Me I.hok e;obtain ⟨w',hw,rw'⟩:=G2.some_of (v:=v) (o:=valueAt vs k) (by rw [l];exact rel.val k);exact wpAny_getItem_of (Md ry) dd.mapOf hw (h w' _ (I.tok _) rw')
 · subst ey
   cases (show u=Value.ref b from ry);obtain ⟨z,hd,xs,rel,dd⟩:=Ni I.hok e;obtain ⟨w',hw,rw'⟩:=G2.some_of (v:=v) (o:=(atKey xs k).map (·.2)) (by rw [l];exact rel.val k);obtain ⟨p,hp,hp2⟩:=Option.map_eq_some_iff.mp hw;refine wpAny_getItem_heap (HS hu) (Lr I.hok eb) dd hp ?_;rw [hp2];exact h w' _ (I.tok _) rw'
theorem J7w{Q:Value→Shared→Prop}(hu:A.units+1 < cLine)(I:Inv X pins σ H s)(g:Br H a y o)(ry:B4 y u)(h:∀s',Inv X pins σ H s'→Q (.bool o.isSome) s'):
 wpAny (model X.prog X.w) A (compareOp .In u (.ref a)) Q E s:=by
 rcases g with ⟨kvs,k,e,ey,l⟩ | ⟨kvs,k,b,e,ey,eb,l⟩
 · subst ey
   obtain ⟨z,hd,vs,rel,dd⟩:=Me I.hok e;refine wpAny_in_of (Md ry) hd dd.mapOf ?_;rw [← (rel.val k).isSome_eq,← l];exact h _ (I.tok _)
 · subst ey
   cases (show u=Value.ref b from ry);obtain ⟨z,hd,xs,rel,dd⟩:=Ni I.hok e;refine wpAny_in_heap (HS hu) (Lr I.hok eb) hd dd ?_;have q:=(rel.val k).isSome_eq;rw [RP]at q;rw [← q,← l];exact h _ (I.tok _)
theorem J2o{Q:Value→Shared→Prop}(hu:A.units+1 < cLine)(I:Inv X pins σ H s)(g:Br H a y o)(ry:B4 y u)(h:∀s',Inv X pins σ H s'→Q (.bool (!o.isSome)) s'):
 wpAny (model X.prog X.w) A (compareOp .NotIn u (.ref a)) Q E s:=by
 rcases g with ⟨kvs,k,e,ey,l⟩ | ⟨kvs,k,b,e,ey,eb,l⟩
 · subst ey
   obtain ⟨z,hd,vs,rel,dd⟩:=Me I.hok e;refine wpAny_notIn_of (Md ry) hd dd.mapOf ?_;rw [← (rel.val k).isSome_eq,← l];exact h _ (I.tok _)
 · subst ey
   cases (show u=Value.ref b from ry);obtain ⟨z,hd,xs,rel,dd⟩:=Ni I.hok e;refine wpAny_notIn_heap (HS hu) (Lr I.hok eb) hd dd ?_;have q:=(rel.val k).isSome_eq;rw [RP]at q;rw [← q,← l];exact h _ (I.tok _)
theorem Mq{h':Heap}{t':Nat}{ob:HO}(I:Inv X pins σ H s)(mu:Mut (H a))(hs:Heap.SameBut a s.heap h')(he:∃q,h'.get? a=some q)(new:C8 X.prog X.w (upd H a ob) h' a ob):
 Inv X pins σ (upd H a ob) {s with heap:=h',toks:=t'}:=
 I.write (x:=a) (e:=a) mu (.inl rfl) (fun b q hb z=>(hs.2 b hb).trans z) he new
theorem To{P:Program}{w:World}{H':Hp}{h':Heap}{kvs:List (Key×V)}{vs:List (Key×Value)}(z:kvs.length≤sizeLine)(hd:(a==sysModules)=false)(rel:KV kvs vs)(dd:h'.DictOf (B8 P w) a vs):
 C8 P w H' h' a (.dK kvs):=⟨z,hd,vs,rel,dd⟩
theorem Wu{H':Hp}{Q:Unit→Shared→Prop}(hu:A.units+1 < cLine)(I:Inv X pins σ H s)(g:Ea H a y v H')(ry:B4 y u)(rv:B4 v r)(h:∀s',Inv X pins σ H' s'→Q () s'):
 wpAny (model X.prog X.w) A (setItem (.ref a) u r) Q E s:=by
 rcases g with ⟨kvs,k,e,ey,l,eH⟩ | ⟨kvs,k,b,e,ey,eb,l,eH⟩
 · subst ey eH
   obtain ⟨z,hd,vs,rel,dd⟩:=Y8 I.hok e
   have hz:vs.length≤sizeLine:=by rw [← rel.length];exact z
   have hl:(B1 kvs k v).length≤sizeLine:=by have:=Bg kvs k v;omega
   refine wpAny_setItem_pairs (hsz:=hz) (Md ry) dd fun h' dd' hs=>h _ ?_;have he:∃q,h'.get? a=some q:=let ⟨q,_,_,hq,_⟩:=dd';⟨q,hq⟩;exact Mq I (by rw [e];exact True.intro) hs he (To hl hd (rel.put k rv) dd')
 · subst ey eH
   cases (show u=Value.ref b from ry);obtain ⟨z,hd,xs,rel,dd⟩:=J6m I.hok e
   have hz:xs.length≤sizeLine:=by rw [← Paired.length rel];exact z
   have hl:(B1 kvs k v).length≤sizeLine:=by have:=Bg kvs k v;omega
   refine wpAny_setItem_heap (hsz:=hz) (HS hu) (Lr I.hok eb) dd fun h' dd' hs=>h _ ?_;obtain ⟨q,es,ep,hq,h2,h3,h4,_,h5⟩:=dd';refine Mq I (by rw [e];exact True.intro) hs ⟨q,hq⟩ ⟨hl,hd,_,(rel.put k eb rv).keeps fun c ys ec=>?_,q,es,ep,hq,h2,h3,h4,h5⟩;rw [A3 (Bx ec e (fun z=>nomatch z))];exact ec
end
section
variable {X:Cx} {pins:List (Addr×Obj)} {σ:St} {H:Hp} {s:Shared} {a:Addr} {kvs:List (Key×V)} {k:Key} {u:Value} {A:Around} {E:Value→Shared→Prop}
theorem J6n{v:V}{more:List Value}{Q:Value→Shared→Prop}(I:Inv X pins σ H s)(e:H a=some (.dK kvs))(ry:B4 (kV k) u)(l:Ay kvs k=some v)(hm:more=[]∨∃x,more=[x])
 (h:∀w' s',Inv X pins σ (upd H a (.dK (B9 kvs k))) s'→B4 v w'→Q w' s'):wpAny (model X.prog X.w) A (call (.builtin "dict.pop") (.ref a::u::more)) Q E s:=by
 obtain ⟨z,hd,vs,rel,dd⟩:=Y8 I.hok e;obtain ⟨w',hw,rw'⟩:=G2.some_of (v:=v) (o:=valueAt vs k) (by rw [← l];exact rel.val k)
 have hp:(keyPart u).isSome=true:=by
  cases k with
  | inl i=>obtain ⟨t,q⟩:=(show ∃t,u=Value.int i t from ry);subst q;rfl
  | inr x=>obtain ⟨t,q⟩:=(show ∃t,u=Value.str x t from ry);subst q;rfl
 have ha:argsOk "dict.pop" ⟨.ref a::u::more,[]⟩:=by
  rcases hm with q | ⟨x,q⟩
  · subst q;exact PySem.F.args_dict_pop_2 _ _
  · subst q;exact PySem.F.args_dict_pop_3 _ _ _
 refine call_meetsIn PySem.F.slot_dict_pop dd.typeIs PySem.F.entry_dict_pop ha (meets_dict_pop_there (B8 X.prog X.w) a (Md ry) more hm hp)
  ⟨vs,w',dd,by rw [← rel.length];exact z,hw,fun h' dd' hs=>h w' _ ?_ rw'⟩
 have he:∃q,h'.get? a=some q:=let ⟨q,_,_,hq,_⟩:=dd';⟨q,hq⟩;exact Mq I (by rw [e];exact True.intro) hs he (To (FA (Nh kvs k) z) hd (rel.drop k) dd')
theorem J6o{Q:Value→Shared→Prop}(I:Inv X pins σ H s)(e:Rd H a (.dK kvs))(h:∀t s',Inv X pins σ H s'→Q (.int kvs.length t) s'):wpAny (model X.prog X.w) A (call (.builtin "len") [.ref a]) Q E s:=by
 obtain ⟨z,hd,vs,rel,dd⟩:=Me I.hok e;refine call_len_dict hd dd (by rw [← rel.length];rw [RX]at z;omega) ?_;rw [← rel.length];exact h _ _ (I.tok _)
end
def J4z(i:Expr):Prop:=∀ov iv,subscripted i false ov iv=operate [ov,iv] (getItem ov iv)
theorem Ue{prog:Program}{w:World}{A:Around}{E:Value→Shared→Prop}{s:Shared}{env:Env}{value slice:Expr}{pos:Pos}{T id:String}{Q:Value→Shared→Prop}
 (hl:typeLookup (.type T) "__getitem__"=pure (some (.builtin id))) (hs:J4z slice)
 (h:wpAny (model prog w) A (eval value env) (fun o s₁=>wpAny (model prog w) A (eval slice env) (fun i s₂=>s₂.TypeIs o T∧wpAny (model prog w) A (getItem o i) Q E s₂) E s₁) E s):
 wpAny (model prog w) A (eval (.Subscript value slice pos) env) Q E s:=by
 refine Subscript_ (Hd h (fun o s₁ h₁=>Hd h₁ (fun i s₂ h₂=>?_) fun _ _ x=>x) fun _ _ x=>x);obtain ⟨hT,h₂⟩:=h₂;unfold subscriptTail;refine FJ ?_;rw [getitemInPython_of_ne hT.not_modules];refine FJ (wpAny_specialOf hT hl ?_)
 have fin:wpAny (model prog w) A (subscripted slice false o i) (fun r s₃=>wpAny (model prog w) A (letTemporaryGo value o r >>=fun _=>pure r) Q E s₃) E s₂:=by
  rw [hs o i];exact wpAny_operating (Hd h₂ (fun r s₃ h₃=>FJ (wpAny_letTemporaryGo (FU h₃))) fun _ _ x=>x)
 first
  | exact FU (FJ fin)
  | exact FJ (FU (FJ fin))
  | exact FJ fin
theorem Qa{X:Cx}{pins:List (Addr×Obj)}{σ:St}{H:Hp}{s:Shared}{a:Addr}{y:V}{o:Option V}(I:Inv X pins σ H s)(g:Br H a y o):s.TypeIs (.ref a) "dict":=by
 rcases g with ⟨kvs,k,e,_,_⟩ | ⟨kvs,k,b,e,_,_,_⟩
 · obtain ⟨_,_,vs,_,dd⟩:=Me I.hok e
   exact dd.typeIs
 · obtain ⟨_,_,xs,_,dd⟩:=Ni I.hok e
   exact dd.typeIs
def J41(td ty:TE):TE:=fun σ H Q=>td σ H fun x H1=>ty σ H1 fun y H2=>∃a v,x= .ref a∧Br H2 a y (some v)∧Q v H2
def J6p(ty td:TE):TE:=fun σ H Q=>ty σ H fun y H1=>td σ H1 fun x H2=>∃a o,x= .ref a∧Br H2 a y o∧Q (.bl o.isSome) H2
def Ug(ty td:TE):TE:=fun σ H Q=>ty σ H fun y H1=>td σ H1 fun x H2=>∃a o,x= .ref a∧Br H2 a y o∧Q (.bl (!o.isSome)) H2
def J42(td ty tv:TE):TS:=fun D σ H=>tv σ H fun v H1=>td σ H1 fun x H2=>ty σ H2 fun y H3=>∃a H4,x= .ref a∧Ea H3 a y v H4∧D.nx σ H4
section
variable {X:Cx} {o i e value:Expr} {pos pos' tpos:Pos} {td ty tv:TE}
theorem An(hu:X.A.units+1 < cLine)(ho:PE X o td)(hi:PE X i ty)(hs:J4z i):PE X (.Subscript o i pos) (J41 td ty):=by
 intro pins s σ H Q I h;refine Ue PySem.F.slot_dict_getitem.lookup hs (thn (ho pins s σ H _ I h) fun u s1 ⟨x,H1,I1,rx,q1⟩=>thn (hi pins s1 σ H1 _ I1 q1) fun iv s2 hq_=>?_);obtain ⟨y,H2,I2,ry,a,v,ex,g,q2⟩:=hq_;subst ex;obtain rfl:u=Value.ref a:=rx;exact ⟨Qa I2 g,Wt hu I2 g ry fun w' s3 I3 rw'=>⟨v,H2,I3,rw',q2⟩⟩
theorem Ls(hu:X.A.units+1 < cLine)(hi:PE X i ty)(ho:PE X o td):PC X .In i o (J6p ty td):=by
 intro pins s σ H Q I h;refine thn (hi pins s σ H _ I h) fun iv s1 ⟨y,H1,I1,ry,q1⟩=>thn (ho pins s1 σ H1 _ I1 q1) fun u s2 hq_=>?_;obtain ⟨x,H2,I2,rx,a,ov,ex,g,q2⟩:=hq_;subst ex;obtain rfl:u=Value.ref a:=rx
 exact J7w hu I2 g ry fun s3 I3=>⟨.bl ov.isSome,H2,I3,rfl,q2⟩
theorem Wv(hu:X.A.units+1 < cLine)(hi:PE X i ty)(ho:PE X o td):PC X .NotIn i o (Ug ty td):=by
 intro pins s σ H Q I h;refine thn (hi pins s σ H _ I h) fun iv s1 ⟨y,H1,I1,ry,q1⟩=>thn (ho pins s1 σ H1 _ I1 q1) fun u s2 hq_=>?_;obtain ⟨x,H2,I2,rx,a,ov,ex,g,q2⟩:=hq_;subst ex;obtain rfl:u=Value.ref a:=rx
 exact J2o hu I2 g ry fun s3 I3=>⟨.bl (!ov.isSome),H2,I3,rfl,q2⟩
theorem Bt(hu:X.A.units+1 < cLine)(ho:PE X o td)(hi:PE X i ty)(hv:PE X value tv)(hs:swapsWith value (some (.Subscript o i pos')) pos.line X.env=pure false):
 PS X (.Assign [.Subscript o i pos'] value pos) (J42 td ty tv):=by
 intro pins s σ H D I h;refine wpAny_Assign_Subscript (thn (hv pins s σ H _ I h) fun r s1 ⟨v,H1,I1,rv,q1⟩=>thn (ho pins s1 σ H1 _ I1 q1) fun u s2 ⟨x,H2,I2,rx,q2⟩=>thn (hi pins s2 σ H2 _ I2 q2) fun iv s3 hq_=>?_) hs;obtain ⟨y,H3,I3,ry,a,H4,ex,g,q3⟩:=hq_;subst ex;obtain rfl:u=Value.ref a:=rx
 exact Wu hu I3 g ry rv fun s4 I4=>⟨σ,H4,I4,q3⟩
end
theorem Qb{P:Program}{w:World}{H:Hp}(h:Heap)(hb:sysModules < h.objs.size):C8 P w H (h.push {cls:= .type "dict",data:= .dict #[]}) h.objs.size (.dK []):=
 ⟨Fq _,HP.mpr (Ne.symm (FD hb)),[],.nil,Heap.DictOf.new h⟩
def Y9:TE:=fun _ H Q=>∀p,H p=none→Q (.ref p) (upd H p (.dK []))
section
variable {X:Cx} {pos:Pos}
theorem C4:PE X (.Dict [] [] pos) Y9:=fun pins s σ H Q I h=>
 wpAny_Dict_empty ⟨.ref s.heap.objs.size,_,I.laid (a:=s.heap.objs.size) (o:= .dK []) (t':=s.toks) (fun _ _ q=>Fl _ q) (Ff _) (Qb s.heap I.big),rfl,h _ (I.hok.fresh (Ff _))⟩
end
def Lu:List (TE×TE)→St→Hp→(List (V×V)→Hp→Prop)→Prop
 | [],_,H,Q=>Q [] H
 | (tk,tv)::r,σ,H,Q=>tk σ H fun x H1=>tv σ H1 fun y H2=>Lu r σ H2 fun ps H3=>Q ((x,y)::ps) H3
abbrev VV:List (V×V)→List (Value×Value)→Prop:=Paired fun p q=>B4 p.1 q.1∧B4 p.2 q.2
def PPs(X:Cx)(pos:Pos)(keys:List (Option Expr))(values:List Expr)(trs:List (TE×TE)):Prop:=
 ∀(pins:List (Addr×Obj)) (s:Shared) (σ:St) (H:Hp) (Q:List (V×V)→Hp→Prop),Inv X pins σ H s→Lu trs σ H Q→
   wpAny (model X.prog X.w) X.A (evalPairs (pairTrees keys values X.env pos)) (fun vs s'=>∃ps H',Inv X pins σ H' s'∧VV ps vs∧Q ps H') X.xe s
theorem J2p{X:Cx}{pos:Pos}:PPs X pos [] [] []:=fun pins s σ H Q I h=>pairTrees_nil_walk ⟨[],H,I,.nil,h⟩
theorem Ig{X:Cx}{pos:Pos}{k v:Expr}{ks:List (Option Expr)}{vs:List Expr}{tk tv:TE}{trs:List (TE×TE)}(hk:PE X k tk)(hv:PE X v tv)(hr:PPs X pos ks vs trs):
 PPs X pos (some k::ks) (v::vs) ((tk,tv)::trs):=fun pins s σ H Q I h=>
 pairTrees_cons_walk (thn (hk pins s σ H _ I h) fun u s1 ⟨x,H1,I1,rx,q1⟩=>thn (hv pins s1 σ H1 _ I1 q1) fun w2 s2 ⟨y,H2,I2,ry,q2⟩=>
  thn (hr pins s2 σ H2 _ I2 q2) fun ws s3 ⟨ps,H3,I3,rel,q3⟩=>⟨(x,y)::ps,H3,I3,.cons ⟨rx,ry⟩ rel,q3⟩)
def Kp(kvs more:List (Key×V)):List (Key×V):=more.foldl (fun acc kv=>B1 acc kv.1 kv.2) kvs
theorem KV.merge:∀{more:List (Key×V)} {rs:List (Key×Value)} {kvs:List (Key×V)} {vs:List (Key×Value)},KV more rs→KV kvs vs→KV (Kp kvs more) (merged vs rs):=by
 intro more rs kvs vs r;unfold KV at r
 induction r generalizing kvs vs with
 | nil=>intro q;exact q
 | @cons p q ps qs h t ih=>
  intro r0
  have e:KV (B1 kvs p.1 p.2) (stored vs q.1 q.2):=by
   have:=r0.put p.1 h.2;rw [← h.1];exact this
  exact ih e
theorem Kj:∀(more kvs:List (Key×V)),(Kp kvs more).length≤kvs.length+more.length
 | [],kvs=>by show kvs.length≤kvs.length+0;omega
 | p::r,kvs=>by
  have h1:=Kj r (B1 kvs p.1 p.2);have h2:=Bg kvs p.1 p.2;show (Kp (B1 kvs p.1 p.2) r).length≤_;rw [List.length_cons];omega
theorem Nj{P:Program}{w:World}:∀{kvs:List (Key×V)} {ws:List (Value×Value)},VV (kvs.map fun kv=>(kV kv.1,kv.2)) ws→∃rs,Carries (B8 P w) ws rs∧KV kvs rs
 | [],_,r=>by rw [List.map_nil]at r;cases r;exact ⟨[],True.intro,.nil⟩
 | p::kvs,_,r=>by
  rw [List.map_cons]at r
  cases r with
  | @cons a b as bs h t=>
   obtain ⟨rs,c,q⟩:=Nj (P:=P) (w:=w) t;obtain ⟨b1,b2⟩:=b;exact ⟨(p.1,b2)::rs,⟨Md h.1,rfl,c⟩,.cons ⟨rfl,h.2⟩ q⟩
def J43(trs:List (TE×TE)):TE:=fun σ H Q=>∀p,H p=none→Lu trs σ (upd H p (.dK [])) fun ps H2=>H2 p=some (.dK [])∧∃kvs:List (Key×V),ps=kvs.map (fun kv=>(kV kv.1,kv.2))∧kvs.length≤15∧Q (.ref p) (upd H2 p (.dK (Kp [] kvs)))
theorem J2q{X:Cx}{pos:Pos}{keys:List (Option Expr)}{values:List Expr}{trs:List (TE×TE)}(h:PPs X pos keys values trs)(hall:keys.all (·.isSome)=true)(hl:keys.length=values.length)(h0:keys≠[])
 (h15:keys.length≤15):PE X (.Dict keys values pos) (J43 trs):=by
 intro pins s σ H Q I q;have hn:=I.hok.fresh (Ff s.heap.objs.size);have I1:=I.laid (a:=s.heap.objs.size) (o:= .dK []) (h':=s.heap.push {cls:= .type "dict",data:= .dict #[]}) (t':=s.toks) (fun _ _ q=>Fl _ q) (Ff _) (Qb s.heap I.big);refine wpAny_Dict_walk (knd:=B8 X.prog X.w) hall hl h0 h15 (thn (h pins _ σ _ _ I1 (q _ hn)) fun ws s2 hq_=>?_);obtain ⟨ps,H2,I2,rel,e,kvs,ep,lk,q2⟩:=hq_;subst ep;obtain ⟨rs,c,rk⟩:=Nj (P:=X.prog) (w:=X.w) rel;obtain ⟨z,hd,vs0,r0,dd⟩:=Y8 I2.hok e;cases r0;refine ⟨rs,c,dd,fun h' dd' hs=>⟨.ref s.heap.objs.size,_,?_,rfl,q2⟩⟩
 have hz:(Kp [] kvs).length≤sizeLine:=by
  have h1:=Kj kvs [];rw [List.length_nil]at h1;rw [RX];omega
 have he:∃q,h'.get? s.heap.objs.size=some q:=let ⟨q,_,_,hq,_⟩:=dd';⟨q,hq⟩;exact Mq I2 (by rw [e];exact True.intro) hs he (To hz hd (rk.merge .nil) dd')
structure M1(X:Cx)(o:Expr)(m:Str)(apos:Pos)(e:Expr)(cpos:Pos):Prop where
 base:attributeBase o m X.env (eval o X.env)=eval o X.env
 few:((backTo cpos (starEach [e] X.env)).all (fun x=>!x.1) && (backToKw cpos (keywordEach [] X.env)).all (fun x=>x.1.isSome)
  && decide (([e]:List Expr).length+([]:List Keyword).length+(if ([]:List Keyword).isEmpty then 0 else 1) < 30))=true
 line:(apos.endLine==cpos.line)=true
 trees:backTo cpos (starEach [e] X.env)=[(false,eval e X.env)]
structure M2(X:Cx)(o:Expr)(m:Str)(apos:Pos)(e f:Expr)(cpos:Pos):Prop where
 base:attributeBase o m X.env (eval o X.env)=eval o X.env
 few:((backTo cpos (starEach [e,f] X.env)).all (fun x=>!x.1) && (backToKw cpos (keywordEach [] X.env)).all (fun x=>x.1.isSome)
  && decide (([e,f]:List Expr).length+([]:List Keyword).length+(if ([]:List Keyword).isEmpty then 0 else 1) < 30))=true
 line:(apos.endLine==cpos.line)=true
 trees:backTo cpos (starEach [e,f] X.env)=[(false,eval e X.env),(false,eval f X.env)]
def IsD(H:Hp)(a:Addr):Prop:=(∃kvs,Rd H a (.dK kvs))∨∃kvs,Rd H a (.dT kvs)
theorem Ya{X:Cx}{pins:List (Addr×Obj)}{σ:St}{H:Hp}{s:Shared}{a:Addr}(I:Inv X pins σ H s)(d:IsD H a):
 s.TypeIs (.ref a) "dict"∧(∀b,Value.ref a= .ref b→∃ob,s.heap.get? b=some ob∧ob.dict=none)∧(a==sysModules)=false:=by
 rcases d with ⟨kvs,e⟩ | ⟨kvs,e⟩
 · obtain ⟨_,hd,vs,_,dd⟩:=Me I.hok e
   refine ⟨dd.typeIs,fun b q=>?_,hd⟩;cases q;obtain ⟨ob,_,_,h1,h2,_⟩:=dd;exact ⟨ob,h1,h2.2.1⟩
 · obtain ⟨_,hd,xs,_,dd⟩:=Ni I.hok e
   refine ⟨dd.typeIs,fun b q=>?_,hd⟩;cases q;obtain ⟨ob,_,_,h1,h2,_⟩:=dd;exact ⟨ob,h1,h2.2.1⟩
section
variable {X:Cx} {pins:List (Addr×Obj)} {σ:St} {H:Hp} {s:Shared} {a:Addr} {y d:V} {u r:Value} {o:Option V} {A:Around} {E:Value→Shared→Prop}
theorem J50{Q:Value→Shared→Prop}(hu:A.units+1 < cLine)(I:Inv X pins σ H s)(g:Br H a y o)(ry:B4 y u)(rd:B4 d r)(h:∀w' s',Inv X pins σ H s'→B4 (o.getD d) w'→Q w' s'):
 wpAny (model X.prog X.w) A (call (.builtin "dict.get") [.ref a,u,r]) Q E s:=by
 rcases g with ⟨kvs,k,e,ey,l⟩ | ⟨kvs,k,b,e,ey,eb,l⟩
 · subst ey
   obtain ⟨z,hd,vs,rel,dd⟩:=Me I.hok e;refine call_meetsIn Ru dd.typeIs PySem.F.entry_dict_get (PySem.F.args_dict_get_3 _ _ _) (meets_dict_get_default (B8 X.prog X.w) a (Md ry) hd r) ⟨_,dd.mapOf,h _ _ (I.tok _) ?_⟩;rw [l];exact (rel.val k).getD rd
 · subst ey
   cases (show u=Value.ref b from ry);obtain ⟨z,hd,xs,rel,dd⟩:=Ni I.hok e;refine call_meetsIn Ru dd.typeIs PySem.F.entry_dict_get (PySem.F.args_dict_get_3 _ _ _) (meetsH_dict_get_default (tupleKind (B8 X.prog X.w)) a b hd r) ⟨HS hu,k,xs,Lr I.hok eb,dd,h _ _ (I.tok _) ?_⟩;rw [l];exact (rel.val k).getD rd
end
def Yb(td ty tx:TE):TE:=fun σ H Q=>td σ H fun x H1=>∃a,x= .ref a∧IsD H1 a∧ty σ H1 fun y H2=>tx σ H2 fun z H3=>∃o,Br H3 a y o∧Q (o.getD z) H3
def Yc(td ty:TE):TE:=fun σ H Q=>td σ H fun x H1=>∃a,x= .ref a∧IsD H1 a∧ty σ H1 fun y H2=>∃kvs k v,H2 a=some (.dK kvs)∧y=kV k∧Ay kvs k=some v∧Q v (upd H2 a (.dK (B9 kvs k)))
section
variable {X:Cx} {o e f:Expr} {apos cpos:Pos} {td ty tx:TE}
theorem L4(hu:X.A.units+1 < cLine)(ho:PE X o td)(he:PE X e ty)(hf:PE X f tx)(m:M2 X o "get" apos e f cpos):PE X (.Call (.Attribute o "get" apos) [e,f] [] cpos) (Yb td ty tx):=by
 intro pins s σ H Q I h;refine wpAny_Call_method m.base m.few m.line PySem.F.plainAttrs_dict Ru PySem.F.type_dict_get (thn (ho pins s σ H _ I h) fun u s1 hq_=>?_);obtain ⟨x,H1,I1,rx,a,ex,d,q1⟩:=hq_;subst ex;obtain rfl:u=Value.ref a:=rx;obtain ⟨t1,t2,_⟩:=Ya I1 d;refine ⟨t1,t2,?_⟩;rw [m.trees]
 refine Calls.callWith_builtin rfl (Calls.evalArgs_plain (Calls.spliced_cons (thn (he pins s1 σ H1 _ I1 q1) fun iv s2 ⟨y,H2,I2,ry,q2⟩=>
  Calls.spliced_cons (thn (hf pins s2 σ H2 _ I2 q2) fun fv s3 ⟨z,H3,I3,rz,ov,g,q3⟩=>Calls.spliced_nil ?_))))
 exact J50 hu I3 g ry rz fun w' s4 I4 rw'=>⟨_,H3,I4,rw',q3⟩
theorem Eu(ho:PE X o td)(he:PE X e ty)(m:M1 X o "pop" apos e cpos):PE X (.Call (.Attribute o "pop" apos) [e] [] cpos) (Yc td ty):=by
 intro pins s σ H Q I h;refine wpAny_Call_method m.base m.few m.line PySem.F.plainAttrs_dict PySem.F.slot_dict_pop PySem.F.type_dict_pop (thn (ho pins s σ H _ I h) fun u s1 hq_=>?_);obtain ⟨x,H1,I1,rx,a,ex,d,q1⟩:=hq_;subst ex;obtain rfl:u=Value.ref a:=rx;obtain ⟨t1,t2,_⟩:=Ya I1 d;refine ⟨t1,t2,?_⟩;rw [m.trees];refine Calls.callWith_builtin rfl (Calls.evalArgs_plain (Calls.spliced_cons (thn (he pins s1 σ H1 _ I1 q1) fun iv s2 ⟨y,H2,I2,ry,kvs,k,v,ea,ey,l,q2⟩=>Calls.spliced_nil ?_)));subst ey
 exact J6n I2 ea ry l (.inl rfl) fun w' s3 I3 rw'=>⟨v,_,I3,rw',q2⟩
end
end L2
namespace L2
section
variable {X:Cx}
theorem Oi:Eh X (.builtin "len") (fun xs H Q=>∃a kvs,xs=[V.ref a]∧H a=some (.dK kvs)∧Q (.int kvs.length) H):=by
 intro pins s σ H xs us Q I r h;obtain ⟨a,kvs,rfl,ha,q⟩:=h;obtain ⟨u,rfl,ru⟩:=Gv r;cases ru
 exact J6o I (.inl ha) fun t s' I'=>⟨.int kvs.length,H,I',⟨t,rfl⟩,q⟩
end
section
variable {κ:Type} [DecidableEq κ]
theorem L6{kvs:List (κ×V)}{k:κ}(h:Ay kvs k=none):¬k∈kvs.map (·.1):=by
 intro m;obtain ⟨p,hp,e⟩:=Fv.mp m;have q:(kvs.any fun kv=>decide (kv.1=k))=true:=List.any_eq_true.mpr ⟨p,hp,FI e⟩;rw [Cr,h]at q;exact absurd q (by simp)
theorem Uh{kvs:List (κ×V)}{k:κ}{v:V}(h:Ay kvs k=some v):k∈kvs.map (·.1):=by
 have q:(kvs.any fun kv=>decide (kv.1=k))=true:=by
  rw [Cr,h]
  all_goals rfl
 obtain ⟨p,hp,e⟩:=List.any_eq_true.mp q;exact Fv.mpr ⟨p,hp,RO e⟩
theorem Ww{kvs:List (κ×V)}{k:κ}{p:κ×V}(h:p∈B9 kvs k):p∈kvs:=(Hn.mp h).1
end
end L2
namespace L2
structure Def(P:Program)(w:World)(K:PySem.W.Frag)(mg:Str→Option Value)(base:Heap)(CX:CXT)(k:Nat)(x:Str)(ps:List Str)(sp:Sp):Prop where
 ex:∃(f:Addr) (fd:FuncData),Au P w K mg base CX k f fd ps sp∧mg x=some (.ref f)∧PySem.W.keepIn K (.ref f)=true∧De K fd ps []
def Yd(sp:Sp)(E:XK)(t:TA):TE:=fun σ H Q=>t σ H fun vs H1=>sp vs H1 Q E
section
variable {X:Cx} {CX:CXT} {k j:Nat} {ps:List Str} {sp:Sp} {E:XK} {x:Str} {p pos:Pos} {e:Expr} {es:List Expr} {t:TA}
theorem Ag(D:Def X.prog X.w X.K X.mg X.base CX j x ps sp)(hr:Cy k X.A)(hg:Gl X x)(hx:Lp CX X E)(ha:PA X (e::es) t)(hj:j≤k:=by decide)
 (hdb:(x==("__debug__":Str))=false:=by decide) (he:starEach (e::es) X.env=(false,eval e X.env)::starEach es X.env:=by rfl) (hpl:(backTo pos (starEach es X.env)).any (·.1)=false:=by rfl):
 PE X (.Call (.Name x p) (e::es) [] pos) (Yd sp E t):=by
 obtain ⟨f,fd,F,hm,hk,hb⟩:=D.ex;intro pins s σ H Q I h;refine J2i (F.mono hj) hr hg hm hk hb .nil hx ha hdb he hpl pins s σ H Q I ?_;show t σ H fun vs H1=>sp (vs++[]) H1 Q E
 have z:(fun (vs:List V) (H1:Hp)=>sp (vs++[]) H1 Q E)=fun vs H1=>sp vs H1 Q E:=by funext vs H1;rw [FP]
 rw [z];exact h
end
def J7x(i j:Int):Prop:=i.natAbs < 10 ^ 100∧j.natAbs < 10 ^ 100
theorem Ui:(10:Nat) ^ 100≤2 ^ 1000:=by decide+kernel
theorem Uj{i:Int}(h:i.natAbs < 10 ^ 100):Builtin.Int.intBits i≤2 ^ 20:=by
 have h1:Builtin.Int.intBits i≤1000:=by
  unfold Builtin.Int.intBits;split
  · omega
  · rename_i hne
    have:=(Nat.log2_lt (n:=i.natAbs) (k:=1000) (by simpa using hne)).mpr (Ft h Ui);omega
 exact FA h1 (by decide)
section
variable {X:Cx}
theorem Uk:OpR X (binaryOp .Mult) (rI J7x fun i j=> .int (i * j)):=opI fun _ _ _ _ _ _ _ hc q=>mul_int q (.of_bits (Uj hc.1) (Uj hc.2))
theorem Qc:OpR X (binaryOp .FloorDiv) (rI (fun _ j=>j≠0∧j.natAbs < 10 ^ 100) fun i j=> .int (i.fdiv j)):=opI fun i j _ _ _ _ _ hc q=>by
 refine floordiv_int hc.1 q (.inl (PyProof.noPylong_of_log2 ?_))
 have h0:j.natAbs≠0:=by have:=hc.1;omega
 exact Nat.lt_trans ((Nat.log2_lt h0).mpr (Ft hc.2 Ui)) (by decide)
end
def Isi(K:PySem.W.Frag)(H:Hp)(x:V)(n:String)(b:Bool):Prop:=∃t,Lo K H x t∧PySem.W.kitOne K t (.type n)=some b
section
variable {X:Cx}
theorem Ih:Eh X (.builtin "isinstance") (fun xs H Q=>∃x n b,xs=[x,.ty n]∧Isi X.K H x n b∧Q (.bl b) H):=by
 intro pins s σ H xs us Q I r h;obtain ⟨x,n,b,rfl,⟨t,ty,e⟩,q⟩:=h;obtain ⟨u,c,rfl,r1,r2⟩:=J3w r;cases r2
 exact Wp I r1 ty e fun tk=>⟨.bl b,H,I.tok _,rfl,q⟩
end
section
variable {K:PySem.W.Frag} {H:Hp}
theorem Ye{i:Int}:Isi K H (.int i) "int" true:=⟨_,.int i,rfl⟩
theorem Yf{i:Int}:Isi K H (.int i) "bool" false:=⟨_,.int i,by with_unfolding_all rfl⟩
theorem J51{i:Int}:Isi K H (.int i) "str" false:=⟨_,.int i,by with_unfolding_all rfl⟩
theorem Yg{i:Bool}:Isi K H (.bl i) "bool" true:=⟨_,.bl i,rfl⟩
theorem Yh{i:Bool}:Isi K H (.bl i) "int" true:=⟨_,.bl i,by with_unfolding_all rfl⟩
theorem J52{i:Bool}:Isi K H (.bl i) "str" false:=⟨_,.bl i,by with_unfolding_all rfl⟩
theorem J53{i:Str}:Isi K H (.str i) "str" true:=⟨_,.str i,rfl⟩
theorem Yi{i:Str}:Isi K H (.str i) "int" false:=⟨_,.str i,by with_unfolding_all rfl⟩
theorem J54{i:Str}:Isi K H (.str i) "bool" false:=⟨_,.str i,by with_unfolding_all rfl⟩
theorem Yj:Isi K H .non "int" false:=⟨_,.non,by with_unfolding_all rfl⟩
theorem J55:Isi K H .non "str" false:=⟨_,.non,by with_unfolding_all rfl⟩
theorem Yk{a:Addr}{xs:List V}(e:H a=some (.lst xs)):Isi K H (.ref a) "list" true:=⟨_,.lst e,rfl⟩
theorem Yl{a:Addr}{xs:List V}(e:H a=some (.lst xs)):Isi K H (.ref a) "str" false:=⟨_,.lst e,by with_unfolding_all rfl⟩
theorem Ym{a:Addr}{xs:List V}(e:H a=some (.lst xs)):Isi K H (.ref a) "int" false:=⟨_,.lst e,by with_unfolding_all rfl⟩
theorem Yn{a:Addr}{xs:List V}(e:H a=some (.lst xs)):Isi K H (.ref a) "tuple" false:=⟨_,.lst e,by with_unfolding_all rfl⟩
theorem Yo{a:Addr}{xs:List V}(e:H a=some (.tup xs)):Isi K H (.ref a) "tuple" true:=⟨_,.tup e,rfl⟩
theorem Yp{a:Addr}{xs:List V}(e:H a=some (.tup xs)):Isi K H (.ref a) "str" false:=⟨_,.tup e,by with_unfolding_all rfl⟩
theorem Yq{a:Addr}{xs:List V}(e:H a=some (.tup xs)):Isi K H (.ref a) "int" false:=⟨_,.tup e,by with_unfolding_all rfl⟩
theorem Yr{a:Addr}{xs:List V}(e:H a=some (.tup xs)):Isi K H (.ref a) "list" false:=⟨_,.tup e,by with_unfolding_all rfl⟩
theorem J56{x:V}{n:String}{b:Bool}{R:Bool→Prop}(h:Isi K H x n b)(q:R b):∃b,Isi K H x n b∧R b:=⟨b,h,q⟩
theorem J2r{p:Addr}{xs:List V}{R:List V→Prop}(h:SqL K H p xs)(q:R xs):∃ys,(SqL K H p ys∨SqT K H p ys)∧R ys:=⟨xs,.inl h,q⟩
theorem J2s{p:Addr}{xs:List V}{R:List V→Prop}(h:SqT K H p xs)(q:R xs):∃ys,(SqL K H p ys∨SqT K H p ys)∧R ys:=⟨xs,.inr h,q⟩
theorem Kq{p:Addr}{xs:List V}{i:Int}{v:V}{Q:VK}(h:SqT K H p xs)(e:atI xs i=some v)(q:Q v H):J6g K (.ref p) (.int i) H Q:=⟨p,xs,i,v,rfl,rfl,h,e,q⟩
theorem Bw{p:Addr}{xs:List V}{i:Int}{v:V}{Q:VK}(h:SqL K H p xs)(e:atI xs i=some v)(q:Q v H):J6f K (.ref p) (.int i) H Q:=⟨p,xs,i,v,rfl,rfl,h,e,q⟩
end
theorem J2t{c:TT}{tb:TS}{D:Gy}{σ:St}{H:Hp}{m0:Nat}(Pv:Nat→St→Hp→Prop)(h0:Pv m0 σ H)
 (hs:∀m σ H,Pv m σ H→c σ H fun b H1=>if b=true then ∃N:St→Hp→Prop,(∀σ' H',N σ' H'→∃m',m' < m∧Pv m' σ' H')∧tb {D with nx:=N,ct:=N,bk:=D.nx} σ H1 else D.nx σ H1):Xq c tb D σ H:=⟨Pv,⟨m0,h0⟩,hs⟩
theorem G7{α:Type}{xs:List α}{i:Int}{v:α}(h0:0≤i)(h:xs[i.toNat]?=some v):atI xs i=some v:=by
 unfold atI ixN;have hl:i.toNat < xs.length:=(Fe.mp h).1;rw [if_pos h0,if_pos (show i < xs.length by omega)];exact h
theorem Ys{CX:CXT}{P:Program}{w:World}{K:PySem.W.Frag}{mg:Str→Option Value}{base:Heap}{N:List Str}{qual:Str}{scope:Scope}{f:Addr}{cd:Value}{A:Around}{outer:List Env}{s:Shared}{H:Hp}{E:XK}:
 (Te CX P w K mg base N qual scope f cd A outer s H E).K=K:=rfl
theorem J57{ns:List Int}{k:Nat}(h:k < ns.length):(ns.map V.int)[k]?=some (V.int (ns.getD k 0)):=by
 rw [Fg,Fh,Fd h];rfl
theorem A9.tup{K:PySem.W.Frag}{H H':Hp}{a:Addr}{xs:List V}(e:A9 H H')(h:SqT K H a xs):SqT K H' a xs:=by
 rcases h with (h | ⟨o,h⟩) | h
 · exact .inl (.inl (e _ _ h))
 · exact .inl (.inr ⟨o,e _ _ h⟩)
 · exact .inr h
theorem A9.new{H:Hp}{p:Addr}{o:HO}(h:H p=none):A9 H (upd H p o):=fun b u e=>by
 rw [A3 (A2 e h)];exact e
section
variable {σ:St} {H:Hp} {Q:VK} {QT:Bool→Hp→Prop} {QA:List V→Hp→Prop} {D:Gy} {K:PySem.W.Frag}
theorem Yt{te:TE}{g:TG}:Wh te g D σ H=te σ H fun x H1=>g x σ H1 D.nx:=rfl
theorem Yu{i:Nat}:J4s i σ H Q=∃v,σ[i]?=some (some v)∧Q v H:=rfl
theorem J6q{v:V}:tC v σ H Q=Q v H:=rfl
theorem J44{r:R2}{ta tb:TE}:tOp r ta tb σ H Q=ta σ H fun x H1=>tb σ H1 fun y H2=>r x y H2 Q:=rfl
theorem J45{g:Int→Int→V}{x y:V}:rI0 g x y H Q=∃i j,x= .int i∧y= .int j∧Q (g i j) H:=rfl
theorem J6r{C:Int→Int→Prop}{g:Int→Int→V}{x y:V}:rI C g x y H Q=∃i j,x= .int i∧y= .int j∧C i j∧Q (g i j) H:=rfl
theorem J6s{g:Int→V}{x:V}:rU g x H Q=∃i,x= .int i∧Q (g i) H:=rfl
theorem Ul{i:Nat}{v:V}{N:St→Hp→Prop}:Ce i v σ H N=N (σ.set i (some v)) H:=rfl
theorem Yv{c:TT}{t u:TS}:J5y c t u D σ H=c σ H fun b H1=>if b=true then t D σ H1 else u D σ H1:=rfl
theorem Um{t:TE}:J3v t σ H QT=t σ H fun x H'=>∃k,x= .bl k∧QT k H':=rfl
theorem J6t{t:TE}:tB t σ H QT=t σ H fun x H1=>∃c,x= .bl c∧QT c H1:=rfl
theorem Yw{te:TE}:J5w te D σ H=te σ H D.rt:=rfl
theorem Uo:J5x D σ H=D.rt .non H:=rfl
theorem Up:J3p D σ H=D.nx σ H:=rfl
theorem Qd:J4u D σ H=D.bk σ H:=rfl
theorem Uq:J5v D σ H=D.ct σ H:=rfl
theorem J46{r:List V→Hp→VK→Prop}{t:TA}:tCB r t σ H Q=t σ H fun vs H1=>r vs H1 Q:=rfl
theorem Ur{ta:TE}{tr:TA}:Y1 ta tr σ H QA=ta σ H fun x H1=>tr σ H1 fun xs H2=>QA (x::xs) H2:=rfl
theorem Yx:Y0 σ H QA=QA [] H:=rfl
theorem Us{sp:Sp}{E:XK}{t:TA}:Yd sp E t σ H Q=t σ H fun vs H1=>sp vs H1 Q E:=rfl
theorem Yy{t:TT}:J5t t σ H QT=t σ H fun c H1=>QT (!c) H1:=rfl
theorem J47{t u:TT}:tOr t u σ H QT=t σ H fun c H1=>if c=true then QT true H1 else u σ H1 QT:=rfl
theorem Yz{t u:TT}:J5s t u σ H QT=t σ H fun c H1=>if c=true then u σ H1 QT else QT false H1:=rfl
theorem Ut{ta tb:TE}:J3n ta tb σ H Q=ta σ H fun x H1=>∃c,x= .bl c∧if c=true then tb σ H1 Q else Q (.bl false) H1:=rfl
theorem J00{ta tb:TE}:J7q ta tb σ H Q=ta σ H fun x H1=>∃c,x= .bl c∧if c=true then Q (.bl true) H1 else tb σ H1 Q:=rfl
theorem Uu{ta:TE}:J3o ta σ H Q=ta σ H fun x H1=>∃c,x= .bl c∧Q (.bl (!c)) H1:=rfl
theorem J48{t:TT}{ta tb:TE}:tIf t ta tb σ H Q=t σ H fun c H1=>if c=true then ta σ H1 Q else tb σ H1 Q:=rfl
theorem J49{r:V→Hp→VK→Prop}{ta:TE}:tUn r ta σ H Q=ta σ H fun x H1=>r x H1 Q:=rfl
theorem J4a{x y:V}:rEq x y H Q=(scal x y=true∧Q (.bl (decide (x=y))) H):=rfl
theorem J4b{x y:V}:rNe x y H Q=(scal x y=true∧Q (.bl (!decide (x=y))) H):=rfl
theorem J01{i j:Nat}{ta:TA}:J7s i j ta D σ H=ta σ H fun vs H1=>∃v w,vs=[v,w]∧D.nx ((σ.set i (some v)).set j (some w)) H1:=rfl
theorem J02{t:TA}:J6b t σ H Q=t σ H fun xs H1=>xs.length≤sizeLine∧∀p,H1 p=none→Q (.ref p) (upd H1 p (.tup xs)):=rfl
theorem J03{t:TA}:J6c t σ H Q=t σ H fun xs H1=>xs.length≤sizeLine∧∀p,H1 p=none→Q (.ref p) (upd H1 p (.lst xs)):=rfl
theorem Qe:Xm D σ H=False:=rfl
theorem Uv{te:TE}:J3q te D σ H=te σ H fun _ H1=>D.nx σ H1:=rfl
theorem Qf{t:TG}{u:TGs}{vs:List V}{N:St→Hp→Prop}:N7 t u vs σ H N=∃v r,vs=v::r∧t v σ H fun σ' H'=>u r σ' H' N:=rfl
theorem Uw{vs:List V}{N:St→Hp→Prop}:J2b vs σ H N=(vs=[]∧N σ H):=rfl
theorem Ux{to ti:TE}{t:T6}{v:V}{N:St→Hp→Prop}:J5z to ti t v σ H N=to σ H fun o H1=>ti σ H1 fun i H2=>t o i v H2 fun H3=>N σ H3:=rfl
theorem Qg{r r':R2}{ta tb tc:TE}:Xw r r' ta tb tc σ H Q=ta σ H fun x H1=>tb σ H1 fun y H2=>r x y H2 fun z H3=>∃k,z= .bl k∧
 (if k=true then tc σ H3 fun w' H4=>r' y w' H4 Q else Q (.bl false) H3):=rfl
theorem Uy{ta:TA}{R:It→Hp→Prop}:J3t ta σ H R=ta σ H fun vs H1=>∃j:Int,vs=[.int j]∧-(2 ^ 62)≤j∧j < 2 ^ 62∧R (Itr 0 j.toNat) H1:=rfl
theorem Uz{ta:TA}{R:It→Hp→Prop}:J62 ta σ H R=ta σ H fun vs H1=>∃i j:Int,vs=[.int i,.int j]∧(-(2 ^ 62)≤i∧i < 2 ^ 62∧-(2 ^ 62)≤j∧j < 2 ^ 62)∧R (Itr i (j - i).toNat) H1:=rfl
theorem Qh{tl:TE}{R:It→Hp→Prop}:J3s K tl σ H R=tl σ H fun x H1=>∃a,x= .ref a∧(∃xs,SqL K H1 a xs)∧R (Itl K a) H1:=rfl
theorem V0{tl:TE}{R:It→Hp→Prop}:J7t K tl σ H R=tl σ H fun x H1=>∃a,x= .ref a∧(∃xs,SqT K H1 a xs)∧R (Itt K a) H1:=rfl
def L7(g:TG)(tb:TS)(D:Gy)(σ:St):It→Hp→Prop:=fun J H1=>∃W:Nat→Nat→St→Hp→Prop,(∃m,W 0 m σ H1)∧∀i m σ H,W i m σ H→
 (J.stop i H∧D.nx σ H)∨(J.go i H∧∃N:St→Hp→Prop,(∀σ' H',N σ' H'→∃m',m' < m∧W (i+1) m' σ' H')∧∀x H',J.yld i H x H'→g x σ H' fun σ2 H2=>tb {D with nx:=N,ct:=N,bk:=D.nx} σ2 H2)
theorem V1{wi:TI}{g:TG}{tb:TS}:J63 wi g tb D σ H=wi σ H (L7 g tb D σ):=rfl
theorem Pk{lo:Int}{n:Nat}{g:TG}{tb:TS}(Pv:Nat→St→Hp→Prop)(h0:Pv 0 σ H)
 (hs:∀i σ H,i < n→Pv i σ H→g (.int (lo+i)) σ H fun σ2 H2=>tb {D with nx:=Pv (i+1),ct:=Pv (i+1),bk:=D.nx} σ2 H2) (hd:∀σ H,Pv n σ H→D.nx σ H):L7 g tb D σ (Itr lo n) H:=Wk Pv h0 hs hd
theorem En{a:Addr}{xs:List V}{g:TG}{tb:TS}(Pv:Nat→St→Hp→Prop)(h0:Pv 0 σ H)(hl:∀i σ H,i≤xs.length→Pv i σ H→SqL K H a xs)
 (hs:∀i x σ H,xs[i]?=some x→Pv i σ H→g x σ H fun σ2 H2=>tb {D with nx:=Pv (i+1),ct:=Pv (i+1),bk:=D.nx} σ2 H2) (hd:∀σ H,Pv xs.length σ H→D.nx σ H):L7 g tb D σ (Itl K a) H:=Xt Pv h0 hl hs hd
theorem J58{t u:TS}(h:∀rest:St→Hp→Prop,rest=u D→t {D with nx:=rest} σ H):J5u t u D σ H:=h _ rfl
theorem J2u{rest r:St→Hp→Prop}(h:rest=r)(q:r σ H):rest σ H:=by rw [h];exact q
theorem J2v{a:Addr}{ns:List Int}{k:Int}{R:List Int→Prop}(h:SqL K H a (ns.map V.int))(h0:0≤k)(hl:ns.length≤63)(q:R ns):∃x:List Int,SqL K H a (x.map V.int)∧0≤k∧x.length≤63∧R x:=⟨ns,h,h0,hl,q⟩
theorem Mr{i j:Int}(h1:0 < j)(h2:j < 1073741824):J65 i j:=⟨h1,h2⟩
theorem Pl{i j:Int}(h1:0≤j)(h2:j≤1000000)(h3:i.natAbs < 2 ^ 64):J66 i j:=⟨h1,h2,h3⟩
theorem J59{i j:Int}(h1:-(2 ^ 64) < i)(h2:i < 2 ^ 64):Xu i j:= .inl ⟨h1,h2⟩
theorem J04{i j:Int}(h1:-(2 ^ 64) < j)(h2:j < 2 ^ 64):Xu i j:= .inr ⟨h1,h2⟩
end
end L2
namespace L2
def Eo(CX:CXT)(X:Cx)(EE:St→XK):Prop:=∀(pins:List (Addr×Obj)) (σ:St) (H:Hp) (s:Shared) (e:Value) (s':Shared),Inv X pins σ H s→CX X.stack H s (EE σ) e s'→X.xe e s'
abbrev TH:=Value→Addr→TS
end L2
namespace L2
theorem Pm{prog:Program}{w:World}{A:Around}{R:Result→Shared→Prop}{s:Shared}{elt target iter:Expr}{ifs:List Expr}{scope:Scope}{pos:Pos}{it acc:Value}{env:Env}(I:Nat→Shared→Prop)
 (turn:∀n s,I n s→wpAny (model prog w) A (pyNext it) (fun r s₁=>match r with
  | none=>R (.ok .next) s₁
  | some v=>wpAny (model prog w) A (letOwnedTupleGo target it v) (fun _ s₁=>wpAny (model prog w) A (assign target env v) (fun _ s₂=>
   wpAny (model prog w) A (forIn ifs true fun c r=>if r=true then do let ok ← isTrue c env (eval c env);pure (ForInStep.yield ok) else pure (ForInStep.yield r)) (fun ok s₃=>
    if ok=true then wpAny (model prog w) A (eval elt env) (fun x s₄=>
     wpAny (model prog w) A (call (.builtin "list.append") [acc,x]) (fun _ s₅=>∃m,m < n∧I m s₅) (notedBy (model prog w) A env fun e s'=>R (.error e) s') s₄) (notedBy (model prog w) A env fun e s'=>R (.error e) s') s₃
    else ∃m,m < n∧I m s₃) (notedBy (model prog w) A env fun e s'=>R (.error e) s') s₂) (notedBy (model prog w) A env fun e s'=>R (.error e) s') s₁) (notedBy (model prog w) A env fun e s'=>R (.error e) s') s₁) (notedBy (model prog w) A env fun e s'=>R (.error e) s') s)
 (n:Nat) (h:I n s):
 codeAny (model prog w) A (.compLoop (.ListComp elt [⟨target,iter,ifs,0⟩] scope pos) 0 it acc env) R s:=by
 refine codeAny_loop rfl I (fun n s hI=>?_) n h;show wpAny _ A ((compTurn (.ListComp elt [⟨target,iter,ifs,0⟩] scope pos) 0 it acc env).onRaise (fun x=>do noteFrame x env;theTreesLotGoes x)) _ _ s;refine wpAny_noted ?_;rw [compTurn_list];refine FJ (wpAny_standAt (FJ (Hd (turn n s hI) (fun r s₁ h₁=>?_) fun _ _ h'=>h')))
 cases r with
 | none=>exact FU h₁
 | some v=>
  refine FJ (Hd h₁ (fun _ s₁ h₁=>?_) fun _ _ h'=>h');refine FJ (Hd h₁ (fun _ s₂ h₂=>FJ (Hd h₂ (fun ok s₃ h₃=>?_) fun _ _ h'=>h')) fun _ _ h'=>h')
  cases ok with
  | false=>exact FU ⟨rfl,h₃⟩
  | true=>
   exact FJ (FJ (Hd h₃ (fun x s₄ h₄=>FJ (Hd h₄ (fun _ s₅ h₅=>FU (FU ⟨rfl,h₅⟩)) fun _ _ h'=>h')) fun _ _ h'=>h'))
def clo(env:Env):List (Str×NameKind)→List (Str×Addr)→List (Str×Addr)
 | [],cs=>cs
 | (n,k)::r,cs=>clo env r (if (k== .free)=true then (match env.cells.lookup n with | some c=>(n,c)::cs | none=>cs) else cs)
theorem Qi{env:Env}:∀(names:List (Str×NameKind)) (cs:List (Str×Addr)),(∀y∈names,y.2= .free→∃c,env.cells.lookup y.1=some c)→
 (forIn (m:=Sem) names cs fun (x:Str×NameKind) (r:List (Str×Addr))=>match x with | (name,kind)=>if (kind== .free)=true then do let c ← cellOf env name;pure (ForInStep.yield ((name,c)::r)) else pure (ForInStep.yield r))=pure (clo env names cs)
 | [],cs,_=>rfl
 | (n,k)::r,cs,h=>by
  rw [List.forIn_cons];have ih:=fun cs=>Qi r cs fun y hy=>h y (Fb _ hy)
  by_cases hk:(k==NameKind.free)=true
  · obtain ⟨c,hc⟩:=h (n,k) Fi (by simpa using hk)
    have e:cellOf env n=pure c:=by unfold cellOf;rw [show env.cells.lookup n=some c from hc]
    simp only [hk,if_true,e,clo];rw [show env.cells.lookup n=some c from hc];exact ih _
  · simp only [hk,clo]
    exact ih _
theorem Mf{scope:Scope}{env:Env}(h:∀y∈scope.names,y.2= .free→∃c,env.cells.lookup y.1=some c):closureFor scope env=pure (clo env scope.names []):=by
 unfold closureFor;show (forIn (m:=Sem) scope.names ([]:List (Str×Addr)) _ >>=fun r=>pure r)=_;rw [Qi scope.names [] h];rfl
theorem Lv{env:Env}{x:Str}{c:Addr}:∀(names:List (Str×NameKind)) (cs:List (Str×Addr)),(clo env names cs).lookup x=some c→env.cells.lookup x=some c∨cs.lookup x=some c
 | [],cs,h=> .inr h
 | (n,k)::r,cs,h=>by
  unfold clo at h;rcases Lv r _ h with q | q
  · exact .inl q
  · split at q
    · split at q
      · rename_i c' hc
        rw [FR]at q
        cases hx:x==n with
        | true=>
         rw [hx]at q
         have e:x=n:=by simpa using hx
         subst e;simp only [Option.some.injEq]at q;subst q;exact .inl hc
        | false=>rw [hx]at q;exact .inr q
      · exact .inr q
    · exact .inr q
theorem Pn{env:Env}{x:Str}{c:Addr}(hc:env.cells.lookup x=some c):∀(names:List (Str×NameKind)) (cs:List (Str×Addr)),(cs.lookup x=some c∨(cs.lookup x=none∧(x,NameKind.free)∈names))→(clo env names cs).lookup x=some c
 | [],cs,h=>by
  rcases h with h | ⟨_,h⟩
  · exact h
  · cases h
 | (n,k)::r,cs,h=>by
  unfold clo;refine Pn hc r _ ?_
  by_cases hx:x=n
  · subst hx
    by_cases hk:(k==NameKind.free)=true
    · rw [if_pos hk,hc]
      exact .inl (by simp [FR])
    · rw [if_neg hk]
      rcases h with h | ⟨h1,h2⟩
      · exact .inl h
      · refine .inr ⟨h1,?_⟩
        rcases Fo.mp h2 with e | e
        · cases e;exact absurd rfl hk
        · exact e
  · have hb:(x==n)=false:=by simpa using hx
    have key:∀cs':List (Str×Addr),cs'.lookup x=cs.lookup x→(cs'.lookup x=some c∨(cs'.lookup x=none∧(x,NameKind.free)∈r)):=fun cs' e=>by
     rw [e];rcases h with h | ⟨h1,h2⟩
     · exact .inl h
     · refine .inr ⟨h1,?_⟩
       rcases Fo.mp h2 with e | e
       · cases e;exact absurd rfl hx
       · exact e
    refine key _ ?_;split
    · split
      · simp [FR,hb]
      · rfl
    · rfl
theorem G8{env:Env}{k':NameKind}:∀{names:List (Str×NameKind)} {x:Str},(∀y∈names,y.2≠ .cell)→
 (names.map fun (n,k)=>if (k==NameKind.free && env.scope.kind== .function && env.kindOf n==some .cell) then (n,NameKind.cell) else (n,k)).lookup x=some k'→(k'= .cell∨k'= .free)→(x,NameKind.free)∈names
 | [],_,_,h,_=>by simp at h
 | (n,k)::r,x,hc,h,hk=>by
  have ih:=@G8 env k' r x (fun y hy=>hc y (Fb _ hy));have h':List.lookup x ((if (k==NameKind.free && env.scope.kind== .function && env.kindOf n==some .cell)=true then (n,NameKind.cell) else (n,k))::(r.map fun (n,k)=>if (k==NameKind.free && env.scope.kind== .function && env.kindOf n==some .cell) then (n,NameKind.cell) else (n,k)))=some k':=h
  by_cases hx:x=n
  · subst hx
    by_cases q:(k==NameKind.free && env.scope.kind== .function && env.kindOf x==some .cell)=true
    · have:k= .free:=by simp only [Hf,HU]at q;exact q.1.1
      subst this;exact Fi
    · rw [if_neg q,FR]at h'
      simp only [beq_self_eq_true]at h';have e:k=k':=FN h';rcases hk with z | z
      · exact absurd (e.trans z) (hc (x,k) Fi)
      · rw [e.trans z];exact Fi
  · have hb:(x==n)=false:=by simpa using hx
    refine Fb _ (ih ?_ hk);split at h'
    · rw [FR,hb]at h';exact h'
    · rw [FR,hb]at h';exact h'
theorem E7{env:Env}:∀{names:List (Str×NameKind)} {x:Str},names.lookup x=some .free→
 (names.map fun (n,k)=>if (k==NameKind.free && env.scope.kind== .function && env.kindOf n==some .cell) then (n,NameKind.cell) else (n,k)).lookup x=some .cell∨
 (names.map fun (n,k)=>if (k==NameKind.free && env.scope.kind== .function && env.kindOf n==some .cell) then (n,NameKind.cell) else (n,k)).lookup x=some .free
 | [],_,h=>by simp at h
 | (n,k)::r,x,h=>by
  have ih:=@E7 env r x;show List.lookup x ((if (k==NameKind.free && env.scope.kind== .function && env.kindOf n==some .cell)=true then (n,NameKind.cell) else (n,k))::_)=_∨List.lookup x ((if (k==NameKind.free && env.scope.kind== .function && env.kindOf n==some .cell)=true then (n,NameKind.cell) else (n,k))::_)=_
  cases hx:x==n with
  | true=>
   simp only [FR,hx]at h;cases h;split
   · left;simp [FR,hx]
   · right;simp [FR,hx]
  | false=>
   simp only [FR,hx]at h;split
   · simp only [FR,hx];exact ih h
   · simp only [FR,hx];exact ih h
structure Blk where
 s:Shared
 H:Hp
 C:Addr
 fp:List Addr
abbrev Cx.blk(X:Cx)(scope:Scope)(N':List Str)(b:Blk):Cx:=
 {X with N:=N',s₀:=b.s,H₀:=b.H,env:=compEnvC scope (clo X.env scope.names []) b.C X.env,outer:=X.stack,ex:=b.fp,fn:=fun _=>false,pn:=[],xe:=fun _ _=>False}
def around(N:List Str)(fs:List Nat):List Str:=fs.map fun j=>N.getD j ""
def Dy(N:List Str)(esc scope:Scope)(xs:List Str)(fs:List Nat):Bool:=
 decide (xs++around N fs).Nodup && (match scope.kind with | .function=>true | _=>false) && xs.all (fun x=>decide (scope.names.lookup x=some .local)) &&
 scope.names.all (fun y=>decide (y.2≠ .cell) && (!decide (y.2= .local) || decide (scope.names.lookup y.1=some .local)) && (!decide (y.2= .free) || decide (esc.names.lookup y.1=some .cell) || decide (esc.names.lookup y.1=some .free))) &&
 fs.all fun j=>decide (j < N.length) && decide (scope.names.lookup (N.getD j "")=some .free)
structure Po(N:List Str)(esc scope:Scope)(xs:List Str)(fs:List Nat):Prop where
 nd:(xs++around N fs).Nodup
 kind:scope.kind= .function
 own:∀x∈xs,scope.names.lookup x=some .local
 cell:∀y∈scope.names,y.2≠ .cell
 names:∀y∈scope.names,y.2= .local→scope.names.lookup y.1=some .local
 free:∀y∈scope.names,y.2= .free→esc.names.lookup y.1=some .cell∨esc.names.lookup y.1=some .free
 fs:∀j∈fs,j < N.length∧scope.names.lookup (N.getD j "")=some .free
theorem Ec{N:List Str}{esc scope:Scope}{xs:List Str}{fs:List Nat}(h:Dy N esc scope xs fs=true):Po N esc scope xs fs:=by
 unfold Dy at h;simp only [Hf,decide_eq_true_eq,Hj]at h;obtain ⟨⟨⟨⟨h1,h2⟩,h3⟩,h4⟩,h5⟩:=h;refine ⟨h1,?_,h3,fun y hy=>(h4 y hy).1.1,fun y hy e=>?_,fun y hy e=>?_,h5⟩
 · split at h2
   · assumption
   · cases h2
 · have:=(h4 y hy).1.2
   simpa [e] using this
 · have:=(h4 y hy).2
   simpa [e] using this
section
variable {X:Cx} {pins:List (Addr×Obj)} {σ:St} {H:Hp} {s:Shared} {scope:Scope} {xs:List Str} {fs:List Nat} {fp:List Addr} {C:Addr}
theorem J5a(I:Inv X pins σ H s)(O:Po X.N X.env.scope scope xs fs)(hf:∀b∈fp,Km X pins H b)(hC:s.heap.objs.size≤C)(hfp:∀b∈fp,b < s.heap.objs.size):(X.blk scope (xs++around X.N fs) ⟨s,H,C,fp⟩).Ok:=by
 have hcl:∀x c,(clo X.env scope.names []).lookup x=some c→X.env.cells.lookup x=some c:=fun x c e=>by
  rcases Lv _ _ e with q | q
  · exact q
  · cases q
 have hsz:∀b o,X.base.get? b=some o→b < X.s₀.heap.objs.size:=fun b o e=>Ft (Fp e) I.ok.bsz;refine ⟨I.ok.mod,O.kind,I.ok.glob,I.ok.blt,hC,fun x y c h1 h2=>I.ok.inj x y c (hcl x c h1) (hcl y c h2),fun x hx=>?_,fun x c z=>(by cases z),I.ok.hd,I.ok.frames,.inl rfl,fun b hb=>⟨FD (Ft (hfp b hb) hC),fun x c e=>(hf b hb).2.2.2.2.1 x c (hcl x c e)⟩,I.bs,FA I.ok.bsz I.sz,fun b o e hb=>?_,fun b hb hs=>?_,I.stack,I.stkFree⟩
 · have hm:(x,NameKind.free)∈scope.names:=by
    rcases hx with hx | hx
    · exact G8 (env:=X.env) O.cell (show (scope.names.map _).lookup x=some NameKind.cell from hx) (.inl rfl)
    · exact G8 (env:=X.env) O.cell (show (scope.names.map _).lookup x=some NameKind.free from hx) (.inr rfl)
   obtain ⟨c,hc⟩:=I.ok.has x (O.free _ hm rfl);exact ⟨c,Pn hc _ _ (.inr ⟨rfl,hm⟩)⟩
 · obtain ⟨_,_,_,h4,_⟩:=hf b hb
   rcases h4 with h4 | h4
   · exact I.ok.noex b o e h4
   · exact absurd (Ft (hsz b o e) h4) (HB _)
 · obtain ⟨_,h2,h3,_⟩:=hf b hb
   exact (Fo.mp (I.stkSub b hs)).elim h2 h3
theorem J5b{h1:Heap}{t:Nat}{D:Addr}{m:Str→Option Value}(I:Inv X pins σ H s)(O:Po X.N X.env.scope scope xs fs)(hf:∀b∈fp,Km X pins H b)(hD:s.heap.objs.size≤D)(hC:s.heap.objs.size≤C)(hfp:∀b∈fp,b < s.heap.objs.size)(hDC:D≠C)
 (k:∀b u,s.heap.get? b=some u→h1.get? b=some u) (hDo:h1.get? D=some {cls:= .type "list",data:= .seq #[] 0}) (hn:h1.Ns C m):
 Inv (X.blk scope (xs++around X.N fs) ⟨s,H,C,fp⟩) [] (xs.map (fun _=>none)++fs.map fun j=>σ.getD j none) (upd H D (.lst [])) {s with heap:=h1,toks:=t}:=by
 have hcl:∀x c,(clo X.env scope.names []).lookup x=some c→X.env.cells.lookup x=some c:=fun x c e=>by
  rcases Lv _ _ e with q | q
  · exact q
  · cases q
 have ok:=J5a (C:=C) I O hf hC hfp;have hnD:H D=none:=I.hok.fresh hD;refine ⟨ok,rfl,I.bare,Un.laid k hD hnD,⟨m,hn,fun i x v e1 e2 e3=>?_⟩,fun x c e=>?_,?_,fun x c e=>?_,fun p hp=>absurd (show p∈([]:List (Addr×Obj)) from hp) (by simp),I.hok.laid k hD ⟨Fq _,[],0,.nil,hDo⟩,by simp [around]⟩
 · by_cases hi:i < xs.length
   · rw [Fw (by simpa using hi),Fg]at e2
     cases q:xs[i]? with
     | none=>rw [q]at e2;cases e2
     | some a=>rw [q]at e2;cases e2
   · have hi:xs.length≤i:=Nat.le_of_not_lt hi
     rw [FB (by simpa using hi)]at e1 e2;unfold around at e1;rw [Fa]at e2;rw [Fg]at e1 e2
     cases q:fs[i - xs.length]? with
     | none=>rw [q]at e2;cases e2
     | some j=>
      rw [q]at e1 e2;simp only [Hv,Option.some.injEq]at e1 e2;obtain ⟨hj,hl⟩:=O.fs j (Fk q);obtain ⟨m0,_,hl0⟩:=I.loc
      have e1':X.N[j]?=some x:=by rw [← e1,Fh,Fd hj];rfl
      have e2':σ[j]?=some (some v):=by
       rw [Fh]at e2
       cases z:σ[j]? with
       | none=>rw [z]at e2;cases e2
       | some y=>rw [z]at e2;simp only [Option.getD_some]at e2;rw [e2]
      rw [e1]at hl;have hm:(x,NameKind.free)∈scope.names:=HC hl;have hk:=O.free _ hm rfl;obtain ⟨u,r,l⟩:=hl0 j x v e1' e2' (hk.elim (fun z=> .inr (.inl z)) fun z=> .inr (.inr z));refine ⟨u,r,?_⟩;rcases l with ⟨z,_⟩ | ⟨_,c,hc,cell⟩
      · have z':X.env.scope.names.lookup x=some .local:=z
        rcases hk with hk | hk <;> (rw [z']at hk;cases hk)
      · refine .inr ⟨?_,c,Pn hc _ _ (.inr ⟨rfl,hm⟩),?_⟩
        · exact E7 (env:=X.env) hl
        · obtain ⟨o,ho,hd⟩:=cell
          exact ⟨o,k _ _ ho,hd⟩
 · obtain ⟨v,o,ho,hd⟩:=I.cell x c (hcl x c e)
   exact ⟨v,o,k _ _ ho,hd⟩
 · show upd H D (.lst []) C=none
   rw [A3 (Ne.symm hDC)];exact I.hok.fresh hC
 · obtain ⟨v,q⟩:=I.cell x c (hcl x c e)
   rw [A3 (FD (Ft q.lt hD))];exact I.freeC x c (hcl x c e)
theorem J2w{N':List Str}{σ':St}{H':Hp}{s':Shared}{h2:Heap}{pl:List (Addr×Obj)}(I:Inv X pins σ H s)(hf:∀b∈fp,Km X pins H b)(hC:s.heap.objs.size≤C)(J:Inv (X.blk scope N' ⟨s,H,C,fp⟩) pl σ' H' s')(sb:Heap.SameBut C s'.heap h2):
 Inv X pins σ H' {s' with heap:=h2}:=by
 have u:=J.base;have ne:∀b o,s.heap.get? b=some o→b≠C:=fun b o e=>FD (Ft (Fp e) hC);refine I.call' (ch:=fp) J.os ⟨fun b o e n h1 h2=>(sb.2 b (ne b o e)).trans (u.keep b o e n h1 h2),fun b o e n h1 h2=>?_,u.free,fun b o e hx=>?_,u.tups,u.frzs,u.tbls⟩ (fun a o e=>?_) J.bare fun b hb=>?_
 · obtain ⟨sl,q⟩:=u.slot b o e n h1 h2
   exact ⟨sl,(sb.2 b (ne b o e)).trans q⟩
 · obtain ⟨o',q⟩:=u.there b o e hx
   exact ⟨o',(sb.2 b (ne b o e)).trans q⟩
 · have fr:H' C=none:=J.free
   refine (J.hok a o e).stay (fun b v hc q=>(sb.2 b ?_).trans q) (fun _ q=>q) fun _ _ q=>q;rcases hc with rfl | hc
   · exact A2 e fr
   · exact A2 hc fr
 · obtain ⟨_,h2,h3,h4,h5,h6⟩:=hf b hb
   exact ⟨h4,h2,h5,h6⟩
end
end L2
namespace L2
def J5c(σ σ':St):Prop:=∀(i:Nat) (v:V),σ[i]?=some (some v)→σ'[i]?=some (some v)
def PTs(X:Cx)(ifs:List Expr)(t:TT):Prop:=
 ∀(pins:List (Addr×Obj)) (s:Shared) (σ:St) (H:Hp) (Q:Bool→Hp→Prop),Inv X pins σ H s→t σ H Q→
   wpAny (model X.prog X.w) X.A (forIn ifs true fun c r=>if r=true then do let ok ← isTrue c X.env (eval c X.env);pure (ForInStep.yield ok) else pure (ForInStep.yield r)) (TP X pins σ Q) X.xe s
def Ki:TT:=fun _ H Q=>Q true H
theorem Pp{X:Cx}:PTs X [] Ki:=fun _ _ _ H _ I h=>wpAny_tests_nil ⟨H,I,h⟩
theorem J2x{X:Cx}{c:Expr}{t:TT}(hc:PT X c t):PTs X [c] t:=fun pins s σ H Q I h=>wpAny_tests_one (hc pins s σ H Q I h)
def Cc(σ0:St)(g:Blk→TG)(tt:Blk→TT)(te:Blk→TE)(Q:VK)(J:It)(H1:Hp):Prop:=∀(b:Blk) (D:Addr),H1 D=none→∃W:Nat→Nat→List V→Hp→Prop,(∃m,W 0 m [] (upd H1 D (.lst [])))∧∀i m ys H2,W i m ys H2→H2 D=some (.lst ys)∧
 ((J.stop i H2∧Q (.ref D) H2)∨(J.go i H2∧∀x H3,J.yld i H2 x H3→g b x σ0 H3 fun σ6 H6=>J5c σ0 σ6∧tt b σ6 H6 fun ok H7=>
   if ok=true then te b σ6 H7 fun y H8=>H8 D=some (.lst ys)∧ys.length < sizeLine∧∃m',m' < m∧W (i+1) m' (ys++[y]) (upd H8 D (.lst (ys++[y])))
   else ∃m',m' < m∧W (i+1) m' ys H7))
def Qj(wi:TI)(n:Nat)(fs:List Nat)(g:Blk→TG)(tt:Blk→TT)(te:Blk→TE):TE:=fun σ H Q=>wi σ H (Cc (List.replicate n none++fs.map fun j=>σ.getD j none) g tt te Q)
section
variable {X:Cx} {pins:List (Addr×Obj)} {σ:St} {scope:Scope} {xs:List Str} {fs:List Nat} {elt tg iter:Expr} {ifs:List Expr} {pos:Pos} {wi:TI} {g:Blk→TG} {tt:Blk→TT} {te:Blk→TE}
theorem Oj{H:Hp}{s:Shared}{C:Addr}{h2:Heap}(I:Inv X pins σ H s)(F:Km X pins H C)(sb:Heap.SameBut C s.heap h2):Inv X pins σ H {s with heap:=h2}:=
 I.turned (t':=s.toks) (fun b o hb e=>(sb.2 b hb).trans e) F.1 F.2.1 F.2.2.2.1 F.2.2.2.2.1 F.2.2.2.2.2
theorem Qk{Q:VK}{itv:Value}{s2:Shared}{E:Value→Shared→Prop}{RR:Value→Addr→Result→Shared→Prop}(hc:X.calm=true)(O:Po X.N X.env.scope scope xs fs)
 (hg:∀b,PG (X.blk scope (xs++around X.N fs) b) tg (g b)) (ht:∀b,PTs (X.blk scope (xs++around X.N fs) b) ifs (tt b)) (he:∀b,PE (X.blk scope (xs++around X.N fs) b) elt (te b))
 (h:PIE X pins σ tg (Cc (List.replicate xs.length none++fs.map fun j=>σ.getD j none) g tt te Q) itv s2)
 (hR:∀D C s' m H',s'.heap.Ns C m→Inv X pins σ H' s'→Q (.ref D) H'→Km X pins H' C→RR (.ref D) C (.ok .next) s'):
 wpAny (model X.prog X.w) X.A (newList []) (fun acc s₃=>wpAny (model X.prog X.w) X.A (newFunctionEnv scope X.env.globals (clo X.env scope.names []) [] X.env.qual none .none (some X.env)) (fun cenv s₄=>
  codeAny (model X.prog X.w) X.A (.compStart (.ListComp elt [⟨tg,iter,ifs,0⟩] scope pos) 0 itv acc {cenv with scope:=relabel scope X.env}) (RR acc cenv.locals) s₄) E s₃) E s2:=by
 obtain ⟨it,fp,tn,J,H2,rfl,I2,T,st2,f2,rd⟩:=h
 have hfp:∀b∈fp,b < s2.heap.objs.size:=fun b hb=>by
  obtain ⟨o,e,_⟩:=T.obj _ _ st2 b hb;exact Fp e
 refine wpAny_newObj_type (wpAny_newFunctionEnv O.cell (by intro y hy;simp at hy) (fun h₁ hns₁ hsb₁=>?_) O.kind);dsimp only at hns₁ hsb₁ ⊢;generalize hH2:s2.heap.push {cls:= .type "list",dict:=none,data:= .seq ([]:List Value).toArray}=HH at hns₁ hsb₁ ⊢
 have hC:HH.objs.size=s2.heap.objs.size+1:=by rw [← hH2,RC]
 have hDC:s2.heap.objs.size≠HH.objs.size:=by rw [hC];exact FD (R3 _)
 have hCle:s2.heap.objs.size≤HH.objs.size:=by rw [hC];exact Ry _
 have old:∀b o,s2.heap.get? b=some o→h₁.get? b=some o:=fun b o e=>hsb₁.extBut b o (by rw [hC];exact FD (Nat.lt_succ_of_lt (Fp e))) (Fl _ (hH2▸Fl _ e));have hacc:h₁.get? s2.heap.objs.size=some {cls:= .type "list",data:= .seq #[] 0}:=hsb₁.extBut _ _ hDC (Fl _ (hH2▸FG _ rfl));obtain ⟨W,⟨m0,w0⟩,turn⟩:=rd ⟨s2,H2,HH.objs.size,fp⟩ s2.heap.objs.size I2.fresh;have I3:=J5b (t:=s2.toks+([]:List (Str×Value)).length) I2 O f2 (Ff _) hCle hfp hDC old hacc hns₁;rw [show xs.map (fun _=>(none:Option V))=List.replicate xs.length none from List.map_const' ..]at I3;generalize hX:X.blk scope (xs++around X.N fs) ⟨s2,H2,HH.objs.size,fp⟩=X' at I3
 have stat:∀{H':Hp},(∀b∈fp,H' b=none)→∀b∈fp,Km X' [] H' b:=fun hn b hb=>by
  subst hX;refine ⟨hn b hb,?_,?_,.inl hb,fun x c e=>?_,fun p hp=>absurd hp (by simp)⟩
  · exact (I3.ok.exf b hb).1
  · exact I3.ok.exfs b hb
  · exact (I3.ok.exf b hb).2 x c e
 have fr3:∀b∈fp,upd H2 s2.heap.objs.size (.lst []) b=none:=fun b hb=>by
  rw [A3 (FD (hfp b hb))];exact (f2 b hb).1
 have ccell:∀y c,X.env.cells.lookup y=some c→c≠HH.objs.size:=fun y c e=>by
  obtain ⟨v,q⟩:=I2.cell y c e;exact FD (Ft q.lt hCle)
 have cloc:HH.objs.size≠X.env.locals:=(FD (Ft I2.lt hCle)).symm
 have eP:X'.prog=X.prog:=by rw [← hX]
 have ew:X'.w=X.w:=by rw [← hX]
 have eK:X'.K=X.K:=by rw [← hX]
 have eA:X'.A=X.A:=by rw [← hX]
 have ec:X'.calm=true:=by rw [← hX];exact hc
 have ex:X'.xe=fun _ _=>False:=by rw [← hX]
 have een:X'.env=compEnvC scope (clo X.env scope.names []) HH.objs.size X.env:=by rw [← hX]
 have hg':=hg ⟨s2,H2,HH.objs.size,fp⟩;have ht':=ht ⟨s2,H2,HH.objs.size,fp⟩;have he':=he ⟨s2,H2,HH.objs.size,fp⟩;rw [hX]at hg' ht' he';have st1:tn 0 h₁:=T.keep _ _ _ st2 fun b hb o e=>old b o e
 have loop:∀s₃:Shared,s₃={s2 with heap:=h₁,toks:=s2.toks+([]:List (Str×Value)).length}→
  codeAny (model X.prog X.w) X.A (.compLoop (.ListComp elt [⟨tg,iter,ifs,0⟩] scope pos) 0 (.ref it) (.ref s2.heap.objs.size) (compEnvC scope (clo X.env scope.names []) HH.objs.size X.env))
   (RR (.ref s2.heap.objs.size) HH.objs.size) s₃:=by
  rintro s₃ rfl;refine Pm (fun n s'=>∃i ys H',Inv X' [] (List.replicate xs.length none++fs.map fun j=>σ.getD j none) H' s'∧tn i s'.heap∧(∀b∈fp,H' b=none)∧W i n ys H') ?_ m0 ⟨0,[],_,I3,st1,fr3,w0⟩;rintro n s4 ⟨i,ys,H4,I4,st4,fr4,w4⟩;obtain ⟨hD4,tn4⟩:=turn i n ys H4 w4;rcases tn4 with ⟨stop,qn⟩ | ⟨go,step⟩
  · have td:=T.done X' eP ew eK ec i [] s4 _ H4 (notedBy (model X.prog X.w) X.A (compEnvC scope (clo X.env scope.names []) HH.objs.size X.env) fun e s'=>RR (.ref s2.heap.objs.size) HH.objs.size (.error e) s') I4 (stat fr4) st4 stop
    rw [eA]at td;refine thn td fun r s5 ⟨hr,I5⟩=>?_;subst hr;obtain ⟨m5,hn5,_⟩:=I5.loc;rw [een]at hn5
    have fr5:H4 HH.objs.size=none:=by have:=I5.free;rw [een]at this;exact this
    rw [← hX]at I5;exact hR _ _ _ m5 H4 hn5 (J2w I2 f2 hCle I5 (Heap.SameBut.refl ..)) qn (I2.fpOk hCle fr5)
  · have ti:=T.item X' eP ew eK ec i [] s4 _ H4 (notedBy (model X.prog X.w) X.A (compEnvC scope (clo X.env scope.names []) HH.objs.size X.env) fun e s'=>RR (.ref s2.heap.objs.size) HH.objs.size (.error e) s') I4 (stat fr4) st4 go
    rw [eA]at ti;refine thn ti fun r s5 ⟨u,hr,h5⟩=>?_;subst hr;refine thn h5 fun _ s6 hq_=>?_;obtain ⟨x,H6,I6,r6,y6,st6,fr6⟩:=hq_;have I6':=I6.pinned (stat fr6) (T.obj _ _ st6);have g1:=hg' _ s6 _ H6 x u _ I6' r6 (step x H6 y6);rw [eP,ew,eA,een,ex]at g1;refine Hd g1 (fun _ s7 hq_=>?_) fun _ _ z=>z.elim;obtain ⟨σ7,H7,I7,kp7,q7⟩:=hq_;have t1:=ht' _ s7 σ7 H7 _ I7 q7;rw [eP,ew,eA,een,ex]at t1
    have back:∀{H9:Hp} {s9:Shared},Inv X' ([]++Lk fp s6.heap) σ7 H9 s9→Inv X' [] (List.replicate xs.length none++fs.map fun j=>σ.getD j none) H9 s9∧tn (i+1) s9.heap∧∀b∈fp,H9 b=none:=fun {H9 s9} I9=>by
     refine ⟨I9.unpinned.weak ?_ kp7,T.keep _ _ _ st6 fun b hb o e=>(I9.pin (b,o) (Fs _ (Fs _ (G4 hb e)))).1,fun b hb=>?_⟩
     · rw [I9.len,I4.len]
     · obtain ⟨o,e,d⟩:=T.obj _ _ st6 b hb
       exact (I9.pin (b,o) (Fs _ (Fs _ (G4 hb e)))).2.1
    refine Hd t1 (fun ok s8 ⟨H8,I8,q8⟩=>?_) fun _ _ z=>z.elim
    cases ok with
    | false=>
     rw [if_neg Fu]at q8 ⊢;obtain ⟨m',hm,w8⟩:=q8;obtain ⟨b1,b2,b3⟩:=back I8;exact ⟨m',hm,i+1,ys,H8,b1,b2,b3,w8⟩
    | true=>
     rw [if_pos rfl]at q8 ⊢;have e1:=he' _ s8 σ7 H8 _ I8 q8;rw [eP,ew,eA,een,ex]at e1;refine Hd e1 (fun uy s9 hq_=>?_) fun _ _ z=>z.elim;obtain ⟨y,H9,I9,r9,hD9,hz,m',hm,w9⟩:=hq_;have a1:=Dg (X:=X') (pins:=[]++Lk fp s6.heap) (s:=s9) (σ:=σ7) (H:=H9) (x:= .ref s2.heap.objs.size) (xs:=[y]) (v:= .ref s2.heap.objs.size) (us:=[uy]) (Q:=fun _ H'=>H'=upd H9 s2.heap.objs.size (.lst (ys++[y]))) I9 rfl (.cons r9 .nil) ⟨_,ys,y,rfl,rfl,hD9,hz,rfl⟩;rw [eP,ew,eA,ex]at a1;refine Hd a1 (fun _ s10 hq_=>?_) fun _ _ z=>z.elim;obtain ⟨_,H10,I10,_,e10⟩:=hq_;subst e10;obtain ⟨b1,b2,b3⟩:=back I10;exact ⟨m',hm,i+1,_,_,b1,b2,b3,w9⟩
 exact codeAny_compStart_list (loop _ rfl) (T.self _ 0 _ _ _ st1 (loop _ rfl))
theorem Ql(hc:X.calm=true)(hok:Dy X.N X.env.scope scope xs fs=true)(hi:PI X tg iter wi)
 (hg:∀b,PG (X.blk scope (xs++around X.N fs) b) tg (g b)) (ht:∀b,PTs (X.blk scope (xs++around X.N fs) b) ifs (tt b)) (he:∀b,PE (X.blk scope (xs++around X.N fs) b) elt (te b))
 (hs:∀x,foldedSetIterable iter X.env x=pure x:=by intro _;rfl):
 PE X (.ListComp elt [⟨tg,iter,ifs,0⟩] scope pos) (Qj wi xs.length fs g tt te):=by
 intro pins s σ H Q I h;have O:=Ec hok;rw [eval_ListComp];refine wpAny_comprehension_free (use:=none) rfl hs (Mf fun y hy hf=>I.ok.has _ (O.free y hy hf)) O.kind O.names (thn (hi pins s σ H _ I h) fun v s1 h1=>thn h1 fun itv s2 h2=>?_)
 exact Qk (RR:=fun acc C=>compPost (model X.prog X.w) X.A X.xe none (EP X pins σ Q) acc C) hc O hg ht he h2 fun D C s' m H' hn I' q F=>⟨m,hn,fun h2 sb=>⟨.ref D,H',Oj I' F sb,rfl,q⟩⟩
theorem V2{y:Str}{py:Pos}{i:Nat}(hN:X.N.Nodup)(hy:X.N[i]?=some y)(hyl:X.env.kindOf y=some .local)(hc:X.calm=true)(hok:Dy X.N X.env.scope scope xs fs=true)(hi:PI X tg iter wi)
 (hg:∀b,PG (X.blk scope (xs++around X.N fs) b) tg (g b)) (ht:∀b,PTs (X.blk scope (xs++around X.N fs) b) ifs (tt b)) (he:∀b,PE (X.blk scope (xs++around X.N fs) b) elt (te b)) {spos:Pos}
 (hsw:swapsWith (.ListComp elt [⟨tg,iter,ifs,0⟩] scope pos) (some (.Name y py)) spos.line X.env=pure true:=by rfl)
 (hs:∀x,foldedSetIterable iter X.env x=pure x:=by intro _;rfl):
 PS X (.Assign [.Name y py] (.ListComp elt [⟨tg,iter,ifs,0⟩] scope pos) spos) (Wh (Qj wi xs.length fs g tt te) (Ce i)):=by
 intro pins s σ H D I h;have O:=Ec hok;rw [exec_Assign_Name_used _ _ _ _ hsw];refine FJ (wpAny_standAt (FJ ?_));show wpAny _ X.A (do let _ ← comprehension (.ListComp elt [⟨tg,iter,ifs,0⟩] scope pos) scope X.env _ (newList []) false (eval iter X.env) (some (assign (.Name y py) X.env))) _ _ s
 refine FJ (Hd (wpAny_comprehension_free (use:=some (assign (.Name y py) X.env)) (Q:=fun _ s'=>SP X pins D .next s') rfl hs (Mf fun y hy hf=>I.ok.has _ (O.free y hy hf)) O.kind O.names
  (thn (hi pins s σ H _ I h) fun v s1 h1=>thn h1 fun itv s2 h2=>?_)) (fun _ s' hq=>FU (FU hq)) fun _ _ e=>e)
 refine Qk (RR:=fun acc C=>compPost (model X.prog X.w) X.A X.xe (some (assign (.Name y py) X.env)) (fun _ s'=>SP X pins D .next s') acc C) hc O hg ht he h2 fun D' C s' m H' hn I0 q0 F=>?_;show wpAny _ X.A (assign (.Name y py) X.env (.ref D')) _ _ _;refine wpAny_assign_Name (O8 I0 hN hy (.inl hyl) (v:= .ref D') rfl (fun s3 I3 hsb=>?_) (.inr hyl));obtain ⟨a,sb3,ha⟩:=hsb
 have haC:C≠a:=by
  rcases ha with rfl | ha
  · exact F.2.1
  · exact (F.2.2.2.2.1 y a ha).symm
 exact ⟨m,hn.sameBut sb3 haC,fun h4 sb4=>⟨_,H',Oj I3 F sb4,q0⟩⟩
end
end L2
namespace L2
def Its(z:Str):It:=⟨fun i _=>i < z.cps.size,fun i H x H'=>H'=H∧∃c,z.cps[i]?=some c∧x= .str ⟨#[c]⟩,fun i _=>z.cps.size≤i⟩
def J6u(tl:TE):TI:=fun σ H R=>tl σ H fun x H1=>∃z,x= .str z∧R (Its z) H1
section
variable {P:Program} {w:World} {K:PySem.W.Frag} {tg:Expr}
theorem J05(ty:String)(hty:ty="str_ascii_iterator"∨ty="str_iterator")(z:Str)(t:Tok)(it:Addr):T7 P w K tg (Its z) [it] it (fun i h=>i≤z.cps.size∧h.IsStrIter it ty z t i) where
 mem:=by simp
 obj:=fun i h st b hb=>by
  have e:b=it:=by simpa using hb
  subst e;obtain ⟨o,e,c,d⟩:=st.2;exact ⟨o,e,fun v z=>by rw [d]at z;cases z⟩
 keep:=fun i h h' st k=>⟨st.1,by obtain ⟨o,e,r⟩:=st.2;exact ⟨o,k it (by simp) o e,r⟩⟩
 item:=by
  intro X hP hw hK hc i pins s σ H E I hf st hg;subst hP hw hK;obtain ⟨f0,f1,f2,f3,f4,f5⟩:=hf it (by simp)
  have W:Walks X.prog X.w X.A it [it] [it] z.cps.size (SignAt z) (fun i h=>h.IsStrIter it ty z t i):=by
   rcases hty with rfl | rfl
   · exact Walks.strAscii (I.ok.hd hc) it z t
   · exact Walks.strWide (I.ok.hd hc) it z t
  refine W.item i s _ _ hg st.2 fun v h' tk hv st' kk=>?_;obtain ⟨c,u,hcc,rfl⟩:=hv;have I1:Inv X pins σ H {s with heap:=h',toks:=tk}:=I.turned (fun b o hb e=>kk b o (by simpa using hb) e) f0 f1 f3 f4 f5;obtain ⟨o,e,cc,d⟩:=id st'
  refine ⟨_,rfl,U7 (s:={s with heap:=h',toks:=tk}) (n:=ty) e cc d (by rcases hty with rfl | rfl <;> decide) ⟨.str ⟨#[c]⟩,H,I1,⟨u,rfl⟩,⟨rfl,c,hcc,rfl⟩,⟨hg,st'⟩,fun b hb=>(hf b hb).1⟩⟩
 done:=by
   intro X hP hw hK hc i pins s σ H E I hf st hg;subst hP hw hK;obtain ⟨f0,f1,f2,f3,f4,f5⟩:=hf it (by simp)
   have W:Walks X.prog X.w X.A it [it] [it] z.cps.size (SignAt z) (fun i h=>h.IsStrIter it ty z t i):=by
    rcases hty with rfl | rfl
    · exact Walks.strAscii (I.ok.hd hc) it z t
    · exact Walks.strWide (I.ok.hd hc) it z t
   have hi:i=z.cps.size:=Nat.le_antisymm st.1 hg;subst hi
   exact W.done s _ _ st.2 fun h' tk kk=>⟨rfl,I.turned (fun b o hb e=>kk b o (by simpa using hb) e) f0 f1 f3 f4 f5⟩
 self:=fun _ _ _ _ _ st h=>by
  rcases hty with rfl | rfl
  · exact wpAny_pyIter_striter_ascii st.2 h
  · exact wpAny_pyIter_striter_wide st.2 h
end
section
variable {X:Cx} {tg:Expr}
theorem J5d{l:Expr}{tl:TE}(hl:PE X l tl):PI X tg l (J6u tl):=by
 intro pins s σ H R I h;refine thn (hl pins s σ H _ I h) fun v s1 hq_=>?_;obtain ⟨x,H1,I1,r1,q1⟩:=hq_;obtain ⟨z,e,q⟩:=q1;subst e;obtain ⟨t,rfl⟩:=r1
 have fin:∀ty,(ty="str_ascii_iterator"∨ty="str_iterator")→PIE X pins σ tg R (.ref s1.heap.objs.size) {s1 with heap:=s1.heap.push {cls:= .type ty,data:= .fields #[.str z t,.int 0 0]}}:=fun ty hty=>by
  refine ⟨s1.heap.objs.size,[s1.heap.objs.size],_,_,H1,rfl,I1.kept (t':=s1.toks) fun b o e=>Fl _ e,J05 ty hty z t _,⟨Fq _,_,FG _ rfl,rfl,rfl⟩,fun b hb=>?_,q⟩
  have e:b=s1.heap.objs.size:=by simpa using hb
  subst e;exact I1.fpOk (Ff _) I1.fresh
 cases ha:z.cps.all (· < 128)
 · exact wpAny_pyIter_wide ha (fin _ (.inr rfl))
 · exact wpAny_pyIter_ascii ha (fin _ (.inl rfl))
def J7y:V→Option Int→Option Int→Hp→VK→Prop:=fun x lo hi H Q=>∃z,x= .str z∧z.length≤sizeLine∧Q (.str (Txt.slice z lo hi)) H
theorem Nk:∀{ys:List Str} {us:List Value},B3 (ys.map V.str) us→StrsAre us ys
 | [],_,r=>by rw [List.map_nil]at r;cases r;exact .nil
 | y::ys,us,r=>by
  rw [List.map_cons]at r
  cases r with
  | cons r1 r2=>
   obtain ⟨t,e⟩:=r1;subst e;exact .cons y t (Nk r2)
def J4c(K:PySem.W.Frag):V→List V→Hp→VK→Prop:=fun x vs H Q=>∃z p ys,x= .str z∧vs=[.ref p]∧SqL K H p (ys.map V.str)∧(ys.map (·.length)).sum+ys.length * z.length≤16777216∧Q (.str (Txt.join z ys)) H
theorem Iw:MtR X "str.join" (J4c X.K):=by
 intro pins s σ H x vs v us Q I rx rv h;obtain ⟨z,p,ys,rfl,rfl,hp,hw,q⟩:=h;obtain ⟨t,rfl⟩:=rx;obtain ⟨u,rfl,ru⟩:=rv.one;cases ru;obtain ⟨its,r,pl,hz⟩:=I.list hp
 exact join_list pl.isList (by simpa using Nk r) hw fun t' k=>⟨.str _,H,I.tok k,⟨t',rfl⟩,q⟩
def J6v:V→List V→Hp→VK→Prop:=fun x vs H Q=>∃z y,x= .str z∧vs=[.str y]∧Q (.int (Txt.find z y)) H
theorem Ol:∀(l:List (Str×Tok)),B3 ((l.map (·.1)).map V.str) (strValues l)
 | []=> .nil
 | (x,t)::r=> .cons ⟨t,rfl⟩ (Ol r)
def J06:V→List V→Hp→VK→Prop:=fun x vs H Q=>∃z y,x= .str z∧vs=[.str y]∧(y.length==0)=false∧z.length+2≤sizeLine∧∀p,H p=none→Q (.ref p) (upd H p (.lst ((Txt.split z y).map V.str)))
theorem J07:MtR X "str.split" J06:=by
 intro pins s σ H x vs v us Q I rx rv h;obtain ⟨x,y,rfl,rfl,hy,hsz,q⟩:=h;obtain ⟨t,rfl⟩:=rx;obtain ⟨u,rfl,ru⟩:=rv.one;obtain ⟨u,rfl⟩:=ru
 have hn:(Builtin.Str.partsBetween x (Builtin.Str.occurrences x y 0 x.length (x.length+1)) y.length).length≤sizeLine:=by
  have e1:=StrLaws.occ_length_le x y 0 x.length (x.length+1);rw [length_partsBetween];omega
 have fin:∀(l:List (Str×Tok)) (k:Nat),l.map (·.1)=Txt.split x y→EP X pins σ Q (.ref s.heap.objs.size) {s with heap:=s.heap.push {cls:= .type "list",data:= .seq (strValues l).toArray},toks:=k}:=fun l k e=>by
  refine ⟨.ref s.heap.objs.size,_,I.laid (t':=k) (fun b o e=>Fl _ e) (Ff _) ?_,rfl,q _ I.fresh⟩;refine ⟨?_,strValues l,0,e▸Ol l,FG _ rfl⟩;rw [Fa];exact FA (split_le x y) hsz
 cases h1:(decide (x.length < y.length) || decide (Builtin.Str.strKind x < Builtin.Str.strKind y))
 · cases hf:(Builtin.Str.occurrences x y 0 x.length (x.length+1)).isEmpty
   · refine HL F.slot_str_split (RI _ _ _) F.entry_str_split (F.args_str_split_2 _ _) (meets_str_split_sep x y t u h1 hy hf (by omega) hn) ?_
     show wants _ _ _ {s with toks:=_,heap:=s.heap.push {cls:= .type "list",data:= .seq (strsFrom s.toks (Builtin.Str.partsBetween x (Builtin.Str.occurrences x y 0 x.length (x.length+1)) y.length)).toArray}};rw [strsFrom_eq];exact fin (numbered s.toks _) _ ((numbered_texts _ _).trans ((if_neg (RD h1)).trans (if_neg (RD hf))).symm)
   · exact HL F.slot_str_split (RI _ _ _) F.entry_str_split (F.args_str_split_2 _ _) (meets_str_split_not_found x y t u h1 hy hf)
      (fin [(x,t)] s.toks ((if_neg (RD h1)).trans (if_pos hf)).symm)
 · exact HL F.slot_str_split (RI _ _ _) F.entry_str_split (F.args_str_split_2 _ _) (meets_str_split_cannot_occur x y t u h1)
    (fin [(x,t)] s.toks (if_pos h1).symm)
theorem O6:Eh X (.type "int") (fun xs H Q=>∃z n,xs=[.str z]∧PySem.intText? z=some n∧z.length≤640∧Q (.int n) H):=by
 intro pins s σ H xs us Q I r h;obtain ⟨z,n,rfl,hn,hl,q⟩:=h;obtain ⟨u,rfl,t,rfl⟩:=Gv r;exact PySem.W.KIN.call_text hn hl ⟨.int n,H,I.tok _,⟨_,rfl⟩,q⟩
def J6w:R2:=fun x y H Q=>∃z n,x= .str z∧y= .int n∧MulOk z n∧Q (.str (Txt.mul z n)) H
def J6x(K:PySem.W.Frag):List V→Hp→VK→Prop:=fun xs H Q=>∃(p:Addr) (bs:List Bool),xs=[.ref p]∧SqL K H p (bs.map V.bl)∧Q (.bl (bs.all id)) H
theorem J08(hc:X.calm=true):Eh X (.builtin "all") (J6x X.K):=by
 intro pins s σ H xs us Q I r h;obtain ⟨p,bs,rfl,hp,q⟩:=h;obtain ⟨u,rfl,ru⟩:=Gv r;cases ru;obtain ⟨its,r,pl,hz⟩:=I.list hp
 have hlt:p < s.heap.objs.size:=by obtain ⟨o,n,e,_⟩:=pl;exact Fp e
 refine call_all_walk (RN pl.isList ⟨s.heap.objs.size,_,_,_,_,_,fun i=>bs.getD i true,rfl,Walks.list (show X.A.in1.handled=none from I.ok.hd hc) s.heap.objs.size p (FD hlt) its.toArray,⟨⟨_,FG _ rfl,rfl,rfl⟩,pl.isList.push _⟩,?_,fun h' tk kk=>?_⟩)
 · intro i v s' Q' E' hP hQ'
   have hP:its.toArray[i]?=some v:=hP;have hlen:=r.length;rw [Fa]at hlen
   have hi:i < bs.length:=by
    have:=(Array.getElem?_eq_some_iff.mp hP).1;rw [Fm]at this;omega
   obtain ⟨u,hu,ru⟩:=r.get (i:=i) (x:=V.bl (bs[i])) (by simp [hi])
   have e:u=v:=by
    have:its[i]?=some v:=by simpa using hP
    rw [hu]at this;exact FN this
   subst e;cases ru;dsimp only at hQ';rw [Fh,Fd hi]at hQ';exact FU hQ'
 · refine ⟨.bl _,H,I.kept (t':=tk) fun b o e=>kk b o ?_ (Fl _ e),rfl,?_⟩
   · simpa using FD (Fp e)
   · have hlen:=r.length
     rw [Fa]at hlen
     have:((List.range its.toArray.size).all fun i=>bs.getD i true)=bs.all id:=by
      rw [Fm,← hlen];rw [R7,Hj,Hj];constructor
      · intro h x hx
        obtain ⟨i,hi,rfl⟩:=List.mem_iff_getElem.mp hx;have:=h i (by simpa using hi)
        simpa [Fh,Fd hi] using this
      · intro h i hi
        have hi:i < bs.length:=by simpa using hi
        rw [Fh,Fd hi];exact h _ (HM hi)
     rw [this];exact q
end
abbrev TJ:=Str→St→Hp→(Str→Hp→Prop)→Prop
def J7z:TJ:=fun acc _ H Q=>Q acc H
def J6y(te:TE)(tr:TJ):TJ:=fun acc σ H Q=>te σ H fun x H1=>∃y,x= .str y∧(acc++y).length≤sizeLine∧tr (acc++y) σ H1 Q
def J6z(t:TJ):TE:=fun σ H Q=>t Str.empty σ H fun out H1=>out.length≤sizeLine∧Q (.str out) H1
def J80(te:TE):TE:=fun σ H Q=>te σ H fun x H1=>(∃z,x= .str z∧z.length≤sizeLine∧Q (.str z) H1)∨∃i,x= .int i∧i.natAbs.log2 < 1920∧Q (.str (toString i)) H1
def J70(te:TE):TE:=fun σ H Q=>te σ H fun x H1=>∃z,x= .str z∧(PySem.reprText z).length≤sizeLine∧Q (.str (PySem.reprText z)) H1
end L2
namespace L2
abbrev Tp(wi:TI)(fs:List Nat)(te:Blk→TE):TE:=Qj wi 1 fs (fun _=>Ce 0) (fun _=>Ki) te
section
variable {X:Cx} {scope:Scope} {x:Str} {px:Pos} {fs:List Nat} {elt iter:Expr} {pos:Pos} {wi:TI} {te:Blk→TE}
theorem Tq(hok:Dy X.N X.env.scope scope [x] fs=true)(b:Blk):PG (X.blk scope ([x]++around X.N fs) b) (.Name x px) (Ce 0):=
 Bj (Ec hok).nd rfl (.inl (Hx ((Ec hok).own x (by simp)))) (.inr (Hx ((Ec hok).own x (by simp))))
theorem Ew(x:Str)(fs:List Nat)(hc:X.calm=true)(hok:Dy X.N X.env.scope scope [x] fs=true)(hi:PI X (.Name x px) iter wi)(he:∀b,PE (X.blk scope ([x]++around X.N fs) b) elt (te b))
 (hs:∀x,foldedSetIterable iter X.env x=pure x:=by intro _;rfl):PE X (.ListComp elt [⟨.Name x px,iter,[],0⟩] scope pos) (Tp wi fs te):=
 Ql (xs:=[x]) (g:=fun _=>Ce 0) (tt:=fun _=>Ki) hc hok hi (Tq hok) (fun _=>Pp) he hs
theorem Qm{y:Str}{py:Pos}{i:Nat}{spos:Pos}(x:Str)(fs:List Nat)(hN:X.N.Nodup)(hy:X.N[i]?=some y)(hyl:X.env.kindOf y=some .local)(hc:X.calm=true)(hok:Dy X.N X.env.scope scope [x] fs=true)(hi:PI X (.Name x px) iter wi)(he:∀b,PE (X.blk scope ([x]++around X.N fs) b) elt (te b))
 (hsw:swapsWith (.ListComp elt [⟨.Name x px,iter,[],0⟩] scope pos) (some (.Name y py)) spos.line X.env=pure true:=by rfl)
 (hs:∀x,foldedSetIterable iter X.env x=pure x:=by intro _;rfl):PS X (.Assign [.Name y py] (.ListComp elt [⟨.Name x px,iter,[],0⟩] scope pos) spos) (Wh (Tp wi fs te) (Ce i)):=
 V2 (xs:=[x]) (g:=fun _=>Ce 0) (tt:=fun _=>Ki) hN hy hyl hc hok hi (Tq hok) (fun _=>Pp) he hsw hs
end
theorem J4d{x:Option V}{r:St}:J5c (none::r) (x::r):=fun i v e=>by
 cases i with
 | zero=>cases e
 | succ i=>exact e
section
variable {K:PySem.W.Frag} {tail:St} {te:Blk→TE} {Q:VK} {H1:Hp}
def Qn(D:Addr)(n i:Nat)(ys:List V)(Pv:Nat→List V→Hp→Prop):VK:=fun y H4=>H4 D=some (.lst ys)∧ys.length < sizeLine∧∃m',m' < n - i∧(m'=n - (i+1)∧i+1≤n∧Pv (i+1) (ys++[y]) (upd H4 D (.lst (ys++[y]))))
theorem Ii{D:Addr}{n i:Nat}{ys:List V}{Pv:Nat→List V→Hp→Prop}{y:V}{H4:Hp}(h1:H4 D=some (.lst ys))(h2:ys.length < sizeLine)(h3:i < n)(h4:Pv (i+1) (ys++[y]) (upd H4 D (.lst (ys++[y])))):Qn D n i ys Pv y H4:=
 ⟨h1,h2,n - (i+1),by omega,rfl,h3,h4⟩
theorem L8{J:It}(n:Nat)
 (h:∀(b:Blk) (D:Addr),H1 D=none→∃Pv:Nat→List V→Hp→Prop,Pv 0 [] (upd H1 D (.lst []))∧(∀i ys H,Pv i ys H→H D=some (.lst ys))∧(∀ys H,Pv n ys H→J.stop n H∧Q (.ref D) H)∧
  ∀i ys H,i < n→Pv i ys H→J.go i H∧∀x H3,J.yld i H x H3→te b (some x::tail) H3 (Qn D n i ys Pv)):Cc (none::tail) (fun _=>Ce 0) (fun _=>Ki) te Q J H1:=by
 intro b D hD;obtain ⟨Pv,p0,p1,p2,p3⟩:=h b D hD;refine ⟨fun i m ys H=>m=n - i∧i≤n∧Pv i ys H,⟨n,rfl,Fq _,p0⟩,?_⟩;rintro i m ys H ⟨rfl,hi,p⟩;refine ⟨p1 i ys H p,?_⟩
 by_cases hlt:i < n
 · obtain ⟨go,st⟩:=p3 i ys H hlt p
   refine .inr ⟨go,fun x H3 y=>⟨J4d,?_⟩⟩;exact st x H3 y
 · have e:i=n:=by omega
   subst e;exact .inl (p2 ys H p)
theorem D4{D:Addr}{o:HO}(h:H1 D=none):A9 H1 (upd H1 D o):=fun b u e=>by rw [A3 (A2 e h)];exact e
theorem Tr{z:Str}(f:Nat→V)(hz:z.cps.size≤sizeLine)(he:∀b c H Q',c∈z.cps.toList→A9 H1 H→Q' (f c) H→te b (some (.str ⟨#[c]⟩)::tail) H Q')
 (q:∀D,H1 D=none→Q (.ref D) (upd H1 D (.lst (z.cps.toList.map f)))):Cc (none::tail) (fun _=>Ce 0) (fun _=>Ki) te Q (Its z) H1:=by
 refine L8 z.cps.size (fun b D hD=>⟨fun i ys H=>i≤z.cps.size∧ys=(z.cps.toList.take i).map f∧H=upd H1 D (.lst ys),⟨Fq _,rfl,rfl⟩,?_,?_,?_⟩)
 · rintro i ys H ⟨hi,rfl,rfl⟩
   exact A5
 · rintro ys H ⟨_,rfl,rfl⟩
   refine ⟨Ff _,?_⟩;have e:z.cps.toList.take z.cps.size=z.cps.toList:=FS (by simp);rw [e];exact q D hD
 · rintro i ys H hi ⟨_,rfl,rfl⟩
   refine ⟨hi,fun x H3 ⟨e3,c,hc,ex⟩=>?_⟩;subst e3 ex
   have hc':z.cps.toList[i]?=some c:=by simpa using hc
   refine he b c _ _ (Fk hc') (D4 hD) (Ii A5 (by rw [Fa,He,FH];omega) hi ⟨hi,?_,?_⟩)
   · rw [Hy,hc'];simp
   · funext a;by_cases ha:a=D <;> simp [upd,ha]
theorem G9{a:Addr}{xs:List V}(f:V→V)(hS:SqL K H1 a xs)(hz:xs.length≤sizeLine)(he:∀b x H Q',x∈xs→A9 H1 H→Q' (f x) H→te b (some x::tail) H Q')
 (q:∀D,H1 D=none→Q (.ref D) (upd H1 D (.lst (xs.map f)))):Cc (none::tail) (fun _=>Ce 0) (fun _=>Ki) te Q (Itl K a) H1:=by
 refine L8 xs.length (fun b D hD=>⟨fun i ys H=>i≤xs.length∧ys=(xs.take i).map f∧H=upd H1 D (.lst ys),⟨Fq _,rfl,rfl⟩,?_,?_,?_⟩)
 · rintro i ys H ⟨hi,rfl,rfl⟩
   exact A5
 · rintro ys H ⟨_,rfl,rfl⟩
   refine ⟨⟨xs,(D4 hD).seq hS,Ff _⟩,?_⟩;rw [FV];exact q D hD
 · rintro i ys H hi ⟨_,rfl,rfl⟩
   refine ⟨⟨xs,xs[i],(D4 hD).seq hS,by simp [hi]⟩,fun x H3 ⟨e3,ex⟩=>?_⟩;subst e3;have hc':=ex xs ((D4 hD).seq hS);refine he b x _ _ (Fk hc') (D4 hD) (Ii A5 (by rw [Fa,He];omega) hi ⟨hi,?_,?_⟩)
   · rw [Hy,hc'];simp
   · funext a;by_cases ha:a=D <;> simp [upd,ha]
end
section
variable {σ:St} {H:Hp} {Q:VK} {D:Gy} {K:PySem.W.Frag}
theorem V3{wi:TI}{fs:List Nat}{te:Blk→TE}:Tp wi fs te σ H Q=wi σ H (Cc (none::fs.map fun j=>σ.getD j none) (fun _=>Ce 0) (fun _=>Ki) te Q):=rfl
theorem V4{tl:TE}{R:It→Hp→Prop}:J6u tl σ H R=tl σ H fun x H1=>∃z,x= .str z∧R (Its z) H1:=rfl
theorem J4e{r:V→Option Int→Option Int→Hp→VK→Prop}{te:TE}{tl th:TO}:tSl r te tl th σ H Q=te σ H fun x H1=>tl σ H1 fun l H2=>th σ H2 fun u H3=>r x l u H3 Q:=rfl
theorem Om{QO:Option Int→Hp→Prop}:Uc σ H QO=QO none H:=rfl
theorem V5{t:TE}{QO:Option Int→Hp→Prop}:J3y t σ H QO=t σ H fun x H1=>∃i,x= .int i∧QO (some i) H1:=rfl
theorem J09{x:V}{lo hi:Option Int}:J7y x lo hi H Q=∃z,x= .str z∧z.length≤sizeLine∧Q (.str (Txt.slice z lo hi)) H:=rfl
theorem J0a{x:V}{lo hi:Option Int}:J6i K x lo hi H Q=∃a xs,x= .ref a∧SqL K H a xs∧∀p,H p=none→Q (.ref p) (upd H p (.lst (Kz xs lo hi))):=rfl
theorem J4f{T:String}{r:V→List V→Hp→VK→Prop}{to:TE}{t:TA}:tBM K T r to t σ H Q=to σ H fun x H1=>tyV K T x H1∧t σ H1 fun xs H2=>r x xs H2 Q:=rfl
theorem J0b{T:String}{r:V→List V→Hp→VK→Prop}{to:TE}:J6j K T r to σ H Q=to σ H fun x H1=>tyV K T x H1∧r x [] H1 Q:=rfl
theorem V6{z:Str}:tyV K "str" (.str z) H=True:=eq_true rfl
theorem V7{x:V}{vs:List V}:J4c K x vs H Q=∃z p ys,x= .str z∧vs=[.ref p]∧SqL K H p (ys.map V.str)∧(ys.map (·.length)).sum+ys.length * z.length≤16777216∧Q (.str (Txt.join z ys)) H:=rfl
theorem V8{x:V}{vs:List V}:J6v x vs H Q=∃z y,x= .str z∧vs=[.str y]∧Q (.int (Txt.find z y)) H:=rfl
theorem Qo{x:V}{vs:List V}:J06 x vs H Q=∃z y,x= .str z∧vs=[.str y]∧(y.length==0)=false∧z.length+2≤sizeLine∧∀p,H p=none→Q (.ref p) (upd H p (.lst ((Txt.split z y).map V.str))):=rfl
theorem J0c{xs:List V}:J6x K xs H Q=∃(p:Addr) (bs:List Bool),xs=[.ref p]∧SqL K H p (bs.map V.bl)∧Q (.bl (bs.all id)) H:=rfl
theorem V9{x y:V}:J6w x y H Q=∃z n,x= .str z∧y= .int n∧MulOk z n∧Q (.str (Txt.mul z n)) H:=rfl
theorem Va{acc:Str}{QS:Str→Hp→Prop}:J7z acc σ H QS=QS acc H:=rfl
theorem Qp{te:TE}{tr:TJ}{acc:Str}{QS:Str→Hp→Prop}:J6y te tr acc σ H QS=te σ H fun x H1=>∃y,x= .str y∧(acc++y).length≤sizeLine∧tr (acc++y) σ H1 QS:=rfl
theorem Vb{t:TJ}:J6z t σ H Q=t Str.empty σ H fun out H1=>out.length≤sizeLine∧Q (.str out) H1:=rfl
theorem Vc{te:TE}:J70 te σ H Q=te σ H fun x H1=>∃z,x= .str z∧(PySem.reprText z).length≤sizeLine∧Q (.str (PySem.reprText z)) H1:=rfl
theorem J0d{te:TE}:J80 te σ H Q=te σ H fun x H1=>(∃z,x= .str z∧z.length≤sizeLine∧Q (.str z) H1)∨∃i,x= .int i∧i.natAbs.log2 < 1920∧Q (.str (toString i)) H1:=rfl
theorem Qq:Y9 σ H Q=∀p,H p=none→Q (.ref p) (upd H p (.dK [])):=rfl
theorem Ts{z:Str}{i:Int}{c:Nat}(hz:z.length≤sizeLine)(e:atI z.cps.toList i=some c)(q:Q (.str ⟨#[c]⟩) H):J6h (.str z) (.int i) H Q:=⟨z,i,c,rfl,rfl,hz,e,q⟩
theorem J4g{X:Cx}{scope:Scope}{N':List Str}{b:Blk}:(X.blk scope N' b).K=X.K:=rfl
end
section
variable {X:Cx} {x:Str} {pos:Pos}
theorem Iy{i:Int}(hg:Gl X x)(hm:∃t,X.mg x=some (.int i t))(hd:(x==("__debug__":Str))=false:=by decide):PE X (.Name x pos) (tC (.int i)):=by
 obtain ⟨t,hm⟩:=hm;exact Kv hg hm ⟨t,rfl⟩ hd
theorem Ms{z:Str}(hg:Gl X x)(hm:∃t,X.mg x=some (.str z t))(hd:(x==("__debug__":Str))=false:=by decide):PE X (.Name x pos) (tC (.str z)):=by
 obtain ⟨t,hm⟩:=hm;exact Kv hg hm ⟨t,rfl⟩ hd
end
theorem Dz:sizeLine=16777216:=by decide
theorem Ca{a b:Str}:(a++b).length=a.length+b.length:=strLen_append a b
theorem Vd{c:Nat}:(⟨#[c]⟩:Str).length=1:=rfl
theorem Cf{z:Str}:z.cps.toList.length=z.length:=by simp [Str.length]
theorem Ex{a b:Str}:(a++b).cps.toList=a.cps.toList++b.cps.toList:=by
 show (a.cps++b.cps).toList=_;simp
theorem Wx{K:PySem.W.Frag}{H:Hp}{a:Addr}{ns:List Int}{R:List Int→Prop}(h:SqL K H a (ns.map V.int))(hl:ns.length≤63)(q:R ns):∃x:List Int,SqL K H a (x.map V.int)∧x.length≤63∧R x:=⟨ns,h,hl,q⟩
def J0e(z y:Str):Bool:=!(Builtin.Str.occurrences z y 0 z.length 1).isEmpty
theorem Qr{z:Str}{c:Nat}:J0e z ⟨#[c]⟩=decide (c∈z.cps.toList):=StrLaws.found_one z c
def J71:R2:=fun x y H Q=>∃i j,x= .str i∧y= .str j∧Q (.bl (J0e j i)) H
def J2y:R2:=fun x y H Q=>∃i j,x= .str i∧y= .str j∧Q (.bl (!J0e j i)) H
theorem J0f{X:Cx}:OpR X (compareOp .In) J71:=Wl
theorem J0g{x y:V}{H:Hp}{Q:VK}:J71 x y H Q=∃i j,x= .str i∧y= .str j∧Q (.bl (J0e j i)) H:=rfl
theorem On{x y:V}{H:Hp}{Q:VK}:J2y x y H Q=∃i j,x= .str i∧y= .str j∧Q (.bl (!J0e j i)) H:=rfl
theorem J72{α:Type}{c:α}{r:List α}:atI (c::r) 0=some c:=G7 (by decide) rfl
end L2
namespace L2
def J0h(xs ys:List V):Bool:=match xs,ys with
 | [],[]=>true
 | x::xs,y::ys=>eqV x y && J0h xs ys
 | _,_=>false
theorem Ve{x y:Str}:eqV (.str x) (.str y)=decide (x=y):=rfl
def EqQ(K:PySem.W.Frag)(H:Hp)(x y:V)(r:Bool):Prop:=∃a b xs ys,x= .ref a∧y= .ref b∧((SqL K H a xs∧SqL K H b ys)∨(SqT K H a xs∧SqT K H b ys))∧xs.all Df=true∧ys.all Df=true∧r=J0h xs ys
section
variable {X:Cx} {pins:List (Addr×Obj)} {σ:St} {H:Hp} {s:Shared}
def J81(K:PySem.W.Frag):R2:=fun x y H Q=>∃r,EqQ K H x y r∧Q (.bl r) H
def J82(K:PySem.W.Frag):R2:=fun x y H Q=>∃r,EqQ K H x y r∧Q (.bl (!r)) H
end
section
variable {K:PySem.W.Frag} {H:Hp} {Q:VK} {x y:V}
theorem J0i:J81 K x y H Q=∃r,EqQ K H x y r∧Q (.bl r) H:=rfl
theorem J0j:J82 K x y H Q=∃r,EqQ K H x y r∧Q (.bl (!r)) H:=rfl
theorem Nl{xs:List Str}:(xs.map V.str).all Df=true:=by
 rw [List.all_map];exact Hj.mpr fun _ _=>rfl
end
end L2
namespace L2
structure Cd(P:Program)(w:World)(K:PySem.W.Frag)(mg:Str→Option Value)(base:Heap)(CX:CXT)(k:Nat)(C:Addr)(m:Str)(ps:List Str)(sp:Sp):Prop where
 ex:∃(f:Addr) (fd:FuncData),Au P w K mg base CX k f fd ps sp∧J2g K C m f∧De K fd ps []
structure Qs(P:Program)(w:World)(K:PySem.W.Frag)(mg:Str→Option Value)(base:Heap)(CX:CXT)(k:Nat)(x:Str)(C:Addr)(ps:List Str)(sp:Sp):Prop where
 ex:∃(f:Addr) (fd:FuncData),Au P w K mg base CX k f fd ps sp∧Mk K C f∧mg x=some (.ref C)∧De K fd ps []
def Tt(C:Addr)(m:Str)(sp:Sp)(EE:St→XK)(ta:TE)(t:TA):TE:=fun σ H Q=>ta σ H fun x H1=>∃a dx fs,x= .ref a∧H1 a=some (.ins C dx fs)∧fs.lookup m=none∧t σ H1 fun vs H2=>sp (x::vs) H2 Q (EE σ)
def Tu(C:Addr)(sp:Sp)(EE:St→XK)(t:TA):TE:=fun σ H Q=>t σ H fun vs H1=>∀x dx,H1 x=none→H1 dx=none→dx≠x→sp (.ref x::vs) (upd (upd H1 dx (.own x)) x (.ins C dx [])) (fun v H2=>v= .non∧Q (.ref x) H2) (EE σ)
section
variable {X:Cx} {CX:CXT} {k j:Nat} {f C:Addr} {fd:FuncData} {ps:List Str} {sp:Sp} {EE:St→XK} {E:XK} {x m:Str} {p pos apos:Pos} {e o:Expr} {es:List Expr} {ta:TE} {t:TA}
theorem Ax(h:Lp CX X E):Eo CX X fun _=>E:=fun pins σ H s e s' I hc=>h pins σ H s e s' I hc
theorem Mt{pins:List (Addr×Obj)}{σ:St}{H:Hp}{s:Shared}{Q:VK}{us:List Value}{vs:List V}(F:Au X.prog X.w X.K X.mg X.base CX k f fd ps sp)(hr:Cy k X.A)(hb:De X.K fd ps [])(hx:Eo CX X EE)
 (I:Inv X pins σ H s) (r:B3 vs us) (h:sp vs H Q (EE σ)):wpAny (model X.prog X.w) X.A (call (.ref f) us) (EP X pins σ Q) X.xe s:=by
 have hl:us.length=ps.length:=by rw [← r.length];exact F.len _ _ _ _ h
 have hb':=hb s us I.kIn (by simpa using hl);rw [FP]at hb';refine wpAny_call (R8 (F.run X.A X.stack s H ⟨us,[]⟩ us vs Q (EE σ) hr I.env0 hb' r h) fun r s' hq=>?_)
 cases r with
 | error e=>exact hx pins σ H s e s' I hq
 | ok fl=>
  cases fl with
  | ret u=>exact I.after hq
  | next=>exact False.elim hq
  | brk=>exact False.elim hq
  | cont=>exact False.elim hq
theorem Ak{pl:Sem Bool}(D:Cd X.prog X.w X.K X.mg X.base CX j C m ps sp)(c:Cls X.K C)(hr:Cy k X.A)(hx:Eo CX X EE)(he:PE X o ta)(ha:PA X (e::es) t)(hj:j≤k:=by decide)
 (hst:starEach (e::es) X.env=(false,eval e X.env)::starEach es X.env:=by rfl) (hpl:(backTo pos (starEach es X.env)).any (·.1)=false:=by rfl)
 (ht:eval (.Call (.Attribute o m apos) (e::es) [] pos) X.env=(do
  let ov ← eval o X.env
  standAt apos.atName
  let (f,first) ← holding [ov] (getMethod ov m pl)
  callWith pos f first (backTo pos (starEach (e::es) X.env)) (backToKw pos (keywordEach [] X.env))):=by rfl):
 PE X (.Call (.Attribute o m apos) (e::es) [] pos) (Tt C m sp EE ta t):=by
 obtain ⟨f,fd,F,hm,hb⟩:=D.ex;intro pins s σ H Q I h;refine R0 (pl:=pl) (thn (he pins s σ H _ I h) fun u s1 hq_=>?_) ht;obtain ⟨x,H1,I1,rx,a,dx,fs,ex,ea,l,q⟩:=hq_;subst ex;obtain rfl:u=Value.ref a:=rx;refine G5 I1 ea c hm l ?_;refine HV (first:=[.ref a]) (h₀:=X.base) I.ok.mod.kin hm.kp (thn (ha pos pins s1 σ H1 _ I1 q) fun us s2 ⟨vs,H2,I2,r,q2⟩=>⟨I2.kIn,?_⟩) hst hpl;exact Mt (us:= .ref a::us) (vs:= .ref a::vs) (F.mono hj) hr hb hx I2 (.cons rfl r) q2
theorem Ey{pl:Sem Bool}(D:Cd X.prog X.w X.K X.mg X.base CX j C m ps sp)(c:Cls X.K C)(hr:Cy k X.A)(hx:Eo CX X EE)(he:PE X o ta)(hj:j≤k:=by decide)
 (ht:eval (.Call (.Attribute o m apos) [] [] pos) X.env=(do
  let ov ← eval o X.env
  standAt apos.atName
  let (f,first) ← holding [ov] (getMethod ov m pl)
  callWith pos f first (backTo pos (starEach [] X.env)) (backToKw pos (keywordEach [] X.env))):=by rfl):
 PE X (.Call (.Attribute o m apos) [] [] pos) (Tt C m sp EE ta Y0):=by
 obtain ⟨f,fd,F,hm,hb⟩:=D.ex;intro pins s σ H Q I h;refine R0 (pl:=pl) (thn (he pins s σ H _ I h) fun u s1 hq_=>?_) ht;obtain ⟨x,H1,I1,rx,a,dx,fs,ex,ea,l,q⟩:=hq_;subst ex;obtain rfl:u=Value.ref a:=rx;refine G5 I1 ea c hm l ?_;exact RF (first:=[.ref a]) I1.kIn hm.kp (Mt (us:=[.ref a]) (vs:=[.ref a]) (F.mono hj) hr hb hx I1 (.cons rfl .nil) q)
theorem L9(D:Qs X.prog X.w X.K X.mg X.base CX j x C ps sp)(hr:Cy k X.A)(hg:Gl X x)(hx:Eo CX X EE)(ha:PA X (e::es) t)(hj:j+1≤k:=by decide)(hdb:(x==("__debug__":Str))=false:=by decide)
 (he:starEach (e::es) X.env=(false,eval e X.env)::starEach es X.env:=by rfl) (hpl:(backTo pos (starEach es X.env)).any (·.1)=false:=by rfl):
 PE X (.Call (.Name x p) (e::es) [] pos) (Tu C sp EE t):=by
 obtain ⟨f,fd,F,M,hm,hb⟩:=D.ex;intro pins s0 σ H0 Q I0 h;refine HD (Mn I0 hg hm ?_ hdb);refine HV (h₀:=X.base) I0.ok.mod.kin M.kp (thn (ha pos pins s0 σ H0 _ I0 h) fun us s ⟨vs,H,I,r,q⟩=>⟨I.kIn,?_⟩) he hpl;have hq:=q (s.heap.objs.size+1) s.heap.objs.size (I.hok.fresh (Ry _)) (I.hok.fresh (Ff _)) (FD (R3 _));have I2:=Inv.made (C:=C) I;have r2:B3 (V.ref (s.heap.objs.size+1)::vs) (Value.ref (s.heap.objs.size+1)::us):= .cons rfl r
 have hl:(Value.ref (s.heap.objs.size+1)::us).length=ps.length:=by
  rw [← r2.length];exact F.len _ _ _ _ hq
 have hb':=fun s' (h':X.K.In s'.heap)=>hb s' (Value.ref (s.heap.objs.size+1)::us) h' (by simpa using hl);have hr':Cy (j+1) X.A:=hr.mono hj
 refine wpAny_call (Q5 (f:=f) I.kIn M.makes M.init (HU.mp M.fn) (R8 (F.run _ X.stack _ _ ⟨Value.ref (s.heap.objs.size+1)::us,[]⟩ (Value.ref (s.heap.objs.size+1)::us) _ _ (EE σ) (hr'.make C us [])
  (I2.env0.make C us []) (by have:=hb' _ I2.kIn;rw [FP]at this;exact this) r2 hq) fun r s' hq'=>?_))
 cases r with
 | error e=>exact hx pins σ _ _ e s' I2 hq'
 | ok fl=>
  cases fl with
  | ret u=>
   obtain ⟨v,H',I3,rv,ev,q3⟩:=I2.after hq';subst ev;exact ⟨rv,⟨V.ref (s.heap.objs.size+1),H',I3,rfl,q3⟩⟩
  | next=>exact False.elim hq'
  | brk=>exact False.elim hq'
  | cont=>exact False.elim hq'
end
section
variable {σ:St} {H:Hp} {Q:VK} {D:Gy} {K:PySem.W.Frag}
theorem Qt{C:Addr}{m:Str}{sp:Sp}{EE:St→XK}{ta:TE}{t:TA}:Tt C m sp EE ta t σ H Q=ta σ H fun x H1=>∃a dx fs,x= .ref a∧H1 a=some (.ins C dx fs)∧fs.lookup m=none∧t σ H1 fun vs H2=>sp (x::vs) H2 Q (EE σ):=rfl
theorem Qu{C:Addr}{sp:Sp}{EE:St→XK}{t:TA}:Tu C sp EE t σ H Q=t σ H fun vs H1=>∀x dx,H1 x=none→H1 dx=none→dx≠x→sp (.ref x::vs) (upd (upd H1 dx (.own x)) x (.ins C dx [])) (fun v H2=>v= .non∧Q (.ref x) H2) (EE σ):=rfl
theorem J0k{ta:TE}{f:Str}:J68 K ta f σ H Q=ta σ H fun x H1=>∃a C dx fs v,x= .ref a∧H1 a=some (.ins C dx fs)∧Cls K C∧Bc K C f∧fs.lookup f=some v∧Q v H1:=rfl
theorem Vf{ta tv:TE}{f:Str}:J69 K ta tv f D σ H=tv σ H fun y H1=>ta σ H1 fun x H2=>∃a C dx fs,x= .ref a∧H2 a=some (.ins C dx fs)∧Cls K C∧Bc K C f∧fs.length < 1000∧D.nx σ (upd H2 a (.ins C dx (Am f y fs))):=rfl
theorem J0l{ty td:TE}:J6p ty td σ H Q=ty σ H fun y H1=>td σ H1 fun x H2=>∃a o,x= .ref a∧Br H2 a y o∧Q (.bl o.isSome) H2:=rfl
theorem Oo{ty td:TE}:Ug ty td σ H Q=ty σ H fun y H1=>td σ H1 fun x H2=>∃a o,x= .ref a∧Br H2 a y o∧Q (.bl (!o.isSome)) H2:=rfl
theorem Mu{td ty:TE}:J41 td ty σ H Q=td σ H fun x H1=>ty σ H1 fun y H2=>∃a v,x= .ref a∧Br H2 a y (some v)∧Q v H2:=rfl
theorem Vg{td ty tv:TE}:J42 td ty tv D σ H=tv σ H fun v H1=>td σ H1 fun x H2=>ty σ H2 fun y H3=>∃a H4,x= .ref a∧Ea H3 a y v H4∧D.nx σ H4:=rfl
theorem Vh{n:Nat}{t:TGs}{v:V}{N:St→Hp→Prop}:J2c K n t v σ H N=∃a xs,v= .ref a∧SqT K H a xs∧xs.length=n∧t xs σ H N:=rfl
end
theorem J5e{a b:Str}{n:Nat}(h1:a.length≤n / 2)(h2:b.length≤n / 2):(a++b).length≤n:=by
 rw [Ca];omega
end L2
namespace L2
open Sem (wp)
section
variable {Pg:Program} {w:World} {A:Around} {E:Value→Shared→Prop} {h:Heap} {g:Array GenState} {d:Drawn} {t:Nat} {os:OsState}
variable {nm q:Str} {C N:Addr} {bs bm bmB:List Value} {hd:Bool} {sn:List Str} {su:List Value} {ab:Bool} {co:Option Bool} {dd:Option Addr} {k0 k1 k2 k3 k5:Option Value} {B nw ni:String}
abbrev J2z(h:Heap)(C:Addr):Obj:={cls:= .ref C,data:= .fields #[.ref h.objs.size,.none,.none,.none,.bool false,.none]}
abbrev J30(h:Heap)(C:Addr)(rest:List Value):Heap:=(h.push {cls:= .type "tuple",data:= .seq rest.toArray}).push (J2z h C)
theorem J0m{rest:List Value}:∀b o,h.get? b=some o→(J30 h C rest).get? b=some o:=fun _ _ e=>Fl _ (Fl _ e)
end
end L2
namespace L2
theorem J4h{P:Program}{w:World}{k:Key}{u:Value}(h:(B8 P w).is k u=true):B4 (kV k) u:=by
 cases k with
 | inl i=>
  cases u <;> first | (exact absurd h (by intro z;cases z)) | skip
  rename_i j t
  have e:j=i:=by simpa [B8,Mc,Value.isInt] using h
  exact ⟨t,by rw [e]⟩
 | inr x=>
  cases u <;> first | (exact absurd h (by intro z;cases z)) | skip
  rename_i j t
  have e:j=x:=by simpa [B8,Mc,Value.isStrOf] using h
  exact ⟨t,by rw [e]⟩
theorem Nm:∀{xs:List V} {us:List Value},B3 xs us→∀{i:Nat} {u:Value},us[i]?=some u→∃x,xs[i]?=some x∧B4 x u
 | _,_,.cons r t,0,u,e=>by cases e;exact ⟨_,rfl,r⟩
 | _,_,.cons r t,i+1,u,e=>Nm t (i:=i) e
theorem Vi:∀{xs:List V} {us:List Value},xs.length=us.length→(∀(j:Nat) (u:Value),us[j]?=some u→∃x,xs[j]?=some x∧B4 x u)→B3 xs us
 | [],[],_,_=> .nil
 | x::xs,u::us,hl,h=>by
  obtain ⟨y,e,r⟩:=h 0 u rfl;cases e;exact .cons r (Vi (by simpa using hl) fun j v e=>h (j+1) v e)
theorem Kr{α β:Type}{F:α→β→Prop}:∀{l:List α} {m:List β},Paired F l m→∀{i:Nat} {b:β},m[i]?=some b→∃a,l[i]?=some a∧F a b
 | _,_,.cons r t,0,b,e=>by cases e;exact ⟨_,rfl,r⟩
 | _,_,.cons r t,i+1,b,e=>Kr t (i:=i) e
theorem Oq{α β:Type}(f:α→β):∀(l:List α) (i:Nat),(l.map f).eraseIdx i=(l.eraseIdx i).map f
 | [],_=>rfl
 | _::_,0=>rfl
 | a::l,i+1=>by rw [List.map_cons,HW,HW,List.map_cons,Oq f l i]
theorem Qv(z:Str):∀l:List Str,l.eraseIdx (l.idxOf z)=l.erase z
 | []=>rfl
 | a::l=>by
  by_cases h:a=z
  · subst h;simp
  · have e:(a::l).idxOf z=l.idxOf z+1:=by rw [List.idxOf_cons,show (a==z)=false from beq_false_of_ne h];rfl
    rw [e,HW,Qv z l,List.erase_cons_tail (by simpa using h)]
def Vj(v d:Addr):HO:= .ext fun h=>h.IsValuesView v d
def J0n:List V→Hp→VK→Prop:=fun xs H Q=>∃a kvs,xs=[.ref a]∧H a=some (.dK kvs)∧∀l,H l=none→Q (.ref l) (upd H l (.lst (kvs.map fun p=>kV p.1)))
def J31:V→List V→Hp→VK→Prop:=fun x vs H Q=>∃a kvs,x= .ref a∧vs=[]∧H a=some (.dK kvs)∧∀v,H v=none→Q (.ref v) (upd H v (Vj v a))
def J73:List V→Hp→VK→Prop:=fun xs H Q=>∃(v d:Addr) (kvs:List (Key×V)) (is:List Int),xs=[.ref v]∧H v=some (Vj v d)∧H d=some (.dK kvs)∧kvs.map (·.2)=is.map V.int∧Q (.int is.sum) H
def Vk:V→List V→Hp→VK→Prop:=fun x vs H Q=>∃(l:Addr) (ys:List Str) (z:Str),x= .ref l∧vs=[.str z]∧H l=some (.lst (ys.map V.str))∧z∈ys∧Q .non (upd H l (.lst ((ys.erase z).map V.str)))
section
variable {X:Cx}
theorem Tv(hc:X.calm=true):Eh X (.type "list") J0n:=by
 intro pins s σ H xs us Q I r h;obtain ⟨a,kvs,rfl,ha,q⟩:=h;obtain ⟨u,rfl,rx⟩:=Gv r;cases rx;obtain ⟨z,lo,ws,rel,ob,es,ep,e1,e2⟩:=I.hok a _ ha
 have dat:s.heap.DictAt (B8 X.prog X.w) a ws ep:=⟨ob,es,e1,e2⟩
 refine PySem.W.kdl_call (PySem.W.kdl_dict (knd:=B8 X.prog X.w) (kvs:=ws) (ep:=ep) lo) (I.ok.hd hc) dat (by rw [← rel.length];exact z) fun h' tk acc c' kp e hi=>?_
 have hv:B3 (kvs.map fun p=>kV p.1) acc.toList:=by
  have h1:=hi.1;have h2:=rel.length;refine Vi (by rw [Fa];exact h2.trans (h1.symm.trans (FH (xs:=acc)).symm)) fun j u ej=>?_;obtain ⟨k,x,ek,hk⟩:=hi.2 j u (by rw [← Array.getElem?_toList];exact ej);obtain ⟨p,ep',hp⟩:=Kr rel ek;exact ⟨kV p.1,by rw [Fg,ep'];rfl,by rw [hp.1];exact J4h hk⟩
 refine ⟨.ref s.heap.objs.size,_,I.laid (t':=tk) kp (Ff _) (show C8 X.prog X.w _ h' _ (.lst (kvs.map fun p=>kV p.1)) from ⟨by rw [Fa];exact z,acc.toList,c',hv,?_⟩),rfl,q _ I.fresh⟩;rw [Array.toArray_toList];exact e
theorem Lw:MtM X "list.remove" Vk:=by
 intro pins s σ H x vs v us Q I rx rv h;obtain ⟨l,ys,z,rfl,rfl,hH,hz,q⟩:=h;cases rx;obtain ⟨u,rfl,ru⟩:=rv.one;obtain ⟨t,rfl⟩:=ru;obtain ⟨hs,its,n,r,hl,e⟩:=I.lstM hH;have hj:ys.idxOf z < ys.length:=List.idxOf_lt_length_iff.mpr hz
 have at_:∀(m:Nat) (u:Value),its[m]?=some u→∃y t,ys[m]?=some y∧u= .str y t:=fun m u em=>by
  obtain ⟨x,ex,rx⟩:=Nm r em;rw [Fg]at ex
  cases hy:ys[m]? with
  | none=>rw [hy]at ex;cases ex
  | some y=>
   rw [hy]at ex;cases ex;obtain ⟨t,e⟩:=rx;exact ⟨y,t,rfl,e⟩
 have ev:∀y,y∈its.toArray→MeetsSeq.EqGives y (.str z t) (PyProof.Rows.isStrOf z y):=fun y hy=>by
  obtain ⟨m,hm⟩:=FE.mp (by simpa using hy)
  obtain ⟨y',t',_,rfl⟩:=at_ m y hm
  exact eqGives_str y' z t' t
 have hit:∀(m:Nat) (hm:m < its.toArray.size),∃y t,ys[m]?=some y∧its.toArray[m]= .str y t:=fun m hm=>at_ m _ (by simp)
 refine HL F.slot_list_remove ⟨_,e,rfl⟩ F.entry_list_remove (F.args_list_remove_2 _ _) (MeetsSeq.list_remove l its.toArray n (.str z t) (isStrOf z) ev (ys.idxOf z) (by rw [Fm,← hl,Fa];exact hj) ?_ ?_ (by rw [Fm];omega)) ⟨e,?_⟩
 · obtain ⟨y,t',h1,h2⟩:=hit (ys.idxOf z) (by rw [Fm,← hl,Fa];exact hj)
   rw [h2]
   have e3:ys[ys.idxOf z]?=some z:=by rw [Fd hj,RK hj]
   rw [e3]at h1;cases h1;simp [isStrOf]
 · intro m hm hlt
   obtain ⟨y,t',h1,h2⟩:=hit m hm;rw [h2];have e3:(ys[m]'(by omega)==z)=false:=List.not_of_lt_findIdx hlt;rw [Fd (by omega)]at h1;cases h1;exact e3
 · refine ⟨.non,_,I.lset (its':=its.eraseIdx (ys.idxOf z)) hH e ?_ (ys:=(ys.erase z).map V.str) ?_ ?_,rfl,q⟩
   · rw [List.eraseIdxIfInBounds_toArray]
   · have:=r.eraseIdx (ys.idxOf z)
     have e5:(ys.map V.str).eraseIdx (ys.idxOf z)=(ys.erase z).map V.str:=by
      rw [Oq,Qv]
     rw [e5]at this;exact this
   · have:=R5 (a:=z) (l:=ys)
     rw [Fa]at hs ⊢;omega
end
section
variable {σ:St} {H:Hp} {Q:VK} {xs:List V} {x y:V}
theorem Qw{td ty:TE}:Yc td ty σ H Q=td σ H fun x H1=>∃a,x= .ref a∧IsD H1 a∧ty σ H1 fun y H2=>∃kvs k v,H2 a=some (.dK kvs)∧y=kV k∧Ay kvs k=some v∧Q v (upd H2 a (.dK (B9 kvs k))):=rfl
theorem Qx{td ty tx:TE}:Yb td ty tx σ H Q=td σ H fun x H1=>∃a,x= .ref a∧IsD H1 a∧ty σ H1 fun y H2=>tx σ H2 fun z H3=>∃o,Br H3 a y o∧Q (o.getD z) H3:=rfl
theorem Qy:J0n xs H Q=∃a kvs,xs=[.ref a]∧H a=some (.dK kvs)∧∀l,H l=none→Q (.ref l) (upd H l (.lst (kvs.map fun p=>kV p.1))):=rfl
theorem Os:J31 x xs H Q=∃a kvs,x= .ref a∧xs=[]∧H a=some (.dK kvs)∧∀v,H v=none→Q (.ref v) (upd H v (Vj v a)):=rfl
theorem Vl:J73 xs H Q=∃(v d:Addr) (kvs:List (Key×V)) (is:List Int),xs=[.ref v]∧H v=some (Vj v d)∧H d=some (.dK kvs)∧kvs.map (·.2)=is.map V.int∧Q (.int is.sum) H:=rfl
theorem Ot:Vk x xs H Q=∃(l:Addr) (ys:List Str) (z:Str),x= .ref l∧xs=[.str z]∧H l=some (.lst (ys.map V.str))∧z∈ys∧Q .non (upd H l (.lst ((ys.erase z).map V.str))):=rfl
end
end L2
namespace N1
open PySem L2
def Be:List Nat:=List.range' 97 26
def Bi:List Nat:=List.range' 48 10
theorem Nn:(Str.ofString "abcdefghijklmnopqrstuvwxyz").cps.toList=Be:=by decide+kernel
theorem Qz:(Str.ofString "0123456789").cps.toList=Bi:=by decide+kernel
theorem J32:(Str.ofString "abcdefghijklmnopqrstuvwxyz").length=26:=by decide+kernel
theorem J33:(Str.ofString "0123456789").length=10:=by decide+kernel
theorem Wy:(Str.ofString "abcdefghijklmnopqrstuvwxyz0123456789").cps.toList=Be++Bi:=by decide+kernel
theorem S0:(Be++Bi).length=36:=by decide
theorem Vm{c:Nat}:c∈Bi↔48≤c∧c < 58:=by unfold Bi;rw [RQ]
def Lx(l:List Nat)(s:List Nat):Bool:=match l with
 | []=>false
 | c::_=>decide (c∈s)
def Bo(l:List Nat):Bool:=decide (1≤l.length) && decide (l.length≤8) && Lx l Be && l.all fun c=>decide (c∈Be++Bi)
end N1
namespace N1
open PySem L2
def S3(l:List Nat):Bool:=decide (1≤l.length) && decide (l.length≤31) && l.all (fun c=>decide (c∈Bi)) && !(Lx l [48] && !decide (l=[48]))
def Wz(l:List Nat):Int:=((NumText.digitsVal l:Nat):Int)
theorem Vn{l:List Nat}:(l.all fun c=>decide (c∈Bi))=true↔NumText.AllDigits l:=by
 rw [Hj];constructor
 · intro h c hc
   have:=h c hc;rw [decide_eq_true_eq,Vm]at this;omega
 · intro h c hc
   have:=h c hc;rw [decide_eq_true_eq,Vm];omega
theorem J34{c:Nat}:((⟨#[c]⟩:Str)=Str.ofString "0")↔c=48:=by
 have e:Str.ofString "0"=⟨#[48]⟩:=by decide+kernel
 rw [e];simp
theorem J0o{z:Str}:(z=Str.ofString "0")↔z.cps.toList=[48]:=by
 have e:Str.ofString "0"=⟨#[48]⟩:=by decide+kernel
 rw [e];constructor
 · intro h;rw [h]
 · intro h
   have:z.cps=#[48]:=by rw [← Array.toList_inj];exact h
   cases z;simp at this;subst this;rfl
theorem J0p{z:Str}(h:(z.cps.toList.all fun c=>decide (c∈Bi))=true)(h1:z.cps.toList≠[])(h2:z.length≤4300):PySem.intText? z=some (Wz z.cps.toList):=PySem.intText_digits (Vn.mp h) h1 h2
end N1
namespace N1
open PySem L2
def tx(l:List Nat):Str:=⟨l.toArray⟩
theorem Lz{l:List Nat}:(tx l).cps.toList=l:=by simp [tx]
theorem J83{z:Str}:tx z.cps.toList=z:=by cases z;simp [tx]
theorem J74{a b:List Nat}(h:tx a=tx b):a=b:=by rw [← Lz (l:=a),h,Lz]
theorem J75{a b:List Nat}:tx a++tx b=tx (a++b):=by
 have h:=Ex (a:=tx a) (b:=tx b);rw [Lz,Lz]at h;rw [← J83 (z:=tx a++tx b),h]
theorem J4i{l:List Nat}:(tx l).length=l.length:=by rw [← Cf,Lz]
theorem J76{c:Nat}:(⟨#[c]⟩:Str)=tx [c]:=rfl
theorem S5:(Str.ofString "abcdefghijklmnopqrstuvwxyz0123456789").length=36:=by decide+kernel
def bc(i:Int):Nat:=(Be++Bi).getD i.toNat 0
theorem J77(i:Int){k:Int}(h0:0 < k)(h1:k≤36):atI (Str.ofString "abcdefghijklmnopqrstuvwxyz0123456789").cps.toList (i % k)=some (bc (i % k)):=by
 have h2:=FT i h0;have h3:=Hc i (show k≠0 by omega);refine G7 h3 ?_
 have h4:(i % k).toNat < (Be++Bi).length:=by rw [S0];omega
 unfold bc;rw [Wy,Fh,Fd h4];rfl
end N1
namespace N1
open L2
def Mv(K:PySem.W.Frag):Sp:=fun vs H Q _=>∃(a:Addr) (ns:List Int) (k:Int),vs=[.ref a,.int k]∧SqL K H a (ns.map V.int)∧0≤k∧ns.length≤63∧Q (.int (ns.getD k.toNat 0)) H
def Mw:Sp:=fun vs H Q _=>∃(z w:Str),vs=[.str z,.str w]∧z.length≤sizeLine∧∀H',A9 H H'→Q (.bl (z.cps.toList.all fun c=>decide (c∈w.cps.toList))) H'
def Ga(K:PySem.W.Frag):Sp:=fun vs H Q _=>∃(x:V),vs=[x]∧((∃z:Str,x= .str z∧z.length≤sizeLine∧∀H',A9 H H'→Q (.bl (Bo z.cps.toList)) H')∨(Isi K H x "str" false∧Q (.bl false) H))
def Np(K:PySem.W.Frag):Sp:=fun vs H Q _=>∃(a:Addr) (ns:List Int),vs=[.ref a]∧SqL K H a (ns.map V.int)∧ns.length≤63∧∀H',Q (.bl true) H'
end N1
namespace N1
open L2
inductive StE where
 | noname | twice | nonum | many
def nOk:V→Bool
 | .str z=>Bo z.cps.toList
 | _=>false
def sOf:V→Str
 | .str z=>z
 | _=>Str.empty
def wIn(lo hi:Int):V→Bool
 | .int i=>decide (lo≤i) && decide (i≤hi)
 | _=>false
abbrev Rw:=Addr×V×V×V
def S6(ks:List Str)(n c r:V):Option StE:=if nOk n=false then some .noname else if sOf n∈ks then some .twice else if wIn 0 (10 ^ 30) c=false then some .nonum else if wIn 1 1000 r=false then some .nonum else none
def Ij(ks:List Str):List Rw→Option StE
 | []=>none
 | t::rs=>match S6 ks t.2.1 t.2.2.1 t.2.2.2 with
  | some e=>some e
  | none=>Ij (ks++[sOf t.2.1]) rs
def Ou(rs:List Rw):Option StE:=if 60 < rs.length then some .many else Ij [] rs
theorem J35{K:PySem.W.Frag}{H:Hp}{v:V}(h:Df v=true):∃b c,Isi K H v "int" b∧(b=true→Isi K H v "bool" c)∧((b && !c)=true→∃i,v= .int i)∧((b && !c)=false→∀i,v≠ .int i):=by
 cases v with
 | non=>exact ⟨false,false,Yj,fun h=>by (cases h),fun h=>by (cases h),fun _ i h=>by cases h⟩
 | bl b=>exact ⟨true,true,Yh,fun _=>Yg,fun h=>by (cases h),fun _ i h=>by cases h⟩
 | int i=>exact ⟨true,false,Ye,fun _=>Yf,fun _=>⟨i,rfl⟩,fun h=>by cases h⟩
 | str z=>exact ⟨false,false,Yi,fun h=>by (cases h),fun h=>by (cases h),fun _ i h=>by cases h⟩
 | _=>cases h
def Ep(K:PySem.W.Frag):Sp:=fun vs H Q _=>∃(x:V) (b c:Bool),vs=[x]∧Isi K H x "int" b∧(b=true→Isi K H x "bool" c)∧Q (.bl (b && !c)) H
def Iz(K:PySem.W.Frag):Sp:=fun vs H Q _=>∃(v:V) (lo hi:Int),vs=[v,.int lo,.int hi]∧Df v=true∧Q (.bl (wIn lo hi v)) H
def SameBut(p:Addr)(H H':Hp):Prop:=∀b o,H b=some o→b≠p→H' b=some o
theorem SameBut.trans{p:Addr}{H H1 H2:Hp}(h1:SameBut p H H1)(h2:SameBut p H1 H2):SameBut p H H2:=fun b o e n=>h2 b o (h1 b o e n) n
theorem SameBut.of{p:Addr}{H H1:Hp}(h:A9 H H1):SameBut p H H1:=fun b o e _=>h b o e
theorem Er{p:Addr}{H:Hp}{o:HO}:SameBut p H (upd H p o):=fun b u e n=>by rw [A3 n];exact e
abbrev Th:=Str×Int×Int
def flds(d:Addr):List (Str×V):=Am "things" (.ref d) []
structure Aw(K:PySem.W.Frag)(C:Addr)(H:Hp)(p:Addr)(ts:List Th):Prop where
 ex:∃(dx d:Addr) (kvs:List (Key×V)),H p=some (.ins C dx (flds d))∧H d=some (.dK kvs)∧kvs.map (·.1)=ts.map (fun t=>Sum.inr t.1)∧
  ∀(i:Nat) (t:Th),ts[i]?=some t→∃a,kvs[i]?=some (Sum.inr t.1,.ref a)∧SqT K H a [.int i,.int t.2.1,.int t.2.2]
theorem Aw.same{K:PySem.W.Frag}{C:Addr}{H H':Hp}{p:Addr}{ts:List Th}(s:A9 H H')(h:Aw K C H p ts):Aw K C H' p ts:=by
 obtain ⟨dx,d,kvs,h1,h2,h3,h4⟩:=h.ex;refine ⟨dx,d,kvs,s _ _ h1,s _ _ h2,h3,fun i t e=>?_⟩;obtain ⟨a,e1,e2⟩:=h4 i t e;exact ⟨a,e1,s.tup e2⟩
def iOf:V→Int
 | .int i=>i
 | _=>0
def J0q(t:Rw):Th:=(sOf t.2.1,iOf t.2.2.1,iOf t.2.2.2)
theorem SqT.but{K:PySem.W.Frag}{H H':Hp}{p a C dx:Addr}{fs:List (Str×V)}{xs:List V}(s:SameBut p H H')(hp:H p=some (.ins C dx fs))(h:SqT K H a xs):SqT K H' a xs:=by
 rcases h with (h | ⟨o,h⟩) | h
 · exact .inl (.inl (s _ _ h (Bx h hp (by intro z;cases z))))
 · exact .inl (.inr ⟨o,s _ _ h (Bx h hp (by intro z;cases z))⟩)
 · exact .inr h
theorem SqL.but{K:PySem.W.Frag}{H H':Hp}{p a C dx:Addr}{fs:List (Str×V)}{xs:List V}(s:SameBut p H H')(hp:H p=some (.ins C dx fs))(h:SqL K H a xs):SqL K H' a xs:=by
 rcases h with (h | ⟨o,h⟩) | h
 · exact .inl (.inl (s _ _ h (Bx h hp (by intro z;cases z))))
 · exact .inl (.inr ⟨o,s _ _ h (Bx h hp (by intro z;cases z))⟩)
 · exact .inr h
theorem Pq{kvs:List (Key×V)}{ks:List Str}{z:Str}(h:kvs.map (·.1)=ks.map Sum.inr):(Ay kvs (Sum.inr z)).isSome=decide (z∈ks):=by
 have e:(Sum.inr z:Key)∈kvs.map (·.1)↔z∈ks:=by
  rw [h,Fv];constructor
  · rintro ⟨a,ha,e⟩;injection e with e;subst e;exact ha
  · intro h;exact ⟨z,h,rfl⟩
 cases hv:Ay kvs (Sum.inr z:Key) with
 | none=>rw [FF fun q=>L6 hv (e.mpr q)];rfl
 | some v=>rw [FI (e.mp (Uh hv))];rfl
theorem Cs{d:Addr}:(flds d).lookup ("things":Str)=some (V.ref d):=by
 unfold flds;rw [Ap,if_pos rfl]
theorem Ov{ks:List Str}{n co r:V}(h:S6 ks n co r=none):∃z c q,n= .str z∧co= .int c∧r= .int q∧¬z∈ks∧Bo z.cps.toList=true∧0≤c∧c≤10 ^ 30∧1≤q∧q≤1000:=by
 unfold S6 at h;split at h
 · cases h
 rename_i h1;split at h
 · cases h
 rename_i h2;split at h
 · cases h
 rename_i h3;split at h
 · cases h
 rename_i h4
 cases n with
 | str z=>
  cases co with
  | int c=>
   cases r with
   | int q=>
    simp only [wIn,Bool.and_eq_false_iff,decide_eq_false_iff_not,not_or,Decidable.not_not]at h3 h4;exact ⟨z,c,q,rfl,rfl,rfl,h2,by simpa [nOk] using h1,h3.1,h3.2,h4.1,h4.2⟩
   | _=>exact absurd rfl h4
  | _=>exact absurd rfl h3
 | _=>exact absurd rfl h1
theorem S7{ks:List Str}{rs:List Rw}{i:Nat}{t:Rw}(h:rs[i]?=some t):Ij ks (rs.drop i)=match S6 ks t.2.1 t.2.2.1 t.2.2.2 with
 | some e=>some e
 | none=>Ij (ks++[sOf t.2.1]) (rs.drop (i+1)):=by
 have e:rs.drop i=t::rs.drop (i+1):=by
  obtain ⟨hi,rfl⟩:=Fe.mp h;exact Hu hi
 rw [e];rfl
def Gw(rs:List Rw):List Str:=rs.map fun t=>sOf t.2.1
structure Vo(K:PySem.W.Frag)(H:Hp)(d:Addr)(rs:List Rw):Prop where
 ex:∃kvs:List (Key×V),H d=some (.dK kvs)∧kvs.map (·.1)=(Gw rs).map Sum.inr∧∀(j:Nat) (t:Rw),rs[j]?=some t→∃a,kvs[j]?=some (Sum.inr (sOf t.2.1),.ref a)∧SqT K H a [.int j,.int (iOf t.2.2.1),.int (iOf t.2.2.2)]
theorem Vo.snoc{K:PySem.W.Frag}{H:Hp}{d a:Addr}{rs:List Rw}{t:Rw}{kvs:List (Key×V)}{c q:Int}{z:Str}(h1:H d=some (.dK kvs))(h2:kvs.map (·.1)=(Gw rs).map Sum.inr)
 (h3:∀(j:Nat) (t:Rw),rs[j]?=some t→∃a,kvs[j]?=some (Sum.inr (sOf t.2.1),.ref a)∧SqT K H a [.int j,.int (iOf t.2.2.1),.int (iOf t.2.2.2)])
 (e1:t.2.1= .str z) (e2:t.2.2.1= .int c) (e3:t.2.2.2= .int q) (nz:¬z∈Gw rs) (ha:H a=some (.tup [.int kvs.length,.int c,.int q])):
 Vo K (upd H d (.dK (B1 kvs (Sum.inr z) (.ref a)))) d (rs++[t]):=by
 have hl:kvs.length=rs.length:=by
  have:=congrArg List.length h2
  simpa [Gw] using this
 have hv:Ay kvs (Sum.inr z:Key)=none:=by
  have:=Pq (z:=z) h2;rw [FF nz]at this
  cases h:Ay kvs (Sum.inr z:Key) with
  | none=>rfl
  | some v=>rw [h]at this;cases this
 have J0m:∀{b:Addr} {xs:List V} {o:List (Key×V)},SqT K H b xs→SqT K (upd H d (.dK o)) b xs:=fun {b xs o} h=>by
  rcases h with (h | ⟨o',h⟩) | h
  · exact .inl (.inl (by rw [A3 (Bx h h1 (by intro z;cases z))];exact h))
  · exact .inl (.inr ⟨_,by rw [A3 (Bx h h1 (by intro z;cases z))];exact h⟩)
  · exact .inr h
 refine ⟨_,A5,?_,fun j t' hj=>?_⟩
 · rw [Ng _ hv,FC,h2]
   simp [Gw,e1,sOf]
 · rw [Ng _ hv]
   by_cases hlt:j < rs.length
   · rw [Fw hlt]at hj
     obtain ⟨b,e,hb⟩:=h3 j t' hj;exact ⟨b,by rw [Fw (by omega)];exact e,J0m hb⟩
   · rw [FB (by omega)]at hj
     have hj0:j - rs.length=0:=by
      have:=(Fe.mp hj).1;simp at this;omega
     rw [hj0]at hj;cases hj
     have ej:j=rs.length:=by omega
     subst ej;refine ⟨a,?_,?_⟩
     · rw [← hl,FB (by omega)];simp [e1,sOf]
     · rw [e2,e3]
       refine J0m (SqT.of ?_);rw [ha,hl];rfl
end N1
namespace L2
section
variable {X:Cx} {pins:List (Addr×Obj)} {σ:St} {H:Hp} {s:Shared}
theorem Cg{c:Const}{j pos}{es:List Expr}{te:TE}{t:TA}(ha:PE X (.Constant c j pos) te)(hr:PA X es t):PA X (.Constant c j pos::es) (Y1 te t):=A0 ha hr rfl
end
theorem Vp{o i v:V}{H:Hp}{Q:Hp→Prop}:J3z o i v H Q=∃p xs k j,o= .ref p∧i= .int k∧H p=some (.lst xs)∧ixN xs.length k=some j∧Q (upd H p (.lst (xs.set j v))):=rfl
end L2
namespace N5
open L2 N1
def md(j:Nat):Int:=if j=0 then 26 else 36
def sgn(F:Nat→Int)(at':Int)(k j:Nat):Nat:=bc ((F j+if (j:Int)=at' then (k:Int) else 0) % md j)
def nmL(F:Nat→Int)(at':Int)(long k:Nat):List Nat:=(List.range long).map (sgn F at' k)
theorem J0r{i:Int}:bc (i % 26)∈Be:=by
 have h1:=Hc i (show (26:Int)≠0 by decide);have h2:=FT i (show (0:Int) < 26 by decide);unfold bc;generalize i % 26=x at *
 have h3:x.toNat < Be.length:=by simp [Be];omega
 rw [Fh,Fw h3,Fd h3];exact HM h3
theorem Vq{i:Int}:bc (i % 36)∈Be++Bi:=by
 have h1:=Hc i (show (36:Int)≠0 by decide);have h2:=FT i (show (0:Int) < 36 by decide);unfold bc;generalize i % 36=x at *
 have h3:x.toNat < (Be++Bi).length:=by rw [S0];omega
 rw [Fh,Fd h3];exact HM h3
theorem Tx{x y:Int}(hx0:0≤x)(hx:x < 36)(hy0:0≤y)(hy:y < 36)(h:bc x=bc y):x=y:=by
 have key:∀a:Fin 36,∀b:Fin 36,(Be++Bi).getD a.val 0=(Be++Bi).getD b.val 0→a=b:=by decide+kernel
 have:=key ⟨x.toNat,by omega⟩ ⟨y.toNat,by omega⟩ h;have:=congrArg Fin.val this;simp at this;omega
theorem S8{F:Nat→Int}{at':Int}{long k:Nat}(h1:1≤long)(h2:long≤8):Bo (nmL F at' long k)=true:=by
 obtain ⟨n,rfl⟩:∃n,long=n+1:=⟨long - 1,by omega⟩
 have hall:∀c∈nmL F at' (n+1) k,c∈Be++Bi:=by
  intro c hc;obtain ⟨j,_,rfl⟩:=Fv.mp hc
  have hm:md j=26∨md j=36:=by unfold md;split <;> simp
  unfold sgn
  rcases hm with hm | hm <;> rw [hm]
  · exact FL _ J0r
  · exact Vq
 have hl:(nmL F at' (n+1) k).length=n+1:=by simp [nmL]
 have hh:Lx (nmL F at' (n+1) k) Be=true:=by
  unfold nmL;rw [List.range_succ_eq_map,List.map_cons];show decide (sgn F at' k 0∈Be)=true;rw [decide_eq_true_eq];unfold sgn md;rw [if_pos rfl];exact J0r
 unfold Bo;rw [hl,hh,FI h1,FI h2];simp only [Bool.true_and];exact Hj.mpr fun c hc=>FI (hall c hc)
theorem ne1:Str.ofString "no name"≠Str.ofString "nothing":=by decide+kernel
theorem Ez{H H':Hp}{x dx C:Addr}(hx:H x=none)(hd:H dx=none)(s:SameBut x (upd (upd H dx (.own x)) x (.ins C dx [])) H'):A9 H H':=fun b o e=>by
 have n1:=A2 e hx;have n2:=A2 e hd;exact s b o (by rw [A3 n1,A3 n2];exact e) n1
theorem J0s{z:Str}(h:Bo z.cps.toList=true):z.length≤8:=by
 unfold Bo at h;simp only [Hf,decide_eq_true_eq]at h;have:=h.1.1.2;rw [Cf]at this;exact this
end N5
namespace L2
open N1 N5
section
variable {K:PySem.W.Frag} {tail:St} {te:Blk→TE} {Q:VK} {H1:Hp}
def J0t(P:V→Hp→Prop):Prop:=∀y H H' l zs,P y H→H l=some (.lst zs)→SameBut l H H'→P y H'
theorem J0u{lo:Int}{n:Nat}(P:Nat→V→Hp→Prop)(hP:∀i,J0t (P i))(hz:n≤sizeLine)(he:∀b (i:Nat) H Q',i < n→A9 H1 H→(∀y H',A9 H H'→P i y H'→Q' y H')→te b (some (.int (lo+i))::tail) H Q')
 (q:∀D ys H',H1 D=none→A9 H1 H'→H' D=some (.lst ys)→ys.length=n→(∀i y,ys[i]?=some y→P i y H')→Q (.ref D) H'):Cc (none::tail) (fun _=>Ce 0) (fun _=>Ki) te Q (Itr lo n) H1:=by
 refine L8 n (fun b D hD=>⟨fun i ys H=>i≤n∧ys.length=i∧H D=some (.lst ys)∧A9 H1 H∧∀j y,ys[j]?=some y→P j y H,⟨Fq _,rfl,A5,D4 hD,fun j y e=>by simp at e⟩,?_,?_,?_⟩)
 · rintro i ys H ⟨hi,_,h,_⟩
   exact h
 · rintro ys H ⟨_,hl,h,sm,hall⟩
   exact ⟨Ff _,q D ys H hD sm h hl hall⟩
 · rintro i ys H hi ⟨_,hl,h,sm,hall⟩
   refine ⟨hi,fun x H3 ⟨e3,ex⟩=>?_⟩;subst e3 ex;refine he b i _ _ hi sm fun y H4 sm4 py=>?_;have h4:=sm4 _ _ h;have sb:SameBut D H4 (upd H4 D (.lst (ys++[y]))):=Er;refine Ii h4 (by omega) hi ⟨hi,by rw [Fj,hl];rfl,A5,fun c o e=>?_,fun j y' e=>?_⟩
   · rw [A3 (A2 e hD)];exact sm4 _ _ (sm _ _ e)
   · by_cases hj:j < ys.length
     · rw [Fw hj]at e
       have:=hall j y' e
       exact hP j _ _ _ _ _ this h fun c o e n=>by rw [A3 n];exact sm4 _ _ e
     · rw [FB (by omega)]at e
       have hj0:j=i:=by have:=(Fe.mp e).1;simp at this;omega
       subst hj0;rw [show j - ys.length=0 by omega]at e;cases e;exact hP j _ _ _ _ _ py h4 sb
end
end L2
namespace N4
open L2 N1 N5
def K0(K:PySem.W.Frag):Sp:=fun vs H Q _=>∃(n co r:V) (e:Addr) (kvs:List (Key×V)) (ks:List Str),vs=[n,co,r,.ref e]∧H e=some (.dK kvs)∧kvs.map (·.1)=ks.map Sum.inr∧S6 ks n co r=none∧∀H',A9 H H'→Q .non H'
def S9(K:PySem.W.Frag)(C:Addr):Sp:=fun vs H Q _=>∃(p dx ra:Addr) (rs:List Rw),vs=[.ref p,.ref ra]∧H p=some (.ins C dx [])∧SqL K H ra (rs.map fun t=>V.ref t.1)∧(∀t∈rs,SqT K H t.1 [t.2.1,t.2.2.1,t.2.2.2])∧Ou rs=none∧
 ∀H',SameBut p H H'→Aw K C H' p (rs.map J0q)→Q .non H'
theorem Tz{rs:List Rw}(h:Ou rs=none):rs.length≤60∧Ij [] rs=none:=by
 unfold Ou at h;split at h
 · cases h
 · exact ⟨by omega,h⟩
theorem Nq{lo hi c:Int}(h1:lo≤c)(h2:c≤hi):wIn lo hi (.int c)=true:=by
 show (decide (lo≤c) && decide (c≤hi))=true;rw [FI h1,FI h2];rfl
theorem Ow:∀(rs:List Rw) (ks:List Str),(∀t∈rs,∃z c q,t.2.1= .str z∧t.2.2.1= .int c∧t.2.2.2= .int q∧Bo z.cps.toList=true∧0≤c∧c≤10 ^ 30∧1≤q∧q≤1000)→(ks++rs.map fun t=>sOf t.2.1).Nodup→Ij ks rs=none
 | [],_,_,_=>rfl
 | t::rs,ks,h,nd=>by
  obtain ⟨z,c,q,e1,e2,e3,hn,h1,h2,h3,h4⟩:=h t (Fi ..)
  have hz:¬z∈ks:=fun hz=>by
   rw [List.map_cons,Hz]at nd;exact nd.2.2 z hz (sOf t.2.1) (Fi ..) (by rw [e1];rfl)
  have r0:S6 ks t.2.1 t.2.2.1 t.2.2.2=none:=by
   unfold S6;rw [e1,e2,e3];rw [if_neg (by show ¬Bo z.cps.toList=false;rw [hn];decide),if_neg (show ¬sOf (.str z)∈ks from hz),if_neg (by rw [Nq h1 h2];decide),if_neg (by rw [Nq h3 h4];decide)]
  unfold Ij;rw [r0];refine Ow rs _ (fun t' ht=>h t' (Fb _ ht)) ?_;rw [Rg];exact nd
theorem J0v{kvs:List (Key×V)}{i:Nat}{k:Key}{v:V}(nd:(kvs.map (·.1)).Nodup)(e:kvs[i]?=some (k,v)):Ay kvs k=some v:=by
 induction kvs generalizing i with
 | nil=>rw [List.getElem?_nil]at e;cases e
 | cons p r ih=>
  cases i with
  | zero=>cases e;exact C0 rfl
  | succ i=>
   rw [List.map_cons,FO]at nd;have hm:(k,v)∈r:=Fk e;rw [Bq (fun z=>nd.1 (by rw [z];exact List.mem_map_of_mem (f:=(·.1)) hm))];exact ih nd.2 e
theorem X0{ks:List Str}(h:ks.Nodup):(ks.map (Sum.inr:Str→Key)).Nodup:=by
 unfold List.Nodup at *;rw [List.pairwise_map];exact h.imp fun n e=>n (by injection e)
section
variable {K:PySem.W.Frag} {C:Addr} {H H':Hp} {p:Addr} {ts:List Th} {z:Str}
theorem Aw.has(h:Aw K C H p ts):∃dx d kvs,H p=some (.ins C dx (flds d))∧H d=some (.dK kvs)∧(kvs.map fun q=>kV q.1)=ts.map (fun t=>V.str t.1)∧(∀z,(Ay kvs (Sum.inr z)).isSome=decide (z∈ts.map (·.1)))∧
 ((ts.map (·.1)).Nodup→∀(i:Nat) (t:Th),ts[i]?=some t→∃a,Ay kvs (Sum.inr t.1)=some (.ref a)∧SqT K H a [.int i,.int t.2.1,.int t.2.2]):=by
 obtain ⟨dx,d,kvs,h1,h2,h3,h4⟩:=h.ex
 have h3':kvs.map (·.1)=(ts.map (·.1)).map Sum.inr:=by rw [h3,FM];rfl
 refine ⟨dx,d,kvs,h1,h2,?_,fun z=>Pq h3',fun nd i t e=>?_⟩
 · have:=congrArg (List.map kV) h3
   rw [FM,FM]at this;exact this
 · obtain ⟨a,e1,e2⟩:=h4 i t e
   exact ⟨a,J0v (by rw [h3'];exact X0 nd) e1,e2⟩
end
def pick(w:Nat)(i:Nat)(t:Th):Int:=if w=0 then i else if w=1 then t.2.1 else t.2.2
def Pr(K:PySem.W.Frag)(C:Addr):Sp:=fun vs H Q _=>∃(p:Addr) (ts:List Th),vs=[.ref p]∧Aw K C H p ts∧∀l,H l=none→Q (.ref l) (upd H l (.lst ((ts.map (·.1)).map V.str)))
theorem J36{ts:List Th}{z:Str}(h:z∈ts.map (·.1)):∃(i:Nat) (t:Th),ts[i]?=some t∧t.1=z:=by
 obtain ⟨t,ht,e⟩:=Fv.mp h;obtain ⟨i,hi⟩:=FE.mp ht;exact ⟨i,t,hi,e⟩
end N4
namespace N4
open L2 N1 N5
theorem J0w{j:Nat}:md j=26∨md j=36:=by unfold md;split <;> simp
theorem J5f{x y:Int}{j:Nat}(h:bc (x % md j)=bc (y % md j)):x % md j=y % md j:=by
 rcases J0w (j:=j) with hm | hm <;> rw [hm]at h ⊢
 · exact Tx (by omega) (by omega) (by omega) (by omega) h
 · exact Tx (by omega) (by omega) (by omega) (by omega) h
theorem J0x{f:Nat→List Nat}{m:Nat}(h:∀a b,a < m→b < m→f a=f b→a=b):((List.range m).map fun k=>tx (f k)).Nodup:=by
 unfold List.Nodup;rw [List.pairwise_map];refine List.Pairwise.imp_of_mem (R:=fun a b=>a≠b) ?_ List.nodup_range;intro a b ha hb ne e;exact ne (h a b (HY.mp ha) (HY.mp hb) (J74 e))
structure U0(K:PySem.W.Frag)(H:Hp)(r:Addr)(as:List Addr)(ts:List Th):Prop where
 l:SqL K H r (as.map V.ref)
 n:as.length=ts.length
 m:ts.length≤60
 at_:∀(i:Nat) (a:Addr) (t:Th),as[i]?=some a→ts[i]?=some t→SqT K H a [.str t.1,.int t.2.1,.int t.2.2]
 ok:∀t∈ts,Bo t.1.cps.toList=true∧0≤t.2.1∧t.2.1≤10 ^ 30∧1≤t.2.2∧t.2.2≤1000
 nd:(ts.map (·.1)).Nodup
def J0y(a:Addr)(t:Th):Rw:=(a,.str t.1,.int t.2.1,.int t.2.2)
theorem U0.init{K:PySem.W.Frag}{H:Hp}{r:Addr}{as:List Addr}{ts:List Th}(h:U0 K H r as ts):∃rs:List Rw,rs.map (fun t=>V.ref t.1)=as.map V.ref∧(∀t∈rs,SqT K H t.1 [t.2.1,t.2.2.1,t.2.2.2])∧Ou rs=none∧rs.map J0q=ts:=by
 have hn:=h.n
 have gt:∀(i:Nat) (x:Addr×Th),(as.zip ts)[i]?=some x→as[i]?=some x.1∧ts[i]?=some x.2:=fun i x e=>by
  rw [List.getElem?_zip_eq_some]at e;exact e
 have e1:((as.zip ts).map fun x=>J0y x.1 x.2).map J0q=ts:=by
  rw [FM]
  have:(J0q∘fun x:Addr×Th=>J0y x.1 x.2)=Prod.snd:=by funext x;rfl
  rw [this,List.map_snd_zip (by omega)]
 refine ⟨(as.zip ts).map fun x=>J0y x.1 x.2,?_,?_,?_,e1⟩
 · rw [FM]
   have:((fun t:Rw=>V.ref t.1)∘fun x:Addr×Th=>J0y x.1 x.2)=V.ref∘Prod.fst:=by funext x;rfl
   rw [this,← FM,List.map_fst_zip (by omega)]
 · intro t ht
   obtain ⟨x,hx,rfl⟩:=Fv.mp ht;obtain ⟨i,hi⟩:=FE.mp hx;obtain ⟨h1,h2⟩:=gt i x hi;exact h.at_ i x.1 x.2 h1 h2
 · unfold Ou
   rw [if_neg (by rw [Fa,List.length_zip];have:=h.m;omega)];refine Ow _ _ (fun t ht=>?_) ?_
   · obtain ⟨x,hx,rfl⟩:=Fv.mp ht
     obtain ⟨i,hi⟩:=FE.mp hx;obtain ⟨h1,h2⟩:=gt i x hi;obtain ⟨o1,o2,o3,o4,o5⟩:=h.ok x.2 (Fk h2);exact ⟨x.2.1,x.2.2.1,x.2.2.2,rfl,rfl,rfl,o1,o2,o3,o4,o5⟩
   · rw [List.nil_append,FM]
     have:((fun t:Rw=>sOf t.2.1)∘fun x:Addr×Th=>J0y x.1 x.2)=(fun t:Th=>t.1)∘Prod.snd:=by funext x;rfl
     rw [this,← FM,List.map_snd_zip (by omega)];exact h.nd
end N4
namespace N6
open L2 N1 N5 N4
abbrev Ly:=List (Str×Int)
def Gb:Sp:=fun vs H Q _=>∃n:Int,vs=[.int n]∧1≤n∧n≤1000000∧Q .non H
end N6
namespace N6
open L2 N1 N5 N4
theorem Sa{z:Str}{ys:List Str}:inV (.str z) (ys.map V.str)=decide (z∈ys):=by
 unfold inV
 induction ys with
 | nil=>rfl
 | cons y ys ih=>
  rw [List.map_cons,HG,ih,Ve]
  by_cases h:y=z
  · subst h;simp
  · have h':¬z=y:=fun e=>h e.symm
    simp [h,h']
theorem Nr{K:PySem.W.Frag}{H:Hp}{p:Addr}{z:Str}{ys:List Str}{Q:VK}(h:SqL K H p (ys.map V.str))(q:Q (.bl (decide (z∈ys))) H):rIn K false (.str z) (.ref p) H Q:=by
 refine ⟨p,_,rfl,.inl h,rfl,Nl,?_⟩;rw [if_neg (by decide),Sa];exact q
theorem J0z{K:PySem.W.Frag}{H:Hp}{p:Addr}{z:Str}{ys:List Str}{Q:VK}(h:SqL K H p (ys.map V.str))(q:Q (.bl (!decide (z∈ys))) H):rIn K true (.str z) (.ref p) H Q:=by
 refine ⟨p,_,rfl,.inl h,rfl,Nl,?_⟩;rw [if_pos rfl,Sa];exact q
theorem J10:Str.ofString "abcdefghijklmnopqrstuvwxyz"++Str.ofString "0123456789"=Str.ofString "abcdefghijklmnopqrstuvwxyz0123456789":=by decide+kernel
theorem J5g(i:Int):atI (Str.ofString "abcdefghijklmnopqrstuvwxyz").cps.toList (i % 26)=some (bc (i % 26)):=by
 have h2:=FT i (show (0:Int) < 26 by decide);have h3:=Hc i (show (26:Int)≠0 by decide);refine G7 h3 ?_
 have hl:Be.length=26:=by decide
 have h4:(i % 26).toNat < Be.length:=by rw [hl];omega
 unfold bc;rw [Nn,Fh,Fw h4,Fd h4];rfl
theorem J5h{k:Int}(h0:0≤k)(h1:k < 10):bc (26+k)∈Be++Bi:=by
 have:=Vq (i:=26+k)
 rwa [Int.emod_eq_of_lt (by omega) (by omega)]at this
theorem Ox{l:List Nat}{c:Nat}(h:Bo l=true)(hl:l.length < 8)(hc:c∈Be++Bi):Bo (l++[c])=true:=by
 unfold Bo at h ⊢;simp only [Hf,decide_eq_true_eq,Hj]at h ⊢;obtain ⟨⟨⟨h1,h2⟩,h3⟩,h4⟩:=h;refine ⟨⟨⟨by simp,by simp;omega⟩,?_⟩,fun x hx=>?_⟩
 · cases l with
   | nil=>simp at h1
   | cons a r=>exact h3
 · rcases Fn.mp hx with hx | hx
   · exact h4 x hx
   · rw [Fc.mp hx];exact hc
theorem Gd{F:Nat→Int}{at':Int}{long k:Nat}:(nmL F at' long k).length=long:=by simp [nmL]
theorem Sb{F:Nat→Int}{at':Int}{long k k':Nat}(h0:0≤at')(h1:at' < long)(hk:k < k'+26)(hk':k' < k+26)(h:nmL F at' long k=nmL F at' long k'):k=k':=by
 have hl:at'.toNat < long:=by omega
 have e:=congrArg (fun l=>l[at'.toNat]?) h;simp only [nmL,Fg,RG hl,Hv,Option.some.injEq]at e;unfold sgn at e;rw [if_pos (by omega),if_pos (by omega)]at e;have e2:=J5f e
 rcases J0w (j:=at'.toNat) with hm | hm <;> rw [hm]at e2 <;> omega
theorem J11{F:Nat→Int}{at':Int}{j k:Nat}:nmL F at' (j+1) k=nmL F at' j k++[sgn F at' k j]:=by
 unfold nmL;rw [R6,FC];rfl
def nm3(F:Nat→Int)(at':Int)(long k:Nat):List Nat:=nmL F at' long k++if 25 < k then [bc (26+(k:Int) / 26)] else []
theorem J12{F:Nat→Int}{at':Int}{long k:Nat}(h1:1≤long)(h2:long≤8)(h3:25 < k→long≤7)(hk:k < 61):Bo (nm3 F at' long k)=true:=by
 unfold nm3;split
 · rename_i h
   exact Ox (S8 h1 h2) (by rw [Gd];have:=h3 h;omega) (J5h (by omega) (by omega))
 · rw [FP];exact S8 h1 h2
theorem J37{F:Nat→Int}{at':Int}{long k k':Nat}(h0:0≤at')(h1:at' < long)(hk:k < 61)(hk':k' < 61)(h:nm3 F at' long k=nm3 F at' long k'):k=k':=by
 have hl:=congrArg List.length h;unfold nm3 at h hl;rw [Fj,Fj,Gd,Gd]at hl;obtain ⟨e1,e2⟩:=List.append_inj h (by rw [Gd,Gd])
 by_cases c1:25 < k
 · by_cases c2:25 < k'
   · rw [if_pos c1,if_pos c2]at e2
     injection e2 with e3
     have e4:=Tx (by omega) (by omega) (by omega) (by omega) e3;exact Sb h0 h1 (by omega) (by omega) e1
   · rw [if_pos c1,if_neg c2]at hl;simp at hl
 · by_cases c2:25 < k'
   · rw [if_neg c1,if_pos c2]at hl;simp at hl
   · exact Sb h0 h1 (by omega) (by omega) e1
theorem G0{ys:List Str}{i:Nat}(h:i < ys.length):ys[i]?=some (ys.getD i Str.empty):=by
 rw [Fh,Fd h];rfl
theorem Ei{rs:List Int}{i:Nat}(h:i < rs.length):rs[i]?=some (rs.getD i 0):=by
 rw [Fh,Fd h];rfl
end N6
namespace L2
theorem Inv.turned2{X:Cx}{pins:List (Addr×Obj)}{σ:St}{H:Hp}{s:Shared}{h':Heap}{t':Nat}{fp:List Addr}(I:Inv X pins σ H s)(k:∀b o,b∉fp→s.heap.get? b=some o→h'.get? b=some o)(hf:∀it∈fp,Km X pins H it):
 Inv X pins σ H {s with heap:=h',toks:=t'}:=by
 have nit:∀b u,H b=some u→b∉fp:=fun b u e z=>by rw [(hf b z).1]at e;cases e
 refine I.step (g':=s.gens) (d':=s.drawn) (ch:=fp) (fun b hb=>?_) (fun b o _ _ hc e _=>k b o hc e) (fun b o _ _ hc e _=>⟨o.slots,k b o hc e⟩) (fun _ _ _ _ n=>n)
  (fun b o hc e=>⟨o,k b o hc e⟩) (fun _ _ e=>e) (fun _ _ _ e=>e) (fun b ps e=>⟨#[],by rw [e];simp⟩) (fun m hm=>?_) (fun b u e=>?_) I.bare
 · obtain ⟨_,h1,_,h2,h3,h4⟩:=hf b hb
   exact ⟨h2,h1,h3,h4⟩
 · obtain ⟨o,es,ep,ho,r⟩:=hm
   exact ⟨o,es,ep,k _ o (fun z=>(hf _ z).2.1 rfl) ho,r⟩
 · refine (I.hok b u e).stay (fun c v hc q=>k c v ?_ q) (fun _ q=>q) fun _ _ q=>q
   rcases hc with z | z
   · rw [z];exact nit b u e
   · exact nit c _ z
def Ite(K:PySem.W.Frag)(a:Addr):It:=
 ⟨fun i H=>∃xs x,SqL K H a xs∧xs[i]?=some x,fun i H y H'=>∃t x,y= .ref t∧H t=none∧H'=upd H t (.tup [.int i,x])∧∀xs,SqL K H a xs→xs[i]?=some x,fun i H=>∃xs,SqL K H a xs∧xs.length≤i⟩
def tnE(e it a:Addr)(i:Nat)(h:Heap):Prop:=(∃old,IsEnum h e it i old)∧h.IsListIter it a i
theorem X1{P:Program}{w:World}{K:PySem.W.Frag}{es:List Expr}{k:Nat}{pos:Pos}(a e it:Addr)(ne:e≠it):T7 P w K (.Tuple es k pos) (Ite K a) [e,it] e (tnE e it a) where
 mem:=by simp
 obj:=fun i h st b hb=>by
  obtain ⟨⟨old,h1⟩,o,h2,c,d⟩:=st
  have hb:b=e∨b=it:=by simpa using hb
  rcases hb with rfl | rfl
  · exact ⟨_,h1,fun v z=>by cases z⟩
  · exact ⟨o,h2,fun v z=>by rw [d]at z;cases z⟩
 keep:=fun i h h' st kk=>by
  obtain ⟨⟨old,h1⟩,h2⟩:=st;exact ⟨⟨old,kk e (by simp) _ h1⟩,h2.at fun o q=>kk it (by simp) o q⟩
 item:=by
  intro X hP hw hK hc i pins s σ H E I hf st hg;subst hP hw hK;obtain ⟨xs,x,hq,hx⟩:=hg;obtain ⟨its,rv,p,hz⟩:=I.list hq;obtain ⟨u,hu,ru⟩:=rv.get hx;obtain ⟨⟨old,h1⟩,h2⟩:=st;have hlt:e < s.heap.objs.size:=Fp h1
  have hit:it < s.heap.objs.size:=by obtain ⟨o,q,_⟩:=id h2;exact Fp q
  refine wpAny_pyNext_enum_item h1 h2 p.isList (x:=u) (by simpa using hu) ne fun h' eo it' ht hs hk=>?_;refine ⟨_,rfl,wpAny_letOwnedTupleGo_enum (s:={s with heap:=h',toks:=s.toks+1}) eo fun h3 e3 sb=>?_⟩;have hf0:H s.heap.objs.size=none:=I.hok.fresh (Ff _)
  have nt:∀b∈[e,it],b≠s.heap.objs.size:=fun b hb=>by
   have hb:b=e∨b=it:=by simpa using hb
   rcases hb with rfl | rfl
   · exact FD hlt
   · exact FD hit
  have I0:Inv X pins σ (upd H s.heap.objs.size (.tup [.int i,x])) {s with heap:=s.heap.push {cls:= .type "tuple",data:= .seq #[.int i s.toks,u]},toks:=s.toks+1}:=
   I.laid (fun b u e=>Fl _ e) (Ff _) ⟨by simp [sizeLine];try decide,[.int i s.toks,u],.cons ⟨_,rfl⟩ (.cons ru .nil),⟨_,FG _ rfl,rfl,_,rfl⟩⟩
  have hfp:∀b∈[e,it],Km X pins (upd H s.heap.objs.size (.tup [.int i,x])) b:=fun b hb=>by
   obtain ⟨f0,f1,f2,f3,f4,f5⟩:=hf b hb;exact ⟨by rw [A3 (nt b hb)];exact f0,f1,f2,f3,f4,f5⟩
  have I1:Inv X pins σ (upd H s.heap.objs.size (.tup [.int i,x])) {s with heap:=h3,toks:=s.toks+1}:=by
   refine Inv.turned2 (s:={s with heap:=s.heap.push {cls:= .type "tuple",data:= .seq #[.int i s.toks,u]},toks:=s.toks+1}) (t':=s.toks+1) I0 (fun b o hb q=>?_) hfp
   have hb':b≠e∧b≠it:=by simpa using hb
   refine (sb.2 b hb'.1).trans ?_;rcases Heap.get?_push_cases q with ⟨rfl,rfl⟩ | q2
   · exact ht
   · exact hk b o hb'.1 hb'.2 q2
  refine ⟨.ref s.heap.objs.size,upd H s.heap.objs.size (.tup [.int i,x]),I1,rfl,⟨_,x,rfl,hf0,rfl,fun ys hy=>by rw [I.list_inj hy hq];exact hx⟩,⟨⟨u,?_⟩,?_⟩,fun b hb=>(hfp b hb).1⟩
  · show IsEnum h3 e it ((i+1:Nat):Int) u
    rw [show ((i+1:Nat):Int)=(i:Int)+1 from rfl];exact e3
  · exact it'.at fun o q=>(sb.2 it (Ne.symm ne)).trans q
 done:=by
   intro X hP hw hK hc i pins s σ H E I hf st hg;subst hP hw hK;obtain ⟨xs,hq,hx⟩:=hg;obtain ⟨its,rv,p,hz⟩:=I.list hq;obtain ⟨⟨old,h1⟩,h2⟩:=st;have hl:=rv.length
   exact wpAny_pyNext_enum_end (I.ok.hd hc) h1 h2 p.isList (by simp;omega) fun h' eb=>⟨rfl,Inv.turned2 (t':=s.toks) I (fun b o hb q=>eb b o (fun z=>hb (by simp [z])) q) hf⟩
 self:=fun _ _ _ _ _ st h=>wpAny_pyIter_enum st.1.choose_spec h
section
variable {X:Cx}
def J4j(K:PySem.W.Frag)(ta:TA):TI:=fun σ H R=>ta σ H fun vs H1=>∃a,vs=[.ref a]∧(∃xs,SqL K H1 a xs)∧R (Ite K a) H1
theorem Ps{l:Expr}{ta:TA}{p pos pp:Pos}{es:List Expr}{k:Nat}(hg:Gl X "enumerate")(hm:X.mg "enumerate"=none)(ha:PA X [l] ta)(hs:starEach [l] X.env=[(false,eval l X.env)]:=by rfl):PI X (.Tuple es k pp) (.Call (.Name "enumerate" p) [l] [] pos) (J4j X.K ta):=by
 intro pins s σ H R I h;refine Call_ (Li I hg hm boot_enumerate (HK (thn (ha pos pins s σ H _ I h) fun us s1 hq_=>?_) hs rfl));obtain ⟨vs,H1,I1,r1,q1⟩:=hq_;obtain ⟨a,e,⟨xs,hq⟩,q⟩:=q1;subst e
 cases r1 with
 | cons r rr=>
  cases rr;cases r;obtain ⟨its,rv,p',hz⟩:=I1.list hq;refine call_enumerate_list p'.isList fun h' h1 h2 h3 h4=>?_;refine wpAny_pyIter_enum h1 ?_;refine ⟨_,[s1.heap.objs.size+1,s1.heap.objs.size],_,_,H1,rfl,I1.kept (t':=s1.toks) h4,X1 a _ _ (Nat.succ_ne_self _),⟨⟨_,h1⟩,h2⟩,fun b hb=>?_,q⟩
  have hb:b=s1.heap.objs.size+1∨b=s1.heap.objs.size:=by simpa using hb
  rcases hb with rfl | rfl
  · exact I1.fpOk (Ry _) (I1.hok.fresh (Ry _))
  · exact I1.fpOk (Ff _) (I1.hok.fresh (Ff _))
end
section
variable {K:PySem.W.Frag} {σ:St} {H:Hp} {D:Gy}
theorem Sd{ta:TA}{R:It→Hp→Prop}:J4j K ta σ H R=ta σ H fun vs H1=>∃a,vs=[.ref a]∧(∃xs,SqL K H1 a xs)∧R (Ite K a) H1:=rfl
theorem Pt{a:Addr}{xs:List V}{g:TG}{tb:TS}(Pv:Nat→St→Hp→Prop)(h0:Pv 0 σ H)(hl:∀i σ H,i≤xs.length→Pv i σ H→SqL K H a xs)
 (hs:∀i x σ H t,xs[i]?=some x→Pv i σ H→H t=none→g (.ref t) σ (upd H t (.tup [.int i,x])) fun σ2 H2=>tb {D with nx:=Pv (i+1),ct:=Pv (i+1),bk:=D.nx} σ2 H2) (hd:∀σ H,Pv xs.length σ H→D.nx σ H):L7 g tb D σ (Ite K a) H:=by
 refine ⟨fun i m σ H=>i≤xs.length∧m=xs.length - i∧Pv i σ H,⟨_,Fq _,rfl,h0⟩,fun i m σ H ⟨hi,hm,hP⟩=>?_⟩;have hq:=hl i σ H hi hP
 cases hx:xs[i]? with
 | none=>
  have hn:xs.length≤i:=by simpa using hx
  have e:i=xs.length:=Nat.le_antisymm hi hn;subst e;exact .inl ⟨⟨xs,hq,Ff _⟩,hd σ H hP⟩
 | some x=>
  have hlt:i < xs.length:=(Fe.mp hx).1;refine .inr ⟨⟨xs,x,hq,hx⟩,Pv (i+1),fun σ' H' h=>⟨xs.length - (i+1),by omega,by omega,rfl,h⟩,?_⟩;rintro y H' ⟨t,x',rfl,ht,rfl,hy⟩;have e:=(hy xs hq).symm.trans hx;cases e;exact hs i x σ H t hx hP ht
end
end L2
namespace L2
def Itz(K:PySem.W.Frag)(a b:Addr):It:=
 ⟨fun i H=>∃xs ys x y,SqL K H a xs∧SqL K H b ys∧xs[i]?=some x∧ys[i]?=some y,fun i H v H'=>∃t x y,v= .ref t∧H t=none∧H'=upd H t (.tup [x,y])∧(∀xs,SqL K H a xs→xs[i]?=some x)∧∀ys,SqL K H b ys→ys[i]?=some y,
  fun i H=>∃xs ys,SqL K H a xs∧SqL K H b ys∧(xs.length≤i∨ys.length≤i)⟩
def tnZ(z TI TO i1 i2 a b:Addr)(i:Nat)(h:Heap):Prop:=IsZip h z TI TO .none∧IsPair h TI (.ref i1) (.ref i2)∧(∃x y,IsPair h TO x y)∧h.IsListIter i1 a i∧h.IsListIter i2 b i
theorem J13{P:Program}{w:World}{K:PySem.W.Frag}{es:List Expr}{k:Nat}{pos:Pos}(a b z TI TO i1 i2:Addr)(D:ZipApart z TI TO i1 i2 a b):T7 P w K (.Tuple es k pos) (Itz K a b) [z,TI,TO,i1,i2] z (tnZ z TI TO i1 i2 a b) where
 mem:=by simp
 obj:=fun i h st c hc=>by
  obtain ⟨h1,h2,⟨x,y,h3⟩,⟨o4,e4,c4,d4⟩,⟨o5,e5,c5,d5⟩⟩:=st
  have hc:c=z∨c=TI∨c=TO∨c=i1∨c=i2:=by simpa using hc
  rcases hc with rfl | rfl | rfl | rfl | rfl
  · exact ⟨_,h1,fun v z=>by cases z⟩
  · exact ⟨_,h2,fun v z=>by cases z⟩
  · exact ⟨_,h3,fun v z=>by cases z⟩
  · exact ⟨o4,e4,fun v z=>by rw [d4]at z;cases z⟩
  · exact ⟨o5,e5,fun v z=>by rw [d5]at z;cases z⟩
 keep:=fun i h h' st kk=>by
  obtain ⟨h1,h2,⟨x,y,h3⟩,h4,h5⟩:=st;exact ⟨kk z (by simp) _ h1,kk TI (by simp) _ h2,⟨x,y,kk TO (by simp) _ h3⟩,h4.at fun o q=>kk i1 (by simp) o q,h5.at fun o q=>kk i2 (by simp) o q⟩
 item:=by
  intro X hP hw hK hc i pins s σ H E I hf st hg;subst hP hw hK;obtain ⟨xs,ys,x,y,hq,hq2,hx,hy⟩:=hg;obtain ⟨its,rv,p,hz⟩:=I.list hq;obtain ⟨jts,rv2,p2,hz2⟩:=I.list hq2;obtain ⟨u,hu,ru⟩:=rv.get hx;obtain ⟨v,hv,rw'⟩:=rv2.get hy;obtain ⟨h1,h2,⟨x0,y0,h3⟩,h4,h5⟩:=st
  have lts:∀c∈[z,TI,TO,i1,i2],c < s.heap.objs.size:=fun c hc'=>by
   have hc':c=z∨c=TI∨c=TO∨c=i1∨c=i2:=by simpa using hc'
   rcases hc' with rfl | rfl | rfl | rfl | rfl
   · exact Fp h1
   · exact Fp h2
   · exact Fp h3
   · obtain ⟨o,q,_⟩:=id h4;exact Fp q
   · obtain ⟨o,q,_⟩:=id h5;exact Fp q
  refine wpAny_pyNext_zip_item D h1 h2 h3 h4 h5 p.isList p2.isList (x:=u) (y:=v) (by simpa using hu) (by simpa using hv) fun h' e1 e3 e4 e5 ht hs hk=>?_;refine ⟨_,rfl,wpAny_letOwnedTupleGo_zip (s:={s with heap:=h'}) e1 fun h6 e6 sb=>?_⟩;have hf0:H s.heap.objs.size=none:=I.hok.fresh (Ff _);have nt:∀c∈[z,TI,TO,i1,i2],c≠s.heap.objs.size:=fun c hc'=>FD (lts c hc')
  have I0:Inv X pins σ (upd H s.heap.objs.size (.tup [x,y])) {s with heap:=s.heap.push {cls:= .type "tuple",data:= .seq #[u,v]}}:=
   I.laid (t':=s.toks) (fun b u e=>Fl _ e) (Ff _) ⟨by simp [sizeLine];try decide,[u,v],.cons ru (.cons rw' .nil),⟨_,FG _ rfl,rfl,_,rfl⟩⟩
  have hfp:∀c∈[z,TI,TO,i1,i2],Km X pins (upd H s.heap.objs.size (.tup [x,y])) c:=fun c hc'=>by
   obtain ⟨f0,f1,f2,f3,f4,f5⟩:=hf c hc';exact ⟨by rw [A3 (nt c hc')];exact f0,f1,f2,f3,f4,f5⟩
  have I1:Inv X pins σ (upd H s.heap.objs.size (.tup [x,y])) {s with heap:=h6}:=by
   refine Inv.turned2 (s:={s with heap:=s.heap.push {cls:= .type "tuple",data:= .seq #[u,v]}}) (t':=s.toks) I0 (fun c o hc' q=>?_) hfp
   have hb':c≠z∧c≠TI∧c≠TO∧c≠i1∧c≠i2:=by simpa using hc'
   refine (sb.2 c hb'.1).trans ?_;rcases Heap.get?_push_cases q with ⟨rfl,rfl⟩ | q2
   · exact ht
   · exact hk c o hb'.1 hb'.2.2.1 hb'.2.2.2.1 hb'.2.2.2.2 q2
  refine ⟨.ref s.heap.objs.size,upd H s.heap.objs.size (.tup [x,y]),I1,rfl,⟨_,x,y,rfl,hf0,rfl,fun zs hy'=>by rw [I.list_inj hy' hq];exact hx,fun zs hy'=>by rw [I.list_inj hy' hq2];exact hy⟩,?_,fun c hc'=>(hfp c hc').1⟩;have k6:∀c o,c≠z→h'.get? c=some o→h6.get? c=some o:=fun c o n q=>(sb.2 c n).trans q;exact ⟨e6,k6 TI _ D.TIz (hk TI _ D.TIz D.TITO D.TIi1 D.TIi2 h2),⟨_,_,k6 TO _ D.TOz e3⟩,e4.at fun o q=>k6 i1 o D.i1z q,e5.at fun o q=>k6 i2 o D.i2z q⟩
 done:=by
   intro X hP hw hK hc i pins s σ H E I hf st hg;subst hP hw hK;obtain ⟨xs,ys,hq,hq2,hx⟩:=hg;obtain ⟨its,rv,p,hz⟩:=I.list hq;obtain ⟨jts,rv2,p2,hz2⟩:=I.list hq2;obtain ⟨h1,h2,⟨x0,y0,h3⟩,h4,h5⟩:=st;have hl:=rv.length;have hl2:=rv2.length
   exact wpAny_pyNext_zip_end (I.ok.hd hc) D h1 h2 h3 h4 h5 p.isList p2.isList (hx.imp (fun h=>by simp;omega) fun h=>by simp;omega) fun h' eb=>⟨rfl,Inv.turned2 (t':=s.toks) I (fun c o hb q=>by
    have hb':c≠z∧c≠TI∧c≠TO∧c≠i1∧c≠i2:=by simpa using hb
    exact eb c o hb'.1 hb'.2.2.1 hb'.2.2.2.1 hb'.2.2.2.2 q) hf⟩
 self:=fun _ _ _ _ _ st h=>wpAny_pyIter_zip st.1 h
section
variable {X:Cx}
def J78(K:PySem.W.Frag)(ta:TA):TI:=fun σ H R=>ta σ H fun vs H1=>∃a b,vs=[.ref a,.ref b]∧(∃xs,SqL K H1 a xs)∧(∃ys,SqL K H1 b ys)∧R (Itz K a b) H1
theorem J5i{l r:Expr}{ta:TA}{p pos pp:Pos}{es:List Expr}{k:Nat}(hg:Gl X "zip")(hm:X.mg "zip"=none)(ha:PA X [l,r] ta)(hs:starEach [l,r] X.env=[(false,eval l X.env),(false,eval r X.env)]:=by rfl)(hs2:starEach [r] X.env=[(false,eval r X.env)]:=by rfl):
 PI X (.Tuple es k pp) (.Call (.Name "zip" p) [l,r] [] pos) (J78 X.K ta):=by
 intro pins s σ H R I h;refine Call_ (Li I hg hm boot_zip (HK (thn (ha pos pins s σ H _ I h) fun us s1 ⟨vs,H1,I1,r1,q1⟩=>?_) (by rw [hs,hs2]) (by rw [hs2];rfl)));obtain ⟨a,b,e,⟨xs,hq⟩,⟨ys,hq2⟩,q⟩:=q1;subst e
 cases r1 with
 | cons r rr=>
  cases rr with
  | cons r' rr=>
   cases rr;cases r;cases r';obtain ⟨its,rv,p',hz⟩:=I1.list hq;obtain ⟨jts,rv2,p2,hz2⟩:=I1.list hq2
   have la:a < s1.heap.objs.size:=by obtain ⟨o,e,_⟩:=p'.isList;exact Fp e
   have lb:b < s1.heap.objs.size:=by obtain ⟨o,e,_⟩:=p2.isList;exact Fp e
   refine call_zip_2 p'.isList p2.isList fun h' h1 h2 h3 h4 h5 h6 h7=>?_;refine wpAny_pyIter_zip h1 ?_;refine ⟨_,[s1.heap.objs.size+4,s1.heap.objs.size+2,s1.heap.objs.size+3,s1.heap.objs.size,s1.heap.objs.size+1],_,_,H1,rfl,I1.kept (t':=s1.toks) h7,J13 a b _ _ _ _ _ (PySem.W.ktu_apart _ _ _ la lb),⟨h1,h2,⟨_,_,h3⟩,h4,h5⟩,fun c hc=>?_,q⟩
   have hc:s1.heap.objs.size≤c:=by
    have hc:c=s1.heap.objs.size+4∨c=s1.heap.objs.size+2∨c=s1.heap.objs.size+3∨c=s1.heap.objs.size∨c=s1.heap.objs.size+1:=by simpa using hc
    rcases hc with rfl | rfl | rfl | rfl | rfl
    · exact Rm _ _
    · exact Rm _ _
    · exact Rm _ _
    · exact Ff _
    · exact Rm _ _
   exact I1.fpOk hc (I1.hok.fresh hc)
end
section
variable {K:PySem.W.Frag} {σ:St} {H:Hp} {D:Gy}
theorem Vr{ta:TA}{R:It→Hp→Prop}:J78 K ta σ H R=ta σ H fun vs H1=>∃a b,vs=[.ref a,.ref b]∧(∃xs,SqL K H1 a xs)∧(∃ys,SqL K H1 b ys)∧R (Itz K a b) H1:=rfl
end
end L2
namespace L2
abbrev Vs(wi:TI)(fs:List Nat)(tt:Blk→TT)(te:Blk→TE):TE:=Qj wi 1 fs (fun _=>Ce 0) tt te
abbrev g2(K:PySem.W.Frag):Blk→TG:=fun _=>J2c K 2 (N7 (Ce 0) (N7 (Ce 1) J2b))
abbrev J14(K:PySem.W.Frag)(wi:TI)(fs:List Nat)(tt:Blk→TT)(te:Blk→TE):TE:=Qj wi 2 fs (g2 K) tt te
section
variable {X:Cx} {scope:Scope} {x y:Str} {px py pt:Pos} {n:Nat} {fs:List Nat} {elt iter c:Expr} {pos:Pos} {wi:TI} {tt:Blk→TT} {te:Blk→TE}
theorem J38(hc:X.calm=true)(hok:Dy X.N X.env.scope scope [x,y] fs=true)(b:Blk):PG (X.blk scope ([x,y]++around X.N fs) b) (.Tuple [.Name x px,.Name y py] n pt) (g2 X.K b):=by
 have O:=Ec hok
 refine N9 (X:=X.blk scope ([x,y]++around X.N fs) b) hc (Cq (Bj O.nd rfl (.inl (Hx (O.own x (by simp)))) (.inr (Hx (O.own x (by simp)))))
  (Cq (Bj O.nd rfl (.inl (Hx (O.own y (by simp)))) (.inr (Hx (O.own y (by simp))))) Kw))
theorem J15(x y:Str)(fs:List Nat)(hc:X.calm=true)(hok:Dy X.N X.env.scope scope [x,y] fs=true)(hi:PI X (.Tuple [.Name x px,.Name y py] n pt) iter wi)(he:∀b,PE (X.blk scope ([x,y]++around X.N fs) b) elt (te b))
 (hs:∀x,foldedSetIterable iter X.env x=pure x:=by intro _;rfl):PE X (.ListComp elt [⟨.Tuple [.Name x px,.Name y py] n pt,iter,[],0⟩] scope pos) (J14 X.K wi fs (fun _=>Ki) te):=
 Ql (xs:=[x,y]) (g:=g2 X.K) (tt:=fun _=>Ki) hc hok hi (J38 hc hok) (fun _=>Pp) he hs
end
section
variable {K:PySem.W.Frag} {tail:St} {tt:Blk→TT} {te:Blk→TE} {Q:VK} {H1:Hp} {σ:St} {H:Hp}
theorem Se{wi:TI}{fs:List Nat}:Vs wi fs tt te σ H Q=wi σ H (Cc (none::fs.map fun j=>σ.getD j none) (fun _=>Ce 0) tt te Q):=rfl
theorem Sf{wi:TI}{fs:List Nat}:J14 K wi fs tt te σ H Q=wi σ H (Cc (none::none::fs.map fun j=>σ.getD j none) (g2 K) tt te Q):=rfl
theorem J79{x y:Option V}{r:St}:J5c (none::none::r) (x::y::r):=fun i v e=>by
 match i with
 | 0=>cases e
 | 1=>cases e
 | i+2=>exact e
theorem Sg{H H':Hp}{p:Addr}{o:HO}(s:A9 H H')(h:H p=none):A9 H (upd H' p o):=fun b u e=>by
 rw [A3 (A2 e h)];exact s b u e
theorem Sh{a:Addr}{xs:List V}(p:V→Bool)(f:V→V)(hS:SqL K H1 a xs)(hz:xs.length≤sizeLine)(ht:∀b x H QT,x∈xs→A9 H1 H→(∀H',A9 H H'→QT (p x) H')→tt b (some x::tail) H QT)
 (he:∀b x H Q',x∈xs→p x=true→A9 H1 H→(∀H',A9 H H'→Q' (f x) H')→te b (some x::tail) H Q')
 (q:∀D H',H1 D=none→A9 H1 H'→H' D=some (.lst ((xs.filter p).map f))→Q (.ref D) H'):Cc (none::tail) (fun _=>Ce 0) tt te Q (Itl K a) H1:=by
 intro b D hD;refine ⟨fun i m ys H=>m=xs.length - i∧i≤xs.length∧ys=((xs.take i).filter p).map f∧H D=some (.lst ys)∧A9 H1 H,⟨_,rfl,Fq _,rfl,A5,D4 hD⟩,?_⟩;rintro i m ys H ⟨rfl,hi,rfl,hd,sm⟩;refine ⟨hd,?_⟩
 by_cases hlt:i < xs.length
 · refine .inr ⟨⟨xs,xs[i],sm.seq hS,by simp [hlt]⟩,fun x H3 ⟨e3,ex⟩=>⟨J4d,?_⟩⟩
   subst e3;have hx:=ex xs (sm.seq hS);have hm:=Fk hx
   have hl:(((xs.take i).filter p).map f).length≤i:=by
    rw [Fa];exact FA (Hs _ _) (by rw [He];omega)
   refine ht b x _ _ hm sm fun H7 s7=>?_
   have htk:(xs.take (i+1)).filter p=(xs.take i).filter p++[x].filter p:=by rw [Hy,hx,List.filter_append];rfl
   by_cases hp:p x=true
   · rw [if_pos hp]
     refine he b x H7 _ hm hp (sm.trans s7) fun H8 s8=>?_;have hd8:=(s7.trans s8) _ _ hd;refine ⟨hd8,by omega,xs.length - (i+1),by omega,rfl,hlt,?_,A5,Sg ((sm.trans s7).trans s8) hD⟩;rw [htk,Rn hp,List.filter_nil,FC];rfl
   · rw [if_neg hp]
     refine ⟨xs.length - (i+1),by omega,rfl,hlt,?_,s7 _ _ hd,sm.trans s7⟩;rw [htk,Ro hp,List.filter_nil,FP]
 · have e:i=xs.length:=by omega
   subst e;refine .inl ⟨⟨xs,sm.seq hS,Ff _⟩,q D H hD sm ?_⟩;rw [hd,FV]
end
end L2
namespace L2
section
variable {X:Cx}
def Si:V→List V→Hp→VK→Prop:=fun x vs H Q=>∃l xs y,x= .ref l∧vs=[.int 0,y]∧H l=some (.lst xs)∧xs.length < sizeLine∧Q .non (upd H l (.lst (y::xs)))
theorem M0:MtM X "list.insert" Si:=by
 intro pins s σ H x vs v us Q I rx rv h;obtain ⟨l,xs,y,rfl,rfl,hH,hz,q⟩:=h;cases rx
 cases rv with
 | cons r0 rr=>
  obtain ⟨t0,rfl⟩:=r0;obtain ⟨u,rfl,ru⟩:=B3.one rr;obtain ⟨z,its,n,r,hl,e⟩:=I.lstM hH;refine HL F.slot_list_insert ⟨_,e,rfl⟩ F.entry_list_insert (F.args_list_insert_3 _ _ _) (AutoSeq1.list_insert_list_int_val_1 l its.toArray n 0 t0 u (by decide) (by rw [Fm];omega)) ⟨e,?_⟩;refine ⟨.non,_,I.lset (its':=u::its) hH e ?_ (.cons ru r) ?_,rfl,q⟩
  · simp
  · rw [List.length_cons];omega
theorem Oy{x:V}{vs:List V}{H:Hp}{Q:VK}:Si x vs H Q=∃l xs y,x= .ref l∧vs=[.int 0,y]∧H l=some (.lst xs)∧xs.length < sizeLine∧Q .non (upd H l (.lst (y::xs))):=rfl
end
end L2
namespace L2
section
variable {X:Cx} {scope:Scope} {x y v:Str} {px py pt pv':Pos} {n i:Nat} {fs:List Nat} {elt iter c:Expr} {pos spos:Pos} {wi:TI} {tt:Blk→TT} {te:Blk→TE}
theorem Sj(x:Str)(fs:List Nat)(hN:X.N.Nodup)(hy:X.N[i]?=some v)(hyl:X.env.kindOf v=some .local)(hc:X.calm=true)(hok:Dy X.N X.env.scope scope [x] fs=true)(hi:PI X (.Name x px) iter wi)(ht:∀b,PT (X.blk scope ([x]++around X.N fs) b) c (tt b))(he:∀b,PE (X.blk scope ([x]++around X.N fs) b) elt (te b))
 (hsw:swapsWith (.ListComp elt [⟨.Name x px,iter,[c],0⟩] scope pos) (some (.Name v pv')) spos.line X.env=pure true:=by rfl)
 (hs:∀x,foldedSetIterable iter X.env x=pure x:=by intro _;rfl):PS X (.Assign [.Name v pv'] (.ListComp elt [⟨.Name x px,iter,[c],0⟩] scope pos) spos) (Wh (Vs wi fs tt te) (Ce i)):=
 V2 (xs:=[x]) (g:=fun _=>Ce 0) (tt:=tt) hN hy hyl hc hok hi (Tq hok) (fun b=>J2x (ht b)) he hsw hs
end
end L2
namespace N08
open PySem PySem.Builtin PySem.Builtin.Str PySem.StrLaws
section
variable (x y:Str)
def greedy:List Nat→Nat→List Nat
 | [],_=>[]
 | i::l,free=>if free≤i∧i+y.length≤x.length∧subAt x y i=true then i::greedy l (i+y.length) else greedy l free
theorem Ks(limit:Nat):∀(l:List Nat) (arr:Array Nat) (free:Nat),arr.size+l.length≤limit→
 (forIn l (arr,free) (occBody x y x.length limit)).run.fst.toList=arr.toList++greedy x y l free
 | [],arr,free,_=>by simp [greedy]
 | i::l,arr,free,h=>by
  rw [List.forIn_cons];unfold occBody;rw [List.length_cons]at h
  by_cases hc:free≤i∧i+y.length≤x.length∧subAt x y i=true
  · rw [if_pos (show (((arr,free).fst.size < limit∧(arr,free).snd≤i)∧i+y.length≤x.length)∧subAt x y i=true from ⟨⟨⟨by show arr.size < limit;omega,hc.1⟩,hc.2.1⟩,hc.2.2⟩)]
    refine (Ks limit l (arr.push i) (i+y.length) (by rw [Array.size_push];omega)).trans ?_;simp only [greedy];rw [if_pos hc];simp
  · rw [if_neg (show ¬((((arr,free).fst.size < limit∧(arr,free).snd≤i)∧i+y.length≤x.length)∧subAt x y i=true) from fun z=>hc ⟨z.1.1.2,z.1.2,z.2⟩)]
    refine (Ks limit l arr free (by omega)).trans ?_;simp only [greedy];rw [if_neg hc]
theorem Es:∀(pre l:List Nat) (free:Nat),(∀i∈pre,¬(free≤i∧i+y.length≤x.length∧subAt x y i=true))→greedy x y (pre++l) free=greedy x y l free
 | [],l,free,_=>rfl
 | i::pre,l,free,h=>by
  show greedy x y (i::(pre++l)) free=_;simp only [greedy];rw [if_neg (h i Fi)];exact Es pre l free fun j hj=>h j (Fb _ hj)
def cuts(a:Nat):List Nat:=greedy x y (List.range' a (x.length+1 - a)) a
theorem Oz{a:Nat}(h:∀i,a≤i→¬At x y x.length i):cuts x y a=[]:=by
 unfold cuts;have:=Es x y (List.range' a (x.length+1 - a)) [] a fun i hi z=>h i z.1 ⟨z.2.1,z.2.2⟩;rw [FP]at this;rw [this];rfl
theorem X2{a c:Nat}(hac:a≤c)(hy:1≤y.length)(hc:At x y x.length c)(h:∀i,a≤i→i < c→¬At x y x.length i):cuts x y a=c::cuts x y (c+y.length):=by
 have hcl:=hc.1;unfold cuts
 have e1:List.range' a (x.length+1 - a)=List.range' a (c - a)++List.range' c (x.length+1 - c):=by
  have:=List.range'_append_1 (s:=a) (m:=c - a) (n:=x.length+1 - c);rw [show a+(c - a)=c by omega]at this;rw [this];congr 1;omega
 have e2:List.range' c (x.length+1 - c)=c::List.range' (c+1) (x.length - c):=by
  rw [show x.length+1 - c=(x.length - c)+1 by omega,List.range'_succ]
 have e3:List.range' (c+1) (x.length - c)=List.range' (c+1) (y.length - 1)++List.range' (c+y.length) (x.length+1 - (c+y.length)):=by
  have:=List.range'_append_1 (s:=c+1) (m:=y.length - 1) (n:=x.length+1 - (c+y.length));rw [show c+1+(y.length - 1)=c+y.length by omega]at this;rw [this];congr 1;omega
 rw [e1,Es x y _ _ _ fun i hi z=>?_,e2]
 · simp only [greedy]
   rw [if_pos ⟨hac,hcl,hc.2⟩,e3,Es x y _ _ _ fun i hi z=>?_];rw [RQ]at hi;omega
 · rw [RQ]at hi
   exact h i hi.1 (by omega) ⟨z.2.1,z.2.2⟩
theorem J16:occurrences x y 0 x.length (x.length+1)=cuts x y 0:=by
 rw [occ_eq,Ks x y (x.length+1) _ #[] 0 (by simp)];unfold cuts;simp
theorem U1(hk:(decide (strKind x < strKind y))=false):Txt.split x y=partsFrom x y.length 0 (cuts x y 0):=by
 unfold Txt.split;rw [J16,hk,Bool.or_false]
 by_cases h:x.length < y.length
 · rw [if_pos (by simpa using h),Oz x y fun i _ z=>by have:=z.1;omega]
   show [x]=[strSub x 0 x.length];rw [sub_whole]
 · rw [if_neg (by simpa using h),partsBetween_eq]
   split
   · rename_i h2
     rw [List.isEmpty_iff.mp h2];show [x]=[strSub x 0 x.length];rw [sub_whole]
   · rfl
theorem J17{a:Nat}:(strSub x a x.length).cps.toList=x.cps.toList.drop a:=by
 rw [strSub_toList,FS];rw [Hi];simp [Str.length]
end
theorem Vt{x y:Str}(h:x.cps.toList=y.cps.toList):x=y:=by
 cases x;cases y
 simpa using h
open PySem.NumText
theorem X3:∀c:Nat,c < 58→(Char.ofNat c).toNat=c:=by decide
theorem shown{l:List Nat}(h:AllDigits l)(hne:l≠[])(hh:l=[48]∨∃c r,l=c::r∧49≤c):Str.ofString (toString ((digitsVal l:Nat):Int))=⟨l.toArray⟩:=by
 have e:Nat.toDigits 10 (digitsVal l)=l.map Char.ofNat:=by
  cases hl:l.length with
  | zero=>exact absurd (List.length_eq_zero_iff.mp hl) hne
  | succ n=>
   refine toDigits_digitsVal n l hl h ?_;rcases hh with e | h2
   · subst e
     simp at hl;exact .inl hl
   · exact .inr h2
 have e2:toString ((digitsVal l:Nat):Int)=String.ofList (l.map Char.ofNat):=by
  show Nat.repr (digitsVal l)=_;unfold Nat.repr;rw [e]
 rw [e2];rw [Str.ofString_eq_toList];rw [String.toList_ofList,FM];congr 1;congr 1
 conv=>rhs;rw [← List.map_id l]
 exact List.map_congr_left fun c hc=>X3 c (by have:=h c hc;omega)
end N08
namespace L2
open N1 N5
section
variable {K:PySem.W.Frag} {tail:St} {te:Blk→TE} {Q:VK} {H1:Hp}
def J84(P:V→Hp→Prop):Prop:=∀y H H' l zs,P y H→H l=some (.lst zs)→SameBut l H H'→P y H'
theorem J18{a:Addr}{xs:List V}(P:Nat→V→Hp→Prop)(G:Nat→Prop)(hP:∀i,J84 (P i))(hS:SqL K H1 a xs)(hz:xs.length≤sizeLine)
 (he:∀b i x H Q',xs[i]?=some x→A9 H1 H→(∀j,j < i→G j)→(∀y H',A9 H H'→P i y H'→G i→Q' y H')→te b (some x::tail) H Q')
 (q:∀D ys H',H1 D=none→A9 H1 H'→H' D=some (.lst ys)→ys.length=xs.length→(∀i y,ys[i]?=some y→P i y H')→(∀j,j < xs.length→G j)→Q (.ref D) H'):Cc (none::tail) (fun _=>Ce 0) (fun _=>Ki) te Q (Itl K a) H1:=by
 refine L8 xs.length (fun b D hD=>⟨fun i ys H=>i≤xs.length∧ys.length=i∧H D=some (.lst ys)∧A9 H1 H∧(∀j y,ys[j]?=some y→P j y H)∧∀j,j < i→G j,⟨Fq _,rfl,A5,D4 hD,fun j y e=>by simp at e,fun j h=>absurd h (Nat.not_lt_zero j)⟩,?_,?_,?_⟩)
 · rintro i ys H ⟨hi,_,h,_⟩
   exact h
 · rintro ys H ⟨_,hl,h,sm,hall,hg⟩
   exact ⟨⟨xs,sm.seq hS,Ff _⟩,q D ys H hD sm h hl hall hg⟩
 · rintro i ys H hi ⟨_,hl,h,sm,hall,hg⟩
   refine ⟨⟨xs,xs[i],sm.seq hS,by simp [hi]⟩,fun x H3 ⟨e3,ex⟩=>?_⟩;subst e3;refine he b i x _ _ (ex xs (sm.seq hS)) sm hg fun y H4 sm4 py gi=>?_;have h4:=sm4 _ _ h;have sb:SameBut D H4 (upd H4 D (.lst (ys++[y]))):=Er;refine Ii h4 (by omega) hi ⟨hi,by rw [Fj,hl];rfl,A5,fun c o e=>?_,fun j y' e=>?_,fun j hj=>?_⟩
   · rw [A3 (A2 e hD)];exact sm4 _ _ (sm _ _ e)
   · by_cases hj:j < ys.length
     · rw [Fw hj]at e
       exact hP j _ _ _ _ _ (hall j y' e) h fun c o e n=>by rw [A3 n];exact sm4 _ _ e
     · rw [FB (by omega)]at e
       have hj0:j=i:=by have:=(Fe.mp e).1;simp at this;omega
       subst hj0;rw [show j - ys.length=0 by omega]at e;cases e;exact hP j _ _ _ _ _ py h4 sb
   · by_cases e:j=i
     · rw [e];exact gi
     · exact hg j (by omega)
end
end L2
namespace N8
open L2 N1 N5 N08
end N8
namespace L2
abbrev g3(K:PySem.W.Frag):Blk→TG:=fun _=>J2c K 3 (N7 (Ce 0) (N7 (Ce 1) (N7 (Ce 2) J2b)))
end L2
namespace N12
open L2 N1 N5 N4 N6
def Ge:Sp:=fun vs H Q _=>∃(i:Int) (m:Nat),vs=[.int i,.int m]∧m≤26∧∀(p:Addr) (ys:List Str) (H':Hp),H p=none→A9 H H'→H' p=some (.lst (ys.map V.str))→ys.length≤m→m≤ys.length→ys.Nodup→(∀y∈ys,Bo y.cps.toList=true)→Q (.ref p) H'
theorem X4{ys:List Str}{z:Str}(nd:ys.Nodup)(h:z∉ys)(j:Nat):(ys.set j z).Nodup:=by
 induction ys generalizing j with
 | nil=>exact nd
 | cons a ys ih=>
  rw [FO]at nd;have h1:z≠a:=fun e=>h (by rw [e];exact Fi);have h2:z∉ys:=fun e=>h (Fb _ e)
  cases j with
  | zero=>exact FO.mpr ⟨h2,nd.2⟩
  | succ j=>
   refine FO.mpr ⟨fun e=>?_,ih nd.2 h2 j⟩;rcases Rc e with e | e
   · exact nd.1 e
   · exact h1 e.symm
theorem M3{n k:Nat}(h:k < n):ixN n (k:Int)=some k:=by
 unfold ixN;rw [if_pos (by omega),if_pos (by omega)];simp
theorem seven:(Str.ofString "7").cps.toList=[55]∧(Str.ofString "7").length=1:=by decide+kernel
end N12
namespace N6
open L2 N1 N5 N4
def K5(K:PySem.W.Frag)(C:Addr):Sp:=fun vs H Q _=>∃(p:Addr) (ts:List Th) (z:Str),vs=[.ref p,.str z]∧Aw K C H p ts∧(ts.map (·.1)).Nodup∧z∈ts.map (·.1)∧∀(i:Nat) (t:Th),ts[i]?=some t→t.1=z→∀a,SqT K H a [.int i,.int t.2.1,.int t.2.2]→Q (.ref a) H
def Sl(K:PySem.W.Frag)(C:Addr):Sp:=fun vs H Q _=>∃(p:Addr) (ts:List Th) (z:Str),vs=[.ref p,.str z]∧Aw K C H p ts∧(ts.map (·.1)).Nodup∧z∈ts.map (·.1)∧∀(i:Nat) (t:Th),ts[i]?=some t→t.1=z→Q (.int t.2.2) H
end N6
namespace L2
open PySem.W
theorem J7n(val:Nat→Int):∀k,argBest (fun i j=>decide (val i < val j)) k≤k∧∀j,j≤k→val (argBest (fun i j=>decide (val i < val j)) k)≤val j:=by
 intro k
 induction k with
 | zero=>exact ⟨Ff _,fun j hj=>by rw [Nat.le_zero.mp hj];exact HX _⟩
 | succ k ih=>
  unfold argBest;split
  · rename_i h
    have h:=RO h;refine ⟨Ff _,fun j hj=>?_⟩
    by_cases e:j=k+1
    · rw [e];exact HX _
    · have:=ih.2 j (by omega);omega
  · rename_i h
    have h:¬(val (k+1) < _):=fun z=>h (FI z);refine ⟨FK ih.1,fun j hj=>?_⟩
    by_cases e:j=k+1
    · rw [e];omega
    · exact ih.2 j (by omega)
end L2
namespace L2
open PySem.W
def J4k(K:PySem.W.Frag):List V→Hp→VK→Prop:=fun xs H Q=>∃(p:Addr) (is:List Int),xs=[.ref p]∧SqL K H p (is.map V.int)∧Q (.int is.sum) H
def J7a(K:PySem.W.Frag):V→V→Hp→VK→Prop:=fun o i H Q=>∃(p:Addr) (xs:List V) (k:Nat) (v:V),o= .ref p∧i= .int k∧SqL K H p xs∧xs[k]?=some v∧Q v H
theorem X5(is:List Int):preSum (fun i=>is.getD i 0) is.length=is.sum:=by
 have key:∀n,n≤is.length→preSum (fun i=>is.getD i 0) n=(is.take n).sum:=by
  intro n
  induction n with
  | zero=>intro _;rfl
  | succ n ih=>
   intro h
   have e:is.take (n+1)=is.take n++[is.getD n 0]:=by
    rw [Hy,Fh,Fd (by omega)];rfl
   rw [preSum,ih (by omega),e,List.sum_append];simp
 have:=key is.length (Ff _)
 rwa [FV]at this
section
variable {X:Cx}
theorem M4(hc:X.calm=true):Eh X (.builtin "sum") (J4k X.K):=by
 intro pins s σ H xs us Q I r h;obtain ⟨p,is,rfl,hp,q⟩:=h;obtain ⟨u,rfl,ru⟩:=Gv r;cases ru;obtain ⟨its,r,pl,hz⟩:=I.list hp
 have hlt:p < s.heap.objs.size:=by obtain ⟨o,n,e,_⟩:=pl;exact Fp e
 have hlen:=r.length;rw [Fa]at hlen;refine call_sum_walkAnyS (RN pl.isList ⟨s.heap.objs.size,_,_,_,_,_,_,fun i=>is.getD i 0,rfl,(Walks.list (show X.A.in1.handled=none from I.ok.hd hc) s.heap.objs.size p (FD hlt) its.toArray).toS,⟨⟨_,FG _ rfl,rfl,rfl⟩,pl.isList.push _⟩,fun b hb=>?_,fun i v hP=>?_,fun s' t' hmv=>?_⟩)
 · show b < (s.heap.push _).objs.size
   rw [RC];rcases Fo.mp hb with e | hb
   · rw [e];exact R3 _
   · rw [Fc.mp hb];exact Nat.lt_succ_of_lt hlt
 · have hP:its.toArray[i]?=some v:=hP
   have hi:i < is.length:=by
    have:=(Array.getElem?_eq_some_iff.mp hP).1;rw [Fm]at this;omega
   obtain ⟨u,hu,ru⟩:=r.get (i:=i) (x:=V.int (is[i])) (by simp [hi])
   have e:u=v:=by
    have:its[i]?=some v:=by simpa using hP
    rw [hu]at this;exact FN this
   subst e;show ∃t,u=Value.int (is.getD i 0) t;rw [Fh,Fd hi];exact ru
 · have hk:∀b o,s.heap.get? b=some o→s'.heap.get? b=some o:=fun b o e=>
    hmv.heap b o (fun hI=>absurd (Fp e) (by rw [Fc.mp hI];exact HB _)) (Fl _ e)
   rw [Moved.eq_with hmv];refine ⟨.int is.sum,H,I.kept (t':=s'.toks) hk,⟨t',?_⟩,q⟩;rw [Fm,← hlen,X5]
theorem La:J61 X (J7a X.K):=by
 intro pins s σ H o i ov iv Q I ro ri h;obtain ⟨p,xs,k,v,rfl,rfl,hq,he,q⟩:=h;cases ro;obtain ⟨t,rfl⟩:=ri;obtain ⟨its,r,pl,hz⟩:=I.list hq;obtain ⟨w,ew,rw'⟩:=r.get he;have hl:=r.length;have hn:=Ko;have hk:=(Fe.mp he).1;exact wpAny_getItem_list pl.isList (by omega) (by omega) (by simpa using ew) ⟨v,H,I,rw',q⟩
end
section
variable {σ:St} {H:Hp} {Q:VK} {D:Gy} {K:PySem.W.Frag} {xs:List V} {x y:V}
theorem Vu:J4k K xs H Q=∃(p:Addr) (is:List Int),xs=[.ref p]∧SqL K H p (is.map V.int)∧Q (.int is.sum) H:=rfl
theorem Vv{to ti te:TE}{tget:V→V→Hp→VK→Prop}{tip:TIp}{tset:T6}:J3r to ti te tget tip tset D σ H=to σ H fun o H1=>ti σ H1 fun i H2=>tget o i H2 fun x H3=>te σ H3 fun y H4=>tip x y H4 fun z H5=>tset o i z H5 fun H6=>D.nx σ H6:=rfl
theorem J19{f:Int→Int→Int}:ipI f x y H Q=∃i j,x= .int i∧y= .int j∧Q (.int (f i j)) H:=rfl
end
end L2
namespace N31
open L2 N1 N5
end N31
namespace N71
open L2 N1 N5 N4 N6 N12
theorem Ik{f:Str}{v:V}:∀{fs:List (Str×V)},(fs.lookup f).isSome=true→(Am f v fs).length=fs.length:=by
 intro fs
 induction fs with
 | nil=>intro h;cases h
 | cons p r ih=>
  obtain ⟨g,x⟩:=p;intro h
  by_cases e:g=f
  · subst e;simp [Am]
  · have h2:(r.lookup f).isSome=true:=by
     rw [FR]at h;rw [show (f==g)=false from beq_false_of_ne (fun z=>e z.symm)]at h;exact h
    have:=ih h2;simp [Am,e,this]
theorem Il(kvs:List (Key×V))(k:Key):Ay (B9 kvs k) k=none:=by
 induction kvs with
 | nil=>rfl
 | cons p r ih=>
  by_cases e:p.1=k
  · have:B9 (p::r) k=B9 r k:=by unfold B9;rw [Ro (by simp [e])]
    rw [this];exact ih
  · have:B9 (p::r) k=p::B9 r k:=by unfold B9;rw [Rn (by simp [e])]
    rw [this,Bq e];exact ih
theorem Kt{kvs:List (Key×V)}{k j:Key}(n:j≠k):Ay (B9 kvs k) j=Ay kvs j:=by
 induction kvs with
 | nil=>rfl
 | cons p r ih=>
  by_cases e:p.1=k
  · have h1:B9 (p::r) k=B9 r k:=by unfold B9;rw [Ro (by simp [e])]
    rw [h1,ih,Bq (fun z=>n (by rw [← z,e]))]
  · have h1:B9 (p::r) k=p::B9 r k:=by unfold B9;rw [Rn (by simp [e])]
    rw [h1]
    by_cases e2:p.1=j
    · rw [C0 e2,C0 e2]
    · rw [Bq e2,Bq e2];exact ih
theorem Sm(kvs:List (Key×V))(k:Key):(B9 kvs k).length≤kvs.length:=Nh kvs k
structure TwA where
 st:Addr
 si:Addr
 ro:Addr
 he:Addr
 la:Addr
 so:Addr
 en:Addr
 fi:Addr
structure Tfs(x:TwA)(pd:Int)(fs:List (Str×V)):Prop where
 st:fs.lookup (Str.ofString "stock")=some (.ref x.st)
 si:fs.lookup (Str.ofString "sizes")=some (.ref x.si)
 ro:fs.lookup (Str.ofString "row")=some (.ref x.ro)
 he:fs.lookup (Str.ofString "held")=some (.ref x.he)
 la:fs.lookup (Str.ofString "late")=some (.ref x.la)
 so:fs.lookup (Str.ofString "store")=some (.ref x.so)
 en:fs.lookup (Str.ofString "entries")=some (.ref x.en)
 fi:fs.lookup (Str.ofString "finds")=some (.ref x.fi)
 pd:fs.lookup (Str.ofString "paid")=some (.int pd)
 n:fs.length < 500
 m:∀m∈[Str.ofString "levels",Str.ofString "stored",Str.ofString "shelf_of",Str.ofString "fetch",Str.ofString "come",Str.ofString "fall_off",Str.ofString "write",Str.ofString "settle",Str.ofString "read",Str.ofString "keep",Str.ofString "rest",Str.ofString "ahead",Str.ofString "diary",Str.ofString "found",Str.ofString "spent"],fs.lookup m=none
theorem Tfs.paid{x:TwA}{pd pd':Int}{fs:List (Str×V)}(h:Tfs x pd fs):Tfs x pd' (Am (Str.ofString "paid") (.int pd') fs):=by
 have k:∀g,g≠Str.ofString "paid"→(Am (Str.ofString "paid") (.int pd') fs).lookup g=fs.lookup g:=fun g n=>by rw [Ap,if_neg n]
 refine ⟨?_,?_,?_,?_,?_,?_,?_,?_,by rw [Ap,if_pos rfl],?_,?_⟩
 · rw [k _ (by decide+kernel)];exact h.st
 · rw [k _ (by decide+kernel)];exact h.si
 · rw [k _ (by decide+kernel)];exact h.ro
 · rw [k _ (by decide+kernel)];exact h.he
 · rw [k _ (by decide+kernel)];exact h.la
 · rw [k _ (by decide+kernel)];exact h.so
 · rw [k _ (by decide+kernel)];exact h.en
 · rw [k _ (by decide+kernel)];exact h.fi
 · rw [Ik (by rw [h.pd];rfl)];exact h.n
 · intro m hm
   have hne:∀m∈[Str.ofString "levels",Str.ofString "stored",Str.ofString "shelf_of",Str.ofString "fetch",Str.ofString "come",Str.ofString "fall_off",Str.ofString "write",Str.ofString "settle",Str.ofString "read",Str.ofString "keep",Str.ofString "rest",Str.ofString "ahead",Str.ofString "diary",Str.ofString "found",Str.ofString "spent"],m≠Str.ofString "paid":=by decide+kernel
   rw [k _ (hne m hm)];exact h.m m hm
theorem Tfs.late{x:TwA}{pd:Int}{l:Addr}{fs:List (Str×V)}(h:Tfs x pd fs):Tfs {x with la:=l} pd (Am (Str.ofString "late") (.ref l) fs):=by
 have k:∀g,g≠Str.ofString "late"→(Am (Str.ofString "late") (.ref l) fs).lookup g=fs.lookup g:=fun g n=>by rw [Ap,if_neg n]
 refine ⟨?_,?_,?_,?_,by rw [Ap,if_pos rfl],?_,?_,?_,?_,?_,?_⟩
 · rw [k _ (by decide+kernel)];exact h.st
 · rw [k _ (by decide+kernel)];exact h.si
 · rw [k _ (by decide+kernel)];exact h.ro
 · rw [k _ (by decide+kernel)];exact h.he
 · rw [k _ (by decide+kernel)];exact h.so
 · rw [k _ (by decide+kernel)];exact h.en
 · rw [k _ (by decide+kernel)];exact h.fi
 · rw [k _ (by decide+kernel)];exact h.pd
 · rw [Ik (by rw [h.la];rfl)];exact h.n
 · intro m hm
   have hne:∀m∈[Str.ofString "levels",Str.ofString "stored",Str.ofString "shelf_of",Str.ofString "fetch",Str.ofString "come",Str.ofString "fall_off",Str.ofString "write",Str.ofString "settle",Str.ofString "read",Str.ofString "keep",Str.ofString "rest",Str.ofString "ahead",Str.ofString "diary",Str.ofString "found",Str.ofString "spent"],m≠Str.ofString "late":=by decide+kernel
   rw [k _ (hne m hm)];exact h.m m hm
structure TwS where
 zs:List Int
 R:List Str
 kh:List (Key×V)
 kl:List (Key×V)
 ks:List (Key×V)
 es:List V
 ff:List Int
 pd:Int
structure Bh(C:Addr)(H:Hp)(t:Addr)(x:TwA)(s:TwS):Prop where
 o:∃dx fs,H t=some (.ins C dx fs)∧Tfs x s.pd fs
 si:H x.si=some (.lst (s.zs.map V.int))
 ro:H x.ro=some (.lst (s.R.map V.str))
 he:H x.he=some (.dK s.kh)
 la:H x.la=some (.dK s.kl)
 so:H x.so=some (.dK s.ks)
 en:H x.en=some (.lst s.es)
 fi:H x.fi=some (.lst (s.ff.map V.int))
 d1:x.he≠x.la
 d2:x.he≠x.so
 d3:x.la≠x.so
 l1:x.ro≠x.si
 l2:x.ro≠x.en
 l3:x.ro≠x.fi
 l4:x.si≠x.en
 l5:x.si≠x.fi
 l6:x.en≠x.fi
theorem Bh.same{C:Addr}{H H':Hp}{t:Addr}{x:TwA}{s:TwS}(m:A9 H H')(h:Bh C H t x s):Bh C H' t x s:=by
 obtain ⟨dx,fs,h1,h2⟩:=h.o;exact ⟨⟨dx,fs,m _ _ h1,h2⟩,m _ _ h.si,m _ _ h.ro,m _ _ h.he,m _ _ h.la,m _ _ h.so,m _ _ h.en,m _ _ h.fi,h.d1,h.d2,h.d3,h.l1,h.l2,h.l3,h.l4,h.l5,h.l6⟩
def own(t:Addr)(x:TwA):List Addr:=[t,x.ro,x.he,x.la,x.so,x.en,x.fi]
def Off(L:List Addr)(H H':Hp):Prop:=∀b o,H b=some o→b∉L→H' b=some o
theorem Off.trans{L:List Addr}{H H1 H2:Hp}(a:Off L H H1)(b:Off L H1 H2):Off L H H2:=fun c o e n=>b c o (a c o e n) n
theorem Off.of{L:List Addr}{H H1:Hp}(s:A9 H H1):Off L H H1:=fun c o e _=>s c o e
theorem Off.put{L:List Addr}{H:Hp}{b:Addr}{o:HO}(h:b∈L):Off L H (upd H b o):=fun c u e n=>by
 rw [A3 (fun z=>n (by rw [z];exact h))];exact e
section
variable {C:Addr} {H:Hp} {t:Addr} {x:TwA} {s:TwS}
theorem Bh.nt(h:Bh C H t x s){b:Addr}{u:HO}(e:H b=some u)(n:∀C dx fs,u≠ .ins C dx fs):t≠b:=by
 obtain ⟨dx,fs,h1,_⟩:=h.o
 exact fun z=>by rw [← z,h1]at e;cases e;exact n _ _ _ rfl
theorem Bh.row(h:Bh C H t x s)(R:List Str):Bh C (upd H x.ro (.lst (R.map V.str))) t x {s with R:=R}:=by
 obtain ⟨dx,fs,h1,h2⟩:=h.o;have nt:=h.nt h.ro (by intro _ _ _ z;cases z);refine ⟨⟨dx,fs,by rw [A3 nt];exact h1,h2⟩,by rw [A3 h.l1.symm];exact h.si,A5,?_,?_,?_,by rw [A3 h.l2.symm];exact h.en,by rw [A3 h.l3.symm];exact h.fi,h.d1,h.d2,h.d3,h.l1,h.l2,h.l3,h.l4,h.l5,h.l6⟩
 · rw [A3 (Bx h.he h.ro (by intro z;cases z))];exact h.he
 · rw [A3 (Bx h.la h.ro (by intro z;cases z))];exact h.la
 · rw [A3 (Bx h.so h.ro (by intro z;cases z))];exact h.so
theorem Bh.held(h:Bh C H t x s)(k:List (Key×V)):Bh C (upd H x.he (.dK k)) t x {s with kh:=k}:=by
 obtain ⟨dx,fs,h1,h2⟩:=h.o;have nt:=h.nt h.he (by intro _ _ _ z;cases z);refine ⟨⟨dx,fs,by rw [A3 nt];exact h1,h2⟩,?_,?_,A5,by rw [A3 h.d1.symm];exact h.la,by rw [A3 h.d2.symm];exact h.so,?_,?_,h.d1,h.d2,h.d3,h.l1,h.l2,h.l3,h.l4,h.l5,h.l6⟩
 · rw [A3 (Bx h.si h.he (by intro z;cases z))];exact h.si
 · rw [A3 (Bx h.ro h.he (by intro z;cases z))];exact h.ro
 · rw [A3 (Bx h.en h.he (by intro z;cases z))];exact h.en
 · rw [A3 (Bx h.fi h.he (by intro z;cases z))];exact h.fi
theorem Bh.late(h:Bh C H t x s)(k:List (Key×V)):Bh C (upd H x.la (.dK k)) t x {s with kl:=k}:=by
 obtain ⟨dx,fs,h1,h2⟩:=h.o;have nt:=h.nt h.la (by intro _ _ _ z;cases z);refine ⟨⟨dx,fs,by rw [A3 nt];exact h1,h2⟩,?_,?_,by rw [A3 h.d1];exact h.he,A5,by rw [A3 h.d3.symm];exact h.so,?_,?_,h.d1,h.d2,h.d3,h.l1,h.l2,h.l3,h.l4,h.l5,h.l6⟩
 · rw [A3 (Bx h.si h.la (by intro z;cases z))];exact h.si
 · rw [A3 (Bx h.ro h.la (by intro z;cases z))];exact h.ro
 · rw [A3 (Bx h.en h.la (by intro z;cases z))];exact h.en
 · rw [A3 (Bx h.fi h.la (by intro z;cases z))];exact h.fi
theorem Bh.store(h:Bh C H t x s)(k:List (Key×V)):Bh C (upd H x.so (.dK k)) t x {s with ks:=k}:=by
 obtain ⟨dx,fs,h1,h2⟩:=h.o;have nt:=h.nt h.so (by intro _ _ _ z;cases z);refine ⟨⟨dx,fs,by rw [A3 nt];exact h1,h2⟩,?_,?_,by rw [A3 h.d2];exact h.he,by rw [A3 h.d3];exact h.la,A5,?_,?_,h.d1,h.d2,h.d3,h.l1,h.l2,h.l3,h.l4,h.l5,h.l6⟩
 · rw [A3 (Bx h.si h.so (by intro z;cases z))];exact h.si
 · rw [A3 (Bx h.ro h.so (by intro z;cases z))];exact h.ro
 · rw [A3 (Bx h.en h.so (by intro z;cases z))];exact h.en
 · rw [A3 (Bx h.fi h.so (by intro z;cases z))];exact h.fi
theorem Bh.entry(h:Bh C H t x s)(k:List V):Bh C (upd H x.en (.lst k)) t x {s with es:=k}:=by
 obtain ⟨dx,fs,h1,h2⟩:=h.o;have nt:=h.nt h.en (by intro _ _ _ z;cases z);refine ⟨⟨dx,fs,by rw [A3 nt];exact h1,h2⟩,by rw [A3 h.l4];exact h.si,by rw [A3 h.l2];exact h.ro,?_,?_,?_,A5,by rw [A3 h.l6.symm];exact h.fi,h.d1,h.d2,h.d3,h.l1,h.l2,h.l3,h.l4,h.l5,h.l6⟩
 · rw [A3 (Bx h.he h.en (by intro z;cases z))];exact h.he
 · rw [A3 (Bx h.la h.en (by intro z;cases z))];exact h.la
 · rw [A3 (Bx h.so h.en (by intro z;cases z))];exact h.so
theorem Bh.find(h:Bh C H t x s)(k:List Int):Bh C (upd H x.fi (.lst (k.map V.int))) t x {s with ff:=k}:=by
 obtain ⟨dx,fs,h1,h2⟩:=h.o;have nt:=h.nt h.fi (by intro _ _ _ z;cases z);refine ⟨⟨dx,fs,by rw [A3 nt];exact h1,h2⟩,by rw [A3 h.l5];exact h.si,by rw [A3 h.l3];exact h.ro,?_,?_,?_,by rw [A3 h.l6];exact h.en,A5,h.d1,h.d2,h.d3,h.l1,h.l2,h.l3,h.l4,h.l5,h.l6⟩
 · rw [A3 (Bx h.he h.fi (by intro z;cases z))];exact h.he
 · rw [A3 (Bx h.la h.fi (by intro z;cases z))];exact h.la
 · rw [A3 (Bx h.so h.fi (by intro z;cases z))];exact h.so
end
theorem Bh.paid{C:Addr}{H:Hp}{t:Addr}{x:TwA}{s:TwS}(h:Bh C H t x s){dx:Addr}{fs:List (Str×V)}(ho:H t=some (.ins C dx fs))(hf:Tfs x s.pd fs)(n:Int):Bh C (upd H t (.ins C dx (Am (Str.ofString "paid") (.int n) fs))) t x {s with pd:=n}:=by
 have nt:∀(b:Addr) (u:HO),H b=some u→(∀C dx fs,u≠ .ins C dx fs)→b≠t:=fun b u e k=>(h.nt e k).symm;refine ⟨⟨dx,_,A5,hf.paid⟩,?_,?_,?_,?_,?_,?_,?_,h.d1,h.d2,h.d3,h.l1,h.l2,h.l3,h.l4,h.l5,h.l6⟩
 · rw [A3 (nt _ _ h.si (by intro _ _ _ z;cases z))];exact h.si
 · rw [A3 (nt _ _ h.ro (by intro _ _ _ z;cases z))];exact h.ro
 · rw [A3 (nt _ _ h.he (by intro _ _ _ z;cases z))];exact h.he
 · rw [A3 (nt _ _ h.la (by intro _ _ _ z;cases z))];exact h.la
 · rw [A3 (nt _ _ h.so (by intro _ _ _ z;cases z))];exact h.so
 · rw [A3 (nt _ _ h.en (by intro _ _ _ z;cases z))];exact h.en
 · rw [A3 (nt _ _ h.fi (by intro _ _ _ z;cases z))];exact h.fi
theorem Bh.newLate{C:Addr}{H:Hp}{t:Addr}{x:TwA}{s:TwS}(h:Bh C H t x s){dx:Addr}{fs:List (Str×V)}(ho:H t=some (.ins C dx fs))(hf:Tfs x s.pd fs){l:Addr}(hl:H l=none):Bh C (upd (upd H l (.dK [])) t (.ins C dx (Am (Str.ofString "late") (.ref l) fs))) t {x with la:=l} {s with kl:=[]}:=by
 have m:A9 H (upd H l (.dK [])):=A9.new hl;have ntl:l≠t:=(A2 ho hl).symm;have nt:∀(b:Addr) (u:HO),H b=some u→(∀C dx fs,u≠ .ins C dx fs)→b≠t:=fun b u e k=>(h.nt e k).symm;refine ⟨⟨dx,_,A5,hf.late⟩,?_,?_,?_,by rw [A3 ntl];exact A5,?_,?_,?_,A2 h.he hl,h.d2,(A2 h.so hl).symm,h.l1,h.l2,h.l3,h.l4,h.l5,h.l6⟩
 · rw [A3 (nt _ _ h.si (by intro _ _ _ z;cases z))];exact m _ _ h.si
 · rw [A3 (nt _ _ h.ro (by intro _ _ _ z;cases z))];exact m _ _ h.ro
 · rw [A3 (nt _ _ h.he (by intro _ _ _ z;cases z))];exact m _ _ h.he
 · rw [A3 (nt _ _ h.so (by intro _ _ _ z;cases z))];exact m _ _ h.so
 · rw [A3 (nt _ _ h.en (by intro _ _ _ z;cases z))];exact m _ _ h.en
 · rw [A3 (nt _ _ h.fi (by intro _ _ _ z;cases z))];exact m _ _ h.fi
def J1a(kl:List (Key×V)):V→Bool
 | .str y=>(Ay kl (Sum.inr y)).isSome
 | _=>false
theorem P0(R:List Str)(kl:List (Key×V)):((R.map V.str).filter (J1a kl)).map (fun v=>v)=(R.filter fun y=>(Ay kl (Sum.inr y)).isSome).map V.str:=by
 rw [List.map_id',List.filter_map];rfl
structure B5(K:PySem.W.Frag)(S:Addr)(H:Hp)(p:Addr)(ts:List Th)(L:List Addr):Prop where
 ex:∃(dx d:Addr) (kvs:List (Key×V)),H p=some (.ins S dx (flds d))∧H d=some (.dK kvs)∧p∉L∧d∉L∧kvs.map (·.1)=ts.map (fun t=>Sum.inr t.1)∧
  ∀(i:Nat) (t:Th),ts[i]?=some t→∃a,kvs[i]?=some (Sum.inr t.1,.ref a)∧((Rd H a (.tup [.int i,.int t.2.1,.int t.2.2])∧a∉L)∨∀H',SqT K H' a [.int i,.int t.2.1,.int t.2.2])
theorem B5.at{K:PySem.W.Frag}{S:Addr}{H:Hp}{p:Addr}{ts:List Th}{L:List Addr}(h:B5 K S H p ts L):Aw K S H p ts:=by
 obtain ⟨dx,d,kvs,h1,h2,_,_,h3,h4⟩:=h.ex;refine ⟨dx,d,kvs,h1,h2,h3,fun i t e=>?_⟩;obtain ⟨a,e1,e2 | e2⟩:=h4 i t e
 · exact ⟨a,e1,.inl e2.1⟩
 · exact ⟨a,e1,e2 H⟩
theorem B5.off{K:PySem.W.Frag}{S:Addr}{H H':Hp}{p:Addr}{ts:List Th}{L:List Addr}(o:Off L H H')(h:B5 K S H p ts L):B5 K S H' p ts L:=by
 obtain ⟨dx,d,kvs,h1,h2,n1,n2,h3,h4⟩:=h.ex;refine ⟨dx,d,kvs,o _ _ h1 n1,o _ _ h2 n2,n1,n2,h3,fun i t e=>?_⟩;obtain ⟨a,e1,⟨e2,n⟩ | e2⟩:=h4 i t e
 · refine ⟨a,e1,.inl ⟨?_,n⟩⟩
   rcases e2 with h | ⟨ob,h⟩
   · exact .inl (o _ _ h n)
   · exact .inr ⟨ob,o _ _ h n⟩
 · exact ⟨a,e1,.inr e2⟩
theorem B5.mono{K:PySem.W.Frag}{S:Addr}{H:Hp}{p:Addr}{ts:List Th}{L L':List Addr}(m:∀b∈L',b∈L∨H b=none)(h:B5 K S H p ts L):B5 K S H p ts L':=by
 obtain ⟨dx,d,kvs,h1,h2,n1,n2,h3,h4⟩:=h.ex
 have k:∀(b:Addr) (u:HO),H b=some u→b∉L→b∉L':=fun b u e n z=>by
  rcases m b z with h | h
  · exact n h
  · rw [h]at e;cases e
 refine ⟨dx,d,kvs,h1,h2,k _ _ h1 n1,k _ _ h2 n2,h3,fun i t e=>?_⟩;obtain ⟨a,e1,⟨e2,n⟩ | e2⟩:=h4 i t e
 · refine ⟨a,e1,.inl ⟨e2,?_⟩⟩
   rcases e2 with h | ⟨ob,h⟩
   · exact k _ _ h n
   · exact k _ _ h n
 · exact ⟨a,e1,.inr e2⟩
theorem B5.of{K:PySem.W.Frag}{S:Addr}{H:Hp}{p:Addr}{ts:List Th}(h:Aw K S H p ts):B5 K S H p ts []:=by
 obtain ⟨dx,d,kvs,h1,h2,h3,h4⟩:=h.ex;refine ⟨dx,d,kvs,h1,h2,FQ,FQ,h3,fun i t e=>?_⟩;obtain ⟨a,e1,e2⟩:=h4 i t e;rcases e2 with e2 | e2
 · exact ⟨a,e1,.inl ⟨e2,FQ⟩⟩
 · exact ⟨a,e1,.inr fun _=> .inr e2⟩
theorem Off.mono{L L':List Addr}{H H':Hp}(m:∀b∈L,b∈L')(o:Off L H H'):Off L' H H':=fun b u e n=>o b u e fun z=>n (m b z)
structure TwL(s:TwS)(B:Nat)(hd:Str→Prop):Prop where
 h:∀y,hd y→∃i:Int,Ay s.kh (Sum.inr y)=some (.int i)
 l:∀y,(Ay s.kl (Sum.inr y)).isSome=true→hd y
 st:∀y v,Ay s.ks (Sum.inr y)=some v→∃i:Int,v= .int i
 n1:s.kh.length≤B
 n2:s.kl.length≤B
 n3:s.ks.length≤B
 n4:s.es.length≤B
 b:B≤100000
theorem TwL.iff{s:TwS}{B B':Nat}{p q:Str→Prop}(h:TwL s B p)(e:∀u,p u↔q u)(hB:B≤B')(hb:B'≤100000):TwL s B' q:=
 ⟨fun y hy=>h.h y ((e y).mpr hy),fun y hy=>(e y).mp (h.l y hy),h.st,FA h.n1 hB,FA h.n2 hB,FA h.n3 hB,FA h.n4 hB,hb⟩
theorem D5{R:List Str}{z u:Str}:u∈z::R.erase z↔u∈R∨u=z:=by
 rw [Fo];constructor
 · rintro (h | h)
   · exact .inr h
   · exact .inl (List.mem_of_mem_erase h)
 · rintro (h | h)
   · by_cases e:u=z
     · exact .inl e
     · exact .inr ((List.mem_erase_of_ne e).mpr h)
   · exact .inl h
theorem Mx{R:List Str}{z:Str}(nd:R.Nodup):(z::R.erase z).Nodup:=FO.mpr ⟨nd.not_mem_erase,nd.erase z⟩
theorem M5{R1:List Str}{S:Nat}(nd:R1.Nodup)(hl:R1.length=S+1):∃y,R1[R1.length - 1]?=some y∧R1.dropLast=R1.take S∧y∈R1∧∀u,u∈R1.dropLast↔u∈R1∧u≠y:=by
 have hS:S < R1.length:=by omega
 have e1:R1.dropLast=R1.take S:=by rw [List.dropLast_eq_take,show R1.length - 1=S by omega]
 have e2:R1=R1.take S++[R1[S]]:=by
  have:=List.take_append_drop S R1;rw [Hu hS,List.drop_eq_nil_of_le (by omega)]at this;exact this.symm
 refine ⟨R1[S],by rw [show R1.length - 1=S by omega,Fd hS],e1,HM hS,fun u=>?_⟩;rw [e1]
 have nd2:(R1.take S++[R1[S]]).Nodup:=by rw [← e2];exact nd
 have nin:R1[S]∉R1.take S:=fun h=>(Hz.mp nd2).2.2 _ h _ Fi rfl;constructor
 · intro h
   exact ⟨RA h,fun e=>nin (by rw [← e];exact h)⟩
 · rintro ⟨h1,h2⟩
   rw [e2]at h1;rcases Fn.mp h1 with h | h
   · exact h
   · exact absurd (Fc.mp h) h2
def lvl:List Int→List Str→Nat→List Str
 | [],_,_=>[]
 | z::_,R,0=>R.take z.toNat
 | z::zs,R,i+1=>lvl zs (R.drop z.toNat) i
def pre(zs:List Int)(i:Nat):Int:=(zs.take i).sum
theorem Im{zs:List Int}(h:∀z∈zs,1≤z)(i:Nat):0≤pre zs i:=by
 unfold pre
 induction zs generalizing i with
 | nil=>simp
 | cons a l ih=>
  cases i with
  | zero=>simp
  | succ i=>
   have h1:=h a Fi;have h2:=ih (fun z hz=>h z (Fb _ hz)) i;rw [HQ,HR];omega
theorem Sn{zs:List Int}{i:Nat}(h:i < zs.length):pre zs (i+1)=pre zs i+zs.getD i 0:=by
 unfold pre;rw [Hy,Fd h,List.sum_append,Fh,Fd h];simp
theorem J5j{zs:List Int}(h:∀z∈zs,1≤z):∀{R:List Str} {i:Nat},i < zs.length→lvl zs R i=(R.drop (pre zs i).toNat).take (zs.getD i 0).toNat:=by
 induction zs with
 | nil=>intro R i hi;cases hi
 | cons a l ih=>
  intro R i hi
  cases i with
  | zero=>simp [lvl,pre]
  | succ i=>
   have h1:=h a Fi;have h2:=Im (zs:=l) (fun z hz=>h z (Fb _ hz)) i
   have e:pre (a::l) (i+1)=a+pre l i:=by unfold pre;rw [HQ,HR]
   show lvl l (R.drop a.toNat) i=_;rw [ih (fun z hz=>h z (Fb _ hz)) (by simpa using hi),e,List.drop_drop,show a.toNat+(pre l i).toNat=(a+pre l i).toNat by omega];rfl
theorem K6{zs:List Int}:∀{R:List Str} {i:Nat} {u:Str},u∈lvl zs R i→u∈R:=by
 induction zs with
 | nil=>intro R i u h;cases h
 | cons a l ih=>
  intro R i u h
  cases i with
  | zero=>exact RA h
  | succ i=>exact List.mem_of_mem_drop (ih (R:=R.drop a.toNat) h)
theorem Vw{zs:List Int}(h:∀z∈zs,1≤z):∀{R:List Str} {u:Str},(R.length:Int)≤zs.sum→u∈R→∃i,i < zs.length∧u∈lvl zs R i:=by
 induction zs with
 | nil=>
  intro R u hs hu
  have:R.length=0:=by simp at hs;simp [hs]
  rw [List.length_eq_zero_iff.mp this]at hu;cases hu
 | cons a l ih=>
  intro R u hs hu;have h1:=h a Fi;rw [HR]at hs
  have h3:0≤l.sum:=by
   have:=Im (zs:=l) (fun z hz=>h z (Fb _ hz)) l.length;unfold pre at this;rw [FV]at this;exact this
  rw [← List.take_append_drop a.toNat R]at hu;rcases Fn.mp hu with hu | hu
  · exact ⟨0,by simp,hu⟩
  · obtain ⟨i,hi,hui⟩:=ih (fun z hz=>h z (Fb _ hz)) (R:=R.drop a.toNat) (by rw [Hi];omega) hu
    exact ⟨i+1,by simpa using hi,hui⟩
theorem J39(xs:List V)(a b:Nat)(h:a≤b):Kz xs (some (a:Int)) (some (b:Int))=(xs.drop a).take (b - a):=by
 unfold Kz;rw [HT.Ky,HT.Ky]
 by_cases h1:a≤xs.length
 · rw [Nat.min_eq_left h1]
   by_cases h2:b≤xs.length
   · rw [Nat.min_eq_left h2]
   · rw [RV (by omega),FS (by rw [Hi];exact Ff _),FS (by rw [Hi];omega)]
 · rw [RV (by omega),RV (by omega),Rp,Rz,List.drop_eq_nil_of_le (by omega),List.take_nil]
theorem Pu{zs:List Int}{R:List Str}{i:Nat}(h:∀z∈zs,1≤z∧z≤1000000)(hi:i < zs.length):Kz (R.map V.str) (some (pre zs i)) (some (pre zs i+zs.getD i 0))=(lvl zs R i).map V.str:=by
 have h0:=Im (fun z hz=>(h z hz).1) i;have hz:=h _ (Fk (Ei hi));rw [J5j (fun z hz=>(h z hz).1) hi]
 have e1:pre zs i=((pre zs i).toNat:Int):=by omega
 have e2:pre zs i+zs.getD i 0=(((pre zs i).toNat+(zs.getD i 0).toNat:Nat):Int):=by omega
 have:=J39 (R.map V.str) (pre zs i).toNat ((pre zs i).toNat+(zs.getD i 0).toNat) (by omega);rw [← e1,← e2]at this;rw [this,show (pre zs i).toNat+(zs.getD i 0).toNat - (pre zs i).toNat=(zs.getD i 0).toNat by omega,← List.map_drop,← List.map_take]
def X6(H:Hp)(as:List Addr)(zs:List Int)(R:List Str)(n:Nat):Prop:=as.length=n∧∀(i:Nat) (a:Addr),as[i]?=some a→H a=some (.lst ((lvl zs R i).map V.str))
def Dh(w:Nat)(K:PySem.W.Frag)(C:Addr):Sp:=fun vs H Q _=>∃(p:Addr) (ts:List Th) (z:Str),vs=[.ref p,.str z]∧Aw K C H p ts∧(ts.map (·.1)).Nodup∧z∈ts.map (·.1)∧∀(i:Nat) (t:Th),ts[i]?=some t→t.1=z→Q (.int (pick w i t)) H
def Ct(C:Addr):Sp:=fun vs H Q _=>∃(t:Addr) (x:TwA) (s:TwS),vs=[.ref t]∧Bh C H t x s∧s.zs.length≤6∧(∀z∈s.zs,1≤z∧z≤1000000)∧
 ∀(p:Addr) (as:List Addr) (H':Hp),H p=none→A9 H H'→H' p=some (.lst (as.map V.ref))→X6 H' as s.zs s.R s.zs.length→(∀a∈as,H a=none)→as.Nodup→p∉as→Q (.ref p) H'
structure Tow(K:PySem.W.Frag)(C S:Addr)(H:Hp)(t:Addr)(x:TwA)(s:TwS)(ts:List Th)(B:Nat):Prop where
 tw:Bh C H t x s
 sk:B5 K S H x.st ts (own t x)
 l:TwL s B (fun y=>y∈s.R)
 nd:s.R.Nodup
 rs:(s.R.length:Int)≤s.zs.sum
 z1:1≤s.zs.length
 zl:s.zs.length≤6
 zz:∀z∈s.zs,1≤z∧z≤1000000
 rn:∀y∈s.R,y∈ts.map (·.1)
 tn:(ts.map (·.1)).Nodup
 tl:ts.length≤59
 ff:s.ff.length=s.zs.length+1
theorem Tow.rl{K:PySem.W.Frag}{C S:Addr}{H:Hp}{t:Addr}{x:TwA}{s:TwS}{ts:List Th}{B:Nat}(h:Tow K C S H t x s ts B):s.R.length≤59:=by
 have h1:=List.Nodup.length_le_of_subset h.nd (fun y hy=>h.rn y hy);rw [Fa]at h1;exact FA h1 h.tl
theorem Tow.s1{K:PySem.W.Frag}{C S:Addr}{H:Hp}{t:Addr}{x:TwA}{s:TwS}{ts:List Th}{B:Nat}(h:Tow K C S H t x s ts B):1≤s.zs.sum:=by
 have h1:=h.z1;have h2:=h.zz
 cases e:s.zs with
 | nil=>rw [e]at h1;cases h1
 | cons a l=>
  rw [e]at h2;have h3:=h2 a Fi;have h4:=Im (zs:=l) (fun z hz=>(h2 z (Fb _ hz)).1) l.length;unfold pre at h4;rw [FV]at h4;rw [HR];omega
theorem Tow.same{K:PySem.W.Frag}{C S:Addr}{H H':Hp}{t:Addr}{x:TwA}{s:TwS}{ts:List Th}{B:Nat}(m:A9 H H')(h:Tow K C S H t x s ts B):Tow K C S H' t x s ts B:=
 ⟨h.tw.same m,h.sk.off (.of m),h.l,h.nd,h.rs,h.z1,h.zl,h.zz,h.rn,h.tn,h.tl,h.ff⟩
def E8(z:Str)(s:TwS):List Str:=(z::s.R.erase z).take s.zs.sum.toNat
theorem G1{K:PySem.W.Frag}{C S:Addr}{H H':Hp}{t:Addr}{x:TwA}{s s':TwS}{ts:List Th}{B B':Nat}{z:Str}(h:Tow K C S H t x s ts B)(hz:z∈ts.map (·.1))(o:Off (own t x) H H')(hT:Bh C H' t x s')(eR:s'.R=E8 z s)(eZ:s'.zs=s.zs)(hL:TwL s' B' (fun y=>y∈s'.R))(hF:s'.ff.length=s.zs.length+1):Tow K C S H' t x s' ts B':=by
 have hs1:=h.s1;refine ⟨hT,h.sk.off o,hL,?_,?_,by rw [eZ];exact h.z1,by rw [eZ];exact h.zl,by rw [eZ];exact h.zz,fun y hy=>?_,h.tn,h.tl,by rw [eZ];exact hF⟩
 · rw [eR];exact (Mx h.nd).sublist (Re _ _)
 · rw [eR,eZ];unfold E8;rw [He];omega
 · rw [eR]at hy
   rcases D5.mp (RA hy) with h1 | h1
   · exact h.rn y h1
   · rw [h1];exact hz
def Gg(K:PySem.W.Frag):Sp:=fun vs H Q _=>∃(a:Addr) (zs:List Int),vs=[.ref a]∧SqL K H a (zs.map V.int)∧1≤zs.length∧zs.length≤6∧(∀z∈zs,1≤z∧z≤1000000)∧Q .non H
def Gh(K:PySem.W.Frag)(S:Addr):Sp:=fun vs H Q _=>∃(p a:Addr) (ts:List Th) (ys:List Str),vs=[.ref p,.ref a]∧Aw K S H p ts∧(ts.map (·.1)).Nodup∧SqL K H a (ys.map V.str)∧(∀y∈ys,y∈ts.map (·.1))∧(∀t∈ts,t.2.2=1)∧ys.length≤60∧Q .non H
theorem C6{H1 Hk:Hp}{t l C dx:Addr}{fs:List (Str×V)}{o:HO}{f:Str}(sb:SameBut t H1 Hk)(ht:Hk t=some (.ins C dx fs))(hl:Hk l=none):
 SameBut t H1 (upd (upd Hk l o) t (.ins C dx (Am f (.ref l) fs)))∧upd (upd Hk l o) t (.ins C dx (Am f (.ref l) fs)) t=some (.ins C dx (Am f (.ref l) fs))∧upd (upd Hk l o) t (.ins C dx (Am f (.ref l) fs)) l=some o∧
  (∀b u,Hk b=some u→b≠t→upd (upd Hk l o) t (.ins C dx (Am f (.ref l) fs)) b=some u)∧H1 l=none∧l≠t∧(∀b u,Hk b=some u→b≠l):=by
 have ntl:l≠t:=(A2 ht hl).symm
 have kp:∀b u,Hk b=some u→b≠t→upd (upd Hk l o) t (.ins C dx (Am f (.ref l) fs)) b=some u:=fun b u e n=>by
  rw [A3 n,A3 (A2 e hl)];exact e
 refine ⟨fun b u e n=>kp b u (sb b u e n) n,A5,by rw [A3 ntl];exact A5,kp,?_,ntl,fun b u e=>A2 e hl⟩
 cases q:H1 l with
 | none=>rfl
 | some u=>rw [sb _ _ q ntl]at hl;cases hl
theorem Ac{f:Str}{v:V}{fs:List (Str×V)}{k:Nat}(h:fs.length≤k):(Am f v fs).length≤k+1:=FA (Ib f v fs) (Nat.succ_le_succ h)
def f1(x:TwA):List (Str×V):=Am (Str.ofString "sizes") (.ref x.si) (Am (Str.ofString "stock") (.ref x.st) [])
def f3(x:TwA):List (Str×V):=Am (Str.ofString "late") (.ref x.la) (Am (Str.ofString "held") (.ref x.he) (Am (Str.ofString "row") (.ref x.ro) (f1 x)))
def f6(x:TwA):List (Str×V):=Am (Str.ofString "paid") (.int 0) (Am (Str.ofString "finds") (.ref x.fi) (Am (Str.ofString "entries") (.ref x.en) (Am (Str.ofString "store") (.ref x.so) (f3 x))))
theorem So(x:TwA):Tfs x 0 (f6 x):=by
 unfold f6 f3 f1;refine ⟨?_,?_,?_,?_,?_,?_,?_,?_,?_,?_,?_⟩
 case refine_10=>exact Fz (Ac (Ac (Ac (Ac (Ac (Ac (Ac (Ac (Ac (Ff _)))))))))) (by decide)
 case refine_11=>
  intro m hm
  have hne:∀m∈[Str.ofString "levels",Str.ofString "stored",Str.ofString "shelf_of",Str.ofString "fetch",Str.ofString "come",Str.ofString "fall_off",Str.ofString "write",Str.ofString "settle",Str.ofString "read",Str.ofString "keep",Str.ofString "rest",Str.ofString "ahead",Str.ofString "diary",Str.ofString "found",Str.ofString "spent"],m≠Str.ofString "paid"∧m≠Str.ofString "finds"∧m≠Str.ofString "entries"∧m≠Str.ofString "store"∧m≠Str.ofString "late"∧m≠Str.ofString "held"∧m≠Str.ofString "row"∧m≠Str.ofString "sizes"∧m≠Str.ofString "stock":=by decide+kernel
  obtain ⟨h1,h2,h3,h4,h5,h6,h7,h8,h9⟩:=hne m hm;rw [Ap,if_neg h1,Ap,if_neg h2,Ap,if_neg h3,Ap,if_neg h4,Ap,if_neg h5,Ap,if_neg h6,Ap,if_neg h7,Ap,if_neg h8,Ap,if_neg h9];rfl
 all_goals repeat first | (rw [Ap,if_pos rfl];done) | rw [Ap,if_neg (by decide+kernel)]
theorem B5.ins{K:PySem.W.Frag}{S C:Addr}{H:Hp}{p t dx:Addr}{ts:List Th}{L:List Addr}(ht:H t=some (.ins C dx []))(h:B5 K S H p ts L):B5 K S H p ts (t::L):=by
 obtain ⟨dy,d,kvs,h1,h2,n1,n2,h3,h4⟩:=h.ex
 have k:∀(b:Addr) (u:HO),H b=some u→u≠ .ins C dx []→b∉L→b∉t::L:=fun b u e ne n z=>by
  rcases Fo.mp z with h | h
  · rw [h,ht]at e;cases e;exact ne rfl
  · exact n h
 refine ⟨dy,d,kvs,h1,h2,k _ _ h1 (by intro z;injection z with _ _ z;cases z) n1,k _ _ h2 (by intro z;cases z) n2,h3,fun i t' e=>?_⟩;obtain ⟨a,e1,⟨e2,n⟩ | e2⟩:=h4 i t' e
 · refine ⟨a,e1,.inl ⟨e2,?_⟩⟩
   rcases e2 with h | ⟨ob,h⟩
   · exact k _ _ h (by intro z;cases z) n
   · exact k _ _ h (by intro z;cases z) n
 · exact ⟨a,e1,.inr e2⟩
theorem J7b(n:Nat):(List.replicate ((n:Int)+1).toNat [V.int 0]).flatten=(List.replicate (n+1) (0:Int)).map V.int:=by
 rw [show ((n:Int)+1).toNat=n+1 by omega,RJ,List.flatten_replicate_singleton]
end N71
namespace L2
def J85(t1 t2:TE):TE:=fun σ H Q=>t1 σ H Q∨t2 σ H Q
theorem J1b{t1 t2:TE}{σ:St}{H:Hp}{Q:VK}:J85 t1 t2 σ H Q=(t1 σ H Q∨t2 σ H Q):=rfl
end L2
namespace L2
section
variable {K:PySem.W.Frag} {σ:St} {H:Hp} {D:Gy} {Q:VK}
theorem J1c{x:V}{vs:List V}:J6k x vs H Q=∃l xs y,x= .ref l∧vs=[]∧H l=some (.lst xs)∧xs[xs.length - 1]?=some y∧Q y (upd H l (.lst xs.dropLast)):=rfl
theorem P1{ta tv:TE}{rd:V→V→Hp→VK→Prop}{f:Str}:Ub K ta tv rd f D σ H=ta σ H fun x H1=>∃a C dx fs v,x= .ref a∧H1 a=some (.ins C dx fs)∧Cls K C∧Bc K C f∧fs.lookup f=some v∧
 tv σ H1 fun y H2=>rd v y H2 fun z H3=>∃dx' fs',H3 a=some (.ins C dx' fs')∧fs'.length < 1000∧D.nx σ (upd H3 a (.ins C dx' (Am f z fs'))):=rfl
theorem J1d{i:Nat}{te:TE}{ti:TIp}:J60 i te ti D σ H=∃x,σ[i]?=some (some x)∧te σ H fun y H1=>ti x y H1 fun z H2=>D.nx (σ.set i (some z)) H2:=rfl
end
end L2
namespace L2
open N1 N5
def J1e(K:PySem.W.Frag)(H:Hp)(x y:V):Prop:=∃(a b:Addr) (as bs:List Addr),x= .ref a∧y= .ref b∧SqL K H a (as.map V.ref)∧SqL K H b (bs.map V.ref)∧as.length=bs.length∧∀(i:Nat) (p q:Addr),as[i]?=some p→bs[i]?=some q→∃xs,SqL K H p xs∧SqL K H q xs∧xs.all Df=true
def J7c(K:PySem.W.Frag):R2:=fun x y H Q=>J1e K H x y∧Q (.bl false) H
theorem Vx{K:PySem.W.Frag}{H:Hp}{Q:VK}{x y:V}:J7c K x y H Q=(J1e K H x y∧Q (.bl false) H):=rfl
end L2
namespace N71
open L2 N1 N5 N4 N6 N12
def Mg:Sp:=fun vs H Q _=>∃c:Int,vs=[.int c]∧∀(p:Addr) (zs:List Int) (H':Hp),H p=none→A9 H H'→H' p=some (.lst (zs.map V.int))→1≤zs.length→zs.length≤6→(∀z∈zs,1≤z∧z≤1000000)→Q (.ref p) H'
theorem Tow.up{K:PySem.W.Frag}{C S:Addr}{H:Hp}{t:Addr}{x:TwA}{s:TwS}{ts:List Th}{B B':Nat}(h:Tow K C S H t x s ts B)(hB:B≤B')(hb:B'≤100000):Tow K C S H t x s ts B':=
 ⟨h.tw,h.sk,h.l.iff (fun _=>Iff.rfl) hB hb,h.nd,h.rs,h.z1,h.zl,h.zz,h.rn,h.tn,h.tl,h.ff⟩
theorem Vy{L L':List Addr}{H:Hp}{b:Addr}{o:HO}(m:∀c∈L',c∈L∨H c=none)(e:H b=some o)(n:b∉L):b∉L':=fun h=>by
 rcases m b h with h | h
 · exact n h
 · rw [h]at e;cases e
end N71
namespace L2
def Itk(o:Obj)(d:Addr):It:=
 ⟨fun i H=>∃kvs p,H d=some (.frz o (.dK kvs))∧kvs[i]?=some p,fun i H v H'=>H'=H∧∀kvs,H d=some (.frz o (.dK kvs))→∃p,kvs[i]?=some p∧v=kV p.1,
  fun i H=>∃kvs,H d=some (.frz o (.dK kvs))∧kvs.length≤i⟩
def tnK(o:Obj)(I d:Addr)(i:Nat)(h:Heap):Prop:=d≠I∧∃es ep,o.data= .dict es ep∧h.IsKeyIter I d i es.size ep
theorem X7{P:Program}{w:World}{K:PySem.W.Frag}{tg:Expr}(o:Obj)(d I:Addr):T7 P w K tg (Itk o d) [I] I (tnK o I d) where
 mem:=by simp
 obj:=fun i h st c hc=>by
  obtain ⟨_,es,ep,_,o1,h1,h2,h3⟩:=st
  have hc:c=I:=by simpa using hc
  subst hc;exact ⟨_,h1,fun v z=>by rw [h3]at z;cases z⟩
 keep:=fun i h h' st kk=>by
  obtain ⟨ne,es,ep,hd,o1,h1,h2,h3⟩:=st;exact ⟨ne,es,ep,hd,o1,kk I (by simp) _ h1,h2,h3⟩
 item:=by
  intro X hP hw hK hc i pins s σ H E J hf st hg;subst hP hw hK;obtain ⟨kvs,p,hd,hp⟩:=hg;obtain ⟨ne,es,ep,hdat,h1⟩:=st;obtain ⟨e,z,lo,ws,rel,ob,es2,ep2,e1,c1,d1,r1⟩:=J.hok d _ hd;have e1':=e1;rw [e]at e1';cases e1';rw [hdat]at d1;cases d1
  have dat:s.heap.DictAt (B8 X.prog X.w) d ws ep:=⟨o,es,e1,c1,hdat,r1⟩
  have hsz:es.size=ws.length:=by
   obtain ⟨_,hpr,_⟩:=r1;rw [← hpr.length];simp
  rw [hsz]at h1
  have hlw:i < ws.length:=by rw [← rel.length];exact (Fe.mp hp).1
  have hw:ws[i]?=some (ws[i]):=Fd hlw;obtain ⟨p',hp',hpk,hpv⟩:=Kr rel hw;rw [hp]at hp';cases hp';obtain ⟨f0,f1,f2,f3,f4,f5⟩:=hf I (by simp);refine wpAny_pyNext_dict_item h1 dat (k:=(ws[i]).1) (v:=(ws[i]).2) hw fun key h' hkey hit' sb=>?_;have I1:Inv X pins σ H {s with heap:=h'}:=J.turned (t':=s.toks) (fun b o hb e=>(sb.2 b hb).trans e) f0 f1 f3 f4 f5
  have rk:B4 (kV p.1) key:=by rw [hpk];exact J4h hkey
  obtain ⟨o',e',c',d'⟩:=id hit';exact ⟨key,rfl,U7 (s:={s with heap:=h'}) e' c' d' (by decide) ⟨kV p.1,H,I1,rk,⟨rfl,fun kvs' hy'=>by rw [hd]at hy';cases hy';exact ⟨p,hp,rfl⟩⟩,⟨ne,es,ep,hdat,by rw [hsz];exact hit'⟩,fun c hc=>(hf c hc).1⟩⟩
 done:=by
   intro X hP hw hK hc i pins s σ H E J hf st hg;subst hP hw hK;obtain ⟨kvs,hd,hl⟩:=hg;obtain ⟨ne,es,ep,hdat,h1⟩:=st;obtain ⟨e,z,lo,ws,rel,ob,es2,ep2,e1,c1,d1,r1⟩:=J.hok d _ hd;have e1':=e1;rw [e]at e1';cases e1';rw [hdat]at d1;cases d1
   have dat:s.heap.DictAt (B8 X.prog X.w) d ws ep:=⟨o,es,e1,c1,hdat,r1⟩
   have hsz:es.size=ws.length:=by
    obtain ⟨_,hpr,_⟩:=r1;rw [← hpr.length];simp
   rw [hsz]at h1;have hn:ws[i]?=none:=Ht (by rw [← rel.length];exact hl);obtain ⟨f0,f1,f2,f3,f4,f5⟩:=hf I (by simp)
   exact wpAny_pyNext_dict_end (J.ok.hd hc) h1 dat hn fun h' eb=>⟨rfl,J.turned (t':=s.toks) (fun b o hb e=>eb b o hb e) f0 f1 f3 f4 f5⟩
 self:=fun A i s Q E st h=>by
  obtain ⟨_,es,ep,_,h1⟩:=st;exact wpAny_pyIter_keyiter h1 h
section
variable {X:Cx}
def J4l(tl:TE):TI:=fun σ H R=>tl σ H fun x H1=>∃d kvs,x= .ref d∧((H1 d=some (.dK kvs)∧∀o,R (Itk o d) (upd H1 d (.frz o (.dK kvs))))∨∃o,H1 d=some (.frz o (.dK kvs))∧R (Itk o d) H1)
theorem J3a{tg e:Expr}{tl:TE}(hl:PE X e tl):PI X tg e (J4l tl):=by
 intro pins s σ H R I h;refine thn (hl pins s σ H _ I h) fun u s1 hq_=>?_;obtain ⟨x,H1,I1,rx,q⟩:=hq_;obtain ⟨d,kvs,rfl,hq⟩:=q;cases rx
 have key:∀(o:Obj) (H2:Hp),Inv X pins σ H2 s1→H2 d=some (.frz o (.dK kvs))→R (Itk o d) H2→wpAny (model X.prog X.w) X.A (pyIter (.ref d)) (PIE X pins σ tg R) X.xe s1:=by
  intro ob H2 I2 hd q;obtain ⟨e,z,lo,ws,rel,ob',es2,ep2,e1,c1,d1,r1⟩:=I2.hok d _ hd;have e1':=e1;rw [e]at e1';cases e1'
  have dat:s1.heap.DictAt (B8 X.prog X.w) d ws ep2:=⟨ob,es2,e1,c1,d1,r1⟩
  have hsz:es2.size=ws.length:=by
   obtain ⟨_,hpr,_⟩:=r1;rw [← hpr.length];simp
  refine wpAny_pyIter_dict lo dat ?_;have I3:Inv X pins σ H2 {s1 with heap:=s1.heap.push {cls:= .type "dict_keyiterator",data:= .fields #[.ref d,.int 0 0,.int ws.length 0,.int ep2 0]}}:=I2.kept (t':=s1.toks) fun b o e=>Fl _ e;have ltd:=Fp e1;refine ⟨s1.heap.objs.size,[s1.heap.objs.size],_,_,_,rfl,I3,X7 ob d s1.heap.objs.size,⟨FD ltd,es2,ep2,d1,?_⟩,fun c hc=>?_,q⟩
  · rw [hsz];exact ⟨_,FG _ rfl,rfl,rfl⟩
  · have hc:c=s1.heap.objs.size:=by simpa using hc
    subst hc;exact I2.fpOk (Ff _) (I2.hok.fresh (Ff _))
 rcases hq with ⟨hd,q⟩ | ⟨o,hd,q⟩
 · obtain ⟨z,lo,ws,rel,ob,es2,ep2,e1,c1,d1,r1⟩:=I1.hok d _ hd
   have I2:Inv X pins σ (upd H1 d (.frz ob (.dK kvs))) {s1 with heap:=s1.heap,toks:=s1.toks}:=I1.write (x:=d) (e:=d) (by rw [hd];trivial) (.inl rfl) (fun b u _ e=>e) ⟨ob,e1⟩ ⟨e1,z,lo,ws,rel,ob,es2,ep2,e1,c1,d1,r1⟩;exact key ob _ I2 A5 (q ob)
 · exact key o H1 I1 hd q
end
section
variable {σ:St} {H:Hp} {D:Gy}
theorem Sq{tl:TE}{R:It→Hp→Prop}:J4l tl σ H R=tl σ H fun x H1=>∃d kvs,x= .ref d∧((H1 d=some (.dK kvs)∧∀o,R (Itk o d) (upd H1 d (.frz o (.dK kvs))))∨∃o,H1 d=some (.frz o (.dK kvs))∧R (Itk o d) H1):=rfl
theorem J3b{o:Obj}{d:Addr}{kvs:List (Key×V)}{g:TG}{tb:TS}(Pv:Nat→St→Hp→Prop)(h0:Pv 0 σ H)(hl:∀i σ H,i≤kvs.length→Pv i σ H→H d=some (.frz o (.dK kvs)))
 (hs:∀i p σ H,kvs[i]?=some p→Pv i σ H→g (kV p.1) σ H fun σ2 H2=>tb {D with nx:=Pv (i+1),ct:=Pv (i+1),bk:=D.nx} σ2 H2) (hd:∀σ H,Pv kvs.length σ H→D.nx σ H):L7 g tb D σ (Itk o d) H:=by
 refine ⟨fun i m σ H=>i≤kvs.length∧m=kvs.length - i∧Pv i σ H,⟨_,Fq _,rfl,h0⟩,fun i m σ H ⟨hi,hm,hP⟩=>?_⟩;have hq:=hl i σ H hi hP
 cases hx:kvs[i]? with
 | none=>
  have hn:kvs.length≤i:=by simpa using hx
  have e:i=kvs.length:=Nat.le_antisymm hi hn;subst e;exact .inl ⟨⟨kvs,hq,Ff _⟩,hd σ H hP⟩
 | some p=>
  have hlt:i < kvs.length:=(Fe.mp hx).1;refine .inr ⟨⟨kvs,p,hq,hx⟩,Pv (i+1),fun σ' H' h=>⟨kvs.length - (i+1),by omega,by omega,rfl,h⟩,?_⟩;rintro y H' ⟨rfl,hy⟩;obtain ⟨p',hp',rfl⟩:=hy kvs hq;have e:=hp'.symm.trans hx;cases e;exact hs i _ σ H' hx hP
end
end L2
namespace N74
open L2 N1 N5 N4 N6 N12 N71
structure Gt where
 h:Str→Int
 l:Str→Bool
 st:Str→Int
 es:List (List V)
def Cz{α:Type}(f:Str→α)(z:Str)(v:α):Str→α:=fun y=>if y=z then v else f y
theorem Ba{α:Type}{f:Str→α}{z:Str}{v:α}:Cz f z v z=v:=if_pos rfl
theorem C7{α:Type}{f:Str→α}{z y:Str}{v:α}(n:y≠z):Cz f z v y=f y:=if_neg n
def wrT(z:Str)(v:Int):List V:=[.str (Str.ofString "write"),.str z,.int v]
def Gt.write(g:Gt)(z:Str):Gt:={g with st:=Cz g.st z (g.h z),es:=g.es++[wrT z (g.h z)]}
def Gt.late(g:Gt)(z:Str)(b:Bool):Gt:={g with l:=Cz g.l z b}
def Gt.hold(g:Gt)(z:Str)(v:Int):Gt:={g with h:=Cz g.h z v}
def Lb(pr:Bool)(z:Str)(g:Gt):Gt:=if pr then g.write z else g.late z true
def Ci(z:Str)(g:Gt):Gt:=if g.l z then (g.late z false).write z else g
def Vz(R:List Str):Str:=(R[R.length - 1]?).getD Str.empty
def Bk(S:Int)(R:List Str)(z:Str)(g:Gt):Gt:=if S < ((z::R.erase z).length:Int) then Ci (Vz (z::R.erase z)) g else g
def E6(w z:Str)(g:Gt):Gt:={g with es:=g.es++[[.str w,.str z]],h:=Cz g.h z (g.st z)}
def Dq(S:Int)(R:List Str)(z:Str)(g:Gt):Gt:=Bk S R z (if z∈R then g else E6 (Str.ofString "fetch") z g)
def P2(pr:Bool)(S:Int)(R:List Str)(z:Str)(v:Int)(g:Gt):Gt:=Bk S R z (Lb pr z (g.hold z v))
def D0(S:Int)(R:List Str)(z:Str)(g:Gt):Gt:=if z∈R then g else Bk S R z (E6 (Str.ofString "ahead") z g)
def Cb(ys:List Str)(g:Gt):Gt:=ys.foldl (fun g y=>g.write y) g
def Kk(R:List Str)(g:Gt):Gt:={Cb (R.filter g.l) g with l:=fun _=>false}
structure TwG(H:Hp)(s:TwS)(g:Gt)(B:Nat)(hd:Str→Prop):Prop where
 h:∀y,hd y→Ay s.kh (Sum.inr y)=some (.int (g.h y))
 l:∀y,(Ay s.kl (Sum.inr y)).isSome=g.l y
 lh:∀y,g.l y=true→hd y
 st:∀y,(Ay s.ks (Sum.inr y)).getD (.int 0)= .int (g.st y)
 es:∃us:List Addr,s.es=us.map V.ref∧us.length=g.es.length∧∀(i:Nat) (u:Addr) (e:List V),us[i]?=some u→g.es[i]?=some e→H u=some (.tup e)
 n1:s.kh.length≤B
 n2:s.kl.length≤B
 n3:s.ks.length≤B
 n4:s.es.length≤B
 b:B≤100000
 fl:∀e∈g.es,e.all Df=true
section
variable {H H':Hp} {s s':TwS} {g:Gt} {B B':Nat} {hd q:Str→Prop} {z:Str}
theorem TwG.toL(h:TwG H s g B hd):TwL s B hd:=by
 refine ⟨fun y hy=>⟨_,h.h y hy⟩,fun y hy=>h.lh y (by rw [← h.l y];exact hy),fun y v hv=>?_,h.n1,h.n2,h.n3,h.n4,h.b⟩;have:=h.st y;rw [hv]at this;exact ⟨_,this⟩
theorem TwG.keep(h:TwG H s g B hd)(k:∀v e,H v=some (.tup e)→H' v=some (.tup e)):TwG H' s g B hd:=by
 obtain ⟨us,e1,e2,e3⟩:=h.es;exact ⟨h.h,h.l,h.lh,h.st,⟨us,e1,e2,fun i u e h1 h2=>k _ _ (e3 i u e h1 h2)⟩,h.n1,h.n2,h.n3,h.n4,h.b,h.fl⟩
theorem TwG.same(m:A9 H H')(h:TwG H s g B hd):TwG H' s g B hd:=h.keep fun v e hv=>m _ _ hv
theorem Mh{C t:Addr}{x:TwA}(hT:Bh C H t x s')(o:Off (own t x) H H'):∀v e,H v=some (.tup e)→H' v=some (.tup e):=fun v e hv=>by
 refine o v _ hv fun hm=>?_;obtain ⟨dx,fs,h1,h2⟩:=hT.o
 have hm':v=t∨v=x.ro∨v=x.he∨v=x.la∨v=x.so∨v=x.en∨v=x.fi:=by simpa [own] using hm
 rcases hm' with e | e | e | e | e | e | e <;> rw [e]at hv
 · rw [h1]at hv;cases hv
 · rw [hT.ro]at hv;cases hv
 · rw [hT.he]at hv;cases hv
 · rw [hT.la]at hv;cases hv
 · rw [hT.so]at hv;cases hv
 · rw [hT.en]at hv;cases hv
 · rw [hT.fi]at hv;cases hv
theorem TwG.off{C t:Addr}{x:TwA}(hT:Bh C H t x s')(o:Off (own t x) H H')(h:TwG H s g B hd):TwG H' s g B hd:=h.keep (Mh hT o)
theorem TwG.iff(h:TwG H s g B hd)(e:∀u,hd u↔q u)(hB:B≤B')(hb:B'≤100000):TwG H s g B' q:=
 ⟨fun y hy=>h.h y ((e y).mpr hy),h.l,fun y hy=>(e y).mp (h.lh y hy),h.st,h.es,FA h.n1 hB,FA h.n2 hB,FA h.n3 hB,FA h.n4 hB,hb,h.fl⟩
theorem TwG.cast(h:TwG H s g B hd)(e1:s'.kh=s.kh)(e2:s'.kl=s.kl)(e3:s'.ks=s.ks)(e4:s'.es=s.es):TwG H s' g B hd:=
 ⟨by rw [e1];exact h.h,by rw [e2];exact h.l,h.lh,by rw [e3];exact h.st,by rw [e4];exact h.es,by rw [e1];exact h.n1,by rw [e2];exact h.n2,by rw [e3];exact h.n3,by rw [e4];exact h.n4,h.b,h.fl⟩
theorem Dm{y z:Str}(e:y≠z):(Sum.inr y:Key)≠Sum.inr z:=fun h=>e (by injection h)
theorem Pw{us:List Addr}{ee:List (List V)}{u:Addr}{e:List V}(hl:us.length=ee.length)(k:∀v e,H v=some (.tup e)→H' v=some (.tup e))(h:∀(i:Nat) (u:Addr) (e:List V),us[i]?=some u→ee[i]?=some e→H u=some (.tup e))(hu:H' u=some (.tup e)):
 ∀(i:Nat) (v:Addr) (f:List V),(us++[u])[i]?=some v→(ee++[e])[i]?=some f→H' v=some (.tup f):=by
 intro i v f h1 h2
 by_cases hi:i < us.length
 · rw [Fw hi]at h1
   rw [Fw (by omega)]at h2;exact k _ _ (h i v f h1 h2)
 · have h3:=(Fe.mp h1).1
   rw [Fj]at h3
   have h4:i=us.length:=by simp at h3;omega
   subst h4;rw [FB (Ff _),Rp]at h1;rw [hl,FB (Ff _),Rp]at h2;cases h1;cases h2;exact hu
theorem Px{ee:List (List V)}{e:List V}(h:∀e∈ee,e.all Df=true)(he:e.all Df=true):∀f∈ee++[e],f.all Df=true:=fun f hf=>by
 rcases Fn.mp hf with h1 | h1
 · exact h f h1
 · rw [Fc.mp h1];exact he
theorem TwG.wrote(h:TwG H s g B hd)(hz:hd z)(k:∀v e,H v=some (.tup e)→H' v=some (.tup e)){u:Addr}(hu:H' u=some (.tup (wrT z (g.h z))))(hB:B+1≤100000):TwG H' {s with ks:=B1 s.ks (Sum.inr z) (.int (g.h z)),es:=s.es++[.ref u]} (g.write z) (B+1) hd:=by
 obtain ⟨us,e1,e2,e3⟩:=h.es;have h5:=Bg s.ks (Sum.inr z:Key) (V.int (g.h z));refine ⟨h.h,h.l,h.lh,fun y=>?_,⟨us++[u],by rw [FC,e1];rfl,by show _=(g.es++[_]).length;rw [Fj,Fj,e2];rfl,Pw e2 k e3 hu⟩,FK h.n1,FK h.n2,by have:=h.n3;show (B1 _ _ _).length≤_;omega,by have:=h.n4;show (s.es++[_]).length≤_;rw [Fj];show s.es.length+1≤_;omega,hB,Px h.fl rfl⟩;show (Ay (B1 s.ks (Sum.inr z) (.int (g.h z))) (Sum.inr y)).getD (.int 0)= .int (Cz g.st z (g.h z) y);rw [C3]
 by_cases e:y=z
 · subst e;rw [if_pos rfl,Ba];rfl
 · rw [if_neg (Dm e),C7 e];exact h.st y
theorem TwG.noted(h:TwG H s g B hd)(k:∀v e,H v=some (.tup e)→H' v=some (.tup e)){u:Addr}{e:List V}(hu:H' u=some (.tup e))(he:e.all Df=true)(hB:B+1≤100000){pd:Int}:TwG H' {s with pd:=pd,es:=s.es++[.ref u]} {g with es:=g.es++[e]} (B+1) hd:=by
 obtain ⟨us,e1,e2,e3⟩:=h.es;exact ⟨h.h,h.l,h.lh,h.st,⟨us++[u],by rw [FC,e1];rfl,by show _=(g.es++[_]).length;rw [Fj,Fj,e2];rfl,Pw e2 k e3 hu⟩,FK h.n1,FK h.n2,FK h.n3,by have:=h.n4;show (s.es++[_]).length≤_;rw [Fj];show s.es.length+1≤_;omega,hB,Px h.fl he⟩
theorem TwG.fetched(h:TwG H s g B hd)(k:∀v e,H v=some (.tup e)→H' v=some (.tup e)){u:Addr}{w:Str}(hu:H' u=some (.tup [.str w,.str z]))(hB:B+1≤100000){pd:Int}:TwG H' {s with pd:=pd,es:=s.es++[.ref u],kh:=B1 s.kh (Sum.inr z) (.int (g.st z))} (E6 w z g) (B+1) (fun y=>hd y∨y=z):=by
 obtain ⟨us,e1,e2,e3⟩:=h.es;have h5:=Bg s.kh (Sum.inr z:Key) (V.int (g.st z));refine ⟨fun y hy=>?_,h.l,fun y hy=> .inl (h.lh y hy),h.st,⟨us++[u],by rw [FC,e1];rfl,by show _=(g.es++[_]).length;rw [Fj,Fj,e2];rfl,Pw e2 k e3 hu⟩,by have:=h.n1;show (B1 _ _ _).length≤_;omega,FK h.n2,FK h.n3,by have:=h.n4;show (s.es++[_]).length≤_;rw [Fj];show s.es.length+1≤_;omega,hB,Px h.fl rfl⟩;show Ay (B1 s.kh (Sum.inr z) (.int (g.st z))) (Sum.inr y)=some (.int (Cz g.h z (g.st z) y));rw [C3]
 by_cases e:y=z
 · subst e;rw [if_pos rfl,Ba]
 · rw [if_neg (Dm e),C7 e];exact h.h y (hy.resolve_right e)
theorem TwG.kept(h:TwG H s g B hd)(v:Int)(hB:B+1≤100000):TwG H {s with kh:=B1 s.kh (Sum.inr z) (.int v)} (g.hold z v) (B+1) (fun y=>hd y∨y=z):=by
 have h5:=Bg s.kh (Sum.inr z:Key) (V.int v);refine ⟨fun y hy=>?_,h.l,fun y hy=> .inl (h.lh y hy),h.st,h.es,by have:=h.n1;show (B1 _ _ _).length≤_;omega,FK h.n2,FK h.n3,FK h.n4,hB,h.fl⟩;show Ay (B1 s.kh (Sum.inr z) (.int v)) (Sum.inr y)=some (.int (Cz g.h z v y));rw [C3]
 by_cases e:y=z
 · subst e;rw [if_pos rfl,Ba]
 · rw [if_neg (Dm e),C7 e];exact h.h y (hy.resolve_right e)
theorem TwG.lateOn(h:TwG H s g B hd)(hz:hd z)(hB:B+1≤100000):TwG H {s with kl:=B1 s.kl (Sum.inr z) (.bl true)} (g.late z true) (B+1) hd:=by
 have h5:=Bg s.kl (Sum.inr z:Key) (V.bl true);refine ⟨h.h,fun y=>?_,fun y hy=>?_,h.st,h.es,FK h.n1,by have:=h.n2;show (B1 _ _ _).length≤_;omega,FK h.n3,FK h.n4,hB,h.fl⟩
 · show (Ay (B1 s.kl (Sum.inr z) (.bl true)) (Sum.inr y)).isSome=Cz g.l z true y
   rw [C3]
   by_cases e:y=z
   · subst e;rw [if_pos rfl,Ba];rfl
   · rw [if_neg (Dm e),C7 e];exact h.l y
 · by_cases e:y=z
   · rw [e];exact hz
   · have hy2:Cz g.l z true y=true:=hy
     rw [C7 e]at hy2;exact h.lh y hy2
theorem TwG.lateOff(h:TwG H s g B hd):TwG H {s with kl:=B9 s.kl (Sum.inr z)} (g.late z false) B hd:=by
 have h5:=Sm s.kl (Sum.inr z:Key);refine ⟨h.h,fun y=>?_,fun y hy=>?_,h.st,h.es,h.n1,by have:=h.n2;show (B9 _ _).length≤_;omega,h.n3,h.n4,h.b,h.fl⟩
 · show (Ay (B9 s.kl (Sum.inr z)) (Sum.inr y)).isSome=Cz g.l z false y
   by_cases e:y=z
   · subst e;rw [Il,Ba];rfl
   · rw [Kt (Dm e),C7 e];exact h.l y
 · have hy2:Cz g.l z false y=true:=hy
   by_cases e:y=z
   · rw [e,Ba]at hy2;cases hy2
   · rw [C7 e]at hy2;exact h.lh y hy2
theorem TwG.popped(h:TwG H s g B hd)(hz:g.l z=false):TwG H {s with kh:=B9 s.kh (Sum.inr z)} g B (fun y=>hd y∧y≠z):=by
 have h5:=Sm s.kh (Sum.inr z:Key);refine ⟨fun y hy=>?_,h.l,fun y hy=>⟨h.lh y hy,fun e=>by rw [e,hz]at hy;cases hy⟩,h.st,h.es,by have:=h.n1;show (B9 _ _).length≤_;omega,h.n2,h.n3,h.n4,h.b,h.fl⟩;show Ay (B9 s.kh (Sum.inr z)) (Sum.inr y)=_;rw [Kt (Dm hy.2)];exact h.h y hy.1
theorem TwG.noLate(h:TwG H s g B hd):TwG H {s with kl:=[]} {g with l:=fun _=>false} B hd:=
 ⟨h.h,(fun y=>rfl),(fun y hy=>by cases hy),h.st,h.es,h.n1,Fq _,h.n3,h.n4,h.b,h.fl⟩
end
structure Cj(K:PySem.W.Frag)(C S:Addr)(H:Hp)(t:Addr)(x:TwA)(s:TwS)(g:Gt)(ts:List Th)(B:Nat):Prop where
 to:Tow K C S H t x s ts B
 g:TwG H s g B (fun y=>y∈s.R)
theorem Cj.same{K:PySem.W.Frag}{C S:Addr}{H H':Hp}{t:Addr}{x:TwA}{s:TwS}{g:Gt}{ts:List Th}{B:Nat}(m:A9 H H')(h:Cj K C S H t x s g ts B):Cj K C S H' t x s g ts B:=⟨h.to.same m,h.g.same m⟩
def Bd(ts:List Th)(z:Str):Int:=((ts.find? fun t=>t.1=z).map fun t=>t.2.1).getD 0
theorem M6{ts:List Th}{z:Str}{i:Nat}{t:Th}(nd:(ts.map (·.1)).Nodup)(h:ts[i]?=some t)(e:t.1=z):Bd ts z=t.2.1:=by
 unfold Bd
 cases hf:ts.find? (fun t=>t.1=z) with
 | none=>
  rw [List.find?_eq_none]at hf;exact absurd (by simpa using e) (hf t (Fk h))
 | some t'=>
  have h1:=List.mem_of_find?_eq_some hf
  have h2:t'.1=z:=by simpa using List.find?_some hf
  obtain ⟨j,hj⟩:=FE.mp h1
  have ij:i=j:=by
   have hi:=(Fe.mp h).1;have hj':=(Fe.mp hj).1;refine (List.getElem_inj (h₀:=show i < (ts.map fun t:Th=>t.1).length by simpa using hi) (h₁:=show j < (ts.map fun t:Th=>t.1).length by simpa using hj') nd).mp ?_;have a1:ts[i]=t:=(Fe.mp h).2;have a2:ts[j]=t':=(Fe.mp hj).2;rw [List.getElem_map,List.getElem_map,a1,a2,e,h2]
  subst ij;rw [hj]at h;cases h;rfl
def Dr(C:Addr):Sp:=fun vs H Q _=>∃(t:Addr) (x:TwA) (s:TwS) (g:Gt) (z:Str) (B:Nat) (hd:Str→Prop),vs=[.ref t,.str z]∧Bh C H t x s∧TwG H s g B hd∧B≤90000∧hd z∧
 ∀(s':TwS) (H':Hp),Off (own t x) H H'→Bh C H' t x s'→s'.R=s.R→s'.zs=s.zs→s'.ff=s.ff→s'.pd=s.pd→s'.kl=s.kl→TwG H' s' (g.write z) (B+1) hd→Q .non H'
def Di(C:Addr)(pr:Bool):Sp:=fun vs H Q _=>∃(t:Addr) (x:TwA) (s:TwS) (g:Gt) (z:Str) (B:Nat) (hd:Str→Prop),vs=[.ref t,.str z]∧Bh C H t x s∧TwG H s g B hd∧B≤90000∧hd z∧
 ∀(s':TwS) (H':Hp),Off (own t x) H H'→Bh C H' t x s'→s'.R=s.R→s'.zs=s.zs→s'.ff=s.ff→s'.pd=s.pd→TwG H' s' (Lb pr z g) (B+1) hd→Q .non H'
def Ed(C:Addr):Sp:=fun vs H Q _=>∃(t:Addr) (x:TwA) (s:TwS) (g:Gt) (z:Str) (B:Nat) (hd:Str→Prop),vs=[.ref t,.str z]∧Bh C H t x s∧TwG H s g B hd∧B≤90000∧hd z∧
 ∀(s':TwS) (H':Hp),Off (own t x) H H'→Bh C H' t x s'→s'.R=s.R→s'.zs=s.zs→s'.ff=s.ff→s'.pd=s.pd→TwG H' s' (Ci z g) (B+1) (fun y=>hd y∧y≠z)→Q .non H'
def Ee(C:Addr):Sp:=fun vs H Q _=>∃(t:Addr) (x:TwA) (s:TwS) (g:Gt) (z:Str) (B:Nat),vs=[.ref t,.str z]∧Bh C H t x s∧TwG H s g B (fun y=>y∈s.R∨y=z)∧B≤90000∧s.R.Nodup∧s.R.length≤60∧(s.R.length:Int)≤s.zs.sum∧1≤s.zs.sum∧
 ∀(s':TwS) (H':Hp),Off (own t x) H H'→Bh C H' t x s'→s'.R=(z::s.R.erase z).take s.zs.sum.toNat→s'.zs=s.zs→s'.ff=s.ff→s'.pd=s.pd→TwG H' s' (Bk s.zs.sum s.R z g) (B+1) (fun y=>y∈s'.R)→Q .non H'
def Cu(K:PySem.W.Frag)(C S:Addr):Sp:=fun vs H Q _=>∃(t:Addr) (x:TwA) (s:TwS) (g:Gt) (z:Str) (ts:List Th) (B:Nat) (hd:Str→Prop),vs=[.ref t,.str z]∧Bh C H t x s∧B5 K S H x.st ts (own t x)∧(ts.map (·.1)).Nodup∧z∈ts.map (·.1)∧TwG H s g B hd∧Q (.int (g.st z)) H
def Ds(K:PySem.W.Frag)(C S:Addr):Sp:=fun vs H Q _=>∃(t:Addr) (x:TwA) (s:TwS) (g:Gt) (w z:Str) (ts:List Th) (B:Nat) (p:Str→Prop),vs=[.ref t,.str w,.str z]∧Bh C H t x s∧B5 K S H x.st ts (own t x)∧(ts.map (·.1)).Nodup∧z∈ts.map (·.1)∧TwG H s g B p∧B≤90000∧
 ∀(s':TwS) (H':Hp),Off (own t x) H H'→Bh C H' t x s'→s'.R=s.R→s'.zs=s.zs→s'.ff=s.ff→s'.pd=s.pd+Bd ts z→TwG H' s' (E6 w z g) (B+1) (fun y=>p y∨y=z)→Q .non H'
def Nt(C:Addr):Sp:=fun vs H Q _=>∃(t:Addr) (x:TwA) (s:TwS),vs=[.ref t]∧Bh C H t x s∧s.es.length≤100000∧∀(p:Addr) (H':Hp),H p=none→A9 H H'→H' p=some (.lst s.es)→Q (.ref p) H'
def g0:Gt:=⟨fun _=>0,fun _=>false,fun _=>0,[]⟩
end N74
namespace N74
open L2 N1 N5 N4 N6 N12 N71
theorem Cj.up{K:PySem.W.Frag}{C S:Addr}{H:Hp}{t:Addr}{x:TwA}{s:TwS}{g:Gt}{ts:List Th}{B B':Nat}(h:Cj K C S H t x s g ts B)(hB:B≤B')(hb:B'≤100000):Cj K C S H t x s g ts B':=⟨h.to.up hB hb,h.g.iff (fun _=>Iff.rfl) hB hb⟩
end N74
namespace L2
theorem W0{σ:St}{H:Hp}{Q:VK}{trs:List (TE×TE)}:J43 trs σ H Q=∀p,H p=none→Lu trs σ (upd H p (.dK [])) fun ps H2=>H2 p=some (.dK [])∧∃kvs:List (Key×V),ps=kvs.map (fun kv=>(kV kv.1,kv.2))∧kvs.length≤15∧Q (.ref p) (upd H2 p (.dK (Kp [] kvs))):=rfl
end L2
namespace N76
open L2 N1 N5 N4 N6 N12 N71 N74
structure StA where
 li:Addr
 ne:Addr
 la:Addr
 fa:Addr
 no:Addr
def J7d(S:Int)(R:List Str)(d:Int)(z:Str):List Str:=if 6 < d then R else if d=6∧z∈R then R else (z::R.erase z).take S.toNat
def J7e(pr:Bool)(S:Int)(R:List Str)(d:Int)(z:Str)(v:Int)(g:Gt):Gt:=if 6 < d then Kk R g else if d=6 then D0 S R z g else if d < 3 then Dq S R z g else P2 pr S R z v g
def J7f(S:Int)(R:List Str)(d:Int)(z:Str)(v:Int)(g:Gt):V:=if 6 < d then .int ((R.filter g.l).length:Nat) else if d=6 then .bl (decide (z∉R)) else if d < 3 then .int ((Dq S R z g).h z) else .int v
def s0(zs:List Int):TwS:=⟨zs,[],[],[],[],[],[],0⟩
theorem Gj{K:PySem.W.Frag}{S:Addr}{H H':Hp}{p:Addr}{ts:List Th}{L L1 M:List Addr}(h:B5 K S H p ts L)(o:Off M H H')(hM:∀b∈M,b∈L)(m:∀b∈L1,b∈L∨H b=none):B5 K S H' p ts L1:=
 ((h.mono (L':=L++L1) (fun b hb=>by
   rcases Fn.mp hb with k | k
   · exact .inl k
   · exact m b k)).off (o.mono fun b hb=>FL _ (hM b hb))).mono fun b hb=> .inl (Fs _ hb)
theorem Nu{K:PySem.W.Frag}{C S:Addr}{H H':Hp}{t:Addr}{x:TwA}{s:TwS}{g:Gt}{ts:List Th}{B:Nat}{M:List Addr}(h:Cj K C S H t x s g ts B)(o:Off M H H')(n:∀b∈x.si::own t x,b∉M)(kt:∀v e,H v=some (.tup e)→H' v=some (.tup e))(sk:B5 K S H' x.st ts (own t x)):Cj K C S H' t x s g ts B:=by
 obtain ⟨dx,fs,h1,h2⟩:=h.to.tw.o;exact ⟨⟨⟨⟨dx,fs,o _ _ h1 (n _ (by simp [own])),h2⟩,o _ _ h.to.tw.si (n _ (by simp [own])),o _ _ h.to.tw.ro (n _ (by simp [own])),o _ _ h.to.tw.he (n _ (by simp [own])),o _ _ h.to.tw.la (n _ (by simp [own])),o _ _ h.to.tw.so (n _ (by simp [own])),o _ _ h.to.tw.en (n _ (by simp [own])),o _ _ h.to.tw.fi (n _ (by simp [own])),h.to.tw.d1,h.to.tw.d2,h.to.tw.d3,h.to.tw.l1,h.to.tw.l2,h.to.tw.l3,h.to.tw.l4,h.to.tw.l5,h.to.tw.l6⟩,sk,h.to.l,h.to.nd,h.to.rs,h.to.z1,h.to.zl,h.to.zz,h.to.rn,h.to.tn,h.to.tl,h.to.ff⟩,h.g.keep kt⟩
theorem Io{C:Addr}{H:Hp}{t:Addr}{x:TwA}{s:TwS}(h:Bh C H t x s):∀b∈x.si::own t x,∃o,H b=some o:=fun b hb=>by
 obtain ⟨dx,fs,h1,h2⟩:=h.o
 have hb':b=x.si∨b=t∨b=x.ro∨b=x.he∨b=x.la∨b=x.so∨b=x.en∨b=x.fi:=by simpa [own] using hb
 rcases hb' with h' | h' | h' | h' | h' | h' | h' | h' <;> rw [h']
 · exact ⟨_,h.si⟩
 · exact ⟨_,h1⟩
 · exact ⟨_,h.ro⟩
 · exact ⟨_,h.he⟩
 · exact ⟨_,h.la⟩
 · exact ⟨_,h.so⟩
 · exact ⟨_,h.en⟩
 · exact ⟨_,h.fi⟩
end N76
namespace N75
open L2 N1 N5 N4 N6 N12 N71 N74 N76
def J1f(d:Int):Prop:=3≤d∧d < 6
instance (d:Int):Decidable (J1f d):=inferInstanceAs (Decidable (3≤d∧d < 6))
def o1(d:Int)(z:Str)(g:Gt):Str→Bool:=if J1f d then Cz g.l z true else g.l
def h1(d:Int)(z:Str)(v:Int)(g:Gt):Str→Int:=if J1f d then Cz g.h z v else g.h
def J86(R:List Str)(d:Int)(z:Str):Option Str:=if z∈R then none else if d < 3 then some (Str.ofString "fetch") else if d=6 then some (Str.ofString "ahead") else none
def Sr(c k:Int):Int:=(c % 1000000007+7919 * k+1) * (c % 1000000007+7919 * k+1) % 2147483647 * 48271 % 2147483629
def J87(j:Int):Int:=if j=0 then 10 ^ 30 else if j=1 then -10 ^ 30 else 0
def J5k(v:Int):Int:=if v % 11=5 then J87 (v / 11 % 3) else if v % 3=0 then v / 3 % 7 - 3 else v ^ 5 % (2 * 10 ^ 30+1) - 10 ^ 30
def Lc:Sp:=fun vs H Q _=>∃c k:Int,vs=[.int c,.int k]∧0≤k∧k≤1000∧(0≤Sr c k→Sr c k < 2147483629→Q (.int (Sr c k)) H)
def Nv:Sp:=fun vs H Q _=>∃(c:Int) (k:Nat),vs=[.int c,.int k]∧k≤200∧∀(H':Hp),-(10 ^ 30)≤J5k (Sr c k)→J5k (Sr c k)≤10 ^ 30→A9 H H'→Q (.int (J5k (Sr c k))) H'
def J88(H:Hp)(as:List Addr)(es:List (List V)):Prop:=as.length=es.length∧∀(i:Nat) (a:Addr) (e:List V),as[i]?=some a→es[i]?=some e→H a=some (.tup e)
def D9(C:Addr):Sp:=fun vs H Q _=>∃(t:Addr) (x:TwA) (s:TwS),vs=[.ref t]∧Bh C H t x s∧Q (.int s.pd) H
end N75
namespace L2
def J1g(K:PySem.W.Frag):Nat→Hp→V→V→Prop
 | 0,_,x,y=>x=y∧Df x=true
 | n+1,H,x,y=>J1g K n H x y∨∃a b xs ys,x= .ref a∧y= .ref b∧((SqL K H a xs∧SqL K H b ys)∨(SqT K H a xs∧SqT K H b ys))∧xs.length=ys.length∧∀(i:Nat) (x' y':V),xs[i]?=some x'→ys[i]?=some y'→J1g K n H x' y'
def P3(K:PySem.W.Frag)(n:Nat)(H:Hp)(x y:V):Prop:=∃a b xs ys,x= .ref a∧y= .ref b∧((SqL K H a xs∧SqL K H b ys)∨(SqT K H a xs∧SqT K H b ys))∧xs.length=ys.length∧∀(i:Nat) (x' y':V),xs[i]?=some x'→ys[i]?=some y'→J1g K n H x' y'
section
variable {X:Cx} {pins:List (Addr×Obj)} {σ:St} {H:Hp} {s:Shared}
def J89(K:PySem.W.Frag)(n:Nat):R2:=fun x y H Q=>P3 K n H x y∧Q (.bl true) H
def J8a(K:PySem.W.Frag)(n:Nat):R2:=fun x y H Q=>P3 K n H x y∧Q (.bl false) H
theorem J1h{K:PySem.W.Frag}{H:Hp}{Q:VK}{x y:V}{n:Nat}:J89 K n x y H Q=(P3 K n H x y∧Q (.bl true) H):=rfl
theorem J1i{K:PySem.W.Frag}{H:Hp}{Q:VK}{x y:V}{n:Nat}:J8a K n x y H Q=(P3 K n H x y∧Q (.bl false) H):=rfl
end
end L2
namespace L2
open PySem.W
structure J7g(K:PySem.W.Frag)(C:Addr):Prop where
 ca:PySem.W.findIn K (.ref C) "__class__"=some (some (.builtin "object.__class__"))
 gs:PySem.W.specialIn K (.builtin "object.__class__") "__get__"=some (some (.builtin "getset_descriptor.__get__"))
 tk:PySem.W.takesIn K (.builtin "object.__class__")=some true
 mo:PySem.W.mroIn K C (.type "object")=some true
def J7h(K:PySem.W.Frag):List V→Hp→VK→Prop:=fun xs H Q=>∃(p C dx D:Addr) (fs:List (Str×V)) (b:Bool),xs=[.ref p,.ref D]∧H p=some (.ins C dx fs)∧Cls K C∧J7g K C∧PySem.W.kitOne K (.ref C) (.ref D)=some b∧Q (.bl b) H
theorem W1{K:PySem.W.Frag}{xs:List V}{H:Hp}{Q:VK}:J7h K xs H Q=∃(p C dx D:Addr) (fs:List (Str×V)) (b:Bool),xs=[.ref p,.ref D]∧H p=some (.ins C dx fs)∧Cls K C∧J7g K C∧PySem.W.kitOne K (.ref C) (.ref D)=some b∧Q (.bl b) H:=rfl
end L2
namespace N79
open L2 N1 N5 N4 N6 N12 N71 N74 N76 N75
def shx(zs:List Int)(R:List Str)(z:Str):Nat:=((List.range zs.length).find? fun i=>decide (z∈lvl zs R i)).getD zs.length
theorem Py{zs:List Int}{R:List Str}{z:Str}{i:Nat}(hi:i < zs.length)(h:z∈lvl zs R i)(n:∀j,j < i→z∉lvl zs R j):shx zs R z=i:=by
 have e:(List.range zs.length).find? (fun i=>decide (z∈lvl zs R i))=some i:=List.find?_range_eq_some.mpr ⟨FI h,HY.mpr hi,fun j hj=>by simp [n j hj]⟩;unfold shx;rw [e];rfl
theorem Nw{zs:List Int}{R:List Str}{z:Str}(n:∀j,j < zs.length→z∉lvl zs R j):shx zs R z=zs.length:=by
 have e:(List.range zs.length).find? (fun i=>decide (z∈lvl zs R i))=none:=List.find?_eq_none.mpr fun j hj=>by simp [n j (HY.mp hj)]
 unfold shx;rw [e];rfl
def bump(ff:List Int)(k:Nat):List Int:=ff.set k (ff.getD k 0+1)
def J7i(ff zs:List Int)(R:List Str)(d:Int)(z:Str):List Int:=if d < 6 then bump ff (shx zs R z) else ff
def Dt(K:PySem.W.Frag)(C S:Addr):Sp:=fun vs H Q _=>∃(t:Addr) (x:TwA) (s:TwS) (z:Str) (ts:List Th),vs=[.ref t,.str z]∧Bh C H t x s∧B5 K S H x.st ts (own t x)∧(ts.map (·.1)).Nodup∧z∈ts.map (·.1)∧s.zs.length≤6∧(∀z∈s.zs,1≤z∧z≤1000000)∧(s.R.length:Int)≤s.zs.sum∧
 ∀(k:Nat) (H':Hp),A9 H H'→k≤s.zs.length→(k < s.zs.length↔z∈s.R)→shx s.zs s.R z≤k→k≤shx s.zs s.R z→Q (.int k) H'
def Du(K:PySem.W.Frag)(C S:Addr):Sp:=fun vs H Q _=>∃(t:Addr) (x:TwA) (s:TwS) (g:Gt) (z:Str) (ts:List Th) (B:Nat),vs=[.ref t,.str z]∧Cj K C S H t x s g ts B∧z∈ts.map (·.1)∧B≤80000∧
 ∀(s':TwS) (H':Hp),Off (own t x) H H'→Cj K C S H' t x s' (Dq s.zs.sum s.R z g) ts (B+2)→s'.R=E8 z s→s'.zs=s.zs→s'.pd=s.pd+(if z∈s.R then 0 else Bd ts z)→s'.ff=bump s.ff (shx s.zs s.R z)→Q (.int ((Dq s.zs.sum s.R z g).h z)) H'
def Dv(K:PySem.W.Frag)(C S:Addr)(pr:Bool):Sp:=fun vs H Q _=>∃(t:Addr) (x:TwA) (s:TwS) (g:Gt) (z:Str) (v:Int) (ts:List Th) (B:Nat),vs=[.ref t,.str z,.int v]∧-(10 ^ 30)≤v∧v≤10 ^ 30∧Cj K C S H t x s g ts B∧z∈ts.map (·.1)∧B≤80000∧
 ∀(s':TwS) (H':Hp),Off (own t x) H H'→Cj K C S H' t x s' (P2 pr s.zs.sum s.R z v g) ts (B+3)→s'.R=E8 z s→s'.zs=s.zs→s'.pd=s.pd→s'.ff=bump s.ff (shx s.zs s.R z)→Q .non H'
def Da(K:PySem.W.Frag)(C S:Addr):Sp:=fun vs H Q _=>∃(t:Addr) (x:TwA) (s:TwS) (g:Gt) (z:Str) (ts:List Th) (B:Nat),vs=[.ref t,.str z]∧Cj K C S H t x s g ts B∧z∈ts.map (·.1)∧B≤80000∧
 ∀(s':TwS) (H':Hp),Off (own t x) H H'→Cj K C S H' t x s' (D0 s.zs.sum s.R z g) ts (B+2)→s'.R=(if z∈s.R then s.R else E8 z s)→s'.zs=s.zs→s'.pd=s.pd+(if z∈s.R then 0 else Bd ts z)→s'.ff=s.ff→Q (.bl (decide (z∉s.R))) H'
def Dw(K:PySem.W.Frag)(C S:Addr):Sp:=fun vs H Q _=>∃(t:Addr) (x:TwA) (s:TwS) (g:Gt) (ts:List Th) (B:Nat),vs=[.ref t]∧Cj K C S H t x s g ts B∧B≤80000∧
 ∀(x':TwA) (s':TwS) (H':Hp),Off (own t x) H H'→(∀b∈own t x',b∈own t x∨H b=none)→Cj K C S H' t x' s' (Kk s.R g) ts (B+100)→s'.R=s.R→s'.zs=s.zs→s'.pd=s.pd→s'.ff=s.ff→x'.st=x.st→x'.si=x.si→Q (.int ((s.R.filter g.l).length:Nat)) H'
def Ef(K:PySem.W.Frag)(C S:Addr):Sp:=fun vs H Q _=>∃(t dx p a:Addr) (ts:List Th) (zs:List Int),vs=[.ref t,.ref p,.ref a]∧H t=some (.ins C dx [])∧Aw K S H p ts∧(ts.map (·.1)).Nodup∧(∀t∈ts,t.2.2=1)∧ts.length≤59∧SqL K H a (zs.map V.int)∧1≤zs.length∧zs.length≤6∧(∀z∈zs,1≤z∧z≤1000000)∧
 ∀(x:TwA) (s:TwS) (H':Hp),SameBut t H H'→Cj K C S H' t x s g0 ts 1→s.R=[]→s.zs=zs→s.pd=0→s.ff=List.replicate (zs.length+1) 0→x.st=p→(∀b∈x.si::own t x,b=t∨H b=none)→Q .non H'
def Dc(C:Addr):Sp:=fun vs H Q _=>∃(t:Addr) (x:TwA) (s:TwS),vs=[.ref t]∧Bh C H t x s∧∀(p:Addr) (H':Hp),H p=none→A9 H H'→H' p=some (.lst (s.ff.map V.int))→Q (.ref p) H'
def P4(K:PySem.W.Frag)(C1 C2 Sk:Addr):Sp:=fun vs H Q _=>∃(C t:Addr) (z:Str) (d v:Int) (pr:Bool) (x:TwA) (s:TwS) (g:Gt) (ts:List Th) (B:Nat),vs=[.ref t,.str z,.int d,.int v]∧(pr=true∧C=C2∨pr=false∧C=C1)∧Cj K C Sk H t x s g ts B∧z∈ts.map (·.1)∧B≤80000∧0≤d∧d≤6∧-(10 ^ 30)≤v∧v≤10 ^ 30∧
 ∀(s':TwS) (H':Hp),Off (own t x) H H'→Cj K C Sk H' t x s' (J7e pr s.zs.sum s.R d z v g) ts (B+100)→s'.R=J7d s.zs.sum s.R d z→s'.zs=s.zs→s'.pd=s.pd+(if (J86 s.R d z).isSome then Bd ts z else 0)→s'.ff=J7i s.ff s.zs s.R d z→Q (J7f s.zs.sum s.R d z v g) H'
structure J7j(H:Hp)(p:Addr)(zs:List Int)(R:List Str)(ff:List Int)(pd:Int)(lv fo:Addr)(as:List Addr):Prop where
 o:H p=some (.lst [.ref lv,.ref fo,.int pd])
 l:H lv=some (.lst (as.map V.ref))
 a:X6 H as zs R zs.length
 f:H fo=some (.lst (ff.map V.int))
open Classical in
def Rst(L:List Addr)(H:Hp):Hp:=fun b=>if b∈L then none else H b
theorem Rst.get{L:List Addr}{H:Hp}{b:Addr}{o:HO}(n:b∉L)(h:H b=some o):Rst L H b=some o:=by unfold Rst;rw [if_neg n];exact h
theorem Rst.at{L:List Addr}{H:Hp}{b:Addr}{o:HO}(h:Rst L H b=some o):b∉L∧H b=some o:=by
 unfold Rst at h;split at h
 · cases h
 · rename_i n;exact ⟨n,h⟩
theorem Rst.step{L L':List Addr}{H H':Hp}(o:Off L H H')(m:∀b∈L',b∈L∨H b=none):A9 (Rst L H) (Rst L' H'):=fun b u h=>by
 obtain ⟨n,e⟩:=Rst.at h;exact Rst.get (Vy m e n) (o _ _ e n)
structure Tw where
 C:Addr
 t:Addr
 x:TwA
 s:TwS
 g:Gt
def Tw.ow(w:Tw):List Addr:=w.x.si::own w.t w.x
def Ku(ks:List Addr)(ws:List Tw):List Addr:=ks++ws.flatMap Tw.ow
structure Tws(K:PySem.W.Frag)(S st:Addr)(ts:List Th)(B:Nat)(H:Hp)(ks:List Addr)(ws:List Tw):Prop where
 ok:∀w∈ws,Cj K w.C S H w.t w.x w.s w.g ts B
 ap:ws.Pairwise fun a b=>∀c∈a.ow,c∉b.ow
 sk:B5 K S H st ts (Ku ks ws)
 es:∀w∈ws,w.x.st=st
 kk:∀c∈ks,∀w∈ws,c∉w.ow
 kl:∀c∈ks,∃o,H c=some o∧∀e,o≠ .tup e
section
variable {K:PySem.W.Frag} {S st:Addr} {ts:List Th} {B B':Nat} {H H':Hp} {ks:List Addr} {ws l1 l2:List Tw} {w w':Tw}
theorem B6{c:Addr}:c∈Ku ks ws↔c∈ks∨∃w∈ws,c∈w.ow:=by unfold Ku;rw [Fn,List.mem_flatMap]
theorem Tws.live(h:Tws K S st ts B H ks ws):∀b∈Ku ks ws,∃o,H b=some o:=fun b hb=>by
 rcases B6.mp hb with hb | ⟨w,hw,hb⟩
 · obtain ⟨o,e,_⟩:=h.kl b hb;exact ⟨o,e⟩
 · exact Io (h.ok w hw).to.tw b hb
theorem Tws.same(m:A9 H H')(h:Tws K S st ts B H ks ws):Tws K S st ts B H' ks ws:=⟨fun w hw=>(h.ok w hw).same m,h.ap,h.sk.off (.of m),h.es,h.kk,fun c hc=>by obtain ⟨o,e,n⟩:=h.kl c hc;exact ⟨o,m _ _ e,n⟩⟩
theorem Tws.up(h:Tws K S st ts B H ks ws)(hB:B≤B')(hb:B'≤100000):Tws K S st ts B' H ks ws:=⟨fun w hw=>(h.ok w hw).up hB hb,h.ap,h.sk,h.es,h.kk,h.kl⟩
theorem Tws.deed(h:Tws K S st ts B H ks (l1++w::l2))(o:Off (own w.t w.x) H H')(m:∀b∈own w'.t w'.x,b∈own w.t w.x∨H b=none)(tw:Cj K w'.C S H' w'.t w'.x w'.s w'.g ts B')(hB:B≤B')(est:w'.x.st=w.x.st)(esi:w'.x.si=w.x.si):
 Tws K S st ts B' H' ks (l1++w'::l2)∧A9 (Rst (Ku ks (l1++w::l2)) H) (Rst (Ku ks (l1++w'::l2)) H')∧∀c∈ks,∀o,H c=some o→H' c=some o:=by
 have hw:=h.ok w (by simp);have hb:B'≤100000:=tw.g.b;have kt:=Mh hw.to.tw o
 have m2:∀b∈w'.ow,b∈w.ow∨H b=none:=fun b hb=>by
  rcases Fo.mp hb with e | e
  · exact .inl (by rw [e,esi];exact Fi)
  · exact (m b e).imp (Fb _) id
 have mL:∀b∈Ku ks (l1++w'::l2),b∈Ku ks (l1++w::l2)∨H b=none:=fun b hb=>by
  rcases B6.mp hb with hb | ⟨v,hv,hb⟩
  · exact .inl (B6.mpr (.inl hb))
  · rcases Fn.mp hv with hv | hv
    · exact .inl (B6.mpr (.inr ⟨v,FL _ hv,hb⟩))
    · rcases Fo.mp hv with e | hv
      · rw [e]at hb;exact (m2 b hb).imp (fun k=>B6.mpr (.inr ⟨w,by simp,k⟩)) id
      · exact .inl (B6.mpr (.inr ⟨v,Fs _ (Fb _ hv),hb⟩))
 have oL:Off (Ku ks (l1++w::l2)) H H':=o.mono fun b hb=>B6.mpr (.inr ⟨w,by simp,Fb _ hb⟩);have hap:=R4.mp h.ap;have hap2:=List.pairwise_cons.mp hap.2.1
 have far:∀v∈l1++l2,(∀c∈v.ow,c∉w.ow)∧∀c∈w.ow,c∉v.ow:=fun v hv=>by
  rcases Fn.mp hv with hv | hv
  · exact ⟨hap.2.2 v hv w Fi,fun c h1 h2=>hap.2.2 v hv w Fi c h2 h1⟩
  · exact ⟨fun c h1 h2=>hap2.1 v hv c h2 h1,hap2.1 v hv⟩
 have lv:∀v∈l1++l2,v∈l1++w::l2:=fun v hv=>by
  rcases Fn.mp hv with hv | hv
  · exact FL _ hv
  · exact Fs _ (Fb _ hv)
 have sk:=Gj h.sk oL (fun b hb=>hb) mL
 have far2:∀v∈l1++l2,(∀c∈v.ow,c∉w'.ow):=fun v hv c h1 h2=>by
  rcases m2 c h2 with k | k
  · exact (far v hv).1 c h1 k
  · obtain ⟨u,e⟩:=Io (h.ok v (lv v hv)).to.tw c h1;rw [k]at e;cases e
 have okv:∀v∈l1++l2,Cj K v.C S H' v.t v.x v.s v.g ts B':=fun v hv=>
  (Nu (h.ok v (lv v hv)) (M:=own w.t w.x) o (fun b h1 h2=>(far v hv).1 b h1 (Fb _ h2)) kt (by
   rw [h.es v (lv v hv)]
   exact sk.mono fun b hb=> .inl (B6.mpr (.inr ⟨v,by
    rcases Fn.mp hv with hv | hv
    · exact FL _ hv
    · exact Fs _ (Fb _ hv),Fb _ hb⟩)))).up hB hb
 have all:∀v∈l1++w'::l2,v=w'∨v∈l1++l2:=fun v hv=>by
  rcases Fn.mp hv with hv | hv
  · exact .inr (FL _ hv)
  · rcases Fo.mp hv with e | hv
    · exact .inl e
    · exact .inr (Fs _ hv)
 have kw:∀c∈ks,c∉w.ow:=fun c hc=>h.kk c hc w (by simp);refine ⟨⟨fun v hv=>(all v hv).elim (fun e=>by rw [e];exact tw) (okv v),?_,sk,fun v hv=>(all v hv).elim (fun e=>by rw [e,est];exact h.es w (by simp)) (fun k=>h.es v (lv v k)),fun c hc v hv=>(all v hv).elim (fun e=>?_) (fun k=>h.kk c hc v (lv v k)),fun c hc=>?_⟩,Rst.step oL mL,fun c hc u e=>o _ _ e fun k=>kw c hc (Fb _ k)⟩
 · refine R4.mpr ⟨hap.1,List.pairwise_cons.mpr ⟨fun v hv c h1 h2=>far2 v (Fs _ hv) c h2 h1,hap2.2⟩,fun a ha b hb=>?_⟩
   rcases Fo.mp hb with e | hb
   · rw [e];exact far2 a (FL _ ha)
   · exact hap.2.2 a ha b (Fb _ hb)
 · rw [e]
   obtain ⟨u,k,_⟩:=h.kl c hc;exact Vy m2 k (kw c hc)
 · obtain ⟨u,k1,k2⟩:=h.kl c hc
   exact ⟨u,o _ _ k1 fun k=>kw c hc (Fb _ k),k2⟩
theorem Tws.put{c:Addr}{u:HO}(h:Tws K S st ts B H ks ws)(hc:c∈ks)(hu:∀e,u≠ .tup e)(sb:SameBut c H H')(hc':H' c=some u):
 Tws K S st ts B H' ks ws∧A9 (Rst (Ku ks ws) H) (Rst (Ku ks ws) H'):=by
 have o:Off [c] H H':=fun b v e n=>sb b v e fun z=>n (by rw [z];simp)
 have oL:Off (Ku ks ws) H H':=o.mono fun b hb=>by rw [Fc.mp hb];exact B6.mpr (.inl hc)
 obtain ⟨u0,k1,k2⟩:=h.kl c hc
 have kt:∀v e,H v=some (.tup e)→H' v=some (.tup e):=fun v e hv=>sb _ _ hv fun z=>by rw [z,k1]at hv;cases hv;exact k2 _ rfl
 have sk:=Gj h.sk oL (fun b hb=>hb) (fun b hb=> .inl hb)
 refine ⟨⟨fun v hv=>Nu (h.ok v hv) (M:=[c]) o (fun b h1 h2=>h.kk c hc v hv (by rw [← Fc.mp h2];exact h1)) kt (by
  rw [h.es v hv]
  exact sk.mono fun b hb=> .inl (B6.mpr (.inr ⟨v,hv,Fb _ hb⟩))),h.ap,sk,h.es,h.kk,fun d hd=>?_⟩,Rst.step oL fun b hb=> .inl hb⟩
 by_cases e:d=c
 · rw [e];exact ⟨u,hc',hu⟩
 · obtain ⟨v,p1,p2⟩:=h.kl d hd;exact ⟨v,sb _ _ p1 e,p2⟩
end
def wrB(e:List V):Bool:=decide (e[0]?=some (.str (Str.ofString "write")))
def wzB(y:Str)(e:List V):Bool:=wrB e && decide (e[1]?=some (.str y))
def J1j(es:List (List V)):List (List V):=es.filter fun e=>!wrB e
def cw(y:Str)(es:List (List V)):Nat:=(es.filter (wzB y)).length
def FmE(es:List (List V)):Prop:=∀e∈es,∃w z tl,e= .str w:: .str z::tl
structure J8b(hd:Str→Prop)(g1 g2:Gt)(cv:Str→Int)(kp:Str→Nat):Prop where
 a1:∀y,hd y→g1.h y=cv y
 a2:∀y,hd y→g2.h y=cv y
 b1:∀y,g1.l y=false→g1.st y=cv y
 b2:∀y,g2.st y=cv y
 p:∀y,g2.l y=false
 lh:∀y,g1.l y=true→hd y
 ca:J1j g1.es=J1j g2.es
 n2:∀y,cw y g2.es=kp y
 n1:∀y,cw y g1.es+(if g1.l y=true then 1 else 0)≤kp y
 n3:∀y,0 < kp y→g1.l y=true∨0 < cw y g1.es
 f1:FmE g1.es
 f2:FmE g2.es
def P5(K:PySem.W.Frag)(C1 C2 Sk:Addr):Sp:=fun vs H Q _=>∃(C t:Addr) (x:TwA) (s:TwS) (g:Gt) (ts:List Th) (B:Nat),vs=[.ref t]∧(C=C2∨C=C1)∧Cj K C Sk H t x s g ts B∧
 ∀(p lv fo:Addr) (as:List Addr) (H':Hp),(∀b∈p::lv::fo::as,H b=none)→A9 H H'→J7j H' p s.zs s.R s.ff s.pd lv fo as→Q (.ref p) H'
def P6(K:PySem.W.Frag)(C1 C2 Sk:Addr):Sp:=fun vs H Q _=>∃(C t:Addr) (x:TwA) (s:TwS) (g:Gt) (ts:List Th) (B:Nat),vs=[.ref t]∧(C=C2∨C=C1)∧Cj K C Sk H t x s g ts B∧FmE g.es∧
 ∀(p:Addr) (us:List Addr) (H':Hp),A9 H H'→H' p=some (.lst (us.map V.ref))→J88 H' us (J1j g.es)→Q (.ref p) H'
def Mi(K:PySem.W.Frag)(C1 C2 Sk:Addr):Sp:=fun vs H Q _=>∃(C t:Addr) (z:Str) (x:TwA) (s:TwS) (g:Gt) (ts:List Th) (B:Nat),vs=[.ref t,.str z]∧(C=C2∨C=C1)∧Cj K C Sk H t x s g ts B∧FmE g.es∧∀H',A9 H H'→Q (.int (cw z g.es:Nat)) H'
def Kp4(K:PySem.W.Frag)(H:Hp)(a:Addr):Prop:=∃l r e s,H a=some (.tup [.ref l,.ref r,.ref e,.ref s])∧P3 K 3 H (.ref l) (.ref r)∧P3 K 3 H (.ref e) (.ref s)
def P7(K:PySem.W.Frag)(C1 C2 Sk:Addr):Sp:=fun vs H Q _=>∃(t1 t2:Addr) (x1 x2:TwA) (s1 s2:TwS) (g1 g2:Gt) (ts:List Th) (B:Nat),vs=[.ref t1,.ref t2]∧Cj K C1 Sk H t1 x1 s1 g1 ts B∧Cj K C2 Sk H t2 x2 s2 g2 ts B∧s2.zs=s1.zs∧s2.R=s1.R∧g1.es.length≤1000∧
 ∀(a:Addr) (H':Hp),A9 H H'→(∀L:List Addr,(∀b∈L,∃o,H b=some o)→(∀b∈L,∀e,H b≠some (.tup e))→Kp4 K (Rst L H') a)→Q (.ref a) H'
def Mj(K:PySem.W.Frag)(C1 C2 Sk:Addr):Sp:=fun vs H Q _=>∃(t1 t2 kd:Addr) (x1 x2:TwA) (s1 s2:TwS) (g1 g2:Gt) (ts:List Th) (B:Nat) (kk:List (Key×V)) (cv:Str→Int) (kp:Str→Nat),vs=[.ref t1,.ref t2,.ref kd]∧Cj K C1 Sk H t1 x1 s1 g1 ts B∧Cj K C2 Sk H t2 x2 s2 g2 ts B∧J8b (fun y=>y∈s1.R) g1 g2 cv kp∧(∀y,g1.l y=false)∧H kd=some (.dK kk)∧(∀(i:Nat) p,kk[i]?=some p→∃y,p.1=Sum.inr y∧y∈ts.map (·.1)∧Ay kk (Sum.inr y)=some (.int (kp y:Nat)))∧kd∉x1.si::own t1 x1∧kd∉x2.si::own t2 x2∧B5 K Sk H x1.st ts (kd::own t1 x1)∧B5 K Sk H x2.st ts (kd::own t2 x2)∧
 ∀H',SameBut kd H H'→Cj K C1 Sk H' t1 x1 s1 g1 ts B→Cj K C2 Sk H' t2 x2 s2 g2 ts B→Q (.bl true) H'
section
variable {K:PySem.W.Frag} {S st:Addr} {ts:List Th} {B:Nat} {H H':Hp} {ks:List Addr} {ws:List Tw} {w:Tw}
theorem Tws.add(h:Tws K S st ts B H ks ws)(m:A9 H H')(tw:Cj K w.C S H' w.t w.x w.s w.g ts B)(n:∀b∈w.ow,H b=none)(e:w.x.st=st):Tws K S st ts B H' ks (ws++[w]):=by
 have far:∀b o,H b=some o→b∉w.ow:=fun b o k hb=>by rw [n b hb]at k;cases k
 refine ⟨fun v hv=>?_,R4.mpr ⟨h.ap,List.pairwise_singleton _ _,fun a ha b hb c hc=>?_⟩,(h.sk.mono fun b hb=>?_).off (.of m),fun v hv=>?_,fun c hc v hv=>?_,fun c hc=>?_⟩
 · rcases Fn.mp hv with hv | hv
   · exact (h.ok v hv).same m
   · rw [Fc.mp hv];exact tw
 · rw [Fc.mp hb]
   obtain ⟨o,k⟩:=Io (h.ok a ha).to.tw c hc;exact far c o k
 · rcases B6.mp hb with hb | ⟨v,hv,hb⟩
   · exact .inl (B6.mpr (.inl hb))
   · rcases Fn.mp hv with hv | hv
     · exact .inl (B6.mpr (.inr ⟨v,hv,hb⟩))
     · rw [Fc.mp hv]at hb;exact .inr (n b hb)
 · rcases Fn.mp hv with hv | hv
   · exact h.es v hv
   · rw [Fc.mp hv];exact e
 · obtain ⟨o,k,_⟩:=h.kl c hc
   rcases Fn.mp hv with hv | hv
   · exact h.kk c hc v hv
   · rw [Fc.mp hv];exact far c o k
 · obtain ⟨o,k,k2⟩:=h.kl c hc
   exact ⟨o,m _ _ k,k2⟩
end
theorem J1k{kk:List (Key×V)}{k:Key}{v:V}{p:Key×V}(h:p∈B1 kk k v):p.1=k∨∃p0∈kk,p.1=p0.1:=by
 unfold B1 at h;split at h
 · obtain ⟨p0,h0,rfl⟩:=Fv.mp h
   refine .inr ⟨p0,h0,?_⟩
   split <;> rfl
 · rcases Fn.mp h with h | h
   · exact .inr ⟨p,h,rfl⟩
   · rw [Fc.mp h];exact .inl rfl
theorem none_of{Ha Hb:Hp}{b:Addr}(sm:A9 Ha Hb)(e:Hb b=none):Ha b=none:=by
 cases k:Ha b with
 | none=>rfl
 | some o=>rw [sm _ _ k]at e;cases e
end N79
namespace NTx
open L2 N1 N5 N8 N08 PySem.NumText PySem.StrLaws
open PySem.Builtin.Str (strSub strKind subAt)
def dg(n:Nat):List Nat:=if n < 10 then [48+n] else dg (n / 10)++[48+n % 10]
termination_by n
decreasing_by omega
theorem Nx{n:Nat}(h:n < 10):dg n=[48+n]:=by unfold dg;rw [if_pos h]
theorem J1l{n:Nat}(h:¬n < 10):dg n=dg (n / 10)++[48+n % 10]:=by rw [dg];rw [if_neg h]
theorem J5l(n:Nat):AllDigits (dg n)∧digitsVal (dg n)=n∧dg n≠[]∧(dg n=[48]∨∃c r,dg n=c::r∧49≤c):=by
 induction n using Nat.strongRecOn with
 | ind n ih=>
  by_cases h:n < 10
  · rw [Nx h]
    refine ⟨fun c hc=>?_,?_,by simp,?_⟩
    · rw [Fc.mp hc];omega
    · show 0 * 10+(48+n - 48)=n
      omega
    · by_cases h0:n=0
      · exact .inl (by rw [h0])
      · exact .inr ⟨_,_,rfl,by omega⟩
  · obtain ⟨a,b,c,d⟩:=ih (n / 10) (by omega)
    rw [J1l h];refine ⟨fun x hx=>?_,?_,by simp,.inr ?_⟩
    · rcases Fn.mp hx with hx | hx
      · exact a x hx
      · rw [Fc.mp hx];omega
    · rw [digitsVal_snoc,b];omega
    · rcases d with d | ⟨x,r,d,hx⟩
      · rw [d]at b
        have:digitsVal [48]=0:=rfl;omega
      · exact ⟨x,r++[48+n % 10],by rw [d];rfl,hx⟩
theorem J1m:∀(k n:Nat),n < 10 ^ (k+1)→(dg n).length≤k+1
 | 0,n,h=>by rw [Nx (by simpa using h)];simp
 | k+1,n,h=>by
  by_cases hn:n < 10
  · rw [Nx hn];simp
  · rw [J1l hn,Fj,Rv]
    have:=J1m k (n / 10) (by rw [Nat.pow_succ]at h;omega);omega
theorem Ny{v:Int}(h0:0≤v)(h1:v < 10 ^ 31):S3 (Str.ofString (toString v)).cps.toList=true∧Wz (Str.ofString (toString v)).cps.toList=v:=by
 obtain ⟨n,rfl⟩:∃n:Nat,v=n:=⟨v.toNat,by omega⟩
 obtain ⟨a,b,c,d⟩:=J5l n;have e:=shown a c d;rw [b]at e;rw [e];show S3 (dg n)=true∧Wz (dg n)=n
 have h31:(n:Int) < ((10 ^ 31:Nat):Int):=by simpa using h1
 have hl:=J1m 30 n (Int.ofNat_lt.mp h31);have hp:=List.length_pos_iff.mpr c;refine ⟨?_,by unfold Wz;rw [b]⟩;unfold S3;rw [FI (show 1≤(dg n).length by omega),FI (show (dg n).length≤31 by omega),Vn.mpr a];rcases d with d | ⟨x,r,d,hx⟩
 · rw [d];rfl
 · rw [d]
   have:x≠48:=by omega
   simp [Lx,this]
theorem Ss{x:Str}{a b c:Nat}(h:∀i,a≤i→i < b→x.cps.toList[i]?≠some c){i:Nat}(h1:a≤i)(h2:i < b){y:Str}{r:List Nat}(hy:y.cps.toList=c::r):¬At x y x.length i:=fun z=>by
 have e:=z.2;rw [subAt_eq,HU,hy]at e
 have hl:y.length=r.length+1:=by unfold Str.length;rw [← FH,hy];rfl
 rw [hl]at e;refine h i h1 h2 ?_
 cases hd:x.cps.toList.drop i with
 | nil=>rw [hd]at e;cases e
 | cons d t=>
  rw [hd]at e;have:d=c:=(List.cons.inj e).1;rw [← this,← List.head?_drop,hd];rfl
theorem Nz{x y:Str}{c:Nat}{r:List Nat}(hy:y.cps.toList=c::r):∀(ps:List Str) (a:Nat),ps≠[]→(∀p∈ps,c∉p.cps.toList)→a≤x.length→x.cps.toList.drop a=(Str.join y ps).cps.toList→partsFrom x y.length a (cuts x y a)=ps
 | [],a,h,_,_,_=>absurd rfl h
 | [p],a,_,h,ha,e=>by
  have e':x.cps.toList.drop a=p.cps.toList:=e;rw [Oz x y fun i hi=>?_]
  · show [strSub x a x.length]=[p]
    congr 1;exact Vt (by rw [J17];exact e')
  · by_cases hl:i < x.length
    · refine Ss (b:=x.length) (fun j hj _ ej=>?_) hi hl hy
      refine h p (by simp) ?_;rw [← e',FE];exact ⟨j - a,by rw [RL,show a+(j - a)=j by omega];exact ej⟩
    · intro z
      have:=z.1
      have hl':y.length=r.length+1:=by unfold Str.length;rw [← FH,hy];rfl
      omega
 | p::q::ps,a,_,h,ha,e=>by
  have hl':y.length=r.length+1:=by unfold Str.length;rw [← FH,hy];rfl
  have e':x.cps.toList.drop a=p.cps.toList++(y.cps.toList++(Str.join y (q::ps)).cps.toList):=by
   rw [e];show (p++y++Str.join y (q::ps)).cps.toList=_;rw [Ex,Ex,Rg]
  have hlen:x.length - a=p.length+(y.length+(Str.join y (q::ps)).cps.toList.length):=by
   have:=congrArg List.length e';rw [Hi,Fj,Fj,FH,FH,FH]at this;unfold Str.length;rw [this]
  have gp:∀j,a≤j→j < a+p.length→x.cps.toList[j]?≠some c:=fun j h1 h2 ej=>by
   refine h p (by simp) ?_;rw [FE];refine ⟨j - a,?_⟩
   have:(x.cps.toList.drop a)[j - a]?=some c:=by rw [RL,show a+(j - a)=j by omega];exact ej
   rw [e',Fw (by rw [FH];unfold Str.length at h2;omega)]at this;exact this
  have dr:x.cps.toList.drop (a+p.length)=y.cps.toList++(Str.join y (q::ps)).cps.toList:=by
   rw [← List.drop_drop,e'];exact List.drop_left' (by unfold Str.length;rw [FH])
  have hc:At x y x.length (a+p.length):=by
   refine ⟨by omega,?_⟩;rw [subAt_eq,dr,HU];exact List.take_left' (by unfold Str.length;rw [FH])
  rw [X2 x y (by omega) (by omega) hc fun i h1 h2=>Ss gp h1 h2 hy];show strSub x a (a+p.length)::partsFrom x y.length (a+p.length+y.length) (cuts x y (a+p.length+y.length))=_;rw [Nz hy (q::ps) (a+p.length+y.length) (by simp) (fun z hz=>h z (Fb _ hz)) (by omega) (by rw [← List.drop_drop,dr];exact List.drop_left' (by unfold Str.length;rw [FH]))];congr 1;refine Vt ?_;rw [strSub_toList,e',show a+p.length - a=p.length by omega];exact List.take_left' (by unfold Str.length;rw [FH])
theorem U2{y:Str}{c:Nat}{r:List Nat}{ps:List Str}(hy:y.cps.toList=c::r)(hk:strKind y=1)(hne:ps≠[])(h:∀p∈ps,c∉p.cps.toList):Txt.split (Str.join y ps) y=ps:=by
 rw [U1 _ _ (by rw [hk];exact FF (by have:=PyProof.Rows.strKind_pos (Str.join y ps);omega))];exact Nz hy ps 0 hne h (Fq _) rfl
theorem X8{l:List Nat}(h:Bo l=true){c:Nat}(hc:c∈l):48≤c∧c≤122∧c≠59:=by
 unfold Bo at h;simp only [Hf]at h;have:=Hj.mp h.2 c hc
 have hm:c∈Be++Bi:=by simpa using this
 have key:∀c∈Be++Bi,48≤c∧c≤122∧c≠59:=by decide+kernel
 exact key c hm
def My:Sp:=fun vs H Q _=>∃(z:Str),vs=[.str z]∧S3 z.cps.toList=true∧∀H',A9 H H'→Q (.int (Wz z.cps.toList)) H'
theorem K7{l:List Nat}(h:Bo l=true):1≤l.length∧l.length≤8:=by
 unfold Bo at h;simp only [Hf,decide_eq_true_eq]at h;exact ⟨h.1.1.1,h.1.1.2⟩
theorem M7{y:Str}{b:Nat}:∀{ps:List Str},(∀p∈ps,p.length≤b)→(Str.join y ps).length≤ps.length * (b+y.length)
 | [],_=>Fq _
 | [p],h=>by
  show p.length≤_;have:=h p (by simp);simp;omega
 | p::q::r,h=>by
  show (p++y++Str.join y (q::r)).length≤_;rw [Ca,Ca];have:=M7 (y:=y) (ps:=q::r) fun x hx=>h x (Fb _ hx);have:=h p (by simp);rw [show (p::q::r).length=(q::r).length+1 from rfl,Nat.add_mul];omega
end NTx
namespace L2
def J7k:Option V→Option Value→Prop
 | none,o=>o=none
 | some v,o=>∃u,o=some u∧B4 v u
structure Su(P:Params)(K:PySem.W.Frag)(a:Addr)(x:Str)(o:Option V):Prop where
 lo:(a==sysModules)=false
 ex:∃es n,K.lookup a=some ⟨.type "dict",none,.dict es n,#[]⟩∧PySem.W.KeysLit P es.toList∧J7k o (findBy Value.isStrOf es x)
theorem Cw{P:Params}{K:PySem.W.Frag}{a:Addr}{x:Str}{o:Option V}{r:Option Value}{es:Array DictEntry}{n:Nat}(lo:(a==sysModules)=false)(hl:K.lookup a=some ⟨.type "dict",none,.dict es n,#[]⟩)(hk:PySem.W.KeysLit P es.toList)(e:PySem.W.nsIn K a x=some r)(q:J7k o r):Su P K a x o:=
 ⟨lo,es,n,hl,hk,by rw [PySem.W.find_K hl e];exact q⟩
def J4m(P:Params)(K:PySem.W.Frag)(td ty:TE):TE:=fun σ H Q=>td σ H fun x H1=>ty σ H1 fun y H2=>∃a w v,x= .ref a∧y= .str w∧Su P K a w (some v)∧Q v H2
def J4n(P:Params)(K:PySem.W.Frag)(ty td:TE):TE:=fun σ H Q=>ty σ H fun y H1=>td σ H1 fun x H2=>∃a w o,x= .ref a∧y= .str w∧Su P K a w o∧Q (.bl (!o.isSome)) H2
section
variable {X:Cx} {o i:Expr} {td ty:TE} {pos:Pos}
theorem W2(ho:PE X o td)(hi:PE X i ty)(hs:J4z i):PE X (.Subscript o i pos) (J4m X.w.params X.K td ty):=by
 intro pins s σ H Q I h;refine Ue PySem.F.slot_dict_getitem.lookup hs (thn (ho pins s σ H _ I h) fun u s1 ⟨x,H1,I1,rx,q1⟩=>thn (hi pins s1 σ H1 _ I1 q1) fun iv s2 hq_=>?_);obtain ⟨y,H2,I2,ry,a,w,v,ex,ey,g,q2⟩:=hq_;subst ex;subst ey;obtain rfl:u=Value.ref a:=rx;obtain ⟨t,rfl⟩:=ry;obtain ⟨es,n,hl,hk,hf⟩:=g.ex;have hm:=PySem.W.mapOf_K (prog:=X.prog) (w:=X.w) I2.kIn hl hk;obtain ⟨r,e1,e2⟩:=hf;exact ⟨hm.typeIs,wpAny_getItem_of (strKind_is X.prog X.w w t) hm e1 ⟨v,H2,I2.tok _,e2,q2⟩⟩
theorem J3c(hi:PE X i ty)(ho:PE X o td):PC X .NotIn i o (J4n X.w.params X.K ty td):=by
 intro pins s σ H Q I h;refine thn (hi pins s σ H _ I h) fun iv s1 ⟨y,H1,I1,ry,q1⟩=>thn (ho pins s1 σ H1 _ I1 q1) fun u s2 hq_=>?_;obtain ⟨x,H2,I2,rx,a,w,ov,ex,ey,g,q2⟩:=hq_;subst ex;subst ey;obtain rfl:u=Value.ref a:=rx;obtain ⟨t,rfl⟩:=ry;obtain ⟨es,n,hl,hk,hf⟩:=g.ex;have hm:=PySem.W.mapOf_K (prog:=X.prog) (w:=X.w) I2.kIn hl hk;refine wpAny_notIn_of (strKind_is X.prog X.w w t) g.lo hm ⟨.bl (!ov.isSome),H2,I2.tok _,?_,q2⟩;show Value.bool _=Value.bool _
 cases ov with
 | none=>rw [show findBy Value.isStrOf es w=none from hf];rfl
 | some v=>obtain ⟨r,e1,_⟩:=hf;rw [e1];rfl
theorem W4{P:Params}{K:PySem.W.Frag}{σ:St}{H:Hp}{Q:VK}:J4m P K td ty σ H Q=td σ H fun x H1=>ty σ H1 fun y H2=>∃a w v,x= .ref a∧y= .str w∧Su P K a w (some v)∧Q v H2:=rfl
theorem W6{P:Params}{K:PySem.W.Frag}{σ:St}{H:Hp}{Q:VK}:J4n P K ty td σ H Q=ty σ H fun y H1=>td σ H1 fun x H2=>∃a w o,x= .ref a∧y= .str w∧Su P K a w o∧Q (.bl (!o.isSome)) H2:=rfl
end
def J1n{ι:Type}(fa:ι→Addr)(sp:ι→Sp)(E:XK)(tv:TE)(t:TA):TE:=fun σ H Q=>tv σ H fun x H1=>∃b,x= .ref (fa b)∧t σ H1 fun vs H2=>sp b vs H2 Q E
section
variable {ι:Type} {X:Cx} {CX:CXT} {k j:Nat} {fa:ι→Addr} {nm:ι→Str} {ps:List Str} {sp:ι→Sp} {E:XK} {x:Str} {p pos:Pos} {e:Expr} {es:List Expr} {tv:TE} {t:TA}
theorem J1o(D:∀b,Def X.prog X.w X.K X.mg X.base CX j (nm b) ps (sp b))(hf:∀b,X.mg (nm b)=some (.ref (fa b)))(hr:Cy k X.A)(hx:Lp CX X E)(hv:PE X (.Name x p) tv)(ha:PA X (e::es) t)(hj:j≤k:=by decide)
 (he:starEach (e::es) X.env=(false,eval e X.env)::starEach es X.env:=by rfl) (hpl:(backTo pos (starEach es X.env)).any (·.1)=false:=by rfl):
 PE X (.Call (.Name x p) (e::es) [] pos) (J1n fa sp E tv t):=by
 intro pins s σ H Q I h;refine HD (thn (hv pins s σ H _ I h) fun u s1 hq_=>?_);obtain ⟨y,H1,I1,ry,b,ey,q1⟩:=hq_;obtain ⟨f,fd,F,hm,hk,hb⟩:=(D b).ex
 obtain rfl:f=fa b:=by rw [hf b]at hm;cases hm;rfl
 subst ey;obtain rfl:u=Value.ref (fa b):=ry;refine HV (h₀:=X.base) I.ok.mod.kin hk (thn (ha pos pins s1 σ H1 _ I1 q1) fun us s2 ⟨vs,H2,I2,r,q2⟩=>⟨I2.kIn,?_⟩) he hpl;refine Y2 (F.mono hj) hr hb .nil hx I2 r ?_;rw [FP];exact q2
theorem Sv{σ:St}{H:Hp}{Q:VK}:J1n fa sp E tv t σ H Q=tv σ H fun x H1=>∃b,x= .ref (fa b)∧t σ H1 fun vs H2=>sp b vs H2 Q E:=rfl
end
end L2
namespace L2
def btK(kf:Nat→List Int):Nat→Nat→Bool:=fun i j=>HT.J3x (kf i) (kf j)
end L2
namespace N32
open L2 N1 N5 N31
def tl(f:Nat→Int)(b n:Nat):Int:=((List.range' b (n - b)).map f).sum
end N32
open L2 N1 N5 N31 N4 N32
namespace N41
end N41
namespace N14
open L2 N1 N5 N4 N6 N12 N32
end N14
namespace N20
open L2 N1 N5 N4 N6 N12 N32 N14
end N20
namespace L2
theorem X9{z:Str}{ys:List Str}:inV (.str z) (ys.map V.str)=decide (z∈ys):=by
 unfold inV
 induction ys with
 | nil=>rfl
 | cons y ys ih=>
  rw [List.map_cons,HG,ih,Ve]
  by_cases h:y=z
  · subst h;simp
  · have h':¬z=y:=fun e=>h e.symm
    simp [h,h']
end L2
namespace N18
open L2 N1 N5 N4 N6 N12 N32 N14
end N18
namespace N25
open L2 N1 N5 N4 N6 N12 N32 N14 N20
end N25
namespace NR
open L2 N1 N5 N4 N6 N12 N32 N14 N20 N18 N25
structure J8i where
 C:Addr
 St:Type
 At:Hp→List Addr→Addr→Addr→Int→St→Prop
 asked:Int→St→Str→St
 pick:Int→St→List Str→St×Str
 gone:Int→St→Str→St
 came:Int→St→Str→St
 inv:List Str→Int→St→List Str→Prop
 mid:List Str→Int→Str→St→List Str→Prop
 dep:∀{H H':Hp} {M:List Addr} {q p:Addr} {n:Int} {s:St},(∀m∈M,∀o,H m=some o→H' m=some o)→At H M q p n s→At H' M q p n s
 live:∀{H:Hp} {M:List Addr} {q p:Addr} {n:Int} {s:St},At H M q p n s→∀m∈M,H m≠none
 obj:∀{H:Hp} {M:List Addr} {q p:Addr} {n:Int} {s:St},At H M q p n s→∃dx fs,H q=some (.ins C dx fs)∧fs.lookup ("stock":Str)=some (.ref p)∧fs.lookup ("places":Str)=some (.int n)∧fs.lookup ("asked":Str)=none∧fs.lookup ("choice":Str)=none∧fs.lookup ("gone":Str)=none∧fs.lookup ("came":Str)=none∧fs.lookup ("nests":Str)=none
 i_hit:∀{ns:List Str} {n:Int} {s:St} {l:List Str} {z:Str},inv ns n s l→z∈ns→z∈l→inv ns n (asked n s z) l
 i_mid:∀{ns:List Str} {n:Int} {s:St} {l:List Str} {z:Str},inv ns n s l→z∈ns→z∉l→mid ns n z (asked n s z) l
 i_pick:∀{ns:List Str} {n:Int} {s:St} {l:List Str} {z:Str},mid ns n z s l→l≠[]→(pick n s l).2∈l∧mid ns n z (gone n (pick n s l).1 (pick n s l).2) (l.erase (pick n s l).2)
 i_came:∀{ns:List Str} {n:Int} {s:St} {l:List Str} {z:Str},mid ns n z s l→z∈ns→z∉l→inv ns n (came n s z) (l++[z])
 cnt:St→Nat:=fun _=>0
 c_ask:∀n s z,cnt (asked n s z)≤cnt s+1:=by exact fun _ _ _=>Fq _
 c_pick:∀n s l,cnt (pick n s l).1≤cnt s:=by exact fun _ _ _=>Fq _
 c_gone:∀n s z,cnt (gone n s z)≤cnt s:=by exact fun _ _ _=>Fq _
 c_came:∀n s z,cnt (came n s z)≤cnt s:=by exact fun _ _ _=>Fq _
end NR
namespace N22
open L2 N1 N5 N4 N6 N12 N32 N14 N20 N18 N25 NR
end N22
namespace N21
open L2 N1 N5 N4 N6 N12 N32 N14 N20 N18 N25 NR N22
end N21
namespace N24
open L2 N1 N5 N4 N6 N12 N32 N14 N20 N18 N25 NR N22 N21
end N24
namespace L2
section
variable {K:PySem.W.Frag} {H1:Hp} {tail:St} {te:Blk→TE} {Q:VK} {a c:Addr}
theorem J1p{xs zs:List V}(f:Nat→V)(hlen:zs.length=xs.length)(hA:SqL K H1 a xs)(hC:SqL K H1 c zs)(hz:zs.length≤sizeLine)
 (he:∀b (i:Nat) x z H Q',xs[i]?=some x→zs[i]?=some z→A9 H1 H→(∀H',A9 H H'→Q' (f i) H')→te b (some x::some z::tail) H Q')
 (q:∀(D:Addr) (H':Hp),H1 D=none→A9 H1 H'→H' D=some (.lst ((List.range zs.length).map f))→Q (.ref D) H'):Cc (none::none::tail) (g2 K) (fun _=>Ki) te Q (Itz K a c) H1:=by
 intro b D hD;refine ⟨fun i m ys H=>m=zs.length - i∧i≤zs.length∧H D=some (.lst ys)∧A9 H1 H∧ys=(List.range i).map f,⟨_,rfl,Fq _,A5,D4 hD,rfl⟩,?_⟩;rintro i m ys H ⟨rfl,hi,hd,sm,hys⟩;refine ⟨hd,?_⟩
 by_cases hlt:i < zs.length
 · have hx:xs[i]?=some (xs[i]'(by omega)):=Fd (by omega)
   have hy:zs[i]?=some zs[i]:=Fd hlt;refine .inr ⟨⟨xs,zs,_,_,sm.seq hA,sm.seq hC,hx,hy⟩,?_⟩;rintro v H3 ⟨t,x',z',rfl,hn,rfl,g1,g2'⟩;have e1:=(g1 xs (sm.seq hA)).symm.trans hx;have e2:=(g2' zs (sm.seq hC)).symm.trans hy;cases e1;cases e2;have s3:A9 H (upd H t (.tup [xs[i]'(by omega),zs[i]])):=A9.new hn;refine ⟨t,_,rfl,SqT.of A5,rfl,_,_,rfl,_,_,rfl,rfl,J79,?_⟩;show Ki _ _ _;unfold Ki;dsimp only;rw [if_pos rfl];refine he b i _ _ _ _ hx hy (sm.trans s3) fun H8 s8=>?_;have s38:=s3.trans s8;have hd8:=s38 _ _ hd;exact ⟨hd8,by rw [hys,Fa,Rf];omega,zs.length - (i+1),by omega,rfl,hlt,A5,Sg (sm.trans s38) hD,by rw [hys,R6,FC];rfl⟩
 · have e:i=zs.length:=by omega
   subst e;exact .inl ⟨⟨_,_,sm.seq hA,sm.seq hC,.inr (Ff _)⟩,q D H hD sm (by rw [hd,hys])⟩
end
end L2
namespace N85
open L2 N1 N5 N4 N6 N12 N71 N74 N75 N79 NTx
inductive W85 | thing | tower | prompt | read | keep | ahead | rest | store | levels | found | spent | again
def wd:W85→Str
 | .thing=>Str.ofString "thing" | .tower=>Str.ofString "tower" | .prompt=>Str.ofString "prompt" | .read=>Str.ofString "read" | .keep=>Str.ofString "keep" | .ahead=>Str.ofString "ahead"
 | .rest=>Str.ofString "rest" | .store=>Str.ofString "store" | .levels=>Str.ofString "levels" | .found=>Str.ofString "found" | .spent=>Str.ofString "spent" | .again=>Str.ofString "again"
def fm:W85→List Str
 | .thing=>[Str.ofString "NAME",Str.ofString "COST",Str.ofString "ROOM"] | .tower=>[Str.ofString "SIZE",Str.ofString ".."] | .prompt=>[Str.ofString "SIZE",Str.ofString ".."]
 | .read=>[Str.ofString "NAME"] | .keep=>[Str.ofString "NAME",Str.ofString "VALUE"] | .ahead=>[Str.ofString "NAME"] | .store=>[Str.ofString "NAME"]
 | _=>[]
def Bn(fs:List Str)(n:Nat):List Str:=if Str.ofString ".."∈fs then List.replicate (max 1 n) (fs.getD 0 Str.empty) else fs
def Wd(k w:Str)(v:V):Prop:=(k=Str.ofString "NAME"∧Bo w.cps.toList=true∧v= .str w)∨(k≠Str.ofString "NAME"∧k≠Str.ofString "RULE"∧S3 w.cps.toList=true∧v= .int (Wz w.cps.toList))
structure Ln where
 b:W85
 ws:List Str
 vs:List V
structure Ln.ok(l:Ln):Prop where
 k:(Bn (fm l.b) l.ws.length).length=l.ws.length
 v:l.vs.length=l.ws.length
 m:l.ws.length≤100
 w:∀(i:Nat) k w v,(Bn (fm l.b) l.ws.length)[i]?=some k→l.ws[i]?=some w→l.vs[i]?=some v→Wd k w v
def Ln.txt(l:Ln):Str:=Txt.join (Str.ofString " ") (wd l.b::l.ws)
theorem J1q{l:List Nat}(h:S3 l=true):1≤l.length∧l.length≤31∧∀c∈l,48≤c∧c≤57:=by
 unfold S3 at h;simp only [Hf,decide_eq_true_eq,Bool.not_eq_true']at h;refine ⟨h.1.1.1,h.1.1.2,fun c hc=>?_⟩;have:=Hj.mp h.1.2 c hc
 have h2:c∈Bi:=by simpa using this
 revert h2
 have:∀c∈Bi,48≤c∧c≤57:=by decide
 exact this c
theorem Ln.ok.word{l:Ln}(h:l.ok){w:Str}(hw:w∈l.ws):1≤w.cps.toList.length∧w.cps.toList.length≤31∧32∉w.cps.toList:=by
 obtain ⟨i,hi⟩:=FE.mp hw;have hil:=(Fe.mp hi).1
 obtain ⟨k,hk⟩:∃k,(Bn (fm l.b) l.ws.length)[i]?=some k:=⟨_,Fd (by rw [h.k];exact hil)⟩
 obtain ⟨v,hv⟩:∃v,l.vs[i]?=some v:=⟨_,Fd (by rw [h.v];exact hil)⟩
 rcases h.w i k w v hk hi hv with ⟨_,h1,_⟩ | ⟨_,_,h1,_⟩
 · obtain ⟨a,b⟩:=K7 h1
   exact ⟨a,by omega,fun hc=>by have:=X8 h1 hc;omega⟩
 · obtain ⟨a,b,c⟩:=J1q h1
   exact ⟨a,b,fun hc=>by have:=c _ hc;omega⟩
theorem J1r(b:W85):(wd b).cps.toList.length≤6∧1≤(wd b).cps.toList.length∧32∉(wd b).cps.toList:=by cases b <;> decide+kernel
theorem J1s(b:W85):(fm b).length≤4∧(Str.ofString ".."∈fm b→1≤(fm b).length):=by cases b <;> exact ⟨by decide,fun _=>by first | decide | (rename_i h;exact absurd h (by decide))⟩
theorem Ln.ok.split{l:Ln}(h:l.ok):Txt.split l.txt (Str.ofString " ")=wd l.b::l.ws:=by
 have e:l.txt=Str.join (Str.ofString " ") (wd l.b::l.ws):=StrLaws.glued_eq_join _ _;rw [e];refine U2 (c:=32) (r:=[]) (by decide+kernel) (by decide+kernel) (by simp) fun p hp=>?_;rcases Fo.mp hp with k | k
 · rw [k];exact (J1r l.b).2.2
 · exact (h.word k).2.2
theorem Ln.ok.long{l:Ln}(h:l.ok):l.txt.length≤4000:=by
 have e:l.txt=Str.join (Str.ofString " ") (wd l.b::l.ws):=StrLaws.glued_eq_join _ _;rw [e]
 have h1:=M7 (y:=Str.ofString " ") (b:=31) (ps:=wd l.b::l.ws) fun p hp=>by
  rw [← Cf];rcases Fo.mp hp with k | k
  · rw [k];have:=(J1r l.b).1;omega
  · exact (h.word k).2.1
 have h2:(Str.ofString " ").length=1:=by decide+kernel
 rw [h2,List.length_cons]at h1;have:=h.m;omega
def U3(P:Params)(K:PySem.W.Frag)(xF:Addr)(b:W85):Prop:=∃a:Addr,Su P K xF (wd b) (some (.ref a))∧∀H:Hp,SqT K H a ((fm b).map V.str)
theorem D7{P:Params}{K:PySem.W.Frag}{xF a:Addr}{b:W85}{es:Array DictEntry}{n nU:Nat}{dU:Option Addr}{its:Array Value}{sU:Array (Option Value)}(lo:(xF==sysModules)=false)(hl:K.lookup xF=some ⟨.type "dict",none,.dict es n,#[]⟩)(hk:PySem.W.KeysLit P es.toList)(e:PySem.W.nsIn K xF (wd b)=some (some (.ref a)))(lU:K.lookup a=some ⟨.type "tuple",dU,.seq its nU,sU⟩)(v:B3 ((fm b).map V.str) its.toList):U3 P K xF b:=
 ⟨a,Cw lo hl hk e ⟨_,rfl,rfl⟩,fun H=> .inr ⟨_,_,_,lU,rfl,rfl,(by have:=Dz;have h1:=v.length;rw [Fa]at h1;have h2:=(J1s b).1;rw [← FH];omega),v⟩⟩
theorem J5m{x:V}{xs:List V}:Kz (x::xs) (some 1) none=xs:=by
 unfold Kz;rw [show HT.sIx (x::xs).length 0 (some 1)=1 by rw [show (1:Int)=((1:Nat):Int) by rfl,HT.Ky];simp];rw [show HT.sIx (x::xs).length (x::xs).length none=(x::xs).length from rfl];rw [List.drop_succ_cons,RB,FS (by simp)]
def K8:Sp:=fun vs H Q _=>∃z:Str,vs=[.str z]∧Bo z.cps.toList=true∧∀H',A9 H H'→Q (.str z) H'
def K9:Sp:=fun vs H Q _=>∃(k w:Str) (v:V),vs=[.str k,.str w]∧Wd k w v∧∀H',A9 H H'→Q v H'
def Gk(K:PySem.W.Frag):Sp:=fun vs H Q _=>∃(a:Addr) (fs:List Str) (n:Nat),vs=[.ref a,.int n]∧SqT K H a (fs.map V.str)∧fs.length≤4∧n≤100∧(Str.ofString ".."∈fs→1≤fs.length)∧∀(p:Addr) (H':Hp),H p=none→A9 H H'→H' p=some (.lst ((Bn fs n).map V.str))→Q (.ref p) H'
def Ka:Sp:=fun vs H Q _=>∃l:Ln,vs=[.str l.txt]∧l.ok∧∀(t g:Addr) (H':Hp),A9 H H'→H t=none→H g=none→t≠g→H' t=some (.tup [.str (wd l.b),.ref g])→H' g=some (.lst l.vs)→Q (.ref t) H'
theorem Pz{K:PySem.W.Frag}{H:Hp}{p:Addr}{z:Str}{ys:List Str}{Q:VK}(h:SqT K H p (ys.map V.str))(q:Q (.bl (decide (z∈ys))) H):rIn K false (.str z) (.ref p) H Q:=by
 refine ⟨p,_,rfl,.inr h,rfl,Nl,?_⟩;rw [if_neg (by decide),X9];exact q
theorem Dx{v:Int}(h0:0≤v)(h1:v≤10 ^ 40):v.natAbs.log2 < 1920:=by
 by_cases e:v.natAbs=0
 · rw [e];decide
 · refine (Nat.log2_lt e).mpr ?_
   have h2:v.natAbs≤10 ^ 40:=by omega
   exact Fz h2 (by decide+kernel)
theorem Kb{ys:List Str}{b:Nat}(h:∀y∈ys,y.length≤b):(ys.map fun x=>x.length).sum≤ys.length * b:=by
 induction ys with
 | nil=>simp
 | cons y r ih=>
  rw [List.map_cons,HR,List.length_cons,Nat.add_mul];have h1:=h y Fi;have h2:=ih fun u hu=>h u (Fb _ hu);omega
theorem sp1:(Str.ofString " ").length=1:=by decide+kernel
def J3d:V→V
 | .int i=> .str (Str.ofString (toString i))
 | _=> .non
theorem M8(xs:List Int):(xs.map V.int).map J3d=(xs.map fun i=>Str.ofString (toString i)).map V.str:=by
 rw [FM,FM];rfl
theorem Ld{v:Int}(h0:0≤v)(h1:v < 10 ^ 31):(Str.ofString (toString v)).length≤31:=by
 have:=(J1q (Ny h0 h1).1).2.1;rw [← Cf];exact this
theorem Mz{zs:List Int}:∀{R:List Str} (i:Nat),(lvl zs R i).length≤R.length:=by
 induction zs with
 | nil=>intro R i;show 0≤_;omega
 | cons z zs ih=>
  intro R i
  cases i with
  | zero=>show (R.take z.toNat).length≤_;rw [He];omega
  | succ i=>
   show (lvl zs (R.drop z.toNat) i).length≤_;refine FA (ih i) ?_;rw [Hi];omega
def thd:Th:=(Str.empty,0,0)
theorem W7{ts:List Th}{i j:Nat}{t u:Th}(nd:(ts.map (·.1)).Nodup)(h1:ts[i]?=some t)(h2:ts[j]?=some u)(e:t.1=u.1):t=u:=by
 have a1:(ts.map (·.1))[i]?=some t.1:=by rw [Fg,h1];rfl
 have a2:(ts.map (·.1))[j]?=some t.1:=by rw [Fg,h2,e];rfl
 have hij:i=j:=(List.getElem?_inj (by have:=(Fe.mp a1).1;exact this) nd).mp (a1.trans a2.symm);subst hij;rw [h1]at h2;exact FN h2
structure Dfs(st as:Addr)(tw:V)(fs:List (Str×V)):Prop where
 st:fs.lookup (Str.ofString "stock")=some (.ref st)
 as:fs.lookup (Str.ofString "asks")=some (.ref as)
 tw:fs.lookup (Str.ofString "tower")=some tw
 n:fs.length < 500
 m:fs.lookup (Str.ofString "say")=none
 k:fs.lookup (Str.ofString "things")=none
theorem Dfs.stock{st as st':Addr}{tw:V}{fs:List (Str×V)}(h:Dfs st as tw fs):Dfs st' as tw (Am (Str.ofString "stock") (.ref st') fs):=by
 refine ⟨by rw [Ap,if_pos rfl],?_,?_,by rw [Ik (by rw [h.st];rfl)];exact h.n,?_,?_⟩ <;> rw [Ap,if_neg (by decide+kernel)]
 · exact h.as
 · exact h.tw
 · exact h.m
 · exact h.k
theorem Dfs.asks{st as as':Addr}{tw:V}{fs:List (Str×V)}(h:Dfs st as tw fs):Dfs st as' tw (Am (Str.ofString "asks") (.ref as') fs):=by
 refine ⟨?_,by rw [Ap,if_pos rfl],?_,by rw [Ik (by rw [h.as];rfl)];exact h.n,?_,?_⟩ <;> rw [Ap,if_neg (by decide+kernel)]
 · exact h.st
 · exact h.tw
 · exact h.m
 · exact h.k
theorem Dfs.tower{st as:Addr}{tw tw':V}{fs:List (Str×V)}(h:Dfs st as tw fs):Dfs st as tw' (Am (Str.ofString "tower") tw' fs):=by
 refine ⟨?_,?_,by rw [Ap,if_pos rfl],by rw [Ik (by rw [h.tw];rfl)];exact h.n,?_,?_⟩ <;> rw [Ap,if_neg (by decide+kernel)]
 · exact h.st
 · exact h.as
 · exact h.m
 · exact h.k
structure Cp(C:Addr)(H:Hp)(d st as:Addr)(tw:V):Prop where
 o:∃dx fs,H d=some (.ins C dx fs)∧Dfs st as tw fs
theorem Cp.same{C d st as:Addr}{tw:V}{H H':Hp}(m:A9 H H')(h:Cp C H d st as tw):Cp C H' d st as tw:=let ⟨dx,fs,h1,h2⟩:=h.o;⟨dx,fs,m _ _ h1,h2⟩
structure O7(K:PySem.W.Frag)(S:Addr)(H0 H:Hp)(p:Addr)(ts:List Th):Prop where
 at':Aw K S H p ts
 fr:∀dx d fs,H p=some (.ins S dx fs)→fs.lookup (Str.ofString "things")=some (.ref d)→H0 d=none
theorem O7.mk'{K:PySem.W.Frag}{S p:Addr}{H0 H0' H H':Hp}{ts ts':List Th}(h:O7 K S H0 H p ts)(a:Aw K S H' p ts')(e:H' p=H p)(m:∀b,H0 b=none→H0' b=none):O7 K S H0' H' p ts':=⟨a,fun dx d fs e1 e2=>m _ (h.fr dx d fs (by rw [← e];exact e1) e2)⟩
theorem O7.t{K:PySem.W.Frag}{S p:Addr}{H0 H:Hp}{ts:List Th}{L:List Addr}(h:O7 K S H0 H p ts)(hp:p∉L)(hL:∀b∈L,∃o,H0 b=some o)(ht:∀b∈L,∃kv,H b=some (.dK kv)):B5 K S H p ts L:=by
 obtain ⟨dx,d,kvs,h1,h2,h3,h4⟩:=h.at'.ex;refine ⟨dx,d,kvs,h1,h2,hp,fun m=>?_,h3,fun i t e=>?_⟩
 · obtain ⟨o,ho⟩:=hL d m
   rw [h.fr dx d _ h1 (by with_unfolding_all rfl)]at ho;cases ho
 · obtain ⟨a,e1,e2⟩:=h4 i t e
   refine ⟨a,e1,?_⟩;rcases e2 with e2 | e2
   · refine .inl ⟨e2,fun m=>?_⟩
     obtain ⟨kv,hk⟩:=ht a m
     rcases e2 with e2 | ⟨o,e2⟩ <;> rw [hk]at e2 <;> cases e2
   · exact .inr fun _=> .inr e2
def Gp(K:PySem.W.Frag)(C:Addr):Sp:=fun vs H Q _=>∃(p dx ra:Addr) (rs:List Rw),vs=[.ref p,.ref ra]∧H p=some (.ins C dx [])∧SqL K H ra (rs.map fun t=>V.ref t.1)∧(∀t∈rs,SqT K H t.1 [t.2.1,t.2.2.1,t.2.2.2])∧Ou rs=none∧
 ∀H',SameBut p H H'→O7 K C H H' p (rs.map J0q)→Q .non H'
def Kc(K:PySem.W.Frag)(D S:Addr):Sp:=fun vs H Q _=>∃(d dx:Addr),vs=[.ref d]∧H d=some (.ins D dx [])∧∀(st as:Addr) (H':Hp),SameBut d H H'→Cp D H' d st as .non→O7 K S H H' st []→H' as=some (.lst [])→H st=none→H as=none→Q .non H'
def N0(D:Addr):Sp:=fun vs H Q _=>∃(d st as t:Addr),vs=[.ref d]∧Cp D H d st as (.ref t)∧Q (.ref t) H
abbrev Dd(C1 C2:Addr):Bool→Addr:=fun w=>match w with | true=>C2 | false=>C1
def E1(K:PySem.W.Frag)(D S:Addr):Sp:=fun vs H Q _=>∃(d gv st as:Addr) (tw:V) (ts:List Th) (t:Th),vs=[.ref d,.ref gv]∧Cp D H d st as tw∧Aw K S H st ts∧((ts++[t]).map (·.1)).Nodup∧ts.length≤59∧(∀u∈ts++[t],Bo u.1.cps.toList=true∧0≤u.2.1∧u.2.1≤10 ^ 30∧1≤u.2.2∧u.2.2≤1000)∧H gv=some (.lst [.str t.1,.int t.2.1,.int t.2.2])∧
 ∀(st':Addr) (H':Hp),SameBut d H H'→Cp D H' d st' as tw→O7 K S H H' st' (ts++[t])→H st'=none→Q (.str (Str.ofString "ok")) H'
def Ej(D:Addr):Sp:=fun vs H Q _=>∃(d gv st as:Addr) (tw:V),vs=[.ref d,.ref gv]∧Cp D H d st as tw∧∀(as':Addr) (H':Hp),SameBut d H H'→Cp D H' d st as' tw→H' as'=some (.lst [])→H as'=none→Q (.str (Str.ofString "ok")) H'
theorem J1t{K:PySem.W.Frag}{S D d dx p:Addr}{H:Hp}{fs:List (Str×V)}{ts:List Th}(h:Aw K S H p ts)(hd:H d=some (.ins D dx fs))(hf:fs.lookup (Str.ofString "things")=none):B5 K S H p ts [d]:=by
 obtain ⟨dx',d',kvs,h1,h2,h3,h4⟩:=h.ex;refine ⟨dx',d',kvs,h1,h2,fun m=>?_,fun m=>?_,h3,fun i t e=>?_⟩
 · rw [Fc.mp m,hd]at h1
   cases h1;rw [show (flds d').lookup (Str.ofString "things")=some (.ref d') by with_unfolding_all rfl]at hf;cases hf
 · rw [Fc.mp m,hd]at h2
   cases h2
 · obtain ⟨a,e1,e2⟩:=h4 i t e
   refine ⟨a,e1,?_⟩;rcases e2 with e2 | e2
   · refine .inl ⟨e2,fun m=>?_⟩
     rcases e2 with e2 | ⟨o,e2⟩ <;> rw [Fc.mp m,hd]at e2 <;> cases e2
   · exact .inr fun _=> .inr e2
theorem Tws.last{K:PySem.W.Frag}{S st:Addr}{ts:List Th}{B:Nat}{H:Hp}{ks:List Addr}{l1 l2:List Tw}(h:Tws K S st ts B H ks (l1++l2)):Tws K S st ts B H ks l2:=
 ⟨fun w hw=>h.ok w (Fs _ hw),(R4.mp h.ap).2.1,h.sk.mono fun b hb=> .inl (by
  rcases B6.mp hb with k | ⟨w,hw,k⟩
  · exact B6.mpr (.inl k)
  · exact B6.mpr (.inr ⟨w,Fs _ hw,k⟩)),fun w hw=>h.es w (Fs _ hw),fun c hc w hw=>h.kk c hc w (Fs _ hw),h.kl⟩
def Bu(K:PySem.W.Frag)(D C1 C2 S:Addr)(pr:Bool):Sp:=fun vs H Q _=>∃(d gv st as:Addr) (tw:V) (ts:List Th) (zs:List Int) (ks:List Addr) (ws:List Tw) (B:Nat),vs=[.ref d,.ref gv]∧Cp D H d st as tw∧Aw K S H st ts∧Tws K S st ts B H ks ws∧d∈ks∧1≤B∧B≤90000∧(ts.map (·.1)).Nodup∧(∀t∈ts,t.2.2=1)∧ts.length≤59∧H gv=some (.lst (zs.map V.int))∧1≤zs.length∧zs.length≤6∧(∀z∈zs,1≤z∧z≤1000000)∧
 ∀(t:Addr) (x:TwA) (s:TwS) (H':Hp),SameBut d H H'→Cp D H' d st as (.ref t)→Tws K S st ts B H' ks (ws++[⟨Dd C1 C2 pr,t,x,s,g0⟩])→s.R=[]→s.zs=zs→s.pd=0→s.ff=List.replicate (zs.length+1) 0→(∀b∈x.si::own t x,H b=none)→Q (.str (Str.ofString "ok")) H'
structure DkT(K:PySem.W.Frag)(D C1 C2 S:Addr)(H:Hp)(d st as t:Addr)(pr:Bool)(x:TwA)(s:TwS)(g:Gt)(ts:List Th)(B:Nat):Prop where
 d:Cp D H d st as (.ref t)
 t:Cj K (Dd C1 C2 pr) S H t x s g ts B
def nT(i:Int):Str:=Str.ofString (toString i)
def Ek(K:PySem.W.Frag)(D C1 C2 S:Addr):Sp:=fun vs H Q _=>∃(d gv st as t:Addr) (pr:Bool) (x:TwA) (s:TwS) (g:Gt) (ts:List Th) (B:Nat) (z:Str),vs=[.ref d,.ref gv]∧DkT K D C1 C2 S H d st as t pr x s g ts B∧H gv=some (.lst [.str z])∧z∈ts.map (·.1)∧B≤80000∧0≤(Dq s.zs.sum s.R z g).h z∧(Dq s.zs.sum s.R z g).h z≤10 ^ 30∧
 ∀(s':TwS) (H':Hp),Off (own t x) H H'→Cj K (Dd C1 C2 pr) S H' t x s' (Dq s.zs.sum s.R z g) ts (B+2)→s'.R=E8 z s→s'.zs=s.zs→s'.pd=s.pd+(if z∈s.R then 0 else Bd ts z)→s'.ff=bump s.ff (shx s.zs s.R z)→Q (.str (nT ((Dq s.zs.sum s.R z g).h z))) H'
def El(K:PySem.W.Frag)(D C1 C2 S:Addr):Sp:=fun vs H Q _=>∃(d gv st as t:Addr) (pr:Bool) (x:TwA) (s:TwS) (g:Gt) (ts:List Th) (B:Nat) (z:Str) (v:Int),vs=[.ref d,.ref gv]∧DkT K D C1 C2 S H d st as t pr x s g ts B∧H gv=some (.lst [.str z,.int v])∧-(10 ^ 30)≤v∧v≤10 ^ 30∧z∈ts.map (·.1)∧B≤80000∧
 ∀(s':TwS) (H':Hp),Off (own t x) H H'→Cj K (Dd C1 C2 pr) S H' t x s' (P2 pr s.zs.sum s.R z v g) ts (B+3)→s'.R=E8 z s→s'.zs=s.zs→s'.pd=s.pd→s'.ff=bump s.ff (shx s.zs s.R z)→Q (.str (Str.ofString "ok")) H'
def E2(K:PySem.W.Frag)(D C1 C2 S:Addr):Sp:=fun vs H Q _=>∃(d gv st as t:Addr) (pr:Bool) (x:TwA) (s:TwS) (g:Gt) (ts:List Th) (B:Nat) (z:Str),vs=[.ref d,.ref gv]∧DkT K D C1 C2 S H d st as t pr x s g ts B∧H gv=some (.lst [.str z])∧z∈ts.map (·.1)∧B≤80000∧
 ∀(s':TwS) (H':Hp),Off (own t x) H H'→Cj K (Dd C1 C2 pr) S H' t x s' (D0 s.zs.sum s.R z g) ts (B+2)→s'.R=(if z∈s.R then s.R else E8 z s)→s'.zs=s.zs→s'.pd=s.pd+(if z∈s.R then 0 else Bd ts z)→s'.ff=s.ff→Q (.str (if z∈s.R then Str.ofString "no" else Str.ofString "yes")) H'
def Em(K:PySem.W.Frag)(D C1 C2 S:Addr):Sp:=fun vs H Q _=>∃(d gv st as t:Addr) (pr:Bool) (x:TwA) (s:TwS) (g:Gt) (ts:List Th) (B:Nat),vs=[.ref d,.ref gv]∧DkT K D C1 C2 S H d st as t pr x s g ts B∧B≤80000∧
 ∀(x':TwA) (s':TwS) (H':Hp),Off (own t x) H H'→(∀b∈own t x',b∈own t x∨H b=none)→Cj K (Dd C1 C2 pr) S H' t x' s' (Kk s.R g) ts (B+100)→s'.R=s.R→s'.zs=s.zs→s'.pd=s.pd→s'.ff=s.ff→x'.st=x.st→x'.si=x.si→Q (.str (nT ((s.R.filter g.l).length:Nat))) H'
def E3(K:PySem.W.Frag)(D C1 C2 S:Addr):Sp:=fun vs H Q _=>∃(d gv st as t:Addr) (pr:Bool) (x:TwA) (s:TwS) (g:Gt) (ts:List Th) (B:Nat) (z:Str),vs=[.ref d,.ref gv]∧DkT K D C1 C2 S H d st as t pr x s g ts B∧H gv=some (.lst [.str z])∧z∈ts.map (·.1)∧0≤g.st z∧g.st z≤10 ^ 30∧Q (.str (nT (g.st z))) H
def slash:Str:=Str.ofString "/"
def J1u(zs:List Int)(R:List Str):Str:=Txt.join (Str.ofString " ") ((List.range zs.length).map fun j=>Txt.join (Str.ofString " ") (lvl zs R j++[slash]))
def Dn(K:PySem.W.Frag)(D C1 C2 S:Addr):Sp:=fun vs H Q _=>∃(d gv st as t:Addr) (pr:Bool) (x:TwA) (s:TwS) (g:Gt) (ts:List Th) (B:Nat),vs=[.ref d,.ref gv]∧DkT K D C1 C2 S H d st as t pr x s g ts B∧(∀y∈s.R,y.length≤8)∧∀H',A9 H H'→Q (.str (J1u s.zs s.R)) H'
def E4(K:PySem.W.Frag)(D C1 C2 S:Addr):Sp:=fun vs H Q _=>∃(d gv st as t:Addr) (pr:Bool) (x:TwA) (s:TwS) (g:Gt) (ts:List Th) (B:Nat),vs=[.ref d,.ref gv]∧DkT K D C1 C2 S H d st as t pr x s g ts B∧(∀i∈s.ff,0≤i∧i≤1000)∧∀H',A9 H H'→Q (.str (Txt.join (Str.ofString " ") (s.ff.map nT))) H'
def E5(K:PySem.W.Frag)(D C1 C2 S:Addr):Sp:=fun vs H Q _=>∃(d gv st as t:Addr) (pr:Bool) (x:TwA) (s:TwS) (g:Gt) (ts:List Th) (B:Nat),vs=[.ref d,.ref gv]∧DkT K D C1 C2 S H d st as t pr x s g ts B∧0≤s.pd∧s.pd≤10 ^ 33∧Q (.str (nT s.pd)) H
abbrev spA(K:PySem.W.Frag)(D C1 C2 S:Addr):W85→Sp:=fun b=>match b with
 | .thing=>E1 K D S | .tower=>Bu K D C1 C2 S false | .prompt=>Bu K D C1 C2 S true | .read=>Ek K D C1 C2 S | .keep=>El K D C1 C2 S | .ahead=>E2 K D C1 C2 S
 | .rest=>Em K D C1 C2 S | .store=>E3 K D C1 C2 S | .levels=>Dn K D C1 C2 S | .found=>E4 K D C1 C2 S | .spent=>E5 K D C1 C2 S | .again=>Ej D
theorem J7l{K:PySem.W.Frag}{D C1 C2 S:Addr}{b:W85}{vs:List V}{H:Hp}{Q:VK}{E E':XK}(h:spA K D C1 C2 S b vs H Q E):spA K D C1 C2 S b vs H Q E':=by cases b <;> exact h
def Le(K:PySem.W.Frag)(D C1 C2 S:Addr):Sp:=fun vs H Q E=>∃(d:Addr) (l:Ln),vs=[.ref d,.str l.txt]∧l.ok∧∀(gv:Addr) (H1:Hp),A9 H H1→H gv=none→H1 gv=some (.lst l.vs)→spA K D C1 C2 S l.b [.ref d,.ref gv] H1 Q E
end N85
namespace N23
open L2 N1 N5 N4 N6 N12 N32 N14 N20 N18 N25 NR N22 N21 N24
end N23
namespace L2
def U4{ι:Type}(C:ι→Addr)(m:Str)(sp:ι→Sp)(EE:St→XK)(ta:TE)(t:TA):TE:=fun σ H Q=>ta σ H fun x H1=>∃b a dx fs,x= .ref a∧H1 a=some (.ins (C b) dx fs)∧fs.lookup m=none∧t σ H1 fun vs H2=>sp b (x::vs) H2 Q (EE σ)
section
variable {ι:Type} {X:Cx} {CX:CXT} {k j:Nat} {C:ι→Addr} {ps:List Str} {sp:ι→Sp} {EE:St→XK} {m:Str} {pos apos:Pos} {e o:Expr} {es:List Expr} {ta:TE} {t:TA}
theorem Lf{pl:Sem Bool}(D:∀b,Cd X.prog X.w X.K X.mg X.base CX j (C b) m ps (sp b))(c:∀b,Cls X.K (C b))(hr:Cy k X.A)(hx:Eo CX X EE)(he:PE X o ta)(ha:PA X (e::es) t)(hj:j≤k:=by decide)
 (hst:starEach (e::es) X.env=(false,eval e X.env)::starEach es X.env:=by rfl) (hpl:(backTo pos (starEach es X.env)).any (·.1)=false:=by rfl)
 (ht:eval (.Call (.Attribute o m apos) (e::es) [] pos) X.env=(do
  let ov ← eval o X.env
  standAt apos.atName
  let (f,first) ← holding [ov] (getMethod ov m pl)
  callWith pos f first (backTo pos (starEach (e::es) X.env)) (backToKw pos (keywordEach [] X.env))):=by rfl):
 PE X (.Call (.Attribute o m apos) (e::es) [] pos) (U4 C m sp EE ta t):=by
 intro pins s σ H Q I h;refine R0 (pl:=pl) (thn (he pins s σ H _ I h) fun u s1 hq_=>?_) ht;obtain ⟨x,H1,I1,rx,b,a,dx,fs,ex,ea,l,q⟩:=hq_;obtain ⟨f,fd,F,hm,hb⟩:=(D b).ex;subst ex;obtain rfl:u=Value.ref a:=rx;refine G5 I1 ea (c b) hm l ?_;refine HV (first:=[.ref a]) (h₀:=X.base) I.ok.mod.kin hm.kp (thn (ha pos pins s1 σ H1 _ I1 q) fun us s2 ⟨vs,H2,I2,r,q2⟩=>⟨I2.kIn,?_⟩) hst hpl;exact Mt (us:= .ref a::us) (vs:= .ref a::vs) (F.mono hj) hr hb hx I2 (.cons rfl r) q2
theorem Sw{σ:St}{H:Hp}{Q:VK}:U4 C m sp EE ta t σ H Q=ta σ H fun x H1=>∃b a dx fs,x= .ref a∧H1 a=some (.ins (C b) dx fs)∧fs.lookup m=none∧t σ H1 fun vs H2=>sp b (x::vs) H2 Q (EE σ):=rfl
end
end L2
namespace N29
open L2 N1 N5 N4 N6 N12 N32 N14 N20 N18 N25 NR N22 N21 N24 N23
inductive W5 where
 | ra | ol | fi | ha | fa
structure C5 where
 ra:Addr
 ol:Addr
 fi:Addr
 ha:Addr
 fa:Addr
structure L5 where
 k:Int
 la:List (Key×V)
 pu:List (Key×V)
 ta:List (Key×V)
 e:Int
end N29
namespace L2
section
variable {ι:Type} {X:Cx} {CX:CXT} {k j:Nat} {C:ι→Addr} {ps:List Str} {sp:ι→Sp} {EE:St→XK} {m:Str} {pos apos:Pos} {o:Expr} {ta:TE}
theorem Kd{pl:Sem Bool}(D:∀b,Cd X.prog X.w X.K X.mg X.base CX j (C b) m ps (sp b))(c:∀b,Cls X.K (C b))(hr:Cy k X.A)(hx:Eo CX X EE)(he:PE X o ta)(hj:j≤k:=by decide)
 (ht:eval (.Call (.Attribute o m apos) [] [] pos) X.env=(do
  let ov ← eval o X.env
  standAt apos.atName
  let (f,first) ← holding [ov] (getMethod ov m pl)
  callWith pos f first (backTo pos (starEach [] X.env)) (backToKw pos (keywordEach [] X.env))):=by rfl):
 PE X (.Call (.Attribute o m apos) [] [] pos) (U4 C m sp EE ta Y0):=by
 intro pins s σ H Q I h;refine R0 (pl:=pl) (thn (he pins s σ H _ I h) fun u s1 hq_=>?_) ht;obtain ⟨x,H1,I1,rx,b,a,dx,fs,ex,ea,l,q⟩:=hq_;obtain ⟨f,fd,F,hm,hb⟩:=(D b).ex;subst ex;obtain rfl:u=Value.ref a:=rx;refine G5 I1 ea (c b) hm l ?_;exact RF (first:=[.ref a]) I1.kIn hm.kp (Mt (us:=[.ref a]) (vs:=[.ref a]) (F.mono hj) hr hb hx I1 (.cons rfl .nil) q)
end
end L2
namespace N30
open PySem
end N30
namespace L2
open N30
section
variable {K:Type} [DecidableEq K]
def ds1(s:List K)(y:K):List K:=if y∈s then s else s++[y]
def ds(ys:List K):List K:=ys.foldl ds1 []
end
end L2
namespace N35
open L2 N1 N5 N31 N4 N32 N41
variable {ys:List Str} {R:Str→Int} {n c:Nat}
theorem Xa{K:PySem.W.Frag}{H1:Hp}{tail:L2.St}{te:Blk→TE}{Q:VK}{a:Addr}{xs:List V}(f:Nat→List V)(hS:SqL K H1 a xs)(hz:xs.length≤sizeLine)(he:∀b (i:Nat) x H Q',xs[i]?=some x→A9 H1 H→(∀t H',A9 H H'→H' t=some (.tup (f i))→Q' (.ref t) H')→te b (some x::tail) H Q')
 (q:∀(D:Addr) (as:List Addr) (H':Hp),H1 D=none→A9 H1 H'→H' D=some (.lst (as.map V.ref))→as.length=xs.length→(∀i b,as[i]?=some b→H' b=some (.tup (f i)))→Q (.ref D) H'):Cc (none::tail) (fun _=>Ce 0) (fun _=>Ki) te Q (Itl K a) H1:=by
 refine L8 xs.length (fun b D hD=>⟨fun i ys H=>i≤xs.length∧H D=some (.lst ys)∧A9 H1 H∧∃as:List Addr,ys=as.map V.ref∧as.length=i∧∀j c,as[j]?=some c→H c=some (.tup (f j)),⟨Fq _,A5,D4 hD,[],rfl,rfl,fun j y e=>by simp at e⟩,?_,?_,?_⟩)
 · rintro i ys H ⟨hi,h,_⟩
   exact h
 · rintro ys H ⟨_,h,sm,as,rfl,hl,hall⟩
   exact ⟨⟨xs,sm.seq hS,Ff _⟩,q D as H hD sm h hl hall⟩
 · rintro i ys H hi ⟨_,h,sm,as,rfl,hl,hall⟩
   refine ⟨⟨xs,xs[i],sm.seq hS,by simp [hi]⟩,fun x H3 ⟨e3,ex⟩=>?_⟩;subst e3;refine he b i x _ _ (ex xs (sm.seq hS)) sm fun t H4 sm4 py=>?_;have h4:=sm4 _ _ h;refine Ii h4 (by rw [Fa];omega) hi ⟨hi,A5,fun c o e=>?_,as++[t],by rw [FC];rfl,by rw [Fj,hl];rfl,fun j c e=>?_⟩
   · rw [A3 (A2 e hD)];exact sm4 _ _ (sm _ _ e)
   · by_cases hj:j < as.length
     · rw [Fw hj]at e
       have g:=sm4 _ _ (hall j c e);rw [A3 (Bx g h4 (by intro z;cases z))];exact g
     · rw [FB (by omega)]at e
       have hj0:j=i:=by have:=(Fe.mp e).1;simp at this;omega
       subst hj0;rw [show j - as.length=0 by omega]at e;cases e;rw [A3 (Bx py h4 (by intro z;cases z))];exact py
theorem J5n(ns:List Int)(lo hi:Nat):∃cs:List Int,Kz (ns.map V.int) (some (lo:Int)) (some (hi:Int))=cs.map V.int∧cs.length≤hi - lo∧cs.length≤ns.length - lo:=by
 unfold Kz;rw [HT.Ky,HT.Ky,Fa,← List.map_drop,← List.map_take];refine ⟨_,rfl,?_,?_⟩
 · rw [He,Hi];omega
 · rw [He,Hi];omega
end N35
namespace L2
def J1v:V→List V→Hp→VK→Prop:=fun x vs H Q=>∃(l:Addr) (ys:List Str) (z:Str),x= .ref l∧vs=[.str z]∧H l=some (.lst (ys.map V.str))∧z∈ys∧Q (.int (ys.idxOf z:Nat)) H
section
variable {X:Cx}
theorem J1w:MtM X "list.index" J1v:=by
 intro pins s σ H x vs v us Q I rx rv h;obtain ⟨l,ys,z,rfl,rfl,hH,hz,q⟩:=h;cases rx;obtain ⟨u,rfl,ru⟩:=rv.one;obtain ⟨t,rfl⟩:=ru;obtain ⟨hs,its,n,r,hl,e⟩:=I.lstM hH;have line:=Dz;have hj:ys.idxOf z < ys.length:=List.idxOf_lt_length_iff.mpr hz
 have hyl:ys.length≤sizeLine:=by have:=hs;rw [Fa]at this;exact this
 have at_:∀(m:Nat) (u:Value),its[m]?=some u→∃y t,ys[m]?=some y∧u= .str y t:=fun m u em=>by
  obtain ⟨x,ex,rx⟩:=Nm r em;rw [Fg]at ex
  cases hy:ys[m]? with
  | none=>rw [hy]at ex;cases ex
  | some y=>
   rw [hy]at ex;cases ex;obtain ⟨t,e⟩:=rx;exact ⟨y,t,rfl,e⟩
 have ev:∀y,y∈its.toArray→MeetsSeq.EqGives y (.str z t) (PyProof.Rows.isStrOf z y):=fun y hy=>by
  obtain ⟨m,hm⟩:=FE.mp (by simpa using hy)
  obtain ⟨y',t',_,rfl⟩:=at_ m y hm
  exact eqGives_str y' z t' t
 have hit:∀(m:Nat) (hm:m < its.toArray.size),∃y t,ys[m]?=some y∧its.toArray[m]= .str y t:=fun m hm=>at_ m _ (by simp)
 refine HL F.slot_list_index ⟨_,e,rfl⟩ F.entry_list_index (F.args_list_index_2 _ _) (MeetsSeq.list_index l its.toArray n (.str z t) (isStrOf z) ev (ys.idxOf z) (by rw [Fm,← hl,Fa];exact hj) (by omega) ?_ ?_) ⟨e,?_⟩
 · obtain ⟨y,t',h1,h2⟩:=hit (ys.idxOf z) (by rw [Fm,← hl,Fa];exact hj)
   rw [h2]
   have e3:ys[ys.idxOf z]?=some z:=by rw [Fd hj,RK hj]
   rw [e3]at h1;cases h1;simp [isStrOf]
 · intro m hm hlt
   obtain ⟨y,t',h1,h2⟩:=hit m hm;rw [h2];have e3:(ys[m]'(by omega)==z)=false:=List.not_of_lt_findIdx hlt;rw [Fd (by omega)]at h1;cases h1;exact e3
 · exact ⟨.int (ys.idxOf z:Nat),H,I.kept (t':=s.toks+1) (fun b o e=>e),⟨_,rfl⟩,q⟩
theorem Sx{x:V}{vs:List V}{H:Hp}{Q:VK}:J1v x vs H Q=∃(l:Addr) (ys:List Str) (z:Str),x= .ref l∧vs=[.str z]∧H l=some (.lst (ys.map V.str))∧z∈ys∧Q (.int (ys.idxOf z:Nat)) H:=rfl
end
end L2
namespace N36
open L2 N1 N5 N4 N6 N12 N32 N14 N20 N18 N25 NR N22 N21 N24 N23 N29
def pos(row:List Str)(z:Str):Nat:=if z∈row then row.idxOf z else row.length
inductive W3 where
 | ol | ha | fa
theorem Sy{kvs:List (Key×V)}{k:Key}{v w:V}(h:Ay kvs k=some w):(B1 kvs k v).length=kvs.length:=by
 unfold B1
 have a:(kvs.any fun kv=>decide (kv.1=k))=true:=by rw [Cr,h];rfl
 rw [if_pos a,Fa]
end N36
namespace L2
section
variable {X:Cx} {CX:CXT} {k j:Nat} {C:Addr} {ps:List Str} {sp:Sp} {EE:St→XK} {x:Str} {p pos:Pos}
theorem Xb(D:Qs X.prog X.w X.K X.mg X.base CX j x C ps sp)(hr:Cy k X.A)(hg:Gl X x)(hx:Eo CX X EE)(hj:j+1≤k:=by decide)(hdb:(x==("__debug__":Str))=false:=by decide):
 PE X (.Call (.Name x p) [] [] pos) (Tu C sp EE Y0):=by
 obtain ⟨f,fd,F,M,hm,hb⟩:=D.ex;intro pins s0 σ H0 Q I h;refine HD (Mn I hg hm ?_ hdb);have q:∀x dx,H0 x=none→H0 dx=none→dx≠x→sp [.ref x] (upd (upd H0 dx (.own x)) x (.ins C dx [])) (fun v H2=>v= .non∧Q (.ref x) H2) (EE σ):=h;refine RF (first:=[]) I.kIn M.kp ?_;have hq:=q (s0.heap.objs.size+1) s0.heap.objs.size (I.hok.fresh (Ry _)) (I.hok.fresh (Ff _)) (FD (R3 _));have I2:=Inv.made (C:=C) I;have r2:B3 [V.ref (s0.heap.objs.size+1)] [Value.ref (s0.heap.objs.size+1)]:= .cons rfl .nil
 have hl:[Value.ref (s0.heap.objs.size+1)].length=ps.length:=by
  rw [← r2.length];exact F.len _ _ _ _ hq
 have hb':=fun s' (h':X.K.In s'.heap)=>hb s' [Value.ref (s0.heap.objs.size+1)] h' (by simpa using hl);have hr':Cy (j+1) X.A:=hr.mono hj
 refine wpAny_call (Q5 (f:=f) I.kIn M.makes M.init (HU.mp M.fn) (R8 (F.run _ X.stack _ _ ⟨[Value.ref (s0.heap.objs.size+1)],[]⟩ [Value.ref (s0.heap.objs.size+1)] _ _ (EE σ) (hr'.make C [] [])
  (I2.env0.make C [] []) (by have:=hb' _ I2.kIn;rw [FP]at this;exact this) r2 hq) fun r s' hq'=>?_))
 cases r with
 | error e=>exact hx pins σ _ _ e s' I2 hq'
 | ok fl=>
  cases fl with
  | ret u=>
   obtain ⟨v,H',I3,rv,ev,q3⟩:=I2.after hq';subst ev;exact ⟨rv,⟨V.ref (s0.heap.objs.size+1),H',I3,rfl,q3⟩⟩
  | next=>exact False.elim hq'
  | brk=>exact False.elim hq'
  | cont=>exact False.elim hq'
end
end L2
namespace N85
open L2 N1 N5 N4 N6 N12 N71 N74 N75 N79 NTx
def lvA:List Int→Nat→Nat
 | [],_=>0
 | z::zs,a=>if (a:Int) < z then 0 else 1+lvA zs (a - z.toNat)
theorem J1x{s:Int}{zs:List Int}{R:List Str}{z:Str}:shx (s::zs) R z=if z∈R.take s.toNat then 0 else 1+shx zs (R.drop s.toNat) z:=by
 unfold shx;rw [List.length_cons,List.range_succ_eq_map,HF]
 by_cases h:z∈R.take s.toNat
 · rw [if_pos h]
   have e:decide (z∈lvl (s::zs) R 0)=true:=FI h;rw [e];rfl
 · rw [if_neg h]
   have e:decide (z∈lvl (s::zs) R 0)=false:=FF h;rw [e];dsimp only;rw [List.find?_map];have e2:((fun i=>decide (z∈lvl (s::zs) R i))∘Nat.succ)=fun i=>decide (z∈lvl zs (R.drop s.toNat) i):=rfl;rw [e2]
   cases ((List.range zs.length).find? fun i=>decide (z∈lvl zs (R.drop s.toNat) i)) with
   | none=>show zs.length+1=1+zs.length;omega
   | some i=>show i+1=1+i;omega
theorem W8{R:List Str}{z:Str}{a n:Nat}(nd:R.Nodup)(h:R[a]?=some z):z∈R.take n↔a < n:=by
 constructor
 · intro k
   obtain ⟨b,hb⟩:=FE.mp k;rw [List.getElem?_take]at hb;split at hb
   · rename_i hbn
     have:a=b:=(List.getElem?_inj (Fe.mp h).1 nd).mp (h.trans hb.symm);omega
   · cases hb
 · intro k
   refine FE.mpr ⟨a,?_⟩;rw [List.getElem?_take,if_pos k];exact h
theorem J1y{zs:List Int}:∀{R:List Str} {z:Str} {a:Nat},R.Nodup→(∀s∈zs,1≤s)→R[a]?=some z→shx zs R z=lvA zs a:=by
 induction zs with
 | nil=>intro R z a _ _ _;rfl
 | cons s zs ih=>
  intro R z a nd hs h;have h1:=hs s Fi;rw [J1x]
  show _=if (a:Int) < s then 0 else 1+lvA zs (a - s.toNat)
  by_cases k:(a:Int) < s
  · rw [if_pos k,if_pos ((W8 nd h).mpr (by omega))]
  · rw [if_neg k,if_neg (fun m=>k (by have:=(W8 nd h).mp m;omega))]
    rw [ih (nd.sublist (List.drop_sublist _ _)) (fun u hu=>hs u (Fb _ hu)) (by rw [RL,show s.toNat+(a - s.toNat)=a by omega];exact h)]
theorem W9{zs:List Int}{R:List Str}{z:Str}(h:z∉R):shx zs R z=zs.length:=Nw fun j _ k=>h (K6 k)
theorem J1z{zs:List Int}{j a:Nat}(hj:j < zs.length)(h:¬(a:Int) < zs[j]):lvA (zs.drop j) a=1+lvA (zs.drop (j+1)) (a - zs[j].toNat):=by
 rw [Hu hj];show (if (a:Int) < zs[j] then 0 else _)=_;rw [if_neg h]
theorem J20{zs:List Int}{j a:Nat}(hj:j < zs.length)(h:(a:Int) < zs[j]):lvA (zs.drop j) a=0:=by
 rw [Hu hj];show (if (a:Int) < zs[j] then 0 else _)=_;rw [if_pos h]
theorem J5o{zs:List Int}:∀{a:Nat},lvA zs a≤zs.length:=by
 induction zs with
 | nil=>intro a;exact Ff _
 | cons z zs ih=>
  intro a;show (if (a:Int) < z then 0 else 1+lvA zs (a - z.toNat))≤zs.length+1;split
  · omega
  · have:=ih (a:=a - z.toNat);omega
theorem J21{y:Str}:∀{ps qs:List Str},ps≠[]→qs≠[]→Str.join y (ps++qs)=Str.join y ps++y++Str.join y qs:=by
 intro ps
 induction ps with
 | nil=>intro qs h;exact absurd rfl h
 | cons p ps ih=>
  intro qs _ hq
  cases ps with
  | nil=>
   cases qs with
   | nil=>exact absurd rfl hq
   | cons q qs=>rfl
  | cons p2 ps=>
   have:=ih (qs:=qs) (by simp) hq;show p++y++Str.join y ((p2::ps)++qs)=(p++y++Str.join y (p2::ps))++y++Str.join y qs;rw [this];simp only [Str.append_assoc]
theorem Xc{y:Str}:∀{xss:List (List Str)},(∀xs∈xss,xs≠[])→Str.join y (xss.map (Str.join y))=Str.join y xss.flatten:=by
 intro xss
 induction xss with
 | nil=>intro _;rfl
 | cons xs xss ih=>
  intro h;have hx:=h xs Fi;have ht:=ih fun u hu=>h u (Fb _ hu)
  cases xss with
  | nil=>rw [FW,RW,FP];rfl
  | cons ys r=>
   have hne:(ys::r).flatten≠[]:=by
    rw [FW];intro e;exact h ys (by simp) (List.append_eq_nil_iff.mp e).1
   rw [FW,J21 hx hne,← ht];rfl
theorem J3e{zs:List Int}{R:List Str}:Txt.join (Str.ofString " ") (((List.range zs.length).map fun j=>lvl zs R j++[slash]).flatten)=J1u zs R:=by
 have e:∀xs:List Str,Txt.join (Str.ofString " ") xs=Str.join (Str.ofString " ") xs:=fun xs=>StrLaws.glued_eq_join _ _;unfold J1u;rw [e,e];rw [← Xc (by intro xs hxs;obtain ⟨j,_,rfl⟩:=Fv.mp hxs;simp),FM];congr 1;refine List.map_congr_left fun j _=>?_;exact (e _).symm
theorem J5p{kvs:List (Key×V)}{k:Key}{v:V}(h:(kvs.map (·.1)).Nodup):((B1 kvs k v).map (·.1)).Nodup:=by
 cases e:Ay kvs k with
 | none=>
  rw [Ng v e,FC];refine Hz.mpr ⟨h,by simp,fun a ha b hb e2=>?_⟩;rw [Fc.mp hb]at e2;have e3:a=k:=e2;exact L6 e (by rw [← e3];exact ha)
 | some w=>
  have e1:(kvs.any fun kv=>decide (kv.1=k))=true:=by rw [Cr,e];rfl
  unfold B1;rw [if_pos e1,FM]
  have e2:((fun x:Key×V=>x.1)∘fun kv:Key×V=>if kv.1=k then (kv.1,v) else kv)=fun kv=>kv.1:=by
   funext kv;show (if kv.1=k then (kv.1,v) else kv).1=kv.1
   split <;> rfl
  rw [e2];exact h
theorem J3f{kvs:List (Key×V)}{k:Key}(h:(kvs.map (·.1)).Nodup):((B9 kvs k).map (·.1)).Nodup:=by
 unfold B9;exact h.sublist (List.filter_sublist.map _)
structure LsA where
 sd:Addr
 li:Addr
 ne:Addr
 la:Addr
 fa:Addr
 fo:Addr
def LsA.L(a:LsA):List Addr:=[a.sd,a.li,a.ne,a.la,a.fa,a.fo]
structure LsS where
 R:List Str
 g:Gt
 ff:List Int
 pd:Int
 pr:Bool
def Wa(s:LsS):LsS:={s with g:={s.g with st:=fun y=>if s.g.l y then s.g.h y else s.g.st y,l:=fun _=>false}}
abbrev kS(s:String):Key:=Sum.inr (Str.ofString s)
structure SdK(a:LsA)(s:LsS)(kv:List (Key×V)):Prop where
 li:Ay kv (kS "line")=some (.ref a.li)
 ne:Ay kv (kS "near")=some (.ref a.ne)
 la:Ay kv (kS "late")=some (.ref a.la)
 fa:Ay kv (kS "far")=some (.ref a.fa)
 fo:Ay kv (kS "found")=some (.ref a.fo)
 pd:Ay kv (kS "spent")=some (.int s.pd)
 pr:Ay kv (kS "prompt")=some (.bl s.pr)
 n:kv.length≤10
structure B2(H:Hp)(a:LsA)(s:LsS)(B:Nat)(hd:Str→Prop):Prop where
 o:∃kv,H a.sd=some (.dK kv)∧SdK a s kv
 li:H a.li=some (.lst (s.R.map V.str))
 ne:∃kn,H a.ne=some (.dK kn)∧kn.length≤B∧∀y,hd y→Ay kn (Sum.inr y)=some (.int (s.g.h y))
 la:∃kl,H a.la=some (.dK kl)∧kl.length≤B∧(kl.map (·.1)).Nodup∧(∀k∈kl.map (·.1),∃y:Str,k=Sum.inr y)∧∀y,(Ay kl (Sum.inr y)).isSome=s.g.l y
 fa:∃kf,H a.fa=some (.dK kf)∧kf.length≤B∧∀y,(Ay kf (Sum.inr y)).getD (.int 0)= .int (s.g.st y)
 fo:H a.fo=some (.lst (s.ff.map V.int))
 nd:a.L.Nodup
 b:B≤50000
section
variable {H H':Hp} {a:LsA} {s:LsS} {B B':Nat} {hd q:Str→Prop} {z:Str} {v:Int}
theorem B2.same(m:A9 H H')(h:B2 H a s B hd):B2 H' a s B hd:=by
 obtain ⟨kv,o1,o2⟩:=h.o;obtain ⟨kn,n1,n2⟩:=h.ne;obtain ⟨kl,l1,l2⟩:=h.la;obtain ⟨kf,f1,f2⟩:=h.fa;exact ⟨⟨kv,m _ _ o1,o2⟩,m _ _ h.li,⟨kn,m _ _ n1,n2⟩,⟨kl,m _ _ l1,l2⟩,⟨kf,m _ _ f1,f2⟩,m _ _ h.fo,h.nd,h.b⟩
theorem B2.off{L:List Addr}(o:Off L H H')(n:∀b∈a.L,b∉L)(h:B2 H a s B hd):B2 H' a s B hd:=by
 obtain ⟨kv,o1,o2⟩:=h.o;obtain ⟨kn,n1,n2⟩:=h.ne;obtain ⟨kl,l1,l2⟩:=h.la;obtain ⟨kf,f1,f2⟩:=h.fa;exact ⟨⟨kv,o _ _ o1 (n _ (by simp [LsA.L])),o2⟩,o _ _ h.li (n _ (by simp [LsA.L])),⟨kn,o _ _ n1 (n _ (by simp [LsA.L])),n2⟩,⟨kl,o _ _ l1 (n _ (by simp [LsA.L])),l2⟩,⟨kf,o _ _ f1 (n _ (by simp [LsA.L])),f2⟩,o _ _ h.fo (n _ (by simp [LsA.L])),h.nd,h.b⟩
theorem B2.iff(h:B2 H a s B hd)(e:∀y,q y→hd y):B2 H a s B q:=by
 obtain ⟨kn,n1,n2,n3⟩:=h.ne;exact ⟨h.o,h.li,⟨kn,n1,n2,fun y hy=>n3 y (e y hy)⟩,h.la,h.fa,h.fo,h.nd,h.b⟩
theorem B2.up(h:B2 H a s B hd)(hB:B≤B')(hb:B'≤50000):B2 H a s B' hd:=by
 obtain ⟨kn,n1,n2,n3⟩:=h.ne;obtain ⟨kl,l1,l2,l3⟩:=h.la;obtain ⟨kf,f1,f2,f3⟩:=h.fa;exact ⟨h.o,h.li,⟨kn,n1,FA n2 hB,n3⟩,⟨kl,l1,FA l2 hB,l3⟩,⟨kf,f1,FA f2 hB,f3⟩,h.fo,h.nd,hb⟩
theorem LsA.ne_(nd:a.L.Nodup):a.sd≠a.li∧a.sd≠a.ne∧a.sd≠a.la∧a.sd≠a.fa∧a.sd≠a.fo∧a.li≠a.ne∧a.li≠a.la∧a.li≠a.fa∧a.li≠a.fo∧a.ne≠a.la∧a.ne≠a.fa∧a.ne≠a.fo∧a.la≠a.fa∧a.la≠a.fo∧a.fa≠a.fo:=by
 simp only [LsA.L,FO,Fo,FQ,or_false,not_or,Hh,and_true]at nd;obtain ⟨⟨a1,a2,a3,a4,a5⟩,⟨b1,b2,b3,b4⟩,⟨c1,c2,c3⟩,⟨d1,d2⟩,e1⟩:=nd;exact ⟨a1,a2,a3,a4,a5,b1,b2,b3,b4,c1,c2,c3,d1,d2,e1.1⟩
theorem B2.gx{g2:Gt}(h:B2 H a s B hd)(e1:g2.h=s.g.h)(e2:g2.l=s.g.l)(e3:g2.st=s.g.st):B2 H a {s with g:=g2} B hd:=by
 obtain ⟨kv,o1,o2⟩:=h.o;obtain ⟨kn,n1,n2,n3⟩:=h.ne;obtain ⟨kl,l1,l2,l3,l4,l5⟩:=h.la;obtain ⟨kf,f1,f2,f3⟩:=h.fa;exact ⟨⟨kv,o1,⟨o2.li,o2.ne,o2.la,o2.fa,o2.fo,o2.pd,o2.pr,o2.n⟩⟩,h.li,⟨kn,n1,n2,fun y hy=>by show _=some (V.int (g2.h y));rw [e1];exact n3 y hy⟩,⟨kl,l1,l2,l3,l4,fun y=>by show _=g2.l y;rw [e2];exact l5 y⟩,⟨kf,f1,f2,fun y=>by show _=V.int (g2.st y);rw [e3];exact f3 y⟩,h.fo,h.nd,h.b⟩
theorem B2.row{R:List Str}(h:B2 H a s B hd):B2 (upd H a.li (.lst (R.map V.str))) a {s with R:=R} B hd:=by
 obtain ⟨a1,a2,a3,a4,a5,b1,b2,b3,b4,c1,c2,c3,d1,d2,e1⟩:=LsA.ne_ h.nd;obtain ⟨kv,o1,o2⟩:=h.o;obtain ⟨kn,n1,n2⟩:=h.ne;obtain ⟨kl,l1,l2⟩:=h.la;obtain ⟨kf,f1,f2⟩:=h.fa;exact ⟨⟨kv,by rw [A3 a1];exact o1,⟨o2.li,o2.ne,o2.la,o2.fa,o2.fo,o2.pd,o2.pr,o2.n⟩⟩,A5,⟨kn,by rw [A3 b1.symm];exact n1,n2⟩,⟨kl,by rw [A3 b2.symm];exact l1,l2⟩,⟨kf,by rw [A3 b3.symm];exact f1,f2⟩,by rw [A3 b4.symm];exact h.fo,h.nd,h.b⟩
theorem B2.finds{ff:List Int}(h:B2 H a s B hd):B2 (upd H a.fo (.lst (ff.map V.int))) a {s with ff:=ff} B hd:=by
 obtain ⟨a1,a2,a3,a4,a5,b1,b2,b3,b4,c1,c2,c3,d1,d2,e1⟩:=LsA.ne_ h.nd;obtain ⟨kv,o1,o2⟩:=h.o;obtain ⟨kn,n1,n2⟩:=h.ne;obtain ⟨kl,l1,l2⟩:=h.la;obtain ⟨kf,f1,f2⟩:=h.fa;exact ⟨⟨kv,by rw [A3 a5];exact o1,⟨o2.li,o2.ne,o2.la,o2.fa,o2.fo,o2.pd,o2.pr,o2.n⟩⟩,by rw [A3 b4];exact h.li,⟨kn,by rw [A3 c3];exact n1,n2⟩,⟨kl,by rw [A3 d2];exact l1,l2⟩,⟨kf,by rw [A3 e1];exact f1,f2⟩,A5,h.nd,h.b⟩
theorem B2.near{kn:List (Key×V)}(h:B2 H a s B hd)(hk:H a.ne=some (.dK kn))(hB:B+1≤50000):B2 (upd H a.ne (.dK (B1 kn (Sum.inr z) (.int v)))) a {s with g:=s.g.hold z v} (B+1) (fun y=>hd y∨y=z):=by
 obtain ⟨a1,a2,a3,a4,a5,b1,b2,b3,b4,c1,c2,c3,d1,d2,e1⟩:=LsA.ne_ h.nd;obtain ⟨kv,o1,o2⟩:=h.o;obtain ⟨kn',n1,n2,n3⟩:=h.ne;obtain ⟨kl,l1,l2,l3,l4⟩:=h.la;obtain ⟨kf,f1,f2,f3⟩:=h.fa;rw [hk]at n1;cases n1;have hl:=Bg kn (Sum.inr z:Key) (V.int v);refine ⟨⟨kv,by rw [A3 a2];exact o1,⟨o2.li,o2.ne,o2.la,o2.fa,o2.fo,o2.pd,o2.pr,o2.n⟩⟩,by rw [A3 b1];exact h.li,⟨_,A5,by omega,fun y hy=>?_⟩,⟨kl,by rw [A3 c1.symm];exact l1,by omega,l3,l4⟩,⟨kf,by rw [A3 c2.symm];exact f1,by omega,f3⟩,by rw [A3 c3.symm];exact h.fo,h.nd,hB⟩;rw [C3];show _=some (V.int (Cz s.g.h z v y))
 by_cases e:y=z
 · rw [e,if_pos rfl,Ba]
 · rw [if_neg (Dm e),C7 e];exact n3 y (hy.resolve_right e)
theorem B2.far{kf:List (Key×V)}(h:B2 H a s B hd)(hk:H a.fa=some (.dK kf))(hB:B+1≤50000):B2 (upd H a.fa (.dK (B1 kf (Sum.inr z) (.int v)))) a {s with g:={s.g with st:=Cz s.g.st z v}} (B+1) hd:=by
 obtain ⟨a1,a2,a3,a4,a5,b1,b2,b3,b4,c1,c2,c3,d1,d2,e1⟩:=LsA.ne_ h.nd;obtain ⟨kv,o1,o2⟩:=h.o;obtain ⟨kn,n1,n2,n3⟩:=h.ne;obtain ⟨kl,l1,l2,l3,l4⟩:=h.la;obtain ⟨kf',f1,f2,f3⟩:=h.fa;rw [hk]at f1;cases f1;have hl:=Bg kf (Sum.inr z:Key) (V.int v);refine ⟨⟨kv,by rw [A3 a4];exact o1,⟨o2.li,o2.ne,o2.la,o2.fa,o2.fo,o2.pd,o2.pr,o2.n⟩⟩,by rw [A3 b3];exact h.li,⟨kn,by rw [A3 c2];exact n1,by omega,n3⟩,⟨kl,by rw [A3 d1];exact l1,by omega,l3,l4⟩,⟨_,A5,by omega,fun y=>?_⟩,by rw [A3 e1.symm];exact h.fo,h.nd,hB⟩;rw [C3];show _=V.int (Cz s.g.st z v y)
 by_cases e:y=z
 · rw [e,if_pos rfl,Ba];rfl
 · rw [if_neg (Dm e),C7 e];exact f3 y
theorem B2.lateOn{kl:List (Key×V)}(h:B2 H a s B hd)(hk:H a.la=some (.dK kl))(hB:B+1≤50000):B2 (upd H a.la (.dK (B1 kl (Sum.inr z) (.bl true)))) a {s with g:=s.g.late z true} (B+1) hd:=by
 obtain ⟨a1,a2,a3,a4,a5,b1,b2,b3,b4,c1,c2,c3,d1,d2,e1⟩:=LsA.ne_ h.nd;obtain ⟨kv,o1,o2⟩:=h.o;obtain ⟨kn,n1,n2,n3⟩:=h.ne;obtain ⟨kl',l1,l2,l3,l4,l5⟩:=h.la;obtain ⟨kf,f1,f2,f3⟩:=h.fa;rw [hk]at l1;cases l1;have hl:=Bg kl (Sum.inr z:Key) (V.bl true);refine ⟨⟨kv,by rw [A3 a3];exact o1,⟨o2.li,o2.ne,o2.la,o2.fa,o2.fo,o2.pd,o2.pr,o2.n⟩⟩,by rw [A3 b2];exact h.li,⟨kn,by rw [A3 c1];exact n1,by omega,n3⟩,⟨_,A5,by omega,J5p l3,fun k hk2=>?_,fun y=>?_⟩,⟨kf,by rw [A3 d1.symm];exact f1,by omega,f3⟩,by rw [A3 d2.symm];exact h.fo,h.nd,hB⟩
 · obtain ⟨p,hp,rfl⟩:=Fv.mp hk2
   rcases J1k hp with e | ⟨p0,h0,e⟩
   · exact ⟨z,e⟩
   · rw [e];exact l4 _ (Fv.mpr ⟨p0,h0,rfl⟩)
 · rw [C3]
   show _=Cz s.g.l z true y
   by_cases e:y=z
   · rw [e,if_pos rfl,Ba];rfl
   · rw [if_neg (Dm e),C7 e];exact l5 y
theorem B2.lateOff{kl:List (Key×V)}(h:B2 H a s B hd)(hk:H a.la=some (.dK kl)):B2 (upd H a.la (.dK (B9 kl (Sum.inr z)))) a {s with g:=s.g.late z false} B hd:=by
 obtain ⟨a1,a2,a3,a4,a5,b1,b2,b3,b4,c1,c2,c3,d1,d2,e1⟩:=LsA.ne_ h.nd;obtain ⟨kv,o1,o2⟩:=h.o;obtain ⟨kn,n1,n2,n3⟩:=h.ne;obtain ⟨kl',l1,l2,l3,l4,l5⟩:=h.la;obtain ⟨kf,f1,f2,f3⟩:=h.fa;rw [hk]at l1;cases l1;have hl:=Nh kl (Sum.inr z:Key);refine ⟨⟨kv,by rw [A3 a3];exact o1,⟨o2.li,o2.ne,o2.la,o2.fa,o2.fo,o2.pd,o2.pr,o2.n⟩⟩,by rw [A3 b2];exact h.li,⟨kn,by rw [A3 c1];exact n1,n2,n3⟩,⟨_,A5,by omega,J3f l3,fun k hk2=>?_,fun y=>?_⟩,⟨kf,by rw [A3 d1.symm];exact f1,f2,f3⟩,by rw [A3 d2.symm];exact h.fo,h.nd,h.b⟩
 · obtain ⟨p,hp,rfl⟩:=Fv.mp hk2
   exact l4 _ (Fv.mpr ⟨p,Ww hp,rfl⟩)
 · show _=Cz s.g.l z false y
   by_cases e:y=z
   · rw [e,Il,Ba];rfl
   · rw [Kt (Dm e),C7 e];exact l5 y
theorem B2.paid{kv:List (Key×V)}{pd:Int}(h:B2 H a s B hd)(hk:H a.sd=some (.dK kv)):B2 (upd H a.sd (.dK (B1 kv (kS "spent") (.int pd)))) a {s with pd:=pd} B hd:=by
 obtain ⟨a1,a2,a3,a4,a5,b1,b2,b3,b4,c1,c2,c3,d1,d2,e1⟩:=LsA.ne_ h.nd;obtain ⟨kv',o1,o2⟩:=h.o;obtain ⟨kn,n1,n2⟩:=h.ne;obtain ⟨kl,l1,l2⟩:=h.la;obtain ⟨kf,f1,f2⟩:=h.fa;rw [hk]at o1;cases o1
 have k:∀x:String,Str.ofString x≠Str.ofString "spent"→Ay (B1 kv (kS "spent") (V.int pd)) (kS x)=Ay kv (kS x):=fun x hx=>by rw [C3,if_neg (Dm hx)]
 refine ⟨⟨_,A5,⟨?_,?_,?_,?_,?_,by rw [C3,if_pos rfl],?_,?_⟩⟩,by rw [A3 a1.symm];exact h.li,⟨kn,by rw [A3 a2.symm];exact n1,n2⟩,⟨kl,by rw [A3 a3.symm];exact l1,l2⟩,⟨kf,by rw [A3 a4.symm];exact f1,f2⟩,by rw [A3 a5.symm];exact h.fo,h.nd,h.b⟩
 · rw [k _ (by decide+kernel)];exact o2.li
 · rw [k _ (by decide+kernel)];exact o2.ne
 · rw [k _ (by decide+kernel)];exact o2.la
 · rw [k _ (by decide+kernel)];exact o2.fa
 · rw [k _ (by decide+kernel)];exact o2.fo
 · rw [k _ (by decide+kernel)];exact o2.pr
 · rw [N36.Sy o2.pd];exact o2.n
theorem B2.newLate{kv:List (Key×V)}{p:Addr}(nd:a.L.Nodup)(o1:H a.sd=some (.dK kv))(o2:SdK a s kv)(li:H a.li=some (.lst (s.R.map V.str)))(ne:∃kn,H a.ne=some (.dK kn)∧kn.length≤B∧∀y,hd y→Ay kn (Sum.inr y)=some (.int (s.g.h y)))(hp:H p=some (.dK []))(fa:∃kf,H a.fa=some (.dK kf)∧kf.length≤B∧∀y,(Ay kf (Sum.inr y)).getD (.int 0)= .int (if s.g.l y then s.g.h y else s.g.st y))(fo:H a.fo=some (.lst (s.ff.map V.int)))(np:p∉a.L)(b:B≤50000):B2 (upd H a.sd (.dK (B1 kv (kS "late") (.ref p)))) {a with la:=p} (Wa s) B hd:=by
 obtain ⟨a1,a2,a3,a4,a5,b1,b2,b3,b4,c1,c2,c3,d1,d2,e1⟩:=LsA.ne_ nd;obtain ⟨kn,n1,n2⟩:=ne;obtain ⟨kf,f1,f2⟩:=fa
 have np2:p≠a.sd∧p≠a.li∧p≠a.ne∧p≠a.la∧p≠a.fa∧p≠a.fo:=by
  simpa [LsA.L] using np
 obtain ⟨p1,p2,p3,p4,p5,p6⟩:=np2
 have k:∀x:String,Str.ofString x≠Str.ofString "late"→Ay (B1 kv (kS "late") (V.ref p)) (kS x)=Ay kv (kS x):=fun x hx=>by rw [C3,if_neg (Dm hx)]
 refine ⟨⟨_,A5,⟨?_,?_,by rw [C3,if_pos rfl],?_,?_,?_,?_,?_⟩⟩,by rw [A3 a1.symm];exact li,⟨kn,by rw [A3 a2.symm];exact n1,n2⟩,⟨[],by rw [A3 p1];exact hp,Fq _,Hh,(fun k hk=>by cases hk),fun y=>rfl⟩,⟨kf,by rw [A3 a4.symm];exact f1,f2⟩,by rw [A3 a5.symm];exact fo,?_,b⟩
 · rw [k _ (by decide+kernel)];exact o2.li
 · rw [k _ (by decide+kernel)];exact o2.ne
 · rw [k _ (by decide+kernel)];exact o2.fa
 · rw [k _ (by decide+kernel)];exact o2.fo
 · rw [k _ (by decide+kernel)];exact o2.pd
 · rw [k _ (by decide+kernel)];exact o2.pr
 · rw [N36.Sy o2.la];exact o2.n
 · simp only [LsA.L,FO,Fo,FQ,or_false,not_or,Hh,and_true]
   exact ⟨⟨a1,a2,p1.symm,a4,a5⟩,⟨b1,p2.symm,b3,b4⟩,⟨p3.symm,c2,c3⟩,⟨p5,p6⟩,e1,not_false⟩
theorem Xd{xs:List (Key×V)}{p:Key×V}{k:Key}:(Ay (xs++[p]) k).isSome=((Ay xs k).isSome || decide (p.1=k)):=by
 rw [← Cr,List.any_append,Cr];simp only [HG,List.any_nil,Bool.or_false]
theorem Xe{kl:List (Key×V)}{R:List Str}{l:Str→Bool}(nR:R.Nodup)(n:(kl.map (·.1)).Nodup)(h1:∀k∈kl.map (·.1),∃y:Str,k=Sum.inr y)(h2:∀y,(Ay kl (Sum.inr y)).isSome=l y)(h3:∀y,l y=true→y∈R):kl.length=(R.filter l).length:=by
 have n2:((R.filter l).map fun y=>(Sum.inr y:Key)).Nodup:=by
  refine List.Pairwise.map _ (fun a b h e=>h (Sum.inr.inj e)) (nR.sublist List.filter_sublist)
 have p:(kl.map (·.1)).Perm ((R.filter l).map fun y=>(Sum.inr y:Key)):=by
  refine (List.perm_ext_iff_of_nodup n n2).mpr fun k=>⟨fun hk=>?_,fun hk=>?_⟩
  · obtain ⟨y,rfl⟩:=h1 k hk
    have hl:l y=true:=by
     rw [← h2 y]
     cases e:Ay kl (Sum.inr y) with
     | none=>exact absurd hk (L6 e)
     | some v=>rfl
    exact Fv.mpr ⟨y,Hn.mpr ⟨h3 y hl,hl⟩,rfl⟩
  · obtain ⟨y,hy,rfl⟩:=Fv.mp hk
    have hl:=(Hn.mp hy).2;rw [← h2 y]at hl;obtain ⟨v,hv⟩:=Hl.mp hl;exact Uh hv
 have:=p.length_eq
 rwa [Fa,Fa]at this
end
section
variable {H:Hp} {a:LsA} {s:LsS} {B:Nat} {hd:Str→Prop}
theorem B2.dg{k:String}{v:V}(h:B2 H a s B hd)(e:∀kv,SdK a s kv→Ay kv (kS k)=some v):Br H a.sd (.str (Str.ofString k)) (some v):=by
 obtain ⟨kv,o1,o2⟩:=h.o;have:=Br.k (k:=kS k) o1;rw [e kv o2]at this;exact this
theorem B2.gli(h:B2 H a s B hd):Br H a.sd (.str (Str.ofString "line")) (some (.ref a.li)):=h.dg fun _ k=>k.li
theorem B2.gne(h:B2 H a s B hd):Br H a.sd (.str (Str.ofString "near")) (some (.ref a.ne)):=h.dg fun _ k=>k.ne
theorem B2.gla(h:B2 H a s B hd):Br H a.sd (.str (Str.ofString "late")) (some (.ref a.la)):=h.dg fun _ k=>k.la
theorem B2.gfa(h:B2 H a s B hd):Br H a.sd (.str (Str.ofString "far")) (some (.ref a.fa)):=h.dg fun _ k=>k.fa
theorem B2.gfo(h:B2 H a s B hd):Br H a.sd (.str (Str.ofString "found")) (some (.ref a.fo)):=h.dg fun _ k=>k.fo
theorem B2.gpd(h:B2 H a s B hd):Br H a.sd (.str (Str.ofString "spent")) (some (.int s.pd)):=h.dg fun _ k=>k.pd
theorem B2.gpr(h:B2 H a s B hd):Br H a.sd (.str (Str.ofString "prompt")) (some (.bl s.pr)):=h.dg fun _ k=>k.pr
end
def Ke:Sp:=fun vs H Q _=>∃(c:Int) (k:Nat),vs=[.int c,.int k]∧k≤100∧∀v:Int,0≤v→v≤10 ^ 30→Q (.int v) H
def ls0(zs:List Int)(pr:Bool):LsS:=⟨[],g0,List.replicate (zs.length+1) 0,0,pr⟩
def Lg(K:PySem.W.Frag):Sp:=fun vs H Q _=>∃(sz:Addr) (zs:List Int) (pr:Bool),vs=[.ref sz,.bl pr]∧SqL K H sz (zs.map V.int)∧zs.length≤6∧∀(a:LsA) (H':Hp),A9 H H'→(∀b∈a.L,H b=none)→B2 H' a (ls0 zs pr) 1 (fun y=>y∈([]:List Str))→Q (.ref a.sd) H'
def Wb(S:Int)(s:LsS)(z:Str):LsS:={s with R:=(z::s.R.erase z).take S.toNat,g:=Bk S s.R z s.g}
def Kf:Sp:=fun vs H Q _=>∃(a:LsA) (s:LsS) (B:Nat) (S:Int) (z:Str),vs=[.ref a.sd,.str z,.int S]∧B2 H a s B (fun y=>y∈s.R∨y=z)∧B≤40000∧s.R.Nodup∧s.R.length≤60∧(s.R.length:Int)≤S∧1≤S∧
 ∀H',Off a.L H H'→B2 H' a (Wb S s z) (B+1) (fun y=>y∈(Wb S s z).R)→Q .non H'
def Gq(K:PySem.W.Frag):Sp:=fun vs H Q _=>∃(a:LsA) (s:LsS) (B:Nat) (hd:Str→Prop) (sz:Addr) (zs:List Int) (z:Str),vs=[.ref a.sd,.ref sz,.str z]∧B2 H a s B hd∧SqL K H sz (zs.map V.int)∧zs.length≤6∧(∀u∈zs,1≤u∧u≤1000)∧s.R.Nodup∧s.R.length≤60∧(s.R.length:Int)≤zs.sum∧s.ff.length=zs.length+1∧
 ∀H',Off a.L H H'→B2 H' a {s with ff:=bump s.ff (shx zs s.R z)} B hd→Q .non H'
def Gr:Sp:=fun vs H Q _=>∃(a:LsA) (s:LsS) (B:Nat) (z:Str) (c:Int),vs=[.ref a.sd,.str z,.int c]∧B2 H a s B (fun y=>y∈s.R)∧B≤40000∧s.R.length≤60∧
 ∀H',Off a.L H H'→B2 H' a (if z∈s.R then s else {s with g:=s.g.hold z (s.g.st z),pd:=s.pd+c}) (B+1) (fun y=>y∈s.R∨y=z)→Q .non H'
def Kg:Sp:=fun vs H Q _=>∃(a:LsA) (s:LsS) (B:Nat),vs=[.ref a.sd]∧B2 H a s B (fun y=>y∈s.R)∧B≤40000∧s.R.Nodup∧s.R.length≤60∧(∀y,s.g.l y=true→y∈s.R)∧
 ∀(la:Addr) (H':Hp),Off a.L H H'→H la=none→B2 H' {a with la:=la} (Wa s) (B+100) (fun y=>y∈s.R)→Q (.str (nT ((s.R.filter s.g.l).length:Nat))) H'
def Eb(K:PySem.W.Frag):Sp:=fun vs H Q _=>∃(l sz:Addr) (R:List Str) (zs:List Int),vs=[.ref l,.ref sz]∧H l=some (.lst (R.map V.str))∧SqL K H sz (zs.map V.int)∧1≤zs.length∧zs.length≤6∧(∀u∈zs,1≤u∧u≤1000)∧R.length≤60∧(∀y∈R,y.length≤8)∧∀H',A9 H H'→Q (.str (J1u zs R)) H'
structure GOk(g:Gt):Prop where
 h:∀y,0≤g.h y∧g.h y≤10 ^ 30
 s:∀y,0≤g.st y∧g.st y≤10 ^ 30
theorem GOk.hold{g:Gt}{z:Str}{v:Int}(k:GOk g)(h0:0≤v)(h1:v≤10 ^ 30):GOk (g.hold z v):=⟨fun y=>by
 show 0≤Cz g.h z v y∧Cz g.h z v y≤_
 by_cases e:y=z
 · rw [e,Ba];exact ⟨h0,h1⟩
 · rw [C7 e];exact k.h y,k.s⟩
theorem GOk.fetch{g:Gt}{w z:Str}(k:GOk g):GOk (E6 w z g):=⟨fun y=>by
 show 0≤Cz g.h z (g.st z) y∧Cz g.h z (g.st z) y≤_
 by_cases e:y=z
 · rw [e,Ba];exact k.s z
 · rw [C7 e];exact k.h y,k.s⟩
theorem GOk.write{g:Gt}{z:Str}(k:GOk g):GOk (g.write z):=⟨k.h,fun y=>by
 show 0≤Cz g.st z (g.h z) y∧Cz g.st z (g.h z) y≤_
 by_cases e:y=z
 · rw [e,Ba];exact k.h z
 · rw [C7 e];exact k.s y⟩
theorem GOk.late{g:Gt}{z:Str}{b:Bool}(k:GOk g):GOk (g.late z b):=⟨k.h,k.s⟩
theorem GOk.fall{g:Gt}{z:Str}(k:GOk g):GOk (Ci z g):=by unfold Ci;split;exact k.late.write;exact k
theorem GOk.come{g:Gt}{S:Int}{R:List Str}{z:Str}(k:GOk g):GOk (Bk S R z g):=by unfold Bk;split;exact k.fall;exact k
theorem GOk.read{g:Gt}{S:Int}{R:List Str}{z:Str}(k:GOk g):GOk (Dq S R z g):=by unfold Dq;split;exact k.come;exact k.fetch.come
theorem GOk.ahead{g:Gt}{S:Int}{R:List Str}{z:Str}(k:GOk g):GOk (D0 S R z g):=by unfold D0;split;exact k;exact k.fetch.come
theorem GOk.keep{g:Gt}{pr:Bool}{S:Int}{R:List Str}{z:Str}{v:Int}(k:GOk g)(h0:0≤v)(h1:v≤10 ^ 30):GOk (P2 pr S R z v g):=by
 unfold P2 Lb;split
 · exact (k.hold h0 h1).write.come
 · exact (k.hold h0 h1).late.come
theorem GOk.g0:GOk g0:=by
 have e:(0:Int)≤0∧(0:Int)≤10 ^ 30:=by decide
 exact ⟨fun y=>e,fun y=>e⟩
theorem GOk.of{g g':Gt}(k:GOk g)(h1:g'.h=g.h)(h2:∀y,g'.st y=g.st y∨g'.st y=g.h y):GOk g':=⟨fun y=>by rw [h1];exact k.h y,fun y=>by
 rcases h2 y with e | e <;> rw [e]
 · exact k.s y
 · exact k.h y⟩
def Gx(pr:Bool)(b:W85)(S:Int)(R:List Str)(z:Str)(v:Int)(g:Gt):Gt:=match b with | .read=>Dq S R z g | .keep=>P2 pr S R z v g | .ahead=>D0 S R z g | _=>g
def J3g(S:Int)(R:List Str)(z:Str):List Str:=(z::R.erase z).take S.toNat
def Sz(b:W85)(S:Int)(R:List Str)(z:Str):List Str:=match b with | .read=>J3g S R z | .keep=>J3g S R z | .ahead=>if z∈R then R else J3g S R z | _=>R
def O0(b:W85)(zs:List Int)(R:List Str)(z:Str)(ff:List Int):List Int:=match b with | .read=>bump ff (shx zs R z) | .keep=>bump ff (shx zs R z) | _=>ff
def Lh(b:W85)(R:List Str)(z:Str)(c pd:Int):Int:=match b with | .read=>if z∈R then pd else pd+c | .ahead=>if z∈R then pd else pd+c | _=>pd
def O1(b:W85)(S:Int)(R:List Str)(z:Str)(g:Gt):Str:=match b with | .read=>nT ((Dq S R z g).h z) | .keep=>Str.ofString "ok" | _=>if z∈R then Str.ofString "no" else Str.ofString "yes"
def Kl(b:W85)(zs:List Int)(s:LsS)(z:Str)(v c:Int):LsS:=⟨Sz b zs.sum s.R z,Gx s.pr b zs.sum s.R z v s.g,O0 b zs s.R z s.ff,Lh b s.R z c s.pd,s.pr⟩
def M9(b:W85):Prop:=b= .read∨b= .keep∨b= .ahead
def Gs:Sp:=fun vs H Q _=>∃(a:LsA) (s:LsS) (B:Nat) (sz:Addr) (zs:List Int) (b:W85) (z:Str) (v c:Int),vs=[.ref a.sd,.ref sz,.str (wd b),.str z,.int v,.int c]∧M9 b∧B2 H a s B (fun y=>y∈s.R)∧B≤30000∧H sz=some (.lst (zs.map V.int))∧zs.length≤6∧1≤zs.length∧(∀u∈zs,1≤u∧u≤1000)∧s.R.Nodup∧s.R.length≤60∧(s.R.length:Int)≤zs.sum∧s.ff.length=zs.length+1∧GOk s.g∧(s.pr=true→∀y,s.g.l y=false)∧0≤v∧v≤10 ^ 30∧sz∉a.L∧
 ∀H',Off a.L H H'→B2 H' a (Kl b zs s z v c) (B+4) (fun y=>y∈(Kl b zs s z v c).R)→Q (.str (O1 b zs.sum s.R z s.g)) H'
def T1(b:W85)(s:LsS):LsS:=match b with | .rest=>Wa s | _=>s
def J22(b:W85)(zs:List Int)(s:LsS)(z:Str):Str:=match b with
 | .again=>Str.ofString "ok" | .rest=>nT ((s.R.filter s.g.l).length:Nat) | .store=>nT (s.g.st z) | .levels=>J1u zs s.R | .found=>Txt.join (Str.ofString " ") (s.ff.map nT) | _=>nT s.pd
def Ma(b:W85):Prop:=b= .again∨b= .rest∨b= .store∨b= .levels∨b= .found∨b= .spent
def Kh(K:PySem.W.Frag):Sp:=fun vs H Q _=>∃(a:LsA) (s:LsS) (B:Nat) (sz:Addr) (zs:List Int) (b:W85) (z:Str),vs=[.ref a.sd,.ref sz,.str (wd b),.str z]∧Ma b∧B2 H a s B (fun y=>y∈s.R)∧B≤30000∧SqL K H sz (zs.map V.int)∧zs.length≤6∧1≤zs.length∧(∀u∈zs,1≤u∧u≤1000)∧s.R.Nodup∧s.R.length≤60∧(∀y∈s.R,y.length≤8)∧(∀y,s.g.l y=true→y∈s.R)∧GOk s.g∧(∀i∈s.ff,0≤i∧i≤1000)∧s.ff.length≤7∧0≤s.pd∧s.pd≤10 ^ 33∧
 ∀(a':LsA) (H':Hp),Off a.L H H'→(∀c∈a'.L,c∈a.L∨H c=none)→a'.sd=a.sd→B2 H' a' (T1 b s) (B+100) (fun y=>y∈(T1 b s).R)→Q (.str (J22 b zs s z)) H'
def Mm(b:W85)(z:Str)(v:Int):Ln:=match b with
 | .keep=>⟨b,[z,nT v],[.str z,.int v]⟩ | .read=>⟨b,[z],[.str z]⟩ | .ahead=>⟨b,[z],[.str z]⟩ | .store=>⟨b,[z],[.str z]⟩ | _=>⟨b,[],[]⟩
def Gu:Sp:=fun vs H Q _=>∃(b:W85) (z:Str) (v:Int),vs=[.str (wd b),.str z,.int v]∧(M9 b∨Ma b)∧0≤v∧v≤10 ^ 30∧z.length≤8∧∀H',A9 H H'→Q (.str (Mm b z v).txt) H'
theorem J8c{x z:Str}:Txt.join (Str.ofString " ") [x,z]=x++Str.ofString " "++z:=StrLaws.glued_eq_join _ _
theorem J8d{x z w:Str}:Txt.join (Str.ofString " ") [x,z,w]=x++Str.ofString " "++(z++Str.ofString " "++w):=StrLaws.glued_eq_join _ _
theorem Xf{x:Str}:Txt.join (Str.ofString " ") [x]=x:=StrLaws.glued_eq_join _ _
theorem Do{a b:W85}(h:wd a=wd b):a=b:=by cases a <;> cases b <;> first | rfl | exact absurd h (by decide+kernel)
theorem J3h{zs:List Int}(h1:1≤zs.length)(h:∀u∈zs,1≤u∧u≤1000):1≤zs.sum∧zs.sum≤1000 * zs.length:=by
 have key:∀ys:List Int,(∀u∈ys,1≤u∧u≤1000)→(ys.length:Int)≤ys.sum∧ys.sum≤1000 * ys.length:=by
  intro ys
  induction ys with
  | nil=>intro _;exact ⟨HX _,HX _⟩
  | cons y r ih=>
   intro k;have:=ih fun u hu=>k u (Fb _ hu);have h2:=k y Fi;rw [HR,List.length_cons];omega
 have:=key zs h;omega
theorem O2{S:Int}{R:List Str}{z:Str}{g g':Gt}(e1:g.h=g'.h)(e2:g.l=g'.l)(e3:g.st=g'.st):(Bk S R z g).h=(Bk S R z g').h∧(Bk S R z g).l=(Bk S R z g').l∧(Bk S R z g).st=(Bk S R z g').st:=by
 obtain ⟨h,l,st,es⟩:=g;obtain ⟨h',l',st',es'⟩:=g';dsimp only at e1 e2 e3;subst e1;subst e2;subst e3;unfold Bk;split
 · unfold Ci
   split
   · exact ⟨rfl,rfl,rfl⟩
   · exact ⟨rfl,rfl,rfl⟩
 · exact ⟨rfl,rfl,rfl⟩
def lnT(z:Str)(c:Int):Ln:=⟨.thing,[z,nT c,Str.ofString "1"],[.str z,.int c,.int 1]⟩
theorem J8e{x z w u:Str}:Txt.join (Str.ofString " ") [x,z,w,u]=x++Str.ofString " "++(z++Str.ofString " "++(w++Str.ofString " "++u)):=StrLaws.glued_eq_join _ _
theorem J3i{z:Str}{c:Int}:(lnT z c).txt=Str.ofString "thing "++z++Str.ofString " "++Str.ofString (toString c)++Str.ofString " 1":=by
 show Txt.join (Str.ofString " ") [wd .thing,z,nT c,Str.ofString "1"]=_;rw [J8e];show Str.ofString "thing"++Str.ofString " "++(z++Str.ofString " "++(Str.ofString (toString c)++Str.ofString " "++Str.ofString "1"))=_;rw [show Str.ofString "thing"++Str.ofString " "=Str.ofString "thing " by decide+kernel];rw [show Str.ofString " 1"=Str.ofString " "++Str.ofString "1" by decide+kernel];simp only [Str.append_assoc]
theorem J23:Wd (Str.ofString "ROOM") (Str.ofString "1") (.int 1):= .inr ⟨by decide+kernel,by decide+kernel,by decide+kernel,by
 have:=(Ny (v:=1) (by decide) (by decide)).2
 have e:Str.ofString (toString (1:Int))=Str.ofString "1":=by decide+kernel
 rw [e]at this
 rw [this]⟩
theorem O3{k:Str}{c:Int}(hk:k≠Str.ofString "NAME"∧k≠Str.ofString "RULE")(h0:0≤c)(h1:c≤10 ^ 30):Wd k (nT c) (.int c):=by
 have h:=Ny h0 (RM h1 (by decide));exact .inr ⟨hk.1,hk.2,h.1,by rw [show nT c=Str.ofString (toString c) from rfl,h.2]⟩
theorem Mb{z:Str}(h:Bo z.cps.toList=true):Wd (Str.ofString "NAME") z (.str z):= .inl ⟨rfl,h,rfl⟩
theorem J5q{z:Str}{c:Int}(h:Bo z.cps.toList=true)(h0:0≤c)(h1:c≤10 ^ 30):(lnT z c).ok:=⟨by show (Bn (fm .thing) 3).length=3;decide+kernel,rfl,by show 3≤100;decide,fun i k w v e1 e2 e3=>by
 have ek:Bn (fm (lnT z c).b) (lnT z c).ws.length=[Str.ofString "NAME",Str.ofString "COST",Str.ofString "ROOM"]:=by show Bn (fm .thing) 3=_;decide+kernel
 rw [ek]at e1
 match i,e1,e2,e3 with
 | 0,e1,e2,e3=>cases e1;cases e2;cases e3;exact Mb h
 | 1,e1,e2,e3=>cases e1;cases e2;cases e3;exact O3 ⟨by decide+kernel,by decide+kernel⟩ h0 h1
 | 2,e1,e2,e3=>cases e1;cases e2;cases e3;exact J23
 | i+3,e1,_,_=>cases e1⟩
theorem Wc{b:W85}{z:Str}{v:Int}(hb:M9 b∨Ma b)(h:Bo z.cps.toList=true)(h0:0≤v)(h1:v≤10 ^ 30):(Mm b z v).ok:=by
 have e0:∀b:W85,Bn (fm b) 0=[]→(⟨b,[],[]⟩:Ln).ok:=fun b e=>⟨by show (Bn (fm b) 0).length=0;rw [e];rfl,rfl,Fq _,fun i k w v _ e2 _=>by cases e2⟩
 have e1:∀b:W85,Bn (fm b) 1=[Str.ofString "NAME"]→(⟨b,[z],[.str z]⟩:Ln).ok:=fun b e=>⟨by show (Bn (fm b) 1).length=1;rw [e];rfl,rfl,by show 1≤100;decide,fun i k w v a1 a2 a3=>by
  have a1':(Bn (fm b) 1)[i]?=some k:=a1;rw [e]at a1'
  match i,a1',a2,a3 with
  | 0,a1',a2,a3=>cases a1';cases a2;cases a3;exact Mb h
  | i+1,a1',_,_=>cases a1'⟩
 have e2:(Mm .keep z v).ok:=⟨by show (Bn (fm .keep) 2).length=2;decide+kernel,rfl,by show 2≤100;decide,fun i k w u a1 a2 a3=>by
  have ek:Bn (fm .keep) 2=[Str.ofString "NAME",Str.ofString "VALUE"]:=by decide+kernel
  have a1':(Bn (fm .keep) 2)[i]?=some k:=a1;rw [ek]at a1'
  match i,a1',a2,a3 with
  | 0,a1',a2,a3=>cases a1';cases a2;cases a3;exact Mb h
  | 1,a1',a2,a3=>cases a1';cases a2;cases a3;exact O3 ⟨by decide+kernel,by decide+kernel⟩ h0 h1
  | i+2,a1',_,_=>cases a1'⟩
 rcases hb with (rfl | rfl | rfl) | (rfl | rfl | rfl | rfl | rfl | rfl)
 · exact e1 _ (by decide+kernel)
 · exact e2
 · exact e1 _ (by decide+kernel)
 · exact e0 _ (by decide+kernel)
 · exact e0 _ (by decide+kernel)
 · exact e1 _ (by decide+kernel)
 · exact e0 _ (by decide+kernel)
 · exact e0 _ (by decide+kernel)
 · exact e0 _ (by decide+kernel)
def lnW(pr:Bool)(zs:List Int):Ln:=⟨if pr then .prompt else .tower,zs.map nT,zs.map V.int⟩
theorem Q0{pr:Bool}{zs:List Int}(h1:1≤zs.length)(h6:zs.length≤6)(hz:∀u∈zs,1≤u∧u≤1000):(lnW pr zs).ok:=by
 have ek:Bn (fm (lnW pr zs).b) (lnW pr zs).ws.length=List.replicate zs.length (Str.ofString "SIZE"):=by
  have e:(lnW pr zs).ws.length=zs.length:=Fa ..;rw [e]
  have ef:fm (lnW pr zs).b=[Str.ofString "SIZE",Str.ofString ".."]:=by unfold lnW;cases pr <;> rfl
  rw [ef];unfold Bn;rw [if_pos (by decide+kernel),Nat.max_eq_right h1];rfl
 have ew:(lnW pr zs).ws.length=zs.length:=Fa ..;have ev:(lnW pr zs).vs.length=zs.length:=Fa ..;refine ⟨by rw [ek,ew,HI],by rw [ew,ev],by omega,fun i k w v a1 a2 a3=>?_⟩;rw [ek]at a1;have hk:=Rl (Fk a1);have a2':(zs.map nT)[i]?=some w:=a2;have a3':(zs.map V.int)[i]?=some v:=a3;rw [Fg]at a2' a3'
 cases e:zs[i]? with
 | none=>rw [e]at a2';cases a2'
 | some u=>
  rw [e]at a2' a3';cases a2';cases a3';have:=hz u (Fk e);rw [hk];exact O3 ⟨by decide+kernel,by decide+kernel⟩ (by omega) (by omega)
theorem N2{pr:Bool}{zs:List Int}(h1:1≤zs.length):(lnW pr zs).txt=(if pr then Str.ofString "prompt " else Str.ofString "tower ")++Txt.join (Str.ofString " ") (zs.map nT):=by
 have e:∀xs:List Str,Txt.join (Str.ofString " ") xs=Str.join (Str.ofString " ") xs:=fun xs=>StrLaws.glued_eq_join _ _
 cases zs with
 | nil=>cases h1
 | cons z zs=>
  show Txt.join (Str.ofString " ") (wd (if pr then .prompt else .tower)::nT z::zs.map nT)=_++Txt.join (Str.ofString " ") (nT z::zs.map nT);rw [e,e];show wd (if pr then .prompt else .tower)++Str.ofString " "++Str.join (Str.ofString " ") (nT z::zs.map nT)=_;cases pr
  · show Str.ofString "tower"++Str.ofString " "++_=Str.ofString "tower "++_
    rw [show Str.ofString "tower"++Str.ofString " "=Str.ofString "tower " by decide+kernel]
  · show Str.ofString "prompt"++Str.ofString " "++_=Str.ofString "prompt "++_
    rw [show Str.ofString "prompt"++Str.ofString " "=Str.ofString "prompt " by decide+kernel]
theorem Xg{K:PySem.W.Frag}{S D d dx p:Addr}{H:Hp}{fs:List (Str×V)}{ts:List Th}{L:List Addr}(h:B5 K S H p ts L)(hd:H d=some (.ins D dx fs))(hf:fs.lookup (Str.ofString "things")=none):B5 K S H p ts (d::L):=by
 obtain ⟨dx',d',kvs,h1,h2,n1,n2,h3,h4⟩:=h.ex;refine ⟨dx',d',kvs,h1,h2,fun m=>?_,fun m=>?_,h3,fun i t e=>?_⟩
 · rcases Fo.mp m with m | m
   · rw [m,hd]at h1
     cases h1;rw [show (flds d').lookup (Str.ofString "things")=some (.ref d') by with_unfolding_all rfl]at hf;cases hf
   · exact n1 m
 · rcases Fo.mp m with m | m
   · rw [m,hd]at h2;cases h2
   · exact n2 m
 · obtain ⟨a,e1,e2⟩:=h4 i t e
   refine ⟨a,e1,?_⟩;rcases e2 with ⟨e2,e3⟩ | e2
   · refine .inl ⟨e2,fun m=>?_⟩
     rcases Fo.mp m with m | m
     · rcases e2 with e2 | ⟨o,e2⟩ <;> rw [m,hd]at e2 <;> cases e2
     · exact e3 m
   · exact .inr e2
theorem Tws.moved{K:PySem.W.Frag}{S st:Addr}{ts:List Th}{B:Nat}{H H':Hp}{ks ks':List Addr}{ws:List Tw}(h:Tws K S st ts B H ks ws)(o:Off ks H H')(m:∀c∈ks',c∈ks∨H c=none)(kl:∀c∈ks',∃u,H' c=some u∧∀e,u≠ .tup e):Tws K S st ts B H' ks' ws:=by
 have oL:Off (Ku ks ws) H H':=o.mono fun b hb=>B6.mpr (.inl hb)
 have kt:∀v e,H v=some (.tup e)→H' v=some (.tup e):=fun v e hv=>o _ _ hv fun z=>by
  obtain ⟨u0,k1,k2⟩:=h.kl v z;rw [k1]at hv;cases hv;exact k2 _ rfl
 have sk:B5 K S H' st ts (Ku ks ws):=N76.Gj h.sk oL (fun b hb=>hb) (fun b hb=> .inl hb)
 have sk2:B5 K S H' st ts (Ku ks' ws):=N76.Gj h.sk oL (fun b hb=>hb) (fun b hb=>by
  rcases B6.mp hb with hb | ⟨v,hv,hb⟩
  · exact (m b hb).imp (fun k=>B6.mpr (.inl k)) id
  · exact .inl (B6.mpr (.inr ⟨v,hv,hb⟩)))
 refine ⟨fun v hv=>N76.Nu (h.ok v hv) (M:=ks) o (fun b h1 h2=>h.kk b h2 v hv h1) kt (by
  rw [h.es v hv]
  exact sk.mono fun b hb=> .inl (B6.mpr (.inr ⟨v,hv,Fb _ hb⟩))),h.ap,sk2,h.es,fun c hc v hv hb=>?_,kl⟩
 rcases m c hc with k | k
 · exact h.kk c k v hv hb
 · obtain ⟨u,e⟩:=h.live c (B6.mpr (.inr ⟨v,hv,hb⟩))
   rw [k]at e;cases e
theorem B2.live{H:Hp}{a:LsA}{s:LsS}{B:Nat}{hd:Str→Prop}(h:B2 H a s B hd):∀c∈a.L,∃u,H c=some u∧∀e,u≠ .tup e:=fun c hc=>by
 obtain ⟨kv,o1,_⟩:=h.o;obtain ⟨kn,n1,_⟩:=h.ne;obtain ⟨kl,l1,_⟩:=h.la;obtain ⟨kf,f1,_⟩:=h.fa
 have hc':c=a.sd∨c=a.li∨c=a.ne∨c=a.la∨c=a.fa∨c=a.fo:=by simpa [LsA.L] using hc
 rcases hc' with k | k | k | k | k | k <;> rw [k]
 · exact ⟨_,o1,fun e z=>by cases z⟩
 · exact ⟨_,h.li,fun e z=>by cases z⟩
 · exact ⟨_,n1,fun e z=>by cases z⟩
 · exact ⟨_,l1,fun e z=>by cases z⟩
 · exact ⟨_,f1,fun e z=>by cases z⟩
 · exact ⟨_,h.fo,fun e z=>by cases z⟩
theorem J24{K:PySem.W.Frag}{S st:Addr}{ts:List Th}{B:Nat}{H:Hp}{ks:List Addr}(h:B5 K S H st ts ks)(kl:∀c∈ks,∃u,H c=some u∧∀e,u≠ .tup e):Tws K S st ts B H ks []:=
 ⟨(fun w hw=>by cases hw),List.Pairwise.nil,h.mono (fun b hb=>by
   rcases B6.mp hb with k | ⟨w,hw,_⟩
   · exact .inl k
   · cases hw),(fun w hw=>by cases hw),(fun c _ w hw=>by cases hw),kl⟩
def WS:List W85:=[.read,.read,.keep,.keep,.keep,.ahead,.rest,.store,.levels,.found,.spent,.again]
theorem J7m{i:Int}(h0:0≤i)(h1:i < 12):∃b,atI ((WS.map wd).map V.str) i=some (V.str (wd b))∧(M9 b∨Ma b):=by
 obtain ⟨n,rfl⟩:∃n:Nat,i=n:=⟨i.toNat,by omega⟩
 have hn:n < 12:=by omega
 obtain ⟨b,hb⟩:∃b,WS[n]?=some b:=⟨_,Fd (by show n < 12;exact hn)⟩
 refine ⟨b,G7 h0 (by rw [Int.toNat_natCast,Fg,Fg,hb];rfl),?_⟩;have hm:=Fk hb;unfold WS at hm;simp only [Fo,FQ,or_false]at hm;unfold M9 Ma
 rcases hm with k | k | k | k | k | k | k | k | k | k | k | k <;> subst k <;> simp
structure Ip(K:PySem.W.Frag)(D C1 C2 S:Addr)(H:Hp)(d st as t:Addr)(al:LsA)(pr:Bool)(x:TwA)(s:TwS)(g:Gt)(ts:List Th)(B:Nat):Prop where
 dk:Cp D H d st as (.ref t)
 tw:Tws K S st ts B H (d::al.L) [⟨Dd C1 C2 pr,t,x,s,g⟩]
 la:B2 H al ⟨s.R,g,s.ff,s.pd,pr⟩ B (fun y=>y∈s.R)
 ok:GOk g
 np:pr=true→∀y,g.l y=false
theorem Q1{S:Int}{R:List Str}{z:Str}{g:Gt}(h:∀y,g.l y=false):∀y,(Bk S R z g).l y=false:=by
 unfold Bk;split
 · unfold Ci
   rw [if_neg (by rw [h];decide)];exact h
 · exact h
theorem J3j{b:W85}{S:Int}{R:List Str}{z:Str}{v:Int}{g:Gt}(h:∀y,g.l y=false):∀y,(Gx true b S R z v g).l y=false:=by
 cases b <;> try exact h
 · show ∀y,(Bk S R z (if z∈R then g else E6 (Str.ofString "fetch") z g)).l y=false
   refine Q1 ?_
   by_cases k:z∈R
   · rw [if_pos k];exact h
   · rw [if_neg k];exact h
 · show ∀y,(Bk S R z ((g.hold z v).write z)).l y=false
   exact Q1 h
 · show ∀y,(if z∈R then g else Bk S R z (E6 (Str.ofString "ahead") z g)).l y=false
   by_cases k:z∈R
   · rw [if_pos k];exact h
   · rw [if_neg k];exact Q1 h
theorem J3k{pr:Bool}{b:W85}{S:Int}{R:List Str}{z:Str}{v:Int}{g:Gt}(h:GOk g)(h0:0≤v)(h1:v≤10 ^ 30):GOk (Gx pr b S R z v g):=by
 cases b <;> try exact h
 · exact h.read
 · exact h.keep h0 h1
 · exact h.ahead
theorem P8{y:Str}:∀{ys:List Str} {g:Gt},(Cb ys g).h=g.h∧(Cb ys g).st y=if y∈ys then g.h y else g.st y:=by
 intro ys
 induction ys with
 | nil=>intro g;exact ⟨rfl,by rw [if_neg FQ];rfl⟩
 | cons a ys ih=>
  intro g;have e:Cb (a::ys) g=Cb ys (g.write a):=rfl;rw [e];obtain ⟨i1,i2⟩:=ih (g:=g.write a);refine ⟨i1,?_⟩;rw [i2];have e1:(g.write a).h=g.h:=rfl;have e2:(g.write a).st y=Cz g.st a (g.h a) y:=rfl;rw [e1,e2]
  by_cases m:y∈ys
  · rw [if_pos m,if_pos (Fb _ m)]
  · rw [if_neg m]
    by_cases k:y=a
    · rw [k,Ba,if_pos Fi]
    · rw [C7 k,if_neg fun q=>(Fo.mp q).elim k m]
theorem J3l{R:List Str}{g:Gt}(h:∀y,g.l y=true→y∈R):(Kk R g).h=g.h∧(Kk R g).l=(fun _=>false)∧(Kk R g).st=fun y=>if g.l y then g.h y else g.st y:=by
 refine ⟨(P8 (y:=Str.empty)).1,rfl,?_⟩;funext y;show (Cb (R.filter g.l) g).st y=_;rw [(P8 (y:=y)).2]
 by_cases k:g.l y=true
 · rw [if_pos k,if_pos (Hn.mpr ⟨h y k,k⟩)]
 · rw [if_neg k,if_neg fun m=>k (Hn.mp m).2]
end N85
namespace N85
open L2 N1 N5 N4 N6 N12 N71 N74 N75 N79 NTx
section
variable {K:PySem.W.Frag} {D C1 C2 S d st as t gv:Addr} {pr:Bool} {x:TwA} {s:TwS} {g:Gt} {ts:List Th} {al:LsA} {B:Nat} {H:Hp} {b:W85} {z:Str} {v:Int} {Q:VK} {E:XK}
theorem Ip.up{as:Addr}{B':Nat}(h:Ip K D C1 C2 S H d st as t al pr x s g ts B)(hB:B≤B')(hb:B'≤50000):Ip K D C1 C2 S H d st as t al pr x s g ts B':=⟨h.dk,h.tw.up hB (by omega),h.la.up hB hb,h.ok,h.np⟩
theorem J3m{ff:List Int}{k:Nat}{n:Int}(h:∀u∈ff,0≤u∧u≤n):(bump ff k).length=ff.length∧∀u∈bump ff k,0≤u∧u≤n+1:=by
 refine ⟨Hw,fun u hu=>?_⟩;unfold N79.bump at hu;rcases Rc hu with e | e
 · have:=h u e;omega
 · rw [e]
   by_cases hk:k < ff.length
   · have:=h (ff.getD k 0) (by rw [Fh,Fd hk];exact HM hk)
     omega
   · rw [List.set_eq_of_length_le (by omega)]at hu
     have:=h u hu;omega
theorem J25{zs ff:List Int}{R:List Str}{n:Int}(h:∀u∈ff,0≤u∧u≤n):(O0 b zs R z ff).length=ff.length∧∀u∈O0 b zs R z ff,0≤u∧u≤n+1:=by
 have h':∀u∈ff,0≤u∧u≤n+1:=fun u hu=>by have:=h u hu;omega
 cases b <;> first | exact J3m h | exact ⟨rfl,h'⟩
theorem J26{R:List Str}{c pd:Int}{n:Nat}(h0:0≤c)(h1:c≤10 ^ 30)(p0:0≤pd)(p1:pd≤n * 10 ^ 30):0≤Lh b R z c pd∧Lh b R z c pd≤(n+1:Nat) * 10 ^ 30:=by
 have e:(0≤pd∧pd≤((n+1:Nat):Int) * 10 ^ 30)∧0≤pd+c∧pd+c≤((n+1:Nat):Int) * 10 ^ 30:=by omega
 cases b <;> first | exact e.1 | (show 0≤(if z∈R then pd else pd+c)∧(if z∈R then pd else pd+c)≤_;split;exact e.1;exact e.2)
theorem J27(hb:M9 b)(hD:Cp D H d st as (.ref t))(htw:Tws K S st ts B H (d::al.L) [⟨Dd C1 C2 pr,t,x,s,g⟩])(hla:B2 H al (Kl b s.zs ⟨s.R,g,s.ff,s.pd,pr⟩ z v (Bd ts z)) (B+4) (fun y=>y∈(Kl b s.zs ⟨s.R,g,s.ff,s.pd,pr⟩ z v (Bd ts z)).R))(hg:H gv=some (.lst (Mm b z v).vs))(ok:GOk g)(np:pr=true→∀y,g.l y=false)(hz:z∈ts.map (·.1))(hB:B≤20000)(hv0:0≤v)(hv1:v≤10 ^ 30)
 (q:∀(s':TwS) (g':Gt) (H':Hp),Off (own t x) H H'→Ip K D C1 C2 S H' d st as t al pr x s' g' ts (B+4)→s'.zs=s.zs→s'.pd=Lh b s.R z (Bd ts z) s.pd→s'.ff=O0 b s.zs s.R z s.ff→Q (.str (O1 b s.zs.sum s.R z g)) H'):spA K D C1 C2 S b [.ref d,.ref gv] H Q E:=by
 have htG:=htw.ok _ (Fc.mpr rfl)
 have dk:DkT K D C1 C2 S H d st as t pr x s g ts B:=⟨hD,htG⟩
 have hap:∀c∈d::al.L,c∉own t x:=fun c hc m=>htw.kk c hc _ (Fc.mpr rfl) (Fb _ m)
 have key:∀(s':TwS) (H':Hp),Off (own t x) H H'→Cj K (Dd C1 C2 pr) S H' t x s' (Gx pr b s.zs.sum s.R z v g) ts (B+3)→s'.R=Sz b s.zs.sum s.R z→s'.zs=s.zs→s'.pd=Lh b s.R z (Bd ts z) s.pd→s'.ff=O0 b s.zs s.R z s.ff→Q (.str (O1 b s.zs.sum s.R z g)) H':=fun s' H' o tw eR eZ eP eF=>by
  obtain ⟨tw',_,_⟩:=Tws.deed (l1:=[]) (l2:=[]) (w:=⟨Dd C1 C2 pr,t,x,s,g⟩) (w':=⟨Dd C1 C2 pr,t,x,s',Gx pr b s.zs.sum s.R z v g⟩) htw o (fun b hb=> .inl hb) tw (by omega) rfl rfl;refine q s' _ H' o ⟨?_,tw'.up (by omega) (by omega),?_,J3k ok hv0 hv1,fun e=>?_⟩ eZ eP eF
  · obtain ⟨dx,fs,h1,h2⟩:=hD.o
    exact ⟨dx,fs,o _ _ h1 (hap d Fi),h2⟩
  · have hla':=hla.off o (fun b hb=>hap b (Fb _ hb))
    rw [eR,eP,eF];exact hla'
  · rw [e];exact J3j (np e)
 rcases hb with rfl | rfl | rfl
 · exact ⟨d,gv,st,as,t,pr,x,s,g,ts,B,z,rfl,dk,hg,hz,by omega,(ok.read.h z).1,(ok.read.h z).2,fun s' H' o tw eR eZ eP eF=>key s' H' o (tw.up (by omega) (by omega)) eR eZ (by rw [eP];show _=if z∈s.R then s.pd else s.pd+Bd ts z;split <;> omega) eF⟩
 · exact ⟨d,gv,st,as,t,pr,x,s,g,ts,B,z,v,rfl,dk,hg,by omega,hv1,hz,by omega,fun s' H' o tw eR eZ eP eF=>key s' H' o tw eR eZ eP eF⟩
 · exact ⟨d,gv,st,as,t,pr,x,s,g,ts,B,z,rfl,dk,hg,hz,by omega,fun s' H' o tw eR eZ eP eF=>key s' H' o (tw.up (by omega) (by omega)) eR eZ (by rw [eP];show _=if z∈s.R then s.pd else s.pd+Bd ts z;split <;> omega) eF⟩
theorem J28(hb:Ma b)(hD:Cp D H d st as (.ref t))(htw:Tws K S st ts B H (d::al.L) [⟨Dd C1 C2 pr,t,x,s,g⟩])(hla:B2 H al (T1 b ⟨s.R,g,s.ff,s.pd,pr⟩) (B+100) (fun y=>y∈(T1 b ⟨s.R,g,s.ff,s.pd,pr⟩).R))(nda:d∉al.L)(hg:H gv=some (.lst (Mm b z v).vs))(ok:GOk g)(np:pr=true→∀y,g.l y=false)(hz:z∈ts.map (·.1))(hB:B≤20000)(hy8:∀y∈s.R,y.length≤8)(hff:∀i∈s.ff,0≤i∧i≤1000)(hp0:0≤s.pd)(hp1:s.pd≤10 ^ 33)
 (q:∀(as':Addr) (x':TwA) (s':TwS) (g':Gt) (H':Hp),Off (d::own t x) H H'→(∀b∈own t x',b∈own t x∨H b=none)→Ip K D C1 C2 S H' d st as' t al pr x' s' g' ts (B+100)→s'.zs=s.zs→s'.pd=s.pd→s'.ff=s.ff→Q (.str (J22 b s.zs ⟨s.R,g,s.ff,s.pd,pr⟩ z)) H'):spA K D C1 C2 S b [.ref d,.ref gv] H Q E:=by
 have htG:=htw.ok _ (Fc.mpr rfl)
 have dk:DkT K D C1 C2 S H d st as t pr x s g ts B:=⟨hD,htG⟩
 have hap:∀c∈d::al.L,c∉own t x:=fun c hc m=>htw.kk c hc _ (Fc.mpr rfl) (Fb _ m)
 have same:T1 b ⟨s.R,g,s.ff,s.pd,pr⟩=⟨s.R,g,s.ff,s.pd,pr⟩→∀H',A9 H H'→Q (.str (J22 b s.zs ⟨s.R,g,s.ff,s.pd,pr⟩ z)) H':=fun e H' sm=>by
  rw [e]at hla;exact q as x s g H' (.of sm) (fun b hb=> .inl hb) ⟨hD.same sm,(htw.same sm).up (by omega) (by omega),hla.same sm,ok,np⟩ rfl rfl rfl
 rcases hb with rfl | rfl | rfl | rfl | rfl | rfl
 · refine ⟨d,gv,st,as,.ref t,rfl,hD,fun as' H' sb hD' _ _=>?_⟩
   have hla':B2 H' al _ _ _:=hla.off (L:=[d]) (fun c o e n=>sb c o e fun k=>n (by rw [k];simp)) fun c hc m=>nda (by rw [← Fc.mp m];exact hc);refine q as' x s g H' (fun c o e n=>sb c o e fun k=>n (by rw [k];simp)) (fun b hb=> .inl hb) ⟨hD',?_,hla',ok,np⟩ rfl rfl rfl;refine (N85.Tws.moved htw (ks':=d::al.L) (fun c o e n=>sb c o e fun k=>n (by rw [k];simp)) (fun c hc=> .inl hc) fun c hc=>?_).up (by omega) (by omega);rcases Fo.mp hc with k | k
   · obtain ⟨dx,fs,h1,_⟩:=hD'.o
     rw [k];exact ⟨_,h1,fun e z=>by cases z⟩
   · exact hla'.live c k
 · refine ⟨d,gv,st,as,t,pr,x,s,g,ts,B,rfl,dk,by omega,fun x' s' H' o hn tw eR eZ eP eF est esi=>?_⟩
   obtain ⟨tw',_,_⟩:=Tws.deed (l1:=[]) (l2:=[]) (w:=⟨Dd C1 C2 pr,t,x,s,g⟩) (w':=⟨Dd C1 C2 pr,t,x',s',Kk s.R g⟩) htw o hn tw (by omega) est esi;obtain ⟨e1,e2,e3⟩:=J3l (R:=s.R) (g:=g) fun y hy=>htG.g.lh y hy;have hla':=(hla.off o (fun b hb=>hap b (Fb _ hb))).gx (g2:=Kk s.R g) e1 e2 e3;refine q as x' s' _ H' (fun c u e n=>o c u e fun k=>n (Fb _ k)) hn ⟨?_,tw',by rw [eR,eP,eF];exact hla',ok.of e1 fun y=>?_,fun _ y=>by rw [e2]⟩ eZ eP eF
   · obtain ⟨dx,fs,h1,h2⟩:=hD.o
     exact ⟨dx,fs,o _ _ h1 (hap d Fi),h2⟩
   · rw [e3]
     dsimp only;split
     · exact .inr rfl
     · exact .inl rfl
 · exact ⟨d,gv,st,as,t,pr,x,s,g,ts,B,z,rfl,dk,hg,hz,(ok.s z).1,(ok.s z).2,same rfl H (fun b o e=>e)⟩
 · exact ⟨d,gv,st,as,t,pr,x,s,g,ts,B,rfl,dk,hy8,fun H' sm=>same rfl H' sm⟩
 · exact ⟨d,gv,st,as,t,pr,x,s,g,ts,B,rfl,dk,hff,fun H' sm=>same rfl H' sm⟩
 · exact ⟨d,gv,st,as,t,pr,x,s,g,ts,B,rfl,dk,hp0,hp1,same rfl H (fun b o e=>e)⟩
end
end N85
namespace L2
section
variable {A B C D F G H I J K L M N O Q R:Sort _} {Z:Prop}
theorem x1{p:A→Prop}(e:∃a,p a)(z:∀a,p a→Z):Z:=e.elim z
theorem x2{p:A→B→Prop}(e:∃a b,p a b)(z:∀a b,p a b→Z):Z:=e.elim fun a e=>x1 e (z a)
theorem x3{p:A→B→C→Prop}(e:∃a b c,p a b c)(z:∀a b c,p a b c→Z):Z:=e.elim fun a e=>x2 e (z a)
theorem x4{p:A→B→C→D→Prop}(e:∃a b c d,p a b c d)(z:∀a b c d,p a b c d→Z):Z:=e.elim fun a e=>x3 e (z a)
theorem x5{p:A→B→C→D→F→Prop}(e:∃a b c d f,p a b c d f)(z:∀a b c d f,p a b c d f→Z):Z:=e.elim fun a e=>x4 e (z a)
theorem x6{p:A→B→C→D→F→G→Prop}(e:∃a b c d f g,p a b c d f g)(z:∀a b c d f g,p a b c d f g→Z):Z:=e.elim fun a e=>x5 e (z a)
theorem x7{p:A→B→C→D→F→G→H→Prop}(e:∃a b c d f g h,p a b c d f g h)(z:∀a b c d f g h,p a b c d f g h→Z):Z:=e.elim fun a e=>x6 e (z a)
theorem x8{p:A→B→C→D→F→G→H→I→Prop}(e:∃a b c d f g h i,p a b c d f g h i)(z:∀a b c d f g h i,p a b c d f g h i→Z):Z:=e.elim fun a e=>x7 e (z a)
theorem x9{p:A→B→C→D→F→G→H→I→J→Prop}(e:∃a b c d f g h i j,p a b c d f g h i j)(z:∀a b c d f g h i j,p a b c d f g h i j→Z):Z:=e.elim fun a e=>x8 e (z a)
theorem x10{p:A→B→C→D→F→G→H→I→J→K→Prop}(e:∃a b c d f g h i j k,p a b c d f g h i j k)(z:∀a b c d f g h i j k,p a b c d f g h i j k→Z):Z:=e.elim fun a e=>x9 e (z a)
theorem x11{p:A→B→C→D→F→G→H→I→J→K→L→Prop}(e:∃a b c d f g h i j k l,p a b c d f g h i j k l)(z:∀a b c d f g h i j k l,p a b c d f g h i j k l→Z):Z:=e.elim fun a e=>x10 e (z a)
theorem x12{p:A→B→C→D→F→G→H→I→J→K→L→M→Prop}(e:∃a b c d f g h i j k l m,p a b c d f g h i j k l m)(z:∀a b c d f g h i j k l m,p a b c d f g h i j k l m→Z):Z:=e.elim fun a e=>x11 e (z a)
theorem x13{p:A→B→C→D→F→G→H→I→J→K→L→M→N→Prop}(e:∃a b c d f g h i j k l m n,p a b c d f g h i j k l m n)(z:∀a b c d f g h i j k l m n,p a b c d f g h i j k l m n→Z):Z:=e.elim fun a e=>x12 e (z a)
theorem v2{p:A→B→Prop}(a:A)(b:B)(e:p a b):∃a b,p a b:=⟨a,b,e⟩
theorem v3{p:A→B→C→Prop}(a:A)(b:B)(c:C)(e:p a b c):∃a b c,p a b c:=⟨a,v2 b c e⟩
theorem v4{p:A→B→C→D→Prop}(a:A)(b:B)(c:C)(d:D)(e:p a b c d):∃a b c d,p a b c d:=⟨a,v3 b c d e⟩
theorem v5{p:A→B→C→D→F→Prop}(a:A)(b:B)(c:C)(d:D)(f:F)(e:p a b c d f):∃a b c d f,p a b c d f:=⟨a,v4 b c d f e⟩
theorem v6{p:A→B→C→D→F→G→Prop}(a:A)(b:B)(c:C)(d:D)(f:F)(g:G)(e:p a b c d f g):∃a b c d f g,p a b c d f g:=⟨a,v5 b c d f g e⟩
theorem v7{p:A→B→C→D→F→G→H→Prop}(a:A)(b:B)(c:C)(d:D)(f:F)(g:G)(h:H)(e:p a b c d f g h):∃a b c d f g h,p a b c d f g h:=⟨a,v6 b c d f g h e⟩
theorem v8{p:A→B→C→D→F→G→H→I→Prop}(a:A)(b:B)(c:C)(d:D)(f:F)(g:G)(h:H)(i:I)(e:p a b c d f g h i):∃a b c d f g h i,p a b c d f g h i:=⟨a,v7 b c d f g h i e⟩
theorem v9{p:A→B→C→D→F→G→H→I→J→Prop}(a:A)(b:B)(c:C)(d:D)(f:F)(g:G)(h:H)(i:I)(j:J)(e:p a b c d f g h i j):∃a b c d f g h i j,p a b c d f g h i j:=⟨a,v8 b c d f g h i j e⟩
theorem v10{p:A→B→C→D→F→G→H→I→J→K→Prop}(a:A)(b:B)(c:C)(d:D)(f:F)(g:G)(h:H)(i:I)(j:J)(k:K)(e:p a b c d f g h i j k):∃a b c d f g h i j k,p a b c d f g h i j k:=⟨a,v9 b c d f g h i j k e⟩
theorem v11{p:A→B→C→D→F→G→H→I→J→K→L→Prop}(a:A)(b:B)(c:C)(d:D)(f:F)(g:G)(h:H)(i:I)(j:J)(k:K)(l:L)(e:p a b c d f g h i j k l):∃a b c d f g h i j k l,p a b c d f g h i j k l:=⟨a,v10 b c d f g h i j k l e⟩
theorem v12{p:A→B→C→D→F→G→H→I→J→K→L→M→Prop}(a:A)(b:B)(c:C)(d:D)(f:F)(g:G)(h:H)(i:I)(j:J)(k:K)(l:L)(m:M)(e:p a b c d f g h i j k l m):∃a b c d f g h i j k l m,p a b c d f g h i j k l m:=⟨a,v11 b c d f g h i j k l m e⟩
theorem v13{p:A→B→C→D→F→G→H→I→J→K→L→M→N→Prop}(a:A)(b:B)(c:C)(d:D)(f:F)(g:G)(h:H)(i:I)(j:J)(k:K)(l:L)(m:M)(n:N)(e:p a b c d f g h i j k l m n):∃a b c d f g h i j k l m n,p a b c d f g h i j k l m n:=⟨a,v12 b c d f g h i j k l m n e⟩
theorem v14{p:A→B→C→D→F→G→H→I→J→K→L→M→N→O→Prop}(a:A)(b:B)(c:C)(d:D)(f:F)(g:G)(h:H)(i:I)(j:J)(k:K)(l:L)(m:M)(n:N)(o:O)(e:p a b c d f g h i j k l m n o):∃a b c d f g h i j k l m n o,p a b c d f g h i j k l m n o:=⟨a,v13 b c d f g h i j k l m n o e⟩
theorem v15{p:A→B→C→D→F→G→H→I→J→K→L→M→N→O→Q→Prop}(a:A)(b:B)(c:C)(d:D)(f:F)(g:G)(h:H)(i:I)(j:J)(k:K)(l:L)(m:M)(n:N)(o:O)(q:Q)(e:p a b c d f g h i j k l m n o q):∃a b c d f g h i j k l m n o q,p a b c d f g h i j k l m n o q:=⟨a,v14 b c d f g h i j k l m n o q e⟩
theorem v16{p:A→B→C→D→F→G→H→I→J→K→L→M→N→O→Q→R→Prop}(a:A)(b:B)(c:C)(d:D)(f:F)(g:G)(h:H)(i:I)(j:J)(k:K)(l:L)(m:M)(n:N)(o:O)(q:Q)(r:R)(e:p a b c d f g h i j k l m n o q r):∃a b c d f g h i j k l m n o q r,p a b c d f g h i j k l m n o q r:=⟨a,v15 b c d f g h i j k l m n o q r e⟩
variable {V:Type} {v:List V} {t:Nat}
theorem n0{f:List V}{p:Prop}(e:v=f∧p)(z:f.length=t):v.length=t:=e.1▸z
theorem n1{u:A→List V}{p:A→Prop}(e:∃a,v=u a∧p a)(z:∀a,(u a).length=t):v.length=t:=e.elim fun a e=>n0 e (z a)
theorem n2{u:A→B→List V}{p:A→B→Prop}(e:∃a b,v=u a b∧p a b)(z:∀a b,(u a b).length=t):v.length=t:=e.elim fun a e=>n1 e (z a)
theorem n3{u:A→B→C→List V}{p:A→B→C→Prop}(e:∃a b c,v=u a b c∧p a b c)(z:∀a b c,(u a b c).length=t):v.length=t:=e.elim fun a e=>n2 e (z a)
theorem n4{u:A→B→C→D→List V}{p:A→B→C→D→Prop}(e:∃a b c d,v=u a b c d∧p a b c d)(z:∀a b c d,(u a b c d).length=t):v.length=t:=e.elim fun a e=>n3 e (z a)
theorem n5{u:A→B→C→D→F→List V}{p:A→B→C→D→F→Prop}(e:∃a b c d f,v=u a b c d f∧p a b c d f)(z:∀a b c d f,(u a b c d f).length=t):v.length=t:=e.elim fun a e=>n4 e (z a)
theorem n6{u:A→B→C→D→F→G→List V}{p:A→B→C→D→F→G→Prop}(e:∃a b c d f g,v=u a b c d f g∧p a b c d f g)(z:∀a b c d f g,(u a b c d f g).length=t):v.length=t:=e.elim fun a e=>n5 e (z a)
theorem n7{u:A→B→C→D→F→G→H→List V}{p:A→B→C→D→F→G→H→Prop}(e:∃a b c d f g h,v=u a b c d f g h∧p a b c d f g h)(z:∀a b c d f g h,(u a b c d f g h).length=t):v.length=t:=e.elim fun a e=>n6 e (z a)
theorem n8{u:A→B→C→D→F→G→H→I→List V}{p:A→B→C→D→F→G→H→I→Prop}(e:∃a b c d f g h i,v=u a b c d f g h i∧p a b c d f g h i)(z:∀a b c d f g h i,(u a b c d f g h i).length=t):v.length=t:=e.elim fun a e=>n7 e (z a)
theorem n9{u:A→B→C→D→F→G→H→I→J→List V}{p:A→B→C→D→F→G→H→I→J→Prop}(e:∃a b c d f g h i j,v=u a b c d f g h i j∧p a b c d f g h i j)(z:∀a b c d f g h i j,(u a b c d f g h i j).length=t):v.length=t:=e.elim fun a e=>n8 e (z a)
theorem n10{u:A→B→C→D→F→G→H→I→J→K→List V}{p:A→B→C→D→F→G→H→I→J→K→Prop}(e:∃a b c d f g h i j k,v=u a b c d f g h i j k∧p a b c d f g h i j k)(z:∀a b c d f g h i j k,(u a b c d f g h i j k).length=t):v.length=t:=e.elim fun a e=>n9 e (z a)
theorem n11{u:A→B→C→D→F→G→H→I→J→K→L→List V}{p:A→B→C→D→F→G→H→I→J→K→L→Prop}(e:∃a b c d f g h i j k l,v=u a b c d f g h i j k l∧p a b c d f g h i j k l)(z:∀a b c d f g h i j k l,(u a b c d f g h i j k l).length=t):v.length=t:=e.elim fun a e=>n10 e (z a)
theorem n12{u:A→B→C→D→F→G→H→I→J→K→L→M→List V}{p:A→B→C→D→F→G→H→I→J→K→L→M→Prop}(e:∃a b c d f g h i j k l m,v=u a b c d f g h i j k l m∧p a b c d f g h i j k l m)(z:∀a b c d f g h i j k l m,(u a b c d f g h i j k l m).length=t):v.length=t:=e.elim fun a e=>n11 e (z a)
theorem n13{u:A→B→C→D→F→G→H→I→J→K→L→M→N→List V}{p:A→B→C→D→F→G→H→I→J→K→L→M→N→Prop}(e:∃a b c d f g h i j k l m n,v=u a b c d f g h i j k l m n∧p a b c d f g h i j k l m n)(z:∀a b c d f g h i j k l m n,(u a b c d f g h i j k l m n).length=t):v.length=t:=e.elim fun a e=>n12 e (z a)
theorem n14{u:A→B→C→D→F→G→H→I→J→K→L→M→N→O→List V}{p:A→B→C→D→F→G→H→I→J→K→L→M→N→O→Prop}(e:∃a b c d f g h i j k l m n o,v=u a b c d f g h i j k l m n o∧p a b c d f g h i j k l m n o)(z:∀a b c d f g h i j k l m n o,(u a b c d f g h i j k l m n o).length=t):v.length=t:=e.elim fun a e=>n13 e (z a)
theorem n15{u:A→B→C→D→F→G→H→I→J→K→L→M→N→O→Q→List V}{p:A→B→C→D→F→G→H→I→J→K→L→M→N→O→Q→Prop}(e:∃a b c d f g h i j k l m n o q,v=u a b c d f g h i j k l m n o q∧p a b c d f g h i j k l m n o q)(z:∀a b c d f g h i j k l m n o q,(u a b c d f g h i j k l m n o q).length=t):v.length=t:=e.elim fun a e=>n14 e (z a)
end
section
variable {A B C D F G H I J K L M N O Q R S T U W X Y Z:Prop}
theorem y2(e:A∧B)(z:A→B→Z):Z:=z e.1 e.2
theorem y3(e:A∧B∧C)(z:A→B→C→Z):Z:=y2 e.2 (z e.1)
theorem y4(e:A∧B∧C∧D)(z:A→B→C→D→Z):Z:=y3 e.2 (z e.1)
theorem y5(e:A∧B∧C∧D∧F)(z:A→B→C→D→F→Z):Z:=y4 e.2 (z e.1)
theorem y6(e:A∧B∧C∧D∧F∧G)(z:A→B→C→D→F→G→Z):Z:=y5 e.2 (z e.1)
theorem y7(e:A∧B∧C∧D∧F∧G∧H)(z:A→B→C→D→F→G→H→Z):Z:=y6 e.2 (z e.1)
theorem y8(e:A∧B∧C∧D∧F∧G∧H∧I)(z:A→B→C→D→F→G→H→I→Z):Z:=y7 e.2 (z e.1)
theorem y9(e:A∧B∧C∧D∧F∧G∧H∧I∧J)(z:A→B→C→D→F→G→H→I→J→Z):Z:=y8 e.2 (z e.1)
theorem y10(e:A∧B∧C∧D∧F∧G∧H∧I∧J∧K)(z:A→B→C→D→F→G→H→I→J→K→Z):Z:=y9 e.2 (z e.1)
theorem y11(e:A∧B∧C∧D∧F∧G∧H∧I∧J∧K∧L)(z:A→B→C→D→F→G→H→I→J→K→L→Z):Z:=y10 e.2 (z e.1)
theorem y12(e:A∧B∧C∧D∧F∧G∧H∧I∧J∧K∧L∧M)(z:A→B→C→D→F→G→H→I→J→K→L→M→Z):Z:=y11 e.2 (z e.1)
theorem y13(e:A∧B∧C∧D∧F∧G∧H∧I∧J∧K∧L∧M∧N)(z:A→B→C→D→F→G→H→I→J→K→L→M→N→Z):Z:=y12 e.2 (z e.1)
theorem y14(e:A∧B∧C∧D∧F∧G∧H∧I∧J∧K∧L∧M∧N∧O)(z:A→B→C→D→F→G→H→I→J→K→L→M→N→O→Z):Z:=y13 e.2 (z e.1)
theorem y15(e:A∧B∧C∧D∧F∧G∧H∧I∧J∧K∧L∧M∧N∧O∧Q)(z:A→B→C→D→F→G→H→I→J→K→L→M→N→O→Q→Z):Z:=y14 e.2 (z e.1)
theorem y16(e:A∧B∧C∧D∧F∧G∧H∧I∧J∧K∧L∧M∧N∧O∧Q∧R)(z:A→B→C→D→F→G→H→I→J→K→L→M→N→O→Q→R→Z):Z:=y15 e.2 (z e.1)
theorem y17(e:A∧B∧C∧D∧F∧G∧H∧I∧J∧K∧L∧M∧N∧O∧Q∧R∧S)(z:A→B→C→D→F→G→H→I→J→K→L→M→N→O→Q→R→S→Z):Z:=y16 e.2 (z e.1)
theorem y18(e:A∧B∧C∧D∧F∧G∧H∧I∧J∧K∧L∧M∧N∧O∧Q∧R∧S∧T)(z:A→B→C→D→F→G→H→I→J→K→L→M→N→O→Q→R→S→T→Z):Z:=y17 e.2 (z e.1)
end
end L2
open PySem PySem.W PyProof.Rows
namespace L2
structure Bs(P:Program)(w:World)(K:PySem.W.Frag)(mg:Str→Option Value)(base:Heap):Prop where
 ex:∃h:Heap,K.In h∧h.Ns mainGlobals mg
theorem lc{α:Type}{us:List α}{n:Nat}(h:us.length=n+1):∃u r,us=u::r∧r.length=n:=by
 cases us with
 | nil=>cases h
 | cons u r=>exact ⟨u,r,rfl,Nat.succ.inj h⟩
theorem l0{α:Type}{us:List α}(h:us.length=0):us=[]:=by
 cases us with
 | nil=>rfl
 | cons u r=>cases h
section
variable {P:Program} {w:World} {K:PySem.W.Frag} {mg:Str→Option Value} {base:Heap} {CX:CXT} {k:Nat} {sp:Sp} {ps:List Str} {x qual n p1 p2 p3 p4 p5 p6 p7:Str} {st:Stmt} {f C:Addr} {fd:FuncData}
theorem Fun.d(F:Fun K x qual st f fd)(B:Bs P w K mg base)(a:PySem.W.nsIn K mainGlobals x=some (some (.ref f)))(o:Au P w K mg base CX k f fd ps sp)(b:De K fd ps []):Def P w K mg base CX k x ps sp:=
 let ⟨_,X,G⟩:=B.ex;⟨f,fd,o,PySem.W.mg_of X G a,F.kp,b⟩
theorem Fun.m(F:Fun K x qual st f fd)(B:Bs P w K mg base)(M:J2g K C x f)(o:Au P w K mg base CX k f fd ps sp)(b:De K fd ps []):Cd P w K mg base CX k C x ps sp:=
 ⟨f,fd,o,M,b⟩
theorem Fun.i(F:Fun K x qual st f fd)(B:Bs P w K mg base)(M:Mk K C f)(a:PySem.W.nsIn K mainGlobals n=some (some (.ref C)))(o:Au P w K mg base CX k f fd ps sp)(b:De K fd ps []):Qs P w K mg base CX k n C ps sp:=
 let ⟨_,X,G⟩:=B.ex;⟨f,fd,o,M,PySem.W.mg_of X G a,b⟩
theorem Fun.e1(F:Fun K x qual st f fd)(h:∀(kV doc pm:Value) (an:Option Addr) (cdv ct u:Value),bindArgs (PySem.W.fnOf x qual (Dl st) (D6 st) (A7 st) .none kV doc pm an cdv ct) ⟨[u],[]⟩=pure [(p1,u)]):De K fd [p1] []:=
 F.binds (ps:=[p1]) fun kV doc pm an cdv ct us hl=>by
  obtain ⟨u,us,rfl,h1⟩:=lc hl;cases l0 h1;exact h kV doc pm an cdv ct u
theorem Fun.e2(F:Fun K x qual st f fd)(h:∀(kV doc pm:Value) (an:Option Addr) (cdv ct u v:Value),bindArgs (PySem.W.fnOf x qual (Dl st) (D6 st) (A7 st) .none kV doc pm an cdv ct) ⟨[u,v],[]⟩=pure [(p1,u),(p2,v)]):De K fd [p1,p2] []:=
 F.binds (ps:=[p1,p2]) fun kV doc pm an cdv ct us hl=>by
  obtain ⟨u,us,rfl,h1⟩:=lc hl;obtain ⟨v,us,rfl,h2⟩:=lc h1;cases l0 h2;exact h kV doc pm an cdv ct u v
theorem Fun.e3(F:Fun K x qual st f fd)(h:∀(kV doc pm:Value) (an:Option Addr) (cdv ct u v w:Value),bindArgs (PySem.W.fnOf x qual (Dl st) (D6 st) (A7 st) .none kV doc pm an cdv ct) ⟨[u,v,w],[]⟩=pure [(p1,u),(p2,v),(p3,w)]):De K fd [p1,p2,p3] []:=
 F.binds (ps:=[p1,p2,p3]) fun kV doc pm an cdv ct us hl=>by
  obtain ⟨u,us,rfl,h1⟩:=lc hl;obtain ⟨v,us,rfl,h2⟩:=lc h1;obtain ⟨w,us,rfl,h3⟩:=lc h2;cases l0 h3;exact h kV doc pm an cdv ct u v w
theorem Fun.e4(F:Fun K x qual st f fd)(h:∀(kV doc pm:Value) (an:Option Addr) (cdv ct u v w y:Value),bindArgs (PySem.W.fnOf x qual (Dl st) (D6 st) (A7 st) .none kV doc pm an cdv ct) ⟨[u,v,w,y],[]⟩=pure [(p1,u),(p2,v),(p3,w),(p4,y)]):De K fd [p1,p2,p3,p4] []:=
 F.binds (ps:=[p1,p2,p3,p4]) fun kV doc pm an cdv ct us hl=>by
  obtain ⟨u,us,rfl,h1⟩:=lc hl;obtain ⟨v,us,rfl,h2⟩:=lc h1;obtain ⟨w,us,rfl,h3⟩:=lc h2;obtain ⟨y,us,rfl,h4⟩:=lc h3;cases l0 h4;exact h kV doc pm an cdv ct u v w y
theorem Fun.e6(F:Fun K x qual st f fd)(h:∀(kV doc pm:Value) (an:Option Addr) (cdv ct u v w y z a:Value),bindArgs (PySem.W.fnOf x qual (Dl st) (D6 st) (A7 st) .none kV doc pm an cdv ct) ⟨[u,v,w,y,z,a],[]⟩=pure [(p1,u),(p2,v),(p3,w),(p4,y),(p5,z),(p6,a)]):De K fd [p1,p2,p3,p4,p5,p6] []:=
 F.binds (ps:=[p1,p2,p3,p4,p5,p6]) fun kV doc pm an cdv ct us hl=>by
  obtain ⟨u,us,rfl,h1⟩:=lc hl;obtain ⟨v,us,rfl,h2⟩:=lc h1;obtain ⟨w,us,rfl,h3⟩:=lc h2;obtain ⟨y,us,rfl,h4⟩:=lc h3;obtain ⟨z,us,rfl,h5⟩:=lc h4;obtain ⟨a,us,rfl,h6⟩:=lc h5;cases l0 h6;exact h kV doc pm an cdv ct u v w y z a
end
abbrev Gf(K:PySem.W.Frag)(x:Str)(st:Stmt):Prop:=∃(f:Addr) (fd:FuncData),PySem.W.nsIn K mainGlobals x=some (some (.ref f))∧Fun K x x st f fd
abbrev Gm(K:PySem.W.Frag)(C:Addr)(x q:Str)(st:Stmt):Prop:=∃(f:Addr) (fd:FuncData),J2g K C x f∧Fun K x q st f fd
abbrev Gi(K:PySem.W.Frag)(C:Addr)(q:Str)(st:Stmt):Prop:=∃(f:Addr) (fd:FuncData),Mk K C f∧Fun K "__init__" q st f fd
abbrev Gc(K:PySem.W.Frag)(x:Str)(C:Addr):Prop:=PySem.W.nsIn K mainGlobals x=some (some (.ref C))
abbrev Gn(K:PySem.W.Frag)(C:Addr)(x:Str):Prop:=PySem.W.findIn K (.ref C) x=some none
section
variable {P:Program} {w:World} {K:PySem.W.Frag} {mg:Str→Option Value} {base:Heap} {CX:CXT} {k:Nat} {sp:Sp} {ps:List Str} {x q n:Str} {st:Stmt} {C:Addr}
theorem Gf.d(F:Gf K x st)(B:Bs P w K mg base)(o:∀{f fd},Fun K x x st f fd→Au P w K mg base CX k f fd ps sp)(b:∀{f fd},Fun K x x st f fd→De K fd ps []:=by walk_at "bd"):Def P w K mg base CX k x ps sp:=
 let ⟨_,_,a,G⟩:=F;G.d B a (o G) (b G)
theorem Gm.m(F:Gm K C x q st)(B:Bs P w K mg base)(o:∀{f fd},Fun K x q st f fd→Au P w K mg base CX k f fd ps sp)(b:∀{f fd},Fun K x q st f fd→De K fd ps []:=by walk_at "bd"):Cd P w K mg base CX k C x ps sp:=
 let ⟨_,_,a,G⟩:=F;G.m B a (o G) (b G)
theorem Gi.i(F:Gi K C q st)(B:Bs P w K mg base)(a:Gc K n C)(o:∀{f fd},Fun K "__init__" q st f fd→Au P w K mg base CX k f fd ps sp)(b:∀{f fd},Fun K "__init__" q st f fd→De K fd ps []:=by walk_at "bd"):Qs P w K mg base CX k n C ps sp:=
 let ⟨_,_,M,G⟩:=F;G.i B M a (o G) (b G)
end
theorem J8f{n:Str}{N:List Str}{v:V}{vs:List V}:start (n::N) (v::vs)=some v::start N vs:=by
 simp [start]
theorem J8g{n:Str}{N:List Str}:start (n::N) []=none::start N []:=rfl
theorem J8h:start [] []=[]:=rfl
end L2
namespace K85
open L2 N1 N5 N4 N6 N12 N71 N74 N76 N75 N79 NTx N85
local macro_rules | `(tactic| walk_at "rq") => `(tactic| simp only [Yt, Yu, J6q, J44, J45, J6r, J6s, Ul, Yv, Um, J6t, Yw, Uo, Up, Qd, Uq, J46, Ur, Yx, Us, Yy, J47, Yz, Ut, J00, Uu, J48, J49, J4a, J4b, J01, J02, J03, Qe, Uv, Qf, Uw, Ux, Qg, Uy, Uz, Qh, V0, V1, scal, V3, V4, J4e, Om, V5, J09, J0a, J4f, J0b, V6, V7, V8, Qo, J0c, V9, Va, Qp, Vb, J0d, Vc, Qq, true_implies, false_implies, Bool.false_and, Bool.true_and, Bool.and_true, Bool.and_false, Bool.false_or, Bool.true_or, Bool.or_true, Bool.or_false, J0i, J0j, Qt, Qu, J0k, Vf, J0l, Oo, Mu, Vg, Vh, J0g, On, Qr, J4g, Int.zero_add, Int.toNat_natCast, U5, List.map_cons, List.map_nil, List.getD_cons_zero, List.getD_cons_succ, Ys, List.length_cons, List.length_nil, List.getElem?_cons_zero, List.getElem?_cons_succ, List.set_cons_zero, List.set_cons_succ, Option.some.injEq, V.int.injEq, V.bl.injEq, V.str.injEq, V.ref.injEq, V.ty.injEq, exists_eq_left', exists_eq_left, exists_and_left, exists_eq, exists_eq', List.cons.injEq, and_true, true_and, decide_eq_true_eq, Bool.not_eq_true', decide_eq_false_iff_not, reduceCtorEq, exists_const, Bool.true_eq_false, Bool.false_eq_true, if_true, if_false, ite_true, ite_false, Bool.not_true, Bool.not_false, decide_true, decide_false, Bool.not_not, false_and, and_false, exists_false, false_or, or_false, true_or, or_true, and_assoc, not_true_eq_false, not_false_eq_true, Int.reduceToNat, Nat.reduceAdd, Mv, Mw, Ga, Np, Ep, Iz, K0, S9, K5, Sl, Qy, Os, Vl, Ot, Qw, Qx, Oy, J1c, P1, J1d, Vu, Sd, Se, Pr, Ge, Ct, Dh, Gg, Gh, Gb, J1b, Vx, Vp, Mg, Vv, J19, Dr, Di, Ed, Ee, Cu, Ds, Nt, Mu, Lc, Nv, D9, Dt, Du, Dv, Da, Dw, Ef, Dc, P4, P5, P6, Mi, P7, Mj, W1, J1h, J1i, Sq, W4, W6, Sv, My, Gp, K8, K9, Gk, Ka, Kc, N0, E1, Ej, Bu, Ek, El, E2, Em, E3, Dn, E4, E5, Le, Sf, Vr, Sw, Ke, Lg, Kf, Gq, Gr, Kg, Eb, W0, Lu, Sx, Gs, Kh, Gu])
local macro_rules | `(tactic| walk_at "rd") => `(tactic| first | (dsimp only [Yt, Yu, J6q, J44, J45, J6r, J6s, Ul, Yv, Um, J6t, Yw, Uo, Up, Qd, Uq, J46, Ur, Yx, Us, Yy, J47, Yz, Ut, J00, Uu, J48, J49, J4a, J4b, J01, J02, J03, Qe, Uv, Qf, Uw, Ux, Qg, Uy, Uz, Qh, V0, V1, scal, V3, V4, J4e, Om, V5, J09, J0a, J4f, J0b, V6, V7, V8, Qo, J0c, V9, Va, Qp, Vb, J0d, Vc, Qq, true_implies, false_implies, Bool.false_and, Bool.true_and, Bool.and_true, Bool.and_false, Bool.false_or, Bool.true_or, Bool.or_true, Bool.or_false, J0i, J0j, Qt, Qu, J0k, Vf, J0l, Oo, Mu, Vg, Vh, J0g, On, Qr, J4g, Int.zero_add, Int.toNat_natCast, U5, List.map_cons, List.map_nil, List.getD_cons_zero, List.getD_cons_succ, Ys, List.length_cons, List.length_nil, List.getElem?_cons_zero, List.getElem?_cons_succ, List.set_cons_zero, List.set_cons_succ, Option.some.injEq, V.int.injEq, V.bl.injEq, V.str.injEq, V.ref.injEq, V.ty.injEq, exists_eq_left', exists_eq_left, exists_and_left, exists_eq, exists_eq', List.cons.injEq, and_true, true_and, decide_eq_true_eq, Bool.not_eq_true', decide_eq_false_iff_not, reduceCtorEq, exists_const, Bool.true_eq_false, Bool.false_eq_true, if_true, if_false, ite_true, ite_false, Bool.not_true, Bool.not_false, decide_true, decide_false, Bool.not_not, false_and, and_false, exists_false, false_or, or_false, true_or, or_true, and_assoc, not_true_eq_false, not_false_eq_true, Int.reduceToNat, Nat.reduceAdd, Mv, Mw, Ga, Np, Ep, Iz, K0, S9, K5, Sl, Qy, Os, Vl, Ot, Qw, Qx, Oy, J1c, P1, J1d, Vu, Sd, Se, Pr, Ge, Ct, Dh, Gg, Gh, Gb, J1b, Vx, Vp, Mg, Vv, J19, Dr, Di, Ed, Ee, Cu, Ds, Nt, Mu, Lc, Nv, D9, Dt, Du, Dv, Da, Dw, Ef, Dc, P4, P5, P6, Mi, P7, Mj, W1, J1h, J1i, Sq, W4, W6, Sv, My, Gp, K8, K9, Gk, Ka, Kc, N0, E1, Ej, Bu, Ek, El, E2, Em, E3, Dn, E4, E5, Le, Sf, Vr, Sw, Ke, Lg, Kf, Gq, Gr, Kg, Eb, W0, Lu, Sx, Gs, Kh, Gu]; try walk_at "rq") | walk_at "rq")
local macro_rules | `(tactic| walk_at "hp") => `(tactic| first | with_reducible assumption | exact A5 | (rw [A3 (by first | with_reducible assumption | exact A2 (by with_reducible assumption) (by with_reducible assumption))]; first | with_reducible assumption | exact A5))
local macro_rules | `(tactic| walk_at "sq") => `(tactic| (repeat' first | with_reducible assumption | exact SqT.of A5 | exact SqL.of A5 | refine' A9.tup (A9.new (by with_reducible assumption)) ?_ | refine' A9.seq (A9.new (by with_reducible assumption)) ?_))
local macro_rules | `(tactic| walk_at "isi") => `(tactic| first | exact Ye | exact Yf | exact Yg | exact J51 | exact J53 | exact Yi | exact J54 | exact Yh | exact J52 | exact Yj | exact J55 | exact Yo (by walk_at "hp") | exact Yk (by walk_at "hp") | exact Yr (by walk_at "hp") | exact Yn (by walk_at "hp") | exact Yp (by walk_at "hp") | exact Yl (by walk_at "hp") | exact Yq (by walk_at "hp") | exact Ym (by walk_at "hp"))
local macro_rules | `(tactic| walk_at "slen") => `(tactic| first | omega | decide +kernel | (refine J5e ?_ ?_ <;> walk_at "slen"))
local macro_rules | `(tactic| walk_at "side") => `(tactic| first | with_reducible assumption | with_reducible exact Mr (by omega) (by omega) | with_reducible exact Pl (by decide) (by decide) (by decide) | with_reducible exact J59 (by omega) (by omega) | with_reducible exact J04 (by omega) (by omega) | omega | decide | decide +kernel | (have := Dz; omega) | (simp only [Ca, Vd, Dz]; omega) | (rw [Dz]; walk_at "slen"; done))
local macro_rules | `(tactic| walk_at "go1") => `(tactic| first | walk_at "rd" | ((with_reducible refine And.intro ?_ ?_); (focus (walk_at "side"; done))) | ((with_reducible apply J56); (focus (walk_at "isi"; done))) | ((with_reducible apply Kq); (focus (walk_at "sq"; done)); (focus rfl)) | ((with_reducible apply Bw); (focus (walk_at "sq"; done)); (focus rfl)) | ((with_reducible apply J2s); (focus (walk_at "sq"; done))) | ((with_reducible apply J2r); (focus (walk_at "sq"; done))) | ((with_reducible apply Wx); (focus (walk_at "sq"; done)); (focus (assumption; done))) | ((with_reducible apply J2v); (focus (walk_at "sq"; done)); (focus (decide; done)); (focus (assumption; done))) | (intro (_ : List (Addr × PySem.Obj)) (_ : PySem.Value → PySem.Shared → Prop)) | with_reducible refine J58 fun _ _ => ?_ | (refine J2u (by with_reducible assumption) ?_; subst_vars))
local macro_rules | `(tactic| walk_at "go") => `(tactic| repeat walk_at "go1")
def top(i:Nat):Stmt:=PySem.Challenge.pw_castoff_k85_tower_lines.main.body.getD i (.Pass ⟨0,0,0,0⟩)
structure Txt(K:W.Frag)(mg:Str→Option Value)(xF_thing xF_tower xF_prompt xF_read xF_keep xF_ahead xF_rest xF_store xF_levels xF_found xF_spent xF_again Z2 Z1 Z0 Z5 xanswer_thing xanswer_tower xanswer_prompt xanswer_read xanswer_keep xanswer_ahead xanswer_rest xanswer_store xanswer_levels xanswer_found xanswer_spent xanswer_again Zh Z8:Addr):Prop where
 Z8k:mg "Stock"=some (.ref Z2)
 Za:Cls K Z2
 Zk:Bc K Z2 "things"
 Z8l:mg "Tower"=some (.ref Z1)
 Z4:Cls K Z1
 Z0i:Bc K Z1 "stock"
 Zy:Bc K Z1 "sizes"
 Zt:Bc K Z1 "row"
 Zu:Bc K Z1 "held"
 Z02:Bc K Z1 "late"
 Z0r:Bc K Z1 "store"
 Z0k:Bc K Z1 "entries"
 Z0j:Bc K Z1 "finds"
 Z0w:Bc K Z1 "paid"
 Z8j:mg "Prompt"=some (.ref Z0)
 Z3:Cls K Z0
 Z0c:Bc K Z0 "stock"
 Zr:Bc K Z0 "sizes"
 Zl:Bc K Z0 "row"
 Zn:Bc K Z0 "held"
 Z03:Bc K Z0 "late"
 Z0o:Bc K Z0 "store"
 Z0e:Bc K Z0 "entries"
 Z0d:Bc K Z0 "finds"
 Z0s:Bc K Z0 "paid"
 Z8m:mg "Desk"=some (.ref Z5)
 Zs:Cls K Z5
 Z0f:Bc K Z5 "stock"
 Z2p:Bc K Z5 "asks"
 Z0g:Bc K Z5 "tower"
 Z5r:mg "answer_thing"=some (.ref xanswer_thing)
 Z5s:mg "answer_tower"=some (.ref xanswer_tower)
 Z53:mg "answer_prompt"=some (.ref xanswer_prompt)
 Z6t:mg "answer_read"=some (.ref xanswer_read)
 Z6u:mg "answer_keep"=some (.ref xanswer_keep)
 Z5t:mg "answer_ahead"=some (.ref xanswer_ahead)
 Z6v:mg "answer_rest"=some (.ref xanswer_rest)
 Z5u:mg "answer_store"=some (.ref xanswer_store)
 Z54:mg "answer_levels"=some (.ref xanswer_levels)
 Z5v:mg "answer_found"=some (.ref xanswer_found)
 Z5w:mg "answer_spent"=some (.ref xanswer_spent)
 Z5x:mg "answer_again"=some (.ref xanswer_again)
 Z7l:mg "FORMS"=some (.ref Zh)
 Z81:mg "ANSWERS"=some (.ref Z8)
 Zf:mg "len"=none
 Z0x:mg "isinstance"=none
 Z3r:mg "int"=none
 Z76:mg "bool"=none
 Z0m:mg "str"=none
 Z2u:mg "list"=none
 Z7o:mg "all"=none
 Z3i:mg "range"=none
 Z55:mg "sum"=none
 Z1f:mg "enumerate"=none
 Z8d:mg "abs"=none
 Z7p:mg "max"=none
 Z7q:mg "zip"=none
 Z5y:mg "tuple"=none
 Z3s:∃t,mg "LETTERS"=some (.str "abcdefghijklmnopqrstuvwxyz" t)
 Z3t:∃t,mg "FIGURES"=some (.str "0123456789" t)
 Z3j:∃t,mg "MOST_SIGNS"=some (.int 8 t)
 Z2v:∃t,mg "MOST_THINGS"=some (.int 60 t)
 Z3y:∃t,mg "MOST_ROOM"=some (.int 1000 t)
 Z2w:∃t,mg "MOST_PLACES"=some (.int 1000000 t)
 Z26:∃t,mg "MOST_SHELVES"=some (.int 6 t)
 Z27:∃t,mg "MOST_FIGURES"=some (.int 31 t)
local macro_rules | `(tactic| walk_at "sc") => `(tactic| exact ⟨rfl, rfl, rfl, by decide +kernel, rfl, by decide +kernel, by decide +kernel⟩)
local macro_rules | `(tactic| walk_at "su") => `(tactic| simp only [J8f, J8g, J8h])
set_option hygiene false in
local macro_rules | `(tactic| walk_at "st") => `(tactic| (walk_at "su"; have line := Dz))
local macro_rules | `(tactic| walk_at "bd") => `(tactic| (intro _ _ F; first | (refine F.e1 ?_; exact fun _ _ _ _ _ _ _ => rfl) | (refine F.e2 ?_; exact fun _ _ _ _ _ _ _ _ => rfl) | (refine F.e3 ?_; exact fun _ _ _ _ _ _ _ _ _ => rfl) | (refine F.e4 ?_; exact fun _ _ _ _ _ _ _ _ _ _ => rfl) | (refine F.e0 ?_; exact fun _ _ _ _ _ _ => rfl) | (refine F.e5 ?_; exact fun _ _ _ _ _ _ _ _ _ _ _ => rfl) | (refine F.e6 ?_; exact fun _ _ _ _ _ _ _ _ _ _ _ _ => rfl)))
section
variable {P:Program} {w:World} {K:W.Frag} {mg:Str→Option Value} {base:Heap} {xF_thing xF_tower xF_prompt xF_read xF_keep xF_ahead xF_rest xF_store xF_levels xF_found xF_spent xF_again Z2 Z1 Z0 Z5 xanswer_thing xanswer_tower xanswer_prompt xanswer_read xanswer_keep xanswer_ahead xanswer_rest xanswer_store xanswer_levels xanswer_found xanswer_spent xanswer_again Zh Z8:Addr}
variable {f:Addr} {fd:FuncData} (T:Txt K mg xF_thing xF_tower xF_prompt xF_read xF_keep xF_ahead xF_rest xF_store xF_levels xF_found xF_spent xF_again Z2 Z1 Z0 Z5 xanswer_thing xanswer_tower xanswer_prompt xanswer_read xanswer_keep xanswer_ahead xanswer_rest xanswer_store xanswer_levels xanswer_found xanswer_spent xanswer_again Zh Z8)
set_option hygiene false in
local macro_rules | `(tactic| walk_at "ok") => `(tactic| refine F.ok sc (fun vs H Q E h_ => ?_) (fun cdv A outer s H vs Q E hr h_ => ?_))
set_option hygiene false in
local macro_rules | `(tactic| walk_at "rt") => `(tactic| (rename_i rest hrest; subst hrest))
local macro_rules | `(tactic| walk_at "rs") => `(tactic| (walk_at "rt"; walk_at "go"))
abbrev Z4f:Stmt:=top 34
abbrev Z4g:Stmt:=top 35
abbrev Z46:Stmt:=top 17
abbrev Z3z:Stmt:=top 18
abbrev Z2x:Stmt:=top 36
abbrev Z3k:Stmt:=Av (top 37) 0
abbrev Z2y:Stmt:=Av (top 37) 1
abbrev Z28:Stmt:=top 26
abbrev Z1s:Stmt:=Av (top 37) 3
abbrev Z1c:Stmt:=Av (top 37) 4
abbrev Z1v:Stmt:=Av (top 37) 5
abbrev Z1w:Stmt:=Av (top 37) 6
abbrev Z2z:Stmt:=top 107
abbrev Z30:Stmt:=top 44
abbrev Z31:Stmt:=Av (top 108) 10
abbrev Z29:Stmt:=Av (top 108) 11
abbrev Z1t:Stmt:=Av (top 108) 9
abbrev Z3l:Stmt:=Av (top 108) 8
abbrev Z2a:Stmt:=Av (top 108) 1
abbrev Z1u:Stmt:=Av (top 108) 6
abbrev Z2b:Stmt:=Av (top 108) 2
abbrev Z32:Stmt:=Av (top 108) 7
abbrev Z3m:Stmt:=Av (top 108) 12
abbrev Z3n:Stmt:=Av (top 108) 13
abbrev Z33:Stmt:=Av (top 108) 15
abbrev Z3o:Stmt:=Av (top 108) 14
abbrev Z34:Stmt:=Av (top 108) 4
abbrev Z35:Stmt:=Av (top 108) 5
abbrev Z3p:Stmt:=Av (top 108) 0
abbrev Z2c:Stmt:=Av (top 108) 10
abbrev Z1x:Stmt:=Av (top 109) 0
abbrev Z1d:Stmt:=Av (top 108) 9
abbrev Z36:Stmt:=Av (top 108) 8
abbrev Z1y:Stmt:=Av (top 108) 1
abbrev Z1e:Stmt:=Av (top 108) 6
abbrev Z1z:Stmt:=Av (top 108) 2
abbrev Z2d:Stmt:=Av (top 108) 7
abbrev Z37:Stmt:=Av (top 108) 12
abbrev Z38:Stmt:=Av (top 108) 13
abbrev Z2e:Stmt:=Av (top 108) 15
abbrev Z2f:Stmt:=Av (top 108) 4
abbrev Z2g:Stmt:=Av (top 108) 5
abbrev Z39:Stmt:=Av (top 108) 0
abbrev Z3a:Stmt:=Av (top 108) 14
abbrev Z3b:Stmt:=top 41
abbrev Z40:Stmt:=top 99
abbrev Z41:Stmt:=top 100
abbrev Z47:Stmt:=top 101
abbrev Z42:Stmt:=top 102
abbrev Z43:Stmt:=Av (top 163) 0
abbrev Z48:Stmt:=top 153
abbrev Z2h:Stmt:=top 139
abbrev Z2i:Stmt:=top 141
abbrev Z2j:Stmt:=top 151
abbrev Z20:Stmt:=top 152
abbrev Z3c:Stmt:=top 154
abbrev Z3d:Stmt:=top 155
abbrev Z2k:Stmt:=top 156
abbrev Z3e:Stmt:=top 157
abbrev Z2l:Stmt:=top 158
abbrev Z21:Stmt:=top 159
abbrev Z2m:Stmt:=top 160
abbrev Z2n:Stmt:=top 161
abbrev Z49:Stmt:=Av (top 163) 1
abbrev Z44:Stmt:=top 165
abbrev Z5z:Stmt:=top 166
abbrev Z4h:Stmt:=top 167
abbrev Z4r:Stmt:=top 168
abbrev Z60:Stmt:=top 169
abbrev Z4s:Stmt:=top 170
abbrev Z4i:Stmt:=top 171
abbrev Z4j:Stmt:=top 172
abbrev Z4t:Stmt:=top 173
abbrev Z4a:Stmt:=top 174
abbrev Z4k:Stmt:=top 175
abbrev Z4u:Stmt:=top 176
abbrev Z4v:Stmt:=top 177
abbrev Z3f:Stmt:=top 178
include T in
theorem Z7r(F:Fun K "made_of" "made_of" Z4f f fd):Au P w K mg base CX0 1 f fd ["text","signs"] (Mw):=by
 have sc:Ab ["text","signs"] ["text","signs"] (A7 Z4f):=by walk_at "sc"
 walk_at "ok"
 · exact n2 h_ fun _ _=>rfl
 refine x2 h_ fun z w e_=>y3 e_ fun e0 hz q=>?_;clear e_ h_;subst e0;refine ⟨_,(@A6 _ _ _ (@Ae _ _ _ _ (Aq (J08 rfl) rfl T.Z7o (by first | rfl | decide+kernel) (A0 (Ew "sign" [1] rfl rfl (J5d (pv 0)) (fun b=>(Iu J0f (pv 0) (pv 1) (by with_unfolding_all rfl)))) A4)))),?_⟩;walk_at "su";walk_at "go";refine Tr (fun c=>V.bl (decide (c∈w.cps.toList))) hz (fun b c H' Q' hc sm q'=>?_) fun D hD=>?_
 · walk_at "go"
   exact q'
 · refine ⟨_,rfl,z.cps.toList.map fun c=>decide (c∈w.cps.toList),?_,?_⟩
   · rw [FM];exact SqL.of A5
   · rw [List.all_map];exact q _ (A9.new hD)
variable (Z0y:Def P w K mg base CX0 1 "made_of" ["text","signs"] (Mw))
include T Z0y in
theorem Z7s(F:Fun K "is_name" "is_name" Z4g f fd):Au P w K mg base CX0 2 f fd ["thing"] (Ga K):=by
 have sc:Ab ["thing"] ["thing"] (A7 Z4g):=by walk_at "sc"
 walk_at "ok"
 · exact n1 h_ fun _=>rfl
 refine x1 h_ fun x e_=>y2 e_ fun e0 hx=>?_;clear e_ h_;subst e0
 refine ⟨_,(@A1 _ _ _ _ _ (Az (G3 (Eg (Aq Ih rfl T.Z0x (by first | rfl | decide+kernel) (A0 (pv 0) (A0 (Pa (v:= .ty "str") rfl T.Z0m (by first | rfl | decide+kernel) rfl) A4)))))
  (@A6 _ _ _ (@Ae _ _ _ _ Gz))
  Ah)
  (@A1 _ _ _ _ _ (Az (PW.pt (U6 (Aj Nb (Aq Dj rfl T.Zf Fy (A0 (pv 0) A4)) Aa (nomark _)) (T2 (Aj Kx (Aq Dj rfl T.Zf Fy (A0 (pv 0) A4)) (Iy rfl T.Z3j) (nomark _)))))
   (@A6 _ _ _ (@Ae _ _ _ _ Gz))
   Ah)
  (@A6 _ _ _ (@Ae _ _ _ _ (T4 (Iu J0f (@Bz _ _ _ _ _ _ _ Tf (pv 0) Aa (fun _ _=>rfl)) (Ms rfl T.Z3s) (by with_unfolding_all rfl)) (T3 (Ag Z0y hr rfl Ad (A0 (pv 0) (A0 (Al Bf (Ms rfl T.Z3s) (Ms rfl T.Z3t)) A4))))))))),?_⟩
 walk_at "su";rcases hx with ⟨z,rfl,hz,q⟩ | ⟨hi,q⟩
 · walk_at "go"
   have hl:=Cf (z:=z);split
   · rename_i h1
     have e:Bo z.cps.toList=false:=by unfold Bo;rw [FF (show ¬1≤z.cps.toList.length by omega)];rfl
     rw [e]at q;exact q _ (A9.refl H)
   · rename_i h1
     refine ⟨hz,?_⟩;split
     · have e:Bo z.cps.toList=false:=by unfold Bo;rw [FF (show ¬z.cps.toList.length≤8 by omega),Bool.and_false];rfl
       rw [e]at q;exact q _ (A9.refl H)
     · rename_i h2
       obtain ⟨c,r,hcr⟩:∃c r,z.cps.toList=c::r:=by
        cases h:z.cps.toList with
        | nil=>rw [h]at hl;simp at hl;omega
        | cons c r=>exact ⟨c,r,rfl⟩
       have hn:Bo z.cps.toList=(decide (c∈Be) && z.cps.toList.all fun c=>decide (c∈Be++Bi)):=by
        unfold Bo;rw [FI (show 1≤z.cps.toList.length by omega),FI (show z.cps.toList.length≤8 by omega)];rw [hcr];rfl
       rw [hn]at q;walk_at "go";refine Ts hz (by rw [hcr];exact J72) ?_;walk_at "go";rw [Nn];split
       · rename_i hc
         rw [FI hc,Bool.true_and]at q;walk_at "go";rw [Ex,Nn,Qz];exact q
       · rename_i hc
         rw [FF hc,Bool.false_and]at q;exact q _ (A9.refl H)
 · walk_at "go"
   refine ⟨_,hi,?_⟩;walk_at "go";exact q
variable (Z0z:Def P w K mg base CX0 2 "is_name" ["thing"] (Ga K))
include T in
theorem Z7g(F:Fun K "is_whole" "is_whole" Z46 f fd):Au P w K mg base CX0 1 f fd ["thing"] (Ep K):=by
 have sc:Ab ["thing"] ["thing"] (A7 Z46):=by walk_at "sc"
 walk_at "ok"
 · exact n3 h_ fun _ _ _=>rfl
 refine x3 h_ fun x b c e_=>y4 e_ fun e0 h1 h2 q=>?_;clear e_ h_;subst e0;refine ⟨_,(@A6 _ _ _ (@Ae _ _ _ _ (T4 (Aq Ih rfl T.Z0x (by first | rfl | decide+kernel) (A0 (pv 0) (A0 (Pa (v:= .ty "int") rfl T.Z3r (by first | rfl | decide+kernel) rfl) A4))) (T3 (Xk (Aq Ih rfl T.Z0x (by first | rfl | decide+kernel) (A0 (pv 0) (A0 (Pa (v:= .ty "bool") rfl T.Z76 (by first | rfl | decide+kernel) rfl) A4)))))))),?_⟩;walk_at "su";walk_at "go";refine ⟨_,h1,?_⟩;cases b
 · walk_at "go"
   exact q
 · walk_at "go"
   refine ⟨_,h2 rfl,?_⟩;walk_at "go";exact q
variable (Z3g:Def P w K mg base CX0 1 "is_whole" ["thing"] (Ep K))
include T Z3g in
theorem Z77(F:Fun K "is_within" "is_within" Z3z f fd):Au P w K mg base CX0 2 f fd ["thing","least","most"] (Iz K):=by
 have sc:Ab ["thing","least","most"] ["thing","least","most"] (A7 Z3z):=by walk_at "sc"
 walk_at "ok"
 · exact n3 h_ fun _ _ _=>rfl
 refine x3 h_ fun v lo hi e_=>y3 e_ fun e0 hv q=>?_;clear e_ h_;subst e0;refine ⟨_,(@A6 _ _ _ (@Ae _ _ _ _ (T4 (Ag Z3g hr rfl Ad (A0 (pv 0) A4)) (T3 (Xx J3u J3u (pv 1) (pv 0) (pv 2)))))),?_⟩;walk_at "su";obtain ⟨b,c,h1,h2,h3,h4⟩:=J35 (K:=K) (H:=H) hv;walk_at "go";refine ⟨b,h1,c,h2,?_⟩;split
 · rename_i h
   obtain ⟨i,rfl⟩:=h3 h;simp only [wIn]at q;walk_at "go";split
   · rename_i h'
     rw [FI h',Bool.true_and]at q;exact q
   · rename_i h'
     rw [FF h',Bool.false_and]at q;exact q
 · rename_i h
   have e:wIn lo hi v=false:=by
    cases v with
    | int i=>exact absurd rfl (h4 (by simpa using h) i)
    | _=>rfl
   rw [e]at q;exact q
variable (Zd:Def P w K mg base CX0 2 "is_within" ["thing","least","most"] (Iz K))
include T Z0z Zd in
theorem Z61(F:Fun K "check_thing" "check_thing" Z2x f fd):Au P w K mg base CX0 3 f fd ["name","cost","room","earlier"] (K0 K):=by
 have sc:Ab ["name","cost","room","earlier"] ["name","cost","room","earlier"] (A7 Z2x):=by walk_at "sc"
 walk_at "ok"
 · exact n6 h_ fun _ _ _ _ _ _=>rfl
 refine x6 h_ fun n co r e kvs ks e_=>y5 e_ fun e0 he hk hrow q=>?_;clear e_ h_;subst e0
 refine ⟨_,(@A1 _ _ _ _ _ (Az (G3 (Eg (Ag Z0z hr rfl Ad (A0 (pv 0) A4))))
  (@A6 _ _ _ Bm)
  Ah)
  (@A1 _ _ _ _ _ (Az (Ia (Ls (Ao hr) (pv 0) (pv 3)))
   (@A6 _ _ _ Bm)
   Ah)
  (@A1 _ _ _ _ _ (Az (G3 (Eg (Ag Zd hr rfl Ad (A0 (pv 1) (A0 Aa (A0 (Al Kn Aa Aa) A4))))))
   (@A6 _ _ _ Bm)
   Ah)
  (@A6 _ _ _ (Az (G3 (Eg (Ag Zd hr rfl Ad (A0 (pv 2) (A0 Aa (A0 (Iy rfl T.Z3y) A4))))))
   (@A6 _ _ _ Bm)
   Ah))))),?_⟩
 walk_at "su";obtain ⟨z,c,w,rfl,rfl,rfl,nz,hb,h1,h2,h3,h4⟩:=Ov hrow;have line:=Dz;have hz8:=J0s hb;walk_at "go";intro H1 sm1;rw [hb];have he1:=sm1 _ _ he;walk_at "go";refine ⟨_,Br.k (k:=Sum.inr z) he1,?_⟩;rw [Pq hk,FF nz];walk_at "go";refine ⟨rfl,?_⟩;split
 · rename_i h
   exact absurd h (by rw [Nq h1 h2];decide)
 · walk_at "go"
   refine ⟨rfl,?_⟩;split
   · rename_i h
     exact absurd h (by rw [Nq h3 h4];decide)
   · walk_at "go"
     exact q _ sm1
variable (Z1g:Def P w K mg base CX0 3 "check_thing" ["name","cost","room","earlier"] (K0 K))
include T Z1g in
theorem Z6w(F:Fun K "__init__" "Stock.__init__" Z3k f fd):Au P w K mg base CX0 4 f fd ["self","rows"] (Gp K Z2):=by
 have sc:Ab ["self","rows","name","cost","room"] ["self","rows"] (A7 Z3k):=by walk_at "sc"
 walk_at "ok"
 · exact n4 h_ fun _ _ _ _=>rfl
 refine x4 h_ fun p dx ra rs e_=>y6 e_ fun e0 hp hrs hall er q=>?_;clear e_ h_;subst e0
 refine ⟨_,(@A1 _ _ _ _ _ (Az (Aj Kx (Aq Ar rfl T.Zf Fy (A0 (pv 1) A4)) (Iy rfl T.Z2v) (nomark _))
  (@A6 _ _ _ Bm)
  Ah)
  (@A1 _ _ _ _ _ (Bl (pv 0) C4 rfl)
  (@A6 _ _ _ (D8 PassesOwn.never rfl (C9 (pv 1)) (N9 rfl (Cq (Bj (i:=2) sc.nd rfl (Or.inl rfl)) (Cq (Bj (i:=3) sc.nd rfl (Or.inl rfl)) (Cq (Bj (i:=4) sc.nd rfl (Or.inl rfl)) Kw))))
   (@A1 _ _ _ _ _ (Ai (Ag Z1g hr rfl Ad (A0 (pv 2) (A0 (pv 3) (A0 (pv 4) (A0 (Af (pv 0) rfl) A4))))))
   (@A6 _ _ _ (Bt (Ao hr) (Af (pv 0) rfl) (pv 2) (G6 (A0 (Aq Oi rfl T.Zf Fy (A0 (Af (pv 0) rfl) A4)) (A0 (pv 3) (A0 (pv 4) A4)))) rfl))))))),?_⟩
 walk_at "st";obtain ⟨hl60,hstk⟩:=Tz er;walk_at "go";rw [Fa];split
 · rename_i h
   exact absurd h (by omega)
 · rename_i h
   walk_at "go";intro d hd;have npd:p≠d:=A2 hp hd;walk_at "go";refine ⟨Z2,dx,[],by rw [A3 npd];exact hp,T.Za,T.Zk,by decide,?_⟩
   have sb0:SameBut p H (upd (upd H d (.dK [])) p (.ins Z2 dx (flds d))):=fun b o e n=>by rw [A3 n,A3 (A2 e hd)];exact e
   have hp0:upd (upd H d (.dK [])) p (.ins Z2 dx (flds d)) p=some (.ins Z2 dx (flds d)):=A5
   have hd0:upd (upd H d (.dK [])) p (.ins Z2 dx (flds d)) d=some (.dK []):=by rw [A3 npd.symm,A5]
   unfold flds at sb0 hp0 hd0;generalize upd (upd H d (HO.dK [])) p (HO.ins Z2 dx (Am (Str.ofString "things") (V.ref d) []))=H0 at sb0 hp0 hd0 ⊢;walk_at "go";refine ⟨⟨_,SqL.but sb0 hp hrs⟩,?_⟩;refine En (xs:=rs.map fun t=>V.ref t.1) (fun i σ H'=>∃v1 v2 v3,σ=[some (V.ref p),some (V.ref ra),v1,v2,v3]∧SameBut p H H'∧H' p=some (.ins Z2 dx (flds d))∧Vo K H' d (rs.take i)∧Ij (Gw (rs.take i)) (rs.drop i)=none) ⟨none,none,none,rfl,sb0,hp0,⟨[],hd0,rfl,fun j t e=>by simp at e⟩,by rw [Rz,RB];exact hstk⟩ (fun i σ H' _ h_=>by obtain ⟨v1,v2,v3,_,sb,_⟩:=h_;exact SqL.but sb hp hrs) ?_ ?_
   · rintro i x σ H' hx ⟨v1,v2,v3,rfl,sb,hp',⟨kvs,hd',hk,hm⟩,hst⟩
     rw [Fg]at hx
     cases ht:rs[i]? with
     | none=>rw [ht]at hx;cases hx
     | some t=>
      rw [ht]at hx;simp only [Hv,Option.some.injEq]at hx;subst hx;have hi:i < rs.length:=(Fe.mp ht).1;have r1:=SqT.but sb hp (hall t (Fk ht));rw [S7 ht]at hst
      have hkl:kvs.length=i:=by
       have:=congrArg List.length hk;simp [Gw]at this;omega
      cases hrow:S6 (Gw (rs.take i)) t.2.1 t.2.2.1 t.2.2.2 with
      | some e=>rw [hrow]at hst;cases hst
      | none=>
       rw [hrow]at hst;obtain ⟨z,c,q',e1,e2,e3,nz,hb,_⟩:=Ov hrow;walk_at "go";refine ⟨_,r1,rfl,?_⟩;walk_at "go";refine ⟨Z2,dx,flds d,hp',T.Za,T.Zk,_,Cs,d,rfl,kvs,hd',_,hk,hrow,fun H1 sm1=>?_⟩;rw [e1,e2,e3];have hp1:=sm1 _ _ hp';have hd1:=sm1 _ _ hd';walk_at "go";refine ⟨Z2,dx,flds d,hp1,T.Za,T.Zk,_,Cs,?_⟩;walk_at "go";refine ⟨kvs,hd1,by omega,fun t2 ht2=>?_⟩;have np2:p≠t2:=A2 hp1 ht2;have nd2:d≠t2:=A2 hd1 ht2
       have hd2:upd H1 t2 (.tup [.int kvs.length,.int c,.int q']) d=some (.dK kvs):=by rw [A3 nd2];exact hd1
       refine ⟨Z2,dx,flds d,by rw [A3 np2];exact hp1,T.Za,T.Zk,_,Cs,d,rfl,_,Ea.k (k:=Sum.inr z) hd2 (by omega),?_,?_,?_,?_⟩
       · intro b o eb nb
         have h1:=sm1 _ _ (sb b o eb nb);rw [A3 (A2 eb hd),A3 (A2 h1 ht2)];exact h1
       · rw [A3 npd,A3 np2];exact hp1
       · rw [Hy,ht]
         refine Vo.snoc hd2 hk (fun j t' e=>?_) e1 e2 e3 nz A5;obtain ⟨a,q1,q2⟩:=hm j t' e;exact ⟨a,q1,(sm1.trans (A9.new ht2)).tup q2⟩
       · rw [Hy,ht]
         have e:Gw (rs.take kvs.length++(some t).toList)=Gw (rs.take kvs.length)++[sOf t.2.1]:=by unfold Gw;simp
         rw [e];exact hst
   · rintro σ H' ⟨v1,v2,v3,rfl,sb,hp',⟨kvs,hd',hk,hm⟩,hst⟩
     simp only [Fa,FV,List.drop_length]at hk hm hst;show Q V.non H';refine q _ sb ⟨⟨dx,d,kvs,hp',hd',?_,fun i t ht=>?_⟩,fun dx2 d2 fs2 e1 e2=>?_⟩
     · rw [hk];unfold Gw;rw [FM,FM];rfl
     · rw [Fg]at ht
       cases hr:rs[i]? with
       | none=>rw [hr]at ht;cases ht
       | some t'=>
        rw [hr]at ht;simp only [Hv,Option.some.injEq]at ht;subst ht;exact hm i t' hr
     · rw [hp']at e1
       cases e1;rw [Cs]at e2;cases e2;exact hd
variable (Z0h:Qs P w K mg base CX0 4 "Stock" Z2 ["self","rows"] (Gp K Z2))
include T in
theorem Z62(F:Fun K "names" "Stock.names" Z2y f fd):Au P w K mg base CX0 1 f fd ["self"] (Pr K Z2):=by
 have sc:Ab ["self"] ["self"] (A7 Z2y):=by walk_at "sc"
 walk_at "ok"
 · exact n2 h_ fun _ _=>rfl
 refine x2 h_ fun p ts e_=>y3 e_ fun e0 hs q=>?_;clear e_ h_;subst e0;refine ⟨_,(@A6 _ _ _ (@Ae _ _ _ _ (B0 (Tv rfl) rfl T.Z2u (by first | rfl | decide+kernel) (A0 (Af (pv 0) rfl) A4)))),?_⟩;walk_at "su";obtain ⟨dx,d,kvs,h1,h2,h3,h4,h5⟩:=Aw.has hs;walk_at "go";refine ⟨Z2,dx,flds d,h1,T.Za,T.Zk,_,Cs,?_⟩;walk_at "go";refine ⟨_,h2,fun l hl=>?_⟩;rw [h3];have:=q l hl;rw [FM]at this;exact this
variable (Zi:Cd P w K mg base CX0 1 Z2 "names" ["self"] (Pr K Z2))
include T Zd in
theorem Z56(F:Fun K "check_places" "check_places" Z28 f fd):Au P w K mg base CX0 3 f fd ["places"] (Gb):=by
 have sc:Ab ["places"] ["places"] (A7 Z28):=by walk_at "sc"
 walk_at "ok"
 · exact n1 h_ fun _=>rfl
 refine x1 h_ fun n e_=>y4 e_ fun e0 h1 h2 q=>?_;clear e_ h_;subst e0
 refine ⟨_,(@A6 _ _ _ (Az (G3 (Eg (Ag Zd hr rfl Ad (A0 (pv 0) (A0 Aa (A0 (Iy rfl T.Z2w) A4))))))
  (@A6 _ _ _ Bm)
  Ah)),?_⟩
 walk_at "su";walk_at "go";refine ⟨rfl,?_⟩;rw [Nq h1 h2];walk_at "go";exact q
variable (Z10:Def P w K mg base CX0 3 "check_places" ["places"] (Gb))
include T in
theorem Z4o(F:Fun K "thing_of" "Stock.thing_of" Z1s f fd):Au P w K mg base CX0 1 f fd ["self","name"] (K5 K Z2):=by
 have sc:Ab ["self","name"] ["self","name"] (A7 Z1s):=by walk_at "sc"
 walk_at "ok"
 · exact n3 h_ fun _ _ _=>rfl
 refine x3 h_ fun p ts z e_=>y5 e_ fun e0 hs nd hz q=>?_;clear e_ h_;subst e0
 refine ⟨_,(@A1 _ _ _ _ _ (Az (Ia (Wv (Ao hr) (pv 1) (Af (pv 0) rfl)))
  (@A6 _ _ _ Bm)
  Ah)
  (@A6 _ _ _ (@Ae _ _ _ _ (An (Ao hr) (Af (pv 0) rfl) (pv 1) (fun _ _=>rfl))))),?_⟩
 walk_at "su";obtain ⟨dx,d,kvs,h1,h2,h3,h4,h5⟩:=Aw.has hs;have line:=Dz;walk_at "go";refine ⟨Z2,dx,flds d,h1,T.Za,T.Zk,_,Cs,d,rfl,_,Br.k (k:=Sum.inr z) h2,?_⟩;rw [h4,FI hz];obtain ⟨i,t,ht,rfl⟩:=J36 hz;obtain ⟨a,e1,e2⟩:=h5 nd i t ht;walk_at "go";refine ⟨Z2,dx,flds d,h1,T.Za,T.Zk,_,Cs,?_⟩;walk_at "go";refine ⟨V.ref a,by rw [← e1];exact Br.k (k:=Sum.inr t.1) h2,?_⟩;exact q i t ht rfl a e2
variable (Zb:Cd P w K mg base CX0 1 Z2 "thing_of" ["self","name"] (K5 K Z2))
include T Zb in
theorem Z4l(F:Fun K "number_of" "Stock.number_of" Z1c f fd):Au P w K mg base CX0 2 f fd ["self","name"] (Dh 0 K Z2):=by
 have sc:Ab ["self","name"] ["self","name"] (A7 Z1c):=by walk_at "sc"
 walk_at "ok"
 · exact n3 h_ fun _ _ _=>rfl
 refine x3 h_ fun p ts z e_=>y5 e_ fun e0 hs nd hz q=>?_;clear e_ h_;subst e0;refine ⟨_,(@A6 _ _ _ (@Ae _ _ _ _ (@Bz _ _ _ _ _ _ _ Lq (Ak Zb T.Za hr (Ax Ad) (pv 0) (A0 (pv 1) A4)) Aa (fun _ _=>rfl)))),?_⟩;walk_at "su";obtain ⟨dx,d,kvs,h1,h2,h3,h4,h5⟩:=Aw.has hs;walk_at "go";refine ⟨dx,flds d,h1,by rfl,?_⟩;walk_at "go";refine ⟨ts,hs,nd,hz,fun i t ht e a ha=>?_⟩;refine Kq ha rfl ?_;exact q i t ht e
variable (Z7:Cd P w K mg base CX0 2 Z2 "number_of" ["self","name"] (Dh 0 K Z2))
include T Zb in
theorem Z4w(F:Fun K "cost_of" "Stock.cost_of" Z1v f fd):Au P w K mg base CX0 2 f fd ["self","name"] (Dh 1 K Z2):=by
 have sc:Ab ["self","name"] ["self","name"] (A7 Z1v):=by walk_at "sc"
 walk_at "ok"
 · exact n3 h_ fun _ _ _=>rfl
 refine x3 h_ fun p ts z e_=>y5 e_ fun e0 hs nd hz q=>?_;clear e_ h_;subst e0;refine ⟨_,(@A6 _ _ _ (@Ae _ _ _ _ (@Bz _ _ _ _ _ _ _ Lq (Ak Zb T.Za hr (Ax Ad) (pv 0) (A0 (pv 1) A4)) Aa (fun _ _=>rfl)))),?_⟩;walk_at "su";obtain ⟨dx,d,kvs,h1,h2,h3,h4,h5⟩:=Aw.has hs;walk_at "go";refine ⟨dx,flds d,h1,by rfl,?_⟩;walk_at "go";refine ⟨ts,hs,nd,hz,fun i t ht e a ha=>?_⟩;refine Kq ha rfl ?_;exact q i t ht e
variable (Ze:Cd P w K mg base CX0 2 Z2 "cost_of" ["self","name"] (Dh 1 K Z2))
include T Zb in
theorem Z4x(F:Fun K "room_of" "Stock.room_of" Z1w f fd):Au P w K mg base CX0 2 f fd ["self","name"] (Dh 2 K Z2):=by
 have sc:Ab ["self","name"] ["self","name"] (A7 Z1w):=by walk_at "sc"
 walk_at "ok"
 · exact n3 h_ fun _ _ _=>rfl
 refine x3 h_ fun p ts z e_=>y5 e_ fun e0 hs nd hz q=>?_;clear e_ h_;subst e0;refine ⟨_,(@A6 _ _ _ (@Ae _ _ _ _ (@Bz _ _ _ _ _ _ _ Lq (Ak Zb T.Za hr (Ax Ad) (pv 0) (A0 (pv 1) A4)) Aa (fun _ _=>rfl)))),?_⟩;walk_at "su";obtain ⟨dx,d,kvs,h1,h2,h3,h4,h5⟩:=Aw.has hs;walk_at "go";refine ⟨dx,flds d,h1,by rfl,?_⟩;walk_at "go";refine ⟨ts,hs,nd,hz,fun i t ht e a ha=>?_⟩;refine Kq ha rfl ?_;exact q i t ht e
variable (Zv:Cd P w K mg base CX0 2 Z2 "room_of" ["self","name"] (Dh 2 K Z2))
include T Z10 in
theorem Z63(F:Fun K "check_sizes" "check_sizes" Z2z f fd):Au P w K mg base CX0 4 f fd ["sizes"] (Gg K):=by
 have sc:Ab ["sizes","size"] ["sizes"] (A7 Z2z):=by walk_at "sc"
 walk_at "ok"
 · exact n2 h_ fun _ _=>rfl
 refine x2 h_ fun a zs e_=>y6 e_ fun e0 hS h1 h6 hz q=>?_;clear e_ h_;subst e0
 refine ⟨_,(@A1 _ _ _ _ _ (Az (PW.pt (U6 (Aj Nb (Aq Ar rfl T.Zf Fy (A0 (pv 0) A4)) Aa (nomark _)) (T2 (Aj Kx (Aq Ar rfl T.Zf Fy (A0 (pv 0) A4)) (Iy rfl T.Z26) (nomark _)))))
  (@A6 _ _ _ Bm)
  Ah)
  (@A6 _ _ _ (D8 PassesOwn.never rfl (C9 (pv 0)) (Bj (i:=1) sc.nd rfl (Or.inl rfl))
   (@A6 _ _ _ (Ai (Ag Z10 hr rfl Ad (A0 (pv 1) A4))))))),?_⟩
 walk_at "st";walk_at "go";rw [Fa,if_neg (by omega)];refine ⟨_,.inl hS,?_⟩;rw [Fa,if_neg (by omega)];walk_at "go";refine ⟨⟨_,hS⟩,?_⟩;refine En (xs:=zs.map V.int) (fun i σ H'=>∃(v1:Option V),σ=[some (V.ref a),v1]∧H'=H) ⟨none,rfl,rfl⟩ (fun i σ H' _ h_=>by obtain ⟨v1,_,rfl⟩:=h_;exact hS) ?_ ?_
 · rintro i v σ H' hv ⟨v1,rfl,rfl⟩
   obtain ⟨n,hn,rfl⟩:=Fv.mp (Fk hv);have h:=hz n hn;walk_at "go";exact h.2
 · rintro σ H' ⟨v1,rfl,rfl⟩
   exact q
variable (Z04:Def P w K mg base CX0 4 "check_sizes" ["sizes"] (Gg K))
include T Zv in
theorem Z64(F:Fun K "check_rooms" "check_rooms" Z30 f fd):Au P w K mg base CX0 4 f fd ["stock","asks"] (Gh K Z2):=by
 have sc:Ab ["stock","asks","name"] ["stock","asks"] (A7 Z30):=by walk_at "sc"
 walk_at "ok"
 · exact n4 h_ fun _ _ _ _=>rfl
 refine x4 h_ fun p a ts ys e_=>y8 e_ fun e0 hs nd hS hy hr1 hl q=>?_;clear e_ h_;subst e0
 refine ⟨_,(@A6 _ _ _ (D8 PassesOwn.never rfl (C9 (pv 1)) (Bj (i:=2) sc.nd rfl (Or.inl rfl))
  (@A6 _ _ _ (Az (Aj Na (Ak Zv T.Za hr (Ax Ad) (pv 0) (A0 (pv 2) A4)) Aa (nomark _))
   (@A6 _ _ _ Bm)
   Ah)))),?_⟩
 walk_at "st";obtain ⟨dy,e,kvs,h1,h2,h3,h4,h5⟩:=Aw.has hs;walk_at "go";refine ⟨⟨_,hS⟩,?_⟩;refine En (xs:=ys.map V.str) (fun i σ H'=>∃(v1:Option V),σ=[some (V.ref p),some (V.ref a),v1]∧H'=H) ⟨none,rfl,rfl⟩ (fun i σ H' _ h_=>by obtain ⟨v1,_,rfl⟩:=h_;exact hS) ?_ ?_
 · rintro i v σ H' hv ⟨v1,rfl,rfl⟩
   obtain ⟨y,hyy,rfl⟩:=Fv.mp (Fk hv);walk_at "go";refine ⟨dy,flds e,h1,by rfl,ts,hs,nd,hy y hyy,fun j t' ht' e'=>?_⟩;have hp2:pick 2 j t'=1:=hr1 t' (Fk ht');rw [hp2];clear e' ht';walk_at "go"
 · rintro σ H' ⟨v1,rfl,rfl⟩
   exact q
variable (Z05:Def P w K mg base CX0 4 "check_rooms" ["stock","asks"] (Gh K Z2))
include T in
theorem Z65(F:Fun K "write" "Tower.write" Z31 f fd):Au P w K mg base CX0 2 f fd ["self","name"] (Dr Z1):=by
 have sc:Ab ["self","name"] ["self","name"] (A7 Z31):=by walk_at "sc"
 walk_at "ok"
 · exact n7 h_ fun _ _ _ _ _ _ _=>rfl
 refine x7 h_ fun t x s g z B hd e_=>y6 e_ fun e0 hT hL hB hz q=>?_;clear e_ h_;subst e0
 refine ⟨_,(@A1 _ _ _ _ _ (Bt (Ao hr) (Af (pv 0) rfl) (pv 1) (An (Ao hr) (Af (pv 0) rfl) (pv 1) (fun _ _=>rfl)) rfl)
  (@A6 _ _ _ (Ai (D3 Fx FY FX Dg (Af (pv 0) rfl) (A0 (G6 (A0 A8 (A0 (pv 1) (A0 (An (Ao hr) (Af (pv 0) rfl) (pv 1) (fun _ _=>rfl)) A4)))) A4))))),?_⟩
 walk_at "st";obtain ⟨dx,fs,ho,hf⟩:=hT.o;have hi:=hL.h z hz;have n3:=hL.n3;have n4:=hL.n4;walk_at "go";refine ⟨Z1,dx,fs,ho,T.Z4,T.Zu,_,hf.he,x.he,rfl,.int (g.h z),by rw [← hi];exact Br.k (k:=Sum.inr z) hT.he,Z1,dx,fs,ho,T.Z4,T.Z0r,_,hf.so,x.so,rfl,_,Ea.k (k:=Sum.inr z) hT.so (by omega),?_⟩;have hT1:=hT.store (B1 s.ks (Sum.inr z) (.int (g.h z)));have o1:Off (own t x) H (upd H x.so (.dK (B1 s.ks (Sum.inr z) (.int (g.h z))))):=Off.put (by simp [own]);generalize upd H x.so (.dK (B1 s.ks (Sum.inr z) (.int (g.h z))))=H1 at hT1 o1 ⊢;obtain ⟨dx1,fs1,ho1,hf1⟩:=hT1.o;walk_at "go";refine ⟨Z1,dx1,fs1,ho1,T.Z4,T.Z0k,_,hf1.en,.inl ⟨rfl,_,SqL.of hT1.en⟩,Z1,dx1,fs1,ho1,T.Z4,T.Zu,_,hf1.he,x.he,rfl,.int (g.h z),by rw [← hi];exact Br.k (k:=Sum.inr z) hT1.he,by omega,fun u hu=>?_⟩;have sm2:A9 H1 (upd H1 u (.tup (wrT z (g.h z)))):=A9.new hu;have hT2:=hT1.same sm2;have hu2:upd H1 u (.tup (wrT z (g.h z))) u=some (.tup (wrT z (g.h z))):=A5
 have nue:u≠x.en:=(A2 hT1.en hu).symm;have o2:Off (own t x) H (upd H1 u (.tup (wrT z (g.h z)))):=o1.trans (.of sm2);show Ph _ _ (upd H1 u (.tup (wrT z (g.h z)))) _;generalize upd H1 u (.tup (wrT z (g.h z)))=H2 at hT2 o2 hu2 ⊢;refine ⟨x.en,_,_,rfl,rfl,hT2.en,by show s.es.length < _;omega,?_⟩;walk_at "go";have oF:=o2.trans (Off.put (H:=H2) (b:=x.en) (o:= .lst (s.es++[.ref u])) (by simp [own]));exact q {s with ks:=B1 s.ks (Sum.inr z) (.int (g.h z)),es:=s.es++[.ref u]} _ oF (hT2.entry (s.es++[.ref u])) rfl rfl rfl rfl rfl (hL.wrote hz (Mh hT oF) (by rw [A3 nue];exact hu2) (by omega))
variable (Z06:Cd P w K mg base CX0 2 Z1 "write" ["self","name"] (Dr Z1))
include T in
theorem Z57(F:Fun K "settle" "Tower.settle" Z29 f fd):Au P w K mg base CX0 1 f fd ["self","name"] (Di Z1 false):=by
 have sc:Ab ["self","name"] ["self","name"] (A7 Z29):=by walk_at "sc"
 walk_at "ok"
 · exact n7 h_ fun _ _ _ _ _ _ _=>rfl
 refine x7 h_ fun t x s g z B hd e_=>y6 e_ fun e0 hT hL hB hz q=>?_;clear e_ h_;subst e0;refine ⟨_,(@A6 _ _ _ (Bt (Ao hr) (Af (pv 0) rfl) (pv 1) Gz rfl)),?_⟩;walk_at "st";obtain ⟨dx,fs,ho,hf⟩:=hT.o;walk_at "go";have h2:=hL.n2;refine ⟨Z1,dx,fs,ho,T.Z4,T.Z02,_,hf.la,x.la,rfl,_,Ea.k (k:=Sum.inr z) hT.la (by omega),?_⟩;have o:Off (own t x) H (upd H x.la (.dK (B1 s.kl (Sum.inr z) (.bl true)))):=Off.put (by simp [own]);exact q _ _ o (hT.late (B1 s.kl (Sum.inr z) (.bl true))) rfl rfl rfl rfl ((hL.lateOn hz (by omega)).off hT o)
variable (Z11:Cd P w K mg base CX0 1 Z1 "settle" ["self","name"] (Di Z1 false))
include T Z06 in
theorem Z4p(F:Fun K "fall_off" "Tower.fall_off" Z1t f fd):Au P w K mg base CX0 3 f fd ["self","name"] (Ed Z1):=by
 have sc:Ab ["self","name"] ["self","name"] (A7 Z1t):=by walk_at "sc"
 walk_at "ok"
 · exact n7 h_ fun _ _ _ _ _ _ _=>rfl
 refine x7 h_ fun t x s g z B hd e_=>y6 e_ fun e0 hT hL hB hz q=>?_;clear e_ h_;subst e0
 refine ⟨_,(@A1 _ _ _ _ _ (Az (Ia (Ls (Ao hr) (pv 1) (Af (pv 0) rfl)))
  (@A1 _ _ _ _ _ (Ai (Eu (Af (pv 0) rfl) (pv 1) ⟨rfl,rfl,rfl,rfl⟩))
  (@A6 _ _ _ (Ai (Ak Z06 T.Z4 hr (Ax Ad) (pv 0) (A0 (pv 1) A4)))))
  Ah)
  (@A6 _ _ _ (Ai (Eu (Af (pv 0) rfl) (pv 1) ⟨rfl,rfl,rfl,rfl⟩)))),?_⟩
 walk_at "st";obtain ⟨dx,fs,ho,hf⟩:=hT.o;walk_at "go";refine ⟨Z1,dx,fs,ho,T.Z4,T.Z02,_,hf.la,x.la,rfl,_,Br.k (k:=Sum.inr z) hT.la,?_⟩;rename_i rest hrest
 have key:∀(s1:TwS) (H1:Hp),Off (own t x) H H1→Bh Z1 H1 t x s1→s1.R=s.R→s1.zs=s.zs→s1.ff=s.ff→s1.pd=s.pd→TwG H1 s1 (Ci z g) (B+1) hd→(Ci z g).l z=false→rest [some (V.ref t),some (V.str z)] H1:=by
  intro s1 H1 o1 hT1 e1 e2 e3 e4 hL1 hz1;obtain ⟨dx1,fs1,ho1,hf1⟩:=hT1.o;have hi1:=hL1.h z hz;subst hrest;walk_at "go";refine ⟨Z1,dx1,fs1,ho1,T.Z4,T.Zu,_,hf1.he,x.he,rfl,.inl ⟨_,.inl hT1.he⟩,_,hT1.he,Sum.inr z,rfl,_,hi1,?_⟩;have oP:Off (own t x) H1 (upd H1 x.he (.dK (B9 s1.kh (Sum.inr z)))):=Off.put (by simp [own]);exact q _ _ (o1.trans oP) (hT1.held (B9 s1.kh (Sum.inr z))) e1 e2 e3 e4 ((hL1.popped hz1).off hT1 oP)
 clear hrest;rw [hL.l z]
 by_cases hin:g.l z=true
 · rw [if_pos hin]
   have hsome:(Ay s.kl (Sum.inr z)).isSome=true:=by rw [hL.l z];exact hin
   obtain ⟨vl,hvl⟩:=Hl.mp hsome;walk_at "go";refine ⟨Z1,dx,fs,ho,T.Z4,T.Z02,_,hf.la,x.la,rfl,.inl ⟨_,.inl hT.la⟩,_,hT.la,Sum.inr z,rfl,_,hvl,?_⟩;have hT1:=hT.late (B9 s.kl (Sum.inr z));have o1:Off (own t x) H (upd H x.la (.dK (B9 s.kl (Sum.inr z)))):=Off.put (by simp [own]);have hL1:=(hL.lateOff (z:=z)).off hT o1;generalize upd H x.la (.dK (B9 s.kl (Sum.inr z)))=H1 at hT1 o1 hL1 ⊢;obtain ⟨dx1,fs1,ho1,hf1⟩:=hT1.o
   have eG:Ci z g=(g.late z false).write z:=by unfold Ci;rw [if_pos hin]
   walk_at "go";refine ⟨dx1,fs1,ho1,hf1.m _ (by simp),x,_,hT1,_,B,hd,hL1,hB,hz,fun s2 H2 o2 hT2 e1 e2 e3 e4 _ hL2=>?_⟩;exact key s2 H2 (o1.trans o2) hT2 e1 e2 e3 e4 (by rw [eG];exact hL2) (by rw [eG];exact Ba)
 · rw [if_neg hin]
   have eG:Ci z g=g:=by unfold Ci;rw [if_neg hin]
   exact key s H (fun b o e _=>e) hT rfl rfl rfl rfl (by rw [eG];exact hL.iff (fun _=>Iff.rfl) (by omega) (by omega)) (by rw [eG];simpa using hin)
variable (Z0p:Cd P w K mg base CX0 3 Z1 "fall_off" ["self","name"] (Ed Z1))
include T Z0p in
theorem Z6x(F:Fun K "come" "Tower.come" Z3l f fd):Au P w K mg base CX0 4 f fd ["self","name"] (Ee Z1):=by
 have sc:Ab ["self","name"] ["self","name"] (A7 Z3l):=by walk_at "sc"
 walk_at "ok"
 · exact n6 h_ fun _ _ _ _ _ _=>rfl
 refine x6 h_ fun t x s g z B e_=>y9 e_ fun e0 hT hL hB nd hRl hRs hS1 q=>?_;clear e_ h_;subst e0
 refine ⟨_,(@A1 _ _ _ _ _ (Az (Aj Ck (pv 1) (Af (pv 0) rfl) (by with_unfolding_all rfl))
  (@A6 _ _ _ (Ai (D3 Fx Rj Rh Lw (Af (pv 0) rfl) (A0 (pv 1) A4))))
  Ah)
  (@A1 _ _ _ _ _ (Ai (D3 Fx Rk Ri M0 (Af (pv 0) rfl) (A0 Aa (A0 (pv 1) A4))))
  (@A6 _ _ _ (Az (Aj Kx (Aq Ar rfl T.Zf Fy (A0 (Af (pv 0) rfl) A4)) (Aq (M4 rfl) rfl T.Z55 (by first | rfl | decide+kernel) (A0 (Af (pv 0) rfl) A4)) (nomark _))
   (@A6 _ _ _ (Ai (Ak Z0p T.Z4 hr (Ax Ad) (pv 0) (A0 (Ti Fx Rt Rr Tl (Af (pv 0) rfl)) A4))))
   Ah)))),?_⟩
 walk_at "st";obtain ⟨dx,fs,ho,hf⟩:=hT.o;walk_at "go";refine ⟨Z1,dx,fs,ho,T.Z4,T.Zt,_,hf.ro,Nr (SqL.of hT.ro) ⟨_,rfl,?_⟩⟩;rename_i rest hrest
 have key:∀H1:Hp,Off (own t x) H H1→Bh Z1 H1 t x {s with R:=s.R.erase z}→rest [some (V.ref t),some (V.str z)] H1:=by
  intro H1 o1 hT1;obtain ⟨dx1,fs1,ho1,hf1⟩:=hT1.o;have hel:(s.R.erase z).length≤s.R.length:=R5;subst hrest;walk_at "go";refine ⟨Z1,dx1,fs1,ho1,T.Z4,T.Zt,_,hf1.ro,.inl ⟨rfl,_,SqL.of hT1.ro⟩,x.ro,rfl,_,hT1.ro,by rw [Fa];show (s.R.erase z).length < _;omega,?_⟩;have hT2:Bh Z1 (upd H1 x.ro (.lst (V.str z::List.map V.str {s with R:=s.R.erase z}.R))) t x {s with R:=z::s.R.erase z}:=hT1.row (z::s.R.erase z);have o2:Off (own t x) H (upd H1 x.ro (.lst (V.str z::List.map V.str {s with R:=s.R.erase z}.R))):=o1.trans (Off.put (by simp [own]));generalize upd H1 x.ro (.lst (V.str z::List.map V.str {s with R:=s.R.erase z}.R))=H2 at hT2 o2 ⊢;obtain ⟨dx2,fs2,ho2,hf2⟩:=hT2.o;walk_at "go";refine ⟨Z1,dx2,fs2,ho2,T.Z4,T.Zt,_,hf2.ro,x.ro,rfl,_,.inl (SqL.of hT2.ro),Z1,dx2,fs2,ho2,T.Z4,T.Zy,_,hf2.si,x.si,rfl,_,SqL.of hT2.si,?_⟩;rw [Fa];have hl1:(z::s.R.erase z).length=(s.R.erase z).length+1:=rfl
  have ndc:=Mx (z:=z) nd
  by_cases hov:s.zs.sum < ((z::s.R.erase z).length:Int)
  · rw [if_pos hov]
    obtain ⟨y,hy,edl,hyin,hiff⟩:=M5 (S:=s.zs.sum.toNat) ndc (by omega)
    have eG:Bk s.zs.sum s.R z g=Ci y g:=by unfold Bk Vz;rw [if_pos hov,hy];rfl
    refine ⟨dx2,fs2,ho2,hf2.m _ (by simp),Z1,dx2,fs2,ho2,T.Z4,T.Zt,_,hf2.ro,.inl ⟨rfl,_,SqL.of hT2.ro⟩,x.ro,rfl,_,hT2.ro,V.str y,by rw [Fa,Fg,hy];rfl,?_⟩
    have hT3:Bh Z1 (upd H2 x.ro (.lst ((z::s.R.erase z).map V.str).dropLast)) t x {s with R:=(z::s.R.erase z).dropLast}:=by
     rw [← RS];exact hT2.row ((z::s.R.erase z).dropLast)
    have o3:Off (own t x) H (upd H2 x.ro (.lst ((z::s.R.erase z).map V.str).dropLast)):=o2.trans (Off.put (by simp [own]));have hL3:=hL.off hT o3;walk_at "go";refine ⟨x,_,hT3,g,B,_,hL3.cast rfl rfl rfl rfl,hB,D5.mp hyin,fun s' H' o hT' e1 e2 e3 e4 hL'=>?_⟩;have e1':s'.R=(z::s.R.erase z).dropLast:=e1;exact q s' H' (o3.trans o) hT' (by rw [e1',edl]) e2 e3 e4 (by rw [eG];exact hL'.iff (fun u=>by rw [e1',hiff u,D5]) (Ff _) (by omega))
  · rw [if_neg hov]
    have eG:Bk s.zs.sum s.R z g=g:=by unfold Bk;rw [if_neg hov]
    exact q _ H2 o2 hT2 (by rw [FS (by omega)]) rfl rfl rfl (by rw [eG];exact ((hL.off hT o2).iff (fun u=>(D5 (R:=s.R) (z:=z) (u:=u)).symm) (by omega) (by omega)).cast rfl rfl rfl rfl)
 clear hrest
 by_cases hin:z∈s.R
 · rw [if_pos (by simpa using hin)]
   refine ⟨Z1,dx,fs,ho,T.Z4,T.Zt,_,hf.ro,.inl ⟨rfl,_,SqL.of hT.ro⟩,x.ro,rfl,s.R,hT.ro,hin,?_⟩;exact key _ (Off.put (by simp [own])) (hT.row (s.R.erase z))
 · rw [if_neg (by simpa using hin)]
   have:=key H (fun b o e _=>e) (by rw [Rx hin];exact hT);exact this
variable (Zm:Cd P w K mg base CX0 4 Z1 "come" ["self","name"] (Ee Z1))
include T in
theorem Z58(F:Fun K "levels" "Tower.levels" Z2a f fd):Au P w K mg base CX0 1 f fd ["self"] (Ct Z1):=by
 have sc:Ab ["self","told","start","size"] ["self"] (A7 Z2a):=by walk_at "sc"
 walk_at "ok"
 · exact n3 h_ fun _ _ _=>rfl
 refine x3 h_ fun t x s e_=>y5 e_ fun e0 hT hzl hz q=>?_;clear e_ h_;subst e0
 refine ⟨_,(@A1 _ _ _ _ _ (As (i:=1) sc.nd rfl (Or.inl rfl) (@Bv _ _ _ _ A4))
  (@A1 _ _ _ _ _ (As (i:=2) sc.nd rfl (Or.inl rfl) Aa)
  (@A1 _ _ _ _ _ (D8 PassesOwn.never rfl (C9 (Af (pv 0) rfl)) (Bj (i:=3) sc.nd rfl (Or.inl rfl))
   (@A1 _ _ _ _ _ (Ai (D3 Fx FY FX Dg (pv 1) (A0 (Ic L0 (Af (pv 0) rfl) (E9 (pv 2)) (E9 (Al Cm (pv 2) (pv 3)))) A4)))
   (@A6 _ _ _ (Xp (i:=2) sc.nd rfl (Or.inl rfl) (pv 3) Lj))))
  (@A6 _ _ _ (@Ae _ _ _ _ (pv 1)))))),?_⟩
 walk_at "st";obtain ⟨dx,fs,ho,hf⟩:=hT.o;walk_at "go";intro p hp;walk_at "go";have sm0:A9 H (upd H p (.lst [])):=A9.new hp;have hp0:upd H p (.lst []) p=some (.lst []):=A5;generalize upd H p (.lst [])=H0 at sm0 hp0 ⊢;refine ⟨Z1,dx,fs,sm0 _ _ ho,T.Z4,T.Zy,_,hf.si,x.si,rfl,⟨_,SqL.of (sm0 _ _ hT.si)⟩,?_⟩;rename_i rest hrest
 refine En (xs:=s.zs.map V.int) (fun i σ H'=>∃(as:List Addr) (v3:Option V),σ=[some (V.ref t),some (V.ref p),some (V.int (pre s.zs i)),v3]∧A9 H H'∧H' p=some (.lst (as.map V.ref))∧X6 H' as s.zs s.R i∧(∀a∈as,H a=none)∧as.Nodup∧p∉as)
  ⟨[],none,rfl,sm0,hp0,⟨rfl,fun i a e=>by simp at e⟩,(fun a ha=>by cases ha),Hh,(fun h=>by cases h)⟩ (fun i σ H' _ h_=>by obtain ⟨as,v3,_,sm,_⟩:=h_;exact SqL.of (sm _ _ hT.si)) ?_ ?_
 · rintro i v σ H' hv ⟨as,v3,rfl,sm,hp',hA,hn,nd,hpn⟩
   have hi:i < s.zs.length:=by
    have:=(Fe.mp hv).1;rw [Fa]at this;exact this
   have hgi:s.zs[i]?=some (s.zs.getD i 0):=Ei hi;rw [Fg,hgi]at hv;cases hv;have hz1:=hz _ (Fk hgi);have hpn0:=Im (fun z h=>(hz z h).1) i;rw [Sn hi];have hal:as.length≤i:=Hm hA.1;walk_at "go";refine ⟨.inl ⟨rfl,_,SqL.of hp'⟩,Z1,dx,fs,sm _ _ ho,T.Z4,T.Zt,_,hf.ro,x.ro,rfl,_,SqL.of (sm _ _ hT.ro),fun l hl=>?_⟩;rw [Pu hz hi];have npl:p≠l:=A2 hp' hl;have sm2:A9 H' (upd H' l (.lst ((lvl s.zs s.R i).map V.str))):=A9.new hl
   have hlH:H l=none:=by
    cases e:H l with
    | none=>rfl
    | some o=>rw [sm _ _ e]at hl;cases hl
   refine ⟨p,_,_,rfl,rfl,sm2 _ _ hp',by rw [Fa];omega,?_⟩
   have hla:l∉as:=fun h=>by
    obtain ⟨j,hj⟩:=FE.mp h;rw [hA.2 j l hj]at hl;cases hl
   have sm3:A9 H (upd (upd H' l (.lst ((lvl s.zs s.R i).map V.str))) p (.lst (as.map V.ref++[V.ref l]))):=fun b o e=>by rw [A3 (A2 e hp)];exact (sm.trans sm2) _ _ e
   have hp3:upd (upd H' l (.lst ((lvl s.zs s.R i).map V.str))) p (.lst (as.map V.ref++[V.ref l])) p=some (.lst ((as++[l]).map V.ref)):=by rw [A5,FC];rfl
   have hA3:X6 (upd (upd H' l (.lst ((lvl s.zs s.R i).map V.str))) p (.lst (as.map V.ref++[V.ref l]))) (as++[l]) s.zs s.R (i+1):=by
    refine ⟨by rw [Fj,hA.1];rfl,fun j a e=>?_⟩
    by_cases hj:j < as.length
    · rw [Fw hj]at e
      have h1:=hA.2 j a e;rw [A3 (fun z=>hpn (by rw [← z];exact Fk e))];exact sm2 _ _ h1
    · rw [FB (by omega)]at e
      have hj0:j=i:=by
       have h1:=(Fe.mp e).1;have h2:=hA.1;simp at h1;omega
      rw [show j - as.length=0 by have:=hA.1;omega]at e;cases e;rw [A3 npl.symm,A5,hj0]
   generalize upd (upd H' l (.lst ((lvl s.zs s.R i).map V.str))) p (.lst (as.map V.ref++[V.ref l]))=H3 at sm3 hp3 hA3 ⊢;walk_at "go";refine ⟨as++[l],hp3,hA3,fun a ha=>?_,?_,fun h=>?_⟩
   · rcases Fn.mp ha with ha | ha
     · exact hn a ha
     · rw [Fc.mp ha];exact hlH
   · exact Hz.mpr ⟨nd,FO.mpr ⟨FQ,Hh⟩,fun a ha b hb e=>hla (by rw [← Fc.mp hb,← e];exact ha)⟩
   · rcases Fn.mp h with h | h
     · exact hpn h
     · exact npl (Fc.mp h)
 · rintro σ H' ⟨as,v3,rfl,sm,hp',hA,hn,nd,hpn⟩
   rw [Fa]at hA;walk_at "go";exact q p as _ hp sm hp' hA hn nd hpn
variable (Zz:Cd P w K mg base CX0 1 Z1 "levels" ["self"] (Ct Z1))
include T Z7 Zz in
theorem Z4q(F:Fun K "shelf_of" "Tower.shelf_of" Z1u f fd):Au P w K mg base CX0 4 f fd ["self","name"] (Dt K Z1 Z2):=by
 have sc:Ab ["self","name","number","names"] ["self","name"] (A7 Z1u):=by walk_at "sc"
 walk_at "ok"
 · exact n5 h_ fun _ _ _ _ _=>rfl
 refine x5 h_ fun t x s z ts e_=>y9 e_ fun e0 hT hs nd hz hzl hzz hRs q=>?_;clear e_ h_;subst e0
 refine ⟨_,(@A1 _ _ _ _ _ (Ai (Ak Z7 T.Za hr (Ax Ad) (Af (pv 0) rfl) (A0 (pv 1) A4)))
  (@A1 _ _ _ _ _ (D8 PassesOwn.never rfl (Ps rfl T.Z1f (A0 (Ey Zz T.Z4 hr (Ax Ad) (pv 0)) A4)) (N9 rfl (Cq (Bj (i:=2) sc.nd rfl (Or.inl rfl)) (Cq (Bj (i:=3) sc.nd rfl (Or.inl rfl)) Kw)))
   (@A6 _ _ _ (Az (Aj Ck (pv 1) (pv 3) (by with_unfolding_all rfl))
    (@A6 _ _ _ (@Ae _ _ _ _ (pv 2)))
    Ah)))
  (@A6 _ _ _ (@Ae _ _ _ _ (Aq Ar rfl T.Zf Fy (A0 (Af (pv 0) rfl) A4)))))),?_⟩
 walk_at "st";obtain ⟨dx,fs,ho,hf⟩:=hT.o;obtain ⟨dy,e,kvs,h1,h2,h3,h4,h5⟩:=Aw.has hs.at;walk_at "go";refine ⟨Z1,dx,fs,ho,T.Z4,T.Z0i,_,hf.st,x.st,rfl,dy,flds e,h1,by rfl,x.st,rfl,ts,hs.at,nd,hz,fun i t' ht' e'=>?_⟩;clear e' ht';walk_at "go";refine ⟨dx,fs,ho,hf.m _ (by simp),x,s,hT,hzl,hzz,fun p as H1 hp sm1 hp1 hA han nda hpn=>⟨⟨_,SqL.of hp1⟩,?_⟩⟩;rename_i rest hrest;refine Pt (xs:=as.map V.ref) (fun i σ H'=>∃(v2 v3:Option V),σ=[some (V.ref t),some (V.str z),v2,v3]∧A9 H1 H'∧∀j,j < i→z∉lvl s.zs s.R j) ⟨none,none,rfl,A9.refl _,fun j hj=>absurd hj (Nat.not_lt_zero j)⟩ (fun i σ H' _ h_=>by obtain ⟨v2,v3,_,sm,_⟩:=h_;exact SqL.of (sm _ _ hp1)) ?_ ?_
 · rintro i v σ H' u hv ⟨v2,v3,rfl,sm,hno⟩ hu
   have hi:i < as.length:=by
    have:=(Fe.mp hv).1;rw [Fa]at this;exact this
   have hai:as[i]?=some as[i]:=Fd hi;rw [Fg,hai]at hv;cases hv;have hla:=(sm.trans (A9.new (o:= .tup [.int i,.ref as[i]]) hu)) _ _ (hA.2 i _ hai);have smu:=sm.trans (A9.new (o:= .tup [.int i,.ref as[i]]) hu);walk_at "go";refine ⟨_,SqT.of A5,rfl,_,_,rfl,_,_,rfl,rfl,?_⟩;generalize upd H' u (.tup [.int i,.ref as[i]])=H2 at hla smu ⊢
   have hzl2:i < s.zs.length:=by have:=hA.1;omega
   walk_at "go";refine Nr (SqL.of hla) ⟨_,rfl,?_⟩
   by_cases hin:z∈lvl s.zs s.R i
   · rw [if_pos (by simpa using hin)]
     walk_at "go";exact q i H2 (sm1.trans smu) (by omega) ⟨fun _=>K6 hin,fun _=>hzl2⟩ (Hm (Py hzl2 hin hno)) (Hm (Py hzl2 hin hno).symm)
   · rw [if_neg (by simpa using hin)]
     walk_at "go";intro j hj
     by_cases e:j=i
     · rw [e];exact hin
     · exact hno j (by omega)
 · rintro σ H' ⟨v2,v3,rfl,sm,hno⟩
   rw [Fa,hA.1]at hno;have smA:=sm1.trans sm;walk_at "go";refine ⟨Z1,dx,fs,smA _ _ ho,T.Z4,T.Zy,_,hf.si,x.si,rfl,_,.inl (SqL.of (smA _ _ hT.si)),?_⟩;rw [Fa];refine q s.zs.length H' smA (Ff _) ⟨fun h=>absurd h (HB _),fun h=>?_⟩ (Hm (Nw hno)) (Hm (Nw hno).symm);obtain ⟨j,hj,hjz⟩:=Vw (fun z h=>(hzz z h).1) hRs h;exact absurd hjz (hno j hj)
variable (Zc:Cd P w K mg base CX0 4 Z1 "shelf_of" ["self","name"] (Dt K Z1 Z2))
include T Z7 in
theorem Z59(F:Fun K "stored" "Tower.stored" Z2b f fd):Au P w K mg base CX0 4 f fd ["self","name"] (Cu K Z1 Z2):=by
 have sc:Ab ["self","name"] ["self","name"] (A7 Z2b):=by walk_at "sc"
 walk_at "ok"
 · exact n8 h_ fun _ _ _ _ _ _ _ _=>rfl
 refine x8 h_ fun t x s g z ts B hd e_=>y7 e_ fun e0 hT hs nd hz hL q=>?_;clear e_ h_;subst e0
 refine ⟨_,(@A1 _ _ _ _ _ (Ai (Ak Z7 T.Za hr (Ax Ad) (Af (pv 0) rfl) (A0 (pv 1) A4)))
  (@A6 _ _ _ (@Ae _ _ _ _ (L4 (Ao hr) (Af (pv 0) rfl) (pv 1) Aa ⟨rfl,rfl,rfl,rfl⟩)))),?_⟩
 walk_at "st";obtain ⟨dx,fs,ho,hf⟩:=hT.o;obtain ⟨dy,e,kvs,h1,h2,h3,h4,h5⟩:=Aw.has hs.at;walk_at "go";refine ⟨Z1,dx,fs,ho,T.Z4,T.Z0i,_,hf.st,x.st,rfl,dy,flds e,h1,by rfl,x.st,rfl,ts,hs.at,nd,hz,fun i t' ht' e'=>?_⟩;clear e' ht';walk_at "go";refine ⟨Z1,dx,fs,ho,T.Z4,T.Z0r,_,hf.so,x.so,rfl,.inl ⟨_,.inl hT.so⟩,_,Br.k (k:=Sum.inr z) hT.so,?_⟩;have hst:=hL.st z
 cases hv:Ay s.ks (Sum.inr z) with
 | none=>rw [hv]at hst;rw [← hst]at q;exact q
 | some v=>rw [hv]at hst;rw [← hst]at q;exact q
variable (Z00:Cd P w K mg base CX0 4 Z1 "stored" ["self","name"] (Cu K Z1 Z2))
include T Ze Z00 in
theorem Z66(F:Fun K "fetch" "Tower.fetch" Z32 f fd):Au P w K mg base CX0 5 f fd ["self","word","name"] (Ds K Z1 Z2):=by
 have sc:Ab ["self","word","name"] ["self","word","name"] (A7 Z32):=by walk_at "sc"
 walk_at "ok"
 · exact n9 h_ fun _ _ _ _ _ _ _ _ _=>rfl
 refine x9 h_ fun t x s g w2 z ts B p e_=>y8 e_ fun e0 hT hs nd hz hL hB q=>?_;clear e_ h_;subst e0
 refine ⟨_,(@A1 _ _ _ _ _ (O9 (pv 0) (Ak Ze T.Za hr (Ax Ad) (Af (pv 0) rfl) (A0 (pv 2) A4)) Xz)
  (@A1 _ _ _ _ _ (Ai (D3 Fx FY FX Dg (Af (pv 0) rfl) (A0 (G6 (A0 (pv 1) (A0 (pv 2) A4))) A4)))
  (@A6 _ _ _ (Bt (Ao hr) (Af (pv 0) rfl) (pv 2) (Ak Z00 T.Z4 hr (Ax Ad) (pv 0) (A0 (pv 2) A4)) rfl)))),?_⟩
 walk_at "st";obtain ⟨dx,fs,ho,hf⟩:=hT.o;obtain ⟨dy,e,kvs,h1,h2,h3,h4,h5⟩:=Aw.has hs.at;walk_at "go";refine ⟨Z1,dx,fs,ho,T.Z4,T.Z0w,_,hf.pd,Z1,dx,fs,ho,T.Z4,T.Z0i,_,hf.st,x.st,rfl,dy,flds e,h1,by rfl,x.st,rfl,ts,hs.at,nd,hz,fun i t' ht' e'=>⟨_,_,rfl,rfl,dx,fs,ho,by have:=hf.n;omega,?_⟩⟩;have ec:pick 1 i t'=Bd ts z:=(M6 nd ht' e').symm;rw [ec];clear e' ec;have hT1:=hT.paid ho hf (s.pd+Bd ts z);have o1:Off (own t x) H (upd H t (.ins Z1 dx (Am (Str.ofString "paid") (.int (s.pd+Bd ts z)) fs))):=Off.put (by simp [own]);generalize upd H t (.ins Z1 dx (Am (Str.ofString "paid") (.int (s.pd+Bd ts z)) fs))=H1 at hT1 o1 ⊢;clear ht';obtain ⟨dx1,fs1,ho1,hf1⟩:=hT1.o;have n4:=hL.n4;walk_at "go";refine ⟨Z1,dx1,fs1,ho1,T.Z4,T.Z0k,_,hf1.en,.inl ⟨rfl,_,SqL.of hT1.en⟩,by omega,fun u hu=>?_⟩;have sm2:A9 H1 (upd H1 u (.tup [.str w2,.str z])):=A9.new hu;have hT2:=hT1.same sm2;have hu2:upd H1 u (.tup [.str w2,.str z]) u=some (.tup [.str w2,.str z]):=A5
 have nue:u≠x.en:=(A2 hT1.en hu).symm;have o2:Off (own t x) H (upd H1 u (.tup [.str w2,.str z])):=o1.trans (.of sm2);generalize upd H1 u (.tup [.str w2,.str z])=H2 at hT2 o2 hu2 ⊢;refine ⟨x.en,_,_,rfl,rfl,hT2.en,by show s.es.length < _;omega,?_⟩;have hT3:=hT2.entry (s.es++[.ref u]);have o3:Off (own t x) H (upd H2 x.en (.lst (s.es++[.ref u]))):=o2.trans (Off.put (by simp [own]));have hs3:=hs.off o3
 have hu3:upd H2 x.en (.lst (s.es++[.ref u])) u=some (.tup [.str w2,.str z]):=by rw [A3 nue];exact hu2
 have hst:=hL.st;walk_at "go";show _;generalize upd H2 x.en (.lst (s.es++[.ref u]))=H3 at hT3 o3 hs3 hu3 ⊢;obtain ⟨dx3,fs3,ho3,hf3⟩:=hT3.o
 have hL3:=(hL.fetched (Mh hT o3) hu3 (by omega) (pd:=s.pd+Bd ts z))
 have oF:Off (own t x) H3 (upd H3 x.he (.dK (B1 s.kh (Sum.inr z) (.int (g.st z))))):=Off.put (by simp [own]);have n1:=hL.n1;have hL2:=hL.noted (Mh hT o3) hu3 rfl (by omega) (pd:=s.pd+Bd ts z);have fin:=q {s with pd:=s.pd+Bd ts z,es:=s.es++[.ref u],kh:=B1 s.kh (Sum.inr z) (.int (g.st z))} _ (o3.trans oF) (hT3.held (B1 s.kh (Sum.inr z) (.int (g.st z)))) rfl rfl rfl rfl (hL3.off hT3 oF);exact ⟨dx3,fs3,ho3,hf3.m _ (by simp),x,_,hT3,_,ts,hs3,nd,hz,_,_,hL2,Z1,dx3,fs3,ho3,T.Z4,T.Zu,_,hf3.he,x.he,rfl,_,Ea.k (k:=Sum.inr z) hT3.he (by show s.kh.length < _;omega),fin⟩
variable (Z07:Cd P w K mg base CX0 5 Z1 "fetch" ["self","word","name"] (Ds K Z1 Z2))
include T Zc Z07 Zm in
theorem Z6y(F:Fun K "read" "Tower.read" Z3m f fd):Au P w K mg base CX0 6 f fd ["self","name"] (Du K Z1 Z2):=by
 have sc:Ab ["self","name","place"] ["self","name"] (A7 Z3m):=by walk_at "sc"
 walk_at "ok"
 · exact n7 h_ fun _ _ _ _ _ _ _=>rfl
 refine x7 h_ fun t x s g z ts B e_=>y5 e_ fun e0 hG hz hB q=>?_;clear e_ h_;subst e0
 refine ⟨_,(@A1 _ _ _ _ _ (As (i:=2) sc.nd rfl (Or.inl rfl) (Ak Zc T.Z4 hr (Ax Ad) (pv 0) (A0 (pv 1) A4)))
  (@A1 _ _ _ _ _ (Mo (Af (pv 0) rfl) (pv 2) La Aa Lj Et)
  (@A1 _ _ _ _ _ (Az (Aj D1 (pv 2) (Aq Ar rfl T.Zf Fy (A0 (Af (pv 0) rfl) A4)) (nomark _))
   (@A6 _ _ _ (Ai (Ak Z07 T.Z4 hr (Ax Ad) (pv 0) (A0 A8 (A0 (pv 1) A4)))))
   Ah)
  (@A1 _ _ _ _ _ (Ai (Ak Zm T.Z4 hr (Ax Ad) (pv 0) (A0 (pv 1) A4)))
  (@A6 _ _ _ (@Ae _ _ _ _ (An (Ao hr) (Af (pv 0) rfl) (pv 1) (fun _ _=>rfl)))))))),?_⟩
 walk_at "st";have hW:=hG.to;obtain ⟨dx,fs,ho,hf⟩:=hW.tw.o;walk_at "go";refine ⟨dx,fs,ho,hf.m _ (by simp),x,s,hW.tw,ts,hW.sk,hW.tn,hz,hW.zl,hW.zz,hW.rs,fun k H1 sm1 hk hkR hk1 hk2=>?_⟩;have hT1:=hW.tw.same sm1;have o1:Off (own t x) H H1:= .of sm1;obtain ⟨dx1,fs1,ho1,hf1⟩:=hT1.o;have hfl:=hW.ff;have hgk:s.ff[k]?=some (s.ff.getD k 0):=Ei (by omega);walk_at "go";refine ⟨Z1,dx1,fs1,ho1,T.Z4,T.Z0j,_,hf1.fi,?_⟩;refine ⟨x.fi,s.ff.map V.int,k,V.int (s.ff.getD k 0),rfl,rfl,SqL.of hT1.fi,by rw [Fg,hgk];rfl,?_⟩;walk_at "go";refine ⟨_,hT1.fi,k,by rw [Fa];exact M3 (by omega),?_⟩;rw [← R9];have hT2:=hT1.find (s.ff.set k (s.ff.getD k 0+1));have o2:Off (own t x) H (upd H1 x.fi (.lst ((s.ff.set k (s.ff.getD k 0+1)).map V.int))):=o1.trans (Off.put (by simp [own]))
 have hff2:(s.ff.set k (s.ff.getD k 0+1)).length=s.zs.length+1:=by rw [Hw];exact hfl
 have hfb:s.ff.set k (s.ff.getD k 0+1)=bump s.ff (shx s.zs s.R z)∧True:=⟨by rw [show shx s.zs s.R z=k by omega];rfl,trivial⟩
 generalize upd H1 x.fi (.lst ((s.ff.set k (s.ff.getD k 0+1)).map V.int))=H2 at hT2 o2 ⊢;generalize s.ff.set k (s.ff.getD k 0+1)=ff2 at hT2 hff2 hfb;have hs2:=hW.sk.off o2;have hL2:=(hG.g.off hW.tw o2).cast (s':={s with ff:=ff2}) rfl rfl rfl rfl;obtain ⟨dx2,fs2,ho2,hf2⟩:=hT2.o;clear hT1 o1 ho1 hf1 hgk hfl;walk_at "go";refine ⟨Z1,dx2,fs2,ho2,T.Z4,T.Zy,_,hf2.si,x.si,rfl,_,.inl (SqL.of hT2.si),?_⟩;rw [Fa];rename_i rest hrest
 have key:∀(s3:TwS) (H3:Hp),Off (own t x) H H3→Bh Z1 H3 t x s3→s3.R=s.R→s3.zs=s.zs→s3.ff=ff2→s3.pd=s.pd+(if z∈s.R then 0 else Bd ts z)→TwG H3 s3 (if z∈s.R then g else E6 (Str.ofString "fetch") z g) (B+1) (fun y=>y∈s.R∨y=z)→rest [some (V.ref t),some (V.str z),some (V.int k)] H3:=by
  intro s3 H3 o3 hT3 eR eZ eF eP hL3;obtain ⟨dx3,fs3,ho3,hf3⟩:=hT3.o;have hrl:=hW.rl;have hrs:=hW.rs;have hs1:=hW.s1;subst hrest;walk_at "go";refine ⟨dx3,fs3,ho3,hf3.m _ (by simp),x,s3,hT3,_,B+1,by rw [eR];exact hL3,by omega,by rw [eR];exact hW.nd,by rw [eR];omega,by rw [eR,eZ];exact hrs,by rw [eZ];exact hs1,fun s4 H4 o4 hT4 eR4 eZ4 eF4 eP4 hL4=>?_⟩;rw [eR,eZ]at hL4;obtain ⟨dx4,fs4,ho4,hf4⟩:=hT4.o
  have eR5:s4.R=E8 z s:=by rw [eR4,eR,eZ];rfl
  have hzin:z∈s4.R:=by
   rw [eR5];unfold E8
   obtain ⟨n,hn⟩:∃n,s.zs.sum.toNat=n+1:=⟨s.zs.sum.toNat - 1,by omega⟩
   rw [hn,HQ];exact Fi
  have hi:=hL4.h z hzin;walk_at "go";refine ⟨Z1,dx4,fs4,ho4,T.Z4,T.Zu,_,hf4.he,x.he,rfl,.int ((Dq s.zs.sum s.R z g).h z),by rw [← show Ay s4.kh (Sum.inr z)=some (.int ((Dq s.zs.sum s.R z g).h z)) from hi];exact Br.k (k:=Sum.inr z) hT4.he,?_⟩;have o5:=o3.trans o4;exact q s4 H4 o5 ⟨G1 hW hz o5 hT4 eR5 (by rw [eZ4,eZ]) hL4.toL (by rw [eF4];exact hff2),hL4⟩ eR5 (by rw [eZ4,eZ]) (by rw [eP4,eP]) (by rw [eF4];exact hfb.1)
 clear hrest;have hl:=hW.l
 by_cases hk2:k=s.zs.length
 · rw [if_pos (by show (k:Int)=(s.zs.length:Int);omega)]
   have hzR:z∉s.R:=fun h=>by have:=hkR.mpr h;omega
   refine ⟨dx2,fs2,ho2,hf2.m _ (by simp),x,_,hT2,g,ts,hs2,hW.tn,hz,B,_,hL2,by omega,fun s3 H3 o3 hT3 e1 e2 e3 e4 hL3=>key s3 H3 (o2.trans o3) hT3 e1 e2 e3 (by rw [e4,if_neg hzR]) (by rw [if_neg hzR];exact hL3)⟩
 · rw [if_neg (by show ¬(k:Int)=(s.zs.length:Int);omega)]
   have hzR:z∈s.R:=hkR.mp (by omega);have hl2:=hL2.iff (q:=fun y=>y∈s.R∨y=z) (B':=B+1) (fun u=>⟨.inl,fun h=>h.elim id fun e=>by rw [e];exact hzR⟩) (by omega) (by omega);exact key _ H2 o2 hT2 rfl rfl rfl (by rw [if_pos hzR,RU]) (by rw [if_pos hzR];exact hl2)
variable (Z22:Cd P w K mg base CX0 6 Z1 "read" ["self","name"] (Du K Z1 Z2))
include T Zc Zd Z11 Zm in
theorem Z6z(F:Fun K "keep" "Tower.keep" Z3n f fd):Au P w K mg base CX0 6 f fd ["self","name","value"] (Dv K Z1 Z2 false):=by
 have sc:Ab ["self","name","value","place"] ["self","name","value"] (A7 Z3n):=by walk_at "sc"
 walk_at "ok"
 · exact n8 h_ fun _ _ _ _ _ _ _ _=>rfl
 refine x8 h_ fun t x s g z v ts B e_=>y7 e_ fun e0 hv1 hv2 hG hz hB q=>?_;clear e_ h_;subst e0
 refine ⟨_,(@A1 _ _ _ _ _ (As (i:=3) sc.nd rfl (Or.inl rfl) (Ak Zc T.Z4 hr (Ax Ad) (pv 0) (A0 (pv 1) A4)))
  (@A1 _ _ _ _ _ (Az (G3 (Eg (Ag Zd hr rfl Ad (A0 (pv 2) (A0 (Al Ll Aa (Al Kn Aa Aa)) (A0 (Al Kn Aa Aa) A4))))))
   (@A6 _ _ _ Bm)
   Ah)
  (@A1 _ _ _ _ _ (Mo (Af (pv 0) rfl) (pv 3) La Aa Lj Et)
  (@A1 _ _ _ _ _ (Bt (Ao hr) (Af (pv 0) rfl) (pv 1) (pv 2) rfl)
  (@A1 _ _ _ _ _ (Ai (Ak Z11 T.Z4 hr (Ax Ad) (pv 0) (A0 (pv 1) A4)))
  (@A6 _ _ _ (Ai (Ak Zm T.Z4 hr (Ax Ad) (pv 0) (A0 (pv 1) A4))))))))),?_⟩
 walk_at "st";have hW:=hG.to;obtain ⟨dx,fs,ho,hf⟩:=hW.tw.o;have hrl:=hW.rl;have hrs:=hW.rs;have hs1:=hW.s1;walk_at "go";refine ⟨dx,fs,ho,hf.m _ (by simp),x,s,hW.tw,ts,hW.sk,hW.tn,hz,hW.zl,hW.zz,hW.rs,fun k H1 sm1 hk hkR hk1 hk2=>?_⟩;have hT1:=hW.tw.same sm1;have o1:Off (own t x) H H1:= .of sm1;obtain ⟨dx1,fs1,ho1,hf1⟩:=hT1.o;have hfl:=hW.ff;have hgk:s.ff[k]?=some (s.ff.getD k 0):=Ei (by omega)
 have hw:wIn (0 - 10 ^ 30) (10 ^ 30) (V.int v)=true:=by simp [wIn];omega
 walk_at "go";refine ⟨rfl,?_⟩;rw [if_neg (by rw [hw];decide)];walk_at "go";refine ⟨Z1,dx1,fs1,ho1,T.Z4,T.Z0j,_,hf1.fi,?_⟩;refine ⟨x.fi,s.ff.map V.int,k,V.int (s.ff.getD k 0),rfl,rfl,SqL.of hT1.fi,by rw [Fg,hgk];rfl,?_⟩;walk_at "go";refine ⟨_,hT1.fi,k,by rw [Fa];exact M3 (by omega),?_⟩;rw [← R9];have hT2:=hT1.find (s.ff.set k (s.ff.getD k 0+1));have o2:Off (own t x) H (upd H1 x.fi (.lst ((s.ff.set k (s.ff.getD k 0+1)).map V.int))):=o1.trans (Off.put (by simp [own]))
 have hff2:(s.ff.set k (s.ff.getD k 0+1)).length=s.zs.length+1:=by rw [Hw];exact hfl
 have hfb:s.ff.set k (s.ff.getD k 0+1)=bump s.ff (shx s.zs s.R z)∧True:=⟨by rw [show shx s.zs s.R z=k by omega];rfl,trivial⟩
 generalize upd H1 x.fi (.lst ((s.ff.set k (s.ff.getD k 0+1)).map V.int))=H2 at hT2 o2 ⊢;generalize s.ff.set k (s.ff.getD k 0+1)=ff2 at hT2 hff2 hfb;have hL2:=(hG.g.off hW.tw o2).cast (s':={s with ff:=ff2}) rfl rfl rfl rfl;obtain ⟨dx2,fs2,ho2,hf2⟩:=hT2.o;clear hT1 o1 ho1 hf1 hgk hfl;have n1:=hG.g.n1;walk_at "go";refine ⟨Z1,dx2,fs2,ho2,T.Z4,T.Zu,_,hf2.he,x.he,rfl,_,Ea.k (k:=Sum.inr z) hT2.he (by show s.kh.length < _;omega),?_⟩;have hT3:=hT2.held (B1 s.kh (Sum.inr z) (.int v));have oP:Off (own t x) H2 (upd H2 x.he (.dK (B1 s.kh (Sum.inr z) (.int v)))):=Off.put (by simp [own]);have o3:=o2.trans oP;have hL3:=(hL2.kept (z:=z) v (by omega)).off hT2 oP;walk_at "go";show _;generalize upd H2 x.he (.dK (B1 s.kh (Sum.inr z) (.int v)))=H3 at hT3 o3 hL3 ⊢;obtain ⟨dx3,fs3,ho3,hf3⟩:=hT3.o;refine ⟨dx3,fs3,ho3,hf3.m _ (by simp),x,_,hT3,_,B+1,_,hL3,by omega,.inr rfl,fun s4 H4 o4 hT4 eR eZ eF eP hL4=>?_⟩;obtain ⟨dx4,fs4,ho4,hf4⟩:=hT4.o
 have eR':s4.R=s.R:=eR;have eZ':s4.zs=s.zs:=eZ;have eP':s4.pd=s.pd:=eP
 have eF':s4.ff=ff2∧True:=⟨eF,trivial⟩
 clear eR eZ eF eP;walk_at "go";refine ⟨dx4,fs4,ho4,hf4.m _ (by simp),x,s4,hT4,_,B+2,by rw [eR'];exact hL4,by omega,by rw [eR'];exact hW.nd,by rw [eR'];omega,by rw [eR',eZ'];exact hrs,by rw [eZ'];exact hs1,fun s5 H5 o5 hT5 eR5 eZ5 eF5 eP5 hL5=>?_⟩;rw [eR',eZ']at hL5
 have eR6:s5.R=E8 z s:=by rw [eR5,eR',eZ'];rfl
 have o6:=(o3.trans o4).trans o5;walk_at "go";exact q s5 H5 o6 ⟨G1 hW hz o6 hT5 eR6 (by rw [eZ5,eZ']) hL5.toL (by rw [eF5,eF'.1];exact hff2),hL5⟩ eR6 (by rw [eZ5,eZ']) (by rw [eP5,eP']) (by rw [eF5,eF'.1];exact hfb.1)
variable (Z23:Cd P w K mg base CX0 6 Z1 "keep" ["self","name","value"] (Dv K Z1 Z2 false))
include T Zc Z07 Zm in
theorem Z67(F:Fun K "ahead" "Tower.ahead" Z33 f fd):Au P w K mg base CX0 6 f fd ["self","name"] (Da K Z1 Z2):=by
 have sc:Ab ["self","name"] ["self","name"] (A7 Z33):=by walk_at "sc"
 walk_at "ok"
 · exact n7 h_ fun _ _ _ _ _ _ _=>rfl
 refine x7 h_ fun t x s g z ts B e_=>y5 e_ fun e0 hG hz hB q=>?_;clear e_ h_;subst e0
 refine ⟨_,(@A1 _ _ _ _ _ (Az (Aj Nb (Ak Zc T.Z4 hr (Ax Ad) (pv 0) (A0 (pv 1) A4)) (Aq Ar rfl T.Zf Fy (A0 (Af (pv 0) rfl) A4)) (nomark _))
  (@A6 _ _ _ (@Ae _ _ _ _ Gz))
  Ah)
  (@A1 _ _ _ _ _ (Ai (Ak Z07 T.Z4 hr (Ax Ad) (pv 0) (A0 A8 (A0 (pv 1) A4))))
  (@A1 _ _ _ _ _ (Ai (Ak Zm T.Z4 hr (Ax Ad) (pv 0) (A0 (pv 1) A4)))
  (@A6 _ _ _ (@Ae _ _ _ _ Gz))))),?_⟩
 walk_at "st";have hW:=hG.to;obtain ⟨dx,fs,ho,hf⟩:=hW.tw.o;have hrl:=hW.rl;have hrs:=hW.rs;have hs1:=hW.s1;walk_at "go";refine ⟨dx,fs,ho,hf.m _ (by simp),x,s,hW.tw,ts,hW.sk,hW.tn,hz,hW.zl,hW.zz,hW.rs,fun k H1 sm1 hk hkR hk1 hk2=>?_⟩;have hG1:=hG.same sm1;have hT1:=hG1.to.tw;have o1:Off (own t x) H H1:= .of sm1;have hs2:=hW.sk.off o1;obtain ⟨dx1,fs1,ho1,hf1⟩:=hT1.o;refine ⟨Z1,dx1,fs1,ho1,T.Z4,T.Zy,_,hf1.si,x.si,rfl,_,.inl (SqL.of hT1.si),?_⟩;rw [Fa]
 by_cases hk2:k < s.zs.length
 · rw [if_pos (by omega)]
   have hzR:=hkR.mp hk2
   have eG:D0 s.zs.sum s.R z g=g:=by unfold D0;rw [if_pos hzR]
   have:=q s H1 o1 (by rw [eG];exact ⟨hG1.to.up (by omega) (by omega),hG1.g.iff (fun _=>Iff.rfl) (by omega) (by omega)⟩) (by rw [if_pos hzR]) rfl (by rw [if_pos hzR,RU]) rfl;rw [FF (fun h=>h hzR)]at this;exact this
 · rw [if_neg (by omega)]
   have hzR:¬z∈s.R:=fun h=>hk2 (hkR.mpr h)
   have eG:D0 s.zs.sum s.R z g=Bk s.zs.sum s.R z (E6 (Str.ofString "ahead") z g):=by unfold D0;rw [if_neg hzR]
   walk_at "go";refine ⟨dx1,fs1,ho1,hf1.m _ (by simp),x,_,hT1,g,ts,hs2,hW.tn,hz,B,_,hG1.g,by omega,fun s3 H3 o3 hT3 eR eZ eF eP hL3=>?_⟩;obtain ⟨dx3,fs3,ho3,hf3⟩:=hT3.o;walk_at "go";refine ⟨dx3,fs3,ho3,hf3.m _ (by simp),x,s3,hT3,_,B+1,by rw [eR];exact hL3,by omega,by rw [eR];exact hW.nd,by rw [eR];omega,by rw [eR,eZ];exact hrs,by rw [eZ];exact hs1,fun s4 H4 o4 hT4 eR4 eZ4 eF4 eP4 hL4=>?_⟩;rw [eR,eZ]at hL4
   have eR5:s4.R=E8 z s:=by rw [eR4,eR,eZ];rfl
   have o5:=(o1.trans o3).trans o4;walk_at "go";have:=q s4 H4 o5 (by rw [eG];exact ⟨G1 hW hz o5 hT4 eR5 (by rw [eZ4,eZ]) hL4.toL (by rw [eF4,eF];exact hW.ff),hL4⟩) (by rw [eR5,if_neg hzR]) (by rw [eZ4,eZ]) (by rw [eP4,eP,if_neg hzR]) (by rw [eF4,eF]);rw [FI (show z∉s.R from hzR)]at this;exact this
variable (Z1h:Cd P w K mg base CX0 6 Z1 "ahead" ["self","name"] (Da K Z1 Z2))
include T Z06 in
theorem Z70(F:Fun K "rest" "Tower.rest" Z3o f fd):Au P w K mg base CX0 4 f fd ["self"] (Dw K Z1 Z2):=by
 have sc:Ab ["self","names","name"] ["self"] (A7 Z3o):=by walk_at "sc"
 walk_at "ok"
 · exact n6 h_ fun _ _ _ _ _ _=>rfl
 refine x6 h_ fun t x s g ts B e_=>y4 e_ fun e0 hG hB q=>?_;clear e_ h_;subst e0
 refine ⟨_,(@A1 _ _ _ _ _ (Sj (i:=1) "name" [0] sc.nd rfl rfl rfl rfl (C9 (Af (pv 0) rfl)) (fun b=>(Ia (Ls (Ao hr) (pv 0) (Af (pv 1) rfl)))) (fun b=>(pv 0)))
  (@A1 _ _ _ _ _ (D8 PassesOwn.never rfl (C9 (pv 1)) (Bj (i:=2) sc.nd rfl (Or.inl rfl))
   (@A6 _ _ _ (Ai (Ak Z06 T.Z4 hr (Ax Ad) (pv 0) (A0 (pv 2) A4)))))
  (@A1 _ _ _ _ _ (Bl (pv 0) C4 rfl)
  (@A6 _ _ _ (@Ae _ _ _ _ (Aq Ar rfl T.Zf Fy (A0 (pv 1) A4))))))),?_⟩
 walk_at "st";have hW:=hG.to;obtain ⟨dx,fs,ho,hf⟩:=hW.tw.o;have hrl:=hW.rl;walk_at "go";refine ⟨Z1,dx,fs,ho,T.Z4,T.Zt,_,hf.ro,x.ro,rfl,⟨_,SqL.of hW.tw.ro⟩,Sh (xs:=s.R.map V.str) (J1a s.kl) (fun v=>v) (SqL.of hW.tw.ro) (by rw [Fa];omega) ?_ ?_ ?_⟩
 · intro b v H5 QT hx sm q'
   obtain ⟨y,hy,rfl⟩:=Fv.mp hx;have q2:=q' H5 (A9.refl _);walk_at "go";exact ⟨Z1,dx,fs,sm _ _ ho,T.Z4,T.Z02,_,hf.la,x.la,rfl,_,Br.k (k:=Sum.inr y) (sm _ _ hW.tw.la),q2⟩
 · intro b v H5 Q' hx _ sm q'
   obtain ⟨y,_,rfl⟩:=Fv.mp hx;walk_at "go";exact q' _ (A9.refl _)
 · intro D H1 hD sm1 hD1
   rw [P0,show (s.R.filter fun y=>(Ay s.kl (Sum.inr y)).isSome)=s.R.filter g.l by congr 1;funext y;exact hG.g.l y]at hD1;have hns:∀y∈s.R.filter g.l,y∈s.R:=fun y hy=>(Hn.mp hy).1;have hnl:(s.R.filter g.l).length≤59:=FA (Hs _ _) hrl;have hrG:Kk s.R g={Cb (s.R.filter g.l) g with l:=fun _=>false}:=rfl;generalize s.R.filter g.l=ns at hD1 hns hnl hrG q;have hT1:=hW.tw.same sm1;have o1:Off (own t x) H H1:= .of sm1
   have hDo:∀b∈own t x,D≠b:=fun b hb e=>by
    have hb':b=t∨b=x.ro∨b=x.he∨b=x.la∨b=x.so∨b=x.en∨b=x.fi:=by simpa [own] using hb
    have hT0:=hW.tw
    rcases hb' with h | h | h | h | h | h | h <;> rw [e,h]at hD
    · rw [ho]at hD;cases hD
    · rw [hT0.ro]at hD;cases hD
    · rw [hT0.he]at hD;cases hD
    · rw [hT0.la]at hD;cases hD
    · rw [hT0.so]at hD;cases hD
    · rw [hT0.en]at hD;cases hD
    · rw [hT0.fi]at hD;cases hD
   walk_at "go";refine ⟨⟨_,SqL.of hD1⟩,?_⟩;rename_i rest hrest;refine En (xs:=ns.map V.str) (fun i σ H'=>∃(s':TwS) (v2:Option V),σ=[some (V.ref t),some (V.ref D),v2]∧Off (own t x) H H'∧H' D=some (.lst (ns.map V.str))∧Bh Z1 H' t x s'∧s'.R=s.R∧s'.zs=s.zs∧s'.ff=s.ff∧s'.pd=s.pd∧TwG H' s' (Cb (ns.take i) g) (B+i) (fun y=>y∈s.R)) ⟨s,none,rfl,o1,hD1,hT1,rfl,rfl,rfl,rfl,hG.g.same sm1⟩ (fun i σ H' _ h_=>by obtain ⟨s',v2,_,_,hD',_⟩:=h_;exact SqL.of hD') ?_ ?_
   · rintro i v σ H' hv ⟨s',v2,rfl,o',hD',hT',e1,e2,e3,e4,hL'⟩
     have hi:i < ns.length:=by
      have:=(Fe.mp hv).1;rw [Fa]at this;exact this
     rw [Fg,G0 hi]at hv;cases hv;have hyR:=hns _ (Fk (G0 hi))
     have htk:Cb (ns.take (i+1)) g=(Cb (ns.take i) g).write (ns.getD i Str.empty):=by
      rw [Rb,G0 hi];unfold Cb;rw [List.foldl_append];rfl
     generalize ns.getD i Str.empty=y at hyR htk ⊢;obtain ⟨dx',fs',ho',hf'⟩:=hT'.o;walk_at "go";refine ⟨dx',fs',ho',hf'.m _ (by simp),x,s',hT',_,B+i,_,hL',by omega,hyR,fun s2 H2 o2 hT2 f1 f2 f3 f4 _ hL2=>?_⟩;walk_at "go";exact ⟨o'.trans o2,o2 _ _ hD' (fun h=>hDo _ h rfl),s2,hT2,f1.trans e1,f2.trans e2,f3.trans e3,f4.trans e4,by rw [htk];exact hL2⟩
   · rintro σ H' ⟨s',v2,rfl,o',hD',hT',e1,e2,e3,e4,hL'⟩
     obtain ⟨dx',fs',ho',hf'⟩:=hT'.o;rw [Fa,FV]at hL';walk_at "go";intro l hl0;refine ⟨Z1,dx',fs',by rw [A3 (A2 ho' hl0)];exact ho',T.Z4,T.Z02,by have:=hf'.n;omega,?_⟩;have hTn:=hT'.newLate ho' hf' hl0;have oN:Off (own t x) H' (upd (upd H' l (.dK [])) t (.ins Z1 dx' (Am (Str.ofString "late") (.ref l) fs'))):=(Off.of (A9.new hl0)).trans (Off.put (by simp [own]))
     have hlH:H l=none:=by
      cases e:H l with
      | none=>rfl
      | some o=>
       by_cases hin:l∈own t x
       · have hb':l=t∨l=x.ro∨l=x.he∨l=x.la∨l=x.so∨l=x.en∨l=x.fi:=by simpa [own] using hin
         rcases hb' with h | h | h | h | h | h | h <;> rw [h]at hl0
         · rw [ho']at hl0;cases hl0
         · rw [hT'.ro]at hl0;cases hl0
         · rw [hT'.he]at hl0;cases hl0
         · rw [hT'.la]at hl0;cases hl0
         · rw [hT'.so]at hl0;cases hl0
         · rw [hT'.en]at hl0;cases hl0
         · rw [hT'.fi]at hl0;cases hl0
       · rw [o' _ _ e hin]at hl0;cases hl0
     have hDN:=oN _ _ hD' (fun h=>hDo _ h rfl);generalize upd (upd H' l (.dK [])) t (.ins Z1 dx' (Am (Str.ofString "late") (.ref l) fs'))=HN at hTn oN hDN ⊢;have oA:=o'.trans oN
     have hown:∀b∈own t {x with la:=l},b∈own t x++[l]:=fun b hb=>by
      have hb':b=t∨b=x.ro∨b=x.he∨b=l∨b=x.so∨b=x.en∨b=x.fi:=by simpa [own] using hb
      simp only [own,Fn,Fo,FQ,or_false]
      rcases hb' with h | h | h | h | h | h | h <;> simp [h]
     have hsN:B5 K Z2 HN x.st ts (own t {x with la:=l}):=((hW.sk.mono (L':=own t x++[l]) (fun b hb=>by rcases Fn.mp hb with h | h;(· exact .inl h);(· rw [Fc.mp h];exact .inr hlH))).off (oA.mono fun b hb=>FL _ hb)).mono fun b hb=> .inl (hown b hb);walk_at "go";refine ⟨_,.inl (SqL.of hDN),?_⟩;have hGn:=(hL'.noLate).off hT' oN;rw [← hrG]at hGn;rw [Fa];refine q {x with la:=l} {s' with kl:=[]} HN oA (fun b hb=>?_) ⟨⟨hTn,hsN,?_,by show s'.R.Nodup;rw [e1];exact hW.nd,by show (s'.R.length:Int)≤s'.zs.sum;rw [e1,e2];exact hW.rs,by show 1≤s'.zs.length;rw [e2];exact hW.z1,by show s'.zs.length≤6;rw [e2];exact hW.zl,by show ∀z∈s'.zs,_;rw [e2];exact hW.zz,by show ∀y∈s'.R,_;rw [e1];exact hW.rn,hW.tn,hW.tl,by show s'.ff.length=s'.zs.length+1;rw [e2,e3];exact hW.ff⟩,?_⟩ e1 e2 e4 e3 rfl rfl
     · rcases Fn.mp (hown b hb) with h | h
       · exact .inl h
       · rw [Fc.mp h];exact .inr hlH
     · show TwL _ _ (fun y=>y∈s'.R)
       exact (hGn.iff (q:=fun y=>y∈s'.R) (B':=B+100) (fun u=>by rw [e1]) (by omega) (by omega)).toL
     · show TwG _ _ _ _ (fun y=>y∈s'.R)
       exact hGn.iff (q:=fun y=>y∈s'.R) (B':=B+100) (fun u=>by rw [e1]) (by omega) (by omega)
variable (Z24:Cd P w K mg base CX0 4 Z1 "rest" ["self"] (Dw K Z1 Z2))
include T in
theorem Z68(F:Fun K "found" "Tower.found" Z34 f fd):Au P w K mg base CX0 1 f fd ["self"] (Dc Z1):=by
 have sc:Ab ["self"] ["self"] (A7 Z34):=by walk_at "sc"
 walk_at "ok"
 · exact n3 h_ fun _ _ _=>rfl
 refine x3 h_ fun t x s e_=>y3 e_ fun e0 hT q=>?_;clear e_ h_;subst e0;refine ⟨_,(@A6 _ _ _ (@Ae _ _ _ _ (B0 Dk rfl T.Z2u (by first | rfl | decide+kernel) (A0 (Af (pv 0) rfl) A4)))),?_⟩;walk_at "st";obtain ⟨dx,fs,ho,hf⟩:=hT.o;walk_at "go";exact ⟨Z1,dx,fs,ho,T.Z4,T.Z0j,_,hf.fi,x.fi,rfl,_,.inl (SqL.of hT.fi),fun l hl=>q l _ hl (A9.new hl) A5⟩
variable (Z1i:Cd P w K mg base CX0 1 Z1 "found" ["self"] (Dc Z1))
include T in
theorem Z69(F:Fun K "spent" "Tower.spent" Z35 f fd):Au P w K mg base CX0 1 f fd ["self"] (D9 Z1):=by
 have sc:Ab ["self"] ["self"] (A7 Z35):=by walk_at "sc"
 walk_at "ok"
 · exact n3 h_ fun _ _ _=>rfl
 refine x3 h_ fun t x s e_=>y3 e_ fun e0 hT q=>?_;clear e_ h_;subst e0;refine ⟨_,(@A6 _ _ _ (@Ae _ _ _ _ (Af (pv 0) rfl))),?_⟩;walk_at "su";obtain ⟨dx,fs,ho,hf⟩:=hT.o;walk_at "go";exact ⟨Z1,dx,fs,ho,T.Z4,T.Z0w,_,hf.pd,q⟩
variable (Z1j:Cd P w K mg base CX0 1 Z1 "spent" ["self"] (D9 Z1))
include T Z04 Z05 Zi in
theorem Z71(F:Fun K "__init__" "Tower.__init__" Z3p f fd):Au P w K mg base CX0 5 f fd ["self","stock","sizes"] (Ef K Z1 Z2):=by
 have sc:Ab ["self","stock","sizes"] ["self","stock","sizes"] (A7 Z3p):=by walk_at "sc"
 walk_at "ok"
 · exact n6 h_ fun _ _ _ _ _ _=>rfl
 refine x6 h_ fun t dx p a ts zs e_=>y11 e_ fun e0 ht hs nd hr1 htl hS hz1 hz6 hzz q=>?_;clear e_ h_;subst e0
 refine ⟨_,(@A1 _ _ _ _ _ (Ai (Ag Z04 hr rfl Ad (A0 (pv 2) A4)))
  (@A1 _ _ _ _ _ (Ai (Ag Z05 hr rfl Ad (A0 (pv 1) (A0 (Ey Zi T.Za hr (Ax Ad) (pv 1)) A4))))
  (@A1 _ _ _ _ _ (Bl (pv 0) (pv 1) rfl)
  (@A1 _ _ _ _ _ (Bl (pv 0) (B0 Dk rfl T.Z2u (by first | rfl | decide+kernel) (A0 (pv 2) A4)) rfl)
  (@A1 _ _ _ _ _ (Bl (pv 0) (@Bv _ _ _ _ A4) rfl)
  (@A1 _ _ _ _ _ (Bl (pv 0) C4 rfl)
  (@A1 _ _ _ _ _ (Bl (pv 0) C4 rfl)
  (@A1 _ _ _ _ _ (Bl (pv 0) C4 rfl)
  (@A1 _ _ _ _ _ (Bl (pv 0) (@Bv _ _ _ _ A4) rfl)
  (@A1 _ _ _ _ _ (Bl (pv 0) (Al Tn (@Bv _ _ _ _ (A0 Aa A4)) (Al Cm (Aq Ar rfl T.Zf Fy (A0 (pv 2) A4)) Aa)) rfl)
  (@A6 _ _ _ (Bl (pv 0) Aa rfl)))))))))))),?_⟩
 walk_at "st";obtain ⟨dy,e,kvs,h1,h2,h3,h4,h5⟩:=Aw.has hs;walk_at "go";refine ⟨zs,hS,hz1,hz6,hzz,?_⟩;walk_at "go";refine ⟨dy,flds e,h1,by rfl,ts,hs,fun l hl=>?_⟩;have sm1:A9 H (upd H l (.lst ((ts.map (·.1)).map V.str))):=A9.new hl;refine ⟨ts,hs.same sm1,nd,ts.map (·.1),SqL.of A5,fun y hy=>hy,hr1,by rw [Fa];omega,?_⟩;have ht1:=sm1 _ _ ht;have hs1:=B5.of (hs.same sm1);have hS1:=sm1.seq hS
 have nw:∀b,upd H l (.lst ((ts.map (·.1)).map V.str)) b=none→H b=none:=fun b hb=>by
  cases q:H b with
  | none=>rfl
  | some o=>rw [sm1 _ _ q]at hb;cases hb
 generalize upd H l (.lst ((ts.map (·.1)).map V.str))=H1 at sm1 ht1 hs1 hS1 nw ⊢;walk_at "go";refine ⟨Z1,dx,[],ht1,T.Z4,T.Z0i,by decide,?_⟩;have sbA:SameBut t H1 (upd H1 t (.ins Z1 dx (Am (Str.ofString "stock") (V.ref p) []))):=Er;have htA:upd H1 t (.ins Z1 dx (Am (Str.ofString "stock") (V.ref p) [])) t=some (.ins Z1 dx (Am (Str.ofString "stock") (V.ref p) [])):=A5;have hSA:=SqL.but sbA ht1 hS1;walk_at "go";show _;generalize upd H1 t (.ins Z1 dx (Am (Str.ofString "stock") (V.ref p) []))=HA at sbA htA hSA ⊢;intro si hsi;refine ⟨Z1,dx,_,by rw [A3 (A2 htA hsi)];exact htA,T.Z4,T.Zy,Fz (Ac (Ff _)) (by decide),?_⟩;obtain ⟨sb1,ht2,hsi1,k1,nsi,tsi,d1⟩:=C6 (o:= .lst (zs.map V.int)) (f:=Str.ofString "sizes") sbA htA hsi;walk_at "go";show _;generalize upd (upd HA si (.lst (zs.map V.int))) t (.ins Z1 dx (Am (Str.ofString "sizes") (V.ref si) (Am (Str.ofString "stock") (V.ref p) [])))=HB0 at sb1 ht2 k1 hsi1 ⊢
 intro ro hron;refine ⟨Z1,dx,_,by rw [A3 (A2 ht2 hron)];exact ht2,T.Z4,T.Zt,Fz (Ac (Ac (Ff _))) (by decide),?_⟩;obtain ⟨sb2,ht3,hro2,k2,nro,tro,d2⟩:=C6 (o:= .lst []) (f:=Str.ofString "row") sb1 ht2 hron;have hsi2:=k2 _ _ hsi1 tsi;have ne_ro_si:ro≠si:=(d2 _ _ hsi1).symm;walk_at "go";show _;generalize upd (upd HB0 ro (.lst [])) t (.ins Z1 dx (Am (Str.ofString "row") (V.ref ro) (Am (Str.ofString "sizes") (V.ref si) (Am (Str.ofString "stock") (V.ref p) []))))=HB1 at sb2 ht3 k2 hsi2 hro2 ⊢;intro he hhen;refine ⟨Z1,dx,_,by rw [A3 (A2 ht3 hhen)];exact ht3,T.Z4,T.Zu,Fz (Ac (Ac (Ac (Ff _)))) (by decide),?_⟩;obtain ⟨sb3,ht4,hhe3,k3,nhe,the,d3⟩:=C6 (o:= .dK []) (f:=Str.ofString "held") sb2 ht3 hhen;have hsi3:=k3 _ _ hsi2 tsi;have ne_he_si:he≠si:=(d3 _ _ hsi2).symm;have hro3:=k3 _ _ hro2 tro;have ne_he_ro:he≠ro:=(d3 _ _ hro2).symm;walk_at "go";show _
 generalize upd (upd HB1 he (.dK [])) t (.ins Z1 dx (Am (Str.ofString "held") (V.ref he) (Am (Str.ofString "row") (V.ref ro) (Am (Str.ofString "sizes") (V.ref si) (Am (Str.ofString "stock") (V.ref p) [])))))=HB2 at sb3 ht4 k3 hsi3 hro3 hhe3 ⊢;intro la hlan;refine ⟨Z1,dx,_,by rw [A3 (A2 ht4 hlan)];exact ht4,T.Z4,T.Z02,Fz (Ac (Ac (Ac (Ac (Ff _))))) (by decide),?_⟩;obtain ⟨sb4,ht5,hla4,k4,nla,tla,d4⟩:=C6 (o:= .dK []) (f:=Str.ofString "late") sb3 ht4 hlan;have hsi4:=k4 _ _ hsi3 tsi;have ne_la_si:la≠si:=(d4 _ _ hsi3).symm;have hro4:=k4 _ _ hro3 tro;have ne_la_ro:la≠ro:=(d4 _ _ hro3).symm;have hhe4:=k4 _ _ hhe3 the;have ne_la_he:la≠he:=(d4 _ _ hhe3).symm;walk_at "go";show _;generalize upd (upd HB2 la (.dK [])) t (.ins Z1 dx (Am (Str.ofString "late") (V.ref la) (Am (Str.ofString "held") (V.ref he) (Am (Str.ofString "row") (V.ref ro) (Am (Str.ofString "sizes") (V.ref si) (Am (Str.ofString "stock") (V.ref p) []))))))=HB3 at sb4 ht5 k4 hsi4 hro4 hhe4 hla4 ⊢
 intro so hson;refine ⟨Z1,dx,_,by rw [A3 (A2 ht5 hson)];exact ht5,T.Z4,T.Z0r,Fz (Ac (Ac (Ac (Ac (Ac (Ff _)))))) (by decide),?_⟩;obtain ⟨sb5,ht6,hso5,k5,nso,tso,d5⟩:=C6 (o:= .dK []) (f:=Str.ofString "store") sb4 ht5 hson;have hsi5:=k5 _ _ hsi4 tsi;have ne_so_si:so≠si:=(d5 _ _ hsi4).symm;have hro5:=k5 _ _ hro4 tro;have ne_so_ro:so≠ro:=(d5 _ _ hro4).symm;have hhe5:=k5 _ _ hhe4 the;have ne_so_he:so≠he:=(d5 _ _ hhe4).symm;have hla5:=k5 _ _ hla4 tla;have ne_so_la:so≠la:=(d5 _ _ hla4).symm;walk_at "go";show _;generalize upd (upd HB3 so (.dK [])) t (.ins Z1 dx (Am (Str.ofString "store") (V.ref so) (Am (Str.ofString "late") (V.ref la) (Am (Str.ofString "held") (V.ref he) (Am (Str.ofString "row") (V.ref ro) (Am (Str.ofString "sizes") (V.ref si) (Am (Str.ofString "stock") (V.ref p) [])))))))=HB4 at sb5 ht6 k5 hsi5 hro5 hhe5 hla5 hso5 ⊢;intro en henn;refine ⟨Z1,dx,_,by rw [A3 (A2 ht6 henn)];exact ht6,T.Z4,T.Z0k,Fz (Ac (Ac (Ac (Ac (Ac (Ac (Ff _))))))) (by decide),?_⟩
 obtain ⟨sb6,ht7,hen6,k6,nen,ten,d6⟩:=C6 (o:= .lst []) (f:=Str.ofString "entries") sb5 ht6 henn;have hsi6:=k6 _ _ hsi5 tsi;have ne_en_si:en≠si:=(d6 _ _ hsi5).symm;have hro6:=k6 _ _ hro5 tro;have ne_en_ro:en≠ro:=(d6 _ _ hro5).symm;have hhe6:=k6 _ _ hhe5 the;have ne_en_he:en≠he:=(d6 _ _ hhe5).symm;have hla6:=k6 _ _ hla5 tla;have ne_en_la:en≠la:=(d6 _ _ hla5).symm;have hso6:=k6 _ _ hso5 tso;have ne_en_so:en≠so:=(d6 _ _ hso5).symm;walk_at "go";show _;generalize upd (upd HB4 en (.lst [])) t (.ins Z1 dx (Am (Str.ofString "entries") (V.ref en) (Am (Str.ofString "store") (V.ref so) (Am (Str.ofString "late") (V.ref la) (Am (Str.ofString "held") (V.ref he) (Am (Str.ofString "row") (V.ref ro) (Am (Str.ofString "sizes") (V.ref si) (Am (Str.ofString "stock") (V.ref p) []))))))))=HB5 at sb6 ht7 k6 hsi6 hro6 hhe6 hla6 hso6 hen6 ⊢;intro l0 hl0;have hS5:=SqL.but sb6 ht1 hS1;have smz:A9 HB5 (upd HB5 l0 (.lst [V.int 0])):=A9.new hl0
 have sbz:SameBut t H1 (upd HB5 l0 (.lst [V.int 0])):=sb6.trans (.of smz);have hlz:upd HB5 l0 (.lst [V.int 0]) l0=some (.lst [V.int 0]):=A5;have htz:=smz _ _ ht7;have hsiz:=smz _ _ hsi6;have hroz:=smz _ _ hro6;have hhez:=smz _ _ hhe6;have hlaz:=smz _ _ hla6;have hsoz:=smz _ _ hso6;have henz:=smz _ _ hen6;have hSz:=smz.seq hS5;generalize upd HB5 l0 (.lst [V.int 0])=HZ at sbz hlz htz hsiz hroz hhez hlaz hsoz henz hSz ⊢;refine ⟨_,.inl hSz,?_⟩;rw [Fa];refine ⟨l0,_,_,rfl,rfl,hlz,by omega,by omega,by simp;omega,fun fi hfi=>?_⟩;rw [J7b];refine ⟨Z1,dx,_,by rw [A3 (A2 htz hfi)];exact htz,T.Z4,T.Z0j,Fz (Ac (Ac (Ac (Ac (Ac (Ac (Ac (Ff _)))))))) (by decide),?_⟩;obtain ⟨sb7,ht8,hfi7,k7,nfi,tfi,d7⟩:=C6 (o:= .lst ((List.replicate (zs.length+1) (0:Int)).map V.int)) (f:=Str.ofString "finds") sbz htz hfi;have hsi7:=k7 _ _ hsiz tsi;have hro7:=k7 _ _ hroz tro;have hhe7:=k7 _ _ hhez the
 have hla7:=k7 _ _ hlaz tla;have hso7:=k7 _ _ hsoz tso;have hen7:=k7 _ _ henz ten;have ne_fi_si:=(d7 _ _ hsiz).symm;have ne_fi_ro:=(d7 _ _ hroz).symm;have ne_fi_en:=(d7 _ _ henz).symm;walk_at "go";refine ⟨Z1,dx,_,ht8,T.Z4,T.Z0w,Fz (Ac (Ac (Ac (Ac (Ac (Ac (Ac (Ac (Ff _))))))))) (by decide),?_⟩
 have kz:∀b u,HZ b=some u→upd HZ fi (.lst ((List.replicate (zs.length+1) (0:Int)).map V.int)) b=some u:=fun b u e=>by rw [A3 (A2 e hfi)];exact e
 refine q ⟨p,si,ro,he,la,so,en,fi⟩ ⟨zs,[],[],[],[],[],List.replicate (zs.length+1) 0,0⟩ _ (fun b o e nb=>?_) ⟨?_,?_⟩ rfl rfl rfl rfl rfl (fun b hb=>?_)
 · rw [A3 nb];exact kz _ _ (sbz _ _ (sm1 _ _ e) nb)
 · have hfin:∀u:HO,SameBut t H1 (upd (upd HZ fi (.lst ((List.replicate (zs.length+1) (0:Int)).map V.int))) t u):=fun u b o e nb=>by rw [A3 nb];exact kz _ _ (sbz _ _ e nb)
   refine ⟨⟨⟨dx,f6 ⟨p,si,ro,he,la,so,en,fi⟩,A5,So _⟩,by rw [A3 tsi];exact kz _ _ hsiz,by rw [A3 tro];exact kz _ _ hroz,by rw [A3 the];exact kz _ _ hhez,by rw [A3 tla];exact kz _ _ hlaz,by rw [A3 tso];exact kz _ _ hsoz,by rw [A3 ten];exact kz _ _ henz,by rw [A3 tfi];exact A5,ne_la_he.symm,ne_so_he.symm,ne_so_la.symm,ne_ro_si,ne_en_ro.symm,ne_fi_ro.symm,ne_en_si.symm,ne_fi_si.symm,ne_fi_en.symm⟩,?_,⟨(fun y hy=>by cases hy),(fun y hy=>by cases hy),(fun y v hv=>by cases hv),Fq _,Fq _,Fq _,Fq _,by decide⟩,Hh,?_,hz1,hz6,hzz,(fun y hy=>by cases hy),nd,htl,by simp⟩
   · refine ((hs1.ins ht1).mono fun b hb=>?_).off fun b o e n=>hfin _ b o e fun z=>n (by rw [z];simp [own])
     have hb':b=t∨b=ro∨b=he∨b=la∨b=so∨b=en∨b=fi:=by simpa [own] using hb
     rcases hb' with h | h | h | h | h | h | h <;> rw [h]
     · exact .inl Fi
     · exact .inr nro
     · exact .inr nhe
     · exact .inr nla
     · exact .inr nso
     · exact .inr nen
     · exact .inr nfi
   · have h4:=Im (zs:=zs) (fun z hz=>(hzz z hz).1) zs.length
     unfold pre at h4;rw [FV]at h4;exact h4
 · exact ⟨(fun y hy=>by cases hy),(fun y=>rfl),(fun y hy=>by cases hy),(fun y=>rfl),⟨[],rfl,rfl,fun i u e h=>by simp at h⟩,Fq _,Fq _,Fq _,Fq _,by decide,(fun e he=>by cases he)⟩
 · have hb':b=si∨b=t∨b=ro∨b=he∨b=la∨b=so∨b=en∨b=fi:=by simpa [own] using hb
   rcases hb' with h | h | h | h | h | h | h | h <;> rw [h]
   · exact .inr (nw _ nsi)
   · exact .inl rfl
   · exact .inr (nw _ nro)
   · exact .inr (nw _ nhe)
   · exact .inr (nw _ nla)
   · exact .inr (nw _ nso)
   · exact .inr (nw _ nen)
   · exact .inr (nw _ nfi)
variable (Z25:Qs P w K mg base CX0 5 "Tower" Z1 ["self","stock","sizes"] (Ef K Z1 Z2))
include T in
theorem Z5a(F:Fun K "write" "Tower.write" Z2c f fd):Au P w K mg base CX0 2 f fd ["self","name"] (Dr Z0):=by
 have sc:Ab ["self","name"] ["self","name"] (A7 Z2c):=by walk_at "sc"
 walk_at "ok"
 · exact n7 h_ fun _ _ _ _ _ _ _=>rfl
 refine x7 h_ fun t x s g z B hd e_=>y6 e_ fun e0 hT hL hB hz q=>?_;clear e_ h_;subst e0
 refine ⟨_,(@A1 _ _ _ _ _ (Bt (Ao hr) (Af (pv 0) rfl) (pv 1) (An (Ao hr) (Af (pv 0) rfl) (pv 1) (fun _ _=>rfl)) rfl)
  (@A6 _ _ _ (Ai (D3 Fx FY FX Dg (Af (pv 0) rfl) (A0 (G6 (A0 A8 (A0 (pv 1) (A0 (An (Ao hr) (Af (pv 0) rfl) (pv 1) (fun _ _=>rfl)) A4)))) A4))))),?_⟩
 walk_at "st";obtain ⟨dx,fs,ho,hf⟩:=hT.o;have hi:=hL.h z hz;have n3:=hL.n3;have n4:=hL.n4;walk_at "go";refine ⟨Z0,dx,fs,ho,T.Z3,T.Zn,_,hf.he,x.he,rfl,.int (g.h z),by rw [← hi];exact Br.k (k:=Sum.inr z) hT.he,Z0,dx,fs,ho,T.Z3,T.Z0o,_,hf.so,x.so,rfl,_,Ea.k (k:=Sum.inr z) hT.so (by omega),?_⟩;have hT1:=hT.store (B1 s.ks (Sum.inr z) (.int (g.h z)));have o1:Off (own t x) H (upd H x.so (.dK (B1 s.ks (Sum.inr z) (.int (g.h z))))):=Off.put (by simp [own]);generalize upd H x.so (.dK (B1 s.ks (Sum.inr z) (.int (g.h z))))=H1 at hT1 o1 ⊢;obtain ⟨dx1,fs1,ho1,hf1⟩:=hT1.o;walk_at "go";refine ⟨Z0,dx1,fs1,ho1,T.Z3,T.Z0e,_,hf1.en,.inl ⟨rfl,_,SqL.of hT1.en⟩,Z0,dx1,fs1,ho1,T.Z3,T.Zn,_,hf1.he,x.he,rfl,.int (g.h z),by rw [← hi];exact Br.k (k:=Sum.inr z) hT1.he,by omega,fun u hu=>?_⟩;have sm2:A9 H1 (upd H1 u (.tup (wrT z (g.h z)))):=A9.new hu;have hT2:=hT1.same sm2;have hu2:upd H1 u (.tup (wrT z (g.h z))) u=some (.tup (wrT z (g.h z))):=A5
 have nue:u≠x.en:=(A2 hT1.en hu).symm;have o2:Off (own t x) H (upd H1 u (.tup (wrT z (g.h z)))):=o1.trans (.of sm2);show Ph _ _ (upd H1 u (.tup (wrT z (g.h z)))) _;generalize upd H1 u (.tup (wrT z (g.h z)))=H2 at hT2 o2 hu2 ⊢;refine ⟨x.en,_,_,rfl,rfl,hT2.en,by show s.es.length < _;omega,?_⟩;walk_at "go";have oF:=o2.trans (Off.put (H:=H2) (b:=x.en) (o:= .lst (s.es++[.ref u])) (by simp [own]));exact q {s with ks:=B1 s.ks (Sum.inr z) (.int (g.h z)),es:=s.es++[.ref u]} _ oF (hT2.entry (s.es++[.ref u])) rfl rfl rfl rfl rfl (hL.wrote hz (Mh hT oF) (by rw [A3 nue];exact hu2) (by omega))
variable (Zg:Cd P w K mg base CX0 2 Z0 "write" ["self","name"] (Dr Z0))
include T Zg in
theorem Z4y(F:Fun K "settle" "Prompt.settle" Z1x f fd):Au P w K mg base CX0 3 f fd ["self","name"] (Di Z0 true):=by
 have sc:Ab ["self","name"] ["self","name"] (A7 Z1x):=by walk_at "sc"
 walk_at "ok"
 · exact n7 h_ fun _ _ _ _ _ _ _=>rfl
 refine x7 h_ fun t x s g z B hd e_=>y6 e_ fun e0 hT hL hB hz q=>?_;clear e_ h_;subst e0;refine ⟨_,(@A6 _ _ _ (Ai (Ak Zg T.Z3 hr (Ax Ad) (pv 0) (A0 (pv 1) A4)))),?_⟩;walk_at "st";obtain ⟨dx,fs,ho,hf⟩:=hT.o;walk_at "go";exact ⟨dx,fs,ho,hf.m _ (by simp),x,s,hT,g,B,hd,hL,hB,hz,fun s' H' o hT' e1 e2 e3 e4 _ hL'=>q s' H' o hT' e1 e2 e3 e4 hL'⟩
variable (Z0t:Cd P w K mg base CX0 3 Z0 "settle" ["self","name"] (Di Z0 true))
include T Zg in
theorem Z4m(F:Fun K "fall_off" "Tower.fall_off" Z1d f fd):Au P w K mg base CX0 3 f fd ["self","name"] (Ed Z0):=by
 have sc:Ab ["self","name"] ["self","name"] (A7 Z1d):=by walk_at "sc"
 walk_at "ok"
 · exact n7 h_ fun _ _ _ _ _ _ _=>rfl
 refine x7 h_ fun t x s g z B hd e_=>y6 e_ fun e0 hT hL hB hz q=>?_;clear e_ h_;subst e0
 refine ⟨_,(@A1 _ _ _ _ _ (Az (Ia (Ls (Ao hr) (pv 1) (Af (pv 0) rfl)))
  (@A1 _ _ _ _ _ (Ai (Eu (Af (pv 0) rfl) (pv 1) ⟨rfl,rfl,rfl,rfl⟩))
  (@A6 _ _ _ (Ai (Ak Zg T.Z3 hr (Ax Ad) (pv 0) (A0 (pv 1) A4)))))
  Ah)
  (@A6 _ _ _ (Ai (Eu (Af (pv 0) rfl) (pv 1) ⟨rfl,rfl,rfl,rfl⟩)))),?_⟩
 walk_at "st";obtain ⟨dx,fs,ho,hf⟩:=hT.o;walk_at "go";refine ⟨Z0,dx,fs,ho,T.Z3,T.Z03,_,hf.la,x.la,rfl,_,Br.k (k:=Sum.inr z) hT.la,?_⟩;rename_i rest hrest
 have key:∀(s1:TwS) (H1:Hp),Off (own t x) H H1→Bh Z0 H1 t x s1→s1.R=s.R→s1.zs=s.zs→s1.ff=s.ff→s1.pd=s.pd→TwG H1 s1 (Ci z g) (B+1) hd→(Ci z g).l z=false→rest [some (V.ref t),some (V.str z)] H1:=by
  intro s1 H1 o1 hT1 e1 e2 e3 e4 hL1 hz1;obtain ⟨dx1,fs1,ho1,hf1⟩:=hT1.o;have hi1:=hL1.h z hz;subst hrest;walk_at "go";refine ⟨Z0,dx1,fs1,ho1,T.Z3,T.Zn,_,hf1.he,x.he,rfl,.inl ⟨_,.inl hT1.he⟩,_,hT1.he,Sum.inr z,rfl,_,hi1,?_⟩;have oP:Off (own t x) H1 (upd H1 x.he (.dK (B9 s1.kh (Sum.inr z)))):=Off.put (by simp [own]);exact q _ _ (o1.trans oP) (hT1.held (B9 s1.kh (Sum.inr z))) e1 e2 e3 e4 ((hL1.popped hz1).off hT1 oP)
 clear hrest;rw [hL.l z]
 by_cases hin:g.l z=true
 · rw [if_pos hin]
   have hsome:(Ay s.kl (Sum.inr z)).isSome=true:=by rw [hL.l z];exact hin
   obtain ⟨vl,hvl⟩:=Hl.mp hsome;walk_at "go";refine ⟨Z0,dx,fs,ho,T.Z3,T.Z03,_,hf.la,x.la,rfl,.inl ⟨_,.inl hT.la⟩,_,hT.la,Sum.inr z,rfl,_,hvl,?_⟩;have hT1:=hT.late (B9 s.kl (Sum.inr z));have o1:Off (own t x) H (upd H x.la (.dK (B9 s.kl (Sum.inr z)))):=Off.put (by simp [own]);have hL1:=(hL.lateOff (z:=z)).off hT o1;generalize upd H x.la (.dK (B9 s.kl (Sum.inr z)))=H1 at hT1 o1 hL1 ⊢;obtain ⟨dx1,fs1,ho1,hf1⟩:=hT1.o
   have eG:Ci z g=(g.late z false).write z:=by unfold Ci;rw [if_pos hin]
   walk_at "go";refine ⟨dx1,fs1,ho1,hf1.m _ (by simp),x,_,hT1,_,B,hd,hL1,hB,hz,fun s2 H2 o2 hT2 e1 e2 e3 e4 _ hL2=>?_⟩;exact key s2 H2 (o1.trans o2) hT2 e1 e2 e3 e4 (by rw [eG];exact hL2) (by rw [eG];exact Ba)
 · rw [if_neg hin]
   have eG:Ci z g=g:=by unfold Ci;rw [if_neg hin]
   exact key s H (fun b o e _=>e) hT rfl rfl rfl rfl (by rw [eG];exact hL.iff (fun _=>Iff.rfl) (by omega) (by omega)) (by rw [eG];simpa using hin)
variable (Z0n:Cd P w K mg base CX0 3 Z0 "fall_off" ["self","name"] (Ed Z0))
include T Z0n in
theorem Z6a(F:Fun K "come" "Tower.come" Z36 f fd):Au P w K mg base CX0 4 f fd ["self","name"] (Ee Z0):=by
 have sc:Ab ["self","name"] ["self","name"] (A7 Z36):=by walk_at "sc"
 walk_at "ok"
 · exact n6 h_ fun _ _ _ _ _ _=>rfl
 refine x6 h_ fun t x s g z B e_=>y9 e_ fun e0 hT hL hB nd hRl hRs hS1 q=>?_;clear e_ h_;subst e0
 refine ⟨_,(@A1 _ _ _ _ _ (Az (Aj Ck (pv 1) (Af (pv 0) rfl) (by with_unfolding_all rfl))
  (@A6 _ _ _ (Ai (D3 Fx Rj Rh Lw (Af (pv 0) rfl) (A0 (pv 1) A4))))
  Ah)
  (@A1 _ _ _ _ _ (Ai (D3 Fx Rk Ri M0 (Af (pv 0) rfl) (A0 Aa (A0 (pv 1) A4))))
  (@A6 _ _ _ (Az (Aj Kx (Aq Ar rfl T.Zf Fy (A0 (Af (pv 0) rfl) A4)) (Aq (M4 rfl) rfl T.Z55 (by first | rfl | decide+kernel) (A0 (Af (pv 0) rfl) A4)) (nomark _))
   (@A6 _ _ _ (Ai (Ak Z0n T.Z3 hr (Ax Ad) (pv 0) (A0 (Ti Fx Rt Rr Tl (Af (pv 0) rfl)) A4))))
   Ah)))),?_⟩
 walk_at "st";obtain ⟨dx,fs,ho,hf⟩:=hT.o;walk_at "go";refine ⟨Z0,dx,fs,ho,T.Z3,T.Zl,_,hf.ro,Nr (SqL.of hT.ro) ⟨_,rfl,?_⟩⟩;rename_i rest hrest
 have key:∀H1:Hp,Off (own t x) H H1→Bh Z0 H1 t x {s with R:=s.R.erase z}→rest [some (V.ref t),some (V.str z)] H1:=by
  intro H1 o1 hT1;obtain ⟨dx1,fs1,ho1,hf1⟩:=hT1.o;have hel:(s.R.erase z).length≤s.R.length:=R5;subst hrest;walk_at "go";refine ⟨Z0,dx1,fs1,ho1,T.Z3,T.Zl,_,hf1.ro,.inl ⟨rfl,_,SqL.of hT1.ro⟩,x.ro,rfl,_,hT1.ro,by rw [Fa];show (s.R.erase z).length < _;omega,?_⟩;have hT2:Bh Z0 (upd H1 x.ro (.lst (V.str z::List.map V.str {s with R:=s.R.erase z}.R))) t x {s with R:=z::s.R.erase z}:=hT1.row (z::s.R.erase z);have o2:Off (own t x) H (upd H1 x.ro (.lst (V.str z::List.map V.str {s with R:=s.R.erase z}.R))):=o1.trans (Off.put (by simp [own]));generalize upd H1 x.ro (.lst (V.str z::List.map V.str {s with R:=s.R.erase z}.R))=H2 at hT2 o2 ⊢;obtain ⟨dx2,fs2,ho2,hf2⟩:=hT2.o;walk_at "go";refine ⟨Z0,dx2,fs2,ho2,T.Z3,T.Zl,_,hf2.ro,x.ro,rfl,_,.inl (SqL.of hT2.ro),Z0,dx2,fs2,ho2,T.Z3,T.Zr,_,hf2.si,x.si,rfl,_,SqL.of hT2.si,?_⟩;rw [Fa];have hl1:(z::s.R.erase z).length=(s.R.erase z).length+1:=rfl
  have ndc:=Mx (z:=z) nd
  by_cases hov:s.zs.sum < ((z::s.R.erase z).length:Int)
  · rw [if_pos hov]
    obtain ⟨y,hy,edl,hyin,hiff⟩:=M5 (S:=s.zs.sum.toNat) ndc (by omega)
    have eG:Bk s.zs.sum s.R z g=Ci y g:=by unfold Bk Vz;rw [if_pos hov,hy];rfl
    refine ⟨dx2,fs2,ho2,hf2.m _ (by simp),Z0,dx2,fs2,ho2,T.Z3,T.Zl,_,hf2.ro,.inl ⟨rfl,_,SqL.of hT2.ro⟩,x.ro,rfl,_,hT2.ro,V.str y,by rw [Fa,Fg,hy];rfl,?_⟩
    have hT3:Bh Z0 (upd H2 x.ro (.lst ((z::s.R.erase z).map V.str).dropLast)) t x {s with R:=(z::s.R.erase z).dropLast}:=by
     rw [← RS];exact hT2.row ((z::s.R.erase z).dropLast)
    have o3:Off (own t x) H (upd H2 x.ro (.lst ((z::s.R.erase z).map V.str).dropLast)):=o2.trans (Off.put (by simp [own]));have hL3:=hL.off hT o3;walk_at "go";refine ⟨x,_,hT3,g,B,_,hL3.cast rfl rfl rfl rfl,hB,D5.mp hyin,fun s' H' o hT' e1 e2 e3 e4 hL'=>?_⟩;have e1':s'.R=(z::s.R.erase z).dropLast:=e1;exact q s' H' (o3.trans o) hT' (by rw [e1',edl]) e2 e3 e4 (by rw [eG];exact hL'.iff (fun u=>by rw [e1',hiff u,D5]) (Ff _) (by omega))
  · rw [if_neg hov]
    have eG:Bk s.zs.sum s.R z g=g:=by unfold Bk;rw [if_neg hov]
    exact q _ H2 o2 hT2 (by rw [FS (by omega)]) rfl rfl rfl (by rw [eG];exact ((hL.off hT o2).iff (fun u=>(D5 (R:=s.R) (z:=z) (u:=u)).symm) (by omega) (by omega)).cast rfl rfl rfl rfl)
 clear hrest
 by_cases hin:z∈s.R
 · rw [if_pos (by simpa using hin)]
   refine ⟨Z0,dx,fs,ho,T.Z3,T.Zl,_,hf.ro,.inl ⟨rfl,_,SqL.of hT.ro⟩,x.ro,rfl,s.R,hT.ro,hin,?_⟩;exact key _ (Off.put (by simp [own])) (hT.row (s.R.erase z))
 · rw [if_neg (by simpa using hin)]
   have:=key H (fun b o e _=>e) (by rw [Rx hin];exact hT);exact this
variable (Zj:Cd P w K mg base CX0 4 Z0 "come" ["self","name"] (Ee Z0))
include T in
theorem Z4z(F:Fun K "levels" "Tower.levels" Z1y f fd):Au P w K mg base CX0 1 f fd ["self"] (Ct Z0):=by
 have sc:Ab ["self","told","start","size"] ["self"] (A7 Z1y):=by walk_at "sc"
 walk_at "ok"
 · exact n3 h_ fun _ _ _=>rfl
 refine x3 h_ fun t x s e_=>y5 e_ fun e0 hT hzl hz q=>?_;clear e_ h_;subst e0
 refine ⟨_,(@A1 _ _ _ _ _ (As (i:=1) sc.nd rfl (Or.inl rfl) (@Bv _ _ _ _ A4))
  (@A1 _ _ _ _ _ (As (i:=2) sc.nd rfl (Or.inl rfl) Aa)
  (@A1 _ _ _ _ _ (D8 PassesOwn.never rfl (C9 (Af (pv 0) rfl)) (Bj (i:=3) sc.nd rfl (Or.inl rfl))
   (@A1 _ _ _ _ _ (Ai (D3 Fx FY FX Dg (pv 1) (A0 (Ic L0 (Af (pv 0) rfl) (E9 (pv 2)) (E9 (Al Cm (pv 2) (pv 3)))) A4)))
   (@A6 _ _ _ (Xp (i:=2) sc.nd rfl (Or.inl rfl) (pv 3) Lj))))
  (@A6 _ _ _ (@Ae _ _ _ _ (pv 1)))))),?_⟩
 walk_at "st";obtain ⟨dx,fs,ho,hf⟩:=hT.o;walk_at "go";intro p hp;walk_at "go";have sm0:A9 H (upd H p (.lst [])):=A9.new hp;have hp0:upd H p (.lst []) p=some (.lst []):=A5;generalize upd H p (.lst [])=H0 at sm0 hp0 ⊢;refine ⟨Z0,dx,fs,sm0 _ _ ho,T.Z3,T.Zr,_,hf.si,x.si,rfl,⟨_,SqL.of (sm0 _ _ hT.si)⟩,?_⟩;rename_i rest hrest
 refine En (xs:=s.zs.map V.int) (fun i σ H'=>∃(as:List Addr) (v3:Option V),σ=[some (V.ref t),some (V.ref p),some (V.int (pre s.zs i)),v3]∧A9 H H'∧H' p=some (.lst (as.map V.ref))∧X6 H' as s.zs s.R i∧(∀a∈as,H a=none)∧as.Nodup∧p∉as)
  ⟨[],none,rfl,sm0,hp0,⟨rfl,fun i a e=>by simp at e⟩,(fun a ha=>by cases ha),Hh,(fun h=>by cases h)⟩ (fun i σ H' _ h_=>by obtain ⟨as,v3,_,sm,_⟩:=h_;exact SqL.of (sm _ _ hT.si)) ?_ ?_
 · rintro i v σ H' hv ⟨as,v3,rfl,sm,hp',hA,hn,nd,hpn⟩
   have hi:i < s.zs.length:=by
    have:=(Fe.mp hv).1;rw [Fa]at this;exact this
   have hgi:s.zs[i]?=some (s.zs.getD i 0):=Ei hi;rw [Fg,hgi]at hv;cases hv;have hz1:=hz _ (Fk hgi);have hpn0:=Im (fun z h=>(hz z h).1) i;rw [Sn hi];have hal:as.length≤i:=Hm hA.1;walk_at "go";refine ⟨.inl ⟨rfl,_,SqL.of hp'⟩,Z0,dx,fs,sm _ _ ho,T.Z3,T.Zl,_,hf.ro,x.ro,rfl,_,SqL.of (sm _ _ hT.ro),fun l hl=>?_⟩;rw [Pu hz hi];have npl:p≠l:=A2 hp' hl;have sm2:A9 H' (upd H' l (.lst ((lvl s.zs s.R i).map V.str))):=A9.new hl
   have hlH:H l=none:=by
    cases e:H l with
    | none=>rfl
    | some o=>rw [sm _ _ e]at hl;cases hl
   refine ⟨p,_,_,rfl,rfl,sm2 _ _ hp',by rw [Fa];omega,?_⟩
   have hla:l∉as:=fun h=>by
    obtain ⟨j,hj⟩:=FE.mp h;rw [hA.2 j l hj]at hl;cases hl
   have sm3:A9 H (upd (upd H' l (.lst ((lvl s.zs s.R i).map V.str))) p (.lst (as.map V.ref++[V.ref l]))):=fun b o e=>by rw [A3 (A2 e hp)];exact (sm.trans sm2) _ _ e
   have hp3:upd (upd H' l (.lst ((lvl s.zs s.R i).map V.str))) p (.lst (as.map V.ref++[V.ref l])) p=some (.lst ((as++[l]).map V.ref)):=by rw [A5,FC];rfl
   have hA3:X6 (upd (upd H' l (.lst ((lvl s.zs s.R i).map V.str))) p (.lst (as.map V.ref++[V.ref l]))) (as++[l]) s.zs s.R (i+1):=by
    refine ⟨by rw [Fj,hA.1];rfl,fun j a e=>?_⟩
    by_cases hj:j < as.length
    · rw [Fw hj]at e
      have h1:=hA.2 j a e;rw [A3 (fun z=>hpn (by rw [← z];exact Fk e))];exact sm2 _ _ h1
    · rw [FB (by omega)]at e
      have hj0:j=i:=by
       have h1:=(Fe.mp e).1;have h2:=hA.1;simp at h1;omega
      rw [show j - as.length=0 by have:=hA.1;omega]at e;cases e;rw [A3 npl.symm,A5,hj0]
   generalize upd (upd H' l (.lst ((lvl s.zs s.R i).map V.str))) p (.lst (as.map V.ref++[V.ref l]))=H3 at sm3 hp3 hA3 ⊢;walk_at "go";refine ⟨as++[l],hp3,hA3,fun a ha=>?_,?_,fun h=>?_⟩
   · rcases Fn.mp ha with ha | ha
     · exact hn a ha
     · rw [Fc.mp ha];exact hlH
   · exact Hz.mpr ⟨nd,FO.mpr ⟨FQ,Hh⟩,fun a ha b hb e=>hla (by rw [← Fc.mp hb,← e];exact ha)⟩
   · rcases Fn.mp h with h | h
     · exact hpn h
     · exact npl (Fc.mp h)
 · rintro σ H' ⟨as,v3,rfl,sm,hp',hA,hn,nd,hpn⟩
   rw [Fa]at hA;walk_at "go";exact q p as _ hp sm hp' hA hn nd hpn
variable (Zw:Cd P w K mg base CX0 1 Z0 "levels" ["self"] (Ct Z0))
include T Z7 Zw in
theorem Z4n(F:Fun K "shelf_of" "Tower.shelf_of" Z1e f fd):Au P w K mg base CX0 4 f fd ["self","name"] (Dt K Z0 Z2):=by
 have sc:Ab ["self","name","number","names"] ["self","name"] (A7 Z1e):=by walk_at "sc"
 walk_at "ok"
 · exact n5 h_ fun _ _ _ _ _=>rfl
 refine x5 h_ fun t x s z ts e_=>y9 e_ fun e0 hT hs nd hz hzl hzz hRs q=>?_;clear e_ h_;subst e0
 refine ⟨_,(@A1 _ _ _ _ _ (Ai (Ak Z7 T.Za hr (Ax Ad) (Af (pv 0) rfl) (A0 (pv 1) A4)))
  (@A1 _ _ _ _ _ (D8 PassesOwn.never rfl (Ps rfl T.Z1f (A0 (Ey Zw T.Z3 hr (Ax Ad) (pv 0)) A4)) (N9 rfl (Cq (Bj (i:=2) sc.nd rfl (Or.inl rfl)) (Cq (Bj (i:=3) sc.nd rfl (Or.inl rfl)) Kw)))
   (@A6 _ _ _ (Az (Aj Ck (pv 1) (pv 3) (by with_unfolding_all rfl))
    (@A6 _ _ _ (@Ae _ _ _ _ (pv 2)))
    Ah)))
  (@A6 _ _ _ (@Ae _ _ _ _ (Aq Ar rfl T.Zf Fy (A0 (Af (pv 0) rfl) A4)))))),?_⟩
 walk_at "st";obtain ⟨dx,fs,ho,hf⟩:=hT.o;obtain ⟨dy,e,kvs,h1,h2,h3,h4,h5⟩:=Aw.has hs.at;walk_at "go";refine ⟨Z0,dx,fs,ho,T.Z3,T.Z0c,_,hf.st,x.st,rfl,dy,flds e,h1,by rfl,x.st,rfl,ts,hs.at,nd,hz,fun i t' ht' e'=>?_⟩;clear e' ht';walk_at "go";refine ⟨dx,fs,ho,hf.m _ (by simp),x,s,hT,hzl,hzz,fun p as H1 hp sm1 hp1 hA han nda hpn=>⟨⟨_,SqL.of hp1⟩,?_⟩⟩;rename_i rest hrest;refine Pt (xs:=as.map V.ref) (fun i σ H'=>∃(v2 v3:Option V),σ=[some (V.ref t),some (V.str z),v2,v3]∧A9 H1 H'∧∀j,j < i→z∉lvl s.zs s.R j) ⟨none,none,rfl,A9.refl _,fun j hj=>absurd hj (Nat.not_lt_zero j)⟩ (fun i σ H' _ h_=>by obtain ⟨v2,v3,_,sm,_⟩:=h_;exact SqL.of (sm _ _ hp1)) ?_ ?_
 · rintro i v σ H' u hv ⟨v2,v3,rfl,sm,hno⟩ hu
   have hi:i < as.length:=by
    have:=(Fe.mp hv).1;rw [Fa]at this;exact this
   have hai:as[i]?=some as[i]:=Fd hi;rw [Fg,hai]at hv;cases hv;have hla:=(sm.trans (A9.new (o:= .tup [.int i,.ref as[i]]) hu)) _ _ (hA.2 i _ hai);have smu:=sm.trans (A9.new (o:= .tup [.int i,.ref as[i]]) hu);walk_at "go";refine ⟨_,SqT.of A5,rfl,_,_,rfl,_,_,rfl,rfl,?_⟩;generalize upd H' u (.tup [.int i,.ref as[i]])=H2 at hla smu ⊢
   have hzl2:i < s.zs.length:=by have:=hA.1;omega
   walk_at "go";refine Nr (SqL.of hla) ⟨_,rfl,?_⟩
   by_cases hin:z∈lvl s.zs s.R i
   · rw [if_pos (by simpa using hin)]
     walk_at "go";exact q i H2 (sm1.trans smu) (by omega) ⟨fun _=>K6 hin,fun _=>hzl2⟩ (Hm (Py hzl2 hin hno)) (Hm (Py hzl2 hin hno).symm)
   · rw [if_neg (by simpa using hin)]
     walk_at "go";intro j hj
     by_cases e:j=i
     · rw [e];exact hin
     · exact hno j (by omega)
 · rintro σ H' ⟨v2,v3,rfl,sm,hno⟩
   rw [Fa,hA.1]at hno;have smA:=sm1.trans sm;walk_at "go";refine ⟨Z0,dx,fs,smA _ _ ho,T.Z3,T.Zr,_,hf.si,x.si,rfl,_,.inl (SqL.of (smA _ _ hT.si)),?_⟩;rw [Fa];refine q s.zs.length H' smA (Ff _) ⟨fun h=>absurd h (HB _),fun h=>?_⟩ (Hm (Nw hno)) (Hm (Nw hno).symm);obtain ⟨j,hj,hjz⟩:=Vw (fun z h=>(hzz z h).1) hRs h;exact absurd hjz (hno j hj)
variable (Z9:Cd P w K mg base CX0 4 Z0 "shelf_of" ["self","name"] (Dt K Z0 Z2))
include T Z7 in
theorem Z50(F:Fun K "stored" "Tower.stored" Z1z f fd):Au P w K mg base CX0 4 f fd ["self","name"] (Cu K Z0 Z2):=by
 have sc:Ab ["self","name"] ["self","name"] (A7 Z1z):=by walk_at "sc"
 walk_at "ok"
 · exact n8 h_ fun _ _ _ _ _ _ _ _=>rfl
 refine x8 h_ fun t x s g z ts B hd e_=>y7 e_ fun e0 hT hs nd hz hL q=>?_;clear e_ h_;subst e0
 refine ⟨_,(@A1 _ _ _ _ _ (Ai (Ak Z7 T.Za hr (Ax Ad) (Af (pv 0) rfl) (A0 (pv 1) A4)))
  (@A6 _ _ _ (@Ae _ _ _ _ (L4 (Ao hr) (Af (pv 0) rfl) (pv 1) Aa ⟨rfl,rfl,rfl,rfl⟩)))),?_⟩
 walk_at "st";obtain ⟨dx,fs,ho,hf⟩:=hT.o;obtain ⟨dy,e,kvs,h1,h2,h3,h4,h5⟩:=Aw.has hs.at;walk_at "go";refine ⟨Z0,dx,fs,ho,T.Z3,T.Z0c,_,hf.st,x.st,rfl,dy,flds e,h1,by rfl,x.st,rfl,ts,hs.at,nd,hz,fun i t' ht' e'=>?_⟩;clear e' ht';walk_at "go";refine ⟨Z0,dx,fs,ho,T.Z3,T.Z0o,_,hf.so,x.so,rfl,.inl ⟨_,.inl hT.so⟩,_,Br.k (k:=Sum.inr z) hT.so,?_⟩;have hst:=hL.st z
 cases hv:Ay s.ks (Sum.inr z) with
 | none=>rw [hv]at hst;rw [← hst]at q;exact q
 | some v=>rw [hv]at hst;rw [← hst]at q;exact q
variable (Zx:Cd P w K mg base CX0 4 Z0 "stored" ["self","name"] (Cu K Z0 Z2))
include T Ze Zx in
theorem Z5b(F:Fun K "fetch" "Tower.fetch" Z2d f fd):Au P w K mg base CX0 5 f fd ["self","word","name"] (Ds K Z0 Z2):=by
 have sc:Ab ["self","word","name"] ["self","word","name"] (A7 Z2d):=by walk_at "sc"
 walk_at "ok"
 · exact n9 h_ fun _ _ _ _ _ _ _ _ _=>rfl
 refine x9 h_ fun t x s g w2 z ts B p e_=>y8 e_ fun e0 hT hs nd hz hL hB q=>?_;clear e_ h_;subst e0
 refine ⟨_,(@A1 _ _ _ _ _ (O9 (pv 0) (Ak Ze T.Za hr (Ax Ad) (Af (pv 0) rfl) (A0 (pv 2) A4)) Xz)
  (@A1 _ _ _ _ _ (Ai (D3 Fx FY FX Dg (Af (pv 0) rfl) (A0 (G6 (A0 (pv 1) (A0 (pv 2) A4))) A4)))
  (@A6 _ _ _ (Bt (Ao hr) (Af (pv 0) rfl) (pv 2) (Ak Zx T.Z3 hr (Ax Ad) (pv 0) (A0 (pv 2) A4)) rfl)))),?_⟩
 walk_at "st";obtain ⟨dx,fs,ho,hf⟩:=hT.o;obtain ⟨dy,e,kvs,h1,h2,h3,h4,h5⟩:=Aw.has hs.at;walk_at "go";refine ⟨Z0,dx,fs,ho,T.Z3,T.Z0s,_,hf.pd,Z0,dx,fs,ho,T.Z3,T.Z0c,_,hf.st,x.st,rfl,dy,flds e,h1,by rfl,x.st,rfl,ts,hs.at,nd,hz,fun i t' ht' e'=>⟨_,_,rfl,rfl,dx,fs,ho,by have:=hf.n;omega,?_⟩⟩;have ec:pick 1 i t'=Bd ts z:=(M6 nd ht' e').symm;rw [ec];clear e' ec;have hT1:=hT.paid ho hf (s.pd+Bd ts z);have o1:Off (own t x) H (upd H t (.ins Z0 dx (Am (Str.ofString "paid") (.int (s.pd+Bd ts z)) fs))):=Off.put (by simp [own]);generalize upd H t (.ins Z0 dx (Am (Str.ofString "paid") (.int (s.pd+Bd ts z)) fs))=H1 at hT1 o1 ⊢;clear ht';obtain ⟨dx1,fs1,ho1,hf1⟩:=hT1.o;have n4:=hL.n4;walk_at "go";refine ⟨Z0,dx1,fs1,ho1,T.Z3,T.Z0e,_,hf1.en,.inl ⟨rfl,_,SqL.of hT1.en⟩,by omega,fun u hu=>?_⟩;have sm2:A9 H1 (upd H1 u (.tup [.str w2,.str z])):=A9.new hu;have hT2:=hT1.same sm2;have hu2:upd H1 u (.tup [.str w2,.str z]) u=some (.tup [.str w2,.str z]):=A5
 have nue:u≠x.en:=(A2 hT1.en hu).symm;have o2:Off (own t x) H (upd H1 u (.tup [.str w2,.str z])):=o1.trans (.of sm2);generalize upd H1 u (.tup [.str w2,.str z])=H2 at hT2 o2 hu2 ⊢;refine ⟨x.en,_,_,rfl,rfl,hT2.en,by show s.es.length < _;omega,?_⟩;have hT3:=hT2.entry (s.es++[.ref u]);have o3:Off (own t x) H (upd H2 x.en (.lst (s.es++[.ref u]))):=o2.trans (Off.put (by simp [own]));have hs3:=hs.off o3
 have hu3:upd H2 x.en (.lst (s.es++[.ref u])) u=some (.tup [.str w2,.str z]):=by rw [A3 nue];exact hu2
 have hst:=hL.st;walk_at "go";show _;generalize upd H2 x.en (.lst (s.es++[.ref u]))=H3 at hT3 o3 hs3 hu3 ⊢;obtain ⟨dx3,fs3,ho3,hf3⟩:=hT3.o
 have hL3:=(hL.fetched (Mh hT o3) hu3 (by omega) (pd:=s.pd+Bd ts z))
 have oF:Off (own t x) H3 (upd H3 x.he (.dK (B1 s.kh (Sum.inr z) (.int (g.st z))))):=Off.put (by simp [own]);have n1:=hL.n1;have hL2:=hL.noted (Mh hT o3) hu3 rfl (by omega) (pd:=s.pd+Bd ts z);have fin:=q {s with pd:=s.pd+Bd ts z,es:=s.es++[.ref u],kh:=B1 s.kh (Sum.inr z) (.int (g.st z))} _ (o3.trans oF) (hT3.held (B1 s.kh (Sum.inr z) (.int (g.st z)))) rfl rfl rfl rfl (hL3.off hT3 oF);exact ⟨dx3,fs3,ho3,hf3.m _ (by simp),x,_,hT3,_,ts,hs3,nd,hz,_,_,hL2,Z0,dx3,fs3,ho3,T.Z3,T.Zn,_,hf3.he,x.he,rfl,_,Ea.k (k:=Sum.inr z) hT3.he (by show s.kh.length < _;omega),fin⟩
variable (Z01:Cd P w K mg base CX0 5 Z0 "fetch" ["self","word","name"] (Ds K Z0 Z2))
include T Z9 Z01 Zj in
theorem Z6b(F:Fun K "read" "Tower.read" Z37 f fd):Au P w K mg base CX0 6 f fd ["self","name"] (Du K Z0 Z2):=by
 have sc:Ab ["self","name","place"] ["self","name"] (A7 Z37):=by walk_at "sc"
 walk_at "ok"
 · exact n7 h_ fun _ _ _ _ _ _ _=>rfl
 refine x7 h_ fun t x s g z ts B e_=>y5 e_ fun e0 hG hz hB q=>?_;clear e_ h_;subst e0
 refine ⟨_,(@A1 _ _ _ _ _ (As (i:=2) sc.nd rfl (Or.inl rfl) (Ak Z9 T.Z3 hr (Ax Ad) (pv 0) (A0 (pv 1) A4)))
  (@A1 _ _ _ _ _ (Mo (Af (pv 0) rfl) (pv 2) La Aa Lj Et)
  (@A1 _ _ _ _ _ (Az (Aj D1 (pv 2) (Aq Ar rfl T.Zf Fy (A0 (Af (pv 0) rfl) A4)) (nomark _))
   (@A6 _ _ _ (Ai (Ak Z01 T.Z3 hr (Ax Ad) (pv 0) (A0 A8 (A0 (pv 1) A4)))))
   Ah)
  (@A1 _ _ _ _ _ (Ai (Ak Zj T.Z3 hr (Ax Ad) (pv 0) (A0 (pv 1) A4)))
  (@A6 _ _ _ (@Ae _ _ _ _ (An (Ao hr) (Af (pv 0) rfl) (pv 1) (fun _ _=>rfl)))))))),?_⟩
 walk_at "st";have hW:=hG.to;obtain ⟨dx,fs,ho,hf⟩:=hW.tw.o;walk_at "go";refine ⟨dx,fs,ho,hf.m _ (by simp),x,s,hW.tw,ts,hW.sk,hW.tn,hz,hW.zl,hW.zz,hW.rs,fun k H1 sm1 hk hkR hk1 hk2=>?_⟩;have hT1:=hW.tw.same sm1;have o1:Off (own t x) H H1:= .of sm1;obtain ⟨dx1,fs1,ho1,hf1⟩:=hT1.o;have hfl:=hW.ff;have hgk:s.ff[k]?=some (s.ff.getD k 0):=Ei (by omega);walk_at "go";refine ⟨Z0,dx1,fs1,ho1,T.Z3,T.Z0d,_,hf1.fi,?_⟩;refine ⟨x.fi,s.ff.map V.int,k,V.int (s.ff.getD k 0),rfl,rfl,SqL.of hT1.fi,by rw [Fg,hgk];rfl,?_⟩;walk_at "go";refine ⟨_,hT1.fi,k,by rw [Fa];exact M3 (by omega),?_⟩;rw [← R9];have hT2:=hT1.find (s.ff.set k (s.ff.getD k 0+1));have o2:Off (own t x) H (upd H1 x.fi (.lst ((s.ff.set k (s.ff.getD k 0+1)).map V.int))):=o1.trans (Off.put (by simp [own]))
 have hff2:(s.ff.set k (s.ff.getD k 0+1)).length=s.zs.length+1:=by rw [Hw];exact hfl
 have hfb:s.ff.set k (s.ff.getD k 0+1)=bump s.ff (shx s.zs s.R z)∧True:=⟨by rw [show shx s.zs s.R z=k by omega];rfl,trivial⟩
 generalize upd H1 x.fi (.lst ((s.ff.set k (s.ff.getD k 0+1)).map V.int))=H2 at hT2 o2 ⊢;generalize s.ff.set k (s.ff.getD k 0+1)=ff2 at hT2 hff2 hfb;have hs2:=hW.sk.off o2;have hL2:=(hG.g.off hW.tw o2).cast (s':={s with ff:=ff2}) rfl rfl rfl rfl;obtain ⟨dx2,fs2,ho2,hf2⟩:=hT2.o;clear hT1 o1 ho1 hf1 hgk hfl;walk_at "go";refine ⟨Z0,dx2,fs2,ho2,T.Z3,T.Zr,_,hf2.si,x.si,rfl,_,.inl (SqL.of hT2.si),?_⟩;rw [Fa];rename_i rest hrest
 have key:∀(s3:TwS) (H3:Hp),Off (own t x) H H3→Bh Z0 H3 t x s3→s3.R=s.R→s3.zs=s.zs→s3.ff=ff2→s3.pd=s.pd+(if z∈s.R then 0 else Bd ts z)→TwG H3 s3 (if z∈s.R then g else E6 (Str.ofString "fetch") z g) (B+1) (fun y=>y∈s.R∨y=z)→rest [some (V.ref t),some (V.str z),some (V.int k)] H3:=by
  intro s3 H3 o3 hT3 eR eZ eF eP hL3;obtain ⟨dx3,fs3,ho3,hf3⟩:=hT3.o;have hrl:=hW.rl;have hrs:=hW.rs;have hs1:=hW.s1;subst hrest;walk_at "go";refine ⟨dx3,fs3,ho3,hf3.m _ (by simp),x,s3,hT3,_,B+1,by rw [eR];exact hL3,by omega,by rw [eR];exact hW.nd,by rw [eR];omega,by rw [eR,eZ];exact hrs,by rw [eZ];exact hs1,fun s4 H4 o4 hT4 eR4 eZ4 eF4 eP4 hL4=>?_⟩;rw [eR,eZ]at hL4;obtain ⟨dx4,fs4,ho4,hf4⟩:=hT4.o
  have eR5:s4.R=E8 z s:=by rw [eR4,eR,eZ];rfl
  have hzin:z∈s4.R:=by
   rw [eR5];unfold E8
   obtain ⟨n,hn⟩:∃n,s.zs.sum.toNat=n+1:=⟨s.zs.sum.toNat - 1,by omega⟩
   rw [hn,HQ];exact Fi
  have hi:=hL4.h z hzin;walk_at "go";refine ⟨Z0,dx4,fs4,ho4,T.Z3,T.Zn,_,hf4.he,x.he,rfl,.int ((Dq s.zs.sum s.R z g).h z),by rw [← show Ay s4.kh (Sum.inr z)=some (.int ((Dq s.zs.sum s.R z g).h z)) from hi];exact Br.k (k:=Sum.inr z) hT4.he,?_⟩;have o5:=o3.trans o4;exact q s4 H4 o5 ⟨G1 hW hz o5 hT4 eR5 (by rw [eZ4,eZ]) hL4.toL (by rw [eF4];exact hff2),hL4⟩ eR5 (by rw [eZ4,eZ]) (by rw [eP4,eP]) (by rw [eF4];exact hfb.1)
 clear hrest;have hl:=hW.l
 by_cases hk2:k=s.zs.length
 · rw [if_pos (by show (k:Int)=(s.zs.length:Int);omega)]
   have hzR:z∉s.R:=fun h=>by have:=hkR.mpr h;omega
   refine ⟨dx2,fs2,ho2,hf2.m _ (by simp),x,_,hT2,g,ts,hs2,hW.tn,hz,B,_,hL2,by omega,fun s3 H3 o3 hT3 e1 e2 e3 e4 hL3=>key s3 H3 (o2.trans o3) hT3 e1 e2 e3 (by rw [e4,if_neg hzR]) (by rw [if_neg hzR];exact hL3)⟩
 · rw [if_neg (by show ¬(k:Int)=(s.zs.length:Int);omega)]
   have hzR:z∈s.R:=hkR.mp (by omega);have hl2:=hL2.iff (q:=fun y=>y∈s.R∨y=z) (B':=B+1) (fun u=>⟨.inl,fun h=>h.elim id fun e=>by rw [e];exact hzR⟩) (by omega) (by omega);exact key _ H2 o2 hT2 rfl rfl rfl (by rw [if_pos hzR,RU]) (by rw [if_pos hzR];exact hl2)
variable (Z1k:Cd P w K mg base CX0 6 Z0 "read" ["self","name"] (Du K Z0 Z2))
include T Z9 Zd Z0t Zj in
theorem Z6c(F:Fun K "keep" "Tower.keep" Z38 f fd):Au P w K mg base CX0 6 f fd ["self","name","value"] (Dv K Z0 Z2 true):=by
 have sc:Ab ["self","name","value","place"] ["self","name","value"] (A7 Z38):=by walk_at "sc"
 walk_at "ok"
 · exact n8 h_ fun _ _ _ _ _ _ _ _=>rfl
 refine x8 h_ fun t x s g z v ts B e_=>y7 e_ fun e0 hv1 hv2 hG hz hB q=>?_;clear e_ h_;subst e0
 refine ⟨_,(@A1 _ _ _ _ _ (As (i:=3) sc.nd rfl (Or.inl rfl) (Ak Z9 T.Z3 hr (Ax Ad) (pv 0) (A0 (pv 1) A4)))
  (@A1 _ _ _ _ _ (Az (G3 (Eg (Ag Zd hr rfl Ad (A0 (pv 2) (A0 (Al Ll Aa (Al Kn Aa Aa)) (A0 (Al Kn Aa Aa) A4))))))
   (@A6 _ _ _ Bm)
   Ah)
  (@A1 _ _ _ _ _ (Mo (Af (pv 0) rfl) (pv 3) La Aa Lj Et)
  (@A1 _ _ _ _ _ (Bt (Ao hr) (Af (pv 0) rfl) (pv 1) (pv 2) rfl)
  (@A1 _ _ _ _ _ (Ai (Ak Z0t T.Z3 hr (Ax Ad) (pv 0) (A0 (pv 1) A4)))
  (@A6 _ _ _ (Ai (Ak Zj T.Z3 hr (Ax Ad) (pv 0) (A0 (pv 1) A4))))))))),?_⟩
 walk_at "st";have hW:=hG.to;obtain ⟨dx,fs,ho,hf⟩:=hW.tw.o;have hrl:=hW.rl;have hrs:=hW.rs;have hs1:=hW.s1;walk_at "go";refine ⟨dx,fs,ho,hf.m _ (by simp),x,s,hW.tw,ts,hW.sk,hW.tn,hz,hW.zl,hW.zz,hW.rs,fun k H1 sm1 hk hkR hk1 hk2=>?_⟩;have hT1:=hW.tw.same sm1;have o1:Off (own t x) H H1:= .of sm1;obtain ⟨dx1,fs1,ho1,hf1⟩:=hT1.o;have hfl:=hW.ff;have hgk:s.ff[k]?=some (s.ff.getD k 0):=Ei (by omega)
 have hw:wIn (0 - 10 ^ 30) (10 ^ 30) (V.int v)=true:=by simp [wIn];omega
 walk_at "go";refine ⟨rfl,?_⟩;rw [if_neg (by rw [hw];decide)];walk_at "go";refine ⟨Z0,dx1,fs1,ho1,T.Z3,T.Z0d,_,hf1.fi,?_⟩;refine ⟨x.fi,s.ff.map V.int,k,V.int (s.ff.getD k 0),rfl,rfl,SqL.of hT1.fi,by rw [Fg,hgk];rfl,?_⟩;walk_at "go";refine ⟨_,hT1.fi,k,by rw [Fa];exact M3 (by omega),?_⟩;rw [← R9];have hT2:=hT1.find (s.ff.set k (s.ff.getD k 0+1));have o2:Off (own t x) H (upd H1 x.fi (.lst ((s.ff.set k (s.ff.getD k 0+1)).map V.int))):=o1.trans (Off.put (by simp [own]))
 have hff2:(s.ff.set k (s.ff.getD k 0+1)).length=s.zs.length+1:=by rw [Hw];exact hfl
 have hfb:s.ff.set k (s.ff.getD k 0+1)=bump s.ff (shx s.zs s.R z)∧True:=⟨by rw [show shx s.zs s.R z=k by omega];rfl,trivial⟩
 generalize upd H1 x.fi (.lst ((s.ff.set k (s.ff.getD k 0+1)).map V.int))=H2 at hT2 o2 ⊢;generalize s.ff.set k (s.ff.getD k 0+1)=ff2 at hT2 hff2 hfb;have hL2:=(hG.g.off hW.tw o2).cast (s':={s with ff:=ff2}) rfl rfl rfl rfl;obtain ⟨dx2,fs2,ho2,hf2⟩:=hT2.o;clear hT1 o1 ho1 hf1 hgk hfl;have n1:=hG.g.n1;walk_at "go";refine ⟨Z0,dx2,fs2,ho2,T.Z3,T.Zn,_,hf2.he,x.he,rfl,_,Ea.k (k:=Sum.inr z) hT2.he (by show s.kh.length < _;omega),?_⟩;have hT3:=hT2.held (B1 s.kh (Sum.inr z) (.int v));have oP:Off (own t x) H2 (upd H2 x.he (.dK (B1 s.kh (Sum.inr z) (.int v)))):=Off.put (by simp [own]);have o3:=o2.trans oP;have hL3:=(hL2.kept (z:=z) v (by omega)).off hT2 oP;walk_at "go";show _;generalize upd H2 x.he (.dK (B1 s.kh (Sum.inr z) (.int v)))=H3 at hT3 o3 hL3 ⊢;obtain ⟨dx3,fs3,ho3,hf3⟩:=hT3.o;refine ⟨dx3,fs3,ho3,hf3.m _ (by simp),x,_,hT3,_,B+1,_,hL3,by omega,.inr rfl,fun s4 H4 o4 hT4 eR eZ eF eP hL4=>?_⟩;obtain ⟨dx4,fs4,ho4,hf4⟩:=hT4.o
 have eR':s4.R=s.R:=eR;have eZ':s4.zs=s.zs:=eZ;have eP':s4.pd=s.pd:=eP
 have eF':s4.ff=ff2∧True:=⟨eF,trivial⟩
 clear eR eZ eF eP;walk_at "go";refine ⟨dx4,fs4,ho4,hf4.m _ (by simp),x,s4,hT4,_,B+2,by rw [eR'];exact hL4,by omega,by rw [eR'];exact hW.nd,by rw [eR'];omega,by rw [eR',eZ'];exact hrs,by rw [eZ'];exact hs1,fun s5 H5 o5 hT5 eR5 eZ5 eF5 eP5 hL5=>?_⟩;rw [eR',eZ']at hL5
 have eR6:s5.R=E8 z s:=by rw [eR5,eR',eZ'];rfl
 have o6:=(o3.trans o4).trans o5;walk_at "go";exact q s5 H5 o6 ⟨G1 hW hz o6 hT5 eR6 (by rw [eZ5,eZ']) hL5.toL (by rw [eF5,eF'.1];exact hff2),hL5⟩ eR6 (by rw [eZ5,eZ']) (by rw [eP5,eP']) (by rw [eF5,eF'.1];exact hfb.1)
variable (Z1l:Cd P w K mg base CX0 6 Z0 "keep" ["self","name","value"] (Dv K Z0 Z2 true))
include T Z9 Z01 Zj in
theorem Z5c(F:Fun K "ahead" "Tower.ahead" Z2e f fd):Au P w K mg base CX0 6 f fd ["self","name"] (Da K Z0 Z2):=by
 have sc:Ab ["self","name"] ["self","name"] (A7 Z2e):=by walk_at "sc"
 walk_at "ok"
 · exact n7 h_ fun _ _ _ _ _ _ _=>rfl
 refine x7 h_ fun t x s g z ts B e_=>y5 e_ fun e0 hG hz hB q=>?_;clear e_ h_;subst e0
 refine ⟨_,(@A1 _ _ _ _ _ (Az (Aj Nb (Ak Z9 T.Z3 hr (Ax Ad) (pv 0) (A0 (pv 1) A4)) (Aq Ar rfl T.Zf Fy (A0 (Af (pv 0) rfl) A4)) (nomark _))
  (@A6 _ _ _ (@Ae _ _ _ _ Gz))
  Ah)
  (@A1 _ _ _ _ _ (Ai (Ak Z01 T.Z3 hr (Ax Ad) (pv 0) (A0 A8 (A0 (pv 1) A4))))
  (@A1 _ _ _ _ _ (Ai (Ak Zj T.Z3 hr (Ax Ad) (pv 0) (A0 (pv 1) A4)))
  (@A6 _ _ _ (@Ae _ _ _ _ Gz))))),?_⟩
 walk_at "st";have hW:=hG.to;obtain ⟨dx,fs,ho,hf⟩:=hW.tw.o;have hrl:=hW.rl;have hrs:=hW.rs;have hs1:=hW.s1;walk_at "go";refine ⟨dx,fs,ho,hf.m _ (by simp),x,s,hW.tw,ts,hW.sk,hW.tn,hz,hW.zl,hW.zz,hW.rs,fun k H1 sm1 hk hkR hk1 hk2=>?_⟩;have hG1:=hG.same sm1;have hT1:=hG1.to.tw;have o1:Off (own t x) H H1:= .of sm1;have hs2:=hW.sk.off o1;obtain ⟨dx1,fs1,ho1,hf1⟩:=hT1.o;refine ⟨Z0,dx1,fs1,ho1,T.Z3,T.Zr,_,hf1.si,x.si,rfl,_,.inl (SqL.of hT1.si),?_⟩;rw [Fa]
 by_cases hk2:k < s.zs.length
 · rw [if_pos (by omega)]
   have hzR:=hkR.mp hk2
   have eG:D0 s.zs.sum s.R z g=g:=by unfold D0;rw [if_pos hzR]
   have:=q s H1 o1 (by rw [eG];exact ⟨hG1.to.up (by omega) (by omega),hG1.g.iff (fun _=>Iff.rfl) (by omega) (by omega)⟩) (by rw [if_pos hzR]) rfl (by rw [if_pos hzR,RU]) rfl;rw [FF (fun h=>h hzR)]at this;exact this
 · rw [if_neg (by omega)]
   have hzR:¬z∈s.R:=fun h=>hk2 (hkR.mpr h)
   have eG:D0 s.zs.sum s.R z g=Bk s.zs.sum s.R z (E6 (Str.ofString "ahead") z g):=by unfold D0;rw [if_neg hzR]
   walk_at "go";refine ⟨dx1,fs1,ho1,hf1.m _ (by simp),x,_,hT1,g,ts,hs2,hW.tn,hz,B,_,hG1.g,by omega,fun s3 H3 o3 hT3 eR eZ eF eP hL3=>?_⟩;obtain ⟨dx3,fs3,ho3,hf3⟩:=hT3.o;walk_at "go";refine ⟨dx3,fs3,ho3,hf3.m _ (by simp),x,s3,hT3,_,B+1,by rw [eR];exact hL3,by omega,by rw [eR];exact hW.nd,by rw [eR];omega,by rw [eR,eZ];exact hrs,by rw [eZ];exact hs1,fun s4 H4 o4 hT4 eR4 eZ4 eF4 eP4 hL4=>?_⟩;rw [eR,eZ]at hL4
   have eR5:s4.R=E8 z s:=by rw [eR4,eR,eZ];rfl
   have o5:=(o1.trans o3).trans o4;walk_at "go";have:=q s4 H4 o5 (by rw [eG];exact ⟨G1 hW hz o5 hT4 eR5 (by rw [eZ4,eZ]) hL4.toL (by rw [eF4,eF];exact hW.ff),hL4⟩) (by rw [eR5,if_neg hzR]) (by rw [eZ4,eZ]) (by rw [eP4,eP,if_neg hzR]) (by rw [eF4,eF]);rw [FI (show z∉s.R from hzR)]at this;exact this
variable (Z12:Cd P w K mg base CX0 6 Z0 "ahead" ["self","name"] (Da K Z0 Z2))
include T in
theorem Z5d(F:Fun K "found" "Tower.found" Z2f f fd):Au P w K mg base CX0 1 f fd ["self"] (Dc Z0):=by
 have sc:Ab ["self"] ["self"] (A7 Z2f):=by walk_at "sc"
 walk_at "ok"
 · exact n3 h_ fun _ _ _=>rfl
 refine x3 h_ fun t x s e_=>y3 e_ fun e0 hT q=>?_;clear e_ h_;subst e0;refine ⟨_,(@A6 _ _ _ (@Ae _ _ _ _ (B0 Dk rfl T.Z2u (by first | rfl | decide+kernel) (A0 (Af (pv 0) rfl) A4)))),?_⟩;walk_at "st";obtain ⟨dx,fs,ho,hf⟩:=hT.o;walk_at "go";exact ⟨Z0,dx,fs,ho,T.Z3,T.Z0d,_,hf.fi,x.fi,rfl,_,.inl (SqL.of hT.fi),fun l hl=>q l _ hl (A9.new hl) A5⟩
variable (Z13:Cd P w K mg base CX0 1 Z0 "found" ["self"] (Dc Z0))
include T in
theorem Z5e(F:Fun K "spent" "Tower.spent" Z2g f fd):Au P w K mg base CX0 1 f fd ["self"] (D9 Z0):=by
 have sc:Ab ["self"] ["self"] (A7 Z2g):=by walk_at "sc"
 walk_at "ok"
 · exact n3 h_ fun _ _ _=>rfl
 refine x3 h_ fun t x s e_=>y3 e_ fun e0 hT q=>?_;clear e_ h_;subst e0;refine ⟨_,(@A6 _ _ _ (@Ae _ _ _ _ (Af (pv 0) rfl))),?_⟩;walk_at "su";obtain ⟨dx,fs,ho,hf⟩:=hT.o;walk_at "go";exact ⟨Z0,dx,fs,ho,T.Z3,T.Z0s,_,hf.pd,q⟩
variable (Z14:Cd P w K mg base CX0 1 Z0 "spent" ["self"] (D9 Z0))
include T Z04 Z05 Zi in
theorem Z6d(F:Fun K "__init__" "Tower.__init__" Z39 f fd):Au P w K mg base CX0 5 f fd ["self","stock","sizes"] (Ef K Z0 Z2):=by
 have sc:Ab ["self","stock","sizes"] ["self","stock","sizes"] (A7 Z39):=by walk_at "sc"
 walk_at "ok"
 · exact n6 h_ fun _ _ _ _ _ _=>rfl
 refine x6 h_ fun t dx p a ts zs e_=>y11 e_ fun e0 ht hs nd hr1 htl hS hz1 hz6 hzz q=>?_;clear e_ h_;subst e0
 refine ⟨_,(@A1 _ _ _ _ _ (Ai (Ag Z04 hr rfl Ad (A0 (pv 2) A4)))
  (@A1 _ _ _ _ _ (Ai (Ag Z05 hr rfl Ad (A0 (pv 1) (A0 (Ey Zi T.Za hr (Ax Ad) (pv 1)) A4))))
  (@A1 _ _ _ _ _ (Bl (pv 0) (pv 1) rfl)
  (@A1 _ _ _ _ _ (Bl (pv 0) (B0 Dk rfl T.Z2u (by first | rfl | decide+kernel) (A0 (pv 2) A4)) rfl)
  (@A1 _ _ _ _ _ (Bl (pv 0) (@Bv _ _ _ _ A4) rfl)
  (@A1 _ _ _ _ _ (Bl (pv 0) C4 rfl)
  (@A1 _ _ _ _ _ (Bl (pv 0) C4 rfl)
  (@A1 _ _ _ _ _ (Bl (pv 0) C4 rfl)
  (@A1 _ _ _ _ _ (Bl (pv 0) (@Bv _ _ _ _ A4) rfl)
  (@A1 _ _ _ _ _ (Bl (pv 0) (Al Tn (@Bv _ _ _ _ (A0 Aa A4)) (Al Cm (Aq Ar rfl T.Zf Fy (A0 (pv 2) A4)) Aa)) rfl)
  (@A6 _ _ _ (Bl (pv 0) Aa rfl)))))))))))),?_⟩
 walk_at "st";obtain ⟨dy,e,kvs,h1,h2,h3,h4,h5⟩:=Aw.has hs;walk_at "go";refine ⟨zs,hS,hz1,hz6,hzz,?_⟩;walk_at "go";refine ⟨dy,flds e,h1,by rfl,ts,hs,fun l hl=>?_⟩;have sm1:A9 H (upd H l (.lst ((ts.map (·.1)).map V.str))):=A9.new hl;refine ⟨ts,hs.same sm1,nd,ts.map (·.1),SqL.of A5,fun y hy=>hy,hr1,by rw [Fa];omega,?_⟩;have ht1:=sm1 _ _ ht;have hs1:=B5.of (hs.same sm1);have hS1:=sm1.seq hS
 have nw:∀b,upd H l (.lst ((ts.map (·.1)).map V.str)) b=none→H b=none:=fun b hb=>by
  cases q:H b with
  | none=>rfl
  | some o=>rw [sm1 _ _ q]at hb;cases hb
 generalize upd H l (.lst ((ts.map (·.1)).map V.str))=H1 at sm1 ht1 hs1 hS1 nw ⊢;walk_at "go";refine ⟨Z0,dx,[],ht1,T.Z3,T.Z0c,by decide,?_⟩;have sbA:SameBut t H1 (upd H1 t (.ins Z0 dx (Am (Str.ofString "stock") (V.ref p) []))):=Er;have htA:upd H1 t (.ins Z0 dx (Am (Str.ofString "stock") (V.ref p) [])) t=some (.ins Z0 dx (Am (Str.ofString "stock") (V.ref p) [])):=A5;have hSA:=SqL.but sbA ht1 hS1;walk_at "go";show _;generalize upd H1 t (.ins Z0 dx (Am (Str.ofString "stock") (V.ref p) []))=HA at sbA htA hSA ⊢;intro si hsi;refine ⟨Z0,dx,_,by rw [A3 (A2 htA hsi)];exact htA,T.Z3,T.Zr,Fz (Ac (Ff _)) (by decide),?_⟩;obtain ⟨sb1,ht2,hsi1,k1,nsi,tsi,d1⟩:=C6 (o:= .lst (zs.map V.int)) (f:=Str.ofString "sizes") sbA htA hsi;walk_at "go";show _;generalize upd (upd HA si (.lst (zs.map V.int))) t (.ins Z0 dx (Am (Str.ofString "sizes") (V.ref si) (Am (Str.ofString "stock") (V.ref p) [])))=HB0 at sb1 ht2 k1 hsi1 ⊢
 intro ro hron;refine ⟨Z0,dx,_,by rw [A3 (A2 ht2 hron)];exact ht2,T.Z3,T.Zl,Fz (Ac (Ac (Ff _))) (by decide),?_⟩;obtain ⟨sb2,ht3,hro2,k2,nro,tro,d2⟩:=C6 (o:= .lst []) (f:=Str.ofString "row") sb1 ht2 hron;have hsi2:=k2 _ _ hsi1 tsi;have ne_ro_si:ro≠si:=(d2 _ _ hsi1).symm;walk_at "go";show _;generalize upd (upd HB0 ro (.lst [])) t (.ins Z0 dx (Am (Str.ofString "row") (V.ref ro) (Am (Str.ofString "sizes") (V.ref si) (Am (Str.ofString "stock") (V.ref p) []))))=HB1 at sb2 ht3 k2 hsi2 hro2 ⊢;intro he hhen;refine ⟨Z0,dx,_,by rw [A3 (A2 ht3 hhen)];exact ht3,T.Z3,T.Zn,Fz (Ac (Ac (Ac (Ff _)))) (by decide),?_⟩;obtain ⟨sb3,ht4,hhe3,k3,nhe,the,d3⟩:=C6 (o:= .dK []) (f:=Str.ofString "held") sb2 ht3 hhen;have hsi3:=k3 _ _ hsi2 tsi;have ne_he_si:he≠si:=(d3 _ _ hsi2).symm;have hro3:=k3 _ _ hro2 tro;have ne_he_ro:he≠ro:=(d3 _ _ hro2).symm;walk_at "go";show _
 generalize upd (upd HB1 he (.dK [])) t (.ins Z0 dx (Am (Str.ofString "held") (V.ref he) (Am (Str.ofString "row") (V.ref ro) (Am (Str.ofString "sizes") (V.ref si) (Am (Str.ofString "stock") (V.ref p) [])))))=HB2 at sb3 ht4 k3 hsi3 hro3 hhe3 ⊢;intro la hlan;refine ⟨Z0,dx,_,by rw [A3 (A2 ht4 hlan)];exact ht4,T.Z3,T.Z03,Fz (Ac (Ac (Ac (Ac (Ff _))))) (by decide),?_⟩;obtain ⟨sb4,ht5,hla4,k4,nla,tla,d4⟩:=C6 (o:= .dK []) (f:=Str.ofString "late") sb3 ht4 hlan;have hsi4:=k4 _ _ hsi3 tsi;have ne_la_si:la≠si:=(d4 _ _ hsi3).symm;have hro4:=k4 _ _ hro3 tro;have ne_la_ro:la≠ro:=(d4 _ _ hro3).symm;have hhe4:=k4 _ _ hhe3 the;have ne_la_he:la≠he:=(d4 _ _ hhe3).symm;walk_at "go";show _;generalize upd (upd HB2 la (.dK [])) t (.ins Z0 dx (Am (Str.ofString "late") (V.ref la) (Am (Str.ofString "held") (V.ref he) (Am (Str.ofString "row") (V.ref ro) (Am (Str.ofString "sizes") (V.ref si) (Am (Str.ofString "stock") (V.ref p) []))))))=HB3 at sb4 ht5 k4 hsi4 hro4 hhe4 hla4 ⊢
 intro so hson;refine ⟨Z0,dx,_,by rw [A3 (A2 ht5 hson)];exact ht5,T.Z3,T.Z0o,Fz (Ac (Ac (Ac (Ac (Ac (Ff _)))))) (by decide),?_⟩;obtain ⟨sb5,ht6,hso5,k5,nso,tso,d5⟩:=C6 (o:= .dK []) (f:=Str.ofString "store") sb4 ht5 hson;have hsi5:=k5 _ _ hsi4 tsi;have ne_so_si:so≠si:=(d5 _ _ hsi4).symm;have hro5:=k5 _ _ hro4 tro;have ne_so_ro:so≠ro:=(d5 _ _ hro4).symm;have hhe5:=k5 _ _ hhe4 the;have ne_so_he:so≠he:=(d5 _ _ hhe4).symm;have hla5:=k5 _ _ hla4 tla;have ne_so_la:so≠la:=(d5 _ _ hla4).symm;walk_at "go";show _;generalize upd (upd HB3 so (.dK [])) t (.ins Z0 dx (Am (Str.ofString "store") (V.ref so) (Am (Str.ofString "late") (V.ref la) (Am (Str.ofString "held") (V.ref he) (Am (Str.ofString "row") (V.ref ro) (Am (Str.ofString "sizes") (V.ref si) (Am (Str.ofString "stock") (V.ref p) [])))))))=HB4 at sb5 ht6 k5 hsi5 hro5 hhe5 hla5 hso5 ⊢;intro en henn;refine ⟨Z0,dx,_,by rw [A3 (A2 ht6 henn)];exact ht6,T.Z3,T.Z0e,Fz (Ac (Ac (Ac (Ac (Ac (Ac (Ff _))))))) (by decide),?_⟩
 obtain ⟨sb6,ht7,hen6,k6,nen,ten,d6⟩:=C6 (o:= .lst []) (f:=Str.ofString "entries") sb5 ht6 henn;have hsi6:=k6 _ _ hsi5 tsi;have ne_en_si:en≠si:=(d6 _ _ hsi5).symm;have hro6:=k6 _ _ hro5 tro;have ne_en_ro:en≠ro:=(d6 _ _ hro5).symm;have hhe6:=k6 _ _ hhe5 the;have ne_en_he:en≠he:=(d6 _ _ hhe5).symm;have hla6:=k6 _ _ hla5 tla;have ne_en_la:en≠la:=(d6 _ _ hla5).symm;have hso6:=k6 _ _ hso5 tso;have ne_en_so:en≠so:=(d6 _ _ hso5).symm;walk_at "go";show _;generalize upd (upd HB4 en (.lst [])) t (.ins Z0 dx (Am (Str.ofString "entries") (V.ref en) (Am (Str.ofString "store") (V.ref so) (Am (Str.ofString "late") (V.ref la) (Am (Str.ofString "held") (V.ref he) (Am (Str.ofString "row") (V.ref ro) (Am (Str.ofString "sizes") (V.ref si) (Am (Str.ofString "stock") (V.ref p) []))))))))=HB5 at sb6 ht7 k6 hsi6 hro6 hhe6 hla6 hso6 hen6 ⊢;intro l0 hl0;have hS5:=SqL.but sb6 ht1 hS1;have smz:A9 HB5 (upd HB5 l0 (.lst [V.int 0])):=A9.new hl0
 have sbz:SameBut t H1 (upd HB5 l0 (.lst [V.int 0])):=sb6.trans (.of smz);have hlz:upd HB5 l0 (.lst [V.int 0]) l0=some (.lst [V.int 0]):=A5;have htz:=smz _ _ ht7;have hsiz:=smz _ _ hsi6;have hroz:=smz _ _ hro6;have hhez:=smz _ _ hhe6;have hlaz:=smz _ _ hla6;have hsoz:=smz _ _ hso6;have henz:=smz _ _ hen6;have hSz:=smz.seq hS5;generalize upd HB5 l0 (.lst [V.int 0])=HZ at sbz hlz htz hsiz hroz hhez hlaz hsoz henz hSz ⊢;refine ⟨_,.inl hSz,?_⟩;rw [Fa];refine ⟨l0,_,_,rfl,rfl,hlz,by omega,by omega,by simp;omega,fun fi hfi=>?_⟩;rw [J7b];refine ⟨Z0,dx,_,by rw [A3 (A2 htz hfi)];exact htz,T.Z3,T.Z0d,Fz (Ac (Ac (Ac (Ac (Ac (Ac (Ac (Ff _)))))))) (by decide),?_⟩;obtain ⟨sb7,ht8,hfi7,k7,nfi,tfi,d7⟩:=C6 (o:= .lst ((List.replicate (zs.length+1) (0:Int)).map V.int)) (f:=Str.ofString "finds") sbz htz hfi;have hsi7:=k7 _ _ hsiz tsi;have hro7:=k7 _ _ hroz tro;have hhe7:=k7 _ _ hhez the
 have hla7:=k7 _ _ hlaz tla;have hso7:=k7 _ _ hsoz tso;have hen7:=k7 _ _ henz ten;have ne_fi_si:=(d7 _ _ hsiz).symm;have ne_fi_ro:=(d7 _ _ hroz).symm;have ne_fi_en:=(d7 _ _ henz).symm;walk_at "go";refine ⟨Z0,dx,_,ht8,T.Z3,T.Z0s,Fz (Ac (Ac (Ac (Ac (Ac (Ac (Ac (Ac (Ff _))))))))) (by decide),?_⟩
 have kz:∀b u,HZ b=some u→upd HZ fi (.lst ((List.replicate (zs.length+1) (0:Int)).map V.int)) b=some u:=fun b u e=>by rw [A3 (A2 e hfi)];exact e
 refine q ⟨p,si,ro,he,la,so,en,fi⟩ ⟨zs,[],[],[],[],[],List.replicate (zs.length+1) 0,0⟩ _ (fun b o e nb=>?_) ⟨?_,?_⟩ rfl rfl rfl rfl rfl (fun b hb=>?_)
 · rw [A3 nb];exact kz _ _ (sbz _ _ (sm1 _ _ e) nb)
 · have hfin:∀u:HO,SameBut t H1 (upd (upd HZ fi (.lst ((List.replicate (zs.length+1) (0:Int)).map V.int))) t u):=fun u b o e nb=>by rw [A3 nb];exact kz _ _ (sbz _ _ e nb)
   refine ⟨⟨⟨dx,f6 ⟨p,si,ro,he,la,so,en,fi⟩,A5,So _⟩,by rw [A3 tsi];exact kz _ _ hsiz,by rw [A3 tro];exact kz _ _ hroz,by rw [A3 the];exact kz _ _ hhez,by rw [A3 tla];exact kz _ _ hlaz,by rw [A3 tso];exact kz _ _ hsoz,by rw [A3 ten];exact kz _ _ henz,by rw [A3 tfi];exact A5,ne_la_he.symm,ne_so_he.symm,ne_so_la.symm,ne_ro_si,ne_en_ro.symm,ne_fi_ro.symm,ne_en_si.symm,ne_fi_si.symm,ne_fi_en.symm⟩,?_,⟨(fun y hy=>by cases hy),(fun y hy=>by cases hy),(fun y v hv=>by cases hv),Fq _,Fq _,Fq _,Fq _,by decide⟩,Hh,?_,hz1,hz6,hzz,(fun y hy=>by cases hy),nd,htl,by simp⟩
   · refine ((hs1.ins ht1).mono fun b hb=>?_).off fun b o e n=>hfin _ b o e fun z=>n (by rw [z];simp [own])
     have hb':b=t∨b=ro∨b=he∨b=la∨b=so∨b=en∨b=fi:=by simpa [own] using hb
     rcases hb' with h | h | h | h | h | h | h <;> rw [h]
     · exact .inl Fi
     · exact .inr nro
     · exact .inr nhe
     · exact .inr nla
     · exact .inr nso
     · exact .inr nen
     · exact .inr nfi
   · have h4:=Im (zs:=zs) (fun z hz=>(hzz z hz).1) zs.length
     unfold pre at h4;rw [FV]at h4;exact h4
 · exact ⟨(fun y hy=>by cases hy),(fun y=>rfl),(fun y hy=>by cases hy),(fun y=>rfl),⟨[],rfl,rfl,fun i u e h=>by simp at h⟩,Fq _,Fq _,Fq _,Fq _,by decide,(fun e he=>by cases he)⟩
 · have hb':b=si∨b=t∨b=ro∨b=he∨b=la∨b=so∨b=en∨b=fi:=by simpa [own] using hb
   rcases hb' with h | h | h | h | h | h | h | h <;> rw [h]
   · exact .inr (nw _ nsi)
   · exact .inl rfl
   · exact .inr (nw _ nro)
   · exact .inr (nw _ nhe)
   · exact .inr (nw _ nla)
   · exact .inr (nw _ nso)
   · exact .inr (nw _ nen)
   · exact .inr (nw _ nfi)
variable (Z1m:Qs P w K mg base CX0 5 "Prompt" Z0 ["self","stock","sizes"] (Ef K Z0 Z2))
include T Zg in
theorem Z6e(F:Fun K "rest" "Tower.rest" Z3a f fd):Au P w K mg base CX0 4 f fd ["self"] (Dw K Z0 Z2):=by
 have sc:Ab ["self","names","name"] ["self"] (A7 Z3a):=by walk_at "sc"
 walk_at "ok"
 · exact n6 h_ fun _ _ _ _ _ _=>rfl
 refine x6 h_ fun t x s g ts B e_=>y4 e_ fun e0 hG hB q=>?_;clear e_ h_;subst e0
 refine ⟨_,(@A1 _ _ _ _ _ (Sj (i:=1) "name" [0] sc.nd rfl rfl rfl rfl (C9 (Af (pv 0) rfl)) (fun b=>(Ia (Ls (Ao hr) (pv 0) (Af (pv 1) rfl)))) (fun b=>(pv 0)))
  (@A1 _ _ _ _ _ (D8 PassesOwn.never rfl (C9 (pv 1)) (Bj (i:=2) sc.nd rfl (Or.inl rfl))
   (@A6 _ _ _ (Ai (Ak Zg T.Z3 hr (Ax Ad) (pv 0) (A0 (pv 2) A4)))))
  (@A1 _ _ _ _ _ (Bl (pv 0) C4 rfl)
  (@A6 _ _ _ (@Ae _ _ _ _ (Aq Ar rfl T.Zf Fy (A0 (pv 1) A4))))))),?_⟩
 walk_at "st";have hW:=hG.to;obtain ⟨dx,fs,ho,hf⟩:=hW.tw.o;have hrl:=hW.rl;walk_at "go";refine ⟨Z0,dx,fs,ho,T.Z3,T.Zl,_,hf.ro,x.ro,rfl,⟨_,SqL.of hW.tw.ro⟩,Sh (xs:=s.R.map V.str) (J1a s.kl) (fun v=>v) (SqL.of hW.tw.ro) (by rw [Fa];omega) ?_ ?_ ?_⟩
 · intro b v H5 QT hx sm q'
   obtain ⟨y,hy,rfl⟩:=Fv.mp hx;have q2:=q' H5 (A9.refl _);walk_at "go";exact ⟨Z0,dx,fs,sm _ _ ho,T.Z3,T.Z03,_,hf.la,x.la,rfl,_,Br.k (k:=Sum.inr y) (sm _ _ hW.tw.la),q2⟩
 · intro b v H5 Q' hx _ sm q'
   obtain ⟨y,_,rfl⟩:=Fv.mp hx;walk_at "go";exact q' _ (A9.refl _)
 · intro D H1 hD sm1 hD1
   rw [P0,show (s.R.filter fun y=>(Ay s.kl (Sum.inr y)).isSome)=s.R.filter g.l by congr 1;funext y;exact hG.g.l y]at hD1;have hns:∀y∈s.R.filter g.l,y∈s.R:=fun y hy=>(Hn.mp hy).1;have hnl:(s.R.filter g.l).length≤59:=FA (Hs _ _) hrl;have hrG:Kk s.R g={Cb (s.R.filter g.l) g with l:=fun _=>false}:=rfl;generalize s.R.filter g.l=ns at hD1 hns hnl hrG q;have hT1:=hW.tw.same sm1;have o1:Off (own t x) H H1:= .of sm1
   have hDo:∀b∈own t x,D≠b:=fun b hb e=>by
    have hb':b=t∨b=x.ro∨b=x.he∨b=x.la∨b=x.so∨b=x.en∨b=x.fi:=by simpa [own] using hb
    have hT0:=hW.tw
    rcases hb' with h | h | h | h | h | h | h <;> rw [e,h]at hD
    · rw [ho]at hD;cases hD
    · rw [hT0.ro]at hD;cases hD
    · rw [hT0.he]at hD;cases hD
    · rw [hT0.la]at hD;cases hD
    · rw [hT0.so]at hD;cases hD
    · rw [hT0.en]at hD;cases hD
    · rw [hT0.fi]at hD;cases hD
   walk_at "go";refine ⟨⟨_,SqL.of hD1⟩,?_⟩;rename_i rest hrest;refine En (xs:=ns.map V.str) (fun i σ H'=>∃(s':TwS) (v2:Option V),σ=[some (V.ref t),some (V.ref D),v2]∧Off (own t x) H H'∧H' D=some (.lst (ns.map V.str))∧Bh Z0 H' t x s'∧s'.R=s.R∧s'.zs=s.zs∧s'.ff=s.ff∧s'.pd=s.pd∧TwG H' s' (Cb (ns.take i) g) (B+i) (fun y=>y∈s.R)) ⟨s,none,rfl,o1,hD1,hT1,rfl,rfl,rfl,rfl,hG.g.same sm1⟩ (fun i σ H' _ h_=>by obtain ⟨s',v2,_,_,hD',_⟩:=h_;exact SqL.of hD') ?_ ?_
   · rintro i v σ H' hv ⟨s',v2,rfl,o',hD',hT',e1,e2,e3,e4,hL'⟩
     have hi:i < ns.length:=by
      have:=(Fe.mp hv).1;rw [Fa]at this;exact this
     rw [Fg,G0 hi]at hv;cases hv;have hyR:=hns _ (Fk (G0 hi))
     have htk:Cb (ns.take (i+1)) g=(Cb (ns.take i) g).write (ns.getD i Str.empty):=by
      rw [Rb,G0 hi];unfold Cb;rw [List.foldl_append];rfl
     generalize ns.getD i Str.empty=y at hyR htk ⊢;obtain ⟨dx',fs',ho',hf'⟩:=hT'.o;walk_at "go";refine ⟨dx',fs',ho',hf'.m _ (by simp),x,s',hT',_,B+i,_,hL',by omega,hyR,fun s2 H2 o2 hT2 f1 f2 f3 f4 _ hL2=>?_⟩;walk_at "go";exact ⟨o'.trans o2,o2 _ _ hD' (fun h=>hDo _ h rfl),s2,hT2,f1.trans e1,f2.trans e2,f3.trans e3,f4.trans e4,by rw [htk];exact hL2⟩
   · rintro σ H' ⟨s',v2,rfl,o',hD',hT',e1,e2,e3,e4,hL'⟩
     obtain ⟨dx',fs',ho',hf'⟩:=hT'.o;rw [Fa,FV]at hL';walk_at "go";intro l hl0;refine ⟨Z0,dx',fs',by rw [A3 (A2 ho' hl0)];exact ho',T.Z3,T.Z03,by have:=hf'.n;omega,?_⟩;have hTn:=hT'.newLate ho' hf' hl0;have oN:Off (own t x) H' (upd (upd H' l (.dK [])) t (.ins Z0 dx' (Am (Str.ofString "late") (.ref l) fs'))):=(Off.of (A9.new hl0)).trans (Off.put (by simp [own]))
     have hlH:H l=none:=by
      cases e:H l with
      | none=>rfl
      | some o=>
       by_cases hin:l∈own t x
       · have hb':l=t∨l=x.ro∨l=x.he∨l=x.la∨l=x.so∨l=x.en∨l=x.fi:=by simpa [own] using hin
         rcases hb' with h | h | h | h | h | h | h <;> rw [h]at hl0
         · rw [ho']at hl0;cases hl0
         · rw [hT'.ro]at hl0;cases hl0
         · rw [hT'.he]at hl0;cases hl0
         · rw [hT'.la]at hl0;cases hl0
         · rw [hT'.so]at hl0;cases hl0
         · rw [hT'.en]at hl0;cases hl0
         · rw [hT'.fi]at hl0;cases hl0
       · rw [o' _ _ e hin]at hl0;cases hl0
     have hDN:=oN _ _ hD' (fun h=>hDo _ h rfl);generalize upd (upd H' l (.dK [])) t (.ins Z0 dx' (Am (Str.ofString "late") (.ref l) fs'))=HN at hTn oN hDN ⊢;have oA:=o'.trans oN
     have hown:∀b∈own t {x with la:=l},b∈own t x++[l]:=fun b hb=>by
      have hb':b=t∨b=x.ro∨b=x.he∨b=l∨b=x.so∨b=x.en∨b=x.fi:=by simpa [own] using hb
      simp only [own,Fn,Fo,FQ,or_false]
      rcases hb' with h | h | h | h | h | h | h <;> simp [h]
     have hsN:B5 K Z2 HN x.st ts (own t {x with la:=l}):=((hW.sk.mono (L':=own t x++[l]) (fun b hb=>by rcases Fn.mp hb with h | h;(· exact .inl h);(· rw [Fc.mp h];exact .inr hlH))).off (oA.mono fun b hb=>FL _ hb)).mono fun b hb=> .inl (hown b hb);walk_at "go";refine ⟨_,.inl (SqL.of hDN),?_⟩;have hGn:=(hL'.noLate).off hT' oN;rw [← hrG]at hGn;rw [Fa];refine q {x with la:=l} {s' with kl:=[]} HN oA (fun b hb=>?_) ⟨⟨hTn,hsN,?_,by show s'.R.Nodup;rw [e1];exact hW.nd,by show (s'.R.length:Int)≤s'.zs.sum;rw [e1,e2];exact hW.rs,by show 1≤s'.zs.length;rw [e2];exact hW.z1,by show s'.zs.length≤6;rw [e2];exact hW.zl,by show ∀z∈s'.zs,_;rw [e2];exact hW.zz,by show ∀y∈s'.R,_;rw [e1];exact hW.rn,hW.tn,hW.tl,by show s'.ff.length=s'.zs.length+1;rw [e2,e3];exact hW.ff⟩,?_⟩ e1 e2 e4 e3 rfl rfl
     · rcases Fn.mp (hown b hb) with h | h
       · exact .inl h
       · rw [Fc.mp h];exact .inr hlH
     · show TwL _ _ (fun y=>y∈s'.R)
       exact (hGn.iff (q:=fun y=>y∈s'.R) (B':=B+100) (fun u=>by rw [e1]) (by omega) (by omega)).toL
     · show TwG _ _ _ _ (fun y=>y∈s'.R)
       exact hGn.iff (q:=fun y=>y∈s'.R) (B':=B+100) (fun u=>by rw [e1]) (by omega) (by omega)
variable (Z1n:Cd P w K mg base CX0 4 Z0 "rest" ["self"] (Dw K Z0 Z2))
include T Z0y in
theorem Z6f(F:Fun K "read_number" "read_number" Z3b f fd):Au P w K mg base CX0 2 f fd ["text"] (My):=by
 have sc:Ab ["text"] ["text"] (A7 Z3b):=by walk_at "sc"
 walk_at "ok"
 · exact n1 h_ fun _=>rfl
 refine x1 h_ fun z e_=>y3 e_ fun e0 hn q=>?_;clear e_ h_;subst e0
 refine ⟨_,(@A1 _ _ _ _ _ (Az (PW.pt (U6 (Aj Nb (Aq Dj rfl T.Zf Fy (A0 (pv 0) A4)) Aa (nomark _)) (U6 (Aj Kx (Aq Dj rfl T.Zf Fy (A0 (pv 0) A4)) (Iy rfl T.Z27) (nomark _)) (T2 (G3 (Eg (Ag Z0y hr rfl Ad (A0 (pv 0) (A0 (Ms rfl T.Z3t) A4)))))))))
  (@A6 _ _ _ Bm)
  Ah)
  (@A1 _ _ _ _ _ (Az (PW.pt (Pc (Aj D1 (@Bz _ _ _ _ _ _ _ Tf (pv 0) Aa (fun _ _=>rfl)) A8 (nomark _)) (Pb (Aj Na (pv 0) A8 (nomark _)))))
   (@A6 _ _ _ Bm)
   Ah)
  (@A6 _ _ _ (@Ae _ _ _ _ (B0 O6 rfl T.Z3r (by first | rfl | decide+kernel) (A0 (pv 0) A4)))))),?_⟩
 walk_at "st";have hl:=Cf (z:=z)
 obtain ⟨h1,h2,h3,h4⟩:1≤z.length∧z.length≤31∧(z.cps.toList.all fun c=>decide (c∈Bi))=true∧(Lx z.cps.toList [48] && !decide (z.cps.toList=[48]))=false:=by
  have h:=hn;unfold S3 at h;simp only [Hf,decide_eq_true_eq,Bool.not_eq_true']at h;exact ⟨by omega,by omega,h.1.2,h.2⟩
 walk_at "go";rw [if_neg (by omega)];refine ⟨by omega,?_⟩;rw [if_neg (by omega)];refine ⟨by omega,fun H1 sm1=>?_⟩;rw [Qz,if_neg (by rw [h3];simp)]
 obtain ⟨c,r,hcr⟩:∃c r,z.cps.toList=c::r:=by
  cases h:z.cps.toList with
  | nil=>rw [h]at hl;simp at hl;omega
  | cons c r=>exact ⟨c,r,rfl⟩
 have fin:(∃x,PySem.intText? z=some x∧z.length≤640∧Q (V.int x) H1):=⟨_,J0p h3 (by rw [hcr];simp) (by omega),by omega,q _ sm1⟩
 walk_at "rs";refine Ts (by omega) (by rw [hcr];exact J72) ?_;walk_at "go";simp only [J34];simp only [J0o];split
 · rename_i h5
   have h7:z.cps.toList=[48]:=by
    rw [hcr,h5]at h4;rw [hcr,h5]
    simpa [Lx] using h4
   rw [if_neg (fun h6=>h6 h7)];walk_at "go";exact fin
 · walk_at "go"
   exact fin
variable (Z1o:Def P w K mg base CX0 2 "read_number" ["text"] (My))
include T Z0z in
theorem Z78(F:Fun K "read_name" "read_name" Z40 f fd):Au P w K mg base CX0 3 f fd ["word"] (K8):=by
 have sc:Ab ["word"] ["word"] (A7 Z40):=by walk_at "sc"
 walk_at "ok"
 · exact n1 h_ fun _=>rfl
 refine x1 h_ fun z e_=>y3 e_ fun e0 hz q=>?_;clear e_ h_;subst e0
 refine ⟨_,(@A1 _ _ _ _ _ (Az (G3 (Eg (Ag Z0z hr rfl Ad (A0 (pv 0) A4))))
  (@A6 _ _ _ Bm)
  Ah)
  (@A6 _ _ _ (@Ae _ _ _ _ (pv 0)))),?_⟩
 walk_at "st";have hl:=K7 hz;rw [Cf]at hl;walk_at "go";intro H' sm;rw [hz,if_neg (by simp)];walk_at "rs";exact q H' sm
variable (Z2q:Def P w K mg base CX0 3 "read_name" ["word"] (K8))
include T Z2q Z1o in
theorem Z79(F:Fun K "read_word" "read_word" Z41 f fd):Au P w K mg base CX0 4 f fd ["kind","word"] (K9):=by
 have sc:Ab ["kind","word"] ["kind","word"] (A7 Z41):=by walk_at "sc"
 walk_at "ok"
 · exact n3 h_ fun _ _ _=>rfl
 refine x3 h_ fun k w' v e_=>y3 e_ fun e0 hW q=>?_;clear e_ h_;subst e0
 refine ⟨_,(@A1 _ _ _ _ _ (Az (Aj D1 (pv 0) A8 (nomark _))
  (@A6 _ _ _ (@Ae _ _ _ _ (Ag Z2q hr rfl Ad (A0 (pv 1) A4))))
  Ah)
  (@A1 _ _ _ _ _ (Az (Aj D1 (pv 0) A8 (nomark _))
   (@A6 _ _ _ Bm)
   Ah)
  (@A6 _ _ _ (@Ae _ _ _ _ (Ag Z1o hr rfl Ad (A0 (pv 1) A4)))))),?_⟩
 walk_at "st";walk_at "go";rcases hW with ⟨h1,h2,rfl⟩ | ⟨h1,h2,h3,rfl⟩
 · rw [if_pos h1]
   exact ⟨h2,q⟩
 · rw [if_neg h1]
   walk_at "rs";rw [if_neg h2];walk_at "rs";exact q
variable (Z2r:Def P w K mg base CX0 4 "read_word" ["kind","word"] (K9))
include T in
theorem Z7h(F:Fun K "kinds_of" "kinds_of" Z47 f fd):Au P w K mg base CX0 1 f fd ["form","many"] (Gk K):=by
 have sc:Ab ["form","many"] ["form","many"] (A7 Z47):=by walk_at "sc"
 walk_at "ok"
 · exact n3 h_ fun _ _ _=>rfl
 refine x3 h_ fun a fs n e_=>y6 e_ fun e0 hS hl hn h1 q=>?_;clear e_ h_;subst e0
 refine ⟨_,(@A1 _ _ _ _ _ (Az (Aj Ck A8 (pv 0) (by with_unfolding_all rfl))
  (@A6 _ _ _ (@Ae _ _ _ _ (Al Tn (@Bv _ _ _ _ (A0 (@Bz _ _ _ _ _ _ _ Lq (pv 0) Aa (fun _ _=>rfl)) A4)) (Aq (Wm rfl) rfl T.Z7p (by first | rfl | decide+kernel) (A0 Aa (A0 (pv 1) A4))))))
  Ah)
  (@A6 _ _ _ (@Ae _ _ _ _ (B0 Dk rfl T.Z2u (by first | rfl | decide+kernel) (A0 (pv 0) A4))))),?_⟩
 walk_at "st";walk_at "go";refine Pz hS ⟨_,rfl,?_⟩
 by_cases hd:Str.ofString ".."∈fs
 · rw [if_pos (by simpa using hd)]
   have hl1:=h1 hd;refine Kq hS (v:=V.str (fs.getD 0 Str.empty)) (Cv (j:=0) (by cases fs with | nil=>exact absurd hl1 (by simp) | cons u r=>rfl)) ⟨by omega,fun p hp=>?_⟩;show J6l (V.ref p) (V.int (if (n:Int) > 1 then (n:Int) else 1)) _ _
   have em:(if (n:Int) > 1 then (n:Int) else 1)=((max 1 n:Nat):Int):=by split <;> omega
   rw [em]
   have hm:max 1 n≤100:=by omega
   refine ⟨p,_,_,rfl,rfl,A5,by omega,by omega,by rw [Int.toNat_natCast];simp only [List.length_cons,List.length_nil];omega,fun p1 hp1=>?_⟩;refine q p1 _ (none_of (A9.new hp) hp1) ((A9.new hp).trans (A9.new hp1)) ?_;rw [A5,Int.toNat_natCast];unfold Bn;rw [if_pos hd,RJ];congr 2;generalize max 1 n=m
   induction m with
   | zero=>rfl
   | succ m ih=>rw [Ho,FW,ih,Ho];rfl
 · rw [if_neg (by simpa using hd)]
   walk_at "rs";intro l hl;refine q l _ hl (A9.new hl) ?_;rw [A5];unfold Bn;rw [if_neg hd]
variable (Z3h:Def P w K mg base CX0 1 "kinds_of" ["form","many"] (Gk K))
include T Z3h Z2r in
theorem Z7a(F:Fun K "read_line" "read_line" Z42 f fd)(Z6g:∀b,U3 w.params K Zh b):Au P w K mg base CX0 5 f fd ["line"] (Ka):=by
 have sc:Ab ["line","words","first","kinds"] ["line"] (A7 Z42):=by walk_at "sc"
 walk_at "ok"
 · exact n1 h_ fun _=>rfl
 refine x1 h_ fun l e_=>y3 e_ fun e0 ok q=>?_;clear e_ h_;subst e0
 refine ⟨_,(@A1 _ _ _ _ _ (As (i:=1) sc.nd rfl (Or.inl rfl) (D3 Hg PySem.F.slot_str_split PySem.F.type_str_split J07 (pv 0) (A0 A8 A4)))
  (@A1 _ _ _ _ _ (As (i:=2) sc.nd rfl (Or.inl rfl) (@Bz _ _ _ _ _ _ _ Bp (pv 1) Aa (fun _ _=>rfl)))
  (@A1 _ _ _ _ _ (Az (Ia (J3c (pv 2) (Kv (v:= .ref Zh) rfl T.Z7l rfl)))
   (@A6 _ _ _ Bm)
   Ah)
  (@A1 _ _ _ _ _ (As (i:=3) sc.nd rfl (Or.inl rfl) (Ag Z3h hr rfl Ad (A0 (W2 (Kv (v:= .ref Zh) rfl T.Z7l rfl) (pv 2) (fun _ _=>rfl)) (A0 (Al Ll (Aq Ar rfl T.Zf Fy (A0 (pv 1) A4)) Aa) A4))))
  (@A1 _ _ _ _ _ (Az (Aj Na (Aq Ar rfl T.Zf Fy (A0 (pv 3) A4)) (Al Ll (Aq Ar rfl T.Zf Fy (A0 (pv 1) A4)) Aa) (nomark _))
   (@A6 _ _ _ Bm)
   Ah)
  (@A6 _ _ _ (@Ae _ _ _ _ (G6 (A0 (pv 2) (A0 (J15 "kind" "word" [] rfl rfl (J5i rfl T.Z7q (A0 (pv 3) (A0 (Ic L0 (pv 1) (E9 Aa) J2j) A4))) (fun b=>(Ag Z2r hr rfl Ad (A0 (pv 0) (A0 (pv 1) A4))))) A4)))))))))),?_⟩
 walk_at "st";have hlong:=ok.long;walk_at "go";intro p hp;rw [ok.split];have sm1:A9 H (upd H p (.lst ((wd l.b::l.ws).map V.str))):=A9.new hp;have hp1:upd H p (.lst ((wd l.b::l.ws).map V.str)) p=some (.lst ((wd l.b::l.ws).map V.str)):=A5;generalize upd H p (.lst ((wd l.b::l.ws).map V.str))=H1 at sm1 hp1 ⊢;obtain ⟨fa,hf1,hf2⟩:=Z6g l.b;walk_at "rs";refine Bw (SqL.of hp1) (v:=V.str (wd l.b)) (Cv (j:=0) rfl) ?_;walk_at "rs";refine ⟨_,hf1,?_⟩;rw [if_neg (by simp)];walk_at "rs";refine ⟨_,hf1,_,.inl (SqL.of hp1),fa,rfl,fm l.b,l.ws.length,by rw [Fa,List.length_cons];omega,hf2 H1,(J1s l.b).1,ok.m,(J1s l.b).2,fun k2 H2 hk sm2 hk2=>?_⟩;have hp2:=sm2 _ _ hp1;have sm02:=sm1.trans sm2;clear sm1 sm2 hp1 hf1 hf2;have hkl:=ok.k;have hall:=ok.w;generalize Bn (fm l.b) l.ws.length=ks at hk2 hkl hall;walk_at "rs";refine ⟨_,.inl (SqL.of hk2),_,.inl (SqL.of hp2),?_⟩;rw [if_neg (by rw [Fa,Fa,List.length_cons];omega)]
 walk_at "rs";refine ⟨_,SqL.of hp2,fun p3 hp3=>?_⟩;rw [List.map_cons,J5m];have sm3:A9 H2 (upd H2 p3 (.lst (l.ws.map V.str))):=A9.new hp3;have hp33:upd H2 p3 (.lst (l.ws.map V.str)) p3=some (.lst (l.ws.map V.str)):=A5;generalize upd H2 p3 (.lst (l.ws.map V.str))=H3 at sm3 hp33 ⊢;have hk3:=sm3 _ _ hk2;have sm03:=sm02.trans sm3;clear sm02 sm3 hp2 hk2 hp3;have hvl:=ok.v;have hml:=ok.m;refine ⟨⟨_,SqL.of hk3⟩,⟨_,SqL.of hp33⟩,?_⟩;refine J1p (fun i=>l.vs.getD i .non) (by rw [Fa,Fa];omega) (SqL.of hk3) (SqL.of hp33) (by rw [Fa];omega) (fun b i x z H' Q' hx hz sm q'=>?_) fun D H4 hD sm4 hD4=>?_
 · rw [Fg]at hx hz
   cases hki:ks[i]? with
   | none=>rw [hki]at hx;cases hx
   | some k=>
   cases hwi:l.ws[i]? with
   | none=>rw [hwi]at hz;cases hz
   | some w'=>
   rw [hki]at hx;rw [hwi]at hz;cases hx;cases hz;have hil:=(Fe.mp hwi).1
   have hvi:l.vs[i]?=some (l.vs.getD i .non):=by rw [Fh,Fd (by omega)];rfl
   have hW:=hall i k w' _ hki hwi hvi;walk_at "go";exact ⟨_,hW,q'⟩
 have eD:(List.range (l.ws.map V.str).length).map (fun i=>l.vs.getD i V.non)=l.vs:=by
  refine RT fun i=>?_;rw [Fg]
  by_cases hi:i < l.vs.length
  · rw [RG (by rw [Fa];omega),Fd hi]
    show some (l.vs.getD i V.non)=_;rw [Fh,Fd hi];rfl
  · rw [Ht (by rw [Rf,Fa];omega),Ht (by omega)];rfl
 rw [eD]at hD4;clear eD;refine ⟨by omega,fun t ht=>?_⟩;have sm04:=sm03.trans sm4;exact q t D _ (sm04.trans (A9.new ht)) (none_of sm04 ht) (none_of sm03 hD) (A2 hD4 ht).symm A5 ((A9.new ht) _ _ hD4)
variable (Z2s:Def P w K mg base CX0 5 "read_line" ["line"] (Ka))
include T Z0h in
theorem Z7b(F:Fun K "__init__" "Desk.__init__" Z43 f fd):Au P w K mg base CX0 6 f fd ["self"] (Kc K Z5 Z2):=by
 have sc:Ab ["self"] ["self"] (A7 Z43):=by walk_at "sc"
 walk_at "ok"
 · exact n2 h_ fun _ _=>rfl
 refine x2 h_ fun d dx e_=>y3 e_ fun e0 hd q=>?_;clear e_ h_;subst e0
 refine ⟨_,(@A1 _ _ _ _ _ (Bl (pv 0) (L9 Z0h hr rfl (Ax Ad) (A0 (@Bv _ _ _ _ A4) A4)) rfl)
  (@A1 _ _ _ _ _ (Bl (pv 0) (@Bv _ _ _ _ A4) rfl)
  (@A6 _ _ _ (Bl (pv 0) Xi rfl)))),?_⟩
 walk_at "st";walk_at "go";intro p hp st dx2 hst hdx2 ne1;have sm1:A9 H (upd H p (.lst [])):=A9.new hp;have hp1:upd H p (.lst []) p=some (.lst []):=A5;generalize upd H p (.lst [])=H1 at sm1 hp1 hst hdx2 ⊢
 have smx:A9 H1 (upd (upd H1 dx2 (.own st)) st (.ins Z2 dx2 [])):=fun b o e=>by rw [A3 (A2 e hst),A3 (A2 e hdx2)];exact e
 refine ⟨dx2,A5,[],⟨SqL.of (smx _ _ hp1),(fun t ht=>absurd ht FQ),rfl,fun H2 sb2 stkN=>?_⟩⟩;have stk:=stkN.at';have sm2:A9 H1 H2:=Ez hst hdx2 sb2;have sm02:=sm1.trans sm2;have hst0:H st=none:=none_of sm1 hst;have hd2:=sm02 _ _ hd;have hds:d≠st:=A2 hd hst0;have stk2:Aw K Z2 H2 st []:=stk
 have stkn:O7 K Z2 H H2 st []:=stkN.mk' stk rfl fun b e=>by
  cases k:H b with
  | none=>rfl
  | some o=>rw [smx _ _ (sm1 _ _ k)]at e;cases e
 clear stk stkN smx sb2 hst hdx2 ne1 sm1 hp1 sm2 hp;refine ⟨Z5,dx,[],hd2,T.Zs,T.Z0f,by decide,?_⟩;walk_at "rs";intro as has;have hd3:upd H2 d (.ins Z5 dx (Am (Str.ofString "stock") (.ref st) [])) d=some (.ins Z5 dx (Am (Str.ofString "stock") (.ref st) [])):=A5
 have sb3:SameBut d H (upd H2 d (.ins Z5 dx (Am (Str.ofString "stock") (.ref st) []))):=fun b o e nb=>by rw [A3 nb];exact sm02 _ _ e
 have stk3:Aw K Z2 (upd H2 d (.ins Z5 dx (Am (Str.ofString "stock") (.ref st) []))) st []:=by
  obtain ⟨dx',d',kvs,h1,h2,h3,h4⟩:=stk2.ex
  have hk:kvs=[]:=by cases kvs with | nil=>rfl | cons u r=>cases h3
  subst hk
  have n1:st≠d:=fun e=>by rw [e,hd2]at h1;cases h1
  have n2:d'≠d:=fun e=>by rw [e,hd2]at h2;cases h2
  exact ⟨dx',d',[],by rw [A3 n1];exact h1,by rw [A3 n2];exact h2,h3,fun i t e=>by simp at e⟩
 have hst3:upd H2 d (.ins Z5 dx (Am (Str.ofString "stock") (.ref st) [])) st=H2 st:=A3 hds.symm;generalize upd H2 d (.ins Z5 dx (Am (Str.ofString "stock") (.ref st) []))=H3 at hd3 sb3 stk3 has hst3 ⊢;have nad:d≠as:=A2 hd3 has
 have has0:H as=none:=by
  cases k:H as with
  | none=>rfl
  | some o=>rw [sb3 _ _ k nad.symm]at has;cases has
 refine ⟨Z5,dx,_,by rw [A3 nad];exact hd3,T.Zs,T.Z2p,Fz (Ff 1) (by decide),?_⟩;have has4:upd H3 as (.lst []) as=some (.lst []):=A5;have sm4:A9 H3 (upd H3 as (.lst [])):=A9.new has;generalize upd H3 as (.lst [])=H4 at has4 sm4 ⊢;have hd4:=sm4 _ _ hd3;have stk4:=stk3.same sm4;have sb4:SameBut d H H4:=fun b o e nb=>sm4 _ _ (sb3 _ _ e nb);walk_at "rs";refine ⟨Z5,dx,_,A5,T.Zs,T.Z0g,Fz (Ff 2) (by decide),?_⟩;have nad2:as≠d:=nad.symm;refine q st as _ (fun b o e nb=>by rw [A3 nb];exact sb4 _ _ e nb) ⟨dx,_,A5,⟨by with_unfolding_all rfl,by with_unfolding_all rfl,by with_unfolding_all rfl,by show 3 < 500;decide,by with_unfolding_all rfl,by with_unfolding_all rfl⟩⟩ (stkn.mk' ?_ ?_ fun b e=>e) (by rw [A3 nad2];exact has4) hst0 has0
 case refine_2=>
  obtain ⟨dx',d',kvs,h1,h2,h3,h4⟩:=stk2.ex;rw [A3 hds.symm,h1];refine sm4 _ _ ?_;rw [hst3];exact h1
 obtain ⟨dx',d',kvs,h1,h2,h3,h4⟩:=stk4.ex
 have hk:kvs=[]:=by cases kvs with | nil=>rfl | cons u r=>cases h3
 subst hk;have n1:st≠d:=hds.symm
 have n2:d'≠d:=fun e=>by rw [e,hd4]at h2;cases h2
 exact ⟨dx',d',[],by rw [A3 n1];exact h1,by rw [A3 n2];exact h2,h3,fun i t e=>by simp at e⟩
variable (Z2t:Qs P w K mg base CX0 6 "Desk" Z5 ["self"] (Kc K Z5 Z2))
include T in
theorem Z7i(F:Fun K "tower_of" "tower_of" Z48 f fd):Au P w K mg base CX0 1 f fd ["desk"] (N0 Z5):=by
 have sc:Ab ["desk"] ["desk"] (A7 Z48):=by walk_at "sc"
 walk_at "ok"
 · exact n4 h_ fun _ _ _ _=>rfl
 refine x4 h_ fun d st as t e_=>y3 e_ fun e0 hD q=>?_;clear e_ h_;subst e0
 refine ⟨_,(@A1 _ _ _ _ _ (Az (Aj J4x (Af (pv 0) rfl) Xi (nomark _))
  (@A6 _ _ _ Bm)
  Ah)
  (@A6 _ _ _ (@Ae _ _ _ _ (Af (pv 0) rfl)))),?_⟩
 walk_at "su";obtain ⟨dx,fs,ho,hf⟩:=id hD.o;walk_at "go";refine ⟨Z5,dx,fs,ho,T.Zs,T.Z0g,_,hf.tw,?_⟩;rw [if_neg (by simp)];walk_at "rs";exact ⟨Z5,dx,fs,ho,T.Zs,T.Z0g,_,hf.tw,q⟩
variable (Z6:Def P w K mg base CX0 1 "tower_of" ["desk"] (N0 Z5))
include T Zi Ze Zv Z0h in
theorem Z5f(F:Fun K "answer_thing" "answer_thing" Z2h f fd):Au P w K mg base CX0 9 f fd ["desk","given"] (E1 K Z5 Z2):=by
 have sc:Ab ["desk","given","stock","earlier"] ["desk","given"] (A7 Z2h):=by walk_at "sc"
 walk_at "ok"
 · exact n7 h_ fun _ _ _ _ _ _ _=>rfl
 refine x7 h_ fun d gv st as tw ts t e_=>y8 e_ fun e0 hD hst nd hl hok hg q=>?_;clear e_ h_;subst e0
 refine ⟨_,(@A1 _ _ _ _ _ (As (i:=2) sc.nd rfl (Or.inr rfl) (Af (pv 0) rfl))
  (@A1 _ _ _ _ _ (Qm (i:=3) "name" [2] sc.nd rfl rfl rfl rfl (C9 (Ey Zi T.Za hr (Ax Ad) (pv 2))) (fun b=>(G6 (A0 (pv 0) (A0 (Ak Ze T.Za hr (Ax Ad) (pv 1) (A0 (pv 0) A4)) (A0 (Ak Zv T.Za hr (Ax Ad) (pv 1) (A0 (pv 0) A4)) A4))))))
  (@A1 _ _ _ _ _ (Bl (pv 0) (L9 Z0h hr rfl (Ax Ad) (A0 (Al Nf (pv 3) (@Bv _ _ _ _ (A0 (B0 O5 rfl T.Z5y (by first | rfl | decide+kernel) (A0 (pv 1) A4)) A4))) A4)) rfl)
  (@A6 _ _ _ (@Ae _ _ _ _ A8))))),?_⟩
 walk_at "st";obtain ⟨dx,fs,ho,hf⟩:=id hD.o;walk_at "go";refine ⟨Z5,dx,fs,ho,T.Zs,T.Z0f,_,hf.st,?_⟩;walk_at "rs";obtain ⟨dx',d',kvs',g1,g2,g3⟩:=Aw.has hst;clear g3;refine ⟨dx',flds d',g1,by rfl,ts,hst,fun l hl=>?_⟩;have sm1:A9 H (upd H l (.lst ((ts.map (·.1)).map V.str))):=A9.new hl;have hl1:upd H l (.lst ((ts.map (·.1)).map V.str)) l=some (.lst ((ts.map (·.1)).map V.str)):=A5;generalize upd H l (.lst ((ts.map (·.1)).map V.str))=H1 at sm1 hl1 ⊢;have hst1:=hst.same sm1
 have nd1:(ts.map (·.1)).Nodup:=by
  rw [FC]at nd;exact (Hz.mp nd).1
 refine ⟨⟨_,SqL.of hl1⟩,N35.Xa (xs:=(ts.map (·.1)).map V.str) (fun i=>[V.str (ts.getD i thd).1,V.int (ts.getD i thd).2.1,V.int (ts.getD i thd).2.2]) (SqL.of hl1) (by rw [Fa,Fa];omega) (fun b i x H' Q' hx sm q'=>?_) fun r as' H2 hr sm2 hr2 hal hT=>?_⟩
 · rw [Fg,Fg]at hx
   cases ht:ts[i]? with
   | none=>rw [ht]at hx;cases hx
   | some u=>
   rw [ht]at hx;cases hx
   have eu:ts.getD i thd=u:=by rw [Fh,ht];rfl
   rw [eu]at q';have hum:u.1∈ts.map (·.1):=Fv.mpr ⟨u,Fk ht,rfl⟩;have hst':=hst1.same sm;obtain ⟨dx2,d2,kvs2,k1,k2,_⟩:=Aw.has hst';walk_at "go";refine ⟨dx2,flds d2,k1,by rfl,ts,hst',nd1,hum,fun i1 t1 h1 e1=>⟨dx2,flds d2,k1,by rfl,ts,hst',nd1,hum,fun i2 t2 h2 e2=>⟨by omega,fun p hp=>?_⟩⟩⟩;have u1:=W7 nd1 h1 ht e1;have u2:=W7 nd1 h2 ht e2;subst u1;subst u2;exact q' p _ (A9.new hp) A5
 rw [Fa,Fa]at hal;have sm02:=sm1.trans sm2;have hg2:=sm02 _ _ hg;have hst2:=hst.same sm02;have hd2:=sm02 _ _ ho;clear hst1 sm1 sm2 hl1 hl g1 g2;walk_at "rs";refine ⟨_,.inl ⟨SqL.of hg2,fun l3 hl3=>⟨by omega,fun p3 hp3=>?_⟩⟩⟩;have sm3:A9 H2 (upd H2 l3 (.tup [.str t.1,.int t.2.1,.int t.2.2])):=A9.new hl3;have hl33:upd H2 l3 (.tup [.str t.1,.int t.2.1,.int t.2.2]) l3=some (.tup [.str t.1,.int t.2.1,.int t.2.2]):=A5;generalize upd H2 l3 (.tup [.str t.1,.int t.2.1,.int t.2.2])=H3 at sm3 hl33 hp3 ⊢;have sm4:A9 H3 (upd H3 p3 (.lst [V.ref l3])):=A9.new hp3;have hp34:upd H3 p3 (.lst [V.ref l3]) p3=some (.lst [V.ref l3]):=A5;generalize upd H3 p3 (.lst [V.ref l3])=H4 at sm4 hp34 ⊢;have sm24:=sm3.trans sm4;refine ⟨r,p3,_,_,rfl,rfl,sm24 _ _ hr2,hp34,by rw [Fa];simp only [List.length_cons,List.length_nil];omega,fun c5 hc5=>?_⟩;have sm5:A9 H4 (upd H4 c5 (.lst (as'.map V.ref++[V.ref l3]))):=A9.new hc5
 have hc55:upd H4 c5 (.lst (as'.map V.ref++[V.ref l3])) c5=some (.lst ((as'++[l3]).map V.ref)):=by rw [A5,FC];rfl
 generalize upd H4 c5 (.lst (as'.map V.ref++[V.ref l3]))=H5 at sm5 hc55 ⊢;have sm25:=sm24.trans sm5;have hl35:=sm5 _ _ (sm4 _ _ hl33);have hd5:=sm25 _ _ hd2;have sm05:=sm02.trans sm25
 have rows:U0 K H5 c5 (as'++[l3]) (ts++[t]):=⟨SqL.of hc55,by rw [Fj,Fj,hal];rfl,by rw [Fj];simp only [List.length_cons,List.length_nil];omega,fun i a u h1 h2=>?_,hok,nd⟩
 case refine_1=>
  by_cases hi:i < ts.length
  · rw [Fw (by omega)]at h1
    rw [Fw hi]at h2;have h3:=hT i a h1;rw [show ts.getD i thd=u by rw [Fh,h2];rfl]at h3;exact SqT.of (sm25 _ _ h3)
  · have hl9:=(Fe.mp h1).1
    rw [Fj]at hl9;simp only [List.length_cons,List.length_nil]at hl9
    have hi2:i=ts.length:=by omega
    rw [FB (by omega),hal,hi2,Rp]at h1;rw [FB (by omega),hi2,Rp]at h2;cases h1;cases h2;exact SqT.of hl35
 intro st2 dy hst2' hdy ne1;obtain ⟨rws,r1,r2,r3,r4⟩:=rows.init
 have smx:A9 H5 (upd (upd H5 dy (.own st2)) st2 (.ins Z2 dy [])):=fun b o e=>by rw [A3 (A2 e hst2'),A3 (A2 e hdy)];exact e
 refine ⟨dy,c5,rfl,A5,rws,by rw [r1];exact smx.seq rows.l,fun u hu=>smx.tup (r2 u hu),r3,fun H6 sb6 stkN=>?_⟩;rw [r4]at stkN;have stk:=stkN.at';have sm6:A9 H5 H6:=Ez hst2' hdy sb6;have hd6:=sm6 _ _ hd5;have sm06:=sm05.trans sm6;have hst0:H st2=none:=none_of sm05 hst2'
 have stkn:O7 K Z2 H H6 st2 (ts++[t]):=stkN.mk' stk rfl fun b e=>by
  cases k:H b with
  | none=>rfl
  | some o=>rw [smx _ _ (sm05 _ _ k)]at e;cases e
 have hdst:st2≠d:=fun e=>by rw [e,ho]at hst0;cases hst0
 clear stkN r1 r2 r3 r4 smx sb6 rows hst2' hdy ne1;refine ⟨Z5,dx,fs,hd6,T.Zs,T.Z0f,by have:=hf.n;omega,?_⟩;walk_at "rs";refine q st2 _ (fun b o e nb=>by rw [A3 nb];exact sm06 _ _ e) ⟨dx,_,A5,hf.stock⟩ (stkn.mk' ?_ (A3 hdst) fun b e=>e) hst0;have:=J1t stk hd6 hf.k;exact (this.off (H':=upd H6 d (.ins Z5 dx (Am (Str.ofString "stock") (.ref st2) fs))) fun b o e nb=>by rw [A3 (fun k=>nb (by rw [k];simp))];exact e).at
variable (Z15:Def P w K mg base CX0 9 "answer_thing" ["desk","given"] (E1 K Z5 Z2))
include T in
theorem Z5g(F:Fun K "answer_again" "answer_again" Z2i f fd):Au P w K mg base CX0 9 f fd ["desk","given"] (Ej Z5):=by
 have sc:Ab ["desk","given"] ["desk","given"] (A7 Z2i):=by walk_at "sc"
 walk_at "ok"
 · exact n5 h_ fun _ _ _ _ _=>rfl
 refine x5 h_ fun d gv st as tw e_=>y3 e_ fun e0 hD q=>?_;clear e_ h_;subst e0
 refine ⟨_,(@A1 _ _ _ _ _ (Bl (pv 0) (@Bv _ _ _ _ A4) rfl)
  (@A6 _ _ _ (@Ae _ _ _ _ A8))),?_⟩
 walk_at "su";obtain ⟨dx,fs,ho,hf⟩:=id hD.o;walk_at "go";intro p hp
 have hp1:upd H p (.lst []) d=some (.ins Z5 dx fs):=by rw [A3 (A2 ho hp)];exact ho
 refine ⟨Z5,dx,fs,hp1,T.Zs,T.Z2p,by have:=hf.n;omega,?_⟩;walk_at "rs";have npd:p≠d:=(A2 ho hp).symm;exact q p _ (fun b o e nb=>by rw [A3 nb,A3 (A2 e hp)];exact e) ⟨dx,_,A5,hf.asks⟩ (by rw [A3 npd];exact A5) hp
variable (Z16:Def P w K mg base CX0 9 "answer_again" ["desk","given"] (Ej Z5))
include T Z25 in
theorem Z5h(F:Fun K "answer_tower" "answer_tower" Z2j f fd):Au P w K mg base CX0 9 f fd ["desk","given"] (Bu K Z5 Z1 Z0 Z2 false):=by
 have sc:Ab ["desk","given"] ["desk","given"] (A7 Z2j):=by walk_at "sc"
 walk_at "ok"
 · exact n10 h_ fun _ _ _ _ _ _ _ _ _ _=>rfl
 refine x10 h_ fun d gv st as tw ts zs ks ws B e_=>y15 e_ fun e0 hD hst hW hdk hB1 hB2 nd hrm hl hg hz1 hz6 hzz q=>?_;clear e_ h_;subst e0
 refine ⟨_,(@A1 _ _ _ _ _ (Bl (pv 0) (L9 Z25 hr rfl (Ax Ad) (A0 (Af (pv 0) rfl) (A0 (pv 1) A4))) rfl)
  (@A6 _ _ _ (@Ae _ _ _ _ A8))),?_⟩
 walk_at "st";obtain ⟨dx,fs,ho,hf⟩:=id hD.o;walk_at "go";refine ⟨Z5,dx,fs,ho,T.Zs,T.Z0f,_,hf.st,fun t dy ht hdy ne1=>?_⟩
 have smx:A9 H (upd (upd H dy (.own t)) t (.ins Z1 dy [])):=fun b o e=>by rw [A3 (A2 e ht),A3 (A2 e hdy)];exact e
 refine ⟨dy,st,rfl,A5,ts,hst.same smx,nd,hrm,hl,zs,SqL.of (smx _ _ hg),hz1,hz6,hzz,fun x s H2 sb2 tw e1 e2 e3 e4 e5 fr=>?_⟩;have sm2:A9 H H2:=Ez ht hdy sb2
 have fr2:∀b∈x.si::own t x,H b=none:=fun b hb=>by
  rcases fr b hb with k | k
  · rw [k];exact ht
  · cases k2:H b with
    | none=>rfl
    | some o=>rw [smx _ _ k2]at k;cases k
 have hW2:=hW.add (w:=⟨Z1,t,x,s,g0⟩) sm2 (tw.up hB1 (by omega)) fr2 e5;have hd2:=sm2 _ _ ho;clear smx sb2 fr hst hW tw;refine ⟨Z5,dx,fs,hd2,T.Zs,T.Z0g,by have:=hf.n;omega,?_⟩;walk_at "rs"
 have sb3:SameBut d H2 (upd H2 d (.ins Z5 dx (Am (Str.ofString "tower") (.ref t) fs))):=fun b o e nb=>by rw [A3 nb];exact e
 exact q t x s _ (fun b o e nb=>by rw [A3 nb];exact sm2 _ _ e) ⟨dx,_,A5,hf.tower⟩ (hW2.put hdk (fun e z=>by cases z) sb3 A5).1 e1 e2 e3 e4 fr2
variable (Z17:Def P w K mg base CX0 9 "answer_tower" ["desk","given"] (Bu K Z5 Z1 Z0 Z2 false))
include T Z1m in
theorem Z51(F:Fun K "answer_prompt" "answer_prompt" Z20 f fd):Au P w K mg base CX0 9 f fd ["desk","given"] (Bu K Z5 Z1 Z0 Z2 true):=by
 have sc:Ab ["desk","given"] ["desk","given"] (A7 Z20):=by walk_at "sc"
 walk_at "ok"
 · exact n10 h_ fun _ _ _ _ _ _ _ _ _ _=>rfl
 refine x10 h_ fun d gv st as tw ts zs ks ws B e_=>y15 e_ fun e0 hD hst hW hdk hB1 hB2 nd hrm hl hg hz1 hz6 hzz q=>?_;clear e_ h_;subst e0
 refine ⟨_,(@A1 _ _ _ _ _ (Bl (pv 0) (L9 Z1m hr rfl (Ax Ad) (A0 (Af (pv 0) rfl) (A0 (pv 1) A4))) rfl)
  (@A6 _ _ _ (@Ae _ _ _ _ A8))),?_⟩
 walk_at "st";obtain ⟨dx,fs,ho,hf⟩:=id hD.o;walk_at "go";refine ⟨Z5,dx,fs,ho,T.Zs,T.Z0f,_,hf.st,fun t dy ht hdy ne1=>?_⟩
 have smx:A9 H (upd (upd H dy (.own t)) t (.ins Z0 dy [])):=fun b o e=>by rw [A3 (A2 e ht),A3 (A2 e hdy)];exact e
 refine ⟨dy,st,rfl,A5,ts,hst.same smx,nd,hrm,hl,zs,SqL.of (smx _ _ hg),hz1,hz6,hzz,fun x s H2 sb2 tw e1 e2 e3 e4 e5 fr=>?_⟩;have sm2:A9 H H2:=Ez ht hdy sb2
 have fr2:∀b∈x.si::own t x,H b=none:=fun b hb=>by
  rcases fr b hb with k | k
  · rw [k];exact ht
  · cases k2:H b with
    | none=>rfl
    | some o=>rw [smx _ _ k2]at k;cases k
 have hW2:=hW.add (w:=⟨Z0,t,x,s,g0⟩) sm2 (tw.up hB1 (by omega)) fr2 e5;have hd2:=sm2 _ _ ho;clear smx sb2 fr hst hW tw;refine ⟨Z5,dx,fs,hd2,T.Zs,T.Z0g,by have:=hf.n;omega,?_⟩;walk_at "rs"
 have sb3:SameBut d H2 (upd H2 d (.ins Z5 dx (Am (Str.ofString "tower") (.ref t) fs))):=fun b o e nb=>by rw [A3 nb];exact e
 exact q t x s _ (fun b o e nb=>by rw [A3 nb];exact sm2 _ _ e) ⟨dx,_,A5,hf.tower⟩ (hW2.put hdk (fun e z=>by cases z) sb3 A5).1 e1 e2 e3 e4 fr2
variable (Z0u:Def P w K mg base CX0 9 "answer_prompt" ["desk","given"] (Bu K Z5 Z1 Z0 Z2 true))
include T Z6 Z22 Z1k in
theorem Z6h(F:Fun K "answer_read" "answer_read" Z3c f fd):Au P w K mg base CX0 9 f fd ["desk","given"] (Ek K Z5 Z1 Z0 Z2):=by
 have sc:Ab ["desk","given"] ["desk","given"] (A7 Z3c):=by walk_at "sc"
 walk_at "ok"
 · exact n12 h_ fun _ _ _ _ _ _ _ _ _ _ _ _=>rfl
 refine x12 h_ fun d gv st as t pr x s g ts B z e_=>y8 e_ fun e0 hD hg hz hB h0 h1 q=>?_;clear e_ h_;subst e0;refine ⟨_,(@A6 _ _ _ (@Ae _ _ _ _ (B0 B7 rfl T.Z0m (by first | rfl | decide+kernel) (A0 (Lf (C:=Dd Z1 Z0) (sp:=fun w=>Du K (Dd Z1 Z0 w) Z2) (fun w=>by cases w;exact Z22;exact Z1k) (fun w=>by cases w;exact T.Z4;exact T.Z3) hr (Ax Ad) (Ag Z6 hr rfl Ad (A0 (pv 0) A4)) (A0 (@Bz _ _ _ _ _ _ _ Bp (pv 1) Aa (fun _ _=>rfl)) A4)) A4)))),?_⟩;walk_at "st";obtain ⟨dx,fs,ho,hf⟩:=id hD.t.to.tw.o;walk_at "go";refine ⟨st,as,t,hD.d,pr,dx,fs,ho,hf.m _ (by simp),Bw (SqL.of hg) (v:=V.str z) (Cv (j:=0) rfl) ⟨x,s,g,z,rfl,ts,B,hD.t,hz,hB,fun s' H' o tw e1 e2 e3 e4=>⟨Dx h0 (by omega),q s' H' o tw e1 e2 e3 e4⟩⟩⟩
variable (Z1p:Def P w K mg base CX0 9 "answer_read" ["desk","given"] (Ek K Z5 Z1 Z0 Z2))
include T Z6 Z23 Z1l in
theorem Z6i(F:Fun K "answer_keep" "answer_keep" Z3d f fd):Au P w K mg base CX0 9 f fd ["desk","given"] (El K Z5 Z1 Z0 Z2):=by
 have sc:Ab ["desk","given"] ["desk","given"] (A7 Z3d):=by walk_at "sc"
 walk_at "ok"
 · exact n13 h_ fun _ _ _ _ _ _ _ _ _ _ _ _ _=>rfl
 refine x13 h_ fun d gv st as t pr x s g ts B z v e_=>y8 e_ fun e0 hD hg hv1 hv2 hz hB q=>?_;clear e_ h_;subst e0
 refine ⟨_,(@A1 _ _ _ _ _ (Ai (Lf (C:=Dd Z1 Z0) (sp:=fun w=>Dv K (Dd Z1 Z0 w) Z2 w) (fun w=>by cases w;exact Z23;exact Z1l) (fun w=>by cases w;exact T.Z4;exact T.Z3) hr (Ax Ad) (Ag Z6 hr rfl Ad (A0 (pv 0) A4)) (A0 (@Bz _ _ _ _ _ _ _ Bp (pv 1) Aa (fun _ _=>rfl)) (A0 (@Bz _ _ _ _ _ _ _ Bp (pv 1) Aa (fun _ _=>rfl)) A4))))
  (@A6 _ _ _ (@Ae _ _ _ _ A8))),?_⟩
 walk_at "st";obtain ⟨dx,fs,ho,hf⟩:=id hD.t.to.tw.o;walk_at "go";refine ⟨st,as,t,hD.d,pr,dx,fs,ho,hf.m _ (by simp),Bw (SqL.of hg) (v:=V.str z) (Cv (j:=0) rfl) (Bw (SqL.of hg) (v:=V.int v) (Cv (j:=1) rfl) ⟨x,s,g,z,rfl,v,rfl,hv1,hv2,ts,B,hD.t,hz,hB,fun s' H' o tw e1 e2 e3 e4=>?_⟩)⟩;walk_at "rs";exact q s' H' o tw e1 e2 e3 e4
variable (Z1q:Def P w K mg base CX0 9 "answer_keep" ["desk","given"] (El K Z5 Z1 Z0 Z2))
include T Z6 Z1h Z12 in
theorem Z5i(F:Fun K "answer_ahead" "answer_ahead" Z2k f fd):Au P w K mg base CX0 9 f fd ["desk","given"] (E2 K Z5 Z1 Z0 Z2):=by
 have sc:Ab ["desk","given"] ["desk","given"] (A7 Z2k):=by walk_at "sc"
 walk_at "ok"
 · exact n12 h_ fun _ _ _ _ _ _ _ _ _ _ _ _=>rfl
 refine x12 h_ fun d gv st as t pr x s g ts B z e_=>y6 e_ fun e0 hD hg hz hB q=>?_;clear e_ h_;subst e0;refine ⟨_,(@A6 _ _ _ (@Ae _ _ _ _ (Xl (Eg (Lf (C:=Dd Z1 Z0) (sp:=fun w=>Da K (Dd Z1 Z0 w) Z2) (fun w=>by cases w;exact Z1h;exact Z12) (fun w=>by cases w;exact T.Z4;exact T.Z3) hr (Ax Ad) (Ag Z6 hr rfl Ad (A0 (pv 0) A4)) (A0 (@Bz _ _ _ _ _ _ _ Bp (pv 1) Aa (fun _ _=>rfl)) A4))) A8 A8))),?_⟩;walk_at "st";obtain ⟨dx,fs,ho,hf⟩:=id hD.t.to.tw.o;walk_at "go";refine ⟨st,as,t,hD.d,pr,dx,fs,ho,hf.m _ (by simp),Bw (SqL.of hg) (v:=V.str z) (Cv (j:=0) rfl) ⟨x,s,g,z,rfl,ts,B,hD.t,hz,hB,fun s' H' o tw e1 e2 e3 e4=>?_⟩⟩;have q1:=q s' H' o tw e1 e2 e3 e4
 by_cases hR:z∈s.R
 · rw [if_neg (fun k=>k hR)]
   rw [if_pos hR]at q1;exact q1
 · rw [if_pos hR]
   rw [if_neg hR]at q1;exact q1
variable (Z18:Def P w K mg base CX0 9 "answer_ahead" ["desk","given"] (E2 K Z5 Z1 Z0 Z2))
include T Z6 Z24 Z1n in
theorem Z6j(F:Fun K "answer_rest" "answer_rest" Z3e f fd):Au P w K mg base CX0 9 f fd ["desk","given"] (Em K Z5 Z1 Z0 Z2):=by
 have sc:Ab ["desk","given"] ["desk","given"] (A7 Z3e):=by walk_at "sc"
 walk_at "ok"
 · exact n11 h_ fun _ _ _ _ _ _ _ _ _ _ _=>rfl
 refine x11 h_ fun d gv st as t pr x s g ts B e_=>y4 e_ fun e0 hD hB q=>?_;clear e_ h_;subst e0;refine ⟨_,(@A6 _ _ _ (@Ae _ _ _ _ (B0 B7 rfl T.Z0m (by first | rfl | decide+kernel) (A0 (Kd (C:=Dd Z1 Z0) (sp:=fun w=>Dw K (Dd Z1 Z0 w) Z2) (fun w=>by cases w;exact Z24;exact Z1n) (fun w=>by cases w;exact T.Z4;exact T.Z3) hr (Ax Ad) (Ag Z6 hr rfl Ad (A0 (pv 0) A4))) A4)))),?_⟩;walk_at "st";obtain ⟨dx,fs,ho,hf⟩:=id hD.t.to.tw.o;walk_at "go";refine ⟨st,as,t,hD.d,pr,dx,fs,ho,hf.m _ (by simp),x,s,g,ts,B,hD.t,hB,fun x' s' H' o m tw e1 e2 e3 e4 e5 e6=>⟨Dx (by omega) (by have:=hD.t.to.rl;have:=Hs g.l s.R;omega),q x' s' H' o m tw e1 e2 e3 e4 e5 e6⟩⟩
variable (Z1r:Def P w K mg base CX0 9 "answer_rest" ["desk","given"] (Em K Z5 Z1 Z0 Z2))
include T Z6 Z00 Zx in
theorem Z5j(F:Fun K "answer_store" "answer_store" Z2l f fd):Au P w K mg base CX0 9 f fd ["desk","given"] (E3 K Z5 Z1 Z0 Z2):=by
 have sc:Ab ["desk","given"] ["desk","given"] (A7 Z2l):=by walk_at "sc"
 walk_at "ok"
 · exact n12 h_ fun _ _ _ _ _ _ _ _ _ _ _ _=>rfl
 refine x12 h_ fun d gv st as t pr x s g ts B z e_=>y7 e_ fun e0 hD hg hz h0 h1 q=>?_;clear e_ h_;subst e0;refine ⟨_,(@A6 _ _ _ (@Ae _ _ _ _ (B0 B7 rfl T.Z0m (by first | rfl | decide+kernel) (A0 (Lf (C:=Dd Z1 Z0) (sp:=fun w=>Cu K (Dd Z1 Z0 w) Z2) (fun w=>by cases w;exact Z00;exact Zx) (fun w=>by cases w;exact T.Z4;exact T.Z3) hr (Ax Ad) (Ag Z6 hr rfl Ad (A0 (pv 0) A4)) (A0 (@Bz _ _ _ _ _ _ _ Bp (pv 1) Aa (fun _ _=>rfl)) A4)) A4)))),?_⟩;walk_at "st";obtain ⟨dx,fs,ho,hf⟩:=id hD.t.to.tw.o;walk_at "go";refine ⟨st,as,t,hD.d,pr,dx,fs,ho,hf.m _ (by simp),Bw (SqL.of hg) (v:=V.str z) (Cv (j:=0) rfl) ⟨x,s,g,z,rfl,hD.t.to.tw,ts,hD.t.to.sk,hD.t.to.tn,hz,B,_,hD.t.g,Dx h0 (by omega),q⟩⟩
variable (Z19:Def P w K mg base CX0 9 "answer_store" ["desk","given"] (E3 K Z5 Z1 Z0 Z2))
include T Z6 Zz Zw in
theorem Z52(F:Fun K "answer_levels" "answer_levels" Z21 f fd):Au P w K mg base CX0 9 f fd ["desk","given"] (Dn K Z5 Z1 Z0 Z2):=by
 have sc:Ab ["desk","given"] ["desk","given"] (A7 Z21):=by walk_at "sc"
 walk_at "ok"
 · exact n11 h_ fun _ _ _ _ _ _ _ _ _ _ _=>rfl
 refine x11 h_ fun d gv st as t pr x s g ts B e_=>y4 e_ fun e0 hD hyl q=>?_;clear e_ h_;subst e0;refine ⟨_,(@A6 _ _ _ (@Ae _ _ _ _ (D3 Hg Hr Hq Iw A8 (A0 (Ew "names" [] rfl rfl (C9 (Kd (C:=Dd Z1 Z0) (sp:=fun w=>Ct (Dd Z1 Z0 w)) (fun w=>by cases w;exact Zz;exact Zw) (fun w=>by cases w;exact T.Z4;exact T.Z3) hr (Ax Ad) (Ag Z6 hr rfl Ad (A0 (pv 0) A4)))) (fun b=>(D3 Hg Hr Hq Iw A8 (A0 (Al Nf (pv 0) (@Bv _ _ _ _ (A0 A8 A4))) A4)))) A4)))),?_⟩;walk_at "st";obtain ⟨dx,fs,ho,hf⟩:=id hD.t.to.tw.o;walk_at "go";have hz6:=hD.t.to.zl;refine ⟨st,as,t,hD.d,pr,dx,fs,ho,hf.m _ (by simp),x,s,hD.t.to.tw,hz6,hD.t.to.zz,fun p ls H1 hp sm1 hp1 hL _ _ _=>⟨⟨_,SqL.of hp1⟩,?_⟩⟩;refine J18 (fun i y _=>y=V.str (Txt.join (Str.ofString " ") (lvl s.zs s.R i++[slash]))) (fun _=>True) (fun i y H H' l zs h _ _=>h) (SqL.of hp1) (by rw [Fa,hL.1];omega) (fun b i y H' Q' hy sm' _ q'=>?_) (fun D yl H5 hDn sm5 hyD hyl5 hall _=>?_)
 · rw [Fg]at hy
   cases hl:ls[i]? with
   | none=>rw [hl]at hy;cases hy
   | some a'=>
   rw [hl]at hy;cases hy;have ha:=sm' _ _ (hL.2 i a' hl);walk_at "go";intro p2 hp2;have ha2:=(A9.new hp2 (o:= .lst [V.str (Str.ofString "/")])) _ _ ha;have hll:(lvl s.zs s.R i).length≤59:=FA (Mz i) hD.t.to.rl;refine ⟨a',p2,_,_,rfl,rfl,ha2,A5,by rw [Fa];simp only [List.length_cons,List.length_nil];omega,fun p3 hp3=>?_⟩;refine ⟨p3,rfl,lvl s.zs s.R i++[slash],SqL.of (by rw [A5,FC];rfl),?_,q' _ _ ((A9.new hp2).trans (A9.new hp3)) rfl trivial⟩;rw [sp1]
   have h1:=Kb (ys:=lvl s.zs s.R i++[slash]) (b:=8) fun y hy=>by
    rcases Fn.mp hy with k | k
    · exact hyl y (K6 k)
    · rw [Fc.mp k];decide+kernel
   rw [Fj]at h1 ⊢;simp only [List.length_cons,List.length_nil]at h1 ⊢;omega
 have ey:yl=((List.range s.zs.length).map fun j=>Txt.join (Str.ofString " ") (lvl s.zs s.R j++[slash])).map V.str:=by
  rw [Fa,hL.1]at hyl5;rw [FM];refine RT fun i=>?_;rw [Fg]
  by_cases hi:i < s.zs.length
  · rw [RG hi,Fd (by omega)]
    exact congrArg some (hall i _ (Fd (by omega)))
  · rw [Ht (by omega),Ht (by rw [Rf];omega)];rfl
 rw [ey]at hyD;refine ⟨D,rfl,_,SqL.of hyD,?_,q _ (sm1.trans sm5)⟩;rw [sp1]
 have h1:=Kb (ys:=(List.range s.zs.length).map fun j=>Txt.join (Str.ofString " ") (lvl s.zs s.R j++[slash])) (b:=1000) fun y hy=>by
  obtain ⟨j,_,rfl⟩:=Fv.mp hy;have hll:(lvl s.zs s.R j).length≤59:=FA (Mz j) hD.t.to.rl;rw [show Txt.join (Str.ofString " ") (lvl s.zs s.R j++[slash])=Str.join (Str.ofString " ") (lvl s.zs s.R j++[slash]) from StrLaws.glued_eq_join _ _]
  have h2:=M7 (y:=Str.ofString " ") (b:=8) (ps:=lvl s.zs s.R j++[slash]) fun p hp=>by
   rcases Fn.mp hp with k | k
   · exact hyl p (K6 k)
   · rw [Fc.mp k];decide+kernel
  rw [sp1,Fj]at h2;simp only [List.length_cons,List.length_nil]at h2;omega
 rw [Fa,Rf]at h1 ⊢;omega
variable (Z0v:Def P w K mg base CX0 9 "answer_levels" ["desk","given"] (Dn K Z5 Z1 Z0 Z2))
include T Z6 Z1i Z13 in
theorem Z5k(F:Fun K "answer_found" "answer_found" Z2m f fd):Au P w K mg base CX0 9 f fd ["desk","given"] (E4 K Z5 Z1 Z0 Z2):=by
 have sc:Ab ["desk","given"] ["desk","given"] (A7 Z2m):=by walk_at "sc"
 walk_at "ok"
 · exact n11 h_ fun _ _ _ _ _ _ _ _ _ _ _=>rfl
 refine x11 h_ fun d gv st as t pr x s g ts B e_=>y4 e_ fun e0 hD hf0 q=>?_;clear e_ h_;subst e0;refine ⟨_,(@A6 _ _ _ (@Ae _ _ _ _ (D3 Hg Hr Hq Iw A8 (A0 (Ew "number" [] rfl rfl (C9 (Kd (C:=Dd Z1 Z0) (sp:=fun w=>Dc (Dd Z1 Z0 w)) (fun w=>by cases w;exact Z1i;exact Z13) (fun w=>by cases w;exact T.Z4;exact T.Z3) hr (Ax Ad) (Ag Z6 hr rfl Ad (A0 (pv 0) A4)))) (fun b=>(B0 B7 rfl T.Z0m (by first | rfl | decide+kernel) (A0 (pv 0) A4)))) A4)))),?_⟩;walk_at "st";obtain ⟨dx,fs,ho,hf⟩:=id hD.t.to.tw.o;walk_at "go";refine ⟨st,as,t,hD.d,pr,dx,fs,ho,hf.m _ (by simp),x,s,hD.t.to.tw,fun p H1 hp sm1 hp1=>⟨⟨_,SqL.of hp1⟩,?_⟩⟩;have hfl:=hD.t.to.ff;have hz6:=hD.t.to.zl;refine G9 J3d (SqL.of hp1) (by rw [Fa];omega) (fun b y H' Q' hy sm q'=>?_) fun D hDn=>?_
 · obtain ⟨i,hi,rfl⟩:=Fv.mp hy
   have hi1:=hf0 i hi;walk_at "go";exact ⟨Dx hi1.1 (by omega),q'⟩
 rw [M8];refine ⟨D,rfl,_,SqL.of A5,?_,?_⟩
 · rw [sp1]
   have h1:=Kb (ys:=s.ff.map fun i=>Str.ofString (toString i)) (b:=31) fun y hy=>by
    obtain ⟨i,hi,rfl⟩:=Fv.mp hy;have:=hf0 i hi;exact Ld this.1 (by omega)
   rw [Fa]at h1 ⊢;omega
 · exact q _ (sm1.trans (A9.new hDn))
variable (Z1a:Def P w K mg base CX0 9 "answer_found" ["desk","given"] (E4 K Z5 Z1 Z0 Z2))
include T Z6 Z1j Z14 in
theorem Z5l(F:Fun K "answer_spent" "answer_spent" Z2n f fd):Au P w K mg base CX0 9 f fd ["desk","given"] (E5 K Z5 Z1 Z0 Z2):=by
 have sc:Ab ["desk","given"] ["desk","given"] (A7 Z2n):=by walk_at "sc"
 walk_at "ok"
 · exact n11 h_ fun _ _ _ _ _ _ _ _ _ _ _=>rfl
 refine x11 h_ fun d gv st as t pr x s g ts B e_=>y5 e_ fun e0 hD h0 h1 q=>?_;clear e_ h_;subst e0;refine ⟨_,(@A6 _ _ _ (@Ae _ _ _ _ (B0 B7 rfl T.Z0m (by first | rfl | decide+kernel) (A0 (Kd (C:=Dd Z1 Z0) (sp:=fun w=>D9 (Dd Z1 Z0 w)) (fun w=>by cases w;exact Z1j;exact Z14) (fun w=>by cases w;exact T.Z4;exact T.Z3) hr (Ax Ad) (Ag Z6 hr rfl Ad (A0 (pv 0) A4))) A4)))),?_⟩;walk_at "st";obtain ⟨dx,fs,ho,hf⟩:=id hD.t.to.tw.o;walk_at "go";exact ⟨st,as,t,hD.d,pr,dx,fs,ho,hf.m _ (by simp),x,s,hD.t.to.tw,Dx h0 (by omega),q⟩
variable (Z1b:Def P w K mg base CX0 9 "answer_spent" ["desk","given"] (E5 K Z5 Z1 Z0 Z2))
include T Z2s Z15 Z17 Z0u Z1p Z1q Z18 Z1r Z19 Z0v Z1a Z1b Z16 in
theorem Z7j(F:Fun K "say" "Desk.say" Z49 f fd)(Z7t:∀b,Su w.params K Z8 (wd b) (some (.ref ((fun w:W85=>match w with | .thing=>xanswer_thing | .tower=>xanswer_tower | .prompt=>xanswer_prompt | .read=>xanswer_read | .keep=>xanswer_keep | .ahead=>xanswer_ahead | .rest=>xanswer_rest | .store=>xanswer_store | .levels=>xanswer_levels | .found=>xanswer_found | .spent=>xanswer_spent | .again=>xanswer_again) b)))):Au P w K mg base CX0 10 f fd ["self","line"] (Le K Z5 Z1 Z0 Z2):=by
 have sc:Ab ["self","line","told","answer"] ["self","line"] (A7 Z49):=by walk_at "sc"
 walk_at "ok"
 · exact n2 h_ fun _ _=>rfl
 refine x2 h_ fun d l e_=>y3 e_ fun e0 ok q=>?_;clear e_ h_;subst e0
 refine ⟨_,(@A1 _ _ _ _ _ (As (i:=2) sc.nd rfl (Or.inl rfl) (Ag Z2s hr rfl Ad (A0 (pv 1) A4)))
  (@A1 _ _ _ _ _ (As (i:=3) sc.nd rfl (Or.inl rfl) (W2 (Kv (v:= .ref Z8) rfl T.Z81 rfl) (@Bz _ _ _ _ _ _ _ Lq (pv 2) Aa (fun _ _=>rfl)) (fun _ _=>rfl)))
  (@A6 _ _ _ (@Ae _ _ _ _ (J1o (fa:=(fun w:W85=>match w with | .thing=>xanswer_thing | .tower=>xanswer_tower | .prompt=>xanswer_prompt | .read=>xanswer_read | .keep=>xanswer_keep | .ahead=>xanswer_ahead | .rest=>xanswer_rest | .store=>xanswer_store | .levels=>xanswer_levels | .found=>xanswer_found | .spent=>xanswer_spent | .again=>xanswer_again)) (nm:=(fun w:W85=>match w with | .thing=>"answer_thing" | .tower=>"answer_tower" | .prompt=>"answer_prompt" | .read=>"answer_read" | .keep=>"answer_keep" | .ahead=>"answer_ahead" | .rest=>"answer_rest" | .store=>"answer_store" | .levels=>"answer_levels" | .found=>"answer_found" | .spent=>"answer_spent" | .again=>"answer_again")) (sp:=spA K Z5 Z1 Z0 Z2) (fun w=>by cases w;exact Z15;exact Z17;exact Z0u;exact Z1p;exact Z1q;exact Z18;exact Z1r;exact Z19;exact Z0v;exact Z1a;exact Z1b;exact Z16) (fun w=>by cases w;exact T.Z5r;exact T.Z5s;exact T.Z53;exact T.Z6t;exact T.Z6u;exact T.Z5t;exact T.Z6v;exact T.Z5u;exact T.Z54;exact T.Z5v;exact T.Z5w;exact T.Z5x) hr Ad (pv 3) (A0 (pv 0) (A0 (@Bz _ _ _ _ _ _ _ Lq (pv 2) Aa (fun _ _=>rfl)) A4))))))),?_⟩
 walk_at "su";walk_at "go";refine ⟨l,rfl,ok,fun t g H1 sm1 ht hg ntg ht1 hg1=>?_⟩;have hans:=Z7t l.b;walk_at "rs";refine Kq (SqT.of ht1) (v:=V.str (wd l.b)) (Cv (j:=0) rfl) ⟨_,rfl,_,hans,?_⟩;walk_at "rs";exact ⟨l.b,rfl,Kq (SqT.of ht1) (v:=V.ref g) (Cv (j:=1) rfl) (J7l (q g H1 sm1 hg hg1))⟩
variable (Z0l:Cd P w K mg base CX0 10 Z5 "say" ["self","line"] (Le K Z5 Z1 Z0 Z2))
include T in
theorem Z7c(F:Fun K "_law_cell_at" "_law_cell_at" Z44 f fd):Au P w K mg base CX0 1 f fd ["_law_script","_law_k"] (Mv K):=by
 have sc:Ab ["_law_script","_law_k"] ["_law_script","_law_k"] (A7 Z44):=by walk_at "sc"
 walk_at "ok"
 · exact n3 h_ fun _ _ _=>rfl
 refine x3 h_ fun a ns k e_=>y5 e_ fun e0 hS h0 hl q=>?_;clear e_ h_;subst e0
 refine ⟨_,(@A1 _ _ _ _ _ (Az (Aj Nb (pv 1) (Aq Ar rfl T.Zf Fy (A0 (pv 0) A4)) (nomark _))
  (@A6 _ _ _ (@Ae _ _ _ _ (@Bz _ _ _ _ _ _ _ Bp (pv 0) (pv 1) (fun _ _=>rfl))))
  Ah)
  (@A6 _ _ _ (@Ae _ _ _ _ Aa))),?_⟩
 walk_at "su";walk_at "go";rw [Fa];split
 · rename_i hk
   exact Bw hS (G7 h0 (J57 (by omega))) q
 · rename_i hk
   rw [Fh,Ht (by omega)]at q;walk_at "go";exact q
variable (Z0b:Def P w K mg base CX0 1 "_law_cell_at" ["_law_script","_law_k"] (Mv K))
include T in
theorem Z89(F:Fun K "_law_mix" "_law_mix" Z5z f fd):Au P w K mg base CX0 1 f fd ["_law_cell","_law_k"] (Lc):=by
 have sc:Ab ["_law_cell","_law_k","_law_number"] ["_law_cell","_law_k"] (A7 Z5z):=by walk_at "sc"
 walk_at "ok"
 · exact n2 h_ fun _ _=>rfl
 refine x2 h_ fun c k e_=>y4 e_ fun e0 hk0 hk1 q=>?_;clear e_ h_;subst e0
 refine ⟨_,(@A1 _ _ _ _ _ (As (i:=2) sc.nd rfl (Or.inl rfl) (Al Cm (Al Cm (Al Co (pv 0) Aa) (Al T9 Aa (pv 1))) Aa))
  (@A6 _ _ _ (@Ae _ _ _ _ (Al Co (Al T9 (Al Co (Al Uk (pv 2) (pv 2)) Aa) Aa) Aa)))),?_⟩
 walk_at "su";have hx0:=Hc c (show (1000000007:Int)≠0 by decide);have hx1:=FT c (show (0:Int) < 1000000007 by decide);unfold Sr at q;walk_at "go"
 have big:(c % 1000000007+7919 * k+1).natAbs < 10 ^ 100:=by omega
 generalize c % 1000000007+7919 * k+1=u at big q ⊢;have hy0:=Hc (u * u) (show (2147483647:Int)≠0 by decide);have hy1:=FT (u * u) (show (0:Int) < 2147483647 by decide);exact ⟨⟨big,big⟩,by decide,J04 (by omega) (by omega),by decide,q (Hc _ (by decide)) (FT _ (by decide))⟩
variable (Z2o:Def P w K mg base CX0 1 "_law_mix" ["_law_cell","_law_k"] (Lc))
include T in
theorem Z7u(F:Fun K "_law_names" "_law_names" Z4h f fd):Au P w K mg base CX0 1 f fd ["_law_cell","_law_many"] (Ge):=by
 have sc:Ab ["_law_cell","_law_many","_law_letters","_law_long","_law_at","_law_names_here","_law_k","_law_name","_law_j","_law_signs","_law_sign"] ["_law_cell","_law_many"] (A7 Z4h):=by walk_at "sc"
 walk_at "ok"
 · exact n2 h_ fun _ _=>rfl
 refine x2 h_ fun i m e_=>y3 e_ fun e0 hm q=>?_;clear e_ h_;subst e0
 refine ⟨_,(@A1 _ _ _ _ _ (As (i:=2) sc.nd rfl (Or.inl rfl) A8)
  (@A1 _ _ _ _ _ (As (i:=3) sc.nd rfl (Or.inl rfl) (Al Cm Aa (Al Co (pv 0) Aa)))
  (@A1 _ _ _ _ _ (As (i:=4) sc.nd rfl (Or.inl rfl) (Al Co (Al Ir (pv 0) Aa) (pv 3)))
  (@A1 _ _ _ _ _ (As (i:=5) sc.nd rfl (Or.inl rfl) (@Bv _ _ _ _ A4))
  (@A1 _ _ _ _ _ (D8 PassesOwn.never rfl (Iq rfl T.Z3i (A0 (pv 1) A4)) (Bj (i:=6) sc.nd rfl (Or.inl rfl))
   (@A1 _ _ _ _ _ (As (i:=7) sc.nd rfl (Or.inl rfl) A8)
   (@A1 _ _ _ _ _ (D8 PassesOwn.never rfl (Iq rfl T.Z3i (A0 (pv 3) A4)) (Bj (i:=8) sc.nd rfl (Or.inl rfl))
    (@A1 _ _ _ _ _ (As (i:=9) sc.nd rfl (Or.inl rfl) (pv 2))
    (@A1 _ _ _ _ _ (Az (Aj Kx (pv 8) Aa (nomark _))
     (@A6 _ _ _ (As (i:=9) sc.nd rfl (Or.inl rfl) (Al Bf (pv 2) A8)))
     Ah)
    (@A1 _ _ _ _ _ (As (i:=10) sc.nd rfl (Or.inl rfl) (Al Cm (Al Qc (pv 0) (Al Cm Aa (Al T9 Aa (pv 8)))) (Al Uk (B0 Iv rfl T.Z3r (by first | rfl | decide+kernel) (A0 (Iu D1 (pv 8) (pv 4) (nomark _)) A4)) (pv 6))))
    (@A6 _ _ _ (As (i:=7) sc.nd rfl (Or.inl rfl) (Al Bf (pv 7) (@Bz _ _ _ _ _ _ _ Tf (pv 9) (Al Co (pv 10) (Aq Dj rfl T.Zf Fy (A0 (pv 9) A4))) (fun _ _=>rfl)))))))))
   (@A6 _ _ _ (Ai (D3 Fx FY FX Dg (pv 5) (A0 (pv 7) A4)))))))
  (@A1 _ _ _ _ _ (Az (PW.pt (Pc (Aj Kx (pv 1) Aa (nomark _)) (Pc (Aj Nb (pv 3) Aa (nomark _)) (Pb (Aj D1 (Al Co (Al Ir (pv 0) Aa) Aa) Aa (nomark _))))))
   (@A6 _ _ _ (Xo (Al Bf (@Bz _ _ _ _ _ _ _ Bp (pv 5) Aa (fun _ _=>rfl)) A8) (Xn (pv 5) (Al Ll (pv 1) Aa) Et)))
   Ah)
  (@A6 _ _ _ (@Ae _ _ _ _ (pv 5))))))))),?_⟩
 walk_at "st";have ll:=J32;have fl:=J33;have bl:=S5
 have hL1:1≤(1+i % 8).toNat:=by omega
 have hL8:(1+i % 8).toNat≤8:=by omega
 have h8:(1+i % 8)=((1+i % 8).toNat:Int):=by omega
 walk_at "go";rw [h8];clear h8;generalize (1+i % 8).toNat=L at hL1 hL8 ⊢;have ha0:=Hc (i / 8) (show (L:Int)≠0 by omega);have ha1:=FT (i / 8) (show (0:Int) < L by omega);walk_at "go";generalize i / 8 % (L:Int)=at' at ha0 ha1 ⊢;intro p hp;walk_at "go";refine Pk (fun k σ H'=>∃(v6 v7 v8 v9 v10:Option V),σ=[some (V.int i),some (V.int m),some (V.str (Str.ofString "abcdefghijklmnopqrstuvwxyz")),some (V.int L),some (V.int at'),some (V.ref p),v6,v7,v8,v9,v10]∧H'=upd H p (.lst (((List.range k).map fun k=>tx (nm3 (fun j:Nat=>i.fdiv (64+7 * (j:Int))) at' L k)).map V.str))) ⟨none,none,none,none,none,rfl,rfl⟩ ?_ ?_
 · rintro k σ H' hk ⟨v6,v7,v8,v9,v10,rfl,rfl⟩
   have hlen:(((List.range k).map fun k=>tx (nm3 (fun j:Nat=>i.fdiv (64+7 * (j:Int))) at' L k)).map V.str).length=k:=by simp
   walk_at "go";rename_i rest hrest;refine Pk (fun j σ H'=>∃(v8 v9 v10:Option V),σ=[some (V.int i),some (V.int m),some (V.str (Str.ofString "abcdefghijklmnopqrstuvwxyz")),some (V.int L),some (V.int at'),some (V.ref p),some (V.int k),some (V.str (tx (nmL (fun j:Nat=>i.fdiv (64+7 * (j:Int))) at' j k))),v8,v9,v10]∧H'=upd H p (.lst (((List.range k).map fun k=>tx (nm3 (fun j:Nat=>i.fdiv (64+7 * (j:Int))) at' L k)).map V.str))) ⟨v8,v9,v10,rfl,rfl⟩ ?_ ?_
   · rintro j σ H' hj ⟨v8,v9,v10,rfl,rfl⟩
     have hzl:(tx (nmL (fun j:Nat=>i.fdiv (64+7 * (j:Int))) at' j k)).length≤8:=by rw [J4i,Gd];omega
     rw [J11];generalize upd H p (.lst (((List.range k).map fun k=>tx (nm3 (fun j:Nat=>i.fdiv (64+7 * (j:Int))) at' L k)).map V.str))=Hp';generalize nmL (fun j:Nat=>i.fdiv (64+7 * (j:Int))) at' j k=zl at hzl ⊢;unfold N5.sgn md;walk_at "go";rename_i rest hrest
     have key2:∀(z:Str) (M:Nat),0 < M→M≤36→z.length=M→(∀x:Int,atI z.cps.toList (x % M)=some (bc (x % M)))→(M:Int)=(if j=0 then 26 else 36)→rest [some (V.int i),some (V.int m),some (V.str (Str.ofString "abcdefghijklmnopqrstuvwxyz")),some (V.int L),some (V.int at'),some (V.ref p),some (V.int k),some (V.str (tx zl)),some (V.int j),some (V.str z),v10] Hp':=by
      intro z M hM0 hM1 hzM hix hMj;subst hrest;rw [← hMj];clear hMj;walk_at "go"
      refine ⟨⟨by split <;> decide,by omega⟩,?_⟩
      walk_at "go";refine Ts (by omega) (hix _) ⟨_,rfl,by rw [Vd];omega,?_,rfl⟩
      have e:(if (j:Int)=at' then (1:Int) else 0) * k=if (j:Int)=at' then (k:Int) else 0:=by split <;> simp
      rw [J76,J75,e]
     clear hrest;split
     · rename_i hj0
       refine ⟨by omega,?_⟩;rw [J10];exact key2 _ 36 (by decide) (by decide) bl (fun x=>J77 x (by decide) (by decide)) (by rw [if_neg (by omega)];rfl)
     · rename_i hj0
       exact key2 _ 26 (by decide) (by decide) ll (fun x=>J5g x) (by rw [if_pos (by omega)];rfl)
   · rintro σ H' ⟨v8,v9,v10,rfl,rfl⟩
     subst hrest;walk_at "go"
     have hz3:tx (nmL (fun j:Nat=>i.fdiv (64+7 * (j:Int))) at' L k)=tx (nm3 (fun j:Nat=>i.fdiv (64+7 * (j:Int))) at' L k)∧True:=by
      unfold nm3;rw [if_neg (by omega),FP];exact ⟨rfl,trivial⟩
     rw [hz3.1];refine ⟨.inl ⟨rfl,_,SqL.of A5⟩,p,_,_,rfl,rfl,A5,by rw [hlen];omega,?_⟩;walk_at "go";congr 2;rw [R6,FC,FC];rfl
 · rintro σ H' ⟨v6,v7,v8,v9,v10,rfl,rfl⟩
   have ndA:((List.range m).map fun k=>tx (nm3 (fun j:Nat=>i.fdiv (64+7 * (j:Int))) at' L k)).Nodup:=J0x fun a b ha hb e=>J37 ha0 ha1 (by omega) (by omega) e
   have nmA:∀y∈(List.range m).map fun k=>tx (nm3 (fun j:Nat=>i.fdiv (64+7 * (j:Int))) at' L k),Bo y.cps.toList=true∧y.length≤L∧L≤y.length:=fun y hy=>by
    obtain ⟨k,hk,rfl⟩:=Fv.mp hy;have:=HY.mp hk;rw [Lz,J4i]
    have e:nm3 (fun j:Nat=>i.fdiv (64+7 * (j:Int))) at' L k=nmL (fun j:Nat=>i.fdiv (64+7 * (j:Int))) at' L k:=by unfold nm3;rw [if_neg (by omega),FP]
    refine ⟨J12 hL1 hL8 (fun h=>by omega) (by omega),?_⟩;rw [e,Gd];omega
   have lnA:((List.range m).map fun k=>tx (nm3 (fun j:Nat=>i.fdiv (64+7 * (j:Int))) at' L k)).length≤m∧m≤((List.range m).map fun k=>tx (nm3 (fun j:Nat=>i.fdiv (64+7 * (j:Int))) at' L k)).length:=by simp
   generalize ((List.range m).map fun k=>tx (nm3 (fun j:Nat=>i.fdiv (64+7 * (j:Int))) at' L k))=ys at ndA nmA lnA ⊢;walk_at "go";rename_i rest hrest
   have key:∀zs:List Str,zs.length≤m→m≤zs.length→zs.Nodup→(∀y∈zs,Bo y.cps.toList=true)→rest [some (V.int i),some (V.int m),some (V.str (Str.ofString "abcdefghijklmnopqrstuvwxyz")),some (V.int L),some (V.int at'),some (V.ref p),v6,v7,v8,v9,v10] (upd H p (.lst (zs.map V.str))):=by
    intro zs g1 g2 g3 g4;subst hrest;walk_at "go";exact q p zs _ hp (A9.new hp) A5 g1 g2 g3 g4
   clear hrest;have key0:=key ys lnA.1 lnA.2 ndA fun y hy=>(nmA y hy).1;split
   · rename_i hm1
     split
     · rename_i hL7
       refine ⟨Mr (by decide) (by decide),by decide,?_⟩;split
       · have h0:ys[0]?=some (ys.getD 0 Str.empty):=by rw [Fh,Fd (by omega)];rfl
         have hin:=Fk h0;obtain ⟨n1,n2,n3⟩:=nmA _ hin;obtain ⟨sv,sl⟩:=seven;refine Bw (SqL.of A5) (v:=V.str (ys.getD 0 Str.empty)) (G7 (by decide) (by rw [show (0:Int).toNat=0 from rfl,Fg,h0];rfl)) ⟨_,rfl,by omega,?_⟩;generalize ys.getD 0 Str.empty=y0 at n1 n2 n3 ⊢;walk_at "go";refine ⟨_,A5,m - 1,?_,?_⟩
         · rw [Fa,show ((m:Int) - 1)=((m - 1:Nat):Int) by omega]
           exact M3 (by omega)
         · walk_at "go"
           have hzl:(y0++Str.ofString "7").length=y0.length+1∧True:=⟨by rw [← Cf,Ex,Fj,Cf,sv];rfl,trivial⟩
           rw [← R9];refine key _ (by rw [Hw];omega) (by rw [Hw];omega) (X4 ndA (fun h=>by have:=nmA _ h;omega) _) fun y hy=>?_;rcases Rc hy with h | h
           · exact (nmA y h).1
           · rw [h,Ex,sv]
             exact Ox n1 (by rw [Cf];omega) (by decide)
       · exact key0
     · exact key0
   · exact key0
variable (Z3u:Def P w K mg base CX0 1 "_law_names" ["_law_cell","_law_many"] (Ge))
include T Z2o in
theorem Z82(F:Fun K "_law_cost" "_law_cost" Z4r f fd):Au P w K mg base CX0 2 f fd ["_law_cell","_law_k"] (Ke):=by
 have sc:Ab ["_law_cell","_law_k","_law_number"] ["_law_cell","_law_k"] (A7 Z4r):=by walk_at "sc"
 walk_at "ok"
 · exact n2 h_ fun _ _=>rfl
 refine x2 h_ fun c k e_=>y3 e_ fun e0 hk q=>?_;clear e_ h_;subst e0
 refine ⟨_,(@A1 _ _ _ _ _ (As (i:=2) sc.nd rfl (Or.inl rfl) (Ag Z2o hr rfl Ad (A0 (pv 0) (A0 (pv 1) A4))))
  (@A1 _ _ _ _ _ (Az (Aj D1 (Al Co (pv 2) Aa) Aa (nomark _))
   (@A6 _ _ _ (@Ae _ _ _ _ (Al Co (Al Ir (pv 2) Aa) Aa)))
   Ah)
  (@A6 _ _ _ (@Ae _ _ _ _ (Al Co (Al Kn (pv 2) Aa) (Al Cm (Al Kn Aa Aa) Aa)))))),?_⟩
 walk_at "st";walk_at "go";intro h0 h1;generalize Sr c k=v0 at h0 h1;walk_at "rs"
 by_cases h3:v0 % 3=0
 · rw [if_pos h3]
   refine ⟨Mr (by decide) (by decide),by decide,?_⟩;have a1:=Hc (v0 / 3) (show (10:Int)≠0 by decide);have a2:=FT (v0 / 3) (show (0:Int) < 10 by decide);exact q _ a1 (by omega)
 · rw [if_neg h3]
   walk_at "rs";have a1:=Hc (v0 ^ 5) (show (10:Int) ^ 30+1≠0 by decide);have a2:=FT (v0 ^ 5) (show (0:Int) < 10 ^ 30+1 by decide);exact ⟨Pl (by omega) (by omega) (by omega),Pl (by omega) (by omega) (by decide),by decide,q _ a1 (by omega)⟩
variable (Z3q:Def P w K mg base CX0 2 "_law_cost" ["_law_cell","_law_k"] (Ke))
include T in
theorem Z8a(F:Fun K "_law_new" "_law_new" Z60 f fd):Au P w K mg base CX0 1 f fd ["_law_sizes","_law_prompt"] (Lg K):=by
 have sc:Ab ["_law_sizes","_law_prompt","_law_state"] ["_law_sizes","_law_prompt"] (A7 Z60):=by walk_at "sc"
 walk_at "ok"
 · exact n3 h_ fun _ _ _=>rfl
 refine x3 h_ fun sz zs pr e_=>y4 e_ fun e0 hS hl q=>?_;clear e_ h_;subst e0
 refine ⟨_,(@A1 _ _ _ _ _ (@As _ _ 2 _ _ _ _ sc.nd rfl (Or.inl rfl) (@J2q _ _ _ _ _ (@Ig _ _ _ _ _ _ _ _ _ A8 (@Bv _ _ _ _ A4) (@Ig _ _ _ _ _ _ _ _ _ A8 C4 (@Ig _ _ _ _ _ _ _ _ _ A8 C4 (@Ig _ _ _ _ _ _ _ _ _ A8 C4 (@Ig _ _ _ _ _ _ _ _ _ A8 (Al Nf (Ew "_law_size" [] rfl rfl (C9 (pv 0)) (fun b=>Aa)) (@Bv _ _ _ _ (A0 Aa A4))) J2p))))) rfl rfl (by simp) (by decide)) (by rfl) (by first | exact .inl rfl | exact .inr rfl))
  (@A1 _ _ _ _ _ (Bt (Ao hr) (pv 2) A8 Aa rfl)
  (@A1 _ _ _ _ _ (Bt (Ao hr) (pv 2) A8 (pv 1) rfl)
  (@A6 _ _ _ (@Ae _ _ _ _ (pv 2)))))),?_⟩
 walk_at "st";walk_at "go";intro p hp;refine ⟨by omega,fun li hli ne hne la hla fa hfa=>?_⟩;have s1:A9 H (upd H p (.dK [])):=A9.new hp;have g1:upd H p (.dK []) p=some (.dK []):=A5;generalize upd H p (.dK [])=H1 at s1 g1 hli hne hla hfa ⊢;have s2:A9 H1 (upd H1 li (.lst [])):=A9.new hli;have g2:upd H1 li (.lst []) li=some (.lst []):=A5;generalize upd H1 li (.lst [])=H2 at s2 g2 hne hla hfa ⊢;have s3:A9 H2 (upd H2 ne (.dK [])):=A9.new hne;have g3:upd H2 ne (.dK []) ne=some (.dK []):=A5;generalize upd H2 ne (.dK [])=H3 at s3 g3 hla hfa ⊢;have s4:A9 H3 (upd H3 la (.dK [])):=A9.new hla;have g4:upd H3 la (.dK []) la=some (.dK []):=A5;generalize upd H3 la (.dK [])=H4 at s4 g4 hfa ⊢;have s5:A9 H4 (upd H4 fa (.dK [])):=A9.new hfa;have g5:upd H4 fa (.dK []) fa=some (.dK []):=A5;generalize upd H4 fa (.dK [])=H5 at s5 g5 ⊢;have s15:=((s2.trans s3).trans s4).trans s5;have s05:=s1.trans s15;refine ⟨⟨_,s05.seq hS⟩,?_⟩
 refine G9 (fun _=>V.int 0) (s05.seq hS) (by rw [Fa];omega) (fun b x H' Q' hx sm q'=>?_) fun D hD=>?_
 · walk_at "go"
   exact q'
 have s6:A9 H5 (upd H5 D (.lst ((zs.map V.int).map fun _=>V.int 0))):=A9.new hD
 have g6:upd H5 D (.lst ((zs.map V.int).map fun _=>V.int 0)) D=some (.lst ((List.replicate zs.length (0:Int)).map V.int)):=by rw [A5,List.map_const',Fa,RJ]
 generalize upd H5 D (.lst ((zs.map V.int).map fun _=>V.int 0))=H6 at s6 g6 ⊢;refine ⟨by omega,fun p5 hp5=>?_⟩;have s7:A9 H6 (upd H6 p5 (.lst [V.int 0])):=A9.new hp5;have g7:upd H6 p5 (.lst [V.int 0]) p5=some (.lst [V.int 0]):=A5;generalize upd H6 p5 (.lst [V.int 0])=H7 at s7 g7 ⊢;refine ⟨D,p5,_,_,rfl,rfl,s7 _ _ g6,g7,by rw [Fa,HI];simp only [List.length_cons,List.length_nil];omega,fun fo hfo=>?_⟩;have s8:A9 H7 (upd H7 fo (.lst ((List.replicate zs.length (0:Int)).map V.int++[V.int 0]))):=A9.new hfo
 have g8:upd H7 fo (.lst ((List.replicate zs.length (0:Int)).map V.int++[V.int 0])) fo=some (.lst ((List.replicate (zs.length+1) (0:Int)).map V.int)):=by rw [A5,List.replicate_succ',FC];rfl
 generalize upd H7 fo (.lst ((List.replicate zs.length (0:Int)).map V.int++[V.int 0]))=H8 at s8 g8 ⊢;have s58:=(s6.trans s7).trans s8;have s18:=s15.trans s58;refine ⟨s18 _ _ g1,[(kS "line",V.ref li),(kS "near",V.ref ne),(kS "late",V.ref la),(kS "far",V.ref fa),(kS "found",V.ref fo)],rfl,by simp,?_⟩;rw [show Kp [] [(kS "line",V.ref li),(kS "near",V.ref ne),(kS "late",V.ref la),(kS "far",V.ref fa),(kS "found",V.ref fo)]=[(kS "line",V.ref li),(kS "near",V.ref ne),(kS "late",V.ref la),(kS "far",V.ref fa),(kS "found",V.ref fo)] from rfl];have g9:upd H8 p (.dK [(kS "line",V.ref li),(kS "near",V.ref ne),(kS "late",V.ref la),(kS "far",V.ref fa),(kS "found",V.ref fo)]) p=some (.dK [(kS "line",V.ref li),(kS "near",V.ref ne),(kS "late",V.ref la),(kS "far",V.ref fa),(kS "found",V.ref fo)]):=A5
 have sb9:SameBut p H8 (upd H8 p (.dK [(kS "line",V.ref li),(kS "near",V.ref ne),(kS "late",V.ref la),(kS "far",V.ref fa),(kS "found",V.ref fo)])):=fun b o e nb=>by rw [A3 nb];exact e
 generalize upd H8 p (.dK [(kS "line",V.ref li),(kS "near",V.ref ne),(kS "late",V.ref la),(kS "far",V.ref fa),(kS "found",V.ref fo)])=H9 at g9 sb9 ⊢;walk_at "rs";refine ⟨_,Ea.k (k:=kS "spent") g9 (by simp;omega),?_⟩;walk_at "rs";refine ⟨_,Ea.k (k:=kS "prompt") A5 (by have:=Bg [(kS "line",V.ref li),(kS "near",V.ref ne),(kS "late",V.ref la),(kS "far",V.ref fa),(kS "found",V.ref fo)] (kS "spent") (V.int 0);simp only [List.length_cons,List.length_nil]at this;omega),?_⟩;walk_at "rs";have n01:=A2 g1 hli;have n02:=A2 (s2 _ _ g1) hne;have n03:=A2 ((s2.trans s3) _ _ g1) hla;have n04:=A2 (((s2.trans s3).trans s4) _ _ g1) hfa;have g17:=(s15.trans (s6.trans s7)) _ _ g1;have n05:=A2 g17 hfo;have n12:=A2 g2 hne;have n13:=A2 (s3 _ _ g2) hla;have n14:=A2 ((s3.trans s4) _ _ g2) hfa;have g27:=(((s3.trans s4).trans s5).trans (s6.trans s7)) _ _ g2;have n15:=A2 g27 hfo;have n23:=A2 g3 hla;have n24:=A2 (s4 _ _ g3) hfa
 have g37:=((s4.trans s5).trans (s6.trans s7)) _ _ g3;have n25:=A2 g37 hfo;have n34:=A2 g4 hfa;have g47:=(s5.trans (s6.trans s7)) _ _ g4;have n35:=A2 g47 hfo;have g57:=(s6.trans s7) _ _ g5;have n45:=A2 g57 hfo;have z1:H li=none:=none_of s1 hli;have z2:H ne=none:=none_of (s1.trans s2) hne;have z3:H la=none:=none_of ((s1.trans s2).trans s3) hla;have z4:H fa=none:=none_of (((s1.trans s2).trans s3).trans s4) hfa;have z5:H fo=none:=none_of (s05.trans (s6.trans s7)) hfo;refine q ⟨p,li,ne,la,fa,fo⟩ _ (fun b o e=>?_) (fun b hb=>?_) ⟨⟨_,A5,⟨rfl,rfl,rfl,rfl,rfl,rfl,rfl,by show 7≤10;decide⟩⟩,?_,⟨[],?_,Fq _,fun y hy=>by cases hy⟩,⟨[],?_,Fq _,Hh,fun k hk=>(by cases hk),fun y=>rfl⟩,⟨[],?_,Fq _,fun y=>rfl⟩,?_,?_,by decide⟩
 · have nb:=A2 e hp
   rw [A3 nb];exact sb9 _ _ ((s05.trans s58) _ _ e) nb
 · have hb':b=p∨b=li∨b=ne∨b=la∨b=fa∨b=fo:=by simpa [LsA.L] using hb
   rcases hb' with k | k | k | k | k | k <;> rw [k] <;> assumption
 · rw [A3 n01.symm]
   exact sb9 _ _ (s8 _ _ g27) n01.symm
 · rw [A3 n02.symm]
   exact sb9 _ _ (s8 _ _ g37) n02.symm
 · rw [A3 n03.symm]
   exact sb9 _ _ (s8 _ _ g47) n03.symm
 · rw [A3 n04.symm]
   exact sb9 _ _ (s8 _ _ g57) n04.symm
 · rw [A3 n05.symm]
   exact sb9 _ _ g8 n05.symm
 · simp only [LsA.L,FO,Fo,FQ,or_false,not_or,Hh,and_true]
   exact ⟨⟨n01,n02,n03,n04,n05⟩,⟨n12,n13,n14,n15⟩,⟨n23,n24,n25⟩,⟨n34,n35⟩,n45,not_false⟩
variable (Z45:Def P w K mg base CX0 1 "_law_new" ["_law_sizes","_law_prompt"] (Lg K))
include T in
theorem Z83(F:Fun K "_law_come" "_law_come" Z4s f fd):Au P w K mg base CX0 1 f fd ["_law_state","_law_name","_law_total"] (Kf):=by
 have sc:Ab ["_law_state","_law_name","_law_total","_law_last"] ["_law_state","_law_name","_law_total"] (A7 Z4s):=by walk_at "sc"
 walk_at "ok"
 · exact n5 h_ fun _ _ _ _ _=>rfl
 refine x5 h_ fun a s B S' z e_=>y8 e_ fun e0 hA hB nd hl hS1 hS2 q=>?_;clear e_ h_;subst e0
 refine ⟨_,(@A1 _ _ _ _ _ (Az (Aj Ck (pv 1) (An (Ao hr) (pv 0) A8 (fun _ _=>rfl)) (by with_unfolding_all rfl))
  (@A6 _ _ _ (Ai (D3 Fx Rj Rh Lw (An (Ao hr) (pv 0) A8 (fun _ _=>rfl)) (A0 (pv 1) A4))))
  Ah)
  (@A1 _ _ _ _ _ (Ai (D3 Fx Rk Ri M0 (An (Ao hr) (pv 0) A8 (fun _ _=>rfl)) (A0 Aa (A0 (pv 1) A4))))
  (@A6 _ _ _ (Az (Aj Kx (Aq Ar rfl T.Zf Fy (A0 (An (Ao hr) (pv 0) A8 (fun _ _=>rfl)) A4)) (pv 2) (nomark _))
   (@A1 _ _ _ _ _ (As (i:=3) sc.nd rfl (Or.inl rfl) (Ti Fx Rt Rr Tl (An (Ao hr) (pv 0) A8 (fun _ _=>rfl))))
   (@A6 _ _ _ (Az (Ia (Ls (Ao hr) (pv 3) (An (Ao hr) (pv 0) A8 (fun _ _=>rfl))))
    (@A1 _ _ _ _ _ (Ai (Eu (An (Ao hr) (pv 0) A8 (fun _ _=>rfl)) (pv 3) ⟨rfl,rfl,rfl,rfl⟩))
    (@A6 _ _ _ (Bt (Ao hr) (An (Ao hr) (pv 0) A8 (fun _ _=>rfl)) (pv 3) (An (Ao hr) (An (Ao hr) (pv 0) A8 (fun _ _=>rfl)) (pv 3) (fun _ _=>rfl)) rfl)))
    Ah)))
   Ah)))),?_⟩
 walk_at "st";walk_at "go";refine ⟨_,hA.gli,Nr (SqL.of hA.li) ⟨_,rfl,?_⟩⟩;rename_i rest hrest
 have key:∀(H1:Hp),Off a.L H H1→B2 H1 a {s with R:=s.R.erase z} B (fun y=>y∈s.R∨y=z)→rest [some (V.ref a.sd),some (V.str z),some (V.int S'),none] H1:=by
  intro H1 o1 h1;have hel:(s.R.erase z).length≤s.R.length:=R5;have hli1:H1 a.li=some (.lst ((s.R.erase z).map V.str)):=h1.li;subst hrest;walk_at "go";refine ⟨_,h1.gli,.inl ⟨rfl,_,SqL.of hli1⟩,a.li,rfl,_,hli1,by rw [Fa];omega,?_⟩;have h2:B2 (upd H1 a.li (.lst (V.str z::(s.R.erase z).map V.str))) a {s with R:=z::s.R.erase z} B (fun y=>y∈s.R∨y=z):=h1.row (R:=z::s.R.erase z);have o2:Off a.L H (upd H1 a.li (.lst (V.str z::(s.R.erase z).map V.str))):=o1.trans (Off.put (by simp [LsA.L]));generalize upd H1 a.li (.lst (V.str z::(s.R.erase z).map V.str))=H2 at h2 o2 ⊢;have hli2:H2 a.li=some (.lst ((z::s.R.erase z).map V.str)):=h2.li;walk_at "go";refine ⟨_,h2.gli,a.li,rfl,_,.inl (SqL.of hli2),?_⟩;rw [Fa];have hl1:(z::s.R.erase z).length=(s.R.erase z).length+1:=rfl;have ndc:=Mx (z:=z) nd
  by_cases hov:S' < ((z::s.R.erase z).length:Int)
  · rw [if_pos hov]
    obtain ⟨y,hy,edl,hyin,hiff⟩:=M5 (S:=S'.toNat) ndc (by omega)
    have eG:Bk S' s.R z s.g=Ci y s.g:=by unfold Bk Vz;rw [if_pos hov,hy];rfl
    walk_at "go";refine ⟨_,h2.gli,.inl ⟨rfl,_,SqL.of hli2⟩,a.li,rfl,_,hli2,V.str y,by rw [Fa,Fg,hy];rfl,?_⟩
    have h3:B2 (upd H2 a.li (.lst ((z::s.R.erase z).map V.str).dropLast)) a {s with R:=(z::s.R.erase z).dropLast} B (fun y=>y∈s.R∨y=z):=by
     rw [← RS];exact h2.row (R:=(z::s.R.erase z).dropLast)
    have o3:Off a.L H (upd H2 a.li (.lst ((z::s.R.erase z).map V.str).dropLast)):=o2.trans (Off.put (by simp [LsA.L]));generalize upd H2 a.li (.lst ((z::s.R.erase z).map V.str).dropLast)=H3 at h3 o3 ⊢;obtain ⟨kl,l1,l2,l3,l4,l5⟩:=h3.la;have hyd:=D5.mp hyin;walk_at "go";refine ⟨_,h3.gla,a.la,rfl,_,Br.k (k:=Sum.inr y) l1,?_⟩;rw [l5 y]
    have hfin:∀(g':Gt) (H':Hp),Off a.L H H'→B2 H' a {s with R:=(z::s.R.erase z).dropLast,g:=g'} (B+1) (fun y=>y∈s.R∨y=z)→(Bk S' s.R z s.g).h=g'.h→(Bk S' s.R z s.g).l=g'.l→(Bk S' s.R z s.g).st=g'.st→Q .non H':=fun g' H' o h e1 e2 e3=>by
     refine q H' o ?_;unfold Wb;rw [← edl];exact (h.gx e1 e2 e3).iff fun u hu=>D5.mp ((hiff u).mp hu).1
    by_cases hin:s.g.l y=true
    · rw [if_pos hin]
      have hsome:(Ay kl (Sum.inr y)).isSome=true:=by rw [l5 y];exact hin
      obtain ⟨vl,hvl⟩:=Hl.mp hsome
      have eG2:Ci y s.g=(s.g.late y false).write y:=by unfold Ci;rw [if_pos hin]
      walk_at "go";refine ⟨_,h3.gla,a.la,rfl,.inl ⟨_,.inl l1⟩,_,l1,Sum.inr y,rfl,_,hvl,?_⟩;have h4:=h3.lateOff (z:=y) l1;have o4:Off a.L H (upd H3 a.la (.dK (B9 kl (Sum.inr y)))):=o3.trans (Off.put (by simp [LsA.L]));show _;generalize upd H3 a.la (.dK (B9 kl (Sum.inr y)))=H4 at h4 o4 ⊢;obtain ⟨kn,n1,n2,n3⟩:=h4.ne;obtain ⟨kf,f1,f2,f3⟩:=h4.fa;have gN:=Br.k (k:=Sum.inr y) n1;rw [n3 y hyd]at gN;walk_at "go";refine ⟨_,h4.gne,a.ne,rfl,_,gN,_,h4.gfa,a.fa,rfl,_,Ea.k (k:=Sum.inr y) f1 (by omega),?_⟩;have h5:=h4.far (z:=y) (v:=(s.g.late y false).h y) f1 (by omega)
      refine hfin _ _ (o4.trans (Off.put (by simp [LsA.L]))) h5 ?_ ?_ ?_ <;> rw [eG,eG2] <;> rfl
    · rw [if_neg hin]
      have eG2:Ci y s.g=s.g:=by unfold Ci;rw [if_neg hin]
      exact hfin s.g H3 o3 (h3.up (by omega) (by omega)) (by rw [eG,eG2]) (by rw [eG,eG2]) (by rw [eG,eG2])
  · rw [if_neg hov]
    refine q H2 o2 ?_;have e1:(z::s.R.erase z).take S'.toNat=z::s.R.erase z:=FS (by omega)
    have e2:Bk S' s.R z s.g=s.g:=by unfold Bk;rw [if_neg hov]
    unfold Wb;rw [e1,e2];exact (h2.up (by omega) (by omega)).iff fun u hu=>D5.mp hu
 clear hrest
 by_cases hz:z∈s.R
 · rw [if_pos (by simpa using hz)]
   walk_at "go";refine ⟨_,hA.gli,.inl ⟨rfl,_,SqL.of hA.li⟩,a.li,rfl,s.R,hA.li,hz,key _ (Off.put (by simp [LsA.L])) hA.row⟩
 · rw [if_neg (by simpa using hz)]
   refine key H (.of (A9.refl H)) ?_;rw [Rx hz];exact hA
variable (Z4b:Def P w K mg base CX0 1 "_law_come" ["_law_state","_law_name","_law_total"] (Kf))
include T in
theorem Z7v(F:Fun K "_law_count" "_law_count" Z4i f fd):Au P w K mg base CX0 1 f fd ["_law_state","_law_sizes","_law_name"] (Gq K):=by
 have sc:Ab ["_law_state","_law_sizes","_law_name","_law_level","_law_at"] ["_law_state","_law_sizes","_law_name"] (A7 Z4i):=by walk_at "sc"
 walk_at "ok"
 · exact n7 h_ fun _ _ _ _ _ _ _=>rfl
 refine x7 h_ fun a s B hd sz zs z e_=>y10 e_ fun e0 hA hS hl hz' nd hRl hRs hff q=>?_;clear e_ h_;subst e0
 refine ⟨_,(@A1 _ _ _ _ _ (As (i:=3) sc.nd rfl (Or.inl rfl) (Aq Ar rfl T.Zf Fy (A0 (pv 1) A4)))
  (@A1 _ _ _ _ _ (Az (Aj Ck (pv 2) (An (Ao hr) (pv 0) A8 (fun _ _=>rfl)) (by with_unfolding_all rfl))
   (@A1 _ _ _ _ _ (As (i:=4) sc.nd rfl (Or.inl rfl) (D3 Fx PySem.F.slot_list_index PySem.F.type_list_index J1w (An (Ao hr) (pv 0) A8 (fun _ _=>rfl)) (A0 (pv 2) A4)))
   (@A1 _ _ _ _ _ (As (i:=3) sc.nd rfl (Or.inl rfl) Aa)
   (@A6 _ _ _ (Xr PassesOwn.never (Aj J67 (pv 4) (@Bz _ _ _ _ _ _ _ Bp (pv 1) (pv 3) (fun _ _=>rfl)) (nomark _))
    (@A1 _ _ _ _ _ (As (i:=4) sc.nd rfl (Or.inl rfl) (Al Ll (pv 4) (@Bz _ _ _ _ _ _ _ Bp (pv 1) (pv 3) (fun _ _=>rfl))))
    (@A6 _ _ _ (As (i:=3) sc.nd rfl (Or.inl rfl) (Al Cm (pv 3) Aa))))))))
   Ah)
  (@A6 _ _ _ (Xo (Al Cm (@Bz _ _ _ _ _ _ _ Bp (An (Ao hr) (pv 0) A8 (fun _ _=>rfl)) (pv 3) (fun _ _=>rfl)) Aa) (Xn (An (Ao hr) (pv 0) A8 (fun _ _=>rfl)) (pv 3) Et))))),?_⟩
 walk_at "st";walk_at "go";refine ⟨_,hA.gli,Nr (SqL.of hA.li) ⟨_,rfl,?_⟩⟩;rw [Fa];rename_i rest hrest
 have key:∀(k:Nat) (v:Option V),k=shx zs s.R z→rest [some (V.ref a.sd),some (V.ref sz),some (V.str z),some (V.int k),v] H:=by
  intro k v hk
  have hkl:k≤zs.length:=by
   rw [hk]
   by_cases hz:z∈s.R
   · obtain ⟨i,hi⟩:=FE.mp hz
     rw [J1y nd (fun u hu=>(hz' u hu).1) hi];exact J5o
   · rw [W9 hz];exact Ff _
  subst hrest;walk_at "go"
  have hkf:k < s.ff.length:=by omega
  have e0:(s.ff.map V.int)[k]?=some (V.int (s.ff.getD k 0)):=by rw [Fg,Fh,Fd hkf];rfl
  refine ⟨_,hA.gfo,Bw (SqL.of hA.fo) (G7 (by omega) (by rw [Int.toNat_natCast];exact e0)) ?_⟩;refine ⟨_,rfl,_,hA.gfo,a.fo,rfl,_,hA.fo,k,M3 (by rw [Fa];exact hkf),?_⟩;rw [← R9];refine q _ (Off.put (by simp [LsA.L])) ?_;have h1:=hA.finds (ff:=bump s.ff k);rw [hk]at h1 ⊢;exact h1
 clear hrest
 by_cases hz:z∈s.R
 · rw [if_pos (by simpa using hz)]
   walk_at "go";refine ⟨_,hA.gli,.inl ⟨rfl,_,SqL.of hA.li⟩,a.li,rfl,s.R,hA.li,hz,?_⟩;walk_at "rs"
   have hix:s.R[s.R.idxOf z]?=some z:=by
    rw [Fd (List.idxOf_lt_length_of_mem hz),RK]
   have hsx:shx zs s.R z=lvA zs (s.R.idxOf z):=J1y nd (fun u hu=>(hz' u hu).1) hix;have hil:s.R.idxOf z < s.R.length:=List.idxOf_lt_length_of_mem hz;refine J2t (m0:=zs.length) (fun m σ H'=>∃(j b:Nat),σ=[some (V.ref a.sd),some (V.ref sz),some (V.str z),some (V.int j),some (V.int b)]∧H'=H∧m=zs.length - j∧j≤zs.length∧j+lvA (zs.drop j) b=lvA zs (s.R.idxOf z)∧(b:Int) < (zs.drop j).sum) ⟨0,s.R.idxOf z,rfl,rfl,rfl,Fq _,by rw [RB,Nat.zero_add],by rw [RB];omega⟩ ?_;rintro m σ H' ⟨j,b,rfl,rfl,rfl,hj,hjb,hbs⟩
   have hjl:j < zs.length:=by
    refine Nat.lt_of_le_of_ne hj fun e=>?_;rw [e,List.drop_length]at hbs;simp only [List.sum_nil]at hbs;omega
   have hzj:=hz' zs[j] (HM hjl)
   have hzi:(zs.map V.int)[j]?=some (V.int zs[j]):=by rw [Fg,Fd hjl];rfl
   walk_at "go";refine Bw hS (G7 (by omega) (by rw [Int.toNat_natCast];exact hzi)) ?_;refine ⟨_,rfl,?_⟩
   by_cases hc:zs[j]≤(b:Int)
   · rw [if_pos hc]
     have hld:=J1z hjl (show ¬((b:Int) < zs[j]) by omega)
     have hsd:(zs.drop j).sum=zs[j]+(zs.drop (j+1)).sum:=by rw [Hu hjl,HR]
     refine ⟨_,fun σ' H'' h=>h,?_⟩;walk_at "go";refine Bw hS (G7 (by omega) (by rw [Int.toNat_natCast];exact hzi)) ?_;refine ⟨_,rfl,?_⟩;walk_at "rs";exact ⟨zs.length - (j+1),by omega,j+1,by omega,b - zs[j].toNat,by omega,rfl,by omega,by omega,by omega⟩
   · rw [if_neg hc]
     have hlh:=J20 hjl (show (b:Int) < zs[j] by omega);exact key j _ (by rw [hsx];omega)
 · rw [if_neg (by simpa using hz)]
   exact key _ _ (W9 hz).symm
variable (Z3v:Def P w K mg base CX0 1 "_law_count" ["_law_state","_law_sizes","_law_name"] (Gq K))
include T in
theorem Z7w(F:Fun K "_law_fetch" "_law_fetch" Z4j f fd):Au P w K mg base CX0 1 f fd ["_law_state","_law_name","_law_cost_here"] (Gr):=by
 have sc:Ab ["_law_state","_law_name","_law_cost_here"] ["_law_state","_law_name","_law_cost_here"] (A7 Z4j):=by walk_at "sc"
 walk_at "ok"
 · exact n5 h_ fun _ _ _ _ _=>rfl
 refine x5 h_ fun a s B z c e_=>y5 e_ fun e0 hA hB hl q=>?_;clear e_ h_;subst e0
 refine ⟨_,(@A6 _ _ _ (Az (Aj Pf (pv 1) (An (Ao hr) (pv 0) A8 (fun _ _=>rfl)) (by with_unfolding_all rfl))
  (@A1 _ _ _ _ _ (Bt (Ao hr) (An (Ao hr) (pv 0) A8 (fun _ _=>rfl)) (pv 1) (L4 (Ao hr) (An (Ao hr) (pv 0) A8 (fun _ _=>rfl)) (pv 1) Aa ⟨rfl,rfl,rfl,rfl⟩) rfl)
  (@A6 _ _ _ (Bt (Ao hr) (pv 0) A8 (Al Cm (An (Ao hr) (pv 0) A8 (fun _ _=>rfl)) (pv 2)) rfl)))
  Ah)),?_⟩
 walk_at "st";walk_at "go";refine ⟨_,hA.gli,J0z (SqL.of hA.li) ⟨_,rfl,?_⟩⟩
 by_cases hz:z∈s.R
 · rw [if_neg (by simpa using hz)]
   refine q H (.of (A9.refl H)) ?_;rw [if_pos hz]
   exact (hA.up (by omega) (by omega)).iff fun u hu=>hu.elim id fun e=>by rw [e];exact hz
 · rw [if_pos (by simpa using hz)]
   obtain ⟨kn,n1,n2,n3⟩:=hA.ne;obtain ⟨kf,f1,f2,f3⟩:=hA.fa;walk_at "go";refine ⟨_,hA.gfa,a.fa,rfl,.inl ⟨_,.inl f1⟩,_,Br.k (k:=Sum.inr z) f1,_,hA.gne,a.ne,rfl,_,Ea.k (k:=Sum.inr z) n1 (by have:=hA.b;omega),?_⟩;rw [f3 z];have h1:=hA.near (z:=z) (v:=s.g.st z) n1 (by omega);have o1:Off a.L H (upd H a.ne (.dK (B1 kn (Sum.inr z) (.int (s.g.st z))))):=Off.put (by simp [LsA.L]);generalize upd H a.ne (.dK (B1 kn (Sum.inr z) (.int (s.g.st z))))=H1 at h1 o1 ⊢;obtain ⟨kv,k1,k2⟩:=id h1.o;walk_at "rs";refine ⟨_,h1.gpd,s.pd,rfl,_,Ea.k (k:=kS "spent") k1 (by have:=k2.n;omega),?_⟩;have h2:=h1.paid (pd:=s.pd+c) k1;refine q _ (o1.trans (Off.put (by simp [LsA.L]))) ?_;rw [if_neg hz];exact h2
variable (Z3w:Def P w K mg base CX0 1 "_law_fetch" ["_law_state","_law_name","_law_cost_here"] (Gr))
include T in
theorem Z84(F:Fun K "_law_rest" "_law_rest" Z4t f fd):Au P w K mg base CX0 1 f fd ["_law_state"] (Kg):=by
 have sc:Ab ["_law_state","_law_many","_law_name"] ["_law_state"] (A7 Z4t):=by walk_at "sc"
 walk_at "ok"
 · exact n3 h_ fun _ _ _=>rfl
 refine x3 h_ fun a s B e_=>y7 e_ fun e0 hA hB nd hl hlr q=>?_;clear e_ h_;subst e0
 refine ⟨_,(@A1 _ _ _ _ _ (As (i:=1) sc.nd rfl (Or.inl rfl) (Aq Oi rfl T.Zf Fy (A0 (An (Ao hr) (pv 0) A8 (fun _ _=>rfl)) A4)))
  (@A1 _ _ _ _ _ (D8 PassesOwn.never rfl (J3a (An (Ao hr) (pv 0) A8 (fun _ _=>rfl))) (Bj (i:=2) sc.nd rfl (Or.inl rfl))
   (@A6 _ _ _ (Bt (Ao hr) (An (Ao hr) (pv 0) A8 (fun _ _=>rfl)) (pv 2) (An (Ao hr) (An (Ao hr) (pv 0) A8 (fun _ _=>rfl)) (pv 2) (fun _ _=>rfl)) rfl)))
  (@A1 _ _ _ _ _ (Bt (Ao hr) (pv 0) A8 C4 rfl)
  (@A6 _ _ _ (@Ae _ _ _ _ (B0 B7 rfl T.Z0m (by first | rfl | decide+kernel) (A0 (pv 1) A4))))))),?_⟩
 walk_at "st";obtain ⟨kl,l1,l2,l3,l4,l5⟩:=hA.la;walk_at "go";refine ⟨_,hA.gla,a.la,rfl,kl,l1,?_⟩;walk_at "rs";refine ⟨_,hA.gla,a.la,rfl,kl,.inl ⟨l1,fun o=>?_⟩⟩;obtain ⟨kn,n1,n2,n3⟩:=id hA.ne;obtain ⟨kf,f1,f2,f3⟩:=id hA.fa;obtain ⟨kv,o1,o2⟩:=id hA.o;have nds:=LsA.ne_ hA.nd;have hmany:kl.length=(s.R.filter s.g.l).length:=Xe nd l3 l4 l5 hlr;have hfl:(s.R.filter s.g.l).length≤s.R.length:=Hs _ _
 have hk:∀p∈kl,∃y:Str,p.1=Sum.inr y∧s.g.l y=true∧y∈s.R:=fun p hp=>by
  obtain ⟨y,hy⟩:=l4 p.1 (Fv.mpr ⟨p,hp,rfl⟩)
  have e:s.g.l y=true:=by
   rw [← l5 y]
   cases e:Ay kl (Sum.inr y) with
   | none=>exact absurd (Fv.mpr ⟨p,hp,hy⟩) (L6 e)
   | some v=>rfl
  exact ⟨y,hy,e,hlr y e⟩
 rename_i rest hrest;refine J3b (kvs:=kl) (fun i σ H'=>∃(v:Option V) (kf':List (Key×V)),σ=[some (V.ref a.sd),some (V.int kl.length),v]∧H' a.la=some (.frz o (.dK kl))∧Off a.L H H'∧H' a.sd=some (.dK kv)∧H' a.li=some (.lst (s.R.map V.str))∧H' a.ne=some (.dK kn)∧H' a.fo=some (.lst (s.ff.map V.int))∧H' a.fa=some (.dK kf')∧kf'.length≤B+i∧∀y,(Ay kf' (Sum.inr y)).getD (.int 0)= .int (if (Ay (kl.take i) (Sum.inr y)).isSome=true then s.g.h y else s.g.st y)) ⟨_,kf,rfl,A5,Off.put (by simp [LsA.L]),?_,?_,?_,?_,?_,f2,fun y=>by rw [Rz,show (Ay ([]:List (Key×V)) (Sum.inr y)).isSome=false from rfl,if_neg (by decide)];exact f3 y⟩ (fun i σ H' _ ⟨_,_,_,h,_⟩=>h) ?_ ?_
 · rw [A3 nds.2.2.1];exact o1
 · rw [A3 nds.2.2.2.2.2.2.1];exact hA.li
 · rw [A3 nds.2.2.2.2.2.2.2.2.2.1];exact n1
 · rw [A3 nds.2.2.2.2.2.2.2.2.2.2.2.2.2.1.symm];exact hA.fo
 · rw [A3 nds.2.2.2.2.2.2.2.2.2.2.2.2.1.symm];exact f1
 · rintro i p σ H' hp ⟨v,kf',rfl,hla,off,hsd,hli,hne,hfo,hfa,hfl',hfv⟩
   obtain ⟨y,hy,hyl,hyR⟩:=hk p (Fk hp);have hil:i < kl.length:=(Fe.mp hp).1;rw [hy]
   have dg:∀(x:String) (u:V),Ay kv (kS x)=some u→Br H' a.sd (.str (Str.ofString x)) (some u):=fun x u e=>by
    have:=Br.k (k:=kS x) hsd;rw [e]at this;exact this
   have gN:=Br.k (k:=Sum.inr y) hne;rw [n3 y hyR]at gN;walk_at "go";refine ⟨_,dg _ _ o2.ne,a.ne,rfl,_,gN,_,dg _ _ o2.fa,a.fa,rfl,_,Ea.k (k:=Sum.inr y) hfa (by have:=hA.b;omega),?_⟩;have ndH:=nds;obtain ⟨a1,a2,a3,a4,a5,b1,b2,b3,b4,c1,c2,c3,d1,d2,e1⟩:=ndH;refine ⟨by rw [A3 d1];exact hla,off.trans (Off.put (by simp [LsA.L])),by rw [A3 a4];exact hsd,by rw [A3 b3];exact hli,by rw [A3 c2];exact hne,by rw [A3 e1.symm];exact hfo,_,A5,by have:=Bg kf' (Sum.inr y:Key) (V.int (s.g.h y));omega,fun u=>?_⟩;rw [C3,Rb,hp];show _=V.int (if (Ay (kl.take i++[p]) (Sum.inr u)).isSome=true then _ else _);rw [Xd]
   by_cases e:u=y
   · rw [e,if_pos rfl,if_pos (by rw [FI hy,Bool.or_true])];rfl
   · rw [if_neg (Dm e),hfv u]
     have e2:decide (p.1=(Sum.inr u:Key))=false:=FF fun h=>by
      rw [hy]at h;exact e (Sum.inr.inj h).symm
     rw [e2,Bool.or_false]
 · rintro σ H' ⟨v,kf',rfl,hla,off,hsd,hli,hne,hfo,hfa,hfl',hfv⟩
   subst hrest;walk_at "go";intro p hp
   have np:p∉a.L:=fun m=>by
    have m':p=a.sd∨p=a.li∨p=a.ne∨p=a.la∨p=a.fa∨p=a.fo:=by simpa [LsA.L] using m
    rcases m' with k | k | k | k | k | k <;> rw [k]at hp
    · rw [hsd]at hp;cases hp
    · rw [hli]at hp;cases hp
    · rw [hne]at hp;cases hp
    · rw [hla]at hp;cases hp
    · rw [hfa]at hp;cases hp
    · rw [hfo]at hp;cases hp
   have hHp:H p=none:=by
    cases e:H p with
    | none=>rfl
    | some u=>rw [off _ _ e np]at hp;cases hp
   have s1:A9 H' (upd H' p (.dK [])):=A9.new hp;have g1:upd H' p (.dK []) p=some (.dK []):=A5;generalize upd H' p (.dK [])=H1 at s1 g1 ⊢;refine ⟨_,Ea.k (k:=kS "late") (s1 _ _ hsd) (by have:=o2.n;omega),?_⟩
   have hfin:B2 (upd H1 a.sd (.dK (B1 kv (kS "late") (.ref p)))) {a with la:=p} (Wa s) (B+100) (fun y=>y∈s.R):=by
    refine B2.newLate hA.nd (s1 _ _ hsd) o2 (s1 _ _ hli) ⟨kn,s1 _ _ hne,by omega,n3⟩ g1 ⟨kf',s1 _ _ hfa,by omega,fun y=>?_⟩ (s1 _ _ hfo) np (by omega);rw [hfv y,FV];rw [l5 y]
   walk_at "rs";refine ⟨Dx (by omega) (by omega),?_⟩;rw [hmany];exact q p _ (off.trans ((Off.of s1).trans (Off.put (by simp [LsA.L])))) hHp hfin
variable (Z4c:Def P w K mg base CX0 1 "_law_rest" ["_law_state"] (Kg))
include T in
theorem Z7k(F:Fun K "_law_levels" "_law_levels" Z4a f fd):Au P w K mg base CX0 1 f fd ["_law_line_here","_law_sizes"] (Eb K):=by
 have sc:Ab ["_law_line_here","_law_sizes","_law_words","_law_at","_law_size"] ["_law_line_here","_law_sizes"] (A7 Z4a):=by walk_at "sc"
 walk_at "ok"
 · exact n4 h_ fun _ _ _ _=>rfl
 refine x4 h_ fun l sz R zs e_=>y9 e_ fun e0 hL hS h1 h6 hz hR hy q=>?_;clear e_ h_;subst e0
 refine ⟨_,(@A1 _ _ _ _ _ (As (i:=2) sc.nd rfl (Or.inl rfl) (@Bv _ _ _ _ A4))
  (@A1 _ _ _ _ _ (As (i:=3) sc.nd rfl (Or.inl rfl) Aa)
  (@A1 _ _ _ _ _ (D8 PassesOwn.never rfl (C9 (pv 1)) (Bj (i:=4) sc.nd rfl (Or.inl rfl))
   (@A1 _ _ _ _ _ (As (i:=2) sc.nd rfl (Or.inl rfl) (Al Nf (Al Nf (pv 2) (Ic L0 (pv 0) (E9 (pv 3)) (E9 (Al Cm (pv 3) (pv 4))))) (@Bv _ _ _ _ (A0 A8 A4))))
   (@A6 _ _ _ (As (i:=3) sc.nd rfl (Or.inl rfl) (Al Cm (pv 3) (pv 4))))))
  (@A6 _ _ _ (@Ae _ _ _ _ (D3 Hg Hr Hq Iw A8 (A0 (pv 2) A4))))))),?_⟩
 walk_at "st";walk_at "go";intro p hp;have s1:A9 H (upd H p (.lst [])):=A9.new hp;have g1:upd H p (.lst []) p=some (.lst (([]:List Str).map V.str)):=A5;generalize upd H p (.lst [])=H1 at s1 g1 ⊢;walk_at "rs";refine ⟨⟨_,s1.seq hS⟩,?_⟩
 have hfl:∀n,(((List.range n).map fun j=>lvl zs R j++[slash]).flatten).length≤n * 61:=fun n=>by
  induction n with
  | zero=>exact Ff _
  | succ n ih=>
   rw [R6,FC,List.flatten_append,Fj];have:=N85.Mz (zs:=zs) (R:=R) n;simp only [List.map_cons,List.map_nil,FW,RW,FP,Fj,List.length_cons,List.length_nil];omega
 rename_i rest hrest;refine En (xs:=zs.map V.int) (fun i σ H'=>∃(w:Addr) (v:Option V),σ=[some (V.ref l),some (V.ref sz),some (V.ref w),some (V.int ((zs.take i).sum)),v]∧A9 H1 H'∧H' w=some (.lst (((List.range i).map fun j=>lvl zs R j++[slash]).flatten.map V.str))) ⟨p,none,rfl,A9.refl _,g1⟩ (fun i σ H' _ ⟨_,_,_,sm,_⟩=>sm.seq (s1.seq hS)) ?_ ?_
 · rintro i x σ H' hx ⟨w,v,rfl,sm,hw⟩
   rw [Fg]at hx
   cases hy:zs[i]? with
   | none=>rw [hy]at hx;cases hx
   | some y=>
    rw [hy]at hx;cases hx;have hil:i < zs.length:=(Fe.mp hy).1
    have hyz:zs.getD i 0=y:=by rw [Fh,hy];rfl
    have hl':=sm _ _ (s1 _ _ hL);have h1f:=hfl i;have hlv:=N85.Mz (zs:=zs) (R:=R) i;walk_at "go";refine ⟨_,SqL.of hl',fun p1 hp1=>?_⟩
    have hcut:Kz (R.map V.str) (some (zs.take i).sum) (some ((zs.take i).sum+y))=(lvl zs R i).map V.str:=by
     have:=Pu (R:=R) (fun z h=>⟨(hz z h).1,by have:=(hz z h).2;omega⟩) hil;rw [hyz]at this;exact this
    rw [hcut];have m1:A9 H' (upd H' p1 (.lst ((lvl zs R i).map V.str))):=A9.new hp1;have w1:upd H' p1 (.lst ((lvl zs R i).map V.str)) p1=some (.lst ((lvl zs R i).map V.str)):=A5;generalize upd H' p1 (.lst ((lvl zs R i).map V.str))=K1 at m1 w1 ⊢;refine ⟨w,p1,_,_,rfl,rfl,m1 _ _ hw,w1,by rw [Fa,Fa];omega,fun p2 hp2=>?_⟩;rw [← FC];have m2:=A9.new (o:= .lst (((((List.range i).map fun j=>lvl zs R j++[slash]).flatten)++lvl zs R i).map V.str)) hp2;have w2:upd K1 p2 (.lst (((((List.range i).map fun j=>lvl zs R j++[slash]).flatten)++lvl zs R i).map V.str)) p2=some (.lst (((((List.range i).map fun j=>lvl zs R j++[slash]).flatten)++lvl zs R i).map V.str)):=A5;generalize upd K1 p2 (.lst (((((List.range i).map fun j=>lvl zs R j++[slash]).flatten)++lvl zs R i).map V.str))=K2 at m2 w2 ⊢;refine ⟨by decide,fun p3 hp3=>?_⟩;have m3:A9 K2 (upd K2 p3 (.lst ([slash].map V.str))):=A9.new hp3
    have w3:upd K2 p3 (.lst ([slash].map V.str)) p3=some (.lst ([slash].map V.str)):=A5;rw [show [V.str (Str.ofString "/")]=[slash].map V.str from rfl];generalize upd K2 p3 (.lst ([slash].map V.str))=K3 at m3 w3 ⊢;refine ⟨p2,p3,_,_,rfl,rfl,m3 _ _ w2,w3,by rw [Fa,Fa,Fj,Rv];omega,fun p4 hp4=>?_⟩;rw [← FC];have m4:=A9.new (o:= .lst ((((((List.range i).map fun j=>lvl zs R j++[slash]).flatten)++lvl zs R i)++[slash]).map V.str)) hp4;have w4:upd K3 p4 (.lst ((((((List.range i).map fun j=>lvl zs R j++[slash]).flatten)++lvl zs R i)++[slash]).map V.str)) p4=some (.lst ((((((List.range i).map fun j=>lvl zs R j++[slash]).flatten)++lvl zs R i)++[slash]).map V.str)):=A5;generalize upd K3 p4 (.lst ((((((List.range i).map fun j=>lvl zs R j++[slash]).flatten)++lvl zs R i)++[slash]).map V.str))=K4 at m4 w4 ⊢;walk_at "rs";refine ⟨by rw [Rb,hy];simp,((sm.trans m1).trans m2).trans (m3.trans m4),?_⟩
    rw [w4,R6];simp only [FC,List.flatten_append,List.map_cons,List.map_nil,FW,RW,FP,Rg]
 · rintro σ H' ⟨w,v,rfl,sm,hw⟩
   subst hrest;walk_at "go";refine ⟨_,SqL.of hw,?_,?_⟩
   · rw [Fa]
     have h1:=hfl zs.length
     have h2:=Kb (ys:=((List.range zs.length).map fun j=>lvl zs R j++[slash]).flatten) (b:=8) fun y hy'=>by
      obtain ⟨xs,hxs,hyx⟩:=List.mem_flatten.mp hy';obtain ⟨j,_,rfl⟩:=Fv.mp hxs;rcases Fn.mp hyx with k | k
      · exact hy y (K6 k)
      · rw [Fc.mp k];decide+kernel
     rw [sp1];omega
   · rw [Fa]
     rw [J3e];exact q _ (s1.trans sm)
variable (Z0q:Def P w K mg base CX0 1 "_law_levels" ["_law_line_here","_law_sizes"] (Eb K))
include T Z3v Z3w Z4b in
theorem Z7x(F:Fun K "_law_moved" "_law_moved" Z4k f fd):Au P w K mg base CX0 2 f fd ["_law_state","_law_sizes","_law_word","_law_name","_law_value","_law_cost_here"] (Gs):=by
 have sc:Ab ["_law_state","_law_sizes","_law_word","_law_name","_law_value","_law_cost_here"] ["_law_state","_law_sizes","_law_word","_law_name","_law_value","_law_cost_here"] (A7 Z4k):=by walk_at "sc"
 walk_at "ok"
 · exact n9 h_ fun _ _ _ _ _ _ _ _ _=>rfl
 refine x9 h_ fun a s B sz zs b z v c e_=>y18 e_ fun e0 hb hA hB hS hl6 hl1 hz' nd hRl hRs hff hg hpl hv0 hv1 hsz q=>?_;clear e_ h_;subst e0
 refine ⟨_,(@A1 _ _ _ _ _ (Az (PW.pt (Pc (Aj D1 (pv 2) A8 (nomark _)) (Pb (Aj Ck (pv 3) (An (Ao hr) (pv 0) A8 (fun _ _=>rfl)) (by with_unfolding_all rfl)))))
  (@A6 _ _ _ (@Ae _ _ _ _ A8))
  Ah)
  (@A1 _ _ _ _ _ (Az (Aj Na (pv 2) A8 (nomark _))
   (@A6 _ _ _ (Ai (Ag Z3v hr rfl Ad (A0 (pv 0) (A0 (pv 1) (A0 (pv 3) A4))))))
   Ah)
  (@A1 _ _ _ _ _ (Az (Aj D1 (pv 2) A8 (nomark _))
   (@A1 _ _ _ _ _ (Bt (Ao hr) (An (Ao hr) (pv 0) A8 (fun _ _=>rfl)) (pv 3) (pv 4) rfl)
   (@A1 _ _ _ _ _ (Bt (Ao hr) (An (Ao hr) (pv 0) A8 (fun _ _=>rfl)) (pv 3) Gz rfl)
   (@A6 _ _ _ (Az (Eg (An (Ao hr) (pv 0) A8 (fun _ _=>rfl)))
    (@A1 _ _ _ _ _ (Bt (Ao hr) (An (Ao hr) (pv 0) A8 (fun _ _=>rfl)) (pv 3) (pv 4) rfl)
    (@A6 _ _ _ (Ai (Eu (An (Ao hr) (pv 0) A8 (fun _ _=>rfl)) (pv 3) ⟨rfl,rfl,rfl,rfl⟩))))
    Ah))))
   (@A6 _ _ _ (Ai (Ag Z3w hr rfl Ad (A0 (pv 0) (A0 (pv 3) (A0 (pv 5) A4)))))))
  (@A1 _ _ _ _ _ (Ai (Ag Z4b hr rfl Ad (A0 (pv 0) (A0 (pv 3) (A0 (Aq (M4 rfl) rfl T.Z55 (by first | rfl | decide+kernel) (A0 (pv 1) A4)) A4)))))
  (@A1 _ _ _ _ _ (Az (Aj D1 (pv 2) A8 (nomark _))
   (@A6 _ _ _ (@Ae _ _ _ _ (B0 B7 rfl T.Z0m (by first | rfl | decide+kernel) (A0 (An (Ao hr) (An (Ao hr) (pv 0) A8 (fun _ _=>rfl)) (pv 3) (fun _ _=>rfl)) A4))))
   Ah)
  (@A6 _ _ _ (@Ae _ _ _ _ (@Bz _ _ _ _ _ _ _ Bp (@Bv _ _ _ _ (A0 A8 (A0 A8 A4))) (B0 Iv rfl T.Z3r (by first | rfl | decide+kernel) (A0 (Iu D1 (pv 2) A8 (nomark _)) A4)) (fun _ _=>rfl))))))))),?_⟩
 walk_at "st";walk_at "go";rename_i rest hrest;have hsum:=J3h hl1 hz'
 have key:(b= .ahead→z∉s.R)→rest [some (V.ref a.sd),some (V.ref sz),some (V.str (wd b)),some (V.str z),some (V.int v),some (V.int c)] H:=by
  intro hah;subst hrest;walk_at "go";rename_i rest hrest
  have key2:∀(ff:List Int) (H1:Hp),Off a.L H H1→B2 H1 a {s with ff:=ff} B (fun y=>y∈s.R)→ff=O0 b zs s.R z s.ff→rest [some (V.ref a.sd),some (V.ref sz),some (V.str (wd b)),some (V.str z),some (V.int v),some (V.int c)] H1:=by
   intro ff H1 o1 h1 hffd;subst hrest;walk_at "go";rename_i rest hrest
   have key3:∀(g1:Gt) (pd1:Int) (H2:Hp),Off a.L H H2→B2 H2 a ⟨s.R,g1,ff,pd1,s.pr⟩ (B+3) (fun y=>y∈s.R∨y=z)→pd1=Lh b s.R z c s.pd→(Bk zs.sum s.R z g1).h=(Gx s.pr b zs.sum s.R z v s.g).h→(Bk zs.sum s.R z g1).l=(Gx s.pr b zs.sum s.R z v s.g).l→(Bk zs.sum s.R z g1).st=(Gx s.pr b zs.sum s.R z v s.g).st→rest [some (V.ref a.sd),some (V.ref sz),some (V.str (wd b)),some (V.str z),some (V.int v),some (V.int c)] H2:=by
    intro g1 pd1 H2 o2 h2 epd eh el est;subst hrest;walk_at "go";refine ⟨zs,SqL.of (o2 _ _ hS hsz),a,rfl,_,_,h2,by omega,nd,hRl,hRs,hsum.1,fun H3 o3 h3=>?_⟩;walk_at "rs"
    have eR:Sz b zs.sum s.R z=(z::s.R.erase z).take zs.sum.toNat:=by
     rcases hb with rfl | rfl | rfl
     · rfl
     · rfl
     · show (if z∈s.R then s.R else J3g zs.sum s.R z)=_
       rw [if_neg (hah rfl)];rfl
    have h5:B2 H3 a (Kl b zs s z v c) (B+4) (fun y=>y∈(Kl b zs s z v c).R):=by
     have h4:=h3.gx (g2:=Gx s.pr b zs.sum s.R z v s.g) eh.symm el.symm est.symm;unfold Kl;rw [eR,← hffd,← epd];exact h4
    have o13:Off a.L H H3:=o2.trans o3
    have hzr:z∈(Kl b zs s z v c).R:=by
     show z∈Sz b zs.sum s.R z;rw [eR]
     obtain ⟨n,hn⟩:∃n,zs.sum.toNat=n+1:=⟨zs.sum.toNat - 1,by omega⟩
     rw [hn,HQ];exact Fi
    clear h3 o3 h2 o2;rename_i rest hrest
    by_cases hb2:b= .read
    · subst hb2
      rw [if_pos (show wd .read=Str.ofString "read" from rfl)];obtain ⟨kn,n1,n2,n3⟩:=id h5.ne;have gN:=Br.k (k:=Sum.inr z) n1;rw [n3 z hzr]at gN;have hgz:=hg.read (S:=zs.sum) (R:=s.R) (z:=z) |>.h z;exact ⟨_,h5.gne,a.ne,rfl,_,gN,_,rfl,Dx hgz.1 (Ra hgz.2 (by decide)),q _ o13 h5⟩
    · rw [if_neg (show ¬wd b=Str.ofString "read" from fun e=>hb2 (Do e))]
      subst hrest;walk_at "go";intro p hp;have s1:A9 H3 (upd H3 p (.lst [V.str (Str.ofString "ok"),V.str (Str.ofString "yes")])):=A9.new hp;have g1:upd H3 p (.lst [V.str (Str.ofString "ok"),V.str (Str.ofString "yes")]) p=some (.lst [V.str (Str.ofString "ok"),V.str (Str.ofString "yes")]):=A5;generalize upd H3 p (.lst [V.str (Str.ofString "ok"),V.str (Str.ofString "yes")])=H4 at s1 g1 ⊢;have hfin:=q H4 (o13.trans (.of s1)) (h5.same s1)
      by_cases hb3:b= .ahead
      · subst hb3
        rw [if_pos (show wd .ahead=Str.ofString "ahead" from rfl)]
        have e2:O1 .ahead zs.sum s.R z s.g=Str.ofString "yes":=by unfold O1;rw [if_neg (hah rfl)]
        rw [e2]at hfin;exact Bw (SqL.of g1) rfl hfin
      · rw [if_neg (show ¬wd b=Str.ofString "ahead" from fun e=>hb3 (Do e))]
        have hb4:b= .keep:=by
         rcases hb with h | h | h
         · exact absurd h hb2
         · exact h
         · exact absurd h hb3
        subst hb4;exact Bw (SqL.of g1) rfl hfin
   clear hrest
   by_cases hb2:b= .keep
   · subst hb2
     rw [if_pos (show wd .keep=Str.ofString "keep" from rfl)];obtain ⟨kn,n1,_,_⟩:=id h1.ne;walk_at "go";refine ⟨_,h1.gne,a.ne,rfl,_,Ea.k (k:=Sum.inr z) n1 (by omega),?_⟩;have h2:=h1.near (z:=z) (v:=v) n1 (by omega);have o2:Off a.L H (upd H1 a.ne (.dK (B1 kn (Sum.inr z) (.int v)))):=o1.trans (Off.put (by simp [LsA.L]));generalize upd H1 a.ne (.dK (B1 kn (Sum.inr z) (.int v)))=H2 at h2 o2 ⊢;obtain ⟨kl,l1,l2,l3,l4,l5⟩:=id h2.la;walk_at "rs";refine ⟨_,h2.gla,a.la,rfl,_,Ea.k (k:=Sum.inr z) l1 (by omega),?_⟩;have h3:=h2.lateOn (z:=z) l1 (by omega);have o3:Off a.L H (upd H2 a.la (.dK (B1 kl (Sum.inr z) (.bl true)))):=o2.trans (Off.put (by simp [LsA.L]))
     have hin3:(Ay (B1 kl (Sum.inr z:Key) (V.bl true)) (Sum.inr z))=some (V.bl true):=by rw [C3,if_pos rfl]
     have hla3:upd H2 a.la (.dK (B1 kl (Sum.inr z) (.bl true))) a.la=some (.dK (B1 kl (Sum.inr z) (.bl true))):=A5;generalize B1 kl (Sum.inr z:Key) (V.bl true)=kl3 at h3 o3 hin3 hla3 ⊢;generalize upd H2 a.la (.dK kl3)=H3 at h3 o3 hla3 ⊢;walk_at "rs";refine ⟨_,h3.gpr,s.pr,rfl,?_⟩
     by_cases hpr:s.pr=true
     · rw [if_pos hpr]
       obtain ⟨kf,f1,f2,f3⟩:=id h3.fa;walk_at "go";refine ⟨_,h3.gfa,a.fa,rfl,_,Ea.k (k:=Sum.inr z) f1 (by omega),?_⟩;have h4:=h3.far (z:=z) (v:=v) f1 (by omega);have o4:Off a.L H (upd H3 a.fa (.dK (B1 kf (Sum.inr z) (.int v)))):=o3.trans (Off.put (by simp [LsA.L]))
       have hla4:upd H3 a.fa (.dK (B1 kf (Sum.inr z) (.int v))) a.la=some (.dK kl3):=by rw [A3 (LsA.ne_ hA.nd).2.2.2.2.2.2.2.2.2.2.2.2.1];exact hla3
       generalize upd H3 a.fa (.dK (B1 kf (Sum.inr z) (.int v)))=H4 at h4 o4 hla4 ⊢;walk_at "rs";refine ⟨_,h4.gla,a.la,rfl,.inl ⟨_,.inl hla4⟩,_,hla4,Sum.inr z,rfl,_,hin3,?_⟩;have h6:=h4.lateOff (z:=z) hla4;have o6:Off a.L H (upd H4 a.la (.dK (B9 kl3 (Sum.inr z)))):=o4.trans (Off.put (by simp [LsA.L]));have hl0:=hpl hpr;refine key3 _ s.pd _ o6 h6 rfl ?_ ?_ ?_
       all_goals
        have hce:=O2 (S:=zs.sum) (R:=s.R) (z:=z) (g:=Gt.late {((s.g.hold z v).late z true) with st:=Cz s.g.st z v} z false) (g':=Lb s.pr z (s.g.hold z v)) (by rw [hpr];rfl) (by
         rw [hpr];show Cz (Cz s.g.l z true) z false=s.g.l;funext u
         by_cases e:u=z
         · rw [e,Ba,hl0 z]
         · rw [C7 e,C7 e]) (by
         rw [hpr];show Cz s.g.st z v=Cz s.g.st z (Cz s.g.h z v z)
         rw [Ba])
       · exact hce.1
       · exact hce.2.1
       · exact hce.2.2
     · rw [if_neg hpr]
       have hprf:s.pr=false:=by cases e:s.pr with | false=>rfl | true=>exact absurd e hpr
       have hce:=O2 (S:=zs.sum) (R:=s.R) (z:=z) (g:=(s.g.hold z v).late z true) (g':=Lb s.pr z (s.g.hold z v)) (by rw [hprf];rfl) (by rw [hprf];rfl) (by rw [hprf];rfl);exact key3 ((s.g.hold z v).late z true) s.pd H3 o3 (h3.up (by omega) (by omega)) rfl hce.1 hce.2.1 hce.2.2
   · rw [if_neg (show ¬wd b=Str.ofString "keep" from fun e=>hb2 (Do e))]
     refine ⟨a,rfl,_,B,h1,by omega,hRl,fun H2 o2 h2=>?_⟩
     have hb3:b= .read∨b= .ahead:=by
      rcases hb with h | h | h
      · exact .inl h
      · exact absurd h hb2
      · exact .inr h
     by_cases hz:z∈s.R
     · rw [if_pos hz]at h2
       refine key3 s.g s.pd H2 (o1.trans o2) (h2.up (by omega) (by omega)) ?_ ?_ ?_ ?_ <;> rcases hb3 with rfl | rfl <;> first | exact absurd hz (hah rfl) | (simp only [Lh,Gx,Dq,if_pos hz])
     · rw [if_neg hz]at h2
       have hce:=fun w=>O2 (S:=zs.sum) (R:=s.R) (z:=z) (g:=s.g.hold z (s.g.st z)) (g':=E6 w z s.g) rfl rfl rfl
       refine key3 (s.g.hold z (s.g.st z)) (s.pd+c) H2 (o1.trans o2) (h2.up (by omega) (by omega)) ?_ ?_ ?_ ?_ <;> rcases hb3 with rfl | rfl <;> simp only [Lh,Gx,Dq,D0,if_neg hz] <;> first | exact (hce _).1 | exact (hce _).2.1 | exact (hce _).2.2
  clear hrest
  by_cases hb1:b= .ahead
  · subst hb1
    rw [if_neg (show ¬¬wd .ahead=Str.ofString "ahead" from fun h=>h rfl)];exact key2 s.ff H (.of (A9.refl H)) hA rfl
  · rw [if_pos (show ¬wd b=Str.ofString "ahead" from fun e=>hb1 (Do e))]
    refine ⟨a,rfl,s,B,_,hA,zs,SqL.of hS,hl6,hz',nd,hRl,hRs,hff,fun H1 o1 h1=>key2 _ H1 o1 h1 ?_⟩;rcases hb with rfl | rfl | rfl
    · rfl
    · rfl
    · exact absurd rfl hb1
 clear hrest
 by_cases hb1:b= .ahead
 · subst hb1
   rw [if_pos (show wd .ahead=Str.ofString "ahead" from rfl)];refine ⟨_,hA.gli,Nr (SqL.of hA.li) ⟨_,rfl,?_⟩⟩
   by_cases hz:z∈s.R
   · rw [if_pos (by simpa using hz)]
     have e1:Kl .ahead zs s z v c=s:=by simp only [Kl,Sz,Gx,D0,O0,Lh,if_pos hz]
     have e2:O1 .ahead zs.sum s.R z s.g=Str.ofString "no":=by unfold O1;rw [if_pos hz]
     rw [← e2];exact q H (.of (A9.refl H)) (by rw [e1];exact hA.up (by omega) (by omega))
   · rw [if_neg (by simpa using hz)]
     exact key fun _=>hz
 · rw [if_neg (show ¬wd b=Str.ofString "ahead" from fun e=>hb1 (Do e))]
   exact key fun e=>absurd e hb1
variable (Z3x:Def P w K mg base CX0 2 "_law_moved" ["_law_state","_law_sizes","_law_word","_law_name","_law_value","_law_cost_here"] (Gs))
include T Z4c Z0q in
theorem Z85(F:Fun K "_law_told" "_law_told" Z4u f fd):Au P w K mg base CX0 2 f fd ["_law_state","_law_sizes","_law_word","_law_name"] (Kh K):=by
 have sc:Ab ["_law_state","_law_sizes","_law_word","_law_name"] ["_law_state","_law_sizes","_law_word","_law_name"] (A7 Z4u):=by walk_at "sc"
 walk_at "ok"
 · exact n7 h_ fun _ _ _ _ _ _ _=>rfl
 refine x7 h_ fun a s B sz zs b z e_=>y18 e_ fun e0 hb hA hB hS hl6 hl1 hz' nd hRl hy8 hlr hg hff hfl hp0 hp1 q=>?_;clear e_ h_;subst e0
 refine ⟨_,(@A1 _ _ _ _ _ (Az (Aj D1 (pv 2) A8 (nomark _))
  (@A6 _ _ _ (@Ae _ _ _ _ A8))
  Ah)
  (@A1 _ _ _ _ _ (Az (Aj D1 (pv 2) A8 (nomark _))
   (@A6 _ _ _ (@Ae _ _ _ _ (Ag Z4c hr rfl Ad (A0 (pv 0) A4))))
   Ah)
  (@A1 _ _ _ _ _ (Az (Aj D1 (pv 2) A8 (nomark _))
   (@A6 _ _ _ (@Ae _ _ _ _ (B0 B7 rfl T.Z0m (by first | rfl | decide+kernel) (A0 (L4 (Ao hr) (An (Ao hr) (pv 0) A8 (fun _ _=>rfl)) (pv 3) Aa ⟨rfl,rfl,rfl,rfl⟩) A4))))
   Ah)
  (@A1 _ _ _ _ _ (Az (Aj D1 (pv 2) A8 (nomark _))
   (@A6 _ _ _ (@Ae _ _ _ _ (Ag Z0q hr rfl Ad (A0 (An (Ao hr) (pv 0) A8 (fun _ _=>rfl)) (A0 (pv 1) A4)))))
   Ah)
  (@A1 _ _ _ _ _ (Az (Aj D1 (pv 2) A8 (nomark _))
   (@A6 _ _ _ (@Ae _ _ _ _ (D3 Hg Hr Hq Iw A8 (A0 (Ew "_law_number" [] rfl rfl (C9 (An (Ao hr) (pv 0) A8 (fun _ _=>rfl))) (fun b=>(B0 B7 rfl T.Z0m (by first | rfl | decide+kernel) (A0 (pv 0) A4)))) A4))))
   Ah)
  (@A6 _ _ _ (@Ae _ _ _ _ (B0 B7 rfl T.Z0m (by first | rfl | decide+kernel) (A0 (An (Ao hr) (pv 0) A8 (fun _ _=>rfl)) A4))))))))),?_⟩
 walk_at "st";walk_at "go";rename_i rest hrest
 by_cases b1:b= .again
 · subst b1
   rw [if_pos (show wd .again=Str.ofString "again" from rfl)];exact q a H (.of (A9.refl H)) (fun c h=> .inl h) rfl (hA.up (by omega) (by omega))
 rw [if_neg (show ¬wd b=Str.ofString "again" from fun e=>b1 (Do e))];subst hrest;walk_at "go";rename_i rest hrest
 by_cases b2:b= .rest
 · subst b2
   rw [if_pos (show wd .rest=Str.ofString "rest" from rfl)];refine ⟨a,rfl,s,B,hA,by omega,nd,hRl,hlr,fun la H' o hn h'=>q {a with la:=la} H' o (fun c hc=>?_) rfl h'⟩
   have hc':c=a.sd∨c=a.li∨c=a.ne∨c=la∨c=a.fa∨c=a.fo:=by simpa [LsA.L] using hc
   rcases hc' with k | k | k | k | k | k <;> rw [k] <;> first | exact .inr hn | exact .inl (by simp [LsA.L])
 rw [if_neg (show ¬wd b=Str.ofString "rest" from fun e=>b2 (Do e))];subst hrest;walk_at "go";rename_i rest hrest
 by_cases b3:b= .store
 · subst b3
   rw [if_pos (show wd .store=Str.ofString "store" from rfl)];obtain ⟨kf,f1,f2,f3⟩:=id hA.fa;have hg3:=hg.s z;exact ⟨_,hA.gfa,a.fa,rfl,.inl ⟨_,.inl f1⟩,_,Br.k (k:=Sum.inr z) f1,s.g.st z,f3 z,Dx hg3.1 (by omega),q a H (.of (A9.refl H)) (fun c h=> .inl h) rfl (hA.up (by omega) (by omega))⟩
 rw [if_neg (show ¬wd b=Str.ofString "store" from fun e=>b3 (Do e))];subst hrest;walk_at "go";rename_i rest hrest
 by_cases b4:b= .levels
 · subst b4
   rw [if_pos (show wd .levels=Str.ofString "levels" from rfl)];exact ⟨_,hA.gli,a.li,rfl,s.R,hA.li,zs,hS,hl1,hl6,hz',hRl,hy8,fun H' sm=>q a H' (.of sm) (fun c h=> .inl h) rfl ((hA.same sm).up (by omega) (by omega))⟩
 rw [if_neg (show ¬wd b=Str.ofString "levels" from fun e=>b4 (Do e))];subst hrest;walk_at "go";rename_i rest hrest
 by_cases b5:b= .found
 · subst b5
   rw [if_pos (show wd .found=Str.ofString "found" from rfl)];refine ⟨_,hA.gfo,a.fo,rfl,⟨_,SqL.of hA.fo⟩,?_⟩;refine G9 J3d (SqL.of hA.fo) (by rw [Fa];omega) (fun b y H' Q' hy sm q'=>?_) fun D hDn=>?_
   · obtain ⟨i,hi,rfl⟩:=Fv.mp hy
     have hi1:=hff i hi;walk_at "go";exact ⟨Dx hi1.1 (by omega),q'⟩
   rw [M8];refine ⟨D,rfl,_,SqL.of A5,?_,?_⟩
   · rw [sp1]
     have h1:=Kb (ys:=s.ff.map fun i=>Str.ofString (toString i)) (b:=31) fun y hy=>by
      obtain ⟨i,hi,rfl⟩:=Fv.mp hy;have:=hff i hi;exact Ld this.1 (by omega)
     rw [Fa]at h1 ⊢;omega
   · have sm:A9 H (upd H D (.lst ((s.ff.map fun i=>Str.ofString (toString i)).map V.str))):=A9.new hDn
     exact q a _ (.of sm) (fun c h=> .inl h) rfl ((hA.same sm).up (by omega) (by omega))
 rw [if_neg (show ¬wd b=Str.ofString "found" from fun e=>b5 (Do e))];subst hrest;walk_at "go"
 have b6:b= .spent:=by
  rcases hb with h | h | h | h | h | h
  · exact absurd h b1
  · exact absurd h b2
  · exact absurd h b3
  · exact absurd h b4
  · exact absurd h b5
  · exact h
 subst b6;exact ⟨_,hA.gpd,s.pd,rfl,Dx hp0 (by omega),q a H (.of (A9.refl H)) (fun c h=> .inl h) rfl (hA.up (by omega) (by omega))⟩
variable (Z4d:Def P w K mg base CX0 2 "_law_told" ["_law_state","_law_sizes","_law_word","_law_name"] (Kh K))
include T in
theorem Z86(F:Fun K "_law_line" "_law_line" Z4v f fd):Au P w K mg base CX0 1 f fd ["_law_word","_law_name","_law_value"] (Gu):=by
 have sc:Ab ["_law_word","_law_name","_law_value"] ["_law_word","_law_name","_law_value"] (A7 Z4v):=by walk_at "sc"
 walk_at "ok"
 · exact n3 h_ fun _ _ _=>rfl
 refine x3 h_ fun b z v e_=>y6 e_ fun e0 hb hv0 hv1 hz8 q=>?_;clear e_ h_;subst e0
 refine ⟨_,(@A1 _ _ _ _ _ (Az (Aj D1 (pv 0) A8 (nomark _))
  (@A6 _ _ _ (@Ae _ _ _ _ (Al Bf (Al Bf (Al Bf A8 (pv 1)) A8) (B0 B7 rfl T.Z0m (by first | rfl | decide+kernel) (A0 (pv 2) A4)))))
  Ah)
  (@A1 _ _ _ _ _ (Az (Aj Ck (pv 0) (G6 (A0 A8 (A0 A8 (A0 A8 A4)))) (by with_unfolding_all rfl))
   (@A6 _ _ _ (@Ae _ _ _ _ (Al Bf (Al Bf (pv 0) A8) (pv 1))))
   Ah)
  (@A6 _ _ _ (@Ae _ _ _ _ (pv 0))))),?_⟩
 walk_at "st";walk_at "go";rename_i rest hrest;have hn:(Str.ofString (toString v)).length≤31:=Ld hv0 (RM hv1 (by decide));have hw:=(J1r b).1;rw [Cf]at hw
 have k5:(Str.ofString "keep ").length=5:=by decide+kernel
 by_cases b1:b= .keep
 · subst b1
   rw [if_pos (show wd .keep=Str.ofString "keep" from rfl)]
   have e:(Mm .keep z v).txt=Str.ofString "keep "++z++Str.ofString " "++Str.ofString (toString v):=by
    show Txt.join (Str.ofString " ") [wd .keep,z,nT v]=_;rw [J8d];show Str.ofString "keep"++Str.ofString " "++(z++Str.ofString " "++Str.ofString (toString v))=_;rw [show Str.ofString "keep"++Str.ofString " "=Str.ofString "keep " by decide+kernel];simp only [Str.append_assoc]
   rw [← e];refine ⟨by rw [k5];omega,by rw [Ca,k5,sp1];omega,Dx hv0 (by omega),by rw [Ca,Ca,k5,sp1];omega,q _ (A9.refl _)⟩
 rw [if_neg (show ¬wd b=Str.ofString "keep" from fun e=>b1 (Do e))];subst hrest;walk_at "go";rename_i rest hrest;intro p hp;have s1:A9 H (upd H p (.tup [V.str (Str.ofString "read"),V.str (Str.ofString "ahead"),V.str (Str.ofString "store")])):=A9.new hp;refine Pz (ys:=[Str.ofString "read",Str.ofString "ahead",Str.ofString "store"]) (SqT.of A5) ⟨_,rfl,?_⟩
 by_cases m:b= .read∨b= .ahead∨b= .store
 · have e:(Mm b z v).txt=wd b++Str.ofString " "++z:=by rcases m with rfl | rfl | rfl <;> exact J8c
   have e2:decide (wd b∈[Str.ofString "read",Str.ofString "ahead",Str.ofString "store"])=true:=by rcases m with rfl | rfl | rfl <;> decide+kernel
   rw [if_pos e2,← e];exact ⟨by rw [sp1];omega,by rw [Ca,sp1];omega,q _ s1⟩
 · have e2:¬decide (wd b∈[Str.ofString "read",Str.ofString "ahead",Str.ofString "store"])=true:=fun h=>m (by
    have h:=RO h;rcases Fo.mp h with h | h
    · exact .inl (Do (b:= .read) h)
    rcases Fo.mp h with h | h
    · exact .inr (.inl (Do (b:= .ahead) h))
    exact .inr (.inr (Do (b:= .store) (Fc.mp h))))
   rw [if_neg e2];subst hrest;walk_at "go"
   have e:(Mm b z v).txt=wd b:=by
    rcases hb with (h | h | h) | (h | h | h | h | h | h)
    · exact absurd (.inl h) m
    · exact absurd h b1
    · exact absurd (.inr (.inl h)) m
    · rw [h];exact Xf
    · rw [h];exact Xf
    · exact absurd (.inr (.inr h)) m
    · rw [h];exact Xf
    · rw [h];exact Xf
    · rw [h];exact Xf
   rw [← e];exact q _ s1
variable (Z4e:Def P w K mg base CX0 1 "_law_line" ["_law_word","_law_name","_law_value"] (Gu))
include T Z0b Z2o Z3u Z3q Z45 Z3x Z4d Z4e Z0q Z2t Z0l in
theorem Z8h(F:Fun K "law" "law" Z3f f fd):Au P w K mg base CX0 13 f fd ["_law_script"] (Np K):=by
 have sc:Ab ["_law_script","_law_many","_law_names_here","_law_costs","_law_desk","_law_k","_law_number","_law_sizes","_law_text","_law_prompt","_law_made","_law_state","_law_words","_law_cell","_law_name","_law_word","_law_value","_law_due"] ["_law_script"] (A7 Z3f):=by walk_at "sc"
 walk_at "ok"
 · exact n2 h_ fun _ _=>rfl
 refine x2 h_ fun a ns e_=>y4 e_ fun e0 hS hl q=>?_;clear e_ h_;subst e0
 refine ⟨_,(@A1 _ _ _ _ _ (As (i:=1) sc.nd rfl (Or.inl rfl) (Al Cm Aa (Al Co (Ag Z0b hr rfl Ad (A0 (pv 0) (A0 Aa A4))) Aa)))
  (@A1 _ _ _ _ _ (As (i:=2) sc.nd rfl (Or.inl rfl) (Ag Z3u hr rfl Ad (A0 (Ag Z0b hr rfl Ad (A0 (pv 0) (A0 Aa A4))) (A0 (pv 1) A4))))
  (@A1 _ _ _ _ _ (As (i:=3) sc.nd rfl (Or.inl rfl) C4)
  (@A1 _ _ _ _ _ (As (i:=4) sc.nd rfl (Or.inl rfl) (Xb Z2t hr rfl (Ax Ad)))
  (@A1 _ _ _ _ _ (D8 PassesOwn.never rfl (Iq rfl T.Z3i (A0 (pv 1) A4)) (Bj (i:=5) sc.nd rfl (Or.inl rfl))
   (@A1 _ _ _ _ _ (Bt (Ao hr) (pv 3) (@Bz _ _ _ _ _ _ _ Bp (pv 2) (pv 5) (fun _ _=>rfl)) (Ag Z3q hr rfl Ad (A0 (Ag Z0b hr rfl Ad (A0 (pv 0) (A0 Aa A4))) (A0 (pv 5) A4))) rfl)
   (@A6 _ _ _ (Ai (Ak Z0l T.Zs hr (Ax Ad) (pv 4) (A0 (Al Bf (Al Bf (Al Bf (Al Bf A8 (@Bz _ _ _ _ _ _ _ Bp (pv 2) (pv 5) (fun _ _=>rfl))) A8) (B0 B7 rfl T.Z0m (by first | rfl | decide+kernel) (A0 (An (Ao hr) (pv 3) (@Bz _ _ _ _ _ _ _ Bp (pv 2) (pv 5) (fun _ _=>rfl)) (fun _ _=>rfl)) A4))) A8) A4))))))
  (@A1 _ _ _ _ _ (As (i:=6) sc.nd rfl (Or.inr rfl) (Ag Z0b hr rfl Ad (A0 (pv 0) (A0 Aa A4))))
  (@A1 _ _ _ _ _ (Qm (i:=7) "_law_k" [6] sc.nd rfl rfl rfl rfl (Iq rfl T.Z3i (A0 (Al Cm Aa (Al Co (pv 6) Aa)) A4)) (fun b=>(Al Cm Aa (Al Co (Ag Z2o hr rfl Ad (A0 (Al Ir (pv 1) Aa) (A0 (pv 0) A4))) (@Bz _ _ _ _ _ _ _ Bp (@Bv _ _ _ _ (A0 Aa (A0 Aa A4))) (Al Co (Al Ir (pv 1) Aa) Aa) (fun _ _=>rfl))))))
  (@A1 _ _ _ _ _ (As (i:=8) sc.nd rfl (Or.inl rfl) (D3 Hg Hr Hq Iw A8 (A0 (Ew "_law_size" [] rfl rfl (C9 (pv 7)) (fun b=>(B0 B7 rfl T.Z0m (by first | rfl | decide+kernel) (A0 (pv 0) A4)))) A4)))
  (@A1 _ _ _ _ _ (As (i:=9) sc.nd rfl (Or.inl rfl) (Iu D1 (Al Co (Ag Z0b hr rfl Ad (A0 (pv 0) (A0 Aa A4))) Aa) Aa (nomark _)))
  (@A1 _ _ _ _ _ (As (i:=10) sc.nd rfl (Or.inl rfl) (@Bv _ _ _ _ (A0 A8 (A0 A8 A4))))
  (@A1 _ _ _ _ _ (As (i:=11) sc.nd rfl (Or.inl rfl) (Ag Z45 hr rfl Ad (A0 (pv 7) (A0 (pv 9) A4))))
  (@A1 _ _ _ _ _ (Az (Aj Na (Ak Z0l T.Zs hr (Ax Ad) (pv 4) (A0 (Al Bf (@Bz _ _ _ _ _ _ _ Bp (pv 10) (B0 Iv rfl T.Z3r (by first | rfl | decide+kernel) (A0 (pv 9) A4)) (fun _ _=>rfl)) (pv 8)) A4)) A8 (nomark _))
   (@A6 _ _ _ (@Ae _ _ _ _ Gz))
   Ah)
  (@A1 _ _ _ _ _ (@As _ _ 12 _ _ _ _ sc.nd rfl (Or.inl rfl) (@Bv _ _ _ _ (@Cg _ _ _ _ _ _ _ A8 (@Cg _ _ _ _ _ _ _ A8 (@Cg _ _ _ _ _ _ _ A8 (@Cg _ _ _ _ _ _ _ A8 (@Cg _ _ _ _ _ _ _ A8 (@Cg _ _ _ _ _ _ _ A8 (@Cg _ _ _ _ _ _ _ A8 (@Cg _ _ _ _ _ _ _ A8 (@Cg _ _ _ _ _ _ _ A8 (@Cg _ _ _ _ _ _ _ A8 (@Cg _ _ _ _ _ _ _ A8 (@Cg _ _ _ _ _ _ _ A8 A4))))))))))))) (by rfl) (by first | exact .inl rfl | exact .inr rfl))
  (@A1 _ _ _ _ _ (D8 PassesOwn.never rfl (Ps rfl T.Z1f (A0 (Ic L0 (pv 0) (E9 Aa) (E9 Aa)) A4)) (N9 rfl (Cq (Bj (i:=5) sc.nd rfl (Or.inl rfl)) (Cq (Bj (i:=13) sc.nd rfl (Or.inl rfl)) Kw)))
   (@A1 _ _ _ _ _ (As (i:=14) sc.nd rfl (Or.inl rfl) (@Bz _ _ _ _ _ _ _ Bp (pv 2) (Al Co (pv 13) (pv 1)) (fun _ _=>rfl)))
   (@A1 _ _ _ _ _ (As (i:=15) sc.nd rfl (Or.inl rfl) (@Bz _ _ _ _ _ _ _ Bp (pv 12) (Al Co (Al Qc (pv 13) (pv 1)) Aa) (fun _ _=>rfl)))
   (@A1 _ _ _ _ _ (As (i:=16) sc.nd rfl (Or.inl rfl) (Ag Z3q hr rfl Ad (A0 (pv 13) (A0 (pv 5) A4))))
   (@A1 _ _ _ _ _ (Az (Aj D1 (Al Co (Al Ir (pv 13) Aa) Aa) Aa (nomark _))
    (@A1 _ _ _ _ _ (As (i:=11) sc.nd rfl (Or.inl rfl) (Ag Z45 hr rfl Ad (A0 (pv 7) (A0 (Xk (An (Ao hr) (pv 11) A8 (fun _ _=>rfl))) A4))))
    (@A6 _ _ _ (Az (Aj Na (Ak Z0l T.Zs hr (Ax Ad) (pv 4) (A0 (Al Bf (@Bz _ _ _ _ _ _ _ Bp (pv 10) (B0 Iv rfl T.Z3r (by first | rfl | decide+kernel) (A0 (An (Ao hr) (pv 11) A8 (fun _ _=>rfl)) A4)) (fun _ _=>rfl)) (pv 8)) A4)) A8 (nomark _))
     (@A6 _ _ _ (@Ae _ _ _ _ Gz))
     Ah)))
    Ah)
   (@A1 _ _ _ _ _ (Az (Aj Ck (pv 15) (G6 (A0 A8 (A0 A8 (A0 A8 A4)))) (by with_unfolding_all rfl))
    (@A6 _ _ _ (As (i:=17) sc.nd rfl (Or.inl rfl) (Ag Z3x hr rfl Ad (A0 (pv 11) (A0 (pv 7) (A0 (pv 15) (A0 (pv 14) (A0 (pv 16) (A0 (An (Ao hr) (pv 3) (pv 14) (fun _ _=>rfl)) A4)))))))))
    (@A6 _ _ _ (As (i:=17) sc.nd rfl (Or.inl rfl) (Ag Z4d hr rfl Ad (A0 (pv 11) (A0 (pv 7) (A0 (pv 15) (A0 (pv 14) A4))))))))
   (@A6 _ _ _ (Az (Aj Na (Ak Z0l T.Zs hr (Ax Ad) (pv 4) (A0 (Ag Z4e hr rfl Ad (A0 (pv 15) (A0 (pv 14) (A0 (pv 16) A4)))) A4)) (pv 17) (nomark _))
    (@A6 _ _ _ (@Ae _ _ _ _ Gz))
    Ah))))))))
  (@A6 _ _ _ (@Ae _ _ _ _ (Iu D1 (Ak Z0l T.Zs hr (Ax Ad) (pv 4) (A0 A8 A4)) (Ag Z0q hr rfl Ad (A0 (An (Ao hr) (pv 11) A8 (fun _ _=>rfl)) (A0 (pv 7) A4))) (nomark _)))))))))))))))))),?_⟩
 walk_at "st";walk_at "go"
 obtain ⟨m,hm⟩:∃m:Nat,(m:Int)=1+ns.getD 0 0 % 6:=⟨(1+ns.getD 0 0 % 6).toNat,by omega⟩
 have hm1:1≤m:=by omega
 have hm6:m≤6:=by omega
 rw [← hm];refine ⟨m,rfl,by omega,fun np ys H1 hnp sm1 hny hy1 hy2 ynd hyn=>?_⟩;clear hm;have hS1:=sm1.seq hS;clear hS sm1 hnp;walk_at "rs";intro pc hpc;have sm2:A9 H1 (upd H1 pc (.dK [])):=A9.new hpc;have hc2:upd H1 pc (.dK []) pc=some (.dK []):=A5;have hny2:=sm2 _ _ hny;have hS2:=sm2.seq hS1
 have hcn:np≠pc:=fun e=>by rw [e,hpc]at hny;cases hny
 generalize upd H1 pc (.dK [])=H2 at sm2 hc2 hny2 hS2 ⊢;clear hny hS1 sm2 hpc;walk_at "rs";intro d dx hd hdx ne1
 have smx:A9 H2 (upd (upd H2 dx (.own d)) d (.ins Z5 dx [])):=fun b o e=>by rw [A3 (A2 e hd),A3 (A2 e hdx)];exact e
 refine ⟨dx,A5,fun st as H3 sb3 hD3 stkN has3 hst0 has0=>?_⟩;have sm3:A9 H2 H3:=Ez hd hdx sb3;have hny3:=sm3 _ _ hny2;have hS3:=sm3.seq hS2;have hc3:=sm3 _ _ hc2
 have hdn:d≠np:=fun e=>by rw [e,hny2]at hd;cases hd
 have hdc:d≠pc:=fun e=>by rw [e,hc2]at hd;cases hd
 have stk3:B5 K Z2 H3 st [] [pc]:=stkN.t (fun m=>by
  rw [Fc.mp m,A3 hdc.symm]at hst0
  by_cases e:pc=dx
  · rw [e,A5]at hst0;cases hst0
  · rw [A3 e,hc2]at hst0;cases hst0) (fun b hb=>by
  rw [Fc.mp hb]
  exact ⟨_,smx _ _ hc2⟩) (fun b hb=>by rw [Fc.mp hb];exact ⟨_,hc3⟩)
 clear stkN hny2 hS2 hc2 sb3 sm3 smx hd hdx ne1 hst0 has0;walk_at "rs";rename_i rest hrest;refine Pk (lo:=0) (n:=m) (fun i σ H'=>∃(kc:List (Key×V)) (st as:Addr) (ts:List Th) (v5:Option V),σ=[some (V.ref a),some (V.int m),some (V.ref np),some (V.ref pc),some (V.ref d),v5,none,none,none,none,none,none,none,none,none,none,none,none]∧H' pc=some (.dK kc)∧kc.length≤i∧ts.map (·.1)=ys.take i∧(∀t∈ts,Bo t.1.cps.toList=true∧0≤t.2.1∧t.2.1≤10 ^ 30∧t.2.2=1)∧(∀t∈ts,Ay kc (Sum.inr t.1)=some (.int t.2.1))∧Cp Z5 H' d st as .non∧B5 K Z2 H' st ts [pc]∧H' np=some (.lst (ys.map V.str))∧SqL K H' a (ns.map V.int)) ⟨[],st,as,[],none,rfl,hc3,Ff _,by rw [Rz];rfl,(fun t ht=>by cases ht),(fun t ht=>by cases ht),hD3,stk3,hny3,hS3⟩ ?_ ?_
 · clear hc3 hny3 hS3 hD3 stk3 has3 hrest
   rintro i σ H' hi ⟨kc,st,as,ts,v5,rfl,hc,hcl,hts,htg,htv,hD,stk,hny,hS⟩
   obtain ⟨z,hz⟩:∃z,ys[i]?=some z:=⟨_,Fd (by omega)⟩
   have hzV:(ys.map V.str)[i]?=some (V.str z):=by rw [Fg,hz];rfl
   have htl:ts.length=i:=by
    have:=congrArg List.length hts;rw [Fa,He]at this;omega
   have hzn:Bo z.cps.toList=true:=hyn z (Fk hz)
   have hztk:ys.take (i+1)=ys.take i++[z]:=by rw [Rb,hz];rfl
   have hzts:z∉ts.map (·.1):=fun h=>by
    rw [hts]at h;have nd2:(ys.take (i+1)).Nodup:=ynd.sublist (Re _ _);rw [hztk]at nd2;exact (Hz.mp nd2).2.2 z h z (Fc.mpr rfl) rfl
   walk_at "go";refine ⟨i,rfl,by omega,fun c hc0 hc1=>Bw (SqL.of hny) (Cv hzV) ⟨_,Ea.k (k:=Sum.inr z) hc (by omega),?_⟩⟩
   have stk1:=stk.off (H':=upd H' pc (.dK (B1 kc (Sum.inr z) (.int c)))) fun b o e nb=>by rw [A3 (fun k=>nb (by rw [k];simp))];exact e
   have hc1':upd H' pc (.dK (B1 kc (Sum.inr z) (.int c))) pc=some (.dK (B1 kc (Sum.inr z) (.int c))):=A5
   have hny1:upd H' pc (.dK (B1 kc (Sum.inr z) (.int c))) np=some (.lst (ys.map V.str)):=by rw [A3 hcn];exact hny
   have sb1:SameBut pc H' (upd H' pc (.dK (B1 kc (Sum.inr z) (.int c)))):=fun b o e nb=>by rw [A3 nb];exact e
   obtain ⟨dy,fs,ho,hf⟩:=hD.o;have ho1:=sb1 _ _ ho hdc
   have hS1:SqL K (upd H' pc (.dK (B1 kc (Sum.inr z) (.int c)))) a (ns.map V.int):=by
    rcases hS with (h | ⟨o,h⟩) | h
    · exact .inl (.inl (by rw [A3 (fun k=>by rw [k,hc]at h;cases h)];exact h))
    · exact .inl (.inr ⟨o,by rw [A3 (fun k=>by rw [k,hc]at h;cases h)];exact h⟩)
    · exact .inr h
   have hkl:=Bg kc (Sum.inr z:Key) (V.int c)
   have hkv:∀t∈ts++[(z,c,1)],Ay (B1 kc (Sum.inr z:Key) (V.int c)) (Sum.inr t.1)=some (.int t.2.1):=fun t ht=>by
    rw [C3];rcases Fn.mp ht with ht | ht
    · have ne:t.1≠z:=fun e=>hzts (by rw [← e];exact Fv.mpr ⟨t,ht,rfl⟩)
      rw [if_neg (Dm ne)];exact htv t ht
    · rw [Fc.mp ht,if_pos rfl]
   generalize B1 kc (Sum.inr z:Key) (V.int c)=kc1 at stk1 hc1' hny1 sb1 ho1 hS1 hkl hkv ⊢;generalize upd H' pc (.dK kc1)=H1' at stk1 hc1' hny1 sb1 ho1 hS1 ⊢;clear stk hc hny hS hD ho sb1 htv;walk_at "rs";have hz8:=(K7 hzn).2;rw [Cf]at hz8;have hn31:(Str.ofString (toString c)).length≤31:=Ld hc0 (RM hc1 (by decide))
   have k6:(Str.ofString "thing ").length=6:=by decide+kernel
   have k2:(Str.ofString " 1").length=2:=by decide+kernel
   have gV:=Br.k (k:=Sum.inr z) hc1';rw [hkv (z,c,1) (Fs _ (Fc.mpr rfl))]at gV;refine ⟨_,_,ho1,hf.m,Bw (SqL.of hny1) (Cv hzV) ⟨z,rfl,by rw [k6];omega,by rw [Ca,k6,sp1];omega,Bw (SqL.of hny1) (Cv hzV) ⟨_,gV,c,rfl,Dx hc0 (Ra hc1 (by decide)),by rw [Ca,Ca,k6,sp1];omega,by rw [Ca,Ca,Ca,k6,sp1,k2];omega,lnT z c,J3i.symm,J5q hzn hc0 hc1,fun gv H2' sm2 hgv hgv2=>?_⟩⟩⟩;refine ⟨d,gv,st,as,.non,ts,(z,c,1),rfl,⟨_,_,sm2 _ _ ho1,hf⟩,stk1.at.same sm2,?_,by omega,?_,hgv2,fun st' H3' sb3 hD3 stkN3 hst3=>?_⟩
   · rw [FC,hts]
     show (ys.take i++[z]).Nodup;rw [← hztk];exact ynd.sublist (Re _ _)
   · intro u hu
     rcases Fn.mp hu with hu | hu
     · have:=htg u hu
       exact ⟨this.1,this.2.1,this.2.2.1,by omega,by omega⟩
     · rw [Fc.mp hu]
       exact ⟨hzn,hc0,hc1,(by decide:(1:Int)≤1),(by decide:(1:Int)≤1000)⟩
   · have hc2:=sm2 _ _ hc1'
     have hc3:=sb3 _ _ hc2 hdc.symm;refine ⟨kc1,hc3,by omega,st',as,ts++[(z,c,1)],by rw [FC,hts,hztk];rfl,fun u hu=>?_,hkv,hD3,stkN3.t (fun m=>by rw [Fc.mp m,hc2]at hst3;cases hst3) (fun b hb=>by rw [Fc.mp hb];exact ⟨_,hc2⟩) (fun b hb=>by rw [Fc.mp hb];exact ⟨_,hc3⟩),sb3 _ _ (sm2 _ _ hny1) hdn.symm,?_⟩
     · rcases Fn.mp hu with hu | hu
       · exact htg u hu
       · rw [Fc.mp hu]
         exact ⟨hzn,hc0,hc1,rfl⟩
     · exact SqL.but sb3 (sm2 _ _ ho1) (sm2.seq hS1)
 · rintro σ H' ⟨kc,st,as,ts,v5,rfl,hc,hcl,hts,htg,htv,hD,stk,hny,hS⟩
   clear hc3 hny3 hS3 hD3 stk3 has3;subst hrest;walk_at "go";rw [FS (by omega)]at hts
   obtain ⟨q6,hq6⟩:∃q6:Int,q6=ns.getD 3 0 / 6:=⟨_,rfl⟩
   obtain ⟨n,hn⟩:∃n:Nat,(1+ns.getD 3 0 % 6).toNat=n:=⟨_,rfl⟩
   have hn1:1≤n:=by omega
   have hn6:n≤6:=by omega
   have hq2:q6 % 2=0∨q6 % 2=1:=by omega
   refine J0u (fun i y H=>∃u:Int,y=V.int u∧1≤u∧u≤1000) (fun i y H H' l zs h hl sb=>h) (by omega) (fun b i H3 Q' hi sm3 q'=>?_) fun D yl H4 hDn sm4 hyD hyl2 hall=>?_
   · walk_at "go"
     intro hx0 hx1;refine ⟨by decide,fun p hp=>⟨Mr (by decide) (by decide),by decide,?_⟩⟩;have g1:upd H3 p (.lst [V.int 1,V.int 3]) p=some (.lst [V.int 1,V.int 3]):=A5;rcases hq2 with e | e
     · rw [← hq6,e]
       exact Bw (SqL.of g1) (v:=V.int 1) rfl ⟨1,rfl,by decide,q' _ _ (A9.new hp) ⟨_,rfl,by omega,by omega⟩⟩
     · rw [← hq6,e]
       exact Bw (SqL.of g1) (v:=V.int 3) rfl ⟨3,rfl,by decide,q' _ _ (A9.new hp) ⟨_,rfl,by omega,by omega⟩⟩
   · obtain ⟨zs,rfl,hz⟩:∃zs:List Int,yl=zs.map V.int∧∀u∈zs,1≤u∧u≤1000:=by
      clear hyD hyl2;refine ⟨yl.map fun y=>match y with | .int u=>u | _=>0,?_,fun u hu=>?_⟩
      · rw [FM]
        refine RT fun i=>?_;rw [Fg]
        cases e:yl[i]? with
        | none=>rfl
        | some y=>obtain ⟨u,rfl,_⟩:=hall i y e;rfl
      · obtain ⟨y,hy,rfl⟩:=Fv.mp hu
        obtain ⟨i,hi⟩:=FE.mp hy;obtain ⟨u,rfl,h1,h2⟩:=hall i y hi;exact ⟨h1,h2⟩
     rw [Fa]at hyl2;clear hall;walk_at "rs";refine ⟨⟨_,SqL.of hyD⟩,?_⟩;refine G9 J3d (SqL.of hyD) (by rw [Fa];omega) (fun b y H' Q' hy sm q'=>?_) fun D2 hD2=>?_
     · obtain ⟨i,hi,rfl⟩:=Fv.mp hy
       have:=hz i hi;walk_at "go";exact ⟨Dx (by omega) (by omega),q'⟩
     rw [M8];refine ⟨D2,rfl,_,SqL.of A5,?_,?_⟩
     · rw [sp1]
       have h1:=Kb (ys:=zs.map fun i=>Str.ofString (toString i)) (b:=31) fun y hy=>by
        obtain ⟨i,hi,rfl⟩:=Fv.mp hy;have:=hz i hi;exact Ld (by omega) (by omega)
       rw [Fa]at h1 ⊢;omega
     have sm5:A9 H4 (upd H4 D2 (.lst ((zs.map fun i=>Str.ofString (toString i)).map V.str))):=A9.new hD2;generalize upd H4 D2 (.lst ((zs.map fun i=>Str.ofString (toString i)).map V.str))=H5 at sm5 ⊢;have sm45:=sm4.trans sm5;have hc5:=sm45 _ _ hc;have hD5:=hD.same sm45;have stk5:=stk.off (H':=H5) fun b o e _=>sm45 _ _ e;have hny5:=sm45 _ _ hny;have hS5:=sm45.seq hS;have hz5:=sm5 _ _ hyD
     have ndc:d≠D∧pc≠D∧np≠D:=by
      obtain ⟨_,_,ho,_⟩:=hD.o;exact ⟨A2 ho hDn,A2 hc hDn,A2 hny hDn⟩
     rw [show (zs.map fun i=>Str.ofString (toString i))=zs.map nT from rfl];clear hc hD stk hny hS hyD sm4 sm5 sm45 hD2 hDn hq6 hq2;walk_at "rs";intro mk hmk;have sm6:A9 H5 (upd H5 mk (.lst [V.str (Str.ofString "tower "),V.str (Str.ofString "prompt ")])):=A9.new hmk;have hmk6:upd H5 mk (.lst [V.str (Str.ofString "tower "),V.str (Str.ofString "prompt ")]) mk=some (.lst [V.str (Str.ofString "tower "),V.str (Str.ofString "prompt ")]):=A5;generalize upd H5 mk (.lst [V.str (Str.ofString "tower "),V.str (Str.ofString "prompt ")])=H6 at sm6 hmk6 ⊢
     obtain ⟨pr,hpr⟩:∃pr:Bool,decide (ns.getD 4 0 % 2=1)=pr:=⟨_,rfl⟩
     rw [hpr];have hc6:=sm6 _ _ hc5;have hD6:=hD5.same sm6;have stk6:=stk5.off (H':=H6) fun b o e _=>sm6 _ _ e;have hny6:=sm6 _ _ hny5;have hS6:=sm6.seq hS5;have hz6:=sm6 _ _ hz5
     have nmk:d≠mk∧pc≠mk∧np≠mk∧D≠mk:=by
      obtain ⟨_,_,ho,_⟩:=hD5.o;exact ⟨A2 ho hmk,A2 hc5 hmk,A2 hny5 hmk,A2 hz5 hmk⟩
     clear hc5 hD5 stk5 hny5 hS5 hz5 sm6 hmk;walk_at "rs";refine ⟨zs,SqL.of hz6,by omega,fun al H7 sm7 hfr hls=>?_⟩;have hls':B2 H7 al (ls0 zs pr) 1 (fun y=>y∈(ls0 zs pr).R):=hls;have hc7:=sm7 _ _ hc6;have hD7:=hD6.same sm7
     have stk7:B5 K Z2 H7 st ts (d::pc::al.L):=by
      obtain ⟨_,_,ho,hf⟩:=hD6.o
      have h1:B5 K Z2 H6 st ts (pc::al.L):=stk6.mono fun b hb=>by
       rcases Fo.mp hb with e | e
       · exact .inl (by rw [e];simp)
       · exact .inr (hfr b e)
      exact (Xg h1 ho hf.k).off (.of sm7)
     have hny7:=sm7 _ _ hny6;have hS7:=sm7.seq hS6;have hz7:=sm7 _ _ hz6;have hmk7:=sm7 _ _ hmk6
     have old:∀b∈al.L,b≠d∧b≠pc∧b≠np∧b≠D∧b≠mk:=fun b hb=>by
      have hn:=hfr b hb;obtain ⟨_,_,ho,_⟩:=hD6.o;exact ⟨(A2 ho hn).symm,(A2 hc6 hn).symm,(A2 hny6 hn).symm,(A2 hz6 hn).symm,(A2 hmk6 hn).symm⟩
     clear hc6 hD6 stk6 hny6 hS6 hz6 hmk6 sm7 hfr hls;walk_at "rs";obtain ⟨dy,fs,ho7,hf7⟩:=id hD7.o
     have htl:ts.length≤6:=by
      have:=hy1;rw [Fa]at this;omega
     have htx:(lnW pr zs).txt.length≤4000:=(Q0 (by omega) (by omega) hz).long;rw [N2 (by omega)]at htx
     have hmkV:atI [V.str (Str.ofString "tower "),V.str (Str.ofString "prompt ")] (if pr=true then 1 else 0)=some (V.str (if pr=true then Str.ofString "prompt " else Str.ofString "tower ")):=by cases pr <;> rfl
     refine ⟨dy,fs,ho7,hf7.m,Bw (SqL.of hmk7) hmkV ⟨_,rfl,?_,lnW pr zs,(N2 (by omega)).symm,Q0 (by omega) (by omega) hz,fun gv H8 sm8 hgv hgv8=>?_⟩⟩
     · rw [Ca]at htx;omega
     have hsp:spA K Z5 Z1 Z0 Z2 (lnW pr zs).b=Bu K Z5 Z1 Z0 Z2 pr:=by cases pr <;> rfl
     rw [hsp];have hD8:=hD7.same sm8;have hls8:=hls'.same sm8
     have stk8:B5 K Z2 H8 st ts (d::al.L):=(stk7.off (.of sm8)).mono fun b hb=> .inl (by
      rcases Fo.mp hb with e | e
      · rw [e];simp
      · exact Fb _ (Fb _ e))
     have htw8:Tws K Z2 st ts 1 H8 (d::al.L) []:=J24 stk8 fun c hc=>by
      rcases Fo.mp hc with e | e
      · rw [e];exact ⟨_,sm8 _ _ ho7,fun e z=>by cases z⟩
      · exact hls8.live c e
     refine ⟨d,gv,st,as,.non,ts,zs,d::al.L,[],1,rfl,hD8,stk8.at,htw8,Fi,by decide,by decide,ynd,(fun t ht=>(htg t ht).2.2.2),by omega,hgv8,by omega,by omega,(fun z hz'=>by have:=hz z hz';omega),fun t x s H9 sb9 hD9 tw9 eR eZ eP eF hfr9=>⟨rfl,?_⟩⟩;rw [if_neg (by simp)];have hls9:B2 H9 al (ls0 zs pr) 1 (fun y=>y∈(ls0 zs pr).R):=hls8.off (L:=[d]) (fun b o e n=>sb9 b o e fun k=>n (by rw [k];simp)) fun b hb m=>(old b hb).1 (Fc.mp m);have hc9:=sb9 _ _ (sm8 _ _ hc7) hdc.symm;have hny9:=sb9 _ _ (sm8 _ _ hny7) hdn.symm;have hz9:=sb9 _ _ (sm8 _ _ hz7) ndc.1.symm;have hmk9:=sb9 _ _ (sm8 _ _ hmk7) nmk.1.symm;have hS9:SqL K H9 a (ns.map V.int):=SqL.but sb9 (sm8 _ _ ho7) (sm8.seq hS7)
     have nso9:∀b∈own t x,b≠pc∧b≠np∧b≠D∧b≠mk:=fun b hb=>by
      have hn:=hfr9 b (Fb _ hb);exact ⟨(A2 (sm8 _ _ hc7) hn).symm,(A2 (sm8 _ _ hny7) hn).symm,(A2 (sm8 _ _ hz7) hn).symm,(A2 (sm8 _ _ hmk7) hn).symm⟩
     clear hD8 hls8 stk8 htw8 hc7 hny7 hz7 hmk7 hS7 hls' hD7 stk7 sb9 sm8 ho7 hsp hgv hgv8 htx hmkV;walk_at "rs";intro wl hwl;have sm10:A9 H9 (upd H9 wl (.lst ((WS.map wd).map V.str))):=A9.new hwl;have hwl10:upd H9 wl (.lst ((WS.map wd).map V.str)) wl=some (.lst ((WS.map wd).map V.str)):=A5
     have nwl:d≠wl∧pc≠wl∧np≠wl∧D≠wl∧mk≠wl:=by
      obtain ⟨_,_,ho,_⟩:=hD9.o;exact ⟨A2 ho hwl,A2 hc9 hwl,A2 hny9 hwl,A2 hz9 hwl,A2 hmk9 hwl⟩
     have nwo:wl∉own t x:=fun m=>by
      obtain ⟨u,hu⟩:=Io (tw9.ok _ (Fs _ (Fc.mpr rfl))).to.tw wl (Fb _ m);rw [hwl]at hu;cases hu
     have nwa:wl∉al.L:=fun m=>by
      obtain ⟨u,hu,_⟩:=hls9.live wl m;rw [hwl]at hu;cases hu
     rw [show [V.str (Str.ofString "read"),V.str (Str.ofString "read"),V.str (Str.ofString "keep"),V.str (Str.ofString "keep"),V.str (Str.ofString "keep"),V.str (Str.ofString "ahead"),V.str (Str.ofString "rest"),V.str (Str.ofString "store"),V.str (Str.ofString "levels"),V.str (Str.ofString "found"),V.str (Str.ofString "spent"),V.str (Str.ofString "again")]=(WS.map wd).map V.str from rfl];generalize upd H9 wl (.lst ((WS.map wd).map V.str))=H10 at sm10 hwl10 ⊢;have hD10:=hD9.same sm10;have tw10:=tw9.same sm10;have hls10:=hls9.same sm10;have hc10:=sm10 _ _ hc9;have hny10:=sm10 _ _ hny9;have hz10:=sm10 _ _ hz9;have hmk10:=sm10 _ _ hmk9;have hS10:=sm10.seq hS9
     have hstory:Ip K Z5 Z1 Z0 Z2 H10 d st as t al pr x s g0 ts 1:=⟨hD10,tw10,by rw [eR,eF,eP];exact hls10,GOk.g0,fun _ y=>rfl⟩
     clear hD9 tw9 hls9 hc9 hny9 hz9 hmk9 hS9 sm10 hwl hD10 tw10 hls10;walk_at "rs";refine ⟨_,hS10,fun sl hsl=>?_⟩
     obtain ⟨cs,hcs,hcs60⟩:∃cs:List Int,Kz (ns.map V.int) (some 5) (some 65)=cs.map V.int∧cs.length≤60:=by
      obtain ⟨cs,h1,h2,_⟩:=N35.J5n ns 5 65;exact ⟨cs,h1,h2⟩
     rw [hcs];have sm11:A9 H10 (upd H10 sl (.lst (cs.map V.int))):=A9.new hsl;have hsl11:upd H10 sl (.lst (cs.map V.int)) sl=some (.lst (cs.map V.int)):=A5;generalize upd H10 sl (.lst (cs.map V.int))=H11 at sm11 hsl11 ⊢;refine ⟨⟨_,SqL.of hsl11⟩,?_⟩
     have nsa:∀b∈al.L,b≠d∧b≠pc∧b≠np∧b≠D∧b≠mk∧b≠wl∧b≠sl:=fun b hb=>by
      obtain ⟨o1,o2,o3,o4,o5⟩:=old b hb;refine ⟨o1,o2,o3,o4,o5,fun e=>nwa (by rw [← e];exact hb),fun e=>?_⟩;obtain ⟨u,hu,_⟩:=hstory.la.live b hb;rw [e,hsl]at hu;cases hu
     have nso:∀b∈own t x,b≠pc∧b≠np∧b≠D∧b≠mk∧b≠wl∧b≠sl:=fun b hb=>by
      obtain ⟨o1,o2,o3,o4⟩:=nso9 b hb;refine ⟨o1,o2,o3,o4,fun e=>nwo (by rw [← e];exact hb),fun e=>?_⟩;obtain ⟨u,hu⟩:=Io (hstory.tw.ok _ (Fc.mpr rfl)).to.tw b (Fb _ hb);rw [e,hsl]at hu;cases hu
     have nsl:d≠sl:=by
      obtain ⟨_,_,ho,_⟩:=hstory.dk.o;exact A2 ho hsl
     have hst11:Ip K Z5 Z1 Z0 Z2 H11 d st as t al pr x s g0 ts (1+110 * 0):=⟨hstory.dk.same sm11,hstory.tw.same sm11,hstory.la.same sm11,hstory.ok,hstory.np⟩
     have hc11:=sm11 _ _ hc10;have hny11:=sm11 _ _ hny10;have hz11:=sm11 _ _ hz10;have hmk11:=sm11 _ _ hmk10;have hwl11:=sm11 _ _ hwl10
     have hf0:∀u∈s.ff,0≤u∧u≤((0:Nat):Int):=fun u hu=>by
      rw [eF]at hu;rw [Rl hu];exact ⟨HX _,HX _⟩
     clear hstory hc10 hny10 hz10 hmk10 hwl10 hS10 hsl sm11 hcs;rename_i rest hrest;refine Pt (xs:=cs.map V.int) (fun i σ H'=>∃(as t:Addr) (al:LsA) (pr':Bool) (x:TwA) (s:TwS) (g:Gt) (v5 v13 v14 v15 v16 v17:Option V),σ=[some (V.ref a),some (V.int m),some (V.ref np),some (V.ref pc),some (V.ref d),v5,some (V.int (ns.getD 3 0)),some (V.ref D),some (V.str (Txt.join (Str.ofString " ") (zs.map nT))),some (V.bl pr),some (V.ref mk),some (V.ref al.sd),some (V.ref wl),v13,v14,v15,v16,v17]∧Ip K Z5 Z1 Z0 Z2 H' d st as t al pr' x s g ts (1+110 * i)∧s.zs=zs∧s.ff.length=zs.length+1∧(∀u∈s.ff,0≤u∧u≤(i:Int))∧0≤s.pd∧s.pd≤i * 10 ^ 30∧(∀b∈al.L,b≠d∧b≠pc∧b≠np∧b≠D∧b≠mk∧b≠wl∧b≠sl)∧(∀b∈own t x,b≠pc∧b≠np∧b≠D∧b≠mk∧b≠wl∧b≠sl)∧H' pc=some (.dK kc)∧H' np=some (.lst ((ts.map fun x=>x.1).map V.str))∧H' D=some (.lst (zs.map V.int))∧H' mk=some (.lst [V.str (Str.ofString "tower "),V.str (Str.ofString "prompt ")])∧H' wl=some (.lst ((WS.map wd).map V.str))∧H' sl=some (.lst (cs.map V.int))) ⟨as,t,al,pr,x,s,g0,_,_,_,_,_,_,rfl,hst11,eZ,by rw [eF,HI],hf0,by rw [eP];exact HX _,by rw [eP];decide,nsa,nso,hc11,hny11,hz11,hmk11,hwl11,hsl11⟩ (fun i σ H' _ h_=>by obtain ⟨_,_,_,_,_,_,_,_,_,_,_,_,_,_,_,_,_,_,_,_,_,_,_,_,_,_,_,h⟩:=h_;exact SqL.of h) ?_ ?_
     · clear hst11 hc11 hny11 hz11 hmk11 hwl11 hsl11 hf0 nsa nso nso9 nwo eR eZ eP eF hfr9 hrest
       rintro i x0 σ H' tt hx ⟨as,t,al,pr',x,s,g,v5,v13,v14,v15,v16,v17,rfl,hY,eZ,hffl,hff,hp0,hp1,nsa,nso,hc,hny,hzD,hmk,hwl,hsl⟩ htt;rw [Fg]at hx
       cases hcx:cs[i]? with
       | none=>rw [hcx]at hx;cases hx
       | some c=>
       rw [hcx]at hx;cases hx
       have hi60:i < 60:=by have:=(Fe.mp hcx).1;omega
       have smt:A9 H' (upd H' tt (.tup [.int i,.int c])):=A9.new htt;have htt1:upd H' tt (.tup [.int i,.int c]) tt=some (.tup [.int i,.int c]):=A5;generalize upd H' tt (.tup [.int i,.int c])=H1 at smt htt1 ⊢
       have hY1:Ip K Z5 Z1 Z0 Z2 H1 d st as t al pr' x s g ts (1+110 * i):=⟨hY.dk.same smt,hY.tw.same smt,hY.la.same smt,hY.ok,hY.np⟩
       have hc1:=smt _ _ hc;have hny1:=smt _ _ hny;have hzD1:=smt _ _ hzD;have hmk1:=smt _ _ hmk;have hwl1:=smt _ _ hwl;have hsl1:=smt _ _ hsl;clear hY hc hny hzD hmk hwl hsl htt;walk_at "go";refine ⟨_,SqT.of htt1,rfl,_,_,rfl,_,_,rfl,rfl,?_⟩;walk_at "go"
       obtain ⟨kz,hkz⟩:∃k:Nat,c % (m:Int)=k:=⟨(c % (m:Int)).toNat,(Int.toNat_of_nonneg (Hc _ (by omega))).symm⟩
       have hkm:kz < m:=by have:=FT c (show (0:Int) < m by omega);omega
       rw [hkz];have hy2l:=hy2;rw [Fa]at hy2l
       obtain ⟨u,hu⟩:∃u,ts[kz]?=some u:=⟨_,Fd (by omega)⟩
       have hzV:((ts.map fun x=>x.1).map V.str)[kz]?=some (V.str u.1):=by rw [Fg,Fg,hu];rfl
       refine Bw (SqL.of hny1) (Cv hzV) ?_;walk_at "rs";obtain ⟨b,hb,hbk⟩:=J7m (i:=c.fdiv (m:Int) % 12) (by omega) (by omega);refine Bw (SqL.of hwl1) hb ?_;walk_at "rs";refine ⟨i,rfl,by omega,fun v hv0 hv1=>?_⟩;walk_at "rs";rename_i nx hnx
       have key:∀(as t:Addr) (al:LsA) (pr':Bool) (x:TwA) (s:TwS) (g:Gt) (H2:Hp),Ip K Z5 Z1 Z0 Z2 H2 d st as t al pr' x s g ts (1+110 * i)→s.zs=zs→s.ff.length=zs.length+1→(∀u∈s.ff,0≤u∧u≤(i:Int))→0≤s.pd→s.pd≤i * 10 ^ 30→(∀b∈al.L,b≠d∧b≠pc∧b≠np∧b≠D∧b≠mk∧b≠wl∧b≠sl)→(∀b∈own t x,b≠pc∧b≠np∧b≠D∧b≠mk∧b≠wl∧b≠sl)→H2 pc=some (.dK kc)→H2 np=some (.lst ((ts.map fun x=>x.1).map V.str))→H2 D=some (.lst (zs.map V.int))→H2 mk=some (.lst [V.str (Str.ofString "tower "),V.str (Str.ofString "prompt ")])→H2 wl=some (.lst ((WS.map wd).map V.str))→H2 sl=some (.lst (cs.map V.int))→nx [some (V.ref a),some (V.int m),some (V.ref np),some (V.ref pc),some (V.ref d),some (V.int i),some (V.int (ns.getD 3 0)),some (V.ref D),some (V.str (Txt.join (Str.ofString " ") (zs.map nT))),some (V.bl pr),some (V.ref mk),some (V.ref al.sd),some (V.ref wl),some (V.int c),some (V.str u.1),some (V.str (wd b)),some (V.int v),v17] H2:=by
        clear hY1 eZ hffl hff hp0 hp1 nsa nso hc1 hny1 hzD1 hmk1 hwl1 hsl1 htt1;clear s g x t al pr' as;intro as t al pr' x s g H2 hY eZ hffl hff hp0 hp1 nsa nso hc hny hzD hmk hwl hsl;subst hnx;walk_at "go";have htG:=hY.tw.ok _ (Fc.mpr rfl);have hRl:s.R.length≤59:=htG.to.rl;have hRn:s.R.Nodup:=htG.to.nd
        have hRs:(s.R.length:Int)≤zs.sum:=by rw [← eZ];exact htG.to.rs
        have hlr:∀y,g.l y=true→y∈s.R:=fun y hy=>htG.g.lh y hy
        have hy8:∀y∈s.R,y.length≤8:=fun y hy=>by
         have h2:=(K7 (hyn y (htG.to.rn y hy))).2;rw [Cf]at h2;exact h2
        clear htG;have hun:u.1∈ts.map (·.1):=Fv.mpr ⟨u,Fk hu,rfl⟩;have hnn:=hyn _ hun
        have hu8:u.1.length≤8:=by
         have h2:=(K7 hnn).2;rw [Cf]at h2;exact h2
        have hcost:Bd ts u.1=u.2.1:=M6 ynd hu rfl;have hu2:=htg u (Fk hu);intro p hp;have sm3:A9 H2 (upd H2 p (.tup [V.str (Str.ofString "read"),V.str (Str.ofString "keep"),V.str (Str.ofString "ahead")])):=A9.new hp;refine Pz (ys:=[Str.ofString "read",Str.ofString "keep",Str.ofString "ahead"]) (SqT.of A5) ⟨_,rfl,?_⟩;generalize upd H2 p (.tup [V.str (Str.ofString "read"),V.str (Str.ofString "keep"),V.str (Str.ofString "ahead")])=H3 at sm3 ⊢
        have hY3:Ip K Z5 Z1 Z0 Z2 H3 d st as t al pr' x s g ts (1+110 * i):=⟨hY.dk.same sm3,hY.tw.same sm3,hY.la.same sm3,hY.ok,hY.np⟩
        have hc3:=sm3 _ _ hc;have hny3:=sm3 _ _ hny;have hzD3:=sm3 _ _ hzD;have hmk3:=sm3 _ _ hmk;have hwl3:=sm3 _ _ hwl;have hsl3:=sm3 _ _ hsl;clear hY hc hny hzD hmk hwl hsl sm3 hp;obtain ⟨dy,fs,ho3,hf3⟩:=id hY3.dk.o;have nda:d∉al.L:=fun m=>(nsa d m).1 rfl;rcases hbk with hbk | hbk
        · have e:decide (wd b∈[Str.ofString "read",Str.ofString "keep",Str.ofString "ahead"])=true:=by rcases hbk with rfl | rfl | rfl <;> decide+kernel
          rw [e,if_pos rfl];have gV:=Br.k (k:=Sum.inr u.1) hc3;rw [htv u (Fk hu)]at gV;refine ⟨_,gV,al,rfl,⟨s.R,g,s.ff,s.pd,pr'⟩,1+110 * i,zs,b,rfl,u.2.1,rfl,hbk,hY3.la,by omega,hzD3,by omega,by omega,hz,hRn,by show s.R.length≤60;omega,hRs,hffl,hY3.ok,hY3.np,hv0,hv1,fun m=>(nsa D m).2.2.2.1 rfl,fun H4 off4 hla4=>?_⟩
          have hD4:Cp Z5 H4 d st as (.ref t):=⟨⟨dy,fs,off4 _ _ ho3 nda,hf3⟩⟩
          have tw4:=N85.Tws.moved hY3.tw (ks':=d::al.L) (off4.mono fun b hb=>Fb _ hb) (fun c hc=> .inl hc) fun c hc=>by
           rcases Fo.mp hc with k | k
           · rw [k];exact ⟨_,off4 _ _ ho3 nda,fun e z=>by cases z⟩
           · exact hla4.live c k
          have hc4:=off4 _ _ hc3 fun m=>(nsa pc m).2.1 rfl;have hny4:=off4 _ _ hny3 fun m=>(nsa np m).2.2.1 rfl;have hzD4:=off4 _ _ hzD3 fun m=>(nsa D m).2.2.2.1 rfl;have hmk4:=off4 _ _ hmk3 fun m=>(nsa mk m).2.2.2.2.1 rfl;have hwl4:=off4 _ _ hwl3 fun m=>(nsa wl m).2.2.2.2.2.1 rfl;have hsl4:=off4 _ _ hsl3 fun m=>(nsa sl m).2.2.2.2.2.2 rfl;have ho4:=off4 _ _ ho3 nda;have hok:=hY3.ok;have hnp:=hY3.np;clear hc3 hny3 hzD3 hmk3 hwl3 hsl3 ho3 hY3 off4 gV;walk_at "rs";refine ⟨_,_,ho4,hf3.m,b,rfl,.inl hbk,hv0,hv1,hu8,fun H5 sm5=>⟨Mm b u.1 v,rfl,Wc (.inl hbk) hnn hv0 hv1,fun gv H6 sm6 hgn hgv=>?_⟩⟩
          have eb:(Mm b u.1 v).b=b:=by rcases hbk with rfl | rfl | rfl <;> rfl
          rw [eb];have sm46:=sm5.trans sm6;rw [← hcost,← eZ]at hla4
          refine J27 hbk (hD4.same sm46) (tw4.same sm46) (hla4.same sm46) hgv hok hnp hun (by omega) hv0 hv1 fun s' g' H7 o7 hY7 eZ7 eP7 eF7=>⟨rfl,?_⟩
          rw [eZ,if_neg (by simp)];have hF7:=J25 (b:=b) (zs:=s.zs) (R:=s.R) (z:=u.1) hff;have hP7:=J26 (b:=b) (z:=u.1) (R:=s.R) (c:=Bd ts u.1) (by rw [hcost];exact hu2.2.1) (by rw [hcost];exact hu2.2.2.1) hp0 hp1;refine ⟨as,t,al,rfl,pr',x,s',g',hY7.up (by omega) (by omega),eZ7.trans eZ,by rw [eF7,hF7.1];exact hffl,fun u hu=>by rw [eF7]at hu;have:=hF7.2 u hu;omega,by rw [eP7];exact hP7.1,by rw [eP7];exact hP7.2,nsa,nso,o7 _ _ (sm46 _ _ hc4) fun m=>(nso pc m).1 rfl,o7 _ _ (sm46 _ _ hny4) fun m=>(nso np m).2.1 rfl,o7 _ _ (sm46 _ _ hzD4) fun m=>(nso D m).2.2.1 rfl,o7 _ _ (sm46 _ _ hmk4) fun m=>(nso mk m).2.2.2.1 rfl,o7 _ _ (sm46 _ _ hwl4) fun m=>(nso wl m).2.2.2.2.1 rfl,o7 _ _ (sm46 _ _ hsl4) fun m=>(nso sl m).2.2.2.2.2 rfl⟩
        · have e:decide (wd b∈[Str.ofString "read",Str.ofString "keep",Str.ofString "ahead"])=false:=by rcases hbk with rfl | rfl | rfl | rfl | rfl | rfl <;> decide+kernel
          rw [e,if_neg (by decide)];refine ⟨al,rfl,⟨s.R,g,s.ff,s.pd,pr'⟩,1+110 * i,zs,b,rfl,hbk,hY3.la,by omega,SqL.of hzD3,by omega,by omega,hz,hRn,by show s.R.length≤60;omega,hy8,hlr,hY3.ok,fun k hk=>⟨(hff k hk).1,by have:=(hff k hk).2;omega⟩,by show s.ff.length≤7;omega,hp0,Ra hp1 ?_,fun al' H4 off4 fr4 esd4 hla4=>?_⟩
          · exact Ra (Int.mul_le_mul_of_nonneg_right (show (i:Int)≤60 by omega) (by decide)) (by decide)
          have hD4:Cp Z5 H4 d st as (.ref t):=⟨⟨dy,fs,off4 _ _ ho3 nda,hf3⟩⟩
          have ho4:=off4 _ _ ho3 nda
          have old4:∀b∈al'.L,b≠d∧b≠pc∧b≠np∧b≠D∧b≠mk∧b≠wl∧b≠sl:=fun b hb=>by
           rcases fr4 b hb with k | hn
           · exact nsa b k
           · exact ⟨(A2 ho3 hn).symm,(A2 hc3 hn).symm,(A2 hny3 hn).symm,(A2 hzD3 hn).symm,(A2 hmk3 hn).symm,(A2 hwl3 hn).symm,(A2 hsl3 hn).symm⟩
          have tw4:=N85.Tws.moved hY3.tw (ks':=d::al'.L) (off4.mono fun b hb=>Fb _ hb) (fun c hc=>by
           rcases Fo.mp hc with k | k
           · exact .inl (by rw [k];exact Fi)
           · exact (fr4 c k).imp (Fb _) id) fun c hc=>by
           rcases Fo.mp hc with k | k
           · rw [k];exact ⟨_,ho4,fun e z=>by cases z⟩
           · exact hla4.live c k
          have hc4:=off4 _ _ hc3 fun m=>(nsa pc m).2.1 rfl;have hny4:=off4 _ _ hny3 fun m=>(nsa np m).2.2.1 rfl;have hzD4:=off4 _ _ hzD3 fun m=>(nsa D m).2.2.2.1 rfl;have hmk4:=off4 _ _ hmk3 fun m=>(nsa mk m).2.2.2.2.1 rfl;have hwl4:=off4 _ _ hwl3 fun m=>(nsa wl m).2.2.2.2.2.1 rfl;have hsl4:=off4 _ _ hsl3 fun m=>(nsa sl m).2.2.2.2.2.2 rfl;have hok:=hY3.ok;have hnp:=hY3.np;clear hc3 hny3 hzD3 hmk3 hwl3 hsl3 ho3 hY3 off4;walk_at "rs";refine ⟨_,_,ho4,hf3.m,b,rfl,.inr hbk,hv0,hv1,hu8,fun H5 sm5=>⟨Mm b u.1 v,rfl,Wc (.inr hbk) hnn hv0 hv1,fun gv H6 sm6 hgn hgv=>?_⟩⟩
          have eb:(Mm b u.1 v).b=b:=by rcases hbk with rfl | rfl | rfl | rfl | rfl | rfl <;> rfl
          rw [eb];have sm46:=sm5.trans sm6
          refine J28 hbk (hD4.same sm46) (tw4.same sm46) (hla4.same sm46) (fun m=>(old4 d m).1 rfl) hgv hok hnp hun (by omega) hy8 (fun k hk=>by have:=hff k hk;omega) hp0 (Ra hp1 (Ra (Int.mul_le_mul_of_nonneg_right (show (i:Int)≤60 by omega) (by decide)) (by decide))) fun as' x' s' g' H7 o7 fr7 hY7 eZ7 eP7 eF7=>⟨rfl,?_⟩
          rw [eZ,if_neg (by simp)];have hc6:=sm46 _ _ hc4;have hny6:=sm46 _ _ hny4;have hzD6:=sm46 _ _ hzD4;have hmk6:=sm46 _ _ hmk4;have hwl6:=sm46 _ _ hwl4;have hsl6:=sm46 _ _ hsl4
          have nso7:∀b∈own t x',b≠pc∧b≠np∧b≠D∧b≠mk∧b≠wl∧b≠sl:=fun b hb=>by
           rcases fr7 b hb with k | hn
           · exact nso b k
           · exact ⟨(A2 hc6 hn).symm,(A2 hny6 hn).symm,(A2 hzD6 hn).symm,(A2 hmk6 hn).symm,(A2 hwl6 hn).symm,(A2 hsl6 hn).symm⟩
          have off7:∀c,c≠d→c∉own t x→c∉d::own t x:=fun c h1 h2 m=>(Fo.mp m).elim h1 h2;refine ⟨as',t,al',esd4.symm,pr',x',s',g',hY7.up (by omega) (by omega),eZ7.trans eZ,by rw [eF7];exact hffl,fun u hu=>by rw [eF7]at hu;have:=hff u hu;omega,by rw [eP7];exact hp0,by rw [eP7];omega,old4,nso7,o7 _ _ hc6 (off7 _ hdc.symm fun m=>(nso pc m).1 rfl),o7 _ _ hny6 (off7 _ hdn.symm fun m=>(nso np m).2.1 rfl),o7 _ _ hzD6 (off7 _ ndc.1.symm fun m=>(nso D m).2.2.1 rfl),o7 _ _ hmk6 (off7 _ nmk.1.symm fun m=>(nso mk m).2.2.2.1 rfl),o7 _ _ hwl6 (off7 _ nwl.1.symm fun m=>(nso wl m).2.2.2.2.1 rfl),o7 _ _ hsl6 (off7 _ nsl.symm fun m=>(nso sl m).2.2.2.2.2 rfl)⟩
       by_cases h5:c / 64 % 16=5
       · rw [if_pos h5]
         clear hnx;walk_at "go";refine ⟨_,hY1.la.gpr,pr',rfl,zs,SqL.of hzD1,by omega,fun al' H2 sm2 hfr hls=>?_⟩;have hls':B2 H2 al' (ls0 zs (!pr')) 1 (fun y=>y∈(ls0 zs (!pr')).R):=hls;obtain ⟨dy,fs,ho1,hf1⟩:=id hY1.dk.o
         have nsa':∀b∈al'.L,b≠d∧b≠pc∧b≠np∧b≠D∧b≠mk∧b≠wl∧b≠sl:=fun b hb=>by
          have hn:=hfr b hb;exact ⟨(A2 ho1 hn).symm,(A2 hc1 hn).symm,(A2 hny1 hn).symm,(A2 hzD1 hn).symm,(A2 hmk1 hn).symm,(A2 hwl1 hn).symm,(A2 hsl1 hn).symm⟩
         have hD2:=hY1.dk.same sm2
         have tw2:=N85.Tws.moved hY1.tw (ks':=d::al'.L) (.of sm2) (fun c hc=>by
          rcases Fo.mp hc with k | k
          · exact .inl (by rw [k];exact Fi)
          · exact .inr (hfr c k)) fun c hc=>by
          rcases Fo.mp hc with k | k
          · rw [k];exact ⟨_,sm2 _ _ ho1,fun e z=>by cases z⟩
          · exact hls'.live c k
         have hc2:=sm2 _ _ hc1;have hny2:=sm2 _ _ hny1;have hzD2:=sm2 _ _ hzD1;have hmk2:=sm2 _ _ hmk1;have hwl2:=sm2 _ _ hwl1;have hsl2:=sm2 _ _ hsl1;have ho2:=sm2 _ _ ho1;clear hY1 hc1 hny1 hzD1 hmk1 hwl1 hsl1 ho1 sm2 hfr hls nsa nso;walk_at "rs"
         have hmkV:atI [V.str (Str.ofString "tower "),V.str (Str.ofString "prompt ")] (if (!pr')=true then 1 else 0)=some (V.str (if (!pr')=true then Str.ofString "prompt " else Str.ofString "tower ")):=by cases pr' <;> rfl
         have htx:(lnW (!pr') zs).txt.length≤4000:=(Q0 (by omega) (by omega) hz).long;rw [N2 (by omega),Ca]at htx;refine ⟨_,_,ho2,hf1.m,_,hls'.gpr,.inr ⟨!pr',rfl,Bw (SqL.of hmk2) hmkV ⟨_,rfl,by omega,lnW (!pr') zs,(N2 (by omega)).symm,Q0 (by omega) (by omega) hz,fun gv H3 sm3 hgn hgv=>?_⟩⟩⟩
         have hsp:spA K Z5 Z1 Z0 Z2 (lnW (!pr') zs).b=Bu K Z5 Z1 Z0 Z2 (!pr'):=by cases pr' <;> rfl
         rw [hsp];have tw3:=tw2.same sm3;have hc3:=sm3 _ _ hc2;have hny3:=sm3 _ _ hny2;have hzD3:=sm3 _ _ hzD2;have hmk3:=sm3 _ _ hmk2;have hwl3:=sm3 _ _ hwl2;have hsl3:=sm3 _ _ hsl2;refine ⟨d,gv,st,as,.ref t,ts,zs,d::al'.L,[⟨Dd Z1 Z0 pr',t,x,s,g⟩],1+110 * i,rfl,hD2.same sm3,tw3.sk.at,tw3,Fi,by omega,by omega,ynd,(fun t ht=>(htg t ht).2.2.2),by omega,hgv,by omega,by omega,(fun z hz'=>by have:=hz z hz';omega),fun t2 x2 s2 H4 sb4 hD4 tw4 eR eZ2 eP eF hfr4=>⟨rfl,?_⟩⟩;rw [if_neg (by simp)];have hla4:=(hls'.same sm3).off (H':=H4) (L:=[d]) (fun b o e n=>sb4 b o e fun k=>n (by rw [k];simp)) fun b hb m=>(nsa' b hb).1 (Fc.mp m)
         have nso4:∀b∈own t2 x2,b≠pc∧b≠np∧b≠D∧b≠mk∧b≠wl∧b≠sl:=fun b hb=>by
          have hn:=hfr4 b (Fb _ hb);exact ⟨(A2 hc3 hn).symm,(A2 hny3 hn).symm,(A2 hzD3 hn).symm,(A2 hmk3 hn).symm,(A2 hwl3 hn).symm,(A2 hsl3 hn).symm⟩
         refine key as t2 al' (!pr') x2 s2 g0 H4 ⟨hD4,N85.Tws.last tw4,?_,GOk.g0,fun _ y=>rfl⟩ eZ2 (by rw [eF,HI]) (fun u hu=>?_) (by rw [eP];exact HX _) (by rw [eP];exact Int.mul_nonneg (by omega) (by decide)) nsa' nso4 (sb4 _ _ hc3 hdc.symm) (sb4 _ _ hny3 hdn.symm) (sb4 _ _ hzD3 ndc.1.symm) (sb4 _ _ hmk3 nmk.1.symm) (sb4 _ _ hwl3 nwl.1.symm) (sb4 _ _ hsl3 nsl.symm)
         · rw [eR,eF,eP];exact hla4.up (by omega) (by omega)
         · rw [eF]at hu
           rw [Rl hu];omega
       · rw [if_neg h5]
         exact key as t al pr' x s g H1 hY1 eZ hffl hff hp0 hp1 nsa nso hc1 hny1 hzD1 hmk1 hwl1 hsl1
     · rintro σ H' ⟨as,t,al,pr',x,s,g,v5,v13,v14,v15,v16,v17,rfl,hY,eZ,hffl,hff,hp0,hp1,nsa,nso,hc,hny,hzD,hmk,hwl,hsl⟩
       subst hrest;walk_at "go";obtain ⟨dy,fs,ho,hf⟩:=id hY.dk.o;have htG:=hY.tw.ok _ (Fc.mpr rfl)
       have hy8:∀y∈s.R,y.length≤8:=fun y hy=>by
        have h2:=(K7 (hyn y (htG.to.rn y hy))).2;rw [Cf]at h2;exact h2
       refine ⟨dy,fs,ho,hf.m,⟨.levels,[],[]⟩,Xf.symm,⟨by show (Bn (fm .levels) 0).length=0;decide+kernel,rfl,Fq _,fun i k w v _ e2 _=>by cases e2⟩,fun gv H1 sm hgv hgv1=>?_⟩;refine ⟨d,gv,st,as,t,pr',x,s,g,ts,_,rfl,⟨hY.dk.same sm,htG.same sm⟩,hy8,fun H2 sm2=>?_⟩;have hla:=(hY.la.same sm).same sm2;have hzD2:=sm2 _ _ (sm _ _ hzD);have htL:s.R.length≤59:=htG.to.rl;dsimp only;refine ⟨_,hla.gli,al.li,rfl,s.R,hla.li,zs,SqL.of hzD2,by omega,by omega,hz,by omega,hy8,fun H3 sm3=>⟨rfl,?_⟩⟩;rw [eZ]
       simpa using q H3
end
theorem J5r{l:W.OpenLaw}{w:World}{K:W.Frag}{h:Heap}{mg:Str→Option Value}{fa f77 xF_thing xF_tower xF_prompt xF_read xF_keep xF_ahead xF_rest xF_store xF_levels xF_found xF_spent xF_again Z2 Z1 Z0 Z5 xanswer_thing xanswer_tower xanswer_prompt xanswer_read xanswer_keep xanswer_ahead xanswer_rest xanswer_store xanswer_levels xanswer_found xanswer_spent xanswer_again Zh Z8:Addr}(X:K.In h)(G:h.Ns mainGlobals mg)(hfa:mg "law"=some (.ref fa))
 {od77 an77:Option Addr} {sl77:Array (Option Value)} {oc77 kV77 dc77 pm77 cd77 ct77:Value}
 (Z7m:Gc K "Stock" Z2) (Z8e:Cls K Z2)
 (Z7n:Gc K "Tower" Z1) (Z8f:Cls K Z1)
 (Z7d:Gc K "Prompt" Z0) (Z8b:Cls K Z0)
 (Z87:Gc K "Desk" Z5) (Z8i:Cls K Z5)
 (Z6k:Gc K "answer_thing" xanswer_thing)
 (Z6l:Gc K "answer_tower" xanswer_tower)
 (Z5m:Gc K "answer_prompt" xanswer_prompt)
 (Z72:Gc K "answer_read" xanswer_read)
 (Z73:Gc K "answer_keep" xanswer_keep)
 (Z6m:Gc K "answer_ahead" xanswer_ahead)
 (Z74:Gc K "answer_rest" xanswer_rest)
 (Z6n:Gc K "answer_store" xanswer_store)
 (Z5n:Gc K "answer_levels" xanswer_levels)
 (Z6o:Gc K "answer_found" xanswer_found)
 (Z6p:Gc K "answer_spent" xanswer_spent)
 (Z6q:Gc K "answer_again" xanswer_again)
 (Z8g:Gc K "FORMS" Zh)
 (Z88:Gc K "ANSWERS" Z8)
 (F0:Gf K "made_of" Z4f)
 (F1:Gf K "is_name" Z4g)
 (F2:Gf K "is_whole" Z46)
 (F3:Gf K "is_within" Z3z)
 (F4:Gf K "check_thing" Z2x)
 (F5:Gi K Z2 "Stock.__init__" Z3k)
 (F6:Gm K Z2 "names" "Stock.names" Z2y)
 (F7:Gf K "check_places" Z28)
 (F8:Gm K Z2 "thing_of" "Stock.thing_of" Z1s)
 (F9:Gm K Z2 "number_of" "Stock.number_of" Z1c)
 (F10:Gm K Z2 "cost_of" "Stock.cost_of" Z1v)
 (F11:Gm K Z2 "room_of" "Stock.room_of" Z1w)
 (F12:Gf K "check_sizes" Z2z)
 (F13:Gf K "check_rooms" Z30)
 (F14:Gm K Z1 "write" "Tower.write" Z31)
 (F15:Gm K Z1 "settle" "Tower.settle" Z29)
 (F16:Gm K Z1 "fall_off" "Tower.fall_off" Z1t)
 (F17:Gm K Z1 "come" "Tower.come" Z3l)
 (F18:Gm K Z1 "levels" "Tower.levels" Z2a)
 (F19:Gm K Z1 "shelf_of" "Tower.shelf_of" Z1u)
 (F20:Gm K Z1 "stored" "Tower.stored" Z2b)
 (F21:Gm K Z1 "fetch" "Tower.fetch" Z32)
 (F22:Gm K Z1 "read" "Tower.read" Z3m)
 (F23:Gm K Z1 "keep" "Tower.keep" Z3n)
 (F24:Gm K Z1 "ahead" "Tower.ahead" Z33)
 (F25:Gm K Z1 "rest" "Tower.rest" Z3o)
 (F26:Gm K Z1 "found" "Tower.found" Z34)
 (F27:Gm K Z1 "spent" "Tower.spent" Z35)
 (F28:Gi K Z1 "Tower.__init__" Z3p)
 (F29:Gm K Z0 "write" "Tower.write" Z2c)
 (F30:Gm K Z0 "settle" "Prompt.settle" Z1x)
 (F31:Gm K Z0 "fall_off" "Tower.fall_off" Z1d)
 (F32:Gm K Z0 "come" "Tower.come" Z36)
 (F33:Gm K Z0 "levels" "Tower.levels" Z1y)
 (F34:Gm K Z0 "shelf_of" "Tower.shelf_of" Z1e)
 (F35:Gm K Z0 "stored" "Tower.stored" Z1z)
 (F36:Gm K Z0 "fetch" "Tower.fetch" Z2d)
 (F37:Gm K Z0 "read" "Tower.read" Z37)
 (F38:Gm K Z0 "keep" "Tower.keep" Z38)
 (F39:Gm K Z0 "ahead" "Tower.ahead" Z2e)
 (F40:Gm K Z0 "found" "Tower.found" Z2f)
 (F41:Gm K Z0 "spent" "Tower.spent" Z2g)
 (F42:Gi K Z0 "Tower.__init__" Z39)
 (F43:Gm K Z0 "rest" "Tower.rest" Z3a)
 (F44:Gf K "read_number" Z3b)
 (F45:Gf K "read_name" Z40)
 (F46:Gf K "read_word" Z41)
 (F47:Gf K "kinds_of" Z47)
 (F48:Gf K "read_line" Z42)
 (F49:Gi K Z5 "Desk.__init__" Z43)
 (F50:Gf K "tower_of" Z48)
 (F51:Gf K "answer_thing" Z2h)
 (F52:Gf K "answer_again" Z2i)
 (F53:Gf K "answer_tower" Z2j)
 (F54:Gf K "answer_prompt" Z20)
 (F55:Gf K "answer_read" Z3c)
 (F56:Gf K "answer_keep" Z3d)
 (F57:Gf K "answer_ahead" Z2k)
 (F58:Gf K "answer_rest" Z3e)
 (F59:Gf K "answer_store" Z2l)
 (F60:Gf K "answer_levels" Z21)
 (F61:Gf K "answer_found" Z2m)
 (F62:Gf K "answer_spent" Z2n)
 (F63:Gm K Z5 "say" "Desk.say" Z49)
 (F64:Gf K "_law_cell_at" Z44)
 (F65:Gf K "_law_mix" Z5z)
 (F66:Gf K "_law_names" Z4h)
 (F67:Gf K "_law_cost" Z4r)
 (F68:Gf K "_law_new" Z60)
 (F69:Gf K "_law_come" Z4s)
 (F70:Gf K "_law_count" Z4i)
 (F71:Gf K "_law_fetch" Z4j)
 (F72:Gf K "_law_rest" Z4t)
 (F73:Gf K "_law_levels" Z4a)
 (F74:Gf K "_law_moved" Z4k)
 (F75:Gf K "_law_told" Z4u)
 (F76:Gf K "_law_line" Z4v)
 (a77:Gc K "law" f77) (l77:K.lookup f77=some ⟨oc77,od77,.func (W.fnOf "law" "law" (Dl Z3f) (D6 Z3f) (A7 Z3f) .none kV77 dc77 pm77 an77 cd77 ct77),sl77⟩) (c77:W.codeIn K cd77 "law"=true) (k77:W.keepIn K (.ref f77)=true)
 (Zf:W.nsIn K mainGlobals "len"=some none)
 (Z0x:W.nsIn K mainGlobals "isinstance"=some none)
 (Z3r:W.nsIn K mainGlobals "int"=some none)
 (Z76:W.nsIn K mainGlobals "bool"=some none)
 (Z0m:W.nsIn K mainGlobals "str"=some none)
 (Z2u:W.nsIn K mainGlobals "list"=some none)
 (Z7o:W.nsIn K mainGlobals "all"=some none)
 (Z3i:W.nsIn K mainGlobals "range"=some none)
 (Z55:W.nsIn K mainGlobals "sum"=some none)
 (Z1f:W.nsIn K mainGlobals "enumerate"=some none)
 (Z8d:W.nsIn K mainGlobals "abs"=some none)
 (Z7p:W.nsIn K mainGlobals "max"=some none)
 (Z7q:W.nsIn K mainGlobals "zip"=some none)
 (Z5y:W.nsIn K mainGlobals "tuple"=some none)
 {Z7y:Tok} (Z3s:W.nsIn K mainGlobals "LETTERS"=some (some (.str "abcdefghijklmnopqrstuvwxyz" Z7y)))
 {Z7z:Tok} (Z3t:W.nsIn K mainGlobals "FIGURES"=some (some (.str "0123456789" Z7z)))
 {Z75:Tok} (Z3j:W.nsIn K mainGlobals "MOST_SIGNS"=some (some (.int 8 Z75)))
 {Z6r:Tok} (Z2v:W.nsIn K mainGlobals "MOST_THINGS"=some (some (.int 60 Z6r)))
 {Z7e:Tok} (Z3y:W.nsIn K mainGlobals "MOST_ROOM"=some (some (.int 1000 Z7e)))
 {Z6s:Tok} (Z2w:W.nsIn K mainGlobals "MOST_PLACES"=some (some (.int 1000000 Z6s)))
 {Z5o:Tok} (Z26:W.nsIn K mainGlobals "MOST_SHELVES"=some (some (.int 6 Z5o)))
 {Z5p:Tok} (Z27:W.nsIn K mainGlobals "MOST_FIGURES"=some (some (.int 31 Z5p)))
 (Zk:Gn K Z2 "things")
 (Z0i:Gn K Z1 "stock")
 (Zy:Gn K Z1 "sizes")
 (Zt:Gn K Z1 "row")
 (Zu:Gn K Z1 "held")
 (Z02:Gn K Z1 "late")
 (Z0r:Gn K Z1 "store")
 (Z0k:Gn K Z1 "entries")
 (Z0j:Gn K Z1 "finds")
 (Z0w:Gn K Z1 "paid")
 (Z0c:Gn K Z0 "stock")
 (Zr:Gn K Z0 "sizes")
 (Zl:Gn K Z0 "row")
 (Zn:Gn K Z0 "held")
 (Z03:Gn K Z0 "late")
 (Z0o:Gn K Z0 "store")
 (Z0e:Gn K Z0 "entries")
 (Z0d:Gn K Z0 "finds")
 (Z0s:Gn K Z0 "paid")
 (Z0f:Gn K Z5 "stock")
 (Z2p:Gn K Z5 "asks")
 (Z0g:Gn K Z5 "tower")
 {Z7f:Array DictEntry} {Z8c:Nat} (Z08:K.lookup Zh=some ⟨.type "dict",none,.dict Z7f Z8c,#[]⟩) (Z09:W.KeysLit w.params Z7f.toList) (Z0a:(Zh==sysModules)=false)
 (wT0_FORMS:W.nsIn K Zh "thing"=some (some (.ref xF_thing)))
 (wT1_FORMS:W.nsIn K Zh "tower"=some (some (.ref xF_tower)))
 (wT2_FORMS:W.nsIn K Zh "prompt"=some (some (.ref xF_prompt)))
 (wT3_FORMS:W.nsIn K Zh "read"=some (some (.ref xF_read)))
 (wT4_FORMS:W.nsIn K Zh "keep"=some (some (.ref xF_keep)))
 (wT5_FORMS:W.nsIn K Zh "ahead"=some (some (.ref xF_ahead)))
 (wT6_FORMS:W.nsIn K Zh "rest"=some (some (.ref xF_rest)))
 (wT7_FORMS:W.nsIn K Zh "store"=some (some (.ref xF_store)))
 (wT8_FORMS:W.nsIn K Zh "levels"=some (some (.ref xF_levels)))
 (wT9_FORMS:W.nsIn K Zh "found"=some (some (.ref xF_found)))
 (wT10_FORMS:W.nsIn K Zh "spent"=some (some (.ref xF_spent)))
 (wT11_FORMS:W.nsIn K Zh "again"=some (some (.ref xF_again)))
 {Z5q:Array DictEntry} {Z80:Nat} (Zo:K.lookup Z8=some ⟨.type "dict",none,.dict Z5q Z80,#[]⟩) (Zp:W.KeysLit w.params Z5q.toList) (Zq:(Z8==sysModules)=false)
 (wT0_ANSWERS:W.nsIn K Z8 "thing"=some (some (.ref xanswer_thing)))
 (wT1_ANSWERS:W.nsIn K Z8 "tower"=some (some (.ref xanswer_tower)))
 (wT2_ANSWERS:W.nsIn K Z8 "prompt"=some (some (.ref xanswer_prompt)))
 (wT3_ANSWERS:W.nsIn K Z8 "read"=some (some (.ref xanswer_read)))
 (wT4_ANSWERS:W.nsIn K Z8 "keep"=some (some (.ref xanswer_keep)))
 (wT5_ANSWERS:W.nsIn K Z8 "ahead"=some (some (.ref xanswer_ahead)))
 (wT6_ANSWERS:W.nsIn K Z8 "rest"=some (some (.ref xanswer_rest)))
 (wT7_ANSWERS:W.nsIn K Z8 "store"=some (some (.ref xanswer_store)))
 (wT8_ANSWERS:W.nsIn K Z8 "levels"=some (some (.ref xanswer_levels)))
 (wT9_ANSWERS:W.nsIn K Z8 "found"=some (some (.ref xanswer_found)))
 (wT10_ANSWERS:W.nsIn K Z8 "spent"=some (some (.ref xanswer_spent)))
 (wT11_ANSWERS:W.nsIn K Z8 "again"=some (some (.ref xanswer_again)))
 {tk0_F_thing tk1_F_thing tk2_F_thing:Tok} {dU_F_thing:Option Addr} {nU_F_thing:Nat} {sU_F_thing:Array (Option Value)} (lU_F_thing:K.lookup xF_thing=some ⟨.type "tuple",dU_F_thing,.seq #[.str "NAME" tk0_F_thing,.str "COST" tk1_F_thing,.str "ROOM" tk2_F_thing] nU_F_thing,sU_F_thing⟩)
 {tk0_F_tower tk1_F_tower:Tok} {dU_F_tower:Option Addr} {nU_F_tower:Nat} {sU_F_tower:Array (Option Value)} (lU_F_tower:K.lookup xF_tower=some ⟨.type "tuple",dU_F_tower,.seq #[.str "SIZE" tk0_F_tower,.str ".." tk1_F_tower] nU_F_tower,sU_F_tower⟩)
 {tk0_F_prompt tk1_F_prompt:Tok} {dU_F_prompt:Option Addr} {nU_F_prompt:Nat} {sU_F_prompt:Array (Option Value)} (lU_F_prompt:K.lookup xF_prompt=some ⟨.type "tuple",dU_F_prompt,.seq #[.str "SIZE" tk0_F_prompt,.str ".." tk1_F_prompt] nU_F_prompt,sU_F_prompt⟩)
 {tk0_F_read:Tok} {dU_F_read:Option Addr} {nU_F_read:Nat} {sU_F_read:Array (Option Value)} (lU_F_read:K.lookup xF_read=some ⟨.type "tuple",dU_F_read,.seq #[.str "NAME" tk0_F_read] nU_F_read,sU_F_read⟩)
 {tk0_F_keep tk1_F_keep:Tok} {dU_F_keep:Option Addr} {nU_F_keep:Nat} {sU_F_keep:Array (Option Value)} (lU_F_keep:K.lookup xF_keep=some ⟨.type "tuple",dU_F_keep,.seq #[.str "NAME" tk0_F_keep,.str "VALUE" tk1_F_keep] nU_F_keep,sU_F_keep⟩)
 {tk0_F_ahead:Tok} {dU_F_ahead:Option Addr} {nU_F_ahead:Nat} {sU_F_ahead:Array (Option Value)} (lU_F_ahead:K.lookup xF_ahead=some ⟨.type "tuple",dU_F_ahead,.seq #[.str "NAME" tk0_F_ahead] nU_F_ahead,sU_F_ahead⟩)
 {dU_F_rest:Option Addr} {nU_F_rest:Nat} {sU_F_rest:Array (Option Value)} (lU_F_rest:K.lookup xF_rest=some ⟨.type "tuple",dU_F_rest,.seq #[] nU_F_rest,sU_F_rest⟩)
 {tk0_F_store:Tok} {dU_F_store:Option Addr} {nU_F_store:Nat} {sU_F_store:Array (Option Value)} (lU_F_store:K.lookup xF_store=some ⟨.type "tuple",dU_F_store,.seq #[.str "NAME" tk0_F_store] nU_F_store,sU_F_store⟩)
 {dU_F_levels:Option Addr} {nU_F_levels:Nat} {sU_F_levels:Array (Option Value)} (lU_F_levels:K.lookup xF_levels=some ⟨.type "tuple",dU_F_levels,.seq #[] nU_F_levels,sU_F_levels⟩)
 {dU_F_found:Option Addr} {nU_F_found:Nat} {sU_F_found:Array (Option Value)} (lU_F_found:K.lookup xF_found=some ⟨.type "tuple",dU_F_found,.seq #[] nU_F_found,sU_F_found⟩)
 {dU_F_spent:Option Addr} {nU_F_spent:Nat} {sU_F_spent:Array (Option Value)} (lU_F_spent:K.lookup xF_spent=some ⟨.type "tuple",dU_F_spent,.seq #[] nU_F_spent,sU_F_spent⟩)
 {dU_F_again:Option Addr} {nU_F_again:Nat} {sU_F_again:Array (Option Value)} (lU_F_again:K.lookup xF_again=some ⟨.type "tuple",dU_F_again,.seq #[] nU_F_again,sU_F_again⟩)
 :∃fd:FuncData,(∀(s:Shared) (v:Value),BindsTo s fd ⟨[v],[]⟩ [("_law_script",v)])∧∀base:Heap,K.In base→base.Ns mainGlobals mg→Au l.prog w K mg base CX0 13 fa fd ["_law_script"] (Np K):=by
 have e:=hfa.symm.trans (W.mg_of X G a77);cases e
 have T:Txt K mg xF_thing xF_tower xF_prompt xF_read xF_keep xF_ahead xF_rest xF_store xF_levels xF_found xF_spent xF_again Z2 Z1 Z0 Z5 xanswer_thing xanswer_tower xanswer_prompt xanswer_read xanswer_keep xanswer_ahead xanswer_rest xanswer_store xanswer_levels xanswer_found xanswer_spent xanswer_again Zh Z8:=⟨W.mg_of X G Z7m,Z8e,Zk,W.mg_of X G Z7n,Z8f,Z0i,Zy,Zt,Zu,Z02,Z0r,Z0k,Z0j,Z0w,W.mg_of X G Z7d,Z8b,Z0c,Zr,Zl,Zn,Z03,Z0o,Z0e,Z0d,Z0s,W.mg_of X G Z87,Z8i,Z0f,Z2p,Z0g,W.mg_of X G Z6k,W.mg_of X G Z6l,W.mg_of X G Z5m,W.mg_of X G Z72,W.mg_of X G Z73,W.mg_of X G Z6m,W.mg_of X G Z74,W.mg_of X G Z6n,W.mg_of X G Z5n,W.mg_of X G Z6o,W.mg_of X G Z6p,W.mg_of X G Z6q,W.mg_of X G Z8g,W.mg_of X G Z88,W.mg_none_of X G Zf,W.mg_none_of X G Z0x,W.mg_none_of X G Z3r,W.mg_none_of X G Z76,W.mg_none_of X G Z0m,W.mg_none_of X G Z2u,W.mg_none_of X G Z7o,W.mg_none_of X G Z3i,W.mg_none_of X G Z55,W.mg_none_of X G Z1f,W.mg_none_of X G Z8d,W.mg_none_of X G Z7p,W.mg_none_of X G Z7q,W.mg_none_of X G Z5y,⟨_,W.mg_of X G Z3s⟩,⟨_,W.mg_of X G Z3t⟩,⟨_,W.mg_of X G Z3j⟩,⟨_,W.mg_of X G Z2v⟩,⟨_,W.mg_of X G Z3y⟩,⟨_,W.mg_of X G Z2w⟩,⟨_,W.mg_of X G Z26⟩,⟨_,W.mg_of X G Z27⟩⟩
 have F77:=Pj (st:=Z3f) l77 c77 k77;refine ⟨W.fnOf "law" "law" (Dl Z3f) (D6 Z3f) (A7 Z3f) .none kV77 dc77 pm77 an77 cd77 ct77,fun s v=> .of_eq rfl,fun base _ _=>?_⟩
 have B:Bs l.prog w K mg base:=⟨h,X,G⟩
 have Z0y:=F0.d B (Z7r T);have Z0z:=F1.d B (Z7s T Z0y);have Z3g:=F2.d B (Z7g T);have Zd:=F3.d B (Z77 T Z3g);have Z1g:=F4.d B (Z61 T Z0z Zd);have Z0h:=F5.i B Z7m (Z6w T Z1g);have Zi:=F6.m B (Z62 T);have Z10:=F7.d B (Z56 T Zd);have Zb:=F8.m B (Z4o T);have Z7:=F9.m B (Z4l T Zb);have Ze:=F10.m B (Z4w T Zb);have Zv:=F11.m B (Z4x T Zb);have Z04:=F12.d B (Z63 T Z10);have Z05:=F13.d B (Z64 T Zv);have Z06:=F14.m B (Z65 T);have Z11:=F15.m B (Z57 T);have Z0p:=F16.m B (Z4p T Z06);have Zm:=F17.m B (Z6x T Z0p);have Zz:=F18.m B (Z58 T);have Zc:=F19.m B (Z4q T Z7 Zz);have Z00:=F20.m B (Z59 T Z7);have Z07:=F21.m B (Z66 T Ze Z00);have Z22:=F22.m B (Z6y T Zm Zc Z07);have Z23:=F23.m B (Z6z T Zd Z11 Zm Zc);have Z1h:=F24.m B (Z67 T Zm Zc Z07);have Z24:=F25.m B (Z70 T Z06);have Z1i:=F26.m B (Z68 T);have Z1j:=F27.m B (Z69 T);have Z25:=F28.i B Z7n (Z71 T Zi Z04 Z05);have Zg:=F29.m B (Z5a T);have Z0t:=F30.m B (Z4y T Zg)
 have Z0n:=F31.m B (Z4m T Zg);have Zj:=F32.m B (Z6a T Z0n);have Zw:=F33.m B (Z4z T);have Z9:=F34.m B (Z4n T Z7 Zw);have Zx:=F35.m B (Z50 T Z7);have Z01:=F36.m B (Z5b T Ze Zx);have Z1k:=F37.m B (Z6b T Zj Z9 Z01);have Z1l:=F38.m B (Z6c T Zd Z0t Zj Z9);have Z12:=F39.m B (Z5c T Zj Z9 Z01);have Z13:=F40.m B (Z5d T);have Z14:=F41.m B (Z5e T);have Z1m:=F42.i B Z7d (Z6d T Zi Z04 Z05);have Z1n:=F43.m B (Z6e T Zg);have Z1o:=F44.d B (Z6f T Z0y);have Z2q:=F45.d B (Z78 T Z0z);have Z2r:=F46.d B (Z79 T Z1o Z2q);have Z3h:=F47.d B (Z7h T)
 have Z6g:∀b,U3 w.params K Zh b:=fun b=>match b with | .thing=>D7 Z0a Z08 Z09 wT0_FORMS lU_F_thing (.cons ⟨_,rfl⟩ (.cons ⟨_,rfl⟩ (.cons ⟨_,rfl⟩ .nil))) | .tower=>D7 Z0a Z08 Z09 wT1_FORMS lU_F_tower (.cons ⟨_,rfl⟩ (.cons ⟨_,rfl⟩ .nil)) | .prompt=>D7 Z0a Z08 Z09 wT2_FORMS lU_F_prompt (.cons ⟨_,rfl⟩ (.cons ⟨_,rfl⟩ .nil)) | .read=>D7 Z0a Z08 Z09 wT3_FORMS lU_F_read (.cons ⟨_,rfl⟩ .nil) | .keep=>D7 Z0a Z08 Z09 wT4_FORMS lU_F_keep (.cons ⟨_,rfl⟩ (.cons ⟨_,rfl⟩ .nil)) | .ahead=>D7 Z0a Z08 Z09 wT5_FORMS lU_F_ahead (.cons ⟨_,rfl⟩ .nil) | .rest=>D7 Z0a Z08 Z09 wT6_FORMS lU_F_rest .nil | .store=>D7 Z0a Z08 Z09 wT7_FORMS lU_F_store (.cons ⟨_,rfl⟩ .nil) | .levels=>D7 Z0a Z08 Z09 wT8_FORMS lU_F_levels .nil | .found=>D7 Z0a Z08 Z09 wT9_FORMS lU_F_found .nil | .spent=>D7 Z0a Z08 Z09 wT10_FORMS lU_F_spent .nil | .again=>D7 Z0a Z08 Z09 wT11_FORMS lU_F_again .nil
 have Z2s:=F48.d B (fun F_=>Z7a T Z2r Z3h F_ Z6g);have Z2t:=F49.i B Z87 (Z7b T Z0h);have Z6:=F50.d B (Z7i T);have Z15:=F51.d B (Z5f T Z0h Zi Ze Zv);have Z16:=F52.d B (Z5g T);have Z17:=F53.d B (Z5h T Z25);have Z0u:=F54.d B (Z51 T Z1m);have Z1p:=F55.d B (Z6h T Z22 Z1k Z6);have Z1q:=F56.d B (Z6i T Z23 Z1l Z6);have Z18:=F57.d B (Z5i T Z1h Z12 Z6);have Z1r:=F58.d B (Z6j T Z24 Z1n Z6);have Z19:=F59.d B (Z5j T Z00 Zx Z6);have Z0v:=F60.d B (Z52 T Zz Zw Z6);have Z1a:=F61.d B (Z5k T Z1i Z13 Z6);have Z1b:=F62.d B (Z5l T Z1j Z14 Z6)
 have Z7t:∀b,Su w.params K Z8 (wd b) (some (.ref ((fun w:W85=>match w with | .thing=>xanswer_thing | .tower=>xanswer_tower | .prompt=>xanswer_prompt | .read=>xanswer_read | .keep=>xanswer_keep | .ahead=>xanswer_ahead | .rest=>xanswer_rest | .store=>xanswer_store | .levels=>xanswer_levels | .found=>xanswer_found | .spent=>xanswer_spent | .again=>xanswer_again) b))):=fun b=>match b with | .thing=>Cw Zq Zo Zp wT0_ANSWERS ⟨_,rfl,rfl⟩ | .tower=>Cw Zq Zo Zp wT1_ANSWERS ⟨_,rfl,rfl⟩ | .prompt=>Cw Zq Zo Zp wT2_ANSWERS ⟨_,rfl,rfl⟩ | .read=>Cw Zq Zo Zp wT3_ANSWERS ⟨_,rfl,rfl⟩ | .keep=>Cw Zq Zo Zp wT4_ANSWERS ⟨_,rfl,rfl⟩ | .ahead=>Cw Zq Zo Zp wT5_ANSWERS ⟨_,rfl,rfl⟩ | .rest=>Cw Zq Zo Zp wT6_ANSWERS ⟨_,rfl,rfl⟩ | .store=>Cw Zq Zo Zp wT7_ANSWERS ⟨_,rfl,rfl⟩ | .levels=>Cw Zq Zo Zp wT8_ANSWERS ⟨_,rfl,rfl⟩ | .found=>Cw Zq Zo Zp wT9_ANSWERS ⟨_,rfl,rfl⟩ | .spent=>Cw Zq Zo Zp wT10_ANSWERS ⟨_,rfl,rfl⟩ | .again=>Cw Zq Zo Zp wT11_ANSWERS ⟨_,rfl,rfl⟩
 have Z0l:=F63.m B (fun F_=>Z7j T Z2s Z15 Z16 Z17 Z0u Z1p Z1q Z18 Z1r Z19 Z0v Z1a Z1b F_ Z7t);have Z0b:=F64.d B (Z7c T);have Z2o:=F65.d B (Z89 T);have Z3u:=F66.d B (Z7u T);have Z3q:=F67.d B (Z82 T Z2o);have Z45:=F68.d B (Z8a T);have Z4b:=F69.d B (Z83 T);have Z3v:=F70.d B (Z7v T);have Z3w:=F71.d B (Z7w T);have Z4c:=F72.d B (Z84 T);have Z0q:=F73.d B (Z7k T);have Z3x:=F74.d B (Z7x T Z4b Z3v Z3w);have Z4d:=F75.d B (Z85 T Z4c Z0q);have Z4e:=F76.d B (Z86 T);exact Z8h T Z2t Z0l Z0b Z2o Z3u Z3q Z45 Z0q Z3x Z4d Z4e F77
end K85
open PySem PySem.W PyProof.Rows
set_option maxRecDepth 100000 in
set_option maxHeartbeats 0 in
theorem PySem.Challenge.cw_castoff_k85_tower_lines_holds : PySem.Challenge.rw_castoff_k85_tower_lines.Holds := by
 refine hd85 ?_
 k_fill
 refine L2.Y7 (l:=PySem.Challenge.rw_castoff_k85_tower_lines) (n:=63) (k:=13) (x:="_law_script") (CX:=L2.CX0) (sp:=N1.Np) rfl (by decide) rfl ⟨rfl,by decide,by decide⟩ (fun w h Y=>Hk.inT_of Y) ?F ?S ?C
 case F=>
  intro w mg fa h KX G hmg;refine' K85.J5r KX G hmg ..
  any_goals first | k_is | (refine' ⟨_,_,?j,L2.Pj ?l ?c ?k⟩;(case j=>k_is);case l|c|k=>k_is) | (refine' ⟨_,_,⟨?j,?m,?n⟩,L2.Pj ?l ?c ?k⟩;(case j|m|n=>k_is);case l|c|k=>k_is) | (refine' ⟨_,_,⟨?i,?j,?m,?n⟩,L2.Pj ?l ?c ?k⟩;(case i|j|m|n=>k_is);case l|c|k=>k_is) | (refine' ⟨?i,?j,?m,?n⟩;case i|j|m|n=>k_is) | rfl | kernel_rfl | exact ⟨⟨_,_,rfl,rfl⟩,⟨_,_,rfl,rfl⟩,⟨_,_,rfl,rfl⟩,⟨_,_,rfl,rfl⟩,⟨_,_,rfl,rfl⟩,⟨_,_,rfl,rfl⟩,⟨_,_,rfl,rfl⟩,⟨_,_,rfl,rfl⟩,⟨_,_,rfl,rfl⟩,⟨_,_,rfl,rfl⟩,⟨_,_,rfl,rfl⟩,⟨_,_,rfl,rfl⟩,⟨_,_,rfl,rfl⟩,⟨_,_,rfl,rfl⟩,⟨_,_,rfl,rfl⟩,⟨_,_,rfl,rfl⟩,⟨_,_,rfl,rfl⟩,⟨_,_,rfl,rfl⟩,⟨_,_,rfl,rfl⟩,⟨_,_,rfl,rfl⟩,⟨_,_,rfl,rfl⟩,trivial⟩ | fail
 case S=>exact fun K H a ns hl hO hS=>⟨a,ns,rfl,hS,hl,fun _=>rfl⟩
 case C=>exact fun H s e s' z=>z
