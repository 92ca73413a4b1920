import PyProof.Rows.All
import KE.KSuperObj
import KE.KPairComp
import KE.KLam
import KE.KNestM
import KE.KItemsList
import KE.KUnpack
import KE.KEqDict
import KE.KFromBytes
import KE.KMinKey
import KE.KIntText
import KE.KRevIter
import KE.KDictOf
import KE.KTryMore
import KE.KBoundM
import KE.KNestM
import KE.KLam
import PySem.Challenge.RW_castoff_k67_what_is_refused_here
set_option linter.all false
set_option Elab.async false
set_option maxRecDepth 100000
set_option maxHeartbeats 4000000
namespace PySem.W.Fast
theorem tw11594106059312500019:True:=⟨⟩
theorem tw8719315199704736292:True:=⟨⟩
theorem tw9256902447687527734:True:=⟨⟩
theorem tw8622164034221322200:True:=⟨⟩
theorem tw17095143303677252959:True:=⟨⟩
theorem tw9528406045618022284:True:=⟨⟩
theorem tw8536370234570067524:True:=⟨⟩
theorem tw5879086077750804139:True:=⟨⟩
theorem tw17022631549122729551:True:=⟨⟩
theorem tw14360582139343426130:True:=⟨⟩
theorem tw3512175870037013256:True:=⟨⟩
theorem tw2973813462134855256:True:=⟨⟩
theorem tw14823606525164096507:True:=⟨⟩
theorem tw6757289415762994382:True:=⟨⟩
theorem tw3659599566340901735:True:=⟨⟩
theorem tw9176055032041166243:True:=⟨⟩
theorem tw18102670196046606120:True:=⟨⟩
theorem tw12626576182121193841:True:=⟨⟩
theorem tw11450305982547177335:True:=⟨⟩
theorem tw6723447039403774671:True:=⟨⟩
theorem tw6448243067414595273:True:=⟨⟩
theorem tw2202077021939990228:True:=⟨⟩
theorem tw5393807873144094598:True:=⟨⟩
theorem tw17535793827281923235:True:=⟨⟩
theorem tw15669776096399267897:True:=⟨⟩
theorem tw15703097878733608045:True:=⟨⟩
theorem tw4311506757318771293:True:=⟨⟩
theorem tw8869418957625690039:True:=⟨⟩
theorem tw15517113153328456688:True:=⟨⟩
theorem tw6998377641100414098:True:=⟨⟩
theorem tw195623029218258636:True:=⟨⟩
theorem tw2416765512510782224:True:=⟨⟩
theorem tw13945098306724964819:True:=⟨⟩
theorem tw11133147419256163316:True:=⟨⟩
theorem tw3890590260751403278:True:=⟨⟩
theorem tw16347104394125342241:True:=⟨⟩
theorem tw12309028296673016960:True:=⟨⟩
theorem tw17864274816572892266:True:=⟨⟩
theorem tw10958579209241259139:True:=⟨⟩
theorem tw10782662708955119452:True:=⟨⟩
theorem tw2895448915674113828:True:=⟨⟩
theorem tw1881358797863741441:True:=⟨⟩
theorem tw18057255289457720986:True:=⟨⟩
theorem tw5182070999068475902:True:=⟨⟩
theorem tw6370713728551219661:True:=⟨⟩
theorem tw10956052818915687285:True:=⟨⟩
theorem tw16256848519413704353:True:=⟨⟩
theorem tw14221897707985782305:True:=⟨⟩
theorem tw987106037174313821:True:=⟨⟩
theorem tw10015107389531118686:True:=⟨⟩
theorem tw7588151506568425276:True:=⟨⟩
theorem tw7906597094657721788:True:=⟨⟩
theorem tw12207948477776235462:True:=⟨⟩
theorem tw12716272354077689934:True:=⟨⟩
theorem tw10320279357026673869:True:=⟨⟩
theorem tw11637889902171286322:True:=⟨⟩
theorem tw7363068619812583577:True:=⟨⟩
theorem tw8231743569891726842:True:=⟨⟩
theorem tw14870698603359688942:True:=⟨⟩
theorem tw11575852246446522547:True:=⟨⟩
theorem tw18084570852491753237:True:=⟨⟩
theorem tw187456378317485576:True:=⟨⟩
theorem tw5722973761442187405:True:=⟨⟩
theorem tw5923993979256585668:True:=⟨⟩
theorem tw17611757996023255145:True:=⟨⟩
theorem tw12711849330085681069:True:=⟨⟩
theorem tw5852575461442547974:True:=⟨⟩
theorem tw12562749217301147080:True:=⟨⟩
theorem tw16262299861114398886:True:=⟨⟩
theorem tw6068307385351266825:True:=⟨⟩
theorem tw531874178282866472:True:=⟨⟩
theorem tw8452002602371829141:True:=⟨⟩
theorem tw15198317397899367009:True:=⟨⟩
theorem tw12077923333979344470:True:=⟨⟩
theorem tw14149913244014418204:True:=⟨⟩
theorem tw14646128098364332602:True:=⟨⟩
theorem tw16981165121871951064:True:=⟨⟩
theorem tw17719215975766572705:True:=⟨⟩
theorem tw9064015390910125450:True:=⟨⟩
theorem tw13896271023739378560:True:=⟨⟩
theorem tw11868103565438074621:True:=⟨⟩
theorem tw2669058977586108128:True:=⟨⟩
theorem tw1378088538984897760:True:=⟨⟩
theorem tw15232542806754837080:True:=⟨⟩
theorem tw2023767554697942478:True:=⟨⟩
theorem tw7060554487246894404:True:=⟨⟩
theorem tw17781516975611941285:True:=⟨⟩
theorem tw16240089848745667225:True:=⟨⟩
theorem tw13845925339352126656:True:=⟨⟩
theorem tw9299153032930735535:True:=⟨⟩
theorem tw17553137140835753895:True:=⟨⟩
theorem tw5558504430090580399:True:=⟨⟩
theorem tw13119149059554572012:True:=⟨⟩
theorem tw13409362293459288306:True:=⟨⟩
theorem tw2761252670859231820:True:=⟨⟩
theorem tw8929772258509096754:True:=⟨⟩
theorem tw16064877993618825324:True:=⟨⟩
theorem tw14043382332706279105:True:=⟨⟩
theorem tw18376093001801400806:True:=⟨⟩
theorem tw765005035291957429:True:=⟨⟩
theorem tw8618843902534843200:True:=⟨⟩
theorem tw8661640649764238563:True:=⟨⟩
theorem tw10823668455251195500:True:=⟨⟩
theorem tw8417075042545997168:True:=⟨⟩
theorem tw17910777751548304889:True:=⟨⟩
theorem tw7880156822376925280:True:=⟨⟩
theorem tw13389072289690409415:True:=⟨⟩
theorem tw18019743807351509637:True:=⟨⟩
theorem tw14505321832729786136:True:=⟨⟩
theorem tw17326210658256212783:True:=⟨⟩
theorem tw18266165282355238504:True:=⟨⟩
theorem tw15637887902427234414:True:=⟨⟩
theorem tw9141977102980895055:True:=⟨⟩
theorem tw11348016748988118615:True:=⟨⟩
theorem tw757446157528959746:True:=⟨⟩
theorem tw16210867944065422143:True:=⟨⟩
theorem tw11976779482583301403:True:=⟨⟩
theorem tw4255168692193856679:True:=⟨⟩
theorem tw12492007558525237823:True:=⟨⟩
theorem tw1744098252944226225:True:=⟨⟩
theorem tw11819704552358731907:True:=⟨⟩
theorem tw11257004725774201018:True:=⟨⟩
theorem tw2925604772489136188:True:=⟨⟩
theorem tw4828246534634447244:True:=⟨⟩
theorem tw5465755496724139850:True:=⟨⟩
theorem tw2214135454738933692:True:=⟨⟩
theorem tw1855010229153969063:True:=⟨⟩
theorem tw15913302526357514675:True:=⟨⟩
theorem tw11359481313151078428:True:=⟨⟩
theorem tw16993683151978448119:True:=⟨⟩
theorem tw12777912574183885089:True:=⟨⟩
theorem tw14373174735118319282:True:=⟨⟩
theorem tw7073329762129596096:True:=⟨⟩
theorem tw1888910095178578823:True:=⟨⟩
theorem tw648857765266380657:True:=⟨⟩
theorem tw17495545212046296385:True:=⟨⟩
theorem tw15074362340867058697:True:=⟨⟩
theorem tw2016961586151884683:True:=⟨⟩
theorem tw16377277832671025996:True:=⟨⟩
theorem tw1596496934409835604:True:=⟨⟩
theorem tw16365952049143595292:True:=⟨⟩
theorem tw11530753942904903481:True:=⟨⟩
theorem tw5418899267874462470:True:=⟨⟩
theorem tw5497905811650256635:True:=⟨⟩
theorem tw11490386117005142516:True:=⟨⟩
theorem tw11285795764526945345:True:=⟨⟩
theorem tw7152935708265580973:True:=⟨⟩
theorem tw15963993026671603924:True:=⟨⟩
theorem tw10039630716940351810:True:=⟨⟩
theorem tw15666239367873888474:True:=⟨⟩
theorem tw2056824062360479857:True:=⟨⟩
theorem tw11261498063092240289:True:=⟨⟩
theorem tw1983444124798054341:True:=⟨⟩
theorem tw7263397060530039074:True:=⟨⟩
theorem tw14681425448222264631:True:=⟨⟩
theorem tw318851831033704452:True:=⟨⟩
theorem tw15948843503728009448:True:=⟨⟩
theorem tw2724970243414653634:True:=⟨⟩
theorem tw3507572142052691117:True:=⟨⟩
theorem tw16252187689466157302:True:=⟨⟩
theorem tw7487800552225313327:True:=⟨⟩
theorem tw403334265329671506:True:=⟨⟩
theorem tw14062137902487940837:True:=⟨⟩
theorem tw12221946245361924108:True:=⟨⟩
theorem tw7204251825454123514:True:=⟨⟩
theorem tw8122657503607507664:True:=⟨⟩
theorem tw17268842175694048567:True:=⟨⟩
theorem tw17466196966865678333:True:=⟨⟩
theorem tw11606744797991902611:True:=⟨⟩
theorem tw8604469601998105842:True:=⟨⟩
theorem tw17750428854891326144:True:=⟨⟩
theorem tw8098744656743798136:True:=⟨⟩
theorem tw11807892200043020669:True:=⟨⟩
theorem tw7808784889372776951:True:=⟨⟩
theorem tw9285441538977293160:True:=⟨⟩
theorem tw13490768016302347752:True:=⟨⟩
theorem tw15360082285045158389:True:=⟨⟩
theorem tw14953306348170330771:True:=⟨⟩
theorem tw16855653737387837114:True:=⟨⟩
theorem tw3932280588163472616:True:=⟨⟩
theorem tw15214406819419498782:True:=⟨⟩
theorem tw15892316499110506350:True:=⟨⟩
theorem tw5900292565387999541:True:=⟨⟩
theorem tw2479968170804474641:True:=⟨⟩
theorem tw9037250563447445793:True:=⟨⟩
theorem tw2640662348565623077:True:=⟨⟩
theorem tw8366531188140527742:True:=⟨⟩
theorem tw15390868216318533405:True:=⟨⟩
theorem tw12502609609688835057:True:=⟨⟩
theorem tw10817914437125105510:True:=⟨⟩
theorem tw11948957710256040825:True:=⟨⟩
theorem tw2207769927538922732:True:=⟨⟩
theorem tw11134556512598968593:True:=⟨⟩
theorem tw766748769768426113:True:=⟨⟩
theorem tw5291075377195014102:True:=⟨⟩
theorem tw3185403530368653678:True:=⟨⟩
theorem tw6149808241439958058:True:=⟨⟩
theorem tw15242369594861689768:True:=⟨⟩
theorem tw11425545615806822668:True:=⟨⟩
theorem tw7122036357782245929:True:=⟨⟩
theorem tw1681159348837571636:True:=⟨⟩
theorem tw16229620297645523504:True:=⟨⟩
theorem tw9357565354331076716:True:=⟨⟩
theorem tw16590082438217108340:True:=⟨⟩
theorem tw14526312901342894252:True:=⟨⟩
theorem tw3665551732593420970:True:=⟨⟩
theorem tw4437645081025760294:True:=⟨⟩
theorem tw1911875539926516979:True:=⟨⟩
theorem tw9257204130204377611:True:=⟨⟩
theorem tw9146444789622173933:True:=⟨⟩
theorem tw11258588167353735807:True:=⟨⟩
theorem tw17958601622284152600:True:=⟨⟩
theorem tw3218291646820919663:True:=⟨⟩
theorem tw383057870314458511:True:=⟨⟩
theorem tw12432424282001201210:True:=⟨⟩
theorem tw1209358382336677575:True:=⟨⟩
theorem tw7267410474189844417:True:=⟨⟩
theorem tw4025352767342476195:True:=⟨⟩
theorem tw6148355726917873727:True:=⟨⟩
theorem tw8773673585950784703:True:=⟨⟩
theorem tw13597439939450898001:True:=⟨⟩
theorem tw2346246756396052051:True:=⟨⟩
theorem tw7347280179601436839:True:=⟨⟩
theorem tw1542349479592917915:True:=⟨⟩
theorem tw18076225045620372275:True:=⟨⟩
theorem tw7759855521387111156:True:=⟨⟩
theorem tw9802180040510043662:True:=⟨⟩
theorem tw10847887382057894816:True:=⟨⟩
theorem tw14946572418995164547:True:=⟨⟩
theorem tw14629756050484952373:True:=⟨⟩
theorem tw672607897603084451:True:=⟨⟩
theorem tw3939803164244748355:True:=⟨⟩
theorem tw5234892385276322319:True:=⟨⟩
theorem tw18443391386252965818:True:=⟨⟩
theorem tw15885204546783308684:True:=⟨⟩
theorem tw8039512979087130822:True:=⟨⟩
theorem tw14904050843392001826:True:=⟨⟩
theorem tw10139840097653604219:True:=⟨⟩
theorem tw1007024153340199885:True:=⟨⟩
theorem tw16173513918032136973:True:=⟨⟩
theorem tw8003854619612324059:True:=⟨⟩
theorem tw1561500846430054541:True:=⟨⟩
theorem tw15757337760215429973:True:=⟨⟩
theorem tw4803415226772371126:True:=⟨⟩
theorem tw17160784166440596272:True:=⟨⟩
theorem tw1768145035816030058:True:=⟨⟩
theorem tw6243174914969149632:True:=⟨⟩
theorem tw15941676866369648172:True:=⟨⟩
theorem tw9908783797958650191:True:=⟨⟩
theorem tw5747121456435589502:True:=⟨⟩
theorem tw4223770474476379950:True:=⟨⟩
theorem tw11637936622339231532:True:=⟨⟩
theorem tw6641358696720808067:True:=⟨⟩
theorem tw3888145407660696631:True:=⟨⟩
theorem tw9000679808036685037:True:=⟨⟩
theorem tw14683740792304439704:True:=⟨⟩
theorem tw8908362001254304815:True:=⟨⟩
theorem tw10993142019748380709:True:=⟨⟩
theorem tw8207319802469939662:True:=⟨⟩
theorem tw5092450937001167567:True:=⟨⟩
theorem tw4575367174274539697:True:=⟨⟩
theorem tw5654908210377823590:True:=⟨⟩
theorem tw6441844537641644471:True:=⟨⟩
theorem tw5296347726739644095:True:=⟨⟩
theorem tw12669492585432785022:True:=⟨⟩
theorem tw12165247821318322728:True:=⟨⟩
theorem tw17601475619009678669:True:=⟨⟩
theorem tw4373126017052404687:True:=⟨⟩
theorem tw10215240994637854389:True:=⟨⟩
theorem tw5203556081079658938:True:=⟨⟩
theorem tw7782819118512988622:True:=⟨⟩
theorem tw7008360585928809960:True:=⟨⟩
theorem tw11968607377577391497:True:=⟨⟩
theorem tw14408311286054368474:True:=⟨⟩
theorem tw8944881454130547636:True:=⟨⟩
theorem tw4750772753292116865:True:=⟨⟩
theorem tw771430524601566633:True:=⟨⟩
theorem tw15164236148582524676:True:=⟨⟩
theorem tw14458585224926503503:True:=⟨⟩
theorem tw11141471399140999085:True:=⟨⟩
theorem tw10740417389937675383:True:=⟨⟩
theorem tw12793482224256494539:True:=⟨⟩
theorem tw17875329204586917358:True:=⟨⟩
theorem tw6040950521912524688:True:=⟨⟩
theorem tw1723750965600520402:True:=⟨⟩
theorem tw15486887432706124073:True:=⟨⟩
theorem tw1905995162006261090:True:=⟨⟩
theorem tw3731509803945551961:True:=⟨⟩
theorem tw16791803924098021900:True:=⟨⟩
theorem tw6059076052992113057:True:=⟨⟩
theorem tw9301775023923295948:True:=⟨⟩
theorem tw3077315170809729292:True:=⟨⟩
theorem tw12362004711474302961:True:=⟨⟩
theorem tw14681522671893676980:True:=⟨⟩
theorem tw8443565722396150957:True:=⟨⟩
theorem tw186438850192647530:True:=⟨⟩
theorem tw1681999562556072000:True:=⟨⟩
theorem tw4718892101424664943:True:=⟨⟩
theorem tw3849821733509241876:True:=⟨⟩
theorem tw6436025453624071630:True:=⟨⟩
theorem tw12373628152549357672:True:=⟨⟩
theorem tw11407188800858710594:True:=⟨⟩
theorem tw15805944527034461524:True:=⟨⟩
theorem tw14421772450283386585:True:=⟨⟩
theorem tw10008788654519590293:True:=⟨⟩
theorem tw12888663731564301408:True:=⟨⟩
theorem tw10041974675302107686:True:=⟨⟩
theorem tw13399938176530314910:True:=⟨⟩
theorem tw514625968090738615:True:=⟨⟩
theorem tw10435583299502877652:True:=⟨⟩
theorem tw3654778868445616162:True:=⟨⟩
theorem tw13297891842223856147:True:=⟨⟩
theorem tw7110193549665724629:True:=⟨⟩
theorem tw12879105033521571111:True:=⟨⟩
theorem tw12790019832189668903:True:=⟨⟩
theorem tw8150409952879043324:True:=⟨⟩
theorem tw9888263597345582578:True:=⟨⟩
theorem tw3350568226518648889:True:=⟨⟩
theorem tw16499266925189409904:True:=⟨⟩
theorem tw15723359234089983397:True:=⟨⟩
theorem tw473743028186860985:True:=⟨⟩
theorem tw7212579733523665955:True:=⟨⟩
theorem tw3916539985988763501:True:=⟨⟩
theorem tw8699229124984365655:True:=⟨⟩
theorem tw7978468216149075313:True:=⟨⟩
theorem tw4910704824992185013:True:=⟨⟩
theorem tw11232832125232293645:True:=⟨⟩
theorem tw15976754727083759573:True:=⟨⟩
theorem tw1364021789278813882:True:=⟨⟩
theorem tw6150715974266918642:True:=⟨⟩
theorem tw6899195822546705263:True:=⟨⟩
theorem tw16489903727317218378:True:=⟨⟩
theorem tw5012794490936778784:True:=⟨⟩
theorem tw2019489505266794134:True:=⟨⟩
theorem tw4623427118163358903:True:=⟨⟩
theorem tw17829284866122220829:True:=⟨⟩
theorem tw9286784174112674142:True:=⟨⟩
theorem tw5905959507273587402:True:=⟨⟩
theorem tw2712037868751430963:True:=⟨⟩
theorem tw962784378151913988:True:=⟨⟩
theorem tw13602856603012311428:True:=⟨⟩
theorem tw5622050759224977203:True:=⟨⟩
theorem tw17688971382570639383:True:=⟨⟩
theorem tw13131711353132360880:True:=⟨⟩
theorem tw1481031575114538921:True:=⟨⟩
theorem tw805572409315655843:True:=⟨⟩
theorem tw16035583362470813222:True:=⟨⟩
theorem tw13738769077168327845:True:=⟨⟩
theorem tw6950334353981005719:True:=⟨⟩
theorem tw4691173017066746020:True:=⟨⟩
theorem tw9227474250209462873:True:=⟨⟩
theorem tw14452103593895033973:True:=⟨⟩
theorem tw13102539164510076819:True:=⟨⟩
theorem tw7884748441445595313:True:=⟨⟩
theorem tw15252833335378325631:True:=⟨⟩
theorem tw7716128657972406925:True:=⟨⟩
theorem tw2434691641907859223:True:=⟨⟩
theorem tw1379288266317924697:True:=⟨⟩
theorem tw8467044893195839481:True:=⟨⟩
theorem tw8542635551857271793:True:=⟨⟩
theorem tw10036549538552091169:True:=⟨⟩
theorem tw11874740399892587614:True:=⟨⟩
theorem tw16673039009578460382:True:=⟨⟩
theorem tw7210851603856390608:True:=⟨⟩
theorem tw2218051370386492328:True:=⟨⟩
theorem tw3844242502655219682:True:=⟨⟩
theorem tw17348232359507582886:True:=⟨⟩
theorem tw3547592102791335520:True:=⟨⟩
theorem tw12687027558693228933:True:=⟨⟩
theorem tw12675707360801941333:True:=⟨⟩
theorem tw18049971938295393451:True:=⟨⟩
theorem tw135129567835561654:True:=⟨⟩
theorem tw7018975748299958571:True:=⟨⟩
theorem tw920788962419542023:True:=⟨⟩
theorem tw5414134452072256440:True:=⟨⟩
theorem tw6331134737084936831:True:=⟨⟩
theorem tw5956785136510192728:True:=⟨⟩
theorem tw18065840712815278625:True:=⟨⟩
theorem tw13508660971085239437:True:=⟨⟩
theorem tw4304429983795781419:True:=⟨⟩
theorem tw18247120535078498580:True:=⟨⟩
theorem tw14430978110851279066:True:=⟨⟩
theorem tw3433892769452202197:True:=⟨⟩
theorem tw7713529037529592196:True:=⟨⟩
theorem tw3817135052003166761:True:=⟨⟩
theorem tw17855590104535134640:True:=⟨⟩
theorem tw17771451217984730016:True:=⟨⟩
theorem tw7040583888193995681:True:=⟨⟩
theorem tw6915644469132996633:True:=⟨⟩
theorem tw5223863483679216021:True:=⟨⟩
theorem tw4231817799041303760:True:=⟨⟩
theorem tw2756322853684470610:True:=⟨⟩
theorem tw1143335938819782022:True:=⟨⟩
theorem tw5052983857408591180:True:=⟨⟩
theorem tw10227368672807421321:True:=⟨⟩
theorem tw15009848624179640239:True:=⟨⟩
theorem tw5246920968499135394:True:=⟨⟩
theorem tw1671875602348180535:True:=⟨⟩
theorem tw1125924922195487721:True:=⟨⟩
theorem tw11139128228305612083:True:=⟨⟩
theorem tw18090115086258819579:True:=⟨⟩
theorem tw13201037588331213559:True:=⟨⟩
theorem tw10843428671731247885:True:=⟨⟩
theorem tw17459729315173472035:True:=⟨⟩
theorem tw11838693543360271400:True:=⟨⟩
theorem tw2971241714402651612:True:=⟨⟩
theorem tw553641613696872594:True:=⟨⟩
theorem tw433762378942057421:True:=⟨⟩
theorem tw12465458182167770022:True:=⟨⟩
theorem tw11882888557596939554:True:=⟨⟩
theorem tw129848537152469267:True:=⟨⟩
theorem tw4864017713666352264:True:=⟨⟩
theorem tw16826213691322081086:True:=⟨⟩
theorem tw7925636791739548859:True:=⟨⟩
theorem tw1973098584919767542:True:=⟨⟩
theorem tw17579215795261157400:True:=⟨⟩
theorem tw6246039776526703146:True:=⟨⟩
theorem tw17140250482084722498:True:=⟨⟩
theorem tw4787028619975592077:True:=⟨⟩
theorem tw2785175141604610433:True:=⟨⟩
theorem tw5651467638028861921:True:=⟨⟩
theorem tw12974655784375300001:True:=⟨⟩
theorem tw187565403210918312:True:=⟨⟩
theorem tw2998578046045749005:True:=⟨⟩
theorem tw14940726383289946051:True:=⟨⟩
theorem tw7795056384826660969:True:=⟨⟩
theorem tw15827524995633721662:True:=⟨⟩
theorem tw6751455902042625126:True:=⟨⟩
theorem tw10046527008107074233:True:=⟨⟩
theorem tw5243299909701006186:True:=⟨⟩
theorem tw13401750129265575946:True:=⟨⟩
theorem tw14745410469479545356:True:=⟨⟩
theorem tw3612792283915584234:True:=⟨⟩
theorem tw2406575339503990707:True:=⟨⟩
theorem tw7978143736672634433:True:=⟨⟩
theorem tw9977422431160549070:True:=⟨⟩
theorem tw17646030630920902013:True:=⟨⟩
theorem tw10445409719113239890:True:=⟨⟩
theorem tw7360689907051813568:True:=⟨⟩
theorem tw14544290522133440626:True:=⟨⟩
theorem tw8216359103196785775:True:=⟨⟩
theorem tw5247728465943730012:True:=⟨⟩
theorem tw2482989357843609049:True:=⟨⟩
theorem tw5739598590977253680:True:=⟨⟩
theorem tw708918005955097355:True:=⟨⟩
theorem tw9538713772117585743:True:=⟨⟩
theorem tw9718176755846995036:True:=⟨⟩
theorem tw14875582677061799438:True:=⟨⟩
theorem tw1360686181522644606:True:=⟨⟩
theorem tw11256348907680282506:True:=⟨⟩
theorem tw14703001921065622836:True:=⟨⟩
theorem tw5045848672773926384:True:=⟨⟩
theorem tw1045027975874298421:True:=⟨⟩
theorem tw8691812612416035681:True:=⟨⟩
theorem tw3209860732134735970:True:=⟨⟩
theorem tw14664202533857848329:True:=⟨⟩
theorem tw10874336251010727802:True:=⟨⟩
theorem tw578019287468451784:True:=⟨⟩
theorem tw12286411721365357719:True:=⟨⟩
theorem tw461083902989811984:True:=⟨⟩
theorem tw2726549667688375374:True:=⟨⟩
theorem tw1917036908769704127:True:=⟨⟩
theorem tw10227175850850813783:True:=⟨⟩
theorem tw4666141893979817601:True:=⟨⟩
theorem tw12275485542206782616:True:=⟨⟩
theorem tw905357879020848827:True:=⟨⟩
theorem tw417045957707370523:True:=⟨⟩
theorem tw2506178917640849148:True:=⟨⟩
theorem tw10755428007605103678:True:=⟨⟩
theorem tw551744192370339434:True:=⟨⟩
theorem tw12743737873712051748:True:=⟨⟩
theorem tw6667856910707840838:True:=⟨⟩
theorem tw9750279453489136418:True:=⟨⟩
theorem tw6973444674265485320:True:=⟨⟩
theorem tw16957705162812427630:True:=⟨⟩
theorem tw9217032961154214466:True:=⟨⟩
theorem tw16870392572133604887:True:=⟨⟩
theorem tw8158218524629978259:True:=⟨⟩
theorem tw10825691052898853872:True:=⟨⟩
theorem tw11119630842868772334:True:=⟨⟩
theorem tw4711646500131110870:True:=⟨⟩
theorem tw2445735883647463763:True:=⟨⟩
theorem tw772858720761850806:True:=⟨⟩
theorem tw842168323788342811:True:=⟨⟩
theorem tw3391219095344772857:True:=⟨⟩
theorem tw5043406215196395563:True:=⟨⟩
theorem tw5342873554274658431:True:=⟨⟩
theorem tw11484508912742027083:True:=⟨⟩
theorem tw10077497778250093796:True:=⟨⟩
theorem tw12535926756118012014:True:=⟨⟩
theorem tw14822473328455808095:True:=⟨⟩
theorem tw2087247355091001255:True:=⟨⟩
theorem tw6064873623348235227:True:=⟨⟩
theorem tw11633931380753543064:True:=⟨⟩
theorem tw13742537957853083883:True:=⟨⟩
theorem tw2592995114292919495:True:=⟨⟩
theorem tw15291818385166054796:True:=⟨⟩
theorem tw15637427283563327909:True:=⟨⟩
theorem tw17138319575323765314:True:=⟨⟩
theorem tw7880550453091868883:True:=⟨⟩
theorem tw12829138875894152718:True:=⟨⟩
theorem tw9281177815712230561:True:=⟨⟩
theorem tw12433371094059458513:True:=⟨⟩
theorem tw3844957779217702836:True:=⟨⟩
theorem tw9409257770251634838:True:=⟨⟩
theorem tw13144043202199304272:True:=⟨⟩
theorem tw2972018404062318709:True:=⟨⟩
theorem tw18276845248684460819:True:=⟨⟩
theorem tw14150559682916755443:True:=⟨⟩
theorem tw18010763879822894273:True:=⟨⟩
theorem tw3006532638026213532:True:=⟨⟩
theorem tw10835395270839650605:True:=⟨⟩
theorem tw11858087536987836394:True:=⟨⟩
theorem tw10758365121116444223:True:=⟨⟩
theorem tw11025463167683285751:True:=⟨⟩
theorem tw10551745996268038944:True:=⟨⟩
theorem tw14844494405179174632:True:=⟨⟩
theorem tw7239358105280637584:True:=⟨⟩
theorem tw10160530660433213529:True:=⟨⟩
theorem tw7707570544070338117:True:=⟨⟩
theorem tw2263525602655539776:True:=⟨⟩
theorem tw182910669035170236:True:=⟨⟩
end PySem.W.Fast
section
open PySem PySem.W PyProof.Rows
set_option maxHeartbeats 0
open_top hd67 for PySem.Challenge.rw_castoff_k67_what_is_refused_here
end
open PySem PySem.Spec PyProof.Rows
namespace L2
noncomputable abbrev Key:=Sum Int Str
noncomputable def keyIs:Key→Value→Bool
 | .inl k,v=>Value.isInt k v
 | .inr x,v=>Value.isStrOf x v
noncomputable def keyH(w:World):Key→Int
 | .inl k=>hashInt k
 | .inr x=>hashStr w x
theorem keyIs_shape:∀{k:Key} {v:Value},keyIs k v=true→(∃i t,k=Sum.inl i∧v=Value.int i t)∨(∃x t,k=Sum.inr x∧v=Value.str x t)
 | .inl i,v,h=>by
  obtain ⟨t,e⟩:=Value.isInt_shape (k:=i) (v:=v) h
  exact .inl ⟨i,t,rfl,e⟩
 | .inr x,v,h=>by
  obtain ⟨t,e⟩:=Value.isStrOf_shape (x:=x) (v:=v) h
  exact .inr ⟨x,t,rfl,e⟩
theorem keyIs_int(i:Int)(t:Tok):keyIs (.inl i) (.int i t)=true:=by simp [keyIs,Value.isInt]
theorem keyIs_str(x:Str)(t:Tok):keyIs (.inr x) (.str x t)=true:=by simp [keyIs,Value.isStrOf]
theorem key_ll(a b:Int):decide ((Sum.inl a:Key)=Sum.inl b)=(a==b):=by
 by_cases e:a=b
 · subst e;simp
 · have h:¬(Sum.inl a:Key)=Sum.inl b:=fun q=>e (Sum.inl.inj q)
   rw [decide_eq_false h]
   exact (beq_eq_false_iff_ne.mpr e).symm
theorem key_rr(a b:Str):decide ((Sum.inr a:Key)=Sum.inr b)=decide (a=b):=by
 by_cases e:a=b
 · subst e;simp
 · have h:¬(Sum.inr a:Key)=Sum.inr b:=fun q=>e (Sum.inr.inj q)
   rw [decide_eq_false h,decide_eq_false e]
theorem key_lr(a:Int)(b:Str):decide ((Sum.inl a:Key)=Sum.inr b)=false:=decide_eq_false (fun q=>nomatch q)
theorem key_rl(a:Str)(b:Int):decide ((Sum.inr a:Key)=Sum.inl b)=false:=decide_eq_false (fun q=>nomatch q)
noncomputable def mixKind(prog:Program)(w:World):PySem.KeyKind prog w Key where
 is:=keyIs
 hash:=keyH w
 inj:=fun v a b ha hb=>by
  rcases keyIs_shape ha with ⟨i,t,rfl,rfl⟩ | ⟨x,t,rfl,rfl⟩
  · rcases keyIs_shape hb with ⟨j,u,rfl,e⟩ | ⟨y,u,rfl,e⟩
    · injection e with e1 _;rw [e1]
    · exact nomatch e
  · rcases keyIs_shape hb with ⟨j,u,rfl,e⟩ | ⟨y,u,rfl,e⟩
    · exact nomatch e
    · injection e with e1 _;rw [e1]
 byValue:=fun k v h=>by
   rcases keyIs_shape h with ⟨i,t,rfl,rfl⟩ | ⟨x,t,rfl,rfl⟩ <;> rfl
 pyHash:=fun hv h=>by
  rcases keyIs_shape hv with ⟨i,t,rfl,rfl⟩ | ⟨x,t,rfl,rfl⟩
  · exact wpAny_pyHash_int h
  · exact wpAny_pyHash_str h
 eqBool:=fun hu hv h=>by
  rcases keyIs_shape hu with ⟨i,t,rfl,rfl⟩ | ⟨x,t,rfl,rfl⟩
  · rcases keyIs_shape hv with ⟨j,u,rfl,rfl⟩ | ⟨y,u,rfl,rfl⟩
    · rw [key_ll]at h;exact wpAny_eqBool_int h
    · rw [key_lr]at h;exact SeqAt.EqAt.int_str i t y u _ _ _ _ h
  · rcases keyIs_shape hv with ⟨j,u,rfl,rfl⟩ | ⟨y,u,rfl,rfl⟩
    · rw [key_rl]at h;exact SeqAt.EqAt.str_int x t j u _ _ _ _ h
    · rw [key_rr]at h;exact wpAny_eqBool_str h
 «strs»:=fun k x t v h=>by
  rcases keyIs_shape h with ⟨i,u,rfl,e⟩ | ⟨y,u,rfl,e⟩
  · exact nomatch e
  · injection e with e1 _
    subst e1
    cases v <;> rfl
theorem mixKind_int(prog:Program)(w:World)(i:Int)(t:Tok):(mixKind prog w).is (.inl i) (.int i t)=true:=keyIs_int i t
theorem mixKind_str(prog:Program)(w:World)(x:Str)(t:Tok):(mixKind prog w).is (.inr x) (.str x t)=true:=keyIs_str x t
end L2
namespace L2
inductive V where
 | non | bl (b:Bool) | int (i:Int) | str (x:Str) | byt (b:Array UInt8) | flt (b:UInt64) | ref (a:Addr) | ty (n:String)
 deriving DecidableEq
noncomputable def RelV:V→Value→Prop
 | .non,u=>u=Value.none
 | .bl b,u=>u=Value.bool b
 | .int i,u=>∃t,u=Value.int i t
 | .str x,u=>∃t,u=Value.str x t
 | .byt b,u=>∃t,u=Value.bytes b t
 | .flt b,u=>∃t,u=Value.float b t
 | .ref a,u=>u=Value.ref a
 | .ty n,u=>u=Value.type n
noncomputable abbrev Vals:List V→List Value→Prop:=Paired RelV
theorem Vals.length{xs:List V}{us:List Value}(r:Vals xs us):xs.length=us.length:=Paired.length r
theorem Vals.get:∀{xs:List V} {us:List Value} {i:Nat} {x:V},Vals xs us→xs[i]?=some x→∃u,us[i]?=some u∧RelV x u
 | _,_,_,_,.nil,e=>by simp at e
 | _,_,0,_,.cons r _,e=>by simp at e;subst e;exact ⟨_,rfl,r⟩
 | _,_,i+1,x,.cons _ t,e=>by
  obtain ⟨u,h1,h2⟩:=Vals.get (i:=i) (x:=x) t (by simpa using e)
  exact ⟨u,by simpa using h1,h2⟩
theorem Vals.set{x:V}{u:Value}(r:RelV x u):∀{xs:List V} {us:List Value} (i:Nat),Vals xs us→Vals (xs.set i x) (us.set i u)
 | _,_,_,.nil=> .nil
 | _,_,0,.cons _ t=> .cons r t
 | _,_,i+1,.cons q t=> .cons q (Vals.set r i t)
theorem Vals.append:∀{xs ys:List V} {us ws:List Value},Vals xs us→Vals ys ws→Vals (xs++ys) (us++ws)
 | _,_,_,_,.nil,s=>s
 | _,_,_,_,.cons r t,s=> .cons r (Vals.append t s)
theorem Vals.take:∀{xs:List V} {us:List Value} (n:Nat),Vals xs us→Vals (xs.take n) (us.take n)
 | _,_,0,_=> .nil
 | _,_,_+1,.nil=> .nil
 | _,_,n+1,.cons r t=> .cons r (Vals.take n t)
theorem Vals.drop:∀{xs:List V} {us:List Value} (n:Nat),Vals xs us→Vals (xs.drop n) (us.drop n)
 | _,_,0,r=>r
 | _,_,_+1,.nil=> .nil
 | _,_,n+1,.cons _ t=>Vals.drop n t
noncomputable def RelO:Option V→Option Value→Prop
 | some v,some u=>RelV v u
 | none,none=>True
 | _,_=>False
noncomputable def KV{κ:Type}:List (κ×V)→List (κ×Value)→Prop:=Paired fun (p:κ×V) (q:κ×Value)=>p.1=q.1∧RelV p.2 q.2
noncomputable def kV:Key→V
 | .inl i=> .int i
 | .inr x=> .str x
inductive HO where
 | lst (xs:List V)
 | tup (xs:List V)
 | dK (kvs:List (Key×V)) | dT (kvs:List (List Key×V))
 | set (S:Int→Bool) (n:Nat)
 | ins (C dx:Addr) (fs:List (Str×V))
 | own (x:Addr)
 | xd (fs:List (Str×V))
 | met (f x:Addr)
 | rng (lo hi:Int)
 | frz (o:Obj) (u:HO)
 | tbl (ps:Array Value)
 | ext (φ:Heap→Prop)
noncomputable abbrev Hp:=Addr→Option HO
noncomputable def upd(H:Hp)(a:Addr)(o:HO):Hp:=fun b=>if b=a then some o else H b
theorem upd_same{H:Hp}{a:Addr}{o:HO}:upd H a o a=some o:=by unfold upd;rw [if_pos rfl]
theorem upd_ne{H:Hp}{a b:Addr}{o:HO}(h:b≠a):upd H a o b=H b:=by unfold upd;rw [if_neg h]
theorem upd_upd{H:Hp}{a:Addr}{o u:HO}:upd (upd H a o) a u=upd H a u:=by
 funext b;unfold upd;split <;> rfl
theorem ne_of{H:Hp}{a b:Addr}{o u:HO}(h:H a=some o)(h':H b=some u)(d:o≠u):a≠b:=by
 intro e;subst e;rw [h]at h';exact d (Option.some.inj h')
theorem ne_of_none{H:Hp}{a b:Addr}{o:HO}(h:H a=some o)(h':H b=none):a≠b:=by
 intro e;subst e;rw [h]at h';cases h'
section
variable (P:Program) (w:World)
noncomputable def ObjOk(H:Hp)(h:Heap)(a:Addr):HO→Prop
 | .lst xs=>xs.length≤sizeLine∧∃(its:List Value) (n:Nat),Vals xs its∧h.get? a=some {cls:= .type "list",data:= .seq its.toArray n}
 | .tup xs=>xs.length≤sizeLine∧∃its:List Value,Vals xs its∧IsTup h a its.toArray
 | .dK kvs=>kvs.length≤sizeLine∧(a==sysModules)=false∧∃vs,KV kvs vs∧h.DictOf (mixKind P w) a vs
 | .dT kvs=>kvs.length≤sizeLine∧(a==sysModules)=false∧∃xs:List (List Key×Addr×Value),
  Paired (fun (p:List Key×V) (q:List Key×Addr×Value)=>p.1=q.1∧H q.2.1=some (.tup (p.1.map kV))∧RelV p.2 q.2.2) kvs xs∧
  ∃o es ep,h.get? a=some o∧o.ExactDict∧o.data= .dict es ep∧es.toList=xs.map (entryOfKey (tupleKind (mixKind P w)))∧(xs.map (·.1)).Nodup
 | .set S n=>h.SetOf (intKind P w) a S n
 | .ins C dx fs=>H dx=some (.own a)∧fs.length≤1000∧dx≠a∧h.get? a=some (PySem.W.instObj C dx)∧
  ∃mA,h.Ns1 dx mA∧(∀f,RelO (fs.lookup f) (mA f))∧PySem.Within mA (fs.map (·.1))
 | .own _=>∃o,h.get? a=some o
 | .xd fs=>∃mA,h.Ns1 a mA∧∀f,RelO (fs.lookup f) (mA f)
 | .rng lo hi=>∃t u v,h.get? a=some {cls:= .type "range",data:= .fields #[.int lo t,.int hi u,.int 1 v]}
 | .frz o u=>h.get? a=some o∧ObjOk H h a u
 | .tbl ps=>h.get? a=some {cls:= .none,data:= .fields ps}
 | .met f x=>h.get? a=some (PySem.W.methodObj (.ref f) (.ref x))
 | .ext φ=>φ h∧(∃o,h.get? a=some o)∧∀h1 h2:Heap,φ h1→(∀o,h1.get? a=some o→h2.get? a=some o)→φ h2
noncomputable def HOk(H:Hp)(h:Heap):Prop:=∀a o,H a=some o→ObjOk P w H h a o
end
section
variable {P:Program} {w:World} {H H':Hp} {h h':Heap} {a:Addr} {o:HO}
theorem ObjOk.lt(x:ObjOk P w H h a o):a < h.objs.size:=by
 cases o with
 | lst xs=>obtain ⟨_,_,_,_,e⟩:=x;exact Heap.lt_size e
 | tup xs=>obtain ⟨_,_,_,p⟩:=x;exact p.lt
 | dK kvs=>obtain ⟨_,_,_,_,o,_,_,e,_⟩:=x;exact Heap.lt_size e
 | dT kvs=>obtain ⟨_,_,_,_,o,_,_,e,_⟩:=x;exact Heap.lt_size e
 | set S n=>obtain ⟨o,_,_,_,e,_⟩:=x;exact Heap.lt_size e
 | ins C dx fs=>obtain ⟨_,_,_,e,_⟩:=x;exact Heap.lt_size e
 | own y=>obtain ⟨_,e⟩:=x;exact Heap.lt_size e
 | xd fs=>obtain ⟨_,⟨_,_,_,e,_⟩,_⟩:=x;exact Heap.lt_size e
 | rng lo hi=>obtain ⟨_,_,_,e⟩:=x;exact Heap.lt_size e
 | frz ob u=>obtain ⟨e,_⟩:=x;exact Heap.lt_size e
 | tbl ps=>exact Heap.lt_size (show h.get? a=some _ from x)
 | met f y=>exact Heap.lt_size (show h.get? a=some _ from x)
 | ext φ=>obtain ⟨_,⟨_,e⟩,_⟩:=x;exact Heap.lt_size e
theorem Paired.mapP{α β:Type}{F G:α→β→Prop}:∀{l₁:List α} {l₂:List β},Paired F l₁ l₂→(∀a b,F a b→G a b)→Paired G l₁ l₂
 | _,_,.nil,_=> .nil
 | _,_,.cons r t,f=> .cons (f _ _ r) (Paired.mapP t f)
theorem ObjOk.stay(x:ObjOk P w H h a o)(k:∀b u,(b=a∨H b=some (.own a))→h.get? b=some u→h'.get? b=some u)
 (ho:∀b,H b=some (.own a)→H' b=some (.own a)) (ht:∀b xs,H b=some (.tup xs)→H' b=some (.tup xs)):ObjOk P w H' h' a o:=by
 induction o with
 | lst xs=>obtain ⟨z,its,n,r,e⟩:=x;exact ⟨z,its,n,r,k _ _ (.inl rfl) e⟩
 | tup xs=>obtain ⟨z,its,r,ob,e,c⟩:=x;exact ⟨z,its,r,ob,k _ _ (.inl rfl) e,c⟩
 | dK kvs=>obtain ⟨z,y,vs,r,ob,es,ep,e,c⟩:=x;exact ⟨z,y,vs,r,ob,es,ep,k _ _ (.inl rfl) e,c⟩
 | dT kvs=>
  obtain ⟨z,y,xs,r,ob,es,ep,e,c⟩:=x
  exact ⟨z,y,xs,Paired.mapP r fun p q z=>⟨z.1,ht _ _ z.2.1,z.2.2⟩,ob,es,ep,k _ _ (.inl rfl) e,c⟩
 | set S n=>obtain ⟨ob,es,ep,t,e,c⟩:=x;exact ⟨ob,es,ep,t,k _ _ (.inl rfl) e,c⟩
 | ins C dx fs=>
  obtain ⟨d,z,ne,e,mA,⟨od,es,ep,e2,c⟩,r⟩:=x
  exact ⟨ho _ d,z,ne,k _ _ (.inl rfl) e,mA,⟨od,es,ep,k _ _ (.inr d) e2,c⟩,r⟩
 | own y=>obtain ⟨ob,e⟩:=x;exact ⟨ob,k _ _ (.inl rfl) e⟩
 | xd fs=>obtain ⟨mA,⟨od,es,ep,e,c⟩,r⟩:=x;exact ⟨mA,⟨od,es,ep,k _ _ (.inl rfl) e,c⟩,r⟩
 | rng lo hi=>obtain ⟨t,u,v,e⟩:=x;exact ⟨t,u,v,k _ _ (.inl rfl) e⟩
 | frz ob u ih=>obtain ⟨e,q⟩:=x;exact ⟨k _ _ (.inl rfl) e,ih q⟩
 | tbl ps=>
  have e:h.get? a=some {cls:= .none,data:= .fields ps}:=x
  show h'.get? a=some {cls:= .none,data:= .fields ps}
  exact k a _ (.inl rfl) e
 | met f y=>
  have e:h.get? a=some (PySem.W.methodObj (.ref f) (.ref y)):=x
  show h'.get? a=some (PySem.W.methodObj (.ref f) (.ref y))
  exact k a _ (.inl rfl) e
 | ext φ=>obtain ⟨p,⟨o,e⟩,st⟩:=x;exact ⟨st _ _ p fun o q=>k _ _ (.inl rfl) q,⟨o,k _ _ (.inl rfl) e⟩,st⟩
theorem HOk.lt(x:HOk P w H h)(e:H a=some o):a < h.objs.size:=(x a o e).lt
theorem HOk.fresh(x:HOk P w H h)(e:h.objs.size≤a):H a=none:=by
 cases q:H a with
 | none=>rfl
 | some u=>exact absurd (Nat.lt_of_lt_of_le (x.lt q) e) (Nat.lt_irrefl _)
theorem HOk.kept(x:HOk P w H h)(k:∀b u,h.get? b=some u→h'.get? b=some u):HOk P w H h':=fun a o e=>
 (x a o e).stay (fun b u _ q=>k b u q) (fun _ q=>q) fun _ _ q=>q
theorem HOk.laid(x:HOk P w H h)(k:∀b u,h.get? b=some u→h'.get? b=some u)(hp:h.objs.size≤a)(new:ObjOk P w (upd H a o) h' a o):HOk P w (upd H a o) h':=fun b u e=>by
 have hn:=x.fresh hp
 by_cases hb:b=a
 · subst hb;rw [upd_same]at e;cases e;exact new
 · rw [upd_ne hb]at e
   exact (x b u e).stay (fun c v _ q=>k c v q) (fun c q=>by rw [upd_ne (ne_of_none q hn)];exact q) fun c xs q=>by rw [upd_ne (ne_of_none q hn)];exact q
end
noncomputable def Rd(H:Hp)(a:Addr)(u:HO):Prop:=H a=some u∨∃o,H a=some (.frz o u)
theorem Rd.ok{P:Program}{w:World}{H:Hp}{h:Heap}{a:Addr}{u:HO}(r:Rd H a u)(x:HOk P w H h):ObjOk P w H h a u:=by
 rcases r with r | ⟨o,r⟩
 · exact x a u r
 · obtain ⟨_,q⟩:=x a _ r
   exact q
noncomputable def Mut:Option HO→Prop
 | some (.lst _)=>True
 | some (.dK _)=>True
 | some (.dT _)=>True
 | some (.set _ _)=>True
 | some (.ins _ _ _)=>True
 | some (.ext _)=>True
 | _=>False
section
variable {P:Program} {w:World} {H:Hp} {h h':Heap} {x e:Addr} {o':HO}
theorem HOk.write(ok:HOk P w H h)(mu:Mut (H x))(he:e=x∨H e=some (.own x))(k:∀b u,b≠e→h.get? b=some u→h'.get? b=some u)(heo:∃u,h'.get? e=some u)
 (new:ObjOk P w (upd H x o') h' x o'):HOk P w (upd H x o') h':=fun b u q=>by
 have nown:∀c y,H c=some (.own y)→c≠x:=fun c y r z=>by subst z;rw [r]at mu;exact mu
 have ntup:∀c xs,H c=some (.tup xs)→c≠x:=fun c xs r z=>by subst z;rw [r]at mu;exact mu
 by_cases hb:b=x
 · subst hb;rw [upd_same]at q;cases q;exact new
 · rw [upd_ne hb]at q
   by_cases hbe:b=e
   · have q':H b=some (.own x):=by
      rcases he with z | z
      · exact absurd (hbe.trans z) hb
      · rw [hbe];exact z
     rw [q]at q';cases q'
     obtain ⟨v,hv⟩:=heo
     exact ⟨v,by rw [hbe];exact hv⟩
   · refine (ok b u q).stay (fun c v hc r=>k c v ?_ r) (fun c r=>by rw [upd_ne (nown c b r)];exact r) fun c xs r=>by rw [upd_ne (ntup c xs r)];exact r
     rcases hc with rfl | hc
     · exact hbe
     · rintro rfl
       rcases he with z | z
       · exact nown c b hc z
       · rw [hc]at z;cases z;exact hb rfl
end
structure Un(fs ex:List Addr)(H H':Hp)(h h':Heap):Prop where
 keep:∀b o,h.get? b=some o→H b=none→b∉fs→b∉ex→h'.get? b=some o
 slot:∀b o,h.get? b=some o→H b=none→b∈fs→b∉ex→∃sl,h'.get? b=some {o with slots:=sl}
 free:∀b o,h.get? b=some o→H b=none→b∉ex→H' b=none
 there:∀b o,h.get? b=some o→b∉ex→∃o',h'.get? b=some o'
 tups:∀b xs,H b=some (.tup xs)→H' b=some (.tup xs)
 frzs:∀b o u,H b=some (.frz o u)→H' b=some (.frz o u)
 tbls:∀b ps,H b=some (.tbl ps)→∃more,H' b=some (.tbl (ps++more))
section
variable {fs fs' ex ex':List Addr} {H H1 H2:Hp} {h h1 h2 h':Heap} {a x e:Addr} {o:HO}
theorem Un.any(u:Un fs ex H H1 h h1){b:Addr}{ob:Obj}(q:h.get? b=some ob)(n:H b=none)(hx:b∉ex):∃sl,h1.get? b=some {ob with slots:=sl}:=by
 by_cases hb:b∈fs
 · exact u.slot b ob q n hb hx
 · exact ⟨ob.slots,u.keep b ob q n hb hx⟩
theorem Un.kept(k:∀b u,h.get? b=some u→h'.get? b=some u):Un fs ex H H h h':=
 ⟨fun b ob q _ _ _=>k b ob q,fun b ob q _ _ _=>⟨ob.slots,k b ob q⟩,fun _ _ _ n _=>n,fun b ob q _=>⟨ob,k b ob q⟩,fun _ _ q=>q,fun _ _ _ q=>q,fun _ ps q=>⟨#[],by rw [q];simp⟩⟩
theorem Un.refl:Un fs ex H H h h:=Un.kept fun _ _ q=>q
theorem Un.laid(k:∀b u,h.get? b=some u→h'.get? b=some u)(hp:h.objs.size≤a)(hn:H a=none):Un fs ex H (upd H a o) h h' where
 keep:=fun b u q _ _ _=>k b u q
 slot:=fun b u q _ _ _=>⟨u.slots,k b u q⟩
 free:=fun b u q n _=>by rw [upd_ne (Nat.ne_of_lt (Nat.lt_of_lt_of_le (Heap.lt_size q) hp))];exact n
 there:=fun b u q _=>⟨u,k b u q⟩
 tups:=fun b xs q=>by rw [upd_ne (ne_of_none q hn)];exact q
 frzs:=fun b u xs q=>by rw [upd_ne (ne_of_none q hn)];exact q
 tbls:=fun b ps q=>⟨#[],by rw [upd_ne (ne_of_none q hn),q];simp⟩
theorem Un.write(mu:Mut (H x))(he:e=x∨H e=some (.own x))(k:∀b u,b≠e→h.get? b=some u→h'.get? b=some u)(heo:∃u,h'.get? e=some u):Un fs ex H (upd H x o) h h':=by
 have hx:∀b,H b=none→b≠x:=fun b n z=>by subst z;rw [n]at mu;exact mu
 have hb:∀b,H b=none→b≠e:=fun b n z=>by
  subst z
  rcases he with r | r
  · exact hx b n r
  · rw [n]at r;cases r
 have hm:∀b u,H b=some u→¬Mut (some u)→b≠x:=fun b u q nm z=>by subst z;rw [q]at mu;exact nm mu
 refine ⟨fun b u q n _ _=>k b u (hb b n) q,fun b u q n _ _=>⟨u.slots,k b u (hb b n) q⟩,fun b u q n _=>by rw [upd_ne (hx b n)];exact n,fun b u q _=>?_,
  fun b xs q=>by rw [upd_ne (hm b _ q fun z=>z)];exact q,fun b u xs q=>by rw [upd_ne (hm b _ q fun z=>z)];exact q,fun b ps q=>⟨#[],by rw [upd_ne (hm b _ q fun z=>z),q];simp⟩⟩
 by_cases hbe:b=e
 · subst hbe;exact heo
 · exact ⟨u,k b u hbe q⟩
end
noncomputable def trk(h:Heap)(H:Hp):List Addr:=(List.range h.objs.size).filter fun a=>(H a).isSome
noncomputable def hidT(h:Heap)(H:Hp):Heap:=PySem.W.hideAll h (trk h H)
theorem hidT_size(h:Heap)(H:Hp):(hidT h H).objs.size=h.objs.size:=PySem.W.hideAll_size _ _
theorem hidT_get{h:Heap}{H:Hp}{b:Addr}{o:Obj}(e:h.get? b=some o)(n:H b=none):(hidT h H).get? b=some o:=
 PySem.W.hideAll_get _ e fun hm=>by
  have q:(H b).isSome=true:=(List.mem_filter.mp hm).2
  rw [n]at q;simp at q
theorem of_hidT{h:Heap}{H:Hp}{b:Addr}{o:Obj}(e:(hidT h H).get? b=some o):h.get? b=some o∧H b=none:=by
 have e':h.get? b=some o:=PySem.W.of_hideAll (trk h H) e
 refine ⟨e',?_⟩
 cases q:H b with
 | none=>rfl
 | some x=>
  have hm:b∈trk h H:=List.mem_filter.mpr ⟨List.mem_range.mpr (Heap.lt_size e'),by simp [q]⟩
  have z:(hidT h H).get? b=none:=PySem.W.hideAll_none (trk h H) hm
  rw [z]at e;cases e
noncomputable def allNews(g h:Heap)(L:Addr):List (Addr×Obj):=(List.range h.objs.size).filterMap fun a=>if a=L∨(g.get? a).isSome=true then none else (h.get? a).map fun o=>(a,o)
noncomputable def rest(g h:Heap)(L d:Addr):List (Addr×Obj):=(allNews g h L).filter fun p=>decide (p.1≠d)
end L2
namespace L2
structure Mod(K:PySem.W.Frag)(mg:Str→Option Value)(base:Heap):Prop where
 kin:K.In base
 glob:base.Ns mainGlobals mg
 blt:∃mb,base.Ns builtinsNs mb∧∀x:Str,x≠"__name__"→mb x=bootBuiltins x
 nolimit:base.NoLimit
structure Cx where
 prog:Program
 w:World
 K:PySem.W.Frag
 mg:Str→Option Value
 base:Heap
 A:Around
 N:List Str
 s₀:Shared
 H₀:Hp
 env:Env
 outer:List Env
 stack:List Env
 ex:List Addr
 fn:Str→Bool
 calm:Bool
 pn:List (Addr×Obj)
 xe:Value→Shared→Prop
noncomputable def frs(l:List Env):List Addr:=l.filterMap (·.frame)
noncomputable abbrev Cx.fs(X:Cx):List Addr:=frs X.outer
noncomputable def Vis(sc:Scope)(x:Str):Prop:=sc.names.lookup x=some .local∨sc.names.lookup x=some .cell∨sc.names.lookup x=some .free
noncomputable def Loc(sc:Scope)(x:Str):Prop:=sc.names.lookup x=some .local∨sc.names.lookup x=some .cell
noncomputable def Look(env:Env)(h:Heap)(m:Str→Option Value)(x:Str)(u:Value):Prop:=
 (env.kindOf x=some .local∧m x=some u)∨((env.kindOf x=some .cell∨env.kindOf x=some .free)∧∃c,env.cells.lookup x=some c∧h.IsCell c (some u))
structure Cx.Ok(X:Cx):Prop where
 mod:Mod X.K X.mg X.base
 kind:X.env.scope.kind= .function
 glob:X.env.globals=mainGlobals
 blt:X.env.builtins=builtinsNs
 above:X.s₀.heap.objs.size≤X.env.locals
 inj:∀x y c,X.env.cells.lookup x=some c→X.env.cells.lookup y=some c→x=y
 has:∀x,(X.env.kindOf x=some .cell∨X.env.kindOf x=some .free)→∃c,X.env.cells.lookup x=some c
 cab:∀x c,X.fn x=true→X.env.cells.lookup x=some c→X.s₀.heap.objs.size≤c
 hd:X.calm=true→X.A.handled=none
 frames:X.A.frames=some X.stack
 stk:X.stack=X.outer∨(X.stack=X.env::X.outer∧X.env.frame=some X.env.locals)
 exf:∀b∈X.ex,b≠X.env.locals∧∀x c,X.env.cells.lookup x=some c→c≠b
 bs:∀b o,X.base.get? b=some o→X.s₀.heap.get? b=some o∧X.H₀ b=none
 bsz:X.base.objs.size≤X.s₀.heap.objs.size
 noex:∀b o,X.base.get? b=some o→b∉X.ex
 exfs:∀b∈X.ex,b∉X.fs
 funs:X.s₀.heap.FunFrames X.base X.outer
 frf:∀b∈X.fs,X.H₀ b=none
structure Inv(X:Cx)(pins:List (Addr×Obj))(σ:List (Option V))(H:Hp)(s:Shared):Prop where
 ok:X.Ok
 os:s.os=X.s₀.os
 bare:AllBare s.gens
 base:Un X.fs X.ex X.H₀ H X.s₀.heap s.heap
 loc:∃m,s.heap.Ns X.env.locals m∧∀(i:Nat) (x:Str) (v:V),X.N[i]?=some x→σ[i]?=some (some v)→Vis X.env.scope x→∃u,RelV v u∧Look X.env s.heap m x u
 cell:∀x c,X.env.cells.lookup x=some c→∃v,s.heap.IsCell c v
 free:H X.env.locals=none
 freeC:∀x c,X.env.cells.lookup x=some c→H c=none
 pin:∀p∈X.pn++pins,s.heap.get? p.1=some p.2∧H p.1=none∧p.1≠X.env.locals∧p.1∉X.fs∧∀v,p.2.data≠ .cell v
 hok:HOk X.prog X.w H s.heap
 len:σ.length=X.N.length
section
variable {X:Cx} {pins:List (Addr×Obj)} {σ:List (Option V)} {H H':Hp} {s:Shared} {h':Heap}
theorem Cx.Ok.nofr(ok:X.Ok){b:Addr}{o:Obj}(e:X.base.get? b=some o):b∉X.fs:=fun hb=>by
 have:=(ok.funs.mem hb).1
 rw [e]at this;cases this
theorem Inv.bs(I:Inv X pins σ H s):∀b o,X.base.get? b=some o→s.heap.get? b=some o∧H b=none:=fun b o e=>
 ⟨I.base.keep b o (I.ok.bs b o e).1 (I.ok.bs b o e).2 (I.ok.nofr e) (I.ok.noex b o e),I.base.free b o (I.ok.bs b o e).1 (I.ok.bs b o e).2 (I.ok.noex b o e)⟩
theorem Inv.bk(I:Inv X pins σ H s):∀b o,X.base.get? b=some o→s.heap.get? b=some o:=fun b o e=>(I.bs b o e).1
theorem Inv.mod(I:Inv X pins σ H s):Mod X.K X.mg X.base:=I.ok.mod
theorem Inv.kIn(I:Inv X pins σ H s):X.K.In s.heap:=I.ok.mod.kin.keeps I.bk
theorem Inv.lt(I:Inv X pins σ H s):X.env.locals < s.heap.objs.size:=let ⟨_,hn,_⟩:=I.loc;hn.lt
theorem Inv.sz(I:Inv X pins σ H s):X.s₀.heap.objs.size≤s.heap.objs.size:=Nat.le_trans I.ok.above (Nat.le_of_lt I.lt)
theorem Inv.nofs(I:Inv X pins σ H s){a:Addr}(h:s.heap.objs.size≤a):a∉X.fs:=fun hb=>by
 obtain ⟨_,o,ho,_⟩:=I.ok.funs.mem hb
 exact absurd (Nat.lt_of_lt_of_le (Heap.lt_size ho) (Nat.le_trans I.sz h)) (Nat.lt_irrefl _)
theorem Inv.cne(I:Inv X pins σ H s):∀x c,X.env.cells.lookup x=some c→c≠X.env.locals:=fun x c e z=>by
 obtain ⟨v,o,ho,hd⟩:=I.cell x c e
 obtain ⟨m,⟨o',es,ep,ho',hd',_⟩,_⟩:=I.loc
 rw [z,ho']at ho;cases ho;rw [hd']at hd;cases hd
theorem Inv.funs(I:Inv X pins σ H s):s.heap.FunFrames X.base X.outer:=by
 have all:∀(l:List Env),(∀b∈frs l,b∈X.fs)→X.s₀.heap.FunFrames X.base l→s.heap.FunFrames X.base l:=by
  intro l
  induction l with
  | nil=>intro _ _;trivial
  | cons env r ih=>
   intro hs hl
   obtain ⟨hk,⟨L,o,hf,hn,ho,hd⟩,hr⟩:=hl
   have hL:L∈X.fs:=hs L (by unfold frs;rw [List.filterMap_cons,hf];exact List.mem_cons_self)
   obtain ⟨sl,e⟩:=I.base.slot L o ho (I.ok.frf L hL) hL fun z=>I.ok.exfs L z hL
   exact ⟨hk,⟨L,_,hf,hn,e,hd⟩,ih (fun b hb=>hs b (by unfold frs;rw [List.filterMap_cons,hf];exact List.mem_cons_of_mem _ hb)) hr⟩
 exact all X.outer (fun _ hb=>hb) I.ok.funs
theorem Inv.stack(I:Inv X pins σ H s):s.heap.FunFrames X.base X.stack:=by
 rcases I.ok.stk with e | ⟨e,hf⟩
 · rw [e];exact I.funs
 · rw [e]
   obtain ⟨m,hn,_⟩:=I.loc
   refine .cons (by rw [I.ok.kind];decide) hf hn ?_ I.funs
   exact Heap.get?_none_of_le (Nat.le_trans I.ok.bsz I.ok.above)
theorem Inv.stkSub(I:Inv X pins σ H s):∀b∈frs X.stack,b∈X.env.locals::X.fs:=fun b hb=>by
 rcases I.ok.stk with e | ⟨e,hf⟩
 · rw [e]at hb;exact List.mem_cons_of_mem _ hb
 · rw [e]at hb
   unfold frs at hb
   rw [List.filterMap_cons,hf]at hb
   exact hb
theorem Inv.stkFree(I:Inv X pins σ H s):∀b∈frs X.stack,H b=none:=fun b hb=>by
 rcases List.mem_cons.mp (I.stkSub b hb) with e | hb
 · rw [e];exact I.free
 · obtain ⟨_,o,ho,_⟩:=I.ok.funs.mem hb
   exact I.base.free b o ho (I.ok.frf b hb) fun z=>I.ok.exfs b z hb
theorem Inv.step{g':Array GenState}{t':Nat}{d':Drawn}{ch:List Addr}(I:Inv X pins σ H s)
 (hch:∀b∈ch,(b∈X.ex∨X.s₀.heap.objs.size≤b)∧b≠X.env.locals∧(∀x c,X.env.cells.lookup x=some c→c≠b)∧∀p∈X.pn++pins,p.1≠b)
 (keep:∀b o,b≠X.env.locals→b∉X.fs→b∉ch→s.heap.get? b=some o→H b=none→h'.get? b=some o)
 (slot:∀b o,b≠X.env.locals→b∈X.fs→b∉ch→s.heap.get? b=some o→H b=none→∃sl,h'.get? b=some {o with slots:=sl}) (free:∀b o,b∉ch→s.heap.get? b=some o→H b=none→H' b=none)
 (there:∀b o,b∉ch→s.heap.get? b=some o→∃o',h'.get? b=some o')
 (tups:∀b xs,H b=some (.tup xs)→H' b=some (.tup xs)) (frzs:∀b o u,H b=some (.frz o u)→H' b=some (.frz o u)) (tbls:∀b ps,H b=some (.tbl ps)→∃more,H' b=some (.tbl (ps++more)))
 (ns:∀m,s.heap.Ns X.env.locals m→h'.Ns X.env.locals m) (hok:HOk X.prog X.w H' h') (hg:AllBare g'):
 Inv X pins σ H' {s with heap:=h',gens:=g',drawn:=d',toks:=t'}:=by
 have neL:∀b o,X.s₀.heap.get? b=some o→b≠X.env.locals:=fun b o e=>Nat.ne_of_lt (Nat.lt_of_lt_of_le (Heap.lt_size e) I.ok.above)
 have neC:∀b o,X.s₀.heap.get? b=some o→b∉X.ex→b∉ch:=fun b o e hx hb=>by
  rcases (hch b hb).1 with z | z
  · exact hx z
  · exact absurd (Nat.lt_of_lt_of_le (Heap.lt_size e) z) (Nat.lt_irrefl _)
 have cellK:∀x c,X.env.cells.lookup x=some c→∀v,s.heap.IsCell c v→h'.IsCell c v:=fun x c e v ⟨o,ho,hd⟩=>by
  have nch:c∉ch:=fun z=>(hch c z).2.2.1 x c e rfl
  by_cases hc:c∈X.fs
  · obtain ⟨sl,q⟩:=slot c o (I.cne x c e) hc nch ho (I.freeC x c e)
    exact ⟨_,q,hd⟩
  · exact ⟨o,keep c o (I.cne x c e) hc nch ho (I.freeC x c e),hd⟩
 refine ⟨I.ok,I.os,hg,⟨fun b o e n hb hx=>?_,fun b o e n hb hx=>?_,fun b o e n hx=>?_,fun b o e hx=>?_,fun b xs e=>tups b xs (I.base.tups b xs e),fun b o xs e=>frzs b o xs (I.base.frzs b o xs e),fun b ps e=>?_⟩,?_,fun x c e=>?_,?_,fun x c e=>?_,fun p hp=>?_,hok,I.len⟩
 · exact keep b o (neL b o e) hb (neC b o e hx) (I.base.keep b o e n hb hx) (I.base.free b o e n hx)
 · obtain ⟨sl,e1⟩:=I.base.slot b o e n hb hx
   obtain ⟨sl',e2⟩:=slot b _ (neL b o e) hb (neC b o e hx) e1 (I.base.free b o e n hx)
   exact ⟨sl',e2⟩
 · obtain ⟨o',e1⟩:=I.base.there b o e hx
   exact free b o' (neC b o e hx) e1 (I.base.free b o e n hx)
 · obtain ⟨o',e1⟩:=I.base.there b o e hx
   exact there b o' (neC b o e hx) e1
 · obtain ⟨m1,e1⟩:=I.base.tbls b ps e
   obtain ⟨m2,e2⟩:=tbls b _ e1
   exact ⟨m1++m2,by rw [e2,Array.append_assoc]⟩
 · obtain ⟨m,hn,hl⟩:=I.loc
   refine ⟨m,ns m hn,fun i x v e1 e2 e3=>?_⟩
   obtain ⟨u,r,l⟩:=hl i x v e1 e2 e3
   refine ⟨u,r,?_⟩
   rcases l with l | ⟨k,c,e,z⟩
   · exact .inl l
   · exact .inr ⟨k,c,e,cellK x c e _ z⟩
 · obtain ⟨v,z⟩:=I.cell x c e
   exact ⟨v,cellK x c e v z⟩
 · obtain ⟨m,⟨o,_,_,ho,_⟩,_⟩:=I.loc
   exact free _ o (fun z=>(hch _ z).2.1 rfl) ho I.free
 · obtain ⟨v,o,ho,hd⟩:=I.cell x c e
   exact free c o (fun z=>(hch c z).2.2.1 x c e rfl) ho (I.freeC x c e)
 · obtain ⟨e,n,ne,nf,d⟩:=I.pin p hp
   have nch:p.1∉ch:=fun z=>(hch p.1 z).2.2.2 p hp rfl
   exact ⟨keep p.1 p.2 ne nf nch e n,free p.1 p.2 nch e n,ne,nf,d⟩
theorem Inv.un{t':Nat}(I:Inv X pins σ H s)(u:Un X.fs [] H H' s.heap h')(hok:HOk X.prog X.w H' h'):Inv X pins σ H' {s with heap:=h',toks:=t'}:=by
 obtain ⟨m,⟨o,es,ep,ho,r⟩,_⟩:=id I.loc
 obtain ⟨sl,hL⟩:=u.any ho I.free (by simp)
 exact I.step (g':=s.gens) (d':=s.drawn) (ch:=[]) (fun _ z=>nomatch z) (fun b o _ hb _ e n=>u.keep b o e n hb (by simp)) (fun b o _ hb _ e n=>u.slot b o e n hb (by simp)) (fun b o _ e n=>u.free b o e n (by simp)) (fun b o _ e=>u.there b o e (by simp)) u.tups u.frzs u.tbls (fun m' hm=>by
  obtain ⟨o',es',ep',ho',r'⟩:=hm
  rw [ho]at ho';cases ho'
  exact ⟨_,es',ep',hL,r'⟩) hok I.bare
theorem Inv.call{g':Array GenState}{t':Nat}{d':Drawn}{ch:List Addr}(I:Inv X pins σ H s)(u:Un (frs X.stack) ch H H' s.heap h')(hok:HOk X.prog X.w H' h')(hg:AllBare g')
 (hch:∀b∈ch,(b∈X.ex∨X.s₀.heap.objs.size≤b)∧b≠X.env.locals∧(∀x c,X.env.cells.lookup x=some c→c≠b)∧∀p∈X.pn++pins,p.1≠b):
 Inv X pins σ H' {s with heap:=h',gens:=g',drawn:=d',toks:=t'}:=by
 obtain ⟨m,⟨o,es,ep,ho,r⟩,_⟩:=id I.loc
 obtain ⟨sl,hL⟩:=u.any ho I.free fun z=>(hch _ z).2.1 rfl
 exact I.step (ch:=ch) hch (fun b o hL hb hc e n=>u.keep b o e n (fun z=>(List.mem_cons.mp (I.stkSub b z)).elim hL hb) hc) (fun b o _ _ hc e n=>u.any e n hc) (fun b o hc e n=>u.free b o e n hc) (fun b o hc e=>u.there b o e hc) u.tups u.frzs u.tbls (fun m' hm=>by
  obtain ⟨o',es',ep',ho',r'⟩:=hm
  rw [ho]at ho';cases ho'
  exact ⟨_,es',ep',hL,r'⟩) hok hg
theorem Inv.turned{t':Nat}{it:Addr}(I:Inv X pins σ H s)(k:∀b o,b≠it→s.heap.get? b=some o→h'.get? b=some o)(hn:H it=none)(hL:it≠X.env.locals)
 (h1:it∈X.ex∨X.s₀.heap.objs.size≤it) (h2:∀x c,X.env.cells.lookup x=some c→c≠it) (h3:∀p∈X.pn++pins,p.1≠it):Inv X pins σ H {s with heap:=h',toks:=t'}:=by
 have nit:∀b u,H b=some u→b≠it:=fun b u e z=>by rw [z,hn]at e;cases e
 refine I.step (g':=s.gens) (d':=s.drawn) (ch:=[it]) (fun b hb=>?_) (fun b o _ _ hc e _=>k b o (fun z=>hc (by simp [z])) e) (fun b o _ _ hc e _=>⟨o.slots,k b o (fun z=>hc (by simp [z])) e⟩) (fun _ _ _ _ n=>n)
  (fun b o hc e=>⟨o,k b o (fun z=>hc (by simp [z])) e⟩) (fun _ _ e=>e) (fun _ _ _ e=>e) (fun b ps e=>⟨#[],by rw [e];simp⟩) (fun m hm=>?_) (fun b u e=>?_) I.bare
 · have e:b=it:=by simpa using hb
   subst e
   exact ⟨h1,hL,h2,h3⟩
 · obtain ⟨o,es,ep,ho,r⟩:=hm
   exact ⟨o,es,ep,k _ o (Ne.symm hL) ho,r⟩
 · refine (I.hok b u e).stay (fun c v hc q=>k c v ?_ q) (fun _ q=>q) fun _ _ q=>q
   rcases hc with z | z
   · rw [z];exact nit b u e
   · exact nit c _ z
theorem Inv.tok(I:Inv X pins σ H s)(t:Nat):Inv X pins σ H {s with toks:=t}:=I.un (h':=s.heap) (t':=t) Un.refl I.hok
theorem Inv.kept{t':Nat}(I:Inv X pins σ H s)(k:∀b u,s.heap.get? b=some u→h'.get? b=some u):Inv X pins σ H {s with heap:=h',toks:=t'}:=I.un (Un.kept k) (I.hok.kept k)
theorem Inv.laid{a:Addr}{o:HO}{t':Nat}(I:Inv X pins σ H s)(k:∀b u,s.heap.get? b=some u→h'.get? b=some u)(hp:s.heap.objs.size≤a)(new:ObjOk X.prog X.w (upd H a o) h' a o):
 Inv X pins σ (upd H a o) {s with heap:=h',toks:=t'}:=I.un (Un.laid k hp (I.hok.fresh hp)) (I.hok.laid k hp new)
theorem Inv.write{x e:Addr}{o:HO}{t':Nat}(I:Inv X pins σ H s)(mu:Mut (H x))(he:e=x∨H e=some (.own x))(k:∀b u,b≠e→s.heap.get? b=some u→h'.get? b=some u)(heo:∃u,h'.get? e=some u)
 (new:ObjOk X.prog X.w (upd H x o) h' x o):Inv X pins σ (upd H x o) {s with heap:=h',toks:=t'}:=I.un (Un.write mu he k heo) (I.hok.write mu he k heo new)
theorem Inv.weak{σ':List (Option V)}(I:Inv X pins σ H s)(hl:σ'.length=σ.length)(w:∀(i:Nat) v,σ'[i]?=some (some v)→σ[i]?=some (some v)):Inv X pins σ' H s:=
 ⟨I.ok,I.os,I.bare,I.base,let ⟨m,hn,hl'⟩:=I.loc;⟨m,hn,fun i x v e1 e2 e3=>hl' i x v e1 (w i v e2) e3⟩,I.cell,I.free,I.freeC,I.pin,I.hok,hl.trans I.len⟩
theorem Inv.pins_of{pins':List (Addr×Obj)}(I:Inv X pins σ H s)(h:∀p∈pins',s.heap.get? p.1=some p.2∧H p.1=none∧p.1≠X.env.locals∧p.1∉X.fs∧∀v,p.2.data≠ .cell v):Inv X pins' σ H s:=
 ⟨I.ok,I.os,I.bare,I.base,I.loc,I.cell,I.free,I.freeC,fun p hp=>(List.mem_append.mp hp).elim (fun z=>I.pin p (List.mem_append_left _ z)) (h p),I.hok,I.len⟩
theorem nodup_ix{N:List Str}(hN:N.Nodup){i j:Nat}{x:Str}(a:N[i]?=some x)(b:N[j]?=some x):i=j:=by
 obtain ⟨h1,e1⟩:=List.getElem?_eq_some_iff.mp a
 obtain ⟨h2,e2⟩:=List.getElem?_eq_some_iff.mp b
 exact (List.getElem_inj hN).mp (e1.trans e2.symm)
theorem store_ok2{M:Model}{A:Around}{E:Value→Shared→Prop}{i:Nat}{x:Str}{v:V}{u:Value}{Q:Unit→Shared→Prop}(I:Inv X pins σ H s)(hN:X.N.Nodup)(hi:X.N[i]?=some x)(hx:Loc X.env.scope x)(r:RelV v u)
 (h:∀s',Inv X pins (σ.set i (some v)) H s'→(∃a,Heap.SameBut a s.heap s'.heap∧(a=X.env.locals∨X.env.cells.lookup x=some a))→Q () s') (hf:X.fn x=true∨X.env.scope.names.lookup x=some .local:=by first | exact .inl rfl | exact .inr rfl | assumption):wpAny M A (storeName X.env x u) Q E s:=by
 obtain ⟨m,hn,hl⟩:=id I.loc
 have hcls:(X.env.scope.kind== .class || (X.env.scope.kind== .module && X.env.locals !=X.env.globals))=false:=by rw [I.ok.kind];rfl
 have hiσ:i < σ.length:=by rw [I.len];exact (List.getElem?_eq_some_iff.mp hi).1
 have cne:=I.cne
 have tracked:∀{a:Addr} {h':Heap},(∃o,s.heap.get? a=some o∧H a=none)→Heap.SameBut a s.heap h'→HOk X.prog X.w H h':=fun {a h'} ha hs b ob e=>by
  obtain ⟨_,_,hfree⟩:=ha
  refine (I.hok b ob e).stay (fun c w' hc q=>(hs.2 c ?_).trans q) (fun _ q=>q) fun _ _ q=>q
  rintro rfl
  rcases hc with rfl | hc
  · rw [hfree]at e;cases e
  · rw [hfree]at hc;cases hc
 rcases hx with hk | hk
 · refine wpAny_storeName_local hk hn (fun h' hn' hs=>?_) hcls
   obtain ⟨oL,_,_,hoL,_⟩:=id hn
   refine h _ ⟨I.ok,I.os,I.bare,⟨fun b o e n hb hx=>?_,fun b o e n hb hx=>?_,I.base.free,fun b o e hx=>?_,I.base.tups,I.base.frzs,I.base.tbls⟩,⟨_,hn',fun j y v' e1 e2 e3=>?_⟩,fun y c e=>?_,I.free,I.freeC,fun p hp=>?_,tracked ⟨oL,hoL,I.free⟩ hs,by simpa using I.len⟩ ⟨_,hs,.inl rfl⟩
   · exact (hs.2 b (Nat.ne_of_lt (Nat.lt_of_lt_of_le (Heap.lt_size e) I.ok.above))).trans (I.base.keep b o e n hb hx)
   · obtain ⟨sl,e1⟩:=I.base.slot b o e n hb hx
     exact ⟨sl,(hs.2 b (Nat.ne_of_lt (Nat.lt_of_lt_of_le (Heap.lt_size e) I.ok.above))).trans e1⟩
   · obtain ⟨o',e1⟩:=I.base.there b o e hx
     exact ⟨o',(hs.2 b (Nat.ne_of_lt (Nat.lt_of_lt_of_le (Heap.lt_size e) I.ok.above))).trans e1⟩
   · by_cases hj:j=i
     · subst hj
       rw [hi]at e1;cases e1
       rw [List.getElem?_set_self hiσ]at e2
       cases e2
       exact ⟨u,r,.inl ⟨hk,by simp⟩⟩
     · rw [List.getElem?_set_ne (Ne.symm hj)]at e2
       obtain ⟨u',r',q⟩:=hl j y v' e1 e2 e3
       refine ⟨u',r',?_⟩
       rcases q with ⟨k,e⟩ | ⟨k,c,e,z⟩
       · refine .inl ⟨k,?_⟩
         have:y≠x:=fun e=>hj (nodup_ix hN e1 (e▸hi))
         simp [this,e]
       · exact .inr ⟨k,c,e,z.sameBut hs (cne y c e)⟩
   · obtain ⟨w',z⟩:=I.cell y c e
     exact ⟨w',z.sameBut hs (cne y c e)⟩
   · obtain ⟨e,n,ne,nf,d⟩:=I.pin p hp
     exact ⟨(hs.2 p.1 ne).trans e,n,ne,nf,d⟩
 · have hfn:X.fn x=true:=by
    rcases hf with z | z
    · exact z
    · rw [z]at hk;cases hk
   obtain ⟨c,hc⟩:=I.ok.has x (.inl hk)
   obtain ⟨w',z⟩:=I.cell x c hc
   refine wpAny_storeName_cell I.ok.kind hk hc z (fun h' hc' hs=>?_)
   obtain ⟨oc,hoc,hocd⟩:=id z
   refine h {s with heap:=h'} ⟨I.ok,I.os,I.bare,⟨fun b o e n hb hx=>?_,fun b o e n hb hx=>?_,I.base.free,fun b o e hx=>?_,I.base.tups,I.base.frzs,I.base.tbls⟩,⟨m,hn.sameBut hs (Ne.symm (cne x c hc)),fun j y v' e1 e2 e3=>?_⟩,fun y c' e=>?_,I.free,I.freeC,fun p hp=>?_,tracked ⟨oc,hoc,I.freeC x c hc⟩ hs,by simpa using I.len⟩ ⟨c,hs,.inr hc⟩
   · exact (hs.2 b (Nat.ne_of_lt (Nat.lt_of_lt_of_le (Heap.lt_size e) (I.ok.cab x c hfn hc)))).trans (I.base.keep b o e n hb hx)
   · obtain ⟨sl,e1⟩:=I.base.slot b o e n hb hx
     exact ⟨sl,(hs.2 b (Nat.ne_of_lt (Nat.lt_of_lt_of_le (Heap.lt_size e) (I.ok.cab x c hfn hc)))).trans e1⟩
   · obtain ⟨o',e1⟩:=I.base.there b o e hx
     exact ⟨o',(hs.2 b (Nat.ne_of_lt (Nat.lt_of_lt_of_le (Heap.lt_size e) (I.ok.cab x c hfn hc)))).trans e1⟩
   · by_cases hj:j=i
     · subst hj
       rw [hi]at e1;cases e1
       rw [List.getElem?_set_self hiσ]at e2
       cases e2
       exact ⟨u,r,.inr ⟨.inl hk,c,hc,hc'⟩⟩
     · rw [List.getElem?_set_ne (Ne.symm hj)]at e2
       obtain ⟨u',r',q⟩:=hl j y v' e1 e2 e3
       refine ⟨u',r',?_⟩
       rcases q with q | ⟨k,c',e,z'⟩
       · exact .inl q
       · refine .inr ⟨k,c',e,z'.sameBut hs ?_⟩
         rintro rfl
         exact hj (nodup_ix hN e1 (I.ok.inj _ _ _ e hc▸hi))
   · by_cases hcc:c'=c
     · subst hcc;exact ⟨_,hc'⟩
     · obtain ⟨w2,z2⟩:=I.cell y c' e
       exact ⟨w2,z2.sameBut hs hcc⟩
   · obtain ⟨e,n,ne,nf,d⟩:=I.pin p hp
     refine ⟨(hs.2 p.1 ?_).trans e,n,ne,nf,d⟩
     intro q
     rw [q,hoc]at e
     have q':oc=p.2:=Option.some.inj e
     exact d w' (by rw [← q'];exact hocd)
theorem store_ok{M:Model}{A:Around}{E:Value→Shared→Prop}{i:Nat}{x:Str}{v:V}{u:Value}{Q:Unit→Shared→Prop}(I:Inv X pins σ H s)(hN:X.N.Nodup)(hi:X.N[i]?=some x)(hx:Loc X.env.scope x)(r:RelV v u)
 (h:∀s',Inv X pins (σ.set i (some v)) H s'→Q () s') (hf:X.fn x=true∨X.env.scope.names.lookup x=some .local:=by first | exact .inl rfl | exact .inr rfl | assumption):wpAny M A (storeName X.env x u) Q E s:=
 store_ok2 I hN hi hx r (fun s' I' _=>h s' I') hf
theorem Inv.call'{s':Shared}{ch:List Addr}(I:Inv X pins σ H s)(ho:s'.os=s.os)(u:Un (frs X.stack) ch H H' s.heap s'.heap)(hok:HOk X.prog X.w H' s'.heap)(hg:AllBare s'.gens)
 (hch:∀b∈ch,(b∈X.ex∨X.s₀.heap.objs.size≤b)∧b≠X.env.locals∧(∀x c,X.env.cells.lookup x=some c→c≠b)∧∀p∈X.pn++pins,p.1≠b):Inv X pins σ H' s':=by
 obtain ⟨h',g',d',t',o'⟩:=s'
 have e:o'=s.os:=ho
 subst e
 exact I.call (g':=g') (t':=t') (d':=d') u hok hg hch
end
noncomputable abbrev XK:=Value→Option Addr→Hp→Prop
noncomputable abbrev St:=List (Option V)
noncomputable abbrev VK:=V→Hp→Prop
noncomputable abbrev TE:=St→Hp→VK→Prop
noncomputable abbrev TT:=St→Hp→(Bool→Hp→Prop)→Prop
noncomputable abbrev TA:=St→Hp→(List V→Hp→Prop)→Prop
structure Ends where
 nx:St→Hp→Prop
 rt:VK
 bk:St→Hp→Prop:=fun _ _=>False
 ct:St→Hp→Prop:=fun _ _=>False
noncomputable abbrev TS:=Ends→St→Hp→Prop
noncomputable def EP(X:Cx)(pins:List (Addr×Obj))(σ:St)(Q:VK)(u:Value)(s':Shared):Prop:=∃v H',Inv X pins σ H' s'∧RelV v u∧Q v H'
noncomputable def TP(X:Cx)(pins:List (Addr×Obj))(σ:St)(Q:Bool→Hp→Prop)(b:Bool)(s':Shared):Prop:=∃H',Inv X pins σ H' s'∧Q b H'
noncomputable def AP(X:Cx)(pins:List (Addr×Obj))(σ:St)(Q:List V→Hp→Prop)(us:List Value)(s':Shared):Prop:=∃vs H',Inv X pins σ H' s'∧Vals vs us∧Q vs H'
noncomputable def SP(X:Cx)(pins:List (Addr×Obj))(D:Ends)(f:Flow)(s':Shared):Prop:=
 match f with
 | .next=>∃σ' H',Inv X pins σ' H' s'∧D.nx σ' H'
 | .brk=>∃σ' H',Inv X pins σ' H' s'∧D.bk σ' H'
 | .cont=>∃σ' H',Inv X pins σ' H' s'∧D.ct σ' H'
 | .ret u=>∃v σ' H',Inv X pins σ' H' s'∧RelV v u∧D.rt v H'
noncomputable def PE(X:Cx)(e:Expr)(t:TE):Prop:=
 ∀(pins:List (Addr×Obj)) (s:Shared) (σ:St) (H:Hp) (Q:VK),Inv X pins σ H s→t σ H Q→wpAny (model X.prog X.w) X.A (eval e X.env) (EP X pins σ Q) X.xe s
noncomputable def PT(X:Cx)(e:Expr)(t:TT):Prop:=
 ∀(pins:List (Addr×Obj)) (s:Shared) (σ:St) (H:Hp) (Q:Bool→Hp→Prop),Inv X pins σ H s→t σ H Q→wpAny (model X.prog X.w) X.A (isTrue e X.env (eval e X.env)) (TP X pins σ Q) X.xe s
noncomputable def PW(X:Cx)(e:Expr)(t:TT):Prop:=
 ∀(whole:Sem Value) (pins:List (Addr×Obj)) (s:Shared) (σ:St) (H:Hp) (Q:Bool→Hp→Prop),Inv X pins σ H s→t σ H Q→wpAny (model X.prog X.w) X.A (isTrue e X.env whole) (TP X pins σ Q) X.xe s
theorem PW.pt{X:Cx}{e:Expr}{t:TT}(h:PW X e t):PT X e t:=h _
noncomputable def PA(X:Cx)(es:List Expr)(t:TA):Prop:=
 ∀(pos:Pos) (pins:List (Addr×Obj)) (s:Shared) (σ:St) (H:Hp) (Q:List V→Hp→Prop),Inv X pins σ H s→t σ H Q→wpAny (model X.prog X.w) X.A (spliced (backTo pos (starEach es X.env))) (AP X pins σ Q) X.xe s
noncomputable def PS(X:Cx)(st:Stmt)(t:TS):Prop:=
 ∀(pins:List (Addr×Obj)) (s:Shared) (σ:St) (H:Hp) (D:Ends),Inv X pins σ H s→t D σ H→wpAny (model X.prog X.w) X.A (exec st X.env) (SP X pins D) X.xe s
noncomputable def PSs(X:Cx)(st:List Stmt)(t:TS):Prop:=
 ∀(pins:List (Addr×Obj)) (s:Shared) (σ:St) (H:Hp) (D:Ends),Inv X pins σ H s→t D σ H→wpAny (model X.prog X.w) X.A (execs st X.env) (SP X pins D) X.xe s
theorem thn{α:Type}{t:Sem α}{Q Q':α→Shared→Prop}{M:Model}{A:Around}{E:Value→Shared→Prop}{s:Shared}(h:wpAny M A t Q E s)(hQ:∀a s,Q a s→Q' a s):wpAny M A t Q' E s:=wpAny_mono h hQ fun _ _ x=>x
end L2
namespace L2
section
variable {X:Cx}
noncomputable def tVar(i:Nat):TE:=fun σ H Q=>∃v,σ[i]?=some (some v)∧Q v H
noncomputable def tC(v:V):TE:=fun _ H Q=>Q v H
theorem pe_var{i:Nat}{x:Str}{pos:Pos}(hN:X.N[i]?=some x)(hv:Vis X.env.scope x)(hd:(x==("__debug__":Str))=false:=by decide)(hcd:(x==("__classdict__":Str))=false:=by decide):PE X (.Name x pos) (tVar i):=by
 intro pins s σ H Q I h
 obtain ⟨v,e,h⟩:=h
 obtain ⟨m,hn,hl⟩:=I.loc
 obtain ⟨u,r,l⟩:=hl i x v hN e hv
 have fin:EP X pins σ Q u s:=⟨v,H,I,r,h⟩
 rcases l with ⟨hk,hm⟩ | ⟨hk,c,hc,hcell⟩
 · exact wpAny_Name (wpAny_loadName_local I.ok.kind hk hn hm fin) hd
 · rcases hk with hk | hk
   · exact wpAny_Name (wpAny_loadName_cell I.ok.kind hk hc hcell fin) hd
   · exact wpAny_Name (wpAny_loadName_free I.ok.kind hk hc hcell fin hcd) hd
theorem pe_int{i j pos}:PE X (.Constant (.int i) j pos) (tC (.int i)):=fun _ _ _ H _ I h=>wpAny_Constant_int ⟨.int i,H,I.tok _,⟨_,rfl⟩,h⟩
theorem pe_bl{b j pos}:PE X (.Constant (.bool b) j pos) (tC (.bl b)):=fun _ _ _ H _ I h=>Constant_bool ⟨.bl b,H,I,rfl,h⟩
theorem pe_non{j pos}:PE X (.Constant .none j pos) (tC .non):=fun _ _ _ H _ I h=>Constant_none ⟨.non,H,I,rfl,h⟩
theorem pe_str{x j pos}:PE X (.Constant (.str x) j pos) (tC (.str x)):=fun _ _ _ H _ I h=>Calls.Constant_str ⟨.str x,H,I.tok _,⟨_,rfl⟩,h⟩
noncomputable def Gl(X:Cx)(x:Str):Prop:=X.env.kindOf x=some .globalImplicit
theorem ld_glob{E:Value→Shared→Prop}{pins:List (Addr×Obj)}{s:Shared}{σ:St}{H:Hp}{x:Str}{u:Value}{pos:Pos}{Q:Value→Shared→Prop}(I:Inv X pins σ H s)(hg:Gl X x)(hm:X.mg x=some u)(h:Q u s)
 (hd:(x==("__debug__":Str))=false:=by decide):wpAny (model X.prog X.w) X.A (eval (.Name x pos) X.env) Q E s:=
 Calls.Name_function_global I.ok.kind hg (Calls.loadGlobal_global (by rw [I.ok.glob];exact I.mod.glob.keeps I.bk) hm h) hd
theorem ld_blt{E:Value→Shared→Prop}{pins:List (Addr×Obj)}{s:Shared}{σ:St}{H:Hp}{x:Str}{u:Value}{pos:Pos}{Q:Value→Shared→Prop}(I:Inv X pins σ H s)(hg:Gl X x)(hm:X.mg x=none)(hv:bootBuiltins x=some u)(h:Q u s)
 (hn:x≠"__name__":=by decide) (hd:(x==("__debug__":Str))=false:=by decide):wpAny (model X.prog X.w) X.A (eval (.Name x pos) X.env) Q E s:=by
 obtain ⟨mb,h1,h2⟩:=I.mod.blt
 exact Calls.Name_function_global I.ok.kind hg (Calls.loadGlobal_builtin (by rw [I.ok.glob];exact I.mod.glob.keeps I.bk) hm (by rw [I.ok.blt];exact h1.keeps I.bk) ((h2 x hn).trans hv) h) hd
theorem pe_glob{x:Str}{v:V}{u:Value}{pos:Pos}(hg:Gl X x)(hm:X.mg x=some u)(r:RelV v u)(hd:(x==("__debug__":Str))=false:=by decide):PE X (.Name x pos) (tC v):=
 fun _ _ _ H _ I h=>ld_glob I hg hm ⟨v,H,I,r,h⟩ hd
theorem pe_bltn{x:Str}{v:V}{u:Value}{pos:Pos}(hg:Gl X x)(hm:X.mg x=none)(hv:bootBuiltins x=some u)(r:RelV v u)(hn:x≠"__name__":=by decide)(hd:(x==("__debug__":Str))=false:=by decide):PE X (.Name x pos) (tC v):=
 fun _ _ _ H _ I h=>ld_blt I hg hm hv ⟨v,H,I,r,h⟩ hn hd
variable {a b:Expr} {ta tb:TE} {pos:Pos}
noncomputable def PC(X:Cx)(op:CmpOp)(a b:Expr)(t:TE):Prop:=
 ∀(pins:List (Addr×Obj)) (s:Shared) (σ:St) (H:Hp) (Q:VK),Inv X pins σ H s→t σ H Q→
   wpAny (model X.prog X.w) X.A (eval a X.env) (fun v s₁=>wpAny (model X.prog X.w) X.A (eval b X.env) (fun u s₂=>wpAny (model X.prog X.w) X.A (compareOp op v u) (EP X pins σ Q) X.xe s₂) X.xe s₁) X.xe s
theorem nobehind(b:Expr){op:CmpOp}(h:op≠ .In)(h2:op≠ .NotIn):behindInMarks op b=false:=by
 have e1:(op==CmpOp.In)=false:=by cases op <;> first | rfl | exact absurd rfl h
 have e2:(op==CmpOp.NotIn)=false:=by cases op <;> first | rfl | exact absurd rfl h2
 cases b <;> simp [behindInMarks,e1,e2]
noncomputable def tB(t:TE):TT:=fun σ H Q=>t σ H fun x H1=>∃c,x= .bl c∧Q c H1
theorem pe_cmp{op:CmpOp}{t:TE}(h:PC X op a b t)(h1:behindInMarks op b=false:=by first | exact nobehind _ (by decide) (by decide) | rfl):PE X (.Compare a [op] [b] pos) t:=fun pins s σ H Q I hw=>wpAny_Compare1 (h pins s σ H Q I hw) h1
theorem pt_cmp{op:CmpOp}{t:TE}(h:PC X op a b t)(h1:behindInMarks op b=false:=by first | exact nobehind _ (by decide) (by decide) | rfl):PT X (.Compare a [op] [b] pos) (tB t):=by
 intro pins s σ H Q I hw
 refine wpAny_isTrue_Compare1 (thn (h pins s σ H _ I hw) fun v s1 h1=>thn h1 fun u s2 h2=>thn h2 fun c s3 hq_=>?_) h1
 obtain ⟨x,H1,I1,r1,q1⟩:=hq_
 obtain ⟨d,rfl,q⟩:=q1
 cases r1
 exact wpAny_truthy_bool ⟨H1,I1,q⟩
theorem pt_val{e:Expr}{t:TE}(h:PE X e t)(he:∀whole,isTrue e X.env whole=(do let v ← whole;standAt e.pos;holding [v] (truthy v)):=by intro _;rfl):PT X e (tB t):=by
 intro pins s σ H Q I hw
 refine isTrue_plain (thn (h pins s σ H _ I hw) fun v s1 hq_=>?_) (he _)
 obtain ⟨x,H1,I1,r1,q1⟩:=hq_
 obtain ⟨d,rfl,q⟩:=q1
 cases r1
 exact wpAny_truthy_bool ⟨H1,I1,q⟩
variable {tA tB':TT} {rest:List Expr}
noncomputable def tAnd(t u:TT):TT:=fun σ H Q=>t σ H fun c H1=>if c=true then u σ H1 Q else Q false H1
noncomputable def tOr(t u:TT):TT:=fun σ H Q=>t σ H fun c H1=>if c=true then Q true H1 else u σ H1 Q
noncomputable def tNot(t:TT):TT:=fun σ H Q=>t σ H fun c H1=>Q (!c) H1
theorem pw_and1(ha:PT X a tA):PW X (.BoolOp .And [a] pos) tA:=by
 intro wh pins s σ H Q I h
 refine isTrue_and (thn (ha pins s σ H Q I h) fun c s1 e=>?_)
 cases c with
 | true=>exact isTrue_and_nil e
 | false=>exact e
theorem pw_or1(ha:PT X a tA):PW X (.BoolOp .Or [a] pos) tA:=by
 intro wh pins s σ H Q I h
 refine isTrue_or (thn (ha pins s σ H Q I h) fun c s1 e=>?_)
 cases c with
 | false=>exact isTrue_or_nil e
 | true=>exact e
theorem pw_and(ha:PT X a tA)(hb:PW X (.BoolOp .And (b::rest) pos) tB'):PW X (.BoolOp .And (a::b::rest) pos) (tAnd tA tB'):=by
 intro wh pins s σ H Q I h
 refine isTrue_and (thn (ha pins s σ H _ I h) fun c s1 ⟨H1,I1,q1⟩=>?_)
 cases c with
 | true=>exact hb wh pins s1 σ H1 Q I1 q1
 | false=>exact ⟨H1,I1,q1⟩
theorem pw_or(ha:PT X a tA)(hb:PW X (.BoolOp .Or (b::rest) pos) tB'):PW X (.BoolOp .Or (a::b::rest) pos) (tOr tA tB'):=by
 intro wh pins s σ H Q I h
 refine isTrue_or (thn (ha pins s σ H _ I h) fun c s1 ⟨H1,I1,q1⟩=>?_)
 cases c with
 | true=>exact ⟨H1,I1,q1⟩
 | false=>exact hb wh pins s1 σ H1 Q I1 q1
theorem pt_not(ha:PT X a tA):PT X (.UnaryOp .Not a pos) (tNot tA):=by
 intro pins s σ H Q I h
 exact isTrue_not (ha pins s σ H (fun c H1=>Q (!c) H1) I h)
noncomputable def tAndV(ta tb:TE):TE:=fun σ H Q=>ta σ H fun x H1=>∃c,x= .bl c∧if c=true then tb σ H1 Q else Q (.bl false) H1
noncomputable def tOrV(ta tb:TE):TE:=fun σ H Q=>ta σ H fun x H1=>∃c,x= .bl c∧if c=true then Q (.bl true) H1 else tb σ H1 Q
noncomputable def tNotV(ta:TE):TE:=fun σ H Q=>ta σ H fun x H1=>∃c,x= .bl c∧Q (.bl (!c)) H1
theorem pe_one{op}{t:TE}(h:PE X a t):PE X (.BoolOp op [a] pos) t:=fun pins s σ H Q I hw=>BoolOp_one (h pins s σ H Q I hw)
theorem pe_and(ha:PE X a ta)(hb:PE X (.BoolOp .And (b::rest) pos) tb):PE X (.BoolOp .And (a::b::rest) pos) (tAndV ta tb):=by
 intro pins s σ H Q I h
 refine BoolOp_and (thn (ha pins s σ H _ I h) fun v s1 hq_=>?_)
 obtain ⟨x,H1,I1,r1,q1⟩:=hq_
 obtain ⟨c,rfl,q1⟩:=q1
 cases r1
 refine wpAny_truthy_bool ?_
 cases c with
 | true=>exact hb pins s1 σ H1 Q I1 q1
 | false=>exact ⟨.bl false,H1,I1,rfl,q1⟩
theorem pe_not(ha:PE X a ta):PE X (.UnaryOp .Not a pos) (tNotV ta):=by
 intro pins s σ H Q I h
 refine UnaryOp_ (thn (ha pins s σ H _ I h) fun v s1 hq_=>?_)
 obtain ⟨x,H1,I1,r1,q1⟩:=hq_
 obtain ⟨c,rfl,q1⟩:=q1
 cases r1
 exact not_of (wpAny_truthy_bool ⟨.bl (!c),H1,I1,rfl,q1⟩)
noncomputable def tIf(t:TT)(ta tb:TE):TE:=fun σ H Q=>t σ H fun c H1=>if c=true then ta σ H1 Q else tb σ H1 Q
end
end L2
namespace L2
noncomputable def SqL(K:PySem.W.Frag)(H:Hp)(a:Addr)(xs:List V):Prop:=
 Rd H a (.lst xs)∨
  ∃(o:Obj) (its:Array Value) (n:Nat),K.lookup a=some o∧o.cls= .type "list"∧o.dict=none∧o.data= .seq its n∧its.size≤sizeLine∧Vals xs its.toList
noncomputable def SqT(K:PySem.W.Frag)(H:Hp)(a:Addr)(xs:List V):Prop:=
 Rd H a (.tup xs)∨
  ∃(o:Obj) (its:Array Value) (n:Nat),K.lookup a=some o∧o.cls= .type "tuple"∧o.data= .seq its n∧its.size≤sizeLine∧Vals xs its.toList
noncomputable def absV:Value→Option V
 | .none=>some .non
 | .bool b=>some (.bl b)
 | .int i _=>some (.int i)
 | .str x _=>some (.str x)
 | .bytes b _=>some (.byt b)
 | .float b _=>some (.flt b)
 | .ref a=>some (.ref a)
 | .type n=>some (.ty n)
 | _=>none
theorem RelV.abs{x:V}{u:Value}(r:RelV x u):absV u=some x:=by
 cases x with
 | non=>cases r;rfl
 | bl _=>cases r;rfl
 | int _=>obtain ⟨t,rfl⟩:=r;rfl
 | str _=>obtain ⟨t,rfl⟩:=r;rfl
 | byt _=>obtain ⟨t,rfl⟩:=r;rfl
 | flt _=>obtain ⟨t,rfl⟩:=r;rfl
 | ref _=>cases r;rfl
 | ty _=>cases r;rfl
theorem RelV.inj{x y:V}{u:Value}(r:RelV x u)(q:RelV y u):x=y:=Option.some.inj (r.abs.symm.trans q.abs)
theorem Vals.inj:∀{xs ys:List V} {us:List Value},Vals xs us→Vals ys us→xs=ys
 | _,_,_,.nil,.nil=>rfl
 | _,_,_,.cons r t,.cons r' t'=>by rw [r.inj r',Vals.inj t t']
section
variable {X:Cx} {pins:List (Addr×Obj)} {σ:St} {H:Hp} {s:Shared} {a:Addr} {xs ys:List V}
theorem SqL.of{K:PySem.W.Frag}(h:H a=some (.lst xs)):SqL K H a xs:= .inl (.inl h)
theorem SqT.of{K:PySem.W.Frag}(h:H a=some (.tup xs)):SqT K H a xs:= .inl (.inl h)
theorem Inv.list(I:Inv X pins σ H s)(h:SqL X.K H a xs):∃its:List Value,Vals xs its∧PlainL s.heap a its.toArray∧xs.length≤sizeLine:=by
 rcases h with h | ⟨o,its,n,hk,hc,hd,hs,hz,r⟩
 · obtain ⟨z,its,n,r,e⟩:=h.ok I.hok
   exact ⟨its,r,⟨_,n,e,rfl,rfl,rfl⟩,z⟩
 · refine ⟨its.toList,r,⟨o,n,I.kIn a o hk,hc,hd,by simpa using hs⟩,?_⟩
   have e:=r.length
   simp only [Array.length_toList]at e
   omega
theorem Inv.tuple(I:Inv X pins σ H s)(h:SqT X.K H a xs):∃its:List Value,Vals xs its∧IsTup s.heap a its.toArray∧xs.length≤sizeLine:=by
 rcases h with h | ⟨o,its,n,hk,hc,hs,hz,r⟩
 · obtain ⟨z,its,r,p⟩:=h.ok I.hok
   exact ⟨its,r,p,z⟩
 · refine ⟨its.toList,r,⟨o,I.kIn a o hk,hc,n,by simpa using hs⟩,?_⟩
   have e:=r.length
   simp only [Array.length_toList]at e
   omega
theorem Inv.list_inj(I:Inv X pins σ H s)(h:SqL X.K H a xs)(h':SqL X.K H a ys):xs=ys:=by
 obtain ⟨its,r,⟨o,n,e,_,_,d⟩,_⟩:=I.list h
 obtain ⟨its',r',⟨o',n',e',_,_,d'⟩,_⟩:=I.list h'
 rw [e]at e';cases e'
 rw [d]at d'
 injection d' with d1 _
 have:its=its':=by simpa using congrArg Array.toList d1
 subst this
 exact r.inj r'
end
noncomputable abbrev Cx.wish(X:Cx)(E:Value→Shared→Prop):Cx:={X with xe:=E}
noncomputable abbrev Cx.nox(X:Cx):Cx:=X.wish fun _ _=>False
theorem Cx.Ok.wish{X:Cx}(ok:X.Ok)(E:Value→Shared→Prop):(X.wish E).Ok:=
 ⟨ok.mod,ok.kind,ok.glob,ok.blt,ok.above,ok.inj,ok.has,ok.cab,ok.hd,ok.frames,ok.stk,ok.exf,ok.bs,ok.bsz,ok.noex,ok.exfs,ok.funs,ok.frf⟩
theorem Cx.Ok.unwish{X:Cx}{E:Value→Shared→Prop}(ok:(X.wish E).Ok):X.Ok:=
 ⟨ok.mod,ok.kind,ok.glob,ok.blt,ok.above,ok.inj,ok.has,ok.cab,ok.hd,ok.frames,ok.stk,ok.exf,ok.bs,ok.bsz,ok.noex,ok.exfs,ok.funs,ok.frf⟩
section
variable {X:Cx} {pins:List (Addr×Obj)} {σ:St} {H:Hp} {s:Shared} {E:Value→Shared→Prop}
theorem Inv.wish(I:Inv X pins σ H s)(E:Value→Shared→Prop):Inv (X.wish E) pins σ H s:=⟨I.ok.wish E,I.os,I.bare,I.base,I.loc,I.cell,I.free,I.freeC,I.pin,I.hok,I.len⟩
theorem Inv.unwish(I:Inv (X.wish E) pins σ H s):Inv X pins σ H s:=⟨I.ok.unwish,I.os,I.bare,I.base,I.loc,I.cell,I.free,I.freeC,I.pin,I.hok,I.len⟩
theorem SP.unwish{D:Ends}{f:Flow}{s':Shared}(h:SP (X.wish E) pins D f s'):SP X pins D f s':=by
 cases f with
 | next=>obtain ⟨σ',H',I,q⟩:=h;exact ⟨σ',H',I.unwish,q⟩
 | brk=>obtain ⟨σ',H',I,q⟩:=h;exact ⟨σ',H',I.unwish,q⟩
 | cont=>obtain ⟨σ',H',I,q⟩:=h;exact ⟨σ',H',I.unwish,q⟩
 | ret u=>obtain ⟨v,σ',H',I,r,q⟩:=h;exact ⟨v,σ',H',I.unwish,r,q⟩
theorem PSs.nox{st:List Stmt}{t:TS}(h:PSs X.nox st t):PSs X st t:=fun pins s σ H D I hw=>
 wpAny_mono (h pins s σ H D (I.wish _) hw) (fun _ _ q=>q.unwish) fun _ _ z=>False.elim z
end
section
variable {X:Cx} {st:Stmt} {rest:List Stmt} {t u:TS} {e:Expr} {te:TE} {pos:Pos}
noncomputable def tNext:TS:=fun D σ H=>D.nx σ H
noncomputable def tSeq(t u:TS):TS:=fun D σ H=>t {D with nx:=u D} σ H
theorem pss_nil:PSs X [] tNext:=fun _ _ σ H _ I h=>wpAny_execs_nil ⟨σ,H,I,h⟩
theorem pss_cons(h1:PS X st t)(h2:PSs X rest u):PSs X (st::rest) (tSeq t u):=by
 intro pins s σ H D I h
 refine wpAny_execs_cons (thn (h1 pins s σ H {D with nx:=u D} I h) fun f s1 q=>?_)
 cases f with
 | next=>
  obtain ⟨σ',H',I',q⟩:=q
  exact h2 pins s1 σ' H' D I' q
 | ret v=>exact q
 | brk=>exact q
 | cont=>exact q
theorem pss_one(h1:PS X st t):PSs X [st] t:=by
 intro pins s σ H D I h
 refine wpAny_execs_cons (thn (h1 pins s σ H D I h) fun f s1 q=>?_)
 cases f with
 | next=>exact wpAny_execs_nil q
 | ret v=>exact q
 | brk=>exact q
 | cont=>exact q
noncomputable def tBreak:TS:=fun D σ H=>D.bk σ H
noncomputable def tCont:TS:=fun D σ H=>D.ct σ H
theorem ps_pass:PS X (.Pass pos) tNext:=fun _ _ σ H _ I h=>wpAny_Pass ⟨σ,H,I,h⟩
theorem Inv.quiet{pins:List (Addr×Obj)}{σ:St}{H:Hp}{s:Shared}(I:Inv X pins σ H s):interactive X.env=false:=by simp [interactive,I.ok.kind]
noncomputable def tDrop(te:TE):TS:=fun D σ H=>te σ H fun _ H1=>D.nx σ H1
theorem ps_expr(he:PE X e te)(hs:swapsWith e none pos.line X.env=pure false:=by rfl):PS X (.Expr e pos) (tDrop te):=by
 intro pins s σ H D I h
 exact wpAny_Expr_any (thn (he pins s σ H _ I h) fun v s1 ⟨x,H1,I1,r1,q1⟩=>⟨σ,H1,I1,q1⟩) I.quiet hs
noncomputable def tRet(te:TE):TS:=fun D σ H=>te σ H D.rt
theorem ps_ret(he:PE X e te):PS X (.Return (some e) pos) (tRet te):=by
 intro pins s σ H D I h
 exact wpAny_Return_some (thn (he pins s σ H _ I h) fun v s1 ⟨x,H1,I1,r1,q1⟩=>⟨x,σ,H1,I1,r1,q1⟩)
noncomputable def tRetN:TS:=fun D _ H=>D.rt .non H
noncomputable def tIfS(c:TT)(t u:TS):TS:=fun D σ H=>c σ H fun b H1=>if b=true then t D σ H1 else u D σ H1
theorem ps_if{c:Expr}{a b:List Stmt}{tc:TT}(hc:PT X c tc)(ha:PSs X a t)(hb:PSs X b u):PS X (.If c a b pos) (tIfS tc t u):=by
 intro pins s σ H D I h
 refine wpAny_If (thn (hc pins s σ H _ I h) fun d s1 ⟨H1,I1,q1⟩=>?_)
 cases d with
 | true=>exact ha pins s1 σ H1 D I1 q1
 | false=>exact hb pins s1 σ H1 D I1 q1
noncomputable def tNever:TS:=fun _ _ _=>False
theorem ps_never:PS X st tNever:=fun _ _ _ _ _ _ h=>h.elim
end
noncomputable abbrev TG:=V→St→Hp→(St→Hp→Prop)→Prop
noncomputable abbrev TGs:=List V→St→Hp→(St→Hp→Prop)→Prop
noncomputable def PG(X:Cx)(target:Expr)(t:TG):Prop:=
 ∀(pins:List (Addr×Obj)) (s:Shared) (σ:St) (H:Hp) (v:V) (u:Value) (Q:St→Hp→Prop),Inv X pins σ H s→RelV v u→t v σ H Q→
   wpAny (model X.prog X.w) X.A (assign target X.env u) (fun _ s'=>∃σ' H',Inv X pins σ' H' s'∧Q σ' H') X.xe s
noncomputable def PGs(X:Cx)(ts:List Expr)(t:TGs):Prop:=
 ∀(pins:List (Addr×Obj)) (s:Shared) (σ:St) (H:Hp) (vs:List V) (us:List Value) (Q:St→Hp→Prop),Inv X pins σ H s→Vals vs us→t vs σ H Q→
   wpAny (model X.prog X.w) X.A (assignInOrder ((assignEach ts X.env).map (·.2)) us) (fun _ s'=>∃σ' H',Inv X pins σ' H' s'∧Q σ' H') X.xe s
noncomputable abbrev TSet:=V→V→V→Hp→(Hp→Prop)→Prop
noncomputable def PSet(X:Cx)(t:TSet):Prop:=
 ∀(pins:List (Addr×Obj)) (s:Shared) (σ:St) (H:Hp) (o i v:V) (ov iv u:Value) (Q:Hp→Prop),Inv X pins σ H s→RelV o ov→RelV i iv→RelV v u→t o i v H Q→
   wpAny (model X.prog X.w) X.A (setItem ov iv u) (fun _ s'=>∃H',Inv X pins σ H' s'∧Q H') X.xe s
noncomputable abbrev TIp:=V→V→Hp→VK→Prop
section
variable {X:Cx} {pos:Pos}
noncomputable def gName(i:Nat):TG:=fun v σ H Q=>Q (σ.set i (some v)) H
theorem pg_name{i:Nat}{x:Str}(hN:X.N.Nodup)(hi:X.N[i]?=some x)(hx:Loc X.env.scope x)(hf:X.fn x=true∨X.env.scope.names.lookup x=some .local:=by first | exact .inl rfl | exact .inr rfl | assumption):PG X (.Name x pos) (gName i):=by
 intro pins s σ H v u Q I r h
 exact wpAny_assign_Name (store_ok I hN hi hx r (fun s' I'=>⟨_,H,I',h⟩) hf)
noncomputable def gNil:TGs:=fun vs σ H Q=>vs=[]∧Q σ H
noncomputable def gCons(t:TG)(u:TGs):TGs:=fun vs σ H Q=>∃v r,vs=v::r∧t v σ H fun σ' H'=>u r σ' H' Q
theorem pgs_nil:PGs X [] gNil:=by
 intro pins s σ H vs us Q I r h
 obtain ⟨e,h⟩:=h
 subst e
 cases r
 exact assignInOrder_nil ⟨σ,H,I,h⟩
theorem pgs_cons{e:Expr}{es:List Expr}{t:TG}{u:TGs}(h1:PG X e t)(h2:PGs X es u)
 (hs:(assignEach (e::es) X.env).map (·.2)=assign e X.env::(assignEach es X.env).map (·.2):=by rfl):PGs X (e::es) (gCons t u):=by
 intro pins s σ H vs us Q I r h
 obtain ⟨v,vr,e1,h⟩:=h
 subst e1
 cases r with
 | cons r rr=>
  rw [hs]
  refine assignInOrder_cons (thn (h1 pins s σ H _ _ _ I r h) fun _ s1 hq_=>?_)
  obtain ⟨σ1,H1,I1,q1⟩:=hq_
  exact h2 pins s1 σ1 H1 _ _ Q I1 rr q1
noncomputable def gTup(K:PySem.W.Frag)(n:Nat)(t:TGs):TG:=fun v σ H Q=>∃a xs,v= .ref a∧SqT K H a xs∧xs.length=n∧t xs σ H Q
theorem pg_tup{es:List Expr}{k:Nat}{t:TGs}{n:Nat}(hc:X.calm=true)(h:PGs X es t)
 (hn:(assignEach es X.env).length=n:=by rfl) (hst:(assignEach es X.env).findIdx? (·.1)=none:=by rfl):PG X (.Tuple es k pos) (gTup X.K n t):=by
 intro pins s σ H v u Q I r hw
 obtain ⟨a,xs,e1,hq,hl,hw⟩:=hw
 subst e1
 cases r
 obtain ⟨its,rv,ht,hz⟩:=I.tuple hq
 refine assign_Tuple_tuple (I.ok.hd hc) ht (by simp [hn,← hl,rv.length]) hst fun h' hx=>?_
 have I1:Inv X pins σ H {s with heap:=h'}:=I.kept (t':=s.toks) fun b o e=>hx b o (Nat.ne_of_lt (Heap.lt_size e)) e
 exact h pins _ σ H xs _ Q I1 (by simpa using rv) hw
noncomputable def gSub(to ti:TE)(t:TSet):TG:=fun v σ H Q=>to σ H fun o H1=>ti σ H1 fun i H2=>t o i v H2 fun H3=>Q σ H3
theorem pg_sub{o i:Expr}{to ti:TE}{t:TSet}(ho:PE X o to)(hi:PE X i ti)(hs:PSet X t)
 (ha:∀v,assign (.Subscript o i pos) X.env v=(do
  let ov ← holding [v] (eval o X.env)
  let iv ← holding [v,ov] (eval i X.env)
  standAt pos
  holding [v,ov,iv] (setItem ov iv v)
  release [v,ov,iv] []):=by intro _;rfl):PG X (.Subscript o i pos) (gSub to ti t):=by
 intro pins s σ H v u Q I r h
 rw [ha]
 refine wpAny_bind (wpAny_holding (thn (ho pins s σ H _ I h) fun ov s1 hq_=>?_))
 obtain ⟨x,H1,I1,r1,q1⟩:=hq_
 refine wpAny_bind (wpAny_holding (thn (hi pins s1 σ H1 _ I1 q1) fun iv s2 hq_=>?_))
 obtain ⟨y,H2,I2,r2,q2⟩:=hq_
 refine wpAny_bind (wpAny_standAt (wpAny_bind (wpAny_holding (thn (hs pins s2 σ H2 x y v ov iv u _ I2 r1 r2 r q2) fun _ s3 ⟨H3,I3,q3⟩=>?_))))
 exact wpAny_release ⟨σ,H3,I3,q3⟩
noncomputable def tAsg(te:TE)(g:TG):TS:=fun D σ H=>te σ H fun x H1=>g x σ H1 D.nx
theorem ps_asg{tg e:Expr}{te:TE}{g:TG}(he:PE X e te)(hg:PG X tg g)(hs:swapsWithSole [tg] e pos.line X.env=pure false:=by rfl)(hw:swappedStores [tg] e X.env=pure none:=by rfl)
 (h1:(assignEach [tg] X.env).map (·.2)=[assign tg X.env]:=by rfl):PS X (.Assign [tg] e pos) (tAsg te g):=by
 intro pins s σ H D I h
 refine wpAny_Assign_stores (thn (he pins s σ H _ I h) fun v s1 hq_=>?_) hs hw
 obtain ⟨x,H1,I1,r1,q1⟩:=hq_
 rw [h1]
 exact thn (hg pins s1 σ H1 x v _ I1 r1 q1) fun _ s2 q=>q
theorem ps_set{i:Nat}{x:Str}{e:Expr}{te:TE}{pos':Pos}(hN:X.N.Nodup)(hi:X.N[i]?=some x)(hx:Loc X.env.scope x)(he:PE X e te)(hs:swapsWith e (some (.Name x pos')) pos.line X.env=pure false:=by rfl)(hf:X.fn x=true∨X.env.scope.names.lookup x=some .local:=by first | exact .inl rfl | exact .inr rfl | assumption):
 PS X (.Assign [.Name x pos'] e pos) (tAsg te (gName i)):=by
 intro pins s σ H D I h
 refine wpAny_Assign_Name (thn (he pins s σ H _ I h) fun v s1 hq_=>?_) hs
 obtain ⟨y,H1,I1,r1,q1⟩:=hq_
 exact store_ok I1 hN hi hx r1 (fun s2 I2=>⟨_,H1,I2,q1⟩) hf
noncomputable def tPar(i j:Nat)(ta:TA):TS:=fun D σ H=>ta σ H fun vs H1=>∃v w,vs=[v,w]∧D.nx ((σ.set i (some v)).set j (some w)) H1
noncomputable def tAug(i:Nat)(te:TE)(ti:TIp):TS:=fun D σ H=>∃x,σ[i]?=some (some x)∧te σ H fun y H1=>ti x y H1 fun z H2=>D.nx (σ.set i (some z)) H2
noncomputable def ipI(f:Int→Int→Int):TIp:=fun x y H Q=>∃i j,x= .int i∧y= .int j∧Q (.int (f i j)) H
end
section
variable {X:Cx} {pos:Pos}
noncomputable def tWhile(c:TT)(tb:TS):TS:=fun D σ H=>∃W:Nat→St→Hp→Prop,(∃m,W m σ H)∧∀m σ H,W m σ H→
 c σ H fun b H1=>if b=true then ∃N:St→Hp→Prop,(∀σ' H',N σ' H'→∃m',m' < m∧W m' σ' H')∧tb {D with nx:=N,ct:=N,bk:=D.nx} σ H1 else D.nx σ H1
theorem ps_while{c:Expr}{body:List Stmt}{tc:TT}{tb:TS}(hp:PassesOwn (model X.prog X.w) X.A X.env X.xe)(hc:PT X c tc)(hb:PSs X body tb):PS X (.While c body [] pos) (tWhile tc tb):=by
 intro pins s σ H D I h
 obtain ⟨W,⟨m0,w0⟩,turn⟩:=h
 refine wpAny_While (codeAny_whileLoop (fun n s'=>∃σ' H',Inv X pins σ' H' s'∧W n σ' H') ?_ m0 ⟨σ,H,I,w0⟩)
 rintro n s1 ⟨σ1,H1,I1,w1⟩
 refine wpAny_passesOwn hp (thn (hc pins s1 σ1 H1 _ I1 (turn n σ1 H1 w1)) fun b s2 ⟨H2,I2,q2⟩=>?_)
 cases b with
 | true=>
  obtain ⟨N,hN,q2⟩:=q2
  rw [if_pos rfl]
  refine wpAny_passesOwn hp (thn (hb pins s2 σ1 H2 _ I2 q2) fun f s3 q3=>?_)
  cases f with
  | next=>
   obtain ⟨σ3,H3,I3,n3⟩:=q3
   obtain ⟨m',hm,w3⟩:=hN σ3 H3 n3
   exact ⟨m',hm,σ3,H3,I3,w3⟩
  | cont=>
   obtain ⟨σ3,H3,I3,n3⟩:=q3
   obtain ⟨m',hm,w3⟩:=hN σ3 H3 n3
   exact ⟨m',hm,σ3,H3,I3,w3⟩
  | brk=>exact q3
  | ret v=>exact q3
 | false=>
  rw [if_neg Bool.false_ne_true]
  exact wpAny_execs_nil ⟨σ1,H2,I2,q2⟩
end
structure It where
 go:Nat→Hp→Prop
 yld:Nat→Hp→V→Hp→Prop
 stop:Nat→Hp→Prop
noncomputable def FpOk(X:Cx)(pins:List (Addr×Obj))(H:Hp)(b:Addr):Prop:=
 H b=none∧b≠X.env.locals∧b∉X.fs∧(b∈X.ex∨X.s₀.heap.objs.size≤b)∧(∀x c,X.env.cells.lookup x=some c→c≠b)∧∀p∈X.pn++pins,p.1≠b
theorem Inv.fpOk{X:Cx}{pins:List (Addr×Obj)}{σ:St}{H H':Hp}{s:Shared}{b:Addr}(I:Inv X pins σ H s)(hb:s.heap.objs.size≤b)(hn:H' b=none):FpOk X pins H' b:=by
 refine ⟨hn,Nat.ne_of_gt (Nat.lt_of_lt_of_le I.lt hb),I.nofs hb,.inr (Nat.le_trans I.sz hb),fun x c e z=>?_,fun p hp z=>?_⟩
 · obtain ⟨v,q⟩:=I.cell x c e
   exact absurd (Nat.lt_of_lt_of_le q.lt (by rw [z];exact hb)) (Nat.lt_irrefl _)
 · exact absurd (Nat.lt_of_lt_of_le (Heap.lt_size (I.pin p hp).1) (by rw [z];exact hb)) (Nat.lt_irrefl _)
structure Turn(P:Program)(w:World)(K:PySem.W.Frag)(tg:Expr)(J:It)(fp:List Addr)(it:Addr)(tn:Nat→Heap→Prop):Prop where
 mem:it∈fp
 obj:∀i h,tn i h→∀b∈fp,∃o,h.get? b=some o∧∀v,o.data≠ .cell v
 keep:∀i h h',tn i h→(∀b∈fp,∀o,h.get? b=some o→h'.get? b=some o)→tn i h'
 item:∀(X:Cx),X.prog=P→X.w=w→X.K=K→X.calm=true→∀(i:Nat) (pins:List (Addr×Obj)) (s:Shared) (σ:St) (H:Hp) (E:Value→Shared→Prop),Inv X pins σ H s→(∀b∈fp,FpOk X pins H b)→tn i s.heap→J.go i H→
  wpAny (model P w) X.A (pyNext (.ref it)) (fun r s1=>∃u,r=some u∧
   wpAny (model P w) X.A (letOwnedTupleGo tg (.ref it) u) (fun _ s2=>∃x H',Inv X pins σ H' s2∧RelV x u∧J.yld i H x H'∧tn (i+1) s2.heap∧∀b∈fp,H' b=none) E s1) E s
 done:∀(X:Cx),X.prog=P→X.w=w→X.K=K→X.calm=true→∀(i:Nat) (pins:List (Addr×Obj)) (s:Shared) (σ:St) (H:Hp) (E:Value→Shared→Prop),Inv X pins σ H s→(∀b∈fp,FpOk X pins H b)→tn i s.heap→J.stop i H→
   wpAny (model P w) X.A (pyNext (.ref it)) (fun r s1=>r=none∧Inv X pins σ H s1) E s
 self:∀(A:Around) (i:Nat) (s:Shared) (Q:Value→Shared→Prop) (E:Value→Shared→Prop),tn i s.heap→Q (.ref it) s→wpAny (model P w) A (pyIter (.ref it)) Q E s
noncomputable abbrev TI:=St→Hp→(It→Hp→Prop)→Prop
noncomputable def PIE(X:Cx)(pins:List (Addr×Obj))(σ:St)(tg:Expr)(R:It→Hp→Prop)(itv:Value)(s2:Shared):Prop:=
 ∃(it:Addr) (fp:List Addr) (tn:Nat→Heap→Prop) (J:It) (H':Hp),itv= .ref it∧Inv X pins σ H' s2∧Turn X.prog X.w X.K tg J fp it tn∧tn 0 s2.heap∧(∀b∈fp,FpOk X pins H' b)∧R J H'
noncomputable def PI(X:Cx)(tg iter:Expr)(wi:TI):Prop:=
 ∀(pins:List (Addr×Obj)) (s:Shared) (σ:St) (H:Hp) (R:It→Hp→Prop),Inv X pins σ H s→wi σ H R→
   wpAny (model X.prog X.w) X.A (eval iter X.env) (fun v s1=>wpAny (model X.prog X.w) X.A (pyIter v) (PIE X pins σ tg R) X.xe s1) X.xe s
theorem go_of{M:Model}{A:Around}{E:Value→Shared→Prop}{s:Shared}{tg:Expr}{it:Addr}{u:Value}{o:Obj}{n:String}{vs:Array Value}{Q:Unit→Shared→Prop}(ho:s.heap.get? it=some o)(hc:o.cls= .type n)(hd:o.data= .fields vs)
 (hn:["enumerate","zip","dict_itemiterator","dict_reverseitemiterator","odict_iterator","itertools.zip_longest","itertools.pairwise"].contains n=false) (hQ:Q () s):wpAny M A (letOwnedTupleGo tg (.ref it) u) Q E s:=by
 unfold letOwnedTupleGo
 cases tg <;> first
  | exact wpAny_pure hQ
  | (cases u <;> first
   | exact wpAny_pure hQ
   | (refine wpAny_bind (wpAny_load ho ?_)
      rw [hc,hd]
      show wpAny M A (if (["enumerate","zip","dict_itemiterator","dict_reverseitemiterator","odict_iterator","itertools.zip_longest","itertools.pairwise"].contains n && vs[0]?==some (rawInt _))=true then _ else _) Q E s
      rw [if_neg (by intro h;rw [hn,Bool.false_and]at h;cases h)]
      exact wpAny_pure hQ))
noncomputable def Itl(K:PySem.W.Frag)(a:Addr):It:=
 ⟨fun i H=>∃xs x,SqL K H a xs∧xs[i]?=some x,fun i H x H'=>H'=H∧∀xs,SqL K H a xs→xs[i]?=some x,fun i H=>∃xs,SqL K H a xs∧xs.length≤i⟩
noncomputable def Itt(K:PySem.W.Frag)(a:Addr):It:=
 ⟨fun i H=>∃xs x,SqT K H a xs∧xs[i]?=some x,fun i H x H'=>H'=H∧∀xs,SqT K H a xs→xs[i]?=some x,fun i H=>∃xs,SqT K H a xs∧xs.length≤i⟩
noncomputable def Itr(lo:Int)(n:Nat):It:=⟨fun i _=>i < n,fun i H x H'=>H'=H∧x= .int (lo+i),fun i _=>n≤i⟩
theorem turn_list{P:Program}{w:World}{K:PySem.W.Frag}{tg:Expr}(a it:Addr):Turn P w K tg (Itl K a) [it] it (fun i h=>h.IsListIter it a i) where
 mem:=by simp
 obj:=fun i h st b hb=>by
  have e:b=it:=by simpa using hb
  subst e
  obtain ⟨o,e,c,d⟩:=st
  exact ⟨o,e,fun v z=>by rw [d]at z;cases z⟩
 keep:=fun i h h' st k=>st.at fun o e=>k it (by simp) o e
 item:=by
  intro X hP hw hK hc i pins s σ H E I hf st hg
  subst hP hw hK
  obtain ⟨xs,x,hq,hx⟩:=hg
  obtain ⟨its,rv,p,hz⟩:=I.list hq
  obtain ⟨u,hu,ru⟩:=rv.get hx
  obtain ⟨f0,f1,f2,f3,f4,f5⟩:=hf it (by simp)
  refine wpAny_pyNext_list_item st p.isList (x:=u) (by simpa using hu) fun h' st' sb=>?_
  have I1:Inv X pins σ H {s with heap:=h'}:=I.turned (t':=s.toks) (fun b o hb e=>(sb.2 b hb).trans e) f0 f1 f3 f4 f5
  obtain ⟨o,e,c,d⟩:=id st'
  exact ⟨u,rfl,go_of (s:={s with heap:=h'}) e c d (by decide) ⟨x,H,I1,ru,⟨rfl,fun ys hy=>by rw [I.list_inj hy hq];exact hx⟩,st',fun b hb=>(hf b hb).1⟩⟩
 done:=by
   intro X hP hw hK hc i pins s σ H E I hf st hg
   subst hP hw hK
   obtain ⟨xs,hq,hx⟩:=hg
   obtain ⟨its,rv,p,hz⟩:=I.list hq
   obtain ⟨f0,f1,f2,f3,f4,f5⟩:=hf it (by simp)
   have hl:=rv.length
   exact wpAny_pyNext_list_end (I.ok.hd hc) st p.isList (by simp;omega) fun h' eb=>⟨rfl,I.turned (t':=s.toks) (fun b o hb e=>eb b o hb e) f0 f1 f3 f4 f5⟩
 self:=fun _ _ _ _ _ st h=>wpAny_pyIter_listiter st h
theorem turn_range{P:Program}{w:World}{K:PySem.W.Frag}{tg:Expr}(it:Addr)(lo:Int)(n:Nat):Turn P w K tg (Itr lo n) [it] it (fun i h=>IsRangeIter h it (lo+(i:Nat) * 1) ((n:Int) - (i:Nat)) 1) where
 mem:=by simp
 obj:=fun i h st b hb=>by
  have e:b=it:=by simpa using hb
  subst e
  exact ⟨_,st,fun v z=>by
   have z':Data.fields _=Data.cell v:=z
   cases z'⟩
 keep:=fun i h h' st k=>k it (by simp) _ st
 item:=by
  intro X hP hw hK hc i pins s σ H E I hf st hg
  subst hP hw hK
  obtain ⟨f0,f1,f2,f3,f4,f5⟩:=hf it (by simp)
  have W:=Walks.range (prog:=X.prog) (w:=X.w) (I.ok.hd hc) it lo 1 n
  refine W.item i s _ _ hg st fun v h' tk hv st' kk=>?_
  obtain ⟨t,rfl⟩:=hv
  have I1:Inv X pins σ H {s with heap:=h',toks:=tk}:=I.turned (fun b o hb e=>kk b o (by simpa using hb) e) f0 f1 f3 f4 f5
  refine ⟨_,rfl,go_of (s:={s with heap:=h',toks:=tk}) (n:="range_iterator") st' rfl rfl (by decide) ⟨.int (lo+i),H,I1,⟨t,?_⟩,⟨rfl,rfl⟩,st',fun b hb=>(hf b hb).1⟩⟩
  rw [Int.mul_one]
 done:=by
   intro X hP hw hK hc i pins s σ H E I hf st hg
   subst hP hw hK
   obtain ⟨f0,f1,f2,f3,f4,f5⟩:=hf it (by simp)
   exact wpAny_pyNext_range_end (I.ok.hd hc) st (by have:n≤i:=hg;omega) fun h' eb=>⟨rfl,I.turned (t':=s.toks) (fun b o hb e=>eb b o hb e) f0 f1 f3 f4 f5⟩
 self:=fun _ _ _ _ _ st h=>wpAny_pyIter_rangeiter st h
end L2
namespace L2
section
variable {X:Cx} {tg:Expr}
noncomputable def iList(K:PySem.W.Frag)(tl:TE):TI:=fun σ H R=>tl σ H fun x H1=>∃a,x= .ref a∧(∃xs,SqL K H1 a xs)∧R (Itl K a) H1
noncomputable def iTup(K:PySem.W.Frag)(tl:TE):TI:=fun σ H R=>tl σ H fun x H1=>∃a,x= .ref a∧(∃xs,SqT K H1 a xs)∧R (Itt K a) H1
theorem pi_list{l:Expr}{tl:TE}(hl:PE X l tl):PI X tg l (iList X.K tl):=by
 intro pins s σ H R I h
 refine thn (hl pins s σ H _ I h) fun v s1 hq_=>?_
 obtain ⟨x,H1,I1,r1,q1⟩:=hq_
 obtain ⟨a,e,⟨xs,hq⟩,q⟩:=q1
 subst e
 cases r1
 obtain ⟨its,rv,p,hz⟩:=I1.list hq
 refine wpAny_pyIter_list p.isList ?_
 refine ⟨s1.heap.objs.size,[s1.heap.objs.size],_,_,H1,rfl,I1.kept (t':=s1.toks) fun b o e=>Heap.get?_push_of_some _ e,turn_list a _,⟨_,Heap.get?_push_size _ rfl,rfl,rfl⟩,fun b hb=>?_,q⟩
 have e:b=s1.heap.objs.size:=by simpa using hb
 subst e
 exact I1.fpOk (Nat.le_refl _) (I1.hok.fresh (Nat.le_refl _))
theorem range_it{pins:List (Addr×Obj)}{σ:St}{H:Hp}{s:Shared}{R:It→Hp→Prop}{E:Value→Shared→Prop}{lo hi:Int}{t u v:Tok}{tk:Nat}(I:Inv X pins σ H s)(h1:-(2 ^ 62)≤lo)(h2:lo < 2 ^ 62)(h3:-(2 ^ 62)≤hi)(h4:hi < 2 ^ 62)
 (q:R (Itr lo (hi - lo).toNat) H):wpAny (model X.prog X.w) X.A (pyIter (.ref s.heap.objs.size)) (PIE X pins σ tg R) E {s with heap:=s.heap.push {cls:= .type "range",data:= .fields #[.int lo t,.int hi u,.int 1 v]},toks:=tk}:=by
 refine wpAny_pyIter_range (IsRange.new ..) (small_one h1 h2 h3 h4) ?_
 have I1:Inv X pins σ H {s with heap:=s.heap.push {cls:= .type "range",data:= .fields #[.int lo t,.int hi u,.int 1 v]},toks:=tk}:=I.kept fun b o e=>Heap.get?_push_of_some _ e
 refine ⟨(s.heap.push {cls:= .type "range",data:= .fields #[.int lo t,.int hi u,.int 1 v]}).objs.size,[(s.heap.push {cls:= .type "range",data:= .fields #[.int lo t,.int hi u,.int 1 v]}).objs.size],_,_,H,rfl,
  I1.kept (t':=tk) fun b o e=>Heap.get?_push_of_some _ e,turn_range _ lo (hi - lo).toNat,?_,fun b hb=>?_,q⟩
 · have e1:lo+((0:Nat):Int) * 1=lo:=by simp
   have e2:(((hi - lo).toNat:Nat):Int) - ((0:Nat):Int)=Builtin.Range.rangeSize lo hi 1:=by rw [rangeSize_one];split <;> omega
   show IsRangeIter _ _ (lo+((0:Nat):Int) * 1) ((((hi - lo).toNat:Nat):Int) - ((0:Nat):Int)) 1
   rw [e1,e2]
   exact Heap.get?_push_size _ rfl
 · have e:b=(s.heap.push {cls:= .type "range",data:= .fields #[.int lo t,.int hi u,.int 1 v]}).objs.size:=by simpa using hb
   subst e
   exact I1.fpOk (Nat.le_refl _) (I1.hok.fresh (Nat.le_refl _))
noncomputable def iRng1(ta:TA):TI:=fun σ H R=>ta σ H fun vs H1=>∃j:Int,vs=[.int j]∧-(2 ^ 62)≤j∧j < 2 ^ 62∧R (Itr 0 j.toNat) H1
noncomputable def iRng2(ta:TA):TI:=fun σ H R=>ta σ H fun vs H1=>∃i j:Int,vs=[.int i,.int j]∧(-(2 ^ 62)≤i∧i < 2 ^ 62∧-(2 ^ 62)≤j∧j < 2 ^ 62)∧R (Itr i (j - i).toNat) H1
theorem pi_range1{a:Expr}{ta:TA}{p pos:Pos}(hg:Gl X "range")(hm:X.mg "range"=none)(ha:PA X [a] ta)(hs:starEach [a] X.env=[(false,eval a X.env)]:=by rfl):PI X tg (.Call (.Name "range" p) [a] [] pos) (iRng1 ta):=by
 intro pins s σ H R I h
 refine Call_ (ld_blt I hg hm boot_range (PyProof.Rows.callWith_type1 (thn (ha pos pins s σ H _ I h) fun us s1 hq_=>?_) hs rfl))
 obtain ⟨vs,H1,I1,r1,q1⟩:=hq_
 obtain ⟨j,e,q1,q2,q⟩:=q1
 subst e
 cases r1 with
 | cons r rr=>
  cases rr
  obtain ⟨t,rfl⟩:=r
  exact call_range_1 (range_it I1 (by omega) (by omega) q1 q2 (by simpa using q))
theorem pi_range2{a b:Expr}{ta:TA}{p pos:Pos}(hg:Gl X "range")(hm:X.mg "range"=none)(ha:PA X [a,b] ta)(hs:starEach [a,b] X.env=[(false,eval a X.env),(false,eval b X.env)]:=by rfl)(hs2:starEach [b] X.env=[(false,eval b X.env)]:=by rfl):
 PI X tg (.Call (.Name "range" p) [a,b] [] pos) (iRng2 ta):=by
 intro pins s σ H R I h
 refine Call_ (ld_blt I hg hm boot_range (PyProof.Rows.callWith_type1 (thn (ha pos pins s σ H _ I h) fun us s1 ⟨vs,H1,I1,r1,q1⟩=>?_) (by rw [hs,hs2]) (by rw [hs2];rfl)))
 obtain ⟨i,j,e,⟨q1,q2,q3,q4⟩,q⟩:=q1
 subst e
 cases r1 with
 | cons r rr=>
  cases rr with
  | cons r' rr=>
   cases rr
   obtain ⟨t,rfl⟩:=r
   obtain ⟨t',rfl⟩:=r'
   exact call_range_2 (range_it I1 q1 q2 q3 q4 q)
noncomputable def tFor(wi:TI)(g:TG)(tb:TS):TS:=fun D σ H=>wi σ H fun J H1=>∃W:Nat→Nat→St→Hp→Prop,(∃m,W 0 m σ H1)∧∀i m σ H,W i m σ H→
 (J.stop i H∧D.nx σ H)∨(J.go i H∧∃N:St→Hp→Prop,(∀σ' H',N σ' H'→∃m',m' < m∧W (i+1) m' σ' H')∧∀x H',J.yld i H x H'→g x σ H' fun σ2 H2=>tb {D with nx:=N,ct:=N,bk:=D.nx} σ2 H2)
noncomputable def pinsAt(fp:List Addr)(h:Heap):List (Addr×Obj):=fp.filterMap fun b=>(h.get? b).map fun o=>(b,o)
theorem mem_pinsAt{fp:List Addr}{h:Heap}{b:Addr}{o:Obj}(hb:b∈fp)(e:h.get? b=some o):(b,o)∈pinsAt fp h:=List.mem_filterMap.mpr ⟨b,hb,by rw [e];rfl⟩
theorem of_pinsAt{fp:List Addr}{h:Heap}{p:Addr×Obj}(hp:p∈pinsAt fp h):p.1∈fp∧h.get? p.1=some p.2:=by
 obtain ⟨b,hb,e⟩:=List.mem_filterMap.mp hp
 cases q:h.get? b with
 | none=>rw [q]at e;cases e
 | some o=>
  rw [q]at e
  have e':(b,o)=p:=Option.some.inj e
  subst e'
  exact ⟨hb,q⟩
theorem Inv.pinned{pins:List (Addr×Obj)}{σ:St}{H:Hp}{s:Shared}{fp:List Addr}(I:Inv X pins σ H s)(hf:∀b∈fp,FpOk X pins H b)(ho:∀b∈fp,∃o,s.heap.get? b=some o∧∀v,o.data≠ .cell v):Inv X (pins++pinsAt fp s.heap) σ H s:=
 I.pins_of fun p hp=>(List.mem_append.mp hp).elim (fun z=>I.pin p (List.mem_append_right _ z)) fun z=>by
  obtain ⟨hb,e⟩:=of_pinsAt z
  obtain ⟨f0,f1,f2,_⟩:=hf p.1 hb
  obtain ⟨o,e',d⟩:=ho p.1 hb
  rw [e]at e';cases e'
  exact ⟨e,f0,f1,f2,d⟩
theorem Inv.unpinned{pins pl:List (Addr×Obj)}{σ:St}{H:Hp}{s:Shared}(I:Inv X (pins++pl) σ H s):Inv X pins σ H s:=I.pins_of fun p hp=>I.pin p (List.mem_append_right _ (List.mem_append_left _ hp))
theorem ps_for{iter:Expr}{body:List Stmt}{wi:TI}{g:TG}{tb:TS}{pos:Pos}(hp:PassesOwn (model X.prog X.w) X.A X.env X.xe)(hc:X.calm=true)(hi:PI X tg iter wi)(hg:PG X tg g)(hb:PSs X body tb)
 (hs:∀x,foldedSetIterable iter X.env x=pure x:=by intro _;rfl):PS X (.For tg iter body [] pos) (tFor wi g tb):=by
 intro pins s σ H D I h
 refine wpAny_For (thn (hi pins s σ H _ I h) fun v s1 h1=>thn h1 fun itv s2 h2=>?_) hs
 obtain ⟨it,fp,tn,J,H2,e,I2,T,st2,f2,W,⟨m0,w0⟩,turn⟩:=h2
 subst e
 have stat:∀{H':Hp},(∀b∈fp,H' b=none)→∀b∈fp,FpOk X pins H' b:=fun hn b hb=>⟨hn b hb,(f2 b hb).2⟩
 refine codeAny_forLoop_any (fun n s'=>∃i σ' H',Inv X pins σ' H' s'∧tn i s'.heap∧(∀b∈fp,H' b=none)∧W i n σ' H') ?_ m0 ⟨0,σ,H2,I2,st2,fun b hb=>(f2 b hb).1,w0⟩
 rintro n s3 ⟨i,σ3,H3,I3,st3,fr3,w3⟩
 rcases turn i n σ3 H3 w3 with ⟨stop,qn⟩ | ⟨go,N,hN,step⟩
 · refine wpAny_passesOwn hp (thn (T.done X rfl rfl rfl hc i pins s3 σ3 H3 X.xe I3 (stat fr3) st3 stop) fun r s4 ⟨hr,I4⟩=>?_)
   subst hr
   exact wpAny_execs_nil ⟨σ3,H3,I4,qn⟩
 · refine wpAny_passesOwn hp (thn (T.item X rfl rfl rfl hc i pins s3 σ3 H3 X.xe I3 (stat fr3) st3 go) fun r s4 ⟨u,hr,h4⟩=>?_)
   subst hr
   refine wpAny_passesOwn hp (thn h4 fun _ s5 hq_=>?_)
   obtain ⟨x,H5,I5,r5,y5,st5,fr5⟩:=hq_
   have I5':=I5.pinned (stat fr5) (T.obj _ _ st5)
   refine wpAny_passesOwn hp (thn (hg _ s5 σ3 H5 x u _ I5' r5 (step x H5 y5)) fun _ s6 hq_=>?_)
   obtain ⟨σ6,H6,I6,q6⟩:=hq_
   refine wpAny_passesOwn hp (thn (hb _ s6 σ6 H6 _ I6 q6) fun f s7 q7=>?_)
   have again:∀{σ7:St} {H7:Hp},Inv X (pins++pinsAt fp s5.heap) σ7 H7 s7→N σ7 H7→∃m,m < n∧∃i σ' H',Inv X pins σ' H' s7∧tn i s7.heap∧(∀b∈fp,H' b=none)∧W i m σ' H':=fun {σ7 H7} I7 n7=>by
    obtain ⟨m',hm,w7⟩:=hN σ7 H7 n7
    refine ⟨m',hm,i+1,σ7,H7,I7.unpinned,T.keep _ _ _ st5 fun b hb o e=>(I7.pin (b,o) (List.mem_append_right _ (List.mem_append_right _ (mem_pinsAt hb e)))).1,fun b hb=>?_,w7⟩
    obtain ⟨o,e,d⟩:=T.obj _ _ st5 b hb
    exact (I7.pin (b,o) (List.mem_append_right _ (List.mem_append_right _ (mem_pinsAt hb e)))).2.1
   cases f with
   | next=>obtain ⟨σ7,H7,I7,n7⟩:=q7;exact again I7 n7
   | cont=>obtain ⟨σ7,H7,I7,n7⟩:=q7;exact again I7 n7
   | brk=>obtain ⟨σ7,H7,I7,q7⟩:=q7;exact ⟨σ7,H7,I7.unpinned,q7⟩
   | ret v=>obtain ⟨x7,σ7,H7,I7,r7,q7⟩:=q7;exact ⟨x7,σ7,H7,I7.unpinned,r7,q7⟩
end
theorem for_list{K:PySem.W.Frag}{a:Addr}{xs:List V}{g:TG}{tb:TS}{D:Ends}{σ:St}{H:Hp}(Pv:Nat→St→Hp→Prop)(h0:Pv 0 σ H)(hl:∀i σ H,i≤xs.length→Pv i σ H→SqL K H a xs)
 (hs:∀i x σ H,xs[i]?=some x→Pv i σ H→g x σ H fun σ2 H2=>tb {D with nx:=Pv (i+1),ct:=Pv (i+1),bk:=D.nx} σ2 H2) (hd:∀σ H,Pv xs.length σ H→D.nx σ H):
 ∃W:Nat→Nat→St→Hp→Prop,(∃m,W 0 m σ H)∧∀i m σ H,W i m σ H→
  ((Itl K a).stop i H∧D.nx σ H)∨((Itl K a).go i H∧∃N:St→Hp→Prop,(∀σ' H',N σ' H'→∃m',m' < m∧W (i+1) m' σ' H')∧∀x H',(Itl K a).yld i H x H'→g x σ H' fun σ2 H2=>tb {D with nx:=N,ct:=N,bk:=D.nx} σ2 H2):=by
 refine ⟨fun i m σ H=>m=xs.length - i∧i≤xs.length∧Pv i σ H,⟨xs.length,by simp,Nat.zero_le _,h0⟩,?_⟩
 rintro i m σ H ⟨rfl,hi,p⟩
 have q:=hl i σ H hi p
 by_cases hlt:i < xs.length
 · refine .inr ⟨⟨xs,xs[i],q,by simp [hlt]⟩,Pv (i+1),fun σ' H' p'=>⟨xs.length - (i+1),by omega,rfl,hlt,p'⟩,fun x H' y=>?_⟩
   obtain ⟨e,y⟩:=y
   subst e
   exact hs i x σ _ (y xs q) p
 · have e:i=xs.length:=by omega
   subst e
   exact .inl ⟨⟨xs,q,Nat.le_refl _⟩,hd σ H p⟩
theorem for_range{lo:Int}{n:Nat}{g:TG}{tb:TS}{D:Ends}{σ:St}{H:Hp}(Pv:Nat→St→Hp→Prop)(h0:Pv 0 σ H)
 (hs:∀i σ H,i < n→Pv i σ H→g (.int (lo+i)) σ H fun σ2 H2=>tb {D with nx:=Pv (i+1),ct:=Pv (i+1),bk:=D.nx} σ2 H2) (hd:∀σ H,Pv n σ H→D.nx σ H):
 ∃W:Nat→Nat→St→Hp→Prop,(∃m,W 0 m σ H)∧∀i m σ H,W i m σ H→
  ((Itr lo n).stop i H∧D.nx σ H)∨((Itr lo n).go i H∧∃N:St→Hp→Prop,(∀σ' H',N σ' H'→∃m',m' < m∧W (i+1) m' σ' H')∧∀x H',(Itr lo n).yld i H x H'→g x σ H' fun σ2 H2=>tb {D with nx:=N,ct:=N,bk:=D.nx} σ2 H2):=by
 refine ⟨fun i m σ H=>m=n - i∧i≤n∧Pv i σ H,⟨n,by simp,Nat.zero_le _,h0⟩,?_⟩
 rintro i m σ H ⟨rfl,hi,p⟩
 by_cases hlt:i < n
 · refine .inr ⟨hlt,Pv (i+1),fun σ' H' p'=>⟨n - (i+1),by omega,rfl,hlt,p'⟩,fun x H' y=>?_⟩
   obtain ⟨e,y⟩:=y
   subst e y
   exact hs i σ _ hlt p
 · have e:i=n:=by omega
   subst e
   exact .inl ⟨Nat.le_refl _,hd σ H p⟩
end L2
namespace L2
noncomputable abbrev R2:=V→V→Hp→VK→Prop
noncomputable def OpR(X:Cx)(f:Value→Value→Sem Value)(r:R2):Prop:=
 ∀(pins:List (Addr×Obj)) (s:Shared) (σ:St) (H:Hp) (x y:V) (v u:Value) (Q:VK),Inv X pins σ H s→RelV x v→RelV y u→r x y H Q→
   wpAny (model X.prog X.w) X.A (f v u) (EP X pins σ Q) X.xe s
noncomputable def UnR(X:Cx)(f:Value→Sem Value)(r:V→Hp→VK→Prop):Prop:=
 ∀(pins:List (Addr×Obj)) (s:Shared) (σ:St) (H:Hp) (x:V) (v:Value) (Q:VK),Inv X pins σ H s→RelV x v→r x H Q→
   wpAny (model X.prog X.w) X.A (f v) (EP X pins σ Q) X.xe s
noncomputable def CallR(X:Cx)(f:Value)(r:List V→Hp→VK→Prop):Prop:=
 ∀(pins:List (Addr×Obj)) (s:Shared) (σ:St) (H:Hp) (xs:List V) (us:List Value) (Q:VK),Inv X pins σ H s→Vals xs us→r xs H Q→
   wpAny (model X.prog X.w) X.A (call f us) (EP X pins σ Q) X.xe s
noncomputable def tOp(r:R2)(ta tb:TE):TE:=fun σ H Q=>ta σ H fun x H1=>tb σ H1 fun y H2=>r x y H2 Q
noncomputable def tUn(r:V→Hp→VK→Prop)(ta:TE):TE:=fun σ H Q=>ta σ H fun x H1=>r x H1 Q
noncomputable def rI(C:Int→Int→Prop)(g:Int→Int→V):R2:=fun x y H Q=>∃i j,x= .int i∧y= .int j∧C i j∧Q (g i j) H
noncomputable def rI0(g:Int→Int→V):R2:=fun x y H Q=>∃i j,x= .int i∧y= .int j∧Q (g i j) H
noncomputable def rU(g:Int→V):V→Hp→VK→Prop:=fun x H Q=>∃i,x= .int i∧Q (g i) H
section
variable {X:Cx} {a b c:Expr} {ta tb tc:TE} {pos:Pos}
theorem binT(ha:PE X a ta)(hb:PE X b tb){pins:List (Addr×Obj)}{s:Shared}{σ:St}{H:Hp}{R:V→V→Hp→Prop}(I:Inv X pins σ H s)
 (h:ta σ H fun x H1=>tb σ H1 fun y H2=>R x y H2) {Q:Value→Shared→Prop} {f:Value→Value→Sem Value}
 (hf:∀v u s2 x y H2,Inv X pins σ H2 s2→RelV x v→RelV y u→R x y H2→wpAny (model X.prog X.w) X.A (f v u) Q X.xe s2):
 wpAny (model X.prog X.w) X.A (eval a X.env) (fun v s₁=>wpAny (model X.prog X.w) X.A (eval b X.env) (fun u s₂=>wpAny (model X.prog X.w) X.A (f v u) Q X.xe s₂) X.xe s₁) X.xe s:=by
 refine thn (ha pins s σ H _ I h) fun v s1 hq_=>?_
 obtain ⟨x,H1,I1,r1,q1⟩:=hq_
 refine thn (hb pins s1 σ H1 _ I1 q1) fun u s2 hq_=>?_
 obtain ⟨y,H2,I2,r2,q2⟩:=hq_
 exact hf v u s2 x y H2 I2 r1 r2 q2
theorem pe_op{op:Operator}{r:R2}(ho:OpR X (binaryOp op) r)(ha:PE X a ta)(hb:PE X b tb):PE X (.BinOp a op b pos) (tOp r ta tb):=by
 intro pins s σ H Q I h
 exact wpAny_BinOp (binT ha hb I h fun v u s2 x y H2 I2 rx ry q=>ho pins s2 σ H2 x y v u Q I2 rx ry q)
theorem pe_un{op:UnaryOp}{r:V→Hp→VK→Prop}(ho:UnR X (unaryOp op) r)(ha:PE X a ta):PE X (.UnaryOp op a pos) (tUn r ta):=by
 intro pins s σ H Q I h
 exact UnaryOp_ (thn (ha pins s σ H _ I h) fun v s1 ⟨x,H1,I1,r1,q1⟩=>ho pins s1 σ H1 x v Q I1 r1 q1)
theorem opI{f:Value→Value→Sem Value}{C:Int→Int→Prop}{g:Int→Int→Int}
 (rule:∀(i j:Int) (t u:Tok) (s:Shared) (Q:Value→Shared→Prop) (E:Value→Shared→Prop),C i j→Q (.int (g i j) s.toks) {s with toks:=s.toks+1}→wpAny (model X.prog X.w) X.A (f (.int i t) (.int j u)) Q E s):
 OpR X f (rI C fun i j=> .int (g i j)):=by
 intro pins s σ H x y v u Q I rx ry h
 obtain ⟨i,j,rfl,rfl,hc,q⟩:=h
 obtain ⟨t,rfl⟩:=rx
 obtain ⟨t',rfl⟩:=ry
 exact rule i j t t' s _ _ hc ⟨.int (g i j),H,I.tok _,⟨_,rfl⟩,q⟩
theorem opI0{f:Value→Value→Sem Value}{g:Int→Int→Int}
 (rule:∀(i j:Int) (t u:Tok) (s:Shared) (Q:Value→Shared→Prop) (E:Value→Shared→Prop),Q (.int (g i j) s.toks) {s with toks:=s.toks+1}→wpAny (model X.prog X.w) X.A (f (.int i t) (.int j u)) Q E s):
 OpR X f (rI0 fun i j=> .int (g i j)):=by
 intro pins s σ H x y v u Q I rx ry h
 obtain ⟨i,j,rfl,rfl,q⟩:=h
 obtain ⟨t,rfl⟩:=rx
 obtain ⟨t',rfl⟩:=ry
 exact rule i j t t' s _ _ ⟨.int (g i j),H,I.tok _,⟨_,rfl⟩,q⟩
theorem opB0{f:Value→Value→Sem Value}{g:Int→Int→Bool}
 (rule:∀(i j:Int) (t u:Tok) (s:Shared) (Q:Value→Shared→Prop) (E:Value→Shared→Prop),Q (.bool (g i j)) s→wpAny (model X.prog X.w) X.A (f (.int i t) (.int j u)) Q E s):
 OpR X f (rI0 fun i j=> .bl (g i j)):=by
 intro pins s σ H x y v u Q I rx ry h
 obtain ⟨i,j,rfl,rfl,q⟩:=h
 obtain ⟨t,rfl⟩:=rx
 obtain ⟨t',rfl⟩:=ry
 exact rule i j t t' s _ _ ⟨.bl (g i j),H,I,rfl,q⟩
noncomputable def CDiv(i j:Int):Prop:=0 < j∧j < 1073741824
noncomputable def CPow(i j:Int):Prop:=0≤j∧j≤1000000∧i.natAbs < 2 ^ 64
noncomputable def CMul(i j:Int):Prop:=(-(2 ^ 64) < i∧i < 2 ^ 64)∨(-(2 ^ 64) < j∧j < 2 ^ 64)
theorem CMul.ok{i j:Int}(h:CMul i j):IntMulOk i j:=by
 rcases h with ⟨h1,h2⟩ | ⟨h1,h2⟩
 · exact .of_left (intBits_le_64 h1 h2)
 · exact .of_right (intBits_le_64 h1 h2)
theorem op_add:OpR X (binaryOp .Add) (rI0 fun i j=> .int (i+j)):=opI0 fun _ _ _ _ _ _ _ q=>add_int q
theorem op_sub:OpR X (binaryOp .Sub) (rI0 fun i j=> .int (i - j)):=opI0 fun _ _ _ _ _ _ _ q=>sub_int q
theorem op_mul:OpR X (binaryOp .Mult) (rI CMul fun i j=> .int (i * j)):=opI fun _ _ _ _ _ _ _ hc q=>mul_int q hc.ok
theorem op_fdiv:OpR X (binaryOp .FloorDiv) (rI CDiv fun i j=> .int (i / j)):=opI fun i j _ _ _ _ _ hc q=>by
 have h1:(0:Int) < j:=hc.1
 have h2:j < 1073741824:=hc.2
 exact floordiv_int (by omega) (by rw [Int.fdiv_eq_ediv_of_nonneg i (by omega)];exact q) (.inl (PyProof.noPylong_small (by omega)))
theorem op_mod:OpR X (binaryOp .Mod) (rI (fun _ j=>0 < j) fun i j=> .int (i % j)):=opI fun i j _ _ _ _ _ hc q=>by
 have h1:(0:Int) < j:=hc
 exact mod_int' (by omega) (by rw [Int.fmod_eq_emod_of_nonneg i (by omega)];exact q)
theorem op_pow:OpR X (binaryOp .Pow) (rI CPow fun i j=> .int (i ^ j.toNat)):=opI fun _ _ _ _ _ _ _ hc q=>pow_int_small hc.1 hc.2.1 hc.2.2 q
theorem unI{f:Value→Sem Value}{g:Int→Int}
 (rule:∀(i:Int) (t:Tok) (s:Shared) (Q:Value→Shared→Prop) (E:Value→Shared→Prop),Q (.int (g i) s.toks) {s with toks:=s.toks+1}→wpAny (model X.prog X.w) X.A (f (.int i t)) Q E s):
 UnR X f (rU fun i=> .int (g i)):=by
 intro pins s σ H x v Q I rx h
 obtain ⟨i,rfl,q⟩:=h
 obtain ⟨t,rfl⟩:=rx
 exact rule i t s _ _ ⟨.int (g i),H,I.tok _,⟨_,rfl⟩,q⟩
theorem un_neg:UnR X (unaryOp .USub) (rU fun i=> .int (-i)):=unI fun _ _ _ _ _ q=>neg_int q
end
noncomputable def scal:V→V→Bool
 | .non,.non=>true | .non,.int _=>true | .int _,.non=>true | .non,.bl _=>true | .bl _,.non=>true | .non,.str _=>true | .str _,.non=>true
 | .int _,.int _=>true | .bl _,.bl _=>true | .str _,.str _=>true | .byt _,.byt _=>true
 | .int _,.str _=>true | .str _,.int _=>true | .bl _,.str _=>true | .str _,.bl _=>true
 | _,_=>false
noncomputable def rEq:R2:=fun x y H Q=>scal x y=true∧Q (.bl (decide (x=y))) H
noncomputable def rNe:R2:=fun x y H Q=>scal x y=true∧Q (.bl (!decide (x=y))) H
theorem dec_int{i j:Int}:decide (V.int i=V.int j)=(i==j):=by
 rw [Bool.eq_iff_iff]
 simp
theorem dec_bl{i j:Bool}:decide (V.bl i=V.bl j)=(i==j):=by
 rw [Bool.eq_iff_iff]
 simp
theorem dec_str{i j:Str}:decide (V.str i=V.str j)=(i==j):=by
 rw [Bool.eq_iff_iff]
 simp
theorem dec_byt{i j:Array UInt8}:decide (V.byt i=V.byt j)=(i.toList==j.toList):=by
 rw [Bool.eq_iff_iff]
 cases i
 cases j
 simp
section
variable {X:Cx} {a b c:Expr} {ta tb tc:TE} {pos:Pos}
theorem fin_bl{pins:List (Addr×Obj)}{σ:St}{H:Hp}{s:Shared}{Q:VK}{k k':Bool}(I:Inv X pins σ H s)(q:Q (.bl k) H)(e:k=k'):EP X pins σ Q (.bool k') s:=by
 subst e
 exact ⟨.bl k,H,I,rfl,q⟩
theorem op_eq:OpR X (compareOp .Eq) rEq:=by
 intro pins s σ H x y v u Q I rx ry h
 obtain ⟨hs,q⟩:=h
 cases x with
 | non=>
  cases rx
  cases y with
  | non=>cases ry;exact PySem.EqNone.eq_none_none (fin_bl I q (by simp))
  | bl j=>cases ry;exact PySem.EqNone.eq_none_bool (fin_bl I q (by simp))
  | int j=>obtain ⟨t',rfl⟩:=ry;exact PySem.EqNone.eq_none_int (fin_bl I q (by simp))
  | str j=>obtain ⟨t',rfl⟩:=ry;exact PySem.EqNone.eq_none_str (fin_bl I q (by simp))
  | _=>exact absurd (show false=true from hs) Bool.false_ne_true
 | bl i=>
  cases rx
  cases y with
  | non=>cases ry;exact PySem.EqNone.eq_bool_none (fin_bl I q (by simp))
  | bl j=>cases ry;exact eq_bool (fin_bl I q dec_bl)
  | str j=>obtain ⟨t',rfl⟩:=ry;exact PySem.EqMixed.eq_bool_str (fin_bl I q (by simp))
  | _=>exact absurd (show false=true from hs) Bool.false_ne_true
 | int i=>
  obtain ⟨t,rfl⟩:=rx
  cases y with
  | non=>cases ry;exact PySem.EqNone.eq_int_none (fin_bl I q (by simp))
  | int j=>obtain ⟨t',rfl⟩:=ry;exact eq_int (fin_bl I q dec_int)
  | str j=>obtain ⟨t',rfl⟩:=ry;exact PySem.EqMixed.eq_int_str (fin_bl I q (by simp))
  | _=>exact absurd (show false=true from hs) Bool.false_ne_true
 | str i=>
  obtain ⟨t,rfl⟩:=rx
  cases y with
  | non=>cases ry;exact PySem.EqNone.eq_str_none (fin_bl I q (by simp))
  | bl j=>cases ry;exact PySem.EqMixed.eq_str_bool (fin_bl I q (by simp))
  | int j=>obtain ⟨t',rfl⟩:=ry;exact PySem.EqMixed.eq_str_int (fin_bl I q (by simp))
  | str j=>obtain ⟨t',rfl⟩:=ry;exact eq_str (fin_bl I q dec_str)
  | _=>exact absurd (show false=true from hs) Bool.false_ne_true
 | byt i=>
  obtain ⟨t,rfl⟩:=rx
  cases y with
  | byt j=>obtain ⟨t',rfl⟩:=ry;exact PySem.W.eq_bytes (fin_bl I q dec_byt)
  | _=>exact absurd (show false=true from hs) Bool.false_ne_true
 | _=>cases y <;> exact absurd (show false=true from hs) Bool.false_ne_true
theorem op_ne:OpR X (compareOp .NotEq) rNe:=by
 intro pins s σ H x y v u Q I rx ry h
 obtain ⟨hs,q⟩:=h
 cases x with
 | non=>
  cases rx
  cases y with
  | non=>cases ry;exact PySem.EqNone.ne_none_none (fin_bl I q (by simp))
  | bl j=>cases ry;exact PySem.EqNone.ne_none_bool (fin_bl I q (by simp))
  | int j=>obtain ⟨t',rfl⟩:=ry;exact PySem.EqNone.ne_none_int (fin_bl I q (by simp))
  | str j=>obtain ⟨t',rfl⟩:=ry;exact PySem.EqNone.ne_none_str (fin_bl I q (by simp))
  | _=>exact absurd (show false=true from hs) Bool.false_ne_true
 | bl i=>
  cases rx
  cases y with
  | non=>cases ry;exact PySem.EqNone.ne_bool_none (fin_bl I q (by simp))
  | bl j=>cases ry;exact ne_bool (fin_bl I q (congrArg not dec_bl))
  | str j=>obtain ⟨t',rfl⟩:=ry;exact PySem.EqMixed.ne_bool_str (fin_bl I q (by simp))
  | _=>exact absurd (show false=true from hs) Bool.false_ne_true
 | int i=>
  obtain ⟨t,rfl⟩:=rx
  cases y with
  | non=>cases ry;exact PySem.EqNone.ne_int_none (fin_bl I q (by simp))
  | int j=>obtain ⟨t',rfl⟩:=ry;exact ne_int (fin_bl I q (congrArg not dec_int))
  | str j=>obtain ⟨t',rfl⟩:=ry;exact PySem.EqMixed.ne_int_str (fin_bl I q (by simp))
  | _=>exact absurd (show false=true from hs) Bool.false_ne_true
 | str i=>
  obtain ⟨t,rfl⟩:=rx
  cases y with
  | non=>cases ry;exact PySem.EqNone.ne_str_none (fin_bl I q (by simp))
  | bl j=>cases ry;exact PySem.EqMixed.ne_str_bool (fin_bl I q (by simp))
  | int j=>obtain ⟨t',rfl⟩:=ry;exact PySem.EqMixed.ne_str_int (fin_bl I q (by simp))
  | str j=>obtain ⟨t',rfl⟩:=ry;exact ne_str (fin_bl I q (congrArg not dec_str))
  | _=>exact absurd (show false=true from hs) Bool.false_ne_true
 | byt i=>
  obtain ⟨t,rfl⟩:=rx
  cases y with
  | byt j=>obtain ⟨t',rfl⟩:=ry;exact PySem.W.ne_bytes (fin_bl I q (congrArg not dec_byt))
  | _=>exact absurd (show false=true from hs) Bool.false_ne_true
 | _=>cases y <;> exact absurd (show false=true from hs) Bool.false_ne_true
theorem op_lt:OpR X (compareOp .Lt) (rI0 fun i j=> .bl (decide (i < j))):=opB0 fun _ _ _ _ _ _ _ q=>lt_int q
theorem op_le:OpR X (compareOp .LtE) (rI0 fun i j=> .bl (decide (i≤j))):=opB0 fun _ _ _ _ _ _ _ q=>le_int q
theorem op_gt:OpR X (compareOp .Gt) (rI0 fun i j=> .bl (decide (j < i))):=opB0 fun _ _ _ _ _ _ _ q=>gt_int q
theorem op_in_str:OpR X (compareOp .In) (fun x y H Q=>∃i j,x= .str i∧y= .str j∧Q (.bl (!(Builtin.Str.occurrences j i 0 j.length 1).isEmpty)) H):=by
 intro pins s σ H x y v u Q I rx ry h
 obtain ⟨i,j,rfl,rfl,q⟩:=h
 obtain ⟨t,rfl⟩:=rx
 obtain ⟨t',rfl⟩:=ry
 exact in_str (fin_bl I q rfl)
theorem op_notN:OpR X (compareOp .IsNot) (fun x y H Q=>y= .non∧Q (.bl (!decide (x= .non))) H):=by
 intro pins s σ H x y v u Q I rx ry h
 obtain ⟨rfl,q⟩:=h
 cases ry
 refine isnot_none_gen (fin_bl I q ?_)
 cases x <;> first
  | (cases rx;rfl)
  | (obtain ⟨t,rfl⟩:=rx;rfl)
theorem nomark(b:Expr){op:CmpOp}(h:op≠ .In:=by decide)(h2:op≠ .NotIn:=by decide):behindInMarks op b=false:=by
 have e1:(op==CmpOp.In)=false:=by cases op <;> first | rfl | exact absurd rfl h
 have e2:(op==CmpOp.NotIn)=false:=by cases op <;> first | rfl | exact absurd rfl h2
 cases b <;> simp [behindInMarks,e1,e2]
theorem pe_cmpR{op:CmpOp}{r:R2}(ho:OpR X (compareOp op) r)(ha:PE X a ta)(hb:PE X b tb)(hm:behindInMarks op b=false):PE X (.Compare a [op] [b] pos) (tOp r ta tb):=by
 intro pins s σ H Q I h
 exact wpAny_Compare1 (binT ha hb I h fun v u s2 x y H2 I2 rx ry q=>ho pins s2 σ H2 x y v u Q I2 rx ry q) hm
noncomputable def tTest(t:TE):TT:=fun σ H Q=>t σ H fun x H'=>∃k,x= .bl k∧Q k H'
theorem pt_cmpR{op:CmpOp}{r:R2}(ho:OpR X (compareOp op) r)(ha:PE X a ta)(hb:PE X b tb)(hm:behindInMarks op b=false):PT X (.Compare a [op] [b] pos) (tTest (tOp r ta tb)):=by
 intro pins s σ H Q I h
 refine wpAny_isTrue_Compare1 (thn (ha pins s σ H _ I h) fun v s1 ⟨x,H1,I1,r1,q1⟩=>thn (hb pins s1 σ H1 _ I1 q1) fun u s2 ⟨y,H2,I2,r2,q2⟩=>
  thn (ho pins s2 σ H2 x y v u _ I2 r1 r2 q2) fun c s3 ⟨z,H3,I3,r3,k,e,q3⟩=>?_) hm
 subst e
 cases r3
 exact wpAny_truthy_bool ⟨H3,I3,q3⟩
noncomputable def tChain(r r':R2)(ta tb tc:TE):TE:=fun σ H Q=>ta σ H fun x H1=>tb σ H1 fun y H2=>r x y H2 fun z H3=>∃k,z= .bl k∧
 (if k=true then tc σ H3 fun w' H4=>r' y w' H4 Q else Q (.bl false) H3)
theorem pe_chain{op op':CmpOp}{r r':R2}(ho:OpR X (compareOp op) r)(ho':OpR X (compareOp op') r')(ha:PE X a ta)(hb:PE X b tb)(hc:PE X c tc)
 (hm:lastMarks [op,op'] [b,c]=false:=by with_unfolding_all rfl):PE X (.Compare a [op,op'] [b,c] pos) (tChain r r' ta tb tc):=by
 intro pins s σ H Q I h
 refine Compare_chain (thn (ha pins s σ H _ I h) fun v s1 ⟨x,H1,I1,r1,q1⟩=>chain_link (thn (hb pins s1 σ H1 _ I1 q1) fun u s2 ⟨y,H2,I2,r2,q2⟩=>
  thn (ho pins s2 σ H2 x y v u _ I2 r1 r2 q2) fun d s3 ⟨z,H3,I3,r3,k,e,q3⟩=>?_)) hm
 subst e
 cases r3
 refine wpAny_truthy_bool ?_
 cases k with
 | false=>exact ite_ff ⟨.bl false,H3,I3,rfl,q3⟩
 | true=>exact ite_tt (chain_last (thn (hc pins s3 σ H3 _ I3 q3) fun w' s4 ⟨z',H4,I4,r4,q4⟩=>ho' pins s4 σ H4 y z' u w' Q I4 r2 r4 q4))
theorem line63:(sizeLine:Nat) < 2 ^ 63:=by rw [sizeLine_eq];decide
theorem op_add_str:OpR X (binaryOp .Add) (fun x y H Q=>∃i j,x= .str i∧y= .str j∧i.length+j.length≤sizeLine∧Q (.str (i++j)) H):=by
 intro pins s σ H x y v u Q I rx ry h
 obtain ⟨i,j,rfl,rfl,hz,q⟩:=h
 obtain ⟨t,rfl⟩:=rx
 obtain ⟨t',rfl⟩:=ry
 exact add_str (fun t' tk=>⟨.str (i++j),H,I.tok _,⟨_,rfl⟩,q⟩) hz
theorem vals1{x:V}{us:List Value}(r:Vals [x] us):∃u,us=[u]∧RelV x u:=by
 cases r with
 | cons r1 r2=>cases r2;exact ⟨_,rfl,r1⟩
theorem vals2{x y:V}{us:List Value}(r:Vals [x,y] us):∃u w',us=[u,w']∧RelV x u∧RelV y w':=by
 cases r with
 | cons r1 r2=>
  cases r2 with
  | cons r3 r4=>cases r4;exact ⟨_,_,rfl,r1,r3⟩
theorem call_int1:CallR X (.type "int") (fun xs H Q=>(∃i,xs=[.int i]∧Q (.int i) H)∨∃k,xs=[.bl k]∧Q (.int (if k then 1 else 0)) H):=by
 intro pins s σ H xs us Q I r h
 rcases h with ⟨i,rfl,q⟩ | ⟨k,rfl,q⟩
 · obtain ⟨u,rfl,t,rfl⟩:=vals1 r
   exact call_int_int ⟨.int i,H,I,⟨_,rfl⟩,q⟩
 · obtain ⟨u,rfl,r1⟩:=vals1 r
   cases r1
   exact call_int_bool ⟨.int (if k then 1 else 0),H,I.tok _,⟨_,rfl⟩,q⟩
end
end L2
namespace L2
structure ObjM(h:Heap)(x dx C:Addr)(mA:Str→Option Value):Prop where
 obj:h.get? x=some (PySem.W.instObj C dx)
 ns:h.Ns1 dx mA
 ne:dx≠x
theorem lookIn_ns{h:Heap}{dx:Addr}{mA:Str→Option Value}(n:h.Ns1 dx mA):∃od,h.get? dx=some od∧∀name,PySem.W.lookIn name od=some (mA name):=by
 obtain ⟨o,es,ep,ho,hd,hk,_,hm⟩:=n
 refine ⟨o,ho,fun name=>?_⟩
 have e:=hm name
 unfold nsFind findBy at e
 rw [← Array.find?_toList]at e
 unfold PySem.W.lookIn
 rw [hd]
 dsimp only
 split
 · rename_i y q
   rw [q]at e
   exact congrArg some e
 · rename_i q
   rw [q]at e
   have a:es.toList.any (·.refKey)=false:=by
    rw [List.any_eq_false]
    intro y hy
    obtain ⟨z,t,hkey⟩:=hk y (Array.mem_toList_iff.mp hy)
    simp [DictEntry.refKey,hkey]
   have a':¬es.toList.any (·.refKey)=true:=by rw [a];exact Bool.false_ne_true
   rw [if_neg a']
   exact congrArg some e
theorem ObjM.look{h:Heap}{x dx C:Addr}{mA:Str→Option Value}(I:ObjM h x dx C mA):∃od,PySem.W.InstAt h x (PySem.W.instObj C dx) C (some od)∧∀name,PySem.W.lookIn name od=some (mA name):=
 let ⟨od,ho,hl⟩:=lookIn_ns I.ns
 ⟨od,⟨I.obj,rfl,rfl,ho⟩,hl⟩
section
variable {prog:Program} {w:World} {A:Around} {E:Value→Shared→Prop} {s:Shared} {K:PySem.W.Frag} {x dx C f:Addr} {mA:Str→Option Value} {name:Str} {v:Value}
theorem get_map{expr:Bool}{Q:Value→Shared→Prop}(X:K.In s.heap)(I:ObjM s.heap x dx C mA)(hg:PySem.W.plainGet K C name=true)(hh:PySem.W.hasDictIn K C=true)
 (ha:PySem.W.findIn K (.ref C) name=some none) (hv:mA name=some v) (hv':PySem.W.handedIn v=true) (h:Q v {s with toks:=s.toks+1}):
 wpAny (model prog w) A (getAttr (.ref x) name expr) Q E s:=by
 obtain ⟨od,J,hl⟩:=I.look
 exact PySem.W.get_value X J (PySem.W.plainGet_of hg).1 (PySem.W.findObj_own hh ha rfl (by rw [hl,hv])) hv' h
theorem get_meth{pl:Sem Bool}{Q:Value×List Value→Shared→Prop}(X:K.In s.heap)(I:ObjM s.heap x dx C mA)(hg:PySem.W.plainGet K C name=true)
 (hf:PySem.W.findIn K (.ref C) name=some (some (.ref f))) (ht:PySem.W.isFn K (.ref f)=true) (hv:mA name=none) (h:Q (.ref f,[.ref x]) s):
 wpAny (model prog w) A (getMethod (.ref x) name pl) Q E s:=by
 obtain ⟨od,J,hl⟩:=I.look
 exact PySem.W.method_fn X J (PySem.W.plainGet_of hg).1 (PySem.W.plainGet_of hg).2 hf (beq_iff_eq.mp ht) (by show (PySem.W.lookIn name od).map (·.isSome)=some false;rw [hl,hv];rfl) h
theorem set_map{ns:List Str}{Q:Unit→Shared→Prop}(X:K.In s.heap)(I:ObjM s.heap x dx C mA)
 (hs:PySem.W.findIn K (.ref C) "__setattr__"=some (some (.builtin "object.__setattr__"))) (hp:PySem.W.plainOver K C=true) (ht:PySem.W.takerIn K C name=some none) (hh:PySem.W.hasDictIn K C=true)
 (hw:PySem.Within mA ns) (hsz:ns.length≤sizeLine)
 (h:∀h',ObjM h' x dx C (fun y=>if y=name then some v else mA y)→Heap.SameBut dx s.heap h'→Q () {s with heap:=h',toks:=s.toks+2}):
 wpAny (model prog w) A (setAttr (.ref x) name v) Q E s:=by
 obtain ⟨od,J,hl⟩:=I.look
 refine PySem.W.set_plain X J hs (PySem.W.osa_open (s:={s with toks:=s.toks+1}) (r:=none) X J hp ht fun b=>?_)
 obtain ⟨cd,hc,hd'⟩:=PySem.W.any_some hh
 have hx:s.heap.get? x=some ⟨.ref C,some dx,.plain,#[]⟩:=I.obj
 refine wpAny_bind (wpAny_pure (wpAny_bind (wpAny_bind (wpAny_loadPart hx (wpAny_bind (PySem.W.Looks.here (s:={s with toks:=s.toks+1}) (PySem.W.looks_clsIn X hc) ?_))))))
 rw [hd']
 refine wpAny_pure (a:=some dx) (wpAny_bind (wpAny_pure (wpAny_bind ?_)))
 refine wpAny_nsSet1 (s:={s with toks:=s.toks+1}) I.ns fun h' hn2 hs2=>?_
 obtain ⟨oD,esD,epD,hoD,hdD,hcD⟩:=hn2.count (PySem.Within.cons name v hw)
 refine wpAny_bind (wpAny_lookBehind hoD (by rw [hdD];exact pastItsLine_dict (Nat.le_trans hcD (by rw [List.length_cons];omega))) ?_)
 exact wpAny_pure (h _ ⟨(hs2.2 _ (Ne.symm I.ne)).trans I.obj,hn2,I.ne⟩ hs2)
theorem make_map{R:Result→Shared→Prop}{vs:List Value}{kw:List (Str×Value)}(X:K.In s.heap)(hm:PySem.W.makesIn K C=true)
 (hi:PySem.W.findIn K (.ref C) "__init__"=some (some (.ref f))) (hf:PySem.W.typeIn K (.ref f)=some (.type "function"))
 (h:codeAny (model prog w) (A.under (.builtin "type.__call__" ⟨.ref C::vs,kw⟩)) (.call (.ref f) ⟨.ref (s.heap.objs.size+1)::vs,kw⟩) (PySem.W.InitBack (s.heap.objs.size+1) R)
  {s with heap:=(s.heap.push PySem.W.emptyDict).push (PySem.W.instObj C s.heap.objs.size)}):
 codeAny (model prog w) A (.call (.ref C) ⟨vs,kw⟩) R s:=by
 obtain ⟨hh,g,d,t,os⟩:=s
 exact PySem.W.make_core (PySem.W.makes_of X hm) (PySem.W.looks_findIn X hi) (fun self=>PySem.W.bind_fn X self hf) (.inl rfl) h
end
noncomputable def putF(f:Str)(v:V):List (Str×V)→List (Str×V)
 | []=>[(f,v)]
 | (g,x)::r=>if g=f then (g,v)::r else (g,x)::putF f v r
theorem lookup_putF(f g:Str)(v:V):∀fs:List (Str×V),(putF f v fs).lookup g=if g=f then some v else fs.lookup g
 | []=>by
  show List.lookup g [(f,v)]=_
  by_cases h:g=f
  · have hb:(g==f)=true:=beq_iff_eq.mpr h
    simp only [List.lookup,hb,if_pos h]
  · have hb:(g==f)=false:=beq_eq_false_iff_ne.mpr h
    simp only [List.lookup,hb,if_neg h]
 | (k,x)::r=>by
  have ih:=lookup_putF f g v r
  rw [show putF f v ((k,x)::r)=(if k=f then (k,v)::r else (k,x)::putF f v r) from rfl]
  by_cases hk:k=f
  · rw [if_pos hk]
    by_cases h:g=k
    · have hb:(g==k)=true:=beq_iff_eq.mpr h
      simp only [List.lookup,hb,if_pos (h.trans hk)]
    · have hb:(g==k)=false:=beq_eq_false_iff_ne.mpr h
      simp only [List.lookup,hb,if_neg (fun e:g=f=>h (e.trans hk.symm))]
  · rw [if_neg hk]
    by_cases h:g=k
    · have hb:(g==k)=true:=beq_iff_eq.mpr h
      simp only [List.lookup,hb,if_neg (fun e:g=f=>hk (h.symm.trans e))]
    · have hb:(g==k)=false:=beq_eq_false_iff_ne.mpr h
      simp only [List.lookup,hb]
      exact ih
theorem keys_putF(f:Str)(v:V):∀fs:List (Str×V),f∈(putF f v fs).map (·.1)∧∀g,g∈fs.map (·.1)→g∈(putF f v fs).map (·.1)
 | []=>⟨by simp [putF],fun g h=>by simp at h⟩
 | (k,x)::r=>by
  obtain ⟨i1,i2⟩:=keys_putF f v r
  rw [show putF f v ((k,x)::r)=(if k=f then (k,v)::r else (k,x)::putF f v r) from rfl]
  by_cases hk:k=f
  · rw [if_pos hk]
    subst hk
    exact ⟨by simp,fun g h=>by simpa using h⟩
  · rw [if_neg hk]
    refine ⟨?_,fun g h=>?_⟩
    · rw [List.map_cons]
      exact List.mem_cons_of_mem _ i1
    · rw [List.map_cons]at h ⊢
      rcases List.mem_cons.mp h with e | e
      · exact List.mem_cons.mpr (.inl e)
      · exact List.mem_cons_of_mem _ (i2 g e)
theorem length_putF(f:Str)(v:V):∀fs:List (Str×V),(putF f v fs).length≤fs.length+1
 | []=>by simp [putF]
 | (k,x)::r=>by
  have ih:=length_putF f v r
  rw [show putF f v ((k,x)::r)=(if k=f then (k,v)::r else (k,x)::putF f v r) from rfl]
  by_cases hk:k=f
  · rw [if_pos hk,List.length_cons,List.length_cons];omega
  · rw [if_neg hk,List.length_cons,List.length_cons];omega
theorem RelO.some_of{v:V}{o:Option Value}(r:RelO (some v) o):∃u,o=some u∧RelV v u:=by
 cases o with
 | none=>exact (show False from r).elim
 | some u=>exact ⟨u,rfl,r⟩
theorem RelO.none_of{o:Option Value}(r:RelO none o):o=none:=by
 cases o with
 | none=>rfl
 | some u=>exact (show False from r).elim
theorem handed_of{v:V}{u:Value}(r:RelV v u):PySem.W.handedIn u=true:=by
 cases v with
 | non=>cases (show u=Value.none from r);rfl
 | bl b=>cases (show u=Value.bool b from r);rfl
 | int i=>obtain ⟨t,e⟩:=(show ∃t,u=Value.int i t from r);cases e;rfl
 | str x=>obtain ⟨t,e⟩:=(show ∃t,u=Value.str x t from r);cases e;rfl
 | byt b=>obtain ⟨t,e⟩:=(show ∃t,u=Value.bytes b t from r);cases e;rfl
 | flt b=>obtain ⟨t,e⟩:=(show ∃t,u=Value.float b t from r);cases e;rfl
 | ref a=>cases (show u=Value.ref a from r);rfl
 | ty n=>cases (show u=Value.type n from r);rfl
section
variable {P:Program} {w:World} {H H':Hp} {h h':Heap} {a C dx:Addr} {fs fs':List (Str×V)}
theorem ins_get(hok:HOk P w H h)(e:H a=some (.ins C dx fs)):∃mA,ObjM h a dx C mA∧(∀f,RelO (fs.lookup f) (mA f))∧PySem.Within mA (fs.map (·.1))∧fs.length≤1000∧H dx=some (.own a):=by
 obtain ⟨d,z,ne,ob,mA,n,r,q⟩:=(show ObjOk P w H h a (.ins C dx fs) from hok a _ e)
 exact ⟨mA,⟨ob,n,ne⟩,r,q,z,d⟩
end
structure Cls(K:PySem.W.Frag)(C:Addr):Prop where
 pg:PySem.W.plainGet K C Str.empty=true
 hd:PySem.W.hasDictIn K C=true
 po:PySem.W.plainOver K C=true
 sa:PySem.W.findIn K (.ref C) "__setattr__"=some (some (.builtin "object.__setattr__"))
theorem Cls.get{K:PySem.W.Frag}{C:Addr}(c:Cls K C)(f:Str):PySem.W.plainGet K C f=true:=c.pg
noncomputable def NoAttr(K:PySem.W.Frag)(C:Addr)(f:Str):Prop:=PySem.W.findIn K (.ref C) f=some none
theorem NoAttr.taker{K:PySem.W.Frag}{C:Addr}{f:Str}(n:NoAttr K C f):PySem.W.takerIn K C f=some none:=by
 unfold PySem.W.takerIn
 rw [show PySem.W.findIn K (.ref C) f=some none from n]
 rfl
structure Meth(K:PySem.W.Frag)(C:Addr)(m:Str)(f:Addr):Prop where
 at_:PySem.W.findIn K (.ref C) m=some (some (.ref f))
 fn:PySem.W.isFn K (.ref f)=true
 kp:PySem.W.keepIn K (.ref f)=true
section
variable {X:Cx} {pins:List (Addr×Obj)} {σ:St} {H:Hp} {s:Shared} {a C dx:Addr} {fs:List (Str×V)} {f:Str} {v:V} {A:Around} {E:Value→Shared→Prop}
theorem getattr_ok{b:Bool}{Q:Value→Shared→Prop}(I:Inv X pins σ H s)(e:H a=some (.ins C dx fs))(c:Cls X.K C)(n:NoAttr X.K C f)(l:fs.lookup f=some v)
 (h:∀u s',Inv X pins σ H s'→RelV v u→Q u s'):wpAny (model X.prog X.w) A (getAttr (.ref a) f b) Q E s:=by
 obtain ⟨mA,O,r,_,_,_⟩:=ins_get I.hok e
 obtain ⟨u,hu,ru⟩:=RelO.some_of (v:=v) (o:=mA f) (by rw [← l];exact r f)
 exact get_map I.kIn O (c.get f) c.hd n hu (handed_of ru) (h u _ (I.tok _) ru)
theorem getmeth_ok{m:Str}{g:Addr}{pl:Sem Bool}{Q:Value×List Value→Shared→Prop}(I:Inv X pins σ H s)(e:H a=some (.ins C dx fs))(c:Cls X.K C)(k:Meth X.K C m g)(l:fs.lookup m=none)
 (h:Q (.ref g,[.ref a]) s):wpAny (model X.prog X.w) A (getMethod (.ref a) m pl) Q E s:=by
 obtain ⟨mA,O,r,_,_,_⟩:=ins_get I.hok e
 have hn:mA m=none:=RelO.none_of (by rw [← l];exact r m)
 exact get_meth I.kIn O (c.get m) k.at_ k.fn hn h
theorem setattr_ok{y:V}{u:Value}{Q:Unit→Shared→Prop}(I:Inv X pins σ H s)(e:H a=some (.ins C dx fs))(c:Cls X.K C)(n:NoAttr X.K C f)(hl:fs.length < 1000)(ry:RelV y u)
 (h:∀s',Inv X pins σ (upd H a (.ins C dx (putF f y fs))) s'→Q () s'):wpAny (model X.prog X.w) A (setAttr (.ref a) f u) Q E s:=by
 obtain ⟨mA,O,r,wi,_,ho⟩:=ins_get I.hok e
 have hz:(fs.map (·.1)).length≤sizeLine:=by rw [List.length_map,sizeLine_eq];omega
 refine set_map I.kIn O c.sa c.po n.taker c.hd wi hz fun h' O' sb=>h _ ?_
 have hd:∃o,h'.get? dx=some o:=let ⟨o,_,_,e',_⟩:=O'.ns;⟨o,e'⟩
 refine I.write (x:=a) (e:=dx) (by rw [e];exact True.intro) (.inr ho) (fun b q hb z=>(sb.2 b hb).trans z) hd ?_
 refine ⟨by rw [upd_ne O.ne];exact ho,?_,O.ne,O'.obj,_,O'.ns,fun g=>?_,fun g hg=>?_⟩
 · have:=length_putF f y fs;omega
 · show RelO ((putF f y fs).lookup g) (if g=f then some u else mA g)
   rw [lookup_putF]
   by_cases q:g=f
   · rw [if_pos q,if_pos q];exact ry
   · rw [if_neg q,if_neg q];exact r g
 · by_cases q:g=f
   · rw [q];exact (keys_putF f y fs).1
   · refine (keys_putF f y fs).2 g (wi g fun z=>hg ?_)
     show (if g=f then some u else mA g)=none
     rw [if_neg q];exact z
theorem Inv.made(I:Inv X pins σ H s):Inv X pins σ (upd (upd H s.heap.objs.size (.own (s.heap.objs.size+1))) (s.heap.objs.size+1) (.ins C s.heap.objs.size []))
 {s with heap:=(s.heap.push PySem.W.emptyDict).push (PySem.W.instObj C s.heap.objs.size)}:=by
 have e1:(s.heap.push PySem.W.emptyDict).get? s.heap.objs.size=some PySem.W.emptyDict:=Heap.get?_push_size s.heap rfl
 have e2:((s.heap.push PySem.W.emptyDict).push (PySem.W.instObj C s.heap.objs.size)).get? (s.heap.objs.size+1)=some (PySem.W.instObj C s.heap.objs.size):=by
  have:=Heap.get?_push_size (s.heap.push PySem.W.emptyDict) (o:=PySem.W.instObj C s.heap.objs.size) rfl
  rwa [Heap.size_push]at this
 have e3:(s.heap.push PySem.W.emptyDict).Ns s.heap.objs.size (fun _=>none):=⟨PySem.W.emptyDict,#[],_,e1,rfl,(fun e he=>absurd he (by simp)),fun _=>rfl⟩
 have I1:=I.laid (a:=s.heap.objs.size) (o:= .own (s.heap.objs.size+1)) (h':=s.heap.push PySem.W.emptyDict) (t':=s.toks) (fun b u q=>Heap.get?_push_of_some _ q) (Nat.le_refl _) ⟨_,e1⟩
 refine I1.laid (a:=s.heap.objs.size+1) (o:= .ins C s.heap.objs.size []) (t':=s.toks) (fun b u q=>Heap.get?_push_of_some _ q) (Nat.le_of_eq (Heap.size_push _ _)) ?_
 have ne:s.heap.objs.size≠s.heap.objs.size+1:=Nat.ne_of_lt (Nat.lt_succ_self _)
 refine ⟨by rw [upd_ne ne,upd_same],Nat.zero_le _,ne,e2,fun _=>none,(Heap.Ns1.of_empty e3).at fun o q=>Heap.get?_push_of_some _ q,fun _=>True.intro,fun y hy=>absurd rfl hy⟩
theorem attr_of{prog:Program}{w:World}{env:Env}{e:Expr}{f:Str}{pos:Pos}{s:Shared}{Q:Value→Shared→Prop}(hb:attributeBase e f env (eval e env)=eval e env)
 (h:wpAny (model prog w) A (eval e env) (fun o s₁=>wpAny (model prog w) A (getAttr o f true) Q E s₁) E s):wpAny (model prog w) A (eval (.Attribute e f pos) env) Q E s:=
 Attribute_any_ h (by rw [arm_eval_Attribute,hb])
end
noncomputable def tFld(K:PySem.W.Frag)(ta:TE)(f:Str):TE:=fun σ H Q=>ta σ H fun x H1=>∃a C dx fs v,x= .ref a∧H1 a=some (.ins C dx fs)∧Cls K C∧NoAttr K C f∧fs.lookup f=some v∧Q v H1
noncomputable def sFld(K:PySem.W.Frag)(ta tv:TE)(f:Str):TS:=fun D σ H=>tv σ H fun y H1=>ta σ H1 fun x H2=>∃a C dx fs,x= .ref a∧H2 a=some (.ins C dx fs)∧Cls K C∧NoAttr K C f∧fs.length < 1000∧
 D.nx σ (upd H2 a (.ins C dx (putF f y fs)))
noncomputable def InOp(X:Cx)(op:Operator)(rd:V→V→Hp→VK→Prop):Prop:=
 ∀(pins:List (Addr×Obj)) (s:Shared) (σ:St) (H:Hp) (x y:V) (u v:Value) (Q:VK),Inv X pins σ H s→RelV x u→RelV y v→rd x y H Q→wpAny (model X.prog X.w) X.A (inplaceOp op u v) (EP X pins σ Q) X.xe s
noncomputable def sFldAug(K:PySem.W.Frag)(ta tv:TE)(rd:V→V→Hp→VK→Prop)(f:Str):TS:=fun D σ H=>ta σ H fun x H1=>∃a C dx fs v,x= .ref a∧H1 a=some (.ins C dx fs)∧Cls K C∧NoAttr K C f∧fs.lookup f=some v∧
 tv σ H1 fun y H2=>rd v y H2 fun z H3=>∃dx' fs',H3 a=some (.ins C dx' fs')∧fs'.length < 1000∧D.nx σ (upd H3 a (.ins C dx' (putF f z fs')))
section
variable {X:Cx} {o e value:Expr} {f:Str} {pos pos' tpos:Pos} {ta tv:TE}
theorem pe_fld(he:PE X e ta)(hb:attributeBase e f X.env (eval e X.env)=eval e X.env):PE X (.Attribute e f pos) (tFld X.K ta f):=by
 intro pins s σ H Q I h
 refine attr_of hb (thn (he pins s σ H _ I h) fun u s1 hq_=>?_)
 obtain ⟨x,H1,I1,rx,a,C,dx,fs,v,ex,ea,c,n,l,q⟩:=hq_
 subst ex
 obtain rfl:u=Value.ref a:=rx
 exact getattr_ok I1 ea c n l fun u' s2 I2 ru=>⟨v,H1,I2,ru,q⟩
theorem ps_fld(ha:PE X o ta)(hv:PE X value tv)(hs:swapsWith value (some (.Attribute o f pos')) pos.line X.env=pure false):PS X (.Assign [.Attribute o f pos'] value pos) (sFld X.K ta tv f):=by
 intro pins s σ H D I h
 refine plainObj_wpAny_Assign_Attribute (thn (hv pins s σ H _ I h) fun u s1 ⟨y,H1,I1,ry,q⟩=>thn (ha pins s1 σ H1 _ I1 q) fun ov s2 hq_=>?_) hs
 obtain ⟨x,H2,I2,rx,a,C,dx,fs,ex,ea,c,n,l,q2⟩:=hq_
 subst ex
 obtain rfl:ov=Value.ref a:=rx
 exact setattr_ok I2 ea c n l ry fun s3 I3=>⟨σ,_,I3,q2⟩
theorem ps_fldaug{op:Operator}{rd:V→V→Hp→VK→Prop}(ha:PE X o ta)(hv:PE X value tv)(hop:InOp X op rd):PS X (.AugAssign (.Attribute o f tpos) op value pos) (sFldAug X.K ta tv rd f):=by
 intro pins s σ H D I h
 refine wpAny_AugAssign_AttributeAny (thn (ha pins s σ H _ I h) fun ov s1 hq_=>?_)
 obtain ⟨x,H1,I1,rx,a,C,dx,fs,v,ex,ea,c,n,l,q⟩:=hq_
 subst ex
 obtain rfl:ov=Value.ref a:=rx
 refine getattr_ok I1 ea c n l fun u s2 I2 ru=>thn (hv pins s2 σ H1 _ I2 q) fun w3 s3 ⟨y,H2,I3,ry,q3⟩=>thn (hop pins s3 σ H2 v y u w3 _ I3 ru ry q3) fun w4 s4 hq_=>?_
 obtain ⟨z,H3,I4,rz,dx',fs',ea',l',q4⟩:=hq_
 exact setattr_ok I4 ea' c n l' rz fun s5 I5=>⟨σ,_,I5,q4⟩
noncomputable def rAdd:V→V→Hp→VK→Prop:=fun x y H Q=>∃i j,x= .int i∧y= .int j∧Q (.int (i+j)) H
theorem in_add:InOp X .Add rAdd:=by
 rintro pins s σ H x y u v Q I rx ry ⟨i,j,rfl,rfl,q⟩
 obtain ⟨t,rfl⟩:=(show ∃t,u=Value.int i t from rx)
 obtain ⟨t',rfl⟩:=(show ∃t',v=Value.int j t' from ry)
 exact PyProof.Rows.iadd_int ⟨.int (i+j),H,I.tok _,⟨_,rfl⟩,q⟩
end
section
variable {X:Cx} {pins:List (Addr×Obj)} {σ:St} {H:Hp} {s:Shared} {A:Around} {E:Value→Shared→Prop} {Q:Value→Shared→Prop} {c:Value} {b:Bool}
inductive TyOf(K:PySem.W.Frag)(H:Hp):V→Value→Prop where
 | non:TyOf K H .non (.type "NoneType")
 | bl (x:Bool):TyOf K H (.bl x) (.type "bool")
 | int (i:Int):TyOf K H (.int i) (.type "int")
 | str (x:Str):TyOf K H (.str x) (.type "str")
 | flt (x:UInt64):TyOf K H (.flt x) (.type "float")
 | lst {a:Addr} {xs:List V} (e:H a=some (.lst xs)):TyOf K H (.ref a) (.type "list")
 | frz {a:Addr} {o:Obj} {xs:List V} (e:H a=some (.frz o (.lst xs))):TyOf K H (.ref a) (.type "list")
 | tup {a:Addr} {xs:List V} (e:H a=some (.tup xs)):TyOf K H (.ref a) (.type "tuple")
 | dK {a:Addr} {kvs:List (Key×V)} (e:H a=some (.dK kvs)):TyOf K H (.ref a) (.type "dict")
 | dT {a:Addr} {kvs:List (List Key×V)} (e:H a=some (.dT kvs)):TyOf K H (.ref a) (.type "dict")
 | ins {a C dx:Addr} {fs:List (Str×V)} (e:H a=some (.ins C dx fs)) (cl:Cls K C) (ha:PySem.W.findIn K (.ref C) "__class__"=some (some (.builtin "object.__class__")))
  (hn:PySem.W.specialIn K (.builtin "object.__class__") "__get__"=some (some (.builtin "getset_descriptor.__get__"))) (htk:PySem.W.takesIn K (.builtin "object.__class__")=some true)
  (hm:PySem.W.mroIn K C (.type "object")=some true):TyOf K H (.ref a) (.ref C)
theorem isinst_ok{x:V}{u t:Value}(I:Inv X pins σ H s)(rx:RelV x u)(ty:TyOf X.K H x t)(e:PySem.W.kitOne X.K t c=some b)(h:∀tk,Q (.bool b) {s with toks:=tk}):
 wpAny (model X.prog X.w) A (call (.builtin "isinstance") [u,c]) Q E s:=by
 cases ty with
 | non=>cases (show u=Value.none from rx);exact PySem.W.kia_one PySem.W.kitx_none I.kIn True.intro e (fun z=>nomatch z) h
 | bl y=>cases (show u=Value.bool y from rx);exact PySem.W.kia_one PySem.W.kitx_bool I.kIn True.intro e (fun z=>nomatch z) h
 | int i=>obtain ⟨t,q⟩:=(show ∃t,u=Value.int i t from rx);cases q;exact PySem.W.kia_one PySem.W.kitx_int I.kIn True.intro e (fun z=>nomatch z) h
 | str y=>obtain ⟨t,q⟩:=(show ∃t,u=Value.str y t from rx);cases q;exact PySem.W.kia_one PySem.W.kitx_str I.kIn True.intro e (fun z=>nomatch z) h
 | flt y=>obtain ⟨t,q⟩:=(show ∃t,u=Value.float y t from rx);cases q;exact PySem.W.kia_one PySem.W.kitx_float I.kIn True.intro e (fun z=>nomatch z) h
 | @lst a xs ea=>
  cases (show u=Value.ref a from rx)
  obtain ⟨_,_,n,_,h1⟩:=(show ObjOk X.prog X.w H s.heap a (.lst xs) from I.hok a _ ea)
  exact PySem.W.kia_one PySem.W.kitx_list I.kIn ⟨_,h1,rfl⟩ e (fun z=>nomatch z) h
 | @frz a ob xs ea=>
  cases (show u=Value.ref a from rx)
  obtain ⟨_,_,_,n,_,h1⟩:=(show ObjOk X.prog X.w H s.heap a (.frz ob (.lst xs)) from I.hok a _ ea)
  exact PySem.W.kia_one PySem.W.kitx_list I.kIn ⟨_,h1,rfl⟩ e (fun z=>nomatch z) h
 | @tup a xs ea=>
  cases (show u=Value.ref a from rx)
  obtain ⟨_,_,_,p⟩:=(show ObjOk X.prog X.w H s.heap a (.tup xs) from I.hok a _ ea)
  obtain ⟨o,h1,h2,_⟩:=p
  exact PySem.W.kia_one PySem.W.kitx_tuple I.kIn ⟨o,h1,h2⟩ e (fun z=>nomatch z) h
 | @dK a kvs ea=>
  cases (show u=Value.ref a from rx)
  obtain ⟨_,_,vs,_,p⟩:=(show ObjOk X.prog X.w H s.heap a (.dK kvs) from I.hok a _ ea)
  obtain ⟨o,es,ep,h1,h2,_⟩:=p
  exact PySem.W.kia_one PySem.W.kitx_dict I.kIn ⟨o,h1,h2.1⟩ e (fun z=>nomatch z) h
 | @dT a kvs ea=>
  cases (show u=Value.ref a from rx)
  obtain ⟨_,_,xs,_,o,es,ep,h1,h2,_⟩:=(show ObjOk X.prog X.w H s.heap a (.dT kvs) from I.hok a _ ea)
  exact PySem.W.kia_one PySem.W.kitx_dict I.kIn ⟨o,h1,h2.1⟩ e (fun z=>nomatch z) h
 | @ins a C dx fs ea cl ha hn htk hm=>
  cases (show u=Value.ref a from rx)
  obtain ⟨mA,O,_⟩:=ins_get I.hok ea
  obtain ⟨od,J,_⟩:=O.look
  exact PySem.W.kia_one (PySem.W.kitx_own (cl.get _) cl.hd ha hn htk hm) I.kIn J e (fun z=>nomatch z) h
end
end L2
namespace L2
structure Room(k:Nat)(A:Around):Prop where
 hd:A.handled=none
 dp:A.depth+3 * k+5 < recursionLimit
 un:A.units+16 * k+200 < cLine
theorem Room.mono{j k:Nat}{A:Around}(r:Room k A)(h:j≤k):Room j A:=⟨r.hd,by have:=r.dp;omega,by have:=r.un;omega⟩
theorem Room.deeper{k:Nat}{A:Around}(r:Room (k+1) A)(env:Env):Room k (A.deeper env):=
 ⟨r.hd,by have:=r.dp;show A.depth+1+3 * k+5 < _;omega,by have:=r.un;show A.units+3+16 * k+200 < _;omega⟩
theorem Room.in1{k:Nat}{A:Around}(r:Room (k+1) A):Room k A.in1:=
 ⟨r.hd,by have:=r.dp;show A.depth+3 * k+5 < _;omega,by have:=r.un;show A.units+1+16 * k+200 < _;omega⟩
theorem make_depth{A:Around}{C:Addr}{us:List Value}{kw:List (Str×Value)}:(A.under (.builtin "type.__call__" ⟨.ref C::us,kw⟩)).depth=A.depth+1:=by
 first | rfl | simp [Around.under,Code.weight,Code.isCreation,Code.isGuard,Code.isCaller,Code.frames,Code.isFrame,guardIds]
theorem make_units{A:Around}{C:Addr}{us:List Value}{kw:List (Str×Value)}:(A.under (.builtin "type.__call__" ⟨.ref C::us,kw⟩)).units=A.units+1:=by
 first | rfl | simp [Around.under,Code.cUnits,Code.frames,Code.isFrame]
theorem Room.make{k:Nat}{A:Around}(r:Room (k+1) A)(C:Addr)(us:List Value)(kw:List (Str×Value)):Room k (A.under (.builtin "type.__call__" ⟨.ref C::us,kw⟩)):=
 ⟨r.hd,by have:=r.dp;rw [make_depth];omega,by have:=r.un;rw [make_units];omega⟩
theorem Room.depth{k:Nat}{A:Around}(r:Room k A):A.depth < recursionLimit:=by have:=r.dp;omega
theorem Room.units{k:Nat}{A:Around}(r:Room k A):A.units+64 < cLine:=by have:=r.un;omega
noncomputable def tNil:TA:=fun _ H Q=>Q [] H
noncomputable def tCons(ta:TE)(tr:TA):TA:=fun σ H Q=>ta σ H fun x H1=>tr σ H1 fun xs H2=>Q (x::xs) H2
section
variable {X:Cx} {e:Expr} {es:List Expr} {te:TE} {t:TA} {pos:Pos}
theorem pa_nil:PA X [] tNil:=fun _ _ _ _ H Q I h=>Calls.spliced_nil ⟨[],H,I,.nil,h⟩
theorem pa_cons(ha:PE X e te)(hr:PA X es t)(hs:starEach (e::es) X.env=(false,eval e X.env)::starEach es X.env:=by rfl):PA X (e::es) (tCons te t):=by
 intro pos pins s σ H Q I h
 rw [hs]
 show wpAny _ _ (spliced ((false,eval e X.env)::backTo pos (starEach es X.env))) _ _ s
 refine Calls.spliced_cons (thn (ha pins s σ H _ I h) fun u s1 hq_=>?_)
 obtain ⟨x,H1,I1,r1,q1⟩:=hq_
 exact thn (hr pos pins s1 σ H1 _ I1 q1) fun us s2 ⟨xs,H2,I2,r2,q2⟩=>⟨x::xs,H2,I2,.cons r1 r2,q2⟩
noncomputable def tTup(t:TA):TE:=fun σ H Q=>t σ H fun xs H1=>xs.length≤sizeLine∧∀p,H1 p=none→Q (.ref p) (upd H1 p (.tup xs))
noncomputable def tLst(t:TA):TE:=fun σ H Q=>t σ H fun xs H1=>xs.length≤sizeLine∧∀p,H1 p=none→Q (.ref p) (upd H1 p (.lst xs))
theorem pe_tup{x1}(h:PA X es t):PE X (.Tuple es x1 pos) (tTup t):=by
 intro pins s σ H Q I hq
 refine wpAny_Tuple_spliced (thn (h pos pins s σ H _ I hq) fun us s1 ⟨xs,H1,I1,r,z,q⟩=>⟨by rw [← r.length];exact z,?_⟩)
 have hf:H1 s1.heap.objs.size=none:=I1.hok.fresh (Nat.le_refl _)
 refine ⟨.ref s1.heap.objs.size,upd H1 s1.heap.objs.size (.tup xs),I1.laid (t':=s1.toks) (fun b u e=>Heap.get?_push_of_some _ e) (Nat.le_refl _) ?_,rfl,q _ hf⟩
 exact ⟨z,us,r,⟨_,Heap.get?_push_size _ rfl,rfl,_,rfl⟩⟩
theorem pe_lst(h:PA X es t):PE X (.List es pos) (tLst t):=by
 intro pins s σ H Q I hq
 refine wpAny_List_spliced (thn (h pos pins s σ H _ I hq) fun us s1 ⟨xs,H1,I1,r,z,q⟩=>⟨by rw [← r.length];exact z,?_⟩)
 have hf:H1 s1.heap.objs.size=none:=I1.hok.fresh (Nat.le_refl _)
 refine ⟨.ref s1.heap.objs.size,upd H1 s1.heap.objs.size (.lst xs),I1.laid (t':=s1.toks) (fun b u e=>Heap.get?_push_of_some _ e) (Nat.le_refl _) ?_,rfl,q _ hf⟩
 exact ⟨z,us,0,r,Heap.get?_push_size _ rfl⟩
end
noncomputable abbrev Sp:=List V→Hp→VK→XK→Prop
noncomputable abbrev CXT:=List Env→Hp→Shared→XK→Value→Shared→Prop
structure Env0(P:Program)(w:World)(K:PySem.W.Frag)(mg:Str→Option Value)(base:Heap)(A:Around)(outer:List Env)(s:Shared)(H:Hp):Prop where
 frames:A.frames=some outer
 mod:Mod K mg base
 bs:∀b o,base.get? b=some o→s.heap.get? b=some o∧H b=none
 bsz:base.objs.size≤s.heap.objs.size
 funs:s.heap.FunFrames base outer
 frf:∀b∈frs outer,H b=none
 hok:HOk P w H s.heap
 bare:AllBare s.gens
noncomputable def CE(outer:List Env)(P:Program)(w:World)(H:Hp)(s:Shared)(Q:VK)(u:Value)(s':Shared):Prop:=
 ∃v H',s'.os=s.os∧AllBare s'.gens∧Un (frs outer) [] H H' s.heap s'.heap∧HOk P w H' s'.heap∧RelV v u∧Q v H'
noncomputable def CR(CX:CXT)(outer:List Env)(P:Program)(w:World)(H:Hp)(s:Shared)(Q:VK)(E:XK)(r:Result)(s':Shared):Prop:=
 match r with
 | .ok (.ret u)=>CE outer P w H s Q u s'
 | .ok _=>False
 | .error e=>CX outer H s E e s'
structure FnOk(P:Program)(w:World)(K:PySem.W.Frag)(mg:Str→Option Value)(base:Heap)(CX:CXT)(k:Nat)(f:Addr)(fd:FuncData)(ps:List Str)(sp:Sp):Prop where
 len:∀vs H Q E,sp vs H Q E→vs.length=ps.length
 run:∀(A:Around) (outer:List Env) (s:Shared) (H:Hp) (args:Args) (us:List Value) (vs:List V) (Q:VK) (E:XK),Room k A→Env0 P w K mg base A outer s H→BindsTo s fd args (ps.zip us)→Vals vs us→sp vs H Q E→
  codeAny (model P w) A (.call (.ref f) args) (CR CX outer P w H s Q E) s
theorem FnOk.mono{P:Program}{w:World}{K:PySem.W.Frag}{mg:Str→Option Value}{base:Heap}{CX:CXT}{j k:Nat}{f:Addr}{fd:FuncData}{ps:List Str}{sp:Sp}(F:FnOk P w K mg base CX j f fd ps sp)(h:j≤k):
 FnOk P w K mg base CX k f fd ps sp:=⟨F.len,fun A outer s H args us vs Q E hr=>F.run A outer s H args us vs Q E (hr.mono h)⟩
theorem FnOk.imp{P:Program}{w:World}{K:PySem.W.Frag}{mg:Str→Option Value}{base:Heap}{CX:CXT}{k:Nat}{f:Addr}{fd:FuncData}{ps:List Str}{sp sp':Sp}(F:FnOk P w K mg base CX k f fd ps sp)
 (h:∀vs H Q E,sp' vs H Q E→sp vs H Q E):FnOk P w K mg base CX k f fd ps sp':=
 ⟨fun vs H Q E q=>F.len vs H Q E (h _ _ _ _ q),fun A outer s H args us vs Q E hr he hb hv hs=>F.run A outer s H args us vs Q E hr he hb hv (h _ _ _ _ hs)⟩
theorem Env0.make{P:Program}{w:World}{K:PySem.W.Frag}{mg:Str→Option Value}{base:Heap}{A:Around}{outer:List Env}{s:Shared}{H:Hp}(e:Env0 P w K mg base A outer s H)(C:Addr)(us:List Value)(kw:List (Str×Value)):
 Env0 P w K mg base (A.under (.builtin "type.__call__" ⟨.ref C::us,kw⟩)) outer s H:=⟨by first | exact e.frames | (simpa [Around.under,Code.envs,Code.isFrame,pushEnvs] using e.frames),e.mod,e.bs,e.bsz,e.funs,e.frf,e.hok,e.bare⟩
theorem Env0.in1{P:Program}{w:World}{K:PySem.W.Frag}{mg:Str→Option Value}{base:Heap}{A:Around}{outer:List Env}{s:Shared}{H:Hp}(e:Env0 P w K mg base A outer s H):
 Env0 P w K mg base A.in1 outer s H:=⟨e.frames,e.mod,e.bs,e.bsz,e.funs,e.frf,e.hok,e.bare⟩
section
variable {X:Cx} {pins:List (Addr×Obj)} {σ:St} {H:Hp} {s s':Shared}
theorem Inv.env0(I:Inv X pins σ H s):Env0 X.prog X.w X.K X.mg X.base X.A X.stack s H:=
 ⟨I.ok.frames,I.ok.mod,I.bs,Nat.le_trans I.ok.bsz I.sz,I.stack,I.stkFree,I.hok,I.bare⟩
theorem Inv.after{Q:VK}{u:Value}(I:Inv X pins σ H s)(h:CE X.stack X.prog X.w H s Q u s'):EP X pins σ Q u s':=by
 obtain ⟨v,H',os,bare,un,hok,r,q⟩:=h
 obtain ⟨hh,g,d,t,os'⟩:=s'
 obtain rfl:os'=s.os:=os
 exact ⟨v,H',I.call (h':=hh) (g':=g) (d':=d) (t':=t) (ch:=[]) un hok bare (fun b z=>absurd z (by simp)),r,q⟩
end
noncomputable def tCall(sp:Sp)(dvs:List V)(E:XK)(t:TA):TE:=fun σ H Q=>t σ H fun vs H1=>sp (vs++dvs) H1 Q E
noncomputable def Binds(K:PySem.W.Frag)(fd:FuncData)(ps:List Str)(ds:List Value):Prop:=
 ∀(s:Shared) (us:List Value),K.In s.heap→(us++ds).length=ps.length→BindsTo s fd ⟨us,[]⟩ (ps.zip (us++ds))
theorem Binds.all{K:PySem.W.Frag}{fd:FuncData}{ps:List Str}(h:∀us:List Value,us.length=ps.length→bindArgs fd ⟨us,[]⟩=pure (ps.zip us)):Binds K fd ps []:=fun s us _ hl=>by
 rw [List.append_nil]at hl ⊢
 exact .of_eq (h us hl)
noncomputable def Passes(CX:CXT)(X:Cx)(E:XK):Prop:=∀(pins:List (Addr×Obj)) (σ:St) (H:Hp) (s:Shared) (e:Value) (s':Shared),Inv X pins σ H s→CX X.stack H s E e s'→X.xe e s'
section
variable {X:Cx} {CX:CXT} {k:Nat} {f C:Addr} {fd:FuncData} {ps:List Str} {sp:Sp} {dvs:List V} {ds:List Value} {E:XK} {x m:Str} {p pos apos:Pos} {e o:Expr} {es:List Expr} {ta:TE} {t:TA}
theorem run_fn{pins:List (Addr×Obj)}{σ:St}{H:Hp}{s:Shared}{Q:VK}{us:List Value}{vs:List V}(F:FnOk X.prog X.w X.K X.mg X.base CX k f fd ps sp)(hr:Room k X.A)(hb:Binds X.K fd ps ds)(hd:Vals dvs ds)(hx:Passes CX X E)
 (I:Inv X pins σ H s) (r:Vals vs us) (h:sp (vs++dvs) H Q E):wpAny (model X.prog X.w) X.A (call (.ref f) us) (EP X pins σ Q) X.xe s:=by
 have r2:Vals (vs++dvs) (us++ds):=r.append hd
 have hl:(us++ds).length=ps.length:=by rw [← r2.length];exact F.len _ _ _ _ h
 refine wpAny_call (codeAny_mono (F.run X.A X.stack s H ⟨us,[]⟩ (us++ds) (vs++dvs) Q E hr I.env0 (hb s us I.kIn hl) r2 h) fun r s' hq=>?_)
 cases r with
 | error e=>exact hx pins σ H s e s' I hq
 | ok fl=>
  cases fl with
  | ret u=>exact I.after hq
  | next=>exact False.elim hq
  | brk=>exact False.elim hq
  | cont=>exact False.elim hq
theorem pe_call(F:FnOk X.prog X.w X.K X.mg X.base CX k f fd ps sp)(hr:Room k X.A)(hg:Gl X x)(hm:X.mg x=some (.ref f))(hk:PySem.W.keepIn X.K (.ref f)=true)(hb:Binds X.K fd ps ds)(hd:Vals dvs ds)(hx:Passes CX X E)
 (ha:PA X (e::es) t) (hdb:(x==("__debug__":Str))=false:=by decide) (he:starEach (e::es) X.env=(false,eval e X.env)::starEach es X.env:=by rfl) (hpl:(backTo pos (starEach es X.env)).any (·.1)=false:=by rfl):
 PE X (.Call (.Name x p) (e::es) [] pos) (tCall sp dvs E t):=by
 intro pins s σ H Q I h
 refine wpAny_Call_Name_kw (ld_glob I hg hm ?_ hdb)
 refine PySem.W.callWith_K (h₀:=X.base) I.ok.mod.kin hk (thn (ha pos pins s σ H _ I h) fun us s1 ⟨vs,H1,I1,r,q⟩=>⟨I1.kIn,?_⟩) he hpl
 exact run_fn F hr hb hd hx I1 r q
structure Mk(K:PySem.W.Frag)(C f:Addr):Prop where
 makes:PySem.W.makesIn K C=true
 init:PySem.W.findIn K (.ref C) "__init__"=some (some (.ref f))
 fn:PySem.W.isFn K (.ref f)=true
 kp:PySem.W.keepIn K (.ref C)=true
end
structure FnScope(N P:List Str)(sc:Scope):Prop where
 kind:sc.kind= .function
 co:sc.isCoroutine=false
 gen:sc.isGenerator=false
 nd:N.Nodup
 pre:N.take P.length=P
 par:∀x∈P,sc.names.lookup x=some .local∨sc.names.lookup x=some .cell
 nofree:∀y∈sc.names,y.2≠ .free
theorem bindL_out{kindOf:Str→Option NameKind}{x:Str}:∀{binds:List (Str×Value)} {m:Str→Option Value},(∀v,(x,v)∉binds)→bindL kindOf binds m x=m x
 | [],_,_=>rfl
 | (n,v)::r,m,h=>by
  unfold bindL
  rw [bindL_out fun w hw=>h w (List.mem_cons_of_mem _ hw)]
  split
  · have:x≠n:=by rintro rfl;exact h v List.mem_cons_self
    simp [this]
  · rfl
theorem bindC_out{kindOf:Str→Option NameKind}{x:Str}:∀{binds:List (Str×Value)} {m:Str→Option Value},(∀v,(x,v)∉binds)→bindC kindOf binds m x=m x
 | [],_,_=>rfl
 | (n,v)::r,m,h=>by
  unfold bindC
  rw [bindC_out fun w hw=>h w (List.mem_cons_of_mem _ hw)]
  split
  · rfl
  · have:x≠n:=by rintro rfl;exact h v List.mem_cons_self
    simp [this]
theorem bindL_get{kindOf:Str→Option NameKind}{x:Str}{v:Value}:∀{P:List Str} {vs:List Value} {i:Nat} {m:Str→Option Value},P.Nodup→P[i]?=some x→vs[i]?=some v→kindOf x=some .local→
 bindL kindOf (P.zip vs) m x=some v
 | [],_,_,_,_,h,_,_=>by simp at h
 | _::_,[],_,_,_,_,h,_=>by simp at h
 | p::P,w::vs,0,m,nd,h1,h2,hk=>by
  simp at h1 h2;subst h1;subst h2
  show bindL kindOf ((p,w)::P.zip vs) m p=_
  unfold bindL
  rw [bindL_out fun v hv=>(List.nodup_cons.mp nd).1 (List.of_mem_zip hv).1,if_pos hk]
  simp
 | p::P,w::vs,i+1,m,nd,h1,h2,hk=>by
  show bindL kindOf ((p,w)::P.zip vs) m x=_
  unfold bindL
  exact bindL_get (i:=i) (List.nodup_cons.mp nd).2 (by simpa using h1) (by simpa using h2) hk
theorem bindC_get{kindOf:Str→Option NameKind}{x:Str}{v:Value}:∀{P:List Str} {vs:List Value} {i:Nat} {m:Str→Option Value},P.Nodup→P[i]?=some x→vs[i]?=some v→kindOf x≠some .local→
 bindC kindOf (P.zip vs) m x=some v
 | [],_,_,_,_,h,_,_=>by simp at h
 | _::_,[],_,_,_,_,h,_=>by simp at h
 | p::P,w::vs,0,m,nd,h1,h2,hk=>by
  simp at h1 h2;subst h1;subst h2
  show bindC kindOf ((p,w)::P.zip vs) m p=_
  unfold bindC
  rw [bindC_out fun v hv=>(List.nodup_cons.mp nd).1 (List.of_mem_zip hv).1,if_neg hk]
  simp
 | p::P,w::vs,i+1,m,nd,h1,h2,hk=>by
  show bindC kindOf ((p,w)::P.zip vs) m x=_
  unfold bindC
  exact bindC_get (i:=i) (List.nodup_cons.mp nd).2 (by simpa using h1) (by simpa using h2) hk
noncomputable def start(N:List Str)(vs:List V):St:=vs.map some++List.replicate (N.length - vs.length) none
noncomputable def cxOf(CX:CXT)(P:Program)(w:World)(K:PySem.W.Frag)(mg:Str→Option Value)(base:Heap)(N:List Str)(qual:Str)(scope:Scope)(f:Addr)(cd:Value)(A:Around)(outer:List Env)(s:Shared)(H:Hp)(E:XK):Cx where
 prog:=P
 w:=w
 K:=K
 mg:=mg
 base:=base
 A:=A.deeper (envOfC qual scope s.heap.objs.size f cd)
 N:=N
 s₀:=s
 H₀:=H
 env:=envOfC qual scope s.heap.objs.size f cd
 outer:=outer
 stack:=envOfC qual scope s.heap.objs.size f cd::outer
 ex:=[]
 calm:=true
 fn:=fun _=>true
 pn:=[]
 xe:=fun e s'=>wpAny (model P w) (A.deeper (envOfC qual scope s.heap.objs.size f cd)) (leaving (envOfC qual scope s.heap.objs.size f cd) e) (fun _ s''=>CX outer H s E e s'') (fun e' s''=>CX outer H s E e' s'') s'
theorem cell_has{sc:Scope}{n:Nat}{x:Str}(h:sc.names.lookup x=some .cell):∃c,(cellsFrom n sc.names []).lookup x=some c:=by
 have q:=PySem.W.cellsFrom_some sc.names n [] (.inl h)
 exact Option.isSome_iff_exists.mp q
theorem inv_start{CX:CXT}{P:Program}{w:World}{K:PySem.W.Frag}{mg:Str→Option Value}{base:Heap}{N ps:List Str}{qual:Str}{scope:Scope}{f:Addr}{cd:Value}{A:Around}{outer:List Env}{s s1:Shared}{H:Hp}{E:XK}{us:List Value}{vs:List V}
 (S:FnScope N ps scope) (hd:A.handled=none) (e0:Env0 P w K mg base A outer s H) (hl:vs.length=ps.length) (r:Vals vs us)
 (x:InCallC s s.heap.objs.size (bindL (envOfC qual scope s.heap.objs.size f cd).kindOf (ps.zip us) fun _=>none) (cellsFrom (s.heap.objs.size+1) scope.names []) (bindC (envOfC qual scope s.heap.objs.size f cd).kindOf (ps.zip us) fun _=>none) s1):
 Inv (cxOf CX P w K mg base N qual scope f cd A outer s H E) [] (start N vs) H s1:=by
 have hpl:ps.length≤N.length:=by have:=congrArg List.length S.pre;rw [List.length_take]at this;omega
 obtain ⟨h1,tk,rfl,hk⟩:=x.done
 have noA:∀b:Addr,b∉(cxOf CX P w K mg base N qual scope f cd A outer s H E).ex:=fun b z=>absurd (show b∈([]:List Addr) from z) (by simp)
 refine ⟨⟨e0.mod,S.kind,rfl,rfl,Nat.le_refl _,fun y z c h1 h2=>?_,fun y hy=>?_,fun y c _ h=>?_,fun _=>hd,Around.frames_deeper e0.frames,.inr ⟨rfl,rfl⟩,fun b z=>absurd z (noA b),e0.bs,e0.bsz,fun b _ _=>noA b,fun b z=>absurd z (noA b),e0.funs,e0.frf⟩,
  rfl,e0.bare,Un.kept hk,⟨_,x.toInCall.ns,fun i y v h1 h2 h3=>?_⟩,fun y c h=>⟨_,x.cell y c h⟩,e0.hok.fresh (Nat.le_refl _),fun y c h=>?_,fun p hp=>absurd (show p∈([]:List (Addr×Obj)) from hp) (by simp),e0.hok.kept hk,?_⟩
 · exact name_of_addr x.apart (PySem.mem_of_lookup h1) (PySem.mem_of_lookup h2)
 · have hy:scope.names.lookup y=some .cell∨scope.names.lookup y=some .free:=hy
   rcases hy with hy | hy
   · exact cell_has hy
   · exact absurd rfl (S.nofree _ (PySem.mem_of_lookup hy))
 · exact Nat.le_of_lt (x.above y c (PySem.mem_of_lookup h))
 · have hi:i < vs.length:=by
    unfold start at h2
    by_cases hi:i < vs.length
    · exact hi
    · rw [List.getElem?_append_right (by simpa using hi)]at h2
      rw [List.getElem?_replicate]at h2
      split at h2 <;> cases h2
   have ha:vs[i]?=some v:=by
    unfold start at h2
    rw [List.getElem?_append_left (by simpa using hi),List.getElem?_map]at h2
    cases e:vs[i]? with
    | none=>rw [e]at h2;cases h2
    | some a=>rw [e]at h2;cases h2;rfl
   obtain ⟨u,hu,rv⟩:=r.get ha
   have hp:ps[i]?=some y:=by
    rw [← S.pre,List.getElem?_take_of_lt (by omega)];exact h1
   have ndP:ps.Nodup:=by rw [← S.pre];exact S.nd.sublist (List.take_sublist _ _)
   refine ⟨u,rv,?_⟩
   rcases S.par y (List.mem_of_getElem? hp) with k | k
   · exact .inl ⟨k,bindL_get ndP hp hu k⟩
   · obtain ⟨c,e⟩:=cell_has (n:=s.heap.objs.size+1) k
     refine .inr ⟨.inl k,c,e,?_⟩
     have q:=x.cell y c e
     rw [bindC_get ndP hp hu (by show scope.names.lookup y≠_;rw [k];decide)]at q
     exact q
 · exact e0.hok.fresh (Nat.le_of_lt (x.above y c (PySem.mem_of_lookup h)))
 · unfold start
   show _=N.length
   rw [List.length_append,List.length_map,List.length_replicate]
   omega
theorem fn_of{CX:CXT}{P:Program}{w:World}{K:PySem.W.Frag}{mg:Str→Option Value}{base:Heap}{k:Nat}{f:Addr}{name qual:Str}{params:Arguments}{body:List Stmt}{scope:Scope}{dV kV doc pm cdv ct oc:Value}{an od:Option Addr}
 {osl:Array (Option Value)} {N ps:List Str} {sp:Sp} (lk:K.lookup f=some ⟨oc,od,.func (PySem.W.fnOf name qual params body scope dV kV doc pm an cdv ct),osl⟩) (hcd:PySem.W.codeIn K cdv qual=true) (S:FnScope N ps scope)
 (len:∀vs H Q E,sp vs H Q E→vs.length=ps.length)
 (hbody:∀(A:Around) (outer:List Env) (s:Shared) (H:Hp) (vs:List V) (Q:VK) (E:XK),Room k (A.deeper (envOfC qual scope s.heap.objs.size f cdv))→sp vs H Q E→
  ∃t,PSs (cxOf CX P w K mg base N qual scope f cdv A outer s H E) body t∧t {nx:=fun _ H'=>Q .non H',rt:=Q} (start N vs) H):
 FnOk P w K mg base CX (k+1) f (PySem.W.fnOf name qual params body scope dV kV doc pm an cdv ct) ps sp:=by
 refine ⟨len,fun A outer s H args us vs Q E hr e0 hb r hsp=>?_⟩
 have hl:=len _ _ _ _ hsp
 have KX:K.In s.heap:=e0.mod.kin.keeps fun b o e=>(e0.bs b o e).1
 have lim:s.heap.NoLimit:=e0.mod.nolimit.keeps fun b o e=>(e0.bs b o e).1
 have hkind:∀y∈ps.zip us,scope.names.lookup y.1=some .local∨(scope.names.lookup y.1=some .cell∧((cellsFrom (s.heap.objs.size+1) scope.names []).lookup y.1).isSome=true):=fun ⟨n,v⟩ hy=>by
  rcases S.par n (List.of_mem_zip hy).1 with q | q
  · exact .inl q
  · exact .inr ⟨q,PySem.W.cellsFrom_some _ _ _ (.inl q)⟩
 refine codeAny_call_function hr.depth (KX _ _ lk) rfl S.co S.gen rfl (PySem.W.codeRec_of KX hcd) (hb _ _ _ _ ?_)
 refine wpAny_newFunctionEnv_cells S.kind hkind fun env he s1 x=>?_
 subst he
 refine ⟨lim.keeps x.toInCall.keep,codeAny_func ?_⟩
 obtain ⟨t,ht,hq⟩:=hbody A outer s H vs Q E (hr.deeper _) hsp
 have I:Inv (cxOf CX P w K mg base N qual scope f cdv A outer s H E) [] (start N vs) H s1:=inv_start S hr.hd e0 hl r x
 refine wpAny_mono (ht [] s1 (start N vs) H _ I hq) (fun fl s' hs=>?_) fun e s' hs=>hs
 have fin:∀{σ':St} {H':Hp} {v:V} {u:Value},Inv (cxOf CX P w K mg base N qual scope f cdv A outer s H E) [] σ' H' s'→RelV v u→Q v H'→CE outer P w H s Q u s':=
  fun {σ' H' v u} J rv q=>⟨v,H',J.os,J.bare,J.base,J.hok,rv,q⟩
 cases fl with
 | ret u=>
  obtain ⟨v,σ',H',J,rv,q⟩:=hs
  exact fin J rv q
 | next=>
  obtain ⟨σ',H',J,q⟩:=hs
  exact fin (v:=V.non) (u:=Value.none) J rfl q
 | brk=>
  obtain ⟨_,_,_,q⟩:=hs
  exact False.elim q
 | cont=>
  obtain ⟨_,_,_,q⟩:=hs
  exact False.elim q
end L2
namespace L2
section
variable {X:Cx} {x:Str} {p pos:Pos} {e:Expr} {es:List Expr} {t:TA} {id T:String} {r:List V→Hp→VK→Prop}
noncomputable def tCB(r:List V→Hp→VK→Prop)(t:TA):TE:=fun σ H Q=>t σ H fun vs H1=>r vs H1 Q
theorem pe_callB(hc:CallR X (.builtin id) r)(hg:Gl X x)(hm:X.mg x=none)(hv:bootBuiltins x=some (.builtin id))(ha:PA X (e::es) t)(hn:x≠"__name__":=by decide)(hdb:(x==("__debug__":Str))=false:=by decide)
 (he:starEach (e::es) X.env=(false,eval e X.env)::starEach es X.env:=by rfl) (hpl:(backTo pos (starEach es X.env)).any (·.1)=false:=by rfl):PE X (.Call (.Name x p) (e::es) [] pos) (tCB r t):=by
 intro pins s σ H Q I h
 refine wpAny_Call_Name_kw (ld_blt I hg hm hv ?_ hn hdb)
 exact PyProof.Rows.callWith_builtin1 (thn (ha pos pins s σ H _ I h) fun us s1 ⟨vs,H1,I1,r1,q1⟩=>hc pins s1 σ H1 vs us Q I1 r1 q1) he hpl
theorem pe_callTy(hc:CallR X (.type T) r)(hg:Gl X x)(hm:X.mg x=none)(hv:bootBuiltins x=some (.type T))(ha:PA X (e::es) t)(hn:x≠"__name__":=by decide)(hdb:(x==("__debug__":Str))=false:=by decide)
 (he:starEach (e::es) X.env=(false,eval e X.env)::starEach es X.env:=by rfl) (hpl:(backTo pos (starEach es X.env)).any (·.1)=false:=by rfl):PE X (.Call (.Name x p) (e::es) [] pos) (tCB r t):=by
 intro pins s σ H Q I h
 refine wpAny_Call_Name_kw (ld_blt I hg hm hv ?_ hn hdb)
 exact PyProof.Rows.callWith_type1 (thn (ha pos pins s σ H _ I h) fun us s1 ⟨vs,H1,I1,r1,q1⟩=>hc pins s1 σ H1 vs us Q I1 r1 q1) he hpl
end
end L2
namespace HT
open PySem PyProof.Rows
noncomputable def lexLt:List Int→List Int→Bool
 | [],[]=>false
 | [],_::_=>true
 | _::_,[]=>false
 | x::xs,y::ys=>if x=y then lexLt xs ys else decide (x < y)
theorem lexLt_cons(x y:Int)(xs ys:List Int):lexLt (x::xs) (y::ys)=if x=y then lexLt xs ys else decide (x < y):=rfl
theorem lexLt_nil_nil:lexLt [] []=false:=rfl
theorem lexLt_nil_cons(y:Int)(ys:List Int):lexLt [] (y::ys)=true:=rfl
theorem lexLt_cons_nil(x:Int)(xs:List Int):lexLt (x::xs) []=false:=rfl
theorem eqAt_int(A:Around)(s:Shared)(a:Int)(t:Tok)(c:Int)(u:Tok):∃e,SeqAt.EqAt A s (.int a t) (.int c u) e∧(e=true↔a=c):=
 ⟨(a==c),SeqAt.EqAt.int_int a t c u,by simp⟩
theorem rcLt_int(A:Around)(s:Shared)(a:Int)(t:Tok)(c:Int)(u:Tok)(prog:Program)(w:World)(E:Value→Shared→Prop)(Q:Value→Shared→Prop)(h:Q (.bool (decide (a < c))) s):
 wpAny (model prog w) A (richCompare .Lt (.int a t) (.int c u)) Q E s:=
 (PyProof.Rows.lt_int h:wpAny (model prog w) A (compareOp .Lt (.int a t) (.int c u)) Q E s)
section
open PySem.SeqAt
open PySem.AutoSeq1 (wpAny_loadPart')
open PySem.MeetsSeq PySem.MeetsSeq2 PySem.MeetsSeq3
theorem tuple_lt_ints(l b:Addr)(items items2:Array Value)(n n2:Nat)(dd dd2:Option Addr)(sl sl2:Array (Option Value))(ns ms:List Int)(hi:IntsAre items.toList ns)(hj:IntsAre items2.toList ms):
 Meets (Builtin.«tuple.__lt__» ⟨[.ref l,.ref b],[]⟩)
  (fun _ R s=>s.heap.get? l=some {cls:= .type "tuple",dict:=dd,data:= .seq items n,slots:=sl}∧s.heap.get? b=some {cls:= .type "tuple",dict:=dd2,data:= .seq items2 n2,slots:=sl2}∧
   R (.ok (.ret (.bool (lexLt ns ms)))) s):=
 .of_wp fun prog w A R s h=>by
  obtain ⟨hp,g,d,tk,os⟩:=s;obtain ⟨hl,hb,h⟩:=h
  have f2:=AutoSeq1.sub_tuple_tuple
  have z1:items.size=ns.length:=by rw [← hi.length];simp
  have z2:items2.size=ms.length:=by rw [← hj.length];simp
  wp_walk using wpAny_loadPart' hl,wpAny_loadPart' hb,wpAny_forIn_list _ (fun rest b s'=>b.1=none∧s'=⟨hp,g,d,tk,os⟩∧∃(vs ws:List Value) (ns' ms':List Int),rest=vs.zip ws∧
   IntsAre vs ns'∧IntsAre ws ms'∧ns'.length+items2.size=ms'.length+items.size∧R (.ok (.ret (.bool (lexLt ns' ms')))) ⟨hp,g,d,tk,os⟩) _
  case turn=>
   rintro ⟨y,x⟩ rest b s' ⟨hb',rfl,vs,ws,ns',ms',hz,hvi,hwi,hlen,hR⟩
   cases hvi with
   | nil=>rw [List.zip_nil_left]at hz;cases hz
   | cons a t hvi'=>
    cases hwi with
    | nil=>rw [List.zip_nil_right]at hz;cases hz
    | cons c u hwi'=>
     rw [List.zip_cons_cons]at hz
     injection hz with hyx hrest
     injection hyx with hy hx
     subst hy hx
     rw [lexLt_cons]at hR
     simp only [List.length_cons]at hlen
     obtain ⟨e,he,hiff⟩:=eqAt_int A.in1 ⟨hp,g,d,tk,os⟩ a t c u
     refine wpAny_bind (he prog w _ _ ?_)
     cases e with
     | true=>
      rw [if_pos (hiff.mp rfl)]at hR
      wp_walk
      exact ⟨rfl,rfl,_,_,_,_,hrest,hvi',hwi',by omega,hR⟩
     | false=>
      rw [if_neg (fun q=>absurd (hiff.mpr q) Bool.false_ne_true)]at hR
      have hri:=rcLt_int A.in1 ⟨hp,g,d,tk,os⟩ a t c u prog w
      wp_walk using hri
      exact ⟨_,rfl,by simpa using hR⟩
  case fin=>
   rintro ⟨b1,b2⟩ s' ⟨hb',rfl,vs,ws,ns',ms',hz,hvi,hwi,hlen,hR⟩
   simp only at hb'
   subst hb'
   have hv:lexLt ns' ms'=decide (items.size < items2.size):=by
    cases hvi with
    | nil=>
     cases hwi with
     | nil=>
      simp only [List.length_nil]at hlen
      rw [lexLt_nil_nil]
      exact (decide_eq_false (by omega)).symm
     | cons c u hw=>
      simp only [List.length_nil,List.length_cons]at hlen
      rw [lexLt_nil_cons]
      exact (decide_eq_true (by omega)).symm
    | cons a t hv=>
     cases hwi with
     | nil=>
      simp only [List.length_nil,List.length_cons]at hlen
      rw [lexLt_cons_nil]
      exact (decide_eq_false (by omega)).symm
     | cons c u hw=>
      rw [List.zip_cons_cons]at hz
      cases hz
   rw [hv]at hR
   wp_walk
   exact ⟨_,rfl,by simpa [Builtin.Tuple.tupleCompareSizes] using hR⟩
  case h=>
   exact ⟨rfl,rfl,items.toList,items2.toList,ns,ms,rfl,hi,hj,by omega,h⟩
end
section
variable {prog:Program} {w:World} {A:Around} {E:Value→Shared→Prop} {s:Shared}
theorem lt_tupInts{l b:Addr}{items items2:Array Value}{ns ms:List Int}{Q:Value→Shared→Prop}(hl:IsTup s.heap l items)(hb:IsTup s.heap b items2)(hi:IntsAre items.toList ns)(hj:IntsAre items2.toList ms)
 (hu:A.units < cLine) (h:Q (.bool (lexLt ns ms)) s):wpAny (model prog w) A (compareOp .Lt (.ref l) (.ref b)) Q E s:=by
 obtain ⟨⟨cls,dd,data,sl⟩,ho,hc,n,hd⟩:=id hl
 obtain ⟨⟨cls2,dd2,data2,sl2⟩,ho2,hc2,n2,hd2⟩:=id hb
 simp only at hc hd hc2 hd2
 subst hc hd hc2 hd2
 exact richCompare_meets_room (op:= .Lt) ⟨_,ho,rfl⟩ ⟨_,ho2,rfl⟩ PySem.F.slot_tuple_lt PySem.F.entry_tuple_lt (PySem.F.args_tuple_lt_2 _ _) (tuple_lt_ints l b items items2 n n2 dd dd2 sl sl2 ns ms hi hj)
  ⟨ho,ho2,show Value.bool (lexLt ns ms)≠Value.notImplemented∧Q (.bool (lexLt ns ms)) s from ⟨(fun x=>nomatch x),h⟩⟩ hu
noncomputable def sIx(n d:Nat):Option Int→Nat
 | none=>d
 | some v=>if v < 0 then (v+(n:Int)).toNat else min v.toNat n
end
end HT
namespace L2
noncomputable abbrev TO:=St→Hp→(Option Int→Hp→Prop)→Prop
noncomputable def PO(X:Cx)(e:Option Expr)(t:TO):Prop:=
 ∀(pins:List (Addr×Obj)) (s:Shared) (σ:St) (H:Hp) (Q:Option Int→Hp→Prop),Inv X pins σ H s→t σ H Q→
   wpAny (model X.prog X.w) X.A (evalPart e X.env) (fun u s'=>∃o H',Inv X pins σ H' s'∧IsPart u o∧Q o H') X.xe s
noncomputable def tNoPart:TO:=fun _ H Q=>Q none H
noncomputable def tPart(t:TE):TO:=fun σ H Q=>t σ H fun x H1=>∃i,x= .int i∧Q (some i) H1
theorem intsAre_of{ns:List Int}:∀{us:List Value},Vals (ns.map V.int) us→IntsAre us ns:=by
 induction ns with
 | nil=>intro us r;rw [List.map_nil]at r;cases r;exact .nil
 | cons n ns ih=>
  intro us r
  rw [List.map_cons]at r
  cases r with
  | cons r1 r2=>
   obtain ⟨t,e⟩:=r1
   subst e
   exact .cons n t (ih r2)
section
variable {X:Cx} {e:Expr} {te:TE} {lo hi:Option Expr} {tl th:TO} {pos p2:Pos}
theorem po_none:PO X none tNoPart:=by
 intro pins s σ H Q I h
 rw [evalPart_none]
 exact wpAny_pure ⟨none,H,I,.none,h⟩
theorem po_some(h:PE X e te):PO X (some e) (tPart te):=by
 intro pins s σ H Q I hw
 rw [evalPart_some]
 refine thn (h pins s σ H _ I hw) fun u s1 hq_=>?_
 obtain ⟨x,H1,I1,r1,q1⟩:=hq_
 obtain ⟨i,rfl,q⟩:=q1
 obtain ⟨t,rfl⟩:=r1
 exact ⟨some i,H1,I1,.int i t,q⟩
noncomputable def SlR(X:Cx)(r:V→Option Int→Option Int→Hp→VK→Prop):Prop:=
 ∀(pins:List (Addr×Obj)) (s:Shared) (σ:St) (H:Hp) (x:V) (v vl vu:Value) (lo hi:Option Int) (sl:Addr) (Q:VK),Inv X pins σ H s→RelV x v→s.heap.IsSliceOf sl vl vu .none→IsPart vl lo→IsPart vu hi→r x lo hi H Q→
   ∃T id,typeLookup (.type T) "__getitem__"=pure (some (.builtin id))∧s.TypeIs v T∧wpAny (model X.prog X.w) X.A (getItem v (.ref sl)) (EP X pins σ Q) X.xe s
noncomputable def tSl(r:V→Option Int→Option Int→Hp→VK→Prop)(te:TE)(tl th:TO):TE:=fun σ H Q=>te σ H fun x H1=>tl σ H1 fun l H2=>th σ H2 fun u H3=>r x l u H3 Q
theorem pe_slice{r:V→Option Int→Option Int→Hp→VK→Prop}(hr:SlR X r)(he:PE X e te)(hl:PO X lo tl)(hu:PO X hi th):PE X (.Subscript e (.Slice lo hi none p2) pos) (tSl r te tl th):=by
 intro pins s σ H Q I h
 refine Subscript_ (thn (he pins s σ H _ I h) fun v s1 hq_=>?_)
 obtain ⟨x,H1,I1,r1,q1⟩:=hq_
 refine wpAny_Slice (thn (hl pins s1 σ H1 _ I1 q1) fun vl s2 ⟨l,H2,I2,pl,q2⟩=>thn (hu pins s2 σ H2 _ I2 q2) fun vu s3 hq_=>?_)
 obtain ⟨u,H3,I3,pu,q3⟩:=hq_
 rw [evalPart_none]
 refine wpAny_pure ?_
 have I4:Inv X pins σ H3 {s3 with heap:=s3.heap.push {cls:= .type "slice",data:= .fields #[vl,vu,.none]}}:=I3.kept (t':=s3.toks) fun b ob q=>Heap.get?_push_of_some _ q
 obtain ⟨T,id,hT,ht,hg⟩:=hr pins {s3 with heap:=s3.heap.push {cls:= .type "slice",data:= .fields #[vl,vu,.none]}} σ H3 x v vl vu l u s3.heap.objs.size Q I4 r1 (Heap.IsSliceOf.new ..) pl pu q3
 show wpAny (model X.prog X.w) X.A (subscriptTail e (.Slice lo hi none p2) v (.ref s3.heap.objs.size)) (EP X pins σ Q) X.xe {s3 with heap:=s3.heap.push {cls:= .type "slice",data:= .fields #[vl,vu,.none]}}
 exact tail_any (ops:=[.ref s3.heap.objs.size,v]) ht hT hg (by with_unfolding_all rfl)
noncomputable def cutV(xs:List V)(lo hi:Option Int):List V:=(xs.drop (HT.sIx xs.length 0 lo)).take (HT.sIx xs.length xs.length hi - HT.sIx xs.length 0 lo)
theorem cutV_length(xs:List V)(lo hi:Option Int):(cutV xs lo hi).length≤xs.length:=by
 unfold cutV
 rw [List.length_take,List.length_drop]
 omega
end
end L2
namespace L2
noncomputable def ixN(n:Nat)(i:Int):Option Nat:=if 0≤i then (if i < n then some i.toNat else none) else if -(n:Int)≤i then some (i+n).toNat else none
noncomputable def atI{α:Type}(xs:List α)(i:Int):Option α:=(ixN xs.length i).bind fun j=>xs[j]?
theorem ixN_seq{n:Nat}{i:Int}{j:Nat}(h:ixN n i=some j):seqIndex? i n=some j∧j < n∧-(n:Int)≤i∧i < n:=by
 unfold ixN at h
 by_cases h0:0≤i
 · rw [if_pos h0]at h
   by_cases h1:i < n
   · rw [if_pos h1]at h
     have e:i.toNat=j:=Option.some.inj h
     exact ⟨by rw [seqIndex_of h0 h1,e],by omega,by omega,h1⟩
   · rw [if_neg h1]at h;cases h
 · rw [if_neg h0]at h
   by_cases h1:-(n:Int)≤i
   · rw [if_pos h1]at h
     have e:(i+n).toNat=j:=Option.some.inj h
     exact ⟨by rw [seqIndex_neg (by omega) h1,e],by omega,h1,by omega⟩
   · rw [if_neg h1]at h;cases h
theorem atI_get{α:Type}{xs:List α}{i:Int}{v:α}(h:atI xs i=some v):∃j,seqIndex? i xs.length=some j∧xs[j]?=some v∧j < xs.length∧-(xs.length:Int)≤i∧i < xs.length:=by
 unfold atI at h
 cases e:ixN xs.length i with
 | none=>rw [e]at h;cases h
 | some j=>
  rw [e]at h
  obtain ⟨h1,h2,h3,h4⟩:=ixN_seq e
  exact ⟨j,h1,h,h2,h3,h4⟩
theorem atI_nat{α:Type}{xs:List α}{j:Nat}{v:α}(h:xs[j]?=some v):atI xs (j:Int)=some v:=by
 have hj:j < xs.length:=(List.getElem?_eq_some_iff.mp h).1
 have e:ixN xs.length (j:Int)=some j:=by
  unfold ixN
  rw [if_pos (by omega),if_pos (by omega)];simp
 unfold atI;rw [e];exact h
noncomputable def PlainIx(b:Expr):Prop:=∀o i,subscripted b false o i=operate [o,i] (getItem o i)
noncomputable def IxR(X:Cx)(r:R2):Prop:=
 ∀(value slice:Expr) (pins:List (Addr×Obj)) (s:Shared) (σ:St) (H:Hp) (x y:V) (v u:Value) (Q:VK),Inv X pins σ H s→RelV x v→RelV y u→r x y H Q→
   subscripted slice false v u=operate [v,u] (getItem v u)→wpAny (model X.prog X.w) X.A (subscriptTail value slice v u) (EP X pins σ Q) X.xe s
noncomputable def MtR(X:Cx)(id:String)(r:V→List V→Hp→VK→Prop):Prop:=
 ∀(pins:List (Addr×Obj)) (s:Shared) (σ:St) (H:Hp) (x:V) (xs:List V) (v:Value) (us:List Value) (Q:VK),Inv X pins σ H s→RelV x v→Vals xs us→r x xs H Q→
   wpAny (model X.prog X.w) X.A (call (.builtin id) (v::us)) (EP X pins σ Q) X.xe s
section
variable {X:Cx} {a b:Expr} {ta tb:TE} {pos:Pos}
theorem pe_ix{r:R2}(hr:IxR X r)(ha:PE X a ta)(hb:PE X b tb)(hs:PlainIx b):PE X (.Subscript a b pos) (tOp r ta tb):=by
 intro pins s σ H Q I h
 exact Subscript_ (binT ha hb I h fun v u s2 x y H2 I2 rx ry q=>hr a b pins s2 σ H2 x y v u Q I2 rx ry q (hs _ _))
noncomputable def rIxL(K:PySem.W.Frag):R2:=fun x y H Q=>∃p xs i v,x= .ref p∧y= .int i∧SqL K H p xs∧atI xs i=some v∧Q v H
noncomputable def rIxT(K:PySem.W.Frag):R2:=fun x y H Q=>∃p xs i v,x= .ref p∧y= .int i∧SqT K H p xs∧atI xs i=some v∧Q v H
noncomputable def rIxS:R2:=fun x y H Q=>∃z i c,x= .str z∧y= .int i∧z.length≤sizeLine∧atI z.cps.toList i=some c∧Q (.str ⟨#[c]⟩) H
theorem ix_list:IxR X (rIxL X.K):=by
 intro value slice pins s σ H x y v u Q I rx ry h hs
 obtain ⟨p,xs,i,z,rfl,rfl,hq,he,q⟩:=h
 cases rx
 obtain ⟨t,rfl⟩:=ry
 obtain ⟨its,r,pl,hz⟩:=I.list hq
 obtain ⟨j,h1,h2,h3,h4,h5⟩:=atI_get he
 obtain ⟨w,ew,rw'⟩:=r.get h2
 have hl:=r.length
 have hn:=line63
 have fin:EP X pins σ Q w s:=⟨z,H,I,rw',q⟩
 by_cases h0:0≤i
 · have hj:i.toNat=j:=by
    rw [seqIndex_of h0 h5]at h1
    exact Option.some.inj h1
   exact item_listR pl.isList h0 (by omega) (by rw [hj];simpa using ew) fin hs
 · have hj:(i+(its.toArray.size:Int)).toNat=j:=by
    rw [seqIndex_neg (by omega) h4]at h1
    rw [List.size_toArray,← hl]
    exact Option.some.inj h1
   exact subscriptTail_builtinR (x:=w) pl.isList.typeIs slot_list_getitem.lookup
    (wpAny_getItem_list_neg (Q:=fun r s'=>r=w∧EP X pins σ Q r s') pl.isList (by omega) (by rw [List.size_toArray] <;> omega) (by omega) (by rw [hj];simpa using ew) ⟨rfl,fin⟩) hs
theorem ix_tup:IxR X (rIxT X.K):=by
 intro value slice pins s σ H x y v u Q I rx ry h hs
 obtain ⟨p,xs,i,z,rfl,rfl,hq,he,q⟩:=h
 cases rx
 obtain ⟨t,rfl⟩:=ry
 obtain ⟨its,r,pl,hz⟩:=I.tuple hq
 obtain ⟨j,h1,h2,h3,h4,h5⟩:=atI_get he
 obtain ⟨w,ew,rw'⟩:=r.get h2
 have hl:=r.length
 have hn:=line63
 have fin:EP X pins σ Q w s:=⟨z,H,I,rw',q⟩
 exact subscriptTail_builtinR (x:=w) pl.typeIs slot_tuple_getitem.lookup
  (getItem_tuple (j:=j) (Q:=fun r s'=>r=w∧EP X pins σ Q r s') pl (by omega) (by omega) (by rw [List.size_toArray,← hl];exact h1) (by simpa using ew) ⟨rfl,fin⟩) hs
theorem ix_str:IxR X rIxS:=by
 intro value slice pins s σ H x y v u Q I rx ry h hs
 obtain ⟨z,i,c,rfl,rfl,hz,he,q⟩:=h
 obtain ⟨t,rfl⟩:=rx
 obtain ⟨t',rfl⟩:=ry
 obtain ⟨j,h1,h2,h3,h4,h5⟩:=atI_get he
 have hl:z.cps.toList.length=z.length:=by simp [Str.length]
 rw [hl]at h1 h4 h5
 have hn:=line63
 exact tail_any (typeIs_str s z t) slot_str_getitem.lookup (getItem_str (c:=c) (by
  have e1:decide (i < -(2 ^ 63:Int))=false:=decide_eq_false (by omega)
  have e2:decide (i ≥ 2 ^ 63)=false:=decide_eq_false (by omega)
  rw [e1,e2,Bool.or_false]) (by rw [h1];simpa using h2) ⟨.str ⟨#[c]⟩,H,I.tok _,⟨_,rfl⟩,q⟩) hs
theorem mapSeq_set(its:List Value)(n j:Nat)(u:Value):Obj.mapSeq (·.setIfInBounds j u) {cls:= .type "list",data:= .seq its.toArray n}={cls:= .type "list",data:= .seq (its.set j u).toArray n}:=by
 simp [Obj.mapSeq]
theorem Inv.lst{pins:List (Addr×Obj)}{σ:St}{H:Hp}{s:Shared}{p:Addr}{xs:List V}(I:Inv X pins σ H s)(h:H p=some (.lst xs)):
 ∃(its:List Value) (n:Nat),Vals xs its∧s.heap.get? p=some {cls:= .type "list",data:= .seq its.toArray n}∧xs.length≤sizeLine:=by
 obtain ⟨z,its,n,r,e⟩:=I.hok p _ h
 exact ⟨its,n,r,e,z⟩
theorem Inv.lstUpd{pins:List (Addr×Obj)}{σ:St}{H:Hp}{s:Shared}{p:Addr}{xs ys:List V}{its its':List Value}{n n':Nat}{f:Obj→Obj}(I:Inv X pins σ H s)(h:H p=some (.lst xs))
 (ho:s.heap.get? p=some {cls:= .type "list",data:= .seq its.toArray n}) (hf:f {cls:= .type "list",data:= .seq its.toArray n}={cls:= .type "list",data:= .seq its'.toArray n'}) (r:Vals ys its') (hz:ys.length≤sizeLine) (t:Nat):
 Inv X pins σ (upd H p (.lst ys)) {s with heap:=s.heap.update p f,toks:=t}:=by
 have e:(s.heap.update p f).get? p=some {cls:= .type "list",data:= .seq its'.toArray n'}:=by
  rw [Heap.get?_update_self f ho (by rw [hf] <;> rfl),hf]
 refine I.write (x:=p) (e:=p) (by rw [h];trivial) (.inl rfl) (fun b u hb q=>(Heap.get?_update_other _ _ (Ne.symm hb)).trans q) ⟨_,e⟩ ?_
 exact ⟨hz,its',n',r,e⟩
noncomputable def rSetL:V→V→V→Hp→(Hp→Prop)→Prop:=fun o i v H Q=>∃p xs k j,o= .ref p∧i= .int k∧H p=some (.lst xs)∧ixN xs.length k=some j∧Q (upd H p (.lst (xs.set j v)))
theorem set_list:PSet X rSetL:=by
 intro pins s σ H o i v ov iv u Q I ro ri rv h
 obtain ⟨p,xs,k,j,rfl,rfl,hp,hj,q⟩:=h
 cases ro
 obtain ⟨t,rfl⟩:=ri
 obtain ⟨its,n,r,ho,hz⟩:=I.lst hp
 obtain ⟨h1,h2,h3,h4⟩:=ixN_seq hj
 have hl:=r.length
 have hn:=line63
 have I':Inv X pins σ (upd H p (.lst (xs.set j v))) {s with heap:=s.heap.update p (Obj.mapSeq (·.setIfInBounds j u))}:=
  I.lstUpd hp ho (mapSeq_set its n j u) (r.set rv j) (by rw [List.length_set];exact hz) s.toks
 by_cases h0:0≤k
 · have hk:k.toNat=j:=by
    rw [seqIndex_of h0 h4]at h1
    exact Option.some.inj h1
   exact PySem.W.ki_setAt ho h0 (by omega) (by rw [List.size_toArray,← hl];exact h4) (by rw [hk];exact ⟨_,I',q⟩)
 · have hk:(k+(its.toArray.size:Int)).toNat=j:=by
    rw [seqIndex_neg (by omega) h3]at h1
    rw [List.size_toArray,← hl]
    exact Option.some.inj h1
   exact PySem.W.ki_setBack ho (by omega) (by rw [List.size_toArray,← hl];exact h3) (by omega) (by rw [hk];exact ⟨_,I',q⟩)
theorem slice_bounds(lo hi:Option Int)(n:Nat):(sliceBounds lo hi none n).1=((HT.sIx n 0 lo:Nat):Int)∧(sliceBounds lo hi none n).2.1=((HT.sIx n n hi:Nat):Int)∧(sliceBounds lo hi none n).2.2=1:=by
 refine ⟨?_,?_,rfl⟩
 · cases lo with
   | none=>simp [sliceBounds,HT.sIx]
   | some i=>
    simp only [sliceBounds,HT.sIx,Option.getD_none,show (1:Int) > 0 by decide,if_true]
    by_cases h:i < 0
    · simp only [h,if_true] <;> omega
    · simp only [h,if_false] <;> omega
 · cases hi with
   | none=>simp [sliceBounds,HT.sIx]
   | some i=>
    simp only [sliceBounds,HT.sIx,Option.getD_none,show (1:Int) > 0 by decide,if_true]
    by_cases h:i < 0
    · simp only [h,if_true] <;> omega
    · simp only [h,if_false] <;> omega
theorem slicePick_cut(its:List Value)(lo hi:Option Int):slicePick its.toArray lo hi none=((its.drop (HT.sIx its.length 0 lo)).take (HT.sIx its.length its.length hi - HT.sIx its.length 0 lo)).toArray:=by
 obtain ⟨h1,h2,h3⟩:=slice_bounds lo hi its.toArray.size
 unfold slicePick
 rw [h1,h2,h3]
 simp only [sliceRange_one,pick_run,List.size_toArray] <;> rfl
noncomputable def rSlL(K:PySem.W.Frag):V→Option Int→Option Int→Hp→VK→Prop:=fun x lo hi H Q=>∃a xs,x= .ref a∧SqL K H a xs∧∀p,H p=none→Q (.ref p) (upd H p (.lst (cutV xs lo hi)))
theorem sl_list:SlR X (rSlL X.K):=by
 intro pins s σ H x v vl vu lo hi sl Q I rx hs pl pu h
 obtain ⟨a,xs,rfl,hx,q⟩:=h
 cases rx
 obtain ⟨its,r,ht,hz⟩:=I.list hx
 have hlen:=r.length
 refine ⟨"list",_,slot_list_getitem.lookup,ht.isList.typeIs,?_⟩
 refine wpAny_getItem_list_slice ht.isList hs pl pu .none (by simp) ?_ (by rw [List.size_toArray] <;> omega)
 rw [slicePick_cut,← hlen]
 refine ⟨.ref s.heap.objs.size,_,I.laid (t':=s.toks) (o:= .lst (cutV xs lo hi)) (fun b ob q=>Heap.get?_push_of_some _ q) (Nat.le_refl _) ?_,rfl,q _ (I.hok.fresh (Nat.le_refl _))⟩
 exact ⟨Nat.le_trans (cutV_length xs lo hi) hz,_,0,(r.drop (HT.sIx xs.length 0 lo)).take (HT.sIx xs.length xs.length hi - HT.sIx xs.length 0 lo),Heap.get?_push_size _ rfl⟩
noncomputable def flatV:V→Bool
 | .non=>true
 | .bl _=>true
 | .int _=>true
 | .str _=>true
 | _=>false
noncomputable def eqV:V→V→Bool
 | .non,.non=>true
 | .bl a,.bl b=>a==b
 | .bl a,.int b=>(if a then 1 else 0)==b
 | .int a,.bl b=>a==(if b then 1 else 0)
 | .int a,.int b=>a==b
 | .str a,.str b=>a==b
 | _,_=>false
theorem eqAt_V{A:Around}{s:Shared}{y x:V}{u v:Value}(ry:RelV y u)(rx:RelV x v)(fy:flatV y=true)(fx:flatV x=true):SeqAt.EqAt A s u v (eqV y x):=by
 cases y with
 | non=>
  cases ry
  cases x with
  | non=>cases rx;exact SeqAt.EqAt.same _
  | bl b=>cases rx;exact SeqAt.EqAt.none_bool b
  | int b=>obtain ⟨t,rfl⟩:=rx;exact SeqAt.EqAt.none_int b t
  | str b=>obtain ⟨t,rfl⟩:=rx;exact SeqAt.EqAt.none_str b t
  | _=>exact absurd (show false=true from fx) Bool.false_ne_true
 | bl a=>
  cases ry
  cases x with
  | non=>cases rx;exact SeqAt.EqAt.bool_none a
  | bl b=>cases rx;exact SeqAt.EqAt.bool_bool a b
  | int b=>obtain ⟨t,rfl⟩:=rx;exact SeqAt.EqAt.bool_int a b t
  | str b=>obtain ⟨t,rfl⟩:=rx;exact SeqAt.EqAt.bool_str a b t
  | _=>exact absurd (show false=true from fx) Bool.false_ne_true
 | int a=>
  obtain ⟨t',rfl⟩:=ry
  cases x with
  | non=>cases rx;exact SeqAt.EqAt.int_none a t'
  | bl b=>cases rx;exact SeqAt.EqAt.int_bool a t' b
  | int b=>obtain ⟨t,rfl⟩:=rx;exact SeqAt.EqAt.int_int a t' b t
  | str b=>obtain ⟨t,rfl⟩:=rx;exact SeqAt.EqAt.int_str a t' b t
  | _=>exact absurd (show false=true from fx) Bool.false_ne_true
 | str a=>
  obtain ⟨t',rfl⟩:=ry
  cases x with
  | non=>cases rx;exact SeqAt.EqAt.str_none a t'
  | bl b=>cases rx;exact SeqAt.EqAt.str_bool a t' b
  | int b=>obtain ⟨t,rfl⟩:=rx;exact SeqAt.EqAt.str_int a t' b t
  | str b=>obtain ⟨t,rfl⟩:=rx;exact SeqAt.EqAt.str_str a t' b t
  | _=>exact absurd (show false=true from fx) Bool.false_ne_true
 | _=>exact absurd (show false=true from fy) Bool.false_ne_true
noncomputable def eqU(x:V)(u:Value):Bool:=match u with
 | .none=>eqV .non x
 | .bool b=>eqV (.bl b) x
 | .int i _=>eqV (.int i) x
 | .str z _=>eqV (.str z) x
 | _=>false
theorem eqU_of{x y:V}{u:Value}(r:RelV y u)(f:flatV y=true):eqU x u=eqV y x:=by
 cases y with
 | non=>cases r;rfl
 | bl b=>cases r;rfl
 | int i=>obtain ⟨t,rfl⟩:=r;rfl
 | str z=>obtain ⟨t,rfl⟩:=r;rfl
 | _=>exact absurd (show false=true from f) Bool.false_ne_true
theorem any_eqU{x:V}:∀{xs:List V} {us:List Value},Vals xs us→xs.all flatV=true→us.any (eqU x)=xs.any fun y=>eqV y x
 | _,_,.nil,_=>rfl
 | y::xs,u::us,.cons r t,f=>by
  rw [List.all_cons,Bool.and_eq_true]at f
  rw [List.any_cons,List.any_cons,eqU_of r f.1,any_eqU t f.2]
theorem mem_eqAt{A:Around}{s:Shared}{x:V}{v:Value}(rx:RelV x v)(fx:flatV x=true):∀{xs:List V} {us:List Value},Vals xs us→xs.all flatV=true→∀u∈us,SeqAt.EqAt A s u v (eqU x u)
 | _,_,.nil,_=>fun u hu=>by cases hu
 | y::xs,u::us,.cons r t,f=>fun u' hu=>by
  rw [List.all_cons,Bool.and_eq_true]at f
  rcases List.mem_cons.mp hu with rfl | hu
  · rw [eqU_of r f.1];exact eqAt_V r rx f.1 fx
  · exact mem_eqAt rx fx t f.2 u' hu
noncomputable def inV(x:V)(xs:List V):Bool:=xs.any fun y=>eqV y x
noncomputable def rIn(K:PySem.W.Frag)(neg:Bool):R2:=fun x y H Q=>∃p xs,y= .ref p∧(SqL K H p xs∨SqT K H p xs)∧flatV x=true∧xs.all flatV=true∧Q (.bl (if neg then !inV x xs else inV x xs)) H
theorem op_notIn_seq:OpR X (compareOp .NotIn) (rIn X.K true):=by
 intro pins s σ H x y v u Q I rx ry h
 obtain ⟨p,xs,rfl,hq,fx,fs,q⟩:=h
 cases ry
 rcases hq with hq | hq
 · obtain ⟨its,r,pl,hz⟩:=I.list hq
   refine SeqAt.notIn_listAt (eqU x) pl.isList (fun w hw=>mem_eqAt rx fx r fs w (by simpa using hw)) ⟨.bl _,H,I,rfl,?_⟩
   rw [show its.toArray.any (eqU x)=its.any (eqU x) by simp,any_eqU r fs]
   exact q
 · obtain ⟨its,r,pl,hz⟩:=I.tuple hq
   refine SeqAt.notIn_tupleAt (eqU x) pl (fun w hw=>mem_eqAt rx fx r fs w (by simpa using hw)) ⟨.bl _,H,I,rfl,?_⟩
   rw [show its.toArray.any (eqU x)=its.any (eqU x) by simp,any_eqU r fs]
   exact q
theorem call_len_seq:CallR X (.builtin "len") (fun xs H Q=>∃p ys,xs=[.ref p]∧(SqL X.K H p ys∨SqT X.K H p ys)∧Q (.int ys.length) H):=by
 intro pins s σ H xs us Q I r h
 obtain ⟨p,ys,rfl,hq,q⟩:=h
 obtain ⟨u,rfl,rx⟩:=vals1 r
 cases rx
 have hn:=line63
 rcases hq with hq | hq
 · obtain ⟨its,r',pl,hz⟩:=I.list hq
   have hlen:=r'.length
   exact Calls.call_len_list pl.isList (by simp only [List.size_toArray] <;> omega) ⟨.int ys.length,H,I.tok _,⟨s.toks+1,by rw [List.size_toArray,hlen]⟩,q⟩
 · obtain ⟨its,r',pl,hz⟩:=I.tuple hq
   have hlen:=r'.length
   exact len_tuple pl (by simp only [List.size_toArray] <;> omega) ⟨.int ys.length,H,I.tok _,⟨s.toks+1,by rw [List.size_toArray,hlen]⟩,q⟩
theorem call_len_str:CallR X (.builtin "len") (fun xs H Q=>∃z,xs=[.str z]∧z.length≤sizeLine∧Q (.int z.length) H):=by
 intro pins s σ H xs us Q I r h
 obtain ⟨z,rfl,hz,q⟩:=h
 obtain ⟨u,rfl,t,rfl⟩:=vals1 r
 have hn:=line63
 exact len_str (by omega) ⟨.int z.length,H,I.tok _,⟨_,rfl⟩,q⟩
theorem call_list_of:CallR X (.type "list") (fun xs H Q=>∃p ys,xs=[.ref p]∧(SqL X.K H p ys∨SqT X.K H p ys)∧∀l,H l=none→Q (.ref l) (upd H l (.lst ys))):=by
 intro pins s σ H xs us Q I r h
 obtain ⟨p,ys,rfl,hq,q⟩:=h
 obtain ⟨u,rfl,rx⟩:=vals1 r
 cases rx
 have fin:∀(its:List Value),Vals ys its→ys.length≤sizeLine→∀(h':Heap) (c':Nat),(∀b o',s.heap.get? b=some o'→h'.get? b=some o')→
  h'.get? s.heap.objs.size=some {cls:= .type "list",dict:=none,data:= .seq its.toArray c',slots:=#[]}→EP X pins σ Q (.ref s.heap.objs.size) {s with heap:=h'}:=fun its r' hz h' c' kp e=>
  ⟨.ref s.heap.objs.size,_,I.laid (t':=s.toks) kp (Nat.le_refl _) (show ObjOk X.prog X.w _ h' _ (.lst ys) from ⟨hz,its,c',r',e⟩),rfl,q _ (I.hok.fresh (Nat.le_refl _))⟩
 rcases hq with hq | hq
 · obtain ⟨its,r',pl,hz⟩:=I.list hq
   have hlen:=r'.length
   obtain ⟨o,ho,hc,n,hd⟩:=pl.isList
   exact call_list_seq p (.inl rfl) ho hc hd (fun h' c' kp e=>fin its r' hz h' c' kp e) (by simp only [List.size_toArray] <;> omega)
 · obtain ⟨its,r',pl,hz⟩:=I.tuple hq
   have hlen:=r'.length
   obtain ⟨o,ho,hc,n,hd⟩:=pl
   exact call_list_seq p (.inr rfl) ho hc hd (fun h' c' kp e=>fin its r' hz h' c' kp e) (by simp only [List.size_toArray] <;> omega)
noncomputable def tyV(K:PySem.W.Frag)(T:String)(x:V)(H:Hp):Prop:=match x with
 | .str _=>T="str"
 | .int _=>T="int"
 | .ref p=>(T="list"∧∃xs,SqL K H p xs)∨(T="tuple"∧∃o,K.lookup p=some o∧o.cls= .type "tuple"∧o.dict=none)∨
  (T="dict"∧((∃kvs,H p=some (.dK kvs))∨∃kvs,H p=some (.dT kvs)))∨(T="set"∧∃S n,H p=some (.set S n))
 | _=>False
theorem tyV_is{pins:List (Addr×Obj)}{σ:St}{H:Hp}{s:Shared}{T:String}{x:V}{v:Value}(I:Inv X pins σ H s)(r:RelV x v)(ty:tyV X.K T x H):
 s.TypeIs v T∧∀a,v= .ref a→∃ob,s.heap.get? a=some ob∧ob.dict=none:=by
 cases x with
 | str z=>
  obtain ⟨t,rfl⟩:=r
  cases (show T="str" from ty)
  exact ⟨typeIs_str s z t,fun _ e=>nomatch e⟩
 | int i=>
  obtain ⟨t,rfl⟩:=r
  cases (show T="int" from ty)
  exact ⟨typeIs_int s i t,fun _ e=>nomatch e⟩
 | ref p=>
  cases r
  rcases ty with ⟨rfl,xs,hq⟩ | ⟨rfl,o,hk,hc,hd⟩ | ⟨rfl,hk⟩ | ⟨rfl,S,n,hk⟩
  · obtain ⟨its,_,pl,_⟩:=I.list hq
    refine ⟨pl.isList.typeIs,fun a e=>?_⟩
    cases e
    obtain ⟨o,n,e,c,hd,_⟩:=pl
    exact ⟨o,e,hd⟩
  · refine ⟨⟨o,I.kIn p o hk,hc⟩,fun a e=>?_⟩
    cases e
    exact ⟨o,I.kIn _ o hk,hd⟩
  · have z:∃o,s.heap.get? p=some o∧o.ExactDict:=by
     rcases hk with ⟨kvs,hk⟩ | ⟨kvs,hk⟩
     · obtain ⟨_,_,_,_,o,_,_,e,ex,_⟩:=I.hok p _ hk
       exact ⟨o,e,ex⟩
     · obtain ⟨_,_,_,_,o,_,_,e,ex,_⟩:=I.hok p _ hk
       exact ⟨o,e,ex⟩
    obtain ⟨o,e,ex⟩:=z
    refine ⟨⟨o,e,ex.1⟩,fun a e2=>?_⟩
    cases e2
    exact ⟨o,e,ex.2.1⟩
  · obtain ⟨o,_,_,_,e,ex,_⟩:=I.hok p _ hk
    refine ⟨⟨o,e,ex.1⟩,fun a e2=>?_⟩
    cases e2
    exact ⟨o,e,ex.2.1⟩
 | _=>exact False.elim ty
noncomputable def tBM0(K:PySem.W.Frag)(T:String)(r:V→List V→Hp→VK→Prop)(to:TE):TE:=fun σ H Q=>to σ H fun x H1=>tyV K T x H1∧r x [] H1 Q
noncomputable def tBM(K:PySem.W.Frag)(T:String)(r:V→List V→Hp→VK→Prop)(to:TE)(t:TA):TE:=fun σ H Q=>to σ H fun x H1=>tyV K T x H1∧t σ H1 fun xs H2=>r x xs H2 Q
variable {o e:Expr} {es:List Expr} {to:TE} {t:TA} {name:Str} {apos cpos:Pos} {T id:String} {r:V→List V→Hp→VK→Prop}
theorem pe_bm0(pa:PlainAttrs T)(slot:Slot T name id)(hty:typeOf (.builtin id)=pure (.type "method_descriptor"))(hm:MtR X id r)(ho:PE X o to)
 (hbase:attributeBase o name X.env (eval o X.env)=eval o X.env:=by rfl) (hline:(apos.endLine==cpos.line)=true:=by rfl):PE X (.Call (.Attribute o name apos) [] [] cpos) (tBM0 X.K T r to):=by
 intro pins s σ H Q I h
 refine wpAny_Call_method0_late hbase hline (thn (ho pins s σ H _ I h) fun v s1 hq_=>?_)
 obtain ⟨x,H1,I1,r1,ty,q1⟩:=hq_
 obtain ⟨h1,h2⟩:=tyV_is I1 r1 ty
 exact ⟨T,id,pa,slot,hty,h1,h2,Calls.callWith_builtin rfl (PySem.evalArgs_none (hm pins s1 σ H1 x [] v [] Q I1 r1 .nil q1))⟩
theorem pe_bm(pa:PlainAttrs T)(slot:Slot T name id)(hty:typeOf (.builtin id)=pure (.type "method_descriptor"))(hm:MtR X id r)(ho:PE X o to)(ha:PA X (e::es) t)
 (hbase:attributeBase o name X.env (eval o X.env)=eval o X.env:=by rfl)
 (hfew:((backTo cpos (starEach (e::es) X.env)).all (fun x=>!x.1) && (backToKw cpos (keywordEach [] X.env)).all (fun x=>x.1.isSome)
  && decide ((e::es).length+([]:List Keyword).length+(if ([]:List Keyword).isEmpty then 0 else 1) < 30))=true:=by rfl)
 (hline:(apos.endLine==cpos.line)=true:=by rfl) (hs:starEach (e::es) X.env=(false,eval e X.env)::starEach es X.env:=by rfl) (hplain:(backTo cpos (starEach es X.env)).any (·.1)=false:=by rfl):
 PE X (.Call (.Attribute o name apos) (e::es) [] cpos) (tBM X.K T r to t):=by
 intro pins s σ H Q I h
 refine wpAny_Call_method_late hbase hfew hline rfl (thn (ho pins s σ H _ I h) fun v s1 hq_=>?_)
 obtain ⟨x,H1,I1,r1,ty,q1⟩:=hq_
 obtain ⟨h1,h2⟩:=tyV_is I1 r1 ty
 refine ⟨T,id,pa,slot,hty,h1,h2,?_⟩
 have hA:=ha cpos pins s1 σ H1 _ I1 q1
 rw [hs]at hA ⊢
 refine Calls.callWith_builtin (by show (false || (backTo cpos (starEach es X.env)).any (·.1))=false;rw [hplain] <;> rfl) (Calls.evalArgs_plain ?_)
 exact thn hA fun us s2 ⟨vs,H2,I2,r2,q2⟩=>hm pins s2 σ H2 x vs v us Q I2 r1 r2 q2
end
end L2
namespace L2
noncomputable def MtM(X:Cx)(id:String)(r:V→List V→Hp→VK→Prop):Prop:=
 ∀(pins:List (Addr×Obj)) (s:Shared) (σ:St) (H:Hp) (x:V) (xs:List V) (v:Value) (us:List Value) (Q:VK),Inv X pins σ H s→RelV x v→Vals xs us→r x xs H Q→
   wpAny (model X.prog X.w) X.A (call (.builtin id) (v::us)) (EP X pins σ Q) X.xe s
theorem Vals.one:∀{x:V} {us:List Value},Vals [x] us→∃u,us=[u]∧RelV x u
 | _,_,.cons r .nil=>⟨_,rfl,r⟩
theorem Vals.zero:∀{us:List Value},Vals [] us→us=[]
 | _,.nil=>rfl
theorem Vals.rep{xs:List V}{us:List Value}(h:Vals xs us):∀k:Nat,Vals (List.replicate k xs).flatten (List.replicate k us).flatten
 | 0=> .nil
 | k+1=>by
  rw [List.replicate_succ,List.replicate_succ,List.flatten_cons,List.flatten_cons]
  exact Vals.append h (Vals.rep h k)
theorem foldl_rep(its:List Value):∀(k:Nat) (acc:List Value),
 List.foldl (fun x1 x2=>x1++x2) acc.toArray (List.replicate k its.toArray)=(acc++(List.replicate k its).flatten).toArray
 | 0,acc=>by simp
 | k+1,acc=>by
  have e:acc.toArray++its.toArray=(acc++its).toArray:=by simp
  have e2:(acc++its)++(List.replicate k its).flatten=acc++(List.replicate (k+1) its).flatten:=by
   rw [List.replicate_succ,List.flatten_cons,List.append_assoc]
  rw [← e2,← foldl_rep its k (acc++its),← e,List.replicate_succ,List.foldl_cons]
section
variable {X:Cx} {pins:List (Addr×Obj)} {σ:St} {H:Hp} {s:Shared} {l b:Addr} {xs ys zs:List V}
theorem Inv.lset{its its':List Value}{n:Nat}{f:Array Value→Array Value}{t':Nat}(I:Inv X pins σ H s)(hH:H l=some (.lst xs))
 (e:s.heap.get? l=some {cls:= .type "list",data:= .seq its.toArray n}) (hf:f its.toArray=its'.toArray) (hv:Vals ys its') (hz:ys.length≤sizeLine):
 Inv X pins σ (upd H l (.lst ys)) {s with heap:=s.heap.update l (Obj.mapSeq f),toks:=t'}:=by
 have q:=PySem.IsL.update e f
 rw [hf]at q
 refine I.write (x:=l) (e:=l) (by rw [hH];exact trivial) (.inl rfl) (fun b' u hb hu=>(Heap.get?_update_other s.heap (Obj.mapSeq f) (Ne.symm hb)).trans hu) ⟨_,q⟩ ?_
 exact ⟨hz,its',_,hv,q⟩
theorem Inv.lnew{its:List Value}{t':Nat}(I:Inv X pins σ H s)(hv:Vals ys its)(hz:ys.length≤sizeLine):
 Inv X pins σ (upd H s.heap.objs.size (.lst ys)) {s with heap:=s.heap.push {cls:= .type "list",data:= .seq its.toArray},toks:=t'}:=
 I.laid (fun _ _ q=>Heap.get?_push_of_some _ q) (Nat.le_refl _) ⟨hz,its,0,hv,Heap.get?_push_size _ rfl⟩
theorem Inv.fresh(I:Inv X pins σ H s):H s.heap.objs.size=none:=I.hok.fresh (Nat.le_refl _)
theorem Inv.lstM(I:Inv X pins σ H s)(hH:H l=some (.lst xs)):xs.length≤sizeLine∧∃(its:List Value) (n:Nat),Vals xs its∧xs.length=its.length∧s.heap.get? l=some {cls:= .type "list",data:= .seq its.toArray n}:=by
 obtain ⟨z,its,n,r,e⟩:=I.hok l _ hH
 exact ⟨z,its,n,r,r.length,e⟩
theorem notLongL{n:Nat}(h:n≤sizeLine):Builtin.List.listTooLong n=false:=by
 unfold Builtin.List.listTooLong
 exact decide_eq_false (by omega)
end
section
variable {X:Cx}
noncomputable def rAppend:V→List V→Hp→VK→Prop:=fun x vs H Q=>∃l xs y,x= .ref l∧vs=[y]∧H l=some (.lst xs)∧xs.length < sizeLine∧Q .non (upd H l (.lst (xs++[y])))
theorem mt_append:MtM X "list.append" rAppend:=by
 intro pins s σ H x vs v us Q I rx rv h
 obtain ⟨l,xs,y,rfl,rfl,hH,hz,q⟩:=h
 cases rx
 obtain ⟨u,rfl,ru⟩:=rv.one
 obtain ⟨z,its,n,r,hl,e⟩:=I.lstM hH
 refine call_meets F.slot_list_append ⟨_,e,rfl⟩ F.entry_list_append (F.args_list_append_2 _ _) (PySem.list_append l its.toArray n u (by rw [List.size_toArray];omega)) ⟨e,?_⟩
 refine ⟨.non,_,I.lset (its':=its++[u]) hH e (by simp) (r.append (.cons ru .nil)) ?_,rfl,q⟩
 rw [List.length_append,List.length_singleton]
 omega
noncomputable def rExtend:V→List V→Hp→VK→Prop:=fun x vs H Q=>∃l b xs zs,x= .ref l∧vs=[.ref b]∧H l=some (.lst xs)∧H b=some (.lst zs)∧xs.length+zs.length≤sizeLine∧Q .non (upd H l (.lst (xs++zs)))
theorem mt_extend:MtM X "list.extend" rExtend:=by
 intro pins s σ H x vs v us Q I rx rv h
 obtain ⟨l,b,xs,zs,rfl,rfl,hH,hB,hz,q⟩:=h
 cases rx
 obtain ⟨u,rfl,ru⟩:=rv.one
 cases ru
 obtain ⟨z,its,n,r,hl,e⟩:=I.lstM hH
 obtain ⟨z2,its2,n2,r2,hl2,e2⟩:=I.lstM hB
 have hsz:its.toArray.size+its2.toArray.size≤sizeLine:=by rw [List.size_toArray,List.size_toArray];omega
 have hlong:¬(!its.toArray.isEmpty && Builtin.List.listTooLong (its.toArray.size+its2.toArray.size))=true:=by
  rw [notLongL hsz,Bool.and_false]
  exact Bool.false_ne_true
 refine call_meets F.slot_list_extend ⟨_,e,rfl⟩ F.entry_list_extend (F.args_list_extend_2 _ _)
  (AutoSeq1.list_extend_list_list_0 l its.toArray n b its2.toArray n2 hlong (by rw [List.size_toArray];omega) (by omega)) ⟨e,e2,?_⟩
 refine ⟨.non,_,I.lset (its':=its++its2) hH e (by simp) (r.append r2) ?_,rfl,q⟩
 rw [List.length_append]
 omega
noncomputable def rPopAt:V→List V→Hp→VK→Prop:=fun x vs H Q=>∃l xs i k y,x= .ref l∧vs=[.int i]∧H l=some (.lst xs)∧-(2 ^ 63)≤i∧i < 2 ^ 63∧seqIndex? i xs.length=some k∧xs[k]?=some y∧Q y (upd H l (.lst (xs.eraseIdx k)))
noncomputable def rCat:R2:=fun x y H Q=>∃l b xs zs,x= .ref l∧y= .ref b∧H l=some (.lst xs)∧H b=some (.lst zs)∧xs.length+zs.length≤sizeLine∧∀p,H p=none→Q (.ref p) (upd H p (.lst (xs++zs)))
theorem op_cat:OpR X (binaryOp .Add) rCat:=by
 intro pins s σ H x y v u Q I rx ry h
 obtain ⟨l,b,xs,zs,rfl,rfl,hH,hB,hz,q⟩:=h
 cases rx
 cases ry
 obtain ⟨z,its,n,r,hl,e⟩:=I.lstM hH
 obtain ⟨z2,its2,n2,r2,hl2,e2⟩:=I.lstM hB
 refine PySem.P.add_list e e2 ?_ (by rw [List.size_toArray,List.size_toArray];omega)
 have ea:its.toArray++its2.toArray=(its++its2).toArray:=by simp
 rw [ea]
 exact ⟨.ref _,_,I.lnew (t':=s.toks) (r.append r2) (by rw [List.length_append];omega),rfl,q _ I.fresh⟩
noncomputable def rRep:R2:=fun x y H Q=>∃l k xs,x= .ref l∧y= .int k∧H l=some (.lst xs)∧-(2 ^ 63)≤k∧k < 2 ^ 63∧xs.length * k.toNat≤sizeLine∧
 ∀p,H p=none→Q (.ref p) (upd H p (.lst (List.replicate k.toNat xs).flatten))
theorem len_rep{α:Type}(xs:List α)(k:Nat):(List.replicate k xs).flatten.length=k * xs.length:=by
 induction k with
 | zero=>simp
 | succ k ih=>rw [List.replicate_succ,List.flatten_cons,List.length_append,ih,Nat.succ_mul,Nat.add_comm]
theorem op_rep:OpR X (binaryOp .Mult) rRep:=by
 intro pins s σ H x y v u Q I rx ry h
 obtain ⟨l,k,xs,rfl,rfl,hH,h1,h2,hz,q⟩:=h
 cases rx
 obtain ⟨t,rfl⟩:=ry
 obtain ⟨z,its,n,r,hl,e⟩:=I.lstM hH
 have hlen:its.toArray.size * k.toNat≤sizeLine:=by rw [List.size_toArray,← hl];exact hz
 have hcap:¬its.toArray.size * k.toNat > (2 ^ 63 - 1) / 8:=by
  have:(sizeLine:Nat)≤(2 ^ 63 - 1) / 8:=by decide
  omega
 have hfit:¬(!Builtin.List.listFitsIndex k)=true:=by
  rw [fitsIndex_both h1 h2]
  exact Bool.false_ne_true
 have hlong:¬Builtin.List.listTooLong (its.toArray.size * k.toNat)=true:=by
  rw [notLongL hlen]
  exact Bool.false_ne_true
 have hnew:List.foldl (fun x1 x2=>x1++x2) #[] (List.replicate (if its.toArray.isEmpty=true then 0 else k.toNat) its.toArray)=(List.replicate k.toNat its).flatten.toArray:=by
  have f0:∀m:Nat,List.foldl (fun x1 x2=>x1++x2) #[] (List.replicate m its.toArray)=(List.replicate m its).flatten.toArray:=fun m=>by
   have:=foldl_rep its m []
   rw [List.nil_append]at this
   exact this
  rw [f0]
  cases its with
  | nil=>simp
  | cons a r'=>rw [if_neg (by simp)]
 refine wpAny_binaryOp_repeat_ref (T:="list") (U:="int") (by decide) ⟨_,e,rfl⟩ (fun s'=>typeIs_int s' k t) noFill_list_mul F.fills_int_mul F.slot_int_rmul repeat_list F.slot_int_index.lookup
  (call_meets F.slot_int_rmul (typeIs_int s k t) F.entry_int_rmul (F.args_int_rmul_2 _ _) (int___rmul___int_list k t l its.toArray n)
   ⟨e,rfl,⟨_,e,rfl⟩,call_meets F.slot_list_mul ⟨_,e,rfl⟩ F.entry_list_mul (F.args_list_mul_2 _ _) (AutoListH.list___mul___list_int_3 l its.toArray n k t hfit hcap hlong) ⟨e,?_⟩⟩)
 rw [hnew]
 exact ⟨.ref _,_,I.lnew (t':=s.toks) (r.rep k.toNat) (by rw [len_rep,Nat.mul_comm];exact hz),rfl,q _ I.fresh⟩
end
end L2
namespace Att
open PySem PySem.W PySem.Calls PyProof.Rows
theorem ints_of_wellAll{P:Params}{h:Heap}:∀(ns:List Int) (vs:List Value),WellAll P h vs (ns.map WData.int)→IntsAre vs ns:=by
 intro ns
 induction ns with
 | nil=>
  intro vs w
  rw [List.map_nil]at w
  cases w
  exact .nil
 | cons n ns ih=>
  intro vs w
  rw [List.map_cons]at w
  cases w with
  | cons a b=>
   cases a
   exact .cons _ _ (ih _ b)
theorem script_of{l:OpenLaw}{n:Nat}(hn:l.most=some n){P:Params}{h:Heap}{args:List WData}{vals:List Value}
 (hpre:l.row.toRowW.claim.pre args=true) (hwl:WellAll P h vals args):
 ∃a vs ns,vals=[Value.ref a]∧args=[WData.list (ns.map WData.int)]∧h.get? a=some {cls:= .type "list",data:= .seq vs.toArray}∧IntsAre vs ns∧ns.length≤n:=by
 have hsh:WShape.hasAll [] args [.list .int]=true:=(pre_splitW hpre).1
 have hc:l.pre.holds [] {args:=args}=true:=(pre_splitW hpre).2
 obtain ⟨d,r,rfl,h1,h2⟩:=hasAllW_cons hsh
 obtain rfl:=hasAllW_nil h2
 obtain ⟨xs,rfl,h3⟩:=hasW_list h1
 obtain ⟨ns,rfl⟩:=items_int h3
 have hlen:ns.length≤n:=by
  unfold OpenLaw.pre at hc
  have h4:(WTm.not (.lt (.lit (.int (n:Int))) (.len (.arg 0)))).holds [] {args:=[.list (ns.map .int)]}=true:=by
   have h4:=(holds_andW hc).1
   rw [hn]at h4
   exact h4
  have h5:=condW_of h4 (w_not (w_lt w_lit (w_len_list (w_arg rfl))))
  rw [List.length_map]at h5
  refine Nat.le_of_not_lt fun q=>?_
  have q':(n:Int) < ((ns.length:Nat):Int):=by omega
  first
   | (rw [decide_eq_true q']at h5;exact absurd h5 (by decide))
   | (simp at h5;omega)
 cases hwl with
 | cons w1 w2=>
  cases w2
  cases w1 with
  | list ho hall=>exact ⟨_,_,ns,rfl,rfl,ho,ints_of_wellAll ns _ hall,hlen⟩
theorem post_true(l:OpenLaw)(args:List WData):l.row.toRowW.claim.post args (.bool true) args=true:=
 postW_of (r:=l.row.toRowW) (X:=(true==true))
  (show WShape.has [] (.bool true) .bool=true by first | rfl | decide | simp [WShape.has,WShape.arms,WShape.armsAll])
  (show (WTm.eq .res (.lit (.bool true))).value [] {args:=args,res:=some (.bool true),after:=args}=some (.bool (true==true)) from w_eq_bool (w_res rfl) w_lit) rfl
theorem attach_call{l:OpenLaw}{n:Nat}{q:Program}{loose:List Str}{XP:(Str→Option Value)→Heap→Prop}{YP:World→Heap→Prop}{d:DefRec}
 (hn:l.most=some n) (hdf:d.params.defaults=[])
 (call:∀(w:World) (s₀ s₁:Shared) (mg mb:Str→Option Value) (fa:Addr) (o:Obj) (pm cd doc:Value) (a:Addr) (vs:List Value) (ns:List Int),
  Ground q loose [] XP w s₀ mg mb s₁.heap→YP w s₁.heap→
  s₁.heap.get? fa=some o→o.data= .func (docDef d.name d.params d.body d.scope pm cd doc)→s₁.heap.CodeRec cd d.name→mg d.name=some (.ref fa)→
  s₁.heap.get? a=some {cls:= .type "list",data:= .seq vs.toArray}→IntsAre vs ns→ns.length≤n→s₁.gens=#[]→
  codeAny (model l.prog w) callerA (.call (.ref fa) ⟨[.ref a],[]⟩) (fun r s'=>r= .ok (.ret (.bool true))∧OldK s₁.heap s'.heap∧s'.os=s₁.os∧AllBare s'.gens) s₁):
 WalkO q loose XP YP l.row.toRowW d [] (fun f vs=>PySem.call f vs):=by
 intro w s₀ s₁ mg mb G Y fa o pm cd doc dV kV ho hd hcd hD hmg hg args vals as hpre hlay hrd hwl hlo
 obtain rfl:dV= .none:=Dflts.none hD hdf
 obtain rfl:kV= .none:=Dflts.noKw hD
 obtain ⟨a,vs,ns,rfl,rfl,hobj,hints,hlen⟩:=script_of hn hpre hwl
 refine enter_call (codeAny_mono (call w s₀ s₁ mg mb fa o pm cd doc a vs ns G Y ho (fd_plain hd) hcd hmg hobj hints hlen hg) fun r s' hq=>?_)
 obtain ⟨rfl,h2,h3,h4⟩:=hq
 exact ⟨.inl ⟨.bool true,.bool true,[],rfl,fun _=>rfl,.bool true,post_true l _,fun _=>⟨List.Pairwise.nil,fun _ hm=>(nomatch hm)⟩⟩,h2,h3,h4⟩
end Att
namespace L2
theorem vals_ints:∀{vs:List Value} {ns:List Int},IntsAre vs ns→Vals (ns.map V.int) vs
 | _,_,.nil=> .nil
 | _,_,.cons n t h=> .cons ⟨t,rfl⟩ (vals_ints h)
noncomputable def Only(H:Hp):Prop:=∀b,H b=none∨∃o xs,H b=some (.frz o (.lst xs))
theorem law_call{P:Program}{w:World}{K:PySem.W.Frag}{mg mb:Str→Option Value}{CX:CXT}{k:Nat}{fa a:Addr}{fd:FuncData}{x:Str}{sp:Sp}{s₁:Shared}{vs:List Value}{ns:List Int}
 (KX:K.In s₁.heap) (hns:s₁.heap.Ns mainGlobals mg) (hb:s₁.heap.Ns builtinsNs mb) (hbb:∀x:Str,x≠"__name__"→mb x=bootBuiltins x) (hlim:s₁.heap.NoLimit) (hg:s₁.gens=#[])
 (ha:s₁.heap.get? a=some {cls:= .type "list",data:= .seq vs.toArray}) (hi:IntsAre vs ns) (hl:ns.length≤sizeLine) (hr:Room k callerA)
 (F:∀base:Heap,K.In base→base.Ns mainGlobals mg→FnOk P w K mg base CX k fa fd [x] sp) (hbind:∀(s:Shared) (u:Value),BindsTo s fd ⟨[u],[]⟩ [(x,u)])
 (hsp:∀H:Hp,Only H→SqL K H a (ns.map V.int)→sp [.ref a] H (fun v _=>v= .bl true) fun _ _ _=>False)
 (hCX:∀H e s',CX [] H s₁ (fun _ _ _=>False) e s'→False):
 codeAny (model P w) callerA (.call (.ref fa) ⟨[.ref a],[]⟩) (fun r s'=>r= .ok (.ret (.bool true))∧OldK s₁.heap s'.heap∧s'.os=s₁.os∧AllBare s'.gens) s₁:=by
 have rv:=vals_ints hi
 have lenV:=hi.length
 have core:∀H:Hp,Only H→SqL K H a (ns.map V.int)→HOk P w H s₁.heap→(∀b,H b≠none→b=a)→(H a≠none→K.lookup a=none)→
  codeAny (model P w) callerA (.call (.ref fa) ⟨[.ref a],[]⟩) (fun r s'=>r= .ok (.ret (.bool true))∧OldK s₁.heap s'.heap∧s'.os=s₁.os∧AllBare s'.gens) s₁:=by
  intro H hO hS hok hA hK
  have base_of:∀{b:Addr} {o:Obj},s₁.heap.get? b=some o→H b=none→(hidT s₁.heap H).get? b=some o:=fun e n=>hidT_get e n
  have noA:∀{b:Addr} {o:Obj} {es:Array DictEntry} {ep:Nat},s₁.heap.get? b=some o→o.data= .dict es ep→H b=none:=fun {b o es ep} e d=>by
   cases q:H b with
   | none=>rfl
   | some u=>
    have e':b=a:=hA b (by rw [q];simp)
    subst e'
    rw [ha]at e;cases e
    have d':Data.seq vs.toArray _=Data.dict es ep:=d
    cases d'
  have nsK:∀{b:Addr} {m:Str→Option Value},s₁.heap.Ns b m→(hidT s₁.heap H).Ns b m:=fun {b m} ⟨o,es,ep,e,d,r⟩=>⟨o,es,ep,base_of e (noA e d),d,r⟩
  have hKb:K.In (hidT s₁.heap H):=fun b o e=>base_of (KX b o e) (by
   cases q:H b with
   | none=>rfl
   | some u=>
    have e':b=a:=hA b (by rw [q];simp)
    subst e'
    rw [hK (by rw [q];simp)]at e;cases e)
  have hM:Mod K mg (hidT s₁.heap H):=⟨hKb,nsK hns,⟨mb,nsK hb,hbb⟩,let ⟨mc,h1,h2⟩:=hlim;⟨mc,nsK h1,h2⟩⟩
  have e0:Env0 P w K mg (hidT s₁.heap H) callerA [] s₁ H:=⟨rfl,hM,fun b o e=>of_hidT e,Nat.le_of_eq (hidT_size _ _),trivial,fun b hb=>absurd (show b∈([]:List Addr) from hb) (by simp),hok,.of_eq hg⟩
  refine codeAny_mono ((F _ hKb (nsK hns)).run callerA [] s₁ H ⟨[.ref a],[]⟩ [.ref a] [.ref a] _ _ hr e0 (hbind s₁ (.ref a)) (.cons rfl .nil) (hsp H hO hS)) fun r s' h=>?_
  cases r with
  | error e=>exact (hCX H e s' h).elim
  | ok fl=>
   cases fl with
   | next=>exact False.elim h
   | brk=>exact False.elim h
   | cont=>exact False.elim h
   | ret u=>
    obtain ⟨v,H',os,bare,un,hok',r',q⟩:=h
    have q':v= .bl true:=q
    subst q'
    obtain rfl:u=Value.bool true:=r'
    refine ⟨rfl,OldK.of_keep fun b o e=>?_,os,bare⟩
    cases q:H b with
    | none=>exact un.keep b o e q (by intro z;exact absurd (show b∈([]:List Addr) from z) (by simp)) (by simp)
    | some u=>
     rcases hO b with z | ⟨ob,xs,z⟩
     · rw [q]at z;cases z
     · have z2:=un.frzs b ob _ z
       obtain ⟨e1,_⟩:=hok b _ z
       obtain ⟨e2,_⟩:=hok' b _ z2
       rw [e]at e1;cases e1
       exact e2
 cases hk:K.lookup a with
 | some o=>
  have e:=KX a o hk
  rw [ha]at e
  cases e
  refine core (fun _=>none) (fun _=> .inl rfl) (.inr ⟨_,vs.toArray,_,hk,rfl,rfl,rfl,by rw [List.size_toArray,lenV];exact hl,by simpa using rv⟩) (fun b u z=>by have z':(none:Option HO)=some u:=z;cases z') (fun b z=>absurd rfl z) fun z=>absurd rfl z
 | none=>
  refine core (fun b=>if b=a then some (.frz {cls:= .type "list",data:= .seq vs.toArray} (.lst (ns.map V.int))) else none) (fun b=>?_) (.inl (.inr ⟨{cls:= .type "list",data:= .seq vs.toArray},if_pos rfl⟩)) (fun b u z=>?_) (fun b z=>?_) fun _=>hk
  · by_cases hb:b=a
    · exact .inr ⟨_,_,if_pos hb⟩
    · exact .inl (if_neg hb)
  · by_cases hb:b=a
    · have z':=(if_pos hb).symm.trans z
      cases z'
      subst hb
      exact ⟨ha,by rw [List.length_map];exact hl,vs,_,rv,ha⟩
    · have z':=(if_neg hb).symm.trans z
      cases z'
  · by_cases hb:b=a
    · exact hb
    · exact absurd (if_neg hb) z
end L2
namespace L2
theorem walk_of{l:PySem.W.OpenLaw}{n k:Nat}{q:Program}{loose:List Str}{XP:(Str→Option Value)→Heap→Prop}{YP:World→Heap→Prop}{d:DefRec}{K:Params→PySem.W.Frag}{CX:World→CXT}{sp:World→Sp}{x:Str}
 (hn:l.most=some n) (hn2:n≤sizeLine) (hdf:d.params.defaults=[]) (hr:Room k callerA)
 (hY:∀(w:World) (h:Heap),YP w h→(K w.params).In h)
 (F:∀(w:World) (mg:Str→Option Value) (fa:Addr) (h:Heap),(K w.params).In h→h.Ns mainGlobals mg→mg d.name=some (.ref fa)→
  ∃fd:FuncData,(∀(s:Shared) (u:Value),BindsTo s fd ⟨[u],[]⟩ [(x,u)])∧
   ∀base:Heap,(K w.params).In base→base.Ns mainGlobals mg→FnOk l.prog w (K w.params) mg base (CX w) k fa fd [x] (sp w))
 (hsp:∀(w:World) (H:Hp) (a:Addr) (ns:List Int),ns.length≤n→Only H→SqL (K w.params) H a (ns.map V.int)→sp w [.ref a] H (fun v _=>v= .bl true) fun _ _ _=>False)
 (hCX:∀(w:World) (H:Hp) (s:Shared) (e:Value) (s':Shared),CX w [] H s (fun _ _ _=>False) e s'→False):
 PySem.W.WalkO q loose XP YP l.row.toRowW d [] (fun f vs=>PySem.call f vs):=by
 refine Att.attach_call hn hdf fun w s₀ s₁ mg mb fa o pm cd doc a vs ns G Y ho hd hcd hmg hobj hints hlen hg=>?_
 have KX:=hY w _ Y
 obtain ⟨fd,hb,hF⟩:=F w mg fa _ KX G.T.g hmg
 exact law_call KX G.T.g G.T.b G.T.builtins G.T.nolimit hg hobj hints (Nat.le_trans hlen hn2) hr hF hb (fun H hO hS=>hsp w H a ns hlen hO hS) fun H e s'=>hCX w H s₁ e s'
end L2
namespace L2
noncomputable def inClass(s:Stmt)(j:Nat):Stmt:=match s with
 | .ClassDef _ _ _ body _ _ _ _ _ _ _=>body.getD j (.Pass ⟨0,0,0,0⟩)
 | _=> .Pass ⟨0,0,0,0⟩
noncomputable def defArgs(s:Stmt):Arguments:=match s with
 | .FunctionDef _ a _ _ _ _ _ _ _ _=>a
 | _=>{posonlyargs:=[],args:=[],vararg:=none,kwonlyargs:=[],kw_defaults:=[],kwarg:=none,defaults:=[]}
noncomputable def defBody(s:Stmt):List Stmt:=match s with
 | .FunctionDef _ _ b _ _ _ _ _ _ _=>b
 | _=>[]
noncomputable def defScope(s:Stmt):Scope:=match s with
 | .FunctionDef _ _ _ _ _ _ sc _ _ _=>sc
 | _=>{kind:= .function,names:=[],isGenerator:=false,isCoroutine:=false}
noncomputable abbrev CX0:CXT:=fun _ _ _ _ _ _=>False
noncomputable abbrev E0:XK:=fun _ _ _=>False
structure Fun(K:PySem.W.Frag)(x qual:Str)(st:Stmt)(f:Addr)(fd:FuncData):Prop where
 ex:∃(oc:Value) (od:Option Addr) (kV doc pm:Value) (an:Option Addr) (cdv ct:Value) (osl:Array (Option Value)),
  fd=PySem.W.fnOf x qual (defArgs st) (defBody st) (defScope st) .none kV doc pm an cdv ct∧K.lookup f=some ⟨oc,od,.func fd,osl⟩∧PySem.W.codeIn K cdv qual=true
 kp:PySem.W.keepIn K (.ref f)=true
section
variable {P:Program} {w:World} {K:PySem.W.Frag} {mg:Str→Option Value} {base:Heap}
theorem Fun.ok{x qual:Str}{st:Stmt}{f:Addr}{fd:FuncData}{N ps:List Str}{k:Nat}{sp:Sp}(F:Fun K x qual st f fd)(S:FnScope N ps (defScope st))(len:∀vs H Q E,sp vs H Q E→vs.length=ps.length)
 (hbody:∀(cdv:Value) (A:Around) (outer:List Env) (s:Shared) (H:Hp) (vs:List V) (Q:VK) (E:XK),Room k (A.deeper (envOfC qual (defScope st) s.heap.objs.size f cdv))→sp vs H Q E→
  ∃t,PSs (cxOf CX0 P w K mg base N qual (defScope st) f cdv A outer s H E).nox (defBody st) t∧t {nx:=fun _ H'=>Q .non H',rt:=Q} (start N vs) H):FnOk P w K mg base CX0 (k+1) f fd ps sp:=by
 obtain ⟨oc,od,kV,doc,pm,an,cdv,ct,osl,rfl,lk,hcd⟩:=F.ex
 refine fn_of lk hcd S len fun A outer s H vs Q E hr hsp=>?_
 obtain ⟨t,h,q⟩:=hbody cdv A outer s H vs Q E hr hsp
 exact ⟨t,h.nox,q⟩
theorem Fun.binds{x qual:Str}{st:Stmt}{f:Addr}{fd:FuncData}{ps:List Str}(F:Fun K x qual st f fd)
 (h:∀(kV doc pm:Value) (an:Option Addr) (cdv ct:Value) (us:List Value),us.length=ps.length→bindArgs (PySem.W.fnOf x qual (defArgs st) (defBody st) (defScope st) .none kV doc pm an cdv ct) ⟨us,[]⟩=pure (ps.zip us)):Binds K fd ps []:=by
 obtain ⟨oc,od,kV,doc,pm,an,cdv,ct,osl,rfl,lk,hcd⟩:=F.ex
 exact .all (h kV doc pm an cdv ct)
theorem fun_mk{x qual:Str}{st:Stmt}{f:Addr}{oc:Value}{od an:Option Addr}{osl:Array (Option Value)}{kV doc pm cdv ct:Value}(l:K.lookup f=some ⟨oc,od,.func (PySem.W.fnOf x qual (defArgs st) (defBody st) (defScope st) .none kV doc pm an cdv ct),osl⟩)
 (c:PySem.W.codeIn K cdv qual=true) (k:PySem.W.keepIn K (.ref f)=true):Fun K x qual st f (PySem.W.fnOf x qual (defArgs st) (defBody st) (defScope st) .none kV doc pm an cdv ct):=⟨⟨oc,od,kV,doc,pm,an,cdv,ct,osl,rfl,l,c⟩,k⟩
end
theorem hu_of{A:Around}{k:Nat}(hr:Room k A):A.units+1 < cLine:=Nat.lt_of_le_of_lt (Nat.add_le_add_left (by decide:1≤64) _) hr.units
section
variable {X:Cx}
theorem pv(i:Nat){x:Str}{pos:Pos}(hN:X.N[i]?=some x:=by rfl)(hv:Vis X.env.scope x:=by first | exact Or.inl rfl | exact Or.inr (Or.inl rfl) | exact Or.inr (Or.inr rfl))(hd:(x==("__debug__":Str))=false:=by decide)
 (hcd:(x==("__classdict__":Str))=false:=by decide):PE X (.Name x pos) (tVar i):=pe_var hN hv hd hcd
end
noncomputable def Same(H H':Hp):Prop:=∀b o,H b=some o→H' b=some o
theorem Same.refl(H:Hp):Same H H:=fun _ _ h=>h
theorem Same.trans{H H1 H2:Hp}(a:Same H H1)(b:Same H1 H2):Same H H2:=fun c o h=>b c o (a c o h)
theorem Same.seq{K:PySem.W.Frag}{H H':Hp}{a:Addr}{xs:List V}(e:Same H H')(h:SqL K H a xs):SqL K H' a xs:=by
 rcases h with (h | ⟨o,h⟩) | h
 · exact .inl (.inl (e _ _ h))
 · exact .inl (.inr ⟨o,e _ _ h⟩)
 · exact .inr h
end L2
namespace L2
section
variable {κ:Type} [DecidableEq κ]
noncomputable def valV(kvs:List (κ×V))(k:κ):Option V:=(kvs.find? fun kv=>decide (kv.1=k)).map (·.2)
noncomputable def putK(kvs:List (κ×V))(k:κ)(v:V):List (κ×V):=
 if (kvs.any fun kv=>decide (kv.1=k))=true then kvs.map (fun kv=>if kv.1=k then (kv.1,v) else kv) else kvs++[(k,v)]
noncomputable def dropK(kvs:List (κ×V))(k:κ):List (κ×V):=kvs.filter fun kv=>decide (kv.1≠k)
theorem valV_pos{p:κ×V}{r:List (κ×V)}{k:κ}(e:p.1=k):valV (p::r) k=some p.2:=by simp [valV,List.find?_cons,e]
theorem valV_neg{p:κ×V}{r:List (κ×V)}{k:κ}(e:¬p.1=k):valV (p::r) k=valV r k:=by simp [valV,List.find?_cons,e]
theorem valV_any(k:κ):∀kvs:List (κ×V),(kvs.any fun kv=>decide (kv.1=k))=(valV kvs k).isSome
 | []=>rfl
 | p::r=>by
  rw [List.any_cons]
  by_cases e:p.1=k
  · simp only [valV_pos e,decide_eq_true e,Bool.true_or,Option.isSome_some]
  · rw [valV_neg e,decide_eq_false e,Bool.false_or];exact valV_any k r
theorem valV_map(k j:κ)(y:V):∀kvs:List (κ×V),valV (kvs.map fun kv=>if kv.1=k then (kv.1,y) else kv) j=(valV kvs j).map fun x=>if j=k then y else x
 | []=>rfl
 | p::r=>by
  have ih:=valV_map k j y r
  rw [List.map_cons]
  by_cases h:p.1=k
  · rw [if_pos h]
    by_cases e:p.1=j
    · rw [valV_pos (p:=(p.1,y)) e,valV_pos e,Option.map_some,if_pos (e.symm.trans h)]
    · rw [valV_neg (p:=(p.1,y)) e,valV_neg e,ih]
  · rw [if_neg h]
    by_cases e:p.1=j
    · rw [valV_pos (p:=p) e,valV_pos e,Option.map_some,if_neg (fun z=>h (e.trans z))]
    · rw [valV_neg (p:=p) e,valV_neg e,ih]
theorem valV_snoc(k j:κ)(y:V):∀kvs:List (κ×V),valV kvs k=none→valV (kvs++[(k,y)]) j=if j=k then some y else valV kvs j
 | [],_=>by
  by_cases e:k=j
  · rw [if_pos e.symm];exact valV_pos (p:=(k,y)) e
  · rw [if_neg (fun z=>e z.symm)];exact valV_neg (p:=(k,y)) e
 | p::r,hn=>by
  rw [List.cons_append]
  have hk:¬p.1=k:=fun z=>by rw [valV_pos z]at hn;cases hn
  rw [valV_neg hk]at hn
  have ih:=valV_snoc k j y r hn
  by_cases e:p.1=j
  · rw [valV_pos e,valV_pos e,if_neg (fun z=>hk (e.trans z))]
  · rw [valV_neg e,valV_neg e,ih]
theorem valV_put(kvs:List (κ×V))(k j:κ)(y:V):valV (putK kvs k y) j=if j=k then some y else valV kvs j:=by
 unfold putK
 by_cases a:(kvs.any fun kv=>decide (kv.1=k))=true
 · rw [if_pos a,valV_map]
   rw [valV_any]at a
   by_cases e:j=k
   · obtain ⟨x,hx⟩:=Option.isSome_iff_exists.mp a
     rw [if_pos e,e,hx,Option.map_some,if_pos rfl]
   · rw [if_neg e]
     cases valV kvs j with
     | none=>rfl
     | some x=>rw [Option.map_some,if_neg e]
 · rw [if_neg a]
   refine valV_snoc k j y kvs ?_
   rw [valV_any]at a
   cases q:valV kvs k with
   | none=>rfl
   | some x=>rw [q]at a;exact (a rfl).elim
theorem length_putK(kvs:List (κ×V))(k:κ)(v:V):(putK kvs k v).length≤kvs.length+1:=by
 unfold putK
 split
 · rw [List.length_map];omega
 · rw [List.length_append,List.length_cons,List.length_nil];omega
theorem putK_new{kvs:List (κ×V)}{k:κ}(v:V)(h:valV kvs k=none):putK kvs k v=kvs++[(k,v)]:=by
 unfold putK
 rw [valV_any,h]
 exact if_neg (by decide)
theorem RelO.isSome_eq{o:Option V}{u:Option Value}(r:RelO o u):o.isSome=u.isSome:=by
 cases o with
 | none=>cases u with
  | none=>rfl
  | some _=>exact (show False from r).elim
 | some _=>cases u with
  | none=>exact (show False from r).elim
  | some _=>rfl
theorem RelO.getD{o:Option V}{u:Option Value}{d:V}{d':Value}(r:RelO o u)(rd:RelV d d'):RelV (o.getD d) (u.getD d'):=by
 cases o with
 | none=>cases u with
  | none=>exact rd
  | some _=>exact (show False from r).elim
 | some _=>cases u with
  | none=>exact (show False from r).elim
  | some _=>exact r
theorem KV.val{kvs:List (κ×V)}{vs:List (κ×Value)}(r:KV kvs vs)(k:κ):RelO (valV kvs k) (valueAt vs k):=by
 unfold KV at r
 induction r with
 | nil=>exact True.intro
 | @cons p q ps qs h t ih=>
  obtain ⟨h1,h2⟩:=h
  by_cases e:p.1=k
  · have e':q.1=k:=h1.symm.trans e
    have b:valueAt (q::qs) k=some q.2:=by simp [valueAt,List.find?_cons,e']
    rw [valV_pos e,b];exact h2
  · have e':¬q.1=k:=fun z=>e (h1.trans z)
    have b:valueAt (q::qs) k=valueAt qs k:=by simp [valueAt,List.find?_cons,e']
    rw [valV_neg e,b];exact ih
theorem KV.any{kvs:List (κ×V)}{vs:List (κ×Value)}(r:KV kvs vs)(k:κ):(kvs.any fun kv=>decide (kv.1=k))=vs.any fun kv=>decide (kv.1=k):=by
 unfold KV at r
 induction r with
 | nil=>rfl
 | cons h t ih=>rw [List.any_cons,List.any_cons,ih,h.1]
theorem KV.repl{kvs:List (κ×V)}{vs:List (κ×Value)}(r:KV kvs vs)(k:κ){y:V}{u:Value}(ry:RelV y u):
 KV (kvs.map fun kv=>if kv.1=k then (kv.1,y) else kv) (vs.map fun kv=>if kv.1=k then (kv.1,u) else kv):=by
 unfold KV at r ⊢
 induction r with
 | nil=>exact .nil
 | @cons p q ps qs h t ih=>
  rw [List.map_cons,List.map_cons]
  refine .cons ?_ ih
  obtain ⟨h1,h2⟩:=h
  by_cases e:p.1=k
  · rw [if_pos e,if_pos (h1.symm.trans e)];exact ⟨h1,ry⟩
  · rw [if_neg e,if_neg (fun z=>e (h1.trans z))];exact ⟨h1,h2⟩
theorem KV.put{kvs:List (κ×V)}{vs:List (κ×Value)}(r:KV kvs vs)(k:κ){y:V}{u:Value}(ry:RelV y u):KV (putK kvs k y) (stored vs k u):=by
 unfold putK stored
 rw [r.any k]
 by_cases e:(vs.any fun kv=>decide (kv.1=k))=true
 · rw [if_pos e,if_pos e];exact r.repl k ry
 · rw [if_neg e,if_neg e];exact Paired.snoc r ⟨rfl,ry⟩
theorem KV.drop{kvs:List (κ×V)}{vs:List (κ×Value)}(r:KV kvs vs)(k:κ):KV (dropK kvs k) (without vs k):=by
 unfold KV at r ⊢
 unfold dropK without
 induction r with
 | nil=>exact .nil
 | @cons p q ps qs h t ih=>
  obtain ⟨h1,h2⟩:=h
  rw [List.filter_cons,List.filter_cons]
  by_cases e:p.1=k
  · have a:¬decide (p.1≠k)=true:=by simp [e]
    have b:¬decide (q.1≠k)=true:=by simp [h1.symm.trans e]
    rw [if_neg a,if_neg b];exact ih
  · have e':¬q.1=k:=fun z=>e (h1.trans z)
    have a:decide (p.1≠k)=true:=by simp [e]
    have b:decide (q.1≠k)=true:=by simp [e']
    rw [if_pos a,if_pos b];exact .cons ⟨h1,h2⟩ ih
theorem KV.length{kvs:List (κ×V)}{vs:List (κ×Value)}(r:KV kvs vs):kvs.length=vs.length:=Paired.length r
theorem dropK_le(kvs:List (κ×V))(k:κ):(dropK kvs k).length≤kvs.length:=List.length_filter_le _ _
end
theorem kV_is{P:Program}{w:World}{k:Key}{u:Value}(r:RelV (kV k) u):(mixKind P w).is k u=true:=by
 cases k with
 | inl i=>obtain ⟨t,e⟩:=(show ∃t,u=Value.int i t from r);subst e;exact mixKind_int P w i t
 | inr x=>obtain ⟨t,e⟩:=(show ∃t,u=Value.str x t from r);subst e;exact mixKind_str P w x t
theorem items_are{P:Program}{w:World}:∀{ks:List Key} {us:List Value},Vals (ks.map kV) us→ItemsAre (mixKind P w) ks us
 | [],_,r=>by rw [List.map_nil]at r;cases r;exact .nil
 | k::ks,_,r=>by
  rw [List.map_cons]at r
  cases r with
  | cons h t=>exact .cons (kV_is h) (items_are t)
noncomputable abbrev KT(H:Hp):List (List Key×V)→List (List Key×Addr×Value)→Prop:=Paired fun p q=>p.1=q.1∧H q.2.1=some (.tup (p.1.map kV))∧RelV p.2 q.2.2
theorem KT.val{H:Hp}{kvs:List (List Key×V)}{xs:List (List Key×Addr×Value)}(r:KT H kvs xs)(k:List Key):RelO (valV kvs k) ((atKey xs k).map (·.2)):=by
 induction r with
 | nil=>exact True.intro
 | @cons p q ps qs h t ih=>
  obtain ⟨h1,_,h2⟩:=h
  by_cases e:p.1=k
  · have e':q.1=k:=h1.symm.trans e
    have b:atKey (q::qs) k=some q.2:=by simp [atKey,List.find?_cons,e']
    rw [valV_pos e,b];exact h2
  · have e':¬q.1=k:=fun z=>e (h1.trans z)
    have b:atKey (q::qs) k=atKey qs k:=by simp [atKey,List.find?_cons,e']
    rw [valV_neg e,b];exact ih
theorem KT.repl{H:Hp}{kvs:List (List Key×V)}{xs:List (List Key×Addr×Value)}(r:KT H kvs xs)(k:List Key){y:V}{u:Value}(ry:RelV y u):
 KT H (kvs.map fun kv=>if kv.1=k then (kv.1,y) else kv) (xs.map (putAt k u)):=by
 induction r with
 | nil=>exact .nil
 | @cons p q ps qs h t ih=>
  rw [List.map_cons,List.map_cons]
  refine .cons ?_ ih
  obtain ⟨h1,h2,h3⟩:=h
  unfold putAt
  by_cases e:p.1=k
  · rw [if_pos e,if_pos (h1.symm.trans e)];exact ⟨h1,h2,ry⟩
  · rw [if_neg e,if_neg (fun z=>e (h1.trans z))];exact ⟨h1,h2,h3⟩
theorem KT.put{H:Hp}{kvs:List (List Key×V)}{xs:List (List Key×Addr×Value)}(r:KT H kvs xs)(k:List Key){b:Addr}{y:V}{u:Value}(hb:H b=some (.tup (k.map kV)))(ry:RelV y u):
 KT H (putK kvs k y) (storedH xs k b u):=by
 have e:(kvs.any fun kv=>decide (kv.1=k))=(atKey xs k).isSome:=by
  rw [valV_any,(r.val k).isSome_eq,Option.isSome_map]
 unfold putK storedH
 rw [e]
 by_cases q:(atKey xs k).isSome=true
 · rw [if_pos q,if_pos q];exact r.repl k ry
 · rw [if_neg q,if_neg q];exact Paired.snoc r ⟨rfl,hb,ry⟩
theorem KT.keeps{H H':Hp}{kvs:List (List Key×V)}{xs:List (List Key×Addr×Value)}(r:KT H kvs xs)(ht:∀b ys,H b=some (.tup ys)→H' b=some (.tup ys)):KT H' kvs xs:=
 Paired.mapP r fun _ _ z=>⟨z.1,ht _ _ z.2.1,z.2.2⟩
section
variable {P:Program} {w:World} {H:Hp} {h:Heap} {a:Addr}
theorem rd_of{u:HO}(ok:HOk P w H h)(e:Rd H a u):ObjOk P w H h a u:=e.ok ok
theorem dk_rd{kvs:List (Key×V)}(ok:HOk P w H h)(e:Rd H a (.dK kvs)):kvs.length≤sizeLine∧(a==sysModules)=false∧∃vs,KV kvs vs∧h.DictOf (mixKind P w) a vs:=
 show ObjOk P w H h a (.dK kvs) from rd_of ok e
theorem dk_of{kvs:List (Key×V)}(ok:HOk P w H h)(e:H a=some (.dK kvs)):kvs.length≤sizeLine∧(a==sysModules)=false∧∃vs,KV kvs vs∧h.DictOf (mixKind P w) a vs:=dk_rd ok (.inl e)
theorem key_of{ks:List Key}(ok:HOk P w H h)(e:H a=some (.tup (ks.map kV))):(tupleKind (mixKind P w)).is h ks a:=by
 obtain ⟨_,its,r,o,h1,h2,n,h3⟩:=(show ObjOk P w H h a (.tup (ks.map kV)) from ok a _ e)
 exact ⟨o,its.toArray,n,h1,h2,h3,by simpa using items_are r⟩
theorem dt_rd{kvs:List (List Key×V)}(ok:HOk P w H h)(e:Rd H a (.dT kvs)):kvs.length≤sizeLine∧(a==sysModules)=false∧
 ∃xs,KT H kvs xs∧h.DictOfH (tupleKind (mixKind P w)) a xs:=by
 obtain ⟨z,y,xs,r,o,es,ep,h1,h2,h3,h4,h5⟩:=(show ObjOk P w H h a (.dT kvs) from rd_of ok e)
 refine ⟨z,y,xs,r,o,es,ep,h1,h2,h3,h4,fun x hx=>?_,h5⟩
 have all:∀{l:List (List Key×V)} {m:List (List Key×Addr×Value)},KT H l m→∀x∈m,(tupleKind (mixKind P w)).is h x.1 x.2.1:=by
  intro l m q
  induction q with
  | nil=>intro x hx;exact nomatch hx
  | @cons p q ps qs hq t ih=>
   intro x hx
   rcases List.mem_cons.mp hx with e | hx
   · subst e
     exact key_of ok (by rw [← hq.1];exact hq.2.1)
   · exact ih x hx
 exact all r x hx
theorem dt_of{kvs:List (List Key×V)}(ok:HOk P w H h)(e:H a=some (.dT kvs)):kvs.length≤sizeLine∧(a==sysModules)=false∧
 ∃xs,KT H kvs xs∧h.DictOfH (tupleKind (mixKind P w)) a xs:=dt_rd ok (.inl e)
end
noncomputable def DGet(H:Hp)(a:Addr)(y:V)(r:Option V):Prop:=
 (∃kvs k,Rd H a (.dK kvs)∧y=kV k∧r=valV kvs k)∨∃kvs k b,Rd H a (.dT kvs)∧y= .ref b∧H b=some (.tup (k.map kV))∧r=valV kvs k
noncomputable def DPut(H:Hp)(a:Addr)(y v:V)(H':Hp):Prop:=
 (∃kvs k,H a=some (.dK kvs)∧y=kV k∧kvs.length < sizeLine∧H'=upd H a (.dK (putK kvs k v)))∨
 ∃kvs k b,H a=some (.dT kvs)∧y= .ref b∧H b=some (.tup (k.map kV))∧kvs.length < sizeLine∧H'=upd H a (.dT (putK kvs k v))
theorem DGet.k{H:Hp}{a:Addr}{kvs:List (Key×V)}{k:Key}(e:H a=some (.dK kvs)):DGet H a (kV k) (valV kvs k):= .inl ⟨kvs,k,.inl e,rfl,rfl⟩
theorem DPut.k{H:Hp}{a:Addr}{kvs:List (Key×V)}{k:Key}{v:V}(e:H a=some (.dK kvs))(hl:kvs.length < sizeLine):DPut H a (kV k) v (upd H a (.dK (putK kvs k v))):= .inl ⟨kvs,k,e,rfl,hl,rfl⟩
section
variable {X:Cx} {pins:List (Addr×Obj)} {σ:St} {H:Hp} {s:Shared} {a:Addr} {y v:V} {u r:Value} {o:Option V} {A:Around} {E:Value→Shared→Prop}
theorem Inv.big(I:Inv X pins σ H s):sysModules < s.heap.objs.size:=by
 have h:mainGlobals < s.heap.objs.size:=(I.mod.glob.keeps I.bk).lt
 exact Nat.lt_trans (by decide) h
theorem d_getItem{Q:Value→Shared→Prop}(hu:A.units+1 < cLine)(I:Inv X pins σ H s)(g:DGet H a y (some v))(ry:RelV y u)(h:∀w' s',Inv X pins σ H s'→RelV v w'→Q w' s'):
 wpAny (model X.prog X.w) A (getItem (.ref a) u) Q E s:=by
 rcases g with ⟨kvs,k,e,ey,l⟩ | ⟨kvs,k,b,e,ey,eb,l⟩
 · subst ey
   obtain ⟨z,hd,vs,rel,dd⟩:=dk_rd I.hok e
   obtain ⟨w',hw,rw'⟩:=RelO.some_of (v:=v) (o:=valueAt vs k) (by rw [l];exact rel.val k)
   exact wpAny_getItem_of (kV_is ry) dd.mapOf hw (h w' _ (I.tok _) rw')
 · subst ey
   cases (show u=Value.ref b from ry)
   obtain ⟨z,hd,xs,rel,dd⟩:=dt_rd I.hok e
   obtain ⟨w',hw,rw'⟩:=RelO.some_of (v:=v) (o:=(atKey xs k).map (·.2)) (by rw [l];exact rel.val k)
   obtain ⟨p,hp,hp2⟩:=Option.map_eq_some_iff.mp hw
   refine wpAny_getItem_heap (tupleKind_room_in1 hu) (key_of I.hok eb) dd hp ?_
   rw [hp2]
   exact h w' _ (I.tok _) rw'
theorem d_in{Q:Value→Shared→Prop}(hu:A.units+1 < cLine)(I:Inv X pins σ H s)(g:DGet H a y o)(ry:RelV y u)(h:∀s',Inv X pins σ H s'→Q (.bool o.isSome) s'):
 wpAny (model X.prog X.w) A (compareOp .In u (.ref a)) Q E s:=by
 rcases g with ⟨kvs,k,e,ey,l⟩ | ⟨kvs,k,b,e,ey,eb,l⟩
 · subst ey
   obtain ⟨z,hd,vs,rel,dd⟩:=dk_rd I.hok e
   refine wpAny_in_of (kV_is ry) hd dd.mapOf ?_
   rw [← (rel.val k).isSome_eq,← l]
   exact h _ (I.tok _)
 · subst ey
   cases (show u=Value.ref b from ry)
   obtain ⟨z,hd,xs,rel,dd⟩:=dt_rd I.hok e
   refine wpAny_in_heap (tupleKind_room_in1 hu) (key_of I.hok eb) hd dd ?_
   have q:=(rel.val k).isSome_eq
   rw [Option.isSome_map]at q
   rw [← q,← l]
   exact h _ (I.tok _)
theorem d_notIn{Q:Value→Shared→Prop}(hu:A.units+1 < cLine)(I:Inv X pins σ H s)(g:DGet H a y o)(ry:RelV y u)(h:∀s',Inv X pins σ H s'→Q (.bool (!o.isSome)) s'):
 wpAny (model X.prog X.w) A (compareOp .NotIn u (.ref a)) Q E s:=by
 rcases g with ⟨kvs,k,e,ey,l⟩ | ⟨kvs,k,b,e,ey,eb,l⟩
 · subst ey
   obtain ⟨z,hd,vs,rel,dd⟩:=dk_rd I.hok e
   refine wpAny_notIn_of (kV_is ry) hd dd.mapOf ?_
   rw [← (rel.val k).isSome_eq,← l]
   exact h _ (I.tok _)
 · subst ey
   cases (show u=Value.ref b from ry)
   obtain ⟨z,hd,xs,rel,dd⟩:=dt_rd I.hok e
   refine wpAny_notIn_heap (tupleKind_room_in1 hu) (key_of I.hok eb) hd dd ?_
   have q:=(rel.val k).isSome_eq
   rw [Option.isSome_map]at q
   rw [← q,← l]
   exact h _ (I.tok _)
theorem d_write{h':Heap}{t':Nat}{ob:HO}(I:Inv X pins σ H s)(mu:Mut (H a))(hs:Heap.SameBut a s.heap h')(he:∃q,h'.get? a=some q)(new:ObjOk X.prog X.w (upd H a ob) h' a ob):
 Inv X pins σ (upd H a ob) {s with heap:=h',toks:=t'}:=
 I.write (x:=a) (e:=a) mu (.inl rfl) (fun b q hb z=>(hs.2 b hb).trans z) he new
theorem dk_new{P:Program}{w:World}{H':Hp}{h':Heap}{kvs:List (Key×V)}{vs:List (Key×Value)}(z:kvs.length≤sizeLine)(hd:(a==sysModules)=false)(rel:KV kvs vs)(dd:h'.DictOf (mixKind P w) a vs):
 ObjOk P w H' h' a (.dK kvs):=⟨z,hd,vs,rel,dd⟩
theorem d_setItem{H':Hp}{Q:Unit→Shared→Prop}(hu:A.units+1 < cLine)(I:Inv X pins σ H s)(g:DPut H a y v H')(ry:RelV y u)(rv:RelV v r)(h:∀s',Inv X pins σ H' s'→Q () s'):
 wpAny (model X.prog X.w) A (setItem (.ref a) u r) Q E s:=by
 rcases g with ⟨kvs,k,e,ey,l,eH⟩ | ⟨kvs,k,b,e,ey,eb,l,eH⟩
 · subst ey eH
   obtain ⟨z,hd,vs,rel,dd⟩:=dk_of I.hok e
   have hz:vs.length≤sizeLine:=by rw [← rel.length];exact z
   have hl:(putK kvs k v).length≤sizeLine:=by have:=length_putK kvs k v;omega
   refine wpAny_setItem_pairs (hsz:=hz) (kV_is ry) dd fun h' dd' hs=>h _ ?_
   have he:∃q,h'.get? a=some q:=let ⟨q,_,_,hq,_⟩:=dd';⟨q,hq⟩
   exact d_write I (by rw [e];exact True.intro) hs he (dk_new hl hd (rel.put k rv) dd')
 · subst ey eH
   cases (show u=Value.ref b from ry)
   obtain ⟨z,hd,xs,rel,dd⟩:=dt_of I.hok e
   have hz:xs.length≤sizeLine:=by rw [← Paired.length rel];exact z
   have hl:(putK kvs k v).length≤sizeLine:=by have:=length_putK kvs k v;omega
   refine wpAny_setItem_heap (hsz:=hz) (tupleKind_room_in1 hu) (key_of I.hok eb) dd fun h' dd' hs=>h _ ?_
   obtain ⟨q,es,ep,hq,h2,h3,h4,_,h5⟩:=dd'
   refine d_write I (by rw [e];exact True.intro) hs ⟨q,hq⟩ ⟨hl,hd,_,(rel.put k eb rv).keeps fun c ys ec=>?_,q,es,ep,hq,h2,h3,h4,h5⟩
   rw [upd_ne (ne_of ec e (fun z=>nomatch z))]
   exact ec
end
section
variable {X:Cx} {pins:List (Addr×Obj)} {σ:St} {H:Hp} {s:Shared} {a:Addr} {kvs:List (Key×V)} {k:Key} {u:Value} {A:Around} {E:Value→Shared→Prop}
theorem d_pop{v:V}{more:List Value}{Q:Value→Shared→Prop}(I:Inv X pins σ H s)(e:H a=some (.dK kvs))(ry:RelV (kV k) u)(l:valV kvs k=some v)(hm:more=[]∨∃x,more=[x])
 (h:∀w' s',Inv X pins σ (upd H a (.dK (dropK kvs k))) s'→RelV v w'→Q w' s'):wpAny (model X.prog X.w) A (call (.builtin "dict.pop") (.ref a::u::more)) Q E s:=by
 obtain ⟨z,hd,vs,rel,dd⟩:=dk_of I.hok e
 obtain ⟨w',hw,rw'⟩:=RelO.some_of (v:=v) (o:=valueAt vs k) (by rw [← l];exact rel.val k)
 have hp:(keyPart u).isSome=true:=by
  cases k with
  | inl i=>obtain ⟨t,q⟩:=(show ∃t,u=Value.int i t from ry);subst q;rfl
  | inr x=>obtain ⟨t,q⟩:=(show ∃t,u=Value.str x t from ry);subst q;rfl
 have ha:argsOk "dict.pop" ⟨.ref a::u::more,[]⟩:=by
  rcases hm with q | ⟨x,q⟩
  · subst q;exact PySem.F.args_dict_pop_2 _ _
  · subst q;exact PySem.F.args_dict_pop_3 _ _ _
 refine call_meetsIn PySem.F.slot_dict_pop dd.typeIs PySem.F.entry_dict_pop ha (meets_dict_pop_there (mixKind X.prog X.w) a (kV_is ry) more hm hp)
  ⟨vs,w',dd,by rw [← rel.length];exact z,hw,fun h' dd' hs=>h w' _ ?_ rw'⟩
 have he:∃q,h'.get? a=some q:=let ⟨q,_,_,hq,_⟩:=dd';⟨q,hq⟩
 exact d_write I (by rw [e];exact True.intro) hs he (dk_new (Nat.le_trans (dropK_le kvs k) z) hd (rel.drop k) dd')
theorem d_len{Q:Value→Shared→Prop}(I:Inv X pins σ H s)(e:Rd H a (.dK kvs))(h:∀t s',Inv X pins σ H s'→Q (.int kvs.length t) s'):wpAny (model X.prog X.w) A (call (.builtin "len") [.ref a]) Q E s:=by
 obtain ⟨z,hd,vs,rel,dd⟩:=dk_rd I.hok e
 refine call_len_dict hd dd (by rw [← rel.length];rw [sizeLine_eq]at z;omega) ?_
 rw [← rel.length]
 exact h _ _ (I.tok _)
end
noncomputable def NoSl(i:Expr):Prop:=∀ov iv,subscripted i false ov iv=operate [ov,iv] (getItem ov iv)
theorem subD_of{prog:Program}{w:World}{A:Around}{E:Value→Shared→Prop}{s:Shared}{env:Env}{value slice:Expr}{pos:Pos}{T id:String}{Q:Value→Shared→Prop}
 (hl:typeLookup (.type T) "__getitem__"=pure (some (.builtin id))) (hs:NoSl slice)
 (h:wpAny (model prog w) A (eval value env) (fun o s₁=>wpAny (model prog w) A (eval slice env) (fun i s₂=>s₂.TypeIs o T∧wpAny (model prog w) A (getItem o i) Q E s₂) E s₁) E s):
 wpAny (model prog w) A (eval (.Subscript value slice pos) env) Q E s:=by
 refine Subscript_ (wpAny_mono h (fun o s₁ h₁=>wpAny_mono h₁ (fun i s₂ h₂=>?_) fun _ _ x=>x) fun _ _ x=>x)
 obtain ⟨hT,h₂⟩:=h₂
 unfold subscriptTail
 refine wpAny_bind ?_
 rw [getitemInPython_of_ne hT.not_modules]
 refine wpAny_bind (wpAny_specialOf hT hl ?_)
 have fin:wpAny (model prog w) A (subscripted slice false o i) (fun r s₃=>wpAny (model prog w) A (letTemporaryGo value o r >>=fun _=>pure r) Q E s₃) E s₂:=by
  rw [hs o i]
  exact wpAny_operating (wpAny_mono h₂ (fun r s₃ h₃=>wpAny_bind (wpAny_letTemporaryGo (wpAny_pure h₃))) fun _ _ x=>x)
 first
  | exact wpAny_pure (wpAny_bind fin)
  | exact wpAny_bind (wpAny_pure (wpAny_bind fin))
  | exact wpAny_bind fin
theorem dict_typeIs{X:Cx}{pins:List (Addr×Obj)}{σ:St}{H:Hp}{s:Shared}{a:Addr}{y:V}{o:Option V}(I:Inv X pins σ H s)(g:DGet H a y o):s.TypeIs (.ref a) "dict":=by
 rcases g with ⟨kvs,k,e,_,_⟩ | ⟨kvs,k,b,e,_,_,_⟩
 · obtain ⟨_,_,vs,_,dd⟩:=dk_rd I.hok e
   exact dd.typeIs
 · obtain ⟨_,_,xs,_,dd⟩:=dt_rd I.hok e
   exact dd.typeIs
noncomputable def tDGet(td ty:TE):TE:=fun σ H Q=>td σ H fun x H1=>ty σ H1 fun y H2=>∃a v,x= .ref a∧DGet H2 a y (some v)∧Q v H2
noncomputable def tDIn(ty td:TE):TE:=fun σ H Q=>ty σ H fun y H1=>td σ H1 fun x H2=>∃a o,x= .ref a∧DGet H2 a y o∧Q (.bl o.isSome) H2
noncomputable def tDNotIn(ty td:TE):TE:=fun σ H Q=>ty σ H fun y H1=>td σ H1 fun x H2=>∃a o,x= .ref a∧DGet H2 a y o∧Q (.bl (!o.isSome)) H2
noncomputable def sDPut(td ty tv:TE):TS:=fun D σ H=>tv σ H fun v H1=>td σ H1 fun x H2=>ty σ H2 fun y H3=>∃a H4,x= .ref a∧DPut H3 a y v H4∧D.nx σ H4
section
variable {X:Cx} {o i e value:Expr} {pos pos' tpos:Pos} {td ty tv:TE}
theorem pe_dget(hu:X.A.units+1 < cLine)(ho:PE X o td)(hi:PE X i ty)(hs:NoSl i):PE X (.Subscript o i pos) (tDGet td ty):=by
 intro pins s σ H Q I h
 refine subD_of PySem.F.slot_dict_getitem.lookup hs (thn (ho pins s σ H _ I h) fun u s1 ⟨x,H1,I1,rx,q1⟩=>thn (hi pins s1 σ H1 _ I1 q1) fun iv s2 hq_=>?_)
 obtain ⟨y,H2,I2,ry,a,v,ex,g,q2⟩:=hq_
 subst ex
 obtain rfl:u=Value.ref a:=rx
 exact ⟨dict_typeIs I2 g,d_getItem hu I2 g ry fun w' s3 I3 rw'=>⟨v,H2,I3,rw',q2⟩⟩
theorem pc_din(hu:X.A.units+1 < cLine)(hi:PE X i ty)(ho:PE X o td):PC X .In i o (tDIn ty td):=by
 intro pins s σ H Q I h
 refine thn (hi pins s σ H _ I h) fun iv s1 ⟨y,H1,I1,ry,q1⟩=>thn (ho pins s1 σ H1 _ I1 q1) fun u s2 hq_=>?_
 obtain ⟨x,H2,I2,rx,a,ov,ex,g,q2⟩:=hq_
 subst ex
 obtain rfl:u=Value.ref a:=rx
 exact d_in hu I2 g ry fun s3 I3=>⟨.bl ov.isSome,H2,I3,rfl,q2⟩
theorem pc_dnotin(hu:X.A.units+1 < cLine)(hi:PE X i ty)(ho:PE X o td):PC X .NotIn i o (tDNotIn ty td):=by
 intro pins s σ H Q I h
 refine thn (hi pins s σ H _ I h) fun iv s1 ⟨y,H1,I1,ry,q1⟩=>thn (ho pins s1 σ H1 _ I1 q1) fun u s2 hq_=>?_
 obtain ⟨x,H2,I2,rx,a,ov,ex,g,q2⟩:=hq_
 subst ex
 obtain rfl:u=Value.ref a:=rx
 exact d_notIn hu I2 g ry fun s3 I3=>⟨.bl (!ov.isSome),H2,I3,rfl,q2⟩
theorem ps_dput(hu:X.A.units+1 < cLine)(ho:PE X o td)(hi:PE X i ty)(hv:PE X value tv)(hs:swapsWith value (some (.Subscript o i pos')) pos.line X.env=pure false):
 PS X (.Assign [.Subscript o i pos'] value pos) (sDPut td ty tv):=by
 intro pins s σ H D I h
 refine wpAny_Assign_Subscript (thn (hv pins s σ H _ I h) fun r s1 ⟨v,H1,I1,rv,q1⟩=>thn (ho pins s1 σ H1 _ I1 q1) fun u s2 ⟨x,H2,I2,rx,q2⟩=>thn (hi pins s2 σ H2 _ I2 q2) fun iv s3 hq_=>?_) hs
 obtain ⟨y,H3,I3,ry,a,H4,ex,g,q3⟩:=hq_
 subst ex
 obtain rfl:u=Value.ref a:=rx
 exact d_setItem hu I3 g ry rv fun s4 I4=>⟨σ,H4,I4,q3⟩
end
theorem dk_empty{P:Program}{w:World}{H:Hp}(h:Heap)(hb:sysModules < h.objs.size):ObjOk P w H (h.push {cls:= .type "dict",data:= .dict #[]}) h.objs.size (.dK []):=
 ⟨Nat.zero_le _,beq_eq_false_iff_ne.mpr (Ne.symm (Nat.ne_of_lt hb)),[],.nil,Heap.DictOf.new h⟩
noncomputable def tDNewK:TE:=fun _ H Q=>∀p,H p=none→Q (.ref p) (upd H p (.dK []))
section
variable {X:Cx} {pos:Pos}
theorem pe_dnewK:PE X (.Dict [] [] pos) tDNewK:=fun pins s σ H Q I h=>
 wpAny_Dict_empty ⟨.ref s.heap.objs.size,_,I.laid (a:=s.heap.objs.size) (o:= .dK []) (t':=s.toks) (fun _ _ q=>Heap.get?_push_of_some _ q) (Nat.le_refl _) (dk_empty s.heap I.big),rfl,h _ (I.hok.fresh (Nat.le_refl _))⟩
end
noncomputable def tPairs:List (TE×TE)→St→Hp→(List (V×V)→Hp→Prop)→Prop
 | [],_,H,Q=>Q [] H
 | (tk,tv)::r,σ,H,Q=>tk σ H fun x H1=>tv σ H1 fun y H2=>tPairs r σ H2 fun ps H3=>Q ((x,y)::ps) H3
noncomputable def mergeK(kvs more:List (Key×V)):List (Key×V):=more.foldl (fun acc kv=>putK acc kv.1 kv.2) kvs
noncomputable def tDisp(trs:List (TE×TE)):TE:=fun σ H Q=>∀p,H p=none→tPairs trs σ (upd H p (.dK [])) fun ps H2=>H2 p=some (.dK [])∧∃kvs:List (Key×V),ps=kvs.map (fun kv=>(kV kv.1,kv.2))∧kvs.length≤15∧Q (.ref p) (upd H2 p (.dK (mergeK [] kvs)))
structure M1(X:Cx)(o:Expr)(m:Str)(apos:Pos)(e:Expr)(cpos:Pos):Prop where
 base:attributeBase o m X.env (eval o X.env)=eval o X.env
 few:((backTo cpos (starEach [e] X.env)).all (fun x=>!x.1) && (backToKw cpos (keywordEach [] X.env)).all (fun x=>x.1.isSome)
  && decide (([e]:List Expr).length+([]:List Keyword).length+(if ([]:List Keyword).isEmpty then 0 else 1) < 30))=true
 line:(apos.endLine==cpos.line)=true
 trees:backTo cpos (starEach [e] X.env)=[(false,eval e X.env)]
structure M2(X:Cx)(o:Expr)(m:Str)(apos:Pos)(e f:Expr)(cpos:Pos):Prop where
 base:attributeBase o m X.env (eval o X.env)=eval o X.env
 few:((backTo cpos (starEach [e,f] X.env)).all (fun x=>!x.1) && (backToKw cpos (keywordEach [] X.env)).all (fun x=>x.1.isSome)
  && decide (([e,f]:List Expr).length+([]:List Keyword).length+(if ([]:List Keyword).isEmpty then 0 else 1) < 30))=true
 line:(apos.endLine==cpos.line)=true
 trees:backTo cpos (starEach [e,f] X.env)=[(false,eval e X.env),(false,eval f X.env)]
noncomputable def IsD(H:Hp)(a:Addr):Prop:=(∃kvs,Rd H a (.dK kvs))∨∃kvs,Rd H a (.dT kvs)
theorem isD_at{X:Cx}{pins:List (Addr×Obj)}{σ:St}{H:Hp}{s:Shared}{a:Addr}(I:Inv X pins σ H s)(d:IsD H a):
 s.TypeIs (.ref a) "dict"∧(∀b,Value.ref a= .ref b→∃ob,s.heap.get? b=some ob∧ob.dict=none)∧(a==sysModules)=false:=by
 rcases d with ⟨kvs,e⟩ | ⟨kvs,e⟩
 · obtain ⟨_,hd,vs,_,dd⟩:=dk_rd I.hok e
   refine ⟨dd.typeIs,fun b q=>?_,hd⟩
   cases q
   obtain ⟨ob,_,_,h1,h2,_⟩:=dd
   exact ⟨ob,h1,h2.2.1⟩
 · obtain ⟨_,hd,xs,_,dd⟩:=dt_rd I.hok e
   refine ⟨dd.typeIs,fun b q=>?_,hd⟩
   cases q
   obtain ⟨ob,_,_,h1,h2,_⟩:=dd
   exact ⟨ob,h1,h2.2.1⟩
section
variable {X:Cx} {pins:List (Addr×Obj)} {σ:St} {H:Hp} {s:Shared} {a:Addr} {y d:V} {u r:Value} {o:Option V} {A:Around} {E:Value→Shared→Prop}
theorem d_get2{Q:Value→Shared→Prop}(hu:A.units+1 < cLine)(I:Inv X pins σ H s)(g:DGet H a y o)(ry:RelV y u)(rd:RelV d r)(h:∀w' s',Inv X pins σ H s'→RelV (o.getD d) w'→Q w' s'):
 wpAny (model X.prog X.w) A (call (.builtin "dict.get") [.ref a,u,r]) Q E s:=by
 rcases g with ⟨kvs,k,e,ey,l⟩ | ⟨kvs,k,b,e,ey,eb,l⟩
 · subst ey
   obtain ⟨z,hd,vs,rel,dd⟩:=dk_rd I.hok e
   refine call_meetsIn PySem.F.slot_dict_get dd.typeIs PySem.F.entry_dict_get (PySem.F.args_dict_get_3 _ _ _) (meets_dict_get_default (mixKind X.prog X.w) a (kV_is ry) hd r) ⟨_,dd.mapOf,h _ _ (I.tok _) ?_⟩
   rw [l]
   exact (rel.val k).getD rd
 · subst ey
   cases (show u=Value.ref b from ry)
   obtain ⟨z,hd,xs,rel,dd⟩:=dt_rd I.hok e
   refine call_meetsIn PySem.F.slot_dict_get dd.typeIs PySem.F.entry_dict_get (PySem.F.args_dict_get_3 _ _ _) (meetsH_dict_get_default (tupleKind (mixKind X.prog X.w)) a b hd r) ⟨tupleKind_room_in1 hu,k,xs,key_of I.hok eb,dd,h _ _ (I.tok _) ?_⟩
   rw [l]
   exact (rel.val k).getD rd
end
noncomputable def tDGet1(td ty:TE):TE:=fun σ H Q=>td σ H fun x H1=>∃a,x= .ref a∧IsD H1 a∧ty σ H1 fun y H2=>∃o,DGet H2 a y o∧Q (o.getD .non) H2
noncomputable def tDGet2(td ty tx:TE):TE:=fun σ H Q=>td σ H fun x H1=>∃a,x= .ref a∧IsD H1 a∧ty σ H1 fun y H2=>tx σ H2 fun z H3=>∃o,DGet H3 a y o∧Q (o.getD z) H3
noncomputable def tDPop1(td ty:TE):TE:=fun σ H Q=>td σ H fun x H1=>∃a,x= .ref a∧IsD H1 a∧ty σ H1 fun y H2=>∃kvs k v,H2 a=some (.dK kvs)∧y=kV k∧valV kvs k=some v∧Q v (upd H2 a (.dK (dropK kvs k)))
section
variable {X:Cx} {o e f:Expr} {apos cpos:Pos} {td ty tx:TE}
theorem pe_dget2(hu:X.A.units+1 < cLine)(ho:PE X o td)(he:PE X e ty)(hf:PE X f tx)(m:M2 X o "get" apos e f cpos):PE X (.Call (.Attribute o "get" apos) [e,f] [] cpos) (tDGet2 td ty tx):=by
 intro pins s σ H Q I h
 refine wpAny_Call_method m.base m.few m.line PySem.F.plainAttrs_dict PySem.F.slot_dict_get PySem.F.type_dict_get (thn (ho pins s σ H _ I h) fun u s1 hq_=>?_)
 obtain ⟨x,H1,I1,rx,a,ex,d,q1⟩:=hq_
 subst ex
 obtain rfl:u=Value.ref a:=rx
 obtain ⟨t1,t2,_⟩:=isD_at I1 d
 refine ⟨t1,t2,?_⟩
 rw [m.trees]
 refine Calls.callWith_builtin rfl (Calls.evalArgs_plain (Calls.spliced_cons (thn (he pins s1 σ H1 _ I1 q1) fun iv s2 ⟨y,H2,I2,ry,q2⟩=>
  Calls.spliced_cons (thn (hf pins s2 σ H2 _ I2 q2) fun fv s3 ⟨z,H3,I3,rz,ov,g,q3⟩=>Calls.spliced_nil ?_))))
 exact d_get2 hu I3 g ry rz fun w' s4 I4 rw'=>⟨_,H3,I4,rw',q3⟩
theorem pe_dpop1(ho:PE X o td)(he:PE X e ty)(m:M1 X o "pop" apos e cpos):PE X (.Call (.Attribute o "pop" apos) [e] [] cpos) (tDPop1 td ty):=by
 intro pins s σ H Q I h
 refine wpAny_Call_method m.base m.few m.line PySem.F.plainAttrs_dict PySem.F.slot_dict_pop PySem.F.type_dict_pop (thn (ho pins s σ H _ I h) fun u s1 hq_=>?_)
 obtain ⟨x,H1,I1,rx,a,ex,d,q1⟩:=hq_
 subst ex
 obtain rfl:u=Value.ref a:=rx
 obtain ⟨t1,t2,_⟩:=isD_at I1 d
 refine ⟨t1,t2,?_⟩
 rw [m.trees]
 refine Calls.callWith_builtin rfl (Calls.evalArgs_plain (Calls.spliced_cons (thn (he pins s1 σ H1 _ I1 q1) fun iv s2 ⟨y,H2,I2,ry,kvs,k,v,ea,ey,l,q2⟩=>Calls.spliced_nil ?_)))
 subst ey
 exact d_pop I2 ea ry l (.inl rfl) fun w' s3 I3 rw'=>⟨v,_,I3,rw',q2⟩
end
end L2
namespace L2
section
variable {X:Cx}
theorem call_lenD:CallR X (.builtin "len") (fun xs H Q=>∃a kvs,xs=[V.ref a]∧H a=some (.dK kvs)∧Q (.int kvs.length) H):=by
 intro pins s σ H xs us Q I r h
 obtain ⟨a,kvs,rfl,ha,q⟩:=h
 obtain ⟨u,rfl,ru⟩:=vals1 r
 cases ru
 exact d_len I (.inl ha) fun t s' I'=>⟨.int kvs.length,H,I',⟨t,rfl⟩,q⟩
end
section
variable {κ:Type} [DecidableEq κ]
theorem valV_not{kvs:List (κ×V)}{k:κ}(h:valV kvs k=none):¬k∈kvs.map (·.1):=by
 intro m
 obtain ⟨p,hp,e⟩:=List.mem_map.mp m
 have q:(kvs.any fun kv=>decide (kv.1=k))=true:=List.any_eq_true.mpr ⟨p,hp,decide_eq_true e⟩
 rw [valV_any,h]at q
 exact absurd q (by simp)
theorem valV_in{kvs:List (κ×V)}{k:κ}{v:V}(h:valV kvs k=some v):k∈kvs.map (·.1):=by
 have q:(kvs.any fun kv=>decide (kv.1=k))=true:=by
  rw [valV_any,h]
  all_goals rfl
 obtain ⟨p,hp,e⟩:=List.any_eq_true.mp q
 exact List.mem_map.mpr ⟨p,hp,of_decide_eq_true e⟩
end
end L2
namespace L2
structure Def(P:Program)(w:World)(K:PySem.W.Frag)(mg:Str→Option Value)(base:Heap)(CX:CXT)(k:Nat)(x:Str)(ps:List Str)(sp:Sp):Prop where
 ex:∃(f:Addr) (fd:FuncData),FnOk P w K mg base CX k f fd ps sp∧mg x=some (.ref f)∧PySem.W.keepIn K (.ref f)=true∧Binds K fd ps []
noncomputable def tCallD(sp:Sp)(E:XK)(t:TA):TE:=fun σ H Q=>t σ H fun vs H1=>sp vs H1 Q E
section
variable {X:Cx} {CX:CXT} {k j:Nat} {ps:List Str} {sp:Sp} {E:XK} {x:Str} {p pos:Pos} {e:Expr} {es:List Expr} {t:TA}
theorem pe_callD(D:Def X.prog X.w X.K X.mg X.base CX j x ps sp)(hr:Room k X.A)(hg:Gl X x)(hx:Passes CX X E)(ha:PA X (e::es) t)(hj:j≤k:=by decide)
 (hdb:(x==("__debug__":Str))=false:=by decide) (he:starEach (e::es) X.env=(false,eval e X.env)::starEach es X.env:=by rfl) (hpl:(backTo pos (starEach es X.env)).any (·.1)=false:=by rfl):
 PE X (.Call (.Name x p) (e::es) [] pos) (tCallD sp E t):=by
 obtain ⟨f,fd,F,hm,hk,hb⟩:=D.ex
 intro pins s σ H Q I h
 refine pe_call (F.mono hj) hr hg hm hk hb .nil hx ha hdb he hpl pins s σ H Q I ?_
 show t σ H fun vs H1=>sp (vs++[]) H1 Q E
 have z:(fun (vs:List V) (H1:Hp)=>sp (vs++[]) H1 Q E)=fun vs H1=>sp vs H1 Q E:=by funext vs H1;rw [List.append_nil]
 rw [z]
 exact h
end
noncomputable def CBig(i j:Int):Prop:=i.natAbs < 10 ^ 100∧j.natAbs < 10 ^ 100
theorem big_pow:(10:Nat) ^ 100≤2 ^ 1000:=by decide+kernel
theorem bits_of{i:Int}(h:i.natAbs < 10 ^ 100):Builtin.Int.intBits i≤2 ^ 20:=by
 have h1:Builtin.Int.intBits i≤1000:=by
  unfold Builtin.Int.intBits
  split
  · omega
  · rename_i hne
    have:=(Nat.log2_lt (n:=i.natAbs) (k:=1000) (by simpa using hne)).mpr (Nat.lt_of_lt_of_le h big_pow)
    omega
 exact Nat.le_trans h1 (by decide)
section
variable {X:Cx}
theorem op_mulB:OpR X (binaryOp .Mult) (rI CBig fun i j=> .int (i * j)):=opI fun _ _ _ _ _ _ _ hc q=>mul_int q (.of_bits (bits_of hc.1) (bits_of hc.2))
end
noncomputable def Isi(K:PySem.W.Frag)(H:Hp)(x:V)(n:String)(b:Bool):Prop:=∃t,TyOf K H x t∧PySem.W.kitOne K t (.type n)=some b
section
variable {X:Cx}
theorem call_isinst:CallR X (.builtin "isinstance") (fun xs H Q=>∃x n b,xs=[x,.ty n]∧Isi X.K H x n b∧Q (.bl b) H):=by
 intro pins s σ H xs us Q I r h
 obtain ⟨x,n,b,rfl,⟨t,ty,e⟩,q⟩:=h
 obtain ⟨u,c,rfl,r1,r2⟩:=vals2 r
 cases r2
 exact isinst_ok I r1 ty e fun tk=>⟨.bl b,H,I.tok _,rfl,q⟩
end
section
variable {K:PySem.W.Frag} {H:Hp}
theorem isi_ii{i:Int}:Isi K H (.int i) "int" true:=⟨_,.int i,rfl⟩
theorem isi_ib{i:Int}:Isi K H (.int i) "bool" false:=⟨_,.int i,by with_unfolding_all rfl⟩
theorem isi_is{i:Int}:Isi K H (.int i) "str" false:=⟨_,.int i,by with_unfolding_all rfl⟩
theorem isi_bb{i:Bool}:Isi K H (.bl i) "bool" true:=⟨_,.bl i,rfl⟩
theorem isi_bi{i:Bool}:Isi K H (.bl i) "int" true:=⟨_,.bl i,by with_unfolding_all rfl⟩
theorem isi_bs{i:Bool}:Isi K H (.bl i) "str" false:=⟨_,.bl i,by with_unfolding_all rfl⟩
theorem isi_ss{i:Str}:Isi K H (.str i) "str" true:=⟨_,.str i,rfl⟩
theorem isi_si{i:Str}:Isi K H (.str i) "int" false:=⟨_,.str i,by with_unfolding_all rfl⟩
theorem isi_sb{i:Str}:Isi K H (.str i) "bool" false:=⟨_,.str i,by with_unfolding_all rfl⟩
theorem isi_ni:Isi K H .non "int" false:=⟨_,.non,by with_unfolding_all rfl⟩
theorem isi_ns:Isi K H .non "str" false:=⟨_,.non,by with_unfolding_all rfl⟩
theorem isi_lstl{a:Addr}{xs:List V}(e:H a=some (.lst xs)):Isi K H (.ref a) "list" true:=⟨_,.lst e,rfl⟩
theorem isi_lsts{a:Addr}{xs:List V}(e:H a=some (.lst xs)):Isi K H (.ref a) "str" false:=⟨_,.lst e,by with_unfolding_all rfl⟩
theorem isi_lsti{a:Addr}{xs:List V}(e:H a=some (.lst xs)):Isi K H (.ref a) "int" false:=⟨_,.lst e,by with_unfolding_all rfl⟩
theorem isi_lstt{a:Addr}{xs:List V}(e:H a=some (.lst xs)):Isi K H (.ref a) "tuple" false:=⟨_,.lst e,by with_unfolding_all rfl⟩
theorem isi_tupt{a:Addr}{xs:List V}(e:H a=some (.tup xs)):Isi K H (.ref a) "tuple" true:=⟨_,.tup e,rfl⟩
theorem isi_tups{a:Addr}{xs:List V}(e:H a=some (.tup xs)):Isi K H (.ref a) "str" false:=⟨_,.tup e,by with_unfolding_all rfl⟩
theorem isi_tupi{a:Addr}{xs:List V}(e:H a=some (.tup xs)):Isi K H (.ref a) "int" false:=⟨_,.tup e,by with_unfolding_all rfl⟩
theorem isi_tupl{a:Addr}{xs:List V}(e:H a=some (.tup xs)):Isi K H (.ref a) "list" false:=⟨_,.tup e,by with_unfolding_all rfl⟩
theorem isi_go{x:V}{n:String}{b:Bool}{R:Bool→Prop}(h:Isi K H x n b)(q:R b):∃b,Isi K H x n b∧R b:=⟨b,h,q⟩
theorem len_goL{p:Addr}{xs:List V}{R:List V→Prop}(h:SqL K H p xs)(q:R xs):∃ys,(SqL K H p ys∨SqT K H p ys)∧R ys:=⟨xs,.inl h,q⟩
theorem len_goT{p:Addr}{xs:List V}{R:List V→Prop}(h:SqT K H p xs)(q:R xs):∃ys,(SqL K H p ys∨SqT K H p ys)∧R ys:=⟨xs,.inr h,q⟩
theorem ixT_of{p:Addr}{xs:List V}{i:Int}{v:V}{Q:VK}(h:SqT K H p xs)(e:atI xs i=some v)(q:Q v H):rIxT K (.ref p) (.int i) H Q:=⟨p,xs,i,v,rfl,rfl,h,e,q⟩
theorem ixL_of{p:Addr}{xs:List V}{i:Int}{v:V}{Q:VK}(h:SqL K H p xs)(e:atI xs i=some v)(q:Q v H):rIxL K (.ref p) (.int i) H Q:=⟨p,xs,i,v,rfl,rfl,h,e,q⟩
end
theorem while_d{c:TT}{tb:TS}{D:Ends}{σ:St}{H:Hp}{m0:Nat}(Pv:Nat→St→Hp→Prop)(h0:Pv m0 σ H)
 (hs:∀m σ H,Pv m σ H→c σ H fun b H1=>if b=true then ∃N:St→Hp→Prop,(∀σ' H',N σ' H'→∃m',m' < m∧Pv m' σ' H')∧tb {D with nx:=N,ct:=N,bk:=D.nx} σ H1 else D.nx σ H1):tWhile c tb D σ H:=⟨Pv,⟨m0,h0⟩,hs⟩
theorem atI_of{α:Type}{xs:List α}{i:Int}{v:α}(h0:0≤i)(h:xs[i.toNat]?=some v):atI xs i=some v:=by
 unfold atI ixN
 have hl:i.toNat < xs.length:=(List.getElem?_eq_some_iff.mp h).1
 rw [if_pos h0,if_pos (show i < xs.length by omega)]
 exact h
theorem cxOf_K{CX:CXT}{P:Program}{w:World}{K:PySem.W.Frag}{mg:Str→Option Value}{base:Heap}{N:List Str}{qual:Str}{scope:Scope}{f:Addr}{cd:Value}{A:Around}{outer:List Env}{s:Shared}{H:Hp}{E:XK}:
 (cxOf CX P w K mg base N qual scope f cd A outer s H E).K=K:=rfl
theorem getMap{ns:List Int}{k:Nat}(h:k < ns.length):(ns.map V.int)[k]?=some (V.int (ns.getD k 0)):=by
 rw [List.getElem?_map,List.getD_eq_getElem?_getD,List.getElem?_eq_getElem h];rfl
theorem Same.tup{K:PySem.W.Frag}{H H':Hp}{a:Addr}{xs:List V}(e:Same H H')(h:SqT K H a xs):SqT K H' a xs:=by
 rcases h with (h | ⟨o,h⟩) | h
 · exact .inl (.inl (e _ _ h))
 · exact .inl (.inr ⟨o,e _ _ h⟩)
 · exact .inr h
theorem Same.new{H:Hp}{p:Addr}{o:HO}(h:H p=none):Same H (upd H p o):=fun b u e=>by
 rw [upd_ne (ne_of_none e h)];exact e
section
variable {σ:St} {H:Hp} {Q:VK} {QT:Bool→Hp→Prop} {QA:List V→Hp→Prop} {D:Ends} {K:PySem.W.Frag}
theorem rd_asg{te:TE}{g:TG}:tAsg te g D σ H=te σ H fun x H1=>g x σ H1 D.nx:=rfl
theorem rd_var{i:Nat}:tVar i σ H Q=∃v,σ[i]?=some (some v)∧Q v H:=rfl
theorem rd_c{v:V}:tC v σ H Q=Q v H:=rfl
theorem rd_op{r:R2}{ta tb:TE}:tOp r ta tb σ H Q=ta σ H fun x H1=>tb σ H1 fun y H2=>r x y H2 Q:=rfl
theorem rd_I0{g:Int→Int→V}{x y:V}:rI0 g x y H Q=∃i j,x= .int i∧y= .int j∧Q (g i j) H:=rfl
theorem rd_I{C:Int→Int→Prop}{g:Int→Int→V}{x y:V}:rI C g x y H Q=∃i j,x= .int i∧y= .int j∧C i j∧Q (g i j) H:=rfl
theorem rd_U{g:Int→V}{x:V}:rU g x H Q=∃i,x= .int i∧Q (g i) H:=rfl
theorem rd_name{i:Nat}{v:V}{N:St→Hp→Prop}:gName i v σ H N=N (σ.set i (some v)) H:=rfl
theorem rd_ifS{c:TT}{t u:TS}:tIfS c t u D σ H=c σ H fun b H1=>if b=true then t D σ H1 else u D σ H1:=rfl
theorem rd_test{t:TE}:tTest t σ H QT=t σ H fun x H'=>∃k,x= .bl k∧QT k H':=rfl
theorem rd_b{t:TE}:tB t σ H QT=t σ H fun x H1=>∃c,x= .bl c∧QT c H1:=rfl
theorem rd_ret{te:TE}:tRet te D σ H=te σ H D.rt:=rfl
theorem rd_retN:tRetN D σ H=D.rt .non H:=rfl
theorem rd_next:tNext D σ H=D.nx σ H:=rfl
theorem rd_break:tBreak D σ H=D.bk σ H:=rfl
theorem rd_cont:tCont D σ H=D.ct σ H:=rfl
theorem rd_cb{r:List V→Hp→VK→Prop}{t:TA}:tCB r t σ H Q=t σ H fun vs H1=>r vs H1 Q:=rfl
theorem rd_cons{ta:TE}{tr:TA}:tCons ta tr σ H QA=ta σ H fun x H1=>tr σ H1 fun xs H2=>QA (x::xs) H2:=rfl
theorem rd_nil:tNil σ H QA=QA [] H:=rfl
theorem rd_call{sp:Sp}{E:XK}{t:TA}:tCallD sp E t σ H Q=t σ H fun vs H1=>sp vs H1 Q E:=rfl
theorem rd_not{t:TT}:tNot t σ H QT=t σ H fun c H1=>QT (!c) H1:=rfl
theorem rd_or{t u:TT}:tOr t u σ H QT=t σ H fun c H1=>if c=true then QT true H1 else u σ H1 QT:=rfl
theorem rd_and{t u:TT}:tAnd t u σ H QT=t σ H fun c H1=>if c=true then u σ H1 QT else QT false H1:=rfl
theorem rd_andV{ta tb:TE}:tAndV ta tb σ H Q=ta σ H fun x H1=>∃c,x= .bl c∧if c=true then tb σ H1 Q else Q (.bl false) H1:=rfl
theorem rd_orV{ta tb:TE}:tOrV ta tb σ H Q=ta σ H fun x H1=>∃c,x= .bl c∧if c=true then Q (.bl true) H1 else tb σ H1 Q:=rfl
theorem rd_notV{ta:TE}:tNotV ta σ H Q=ta σ H fun x H1=>∃c,x= .bl c∧Q (.bl (!c)) H1:=rfl
theorem rd_if{t:TT}{ta tb:TE}:tIf t ta tb σ H Q=t σ H fun c H1=>if c=true then ta σ H1 Q else tb σ H1 Q:=rfl
theorem rd_un{r:V→Hp→VK→Prop}{ta:TE}:tUn r ta σ H Q=ta σ H fun x H1=>r x H1 Q:=rfl
theorem rd_eq{x y:V}:rEq x y H Q=(scal x y=true∧Q (.bl (decide (x=y))) H):=rfl
theorem rd_ne{x y:V}:rNe x y H Q=(scal x y=true∧Q (.bl (!decide (x=y))) H):=rfl
theorem rd_par{i j:Nat}{ta:TA}:tPar i j ta D σ H=ta σ H fun vs H1=>∃v w,vs=[v,w]∧D.nx ((σ.set i (some v)).set j (some w)) H1:=rfl
theorem rd_tup{t:TA}:tTup t σ H Q=t σ H fun xs H1=>xs.length≤sizeLine∧∀p,H1 p=none→Q (.ref p) (upd H1 p (.tup xs)):=rfl
theorem rd_lst{t:TA}:tLst t σ H Q=t σ H fun xs H1=>xs.length≤sizeLine∧∀p,H1 p=none→Q (.ref p) (upd H1 p (.lst xs)):=rfl
theorem rd_never:tNever D σ H=False:=rfl
theorem rd_drop{te:TE}:tDrop te D σ H=te σ H fun _ H1=>D.nx σ H1:=rfl
theorem rd_gcons{t:TG}{u:TGs}{vs:List V}{N:St→Hp→Prop}:gCons t u vs σ H N=∃v r,vs=v::r∧t v σ H fun σ' H'=>u r σ' H' N:=rfl
theorem rd_gnil{vs:List V}{N:St→Hp→Prop}:gNil vs σ H N=(vs=[]∧N σ H):=rfl
theorem rd_gsub{to ti:TE}{t:TSet}{v:V}{N:St→Hp→Prop}:gSub to ti t v σ H N=to σ H fun o H1=>ti σ H1 fun i H2=>t o i v H2 fun H3=>N σ H3:=rfl
theorem rd_chain{r r':R2}{ta tb tc:TE}:tChain r r' ta tb tc σ H Q=ta σ H fun x H1=>tb σ H1 fun y H2=>r x y H2 fun z H3=>∃k,z= .bl k∧
 (if k=true then tc σ H3 fun w' H4=>r' y w' H4 Q else Q (.bl false) H3):=rfl
theorem rd_rng1{ta:TA}{R:It→Hp→Prop}:iRng1 ta σ H R=ta σ H fun vs H1=>∃j:Int,vs=[.int j]∧-(2 ^ 62)≤j∧j < 2 ^ 62∧R (Itr 0 j.toNat) H1:=rfl
theorem rd_rng2{ta:TA}{R:It→Hp→Prop}:iRng2 ta σ H R=ta σ H fun vs H1=>∃i j:Int,vs=[.int i,.int j]∧(-(2 ^ 62)≤i∧i < 2 ^ 62∧-(2 ^ 62)≤j∧j < 2 ^ 62)∧R (Itr i (j - i).toNat) H1:=rfl
theorem rd_ilist{tl:TE}{R:It→Hp→Prop}:iList K tl σ H R=tl σ H fun x H1=>∃a,x= .ref a∧(∃xs,SqL K H1 a xs)∧R (Itl K a) H1:=rfl
theorem rd_itup{tl:TE}{R:It→Hp→Prop}:iTup K tl σ H R=tl σ H fun x H1=>∃a,x= .ref a∧(∃xs,SqT K H1 a xs)∧R (Itt K a) H1:=rfl
noncomputable def ForTail(g:TG)(tb:TS)(D:Ends)(σ:St):It→Hp→Prop:=fun J H1=>∃W:Nat→Nat→St→Hp→Prop,(∃m,W 0 m σ H1)∧∀i m σ H,W i m σ H→
 (J.stop i H∧D.nx σ H)∨(J.go i H∧∃N:St→Hp→Prop,(∀σ' H',N σ' H'→∃m',m' < m∧W (i+1) m' σ' H')∧∀x H',J.yld i H x H'→g x σ H' fun σ2 H2=>tb {D with nx:=N,ct:=N,bk:=D.nx} σ2 H2)
theorem rd_for'{wi:TI}{g:TG}{tb:TS}:tFor wi g tb D σ H=wi σ H (ForTail g tb D σ):=rfl
theorem forR_by{lo:Int}{n:Nat}{g:TG}{tb:TS}(Pv:Nat→St→Hp→Prop)(h0:Pv 0 σ H)
 (hs:∀i σ H,i < n→Pv i σ H→g (.int (lo+i)) σ H fun σ2 H2=>tb {D with nx:=Pv (i+1),ct:=Pv (i+1),bk:=D.nx} σ2 H2) (hd:∀σ H,Pv n σ H→D.nx σ H):ForTail g tb D σ (Itr lo n) H:=for_range Pv h0 hs hd
theorem forL_by{a:Addr}{xs:List V}{g:TG}{tb:TS}(Pv:Nat→St→Hp→Prop)(h0:Pv 0 σ H)(hl:∀i σ H,i≤xs.length→Pv i σ H→SqL K H a xs)
 (hs:∀i x σ H,xs[i]?=some x→Pv i σ H→g x σ H fun σ2 H2=>tb {D with nx:=Pv (i+1),ct:=Pv (i+1),bk:=D.nx} σ2 H2) (hd:∀σ H,Pv xs.length σ H→D.nx σ H):ForTail g tb D σ (Itl K a) H:=for_list Pv h0 hl hs hd
theorem seq_go{t u:TS}(h:∀rest:St→Hp→Prop,rest=u D→t {D with nx:=rest} σ H):tSeq t u D σ H:=h _ rfl
theorem leaf_go{rest r:St→Hp→Prop}(h:rest=r)(q:r σ H):rest σ H:=by rw [h];exact q
theorem cell_go{a:Addr}{ns:List Int}{k:Int}{R:List Int→Prop}(h:SqL K H a (ns.map V.int))(h0:0≤k)(hl:ns.length≤63)(q:R ns):∃x:List Int,SqL K H a (x.map V.int)∧0≤k∧x.length≤63∧R x:=⟨ns,h,h0,hl,q⟩
theorem cdiv_of{i j:Int}(h1:0 < j)(h2:j < 1073741824):CDiv i j:=⟨h1,h2⟩
theorem cpow_of{i j:Int}(h1:0≤j)(h2:j≤1000000)(h3:i.natAbs < 2 ^ 64):CPow i j:=⟨h1,h2,h3⟩
theorem cmul_l{i j:Int}(h1:-(2 ^ 64) < i)(h2:i < 2 ^ 64):CMul i j:= .inl ⟨h1,h2⟩
theorem cmul_r{i j:Int}(h1:-(2 ^ 64) < j)(h2:j < 2 ^ 64):CMul i j:= .inr ⟨h1,h2⟩
end
end L2
namespace L2
section
variable {P:Program} {w:World} {H:Hp} {h:Heap} {a:Addr} {o:HO}
theorem ObjOk.there(x:ObjOk P w H h a o):∃ob,h.get? a=some ob:=by
 cases o with
 | lst xs=>obtain ⟨_,_,_,_,e⟩:=x;exact ⟨_,e⟩
 | tup xs=>obtain ⟨_,_,_,_,e,_⟩:=x;exact ⟨_,e⟩
 | dK kvs=>obtain ⟨_,_,_,_,_,_,_,e,_⟩:=x;exact ⟨_,e⟩
 | dT kvs=>obtain ⟨_,_,_,_,_,_,_,e,_⟩:=x;exact ⟨_,e⟩
 | set S n=>obtain ⟨_,_,_,_,e,_⟩:=x;exact ⟨_,e⟩
 | ins C dx fs=>obtain ⟨_,_,_,e,_⟩:=x;exact ⟨_,e⟩
 | own y=>exact x
 | xd fs=>obtain ⟨_,⟨_,_,_,e,_⟩,_⟩:=x;exact ⟨_,e⟩
 | rng lo hi=>obtain ⟨_,_,_,e⟩:=x;exact ⟨_,e⟩
 | frz ob u=>exact ⟨_,x.1⟩
 | tbl ps=>exact ⟨_,x⟩
 | met f y=>exact ⟨_,x⟩
 | ext φ=>exact x.2.1
theorem HOk.there(x:HOk P w H h)(e:H a=some o):∃ob,h.get? a=some ob:=(x a o e).there
end
noncomputable def Spares(fs:List Addr)(H':Hp)(g h B:Heap):Prop:=∀b o,h.get? b=some o→b∉fs→(H' b≠none∨∃u,g.get? b=some u)→B.get? b=some o
section
variable {P:Program} {w:World}
theorem stay_of{fs:List Addr}{H0 H':Hp}{g h h3 B:Heap}(u:Un fs [] H0 H' g h)(ok:HOk P w H' h)
 (hfr:∀b∈fs,∃o,g.get? b=some o∧∀vs,o.data≠ .fields vs) (hf0:∀b∈fs,H0 b=none) (hB:Spares fs H' g h B) (st:B.StaysIn h3) (up:h.UpToSlots h3):
 Un fs [] H0 H' g h3∧HOk P w H' h3∧Spares fs H' g h3 B:=by
 have fr':∀b∈fs,H' b=none:=fun b hb=>by
  obtain ⟨o,ho,_⟩:=hfr b hb
  exact u.free b o ho (hf0 b hb) (by simp)
 have tr:∀b o,H' b=some o→b∉fs:=fun b o e hb=>by rw [fr' b hb]at e;cases e
 have kp:∀b ob,h.get? b=some ob→b∉fs→(H' b≠none∨∃u,g.get? b=some u)→h3.get? b=some ob:=fun b ob e n c=>st b ob (hB b ob e n c)
 have sl:∀b o,g.get? b=some o→H0 b=none→b∈fs→b∉([]:List Addr)→∃sl,h3.get? b=some {o with slots:=sl}:=fun b o e n hb hx=>by
  obtain ⟨sl,e1⟩:=u.slot b o e n hb hx
  obtain ⟨o',e',d⟩:=hfr b hb
  rw [e]at e';cases e'
  obtain ⟨sl2,e2⟩:=up b _ e1 d
  exact ⟨sl2,e2⟩
 refine ⟨⟨fun b o e n hb hx=>kp b o (u.keep b o e n hb hx) hb (.inr ⟨o,e⟩),sl,u.free,fun b o e hx=>?_,u.tups,u.frzs,u.tbls⟩,fun a o e=>?_,fun b o e hb c=>?_⟩
 · by_cases hb:b∈fs
   · obtain ⟨s1,e1⟩:=sl b o e (hf0 b hb) hb hx
     exact ⟨_,e1⟩
   · obtain ⟨o',e1⟩:=u.there b o e hx
     exact ⟨o',kp b o' e1 hb (.inr ⟨o,e⟩)⟩
 · refine (ok a o e).stay (fun b v hc q=>kp b v q ?_ (.inl ?_)) (fun _ q=>q) fun _ _ q=>q
   · rcases hc with rfl | hc
     · exact tr _ _ e
     · exact tr _ _ hc
   · rcases hc with rfl | hc
     · rw [e];simp
     · rw [hc];simp
 · have z:∃o1,h.get? b=some o1:=by
    rcases c with c | ⟨u0,e0⟩
    · cases q:H' b with
      | none=>exact absurd q c
      | some v=>exact ok.there q
    · exact u.there b u0 e0 (by simp)
   obtain ⟨o1,e1⟩:=z
   have e2:=kp b o1 e1 hb c
   rw [e]at e2;cases e2
   exact hB b o e1 hb c
end
section
variable {X:Cx} {pins:List (Addr×Obj)} {σ:St} {H1 H2:Hp} {s1:Shared} {h2 h3 B:Heap}
theorem Inv.frm(I:Inv X pins σ H1 s1):∀b∈frs X.stack,∃o,s1.heap.get? b=some o∧∀vs,o.data≠ .fields vs:=fun b hb=>(I.stack.mem hb).2
theorem leave_of(I:Inv X pins σ H1 s1)(hex:X.ex=[])(u:Un (frs X.stack) [] H1 H2 s1.heap h2)(ok:HOk X.prog X.w H2 h2)(hB:Spares (frs X.stack) H2 s1.heap h2 B)(st:B.StaysIn h3)(up:h2.UpToSlots h3):
 Un X.fs [] X.H₀ H2 X.s₀.heap h3∧HOk X.prog X.w H2 h3∧Spares X.fs H2 X.s₀.heap h3 B:=by
 obtain ⟨U,ok3,hB3⟩:=stay_of u ok I.frm I.stkFree hB st up
 have bs:=I.base
 rw [hex]at bs
 have nl:∀b o,X.s₀.heap.get? b=some o→b≠X.env.locals:=fun b o e=>Nat.ne_of_lt (Nat.lt_of_lt_of_le (Heap.lt_size e) I.ok.above)
 have ns:∀b o,X.s₀.heap.get? b=some o→b∉X.fs→b∉frs X.stack:=fun b o e n hb=>(List.mem_cons.mp (I.stkSub b hb)).elim (nl b o e) n
 have sub:∀b∈X.fs,b∈frs X.stack:=fun b hb=>by
  rcases I.ok.stk with e | ⟨e,hf⟩
  · rw [e];exact hb
  · rw [e];unfold frs;rw [List.filterMap_cons,hf];exact List.mem_cons_of_mem _ hb
 have nt:∀b,H2 b≠none→b∉frs X.stack:=fun b c hb=>by
  obtain ⟨o,ho,_⟩:=I.frm b hb
  exact c (U.free b o ho (I.stkFree b hb) (by simp))
 refine ⟨⟨fun b o e n hb hx=>?_,fun b o e n hb hx=>?_,fun b o e n hx=>?_,fun b o e hx=>?_,fun b xs e=>U.tups b xs (bs.tups b xs e),fun b o v e=>U.frzs b o v (bs.frzs b o v e),fun b ps e=>?_⟩,ok3,fun b o e hb c=>?_⟩
 · exact U.keep b o (bs.keep b o e n hb hx) (bs.free b o e n hx) (ns b o e hb) hx
 · obtain ⟨sl,e1⟩:=bs.slot b o e n hb hx
   obtain ⟨sl2,e2⟩:=U.slot b _ e1 (bs.free b o e n hx) (sub b hb) hx
   exact ⟨sl2,e2⟩
 · obtain ⟨o',e1⟩:=bs.there b o e hx
   exact U.free b o' e1 (bs.free b o e n hx) hx
 · obtain ⟨o',e1⟩:=bs.there b o e hx
   exact U.there b o' e1 hx
 · obtain ⟨m1,e1⟩:=bs.tbls b ps e
   obtain ⟨m2,e2⟩:=U.tbls b _ e1
   exact ⟨m1++m2,by rw [e2,Array.append_assoc]⟩
 · rcases c with c | ⟨v,e0⟩
   · exact hB3 b o e (nt b c) (.inl c)
   · obtain ⟨o',e1⟩:=bs.there b v e0 (by simp)
     exact hB3 b o e (ns b v e0 hb) (.inr ⟨o',e1⟩)
end
end L2
namespace L2
structure ExcC(K:PySem.W.Frag)(C:Addr):Prop where
 at_:∀h:Heap,K.In h→∃(nm q:Str) (N:Addr) (bs bm:List Value) (hdct:Bool) (sn:List Str) (sub:List Value) (ab:Bool) (col:Option Bool) (dd:Option Addr) (k0 k1 k2 k3 k5:Option Value) (mN:Str→Option Value),
  h.get? C=some (excClassObj nm q C N bs bm hdct sn sub ab col dd k0 k1 k2 k3 k5 "ValueError.__new__")∧h.Ns N mN∧mN "__init__"=none∧
  OwnTail h [.type "ValueError",.type "Exception",.type "BaseException",.type "object"] bm
noncomputable def tRaise(C:Addr)(EE:St→XK)(t:TA):TS:=fun _ σ H=>t σ H fun vs H1=>vs.length≤sizeLine∧∀x,H1 x=none→EE σ (.ref C) (some x) H1
noncomputable def PassesS(CX:CXT)(X:Cx)(EE:St→XK):Prop:=∀(pins:List (Addr×Obj)) (σ:St) (H:Hp) (s:Shared) (e:Value) (s':Shared),Inv X pins σ H s→CX X.stack H s (EE σ) e s'→X.xe e s'
noncomputable def tCallE(sp:Sp)(EE:St→XK)(t:TA):TE:=fun σ H Q=>t σ H fun vs H1=>sp vs H1 Q (EE σ)
section
variable {X:Cx} {CX:CXT} {k j:Nat} {ps:List Str} {sp:Sp} {EE:St→XK} {x:Str} {p pos:Pos} {e:Expr} {es:List Expr} {t:TA}
theorem pe_callE(D:Def X.prog X.w X.K X.mg X.base CX j x ps sp)(hr:Room k X.A)(hg:Gl X x)(hx:PassesS CX X EE)(ha:PA X (e::es) t)(hj:j≤k:=by decide)
 (hdb:(x==("__debug__":Str))=false:=by decide) (he:starEach (e::es) X.env=(false,eval e X.env)::starEach es X.env:=by rfl) (hpl:(backTo pos (starEach es X.env)).any (·.1)=false:=by rfl):
 PE X (.Call (.Name x p) (e::es) [] pos) (tCallE sp EE t):=by
 obtain ⟨f,fd,F,hm,hk,hb⟩:=D.ex
 intro pins s σ H Q I h
 refine wpAny_Call_Name_kw (ld_glob I hg hm ?_ hdb)
 refine PySem.W.callWith_K (h₀:=X.base) I.ok.mod.kin hk (thn (ha pos pins s σ H _ I h) fun us s1 ⟨vs,H1,I1,r,q⟩=>⟨I1.kIn,?_⟩) he hpl
 have hl:us.length=ps.length:=by rw [← r.length];exact F.len _ _ _ _ q
 have hb':BindsTo s1 fd ⟨us,[]⟩ (ps.zip us):=by
  have z:=hb s1 us I1.kIn (by rw [List.append_nil];exact hl)
  rw [List.append_nil]at z
  exact z
 refine wpAny_call (codeAny_mono (F.run X.A X.stack s1 H1 ⟨us,[]⟩ us vs Q (EE σ) (hr.mono hj) I1.env0 hb' r q) fun rs s' hq=>?_)
 cases rs with
 | error ev=>exact hx pins σ H1 s1 ev s' I1 hq
 | ok fl=>
  cases fl with
  | ret u=>exact I1.after hq
  | next=>exact False.elim hq
  | brk=>exact False.elim hq
  | cont=>exact False.elim hq
end
structure Air(X:Cx)(pins:List (Addr×Obj))(σ:St)(H:Hp)(x:Addr)(cls:Value)(s:Shared):Prop where
 ex:∃(H0:Hp) (s0:Shared) (a0:Value) (B:Heap),Inv X pins σ H0 s0∧s.os=s0.os∧AllBare s.gens∧Un (frs X.stack) [] H0 H s0.heap s.heap∧HOk X.prog X.w H s.heap∧
  Heap.FlyingW B X.stack x cls a0 s.heap∧Spares (frs X.stack) H s0.heap s.heap B∧H x=none∧s0.heap.get? x=none
section
variable {X:Cx} {pins:List (Addr×Obj)} {σ:St} {H:Hp} {x:Addr} {cls:Value} {s:Shared}
theorem Air.inv(Z:Air X pins σ H x cls s):Inv X pins σ H s:=by
 obtain ⟨H0,s0,a0,B,I,os,bare,u,ok,fl,hB,hx,hn⟩:=Z.ex
 exact I.call' os u ok bare fun b hb=>absurd hb (by simp)
theorem Air.obj(Z:Air X pins σ H x cls s):∃ob vs,s.heap.get? x=some ob∧ob.cls=cls∧ob.data= .fields vs:=by
 obtain ⟨H0,s0,a0,B,I,os,bare,u,ok,fl,hB,hx,hn⟩:=Z.ex
 obtain ⟨oe,vs,h1,h2,h3,_⟩:=fl.first
 exact ⟨oe,vs,h1,h2,h3⟩
end
noncomputable abbrev Cx.sui(X:Cx)(x:Addr):Cx:={X with A:=X.A.mark (some (.ref x)),calm:=false,xe:=fun _ _=>False}
section
variable {X:Cx} {pins:List (Addr×Obj)} {σ:St} {H:Hp} {x:Addr} {cls:Value} {s:Shared}
theorem Cx.Ok.sui(ok:X.Ok)(x:Addr):(X.sui x).Ok:=
 ⟨ok.mod,ok.kind,ok.glob,ok.blt,ok.above,ok.inj,ok.has,ok.cab,fun z=>(by cases z),ok.frames,ok.stk,ok.exf,ok.bs,ok.bsz,ok.noex,ok.exfs,ok.funs,ok.frf⟩
theorem Inv.sui(I:Inv X pins σ H s)(x:Addr):Inv (X.sui x) pins σ H s:=⟨I.ok.sui x,I.os,I.bare,I.base,I.loc,I.cell,I.free,I.freeC,I.pin,I.hok,I.len⟩
theorem Inv.unsui(I0:X.Ok)(I:Inv (X.sui x) pins σ H s):Inv X pins σ H s:=⟨I0,I.os,I.bare,I.base,I.loc,I.cell,I.free,I.freeC,I.pin,I.hok,I.len⟩
theorem SP.unsui(I0:X.Ok){D:Ends}{f:Flow}{s':Shared}(h:SP (X.sui x) pins D f s'):SP X pins D f s':=by
 cases f with
 | next=>obtain ⟨σ',H',I,q⟩:=h;exact ⟨σ',H',I.unsui I0,q⟩
 | brk=>obtain ⟨σ',H',I,q⟩:=h;exact ⟨σ',H',I.unsui I0,q⟩
 | cont=>obtain ⟨σ',H',I,q⟩:=h;exact ⟨σ',H',I.unsui I0,q⟩
 | ret u=>obtain ⟨v,σ',H',I,r,q⟩:=h;exact ⟨v,σ',H',I.unsui I0,r,q⟩
end
noncomputable abbrev TH:=Value→Addr→TS
noncomputable def hNil:TH:=fun _ _ _ _ _=>False
section
variable {X:Cx} {C:Str} {c:Value} {np pos:Pos} {b₀:Stmt} {suite:List Stmt} {rest:List ExceptHandler} {ts:TS} {tr:TH}
theorem clause_test{pins:List (Addr×Obj)}{s:Shared}{σ:St}{H:Hp}{x:Addr}{cls:Value}{b:Bool}{R:Result→Shared→Prop}(Z:Air X pins σ H x cls s)(hv:∀(Q:Value→Shared→Prop) (E:Value→Shared→Prop),Q c s→wpAny (model X.prog X.w) (X.A.mark (some (.ref x))) (eval (.Name C np) X.env) Q E s)
 (e:PySem.W.exmOne X.K cls c=some b) (h:R (.ok (if b then .brk else .next)) s):
 codeAny (model X.prog X.w) (X.A.mark (some (.ref x))) (.handlers (.ref x) [.ExceptHandler (some (.Name C np)) none [] pos] X.env) R s:=by
 refine codeAny_handlers_test (hv _ _ ?_)
 obtain ⟨ob,vs,h1,h2,_⟩:=Z.obj
 have LT:PySem.W.Looks (model X.prog X.w) s.heap (typeOf (.ref x)) cls:=h2▸(PySem.W.Looks.ld h1).andThen .now
 exact (PySem.W.exm_one Z.inv.kIn LT e).here h
end
noncomputable def excO(x:Addr)(cls:Value):HO:= .ext fun h=>∃ob vs,h.get? x=some ob∧ob.cls=cls∧ob.data= .fields vs
section
variable {X:Cx} {pins:List (Addr×Obj)} {σ:St} {H:Hp} {x:Addr} {cls:Value} {s:Shared}
theorem name_goes{i:Nat}{n:Str}{M:Model}{A:Around}{E:Value→Shared→Prop}{pos:Pos}{Q:Unit→Shared→Prop}(I:Inv X pins σ H s)(hN:X.N.Nodup)(hi:X.N[i]?=some n)(hl:X.env.kindOf n=some .local)
 (h:∀s',Inv X pins (σ.set i none) H s'→Q () s'):wpAny M A (do bindName X.env n .none;unbindBehindTheSuite X.env n pos) Q E s:=by
 obtain ⟨m,hn,hm⟩:=id I.loc
 refine wpAny_nameGoes_keeps hl hn (by rw [I.ok.kind];rfl) fun h' v hn' hs=>h _ ?_
 obtain ⟨oL,_,_,hoL,_⟩:=id hn
 have nL:∀b o,X.s₀.heap.get? b=some o→b≠X.env.locals:=fun b o e=>Nat.ne_of_lt (Nat.lt_of_lt_of_le (Heap.lt_size e) I.ok.above)
 refine ⟨I.ok,I.os,I.bare,⟨fun b o e n hb hx=>(hs.2 b (nL b o e)).trans (I.base.keep b o e n hb hx),fun b o e n hb hx=>?_,I.base.free,fun b o e hx=>?_,I.base.tups,I.base.frzs,I.base.tbls⟩,⟨_,hn',fun j y v' e1 e2 e3=>?_⟩,fun y c e=>?_,I.free,I.freeC,fun p hp=>?_,fun b o e=>?_,by simpa using I.len⟩
 · obtain ⟨sl,e1⟩:=I.base.slot b o e n hb hx
   exact ⟨sl,(hs.2 b (nL b o e)).trans e1⟩
 · obtain ⟨o',e1⟩:=I.base.there b o e hx
   exact ⟨o',(hs.2 b (nL b o e)).trans e1⟩
 · have hj:j≠i:=by
    rintro rfl
    by_cases hlt:j < σ.length
    · rw [List.getElem?_set_self hlt]at e2;cases e2
    · rw [List.getElem?_eq_none (by rw [List.length_set];omega)]at e2;cases e2
   rw [List.getElem?_set_ne (Ne.symm hj)]at e2
   obtain ⟨u',r',q⟩:=hm j y v' e1 e2 e3
   refine ⟨u',r',?_⟩
   rcases q with ⟨k,e⟩ | ⟨k,c,e,z⟩
   · have ny:y≠n:=fun z=>hj (nodup_ix hN e1 (z▸hi))
     exact .inl ⟨k,by simp [ny,e]⟩
   · exact .inr ⟨k,c,e,z.sameBut hs (I.cne y c e)⟩
 · obtain ⟨w',z⟩:=I.cell y c e
   exact ⟨w',z.sameBut hs (I.cne y c e)⟩
 · obtain ⟨e,n1,ne,nf,d⟩:=I.pin p hp
   exact ⟨(hs.2 p.1 ne).trans e,n1,ne,nf,d⟩
 · refine (I.hok b o e).stay (fun c w' hc q=>(hs.2 c ?_).trans q) (fun _ q=>q) fun _ _ q=>q
   rintro rfl
   rcases hc with z | hc
   · rw [← z,I.free]at e;cases e
   · rw [I.free]at hc;cases hc
end
noncomputable def endsAs(i:Nat)(D:Ends):Ends:={nx:=fun σ H=>D.nx (σ.set i none) H,rt:=D.rt,bk:=fun σ H=>D.bk (σ.set i none) H,ct:=fun σ H=>D.ct (σ.set i none) H}
noncomputable abbrev Cx.tryX(X:Cx)(pn:List (Addr×Obj))(xe:Value→Shared→Prop):Cx:={X with pn:=pn,xe:=xe}
section
variable {X:Cx} {body:List Stmt} {h₀:ExceptHandler} {hs:List ExceptHandler} {pos:Pos} {tb:(St→XK)→TS} {th:TH} {pins:List (Addr×Obj)} {σ:St} {H:Hp} {s:Shared} {pn:List (Addr×Obj)} {xe:Value→Shared→Prop}
theorem Inv.tryIn(I:Inv X pins σ H s)(xe:Value→Shared→Prop):Inv (X.tryX (X.pn++pins) xe) [] σ H s:=
 ⟨⟨I.ok.mod,I.ok.kind,I.ok.glob,I.ok.blt,I.ok.above,I.ok.inj,I.ok.has,I.ok.cab,I.ok.hd,I.ok.frames,I.ok.stk,I.ok.exf,I.ok.bs,I.ok.bsz,I.ok.noex,I.ok.exfs,I.ok.funs,I.ok.frf⟩,I.os,I.bare,I.base,I.loc,I.cell,I.free,I.freeC,fun p hp=>I.pin p (by simpa using hp),I.hok,I.len⟩
theorem Inv.tryOut{pl:List (Addr×Obj)}(I0:X.Ok)(I:Inv (X.tryX (X.pn++pins) xe) pl σ H s):Inv X pins σ H s:=
 ⟨I0,I.os,I.bare,I.base,I.loc,I.cell,I.free,I.freeC,fun p hp=>I.pin p (List.mem_append_left _ hp),I.hok,I.len⟩
theorem SP.tryOut{pl:List (Addr×Obj)}(I0:X.Ok){D:Ends}{f:Flow}{s':Shared}(h:SP (X.tryX (X.pn++pins) xe) pl D f s'):SP X pins D f s':=by
 cases f with
 | next=>obtain ⟨σ',H',I,q⟩:=h;exact ⟨σ',H',I.tryOut I0,q⟩
 | brk=>obtain ⟨σ',H',I,q⟩:=h;exact ⟨σ',H',I.tryOut I0,q⟩
 | cont=>obtain ⟨σ',H',I,q⟩:=h;exact ⟨σ',H',I.tryOut I0,q⟩
 | ret u=>obtain ⟨v,σ',H',I,r,q⟩:=h;exact ⟨v,σ',H',I.tryOut I0,r,q⟩
end
end L2
namespace L2
open PySem.W
noncomputable def rIsiE(K:Frag):List V→Hp→VK→Prop:=fun xs H Q=>∃p cls n,xs=[.ref p,.ty n]∧H p=some (excO p cls)∧kitOne K cls (.type n)=some true∧Q (.bl true) H
noncomputable def strKeysB(es:Array DictEntry):Bool:=es.toList.all fun e=>match e.key with
 | .str _ _=>true
 | _=>false
theorem strKeys_of{es:Array DictEntry}(h:strKeysB es=true):StrKeys es:=fun e he=>by
 have z:=List.all_eq_true.mp h e (by simpa using he)
 cases k:e.key with
 | str n t=>exact ⟨n,t,rfl⟩
 | _=>rw [k]at z;cases z
theorem ns_of{K:Frag}{h:Heap}{N:Addr}{oc:Value}{od:Option Addr}{es:Array DictEntry}{ep:Nat}{sl:Array (Option Value)}(X:K.In h)(l:K.lookup N=some ⟨oc,od,.dict es ep,sl⟩)(k:strKeysB es=true):h.Ns N (nsFind es):=
 ⟨_,es,ep,X _ _ l,rfl,strKeys_of k,fun _=>rfl⟩
theorem excC_of{K:Frag}{C N A:Addr}{nm q:Str}{bs:List Value}{hdct:Bool}{sn:List Str}{sub:List Value}{ab:Bool}{col:Option Bool}{dd:Option Addr}{k0 k1 k2 k3 k5:Option Value}{oc c0 oc2:Value}{od dA od2:Option Addr}{es es2:Array DictEntry}{ep ep2:Nat}{sl slA sl2:Array (Option Value)}{cdA:ClassData}
 (lC:K.lookup C=some (excClassObj nm q C N bs [.ref A,.type "ValueError",.type "Exception",.type "BaseException",.type "object"] hdct sn sub ab col dd k0 k1 k2 k3 k5 "ValueError.__new__"))
 (lN:K.lookup N=some ⟨oc,od,.dict es ep,sl⟩) (sN:strKeysB es=true) (iN:nsFind es "__init__"=none) (lA:K.lookup A=some ⟨c0,dA,.cls cdA,slA⟩) (lNA:K.lookup cdA.ns=some ⟨oc2,od2,.dict es2 ep2,sl2⟩) (sNA:strKeysB es2=true) (iNA:nsFind es2 "__init__"=none):ExcC K C:=
 ⟨fun h X=>⟨nm,q,N,bs,_,hdct,sn,sub,ab,col,dd,k0,k1,k2,k3,k5,nsFind es,X _ _ lC,ns_of X lN sN,iN,.own (X _ _ lA) (ns_of X lNA sNA) iNA .base⟩⟩
theorem exm_ref{K:Frag}{C:Addr}{cls:Value}{b:Bool}{cd:ClassData}(s1:subIn K (.ref C) (.type "BaseException")=some true)(c1:clsIn K C=some cd)(t1:typeIn K (.ref C)=some (.type "type"))(s2:subIn K cls (.ref C)=some b):exmOne K cls (.ref C)=some b:=by
 unfold exmOne kitCls
 dsimp only
 rw [s1,c1,t1]
 exact s2
section
variable {σ:St} {H:Hp} {Q:VK} {D:Ends} {K:Frag}
theorem rd_raise{C:Addr}{EE:St→XK}{t:TA}:tRaise C EE t D σ H=t σ H fun vs H1=>vs.length≤sizeLine∧∀x,H1 x=none→EE σ (.ref C) (some x) H1:=rfl
theorem rd_callE{sp:Sp}{EE:St→XK}{t:TA}:tCallE sp EE t σ H Q=t σ H fun vs H1=>sp vs H1 Q (EE σ):=rfl
theorem rd_hnil{cls:Value}{x:Addr}:hNil cls x D σ H=False:=rfl
theorem rd_ends{i:Nat}:endsAs i D={nx:=fun σ H=>D.nx (σ.set i none) H,rt:=D.rt,bk:=fun σ H=>D.bk (σ.set i none) H,ct:=fun σ H=>D.ct (σ.set i none) H}:=rfl
theorem rd_isiE{xs:List V}:rIsiE K xs H Q=∃p cls n,xs=[.ref p,.ty n]∧H p=some (excO p cls)∧kitOne K cls (.type n)=some true∧Q (.bl true) H:=rfl
end
end L2
namespace L2
theorem compLoop_any{prog:Program}{w:World}{A:Around}{R:Result→Shared→Prop}{s:Shared}{elt target iter:Expr}{ifs:List Expr}{scope:Scope}{pos:Pos}{it acc:Value}{env:Env}(I:Nat→Shared→Prop)
 (turn:∀n s,I n s→wpAny (model prog w) A (pyNext it) (fun r s₁=>match r with
  | none=>R (.ok .next) s₁
  | some v=>wpAny (model prog w) A (letOwnedTupleGo target it v) (fun _ s₁=>wpAny (model prog w) A (assign target env v) (fun _ s₂=>
   wpAny (model prog w) A (forIn ifs true fun c r=>if r=true then do let ok ← isTrue c env (eval c env);pure (ForInStep.yield ok) else pure (ForInStep.yield r)) (fun ok s₃=>
    if ok=true then wpAny (model prog w) A (eval elt env) (fun x s₄=>
     wpAny (model prog w) A (call (.builtin "list.append") [acc,x]) (fun _ s₅=>∃m,m < n∧I m s₅) (notedBy (model prog w) A env fun e s'=>R (.error e) s') s₄) (notedBy (model prog w) A env fun e s'=>R (.error e) s') s₃
    else ∃m,m < n∧I m s₃) (notedBy (model prog w) A env fun e s'=>R (.error e) s') s₂) (notedBy (model prog w) A env fun e s'=>R (.error e) s') s₁) (notedBy (model prog w) A env fun e s'=>R (.error e) s') s₁) (notedBy (model prog w) A env fun e s'=>R (.error e) s') s)
 (n:Nat) (h:I n s):
 codeAny (model prog w) A (.compLoop (.ListComp elt [⟨target,iter,ifs,0⟩] scope pos) 0 it acc env) R s:=by
 refine codeAny_loop rfl I (fun n s hI=>?_) n h
 show wpAny _ A ((compTurn (.ListComp elt [⟨target,iter,ifs,0⟩] scope pos) 0 it acc env).onRaise (fun x=>do noteFrame x env;theTreesLotGoes x)) _ _ s
 refine wpAny_noted ?_
 rw [compTurn_list]
 refine wpAny_bind (wpAny_standAt (wpAny_bind (wpAny_mono (turn n s hI) (fun r s₁ h₁=>?_) fun _ _ h'=>h')))
 cases r with
 | none=>exact wpAny_pure h₁
 | some v=>
  refine wpAny_bind (wpAny_mono h₁ (fun _ s₁ h₁=>?_) fun _ _ h'=>h')
  refine wpAny_bind (wpAny_mono h₁ (fun _ s₂ h₂=>wpAny_bind (wpAny_mono h₂ (fun ok s₃ h₃=>?_) fun _ _ h'=>h')) fun _ _ h'=>h')
  cases ok with
  | false=>exact wpAny_pure ⟨rfl,h₃⟩
  | true=>
   exact wpAny_bind (wpAny_bind (wpAny_mono h₃ (fun x s₄ h₄=>wpAny_bind (wpAny_mono h₄ (fun _ s₅ h₅=>wpAny_pure (wpAny_pure ⟨rfl,h₅⟩)) fun _ _ h'=>h')) fun _ _ h'=>h'))
noncomputable def clo(env:Env):List (Str×NameKind)→List (Str×Addr)→List (Str×Addr)
 | [],cs=>cs
 | (n,k)::r,cs=>clo env r (if (k== .free)=true then (match env.cells.lookup n with | some c=>(n,c)::cs | none=>cs) else cs)
theorem clo_loop{env:Env}:∀(names:List (Str×NameKind)) (cs:List (Str×Addr)),(∀y∈names,y.2= .free→∃c,env.cells.lookup y.1=some c)→
 (forIn (m:=Sem) names cs fun (x:Str×NameKind) (r:List (Str×Addr))=>match x with | (name,kind)=>if (kind== .free)=true then do let c ← cellOf env name;pure (ForInStep.yield ((name,c)::r)) else pure (ForInStep.yield r))=pure (clo env names cs)
 | [],cs,_=>rfl
 | (n,k)::r,cs,h=>by
  rw [List.forIn_cons]
  have ih:=fun cs=>clo_loop r cs fun y hy=>h y (List.mem_cons_of_mem _ hy)
  by_cases hk:(k==NameKind.free)=true
  · obtain ⟨c,hc⟩:=h (n,k) List.mem_cons_self (by simpa using hk)
    have e:cellOf env n=pure c:=by unfold cellOf;rw [show env.cells.lookup n=some c from hc]
    simp only [hk,if_true,e,clo]
    rw [show env.cells.lookup n=some c from hc]
    exact ih _
  · simp only [hk,clo]
    exact ih _
theorem clo_closure{scope:Scope}{env:Env}(h:∀y∈scope.names,y.2= .free→∃c,env.cells.lookup y.1=some c):closureFor scope env=pure (clo env scope.names []):=by
 unfold closureFor
 show (forIn (m:=Sem) scope.names ([]:List (Str×Addr)) _ >>=fun r=>pure r)=_
 rw [clo_loop scope.names [] h]
 rfl
theorem clo_cells{env:Env}{x:Str}{c:Addr}:∀(names:List (Str×NameKind)) (cs:List (Str×Addr)),(clo env names cs).lookup x=some c→env.cells.lookup x=some c∨cs.lookup x=some c
 | [],cs,h=> .inr h
 | (n,k)::r,cs,h=>by
  unfold clo at h
  rcases clo_cells r _ h with q | q
  · exact .inl q
  · split at q
    · split at q
      · rename_i c' hc
        rw [List.lookup_cons]at q
        cases hx:x==n with
        | true=>
         rw [hx]at q
         have e:x=n:=by simpa using hx
         subst e
         simp only [Option.some.injEq]at q
         subst q
         exact .inl hc
        | false=>rw [hx]at q;exact .inr q
      · exact .inr q
    · exact .inr q
theorem clo_has{env:Env}{x:Str}{c:Addr}(hc:env.cells.lookup x=some c):∀(names:List (Str×NameKind)) (cs:List (Str×Addr)),(cs.lookup x=some c∨(cs.lookup x=none∧(x,NameKind.free)∈names))→(clo env names cs).lookup x=some c
 | [],cs,h=>by
  rcases h with h | ⟨_,h⟩
  · exact h
  · cases h
 | (n,k)::r,cs,h=>by
  unfold clo
  refine clo_has hc r _ ?_
  by_cases hx:x=n
  · subst hx
    by_cases hk:(k==NameKind.free)=true
    · rw [if_pos hk,hc]
      exact .inl (by simp [List.lookup_cons])
    · rw [if_neg hk]
      rcases h with h | ⟨h1,h2⟩
      · exact .inl h
      · refine .inr ⟨h1,?_⟩
        rcases List.mem_cons.mp h2 with e | e
        · cases e;exact absurd rfl hk
        · exact e
  · have hb:(x==n)=false:=by simpa using hx
    have key:∀cs':List (Str×Addr),cs'.lookup x=cs.lookup x→(cs'.lookup x=some c∨(cs'.lookup x=none∧(x,NameKind.free)∈r)):=fun cs' e=>by
     rw [e]
     rcases h with h | ⟨h1,h2⟩
     · exact .inl h
     · refine .inr ⟨h1,?_⟩
       rcases List.mem_cons.mp h2 with e | e
       · cases e;exact absurd rfl hx
       · exact e
    refine key _ ?_
    split
    · split
      · simp [List.lookup_cons,hb]
      · rfl
    · rfl
theorem relabel_kind{env:Env}{k':NameKind}:∀{names:List (Str×NameKind)} {x:Str},(∀y∈names,y.2≠ .cell)→
 (names.map fun (n,k)=>if (k==NameKind.free && env.scope.kind== .function && env.kindOf n==some .cell) then (n,NameKind.cell) else (n,k)).lookup x=some k'→(k'= .cell∨k'= .free)→(x,NameKind.free)∈names
 | [],_,_,h,_=>by simp at h
 | (n,k)::r,x,hc,h,hk=>by
  have ih:=@relabel_kind env k' r x (fun y hy=>hc y (List.mem_cons_of_mem _ hy))
  have h':List.lookup x ((if (k==NameKind.free && env.scope.kind== .function && env.kindOf n==some .cell)=true then (n,NameKind.cell) else (n,k))::(r.map fun (n,k)=>if (k==NameKind.free && env.scope.kind== .function && env.kindOf n==some .cell) then (n,NameKind.cell) else (n,k)))=some k':=h
  by_cases hx:x=n
  · subst hx
    by_cases q:(k==NameKind.free && env.scope.kind== .function && env.kindOf x==some .cell)=true
    · have:k= .free:=by simp only [Bool.and_eq_true,beq_iff_eq]at q;exact q.1.1
      subst this
      exact List.mem_cons_self
    · rw [if_neg q,List.lookup_cons]at h'
      simp only [beq_self_eq_true]at h'
      have e:k=k':=Option.some.inj h'
      rcases hk with z | z
      · exact absurd (e.trans z) (hc (x,k) List.mem_cons_self)
      · rw [e.trans z];exact List.mem_cons_self
  · have hb:(x==n)=false:=by simpa using hx
    refine List.mem_cons_of_mem _ (ih ?_ hk)
    split at h'
    · rw [List.lookup_cons,hb]at h';exact h'
    · rw [List.lookup_cons,hb]at h';exact h'
theorem lookup_relabel_free{env:Env}:∀{names:List (Str×NameKind)} {x:Str},names.lookup x=some .free→
 (names.map fun (n,k)=>if (k==NameKind.free && env.scope.kind== .function && env.kindOf n==some .cell) then (n,NameKind.cell) else (n,k)).lookup x=some .cell∨
 (names.map fun (n,k)=>if (k==NameKind.free && env.scope.kind== .function && env.kindOf n==some .cell) then (n,NameKind.cell) else (n,k)).lookup x=some .free
 | [],_,h=>by simp at h
 | (n,k)::r,x,h=>by
  have ih:=@lookup_relabel_free env r x
  show List.lookup x ((if (k==NameKind.free && env.scope.kind== .function && env.kindOf n==some .cell)=true then (n,NameKind.cell) else (n,k))::_)=_∨List.lookup x ((if (k==NameKind.free && env.scope.kind== .function && env.kindOf n==some .cell)=true then (n,NameKind.cell) else (n,k))::_)=_
  cases hx:x==n with
  | true=>
   simp only [List.lookup_cons,hx]at h
   cases h
   split
   · left;simp [List.lookup_cons,hx]
   · right;simp [List.lookup_cons,hx]
  | false=>
   simp only [List.lookup_cons,hx]at h
   split
   · simp only [List.lookup_cons,hx];exact ih h
   · simp only [List.lookup_cons,hx];exact ih h
structure Blk where
 s:Shared
 H:Hp
 C:Addr
 fp:List Addr
noncomputable abbrev Cx.blk(X:Cx)(scope:Scope)(N':List Str)(b:Blk):Cx:=
 {X with N:=N',s₀:=b.s,H₀:=b.H,env:=compEnvC scope (clo X.env scope.names []) b.C X.env,outer:=X.stack,ex:=b.fp,fn:=fun _=>false,pn:=[],xe:=fun _ _=>False}
noncomputable def around(N:List Str)(fs:List Nat):List Str:=fs.map fun j=>N.getD j ""
noncomputable def compOkB(N:List Str)(esc scope:Scope)(xs:List Str)(fs:List Nat):Bool:=
 decide (xs++around N fs).Nodup && (match scope.kind with | .function=>true | _=>false) && xs.all (fun x=>decide (scope.names.lookup x=some .local)) &&
 scope.names.all (fun y=>decide (y.2≠ .cell) && (!decide (y.2= .local) || decide (scope.names.lookup y.1=some .local)) && (!decide (y.2= .free) || decide (esc.names.lookup y.1=some .cell) || decide (esc.names.lookup y.1=some .free))) &&
 fs.all fun j=>decide (j < N.length) && decide (scope.names.lookup (N.getD j "")=some .free)
structure CompOk(N:List Str)(esc scope:Scope)(xs:List Str)(fs:List Nat):Prop where
 nd:(xs++around N fs).Nodup
 kind:scope.kind= .function
 own:∀x∈xs,scope.names.lookup x=some .local
 cell:∀y∈scope.names,y.2≠ .cell
 names:∀y∈scope.names,y.2= .local→scope.names.lookup y.1=some .local
 free:∀y∈scope.names,y.2= .free→esc.names.lookup y.1=some .cell∨esc.names.lookup y.1=some .free
 fs:∀j∈fs,j < N.length∧scope.names.lookup (N.getD j "")=some .free
theorem compOk_of{N:List Str}{esc scope:Scope}{xs:List Str}{fs:List Nat}(h:compOkB N esc scope xs fs=true):CompOk N esc scope xs fs:=by
 unfold compOkB at h
 simp only [Bool.and_eq_true,decide_eq_true_eq,List.all_eq_true]at h
 obtain ⟨⟨⟨⟨h1,h2⟩,h3⟩,h4⟩,h5⟩:=h
 refine ⟨h1,?_,h3,fun y hy=>(h4 y hy).1.1,fun y hy e=>?_,fun y hy e=>?_,h5⟩
 · split at h2
   · assumption
   · cases h2
 · have:=(h4 y hy).1.2
   simpa [e] using this
 · have:=(h4 y hy).2
   simpa [e] using this
section
variable {X:Cx} {pins:List (Addr×Obj)} {σ:St} {H:Hp} {s:Shared} {scope:Scope} {xs:List Str} {fs:List Nat} {fp:List Addr} {C:Addr}
theorem blk_ok(I:Inv X pins σ H s)(O:CompOk X.N X.env.scope scope xs fs)(hf:∀b∈fp,FpOk X pins H b)(hC:s.heap.objs.size≤C)(hfp:∀b∈fp,b < s.heap.objs.size):(X.blk scope (xs++around X.N fs) ⟨s,H,C,fp⟩).Ok:=by
 have hcl:∀x c,(clo X.env scope.names []).lookup x=some c→X.env.cells.lookup x=some c:=fun x c e=>by
  rcases clo_cells _ _ e with q | q
  · exact q
  · cases q
 have hsz:∀b o,X.base.get? b=some o→b < X.s₀.heap.objs.size:=fun b o e=>Nat.lt_of_lt_of_le (Heap.lt_size e) I.ok.bsz
 refine ⟨I.ok.mod,O.kind,I.ok.glob,I.ok.blt,hC,fun x y c h1 h2=>I.ok.inj x y c (hcl x c h1) (hcl y c h2),fun x hx=>?_,fun x c z=>(by cases z),I.ok.hd,I.ok.frames,.inl rfl,fun b hb=>⟨Nat.ne_of_lt (Nat.lt_of_lt_of_le (hfp b hb) hC),fun x c e=>(hf b hb).2.2.2.2.1 x c (hcl x c e)⟩,I.bs,Nat.le_trans I.ok.bsz I.sz,fun b o e hb=>?_,fun b hb hs=>?_,I.stack,I.stkFree⟩
 · have hm:(x,NameKind.free)∈scope.names:=by
    rcases hx with hx | hx
    · exact relabel_kind (env:=X.env) O.cell (show (scope.names.map _).lookup x=some NameKind.cell from hx) (.inl rfl)
    · exact relabel_kind (env:=X.env) O.cell (show (scope.names.map _).lookup x=some NameKind.free from hx) (.inr rfl)
   obtain ⟨c,hc⟩:=I.ok.has x (O.free _ hm rfl)
   exact ⟨c,clo_has hc _ _ (.inr ⟨rfl,hm⟩)⟩
 · obtain ⟨_,_,_,h4,_⟩:=hf b hb
   rcases h4 with h4 | h4
   · exact I.ok.noex b o e h4
   · exact absurd (Nat.lt_of_lt_of_le (hsz b o e) h4) (Nat.lt_irrefl _)
 · obtain ⟨_,h2,h3,_⟩:=hf b hb
   exact (List.mem_cons.mp (I.stkSub b hs)).elim h2 h3
theorem blk_in{h1:Heap}{t:Nat}{D:Addr}{m:Str→Option Value}(I:Inv X pins σ H s)(O:CompOk X.N X.env.scope scope xs fs)(hf:∀b∈fp,FpOk X pins H b)(hD:s.heap.objs.size≤D)(hC:s.heap.objs.size≤C)(hfp:∀b∈fp,b < s.heap.objs.size)(hDC:D≠C)
 (k:∀b u,s.heap.get? b=some u→h1.get? b=some u) (hDo:h1.get? D=some {cls:= .type "list",data:= .seq #[] 0}) (hn:h1.Ns C m):
 Inv (X.blk scope (xs++around X.N fs) ⟨s,H,C,fp⟩) [] (xs.map (fun _=>none)++fs.map fun j=>σ.getD j none) (upd H D (.lst [])) {s with heap:=h1,toks:=t}:=by
 have hcl:∀x c,(clo X.env scope.names []).lookup x=some c→X.env.cells.lookup x=some c:=fun x c e=>by
  rcases clo_cells _ _ e with q | q
  · exact q
  · cases q
 have ok:=blk_ok (C:=C) I O hf hC hfp
 have hnD:H D=none:=I.hok.fresh hD
 refine ⟨ok,rfl,I.bare,Un.laid k hD hnD,⟨m,hn,fun i x v e1 e2 e3=>?_⟩,fun x c e=>?_,?_,fun x c e=>?_,fun p hp=>absurd (show p∈([]:List (Addr×Obj)) from hp) (by simp),I.hok.laid k hD ⟨Nat.zero_le _,[],0,.nil,hDo⟩,by simp [around]⟩
 · by_cases hi:i < xs.length
   · rw [List.getElem?_append_left (by simpa using hi),List.getElem?_map]at e2
     cases q:xs[i]? with
     | none=>rw [q]at e2;cases e2
     | some a=>rw [q]at e2;cases e2
   · have hi:xs.length≤i:=Nat.le_of_not_lt hi
     rw [List.getElem?_append_right (by simpa using hi)]at e1 e2
     unfold around at e1
     rw [List.length_map]at e2
     rw [List.getElem?_map]at e1 e2
     cases q:fs[i - xs.length]? with
     | none=>rw [q]at e2;cases e2
     | some j=>
      rw [q]at e1 e2
      simp only [Option.map_some,Option.some.injEq]at e1 e2
      obtain ⟨hj,hl⟩:=O.fs j (List.mem_of_getElem? q)
      obtain ⟨m0,_,hl0⟩:=I.loc
      have e1':X.N[j]?=some x:=by rw [← e1,List.getD_eq_getElem?_getD,List.getElem?_eq_getElem hj];rfl
      have e2':σ[j]?=some (some v):=by
       rw [List.getD_eq_getElem?_getD]at e2
       cases z:σ[j]? with
       | none=>rw [z]at e2;cases e2
       | some y=>rw [z]at e2;simp only [Option.getD_some]at e2;rw [e2]
      rw [e1]at hl
      have hm:(x,NameKind.free)∈scope.names:=PySem.mem_of_lookup hl
      have hk:=O.free _ hm rfl
      obtain ⟨u,r,l⟩:=hl0 j x v e1' e2' (hk.elim (fun z=> .inr (.inl z)) fun z=> .inr (.inr z))
      refine ⟨u,r,?_⟩
      rcases l with ⟨z,_⟩ | ⟨_,c,hc,cell⟩
      · have z':X.env.scope.names.lookup x=some .local:=z
        rcases hk with hk | hk <;> (rw [z']at hk;cases hk)
      · refine .inr ⟨?_,c,clo_has hc _ _ (.inr ⟨rfl,hm⟩),?_⟩
        · exact lookup_relabel_free (env:=X.env) hl
        · obtain ⟨o,ho,hd⟩:=cell
          exact ⟨o,k _ _ ho,hd⟩
 · obtain ⟨v,o,ho,hd⟩:=I.cell x c (hcl x c e)
   exact ⟨v,o,k _ _ ho,hd⟩
 · show upd H D (.lst []) C=none
   rw [upd_ne (Ne.symm hDC)];exact I.hok.fresh hC
 · obtain ⟨v,q⟩:=I.cell x c (hcl x c e)
   rw [upd_ne (Nat.ne_of_lt (Nat.lt_of_lt_of_le q.lt hD))]
   exact I.freeC x c (hcl x c e)
theorem blk_out{N':List Str}{σ':St}{H':Hp}{s':Shared}{h2:Heap}{pl:List (Addr×Obj)}(I:Inv X pins σ H s)(hf:∀b∈fp,FpOk X pins H b)(hC:s.heap.objs.size≤C)(J:Inv (X.blk scope N' ⟨s,H,C,fp⟩) pl σ' H' s')(sb:Heap.SameBut C s'.heap h2):
 Inv X pins σ H' {s' with heap:=h2}:=by
 have u:=J.base
 have ne:∀b o,s.heap.get? b=some o→b≠C:=fun b o e=>Nat.ne_of_lt (Nat.lt_of_lt_of_le (Heap.lt_size e) hC)
 refine I.call' (ch:=fp) J.os ⟨fun b o e n h1 h2=>(sb.2 b (ne b o e)).trans (u.keep b o e n h1 h2),fun b o e n h1 h2=>?_,u.free,fun b o e hx=>?_,u.tups,u.frzs,u.tbls⟩ (fun a o e=>?_) J.bare fun b hb=>?_
 · obtain ⟨sl,q⟩:=u.slot b o e n h1 h2
   exact ⟨sl,(sb.2 b (ne b o e)).trans q⟩
 · obtain ⟨o',q⟩:=u.there b o e hx
   exact ⟨o',(sb.2 b (ne b o e)).trans q⟩
 · have fr:H' C=none:=J.free
   refine (J.hok a o e).stay (fun b v hc q=>(sb.2 b ?_).trans q) (fun _ q=>q) fun _ _ q=>q
   rcases hc with rfl | hc
   · exact ne_of_none e fr
   · exact ne_of_none hc fr
 · obtain ⟨_,h2,h3,h4,h5,h6⟩:=hf b hb
   exact ⟨h4,h2,h5,h6⟩
end
end L2
namespace L2
noncomputable def Kept(σ σ':St):Prop:=∀(i:Nat) (v:V),σ[i]?=some (some v)→σ'[i]?=some (some v)
noncomputable def PTs(X:Cx)(ifs:List Expr)(t:TT):Prop:=
 ∀(pins:List (Addr×Obj)) (s:Shared) (σ:St) (H:Hp) (Q:Bool→Hp→Prop),Inv X pins σ H s→t σ H Q→
   wpAny (model X.prog X.w) X.A (forIn ifs true fun c r=>if r=true then do let ok ← isTrue c X.env (eval c X.env);pure (ForInStep.yield ok) else pure (ForInStep.yield r)) (TP X pins σ Q) X.xe s
noncomputable def tYes:TT:=fun _ H Q=>Q true H
theorem pts_nil{X:Cx}:PTs X [] tYes:=fun _ _ _ H _ I h=>wpAny_tests_nil ⟨H,I,h⟩
theorem pts_one{X:Cx}{c:Expr}{t:TT}(hc:PT X c t):PTs X [c] t:=fun pins s σ H Q I h=>wpAny_tests_one (hc pins s σ H Q I h)
noncomputable def CompTail(σ0:St)(g:Blk→TG)(tt:Blk→TT)(te:Blk→TE)(Q:VK)(J:It)(H1:Hp):Prop:=∀(b:Blk) (D:Addr),H1 D=none→∃W:Nat→Nat→List V→Hp→Prop,(∃m,W 0 m [] (upd H1 D (.lst [])))∧∀i m ys H2,W i m ys H2→H2 D=some (.lst ys)∧
 ((J.stop i H2∧Q (.ref D) H2)∨(J.go i H2∧∀x H3,J.yld i H2 x H3→g b x σ0 H3 fun σ6 H6=>Kept σ0 σ6∧tt b σ6 H6 fun ok H7=>
   if ok=true then te b σ6 H7 fun y H8=>H8 D=some (.lst ys)∧ys.length < sizeLine∧∃m',m' < m∧W (i+1) m' (ys++[y]) (upd H8 D (.lst (ys++[y])))
   else ∃m',m' < m∧W (i+1) m' ys H7))
noncomputable def tComp(wi:TI)(n:Nat)(fs:List Nat)(g:Blk→TG)(tt:Blk→TT)(te:Blk→TE):TE:=fun σ H Q=>wi σ H (CompTail (List.replicate n none++fs.map fun j=>σ.getD j none) g tt te Q)
section
variable {X:Cx} {pins:List (Addr×Obj)} {σ:St} {scope:Scope} {xs:List Str} {fs:List Nat} {elt tg iter:Expr} {ifs:List Expr} {pos:Pos} {wi:TI} {g:Blk→TG} {tt:Blk→TT} {te:Blk→TE}
theorem turned_of{H:Hp}{s:Shared}{C:Addr}{h2:Heap}(I:Inv X pins σ H s)(F:FpOk X pins H C)(sb:Heap.SameBut C s.heap h2):Inv X pins σ H {s with heap:=h2}:=
 I.turned (t':=s.toks) (fun b o hb e=>(sb.2 b hb).trans e) F.1 F.2.1 F.2.2.2.1 F.2.2.2.2.1 F.2.2.2.2.2
theorem comp_run{Q:VK}{itv:Value}{s2:Shared}{E:Value→Shared→Prop}{RR:Value→Addr→Result→Shared→Prop}(hc:X.calm=true)(O:CompOk X.N X.env.scope scope xs fs)
 (hg:∀b,PG (X.blk scope (xs++around X.N fs) b) tg (g b)) (ht:∀b,PTs (X.blk scope (xs++around X.N fs) b) ifs (tt b)) (he:∀b,PE (X.blk scope (xs++around X.N fs) b) elt (te b))
 (h:PIE X pins σ tg (CompTail (List.replicate xs.length none++fs.map fun j=>σ.getD j none) g tt te Q) itv s2)
 (hR:∀D C s' m H',s'.heap.Ns C m→Inv X pins σ H' s'→Q (.ref D) H'→FpOk X pins H' C→RR (.ref D) C (.ok .next) s'):
 wpAny (model X.prog X.w) X.A (newList []) (fun acc s₃=>wpAny (model X.prog X.w) X.A (newFunctionEnv scope X.env.globals (clo X.env scope.names []) [] X.env.qual none .none (some X.env)) (fun cenv s₄=>
  codeAny (model X.prog X.w) X.A (.compStart (.ListComp elt [⟨tg,iter,ifs,0⟩] scope pos) 0 itv acc {cenv with scope:=relabel scope X.env}) (RR acc cenv.locals) s₄) E s₃) E s2:=by
 obtain ⟨it,fp,tn,J,H2,rfl,I2,T,st2,f2,rd⟩:=h
 have hfp:∀b∈fp,b < s2.heap.objs.size:=fun b hb=>by
  obtain ⟨o,e,_⟩:=T.obj _ _ st2 b hb
  exact Heap.lt_size e
 refine wpAny_newObj_type (wpAny_newFunctionEnv O.cell (by intro y hy;simp at hy) (fun h₁ hns₁ hsb₁=>?_) O.kind)
 dsimp only at hns₁ hsb₁ ⊢
 generalize hH2:s2.heap.push {cls:= .type "list",dict:=none,data:= .seq ([]:List Value).toArray}=HH at hns₁ hsb₁ ⊢
 have hC:HH.objs.size=s2.heap.objs.size+1:=by rw [← hH2,Heap.size_push]
 have hDC:s2.heap.objs.size≠HH.objs.size:=by rw [hC];exact Nat.ne_of_lt (Nat.lt_succ_self _)
 have hCle:s2.heap.objs.size≤HH.objs.size:=by rw [hC];exact Nat.le_succ _
 have old:∀b o,s2.heap.get? b=some o→h₁.get? b=some o:=fun b o e=>hsb₁.extBut b o (by rw [hC];exact Nat.ne_of_lt (Nat.lt_succ_of_lt (Heap.lt_size e))) (Heap.get?_push_of_some _ (hH2▸Heap.get?_push_of_some _ e))
 have hacc:h₁.get? s2.heap.objs.size=some {cls:= .type "list",data:= .seq #[] 0}:=hsb₁.extBut _ _ hDC (Heap.get?_push_of_some _ (hH2▸Heap.get?_push_size _ rfl))
 obtain ⟨W,⟨m0,w0⟩,turn⟩:=rd ⟨s2,H2,HH.objs.size,fp⟩ s2.heap.objs.size I2.fresh
 have I3:=blk_in (t:=s2.toks+([]:List (Str×Value)).length) I2 O f2 (Nat.le_refl _) hCle hfp hDC old hacc hns₁
 rw [show xs.map (fun _=>(none:Option V))=List.replicate xs.length none from List.map_const' ..]at I3
 generalize hX:X.blk scope (xs++around X.N fs) ⟨s2,H2,HH.objs.size,fp⟩=X' at I3
 have stat:∀{H':Hp},(∀b∈fp,H' b=none)→∀b∈fp,FpOk X' [] H' b:=fun hn b hb=>by
  subst hX
  refine ⟨hn b hb,?_,?_,.inl hb,fun x c e=>?_,fun p hp=>absurd hp (by simp)⟩
  · exact (I3.ok.exf b hb).1
  · exact I3.ok.exfs b hb
  · exact (I3.ok.exf b hb).2 x c e
 have fr3:∀b∈fp,upd H2 s2.heap.objs.size (.lst []) b=none:=fun b hb=>by
  rw [upd_ne (Nat.ne_of_lt (hfp b hb))];exact (f2 b hb).1
 have ccell:∀y c,X.env.cells.lookup y=some c→c≠HH.objs.size:=fun y c e=>by
  obtain ⟨v,q⟩:=I2.cell y c e
  exact Nat.ne_of_lt (Nat.lt_of_lt_of_le q.lt hCle)
 have cloc:HH.objs.size≠X.env.locals:=(Nat.ne_of_lt (Nat.lt_of_lt_of_le I2.lt hCle)).symm
 have eP:X'.prog=X.prog:=by rw [← hX]
 have ew:X'.w=X.w:=by rw [← hX]
 have eK:X'.K=X.K:=by rw [← hX]
 have eA:X'.A=X.A:=by rw [← hX]
 have ec:X'.calm=true:=by rw [← hX];exact hc
 have ex:X'.xe=fun _ _=>False:=by rw [← hX]
 have een:X'.env=compEnvC scope (clo X.env scope.names []) HH.objs.size X.env:=by rw [← hX]
 have hg':=hg ⟨s2,H2,HH.objs.size,fp⟩
 have ht':=ht ⟨s2,H2,HH.objs.size,fp⟩
 have he':=he ⟨s2,H2,HH.objs.size,fp⟩
 rw [hX]at hg' ht' he'
 have st1:tn 0 h₁:=T.keep _ _ _ st2 fun b hb o e=>old b o e
 have loop:∀s₃:Shared,s₃={s2 with heap:=h₁,toks:=s2.toks+([]:List (Str×Value)).length}→
  codeAny (model X.prog X.w) X.A (.compLoop (.ListComp elt [⟨tg,iter,ifs,0⟩] scope pos) 0 (.ref it) (.ref s2.heap.objs.size) (compEnvC scope (clo X.env scope.names []) HH.objs.size X.env))
   (RR (.ref s2.heap.objs.size) HH.objs.size) s₃:=by
  rintro s₃ rfl
  refine compLoop_any (fun n s'=>∃i ys H',Inv X' [] (List.replicate xs.length none++fs.map fun j=>σ.getD j none) H' s'∧tn i s'.heap∧(∀b∈fp,H' b=none)∧W i n ys H') ?_ m0 ⟨0,[],_,I3,st1,fr3,w0⟩
  rintro n s4 ⟨i,ys,H4,I4,st4,fr4,w4⟩
  obtain ⟨hD4,tn4⟩:=turn i n ys H4 w4
  rcases tn4 with ⟨stop,qn⟩ | ⟨go,step⟩
  · have td:=T.done X' eP ew eK ec i [] s4 _ H4 (notedBy (model X.prog X.w) X.A (compEnvC scope (clo X.env scope.names []) HH.objs.size X.env) fun e s'=>RR (.ref s2.heap.objs.size) HH.objs.size (.error e) s') I4 (stat fr4) st4 stop
    rw [eA]at td
    refine thn td fun r s5 ⟨hr,I5⟩=>?_
    subst hr
    obtain ⟨m5,hn5,_⟩:=I5.loc
    rw [een]at hn5
    have fr5:H4 HH.objs.size=none:=by have:=I5.free;rw [een]at this;exact this
    rw [← hX]at I5
    exact hR _ _ _ m5 H4 hn5 (blk_out I2 f2 hCle I5 (Heap.SameBut.refl ..)) qn (I2.fpOk hCle fr5)
  · have ti:=T.item X' eP ew eK ec i [] s4 _ H4 (notedBy (model X.prog X.w) X.A (compEnvC scope (clo X.env scope.names []) HH.objs.size X.env) fun e s'=>RR (.ref s2.heap.objs.size) HH.objs.size (.error e) s') I4 (stat fr4) st4 go
    rw [eA]at ti
    refine thn ti fun r s5 ⟨u,hr,h5⟩=>?_
    subst hr
    refine thn h5 fun _ s6 hq_=>?_
    obtain ⟨x,H6,I6,r6,y6,st6,fr6⟩:=hq_
    have I6':=I6.pinned (stat fr6) (T.obj _ _ st6)
    have g1:=hg' _ s6 _ H6 x u _ I6' r6 (step x H6 y6)
    rw [eP,ew,eA,een,ex]at g1
    refine wpAny_mono g1 (fun _ s7 hq_=>?_) fun _ _ z=>z.elim
    obtain ⟨σ7,H7,I7,kp7,q7⟩:=hq_
    have t1:=ht' _ s7 σ7 H7 _ I7 q7
    rw [eP,ew,eA,een,ex]at t1
    have back:∀{H9:Hp} {s9:Shared},Inv X' ([]++pinsAt fp s6.heap) σ7 H9 s9→Inv X' [] (List.replicate xs.length none++fs.map fun j=>σ.getD j none) H9 s9∧tn (i+1) s9.heap∧∀b∈fp,H9 b=none:=fun {H9 s9} I9=>by
     refine ⟨I9.unpinned.weak ?_ kp7,T.keep _ _ _ st6 fun b hb o e=>(I9.pin (b,o) (List.mem_append_right _ (List.mem_append_right _ (mem_pinsAt hb e)))).1,fun b hb=>?_⟩
     · rw [I9.len,I4.len]
     · obtain ⟨o,e,d⟩:=T.obj _ _ st6 b hb
       exact (I9.pin (b,o) (List.mem_append_right _ (List.mem_append_right _ (mem_pinsAt hb e)))).2.1
    refine wpAny_mono t1 (fun ok s8 ⟨H8,I8,q8⟩=>?_) fun _ _ z=>z.elim
    cases ok with
    | false=>
     rw [if_neg Bool.false_ne_true]at q8 ⊢
     obtain ⟨m',hm,w8⟩:=q8
     obtain ⟨b1,b2,b3⟩:=back I8
     exact ⟨m',hm,i+1,ys,H8,b1,b2,b3,w8⟩
    | true=>
     rw [if_pos rfl]at q8 ⊢
     have e1:=he' _ s8 σ7 H8 _ I8 q8
     rw [eP,ew,eA,een,ex]at e1
     refine wpAny_mono e1 (fun uy s9 hq_=>?_) fun _ _ z=>z.elim
     obtain ⟨y,H9,I9,r9,hD9,hz,m',hm,w9⟩:=hq_
     have a1:=mt_append (X:=X') (pins:=[]++pinsAt fp s6.heap) (s:=s9) (σ:=σ7) (H:=H9) (x:= .ref s2.heap.objs.size) (xs:=[y]) (v:= .ref s2.heap.objs.size) (us:=[uy]) (Q:=fun _ H'=>H'=upd H9 s2.heap.objs.size (.lst (ys++[y]))) I9 rfl (.cons r9 .nil) ⟨_,ys,y,rfl,rfl,hD9,hz,rfl⟩
     rw [eP,ew,eA,ex]at a1
     refine wpAny_mono a1 (fun _ s10 hq_=>?_) fun _ _ z=>z.elim
     obtain ⟨_,H10,I10,_,e10⟩:=hq_
     subst e10
     obtain ⟨b1,b2,b3⟩:=back I10
     exact ⟨m',hm,i+1,_,_,b1,b2,b3,w9⟩
 exact codeAny_compStart_list (loop _ rfl) (T.self _ 0 _ _ _ st1 (loop _ rfl))
theorem pe_compG(hc:X.calm=true)(hok:compOkB X.N X.env.scope scope xs fs=true)(hi:PI X tg iter wi)
 (hg:∀b,PG (X.blk scope (xs++around X.N fs) b) tg (g b)) (ht:∀b,PTs (X.blk scope (xs++around X.N fs) b) ifs (tt b)) (he:∀b,PE (X.blk scope (xs++around X.N fs) b) elt (te b))
 (hs:∀x,foldedSetIterable iter X.env x=pure x:=by intro _;rfl):
 PE X (.ListComp elt [⟨tg,iter,ifs,0⟩] scope pos) (tComp wi xs.length fs g tt te):=by
 intro pins s σ H Q I h
 have O:=compOk_of hok
 rw [eval_ListComp]
 refine wpAny_comprehension_free (use:=none) rfl hs (clo_closure fun y hy hf=>I.ok.has _ (O.free y hy hf)) O.kind O.names (thn (hi pins s σ H _ I h) fun v s1 h1=>thn h1 fun itv s2 h2=>?_)
 exact comp_run (RR:=fun acc C=>compPost (model X.prog X.w) X.A X.xe none (EP X pins σ Q) acc C) hc O hg ht he h2 fun D C s' m H' hn I' q F=>⟨m,hn,fun h2 sb=>⟨.ref D,H',turned_of I' F sb,rfl,q⟩⟩
theorem ps_comp{y:Str}{py:Pos}{i:Nat}(hN:X.N.Nodup)(hy:X.N[i]?=some y)(hyl:X.env.kindOf y=some .local)(hc:X.calm=true)(hok:compOkB X.N X.env.scope scope xs fs=true)(hi:PI X tg iter wi)
 (hg:∀b,PG (X.blk scope (xs++around X.N fs) b) tg (g b)) (ht:∀b,PTs (X.blk scope (xs++around X.N fs) b) ifs (tt b)) (he:∀b,PE (X.blk scope (xs++around X.N fs) b) elt (te b)) {spos:Pos}
 (hsw:swapsWith (.ListComp elt [⟨tg,iter,ifs,0⟩] scope pos) (some (.Name y py)) spos.line X.env=pure true:=by rfl)
 (hs:∀x,foldedSetIterable iter X.env x=pure x:=by intro _;rfl):
 PS X (.Assign [.Name y py] (.ListComp elt [⟨tg,iter,ifs,0⟩] scope pos) spos) (tAsg (tComp wi xs.length fs g tt te) (gName i)):=by
 intro pins s σ H D I h
 have O:=compOk_of hok
 rw [exec_Assign_Name_used _ _ _ _ hsw]
 refine wpAny_bind (wpAny_standAt (wpAny_bind ?_))
 show wpAny _ X.A (do let _ ← comprehension (.ListComp elt [⟨tg,iter,ifs,0⟩] scope pos) scope X.env _ (newList []) false (eval iter X.env) (some (assign (.Name y py) X.env))) _ _ s
 refine wpAny_bind (wpAny_mono (wpAny_comprehension_free (use:=some (assign (.Name y py) X.env)) (Q:=fun _ s'=>SP X pins D .next s') rfl hs (clo_closure fun y hy hf=>I.ok.has _ (O.free y hy hf)) O.kind O.names
  (thn (hi pins s σ H _ I h) fun v s1 h1=>thn h1 fun itv s2 h2=>?_)) (fun _ s' hq=>wpAny_pure (wpAny_pure hq)) fun _ _ e=>e)
 refine comp_run (RR:=fun acc C=>compPost (model X.prog X.w) X.A X.xe (some (assign (.Name y py) X.env)) (fun _ s'=>SP X pins D .next s') acc C) hc O hg ht he h2 fun D' C s' m H' hn I0 q0 F=>?_
 show wpAny _ X.A (assign (.Name y py) X.env (.ref D')) _ _ _
 refine wpAny_assign_Name (store_ok2 I0 hN hy (.inl hyl) (v:= .ref D') rfl (fun s3 I3 hsb=>?_) (.inr hyl))
 obtain ⟨a,sb3,ha⟩:=hsb
 have haC:C≠a:=by
  rcases ha with rfl | ha
  · exact F.2.1
  · exact (F.2.2.2.2.1 y a ha).symm
 exact ⟨m,hn.sameBut sb3 haC,fun h4 sb4=>⟨_,H',turned_of I3 F sb4,q0⟩⟩
end
end L2
namespace L2
noncomputable def Its(z:Str):It:=⟨fun i _=>i < z.cps.size,fun i H x H'=>H'=H∧∃c,z.cps[i]?=some c∧x= .str ⟨#[c]⟩,fun i _=>z.cps.size≤i⟩
noncomputable def iStr(tl:TE):TI:=fun σ H R=>tl σ H fun x H1=>∃z,x= .str z∧R (Its z) H1
section
variable {P:Program} {w:World} {K:PySem.W.Frag} {tg:Expr}
theorem turn_str(ty:String)(hty:ty="str_ascii_iterator"∨ty="str_iterator")(z:Str)(t:Tok)(it:Addr):Turn P w K tg (Its z) [it] it (fun i h=>i≤z.cps.size∧h.IsStrIter it ty z t i) where
 mem:=by simp
 obj:=fun i h st b hb=>by
  have e:b=it:=by simpa using hb
  subst e
  obtain ⟨o,e,c,d⟩:=st.2
  exact ⟨o,e,fun v z=>by rw [d]at z;cases z⟩
 keep:=fun i h h' st k=>⟨st.1,by obtain ⟨o,e,r⟩:=st.2;exact ⟨o,k it (by simp) o e,r⟩⟩
 item:=by
  intro X hP hw hK hc i pins s σ H E I hf st hg
  subst hP hw hK
  obtain ⟨f0,f1,f2,f3,f4,f5⟩:=hf it (by simp)
  have W:Walks X.prog X.w X.A it [it] [it] z.cps.size (SignAt z) (fun i h=>h.IsStrIter it ty z t i):=by
   rcases hty with rfl | rfl
   · exact Walks.strAscii (I.ok.hd hc) it z t
   · exact Walks.strWide (I.ok.hd hc) it z t
  refine W.item i s _ _ hg st.2 fun v h' tk hv st' kk=>?_
  obtain ⟨c,u,hcc,rfl⟩:=hv
  have I1:Inv X pins σ H {s with heap:=h',toks:=tk}:=I.turned (fun b o hb e=>kk b o (by simpa using hb) e) f0 f1 f3 f4 f5
  obtain ⟨o,e,cc,d⟩:=id st'
  refine ⟨_,rfl,go_of (s:={s with heap:=h',toks:=tk}) (n:=ty) e cc d (by rcases hty with rfl | rfl <;> decide) ⟨.str ⟨#[c]⟩,H,I1,⟨u,rfl⟩,⟨rfl,c,hcc,rfl⟩,⟨hg,st'⟩,fun b hb=>(hf b hb).1⟩⟩
 done:=by
   intro X hP hw hK hc i pins s σ H E I hf st hg
   subst hP hw hK
   obtain ⟨f0,f1,f2,f3,f4,f5⟩:=hf it (by simp)
   have W:Walks X.prog X.w X.A it [it] [it] z.cps.size (SignAt z) (fun i h=>h.IsStrIter it ty z t i):=by
    rcases hty with rfl | rfl
    · exact Walks.strAscii (I.ok.hd hc) it z t
    · exact Walks.strWide (I.ok.hd hc) it z t
   have hi:i=z.cps.size:=Nat.le_antisymm st.1 hg
   subst hi
   exact W.done s _ _ st.2 fun h' tk kk=>⟨rfl,I.turned (fun b o hb e=>kk b o (by simpa using hb) e) f0 f1 f3 f4 f5⟩
 self:=fun _ _ _ _ _ st h=>by
  rcases hty with rfl | rfl
  · exact wpAny_pyIter_striter_ascii st.2 h
  · exact wpAny_pyIter_striter_wide st.2 h
end
section
variable {X:Cx} {tg:Expr}
theorem pi_str{l:Expr}{tl:TE}(hl:PE X l tl):PI X tg l (iStr tl):=by
 intro pins s σ H R I h
 refine thn (hl pins s σ H _ I h) fun v s1 hq_=>?_
 obtain ⟨x,H1,I1,r1,q1⟩:=hq_
 obtain ⟨z,e,q⟩:=q1
 subst e
 obtain ⟨t,rfl⟩:=r1
 have fin:∀ty,(ty="str_ascii_iterator"∨ty="str_iterator")→PIE X pins σ tg R (.ref s1.heap.objs.size) {s1 with heap:=s1.heap.push {cls:= .type ty,data:= .fields #[.str z t,.int 0 0]}}:=fun ty hty=>by
  refine ⟨s1.heap.objs.size,[s1.heap.objs.size],_,_,H1,rfl,I1.kept (t':=s1.toks) fun b o e=>Heap.get?_push_of_some _ e,turn_str ty hty z t _,⟨Nat.zero_le _,_,Heap.get?_push_size _ rfl,rfl,rfl⟩,fun b hb=>?_,q⟩
  have e:b=s1.heap.objs.size:=by simpa using hb
  subst e
  exact I1.fpOk (Nat.le_refl _) I1.fresh
 cases ha:z.cps.all (· < 128)
 · exact wpAny_pyIter_wide ha (fin _ (.inr rfl))
 · exact wpAny_pyIter_ascii ha (fin _ (.inl rfl))
noncomputable def rSlS:V→Option Int→Option Int→Hp→VK→Prop:=fun x lo hi H Q=>∃z,x= .str z∧z.length≤sizeLine∧Q (.str (Txt.slice z lo hi)) H
theorem sl_str:SlR X rSlS:=by
 intro pins s σ H x v vl vu lo hi sl Q I rx hs pl pu h
 obtain ⟨z,rfl,hz,q⟩:=h
 obtain ⟨t,rfl⟩:=rx
 obtain ⟨o,ho,hc,hd⟩:=hs
 refine ⟨"str",_,F.slot_str_getitem.lookup,typeIs_str _ _ _,?_⟩
 have fin:∀(l u:Option (Int×Tok)),s.heap.IsSlice sl l u none→l.map (·.1)=lo→u.map (·.1)=hi→wpAny (model X.prog X.w) X.A (getItem (.str z t) (.ref sl)) (EP X pins σ Q) X.xe s:=fun l u hsl hl hu=>by
  subst hl hu
  exact wpAny_getItem_str_slice (l:=l) (u:=u) (st:=none) hsl rfl (post_val_or_str ⟨Nat.le_trans (Txt.slice_le z _ _) hz,fun t' k=>⟨.str _,H,I.tok k,⟨t',rfl⟩,q⟩⟩)
 cases pl <;> cases pu
 · exact fin none none ⟨o,ho,hc,hd⟩ rfl rfl
 · exact fin none (some (_,_)) ⟨o,ho,hc,hd⟩ rfl rfl
 · exact fin (some (_,_)) none ⟨o,ho,hc,hd⟩ rfl rfl
 · exact fin (some (_,_)) (some (_,_)) ⟨o,ho,hc,hd⟩ rfl rfl
theorem strsAre_of:∀{ys:List Str} {us:List Value},Vals (ys.map V.str) us→StrsAre us ys
 | [],_,r=>by rw [List.map_nil]at r;cases r;exact .nil
 | y::ys,us,r=>by
  rw [List.map_cons]at r
  cases r with
  | cons r1 r2=>
   obtain ⟨t,e⟩:=r1
   subst e
   exact .cons y t (strsAre_of r2)
noncomputable def rJoin(K:PySem.W.Frag):V→List V→Hp→VK→Prop:=fun x vs H Q=>∃z p ys,x= .str z∧vs=[.ref p]∧SqL K H p (ys.map V.str)∧(ys.map (·.length)).sum+ys.length * z.length≤16777216∧Q (.str (Txt.join z ys)) H
noncomputable def rFind:V→List V→Hp→VK→Prop:=fun x vs H Q=>∃z y,x= .str z∧vs=[.str y]∧Q (.int (Txt.find z y)) H
noncomputable def rSplit:V→List V→Hp→VK→Prop:=fun x vs H Q=>∃z y,x= .str z∧vs=[.str y]∧(y.length==0)=false∧z.length+2≤sizeLine∧∀p,H p=none→Q (.ref p) (upd H p (.lst ((Txt.split z y).map V.str)))
noncomputable def rMulS:R2:=fun x y H Q=>∃z n,x= .str z∧y= .int n∧MulOk z n∧Q (.str (Txt.mul z n)) H
theorem op_mulS:OpR X (binaryOp .Mult) rMulS:=by
 intro pins s σ H x y v u Q I rx ry h
 obtain ⟨z,n,rfl,rfl,hok,q⟩:=h
 obtain ⟨t,rfl⟩:=rx
 obtain ⟨t2,rfl⟩:=ry
 exact SB.mul hok fun t' k=>⟨.str _,H,I.tok k,⟨t',rfl⟩,q⟩
noncomputable def rAll(K:PySem.W.Frag):List V→Hp→VK→Prop:=fun xs H Q=>∃(p:Addr) (bs:List Bool),xs=[.ref p]∧SqL K H p (bs.map V.bl)∧Q (.bl (bs.all id)) H
theorem call_all(hc:X.calm=true):CallR X (.builtin "all") (rAll X.K):=by
 intro pins s σ H xs us Q I r h
 obtain ⟨p,bs,rfl,hp,q⟩:=h
 obtain ⟨u,rfl,ru⟩:=vals1 r
 cases ru
 obtain ⟨its,r,pl,hz⟩:=I.list hp
 have hlt:p < s.heap.objs.size:=by obtain ⟨o,n,e,_⟩:=pl;exact Heap.lt_size e
 refine call_all_walk (wpAny_pyIter_list pl.isList ⟨s.heap.objs.size,_,_,_,_,_,fun i=>bs.getD i true,rfl,Walks.list (show X.A.in1.handled=none from I.ok.hd hc) s.heap.objs.size p (Nat.ne_of_lt hlt) its.toArray,⟨⟨_,Heap.get?_push_size _ rfl,rfl,rfl⟩,pl.isList.push _⟩,?_,fun h' tk kk=>?_⟩)
 · intro i v s' Q' E' hP hQ'
   have hP:its.toArray[i]?=some v:=hP
   have hlen:=r.length
   rw [List.length_map]at hlen
   have hi:i < bs.length:=by
    have:=(Array.getElem?_eq_some_iff.mp hP).1
    rw [List.size_toArray]at this
    omega
   obtain ⟨u,hu,ru⟩:=r.get (i:=i) (x:=V.bl (bs[i])) (by simp [hi])
   have e:u=v:=by
    have:its[i]?=some v:=by simpa using hP
    rw [hu]at this;exact Option.some.inj this
   subst e
   cases ru
   dsimp only at hQ'
   rw [List.getD_eq_getElem?_getD,List.getElem?_eq_getElem hi]at hQ'
   exact wpAny_pure hQ'
 · refine ⟨.bl _,H,I.kept (t':=tk) fun b o e=>kk b o ?_ (Heap.get?_push_of_some _ e),rfl,?_⟩
   · simpa using Nat.ne_of_lt (Heap.lt_size e)
   · have hlen:=r.length
     rw [List.length_map]at hlen
     have:((List.range its.toArray.size).all fun i=>bs.getD i true)=bs.all id:=by
      rw [List.size_toArray,← hlen]
      rw [Bool.eq_iff_iff,List.all_eq_true,List.all_eq_true]
      constructor
      · intro h x hx
        obtain ⟨i,hi,rfl⟩:=List.mem_iff_getElem.mp hx
        have:=h i (by simpa using hi)
        simpa [List.getD_eq_getElem?_getD,List.getElem?_eq_getElem hi] using this
      · intro h i hi
        have hi:i < bs.length:=by simpa using hi
        rw [List.getD_eq_getElem?_getD,List.getElem?_eq_getElem hi]
        exact h _ (List.getElem_mem hi)
     rw [this];exact q
end
noncomputable abbrev TJ:=Str→St→Hp→(Str→Hp→Prop)→Prop
noncomputable def PJ(X:Cx)(es:List Expr)(t:TJ):Prop:=
 ∀(acc:Str) (pins:List (Addr×Obj)) (s:Shared) (σ:St) (H:Hp) (Q:Str→Hp→Prop),Inv X pins σ H s→t acc σ H Q→
   Joins (model X.prog X.w) X.A X.xe (evalEach es X.env) acc (fun out s'=>∃H',Inv X pins σ H' s'∧Q out H') s
noncomputable def jNil:TJ:=fun acc _ H Q=>Q acc H
noncomputable def jCons(te:TE)(tr:TJ):TJ:=fun acc σ H Q=>te σ H fun x H1=>∃y,x= .str y∧(acc++y).length≤sizeLine∧tr (acc++y) σ H1 Q
noncomputable def tFstr(t:TJ):TE:=fun σ H Q=>t Str.empty σ H fun out H1=>out.length≤sizeLine∧Q (.str out) H1
noncomputable def tFmt(te:TE):TE:=fun σ H Q=>te σ H fun x H1=>(∃z,x= .str z∧z.length≤sizeLine∧Q (.str z) H1)∨∃i,x= .int i∧i.natAbs.log2 < 1920∧Q (.str (toString i)) H1
noncomputable def tFmtR(te:TE):TE:=fun σ H Q=>te σ H fun x H1=>∃z,x= .str z∧(PySem.reprText z).length≤sizeLine∧Q (.str (PySem.reprText z)) H1
section
variable {X:Cx} {e v₁ v₂:Expr} {es:List Expr} {te:TE} {tr t:TJ} {pos:Pos}
theorem pj_nil:PJ X [] jNil:=fun _ _ _ _ H _ I h=>⟨H,I,h⟩
theorem pj_cons(he:PE X e te)(hr:PJ X es tr):PJ X (e::es) (jCons te tr):=by
 intro acc pins s σ H Q I h
 refine thn (he pins s σ H _ I h) fun v s1 hq_=>?_
 obtain ⟨x,H1,I1,r1,y,ex,hz,q⟩:=hq_
 subst ex
 obtain ⟨t,rfl⟩:=r1
 exact ⟨y,t,rfl,hz,hr _ pins s1 σ H1 Q I1 q⟩
theorem Joins.mono{M:Model}{A:Around}{E:Value→Shared→Prop}{Q Q':Str→Shared→Prop}(h:∀o s,Q o s→Q' o s):∀{parts:List (Sem Value)} {acc:Str} {s:Shared},Joins M A E parts acc Q s→Joins M A E parts acc Q' s
 | [],_,_,q=>h _ _ q
 | _::_,_,_,q=>wpAny_mono q (fun v s1 ⟨y,t,e,hz,r⟩=>⟨y,t,e,hz,Joins.mono h r⟩) fun _ _ x=>x
theorem pe_fstr(h:PJ X (v₁::v₂::es) t):PE X (.JoinedStr (v₁::v₂::es) pos) (tFstr t):=by
 intro pins s σ H Q I hq
 refine wpAny_JoinedStr (Joins.mono (fun o s1 hq_=>?_) (h Str.empty pins s σ H _ I hq))
 obtain ⟨H1,I1,hz,q⟩:=hq_
 exact ⟨hz,.str o,H1,I1.tok _,⟨_,rfl⟩,q⟩
theorem pe_fmt(h:PE X e te):PE X (.FormattedValue e (-1) none pos) (tFmt te):=by
 intro pins s σ H Q I hq
 refine wpAny_FormattedValue_plain (thn (h pins s σ H _ I hq) fun v s1 hq_=>?_)
 obtain ⟨x,H1,I1,r1,q⟩:=hq_
 rcases q with ⟨z,rfl,hz,q⟩ | ⟨i,rfl,hz,q⟩
 · obtain ⟨t,rfl⟩:=r1
   exact wpAny_formatField_str ⟨.str z,H1,I1,⟨_,rfl⟩,q⟩ ⟨.str z,H1,I1.tok _,⟨_,rfl⟩,q⟩ hz
 · obtain ⟨t,rfl⟩:=r1
   exact wpAny_formatField_int hz ⟨.str _,H1,I1.tok _,⟨_,rfl⟩,q⟩
end
end L2
namespace L2
noncomputable abbrev tComp1(wi:TI)(fs:List Nat)(te:Blk→TE):TE:=tComp wi 1 fs (fun _=>gName 0) (fun _=>tYes) te
section
variable {X:Cx} {scope:Scope} {x:Str} {px:Pos} {fs:List Nat} {elt iter:Expr} {pos:Pos} {wi:TI} {te:Blk→TE}
theorem pg_own(hok:compOkB X.N X.env.scope scope [x] fs=true)(b:Blk):PG (X.blk scope ([x]++around X.N fs) b) (.Name x px) (gName 0):=
 pg_name (compOk_of hok).nd rfl (.inl (lookup_relabel_local ((compOk_of hok).own x (by simp)))) (.inr (lookup_relabel_local ((compOk_of hok).own x (by simp))))
theorem pe_comp1(x:Str)(fs:List Nat)(hc:X.calm=true)(hok:compOkB X.N X.env.scope scope [x] fs=true)(hi:PI X (.Name x px) iter wi)(he:∀b,PE (X.blk scope ([x]++around X.N fs) b) elt (te b))
 (hs:∀x,foldedSetIterable iter X.env x=pure x:=by intro _;rfl):PE X (.ListComp elt [⟨.Name x px,iter,[],0⟩] scope pos) (tComp1 wi fs te):=
 pe_compG (xs:=[x]) (g:=fun _=>gName 0) (tt:=fun _=>tYes) hc hok hi (pg_own hok) (fun _=>pts_nil) he hs
theorem ps_comp1{y:Str}{py:Pos}{i:Nat}{spos:Pos}(x:Str)(fs:List Nat)(hN:X.N.Nodup)(hy:X.N[i]?=some y)(hyl:X.env.kindOf y=some .local)(hc:X.calm=true)(hok:compOkB X.N X.env.scope scope [x] fs=true)(hi:PI X (.Name x px) iter wi)(he:∀b,PE (X.blk scope ([x]++around X.N fs) b) elt (te b))
 (hsw:swapsWith (.ListComp elt [⟨.Name x px,iter,[],0⟩] scope pos) (some (.Name y py)) spos.line X.env=pure true:=by rfl)
 (hs:∀x,foldedSetIterable iter X.env x=pure x:=by intro _;rfl):PS X (.Assign [.Name y py] (.ListComp elt [⟨.Name x px,iter,[],0⟩] scope pos) spos) (tAsg (tComp1 wi fs te) (gName i)):=
 ps_comp (xs:=[x]) (g:=fun _=>gName 0) (tt:=fun _=>tYes) hN hy hyl hc hok hi (pg_own hok) (fun _=>pts_nil) he hsw hs
end
theorem kept0{x:Option V}{r:St}:Kept (none::r) (x::r):=fun i v e=>by
 cases i with
 | zero=>cases e
 | succ i=>exact e
section
variable {K:PySem.W.Frag} {tail:St} {te:Blk→TE} {Q:VK} {H1:Hp}
noncomputable def CompNext(D:Addr)(n i:Nat)(ys:List V)(Pv:Nat→List V→Hp→Prop):VK:=fun y H4=>H4 D=some (.lst ys)∧ys.length < sizeLine∧∃m',m' < n - i∧(m'=n - (i+1)∧i+1≤n∧Pv (i+1) (ys++[y]) (upd H4 D (.lst (ys++[y]))))
theorem compNext{D:Addr}{n i:Nat}{ys:List V}{Pv:Nat→List V→Hp→Prop}{y:V}{H4:Hp}(h1:H4 D=some (.lst ys))(h2:ys.length < sizeLine)(h3:i < n)(h4:Pv (i+1) (ys++[y]) (upd H4 D (.lst (ys++[y])))):CompNext D n i ys Pv y H4:=
 ⟨h1,h2,n - (i+1),by omega,rfl,h3,h4⟩
theorem comp_by{J:It}(n:Nat)
 (h:∀(b:Blk) (D:Addr),H1 D=none→∃Pv:Nat→List V→Hp→Prop,Pv 0 [] (upd H1 D (.lst []))∧(∀i ys H,Pv i ys H→H D=some (.lst ys))∧(∀ys H,Pv n ys H→J.stop n H∧Q (.ref D) H)∧
  ∀i ys H,i < n→Pv i ys H→J.go i H∧∀x H3,J.yld i H x H3→te b (some x::tail) H3 (CompNext D n i ys Pv)):CompTail (none::tail) (fun _=>gName 0) (fun _=>tYes) te Q J H1:=by
 intro b D hD
 obtain ⟨Pv,p0,p1,p2,p3⟩:=h b D hD
 refine ⟨fun i m ys H=>m=n - i∧i≤n∧Pv i ys H,⟨n,rfl,Nat.zero_le _,p0⟩,?_⟩
 rintro i m ys H ⟨rfl,hi,p⟩
 refine ⟨p1 i ys H p,?_⟩
 by_cases hlt:i < n
 · obtain ⟨go,st⟩:=p3 i ys H hlt p
   refine .inr ⟨go,fun x H3 y=>⟨kept0,?_⟩⟩
   exact st x H3 y
 · have e:i=n:=by omega
   subst e
   exact .inl (p2 ys H p)
theorem same_new{D:Addr}{o:HO}(h:H1 D=none):Same H1 (upd H1 D o):=fun b u e=>by rw [upd_ne (ne_of_none e h)];exact e
theorem compS_pure{z:Str}(f:Nat→V)(hz:z.cps.size≤sizeLine)(he:∀b c H Q',c∈z.cps.toList→Same H1 H→Q' (f c) H→te b (some (.str ⟨#[c]⟩)::tail) H Q')
 (q:∀D,H1 D=none→Q (.ref D) (upd H1 D (.lst (z.cps.toList.map f)))):CompTail (none::tail) (fun _=>gName 0) (fun _=>tYes) te Q (Its z) H1:=by
 refine comp_by z.cps.size (fun b D hD=>⟨fun i ys H=>i≤z.cps.size∧ys=(z.cps.toList.take i).map f∧H=upd H1 D (.lst ys),⟨Nat.zero_le _,rfl,rfl⟩,?_,?_,?_⟩)
 · rintro i ys H ⟨hi,rfl,rfl⟩
   exact upd_same
 · rintro ys H ⟨_,rfl,rfl⟩
   refine ⟨Nat.le_refl _,?_⟩
   have e:z.cps.toList.take z.cps.size=z.cps.toList:=List.take_of_length_le (by simp)
   rw [e];exact q D hD
 · rintro i ys H hi ⟨_,rfl,rfl⟩
   refine ⟨hi,fun x H3 ⟨e3,c,hc,ex⟩=>?_⟩
   subst e3 ex
   have hc':z.cps.toList[i]?=some c:=by simpa using hc
   refine he b c _ _ (List.mem_of_getElem? hc') (same_new hD) (compNext upd_same (by rw [List.length_map,List.length_take,Array.length_toList];omega) hi ⟨hi,?_,?_⟩)
   · rw [List.take_add_one,hc'];simp
   · funext a;by_cases ha:a=D <;> simp [upd,ha]
theorem compL_pure{a:Addr}{xs:List V}(f:V→V)(hS:SqL K H1 a xs)(hz:xs.length≤sizeLine)(he:∀b x H Q',x∈xs→Same H1 H→Q' (f x) H→te b (some x::tail) H Q')
 (q:∀D,H1 D=none→Q (.ref D) (upd H1 D (.lst (xs.map f)))):CompTail (none::tail) (fun _=>gName 0) (fun _=>tYes) te Q (Itl K a) H1:=by
 refine comp_by xs.length (fun b D hD=>⟨fun i ys H=>i≤xs.length∧ys=(xs.take i).map f∧H=upd H1 D (.lst ys),⟨Nat.zero_le _,rfl,rfl⟩,?_,?_,?_⟩)
 · rintro i ys H ⟨hi,rfl,rfl⟩
   exact upd_same
 · rintro ys H ⟨_,rfl,rfl⟩
   refine ⟨⟨xs,(same_new hD).seq hS,Nat.le_refl _⟩,?_⟩
   rw [List.take_length];exact q D hD
 · rintro i ys H hi ⟨_,rfl,rfl⟩
   refine ⟨⟨xs,xs[i],(same_new hD).seq hS,by simp [hi]⟩,fun x H3 ⟨e3,ex⟩=>?_⟩
   subst e3
   have hc':=ex xs ((same_new hD).seq hS)
   refine he b x _ _ (List.mem_of_getElem? hc') (same_new hD) (compNext upd_same (by rw [List.length_map,List.length_take];omega) hi ⟨hi,?_,?_⟩)
   · rw [List.take_add_one,hc'];simp
   · funext a;by_cases ha:a=D <;> simp [upd,ha]
end
section
variable {σ:St} {H:Hp} {Q:VK} {D:Ends} {K:PySem.W.Frag}
theorem rd_comp{wi:TI}{fs:List Nat}{te:Blk→TE}:tComp1 wi fs te σ H Q=wi σ H (CompTail (none::fs.map fun j=>σ.getD j none) (fun _=>gName 0) (fun _=>tYes) te Q):=rfl
theorem rd_istr{tl:TE}{R:It→Hp→Prop}:iStr tl σ H R=tl σ H fun x H1=>∃z,x= .str z∧R (Its z) H1:=rfl
theorem rd_sl{r:V→Option Int→Option Int→Hp→VK→Prop}{te:TE}{tl th:TO}:tSl r te tl th σ H Q=te σ H fun x H1=>tl σ H1 fun l H2=>th σ H2 fun u H3=>r x l u H3 Q:=rfl
theorem rd_noPart{QO:Option Int→Hp→Prop}:tNoPart σ H QO=QO none H:=rfl
theorem rd_part{t:TE}{QO:Option Int→Hp→Prop}:tPart t σ H QO=t σ H fun x H1=>∃i,x= .int i∧QO (some i) H1:=rfl
theorem rd_slS{x:V}{lo hi:Option Int}:rSlS x lo hi H Q=∃z,x= .str z∧z.length≤sizeLine∧Q (.str (Txt.slice z lo hi)) H:=rfl
theorem rd_slL{x:V}{lo hi:Option Int}:rSlL K x lo hi H Q=∃a xs,x= .ref a∧SqL K H a xs∧∀p,H p=none→Q (.ref p) (upd H p (.lst (cutV xs lo hi))):=rfl
theorem rd_bm{T:String}{r:V→List V→Hp→VK→Prop}{to:TE}{t:TA}:tBM K T r to t σ H Q=to σ H fun x H1=>tyV K T x H1∧t σ H1 fun xs H2=>r x xs H2 Q:=rfl
theorem rd_bm0{T:String}{r:V→List V→Hp→VK→Prop}{to:TE}:tBM0 K T r to σ H Q=to σ H fun x H1=>tyV K T x H1∧r x [] H1 Q:=rfl
theorem tyV_str{z:Str}:tyV K "str" (.str z) H=True:=eq_true rfl
theorem rd_join{x:V}{vs:List V}:rJoin K x vs H Q=∃z p ys,x= .str z∧vs=[.ref p]∧SqL K H p (ys.map V.str)∧(ys.map (·.length)).sum+ys.length * z.length≤16777216∧Q (.str (Txt.join z ys)) H:=rfl
theorem rd_find{x:V}{vs:List V}:rFind x vs H Q=∃z y,x= .str z∧vs=[.str y]∧Q (.int (Txt.find z y)) H:=rfl
theorem rd_split{x:V}{vs:List V}:rSplit x vs H Q=∃z y,x= .str z∧vs=[.str y]∧(y.length==0)=false∧z.length+2≤sizeLine∧∀p,H p=none→Q (.ref p) (upd H p (.lst ((Txt.split z y).map V.str))):=rfl
theorem rd_all{xs:List V}:rAll K xs H Q=∃(p:Addr) (bs:List Bool),xs=[.ref p]∧SqL K H p (bs.map V.bl)∧Q (.bl (bs.all id)) H:=rfl
theorem rd_mulS{x y:V}:rMulS x y H Q=∃z n,x= .str z∧y= .int n∧MulOk z n∧Q (.str (Txt.mul z n)) H:=rfl
theorem rd_jnil{acc:Str}{QS:Str→Hp→Prop}:jNil acc σ H QS=QS acc H:=rfl
theorem rd_jcons{te:TE}{tr:TJ}{acc:Str}{QS:Str→Hp→Prop}:jCons te tr acc σ H QS=te σ H fun x H1=>∃y,x= .str y∧(acc++y).length≤sizeLine∧tr (acc++y) σ H1 QS:=rfl
theorem rd_fstr{t:TJ}:tFstr t σ H Q=t Str.empty σ H fun out H1=>out.length≤sizeLine∧Q (.str out) H1:=rfl
theorem rd_fmtR{te:TE}:tFmtR te σ H Q=te σ H fun x H1=>∃z,x= .str z∧(PySem.reprText z).length≤sizeLine∧Q (.str (PySem.reprText z)) H1:=rfl
theorem rd_fmt{te:TE}:tFmt te σ H Q=te σ H fun x H1=>(∃z,x= .str z∧z.length≤sizeLine∧Q (.str z) H1)∨∃i,x= .int i∧i.natAbs.log2 < 1920∧Q (.str (toString i)) H1:=rfl
theorem rd_dnewK:tDNewK σ H Q=∀p,H p=none→Q (.ref p) (upd H p (.dK [])):=rfl
theorem ixS_of{z:Str}{i:Int}{c:Nat}(hz:z.length≤sizeLine)(e:atI z.cps.toList i=some c)(q:Q (.str ⟨#[c]⟩) H):rIxS (.str z) (.int i) H Q:=⟨z,i,c,rfl,rfl,hz,e,q⟩
theorem blk_K{X:Cx}{scope:Scope}{N':List Str}{b:Blk}:(X.blk scope N' b).K=X.K:=rfl
end
section
variable {X:Cx} {x:Str} {pos:Pos}
theorem pe_gint{i:Int}(hg:Gl X x)(hm:∃t,X.mg x=some (.int i t))(hd:(x==("__debug__":Str))=false:=by decide):PE X (.Name x pos) (tC (.int i)):=by
 obtain ⟨t,hm⟩:=hm
 exact pe_glob hg hm ⟨t,rfl⟩ hd
theorem pe_gstr{z:Str}(hg:Gl X x)(hm:∃t,X.mg x=some (.str z t))(hd:(x==("__debug__":Str))=false:=by decide):PE X (.Name x pos) (tC (.str z)):=by
 obtain ⟨t,hm⟩:=hm
 exact pe_glob hg hm ⟨t,rfl⟩ hd
end
theorem line_val:sizeLine=16777216:=by decide
theorem len_app{a b:Str}:(a++b).length=a.length+b.length:=strLen_append a b
theorem len_one{c:Nat}:(⟨#[c]⟩:Str).length=1:=rfl
theorem str_len{z:Str}:z.cps.toList.length=z.length:=by simp [Str.length]
theorem app_list{a b:Str}:(a++b).cps.toList=a.cps.toList++b.cps.toList:=by
 show (a.cps++b.cps).toList=_
 simp
theorem script_go{K:PySem.W.Frag}{H:Hp}{a:Addr}{ns:List Int}{R:List Int→Prop}(h:SqL K H a (ns.map V.int))(hl:ns.length≤63)(q:R ns):∃x:List Int,SqL K H a (x.map V.int)∧x.length≤63∧R x:=⟨ns,h,hl,q⟩
noncomputable def hasS(z y:Str):Bool:=!(Builtin.Str.occurrences z y 0 z.length 1).isEmpty
theorem hasS_one{z:Str}{c:Nat}:hasS z ⟨#[c]⟩=decide (c∈z.cps.toList):=StrLaws.found_one z c
noncomputable def rInS:R2:=fun x y H Q=>∃i j,x= .str i∧y= .str j∧Q (.bl (hasS j i)) H
noncomputable def rNotInS:R2:=fun x y H Q=>∃i j,x= .str i∧y= .str j∧Q (.bl (!hasS j i)) H
theorem op_inS{X:Cx}:OpR X (compareOp .In) rInS:=op_in_str
theorem rd_inS{x y:V}{H:Hp}{Q:VK}:rInS x y H Q=∃i j,x= .str i∧y= .str j∧Q (.bl (hasS j i)) H:=rfl
theorem rd_notinS{x y:V}{H:Hp}{Q:VK}:rNotInS x y H Q=∃i j,x= .str i∧y= .str j∧Q (.bl (!hasS j i)) H:=rfl
theorem at_0{α:Type}{c:α}{r:List α}:atI (c::r) 0=some c:=atI_of (by decide) rfl
end L2
namespace L2
noncomputable def flatEq(xs ys:List V):Bool:=match xs,ys with
 | [],[]=>true
 | x::xs,y::ys=>eqV x y && flatEq xs ys
 | _,_=>false
theorem flatEq_len:∀{xs ys:List V},xs.length≠ys.length→flatEq xs ys=false
 | [],[],h=>absurd rfl h
 | [],_::_,_=>rfl
 | _::_,[],_=>rfl
 | x::xs,y::ys,h=>by
  unfold flatEq
  rw [flatEq_len (fun e=>h (by simp [e])),Bool.and_false]
theorem flatEq_all:∀{xs ys:List V},xs.length=ys.length→flatEq xs ys=(List.range xs.length).all fun i=>eqV (xs.getD i .non) (ys.getD i .non)
 | [],[],_=>rfl
 | [],_::_,h=>by cases h
 | _::_,[],h=>by cases h
 | x::xs,y::ys,h=>by
  unfold flatEq
  rw [flatEq_all (by simpa using h),List.length_cons,List.range_succ_eq_map,List.all_cons,List.all_map]
  rfl
theorem eqV_str{x y:Str}:eqV (.str x) (.str y)=decide (x=y):=rfl
theorem flatEq_strs:∀{xs ys:List Str},flatEq (xs.map V.str) (ys.map V.str)=decide (xs=ys)
 | [],[]=>rfl
 | [],_::_=>rfl
 | _::_,[]=>rfl
 | x::xs,y::ys=>by
  show (eqV (.str x) (.str y) && flatEq (xs.map V.str) (ys.map V.str))=_
  rw [flatEq_strs,eqV_str]
  by_cases h:x=y
  · subst h;simp
  · simp [h]
noncomputable def EqQ(K:PySem.W.Frag)(H:Hp)(x y:V)(r:Bool):Prop:=∃a b xs ys,x= .ref a∧y= .ref b∧((SqL K H a xs∧SqL K H b ys)∨(SqT K H a xs∧SqT K H b ys))∧xs.all flatV=true∧ys.all flatV=true∧r=flatEq xs ys
section
variable {X:Cx} {pins:List (Addr×Obj)} {σ:St} {H:Hp} {s:Shared}
theorem flat_items{xs ys:List V}{us ws:List Value}{A:Around}(rx:Vals xs us)(ry:Vals ys ws)(fx:xs.all flatV=true)(fy:ys.all flatV=true):
 ∀j (h1:j < us.toArray.size) (h2:j < ws.toArray.size),SeqAt.EqAt A s us.toArray[j] ws.toArray[j] (eqV (xs.getD j .non) (ys.getD j .non)):=by
 intro j h1 h2
 have lx:=rx.length
 have ly:=ry.length
 rw [List.size_toArray]at h1 h2
 have hx:j < xs.length:=by omega
 have hy:j < ys.length:=by omega
 obtain ⟨u,hu,ru⟩:=rx.get (i:=j) (x:=xs[j]) (by simp [hx])
 obtain ⟨w,hw,rw'⟩:=ry.get (i:=j) (x:=ys[j]) (by simp [hy])
 have eu:us.toArray[j]=u:=by
  have:=List.getElem?_eq_getElem h1
  rw [this]at hu
  simpa using hu
 have ew:ws.toArray[j]=w:=by
  have:=List.getElem?_eq_getElem h2
  rw [this]at hw
  simpa using hw
 rw [eu,ew,List.getD_eq_getElem?_getD,List.getD_eq_getElem?_getD,List.getElem?_eq_getElem hx,List.getElem?_eq_getElem hy]
 exact eqAt_V ru rw' (List.all_eq_true.mp fx _ (List.getElem_mem hx)) (List.all_eq_true.mp fy _ (List.getElem_mem hy))
theorem eqQ_ne{x y:V}{u v:Value}{r:Bool}{A:Around}(I:Inv X pins σ H s)(rx:RelV x u)(ry:RelV y v)(h:EqQ X.K H x y r)(hu:A.units < cLine):SeqAt.RcNeAt A s u v (!r):=by
 obtain ⟨a,b,xs,ys,rfl,rfl,hq,fx,fy,rfl⟩:=h
 cases rx
 cases ry
 rcases hq with ⟨h1,h2⟩ | ⟨h1,h2⟩
 · obtain ⟨us,r1,p1,z1⟩:=I.list h1
   obtain ⟨ws,r2,p2,z2⟩:=I.list h2
   have lx:=r1.length
   have ly:=r2.length
   by_cases hl:xs.length=ys.length
   · rw [flatEq_all hl]
     have:=SeqAt.RcNeAt.lists p1.isList p2.isList (by simp;omega) hu (flat_items r1 r2 fx fy)
     rw [List.size_toArray,← lx]at this
     exact this
   · rw [flatEq_len hl]
     exact SeqAt.RcNeAt.lists_lengths p1.isList p2.isList (by simp;omega) hu
 · obtain ⟨us,r1,p1,z1⟩:=I.tuple h1
   obtain ⟨ws,r2,p2,z2⟩:=I.tuple h2
   have lx:=r1.length
   have ly:=r2.length
   have:=SeqAt.RcNeAt.tuples (show s.heap.IsTuple a us.toArray from p1) (show s.heap.IsTuple b ws.toArray from p2) hu (flat_items r1 r2 fx fy)
   rw [List.size_toArray,List.size_toArray,← lx,← ly]at this
   by_cases hl:xs.length=ys.length
   · rw [flatEq_all hl]
     rw [hl,Nat.min_self,beq_self_eq_true,Bool.and_true]at this
     rw [hl];exact this
   · rw [flatEq_len hl]
     rw [beq_eq_false_iff_ne.mpr hl,Bool.and_false]at this
     exact this
noncomputable def rEqQ(K:PySem.W.Frag):R2:=fun x y H Q=>∃r,EqQ K H x y r∧Q (.bl r) H
noncomputable def rNeQ(K:PySem.W.Frag):R2:=fun x y H Q=>∃r,EqQ K H x y r∧Q (.bl (!r)) H
theorem op_neQ{k:Nat}(hr:Room k X.A):OpR X (compareOp .NotEq) (rNeQ X.K):=by
 intro pins s σ H x y v u Q I rx ry h
 obtain ⟨r,e,q⟩:=h
 exact eqQ_ne I rx ry e (Nat.lt_of_le_of_lt (by omega) hr.un) X.prog X.w X.xe _ ⟨.bl (!r),H,I,rfl,q⟩
end
section
variable {K:PySem.W.Frag} {H:Hp} {Q:VK} {x y:V}
theorem rd_eqQ:rEqQ K x y H Q=∃r,EqQ K H x y r∧Q (.bl r) H:=rfl
theorem rd_neQ:rNeQ K x y H Q=∃r,EqQ K H x y r∧Q (.bl (!r)) H:=rfl
theorem all_strs{xs:List Str}:(xs.map V.str).all flatV=true:=by
 rw [List.all_map]
 exact List.all_eq_true.mpr fun _ _=>rfl
theorem eqQ_strs{a b:Addr}{xs ys:List Str}(h1:SqL K H a (xs.map V.str))(h2:SqL K H b (ys.map V.str)):EqQ K H (.ref a) (.ref b) (decide (xs=ys)):=⟨a,b,_,_,rfl,rfl,.inl ⟨h1,h2⟩,all_strs,all_strs,flatEq_strs.symm⟩
end
end L2
namespace L2
structure TryB where
 pn:List (Addr×Obj)
 xe:Value→Shared→Prop
 EE:St→XK
noncomputable def tTryV(tb:TryB→TS)(th:TH):TS:=fun D σ H=>∀(pn:List (Addr×Obj)) (xe:Value→Shared→Prop),tb ⟨pn,xe,fun σ' cls ox H'=>∃x,ox=some x∧th cls x D σ' H'⟩ D σ H
noncomputable def hClsV(K:PySem.W.Frag)(c:Value)(ts:Addr→TS)(tr:TH):TH:=fun cls x D σ H=>∃b,PySem.W.exmOne K cls c=some b∧if b=true then ts x D σ H else tr cls x D σ H
noncomputable def hAsV(K:PySem.W.Frag)(c:Value)(i:Nat)(ts:Addr→TS)(tr:TH):TH:=fun cls x D σ H=>∃b,PySem.W.exmOne K cls c=some b∧if b=true then ts x (endsAs i D) (σ.set i (some (.ref x))) (upd H x (excO x cls)) else tr cls x D σ H
section
variable {σ:St} {H:Hp} {D:Ends} {K:PySem.W.Frag}
theorem rd_tryV{tb:TryB→TS}{th:TH}:tTryV tb th D σ H=∀(pn:List (Addr×Obj)) (xe:Value→Shared→Prop),tb ⟨pn,xe,fun σ' cls ox H'=>∃x,ox=some x∧th cls x D σ' H'⟩ D σ H:=rfl
theorem rd_hclsV{c cls:Value}{x:Addr}{ts:Addr→TS}{tr:TH}:hClsV K c ts tr cls x D σ H=∃b,PySem.W.exmOne K cls c=some b∧if b=true then ts x D σ H else tr cls x D σ H:=rfl
theorem rd_hasV{c cls:Value}{i:Nat}{x:Addr}{ts:Addr→TS}{tr:TH}:hAsV K c i ts tr cls x D σ H=∃b,PySem.W.exmOne K cls c=some b∧if b=true then ts x (endsAs i D) (σ.set i (some (.ref x))) (upd H x (excO x cls)) else tr cls x D σ H:=rfl
theorem tryX_K{X:Cx}{pn:List (Addr×Obj)}{xe:Value→Shared→Prop}:(X.tryX pn xe).K=X.K:=rfl
theorem sui_K{X:Cx}{x:Addr}:(X.sui x).K=X.K:=rfl
end
end L2
namespace L2
structure DefM(P:Program)(w:World)(K:PySem.W.Frag)(mg:Str→Option Value)(base:Heap)(CX:CXT)(k:Nat)(C:Addr)(m:Str)(ps:List Str)(sp:Sp):Prop where
 ex:∃(f:Addr) (fd:FuncData),FnOk P w K mg base CX k f fd ps sp∧Meth K C m f∧Binds K fd ps []
structure DefI(P:Program)(w:World)(K:PySem.W.Frag)(mg:Str→Option Value)(base:Heap)(CX:CXT)(k:Nat)(x:Str)(C:Addr)(ps:List Str)(sp:Sp):Prop where
 ex:∃(f:Addr) (fd:FuncData),FnOk P w K mg base CX k f fd ps sp∧Mk K C f∧mg x=some (.ref C)∧Binds K fd ps []
noncomputable def tMethE(C:Addr)(m:Str)(sp:Sp)(EE:St→XK)(ta:TE)(t:TA):TE:=fun σ H Q=>ta σ H fun x H1=>∃a dx fs,x= .ref a∧H1 a=some (.ins C dx fs)∧fs.lookup m=none∧t σ H1 fun vs H2=>sp (x::vs) H2 Q (EE σ)
noncomputable def tMakeE(C:Addr)(sp:Sp)(EE:St→XK)(t:TA):TE:=fun σ H Q=>t σ H fun vs H1=>∀x dx,H1 x=none→H1 dx=none→dx≠x→sp (.ref x::vs) (upd (upd H1 dx (.own x)) x (.ins C dx [])) (fun v H2=>v= .non∧Q (.ref x) H2) (EE σ)
section
variable {X:Cx} {CX:CXT} {k j:Nat} {f C:Addr} {fd:FuncData} {ps:List Str} {sp:Sp} {EE:St→XK} {E:XK} {x m:Str} {p pos apos:Pos} {e o:Expr} {es:List Expr} {ta:TE} {t:TA}
theorem passS(h:Passes CX X E):PassesS CX X fun _=>E:=fun pins σ H s e s' I hc=>h pins σ H s e s' I hc
theorem run_fnS{pins:List (Addr×Obj)}{σ:St}{H:Hp}{s:Shared}{Q:VK}{us:List Value}{vs:List V}(F:FnOk X.prog X.w X.K X.mg X.base CX k f fd ps sp)(hr:Room k X.A)(hb:Binds X.K fd ps [])(hx:PassesS CX X EE)
 (I:Inv X pins σ H s) (r:Vals vs us) (h:sp vs H Q (EE σ)):wpAny (model X.prog X.w) X.A (call (.ref f) us) (EP X pins σ Q) X.xe s:=by
 have hl:us.length=ps.length:=by rw [← r.length];exact F.len _ _ _ _ h
 have hb':=hb s us I.kIn (by simpa using hl)
 rw [List.append_nil]at hb'
 refine wpAny_call (codeAny_mono (F.run X.A X.stack s H ⟨us,[]⟩ us vs Q (EE σ) hr I.env0 hb' r h) fun r s' hq=>?_)
 cases r with
 | error e=>exact hx pins σ H s e s' I hq
 | ok fl=>
  cases fl with
  | ret u=>exact I.after hq
  | next=>exact False.elim hq
  | brk=>exact False.elim hq
  | cont=>exact False.elim hq
theorem pe_methS{pl:Sem Bool}(D:DefM X.prog X.w X.K X.mg X.base CX j C m ps sp)(c:Cls X.K C)(hr:Room k X.A)(hx:PassesS CX X EE)(he:PE X o ta)(ha:PA X (e::es) t)(hj:j≤k:=by decide)
 (hst:starEach (e::es) X.env=(false,eval e X.env)::starEach es X.env:=by rfl) (hpl:(backTo pos (starEach es X.env)).any (·.1)=false:=by rfl)
 (ht:eval (.Call (.Attribute o m apos) (e::es) [] pos) X.env=(do
  let ov ← eval o X.env
  standAt apos.atName
  let (f,first) ← holding [ov] (getMethod ov m pl)
  callWith pos f first (backTo pos (starEach (e::es) X.env)) (backToKw pos (keywordEach [] X.env))):=by rfl):
 PE X (.Call (.Attribute o m apos) (e::es) [] pos) (tMethE C m sp EE ta t):=by
 obtain ⟨f,fd,F,hm,hb⟩:=D.ex
 intro pins s σ H Q I h
 refine PySem.W.methodCall_KW (pl:=pl) (thn (he pins s σ H _ I h) fun u s1 hq_=>?_) ht
 obtain ⟨x,H1,I1,rx,a,dx,fs,ex,ea,l,q⟩:=hq_
 subst ex
 obtain rfl:u=Value.ref a:=rx
 refine getmeth_ok I1 ea c hm l ?_
 refine PySem.W.callWith_K (first:=[.ref a]) (h₀:=X.base) I.ok.mod.kin hm.kp (thn (ha pos pins s1 σ H1 _ I1 q) fun us s2 ⟨vs,H2,I2,r,q2⟩=>⟨I2.kIn,?_⟩) hst hpl
 exact run_fnS (us:= .ref a::us) (vs:= .ref a::vs) (F.mono hj) hr hb hx I2 (.cons rfl r) q2
theorem pe_methS0{pl:Sem Bool}(D:DefM X.prog X.w X.K X.mg X.base CX j C m ps sp)(c:Cls X.K C)(hr:Room k X.A)(hx:PassesS CX X EE)(he:PE X o ta)(hj:j≤k:=by decide)
 (ht:eval (.Call (.Attribute o m apos) [] [] pos) X.env=(do
  let ov ← eval o X.env
  standAt apos.atName
  let (f,first) ← holding [ov] (getMethod ov m pl)
  callWith pos f first (backTo pos (starEach [] X.env)) (backToKw pos (keywordEach [] X.env))):=by rfl):
 PE X (.Call (.Attribute o m apos) [] [] pos) (tMethE C m sp EE ta tNil):=by
 obtain ⟨f,fd,F,hm,hb⟩:=D.ex
 intro pins s σ H Q I h
 refine PySem.W.methodCall_KW (pl:=pl) (thn (he pins s σ H _ I h) fun u s1 hq_=>?_) ht
 obtain ⟨x,H1,I1,rx,a,dx,fs,ex,ea,l,q⟩:=hq_
 subst ex
 obtain rfl:u=Value.ref a:=rx
 refine getmeth_ok I1 ea c hm l ?_
 exact PySem.W.callWith_K0 (first:=[.ref a]) I1.kIn hm.kp (run_fnS (us:=[.ref a]) (vs:=[.ref a]) (F.mono hj) hr hb hx I1 (.cons rfl .nil) q)
theorem pe_makeS(D:DefI X.prog X.w X.K X.mg X.base CX j x C ps sp)(hr:Room k X.A)(hg:Gl X x)(hx:PassesS CX X EE)(ha:PA X (e::es) t)(hj:j+1≤k:=by decide)(hdb:(x==("__debug__":Str))=false:=by decide)
 (he:starEach (e::es) X.env=(false,eval e X.env)::starEach es X.env:=by rfl) (hpl:(backTo pos (starEach es X.env)).any (·.1)=false:=by rfl):
 PE X (.Call (.Name x p) (e::es) [] pos) (tMakeE C sp EE t):=by
 obtain ⟨f,fd,F,M,hm,hb⟩:=D.ex
 intro pins s0 σ H0 Q I0 h
 refine wpAny_Call_Name_kw (ld_glob I0 hg hm ?_ hdb)
 refine PySem.W.callWith_K (h₀:=X.base) I0.ok.mod.kin M.kp (thn (ha pos pins s0 σ H0 _ I0 h) fun us s ⟨vs,H,I,r,q⟩=>⟨I.kIn,?_⟩) he hpl
 have hq:=q (s.heap.objs.size+1) s.heap.objs.size (I.hok.fresh (Nat.le_succ _)) (I.hok.fresh (Nat.le_refl _)) (Nat.ne_of_lt (Nat.lt_succ_self _))
 have I2:=Inv.made (C:=C) I
 have r2:Vals (V.ref (s.heap.objs.size+1)::vs) (Value.ref (s.heap.objs.size+1)::us):= .cons rfl r
 have hl:(Value.ref (s.heap.objs.size+1)::us).length=ps.length:=by
  rw [← r2.length];exact F.len _ _ _ _ hq
 have hb':=fun s' (h':X.K.In s'.heap)=>hb s' (Value.ref (s.heap.objs.size+1)::us) h' (by simpa using hl)
 have hr':Room (j+1) X.A:=hr.mono hj
 refine wpAny_call (make_map (f:=f) I.kIn M.makes M.init (beq_iff_eq.mp M.fn) (codeAny_mono (F.run _ X.stack _ _ ⟨Value.ref (s.heap.objs.size+1)::us,[]⟩ (Value.ref (s.heap.objs.size+1)::us) _ _ (EE σ) (hr'.make C us [])
  (I2.env0.make C us []) (by have:=hb' _ I2.kIn;rw [List.append_nil]at this;exact this) r2 hq) fun r s' hq'=>?_))
 cases r with
 | error e=>exact hx pins σ _ _ e s' I2 hq'
 | ok fl=>
  cases fl with
  | ret u=>
   obtain ⟨v,H',I3,rv,ev,q3⟩:=I2.after hq'
   subst ev
   exact ⟨rv,⟨V.ref (s.heap.objs.size+1),H',I3,rfl,q3⟩⟩
  | next=>exact False.elim hq'
  | brk=>exact False.elim hq'
  | cont=>exact False.elim hq'
end
section
variable {σ:St} {H:Hp} {Q:VK} {D:Ends} {K:PySem.W.Frag}
theorem rd_methE{C:Addr}{m:Str}{sp:Sp}{EE:St→XK}{ta:TE}{t:TA}:tMethE C m sp EE ta t σ H Q=ta σ H fun x H1=>∃a dx fs,x= .ref a∧H1 a=some (.ins C dx fs)∧fs.lookup m=none∧t σ H1 fun vs H2=>sp (x::vs) H2 Q (EE σ):=rfl
theorem rd_makeE{C:Addr}{sp:Sp}{EE:St→XK}{t:TA}:tMakeE C sp EE t σ H Q=t σ H fun vs H1=>∀x dx,H1 x=none→H1 dx=none→dx≠x→sp (.ref x::vs) (upd (upd H1 dx (.own x)) x (.ins C dx [])) (fun v H2=>v= .non∧Q (.ref x) H2) (EE σ):=rfl
theorem rd_fld{ta:TE}{f:Str}:tFld K ta f σ H Q=ta σ H fun x H1=>∃a C dx fs v,x= .ref a∧H1 a=some (.ins C dx fs)∧Cls K C∧NoAttr K C f∧fs.lookup f=some v∧Q v H1:=rfl
theorem rd_sfld{ta tv:TE}{f:Str}:sFld K ta tv f D σ H=tv σ H fun y H1=>ta σ H1 fun x H2=>∃a C dx fs,x= .ref a∧H2 a=some (.ins C dx fs)∧Cls K C∧NoAttr K C f∧fs.length < 1000∧D.nx σ (upd H2 a (.ins C dx (putF f y fs))):=rfl
theorem rd_din{ty td:TE}:tDIn ty td σ H Q=ty σ H fun y H1=>td σ H1 fun x H2=>∃a o,x= .ref a∧DGet H2 a y o∧Q (.bl o.isSome) H2:=rfl
theorem rd_dnotin{ty td:TE}:tDNotIn ty td σ H Q=ty σ H fun y H1=>td σ H1 fun x H2=>∃a o,x= .ref a∧DGet H2 a y o∧Q (.bl (!o.isSome)) H2:=rfl
theorem rd_dget{td ty:TE}:tDGet td ty σ H Q=td σ H fun x H1=>ty σ H1 fun y H2=>∃a v,x= .ref a∧DGet H2 a y (some v)∧Q v H2:=rfl
theorem rd_dput{td ty tv:TE}:sDPut td ty tv D σ H=tv σ H fun v H1=>td σ H1 fun x H2=>ty σ H2 fun y H3=>∃a H4,x= .ref a∧DPut H3 a y v H4∧D.nx σ H4:=rfl
theorem rd_gtup{n:Nat}{t:TGs}{v:V}{N:St→Hp→Prop}:gTup K n t v σ H N=∃a xs,v= .ref a∧SqT K H a xs∧xs.length=n∧t xs σ H N:=rfl
end
theorem len_empty:Str.empty.length=0:=rfl
theorem le_app{a b:Str}{n:Nat}(h1:a.length≤n / 2)(h2:b.length≤n / 2):(a++b).length≤n:=by
 rw [len_app];omega
end L2
namespace N1
open PySem L2
noncomputable def letters:List Nat:=List.range' 97 26
noncomputable def figures:List Nat:=List.range' 48 10
theorem let_list:(Str.ofString "abcdefghijklmnopqrstuvwxyz").cps.toList=letters:=by decide+kernel
theorem fig_list:(Str.ofString "0123456789").cps.toList=figures:=by decide+kernel
theorem both_list:(Str.ofString "abcdefghijklmnopqrstuvwxyz0123456789").cps.toList=letters++figures:=by decide+kernel
theorem both_len:(letters++figures).length=36:=by decide
noncomputable def headIn(l:List Nat)(s:List Nat):Bool:=match l with
 | []=>false
 | c::_=>decide (c∈s)
noncomputable def nameB(l:List Nat):Bool:=decide (1≤l.length) && decide (l.length≤8) && headIn l letters && l.all fun c=>decide (c∈letters++figures)
end N1
namespace N1
open PySem L2
noncomputable def tx(l:List Nat):Str:=⟨l.toArray⟩
theorem T_list{l:List Nat}:(tx l).cps.toList=l:=by simp [tx]
theorem T_eq{z:Str}:tx z.cps.toList=z:=by cases z;simp [tx]
theorem T_inj{a b:List Nat}(h:tx a=tx b):a=b:=by rw [← T_list (l:=a),h,T_list]
theorem T_app{a b:List Nat}:tx a++tx b=tx (a++b):=by
 have h:=app_list (a:=tx a) (b:=tx b)
 rw [T_list,T_list]at h
 rw [← T_eq (z:=tx a++tx b),h]
theorem T_len{l:List Nat}:(tx l).length=l.length:=by rw [← str_len,T_list]
theorem T_one{c:Nat}:(⟨#[c]⟩:Str)=tx [c]:=rfl
theorem both_length:(Str.ofString "abcdefghijklmnopqrstuvwxyz0123456789").length=36:=by decide+kernel
noncomputable def bc(i:Int):Nat:=(letters++figures).getD i.toNat 0
theorem ix_bc(i:Int){k:Int}(h0:0 < k)(h1:k≤36):atI (Str.ofString "abcdefghijklmnopqrstuvwxyz0123456789").cps.toList (i % k)=some (bc (i % k)):=by
 have h2:=Int.emod_lt_of_pos i h0
 have h3:=Int.emod_nonneg i (show k≠0 by omega)
 refine atI_of h3 ?_
 have h4:(i % k).toNat < (letters++figures).length:=by rw [both_len];omega
 unfold bc
 rw [both_list,List.getD_eq_getElem?_getD,List.getElem?_eq_getElem h4]
 rfl
end N1
namespace N1
open L2
noncomputable def sp_cell(K:PySem.W.Frag):Sp:=fun vs H Q _=>∃(a:Addr) (ns:List Int) (k:Int),vs=[.ref a,.int k]∧SqL K H a (ns.map V.int)∧0≤k∧ns.length≤63∧Q (.int (ns.getD k.toNat 0)) H
noncomputable def sp_made:Sp:=fun vs H Q _=>∃(z w:Str),vs=[.str z,.str w]∧z.length≤sizeLine∧∀H',Same H H'→Q (.bl (z.cps.toList.all fun c=>decide (c∈w.cps.toList))) H'
noncomputable def sp_is_name(K:PySem.W.Frag):Sp:=fun vs H Q _=>∃(x:V),vs=[x]∧((∃z:Str,x= .str z∧z.length≤sizeLine∧∀H',Same H H'→Q (.bl (nameB z.cps.toList)) H')∨(Isi K H x "str" false∧Q (.bl false) H))
noncomputable def sp_law(K:PySem.W.Frag):Sp:=fun vs H Q _=>∃(a:Addr) (ns:List Int),vs=[.ref a]∧SqL K H a (ns.map V.int)∧ns.length≤63∧∀H',Q (.bl true) H'
end N1
namespace N1
open L2
inductive StE where
 | noname | twice | nonum | many
noncomputable def nOk:V→Bool
 | .str z=>nameB z.cps.toList
 | _=>false
noncomputable def sOf:V→Str
 | .str z=>z
 | _=>Str.empty
noncomputable def wIn(lo hi:Int):V→Bool
 | .int i=>decide (lo≤i) && decide (i≤hi)
 | _=>false
noncomputable abbrev Rw:=Addr×V×V×V
noncomputable def rowR(ks:List Str)(n c r:V):Option StE:=if nOk n=false then some .noname else if sOf n∈ks then some .twice else if wIn 0 (10 ^ 30) c=false then some .nonum else if wIn 1 1000 r=false then some .nonum else none
noncomputable def stockR(ks:List Str):List Rw→Option StE
 | []=>none
 | t::rs=>match rowR ks t.2.1 t.2.2.1 t.2.2.2 with
  | some e=>some e
  | none=>stockR (ks++[sOf t.2.1]) rs
noncomputable def initR(rs:List Rw):Option StE:=if 60 < rs.length then some .many else stockR [] rs
theorem num_isi{K:PySem.W.Frag}{H:Hp}{v:V}(h:flatV v=true):∃b c,Isi K H v "int" b∧(b=true→Isi K H v "bool" c)∧((b && !c)=true→∃i,v= .int i)∧((b && !c)=false→∀i,v≠ .int i):=by
 cases v with
 | non=>exact ⟨false,false,isi_ni,fun h=>by (cases h),fun h=>by (cases h),fun _ i h=>by cases h⟩
 | bl b=>exact ⟨true,true,isi_bi,fun _=>isi_bb,fun h=>by (cases h),fun _ i h=>by cases h⟩
 | int i=>exact ⟨true,false,isi_ii,fun _=>isi_ib,fun _=>⟨i,rfl⟩,fun h=>by cases h⟩
 | str z=>exact ⟨false,false,isi_si,fun h=>by (cases h),fun h=>by (cases h),fun _ i h=>by cases h⟩
 | _=>cases h
noncomputable def sp_is_whole(K:PySem.W.Frag):Sp:=fun vs H Q _=>∃(x:V) (b c:Bool),vs=[x]∧Isi K H x "int" b∧(b=true→Isi K H x "bool" c)∧Q (.bl (b && !c)) H
noncomputable def sp_within(K:PySem.W.Frag):Sp:=fun vs H Q _=>∃(v:V) (lo hi:Int),vs=[v,.int lo,.int hi]∧flatV v=true∧Q (.bl (wIn lo hi v)) H
noncomputable def SameBut(p:Addr)(H H':Hp):Prop:=∀b o,H b=some o→b≠p→H' b=some o
theorem SameBut.trans{p:Addr}{H H1 H2:Hp}(h1:SameBut p H H1)(h2:SameBut p H1 H2):SameBut p H H2:=fun b o e n=>h2 b o (h1 b o e n) n
theorem SameBut.of{p:Addr}{H H1:Hp}(h:Same H H1):SameBut p H H1:=fun b o e _=>h b o e
theorem sameBut_upd{p:Addr}{H:Hp}{o:HO}:SameBut p H (upd H p o):=fun b u e n=>by rw [upd_ne n];exact e
noncomputable abbrev Th:=Str×Int×Int
noncomputable def flds(d:Addr):List (Str×V):=putF "things" (.ref d) []
structure StockAt(K:PySem.W.Frag)(C:Addr)(H:Hp)(p:Addr)(ts:List Th):Prop where
 ex:∃(dx d:Addr) (kvs:List (Key×V)),H p=some (.ins C dx (flds d))∧H d=some (.dK kvs)∧kvs.map (·.1)=ts.map (fun t=>Sum.inr t.1)∧
  ∀(i:Nat) (t:Th),ts[i]?=some t→∃a,kvs[i]?=some (Sum.inr t.1,.ref a)∧SqT K H a [.int i,.int t.2.1,.int t.2.2]
theorem StockAt.same{K:PySem.W.Frag}{C:Addr}{H H':Hp}{p:Addr}{ts:List Th}(s:Same H H')(h:StockAt K C H p ts):StockAt K C H' p ts:=by
 obtain ⟨dx,d,kvs,h1,h2,h3,h4⟩:=h.ex
 refine ⟨dx,d,kvs,s _ _ h1,s _ _ h2,h3,fun i t e=>?_⟩
 obtain ⟨a,e1,e2⟩:=h4 i t e
 exact ⟨a,e1,s.tup e2⟩
noncomputable def iOf:V→Int
 | .int i=>i
 | _=>0
noncomputable def thOf(t:Rw):Th:=(sOf t.2.1,iOf t.2.2.1,iOf t.2.2.2)
theorem SqT.but{K:PySem.W.Frag}{H H':Hp}{p a C dx:Addr}{fs:List (Str×V)}{xs:List V}(s:SameBut p H H')(hp:H p=some (.ins C dx fs))(h:SqT K H a xs):SqT K H' a xs:=by
 rcases h with (h | ⟨o,h⟩) | h
 · exact .inl (.inl (s _ _ h (ne_of h hp (by intro z;cases z))))
 · exact .inl (.inr ⟨o,s _ _ h (ne_of h hp (by intro z;cases z))⟩)
 · exact .inr h
theorem SqL.but{K:PySem.W.Frag}{H H':Hp}{p a C dx:Addr}{fs:List (Str×V)}{xs:List V}(s:SameBut p H H')(hp:H p=some (.ins C dx fs))(h:SqL K H a xs):SqL K H' a xs:=by
 rcases h with (h | ⟨o,h⟩) | h
 · exact .inl (.inl (s _ _ h (ne_of h hp (by intro z;cases z))))
 · exact .inl (.inr ⟨o,s _ _ h (ne_of h hp (by intro z;cases z))⟩)
 · exact .inr h
theorem key_mem{kvs:List (Key×V)}{ks:List Str}{z:Str}(h:kvs.map (·.1)=ks.map Sum.inr):(valV kvs (Sum.inr z)).isSome=decide (z∈ks):=by
 have e:(Sum.inr z:Key)∈kvs.map (·.1)↔z∈ks:=by
  rw [h,List.mem_map]
  constructor
  · rintro ⟨a,ha,e⟩;injection e with e;subst e;exact ha
  · intro h;exact ⟨z,h,rfl⟩
 cases hv:valV kvs (Sum.inr z:Key) with
 | none=>rw [decide_eq_false fun q=>valV_not hv (e.mpr q)];rfl
 | some v=>rw [decide_eq_true (e.mp (valV_in hv))];rfl
theorem flds_things{d:Addr}:(flds d).lookup ("things":Str)=some (V.ref d):=by
 unfold flds
 rw [lookup_putF,if_pos rfl]
theorem rowR_none{ks:List Str}{n co r:V}(h:rowR ks n co r=none):∃z c q,n= .str z∧co= .int c∧r= .int q∧¬z∈ks∧nameB z.cps.toList=true∧0≤c∧c≤10 ^ 30∧1≤q∧q≤1000:=by
 unfold rowR at h
 split at h
 · cases h
 rename_i h1
 split at h
 · cases h
 rename_i h2
 split at h
 · cases h
 rename_i h3
 split at h
 · cases h
 rename_i h4
 cases n with
 | str z=>
  cases co with
  | int c=>
   cases r with
   | int q=>
    simp only [wIn,Bool.and_eq_false_iff,decide_eq_false_iff_not,not_or,Decidable.not_not]at h3 h4
    exact ⟨z,c,q,rfl,rfl,rfl,h2,by simpa [nOk] using h1,h3.1,h3.2,h4.1,h4.2⟩
   | _=>exact absurd rfl h4
  | _=>exact absurd rfl h3
 | _=>exact absurd rfl h1
theorem stockR_step{ks:List Str}{rs:List Rw}{i:Nat}{t:Rw}(h:rs[i]?=some t):stockR ks (rs.drop i)=match rowR ks t.2.1 t.2.2.1 t.2.2.2 with
 | some e=>some e
 | none=>stockR (ks++[sOf t.2.1]) (rs.drop (i+1)):=by
 have e:rs.drop i=t::rs.drop (i+1):=by
  obtain ⟨hi,rfl⟩:=List.getElem?_eq_some_iff.mp h
  exact List.drop_eq_getElem_cons hi
 rw [e]
 rfl
noncomputable def nmsOf(rs:List Rw):List Str:=rs.map fun t=>sOf t.2.1
structure MidAt(K:PySem.W.Frag)(H:Hp)(d:Addr)(rs:List Rw):Prop where
 ex:∃kvs:List (Key×V),H d=some (.dK kvs)∧kvs.map (·.1)=(nmsOf rs).map Sum.inr∧∀(j:Nat) (t:Rw),rs[j]?=some t→∃a,kvs[j]?=some (Sum.inr (sOf t.2.1),.ref a)∧SqT K H a [.int j,.int (iOf t.2.2.1),.int (iOf t.2.2.2)]
theorem MidAt.snoc{K:PySem.W.Frag}{H:Hp}{d a:Addr}{rs:List Rw}{t:Rw}{kvs:List (Key×V)}{c q:Int}{z:Str}(h1:H d=some (.dK kvs))(h2:kvs.map (·.1)=(nmsOf rs).map Sum.inr)
 (h3:∀(j:Nat) (t:Rw),rs[j]?=some t→∃a,kvs[j]?=some (Sum.inr (sOf t.2.1),.ref a)∧SqT K H a [.int j,.int (iOf t.2.2.1),.int (iOf t.2.2.2)])
 (e1:t.2.1= .str z) (e2:t.2.2.1= .int c) (e3:t.2.2.2= .int q) (nz:¬z∈nmsOf rs) (ha:H a=some (.tup [.int kvs.length,.int c,.int q])):
 MidAt K (upd H d (.dK (putK kvs (Sum.inr z) (.ref a)))) d (rs++[t]):=by
 have hl:kvs.length=rs.length:=by
  have:=congrArg List.length h2
  simpa [nmsOf] using this
 have hv:valV kvs (Sum.inr z:Key)=none:=by
  have:=key_mem (z:=z) h2
  rw [decide_eq_false nz]at this
  cases h:valV kvs (Sum.inr z:Key) with
  | none=>rfl
  | some v=>rw [h]at this;cases this
 have keep2:∀{b:Addr} {xs:List V} {o:List (Key×V)},SqT K H b xs→SqT K (upd H d (.dK o)) b xs:=fun {b xs o} h=>by
  rcases h with (h | ⟨o',h⟩) | h
  · exact .inl (.inl (by rw [upd_ne (ne_of h h1 (by intro z;cases z))];exact h))
  · exact .inl (.inr ⟨_,by rw [upd_ne (ne_of h h1 (by intro z;cases z))];exact h⟩)
  · exact .inr h
 refine ⟨_,upd_same,?_,fun j t' hj=>?_⟩
 · rw [putK_new _ hv,List.map_append,h2]
   simp [nmsOf,e1,sOf]
 · rw [putK_new _ hv]
   by_cases hlt:j < rs.length
   · rw [List.getElem?_append_left hlt]at hj
     obtain ⟨b,e,hb⟩:=h3 j t' hj
     exact ⟨b,by rw [List.getElem?_append_left (by omega)];exact e,keep2 hb⟩
   · rw [List.getElem?_append_right (by omega)]at hj
     have hj0:j - rs.length=0:=by
      have:=(List.getElem?_eq_some_iff.mp hj).1
      simp at this;omega
     rw [hj0]at hj
     cases hj
     have ej:j=rs.length:=by omega
     subst ej
     refine ⟨a,?_,?_⟩
     · rw [← hl,List.getElem?_append_right (by omega)];simp [e1,sOf]
     · rw [e2,e3]
       refine keep2 (SqT.of ?_)
       rw [ha,hl];rfl
end N1
namespace L2
section
variable {X:Cx} {pins:List (Addr×Obj)} {σ:St} {H:Hp} {s:Shared}
theorem pa_consK{c:Const}{j pos}{es:List Expr}{te:TE}{t:TA}(ha:PE X (.Constant c j pos) te)(hr:PA X es t):PA X (.Constant c j pos::es) (tCons te t):=pa_cons ha hr rfl
theorem pa_consU{o j}{e:Expr}{es:List Expr}{te:TE}{t:TA}(ha:PE X (.UnaryOp o e j) te)(hr:PA X es t):PA X (.UnaryOp o e j::es) (tCons te t):=pa_cons ha hr rfl
theorem pa_consB{o j}{a b:Expr}{es:List Expr}{te:TE}{t:TA}(ha:PE X (.BinOp a o b j) te)(hr:PA X es t):PA X (.BinOp a o b j::es) (tCons te t):=pa_cons ha hr rfl
end
theorem rd_setL{o i v:V}{H:Hp}{Q:Hp→Prop}:rSetL o i v H Q=∃p xs k j,o= .ref p∧i= .int k∧H p=some (.lst xs)∧ixN xs.length k=some j∧Q (upd H p (.lst (xs.set j v))):=rfl
end L2
namespace N5
open L2 N1
noncomputable def md(j:Nat):Int:=if j=0 then 26 else 36
noncomputable def sgn(F:Nat→Int)(at':Int)(k j:Nat):Nat:=bc ((F j+if (j:Int)=at' then (k:Int) else 0) % md j)
noncomputable def nmL(F:Nat→Int)(at':Int)(long k:Nat):List Nat:=(List.range long).map (sgn F at' k)
theorem bc_let{i:Int}:bc (i % 26)∈letters:=by
 have h1:=Int.emod_nonneg i (show (26:Int)≠0 by decide)
 have h2:=Int.emod_lt_of_pos i (show (0:Int) < 26 by decide)
 unfold bc
 generalize i % 26=x at *
 have h3:x.toNat < letters.length:=by simp [letters];omega
 rw [List.getD_eq_getElem?_getD,List.getElem?_append_left h3,List.getElem?_eq_getElem h3]
 exact List.getElem_mem h3
theorem bc_both{i:Int}:bc (i % 36)∈letters++figures:=by
 have h1:=Int.emod_nonneg i (show (36:Int)≠0 by decide)
 have h2:=Int.emod_lt_of_pos i (show (0:Int) < 36 by decide)
 unfold bc
 generalize i % 36=x at *
 have h3:x.toNat < (letters++figures).length:=by rw [both_len];omega
 rw [List.getD_eq_getElem?_getD,List.getElem?_eq_getElem h3]
 exact List.getElem_mem h3
theorem bc_inj{x y:Int}(hx0:0≤x)(hx:x < 36)(hy0:0≤y)(hy:y < 36)(h:bc x=bc y):x=y:=by
 have key:∀a:Fin 36,∀b:Fin 36,(letters++figures).getD a.val 0=(letters++figures).getD b.val 0→a=b:=by decide+kernel
 have:=key ⟨x.toNat,by omega⟩ ⟨y.toNat,by omega⟩ h
 have:=congrArg Fin.val this
 simp at this
 omega
theorem nmL_name{F:Nat→Int}{at':Int}{long k:Nat}(h1:1≤long)(h2:long≤8):nameB (nmL F at' long k)=true:=by
 obtain ⟨n,rfl⟩:∃n,long=n+1:=⟨long - 1,by omega⟩
 have hall:∀c∈nmL F at' (n+1) k,c∈letters++figures:=by
  intro c hc
  obtain ⟨j,_,rfl⟩:=List.mem_map.mp hc
  have hm:md j=26∨md j=36:=by unfold md;split <;> simp
  unfold sgn
  rcases hm with hm | hm <;> rw [hm]
  · exact List.mem_append_left _ bc_let
  · exact bc_both
 have hl:(nmL F at' (n+1) k).length=n+1:=by simp [nmL]
 have hh:headIn (nmL F at' (n+1) k) letters=true:=by
  unfold nmL
  rw [List.range_succ_eq_map,List.map_cons]
  show decide (sgn F at' k 0∈letters)=true
  rw [decide_eq_true_eq]
  unfold sgn md
  rw [if_pos rfl]
  exact bc_let
 unfold nameB
 rw [hl,hh,decide_eq_true h1,decide_eq_true h2]
 simp only [Bool.true_and]
 exact List.all_eq_true.mpr fun c hc=>decide_eq_true (hall c hc)
theorem nmL_inj{F:Nat→Int}{at':Int}{long k k':Nat}(h0:0≤at')(h1:at' < long)(hk:k < 26)(hk':k' < 26)(h:nmL F at' long k=nmL F at' long k'):k=k':=by
 have hl:at'.toNat < long:=by omega
 have e:=congrArg (fun l=>l[at'.toNat]?) h
 simp only [nmL,List.getElem?_map,List.getElem?_range hl,Option.map_some,Option.some.injEq]at e
 unfold sgn at e
 rw [if_pos (by omega),if_pos (by omega)]at e
 have hm:md at'.toNat=26∨md at'.toNat=36:=by unfold md;split <;> simp
 rcases hm with hm | hm <;> rw [hm]at e
 · have:=bc_inj (by omega) (by omega) (by omega) (by omega) e
   omega
 · have:=bc_inj (by omega) (by omega) (by omega) (by omega) e
   omega
noncomputable def nms(F:Nat→Int)(at':Int)(long m:Nat):List Str:=(List.range m).map fun k=>tx (nmL F at' long k)
theorem ne1:Str.ofString "no name"≠Str.ofString "nothing":=by decide+kernel
theorem SqT.butL{K:PySem.W.Frag}{H H':Hp}{p a:Addr}{zs:List V}{xs:List V}(s:SameBut p H H')(hp:H p=some (.lst zs))(h:SqT K H a xs):SqT K H' a xs:=by
 rcases h with (h | ⟨o,h⟩) | h
 · exact .inl (.inl (s _ _ h (ne_of h hp (by intro z;cases z))))
 · exact .inl (.inr ⟨o,s _ _ h (ne_of h hp (by intro z;cases z))⟩)
 · exact .inr h
theorem same_made{H H':Hp}{x dx C:Addr}(hx:H x=none)(hd:H dx=none)(s:SameBut x (upd (upd H dx (.own x)) x (.ins C dx [])) H'):Same H H':=fun b o e=>by
 have n1:=ne_of_none e hx
 have n2:=ne_of_none e hd
 exact s b o (by rw [upd_ne n1,upd_ne n2];exact e) n1
theorem name_len{z:Str}(h:nameB z.cps.toList=true):z.length≤8:=by
 unfold nameB at h
 simp only [Bool.and_eq_true,decide_eq_true_eq]at h
 have:=h.1.1.2
 rw [str_len]at this;exact this
end N5
namespace L2
open Sem (wp)
section
variable {Pg:Program} {w:World} {A:Around} {E:Value→Shared→Prop} {h:Heap} {g:Array GenState} {d:Drawn} {t:Nat} {os:OsState}
variable {nm q:Str} {C N:Addr} {bs bm bmB:List Value} {hd:Bool} {sn:List Str} {su:List Value} {ab:Bool} {co:Option Bool} {dd:Option Addr} {k0 k1 k2 k3 k5:Option Value} {B nw ni:String}
noncomputable abbrev bareExc(h:Heap)(C:Addr):Obj:={cls:= .ref C,data:= .fields #[.ref h.objs.size,.none,.none,.none,.bool false,.none]}
noncomputable abbrev twoMore(h:Heap)(C:Addr)(rest:List Value):Heap:=(h.push {cls:= .type "tuple",data:= .seq rest.toArray}).push (bareExc h C)
theorem keep2{rest:List Value}:∀b o,h.get? b=some o→(twoMore h C rest).get? b=some o:=fun _ _ e=>Heap.get?_push_of_some _ (Heap.get?_push_of_some _ e)
theorem tcall_initT(F:ExcBaseFacts B nw ni bmB)(T:OwnTail h bmB bm){mN:Str→Option Value}{rest:List Value}{fI:Addr}{oI:Obj}{Q:Fin→Shared→Prop}
 (kC:h.get? C=some (excClassObj nm q C N bs bm hd sn su ab co dd k0 k1 k2 k3 k5 nw)) (hn:h.Ns N mN) (hi:mN "__init__"=some (.ref fI)) (hf:h.get? fI=some oI) (hfc:oI.cls= .type "function")
 (hq:∀h' e,Heap.MadeExcOf h h' e (.ref C) rest→wpAny (model Pg w) A (call (.ref fI) (.ref e::rest)) (fun r s'=>r= .none∧Q (.done (.ret (.ref e))) s') E ⟨h',g,d,t,os⟩) (hz:rest.length≤sizeLine):
 wpAny (model Pg w) A (Builtin.«type.__call__» ⟨.ref C::rest,[]⟩) Q E ⟨h,g,d,t,os⟩:=by
 repeat (first | with_reducible refine wpAny_loadPart_at kC ?_ | with_reducible refine wpAny_madeBy_exc kC ?_ | wp_step)
 refine codeAny_call_builtin_code (Code.quiet_builtin _ F.quiet) (wpAny_check_new_subT F T kC (codeAny_exc_new_subT F T kC ?_ hz))
 show wpAny _ _ _ _ _ _
 have c1:(twoMore h C rest).get? C=some (excClassObj nm q C N bs bm hd sn su ab co dd k0 k1 k2 k3 k5 nw):=keep2 _ _ kC
 have c2:(twoMore h C rest).get? fI=some oI:=keep2 _ _ hf
 have c3:(twoMore h C rest).Ns N mN:=by obtain ⟨o,es,ep,e,r⟩:=hn;exact ⟨o,es,ep,keep2 _ _ e,r⟩
 have c4:(twoMore h C rest).get? (h.objs.size+1)=some (bareExc h C):=by heap_get
 have c5:(Value.ref C::bm).contains (.ref C)=true:=by simp
 have T1:=T.keeps (keep2 (h:=h) (C:=C) (rest:=rest))
 unfold isInstance
 repeat (first | with_reducible refine wpAny_loadPart_at c4 ?_ | (with_reducible refine wpAny_isSubtype_exc c1 ?_;rw [c5]) | wp_step)
 show wpAny _ _ (typeLookup (.ref C) _) _ _ _;refine wpAny_typeLookup_tail c1 c3 T1 F.mroIs F.init.lookup ?_
 rw [hi]
 refine wpAny_holding (wpAny_bind ?_);unfold bindSpecial
 refine wpAny_bind (wpAny_typeOf (T:="function") ⟨_,c2,hfc⟩ ?_)
 rw [if_pos (by decide)]
 have made:Heap.MadeExcOf h (twoMore h C rest) (h.objs.size+1) (.ref C) rest:=⟨keep2,Heap.get?_none_of_le (Nat.le_succ _),h.objs.size,c4,Heap.get?_none_of_le (Nat.le_refl _),Heap.get?_push_of_some _ (Heap.get?_push_at rfl rfl)⟩
 refine wpAny_pure (wpAny_bind (wpAny_mono (hq _ _ made) (fun r s' hr=>?_) fun _ _ x=>x))
 obtain ⟨rfl,hQ⟩:=hr
 wp_walk
 exact hQ
theorem call_initT(F:ExcBaseFacts B nw ni bmB)(T:OwnTail h bmB bm){mN:Str→Option Value}{rest:List Value}{fI:Addr}{oI:Obj}{Q:Value→Shared→Prop}
 (kC:h.get? C=some (excClassObj nm q C N bs bm hd sn su ab co dd k0 k1 k2 k3 k5 nw)) (hn:h.Ns N mN) (hi:mN "__init__"=some (.ref fI)) (hf:h.get? fI=some oI) (hfc:oI.cls= .type "function")
 (hq:∀h' e,Heap.MadeExcOf h h' e (.ref C) rest→wpAny (model Pg w) (A.under (.builtin "type.__call__" ⟨.ref C::rest,[]⟩)) (call (.ref fI) (.ref e::rest)) (fun r s'=>r= .none∧Q (.ref e) s') E ⟨h',g,d,t,os⟩) (hz:rest.length≤sizeLine):
 wpAny (model Pg w) A (call (.ref C) rest) Q E ⟨h,g,d,t,os⟩:=by
 have f1:=tc_lookup
 have f2:=tc_bind (.ref C)
 have f3:(⟨h,g,d,t,os⟩:Shared).TypeIs (.ref C) "type":=⟨_,kC,rfl⟩
 refine wpAny_call (codeAny_of_tree ?_);show wpAny _ _ (callAny (.ref C) _) _ _ _
 repeat (any_goals (first | assumption | with_reducible refine wpAny_loadPart_at kC ?_ | wp_step))
 refine ⟨rfl,codeAny_call_builtin_at (Code.quiet_builtin _ (by decide+kernel)) entry_typeCall (wpAny_check_type_call_sub kC (tcall_initT F T kC hn hi hf hfc (fun h' e hm=>?_) hz))⟩
 exact hq h' e hm
end
section
open PySem.W PySem.Builtin PySem.Builtin.ObjectAttr
variable {Pg:Program} {w:World} {A:Around} {R:Result→Shared→Prop} {s:Shared} {K:Frag} {x C B:Addr} {ox:Obj} {od:Option Obj} {cd:ClassData} {f:Str} {tk:Tok} {v:Value}
noncomputable abbrev veTail:List Value:=[.type "ValueError",.type "Exception",.type "BaseException",.type "object"]
theorem osa_exc(X:K.In s.heap)(I:PySem.W.InstAt s.heap x ox C od)(hc:clsIn K C=some cd)(hm0:cd.mro= .ref C:: .ref B::veTail)(ha:findIn K (.ref C) f=some none)
 (h:∀b,wpAny (model Pg w) A.in1 (storeInOwnDict (.ref x) (.ref C) (.str f tk) f v b) (fun fin s'=>match fin with | .done r=>R (.ok r) s' | .again c'=>c'.quiet=true∧codeAny (model Pg w) A c' R s') (fun e s'=>R (.error e) s') s):
 codeAny (model Pg w) A (.call (.builtin "object.__setattr__") ⟨[.ref x,.str f tk,v],[]⟩) R s:=by
 have F1:=PySem.F.store_object
 have sub:Looks (model Pg w) s.heap (isInstance (.ref x) (.type "object")) true:=I.type.andThen (looks_mroIn X (by unfold mroIn;rw [hc,Option.bind_some,hm0];rfl))
 have lm:Looks (model Pg w) s.heap (mroOf (.ref C)) cd.mro:=(looks_clsIn X hc).andThen .now
 refine codeAny_call_builtin F1.slot.plain F1.entry (@check_slot (model Pg w) _ _ s "object.__setattr__" "object" "__setattr__" (.ref x) [.str f tk,v] [] _ F1.kind F1.split sub (F1.args _ _ _) ?_)
 rw [osa_eq,refuse_eq]
 refine wpAny_bind (wpAny_bind (I.type.here (wpAny_bind (lm.here ?_))))
 rw [hm0,refuseLoop_ref,refuseLoop_ref,PySem.F.store_ValueError.passes]
 exact wpAny_pure (wpAny_bind (I.type.here (wpAny_bind ((looks_findIn X ha).here (wpAny_bind (wpAny_pure (h _)))))))
theorem set_exc0{Q:Unit→Shared→Prop}{E:Value→Shared→Prop}{vs:Array Value}{sl:Array (Option Value)}(X:K.In s.heap)(hx:s.heap.get? x=some ⟨.ref C,none,.fields vs,sl⟩)(hs:findIn K (.ref C) "__setattr__"=some (some (.builtin "object.__setattr__")))
 (hc:clsIn K C=some cd) (hm0:cd.mro= .ref C:: .ref B::veTail) (hd:cd.hasDict=true) (ha:findIn K (.ref C) f=some none)
 (h:∀h',h'.get? x=some ⟨.ref C,some s.heap.objs.size,.fields vs,sl⟩→h'.Ns1 s.heap.objs.size (fun y=>if y=f then some v else none)→(∀b o,b≠x→s.heap.get? b=some o→h'.get? b=some o)→Q () {s with heap:=h',toks:=s.toks+2}):
 wpAny (model Pg w) A (setAttr (.ref x) f v) Q E s:=by
 have J:PySem.W.InstAt s.heap x ⟨.ref C,none,.fields vs,sl⟩ C none:=⟨hx,rfl,rfl,trivial⟩
 refine set_plain X J hs (osa_exc (s:={s with toks:=s.toks+1}) X J hc hm0 ha fun b=>?_)
 refine wpAny_bind (wpAny_pure (wpAny_bind (wpAny_bind (wpAny_loadPart hx (wpAny_bind (Looks.here (s:={s with toks:=s.toks+1}) (looks_clsIn X hc) ?_))))))
 rw [hd]
 have k1:(s.heap.push {cls:= .type "dict",data:= .dict #[]}).get? x=some ⟨.ref C,none,.fields vs,sl⟩:=Heap.get?_push_of_some _ hx
 have nx:x≠s.heap.objs.size:=Nat.ne_of_lt (Heap.lt_size hx)
 refine wpAny_bind (wpAny_alloc' (wpAny_bind (wpAny_update' k1 (wpAny_pure ?_))))
 have k2:((s.heap.push {cls:= .type "dict",data:= .dict #[]}).update x fun o=>{cls:=o.cls,dict:=some s.heap.objs.size,data:=o.data,slots:=o.slots}).get? s.heap.objs.size=some {cls:= .type "dict",data:= .dict #[]}:=
  (Heap.get?_update_ne _ _ _ _ nx.symm).trans (Heap.get?_push_at rfl rfl)
 have k3:((s.heap.push {cls:= .type "dict",data:= .dict #[]}).update x fun o=>{cls:=o.cls,dict:=some s.heap.objs.size,data:=o.data,slots:=o.slots}).Ns s.heap.objs.size (fun _=>none):=
  ⟨_,#[],_,k2,rfl,fun e he=>absurd he (by simp),fun _=>rfl⟩
 show wpAny _ _ (storeInDict s.heap.objs.size (.str f s.toks) f v) _ _ _
 unfold storeInDict newKeyGuard;refine wpAny_bind (wpAny_pure (wpAny_bind (wpAny_nsSet1 (Heap.Ns1.of_empty k3) fun h' hn2 sb=>?_)))
 obtain ⟨oD,esD,epD,uo,ud,uc⟩:=hn2.count (Within.cons f v Within.nil)
 refine wpAny_bind (wpAny_lookBehind uo (by rw [ud];exact pastItsLine_dict (Nat.le_trans uc (by rw [List.length_cons,List.length_nil,sizeLine_eq];omega))) ?_)
 refine wpAny_pure (h h' ?_ ?_ fun b o nb e=>?_)
 · refine (sb.2 x nx).trans (Heap.get?_update_self _ k1 rfl)
 · obtain ⟨o',es,ep,e1,e2,e3,eu,e4⟩:=hn2
   exact ⟨o',es,ep,e1,e2,e3,eu,fun y=>by rw [e4 y]⟩
 · exact (sb.2 b (Nat.ne_of_lt (Heap.lt_size e))).trans ((Heap.get?_update_ne _ _ _ _ nb).trans (Heap.get?_push_of_some _ e))
theorem set_exc1{Q:Unit→Shared→Prop}{E:Value→Shared→Prop}{vs:Array Value}{sl:Array (Option Value)}{dx:Addr}{mA:Str→Option Value}{ns:List Str}(X:K.In s.heap)(hx:s.heap.get? x=some ⟨.ref C,some dx,.fields vs,sl⟩)(hn:s.heap.Ns1 dx mA)(hw:Within mA ns)(hz:ns.length≤sizeLine)
 (hs:findIn K (.ref C) "__setattr__"=some (some (.builtin "object.__setattr__"))) (hc:clsIn K C=some cd) (hm0:cd.mro= .ref C:: .ref B::veTail) (hd:cd.hasDict=true) (ha:findIn K (.ref C) f=some none)
 (h:∀h',h'.Ns1 dx (fun y=>if y=f then some v else mA y)→(∀b,b≠dx→h'.get? b=s.heap.get? b)→Q () {s with heap:=h',toks:=s.toks+2}):
 wpAny (model Pg w) A (setAttr (.ref x) f v) Q E s:=by
 obtain ⟨oo,es,ep,e1,e2⟩:=id hn
 have J:PySem.W.InstAt s.heap x ⟨.ref C,some dx,.fields vs,sl⟩ C (some oo):=⟨hx,rfl,rfl,e1⟩
 refine set_plain X J hs (osa_exc (s:={s with toks:=s.toks+1}) X J hc hm0 ha fun b=>?_)
 refine wpAny_bind (wpAny_pure (wpAny_bind (wpAny_bind (wpAny_loadPart hx (wpAny_bind (Looks.here (s:={s with toks:=s.toks+1}) (looks_clsIn X hc) ?_))))))
 rw [hd]
 refine wpAny_pure (a:=some dx) ?_;show wpAny _ _ (storeInDict dx (.str f s.toks) f v) _ _ _
 unfold storeInDict newKeyGuard;refine wpAny_bind (wpAny_pure (wpAny_bind (wpAny_nsSet1 (s:={s with toks:=s.toks+1}) hn fun h' hn2 sb=>?_)))
 obtain ⟨oD,esD,epD,uo,ud,uc⟩:=hn2.count (Within.cons f v hw)
 refine wpAny_bind (wpAny_lookBehind uo (by rw [ud];exact pastItsLine_dict (Nat.le_trans uc (by rw [List.length_cons];omega))) ?_)
 exact wpAny_pure (h h' hn2 fun b nb=>sb.2 b nb)
theorem get_exc{Q:Value→Shared→Prop}{E:Value→Shared→Prop}{ex:Bool}(X:K.In s.heap)(J:PySem.W.InstAt s.heap x ox C od)(hg:findIn K (.ref C) "__getattribute__"=some (some (.builtin "BaseException.__getattribute__")))
 (hn:findIn K (.ref C) "__getattr__"=some none) (hc:clsIn K C=some cd) (hm0:cd.mro= .ref C:: .ref B::veTail) (hf:findObj K C od f=some (.value v)) (hh:handedIn v=true) (h:Q v {s with toks:=s.toks+1}):
 wpAny (model Pg w) A (getAttr (.ref x) f ex) Q E s:=by
 obtain ⟨hp,g,d,t,os⟩:=s
 have l0:=J.type (M:=model Pg w)
 have l1:=looks_findIn (M:=model Pg w) X hg
 have l2:=looks_findIn (M:=model Pg w) X hn
 have l3:=looks_find (M:=model Pg w) X J hf
 unfold getAttr getAttrBy
 refine wpAny_bind (wpAny_mkText (wpAny_holding (wpAny_bind (l0.at (wpAny_bind (l1.at ?_))))))
 have b1:=PySem.F.excAttr_ValueError.ga.bind (.ref x)
 have b2:(ex && onTheHeap (Value.builtin "BaseException.__getattribute__"))=false:=by cases ex <;> rfl
 have b3:(Value.builtin "BaseException.__getattribute__"==Value.builtin "object.__getattribute__")=false:=by decide+kernel
 have b4:(onTheHeap (Value.ref C) && Value.builtin "BaseException.__getattribute__"==Value.builtin "object.__getattribute__")=false:=by rw [b3];rfl
 have sub:Looks (model Pg w) hp (isInstance (.ref x) (.type "BaseException")) true:=J.type.andThen (looks_mroIn X (by unfold mroIn;rw [hc,Option.bind_some,hm0];rfl))
 show wpAny _ _ (if (onTheHeap (Value.ref C) && Value.builtin "BaseException.__getattribute__"==Value.builtin "object.__getattribute__")=true then _ else _) _ _ _
 rw [if_neg (by rw [b4];decide)]
 unfold getAttrByItsOwn hookBefore
 rw [if_pos (show onTheHeap (Value.ref C)=true from rfl)]
 refine wpAny_bind (l2.at ?_)
 (repeat (any_goals (first | assumption | wp_step)));refine codeAny_call_builtin PySem.F.excAttr_ValueError.ga.plain PySem.F.entry_bexc_ga (@check_slot (model Pg w) _ _ _ "BaseException.__getattribute__" "BaseException" "__getattribute__" (.ref x) [.str f t] [] _ (by decide+kernel) (by decide+kernel) sub (PySem.F.args_bexc_ga _ _) ?_)
 unfold Builtin.«object.__getattribute__»;repeat (any_goals (first | assumption | with_reducible refine l0.at ?_ | with_reducible refine l3.at ?_ | wp_step))
 show wpAny _ _ (handedOut v) _ _ _;rw [handedOut_of hh]
 exact wpAny_pure h
theorem meth_exc{Q:Value×List Value→Shared→Prop}{E:Value→Shared→Prop}{pl:Sem Bool}{fn:Addr}(X:K.In s.heap)(J:PySem.W.InstAt s.heap x ox C od)(hg:findIn K (.ref C) "__getattribute__"=some (some (.builtin "BaseException.__getattribute__")))
 (hn:findIn K (.ref C) "__getattr__"=some none) (hf:findIn K (.ref C) f=some (some (.ref fn))) (ht:typeIn K (.ref fn)=some (.type "function")) (hs:shadowIn od f=some false) (h:Q (.ref fn,[.ref x]) s):
 wpAny (model Pg w) A (getMethod (.ref x) f pl) Q E s:=by
 have can:(Manifest.canonical "BaseException.__getattribute__" !="object.__getattribute__")=false:=by decide+kernel
 have l1:=looks_findIn (M:=model Pg w) X hg
 have l2:=looks_findIn (M:=model Pg w) X hn
 have l3:=looks_findIn (M:=model Pg w) X hf
 have l4:=looks_typeIn (M:=model Pg w) X ht
 unfold getMethod specialOf
 refine wpAny_bind (wpAny_bind (J.type.here (l1.here ?_)))
 simp only [can,Bool.false_eq_true,if_false]
 refine wpAny_bind (wpAny_bind (J.type.here (l2.here (wpAny_bind (wpAny_bind (J.type.here (l3.here (wpAny_bind (l4.here ?_)))))))))
 rw [if_neg (by decide+kernel)];refine wpAny_bind (wpAny_loadPart J.at_ ?_)
 have jd:=J.dict
 cases e:ox.dict with
 | none=>exact (wpAny_bind (wpAny_rule (wpAny_pure h)))
 | some dx=>
  rw [e]at jd
  cases od with
  | none=>exact jd.elim
  | some o=>
   obtain ⟨r,a1,b1⟩:=Option.map_eq_some_iff.mp hs
   refine wpAny_bind (wpAny_bind (wpAny_loadPart jd ?_))
   rw [nsLook_of a1];refine wpAny_pure ?_;rw [b1]
   exact (wpAny_bind (wpAny_rule (wpAny_pure h)))
end
noncomputable def exO(n:Bool)(x C:Addr)(od:Option Addr):HO:= .ext fun h=>∃vs sl,h.get? x=some ⟨.ref C,od,.fields vs,sl⟩∧(n=true→∃t,vs=#[.ref t,.none,.none,.none,.bool false,.none])
noncomputable def exD(dx:Addr)(fs:List (Str×V)):HO:= .ext fun h=>fs.length≤1000∧∃mA,h.Ns1 dx mA∧(∀f,RelO (fs.lookup f) (mA f))∧PySem.Within mA (fs.map (·.1))
section
variable {X:Cx} {pins:List (Addr×Obj)} {σ:St} {H:Hp} {x:Addr} {s:Shared} {h':Heap} {o:HO} {t':Nat}
theorem Inv.born(I:Inv X pins σ H s)(hex:X.ex=[])(k:∀b u,s.heap.get? b=some u→h'.get? b=some u)(hn:s.heap.get? x=none)(new:ObjOk X.prog X.w (upd H x o) h' x o):Inv X pins σ (upd H x o) {s with heap:=h',toks:=t'}:=by
 have J:Inv X pins σ H {s with heap:=h',toks:=t'}:=I.kept k
 have hx:H x=none:=by
  cases q:H x with
  | none=>rfl
  | some v=>obtain ⟨o1,e1⟩:=I.hok.there q;rw [hn]at e1;cases e1
 have n0:X.s₀.heap.get? x=none:=by
  cases q:X.s₀.heap.get? x with
  | none=>rfl
  | some v=>obtain ⟨o1,e1⟩:=I.base.there x v q (by rw [hex];simp);rw [hn]at e1;cases e1
 have nl:x≠X.env.locals:=by
  rintro rfl
  obtain ⟨m,⟨o1,es,ep,e,_⟩,_⟩:=I.loc
  rw [hn]at e;cases e
 have nc:∀y c,X.env.cells.lookup y=some c→c≠x:=by
  rintro y c hc rfl
  obtain ⟨v,o1,e,_⟩:=I.cell y c hc
  rw [hn]at e;cases e
 have np:∀p∈X.pn++pins,p.1≠x:=fun p hp z=>by
  have e:=(I.pin p hp).1
  rw [z,hn]at e;cases e
 refine ⟨J.ok,J.os,J.bare,⟨J.base.keep,J.base.slot,fun b o e n hb=>?_,J.base.there,fun b xs e=>?_,fun b o v e=>?_,fun b ps e=>?_⟩,J.loc,J.cell,?_,fun y c hc=>?_,fun p hp=>?_,fun b u e=>?_,J.len⟩
 · rw [upd_ne (by rintro rfl;rw [n0]at e;cases e)];exact J.base.free b o e n hb
 · have e1:=J.base.tups b xs e;rw [upd_ne (ne_of_none e1 hx)];exact e1
 · have e1:=J.base.frzs b o v e;rw [upd_ne (ne_of_none e1 hx)];exact e1
 · obtain ⟨m,e1⟩:=J.base.tbls b ps e;exact ⟨m,by rw [upd_ne (ne_of_none e1 hx)];exact e1⟩
 · rw [upd_ne nl.symm];exact J.free
 · rw [upd_ne (nc y c hc)];exact J.freeC y c hc
 · obtain ⟨a1,a2,a3,a4,a5⟩:=J.pin p hp
   exact ⟨a1,by rw [upd_ne (np p hp)];exact a2,a3,a4,a5⟩
 · by_cases hb:b=x
   · subst hb
     rw [upd_same]at e;cases e
     exact new
   · rw [upd_ne hb]at e
     exact (J.hok b u e).stay (fun _ _ _ q=>q) (fun c q=>by rw [upd_ne (ne_of_none q hx)];exact q) fun c xs q=>by rw [upd_ne (ne_of_none q hx)];exact q
theorem exO_ok{P:Program}{w:World}{n:Bool}{C:Addr}{od:Option Addr}{vs:Array Value}{sl:Array (Option Value)}(e:h'.get? x=some ⟨.ref C,od,.fields vs,sl⟩)(hv:n=true→∃t,vs=#[.ref t,.none,.none,.none,.bool false,.none]):ObjOk P w H h' x (exO n x C od):=
 ⟨⟨vs,sl,e,hv⟩,⟨_,e⟩,fun _ _ ⟨v1,s1,e1,q1⟩ k=>⟨v1,s1,k _ e1,q1⟩⟩
end
noncomputable def tExc(C:Addr)(t:TA):TE:=fun σ H Q=>t σ H fun vs H1=>vs.length≤sizeLine∧∀x,H1 x=none→Q (.ref x) (upd H1 x (exO true x C none))
section
variable {X:Cx} {C:Addr} {x:Str} {p pos:Pos} {e:Expr} {es:List Expr} {t:TA}
theorem pe_exc(M:ExcC X.K C)(hex:X.ex=[])(kp:PySem.W.keepIn X.K (.ref C)=true)(hg:Gl X x)(hm:X.mg x=some (.ref C))(ha:PA X (e::es) t)(hdb:(x==("__debug__":Str))=false:=by decide)
 (he:starEach (e::es) X.env=(false,eval e X.env)::starEach es X.env:=by rfl) (hpl:(backTo pos (starEach es X.env)).any (·.1)=false:=by rfl):
 PE X (.Call (.Name x p) (e::es) [] pos) (tExc C t):=by
 intro pins s0 σ H0 Q I0 h
 refine wpAny_Call_Name_kw (ld_glob I0 hg hm ?_ hdb)
 refine PySem.W.callWith_K (h₀:=X.base) I0.ok.mod.kin kp (thn (ha pos pins s0 σ H0 _ I0 h) fun us s ⟨vs,H,I,r,z,q⟩=>⟨I.kIn,?_⟩) he hpl
 obtain ⟨nm,qn,N,bs,bm,hd,sn,su,ab,co,dd,k0,k1,k2,k3,k5,mN,c1,c2,c3,c4⟩:=M.at_ s.heap I.kIn
 obtain ⟨hp,gn,dr,tk,os⟩:=s
 refine wpAny_call_exc_subT PySem.F.excBase_ValueError c4 c1 c2 c3 (fun h' y hy=>?_) (by show us.length≤sizeLine;rw [← r.length];exact z)
 obtain ⟨t0,e1,_,_⟩:=hy.there
 have nv:true=true→∃t,(#[.ref t0,.none,.none,.none,.bool false,.none]:Array Value)=#[.ref t,.none,.none,.none,.bool false,.none]:=fun _=>⟨t0,rfl⟩
 have hy0:H y=none:=by
  cases w':H y with
  | none=>rfl
  | some v=>obtain ⟨o1,e2⟩:=I.hok.there w';rw [hy.new]at e2;cases e2
 exact ⟨.ref y,_,I.born hex hy.keeps hy.new (exO_ok e1 nv),rfl,q y hy0⟩
end
structure ExcG(K:PySem.W.Frag)(C:Addr):Prop where
 ga:PySem.W.findIn K (.ref C) "__getattribute__"=some (some (.builtin "BaseException.__getattribute__"))
 gh:PySem.W.findIn K (.ref C) "__getattr__"=some none
structure ExcQ(K:PySem.W.Frag)(C B:Addr):Prop extends ExcG K C where
 cd:∃cd:ClassData,PySem.W.clsIn K C=some cd∧cd.mro= .ref C:: .ref B::veTail∧cd.hasDict=true
 sa:PySem.W.findIn K (.ref C) "__setattr__"=some (some (.builtin "object.__setattr__"))
section
variable {X:Cx} {pins:List (Addr×Obj)} {σ:St} {H:Hp} {s:Shared} {nw:Bool} {a dx C B:Addr} {fs:List (Str×V)} {f:Str} {v:V} {A:Around} {E:Value→Shared→Prop}
theorem ExcQ.hd{K:PySem.W.Frag}(q:ExcQ K C B):PySem.W.hasDictIn K C=true:=by
 obtain ⟨cd,c1,_,c3⟩:=q.cd
 unfold PySem.W.hasDictIn
 rw [c1];exact c3
theorem getx_ok{ex:Bool}{Q:Value→Shared→Prop}(I:Inv X pins σ H s)(q:ExcQ X.K C B)(hx:H a=some (exO nw a C (some dx)))(hd:H dx=some (exD dx fs))(n:PySem.W.findIn X.K (.ref C) f=some none)(l:fs.lookup f=some v)
 (h:∀u s',Inv X pins σ H s'→RelV v u→Q u s'):wpAny (model X.prog X.w) A (getAttr (.ref a) f ex) Q E s:=by
 obtain ⟨vs,sl,e1,nv⟩:=(I.hok a _ hx).1
 obtain ⟨_,mA,hn,r,wi⟩:=(I.hok dx _ hd).1
 obtain ⟨od,ho,hlk⟩:=lookIn_ns hn
 obtain ⟨u,hu,ru⟩:=RelO.some_of (v:=v) (o:=mA f) (by rw [← l];exact r f)
 obtain ⟨cd,c1,c2,c3⟩:=q.cd
 exact get_exc I.kIn ⟨e1,rfl,rfl,ho⟩ q.ga q.gh c1 c2 (PySem.W.findObj_own q.hd n rfl (by rw [hlk,hu])) (handed_of ru) (h u _ (I.tok _) ru)
theorem methx_ok0{m:Str}{g:Addr}{pl:Sem Bool}{Q:Value×List Value→Shared→Prop}(I:Inv X pins σ H s)(q:ExcG X.K C)(hx:H a=some (exO nw a C none))(k:Meth X.K C m g)(h:Q (.ref g,[.ref a]) s):
 wpAny (model X.prog X.w) A (getMethod (.ref a) m pl) Q E s:=by
 obtain ⟨vs,sl,e1,nv⟩:=(I.hok a _ hx).1
 exact meth_exc (od:=none) I.kIn ⟨e1,rfl,rfl,trivial⟩ q.ga q.gh k.at_ (beq_iff_eq.mp k.fn) rfl h
theorem methx_ok1{m:Str}{g:Addr}{pl:Sem Bool}{Q:Value×List Value→Shared→Prop}(I:Inv X pins σ H s)(q:ExcG X.K C)(hx:H a=some (exO nw a C (some dx)))(hd:H dx=some (exD dx fs))(l:fs.lookup m=none)(k:Meth X.K C m g)(h:Q (.ref g,[.ref a]) s):
 wpAny (model X.prog X.w) A (getMethod (.ref a) m pl) Q E s:=by
 obtain ⟨vs,sl,e1,nv⟩:=(I.hok a _ hx).1
 obtain ⟨_,mA,hn,r,wi⟩:=(I.hok dx _ hd).1
 obtain ⟨od,ho,hlk⟩:=lookIn_ns hn
 have hm:mA m=none:=RelO.none_of (by rw [← l];exact r m)
 exact meth_exc (od:=some od) I.kIn ⟨e1,rfl,rfl,ho⟩ q.ga q.gh k.at_ (beq_iff_eq.mp k.fn) (by show (PySem.W.lookIn m od).map (·.isSome)=some false;rw [hlk,hm];rfl) h
end
section
variable {X:Cx} {pins:List (Addr×Obj)} {σ:St} {H H1:Hp} {s s1:Shared} {x:Addr} {o:HO}
theorem Inv.track(I:Inv X pins σ H1 s1)(hex:X.ex=[])(hn:s1.heap.get? x=none)(J:Inv X pins σ H s)(hx:H x=none)(new:ObjOk X.prog X.w (upd H x o) s.heap x o):Inv X pins σ (upd H x o) s:=by
 have n0:X.s₀.heap.get? x=none:=by
  cases q:X.s₀.heap.get? x with
  | none=>rfl
  | some v=>obtain ⟨o1,e1⟩:=I.base.there x v q (by rw [hex];simp);rw [hn]at e1;cases e1
 have nl:x≠X.env.locals:=by
  rintro rfl
  obtain ⟨m,⟨o1,es,ep,e,_⟩,_⟩:=I.loc
  rw [hn]at e;cases e
 have nc:∀y c,X.env.cells.lookup y=some c→c≠x:=by
  rintro y c hc rfl
  obtain ⟨v,o1,e,_⟩:=I.cell y c hc
  rw [hn]at e;cases e
 have np:∀p∈X.pn++pins,p.1≠x:=fun p hp z=>by
  have e:=(I.pin p hp).1
  rw [z,hn]at e;cases e
 refine ⟨J.ok,J.os,J.bare,⟨J.base.keep,J.base.slot,fun b o e n hb=>?_,J.base.there,fun b xs e=>?_,fun b o v e=>?_,fun b ps e=>?_⟩,J.loc,J.cell,?_,fun y c hc=>?_,fun p hp=>?_,fun b u e=>?_,J.len⟩
 · rw [upd_ne (by rintro rfl;rw [n0]at e;cases e)];exact J.base.free b o e n hb
 · have e1:=J.base.tups b xs e;rw [upd_ne (ne_of_none e1 hx)];exact e1
 · have e1:=J.base.frzs b o v e;rw [upd_ne (ne_of_none e1 hx)];exact e1
 · obtain ⟨m,e1⟩:=J.base.tbls b ps e;exact ⟨m,by rw [upd_ne (ne_of_none e1 hx)];exact e1⟩
 · rw [upd_ne nl.symm];exact J.free
 · rw [upd_ne (nc y c hc)];exact J.freeC y c hc
 · obtain ⟨a1,a2,a3,a4,a5⟩:=J.pin p hp
   exact ⟨a1,by rw [upd_ne (np p hp)];exact a2,a3,a4,a5⟩
 · by_cases hb:b=x
   · subst hb
     rw [upd_same]at e;cases e
     exact new
   · rw [upd_ne hb]at e
     exact (J.hok b u e).stay (fun _ _ _ q=>q) (fun c q=>by rw [upd_ne (ne_of_none q hx)];exact q) fun c xs q=>by rw [upd_ne (ne_of_none q hx)];exact q
theorem put_names{fs:List (Str×V)}{mA:Str→Option Value}{f:Str}{y:V}{u:Value}(r:∀g,RelO (fs.lookup g) (mA g))(wi:PySem.Within mA (fs.map (·.1)))(ry:RelV y u):
 (∀g,RelO ((putF f y fs).lookup g) (if g=f then some u else mA g))∧PySem.Within (fun g=>if g=f then some u else mA g) ((putF f y fs).map (·.1)):=by
 refine ⟨fun g=>?_,fun g hg=>?_⟩
 · rw [lookup_putF]
   by_cases e:g=f
   · rw [if_pos e,if_pos e];exact ry
   · rw [if_neg e,if_neg e];exact r g
 · by_cases e:g=f
   · subst e;exact (keys_putF g y fs).1
   · exact (keys_putF f y fs).2 g (wi g fun z=>hg (by show (if g=f then some u else mA g)=none;rw [if_neg e,z]))
theorem exD_ok{P:Program}{w:World}{h':Heap}{dx:Addr}{fs:List (Str×V)}{mA:Str→Option Value}(hl:fs.length≤1000)(hn:h'.Ns1 dx mA)(r:∀g,RelO (fs.lookup g) (mA g))(wi:PySem.Within mA (fs.map (·.1))):ObjOk P w H h' dx (exD dx fs):=by
 refine ⟨⟨hl,mA,hn,r,wi⟩,?_,fun h1 h2 ⟨b1,mB,b2,b3,b4⟩ k=>?_⟩
 · obtain ⟨o1,es,ep,e2,_⟩:=id hn;exact ⟨o1,e2⟩
 · obtain ⟨o1,es,ep,e2,e3⟩:=id b2
   exact ⟨b1,mB,⟨o1,es,ep,k _ e2,e3⟩,b3,b4⟩
theorem setx_ok0{nw:Bool}{a C B:Addr}{f:Str}{y:V}{u:Value}{A:Around}{E:Value→Shared→Prop}{Q:Unit→Shared→Prop}(I:Inv X pins σ H s)(hex:X.ex=[])(q:ExcQ X.K C B)(hx:H a=some (exO nw a C none))(n:PySem.W.findIn X.K (.ref C) f=some none)(ry:RelV y u)
 (h:∀dx s',H dx=none→Inv X pins σ (upd (upd H a (exO nw a C (some dx))) dx (exD dx (putF f y []))) s'→Q () s'):wpAny (model X.prog X.w) A (setAttr (.ref a) f u) Q E s:=by
 obtain ⟨vs,sl,e1,nv⟩:=(I.hok a _ hx).1
 obtain ⟨cd,c1,c2,c3⟩:=q.cd
 refine set_exc0 I.kIn e1 q.sa c1 c2 c3 n fun h' k1 k2 k3=>?_
 have hd0:H s.heap.objs.size=none:=I.hok.fresh (Nat.le_refl _)
 have nda:s.heap.objs.size≠a:=fun e=>by rw [e,hx]at hd0;cases hd0
 have J:Inv X pins σ (upd H a (exO nw a C (some s.heap.objs.size))) {s with heap:=h',toks:=s.toks+2}:=
  I.write (x:=a) (e:=a) (by rw [hx];exact True.intro) (.inl rfl) k3 ⟨_,k1⟩ (exO_ok k1 nv)
 refine h _ _ hd0 (Inv.track I hex (Heap.get?_none_of_le (Nat.le_refl _)) J (by rw [upd_ne nda];exact hd0) ?_)
 have pn:=put_names (fs:=[]) (mA:=fun _=>none) (f:=f) (fun _=>trivial) (fun g hg=>absurd rfl hg) ry
 exact exD_ok (by simp [putF]) k2 pn.1 pn.2
theorem setx_ok1{nw:Bool}{a dx C B:Addr}{fs:List (Str×V)}{f:Str}{y:V}{u:Value}{A:Around}{E:Value→Shared→Prop}{Q:Unit→Shared→Prop}(I:Inv X pins σ H s)(q:ExcQ X.K C B)(hx:H a=some (exO nw a C (some dx)))(hd:H dx=some (exD dx fs))(hl:fs.length < 1000)(n:PySem.W.findIn X.K (.ref C) f=some none)(ry:RelV y u)
 (h:∀s',Inv X pins σ (upd H dx (exD dx (putF f y fs))) s'→Q () s'):wpAny (model X.prog X.w) A (setAttr (.ref a) f u) Q E s:=by
 obtain ⟨vs,sl,e1,nv⟩:=(I.hok a _ hx).1
 obtain ⟨_,mA,hn,r,wi⟩:=(I.hok dx _ hd).1
 obtain ⟨cd,c1,c2,c3⟩:=q.cd
 refine set_exc1 I.kIn e1 hn wi (by rw [List.length_map,sizeLine_eq];omega) q.sa c1 c2 c3 n fun h' k1 k2=>h _ ?_
 have pn:=put_names (f:=f) r wi ry
 have:=length_putF f y fs
 obtain ⟨o1,es,ep,e2,_⟩:=id k1
 exact I.write (x:=dx) (e:=dx) (by rw [hd];exact True.intro) (.inl rfl) (fun b v nb z=>(k2 b nb).trans z) ⟨_,e2⟩ (exD_ok (by omega) k1 pn.1 pn.2)
end
noncomputable def tFldX(K:PySem.W.Frag)(ta:TE)(f:Str):TE:=fun σ H Q=>ta σ H fun x H1=>∃nw a C B dx fs v,x= .ref a∧H1 a=some (exO nw a C (some dx))∧H1 dx=some (exD dx fs)∧ExcQ K C B∧PySem.W.findIn K (.ref C) f=some none∧fs.lookup f=some v∧Q v H1
noncomputable def sFldX(K:PySem.W.Frag)(ta tv:TE)(f:Str):TS:=fun D σ H=>tv σ H fun y H1=>ta σ H1 fun x H2=>∃nw a C B,x= .ref a∧ExcQ K C B∧PySem.W.findIn K (.ref C) f=some none∧
 ((H2 a=some (exO nw a C none)∧∀dx,H2 dx=none→D.nx σ (upd (upd H2 a (exO nw a C (some dx))) dx (exD dx (putF f y []))))∨
  ∃dx fs,H2 a=some (exO nw a C (some dx))∧H2 dx=some (exD dx fs)∧fs.length < 1000∧D.nx σ (upd H2 dx (exD dx (putF f y fs))))
noncomputable def tMethX(C:Addr)(m:Str)(sp:Sp)(EE:St→XK)(ta:TE):TE:=fun σ H Q=>ta σ H fun x H1=>∃nw a,x= .ref a∧(H1 a=some (exO nw a C none)∨∃dx fs,H1 a=some (exO nw a C (some dx))∧H1 dx=some (exD dx fs)∧fs.lookup m=none)∧sp [x] H1 Q (EE σ)
section
variable {X:Cx} {CX:CXT} {k j:Nat} {C B:Addr} {ps:List Str} {sp:Sp} {EE:St→XK} {f m:Str} {pos pos' apos:Pos} {e o value:Expr} {ta tv:TE}
theorem pe_fldX(he:PE X e ta)(hb:attributeBase e f X.env (eval e X.env)=eval e X.env):PE X (.Attribute e f pos) (tFldX X.K ta f):=by
 intro pins s σ H Q I h
 refine attr_of hb (thn (he pins s σ H _ I h) fun u s1 hq_=>?_)
 obtain ⟨x,H1,I1,rx,nw,a,C,B,dx,fs,v,ex,ea,ed,q,n,l,z⟩:=hq_
 subst ex
 cases (show u=Value.ref a from rx)
 exact getx_ok I1 q ea ed n l fun u' s2 I2 ru=>⟨v,H1,I2,ru,z⟩
theorem ps_fldX(hex:X.ex=[])(ha:PE X o ta)(hv:PE X value tv)(hs:swapsWith value (some (.Attribute o f pos')) pos.line X.env=pure false):PS X (.Assign [.Attribute o f pos'] value pos) (sFldX X.K ta tv f):=by
 intro pins s σ H D I h
 refine plainObj_wpAny_Assign_Attribute (thn (hv pins s σ H _ I h) fun u s1 ⟨y,H1,I1,ry,q⟩=>thn (ha pins s1 σ H1 _ I1 q) fun ov s2 hq_=>?_) hs
 obtain ⟨x,H2,I2,rx,nw,a,C,B,ex,c,n,z⟩:=hq_
 subst ex
 cases (show ov=Value.ref a from rx)
 rcases z with ⟨ea,z⟩ | ⟨dx,fs,ea,ed,l,z⟩
 · exact setx_ok0 I2 hex c ea n ry fun dx s3 hd I3=>⟨σ,_,I3,z dx hd⟩
 · exact setx_ok1 I2 c ea ed l n ry fun s3 I3=>⟨σ,_,I3,z⟩
end
structure MkX(K:PySem.W.Frag)(C f:Addr):Prop where
 at_:∀h:Heap,K.In h→∃(nm q:Str) (N:Addr) (bs bm:List Value) (hd:Bool) (sn:List Str) (su:List Value) (ab:Bool) (co:Option Bool) (dd:Option Addr) (k0 k1 k2 k3 k5:Option Value) (mN:Str→Option Value),
  h.get? C=some (excClassObj nm q C N bs bm hd sn su ab co dd k0 k1 k2 k3 k5 "ValueError.__new__")∧h.Ns N mN∧mN "__init__"=some (.ref f)∧OwnTail h veTail bm
 fn:∃oI:Obj,K.lookup f=some oI∧oI.cls= .type "function"
 kp:PySem.W.keepIn K (.ref C)=true
structure DefX(P:Program)(w:World)(K:PySem.W.Frag)(mg:Str→Option Value)(base:Heap)(CX:CXT)(k:Nat)(x:Str)(C:Addr)(ps:List Str)(sp:Sp):Prop where
 ex:∃(f:Addr) (fd:FuncData),FnOk P w K mg base CX k f fd ps sp∧MkX K C f∧mg x=some (.ref C)∧Binds K fd ps []
noncomputable def tExcI(C:Addr)(sp:Sp)(EE:St→XK)(t:TA):TE:=fun σ H Q=>t σ H fun vs H1=>vs.length≤sizeLine∧∀x,H1 x=none→sp (.ref x::vs) (upd H1 x (exO true x C none)) (fun v H2=>v= .non∧Q (.ref x) H2) (EE σ)
section
variable {X:Cx} {CX:CXT} {k j:Nat} {C:Addr} {ps:List Str} {sp:Sp} {EE:St→XK} {x:Str} {p pos:Pos} {e:Expr} {es:List Expr} {t:TA}
theorem pe_excI(D:DefX X.prog X.w X.K X.mg X.base CX j x C ps sp)(hex:X.ex=[])(hr:Room k X.A)(hg:Gl X x)(hx:PassesS CX X EE)(ha:PA X (e::es) t)(hj:j+1≤k:=by decide)(hdb:(x==("__debug__":Str))=false:=by decide)
 (he:starEach (e::es) X.env=(false,eval e X.env)::starEach es X.env:=by rfl) (hpl:(backTo pos (starEach es X.env)).any (·.1)=false:=by rfl):
 PE X (.Call (.Name x p) (e::es) [] pos) (tExcI C sp EE t):=by
 obtain ⟨f,fd,F,M,hm,hb⟩:=D.ex
 intro pins s0 σ H0 Q I0 h
 refine wpAny_Call_Name_kw (ld_glob I0 hg hm ?_ hdb)
 refine PySem.W.callWith_K (h₀:=X.base) I0.ok.mod.kin M.kp (thn (ha pos pins s0 σ H0 _ I0 h) fun us s ⟨vs,H,I,r,z,q⟩=>⟨I.kIn,?_⟩) he hpl
 obtain ⟨nm,qn,N,bs,bm,hd,sn,su,ab,co,dd,k0,k1,k2,k3,k5,mN,c1,c2,c3,c4⟩:=M.at_ s.heap I.kIn
 obtain ⟨oI,f1,f2⟩:=M.fn
 have f3:=I.kIn _ _ f1
 obtain ⟨hp,gn,dr,tk,os⟩:=s
 refine call_initT PySem.F.excBase_ValueError c4 c1 c2 c3 f3 f2 (fun h' y hy=>?_) (by show us.length≤sizeLine;rw [← r.length];exact z)
 obtain ⟨t0,e1,_,_⟩:=hy.there
 have nv:true=true→∃t,(#[.ref t0,.none,.none,.none,.bool false,.none]:Array Value)=#[.ref t,.none,.none,.none,.bool false,.none]:=fun _=>⟨t0,rfl⟩
 have hy0:H y=none:=by
  cases w':H y with
  | none=>rfl
  | some v=>obtain ⟨o1,e2⟩:=I.hok.there w';rw [hy.new]at e2;cases e2
 have hq:=q y hy0
 have I2:Inv X pins σ (upd H y (exO true y C none)) ⟨h',gn,dr,tk,os⟩:=I.born hex hy.keeps hy.new (exO_ok e1 nv)
 have r2:Vals (V.ref y::vs) (Value.ref y::us):= .cons rfl r
 have hl:(Value.ref y::us).length=ps.length:=by rw [← r2.length];exact F.len _ _ _ _ hq
 have hb':=hb ⟨h',gn,dr,tk,os⟩ (Value.ref y::us) I2.kIn (by simpa using hl)
 rw [List.append_nil]at hb'
 have hr':Room (j+1) X.A:=hr.mono hj
 refine wpAny_call (codeAny_mono (F.run _ X.stack _ _ ⟨Value.ref y::us,[]⟩ (Value.ref y::us) _ _ (EE σ) (hr'.make C us []) (I2.env0.make C us []) hb' r2 hq) fun r3 s' hq'=>?_)
 cases r3 with
 | error e=>exact hx pins σ _ _ e s' I2 hq'
 | ok fl=>
  cases fl with
  | ret u=>
   obtain ⟨v,H',I3,rv,ev,q3⟩:=I2.after hq'
   subst ev
   exact ⟨rv,⟨V.ref y,H',I3,rfl,q3⟩⟩
  | next=>exact False.elim hq'
  | brk=>exact False.elim hq'
  | cont=>exact False.elim hq'
end
end L2
namespace L2
open Sem (wp)
noncomputable def Lies(h:Heap)(x C:Addr)(od:Option Addr):Prop:=∃vs sl,h.get? x=some ⟨.ref C,od,.fields vs,sl⟩
section
variable {M:Model} {A:Around} {E:Value→Shared→Prop} {s:Shared} {base:Heap} {env:Env} {outer l:List Env} {L x C:Addr} {od:Option Addr} {vs:Array Value} {sl:Array (Option Value)} {a0 fl:Value} {Q:Unit→Shared→Prop}
theorem entry2{g1:Heap}{oT:Obj}{ts:Array Value}(tT:oT.data= .fields ts)(t3:ts[3]?=some fl)(ff:s.heap.FunFrames base l)(ex:s.heap.get? x=some ⟨.ref C,od,.fields vs,sl⟩)
 (s1:Heap.SlotsOnly (l.filterMap (·.frame)) s.heap g1) (y1:g1.get? x=some ⟨.ref C,od,.fields vs,sl⟩) (b1:base.StaysIn g1) (bx:base.get? x=none) (z1:1 < vs.size) (z0:vs[0]?=some a0)
 (q:∀h',Heap.NotedW base l x (.ref C) a0 fl s.heap h'→Lies h' x C od→Q () {s with heap:=h'}):
 wpAny M A (setField (.ref x) 1 (.ref g1.objs.size)) Q E {s with heap:=g1.push oT}:=by
 have y2:=Heap.get?_push_of_some oT y1
 have nT:g1.objs.size≠x:=Nat.ne_of_gt (Heap.lt_size y1)
 have y3:((g1.push oT).update x (Obj.mapFields (·.setIfInBounds 1 (.ref g1.objs.size)))).get? x=some ⟨.ref C,od,.fields (vs.setIfInBounds 1 (.ref g1.objs.size)),sl⟩:=Heap.get?_update_self _ y2 rfl
 have kp:∀b o,b≠x→g1.get? b=some o→((g1.push oT).update x (Obj.mapFields (·.setIfInBounds 1 (.ref g1.objs.size)))).get? b=some o:=fun b o nb e=>(Heap.get?_update_other _ _ (Ne.symm nb)).trans (Heap.get?_push_of_some _ e)
 have nr:∀b o,s.heap.get? b=some o→(∀us,o.data≠ .fields us)→b≠x:=fun b o e n z=>by rw [z,ex]at e;cases e;exact n vs rfl
 refine wpAny_setField y2 rfl z1 (q _ ⟨fun b o e=>kp b o (fun z=>by rw [z,bx]at e;cases e) (b1 b o e),ff.of_keeps fun b o e n=>?_,?_,fun b o e n=>?_⟩ ⟨_,_,y3⟩)
 · obtain ⟨r,e1⟩:=s1.2.2 b o e;exact ⟨_,kp b _ (nr b o e n) e1,rfl⟩
 · exact ⟨_,_,g1.objs.size,oT,ts,y3,⟨rfl,by rw [Array.getElem?_setIfInBounds_ne (by decide)];exact z0⟩,rfl,by simp [z1],b1.fresh,nT,(Heap.get?_update_other _ _ (Ne.symm nT)).trans (Heap.get?_push_size g1 (Obj.isFreed_of_fields tT)),tT,t3⟩
 · obtain ⟨r,e1⟩:=s1.2.2 b o e;exact ⟨r,kp b _ (nr b o e n) e1⟩
theorem entryD{hv:Value}{nx:Bool}(fr:A.frames=some (env::outer))(ff:s.heap.FunFrames base (env::outer))(el:env.frame=some L)
 (ex:s.heap.get? x=some ⟨.ref C,od,.fields vs,sl⟩) (bs:base.StaysIn s.heap) (bx:base.get? x=none) (z1:1 < vs.size) (z0:vs[0]?=some a0)
 (q:∀h',Heap.NotedW base (env::outer) x (.ref C) a0 (rawInt L) s.heap h'→Lies h' x C od→Q () {s with heap:=h'}):
 wpAny M A (do let a ← frameOf env;let pl ← entryPlaceOf L nx;let b ← EntryCells.newEntry hv a .none (rawInt L) .none pl;setField (.ref x) 1 b) Q E s:=by
 have nf:x∉(env::outer).filterMap (·.frame):=fun hm=>by
  obtain ⟨_,o1,e1,n1⟩:=ff.mem hm
  rw [ex]at e1;cases e1;exact n1 vs rfl
 refine wpAny_bind (wpAny_frameOf_fun fr ff el fun g1 s1=>wpAny_bind (wpAny_entryPlaceOf fun pl ip=>?_))
 unfold EntryCells.newEntry newFields
 refine wpAny_bind (wpAny_newObj_type ?_ (ip.sizeOk5 _ _ _ _ _))
 have y1:=(s1.2.1 x nf).trans ex
 have b1:base.StaysIn g1:=fun b o e=>(s1.2.1 b fun hm=>by rw [(ff.mem hm).1]at e;cases e).trans (bs b o e)
 refine entry2 (s:=s) (fl:=rawInt L) rfl ?_ ff ex s1 y1 b1 bx z1 z0 q
 first | (simp;done) | (rcases ip with rfl | ⟨_,_,_,_,_,_,_,rfl⟩ <;> simp)
theorem landD(bs:base.StaysIn s.heap)(ff:s.heap.FunFrames base l)(tr:s.heap.TracedAtW base x (.ref C) a0 fl)(ly:Lies s.heap x C od)
 (q:∀h',base.StaysIn h'→h'.FunFrames base l→h'.TracedW base x (.ref C) a0→s.heap.UpToSlots h'→Lies h' x C od→Q () {s with heap:=h'}):wpAny M A (setFlight (.ref x) none) Q E s:=by
 obtain ⟨oe,ws,T,oT,ts,e1,c1,d1,d2,n1,n2,e3,d3,t3⟩:=tr
 obtain ⟨v2,s2,l1⟩:=ly
 have z3:3 < ts.size:=(Array.getElem?_eq_some_iff.mp t3).1
 unfold setFlight
 refine wpAny_bind (wpAny_field e1 d1 d2 ?_)
 rw [if_pos (show (Value.ref T !=Value.none)=true from by simp)]
 have oth:∀b,b≠T→(s.heap.update T (Obj.mapFields (·.setIfInBounds 3 ((none:Option Addr).elim Value.none fun f=>rawInt f)))).get? b=s.heap.get? b:=fun b nb=>Heap.get?_update_other _ _ (Ne.symm nb)
 have nr:∀b o,s.heap.get? b=some o→(∀us,o.data≠ .fields us)→b≠T:=fun b o e n z=>by rw [z,e3]at e;cases e;exact n ts d3
 refine wpAny_setField e3 d3 z3 (q _ (fun b o e=>(oth b fun z=>by rw [z,n1]at e;cases e).trans (bs b o e)) (ff.of_keeps fun b o e n=>⟨o,(oth b (nr b o e n)).trans e,rfl⟩) ?_ (fun b o e n=>⟨o.slots,(oth b (nr b o e n)).trans e⟩) ⟨v2,s2,(oth x (Ne.symm n2)).trans l1⟩)
 exact ⟨oe,ws,T,_,_,(oth x (Ne.symm n2)).trans e1,c1,d1,d2,n1,n2,Heap.get?_update_self _ e3 (Obj.isFreed_of_fields (Obj.data_mapFields d3 _)),Obj.data_mapFields d3 _,by simp [z3]⟩
theorem noteD(fr:A.frames=some (env::outer))(ff:s.heap.FunFrames base (env::outer))(el:env.frame=some L)(tr:s.heap.TracedW base x (.ref C) a0)(bs:base.StaysIn s.heap)(bx:base.get? x=none)(ly:Lies s.heap x C od)
 (q:∀h',Heap.NotedW base (env::outer) x (.ref C) a0 (rawInt L) s.heap h'→Lies h' x C od→Q () {s with heap:=h'}):wpAny M A (noteFrame (.ref x) env) Q E s:=by
 obtain ⟨oe,ws,T,oT,ts,e1,⟨c1,c2⟩,d1,d2,n1,n2,e3,d3,t3⟩:=tr
 obtain ⟨v2,s2,l1⟩:=ly
 rw [l1]at e1;cases e1;cases d1
 unfold noteFrame
 simp only [el]
 refine wpAny_bind (wpAny_field l1 rfl d2 ?_)
 rw [if_pos (show (Value.ref T !=Value.none)=true from by simp)]
 refine wpAny_bind (wpAny_field e3 d3 t3 ?_)
 rw [if_neg (show ¬((Value.none==rawInt L)=true) from by simp [rawInt])]
 refine wpAny_bind (wpAny_setField e3 d3 (Array.getElem?_eq_some_iff.mp t3).1 ?_)
 have oth:∀b,b≠T→(s.heap.update T (Obj.mapFields (·.setIfInBounds 3 Value.none))).get? b=s.heap.get? b:=fun b nb=>Heap.get?_update_other _ _ (Ne.symm nb)
 have nr:∀b o,s.heap.get? b=some o→(∀us,o.data≠ .fields us)→b≠T:=fun b o e n z=>by rw [z,e3]at e;cases e;exact n ts d3
 refine entryD fr (ff.of_keeps fun b o e n=>⟨o,(oth b (nr b o e n)).trans e,rfl⟩) el ((oth x (Ne.symm n2)).trans l1) (fun b o e=>(oth b fun z=>by rw [z,n1]at e;cases e).trans (bs b o e)) bx (Array.getElem?_eq_some_iff.mp d2).1 c2 fun h' N ly'=>q h' ⟨N.1,N.2.1,N.2.2.1,fun b o e n=>N.2.2.2 b o ((oth b (nr b o e n)).trans e) n⟩ ly'
noncomputable def FlyD(base:Heap)(l:List Env)(x C:Addr)(od:Option Addr)(a0:Value)(h:Heap):Prop:=Heap.FlyingW base l x (.ref C) a0 h∧Lies h x C od
theorem leavesD(fr:A.frames=some (env::outer))(el:env.frame=some L)(f:FlyD base (env::outer) x C od a0 s.heap)(q:∀h',FlyD base outer x C od a0 h'→s.heap.UpToSlots h'→Q () {s with heap:=h'}):wpAny M A (leaving env (.ref x)) Q E s:=by
 obtain ⟨⟨f1,f2,f3,f4⟩,ly⟩:=f
 unfold leaving
 refine wpAny_bind (noteD fr f3 el f4 f1 f2 ly fun h1 N l1=>landD (s:={s with heap:=h1}) N.1 N.2.1 N.2.2.1 l1 fun h2 b2 g2 t2 u2 l2=>?_)
 obtain ⟨_,_,g3⟩:=g2
 exact q h2 ⟨⟨b2,f2,g3,t2⟩,l2⟩ (Heap.UpToSlots.trans N.2.2.2 u2)
theorem leavesD1{t:Addr}(fr:A.frames=some (env::outer))(el:env.frame=some L)(bs:base.StaysIn s.heap)(ff:s.heap.FunFrames base (env::outer))(bx:base.get? x=none)(ex:s.heap.get? x=some ⟨.ref C,od,.fields #[.ref t,.none,.none,.none,.bool false,.none],sl⟩)
 (q:∀h',FlyD base outer x C od (.ref t) h'→s.heap.UpToSlots h'→Q () {s with heap:=h'}):wpAny M A (leaving env (.ref x)) Q E s:=by
 unfold leaving noteFrame
 simp only [el]
 refine wpAny_bind (wpAny_bind (wpAny_field ex rfl (x:= .none) rfl ?_))
 rw [if_neg (by decide)]
 refine entryD fr ff el ex bs bx (by simp) rfl fun h1 N l1=>landD (s:={s with heap:=h1}) N.1 N.2.1 N.2.2.1 l1 fun h2 b2 g2 t2 u2 l2=>?_
 obtain ⟨_,_,g3⟩:=g2
 exact q h2 ⟨⟨b2,bx,g3,t2⟩,l2⟩ (Heap.UpToSlots.trans N.2.2.2 u2)
end
noncomputable def CXF(P:Program)(w:World):CXT:=fun outer H s E e s'=>∃(x C:Addr) (od:Option Addr) (a0:Value) (H':Hp) (B:Heap),e= .ref x∧s'.os=s.os∧AllBare s'.gens∧Un (frs outer) [] H H' s.heap s'.heap∧HOk P w H' s'.heap∧
 FlyD B outer x C od a0 s'.heap∧Spares (frs outer) H' s.heap s'.heap B∧H' x=none∧s.heap.get? x=none∧E (.ref C) (some x) (upd H' x (exO false x C od))
noncomputable def rem(H:Hp)(x:Addr):Hp:=fun b=>if b=x then none else H b
theorem rem_ne{H:Hp}{x b:Addr}(n:b≠x):rem H x b=H b:=if_neg n
theorem rem_same{H:Hp}{x:Addr}:rem H x x=none:=if_pos rfl
theorem upd_rem{H:Hp}{x:Addr}{o:HO}:upd (rem H x) x o=upd H x o:=by
 funext b
 by_cases h:b=x
 · subst h;rw [upd_same,upd_same]
 · rw [upd_ne h,upd_ne h,rem_ne h]
section
variable {X:Cx} {pins:List (Addr×Obj)} {σ:St} {H2:Hp} {s2:Shared} {h3:Heap} {n:Bool} {x C:Addr} {od:Option Addr}
theorem leaveX(I:Inv X pins σ H2 s2)(hex:X.ex=[])(hx:H2 x=some (exO n x C od))(x0:X.s₀.heap.get? x=none)(st:(PySem.W.hideAll s2.heap (x::frs X.stack)).StaysIn h3)(up:s2.heap.UpToSlots h3):
 Un X.fs [] X.H₀ (rem H2 x) X.s₀.heap h3∧HOk X.prog X.w (rem H2 x) h3∧Spares X.fs (rem H2 x) X.s₀.heap h3 (PySem.W.hideAll s2.heap (x::frs X.stack)):=by
 have bs:=I.base
 rw [hex]at bs
 have nl:∀b o,X.s₀.heap.get? b=some o→b≠X.env.locals:=fun b o e=>Nat.ne_of_lt (Nat.lt_of_lt_of_le (Heap.lt_size e) I.ok.above)
 have ns:∀b o,X.s₀.heap.get? b=some o→b∉X.fs→b∉frs X.stack:=fun b o e n hb=>(List.mem_cons.mp (I.stkSub b hb)).elim (nl b o e) n
 have nx:∀b o,X.s₀.heap.get? b=some o→b≠x:=fun b o e z=>by rw [z,x0]at e;cases e
 have sub:∀b∈X.fs,b∈frs X.stack:=fun b hb=>by
  rcases I.ok.stk with e | ⟨e,hf⟩
  · rw [e];exact hb
  · rw [e];unfold frs;rw [List.filterMap_cons,hf];exact List.mem_cons_of_mem _ hb
 have hid:∀b o,s2.heap.get? b=some o→b≠x→b∉frs X.stack→(PySem.W.hideAll s2.heap (x::frs X.stack)).get? b=some o:=fun b o e n1 n2=>PySem.W.hideAll_get _ e (fun z=>(List.mem_cons.mp z).elim n1 n2)
 have kp:∀b o,s2.heap.get? b=some o→b≠x→b∉frs X.stack→h3.get? b=some o:=fun b o e n1 n2=>st b o (hid b o e n1 n2)
 have tr:∀b o,H2 b=some o→b∉frs X.stack:=fun b o e hb=>by rw [I.stkFree b hb]at e;cases e
 have sl:∀b o,X.s₀.heap.get? b=some o→X.H₀ b=none→b∈X.fs→b∉([]:List Addr)→∃r,h3.get? b=some {o with slots:=r}:=fun b o e n hb hx=>by
  obtain ⟨r1,e1⟩:=bs.slot b o e n hb hx
  obtain ⟨o',e',d⟩:=I.frm b (sub b hb)
  rw [e1]at e';cases e'
  obtain ⟨r2,e2⟩:=up b _ e1 d
  exact ⟨r2,e2⟩
 have th:∀b o,X.s₀.heap.get? b=some o→∃o',s2.heap.get? b=some o':=fun b o e=>bs.there b o e (by simp)
 refine ⟨⟨fun b o e n hb hx=>kp b o (bs.keep b o e n hb hx) (nx b o e) (ns b o e hb),sl,fun b o e n hx=>?_,fun b o e hx=>?_,fun b xs e=>?_,fun b o v e=>?_,fun b ps e=>?_⟩,fun a o e=>?_,fun b o e hb c=>?_⟩
 · rw [rem_ne (nx b o e)];exact bs.free b o e n hx
 · obtain ⟨o',e1⟩:=th b o e
   by_cases hb:b∈frs X.stack
   · obtain ⟨o2,e2,d⟩:=I.frm b hb
     rw [e1]at e2;cases e2
     obtain ⟨r2,e3⟩:=up b _ e1 d
     exact ⟨_,e3⟩
   · exact ⟨o',kp b o' e1 (nx b o e) hb⟩
 · have e1:=bs.tups b xs e
   rw [rem_ne (fun z=>by rw [z,hx]at e1;cases e1)];exact e1
 · have e1:=bs.frzs b o v e
   rw [rem_ne (fun z=>by rw [z,hx]at e1;cases e1)];exact e1
 · obtain ⟨m1,e1⟩:=bs.tbls b ps e
   exact ⟨m1,by rw [rem_ne (fun z=>by rw [z,hx]at e1;cases e1)];exact e1⟩
 · have na:a≠x:=fun z=>by rw [z,rem_same]at e;cases e
   rw [rem_ne na]at e
   refine (I.hok a o e).stay (fun b v hc q=>?_) (fun b q=>?_) fun b xs q=>?_
   · rcases hc with rfl | hc
     · exact kp _ _ q na (tr _ _ e)
     · exact kp _ _ q (fun z=>by rw [z,hx]at hc;cases hc) (tr _ _ hc)
   · rw [rem_ne (fun z=>by rw [z,hx]at q;cases q)];exact q
   · rw [rem_ne (fun z=>by rw [z,hx]at q;cases q)];exact q
 · have w:∃o1,s2.heap.get? b=some o1∧b≠x∧b∉frs X.stack:=by
    rcases c with c | ⟨u0,e0⟩
    · cases q:rem H2 x b with
      | none=>exact absurd q c
      | some v=>
       have nb:b≠x:=fun z=>by rw [z,rem_same]at q;cases q
       rw [rem_ne nb]at q
       obtain ⟨o1,e1⟩:=I.hok.there q
       exact ⟨o1,e1,nb,tr _ _ q⟩
    · obtain ⟨o1,e1⟩:=th b u0 e0
      exact ⟨o1,e1,nx b u0 e0,ns b u0 e0 hb⟩
   obtain ⟨o1,e1,n1,n2⟩:=w
   have e2:=kp b o1 e1 n1 n2
   rw [e]at e2;cases e2
   exact hid b o e1 n1 n2
end
section
variable {P:Program} {w:World} {K:PySem.W.Frag} {mg:Str→Option Value} {base:Heap} {N:List Str} {qual:Str} {scope:Scope} {f:Addr} {cd:Value} {A:Around} {outer:List Env} {s:Shared} {H:Hp} {E:XK}
theorem raise_outF{pins:List (Addr×Obj)}{σ:St}{H2:Hp}{s2:Shared}{x C:Addr}{od:Option Addr}(I:Inv (cxOf (CXF P w) P w K mg base N qual scope f cd A outer s H E) pins σ H2 s2)
 (hx:H2 x=some (exO true x C od)) (h0:H x=none) (q:E (.ref C) (some x) (upd H2 x (exO false x C od))):(cxOf (CXF P w) P w K mg base N qual scope f cd A outer s H E).xe (.ref x) s2:=by
 have x0:s.heap.get? x=none:=by
  cases z:s.heap.get? x with
  | none=>rfl
  | some v=>
   have e:=I.base.free x v z h0 (by intro c;exact absurd (show x∈([]:List Addr) from c) (by simp))
   rw [hx]at e;cases e
 obtain ⟨vs,sl,e1,nv⟩:=(I.hok x _ hx).1
 obtain ⟨t,rfl⟩:=nv rfl
 have hin:∀env∈(cxOf (CXF P w) P w K mg base N qual scope f cd A outer s H E).stack,∀a,env.frame=some a→a∈x::frs (cxOf (CXF P w) P w K mg base N qual scope f cd A outer s H E).stack:=fun env he a ha=>List.mem_cons_of_mem _ (List.mem_filterMap.mpr ⟨env,he,ha⟩)
 refine leavesD1 (base:=PySem.W.hideAll s2.heap (x::frs (cxOf (CXF P w) P w K mg base N qual scope f cd A outer s H E).stack)) I.ok.frames rfl (fun b o e=>PySem.W.of_hideAll _ e) (PySem.W.funFrames_hide I.stack hin) (PySem.W.hideAll_none _ (List.mem_cons_self ..)) e1 fun h3 fl up=>?_
 obtain ⟨U,ok3,hB3⟩:=leaveX I rfl hx x0 fl.1.1 up
 exact ⟨x,C,od,.ref t,rem H2 x,_,rfl,I.os,I.bare,U,ok3,fl,hB3,rem_same,x0,by rw [upd_rem];exact q⟩
theorem pass_onF:Passes (CXF P w) (cxOf (CXF P w) P w K mg base N qual scope f cd A outer s H E) E:=by
 intro pins σ H1 s1 e s2 I h
 obtain ⟨x,C,od,a0,H2,B,rfl,os,bare,u,ok,fl,hB,hx,hnew,q⟩:=h
 refine leavesD (base:=B) I.ok.frames rfl fl fun h3 fl3 up=>?_
 obtain ⟨U,ok3,hB3⟩:=leave_of I rfl u ok hB fl3.1.1 up
 refine ⟨x,C,od,a0,H2,B,rfl,os.trans I.os,bare,U,ok3,fl3,hB3,hx,?_,q⟩
 cases z:s.heap.get? x with
 | none=>rfl
 | some v=>
  obtain ⟨o1,e1⟩:=I.base.there x v z (by intro c;exact absurd (show x∈([]:List Addr) from c) (by simp))
  rw [hnew]at e1;cases e1
theorem own_outF:PassesOwn (model P w) (A.deeper (envOfC qual scope s.heap.objs.size f cd)) (envOfC qual scope s.heap.objs.size f cd) (cxOf (CXF P w) P w K mg base N qual scope f cd A outer s H E).xe:=PassesOwn.leaving
theorem Fun.okF{x:Str}{st:Stmt}{fd:FuncData}{ps:List Str}{k:Nat}{sp:Sp}(F:Fun K x qual st f fd)(S:FnScope N ps (defScope st))(len:∀vs H Q E,sp vs H Q E→vs.length=ps.length)
 (hbody:∀(cdv:Value) (A:Around) (outer:List Env) (s:Shared) (H:Hp) (vs:List V) (Q:VK) (E:XK),Room k (A.deeper (envOfC qual (defScope st) s.heap.objs.size f cdv))→sp vs H Q E→
  ∃t,PSs (cxOf (CXF P w) P w K mg base N qual (defScope st) f cdv A outer s H E) (defBody st) t∧t {nx:=fun _ H'=>Q .non H',rt:=Q} (start N vs) H):FnOk P w K mg base (CXF P w) (k+1) f fd ps sp:=by
 obtain ⟨oc,od,kV,doc,pm,an,cdv,ct,osl,rfl,lk,hcd⟩:=F.ex
 exact fn_of lk hcd S len fun A outer s H vs Q E hr hsp=>hbody cdv A outer s H vs Q E hr hsp
noncomputable def RaisesF(X:Cx)(H₀:Hp)(EE:St→XK):Prop:=∀(pins:List (Addr×Obj)) (σ:St) (H2:Hp) (s2:Shared) (x C:Addr) (od:Option Addr),
 Inv X pins σ H2 s2→H2 x=some (exO true x C od)→H₀ x=none→EE σ (.ref C) (some x) (upd H2 x (exO false x C od))→X.xe (.ref x) s2
theorem raisesF:RaisesF (cxOf (CXF P w) P w K mg base N qual scope f cd A outer s H E) H (fun _=>E):=fun _ _ _ _ _ _ _ I hx h0 q=>raise_outF I hx h0 q
theorem pass_noF{Y:Cx}:Passes (CXF P w) Y fun _ _ _=>False:=fun _ _ _ _ _ _ _ h=>by
 obtain ⟨_,_,_,_,_,_,_,_,_,_,_,_,_,_,_,z⟩:=h
 exact z.elim
end
structure ExK(K:PySem.W.Frag)(C:Addr):Prop where
 at_:∀h:Heap,K.In h→∃(nm q:Str) (N:Addr) (bs bm:List Value) (hd:Bool) (sn:List Str) (su:List Value) (ab:Bool) (co:Option Bool) (dd:Option Addr) (k0 k1 k2 k3 k5:Option Value) (nw:String),
  h.get? C=some (excClassObj nm q C N bs bm hd sn su ab co dd k0 k1 k2 k3 k5 nw)∧bm.contains (.type "BaseException")=true
theorem ExcC.k{K:PySem.W.Frag}{C:Addr}(M:ExcC K C):ExK K C:=⟨fun h X=>by
 obtain ⟨nm,q,N,bs,bm,hd,sn,su,ab,co,dd,k0,k1,k2,k3,k5,mN,c1,c2,c3,c4⟩:=M.at_ h X
 exact ⟨nm,q,N,bs,bm,hd,sn,su,ab,co,dd,k0,k1,k2,k3,k5,_,c1,c4.hasType (by decide)⟩⟩
theorem MkX.k{K:PySem.W.Frag}{C f:Addr}(M:MkX K C f):ExK K C:=⟨fun h X=>by
 obtain ⟨nm,q,N,bs,bm,hd,sn,su,ab,co,dd,k0,k1,k2,k3,k5,mN,c1,c2,c3,c4⟩:=M.at_ h X
 exact ⟨nm,q,N,bs,bm,hd,sn,su,ab,co,dd,k0,k1,k2,k3,k5,_,c1,c4.hasType (by decide)⟩⟩
noncomputable def tRaiseP(P:St→Addr→Hp→Prop)(ta:TE):TS:=fun _ σ H=>ta σ H fun v H2=>∃x,v= .ref x∧P σ x H2
section
variable {X:Cx} {H₀:Hp} {EE:St→XK} {C:Addr} {e:Expr} {ta:TE} {pos:Pos}
theorem ps_raiseP{P:St→Addr→Hp→Prop}(hP:∀σ x H2,P σ x H2→∃od,H2 x=some (exO true x C od)∧H₀ x=none∧EE σ (.ref C) (some x) (upd H2 x (exO false x C od)))(k:ExK X.K C)(hc:X.calm=true)(hx:RaisesF X H₀ EE)(he:PE X e ta):
 PS X (.Raise (some e) none pos) (tRaiseP P ta):=by
 intro pins s σ H D I h
 rw [arm_exec_Raise]
 refine wpAny_bind (wpAny_standAt ?_)
 show wpAny _ _ (raiseStmt X.env (some (do let v ← eval e X.env;standAt pos;pure v)) none) _ _ _
 unfold raiseStmt
 refine wpAny_bind (wpAny_bind (wpAny_mono (he pins s σ H _ I h) (fun v s1 hv=>wpAny_bind (wpAny_standAt (wpAny_pure ?_))) fun _ _ z=>z))
 obtain ⟨v',H2,I2,rx,x,ev,hp⟩:=hv
 obtain ⟨od,hx2,h0,q⟩:=hP σ x H2 hp
 subst ev
 cases (show v=Value.ref x from rx)
 obtain ⟨nm,qn,N,bs,bm,hd,sn,su,ab,co,dd,k0,k1,k2,k3,k5,nw,c1,c2⟩:=k.at_ s1.heap I2.kIn
 obtain ⟨vs,sl,e1,nv⟩:=(I2.hok x _ hx2).1
 obtain ⟨t,rfl⟩:=nv rfl
 have fin:=hx pins σ H2 s1 x C od I2 hx2 h0 q
 have hB:(Value.ref C::bm).contains (.type "BaseException")=true:=by rw [List.contains_cons,c2,Bool.or_true]
 obtain ⟨hp',g,d,tk,os⟩:=s1
 repeat (first | with_reducible refine wpAny_loadPart_at e1 ?_ | with_reducible refine wpAny_loadPart_at c1 ?_ | (with_reducible refine wpAny_isSubtype_exc c1 ?_;rw [hB]) | wp_step)
 exact wpAny_raiseNew_none (I.ok.hd hc) fin
end
noncomputable def pN(C:Addr)(H₀:Hp)(EE:St→XK):St→Addr→Hp→Prop:=fun σ x H2=>H2 x=some (exO true x C none)∧H₀ x=none∧EE σ (.ref C) (some x) (upd H2 x (exO false x C none))
noncomputable def pI(C:Addr)(H₀:Hp)(EE:St→XK):St→Addr→Hp→Prop:=fun σ x H2=>∃od,H2 x=some (exO true x C od)∧H₀ x=none∧EE σ (.ref C) (some x) (upd H2 x (exO false x C od))
section
variable {X:Cx} {H₀:Hp} {CX:CXT} {EE:St→XK} {k j:Nat} {C:Addr} {ps:List Str} {sp:Sp} {x:Str} {np cpos pos:Pos} {e:Expr} {es:List Expr} {t:TA}
theorem ps_raiseF(M:ExcC X.K C)(hex:X.ex=[])(kp:PySem.W.keepIn X.K (.ref C)=true)(hc:X.calm=true)(hg:Gl X x)(hm:X.mg x=some (.ref C))(hx:RaisesF X H₀ EE)(ha:PA X (e::es) t)(hdb:(x==("__debug__":Str))=false:=by decide)
 (he:starEach (e::es) X.env=(false,eval e X.env)::starEach es X.env:=by rfl) (hpl:(backTo cpos (starEach es X.env)).any (·.1)=false:=by rfl):
 PS X (.Raise (some (.Call (.Name x np) (e::es) [] cpos)) none pos) (tRaiseP (pN C H₀ EE) (tExc C t)):=
 ps_raiseP (fun _ _ _ h=>⟨none,h⟩) M.k hc hx (pe_exc M hex kp hg hm ha hdb he hpl)
theorem DefX.exk(D:DefX X.prog X.w X.K X.mg X.base CX j x C ps sp):ExK X.K C:=by
 obtain ⟨f,fd,F,M,hm,hb⟩:=D.ex
 exact M.k
theorem ps_raiseI(D:DefX X.prog X.w X.K X.mg X.base CX j x C ps sp)(hex:X.ex=[])(hr:Room k X.A)(hc:X.calm=true)(hg:Gl X x)(hp:PassesS CX X EE)(hx:RaisesF X H₀ EE)(ha:PA X (e::es) t)(hj:j+1≤k:=by decide)(hdb:(x==("__debug__":Str))=false:=by decide)
 (he:starEach (e::es) X.env=(false,eval e X.env)::starEach es X.env:=by rfl) (hpl:(backTo cpos (starEach es X.env)).any (·.1)=false:=by rfl):
 PS X (.Raise (some (.Call (.Name x np) (e::es) [] cpos)) none pos) (tRaiseP (pI C H₀ EE) (tExcI C sp EE t)):=
 ps_raiseP (fun _ _ _ h=>h) D.exk hc hx (pe_excI D hex hr hg hp ha hj hdb he hpl)
end
section
variable {σ:St} {H H₀:Hp} {Q:VK} {D:Ends} {K:PySem.W.Frag} {C:Addr} {EE:St→XK} {t:TA} {sp:Sp}
theorem rd_raiseF:tRaiseP (pN C H₀ EE) (tExc C t) D σ H=t σ H fun vs H1=>vs.length≤sizeLine∧∀x,H1 x=none→H₀ x=none∧EE σ (.ref C) (some x) (upd H1 x (exO false x C none)):=by
 unfold tRaiseP pN tExc
 simp only [V.ref.injEq,exists_eq_left',upd_same,upd_upd,true_and]
theorem rd_raiseI:tRaiseP (pI C H₀ EE) (tExcI C sp EE t) D σ H=t σ H fun vs H1=>vs.length≤sizeLine∧∀x,H1 x=none→sp (.ref x::vs) (upd H1 x (exO true x C none)) (fun v H2=>v= .non∧∃od,H2 x=some (exO true x C od)∧H₀ x=none∧EE σ (.ref C) (some x) (upd H2 x (exO false x C od))) (EE σ):=by
 unfold tRaiseP pI tExcI
 simp only [V.ref.injEq,exists_eq_left']
end
section
variable {X:Cx} {pins:List (Addr×Obj)} {σ:St} {H:Hp} {x C:Addr} {od:Option Addr} {s:Shared}
theorem Air.landD(Z:Air X pins σ H x (.ref C) s)(ly:Lies s.heap x C od){M:Model}{A:Around}{Q:Unit→Shared→Prop}{E:Value→Shared→Prop}(h:∀s',Air X pins σ H x (.ref C) s'→Lies s'.heap x C od→Q () s'):wpAny M A (setFlight (.ref x) none) Q E s:=by
 obtain ⟨H0,s0,a0,B,I,os,bare,u,ok,fl,hB,hx,hn⟩:=Z.ex
 refine L2.landD fl.1 fl.2.2.1 fl.2.2.2.at ly fun h2 b2 g2 t2 u2 l2=>h _ ?_ l2
 obtain ⟨U,ok3,hB3⟩:=stay_of u ok I.frm I.stkFree hB b2 u2
 exact ⟨H0,s0,a0,B,I,os,bare,U,ok3,⟨b2,fl.2.1,g2,t2⟩,hB3,hx,hn⟩
theorem Air.trackF(Z:Air X pins σ H x (.ref C) s)(ly:Lies s.heap x C od)(hex:X.ex=[]):Inv X pins σ (upd H x (exO false x C od)) s:=by
 obtain ⟨H0,s0,a0,B,I0,os,bare,u,ok,fl,hB,hx,hn⟩:=Z.ex
 obtain ⟨vs,sl,e⟩:=ly
 exact Inv.track (H1:=H0) (s1:=s0) I0 hex hn Z.inv hx (exO_ok e fun z=>by cases z)
end
noncomputable def PHF(X:Cx)(hs:List ExceptHandler)(th:TH):Prop:=∀(pins:List (Addr×Obj)) (s:Shared) (σ:St) (H:Hp) (x C:Addr) (od:Option Addr) (D:Ends),Air X pins σ H x (.ref C) s→Lies s.heap x C od→th (.ref C) x D σ (upd H x (exO false x C od))→
 wpAny (model X.prog X.w) X.A (handleBy (.ref x) X.env hs) (SP X pins D) X.xe s
noncomputable def hAsF(K:PySem.W.Frag)(c:Value)(i:Nat)(ts:Addr→TS)(tr:TH):TH:=fun cls x D σ H=>∃b,PySem.W.exmOne K cls c=some b∧if b=true then ts x (endsAs i D) (σ.set i (some (.ref x))) H else tr cls x D σ H
section
variable {X:Cx} {Cn n:Str} {c:Value} {i:Nat} {np pos:Pos} {b₀:Stmt} {suite:List Stmt} {rest:List ExceptHandler} {ts:Addr→TS} {tr:TH}
theorem ph_nilF:PHF X [] hNil:=fun _ _ _ _ _ _ _ _ _ _ h=>h.elim
theorem ph_asF(hex:X.ex=[])(hN:X.N.Nodup)(hi:X.N[i]?=some n)(hl:X.env.kindOf n=some .local)(hg:Gl X Cn)(hm:X.mg Cn=some c)(hs:∀x,PSs (X.sui x) (b₀::suite) (ts x))(hr:PHF X rest tr)(hdb:(Cn==("__debug__":Str))=false:=by decide):
 PHF X (.ExceptHandler (some (.Name Cn np)) (some n) (b₀::suite) pos::rest) (hAsF X.K c i ts tr):=by
 intro pins s σ H x C od D Z ly h
 obtain ⟨b,e,h⟩:=h
 refine wpAny_handleBy_cons (clause_test (c:=c) Z (fun Q E q=>ld_glob (X:=X.sui x) (Z.inv.sui x) hg hm q hdb) e ?_) (by intro q;cases q)
 cases b with
 | false=>exact hr pins s σ H x C od D Z ly h
 | true=>
  refine codeAny_handlers_suite_as (Z.landD ly fun s' Z' ly'=>?_)
  refine store_ok (X:=X) (Z'.trackF ly' hex) hN hi (.inl hl) (v:= .ref x) rfl (fun s2 I2=>?_) (.inr hl)
  refine wpAny_mono (hs x pins s2 _ _ _ (I2.sui x) h) (fun f s3 q=>?_) fun _ _ q=>False.elim q
  have q':=q.unsui Z.inv.ok
  show wpAny _ _ _ _ _ _
  cases f with
  | next=>obtain ⟨σ',H',I3,q3⟩:=q';exact name_goes I3 hN hi hl fun s4 I4=>⟨_,H',I4,q3⟩
  | brk=>obtain ⟨σ',H',I3,q3⟩:=q';exact name_goes I3 hN hi hl fun s4 I4=>⟨_,H',I4,q3⟩
  | cont=>obtain ⟨σ',H',I3,q3⟩:=q';exact name_goes I3 hN hi hl fun s4 I4=>⟨_,H',I4,q3⟩
  | ret u=>obtain ⟨v,σ',H',I3,r3,q3⟩:=q';exact name_goes I3 hN hi hl fun s4 I4=>⟨v,_,H',I4,r3,q3⟩
theorem ps_tryF{body:List Stmt}{h₀:ExceptHandler}{hs:List ExceptHandler}{tb:TryB→TS}{th:TH}(hst:X.stack=X.env::X.outer)(hfr:X.env.frame=some X.env.locals)
 (hb:∀t:TryB,PassesS (CXF X.prog X.w) (X.tryX t.pn t.xe) t.EE→PSs (X.tryX t.pn t.xe) body (tb t)) (hh:PHF X (h₀::hs) th):
 PS X (.Try body (h₀::hs) [] [] pos) (tTryV tb th):=by
 intro pins s σ H D I h
 refine wpAny_Try_except ?_
 have P1:PassesS (CXF X.prog X.w) (X.tryX (X.pn++pins) (fun e s'=>∃σ H' x C od,e= .ref x∧Air X pins σ H' x (.ref C) s'∧Lies s'.heap x C od∧th (.ref C) x D σ (upd H' x (exO false x C od)))) (fun σ' cls ox H'=>∃x,ox=some x∧th cls x D σ' H'):=by
  intro pl σ1 H1 s1 e s2 I1 hc
  obtain ⟨x,C,od,a0,H2,B,rfl,os,bare,u,ok,fl,hB,hx,hn,⟨y,hy,q⟩⟩:=hc
  cases hy
  exact ⟨σ1,H2,x,C,od,rfl,⟨H1,s1,a0,B,I1.tryOut I.ok,os,bare,u,ok,fl.1,hB,hx,hn⟩,fl.2,q⟩
 refine wpAny_mono (hb ⟨_,_,_⟩ P1 [] s σ H D (I.tryIn _) (h _ _)) (fun f s1 q=>?_) fun e s1 q=>?_
 · have q':=q.tryOut I.ok
   cases f with
   | next=>exact wpAny_execs_nil q'
   | brk=>exact q'
   | cont=>exact q'
   | ret u=>exact q'
 · obtain ⟨σ1,H1,x,C,od,rfl,Z,ly,q⟩:=q
   have fr:X.A.frames=some (X.env::X.outer):=by rw [← hst];exact I.ok.frames
   obtain ⟨H0,s0,a0,B,I0,os,bare,u,ok,fl,hB,hx,hn⟩:=Z.ex
   have fl':=fl
   rw [hst]at fl'
   obtain ⟨f1,f2,f3,f4⟩:=fl'
   refine noteD fr f3 hfr f4 f1 f2 ly fun h1 N1 l1=>landD (s:={s1 with heap:=h1}) N1.1 N1.2.1 N1.2.2.1 l1 fun h3 b3 g3 t3 u3 l3=>?_
   have fl3:Heap.FlyingW B X.stack x (.ref C) a0 h3:=by rw [hst];exact ⟨b3,f2,g3,t3⟩
   obtain ⟨U,ok3,hB3⟩:=stay_of u ok I0.frm I0.stkFree hB b3 (Heap.UpToSlots.trans N1.2.2.2 u3)
   exact hh pins _ σ1 H1 x C od D ⟨H0,s0,a0,B,I0,os,bare,U,ok3,fl3,hB3,hx,hn⟩ l3 q
end
section
variable {σ:St} {H:Hp} {D:Ends} {K:PySem.W.Frag}
theorem rd_hasF{c cls:Value}{i:Nat}{x:Addr}{ts:Addr→TS}{tr:TH}:hAsF K c i ts tr cls x D σ H=∃b,PySem.W.exmOne K cls c=some b∧if b=true then ts x (endsAs i D) (σ.set i (some (.ref x))) H else tr cls x D σ H:=rfl
theorem rd_fldX{Q:VK}{ta:TE}{f:Str}:tFldX K ta f σ H Q=ta σ H fun x H1=>∃nw a C B dx fs v,x= .ref a∧H1 a=some (exO nw a C (some dx))∧H1 dx=some (exD dx fs)∧ExcQ K C B∧PySem.W.findIn K (.ref C) f=some none∧fs.lookup f=some v∧Q v H1:=rfl
theorem rd_sfldX{ta tv:TE}{f:Str}:sFldX K ta tv f D σ H=tv σ H fun y H1=>ta σ H1 fun x H2=>∃nw a C B,x= .ref a∧ExcQ K C B∧PySem.W.findIn K (.ref C) f=some none∧
 ((H2 a=some (exO nw a C none)∧∀dx,H2 dx=none→D.nx σ (upd (upd H2 a (exO nw a C (some dx))) dx (exD dx (putF f y []))))∨
  ∃dx fs,H2 a=some (exO nw a C (some dx))∧H2 dx=some (exD dx fs)∧fs.length < 1000∧D.nx σ (upd H2 dx (exD dx (putF f y fs)))):=rfl
theorem rd_methX{C:Addr}{m:Str}{sp:Sp}{EE:St→XK}{ta:TE}{Q:VK}:tMethX C m sp EE ta σ H Q=ta σ H fun x H1=>∃nw a,x= .ref a∧(H1 a=some (exO nw a C none)∨∃dx fs,H1 a=some (exO nw a C (some dx))∧H1 dx=some (exD dx fs)∧fs.lookup m=none)∧sp [x] H1 Q (EE σ):=rfl
theorem rd_exc{C:Addr}{t:TA}{Q:VK}:tExc C t σ H Q=t σ H fun vs H1=>vs.length≤sizeLine∧∀x,H1 x=none→Q (.ref x) (upd H1 x (exO true x C none)):=rfl
theorem rd_excI{C:Addr}{sp:Sp}{EE:St→XK}{t:TA}{Q:VK}:tExcI C sp EE t σ H Q=t σ H fun vs H1=>vs.length≤sizeLine∧∀x,H1 x=none→sp (.ref x::vs) (upd H1 x (exO true x C none)) (fun v H2=>v= .non∧Q (.ref x) H2) (EE σ):=rfl
end
section
open PySem.W
theorem walk_ofKF{l:PySem.W.OpenLaw}{n k:Nat}{q:Program}{loose:List Str}{XP:(Str→Option Value)→Heap→Prop}{YP:World→Heap→Prop}{d:DefRec}{K:Params→PySem.W.Frag}{sp:PySem.W.Frag→Sp}{x:Str}
 (hn:l.most=some n) (hn2:n≤sizeLine) (hdf:d.params.defaults=[]) (hr:Room k callerA) (hY:∀(w:World) (h:Heap),YP w h→(K w.params).In h)
 (F:∀(w:World) (mg:Str→Option Value) (fa:Addr) (h:Heap),(K w.params).In h→h.Ns mainGlobals mg→mg d.name=some (.ref fa)→
  ∃fd:FuncData,(∀(s:Shared) (u:Value),BindsTo s fd ⟨[u],[]⟩ [(x,u)])∧∀base:Heap,(K w.params).In base→base.Ns mainGlobals mg→FnOk l.prog w (K w.params) mg base (CXF l.prog w) k fa fd [x] (sp (K w.params)))
 (hsp:∀(K:PySem.W.Frag) (H:Hp) (a:Addr) (ns:List Int),ns.length≤n→Only H→SqL K H a (ns.map V.int)→sp K [.ref a] H (fun v _=>v= .bl true) fun _ _ _=>False):
 PySem.W.WalkO q loose XP YP l.row.toRowW d [] (fun f vs=>PySem.call f vs):=
 walk_of (K:=K) (CX:=fun w=>CXF l.prog w) (sp:=fun w=>sp (K w.params)) hn hn2 hdf hr hY F (fun w H a ns h1 h2 h3=>hsp (K w.params) H a ns h1 h2 h3) fun _ _ _ _ _ ⟨_,_,_,_,_,_,_,_,_,_,_,_,_,_,_,z⟩=>z
end
section
open PySem.W
variable {K:Frag} {C N A f:Addr} {nm q:Str} {bs:List Value} {hdct:Bool} {sn:List Str} {sub:List Value} {ab:Bool} {col:Option Bool} {dd:Option Addr} {k0 k1 k2 k3 k5:Option Value} {oc c0 oc2:Value} {od dA od2:Option Addr} {es es2:Array DictEntry} {ep ep2:Nat} {sl slA sl2:Array (Option Value)} {cdA:ClassData} {nw:String}
theorem mkX_of{fo:Obj}(lC:K.lookup C=some (excClassObj nm q C N bs (.ref A::veTail) hdct sn sub ab col dd k0 k1 k2 k3 k5 "ValueError.__new__"))(lN:K.lookup N=some ⟨oc,od,.dict es ep,sl⟩)(sN:strKeysB es=true)(iN:nsFind es "__init__"=some (.ref f))
 (lA:K.lookup A=some ⟨c0,dA,.cls cdA,slA⟩) (lNA:K.lookup cdA.ns=some ⟨oc2,od2,.dict es2 ep2,sl2⟩) (sNA:strKeysB es2=true) (iNA:nsFind es2 "__init__"=none) (lF:K.lookup f=some fo) (cF:fo.cls= .type "function") (kp:keepIn K (.ref C)=true):MkX K C f:=
 ⟨fun h X=>⟨nm,q,N,bs,_,hdct,sn,sub,ab,col,dd,k0,k1,k2,k3,k5,nsFind es,X _ _ lC,ns_of X lN sN,iN,.own (X _ _ lA) (ns_of X lNA sNA) iNA .base⟩,⟨fo,lF,cF⟩,kp⟩
theorem excQ_of(lC:K.lookup C=some (excClassObj nm q C N bs (.ref A::veTail) true sn sub ab col dd k0 k1 k2 k3 k5 nw))(ga:findIn K (.ref C) "__getattribute__"=some (some (.builtin "BaseException.__getattribute__")))(gh:findIn K (.ref C) "__getattr__"=some none)
 (sa:findIn K (.ref C) "__setattr__"=some (some (.builtin "object.__setattr__"))):ExcQ K C A:=by
 refine ⟨⟨ga,gh⟩,?_,sa⟩
 unfold clsIn
 rw [lC]
 exact ⟨_,rfl,rfl,rfl⟩
end
end L2
namespace L2
theorem kV_of{P:Program}{w:World}{k:Key}{u:Value}(h:(mixKind P w).is k u=true):RelV (kV k) u:=by
 cases k with
 | inl i=>
  cases u <;> first | (exact absurd h (by intro z;cases z)) | skip
  rename_i j t
  have e:j=i:=by simpa [mixKind,keyIs,Value.isInt] using h
  exact ⟨t,by rw [e]⟩
 | inr x=>
  cases u <;> first | (exact absurd h (by intro z;cases z)) | skip
  rename_i j t
  have e:j=x:=by simpa [mixKind,keyIs,Value.isStrOf] using h
  exact ⟨t,by rw [e]⟩
theorem vals_at:∀{xs:List V} {us:List Value},xs.length=us.length→(∀(j:Nat) (u:Value),us[j]?=some u→∃x,xs[j]?=some x∧RelV x u)→Vals xs us
 | [],[],_,_=> .nil
 | x::xs,u::us,hl,h=>by
  obtain ⟨y,e,r⟩:=h 0 u rfl
  cases e
  exact .cons r (vals_at (by simpa using hl) fun j v e=>h (j+1) v e)
theorem paired_get{α β:Type}{F:α→β→Prop}:∀{l:List α} {m:List β},Paired F l m→∀{i:Nat} {b:β},m[i]?=some b→∃a,l[i]?=some a∧F a b
 | _,_,.cons r t,0,b,e=>by cases e;exact ⟨_,rfl,r⟩
 | _,_,.cons r t,i+1,b,e=>paired_get t (i:=i) e
noncomputable def viewO(v d:Addr):HO:= .ext fun h=>h.IsValuesView v d
theorem preSum_eq:∀(is:List Int),preSum (fun i=>is.getD i 0) is.length=is.sum:=by
 intro is
 have key:∀n,n≤is.length→preSum (fun i=>is.getD i 0) n=(is.take n).sum:=by
  intro n
  induction n with
  | zero=>intro _;rfl
  | succ n ih=>
   intro h
   have e:is.take (n+1)=is.take n++[is.getD n 0]:=by
    rw [List.take_add_one,List.getD_eq_getElem?_getD,List.getElem?_eq_getElem (by omega)]
    rfl
   rw [preSum,ih (by omega),e,List.sum_append]
   simp
 have:=key is.length (Nat.le_refl _)
 rwa [List.take_length]at this
noncomputable def rListD:List V→Hp→VK→Prop:=fun xs H Q=>∃a kvs,xs=[.ref a]∧H a=some (.dK kvs)∧∀l,H l=none→Q (.ref l) (upd H l (.lst (kvs.map fun p=>kV p.1)))
noncomputable def rValues:V→List V→Hp→VK→Prop:=fun x vs H Q=>∃a kvs,x= .ref a∧vs=[]∧H a=some (.dK kvs)∧∀v,H v=none→Q (.ref v) (upd H v (viewO v a))
noncomputable def rSumV:List V→Hp→VK→Prop:=fun xs H Q=>∃(v d:Addr) (kvs:List (Key×V)) (is:List Int),xs=[.ref v]∧H v=some (viewO v d)∧H d=some (.dK kvs)∧kvs.map (·.2)=is.map V.int∧Q (.int is.sum) H
noncomputable def rRemove:V→List V→Hp→VK→Prop:=fun x vs H Q=>∃(l:Addr) (ys:List Str) (z:Str),x= .ref l∧vs=[.str z]∧H l=some (.lst (ys.map V.str))∧z∈ys∧Q .non (upd H l (.lst ((ys.erase z).map V.str)))
section
variable {X:Cx}
theorem call_listD(hc:X.calm=true):CallR X (.type "list") rListD:=by
 intro pins s σ H xs us Q I r h
 obtain ⟨a,kvs,rfl,ha,q⟩:=h
 obtain ⟨u,rfl,rx⟩:=vals1 r
 cases rx
 obtain ⟨z,lo,ws,rel,ob,es,ep,e1,e2⟩:=I.hok a _ ha
 have dat:s.heap.DictAt (mixKind X.prog X.w) a ws ep:=⟨ob,es,e1,e2⟩
 refine PySem.W.kdl_call (PySem.W.kdl_dict (knd:=mixKind X.prog X.w) (kvs:=ws) (ep:=ep) lo) (I.ok.hd hc) dat (by rw [← rel.length];exact z) fun h' tk acc c' kp e hi=>?_
 have hv:Vals (kvs.map fun p=>kV p.1) acc.toList:=by
  have h1:=hi.1
  have h2:=rel.length
  refine vals_at (by rw [List.length_map];exact h2.trans (h1.symm.trans (Array.length_toList (xs:=acc)).symm)) fun j u ej=>?_
  obtain ⟨k,x,ek,hk⟩:=hi.2 j u (by rw [← Array.getElem?_toList];exact ej)
  obtain ⟨p,ep',hp⟩:=paired_get rel ek
  exact ⟨kV p.1,by rw [List.getElem?_map,ep'];rfl,by rw [hp.1];exact kV_of hk⟩
 refine ⟨.ref s.heap.objs.size,_,I.laid (t':=tk) kp (Nat.le_refl _) (show ObjOk X.prog X.w _ h' _ (.lst (kvs.map fun p=>kV p.1)) from ⟨by rw [List.length_map];exact z,acc.toList,c',hv,?_⟩),rfl,q _ I.fresh⟩
 rw [Array.toArray_toList];exact e
theorem mt_values:MtM X "dict.values" rValues:=by
 intro pins s σ H x vs v us Q I rx rv h
 obtain ⟨a,kvs,rfl,rfl,ha,q⟩:=h
 cases rx
 have hus:=rv.zero
 subst hus
 obtain ⟨z,lo,ws,rel,dd⟩:=I.hok a _ ha
 refine call_meetsIn PySem.F.slot_dict_values dd.typeIs PySem.F.entry_dict_values (PySem.F.args_dict_values_1 _) (meets_dict_values (mixKind X.prog X.w) a lo) ⟨⟨ws,dd⟩,?_⟩
 refine ⟨.ref s.heap.objs.size,_,I.laid (t':=s.toks) (fun b o e=>Heap.get?_push_of_some _ e) (Nat.le_refl _) (show ObjOk X.prog X.w _ _ _ (viewO s.heap.objs.size a) from ⟨⟨_,Heap.get?_push_size _ rfl,rfl,rfl⟩,⟨_,Heap.get?_push_size _ rfl⟩,fun h1 h2 ⟨o,e1,e2⟩ k=>⟨o,k _ e1,e2⟩⟩),rfl,q _ I.fresh⟩
theorem call_sumV(hc:X.calm=true):CallR X (.builtin "sum") rSumV:=by
 intro pins s σ H xs us Q I r h
 obtain ⟨v,d,kvs,is,rfl,hv,hd,hm,q⟩:=h
 obtain ⟨u,rfl,rx⟩:=vals1 r
 cases rx
 obtain ⟨z,lo,ws,rel,ob,es,ep,e1,e2⟩:=I.hok d _ hd
 have dat:s.heap.DictAt (mixKind X.prog X.w) d ws ep:=⟨ob,es,e1,e2⟩
 have hvw:s.heap.IsValuesView v d:=(I.hok v _ hv).1
 have src:=PySem.W.kdl_values (prog:=X.prog) (w:=X.w) (r:=v) (d:=d) (knd:=mixKind X.prog X.w) (kvs:=ws) (ep:=ep)
 have hlen:ws.length=is.length:=by
  have:=congrArg List.length hm
  simp only [List.length_map]at this
  rw [← rel.length];exact this
 refine call_sum_walkAnyS ?_
 obtain ⟨oI,St,hit,W,st⟩:=src.iter X.A.in1 s (I.ok.hd hc) ⟨hvw,dat⟩
 refine hit _ _ ⟨s.heap.objs.size,_,_,_,_,_,_,fun i=>is.getD i 0,rfl,W.toS,st,fun b hb=>?_,fun i u hp=>?_,fun s' t' hmv=>?_⟩
 · show b < (s.heap.push oI).objs.size
   rw [size_push']
   rcases List.mem_cons.mp hb with e | hb
   · rw [e];exact Nat.lt_succ_self _
   · rw [List.mem_singleton.mp hb];exact Nat.lt_succ_of_lt (Heap.lt_size e1)
 · obtain ⟨k,ek⟩:=hp
   obtain ⟨p,ep',hp'⟩:=paired_get rel ek
   have e3:(kvs.map (·.2))[i]?=some p.2:=by rw [List.getElem?_map,ep'];rfl
   rw [hm,List.getElem?_map]at e3
   cases hi:is[i]? with
   | none=>rw [hi]at e3;cases e3
   | some n=>
    rw [hi]at e3
    have e4:V.int n=p.2:=Option.some.inj e3
    have r2:=hp'.2
    rw [← e4]at r2
    show ∃t,u=Value.int (is.getD i 0) t
    rw [List.getD_eq_getElem?_getD,hi]
    exact r2
 · have hk:∀b o,s.heap.get? b=some o→s'.heap.get? b=some o:=fun b o e=>
    hmv.heap b o (fun hI=>absurd (Heap.lt_size e) (by rw [List.mem_singleton.mp hI];exact Nat.lt_irrefl _)) (Heap.get?_push_of_some _ e)
   rw [Moved.eq_with hmv]
   refine ⟨.int is.sum,H,I.kept (t':=s'.toks) hk,⟨t',?_⟩,q⟩
   rw [hlen,preSum_eq]
noncomputable def gLst(K:PySem.W.Frag)(n:Nat)(t:TGs):TG:=fun v σ H Q=>∃a xs,v= .ref a∧SqL K H a xs∧xs.length=n∧t xs σ H Q
noncomputable def rIsB:R2:=fun x y H Q=>∃a b,x= .bl a∧y= .bl b∧Q (.bl (a==b)) H
noncomputable def rIsNB:R2:=fun x y H Q=>∃a b,x= .bl a∧y= .bl b∧Q (.bl (!(a==b))) H
end
section
variable {σ:St} {H:Hp} {Q:VK} {xs:List V} {x y:V}
theorem rd_glst{K:PySem.W.Frag}{n:Nat}{t:TGs}{v:V}{N:St→Hp→Prop}:gLst K n t v σ H N=∃a xs,v= .ref a∧SqL K H a xs∧xs.length=n∧t xs σ H N:=rfl
theorem rd_dpop1{td ty:TE}:tDPop1 td ty σ H Q=td σ H fun x H1=>∃a,x= .ref a∧IsD H1 a∧ty σ H1 fun y H2=>∃kvs k v,H2 a=some (.dK kvs)∧y=kV k∧valV kvs k=some v∧Q v (upd H2 a (.dK (dropK kvs k))):=rfl
theorem rd_dget2{td ty tx:TE}:tDGet2 td ty tx σ H Q=td σ H fun x H1=>∃a,x= .ref a∧IsD H1 a∧ty σ H1 fun y H2=>tx σ H2 fun z H3=>∃o,DGet H3 a y o∧Q (o.getD z) H3:=rfl
theorem rd_popAt:rPopAt x xs H Q=∃l ys i k y,x= .ref l∧xs=[.int i]∧H l=some (.lst ys)∧-(2 ^ 63)≤i∧i < 2 ^ 63∧seqIndex? i ys.length=some k∧ys[k]?=some y∧Q y (upd H l (.lst (ys.eraseIdx k))):=rfl
theorem rd_listD:rListD xs H Q=∃a kvs,xs=[.ref a]∧H a=some (.dK kvs)∧∀l,H l=none→Q (.ref l) (upd H l (.lst (kvs.map fun p=>kV p.1))):=rfl
theorem rd_values:rValues x xs H Q=∃a kvs,x= .ref a∧xs=[]∧H a=some (.dK kvs)∧∀v,H v=none→Q (.ref v) (upd H v (viewO v a)):=rfl
theorem rd_sumV:rSumV xs H Q=∃(v d:Addr) (kvs:List (Key×V)) (is:List Int),xs=[.ref v]∧H v=some (viewO v d)∧H d=some (.dK kvs)∧kvs.map (·.2)=is.map V.int∧Q (.int is.sum) H:=rfl
theorem rd_remove:rRemove x xs H Q=∃(l:Addr) (ys:List Str) (z:Str),x= .ref l∧xs=[.str z]∧H l=some (.lst (ys.map V.str))∧z∈ys∧Q .non (upd H l (.lst ((ys.erase z).map V.str))):=rfl
theorem rd_isB:rIsB x y H Q=∃a b,x= .bl a∧y= .bl b∧Q (.bl (a==b)) H:=rfl
theorem rd_isnB:rIsNB x y H Q=∃a b,x= .bl a∧y= .bl b∧Q (.bl (!(a==b))) H:=rfl
end
section
variable {i j:Int} {a b:Bool} {x y:Str}
theorem sc_nn:scal .non .non=true:=rfl
theorem sc_ni:scal .non (.int j)=true:=rfl
theorem sc_in:scal (.int i) .non=true:=rfl
theorem sc_nb:scal .non (.bl b)=true:=rfl
theorem sc_bn:scal (.bl a) .non=true:=rfl
theorem sc_ns:scal .non (.str y)=true:=rfl
theorem sc_sn:scal (.str x) .non=true:=rfl
theorem sc_ii:scal (.int i) (.int j)=true:=rfl
theorem sc_bb:scal (.bl a) (.bl b)=true:=rfl
theorem sc_ss:scal (.str x) (.str y)=true:=rfl
theorem sc_is:scal (.int i) (.str y)=true:=rfl
theorem sc_si:scal (.str x) (.int j)=true:=rfl
theorem sc_bs:scal (.bl a) (.str y)=true:=rfl
theorem sc_sb:scal (.str x) (.bl b)=true:=rfl
end
end L2
namespace L2
open N1 N5
section
variable {K:PySem.W.Frag} {tail:St} {te:Blk→TE} {Q:VK} {H1:Hp}
noncomputable def OffLists(P:V→Hp→Prop):Prop:=∀y H H' l zs,P y H→H l=some (.lst zs)→SameBut l H H'→P y H'
end
end L2
namespace N4
open L2 N1 N5
noncomputable def unkF(n p:V):List (Str×V):=putF "place" p (putF "name" n [])
theorem unk_name{n p:V}:(unkF n p).lookup ("name":Str)=some n:=by
 unfold unkF
 rw [lookup_putF,if_neg (by decide),lookup_putF,if_pos rfl]
theorem unk_place{n p:V}:(unkF n p).lookup ("place":Str)=some p:=by
 unfold unkF
 rw [lookup_putF,if_pos rfl]
noncomputable def ErrU(C:Addr)(H:Hp)(x:Addr)(n p:V):Prop:=∃dx,H x=some (exO false x C (some dx))∧H dx=some (exD dx (unkF n p))
noncomputable def sp_unk(C:Addr):Sp:=fun vs H Q _=>∃(x:Addr) (n p:V) (nw:Bool),vs=[.ref x,n,p]∧H x=some (exO nw x C none)∧∀dx,H dx=none→Q .non (upd (upd H x (exO nw x C (some dx))) dx (exD dx (unkF n p)))
noncomputable def sp_checkG(K:PySem.W.Frag):Sp:=fun vs H Q _=>∃(n co r:V) (e:Addr) (kvs:List (Key×V)) (ks:List Str),vs=[n,co,r,.ref e]∧H e=some (.dK kvs)∧kvs.map (·.1)=ks.map Sum.inr∧rowR ks n co r=none∧∀H',Same H H'→Q .non H'
noncomputable def sp_initG(K:PySem.W.Frag)(C:Addr):Sp:=fun vs H Q _=>∃(p dx ra:Addr) (rs:List Rw),vs=[.ref p,.ref ra]∧H p=some (.ins C dx [])∧SqL K H ra (rs.map fun t=>V.ref t.1)∧(∀t∈rs,SqT K H t.1 [t.2.1,t.2.2.1,t.2.2.2])∧initR rs=none∧
 ∀H',SameBut p H H'→StockAt K C H' p (rs.map thOf)→Q .non H'
theorem initR_none{rs:List Rw}(h:initR rs=none):rs.length≤60∧stockR [] rs=none:=by
 unfold initR at h
 split at h
 · cases h
 · exact ⟨by omega,h⟩
theorem wIn_ok{lo hi c:Int}(h1:lo≤c)(h2:c≤hi):wIn lo hi (.int c)=true:=by
 show (decide (lo≤c) && decide (c≤hi))=true
 rw [decide_eq_true h1,decide_eq_true h2];rfl
theorem stockR_ok:∀(rs:List Rw) (ks:List Str),(∀t∈rs,∃z c q,t.2.1= .str z∧t.2.2.1= .int c∧t.2.2.2= .int q∧nameB z.cps.toList=true∧0≤c∧c≤10 ^ 30∧1≤q∧q≤1000)→(ks++rs.map fun t=>sOf t.2.1).Nodup→stockR ks rs=none
 | [],_,_,_=>rfl
 | t::rs,ks,h,nd=>by
  obtain ⟨z,c,q,e1,e2,e3,hn,h1,h2,h3,h4⟩:=h t (List.mem_cons_self ..)
  have hz:¬z∈ks:=fun hz=>by
   rw [List.map_cons,List.nodup_append]at nd
   exact nd.2.2 z hz (sOf t.2.1) (List.mem_cons_self ..) (by rw [e1];rfl)
  have r0:rowR ks t.2.1 t.2.2.1 t.2.2.2=none:=by
   unfold rowR
   rw [e1,e2,e3]
   rw [if_neg (by show ¬nameB z.cps.toList=false;rw [hn];decide),if_neg (show ¬sOf (.str z)∈ks from hz),if_neg (by rw [wIn_ok h1 h2];decide),if_neg (by rw [wIn_ok h3 h4];decide)]
  unfold stockR
  rw [r0]
  refine stockR_ok rs _ (fun t' ht=>h t' (List.mem_cons_of_mem _ ht)) ?_
  rw [List.append_assoc]
  exact nd
theorem valV_nth{kvs:List (Key×V)}{i:Nat}{k:Key}{v:V}(nd:(kvs.map (·.1)).Nodup)(e:kvs[i]?=some (k,v)):valV kvs k=some v:=by
 induction kvs generalizing i with
 | nil=>rw [List.getElem?_nil]at e;cases e
 | cons p r ih=>
  cases i with
  | zero=>cases e;exact valV_pos rfl
  | succ i=>
   rw [List.map_cons,List.nodup_cons]at nd
   have hm:(k,v)∈r:=List.mem_of_getElem? e
   rw [valV_neg (fun z=>nd.1 (by rw [z];exact List.mem_map_of_mem (f:=(·.1)) hm))]
   exact ih nd.2 e
theorem inr_nodup{ks:List Str}(h:ks.Nodup):(ks.map (Sum.inr:Str→Key)).Nodup:=by
 unfold List.Nodup at *
 rw [List.pairwise_map]
 exact h.imp fun n e=>n (by injection e)
section
variable {K:PySem.W.Frag} {C:Addr} {H H':Hp} {p:Addr} {ts:List Th} {z:Str}
theorem StockAt.has(h:StockAt K C H p ts):∃dx d kvs,H p=some (.ins C dx (flds d))∧H d=some (.dK kvs)∧(kvs.map fun q=>kV q.1)=ts.map (fun t=>V.str t.1)∧(∀z,(valV kvs (Sum.inr z)).isSome=decide (z∈ts.map (·.1)))∧
 ((ts.map (·.1)).Nodup→∀(i:Nat) (t:Th),ts[i]?=some t→∃a,valV kvs (Sum.inr t.1)=some (.ref a)∧SqT K H a [.int i,.int t.2.1,.int t.2.2]):=by
 obtain ⟨dx,d,kvs,h1,h2,h3,h4⟩:=h.ex
 have h3':kvs.map (·.1)=(ts.map (·.1)).map Sum.inr:=by rw [h3,List.map_map];rfl
 refine ⟨dx,d,kvs,h1,h2,?_,fun z=>key_mem h3',fun nd i t e=>?_⟩
 · have:=congrArg (List.map kV) h3
   rw [List.map_map,List.map_map]at this
   exact this
 · obtain ⟨a,e1,e2⟩:=h4 i t e
   exact ⟨a,valV_nth (by rw [h3'];exact inr_nodup nd) e1,e2⟩
end
noncomputable def pick(w:Nat)(i:Nat)(t:Th):Int:=if w=0 then i else if w=1 then t.2.1 else t.2.2
noncomputable def sp_has(K:PySem.W.Frag)(C:Addr):Sp:=fun vs H Q _=>∃(p:Addr) (ts:List Th) (z:Str),vs=[.ref p,.str z]∧StockAt K C H p ts∧Q (.bl (decide (z∈ts.map (·.1)))) H
theorem mem_nth{ts:List Th}{z:Str}(h:z∈ts.map (·.1)):∃(i:Nat) (t:Th),ts[i]?=some t∧t.1=z:=by
 obtain ⟨t,ht,e⟩:=List.mem_map.mp h
 obtain ⟨i,hi⟩:=List.mem_iff_getElem?.mp ht
 exact ⟨i,t,hi,e⟩
end N4
namespace N4
open L2 N1 N5
structure RowsAt(K:PySem.W.Frag)(H:Hp)(r:Addr)(as:List Addr)(ts:List Th):Prop where
 l:SqL K H r (as.map V.ref)
 n:as.length=ts.length
 m:ts.length≤60
 at_:∀(i:Nat) (a:Addr) (t:Th),as[i]?=some a→ts[i]?=some t→SqT K H a [.str t.1,.int t.2.1,.int t.2.2]
 ok:∀t∈ts,nameB t.1.cps.toList=true∧0≤t.2.1∧t.2.1≤10 ^ 30∧1≤t.2.2∧t.2.2≤1000
 nd:(ts.map (·.1)).Nodup
noncomputable def rwOf(a:Addr)(t:Th):Rw:=(a,.str t.1,.int t.2.1,.int t.2.2)
theorem RowsAt.init{K:PySem.W.Frag}{H:Hp}{r:Addr}{as:List Addr}{ts:List Th}(h:RowsAt K H r as ts):∃rs:List Rw,rs.map (fun t=>V.ref t.1)=as.map V.ref∧(∀t∈rs,SqT K H t.1 [t.2.1,t.2.2.1,t.2.2.2])∧initR rs=none∧rs.map thOf=ts:=by
 have hn:=h.n
 have gt:∀(i:Nat) (x:Addr×Th),(as.zip ts)[i]?=some x→as[i]?=some x.1∧ts[i]?=some x.2:=fun i x e=>by
  rw [List.getElem?_zip_eq_some]at e;exact e
 have e1:((as.zip ts).map fun x=>rwOf x.1 x.2).map thOf=ts:=by
  rw [List.map_map]
  have:(thOf∘fun x:Addr×Th=>rwOf x.1 x.2)=Prod.snd:=by funext x;rfl
  rw [this,List.map_snd_zip (by omega)]
 refine ⟨(as.zip ts).map fun x=>rwOf x.1 x.2,?_,?_,?_,e1⟩
 · rw [List.map_map]
   have:((fun t:Rw=>V.ref t.1)∘fun x:Addr×Th=>rwOf x.1 x.2)=V.ref∘Prod.fst:=by funext x;rfl
   rw [this,← List.map_map,List.map_fst_zip (by omega)]
 · intro t ht
   obtain ⟨x,hx,rfl⟩:=List.mem_map.mp ht
   obtain ⟨i,hi⟩:=List.mem_iff_getElem?.mp hx
   obtain ⟨h1,h2⟩:=gt i x hi
   exact h.at_ i x.1 x.2 h1 h2
 · unfold initR
   rw [if_neg (by rw [List.length_map,List.length_zip];have:=h.m;omega)]
   refine stockR_ok _ _ (fun t ht=>?_) ?_
   · obtain ⟨x,hx,rfl⟩:=List.mem_map.mp ht
     obtain ⟨i,hi⟩:=List.mem_iff_getElem?.mp hx
     obtain ⟨h1,h2⟩:=gt i x hi
     obtain ⟨o1,o2,o3,o4,o5⟩:=h.ok x.2 (List.mem_of_getElem? h2)
     exact ⟨x.2.1,x.2.2.1,x.2.2.2,rfl,rfl,rfl,o1,o2,o3,o4,o5⟩
   · rw [List.nil_append,List.map_map]
     have:((fun t:Rw=>sOf t.2.1)∘fun x:Addr×Th=>rwOf x.1 x.2)=(fun t:Th=>t.1)∘Prod.snd:=by funext x;rfl
     rw [this,← List.map_map,List.map_snd_zip (by omega)]
     exact h.nd
end N4
namespace L2
open PySem.W
noncomputable def rSumL(K:PySem.W.Frag):List V→Hp→VK→Prop:=fun xs H Q=>∃(p:Addr) (is:List Int),xs=[.ref p]∧SqL K H p (is.map V.int)∧Q (.int is.sum) H
section
variable {σ:St} {H:Hp} {Q:VK} {D:Ends} {K:PySem.W.Frag} {xs:List V} {x y:V}
theorem rd_sumL:rSumL K xs H Q=∃(p:Addr) (is:List Int),xs=[.ref p]∧SqL K H p (is.map V.int)∧Q (.int is.sum) H:=rfl
theorem rd_ipI{f:Int→Int→Int}:ipI f x y H Q=∃i j,x= .int i∧y= .int j∧Q (.int (f i j)) H:=rfl
theorem rd_rep:rRep x y H Q=∃l k xs,x= .ref l∧y= .int k∧H l=some (.lst xs)∧-(2 ^ 63)≤k∧k < 2 ^ 63∧xs.length * k.toNat≤sizeLine∧
 ∀p,H p=none→Q (.ref p) (upd H p (.lst (List.replicate k.toNat xs).flatten)):=rfl
end
end L2
namespace N31
open L2 N1 N5
end N31
namespace L2
theorem Inv.turned2{X:Cx}{pins:List (Addr×Obj)}{σ:St}{H:Hp}{s:Shared}{h':Heap}{t':Nat}{fp:List Addr}(I:Inv X pins σ H s)(k:∀b o,b∉fp→s.heap.get? b=some o→h'.get? b=some o)(hf:∀it∈fp,FpOk X pins H it):
 Inv X pins σ H {s with heap:=h',toks:=t'}:=by
 have nit:∀b u,H b=some u→b∉fp:=fun b u e z=>by rw [(hf b z).1]at e;cases e
 refine I.step (g':=s.gens) (d':=s.drawn) (ch:=fp) (fun b hb=>?_) (fun b o _ _ hc e _=>k b o hc e) (fun b o _ _ hc e _=>⟨o.slots,k b o hc e⟩) (fun _ _ _ _ n=>n)
  (fun b o hc e=>⟨o,k b o hc e⟩) (fun _ _ e=>e) (fun _ _ _ e=>e) (fun b ps e=>⟨#[],by rw [e];simp⟩) (fun m hm=>?_) (fun b u e=>?_) I.bare
 · obtain ⟨_,h1,_,h2,h3,h4⟩:=hf b hb
   exact ⟨h2,h1,h3,h4⟩
 · obtain ⟨o,es,ep,ho,r⟩:=hm
   exact ⟨o,es,ep,k _ o (fun z=>(hf _ z).2.1 rfl) ho,r⟩
 · refine (I.hok b u e).stay (fun c v hc q=>k c v ?_ q) (fun _ q=>q) fun _ _ q=>q
   rcases hc with z | z
   · rw [z];exact nit b u e
   · exact nit c _ z
noncomputable def Ite(K:PySem.W.Frag)(a:Addr):It:=
 ⟨fun i H=>∃xs x,SqL K H a xs∧xs[i]?=some x,fun i H y H'=>∃t x,y= .ref t∧H t=none∧H'=upd H t (.tup [.int i,x])∧∀xs,SqL K H a xs→xs[i]?=some x,fun i H=>∃xs,SqL K H a xs∧xs.length≤i⟩
noncomputable def tnE(e it a:Addr)(i:Nat)(h:Heap):Prop:=(∃old,IsEnum h e it i old)∧h.IsListIter it a i
theorem turn_enum{P:Program}{w:World}{K:PySem.W.Frag}{es:List Expr}{k:Nat}{pos:Pos}(a e it:Addr)(ne:e≠it):Turn P w K (.Tuple es k pos) (Ite K a) [e,it] e (tnE e it a) where
 mem:=by simp
 obj:=fun i h st b hb=>by
  obtain ⟨⟨old,h1⟩,o,h2,c,d⟩:=st
  have hb:b=e∨b=it:=by simpa using hb
  rcases hb with rfl | rfl
  · exact ⟨_,h1,fun v z=>by cases z⟩
  · exact ⟨o,h2,fun v z=>by rw [d]at z;cases z⟩
 keep:=fun i h h' st kk=>by
  obtain ⟨⟨old,h1⟩,h2⟩:=st
  exact ⟨⟨old,kk e (by simp) _ h1⟩,h2.at fun o q=>kk it (by simp) o q⟩
 item:=by
  intro X hP hw hK hc i pins s σ H E I hf st hg
  subst hP hw hK
  obtain ⟨xs,x,hq,hx⟩:=hg
  obtain ⟨its,rv,p,hz⟩:=I.list hq
  obtain ⟨u,hu,ru⟩:=rv.get hx
  obtain ⟨⟨old,h1⟩,h2⟩:=st
  have hlt:e < s.heap.objs.size:=Heap.lt_size h1
  have hit:it < s.heap.objs.size:=by obtain ⟨o,q,_⟩:=id h2;exact Heap.lt_size q
  refine wpAny_pyNext_enum_item h1 h2 p.isList (x:=u) (by simpa using hu) ne fun h' eo it' ht hs hk=>?_
  refine ⟨_,rfl,wpAny_letOwnedTupleGo_enum (s:={s with heap:=h',toks:=s.toks+1}) eo fun h3 e3 sb=>?_⟩
  have hf0:H s.heap.objs.size=none:=I.hok.fresh (Nat.le_refl _)
  have nt:∀b∈[e,it],b≠s.heap.objs.size:=fun b hb=>by
   have hb:b=e∨b=it:=by simpa using hb
   rcases hb with rfl | rfl
   · exact Nat.ne_of_lt hlt
   · exact Nat.ne_of_lt hit
  have I0:Inv X pins σ (upd H s.heap.objs.size (.tup [.int i,x])) {s with heap:=s.heap.push {cls:= .type "tuple",data:= .seq #[.int i s.toks,u]},toks:=s.toks+1}:=
   I.laid (fun b u e=>Heap.get?_push_of_some _ e) (Nat.le_refl _) ⟨by simp [sizeLine];try decide,[.int i s.toks,u],.cons ⟨_,rfl⟩ (.cons ru .nil),⟨_,Heap.get?_push_size _ rfl,rfl,_,rfl⟩⟩
  have hfp:∀b∈[e,it],FpOk X pins (upd H s.heap.objs.size (.tup [.int i,x])) b:=fun b hb=>by
   obtain ⟨f0,f1,f2,f3,f4,f5⟩:=hf b hb
   exact ⟨by rw [upd_ne (nt b hb)];exact f0,f1,f2,f3,f4,f5⟩
  have I1:Inv X pins σ (upd H s.heap.objs.size (.tup [.int i,x])) {s with heap:=h3,toks:=s.toks+1}:=by
   refine Inv.turned2 (s:={s with heap:=s.heap.push {cls:= .type "tuple",data:= .seq #[.int i s.toks,u]},toks:=s.toks+1}) (t':=s.toks+1) I0 (fun b o hb q=>?_) hfp
   have hb':b≠e∧b≠it:=by simpa using hb
   refine (sb.2 b hb'.1).trans ?_
   rcases Heap.get?_push_cases q with ⟨rfl,rfl⟩ | q2
   · exact ht
   · exact hk b o hb'.1 hb'.2 q2
  refine ⟨.ref s.heap.objs.size,upd H s.heap.objs.size (.tup [.int i,x]),I1,rfl,⟨_,x,rfl,hf0,rfl,fun ys hy=>by rw [I.list_inj hy hq];exact hx⟩,⟨⟨u,?_⟩,?_⟩,fun b hb=>(hfp b hb).1⟩
  · show IsEnum h3 e it ((i+1:Nat):Int) u
    rw [show ((i+1:Nat):Int)=(i:Int)+1 from rfl]
    exact e3
  · exact it'.at fun o q=>(sb.2 it (Ne.symm ne)).trans q
 done:=by
   intro X hP hw hK hc i pins s σ H E I hf st hg
   subst hP hw hK
   obtain ⟨xs,hq,hx⟩:=hg
   obtain ⟨its,rv,p,hz⟩:=I.list hq
   obtain ⟨⟨old,h1⟩,h2⟩:=st
   have hl:=rv.length
   exact wpAny_pyNext_enum_end (I.ok.hd hc) h1 h2 p.isList (by simp;omega) fun h' eb=>⟨rfl,Inv.turned2 (t':=s.toks) I (fun b o hb q=>eb b o (fun z=>hb (by simp [z])) q) hf⟩
 self:=fun _ _ _ _ _ st h=>wpAny_pyIter_enum st.1.choose_spec h
section
variable {X:Cx}
noncomputable def iEnum(K:PySem.W.Frag)(ta:TA):TI:=fun σ H R=>ta σ H fun vs H1=>∃a,vs=[.ref a]∧(∃xs,SqL K H1 a xs)∧R (Ite K a) H1
theorem pi_enum{l:Expr}{ta:TA}{p pos pp:Pos}{es:List Expr}{k:Nat}(hg:Gl X "enumerate")(hm:X.mg "enumerate"=none)(ha:PA X [l] ta)(hs:starEach [l] X.env=[(false,eval l X.env)]:=by rfl):PI X (.Tuple es k pp) (.Call (.Name "enumerate" p) [l] [] pos) (iEnum X.K ta):=by
 intro pins s σ H R I h
 refine Call_ (ld_blt I hg hm boot_enumerate (PyProof.Rows.callWith_type1 (thn (ha pos pins s σ H _ I h) fun us s1 hq_=>?_) hs rfl))
 obtain ⟨vs,H1,I1,r1,q1⟩:=hq_
 obtain ⟨a,e,⟨xs,hq⟩,q⟩:=q1
 subst e
 cases r1 with
 | cons r rr=>
  cases rr
  cases r
  obtain ⟨its,rv,p',hz⟩:=I1.list hq
  refine call_enumerate_list p'.isList fun h' h1 h2 h3 h4=>?_
  refine wpAny_pyIter_enum h1 ?_
  refine ⟨_,[s1.heap.objs.size+1,s1.heap.objs.size],_,_,H1,rfl,I1.kept (t':=s1.toks) h4,turn_enum a _ _ (Nat.succ_ne_self _),⟨⟨_,h1⟩,h2⟩,fun b hb=>?_,q⟩
  have hb:b=s1.heap.objs.size+1∨b=s1.heap.objs.size:=by simpa using hb
  rcases hb with rfl | rfl
  · exact I1.fpOk (Nat.le_succ _) (I1.hok.fresh (Nat.le_succ _))
  · exact I1.fpOk (Nat.le_refl _) (I1.hok.fresh (Nat.le_refl _))
end
section
variable {K:PySem.W.Frag} {σ:St} {H:Hp} {D:Ends}
theorem rd_ienum{ta:TA}{R:It→Hp→Prop}:iEnum K ta σ H R=ta σ H fun vs H1=>∃a,vs=[.ref a]∧(∃xs,SqL K H1 a xs)∧R (Ite K a) H1:=rfl
theorem forE_by{a:Addr}{xs:List V}{g:TG}{tb:TS}(Pv:Nat→St→Hp→Prop)(h0:Pv 0 σ H)(hl:∀i σ H,i≤xs.length→Pv i σ H→SqL K H a xs)
 (hs:∀i x σ H t,xs[i]?=some x→Pv i σ H→H t=none→g (.ref t) σ (upd H t (.tup [.int i,x])) fun σ2 H2=>tb {D with nx:=Pv (i+1),ct:=Pv (i+1),bk:=D.nx} σ2 H2) (hd:∀σ H,Pv xs.length σ H→D.nx σ H):ForTail g tb D σ (Ite K a) H:=by
 refine ⟨fun i m σ H=>i≤xs.length∧m=xs.length - i∧Pv i σ H,⟨_,Nat.zero_le _,rfl,h0⟩,fun i m σ H ⟨hi,hm,hP⟩=>?_⟩
 have hq:=hl i σ H hi hP
 cases hx:xs[i]? with
 | none=>
  have hn:xs.length≤i:=by simpa using hx
  have e:i=xs.length:=Nat.le_antisymm hi hn
  subst e
  exact .inl ⟨⟨xs,hq,Nat.le_refl _⟩,hd σ H hP⟩
 | some x=>
  have hlt:i < xs.length:=(List.getElem?_eq_some_iff.mp hx).1
  refine .inr ⟨⟨xs,x,hq,hx⟩,Pv (i+1),fun σ' H' h=>⟨xs.length - (i+1),by omega,by omega,rfl,h⟩,?_⟩
  rintro y H' ⟨t,x',rfl,ht,rfl,hy⟩
  have e:=(hy xs hq).symm.trans hx
  cases e
  exact hs i x σ H t hx hP ht
end
end L2
namespace L2
noncomputable def Itz(K:PySem.W.Frag)(a b:Addr):It:=
 ⟨fun i H=>∃xs ys x y,SqL K H a xs∧SqL K H b ys∧xs[i]?=some x∧ys[i]?=some y,fun i H v H'=>∃t x y,v= .ref t∧H t=none∧H'=upd H t (.tup [x,y])∧(∀xs,SqL K H a xs→xs[i]?=some x)∧∀ys,SqL K H b ys→ys[i]?=some y,
  fun i H=>∃xs ys,SqL K H a xs∧SqL K H b ys∧(xs.length≤i∨ys.length≤i)⟩
noncomputable def tnZ(z TI TO i1 i2 a b:Addr)(i:Nat)(h:Heap):Prop:=IsZip h z TI TO .none∧IsPair h TI (.ref i1) (.ref i2)∧(∃x y,IsPair h TO x y)∧h.IsListIter i1 a i∧h.IsListIter i2 b i
theorem turn_zip{P:Program}{w:World}{K:PySem.W.Frag}{es:List Expr}{k:Nat}{pos:Pos}(a b z TI TO i1 i2:Addr)(D:ZipApart z TI TO i1 i2 a b):Turn P w K (.Tuple es k pos) (Itz K a b) [z,TI,TO,i1,i2] z (tnZ z TI TO i1 i2 a b) where
 mem:=by simp
 obj:=fun i h st c hc=>by
  obtain ⟨h1,h2,⟨x,y,h3⟩,⟨o4,e4,c4,d4⟩,⟨o5,e5,c5,d5⟩⟩:=st
  have hc:c=z∨c=TI∨c=TO∨c=i1∨c=i2:=by simpa using hc
  rcases hc with rfl | rfl | rfl | rfl | rfl
  · exact ⟨_,h1,fun v z=>by cases z⟩
  · exact ⟨_,h2,fun v z=>by cases z⟩
  · exact ⟨_,h3,fun v z=>by cases z⟩
  · exact ⟨o4,e4,fun v z=>by rw [d4]at z;cases z⟩
  · exact ⟨o5,e5,fun v z=>by rw [d5]at z;cases z⟩
 keep:=fun i h h' st kk=>by
  obtain ⟨h1,h2,⟨x,y,h3⟩,h4,h5⟩:=st
  exact ⟨kk z (by simp) _ h1,kk TI (by simp) _ h2,⟨x,y,kk TO (by simp) _ h3⟩,h4.at fun o q=>kk i1 (by simp) o q,h5.at fun o q=>kk i2 (by simp) o q⟩
 item:=by
  intro X hP hw hK hc i pins s σ H E I hf st hg
  subst hP hw hK
  obtain ⟨xs,ys,x,y,hq,hq2,hx,hy⟩:=hg
  obtain ⟨its,rv,p,hz⟩:=I.list hq
  obtain ⟨jts,rv2,p2,hz2⟩:=I.list hq2
  obtain ⟨u,hu,ru⟩:=rv.get hx
  obtain ⟨v,hv,rw'⟩:=rv2.get hy
  obtain ⟨h1,h2,⟨x0,y0,h3⟩,h4,h5⟩:=st
  have lts:∀c∈[z,TI,TO,i1,i2],c < s.heap.objs.size:=fun c hc'=>by
   have hc':c=z∨c=TI∨c=TO∨c=i1∨c=i2:=by simpa using hc'
   rcases hc' with rfl | rfl | rfl | rfl | rfl
   · exact Heap.lt_size h1
   · exact Heap.lt_size h2
   · exact Heap.lt_size h3
   · obtain ⟨o,q,_⟩:=id h4;exact Heap.lt_size q
   · obtain ⟨o,q,_⟩:=id h5;exact Heap.lt_size q
  refine wpAny_pyNext_zip_item D h1 h2 h3 h4 h5 p.isList p2.isList (x:=u) (y:=v) (by simpa using hu) (by simpa using hv) fun h' e1 e3 e4 e5 ht hs hk=>?_
  refine ⟨_,rfl,wpAny_letOwnedTupleGo_zip (s:={s with heap:=h'}) e1 fun h6 e6 sb=>?_⟩
  have hf0:H s.heap.objs.size=none:=I.hok.fresh (Nat.le_refl _)
  have nt:∀c∈[z,TI,TO,i1,i2],c≠s.heap.objs.size:=fun c hc'=>Nat.ne_of_lt (lts c hc')
  have I0:Inv X pins σ (upd H s.heap.objs.size (.tup [x,y])) {s with heap:=s.heap.push {cls:= .type "tuple",data:= .seq #[u,v]}}:=
   I.laid (t':=s.toks) (fun b u e=>Heap.get?_push_of_some _ e) (Nat.le_refl _) ⟨by simp [sizeLine];try decide,[u,v],.cons ru (.cons rw' .nil),⟨_,Heap.get?_push_size _ rfl,rfl,_,rfl⟩⟩
  have hfp:∀c∈[z,TI,TO,i1,i2],FpOk X pins (upd H s.heap.objs.size (.tup [x,y])) c:=fun c hc'=>by
   obtain ⟨f0,f1,f2,f3,f4,f5⟩:=hf c hc'
   exact ⟨by rw [upd_ne (nt c hc')];exact f0,f1,f2,f3,f4,f5⟩
  have I1:Inv X pins σ (upd H s.heap.objs.size (.tup [x,y])) {s with heap:=h6}:=by
   refine Inv.turned2 (s:={s with heap:=s.heap.push {cls:= .type "tuple",data:= .seq #[u,v]}}) (t':=s.toks) I0 (fun c o hc' q=>?_) hfp
   have hb':c≠z∧c≠TI∧c≠TO∧c≠i1∧c≠i2:=by simpa using hc'
   refine (sb.2 c hb'.1).trans ?_
   rcases Heap.get?_push_cases q with ⟨rfl,rfl⟩ | q2
   · exact ht
   · exact hk c o hb'.1 hb'.2.2.1 hb'.2.2.2.1 hb'.2.2.2.2 q2
  refine ⟨.ref s.heap.objs.size,upd H s.heap.objs.size (.tup [x,y]),I1,rfl,⟨_,x,y,rfl,hf0,rfl,fun zs hy'=>by rw [I.list_inj hy' hq];exact hx,fun zs hy'=>by rw [I.list_inj hy' hq2];exact hy⟩,?_,fun c hc'=>(hfp c hc').1⟩
  have k6:∀c o,c≠z→h'.get? c=some o→h6.get? c=some o:=fun c o n q=>(sb.2 c n).trans q
  exact ⟨e6,k6 TI _ D.TIz (hk TI _ D.TIz D.TITO D.TIi1 D.TIi2 h2),⟨_,_,k6 TO _ D.TOz e3⟩,e4.at fun o q=>k6 i1 o D.i1z q,e5.at fun o q=>k6 i2 o D.i2z q⟩
 done:=by
   intro X hP hw hK hc i pins s σ H E I hf st hg
   subst hP hw hK
   obtain ⟨xs,ys,hq,hq2,hx⟩:=hg
   obtain ⟨its,rv,p,hz⟩:=I.list hq
   obtain ⟨jts,rv2,p2,hz2⟩:=I.list hq2
   obtain ⟨h1,h2,⟨x0,y0,h3⟩,h4,h5⟩:=st
   have hl:=rv.length
   have hl2:=rv2.length
   exact wpAny_pyNext_zip_end (I.ok.hd hc) D h1 h2 h3 h4 h5 p.isList p2.isList (hx.imp (fun h=>by simp;omega) fun h=>by simp;omega) fun h' eb=>⟨rfl,Inv.turned2 (t':=s.toks) I (fun c o hb q=>by
    have hb':c≠z∧c≠TI∧c≠TO∧c≠i1∧c≠i2:=by simpa using hb
    exact eb c o hb'.1 hb'.2.2.1 hb'.2.2.2.1 hb'.2.2.2.2 q) hf⟩
 self:=fun _ _ _ _ _ st h=>wpAny_pyIter_zip st.1 h
section
variable {X:Cx}
noncomputable def iZip(K:PySem.W.Frag)(ta:TA):TI:=fun σ H R=>ta σ H fun vs H1=>∃a b,vs=[.ref a,.ref b]∧(∃xs,SqL K H1 a xs)∧(∃ys,SqL K H1 b ys)∧R (Itz K a b) H1
theorem pi_zip{l r:Expr}{ta:TA}{p pos pp:Pos}{es:List Expr}{k:Nat}(hg:Gl X "zip")(hm:X.mg "zip"=none)(ha:PA X [l,r] ta)(hs:starEach [l,r] X.env=[(false,eval l X.env),(false,eval r X.env)]:=by rfl)(hs2:starEach [r] X.env=[(false,eval r X.env)]:=by rfl):
 PI X (.Tuple es k pp) (.Call (.Name "zip" p) [l,r] [] pos) (iZip X.K ta):=by
 intro pins s σ H R I h
 refine Call_ (ld_blt I hg hm boot_zip (PyProof.Rows.callWith_type1 (thn (ha pos pins s σ H _ I h) fun us s1 ⟨vs,H1,I1,r1,q1⟩=>?_) (by rw [hs,hs2]) (by rw [hs2];rfl)))
 obtain ⟨a,b,e,⟨xs,hq⟩,⟨ys,hq2⟩,q⟩:=q1
 subst e
 cases r1 with
 | cons r rr=>
  cases rr with
  | cons r' rr=>
   cases rr
   cases r
   cases r'
   obtain ⟨its,rv,p',hz⟩:=I1.list hq
   obtain ⟨jts,rv2,p2,hz2⟩:=I1.list hq2
   have la:a < s1.heap.objs.size:=by obtain ⟨o,e,_⟩:=p'.isList;exact Heap.lt_size e
   have lb:b < s1.heap.objs.size:=by obtain ⟨o,e,_⟩:=p2.isList;exact Heap.lt_size e
   refine call_zip_2 p'.isList p2.isList fun h' h1 h2 h3 h4 h5 h6 h7=>?_
   refine wpAny_pyIter_zip h1 ?_
   refine ⟨_,[s1.heap.objs.size+4,s1.heap.objs.size+2,s1.heap.objs.size+3,s1.heap.objs.size,s1.heap.objs.size+1],_,_,H1,rfl,I1.kept (t':=s1.toks) h7,turn_zip a b _ _ _ _ _ (PySem.W.ktu_apart _ _ _ la lb),⟨h1,h2,⟨_,_,h3⟩,h4,h5⟩,fun c hc=>?_,q⟩
   have hc:s1.heap.objs.size≤c:=by
    have hc:c=s1.heap.objs.size+4∨c=s1.heap.objs.size+2∨c=s1.heap.objs.size+3∨c=s1.heap.objs.size∨c=s1.heap.objs.size+1:=by simpa using hc
    rcases hc with rfl | rfl | rfl | rfl | rfl
    · exact Nat.le_add_right _ _
    · exact Nat.le_add_right _ _
    · exact Nat.le_add_right _ _
    · exact Nat.le_refl _
    · exact Nat.le_add_right _ _
   exact I1.fpOk hc (I1.hok.fresh hc)
end
section
variable {K:PySem.W.Frag} {σ:St} {H:Hp} {D:Ends}
theorem rd_izip{ta:TA}{R:It→Hp→Prop}:iZip K ta σ H R=ta σ H fun vs H1=>∃a b,vs=[.ref a,.ref b]∧(∃xs,SqL K H1 a xs)∧(∃ys,SqL K H1 b ys)∧R (Itz K a b) H1:=rfl
theorem forZ_by{a b:Addr}{xs ys:List V}{g:TG}{tb:TS}(hlen:xs.length=ys.length)(Pv:Nat→St→Hp→Prop)(h0:Pv 0 σ H)(hl:∀i σ H,i≤xs.length→Pv i σ H→SqL K H a xs∧SqL K H b ys)
 (hs:∀i x y σ H t,xs[i]?=some x→ys[i]?=some y→Pv i σ H→H t=none→g (.ref t) σ (upd H t (.tup [x,y])) fun σ2 H2=>tb {D with nx:=Pv (i+1),ct:=Pv (i+1),bk:=D.nx} σ2 H2) (hd:∀σ H,Pv xs.length σ H→D.nx σ H):ForTail g tb D σ (Itz K a b) H:=by
 refine ⟨fun i m σ H=>i≤xs.length∧m=xs.length - i∧Pv i σ H,⟨_,Nat.zero_le _,rfl,h0⟩,fun i m σ H ⟨hi,hm,hP⟩=>?_⟩
 obtain ⟨hq,hq2⟩:=hl i σ H hi hP
 by_cases hlt:i < xs.length
 · have hx:xs[i]?=some xs[i]:=List.getElem?_eq_getElem hlt
   have hy:ys[i]?=some (ys[i]'(by omega)):=List.getElem?_eq_getElem (by omega)
   refine .inr ⟨⟨xs,ys,_,_,hq,hq2,hx,hy⟩,Pv (i+1),fun σ' H' h=>⟨xs.length - (i+1),by omega,by omega,rfl,h⟩,?_⟩
   rintro v H' ⟨t,x',y',rfl,ht,rfl,h1,h2⟩
   have e:=(h1 xs hq).symm.trans hx
   have e2:=(h2 ys hq2).symm.trans hy
   cases e
   cases e2
   exact hs i _ _ σ H t hx hy hP ht
 · have e:i=xs.length:=by omega
   subst e
   exact .inl ⟨⟨xs,ys,hq,hq2,.inl (Nat.le_refl _)⟩,hd σ H hP⟩
end
end L2
namespace N32
open L2 N1 N5 N31
noncomputable def lastIx(ys:List Str)(z:Str):Nat→Option Nat
 | 0=>none
 | n+1=>if ys.getD n Str.empty=z then some n else lastIx ys z n
noncomputable def ear(ys:List Str)(i:Nat):Option Nat:=lastIx ys (ys.getD i Str.empty) i
noncomputable def W(R:Str→Int)(ys:List Str)(n j:Nat):Int:=if lastIx ys (ys.getD j Str.empty) n=some j then R (ys.getD j Str.empty) else 0
noncomputable def tl(f:Nat→Int)(b n:Nat):Int:=((List.range' b (n - b)).map f).sum
noncomputable def dep(R:Str→Int)(ys:List Str)(n:Nat):Option Int:=(ear ys n).map fun b=>tl (W R ys n) b n
end N32
namespace N32
open L2 N1 N5 N31 N4
noncomputable def rm(ts:List Th)(z:Str):Int:=((ts.find? fun t=>decide (t.1=z)).map (·.2.2)).getD 0
theorem rm_at{ts:List Th}(nd:(ts.map (·.1)).Nodup){i:Nat}{t:Th}(h:ts[i]?=some t):rm ts t.1=t.2.2:=by
 induction ts generalizing i with
 | nil=>simp at h
 | cons u r ih=>
  rw [List.map_cons,List.nodup_cons]at nd
  cases i with
  | zero=>
   rw [List.getElem?_cons_zero]at h
   cases h
   simp [rm]
  | succ i=>
   rw [List.getElem?_cons_succ]at h
   have ne:¬u.1=t.1:=fun e=>nd.1 (by rw [e];exact List.mem_map.mpr ⟨t,List.mem_of_getElem? h,rfl⟩)
   have:=ih nd.2 h
   unfold rm at this ⊢
   rw [List.find?_cons_of_neg (by simpa using ne)]
   exact this
theorem same_upd{H H':Hp}{p:Addr}{o:HO}(s:Same H H')(h:H p=none):Same H (upd H' p o):=fun b u e=>by
 rw [upd_ne (ne_of_none e h)];exact s b u e
noncomputable def sp32_check:Sp:=fun vs H Q _=>∃(i:Int),vs=[.int i]∧1≤i∧i≤1000000∧Q .non H
noncomputable def sp32_thing(K:PySem.W.Frag)(C:Addr):Sp:=fun vs H Q _=>∃(p:Addr) (ts:List Th) (z:Str),vs=[.ref p,.str z]∧StockAt K C H p ts∧(ts.map (·.1)).Nodup∧z∈ts.map (·.1)∧∀(i:Nat) (t:Th),ts[i]?=some t→t.1=z→∀a,SqT K H a [.int i,.int t.2.1,.int t.2.2]→Q (.ref a) H
noncomputable def sp32_room(K:PySem.W.Frag)(C:Addr):Sp:=fun vs H Q _=>∃(p:Addr) (ts:List Th) (z:Str),vs=[.ref p,.str z]∧StockAt K C H p ts∧(ts.map (·.1)).Nodup∧z∈ts.map (·.1)∧Q (.int (rm ts z)) H
section
variable {K:PySem.W.Frag} {σ:L2.St} {H:Hp} {Q:VK}
theorem rd_dget1{td ty:TE}:tDGet1 td ty σ H Q=td σ H fun x H1=>∃a,x= .ref a∧IsD H1 a∧ty σ H1 fun y H2=>∃o,DGet H2 a y o∧Q (o.getD .non) H2:=rfl
theorem rd_disp1{tk tv:TE}:tDisp [(tk,tv)] σ H Q=∀p,H p=none→tk σ (upd H p (.dK [])) fun x H1=>tv σ H1 fun y H2=>H2 p=some (.dK [])∧∃kvs:List (Key×V),[(x,y)]=kvs.map (fun kv=>(kV kv.1,kv.2))∧kvs.length≤15∧Q (.ref p) (upd H2 p (.dK (mergeK [] kvs))):=rfl
end
end N32
namespace N32
open L2 N1 N5 N31 N4
theorem cut_anyI(ns:List Int)(lo hi:Option Int):∃cs:List Int,cutV (ns.map V.int) lo hi=cs.map V.int∧cs.length≤ns.length:=by
 unfold cutV
 rw [← List.map_drop,← List.map_take]
 refine ⟨_,rfl,?_⟩
 rw [List.length_take,List.length_drop]
 omega
end N32
open L2 N1 N5 N31 N4 N32
namespace N41
noncomputable def seg(T:List Int)(a b:Nat):Int:=((T.take b).drop a).sum
noncomputable def leastAt(c r:Str→Int)(T:List Int)(S:Int)(ys:List Str)(n:Nat):Int:=
 match ear ys n with
 | none=>c (ys.getD n Str.empty) * S
 | some e=>min (c (ys.getD n Str.empty) * S) (r (ys.getD n Str.empty) * seg T (e+1) n)
noncomputable def fl(c r:Str→Int)(T:List Int)(S P:Int)(ys:List Str):Nat→Int
 | 0=>0
 | n+1=>fl c r T S P ys n+(leastAt c r T S ys n - T.getD n 0 * (P - r (ys.getD n Str.empty)))
noncomputable def sm(f:Str→Int)(L:List Str):Int:=(L.map f).sum
theorem sm_nil(f:Str→Int):sm f []=0:=rfl
theorem sm_cons(f:Str→Int)(x:Str)(L:List Str):sm f (x::L)=f x+sm f L:=by unfold sm;rw [List.map_cons,List.sum_cons]
end N41
namespace N41
noncomputable def cst(ts:List Th)(z:Str):Int:=((ts.find? fun t=>decide (t.1=z)).map (·.2.1)).getD 0
theorem cst_at{ts:List Th}(nd:(ts.map (·.1)).Nodup){i:Nat}{t:Th}(h:ts[i]?=some t):cst ts t.1=t.2.1:=by
 induction ts generalizing i with
 | nil=>simp at h
 | cons u r ih=>
  rw [List.map_cons,List.nodup_cons]at nd
  cases i with
  | zero=>
   rw [List.getElem?_cons_zero]at h
   cases h
   simp [cst]
  | succ i=>
   rw [List.getElem?_cons_succ]at h
   have ne:¬u.1=t.1:=fun e=>nd.1 (by rw [e];exact List.mem_map.mpr ⟨t,List.mem_of_getElem? h,rfl⟩)
   have:=ih nd.2 h
   unfold cst at this ⊢
   rw [List.find?_cons_of_neg (by simpa using ne)]
   exact this
noncomputable def sp41_asks(K:PySem.W.Frag)(C:Addr):Sp:=fun vs H Q _=>∃(p a:Addr) (pl:Int) (ts:List Th) (ys:List Str),vs=[.ref p,.ref a,.int pl]∧StockAt K C H p ts∧(ts.map (·.1)).Nodup∧SqL K H a (ys.map V.str)∧ys.length≤200∧(∀y∈ys,y∈ts.map (·.1))∧(∀y∈ys,rm ts y≤pl)∧1≤pl∧pl≤1000000∧∀H',Same H H'→Q (.bl true) H'
end N41
namespace L2
noncomputable abbrev tComp1I(wi:TI)(fs:List Nat)(tt:Blk→TT)(te:Blk→TE):TE:=tComp wi 1 fs (fun _=>gName 0) tt te
noncomputable abbrev g2(K:PySem.W.Frag):Blk→TG:=fun _=>gTup K 2 (gCons (gName 0) (gCons (gName 1) gNil))
noncomputable abbrev tComp2(K:PySem.W.Frag)(wi:TI)(fs:List Nat)(tt:Blk→TT)(te:Blk→TE):TE:=tComp wi 2 fs (g2 K) tt te
section
variable {K:PySem.W.Frag} {tail:St} {tt:Blk→TT} {te:Blk→TE} {Q:VK} {H1:Hp} {σ:St} {H:Hp}
theorem rd_compI{wi:TI}{fs:List Nat}:tComp1I wi fs tt te σ H Q=wi σ H (CompTail (none::fs.map fun j=>σ.getD j none) (fun _=>gName 0) tt te Q):=rfl
theorem rd_comp2{wi:TI}{fs:List Nat}:tComp2 K wi fs tt te σ H Q=wi σ H (CompTail (none::none::fs.map fun j=>σ.getD j none) (g2 K) tt te Q):=rfl
theorem same_put{H H':Hp}{p:Addr}{o:HO}(s:Same H H')(h:H p=none):Same H (upd H' p o):=fun b u e=>by
 rw [upd_ne (ne_of_none e h)];exact s b u e
theorem compL_if{a:Addr}{xs:List V}(p:V→Bool)(f:V→V)(hS:SqL K H1 a xs)(hz:xs.length≤sizeLine)(ht:∀b x H QT,x∈xs→Same H1 H→(∀H',Same H H'→QT (p x) H')→tt b (some x::tail) H QT)
 (he:∀b x H Q',x∈xs→p x=true→Same H1 H→(∀H',Same H H'→Q' (f x) H')→te b (some x::tail) H Q')
 (q:∀D H',H1 D=none→Same H1 H'→H' D=some (.lst ((xs.filter p).map f))→Q (.ref D) H'):CompTail (none::tail) (fun _=>gName 0) tt te Q (Itl K a) H1:=by
 intro b D hD
 refine ⟨fun i m ys H=>m=xs.length - i∧i≤xs.length∧ys=((xs.take i).filter p).map f∧H D=some (.lst ys)∧Same H1 H,⟨_,rfl,Nat.zero_le _,rfl,upd_same,same_new hD⟩,?_⟩
 rintro i m ys H ⟨rfl,hi,rfl,hd,sm⟩
 refine ⟨hd,?_⟩
 by_cases hlt:i < xs.length
 · refine .inr ⟨⟨xs,xs[i],sm.seq hS,by simp [hlt]⟩,fun x H3 ⟨e3,ex⟩=>⟨kept0,?_⟩⟩
   subst e3
   have hx:=ex xs (sm.seq hS)
   have hm:=List.mem_of_getElem? hx
   have hl:(((xs.take i).filter p).map f).length≤i:=by
    rw [List.length_map];exact Nat.le_trans (List.length_filter_le _ _) (by rw [List.length_take];omega)
   refine ht b x _ _ hm sm fun H7 s7=>?_
   have htk:(xs.take (i+1)).filter p=(xs.take i).filter p++[x].filter p:=by rw [List.take_add_one,hx,List.filter_append];rfl
   by_cases hp:p x=true
   · rw [if_pos hp]
     refine he b x H7 _ hm hp (sm.trans s7) fun H8 s8=>?_
     have hd8:=(s7.trans s8) _ _ hd
     refine ⟨hd8,by omega,xs.length - (i+1),by omega,rfl,hlt,?_,upd_same,same_put ((sm.trans s7).trans s8) hD⟩
     rw [htk,List.filter_cons_of_pos hp,List.filter_nil,List.map_append];rfl
   · rw [if_neg hp]
     refine ⟨xs.length - (i+1),by omega,rfl,hlt,?_,s7 _ _ hd,sm.trans s7⟩
     rw [htk,List.filter_cons_of_neg hp,List.filter_nil,List.append_nil]
 · have e:i=xs.length:=by omega
   subst e
   refine .inl ⟨⟨xs,sm.seq hS,Nat.le_refl _⟩,q D H hD sm ?_⟩
   rw [hd,List.take_length]
end
end L2
namespace L2
section
variable {X:Cx} {scope:Scope} {x y v:Str} {px py pt pv':Pos} {n i:Nat} {fs:List Nat} {elt iter c:Expr} {pos spos:Pos} {wi:TI} {tt:Blk→TT} {te:Blk→TE}
theorem ps_compI(x:Str)(fs:List Nat)(hN:X.N.Nodup)(hy:X.N[i]?=some v)(hyl:X.env.kindOf v=some .local)(hc:X.calm=true)(hok:compOkB X.N X.env.scope scope [x] fs=true)(hi:PI X (.Name x px) iter wi)(ht:∀b,PT (X.blk scope ([x]++around X.N fs) b) c (tt b))(he:∀b,PE (X.blk scope ([x]++around X.N fs) b) elt (te b))
 (hsw:swapsWith (.ListComp elt [⟨.Name x px,iter,[c],0⟩] scope pos) (some (.Name v pv')) spos.line X.env=pure true:=by rfl)
 (hs:∀x,foldedSetIterable iter X.env x=pure x:=by intro _;rfl):PS X (.Assign [.Name v pv'] (.ListComp elt [⟨.Name x px,iter,[c],0⟩] scope pos) spos) (tAsg (tComp1I wi fs tt te) (gName i)):=
 ps_comp (xs:=[x]) (g:=fun _=>gName 0) (tt:=tt) hN hy hyl hc hok hi (pg_own hok) (fun b=>pts_one (ht b)) he hsw hs
end
end L2
namespace L2
open PySem.W
noncomputable def rMaxL(K:PySem.W.Frag):List V→Hp→VK→Prop:=fun xs H Q=>∃(p:Addr) (is:List Int),xs=[.ref p]∧SqL K H p (is.map V.int)∧is≠[]∧∀v∈is,(∀x∈is,x≤v)→Q (.int v) H
theorem best_lt(val:Nat→Int):∀k,argBest (fun i j=>decide (val i < val j)) k≤k∧∀j,j≤k→val (argBest (fun i j=>decide (val i < val j)) k)≤val j:=by
 intro k
 induction k with
 | zero=>exact ⟨Nat.le_refl _,fun j hj=>by rw [Nat.le_zero.mp hj];exact Int.le_refl _⟩
 | succ k ih=>
  unfold argBest
  split
  · rename_i h
    have h:=of_decide_eq_true h
    refine ⟨Nat.le_refl _,fun j hj=>?_⟩
    by_cases e:j=k+1
    · rw [e];exact Int.le_refl _
    · have:=ih.2 j (by omega);omega
  · rename_i h
    have h:¬(val (k+1) < _):=fun z=>h (decide_eq_true z)
    refine ⟨Nat.le_succ_of_le ih.1,fun j hj=>?_⟩
    by_cases e:j=k+1
    · rw [e];omega
    · exact ih.2 j (by omega)
section
variable {K:PySem.W.Frag} {H:Hp} {Q:VK} {xs:List V}
theorem rd_maxL:rMaxL K xs H Q=∃(p:Addr) (is:List Int),xs=[.ref p]∧SqL K H p (is.map V.int)∧is≠[]∧∀v∈is,(∀x∈is,x≤v)→Q (.int v) H:=rfl
end
end L2
namespace L2
noncomputable def itemsO(v d:Addr):HO:= .ext fun h=>h.IsItemsView v d
noncomputable def Iti(o:Obj)(d:Addr):It:=
 ⟨fun i H=>∃kvs p,H d=some (.frz o (.dK kvs))∧kvs[i]?=some p,fun i H v H'=>∃t k x,v= .ref t∧H t=none∧H'=upd H t (.tup [kV k,x])∧∀kvs,H d=some (.frz o (.dK kvs))→kvs[i]?=some (k,x),
  fun i H=>∃kvs,H d=some (.frz o (.dK kvs))∧kvs.length≤i⟩
section
variable {X:Cx}
noncomputable def rItems:V→List V→Hp→VK→Prop:=fun x vs H Q=>∃a kvs,x= .ref a∧vs=[]∧H a=some (.dK kvs)∧∀v,H v=none→Q (.ref v) (upd H v (itemsO v a))
noncomputable def iView(tv:TE):TI:=fun σ H R=>tv σ H fun x H1=>∃v d kvs,x= .ref v∧H1 v=some (itemsO v d)∧H1 d=some (.dK kvs)∧∀o,R (Iti o d) (upd H1 d (.frz o (.dK kvs)))
end
section
variable {K:PySem.W.Frag} {tail:St} {te:Blk→TE} {Q:VK} {H1:Hp} {σ:St} {H:Hp}
theorem rd_items{x:V}{vs:List V}:rItems x vs H Q=∃a kvs,x= .ref a∧vs=[]∧H a=some (.dK kvs)∧∀v,H v=none→Q (.ref v) (upd H v (itemsO v a)):=rfl
theorem rd_iview{tv:TE}{R:It→Hp→Prop}:iView tv σ H R=tv σ H fun x H1=>∃v d kvs,x= .ref v∧H1 v=some (itemsO v d)∧H1 d=some (.dK kvs)∧∀o,R (Iti o d) (upd H1 d (.frz o (.dK kvs))):=rfl
end
end L2
namespace L2
theorem rd_augN{σ:St}{H:Hp}{D:Ends}{i:Nat}{te:TE}{ti:TIp}:tAug i te ti D σ H=∃x,σ[i]?=some (some x)∧te σ H fun y H1=>ti x y H1 fun z H2=>D.nx (σ.set i (some z)) H2:=rfl
end L2
namespace N41
open L2 N1 N5 N31 N4 N32
noncomputable def nmR(c:Int)(k:Nat):List Nat:=List.replicate (1+k % 8) (bc ((c+(k:Int) / 8) % 26))
theorem nmR_name{c:Int}{k:Nat}:nameB (nmR c k)=true:=by
 have hb:bc ((c+(k:Int) / 8) % 26)∈letters:=bc_let
 unfold nmR
 generalize bc ((c+(k:Int) / 8) % 26)=x at hb ⊢
 have hl:1+k % 8≤8:=by omega
 obtain ⟨n,hn⟩:∃n,1+k % 8=n+1:=⟨k % 8,by omega⟩
 rw [hn]at hl ⊢
 unfold nameB
 have e1:(List.replicate (n+1) x).length=n+1:=List.length_replicate ..
 simp only [Bool.and_eq_true,decide_eq_true_eq,e1]
 refine ⟨⟨⟨by omega,by omega⟩,?_⟩,?_⟩
 all_goals first | (rw [List.replicate_succ];unfold headIn;simp [hb];done) | (rw [List.all_eq_true];intro y hy;rw [(List.mem_replicate.mp hy).2];simp [hb];done) | (simp [List.replicate_succ,hb];done) | simp_all
theorem nmR_inj{c:Int}{k k':Nat}(hk:k < 16)(hk':k' < 16)(h:nmR c k=nmR c k'):k=k':=by
 have h1:=congrArg List.length h
 unfold nmR at h1 h
 rw [List.length_replicate,List.length_replicate]at h1
 have h2:bc ((c+(k:Int) / 8) % 26)=bc ((c+(k':Int) / 8) % 26):=by
  rw [← h1,show 1+k % 8=(k % 8)+1 by omega,List.replicate_succ,List.replicate_succ]at h
  exact (List.cons.inj h).1
 have h3:=bc_inj (Int.emod_nonneg _ (by decide)) (Int.lt_of_lt_of_le (Int.emod_lt_of_pos _ (by decide)) (by decide)) (Int.emod_nonneg _ (by decide)) (Int.lt_of_lt_of_le (Int.emod_lt_of_pos _ (by decide)) (by decide)) h2
 omega
noncomputable def nmB(w:Bool)(c:Int)(at':Int)(L:Nat)(k:Nat):List Nat:=if w then nmL (fun j:Nat=>c+5 * (j:Int)) at' L k else nmR c k
noncomputable def nmsB(w:Bool)(c:Int)(at':Int)(L m:Nat):List Str:=(List.range m).map fun k=>tx (nmB w c at' L k)
theorem nmsB_nodup{w:Bool}{c at':Int}{L m:Nat}(h0:0≤at')(h1:at' < L)(hm:m≤16):(nmsB w c at' L m).Nodup:=by
 unfold nmsB List.Nodup
 rw [List.pairwise_map]
 refine List.Pairwise.imp_of_mem (R:=fun a b=>a≠b) ?_ List.nodup_range
 intro a b ha hb hab e
 have ha':=List.mem_range.mp ha
 have hb':=List.mem_range.mp hb
 have e':=T_inj e
 unfold nmB at e'
 cases w with
 | true=>exact hab (nmL_inj h0 h1 (by omega) (by omega) e')
 | false=>exact hab (nmR_inj (by omega) (by omega) e')
theorem nmsB_name{w:Bool}{c at':Int}{L m:Nat}(h1:1≤L)(h2:L≤8):∀y∈nmsB w c at' L m,nameB y.cps.toList=true:=fun y hy=>by
 unfold nmsB at hy
 obtain ⟨k,_,rfl⟩:=List.mem_map.mp hy
 rw [T_list]
 unfold nmB
 cases w with
 | true=>exact nmL_name h1 h2
 | false=>exact nmR_name
noncomputable def sp41_names:Sp:=fun vs H Q _=>∃(i:Int) (m:Nat),vs=[.int i,.int m]∧m≤9∧∀(p:Addr) (ys:List Str) (H':Hp),H p=none→Same H H'→H' p=some (.lst (ys.map V.str))→ys.length≤m→m≤ys.length→ys.Nodup→(∀y∈ys,nameB y.cps.toList=true)→Q (.ref p) H'
theorem fold_rep{x:Nat}:∀(n:Nat) (acc:Array Nat),(List.replicate n #[x]).foldl (· ++·) acc=acc++(List.replicate n x).toArray:=by
 intro n
 induction n with
 | zero=>intro acc;simp
 | succ n ih=>
  intro acc
  rw [List.replicate_succ,List.foldl_cons,ih,List.replicate_succ]
  apply Array.toList_inj.mp
  simp
theorem mul_rep{x:Nat}{n:Int}(h:1≤n):Txt.mul ⟨#[x]⟩ n=tx (List.replicate n.toNat x):=by
 unfold Txt.mul
 rw [if_neg (by omega)]
 by_cases e:n=1
 · subst e;rfl
 · rw [if_neg (by rw [len_one];simp [e])]
   show (⟨_⟩:Str)=⟨_⟩
   congr 1
   rw [fold_rep]
   simp
theorem mul_okR{x:Nat}{n:Int}(h0:0≤n)(h:n≤8):MulOk ⟨#[x]⟩ n:=by
 have hc:n=0∨n=1∨n=2∨n=3∨n=4∨n=5∨n=6∨n=7∨n=8:=by omega
 unfold MulOk
 rw [len_one]
 rcases hc with rfl | rfl | rfl | rfl | rfl | rfl | rfl | rfl | rfl <;> exact ⟨by decide,by decide,by decide+kernel⟩
theorem nmL_s{F:Nat→Int}{at':Int}{j k:Nat}:nmL F at' (j+1) k=nmL F at' j k++[sgn F at' k j]:=by unfold nmL;rw [List.range_succ,List.map_append];rfl
theorem nmL_l{F:Nat→Int}{at':Int}{L k:Nat}:(nmL F at' L k).length=L:=by simp [nmL]
theorem nmL_one{c at':Int}{k:Nat}:nmL (fun j:Nat=>c+5 * (j:Int)) at' 1 k=[bc ((c+(k:Int) * (if at'=0 then 1 else 0)) % 26)]:=by
 rw [nmL_s]
 show []++_=_
 unfold sgn md
 rw [List.nil_append,if_pos rfl]
 congr 3
 by_cases h:at'=0
 · rw [if_pos (by rw [h];rfl),if_pos h];simp
 · rw [if_neg (fun e=>h e.symm),if_neg h];simp
theorem nmL_more{c at':Int}{k j:Nat}:nmL (fun j:Nat=>c+5 * (j:Int)) at' (1+j+1) k=nmL (fun j:Nat=>c+5 * (j:Int)) at' (1+j) k++[bc ((c+5 * (1+(j:Int))+(k:Int) * (if 1+(j:Int)=at' then 1 else 0)) % 36)]:=by
 rw [nmL_s]
 congr 2
 unfold sgn md
 have e:((1+j:Nat):Int)=1+(j:Int):=by omega
 rw [e,if_neg (show ¬(1+j=0) by omega)]
 congr 2
 by_cases h:1+(j:Int)=at'
 · rw [if_pos h,if_pos h];simp
 · rw [if_neg h,if_neg h];simp
theorem nmsB_succ{w:Bool}{c at':Int}{L k:Nat}:nmsB w c at' L (k+1)=nmsB w c at' L k++[tx (nmB w c at' L k)]:=by
 unfold nmsB;rw [List.range_succ,List.map_append];rfl
theorem getD_s{ys:List Str}{k:Nat}(h:k < ys.length):ys[k]?=some (ys.getD k Str.empty):=by rw [List.getD_eq_getElem?_getD,List.getElem?_eq_getElem h];rfl
noncomputable def kvN(ys:List Str)(f:Str→Int):List (Key×V):=ys.map fun y=>(Sum.inr y,V.int (f y))
noncomputable def upF(f:Str→Int)(y:Str)(v:Int):Str→Int:=fun u=>if u=y then v else f u
theorem upF_same{f:Str→Int}{y:Str}{v:Int}:upF f y v y=v:=if_pos rfl
theorem upF_ne{f:Str→Int}{y u:Str}{v:Int}(h:u≠y):upF f y v u=f u:=if_neg h
theorem kvN_val{ys:List Str}{f:Str→Int}{y:Str}(h:y∈ys):valV (kvN ys f) (Sum.inr y)=some (.int (f y)):=by
 unfold kvN
 induction ys with
 | nil=>cases h
 | cons x r ih=>
  rw [List.map_cons]
  by_cases e:x=y
  · subst e;rw [valV_pos rfl]
  · rw [valV_neg (fun z=>e (by injection z))]
    exact ih ((List.mem_cons.mp h).resolve_left fun z=>e z.symm)
theorem kvN_none{ys:List Str}{f:Str→Int}{y:Str}(h:y∉ys):valV (kvN ys f) (Sum.inr y)=none:=by
 unfold kvN
 induction ys with
 | nil=>rfl
 | cons x r ih=>
  rw [List.map_cons,valV_neg (fun z=>h (by injection z with z;rw [z];exact List.mem_cons_self))]
  exact ih fun z=>h (List.mem_cons_of_mem _ z)
theorem kvN_snoc{ys:List Str}{f:Str→Int}{y:Str}{v:Int}(h:y∉ys):putK (kvN ys f) (Sum.inr y) (.int v)=kvN (ys++[y]) (upF f y v):=by
 rw [putK_new _ (kvN_none h)]
 unfold kvN
 rw [List.map_append]
 congr 1
 · refine List.map_congr_left fun x hx=>?_
   rw [upF_ne (fun e=>h (by rw [← e];exact hx))]
 · rw [List.map_cons,upF_same];rfl
theorem kvN_len{ys:List Str}{f:Str→Int}:(kvN ys f).length=ys.length:=by unfold kvN;rw [List.length_map]
noncomputable def tsF(C R:Str→Int)(ys:List Str):List Th:=ys.map fun y=>(y,C y,R y)
theorem tsF_names{C R:Str→Int}{ys:List Str}:(tsF C R ys).map (·.1)=ys:=by
 unfold tsF;rw [List.map_map];exact (List.map_congr_left fun _ _=>rfl).trans (List.map_id ys)
theorem tsF_len{C R:Str→Int}{ys:List Str}:(tsF C R ys).length=ys.length:=by unfold tsF;rw [List.length_map]
theorem tsF_at{C R:Str→Int}{ys:List Str}{i:Nat}(h:i < ys.length):(tsF C R ys)[i]?=some (ys.getD i Str.empty,C (ys.getD i Str.empty),R (ys.getD i Str.empty)):=by
 unfold tsF;rw [List.getElem?_map,getD_s h];rfl
theorem tsF_cst{C R:Str→Int}{ys:List Str}{y:Str}(nd:ys.Nodup)(h:y∈ys):cst (tsF C R ys) y=C y∧rm (tsF C R ys) y=R y:=by
 obtain ⟨i,hi⟩:=List.mem_iff_getElem?.mp h
 have hl:=(List.getElem?_eq_some_iff.mp hi).1
 have e:ys.getD i Str.empty=y:=by rw [List.getD_eq_getElem?_getD,hi];rfl
 have ht:=tsF_at (C:=C) (R:=R) hl
 rw [e]at ht
 have hn:((tsF C R ys).map (·.1)).Nodup:=by rw [tsF_names];exact nd
 exact ⟨cst_at hn ht,rm_at hn ht⟩
theorem rows41{K:PySem.W.Frag}{H:Hp}{D:Addr}{as:List Addr}{ys:List Str}{C R:Str→Int}(hD:H D=some (.lst (as.map V.ref)))(hl:as.length=ys.length)(hm:ys.length≤60)(nd:ys.Nodup)(hn:∀y∈ys,nameB y.cps.toList=true)(hb:∀y∈ys,0≤C y∧C y≤10 ^ 30∧1≤R y∧R y≤1000)
 (hall:∀(i:Nat) (a:Addr),as[i]?=some a→SqT K H a [.str (ys.getD i Str.empty),.int (C (ys.getD i Str.empty)),.int (R (ys.getD i Str.empty))]):RowsAt K H D as (tsF C R ys):=by
 refine ⟨SqL.of hD,by rw [hl,tsF_len],by rw [tsF_len];exact hm,fun i a t h1 h2=>?_,fun t ht=>?_,by rw [tsF_names];exact nd⟩
 · have hi:i < ys.length:=by rw [← tsF_len (C:=C) (R:=R)];exact (List.getElem?_eq_some_iff.mp h2).1
   rw [tsF_at hi]at h2
   cases h2
   exact hall i a h1
 · unfold tsF at ht
   obtain ⟨y,hy,rfl⟩:=List.mem_map.mp ht
   exact ⟨hn y hy,hb y hy⟩
noncomputable def ask1S(ys:List Str)(m:Nat)(c:Int):Str:=ys.getD (c % (m:Int)).toNat Str.empty
noncomputable def ask1(ys:List Str)(m:Nat):V→V
 | .int c=> .str (ask1S ys m c)
 | _=> .non
theorem ask1_list{ys:List Str}{m:Nat}{cs:List Int}:(cs.map V.int).map (ask1 ys m)=(cs.map (ask1S ys m)).map V.str:=by
 rw [List.map_map,List.map_map];rfl
end N41
namespace N6
open L2 N1 N5 N4
noncomputable def sfl(p d:Addr)(n:Int):List (Str×V):=putF "rooms" (.ref d) (putF "places" (.int n) (putF "stock" (.ref p) []))
theorem sfl_stock{p d:Addr}{n:Int}:(sfl p d n).lookup ("stock":Str)=some (V.ref p):=by
 unfold sfl
 rw [lookup_putF,if_neg (by decide),lookup_putF,if_neg (by decide),lookup_putF,if_pos rfl]
theorem sfl_places{p d:Addr}{n:Int}:(sfl p d n).lookup ("places":Str)=some (V.int n):=by
 unfold sfl
 rw [lookup_putF,if_neg (by decide),lookup_putF,if_pos rfl]
theorem sfl_rooms{p d:Addr}{n:Int}:(sfl p d n).lookup ("rooms":Str)=some (V.ref d):=by
 unfold sfl
 rw [lookup_putF,if_pos rfl]
noncomputable abbrev Ly:=List (Str×Int)
noncomputable def lyK(ls:Ly):List (Key×V):=ls.map fun x=>(Sum.inr x.1,.int x.2)
noncomputable def lyN(ls:Ly):List Str:=ls.map (·.1)
noncomputable def lyS(ls:Ly):Int:=(ls.map (·.2)).sum
structure ShelfAt(S:Addr)(H:Hp)(q p d:Addr)(n:Int)(ls:Ly):Prop where
 o:∃dx,H q=some (.ins S dx (sfl p d n))
 d:H d=some (.dK (lyK ls))
 nd:(lyN ls).Nodup
theorem ShelfAt.same{S:Addr}{H H':Hp}{q p d:Addr}{n:Int}{ls:Ly}(s:Same H H')(h:ShelfAt S H q p d n ls):ShelfAt S H' q p d n ls:=
 ⟨h.o.imp fun _ e=>s _ _ e,s _ _ h.d,h.nd⟩
structure StockX(K:PySem.W.Frag)(C:Addr)(H:Hp)(p:Addr)(ts:List Th)(d:Addr):Prop where
 ex:∃(dx e:Addr) (kvs:List (Key×V)),e≠d∧H p=some (.ins C dx (flds e))∧H e=some (.dK kvs)∧kvs.map (·.1)=ts.map (fun t=>Sum.inr t.1)∧
  ∀(i:Nat) (t:Th),ts[i]?=some t→∃a,kvs[i]?=some (Sum.inr t.1,.ref a)∧SqT K H a [.int i,.int t.2.1,.int t.2.2]
section
variable {K:PySem.W.Frag} {C S:Addr} {H H':Hp} {p q d:Addr} {ts:List Th} {n:Int} {ls:Ly} {z:Str}
theorem StockX.at(h:StockX K C H p ts d):StockAt K C H p ts:=by
 obtain ⟨dx,e,kvs,_,r⟩:=h.ex
 exact ⟨dx,e,kvs,r⟩
theorem StockX.of(h:StockAt K C H p ts)(hd:H d=none):StockX K C H p ts d:=by
 obtain ⟨dx,e,kvs,h1,h2,r⟩:=h.ex
 exact ⟨dx,e,kvs,ne_of_none h2 hd,h1,h2,r⟩
theorem StockX.same(s:Same H H')(h:StockX K C H p ts d):StockX K C H' p ts d:=by
 obtain ⟨dx,e,kvs,n,h1,h2,h3,h4⟩:=h.ex
 refine ⟨dx,e,kvs,n,s _ _ h1,s _ _ h2,h3,fun i t q=>?_⟩
 obtain ⟨a,e1,e2⟩:=h4 i t q
 exact ⟨a,e1,s.tup e2⟩
theorem SqT.butD{a:Addr}{xs:List V}{kvs:List (Key×V)}(s:SameBut d H H')(hd:H d=some (.dK kvs))(h:SqT K H a xs):SqT K H' a xs:=by
 rcases h with (h | ⟨o,h⟩) | h
 · exact .inl (.inl (s _ _ h (ne_of h hd (by intro z;cases z))))
 · exact .inl (.inr ⟨o,s _ _ h (ne_of h hd (by intro z;cases z))⟩)
 · exact .inr h
theorem SqL.butD{a:Addr}{xs:List V}{kvs:List (Key×V)}(s:SameBut d H H')(hd:H d=some (.dK kvs))(h:SqL K H a xs):SqL K H' a xs:=by
 rcases h with (h | ⟨o,h⟩) | h
 · exact .inl (.inl (s _ _ h (ne_of h hd (by intro z;cases z))))
 · exact .inl (.inr ⟨o,s _ _ h (ne_of h hd (by intro z;cases z))⟩)
 · exact .inr h
theorem StockX.butD{kvs':List (Key×V)}(s:SameBut d H H')(hd:H d=some (.dK kvs'))(h:StockX K C H p ts d):StockX K C H' p ts d:=by
 obtain ⟨dx,e,kvs,n,h1,h2,h3,h4⟩:=h.ex
 refine ⟨dx,e,kvs,n,s _ _ h1 (ne_of h1 hd (by intro z;cases z)),s _ _ h2 n,h3,fun i t q=>?_⟩
 obtain ⟨a,e1,e2⟩:=h4 i t q
 exact ⟨a,e1,SqT.butD s hd e2⟩
theorem StockX.butL{l:Addr}{zs:List V}(s:SameBut l H H')(hl:H l=some (.lst zs))(h:StockX K C H p ts d):StockX K C H' p ts d:=by
 obtain ⟨dx,e,kvs,n,h1,h2,h3,h4⟩:=h.ex
 refine ⟨dx,e,kvs,n,s _ _ h1 (ne_of h1 hl (by intro z;cases z)),s _ _ h2 (ne_of h2 hl (by intro z;cases z)),h3,fun i t q=>?_⟩
 obtain ⟨a,e1,e2⟩:=h4 i t q
 exact ⟨a,e1,SqT.butL s hl e2⟩
theorem ShelfAt.butL{l:Addr}{zs:List V}(s:SameBut l H H')(hl:H l=some (.lst zs))(h:ShelfAt S H q p d n ls):ShelfAt S H' q p d n ls:=
 ⟨h.o.imp fun _ e=>s _ _ e (ne_of e hl (by intro z;cases z)),s _ _ h.d (ne_of h.d hl (by intro z;cases z)),h.nd⟩
theorem lyK_map:(lyK ls).map (·.1)=(lyN ls).map Sum.inr:=by unfold lyK lyN;rw [List.map_map,List.map_map];rfl
theorem lyK_names:((lyK ls).map fun x=>kV x.1)=(lyN ls).map V.str:=by unfold lyK lyN;rw [List.map_map,List.map_map];rfl
theorem lyK_vals:(lyK ls).map (·.2)=(ls.map (·.2)).map V.int:=by unfold lyK;rw [List.map_map,List.map_map];rfl
theorem lyK_mem:(valV (lyK ls) (Sum.inr z)).isSome=decide (z∈lyN ls):=key_mem lyK_map
theorem lyK_put{r:Int}(h:¬z∈lyN ls):putK (lyK ls) (Sum.inr z) (.int r)=lyK (ls++[(z,r)]):=by
 have hv:valV (lyK ls) (Sum.inr z:Key)=none:=by
  have:=lyK_mem (ls:=ls) (z:=z)
  rw [decide_eq_false h]at this
  cases hv:valV (lyK ls) (Sum.inr z:Key) with
  | none=>rfl
  | some v=>rw [hv]at this;cases this
 rw [putK_new _ hv]
 unfold lyK
 rw [List.map_append]
 rfl
noncomputable def lyD(ls:Ly)(z:Str):Ly:=ls.filter fun x=>decide (x.1≠z)
theorem lyK_drop:dropK (lyK ls) (Sum.inr z)=lyK (lyD ls z):=by
 unfold dropK lyK lyD
 rw [List.filter_map]
 congr 1
 refine List.filter_congr fun x _=>?_
 show decide ((Sum.inr x.1:Key)≠Sum.inr z)=decide (x.1≠z)
 exact decide_eq_decide.mpr ⟨fun h e=>h (by rw [e]),fun h e=>h (by injection e)⟩
theorem lyD_names(nd:(lyN ls).Nodup):lyN (lyD ls z)=(lyN ls).erase z:=by
 unfold lyN lyD at *
 rw [List.Nodup.erase_eq_filter nd,List.filter_map]
 congr 1
 refine List.filter_congr fun x _=>?_
 by_cases h:x.1=z
 · simp [h]
 · simp [h]
end
theorem ShelfAt.put{S:Addr}{H H1:Hp}{q p d:Addr}{n:Int}{ls:Ly}{z:Str}{r:Int}(h:ShelfAt S H q p d n ls)(s:Same H H1)(hz:¬z∈lyN ls):ShelfAt S (upd H1 d (.dK (putK (lyK ls) (Sum.inr z) (.int r)))) q p d n (ls++[(z,r)]):=by
 obtain ⟨dx,ho⟩:=h.o
 have h1:=s _ _ ho
 have h2:=s _ _ h.d
 refine ⟨⟨dx,by rw [upd_ne (ne_of h1 h2 (by intro z;cases z))];exact h1⟩,by rw [upd_same,lyK_put hz],?_⟩
 have e:lyN (ls++[(z,r)])=lyN ls++[z]:=by unfold lyN;rw [List.map_append];rfl
 rw [e,List.nodup_append]
 exact ⟨h.nd,by simp,fun a ha b hb e=>hz (by rw [List.mem_singleton.mp hb]at e;rw [← e];exact ha)⟩
theorem ShelfAt.cast{S:Addr}{H:Hp}{q p d:Addr}{n:Int}{ls:Ly}{z:Str}(h:ShelfAt S H q p d n ls):ShelfAt S (upd H d (.dK (dropK (lyK ls) (Sum.inr z)))) q p d n (lyD ls z):=by
 obtain ⟨dx,ho⟩:=h.o
 refine ⟨⟨dx,by rw [upd_ne (ne_of ho h.d (by intro z;cases z))];exact ho⟩,by rw [upd_same,lyK_drop],?_⟩
 rw [lyD_names h.nd]
 exact h.nd.erase z
noncomputable def Err0(C:Addr)(H':Hp)(x:Addr):Prop:=H' x=some (exO false x C none)
noncomputable def sp_sinit(S:Addr):Sp:=fun vs H Q _=>∃(q dx p:Addr) (n:Int),vs=[.ref q,.ref p,.int n]∧H q=some (.ins S dx [])∧1≤n∧n≤1000000∧∀H' d,SameBut q H H'→H d=none→ShelfAt S H' q p d n []→Q .non H'
noncomputable def sp_lying(S:Addr):Sp:=fun vs H Q _=>∃(q p d:Addr) (n:Int) (ls:Ly),vs=[.ref q]∧ShelfAt S H q p d n ls∧∀l,H l=none→Q (.ref l) (upd H l (.lst ((lyN ls).map V.str)))
noncomputable def sp_holds(S:Addr):Sp:=fun vs H Q _=>∃(q p d:Addr) (n:Int) (ls:Ly) (z:Str),vs=[.ref q,.str z]∧ShelfAt S H q p d n ls∧Q (.bl (decide (z∈lyN ls))) H
noncomputable def sp_left(S:Addr):Sp:=fun vs H Q _=>∃(q p d:Addr) (n:Int) (ls:Ly),vs=[.ref q]∧ShelfAt S H q p d n ls∧∀H',Same H H'→Q (.int (n - lyS ls)) H'
end N6
namespace N6
open L2 N1 N5 N4
noncomputable def aOf:V→Addr
 | .ref a=>a
 | _=>0
end N6
namespace N6
open L2 N1 N5 N4
noncomputable def sp_putG(K:PySem.W.Frag)(C S:Addr):Sp:=fun vs H Q _=>∃(q p d:Addr) (n:Int) (ls:Ly) (ts:List Th) (z:Str) (r:Int),vs=[.ref q,.str z]∧ShelfAt S H q p d n ls∧StockX K C H p ts d∧(ts.map (·.1)).Nodup∧ls.length≤1000∧
 z∈ts.map (·.1)∧(∀t∈ts,t.1=z→t.2.2=r)∧¬z∈lyN ls∧r≤n - lyS ls∧∀H',SameBut d H H'→ShelfAt S H' q p d n (ls++[(z,r)])→Q .non H'
noncomputable def sp_castG(S:Addr):Sp:=fun vs H Q _=>∃(q p d:Addr) (n:Int) (ls:Ly) (z:Str),vs=[.ref q,.str z]∧ShelfAt S H q p d n ls∧z∈lyN ls∧∀H',SameBut d H H'→ShelfAt S H' q p d n (lyD ls z)→Q .non H'
end N6
namespace L2
open N1 N5
theorem eqV_self{x:V}(h:flatV x=true):eqV x x=true:=by
 cases x with
 | non=>rfl
 | bl b=>cases b <;> rfl
 | int i=>exact beq_self_eq_true i
 | str z=>rw [eqV_str];simp
 | _=>cases h
section
variable {K:PySem.W.Frag} {tail:St} {te:Blk→TE} {Q:VK} {H1:Hp}
noncomputable def OffL(P:V→Hp→Prop):Prop:=∀y H H' l zs,P y H→H l=some (.lst zs)→SameBut l H H'→P y H'
theorem compL_mk{a:Addr}{xs:List V}(P:Nat→V→Hp→Prop)(G:Nat→Prop)(hP:∀i,OffL (P i))(hS:SqL K H1 a xs)(hz:xs.length≤sizeLine)
 (he:∀b i x H Q',xs[i]?=some x→Same H1 H→(∀j,j < i→G j)→(∀y H',Same H H'→P i y H'→G i→Q' y H')→te b (some x::tail) H Q')
 (q:∀D ys H',H1 D=none→Same H1 H'→H' D=some (.lst ys)→ys.length=xs.length→(∀i y,ys[i]?=some y→P i y H')→(∀j,j < xs.length→G j)→Q (.ref D) H'):CompTail (none::tail) (fun _=>gName 0) (fun _=>tYes) te Q (Itl K a) H1:=by
 refine comp_by xs.length (fun b D hD=>⟨fun i ys H=>i≤xs.length∧ys.length=i∧H D=some (.lst ys)∧Same H1 H∧(∀j y,ys[j]?=some y→P j y H)∧∀j,j < i→G j,⟨Nat.zero_le _,rfl,upd_same,same_new hD,fun j y e=>by simp at e,fun j h=>absurd h (Nat.not_lt_zero j)⟩,?_,?_,?_⟩)
 · rintro i ys H ⟨hi,_,h,_⟩
   exact h
 · rintro ys H ⟨_,hl,h,sm,hall,hg⟩
   exact ⟨⟨xs,sm.seq hS,Nat.le_refl _⟩,q D ys H hD sm h hl hall hg⟩
 · rintro i ys H hi ⟨_,hl,h,sm,hall,hg⟩
   refine ⟨⟨xs,xs[i],sm.seq hS,by simp [hi]⟩,fun x H3 ⟨e3,ex⟩=>?_⟩
   subst e3
   refine he b i x _ _ (ex xs (sm.seq hS)) sm hg fun y H4 sm4 py gi=>?_
   have h4:=sm4 _ _ h
   have sb:SameBut D H4 (upd H4 D (.lst (ys++[y]))):=sameBut_upd
   refine compNext h4 (by omega) hi ⟨hi,by rw [List.length_append,hl];rfl,upd_same,fun c o e=>?_,fun j y' e=>?_,fun j hj=>?_⟩
   · rw [upd_ne (ne_of_none e hD)];exact sm4 _ _ (sm _ _ e)
   · by_cases hj:j < ys.length
     · rw [List.getElem?_append_left hj]at e
       exact hP j _ _ _ _ _ (hall j y' e) h fun c o e n=>by rw [upd_ne n];exact sm4 _ _ e
     · rw [List.getElem?_append_right (by omega)]at e
       have hj0:j=i:=by have:=(List.getElem?_eq_some_iff.mp e).1;simp at this;omega
       subst hj0
       rw [show j - ys.length=0 by omega]at e
       cases e
       exact hP j _ _ _ _ _ py h4 sb
   · by_cases e:j=i
     · rw [e];exact gi
     · exact hg j (by omega)
end
end L2
namespace L2
noncomputable abbrev g3(K:PySem.W.Frag):Blk→TG:=fun _=>gTup K 3 (gCons (gName 0) (gCons (gName 1) (gCons (gName 2) gNil)))
noncomputable abbrev tComp3(K:PySem.W.Frag)(wi:TI)(fs:List Nat)(te:Blk→TE):TE:=tComp wi 3 fs (g3 K) (fun _=>tYes) te
section
variable {K:PySem.W.Frag} {tail:St} {te:Blk→TE} {Q:VK} {H1:Hp} {σ:St} {H:Hp}
theorem rd_comp3{wi:TI}{fs:List Nat}:tComp3 K wi fs te σ H Q=wi σ H (CompTail (none::none::none::fs.map fun j=>σ.getD j none) (g3 K) (fun _=>tYes) te Q):=rfl
theorem rd_cat{x y:V}:rCat x y H Q=∃l b xs zs,x= .ref l∧y= .ref b∧H l=some (.lst xs)∧H b=some (.lst zs)∧xs.length+zs.length≤sizeLine∧∀p,H p=none→Q (.ref p) (upd H p (.lst (xs++zs))):=rfl
end
end L2
namespace N12
open L2 N1 N5 N4 N6
theorem ixN_at{n k:Nat}(h:k < n):ixN n (k:Int)=some k:=by
 unfold ixN
 rw [if_pos (by omega),if_pos (by omega)]
 simp
noncomputable def rmOf(ts:List Th)(z:Str):Int:=match ts.find? (fun t=>decide (t.1=z)) with
 | some t=>t.2.2
 | none=>0
noncomputable def RmAt(H:Hp)(d:Addr)(ts:List Th):Prop:=∃(o:Obj),H d=some (.frz o (.dK (ts.map fun t=>(Sum.inr t.1,.int t.2.2))))
theorem RmAt.same{H H':Hp}{d:Addr}{ts:List Th}(s:Same H H')(h:RmAt H d ts):RmAt H' d ts:=let ⟨o,e⟩:=h;⟨o,s _ _ e⟩
theorem RmAt.get{H:Hp}{d:Addr}{ts:List Th}{z:Str}(h:RmAt H d ts):DGet H d (.str z) (valV (ts.map fun t=>((Sum.inr t.1:Key),V.int t.2.2)) (Sum.inr z)):=by
 obtain ⟨o,e⟩:=h
 exact .inl ⟨_,Sum.inr z,.inr ⟨o,e⟩,rfl,rfl⟩
theorem rm_some{ts:List Th}{z:Str}(h:z∈ts.map (·.1)):valV (ts.map fun t=>((Sum.inr t.1:Key),V.int t.2.2)) (Sum.inr z)=some (.int (rmOf ts z)):=by
 unfold rmOf
 induction ts with
 | nil=>cases h
 | cons a ts ih=>
  by_cases e:a.1=z
  · subst e
    rw [List.find?_cons_of_pos (by simp)]
    simp [valV]
  · rw [List.find?_cons_of_neg (by simpa using e)]
    have h2:=ih ((List.mem_cons.mp (by rw [List.map_cons]at h;exact h)).resolve_left fun z=>e z.symm)
    rw [← h2]
    simp [valV,e]
theorem rm_is{ts:List Th}{z:Str}:(valV (ts.map fun t=>((Sum.inr t.1:Key),V.int t.2.2)) (Sum.inr z)).isSome=decide (z∈ts.map (·.1)):=key_mem (by rw [List.map_map,List.map_map];rfl)
end N12
namespace L2
noncomputable def LikeN(K:PySem.W.Frag):Nat→Hp→V→V→Prop
 | 0,_,x,y=>x=y∧flatV x=true
 | n+1,H,x,y=>LikeN K n H x y∨∃a b xs ys,x= .ref a∧y= .ref b∧((SqL K H a xs∧SqL K H b ys)∨(SqT K H a xs∧SqT K H b ys))∧xs.length=ys.length∧∀(i:Nat) (x' y':V),xs[i]?=some x'→ys[i]?=some y'→LikeN K n H x' y'
noncomputable def LikeR(K:PySem.W.Frag)(n:Nat)(H:Hp)(x y:V):Prop:=∃a b xs ys,x= .ref a∧y= .ref b∧((SqL K H a xs∧SqL K H b ys)∨(SqT K H a xs∧SqT K H b ys))∧xs.length=ys.length∧∀(i:Nat) (x' y':V),xs[i]?=some x'→ys[i]?=some y'→LikeN K n H x' y'
theorem LikeN.up{K:PySem.W.Frag}{H:Hp}{n:Nat}{x y:V}(h:LikeN K n H x y):LikeN K (n+1) H x y:=by unfold LikeN;exact .inl h
theorem LikeN.flat{K:PySem.W.Frag}{H:Hp}{x:V}(h:flatV x=true):∀{n:Nat},LikeN K n H x x:=by
 intro n
 induction n with
 | zero=>unfold LikeN;exact ⟨rfl,h⟩
 | succ n ih=>exact ih.up
section
variable {X:Cx} {pins:List (Addr×Obj)} {σ:St} {H:Hp} {s:Shared}
theorem items_of{xs ys:List V}{us ws:List Value}{P:V→V→Prop}{R:Value→Value→Prop}(rx:Vals xs us)(ry:Vals ys ws)(hl:xs.length=ys.length)(h:∀(i:Nat) (x y:V),xs[i]?=some x→ys[i]?=some y→P x y)(k:∀x y u w,RelV x u→RelV y w→P x y→R u w):
 ∀j (h1:j < us.toArray.size) (h2:j < ws.toArray.size),R us.toArray[j] ws.toArray[j]:=by
 intro j h1 h2
 have lx:=rx.length
 have ly:=ry.length
 rw [List.size_toArray]at h1 h2
 have hx:j < xs.length:=by omega
 have hy:j < ys.length:=by omega
 obtain ⟨u,hu,ru⟩:=rx.get (i:=j) (x:=xs[j]) (by simp [hx])
 obtain ⟨w,hw,rw'⟩:=ry.get (i:=j) (x:=ys[j]) (by simp [hy])
 have eu:us.toArray[j]=u:=by
  have:=List.getElem?_eq_getElem h1
  rw [this]at hu
  simpa using hu
 have ew:ws.toArray[j]=w:=by
  have:=List.getElem?_eq_getElem h2
  rw [this]at hw
  simpa using hw
 rw [eu,ew]
 exact k _ _ _ _ ru rw' (h j _ _ (List.getElem?_eq_getElem hx) (List.getElem?_eq_getElem hy))
theorem all_true{n:Nat}:((List.range n).all fun _=>true)=true:=by rw [List.all_eq_true];intros;rfl
theorem likeR_rc{n:Nat}{x y:V}{u w:Value}{A:Around}(I:Inv X pins σ H s)(rx:RelV x u)(ry:RelV y w)(h:LikeR X.K n H x y)(hu:A.units < cLine)
 (k:∀x y u w,RelV x u→RelV y w→LikeN X.K n H x y→SeqAt.EqAt A.in1 s u w true):SeqAt.RcAt A s u w true∧SeqAt.RcNeAt A s u w false:=by
 obtain ⟨a,b,xs,ys,rfl,rfl,hq,hl,hall⟩:=h
 cases rx
 cases ry
 rcases hq with ⟨h1,h2⟩ | ⟨h1,h2⟩
 · obtain ⟨us,r1,p1,z1⟩:=I.list h1
   obtain ⟨ws,r2,p2,z2⟩:=I.list h2
   have lx:=r1.length
   have ly:=r2.length
   have he:=items_of r1 r2 hl hall k
   have c1:=SeqAt.RcAt.lists (e:=fun _=>true) p1.isList p2.isList (by simp;omega) hu he
   have c2:=SeqAt.RcNeAt.lists (e:=fun _=>true) p1.isList p2.isList (by simp;omega) hu he
   rw [all_true]at c1 c2
   exact ⟨c1,c2⟩
 · obtain ⟨us,r1,p1,z1⟩:=I.tuple h1
   obtain ⟨ws,r2,p2,z2⟩:=I.tuple h2
   have lx:=r1.length
   have ly:=r2.length
   have he:=items_of r1 r2 hl hall k
   have hsz:us.toArray.size=ws.toArray.size:=by simp;omega
   have c1:=SeqAt.RcAt.tuples (e:=fun _=>true) (show s.heap.IsTuple a us.toArray from p1) (show s.heap.IsTuple b ws.toArray from p2) hu he
   have c2:=SeqAt.RcNeAt.tuples (e:=fun _=>true) (show s.heap.IsTuple a us.toArray from p1) (show s.heap.IsTuple b ws.toArray from p2) hu he
   rw [all_true,hsz,beq_self_eq_true,Bool.and_true]at c1 c2
   exact ⟨c1,c2⟩
theorem likeN_at(I:Inv X pins σ H s):∀(n:Nat) (x y:V) (u w:Value) (A:Around),RelV x u→RelV y w→LikeN X.K n H x y→A.units+n < cLine→SeqAt.EqAt A s u w true:=by
 intro n
 induction n with
 | zero=>
  intro x y u w A rx ry h hu
  unfold LikeN at h
  obtain ⟨rfl,f⟩:=h
  have:=eqAt_V (A:=A) (s:=s) rx ry f f
  rw [show eqV x x=true from eqV_self f]at this
  exact this
 | succ n ih=>
  intro x y u w A rx ry h hu
  unfold LikeN at h
  rcases h with h | h
  · exact ih x y u w A rx ry h (by omega)
  · have c:=likeR_rc I rx ry h (by omega) (fun x y u w r1 r2 k=>ih x y u w A.in1 r1 r2 k (by show A.units+1+n < cLine;omega))
    obtain ⟨a,b,xs,ys,rfl,rfl,_⟩:=h
    cases rx
    cases ry
    by_cases e:a=b
    · subst e;exact SeqAt.EqAt.same _
    · exact SeqAt.EqAt.of_refs e c.1
noncomputable def rEqN(K:PySem.W.Frag)(n:Nat):R2:=fun x y H Q=>LikeR K n H x y∧Q (.bl true) H
noncomputable def rNeN(K:PySem.W.Frag)(n:Nat):R2:=fun x y H Q=>LikeR K n H x y∧Q (.bl false) H
theorem op_eqN{k:Nat}(n:Nat)(hr:Room k X.A)(hn:n≤100:=by decide):OpR X (compareOp .Eq) (rEqN X.K n):=by
 intro pins s σ H x y v u Q I rx ry h
 have hu:X.A.units < cLine:=Nat.lt_of_le_of_lt (by omega) hr.un
 exact (likeR_rc I rx ry h.1 hu (fun x y u w r1 r2 k=>likeN_at I n x y u w X.A.in1 r1 r2 k (by have:=hr.un;show X.A.units+1+n < cLine;omega))).1 X.prog X.w X.xe _ ⟨.bl true,H,I,rfl,h.2⟩
theorem op_neN{k:Nat}(n:Nat)(hr:Room k X.A)(hn:n≤100:=by decide):OpR X (compareOp .NotEq) (rNeN X.K n):=by
 intro pins s σ H x y v u Q I rx ry h
 have hu:X.A.units < cLine:=Nat.lt_of_le_of_lt (by omega) hr.un
 exact (likeR_rc I rx ry h.1 hu (fun x y u w r1 r2 k=>likeN_at I n x y u w X.A.in1 r1 r2 k (by have:=hr.un;show X.A.units+1+n < cLine;omega))).2 X.prog X.w X.xe _ ⟨.bl false,H,I,rfl,h.2⟩
theorem rd_eqN{K:PySem.W.Frag}{H:Hp}{Q:VK}{x y:V}{n:Nat}:rEqN K n x y H Q=(LikeR K n H x y∧Q (.bl true) H):=rfl
theorem rd_neN{K:PySem.W.Frag}{H:Hp}{Q:VK}{x y:V}{n:Nat}:rNeN K n x y H Q=(LikeR K n H x y∧Q (.bl false) H):=rfl
end
end L2
namespace L2
open PySem.W
noncomputable def rMaxV:List V→Hp→VK→Prop:=fun xs H Q=>∃(v d:Addr) (kvs:List (Key×V)) (is:List Int),xs=[.ref v]∧H v=some (viewO v d)∧H d=some (.dK kvs)∧kvs.map (·.2)=is.map V.int∧is≠[]∧∀m∈is,(∀x∈is,x≤m)→Q (.int m) H
section
variable {X:Cx}
theorem rd_maxV{xs:List V}{H:Hp}{Q:VK}:rMaxV xs H Q=∃(v d:Addr) (kvs:List (Key×V)) (is:List Int),xs=[.ref v]∧H v=some (viewO v d)∧H d=some (.dK kvs)∧kvs.map (·.2)=is.map V.int∧is≠[]∧∀m∈is,(∀x∈is,x≤m)→Q (.int m) H:=rfl
end
end L2
namespace N14
open L2 N1 N5 N4 N6 N12 N32
noncomputable abbrev Row:=Str×Bool×List Str
noncomputable def lyDs(ls:Ly)(gone:List Str):Ly:=gone.foldl lyD ls
noncomputable def okG(z:Str):Ly→List Str→Prop
 | _,[]=>True
 | ls,o::r=>o≠z∧o∈lyN ls∧okG z (lyD ls o) r
noncomputable def okRow(R:Str→Int)(n:Int)(ls:Ly)(z:Str)(row:Row):Prop:=row.1=z∧row.2.1=decide (z∈lyN ls)∧okG z ls row.2.2∧(z∉lyN ls→R z≤n - lyS (lyDs ls row.2.2))
noncomputable def stepL(R:Str→Int)(ls:Ly)(z:Str)(gone:List Str):Ly:=if z∈lyN ls then lyDs ls gone else lyDs ls gone++[(z,R z)]
noncomputable def lastL(R:Str→Int):Ly→List (Str×List Str)→Ly
 | ls,[]=>ls
 | ls,(z,g)::r=>lastL R (stepL R ls z g) r
structure BookAt(K:PySem.W.Frag)(H:Hp)(b:Addr)(as gs:List Addr)(rs:List Row):Prop where
 l:SqL K H b (as.map V.ref)
 n:as.length=rs.length
 m:gs.length=rs.length
 t:∀(i:Nat) (a g:Addr) (r:Row),as[i]?=some a→gs[i]?=some g→rs[i]?=some r→SqT K H a [.str r.1,.bl r.2.1,.ref g]∧SqL K H g (r.2.2.map V.str)
theorem BookAt.same{K:PySem.W.Frag}{H H':Hp}{b:Addr}{as gs:List Addr}{rs:List Row}(s:Same H H')(h:BookAt K H b as gs rs):BookAt K H' b as gs rs:=
 ⟨s.seq h.l,h.n,h.m,fun i a g r e1 e2 e3=>⟨s.tup (h.t i a g r e1 e2 e3).1,s.seq (h.t i a g r e1 e2 e3).2⟩⟩
theorem okG_take{z:Str}:∀{ls:Ly} {gone:List Str} {i:Nat} {o:Str},okG z ls gone→gone[i]?=some o→o≠z∧o∈lyN (lyDs ls (gone.take i)):=by
 intro ls gone
 induction gone generalizing ls with
 | nil=>intro i o _ h;simp at h
 | cons x r ih=>
  intro i o h e
  obtain ⟨h1,h2,h3⟩:=h
  cases i with
  | zero=>cases e;exact ⟨h1,h2⟩
  | succ i=>exact ih h3 e
theorem lyDs_succ{ls:Ly}{gone:List Str}{i:Nat}{o:Str}(h:gone[i]?=some o):lyDs ls (gone.take (i+1))=lyD (lyDs ls (gone.take i)) o:=by
 unfold lyDs
 rw [List.take_add_one,h,List.foldl_append];rfl
noncomputable def sp14_casts(K:PySem.W.Frag)(S:Addr):Sp:=fun vs H Q _=>∃(q p d g:Addr) (n:Int) (ls:Ly) (z:Str) (gone:List Str),vs=[.ref q,.str z,.ref g]∧ShelfAt S H q p d n ls∧SqL K H g (gone.map V.str)∧okG z ls gone∧
 ∀H',SameBut d H H'→ShelfAt S H' q p d n (lyDs ls gone)→Q (.bl true) H'
noncomputable def sp14_serves(K:PySem.W.Frag)(C S:Addr):Sp:=fun vs H Q _=>∃(q p d r g:Addr) (n:Int) (ls:Ly) (ts:List Th) (z:Str) (row:Row),vs=[.ref q,.str z,.ref r]∧ShelfAt S H q p d n ls∧StockX K C H p ts d∧(ts.map (·.1)).Nodup∧z∈ts.map (·.1)∧ls.length≤500∧SqT K H r [.str row.1,.bl row.2.1,.ref g]∧SqL K H g (row.2.2.map V.str)∧okRow (rm ts) n ls z row∧
 ∀H',SameBut d H H'→ShelfAt S H' q p d n (stepL (rm ts) ls z row.2.2)→Q (.bl true) H'
theorem rm_of{ts:List Th}{z:Str}{r:Int}(nd:(ts.map (·.1)).Nodup)(hz:z∈ts.map (·.1))(h:∀t∈ts,t.1=z→t.2.2=r):rm ts z=r:=by
 obtain ⟨i,t,ht,rfl⟩:=mem_nth hz
 rw [rm_at nd ht,h t (List.mem_of_getElem? ht) rfl]
theorem lyD_le(ls:Ly)(z:Str):(lyD ls z).length≤ls.length:=List.length_filter_le _ _
theorem lyDs_le(ls:Ly)(g:List Str):(lyDs ls g).length≤ls.length:=by
 unfold lyDs
 induction g generalizing ls with
 | nil=>exact Nat.le_refl _
 | cons x r ih=>exact Nat.le_trans (ih _) (lyD_le _ _)
theorem lyD_mem{ls:Ly}{z u:Str}:u∈lyN (lyD ls z)↔u∈lyN ls∧u≠z:=by
 unfold lyN lyD
 simp only [List.mem_map,List.mem_filter,decide_eq_true_eq]
 constructor
 · rintro ⟨x,⟨h1,h2⟩,rfl⟩;exact ⟨⟨x,h1,rfl⟩,h2⟩
 · rintro ⟨⟨x,h1,rfl⟩,h2⟩;exact ⟨x,⟨h1,h2⟩,rfl⟩
theorem lyDs_mem{ls:Ly}{g:List Str}{u:Str}:u∈lyN (lyDs ls g)↔u∈lyN ls∧u∉g:=by
 unfold lyDs
 induction g generalizing ls with
 | nil=>simp
 | cons x r ih=>
  rw [List.foldl_cons,ih,lyD_mem,List.mem_cons,and_assoc]
  constructor
  · rintro ⟨h1,h2,h3⟩;exact ⟨h1,fun h=>h.elim h2 h3⟩
  · rintro ⟨h1,h2⟩;exact ⟨h1,fun h=>h2 (.inl h),fun h=>h2 (.inr h)⟩
theorem lastL_snoc{R:Str→Int}:∀(xs:List (Str×List Str)) (ls:Ly) (z:Str) (g:List Str),lastL R ls (xs++[(z,g)])=stepL R (lastL R ls xs) z g
 | [],_,_,_=>rfl
 | (_,_)::r,_,_,_=>lastL_snoc r _ _ _
noncomputable def zipG(ys:List Str)(rs:List Row):List (Str×List Str):=ys.zip (rs.map (·.2.2))
noncomputable def stL(R:Str→Int)(ys:List Str)(rs:List Row)(i:Nat):Ly:=lastL R [] ((zipG ys rs).take i)
theorem zipG_at{ys:List Str}{rs:List Row}{i:Nat}{z:Str}{r:Row}(h1:ys[i]?=some z)(h2:rs[i]?=some r):(zipG ys rs)[i]?=some (z,r.2.2):=by
 unfold zipG
 rw [List.getElem?_zip_eq_some]
 exact ⟨h1,by rw [List.getElem?_map,h2];rfl⟩
theorem stL_succ{R:Str→Int}{ys:List Str}{rs:List Row}{i:Nat}{z:Str}{r:Row}(h1:ys[i]?=some z)(h2:rs[i]?=some r):stL R ys rs (i+1)=stepL R (stL R ys rs i) z r.2.2:=by
 unfold stL
 rw [List.take_add_one,zipG_at h1 h2]
 exact lastL_snoc _ _ _ _
theorem stepL_le(R:Str→Int)(ls:Ly)(z:Str)(g:List Str):(stepL R ls z g).length≤ls.length+1:=by
 have h:=lyDs_le ls g
 unfold stepL
 split
 · omega
 · rw [List.length_append];simpa using h
theorem lastL_le(R:Str→Int):∀(xs:List (Str×List Str)) (ls:Ly),(lastL R ls xs).length≤ls.length+xs.length
 | [],ls=>by simp [lastL]
 | (z,g)::r,ls=>by
  have h:=lastL_le R r (stepL R ls z g)
  have h':=stepL_le R ls z g
  simp only [lastL,List.length_cons];omega
theorem stL_le(R:Str→Int)(ys:List Str)(rs:List Row)(i:Nat):(stL R ys rs i).length≤i:=by
 have h:=lastL_le R ((zipG ys rs).take i) []
 rw [List.length_take]at h
 unfold stL
 simp only [List.length_nil]at h
 omega
structure Lawful(R:Str→Int)(n:Int)(ys:List Str)(rs:List Row):Prop where
 len:ys.length=rs.length
 row:∀{i:Nat} {z:Str} {r:Row},ys[i]?=some z→rs[i]?=some r→okRow R n (stL R ys rs i) z r
structure Told(H H':Hp)(l:Addr)(qs:List Addr)(W:Nat→Ly)(n:Nat):Prop where
 L:H' l=some (.lst (qs.map V.ref))
 N:qs.length=n
 d:(l::qs).Nodup
 q:∀(j:Nat) (q:Addr),qs[j]?=some q→H q=none∧H' q=some (.lst ((lyN (W (j+1))).map V.str))
noncomputable def sp14_after(K:PySem.W.Frag)(C:Addr):Sp:=fun vs H Q _=>∃(p a b:Addr) (n:Int) (ts:List Th) (ys:List Str) (as gs:List Addr) (rs:List Row),vs=[.ref p,.ref a,.int n,.ref b]∧StockAt K C H p ts∧(ts.map (·.1)).Nodup∧SqL K H a (ys.map V.str)∧ys.length≤200∧(∀y∈ys,y∈ts.map (·.1))∧(∀y∈ys,rm ts y≤n)∧1≤n∧n≤1000000∧
 BookAt K H b as gs rs∧Lawful (rm ts) n ys rs∧∀l qs H',H l=none→Same H H'→Told H H' l qs (stL (rm ts) ys rs) ys.length→Q (.ref l) H'
theorem Told.same{H H' H1:Hp}{l:Addr}{qs:List Addr}{W:Nat→Ly}{n:Nat}(h:Told H H' l qs W n)(s:Same H' H1):Told H H1 l qs W n:=⟨s _ _ h.L,h.N,h.d,fun j q hj=>⟨(h.q j q hj).1,s _ _ (h.q j q hj).2⟩⟩
theorem Told.step{H H' H1:Hp}{l d x:Addr}{qs:List Addr}{W:Nat→Ly}{n:Nat}{kvs:List (Key×V)}(h:Told H H' l qs W n)(hs:Same H H')(hd:H' d=some (.dK kvs))(sb:SameBut d H' H1)(hH:Same H H1)(hx:H1 x=none):Told H (upd (upd H1 x (.lst ((lyN (W (n+1))).map V.str))) l (.lst ((qs++[x]).map V.ref))) l (qs++[x]) W (n+1):=by
 have hld:l≠d:=fun e=>by have:=h.L;rw [e,hd]at this;cases this
 have hl1:=sb _ _ h.L hld
 have hlx:l≠x:=fun e=>by rw [e,hx]at hl1;cases hl1
 have hqx:∀q∈qs,q≠x∧q≠l∧H1 q=H' q:=fun q hq=>by
  obtain ⟨j,hj⟩:=List.getElem?_of_mem hq
  have h2:=(h.q j q hj).2
  have hqd:q≠d:=fun e=>by rw [e,hd]at h2;cases h2
  have h3:=sb _ _ h2 hqd
  refine ⟨fun e=>(by rw [e,hx]at h3;cases h3),fun e=>(List.nodup_cons.mp h.d).1 (e▸hq),by rw [h3,h2]⟩
 refine ⟨upd_same,by rw [List.length_append,h.N];rfl,?_,?_⟩
 · rw [← List.cons_append,List.nodup_append]
   refine ⟨h.d,List.nodup_cons.mpr ⟨by simp,List.nodup_nil⟩,fun y hy u hu=>?_⟩
   rw [List.mem_singleton]at hu
   rw [hu]
   rcases List.mem_cons.mp hy with e | e
   · rw [e];exact hlx
   · exact (hqx y e).1
 · intro j q hj
   rcases Nat.lt_or_ge j qs.length with h1 | h1
   · rw [List.getElem?_append_left h1]at hj
     obtain ⟨n1,n2,n3⟩:=hqx q (List.mem_of_getElem? hj)
     rw [upd_ne n2,upd_ne n1,n3]
     exact h.q j q hj
   · rw [List.getElem?_append_right h1]at hj
     have e:j - qs.length=0:=by
      rcases Nat.eq_zero_or_pos (j - qs.length) with e | e
      · exact e
      · rw [List.getElem?_eq_none (by simp;omega)]at hj;cases hj
     rw [e]at hj
     cases hj
     have ej:j=n:=by have:=h.N;omega
     subst ej
     refine ⟨?_,by rw [upd_ne hlx.symm];exact upd_same⟩
     cases e2:H x with
     | none=>rfl
     | some o=>rw [hH _ _ e2]at hx;cases hx
theorem new_same{H H':Hp}{x dx:Addr}{o1 o2:HO}(h1:H x=none)(h2:H dx=none)(sb:SameBut x (upd (upd H dx o1) x o2) H'):Same H H':=fun b o e=>by
 have n1:b≠x:=fun h=>by rw [h,h1]at e;cases e
 have n2:b≠dx:=fun h=>by rw [h,h2]at e;cases e
 exact sb _ _ (by rw [upd_ne n1,upd_ne n2];exact e) n1
theorem new_none{H:Hp}{x dx d:Addr}{o1 o2:HO}(h:upd (upd H dx o1) x o2 d=none):H d=none:=by
 by_cases e1:d=x
 · rw [e1,upd_same]at h;cases h
 rw [upd_ne e1]at h
 by_cases e2:d=dx
 · rw [e2,upd_same]at h;cases h
 rw [upd_ne e2]at h;exact h
theorem same_none{H H':Hp}{d:Addr}(s:Same H H')(h:H' d=none):H d=none:=by
 cases e:H d with
 | none=>rfl
 | some o=>rw [s _ _ e]at h;cases h
theorem but_same{H H' H1:Hp}{d:Addr}(s:Same H H')(hd:H d=none)(sb:SameBut d H' H1):Same H H1:=fun b o e=>sb _ _ (s _ _ e) fun h=>by rw [h,hd]at e;cases e
theorem upd_but{H H':Hp}{l:Addr}{o:HO}(s:Same H H')(hl:H l=none):Same H (upd H' l o):=fun b u e=>by
 rw [upd_ne (fun h=>by rw [h,hl]at e;cases e)];exact s _ _ e
structure OkL(R:Str→Int)(ns:List Str)(ls:Ly):Prop where
 nd:(lyN ls).Nodup
 r:∀x∈ls,x.2=R x.1
 s:∀u∈lyN ls,u∈ns
theorem OkL.nil{R:Str→Int}{ns:List Str}:OkL R ns []:=⟨List.nodup_nil,by simp,by simp [lyN]⟩
theorem OkL.drop{R:Str→Int}{ns:List Str}{ls:Ly}{z:Str}(h:OkL R ns ls):OkL R ns (lyD ls z):=
 ⟨by rw [lyD_names h.nd];exact h.nd.erase _,fun x hx=>h.r x (List.mem_filter.mp hx).1,fun u hu=>h.s u (lyD_mem.mp hu).1⟩
theorem OkL.drops{R:Str→Int}{ns:List Str}{ls:Ly}{g:List Str}(h:OkL R ns ls):OkL R ns (lyDs ls g):=by
 unfold lyDs
 induction g generalizing ls with
 | nil=>exact h
 | cons x r ih=>exact ih h.drop
theorem OkL.put{R:Str→Int}{ns:List Str}{ls:Ly}{z:Str}(h:OkL R ns ls)(hz:z∉lyN ls)(hn:z∈ns):OkL R ns (ls++[(z,R z)]):=by
 have e:lyN (ls++[(z,R z)])=lyN ls++[z]:=by unfold lyN;rw [List.map_append];rfl
 refine ⟨?_,?_,?_⟩
 · rw [e,List.nodup_append]
   refine ⟨h.nd,by simp,fun y hy u hu=>?_⟩
   rw [List.mem_singleton]at hu
   rw [hu]
   exact fun e=>hz (e▸hy)
 · intro x hx
   rcases List.mem_append.mp hx with h1 | h1
   · exact h.r x h1
   · rw [List.mem_singleton.mp h1]
 · intro u hu
   rw [e]at hu
   rcases List.mem_append.mp hu with h1 | h1
   · exact h.s u h1
   · rw [List.mem_singleton.mp h1];exact hn
theorem OkL.step{R:Str→Int}{ns:List Str}{ls:Ly}{z:Str}{g:List Str}(h:OkL R ns ls)(hn:z∈ns):OkL R ns (stepL R ls z g):=by
 unfold stepL
 split
 · exact h.drops
 · rename_i hz
   exact h.drops.put (fun hh=>hz (lyDs_mem.mp hh).1) hn
noncomputable def Kp(M:List Addr)(H H':Hp):Prop:=∀b o,b∉M→H b=some o→H' b=some o
theorem Kp.trans{M:List Addr}{H H1 H2:Hp}(h1:Kp M H H1)(h2:Kp M H1 H2):Kp M H H2:=fun b o n e=>h2 b o n (h1 b o n e)
theorem Kp.of{M:List Addr}{H H1:Hp}(h:Same H H1):Kp M H H1:=fun b o _ e=>h b o e
theorem Kp.upd{M:List Addr}{H H1:Hp}{p:Addr}{o:HO}(h:Kp M H H1)(hp:p∈M):Kp M H (upd H1 p o):=fun b u n e=>by
 have hb:b≠p:=fun e2=>n (by rw [e2];exact hp)
 rw [upd_ne hb];exact h b u n e
theorem Kp.same{M:List Addr}{H0 H H1:Hp}(s:Same H0 H)(h:Kp M H H1)(hn:∀p∈M,H0 p=none):Same H0 H1:=fun b o e=>h b o (fun hb=>by rw [hn b hb]at e;cases e) (s b o e)
theorem at_snoc{α:Type}{xs:List α}{y z:α}{i:Nat}(h:(xs++[y])[i]?=some z):(i < xs.length∧xs[i]?=some z)∨(i=xs.length∧z=y):=by
 rcases Nat.lt_or_ge i xs.length with h1 | h1
 · rw [List.getElem?_append_left h1]at h;exact .inl ⟨h1,h⟩
 · rw [List.getElem?_append_right h1]at h
   rcases Nat.eq_zero_or_pos (i - xs.length) with e | e
   · rw [e]at h;cases h;exact .inr ⟨by omega,rfl⟩
   · rw [List.getElem?_eq_none (by simp;omega)]at h;cases h
theorem step_N{R:Str→Int}{ls:Ly}{z:Str}{g:List Str}(h:z∉lyN ls):lyN (stepL R ls z g)=lyN (lyDs ls g)++[z]:=by
 unfold stepL
 rw [if_neg h]
 unfold lyN
 rw [List.map_append];rfl
theorem step_there{R:Str→Int}{ls:Ly}{z:Str}{g:List Str}(h:z∈lyN ls):stepL R ls z g=lyDs ls g:=by
 unfold stepL
 rw [if_pos h]
structure Beh(H:Hp)(l:Addr)(es:List Addr)(W:Nat→Ly)(n:Nat):Prop where
 L:H l=some (.lst (es.map V.ref))
 N:es.length=n
 q:∀(j:Nat) (x:Addr),es[j]?=some x→H x=some (.lst ((lyN (W (j+1))).map V.str))
theorem Told.beh{H H':Hp}{l:Addr}{qs:List Addr}{W:Nat→Ly}{n:Nat}(h:Told H H' l qs W n):Beh H' l qs W n:=⟨h.L,h.N,fun j x e=>(h.q j x e).2⟩
end N14
namespace L2
structure DefB(P:Program)(w:World)(K:PySem.W.Frag)(mg:Str→Option Value)(base:Heap)(CX:CXT)(k:Nat)(x:Str)(C:Addr)(ps:List Str)(sp:Sp):Prop where
 ex:∃(f:Addr) (fd:FuncData),FnOk P w K mg base CX k f fd ps sp∧Mk K C f∧mg x=some (.ref C)∧Binds K fd ps []∧PySem.W.findCls K (.ref C) (.type "type") "__init__"=some (.val (.ref f))∧PySem.W.keepIn K (.ref f)=true
 sp:PySem.W.specialIn K (.ref C) "__getattribute__"=some (some (.builtin "type.__getattribute__"))
 rd:PySem.W.readsIn K C (.type "type")=true
noncomputable def tCallS(sp:Sp)(EE:St→XK)(t:TA):TE:=fun σ H Q=>t σ H fun vs H1=>sp vs H1 Q (EE σ)
section
variable {X:Cx} {CX:CXT} {k j:Nat} {C:Addr} {ps:List Str} {sp:Sp} {EE:St→XK} {x:Str} {pos apos:Pos} {e o:Expr} {es:List Expr} {t:TA}
theorem pe_initC{pl:Sem Bool}(D:DefB X.prog X.w X.K X.mg X.base CX j x C ps sp)(hr:Room k X.A)(hx:PassesS CX X EE)(he:PE X o (tC (.ref C)))(ha:PA X (e::es) t)(hj:j≤k:=by decide)
 (hst:starEach (e::es) X.env=(false,eval e X.env)::starEach es X.env:=by rfl) (hpl:(backTo pos (starEach es X.env)).any (·.1)=false:=by rfl)
 (ht:eval (.Call (.Attribute o "__init__" apos) (e::es) [] pos) X.env=(do
  let ov ← eval o X.env
  standAt apos.atName
  let (f,first) ← holding [ov] (getMethod ov "__init__" pl)
  callWith pos f first (backTo pos (starEach (e::es) X.env)) (backToKw pos (keywordEach [] X.env))):=by rfl):
 PE X (.Call (.Attribute o "__init__" apos) (e::es) [] pos) (tCallS sp EE t):=by
 obtain ⟨f,fd,F,M,hm,hb,hc,hk⟩:=D.ex
 intro pins s σ H Q I h
 refine PySem.W.methodCall_KW (pl:=pl) (thn (he pins s σ H (fun v H1=>v= .ref C∧t σ H1 fun vs H2=>sp vs H2 Q (EE σ)) I ⟨rfl,h⟩) fun u s1 hq_=>?_) ht
 obtain ⟨x,H1,I1,rx,q⟩:=hq_
 obtain ⟨rfl,q⟩:=q
 obtain rfl:u=Value.ref C:=rx
 refine PySem.W.method_cls I1.kIn D.sp (PySem.W.cls_value I1.kIn D.rd hc rfl ?_)
 have I2:=I1.tok (s1.toks+1)
 exact PySem.W.callWith_K (first:=[]) (h₀:=X.base) I.ok.mod.kin hk (thn (ha pos pins _ σ H1 _ I2 q) fun us s2 ⟨vs,H2,I3,r,q2⟩=>⟨I3.kIn,run_fnS (us:=us) (vs:=vs) (F.mono hj) hr hb hx I3 r q2⟩) hst hpl
theorem rd_callS{σ:St}{H:Hp}{Q:VK}:tCallS sp EE t σ H Q=t σ H fun vs H1=>sp vs H1 Q (EE σ):=rfl
end
end L2
namespace L2
noncomputable def ipM:TIp:=fun x y H Q=>∃i j,x= .int i∧y= .int j∧CMul i j∧Q (.int (i * j)) H
theorem rd_ipM{x y:V}{H:Hp}{Q:VK}:ipM x y H Q=∃i j,x= .int i∧y= .int j∧CMul i j∧Q (.int (i * j)) H:=rfl
end L2
namespace L2
section
variable {X:Cx} {pins:List (Addr×Obj)} {σ:St} {H:Hp} {s:Shared} {a C dx g:Addr} {fs:List (Str×V)} {m:Str} {A:Around} {E:Value→Shared→Prop}
theorem getbound_ok{b:Bool}{Q:Value→Shared→Prop}(I:Inv X pins σ H s)(e:H a=some (.ins C dx fs))(c:Cls X.K C)(k:Meth X.K C m g)(l:fs.lookup m=none)
 (hgf:PySem.W.specialIn X.K (.ref g) "__get__"=some (some (.builtin "function.__get__"))) (ht:PySem.W.takesIn X.K (.ref g)=some false) (hc:PySem.W.copiedNames.contains m=false)
 (h:Q (.ref s.heap.objs.size) {s with heap:=s.heap.push (PySem.W.methodObj (.ref g) (.ref a)),toks:=s.toks+1}):wpAny (model X.prog X.w) A (getAttr (.ref a) m b) Q E s:=by
 obtain ⟨mA,O,r,_,_,_⟩:=ins_get I.hok e
 have hn:mA m=none:=RelO.none_of (by rw [← l];exact r m)
 obtain ⟨od,J,hl⟩:=O.look
 have hK:X.K.In ({s with toks:=s.toks+1}:Shared).heap:=I.kIn
 exact PySem.W.get_bind I.kIn J (PySem.W.plainGet_of (c.get m)).1 (PySem.W.findObj_fn c.hd k.at_ hgf ht hc (by rw [hl,hn])) (PySem.W.plainGet_of (c.get m)).2
  (wpAny_call (PySem.W.fn_get (s:={s with toks:=s.toks+1}) hK (beq_iff_eq.mp k.fn) (PySem.W.handed_on rfl h)))
end
end L2
namespace L2
section
variable {X:Cx} {k:Nat} {f a q:Addr} {fd:FuncData} {ps:List Str} {sp:Sp}
theorem run_bound0{pins:List (Addr×Obj)}{σ:St}{H:Hp}{s:Shared}{Q:VK}{us:List Value}{vs:List V}{E:Value→Shared→Prop}(F:FnOk X.prog X.w X.K X.mg X.base CX0 k f fd ps sp)(hr:Room (k+1) X.A)(hb:Binds X.K fd ps [])
 (I:Inv X pins σ H s) (r:Vals vs us) (hq:s.heap.get? q=some (PySem.W.methodObj (.ref f) (.ref a))) (h:sp (.ref a::vs) H Q E0):wpAny (model X.prog X.w) X.A.in1 (call (.ref q) us) (EP X pins σ Q) E s:=by
 have r':Vals (V.ref a::vs) (Value.ref a::us):= .cons rfl r
 have hl:(Value.ref a::us).length=ps.length:=by rw [← r'.length];exact F.len _ _ _ _ h
 have hb':=hb s (Value.ref a::us) I.kIn (by simpa using hl)
 rw [List.append_nil]at hb'
 refine wpAny_call (ks_codeAny_call_bound (a:=⟨us,[]⟩) hq (codeAny_mono (F.run X.A.in1 X.stack s H ⟨Value.ref a::us,[]⟩ (Value.ref a::us) (V.ref a::vs) Q E0 hr.in1 (Env0.in1 I.env0) hb' r' h) fun r s' hq=>?_))
 cases r with
 | error e=>exact False.elim hq
 | ok fl=>
  cases fl with
  | ret u=>exact I.after hq
  | next=>exact False.elim hq
  | brk=>exact False.elim hq
  | cont=>exact False.elim hq
end
noncomputable def btK(kf:Nat→List Int):Nat→Nat→Bool:=fun i j=>HT.lexLt (kf i) (kf j)
section
variable {X:Cx} {pins:List (Addr×Obj)} {σ:St} {k:Nat} {g a q mo it S:Addr} {fd:FuncData} {ps:List Str} {sp:Sp} {H0:Hp} {xs:List V} {kf:Nat→List Int} {R:Result→Shared→Prop}
theorem Inv.turn1{H:Hp}{s:Shared}{b:Addr}{h':Heap}{t':Nat}(I:Inv X pins σ H s)(fp:FpOk X pins H b)(hk:∀c o,c≠b→s.heap.get? c=some o→h'.get? c=some o):Inv X pins σ H {s with heap:=h',toks:=t'}:=
 I.turned hk fp.1 fp.2.1 fp.2.2.2.1 fp.2.2.2.2.1 fp.2.2.2.2.2
theorem FpOk.at{H H':Hp}{b:Addr}(h:FpOk X pins H b)(hn:H' b=none):FpOk X pins H' b:=⟨hn,h.2⟩
theorem minK_loop(F:FnOk X.prog X.w X.K X.mg X.base CX0 k g fd ps sp)(hr:Room (k+1) X.A)(hb:Binds X.K fd ps [])(hq:SqL X.K H0 a xs)(hai:a≠it)
 (turn:∀i v,xs[i]?=some v→∀H',Same H0 H'→sp [.ref q,v] H' (fun u H''=>Same H' H''∧∃t,u= .ref t∧H'' t=some (.tup ((kf i).map V.int))) E0)
 (hR:∀v u H' s',Same H0 H'→Inv X pins σ H' s'→RelV v u→xs[argBest (btK kf) (xs.length - 1)]?=some v→R (.ok (.ret u)) s')
 (nmi:mo≠it) (nms:mo≠S) (nis:it≠S):
 ∀(r j:Nat) (s:Shared) (H:Hp) (vb:Value) (t:Addr) (c:Nat) (v0:V),xs.length - (j+1)=r→j+1≤xs.length→Inv X pins σ H s→Same H0 H→FpOk X pins H mo→FpOk X pins H it→FpOk X pins H S→
   s.heap.get? mo=some (PySem.W.methodObj (.ref g) (.ref q))→s.heap.get? S=some (seqObj "list" #[vb,.ref t] c)→s.heap.IsListIter it a (j+1)→
   xs[argBest (btK kf) j]?=some v0→RelV v0 vb→H t=some (.tup ((kf (argBest (btK kf) j)).map V.int))→
   codeAny (model X.prog X.w) X.A (.builtin "min.loop" ⟨[.ref it,.ref mo,.ref S],[]⟩) R s:=by
 have hname:(toString "min"++toString ".loop":String)="min.loop":=by decide
 have hh:X.A.in1.handled=none:=hr.hd
 intro r
 induction r with
 | zero=>
  intro j s H vb t c v0 hrr hj I sm fm fi fs gm gS hit hx0 rv0 ht
  obtain ⟨its,rv,p,hz⟩:=I.list (sm.seq hq)
  have hln:=rv.length
  have W:=Walks.list (prog:=X.prog) (w:=X.w) (A:=X.A.in1) hh it a hai its.toArray
  have hsz:its.toArray.size=xs.length:=by rw [List.size_toArray,hln]
  have hin:j+1=xs.length:=by omega
  refine codeAny_builtin PySem.F.entry_min_loop ?_
  rw [Around.under_plainId PySem.F.plain_min_loop _]
  show wpAny _ X.A.in1 (seqItems? (.ref S) >>=_) _ _ _
  refine wpAny_bind (wpAny_seqItems gS rfl ?_)
  show wpAny _ X.A.in1 (tryCatch (pyNext (.ref it)) _ >>=_) _ _ _
  refine wpAny_bind (wpAny_tryCatch (W.done _ _ _ ⟨by rw [hsz,← hin];exact hit,p.isList⟩ fun h' tk' hk'=>?_))
  have hk2:∀b o,b≠it→s.heap.get? b=some o→h'.get? b=some o:=fun b o e=>hk' b o (by simpa using e)
  have I1:Inv X pins σ H {s with heap:=h',toks:=tk'}:=I.turn1 fi hk2
  have gS':=hk2 S _ (Ne.symm nis) gS
  have s1:=Heap.SameBut.update h' S (Obj.mapSeq fun _=>(#[]:Array Value))
  show wpAny _ X.A.in1 (updateSeq S (fun _=>#[]) >>=_) _ _ _
  refine wpAny_bind ?_
  refine wpAny_updateSeq gS' rfl (wpAny_bind (wpAny_letGo (wpAny_pure ?_)))
  refine hR v0 vb H _ sm (I1.turn1 (t':=tk') fs fun b o e e2=>(s1.2 b e).trans e2) rv0 ?_
  rw [show xs.length - 1=j by omega]
  exact hx0
 | succ r ih=>
  intro j s H vb t c v0 hrr hj I sm fm fi fs gm gS hit hx0 rv0 ht
  obtain ⟨its,rv,p,hz⟩:=I.list (sm.seq hq)
  have hln:=rv.length
  have W:=Walks.list (prog:=X.prog) (w:=X.w) (A:=X.A.in1) hh it a hai its.toArray
  have hsz:its.toArray.size=xs.length:=by rw [List.size_toArray,hln]
  have hlt:j+1 < xs.length:=by omega
  refine codeAny_builtin PySem.F.entry_min_loop ?_
  rw [Around.under_plainId PySem.F.plain_min_loop _]
  show wpAny _ X.A.in1 (seqItems? (.ref S) >>=_) _ _ _
  refine wpAny_bind (wpAny_seqItems gS rfl ?_)
  show wpAny _ X.A.in1 (tryCatch (pyNext (.ref it)) _ >>=_) _ _ _
  refine wpAny_bind (wpAny_tryCatch (W.item (j+1) _ _ _ (by rw [hsz];exact hlt) ⟨hit,p.isList⟩ fun v h' tk' hP hst' hk'=>?_))
  have hk2:∀b o,b≠it→s.heap.get? b=some o→h'.get? b=some o:=fun b o e=>hk' b o (by simpa using e)
  have hxj:=List.getElem?_eq_getElem hlt
  obtain ⟨v',hv',rv'⟩:=rv.get hxj
  have hvv:v'=v:=by
   have:its[j+1]?=some v:=by simpa using hP
   rw [hv']at this;exact Option.some.inj this
  subst hvv
  obtain ⟨oI',hoI',hoc,hod⟩:=id hst'.1
  have I1:Inv X pins σ H {s with heap:=h',toks:=tk'}:=I.turn1 fi hk2
  have gS':=hk2 S _ (Ne.symm nis) gS
  have gm':=hk2 mo _ nmi gm
  have I1p:Inv X (pins++[(mo,PySem.W.methodObj (.ref g) (.ref q)),(S,seqObj "list" #[vb,.ref t] c),(it,oI')]) σ H {s with heap:=h',toks:=tk'}:=I1.pins_of fun p hp=>by
   rcases List.mem_append.mp hp with hp | hp
   · exact I1.pin p (List.mem_append_right _ hp)
   · simp only [List.mem_cons,List.not_mem_nil,or_false]at hp
     rcases hp with rfl | rfl | rfl
     · exact ⟨gm',fm.1,fm.2.1,fm.2.2.1,fun v e=>by cases e⟩
     · exact ⟨gS',fs.1,fs.2.1,fs.2.2.1,fun v e=>by cases e⟩
     · exact ⟨hoI',fi.1,fi.2.1,fi.2.2.1,fun v e=>by rw [hod]at e;cases e⟩
  show wpAny _ X.A.in1 (tryCatch (holding [v'] (call (.ref mo) [v'])) _ >>=_) _ _ _
  refine wpAny_bind (wpAny_tryCatch (wpAny_holding (thn (run_bound0 (vs:=[xs[j+1]]) F hr hb I1p (.cons rv' .nil) gm' (turn (j+1) _ hxj H sm)) fun x s2 he=>?_)))
  obtain ⟨y,H2,I2p,ry,sm2,t2,rfl,ht2⟩:=he
  obtain rfl:x=Value.ref t2:=ry
  have P2:=fun p hp=>I2p.pin p (List.mem_append_right _ (List.mem_append_right _ hp))
  have pm:=P2 (mo,PySem.W.methodObj (.ref g) (.ref q)) (by simp)
  have pS:=P2 (S,seqObj "list" #[vb,.ref t] c) (by simp)
  have pI:=P2 (it,oI') (by simp)
  have I2:Inv X pins σ H2 s2:=I2p.pins_of fun p hp=>I2p.pin p (List.mem_append_right _ (List.mem_append_left _ hp))
  have hit2:s2.heap.IsListIter it a (j+1+1):=⟨oI',pI.1,hoc,hod⟩
  have smx:=sm.trans sm2
  have ht':=sm2 _ _ ht
  obtain ⟨us1,r1,p1,_⟩:=I2.tuple (SqT.of ht2)
  obtain ⟨us2,r2,p2,_⟩:=I2.tuple (SqT.of ht')
  have hu:X.A.in1.units < cLine:=Nat.lt_of_le_of_lt (by omega) hr.in1.un
  show wpAny _ X.A.in1 (tryCatch (holding [v',.ref t2] (richCompare .Lt (.ref t2) (.ref t) >>=_)) _ >>=_) _ _ _
  refine wpAny_bind (wpAny_tryCatch (wpAny_holding (wpAny_bind (HT.lt_tupInts p1 p2 (intsAre_of r1) (intsAre_of r2) hu ?_))))
  refine wpAny_bind (wpAny_holding (wpAny_truthy_bool ?_))
  refine wpAny_bind (wpAny_letGo (wpAny_pure ?_))
  have eB:argBest (btK kf) (j+1)=if HT.lexLt (kf (j+1)) (kf (argBest (btK kf) j))=true then j+1 else argBest (btK kf) j:=rfl
  by_cases hb':HT.lexLt (kf (j+1)) (kf (argBest (btK kf) j))=true
  · have s1:=Heap.SameBut.update s2.heap S (Obj.mapSeq fun _=>#[v',.ref t2])
    obtain ⟨c2,hc2⟩:∃c2,(s2.heap.update S (Obj.mapSeq fun _=>#[v',.ref t2])).get? S=some (seqObj "list" #[v',.ref t2] c2):=⟨_,get?_update_seq pS.1 fun _=>#[v',.ref t2]⟩
    rw [if_pos hb']at eB
    simp only [hb',if_true]
    refine wpAny_bind ?_
    refine wpAny_updateSeq pS.1 rfl (wpAny_bind (wpAny_letGo ?_))
    rw [hname]
    have I3:Inv X pins σ H2 {s2 with heap:=s2.heap.update S (Obj.mapSeq fun _=>#[v',.ref t2]),toks:=s2.toks}:=I2.turn1 (fs.at pS.2.1) fun b o e e2=>(s1.2 b e).trans e2
    exact wpAny_pure ⟨plainId_quiet PySem.F.plain_min_loop _,ih (j+1) _ H2 v' t2 c2 _ (by omega) hlt I3 smx (fm.at pm.2.1) (fi.at pI.2.1) (fs.at pS.2.1) ((s1.2 mo nms).trans pm.1) hc2 ⟨oI',(s1.2 it nis).trans pI.1,hoc,hod⟩ (by rw [eB];exact hxj) rv' (by rw [eB];exact ht2)⟩
  · rw [if_neg hb']at eB
    simp only [hb',Bool.false_eq_true,if_false]
    refine wpAny_bind (wpAny_letGo ?_)
    rw [hname]
    exact wpAny_pure ⟨plainId_quiet PySem.F.plain_min_loop _,ih (j+1) s2 H2 vb t c v0 (by omega) hlt I2 smx (fm.at pm.2.1) (fi.at pI.2.1) (fs.at pS.2.1) pm.1 pS.1 hit2 (by rw [eB];exact hx0) rv0 (by rw [eB];exact ht')⟩
end
section
variable {X:Cx} {pins:List (Addr×Obj)} {σ:St} {k:Nat} {g a q mo:Addr} {fd:FuncData} {ps:List Str} {sp:Sp} {H:Hp} {s:Shared} {xs:List V} {kf:Nat→List Int} {Q:VK}
theorem minK_call(F:FnOk X.prog X.w X.K X.mg X.base CX0 k g fd ps sp)(hr:Room (k+1) X.A)(hb:Binds X.K fd ps [])(I:Inv X pins σ H s)(hq:SqL X.K H a xs)(hne:xs≠[])
 (gm:s.heap.get? mo=some (PySem.W.methodObj (.ref g) (.ref q))) (fm:FpOk X pins H mo)
 (turn:∀i v,xs[i]?=some v→∀H',Same H H'→sp [.ref q,v] H' (fun u H''=>Same H' H''∧∃t,u= .ref t∧H'' t=some (.tup ((kf i).map V.int))) E0)
 (hQ:∀v H',Same H H'→xs[argBest (btK kf) (xs.length - 1)]?=some v→Q v H'):
 wpAny (model X.prog X.w) X.A (call (.builtin "min") [.ref a] [(Str.ofString "key",.ref mo)]) (EP X pins σ Q) X.xe s:=by
 have hname:(toString "min"++toString ".loop":String)="min.loop":=by decide
 have hh:X.A.in1.handled=none:=hr.hd
 obtain ⟨its,rv,p,hz⟩:=I.list hq
 have hln:=rv.length
 have hpos:0 < xs.length:=List.length_pos_iff.mpr hne
 have hla:a < s.heap.objs.size:=by obtain ⟨o,n,e,_⟩:=p;exact Heap.lt_size e
 have hlm:mo < s.heap.objs.size:=Heap.lt_size gm
 refine kmk_tree PySem.F.kind_min PySem.F.plain_min PySem.F.entry_min (kmk_min_key _ _) ?_
 show wpAny _ X.A.in1 (Builtin.Builtins.bindParams "min" ["key","default"] 0 ⟨[],[(Str.ofString "key",.ref mo)]⟩ >>=_) _ _ s
 refine wpAny_bind (wpAny_of_eq (show Builtin.Builtins.bindParams "min" ["key","default"] 0 ⟨[],[(Str.ofString "key",.ref mo)]⟩=pure [some (.ref mo),none] from rfl) ?_)
 refine wpAny_bind (wpAny_pure ?_)
 refine wpAny_bind (wpAny_pyIter_list p.isList ?_)
 refine wpAny_bind (wpAny_newList ?_ (Nat.zero_le _))
 rw [hname]
 refine wpAny_pure ⟨plainId_quiet PySem.F.plain_min_loop _,?_⟩
 have hS:(s.heap.push {cls:= .type "list_iterator",data:= .fields #[.ref a,.int 0 0]}).objs.size=s.heap.objs.size+1:=size_push' ..
 generalize hSe:(s.heap.push {cls:= .type "list_iterator",data:= .fields #[.ref a,.int 0 0]}).objs.size=S at hS
 have hai:a≠s.heap.objs.size:=Nat.ne_of_lt hla
 have nmi:mo≠s.heap.objs.size:=Nat.ne_of_lt hlm
 have nms:mo≠S:=by rw [hS];exact Nat.ne_of_lt (Nat.lt_succ_of_lt hlm)
 have nis:s.heap.objs.size≠S:=by rw [hS];exact Nat.ne_of_lt (Nat.lt_succ_self _)
 have k1:∀b o,s.heap.get? b=some o→((s.heap.push {cls:= .type "list_iterator",data:= .fields #[.ref a,.int 0 0]}).push (seqObj "list" #[] 0)).get? b=some o:=fun b o e=>Heap.get?_push_of_some _ (Heap.get?_push_of_some _ e)
 have fi:FpOk X pins H s.heap.objs.size:=I.fpOk (Nat.le_refl _) (I.hok.fresh (Nat.le_refl _))
 have fs:FpOk X pins H S:=I.fpOk (by rw [hS];exact Nat.le_succ _) (I.hok.fresh (by rw [hS];exact Nat.le_succ _))
 have gI:((s.heap.push {cls:= .type "list_iterator",data:= .fields #[.ref a,.int 0 0]}).push (seqObj "list" #[] 0)).get? s.heap.objs.size=some {cls:= .type "list_iterator",data:= .fields #[.ref a,.int 0 0]}:=Heap.get?_push_of_some _ (Heap.get?_push_size _ rfl)
 have gS:((s.heap.push {cls:= .type "list_iterator",data:= .fields #[.ref a,.int 0 0]}).push (seqObj "list" #[] 0)).get? S=some (seqObj "list" #[] 0):=by rw [← hSe];exact Heap.get?_push_size _ rfl
 have gm1:=k1 _ _ gm
 have I1:Inv X pins σ H {s with heap:=(s.heap.push {cls:= .type "list_iterator",data:= .fields #[.ref a,.int 0 0]}).push (seqObj "list" #[] 0),toks:=s.toks}:=I.kept k1
 obtain ⟨its',rv1,p1,_⟩:=I1.list hq
 have hln1:=rv1.length
 have W:=Walks.list (prog:=X.prog) (w:=X.w) (A:=X.A.in1) hh s.heap.objs.size a hai its'.toArray
 have hsz:its'.toArray.size=xs.length:=by rw [List.size_toArray,hln1]
 refine codeAny_builtin PySem.F.entry_min_loop ?_
 rw [Around.under_plainId PySem.F.plain_min_loop _]
 show wpAny _ X.A.in1 (seqItems? (.ref S) >>=_) _ _ _
 refine wpAny_bind (wpAny_seqItems gS rfl ?_)
 show wpAny _ X.A.in1 (tryCatch (pyNext (.ref s.heap.objs.size)) _ >>=_) _ _ _
 refine wpAny_bind (wpAny_tryCatch (W.item 0 _ _ _ (by rw [hsz];exact hpos) ⟨⟨_,gI,rfl,rfl⟩,p1.isList⟩ fun v h' tk' hP hst' hk'=>?_))
 have hk2:∀b o,b≠s.heap.objs.size→((s.heap.push {cls:= .type "list_iterator",data:= .fields #[.ref a,.int 0 0]}).push (seqObj "list" #[] 0)).get? b=some o→h'.get? b=some o:=fun b o e=>hk' b o (by simpa using e)
 have hx0:=List.getElem?_eq_getElem hpos
 obtain ⟨v',hv',rv'⟩:=rv1.get hx0
 have hvv:v'=v:=by
  have:its'[0]?=some v:=by simpa using hP
  rw [hv']at this;exact Option.some.inj this
 subst hvv
 obtain ⟨oI',hoI',hoc,hod⟩:=id hst'.1
 have I2:Inv X pins σ H {s with heap:=h',toks:=tk'}:=I1.turn1 fi hk2
 have gS':=hk2 S _ (Ne.symm nis) gS
 have gm':=hk2 mo _ nmi gm1
 have I2p:Inv X (pins++[(mo,PySem.W.methodObj (.ref g) (.ref q)),(S,seqObj "list" #[] 0),(s.heap.objs.size,oI')]) σ H {s with heap:=h',toks:=tk'}:=I2.pins_of fun p hp=>by
  rcases List.mem_append.mp hp with hp | hp
  · exact I2.pin p (List.mem_append_right _ hp)
  · simp only [List.mem_cons,List.not_mem_nil,or_false]at hp
    rcases hp with rfl | rfl | rfl
    · exact ⟨gm',fm.1,fm.2.1,fm.2.2.1,fun v e=>by cases e⟩
    · exact ⟨gS',fs.1,fs.2.1,fs.2.2.1,fun v e=>by cases e⟩
    · exact ⟨hoI',fi.1,fi.2.1,fi.2.2.1,fun v e=>by rw [hod]at e;cases e⟩
 show wpAny _ X.A.in1 (tryCatch (holding [v'] (call (.ref mo) [v'])) _ >>=_) _ _ _
 refine wpAny_bind (wpAny_tryCatch (wpAny_holding (thn (run_bound0 (vs:=[xs[0]]) F hr hb I2p (.cons rv' .nil) gm' (turn 0 _ hx0 H (Same.refl H))) fun x s2 he=>?_)))
 obtain ⟨y,H2,I3p,ry,sm2,t2,rfl,ht2⟩:=he
 obtain rfl:x=Value.ref t2:=ry
 have P2:=fun p hp=>I3p.pin p (List.mem_append_right _ (List.mem_append_right _ hp))
 have pm:=P2 (mo,PySem.W.methodObj (.ref g) (.ref q)) (by simp)
 have pS:=P2 (S,seqObj "list" #[] 0) (by simp)
 have pI:=P2 (s.heap.objs.size,oI') (by simp)
 have I3:Inv X pins σ H2 s2:=I3p.pins_of fun p hp=>I3p.pin p (List.mem_append_right _ (List.mem_append_left _ hp))
 have s1:=Heap.SameBut.update s2.heap S (Obj.mapSeq fun _=>#[v',.ref t2])
 obtain ⟨c2,hc2⟩:∃c2,(s2.heap.update S (Obj.mapSeq fun _=>#[v',.ref t2])).get? S=some (seqObj "list" #[v',.ref t2] c2):=⟨_,get?_update_seq pS.1 fun _=>#[v',.ref t2]⟩
 show wpAny _ X.A.in1 (updateSeq S (fun _=>#[v',.ref t2]) >>=_) _ _ _
 refine wpAny_bind ?_
 refine wpAny_updateSeq pS.1 rfl ?_
 rw [hname]
 have I4:Inv X pins σ H2 {s2 with heap:=s2.heap.update S (Obj.mapSeq fun _=>#[v',.ref t2]),toks:=s2.toks}:=I3.turn1 (fs.at pS.2.1) fun b o e e2=>(s1.2 b e).trans e2
 refine wpAny_pure ⟨plainId_quiet PySem.F.plain_min_loop _,minK_loop (H0:=H) (kf:=kf) (xs:=xs) (a:=a) F hr hb hq hai turn (fun v u H' s' smH I' ru hv=>?_) nmi nms nis _ 0 _ H2 v' t2 c2 xs[0] rfl hpos I4 sm2 (fm.at pm.2.1) (fi.at pI.2.1) (fs.at pS.2.1) ((s1.2 mo nms).trans pm.1) hc2 ⟨oI',(s1.2 _ nis).trans pI.1,hoc,hod⟩ hx0 rv' ht2⟩
 exact ⟨v,H',I',ru,hQ v H' smH hv⟩
end
structure DefV(P:Program)(w:World)(K:PySem.W.Frag)(mg:Str→Option Value)(base:Heap)(k:Nat)(C:Addr)(m:Str)(ps:List Str)(sp:Sp):Prop where
 ex:∃(f:Addr) (fd:FuncData),FnOk P w K mg base CX0 k f fd ps sp∧Meth K C m f∧Binds K fd ps []∧PySem.W.specialIn K (.ref f) "__get__"=some (some (.builtin "function.__get__"))∧PySem.W.takesIn K (.ref f)=some false
noncomputable def tMinK(K:PySem.W.Frag)(C:Addr)(m:Str)(sp:Sp)(ta:TA)(to:TE):TE:=fun σ H Q=>ta σ H fun vs H1=>to σ H1 fun o H2=>∃(a q dx:Addr) (fs:List (Str×V)) (xs:List V) (kf:Nat→List Int),vs=[.ref a]∧o= .ref q∧H2 q=some (.ins C dx fs)∧fs.lookup m=none∧SqL K H2 a xs∧xs≠[]∧
 (∀i v,xs[i]?=some v→∀H',Same H2 H'→sp [.ref q,v] H' (fun u H''=>Same H' H''∧∃t,u= .ref t∧H'' t=some (.tup ((kf i).map V.int))) E0)∧∀v H',Same H2 H'→xs[argBest (btK kf) (xs.length - 1)]?=some v→Q v H'
section
variable {X:Cx} {k j:Nat} {C:Addr} {ps:List Str} {sp:Sp} {m:Str} {x:Str} {p pos apos kp:Pos} {e o:Expr} {t:TA} {to:TE}
theorem pe_minK(D:DefV X.prog X.w X.K X.mg X.base j C m ps sp)(c:Cls X.K C)(hr:Room k X.A)(hg:Gl X x)(hm:X.mg x=none)(hv:bootBuiltins x=some (.builtin "min"))(ha:PA X [e] t)(ho:PE X o to)(hba:attributeBase o m X.env (eval o X.env)=eval o X.env)(hcn:PySem.W.copiedNames.contains m=false:=by decide+kernel)(hj:j+1≤k:=by decide)(hn:x≠"__name__":=by decide)(hdb:(x==("__debug__":Str))=false:=by decide)
 (he:backTo pos (starEach [e] X.env)=(false,eval e X.env)::backTo pos (starEach [] X.env):=by rfl) (hpl:(backTo pos (starEach [e] X.env)).any (·.1)=false:=by rfl):
 PE X (.Call (.Name x p) [e] [⟨some (Str.ofString "key"),.Attribute o m apos,kp⟩] pos) (tMinK X.K C m sp t to):=by
 obtain ⟨g,fd,F,M,hb,hgf,htk⟩:=D.ex
 intro pins s σ H Q I h
 refine wpAny_Call_Name_kw (ld_blt I hg hm hv ?_ hn hdb)
 refine callWith_kw (thn (ha pos pins s σ H _ I h) fun us s1 hq_=>?_) he hpl
 obtain ⟨vs,H1,I1,r1,q1⟩:=hq_
 refine kws_cons (attr_of hba (thn (ho pins s1 σ H1 _ I1 q1) fun u s2 hq_=>?_))
 obtain ⟨y,H2,I2,ry,a,q,dx,fs,xs,kf,ev,ey,hq,hl,hx,hne,turn,fin⟩:=hq_
 subst ev ey
 obtain rfl:u=Value.ref q:=ry
 obtain ⟨u,rfl,ru⟩:=vals1 r1
 obtain rfl:u=Value.ref a:=ru
 refine getbound_ok I2 hq c M hl hgf htk hcn (kws_nil ?_)
 have I3:Inv X pins σ H2 {s2 with heap:=s2.heap.push (PySem.W.methodObj (.ref g) (.ref q)),toks:=s2.toks+1}:=I2.kept fun b o e=>Heap.get?_push_of_some _ e
 exact minK_call (q:=q) (g:=g) (F.mono (show j≤j from Nat.le_refl j)) (hr.mono hj) hb I3 hx hne (Heap.get?_push_size _ rfl) (I2.fpOk (Nat.le_refl _) (I2.hok.fresh (Nat.le_refl _))) turn fin
theorem rd_minK{K:PySem.W.Frag}{σ:St}{H:Hp}{Q:VK}:tMinK K C m sp t to σ H Q=t σ H fun vs H1=>to σ H1 fun o H2=>∃(a q dx:Addr) (fs:List (Str×V)) (xs:List V) (kf:Nat→List Int),vs=[.ref a]∧o= .ref q∧H2 q=some (.ins C dx fs)∧fs.lookup m=none∧SqL K H2 a xs∧xs≠[]∧
 (∀i v,xs[i]?=some v→∀H',Same H2 H'→sp [.ref q,v] H' (fun u H''=>Same H' H''∧∃t,u= .ref t∧H'' t=some (.tup ((kf i).map V.int))) E0)∧∀v H',Same H2 H'→xs[argBest (btK kf) (xs.length - 1)]?=some v→Q v H':=rfl
end
end L2
namespace N20
open L2 N1 N5 N4 N6 N12 N32 N14
end N20
namespace N71
open L2 N1 N5 N4 N6 N12
structure TwA where
 st:Addr
 si:Addr
 ro:Addr
 he:Addr
 la:Addr
 so:Addr
 en:Addr
 fi:Addr
structure TwS where
 zs:List Int
 R:List Str
 kh:List (Key×V)
 kl:List (Key×V)
 ks:List (Key×V)
 es:List V
 ff:List Int
 pd:Int
end N71
namespace L2
section
variable {K:PySem.W.Frag} {σ:St} {H:Hp} {D:Ends} {Q:VK}
theorem rd_fldaug{ta tv:TE}{rd:V→V→Hp→VK→Prop}{f:Str}:sFldAug K ta tv rd f D σ H=ta σ H fun x H1=>∃a C dx fs v,x= .ref a∧H1 a=some (.ins C dx fs)∧Cls K C∧NoAttr K C f∧fs.lookup f=some v∧
 tv σ H1 fun y H2=>rd v y H2 fun z H3=>∃dx' fs',H3 a=some (.ins C dx' fs')∧fs'.length < 1000∧D.nx σ (upd H3 a (.ins C dx' (putF f z fs'))):=rfl
end
end L2
namespace L2
theorem inV_texts{z:Str}{ys:List Str}:inV (.str z) (ys.map V.str)=decide (z∈ys):=by
 unfold inV
 induction ys with
 | nil=>rfl
 | cons y ys ih=>
  rw [List.map_cons,List.any_cons,ih,eqV_str]
  by_cases h:y=z
  · subst h;simp
  · have h':¬z=y:=fun e=>h e.symm
    simp [h,h']
theorem ninT_go{K:PySem.W.Frag}{H:Hp}{p:Addr}{z:Str}{ys:List Str}{Q:VK}(h:SqL K H p (ys.map V.str))(q:Q (.bl (!decide (z∈ys))) H):rIn K true (.str z) (.ref p) H Q:=by
 refine ⟨p,_,rfl,.inl h,rfl,all_strs,?_⟩
 rw [if_pos rfl,inV_texts]
 exact q
end L2
namespace N53
open L2 N1 N5
noncomputable def NumV(K:PySem.W.Frag)(H:Hp)(v:V):Prop:=∃b c,Isi K H v "int" b∧(b=true→Isi K H v "bool" c)∧((b && !c)=true→∃i,v= .int i)∧((b && !c)=false→∀i,v≠ .int i)
theorem NumV.flat{K:PySem.W.Frag}{H:Hp}{v:V}(h:flatV v=true):NumV K H v:=num_isi h
theorem wIn_one{lo hi:Int}{v:V}(h:wIn lo hi v=true):∃i:Int,v= .int i∧lo≤i∧i≤hi:=by
 cases v with
 | int i=>
  simp only [wIn,Bool.and_eq_true,decide_eq_true_eq]at h
  exact ⟨i,rfl,h.1,h.2⟩
 | _=>cases h
theorem wIn_is{lo hi i:Int}(h1:lo≤i)(h2:i≤hi):wIn lo hi (.int i)=true:=by
 simp only [wIn,Bool.and_eq_true,decide_eq_true_eq];exact ⟨h1,h2⟩
noncomputable def stp(m:Int)(i:Nat)(y:Str)(s:List (Nat×Nat)×Nat×List Str):List (Nat×Nat)×Nat×List Str:=
 if y∉s.2.2∧(s.2.2.length:Int)=m then (s.1++[(s.2.1,i)],i,[y]) else (s.1,s.2.1,if y∈s.2.2 then s.2.2 else s.2.2++[y])
noncomputable def sp53_within(K:PySem.W.Frag):Sp:=fun vs H Q _=>∃(v:V) (lo hi:Int),vs=[v,.int lo,.int hi]∧NumV K H v∧Q (.bl (wIn lo hi v)) H
end N53
namespace N53
open L2 N1 N5
theorem put_both{kvs:List (Key×V)}{ks:List Str}{z:Str}{v:V}(h:kvs.map (·.1)=ks.map Sum.inr):(putK kvs (Sum.inr z) v).map (·.1)=(if z∈ks then ks else ks++[z]).map Sum.inr:=by
 have hm:=key_mem (z:=z) h
 by_cases hz:z∈ks
 · rw [if_pos hz,← h]
   unfold putK
   rw [valV_any,hm,decide_eq_true hz,if_pos rfl,List.map_map]
   refine List.map_congr_left fun e _=>?_
   show (if e.1=Sum.inr z then (e.1,v) else e).1=e.1
   split <;> rfl
 · rw [if_neg hz,putK_new v (by rw [decide_eq_false hz]at hm;simpa using hm),List.map_append,List.map_append,h]
   rfl
end N53
namespace L2
noncomputable def rOr(r1 r2:R2):R2:=fun x y H Q=>r1 x y H Q∨r2 x y H Q
theorem op_orR{X:Cx}{f:Value→Value→Sem Value}{r1 r2:R2}(h1:OpR X f r1)(h2:OpR X f r2):OpR X f (rOr r1 r2):=by
 intro pins s σ H x y v u Q I rx ry h
 rcases h with h | h
 · exact h1 pins s σ H x y v u Q I rx ry h
 · exact h2 pins s σ H x y v u Q I rx ry h
theorem rd_orR{r1 r2:R2}{x y:V}{H:Hp}{Q:VK}:rOr r1 r2 x y H Q=(r1 x y H Q∨r2 x y H Q):=rfl
end L2
namespace N18
open L2 N1 N5 N4 N6 N12 N32 N14
end N18
namespace N25
open L2 N1 N5 N4 N6 N12 N32 N14 N20
noncomputable def hfl(p od md:Addr)(n:Int):List (Str×V):=putF "marked" (.ref md) (putF "order" (.ref od) (putF "places" (.int n) (putF "stock" (.ref p) [])))
theorem hfl_stock{p od md:Addr}{n:Int}:(hfl p od md n).lookup ("stock":Str)=some (V.ref p):=by
 unfold hfl
 rw [lookup_putF,if_neg (by decide),lookup_putF,if_neg (by decide),lookup_putF,if_neg (by decide),lookup_putF,if_pos rfl]
theorem hfl_places{p od md:Addr}{n:Int}:(hfl p od md n).lookup ("places":Str)=some (V.int n):=by
 unfold hfl
 rw [lookup_putF,if_neg (by decide),lookup_putF,if_neg (by decide),lookup_putF,if_pos rfl]
theorem inr_ne'{y z:Str}(h:y≠z):(Sum.inr y:Key)≠Sum.inr z:=fun e=>h (by injection e)
theorem okl_sum{R:Str→Int}{ns:List Str}:∀{ls:Ly},(∀x∈ls,x.2=R x.1)→lyS ls=N41.sm R (lyN ls)
 | [],_=>rfl
 | x::r,h=>by
  have ih:=okl_sum (R:=R) (ns:=ns) (ls:=r) fun y hy=>h y (List.mem_cons_of_mem _ hy)
  have h1:=h x (List.mem_cons_self ..)
  unfold lyS at ih ⊢
  unfold lyN at ih ⊢
  rw [List.map_cons,List.sum_cons,List.map_cons,N41.sm_cons,ih,h1]
end N25
namespace N25
open L2 N1 N5 N4 N6 N12 N32 N14 N20
theorem kp_of_but{M:List Addr}{a:Addr}{H H':Hp}(s:SameBut a H H')(h:a∈M):Kp M H H':=fun b o n e=>s b o e (fun e2=>n (e2▸h))
theorem kp_none{M:List Addr}{H H':Hp}{b:Addr}(k:Kp M H H')(hb:b∉M)(h:H' b=none):H b=none:=by
 cases e:H b with
 | none=>rfl
 | some o=>rw [k b o hb e]at h;cases h
theorem kp_new{M:List Addr}{H H':Hp}{w:Addr}{o:HO}(k:Kp M H H')(hw:H w=none):Kp M H (upd H' w o):=fun b u n e=>by
 rw [upd_ne (fun h=>by rw [h,hw]at e;cases e)];exact k b u n e
theorem nd_len{L M:List Str}(h:L.Nodup)(hs:∀z∈L,z∈M):L.length≤M.length:=by
 induction L generalizing M with
 | nil=>exact Nat.zero_le _
 | cons x r ih=>
  obtain ⟨hx,hr⟩:=List.nodup_cons.mp h
  have hm:=hs x (List.mem_cons_self ..)
  have:=ih (M:=M.erase x) hr fun z hz=>(List.mem_erase_of_ne (fun e=>hx (by rw [← e];exact hz))).mpr (hs z (List.mem_cons_of_mem _ hz))
  rw [List.length_erase_of_mem hm]at this
  have hp:0 < M.length:=List.length_pos_of_mem hm
  rw [List.length_cons]
  omega
end N25
namespace NR
open L2 N1 N5 N4 N6 N12 N32 N14 N20 N18 N25
structure RuleT where
 C:Addr
 St:Type
 At:Hp→List Addr→Addr→Addr→Int→St→Prop
 asked:Int→St→Str→St
 pick:Int→St→List Str→St×Str
 gone:Int→St→Str→St
 came:Int→St→Str→St
 inv:List Str→Int→St→List Str→Prop
 mid:List Str→Int→Str→St→List Str→Prop
 dep:∀{H H':Hp} {M:List Addr} {q p:Addr} {n:Int} {s:St},(∀m∈M,∀o,H m=some o→H' m=some o)→At H M q p n s→At H' M q p n s
 live:∀{H:Hp} {M:List Addr} {q p:Addr} {n:Int} {s:St},At H M q p n s→∀m∈M,H m≠none
 obj:∀{H:Hp} {M:List Addr} {q p:Addr} {n:Int} {s:St},At H M q p n s→∃dx fs,H q=some (.ins C dx fs)∧fs.lookup ("stock":Str)=some (.ref p)∧fs.lookup ("places":Str)=some (.int n)∧fs.lookup ("asked":Str)=none∧fs.lookup ("choice":Str)=none∧fs.lookup ("gone":Str)=none∧fs.lookup ("came":Str)=none∧fs.lookup ("nests":Str)=none
 i_hit:∀{ns:List Str} {n:Int} {s:St} {l:List Str} {z:Str},inv ns n s l→z∈ns→z∈l→inv ns n (asked n s z) l
 i_mid:∀{ns:List Str} {n:Int} {s:St} {l:List Str} {z:Str},inv ns n s l→z∈ns→z∉l→mid ns n z (asked n s z) l
 i_pick:∀{ns:List Str} {n:Int} {s:St} {l:List Str} {z:Str},mid ns n z s l→l≠[]→(pick n s l).2∈l∧mid ns n z (gone n (pick n s l).1 (pick n s l).2) (l.erase (pick n s l).2)
 i_came:∀{ns:List Str} {n:Int} {s:St} {l:List Str} {z:Str},mid ns n z s l→z∈ns→z∉l→inv ns n (came n s z) (l++[z])
 cnt:St→Nat:=fun _=>0
 c_ask:∀n s z,cnt (asked n s z)≤cnt s+1:=by exact fun _ _ _=>Nat.zero_le _
 c_pick:∀n s l,cnt (pick n s l).1≤cnt s:=by exact fun _ _ _=>Nat.zero_le _
 c_gone:∀n s z,cnt (gone n s z)≤cnt s:=by exact fun _ _ _=>Nat.zero_le _
 c_came:∀n s z,cnt (came n s z)≤cnt s:=by exact fun _ _ _=>Nat.zero_le _
noncomputable def gfin(T:RuleT)(R:Str→Int)(n need:Int):Nat→T.St→List Str→List Str→T.St×List Str×List Str
 | 0,s,l,w=>(s,l,w)
 | k+1,s,l,w=>if need≤n - N41.sm R l then (s,l,w) else gfin T R n need k (T.gone n (T.pick n s l).1 (T.pick n s l).2) (l.erase (T.pick n s l).2) (w++[(T.pick n s l).2])
noncomputable def gf(T:RuleT)(R:Str→Int)(n need:Int)(s:T.St)(l w:List Str):T.St×List Str×List Str:=gfin T R n need l.length s l w
section
variable {T:RuleT} {R:Str→Int} {n need:Int} {s:T.St} {l w ns:List Str} {z:Str}
theorem gf_end(h:need≤n - N41.sm R l):gf T R n need s l w=(s,l,w):=by
 unfold gf
 cases hk:l.length with
 | zero=>rfl
 | succ k=>
  show (if _ then _ else _)=_
  rw [if_pos h]
theorem gf_go(h:¬need≤n - N41.sm R l)(hp:(T.pick n s l).2∈l):gf T R n need s l w=gf T R n need (T.gone n (T.pick n s l).1 (T.pick n s l).2) (l.erase (T.pick n s l).2) (w++[(T.pick n s l).2]):=by
 unfold gf
 have hl:=List.length_erase_of_mem hp
 have h0:0 < l.length:=List.length_pos_of_mem hp
 rw [show l.length=(l.erase (T.pick n s l).2).length+1 by omega]
 show (if _ then _ else _)=_
 rw [if_neg h]
theorem gf_pos:∀(k:Nat) (s:T.St) (l w:List Str),l.length=k→T.mid ns n z s l→need≤n→T.mid ns n z (gf T R n need s l w).1 (gf T R n need s l w).2.1∧need≤n - N41.sm R (gf T R n need s l w).2.1∧(∀u∈(gf T R n need s l w).2.1,u∈l)∧(l.Nodup→(gf T R n need s l w).2.1.Nodup)∧(gf T R n need s l w).2.1.length≤l.length:=by
 intro k
 induction k with
 | zero=>
  intro s l w hk hm hn
  have hL:l=[]:=List.length_eq_zero_iff.mp hk
  subst hL
  have he:need≤n - N41.sm R []:=by rw [N41.sm_nil];omega
  rw [gf_end he]
  exact ⟨hm,he,fun z hz=>hz,id,Nat.le_refl _⟩
 | succ k ih=>
  intro s l w hk hm hn
  by_cases he:need≤n - N41.sm R l
  · rw [gf_end he]
    exact ⟨hm,he,fun z hz=>hz,id,Nat.le_refl _⟩
  · have hne:l≠[]:=fun e=>by rw [e]at hk;cases hk
    obtain ⟨hp,hm2⟩:=T.i_pick hm hne
    rw [gf_go he hp]
    have hl:=List.length_erase_of_mem hp
    obtain ⟨a,b,c,d,e⟩:=ih _ _ (w++[(T.pick n s l).2]) (by omega) hm2 hn
    exact ⟨a,b,fun u hu=>List.mem_of_mem_erase (c u hu),fun hnd=>d (hnd.erase _),by omega⟩
end
noncomputable def gask(T:RuleT)(R:Str→Int)(n:Int)(s:T.St×List Str)(z:Str):(T.St×List Str)×N14.Row:=
 if z∈s.2 then ((T.asked n s.1 z,s.2),(z,true,[]))
 else ((T.came n (gf T R n (R z) (T.asked n s.1 z) s.2 []).1 z,(gf T R n (R z) (T.asked n s.1 z) s.2 []).2.1++[z]),(z,false,(gf T R n (R z) (T.asked n s.1 z) s.2 []).2.2))
noncomputable def gst(T:RuleT)(R:Str→Int)(n:Int)(s0:T.St)(ys:List Str)(i:Nat):T.St×List Str:=(ys.take i).foldl (fun s z=>(gask T R n s z).1) (s0,[])
noncomputable def grow(T:RuleT)(R:Str→Int)(n:Int)(s0:T.St)(ys:List Str)(i:Nat):N14.Row:=(gask T R n (gst T R n s0 ys i) (ys.getD i Str.empty)).2
noncomputable def grows(T:RuleT)(R:Str→Int)(n:Int)(s0:T.St)(ys:List Str)(i:Nat):List N14.Row:=(List.range i).map (grow T R n s0 ys)
section
variable {T:RuleT} {R:Str→Int} {n:Int} {s0:T.St} {ys ns:List Str} {i:Nat} {z:Str}
theorem gst_succ(h:ys[i]?=some z):gst T R n s0 ys (i+1)=(gask T R n (gst T R n s0 ys i) z).1:=by
 unfold gst
 rw [List.take_add_one,h,List.foldl_append];rfl
theorem grow_at(h:ys[i]?=some z):grow T R n s0 ys i=(gask T R n (gst T R n s0 ys i) z).2:=by
 unfold grow
 rw [List.getD_eq_getElem?_getD,h];rfl
theorem grows_len:(grows T R n s0 ys i).length=i:=by unfold grows;rw [List.length_map,List.length_range]
theorem mem_eq{u v:Str}{l:List Str}(e:u=v)(h:u∈l):v∈l:=e▸h
structure GI(T:RuleT)(ns:List Str)(n:Int)(s:T.St×List Str):Prop where
 i:T.inv ns n s.1 s.2
 nd:s.2.Nodup
 s:∀u∈s.2,u∈ns
theorem GI.ask{s:T.St×List Str}(h:GI T ns n s)(hz:z∈ns)(hR:R z≤n):GI T ns n (gask T R n s z).1:=by
 unfold gask
 split
 · rename_i hm
   exact ⟨T.i_hit h.i hz hm,h.nd,h.s⟩
 · rename_i hm
   obtain ⟨a,b,c,d,e⟩:=gf_pos (R:=R) _ _ _ [] rfl (T.i_mid h.i hz hm) hR
   have hm2:z∉(gf T R n (R z) (T.asked n s.1 z) s.2 []).2.1:=fun hh=>hm (c z hh)
   refine ⟨T.i_came a hz hm2,?_,fun u hu=>?_⟩
   · show ((gf T R n (R z) (T.asked n s.1 z) s.2 []).2.1++[z]).Nodup
     rw [List.nodup_append]
     refine ⟨d h.nd,by simp,fun y hy u hu e=>hm2 (mem_eq (e.trans (List.mem_singleton.mp hu)) hy)⟩
   · rcases List.mem_append.mp hu with hu | hu
     · exact h.s u (c u hu)
     · rw [List.mem_singleton.mp hu];exact hz
theorem gst_inv(h0:T.inv ns n s0 [])(hin:∀y∈ys,y∈ns)(hR:∀y∈ys,R y≤n):∀i,i≤ys.length→GI T ns n (gst T R n s0 ys i)
 | 0,_=>⟨h0,List.nodup_nil,by simp [gst]⟩
 | i+1,h=>by
  have hz:=List.getElem?_eq_getElem (show i < ys.length by omega)
  have hm:=List.mem_of_getElem? hz
  rw [gst_succ hz]
  exact (gst_inv h0 hin hR i (by omega)).ask (hin _ hm) (hR _ hm)
end
theorem gfin_cnt{T:RuleT}{R:Str→Int}{n need:Int}:∀(k:Nat) (s:T.St) (l w:List Str),T.cnt (gfin T R n need k s l w).1≤T.cnt s:=by
 intro k
 induction k with
 | zero=>intro s l w;exact Nat.le_refl _
 | succ k ih=>
  intro s l w
  unfold gfin
  split
  · exact Nat.le_refl _
  · exact Nat.le_trans (ih _ _ _) (Nat.le_trans (T.c_gone _ _ _) (T.c_pick _ _ _))
theorem gask_cnt{T:RuleT}{R:Str→Int}{n:Int}{s:T.St×List Str}{z:Str}:T.cnt (gask T R n s z).1.1≤T.cnt s.1+1:=by
 unfold gask
 split
 · exact T.c_ask _ _ _
 · exact Nat.le_trans (T.c_came _ _ _) (Nat.le_trans (gfin_cnt _ _ _ _) (T.c_ask _ _ _))
theorem gst_cnt{T:RuleT}{R:Str→Int}{n:Int}{s0:T.St}{ys:List Str}:∀i,i≤ys.length→T.cnt (gst T R n s0 ys i).1≤T.cnt s0+i
 | 0,_=>Nat.le_refl _
 | i+1,h=>by
  have hz:=List.getElem?_eq_getElem (show i < ys.length by omega)
  rw [gst_succ hz]
  have:=gst_cnt (T:=T) (R:=R) (n:=n) (s0:=s0) (ys:=ys) i (by omega)
  have h2:=gask_cnt (T:=T) (R:=R) (n:=n) (s:=gst T R n s0 ys i) (z:=ys[i])
  omega
structure RunG(T:RuleT)(K:PySem.W.Frag)(C S:Addr)(H0 H:Hp)(q p sh d:Addr)(M:List Addr)(n:Int)(ts:List Th)(ls:Ly)(s:T.St):Prop where
 h:T.At H M q p n s
 shf:ShelfAt S H sh p d n ls
 st:StockAt K C H0 p ts
 sm:Same H0 H
 n0:∀m∈M,H0 m=none
 nd:H0 d=none
 nsh:sh∉M
 ndm:d∉M
 ok:OkL (rm ts) (ts.map (·.1)) ls
section
variable {T:RuleT} {K:PySem.W.Frag} {C S:Addr} {H0 H H' H1 H2:Hp} {q p sh d w:Addr} {M:List Addr} {n:Int} {ts:List Th} {ls:Ly} {s s':T.St}
theorem at_same(e:Same H H')(h:T.At H M q p n s):T.At H' M q p n s:=T.dep (fun m _ o=>e m o) h
theorem at_but(e:SameBut d H H')(hd:d∉M)(h:T.At H M q p n s):T.At H' M q p n s:=T.dep (fun m hm o e1=>e m o e1 (fun e2=>hd (e2▸hm))) h
theorem RunG.same(r:RunG T K C S H0 H q p sh d M n ts ls s)(e:Same H H'):RunG T K C S H0 H' q p sh d M n ts ls s:=
 ⟨at_same e r.h,r.shf.same e,r.st,r.sm.trans e,r.n0,r.nd,r.nsh,r.ndm,r.ok⟩
theorem RunG.x(r:RunG T K C S H0 H q p sh d M n ts ls s):StockX K C H p ts d:=(StockX.of r.st r.nd).same r.sm
theorem RunG.left(r:RunG T K C S H0 H q p sh d M n ts ls s):n - lyS ls=n - N41.sm (rm ts) (lyN ls):=by rw [okl_sum (ns:=ts.map (·.1)) r.ok.r]
theorem RunG.rule(r:RunG T K C S H0 H q p sh d M n ts ls s)(k:Kp M H H')(h:T.At H' M q p n s'):RunG T K C S H0 H' q p sh d M n ts ls s':=
 ⟨h,⟨r.shf.o.imp fun _ e=>k _ _ r.nsh e,k _ _ r.ndm r.shf.d,r.shf.nd⟩,r.st,Kp.same r.sm k r.n0,r.n0,r.nd,r.nsh,r.ndm,r.ok⟩
theorem RunG.shelf{ls':Ly}(r:RunG T K C S H0 H q p sh d M n ts ls s)(k:SameBut d H H')(hs:ShelfAt S H' sh p d n ls')(ok:OkL (rm ts) (ts.map (·.1)) ls'):RunG T K C S H0 H' q p sh d M n ts ls' s:=
 ⟨at_but k r.ndm r.h,hs,r.st,but_same r.sm r.nd k,r.n0,r.nd,r.nsh,r.ndm,ok⟩
theorem RunG.lst{zs:List V}(r:RunG T K C S H0 H q p sh d M n ts ls s)(k:SameBut w H H')(hw:H w=some (.lst zs))(hm:w∉M)(h0:H0 w=none):RunG T K C S H0 H' q p sh d M n ts ls s:=
 ⟨at_but k hm r.h,r.shf.butL k hw,r.st,but_same r.sm h0 k,r.n0,r.nd,r.nsh,r.ndm,r.ok⟩
theorem RunG.free{b:Addr}(r:RunG T K C S H0 H q p sh d M n ts ls s)(hb:H b=none):b∉d::M:=fun hm=>by
 rcases List.mem_cons.mp hm with e | e
 · rw [e,r.shf.d]at hb;cases hb
 · exact T.live r.h b e hb
theorem kp_cons{M:List Addr}{d:Addr}{H H':Hp}(k:Kp M H H'):Kp (d::M) H H':=fun b o n e=>k b o (fun h=>n (List.mem_cons_of_mem _ h)) e
theorem SqL_kp{a:Addr}{xs:List V}(h:SqL K H a xs)(k:Kp M H H')(na:a∉M):SqL K H' a xs:=by
 rcases h with (h | ⟨o,h⟩) | h
 · exact .inl (.inl (k _ _ na h))
 · exact .inl (.inr ⟨o,k _ _ na h⟩)
 · exact .inr h
end
noncomputable def spR_asked(T:RuleT):Sp:=fun vs H Q _=>∃(q p:Addr) (n:Int) (M:List Addr) (s:T.St) (l ns:List Str) (z:Str),vs=[.ref q,.str z]∧T.At H M q p n s∧T.inv ns n s l∧z∈ns∧ns.length≤60∧∀H',Kp M H H'→T.At H' M q p n (T.asked n s z)→Q .non H'
noncomputable def spR_choice(T:RuleT)(K:PySem.W.Frag):Sp:=fun vs H Q _=>∃(q p a:Addr) (n:Int) (M:List Addr) (s:T.St) (l ns:List Str) (z:Str),vs=[.ref q,.ref a]∧T.At H M q p n s∧T.mid ns n z s l∧l≠[]∧H a=some (.lst (l.map V.str))∧a∉M∧ns.length≤60∧l.length≤60∧T.cnt s≤300∧∀H',Kp M H H'→T.At H' M q p n (T.pick n s l).1→Q (.str (T.pick n s l).2) H'
noncomputable def spR_gone(T:RuleT):Sp:=fun vs H Q _=>∃(q p:Addr) (n:Int) (M:List Addr) (s:T.St) (l ns:List Str) (z:Str),vs=[.ref q,.str (T.pick n s l).2]∧T.At H M q p n (T.pick n s l).1∧T.mid ns n z s l∧l≠[]∧ns.length≤60∧∀H',Kp M H H'→T.At H' M q p n (T.gone n (T.pick n s l).1 (T.pick n s l).2)→Q .non H'
noncomputable def spR_came(T:RuleT):Sp:=fun vs H Q _=>∃(q p:Addr) (n:Int) (M:List Addr) (s:T.St) (l ns:List Str) (z:Str),vs=[.ref q,.str z]∧T.At H M q p n s∧T.mid ns n z s l∧z∈ns∧z∉l∧ns.length≤60∧∀H',Kp M H H'→T.At H' M q p n (T.came n s z)→Q .non H'
noncomputable def spR_room(T:RuleT)(K:PySem.W.Frag)(C S:Addr):Sp:=fun vs H Q _=>∃(H0:Hp) (q p sh d:Addr) (M:List Addr) (n need:Int) (ts:List Th) (ls:Ly) (s:T.St) (z:Str),vs=[.ref q,.ref sh,.int need]∧RunG T K C S H0 H q p sh d M n ts ls s∧T.mid (ts.map (·.1)) n z s (lyN ls)∧need≤n∧ls.length≤60∧ts.length≤60∧T.cnt s≤300∧
 ∀(w:Addr) (ls':Ly) (H':Hp),Kp (d::M) H H'→H w=none→H' w=some (.lst ((gf T (rm ts) n need s (lyN ls) []).2.2.map V.str))→lyN ls'=(gf T (rm ts) n need s (lyN ls) []).2.1→RunG T K C S H0 H' q p sh d M n ts ls' (gf T (rm ts) n need s (lyN ls) []).1→Q (.ref w) H'
noncomputable def spR_row(T:RuleT)(K:PySem.W.Frag)(C S:Addr):Sp:=fun vs H Q _=>∃(H0:Hp) (q p sh d:Addr) (M:List Addr) (n:Int) (ts:List Th) (ls:Ly) (s:T.St) (z:Str),vs=[.ref q,.ref sh,.str z]∧RunG T K C S H0 H q p sh d M n ts ls s∧T.inv (ts.map (·.1)) n s (lyN ls)∧(ts.map (·.1)).Nodup∧ts.length≤60∧z∈ts.map (·.1)∧rm ts z≤n∧T.cnt s≤299∧
 ∀(t g:Addr) (ls':Ly) (H':Hp),Kp (d::M) H H'→H t=none→H g=none→H' t=some (.tup [.str (gask T (rm ts) n (s,lyN ls) z).2.1,.bl (gask T (rm ts) n (s,lyN ls) z).2.2.1,.ref g])→H' g=some (.lst ((gask T (rm ts) n (s,lyN ls) z).2.2.2.map V.str))→lyN ls'=(gask T (rm ts) n (s,lyN ls) z).1.2→RunG T K C S H0 H' q p sh d M n ts ls' (gask T (rm ts) n (s,lyN ls) z).1.1→Q (.ref t) H'
end NR
namespace L2
noncomputable def tMeth2(C:Bool→Addr)(m:Str)(sp:Bool→Sp)(EE:St→XK)(ta:TE)(t:TA):TE:=fun σ H Q=>ta σ H fun x H1=>∃b a dx fs,x= .ref a∧H1 a=some (.ins (C b) dx fs)∧fs.lookup m=none∧t σ H1 fun vs H2=>sp b (x::vs) H2 Q (EE σ)
section
variable {X:Cx} {CX:CXT} {k j:Nat} {C:Bool→Addr} {ps:List Str} {sp:Bool→Sp} {EE:St→XK} {m:Str} {pos apos:Pos} {e o:Expr} {es:List Expr} {ta:TE} {t:TA}
theorem rd_meth2{σ:St}{H:Hp}{Q:VK}:tMeth2 C m sp EE ta t σ H Q=ta σ H fun x H1=>∃b a dx fs,x= .ref a∧H1 a=some (.ins (C b) dx fs)∧fs.lookup m=none∧t σ H1 fun vs H2=>sp b (x::vs) H2 Q (EE σ):=rfl
end
end L2
namespace N22
open L2 N1 N5 N4 N6 N12 N32 N14 N20 N18 N25 NR
noncomputable def rf0(p:Addr)(n:Int):List (Str×V):=putF "places" (.int n) (putF "stock" (.ref p) [])
noncomputable def rf1(p:Addr)(n k:Int)(la pa:Addr):List (Str×V):=putF "put_at" (.ref pa) (putF "last" (.ref la) (putF "present" (.int k) (rf0 p n)))
theorem headD_mem{l:List Str}(h:l≠[]):l.headD Str.empty∈l:=by
 cases l with
 | nil=>exact absurd rfl h
 | cons x r=>exact List.mem_cons_self ..
structure S1 where
 k:Int
 la:List (Key×V)
 pu:List (Key×V)
noncomputable def pv(s:S1)(z:Str):Int:=match valV s.pu (Sum.inr z) with
 | some (.int i)=>i
 | _=>0
noncomputable def KeysIn(kvs:List (Key×V))(ns:List Str):Prop:=∃ks:List Str,kvs.map (·.1)=ks.map Sum.inr∧ks.Nodup∧∀z∈ks,z∈ns
theorem KeysIn.nil{ns:List Str}:KeysIn [] ns:=⟨[],rfl,List.nodup_nil,by simp⟩
theorem KeysIn.len{kvs:List (Key×V)}{ns:List Str}(h:KeysIn kvs ns):kvs.length≤ns.length:=by
 obtain ⟨ks,e,nd,s⟩:=h
 have:=congrArg List.length e
 rw [List.length_map,List.length_map]at this
 have:=nd_len nd s
 omega
theorem KeysIn.put{kvs:List (Key×V)}{ns:List Str}{z:Str}{v:V}(h:KeysIn kvs ns)(hz:z∈ns):KeysIn (putK kvs (Sum.inr z) v) ns:=by
 obtain ⟨ks,e,nd,s⟩:=h
 refine ⟨if z∈ks then ks else ks++[z],N53.put_both e,?_,?_⟩
 · split
   · exact nd
   · rename_i hn
     rw [List.nodup_append]
     exact ⟨nd,by simp,fun a ha b hb e2=>hn (mem_eq (e2.trans (List.mem_singleton.mp hb)) ha)⟩
 · intro u hu
   split at hu
   · exact s u hu
   · rcases List.mem_append.mp hu with hu | hu
     · exact s u hu
     · rw [List.mem_singleton.mp hu];exact hz
structure FI(ns:List Str)(s:S1)(l:List Str)(B:Int):Prop where
 a:KeysIn s.la ns
 b:KeysIn s.pu ns
 v:∀z∈l,∃i,valV s.pu (Sum.inr z)=some (.int i)∧i≤B
 o:l.Pairwise fun x y=>pv s x < pv s y
theorem pv_at{s:S1}{z:Str}{i:Int}(h:valV s.pu (Sum.inr z)=some (.int i)):pv s z=i:=by unfold pv;rw [h]
noncomputable def f1ask(s:S1)(z:Str):S1:=⟨s.k+1,putK s.la (Sum.inr z) (.int (s.k+1)),s.pu⟩
noncomputable def f1came(s:S1)(z:Str):S1:=⟨s.k,s.la,putK s.pu (Sum.inr z) (.int s.k)⟩
theorem FI.ask{ns:List Str}{s:S1}{l:List Str}{z:Str}{B:Int}(h:FI ns s l B)(hz:z∈ns):FI ns (f1ask s z) l B:=⟨h.a.put hz,h.b,h.v,h.o⟩
theorem FI.mono{ns:List Str}{s:S1}{l:List Str}{B B':Int}(h:FI ns s l B)(hb:B≤B'):FI ns s l B':=⟨h.a,h.b,fun z hz=>(h.v z hz).imp fun _ e=>⟨e.1,Int.le_trans e.2 hb⟩,h.o⟩
theorem FI.drop{ns:List Str}{s:S1}{l:List Str}{z:Str}{B:Int}(h:FI ns s l B):FI ns s (l.erase z) B:=
 ⟨h.a,h.b,fun u hu=>h.v u (List.mem_of_mem_erase hu),h.o.sublist List.erase_sublist⟩
theorem FI.came{ns:List Str}{s:S1}{l:List Str}{z:Str}(h:FI ns s l (s.k - 1))(hz:z∈ns)(hn:z∉l):FI ns (f1came s z) (l++[z]) s.k:=by
 have hne:∀u∈l,(Sum.inr u:Key)≠Sum.inr z:=fun u hu e=>hn (by injection e with e;rw [← e];exact hu)
 have hold:∀u∈l,valV (putK s.pu (Sum.inr z) (.int s.k)) (Sum.inr u)=valV s.pu (Sum.inr u):=fun u hu=>by rw [valV_put,if_neg (hne u hu)]
 have hnew:valV (putK s.pu (Sum.inr z) (.int s.k)) (Sum.inr z)=some (.int s.k):=by rw [valV_put,if_pos rfl]
 have pold:∀u∈l,pv (f1came s z) u=pv s u:=fun u hu=>by
  unfold pv f1came
  simp only
  rw [hold u hu]
 refine ⟨h.a,h.b.put hz,fun u hu=>?_,?_⟩
 · rcases List.mem_append.mp hu with hu | hu
   · obtain ⟨i,e,hi⟩:=h.v u hu
     exact ⟨i,(hold u hu).trans e,by omega⟩
   · rw [List.mem_singleton.mp hu]
     exact ⟨s.k,hnew,Int.le_refl _⟩
 · rw [List.pairwise_append]
   refine ⟨?_,List.pairwise_singleton ..,fun u hu y hy=>?_⟩
   · exact h.o.imp_of_mem fun hx hy hxy=>by rw [pold _ hx,pold _ hy];exact hxy
   · rw [List.mem_singleton]at hy
     rw [hy,pold u hu]
     obtain ⟨i,e,hi⟩:=h.v u hu
     rw [pv_at e,pv_at (s:=f1came s z) hnew]
     omega
noncomputable def FAt(C:Addr)(H:Hp)(M:List Addr)(q p:Addr)(n:Int)(s:S1):Prop:=∃la pa,M=[q,la,pa]∧la≠pa∧(∃dx,H q=some (.ins C dx (rf1 p n s.k la pa)))∧H la=some (.dK s.la)∧H pa=some (.dK s.pu)
noncomputable def T1(C:Addr):RuleT where
 C:=C
 St:=S1
 At:=FAt C
 asked:=fun _ s z=>f1ask s z
 pick:=fun _ s l=>(s,l.headD Str.empty)
 gone:=fun _ s _=>s
 came:=fun _ s z=>f1came s z
 inv:=fun ns _ s l=>FI ns s l s.k
 mid:=fun ns _ _ s l=>FI ns s l (s.k - 1)
 dep:=fun e ⟨la,pa,hM,d,⟨dx,ho⟩,h1,h2⟩=>by
  rw [hM]at e
  exact ⟨la,pa,hM,d,⟨dx,e _ (by simp) _ ho⟩,e _ (by simp) _ h1,e _ (by simp) _ h2⟩
 live:=fun ⟨la,pa,hM,d,⟨dx,ho⟩,h1,h2⟩ m hm e=>by
  rw [hM]at hm
  simp only [List.mem_cons,List.not_mem_nil,or_false]at hm
  rcases hm with e1 | e1 | e1
  · rw [e1,ho]at e;cases e
  · rw [e1,h1]at e;cases e
  · rw [e1,h2]at e;cases e
 obj:=fun ⟨la,pa,hM,d,⟨dx,ho⟩,h1,h2⟩=>⟨dx,_,ho,by rfl,by rfl,by rfl,by rfl,by rfl,by rfl,by rfl⟩
 i_hit:=fun {ns n s l z} h hz _=>(FI.ask h hz).mono (show s.k≤s.k+1 by omega)
 i_mid:=fun {ns n s l z} h hz _=>(FI.ask h hz).mono (show s.k≤s.k+1 - 1 by omega)
 i_pick:=fun h hl=>⟨headD_mem hl,FI.drop h⟩
 i_came:=fun h hz hn=>FI.came h hz hn
theorem best_head{kf:Nat→List Int}{v:Nat→Int}{m:Nat}(hk:∀i,i≤m→kf i=[v i])(ho:∀i,i≤m→v 0≤v i):argBest (btK kf) m=0:=by
 have:∀j,j≤m→argBest (btK kf) j=0:=by
  intro j
  induction j with
  | zero=>intro _;rfl
  | succ j ih=>
   intro hj
   show (if btK kf (j+1) (argBest (btK kf) j)=true then j+1 else argBest (btK kf) j)=0
   rw [ih (by omega)]
   have:btK kf (j+1) 0=false:=by
    unfold btK
    rw [hk _ hj,hk 0 (by omega)]
    show (if v (j+1)=v 0 then false else decide (v (j+1) < v 0))=false
    have:=ho (j+1) hj
    split
    · rfl
    · exact decide_eq_false (by omega)
   rw [this];rfl
 exact this m (Nat.le_refl _)
noncomputable def sp22_init(C:Addr):Sp:=fun vs H Q _=>∃(q dx p:Addr) (n:Int),vs=[.ref q,.ref p,.int n]∧H q=some (.ins C dx [])∧1≤n∧n≤1000000∧∀H' la pa,SameBut q H H'→H la=none→H pa=none→FAt C H' [q,la,pa] q p n ⟨0,[],[]⟩→Q .non H'
noncomputable def sp22_number(C:Addr):Sp:=fun vs H Q _=>∃(q p:Addr) (n:Int) (M:List Addr) (s:S1) (z:Str),vs=[.ref q,.str z]∧FAt C H M q p n s∧s.la.length≤1000∧∀H',Kp M H H'→FAt C H' M q p n (f1ask s z)→Q .non H'
noncomputable def sp22_rank(C:Addr):Sp:=fun vs H Q _=>∃(q p:Addr) (n:Int) (M:List Addr) (s:S1) (z:Str) (i:Int),vs=[.ref q,.str z]∧FAt C H M q p n s∧valV s.pu (Sum.inr z)=some (.int i)∧∀t,H t=none→Q (.ref t) (upd H t (.tup [.int i]))
section
variable {p la pa:Addr} {n k k':Int}
theorem rf1_len:(rf1 p n k la pa).length=5:=by rfl
theorem rf1_present:(rf1 p n k la pa).lookup ("present":Str)=some (V.int k):=by rfl
theorem rf1_last:(rf1 p n k la pa).lookup ("last":Str)=some (V.ref la):=by rfl
theorem rf1_put:(rf1 p n k la pa).lookup ("put_at":Str)=some (V.ref pa):=by rfl
end
end N22
namespace N21
open L2 N1 N5 N4 N6 N12 N32 N14 N20 N18 N25 NR N22
structure S2 where
 k:Int
 la:List (Key×V)
noncomputable def lv(s:S2)(z:Str):Int:=match valV s.la (Sum.inr z) with
 | some (.int i)=>i
 | _=>0
theorem lv_at{s:S2}{z:Str}{i:Int}(h:valV s.la (Sum.inr z)=some (.int i)):lv s z=i:=by unfold lv;rw [h]
noncomputable def lmin(v:Str→Int)(l:List Str):Str:=l.getD (argBest (fun i j=>decide (v (l.getD i Str.empty) < v (l.getD j Str.empty))) (l.length - 1)) Str.empty
theorem lmin_ok{v:Str→Int}{l:List Str}(h:l≠[]):lmin v l∈l∧∀u∈l,v (lmin v l)≤v u:=by
 have hl0:0 < l.length:=List.length_pos_iff.mpr h
 have hb:=best_lt (fun i=>v (l.getD i Str.empty)) (l.length - 1)
 unfold lmin
 generalize argBest (fun i j=>decide (v (l.getD i Str.empty) < v (l.getD j Str.empty))) (l.length - 1)=m at hb
 have hm:m < l.length:=by omega
 refine ⟨?_,fun u hu=>?_⟩
 · rw [List.getD_eq_getElem?_getD,List.getElem?_eq_getElem hm];exact List.getElem_mem hm
 · obtain ⟨j,hj⟩:=List.mem_iff_getElem?.mp hu
   have hjl:=(List.getElem?_eq_some_iff.mp hj).1
   have:=hb.2 j (by omega)
   rw [show l.getD j Str.empty=u by rw [List.getD_eq_getElem?_getD,hj];rfl]at this
   exact this
structure LI(ns:List Str)(s:S2)(l:List Str):Prop where
 a:KeysIn s.la ns
 v:∀z∈l,∃i,valV s.la (Sum.inr z)=some (.int i)∧i≤s.k
 o:l.Pairwise fun x y=>lv s x≠lv s y
noncomputable def ask2(s:S2)(z:Str):S2:=⟨s.k+1,putK s.la (Sum.inr z) (.int (s.k+1))⟩
theorem ask_old{s:S2}{z u:Str}(h:u≠z):valV (ask2 s z).la (Sum.inr u)=valV s.la (Sum.inr u):=by
 unfold ask2;simp only;rw [valV_put,if_neg (inr_ne' h)]
theorem ask_new{s:S2}{z:Str}:valV (ask2 s z).la (Sum.inr z)=some (.int (s.k+1)):=by
 unfold ask2;simp only;rw [valV_put,if_pos rfl]
theorem lv_old{s:S2}{z u:Str}(h:u≠z):lv (ask2 s z) u=lv s u:=by unfold lv;rw [ask_old h]
theorem lv_new{s:S2}{z:Str}:lv (ask2 s z) z=s.k+1:=lv_at ask_new
theorem LI.le{ns:List Str}{s:S2}{l:List Str}(h:LI ns s l):∀z∈l,lv s z≤s.k:=fun z hz=>by
 obtain ⟨i,e,hi⟩:=h.v z hz
 rw [lv_at e];exact hi
theorem LI.ask{ns:List Str}{s:S2}{l:List Str}{z:Str}(h:LI ns s l)(hz:z∈ns):LI ns (ask2 s z) l:=by
 refine ⟨h.a.put hz,fun u hu=>?_,h.o.imp_of_mem fun {x y} hx hy hxy=>?_⟩
 · by_cases e:u=z
   · rw [e];exact ⟨_,ask_new,Int.le_refl _⟩
   · obtain ⟨i,e1,e2⟩:=h.v u hu
     exact ⟨i,(ask_old e).trans e1,by show i≤s.k+1;omega⟩
 · have lx:=h.le x hx
   have ly:=h.le y hy
   by_cases ex:x=z
   · by_cases ey:y=z
     · exact absurd (by rw [ex,ey]) hxy
     · rw [ex,lv_new,lv_old ey];omega
   · by_cases ey:y=z
     · rw [ey,lv_new,lv_old ex];omega
     · rw [lv_old ex,lv_old ey];exact hxy
theorem LI.drop{ns:List Str}{s:S2}{l:List Str}{z:Str}(h:LI ns s l):LI ns s (l.erase z):=
 ⟨h.a,fun u hu=>h.v u (List.mem_of_mem_erase hu),h.o.sublist List.erase_sublist⟩
structure LM(ns:List Str)(z:Str)(s:S2)(l:List Str):Prop where
 i:LI ns s l
 z:valV s.la (Sum.inr z)=some (.int s.k)
 b:∀u∈l,lv s u < s.k
theorem LI.mid{ns:List Str}{s:S2}{l:List Str}{z:Str}(h:LI ns s l)(hz:z∈ns)(hn:z∉l):LM ns z (ask2 s z) l:=
 ⟨h.ask hz,ask_new,fun u hu=>by
  have:=h.le u hu
  have e:lv (ask2 s z) u=lv s u:=lv_old (fun e=>hn (by rw [← e];exact hu))
  show lv (ask2 s z) u < s.k+1
  omega⟩
theorem LM.came{ns:List Str}{s:S2}{l:List Str}{z:Str}(h:LM ns z s l):LI ns s (l++[z]):=by
 refine ⟨h.i.a,fun u hu=>?_,?_⟩
 · rcases List.mem_append.mp hu with hu | hu
   · exact h.i.v u hu
   · rw [List.mem_singleton.mp hu];exact ⟨_,h.z,Int.le_refl _⟩
 · rw [List.pairwise_append]
   refine ⟨h.i.o,List.pairwise_singleton ..,fun u hu y hy=>?_⟩
   rw [List.mem_singleton.mp hy,lv_at h.z]
   have:=h.b u hu
   omega
noncomputable def rf2(p:Addr)(n k:Int)(la:Addr):List (Str×V):=putF "last" (.ref la) (putF "present" (.int k) (rf0 p n))
noncomputable def OAt(C:Addr)(H:Hp)(M:List Addr)(q p:Addr)(n:Int)(s:S2):Prop:=∃la,M=[q,la]∧(∃dx,H q=some (.ins C dx (rf2 p n s.k la)))∧H la=some (.dK s.la)
noncomputable def T2(C:Addr):RuleT where
 C:=C
 St:=S2
 At:=OAt C
 asked:=fun _ s z=>ask2 s z
 pick:=fun _ s l=>(s,lmin (lv s) l)
 gone:=fun _ s _=>s
 came:=fun _ s _=>s
 inv:=fun ns _ s l=>LI ns s l
 mid:=fun ns _ z s l=>LM ns z s l
 dep:=fun e ⟨la,hM,⟨dx,ho⟩,h1⟩=>by
  rw [hM]at e
  exact ⟨la,hM,⟨dx,e _ (by simp) _ ho⟩,e _ (by simp) _ h1⟩
 live:=fun ⟨la,hM,⟨dx,ho⟩,h1⟩ m hm e=>by
  rw [hM]at hm
  simp only [List.mem_cons,List.not_mem_nil,or_false]at hm
  rcases hm with e1 | e1
  · rw [e1,ho]at e;cases e
  · rw [e1,h1]at e;cases e
 obj:=fun ⟨la,hM,⟨dx,ho⟩,h1⟩=>⟨dx,_,ho,by rfl,by rfl,by rfl,by rfl,by rfl,by rfl,by rfl⟩
 i_hit:=fun h hz _=>LI.ask h hz
 i_mid:=fun h hz hn=>LI.mid h hz hn
 i_pick:=fun h hl=>⟨(lmin_ok hl).1,LI.drop h.i,h.z,fun u hu=>h.b u (List.mem_of_mem_erase hu)⟩
 i_came:=fun h _ _=>LM.came h
noncomputable def s20:S2:=⟨0,[]⟩
noncomputable def spR_bookN(T:RuleT)(K:PySem.W.Frag)(C S:Addr):Sp:=fun vs H Q _=>∃(H0:Hp) (q p a:Addr) (M:List Addr) (n:Int) (ts:List Th) (ys:List Str) (s0:T.St),vs=[.ref q,.ref a]∧T.At H M q p n s0∧T.inv (ts.map (·.1)) n s0 []∧StockAt K C H0 p ts∧Same H0 H∧(∀m∈M,H0 m=none)∧(ts.map (·.1)).Nodup∧ts.length≤60∧SqL K H a (ys.map V.str)∧a∉M∧ys.length≤200∧(∀y∈ys,y∈ts.map (·.1))∧(∀y∈ys,rm ts y≤n)∧1≤n∧n≤1000000∧T.cnt s0≤50∧
 ∀(b:Addr) (as gs:List Addr) (H':Hp),Kp M H H'→H' b=some (.lst (as.map V.ref))→(∀(i:Nat) a,as[i]?=some a→∃xs,H' a=some (.tup xs))→BookAt K H' b as gs (grows T (rm ts) n s0 ys ys.length)→T.At H' M q p n (gst T (rm ts) n s0 ys ys.length).1→H b=none→b∉gs→gs.Nodup→(∀(i:Nat) a g,as[i]?=some a→gs[i]?=some g→H a=none∧H g=none∧g∉M∧H' a=some (.tup [.str (NR.grow T (rm ts) n s0 ys i).1,.bl (NR.grow T (rm ts) n s0 ys i).2.1,.ref g])∧H' g=some (.lst ((NR.grow T (rm ts) n s0 ys i).2.2.map V.str)))→Q (.ref b) H'
end N21
namespace N24
open L2 N1 N5 N4 N6 N12 N32 N14 N20 N18 N25 NR N22 N21
end N24
namespace L2
noncomputable def rDictOf:List V→Hp→VK→Prop:=fun xs H Q=>∃a kvs,xs=[.ref a]∧H a=some (.dK kvs)∧∀l,H l=none→Q (.ref l) (upd H l (.dK kvs))
section
variable {H:Hp} {Q:VK} {x:V} {xs:List V}
theorem rd_dictOf:rDictOf xs H Q=∃a kvs,xs=[.ref a]∧H a=some (.dK kvs)∧∀l,H l=none→Q (.ref l) (upd H l (.dK kvs)):=rfl
end
end L2
namespace L2
section
variable {P:Program} {w:World} {K:PySem.W.Frag} {mg:Str→Option Value} {base:Heap} {x qual:Str} {st:Stmt} {f:Addr} {fd:FuncData} {dv:List Value} {N ps:List Str} {k:Nat} {sp:Sp}
noncomputable def gV31:List V→List V→List V
 | [a,b,c],[d]=>[a,b,c,d]
 | _,_=>[]
theorem gV31_at{a b c d:V}:gV31 [a,b,c] [d]=[a,b,c,d]:=rfl
end
noncomputable def tMakeD(C:Addr)(sp:Sp)(dvs:List V)(EE:St→XK)(t:TA):TE:=fun σ H Q=>t σ H fun vs H1=>∀x dx,H1 x=none→H1 dx=none→dx≠x→sp (.ref x::(vs++dvs)) (upd (upd H1 dx (.own x)) x (.ins C dx [])) (fun v H2=>v= .non∧Q (.ref x) H2) (EE σ)
noncomputable def tMakeK(C:Addr)(sp:Sp)(EE:St→XK)(t tk:TA):TE:=fun σ H Q=>t σ H fun vs H1=>tk σ H1 fun zs H2=>∀x dx,H2 x=none→H2 dx=none→dx≠x→sp (gV31 (.ref x::vs) zs) (upd (upd H2 dx (.own x)) x (.ins C dx [])) (fun v H3=>v= .non∧Q (.ref x) H3) (EE σ)
section
variable {X:Cx} {CX:CXT} {k j:Nat} {f C:Addr} {fd:FuncData} {ps:List Str} {sp:Sp} {EE:St→XK} {x kn:Str} {p pos kpos:Pos} {e ke:Expr} {es:List Expr} {kws:List Keyword} {t tk:TA} {te:TE} {dvs:List V}
theorem rd_makeD{σ:St}{H:Hp}{Q:VK}:tMakeD C sp dvs EE t σ H Q=t σ H fun vs H1=>∀x dx,H1 x=none→H1 dx=none→dx≠x→sp (.ref x::(vs++dvs)) (upd (upd H1 dx (.own x)) x (.ins C dx [])) (fun v H2=>v= .non∧Q (.ref x) H2) (EE σ):=rfl
theorem rd_makeK{σ:St}{H:Hp}{Q:VK}:tMakeK C sp EE t tk σ H Q=t σ H fun vs H1=>tk σ H1 fun zs H2=>∀x dx,H2 x=none→H2 dx=none→dx≠x→sp (gV31 (.ref x::vs) zs) (upd (upd H2 dx (.own x)) x (.ins C dx [])) (fun v H3=>v= .non∧Q (.ref x) H3) (EE σ):=rfl
end
end L2
namespace N23
open L2 N1 N5 N4 N6 N12 N32 N14 N20 N18 N25 NR N22 N21 N24
end N23
namespace L2
noncomputable def tMethI{ι:Type}(C:ι→Addr)(m:Str)(sp:ι→Sp)(EE:St→XK)(ta:TE)(t:TA):TE:=fun σ H Q=>ta σ H fun x H1=>∃b a dx fs,x= .ref a∧H1 a=some (.ins (C b) dx fs)∧fs.lookup m=none∧t σ H1 fun vs H2=>sp b (x::vs) H2 Q (EE σ)
section
variable {ι:Type} {X:Cx} {CX:CXT} {k j:Nat} {C:ι→Addr} {ps:List Str} {sp:ι→Sp} {EE:St→XK} {m:Str} {pos apos:Pos} {e o:Expr} {es:List Expr} {ta:TE} {t:TA}
theorem rd_methI{σ:St}{H:Hp}{Q:VK}:tMethI C m sp EE ta t σ H Q=ta σ H fun x H1=>∃b a dx fs,x= .ref a∧H1 a=some (.ins (C b) dx fs)∧fs.lookup m=none∧t σ H1 fun vs H2=>sp b (x::vs) H2 Q (EE σ):=rfl
end
noncomputable def rNeDD:R2:=fun x y H Q=>∃a b kvs,x= .ref a∧y= .ref b∧H a=some (.dK kvs)∧H b=some (.dK kvs)∧(∀p∈kvs,flatV p.2=true)∧Q (.bl false) H
section
variable {X:Cx}
theorem rd_neDD{x y:V}{H:Hp}{Q:VK}:rNeDD x y H Q=∃a b kvs,x= .ref a∧y= .ref b∧H a=some (.dK kvs)∧H b=some (.dK kvs)∧(∀p∈kvs,flatV p.2=true)∧Q (.bl false) H:=rfl
end
end L2
namespace L2
open PySem.W
noncomputable def rIsiO(K:PySem.W.Frag):List V→Hp→VK→Prop:=fun xs H Q=>∃(p C dx D:Addr) (fs:List (Str×V)),xs=[.ref p,.ref D]∧H p=some (.ins C dx fs)∧PySem.W.kitOne K (.ref C) (.ref D)=some true∧Q (.bl true) H
theorem rd_isiO{K:PySem.W.Frag}{xs:List V}{H:Hp}{Q:VK}:rIsiO K xs H Q=∃(p C dx D:Addr) (fs:List (Str×V)),xs=[.ref p,.ref D]∧H p=some (.ins C dx fs)∧PySem.W.kitOne K (.ref C) (.ref D)=some true∧Q (.bl true) H:=rfl
end L2
namespace L2
noncomputable def rSortS(K:PySem.W.Frag):List V→Hp→VK→Prop:=fun xs H Q=>∃(p:Addr) (ys:List Str),xs=[.ref p]∧SqL K H p (ys.map V.str)∧ys.length < 64∧∀(q:Addr) (zs:List Str),H q=none→zs.Perm ys→sortedS zs=true→Q (.ref q) (upd H q (.lst (zs.map V.str)))
theorem sorS_in{ys:List Str}:∀{us:List Value},Vals (ys.map V.str) us→StrsAre us ys:=by
 induction ys with
 | nil=>intro us h;cases h;exact .nil
 | cons y r ih=>
  intro us h
  cases h with
  | cons a b=>
   obtain ⟨t,rfl⟩:=a
   exact .cons y t (ih b)
theorem sorS_out{ys:List Str}{us:List Value}(h:StrsAre us ys):Vals (ys.map V.str) us:=by
 induction h with
 | nil=>exact .nil
 | cons y t _ ih=>exact .cons ⟨t,rfl⟩ ih
section
variable {X:Cx}
theorem call_sortS:CallR X (.builtin "sorted") (rSortS X.K):=by
 intro pins s σ H xs us Q I r h
 obtain ⟨p,ys,rfl,hp,hl,q⟩:=h
 obtain ⟨u,rfl,rx⟩:=vals1 r
 cases rx
 obtain ⟨its,rel,pl,hz⟩:=I.list hp
 have hsa:=sorS_in rel
 have hlen:=rel.length
 rw [List.length_map]at hlen
 refine sorted_strs pl.isList hsa (by omega) fun out ss' a1 a2 a3=>?_
 obtain ⟨e,he⟩:=sortedAll_at s.heap its out
 have hv:=sorS_out a1
 have hol:=hv.length
 rw [List.length_map,a2.length_eq]at hol
 have hnone:H (s.heap.objs.size+1)=none:=I.hok.fresh (Nat.le_succ _)
 refine ⟨.ref (s.heap.objs.size+1),_,I.laid (t':=s.toks) (fun b u q=>sortedAll_old q) (Nat.le_succ _) (show ObjOk X.prog X.w _ (sortedAll s.heap its out) _ (.lst (ss'.map V.str)) from ⟨?_,out.toList,e,hv,?_⟩),rfl,q _ ss' hnone a2 a3⟩
 · rw [List.length_map,a2.length_eq];exact Nat.le_trans (Nat.le_of_lt hl) (by rw [sizeLine_eq];decide)
 · rw [Array.toArray_toList];exact he
end
theorem rd_sortS{K:PySem.W.Frag}{xs:List V}{H:Hp}{Q:VK}:rSortS K xs H Q=∃(p:Addr) (ys:List Str),xs=[.ref p]∧SqL K H p (ys.map V.str)∧ys.length < 64∧∀(q:Addr) (zs:List Str),H q=none→zs.Perm ys→sortedS zs=true→Q (.ref q) (upd H q (.lst (zs.map V.str))):=rfl
end L2
namespace N26
open L2 N1 N5 N4 N6 N12 N32 N14 N20 N18 N25 NR
structure R4 where
 a:List Str
 b:List Str
 p:List Str
 q:List Str
 k:Int
 r:Bool
noncomputable def l4(s:R4)(j:Nat):List Str:=match j with
 | 0=>s.a
 | 1=>s.b
 | 2=>s.p
 | _=>s.q
end N26
namespace N28
open L2 N1 N5 N4 N6 N12 N32 N14 N20 N18 N25 NR N22 N21 N24 N23 N26
structure H6 where
 L:List Str
 k:List (Key×V)
noncomputable def hrot:Nat→H6→H6
 | 0,s=>s
 | m+1,s=>match s.L with
  | []=>s
  | f::r=>if (valV s.k (Sum.inr f)).isSome=true then hrot m ⟨r++[f],dropK s.k (Sum.inr f)⟩ else s
noncomputable def hpk(s:H6):H6:=hrot s.k.length s
theorem hrot_cons{m:Nat}{f:Str}{r:List Str}{k:List (Key×V)}:hrot (m+1) ⟨f::r,k⟩=if (valV k (Sum.inr f)).isSome=true then hrot m ⟨r++[f],dropK k (Sum.inr f)⟩ else ⟨f::r,k⟩:=rfl
theorem KeysIn.drop{kvs:List (Key×V)}{ns:List Str}{z:Str}(h:KeysIn kvs ns):KeysIn (dropK kvs (Sum.inr z)) ns:=by
 obtain ⟨ks,e,nd,s⟩:=h
 refine ⟨ks.filter (fun u=>decide (u≠z)),?_,nd.filter _,fun u hu=>s u (List.mem_filter.mp hu).1⟩
 unfold dropK
 clear nd s
 induction kvs generalizing ks with
 | nil=>cases ks with
  | nil=>rfl
  | cons a b=>cases e
 | cons p q ih=>
  cases ks with
  | nil=>cases e
  | cons a b=>
   rw [List.map_cons,List.map_cons]at e
   obtain ⟨e1,e2⟩:=List.cons.inj e
   have:=ih b e2
   by_cases ha:a=z
   · rw [List.filter_cons_of_neg (by rw [e1,ha];simp),List.filter_cons_of_neg (by rw [ha];simp)];exact this
   · rw [List.filter_cons_of_pos (by rw [e1];simp [ha]),List.filter_cons_of_pos (by simp [ha]),List.map_cons,List.map_cons,this,e1]
structure HI6(ns:List Str)(s:H6)(l:List Str):Prop where
 k:KeysIn s.k ns
 p:s.L.Perm l
 nd:s.L.Nodup
 s:∀u∈s.L,u∈ns
theorem hrot_inv{ns l:List Str}:∀(m:Nat) (s:H6),HI6 ns s l→HI6 ns (hrot m s) l:=by
 intro m
 induction m with
 | zero=>exact fun s h=>h
 | succ m ih=>
  intro s h
  obtain ⟨L,k⟩:=s
  cases L with
  | nil=>exact h
  | cons f r=>
   rw [hrot_cons]
   split
   · have hp:(r++[f]).Perm (f::r):=List.perm_append_singleton ..
     exact ih _ ⟨KeysIn.drop h.k,hp.trans h.p,hp.nodup_iff.mpr h.nd,fun u hu=>h.s u (hp.mem_iff.mp hu)⟩
   · exact h
noncomputable def HkAt(C:Addr)(H:Hp)(M:List Addr)(q p:Addr)(n:Int)(s:H6):Prop:=∃od md,M=[q,od,md]∧(∃dx,H q=some (.ins C dx (hfl p od md n)))∧H od=some (.lst (s.L.map V.str))∧H md=some (.dK s.k)
noncomputable def ask6(s:H6)(z:Str):H6:=if z∈s.L then ⟨s.L,putK s.k (Sum.inr z) (.bl true)⟩ else s
noncomputable def T6(C:Addr):RuleT where
 C:=C
 St:=H6
 At:=HkAt C
 asked:=fun _ s z=>ask6 s z
 pick:=fun _ s _=>(hpk s,(hpk s).L.headD Str.empty)
 gone:=fun _ s z=>⟨s.L.erase z,s.k⟩
 came:=fun _ s z=>⟨s.L++[z],putK s.k (Sum.inr z) (.bl true)⟩
 inv:=fun ns _ s l=>HI6 ns s l
 mid:=fun ns _ _ s l=>HI6 ns s l
 dep:=fun e ⟨od,md,hM,⟨dx,ho⟩,h1,h2⟩=>by
  subst hM
  exact ⟨od,md,rfl,⟨dx,e _ (by simp) _ ho⟩,e _ (by simp) _ h1,e _ (by simp) _ h2⟩
 live:=fun ⟨od,md,hM,⟨dx,ho⟩,h1,h2⟩ m hm e=>by
  subst hM
  simp only [List.mem_cons,List.not_mem_nil,or_false]at hm
  rcases hm with e1 | e1 | e1
  · rw [e1,ho]at e;cases e
  · rw [e1,h1]at e;cases e
  · rw [e1,h2]at e;cases e
 obj:=fun ⟨od,md,hM,⟨dx,ho⟩,h1,h2⟩=>⟨dx,_,ho,hfl_stock,hfl_places,by rfl,by rfl,by rfl,by rfl,by rfl⟩
 i_hit:=fun {ns n s l z} h hn hz=>by
  show HI6 ns (ask6 s z) l
  unfold ask6
  split
  · exact ⟨h.k.put hn,h.p,h.nd,h.s⟩
  · exact h
 i_mid:=fun {ns n s l z} h hn hz=>by
  show HI6 ns (ask6 s z) l
  unfold ask6
  split
  · exact ⟨h.k.put hn,h.p,h.nd,h.s⟩
  · exact h
 i_pick:=fun {ns n s l z} h hl=>by
  have h2:HI6 ns (hpk s) l:=hrot_inv _ _ h
  have hm:(hpk s).L.headD Str.empty∈(hpk s).L:=by
   cases e:(hpk s).L with
   | nil=>have:=h2.p;rw [e]at this;exact absurd (List.nil_perm.mp this) hl
   | cons f r=>exact List.mem_cons_self ..
  exact ⟨h2.p.mem_iff.mp hm,h2.k,h2.p.erase _,h2.nd.erase _,fun u hu=>h2.s u (List.mem_of_mem_erase hu)⟩
 i_came:=fun {ns n s l z} h hn hz=>by
  refine ⟨h.k.put hn,h.p.append_right _,?_,fun u hu=>?_⟩
  · show (s.L++[z]).Nodup
    rw [List.nodup_append]
    refine ⟨h.nd,by simp,fun a ha b hb e=>hz (h.p.mem_iff.mp ?_)⟩
    rw [List.mem_singleton]at hb
    rw [← hb,← e];exact ha
  · rcases List.mem_append.mp hu with hu | hu
    · exact h.s u hu
    · rw [List.mem_singleton.mp hu];exact hn
noncomputable def s60:H6:=⟨[],[]⟩
theorem hi60{ns:List Str}:HI6 ns s60 []:=⟨KeysIn.nil,List.Perm.refl _,List.nodup_nil,by simp [s60]⟩
noncomputable def sp28_rinit(K:PySem.W.Frag):Sp:=fun vs H Q _=>∃(X q dx p:Addr) (n:Int),vs=[.ref q,.ref p,.int n]∧H q=some (.ins X dx [])∧Cls K X∧NoAttr K X "stock"∧NoAttr K X "places"∧1≤n∧n≤1000000∧∀H',SameBut q H H'→H' q=some (.ins X dx (rf0 p n))→Q .non H'
noncomputable def sp28_kinit(K:PySem.W.Frag):Sp:=fun vs H Q _=>∃(X q dx p:Addr) (n:Int),vs=[.ref q,.ref p,.int n]∧H q=some (.ins X dx [])∧Cls K X∧(NoAttr K X "stock"∧NoAttr K X "places")∧NoAttr K X "present"∧NoAttr K X "last"∧1≤n∧n≤1000000∧∀H' la,SameBut q H H'→H la=none→la≠q→H' q=some (.ins X dx (rf2 p n 0 la))→H' la=some (.dK [])→Q .non H'
inductive Wk(R:Str→Int)(n need:Int):List Str→List Str→List Str→Prop
 | nil {l:List Str} (h:need≤n - N41.sm R l):Wk R n need l [] l
 | cons {l w l':List Str} {x:Str} (hx:x∈l) (h:¬need≤n - N41.sm R l) (t:Wk R n need (l.erase x) w l'):Wk R n need l (x::w) l'
theorem gf_walk{T:RuleT}{R:Str→Int}{n need:Int}{z:Str}{ns:List Str}:∀(k:Nat) (s:T.St) (l w:List Str),l.length=k→T.mid ns n z s l→need≤n→∃v,(gf T R n need s l w).2.2=w++v∧Wk R n need l v (gf T R n need s l w).2.1:=by
 intro k
 induction k with
 | zero=>
  intro s l w hk hm hn
  have hL:l=[]:=List.length_eq_zero_iff.mp hk
  subst hL
  have he:need≤n - N41.sm R []:=by rw [N41.sm_nil];omega
  rw [gf_end he]
  exact ⟨[],(List.append_nil _).symm,.nil he⟩
 | succ k ih=>
  intro s l w hk hm hn
  by_cases he:need≤n - N41.sm R l
  · rw [gf_end he]
    exact ⟨[],(List.append_nil _).symm,.nil he⟩
  · have hne:l≠[]:=fun e=>by rw [e]at hk;cases hk
    obtain ⟨hp,hm2⟩:=T.i_pick hm hne
    rw [gf_go he hp]
    have hl:=List.length_erase_of_mem hp
    obtain ⟨v,e1,e2⟩:=ih _ _ (w++[(T.pick n s l).2]) (by omega) hm2 hn
    exact ⟨(T.pick n s l).2::v,by rw [e1,List.append_assoc];rfl,.cons hp he e2⟩
noncomputable def RowW(R:Str→Int)(n:Int)(l:List Str)(z:Str)(b:Bool)(w l':List Str):Prop:=(b=true∧z∈l∧w=[]∧l'=l)∨(b=false∧z∉l∧∃l1,Wk R n (R z) l w l1∧l'=l1++[z])
theorem gask_row{T:RuleT}{R:Str→Int}{n:Int}{z:Str}{ns:List Str}{s:T.St×List Str}(h:GI T ns n s)(hz:z∈ns)(hR:R z≤n):(gask T R n s z).2.1=z∧RowW R n s.2 z (gask T R n s z).2.2.1 (gask T R n s z).2.2.2 (gask T R n s z).1.2:=by
 unfold gask
 split
 · rename_i hm
   exact ⟨rfl,.inl ⟨rfl,hm,rfl,rfl⟩⟩
 · rename_i hm
   obtain ⟨v,e1,e2⟩:=gf_walk (R:=R) (need:=R z) _ _ _ [] rfl (T.i_mid h.i hz hm) hR
   refine ⟨rfl,.inr ⟨rfl,hm,_,?_,rfl⟩⟩
   show Wk R n (R z) s.2 (gf T R n (R z) (T.asked n s.1 z) s.2 []).2.2 _
   rw [e1];exact e2
theorem Wk.ly{R:Str→Int}{n need:Int}{ns:List Str}{z:Str}{l w l':List Str}(h:Wk R n need l w l'):∀{ls:Ly},OkL R ns ls→lyN ls=l→z∉l→lyN (lyDs ls w)=l'∧okG z ls w∧need≤n - N41.sm R l':=by
 induction h with
 | nil h=>intro ls _ e _;exact ⟨e,trivial,h⟩
 | cons hx h t ih=>
  rename_i l0 w0 l1 x
  intro ls ok e hz
  have e2:lyN (lyD ls x)=l0.erase x:=by rw [lyD_names ok.nd,e]
  obtain ⟨a,b,c⟩:=ih ok.drop e2 (fun hh=>hz (List.mem_of_mem_erase hh))
  exact ⟨a,⟨fun ez=>hz (ez▸hx),by rw [e];exact hx,b⟩,c⟩
section
variable {T:RuleT} {R:Str→Int} {n:Int} {s0:T.St} {ys ns:List Str}
theorem grows_at{i:Nat}(h:i < ys.length):(grows T R n s0 ys ys.length)[i]?=some (grow T R n s0 ys i):=by unfold grows;rw [List.getElem?_map,List.getElem?_range h];rfl
theorem gl_st(h0:T.inv ns n s0 [])(hin:∀y∈ys,y∈ns)(hR:∀y∈ys,R y≤n):∀i,i≤ys.length→OkL R ns (stL R ys (grows T R n s0 ys ys.length) i)∧lyN (stL R ys (grows T R n s0 ys ys.length) i)=(gst T R n s0 ys i).2∧(∀z r,i < ys.length→ys[i]?=some z→(grows T R n s0 ys ys.length)[i]?=some r→okRow R n (stL R ys (grows T R n s0 ys ys.length) i) z r):=by
 have row:∀i,i < ys.length→OkL R ns (stL R ys (grows T R n s0 ys ys.length) i)→lyN (stL R ys (grows T R n s0 ys ys.length) i)=(gst T R n s0 ys i).2→∀z,ys[i]?=some z→okRow R n (stL R ys (grows T R n s0 ys ys.length) i) z (grow T R n s0 ys i)∧lyN (stepL R (stL R ys (grows T R n s0 ys ys.length) i) z (grow T R n s0 ys i).2.2)=(gst T R n s0 ys (i+1)).2:=by
  intro i hi ok e z hz
  have hm:=List.mem_of_getElem? hz
  have gi:=gst_inv (T:=T) (R:=R) h0 hin hR i (by omega)
  rw [gst_succ hz,grow_at hz]
  obtain ⟨e1,hw⟩:=gask_row gi (hin z hm) (hR z hm)
  rcases hw with ⟨b,hz1,w,l'⟩ | ⟨b,hz1,l1,wk,l'⟩
  · rw [← e]at hz1
    rw [l',step_there hz1,w]
    refine ⟨⟨e1,by rw [b];exact (decide_eq_true hz1).symm,by rw [w];trivial,fun hh=>absurd hz1 hh⟩,e⟩
  · have hz2:=hz1
    rw [← e]at hz2
    obtain ⟨a1,a2,a3⟩:=wk.ly ok e hz1
    rw [l',step_N hz2,a1]
    refine ⟨⟨e1,by rw [b];exact (decide_eq_false hz2).symm,a2,fun _=>?_⟩,rfl⟩
    rw [okl_sum (ns:=ns) (OkL.drops (g:=(gask T R n (gst T R n s0 ys i) z).2.2.2) ok).r,a1]
    exact a3
 intro i
 induction i with
 | zero=>
  intro _
  have ok:OkL R ns (stL R ys (grows T R n s0 ys ys.length) 0):=OkL.nil
  exact ⟨ok,rfl,fun z r hi hz hr=>by rw [grows_at hi]at hr;cases hr;exact (row 0 hi ok rfl z hz).1⟩
 | succ i ih=>
  intro hi
  obtain ⟨ok,e,_⟩:=ih (by omega)
  have hi':i < ys.length:=by omega
  have hz:=List.getElem?_eq_getElem hi'
  have st:=stL_succ (R:=R) hz (grows_at (T:=T) (R:=R) (n:=n) (s0:=s0) hi')
  have ok2:OkL R ns (stL R ys (grows T R n s0 ys ys.length) (i+1)):=by rw [st];exact ok.step (hin _ (List.mem_of_getElem? hz))
  have e2:lyN (stL R ys (grows T R n s0 ys ys.length) (i+1))=(gst T R n s0 ys (i+1)).2:=by rw [st];exact (row i hi' ok e _ hz).2
  exact ⟨ok2,e2,fun z r hi2 hz2 hr=>by rw [grows_at hi2]at hr;cases hr;exact (row (i+1) hi2 ok2 e2 z hz2).1⟩
theorem gl_lawful(h0:T.inv ns n s0 [])(hin:∀y∈ys,y∈ns)(hR:∀y∈ys,R y≤n):Lawful R n ys (grows T R n s0 ys ys.length):=by
 refine ⟨grows_len.symm,fun {i z r} h1 h2=>?_⟩
 have hi:=(List.getElem?_eq_some_iff.mp h1).1
 exact (gl_st h0 hin hR i (by omega)).2.2 z r hi h1 h2
end
end N28
namespace L2
noncomputable def OptV:Option V→Option Value→Prop
 | none,o=>o=none
 | some v,o=>∃u,o=some u∧RelV v u
structure KTab(P:Params)(K:PySem.W.Frag)(a:Addr)(x:Str)(o:Option V):Prop where
 lo:(a==sysModules)=false
 ex:∃es n,K.lookup a=some ⟨.type "dict",none,.dict es n,#[]⟩∧PySem.W.KeysLit P es.toList∧OptV o (findBy Value.isStrOf es x)
theorem ktab_of{P:Params}{K:PySem.W.Frag}{a:Addr}{x:Str}{o:Option V}{r:Option Value}{es:Array DictEntry}{n:Nat}(lo:(a==sysModules)=false)(hl:K.lookup a=some ⟨.type "dict",none,.dict es n,#[]⟩)(hk:PySem.W.KeysLit P es.toList)(e:PySem.W.nsIn K a x=some r)(q:OptV o r):KTab P K a x o:=
 ⟨lo,es,n,hl,hk,by rw [PySem.W.find_K hl e];exact q⟩
noncomputable def tKGet(P:Params)(K:PySem.W.Frag)(td ty:TE):TE:=fun σ H Q=>td σ H fun x H1=>ty σ H1 fun y H2=>∃a w v,x= .ref a∧y= .str w∧KTab P K a w (some v)∧Q v H2
noncomputable def tKNin(P:Params)(K:PySem.W.Frag)(ty td:TE):TE:=fun σ H Q=>ty σ H fun y H1=>td σ H1 fun x H2=>∃a w o,x= .ref a∧y= .str w∧KTab P K a w o∧Q (.bl (!o.isSome)) H2
section
variable {X:Cx} {o i:Expr} {td ty:TE} {pos:Pos}
theorem pe_kget(ho:PE X o td)(hi:PE X i ty)(hs:NoSl i):PE X (.Subscript o i pos) (tKGet X.w.params X.K td ty):=by
 intro pins s σ H Q I h
 refine subD_of PySem.F.slot_dict_getitem.lookup hs (thn (ho pins s σ H _ I h) fun u s1 ⟨x,H1,I1,rx,q1⟩=>thn (hi pins s1 σ H1 _ I1 q1) fun iv s2 hq_=>?_)
 obtain ⟨y,H2,I2,ry,a,w,v,ex,ey,g,q2⟩:=hq_
 subst ex
 subst ey
 obtain rfl:u=Value.ref a:=rx
 obtain ⟨t,rfl⟩:=ry
 obtain ⟨es,n,hl,hk,hf⟩:=g.ex
 have hm:=PySem.W.mapOf_K (prog:=X.prog) (w:=X.w) I2.kIn hl hk
 obtain ⟨r,e1,e2⟩:=hf
 exact ⟨hm.typeIs,wpAny_getItem_of (strKind_is X.prog X.w w t) hm e1 ⟨v,H2,I2.tok _,e2,q2⟩⟩
theorem pc_knin(hi:PE X i ty)(ho:PE X o td):PC X .NotIn i o (tKNin X.w.params X.K ty td):=by
 intro pins s σ H Q I h
 refine thn (hi pins s σ H _ I h) fun iv s1 ⟨y,H1,I1,ry,q1⟩=>thn (ho pins s1 σ H1 _ I1 q1) fun u s2 hq_=>?_
 obtain ⟨x,H2,I2,rx,a,w,ov,ex,ey,g,q2⟩:=hq_
 subst ex
 subst ey
 obtain rfl:u=Value.ref a:=rx
 obtain ⟨t,rfl⟩:=ry
 obtain ⟨es,n,hl,hk,hf⟩:=g.ex
 have hm:=PySem.W.mapOf_K (prog:=X.prog) (w:=X.w) I2.kIn hl hk
 refine wpAny_notIn_of (strKind_is X.prog X.w w t) g.lo hm ⟨.bl (!ov.isSome),H2,I2.tok _,?_,q2⟩
 show Value.bool _=Value.bool _
 cases ov with
 | none=>rw [show findBy Value.isStrOf es w=none from hf];rfl
 | some v=>obtain ⟨r,e1,_⟩:=hf;rw [e1];rfl
theorem rd_kget{P:Params}{K:PySem.W.Frag}{σ:St}{H:Hp}{Q:VK}:tKGet P K td ty σ H Q=td σ H fun x H1=>ty σ H1 fun y H2=>∃a w v,x= .ref a∧y= .str w∧KTab P K a w (some v)∧Q v H2:=rfl
theorem rd_knin{P:Params}{K:PySem.W.Frag}{σ:St}{H:Hp}{Q:VK}:tKNin P K ty td σ H Q=ty σ H fun y H1=>td σ H1 fun x H2=>∃a w o,x= .ref a∧y= .str w∧KTab P K a w o∧Q (.bl (!o.isSome)) H2:=rfl
end
noncomputable def tCallF{ι:Type}(fa:ι→Addr)(sp:ι→Sp)(E:XK)(tv:TE)(t:TA):TE:=fun σ H Q=>tv σ H fun x H1=>∃b,x= .ref (fa b)∧t σ H1 fun vs H2=>sp b vs H2 Q E
section
variable {ι:Type} {X:Cx} {CX:CXT} {k j:Nat} {fa:ι→Addr} {nm:ι→Str} {ps:List Str} {sp:ι→Sp} {E:XK} {x:Str} {p pos:Pos} {e:Expr} {es:List Expr} {tv:TE} {t:TA}
theorem pe_callF(D:∀b,Def X.prog X.w X.K X.mg X.base CX j (nm b) ps (sp b))(hf:∀b,X.mg (nm b)=some (.ref (fa b)))(hr:Room k X.A)(hx:Passes CX X E)(hv:PE X (.Name x p) tv)(ha:PA X (e::es) t)(hj:j≤k:=by decide)
 (he:starEach (e::es) X.env=(false,eval e X.env)::starEach es X.env:=by rfl) (hpl:(backTo pos (starEach es X.env)).any (·.1)=false:=by rfl):
 PE X (.Call (.Name x p) (e::es) [] pos) (tCallF fa sp E tv t):=by
 intro pins s σ H Q I h
 refine wpAny_Call_Name_kw (thn (hv pins s σ H _ I h) fun u s1 hq_=>?_)
 obtain ⟨y,H1,I1,ry,b,ey,q1⟩:=hq_
 obtain ⟨f,fd,F,hm,hk,hb⟩:=(D b).ex
 obtain rfl:f=fa b:=by rw [hf b]at hm;cases hm;rfl
 subst ey
 obtain rfl:u=Value.ref (fa b):=ry
 refine PySem.W.callWith_K (h₀:=X.base) I.ok.mod.kin hk (thn (ha pos pins s1 σ H1 _ I1 q1) fun us s2 ⟨vs,H2,I2,r,q2⟩=>⟨I2.kIn,?_⟩) he hpl
 refine run_fn (F.mono hj) hr hb .nil hx I2 r ?_
 rw [List.append_nil]
 exact q2
theorem rd_callF{σ:St}{H:Hp}{Q:VK}:tCallF fa sp E tv t σ H Q=tv σ H fun x H1=>∃b,x= .ref (fa b)∧t σ H1 fun vs H2=>sp b vs H2 Q E:=rfl
end
end L2
namespace N63
open L2 N1 N5 N4 N6 N12 N32 N14 N20 N18 N25 NR N22 N21 N28
section
variable {C:Addr} {R:Str→Int} {n1 n2:Int} {ns ys:List Str}
theorem li0:LI ns s20 []:=⟨KeysIn.nil,by simp,List.Pairwise.nil⟩
end
section
variable {H H':Hp} {x dx:Addr} {o:HO}
theorem mk_same(h1:H x=none)(h2:H dx=none)(s:SameBut x (upd (upd H dx (.own x)) x o) H'):Same H H':=fun b ob e=>by
 have n1:b≠x:=fun e2=>by rw [e2,h1]at e;cases e
 have n2:b≠dx:=fun e2=>by rw [e2,h2]at e;cases e
 exact s b ob (by rw [upd_ne n1,upd_ne n2];exact e) n1
theorem mk_old(h1:H x=none)(h2:H dx=none):Same H (upd (upd H dx (.own x)) x o):=fun b ob e=>by
 have n1:b≠x:=fun e2=>by rw [e2,h1]at e;cases e
 have n2:b≠dx:=fun e2=>by rw [e2,h2]at e;cases e
 rw [upd_ne n1,upd_ne n2];exact e
theorem mk_none(h1:H x=none)(h2:H dx=none){l:Addr}(h:upd (upd H dx (.own x)) x o l=none):H l=none:=by
 cases e:H l with
 | none=>rfl
 | some ob=>rw [mk_old (o:=o) h1 h2 _ _ e]at h;cases h
end
structure RowOk(K:PySem.W.Frag)(C:Addr)(H:Hp)(st a:Addr)(n:Int)(ts:List Th)(ys:List Str):Prop where
 s:StockAt K C H st ts
 nd:(ts.map (·.1)).Nodup
 tl:ts.length≤60
 a:H a=some (.lst (ys.map V.str))
 l:ys.length≤200
 i:∀y∈ys,y∈ts.map (·.1)
 r:∀y∈ys,rm ts y≤n
 n1:1≤n
 n2:n≤1000000
theorem RowOk.same{K:PySem.W.Frag}{C:Addr}{H H':Hp}{st a:Addr}{n:Int}{ts:List Th}{ys:List Str}(h:RowOk K C H st a n ts ys)(s:Same H H'):RowOk K C H' st a n ts ys:=⟨h.s.same s,h.nd,h.tl,s _ _ h.a,h.l,h.i,h.r,h.n1,h.n2⟩
end N63
namespace L2
open PySem.W
noncomputable def unk(H:Hp)(as:List Addr):Hp:=fun b=>if b∈as then none else H b
end L2
namespace N64
open L2 N1 N5 N4 N6 N12 N32 N14 N20 N18 N25 NR N22 N21 N24 N23 N28 N63
inductive W2 where
 | ha
 | fa (ys:List Str) (h:ys.length≤1000)
structure C2 where
 ha:Addr
 fa:Addr
noncomputable def W6(T:RuleT)(s0:T.St)(ts:List Th)(n:Int)(ys:List Str):Nat→Ly:=stL (rm ts) ys (grows T (rm ts) n s0 ys ys.length)
noncomputable def L6(T:RuleT)(s0:T.St)(ts:List Th)(n:Int)(ys:List Str)(i:Nat):List Str:=(gst T (rm ts) n s0 ys i).2
section
variable {T:RuleT} {s0:T.St} {ts:List Th} {n:Int} {ys:List Str}
theorem w6_l(h0:T.inv (ts.map (·.1)) n s0 [])(hin:∀y∈ys,y∈ts.map (·.1))(hR:∀y∈ys,rm ts y≤n){i:Nat}(hi:i≤ys.length):lyN (W6 T s0 ts n ys i)=L6 T s0 ts n ys i:=(gl_st (T:=T) (R:=rm ts) (n:=n) (s0:=s0) h0 hin hR i hi).2.1
theorem l6_le(h0:T.inv (ts.map (·.1)) n s0 [])(hin:∀y∈ys,y∈ts.map (·.1))(hR:∀y∈ys,rm ts y≤n){i:Nat}(hi:i≤ys.length):(L6 T s0 ts n ys i).length≤ts.length:=by
 have gi:=gst_inv (T:=T) (R:=rm ts) (n:=n) (s0:=s0) h0 hin hR i hi
 have:=N25.nd_len gi.nd gi.s
 rw [List.length_map]at this
 exact this
end
end N64
namespace N62
open L2 N1 N5 N4 N6 N12 N32 N14 N20 N18 N25 NR N22 N21 N28 N63 N64 N41
inductive W3 where
 | ol | fi | hd
 deriving DecidableEq
structure C3 where
 ol:Addr
 fi:Addr
 hd:Addr
noncomputable def TQ(c:C3):W3→RuleT
 | .ol=>T2 c.ol
 | .fi=>T1 c.fi
 | .hd=>T6 c.hd
noncomputable def zq(c:C3):(w:W3)→(TQ c w).St
 | .ol=>s20
 | .fi=>(⟨0,[],[]⟩:S1)
 | .hd=>s60
theorem invq{c:C3}{ns:List Str}{n:Int}{w:W3}:(TQ c w).inv ns n (zq c w) []:=by
 cases w with
 | ol=>exact li0
 | fi=>exact ⟨KeysIn.nil,KeysIn.nil,by simp,List.Pairwise.nil⟩
 | hd=>exact hi60
noncomputable def lackN(a b:List Str):List Str:=a.filter fun u=>decide (u∉b)
noncomputable def pS(b:List Str):V→Bool
 | .str u=>decide (u∉b)
 | _=>false
theorem pS_filter{a b:List Str}:(a.map V.str).filter (pS b)=(lackN a b).map V.str:=by rw [List.filter_map];rfl
theorem lack_len{a b:List Str}:(lackN a b).length≤a.length:=List.length_filter_le _ _
end N62
namespace L2
noncomputable def dis1(s:List Str)(y:Str):List Str:=if y∈s then s else s++[y]
noncomputable def dis(ys:List Str):List Str:=ys.foldl dis1 []
theorem dis_snoc(ys:List Str)(y:Str):dis (ys++[y])=dis1 (dis ys) y:=by unfold dis;rw [List.foldl_append];rfl
theorem dis_take{ys:List Str}{i:Nat}(h:i < ys.length):dis (ys.take (i+1))=dis1 (dis (ys.take i)) (ys.getD i Str.empty):=by
 rw [List.take_add_one,List.getElem?_eq_getElem h,← dis_snoc,List.getD_eq_getElem?_getD,List.getElem?_eq_getElem h];rfl
theorem mem_dis1{s:List Str}{y z:Str}:z∈dis1 s y↔z∈s∨z=y:=by
 unfold dis1
 split
 · rename_i h
   exact ⟨.inl,fun h'=>h'.elim id fun e=>e▸h⟩
 · rw [List.mem_append,List.mem_singleton]
theorem len_dis1{s:List Str}{y:Str}:(dis1 s y).length=if decide (y∈s)=true then s.length else s.length+1:=by
 unfold dis1
 by_cases h:y∈s
 · rw [if_pos h,if_pos (decide_eq_true h)]
 · rw [if_neg h,if_neg (by simp [h])];simp
theorem len_dis_le(ys:List Str):∀i,(dis (ys.take i)).length≤i:=by
 intro i
 induction i with
 | zero=>rw [List.take_zero];exact Nat.le_refl _
 | succ i ih=>
  by_cases h:i < ys.length
  · rw [dis_take h,len_dis1]
    split <;> omega
  · rw [List.take_of_length_le (by omega),← List.take_of_length_le (i:=i) (l:=ys) (by omega)];omega
section
variable {prog:Program} {w:World} {A:Around}
noncomputable abbrev SetT(prog:Program)(w:World)(h:Heap)(S:Addr)(l:List Str):Prop:=h.SetOf (strKind prog w) S (fun z=>decide (z∈l)) l.length
theorem SetT.at{h h':Heap}{S:Addr}{l:List Str}(q:SetT prog w h S l)(k:∀o,h.get? S=some o→h'.get? S=some o):SetT prog w h' S l:=let ⟨o,es,ep,t,ho,r⟩:=q;⟨o,es,ep,t,k o ho,r⟩
theorem setT_run{R:Result→Shared→Prop}{I:Addr}{fp wr:List Addr}{G:Array GenState→Array GenState→Prop}{n:Nat}{Pv:Nat→Value→Prop}{St:Nat→Shared→Prop}(W:WalksS prog w A.in1 I fp wr G n Pv St){S:Addr}(off:S∉fp){ys:List Str}
 (hy:n=ys.length) (hv:∀i v,Pv i v→∃t,v= .str (ys.getD i Str.empty) t) (hb:n+1 < scanBound):
 ∀(left i:Nat) (s:Shared),left=n - i→i≤n→St i s→SetT prog w s.heap S (dis (ys.take i))→
   (∀s',Moved (S::wr) G s s'→SetT prog w s'.heap S (dis ys)→R (.ok (.ret .none)) s')→codeAny (model prog w) A (.builtin "set.update.loop" ⟨[.ref S,.ref I],[]⟩) R s:=by
 have offw:S∉wr:=fun z=>off (W.sub _ z)
 have more:∀b∈wr,b∈S::wr:=fun _ z=> .tail _ z
 intro left
 induction left with
 | zero=>
  intro i s e hi st q hR
  have hin:i=n:=by omega
  rw [hin,hy,List.take_length]at q
  rw [hin]at st
  refine codeAny_builtin F.entry_set_update_loop (by
   rw [Around.under_plainId F.plain_set_update_loop _]
   show wpAny _ A.in1 (pyNext (.ref I) >>=_) _ _ s
   refine wpAny_bind (W.done s _ _ st fun s' mv=>?_)
   show wpAny _ A.in1 (ret Value.none) _ _ s'
   exact wpAny_pure (hR s' (mv.mono more) (q.at fun o ho=>mv.heap S _ offw ho)))
 | succ left ih=>
  intro i s e hi st q hR
  have hlt:i < n:=by omega
  refine codeAny_builtin F.entry_set_update_loop (by
   rw [Around.under_plainId F.plain_set_update_loop _]
   show wpAny _ A.in1 (pyNext (.ref I) >>=_) _ _ s
   refine wpAny_bind (W.item i s _ _ hlt st fun v s1 pv st1 mv=>?_)
   obtain ⟨t,rfl⟩:=hv i v pv
   have q1:SetT prog w s1.heap S (dis (ys.take i)):=q.at fun o ho=>mv.heap S _ offw ho
   show wpAny _ A.in1 (holding [Value.str (ys.getD i Str.empty) t] (setAdd S (.str (ys.getD i Str.empty) t)) >>=_) _ _ s1
   refine wpAny_bind (wpAny_holding ?_)
   unfold setAdd
   refine wpAny_holding (wpAny_bind ((strKind prog w).pyHash (k:=ys.getD i Str.empty) (strKind_is _ _ _ _) ?_))
   have room:(dis (ys.take i)).length+1 < scanBound:=Nat.lt_of_le_of_lt (Nat.succ_le_succ (len_dis_le ys i)) (by omega)
   refine wpAny_setAddHashed_of (knd:=strKind prog w) (s:={s1 with toks:=s1.toks+1}) (strKind_is _ _ _ _) rfl q1 room fun h2 sb q2=>?_
   have q3:SetT prog w h2 S (dis (ys.take (i+1))):=by
    rw [dis_take (by omega)]
    refine SetOf_congr q2 (fun z=>?_) len_dis1.symm
    rw [Bool.eq_iff_iff,Bool.or_eq_true,decide_eq_true_eq,decide_eq_true_eq,decide_eq_true_eq,mem_dis1]
   refine wpAny_pure ⟨plainId_quiet F.plain_set_update_loop _,ih (i+1) _ (by omega) hlt (W.frame _ s1 _ _ st1 (Nat.le_succ _) fun b hb' o ho=>by rw [sb.2 b fun z=>off (z▸hb')];exact ho) q3 fun s3 mv3 q4=>hR s3 (Moved.trans W.gtrans ((mv.mono more).then_heap (Nat.le_succ _) fun b o hb' ho=>by rw [sb.2 b fun z=>hb' (z▸ .head _)];exact ho) mv3) q4⟩)
noncomputable abbrev newSet(led:Bool):Obj:={cls:= .type "set",dict:=none,data:= .set #[] 0 (.fresh 0 0 led)}
theorem text_at:∀{vs:List Value} {ys:List Str},StrsAre vs ys→∀(i:Nat) (v:Value),vs[i]?=some v→∃t,v= .str (ys.getD i Str.empty) t
 | _,_,.nil,i,v,h=>by simp at h
 | _,_,.cons z t r,0,v,h=>⟨t,by rw [List.getElem?_cons_zero]at h;cases h;rfl⟩
 | _,_,.cons z t r,i+1,v,h=>by
  rw [List.getElem?_cons_succ]at h
  obtain ⟨t',e⟩:=text_at r i v h
  exact ⟨t',e⟩
variable {E:Value→Shared→Prop} {s:Shared}
set_option maxHeartbeats 8000000 in
theorem call_setT{l:Addr}{us:Array Value}{ys:List Str}{Q:Value→Shared→Prop}(hh:A.handled=none)(hl:s.heap.IsList l us)(hy:StrsAre us.toList ys)(hb:us.size+1 < scanBound)
 (q:∀(h':Heap) (tk:Nat),SetT prog w h' s.heap.objs.size (dis ys)→(∀b o,s.heap.get? b=some o→h'.get? b=some o)→Q (.ref s.heap.objs.size) {s with heap:=h',toks:=tk}):
 wpAny (model prog w) A (call (.type "set") [.ref l]) Q E s:=by
 have len:us.size=ys.length:=by rw [← Array.length_toList];exact hy.length
 obtain ⟨c,tl,mro⟩:=F.called_set.mro
 have g1:=F.called_set.made
 have g2:=F.called_set.sub
 refine wpAny_call (codeAny_of_tree (by
  show wpAny _ _ (callAny (.type "set") _) _ _ _
  refine wpAny_pure ⟨Code.quiet_builtin _ (by decide+kernel),codeAny_builtin F.entry_type_call ?_⟩
  rw [Around.under_plain (weight_type_call_type "set" [.ref l] []) rfl]
  have g3:=F.called_set.notType
  have g4:=F.called_set.canCreate
  have g5:=F.typeCall_set_1 (.ref l)
  repeat (any_goals (first | assumption | wp_step))
  refine codeAny_mono (code_set_new_1 (.ref l) (E:=E) (Q₁:=fun v s1=>∃led:Bool,v= .ref s.heap.objs.size∧s1={s with heap:=s.heap.push (newSet led)}) fun led=>⟨led,rfl,rfl⟩) fun r s1 hr=>?_
  cases r with
  | error e=>exact hr
  | ok fl=>
   cases fl with
   | ret v=>
    obtain ⟨led,rfl,rfl⟩:=hr
    have at0:(s.heap.push (newSet led)).get? s.heap.objs.size=some (newSet led):=Heap.get?_push_size _ rfl
    have ty0:Shared.TypeIs {s with heap:=s.heap.push (newSet led)} (.ref s.heap.objs.size) "set":=⟨_,at0,rfl⟩
    have g6:=F.called_set.init.lookup
    have g7:=F.called_set.init.bind (.ref s.heap.objs.size)
    repeat (any_goals (first | assumption | wp_step))
    refine codeAny_mono (codeAny_call_builtin (R:=wants (fun r s2=>r= .none∧∃h' tk,s2={s with heap:=h',toks:=tk}∧SetT prog w h' s.heap.objs.size (dis ys)∧(∀b o,s.heap.get? b=some o→h'.get? b=some o)) E) F.called_set.init.plain F.entry_set_init (check_set_init_1 ty0 ?_)) fun r2 s2 hr2=>?_
    · obtain ⟨⟨oc,od,oe,os'⟩,hol,hcl,nl,hdl⟩:=hl
      simp only at hcl hdl
      subst hcl hdl
      have at1:(s.heap.push (newSet led)).get? l=some {cls:= .type "list",dict:=od,data:= .seq us nl,slots:=os'}:=Heap.get?_push_of_some _ hol
      have g8:=F.sub_list_set
      have g9:=F.sub_list_frozenset
      have g10:(Value.type "list"==Value.type "dict")=false:=by decide
      have l1:(s.heap.push (newSet led)).IsList l us:=⟨_,at1,rfl,nl,rfl⟩
      unfold Builtin.«set.__init__» noKeywords Builtin.Frozenset.updateFrom
      generalize hPI:pyIter=PI
      wp_walk
      subst hPI
      refine wpAny_pyIter_list l1 (wpAny_bind (wpAny_runValue ?_))
      have lt:l < s.heap.objs.size:=Heap.lt_size hol
      have h3:A.in1.in1.in1.handled=none:=by simp [hh]
      have sz:(s.heap.push (newSet led)).objs.size=s.heap.objs.size+1:=Heap.size_push ..
      have ne1:l≠(s.heap.push (newSet led)).objs.size:=by rw [sz];exact Nat.ne_of_lt (Nat.lt_succ_of_lt lt)
      have off:s.heap.objs.size∉[(s.heap.push (newSet led)).objs.size,l]:=by
       rw [sz]
       intro z
       rcases List.mem_cons.mp z with z | z
       · exact absurd z (Nat.ne_of_lt (Nat.lt_succ_self _))
       · exact absurd (List.mem_singleton.mp z) (Nat.ne_of_gt lt)
      refine setT_run ((Walks.list h3 _ l ne1 us).toS) off (ys:=ys) len (fun i v hv=>text_at hy i v (by rw [Array.getElem?_toList];exact hv)) hb (us.size - 0) 0 _ rfl (Nat.zero_le _) ⟨⟨_,Heap.get?_push_size _ rfl,rfl,rfl⟩,l1.push _⟩ ?_ ?_
      · exact SetOf_congr ((setObjOf_fresh (knd:=strKind prog w) led).setOf (Heap.get?_push_of_some _ at0) (by unfold scanBound;omega)) (fun _=>rfl) rfl
      · rintro ⟨h',g',d',tk',os2⟩ mv q'
        have eg:g'=s.gens:=mv.gens
        have ed:d'=s.drawn:=mv.drawn
        have eo:os2=s.os:=mv.os
        subst eg ed eo
        show wpAny _ _ _ _ _ _
        refine wpAny_pure ?_
        show wpAny _ _ (ret Value.none) _ _ _
        refine wpAny_pure ⟨rfl,h',tk',rfl,q',fun b o ho=>mv.heap b o (fun z=>?_) (Heap.get?_push_of_some _ (Heap.get?_push_of_some _ ho))⟩
        have ltb:=Heap.lt_size ho
        rw [sz]at z
        rcases List.mem_cons.mp z with z | z
        · exact absurd z (Nat.ne_of_lt ltb)
        · exact absurd (List.mem_singleton.mp z) (Nat.ne_of_lt (Nat.lt_succ_of_lt ltb))
    · cases r2 with
      | error e=>exact hr2
      | ok fl2=>
       cases fl2 with
       | ret r=>
        obtain ⟨rfl,h',tk,rfl,q',k'⟩:=hr2
        repeat (any_goals (first | assumption | wp_step))
        exact q _ _ q' k'
       | _=>exact hr2.elim
   | _=>exact hr.elim))
end
section
variable {X:Cx}
noncomputable def tLenSet(K:PySem.W.Frag)(t:TA):TE:=fun σ H Q=>t σ H fun vs H1=>∃a ys,vs=[.ref a]∧SqL K H1 a (ys.map V.str)∧ys.length≤250∧Q (.int (dis ys).length) H1
theorem pe_lenset{e:Expr}{t:TA}{p p2 pos pos2:Pos}(hc:X.calm=true)(hg:Gl X "len")(hm:X.mg "len"=none)(hg2:Gl X "set")(hm2:X.mg "set"=none)(ha:PA X [e] t)(he:starEach [e] X.env=(false,eval e X.env)::starEach [] X.env:=by rfl)
 (he2:starEach [.Call (.Name "set" p2) [e] [] pos2] X.env=(false,eval (.Call (.Name "set" p2) [e] [] pos2) X.env)::starEach [] X.env:=by rfl):PE X (.Call (.Name "len" p) [.Call (.Name "set" p2) [e] [] pos2] [] pos) (tLenSet X.K t):=by
 intro pins s σ H Q I h
 have hv:bootBuiltins "set"=some (.type "set"):=by decide+kernel
 refine wpAny_Call_Name_kw (ld_blt I hg hm PySem.boot_len (callWith_builtin1 (by
  rw [he2]
  show wpAny _ _ (spliced ((false,eval (.Call (.Name "set" p2) [e] [] pos2) X.env)::backTo pos (starEach [] X.env))) _ _ s
  refine Calls.spliced_cons (wpAny_Call_Name_kw (ld_blt I hg2 hm2 hv (callWith_type1 (thn (ha pos2 pins s σ H _ I h) fun us s1 hq_=>?_) he (by rfl))))
  obtain ⟨vs,H1,I1,r1,q1⟩:=hq_
  obtain ⟨a,ys,rfl,hq,hz,q⟩:=q1
  cases r1 with
  | cons r rr=>
   cases rr
   cases r
   obtain ⟨its,rv,pl,_⟩:=I1.list hq
   have hl:=rv.length
   rw [List.length_map]at hl
   refine call_setT (I1.ok.hd hc) pl.isList (by simpa using strsAre_of rv) (by rw [List.size_toArray,← hl];unfold scanBound;omega) fun h' tk st k=>?_
   refine Calls.spliced_nil ?_
   obtain ⟨o,es,ep,tb,ho,ex,hd,_,_,hb,hf,hn⟩:=st
   refine call_len_set ho ex hd hf (by unfold scanBound at hb;omega) ?_
   exact ⟨.int (dis ys).length,H1,I1.kept (h':=h') (t':=tk+1+1) k,⟨_,by rw [← hn]⟩,q⟩) he2 (by rfl)))
end
theorem rd_lenset{K:PySem.W.Frag}{σ:St}{H:Hp}{Q:VK}{t:TA}:tLenSet K t σ H Q=t σ H fun vs H1=>∃a ys,vs=[.ref a]∧SqL K H1 a (ys.map V.str)∧ys.length≤250∧Q (.int (dis ys).length) H1:=rfl
end L2
namespace L2
noncomputable def sgn(z:Str):List Str:=z.cps.toList.map fun c=>⟨#[c]⟩
noncomputable def rListS:List V→Hp→VK→Prop:=fun xs H Q=>∃z:Str,xs=[.str z]∧z.cps.size≤sizeLine∧∀p,H p=none→Q (.ref p) (upd H p (.lst ((sgn z).map V.str)))
theorem rd_listS{xs:List V}{H:Hp}{Q:VK}:rListS xs H Q=∃z:Str,xs=[.str z]∧z.cps.size≤sizeLine∧∀p,H p=none→Q (.ref p) (upd H p (.lst ((sgn z).map V.str))):=rfl
section
variable {X:Cx}
theorem call_listS(hc:X.calm=true):CallR X (.type "list") rListS:=by
 intro pins s σ H xs us Q I r h
 obtain ⟨z,rfl,hz,q⟩:=h
 obtain ⟨u,rfl,rx⟩:=vals1 r
 obtain ⟨t,rfl⟩:=rx
 refine call_list_str (I.ok.hd hc) z t (hn:=hz) fun h' tk acc c' kp e hi=>?_
 have hl:((sgn z).map V.str).length=z.cps.size:=by unfold sgn;rw [List.length_map,List.length_map,Array.length_toList]
 have hv:Vals ((sgn z).map V.str) acc.toList:=by
  refine vals_at (by rw [hl,← hi.1];simp) fun j u ej=>?_
  obtain ⟨c,tu,hc',rfl⟩:=hi.2 j u (by rw [← Array.getElem?_toList];exact ej)
  refine ⟨.str ⟨#[c]⟩,?_,⟨tu,rfl⟩⟩
  unfold sgn
  rw [List.getElem?_map,List.getElem?_map,Array.getElem?_toList,hc']
  rfl
 refine ⟨.ref s.heap.objs.size,_,I.laid (t':=tk) kp (Nat.le_refl _) (show ObjOk X.prog X.w _ h' _ (.lst ((sgn z).map V.str)) from ⟨by rw [hl];exact hz,acc.toList,c',hv,?_⟩),rfl,q _ I.fresh⟩
 rw [Array.toArray_toList];exact e
end
end L2
namespace L2
noncomputable def rCatQ(K:PySem.W.Frag):R2:=fun x y H Q=>∃l b xs zs,x= .ref l∧y= .ref b∧SqL K H l xs∧SqL K H b zs∧xs.length+zs.length≤sizeLine∧∀p,H p=none→Q (.ref p) (upd H p (.lst (xs++zs)))
theorem rd_catQ{K:PySem.W.Frag}{x y:V}{H:Hp}{Q:VK}:rCatQ K x y H Q=∃l b xs zs,x= .ref l∧y= .ref b∧SqL K H l xs∧SqL K H b zs∧xs.length+zs.length≤sizeLine∧∀p,H p=none→Q (.ref p) (upd H p (.lst (xs++zs))):=rfl
end L2
namespace N66
open L2 N1 N5 N4 N6 N12 N32 N14 N20 N18 N25 NR N22 N21 N26 N28 N63 N64 N62
inductive Wr where
 | fi | hd | ro
 deriving DecidableEq
noncomputable def Wr.s:Wr→Str
 | .fi=>"first"
 | .hd=>"hand"
 | .ro=>"rows"
noncomputable def lt(i:Nat):Str:=⟨#[97+i]⟩
noncomputable def lts(n:Nat):List Str:=(List.range n).map lt
noncomputable def rounds(p:Nat):List Str:=lts (p+1)++lts (p - 1)++[lt (p+1)]++lts (p+2)
noncomputable def dbl(l:List Str):List Str:=l.flatMap fun z=>[z,z]
noncomputable def pairs(p:Nat):List Str:=dbl (lts (p+1))++[lt (p+1),lt (p+2),lt (p+1),lt (p+2)]++[lt 0]++[lt (p+3),lt (p+4),lt (p+3),lt (p+4)]
noncomputable def rowW(w:Wr)(p:Nat):List Str:=match w with
 | .ro=>pairs p
 | _=>rounds p
noncomputable def Wr.lo:Wr→Nat
 | .ro=>2
 | _=>3
theorem lts_mem{n:Nat}{y:Str}(h:y∈lts n):∃i,i < n∧y=lt i:=by
 obtain ⟨i,hi,rfl⟩:=List.mem_map.mp h
 exact ⟨i,List.mem_range.mp hi,rfl⟩
theorem lts_get{n i:Nat}(h:i < n):(lts n)[i]?=some (lt i):=by
 unfold lts
 rw [List.getElem?_map,List.getElem?_range h]
 rfl
theorem lts_len{n:Nat}:(lts n).length=n:=by unfold lts;rw [List.length_map,List.length_range]
theorem dbl_len{l:List Str}:(dbl l).length=2 * l.length:=by
 unfold dbl
 induction l with
 | nil=>rfl
 | cons x r ih=>simp only [List.flatMap_cons,List.length_append,ih,List.length_cons,List.length_nil];omega
noncomputable def ms(T:RuleT)(R:Str→Int)(n:Int)(s0:T.St)(ys:List Str)(i:Nat):Nat:=(List.range i).countP fun j=>!(NR.grow T R n s0 ys j).2.1
theorem cut_hi{l:List Str}{k:Nat}(h:k≤l.length):cutV (l.map V.str) none (some (k:Int))=(l.take k).map V.str:=by
 unfold cutV HT.sIx
 simp only [List.length_map]
 rw [if_neg (by omega),Int.toNat_natCast,Nat.min_eq_left h,Nat.sub_zero,List.drop_zero,List.map_take]
theorem cut_neg{l:List Str}{j:Nat}{v:Int}(e:v=-(j:Int))(h0:0 < j)(h:j≤l.length):cutV (l.map V.str) none (some v)=(l.take (l.length - j)).map V.str:=by
 unfold cutV HT.sIx
 simp only [List.length_map]
 rw [if_pos (by omega),Nat.sub_zero,List.drop_zero,List.map_take]
 congr 1
 omega
theorem cut_lo{l:List Str}{j:Nat}{v:Int}(e:v=-(j:Int))(h0:0 < j)(h:j≤l.length):cutV (l.map V.str) (some v) none=(l.drop (l.length - j)).map V.str:=by
 unfold cutV HT.sIx
 simp only [List.length_map]
 rw [if_pos (by omega),show (v+(l.length:Int)).toNat=l.length - j by omega,List.take_of_length_le (by rw [List.length_drop,List.length_map];omega),List.map_drop]
theorem cut_mid{l:List Str}{i j:Nat}{u v:Int}(e:u=-(i:Int))(e':v=-(j:Int))(h0:0 < j)(h1:j≤i)(h:i≤l.length):cutV (l.map V.str) (some u) (some v)=((l.drop (l.length - i)).take (i - j)).map V.str:=by
 unfold cutV HT.sIx
 simp only [List.length_map]
 rw [if_pos (by omega),if_pos (by omega),show (u+(l.length:Int)).toNat=l.length - i by omega,List.map_take,List.map_drop]
 congr 1
 omega
theorem lts_take{n k:Nat}(h:k≤n):(lts n).take k=lts k:=by unfold lts;rw [← List.map_take,List.take_range,Nat.min_eq_left h]
theorem lts_drop{n k:Nat}:(lts n).drop k=(List.range' k (n - k)).map lt:=by
 unfold lts
 rw [← List.map_drop,List.range_eq_range',List.drop_range',Nat.zero_add,Nat.mul_one]
theorem let_ck:(List.range 27).all (fun k=>decide (sgn (Txt.slice (Str.ofString "abcdefghijklmnopqrstuvwxyz") none (some (k:Int)))=lts k))=true:=by kernel_rfl
theorem let_cut{k:Nat}(h:k≤26):sgn (Txt.slice (Str.ofString "abcdefghijklmnopqrstuvwxyz") none (some (k:Int)))=lts k:=of_decide_eq_true (List.all_eq_true.mp let_ck k (List.mem_range.mpr (by omega)))
theorem let_size{k:Nat}(h:k≤26):(Txt.slice (Str.ofString "abcdefghijklmnopqrstuvwxyz") none (some (k:Int))).cps.size≤26:=by
 have e:=congrArg List.length (let_cut h)
 unfold L2.sgn at e
 rw [List.length_map,lts_len,Array.length_toList]at e
 omega
theorem cat_goS{H:Hp}{a b:Addr}{l m:List Str}{Q:VK}(h1:H a=some (.lst (l.map V.str)))(h2:H b=some (.lst (m.map V.str)))(hl:l.length+m.length≤1000)(q:∀p,H p=none→Q (.ref p) (upd H p (.lst ((l++m).map V.str)))):rCat (.ref a) (.ref b) H Q:=by
 have line:=line_val
 rw [rd_cat]
 refine ⟨a,b,_,_,rfl,rfl,h1,h2,by rw [List.length_map,List.length_map];omega,fun p hp=>?_⟩
 rw [← List.map_append]
 exact q p hp
theorem dbl_succ{i:Nat}:dbl (lts (i+1))=dbl (lts i)++[lt i,lt i]:=by
 unfold dbl lts
 rw [List.range_succ,List.map_append,List.flatMap_append]
 rfl
theorem name_ck:(List.range 26).all (fun i=>nameB (lt i).cps.toList)=true:=by kernel_rfl
theorem let_name{i:Nat}(h:i < 26):nameB (lt i).cps.toList=true:=List.all_eq_true.mp name_ck i (List.mem_range.mpr h)
noncomputable def rfa(r p:Addr):Wr→Addr
 | .fi=>r
 | .hd=>r
 | .ro=>p
noncomputable def Wr.rn:Wr→Str
 | .fi=>"row_of_rounds"
 | .hd=>"row_of_rounds"
 | .ro=>"row_of_pairs"
noncomputable def sp66_row(w:Wr):Sp:=fun vs H Q _=>∃p:Nat,vs=[.int (p:Int)]∧2≤p∧p≤20∧∀(a:Addr) (H':Hp),Same H H'→H a=none→H' a=some (.lst ((rowW w p).map V.str))→Q (.ref a) H'
end N66
namespace L2
noncomputable def tMethA(G:Addr→Str→Prop)(sp:Str→Sp)(m:Str)(EE:St→XK)(ta:TE):TE:=fun σ H Q=>ta σ H fun x H1=>∃nw a C i,G C i∧x= .ref a∧(H1 a=some (exO nw a C none)∨∃dx fs,H1 a=some (exO nw a C (some dx))∧H1 dx=some (exD dx fs)∧fs.lookup m=none)∧sp i [x] H1 Q (EE σ)
section
variable {σ:St} {H:Hp} {Q:VK} {K:PySem.W.Frag}
theorem rd_methA{G:Addr→Str→Prop}{sp:Str→Sp}{m:Str}{EE:St→XK}{ta:TE}:tMethA G sp m EE ta σ H Q=ta σ H fun x H1=>∃nw a C i,G C i∧x= .ref a∧(H1 a=some (exO nw a C none)∨∃dx fs,H1 a=some (exO nw a C (some dx))∧H1 dx=some (exD dx fs)∧fs.lookup m=none)∧sp i [x] H1 Q (EE σ):=rfl
end
end L2
namespace N13
open L2 N1 N5 N4 N6 N12
open N53 (NumV)
noncomputable def bad(ts:List Th)(n:Int):List Str→Nat→Option (Bool×Str×Nat)
 | [],_=>none
 | y::ys,i=>if y∈ts.map (·.1) then (if n < rmOf ts y then some (false,y,i) else bad ts n ys (i+1)) else some (true,y,i)
theorem bad_step{ts:List Th}{n:Int}{ys:List Str}{i:Nat}{y:Str}(h:ys[i]?=some y):bad ts n (ys.drop i) i=if y∈ts.map (·.1) then (if n < rmOf ts y then some (false,y,i) else bad ts n (ys.drop (i+1)) (i+1)) else some (true,y,i):=by
 obtain ⟨hi,e⟩:=List.getElem?_eq_some_iff.mp h
 rw [List.drop_eq_getElem_cons hi,e]
 rfl
noncomputable def askD(ts:List Th)(v:V)(ys:List Str):Str×Option (Str×Nat):=
 if wIn 1 1000000 v=true then
  if 200 < ys.length then (Str.ofString "many",none)
  else match bad ts (iOf v) ys 0 with
   | some (true,z,i)=>(Str.ofString "unknown",some (z,i))
   | some (false,z,i)=>(Str.ofString "wide",some (z,i))
   | none=>(Str.ofString "fine",none)
 else (Str.ofString "number",none)
noncomputable def sp13_check(K:PySem.W.Frag)(x:Addr):Sp:=fun vs H Q E=>∃(v:V),vs=[v]∧NumV K H v∧(wIn 1 1000000 v=true→Q .non H)∧(wIn 1 1000000 v=false→∀H' y,Same H H'→H y=none→Err0 x H' y→E (.ref x) (some y) H')
noncomputable def sp13_asks(K:PySem.W.Frag)(C xN xM xU xW:Addr):Sp:=fun vs H Q E=>∃(p a:Addr) (v:V) (ts:List Th) (ys:List Str),vs=[.ref p,.ref a,v]∧StockAt K C H p ts∧(ts.map (·.1)).Nodup∧SqL K H a (ys.map V.str)∧ys.length≤250∧NumV K H v∧
 (askD ts v ys=(Str.ofString "fine",none)→∀H',Same H H'→Q (.bl true) H')∧
 (askD ts v ys=(Str.ofString "number",none)→∀H' y,Same H H'→H y=none→Err0 xN H' y→E (.ref xN) (some y) H')∧
 (askD ts v ys=(Str.ofString "many",none)→∀H' y,Same H H'→H y=none→Err0 xM H' y→E (.ref xM) (some y) H')∧
 (∀z i,askD ts v ys=(Str.ofString "unknown",some (z,i))→∀H' y,Same H H'→H y=none→ErrU xU H' y (.str z) (.int i)→E (.ref xU) (some y) H')∧
 (∀z i,askD ts v ys=(Str.ofString "wide",some (z,i))→∀H' y,Same H H'→H y=none→ErrU xW H' y (.str z) (.int i)→E (.ref xW) (some y) H')
end N13
namespace L2
noncomputable def Itk(o:Obj)(d:Addr):It:=
 ⟨fun i H=>∃kvs p,H d=some (.frz o (.dK kvs))∧kvs[i]?=some p,fun i H v H'=>H'=H∧∀kvs,H d=some (.frz o (.dK kvs))→∃p,kvs[i]?=some p∧v=kV p.1,
  fun i H=>∃kvs,H d=some (.frz o (.dK kvs))∧kvs.length≤i⟩
noncomputable def tnK(o:Obj)(I d:Addr)(i:Nat)(h:Heap):Prop:=d≠I∧∃es ep,o.data= .dict es ep∧h.IsKeyIter I d i es.size ep
theorem turn_keys{P:Program}{w:World}{K:PySem.W.Frag}{tg:Expr}(o:Obj)(d I:Addr):Turn P w K tg (Itk o d) [I] I (tnK o I d) where
 mem:=by simp
 obj:=fun i h st c hc=>by
  obtain ⟨_,es,ep,_,o1,h1,h2,h3⟩:=st
  have hc:c=I:=by simpa using hc
  subst hc
  exact ⟨_,h1,fun v z=>by rw [h3]at z;cases z⟩
 keep:=fun i h h' st kk=>by
  obtain ⟨ne,es,ep,hd,o1,h1,h2,h3⟩:=st
  exact ⟨ne,es,ep,hd,o1,kk I (by simp) _ h1,h2,h3⟩
 item:=by
  intro X hP hw hK hc i pins s σ H E J hf st hg
  subst hP hw hK
  obtain ⟨kvs,p,hd,hp⟩:=hg
  obtain ⟨ne,es,ep,hdat,h1⟩:=st
  obtain ⟨e,z,lo,ws,rel,ob,es2,ep2,e1,c1,d1,r1⟩:=J.hok d _ hd
  have e1':=e1
  rw [e]at e1'
  cases e1'
  rw [hdat]at d1
  cases d1
  have dat:s.heap.DictAt (mixKind X.prog X.w) d ws ep:=⟨o,es,e1,c1,hdat,r1⟩
  have hsz:es.size=ws.length:=by
   obtain ⟨_,hpr,_⟩:=r1
   rw [← hpr.length];simp
  rw [hsz]at h1
  have hlw:i < ws.length:=by rw [← rel.length];exact (List.getElem?_eq_some_iff.mp hp).1
  have hw:ws[i]?=some (ws[i]):=List.getElem?_eq_getElem hlw
  obtain ⟨p',hp',hpk,hpv⟩:=paired_get rel hw
  rw [hp]at hp'
  cases hp'
  obtain ⟨f0,f1,f2,f3,f4,f5⟩:=hf I (by simp)
  refine wpAny_pyNext_dict_item h1 dat (k:=(ws[i]).1) (v:=(ws[i]).2) hw fun key h' hkey hit' sb=>?_
  have I1:Inv X pins σ H {s with heap:=h'}:=J.turned (t':=s.toks) (fun b o hb e=>(sb.2 b hb).trans e) f0 f1 f3 f4 f5
  have rk:RelV (kV p.1) key:=by rw [hpk];exact kV_of hkey
  obtain ⟨o',e',c',d'⟩:=id hit'
  exact ⟨key,rfl,go_of (s:={s with heap:=h'}) e' c' d' (by decide) ⟨kV p.1,H,I1,rk,⟨rfl,fun kvs' hy'=>by rw [hd]at hy';cases hy';exact ⟨p,hp,rfl⟩⟩,⟨ne,es,ep,hdat,by rw [hsz];exact hit'⟩,fun c hc=>(hf c hc).1⟩⟩
 done:=by
   intro X hP hw hK hc i pins s σ H E J hf st hg
   subst hP hw hK
   obtain ⟨kvs,hd,hl⟩:=hg
   obtain ⟨ne,es,ep,hdat,h1⟩:=st
   obtain ⟨e,z,lo,ws,rel,ob,es2,ep2,e1,c1,d1,r1⟩:=J.hok d _ hd
   have e1':=e1
   rw [e]at e1'
   cases e1'
   rw [hdat]at d1
   cases d1
   have dat:s.heap.DictAt (mixKind X.prog X.w) d ws ep:=⟨o,es,e1,c1,hdat,r1⟩
   have hsz:es.size=ws.length:=by
    obtain ⟨_,hpr,_⟩:=r1
    rw [← hpr.length];simp
   rw [hsz]at h1
   have hn:ws[i]?=none:=List.getElem?_eq_none (by rw [← rel.length];exact hl)
   obtain ⟨f0,f1,f2,f3,f4,f5⟩:=hf I (by simp)
   exact wpAny_pyNext_dict_end (J.ok.hd hc) h1 dat hn fun h' eb=>⟨rfl,J.turned (t':=s.toks) (fun b o hb e=>eb b o hb e) f0 f1 f3 f4 f5⟩
 self:=fun A i s Q E st h=>by
  obtain ⟨_,es,ep,_,h1⟩:=st
  exact wpAny_pyIter_keyiter h1 h
section
variable {X:Cx}
noncomputable def iDict(tl:TE):TI:=fun σ H R=>tl σ H fun x H1=>∃d kvs,x= .ref d∧((H1 d=some (.dK kvs)∧∀o,R (Itk o d) (upd H1 d (.frz o (.dK kvs))))∨∃o,H1 d=some (.frz o (.dK kvs))∧R (Itk o d) H1)
theorem pi_dict{tg e:Expr}{tl:TE}(hl:PE X e tl):PI X tg e (iDict tl):=by
 intro pins s σ H R I h
 refine thn (hl pins s σ H _ I h) fun u s1 hq_=>?_
 obtain ⟨x,H1,I1,rx,q⟩:=hq_
 obtain ⟨d,kvs,rfl,hq⟩:=q
 cases rx
 have key:∀(o:Obj) (H2:Hp),Inv X pins σ H2 s1→H2 d=some (.frz o (.dK kvs))→R (Itk o d) H2→wpAny (model X.prog X.w) X.A (pyIter (.ref d)) (PIE X pins σ tg R) X.xe s1:=by
  intro ob H2 I2 hd q
  obtain ⟨e,z,lo,ws,rel,ob',es2,ep2,e1,c1,d1,r1⟩:=I2.hok d _ hd
  have e1':=e1
  rw [e]at e1'
  cases e1'
  have dat:s1.heap.DictAt (mixKind X.prog X.w) d ws ep2:=⟨ob,es2,e1,c1,d1,r1⟩
  have hsz:es2.size=ws.length:=by
   obtain ⟨_,hpr,_⟩:=r1
   rw [← hpr.length];simp
  refine wpAny_pyIter_dict lo dat ?_
  have I3:Inv X pins σ H2 {s1 with heap:=s1.heap.push {cls:= .type "dict_keyiterator",data:= .fields #[.ref d,.int 0 0,.int ws.length 0,.int ep2 0]}}:=I2.kept (t':=s1.toks) fun b o e=>Heap.get?_push_of_some _ e
  have ltd:=Heap.lt_size e1
  refine ⟨s1.heap.objs.size,[s1.heap.objs.size],_,_,_,rfl,I3,turn_keys ob d s1.heap.objs.size,⟨Nat.ne_of_lt ltd,es2,ep2,d1,?_⟩,fun c hc=>?_,q⟩
  · rw [hsz];exact ⟨_,Heap.get?_push_size _ rfl,rfl,rfl⟩
  · have hc:c=s1.heap.objs.size:=by simpa using hc
    subst hc
    exact I2.fpOk (Nat.le_refl _) (I2.hok.fresh (Nat.le_refl _))
 rcases hq with ⟨hd,q⟩ | ⟨o,hd,q⟩
 · obtain ⟨z,lo,ws,rel,ob,es2,ep2,e1,c1,d1,r1⟩:=I1.hok d _ hd
   have I2:Inv X pins σ (upd H1 d (.frz ob (.dK kvs))) {s1 with heap:=s1.heap,toks:=s1.toks}:=I1.write (x:=d) (e:=d) (by rw [hd];trivial) (.inl rfl) (fun b u _ e=>e) ⟨ob,e1⟩ ⟨e1,z,lo,ws,rel,ob,es2,ep2,e1,c1,d1,r1⟩
   exact key ob _ I2 upd_same (q ob)
 · exact key o H1 I1 hd q
end
section
variable {σ:St} {H:Hp} {D:Ends}
theorem rd_idict{tl:TE}{R:It→Hp→Prop}:iDict tl σ H R=tl σ H fun x H1=>∃d kvs,x= .ref d∧((H1 d=some (.dK kvs)∧∀o,R (Itk o d) (upd H1 d (.frz o (.dK kvs))))∨∃o,H1 d=some (.frz o (.dK kvs))∧R (Itk o d) H1):=rfl
end
end L2
open PySem PySem.W PyProof.Rows
namespace L2
structure Bs(P:Program)(w:World)(K:PySem.W.Frag)(mg:Str→Option Value)(base:Heap):Prop where
 ex:∃h:Heap,K.In h∧h.Ns mainGlobals mg
theorem lc{α:Type}{us:List α}{n:Nat}(h:us.length=n+1):∃u r,us=u::r∧r.length=n:=by
 cases us with
 | nil=>cases h
 | cons u r=>exact ⟨u,r,rfl,Nat.succ.inj h⟩
theorem l0{α:Type}{us:List α}(h:us.length=0):us=[]:=by
 cases us with
 | nil=>rfl
 | cons u r=>cases h
section
variable {P:Program} {w:World} {K:PySem.W.Frag} {mg:Str→Option Value} {base:Heap} {CX:CXT} {k:Nat} {sp:Sp} {ps:List Str} {x qual n p1 p2 p3 p4 p5 p6 p7:Str} {st:Stmt} {f C:Addr} {fd:FuncData}
theorem Fun.d(F:Fun K x qual st f fd)(B:Bs P w K mg base)(a:PySem.W.nsIn K mainGlobals x=some (some (.ref f)))(o:FnOk P w K mg base CX k f fd ps sp)(b:Binds K fd ps []):Def P w K mg base CX k x ps sp:=
 let ⟨_,X,G⟩:=B.ex;⟨f,fd,o,PySem.W.mg_of X G a,F.kp,b⟩
theorem Fun.m(F:Fun K x qual st f fd)(B:Bs P w K mg base)(M:Meth K C x f)(o:FnOk P w K mg base CX k f fd ps sp)(b:Binds K fd ps []):DefM P w K mg base CX k C x ps sp:=
 ⟨f,fd,o,M,b⟩
theorem Fun.i(F:Fun K x qual st f fd)(B:Bs P w K mg base)(M:Mk K C f)(a:PySem.W.nsIn K mainGlobals n=some (some (.ref C)))(o:FnOk P w K mg base CX k f fd ps sp)(b:Binds K fd ps []):DefI P w K mg base CX k n C ps sp:=
 let ⟨_,X,G⟩:=B.ex;⟨f,fd,o,M,PySem.W.mg_of X G a,b⟩
theorem Fun.e1(F:Fun K x qual st f fd)(h:∀(kV doc pm:Value) (an:Option Addr) (cdv ct u:Value),bindArgs (PySem.W.fnOf x qual (defArgs st) (defBody st) (defScope st) .none kV doc pm an cdv ct) ⟨[u],[]⟩=pure [(p1,u)]):Binds K fd [p1] []:=
 F.binds (ps:=[p1]) fun kV doc pm an cdv ct us hl=>by
  obtain ⟨u,us,rfl,h1⟩:=lc hl
  cases l0 h1
  exact h kV doc pm an cdv ct u
theorem Fun.e2(F:Fun K x qual st f fd)(h:∀(kV doc pm:Value) (an:Option Addr) (cdv ct u v:Value),bindArgs (PySem.W.fnOf x qual (defArgs st) (defBody st) (defScope st) .none kV doc pm an cdv ct) ⟨[u,v],[]⟩=pure [(p1,u),(p2,v)]):Binds K fd [p1,p2] []:=
 F.binds (ps:=[p1,p2]) fun kV doc pm an cdv ct us hl=>by
  obtain ⟨u,us,rfl,h1⟩:=lc hl
  obtain ⟨v,us,rfl,h2⟩:=lc h1
  cases l0 h2
  exact h kV doc pm an cdv ct u v
theorem Fun.e3(F:Fun K x qual st f fd)(h:∀(kV doc pm:Value) (an:Option Addr) (cdv ct u v w:Value),bindArgs (PySem.W.fnOf x qual (defArgs st) (defBody st) (defScope st) .none kV doc pm an cdv ct) ⟨[u,v,w],[]⟩=pure [(p1,u),(p2,v),(p3,w)]):Binds K fd [p1,p2,p3] []:=
 F.binds (ps:=[p1,p2,p3]) fun kV doc pm an cdv ct us hl=>by
  obtain ⟨u,us,rfl,h1⟩:=lc hl
  obtain ⟨v,us,rfl,h2⟩:=lc h1
  obtain ⟨w,us,rfl,h3⟩:=lc h2
  cases l0 h3
  exact h kV doc pm an cdv ct u v w
theorem Fun.e4(F:Fun K x qual st f fd)(h:∀(kV doc pm:Value) (an:Option Addr) (cdv ct u v w y:Value),bindArgs (PySem.W.fnOf x qual (defArgs st) (defBody st) (defScope st) .none kV doc pm an cdv ct) ⟨[u,v,w,y],[]⟩=pure [(p1,u),(p2,v),(p3,w),(p4,y)]):Binds K fd [p1,p2,p3,p4] []:=
 F.binds (ps:=[p1,p2,p3,p4]) fun kV doc pm an cdv ct us hl=>by
  obtain ⟨u,us,rfl,h1⟩:=lc hl
  obtain ⟨v,us,rfl,h2⟩:=lc h1
  obtain ⟨w,us,rfl,h3⟩:=lc h2
  obtain ⟨y,us,rfl,h4⟩:=lc h3
  cases l0 h4
  exact h kV doc pm an cdv ct u v w y
theorem Fun.e5(F:Fun K x qual st f fd)(h:∀(kV doc pm:Value) (an:Option Addr) (cdv ct u v w y z:Value),bindArgs (PySem.W.fnOf x qual (defArgs st) (defBody st) (defScope st) .none kV doc pm an cdv ct) ⟨[u,v,w,y,z],[]⟩=pure [(p1,u),(p2,v),(p3,w),(p4,y),(p5,z)]):Binds K fd [p1,p2,p3,p4,p5] []:=
 F.binds (ps:=[p1,p2,p3,p4,p5]) fun kV doc pm an cdv ct us hl=>by
  obtain ⟨u,us,rfl,h1⟩:=lc hl
  obtain ⟨v,us,rfl,h2⟩:=lc h1
  obtain ⟨w,us,rfl,h3⟩:=lc h2
  obtain ⟨y,us,rfl,h4⟩:=lc h3
  obtain ⟨z,us,rfl,h5⟩:=lc h4
  cases l0 h5
  exact h kV doc pm an cdv ct u v w y z
end
theorem st_c{n:Str}{N:List Str}{v:V}{vs:List V}:start (n::N) (v::vs)=some v::start N vs:=by
 simp [start]
theorem st_n{n:Str}{N:List Str}:start (n::N) []=none::start N []:=rfl
theorem st_e:start [] []=[]:=rfl
end L2
namespace L2
structure RoomH(k:Nat)(A:Around):Prop where
 dp:A.depth+3 * k+5 < recursionLimit
 un:A.units+16 * k+200 < cLine
theorem Room.hm{k:Nat}{A:Around}(r:Room k A)(v:Option Value):RoomH k (A.mark v):=⟨r.dp,r.un⟩
theorem RoomH.mono{j k:Nat}{A:Around}(r:RoomH k A)(h:j≤k):RoomH j A:=⟨by have:=r.dp;omega,by have:=r.un;omega⟩
structure FnOkH(P:Program)(w:World)(K:PySem.W.Frag)(mg:Str→Option Value)(base:Heap)(CX:CXT)(k:Nat)(f:Addr)(fd:FuncData)(ps:List Str)(sp:Sp):Prop where
 len:∀vs H Q E,sp vs H Q E→vs.length=ps.length
 run:∀(A:Around) (outer:List Env) (s:Shared) (H:Hp) (args:Args) (us:List Value) (vs:List V) (Q:VK) (E:XK),RoomH k A→Env0 P w K mg base A outer s H→BindsTo s fd args (ps.zip us)→Vals vs us→sp vs H Q E→
  codeAny (model P w) A (.call (.ref f) args) (CR CX outer P w H s Q E) s
structure DefMH(P:Program)(w:World)(K:PySem.W.Frag)(mg:Str→Option Value)(base:Heap)(CX:CXT)(k:Nat)(C:Addr)(m:Str)(ps:List Str)(sp:Sp):Prop where
 ex:∃(f:Addr) (fd:FuncData),FnOkH P w K mg base CX k f fd ps sp∧Meth K C m f∧Binds K fd ps []
noncomputable abbrev cxH(CX:CXT)(P:Program)(w:World)(K:PySem.W.Frag)(mg:Str→Option Value)(base:Heap)(N:List Str)(qual:Str)(scope:Scope)(f:Addr)(cd:Value)(A:Around)(outer:List Env)(s:Shared)(H:Hp)(E:XK):Cx:={cxOf CX P w K mg base N qual scope f cd A outer s H E with calm:=false}
section
variable {CX:CXT} {P:Program} {w:World} {K:PySem.W.Frag} {mg:Str→Option Value} {base:Heap}
theorem inv_startH{N ps:List Str}{qual:Str}{scope:Scope}{f:Addr}{cd:Value}{A:Around}{outer:List Env}{s s1:Shared}{H:Hp}{E:XK}{us:List Value}{vs:List V}
 (S:FnScope N ps scope) (e0:Env0 P w K mg base A outer s H) (hl:vs.length=ps.length) (r:Vals vs us)
 (x:InCallC s s.heap.objs.size (bindL (envOfC qual scope s.heap.objs.size f cd).kindOf (ps.zip us) fun _=>none) (cellsFrom (s.heap.objs.size+1) scope.names []) (bindC (envOfC qual scope s.heap.objs.size f cd).kindOf (ps.zip us) fun _=>none) s1):
 Inv (cxH CX P w K mg base N qual scope f cd A outer s H E) [] (start N vs) H s1:=by
 have e1:Env0 P w K mg base {A with handled:=none} outer s H:={e0 with frames:=e0.frames}
 have I:=inv_start (CX:=CX) (A:={A with handled:=none}) (E:=E) S rfl e1 hl r x
 exact ⟨⟨I.ok.mod,I.ok.kind,I.ok.glob,I.ok.blt,I.ok.above,I.ok.inj,I.ok.has,I.ok.cab,(fun z=>by cases z),Around.frames_deeper e0.frames,I.ok.stk,I.ok.exf,I.ok.bs,I.ok.bsz,I.ok.noex,I.ok.exfs,I.ok.funs,I.ok.frf⟩,I.os,I.bare,I.base,I.loc,I.cell,I.free,I.freeC,I.pin,I.hok,I.len⟩
theorem fn_ofH{k:Nat}{f:Addr}{name qual:Str}{params:Arguments}{body:List Stmt}{scope:Scope}{dV kV doc pm cdv ct oc:Value}{an od:Option Addr}
 {osl:Array (Option Value)} {N ps:List Str} {sp:Sp} (lk:K.lookup f=some ⟨oc,od,.func (PySem.W.fnOf name qual params body scope dV kV doc pm an cdv ct),osl⟩) (hcd:PySem.W.codeIn K cdv qual=true) (S:FnScope N ps scope)
 (len:∀vs H Q E,sp vs H Q E→vs.length=ps.length)
 (hbody:∀(A:Around) (outer:List Env) (s:Shared) (H:Hp) (vs:List V) (Q:VK) (E:XK),sp vs H Q E→
  ∃t,PSs (cxH CX P w K mg base N qual scope f cdv A outer s H E) body t∧t {nx:=fun _ H'=>Q .non H',rt:=Q} (start N vs) H):
 FnOkH P w K mg base CX (k+1) f (PySem.W.fnOf name qual params body scope dV kV doc pm an cdv ct) ps sp:=by
 refine ⟨len,fun A outer s H args us vs Q E hr e0 hb r hsp=>?_⟩
 have hl:=len _ _ _ _ hsp
 have KX:K.In s.heap:=e0.mod.kin.keeps fun b o e=>(e0.bs b o e).1
 have lim:s.heap.NoLimit:=e0.mod.nolimit.keeps fun b o e=>(e0.bs b o e).1
 have hkind:∀y∈ps.zip us,scope.names.lookup y.1=some .local∨(scope.names.lookup y.1=some .cell∧((cellsFrom (s.heap.objs.size+1) scope.names []).lookup y.1).isSome=true):=fun ⟨n,v⟩ hy=>
  (S.par n (List.of_mem_zip hy).1).imp id fun q=>⟨q,PySem.W.cellsFrom_some _ _ _ (.inl q)⟩
 refine codeAny_call_function (by have:=hr.dp;omega) (KX _ _ lk) rfl S.co S.gen rfl (PySem.W.codeRec_of KX hcd) (hb _ _ _ _ ?_)
 refine wpAny_newFunctionEnv_cells S.kind hkind fun env he s1 x=>?_
 subst he
 refine ⟨lim.keeps x.toInCall.keep,codeAny_func ?_⟩
 obtain ⟨t,ht,hq⟩:=hbody A outer s H vs Q E hsp
 refine wpAny_mono (ht [] s1 (start N vs) H _ (inv_startH S e0 hl r x) hq) (fun fl s' hs=>?_) fun e s' hs=>hs
 have fin:∀{σ':St} {H':Hp} {v:V} {u:Value},Inv (cxH CX P w K mg base N qual scope f cdv A outer s H E) [] σ' H' s'→RelV v u→Q v H'→CE outer P w H s Q u s':=
  fun {σ' H' v u} J rv q=>⟨v,H',J.os,J.bare,J.base,J.hok,rv,q⟩
 cases fl with
 | ret u=>
  obtain ⟨v,σ',H',J,rv,q⟩:=hs
  exact fin J rv q
 | next=>
  obtain ⟨σ',H',J,q⟩:=hs
  exact fin (v:=V.non) (u:=Value.none) J rfl q
 | brk=>
  obtain ⟨_,_,_,q⟩:=hs
  exact False.elim q
 | cont=>
  obtain ⟨_,_,_,q⟩:=hs
  exact False.elim q
theorem Fun.okH{x qual:Str}{st:Stmt}{f:Addr}{fd:FuncData}{N ps:List Str}{k:Nat}{sp:Sp}(F:Fun K x qual st f fd)(S:FnScope N ps (defScope st))(len:∀vs H Q E,sp vs H Q E→vs.length=ps.length)
 (hbody:∀(cdv:Value) (A:Around) (outer:List Env) (s:Shared) (H:Hp) (vs:List V) (Q:VK) (E:XK),Unit→sp vs H Q E→
  ∃t,PSs (cxH CX P w K mg base N qual (defScope st) f cdv A outer s H E) (defBody st) t∧t {nx:=fun _ H'=>Q .non H',rt:=Q} (start N vs) H):FnOkH P w K mg base CX (k+1) f fd ps sp:=by
 obtain ⟨oc,od,kV,doc,pm,an,cdv,ct,osl,rfl,lk,hcd⟩:=F.ex
 exact fn_ofH lk hcd S len fun A outer s H vs Q E hsp=>hbody cdv A outer s H vs Q E () hsp
theorem Fun.mH{x qual:Str}{st:Stmt}{f C:Addr}{fd:FuncData}{ps:List Str}{k:Nat}{sp:Sp}(F:Fun K x qual st f fd)(B:Bs P w K mg base)(M:Meth K C x f)(o:FnOkH P w K mg base CX k f fd ps sp)(b:Binds K fd ps []):DefMH P w K mg base CX k C x ps sp:=⟨f,fd,o,M,b⟩
end
section
variable {X:Cx} {CX:CXT} {k j:Nat} {G:Addr→Str→Prop} {sp:Str→Sp} {ps:List Str} {EE:St→XK} {m:Str} {pos apos:Pos} {o:Expr} {ta:TE}
theorem run_fnSH{pins:List (Addr×Obj)}{σ:St}{H:Hp}{s:Shared}{Q:VK}{us:List Value}{vs:List V}{f:Addr}{fd:FuncData}{sp:Sp}(F:FnOkH X.prog X.w X.K X.mg X.base CX k f fd ps sp)(hr:RoomH k X.A)(hb:Binds X.K fd ps [])(hx:PassesS CX X EE)
 (I:Inv X pins σ H s) (r:Vals vs us) (h:sp vs H Q (EE σ)):wpAny (model X.prog X.w) X.A (call (.ref f) us) (EP X pins σ Q) X.xe s:=by
 have hl:us.length=ps.length:=by rw [← r.length];exact F.len _ _ _ _ h
 have hb':=hb s us I.kIn (by simpa using hl)
 rw [List.append_nil]at hb'
 refine wpAny_call (codeAny_mono (F.run X.A X.stack s H ⟨us,[]⟩ us vs Q (EE σ) hr I.env0 hb' r h) fun r s' hq=>?_)
 cases r with
 | error e=>exact hx pins σ H s e s' I hq
 | ok fl=>
  cases fl with
  | ret u=>exact I.after hq
  | next=>exact False.elim hq
  | brk=>exact False.elim hq
  | cont=>exact False.elim hq
theorem pe_methH{pl:Sem Bool}(D:∀C i,G C i→DefMH X.prog X.w X.K X.mg X.base CX j C m ps (sp i)∧ExcG X.K C)(hr:RoomH k X.A)(hx:PassesS CX X EE)(he:PE X o ta)(hj:j≤k:=by decide)
 (ht:eval (.Call (.Attribute o m apos) [] [] pos) X.env=(do
  let ov ← eval o X.env
  standAt apos.atName
  let (f,first) ← holding [ov] (getMethod ov m pl)
  callWith pos f first (backTo pos (starEach [] X.env)) (backToKw pos (keywordEach [] X.env))):=by rfl):
 PE X (.Call (.Attribute o m apos) [] [] pos) (tMethA G sp m EE ta):=by
 intro pins s σ H Q I h
 refine PySem.W.methodCall_KW (pl:=pl) (thn (he pins s σ H _ I h) fun u s1 hq_=>?_) ht
 obtain ⟨x,H1,I1,rx,nw,a,C,i,g,ex,ea,q⟩:=hq_
 obtain ⟨⟨f,fd,F,hm,hb⟩,c⟩:=D C i g
 subst ex
 cases (show u=Value.ref a from rx)
 have fin:=PySem.W.callWith_K0 (pos:=pos) (env:=X.env) (first:=[.ref a]) I1.kIn hm.kp (run_fnSH (us:=[.ref a]) (vs:=[.ref a]) F (hr.mono hj) hb hx I1 (.cons rfl .nil) q)
 rcases ea with ea | ⟨dx,fs,ea,ed,l⟩
 · exact methx_ok0 I1 c ea hm fin
 · exact methx_ok1 I1 c ea ed l hm fin
end
end L2
namespace L2
open N1 N5
section
variable {P:Program} {w:World} {K:PySem.W.Frag} {mg:Str→Option Value} {base:Heap} {CX:CXT} {k:Nat} {C:Addr} {m:Str} {ps:List Str} {sp sp':Sp}
theorem FnOk.weaker{f:Addr}{fd:FuncData}(F:FnOk P w K mg base CX k f fd ps sp)(h:∀vs H Q E,sp' vs H Q E→sp vs H Q E):FnOk P w K mg base CX k f fd ps sp':=F.imp h
theorem Def.weaker{x:Str}(D:Def P w K mg base CX k x ps sp)(h:∀vs H Q E,sp' vs H Q E→sp vs H Q E):Def P w K mg base CX k x ps sp':=by
 obtain ⟨f,fd,F,hm⟩:=D
 exact ⟨f,fd,F.weaker h,hm⟩
end
theorem rcat_go{H:Hp}{a b:Addr}{l m:List V}{Q:VK}(h1:H a=some (.lst l))(h2:H b=some (.lst m))(hl:l.length+m.length≤sizeLine)(q:∀p,H p=none→Q (.ref p) (upd H p (.lst (l++m)))):rCat (.ref a) (.ref b) H Q:=⟨a,b,_,_,rfl,rfl,h1,h2,hl,q⟩
noncomputable def rEqI:R2:=fun x y H Q=>∃j:Int,y= .int j∧flatV x=true∧Q (.bl (eqV x (.int j))) H
theorem op_eqI{X:Cx}:OpR X (compareOp .Eq) rEqI:=by
 intro pins s σ H x y v u Q I rx ry h
 obtain ⟨j,rfl,fx,q⟩:=h
 cases x with
 | bl i=>
  cases rx
  obtain ⟨t,rfl⟩:=ry
  exact PySem.EqBoolInt.eq_bool_int (fin_bl I q rfl)
 | non=>exact op_eq pins s σ H _ _ v u Q I rx ry ⟨rfl,by rw [show decide (V.non=V.int j)=false from by simp];exact q⟩
 | int i=>exact op_eq pins s σ H _ _ v u Q I rx ry ⟨rfl,by rw [dec_int];exact q⟩
 | str z=>exact op_eq pins s σ H _ _ v u Q I rx ry ⟨rfl,by rw [show decide (V.str z=V.int j)=false from by simp];exact q⟩
 | _=>exact absurd (show false=true from fx) Bool.false_ne_true
theorem rd_eqI{x y:V}{H:Hp}{Q:VK}:rEqI x y H Q=∃j:Int,y= .int j∧flatV x=true∧Q (.bl (eqV x (.int j))) H:=rfl
section
variable {tail:St} {te:Blk→TE} {Q:VK} {H1:Hp}
theorem compK_mk{o:Obj}{d:Addr}{kvs:List (Key×V)}(P:Nat→V→Hp→Prop)(hP:∀i,OffLists (P i))(hd:H1 d=some (.frz o (.dK kvs)))(hz:kvs.length≤sizeLine)
 (he:∀b (i:Nat) p H Q',kvs[i]?=some p→Same H1 H→(∀y H',Same H H'→P i y H'→Q' y H')→te b (some (kV p.1)::tail) H Q')
 (q:∀D ys H',H1 D=none→Same H1 H'→H' D=some (.lst ys)→ys.length=kvs.length→(∀i y,ys[i]?=some y→P i y H')→Q (.ref D) H'):CompTail (none::tail) (fun _=>gName 0) (fun _=>tYes) te Q (Itk o d) H1:=by
 refine comp_by kvs.length (fun b D hD=>⟨fun i ys H=>i≤kvs.length∧ys.length=i∧H D=some (.lst ys)∧Same H1 H∧∀j y,ys[j]?=some y→P j y H,⟨Nat.zero_le _,rfl,upd_same,same_new hD,fun j y e=>by simp at e⟩,?_,?_,?_⟩)
 · rintro i ys H ⟨hi,hl,h,_⟩
   exact h
 · rintro ys H ⟨_,hl,h,sm,hall⟩
   exact ⟨⟨kvs,sm _ _ hd,Nat.le_refl _⟩,q D ys H hD sm h hl hall⟩
 · rintro i ys H hi ⟨_,hl,h,sm,hall⟩
   refine ⟨⟨kvs,kvs[i],sm _ _ hd,by simp [hi]⟩,fun x H3 ⟨e3,ex⟩=>?_⟩
   subst e3
   obtain ⟨p,e1,e2⟩:=ex kvs (sm _ _ hd)
   subst e2
   refine he b i p _ _ e1 sm fun y H4 sm4 py=>compNext (sm4 _ _ h) (by omega) hi ⟨hi,by rw [List.length_append,hl];rfl,upd_same,fun c o e=>?_,fun j y' e=>?_⟩
   · rw [upd_ne (ne_of_none e hD)];exact sm4 _ _ (sm _ _ e)
   · have sb:SameBut D H4 (upd H4 D (.lst (ys++[y]))):=sameBut_upd
     by_cases hj:j < ys.length
     · rw [List.getElem?_append_left hj]at e
       exact hP j _ _ _ _ _ (hall j y' e) h fun c o e n=>by rw [upd_ne n];exact sm4 _ _ e
     · rw [List.getElem?_append_right (by omega)]at e
       have hj0:j=i:=by have:=(List.getElem?_eq_some_iff.mp e).1;simp at this;omega
       subst hj0
       rw [show j - ys.length=0 by omega]at e
       cases e
       exact hP j _ _ _ _ _ py (sm4 _ _ h) sb
end
end L2
namespace N67
open L2 N1 N5 N4 N6 N12 N32 N41 N14 N20 N18 N25 NR N22 N21 N26 N28 N63 N64 N62 N66 N13
open N53 (NumV)
inductive Du where
 | no | num | many | rule
 | unk (z:Str) (i:Nat)
 | wide (z:Str) (i:Nat)
structure Ex5 where
 N:Addr
 M:Addr
 R:Addr
 U:Addr
 W:Addr
noncomputable def Du.c(x:Ex5):Du→Addr
 | .no=>x.N | .num=>x.N | .many=>x.M | .rule=>x.R | .unk _ _=>x.U | .wide _ _=>x.W
noncomputable def Du.tl:Du→List V
 | .unk z i=>[.str "unknown",.str z,.int i]
 | .wide z i=>[.str "too wide",.str z,.int i]
 | .no=>[] | .num=>[.str "no number"] | .many=>[.str "too many"] | .rule=>[.str "no rule"]
noncomputable def DueV(H:Hp)(r:V)(d:Du):Prop:=(d= .no∧r= .non)∨(d≠ .no∧∃t,r= .ref t∧H t=some (.tup d.tl))
theorem DueV.same{H H':Hp}{r:V}{d:Du}(s:Same H H')(h:DueV H r d):DueV H' r d:=by
 rcases h with h | ⟨n,t,e,h⟩
 · exact .inl h
 · exact .inr ⟨n,t,e,s _ _ h⟩
theorem tl_flat{d:Du}:∀x∈d.tl,flatV x=true:=by
 intro x h
 cases d <;> simp [Du.tl]at h
 · rw [h];rfl
 · rw [h];rfl
 · rw [h];rfl
 · rcases h with h | h | h <;> rw [h] <;> rfl
 · rcases h with h | h | h <;> rw [h] <;> rfl
theorem DueV.like{K:PySem.W.Frag}{H:Hp}{r r':V}{d:Du}(h:DueV H r d)(h':DueV H r' d):(r= .non∧r'= .non)∨LikeR K 1 H r r':=by
 rcases h with ⟨e,h⟩ | ⟨n,t,e,h⟩
 · rcases h' with ⟨_,h'⟩ | ⟨n,_⟩
   · exact .inl ⟨h,h'⟩
   · exact absurd e n
 · rcases h' with ⟨z,_⟩ | ⟨_,t',e',h'⟩
   · exact absurd z n
   · refine .inr ⟨t,t',_,_,e,e',.inr ⟨SqT.of h,SqT.of h'⟩,rfl,fun i x y e1 e2=>?_⟩
     rw [e1]at e2
     cases e2
     exact LikeN.flat (tl_flat x (List.mem_of_getElem? e1))
noncomputable def ErrD(x:Ex5)(H:Hp)(y:Addr):Du→Prop
 | .no=>False
 | .unk z i=>ErrU x.U H y (.str z) (.int i)
 | .wide z i=>ErrU x.W H y (.str z) (.int i)
 | .num=>Err0 x.N H y
 | .many=>Err0 x.M H y
 | .rule=>Err0 x.R H y
noncomputable def RefD(x:Ex5)(H:Hp)(E:XK)(d:Du):Prop:=∀H' y,Same H H'→H y=none→ErrD x H' y d→E (.ref (d.c x)) (some y) H'
theorem RefD.at{x:Ex5}{H H1:Hp}{E:XK}{d:Du}(h:RefD x H E d)(s:Same H H1):RefD x H1 E d:=fun H' y s' hy e=>h H' y (s.trans s') (same_none s hy) e
noncomputable def lackD(ts:List Th)(v u:V)(ys:List Str):Du:=
 if wIn 1 1000000 v=true then
  if 200 < ys.length then .many
  else match bad ts (iOf v) ys 0 with
   | some (true,z,i)=> .unk z i
   | some (false,z,i)=> .wide z i
   | none=>if wIn (iOf v) 1000000 u=true then .no else .num
 else .num
noncomputable def rowD(a b v u:V):Du:=if (wIn 1 4 a=true∧wIn 1 6 b=true)∧wIn 1 1000000 v=true∧wIn (iOf v) 1000000 u=true then .no else .num
inductive Wd where
 | r (w:Wr) | t (z:Str) | n
noncomputable def texts67:List Str:=["oldest","dues","halving","farthest","row","","First"]
noncomputable def Wd.v:Wd→V
 | .r w=> .str w.s | .t z=> .str z | .n=> .non
noncomputable def Wd.ok:Wd→Prop
 | .t z=>z∈texts67
 | _=>True
noncomputable def worseD:Wd→V→Du
 | .r w,v=>if wIn w.lo 20 v=true then .no else .num
 | _,_=> .rule
theorem wIn_non{lo hi:Int}{v:V}(h:∀i,v≠ .int i):wIn lo hi v=false:=by
 cases v <;> first | rfl | exact absurd rfl (h _)
section
variable {ts:List Th} {v u:V} {ys:List Str}
theorem lack_num(h:askD ts v ys=(Str.ofString "number",none)):lackD ts v u ys= .num:=by
 unfold askD at h
 unfold lackD
 split at h
 · split at h
   · cases h
   · split at h <;> cases h
 · rename_i hw
   rw [if_neg hw]
theorem lack_many(h:askD ts v ys=(Str.ofString "many",none)):lackD ts v u ys= .many:=by
 unfold askD at h
 unfold lackD
 split at h
 · rename_i hw
   rw [if_pos hw]
   split at h
   · rename_i h2
     rw [if_pos h2]
   · split at h <;> cases h
 · cases h
theorem lack_unk{z:Str}{i:Nat}(h:askD ts v ys=(Str.ofString "unknown",some (z,i))):lackD ts v u ys= .unk z i:=by
 unfold askD at h
 unfold lackD
 split at h
 · rename_i hw
   rw [if_pos hw]
   split at h
   · cases h
   · rename_i h2
     rw [if_neg h2]
     split at h
     · rename_i z' i' e
       try rw [e]
       cases h
       rfl
     · cases h
     · cases h
 · cases h
theorem lack_wide{z:Str}{i:Nat}(h:askD ts v ys=(Str.ofString "wide",some (z,i))):lackD ts v u ys= .wide z i:=by
 unfold askD at h
 unfold lackD
 split at h
 · rename_i hw
   rw [if_pos hw]
   split at h
   · cases h
   · rename_i h2
     rw [if_neg h2]
     split at h
     · cases h
     · rename_i z' i' e
       try rw [e]
       cases h
       rfl
     · cases h
 · cases h
theorem rm_rmOf{z:Str}:rm ts z=rmOf ts z:=by
 unfold rm rmOf
 cases ts.find? (fun t=>decide (t.1=z)) <;> rfl
theorem bad_none{n:Int}:∀{ys:List Str} {i:Nat},bad ts n ys i=none↔(∀y∈ys,y∈ts.map (·.1))∧∀y∈ys,rm ts y≤n:=by
 intro ys
 induction ys with
 | nil=>intro i;exact ⟨fun _=>⟨by simp,by simp⟩,fun _=>rfl⟩
 | cons y r ih=>
  intro i
  show (if y∈ts.map (·.1) then (if n < rmOf ts y then some (false,y,i) else bad ts n r (i+1)) else some (true,y,i))=none↔_
  rw [← rm_rmOf]
  by_cases h:y∈ts.map (·.1)
  · rw [if_pos h]
    by_cases h2:n < rm ts y
    · rw [if_pos h2]
      exact ⟨fun e=>(by cases e),fun e=>(by have:=e.2 y (by simp);omega)⟩
    · rw [if_neg h2,ih]
      constructor
      · intro ⟨a,b⟩
        exact ⟨fun x hx=>by rcases List.mem_cons.mp hx with e | e;rw [e];exact h;exact a x e,fun x hx=>by rcases List.mem_cons.mp hx with e | e;rw [e];omega;exact b x e⟩
      · intro ⟨a,b⟩
        exact ⟨fun x hx=>a x (List.mem_cons_of_mem _ hx),fun x hx=>b x (List.mem_cons_of_mem _ hx)⟩
  · rw [if_neg h]
    exact ⟨fun e=>(by cases e),fun e=>absurd (e.1 y (by simp)) h⟩
theorem ask_fine(h:askD ts v ys=(Str.ofString "fine",none)):∃n:Int,v= .int n∧1≤n∧n≤1000000∧ys.length≤200∧(∀y∈ys,y∈ts.map (·.1))∧(∀y∈ys,rm ts y≤n)∧lackD ts v u ys=if wIn n 1000000 u=true then .no else .num:=by
 unfold askD at h
 split at h
 · rename_i hw
   obtain ⟨n,rfl,h1,h2⟩:=N53.wIn_one hw
   split at h
   · cases h
   · rename_i h3
     split at h
     · cases h
     · cases h
     · rename_i e
       have b:=bad_none.mp e
       refine ⟨n,rfl,h1,h2,by omega,b.1,b.2,?_⟩
       unfold lackD
       rw [if_pos hw,if_neg h3,e]
       rfl
 · cases h
theorem fine_ask{n:Int}(h1:1≤n)(h2:n≤1000000)(h3:ys.length≤200)(h4:∀y∈ys,y∈ts.map (·.1))(h5:∀y∈ys,rm ts y≤n):askD ts (.int n) ys=(Str.ofString "fine",none):=by
 unfold askD
 rw [if_pos (N53.wIn_is h1 h2),if_neg (by omega)]
 show (match bad ts n ys 0 with | some (true,z,i)=>_ | some (false,z,i)=>_ | none=>_)=_
 rw [bad_none.mpr ⟨h4,h5⟩]
end
theorem lack_no{ts:List Th}{ys:List Str}{n m:Int}(h1:1≤n)(h2:n≤m)(h3:m≤1000000)(hl:ys.length≤200)(h4:∀y∈ys,y∈ts.map (·.1))(h5:∀y∈ys,rm ts y≤n):lackD ts (.int n) (.int m) ys= .no:=by
 unfold lackD
 rw [if_pos (N53.wIn_is h1 (by omega)),if_neg (by omega)]
 show (match bad ts n ys 0 with | some (true,z,i)=>_ | some (false,z,i)=>_ | none=>_)=_
 rw [bad_none.mpr ⟨h4,h5⟩]
 exact if_pos (N53.wIn_is h2 h3)
section
variable {K:PySem.W.Frag} {C xN xM xU xW:Addr} {vs:List V} {H:Hp} {Q:VK} {E:XK}
theorem im_places:sp32_check vs H Q E→sp13_check K xN vs H Q E:=fun ⟨i,e,h1,h2,q⟩=>⟨.int i,e,NumV.flat rfl,fun _=>q,fun h=>by rw [N53.wIn_is h1 h2]at h;cases h⟩
theorem im_asks:N41.sp41_asks K C vs H Q E→sp13_asks K C xN xM xU xW vs H Q E:=fun ⟨p,a,pl,ts,ys,e,h1,h2,h3,h4,h5,h6,h7,h8,q⟩=>by
 have f:=fine_ask h7 h8 h4 h5 h6
 exact ⟨p,a,.int pl,ts,ys,e,h1,h2,h3,by omega,NumV.flat rfl,fun _=>q,(fun z=>by rw [f]at z;cases z),(fun z=>by rw [f]at z;cases z),(fun _ _ z=>by rw [f]at z;cases z),(fun _ _ z=>by rw [f]at z;cases z)⟩
end
theorem lts_nodup{k:Nat}(h:k≤26):(lts k).Nodup:=by
 have e:(lts 26).Nodup:=by decide+kernel
 rw [← lts_take h]
 exact e.sublist (List.take_sublist _ _)
noncomputable abbrev s10:S1:=⟨0,[],[]⟩
noncomputable def AnsV(H:Hp)(r:V):Prop:=r= .non∨∃t xs,r= .ref t∧H t=some (.tup xs)
noncomputable def sp67_mk(C:Addr):Sp:=fun vs H Q _=>∃(st a:Addr) (n:Int),vs=[.ref st,.int n,.ref a]∧1≤n∧n≤1000000∧∀(q:Addr) (M:List Addr) (H':Hp),Same H H'→(∀m∈M,H m=none)→(T1 C).At H' M q st n s10→Q (.ref q) H'
noncomputable def sp67_maker(f:Addr):Sp:=fun vs H Q _=>vs=[.str "first"]∧Q (.ref f) H
noncomputable def sp67_greater(x:Ex5):Sp:=fun vs H Q E=>∃(n:Int) (u:V),vs=[.int n,u]∧flatV u=true∧(wIn n 1000000 u=true→Q .non H)∧(wIn n 1000000 u=false→RefD x H E .num)
noncomputable def sp67_by(K:PySem.W.Frag)(S C f:Addr):Sp:=fun vs H Q _=>∃(st a:Addr) (n:Int) (ts:List Th) (ys:List Str),vs=[.ref f,.ref st,.ref a,.int n]∧RowOk K S H st a n ts ys∧
 ∀l qs H',H l=none→Same H H'→Told H H' l qs (W6 (T1 C) s10 ts n ys) ys.length→Q (.ref l) H'
noncomputable def sp67_lack(K:PySem.W.Frag)(S f:Addr)(x:Ex5):Sp:=fun vs H Q E=>∃(st a:Addr) (v u:V) (ts:List Th) (ys:List Str),vs=[.ref st,.ref a,v,u,.ref f]∧StockAt K S H st ts∧(ts.map (·.1)).Nodup∧ts.length≤60∧H a=some (.lst (ys.map V.str))∧ys.length≤250∧flatV v=true∧flatV u=true∧
 (lackD ts v u ys= .no→∀r H',Same H H'→AnsV H' r→Q r H')∧RefD x H E (lackD ts v u ys)
noncomputable def sp67_search(x:Ex5):Sp:=fun vs H Q E=>∃(a b v u:V),vs=[a,b,v,u]∧flatV a=true∧flatV b=true∧flatV v=true∧flatV u=true∧(rowD a b v u= .no→Q .non H)∧RefD x H E (rowD a b v u)
noncomputable def RowsK(H:Hp)(ra:Addr)(k:Nat)(nm:List Str)(m:Nat):Prop:=∃rs:List Addr,H ra=some (.lst (rs.map V.ref))∧rs.length≤m∧∀r∈rs,∃ys:List Str,H r=some (.lst (ys.map V.str))∧ys.length=k∧∀y∈ys,y∈nm
theorem RowsK.same{H H':Hp}{ra:Addr}{k:Nat}{nm:List Str}{m:Nat}(s:Same H H')(h:RowsK H ra k nm m):RowsK H' ra k nm m:=let ⟨rs,h1,h2,h3⟩:=h;⟨rs,s _ _ h1,h2,fun r hr=>let ⟨ys,a,b⟩:=h3 r hr;⟨ys,s _ _ a,b⟩⟩
noncomputable def sp67_longer(K:PySem.W.Frag):Sp:=fun vs H Q _=>∃(ra na:Addr) (k m:Nat) (nm:List Str),vs=[.ref ra,.ref na]∧RowsK H ra k nm m∧SqL K H na (nm.map V.str)∧nm.length≤4∧m≤1024∧k≤5∧∀l H',Same H H'→RowsK H' l (k+1) nm (4 * m)→Q (.ref l) H'
noncomputable def sp67_row(f:Addr)(x:Ex5):Sp:=fun vs H Q E=>∃(a b v u:V),vs=[.ref f,a,b,v,u]∧flatV a=true∧flatV b=true∧flatV v=true∧flatV u=true∧(rowD a b v u= .no→∀r H',Same H H'→Q r H')∧RefD x H E (rowD a b v u)
noncomputable def sp67_worse(x:Ex5):Sp:=fun vs H Q E=>∃(w:Wd) (v:V),vs=[w.v,v]∧w.ok∧flatV v=true∧(worseD w v= .no→∀r H',Same H H'→Q r H')∧RefD x H E (worseD w v)
inductive Ask(K:PySem.W.Frag)(S f:Addr)(H:Hp):Int→List V→Du→Prop
 | lack {st a:Addr} {v u:V} {ts:List Th} {ys:List Str} (h1:StockAt K S H st ts) (h2:(ts.map (·.1)).Nodup) (h3:ts.length≤60) (h4:H a=some (.lst (ys.map V.str))) (h5:ys.length≤250) (h6:flatV v=true) (h7:flatV u=true):Ask K S f H 0 [.ref st,.ref a,v,u,.ref f] (lackD ts v u ys)
 | row {a b v u:V} (h1:flatV a=true) (h2:flatV b=true) (h3:flatV v=true) (h4:flatV u=true):Ask K S f H 1 [.ref f,a,b,v,u] (rowD a b v u)
 | worse {w:Wd} {v:V} (h1:w.ok) (h2:flatV v=true):Ask K S f H 2 [w.v,v] (worseD w v)
noncomputable def sp67_refusal(K:PySem.W.Frag)(S f:Addr):Sp:=fun vs H Q _=>∃(i:Int) (l:Addr) (xs:List V) (d:Du),vs=[.int i,.ref l]∧H l=some (.lst xs)∧Ask K S f H i xs d∧∀r H',Same H H'→DueV H' r d→Q r H'
noncomputable def Rm2(H:Hp)(d:Addr)(ts:List Th):Prop:=RmAt H d ts∨H d=some (.dK (ts.map fun t=>(Sum.inr t.1,.int t.2.2)))
theorem Rm2.same{H H':Hp}{d:Addr}{ts:List Th}(s:Same H H')(h:Rm2 H d ts):Rm2 H' d ts:=by
 rcases h with h | h
 · exact .inl (h.same s)
 · exact .inr (s _ _ h)
theorem Rm2.get{H:Hp}{d:Addr}{ts:List Th}{z:Str}(h:Rm2 H d ts):DGet H d (.str z) (valV (ts.map fun t=>((Sum.inr t.1:Key),V.int t.2.2)) (Sum.inr z)):=by
 rcases h with h | h
 · exact h.get
 · exact DGet.k (k:=Sum.inr z) h
theorem kvN_ts{zs:List Str}{R C:Str→Int}:kvN zs R=(tsF C R zs).map fun t=>((Sum.inr t.1:Key),V.int t.2.2):=by
 unfold kvN tsF
 rw [List.map_map]
 rfl
noncomputable def sp67_ldue(K:PySem.W.Frag):Sp:=fun vs H Q _=>∃(a e:Addr) (v u:V) (ts:List Th) (ys:List Str),vs=[.ref a,.ref e,v,u]∧SqL K H a (ys.map V.str)∧ys.length≤250∧Rm2 H e ts∧flatV v=true∧flatV u=true∧∀r H',Same H H'→DueV H' r (lackD ts v u ys)→Q r H'
noncomputable def sp67_rdue:Sp:=fun vs H Q _=>∃(l:Addr) (a b v u:V),vs=[.ref l]∧H l=some (.lst [a,b,v,u])∧flatV a=true∧flatV b=true∧flatV v=true∧flatV u=true∧∀r H',Same H H'→DueV H' r (rowD a b v u)→Q r H'
noncomputable def sp67_wdue:Sp:=fun vs H Q _=>∃(w:Wd) (v:V),vs=[w.v,v]∧w.ok∧flatV v=true∧∀r H',Same H H'→DueV H' r (worseD w v)→Q r H'
noncomputable def num67(c m:Int):List V:=[.int 0,.int 1,.int 2,.int 3,.int m,.int (m+1),.int (-2),.bl true,.non,.str "2",.int (1+c / 11 % 4)]
theorem num67_at{c m:Int}(h0:0≤c % 11)(h1:c % 11 < 11):∃v,atI (num67 c m) (c % 11)=some v∧flatV v=true:=by
 obtain ⟨k,hk⟩:∃k:Nat,c % 11=(k:Int):=⟨(c % 11).toNat,by omega⟩
 rw [hk]at h1 ⊢
 have h2:k < (num67 c m).length:=by show k < 11;omega
 refine ⟨(num67 c m)[k],atI_nat (List.getElem?_eq_getElem h2),?_⟩
 have:∀x∈num67 c m,flatV x=true:=by
  intro x hx
  simp only [num67,List.mem_cons,List.not_mem_nil,or_false]at hx
  rcases hx with e | e | e | e | e | e | e | e | e | e | e <;> rw [e] <;> rfl
 exact this _ (List.getElem_mem h2)
noncomputable def sp67_number:Sp:=fun vs H Q _=>∃c m:Int,vs=[.int c,.int m]∧∀v H',Same H H'→flatV v=true→Q v H'
noncomputable def sp67_asks(K:PySem.W.Frag):Sp:=fun vs H Q _=>∃(s n:Addr) (m:Nat) (ns:List Int) (nm:List Str),vs=[.ref s,.ref n,.int m]∧SqL K H s (ns.map V.int)∧ns.length≤63∧SqL K H n (nm.map V.str)∧nm.length=m+1∧1≤m∧m≤6∧∀(a:Addr) (ys:List Str) H',Same H H'→H' a=some (.lst (ys.map V.str))→ys.length≤250→Q (.ref a) H'
theorem row_no{a b v u:V}(h:rowD a b v u= .no):∃(k l:Nat) (n m:Int),a= .int (k:Int)∧1≤k∧k≤4∧b= .int (l:Int)∧1≤l∧l≤6∧v= .int n∧1≤n∧n≤1000000∧u= .int m∧n≤m∧m≤1000000:=by
 unfold rowD at h
 split at h
 · rename_i k
   obtain ⟨⟨h1,h2⟩,h3,h4⟩:=k
   obtain ⟨i,rfl,a1,a2⟩:=N53.wIn_one h1
   obtain ⟨j,rfl,b1,b2⟩:=N53.wIn_one h2
   obtain ⟨n,rfl,c1,c2⟩:=N53.wIn_one h3
   obtain ⟨m,rfl,d1,d2⟩:=N53.wIn_one h4
   obtain ⟨i,rfl⟩:∃k:Nat,i=(k:Int):=⟨i.toNat,by omega⟩
   obtain ⟨j,rfl⟩:∃k:Nat,j=(k:Int):=⟨j.toNat,by omega⟩
   exact ⟨i,j,n,m,rfl,by omega,by omega,rfl,by omega,by omega,rfl,c1,c2,rfl,d1,d2⟩
 · cases h
theorem cut_anyM(l:List Str)(a b:Option Int):∃cs:List Str,cutV (l.map V.str) a b=cs.map V.str∧cs.length≤l.length∧∀y∈cs,y∈l:=by
 unfold cutV
 rw [← List.map_drop,← List.map_take]
 refine ⟨_,rfl,?_,fun y hy=>List.mem_of_mem_drop (List.mem_of_mem_take hy)⟩
 rw [List.length_take,List.length_drop]
 omega
noncomputable def wds67:List Wd:=[.r .fi,.r .hd,.r .ro,.t "oldest",.t "dues",.t "halving",.t "farthest",.t "row",.t "",.n,.t "First"]
theorem wds67_at{k:Int}(h0:0≤k)(h1:k < 11):∃w:Wd,atI (wds67.map Wd.v) k=some w.v∧w.ok:=by
 obtain ⟨j,rfl⟩:∃j:Nat,k=(j:Int):=⟨k.toNat,by omega⟩
 have h2:j < wds67.length:=by show j < 11;omega
 refine ⟨wds67[j],atI_nat (by rw [List.getElem?_map,List.getElem?_eq_getElem h2];rfl),?_⟩
 have:∀x∈wds67,x.ok:=by
  intro x hx
  simp only [wds67,List.mem_cons,List.not_mem_nil,or_false]at hx
  rcases hx with e | e | e | e | e | e | e | e | e | e | e <;> rw [e] <;> first | trivial | (show _∈texts67;simp [texts67])
 exact this _ (List.getElem_mem h2)
noncomputable def sp67_word(w:Str):Sp:=fun vs H Q _=>∃x,vs=[x]∧Q (.str w) H
noncomputable def sp67_mixed:Sp:=fun vs H Q _=>∃c k:Int,vs=[.int c,.int k]∧∀r:Int,Q (.int r) H
end N67
namespace K67
open L2 N1 N5 N4 N6 N12 N32 N41 N14 N20 N18 N25 NR N22 N21 N26 N28 N63 N64 N62 N66 N13 N67
local macro_rules | `(tactic| walk_at "rq") => `(tactic| simp only [rd_asg, rd_var, rd_c, rd_op, rd_I0, rd_I, rd_U, rd_name, rd_ifS, rd_test, rd_b, rd_ret, rd_retN, rd_next, rd_break, rd_cont, rd_cb, rd_cons, rd_nil, rd_call, rd_not, rd_or, rd_and, rd_andV, rd_orV, rd_notV, rd_if, rd_un, rd_eq, rd_ne, rd_par, rd_tup, rd_lst, rd_never, rd_drop, rd_gcons, rd_gnil, rd_gsub, rd_chain, rd_rng1, rd_rng2, rd_ilist, rd_itup, rd_for', sc_nn, sc_ni, sc_in, sc_nb, sc_bn, sc_ns, sc_sn, sc_ii, sc_bb, sc_ss, sc_is, sc_si, sc_bs, sc_sb, rd_comp, rd_istr, rd_sl, rd_noPart, rd_part, rd_slS, rd_slL, rd_bm, rd_bm0, tyV_str, rd_join, rd_find, rd_split, rd_all, rd_mulS, rd_jnil, rd_jcons, rd_fstr, rd_fmt, rd_fmtR, rd_dnewK, true_implies, false_implies, Bool.false_and, Bool.true_and, Bool.and_true, Bool.and_false, Bool.false_or, Bool.true_or, Bool.or_true, Bool.or_false, rd_eqQ, rd_neQ, rd_methE, rd_makeE, rd_fld, rd_sfld, rd_din, rd_dnotin, rd_dget, rd_dput, rd_gtup, rd_inS, rd_notinS, hasS_one, blk_K, Int.zero_add, Int.toNat_natCast, upd_upd, List.map_cons, List.map_nil, List.getD_cons_zero, List.getD_cons_succ, cxOf_K, List.length_cons, List.length_nil, List.getElem?_cons_zero, List.getElem?_cons_succ, List.set_cons_zero, List.set_cons_succ, Option.some.injEq, V.int.injEq, V.bl.injEq, V.str.injEq, V.ref.injEq, V.ty.injEq, exists_eq_left', exists_eq_left, exists_and_left, exists_eq, exists_eq', List.cons.injEq, and_true, true_and, decide_eq_true_eq, Bool.not_eq_true', decide_eq_false_iff_not, reduceCtorEq, exists_const, Bool.true_eq_false, Bool.false_eq_true, if_true, if_false, ite_true, ite_false, Bool.not_true, Bool.not_false, decide_true, decide_false, Bool.not_not, false_and, and_false, exists_false, false_or, or_false, true_or, or_true, and_assoc, not_true_eq_false, not_false_eq_true, Int.reduceToNat, Nat.reduceAdd, rd_raiseF, rd_raiseI, rd_hasF, rd_fldX, rd_sfldX, rd_methX, rd_exc, rd_excI, rd_listD, rd_values, rd_sumV, rd_remove, rd_isB, rd_isnB, rd_dpop1, rd_dget2, rd_popAt, rd_glst, rd_tryV, rd_hclsV, rd_hasV, tryX_K, sui_K, rd_raise, rd_callE, rd_hnil, rd_ends, rd_isiE, exists_eq_right, sp_cell, sp_made, sp_is_name, sp_is_whole, sp_checkG, sp_initG, sp_has, sp32_room, sp32_thing, sp32_check, N41.sp41_asks, sp_putG, sp_castG, rd_listD, rd_values, rd_sumV, rd_remove, rd_dpop1, sp_sinit, sp_lying, sp_holds, sp_left, rd_ienum, rd_izip, rd_items, rd_iview, sp14_casts, sp14_serves, sp14_after, rd_comp3, rd_compI, rd_comp2, rd_maxL, rd_maxV, rd_neN, rd_setL, rd_dget1, rd_callS, rd_sumL, rd_minK, spR_asked, spR_choice, spR_gone, spR_came, spR_room, spR_row, rd_fldaug, rd_dget2, rAdd, rd_augN, rd_ipI, rd_isnB, rd_isiO, rd_sortS, sp22_number, sp22_rank, sp22_init, spR_bookN, rd_makeD, rd_makeK, gV31_at, rd_dictOf, rd_methI, rd_neDD, rd_ipM, List.cons_append, List.nil_append, rd_meth2, rd_disp1, sp41_names, rd_kget, rd_knin, sp28_rinit, sp28_kinit, rd_callF, rd_listS, rd_catQ, rd_rep, rd_lenset, sp66_row, sp_within, N53.sp53_within, sp13_check, sp13_asks, sp_unk, sp67_word, sp67_mk, sp67_maker, sp67_greater, sp67_by, sp67_lack, sp67_search, sp67_longer, sp67_row, sp67_worse, sp67_refusal, sp67_ldue, sp67_rdue, sp67_wdue, sp67_number, sp67_asks, sp67_mixed, sp_law, rd_methA, rd_eqN, rd_orR, rd_idict, rd_eqI])
local macro_rules | `(tactic| walk_at "rd") => `(tactic| first | (dsimp only [rd_asg, rd_var, rd_c, rd_op, rd_I0, rd_I, rd_U, rd_name, rd_ifS, rd_test, rd_b, rd_ret, rd_retN, rd_next, rd_break, rd_cont, rd_cb, rd_cons, rd_nil, rd_call, rd_not, rd_or, rd_and, rd_andV, rd_orV, rd_notV, rd_if, rd_un, rd_eq, rd_ne, rd_par, rd_tup, rd_lst, rd_never, rd_drop, rd_gcons, rd_gnil, rd_gsub, rd_chain, rd_rng1, rd_rng2, rd_ilist, rd_itup, rd_for', sc_nn, sc_ni, sc_in, sc_nb, sc_bn, sc_ns, sc_sn, sc_ii, sc_bb, sc_ss, sc_is, sc_si, sc_bs, sc_sb, rd_comp, rd_istr, rd_sl, rd_noPart, rd_part, rd_slS, rd_slL, rd_bm, rd_bm0, tyV_str, rd_join, rd_find, rd_split, rd_all, rd_mulS, rd_jnil, rd_jcons, rd_fstr, rd_fmt, rd_fmtR, rd_dnewK, true_implies, false_implies, Bool.false_and, Bool.true_and, Bool.and_true, Bool.and_false, Bool.false_or, Bool.true_or, Bool.or_true, Bool.or_false, rd_eqQ, rd_neQ, rd_methE, rd_makeE, rd_fld, rd_sfld, rd_din, rd_dnotin, rd_dget, rd_dput, rd_gtup, rd_inS, rd_notinS, hasS_one, blk_K, Int.zero_add, Int.toNat_natCast, upd_upd, List.map_cons, List.map_nil, List.getD_cons_zero, List.getD_cons_succ, cxOf_K, List.length_cons, List.length_nil, List.getElem?_cons_zero, List.getElem?_cons_succ, List.set_cons_zero, List.set_cons_succ, Option.some.injEq, V.int.injEq, V.bl.injEq, V.str.injEq, V.ref.injEq, V.ty.injEq, exists_eq_left', exists_eq_left, exists_and_left, exists_eq, exists_eq', List.cons.injEq, and_true, true_and, decide_eq_true_eq, Bool.not_eq_true', decide_eq_false_iff_not, reduceCtorEq, exists_const, Bool.true_eq_false, Bool.false_eq_true, if_true, if_false, ite_true, ite_false, Bool.not_true, Bool.not_false, decide_true, decide_false, Bool.not_not, false_and, and_false, exists_false, false_or, or_false, true_or, or_true, and_assoc, not_true_eq_false, not_false_eq_true, Int.reduceToNat, Nat.reduceAdd, rd_raiseF, rd_raiseI, rd_hasF, rd_fldX, rd_sfldX, rd_methX, rd_exc, rd_excI, rd_listD, rd_values, rd_sumV, rd_remove, rd_isB, rd_isnB, rd_dpop1, rd_dget2, rd_popAt, rd_glst, rd_tryV, rd_hclsV, rd_hasV, tryX_K, sui_K, rd_raise, rd_callE, rd_hnil, rd_ends, rd_isiE, exists_eq_right, sp_cell, sp_made, sp_is_name, sp_is_whole, sp_checkG, sp_initG, sp_has, sp32_room, sp32_thing, sp32_check, N41.sp41_asks, sp_putG, sp_castG, rd_listD, rd_values, rd_sumV, rd_remove, rd_dpop1, sp_sinit, sp_lying, sp_holds, sp_left, rd_ienum, rd_izip, rd_items, rd_iview, sp14_casts, sp14_serves, sp14_after, rd_comp3, rd_compI, rd_comp2, rd_maxL, rd_maxV, rd_neN, rd_setL, rd_dget1, rd_callS, rd_sumL, rd_minK, spR_asked, spR_choice, spR_gone, spR_came, spR_room, spR_row, rd_fldaug, rd_dget2, rAdd, rd_augN, rd_ipI, rd_isnB, rd_isiO, rd_sortS, sp22_number, sp22_rank, sp22_init, spR_bookN, rd_makeD, rd_makeK, gV31_at, rd_dictOf, rd_methI, rd_neDD, rd_ipM, List.cons_append, List.nil_append, rd_meth2, rd_disp1, sp41_names, rd_kget, rd_knin, sp28_rinit, sp28_kinit, rd_callF, rd_listS, rd_catQ, rd_rep, rd_lenset, sp66_row, sp_within, N53.sp53_within, sp13_check, sp13_asks, sp_unk, sp67_word, sp67_mk, sp67_maker, sp67_greater, sp67_by, sp67_lack, sp67_search, sp67_longer, sp67_row, sp67_worse, sp67_refusal, sp67_ldue, sp67_rdue, sp67_wdue, sp67_number, sp67_asks, sp67_mixed, sp_law, rd_methA, rd_eqN, rd_orR, rd_idict, rd_eqI]; try walk_at "rq") | walk_at "rq")
local macro_rules | `(tactic| walk_at "hp") => `(tactic| first | with_reducible assumption | exact upd_same | (rw [upd_ne (by first | with_reducible assumption | exact ne_of_none (by with_reducible assumption) (by with_reducible assumption))]; first | with_reducible assumption | exact upd_same))
local macro_rules | `(tactic| walk_at "sq") => `(tactic| (repeat' first | with_reducible assumption | exact SqT.of upd_same | exact SqL.of upd_same | refine' Same.tup (Same.new (by with_reducible assumption)) ?_ | refine' Same.seq (Same.new (by with_reducible assumption)) ?_))
local macro_rules | `(tactic| walk_at "isi") => `(tactic| first | exact isi_ii | exact isi_ib | exact isi_bb | exact isi_is | exact isi_ss | exact isi_si | exact isi_sb | exact isi_bi | exact isi_bs | exact isi_ni | exact isi_ns | exact isi_tupt (by walk_at "hp") | exact isi_lstl (by walk_at "hp") | exact isi_tupl (by walk_at "hp") | exact isi_lstt (by walk_at "hp") | exact isi_tups (by walk_at "hp") | exact isi_lsts (by walk_at "hp") | exact isi_tupi (by walk_at "hp") | exact isi_lsti (by walk_at "hp"))
local macro_rules | `(tactic| walk_at "slen") => `(tactic| first | omega | decide +kernel | (refine le_app ?_ ?_ <;> walk_at "slen"))
local macro_rules | `(tactic| walk_at "side") => `(tactic| first | with_reducible assumption | with_reducible exact cdiv_of (by omega) (by omega) | with_reducible exact cpow_of (by decide) (by decide) (by decide) | with_reducible exact cmul_l (by omega) (by omega) | with_reducible exact cmul_r (by omega) (by omega) | omega | decide | decide +kernel | (have := line_val; omega) | (simp only [len_app, len_one, line_val]; omega) | (rw [line_val]; walk_at "slen"; done))
local macro_rules | `(tactic| walk_at "go1") => `(tactic| first | walk_at "rd" | ((with_reducible refine And.intro ?_ ?_); (focus (walk_at "side"; done))) | ((with_reducible apply isi_go); (focus (walk_at "isi"; done))) | ((with_reducible apply ixT_of); (focus (walk_at "sq"; done)); (focus rfl)) | ((with_reducible apply ixL_of); (focus (walk_at "sq"; done)); (focus rfl)) | ((with_reducible apply len_goT); (focus (walk_at "sq"; done))) | ((with_reducible apply len_goL); (focus (walk_at "sq"; done))) | ((with_reducible apply script_go); (focus (walk_at "sq"; done)); (focus (assumption; done))) | ((with_reducible apply cell_go); (focus (walk_at "sq"; done)); (focus (decide; done)); (focus (assumption; done))) | (intro (_ : List (Addr × PySem.Obj)) (_ : PySem.Value → PySem.Shared → Prop)) | with_reducible refine seq_go fun _ _ => ?_ | (refine leaf_go (by with_reducible assumption) ?_; subst_vars))
local macro_rules | `(tactic| walk_at "go") => `(tactic| repeat walk_at "go1")
noncomputable def top(i:Nat):Stmt:=PySem.Challenge.pw_castoff_k67_what_is_refused_here.main.body.getD i (.Pass ⟨0,0,0,0⟩)
structure Txt(K:W.Frag)(mg:Str→Option Value)(xU0 xU1 xU2 Z3 Z1 Z2 Z4 Z7 Z8 Z6 Z5 Zc Z9 Z0 xmake_oldest xmake_first xmake_halving xmake_farthest xmake_hand xmake_rows xmake_dues xrow_of_rounds xrow_of_pairs Za Zb:Addr):Prop where
 Zct:mg "Stock"=some (.ref Z6)
 Zx:Cls K Z6
 Zl:NoAttr K Z6 "things"
 Zcu:mg "Shelf"=some (.ref Z5)
 Zf:Cls K Z5
 Zv:NoAttr K Z5 "stock"
 Z08:NoAttr K Z5 "places"
 Zp:NoAttr K Z5 "rooms"
 Zcj:mg "Rule"=some (.ref Zc)
 Zcv:Cls K Zc
 Z26:NoAttr K Zc "stock"
 Z1w:NoAttr K Zc "places"
 Zc6:mg "Ranked"=some (.ref Z9)
 Zcs:Cls K Z9
 Z1e:NoAttr K Z9 "stock"
 Z10:NoAttr K Z9 "places"
 Z0m:NoAttr K Z9 "present"
 Z1x:NoAttr K Z9 "last"
 Zcw:mg "First"=some (.ref Z0)
 Zn:Cls K Z0
 Z02:NoAttr K Z0 "stock"
 Zy:NoAttr K Z0 "places"
 Zq:NoAttr K Z0 "present"
 Z0f:NoAttr K Z0 "last"
 Zz:NoAttr K Z0 "put_at"
 Z93:mg "CastError"=some (.ref Z3)
 Zbd:mg "Unknown"=some (.ref Z1)
 Zbe:mg "TooWide"=some (.ref Z2)
 Z27:mg "NoNumber"=some (.ref Z4)
 Z28:ExcC K Z4
 k_NoNumber:W.keepIn K (.ref Z4)=true
 Zbf:mg "TooMany"=some (.ref Z7)
 Zbg:ExcC K Z7
 k_TooMany:W.keepIn K (.ref Z7)=true
 Zc7:mg "NoRule"=some (.ref Z8)
 Zc8:ExcC K Z8
 k_NoRule:W.keepIn K (.ref Z8)=true
 Z06:ExcQ K Z1 Z3
 Zt:W.findIn K (.ref Z1) "name"=some none
 Zr:W.findIn K (.ref Z1) "place"=some none
 Z07:ExcQ K Z2 Z3
 Zu:W.findIn K (.ref Z2) "name"=some none
 Zs:W.findIn K (.ref Z2) "place"=some none
 Zbh:ExcG K Z1
 Zbi:ExcG K Z2
 Z9p:ExcG K Z4
 Zbj:ExcG K Z7
 Zc9:ExcG K Z8
 Z1h:W.exmOne K (.ref Z1) (.ref Z1)=some true
 Z1i:W.exmOne K (.ref Z2) (.ref Z1)=some false
 Z1j:W.exmOne K (.ref Z2) (.ref Z2)=some true
 Z12:W.exmOne K (.ref Z4) (.ref Z1)=some false
 Z13:W.exmOne K (.ref Z4) (.ref Z2)=some false
 Z0n:W.exmOne K (.ref Z4) (.ref Z3)=some true
 Z1k:W.exmOne K (.ref Z7) (.ref Z1)=some false
 Z1l:W.exmOne K (.ref Z7) (.ref Z2)=some false
 Z0y:W.exmOne K (.ref Z7) (.ref Z3)=some true
 Z1y:W.exmOne K (.ref Z8) (.ref Z1)=some false
 Z1z:W.exmOne K (.ref Z8) (.ref Z2)=some false
 Z14:W.exmOne K (.ref Z8) (.ref Z3)=some true
 Zci:mg "make_oldest"=some (.ref xmake_oldest)
 Z8k:mg "make_first"=some (.ref xmake_first)
 Zce:mg "make_halving"=some (.ref xmake_halving)
 Zcd:mg "make_farthest"=some (.ref xmake_farthest)
 Zcm:mg "make_hand"=some (.ref xmake_hand)
 Zcn:mg "make_rows"=some (.ref xmake_rows)
 Zco:mg "make_dues"=some (.ref xmake_dues)
 Z3x:mg "row_of_rounds"=some (.ref xrow_of_rounds)
 Z7k:mg "row_of_pairs"=some (.ref xrow_of_pairs)
 Z8l:mg "MAKERS"=some (.ref Za)
 Z7l:mg "WORSE"=some (.ref Zb)
 Z0o:mg "len"=none
 Zo:mg "isinstance"=none
 Z3a:mg "int"=none
 Z4t:mg "bool"=none
 Z4v:mg "str"=none
 Z29:mg "list"=none
 Z6j:mg "tuple"=none
 Z71:mg "all"=none
 Z24:mg "range"=none
 Z72:mg "sum"=none
 Z0e:mg "enumerate"=none
 Z73:mg "zip"=none
 Z8j:mg "max"=none
 Z74:mg "min"=none
 Z3f:mg "sorted"=none
 Z75:mg "dict"=none
 Z76:mg "set"=none
 Z0d:∃t,mg "LETTERS"=some (.str "abcdefghijklmnopqrstuvwxyz" t)
 Z2u:∃t,mg "FIGURES"=some (.str "0123456789" t)
 Z15:∃t,mg "MOST_SIGNS"=some (.int 8 t)
 Z0t:∃t,mg "MOST_THINGS"=some (.int 60 t)
 Z1t:∃t,mg "MOST_ROOM"=some (.int 1000 t)
 Zw:∃t,mg "MOST_PLACES"=some (.int 1000000 t)
 Z0u:∃t,mg "MOST_ASKS"=some (.int 200 t)
 Z00:∃t,mg "MOST_SEARCHED"=some (.int 4 t)
 Z0v:∃t,mg "MOST_LONG"=some (.int 6 t)
 Z0g:∃t,mg "MOST_WORSE"=some (.int 20 t)
local macro_rules | `(tactic| walk_at "sc") => `(tactic| exact ⟨rfl, rfl, rfl, by decide +kernel, rfl, by decide +kernel, by decide +kernel⟩)
local macro_rules | `(tactic| walk_at "st") => `(tactic| simp only [st_c, st_n, st_e])
section
variable {P:Program} {w:World} {K:W.Frag} {mg:Str→Option Value} {base:Heap} {xU0 xU1 xU2 Z3 Z1 Z2 Z4 Z7 Z8 Z6 Z5 Zc Z9 Z0 xmake_oldest xmake_first xmake_halving xmake_farthest xmake_hand xmake_rows xmake_dues xrow_of_rounds xrow_of_pairs Za Zb:Addr}
noncomputable abbrev Z5v:Stmt:=top 32
noncomputable abbrev Z5w:Stmt:=top 33
noncomputable abbrev Z4w:Stmt:=top 15
noncomputable abbrev Z40:Stmt:=top 16
noncomputable abbrev Z2v:Stmt:=top 34
noncomputable abbrev Z3g:Stmt:=inClass (top 35) 0
noncomputable abbrev Z09:Stmt:=inClass (top 7) 0
noncomputable abbrev Z0a:Stmt:=inClass (top 8) 0
noncomputable abbrev Z41:Stmt:=inClass (top 35) 2
noncomputable abbrev Z20:Stmt:=inClass (top 35) 3
noncomputable abbrev Z2a:Stmt:=inClass (top 35) 6
noncomputable abbrev Z2g:Stmt:=top 24
noncomputable abbrev Z3h:Stmt:=top 38
noncomputable abbrev Z2h:Stmt:=inClass (top 7) 1
noncomputable abbrev Z2i:Stmt:=inClass (top 8) 1
noncomputable abbrev Z2b:Stmt:=inClass (top 4) 0
noncomputable abbrev Z2j:Stmt:=inClass (top 6) 0
noncomputable abbrev Z2w:Stmt:=inClass (top 13) 0
noncomputable abbrev Z3i:Stmt:=inClass (top 25) 0
noncomputable abbrev Z2x:Stmt:=inClass (top 25) 1
noncomputable abbrev Z2y:Stmt:=inClass (top 25) 2
noncomputable abbrev Z1m:Stmt:=inClass (top 25) 3
noncomputable abbrev Z42:Stmt:=inClass (top 25) 4
noncomputable abbrev Z3j:Stmt:=inClass (top 25) 5
noncomputable abbrev Z43:Stmt:=top 39
noncomputable abbrev Z6o:Stmt:=top 40
noncomputable abbrev Z2z:Stmt:=top 41
noncomputable abbrev Z0w:Stmt:=inClass (top 44) 0
noncomputable abbrev Z0b:Stmt:=inClass (top 45) 0
noncomputable abbrev Z3k:Stmt:=inClass (top 47) 0
noncomputable abbrev Z16:Stmt:=inClass (top 45) 2
noncomputable abbrev Z30:Stmt:=inClass (top 45) 1
noncomputable abbrev Z0h:Stmt:=inClass (top 47) 2
noncomputable abbrev Z2k:Stmt:=inClass (top 45) 5
noncomputable abbrev Z3l:Stmt:=inClass (top 44) 4
noncomputable abbrev Z3m:Stmt:=inClass (top 47) 1
noncomputable abbrev Z44:Stmt:=top 50
noncomputable abbrev Z6p:Stmt:=top 51
noncomputable abbrev Z5x:Stmt:=top 52
noncomputable abbrev Z3n:Stmt:=top 65
noncomputable abbrev Z4x:Stmt:=top 72
noncomputable abbrev Z2c:Stmt:=top 73
noncomputable abbrev Z4y:Stmt:=top 74
noncomputable abbrev Z3o:Stmt:=top 75
noncomputable abbrev Z2l:Stmt:=top 76
noncomputable abbrev Z31:Stmt:=top 77
noncomputable abbrev Z45:Stmt:=top 78
noncomputable abbrev Z2d:Stmt:=top 79
noncomputable abbrev Z2m:Stmt:=top 80
noncomputable abbrev Z46:Stmt:=top 82
noncomputable abbrev Z47:Stmt:=top 84
noncomputable abbrev Z5y:Stmt:=top 86
noncomputable abbrev Z5z:Stmt:=top 85
noncomputable abbrev Z1n:Stmt:=top 87
noncomputable abbrev Z4z:Stmt:=top 88
noncomputable abbrev Z48:Stmt:=top 89
noncomputable abbrev Z3p:Stmt:=top 90
noncomputable abbrev Z49:Stmt:=top 91
noncomputable abbrev Z32:Stmt:=top 92
noncomputable abbrev Z6q:Stmt:=top 93
noncomputable abbrev Z3b:Stmt:=top 94
theorem Z9q{f:Addr}{fd:FuncData}(F:Fun K "made_of" "made_of" Z5v f fd)(T:Txt K mg xU0 xU1 xU2 Z3 Z1 Z2 Z4 Z7 Z8 Z6 Z5 Zc Z9 Z0 xmake_oldest xmake_first xmake_halving xmake_farthest xmake_hand xmake_rows xmake_dues xrow_of_rounds xrow_of_pairs Za Zb):FnOk P w K mg base (CXF P w) 1 f fd ["text","signs"] (sp_made):=by
 have sc:FnScope ["text","signs"] ["text","signs"] (defScope Z5v):=by walk_at "sc"
 refine F.okF sc (fun vs H Q E h=>?_) (fun cdv A outer s H vs Q E hr h=>?_)
 · obtain ⟨_,_,rfl,_⟩:=h;rfl
 obtain ⟨z,w,rfl,hz,q⟩:=h
 refine ⟨_,(@pss_one _ _ _ (@ps_ret _ _ _ _ (pe_callB (call_all rfl) rfl T.Z71 (by first | rfl | decide+kernel) (pa_cons (pe_comp1 "sign" [1] rfl rfl (pi_str (pv 0)) (fun b=>(pe_cmpR op_inS (pv 0) (pv 1) (by with_unfolding_all rfl)))) pa_nil)))),?_⟩
 walk_at "st"
 walk_at "go"
 refine compS_pure (fun c=>V.bl (decide (c∈w.cps.toList))) hz (fun b c H' Q' hc sm q'=>?_) fun D hD=>?_
 · walk_at "go"
   exact q'
 · refine ⟨_,rfl,z.cps.toList.map fun c=>decide (c∈w.cps.toList),?_,?_⟩
   · rw [List.map_map];exact SqL.of upd_same
   · rw [List.all_map];exact q _ (Same.new hD)
theorem Z9r{f:Addr}{fd:FuncData}(F:Fun K "is_name" "is_name" Z5w f fd)(T:Txt K mg xU0 xU1 xU2 Z3 Z1 Z2 Z4 Z7 Z8 Z6 Z5 Zc Z9 Z0 xmake_oldest xmake_first xmake_halving xmake_farthest xmake_hand xmake_rows xmake_dues xrow_of_rounds xrow_of_pairs Za Zb)(Z60:Def P w K mg base (CXF P w) 1 "made_of" ["text","signs"] (sp_made)):FnOk P w K mg base (CXF P w) 2 f fd ["thing"] (sp_is_name K):=by
 have sc:FnScope ["thing"] ["thing"] (defScope Z5w):=by walk_at "sc"
 refine F.okF sc (fun vs H Q E h=>?_) (fun cdv A outer s H vs Q E hr h=>?_)
 · obtain ⟨_,rfl,_⟩:=h;rfl
 obtain ⟨x,rfl,hx⟩:=h
 refine ⟨_,(@pss_cons _ _ _ _ _ (ps_if (pt_not (pt_val (pe_callB call_isinst rfl T.Zo (by first | rfl | decide+kernel) (pa_cons (pv 0) (pa_cons (pe_bltn (v:= .ty "str") rfl T.Z4v (by first | rfl | decide+kernel) rfl) pa_nil)))))
  (@pss_one _ _ _ (@ps_ret _ _ _ _ pe_bl))
  pss_nil)
  (@pss_cons _ _ _ _ _ (ps_if (PW.pt (pw_or (pt_cmpR op_lt (pe_callB call_len_str rfl T.Z0o PySem.boot_len (pa_cons (pv 0) pa_nil)) pe_int (nomark _)) (pw_or1 (pt_cmpR op_gt (pe_callB call_len_str rfl T.Z0o PySem.boot_len (pa_cons (pv 0) pa_nil)) (pe_gint rfl T.Z15) (nomark _)))))
   (@pss_one _ _ _ (@ps_ret _ _ _ _ pe_bl))
   pss_nil)
  (@pss_one _ _ _ (@ps_ret _ _ _ _ (pe_and (pe_cmpR op_inS (@pe_ix _ _ _ _ _ _ _ ix_str (pv 0) pe_int (fun _ _=>rfl)) (pe_gstr rfl T.Z0d) (by with_unfolding_all rfl)) (pe_one (pe_callD Z60 hr rfl pass_onF (pa_cons (pv 0) (pa_cons (pe_op op_add_str (pe_gstr rfl T.Z0d) (pe_gstr rfl T.Z2u)) pa_nil))))))))),?_⟩
 walk_at "st"
 rcases hx with ⟨z,rfl,hz,q⟩ | ⟨hi,q⟩
 · walk_at "go"
   have hl:=str_len (z:=z)
   split
   · rename_i h1
     have e:nameB z.cps.toList=false:=by unfold nameB;rw [decide_eq_false (show ¬1≤z.cps.toList.length by omega)];rfl
     rw [e]at q;exact q _ (Same.refl H)
   · rename_i h1
     refine ⟨hz,?_⟩
     split
     · have e:nameB z.cps.toList=false:=by unfold nameB;rw [decide_eq_false (show ¬z.cps.toList.length≤8 by omega),Bool.and_false];rfl
       rw [e]at q;exact q _ (Same.refl H)
     · rename_i h2
       obtain ⟨c,r,hcr⟩:∃c r,z.cps.toList=c::r:=by
        cases h:z.cps.toList with
        | nil=>rw [h]at hl;simp at hl;omega
        | cons c r=>exact ⟨c,r,rfl⟩
       have hn:nameB z.cps.toList=(decide (c∈letters) && z.cps.toList.all fun c=>decide (c∈letters++figures)):=by
        unfold nameB;rw [decide_eq_true (show 1≤z.cps.toList.length by omega),decide_eq_true (show z.cps.toList.length≤8 by omega)];rw [hcr];rfl
       rw [hn]at q
       walk_at "go"
       refine ixS_of hz (by rw [hcr];exact at_0) ?_
       walk_at "go"
       rw [let_list]
       split
       · rename_i hc
         rw [decide_eq_true hc,Bool.true_and]at q
         walk_at "go"
         rw [app_list,let_list,fig_list]
         exact q
       · rename_i hc
         rw [decide_eq_false hc,Bool.false_and]at q
         exact q _ (Same.refl H)
 · walk_at "go"
   refine ⟨_,hi,?_⟩
   walk_at "go"
   exact q
theorem Z94{f:Addr}{fd:FuncData}(F:Fun K "is_whole" "is_whole" Z4w f fd)(T:Txt K mg xU0 xU1 xU2 Z3 Z1 Z2 Z4 Z7 Z8 Z6 Z5 Zc Z9 Z0 xmake_oldest xmake_first xmake_halving xmake_farthest xmake_hand xmake_rows xmake_dues xrow_of_rounds xrow_of_pairs Za Zb):FnOk P w K mg base (CXF P w) 1 f fd ["thing"] (sp_is_whole K):=by
 have sc:FnScope ["thing"] ["thing"] (defScope Z4w):=by walk_at "sc"
 refine F.okF sc (fun vs H Q E h=>?_) (fun cdv A outer s H vs Q E hr h=>?_)
 · obtain ⟨_,_,_,rfl,_⟩:=h;rfl
 obtain ⟨x,b,c,rfl,h1,h2,q⟩:=h
 refine ⟨_,(@pss_one _ _ _ (@ps_ret _ _ _ _ (pe_and (pe_callB call_isinst rfl T.Zo (by first | rfl | decide+kernel) (pa_cons (pv 0) (pa_cons (pe_bltn (v:= .ty "int") rfl T.Z3a (by first | rfl | decide+kernel) rfl) pa_nil))) (pe_one (pe_not (pe_callB call_isinst rfl T.Zo (by first | rfl | decide+kernel) (pa_cons (pv 0) (pa_cons (pe_bltn (v:= .ty "bool") rfl T.Z4t (by first | rfl | decide+kernel) rfl) pa_nil)))))))),?_⟩
 walk_at "st"
 walk_at "go"
 refine ⟨_,h1,?_⟩
 cases b
 · walk_at "go"
   exact q
 · walk_at "go"
   refine ⟨_,h2 rfl,?_⟩
   walk_at "go"
   exact q
theorem Z8m{f:Addr}{fd:FuncData}(F:Fun K "is_within" "is_within" Z40 f fd)(T:Txt K mg xU0 xU1 xU2 Z3 Z1 Z2 Z4 Z7 Z8 Z6 Z5 Zc Z9 Z0 xmake_oldest xmake_first xmake_halving xmake_farthest xmake_hand xmake_rows xmake_dues xrow_of_rounds xrow_of_pairs Za Zb)(Z50:Def P w K mg base (CXF P w) 1 "is_whole" ["thing"] (sp_is_whole K)):FnOk P w K mg base (CXF P w) 2 f fd ["thing","least","most"] (N53.sp53_within K):=by
 have sc:FnScope ["thing","least","most"] ["thing","least","most"] (defScope Z40):=by walk_at "sc"
 refine F.okF sc (fun vs H Q E h=>?_) (fun cdv A outer s H vs Q E hr h=>?_)
 · obtain ⟨_,_,_,rfl,_⟩:=h;rfl
 obtain ⟨v,lo,hi,rfl,hv,q⟩:=h
 refine ⟨_,(@pss_one _ _ _ (@ps_ret _ _ _ _ (pe_and (pe_callD Z50 hr rfl pass_onF (pa_cons (pv 0) pa_nil)) (pe_one (pe_chain op_le op_le (pv 1) (pv 0) (pv 2)))))),?_⟩
 walk_at "st"
 obtain ⟨b,c,h1,h2,h3,h4⟩:=hv
 walk_at "go"
 refine ⟨b,h1,c,h2,?_⟩
 split
 · rename_i h
   obtain ⟨i,rfl⟩:=h3 h
   simp only [wIn]at q
   walk_at "go"
   split
   · rename_i h'
     rw [decide_eq_true h',Bool.true_and]at q;exact q
   · rename_i h'
     rw [decide_eq_false h',Bool.false_and]at q;exact q
 · rename_i h
   have e:wIn lo hi v=false:=by
    cases v with
    | int i=>exact absurd rfl (h4 (by simpa using h) i)
    | _=>rfl
   rw [e]at q;exact q
theorem Z7m{f:Addr}{fd:FuncData}(F:Fun K "check_thing" "check_thing" Z2v f fd)(T:Txt K mg xU0 xU1 xU2 Z3 Z1 Z2 Z4 Z7 Z8 Z6 Z5 Zc Z9 Z0 xmake_oldest xmake_first xmake_halving xmake_farthest xmake_hand xmake_rows xmake_dues xrow_of_rounds xrow_of_pairs Za Zb)(Z61:Def P w K mg base (CXF P w) 2 "is_name" ["thing"] (sp_is_name K))(Zh:Def P w K mg base (CXF P w) 2 "is_within" ["thing","least","most"] (N53.sp53_within K)):FnOk P w K mg base (CXF P w) 3 f fd ["name","cost","room","earlier"] (sp_checkG K):=by
 have sc:FnScope ["name","cost","room","earlier"] ["name","cost","room","earlier"] (defScope Z2v):=by walk_at "sc"
 refine F.okF sc (fun vs H Q E h=>?_) (fun cdv A outer s H vs Q E hr h=>?_)
 · obtain ⟨_,_,_,_,_,_,rfl,_⟩:=h;rfl
 obtain ⟨n,co,r,e,kvs,ks,rfl,he,hk,hrow,q⟩:=h
 refine ⟨_,(@pss_cons _ _ _ _ _ (ps_if (pt_not (pt_val (pe_callD Z61 hr rfl pass_onF (pa_cons (pv 0) pa_nil))))
  (@pss_one _ _ _ ps_never)
  pss_nil)
  (@pss_cons _ _ _ _ _ (ps_if (pt_cmp (pc_din (hu_of hr) (pv 0) (pv 3)))
   (@pss_one _ _ _ ps_never)
   pss_nil)
  (@pss_cons _ _ _ _ _ (ps_if (pt_not (pt_val (pe_callD Zh hr rfl pass_onF (pa_cons (pv 1) (pa_cons pe_int (pa_cons (pe_op op_pow pe_int pe_int) pa_nil))))))
   (@pss_one _ _ _ ps_never)
   pss_nil)
  (@pss_one _ _ _ (ps_if (pt_not (pt_val (pe_callD Zh hr rfl pass_onF (pa_cons (pv 2) (pa_cons pe_int (pa_cons (pe_gint rfl T.Z1t) pa_nil))))))
   (@pss_one _ _ _ ps_never)
   pss_nil))))),?_⟩
 walk_at "st"
 obtain ⟨z,c,w,rfl,rfl,rfl,nz,hb,h1,h2,h3,h4⟩:=rowR_none hrow
 have line:=line_val
 have hz8:=name_len hb
 walk_at "go"
 intro H1 sm1
 rw [hb]
 have he1:=sm1 _ _ he
 walk_at "go"
 refine ⟨_,DGet.k (k:=Sum.inr z) he1,?_⟩
 rw [key_mem hk,decide_eq_false nz]
 walk_at "go"
 refine ⟨N53.NumV.flat rfl,?_⟩
 split
 · rename_i h
   exact absurd h (by rw [wIn_ok h1 h2];decide)
 · walk_at "go"
   refine ⟨N53.NumV.flat rfl,?_⟩
   split
   · rename_i h
     exact absurd h (by rw [wIn_ok h3 h4];decide)
   · walk_at "go"
     exact q _ sm1
theorem Z85{f:Addr}{fd:FuncData}(F:Fun K "__init__" "Stock.__init__" Z3g f fd)(T:Txt K mg xU0 xU1 xU2 Z3 Z1 Z2 Z4 Z7 Z8 Z6 Z5 Zc Z9 Z0 xmake_oldest xmake_first xmake_halving xmake_farthest xmake_hand xmake_rows xmake_dues xrow_of_rounds xrow_of_pairs Za Zb)(Z33:Def P w K mg base (CXF P w) 3 "check_thing" ["name","cost","room","earlier"] (sp_checkG K)):FnOk P w K mg base (CXF P w) 4 f fd ["self","rows"] (sp_initG K Z6):=by
 have sc:FnScope ["self","rows","name","cost","room"] ["self","rows"] (defScope Z3g):=by walk_at "sc"
 refine F.okF sc (fun vs H Q E h=>?_) (fun cdv A outer s H vs Q E hr h=>?_)
 · obtain ⟨_,_,_,_,rfl,_⟩:=h;rfl
 obtain ⟨p,dx,ra,rs,rfl,hp,hrs,hall,er,q⟩:=h
 refine ⟨_,(@pss_cons _ _ _ _ _ (ps_if (pt_cmpR op_gt (pe_callB call_len_seq rfl T.Z0o PySem.boot_len (pa_cons (pv 1) pa_nil)) (pe_gint rfl T.Z0t) (nomark _))
  (@pss_one _ _ _ ps_never)
  pss_nil)
  (@pss_cons _ _ _ _ _ (ps_fld (pv 0) pe_dnewK rfl)
  (@pss_one _ _ _ (ps_for own_outF rfl (pi_list (pv 1)) (pg_tup rfl (pgs_cons (pg_name (i:=2) sc.nd rfl (Or.inl rfl)) (pgs_cons (pg_name (i:=3) sc.nd rfl (Or.inl rfl)) (pgs_cons (pg_name (i:=4) sc.nd rfl (Or.inl rfl)) pgs_nil))))
   (@pss_cons _ _ _ _ _ (ps_expr (pe_callD Z33 hr rfl pass_onF (pa_cons (pv 2) (pa_cons (pv 3) (pa_cons (pv 4) (pa_cons (pe_fld (pv 0) rfl) pa_nil))))))
   (@pss_one _ _ _ (ps_dput (hu_of hr) (pe_fld (pv 0) rfl) (pv 2) (pe_tup (pa_cons (pe_callB call_lenD rfl T.Z0o PySem.boot_len (pa_cons (pe_fld (pv 0) rfl) pa_nil)) (pa_cons (pv 3) (pa_cons (pv 4) pa_nil)))) rfl))))))),?_⟩
 walk_at "st"
 have line:=line_val
 obtain ⟨hl60,hstk⟩:=initR_none er
 walk_at "go"
 rw [List.length_map]
 split
 · rename_i h
   exact absurd h (by omega)
 · rename_i h
   walk_at "go"
   intro d hd
   have npd:p≠d:=ne_of_none hp hd
   walk_at "go"
   refine ⟨Z6,dx,[],by rw [upd_ne npd];exact hp,T.Zx,T.Zl,by decide,?_⟩
   have sb0:SameBut p H (upd (upd H d (.dK [])) p (.ins Z6 dx (flds d))):=fun b o e n=>by rw [upd_ne n,upd_ne (ne_of_none e hd)];exact e
   have hp0:upd (upd H d (.dK [])) p (.ins Z6 dx (flds d)) p=some (.ins Z6 dx (flds d)):=upd_same
   have hd0:upd (upd H d (.dK [])) p (.ins Z6 dx (flds d)) d=some (.dK []):=by rw [upd_ne npd.symm,upd_same]
   unfold flds at sb0 hp0 hd0
   generalize upd (upd H d (HO.dK [])) p (HO.ins Z6 dx (putF (Str.ofString "things") (V.ref d) []))=H0 at sb0 hp0 hd0 ⊢
   walk_at "go"
   refine ⟨⟨_,SqL.but sb0 hp hrs⟩,?_⟩
   refine forL_by (xs:=rs.map fun t=>V.ref t.1) (fun i σ H'=>∃v1 v2 v3,σ=[some (V.ref p),some (V.ref ra),v1,v2,v3]∧SameBut p H H'∧H' p=some (.ins Z6 dx (flds d))∧MidAt K H' d (rs.take i)∧stockR (nmsOf (rs.take i)) (rs.drop i)=none) ⟨none,none,none,rfl,sb0,hp0,⟨[],hd0,rfl,fun j t e=>by simp at e⟩,by rw [List.take_zero,List.drop_zero];exact hstk⟩ (fun i σ H' _ h_=>by obtain ⟨v1,v2,v3,_,sb,_⟩:=h_;exact SqL.but sb hp hrs) ?_ ?_
   · rintro i x σ H' hx ⟨v1,v2,v3,rfl,sb,hp',⟨kvs,hd',hk,hm⟩,hst⟩
     rw [List.getElem?_map]at hx
     cases ht:rs[i]? with
     | none=>rw [ht]at hx;cases hx
     | some t=>
      rw [ht]at hx
      simp only [Option.map_some,Option.some.injEq]at hx
      subst hx
      have hi:i < rs.length:=(List.getElem?_eq_some_iff.mp ht).1
      have r1:=SqT.but sb hp (hall t (List.mem_of_getElem? ht))
      rw [stockR_step ht]at hst
      have hkl:kvs.length=i:=by
       have:=congrArg List.length hk
       simp [nmsOf]at this;omega
      cases hrow:rowR (nmsOf (rs.take i)) t.2.1 t.2.2.1 t.2.2.2 with
      | some e=>rw [hrow]at hst;cases hst
      | none=>
       rw [hrow]at hst
       obtain ⟨z,c,q',e1,e2,e3,nz,hb,_⟩:=rowR_none hrow
       walk_at "go"
       refine ⟨_,r1,rfl,?_⟩
       walk_at "go"
       refine ⟨Z6,dx,flds d,hp',T.Zx,T.Zl,_,flds_things,d,rfl,kvs,hd',_,hk,hrow,fun H1 sm1=>?_⟩
       rw [e1,e2,e3]
       have hp1:=sm1 _ _ hp'
       have hd1:=sm1 _ _ hd'
       walk_at "go"
       refine ⟨Z6,dx,flds d,hp1,T.Zx,T.Zl,_,flds_things,?_⟩
       walk_at "go"
       refine ⟨kvs,hd1,by omega,fun t2 ht2=>?_⟩
       have np2:p≠t2:=ne_of_none hp1 ht2
       have nd2:d≠t2:=ne_of_none hd1 ht2
       have hd2:upd H1 t2 (.tup [.int kvs.length,.int c,.int q']) d=some (.dK kvs):=by rw [upd_ne nd2];exact hd1
       refine ⟨Z6,dx,flds d,by rw [upd_ne np2];exact hp1,T.Zx,T.Zl,_,flds_things,d,rfl,_,DPut.k (k:=Sum.inr z) hd2 (by omega),?_,?_,?_,?_⟩
       · intro b o eb nb
         have h1:=sm1 _ _ (sb b o eb nb)
         rw [upd_ne (ne_of_none eb hd),upd_ne (ne_of_none h1 ht2)]
         exact h1
       · rw [upd_ne npd,upd_ne np2];exact hp1
       · rw [List.take_add_one,ht]
         refine MidAt.snoc hd2 hk (fun j t' e=>?_) e1 e2 e3 nz upd_same
         obtain ⟨a,q1,q2⟩:=hm j t' e
         exact ⟨a,q1,(sm1.trans (Same.new ht2)).tup q2⟩
       · rw [List.take_add_one,ht]
         have e:nmsOf (rs.take kvs.length++(some t).toList)=nmsOf (rs.take kvs.length)++[sOf t.2.1]:=by unfold nmsOf;simp
         rw [e];exact hst
   · rintro σ H' ⟨v1,v2,v3,rfl,sb,hp',⟨kvs,hd',hk,hm⟩,hst⟩
     simp only [List.length_map,List.take_length,List.drop_length]at hk hm hst
     show Q V.non H'
     refine q _ sb ⟨dx,d,kvs,hp',hd',?_,fun i t ht=>?_⟩
     · rw [hk];unfold nmsOf;rw [List.map_map,List.map_map];rfl
     · rw [List.getElem?_map]at ht
       cases hr:rs[i]? with
       | none=>rw [hr]at ht;cases ht
       | some t'=>
        rw [hr]at ht
        simp only [Option.map_some,Option.some.injEq]at ht
        subst ht
        exact hm i t' hr
theorem Z77{f:Addr}{fd:FuncData}(F:Fun K "__init__" "Unknown.__init__" Z09 f fd)(T:Txt K mg xU0 xU1 xU2 Z3 Z1 Z2 Z4 Z7 Z8 Z6 Z5 Zc Z9 Z0 xmake_oldest xmake_first xmake_halving xmake_farthest xmake_hand xmake_rows xmake_dues xrow_of_rounds xrow_of_pairs Za Zb):FnOk P w K mg base (CXF P w) 1 f fd ["self","name","place"] (sp_unk Z1):=by
 have sc:FnScope ["self","name","place"] ["self","name","place"] (defScope Z09):=by walk_at "sc"
 refine F.okF sc (fun vs H Q E h=>?_) (fun cdv A outer s H vs Q E hr h=>?_)
 · obtain ⟨_,_,_,_,rfl,_⟩:=h;rfl
 obtain ⟨x,n,p,nw,rfl,hx,q⟩:=h
 refine ⟨_,(@pss_cons _ _ _ _ _ (ps_fldX rfl (pv 0) (pv 1) rfl)
  (@pss_one _ _ _ (ps_fldX rfl (pv 0) (pv 2) rfl))),?_⟩
 walk_at "st"
 walk_at "go"
 refine ⟨nw,Z1,Z3,T.Z06,T.Zt,.inl ⟨hx,fun dx hd=>?_⟩⟩
 have nd:x≠dx:=ne_of_none hx hd
 walk_at "go"
 refine ⟨nw,Z1,Z3,T.Z06,T.Zr,.inr ⟨dx,by rw [upd_ne nd,upd_same],_,upd_same,by simp [putF],?_⟩⟩
 walk_at "go"
 exact q dx hd
theorem Z78{f:Addr}{fd:FuncData}(F:Fun K "__init__" "TooWide.__init__" Z0a f fd)(T:Txt K mg xU0 xU1 xU2 Z3 Z1 Z2 Z4 Z7 Z8 Z6 Z5 Zc Z9 Z0 xmake_oldest xmake_first xmake_halving xmake_farthest xmake_hand xmake_rows xmake_dues xrow_of_rounds xrow_of_pairs Za Zb):FnOk P w K mg base (CXF P w) 1 f fd ["self","name","place"] (sp_unk Z2):=by
 have sc:FnScope ["self","name","place"] ["self","name","place"] (defScope Z0a):=by walk_at "sc"
 refine F.okF sc (fun vs H Q E h=>?_) (fun cdv A outer s H vs Q E hr h=>?_)
 · obtain ⟨_,_,_,_,rfl,_⟩:=h;rfl
 obtain ⟨x,n,p,nw,rfl,hx,q⟩:=h
 refine ⟨_,(@pss_cons _ _ _ _ _ (ps_fldX rfl (pv 0) (pv 1) rfl)
  (@pss_one _ _ _ (ps_fldX rfl (pv 0) (pv 2) rfl))),?_⟩
 walk_at "st"
 walk_at "go"
 refine ⟨nw,Z2,Z3,T.Z07,T.Zu,.inl ⟨hx,fun dx hd=>?_⟩⟩
 have nd:x≠dx:=ne_of_none hx hd
 walk_at "go"
 refine ⟨nw,Z2,Z3,T.Z07,T.Zs,.inr ⟨dx,by rw [upd_ne nd,upd_same],_,upd_same,by simp [putF],?_⟩⟩
 walk_at "go"
 exact q dx hd
theorem Z8n{f:Addr}{fd:FuncData}(F:Fun K "has" "Stock.has" Z41 f fd)(T:Txt K mg xU0 xU1 xU2 Z3 Z1 Z2 Z4 Z7 Z8 Z6 Z5 Zc Z9 Z0 xmake_oldest xmake_first xmake_halving xmake_farthest xmake_hand xmake_rows xmake_dues xrow_of_rounds xrow_of_pairs Za Zb):FnOk P w K mg base (CXF P w) 1 f fd ["self","name"] (sp_has K Z6):=by
 have sc:FnScope ["self","name"] ["self","name"] (defScope Z41):=by walk_at "sc"
 refine F.okF sc (fun vs H Q E h=>?_) (fun cdv A outer s H vs Q E hr h=>?_)
 · obtain ⟨_,_,_,rfl,_⟩:=h;rfl
 obtain ⟨p,ts,z,rfl,hs,q⟩:=h
 refine ⟨_,(@pss_one _ _ _ (@ps_ret _ _ _ _ (pe_cmp (pc_din (hu_of hr) (pv 1) (pe_fld (pv 0) rfl))))),?_⟩
 walk_at "st"
 obtain ⟨dx,d,kvs,h1,h2,h3,h4,h5⟩:=StockAt.has hs
 walk_at "go"
 refine ⟨Z6,dx,flds d,h1,T.Zx,T.Zl,_,flds_things,d,rfl,_,DGet.k (k:=Sum.inr z) h2,?_⟩
 rw [h4]
 exact q
theorem Z6n{f:Addr}{fd:FuncData}(F:Fun K "thing_of" "Stock.thing_of" Z20 f fd)(T:Txt K mg xU0 xU1 xU2 Z3 Z1 Z2 Z4 Z7 Z8 Z6 Z5 Zc Z9 Z0 xmake_oldest xmake_first xmake_halving xmake_farthest xmake_hand xmake_rows xmake_dues xrow_of_rounds xrow_of_pairs Za Zb):FnOk P w K mg base (CXF P w) 1 f fd ["self","name"] (sp32_thing K Z6):=by
 have sc:FnScope ["self","name"] ["self","name"] (defScope Z20):=by walk_at "sc"
 refine F.okF sc (fun vs H Q E h=>?_) (fun cdv A outer s H vs Q E hr h=>?_)
 · obtain ⟨_,_,_,rfl,_⟩:=h;rfl
 obtain ⟨p,ts,z,rfl,hs,nd,hz,q⟩:=h
 refine ⟨_,(@pss_cons _ _ _ _ _ (ps_if (pt_cmp (pc_dnotin (hu_of hr) (pv 1) (pe_fld (pv 0) rfl)))
  (@pss_one _ _ _ ps_never)
  pss_nil)
  (@pss_one _ _ _ (@ps_ret _ _ _ _ (pe_dget (hu_of hr) (pe_fld (pv 0) rfl) (pv 1) (fun _ _=>rfl))))),?_⟩
 walk_at "st"
 obtain ⟨dx,d,kvs,h1,h2,h3,h4,h5⟩:=StockAt.has hs
 have line:=line_val
 walk_at "go"
 refine ⟨Z6,dx,flds d,h1,T.Zx,T.Zl,_,flds_things,d,rfl,_,DGet.k (k:=Sum.inr z) h2,?_⟩
 rw [h4,decide_eq_true hz]
 obtain ⟨i,t,ht,rfl⟩:=mem_nth hz
 obtain ⟨a,e1,e2⟩:=h5 nd i t ht
 walk_at "go"
 refine ⟨Z6,dx,flds d,h1,T.Zx,T.Zl,_,flds_things,?_⟩
 walk_at "go"
 refine ⟨V.ref a,by rw [← e1];exact DGet.k (k:=Sum.inr t.1) h2,?_⟩
 exact q i t ht rfl a e2
theorem Z6r{f:Addr}{fd:FuncData}(F:Fun K "room_of" "Stock.room_of" Z2a f fd)(T:Txt K mg xU0 xU1 xU2 Z3 Z1 Z2 Z4 Z7 Z8 Z6 Z5 Zc Z9 Z0 xmake_oldest xmake_first xmake_halving xmake_farthest xmake_hand xmake_rows xmake_dues xrow_of_rounds xrow_of_pairs Za Zb)(Z21:DefM P w K mg base (CXF P w) 1 Z6 "thing_of" ["self","name"] (sp32_thing K Z6)):FnOk P w K mg base (CXF P w) 2 f fd ["self","name"] (sp32_room K Z6):=by
 have sc:FnScope ["self","name"] ["self","name"] (defScope Z2a):=by walk_at "sc"
 refine F.okF sc (fun vs H Q E h=>?_) (fun cdv A outer s H vs Q E hr h=>?_)
 · obtain ⟨_,_,_,rfl,_⟩:=h;rfl
 obtain ⟨p,ts,z,rfl,hs,nd,hz,q⟩:=h
 refine ⟨_,(@pss_one _ _ _ (@ps_ret _ _ _ _ (@pe_ix _ _ _ _ _ _ _ ix_tup (pe_methS Z21 T.Zx hr (passS pass_onF) (pv 0) (pa_cons (pv 1) pa_nil)) pe_int (fun _ _=>rfl)))),?_⟩
 walk_at "st"
 obtain ⟨dx,d,kvs,h1,h2,h3,h4,h5⟩:=StockAt.has hs
 walk_at "go"
 refine ⟨dx,flds d,h1,by rfl,?_⟩
 walk_at "go"
 refine ⟨ts,hs,nd,hz,fun i t ht e a ha=>?_⟩
 subst e
 refine ixT_of ha rfl ?_
 rw [rm_at nd ht]at q
 exact q
theorem Z79{f:Addr}{fd:FuncData}(F:Fun K "check_places" "check_places" Z2g f fd)(T:Txt K mg xU0 xU1 xU2 Z3 Z1 Z2 Z4 Z7 Z8 Z6 Z5 Zc Z9 Z0 xmake_oldest xmake_first xmake_halving xmake_farthest xmake_hand xmake_rows xmake_dues xrow_of_rounds xrow_of_pairs Za Zb)(Zh:Def P w K mg base (CXF P w) 2 "is_within" ["thing","least","most"] (N53.sp53_within K)):FnOk P w K mg base (CXF P w) 3 f fd ["places"] (sp13_check K Z4):=by
 have sc:FnScope ["places"] ["places"] (defScope Z2g):=by walk_at "sc"
 refine F.okF sc (fun vs H Q E h=>?_) (fun cdv A outer s H vs Q E hr h=>?_)
 · obtain ⟨_,rfl,_⟩:=h;rfl
 obtain ⟨v,rfl,hv,q,qe⟩:=h
 refine ⟨_,(@pss_one _ _ _ (ps_if (pt_not (pt_val (pe_callD Zh hr rfl pass_onF (pa_cons (pv 0) (pa_cons pe_int (pa_cons (pe_gint rfl T.Zw) pa_nil))))))
  (@pss_one _ _ _ (ps_raiseF T.Z28 rfl T.k_NoNumber rfl rfl T.Z27 raisesF (pa_cons (pe_fstr (pj_cons pe_str (pj_cons (pe_fmt (pe_gint rfl T.Zw)) pj_nil))) pa_nil)))
  pss_nil)),?_⟩
 walk_at "st"
 have line:=line_val
 walk_at "go"
 split
 · rename_i h
   have l1:(Str.ofString "the places of a shelf are not a whole number from 1 to ").length≤100:=by decide+kernel
   have l2:(Str.ofString (toString (1000000:Int))).length≤100:=by decide+kernel
   have l0:=len_empty
   refine ⟨by rw [len_app];omega,by decide,by rw [len_app,len_app];omega,by rw [len_app,len_app];omega,by omega,fun x hx=>⟨hx,qe h _ x (Same.new hx) hx upd_same⟩⟩
 · rename_i h
   exact q (by simpa using h)
theorem Z86{f:Addr}{fd:FuncData}(F:Fun K "check_asks" "check_asks" Z3h f fd)(T:Txt K mg xU0 xU1 xU2 Z3 Z1 Z2 Z4 Z7 Z8 Z6 Z5 Zc Z9 Z0 xmake_oldest xmake_first xmake_halving xmake_farthest xmake_hand xmake_rows xmake_dues xrow_of_rounds xrow_of_pairs Za Zb)(Zd:Def P w K mg base (CXF P w) 3 "check_places" ["places"] (sp13_check K Z4))(Z4a:DefM P w K mg base (CXF P w) 1 Z6 "has" ["self","name"] (sp_has K Z6))(Zj:DefM P w K mg base (CXF P w) 2 Z6 "room_of" ["self","name"] (sp32_room K Z6))(Z2n:DefX P w K mg base (CXF P w) 1 "Unknown" Z1 ["self","name","place"] (sp_unk Z1))(Z2o:DefX P w K mg base (CXF P w) 1 "TooWide" Z2 ["self","name","place"] (sp_unk Z2)):FnOk P w K mg base (CXF P w) 5 f fd ["stock","asks","places"] (sp13_asks K Z6 Z4 Z7 Z1 Z2):=by
 have sc:FnScope ["stock","asks","places","number","name"] ["stock","asks","places"] (defScope Z3h):=by walk_at "sc"
 refine F.okF sc (fun vs H Q E h=>?_) (fun cdv A outer s H vs Q E hr h=>?_)
 · obtain ⟨_,_,_,_,_,rfl,_⟩:=h;rfl
 obtain ⟨p,a,v,ts,ys,rfl,hs,nd,hS,hl,hv,q,qn,qm,qu,qw⟩:=h
 refine ⟨_,(@pss_cons _ _ _ _ _ (ps_expr (pe_callD Zd hr rfl pass_onF (pa_cons (pv 2) pa_nil)))
  (@pss_cons _ _ _ _ _ (ps_if (pt_cmpR op_gt (pe_callB call_len_seq rfl T.Z0o PySem.boot_len (pa_cons (pv 1) pa_nil)) (pe_gint rfl T.Z0u) (nomark _))
   (@pss_one _ _ _ (ps_raiseF T.Zbg rfl T.k_TooMany rfl rfl T.Zbf raisesF (pa_cons (pe_fstr (pj_cons pe_str (pj_cons (pe_fmt (pe_gint rfl T.Z0u)) (pj_cons pe_str pj_nil)))) pa_nil)))
   pss_nil)
  (@pss_cons _ _ _ _ _ (ps_for own_outF rfl (pi_enum rfl T.Z0e (pa_cons (pv 1) pa_nil)) (pg_tup rfl (pgs_cons (pg_name (i:=3) sc.nd rfl (Or.inl rfl)) (pgs_cons (pg_name (i:=4) sc.nd rfl (Or.inl rfl)) pgs_nil)))
   (@pss_cons _ _ _ _ _ (ps_if (pt_not (pt_val (pe_methS Z4a T.Zx hr (passS pass_onF) (pv 0) (pa_cons (pv 4) pa_nil))))
    (@pss_one _ _ _ (ps_raiseI Z2n rfl hr rfl rfl (passS pass_onF) raisesF (pa_cons (pv 4) (pa_cons (pv 3) pa_nil))))
    pss_nil)
   (@pss_one _ _ _ (ps_if (pt_cmpR op_gt (pe_methS Zj T.Zx hr (passS pass_onF) (pv 0) (pa_cons (pv 4) pa_nil)) (pv 2) (nomark _))
    (@pss_one _ _ _ (ps_raiseI Z2o rfl hr rfl rfl (passS pass_onF) raisesF (pa_cons (pv 4) (pa_cons (pv 3) pa_nil))))
    pss_nil))))
  (@pss_one _ _ _ (@ps_ret _ _ _ _ pe_bl))))),?_⟩
 walk_at "st"
 have line:=line_val
 obtain ⟨dx,d,kvs,h1,h2,h3,h4,h5⟩:=StockAt.has hs
 walk_at "go"
 refine ⟨fun hw=>?_,fun hw H' y sm hy er=>qn (by unfold askD;rw [if_neg (by rw [hw];decide)]) H' y sm hy er⟩
 obtain ⟨n,rfl,hn1,hn2⟩:=N53.wIn_one hw
 walk_at "go"
 rw [List.length_map]
 split
 · rename_i hm
   have e:askD ts (.int n) ys=(Str.ofString "many",none):=by unfold askD;rw [if_pos hw,if_pos (by omega)]
   have l1:(Str.ofString "a row has at most ").length≤100:=by decide+kernel
   have l3:(Str.ofString " asks").length≤100:=by decide+kernel
   have l2:(Str.ofString (toString (200:Int))).length≤100:=by decide+kernel
   have l0:=len_empty
   refine ⟨by rw [len_app];omega,by decide,by rw [len_app,len_app];omega,by rw [len_app,len_app,len_app];omega,by rw [len_app,len_app,len_app];omega,by omega,fun x hx=>⟨hx,qm e _ x (Same.new hx) hx upd_same⟩⟩
 · rename_i hm
   have e0:∀r,(match bad ts n ys 0 with | some (true,z,i)=>(Str.ofString "unknown",some (z,i)) | some (false,z,i)=>(Str.ofString "wide",some (z,i)) | none=>(Str.ofString "fine",none))=r→askD ts (.int n) ys=r:=fun r h=>by unfold askD;rw [if_pos hw,if_neg (by omega)];exact h
   walk_at "go"
   refine ⟨⟨_,hS⟩,?_⟩
   rename_i rest hrest
   refine forE_by (xs:=ys.map V.str) (fun i σ H'=>∃(v3 v4:Option V),σ=[some (V.ref p),some (V.ref a),some (V.int n),v3,v4]∧Same H H'∧bad ts n ys 0=bad ts n (ys.drop i) i) ⟨none,none,rfl,Same.refl _,by rw [List.drop_zero]⟩ (fun i σ H' _ h_=>by obtain ⟨v3,v4,_,sm,_⟩:=h_;exact sm.seq hS) ?_ ?_
   · rintro i x σ H' t hx ⟨v3,v4,rfl,sm,hbd⟩ ht
     rw [List.getElem?_map]at hx
     cases hy:ys[i]? with
     | none=>rw [hy]at hx;cases hx
     | some y=>
      rw [hy]at hx
      cases hx
      rw [bad_step hy]at hbd
      walk_at "go"
      refine ⟨_,SqT.of upd_same,rfl,_,_,rfl,_,_,rfl,rfl,?_⟩
      have sm2:=sm.trans (Same.new (o:= .tup [.int i,.str y]) ht)
      generalize upd H' t (.tup [.int i,.str y])=H2 at sm2 ⊢
      clear sm ht
      have hs2:=hs.same sm2
      have hp2:=sm2 _ _ h1
      have noneH:∀b,H2 b=none→H b=none:=fun b e=>by
       cases q:H b with
       | none=>rfl
       | some o=>rw [sm2 _ _ q]at e;cases e
      walk_at "go"
      refine ⟨dx,flds d,hp2,by rfl,ts,hs2,?_⟩
      by_cases hin:y∈ts.map (·.1)
      · rw [if_neg (by simpa using hin)]
        rw [if_pos hin]at hbd
        walk_at "go"
        refine ⟨dx,flds d,hp2,by rfl,ts,hs2,nd,hin,?_⟩
        rw [← rm_rmOf]at hbd
        split
        · rename_i hwd
          rw [if_pos hwd]at hbd
          walk_at "go"
          intro x hx
          refine ⟨true,upd_same,fun dx' hd'=>?_⟩
          have n1:x≠dx':=fun e=>by rw [e,upd_same]at hd';cases hd'
          have hd2:H2 dx'=none:=by rw [upd_ne n1.symm]at hd';exact hd'
          walk_at "go"
          refine ⟨some dx',by rw [upd_ne n1,upd_same],noneH x hx,?_⟩
          refine qw y i (e0 _ (by rw [hbd])) _ x (fun b o e=>?_) (noneH x hx) ⟨dx',upd_same,by rw [upd_ne n1.symm,upd_same]⟩
          have e:=sm2 _ _ e
          rw [upd_ne (ne_of_none e hx),upd_ne (ne_of_none e hd2),upd_ne (ne_of_none e hx)]
          exact e
        · rename_i hwd
          rw [if_neg hwd]at hbd
          walk_at "go"
          exact hbd
      · rw [if_pos (by simpa using hin)]
        rw [if_neg hin]at hbd
        walk_at "go"
        intro x hx
        refine ⟨true,upd_same,fun dx' hd'=>?_⟩
        have n1:x≠dx':=fun e=>by rw [e,upd_same]at hd';cases hd'
        have hd2:H2 dx'=none:=by rw [upd_ne n1.symm]at hd';exact hd'
        walk_at "go"
        refine ⟨some dx',by rw [upd_ne n1,upd_same],noneH x hx,?_⟩
        refine qu y i (e0 _ (by rw [hbd])) _ x (fun b o e=>?_) (noneH x hx) ⟨dx',upd_same,by rw [upd_ne n1.symm,upd_same]⟩
        have e:=sm2 _ _ e
        rw [upd_ne (ne_of_none e hx),upd_ne (ne_of_none e hd2),upd_ne (ne_of_none e hx)]
        exact e
   · rintro σ H' ⟨v3,v4,rfl,sm,hbd⟩
     rw [List.length_map,List.drop_length]at hbd
     walk_at "go"
     exact q (e0 _ (by rw [hbd];rfl)) _ sm
theorem Z7a{f:Addr}{fd:FuncData}(F:Fun K "word" "Unknown.word" Z2h f fd)(T:Txt K mg xU0 xU1 xU2 Z3 Z1 Z2 Z4 Z7 Z8 Z6 Z5 Zc Z9 Z0 xmake_oldest xmake_first xmake_halving xmake_farthest xmake_hand xmake_rows xmake_dues xrow_of_rounds xrow_of_pairs Za Zb):FnOkH P w K mg base (CXF P w) 1 f fd ["self"] (sp67_word (Str.ofString "unknown")):=by
 have sc:FnScope ["self"] ["self"] (defScope Z2h):=by walk_at "sc"
 refine F.okH sc (fun vs H Q E h=>?_) (fun cdv A outer s H vs Q E hr h=>?_)
 · obtain ⟨_,rfl,_⟩:=h;rfl
 obtain ⟨x,rfl,q⟩:=h
 refine ⟨_,(@pss_one _ _ _ (@ps_ret _ _ _ _ pe_str)),?_⟩
 walk_at "st"
 walk_at "go"
 exact q
theorem Z7b{f:Addr}{fd:FuncData}(F:Fun K "word" "TooWide.word" Z2i f fd)(T:Txt K mg xU0 xU1 xU2 Z3 Z1 Z2 Z4 Z7 Z8 Z6 Z5 Zc Z9 Z0 xmake_oldest xmake_first xmake_halving xmake_farthest xmake_hand xmake_rows xmake_dues xrow_of_rounds xrow_of_pairs Za Zb):FnOkH P w K mg base (CXF P w) 1 f fd ["self"] (sp67_word (Str.ofString "too wide")):=by
 have sc:FnScope ["self"] ["self"] (defScope Z2i):=by walk_at "sc"
 refine F.okH sc (fun vs H Q E h=>?_) (fun cdv A outer s H vs Q E hr h=>?_)
 · obtain ⟨_,rfl,_⟩:=h;rfl
 obtain ⟨x,rfl,q⟩:=h
 refine ⟨_,(@pss_one _ _ _ (@ps_ret _ _ _ _ pe_str)),?_⟩
 walk_at "st"
 walk_at "go"
 exact q
theorem Z6s{f:Addr}{fd:FuncData}(F:Fun K "word" "NoNumber.word" Z2b f fd)(T:Txt K mg xU0 xU1 xU2 Z3 Z1 Z2 Z4 Z7 Z8 Z6 Z5 Zc Z9 Z0 xmake_oldest xmake_first xmake_halving xmake_farthest xmake_hand xmake_rows xmake_dues xrow_of_rounds xrow_of_pairs Za Zb):FnOkH P w K mg base (CXF P w) 1 f fd ["self"] (sp67_word (Str.ofString "no number")):=by
 have sc:FnScope ["self"] ["self"] (defScope Z2b):=by walk_at "sc"
 refine F.okH sc (fun vs H Q E h=>?_) (fun cdv A outer s H vs Q E hr h=>?_)
 · obtain ⟨_,rfl,_⟩:=h;rfl
 obtain ⟨x,rfl,q⟩:=h
 refine ⟨_,(@pss_one _ _ _ (@ps_ret _ _ _ _ pe_str)),?_⟩
 walk_at "st"
 walk_at "go"
 exact q
theorem Z7c{f:Addr}{fd:FuncData}(F:Fun K "word" "TooMany.word" Z2j f fd)(T:Txt K mg xU0 xU1 xU2 Z3 Z1 Z2 Z4 Z7 Z8 Z6 Z5 Zc Z9 Z0 xmake_oldest xmake_first xmake_halving xmake_farthest xmake_hand xmake_rows xmake_dues xrow_of_rounds xrow_of_pairs Za Zb):FnOkH P w K mg base (CXF P w) 1 f fd ["self"] (sp67_word (Str.ofString "too many")):=by
 have sc:FnScope ["self"] ["self"] (defScope Z2j):=by walk_at "sc"
 refine F.okH sc (fun vs H Q E h=>?_) (fun cdv A outer s H vs Q E hr h=>?_)
 · obtain ⟨_,rfl,_⟩:=h;rfl
 obtain ⟨x,rfl,q⟩:=h
 refine ⟨_,(@pss_one _ _ _ (@ps_ret _ _ _ _ pe_str)),?_⟩
 walk_at "st"
 walk_at "go"
 exact q
theorem Z7n{f:Addr}{fd:FuncData}(F:Fun K "word" "NoRule.word" Z2w f fd)(T:Txt K mg xU0 xU1 xU2 Z3 Z1 Z2 Z4 Z7 Z8 Z6 Z5 Zc Z9 Z0 xmake_oldest xmake_first xmake_halving xmake_farthest xmake_hand xmake_rows xmake_dues xrow_of_rounds xrow_of_pairs Za Zb):FnOkH P w K mg base (CXF P w) 1 f fd ["self"] (sp67_word (Str.ofString "no rule")):=by
 have sc:FnScope ["self"] ["self"] (defScope Z2w):=by walk_at "sc"
 refine F.okH sc (fun vs H Q E h=>?_) (fun cdv A outer s H vs Q E hr h=>?_)
 · obtain ⟨_,rfl,_⟩:=h;rfl
 obtain ⟨x,rfl,q⟩:=h
 refine ⟨_,(@pss_one _ _ _ (@ps_ret _ _ _ _ pe_str)),?_⟩
 walk_at "st"
 walk_at "go"
 exact q
theorem Z87{f:Addr}{fd:FuncData}(F:Fun K "__init__" "Shelf.__init__" Z3i f fd)(T:Txt K mg xU0 xU1 xU2 Z3 Z1 Z2 Z4 Z7 Z8 Z6 Z5 Zc Z9 Z0 xmake_oldest xmake_first xmake_halving xmake_farthest xmake_hand xmake_rows xmake_dues xrow_of_rounds xrow_of_pairs Za Zb)(Zd:Def P w K mg base (CXF P w) 3 "check_places" ["places"] (sp13_check K Z4)):FnOk P w K mg base (CXF P w) 4 f fd ["self","stock","places"] (sp_sinit Z5):=by
 have sc:FnScope ["self","stock","places"] ["self","stock","places"] (defScope Z3i):=by walk_at "sc"
 refine F.okF sc (fun vs H Q E h=>?_) (fun cdv A outer s H vs Q E hr h=>?_)
 · obtain ⟨_,_,_,_,rfl,_⟩:=h;rfl
 obtain ⟨s,dx,p,n,rfl,hs,h1,h2,q⟩:=h
 replace Zd:=Zd.weaker fun _ _ _ _=>im_places
 refine ⟨_,(@pss_cons _ _ _ _ _ (ps_expr (pe_callD Zd hr rfl pass_onF (pa_cons (pv 2) pa_nil)))
  (@pss_cons _ _ _ _ _ (ps_fld (pv 0) (pv 1) rfl)
  (@pss_cons _ _ _ _ _ (ps_fld (pv 0) (pv 2) rfl)
  (@pss_one _ _ _ (ps_fld (pv 0) pe_dnewK rfl))))),?_⟩
 walk_at "st"
 walk_at "go"
 refine ⟨Z5,dx,[],hs,T.Zf,T.Zv,by decide,?_⟩
 walk_at "go"
 refine ⟨Z5,dx,_,upd_same,T.Zf,T.Z08,by simp [putF],?_⟩
 walk_at "go"
 intro d hd
 have nd:d≠s:=fun e=>by rw [e,upd_same]at hd;cases hd
 have hd0:H d=none:=by rw [upd_ne nd]at hd;exact hd
 refine ⟨Z5,dx,_,by rw [upd_ne nd.symm,upd_same],T.Zf,T.Zp,by have:=length_putF "places" (V.int n) (putF "stock" (V.ref p) []);have:=length_putF "stock" (V.ref p) [];simp at *;omega,?_⟩
 refine q _ d (fun b o e nb=>?_) hd0 ⟨⟨dx,upd_same⟩,by rw [upd_ne nd,upd_same];rfl,List.nodup_nil⟩
 rw [upd_ne nb,upd_ne (ne_of_none e hd0),upd_ne nb]
 exact e
theorem Z7o{f:Addr}{fd:FuncData}(F:Fun K "lying" "Shelf.lying" Z2x f fd)(T:Txt K mg xU0 xU1 xU2 Z3 Z1 Z2 Z4 Z7 Z8 Z6 Z5 Zc Z9 Z0 xmake_oldest xmake_first xmake_halving xmake_farthest xmake_hand xmake_rows xmake_dues xrow_of_rounds xrow_of_pairs Za Zb):FnOk P w K mg base (CXF P w) 1 f fd ["self"] (sp_lying Z5):=by
 have sc:FnScope ["self"] ["self"] (defScope Z2x):=by walk_at "sc"
 refine F.okF sc (fun vs H Q E h=>?_) (fun cdv A outer s H vs Q E hr h=>?_)
 · obtain ⟨_,_,_,_,_,rfl,_⟩:=h;rfl
 obtain ⟨s,p,d,n,ls,rfl,hs,q⟩:=h
 refine ⟨_,(@pss_one _ _ _ (@ps_ret _ _ _ _ (pe_callTy (call_listD rfl) rfl T.Z29 (by first | rfl | decide+kernel) (pa_cons (pe_fld (pv 0) rfl) pa_nil)))),?_⟩
 walk_at "st"
 obtain ⟨⟨dx,ho⟩,hd,_⟩:=hs
 walk_at "go"
 refine ⟨Z5,dx,_,ho,T.Zf,T.Zp,_,sfl_rooms,?_⟩
 walk_at "go"
 refine ⟨_,hd,fun l hl=>?_⟩
 rw [lyK_names]
 exact q l hl
theorem Z7p{f:Addr}{fd:FuncData}(F:Fun K "holds" "Shelf.holds" Z2y f fd)(T:Txt K mg xU0 xU1 xU2 Z3 Z1 Z2 Z4 Z7 Z8 Z6 Z5 Zc Z9 Z0 xmake_oldest xmake_first xmake_halving xmake_farthest xmake_hand xmake_rows xmake_dues xrow_of_rounds xrow_of_pairs Za Zb):FnOk P w K mg base (CXF P w) 1 f fd ["self","name"] (sp_holds Z5):=by
 have sc:FnScope ["self","name"] ["self","name"] (defScope Z2y):=by walk_at "sc"
 refine F.okF sc (fun vs H Q E h=>?_) (fun cdv A outer s H vs Q E hr h=>?_)
 · obtain ⟨_,_,_,_,_,_,rfl,_⟩:=h;rfl
 obtain ⟨s,p,d,n,ls,z,rfl,hs,q⟩:=h
 refine ⟨_,(@pss_one _ _ _ (@ps_ret _ _ _ _ (pe_cmp (pc_din (hu_of hr) (pv 1) (pe_fld (pv 0) rfl))))),?_⟩
 walk_at "st"
 obtain ⟨⟨dx,ho⟩,hd,_⟩:=hs
 walk_at "go"
 refine ⟨Z5,dx,_,ho,T.Zf,T.Zp,_,sfl_rooms,d,rfl,_,DGet.k (k:=Sum.inr z) hd,?_⟩
 rw [lyK_mem]
 exact q
theorem Z62{f:Addr}{fd:FuncData}(F:Fun K "room_left" "Shelf.room_left" Z1m f fd)(T:Txt K mg xU0 xU1 xU2 Z3 Z1 Z2 Z4 Z7 Z8 Z6 Z5 Zc Z9 Z0 xmake_oldest xmake_first xmake_halving xmake_farthest xmake_hand xmake_rows xmake_dues xrow_of_rounds xrow_of_pairs Za Zb):FnOk P w K mg base (CXF P w) 1 f fd ["self"] (sp_left Z5):=by
 have sc:FnScope ["self"] ["self"] (defScope Z1m):=by walk_at "sc"
 refine F.okF sc (fun vs H Q E h=>?_) (fun cdv A outer s H vs Q E hr h=>?_)
 · obtain ⟨_,_,_,_,_,rfl,_⟩:=h;rfl
 obtain ⟨s,p,d,n,ls,rfl,hs,q⟩:=h
 refine ⟨_,(@pss_one _ _ _ (@ps_ret _ _ _ _ (pe_op op_sub (pe_fld (pv 0) rfl) (pe_callB (call_sumV rfl) rfl T.Z72 (by first | rfl | decide+kernel) (pa_cons (pe_bm0 PySem.F.plainAttrs_dict PySem.F.slot_dict_values PySem.F.type_dict_values mt_values (pe_fld (pv 0) rfl)) pa_nil))))),?_⟩
 walk_at "st"
 obtain ⟨⟨dx,ho⟩,hd,_⟩:=hs
 walk_at "go"
 refine ⟨Z5,dx,_,ho,T.Zf,T.Z08,_,sfl_places,Z5,dx,_,ho,T.Zf,T.Zp,_,sfl_rooms,?_⟩
 refine ⟨.inr (.inr (.inl ⟨rfl,.inl ⟨_,hd⟩⟩)),d,rfl,_,hd,fun v hv=>⟨d,upd_same,_,(Same.new hv) _ _ hd,_,lyK_vals,n,rfl,q _ (Same.new hv)⟩⟩
theorem Z8o{f:Addr}{fd:FuncData}(F:Fun K "put" "Shelf.put" Z42 f fd)(T:Txt K mg xU0 xU1 xU2 Z3 Z1 Z2 Z4 Z7 Z8 Z6 Z5 Zc Z9 Z0 xmake_oldest xmake_first xmake_halving xmake_farthest xmake_hand xmake_rows xmake_dues xrow_of_rounds xrow_of_pairs Za Zb)(Zj:DefM P w K mg base (CXF P w) 2 Z6 "room_of" ["self","name"] (sp32_room K Z6))(Zg:DefM P w K mg base (CXF P w) 1 Z5 "holds" ["self","name"] (sp_holds Z5))(Zk:DefM P w K mg base (CXF P w) 1 Z5 "room_left" ["self"] (sp_left Z5)):FnOk P w K mg base (CXF P w) 4 f fd ["self","name"] (sp_putG K Z6 Z5):=by
 have sc:FnScope ["self","name","room"] ["self","name"] (defScope Z42):=by walk_at "sc"
 refine F.okF sc (fun vs H Q E h=>?_) (fun cdv A outer s H vs Q E hr h=>?_)
 · obtain ⟨_,_,_,_,_,_,_,_,rfl,_⟩:=h;rfl
 obtain ⟨s,p,d,n,ls,ts,z,r,rfl,hs,hx,nd,hl,hz,hr',hin,hle,q⟩:=h
 refine ⟨_,(@pss_cons _ _ _ _ _ (ps_set (i:=2) sc.nd rfl (Or.inl rfl) (pe_methS Zj T.Zx hr (passS pass_onF) (pe_fld (pv 0) rfl) (pa_cons (pv 1) pa_nil)))
  (@pss_cons _ _ _ _ _ (ps_if (pt_val (pe_methS Zg T.Zf hr (passS pass_onF) (pv 0) (pa_cons (pv 1) pa_nil)))
   (@pss_one _ _ _ ps_never)
   pss_nil)
  (@pss_cons _ _ _ _ _ (ps_if (pt_cmpR op_gt (pv 2) (pe_methS0 Zk T.Zf hr (passS pass_onF) (pv 0)) (nomark _))
   (@pss_one _ _ _ ps_never)
   pss_nil)
  (@pss_one _ _ _ (ps_dput (hu_of hr) (pe_fld (pv 0) rfl) (pv 1) (pv 2) rfl))))),?_⟩
 walk_at "st"
 have line:=line_val
 have hsA:=hs
 obtain ⟨⟨dx,ho⟩,hd,hnd⟩:=hs
 obtain ⟨dy,e,kvs,h1,h2,h3,h4,h5⟩:=StockAt.has hx.at
 walk_at "go"
 refine ⟨Z5,dx,_,ho,T.Zf,T.Zv,_,sfl_stock,?_⟩
 walk_at "go"
 refine ⟨dy,flds e,h1,by rfl,ts,hx.at,nd,hz,?_⟩
 rw [rm_of nd hz hr']
 walk_at "go"
 refine ⟨dx,_,ho,by rfl,?_⟩
 walk_at "go"
 refine ⟨_,_,_,_,hsA,?_⟩
 rw [if_neg (by simpa using hin)]
 walk_at "go"
 refine ⟨dx,_,ho,by rfl,_,_,_,_,hsA,fun H1 sm1=>?_⟩
 rw [if_neg (by omega)]
 walk_at "go"
 refine ⟨Z5,dx,_,sm1 _ _ ho,T.Zf,T.Zp,_,sfl_rooms,?_⟩
 have hll:(lyK ls).length < sizeLine:=by unfold lyK;rw [List.length_map];omega
 refine ⟨d,rfl,_,DPut.k (k:=Sum.inr z) (sm1 _ _ hd) hll,?_⟩
 refine q _ (fun b o e n=>?_) (hsA.put sm1 hin)
 rw [upd_ne n];exact sm1 _ _ e
theorem Z88{f:Addr}{fd:FuncData}(F:Fun K "cast" "Shelf.cast" Z3j f fd)(T:Txt K mg xU0 xU1 xU2 Z3 Z1 Z2 Z4 Z7 Z8 Z6 Z5 Zc Z9 Z0 xmake_oldest xmake_first xmake_halving xmake_farthest xmake_hand xmake_rows xmake_dues xrow_of_rounds xrow_of_pairs Za Zb)(Zg:DefM P w K mg base (CXF P w) 1 Z5 "holds" ["self","name"] (sp_holds Z5)):FnOk P w K mg base (CXF P w) 2 f fd ["self","name"] (sp_castG Z5):=by
 have sc:FnScope ["self","name"] ["self","name"] (defScope Z3j):=by walk_at "sc"
 refine F.okF sc (fun vs H Q E h=>?_) (fun cdv A outer s H vs Q E hr h=>?_)
 · obtain ⟨_,_,_,_,_,_,rfl,_⟩:=h;rfl
 obtain ⟨s,p,d,n,ls,z,rfl,hs,hin,q⟩:=h
 refine ⟨_,(@pss_cons _ _ _ _ _ (ps_if (pt_not (pt_val (pe_methS Zg T.Zf hr (passS pass_onF) (pv 0) (pa_cons (pv 1) pa_nil))))
  (@pss_one _ _ _ ps_never)
  pss_nil)
  (@pss_one _ _ _ (ps_expr (pe_dpop1 (pe_fld (pv 0) rfl) (pv 1) ⟨rfl,rfl,rfl,rfl⟩)))),?_⟩
 walk_at "st"
 have line:=line_val
 have hsA:=hs
 obtain ⟨⟨dx,ho⟩,hd,hnd⟩:=hs
 walk_at "go"
 refine ⟨dx,_,ho,by rfl,_,_,_,_,hsA,?_⟩
 rw [if_neg (fun h=>h hin)]
 walk_at "go"
 have hv:=lyK_mem (ls:=ls) (z:=z)
 rw [decide_eq_true hin]at hv
 obtain ⟨v,hv⟩:=Option.isSome_iff_exists.mp hv
 refine ⟨Z5,dx,_,ho,T.Zf,T.Zp,_,sfl_rooms,d,rfl,.inl ⟨_,.inl hd⟩,_,hd,Sum.inr z,rfl,v,hv,?_⟩
 exact q _ (fun b o e n=>by rw [upd_ne n];exact e) hsA.cast
theorem Z8p{f:Addr}{fd:FuncData}(F:Fun K "casts_off" "casts_off" Z43 f fd)(T:Txt K mg xU0 xU1 xU2 Z3 Z1 Z2 Z4 Z7 Z8 Z6 Z5 Zc Z9 Z0 xmake_oldest xmake_first xmake_halving xmake_farthest xmake_hand xmake_rows xmake_dues xrow_of_rounds xrow_of_pairs Za Zb)(Zg:DefM P w K mg base (CXF P w) 1 Z5 "holds" ["self","name"] (sp_holds Z5))(Z0i:DefM P w K mg base (CXF P w) 2 Z5 "cast" ["self","name"] (sp_castG Z5)):FnOk P w K mg base (CXF P w) 3 f fd ["shelf","name","gone"] (sp14_casts K Z5):=by
 have sc:FnScope ["shelf","name","gone","other"] ["shelf","name","gone"] (defScope Z43):=by walk_at "sc"
 refine F.okF sc (fun vs H Q E h=>?_) (fun cdv A outer s H vs Q E hr h=>?_)
 · obtain ⟨_,_,_,_,_,_,_,_,rfl,_⟩:=h;rfl
 obtain ⟨q',p,d,g,n,ls,z,gone,rfl,hs,hg,hok,q⟩:=h
 refine ⟨_,(@pss_cons _ _ _ _ _ (ps_for own_outF rfl (pi_list (pv 2)) (pg_name (i:=3) sc.nd rfl (Or.inl rfl))
  (@pss_cons _ _ _ _ _ (ps_if (PW.pt (pw_or (pt_cmpR op_eq (pv 3) (pv 1) (nomark _)) (pw_or1 (pt_not (pt_val (pe_methS Zg T.Zf hr (passS pass_onF) (pv 0) (pa_cons (pv 3) pa_nil)))))))
   (@pss_one _ _ _ (@ps_ret _ _ _ _ pe_bl))
   pss_nil)
  (@pss_one _ _ _ (ps_expr (pe_methS Z0i T.Zf hr (passS pass_onF) (pv 0) (pa_cons (pv 3) pa_nil))))))
  (@pss_one _ _ _ (@ps_ret _ _ _ _ pe_bl))),?_⟩
 walk_at "st"
 have line:=line_val
 have hd0:=hs.d
 walk_at "go"
 refine ⟨⟨_,hg⟩,?_⟩
 refine forL_by (xs:=gone.map V.str) (fun i σ H'=>∃(v3:Option V),σ=[some (V.ref q'),some (V.str z),some (V.ref g),v3]∧SameBut d H H'∧ShelfAt Z5 H' q' p d n (lyDs ls (gone.take i))) ⟨none,rfl,.of (Same.refl H),hs⟩ (fun i σ H' _ h_=>by obtain ⟨v3,_,sb,_⟩:=h_;exact SqL.butD sb hd0 hg) ?_ ?_
 · rintro i v σ H' hv ⟨v3,rfl,sb,hs'⟩
   rw [List.getElem?_map]at hv
   cases ho:gone[i]? with
   | none=>rw [ho]at hv;cases hv
   | some o=>
    rw [ho]at hv
    cases hv
    obtain ⟨h1,h2⟩:=okG_take hok ho
    rw [lyDs_succ ho]
    obtain ⟨⟨dx,ho'⟩,hd',hnd'⟩:=id hs'
    walk_at "go"
    rw [if_neg h1]
    refine ⟨dx,_,ho',by rfl,_,_,_,_,hs',?_⟩
    rw [if_neg (fun h=>h h2)]
    rename_i rest hrest
    subst hrest
    walk_at "go"
    refine ⟨dx,_,ho',by rfl,?_⟩
    refine ⟨_,_,_,_,hs',h2,fun H2 sb2 hs2=>⟨sb.trans sb2,hs2⟩⟩
 · rintro σ H' ⟨v3,rfl,sb,hs'⟩
   rw [List.length_map,List.take_length]at hs'
   walk_at "go"
   exact q H' sb hs'
theorem Zbk{f:Addr}{fd:FuncData}(F:Fun K "serves" "serves" Z6o f fd)(T:Txt K mg xU0 xU1 xU2 Z3 Z1 Z2 Z4 Z7 Z8 Z6 Z5 Zc Z9 Z0 xmake_oldest xmake_first xmake_halving xmake_farthest xmake_hand xmake_rows xmake_dues xrow_of_rounds xrow_of_pairs Za Zb)(Zg:DefM P w K mg base (CXF P w) 1 Z5 "holds" ["self","name"] (sp_holds Z5))(Z4b:Def P w K mg base (CXF P w) 3 "casts_off" ["shelf","name","gone"] (sp14_casts K Z5))(Zj:DefM P w K mg base (CXF P w) 2 Z6 "room_of" ["self","name"] (sp32_room K Z6))(Zk:DefM P w K mg base (CXF P w) 1 Z5 "room_left" ["self"] (sp_left Z5))(Z0x:DefM P w K mg base (CXF P w) 4 Z5 "put" ["self","name"] (sp_putG K Z6 Z5)):FnOk P w K mg base (CXF P w) 5 f fd ["shelf","name","row"] (sp14_serves K Z6 Z5):=by
 have sc:FnScope ["shelf","name","row","there"] ["shelf","name","row"] (defScope Z6o):=by walk_at "sc"
 refine F.okF sc (fun vs H Q E h=>?_) (fun cdv A outer s H vs Q E hr h=>?_)
 · obtain ⟨_,_,_,_,_,_,_,_,_,_,rfl,_⟩:=h;rfl
 obtain ⟨q',p,d,r,g,n,ls,ts,z,row,rfl,hs,hx,nd,hz,hl,hr',hg,hok,q⟩:=h
 refine ⟨_,(@pss_cons _ _ _ _ _ (ps_set (i:=3) sc.nd rfl (Or.inl rfl) (pe_methS Zg T.Zf hr (passS pass_onF) (pv 0) (pa_cons (pv 1) pa_nil)))
  (@pss_cons _ _ _ _ _ (ps_if (PW.pt (pw_or (pt_cmpR op_ne (@pe_ix _ _ _ _ _ _ _ ix_tup (pv 2) pe_int (fun _ _=>rfl)) (pv 1) (nomark _)) (pw_or1 (pt_cmpR op_ne (@pe_ix _ _ _ _ _ _ _ ix_tup (pv 2) pe_int (fun _ _=>rfl)) (pv 3) (nomark _)))))
   (@pss_one _ _ _ (@ps_ret _ _ _ _ pe_bl))
   pss_nil)
  (@pss_cons _ _ _ _ _ (ps_if (pt_not (pt_val (pe_callD Z4b hr rfl pass_onF (pa_cons (pv 0) (pa_cons (pv 1) (pa_cons (@pe_ix _ _ _ _ _ _ _ ix_tup (pv 2) pe_int (fun _ _=>rfl)) pa_nil))))))
   (@pss_one _ _ _ (@ps_ret _ _ _ _ pe_bl))
   pss_nil)
  (@pss_cons _ _ _ _ _ (ps_if (pt_val (pv 3))
   (@pss_one _ _ _ (@ps_ret _ _ _ _ pe_bl))
   pss_nil)
  (@pss_cons _ _ _ _ _ (ps_if (pt_cmpR op_gt (pe_methS Zj T.Zx hr (passS pass_onF) (pe_fld (pv 0) rfl) (pa_cons (pv 1) pa_nil)) (pe_methS0 Zk T.Zf hr (passS pass_onF) (pv 0)) (nomark _))
   (@pss_one _ _ _ (@ps_ret _ _ _ _ pe_bl))
   pss_nil)
  (@pss_cons _ _ _ _ _ (ps_expr (pe_methS Z0x T.Zf hr (passS pass_onF) (pv 0) (pa_cons (pv 1) pa_nil)))
  (@pss_one _ _ _ (@ps_ret _ _ _ _ pe_bl)))))))),?_⟩
 walk_at "st"
 have line:=line_val
 obtain ⟨⟨dx,ho⟩,hd,hnd⟩:=id hs
 obtain ⟨e1,e2,e3,e4⟩:=hok
 obtain ⟨r0,r1,r2⟩:=row
 simp only at e1 e2 e3 e4 hr' hg q
 subst e1
 walk_at "go"
 refine ⟨dx,_,ho,by rfl,_,_,_,_,hs,?_⟩
 walk_at "go"
 refine ⟨_,_,_,_,hs,_,hg,e3,fun H1 sb1 hs1=>?_⟩
 rename_i rest hrest
 subst hrest
 obtain ⟨⟨dx1,ho1⟩,hd1,hnd1⟩:=id hs1
 walk_at "go"
 by_cases hin:r0∈lyN ls
 · rw [if_pos hin]
   refine q H1 sb1 ?_
   unfold stepL
   rw [if_pos hin]
   exact hs1
 rw [if_neg hin]
 rename_i rest hrest
 subst hrest
 have hx1:=hx.butD sb1 hd
 obtain ⟨dy,e,kvs,h1,h2,h3,h4,h5⟩:=StockAt.has hx1.at
 walk_at "go"
 refine ⟨Z5,dx1,_,ho1,T.Zf,T.Zv,_,sfl_stock,_,rfl,dy,flds e,h1,by rfl,_,rfl,ts,hx1.at,nd,hz,dx1,_,ho1,by rfl,_,_,_,_,hs1,fun H2 sm2=>?_⟩
 have hroom:=e4 hin
 rw [if_neg (by omega)]
 rename_i rest hrest
 subst hrest
 have hs2:=hs1.same sm2
 have hx2:=hx1.same sm2
 have hle:=lyDs_le ls r2
 obtain ⟨⟨dx2,ho2⟩,hd2,hnd2⟩:=id hs2
 walk_at "go"
 refine ⟨dx2,_,ho2,by rfl,_,_,_,_,hs2,ts,hx2,nd,by omega,hz,rm ts r0,fun t ht e=>?_,fun h=>hin (lyDs_mem.mp h).1,hroom,fun H3 sb3 hs3=>?_⟩
 · obtain ⟨i,hi⟩:=List.getElem?_of_mem ht
   rw [← e,rm_at nd hi]
 rename_i rest hrest
 subst hrest
 walk_at "go"
 refine q H3 ((sb1.trans (.of sm2)).trans sb3) ?_
 unfold stepL
 rw [if_neg hin]
 exact hs3
theorem Z7q{f:Addr}{fd:FuncData}(F:Fun K "lying_after" "lying_after" Z2z f fd)(T:Txt K mg xU0 xU1 xU2 Z3 Z1 Z2 Z4 Z7 Z8 Z6 Z5 Zc Z9 Z0 xmake_oldest xmake_first xmake_halving xmake_farthest xmake_hand xmake_rows xmake_dues xrow_of_rounds xrow_of_pairs Za Zb)(Zm:Def P w K mg base (CXF P w) 5 "check_asks" ["stock","asks","places"] (sp13_asks K Z6 Z4 Z7 Z1 Z2))(Z0j:DefI P w K mg base (CXF P w) 4 "Shelf" Z5 ["self","stock","places"] (sp_sinit Z5))(Z6t:Def P w K mg base (CXF P w) 5 "serves" ["shelf","name","row"] (sp14_serves K Z6 Z5))(Z0c:DefM P w K mg base (CXF P w) 1 Z5 "lying" ["self"] (sp_lying Z5)):FnOk P w K mg base (CXF P w) 7 f fd ["stock","asks","places","book"] (sp14_after K Z6):=by
 have sc:FnScope ["stock","asks","places","book","shelf","told","name","row"] ["stock","asks","places","book"] (defScope Z2z):=by walk_at "sc"
 refine F.okF sc (fun vs H Q E h=>?_) (fun cdv A outer s H vs Q E hr h=>?_)
 · obtain ⟨_,_,_,_,_,_,_,_,_,rfl,_⟩:=h;rfl
 obtain ⟨p,a,b,n,ts,ys,as,gs,rs,rfl,hst,nd,ha,hlen,hin,hrm,hn1,hn2,hb,hlaw,q⟩:=h
 replace Zm:=Zm.weaker fun _ _ _ _=>im_asks
 refine ⟨_,(@pss_cons _ _ _ _ _ (ps_expr (pe_callD Zm hr rfl pass_onF (pa_cons (pv 0) (pa_cons (pv 1) (pa_cons (pv 2) pa_nil)))))
  (@pss_cons _ _ _ _ _ (ps_set (i:=4) sc.nd rfl (Or.inl rfl) (pe_makeS Z0j hr rfl (passS pass_onF) (pa_cons (pv 0) (pa_cons (pv 2) pa_nil))))
  (@pss_cons _ _ _ _ _ (ps_set (i:=5) sc.nd rfl (Or.inl rfl) (@pe_lst _ _ _ _ pa_nil))
  (@pss_cons _ _ _ _ _ (ps_for own_outF rfl (pi_zip rfl T.Z73 (pa_cons (pv 1) (pa_cons (pv 3) pa_nil))) (pg_tup rfl (pgs_cons (pg_name (i:=6) sc.nd rfl (Or.inl rfl)) (pgs_cons (pg_name (i:=7) sc.nd rfl (Or.inl rfl)) pgs_nil)))
   (@pss_cons _ _ _ _ _ (ps_if (pt_not (pt_val (pe_callD Z6t hr rfl pass_onF (pa_cons (pv 4) (pa_cons (pv 6) (pa_cons (pv 7) pa_nil))))))
    (@pss_one _ _ _ ps_never)
    pss_nil)
   (@pss_one _ _ _ (ps_expr (pe_bm PySem.F.plainAttrs_list PySem.F.slot_list_append PySem.F.type_list_append mt_append (pv 5) (pa_cons (pe_methS0 Z0c T.Zf hr (passS pass_onF) (pv 4)) pa_nil))))))
  (@pss_cons _ _ _ _ _ (ps_if (pt_cmpR op_ne (pe_callB call_len_seq rfl T.Z0o PySem.boot_len (pa_cons (pv 1) pa_nil)) (pe_callB call_len_seq rfl T.Z0o PySem.boot_len (pa_cons (pv 3) pa_nil)) (nomark _))
   (@pss_one _ _ _ ps_never)
   pss_nil)
  (@pss_one _ _ _ (@ps_ret _ _ _ _ (pv 5)))))))),?_⟩
 walk_at "st"
 have line:=line_val
 walk_at "go"
 refine ⟨ts,hst,nd,ys,ha,hlen,hin,hrm,hn1,hn2,fun H1 sm1=>?_⟩
 rename_i rest hrest
 subst hrest
 walk_at "go"
 intro x dx hx hdx hne
 refine ⟨dx,upd_same,hn1,hn2,fun H2 d sb hdn hs2=>?_⟩
 have sm2:=sm1.trans (new_same hx hdx sb)
 have hd0:=same_none sm1 (new_none hdn)
 clear hdn sb hdx hne
 rename_i rest hrest
 subst hrest
 walk_at "go"
 intro l hl
 rename_i rest hrest
 subst hrest
 have sm3:Same H (upd H2 l (.lst [])):=upd_but sm2 (same_none sm2 hl)
 have hs3:=hs2.same (Same.new (o:= .lst []) hl)
 have hx3:=(StockX.of hst hd0).same sm3
 have htold:Told H (upd H2 l (.lst [])) l [] (stL (rm ts) ys rs) 0:=⟨upd_same,rfl,by simp,by simp⟩
 have hl0:=same_none sm2 hl
 walk_at "go"
 rename_i rest hrest
 refine ⟨⟨_,sm3.seq ha⟩,⟨_,(hb.same sm3).l⟩,?_⟩
 clear hl hs2 sm2 hx sm1
 have hlen2:(ys.map V.str).length=(as.map V.ref).length:=by rw [List.length_map,List.length_map,hlaw.len,hb.n]
 refine forZ_by hlen2 (fun i σ H'=>∃(v6 v7:Option V) (qs:List Addr),σ=[some (V.ref p),some (V.ref a),some (V.int n),some (V.ref b),some (V.ref x),some (V.ref l),v6,v7]∧Same H H'∧ShelfAt Z5 H' x p d n (stL (rm ts) ys rs i)∧StockX K Z6 H' p ts d∧Told H H' l qs (stL (rm ts) ys rs) i) ⟨none,none,[],rfl,sm3,hs3,hx3,htold⟩ (fun i σ H' _ ⟨_,_,_,_,sm,_⟩=>⟨sm.seq ha,(hb.same sm).l⟩) ?_ ?_
 · clear hs3 hx3 htold sm3 hrest
   rintro i u y σ H' t hu hy ⟨v6,v7,qs,rfl,sm,hs',hx',ht'⟩ htn
   rw [List.getElem?_map]at hu hy
   cases hz:ys[i]? with
   | none=>rw [hz]at hu;cases hu
   | some z=>
   rw [hz]at hu
   cases hu
   cases hr:as[i]? with
   | none=>rw [hr]at hy;cases hy
   | some r=>
   rw [hr]at hy
   cases hy
   have hi:i < as.length:=(List.getElem?_eq_some_iff.mp hr).1
   have hi2:i < rs.length:=by rw [← hb.n];exact hi
   have hi3:i < gs.length:=by rw [hb.m];exact hi2
   have hrow:=List.getElem?_eq_getElem hi2
   have hg:=List.getElem?_eq_getElem hi3
   generalize rs[i]=row at hrow
   generalize gs[i]=g at hg
   obtain ⟨hT,hG⟩:=hb.t i r g row hr hg hrow
   have hok:=hlaw.row hz hrow
   have hstep:=stL_succ (R:=rm ts) hz hrow
   have hle:=stL_le (rm ts) ys rs i
   have hi4:i < ys.length:=(List.getElem?_eq_some_iff.mp hz).1
   have hzin:=hin z (List.mem_of_getElem? hz)
   walk_at "go"
   refine ⟨_,SqT.of upd_same,rfl,_,_,rfl,_,_,rfl,rfl,?_⟩
   have smt:Same H' (upd H' t (.tup [V.str z,V.ref r])):=Same.new htn
   have sm4:=sm.trans smt
   have hs4:=hs'.same smt
   have hx4:=hx'.same smt
   have ht4:=ht'.same smt
   generalize upd H' t (.tup [V.str z,V.ref r])=H4 at smt sm4 hs4 hx4 ht4 ⊢
   clear smt ht' hx' hs' sm htn
   have hT4:=sm4.tup hT
   have hG4:=sm4.seq hG
   walk_at "go"
   refine ⟨_,_,g,_,_,hs4,ts,hx4,nd,hzin,by omega,row,hT4,hG4,hok,fun H5 sb5 hs5=>?_⟩
   rename_i rest hrest
   subst hrest
   have hd4:=hs4.d
   have sm5:=but_same sm4 hd0 sb5
   have hx5:=hx4.butD sb5 hd4
   rw [← hstep]at hs5
   obtain ⟨⟨dx5,ho5⟩,hd5,hnd5⟩:=id hs5
   have hld:l≠d:=fun e=>by have:=ht4.L;rw [e,hd4]at this;cases this
   have hl5:=sb5 _ _ ht4.L hld
   walk_at "go"
   refine ⟨.inl ⟨rfl,_,SqL.of hl5⟩,dx5,_,ho5,by rfl,_,_,_,_,hs5,fun y hy=>?_⟩
   have hly:l≠y:=fun e=>by rw [e,hy]at hl5;cases hl5
   have smy:Same H5 (upd H5 y (.lst ((lyN (stL (rm ts) ys rs (i+1))).map V.str))):=Same.new hy
   have hq4:=ht4.N
   refine ⟨_,_,_,rfl,rfl,smy _ _ hl5,by rw [List.length_map];omega,?_⟩
   have key:=ht4.step sm4 hd4 sb5 sm5 hy
   rw [List.map_append]at key
   exact ⟨upd_but (sm5.trans smy) hl0,(hs5.same smy).butL (fun b o e nb=>by rw [upd_ne nb];exact e) (smy _ _ hl5),(hx5.same smy).butL (fun b o e nb=>by rw [upd_ne nb];exact e) (smy _ _ hl5),_,key⟩
 · clear hs3 hx3 htold sm3
   rintro σ H' ⟨v6,v7,qs,rfl,sm,hs',hx',ht'⟩
   subst hrest
   rw [List.length_map]at ht' hs'
   walk_at "go"
   refine ⟨_,.inl (sm.seq ha),_,.inl (hb.same sm).l,?_⟩
   rw [if_neg (by rw [hlen2];exact fun h=>h rfl)]
   rename_i rest hrest
   subst hrest
   walk_at "go"
   exact q l qs H' hl0 sm ht'
theorem Z8q{f:Addr}{fd:FuncData}(F:Fun K "__init__" "Rule.__init__" Z0w f fd)(T:Txt K mg xU0 xU1 xU2 Z3 Z1 Z2 Z4 Z7 Z8 Z6 Z5 Zc Z9 Z0 xmake_oldest xmake_first xmake_halving xmake_farthest xmake_hand xmake_rows xmake_dues xrow_of_rounds xrow_of_pairs Za Zb)(Zd:Def P w K mg base (CXF P w) 3 "check_places" ["places"] (sp13_check K Z4)):FnOk P w K mg base (CXF P w) 4 f fd ["self","stock","places"] (sp28_rinit K):=by
 have sc:FnScope ["self","stock","places"] ["self","stock","places"] (defScope Z0w):=by walk_at "sc"
 refine F.okF sc (fun vs H Q E h=>?_) (fun cdv A outer s H vs Q E hr h=>?_)
 · obtain ⟨_,_,_,_,_,rfl,_⟩:=h;rfl
 obtain ⟨X,q',dx,p,n,rfl,hq,hcl,hns,hnp,h1,h2,q⟩:=h
 replace Zd:=Zd.weaker fun _ _ _ _=>im_places
 refine ⟨_,(@pss_cons _ _ _ _ _ (ps_expr (pe_callD Zd hr rfl pass_onF (pa_cons (pv 2) pa_nil)))
  (@pss_cons _ _ _ _ _ (ps_fld (pv 0) (pv 1) rfl)
  (@pss_one _ _ _ (ps_fld (pv 0) (pv 2) rfl)))),?_⟩
 walk_at "st"
 walk_at "go"
 refine ⟨X,dx,[],hq,hcl,hns,by decide,?_⟩
 walk_at "go"
 refine ⟨X,dx,_,upd_same,hcl,hnp,by simp [putF],?_⟩
 walk_at "go"
 exact q _ (fun b o e nb=>by rw [upd_ne nb];exact e) upd_same
theorem Z7r{f:Addr}{fd:FuncData}(F:Fun K "__init__" "Ranked.__init__" Z0b f fd)(T:Txt K mg xU0 xU1 xU2 Z3 Z1 Z2 Z4 Z7 Z8 Z6 Z5 Zc Z9 Z0 xmake_oldest xmake_first xmake_halving xmake_farthest xmake_hand xmake_rows xmake_dues xrow_of_rounds xrow_of_pairs Za Zb)(Z4c:DefB P w K mg base (CXF P w) 4 "Rule" Zc ["self","stock","places"] (sp28_rinit K)):FnOk P w K mg base (CXF P w) 5 f fd ["self","stock","places"] (sp28_kinit K):=by
 have sc:FnScope ["self","stock","places"] ["self","stock","places"] (defScope Z0b):=by walk_at "sc"
 refine F.okF sc (fun vs H Q E h=>?_) (fun cdv A outer s H vs Q E hr h=>?_)
 · obtain ⟨_,_,_,_,_,rfl,_⟩:=h;rfl
 obtain ⟨X,q',dx,p,n,rfl,hq,hcl,⟨hns,hnp⟩,hpr,hla5,h1,h2,q⟩:=h
 refine ⟨_,(@pss_cons _ _ _ _ _ (ps_expr (pe_initC Z4c hr (passS pass_onF) (pe_glob (v:= .ref Zc) rfl T.Zcj rfl) (pa_cons (pv 0) (pa_cons (pv 1) (pa_cons (pv 2) pa_nil)))))
  (@pss_cons _ _ _ _ _ (ps_fld (pv 0) pe_int rfl)
  (@pss_one _ _ _ (ps_fld (pv 0) pe_dnewK rfl)))),?_⟩
 walk_at "st"
 have line:=line_val
 walk_at "go"
 refine ⟨X,dx,hq,hcl,hns,hnp,h1,h2,fun H1 sb1 hq1=>?_⟩
 rename_i rest hrest
 subst hrest
 walk_at "go"
 refine ⟨X,dx,_,hq1,hcl,hpr,by rw [show (rf0 p n).length=2 from rfl];decide,?_⟩
 have sb2:SameBut q' H1 (upd H1 q' (.ins X dx (putF "present" (V.int 0) (rf0 p n)))):=fun b o e nb=>by rw [upd_ne nb];exact e
 have hq2:upd H1 q' (.ins X dx (putF "present" (V.int 0) (rf0 p n))) q'=some (.ins X dx (putF "present" (V.int 0) (rf0 p n))):=upd_same
 generalize upd H1 q' (.ins X dx (putF "present" (V.int 0) (rf0 p n)))=H2 at sb2 hq2 ⊢
 rename_i rest hrest
 subst hrest
 walk_at "go"
 intro la hla
 have n1:la≠q':=fun e=>by rw [e,hq2]at hla;cases hla
 refine ⟨X,dx,_,by rw [upd_ne n1.symm];exact hq2,hcl,hla5,by rw [show (putF "present" (V.int 0) (rf0 p n)).length=3 from rfl];decide,?_⟩
 have sb12:=sb1.trans sb2
 have hla0:H la=none:=by
  cases e2:H la with
  | none=>rfl
  | some o=>rw [sb12 _ _ e2 n1]at hla;cases hla
 walk_at "go"
 exact q _ la (fun b o e nb=>by rw [upd_ne nb,upd_ne (fun e2=>by rw [e2,hla0]at e;cases e)];exact sb12 _ _ e nb) hla0 n1 upd_same (by rw [upd_ne n1,upd_same])
theorem Z89{f:Addr}{fd:FuncData}(F:Fun K "__init__" "First.__init__" Z3k f fd)(T:Txt K mg xU0 xU1 xU2 Z3 Z1 Z2 Z4 Z7 Z8 Z6 Z5 Zc Z9 Z0 xmake_oldest xmake_first xmake_halving xmake_farthest xmake_hand xmake_rows xmake_dues xrow_of_rounds xrow_of_pairs Za Zb)(Z34:DefB P w K mg base (CXF P w) 5 "Ranked" Z9 ["self","stock","places"] (sp28_kinit K)):FnOk P w K mg base (CXF P w) 6 f fd ["self","stock","places"] (sp22_init Z0):=by
 have sc:FnScope ["self","stock","places"] ["self","stock","places"] (defScope Z3k):=by walk_at "sc"
 refine F.okF sc (fun vs H Q E h=>?_) (fun cdv A outer s H vs Q E hr h=>?_)
 · obtain ⟨_,_,_,_,rfl,_⟩:=h;rfl
 obtain ⟨q',dx,p,n,rfl,hq,h1,h2,q⟩:=h
 refine ⟨_,(@pss_cons _ _ _ _ _ (ps_expr (pe_initC Z34 hr (passS pass_onF) (pe_glob (v:= .ref Z9) rfl T.Zc6 rfl) (pa_cons (pv 0) (pa_cons (pv 1) (pa_cons (pv 2) pa_nil)))))
  (@pss_one _ _ _ (ps_fld (pv 0) pe_dnewK rfl))),?_⟩
 walk_at "st"
 have line:=line_val
 walk_at "go"
 refine ⟨Z0,dx,hq,T.Zn,T.Z02,T.Zy,T.Zq,T.Z0f,h1,h2,fun H1 la sb1 hla n1 hq1' hl1=>?_⟩
 have hq1:H1 q'=some (.ins Z0 dx (putF "last" (V.ref la) (putF "present" (V.int 0) (rf0 p n)))):=hq1'
 clear hq1'
 rename_i rest hrest
 subst hrest
 walk_at "go"
 intro pa hpa
 have n2:pa≠q':=fun e=>by rw [e,hq1]at hpa;cases hpa
 have n3:la≠pa:=fun e=>by rw [← e,hl1]at hpa;cases hpa
 refine ⟨Z0,dx,_,by rw [upd_ne n2.symm];exact hq1,T.Zn,T.Zz,by rw [show (putF "last" (V.ref la) (putF "present" (V.int 0) (rf0 p n))).length=4 from rfl];decide,?_⟩
 have hpa0:H pa=none:=by
  cases e2:H pa with
  | none=>rfl
  | some o=>rw [sb1 _ _ e2 n2]at hpa;cases hpa
 walk_at "go"
 exact q _ la pa (fun b o e nb=>by rw [upd_ne nb,upd_ne (fun e2=>by rw [e2,hpa0]at e;cases e)];exact sb1 _ _ e nb) hla hpa0 ⟨la,pa,rfl,n3,⟨dx,upd_same⟩,by rw [upd_ne n1,upd_ne n3];exact hl1,by rw [upd_ne n2,upd_same]⟩
theorem Z5u{f:Addr}{fd:FuncData}(F:Fun K "number_ask" "Ranked.number_ask" Z16 f fd)(T:Txt K mg xU0 xU1 xU2 Z3 Z1 Z2 Z4 Z7 Z8 Z6 Z5 Zc Z9 Z0 xmake_oldest xmake_first xmake_halving xmake_farthest xmake_hand xmake_rows xmake_dues xrow_of_rounds xrow_of_pairs Za Zb):FnOk P w K mg base (CXF P w) 1 f fd ["self","name"] (sp22_number Z0):=by
 have sc:FnScope ["self","name"] ["self","name"] (defScope Z16):=by walk_at "sc"
 refine F.okF sc (fun vs H Q E h=>?_) (fun cdv A outer s H vs Q E hr h=>?_)
 · obtain ⟨_,_,_,_,_,_,rfl,_⟩:=h;rfl
 obtain ⟨q',p,n,M,s,z,rfl,hh,hl,q⟩:=h
 refine ⟨_,(@pss_cons _ _ _ _ _ (ps_fldaug (pv 0) pe_int in_add)
  (@pss_one _ _ _ (ps_dput (hu_of hr) (pe_fld (pv 0) rfl) (pv 1) (pe_fld (pv 0) rfl) rfl))),?_⟩
 walk_at "st"
 have line:=line_val
 obtain ⟨la,pa,hM,d,⟨dx,ho⟩,hla,hpa⟩:=hh
 have hM2:M=[q',la,pa]∧True:=⟨hM,trivial⟩
 clear hM
 have nq1:q'≠la:=fun e=>by rw [e,hla]at ho;cases ho
 have nq2:q'≠pa:=fun e=>by rw [e,hpa]at ho;cases ho
 walk_at "go"
 refine ⟨Z0,dx,_,ho,T.Zn,T.Zq,_,rf1_present,s.k,rfl,dx,_,ho,by rw [rf1_len];decide,?_⟩
 have ho1:upd H q' (.ins Z0 dx (rf1 p n (s.k+1) la pa)) q'=some (.ins Z0 dx (rf1 p n (s.k+1) la pa)):=upd_same
 have hla1:upd H q' (.ins Z0 dx (rf1 p n (s.k+1) la pa)) la=some (.dK s.la):=by rw [upd_ne nq1.symm];exact hla
 have hpa1:upd H q' (.ins Z0 dx (rf1 p n (s.k+1) la pa)) pa=some (.dK s.pu):=by rw [upd_ne nq2.symm];exact hpa
 have kp1:Kp M H (upd H q' (.ins Z0 dx (rf1 p n (s.k+1) la pa))):=(Kp.of (Same.refl H)).upd (by rw [hM2.1];simp)
 rename_i rest hrest
 show rest _ (upd H q' (.ins Z0 dx (rf1 p n (s.k+1) la pa)))
 generalize upd H q' (.ins Z0 dx (rf1 p n (s.k+1) la pa))=H1 at ho1 hla1 hpa1 kp1 ⊢
 have hlp:=length_putK s.la (Sum.inr z:Key) (V.int (s.k+1))
 subst hrest
 walk_at "go"
 exact ⟨Z0,dx,_,ho1,T.Zn,T.Zq,_,rf1_present,Z0,dx,_,ho1,T.Zn,T.Z0f,_,rf1_last,la,rfl,_,DPut.k (k:=Sum.inr z) hla1 (by omega),q _ (kp1.upd (by rw [hM2.1];simp)) ⟨la,pa,hM2.1,d,⟨dx,by rw [upd_ne nq1];exact ho1⟩,upd_same,by rw [upd_ne d.symm];exact hpa1⟩⟩
theorem Z7s{f:Addr}{fd:FuncData}(F:Fun K "asked" "Ranked.asked" Z30 f fd)(T:Txt K mg xU0 xU1 xU2 Z3 Z1 Z2 Z4 Z7 Z8 Z6 Z5 Zc Z9 Z0 xmake_oldest xmake_first xmake_halving xmake_farthest xmake_hand xmake_rows xmake_dues xrow_of_rounds xrow_of_pairs Za Zb)(Z17:DefM P w K mg base (CXF P w) 1 Z0 "number_ask" ["self","name"] (sp22_number Z0)):FnOk P w K mg base (CXF P w) 3 f fd ["self","name"] (spR_asked (T1 Z0)):=by
 have sc:FnScope ["self","name"] ["self","name"] (defScope Z30):=by walk_at "sc"
 refine F.okF sc (fun vs H Q E h=>?_) (fun cdv A outer s H vs Q E hr h=>?_)
 · obtain ⟨_,_,_,_,_,_,_,_,rfl,_⟩:=h;rfl
 obtain ⟨q',p,n,M,s,l,ns,z,rfl,hh,hi,hz,hns,q⟩:=h
 refine ⟨_,(@pss_one _ _ _ (ps_expr (pe_methS Z17 T.Zn hr (passS pass_onF) (pv 0) (pa_cons (pv 1) pa_nil)))),?_⟩
 walk_at "st"
 have line:=line_val
 have hh':FAt Z0 H M q' p n s:=hh
 obtain ⟨la,pa,hM,d,⟨dx,ho⟩,hla,hpa⟩:=id hh'
 have hlen:=hi.a.len
 walk_at "go"
 exact ⟨dx,_,ho,by rfl,p,n,M,s,hh',by omega,fun H1 kp1 h1=>q H1 kp1 h1⟩
theorem Z8a{f:Addr}{fd:FuncData}(F:Fun K "rank" "First.rank" Z0h f fd)(T:Txt K mg xU0 xU1 xU2 Z3 Z1 Z2 Z4 Z7 Z8 Z6 Z5 Zc Z9 Z0 xmake_oldest xmake_first xmake_halving xmake_farthest xmake_hand xmake_rows xmake_dues xrow_of_rounds xrow_of_pairs Za Zb):FnOk P w K mg base CX0 1 f fd ["self","name"] (sp22_rank Z0):=by
 have sc:FnScope ["self","name"] ["self","name"] (defScope Z0h):=by walk_at "sc"
 refine F.ok sc (fun vs H Q E h=>?_) (fun cdv A outer s H vs Q E hr h=>?_)
 · obtain ⟨_,_,_,_,_,_,_,rfl,_⟩:=h;rfl
 obtain ⟨q',p,n,M,s,z,i,rfl,hh,hv,q⟩:=h
 refine ⟨_,(@pss_one _ _ _ (@ps_ret _ _ _ _ (pe_tup (pa_cons (pe_dget2 (hu_of hr) (pe_fld (pv 0) rfl) (pv 1) pe_int ⟨rfl,rfl,rfl,rfl⟩) pa_nil)))),?_⟩
 walk_at "st"
 have line:=line_val
 obtain ⟨la,pa,hM,d,⟨dx,ho⟩,hla,hpa⟩:=hh
 clear hM
 walk_at "go"
 exact ⟨Z0,dx,_,ho,T.Zn,T.Zz,_,rf1_put,pa,rfl,.inl ⟨_,.inl hpa⟩,some (.int i),by rw [← hv];exact DGet.k (k:=Sum.inr z) hpa,by omega,fun t ht=>q t ht⟩
theorem Z7d{f:Addr}{fd:FuncData}(F:Fun K "choice" "Ranked.choice" Z2k f fd)(T:Txt K mg xU0 xU1 xU2 Z3 Z1 Z2 Z4 Z7 Z8 Z6 Z5 Zc Z9 Z0 xmake_oldest xmake_first xmake_halving xmake_farthest xmake_hand xmake_rows xmake_dues xrow_of_rounds xrow_of_pairs Za Zb)(Z3q:DefV P w K mg base 1 Z0 "rank" ["self","name"] (sp22_rank Z0)):FnOk P w K mg base (CXF P w) 4 f fd ["self","lying"] (spR_choice (T1 Z0) K):=by
 have sc:FnScope ["self","lying"] ["self","lying"] (defScope Z2k):=by walk_at "sc"
 refine F.okF sc (fun vs H Q E h=>?_) (fun cdv A outer s H vs Q E hr h=>?_)
 · obtain ⟨_,_,_,_,_,_,_,_,_,rfl,_⟩:=h;rfl
 obtain ⟨q',p,a,n,M,s,l,ns,z,rfl,hh,hm,hl,ha,ham,hns,hll,hcn,q⟩:=h
 refine ⟨_,(@pss_one _ _ _ (@ps_ret _ _ _ _ (pe_minK Z3q T.Zn hr rfl T.Z74 (by first | rfl | decide+kernel) (pa_cons (pv 1) pa_nil) (pv 0) rfl))),?_⟩
 walk_at "st"
 have line:=line_val
 have hh':FAt Z0 H M q' p n s:=hh
 obtain ⟨la,pa,hM,d,⟨dx,ho⟩,hla,hpa⟩:=id hh'
 clear hM
 have hm':FI ns s l (s.k - 1):=hm
 have q2:∀H',Kp M H H'→FAt Z0 H' M q' p n s→Q (.str (l.headD Str.empty)) H':=q
 clear q hm
 walk_at "go"
 refine ⟨dx,_,ho,by rfl,l.map V.str,SqL.of ha,by simpa using hl,fun i=>[N22.pv s (l.getD i Str.empty)],fun i v hv H1 sm1=>?_,fun v H1 sm1 hv=>?_⟩
 · rw [List.getElem?_map]at hv
   cases hz:l[i]? with
   | none=>rw [hz]at hv;cases hv
   | some u=>
   rw [hz]at hv
   cases hv
   obtain ⟨j,hj,_⟩:=hm'.v u (List.mem_of_getElem? hz)
   refine ⟨p,n,M,s,u,rfl,(T1 Z0).dep (fun m _ o=>sm1 m o) hh',j,hj,fun t ht=>⟨Same.new ht,?_⟩⟩
   rw [upd_same]
   show _=some (HO.tup [V.int (N22.pv s (l.getD i Str.empty))])
   rw [List.getD_eq_getElem?_getD,hz]
   show _=some (HO.tup [V.int (N22.pv s u)])
   rw [pv_at hj]
 · have hb:argBest (btK fun i=>[N22.pv s (l.getD i Str.empty)]) ((l.map V.str).length - 1)=0:=by
    rw [List.length_map]
    refine best_head (v:=fun i=>N22.pv s (l.getD i Str.empty)) (fun i _=>rfl) (fun i hi=>?_)
    have hl0:0 < l.length:=List.length_pos_iff.mpr hl
    by_cases e:i=0
    · rw [e];exact Int.le_refl _
    · have:=(List.pairwise_iff_getElem.mp hm'.o) 0 i hl0 (by omega) (by omega)
      rw [List.getD_eq_getElem?_getD,List.getD_eq_getElem?_getD,List.getElem?_eq_getElem hl0,List.getElem?_eq_getElem (show i < l.length by omega)]
      exact Int.le_of_lt this
   rw [hb]at hv
   cases l with
   | nil=>exact absurd rfl hl
   | cons x r=>
    cases hv
    exact q2 _ (Kp.of sm1) ((T1 Z0).dep (fun m _ o=>sm1 m o) hh')
theorem Z8b{f:Addr}{fd:FuncData}(F:Fun K "gone" "Rule.gone" Z3l f fd)(T:Txt K mg xU0 xU1 xU2 Z3 Z1 Z2 Z4 Z7 Z8 Z6 Z5 Zc Z9 Z0 xmake_oldest xmake_first xmake_halving xmake_farthest xmake_hand xmake_rows xmake_dues xrow_of_rounds xrow_of_pairs Za Zb):FnOk P w K mg base (CXF P w) 3 f fd ["self","name"] (spR_gone (T1 Z0)):=by
 have sc:FnScope ["self","name"] ["self","name"] (defScope Z3l):=by walk_at "sc"
 refine F.okF sc (fun vs H Q E h=>?_) (fun cdv A outer s H vs Q E hr h=>?_)
 · obtain ⟨_,_,_,_,_,_,_,_,rfl,_⟩:=h;rfl
 obtain ⟨q',p,n,M,s,l,ns,z,rfl,hh,hm,hl,hns,q⟩:=h
 refine ⟨_,(@pss_one _ _ _ ps_pass),?_⟩
 walk_at "st"
 walk_at "go"
 exact q _ (Kp.of (Same.refl _)) hh
theorem Z8c{f:Addr}{fd:FuncData}(F:Fun K "came" "First.came" Z3m f fd)(T:Txt K mg xU0 xU1 xU2 Z3 Z1 Z2 Z4 Z7 Z8 Z6 Z5 Zc Z9 Z0 xmake_oldest xmake_first xmake_halving xmake_farthest xmake_hand xmake_rows xmake_dues xrow_of_rounds xrow_of_pairs Za Zb):FnOk P w K mg base (CXF P w) 1 f fd ["self","name"] (spR_came (T1 Z0)):=by
 have sc:FnScope ["self","name"] ["self","name"] (defScope Z3m):=by walk_at "sc"
 refine F.okF sc (fun vs H Q E h=>?_) (fun cdv A outer s H vs Q E hr h=>?_)
 · obtain ⟨_,_,_,_,_,_,_,_,rfl,_⟩:=h;rfl
 obtain ⟨q',p,n,M,s,l,ns,z,rfl,hh,hm,hz,hzl,hns,q⟩:=h
 refine ⟨_,(@pss_one _ _ _ (ps_dput (hu_of hr) (pe_fld (pv 0) rfl) (pv 1) (pe_fld (pv 0) rfl) rfl)),?_⟩
 walk_at "st"
 have line:=line_val
 have hh':FAt Z0 H M q' p n s:=hh
 obtain ⟨la,pa,hM,d,⟨dx,ho⟩,hla,hpa⟩:=id hh'
 have hM2:M=[q',la,pa]∧True:=⟨hM,trivial⟩
 clear hM
 have hlen:=hm.b.len
 have nq2:q'≠pa:=fun e=>by rw [e,hpa]at ho;cases ho
 have q2:∀H',Kp M H H'→FAt Z0 H' M q' p n (f1came s z)→Q .non H':=q
 clear q
 have hlp:=length_putK s.pu (Sum.inr z:Key) (V.int s.k)
 walk_at "go"
 refine ⟨Z0,dx,_,ho,T.Zn,T.Zq,_,rf1_present,Z0,dx,_,ho,T.Zn,T.Zz,_,rf1_put,pa,rfl,_,DPut.k (k:=Sum.inr z) hpa (by omega),q2 _ ((Kp.of (Same.refl H)).upd (by rw [hM2.1];simp)) ⟨la,pa,hM2.1,d,⟨dx,by rw [upd_ne nq2];exact ho⟩,by rw [upd_ne d];exact hla,upd_same⟩⟩
theorem Z8r{f:Addr}{fd:FuncData}(F:Fun K "make_room" "make_room" Z44 f fd)(T:Txt K mg xU0 xU1 xU2 Z3 Z1 Z2 Z4 Z7 Z8 Z6 Z5 Zc Z9 Z0 xmake_oldest xmake_first xmake_halving xmake_farthest xmake_hand xmake_rows xmake_dues xrow_of_rounds xrow_of_pairs Za Zb)(Zk:DefM P w K mg base (CXF P w) 1 Z5 "room_left" ["self"] (sp_left Z5))(Z0c:DefM P w K mg base (CXF P w) 1 Z5 "lying" ["self"] (sp_lying Z5))(Z2p:DefM P w K mg base (CXF P w) 4 Z0 "choice" ["self","lying"] (spR_choice (T1 Z0) K))(Z0i:DefM P w K mg base (CXF P w) 2 Z5 "cast" ["self","name"] (sp_castG Z5))(Z3r:DefM P w K mg base (CXF P w) 3 Z0 "gone" ["self","name"] (spR_gone (T1 Z0))):FnOk P w K mg base (CXF P w) 5 f fd ["rule","shelf","room"] (spR_room (T1 Z0) K Z6 Z5):=by
 have sc:FnScope ["rule","shelf","room","went","name"] ["rule","shelf","room"] (defScope Z44):=by walk_at "sc"
 refine F.okF sc (fun vs H Q E h=>?_) (fun cdv A outer s H vs Q E hr h=>?_)
 · obtain ⟨_,_,_,_,_,_,_,_,_,_,_,_,rfl,_⟩:=h;rfl
 obtain ⟨H0,q',p,sh,d,M,n,need,ts,ls,s,z,rfl,hr',hm,hn,hll,htl,hcn,q⟩:=h
 refine ⟨_,(@pss_cons _ _ _ _ _ (ps_set (i:=3) sc.nd rfl (Or.inl rfl) (@pe_lst _ _ _ _ pa_nil))
  (@pss_cons _ _ _ _ _ (ps_while own_outF (pt_cmpR op_lt (pe_methS0 Zk T.Zf hr (passS pass_onF) (pv 1)) (pv 2) (nomark _))
   (@pss_cons _ _ _ _ _ (ps_set (i:=4) sc.nd rfl (Or.inl rfl) (pe_methS Z2p T.Zn hr (passS pass_onF) (pv 0) (pa_cons (pe_methS0 Z0c T.Zf hr (passS pass_onF) (pv 1)) pa_nil)))
   (@pss_cons _ _ _ _ _ (ps_expr (pe_methS Z0i T.Zf hr (passS pass_onF) (pv 1) (pa_cons (pv 4) pa_nil)))
   (@pss_cons _ _ _ _ _ (ps_expr (pe_methS Z3r T.Zn hr (passS pass_onF) (pv 0) (pa_cons (pv 4) pa_nil)))
   (@pss_one _ _ _ (ps_expr (pe_bm PySem.F.plainAttrs_list PySem.F.slot_list_append PySem.F.type_list_append mt_append (pv 3) (pa_cons (pv 4) pa_nil))))))))
  (@pss_one _ _ _ (@ps_ret _ _ _ _ (pv 3))))),?_⟩
 walk_at "st"
 have line:=line_val
 walk_at "go"
 intro w hw
 have kp0:Kp (d::M) H (upd H w (.lst [])):=Kp.of (Same.new hw)
 have hr0:=hr'.same (Same.new (o:= .lst []) hw)
 have hww:upd H w (.lst []) w=some (.lst []):=upd_same
 have nw:=hr'.free hw
 have nw0:H0 w=none:=same_none hr'.sm hw
 have nwm:w∉M:=fun h=>nw (List.mem_cons_of_mem _ h)
 have nwd:w≠d:=fun h=>nw (by rw [h];simp)
 generalize upd H w (.lst [])=H1 at kp0 hr0 hww ⊢
 rename_i rest hrest
 subst hrest
 walk_at "go"
 rename_i rest hrest
 refine while_d (m0:=ls.length) (fun m σ H5=>∃(ls':Ly) (s':((T1 Z0)).St) (wl:List Str) (v4:Option V),σ=[some (V.ref q'),some (V.ref sh),some (V.int need),some (V.ref w),v4]∧Kp (d::M) H H5∧H5 w=some (.lst (wl.map V.str))∧RunG (T1 Z0) K Z6 Z5 H0 H5 q' p sh d M n ts ls' s'∧((T1 Z0)).mid (ts.map (·.1)) n z s' (lyN ls')∧gf (T1 Z0) (rm ts) n need s (lyN ls) []=gf (T1 Z0) (rm ts) n need s' (lyN ls') wl∧wl.length+ls'.length≤60∧((T1 Z0)).cnt s'≤300∧m=ls'.length) ⟨ls,s,[],none,rfl,kp0,hww,hr0,hm,rfl,by simpa using hll,hcn,rfl⟩ ?_
 clear hr' hr0 hww kp0 hm
 rintro m' σ H5 ⟨ls',s',wl,v4,rfl,kp5,hw5,hr5,hm5,hf5,hl5,hcn5,rfl⟩
 have hleft:=hr5.left
 obtain ⟨⟨dx,ho⟩,hd,hnd⟩:=id hr5.shf
 walk_at "go"
 refine ⟨dx,_,ho,by rfl,_,_,_,_,hr5.shf,fun H6 sm6=>?_⟩
 have hr6:=hr5.same sm6
 have hw6:=sm6 _ _ hw5
 have kp6:=kp5.trans (Kp.of sm6)
 by_cases hlt:need≤n - N41.sm (rm ts) (lyN ls')
 · rw [if_neg (by rw [hleft];omega)]
   have e1:gf (T1 Z0) (rm ts) n need s (lyN ls) []=(s',lyN ls',wl)∧True:=⟨hf5.trans (gf_end hlt),trivial⟩
   clear hf5
   subst hrest
   walk_at "go"
   exact q w ls' H6 kp6 hw (by rw [e1.1];exact hw6) (by rw [e1.1]) (by rw [e1.1];exact hr6)
 · rw [if_pos (by rw [hleft];omega)]
   clear hrest
   refine ⟨_,fun σ' H7 h=>h,?_⟩
   have hLne:lyN ls'≠[]:=fun e=>hlt (by rw [e,N41.sm_nil];omega)
   obtain ⟨⟨dx6,ho6⟩,hd6,hnd6⟩:=id hr6.shf
   obtain ⟨dq,fs,hoq,o1,o2,o3,hec,o4⟩:=RuleT.obj _ hr6.h
   clear hleft ho hd hnd hr5 hw5 kp5 sm6
   walk_at "go"
   refine ⟨dq,_,hoq,hec,dx6,_,ho6,by rfl,_,_,_,_,hr6.shf,fun l hl=>?_⟩
   have sml:Same H6 (upd H6 l (.lst ((lyN ls').map V.str))):=Same.new hl
   have hl7:upd H6 l (.lst ((lyN ls').map V.str)) l=some (.lst ((lyN ls').map V.str)):=upd_same
   have nl:=hr6.free hl
   have hr7:=hr6.same sml
   have hw7:=sml _ _ hw6
   have kp7:=kp6.trans (Kp.of sml)
   generalize upd H6 l (.lst ((lyN ls').map V.str))=H7 at hr7 hw7 kp7 hl7 ⊢
   clear hr6 hw6 kp6 hoq ho6 hd6 hnd6 sml hl hec
   obtain ⟨hf,hm8⟩:=RuleT.i_pick _ hm5 hLne
   have hcn6:=Nat.le_trans (Nat.le_trans (RuleT.c_gone (T1 Z0) n (RuleT.pick _ n s' (lyN ls')).1 (RuleT.pick _ n s' (lyN ls')).2) (RuleT.c_pick (T1 Z0) n s' (lyN ls'))) hcn5
   have hlen:(lyN ls').length≤60:=by unfold lyN;rw [List.length_map];omega
   refine ⟨p,n,M,s',hr7.h,lyN ls',ts.map (·.1),z,hm5,hLne,hl7,fun h=>nl (List.mem_cons_of_mem _ h),by rw [List.length_map];exact htl,hlen,hcn5,fun H8 kp8 hh8=>?_⟩
   have hr8:=hr7.rule kp8 hh8
   have hw8:=kp8 _ _ nwm hw7
   have kp08:=kp7.trans (kp_cons (d:=d) kp8)
   have hfin':gf (T1 Z0) (rm ts) n need s (lyN ls) []=gf (T1 Z0) (rm ts) n need (RuleT.gone _ n (RuleT.pick _ n s' (lyN ls')).1 (RuleT.pick _ n s' (lyN ls')).2) ((lyN ls').erase (RuleT.pick _ n s' (lyN ls')).2) (wl++[(RuleT.pick _ n s' (lyN ls')).2])∧True:=⟨hf5.trans (gf_go hlt hf),trivial⟩
   clear hf5 hr7 hw7 kp7 kp8 hh8 hl7
   obtain ⟨⟨dx8,ho8⟩,hd8,hnd8⟩:=id hr8.shf
   rename_i rest2 hrest2
   subst hrest2
   walk_at "go"
   refine ⟨dx8,_,ho8,by rfl,_,_,_,_,hr8.shf,hf,fun H9 sb9 hs9=>?_⟩
   have hr9:=hr8.shelf sb9 hs9 hr8.ok.drop
   have hw9:=sb9 _ _ hw8 nwd
   obtain ⟨dq9,fs9,hoq9,o5,o6,o7,o8,heg,o9⟩:=RuleT.obj _ hr9.h
   have hnames:=lyD_names (z:=(RuleT.pick _ n s' (lyN ls')).2) hr8.ok.nd
   rename_i rest2 hrest2
   subst hrest2
   walk_at "go"
   refine ⟨dq9,_,hoq9,heg,p,n,M,s',lyN ls',rfl,hr9.h,ts.map (·.1),z,hm5,hLne,by rw [List.length_map];exact htl,fun H10 kp10 hh10=>?_⟩
   have hr10:=hr9.rule kp10 hh10
   have hw10:=kp10 _ _ nwm hw9
   have kp010:Kp (d::M) H H10:=(kp08.trans (kp_of_but sb9 (by simp))).trans (kp_cons kp10)
   clear hr8 hs9 hh10 sb9 kp10 hw8 hw9 kp08 hd8 hnd8 ho8 hoq9 hr9 heg
   have hel:=List.length_erase_of_mem hf
   have hlp:0 < (lyN ls').length:=List.length_pos_of_mem hf
   have hll5:(lyN ls').length=ls'.length∧True:=⟨by unfold lyN;rw [List.length_map],trivial⟩
   have hll6:(lyD ls' (RuleT.pick _ n s' (lyN ls')).2).length+1≤ls'.length:=by
    have e:(lyN (lyD ls' (RuleT.pick _ n s' (lyN ls')).2)).length=(lyD ls' (RuleT.pick _ n s' (lyN ls')).2).length:=by unfold lyN;rw [List.length_map]
    rw [hnames]at e
    omega
   rw [← hnames]at hm8 hfin'
   rename_i rest2 hrest2
   subst hrest2
   walk_at "go"
   generalize hfe:(RuleT.pick _ n s' (lyN ls')).2=f at hf hm8 hfin' hnames hel hr10 hll6 hcn6 ⊢
   have hwl:(wl++[f]).length=wl.length+1:=by rw [List.length_append];rfl
   refine ⟨.inl ⟨rfl,_,SqL.of hw10⟩,w,_,_,rfl,rfl,hw10,by rw [List.length_map];omega,(lyD ls' f).length,by omega,kp_new kp010 hw,lyD ls' f,_,wl++[f],by rw [upd_same,List.map_append];rfl,hr10.lst (fun b o e nb=>by rw [upd_ne nb];exact e) hw10 nwm nw0,hm8,hfin'.1,by omega,hcn6,rfl⟩
theorem Zbl{f:Addr}{fd:FuncData}(F:Fun K "row_of" "row_of" Z6p f fd)(T:Txt K mg xU0 xU1 xU2 Z3 Z1 Z2 Z4 Z7 Z8 Z6 Z5 Zc Z9 Z0 xmake_oldest xmake_first xmake_halving xmake_farthest xmake_hand xmake_rows xmake_dues xrow_of_rounds xrow_of_pairs Za Zb)(Z35:DefM P w K mg base (CXF P w) 3 Z0 "asked" ["self","name"] (spR_asked (T1 Z0)))(Zg:DefM P w K mg base (CXF P w) 1 Z5 "holds" ["self","name"] (sp_holds Z5))(Zj:DefM P w K mg base (CXF P w) 2 Z6 "room_of" ["self","name"] (sp32_room K Z6))(Z4d:Def P w K mg base (CXF P w) 5 "make_room" ["rule","shelf","room"] (spR_room (T1 Z0) K Z6 Z5))(Z0x:DefM P w K mg base (CXF P w) 4 Z5 "put" ["self","name"] (sp_putG K Z6 Z5))(Z3s:DefM P w K mg base (CXF P w) 1 Z0 "came" ["self","name"] (spR_came (T1 Z0))):FnOk P w K mg base (CXF P w) 6 f fd ["rule","shelf","name"] (spR_row (T1 Z0) K Z6 Z5):=by
 have sc:FnScope ["rule","shelf","name","went"] ["rule","shelf","name"] (defScope Z6p):=by walk_at "sc"
 refine F.okF sc (fun vs H Q E h=>?_) (fun cdv A outer s H vs Q E hr h=>?_)
 · obtain ⟨_,_,_,_,_,_,_,_,_,_,_,rfl,_⟩:=h;rfl
 obtain ⟨H0,q',p,sh,d,M,n,ts,ls,s,z,rfl,hr',hi,nd,htl,hz,hzn,hcn,q⟩:=h
 refine ⟨_,(@pss_cons _ _ _ _ _ (ps_expr (pe_methS Z35 T.Zn hr (passS pass_onF) (pv 0) (pa_cons (pv 2) pa_nil)))
  (@pss_cons _ _ _ _ _ (ps_if (pt_val (pe_methS Zg T.Zf hr (passS pass_onF) (pv 1) (pa_cons (pv 2) pa_nil)))
   (@pss_one _ _ _ (@ps_ret _ _ _ _ (pe_tup (pa_cons (pv 2) (pa_cons pe_bl (pa_cons (@pe_lst _ _ _ _ pa_nil) pa_nil))))))
   pss_nil)
  (@pss_cons _ _ _ _ _ (ps_set (i:=3) sc.nd rfl (Or.inl rfl) (pe_callD Z4d hr rfl pass_onF (pa_cons (pv 0) (pa_cons (pv 1) (pa_cons (pe_methS Zj T.Zx hr (passS pass_onF) (pe_fld (pv 1) rfl) (pa_cons (pv 2) pa_nil)) pa_nil)))))
  (@pss_cons _ _ _ _ _ (ps_expr (pe_methS Z0x T.Zf hr (passS pass_onF) (pv 1) (pa_cons (pv 2) pa_nil)))
  (@pss_cons _ _ _ _ _ (ps_expr (pe_methS Z3s T.Zn hr (passS pass_onF) (pv 0) (pa_cons (pv 2) pa_nil)))
  (@pss_one _ _ _ (@ps_ret _ _ _ _ (pe_tup (pa_cons (pv 2) (pa_cons pe_bl (pa_cons (pv 3) pa_nil))))))))))),?_⟩
 walk_at "st"
 have line:=line_val
 obtain ⟨dq,fs,hoq,o1,o2,hea,o3⟩:=RuleT.obj _ hr'.h
 walk_at "go"
 refine ⟨dq,_,hoq,hea,p,n,M,s,hr'.h,lyN ls,ts.map (·.1),hi,hz,by rw [List.length_map];exact htl,fun H1 kp1 hh1=>?_⟩
 have hr1:=hr'.rule kp1 hh1
 obtain ⟨⟨dx,ho⟩,hd,hnd⟩:=id hr1.shf
 have fresh:∀b,H1 b=none→H b=none:=fun b e=>kp_none kp1 (fun hm=>hr1.free e (List.mem_cons_of_mem _ hm)) e
 have hlsl:(lyN ls).length≤60:=by
  have:=N25.nd_len hr1.ok.nd hr1.ok.s
  rw [List.length_map]at this
  omega
 clear hoq hea
 rename_i rest hrest
 subst hrest
 walk_at "go"
 refine ⟨dx,_,ho,by rfl,_,_,_,_,hr1.shf,?_⟩
 by_cases hzL:z∈lyN ls
 · have e:gask (T1 Z0) (rm ts) n (s,lyN ls) z=((RuleT.asked _ n s z,lyN ls),(z,true,[])):=by unfold gask;rw [if_pos hzL]
   rw [if_pos hzL]
   rw [e]at q
   refine ⟨by omega,fun g hg=>⟨by omega,fun t ht=>?_⟩⟩
   have s1:Same H1 (upd H1 g (.lst [])):=Same.new hg
   have k1:upd H1 g (.lst []) g=some (.lst (([]:List Str).map V.str)):=upd_same
   generalize upd H1 g (.lst [])=H2 at s1 k1 ht ⊢
   have s2:Same H2 (upd H2 t (.tup [V.str z,V.bl true,V.ref g])):=Same.new ht
   exact q t g ls _ (kp_cons (kp1.trans (Kp.of (s1.trans s2)))) (fresh t (same_none s1 ht)) (fresh g hg) upd_same (s2 _ _ k1) rfl (hr1.same (s1.trans s2))
 rw [if_neg hzL]
 have eh:gask (T1 Z0) (rm ts) n (s,lyN ls) z=((RuleT.came _ n (gf (T1 Z0) (rm ts) n (rm ts z) (RuleT.asked _ n s z) (lyN ls) []).1 z,(gf (T1 Z0) (rm ts) n (rm ts z) (RuleT.asked _ n s z) (lyN ls) []).2.1++[z]),(z,false,(gf (T1 Z0) (rm ts) n (rm ts z) (RuleT.asked _ n s z) (lyN ls) []).2.2)):=by unfold gask;rw [if_neg hzL]
 rw [eh]at q
 clear eh
 have hm1:=RuleT.i_mid _ hi hz hzL
 obtain ⟨hI,hne,hsub,hnd2,hwl⟩:=gf_pos (R:=rm ts) (n:=n) (need:=rm ts z) _ _ _ [] rfl hm1 hzn
 obtain ⟨dy,e,kvs,h1,h2,h3,h4,h5⟩:=StockAt.has hr1.x.at
 rename_i rest hrest
 subst hrest
 walk_at "go"
 refine ⟨Z5,dx,_,ho,T.Zf,T.Zv,_,sfl_stock,_,rfl,dy,flds e,h1,by rfl,_,rfl,ts,hr1.x.at,nd,hz,H0,p,d,M,n,ts,ls,_,hr1,z,hm1,hzn,by unfold lyN at hlsl;rw [List.length_map]at hlsl;exact hlsl,htl,Nat.le_trans (RuleT.c_ask (T1 Z0) n s z) (by omega),fun g ls2 H2 kp2 hg hg2 hln2 hr2=>?_⟩
 obtain ⟨⟨dx2,ho2⟩,hd2,hnd2'⟩:=id hr2.shf
 have kp02:Kp (d::M) H H2:=(kp_cons kp1).trans kp2
 have ngo:=hr1.free hg
 have ngd:g≠d:=fun h=>ngo (by rw [h];simp)
 have ngm:g∉M:=fun h=>ngo (List.mem_cons_of_mem _ h)
 have hnl:z∉lyN ls2:=fun h=>hzL (hsub z (by rw [← hln2];exact h))
 have hlen2:ls2.length≤60:=by
  have e1:(lyN ls2).length=ls2.length:=by unfold lyN;rw [List.length_map]
  rw [hln2]at e1
  omega
 have hleft2:=hr2.left
 rw [hln2]at hleft2
 generalize gf (T1 Z0) (rm ts) n (rm ts z) (RuleT.asked _ n s z) (lyN ls) []=F at hr2 hg2 q hne hI hleft2 hln2
 obtain ⟨s2,l2,w2⟩:=F
 simp only at hr2 hg2 q hne hI hleft2 hln2
 clear hr1 hh1 kp1 h1 h2 h3 h4 h5 ho hd hnd hsub hnd2 hwl
 rename_i rest hrest
 subst hrest
 walk_at "go"
 refine ⟨dx2,_,ho2,by rfl,_,_,_,_,hr2.shf,ts,hr2.x,nd,by omega,hz,rm ts z,fun t ht e=>?_,hnl,by omega,fun H3 sb3 hs3=>?_⟩
 · obtain ⟨i,hi'⟩:=List.getElem?_of_mem ht
   rw [← e,rm_at nd hi']
 have hr3:=hr2.shelf sb3 hs3 (hr2.ok.put hnl hz)
 obtain ⟨dq3,fs3,hoq3,o4,o5,o6,o7,o8,hec,o9⟩:=RuleT.obj _ hr3.h
 have hg3:=sb3 _ _ hg2 ngd
 have hl3:lyN (ls2++[(z,rm ts z)])=l2++[z]∧True:=⟨by unfold lyN at hln2 ⊢;rw [List.map_append,hln2];rfl,trivial⟩
 rw [hln2]at hnl
 rename_i rest hrest
 subst hrest
 walk_at "go"
 refine ⟨dq3,_,hoq3,hec,p,n,M,s2,hr3.h,l2,ts.map (·.1),hI,hz,hnl,by rw [List.length_map];exact htl,fun H4 kp4 hh4=>?_⟩
 have hr4:=hr3.rule kp4 hh4
 have hg4:=kp4 _ _ ngm hg3
 have kp04:Kp (d::M) H H4:=(kp02.trans (kp_of_but sb3 (by simp))).trans (kp_cons kp4)
 rename_i rest hrest
 subst hrest
 walk_at "go"
 intro t ht
 exact q t g _ _ (kp04.trans (Kp.of (Same.new ht))) (kp_none kp04 (hr4.free ht) ht) (fresh g hg) upd_same (Same.new ht _ _ hg4) hl3.1 (hr4.same (Same.new ht))
theorem Z9s{f:Addr}{fd:FuncData}(F:Fun K "book_of" "book_of" Z5x f fd)(T:Txt K mg xU0 xU1 xU2 Z3 Z1 Z2 Z4 Z7 Z8 Z6 Z5 Zc Z9 Z0 xmake_oldest xmake_first xmake_halving xmake_farthest xmake_hand xmake_rows xmake_dues xrow_of_rounds xrow_of_pairs Za Zb)(Zm:Def P w K mg base (CXF P w) 5 "check_asks" ["stock","asks","places"] (sp13_asks K Z6 Z4 Z7 Z1 Z2))(Z0j:DefI P w K mg base (CXF P w) 4 "Shelf" Z5 ["self","stock","places"] (sp_sinit Z5))(Z6u:Def P w K mg base (CXF P w) 6 "row_of" ["rule","shelf","name"] (spR_row (T1 Z0) K Z6 Z5)):FnOk P w K mg base (CXF P w) 7 f fd ["rule","asks"] (spR_bookN (T1 Z0) K Z6 Z5):=by
 have sc:FnScope ["rule","asks","shelf"] ["rule","asks"] (defScope Z5x):=by walk_at "sc"
 refine F.okF sc (fun vs H Q E h=>?_) (fun cdv A outer s H vs Q E hr h=>?_)
 · obtain ⟨_,_,_,_,_,_,_,_,_,rfl,_⟩:=h;rfl
 obtain ⟨H0,q',p,a,M,n,ts,ys,s0,rfl,hh,hi0,hsto,sm0,hm0,nd,htl,ha,ham,hlen,hin,hrm,hn1,hn2,hcn,q⟩:=h
 replace Zm:=Zm.weaker fun _ _ _ _=>im_asks
 refine ⟨_,(@pss_cons _ _ _ _ _ (ps_expr (pe_callD Zm hr rfl pass_onF (pa_cons (pe_fld (pv 0) rfl) (pa_cons (pv 1) (pa_cons (pe_fld (pv 0) rfl) pa_nil)))))
  (@pss_cons _ _ _ _ _ (ps_set (i:=2) sc.nd rfl (Or.inr rfl) (pe_makeS Z0j hr rfl (passS pass_onF) (pa_cons (pe_fld (pv 0) rfl) (pa_cons (pe_fld (pv 0) rfl) pa_nil))))
  (@pss_one _ _ _ (@ps_ret _ _ _ _ (pe_comp1 "name" [0,2] rfl rfl (pi_list (pv 1)) (fun b=>(pe_callD Z6u hr rfl pass_noF (pa_cons (pv 1) (pa_cons (pv 2) (pa_cons (pv 0) pa_nil)))))))))),?_⟩
 walk_at "st"
 have line:=line_val
 obtain ⟨dq,fs,hoq,hst_,hpl_,o1⟩:=RuleT.obj _ hh
 walk_at "go"
 refine ⟨Z0,dq,_,hoq,T.Zn,T.Z02,_,hst_,Z0,dq,_,hoq,T.Zn,T.Zy,_,hpl_,p,rfl,n,rfl,ts,hsto.same sm0,nd,ys,ha,hlen,hin,hrm,hn1,hn2,fun H1 sm1=>?_⟩
 have hh1:=at_same sm1 hh
 have ha1:=sm1.seq ha
 obtain ⟨dq1,fs1,hoq1,hst1,hpl1,o2⟩:=RuleT.obj _ hh1
 clear hoq hst_ hpl_
 rename_i rest hrest
 subst hrest
 walk_at "go"
 refine ⟨Z0,dq1,_,hoq1,T.Zn,T.Z02,_,hst1,Z0,dq1,_,hoq1,T.Zn,T.Zy,_,hpl1,fun sh dx hsh hdx hne=>⟨dx,p,rfl,n,rfl,upd_same,hn1,hn2,fun H2 d sb hdn hs2=>?_⟩⟩
 have sm2:=new_same hsh hdx sb
 have hd0:=new_none hdn
 have hd1:H0 d=none:=same_none (sm0.trans sm1) hd0
 have nsh:sh∉M:=fun h=>RuleT.live _ hh1 _ h hsh
 have ndm:d∉M:=fun h=>RuleT.live _ hh1 _ h hd0
 have hr2:RunG (T1 Z0) K Z6 Z5 H0 H2 q' p sh d M n ts [] s0:=⟨at_same sm2 hh1,hs2,hsto,(sm0.trans sm1).trans sm2,hm0,hd1,nsh,ndm,OkL.nil⟩
 have ha2:=sm2.seq ha1
 clear hdn sb hdx hsh hne hh1 hoq1 hs2 hst1 hpl1
 rename_i rest hrest
 subst hrest
 walk_at "go"
 refine ⟨⟨_,ha2⟩,?_⟩
 have kpM:∀{H':Hp},Kp (d::M) H2 H'→Kp M H1 H':=fun {H'} k b o nb e=>k b o (fun hm=>by
  rcases List.mem_cons.mp hm with e1 | e1
  · rw [e1,hd0]at e;cases e
  · exact nb e1) (sm2 _ _ e)
 refine comp_by ys.length fun b D hD=>⟨fun i zs H'=>∃(as gs:List Addr) (ls':Ly),zs=as.map V.ref∧as.length=i∧gs.length=i∧i≤ys.length∧H' D=some (.lst zs)∧Kp (d::M) H2 H'∧lyN ls'=(gst (T1 Z0) (rm ts) n s0 ys i).2∧RunG (T1 Z0) K Z6 Z5 H0 H' q' p sh d M n ts ls' (gst (T1 Z0) (rm ts) n s0 ys i).1∧gs.Nodup∧∀(j:Nat) a g,as[j]?=some a→gs[j]?=some g→a∉d::M∧g∉d::M∧a≠D∧g≠D∧H' a=some (.tup [.str (NR.grow (T1 Z0) (rm ts) n s0 ys j).1,.bl (NR.grow (T1 Z0) (rm ts) n s0 ys j).2.1,.ref g])∧H' g=some (.lst ((NR.grow (T1 Z0) (rm ts) n s0 ys j).2.2.map V.str))∧H1 a=none∧H1 g=none,⟨[],[],[],rfl,rfl,rfl,Nat.zero_le _,upd_same,Kp.of (Same.new hD),rfl,hr2.same (Same.new hD),List.nodup_nil,by simp⟩,?_,?_,?_⟩
 · rintro i zs H' ⟨as,gs,ls',_,_,_,_,h,_⟩
   exact h
 · rintro zs H' ⟨as,gs,ls',rfl,e1,e2,_,hDD,kp,hln,hr3,hnd,hall⟩
   have ha3:=SqL_kp ha1 (kpM kp) ham
   refine ⟨⟨_,ha3,by rw [List.length_map];exact Nat.le_refl _⟩,?_⟩
   have hrl:=grows_len (T:=(T1 Z0)) (R:=rm ts) (n:=n) (s0:=s0) (ys:=ys) (i:=ys.length)
   have hra:∀j,j < ys.length→(grows (T1 Z0) (rm ts) n s0 ys ys.length)[j]?=some (NR.grow (T1 Z0) (rm ts) n s0 ys j):=fun j hj=>by unfold grows;rw [List.getElem?_map,List.getElem?_range hj];rfl
   refine q D as gs H' ((Kp.of sm1).trans (kpM kp)) hDD (fun i a hi=>?_) ⟨SqL.of hDD,by rw [e1,hrl],by rw [e2,hrl],fun i a g r h1 h2 h3=>?_⟩ hr3.h (same_none sm1 (same_none sm2 hD)) (fun hm=>?_) hnd (fun i a g h1 h2=>?_)
   · have hil:i < as.length:=(List.getElem?_eq_some_iff.mp hi).1
     obtain ⟨_,_,_,_,k1,_⟩:=hall i a _ hi (List.getElem?_eq_getElem (show i < gs.length by omega))
     exact ⟨_,k1⟩
   · have hil:i < as.length:=(List.getElem?_eq_some_iff.mp h1).1
     obtain ⟨_,_,_,_,k1,k2,_⟩:=hall i a g h1 h2
     rw [hra i (by omega)]at h3
     cases h3
     exact ⟨SqT.of k1,SqL.of k2⟩
   · obtain ⟨j,hj⟩:=List.mem_iff_getElem?.mp hm
     have hjl:j < gs.length:=(List.getElem?_eq_some_iff.mp hj).1
     obtain ⟨_,_,_,h4,_⟩:=hall j _ _ (List.getElem?_eq_getElem (show j < as.length by omega)) hj
     exact h4 rfl
   · obtain ⟨_,h2',_,_,k1,k2,z1,z2⟩:=hall i a g h1 h2
     exact ⟨same_none sm1 z1,same_none sm1 z2,fun hm=>h2' (List.mem_cons_of_mem _ hm),k1,k2⟩
 · rintro i zs H' hi ⟨as,gs,ls',rfl,e1,e2,_,hDD,kp,hln,hr3,hnd,hall⟩
   have ha3:=SqL_kp ha1 (kpM kp) ham
   have hz:=List.getElem?_eq_getElem hi
   generalize ys[i]'hi=z at hz
   refine ⟨⟨_,V.str z,ha3,by rw [List.getElem?_map,hz];rfl⟩,fun x H3 ⟨e3,ex⟩=>?_⟩
   subst e3
   have hx:=ex _ ha3
   rw [List.getElem?_map,hz]at hx
   cases hx
   have hsi:=gst_inv (R:=rm ts) hi0 hin hrm i (by omega)
   have hzm:=List.mem_of_getElem? hz
   have e1':=Nat.le_of_eq e1
   have e1'':=Nat.le_of_eq e1.symm
   have e2':=Nat.le_of_eq e2
   have e2'':=Nat.le_of_eq e2.symm
   clear e1 e2
   have hrowi:=grow_at (T:=(T1 Z0)) (R:=rm ts) (n:=n) (s0:=s0) hz
   have hss:=gst_succ (T:=(T1 Z0)) (R:=rm ts) (n:=n) (s0:=s0) hz
   have hpair:(gst (T1 Z0) (rm ts) n s0 ys i)=((gst (T1 Z0) (rm ts) n s0 ys i).1,lyN ls')∧True:=⟨by rw [hln],trivial⟩
   walk_at "go"
   refine ⟨H0,p,d,M,n,ts,ls',_,hr3,by rw [hln];exact hsi.i,nd,htl,hin z hzm,hrm z hzm,Nat.le_trans (gst_cnt i (by omega)) (by omega),fun t g ls2 H4 kp4 ht hg ht4 hg4 hln4 hr4=>?_⟩
   rw [← hpair.1]at ht4 hg4 hln4 hr4
   have hD3:D∉d::M:=hr2.free hD
   have hDD4:=kp4 _ _ hD3 hDD
   have htD:t≠D:=fun e=>by rw [e,hDD]at ht;cases ht
   have hgD:g≠D:=fun e=>by rw [e,hDD]at hg;cases hg
   have ht1:H1 t=none:=kp_none (kpM kp) (fun hm=>hr3.free ht (List.mem_cons_of_mem _ hm)) ht
   have hg1:H1 g=none:=kp_none (kpM kp) (fun hm=>hr3.free hg (List.mem_cons_of_mem _ hm)) hg
   have hndg:(gs++[g]).Nodup:=by
    rw [List.nodup_append]
    refine ⟨hnd,by simp,fun x hx y hy e=>?_⟩
    obtain ⟨j,hj⟩:=List.mem_iff_getElem?.mp hx
    have hjl:j < gs.length:=(List.getElem?_eq_some_iff.mp hj).1
    obtain ⟨_,_,_,_,_,k2,_⟩:=hall j _ _ (List.getElem?_eq_getElem (show j < as.length by omega)) hj
    rw [e,List.mem_singleton.mp hy,hg]at k2;cases k2
   refine compNext hDD4 (by rw [List.length_map];omega) hi ⟨as++[t],by rw [List.map_append];rfl,by rw [List.length_append];simp only [List.length_cons,List.length_nil];omega,gs++[g],by rw [List.length_append];simp only [List.length_cons,List.length_nil];omega,hi,upd_same,kp_new (kp.trans kp4) hD,ls2,by rw [hss];exact hln4,?_,hndg,fun j a' g' h1 h2=>?_⟩
   · rw [hss]
     exact hr4.lst (fun b o e nb=>by rw [upd_ne nb];exact e) hDD4 (fun h=>hD3 (List.mem_cons_of_mem _ h)) (same_none hr2.sm hD)
   · rcases at_snoc h1 with ⟨l1,c1⟩ | ⟨l1,c1⟩
     · rcases at_snoc h2 with ⟨l2,c2⟩ | ⟨l2,c2⟩
       · obtain ⟨n1,n2,n3,n4,k1,k2,z1,z2⟩:=hall j a' g' c1 c2
         refine ⟨n1,n2,n3,n4,?_,?_,z1,z2⟩
         · rw [upd_ne n3];exact kp4 _ _ n1 k1
         · rw [upd_ne n4];exact kp4 _ _ n2 k2
       · omega
     · rcases at_snoc h2 with ⟨l2,c2⟩ | ⟨l2,c2⟩
       · omega
       · rw [c1,c2,show j=i by omega,hrowi]
         refine ⟨hr3.free ht,hr3.free hg,htD,hgD,?_,?_,ht1,hg1⟩
         · rw [upd_ne htD];exact ht4
         · rw [upd_ne hgD];exact hg4
theorem Z8d{f:Addr}{fd:FuncData}(F:Fun K "make_first" "make_first" Z3n f fd)(T:Txt K mg xU0 xU1 xU2 Z3 Z1 Z2 Z4 Z7 Z8 Z6 Z5 Zc Z9 Z0 xmake_oldest xmake_first xmake_halving xmake_farthest xmake_hand xmake_rows xmake_dues xrow_of_rounds xrow_of_pairs Za Zb)(Z3t:DefI P w K mg base (CXF P w) 6 "First" Z0 ["self","stock","places"] (sp22_init Z0)):FnOk P w K mg base (CXF P w) 8 f fd ["stock","places","asks"] (sp67_mk Z0):=by
 have sc:FnScope ["stock","places","asks"] ["stock","places","asks"] (defScope Z3n):=by walk_at "sc"
 refine F.okF sc (fun vs H Q E h=>?_) (fun cdv A outer s H vs Q E hr h=>?_)
 · obtain ⟨_,_,_,rfl,_⟩:=h;rfl
 obtain ⟨st,a,n,rfl,h1,h2,q⟩:=h
 refine ⟨_,(@pss_one _ _ _ (@ps_ret _ _ _ _ (pe_makeS Z3t hr rfl (passS pass_onF) (pa_cons (pv 0) (pa_cons (pv 1) pa_nil))))),?_⟩
 walk_at "st"
 walk_at "go"
 intro x dx hx hd hne
 refine ⟨dx,upd_same,h1,h2,fun H' la pa sb hla hpa hg=>?_⟩
 exact q x [x,la,pa] H' (mk_same hx hd sb) (fun m hm=>by simp only [List.mem_cons,List.not_mem_nil,or_false]at hm;rcases hm with e | e | e <;> rw [e];exact hx;exact mk_none hx hd hla;exact mk_none hx hd hpa) hg
theorem Z95{f:Addr}{fd:FuncData}(F:Fun K "maker_of" "maker_of" Z4x f fd)(T:Txt K mg xU0 xU1 xU2 Z3 Z1 Z2 Z4 Z7 Z8 Z6 Z5 Zc Z9 Z0 xmake_oldest xmake_first xmake_halving xmake_farthest xmake_hand xmake_rows xmake_dues xrow_of_rounds xrow_of_pairs Za Zb)(Z7e:KTab w.params K Za "first" (some (.ref xmake_first))):FnOk P w K mg base (CXF P w) 2 f fd ["word"] (sp67_maker xmake_first):=by
 have sc:FnScope ["word"] ["word"] (defScope Z4x):=by walk_at "sc"
 refine F.okF sc (fun vs H Q E h=>?_) (fun cdv A outer s H vs Q E hr h=>?_)
 · obtain ⟨rfl,_⟩:=h;rfl
 obtain ⟨rfl,q⟩:=h
 refine ⟨_,(@pss_cons _ _ _ _ _ (ps_if (PW.pt (pw_or (pt_not (pt_val (pe_callB call_isinst rfl T.Zo (by first | rfl | decide+kernel) (pa_cons (pv 0) (pa_cons (pe_bltn (v:= .ty "str") rfl T.Z4v (by first | rfl | decide+kernel) rfl) pa_nil))))) (pw_or1 (pt_cmp (pc_knin (pv 0) (pe_glob (v:= .ref Za) rfl T.Z8l rfl))))))
  (@pss_one _ _ _ ps_never)
  pss_nil)
  (@pss_one _ _ _ (@ps_ret _ _ _ _ (pe_kget (pe_glob (v:= .ref Za) rfl T.Z8l rfl) (pv 0) (fun _ _=>rfl))))),?_⟩
 walk_at "st"
 walk_at "go"
 refine ⟨_,Z7e,?_⟩
 rw [if_neg (by simp)]
 rename_i rest hrest
 subst hrest
 walk_at "go"
 exact ⟨_,Z7e,q⟩
theorem Z6v{f:Addr}{fd:FuncData}(F:Fun K "check_greater" "check_greater" Z2c f fd)(T:Txt K mg xU0 xU1 xU2 Z3 Z1 Z2 Z4 Z7 Z8 Z6 Z5 Zc Z9 Z0 xmake_oldest xmake_first xmake_halving xmake_farthest xmake_hand xmake_rows xmake_dues xrow_of_rounds xrow_of_pairs Za Zb)(Zh:Def P w K mg base (CXF P w) 2 "is_within" ["thing","least","most"] (N53.sp53_within K)):FnOk P w K mg base (CXF P w) 3 f fd ["lesser","greater"] (sp67_greater (Ex5.mk Z4 Z7 Z8 Z1 Z2)):=by
 have sc:FnScope ["lesser","greater"] ["lesser","greater"] (defScope Z2c):=by walk_at "sc"
 refine F.okF sc (fun vs H Q E h=>?_) (fun cdv A outer s H vs Q E hr h=>?_)
 · obtain ⟨_,_,rfl,_⟩:=h;rfl
 obtain ⟨n,u,rfl,hu,q,qe⟩:=h
 refine ⟨_,(@pss_one _ _ _ (ps_if (pt_not (pt_val (pe_callD Zh hr rfl pass_onF (pa_cons (pv 1) (pa_cons (pv 0) (pa_cons (pe_gint rfl T.Zw) pa_nil))))))
  (@pss_one _ _ _ (ps_raiseF T.Z28 rfl T.k_NoNumber rfl rfl T.Z27 raisesF (pa_cons (pe_fstr (pj_cons pe_str (pj_cons (pe_fmt (pe_gint rfl T.Zw)) pj_nil))) pa_nil)))
  pss_nil)),?_⟩
 walk_at "st"
 have line:=line_val
 walk_at "go"
 refine ⟨N53.NumV.flat hu,?_⟩
 split
 · rename_i h
   have l1:(Str.ofString "the greater places are not a whole number from the lesser ones to ").length≤100:=by decide+kernel
   have l2:(Str.ofString (toString (1000000:Int))).length≤100:=by decide+kernel
   have l0:=len_empty
   refine ⟨by rw [len_app];omega,by decide,by rw [len_app,len_app];omega,by rw [len_app,len_app];omega,by omega,fun x hx=>⟨hx,qe h _ x (Same.new hx) hx upd_same⟩⟩
 · rename_i h
   exact q (by simpa using h)
theorem Z96{f:Addr}{fd:FuncData}(F:Fun K "lying_by" "lying_by" Z4y f fd)(T:Txt K mg xU0 xU1 xU2 Z3 Z1 Z2 Z4 Z7 Z8 Z6 Z5 Zc Z9 Z0 xmake_oldest xmake_first xmake_halving xmake_farthest xmake_hand xmake_rows xmake_dues xrow_of_rounds xrow_of_pairs Za Zb)(Z3u:Def P w K mg base (CXF P w) 8 "make_first" ["stock","places","asks"] (sp67_mk Z0))(Z63:Def P w K mg base (CXF P w) 7 "book_of" ["rule","asks"] (spR_bookN (T1 Z0) K Z6 Z5))(Z36:Def P w K mg base (CXF P w) 7 "lying_after" ["stock","asks","places","book"] (sp14_after K Z6)):FnOk P w K mg base (CXF P w) 9 f fd ["make","stock","asks","places"] (sp67_by K Z6 Z0 xmake_first):=by
 have sc:FnScope ["make","stock","asks","places","rule"] ["make","stock","asks","places"] (defScope Z4y):=by walk_at "sc"
 refine F.okF sc (fun vs H Q E h=>?_) (fun cdv A outer s H vs Q E hr h=>?_)
 · obtain ⟨_,_,_,_,_,rfl,_⟩:=h;rfl
 obtain ⟨st,a,n,ts,ys,rfl,ro,q⟩:=h
 refine ⟨_,(@pss_cons _ _ _ _ _ (ps_set (i:=4) sc.nd rfl (Or.inl rfl) (pe_callF (fa:=(fun _:Unit=>xmake_first)) (nm:=(fun _:Unit=>(Str.ofString "make_first"))) (sp:=(fun _:Unit=>sp67_mk Z0)) (fun w=>by cases w;exact Z3u) (fun w=>by cases w;exact T.Z8k) hr pass_onF (pv 0) (pa_cons (pv 1) (pa_cons (pv 3) (pa_cons (pe_callTy call_list_of rfl T.Z29 (by first | rfl | decide+kernel) (pa_cons (pv 2) pa_nil)) pa_nil)))))
  (@pss_one _ _ _ (@ps_ret _ _ _ _ (pe_callD Z36 hr rfl pass_onF (pa_cons (pv 1) (pa_cons (pv 2) (pa_cons (pv 3) (pa_cons (pe_callD Z63 hr rfl pass_onF (pa_cons (pv 4) (pa_cons (pv 2) pa_nil))) pa_nil)))))))),?_⟩
 walk_at "st"
 have line:=line_val
 have iv:∀{ns:List Str} {n:Int},(T1 Z0).inv ns n s10 []:=fun {ns n}=>invq (c:=C3.mk Z0 Z0 Z0) (w:= .fi)
 walk_at "go"
 refine ⟨_,.inl (SqL.of ro.a),fun l hl=>⟨ro.n1,ro.n2,fun q' M H1 sm1 hM hg=>?_⟩⟩
 have sm:=(Same.new hl).trans sm1
 have hM0:∀m∈M,H m=none:=fun m hm=>same_none (Same.new hl) (hM m hm)
 have ham:a∉M:=fun h=>by
  have:=ro.a
  rw [hM0 a h]at this
  cases this
 have sa:=sm _ _ ro.a
 clear hM hl sm1
 rename_i rest hrest
 subst hrest
 walk_at "go"
 refine ⟨H,st,M,n,ts,ys,s10,hg,iv,ro.s,sm,hM0,ro.nd,ro.tl,SqL.of sa,ham,ro.l,ro.i,ro.r,ro.n1,ro.n2,Nat.zero_le _,fun b as gs H2 kp2 hb htup bk _ _ _ _ _=>?_⟩
 have sm2:Same H H2:=fun x o e=>kp2 x o (fun h=>by rw [hM0 x h]at e;cases e) (sm x o e)
 have ro2:=ro.same sm2
 refine ⟨ts,ro2.s,ro2.nd,ys,SqL.of ro2.a,ro2.l,ro2.i,ro2.r,ro2.n1,ro2.n2,as,gs,_,bk,gl_lawful iv ro.i ro.r,fun l2 qs H3 hl2 sm3 td=>?_⟩
 exact q l2 qs H3 (same_none sm2 hl2) (sm2.trans sm3) ⟨td.L,td.N,td.d,fun j q hj=>⟨same_none sm2 (td.q j q hj).1,(td.q j q hj).2⟩⟩
theorem Z8e{f:Addr}{fd:FuncData}(F:Fun K "first_lack" "first_lack" Z3o f fd)(T:Txt K mg xU0 xU1 xU2 Z3 Z1 Z2 Z4 Z7 Z8 Z6 Z5 Zc Z9 Z0 xmake_oldest xmake_first xmake_halving xmake_farthest xmake_hand xmake_rows xmake_dues xrow_of_rounds xrow_of_pairs Za Zb)(Zm:Def P w K mg base (CXF P w) 5 "check_asks" ["stock","asks","places"] (sp13_asks K Z6 Z4 Z7 Z1 Z2))(Z01:Def P w K mg base (CXF P w) 3 "check_greater" ["lesser","greater"] (sp67_greater (Ex5.mk Z4 Z7 Z8 Z1 Z2)))(Z3c:Def P w K mg base (CXF P w) 9 "lying_by" ["make","stock","asks","places"] (sp67_by K Z6 Z0 xmake_first)):FnOk P w K mg base (CXF P w) 10 f fd ["stock","asks","lesser","greater","make"] (sp67_lack K Z6 xmake_first (Ex5.mk Z4 Z7 Z8 Z1 Z2)):=by
 have sc:FnScope ["stock","asks","lesser","greater","make","held","offered","number","names","lacking"] ["stock","asks","lesser","greater","make"] (defScope Z3o):=by walk_at "sc"
 refine F.okF sc (fun vs H Q E h=>?_) (fun cdv A outer s H vs Q E hr h=>?_)
 · obtain ⟨_,_,_,_,_,_,rfl,_⟩:=h;rfl
 obtain ⟨st,a,v,u,ts,ys,rfl,hs,nd,htl,ha,hl,hv,hu,q,qe⟩:=h
 refine ⟨_,(@pss_cons _ _ _ _ _ (ps_expr (pe_callD Zm hr rfl pass_onF (pa_cons (pv 0) (pa_cons (pv 1) (pa_cons (pv 2) pa_nil)))))
  (@pss_cons _ _ _ _ _ (ps_expr (pe_callD Z01 hr rfl pass_onF (pa_cons (pv 2) (pa_cons (pv 3) pa_nil))))
  (@pss_cons _ _ _ _ _ (ps_set (i:=5) sc.nd rfl (Or.inl rfl) (pe_callD Z3c hr rfl pass_onF (pa_cons (pv 4) (pa_cons (pv 0) (pa_cons (pv 1) (pa_cons (pv 2) pa_nil))))))
  (@pss_cons _ _ _ _ _ (ps_set (i:=6) sc.nd rfl (Or.inr rfl) (pe_callD Z3c hr rfl pass_onF (pa_cons (pv 4) (pa_cons (pv 0) (pa_cons (pv 1) (pa_cons (pv 3) pa_nil))))))
  (@pss_cons _ _ _ _ _ (ps_for own_outF rfl (pi_enum rfl T.Z0e (pa_cons (pv 5) pa_nil)) (pg_tup rfl (pgs_cons (pg_name (i:=7) sc.nd rfl (Or.inr rfl)) (pgs_cons (pg_name (i:=8) sc.nd rfl (Or.inl rfl)) pgs_nil)))
   (@pss_cons _ _ _ _ _ (ps_compI (i:=9) "name" [6,7] sc.nd rfl rfl rfl rfl (pi_list (pv 8)) (fun b=>(pt_cmpR op_notIn_seq (pv 0) (@pe_ix _ _ _ _ _ _ _ ix_list (pv 1) (pv 2) (fun _ _=>rfl)) (by with_unfolding_all rfl))) (fun b=>(pv 0)))
   (@pss_one _ _ _ (ps_if (pt_cmpR (op_neQ hr) (pv 9) (@pe_lst _ _ _ _ pa_nil) (nomark _))
    (@pss_one _ _ _ (@ps_ret _ _ _ _ (pe_tup (pa_cons (pv 7) (pa_cons (pe_callB call_sortS rfl T.Z3f (by first | rfl | decide+kernel) (pa_cons (pv 9) pa_nil)) pa_nil)))))
    pss_nil))))
  (@pss_one _ _ _ (@ps_ret _ _ _ _ pe_non))))))),?_⟩
 walk_at "st"
 have line:=line_val
 have iv:∀{ns:List Str} {n:Int},(T1 Z0).inv ns n s10 []:=fun {ns n}=>invq (c:=C3.mk Z0 Z0 Z0) (w:= .fi)
 walk_at "go"
 refine ⟨ts,hs,nd,ys,SqL.of ha,hl,N53.NumV.flat hv,fun e H1 sm1=>?_,fun e H' y sm hy er=>?_,fun e H' y sm hy er=>?_,fun z i e H' y sm hy er=>?_,fun z i e H' y sm hy er=>?_⟩
 rotate_left
 · rw [lack_num e]at qe
   exact qe H' y sm hy er
 · rw [lack_many e]at qe
   exact qe H' y sm hy er
 · rw [lack_unk e]at qe
   exact qe H' y sm hy er
 · rw [lack_wide e]at qe
   exact qe H' y sm hy er
 obtain ⟨n1,rfl,hn1,hn1',hl2,hin,hrm,eD⟩:=ask_fine (u:=u) e
 rename_i rest hrest
 subst hrest
 walk_at "go"
 refine ⟨fun hw=>?_,fun hw=>?_⟩
 rotate_left
 · rw [if_neg (by rw [hw];decide)]at eD
   rw [eD]at qe
   exact qe.at sm1
 rw [if_pos hw]at eD
 replace q:=q eD
 clear qe eD e
 obtain ⟨n2,rfl,hn2,hn2'⟩:=N53.wIn_one hw
 clear hw
 have ro1:RowOk K Z6 H1 st a n1 ts ys:=⟨hs.same sm1,nd,htl,sm1 _ _ ha,hl2,hin,hrm,hn1,hn1'⟩
 rename_i rest hrest
 subst hrest
 walk_at "go"
 refine ⟨ts,ys,ro1,fun l1 qs1 H2 hl1 sm2 td1=>?_⟩
 have ro2:RowOk K Z6 H2 st a n2 ts ys:=⟨(ro1.same sm2).s,nd,htl,(ro1.same sm2).a,hl2,hin,(fun y hy=>by have:=hrm y hy;omega),(by omega),hn2'⟩
 rename_i rest hrest
 subst hrest
 walk_at "go"
 refine ⟨ts,ys,ro2,fun l2 qs2 H3 hl2' sm3 td2=>?_⟩
 have b1:=(td1.same sm3).beh
 have b2:=td2.beh
 clear td1 td2
 rename_i rest hrest
 subst hrest
 walk_at "go"
 rename_i rest hrest
 have hR2:∀y∈ys,rm ts y≤n2:=fun y hy=>by have:=hrm y hy;omega
 refine ⟨⟨_,SqL.of b1.L⟩,forE_by (xs:=qs1.map V.ref) (fun i σ H'=>∃v7 v8 v9:Option V,σ=[some (V.ref st),some (V.ref a),some (V.int n1),some (V.int n2),some (V.ref xmake_first),some (V.ref l1),some (V.ref l2),v7,v8,v9]∧Same H3 H') ⟨none,none,none,rfl,Same.refl H3⟩ (fun i σ H' _ h_=>by obtain ⟨_,_,_,_,sm⟩:=h_;exact SqL.of (sm _ _ b1.L)) ?_ ?_⟩
 · clear hrest
   rintro i u σ H' t hu' ⟨v7,v8,v9,rfl,sm⟩ htn
   rw [List.getElem?_map]at hu'
   cases hr0:qs1[i]? with
   | none=>rw [hr0]at hu';cases hu'
   | some r=>
   rw [hr0]at hu'
   cases hu'
   have hi:i < ys.length:=by rw [← b1.N];exact (List.getElem?_eq_some_iff.mp hr0).1
   obtain ⟨e,he⟩:∃e,qs2[i]?=some e:=⟨_,List.getElem?_eq_getElem (by rw [b2.N];exact hi)⟩
   walk_at "go"
   refine ⟨_,SqT.of upd_same,rfl,_,_,rfl,_,_,rfl,rfl,?_⟩
   have sm4:=sm.trans (Same.new (o:= .tup [V.int i,V.ref r]) htn)
   generalize upd H' t (.tup [V.int i,V.ref r])=H4 at sm4 ⊢
   clear sm htn
   have c1:=sm4 _ _ (b1.q i r hr0)
   have c2:=sm4 _ _ (b2.q i e he)
   have c3:=sm4 _ _ b2.L
   rw [w6_l iv hin hrm (show i+1≤ys.length by omega)]at c1
   rw [w6_l iv hin hR2 (show i+1≤ys.length by omega)]at c2
   have hll:=l6_le (T:=(T1 Z0)) (s0:=s10) (n:=n1) iv hin hrm (show i+1≤ys.length by omega)
   generalize L6 (T1 Z0) s10 ts n1 ys (i+1)=A1 at c1 hll
   generalize L6 (T1 Z0) s10 ts n2 ys (i+1)=A2 at c2
   walk_at "go"
   refine ⟨⟨_,SqL.of c1⟩,compL_if (pS A2) id (SqL.of c1) (by rw [List.length_map];omega) (fun b x H5 QT hx sm5 qt=>?_) (fun b x H5 Q' hx hp sm' q'=>?_) (fun D H5 hD sm5 hD5=>?_)⟩
   · obtain ⟨z,hz,rfl⟩:=List.mem_map.mp hx
     walk_at "go"
     refine ixL_of (SqL.of (sm5 _ _ c3)) (v:=V.ref e) (atI_nat (by rw [List.getElem?_map,he];rfl)) (ninT_go (SqL.of (sm5 _ _ c2)) ⟨_,rfl,?_⟩)
     have e9:(!decide (z∈A2))=pS A2 (V.str z):=by show _=decide (z∉A2);simp
     rw [e9]
     exact qt H5 (Same.refl _)
   · walk_at "go"
     exact q' _ (Same.refl _)
   · have hD6:H5 D=some (.lst ((lackN A1 A2).map V.str)):=by rw [hD5,List.map_id,pS_filter]
     have hlen:(lackN A1 A2).length≤60:=Nat.le_trans lack_len (by omega)
     rename_i rest hrest
     subst hrest
     walk_at "go"
     intro p hp
     refine ⟨_,eqQ_strs (xs:=lackN A1 A2) (ys:=[]) (SqL.of (by rw [upd_ne (ne_of_none hD6 hp)];exact hD6)) (SqL.of upd_same),?_⟩
     have sm7:=(sm4.trans sm5).trans (Same.new (o:= .lst []) hp)
     by_cases hL:lackN A1 A2=[]
     · rw [if_neg (by simp [hL])]
       exact sm7
     · rw [if_pos (by simp [hL])]
       have hD7:upd H5 p (.lst []) D=some (.lst ((lackN A1 A2).map V.str)):=by rw [upd_ne (ne_of_none hD6 hp)];exact hD6
       generalize upd H5 p (.lst [])=H7 at sm7 hD7 ⊢
       refine ⟨lackN A1 A2,SqL.of hD7,by omega,fun s2 zs hs2 hpm hso=>⟨by omega,fun t2 ht2=>?_⟩⟩
       have sm8:=(Same.new (H:=H7) (o:= .lst (zs.map V.str)) hs2)
       have sm9:=sm8.trans (Same.new (o:= .tup [V.int i,V.ref s2]) ht2)
       exact q _ _ ((((sm1.trans sm2).trans sm3).trans sm7).trans sm9) (.inr ⟨t2,_,rfl,upd_same⟩)
 · rintro σ H' ⟨v7,v8,v9,rfl,sm⟩
   subst hrest
   walk_at "go"
   exact q _ _ (((sm1.trans sm2).trans sm3).trans sm) (.inl rfl)
theorem Z7f{f:Addr}{fd:FuncData}(F:Fun K "check_search" "check_search" Z2l f fd)(T:Txt K mg xU0 xU1 xU2 Z3 Z1 Z2 Z4 Z7 Z8 Z6 Z5 Zc Z9 Z0 xmake_oldest xmake_first xmake_halving xmake_farthest xmake_hand xmake_rows xmake_dues xrow_of_rounds xrow_of_pairs Za Zb)(Zh:Def P w K mg base (CXF P w) 2 "is_within" ["thing","least","most"] (N53.sp53_within K))(Zd:Def P w K mg base (CXF P w) 3 "check_places" ["places"] (sp13_check K Z4))(Z01:Def P w K mg base (CXF P w) 3 "check_greater" ["lesser","greater"] (sp67_greater (Ex5.mk Z4 Z7 Z8 Z1 Z2))):FnOk P w K mg base (CXF P w) 4 f fd ["many","long","lesser","greater"] (sp67_search (Ex5.mk Z4 Z7 Z8 Z1 Z2)):=by
 have sc:FnScope ["many","long","lesser","greater"] ["many","long","lesser","greater"] (defScope Z2l):=by walk_at "sc"
 refine F.okF sc (fun vs H Q E h=>?_) (fun cdv A outer s H vs Q E hr h=>?_)
 · obtain ⟨_,_,_,_,rfl,_⟩:=h;rfl
 obtain ⟨v0,v1,v,u,rfl,h0,h1,hv,hu,q,qe⟩:=h
 refine ⟨_,(@pss_cons _ _ _ _ _ (ps_if (pt_not (pt_val (pe_callD Zh hr rfl pass_onF (pa_cons (pv 0) (pa_cons pe_int (pa_cons (pe_gint rfl T.Z00) pa_nil))))))
  (@pss_one _ _ _ (ps_raiseF T.Z28 rfl T.k_NoNumber rfl rfl T.Z27 raisesF (pa_cons (pe_fstr (pj_cons pe_str (pj_cons (pe_fmt (pe_gint rfl T.Z00)) pj_nil))) pa_nil)))
  pss_nil)
  (@pss_cons _ _ _ _ _ (ps_if (pt_not (pt_val (pe_callD Zh hr rfl pass_onF (pa_cons (pv 1) (pa_cons pe_int (pa_cons (pe_gint rfl T.Z0v) pa_nil))))))
   (@pss_one _ _ _ (ps_raiseF T.Z28 rfl T.k_NoNumber rfl rfl T.Z27 raisesF (pa_cons (pe_fstr (pj_cons pe_str (pj_cons (pe_fmt (pe_gint rfl T.Z0v)) pj_nil))) pa_nil)))
   pss_nil)
  (@pss_cons _ _ _ _ _ (ps_expr (pe_callD Zd hr rfl pass_onF (pa_cons (pv 2) pa_nil)))
  (@pss_one _ _ _ (ps_expr (pe_callD Z01 hr rfl pass_onF (pa_cons (pv 2) (pa_cons (pv 3) pa_nil)))))))),?_⟩
 walk_at "st"
 have line:=line_val
 have l0:=len_empty
 walk_at "go"
 refine ⟨N53.NumV.flat h0,?_⟩
 split
 · rename_i h
   have l1:(Str.ofString "the things of a search are not a whole number from 1 to ").length≤100:=by decide+kernel
   have l2:(Str.ofString (toString (4:Int))).length≤100:=by decide+kernel
   have e:rowD v0 v1 v u= .num:=if_neg (fun k=>by rw [k.1.1]at h;cases h)
   rw [e]at qe
   exact ⟨by rw [len_app];omega,by decide,by rw [len_app,len_app];omega,by rw [len_app,len_app];omega,by omega,fun x hx=>⟨hx,qe _ x (Same.new hx) hx upd_same⟩⟩
 rename_i rest hrest w0
 subst hrest
 walk_at "go"
 refine ⟨N53.NumV.flat h1,?_⟩
 split
 · rename_i h
   have l1:(Str.ofString "the asks of a search are not a whole number from 1 to ").length≤100:=by decide+kernel
   have l2:(Str.ofString (toString (6:Int))).length≤100:=by decide+kernel
   have e:rowD v0 v1 v u= .num:=if_neg (fun k=>by rw [k.1.2]at h;cases h)
   rw [e]at qe
   exact ⟨by rw [len_app];omega,by decide,by rw [len_app,len_app];omega,by rw [len_app,len_app];omega,by omega,fun x hx=>⟨hx,qe _ x (Same.new hx) hx upd_same⟩⟩
 rename_i rest hrest w1
 subst hrest
 walk_at "go"
 refine ⟨N53.NumV.flat hv,fun hw=>?_,fun hw H' y sm hy er=>?_⟩
 rotate_left
 · have e:rowD v0 v1 v u= .num:=if_neg (fun k=>by rw [k.2.1]at hw;cases hw)
   rw [e]at qe
   exact qe H' y sm hy er
 obtain ⟨n,rfl,hn1,hn2⟩:=N53.wIn_one hw
 rename_i rest hrest
 subst hrest
 walk_at "go"
 refine ⟨fun hw2=>q (if_pos ⟨⟨by simpa using w0,by simpa using w1⟩,hw,hw2⟩),fun hw2=>?_⟩
 have e:rowD v0 v1 (V.int n) u= .num:=if_neg (fun k=>by have k2:wIn n 1000000 u=true:=k.2.2;rw [k2]at hw2;cases hw2)
 rw [e]at qe
 exact qe
theorem Z7t{f:Addr}{fd:FuncData}(F:Fun K "longer_rows" "longer_rows" Z31 f fd)(T:Txt K mg xU0 xU1 xU2 Z3 Z1 Z2 Z4 Z7 Z8 Z6 Z5 Zc Z9 Z0 xmake_oldest xmake_first xmake_halving xmake_farthest xmake_hand xmake_rows xmake_dues xrow_of_rounds xrow_of_pairs Za Zb):FnOk P w K mg base (CXF P w) 2 f fd ["rows","names"] (sp67_longer K):=by
 have sc:FnScope ["rows","names","longer","row","name"] ["rows","names"] (defScope Z31):=by walk_at "sc"
 refine F.okF sc (fun vs H Q E h=>?_) (fun cdv A outer s H vs Q E hr h=>?_)
 · obtain ⟨_,_,_,_,_,rfl,_⟩:=h;rfl
 obtain ⟨ra,na,kk,m,nm,rfl,hR,hN,hn4,hm,hk5,q⟩:=h
 refine ⟨_,(@pss_cons _ _ _ _ _ (ps_set (i:=2) sc.nd rfl (Or.inl rfl) (@pe_lst _ _ _ _ pa_nil))
  (@pss_cons _ _ _ _ _ (ps_for own_outF rfl (pi_list (pv 0)) (pg_name (i:=3) sc.nd rfl (Or.inl rfl))
   (@pss_one _ _ _ (ps_for own_outF rfl (pi_list (pe_slice sl_list (pv 1) po_none (po_some (pe_op op_add (pe_lenset rfl rfl T.Z0o rfl T.Z76 (pa_cons (pv 3) pa_nil)) pe_int)))) (pg_name (i:=4) sc.nd rfl (Or.inl rfl))
    (@pss_one _ _ _ (ps_expr (pe_bm PySem.F.plainAttrs_list PySem.F.slot_list_append PySem.F.type_list_append mt_append (pv 2) (pa_cons (pe_op op_cat (pv 3) (@pe_lst _ _ _ _ (pa_cons (pv 4) pa_nil))) pa_nil)))))))
  (@pss_one _ _ _ (@ps_ret _ _ _ _ (pv 2))))),?_⟩
 walk_at "st"
 have line:=line_val
 obtain ⟨rs,hra,hrm,hrs⟩:=hR
 walk_at "go"
 intro p hp
 have s1:Same H (upd H p (.lst [])):=Same.new hp
 have k1:upd H p (.lst []) p=some (.lst (([]:List Addr).map V.ref)):=upd_same
 generalize upd H p (.lst [])=H1 at s1 k1 ⊢
 rename_i rest hrest
 subst hrest
 walk_at "go"
 refine ⟨⟨_,SqL.of (s1 _ _ hra)⟩,?_⟩
 rename_i rest hrest
 refine forL_by (xs:=rs.map V.ref) (fun i σ H'=>∃(v3 v4:Option V),σ=[some (V.ref ra),some (V.ref na),some (V.ref p),v3,v4]∧Same H H'∧RowsK H' p (kk+1) nm (4 * i)) ⟨none,none,rfl,s1,[],k1,Nat.zero_le _,fun r hr=>by cases hr⟩ (fun i σ H' _ ⟨_,_,_,sm,_⟩=>SqL.of (sm _ _ hra)) ?_ ?_
 · clear hrest
   rintro i x σ H' hx ⟨v3,v4,rfl,sm,ls,hls,hln,hlr⟩
   rw [List.getElem?_map]at hx
   cases hr:rs[i]? with
   | none=>rw [hr]at hx;cases hx
   | some r=>
   rw [hr]at hx
   cases hx
   obtain ⟨ys,hys,hyl,hyn⟩:=hrs r (List.mem_of_getElem? hr)
   have hys':=sm _ _ hys
   walk_at "go"
   refine ⟨ys,SqL.of hys',by omega,_,sm.seq hN,fun c hc=>?_⟩
   obtain ⟨cs,hcs,hcl,hcm⟩:=cut_anyM nm none (some ((dis ys).length+1))
   rw [hcs]
   have npc:p≠c:=ne_of_none hls hc
   have smc:Same H' (upd H' c (.lst (cs.map V.str))):=Same.new hc
   have kc:upd H' c (.lst (cs.map V.str)) c=some (.lst (cs.map V.str)):=upd_same
   have hls2:=smc _ _ hls
   have hys2:=smc _ _ hys'
   have hlr2:∀r∈ls,∃ys:List Str,upd H' c (.lst (cs.map V.str)) r=some (.lst (ys.map V.str))∧ys.length=kk+1∧∀y∈ys,y∈nm:=fun r hr=>let ⟨zs,a,b⟩:=hlr r hr;⟨zs,smc _ _ a,b⟩
   have sm2:=sm.trans smc
   generalize upd H' c (.lst (cs.map V.str))=H2 at smc kc hls2 hys2 hlr2 sm2 ⊢
   clear hls hlr hcs
   refine ⟨⟨_,SqL.of kc⟩,?_⟩
   refine forL_by (xs:=cs.map V.str) (fun j σ H5=>∃v4:Option V,σ=[some (V.ref ra),some (V.ref na),some (V.ref p),some (V.ref r),v4]∧Same H H5∧H5 c=some (.lst (cs.map V.str))∧RowsK H5 p (kk+1) nm (4 * i+j)) ⟨v4,rfl,sm2,kc,ls,hls2,by omega,hlr2⟩ (fun j σ H5 _ ⟨_,_,_,h,_⟩=>SqL.of h) ?_ ?_
   · clear kc hls2 hys2 hlr2 sm2 smc sm
     rintro j x σ H5 hx ⟨v4,rfl,sm,kc,ls,hls,hln,hlr⟩
     rw [List.getElem?_map]at hx
     cases hz:cs[j]? with
     | none=>rw [hz]at hx;cases hx
     | some z=>
     rw [hz]at hx
     cases hx
     have hys5:=sm _ _ hys
     walk_at "go"
     refine ⟨.inl ⟨rfl,_,SqL.of hls⟩,by omega,fun d hd=>?_⟩
     have n1:r≠d:=ne_of_none hys5 hd
     have smd:Same H5 (upd H5 d (.lst [V.str z])):=Same.new hd
     refine cat_goS (l:=ys) (m:=[z]) (by rw [upd_ne n1];exact hys5) upd_same (by show _+1≤_;omega) fun e he=>?_
     have sme:Same (upd H5 d (.lst [V.str z])) (upd (upd H5 d (.lst [V.str z])) e (.lst ((ys++[z]).map V.str))):=Same.new he
     have ke:upd (upd H5 d (.lst [V.str z])) e (.lst ((ys++[z]).map V.str)) e=some (.lst ((ys++[z]).map V.str)):=upd_same
     have sm5:=smd.trans sme
     have he5:H5 e=none:=same_none smd he
     generalize upd (upd H5 d (.lst [V.str z])) e (.lst ((ys++[z]).map V.str))=H6 at sme ke sm5 ⊢
     have hls6:=sm5 _ _ hls
     have hi9:i < rs.length:=(List.getElem?_eq_some_iff.mp hr).1
     have hj9:j < cs.length:=(List.getElem?_eq_some_iff.mp hz).1
     have hk6:H6 c=some (.lst (cs.map V.str)):=sm5 _ _ kc
     have nls:∀r∈ls,r≠p:=fun r hr e=>by
      obtain ⟨zs,h1,h2,_⟩:=hlr r hr
      rw [e,hls]at h1
      cases ls with
      | nil=>cases hr
      | cons a l=>
       cases zs with
       | nil=>cases h1
       | cons b m=>cases h1
     have npe:e≠p:=fun h=>by rw [h,hls]at he5;cases he5
     refine ⟨p,_,_,rfl,rfl,hls6,by rw [List.length_map];omega,same_upd (sm.trans sm5) hp,by rw [upd_ne npc.symm];exact hk6,ls++[e],by rw [upd_same,List.map_append];rfl,by rw [List.length_append];show _+1≤_;omega,fun r hr=>?_⟩
     rcases List.mem_append.mp hr with hr | hr
     · obtain ⟨zs,h1,h2⟩:=hlr r hr
       exact ⟨zs,by rw [upd_ne (nls r hr)];exact sm5 _ _ h1,h2⟩
     · rw [List.mem_singleton.mp hr]
       refine ⟨ys++[z],by rw [upd_ne npe];exact ke,by rw [List.length_append];show _+1=_;omega,fun y hy=>?_⟩
       rcases List.mem_append.mp hy with hy | hy
       · exact hyn y hy
       · rw [List.mem_singleton.mp hy]
         exact hcm z (List.mem_of_getElem? hz)
   · rintro σ H5 ⟨v4,rfl,sm,kc,ls,hls,hln,hlr⟩
     rw [List.length_map]at hln
     exact ⟨_,_,rfl,sm,ls,hls,by omega,hlr⟩
 · rintro σ H' ⟨v3,v4,rfl,sm,ls,hls,hln,hlr⟩
   rw [List.length_map]at hln
   subst hrest
   walk_at "go"
   exact q p H' sm ⟨ls,hls,by omega,hlr⟩
theorem Z8s{f:Addr}{fd:FuncData}(F:Fun K "first_row" "first_row" Z45 f fd)(T:Txt K mg xU0 xU1 xU2 Z3 Z1 Z2 Z4 Z7 Z8 Z6 Z5 Zc Z9 Z0 xmake_oldest xmake_first xmake_halving xmake_farthest xmake_hand xmake_rows xmake_dues xrow_of_rounds xrow_of_pairs Za Zb)(Z2q:Def P w K mg base (CXF P w) 4 "check_search" ["many","long","lesser","greater"] (sp67_search (Ex5.mk Z4 Z7 Z8 Z1 Z2)))(Z0k:DefI P w K mg base (CXF P w) 4 "Stock" Z6 ["self","rows"] (sp_initG K Z6))(Z37:Def P w K mg base (CXF P w) 2 "longer_rows" ["rows","names"] (sp67_longer K))(Z0l:Def P w K mg base (CXF P w) 10 "first_lack" ["stock","asks","lesser","greater","make"] (sp67_lack K Z6 xmake_first (Ex5.mk Z4 Z7 Z8 Z1 Z2))):FnOk P w K mg base (CXF P w) 11 f fd ["make","many","long","lesser","greater"] (sp67_row xmake_first (Ex5.mk Z4 Z7 Z8 Z1 Z2)):=by
 have sc:FnScope ["make","many","long","lesser","greater","names","stock","rows","more","row"] ["make","many","long","lesser","greater"] (defScope Z45):=by walk_at "sc"
 refine F.okF sc (fun vs H Q E h=>?_) (fun cdv A outer s H vs Q E hr h=>?_)
 · obtain ⟨_,_,_,_,rfl,_⟩:=h;rfl
 obtain ⟨v0,v1,v,u,rfl,h0,h1,hv,hu,q,qe⟩:=h
 refine ⟨_,(@pss_cons _ _ _ _ _ (ps_expr (pe_callD Z2q hr rfl pass_onF (pa_cons (pv 1) (pa_cons (pv 2) (pa_cons (pv 3) (pa_cons (pv 4) pa_nil))))))
  (@pss_cons _ _ _ _ _ (ps_set (i:=5) sc.nd rfl (Or.inl rfl) (pe_callTy (call_listS rfl) rfl T.Z29 (by first | rfl | decide+kernel) (pa_cons (pe_slice sl_str (pe_gstr rfl T.Z0d) po_none (po_some (pv 1))) pa_nil)))
  (@pss_cons _ _ _ _ _ (ps_set (i:=6) sc.nd rfl (Or.inl rfl) (pe_makeS Z0k hr rfl (passS pass_onF) (pa_cons (pe_comp1 "name" [] rfl rfl (pi_list (pv 5)) (fun b=>(pe_tup (pa_cons (pv 0) (pa_cons pe_int (pa_cons pe_int pa_nil)))))) pa_nil)))
  (@pss_cons _ _ _ _ _ (ps_set (i:=7) sc.nd rfl (Or.inl rfl) (@pe_lst _ _ _ _ (pa_cons (@pe_lst _ _ _ _ pa_nil) pa_nil)))
  (@pss_cons _ _ _ _ _ (ps_for own_outF rfl (pi_range1 rfl T.Z24 (pa_cons (pv 2) pa_nil)) (pg_name (i:=8) sc.nd rfl (Or.inl rfl))
   (@pss_cons _ _ _ _ _ (ps_set (i:=7) sc.nd rfl (Or.inl rfl) (pe_callD Z37 hr rfl pass_onF (pa_cons (pv 7) (pa_cons (pv 5) pa_nil))))
   (@pss_one _ _ _ (ps_for own_outF rfl (pi_list (pv 7)) (pg_name (i:=9) sc.nd rfl (Or.inl rfl))
    (@pss_one _ _ _ (ps_if (pt_cmpR op_notN (pe_callD Z0l hr rfl pass_onF (pa_cons (pv 6) (pa_cons (pv 9) (pa_cons (pv 3) (pa_cons (pv 4) (pa_cons (pv 0) pa_nil)))))) pe_non (nomark _))
     (@pss_one _ _ _ (@ps_ret _ _ _ _ (pv 9)))
     pss_nil))))))
  (@pss_one _ _ _ (@ps_ret _ _ _ _ pe_non))))))),?_⟩
 walk_at "st"
 have line:=line_val
 walk_at "go"
 refine ⟨fun e=>?_,qe⟩
 replace q:=q e
 obtain ⟨k0,l0,n1,n2,rfl,hk1,hk4,rfl,hl1,hl6,rfl,hn1,hn1',rfl,hn2,hn2'⟩:=row_no e
 clear qe e
 rename_i rest hrest
 subst hrest
 walk_at "go"
 rw [let_cut (show k0≤26 by omega)]
 refine ⟨by have:=let_size (show k0≤26 by omega);omega,fun na hna=>?_⟩
 have s1:Same H (upd H na (.lst ((lts k0).map V.str))):=Same.new hna
 have k1:upd H na (.lst ((lts k0).map V.str)) na=some (.lst ((lts k0).map V.str)):=upd_same
 generalize upd H na (.lst ((lts k0).map V.str))=H1 at s1 k1 ⊢
 rename_i rest hrest
 subst hrest
 walk_at "go"
 have hus:(lts k0).Nodup:=lts_nodup (by omega)
 have hun:∀y∈lts k0,nameB y.cps.toList=true:=fun y hy=>by
  obtain ⟨i,hi,rfl⟩:=lts_mem hy
  exact let_name (by omega)
 have hlk:(lts k0).length=k0∧True:=⟨lts_len,trivial⟩
 refine ⟨⟨_,SqL.of k1⟩,compL_mk (fun i y H=>∃t,y=V.ref t∧SqT K H t [.str ((lts k0).getD i Str.empty),.int 1,.int 1]) (fun _=>True) (fun i y H H' l zs ⟨t,e,h⟩ hl sb=>⟨t,e,SqT.butL sb hl h⟩) (SqL.of k1) (by rw [List.length_map];omega) (fun b i x H' Q' hx sm' _ q'=>?_) (fun D yl H5 hD sm5 hyD hyl5 hall hG=>?_)⟩
 · rw [List.getElem?_map]at hx
   cases hz:(lts k0)[i]? with
   | none=>rw [hz]at hx;cases hx
   | some z=>
   rw [hz]at hx
   cases hx
   have ez:(lts k0).getD i Str.empty=z∧True:=⟨by rw [List.getD_eq_getElem?_getD,hz];rfl,trivial⟩
   rw [ez.1]at q'
   walk_at "go"
   exact fun t ht=>q' _ _ (Same.new ht) ⟨t,rfl,SqT.of upd_same⟩ trivial
 have ey:yl=(yl.map aOf).map V.ref:=by
  rw [List.map_map]
  refine (List.map_id yl).symm.trans (List.map_congr_left fun y hy=>?_)
  obtain ⟨i,hi⟩:=List.mem_iff_getElem?.mp hy
  obtain ⟨t,rfl,_⟩:=hall i y hi
  rfl
 rw [List.length_map]at hyl5
 have rows:=rows41 (K:=K) (C:=fun _=>1) (R:=fun _=>1) (as:=yl.map aOf) (by rw [← ey];exact hyD) (by rw [List.length_map];exact hyl5) (by omega) hus hun (fun y hy=>⟨(by decide:(0:Int)≤1),(by decide:(1:Int)≤10 ^ 30),(by decide:(1:Int)≤1),(by decide:(1:Int)≤1000)⟩) (fun i c h=>by
  rw [List.getElem?_map]at h
  cases hy':yl[i]? with
  | none=>rw [hy']at h;cases h
  | some y=>
   rw [hy']at h
   obtain ⟨t,rfl,hs⟩:=hall i y hy'
   cases h
   exact hs)
 have k15:=sm5 _ _ k1
 have sm05:=s1.trans sm5
 clear hall hyD ey hyl5 hD sm5 hG
 intro st dx hst hdx ne1
 obtain ⟨rws,r1,r2,r3,r4⟩:=rows.init
 have smx:Same H5 (upd (upd H5 dx (.own st)) st (.ins Z6 dx [])):=fun b o e=>by rw [upd_ne (ne_of_none e hst),upd_ne (ne_of_none e hdx)];exact e
 refine ⟨dx,D,rfl,upd_same,rws,by rw [r1];exact smx.seq rows.l,fun t ht=>smx.tup (r2 t ht),r3,fun H6 sb6 stk=>?_⟩
 rw [r4]at stk
 have sm6:Same H5 H6:=same_made hst hdx sb6
 have k16:=sm6 _ _ k15
 have sm06:=sm05.trans sm6
 clear sm05 k15 k1 s1 sm6 sb6 smx r1 r2 r3 r4
 have htn:(tsF (fun _=>1) (fun _=>1) (lts k0)).map (·.1)=lts k0∧True:=⟨tsF_names,trivial⟩
 have htr:∀y∈lts k0,rm (tsF (fun _=>1) (fun _=>1) (lts k0)) y=1:=fun y hy=>(tsF_cst hus hy).2
 have htsl:(tsF (fun _=>1) (fun _=>1) (lts k0)).length≤60:=by rw [tsF_len];omega
 generalize tsF (fun _=>1) (fun _=>1) (lts k0)=ts at stk htn htr htsl
 have hTn:(ts.map (·.1)).Nodup:=by rw [htn.1];exact hus
 rename_i rest hrest
 subst hrest
 walk_at "go"
 intro p hp
 refine ⟨by omega,fun p1 hp1=>?_⟩
 have n01:p≠p1:=ne_of_none upd_same hp1
 have sm7:Same H6 (upd (upd H6 p (.lst [])) p1 (.lst [V.ref p])):=(Same.new hp).trans (Same.new hp1)
 have rk7:RowsK (upd (upd H6 p (.lst [])) p1 (.lst [V.ref p])) p1 0 (lts k0) 1:=⟨[p],upd_same,Nat.le_refl 1,fun r hr=>⟨[],by rw [List.mem_singleton.mp hr,upd_ne n01];exact upd_same,rfl,fun y hy=>by cases hy⟩⟩
 generalize upd (upd H6 p (.lst [])) p1 (.lst [V.ref p])=H7 at sm7 rk7 ⊢
 rename_i rest hrest
 subst hrest
 walk_at "go"
 rename_i rest hrest
 refine forR_by (fun i σ H'=>∃(rw:Addr) (v8 v9:Option V),σ=[some (V.ref xmake_first),some (V.int k0),some (V.int l0),some (V.int n1),some (V.int n2),some (V.ref na),some (V.ref st),some (V.ref rw),v8,v9]∧Same H6 H'∧RowsK H' rw i (lts k0) (4 ^ i)) ⟨p1,none,none,rfl,sm7,rk7⟩ ?_ ?_
 · clear hrest rk7 sm7
   rintro i σ H' hi ⟨rw,v8,v9,rfl,sm,rk⟩
   walk_at "go"
   have h45:4 ^ i≤4 ^ 5:=Nat.pow_le_pow_right (by decide) (by omega)
   refine ⟨i,4 ^ i,lts k0,rk,SqL.of (sm _ _ k16),by rw [lts_len];omega,h45,by omega,fun l H8 sm8 rk8=>?_⟩
   have sm68:=sm.trans sm8
   clear rk
   obtain ⟨rs,hl8,hrl,hrs⟩:=id rk8
   rename_i rest hrest
   subst hrest
   walk_at "go"
   refine ⟨⟨_,SqL.of hl8⟩,forL_by (xs:=rs.map V.ref) (fun j σ H'=>∃v9:Option V,σ=[some (V.ref xmake_first),some (V.int k0),some (V.int l0),some (V.int n1),some (V.int n2),some (V.ref na),some (V.ref st),some (V.ref l),some (V.int i),v9]∧Same H8 H') ⟨v9,rfl,Same.refl _⟩ (fun j σ H' _ ⟨_,_,s⟩=>SqL.of (s _ _ hl8)) ?_ ?_⟩
   · rintro j x σ H9 hx ⟨v9,rfl,sm9⟩
     rw [List.getElem?_map]at hx
     cases hr:rs[j]? with
     | none=>rw [hr]at hx;cases hx
     | some r=>
     rw [hr]at hx
     cases hx
     obtain ⟨ys,hys,hyl,hyn⟩:=hrs r (List.mem_of_getElem? hr)
     have eN:lackD ts (V.int n1) (V.int n2) ys= .no:=lack_no hn1 hn2 hn2' (by omega) (fun y hy=>by rw [htn.1];exact hyn y hy) (fun y hy=>by rw [htr y (hyn y hy)];exact hn1)
     have sm69:=sm68.trans sm9
     walk_at "go"
     refine ⟨ts,stk.same sm69,hTn,htsl,ys,sm9 _ _ hys,by omega,rfl,rfl,fun _ r1 H10 sm10 an=>?_,by rw [eN];intro H' y _ _ er;cases er⟩
     split
     · exact q _ _ ((sm06.trans sm69).trans sm10)
     · exact sm9.trans sm10
   · rintro σ H9 ⟨v9,rfl,sm9⟩
     refine ⟨l,some (V.int i),v9,rfl,sm68.trans sm9,?_⟩
     have:=rk8.same sm9
     rw [Nat.pow_succ,Nat.mul_comm]
     exact this
 · rintro σ H' ⟨rw,v8,v9,rfl,sm,rk⟩
   subst hrest
   walk_at "go"
   exact q _ _ (sm06.trans sm)
theorem Z6w{f:Addr}{fd:FuncData}(F:Fun K "row_of_rounds" "row_of_rounds" Z2d f fd)(T:Txt K mg xU0 xU1 xU2 Z3 Z1 Z2 Z4 Z7 Z8 Z6 Z5 Zc Z9 Z0 xmake_oldest xmake_first xmake_halving xmake_farthest xmake_hand xmake_rows xmake_dues xrow_of_rounds xrow_of_pairs Za Zb):FnOk P w K mg base (CXF P w) 2 f fd ["places"] (sp66_row .fi):=by
 have sc:FnScope ["places","names"] ["places"] (defScope Z2d):=by walk_at "sc"
 refine F.okF sc (fun vs H Q E h=>?_) (fun cdv A outer s H vs Q E hr h=>?_)
 · obtain ⟨_,rfl,_⟩:=h;rfl
 obtain ⟨p,rfl,h1,h2,q⟩:=h
 refine ⟨_,(@pss_cons _ _ _ _ _ (ps_set (i:=1) sc.nd rfl (Or.inl rfl) (pe_callTy (call_listS rfl) rfl T.Z29 (by first | rfl | decide+kernel) (pa_cons (pe_slice sl_str (pe_gstr rfl T.Z0d) po_none (po_some (pe_op op_add (pv 0) pe_int))) pa_nil)))
  (@pss_one _ _ _ (@ps_ret _ _ _ _ (pe_op op_cat (pe_op op_cat (pe_op op_cat (pe_slice sl_list (pv 1) po_none (po_some (pe_un un_neg pe_int))) (pe_slice sl_list (pv 1) po_none (po_some (pe_op op_sub (pv 0) pe_int)))) (pe_slice sl_list (pv 1) (po_some (pe_un un_neg pe_int)) po_none)) (pv 1))))),?_⟩
 walk_at "st"
 have line:=line_val
 walk_at "go"
 have hk:((p:Int)+2)=((p+2:Nat):Int)∧True:=⟨by omega,trivial⟩
 have hk2:p+2≤26:=by omega
 rw [hk.1,let_cut hk2]
 refine ⟨by have:=let_size hk2;omega,fun n0 hn0=>?_⟩
 have s1:Same H (upd H n0 (.lst ((lts (p+2)).map V.str))):=Same.new hn0
 have k1:upd H n0 (.lst ((lts (p+2)).map V.str)) n0=some (.lst ((lts (p+2)).map V.str)):=upd_same
 generalize upd H n0 (.lst ((lts (p+2)).map V.str))=H1 at s1 k1 ⊢
 clear hk
 rename_i rest hrest
 subst hrest
 walk_at "go"
 refine ⟨_,SqL.of k1,fun a2 ha2=>?_⟩
 rw [cut_neg (l:=lts (p+2)) (j:=1) (v:=-1) rfl (by decide) (by rw [lts_len];omega),lts_len,lts_take (show p+2 - 1≤p+2 by omega)]
 have s2:Same H1 (upd H1 a2 (.lst ((lts (p+2 - 1)).map V.str))):=Same.new ha2
 have k2:upd H1 a2 (.lst ((lts (p+2 - 1)).map V.str)) a2=some (.lst ((lts (p+2 - 1)).map V.str)):=upd_same
 have k12:=s2 _ _ k1
 generalize upd H1 a2 (.lst ((lts (p+2 - 1)).map V.str))=H2 at s2 k2 k12 ⊢
 refine ⟨_,SqL.of k12,fun a3 ha3=>?_⟩
 have hp1:((p:Int) - 1)=((p - 1:Nat):Int)∧True:=⟨by omega,trivial⟩
 rw [hp1.1,cut_hi (l:=lts (p+2)) (by rw [lts_len];omega),lts_take (show p - 1≤p+2 by omega)]
 clear hp1
 have s3:Same H2 (upd H2 a3 (.lst ((lts (p - 1)).map V.str))):=Same.new ha3
 have k3:upd H2 a3 (.lst ((lts (p - 1)).map V.str)) a3=some (.lst ((lts (p - 1)).map V.str)):=upd_same
 have k13:=s3 _ _ k12
 have k23:=s3 _ _ k2
 generalize upd H2 a3 (.lst ((lts (p - 1)).map V.str))=H3 at s3 k3 k13 k23 ⊢
 refine cat_goS k23 k3 (by rw [lts_len,lts_len];omega) fun a4 ha4=>?_
 have s4:Same H3 (upd H3 a4 (.lst ((lts (p+2 - 1)++lts (p - 1)).map V.str))):=Same.new ha4
 have k4:upd H3 a4 (.lst ((lts (p+2 - 1)++lts (p - 1)).map V.str)) a4=some (.lst ((lts (p+2 - 1)++lts (p - 1)).map V.str)):=upd_same
 have k14:=s4 _ _ k13
 generalize upd H3 a4 (.lst ((lts (p+2 - 1)++lts (p - 1)).map V.str))=H4 at s4 k4 k14 ⊢
 refine ⟨_,SqL.of k14,fun a5 ha5=>?_⟩
 rw [cut_lo (l:=lts (p+2)) (j:=1) (v:=-1) rfl (by decide) (by rw [lts_len];omega),lts_len,lts_drop,show p+2 - (p+2 - 1)=1 by omega]
 have s5:Same H4 (upd H4 a5 (.lst (((List.range' (p+2 - 1) 1).map lt).map V.str))):=Same.new ha5
 have k5:upd H4 a5 (.lst (((List.range' (p+2 - 1) 1).map lt).map V.str)) a5=some (.lst (((List.range' (p+2 - 1) 1).map lt).map V.str)):=upd_same
 have k15:=s5 _ _ k14
 have k45:=s5 _ _ k4
 generalize upd H4 a5 (.lst (((List.range' (p+2 - 1) 1).map lt).map V.str))=H5 at s5 k5 k15 k45 ⊢
 refine cat_goS k45 k5 (by rw [List.length_append,lts_len,lts_len,List.length_map,List.length_range'];omega) fun a6 ha6=>?_
 have s6:Same H5 (upd H5 a6 (.lst ((lts (p+2 - 1)++lts (p - 1)++(List.range' (p+2 - 1) 1).map lt).map V.str))):=Same.new ha6
 have k6:upd H5 a6 (.lst ((lts (p+2 - 1)++lts (p - 1)++(List.range' (p+2 - 1) 1).map lt).map V.str)) a6=some (.lst ((lts (p+2 - 1)++lts (p - 1)++(List.range' (p+2 - 1) 1).map lt).map V.str)):=upd_same
 have k16:=s6 _ _ k15
 generalize upd H5 a6 (.lst ((lts (p+2 - 1)++lts (p - 1)++(List.range' (p+2 - 1) 1).map lt).map V.str))=H6 at s6 k6 k16 ⊢
 refine cat_goS k6 k16 (by rw [List.length_append,List.length_append,lts_len,lts_len,lts_len,List.length_map,List.length_range'];omega) fun a7 ha7=>?_
 have sA:=((((s1.trans s2).trans s3).trans s4).trans s5).trans s6
 exact q a7 _ (sA.trans (Same.new ha7)) (same_none sA ha7) upd_same
theorem Z7g{f:Addr}{fd:FuncData}(F:Fun K "row_of_pairs" "row_of_pairs" Z2m f fd)(T:Txt K mg xU0 xU1 xU2 Z3 Z1 Z2 Z4 Z7 Z8 Z6 Z5 Zc Z9 Z0 xmake_oldest xmake_first xmake_halving xmake_farthest xmake_hand xmake_rows xmake_dues xrow_of_rounds xrow_of_pairs Za Zb):FnOk P w K mg base (CXF P w) 2 f fd ["places"] (sp66_row .ro):=by
 have sc:FnScope ["places","names","row","name"] ["places"] (defScope Z2m):=by walk_at "sc"
 refine F.okF sc (fun vs H Q E h=>?_) (fun cdv A outer s H vs Q E hr h=>?_)
 · obtain ⟨_,rfl,_⟩:=h;rfl
 obtain ⟨p,rfl,h1,h2,q⟩:=h
 refine ⟨_,(@pss_cons _ _ _ _ _ (ps_set (i:=1) sc.nd rfl (Or.inl rfl) (pe_callTy (call_listS rfl) rfl T.Z29 (by first | rfl | decide+kernel) (pa_cons (pe_slice sl_str (pe_gstr rfl T.Z0d) po_none (po_some (pe_op op_add (pv 0) pe_int))) pa_nil)))
  (@pss_cons _ _ _ _ _ (ps_set (i:=2) sc.nd rfl (Or.inl rfl) (@pe_lst _ _ _ _ pa_nil))
  (@pss_cons _ _ _ _ _ (ps_for own_outF rfl (pi_list (pe_slice sl_list (pv 1) po_none (po_some (pe_op op_add (pv 0) pe_int)))) (pg_name (i:=3) sc.nd rfl (Or.inl rfl))
   (@pss_one _ _ _ (ps_expr (pe_bm PySem.F.plainAttrs_list PySem.F.slot_list_extend PySem.F.type_list_extend mt_extend (pv 2) (pa_cons (@pe_lst _ _ _ _ (pa_cons (pv 3) (pa_cons (pv 3) pa_nil))) pa_nil)))))
  (@pss_one _ _ _ (@ps_ret _ _ _ _ (pe_op op_cat (pe_op op_cat (pe_op op_cat (pv 2) (pe_op op_rep (pe_slice sl_list (pv 1) (po_some (pe_un un_neg pe_int)) (po_some (pe_un un_neg pe_int))) pe_int)) (pe_slice sl_list (pv 1) po_none (po_some pe_int))) (pe_op op_rep (pe_slice sl_list (pv 1) (po_some (pe_un un_neg pe_int)) po_none) pe_int))))))),?_⟩
 walk_at "st"
 have line:=line_val
 walk_at "go"
 have hk:((p:Int)+5)=((p+5:Nat):Int)∧True:=⟨by omega,trivial⟩
 have hk2:p+5≤26:=by omega
 rw [hk.1,let_cut hk2]
 refine ⟨by have:=let_size hk2;omega,fun n0 hn0=>?_⟩
 have s1:Same H (upd H n0 (.lst ((lts (p+5)).map V.str))):=Same.new hn0
 have k1:upd H n0 (.lst ((lts (p+5)).map V.str)) n0=some (.lst ((lts (p+5)).map V.str)):=upd_same
 generalize upd H n0 (.lst ((lts (p+5)).map V.str))=H1 at s1 k1 ⊢
 clear hk
 rename_i rest hrest
 subst hrest
 walk_at "go"
 intro rw hrw
 have s2:Same H1 (upd H1 rw (.lst [])):=Same.new hrw
 have k2:upd H1 rw (.lst []) rw=some (.lst ((dbl (lts 0)).map V.str)):=upd_same
 have k12:=s2 _ _ k1
 have hrw0:=same_none s1 hrw
 have nn0:n0≠rw:=ne_of_none k1 hrw
 generalize upd H1 rw (.lst [])=H2 at s2 k2 k12 ⊢
 rename_i rest hrest
 subst hrest
 walk_at "go"
 refine ⟨_,SqL.of k12,fun a3 ha3=>?_⟩
 have hp1:((p:Int)+1)=((p+1:Nat):Int)∧True:=⟨by omega,trivial⟩
 rw [hp1.1,cut_hi (l:=lts (p+5)) (by rw [lts_len];omega),lts_take (show p+1≤p+5 by omega)]
 clear hp1
 have s3:Same H2 (upd H2 a3 (.lst ((lts (p+1)).map V.str))):=Same.new ha3
 have k3:upd H2 a3 (.lst ((lts (p+1)).map V.str)) a3=some (.lst ((lts (p+1)).map V.str)):=upd_same
 have k13:=s3 _ _ k12
 have k23:=s3 _ _ k2
 generalize upd H2 a3 (.lst ((lts (p+1)).map V.str))=H3 at s3 k3 k13 k23 ⊢
 have sA:=(s1.trans s2).trans s3
 have na3:a3≠rw:=(ne_of_none k2 ha3).symm
 clear s1 s2 s3 k1 k12 k2 hn0 hrw
 refine ⟨⟨_,SqL.of k3⟩,?_⟩
 rename_i rest hrest
 refine forL_by (xs:=(lts (p+1)).map V.str) (fun i σ H'=>∃v3:Option V,σ=[some (V.int (p:Int)),some (V.ref n0),some (V.ref rw),v3]∧Same H H'∧H' a3=some (.lst ((lts (p+1)).map V.str))∧H' n0=some (.lst ((lts (p+5)).map V.str))∧H' rw=some (.lst ((dbl (lts i)).map V.str))∧a3≠rw∧n0≠rw) ⟨none,rfl,sA,k3,k13,k23,na3,nn0⟩ (fun i σ H' _ ⟨_,_,_,h,_⟩=>SqL.of h) ?_ ?_
 · clear hrest k3 k13 k23 sA
   rintro i u σ H' hu ⟨v3,rfl,sm,k3,k13,k23,na3,nn0⟩
   rw [List.getElem?_map]at hu
   cases hz:(lts (p+1))[i]? with
   | none=>rw [hz]at hu;cases hu
   | some z=>
   rw [hz]at hu
   cases hu
   have hi:=(List.getElem?_eq_some_iff.mp hz).1
   rw [lts_len]at hi
   rw [lts_get hi]at hz
   cases hz
   walk_at "go"
   refine ⟨.inl ⟨rfl,_,SqL.of k23⟩,by omega,fun p2 hp2=>?_⟩
   have n23:=ne_of_none k23 hp2
   have hl2:(dbl (lts i)).length≤100:=by rw [dbl_len,lts_len];omega
   refine ⟨rw,p2,_,_,rfl,rfl,by rw [upd_ne n23];exact k23,upd_same,by rw [List.length_map];show _+2≤_;omega,?_⟩
   have smp:Same H' (upd H' p2 (.lst [V.str (lt i),V.str (lt i)])):=Same.new hp2
   exact ⟨same_upd (sm.trans smp) hrw0,by rw [upd_ne na3];exact smp _ _ k3,by rw [upd_ne nn0];exact smp _ _ k13,by rw [upd_same,dbl_succ,List.map_append];rfl,na3,nn0⟩
 · rintro σ H' ⟨v3,rfl,sm,k3,k13,k23,na3,nn0⟩
   rw [List.length_map,lts_len]at k23
   subst hrest
   walk_at "go"
   have hlN:(dbl (lts (p+1))).length≤100:=by rw [dbl_len,lts_len];omega
   refine ⟨_,SqL.of k13,fun b1 hb1=>?_⟩
   rw [cut_mid (l:=lts (p+5)) (i:=4) (j:=2) (u:=-4) (v:=-2) rfl rfl (by decide) (by decide) (by rw [lts_len];omega),lts_len,lts_drop,show p+5 - (p+5 - 4)=4 by omega]
   rw [show ((List.range' (p+5 - 4) 4).map lt).take (4 - 2)=[lt (p+1),lt (p+2)] from rfl]
   have s5:Same H' (upd H' b1 (.lst ([lt (p+1),lt (p+2)].map V.str))):=Same.new hb1
   have k5:upd H' b1 (.lst ([lt (p+1),lt (p+2)].map V.str)) b1=some (.lst ([lt (p+1),lt (p+2)].map V.str)):=upd_same
   have k15:=s5 _ _ k13
   have k25:=s5 _ _ k23
   generalize upd H' b1 (.lst ([lt (p+1),lt (p+2)].map V.str))=H5 at s5 k5 k15 k25 ⊢
   refine ⟨_,k5,by decide,by decide,by show 2 * 2≤_;omega,fun b2 hb2=>?_⟩
   rw [show (List.replicate 2 ([lt (p+1),lt (p+2)].map V.str)).flatten=([lt (p+1),lt (p+2),lt (p+1),lt (p+2)]:List Str).map V.str from rfl]
   have s6:Same H5 (upd H5 b2 (.lst ([lt (p+1),lt (p+2),lt (p+1),lt (p+2)].map V.str))):=Same.new hb2
   have k6:upd H5 b2 (.lst ([lt (p+1),lt (p+2),lt (p+1),lt (p+2)].map V.str)) b2=some (.lst ([lt (p+1),lt (p+2),lt (p+1),lt (p+2)].map V.str)):=upd_same
   have k16:=s6 _ _ k15
   have k26:=s6 _ _ k25
   generalize upd H5 b2 (.lst ([lt (p+1),lt (p+2),lt (p+1),lt (p+2)].map V.str))=H6 at s6 k6 k16 k26 ⊢
   refine cat_goS k26 k6 (by show _+4≤_;omega) fun b3 hb3=>?_
   have s7:Same H6 (upd H6 b3 (.lst ((dbl (lts (p+1))++[lt (p+1),lt (p+2),lt (p+1),lt (p+2)]).map V.str))):=Same.new hb3
   have k7:upd H6 b3 (.lst ((dbl (lts (p+1))++[lt (p+1),lt (p+2),lt (p+1),lt (p+2)]).map V.str)) b3=some (.lst ((dbl (lts (p+1))++[lt (p+1),lt (p+2),lt (p+1),lt (p+2)]).map V.str)):=upd_same
   have k17:=s7 _ _ k16
   generalize upd H6 b3 (.lst ((dbl (lts (p+1))++[lt (p+1),lt (p+2),lt (p+1),lt (p+2)]).map V.str))=H7 at s7 k7 k17 ⊢
   refine ⟨_,SqL.of k17,fun b4 hb4=>?_⟩
   rw [show (1:Int)=((1:Nat):Int) from rfl,cut_hi (l:=lts (p+5)) (by rw [lts_len];omega),lts_take (show 1≤p+5 by omega)]
   have s8:Same H7 (upd H7 b4 (.lst ((lts 1).map V.str))):=Same.new hb4
   have k8:upd H7 b4 (.lst ((lts 1).map V.str)) b4=some (.lst ((lts 1).map V.str)):=upd_same
   have k18:=s8 _ _ k17
   have k78:=s8 _ _ k7
   generalize upd H7 b4 (.lst ((lts 1).map V.str))=H8 at s8 k8 k18 k78 ⊢
   refine cat_goS k78 k8 (by rw [List.length_append,lts_len];show _+4+1≤_;omega) fun b5 hb5=>?_
   have s9:Same H8 (upd H8 b5 (.lst ((dbl (lts (p+1))++[lt (p+1),lt (p+2),lt (p+1),lt (p+2)]++lts 1).map V.str))):=Same.new hb5
   have k9:upd H8 b5 (.lst ((dbl (lts (p+1))++[lt (p+1),lt (p+2),lt (p+1),lt (p+2)]++lts 1).map V.str)) b5=some (.lst ((dbl (lts (p+1))++[lt (p+1),lt (p+2),lt (p+1),lt (p+2)]++lts 1).map V.str)):=upd_same
   have k19:=s9 _ _ k18
   generalize upd H8 b5 (.lst ((dbl (lts (p+1))++[lt (p+1),lt (p+2),lt (p+1),lt (p+2)]++lts 1).map V.str))=H9 at s9 k9 k19 ⊢
   refine ⟨_,SqL.of k19,fun b6 hb6=>?_⟩
   rw [cut_lo (l:=lts (p+5)) (j:=2) (v:=-2) rfl (by decide) (by rw [lts_len];omega),lts_len,lts_drop,show p+5 - (p+5 - 2)=2 by omega]
   rw [show (List.range' (p+5 - 2) 2).map lt=[lt (p+3),lt (p+4)] from rfl]
   have s10:Same H9 (upd H9 b6 (.lst ([lt (p+3),lt (p+4)].map V.str))):=Same.new hb6
   have k10:upd H9 b6 (.lst ([lt (p+3),lt (p+4)].map V.str)) b6=some (.lst ([lt (p+3),lt (p+4)].map V.str)):=upd_same
   have k9A:=s10 _ _ k9
   generalize upd H9 b6 (.lst ([lt (p+3),lt (p+4)].map V.str))=H10 at s10 k10 k9A ⊢
   refine ⟨_,k10,by decide,by decide,by show 2 * 2≤_;omega,fun b7 hb7=>?_⟩
   rw [show (List.replicate 2 ([lt (p+3),lt (p+4)].map V.str)).flatten=([lt (p+3),lt (p+4),lt (p+3),lt (p+4)]:List Str).map V.str from rfl]
   have s11:Same H10 (upd H10 b7 (.lst ([lt (p+3),lt (p+4),lt (p+3),lt (p+4)].map V.str))):=Same.new hb7
   have k11:upd H10 b7 (.lst ([lt (p+3),lt (p+4),lt (p+3),lt (p+4)].map V.str)) b7=some (.lst ([lt (p+3),lt (p+4),lt (p+3),lt (p+4)].map V.str)):=upd_same
   have k9B:=s11 _ _ k9A
   generalize upd H10 b7 (.lst ([lt (p+3),lt (p+4),lt (p+3),lt (p+4)].map V.str))=H11 at s11 k11 k9B ⊢
   refine cat_goS k9B k11 (by rw [List.length_append,List.length_append,lts_len];show _+4+1+4≤_;omega) fun b8 hb8=>?_
   have sE:=((((((sm.trans s5).trans s6).trans s7).trans s8).trans s9).trans s10).trans s11
   exact q b8 _ (sE.trans (Same.new hb8)) (same_none sE hb8) upd_same
theorem Z8t{f:Addr}{fd:FuncData}(F:Fun K "worse_row" "worse_row" Z46 f fd)(T:Txt K mg xU0 xU1 xU2 Z3 Z1 Z2 Z4 Z7 Z8 Z6 Z5 Zc Z9 Z0 xmake_oldest xmake_first xmake_halving xmake_farthest xmake_hand xmake_rows xmake_dues xrow_of_rounds xrow_of_pairs Za Zb)(Zh:Def P w K mg base (CXF P w) 2 "is_within" ["thing","least","most"] (N53.sp53_within K))(Z11:Def P w K mg base (CXF P w) 2 "row_of_rounds" ["places"] (sp66_row .fi))(Z2r:Def P w K mg base (CXF P w) 2 "row_of_pairs" ["places"] (sp66_row .ro))(D_w0:KTab w.params K Zb "first" (some (.ref xU0)))(D_w1:KTab w.params K Zb "hand" (some (.ref xU1)))(D_w2:KTab w.params K Zb "rows" (some (.ref xU2)))(D_u0:∀H:Hp,SqT K H xU0 [V.int 3,V.ref xrow_of_rounds])(D_u1:∀H:Hp,SqT K H xU1 [V.int 3,V.ref xrow_of_rounds])(D_u2:∀H:Hp,SqT K H xU2 [V.int 2,V.ref xrow_of_pairs])(D_wn:∀z∈texts67,KTab w.params K Zb z none):FnOk P w K mg base (CXF P w) 3 f fd ["word","places"] (sp67_worse (Ex5.mk Z4 Z7 Z8 Z1 Z2)):=by
 have sc:FnScope ["word","places","least","make"] ["word","places"] (defScope Z46):=by walk_at "sc"
 refine F.okF sc (fun vs H Q E h=>?_) (fun cdv A outer s H vs Q E hr h=>?_)
 · obtain ⟨_,_,rfl,_⟩:=h;rfl
 obtain ⟨wd,v,rfl,hw,hv,q,qe⟩:=h
 refine ⟨_,(@pss_cons _ _ _ _ _ (ps_if (PW.pt (pw_or (pt_not (pt_val (pe_callB call_isinst rfl T.Zo (by first | rfl | decide+kernel) (pa_cons (pv 0) (pa_cons (pe_bltn (v:= .ty "str") rfl T.Z4v (by first | rfl | decide+kernel) rfl) pa_nil))))) (pw_or1 (pt_cmp (pc_knin (pv 0) (pe_glob (v:= .ref Zb) rfl T.Z7l rfl))))))
  (@pss_one _ _ _ (ps_raiseF T.Zc8 rfl T.k_NoRule rfl rfl T.Zc7 raisesF (pa_cons pe_str pa_nil)))
  pss_nil)
  (@pss_cons _ _ _ _ _ (ps_set (i:=2) sc.nd rfl (Or.inl rfl) (@pe_ix _ _ _ _ _ _ _ ix_tup (pe_kget (pe_glob (v:= .ref Zb) rfl T.Z7l rfl) (pv 0) (fun _ _=>rfl)) pe_int (fun _ _=>rfl)))
  (@pss_cons _ _ _ _ _ (ps_if (pt_not (pt_val (pe_callD Zh hr rfl pass_onF (pa_cons (pv 1) (pa_cons (pv 2) (pa_cons (pe_gint rfl T.Z0g) pa_nil))))))
   (@pss_one _ _ _ (ps_raiseF T.Z28 rfl T.k_NoNumber rfl rfl T.Z27 raisesF (pa_cons (pe_fstr (pj_cons pe_str (pj_cons (pe_fmt (pv 2)) (pj_cons pe_str (pj_cons (pe_fmt (pe_gint rfl T.Z0g)) pj_nil))))) pa_nil)))
   pss_nil)
  (@pss_cons _ _ _ _ _ (ps_set (i:=3) sc.nd rfl (Or.inl rfl) (@pe_ix _ _ _ _ _ _ _ ix_tup (pe_kget (pe_glob (v:= .ref Zb) rfl T.Z7l rfl) (pv 0) (fun _ _=>rfl)) pe_int (fun _ _=>rfl)))
  (@pss_one _ _ _ (@ps_ret _ _ _ _ (pe_callF (fa:=(rfa xrow_of_rounds xrow_of_pairs)) (nm:=Wr.rn) (sp:=sp66_row) (fun w=>by cases w;exact Z11;exact Z11;exact Z2r) (fun w=>by cases w;exact T.Z3x;exact T.Z3x;exact T.Z7k) hr pass_onF (pv 3) (pa_cons (pv 1) pa_nil)))))))),?_⟩
 walk_at "st"
 have line:=line_val
 have l0:=len_empty
 cases wd with
 | n=>
  show tSeq _ _ _ [some V.non,_,_,_] _
  walk_at "go"
  exact fun x hx=>⟨hx,qe _ x (Same.new hx) hx upd_same⟩
 | t z=>
  show tSeq _ _ _ [some (V.str z),_,_,_] _
  walk_at "go"
  refine ⟨_,D_wn z hw,?_⟩
  rw [if_pos (by rfl)]
  exact ⟨by omega,fun x hx=>⟨hx,qe _ x (Same.new hx) hx upd_same⟩⟩
 | r w3=>
  cases w3 with
  | fi=>
   show tSeq _ _ _ [some (V.str (Str.ofString "first")),_,_,_] _
   walk_at "go"
   refine ⟨_,D_w0,?_⟩
   rw [if_neg (by simp)]
   rename_i rest hrest
   subst hrest
   walk_at "go"
   refine ⟨_,D_w0,ixT_of (D_u0 _) (v:=V.int 3) (atI_nat (j:=0) rfl) ?_⟩
   rename_i rest hrest
   subst hrest
   walk_at "go"
   refine ⟨N53.NumV.flat hv,?_⟩
   split
   · rename_i h
     have l1:(Str.ofString "such a row is told of a whole number of places from ").length≤100:=by decide+kernel
     have l2:(Str.ofString (toString (3:Int))).length≤100:=by decide+kernel
     have l3:(Str.ofString " to ").length≤100:=by decide+kernel
     have l4:(Str.ofString (toString (20:Int))).length≤100:=by decide+kernel
     have e:worseD (.r .fi) v= .num:=if_neg (fun k=>by rw [show wIn 3 20 v=true from k]at h;cases h)
     rw [e]at qe
     exact ⟨by rw [len_app];omega,by decide,by rw [len_app,len_app];omega,by rw [len_app,len_app,len_app];omega,by decide,by rw [len_app,len_app,len_app,len_app];omega,by rw [len_app,len_app,len_app,len_app];omega,by omega,fun x hx=>⟨hx,qe _ x (Same.new hx) hx upd_same⟩⟩
   rename_i rest hrest h
   obtain ⟨p,rfl,hp1,hp2⟩:=N53.wIn_one (show wIn 3 20 v=true by simpa using h)
   obtain ⟨p,rfl⟩:∃k:Nat,p=(k:Int):=⟨p.toNat,by omega⟩
   subst hrest
   walk_at "go"
   refine ⟨_,D_w0,ixT_of (D_u0 _) (v:=V.ref xrow_of_rounds) (atI_nat (j:=1) rfl) ?_⟩
   rename_i rest hrest
   subst hrest
   walk_at "go"
   refine ⟨Wr.fi,rfl,p,rfl,by omega,by omega,fun a H' sm _ _=>q (if_pos (N53.wIn_is hp1 hp2)) _ H' sm⟩
  | hd=>
   show tSeq _ _ _ [some (V.str (Str.ofString "hand")),_,_,_] _
   walk_at "go"
   refine ⟨_,D_w1,?_⟩
   rw [if_neg (by simp)]
   rename_i rest hrest
   subst hrest
   walk_at "go"
   refine ⟨_,D_w1,ixT_of (D_u1 _) (v:=V.int 3) (atI_nat (j:=0) rfl) ?_⟩
   rename_i rest hrest
   subst hrest
   walk_at "go"
   refine ⟨N53.NumV.flat hv,?_⟩
   split
   · rename_i h
     have l1:(Str.ofString "such a row is told of a whole number of places from ").length≤100:=by decide+kernel
     have l2:(Str.ofString (toString (3:Int))).length≤100:=by decide+kernel
     have l3:(Str.ofString " to ").length≤100:=by decide+kernel
     have l4:(Str.ofString (toString (20:Int))).length≤100:=by decide+kernel
     have e:worseD (.r .hd) v= .num:=if_neg (fun k=>by rw [show wIn 3 20 v=true from k]at h;cases h)
     rw [e]at qe
     exact ⟨by rw [len_app];omega,by decide,by rw [len_app,len_app];omega,by rw [len_app,len_app,len_app];omega,by decide,by rw [len_app,len_app,len_app,len_app];omega,by rw [len_app,len_app,len_app,len_app];omega,by omega,fun x hx=>⟨hx,qe _ x (Same.new hx) hx upd_same⟩⟩
   rename_i rest hrest h
   obtain ⟨p,rfl,hp1,hp2⟩:=N53.wIn_one (show wIn 3 20 v=true by simpa using h)
   obtain ⟨p,rfl⟩:∃k:Nat,p=(k:Int):=⟨p.toNat,by omega⟩
   subst hrest
   walk_at "go"
   refine ⟨_,D_w1,ixT_of (D_u1 _) (v:=V.ref xrow_of_rounds) (atI_nat (j:=1) rfl) ?_⟩
   rename_i rest hrest
   subst hrest
   walk_at "go"
   refine ⟨Wr.hd,rfl,p,rfl,by omega,by omega,fun a H' sm _ _=>q (if_pos (N53.wIn_is hp1 hp2)) _ H' sm⟩
  | ro=>
   show tSeq _ _ _ [some (V.str (Str.ofString "rows")),_,_,_] _
   walk_at "go"
   refine ⟨_,D_w2,?_⟩
   rw [if_neg (by simp)]
   rename_i rest hrest
   subst hrest
   walk_at "go"
   refine ⟨_,D_w2,ixT_of (D_u2 _) (v:=V.int 2) (atI_nat (j:=0) rfl) ?_⟩
   rename_i rest hrest
   subst hrest
   walk_at "go"
   refine ⟨N53.NumV.flat hv,?_⟩
   split
   · rename_i h
     have l1:(Str.ofString "such a row is told of a whole number of places from ").length≤100:=by decide+kernel
     have l2:(Str.ofString (toString (2:Int))).length≤100:=by decide+kernel
     have l3:(Str.ofString " to ").length≤100:=by decide+kernel
     have l4:(Str.ofString (toString (20:Int))).length≤100:=by decide+kernel
     have e:worseD (.r .ro) v= .num:=if_neg (fun k=>by rw [show wIn 2 20 v=true from k]at h;cases h)
     rw [e]at qe
     exact ⟨by rw [len_app];omega,by decide,by rw [len_app,len_app];omega,by rw [len_app,len_app,len_app];omega,by decide,by rw [len_app,len_app,len_app,len_app];omega,by rw [len_app,len_app,len_app,len_app];omega,by omega,fun x hx=>⟨hx,qe _ x (Same.new hx) hx upd_same⟩⟩
   rename_i rest hrest h
   obtain ⟨p,rfl,hp1,hp2⟩:=N53.wIn_one (show wIn 2 20 v=true by simpa using h)
   obtain ⟨p,rfl⟩:∃k:Nat,p=(k:Int):=⟨p.toNat,by omega⟩
   subst hrest
   walk_at "go"
   refine ⟨_,D_w2,ixT_of (D_u2 _) (v:=V.ref xrow_of_pairs) (atI_nat (j:=1) rfl) ?_⟩
   rename_i rest hrest
   subst hrest
   walk_at "go"
   refine ⟨Wr.ro,rfl,p,rfl,by omega,by omega,fun a H' sm _ _=>q (if_pos (N53.wIn_is hp1 hp2)) _ H' sm⟩
theorem Z8u{f:Addr}{fd:FuncData}(F:Fun K "_law_cell_at" "_law_cell_at" Z47 f fd)(T:Txt K mg xU0 xU1 xU2 Z3 Z1 Z2 Z4 Z7 Z8 Z6 Z5 Zc Z9 Z0 xmake_oldest xmake_first xmake_halving xmake_farthest xmake_hand xmake_rows xmake_dues xrow_of_rounds xrow_of_pairs Za Zb):FnOk P w K mg base (CXF P w) 1 f fd ["_law_script","_law_k"] (sp_cell K):=by
 have sc:FnScope ["_law_script","_law_k"] ["_law_script","_law_k"] (defScope Z47):=by walk_at "sc"
 refine F.okF sc (fun vs H Q E h=>?_) (fun cdv A outer s H vs Q E hr h=>?_)
 · obtain ⟨_,_,_,rfl,_⟩:=h;rfl
 obtain ⟨a,ns,k,rfl,hS,h0,hl,q⟩:=h
 refine ⟨_,(@pss_cons _ _ _ _ _ (ps_if (pt_cmpR op_lt (pv 1) (pe_callB call_len_seq rfl T.Z0o PySem.boot_len (pa_cons (pv 0) pa_nil)) (nomark _))
  (@pss_one _ _ _ (@ps_ret _ _ _ _ (@pe_ix _ _ _ _ _ _ _ ix_list (pv 0) (pv 1) (fun _ _=>rfl))))
  pss_nil)
  (@pss_one _ _ _ (@ps_ret _ _ _ _ pe_int))),?_⟩
 walk_at "st"
 walk_at "go"
 rw [List.length_map]
 split
 · rename_i hk
   exact ixL_of hS (atI_of h0 (getMap (by omega))) q
 · rename_i hk
   rw [List.getD_eq_getElem?_getD,List.getElem?_eq_none (by omega)]at q
   walk_at "go"
   exact q
theorem Z9t{f:Addr}{fd:FuncData}(F:Fun K "_law_names" "_law_names" Z5y f fd)(T:Txt K mg xU0 xU1 xU2 Z3 Z1 Z2 Z4 Z7 Z8 Z6 Z5 Zc Z9 Z0 xmake_oldest xmake_first xmake_halving xmake_farthest xmake_hand xmake_rows xmake_dues xrow_of_rounds xrow_of_pairs Za Zb):FnOk P w K mg base (CXF P w) 1 f fd ["_law_cell","_law_many"] (sp41_names):=by
 have sc:FnScope ["_law_cell","_law_many","_law_signs","_law_size","_law_at","_law_far","_law_names_here","_law_k","_law_name","_law_j"] ["_law_cell","_law_many"] (defScope Z5y):=by walk_at "sc"
 refine F.okF sc (fun vs H Q E h=>?_) (fun cdv A outer s H vs Q E hr h=>?_)
 · obtain ⟨_,_,rfl,_⟩:=h;rfl
 obtain ⟨i,m,rfl,hm,q⟩:=h
 refine ⟨_,(@pss_cons _ _ _ _ _ (ps_set (i:=2) sc.nd rfl (Or.inl rfl) pe_str)
  (@pss_cons _ _ _ _ _ (ps_set (i:=3) sc.nd rfl (Or.inl rfl) (pe_op op_add pe_int (pe_op op_mod (pv 0) pe_int)))
  (@pss_cons _ _ _ _ _ (ps_set (i:=4) sc.nd rfl (Or.inl rfl) (pe_op op_mod (pe_op op_fdiv (pv 0) pe_int) (pv 3)))
  (@pss_cons _ _ _ _ _ (ps_set (i:=5) sc.nd rfl (Or.inl rfl) (pe_op op_mod (pe_op op_fdiv (pv 0) pe_int) pe_int))
  (@pss_cons _ _ _ _ _ (ps_set (i:=6) sc.nd rfl (Or.inl rfl) (@pe_lst _ _ _ _ pa_nil))
  (@pss_cons _ _ _ _ _ (ps_for own_outF rfl (pi_range1 rfl T.Z24 (pa_cons (pv 1) pa_nil)) (pg_name (i:=7) sc.nd rfl (Or.inl rfl))
   (@pss_cons _ _ _ _ _ (ps_set (i:=8) sc.nd rfl (Or.inl rfl) (pe_op op_mulS (@pe_ix _ _ _ _ _ _ _ ix_str (pv 2) (pe_op op_mod (pe_op op_add (pv 5) (pe_op op_fdiv (pv 7) pe_int)) pe_int) (fun _ _=>rfl)) (pe_op op_add pe_int (pe_op op_mod (pv 7) pe_int))))
   (@pss_cons _ _ _ _ _ (ps_if (pt_cmpR op_gt (pe_op op_mod (pe_op op_fdiv (pv 0) pe_int) pe_int) pe_int (nomark _))
    (@pss_cons _ _ _ _ _ (ps_set (i:=8) sc.nd rfl (Or.inl rfl) (@pe_ix _ _ _ _ _ _ _ ix_str (pv 2) (pe_op op_mod (pe_op op_add (pv 5) (pe_op op_mulB (pv 7) (pe_callTy call_int1 rfl T.Z3a (by first | rfl | decide+kernel) (pa_cons (pe_cmpR op_eq (pv 4) pe_int (nomark _)) pa_nil)))) pe_int) (fun _ _=>rfl)))
    (@pss_one _ _ _ (ps_for own_outF rfl (pi_range2 rfl T.Z24 (pa_cons pe_int (pa_cons (pv 3) pa_nil))) (pg_name (i:=9) sc.nd rfl (Or.inl rfl))
     (@pss_one _ _ _ (ps_set (i:=8) sc.nd rfl (Or.inl rfl) (pe_op op_add_str (pv 8) (@pe_ix _ _ _ _ _ _ _ ix_str (pv 2) (pe_op op_mod (pe_op op_add (pe_op op_add (pv 5) (pe_op op_mul pe_int (pv 9))) (pe_op op_mulB (pv 7) (pe_callTy call_int1 rfl T.Z3a (by first | rfl | decide+kernel) (pa_cons (pe_cmpR op_eq (pv 9) (pv 4) (nomark _)) pa_nil)))) pe_int) (fun _ _=>rfl))))))))
    pss_nil)
   (@pss_one _ _ _ (ps_expr (pe_bm PySem.F.plainAttrs_list PySem.F.slot_list_append PySem.F.type_list_append mt_append (pv 6) (pa_cons (pv 8) pa_nil)))))))
  (@pss_one _ _ _ (@ps_ret _ _ _ _ (pv 6))))))))),?_⟩
 walk_at "st"
 have line:=line_val
 have bl:=both_length
 have hL1:1≤(1+i % 8).toNat:=by omega
 have hL8:(1+i % 8).toNat≤8:=by omega
 have h8:(1+i % 8)=((1+i % 8).toNat:Int):=by omega
 walk_at "go"
 rw [h8]
 clear h8
 generalize (1+i % 8).toNat=L at hL1 hL8 ⊢
 have ha0:=Int.emod_nonneg (i / 8) (show (L:Int)≠0 by omega)
 have ha1:=Int.emod_lt_of_pos (i / 8) (show (0:Int) < L by omega)
 walk_at "go"
 generalize i / 8 % (L:Int)=at' at ha0 ha1 ⊢
 have hf0:=Int.emod_nonneg (i / 192) (show (26:Int)≠0 by decide)
 generalize i / 192 % 26=fr at hf0 ⊢
 intro p hp
 walk_at "go"
 refine forR_by (fun k σ H'=>∃(v7 v8 v9:Option V),σ=[some (V.int i),some (V.int m),some (V.str (Str.ofString "abcdefghijklmnopqrstuvwxyz0123456789")),some (V.int L),some (V.int at'),some (V.int fr),some (V.ref p),v7,v8,v9]∧H'=upd H p (.lst ((nmsB (decide (0 < i / 64 % 3)) fr at' L k).map V.str))) ⟨none,none,none,rfl,rfl⟩ ?_ ?_
 · rintro k σ H' hk ⟨v7,v8,v9,rfl,rfl⟩
   have hlen:((nmsB (decide (0 < i / 64 % 3)) fr at' L k).map V.str).length=k:=by simp [nmsB]
   walk_at "go"
   refine ixS_of (by omega) (ix_bc _ (by decide) (by decide)) ?_
   walk_at "go"
   refine ⟨mul_okR (by omega) (by omega),?_⟩
   rw [mul_rep (by omega),show (1+(k:Int) % 8).toNat=1+k % 8 by omega]
   rename_i rest hrest
   subst hrest
   walk_at "go"
   rename_i rest hrest
   have key:∀(z:List Nat) (w9:Option V),nmB (decide (0 < i / 64 % 3)) fr at' L k=z→rest [some (V.int i),some (V.int m),some (V.str (Str.ofString "abcdefghijklmnopqrstuvwxyz0123456789")),some (V.int L),some (V.int at'),some (V.int fr),some (V.ref p),some (V.int k),some (V.str (tx z)),w9] (upd H p (.lst ((nmsB (decide (0 < i / 64 % 3)) fr at' L k).map V.str))):=by
    intro z w9 hz
    rw [← hz]
    clear hz
    subst hrest
    walk_at "go"
    refine ⟨.inl ⟨rfl,_,SqL.of upd_same⟩,p,_,_,rfl,rfl,upd_same,by rw [hlen];omega,?_⟩
    walk_at "go"
    rw [nmsB_succ,List.map_append]
    rfl
   clear hrest
   split
   · rename_i hw
     have ew:nmB (decide (0 < i / 64 % 3)) fr at' L k=nmL (fun j:Nat=>fr+5 * (j:Int)) at' L k:=by unfold nmB;rw [decide_eq_true hw];rfl
     rw [ew]at key
     walk_at "go"
     refine ⟨⟨by omega,by split <;> decide⟩,by decide,ixS_of (by omega) (ix_bc _ (by decide) (by decide)) ?_⟩
     rw [T_one,← nmL_one]
     rename_i rest2 hrest2
     subst hrest2
     walk_at "go"
     refine forR_by (fun j σ H'=>∃(w9:Option V),σ=[some (V.int i),some (V.int m),some (V.str (Str.ofString "abcdefghijklmnopqrstuvwxyz0123456789")),some (V.int L),some (V.int at'),some (V.int fr),some (V.ref p),some (V.int k),some (V.str (tx (nmL (fun j:Nat=>fr+5 * (j:Int)) at' (1+j) k))),w9]∧H'=upd H p (.lst ((nmsB (decide (0 < i / 64 % 3)) fr at' L k).map V.str))) ⟨_,rfl,rfl⟩ ?_ ?_
     · rintro j σ H' hj ⟨w9,rfl,rfl⟩
       have hzl:(tx (nmL (fun j:Nat=>fr+5 * (j:Int)) at' (1+j) k)).length≤8:=by rw [T_len,nmL_l];omega
       rw [show 1+(j+1)=1+j+1 by omega,nmL_more]
       generalize nmL (fun j:Nat=>fr+5 * (j:Int)) at' (1+j) k=zl at hzl ⊢
       walk_at "go"
       refine ⟨⟨by omega,by split <;> decide⟩,by decide,ixS_of (by omega) (ix_bc _ (by decide) (by decide)) ⟨_,rfl,by rw [len_one];omega,?_,rfl⟩⟩
       rw [T_one,T_app]
     · rintro σ H' ⟨w9,rfl,rfl⟩
       rw [show 1+((L:Int) - 1).toNat=L by omega]
       exact key _ _ rfl
   · rename_i hw
     exact key _ _ (by unfold nmB;rw [if_neg (by simp;omega)];rfl)
 · rintro σ H' ⟨v7,v8,v9,rfl,rfl⟩
   walk_at "go"
   exact q p _ _ hp (Same.new hp) upd_same (by simp [nmsB]) (by simp [nmsB]) (nmsB_nodup ha0 ha1 (by omega)) (nmsB_name hL1 hL8)
theorem Z9u{f:Addr}{fd:FuncData}(F:Fun K "_law_mixed" "_law_mixed" Z5z f fd)(T:Txt K mg xU0 xU1 xU2 Z3 Z1 Z2 Z4 Z7 Z8 Z6 Z5 Zc Z9 Z0 xmake_oldest xmake_first xmake_halving xmake_farthest xmake_hand xmake_rows xmake_dues xrow_of_rounds xrow_of_pairs Za Zb):FnOk P w K mg base (CXF P w) 1 f fd ["_law_cell","_law_k"] (sp67_mixed):=by
 have sc:FnScope ["_law_cell","_law_k","_law_number_here"] ["_law_cell","_law_k"] (defScope Z5z):=by walk_at "sc"
 refine F.okF sc (fun vs H Q E h=>?_) (fun cdv A outer s H vs Q E hr h=>?_)
 · obtain ⟨_,_,rfl,_⟩:=h;rfl
 obtain ⟨c,kk,rfl,q⟩:=h
 refine ⟨_,(@pss_cons _ _ _ _ _ (ps_set (i:=2) sc.nd rfl (Or.inl rfl) (pe_op op_mod (pe_op op_mul (pe_op op_add (pv 0) (pe_op op_mul pe_int (pv 1))) pe_int) pe_int))
  (@pss_one _ _ _ (@ps_ret _ _ _ _ (pe_op op_mod (pe_op op_mulB (pv 2) (pv 2)) pe_int)))),?_⟩
 walk_at "st"
 have h0:=Int.emod_nonneg ((c+7919 * kk) * 48271) (show (2147483647:Int)≠0 by decide)
 have h1:=Int.emod_lt_of_pos ((c+7919 * kk) * 48271) (show (0:Int) < 2147483647 by decide)
 walk_at "go"
 exact ⟨⟨by omega,by omega⟩,by decide,q _⟩
theorem Z64{f:Addr}{fd:FuncData}(F:Fun K "_law_within_bounds" "_law_within_bounds" Z1n f fd)(T:Txt K mg xU0 xU1 xU2 Z3 Z1 Z2 Z4 Z7 Z8 Z6 Z5 Zc Z9 Z0 xmake_oldest xmake_first xmake_halving xmake_farthest xmake_hand xmake_rows xmake_dues xrow_of_rounds xrow_of_pairs Za Zb):FnOk P w K mg base (CXF P w) 1 f fd ["_law_number_here","_law_least","_law_most"] (sp_within K):=by
 have sc:FnScope ["_law_number_here","_law_least","_law_most"] ["_law_number_here","_law_least","_law_most"] (defScope Z1n):=by walk_at "sc"
 refine F.okF sc (fun vs H Q E h=>?_) (fun cdv A outer s H vs Q E hr h=>?_)
 · obtain ⟨_,_,_,rfl,_⟩:=h;rfl
 obtain ⟨v,lo,hi,rfl,hv,q⟩:=h
 refine ⟨_,(@pss_one _ _ _ (@ps_ret _ _ _ _ (pe_and (pe_callB call_isinst rfl T.Zo (by first | rfl | decide+kernel) (pa_cons (pv 0) (pa_cons (pe_bltn (v:= .ty "int") rfl T.Z3a (by first | rfl | decide+kernel) rfl) pa_nil))) (pe_and (pe_not (pe_callB call_isinst rfl T.Zo (by first | rfl | decide+kernel) (pa_cons (pv 0) (pa_cons (pe_bltn (v:= .ty "bool") rfl T.Z4t (by first | rfl | decide+kernel) rfl) pa_nil)))) (pe_one (pe_chain op_le op_le (pv 1) (pv 0) (pv 2))))))),?_⟩
 walk_at "st"
 walk_at "go"
 obtain ⟨b,c,h1,h2,h3,h4⟩:=N53.NumV.flat (K:=K) (H:=H) hv
 refine ⟨b,h1,?_⟩
 cases b with
 | false=>
  rw [if_neg (by decide)]
  rw [wIn_non (h4 rfl)]at q
  exact q
 | true=>
  rw [if_pos rfl]
  refine ⟨c,h2 rfl,?_⟩
  cases c with
  | true=>
   rw [if_neg (by decide)]
   rw [wIn_non (h4 rfl)]at q
   exact q
  | false=>
   rw [if_pos rfl]
   obtain ⟨i,rfl⟩:=h3 rfl
   refine ⟨i,rfl,?_⟩
   by_cases h:lo≤i
   · rw [if_pos h]
     rw [show wIn lo hi (V.int i)=decide (i≤hi) from by simp [wIn,h]]at q
     exact ⟨i,rfl,q⟩
   · rw [if_neg h]
     rw [show wIn lo hi (V.int i)=false from by simp [wIn,h]]at q
     exact q
theorem Z97{f:Addr}{fd:FuncData}(F:Fun K "_law_number" "_law_number" Z4z f fd)(T:Txt K mg xU0 xU1 xU2 Z3 Z1 Z2 Z4 Z7 Z8 Z6 Z5 Zc Z9 Z0 xmake_oldest xmake_first xmake_halving xmake_farthest xmake_hand xmake_rows xmake_dues xrow_of_rounds xrow_of_pairs Za Zb):FnOk P w K mg base (CXF P w) 1 f fd ["_law_cell","_law_most"] (sp67_number):=by
 have sc:FnScope ["_law_cell","_law_most","_law_some"] ["_law_cell","_law_most"] (defScope Z4z):=by walk_at "sc"
 refine F.okF sc (fun vs H Q E h=>?_) (fun cdv A outer s H vs Q E hr h=>?_)
 · obtain ⟨_,_,rfl,_⟩:=h;rfl
 obtain ⟨c,m,rfl,q⟩:=h
 refine ⟨_,(@pss_cons _ _ _ _ _ (@ps_set _ _ 2 _ _ _ _ sc.nd rfl (Or.inl rfl) (@pe_lst _ _ _ _ (@pa_consK _ _ _ _ _ _ _ pe_int (@pa_consK _ _ _ _ _ _ _ pe_int (@pa_consK _ _ _ _ _ _ _ pe_int (@pa_consK _ _ _ _ _ _ _ pe_int (pa_cons (pv 1) (@pa_consB _ _ _ _ _ _ _ _ (pe_op op_add (pv 1) pe_int) (@pa_consU _ _ _ _ _ _ _ (pe_un un_neg pe_int) (@pa_consK _ _ _ _ _ _ _ pe_bl (@pa_consK _ _ _ _ _ _ _ pe_non (@pa_consK _ _ _ _ _ _ _ pe_str (@pa_consB _ _ _ _ _ _ _ _ (pe_op op_add pe_int (pe_op op_mod (pe_op op_fdiv (pv 0) pe_int) pe_int)) pa_nil)))))))))))) (by rfl) (by first | exact .inl rfl | exact .inr rfl))
  (@pss_one _ _ _ (@ps_ret _ _ _ _ (@pe_ix _ _ _ _ _ _ _ ix_list (pv 2) (pe_op op_mod (pv 0) pe_int) (fun _ _=>rfl))))),?_⟩
 walk_at "st"
 have line:=line_val
 walk_at "go"
 intro p hp
 have s1:Same H (upd H p (.lst (num67 c m))):=Same.new hp
 have k1:upd H p (.lst (num67 c m)) p=some (.lst (num67 c m)):=upd_same
 rename_i rest hrest
 subst hrest
 walk_at "go"
 have h0:0≤c % 11∧c % 11 < 11:=⟨Int.emod_nonneg _ (by decide),Int.emod_lt_of_pos _ (by decide)⟩
 obtain ⟨v,hv1,hv2⟩:=num67_at (c:=c) (m:=m) h0.1 h0.2
 exact ixL_of (SqL.of k1) hv1 (q v _ s1 hv2)
theorem Z8v{f:Addr}{fd:FuncData}(F:Fun K "_law_refusal" "_law_refusal" Z48 f fd)(T:Txt K mg xU0 xU1 xU2 Z3 Z1 Z2 Z4 Z7 Z8 Z6 Z5 Zc Z9 Z0 xmake_oldest xmake_first xmake_halving xmake_farthest xmake_hand xmake_rows xmake_dues xrow_of_rounds xrow_of_pairs Za Zb)(Z0l:Def P w K mg base (CXF P w) 10 "first_lack" ["stock","asks","lesser","greater","make"] (sp67_lack K Z6 xmake_first (Ex5.mk Z4 Z7 Z8 Z1 Z2)))(Z4e:Def P w K mg base (CXF P w) 11 "first_row" ["make","many","long","lesser","greater"] (sp67_row xmake_first (Ex5.mk Z4 Z7 Z8 Z1 Z2)))(Z4f:Def P w K mg base (CXF P w) 3 "worse_row" ["word","places"] (sp67_worse (Ex5.mk Z4 Z7 Z8 Z1 Z2)))(Z4u:∀C i,(C,i)∈([(Z1,(Str.ofString "unknown")),(Z2,(Str.ofString "too wide")),(Z4,(Str.ofString "no number")),(Z7,(Str.ofString "too many")),(Z8,(Str.ofString "no rule"))]:List (Addr×Str))→DefMH P w K mg base (CXF P w) 1 C "word" ["self"] (sp67_word i)∧ExcG K C):FnOk P w K mg base (CXF P w) 12 f fd ["_law_way","_law_things"] (sp67_refusal K Z6 xmake_first):=by
 have sc:FnScope ["_law_way","_law_things","_law_told","e"] ["_law_way","_law_things"] (defScope Z48):=by walk_at "sc"
 refine F.okF sc (fun vs H Q E h=>?_) (fun cdv A outer s H vs Q E hr h=>?_)
 · obtain ⟨_,_,_,_,rfl,_⟩:=h;rfl
 obtain ⟨i,l,xs,d,rfl,hl,hA,q⟩:=h
 refine ⟨_,(@pss_cons _ _ _ _ _ (ps_set (i:=2) sc.nd rfl (Or.inl rfl) pe_non)
  (@pss_cons _ _ _ _ _ (ps_tryF rfl rfl (fun t hp=>(@pss_one _ _ _ (ps_if (pt_cmpR op_eq (pv 0) pe_int (nomark _))
   (@pss_one _ _ _ (ps_expr (pe_callE Z0l hr rfl hp (pa_cons (@pe_ix _ _ _ _ _ _ _ ix_list (pv 1) pe_int (fun _ _=>rfl)) (pa_cons (@pe_ix _ _ _ _ _ _ _ ix_list (pv 1) pe_int (fun _ _=>rfl)) (pa_cons (@pe_ix _ _ _ _ _ _ _ ix_list (pv 1) pe_int (fun _ _=>rfl)) (pa_cons (@pe_ix _ _ _ _ _ _ _ ix_list (pv 1) pe_int (fun _ _=>rfl)) (pa_cons (@pe_ix _ _ _ _ _ _ _ ix_list (pv 1) pe_int (fun _ _=>rfl)) pa_nil))))))))
   (@pss_one _ _ _ (ps_if (pt_cmpR op_eq (pv 0) pe_int (nomark _))
    (@pss_one _ _ _ (ps_expr (pe_callE Z4e hr rfl hp (pa_cons (@pe_ix _ _ _ _ _ _ _ ix_list (pv 1) pe_int (fun _ _=>rfl)) (pa_cons (@pe_ix _ _ _ _ _ _ _ ix_list (pv 1) pe_int (fun _ _=>rfl)) (pa_cons (@pe_ix _ _ _ _ _ _ _ ix_list (pv 1) pe_int (fun _ _=>rfl)) (pa_cons (@pe_ix _ _ _ _ _ _ _ ix_list (pv 1) pe_int (fun _ _=>rfl)) (pa_cons (@pe_ix _ _ _ _ _ _ _ ix_list (pv 1) pe_int (fun _ _=>rfl)) pa_nil))))))))
    (@pss_one _ _ _ (ps_expr (pe_callE Z4f hr rfl hp (pa_cons (@pe_ix _ _ _ _ _ _ _ ix_list (pv 1) pe_int (fun _ _=>rfl)) (pa_cons (@pe_ix _ _ _ _ _ _ _ ix_list (pv 1) pe_int (fun _ _=>rfl)) pa_nil))))))))))
   (ph_asF (i:=3) rfl sc.nd rfl rfl rfl T.Zbd (fun x=>(@pss_one _ _ _ (ps_set (i:=2) sc.nd rfl (Or.inl rfl) (pe_tup (pa_cons (pe_methH Z4u (hr.hm _) (passS pass_noF) (pv 3)) (pa_cons (pe_fldX (pv 3) rfl) (pa_cons (pe_fldX (pv 3) rfl) pa_nil))))))) (ph_asF (i:=3) rfl sc.nd rfl rfl rfl T.Zbe (fun x=>(@pss_one _ _ _ (ps_set (i:=2) sc.nd rfl (Or.inl rfl) (pe_tup (pa_cons (pe_methH Z4u (hr.hm _) (passS pass_noF) (pv 3)) (pa_cons (pe_fldX (pv 3) rfl) (pa_cons (pe_fldX (pv 3) rfl) pa_nil))))))) (ph_asF (i:=3) rfl sc.nd rfl rfl rfl T.Z93 (fun x=>(@pss_one _ _ _ (ps_set (i:=2) sc.nd rfl (Or.inl rfl) (pe_tup (pa_cons (pe_methH Z4u (hr.hm _) (passS pass_noF) (pv 3)) pa_nil))))) ph_nilF))))
  (@pss_one _ _ _ (@ps_ret _ _ _ _ (pv 2))))),?_⟩
 walk_at "st"
 have line:=line_val
 walk_at "go"
 cases hA with
 | @lack st a v u ts ys h1 h2 h3 h4 h5 h6 h7=>
  rw [if_pos rfl]
  refine ixL_of (SqL.of hl) (v:=V.ref st) (atI_nat (j:=0) rfl) (ixL_of (SqL.of hl) (v:=V.ref a) (atI_nat (j:=1) rfl) (ixL_of (SqL.of hl) (v:=v) (atI_nat (j:=2) rfl) (ixL_of (SqL.of hl) (v:=u) (atI_nat (j:=3) rfl) (ixL_of (SqL.of hl) (v:=V.ref xmake_first) (atI_nat (j:=4) rfl) ⟨st,rfl,a,rfl,rfl,ts,h1,h2,h3,ys,h4,h5,h6,h7,fun e r H' sm _=>q _ _ sm (.inl ⟨e,rfl⟩),?_⟩))))
  intro H' y sm hy er
  generalize hd:lackD ts v u ys=d at q er ⊢
  cases d with
  | no=>cases er
  | num=>
   refine ⟨y,rfl,false,T.Z12,?_⟩
   rw [if_neg (by decide)]
   refine ⟨false,T.Z13,?_⟩
   rw [if_neg (by decide)]
   refine ⟨true,T.Z0n,?_⟩
   rw [if_pos rfl]
   exact ⟨false,y,Z4,Str.ofString "no number",(.tail _ (.tail _ (.head _))),rfl,.inl er,by omega,fun p hp=>q _ _ (sm.trans (Same.new hp)) (.inr ⟨(fun z=>by cases z),p,rfl,upd_same⟩)⟩
  | many=>
   refine ⟨y,rfl,false,T.Z1k,?_⟩
   rw [if_neg (by decide)]
   refine ⟨false,T.Z1l,?_⟩
   rw [if_neg (by decide)]
   refine ⟨true,T.Z0y,?_⟩
   rw [if_pos rfl]
   exact ⟨false,y,Z7,Str.ofString "too many",(.tail _ (.tail _ (.tail _ (.head _)))),rfl,.inl er,by omega,fun p hp=>q _ _ (sm.trans (Same.new hp)) (.inr ⟨(fun z=>by cases z),p,rfl,upd_same⟩)⟩
  | rule=>
   refine ⟨y,rfl,false,T.Z1y,?_⟩
   rw [if_neg (by decide)]
   refine ⟨false,T.Z1z,?_⟩
   rw [if_neg (by decide)]
   refine ⟨true,T.Z14,?_⟩
   rw [if_pos rfl]
   exact ⟨false,y,Z8,Str.ofString "no rule",(.tail _ (.tail _ (.tail _ (.tail _ (.head _))))),rfl,.inl er,by omega,fun p hp=>q _ _ (sm.trans (Same.new hp)) (.inr ⟨(fun z=>by cases z),p,rfl,upd_same⟩)⟩
  | unk z i=>
   obtain ⟨dy,e1,e2⟩:=er
   refine ⟨y,rfl,true,T.Z1h,?_⟩
   rw [if_pos rfl]
   exact ⟨false,y,Z1,Str.ofString "unknown",(.head _),rfl,.inr ⟨dy,e1,_,e2,by rfl⟩,false,Z1,Z3,dy,e1,_,e2,T.Z06,T.Zt,_,unk_name,false,Z1,Z3,dy,e1,_,e2,T.Z06,T.Zr,_,unk_place,by omega,fun p hp=>q _ _ (sm.trans (Same.new hp)) (.inr ⟨(fun z=>by cases z),p,rfl,upd_same⟩)⟩
  | wide z i=>
   obtain ⟨dy,e1,e2⟩:=er
   refine ⟨y,rfl,false,T.Z1i,?_⟩
   rw [if_neg (by decide)]
   refine ⟨true,T.Z1j,?_⟩
   rw [if_pos rfl]
   exact ⟨false,y,Z2,Str.ofString "too wide",(.tail _ (.head _)),rfl,.inr ⟨dy,e1,_,e2,by rfl⟩,false,Z2,Z3,dy,e1,_,e2,T.Z07,T.Zu,_,unk_name,false,Z2,Z3,dy,e1,_,e2,T.Z07,T.Zs,_,unk_place,by omega,fun p hp=>q _ _ (sm.trans (Same.new hp)) (.inr ⟨(fun z=>by cases z),p,rfl,upd_same⟩)⟩
 | @row v0 v1 v u h1 h2 h3 h4=>
  rw [if_neg (by decide),if_pos rfl]
  refine ixL_of (SqL.of hl) (v:=V.ref xmake_first) (atI_nat (j:=0) rfl) (ixL_of (SqL.of hl) (v:=v0) (atI_nat (j:=1) rfl) (ixL_of (SqL.of hl) (v:=v1) (atI_nat (j:=2) rfl) (ixL_of (SqL.of hl) (v:=v) (atI_nat (j:=3) rfl) (ixL_of (SqL.of hl) (v:=u) (atI_nat (j:=4) rfl) ⟨rfl,h1,h2,h3,h4,fun e r H' sm=>q _ _ sm (.inl ⟨e,rfl⟩),?_⟩))))
  intro H' y sm hy er
  generalize hd:rowD v0 v1 v u=d at q er ⊢
  cases d with
  | no=>cases er
  | num=>
   refine ⟨y,rfl,false,T.Z12,?_⟩
   rw [if_neg (by decide)]
   refine ⟨false,T.Z13,?_⟩
   rw [if_neg (by decide)]
   refine ⟨true,T.Z0n,?_⟩
   rw [if_pos rfl]
   exact ⟨false,y,Z4,Str.ofString "no number",(.tail _ (.tail _ (.head _))),rfl,.inl er,by omega,fun p hp=>q _ _ (sm.trans (Same.new hp)) (.inr ⟨(fun z=>by cases z),p,rfl,upd_same⟩)⟩
  | many=>
   refine ⟨y,rfl,false,T.Z1k,?_⟩
   rw [if_neg (by decide)]
   refine ⟨false,T.Z1l,?_⟩
   rw [if_neg (by decide)]
   refine ⟨true,T.Z0y,?_⟩
   rw [if_pos rfl]
   exact ⟨false,y,Z7,Str.ofString "too many",(.tail _ (.tail _ (.tail _ (.head _)))),rfl,.inl er,by omega,fun p hp=>q _ _ (sm.trans (Same.new hp)) (.inr ⟨(fun z=>by cases z),p,rfl,upd_same⟩)⟩
  | rule=>
   refine ⟨y,rfl,false,T.Z1y,?_⟩
   rw [if_neg (by decide)]
   refine ⟨false,T.Z1z,?_⟩
   rw [if_neg (by decide)]
   refine ⟨true,T.Z14,?_⟩
   rw [if_pos rfl]
   exact ⟨false,y,Z8,Str.ofString "no rule",(.tail _ (.tail _ (.tail _ (.tail _ (.head _))))),rfl,.inl er,by omega,fun p hp=>q _ _ (sm.trans (Same.new hp)) (.inr ⟨(fun z=>by cases z),p,rfl,upd_same⟩)⟩
  | unk z i=>
   obtain ⟨dy,e1,e2⟩:=er
   refine ⟨y,rfl,true,T.Z1h,?_⟩
   rw [if_pos rfl]
   exact ⟨false,y,Z1,Str.ofString "unknown",(.head _),rfl,.inr ⟨dy,e1,_,e2,by rfl⟩,false,Z1,Z3,dy,e1,_,e2,T.Z06,T.Zt,_,unk_name,false,Z1,Z3,dy,e1,_,e2,T.Z06,T.Zr,_,unk_place,by omega,fun p hp=>q _ _ (sm.trans (Same.new hp)) (.inr ⟨(fun z=>by cases z),p,rfl,upd_same⟩)⟩
  | wide z i=>
   obtain ⟨dy,e1,e2⟩:=er
   refine ⟨y,rfl,false,T.Z1i,?_⟩
   rw [if_neg (by decide)]
   refine ⟨true,T.Z1j,?_⟩
   rw [if_pos rfl]
   exact ⟨false,y,Z2,Str.ofString "too wide",(.tail _ (.head _)),rfl,.inr ⟨dy,e1,_,e2,by rfl⟩,false,Z2,Z3,dy,e1,_,e2,T.Z07,T.Zu,_,unk_name,false,Z2,Z3,dy,e1,_,e2,T.Z07,T.Zs,_,unk_place,by omega,fun p hp=>q _ _ (sm.trans (Same.new hp)) (.inr ⟨(fun z=>by cases z),p,rfl,upd_same⟩)⟩
 | @worse wd v h1 h2=>
  rw [if_neg (by decide),if_neg (by decide)]
  refine ixL_of (SqL.of hl) (v:=wd.v) (atI_nat (j:=0) rfl) (ixL_of (SqL.of hl) (v:=v) (atI_nat (j:=1) rfl) ⟨wd,rfl,h1,h2,fun e r H' sm=>q _ _ sm (.inl ⟨e,rfl⟩),?_⟩)
  intro H' y sm hy er
  generalize hd:worseD wd v=d at q er ⊢
  cases d with
  | no=>cases er
  | num=>
   refine ⟨y,rfl,false,T.Z12,?_⟩
   rw [if_neg (by decide)]
   refine ⟨false,T.Z13,?_⟩
   rw [if_neg (by decide)]
   refine ⟨true,T.Z0n,?_⟩
   rw [if_pos rfl]
   exact ⟨false,y,Z4,Str.ofString "no number",(.tail _ (.tail _ (.head _))),rfl,.inl er,by omega,fun p hp=>q _ _ (sm.trans (Same.new hp)) (.inr ⟨(fun z=>by cases z),p,rfl,upd_same⟩)⟩
  | many=>
   refine ⟨y,rfl,false,T.Z1k,?_⟩
   rw [if_neg (by decide)]
   refine ⟨false,T.Z1l,?_⟩
   rw [if_neg (by decide)]
   refine ⟨true,T.Z0y,?_⟩
   rw [if_pos rfl]
   exact ⟨false,y,Z7,Str.ofString "too many",(.tail _ (.tail _ (.tail _ (.head _)))),rfl,.inl er,by omega,fun p hp=>q _ _ (sm.trans (Same.new hp)) (.inr ⟨(fun z=>by cases z),p,rfl,upd_same⟩)⟩
  | rule=>
   refine ⟨y,rfl,false,T.Z1y,?_⟩
   rw [if_neg (by decide)]
   refine ⟨false,T.Z1z,?_⟩
   rw [if_neg (by decide)]
   refine ⟨true,T.Z14,?_⟩
   rw [if_pos rfl]
   exact ⟨false,y,Z8,Str.ofString "no rule",(.tail _ (.tail _ (.tail _ (.tail _ (.head _))))),rfl,.inl er,by omega,fun p hp=>q _ _ (sm.trans (Same.new hp)) (.inr ⟨(fun z=>by cases z),p,rfl,upd_same⟩)⟩
  | unk z i=>
   obtain ⟨dy,e1,e2⟩:=er
   refine ⟨y,rfl,true,T.Z1h,?_⟩
   rw [if_pos rfl]
   exact ⟨false,y,Z1,Str.ofString "unknown",(.head _),rfl,.inr ⟨dy,e1,_,e2,by rfl⟩,false,Z1,Z3,dy,e1,_,e2,T.Z06,T.Zt,_,unk_name,false,Z1,Z3,dy,e1,_,e2,T.Z06,T.Zr,_,unk_place,by omega,fun p hp=>q _ _ (sm.trans (Same.new hp)) (.inr ⟨(fun z=>by cases z),p,rfl,upd_same⟩)⟩
  | wide z i=>
   obtain ⟨dy,e1,e2⟩:=er
   refine ⟨y,rfl,false,T.Z1i,?_⟩
   rw [if_neg (by decide)]
   refine ⟨true,T.Z1j,?_⟩
   rw [if_pos rfl]
   exact ⟨false,y,Z2,Str.ofString "too wide",(.tail _ (.head _)),rfl,.inr ⟨dy,e1,_,e2,by rfl⟩,false,Z2,Z3,dy,e1,_,e2,T.Z07,T.Zu,_,unk_name,false,Z2,Z3,dy,e1,_,e2,T.Z07,T.Zs,_,unk_place,by omega,fun p hp=>q _ _ (sm.trans (Same.new hp)) (.inr ⟨(fun z=>by cases z),p,rfl,upd_same⟩)⟩
theorem Z8f{f:Addr}{fd:FuncData}(F:Fun K "_law_lack_due" "_law_lack_due" Z3p f fd)(T:Txt K mg xU0 xU1 xU2 Z3 Z1 Z2 Z4 Z7 Z8 Z6 Z5 Zc Z9 Z0 xmake_oldest xmake_first xmake_halving xmake_farthest xmake_hand xmake_rows xmake_dues xrow_of_rounds xrow_of_pairs Za Zb)(Ze:Def P w K mg base (CXF P w) 1 "_law_within_bounds" ["_law_number_here","_law_least","_law_most"] (sp_within K)):FnOk P w K mg base (CXF P w) 2 f fd ["_law_asks_here","_law_rooms","_law_lesser","_law_greater"] (sp67_ldue K):=by
 have sc:FnScope ["_law_asks_here","_law_rooms","_law_lesser","_law_greater","_law_at","_law_name"] ["_law_asks_here","_law_rooms","_law_lesser","_law_greater"] (defScope Z3p):=by walk_at "sc"
 refine F.okF sc (fun vs H Q E h=>?_) (fun cdv A outer s H vs Q E hr h=>?_)
 · obtain ⟨_,_,_,_,_,_,rfl,_⟩:=h;rfl
 obtain ⟨a,e,v,u,ts,ys,rfl,ha,hl,he,hv,hu,q⟩:=h
 refine ⟨_,(@pss_cons _ _ _ _ _ (ps_if (pt_not (pt_val (pe_callD Ze hr rfl pass_onF (pa_cons (pv 2) (pa_cons pe_int (pa_cons (pe_op op_pow pe_int pe_int) pa_nil))))))
  (@pss_one _ _ _ (@ps_ret _ _ _ _ (pe_tup (pa_cons pe_str pa_nil))))
  pss_nil)
  (@pss_cons _ _ _ _ _ (ps_if (pt_cmpR op_gt (pe_callB call_len_seq rfl T.Z0o PySem.boot_len (pa_cons (pv 0) pa_nil)) pe_int (nomark _))
   (@pss_one _ _ _ (@ps_ret _ _ _ _ (pe_tup (pa_cons pe_str pa_nil))))
   pss_nil)
  (@pss_cons _ _ _ _ _ (ps_for own_outF rfl (pi_enum rfl T.Z0e (pa_cons (pv 0) pa_nil)) (pg_tup rfl (pgs_cons (pg_name (i:=4) sc.nd rfl (Or.inl rfl)) (pgs_cons (pg_name (i:=5) sc.nd rfl (Or.inl rfl)) pgs_nil)))
   (@pss_cons _ _ _ _ _ (ps_if (pt_cmp (pc_dnotin (hu_of hr) (pv 5) (pv 1)))
    (@pss_one _ _ _ (@ps_ret _ _ _ _ (pe_tup (pa_cons pe_str (pa_cons (pv 5) (pa_cons (pv 4) pa_nil))))))
    pss_nil)
   (@pss_one _ _ _ (ps_if (pt_cmpR op_gt (pe_dget (hu_of hr) (pv 1) (pv 5) (fun _ _=>rfl)) (pv 2) (nomark _))
    (@pss_one _ _ _ (@ps_ret _ _ _ _ (pe_tup (pa_cons pe_str (pa_cons (pv 5) (pa_cons (pv 4) pa_nil))))))
    pss_nil))))
  (@pss_cons _ _ _ _ _ (ps_if (pt_not (pt_val (pe_callD Ze hr rfl pass_onF (pa_cons (pv 3) (pa_cons (pv 2) (pa_cons (pe_op op_pow pe_int pe_int) pa_nil))))))
   (@pss_one _ _ _ (@ps_ret _ _ _ _ (pe_tup (pa_cons pe_str pa_nil))))
   pss_nil)
  (@pss_one _ _ _ (@ps_ret _ _ _ _ pe_non)))))),?_⟩
 walk_at "st"
 have line:=line_val
 have e6:(10:Int) ^ 6=1000000:=rfl
 have fin:∀(w:Str) (d:Du) (H':Hp),d≠ .no→d.tl=[.str w]→lackD ts v u ys=d→Same H H'→∀t,H' t=none→Q (.ref t) (upd H' t (.tup [.str w])):=fun w d H' hd hw e sm t ht=>q _ _ (sm.trans (Same.new ht)) (.inr ⟨by rw [e];exact hd,t,rfl,by rw [e,hw];exact upd_same⟩)
 walk_at "go"
 simp only [e6]
 split
 · rename_i h
   exact ⟨by omega,fin "no number" .num H (fun h=>by cases h) rfl (if_neg (by rw [h];decide)) (Same.refl _)⟩
 rename_i rest hrest hw
 replace hw:wIn 1 1000000 v=true:=by simpa using hw
 obtain ⟨n,rfl,hn1,hn2⟩:=N53.wIn_one hw
 subst hrest
 walk_at "go"
 rw [List.length_map]
 split
 · rename_i h
   exact ⟨by omega,fin "too many" .many H (fun h=>by cases h) rfl (by unfold lackD;rw [if_pos hw,if_pos (by omega)]) (Same.refl _)⟩
 rename_i rest hrest h2
 subst hrest
 have e0:∀r,(match bad ts n ys 0 with | some (true,z,i)=>Du.unk z i | some (false,z,i)=>Du.wide z i | none=>if wIn n 1000000 u=true then .no else .num)=r→lackD ts (.int n) u ys=r:=fun r h=>by unfold lackD;rw [if_pos hw,if_neg (by omega)];exact h
 walk_at "go"
 refine ⟨⟨_,ha⟩,?_⟩
 rename_i rest hrest
 refine forE_by (xs:=ys.map V.str) (fun i σ H'=>∃(v4 v5:Option V),σ=[some (V.ref a),some (V.ref e),some (V.int n),some u,v4,v5]∧Same H H'∧bad ts n ys 0=bad ts n (ys.drop i) i) ⟨none,none,rfl,Same.refl _,by rw [List.drop_zero]⟩ (fun i σ H' _ h_=>by obtain ⟨v3,v4,_,sm,_⟩:=h_;exact sm.seq ha) ?_ ?_
 · rintro i x σ H' t hx ⟨v4,v5,rfl,sm,hbd⟩ ht
   rw [List.getElem?_map]at hx
   cases hy:ys[i]? with
   | none=>rw [hy]at hx;cases hx
   | some y=>
    rw [hy]at hx
    cases hx
    rw [bad_step hy]at hbd
    walk_at "go"
    refine ⟨_,SqT.of upd_same,rfl,_,_,rfl,_,_,rfl,rfl,?_⟩
    have sm2:=sm.trans (Same.new (o:= .tup [.int i,.str y]) ht)
    generalize upd H' t (.tup [.int i,.str y])=H2 at sm2 ⊢
    clear sm ht
    have he2:=he.same sm2
    walk_at "go"
    refine ⟨_,he2.get,?_⟩
    rw [rm_is]
    by_cases hin:y∈ts.map (·.1)
    · rw [if_neg (by simpa using hin)]
      rw [if_pos hin]at hbd
      walk_at "go"
      refine ⟨.int (rmOf ts y),by rw [← rm_some hin];exact he2.get,_,rfl,?_⟩
      split
      · rename_i hwd
        rw [if_pos hwd]at hbd
        have ed:=e0 _ (show _=Du.wide y i by rw [hbd])
        walk_at "go"
        exact fun t ht=>q _ _ (sm2.trans (Same.new ht)) (.inr ⟨(by rw [ed];intro z;cases z),t,rfl,by rw [ed];exact upd_same⟩)
      · rename_i hwd
        rw [if_neg hwd]at hbd
        exact ⟨sm2,hbd⟩
    · rw [if_pos (by simpa using hin)]
      rw [if_neg hin]at hbd
      have ed:=e0 _ (show _=Du.unk y i by rw [hbd])
      walk_at "go"
      exact fun t ht=>q _ _ (sm2.trans (Same.new ht)) (.inr ⟨(by rw [ed];intro z;cases z),t,rfl,by rw [ed];exact upd_same⟩)
 · rintro σ H' ⟨v4,v5,rfl,sm,hbd⟩
   rw [List.length_map,List.drop_length]at hbd
   subst hrest
   walk_at "go"
   simp only [e6]
   have ed:=e0 _ (show _=(if wIn n 1000000 u=true then Du.no else .num) by rw [hbd];rfl)
   split
   · rename_i h
     rw [if_neg (by rw [h];decide)]at ed
     exact ⟨by omega,fin "no number" .num H' (fun h=>by cases h) rfl ed sm⟩
   rename_i rest hrest h
   rw [if_pos (by simpa using h)]at ed
   subst hrest
   walk_at "go"
   exact q _ _ sm (.inl ⟨ed,rfl⟩)
theorem Z8w{f:Addr}{fd:FuncData}(F:Fun K "_law_row_due" "_law_row_due" Z49 f fd)(T:Txt K mg xU0 xU1 xU2 Z3 Z1 Z2 Z4 Z7 Z8 Z6 Z5 Zc Z9 Z0 xmake_oldest xmake_first xmake_halving xmake_farthest xmake_hand xmake_rows xmake_dues xrow_of_rounds xrow_of_pairs Za Zb)(Ze:Def P w K mg base (CXF P w) 1 "_law_within_bounds" ["_law_number_here","_law_least","_law_most"] (sp_within K)):FnOk P w K mg base (CXF P w) 2 f fd ["_law_numbers"] (sp67_rdue):=by
 have sc:FnScope ["_law_numbers"] ["_law_numbers"] (defScope Z49):=by walk_at "sc"
 refine F.okF sc (fun vs H Q E h=>?_) (fun cdv A outer s H vs Q E hr h=>?_)
 · obtain ⟨_,_,_,_,_,rfl,_⟩:=h;rfl
 obtain ⟨l,v0,v1,v,u,rfl,hl,h0,h1,hv,hu,q⟩:=h
 refine ⟨_,(@pss_cons _ _ _ _ _ (ps_if (PW.pt (pw_or (pt_not (pt_val (pe_callD Ze hr rfl pass_onF (pa_cons (@pe_ix _ _ _ _ _ _ _ ix_list (pv 0) pe_int (fun _ _=>rfl)) (pa_cons pe_int (pa_cons pe_int pa_nil)))))) (pw_or1 (pt_not (pt_val (pe_callD Ze hr rfl pass_onF (pa_cons (@pe_ix _ _ _ _ _ _ _ ix_list (pv 0) pe_int (fun _ _=>rfl)) (pa_cons pe_int (pa_cons pe_int pa_nil)))))))))
  (@pss_one _ _ _ (@ps_ret _ _ _ _ (pe_tup (pa_cons pe_str pa_nil))))
  pss_nil)
  (@pss_cons _ _ _ _ _ (ps_if (PW.pt (pw_or (pt_not (pt_val (pe_callD Ze hr rfl pass_onF (pa_cons (@pe_ix _ _ _ _ _ _ _ ix_list (pv 0) pe_int (fun _ _=>rfl)) (pa_cons pe_int (pa_cons (pe_op op_pow pe_int pe_int) pa_nil)))))) (pw_or1 (pt_not (pt_val (pe_callD Ze hr rfl pass_onF (pa_cons (@pe_ix _ _ _ _ _ _ _ ix_list (pv 0) pe_int (fun _ _=>rfl)) (pa_cons (@pe_ix _ _ _ _ _ _ _ ix_list (pv 0) pe_int (fun _ _=>rfl)) (pa_cons (pe_op op_pow pe_int pe_int) pa_nil)))))))))
   (@pss_one _ _ _ (@ps_ret _ _ _ _ (pe_tup (pa_cons pe_str pa_nil))))
   pss_nil)
  (@pss_one _ _ _ (@ps_ret _ _ _ _ pe_non)))),?_⟩
 walk_at "st"
 have line:=line_val
 have e6:(10:Int) ^ 6=1000000:=rfl
 have fin:∀(H':Hp),rowD v0 v1 v u= .num→Same H H'→∀t,H' t=none→Q (.ref t) (upd H' t (.tup [.str "no number"])):=fun H' e sm t ht=>q _ _ (sm.trans (Same.new ht)) (.inr ⟨(by rw [e];intro z;cases z),t,rfl,by rw [e];exact upd_same⟩)
 walk_at "go"
 refine ixL_of (SqL.of hl) (v:=v0) (atI_nat (j:=0) rfl) ⟨h0,?_⟩
 split
 · rename_i h
   exact ⟨by omega,fin H (if_neg (fun k=>by rw [k.1.1]at h;cases h)) (Same.refl _)⟩
 rename_i rest hrest w0
 refine ixL_of (SqL.of hl) (v:=v1) (atI_nat (j:=1) rfl) ⟨h1,?_⟩
 split
 · rename_i h
   exact ⟨by omega,fin H (if_neg (fun k=>by rw [k.1.2]at h;cases h)) (Same.refl _)⟩
 rename_i w1
 subst hrest
 walk_at "go"
 simp only [e6]
 refine ixL_of (SqL.of hl) (v:=v) (atI_nat (j:=2) rfl) ⟨cpow_of (by decide) (by decide) (by decide),hv,?_⟩
 split
 · rename_i h
   exact ⟨by omega,fin H (if_neg (fun k=>by rw [k.2.1]at h;cases h)) (Same.refl _)⟩
 rename_i rest hrest w2
 obtain ⟨n,rfl,hn1,hn2⟩:=N53.wIn_one (show wIn 1 1000000 v=true by simpa using w2)
 refine ixL_of (SqL.of hl) (v:=u) (atI_nat (j:=3) rfl) (ixL_of (SqL.of hl) (v:=V.int n) (atI_nat (j:=2) rfl) ⟨cpow_of (by decide) (by decide) (by decide),n,rfl,hu,?_⟩)
 split
 · rename_i h
   exact ⟨by omega,fin H (if_neg (fun k=>by rw [show wIn n 1000000 u=true from k.2.2]at h;cases h)) (Same.refl _)⟩
 rename_i w3
 subst hrest
 walk_at "go"
 exact q _ _ (Same.refl _) (.inl ⟨if_pos ⟨⟨by simpa using w0,by simpa using w1⟩,by simpa using w2,(show wIn n 1000000 u=true by simpa using w3)⟩,rfl⟩)
theorem Z7u{f:Addr}{fd:FuncData}(F:Fun K "_law_worse_due" "_law_worse_due" Z32 f fd)(T:Txt K mg xU0 xU1 xU2 Z3 Z1 Z2 Z4 Z7 Z8 Z6 Z5 Zc Z9 Z0 xmake_oldest xmake_first xmake_halving xmake_farthest xmake_hand xmake_rows xmake_dues xrow_of_rounds xrow_of_pairs Za Zb)(Ze:Def P w K mg base (CXF P w) 1 "_law_within_bounds" ["_law_number_here","_law_least","_law_most"] (sp_within K)):FnOk P w K mg base (CXF P w) 2 f fd ["_law_word","_law_places"] (sp67_wdue):=by
 have sc:FnScope ["_law_word","_law_places"] ["_law_word","_law_places"] (defScope Z32):=by walk_at "sc"
 refine F.okF sc (fun vs H Q E h=>?_) (fun cdv A outer s H vs Q E hr h=>?_)
 · obtain ⟨_,_,rfl,_⟩:=h;rfl
 obtain ⟨wd,v,rfl,hw,hv,q⟩:=h
 refine ⟨_,(@pss_cons _ _ _ _ _ (ps_if (pt_cmpR op_notIn_seq (pv 0) (@pe_lst _ _ _ _ (pa_cons pe_str (pa_cons pe_str (pa_cons pe_str pa_nil)))) (by with_unfolding_all rfl))
  (@pss_one _ _ _ (@ps_ret _ _ _ _ (pe_tup (pa_cons pe_str pa_nil))))
  pss_nil)
  (@pss_cons _ _ _ _ _ (ps_if (pt_not (pt_val (pe_callD Ze hr rfl pass_onF (pa_cons (pv 1) (pa_cons (pe_op op_sub pe_int (pe_callTy call_int1 rfl T.Z3a (by first | rfl | decide+kernel) (pa_cons (pe_cmpR op_eq (pv 0) pe_str (nomark _)) pa_nil))) (pa_cons pe_int pa_nil))))))
   (@pss_one _ _ _ (@ps_ret _ _ _ _ (pe_tup (pa_cons pe_str pa_nil))))
   pss_nil)
  (@pss_one _ _ _ (@ps_ret _ _ _ _ pe_non)))),?_⟩
 walk_at "st"
 have line:=line_val
 have fin:∀(w:Str) (d:Du) (H':Hp),d≠ .no→d.tl=[.str w]→worseD wd v=d→Same H H'→∀t,H' t=none→Q (.ref t) (upd H' t (.tup [.str w])):=fun w d H' hd hw e sm t ht=>q _ _ (sm.trans (Same.new ht)) (.inr ⟨by rw [e];exact hd,t,rfl,by rw [e,hw];exact upd_same⟩)
 walk_at "go"
 intro p hp
 have s1:Same H (upd H p (.lst [.str "first",.str "hand",.str "rows"])):=Same.new hp
 have k1:upd H p (.lst [.str "first",.str "hand",.str "rows"]) p=some (.lst ((["first","hand","rows"]:List Str).map V.str)):=upd_same
 cases wd with
 | n=>
  refine ⟨p,_,rfl,.inl (SqL.of k1),rfl,rfl,true,rfl,?_⟩
  rw [if_pos rfl]
  exact ⟨by omega,fin "no rule" .rule _ (fun h=>by cases h) rfl rfl s1⟩
 | t z=>
  refine ninT_go (ys:=["first","hand","rows"]) (SqL.of k1) ⟨_,rfl,?_⟩
  have e:decide (z∈(["first","hand","rows"]:List Str))=false:=by
   have hz:z∈texts67:=hw
   simp only [texts67,List.mem_cons,List.not_mem_nil,or_false]at hz
   rcases hz with e | e | e | e | e | e | e <;> rw [e] <;> decide+kernel
  rw [e,if_pos (by rfl)]
  exact ⟨by omega,fin "no rule" .rule _ (fun h=>by cases h) rfl rfl s1⟩
 | r w3=>
  refine ninT_go (ys:=["first","hand","rows"]) (SqL.of k1) ⟨_,rfl,?_⟩
  have e:decide (w3.s∈(["first","hand","rows"]:List Str))=true:=by cases w3 <;> decide+kernel
  rw [e,if_neg (by decide)]
  rename_i rest hrest
  subst hrest
  generalize upd H p (.lst [.str "first",.str "hand",.str "rows"])=H1 at s1 ⊢
  show tSeq _ _ _ [some (V.str w3.s),_] _
  walk_at "go"
  have e3:(3 - if w3.s=Str.ofString "rows" then 1 else 0:Int)=(w3.lo:Int):=by cases w3 <;> decide+kernel
  simp only [e3]
  split
  · rename_i h
    exact ⟨by omega,fin "no number" .num _ (fun h=>by cases h) rfl (if_neg (by rw [h];decide)) s1⟩
  rename_i rest hrest w2
  subst hrest
  walk_at "go"
  exact q _ _ s1 (.inl ⟨if_pos (by simpa using w2),rfl⟩)
theorem Zbm{f:Addr}{fd:FuncData}(F:Fun K "_law_asks" "_law_asks" Z6q f fd)(T:Txt K mg xU0 xU1 xU2 Z3 Z1 Z2 Z4 Z7 Z8 Z6 Z5 Zc Z9 Z0 xmake_oldest xmake_first xmake_halving xmake_farthest xmake_hand xmake_rows xmake_dues xrow_of_rounds xrow_of_pairs Za Zb)(Zi:Def P w K mg base (CXF P w) 1 "_law_cell_at" ["_law_script","_law_k"] (sp_cell K)):FnOk P w K mg base (CXF P w) 2 f fd ["_law_script","_law_names_here","_law_many"] (sp67_asks K):=by
 have sc:FnScope ["_law_script","_law_names_here","_law_many","_law_asks_here"] ["_law_script","_law_names_here","_law_many"] (defScope Z6q):=by walk_at "sc"
 refine F.okF sc (fun vs H Q E h=>?_) (fun cdv A outer s H vs Q E hr h=>?_)
 · obtain ⟨_,_,_,_,_,rfl,_⟩:=h;rfl
 obtain ⟨s,n,m,ns,nm,rfl,hS,hl,hN,hm,h1,h6,q⟩:=h
 refine ⟨_,(@pss_cons _ _ _ _ _ (ps_comp1 (i:=3) "_law_cell" [1,2] sc.nd rfl rfl rfl rfl (pi_list (pe_slice sl_list (pv 0) (po_some pe_int) (po_some pe_int))) (fun b=>(@pe_ix _ _ _ _ _ _ _ ix_list (pv 1) (pe_op op_mod (pv 0) (pv 2)) (fun _ _=>rfl))))
  (@pss_cons _ _ _ _ _ (ps_if (pt_cmpR op_eq (pe_op op_mod (pe_callD Zi hr rfl pass_onF (pa_cons (pv 0) (pa_cons pe_int pa_nil))) pe_int) pe_int (nomark _))
   (@pss_one _ _ _ (ps_set (i:=3) sc.nd rfl (Or.inl rfl) (pe_op op_rep (@pe_lst _ _ _ _ (pa_cons (@pe_ix _ _ _ _ _ _ _ ix_list (pv 1) pe_int (fun _ _=>rfl)) pa_nil)) pe_int)))
   pss_nil)
  (@pss_cons _ _ _ _ _ (ps_if (PW.pt (pw_and (pt_cmpR op_eq (pe_op op_mod (pe_callD Zi hr rfl pass_onF (pa_cons (pv 0) (pa_cons pe_int pa_nil))) pe_int) pe_int (nomark _)) (pw_and1 (pt_cmpR (op_neQ hr) (pv 3) (@pe_lst _ _ _ _ pa_nil) (nomark _)))))
   (@pss_one _ _ _ (ps_asg (@pe_ix _ _ _ _ _ _ _ ix_list (pv 1) (pv 2) (fun _ _=>rfl)) (pg_sub (pv 3) (pe_op op_mod (pe_op op_fdiv (pe_callD Zi hr rfl pass_onF (pa_cons (pv 0) (pa_cons pe_int pa_nil))) pe_int) (pe_callB call_len_seq rfl T.Z0o PySem.boot_len (pa_cons (pv 3) pa_nil))) set_list)))
   pss_nil)
  (@pss_one _ _ _ (@ps_ret _ _ _ _ (pv 3)))))),?_⟩
 walk_at "st"
 have line:=line_val
 walk_at "go"
 refine ⟨_,hS,fun p hp=>?_⟩
 obtain ⟨cs,hcs,hcl⟩:=cut_anyI ns (some 7) (some 67)
 rw [hcs]
 clear hcs
 have smc:Same H (upd H p (.lst (cs.map V.int))):=Same.new hp
 have hN1:=smc.seq hN
 have hS1:=smc.seq hS
 refine ⟨⟨_,SqL.of upd_same⟩,?_⟩
 refine compL_pure (ask1 nm m) (SqL.of upd_same) (by rw [List.length_map];omega) (fun b x H' Q' hx sm' q'=>?_) fun D7 hD7=>?_
 · obtain ⟨c,hc,rfl⟩:=List.mem_map.mp hx
   have hk0:=Int.emod_nonneg c (show (m:Int)≠0 by omega)
   have hk1:=Int.emod_lt_of_pos c (show (0:Int) < m by omega)
   walk_at "go"
   refine ixL_of (sm'.seq hN1) (v:=V.str (nm.getD (c % (m:Int)).toNat Str.empty)) ?_ q'
   rw [show c % (m:Int)=(((c % (m:Int)).toNat:Nat):Int) by omega,Int.toNat_natCast]
   exact atI_nat (by rw [List.getElem?_map,getD_s (by omega)];rfl)
 rw [ask1_list]
 have smD:=smc.trans (Same.new (o:= .lst ((cs.map (ask1S nm m)).map V.str)) hD7)
 have hD8:upd (upd H p (.lst (cs.map V.int))) D7 (.lst ((cs.map (ask1S nm m)).map V.str)) D7=some (.lst ((cs.map (ask1S nm m)).map V.str)):=upd_same
 have hl8:(cs.map (ask1S nm m)).length≤63:=by rw [List.length_map];omega
 generalize cs.map (ask1S nm m)=ys at smD hD8 hl8 ⊢
 generalize upd (upd H p (.lst (cs.map V.int))) D7 (.lst (ys.map V.str))=H1 at smD hD8 ⊢
 have hN2:=smD.seq hN
 have hS2:=smD.seq hS
 have hD0:H D7=none:=same_none smc hD7
 clear hN1 hS1 smc hD7
 rename_i rest hrest
 subst hrest
 walk_at "go"
 rename_i rest hrest
 have key:∀(D:Addr) (ys:List Str) (H2:Hp),Same H H2→H D=none→H2 D=some (.lst (ys.map V.str))→ys.length≤250→rest [some (V.ref s),some (V.ref n),some (V.int m),some (V.ref D)] H2:=by
  intro D ys H2 sm hD hD2 hyl
  subst hrest
  have hN3:=sm.seq hN
  have hS3:=sm.seq hS
  walk_at "go"
  rename_i rest hrest
  have fin:∀(H3:Hp) (zs:List Str),Same H H3→H3 D=some (.lst (zs.map V.str))→zs.length≤250→rest [some (V.ref s),some (V.ref n),some (V.int m),some (V.ref D)] H3:=by
   intro H3 zs sm3 hD3 hz
   subst hrest
   walk_at "go"
   exact q D zs H3 sm3 hD3 hz
  split
  · refine ⟨by omega,fun p1 hp1=>⟨_,eqQ_strs (xs:=ys) (ys:=[]) (SqL.of (by rw [upd_ne (ne_of_none hD2 hp1)];exact hD2)) (SqL.of upd_same),?_⟩⟩
    have sm3:Same H2 (upd H2 p1 (.lst [])):=Same.new hp1
    by_cases hy:ys=[]
    · rw [if_neg (by simp [hy])]
      exact fin _ ys (sm.trans sm3) (sm3 _ _ hD2) hyl
    · rw [if_pos (by simp [hy])]
      have hlp:0 < ys.length:=List.length_pos_iff.mpr hy
      obtain ⟨z,hz⟩:∃z,nm[m]?=some z:=⟨_,List.getElem?_eq_getElem (by omega)⟩
      have hD3:=sm3 _ _ hD2
      generalize upd H2 p1 (.lst [])=H3 at sm3 hD3 ⊢
      have hi0:=Int.emod_nonneg (ns.getD 6 0 / 4) (show (ys.length:Int)≠0 by omega)
      have hi1:=Int.emod_lt_of_pos (ns.getD 6 0 / 4) (show (0:Int) < ys.length by omega)
      refine ixL_of (sm3.seq hN3) (v:=V.str z) (atI_nat (by rw [List.getElem?_map,hz];rfl)) ⟨ns,sm3.seq hS3,by decide,hl,cdiv_of (by omega) (by omega),_,.inl (SqL.of hD3),by rw [List.length_map];omega,_,hD3,(ns.getD 6 0 / 4 % (ys.length:Int)).toNat,?_,?_⟩
      · rw [List.length_map]
        obtain ⟨k,hk⟩:∃k:Nat,ns.getD 6 0 / 4 % (ys.length:Int)=(k:Int):=⟨_,(Int.toNat_of_nonneg hi0).symm⟩
        rw [hk,Int.toNat_natCast]
        exact N12.ixN_at (by omega)
      · rw [← List.map_set]
        exact fin _ _ (same_upd (sm.trans sm3) hD) upd_same (by rw [List.length_set];exact hyl)
  · exact fin H2 ys sm hD2 hyl
 split
 · obtain ⟨z,hz⟩:∃z,nm[0]?=some z:=⟨_,List.getElem?_eq_getElem (by omega)⟩
   refine ixL_of hN2 (v:=V.str z) (atI_nat (j:=0) (by rw [List.getElem?_map,hz];rfl)) ⟨by omega,fun p1 hp1=>⟨_,upd_same,by decide,by decide,by show 1 * 201≤_;omega,fun p2 hp2=>?_⟩⟩
   have e:(List.replicate 201 [V.str z]).flatten=(List.replicate 201 z).map V.str:=rfl
   rw [e]
   have sm1:=Same.new (o:= .lst [V.str z]) hp1
   exact key p2 _ _ ((smD.trans sm1).trans (Same.new hp2)) (same_none (smD.trans sm1) hp2) upd_same (by rw [List.length_replicate];omega)
 · exact key D7 ys H1 smD hD0 hD8 (by omega)
theorem Zck{f:Addr}{fd:FuncData}(F:Fun K "law" "law" Z3b f fd)(T:Txt K mg xU0 xU1 xU2 Z3 Z1 Z2 Z4 Z7 Z8 Z6 Z5 Zc Z9 Z0 xmake_oldest xmake_first xmake_halving xmake_farthest xmake_hand xmake_rows xmake_dues xrow_of_rounds xrow_of_pairs Za Zb)(Zi:Def P w K mg base (CXF P w) 1 "_law_cell_at" ["_law_script","_law_k"] (sp_cell K))(Z65:Def P w K mg base (CXF P w) 1 "_law_names" ["_law_cell","_law_many"] (sp41_names))(Z66:Def P w K mg base (CXF P w) 1 "_law_mixed" ["_law_cell","_law_k"] (sp67_mixed))(Z0k:DefI P w K mg base (CXF P w) 4 "Stock" Z6 ["self","rows"] (sp_initG K Z6))(Z6x:Def P w K mg base (CXF P w) 2 "_law_asks" ["_law_script","_law_names_here","_law_many"] (sp67_asks K))(Z0p:Def P w K mg base (CXF P w) 1 "_law_number" ["_law_cell","_law_most"] (sp67_number))(Z51:Def P w K mg base (CXF P w) 2 "maker_of" ["word"] (sp67_maker xmake_first))(Z1u:Def P w K mg base (CXF P w) 12 "_law_refusal" ["_law_way","_law_things"] (sp67_refusal K Z6 xmake_first))(Z3v:Def P w K mg base (CXF P w) 2 "_law_lack_due" ["_law_asks_here","_law_rooms","_law_lesser","_law_greater"] (sp67_ldue K))(Z4g:Def P w K mg base (CXF P w) 2 "_law_row_due" ["_law_numbers"] (sp67_rdue))(Z38:Def P w K mg base (CXF P w) 2 "_law_worse_due" ["_law_word","_law_places"] (sp67_wdue)):FnOk P w K mg base (CXF P w) 13 f fd ["_law_script"] (sp_law K):=by
 have sc:FnScope ["_law_script","_law_many","_law_names_here","_law_rooms","_law_k","_law_stock","_law_asks_here","_law_lesser","_law_greater","_law_make","_law_numbers","_law_words","_law_word","_law_places"] ["_law_script"] (defScope Z3b):=by walk_at "sc"
 refine F.okF sc (fun vs H Q E h=>?_) (fun cdv A outer s H vs Q E hr h=>?_)
 · obtain ⟨_,_,rfl,_⟩:=h;rfl
 obtain ⟨a,ns,rfl,hS,hl,q⟩:=h
 refine ⟨_,(@pss_cons _ _ _ _ _ (ps_set (i:=1) sc.nd rfl (Or.inl rfl) (pe_op op_add pe_int (pe_op op_mod (pe_callD Zi hr rfl pass_onF (pa_cons (pv 0) (pa_cons pe_int pa_nil))) pe_int)))
  (@pss_cons _ _ _ _ _ (ps_set (i:=2) sc.nd rfl (Or.inl rfl) (pe_callD Z65 hr rfl pass_onF (pa_cons (pe_callD Zi hr rfl pass_onF (pa_cons (pv 0) (pa_cons pe_int pa_nil))) (pa_cons (pe_op op_add (pv 1) pe_int) pa_nil))))
  (@pss_cons _ _ _ _ _ (ps_set (i:=3) sc.nd rfl (Or.inr rfl) pe_dnewK)
  (@pss_cons _ _ _ _ _ (ps_for own_outF rfl (pi_range1 rfl T.Z24 (pa_cons (pv 1) pa_nil)) (pg_name (i:=4) sc.nd rfl (Or.inl rfl))
   (@pss_one _ _ _ (ps_dput (hu_of hr) (pv 3) (@pe_ix _ _ _ _ _ _ _ ix_list (pv 2) (pv 4) (fun _ _=>rfl)) (pe_op op_add pe_int (pe_op op_mod (pe_callD Z66 hr rfl pass_onF (pa_cons (pe_op op_fdiv (pe_callD Zi hr rfl pass_onF (pa_cons (pv 0) (pa_cons pe_int pa_nil))) pe_int) (pa_cons (pv 4) pa_nil))) pe_int)) rfl)))
  (@pss_cons _ _ _ _ _ (ps_set (i:=5) sc.nd rfl (Or.inl rfl) (pe_makeS Z0k hr rfl (passS pass_onF) (pa_cons (pe_comp1 "_law_name" [3] rfl rfl (pi_dict (pv 3)) (fun b=>(pe_tup (pa_cons (pv 0) (pa_cons pe_int (pa_cons (pe_dget (hu_of hr) (pv 1) (pv 0) (fun _ _=>rfl)) pa_nil)))))) pa_nil)))
  (@pss_cons _ _ _ _ _ (ps_set (i:=6) sc.nd rfl (Or.inl rfl) (pe_callD Z6x hr rfl pass_onF (pa_cons (pv 0) (pa_cons (pv 2) (pa_cons (pv 1) pa_nil)))))
  (@pss_cons _ _ _ _ _ (ps_set (i:=7) sc.nd rfl (Or.inl rfl) (pe_callD Z0p hr rfl pass_onF (pa_cons (pe_callD Zi hr rfl pass_onF (pa_cons (pv 0) (pa_cons pe_int pa_nil))) (pa_cons (pe_op op_pow pe_int pe_int) pa_nil))))
  (@pss_cons _ _ _ _ _ (ps_set (i:=8) sc.nd rfl (Or.inl rfl) (pe_callD Z0p hr rfl pass_onF (pa_cons (pe_callD Zi hr rfl pass_onF (pa_cons (pv 0) (pa_cons pe_int pa_nil))) (pa_cons (pe_op op_pow pe_int pe_int) pa_nil))))
  (@pss_cons _ _ _ _ _ (ps_set (i:=9) sc.nd rfl (Or.inl rfl) (pe_callD Z51 hr rfl pass_onF (pa_cons pe_str pa_nil)))
  (@pss_cons _ _ _ _ _ (ps_if (pt_cmpR (op_orR op_ne (op_neN 1 hr)) (pe_callD Z1u hr rfl pass_onF (pa_cons pe_int (pa_cons (@pe_lst _ _ _ _ (pa_cons (pv 5) (pa_cons (pv 6) (pa_cons (pv 7) (pa_cons (pv 8) (pa_cons (pv 9) pa_nil)))))) pa_nil))) (pe_callD Z3v hr rfl pass_onF (pa_cons (pv 6) (pa_cons (pv 3) (pa_cons (pv 7) (pa_cons (pv 8) pa_nil))))) (nomark _))
   (@pss_one _ _ _ (@ps_ret _ _ _ _ pe_bl))
   pss_nil)
  (@pss_cons _ _ _ _ _ (ps_set (i:=10) sc.nd rfl (Or.inl rfl) (@pe_lst _ _ _ _ (pa_cons (pe_callD Z0p hr rfl pass_onF (pa_cons (pe_callD Zi hr rfl pass_onF (pa_cons (pv 0) (pa_cons pe_int pa_nil))) (pa_cons pe_int pa_nil))) (pa_cons (pe_callD Z0p hr rfl pass_onF (pa_cons (pe_callD Zi hr rfl pass_onF (pa_cons (pv 0) (pa_cons pe_int pa_nil))) (pa_cons pe_int pa_nil))) (pa_cons (pv 7) (pa_cons (pv 8) pa_nil))))))
  (@pss_cons _ _ _ _ _ (ps_if (PW.pt (pw_and (pt_cmpR op_eq (pe_op op_mod (pe_op op_fdiv (pe_callD Zi hr rfl pass_onF (pa_cons (pv 0) (pa_cons pe_int pa_nil))) pe_int) pe_int) pe_int (nomark _)) (pw_and1 (pt_cmpR op_eqI (@pe_ix _ _ _ _ _ _ _ ix_list (pv 10) pe_int (fun _ _=>rfl)) pe_int (nomark _)))))
   (@pss_one _ _ _ (ps_asg pe_int (pg_sub (pv 10) pe_int set_list)))
   pss_nil)
  (@pss_cons _ _ _ _ _ (ps_if (pt_cmpR (op_orR op_ne (op_neN 1 hr)) (pe_callD Z1u hr rfl pass_onF (pa_cons pe_int (pa_cons (pe_op op_cat (@pe_lst _ _ _ _ (pa_cons (pv 9) pa_nil)) (pv 10)) pa_nil))) (pe_callD Z4g hr rfl pass_onF (pa_cons (pv 10) pa_nil)) (nomark _))
   (@pss_one _ _ _ (@ps_ret _ _ _ _ pe_bl))
   pss_nil)
  (@pss_cons _ _ _ _ _ (@ps_set _ _ 11 _ _ _ _ sc.nd rfl (Or.inl rfl) (@pe_lst _ _ _ _ (@pa_consK _ _ _ _ _ _ _ pe_str (@pa_consK _ _ _ _ _ _ _ pe_str (@pa_consK _ _ _ _ _ _ _ pe_str (@pa_consK _ _ _ _ _ _ _ pe_str (@pa_consK _ _ _ _ _ _ _ pe_str (@pa_consK _ _ _ _ _ _ _ pe_str (@pa_consK _ _ _ _ _ _ _ pe_str (@pa_consK _ _ _ _ _ _ _ pe_str (@pa_consK _ _ _ _ _ _ _ pe_str (@pa_consK _ _ _ _ _ _ _ pe_non (@pa_consK _ _ _ _ _ _ _ pe_str pa_nil)))))))))))) (by rfl) (by first | exact .inl rfl | exact .inr rfl))
  (@pss_cons _ _ _ _ _ (ps_set (i:=12) sc.nd rfl (Or.inl rfl) (@pe_ix _ _ _ _ _ _ _ ix_list (pv 11) (pe_op op_mod (pe_op op_fdiv (pe_callD Zi hr rfl pass_onF (pa_cons (pv 0) (pa_cons pe_int pa_nil))) pe_int) pe_int) (fun _ _=>rfl)))
  (@pss_cons _ _ _ _ _ (ps_set (i:=13) sc.nd rfl (Or.inl rfl) (pe_callD Z0p hr rfl pass_onF (pa_cons (pe_callD Zi hr rfl pass_onF (pa_cons (pv 0) (pa_cons pe_int pa_nil))) (pa_cons pe_int pa_nil))))
  (@pss_one _ _ _ (@ps_ret _ _ _ _ (pe_cmpR (op_orR op_eq (op_eqN 1 hr)) (pe_callD Z1u hr rfl pass_onF (pa_cons pe_int (pa_cons (@pe_lst _ _ _ _ (pa_cons (pv 12) (pa_cons (pv 13) pa_nil))) pa_nil))) (pe_callD Z38 hr rfl pass_onF (pa_cons (pv 12) (pa_cons (pv 13) pa_nil))) (nomark _)))))))))))))))))))),?_⟩
 walk_at "st"
 have line:=line_val
 walk_at "go"
 obtain ⟨m,hm⟩:∃m:Nat,(m:Int)=1+ns.getD 1 0 % 6:=⟨(1+ns.getD 1 0 % 6).toNat,by omega⟩
 have hm1:1≤m:=by omega
 have hm9:m≤6:=by omega
 rw [← hm]
 refine ⟨m+1,by omega,by omega,fun np ys H1 hnp sm1 hny hy1 hy2 ynd hyn=>?_⟩
 clear hm
 have hS1:=sm1.seq hS
 rename_i rest hrest
 subst hrest
 walk_at "go"
 intro ro hro
 have sm2:Same H1 (upd H1 ro (.dK [])):=Same.new hro
 have g1:upd H1 ro (.dK []) ro=some (.dK []):=upd_same
 generalize upd H1 ro (.dK [])=H2 at sm2 g1 ⊢
 rename_i rest hrest
 subst hrest
 walk_at "go"
 rename_i rest hrest
 refine forR_by (fun i σ H'=>∃(R:Str→Int) (v4:Option V),σ=[some (V.ref a),some (V.int m),some (V.ref np),some (V.ref ro),v4,none,none,none,none,none,none,none,none,none]∧Same H1 H'∧H' ro=some (.dK (kvN (ys.take i) R))∧(∀y∈ys.take i,1≤R y∧R y≤4)) ⟨fun _=>0,none,rfl,sm2,g1,fun y hy=>by cases hy⟩ ?_ ?_
 · clear hrest
   rintro i σ H' hi ⟨R,v4,rfl,sm,e5,e6⟩
   have hil:i < ys.length:=by omega
   have hny':=sm _ _ hny
   have htk:ys.take (i+1)=ys.take i++[ys.getD i Str.empty]:=by rw [List.take_succ,getD_s hil];rfl
   have hyn':ys.getD i Str.empty∉ys.take i:=fun h=>by
    have h2:(ys.take (i+1)).Nodup:=List.Nodup.sublist (List.take_sublist _ _) ynd
    rw [htk,List.nodup_append]at h2
    exact h2.2.2 _ h _ List.mem_cons_self rfl
   have hg:atI (ys.map V.str) (i:Int)=some (V.str (ys.getD i Str.empty)):=atI_nat (by rw [List.getElem?_map,getD_s hil];rfl)
   have hlen:(kvN (ys.take i) R).length≤9:=by rw [kvN_len,List.length_take];omega
   rw [htk]
   walk_at "go"
   refine ⟨ns,sm.seq hS1,by decide,hl,cdiv_of (by omega) (by omega),fun r=>⟨by decide,ixL_of (SqL.of hny') hg ?_⟩⟩
   obtain ⟨rv,hrv,hr0,hr1⟩:∃rv:Int,1+r % 4=rv∧1≤rv∧rv≤4:=⟨_,rfl,by omega,by omega⟩
   rw [hrv]
   have hputR:=DPut.k (k:=Sum.inr (ys.getD i Str.empty)) (v:=V.int rv) e5 (by omega)
   rw [kvN_snoc hyn']at hputR
   refine ⟨_,hputR,?_⟩
   refine ⟨same_upd sm hro,upF R (ys.getD i Str.empty) rv,upd_same,fun y hy=>?_⟩
   rcases List.mem_append.mp hy with h | h
   · rw [upF_ne (fun e=>hyn' (by rw [← e];exact h))];exact e6 y h
   · rw [List.mem_singleton.mp h,upF_same];exact ⟨hr0,hr1⟩
 · rintro σ H3 ⟨R,v4,rfl,sm,e5,e6⟩
   have hny3:=sm _ _ hny
   have hS3:=sm.seq hS1
   clear hny hS hS1 sm1 sm2 g1 sm hnp hro
   subst hrest
   walk_at "go"
   refine ⟨_,.inl ⟨e5,fun o=>?_⟩⟩
   have zl:(ys.take m).length=m∧True:=⟨by rw [List.length_take];omega,trivial⟩
   have znd:(ys.take m).Nodup:=List.Nodup.sublist (List.take_sublist _ _) ynd
   have zn:∀y∈ys.take m,nameB y.cps.toList=true:=fun y hy=>hyn y (List.mem_of_mem_take hy)
   have nnp:np≠ro:=fun e=>by rw [e,e5]at hny3;cases hny3
   have sbf:SameBut ro H3 (upd H3 ro (.frz o (.dK (kvN (ys.take m) R)))):=fun b u e nb=>by rw [upd_ne nb];exact e
   have hro4:upd H3 ro (.frz o (.dK (kvN (ys.take m) R))) ro=some (.frz o (.dK (kvN (ys.take m) R))):=upd_same
   have hnyF:upd H3 ro (.frz o (.dK (kvN (ys.take m) R))) np=some (.lst (ys.map V.str)):=by rw [upd_ne nnp];exact hny3
   have hSF:=SqL.butD sbf e5 hS3
   generalize upd H3 ro (.frz o (.dK (kvN (ys.take m) R)))=H3 at hro4 hnyF hSF ⊢
   clear sbf nnp hny3 hS3 e5
   refine compK_mk (fun i y H=>∃t,y=V.ref t∧SqT K H t [.str ((ys.take m).getD i Str.empty),.int 1,.int (R ((ys.take m).getD i Str.empty))]) (fun i y H H' l zs ⟨t,e,h⟩ hl sb=>⟨t,e,SqT.butL sb hl h⟩) hro4 (by rw [kvN_len,zl.1];omega) (fun b i p H' Q' hx sm' q'=>?_) (fun D yl H4 hD sm4 hyD hyl hall=>?_)
   · have hx2:∃z,(ys.take m)[i]?=some z∧p=(Sum.inr z,V.int (R z)):=by
      unfold kvN at hx
      rw [List.getElem?_map]at hx
      cases hz:(ys.take m)[i]? with
      | none=>rw [hz]at hx;cases hx
      | some z=>rw [hz]at hx;cases hx;exact ⟨z,rfl,rfl⟩
     obtain ⟨z,hz,rfl⟩:=hx2
     have ez:(ys.take m).getD i Str.empty=z∧True:=⟨by rw [List.getD_eq_getElem?_getD,hz];rfl,trivial⟩
     rw [ez.1]at q'
     show tTup _ [some (V.str z),_] _ _
     walk_at "go"
     refine ⟨V.int (R z),?_,by omega,fun t ht=>q' _ _ (Same.new ht) ⟨t,rfl,SqT.of upd_same⟩⟩
     have rA:RmAt H' ro (tsF (fun _=>1) R (ys.take m)):=⟨o,by rw [← kvN_ts];exact sm' _ _ hro4⟩
     have:=rA.get (z:=z)
     rw [← kvN_ts,kvN_val (List.mem_of_getElem? hz)]at this
     exact this
   have ey:yl=(yl.map aOf).map V.ref:=by
    rw [List.map_map]
    refine (List.map_id yl).symm.trans (List.map_congr_left fun y hy=>?_)
    obtain ⟨i,hi⟩:=List.mem_iff_getElem?.mp hy
    obtain ⟨t,rfl,_⟩:=hall i y hi
    rfl
   rw [kvN_len]at hyl
   have rows:=rows41 (K:=K) (C:=fun _=>1) (R:=R) (as:=yl.map aOf) (by rw [← ey];exact hyD) (by rw [List.length_map];exact hyl) (by omega) znd zn (fun y hy=>⟨by decide,by decide,(e6 y hy).1,by have:=(e6 y hy).2;omega⟩) (fun i c h=>by
    rw [List.getElem?_map]at h
    cases hy':yl[i]? with
    | none=>rw [hy']at h;cases h
    | some y=>
     rw [hy']at h
     obtain ⟨t,rfl,hs⟩:=hall i y hy'
     cases h
     exact hs)
   have hnyG:=sm4 _ _ hnyF
   have hSG:=sm4.seq hSF
   have hroG:=sm4 _ _ hro4
   clear hall hyD ey hyl hD sm4 hnyF hSF hro4
   intro st dx hst hdx ne1
   obtain ⟨rws,r1,r2,r3,r4⟩:=rows.init
   have smx:Same H4 (upd (upd H4 dx (.own st)) st (.ins Z6 dx [])):=fun b o e=>by rw [upd_ne (ne_of_none e hst),upd_ne (ne_of_none e hdx)];exact e
   refine ⟨dx,D,rfl,upd_same,rws,by rw [r1];exact smx.seq rows.l,fun t ht=>smx.tup (r2 t ht),r3,fun H5 sb5 stk=>?_⟩
   rw [r4]at stk
   have sm5:Same H4 H5:=same_made hst hdx sb5
   have hny5:=sm5 _ _ hnyG
   have hS5:=sm5.seq hSG
   have hRm:Rm2 H5 ro (tsF (fun _=>1) R (ys.take m)):= .inl ⟨o,by rw [← kvN_ts];exact sm5 _ _ hroG⟩
   have htn:((tsF (fun _=>1) R (ys.take m)).map (·.1)).Nodup:=by rw [tsF_names];exact znd
   have htl:(tsF (fun _=>1) R (ys.take m)).length≤60:=by rw [tsF_len,zl.1];omega
   generalize tsF (fun _=>1) R (ys.take m)=ts at stk hRm htn htl
   clear r1 r2 r3 r4 smx sb5 rows hst hdx ne1 sm5 hnyG hSG hroG zl znd zn
   rename_i rest hrest
   subst hrest
   walk_at "go"
   refine ⟨m,rfl,ns,hS5,hl,ys,SqL.of hny5,by omega,hm1,hm9,fun ap zs H6 sm6 hap hzl=>?_⟩
   have hS6:=sm6.seq hS5
   have hRm6:=hRm.same sm6
   have stk6:=StockAt.same sm6 stk
   clear hny5 hS5 hRm stk sm6
   rename_i rest hrest
   subst hrest
   walk_at "go"
   intro v H7 sm7 hv
   have hS7:=sm7.seq hS6
   have hRm7:=hRm6.same sm7
   have stk7:=StockAt.same sm7 stk6
   have hap7:=sm7 _ _ hap
   clear hS6 hRm6 stk6 sm7 hap
   rename_i rest hrest
   subst hrest
   walk_at "go"
   intro u H8 sm8 hu
   have hS8:=sm8.seq hS7
   have hRm8:=hRm7.same sm8
   have stk8:=StockAt.same sm8 stk7
   have hap8:=sm8 _ _ hap7
   clear hS7 hRm7 stk7 sm8 hap7
   rename_i rest hrest
   subst hrest
   walk_at "go"
   intro lp hlp
   have sm9:Same H8 (upd H8 lp (.lst [V.ref st,V.ref ap,v,u,V.ref xmake_first])):=Same.new hlp
   refine ⟨_,upd_same,_,.lack (StockAt.same sm9 stk8) htn htl (sm9 _ _ hap8) hzl hv hu,fun r H9 sm10 hr=>?_⟩
   have s89:=sm9.trans sm10
   refine ⟨ts,zs,SqL.of (s89 _ _ hap8),hzl,hRm8.same s89,hv,hu,fun r2 H10 sm11 hr2=>?_⟩
   have s810:=s89.trans sm11
   have hlk:=(hr.same sm11).like (K:=K) hr2
   have hS10:=s810.seq hS8
   clear hr hr2 sm9 sm10 sm11 s89 s810 hap8 hRm8 stk8 hS8 hlp
   rename_i rest hrest
   have key:rest [some (V.ref a),some (V.int m),some (V.ref np),some (V.ref ro),v4,some (V.ref st),some (V.ref ap),some v,some u,some (V.ref xmake_first),none,none,none,none] H10:=by
    clear hlk
    subst hrest
    walk_at "go"
    intro v0 H11 sm11 h0
    refine ⟨ns,sm11.seq hS10,by decide,hl,fun v1 H12 sm12 h1=>⟨by omega,fun lq hlq=>?_⟩⟩
    have hS12:=(sm11.trans sm12).seq hS10
    have smq:Same H12 (upd H12 lq (.lst [v0,v1,v,u])):=Same.new hlq
    have hq13:upd H12 lq (.lst [v0,v1,v,u]) lq=some (.lst [v0,v1,v,u]):=upd_same
    have hS13:=smq.seq hS12
    generalize upd H12 lq (.lst [v0,v1,v,u])=H13 at smq hq13 hS13 ⊢
    rename_i rest hrest
    subst hrest
    walk_at "go"
    rename_i rest hrest
    have key2:∀(w1:V) (H14:Hp),flatV w1=true→Same H12 H14→H14 lq=some (.lst [v0,w1,v,u])→rest [some (V.ref a),some (V.int m),some (V.ref np),some (V.ref ro),v4,some (V.ref st),some (V.ref ap),some v,some u,some (V.ref xmake_first),some (V.ref lq),none,none,none] H14:=by
     intro w1 H14 hw1 sm14 hq14
     have hS14:=sm14.seq hS12
     clear hS13 hq13 smq
     subst hrest
     walk_at "go"
     intro lm hlm
     have n1:lm≠lq:=fun e=>by rw [e,hq14]at hlm;cases hlm
     have smm:Same H14 (upd H14 lm (.lst [V.ref xmake_first])):=Same.new hlm
     refine rcat_go upd_same (smm _ _ hq14) (by show 1+4≤_;omega) fun lc hlc=>?_
     have smc:Same H14 (upd (upd H14 lm (.lst [V.ref xmake_first])) lc (.lst ([V.ref xmake_first]++[v0,w1,v,u]))):=smm.trans (Same.new hlc)
     refine ⟨lc,rfl,_,upd_same,_,.row h0 hw1 hv hu,fun r H15 sm15 hr=>?_⟩
     refine ⟨v0,w1,v,u,(smc.trans sm15) _ _ hq14,h0,hw1,hv,hu,fun r2 H16 sm16 hr2=>?_⟩
     have hlk:=(hr.same sm16).like (K:=K) hr2
     have hS16:=((smc.trans sm15).trans sm16).seq hS14
     clear hr hr2 sm15 sm16 smc smm hlc hlm n1 hS14 hq14 sm14
     rename_i rest hrest
     have key3:rest [some (V.ref a),some (V.int m),some (V.ref np),some (V.ref ro),v4,some (V.ref st),some (V.ref ap),some v,some u,some (V.ref xmake_first),some (V.ref lq),none,none,none] H16:=by
      clear hlk
      subst hrest
      walk_at "go"
      intro lw hlw
      have smw:Same H16 (upd H16 lw (.lst (wds67.map Wd.v))):=Same.new hlw
      have hw17:upd H16 lw (.lst (wds67.map Wd.v)) lw=some (.lst (wds67.map Wd.v)):=upd_same
      have hS17:=smw.seq hS16
      rename_i rest hrest
      change rest _ (upd H16 lw (.lst (wds67.map Wd.v)))
      generalize upd H16 lw (.lst (wds67.map Wd.v))=H17 at smw hw17 hS17 ⊢
      subst hrest
      walk_at "go"
      obtain ⟨wd,hw1,hw2⟩:=wds67_at (Int.emod_nonneg (ns.getD 4 0 / 11) (show (11:Int)≠0 by decide)) (Int.emod_lt_of_pos (ns.getD 4 0 / 11) (show (0:Int) < 11 by decide))
      refine ixL_of (SqL.of hw17) (v:=wd.v) hw1 ?_
      rename_i rest hrest
      subst hrest
      walk_at "go"
      intro v9 H18 sm18 h9
      rename_i rest hrest
      subst hrest
      walk_at "go"
      intro l9 hl9
      have sm19:Same H18 (upd H18 l9 (.lst [wd.v,v9])):=Same.new hl9
      refine ⟨_,upd_same,_,.worse hw2 h9,fun r H20 sm20 hr=>?_⟩
      refine ⟨wd,rfl,hw2,h9,fun r2 H21 sm21 hr2=>?_⟩
      rcases (hr.same sm21).like (K:=K) hr2 with ⟨e1,e2⟩ | lk
      · exact .inl ⟨by rw [e1,e2];rfl,by rw [show decide (r=r2)=true from by rw [e1,e2];simp];exact q _⟩
      · exact .inr ⟨lk,q _⟩
     rcases hlk with ⟨e1,e2⟩ | lk
     · exact .inl ⟨by rw [e1,e2];rfl,by rw [if_neg (by rw [e1,e2];simp)];exact key3⟩
     · exact .inr ⟨lk,key3⟩
    split
    · refine ixL_of (SqL.of hq13) (v:=v1) (atI_nat (j:=1) rfl) ?_
      refine ⟨h1,?_⟩
      split
      · exact ⟨_,hq13,1,rfl,key2 (V.int 3) _ rfl (same_upd smq hlq) upd_same⟩
      · exact key2 v1 H13 h1 smq hq13
    · exact key2 v1 H13 h1 smq hq13
   rcases hlk with ⟨e1,e2⟩ | lk
   · exact .inl ⟨by rw [e1,e2];rfl,by rw [if_neg (by rw [e1,e2];simp)];exact key⟩
   · exact .inr ⟨lk,key⟩
end
theorem all_mk{l:W.OpenLaw}{w:World}{K:W.Frag}{h:Heap}{mg:Str→Option Value}{fa f0 f1 f2 f3 f4 f5 f6 f7 f8 f9 f10 f11 f12 f13 f14 f15 f16 f17 f18 f19 f20 f21 f22 f23 f24 f25 f26 f27 f28 f29 f30 f31 f32 f33 f34 f35 f36 f37 f38 f39 f40 f41 f42 f43 f44 f45 f46 f47 f48 f49 f50 f51 f52 f53 f54 f55 f56 f57 f58 f59 f60 xU0 xU1 xU2 Z3 Z1 Z2 Z4 Z7 Z8 Z6 Z5 Zc Z9 Z0 xmake_oldest xmake_first xmake_halving xmake_farthest xmake_hand xmake_rows xmake_dues xrow_of_rounds xrow_of_pairs Za Zb:Addr}(X:K.In h)(G:h.Ns mainGlobals mg)(hfa:mg "law"=some (.ref fa))
 {od6 an6 od7 an7 od27 an27 od28 an28 od32 an32 od60 an60:Option Addr} {sl6 sl7 sl27 sl28 sl32 sl60:Array (Option Value)} {oc6 kV6 dc6 pm6 cd6 ct6 oc7 kV7 dc7 pm7 cd7 ct7 oc27 kV27 dc27 pm27 cd27 ct27 oc28 kV28 dc28 pm28 cd28 ct28 oc32 kV32 dc32 pm32 cd32 ct32 oc60 kV60 dc60 pm60 cd60 ct60:Value}
 {d0 d1 d2 d3 d4 d5 d8 d9 d10 d11 d12 d13 d14 d15 d16 d17 d18 d19 d20 d21 d22 d23 d24 d25 d26 d29 d30 d31 d33 d34 d35 d36 d37 d38 d39 d40 d41 d42 d43 d44 d45 d46 d47 d48 d49 d50 d51 d52 d53 d54 d55 d56 d57 d58 d59:FuncData}
 (a0:W.nsIn K mainGlobals "made_of"=some (some (.ref f0))) (F0:Fun K "made_of" "made_of" Z5v f0 d0)
 (a1:W.nsIn K mainGlobals "is_name"=some (some (.ref f1))) (F1:Fun K "is_name" "is_name" Z5w f1 d1)
 (a2:W.nsIn K mainGlobals "is_whole"=some (some (.ref f2))) (F2:Fun K "is_whole" "is_whole" Z4w f2 d2)
 (a3:W.nsIn K mainGlobals "is_within"=some (some (.ref f3))) (F3:Fun K "is_within" "is_within" Z40 f3 d3)
 (a4:W.nsIn K mainGlobals "check_thing"=some (some (.ref f4))) (F4:Fun K "check_thing" "check_thing" Z2v f4 d4)
 (M5:Mk K Z6 f5) (F5:Fun K "__init__" "Stock.__init__" Z3g f5 d5)
 (a6:W.findIn K (.ref Z1) "__init__"=some (some (.ref f6))) (l6:K.lookup f6=some ⟨oc6,od6,.func (W.fnOf "__init__" "Unknown.__init__" (defArgs Z09) (defBody Z09) (defScope Z09) .none kV6 dc6 pm6 an6 cd6 ct6),sl6⟩) (c6:W.codeIn K cd6 "Unknown.__init__"=true) (k6:W.keepIn K (.ref Z1)=true) (kf6:W.keepIn K (.ref f6)=true) (hc6:oc6= .type "function")
 (a7:W.findIn K (.ref Z2) "__init__"=some (some (.ref f7))) (l7:K.lookup f7=some ⟨oc7,od7,.func (W.fnOf "__init__" "TooWide.__init__" (defArgs Z0a) (defBody Z0a) (defScope Z0a) .none kV7 dc7 pm7 an7 cd7 ct7),sl7⟩) (c7:W.codeIn K cd7 "TooWide.__init__"=true) (k7:W.keepIn K (.ref Z2)=true) (kf7:W.keepIn K (.ref f7)=true) (hc7:oc7= .type "function")
 (M8:Meth K Z6 "has" f8) (F8:Fun K "has" "Stock.has" Z41 f8 d8)
 (M9:Meth K Z6 "thing_of" f9) (F9:Fun K "thing_of" "Stock.thing_of" Z20 f9 d9)
 (M10:Meth K Z6 "room_of" f10) (F10:Fun K "room_of" "Stock.room_of" Z2a f10 d10)
 (a11:W.nsIn K mainGlobals "check_places"=some (some (.ref f11))) (F11:Fun K "check_places" "check_places" Z2g f11 d11)
 (a12:W.nsIn K mainGlobals "check_asks"=some (some (.ref f12))) (F12:Fun K "check_asks" "check_asks" Z3h f12 d12)
 (M13:Meth K Z1 "word" f13) (F13:Fun K "word" "Unknown.word" Z2h f13 d13)
 (M14:Meth K Z2 "word" f14) (F14:Fun K "word" "TooWide.word" Z2i f14 d14)
 (M15:Meth K Z4 "word" f15) (F15:Fun K "word" "NoNumber.word" Z2b f15 d15)
 (M16:Meth K Z7 "word" f16) (F16:Fun K "word" "TooMany.word" Z2j f16 d16)
 (M17:Meth K Z8 "word" f17) (F17:Fun K "word" "NoRule.word" Z2w f17 d17)
 (M18:Mk K Z5 f18) (F18:Fun K "__init__" "Shelf.__init__" Z3i f18 d18)
 (M19:Meth K Z5 "lying" f19) (F19:Fun K "lying" "Shelf.lying" Z2x f19 d19)
 (M20:Meth K Z5 "holds" f20) (F20:Fun K "holds" "Shelf.holds" Z2y f20 d20)
 (M21:Meth K Z5 "room_left" f21) (F21:Fun K "room_left" "Shelf.room_left" Z1m f21 d21)
 (M22:Meth K Z5 "put" f22) (F22:Fun K "put" "Shelf.put" Z42 f22 d22)
 (M23:Meth K Z5 "cast" f23) (F23:Fun K "cast" "Shelf.cast" Z3j f23 d23)
 (a24:W.nsIn K mainGlobals "casts_off"=some (some (.ref f24))) (F24:Fun K "casts_off" "casts_off" Z43 f24 d24)
 (a25:W.nsIn K mainGlobals "serves"=some (some (.ref f25))) (F25:Fun K "serves" "serves" Z6o f25 d25)
 (a26:W.nsIn K mainGlobals "lying_after"=some (some (.ref f26))) (F26:Fun K "lying_after" "lying_after" Z2z f26 d26)
 (a27:W.findIn K (.ref Zc) "__init__"=some (some (.ref f27))) (l27:K.lookup f27=some ⟨oc27,od27,.func (W.fnOf "__init__" "Rule.__init__" (defArgs Z0w) (defBody Z0w) (defScope Z0w) .none kV27 dc27 pm27 an27 cd27 ct27),sl27⟩) (c27:W.codeIn K cd27 "Rule.__init__"=true) (n27:W.isFn K (.ref f27)=true) (k27:W.keepIn K (.ref Zc)=true) (m27:W.makesIn K Zc=true) (kf27:W.keepIn K (.ref f27)=true)
 (fc27:W.findCls K (.ref Zc) (.type "type") "__init__"=some (.val (.ref f27))) (sc27:W.specialIn K (.ref Zc) "__getattribute__"=some (some (.builtin "type.__getattribute__"))) (rc27:W.readsIn K Zc (.type "type")=true)
 (a28:W.findIn K (.ref Z9) "__init__"=some (some (.ref f28))) (l28:K.lookup f28=some ⟨oc28,od28,.func (W.fnOf "__init__" "Ranked.__init__" (defArgs Z0b) (defBody Z0b) (defScope Z0b) .none kV28 dc28 pm28 an28 cd28 ct28),sl28⟩) (c28:W.codeIn K cd28 "Ranked.__init__"=true) (n28:W.isFn K (.ref f28)=true) (k28:W.keepIn K (.ref Z9)=true) (m28:W.makesIn K Z9=true) (kf28:W.keepIn K (.ref f28)=true)
 (fc28:W.findCls K (.ref Z9) (.type "type") "__init__"=some (.val (.ref f28))) (sc28:W.specialIn K (.ref Z9) "__getattribute__"=some (some (.builtin "type.__getattribute__"))) (rc28:W.readsIn K Z9 (.type "type")=true)
 (M29:Mk K Z0 f29) (F29:Fun K "__init__" "First.__init__" Z3k f29 d29)
 (M30:Meth K Z0 "number_ask" f30) (F30:Fun K "number_ask" "Ranked.number_ask" Z16 f30 d30)
 (M31:Meth K Z0 "asked" f31) (F31:Fun K "asked" "Ranked.asked" Z30 f31 d31)
 (a32:W.findIn K (.ref Z0) "rank"=some (some (.ref f32))) (l32:K.lookup f32=some ⟨oc32,od32,.func (W.fnOf "rank" "First.rank" (defArgs Z0h) (defBody Z0h) (defScope Z0h) .none kV32 dc32 pm32 an32 cd32 ct32),sl32⟩) (c32:W.codeIn K cd32 "First.rank"=true) (n32:W.isFn K (.ref f32)=true) (k32:W.keepIn K (.ref f32)=true)
 (gv32:W.specialIn K (.ref f32) "__get__"=some (some (.builtin "function.__get__"))) (tv32:W.takesIn K (.ref f32)=some false)
 (M33:Meth K Z0 "choice" f33) (F33:Fun K "choice" "Ranked.choice" Z2k f33 d33)
 (M34:Meth K Z0 "gone" f34) (F34:Fun K "gone" "Rule.gone" Z3l f34 d34)
 (M35:Meth K Z0 "came" f35) (F35:Fun K "came" "First.came" Z3m f35 d35)
 (a36:W.nsIn K mainGlobals "make_room"=some (some (.ref f36))) (F36:Fun K "make_room" "make_room" Z44 f36 d36)
 (a37:W.nsIn K mainGlobals "row_of"=some (some (.ref f37))) (F37:Fun K "row_of" "row_of" Z6p f37 d37)
 (a38:W.nsIn K mainGlobals "book_of"=some (some (.ref f38))) (F38:Fun K "book_of" "book_of" Z5x f38 d38)
 (a39:W.nsIn K mainGlobals "make_first"=some (some (.ref f39))) (F39:Fun K "make_first" "make_first" Z3n f39 d39)
 (a40:W.nsIn K mainGlobals "maker_of"=some (some (.ref f40))) (F40:Fun K "maker_of" "maker_of" Z4x f40 d40)
 (a41:W.nsIn K mainGlobals "check_greater"=some (some (.ref f41))) (F41:Fun K "check_greater" "check_greater" Z2c f41 d41)
 (a42:W.nsIn K mainGlobals "lying_by"=some (some (.ref f42))) (F42:Fun K "lying_by" "lying_by" Z4y f42 d42)
 (a43:W.nsIn K mainGlobals "first_lack"=some (some (.ref f43))) (F43:Fun K "first_lack" "first_lack" Z3o f43 d43)
 (a44:W.nsIn K mainGlobals "check_search"=some (some (.ref f44))) (F44:Fun K "check_search" "check_search" Z2l f44 d44)
 (a45:W.nsIn K mainGlobals "longer_rows"=some (some (.ref f45))) (F45:Fun K "longer_rows" "longer_rows" Z31 f45 d45)
 (a46:W.nsIn K mainGlobals "first_row"=some (some (.ref f46))) (F46:Fun K "first_row" "first_row" Z45 f46 d46)
 (a47:W.nsIn K mainGlobals "row_of_rounds"=some (some (.ref f47))) (F47:Fun K "row_of_rounds" "row_of_rounds" Z2d f47 d47)
 (a48:W.nsIn K mainGlobals "row_of_pairs"=some (some (.ref f48))) (F48:Fun K "row_of_pairs" "row_of_pairs" Z2m f48 d48)
 (a49:W.nsIn K mainGlobals "worse_row"=some (some (.ref f49))) (F49:Fun K "worse_row" "worse_row" Z46 f49 d49)
 (a50:W.nsIn K mainGlobals "_law_cell_at"=some (some (.ref f50))) (F50:Fun K "_law_cell_at" "_law_cell_at" Z47 f50 d50)
 (a51:W.nsIn K mainGlobals "_law_names"=some (some (.ref f51))) (F51:Fun K "_law_names" "_law_names" Z5y f51 d51)
 (a52:W.nsIn K mainGlobals "_law_mixed"=some (some (.ref f52))) (F52:Fun K "_law_mixed" "_law_mixed" Z5z f52 d52)
 (a53:W.nsIn K mainGlobals "_law_within_bounds"=some (some (.ref f53))) (F53:Fun K "_law_within_bounds" "_law_within_bounds" Z1n f53 d53)
 (a54:W.nsIn K mainGlobals "_law_number"=some (some (.ref f54))) (F54:Fun K "_law_number" "_law_number" Z4z f54 d54)
 (a55:W.nsIn K mainGlobals "_law_refusal"=some (some (.ref f55))) (F55:Fun K "_law_refusal" "_law_refusal" Z48 f55 d55)
 (a56:W.nsIn K mainGlobals "_law_lack_due"=some (some (.ref f56))) (F56:Fun K "_law_lack_due" "_law_lack_due" Z3p f56 d56)
 (a57:W.nsIn K mainGlobals "_law_row_due"=some (some (.ref f57))) (F57:Fun K "_law_row_due" "_law_row_due" Z49 f57 d57)
 (a58:W.nsIn K mainGlobals "_law_worse_due"=some (some (.ref f58))) (F58:Fun K "_law_worse_due" "_law_worse_due" Z32 f58 d58)
 (a59:W.nsIn K mainGlobals "_law_asks"=some (some (.ref f59))) (F59:Fun K "_law_asks" "_law_asks" Z6q f59 d59)
 (a60:W.nsIn K mainGlobals "law"=some (some (.ref f60))) (l60:K.lookup f60=some ⟨oc60,od60,.func (W.fnOf "law" "law" (defArgs Z3b) (defBody Z3b) (defScope Z3b) .none kV60 dc60 pm60 an60 cd60 ct60),sl60⟩) (c60:W.codeIn K cd60 "law"=true) (k60:W.keepIn K (.ref f60)=true)
 (Z0o:W.nsIn K mainGlobals "len"=some none)
 (Zo:W.nsIn K mainGlobals "isinstance"=some none)
 (Z3a:W.nsIn K mainGlobals "int"=some none)
 (Z4t:W.nsIn K mainGlobals "bool"=some none)
 (Z4v:W.nsIn K mainGlobals "str"=some none)
 (Z29:W.nsIn K mainGlobals "list"=some none)
 (Z6j:W.nsIn K mainGlobals "tuple"=some none)
 (Z71:W.nsIn K mainGlobals "all"=some none)
 (Z24:W.nsIn K mainGlobals "range"=some none)
 (Z72:W.nsIn K mainGlobals "sum"=some none)
 (Z0e:W.nsIn K mainGlobals "enumerate"=some none)
 (Z73:W.nsIn K mainGlobals "zip"=some none)
 (Z8j:W.nsIn K mainGlobals "max"=some none)
 (Z74:W.nsIn K mainGlobals "min"=some none)
 (Z3f:W.nsIn K mainGlobals "sorted"=some none)
 (Z75:W.nsIn K mainGlobals "dict"=some none)
 (Z76:W.nsIn K mainGlobals "set"=some none)
 {Z9v:Tok} (Z0d:W.nsIn K mainGlobals "LETTERS"=some (some (.str "abcdefghijklmnopqrstuvwxyz" Z9v)))
 {Z9w:Tok} (Z2u:W.nsIn K mainGlobals "FIGURES"=some (some (.str "0123456789" Z9w)))
 {Z8g:Tok} (Z15:W.nsIn K mainGlobals "MOST_SIGNS"=some (some (.int 8 Z8g)))
 {Z7v:Tok} (Z0t:W.nsIn K mainGlobals "MOST_THINGS"=some (some (.int 60 Z7v)))
 {Z8x:Tok} (Z1t:W.nsIn K mainGlobals "MOST_ROOM"=some (some (.int 1000 Z8x)))
 {Z7w:Tok} (Zw:W.nsIn K mainGlobals "MOST_PLACES"=some (some (.int 1000000 Z7w)))
 {Z8y:Tok} (Z0u:W.nsIn K mainGlobals "MOST_ASKS"=some (some (.int 200 Z8y)))
 {Z6y:Tok} (Z00:W.nsIn K mainGlobals "MOST_SEARCHED"=some (some (.int 4 Z6y)))
 {Z8z:Tok} (Z0v:W.nsIn K mainGlobals "MOST_LONG"=some (some (.int 6 Z8z)))
 {Z8h:Tok} (Z0g:W.nsIn K mainGlobals "MOST_WORSE"=some (some (.int 20 Z8h)))
 (Z6k:W.nsIn K mainGlobals "Stock"=some (some (.ref Z6))) (Zcf:Cls K Z6)
 (Zl:W.findIn K (.ref Z6) "things"=some none)
 (Z6l:W.nsIn K mainGlobals "Shelf"=some (some (.ref Z5))) (Zcg:Cls K Z5)
 (Zv:W.findIn K (.ref Z5) "stock"=some none)
 (Z08:W.findIn K (.ref Z5) "places"=some none)
 (Zp:W.findIn K (.ref Z5) "rooms"=some none)
 (Z7h:W.nsIn K mainGlobals "Rule"=some (some (.ref Zc))) (Zcl:Cls K Zc)
 (Z26:W.findIn K (.ref Zc) "stock"=some none)
 (Z1w:W.findIn K (.ref Zc) "places"=some none)
 (Z52:W.nsIn K mainGlobals "Ranked"=some (some (.ref Z9))) (Zca:Cls K Z9)
 (Z1e:W.findIn K (.ref Z9) "stock"=some none)
 (Z10:W.findIn K (.ref Z9) "places"=some none)
 (Z0m:W.findIn K (.ref Z9) "present"=some none)
 (Z1x:W.findIn K (.ref Z9) "last"=some none)
 (Z6m:W.nsIn K mainGlobals "First"=some (some (.ref Z0))) (Zch:Cls K Z0)
 (Z02:W.findIn K (.ref Z0) "stock"=some none)
 (Zy:W.findIn K (.ref Z0) "places"=some none)
 (Zq:W.findIn K (.ref Z0) "present"=some none)
 (Z0f:W.findIn K (.ref Z0) "last"=some none)
 (Zz:W.findIn K (.ref Z0) "put_at"=some none)
 (Z4h:W.nsIn K mainGlobals "CastError"=some (some (.ref Z3)))
 (Z3y:W.nsIn K mainGlobals "Unknown"=some (some (.ref Z1)))
 (Z3z:W.nsIn K mainGlobals "TooWide"=some (some (.ref Z2)))
 (Z53:W.nsIn K mainGlobals "NoNumber"=some (some (.ref Z4)))
 (Z67:W.nsIn K mainGlobals "TooMany"=some (some (.ref Z7)))
 (Z6z:W.nsIn K mainGlobals "NoRule"=some (some (.ref Z8)))
 {cA oA:Value} {dA eA:Option Addr} {cdA:ClassData} {slA smA:Array (Option Value)} {esA:Array DictEntry} {epA:Nat} (lA:K.lookup Z3=some ⟨cA,dA,.cls cdA,slA⟩) (lNA:K.lookup cdA.ns=some ⟨oA,eA,.dict esA epA,smA⟩) (sNA:strKeysB esA=true) (iNA:nsFind esA "__init__"=none)
 {Z98 Z9x:Str} {Z7i:Addr} {Z99:List Value} {Z9a:Bool} {Z9b:List Str} {Z9c:List Value} {Z9d:Bool} {Z9e:Option Bool} {Z9f:Option Addr} {Z9g Z9h Z9i Z9j Z9k:Option Value} {Z9l:Value} {Z9m:Option Addr} {Z4i:Array DictEntry} {Z9n:Nat} {Z9o:Array (Option Value)}
 (Z4j:K.lookup Z4=some (excClassObj Z98 Z9x Z4 Z7i Z99 [.ref Z3,.type "ValueError",.type "Exception",.type "BaseException",.type "object"] Z9a Z9b Z9c Z9d Z9e Z9f Z9g Z9h Z9i Z9j Z9k "ValueError.__new__")) (Z4k:K.lookup Z7i=some ⟨Z9l,Z9m,.dict Z4i Z9n,Z9o⟩) (Z4l:strKeysB Z4i=true) (Z4m:nsFind Z4i "__init__"=none)
 (Z4n:W.keepIn K (.ref Z4)=true)
 {Z9y Zbn:Str} {Z81:Addr} {Z9z:List Value} {Za0:Bool} {Za1:List Str} {Za2:List Value} {Za3:Bool} {Za4:Option Bool} {Za5:Option Addr} {Za6 Za7 Za8 Za9 Zaa:Option Value} {Zab:Value} {Zac:Option Addr} {Z54:Array DictEntry} {Zad:Nat} {Zae:Array (Option Value)}
 (Z55:K.lookup Z7=some (excClassObj Z9y Zbn Z7 Z81 Z9z [.ref Z3,.type "ValueError",.type "Exception",.type "BaseException",.type "object"] Za0 Za1 Za2 Za3 Za4 Za5 Za6 Za7 Za8 Za9 Zaa "ValueError.__new__")) (Z56:K.lookup Z81=some ⟨Zab,Zac,.dict Z54 Zad,Zae⟩) (Z57:strKeysB Z54=true) (Z58:nsFind Z54 "__init__"=none)
 (Z59:W.keepIn K (.ref Z7)=true)
 {Zbo Zcb:Str} {Z90:Addr} {Zbp:List Value} {Zbq:Bool} {Zbr:List Str} {Zbs:List Value} {Zbt:Bool} {Zbu:Option Bool} {Zbv:Option Addr} {Zbw Zbx Zby Zbz Zc0:Option Value} {Zc1:Value} {Zc2:Option Addr} {Z68:Array DictEntry} {Zc3:Nat} {Zc4:Array (Option Value)}
 (Z69:K.lookup Z8=some (excClassObj Zbo Zcb Z8 Z90 Zbp [.ref Z3,.type "ValueError",.type "Exception",.type "BaseException",.type "object"] Zbq Zbr Zbs Zbt Zbu Zbv Zbw Zbx Zby Zbz Zc0 "ValueError.__new__")) (Z6a:K.lookup Z90=some ⟨Zc1,Zc2,.dict Z68 Zc3,Zc4⟩) (Z6b:strKeysB Z68=true) (Z6c:nsFind Z68 "__init__"=none)
 (Z6d:W.keepIn K (.ref Z8)=true)
 {Zaf Z06:Str} {Z82:Addr} {Zag:List Value} {Zah:List Str} {Zai:List Value} {Zaj:Bool} {Zak:Option Bool} {Zal:Option Addr} {Zam Zan Zao Zap Zaq:Option Value} {Zar:Value} {Zas:Option Addr} {Z5a:Array DictEntry} {Zat:Nat} {Zau:Array (Option Value)}
 (Z3d:K.lookup Z1=some (excClassObj Zaf Z06 Z1 Z82 Zag [.ref Z3,.type "ValueError",.type "Exception",.type "BaseException",.type "object"] true Zah Zai Zaj Zak Zal Zam Zan Zao Zap Zaq "ValueError.__new__")) (Z5b:K.lookup Z82=some ⟨Zar,Zas,.dict Z5a Zat,Zau⟩) (Z5c:strKeysB Z5a=true) (Z5d:nsFind Z5a "__init__"=some (.ref f6))
 (Z5e:W.findIn K (.ref Z1) "__getattribute__"=some (some (.builtin "BaseException.__getattribute__"))) (Z5f:W.findIn K (.ref Z1) "__getattr__"=some none) (Z5g:W.findIn K (.ref Z1) "__setattr__"=some (some (.builtin "object.__setattr__")))
 (Zt:W.findIn K (.ref Z1) "name"=some none)
 (Zr:W.findIn K (.ref Z1) "place"=some none)
 {Zav Z07:Str} {Z83:Addr} {Zaw:List Value} {Zax:List Str} {Zay:List Value} {Zaz:Bool} {Zb0:Option Bool} {Zb1:Option Addr} {Zb2 Zb3 Zb4 Zb5 Zb6:Option Value} {Zb7:Value} {Zb8:Option Addr} {Z5h:Array DictEntry} {Zb9:Nat} {Zba:Array (Option Value)}
 (Z3e:K.lookup Z2=some (excClassObj Zav Z07 Z2 Z83 Zaw [.ref Z3,.type "ValueError",.type "Exception",.type "BaseException",.type "object"] true Zax Zay Zaz Zb0 Zb1 Zb2 Zb3 Zb4 Zb5 Zb6 "ValueError.__new__")) (Z5i:K.lookup Z83=some ⟨Zb7,Zb8,.dict Z5h Zb9,Zba⟩) (Z5j:strKeysB Z5h=true) (Z5k:nsFind Z5h "__init__"=some (.ref f7))
 (Z5l:W.findIn K (.ref Z2) "__getattribute__"=some (some (.builtin "BaseException.__getattribute__"))) (Z5m:W.findIn K (.ref Z2) "__getattr__"=some none) (Z5n:W.findIn K (.ref Z2) "__setattr__"=some (some (.builtin "object.__setattr__")))
 (Zu:W.findIn K (.ref Z2) "name"=some none)
 (Zs:W.findIn K (.ref Z2) "place"=some none)
 (Z5o:W.findIn K (.ref Z1) "__getattribute__"=some (some (.builtin "BaseException.__getattribute__"))) (Z5p:W.findIn K (.ref Z1) "__getattr__"=some none)
 (Z5q:W.findIn K (.ref Z2) "__getattribute__"=some (some (.builtin "BaseException.__getattribute__"))) (Z5r:W.findIn K (.ref Z2) "__getattr__"=some none)
 (Z4o:W.findIn K (.ref Z4) "__getattribute__"=some (some (.builtin "BaseException.__getattribute__"))) (Z4p:W.findIn K (.ref Z4) "__getattr__"=some none)
 (Z5s:W.findIn K (.ref Z7) "__getattribute__"=some (some (.builtin "BaseException.__getattribute__"))) (Z5t:W.findIn K (.ref Z7) "__getattr__"=some none)
 (Z6e:W.findIn K (.ref Z8) "__getattribute__"=some (some (.builtin "BaseException.__getattribute__"))) (Z6f:W.findIn K (.ref Z8) "__getattr__"=some none)
 {Z91:ClassData} (Z1v:W.subIn K (.ref Z3) (.type "BaseException")=some true) (Z18:W.clsIn K Z3=some Z91) (Z19:W.typeIn K (.ref Z3)=some (.type "type"))
 {Zbb:ClassData} (Z25:W.subIn K (.ref Z2) (.type "BaseException")=some true) (Z1f:W.clsIn K Z2=some Zbb) (Z1g:W.typeIn K (.ref Z2)=some (.type "type"))
 {Zbc:ClassData} (Z1a:W.subIn K (.ref Z1) (.type "BaseException")=some true) (Z0q:W.clsIn K Z1=some Zbc) (Z0r:W.typeIn K (.ref Z1)=some (.type "type"))
 (Z1o:W.subIn K (.ref Z1) (.ref Z1)=some true)
 (Z1p:W.subIn K (.ref Z2) (.ref Z1)=some false)
 (Z1q:W.subIn K (.ref Z2) (.ref Z2)=some true)
 (Z1b:W.subIn K (.ref Z4) (.ref Z1)=some false)
 (Z1c:W.subIn K (.ref Z4) (.ref Z2)=some false)
 (Z0s:W.subIn K (.ref Z4) (.ref Z3)=some true)
 (Z1r:W.subIn K (.ref Z7) (.ref Z1)=some false)
 (Z1s:W.subIn K (.ref Z7) (.ref Z2)=some false)
 (Z0z:W.subIn K (.ref Z7) (.ref Z3)=some true)
 (Z22:W.subIn K (.ref Z8) (.ref Z1)=some false)
 (Z23:W.subIn K (.ref Z8) (.ref Z2)=some false)
 (Z1d:W.subIn K (.ref Z8) (.ref Z3)=some true)
 (Z39:W.nsIn K mainGlobals "make_oldest"=some (some (.ref xmake_oldest)))
 (Z3w:W.nsIn K mainGlobals "make_first"=some (some (.ref xmake_first)))
 (Z2s:W.nsIn K mainGlobals "make_halving"=some (some (.ref xmake_halving)))
 (Z2e:W.nsIn K mainGlobals "make_farthest"=some (some (.ref xmake_farthest)))
 (Z4q:W.nsIn K mainGlobals "make_hand"=some (some (.ref xmake_hand)))
 (Z4r:W.nsIn K mainGlobals "make_rows"=some (some (.ref xmake_rows)))
 (Z4s:W.nsIn K mainGlobals "make_dues"=some (some (.ref xmake_dues)))
 (Z2f:W.nsIn K mainGlobals "row_of_rounds"=some (some (.ref xrow_of_rounds)))
 (Z2t:W.nsIn K mainGlobals "row_of_pairs"=some (some (.ref xrow_of_pairs)))
 (Z70:W.nsIn K mainGlobals "MAKERS"=some (some (.ref Za)))
 (Z7x:W.nsIn K mainGlobals "WORSE"=some (some (.ref Zb)))
 {Z84:Array DictEntry} {Zc5:Nat} (Z6g:K.lookup Za=some ⟨.type "dict",none,.dict Z84 Zc5,#[]⟩) (Z6h:W.KeysLit w.params Z84.toList) (Z6i:(Za==sysModules)=false)
 (wT0_MAKERS:W.nsIn K Za "oldest"=some (some (.ref xmake_oldest)))
 (wT1_MAKERS:W.nsIn K Za "first"=some (some (.ref xmake_first)))
 (wT2_MAKERS:W.nsIn K Za "halving"=some (some (.ref xmake_halving)))
 (wT3_MAKERS:W.nsIn K Za "farthest"=some (some (.ref xmake_farthest)))
 (wT4_MAKERS:W.nsIn K Za "hand"=some (some (.ref xmake_hand)))
 (wT5_MAKERS:W.nsIn K Za "rows"=some (some (.ref xmake_rows)))
 (wT6_MAKERS:W.nsIn K Za "dues"=some (some (.ref xmake_dues)))
 {Z92:Array DictEntry} {Zcc:Nat} (Z03:K.lookup Zb=some ⟨.type "dict",none,.dict Z92 Zcc,#[]⟩) (Z04:W.KeysLit w.params Z92.toList) (Z05:(Zb==sysModules)=false)
 (wT0_WORSE:W.nsIn K Zb "first"=some (some (.ref xU0)))
 (wT1_WORSE:W.nsIn K Zb "hand"=some (some (.ref xU1)))
 (wT2_WORSE:W.nsIn K Zb "rows"=some (some (.ref xU2)))
 (wT3_WORSE:W.nsIn K Zb "oldest"=some none)
 (wT4_WORSE:W.nsIn K Zb "dues"=some none)
 (wT5_WORSE:W.nsIn K Zb "halving"=some none)
 (wT6_WORSE:W.nsIn K Zb "farthest"=some none)
 (wT7_WORSE:W.nsIn K Zb "row"=some none)
 (wT8_WORSE:W.nsIn K Zb ""=some none)
 (wT9_WORSE:W.nsIn K Zb "First"=some none)
 {Zcp:Tok} {dU_U0:Option Addr} {nU_U0:Nat} {sU_U0:Array (Option Value)} (lU_U0:K.lookup xU0=some ⟨.type "tuple",dU_U0,.seq #[.int 3 Zcp,.ref xrow_of_rounds] nU_U0,sU_U0⟩)
 {Zcq:Tok} {dU_U1:Option Addr} {nU_U1:Nat} {sU_U1:Array (Option Value)} (lU_U1:K.lookup xU1=some ⟨.type "tuple",dU_U1,.seq #[.int 3 Zcq,.ref xrow_of_rounds] nU_U1,sU_U1⟩)
 {Zcr:Tok} {dU_U2:Option Addr} {nU_U2:Nat} {sU_U2:Array (Option Value)} (lU_U2:K.lookup xU2=some ⟨.type "tuple",dU_U2,.seq #[.int 2 Zcr,.ref xrow_of_pairs] nU_U2,sU_U2⟩)
 :∃fd:FuncData,(∀(s:Shared) (v:Value),BindsTo s fd ⟨[v],[]⟩ [("_law_script",v)])∧∀base:Heap,K.In base→base.Ns mainGlobals mg→FnOk l.prog w K mg base (CXF l.prog w) 13 fa fd ["_law_script"] (sp_law K):=by
 have e:=hfa.symm.trans (W.mg_of X G a60)
 cases e
 have T:Txt K mg xU0 xU1 xU2 Z3 Z1 Z2 Z4 Z7 Z8 Z6 Z5 Zc Z9 Z0 xmake_oldest xmake_first xmake_halving xmake_farthest xmake_hand xmake_rows xmake_dues xrow_of_rounds xrow_of_pairs Za Zb:=⟨W.mg_of X G Z6k,Zcf,Zl,W.mg_of X G Z6l,Zcg,Zv,Z08,Zp,W.mg_of X G Z7h,Zcl,Z26,Z1w,W.mg_of X G Z52,Zca,Z1e,Z10,Z0m,Z1x,W.mg_of X G Z6m,Zch,Z02,Zy,Zq,Z0f,Zz,W.mg_of X G Z4h,W.mg_of X G Z3y,W.mg_of X G Z3z,W.mg_of X G Z53,excC_of Z4j Z4k Z4l Z4m lA lNA sNA iNA,Z4n,W.mg_of X G Z67,excC_of Z55 Z56 Z57 Z58 lA lNA sNA iNA,Z59,W.mg_of X G Z6z,excC_of Z69 Z6a Z6b Z6c lA lNA sNA iNA,Z6d,excQ_of Z3d Z5e Z5f Z5g,Zt,Zr,excQ_of Z3e Z5l Z5m Z5n,Zu,Zs,⟨Z5o,Z5p⟩,⟨Z5q,Z5r⟩,⟨Z4o,Z4p⟩,⟨Z5s,Z5t⟩,⟨Z6e,Z6f⟩,exm_ref Z1a Z0q Z0r Z1o,exm_ref Z1a Z0q Z0r Z1p,exm_ref Z25 Z1f Z1g Z1q,exm_ref Z1a Z0q Z0r Z1b,exm_ref Z25 Z1f Z1g Z1c,exm_ref Z1v Z18 Z19 Z0s,exm_ref Z1a Z0q Z0r Z1r,exm_ref Z25 Z1f Z1g Z1s,exm_ref Z1v Z18 Z19 Z0z,exm_ref Z1a Z0q Z0r Z22,exm_ref Z25 Z1f Z1g Z23,exm_ref Z1v Z18 Z19 Z1d,W.mg_of X G Z39,W.mg_of X G Z3w,W.mg_of X G Z2s,W.mg_of X G Z2e,W.mg_of X G Z4q,W.mg_of X G Z4r,W.mg_of X G Z4s,W.mg_of X G Z2f,W.mg_of X G Z2t,W.mg_of X G Z70,W.mg_of X G Z7x,W.mg_none_of X G Z0o,W.mg_none_of X G Zo,W.mg_none_of X G Z3a,W.mg_none_of X G Z4t,W.mg_none_of X G Z4v,W.mg_none_of X G Z29,W.mg_none_of X G Z6j,W.mg_none_of X G Z71,W.mg_none_of X G Z24,W.mg_none_of X G Z72,W.mg_none_of X G Z0e,W.mg_none_of X G Z73,W.mg_none_of X G Z8j,W.mg_none_of X G Z74,W.mg_none_of X G Z3f,W.mg_none_of X G Z75,W.mg_none_of X G Z76,⟨_,W.mg_of X G Z0d⟩,⟨_,W.mg_of X G Z2u⟩,⟨_,W.mg_of X G Z15⟩,⟨_,W.mg_of X G Z0t⟩,⟨_,W.mg_of X G Z1t⟩,⟨_,W.mg_of X G Zw⟩,⟨_,W.mg_of X G Z0u⟩,⟨_,W.mg_of X G Z00⟩,⟨_,W.mg_of X G Z0v⟩,⟨_,W.mg_of X G Z0g⟩⟩
 have F6:=fun_mk (st:=Z09) l6 c6 kf6
 have F7:=fun_mk (st:=Z0a) l7 c7 kf7
 have F27:=fun_mk (st:=Z0w) l27 c27 kf27
 have F28:=fun_mk (st:=Z0b) l28 c28 kf28
 have F32:=fun_mk (st:=Z0h) l32 c32 k32
 have F60:=fun_mk (st:=Z3b) l60 c60 k60
 refine ⟨W.fnOf "law" "law" (defArgs Z3b) (defBody Z3b) (defScope Z3b) .none kV60 dc60 pm60 an60 cd60 ct60,fun s v=> .of_eq rfl,fun base _ _=>?_⟩
 have B:Bs l.prog w K mg base:=⟨h,X,G⟩
 have Z60:=F0.d B a0 (Z9q F0 T) (F0.e2 fun _ _ _ _ _ _ _ _=>rfl)
 have Z61:=F1.d B a1 (Z9r F1 T Z60) (F1.e1 fun _ _ _ _ _ _ _=>rfl)
 have Z50:=F2.d B a2 (Z94 F2 T) (F2.e1 fun _ _ _ _ _ _ _=>rfl)
 have Zh:=F3.d B a3 (Z8m F3 T Z50) (F3.e3 fun _ _ _ _ _ _ _ _ _=>rfl)
 have Z33:=F4.d B a4 (Z7m F4 T Z61 Zh) (F4.e4 fun _ _ _ _ _ _ _ _ _ _=>rfl)
 have Z0k:=F5.i B M5 Z6k (Z85 F5 T Z33) (F5.e2 fun _ _ _ _ _ _ _ _=>rfl)
 have Z2n:DefX l.prog w K mg base (CXF l.prog w) 1 "Unknown" Z1 ["self","name","place"] (sp_unk Z1):=⟨⟨f6,_,Z77 F6 T,mkX_of Z3d Z5b Z5c Z5d lA lNA sNA iNA l6 hc6 k6,W.mg_of X G Z3y,F6.binds (ps:=["self","name","place"]) fun _ _ _ _ _ _ us hl=>match us,hl with | [_,_,_],_=>rfl⟩⟩
 have Z2o:DefX l.prog w K mg base (CXF l.prog w) 1 "TooWide" Z2 ["self","name","place"] (sp_unk Z2):=⟨⟨f7,_,Z78 F7 T,mkX_of Z3e Z5i Z5j Z5k lA lNA sNA iNA l7 hc7 k7,W.mg_of X G Z3z,F7.binds (ps:=["self","name","place"]) fun _ _ _ _ _ _ us hl=>match us,hl with | [_,_,_],_=>rfl⟩⟩
 have Z4a:=F8.m B M8 (Z8n F8 T) (F8.e2 fun _ _ _ _ _ _ _ _=>rfl)
 have Z21:=F9.m B M9 (Z6n F9 T) (F9.e2 fun _ _ _ _ _ _ _ _=>rfl)
 have Zj:=F10.m B M10 (Z6r F10 T Z21) (F10.e2 fun _ _ _ _ _ _ _ _=>rfl)
 have Zd:=F11.d B a11 (Z79 F11 T Zh) (F11.e1 fun _ _ _ _ _ _ _=>rfl)
 have Zm:=F12.d B a12 (Z86 F12 T Zd Z4a Zj Z2n Z2o) (F12.e3 fun _ _ _ _ _ _ _ _ _=>rfl)
 have Z7y:=F13.mH B M13 (Z7a F13 T) (F13.e1 fun _ _ _ _ _ _ _=>rfl)
 have Z7z:=F14.mH B M14 (Z7b F14 T) (F14.e1 fun _ _ _ _ _ _ _=>rfl)
 have Z7j:=F15.mH B M15 (Z6s F15 T) (F15.e1 fun _ _ _ _ _ _ _=>rfl)
 have Z80:=F16.mH B M16 (Z7c F16 T) (F16.e1 fun _ _ _ _ _ _ _=>rfl)
 have Z8i:=F17.mH B M17 (Z7n F17 T) (F17.e1 fun _ _ _ _ _ _ _=>rfl)
 have Z0j:=F18.i B M18 Z6l (Z87 F18 T Zd) (F18.e3 fun _ _ _ _ _ _ _ _ _=>rfl)
 have Z0c:=F19.m B M19 (Z7o F19 T) (F19.e1 fun _ _ _ _ _ _ _=>rfl)
 have Zg:=F20.m B M20 (Z7p F20 T) (F20.e2 fun _ _ _ _ _ _ _ _=>rfl)
 have Zk:=F21.m B M21 (Z62 F21 T) (F21.e1 fun _ _ _ _ _ _ _=>rfl)
 have Z0x:=F22.m B M22 (Z8o F22 T Zj Zg Zk) (F22.e2 fun _ _ _ _ _ _ _ _=>rfl)
 have Z0i:=F23.m B M23 (Z88 F23 T Zg) (F23.e2 fun _ _ _ _ _ _ _ _=>rfl)
 have Z4b:=F24.d B a24 (Z8p F24 T Zg Z0i) (F24.e3 fun _ _ _ _ _ _ _ _ _=>rfl)
 have Z6t:=F25.d B a25 (Zbk F25 T Zg Z4b Zj Zk Z0x) (F25.e3 fun _ _ _ _ _ _ _ _ _=>rfl)
 have Z36:=F26.d B a26 (Z7q F26 T Zm Z0j Z6t Z0c) (F26.e4 fun _ _ _ _ _ _ _ _ _ _=>rfl)
 have Z4c:DefB l.prog w K mg base (CXF l.prog w) 4 "Rule" Zc ["self","stock","places"] (sp28_rinit K):=⟨⟨f27,_,Z8q F27 T Zd,⟨m27,a27,n27,k27⟩,W.mg_of X G Z7h,F27.binds (ps:=["self","stock","places"]) fun _ _ _ _ _ _ us hl=>match us,hl with | [_,_,_],_=>rfl,fc27,kf27⟩,sc27,rc27⟩
 have Z34:DefB l.prog w K mg base (CXF l.prog w) 5 "Ranked" Z9 ["self","stock","places"] (sp28_kinit K):=⟨⟨f28,_,Z7r F28 T Z4c,⟨m28,a28,n28,k28⟩,W.mg_of X G Z52,F28.binds (ps:=["self","stock","places"]) fun _ _ _ _ _ _ us hl=>match us,hl with | [_,_,_],_=>rfl,fc28,kf28⟩,sc28,rc28⟩
 have Z3t:=F29.i B M29 Z6m (Z89 F29 T Z34) (F29.e3 fun _ _ _ _ _ _ _ _ _=>rfl)
 have Z17:=F30.m B M30 (Z5u F30 T) (F30.e2 fun _ _ _ _ _ _ _ _=>rfl)
 have Z35:=F31.m B M31 (Z7s F31 T Z17) (F31.e2 fun _ _ _ _ _ _ _ _=>rfl)
 have Z3q:DefV l.prog w K mg base 1 Z0 "rank" ["self","name"] (sp22_rank Z0):=⟨⟨f32,_,Z8a F32 T,⟨a32,n32,k32⟩,F32.binds (ps:=["self","name"]) fun _ _ _ _ _ _ us hl=>match us,hl with | [_,_],_=>rfl,gv32,tv32⟩⟩
 have Z2p:=F33.m B M33 (Z7d F33 T Z3q) (F33.e2 fun _ _ _ _ _ _ _ _=>rfl)
 have Z3r:=F34.m B M34 (Z8b F34 T) (F34.e2 fun _ _ _ _ _ _ _ _=>rfl)
 have Z3s:=F35.m B M35 (Z8c F35 T) (F35.e2 fun _ _ _ _ _ _ _ _=>rfl)
 have Z4d:=F36.d B a36 (Z8r F36 T Zk Z0c Z2p Z0i Z3r) (F36.e3 fun _ _ _ _ _ _ _ _ _=>rfl)
 have Z6u:=F37.d B a37 (Zbl F37 T Z35 Zg Zj Z4d Z0x Z3s) (F37.e3 fun _ _ _ _ _ _ _ _ _=>rfl)
 have Z63:=F38.d B a38 (Z9s F38 T Zm Z0j Z6u) (F38.e2 fun _ _ _ _ _ _ _ _=>rfl)
 have Z3u:=F39.d B a39 (Z8d F39 T Z3t) (F39.e3 fun _ _ _ _ _ _ _ _ _=>rfl)
 have Z7e:KTab w.params K Za "first" (some (.ref xmake_first)):=ktab_of Z6i Z6g Z6h wT1_MAKERS ⟨_,rfl,rfl⟩
 have Z51:=F40.d B a40 (Z95 F40 T Z7e) (F40.e1 fun _ _ _ _ _ _ _=>rfl)
 have Z01:=F41.d B a41 (Z6v F41 T Zh) (F41.e2 fun _ _ _ _ _ _ _ _=>rfl)
 have Z3c:=F42.d B a42 (Z96 F42 T Z3u Z63 Z36) (F42.e4 fun _ _ _ _ _ _ _ _ _ _=>rfl)
 have Z0l:=F43.d B a43 (Z8e F43 T Zm Z01 Z3c) (F43.e5 fun _ _ _ _ _ _ _ _ _ _ _=>rfl)
 have Z2q:=F44.d B a44 (Z7f F44 T Zh Zd Z01) (F44.e4 fun _ _ _ _ _ _ _ _ _ _=>rfl)
 have Z37:=F45.d B a45 (Z7t F45 T) (F45.e2 fun _ _ _ _ _ _ _ _=>rfl)
 have Z4e:=F46.d B a46 (Z8s F46 T Z2q Z0k Z37 Z0l) (F46.e5 fun _ _ _ _ _ _ _ _ _ _ _=>rfl)
 have Z11:=F47.d B a47 (Z6w F47 T) (F47.e1 fun _ _ _ _ _ _ _=>rfl)
 have Z2r:=F48.d B a48 (Z7g F48 T) (F48.e1 fun _ _ _ _ _ _ _=>rfl)
 have D_w0:KTab w.params K Zb "first" (some (.ref xU0)):=ktab_of Z05 Z03 Z04 wT0_WORSE ⟨_,rfl,rfl⟩
 have D_w1:KTab w.params K Zb "hand" (some (.ref xU1)):=ktab_of Z05 Z03 Z04 wT1_WORSE ⟨_,rfl,rfl⟩
 have D_w2:KTab w.params K Zb "rows" (some (.ref xU2)):=ktab_of Z05 Z03 Z04 wT2_WORSE ⟨_,rfl,rfl⟩
 have D_u0:∀H:Hp,SqT K H xU0 [V.int 3,V.ref xrow_of_rounds]:=fun H=> .inr ⟨_,_,_,lU_U0,rfl,rfl,(by have:=line_val;show 2≤_;omega),.cons ⟨_,rfl⟩ (.cons rfl .nil)⟩
 have D_u1:∀H:Hp,SqT K H xU1 [V.int 3,V.ref xrow_of_rounds]:=fun H=> .inr ⟨_,_,_,lU_U1,rfl,rfl,(by have:=line_val;show 2≤_;omega),.cons ⟨_,rfl⟩ (.cons rfl .nil)⟩
 have D_u2:∀H:Hp,SqT K H xU2 [V.int 2,V.ref xrow_of_pairs]:=fun H=> .inr ⟨_,_,_,lU_U2,rfl,rfl,(by have:=line_val;show 2≤_;omega),.cons ⟨_,rfl⟩ (.cons rfl .nil)⟩
 have D_wn:∀z∈texts67,KTab w.params K Zb z none:=fun z hz=>by simp only [texts67,List.mem_cons,List.not_mem_nil,or_false]at hz;rcases hz with e | e | e | e | e | e | e <;> rw [e];exact ktab_of Z05 Z03 Z04 wT3_WORSE rfl;exact ktab_of Z05 Z03 Z04 wT4_WORSE rfl;exact ktab_of Z05 Z03 Z04 wT5_WORSE rfl;exact ktab_of Z05 Z03 Z04 wT6_WORSE rfl;exact ktab_of Z05 Z03 Z04 wT7_WORSE rfl;exact ktab_of Z05 Z03 Z04 wT8_WORSE rfl;exact ktab_of Z05 Z03 Z04 wT9_WORSE rfl
 have Z4f:=F49.d B a49 (Z8t F49 T Zh Z11 Z2r D_w0 D_w1 D_w2 D_u0 D_u1 D_u2 D_wn) (F49.e2 fun _ _ _ _ _ _ _ _=>rfl)
 have Zi:=F50.d B a50 (Z8u F50 T) (F50.e2 fun _ _ _ _ _ _ _ _=>rfl)
 have Z65:=F51.d B a51 (Z9t F51 T) (F51.e2 fun _ _ _ _ _ _ _ _=>rfl)
 have Z66:=F52.d B a52 (Z9u F52 T) (F52.e2 fun _ _ _ _ _ _ _ _=>rfl)
 have Ze:=F53.d B a53 (Z64 F53 T) (F53.e3 fun _ _ _ _ _ _ _ _ _=>rfl)
 have Z0p:=F54.d B a54 (Z97 F54 T) (F54.e2 fun _ _ _ _ _ _ _ _=>rfl)
 have Z4u:∀C i,(C,i)∈([(Z1,(Str.ofString "unknown")),(Z2,(Str.ofString "too wide")),(Z4,(Str.ofString "no number")),(Z7,(Str.ofString "too many")),(Z8,(Str.ofString "no rule"))]:List (Addr×Str))→DefMH l.prog w K mg base (CXF l.prog w) 1 C "word" ["self"] (sp67_word i)∧ExcG K C:=fun C i h=>by simp only [List.mem_cons,List.not_mem_nil,or_false,Prod.mk.injEq]at h;rcases h with ⟨rfl,rfl⟩ | ⟨rfl,rfl⟩ | ⟨rfl,rfl⟩ | ⟨rfl,rfl⟩ | ⟨rfl,rfl⟩;exact ⟨Z7y,T.Zbh⟩;exact ⟨Z7z,T.Zbi⟩;exact ⟨Z7j,T.Z9p⟩;exact ⟨Z80,T.Zbj⟩;exact ⟨Z8i,T.Zc9⟩
 have Z1u:=F55.d B a55 (Z8v F55 T Z0l Z4e Z4f Z4u) (F55.e2 fun _ _ _ _ _ _ _ _=>rfl)
 have Z3v:=F56.d B a56 (Z8f F56 T Ze) (F56.e4 fun _ _ _ _ _ _ _ _ _ _=>rfl)
 have Z4g:=F57.d B a57 (Z8w F57 T Ze) (F57.e1 fun _ _ _ _ _ _ _=>rfl)
 have Z38:=F58.d B a58 (Z7u F58 T Ze) (F58.e2 fun _ _ _ _ _ _ _ _=>rfl)
 have Z6x:=F59.d B a59 (Zbm F59 T Zi) (F59.e3 fun _ _ _ _ _ _ _ _ _=>rfl)
 exact Zck F60 T Zi Z65 Z66 Z0k Z6x Z0p Z51 Z1u Z3v Z4g Z38
end K67
open PySem PySem.W PyProof.Rows
set_option maxRecDepth 100000 in
set_option maxHeartbeats 0 in
theorem PySem.Challenge.cw_castoff_k67_what_is_refused_here_holds : PySem.Challenge.rw_castoff_k67_what_is_refused_here.Holds := by
 refine hd67 ?_
 k_fill
 refine L2.walk_ofKF (l:=PySem.Challenge.rw_castoff_k67_what_is_refused_here) (n:=63) (k:=13) (x:="_law_script") (sp:=N1.sp_law) rfl (by decide) rfl ⟨rfl,by decide,by decide⟩ (fun w h Y=>PySem.W.kIn_of Y) ?F ?S
 case F=>
  intro w mg fa h KX G hmg
  refine' K67.all_mk KX G hmg ?a0 ?FF0 ?a1 ?FF1 ?a2 ?FF2 ?a3 ?FF3 ?a4 ?FF4 ?MI5 ?FF5 ?a6 ?l6 ?c6 ?k6 ?kf6 ?hc6 ?a7 ?l7 ?c7 ?k7 ?kf7 ?hc7 ?MM8 ?FF8 ?MM9 ?FF9 ?MM10 ?FF10 ?a11 ?FF11 ?a12 ?FF12 ?MM13 ?FF13 ?MM14 ?FF14 ?MM15 ?FF15 ?MM16 ?FF16 ?MM17 ?FF17 ?MI18 ?FF18 ?MM19 ?FF19 ?MM20 ?FF20 ?MM21 ?FF21 ?MM22 ?FF22 ?MM23 ?FF23 ?a24 ?FF24 ?a25 ?FF25 ?a26 ?FF26 ?a27 ?l27 ?c27 ?n27 ?k27 ?m27 ?kf27 ?fc27 ?sc27 ?rc27 ?a28 ?l28 ?c28 ?n28 ?k28 ?m28 ?kf28 ?fc28 ?sc28 ?rc28 ?MI29 ?FF29 ?MM30 ?FF30 ?MM31 ?FF31 ?a32 ?l32 ?c32 ?n32 ?k32 ?gv32 ?tv32 ?MM33 ?FF33 ?MM34 ?FF34 ?MM35 ?FF35 ?a36 ?FF36 ?a37 ?FF37 ?a38 ?FF38 ?a39 ?FF39 ?a40 ?FF40 ?a41 ?FF41 ?a42 ?FF42 ?a43 ?FF43 ?a44 ?FF44 ?a45 ?FF45 ?a46 ?FF46 ?a47 ?FF47 ?a48 ?FF48 ?a49 ?FF49 ?a50 ?FF50 ?a51 ?FF51 ?a52 ?FF52 ?a53 ?FF53 ?a54 ?FF54 ?a55 ?FF55 ?a56 ?FF56 ?a57 ?FF57 ?a58 ?FF58 ?a59 ?FF59 ?a60 ?l60 ?c60 ?k60 ?Z0o ?Zo ?Z3a ?Z4t ?Z4v ?Z29 ?Z6j ?Z71 ?Z24 ?Z72 ?Z0e ?Z73 ?Z8j ?Z74 ?Z3f ?Z75 ?Z76 ?Z0d ?Z2u ?Z15 ?Z0t ?Z1t ?Zw ?Z0u ?Z00 ?Z0v ?Z0g ?Z6k ?EE_Stock ?Zl ?Z6l ?EE_Shelf ?Zv ?Z08 ?Zp ?Z7h ?EE_Rule ?Z26 ?Z1w ?Z52 ?EE_Ranked ?Z1e ?Z10 ?Z0m ?Z1x ?Z6m ?EE_First ?Z02 ?Zy ?Zq ?Z0f ?Zz ?Z4h ?Z3y ?Z3z ?Z53 ?Z67 ?Z6z ?lA ?lNA ?sNA ?iNA ?Z4j ?Z4k ?Z4l ?Z4m ?Z4n ?Z55 ?Z56 ?Z57 ?Z58 ?Z59 ?Z69 ?Z6a ?Z6b ?Z6c ?Z6d ?Z3d ?Z5b ?Z5c ?Z5d ?Z5e ?Z5f ?Z5g ?Zt ?Zr ?Z3e ?Z5i ?Z5j ?Z5k ?Z5l ?Z5m ?Z5n ?Zu ?Zs ?Z5o ?Z5p ?Z5q ?Z5r ?Z4o ?Z4p ?Z5s ?Z5t ?Z6e ?Z6f ?Z1v ?Z18 ?Z19 ?Z25 ?Z1f ?Z1g ?Z1a ?Z0q ?Z0r ?Z1o ?Z1p ?Z1q ?Z1b ?Z1c ?Z0s ?Z1r ?Z1s ?Z0z ?Z22 ?Z23 ?Z1d ?Z39 ?Z3w ?Z2s ?Z2e ?Z4q ?Z4r ?Z4s ?Z2f ?Z2t ?Z70 ?Z7x ?Z6g ?Z6h ?Z6i ?wT0_MAKERS ?wT1_MAKERS ?wT2_MAKERS ?wT3_MAKERS ?wT4_MAKERS ?wT5_MAKERS ?wT6_MAKERS ?Z03 ?Z04 ?Z05 ?wT0_WORSE ?wT1_WORSE ?wT2_WORSE ?wT3_WORSE ?wT4_WORSE ?wT5_WORSE ?wT6_WORSE ?wT7_WORSE ?wT8_WORSE ?wT9_WORSE ?lU_U0 ?lU_U1 ?lU_U2
  case Z6k|Z6l|Z7h|Z52|Z6m|Z4h|Z3y|Z3z|Z53|Z67|Z6z|Z39|Z3w|Z2s|Z2e|Z4q|Z4r|Z4s|Z2f|Z2t|Z70|Z7x|a0|a1|a2|a3|a4|a6|l6|c6|k6|kf6=>k_is
  case hc6=>rfl
  case a7|l7|c7|k7|kf7=>k_is
  case hc7=>rfl
  case a11|a12|a24|a25|a26|a27|l27|c27|n27|k27|m27|kf27|fc27|sc27|rc27|a28|l28|c28|n28|k28|m28|kf28|fc28|sc28|rc28|a32|l32|c32|n32|k32|gv32|tv32|a36|a37|a38|a39|a40|a41|a42|a43|a44|a45|a46|a47|a48|a49|a50|a51|a52|a53|a54|a55|a56|a57|a58|a59|a60|l60|c60|k60|Z0o|Zo|Z3a|Z4t|Z4v|Z29|Z6j|Z71|Z24|Z72|Z0e|Z73|Z8j|Z74|Z3f|Z75|Z76|Z0d|Z2u|Z15|Z0t|Z1t|Zw|Z0u|Z00|Z0v|Z0g|Zl|Zv|Z08|Zp|Z26|Z1w|Z1e|Z10|Z0m|Z1x|Z02|Zy|Zq|Z0f|Zz|lA|lNA=>k_is
  case sNA|iNA=>rfl
  case Z4j|Z4k=>k_is
  case Z4l|Z4m=>rfl
  case Z4n|Z55|Z56=>k_is
  case Z57|Z58=>rfl
  case Z59|Z69|Z6a=>k_is
  case Z6b|Z6c=>rfl
  case Z6d|Z3d|Z5b=>k_is
  case Z5c|Z5d=>rfl
  case Z5e|Z5f|Z5g|Zt|Zr|Z3e|Z5i=>k_is
  case Z5j|Z5k=>rfl
  case Z5l|Z5m|Z5n|Zu|Zs|Z5o|Z5p|Z5q|Z5r|Z4o|Z4p|Z5s|Z5t|Z6e|Z6f|Z1v|Z18|Z19|Z25|Z1f|Z1g|Z1a|Z0q|Z0r|Z1o|Z1p|Z1q|Z1b|Z1c|Z0s|Z1r|Z1s|Z0z|Z22|Z23|Z1d|Z6g=>k_is
  (case Z6h=>exact ⟨⟨_,_,rfl,rfl⟩,⟨_,_,rfl,rfl⟩,⟨_,_,rfl,rfl⟩,⟨_,_,rfl,rfl⟩,⟨_,_,rfl,rfl⟩,⟨_,_,rfl,rfl⟩,⟨_,_,rfl,rfl⟩,trivial⟩)
  (case Z6i=>first | k_is | rfl | decide)
  case wT0_MAKERS|wT1_MAKERS|wT2_MAKERS|wT3_MAKERS|wT4_MAKERS|wT5_MAKERS|wT6_MAKERS|Z03=>k_is
  (case Z04=>exact ⟨⟨_,_,rfl,rfl⟩,⟨_,_,rfl,rfl⟩,⟨_,_,rfl,rfl⟩,trivial⟩)
  (case Z05=>first | k_is | rfl | decide)
  case wT0_WORSE|wT1_WORSE|wT2_WORSE|wT3_WORSE|wT4_WORSE|wT5_WORSE|wT6_WORSE|wT7_WORSE|wT8_WORSE|wT9_WORSE|lU_U0|lU_U1|lU_U2=>k_is
  case EE_Stock|EE_Shelf|EE_Rule|EE_Ranked|EE_First|MI5|MI18|MI29=>refine' ⟨?j1,?j2,?j3,?j4⟩;case j1|j2|j3|j4=>k_is
  case MM8|MM9|MM10|MM13|MM14|MM15|MM16|MM17|MM19|MM20|MM21|MM22|MM23|MM30|MM31|MM33|MM34|MM35=>refine' ⟨?j1,?j2,?j3⟩;case j1|j2|j3=>k_is
  case FF0|FF1|FF2|FF3|FF4|FF5|FF8|FF9|FF10|FF11|FF12|FF13|FF14|FF15|FF16|FF17|FF18|FF19|FF20|FF21|FF22|FF23|FF24|FF25|FF26|FF29|FF30|FF31|FF33|FF34|FF35|FF36|FF37|FF38|FF39|FF40|FF41|FF42|FF43|FF44|FF45|FF46|FF47|FF48|FF49|FF50|FF51|FF52|FF53|FF54|FF55|FF56|FF57|FF58|FF59=>refine' L2.fun_mk ?l ?c ?k;case l|c|k=>k_is
 case S=>exact fun K H a ns hl hO hS=>⟨a,ns,rfl,hS,hl,fun _=>rfl⟩
