import PyProof.Rows.All
import KE.KSuperObj
import KE.KPairComp
import KE.KLam
import KE.KNestM
import KE.KItemsList
import KE.KUnpack
import KE.KEqDict
import KE.KFromBytes
import KE.KMinKey
import KE.KIntText
import KE.KRevIter
import KE.KDictOf
import KE.KTryMore
import KE.KBoundM
import KE.KNestM
import KE.KLam
import PySem.Challenge.RW_castoff_k93_whole_sizes_books_and_towers
set_option linter.all false
set_option compiler.extract_closed false
set_option genSizeOf false
set_option Elab.async false
set_option maxRecDepth 100000
set_option maxHeartbeats 4000000
namespace PySem.W.Fast
theorem tw6724408316308203091:True:=⟨⟩
theorem tw7301513798617099046:True:=⟨⟩
theorem tw14752154615079908332:True:=⟨⟩
theorem tw14360786649407695060:True:=⟨⟩
theorem tw16942729134392588487:True:=⟨⟩
theorem tw17854839210673387706:True:=⟨⟩
theorem tw12661037742040174142:True:=⟨⟩
theorem tw4637605772258810422:True:=⟨⟩
theorem tw17014930455343978215:True:=⟨⟩
theorem tw9905638214306205204:True:=⟨⟩
theorem tw453340604425709894:True:=⟨⟩
theorem tw4978028849367683417:True:=⟨⟩
theorem tw9756508052781831945:True:=⟨⟩
theorem tw14734237972561475938:True:=⟨⟩
theorem tw10524268081788126298:True:=⟨⟩
theorem tw7237289879661151323:True:=⟨⟩
theorem tw15433159087265359541:True:=⟨⟩
theorem tw13129156183731286527:True:=⟨⟩
theorem tw14705849433449124277:True:=⟨⟩
theorem tw5166393828032287685:True:=⟨⟩
theorem tw8783268690759241599:True:=⟨⟩
theorem tw2097146576005075098:True:=⟨⟩
theorem tw13426601391732589832:True:=⟨⟩
theorem tw14859706576857850260:True:=⟨⟩
theorem tw5751099026954837473:True:=⟨⟩
theorem tw9918884713949984678:True:=⟨⟩
theorem tw407982986840072984:True:=⟨⟩
theorem tw7412343787392838804:True:=⟨⟩
theorem tw14402775314709940090:True:=⟨⟩
theorem tw8478105737444127406:True:=⟨⟩
theorem tw9322129323904615853:True:=⟨⟩
theorem tw5927493193203052886:True:=⟨⟩
theorem tw3987370278913164706:True:=⟨⟩
theorem tw12842623263797286808:True:=⟨⟩
theorem tw817470180835106663:True:=⟨⟩
theorem tw14156726088798000042:True:=⟨⟩
theorem tw8377006546636777422:True:=⟨⟩
theorem tw3279780356120839933:True:=⟨⟩
theorem tw15593990945242706279:True:=⟨⟩
theorem tw6244837872312027694:True:=⟨⟩
theorem tw13594872998748149090:True:=⟨⟩
theorem tw18254079408141271709:True:=⟨⟩
theorem tw16370545897403931257:True:=⟨⟩
theorem tw15925180111003199831:True:=⟨⟩
theorem tw11205312927101712845:True:=⟨⟩
theorem tw10282003480660306228:True:=⟨⟩
theorem tw5632450933911735720:True:=⟨⟩
theorem tw17740211830499095329:True:=⟨⟩
theorem tw1526462011971543727:True:=⟨⟩
theorem tw5825728568641855462:True:=⟨⟩
theorem tw12807785229021225644:True:=⟨⟩
theorem tw9876736913551278148:True:=⟨⟩
theorem tw8554759738471987246:True:=⟨⟩
theorem tw1067614881968661513:True:=⟨⟩
theorem tw11120994715343679000:True:=⟨⟩
theorem tw14822061543669076556:True:=⟨⟩
theorem tw9382195935248474962:True:=⟨⟩
theorem tw6344596058459371270:True:=⟨⟩
theorem tw18271112920090172979:True:=⟨⟩
theorem tw8857706918887453240:True:=⟨⟩
theorem tw12024668428163391377:True:=⟨⟩
theorem tw14386845240812004808:True:=⟨⟩
theorem tw11141656413620949213:True:=⟨⟩
theorem tw846265879229516011:True:=⟨⟩
theorem tw15307302540832759134:True:=⟨⟩
theorem tw13837407691563038160:True:=⟨⟩
theorem tw15240726860134789468:True:=⟨⟩
theorem tw735024356416539292:True:=⟨⟩
theorem tw3475369009564738303:True:=⟨⟩
theorem tw7581308049389271601:True:=⟨⟩
theorem tw4096548235001110343:True:=⟨⟩
theorem tw4419752416106105880:True:=⟨⟩
theorem tw14936155429651685909:True:=⟨⟩
theorem tw11609261101313633472:True:=⟨⟩
theorem tw14555816807124502522:True:=⟨⟩
theorem tw17233293826647684658:True:=⟨⟩
theorem tw10720307999132361242:True:=⟨⟩
theorem tw9223989498164560015:True:=⟨⟩
theorem tw14869563856279863833:True:=⟨⟩
theorem tw16295789353373640339:True:=⟨⟩
theorem tw5223713168672325313:True:=⟨⟩
theorem tw7529220687391290574:True:=⟨⟩
theorem tw2976754994118484159:True:=⟨⟩
theorem tw12187793591480062505:True:=⟨⟩
theorem tw4308445517295843500:True:=⟨⟩
theorem tw11865273737317599078:True:=⟨⟩
theorem tw12511466409516600712:True:=⟨⟩
theorem tw17994058800020711836:True:=⟨⟩
theorem tw17420007421760770668:True:=⟨⟩
theorem tw4638684847387069206:True:=⟨⟩
theorem tw16047327217144578528:True:=⟨⟩
theorem tw9159468443154557375:True:=⟨⟩
theorem tw496327854460868873:True:=⟨⟩
theorem tw17573293578687907162:True:=⟨⟩
theorem tw4667651748512988043:True:=⟨⟩
theorem tw14469032833921129078:True:=⟨⟩
theorem tw12145235731434891842:True:=⟨⟩
theorem tw12606492513231130827:True:=⟨⟩
theorem tw16312269431629513471:True:=⟨⟩
theorem tw5748263232677288963:True:=⟨⟩
theorem tw13596210430570579106:True:=⟨⟩
theorem tw12768524575436056307:True:=⟨⟩
theorem tw15719093421982753049:True:=⟨⟩
theorem tw5713495880310209779:True:=⟨⟩
theorem tw5623591580163159760:True:=⟨⟩
theorem tw15230325297390381941:True:=⟨⟩
theorem tw4743708839505437783:True:=⟨⟩
theorem tw10937114795883743351:True:=⟨⟩
theorem tw4933617843790108245:True:=⟨⟩
theorem tw8556502164507426677:True:=⟨⟩
theorem tw12984463157642174038:True:=⟨⟩
theorem tw10137917288717732337:True:=⟨⟩
theorem tw12664085488190464148:True:=⟨⟩
theorem tw13696954211818214636:True:=⟨⟩
theorem tw4912267042293519723:True:=⟨⟩
theorem tw9196558115918482878:True:=⟨⟩
theorem tw1939607649354256438:True:=⟨⟩
theorem tw969637973207623120:True:=⟨⟩
theorem tw591628043264386279:True:=⟨⟩
theorem tw6005045208317765338:True:=⟨⟩
theorem tw4093087301805008218:True:=⟨⟩
theorem tw13852874653534624410:True:=⟨⟩
theorem tw2011167519047174701:True:=⟨⟩
theorem tw4819102976120292386:True:=⟨⟩
theorem tw13282815417650960065:True:=⟨⟩
theorem tw10949144732001496942:True:=⟨⟩
theorem tw16460210833868458788:True:=⟨⟩
theorem tw803987274321567747:True:=⟨⟩
theorem tw14264009595510002786:True:=⟨⟩
theorem tw17827920659560205087:True:=⟨⟩
theorem tw17537852204312385905:True:=⟨⟩
theorem tw8250451479987910261:True:=⟨⟩
theorem tw6011695481833021230:True:=⟨⟩
theorem tw14189180062568660085:True:=⟨⟩
theorem tw15301879536154982912:True:=⟨⟩
theorem tw7049614661510311160:True:=⟨⟩
theorem tw5359215192093086068:True:=⟨⟩
theorem tw3644888843672242025:True:=⟨⟩
theorem tw14954155006918496162:True:=⟨⟩
theorem tw12559398769705580518:True:=⟨⟩
theorem tw15087633447474704337:True:=⟨⟩
theorem tw17704290823317890453:True:=⟨⟩
theorem tw11967194479727949908:True:=⟨⟩
theorem tw14706025248911707678:True:=⟨⟩
theorem tw564700944322988574:True:=⟨⟩
theorem tw14143340200470761430:True:=⟨⟩
theorem tw15540796152563336137:True:=⟨⟩
theorem tw9338376277352439117:True:=⟨⟩
theorem tw4901768649867590579:True:=⟨⟩
theorem tw17283767056481396826:True:=⟨⟩
theorem tw1147655644332549619:True:=⟨⟩
theorem tw8758214467265972699:True:=⟨⟩
theorem tw5162750657349483295:True:=⟨⟩
theorem tw7339294081033134658:True:=⟨⟩
theorem tw7726742506867337808:True:=⟨⟩
theorem tw2918396496777976582:True:=⟨⟩
theorem tw2068726485587812613:True:=⟨⟩
theorem tw5600297799693095017:True:=⟨⟩
theorem tw3835466439997282620:True:=⟨⟩
theorem tw12726086327150533587:True:=⟨⟩
theorem tw2436937308824229150:True:=⟨⟩
theorem tw2479922702825898728:True:=⟨⟩
theorem tw5937857847822538247:True:=⟨⟩
theorem tw12587329846104098182:True:=⟨⟩
theorem tw14350100405066210117:True:=⟨⟩
theorem tw16778588960162803596:True:=⟨⟩
theorem tw7410685938772618834:True:=⟨⟩
theorem tw13983841115805135684:True:=⟨⟩
theorem tw6459586113957192681:True:=⟨⟩
theorem tw18244099038811464132:True:=⟨⟩
theorem tw2393442148517616796:True:=⟨⟩
theorem tw11965182461451365168:True:=⟨⟩
theorem tw12871149932509473132:True:=⟨⟩
theorem tw18230843123561370419:True:=⟨⟩
theorem tw2034353277218681032:True:=⟨⟩
theorem tw15999533240384594345:True:=⟨⟩
theorem tw5722271844244349839:True:=⟨⟩
theorem tw12927998097200340031:True:=⟨⟩
theorem tw5120709888196163789:True:=⟨⟩
theorem tw15320698084925633051:True:=⟨⟩
theorem tw3677637830664624484:True:=⟨⟩
theorem tw18169588234083284691:True:=⟨⟩
theorem tw9667469851275174662:True:=⟨⟩
theorem tw9955025458110495120:True:=⟨⟩
theorem tw12131393946303758865:True:=⟨⟩
theorem tw2258332374268392240:True:=⟨⟩
theorem tw17755932740430221759:True:=⟨⟩
theorem tw15015044804796283575:True:=⟨⟩
theorem tw5740064607780913832:True:=⟨⟩
theorem tw15625425108662958479:True:=⟨⟩
theorem tw14284666018909100604:True:=⟨⟩
theorem tw8682850190577818439:True:=⟨⟩
theorem tw16147876010091308644:True:=⟨⟩
theorem tw4022178894291974581:True:=⟨⟩
theorem tw11468226294006974793:True:=⟨⟩
theorem tw16676218518414645859:True:=⟨⟩
theorem tw11190315436290793665:True:=⟨⟩
theorem tw8380939670673167572:True:=⟨⟩
theorem tw17496922055950494997:True:=⟨⟩
theorem tw13880484236604621131:True:=⟨⟩
theorem tw14575944632805891176:True:=⟨⟩
theorem tw1323855203832810591:True:=⟨⟩
theorem tw16736880257112150314:True:=⟨⟩
theorem tw3950152666529800052:True:=⟨⟩
theorem tw6256385076048527593:True:=⟨⟩
theorem tw17436916940861932854:True:=⟨⟩
theorem tw9200046904637069279:True:=⟨⟩
theorem tw3232067833581508788:True:=⟨⟩
theorem tw586529231080864656:True:=⟨⟩
theorem tw9955713130464119508:True:=⟨⟩
theorem tw7427057551035108049:True:=⟨⟩
theorem tw8808429256650843732:True:=⟨⟩
theorem tw2992124617263254072:True:=⟨⟩
theorem tw18026125047446082445:True:=⟨⟩
theorem tw2419315226069521950:True:=⟨⟩
theorem tw8163592486821698560:True:=⟨⟩
theorem tw7473564226610139561:True:=⟨⟩
theorem tw330064610692936814:True:=⟨⟩
theorem tw11958202392889594160:True:=⟨⟩
theorem tw9141326627017551494:True:=⟨⟩
theorem tw13100374027151636329:True:=⟨⟩
theorem tw14752866576380141689:True:=⟨⟩
theorem tw4832363702557335743:True:=⟨⟩
theorem tw3614741585539536915:True:=⟨⟩
theorem tw12029422843309815413:True:=⟨⟩
theorem tw10706051983695429777:True:=⟨⟩
theorem tw1385064323071587456:True:=⟨⟩
theorem tw3118335231384591143:True:=⟨⟩
theorem tw17535997409980945417:True:=⟨⟩
theorem tw17033021478530918389:True:=⟨⟩
theorem tw4463713577071148705:True:=⟨⟩
theorem tw7917432071947099866:True:=⟨⟩
theorem tw19822149990673961:True:=⟨⟩
theorem tw3470490106886745849:True:=⟨⟩
theorem tw9067489704230363674:True:=⟨⟩
theorem tw899250483273585740:True:=⟨⟩
theorem tw11144077154828221158:True:=⟨⟩
theorem tw4622030603910064976:True:=⟨⟩
theorem tw17773978670790082209:True:=⟨⟩
theorem tw10681677715112176792:True:=⟨⟩
theorem tw15056499333571428666:True:=⟨⟩
theorem tw17770686022932886870:True:=⟨⟩
theorem tw10312492679305637516:True:=⟨⟩
theorem tw1585987221442541439:True:=⟨⟩
theorem tw16366429631059171787:True:=⟨⟩
theorem tw11416382780303007245:True:=⟨⟩
theorem tw5189258866570726378:True:=⟨⟩
theorem tw3196897279957110032:True:=⟨⟩
theorem tw18299319786278524943:True:=⟨⟩
theorem tw16562777570609948943:True:=⟨⟩
theorem tw11673477729610489188:True:=⟨⟩
theorem tw1150250208286580235:True:=⟨⟩
theorem tw16270026637131344730:True:=⟨⟩
theorem tw5433945926510171473:True:=⟨⟩
theorem tw17085052882645744776:True:=⟨⟩
theorem tw4075630391889285722:True:=⟨⟩
theorem tw17164121116256568629:True:=⟨⟩
theorem tw5415744442851827764:True:=⟨⟩
theorem tw15007437785291456443:True:=⟨⟩
theorem tw15513709297634836295:True:=⟨⟩
theorem tw3038034248005020147:True:=⟨⟩
theorem tw7993797258784877798:True:=⟨⟩
theorem tw15277755158414991192:True:=⟨⟩
theorem tw9347227308654024490:True:=⟨⟩
theorem tw6498434911535603025:True:=⟨⟩
theorem tw16082526933630919827:True:=⟨⟩
theorem tw1560816640279884411:True:=⟨⟩
theorem tw4398788858627540984:True:=⟨⟩
theorem tw1761995570212238:True:=⟨⟩
theorem tw12028221545246762692:True:=⟨⟩
theorem tw3515642038730564587:True:=⟨⟩
theorem tw14381143458848222850:True:=⟨⟩
theorem tw2367106918381079452:True:=⟨⟩
theorem tw10894126443145166305:True:=⟨⟩
theorem tw17568658059525857153:True:=⟨⟩
theorem tw17447313732038302990:True:=⟨⟩
theorem tw15297368160098042018:True:=⟨⟩
theorem tw15078486707950066425:True:=⟨⟩
theorem tw1607733398954396077:True:=⟨⟩
theorem tw16068093322565234289:True:=⟨⟩
theorem tw2531525536995736125:True:=⟨⟩
theorem tw12401632862715636156:True:=⟨⟩
theorem tw17384952719472418015:True:=⟨⟩
theorem tw14471689404416675810:True:=⟨⟩
theorem tw4110841224274307659:True:=⟨⟩
theorem tw16694902501808784187:True:=⟨⟩
theorem tw9840959823891961998:True:=⟨⟩
theorem tw9885158567092816409:True:=⟨⟩
theorem tw5698929364958791016:True:=⟨⟩
theorem tw3680799233443478711:True:=⟨⟩
theorem tw4751922883615908703:True:=⟨⟩
theorem tw10345605250349790805:True:=⟨⟩
theorem tw11686499347391096822:True:=⟨⟩
theorem tw7486914351257998737:True:=⟨⟩
theorem tw9492104273334397941:True:=⟨⟩
theorem tw9558061100753425851:True:=⟨⟩
theorem tw11329411116863699817:True:=⟨⟩
theorem tw11436419334315913494:True:=⟨⟩
theorem tw6755947119156572566:True:=⟨⟩
theorem tw8574744034738642715:True:=⟨⟩
theorem tw16687312967903621648:True:=⟨⟩
theorem tw7854746884419023118:True:=⟨⟩
theorem tw6276034635463613080:True:=⟨⟩
theorem tw12320007446294732685:True:=⟨⟩
theorem tw12207861630572153971:True:=⟨⟩
theorem tw13629884880740257397:True:=⟨⟩
theorem tw17998044017974134782:True:=⟨⟩
theorem tw14800093952554983411:True:=⟨⟩
theorem tw4573240769077664367:True:=⟨⟩
theorem tw16795765701286095674:True:=⟨⟩
theorem tw9967538710234660864:True:=⟨⟩
theorem tw1478771155723503926:True:=⟨⟩
theorem tw10790643493326203575:True:=⟨⟩
theorem tw841205683730779296:True:=⟨⟩
theorem tw13463886382531912553:True:=⟨⟩
theorem tw10735401000905399381:True:=⟨⟩
theorem tw13260876084945819250:True:=⟨⟩
theorem tw7731169674454378828:True:=⟨⟩
theorem tw593811905635957250:True:=⟨⟩
theorem tw4223200434310516237:True:=⟨⟩
theorem tw16573094782784959516:True:=⟨⟩
theorem tw5002018716008125281:True:=⟨⟩
theorem tw3560825671115601736:True:=⟨⟩
theorem tw15914310059428524009:True:=⟨⟩
theorem tw1614581103752082097:True:=⟨⟩
theorem tw7062139955694029861:True:=⟨⟩
theorem tw13699260966376007912:True:=⟨⟩
theorem tw14044195759943655610:True:=⟨⟩
theorem tw14475349049028907118:True:=⟨⟩
theorem tw17348875181944839888:True:=⟨⟩
theorem tw3934319559904945428:True:=⟨⟩
theorem tw16974850548248649025:True:=⟨⟩
theorem tw2553455128041338474:True:=⟨⟩
theorem tw6803615374747370695:True:=⟨⟩
theorem tw7823601750269569885:True:=⟨⟩
theorem tw8374510759898421153:True:=⟨⟩
theorem tw11469937893783613187:True:=⟨⟩
theorem tw293473672178663907:True:=⟨⟩
theorem tw13943813589714717119:True:=⟨⟩
theorem tw16946709363939712078:True:=⟨⟩
theorem tw2090573263654067387:True:=⟨⟩
theorem tw15013199554154632923:True:=⟨⟩
theorem tw8036634393702802298:True:=⟨⟩
theorem tw18282398912395916565:True:=⟨⟩
theorem tw15947179667037852363:True:=⟨⟩
theorem tw17940438535581637968:True:=⟨⟩
theorem tw14390334691010458858:True:=⟨⟩
theorem tw995691804836861040:True:=⟨⟩
theorem tw17325342037165026494:True:=⟨⟩
theorem tw8725882521248792355:True:=⟨⟩
theorem tw4756587239776889873:True:=⟨⟩
theorem tw4883237673670623754:True:=⟨⟩
theorem tw17888035096982313442:True:=⟨⟩
theorem tw7423744878445552352:True:=⟨⟩
theorem tw14099360104196352085:True:=⟨⟩
theorem tw9485191540123247456:True:=⟨⟩
theorem tw11413037048981451081:True:=⟨⟩
theorem tw11673219475661764092:True:=⟨⟩
theorem tw8255018316921455593:True:=⟨⟩
theorem tw1410778072296327191:True:=⟨⟩
theorem tw9765511261439963605:True:=⟨⟩
theorem tw2153899751085124476:True:=⟨⟩
theorem tw16053039188632263457:True:=⟨⟩
theorem tw213511677529136117:True:=⟨⟩
theorem tw2794898968875756889:True:=⟨⟩
theorem tw12180677731135787174:True:=⟨⟩
theorem tw7053836163161415235:True:=⟨⟩
theorem tw9475401949734716341:True:=⟨⟩
theorem tw12978714347652143766:True:=⟨⟩
theorem tw12461196820892974664:True:=⟨⟩
theorem tw16720240202529202936:True:=⟨⟩
theorem tw18173892558559031945:True:=⟨⟩
theorem tw5860478351149368048:True:=⟨⟩
theorem tw6099481814706403002:True:=⟨⟩
theorem tw12400742096679582521:True:=⟨⟩
theorem tw8656751161008296696:True:=⟨⟩
theorem tw12190653143020825002:True:=⟨⟩
theorem tw10508075676974288729:True:=⟨⟩
theorem tw13672993858299116058:True:=⟨⟩
theorem tw1851929373851165716:True:=⟨⟩
theorem tw11341083313526005758:True:=⟨⟩
theorem tw15090140780787883588:True:=⟨⟩
theorem tw1241128172486853361:True:=⟨⟩
theorem tw17234659573281185255:True:=⟨⟩
theorem tw13733481190126565320:True:=⟨⟩
theorem tw18372559782654545737:True:=⟨⟩
theorem tw13288166580546301090:True:=⟨⟩
theorem tw7689234603801949488:True:=⟨⟩
theorem tw8967301137139436781:True:=⟨⟩
theorem tw17082918981271102895:True:=⟨⟩
theorem tw14350790085223822701:True:=⟨⟩
theorem tw9515636476619740045:True:=⟨⟩
theorem tw4260301414503151812:True:=⟨⟩
theorem tw13281736039325133852:True:=⟨⟩
theorem tw10053709910991405955:True:=⟨⟩
theorem tw5113958996042946241:True:=⟨⟩
theorem tw1962877192121623698:True:=⟨⟩
theorem tw13222734989516145297:True:=⟨⟩
theorem tw18424478921550678466:True:=⟨⟩
theorem tw8198843687816951881:True:=⟨⟩
theorem tw2879564533955683447:True:=⟨⟩
theorem tw3781443545648158416:True:=⟨⟩
theorem tw9989529038994846496:True:=⟨⟩
theorem tw16312332620822347497:True:=⟨⟩
theorem tw15780499683391738355:True:=⟨⟩
theorem tw14074971343128367689:True:=⟨⟩
theorem tw12609982441049650222:True:=⟨⟩
theorem tw7447204082243663231:True:=⟨⟩
theorem tw18384035095215441904:True:=⟨⟩
theorem tw9752473779239378016:True:=⟨⟩
theorem tw10722300571821055933:True:=⟨⟩
theorem tw9991694657409807988:True:=⟨⟩
theorem tw14591107603528487506:True:=⟨⟩
theorem tw3549885850786584109:True:=⟨⟩
theorem tw4762125300452445505:True:=⟨⟩
theorem tw15659987260004388311:True:=⟨⟩
theorem tw12155782021197264618:True:=⟨⟩
theorem tw10114475444204648859:True:=⟨⟩
theorem tw15610390884161354487:True:=⟨⟩
theorem tw1646101333706679401:True:=⟨⟩
theorem tw12312938580996884936:True:=⟨⟩
theorem tw9424455786940541334:True:=⟨⟩
theorem tw15600312511608534105:True:=⟨⟩
theorem tw2825313633493208205:True:=⟨⟩
theorem tw4032064343190762150:True:=⟨⟩
theorem tw3554840385374241118:True:=⟨⟩
theorem tw16275010061339657958:True:=⟨⟩
theorem tw9815634602674913141:True:=⟨⟩
theorem tw6022108822394185615:True:=⟨⟩
theorem tw3462020215046061876:True:=⟨⟩
theorem tw9647306929628741417:True:=⟨⟩
theorem tw13149358093567165145:True:=⟨⟩
theorem tw7767017715719951713:True:=⟨⟩
theorem tw2144336289389509786:True:=⟨⟩
theorem tw11446579179510713090:True:=⟨⟩
theorem tw16318582987872928764:True:=⟨⟩
theorem tw3887876078954011971:True:=⟨⟩
theorem tw1038413280083445196:True:=⟨⟩
theorem tw17819799425185171130:True:=⟨⟩
theorem tw7096672787335926779:True:=⟨⟩
theorem tw14896347173957604321:True:=⟨⟩
theorem tw11195641775611074609:True:=⟨⟩
theorem tw13977365063430929075:True:=⟨⟩
theorem tw13449707642933028997:True:=⟨⟩
theorem tw16278466527196142247:True:=⟨⟩
theorem tw1894287354927167893:True:=⟨⟩
theorem tw11510125256691025655:True:=⟨⟩
theorem tw7737221468071182663:True:=⟨⟩
theorem tw4922545124205911671:True:=⟨⟩
theorem tw407718850727922909:True:=⟨⟩
theorem tw2254566299096827827:True:=⟨⟩
theorem tw16176202817301557258:True:=⟨⟩
theorem tw5214125636647995622:True:=⟨⟩
theorem tw7337697893181474179:True:=⟨⟩
theorem tw3635912657205843935:True:=⟨⟩
theorem tw3730685091385854164:True:=⟨⟩
theorem tw10008172639547932331:True:=⟨⟩
theorem tw6687296274515251150:True:=⟨⟩
theorem tw17001503177707319630:True:=⟨⟩
theorem tw9446872192135362819:True:=⟨⟩
theorem tw15448171063558939516:True:=⟨⟩
theorem tw5360452355147020042:True:=⟨⟩
theorem tw6111357909313473399:True:=⟨⟩
theorem tw9916962638150282070:True:=⟨⟩
theorem tw12261888675455512031:True:=⟨⟩
theorem tw16655875212925607627:True:=⟨⟩
theorem tw16724855289385191306:True:=⟨⟩
theorem tw782927245940795141:True:=⟨⟩
theorem tw195006419471415074:True:=⟨⟩
theorem tw8937155891187222073:True:=⟨⟩
theorem tw16610519374744663223:True:=⟨⟩
theorem tw4508488385310072272:True:=⟨⟩
theorem tw1581571885948984154:True:=⟨⟩
theorem tw1618165382269075837:True:=⟨⟩
theorem tw8398969331104944747:True:=⟨⟩
theorem tw903654787478926201:True:=⟨⟩
theorem tw18013875354061108139:True:=⟨⟩
theorem tw297801702368358555:True:=⟨⟩
theorem tw1947574721582629942:True:=⟨⟩
theorem tw17702198642338423324:True:=⟨⟩
theorem tw8876809863300833058:True:=⟨⟩
theorem tw2216801808517844288:True:=⟨⟩
theorem tw963091563266748525:True:=⟨⟩
theorem tw2808379496321366377:True:=⟨⟩
theorem tw5964423931455577614:True:=⟨⟩
theorem tw12380676233765044907:True:=⟨⟩
theorem tw207605234344559753:True:=⟨⟩
theorem tw11307355874977849259:True:=⟨⟩
theorem tw4189973611006210282:True:=⟨⟩
theorem tw3386486202968354419:True:=⟨⟩
theorem tw7011696356006156963:True:=⟨⟩
theorem tw3088584627587050428:True:=⟨⟩
theorem tw4725865676918775440:True:=⟨⟩
theorem tw4632949633163806515:True:=⟨⟩
theorem tw8144744491478206270:True:=⟨⟩
theorem tw7631355054119081661:True:=⟨⟩
theorem tw6916579561950262528:True:=⟨⟩
theorem tw5421256515273124922:True:=⟨⟩
theorem tw7154077357482613654:True:=⟨⟩
theorem tw9384112929955216524:True:=⟨⟩
theorem tw11905904748906573419:True:=⟨⟩
theorem tw17718871544576836588:True:=⟨⟩
theorem tw13228299419819424207:True:=⟨⟩
theorem tw9442015863082223696:True:=⟨⟩
theorem tw16686601906778354496:True:=⟨⟩
theorem tw17339529544341010468:True:=⟨⟩
theorem tw13092607074058660809:True:=⟨⟩
theorem tw10056427663869711534:True:=⟨⟩
theorem tw16887295420289334879:True:=⟨⟩
theorem tw3489756893852955419:True:=⟨⟩
theorem tw7285810160557565498:True:=⟨⟩
theorem tw13638810097168069989:True:=⟨⟩
theorem tw13024216154034059899:True:=⟨⟩
theorem tw8286795803004931158:True:=⟨⟩
theorem tw3717999534887397176:True:=⟨⟩
theorem tw8926827319446299118:True:=⟨⟩
theorem tw14379037734498035644:True:=⟨⟩
theorem tw8577232978798333071:True:=⟨⟩
theorem tw2514064212816266709:True:=⟨⟩
theorem tw11871743753994994340:True:=⟨⟩
theorem tw13246684752760908279:True:=⟨⟩
theorem tw770961366925631123:True:=⟨⟩
theorem tw4058524752488761454:True:=⟨⟩
theorem tw15323074206428179352:True:=⟨⟩
theorem tw12232983368900385869:True:=⟨⟩
theorem tw10178335107700924863:True:=⟨⟩
theorem tw12486553311772606616:True:=⟨⟩
theorem tw10781319052898833098:True:=⟨⟩
theorem tw6231566433561297751:True:=⟨⟩
theorem tw8274317091547460819:True:=⟨⟩
theorem tw17082544657896762801:True:=⟨⟩
theorem tw12521010575282760767:True:=⟨⟩
theorem tw11570274032240162463:True:=⟨⟩
theorem tw4210846346201242623:True:=⟨⟩
theorem tw13744660835833022988:True:=⟨⟩
theorem tw16605362294068806535:True:=⟨⟩
theorem tw13193030405183076550:True:=⟨⟩
theorem tw17323423825066338638:True:=⟨⟩
theorem tw15741789182955767959:True:=⟨⟩
theorem tw2477737617349500157:True:=⟨⟩
theorem tw636259040520985410:True:=⟨⟩
theorem tw10262468211760164748:True:=⟨⟩
theorem tw8416817670641586892:True:=⟨⟩
theorem tw4347324750821922724:True:=⟨⟩
theorem tw5570180097620642649:True:=⟨⟩
theorem tw17953970001967830354:True:=⟨⟩
theorem tw3202419265481367185:True:=⟨⟩
theorem tw6870939837495446630:True:=⟨⟩
theorem tw12672792638282930932:True:=⟨⟩
theorem tw9243974517014016760:True:=⟨⟩
theorem tw14263153380965127360:True:=⟨⟩
theorem tw13907529435652089988:True:=⟨⟩
theorem tw13715050527715963978:True:=⟨⟩
theorem tw11357830466674169565:True:=⟨⟩
theorem tw8899826958628545798:True:=⟨⟩
theorem tw11182221414910596544:True:=⟨⟩
theorem tw12357553181629077199:True:=⟨⟩
theorem tw6446776842614970000:True:=⟨⟩
theorem tw10262506901837819124:True:=⟨⟩
theorem tw11316072658652377065:True:=⟨⟩
theorem tw16806192641693636875:True:=⟨⟩
theorem tw3574873732463717311:True:=⟨⟩
theorem tw2955021472881630217:True:=⟨⟩
theorem tw16122468989366866027:True:=⟨⟩
theorem tw10306810047953754120:True:=⟨⟩
theorem tw4509161063542747071:True:=⟨⟩
theorem tw953815095033259604:True:=⟨⟩
theorem tw18400035162133981311:True:=⟨⟩
theorem tw2612304926875687169:True:=⟨⟩
theorem tw3888791101623454137:True:=⟨⟩
theorem tw16384631624998668822:True:=⟨⟩
theorem tw10721620223305766431:True:=⟨⟩
theorem tw1891219159665386210:True:=⟨⟩
theorem tw1970656705975890203:True:=⟨⟩
theorem tw3004820903399726928:True:=⟨⟩
theorem tw4972002523668446726:True:=⟨⟩
theorem tw8358143912284105108:True:=⟨⟩
theorem tw6826888528451622785:True:=⟨⟩
theorem tw5281170420229246448:True:=⟨⟩
theorem tw915866381993155131:True:=⟨⟩
theorem tw6593959303875948512:True:=⟨⟩
theorem tw18020413742185885065:True:=⟨⟩
theorem tw12605501462521545016:True:=⟨⟩
theorem tw10198291994274581155:True:=⟨⟩
theorem tw13534111442505221585:True:=⟨⟩
theorem tw1574307406596074836:True:=⟨⟩
theorem tw7882088715363881325:True:=⟨⟩
theorem tw8529952302926387043:True:=⟨⟩
theorem tw14761525093012055593:True:=⟨⟩
theorem tw9015111642060233967:True:=⟨⟩
theorem tw10223493077679672723:True:=⟨⟩
theorem tw95494252087529551:True:=⟨⟩
theorem tw7280634834884476555:True:=⟨⟩
theorem tw2617058340035912408:True:=⟨⟩
theorem tw6381375389841651020:True:=⟨⟩
theorem tw4460588710613072040:True:=⟨⟩
theorem tw1422933247843871433:True:=⟨⟩
theorem tw17212642007825578723:True:=⟨⟩
theorem tw1783935297594184913:True:=⟨⟩
theorem tw14196752479281882128:True:=⟨⟩
theorem tw1881211917189517065:True:=⟨⟩
theorem tw2785433393624406485:True:=⟨⟩
theorem tw8289987010579445572:True:=⟨⟩
theorem tw3051437868766001574:True:=⟨⟩
theorem tw5644877566428850523:True:=⟨⟩
theorem tw5373919943776280276:True:=⟨⟩
theorem tw2915861790743145822:True:=⟨⟩
theorem tw16779353868102811565:True:=⟨⟩
theorem tw2302549270863174458:True:=⟨⟩
theorem tw3681689017773317112:True:=⟨⟩
theorem tw1745296528864032307:True:=⟨⟩
theorem tw1660602115685268614:True:=⟨⟩
theorem tw11733014427994201090:True:=⟨⟩
theorem tw10929760222572522569:True:=⟨⟩
theorem tw591737889021794216:True:=⟨⟩
theorem tw9611024490486396500:True:=⟨⟩
theorem tw7033418420213980931:True:=⟨⟩
theorem tw468426320768379773:True:=⟨⟩
theorem tw2113693811809027359:True:=⟨⟩
theorem tw2687708334976556455:True:=⟨⟩
theorem tw803692116032240887:True:=⟨⟩
theorem tw9033194257257948521:True:=⟨⟩
theorem tw10364002283806326040:True:=⟨⟩
theorem tw8946486701581048803:True:=⟨⟩
theorem tw8667084337032995496:True:=⟨⟩
theorem tw4301680659512318215:True:=⟨⟩
theorem tw14769965078247436006:True:=⟨⟩
theorem tw13451165630342947585:True:=⟨⟩
theorem tw4630997189791642848:True:=⟨⟩
theorem tw17372290393308167964:True:=⟨⟩
theorem tw4093710350507146950:True:=⟨⟩
theorem tw5907510485745819706:True:=⟨⟩
theorem tw4519456529696166997:True:=⟨⟩
theorem tw7007990446485696110:True:=⟨⟩
theorem tw12479420394322835370:True:=⟨⟩
theorem tw6825416468360057961:True:=⟨⟩
theorem tw11089270871029224984:True:=⟨⟩
theorem tw11090734936386925097:True:=⟨⟩
theorem tw12291463166027569553:True:=⟨⟩
theorem tw4080964099805553997:True:=⟨⟩
theorem tw4335379249381478383:True:=⟨⟩
theorem tw2081646546542179072:True:=⟨⟩
theorem tw7376367384006021771:True:=⟨⟩
theorem tw16933511161799891407:True:=⟨⟩
theorem tw5550689361892336:True:=⟨⟩
theorem tw4497696368567218808:True:=⟨⟩
theorem tw8645769813141766217:True:=⟨⟩
theorem tw2093303961802348723:True:=⟨⟩
theorem tw16531162545406634443:True:=⟨⟩
theorem tw572908051943541037:True:=⟨⟩
theorem tw12897465905566608936:True:=⟨⟩
theorem tw6227249803509314945:True:=⟨⟩
theorem tw8324040445777096690:True:=⟨⟩
theorem tw1107544535001185543:True:=⟨⟩
theorem tw1924540774429363958:True:=⟨⟩
theorem tw712748267379096386:True:=⟨⟩
theorem tw6582140360323025870:True:=⟨⟩
theorem tw13145536873309821020:True:=⟨⟩
theorem tw3064143383448454353:True:=⟨⟩
theorem tw10880242301158287254:True:=⟨⟩
theorem tw16781364958001798718:True:=⟨⟩
theorem tw3214119313222797974:True:=⟨⟩
theorem tw6491273530697980127:True:=⟨⟩
theorem tw17217646946110993394:True:=⟨⟩
end PySem.W.Fast
section
open PySem PySem.W PyProof.Rows
set_option maxHeartbeats 0
open_top hd93 for PySem.Challenge.rw_castoff_k93_whole_sizes_books_and_towers
end
def Fa:=@List.length_map
def Fb:=@List.getElem?_eq_getElem
def Fc:=@List.getD_eq_getElem?_getD
def Fd:=@PySem.wpAny_bind
def Fe:=@List.getElem?_eq_some_iff
def Ff:=@PySem.Heap.get?_push_of_some
def Fg:=@List.getElem?_map
def Fh:=@Nat.le_refl
def Fi:=@PySem.wpAny_pure
def Fj:=@List.mem_singleton
def Fk:=@List.mem_of_getElem?
def Fl:=@List.size_toArray
def Fm:=@PySem.Heap.lt_size
def Fn:=@List.mem_cons_of_mem
def Fo:=@PySem.Heap.get?_push_size
def Fq:=@Nat.lt_of_lt_of_le
def Fs:=@Nat.ne_of_lt
def Ft:=@Array.length_toList
def Fu:=@List.length_append
def Fv:=@List.length_range
def Fw:=@List.map_append
def Fx:=@decide_eq_true
def Fy:=@List.mem_cons
def Fz:=@decide_eq_false
def FA:=@List.mem_cons_self
def FB:=@Nat.zero_le
def FC:=@Nat.le_trans
def FD:=@Bool.false_ne_true
def FE:=@PySem.boot_len
def FF:=@List.mem_iff_getElem?
def FG:=@List.mem_append_right
def FH:=@List.mem_map
def FI:=@List.mem_append
def FJ:=@List.getElem?_append_left
def FK:=@PySem.F.plainAttrs_list
def FL:=@List.getElem?_append_right
def FM:=@Nat.lt_of_le_of_lt
def FN:=@List.getElem?_eq_none
def FO:=@PySem.F.type_list_append
def FP:=@PySem.F.slot_list_append
def FQ:=@List.take_of_length_le
def FR:=@List.map_map
def FS:=@Option.some.inj
def FT:=@List.append_nil
def FU:=@List.getElem_mem
def FV:=@Bool.and_eq_true
def FW:=@List.take_succ_cons
def FX:=@List.length_take
def FY:=@List.mem_range
def FZ:=@Array.getElem?_toList
def Ha:=@List.length_eq_zero_iff
def Hb:=@PySem.mem_of_lookup
def Hc:=@Nat.lt_irrefl
def Hd:=@List.getElem?_range
def He:=@List.lookup_cons
def Hf:=@List.all_eq_true
def Hg:=@List.take_add_one
def Hh:=@List.sum_cons
def Hi:=@PySem.Heap.SameBut.update
def Hj:=@List.nodup_cons
def Hl:=@PySem.wpAny_newObj_type
def Hm:=@Int.emod_lt_of_pos
def Hn:=@List.range_succ
def Ho:=@List.length_set
def Hq:=@List.nodup_append
def Hr:=@List.filter_cons_of_pos
def Hs:=@PySem.wpAny_mono
def Ht:=@Int.emod_nonneg
def Hu:=@Nat.lt_succ_self
def Hv:=@List.take_length
def Hw:=@List.length_drop
def Hx:=@Array.getElem?_eq_getElem
def Hy:=@PySem.W.kia_one
def Hz:=@PySem.wpAny_Call_Name_kw
def HC:=@List.filter_cons_of_neg
def HD:=@PySem.F.plain_min_loop
def HE:=@Nat.le_succ_of_le
def HF:=@Nat.le_of_lt
def HG:=@beq_eq_false_iff_ne
def HI:=@List.sum_append
def HJ:=@List.mem_filter
def HK:=@List.pairwise_iff_getElem
def HL:=@List.mem_of_mem_erase
def HM:=@PySem.Heap.get?_update_self
def HN:=@List.not_mem_nil
def HP:=@List.length_erase_of_mem
def HQ:=@List.nodup_nil
def HR:=@PySem.wpAny_setState_of
def HS:=@of_decide_eq_true
def HU:=@Nat.lt_succ_of_lt
def HV:=@List.append_assoc
def HW:=@PySem.codeAny_builtin
def HX:=@Nat.min_eq_left
def HY:=@PySem.codeAny_mono
def R0:=@PySem.Heap.get?_update_other
def R3:=@PySem.wpAny_holding
def R5:=@Nat.le_succ
def R6:=@PySem.wpAny_call_entry
def R7:=@beq_iff_eq
def R8:=@PySem.F.slot_dict_get
def R9:=@List.length_filter_le
def Ra:=@PySem.wpAny_truthy_bool
def Rb:=@PySem.lookup_relabel_local
def Rc:=@List.mem_of_mem_take
def Re:=@List.mem_append_left
def Rf:=@PySem.plainId_quiet
def Rg:=@List.replicate_succ
def Rh:=@List.filterMap_cons
def Ri:=@PySem.wpAny_callSpecial?_slot
def Rj:=@List.pairwise_singleton
def Rk:=@PySem.Heap.size_push
def Rm:=@PySem.tupleKind_room_in1
def Rn:=@PySem.W.callWith_K
def Ro:=@PySem.F.plainAttrs_str
def Rp:=@Nat.le_of_eq
def Rq:=@PySem.wpAny_passesOwn
def Rr:=@List.length_singleton
def Rt:=@PySem.wpAny_pyIter_list
def Ru:=@PyProof.Rows.callWith_type1
def Rv:=@List.mem_range'_1
def Rx:=@Array.getD_eq_getD_getElem?
def Ry:=@List.pairwise_append
def Rz:=@Int.le_refl
def RA:=@Nat.min_eq_right
def RB:=@List.mem_reverse
def RC:=@PySem.wpAny_setEntries_of
def RD:=@PySem.W.plainGet_of
def RE:=@List.map_congr_left
def RF:=@List.length_pos_iff
def RG:=@Option.isSome_iff_exists
def RH:=@List.map_take
def RI:=@List.find?_cons
def RJ:=@List.filter_nil
def RK:=@Bool.eq_iff_iff
def RL:=@PySem.call_meets
def RM:=@List.pairwise_cons
def RN:=@List.filter_append
def RO:=@PySem.F.plainAttrs_dict
def RP:=@List.eraseIdx_cons_succ
def RQ:=@PySem.wpAny_tryCatch
def RS:=@PySem.wpAny_setField
def RT:=@PySem.F.entry_dict_get
def RU:=@Nat.lt_trans
def RV:=@List.length_pos_of_mem
def RW:=@List.filter_congr
def RX:=@List.ext_getElem?
def RY:=@PySem.wpAny_call
def RZ:=@Nat.le_of_not_lt
def J0:=@Nat.le_add_right
def J1:=@List.filter_cons
def J2:=@List.any_cons
def J3:=@PySem.wpAny_updateSeq
def J4:=@Nat.not_lt_zero
def J5:=@PySem.call_meetsIn
def J6:=@Nat.sub_self
def J7:=@PySem.wpAny_seqItems
def J8:=@of_decide_eq_false
def J9:=@List.drop_zero
def Ja:=@List.Nodup.erase_eq_filter
def Jb:=@Array.getElem?_eq_some_iff
def Jc:=@List.getElem?_zip_eq_some
def Jd:=@PySem.sizeLine_eq
def Je:=@List.take_sublist
def Jf:=@List.reverse_perm
def Jg:=@List.reverse_cons
def Jh:=@List.pairwise_map
def Ji:=@List.flatten_cons
def Jj:=@List.Pairwise.imp_of_mem
def Jk:=@beq_self_eq_true
def Jl:=@Option.getD_none
def Jm:=@PySem.typeIs_str
def Jn:=@PySem.F.type_str_split
def Jo:=@PySem.F.slot_str_split
def Jp:=@PySem.F.entry_min_loop
def Jq:=@List.range_succ_eq_map
def Jr:=@PySem.wpAny_ite_split
def Js:=@PySem.wpAny_execs_nil
def Jt:=@List.of_mem_zip
def Ju:=@List.filter_map
def Jv:=@PySem.W.methodCall_KW
def Jw:=@List.take_append_drop
def Jx:=@List.length_replicate
def Jy:=@List.getElem?_toArray
def Jz:=@PySem.wpAny_fieldsOf
def JA:=@List.not_lt
def JB:=@List.mem_of_mem_drop
def JC:=@List.mem_erase_of_ne
def JD:=@List.getElem?_of_mem
def JE:=@List.erase_cons_tail
def JF:=@List.erase_cons_head
def JG:=@List.drop_drop
def JH:=@Array.toArray_toList
def JI:=@ne_true_of_eq_false
def JJ:=@PySem.wpAny_attempt
def JK:=@List.map_drop
def JL:=@List.all_cons
def JM:=@PySem.wpAny_rule
def JN:=@List.mem_filterMap
def JO:=@List.getElem?_drop
def JP:=@PySem.wpAny_Call_method
def JQ:=@PySem.fits_of_scanBound
def JR:=@Option.isSome_map
def JS:=@List.foldl_append
def JT:=@List.all_map
def JU:=@PySem.wpAny_isInstance
def JV:=@PySem.wpAny_askSetting
def JW:=@List.range'_succ
def JX:=@PySem.wpAny_of_eq
def JY:=@PySem.wpAny_letGo
noncomputable section
open PySem PySem.Spec PyProof.Rows
namespace L2
abbrev Key:=Sum Int Str
def N0:Key→Value→Bool
 | .inl k,v=>Value.isInt k v
 | .inr x,v=>Value.isStrOf x v
def Jd0(w:World):Key→Int
 | .inl k=>hashInt k
 | .inr x=>hashStr w x
theorem Bv:∀{k:Key} {v:Value},N0 k v=true→(∃i t,k=Sum.inl i∧v=Value.int i t)∨(∃x t,k=Sum.inr x∧v=Value.str x t)
 | .inl i,v,h=>by
  obtain ⟨t,e⟩:=Value.isInt_shape (k:=i) (v:=v) h;exact .inl ⟨i,t,rfl,e⟩
 | .inr x,v,h=>by
  obtain ⟨t,e⟩:=Value.isStrOf_shape (x:=x) (v:=v) h;exact .inr ⟨x,t,rfl,e⟩
theorem J09(i:Int)(t:Tok):N0 (.inl i) (.int i t)=true:=by simp [N0,Value.isInt]
theorem J0a(x:Str)(t:Tok):N0 (.inr x) (.str x t)=true:=by simp [N0,Value.isStrOf]
theorem J9s(a b:Int):decide ((Sum.inl a:Key)=Sum.inl b)=(a==b):=by
 by_cases e:a=b
 · subst e;simp
 · have h:¬(Sum.inl a:Key)=Sum.inl b:=fun q=>e (Sum.inl.inj q)
   rw [Fz h];exact (HG.mpr e).symm
theorem J9t(a b:Str):decide ((Sum.inr a:Key)=Sum.inr b)=decide (a=b):=by
 by_cases e:a=b
 · subst e;simp
 · have h:¬(Sum.inr a:Key)=Sum.inr b:=fun q=>e (Sum.inr.inj q)
   rw [Fz h,Fz e]
theorem J9u(a:Int)(b:Str):decide ((Sum.inl a:Key)=Sum.inr b)=false:=Fz (fun q=>nomatch q)
theorem J9v(a:Str)(b:Int):decide ((Sum.inr a:Key)=Sum.inl b)=false:=Fz (fun q=>nomatch q)
def B7(prog:Program)(w:World):PySem.KeyKind prog w Key where
 is:=N0
 hash:=Jd0 w
 inj:=fun v a b ha hb=>by
  rcases Bv ha with ⟨i,t,rfl,rfl⟩ | ⟨x,t,rfl,rfl⟩
  · rcases Bv hb with ⟨j,u,rfl,e⟩ | ⟨y,u,rfl,e⟩
    · injection e with e1 _;rw [e1]
    · exact nomatch e
  · rcases Bv hb with ⟨j,u,rfl,e⟩ | ⟨y,u,rfl,e⟩
    · exact nomatch e
    · injection e with e1 _;rw [e1]
 byValue:=fun k v h=>by
   rcases Bv h with ⟨i,t,rfl,rfl⟩ | ⟨x,t,rfl,rfl⟩ <;> rfl
 pyHash:=fun hv h=>by
  rcases Bv hv with ⟨i,t,rfl,rfl⟩ | ⟨x,t,rfl,rfl⟩
  · exact wpAny_pyHash_int h
  · exact wpAny_pyHash_str h
 eqBool:=fun hu hv h=>by
  rcases Bv hu with ⟨i,t,rfl,rfl⟩ | ⟨x,t,rfl,rfl⟩
  · rcases Bv hv with ⟨j,u,rfl,rfl⟩ | ⟨y,u,rfl,rfl⟩
    · rw [J9s]at h;exact wpAny_eqBool_int h
    · rw [J9u]at h;exact SeqAt.EqAt.int_str i t y u _ _ _ _ h
  · rcases Bv hv with ⟨j,u,rfl,rfl⟩ | ⟨y,u,rfl,rfl⟩
    · rw [J9v]at h;exact SeqAt.EqAt.str_int x t j u _ _ _ _ h
    · rw [J9t]at h;exact wpAny_eqBool_str h
 «strs»:=fun k x t v h=>by
  rcases Bv h with ⟨i,u,rfl,e⟩ | ⟨y,u,rfl,e⟩
  · exact nomatch e
  · injection e with e1 _
    subst e1
    cases v <;> rfl
theorem T4(prog:Program)(w:World)(i:Int)(t:Tok):(B7 prog w).is (.inl i) (.int i t)=true:=J09 i t
theorem T5(prog:Program)(w:World)(x:Str)(t:Tok):(B7 prog w).is (.inr x) (.str x t)=true:=J0a x t
end L2
namespace L2
inductive V where
 | non | bl (b:Bool) | int (i:Int) | str (x:Str) | byt (b:Array UInt8) | flt (b:UInt64) | ref (a:Addr) | ty (n:String)
 deriving DecidableEq
def Ax:V→Value→Prop
 | .non,u=>u=Value.none
 | .bl b,u=>u=Value.bool b
 | .int i,u=>∃t,u=Value.int i t
 | .str x,u=>∃t,u=Value.str x t
 | .byt b,u=>∃t,u=Value.bytes b t
 | .flt b,u=>∃t,u=Value.float b t
 | .ref a,u=>u=Value.ref a
 | .ty n,u=>u=Value.type n
abbrev Au:List V→List Value→Prop:=Paired Ax
theorem Au.length{xs:List V}{us:List Value}(r:Au xs us):xs.length=us.length:=Paired.length r
theorem Au.get:∀{xs:List V} {us:List Value} {i:Nat} {x:V},Au xs us→xs[i]?=some x→∃u,us[i]?=some u∧Ax x u
 | _,_,_,_,.nil,e=>by simp at e
 | _,_,0,_,.cons r _,e=>by simp at e;subst e;exact ⟨_,rfl,r⟩
 | _,_,i+1,x,.cons _ t,e=>by
  obtain ⟨u,h1,h2⟩:=Au.get (i:=i) (x:=x) t (by simpa using e);exact ⟨u,by simpa using h1,h2⟩
theorem Au.set{x:V}{u:Value}(r:Ax x u):∀{xs:List V} {us:List Value} (i:Nat),Au xs us→Au (xs.set i x) (us.set i u)
 | _,_,_,.nil=> .nil
 | _,_,0,.cons _ t=> .cons r t
 | _,_,i+1,.cons q t=> .cons q (Au.set r i t)
theorem Au.append:∀{xs ys:List V} {us ws:List Value},Au xs us→Au ys ws→Au (xs++ys) (us++ws)
 | _,_,_,_,.nil,s=>s
 | _,_,_,_,.cons r t,s=> .cons r (Au.append t s)
theorem Au.take:∀{xs:List V} {us:List Value} (n:Nat),Au xs us→Au (xs.take n) (us.take n)
 | _,_,0,_=> .nil
 | _,_,_+1,.nil=> .nil
 | _,_,n+1,.cons r t=> .cons r (Au.take n t)
theorem Au.drop:∀{xs:List V} {us:List Value} (n:Nat),Au xs us→Au (xs.drop n) (us.drop n)
 | _,_,0,r=>r
 | _,_,_+1,.nil=> .nil
 | _,_,n+1,.cons _ t=>Au.drop n t
def G1:Option V→Option Value→Prop
 | some v,some u=>Ax v u
 | none,none=>True
 | _,_=>False
def KV{κ:Type}:List (κ×V)→List (κ×Value)→Prop:=Paired fun (p:κ×V) (q:κ×Value)=>p.1=q.1∧Ax p.2 q.2
def kV:Key→V
 | .inl i=> .int i
 | .inr x=> .str x
inductive HO where
 | lst (xs:List V)
 | tup (xs:List V)
 | dK (kvs:List (Key×V)) | dT (kvs:List (List Key×V))
 | set (S:Int→Bool) (n:Nat)
 | ins (C dx:Addr) (fs:List (Str×V))
 | own (x:Addr)
 | xd (fs:List (Str×V))
 | met (f x:Addr)
 | rng (lo hi:Int)
 | frz (o:Obj) (u:HO)
 | tbl (ps:Array Value)
 | ext (φ:Heap→Prop)
abbrev Hp:=Addr→Option HO
def upd(H:Hp)(a:Addr)(o:HO):Hp:=fun b=>if b=a then some o else H b
theorem A3{H:Hp}{a:Addr}{o:HO}:upd H a o a=some o:=by unfold upd;rw [if_pos rfl]
theorem A2{H:Hp}{a b:Addr}{o:HO}(h:b≠a):upd H a o b=H b:=by unfold upd;rw [if_neg h]
theorem Qi{H:Hp}{a:Addr}{o u:HO}:upd (upd H a o) a u=upd H a u:=by
 funext b;unfold upd;split <;> rfl
theorem Az{H:Hp}{a b:Addr}{o u:HO}(h:H a=some o)(h':H b=some u)(d:o≠u):a≠b:=by
 intro e;subst e;rw [h]at h';exact d (FS h')
theorem A8{H:Hp}{a b:Addr}{o:HO}(h:H a=some o)(h':H b=none):a≠b:=by
 intro e;subst e;rw [h]at h';cases h'
section
variable (P:Program) (w:World)
def Bi(H:Hp)(h:Heap)(a:Addr):HO→Prop
 | .lst xs=>xs.length≤sizeLine∧∃(its:List Value) (n:Nat),Au xs its∧h.get? a=some {cls:= .type "list",data:= .seq its.toArray n}
 | .tup xs=>xs.length≤sizeLine∧∃its:List Value,Au xs its∧IsTup h a its.toArray
 | .dK kvs=>kvs.length≤sizeLine∧(a==sysModules)=false∧∃vs,KV kvs vs∧h.DictOf (B7 P w) a vs
 | .dT kvs=>kvs.length≤sizeLine∧(a==sysModules)=false∧∃xs:List (List Key×Addr×Value),
  Paired (fun (p:List Key×V) (q:List Key×Addr×Value)=>p.1=q.1∧H q.2.1=some (.tup (p.1.map kV))∧Ax p.2 q.2.2) kvs xs∧
  ∃o es ep,h.get? a=some o∧o.ExactDict∧o.data= .dict es ep∧es.toList=xs.map (entryOfKey (tupleKind (B7 P w)))∧(xs.map (·.1)).Nodup
 | .set S n=>h.SetOf (intKind P w) a S n
 | .ins C dx fs=>H dx=some (.own a)∧fs.length≤1000∧dx≠a∧h.get? a=some (PySem.W.instObj C dx)∧
  ∃mA,h.Ns1 dx mA∧(∀f,G1 (fs.lookup f) (mA f))∧PySem.Within mA (fs.map (·.1))
 | .own _=>∃o,h.get? a=some o
 | .xd fs=>∃mA,h.Ns1 a mA∧∀f,G1 (fs.lookup f) (mA f)
 | .rng lo hi=>∃t u v,h.get? a=some {cls:= .type "range",data:= .fields #[.int lo t,.int hi u,.int 1 v]}
 | .frz o u=>h.get? a=some o∧Bi H h a u
 | .tbl ps=>h.get? a=some {cls:= .none,data:= .fields ps}
 | .met f x=>h.get? a=some (PySem.W.methodObj (.ref f) (.ref x))
 | .ext φ=>φ h∧(∃o,h.get? a=some o)∧∀h1 h2:Heap,φ h1→(∀o,h1.get? a=some o→h2.get? a=some o)→φ h2
def HOk(H:Hp)(h:Heap):Prop:=∀a o,H a=some o→Bi P w H h a o
end
section
variable {P:Program} {w:World} {H H':Hp} {h h':Heap} {a:Addr} {o:HO}
theorem Bi.lt(x:Bi P w H h a o):a < h.objs.size:=by
 cases o with
 | lst xs=>obtain ⟨_,_,_,_,e⟩:=x;exact Fm e
 | tup xs=>obtain ⟨_,_,_,p⟩:=x;exact p.lt
 | dK kvs=>obtain ⟨_,_,_,_,o,_,_,e,_⟩:=x;exact Fm e
 | dT kvs=>obtain ⟨_,_,_,_,o,_,_,e,_⟩:=x;exact Fm e
 | set S n=>obtain ⟨o,_,_,_,e,_⟩:=x;exact Fm e
 | ins C dx fs=>obtain ⟨_,_,_,e,_⟩:=x;exact Fm e
 | own y=>obtain ⟨_,e⟩:=x;exact Fm e
 | xd fs=>obtain ⟨_,⟨_,_,_,e,_⟩,_⟩:=x;exact Fm e
 | rng lo hi=>obtain ⟨_,_,_,e⟩:=x;exact Fm e
 | frz ob u=>obtain ⟨e,_⟩:=x;exact Fm e
 | tbl ps=>exact Fm (show h.get? a=some _ from x)
 | met f y=>exact Fm (show h.get? a=some _ from x)
 | ext φ=>obtain ⟨_,⟨_,e⟩,_⟩:=x;exact Fm e
theorem Paired.mapP{α β:Type}{F G:α→β→Prop}:∀{l₁:List α} {l₂:List β},Paired F l₁ l₂→(∀a b,F a b→G a b)→Paired G l₁ l₂
 | _,_,.nil,_=> .nil
 | _,_,.cons r t,f=> .cons (f _ _ r) (Paired.mapP t f)
theorem Bi.stay(x:Bi P w H h a o)(k:∀b u,(b=a∨H b=some (.own a))→h.get? b=some u→h'.get? b=some u)
 (ho:∀b,H b=some (.own a)→H' b=some (.own a)) (ht:∀b xs,H b=some (.tup xs)→H' b=some (.tup xs)):Bi P w H' h' a o:=by
 induction o with
 | lst xs=>obtain ⟨z,its,n,r,e⟩:=x;exact ⟨z,its,n,r,k _ _ (.inl rfl) e⟩
 | tup xs=>obtain ⟨z,its,r,ob,e,c⟩:=x;exact ⟨z,its,r,ob,k _ _ (.inl rfl) e,c⟩
 | dK kvs=>obtain ⟨z,y,vs,r,ob,es,ep,e,c⟩:=x;exact ⟨z,y,vs,r,ob,es,ep,k _ _ (.inl rfl) e,c⟩
 | dT kvs=>
  obtain ⟨z,y,xs,r,ob,es,ep,e,c⟩:=x;exact ⟨z,y,xs,Paired.mapP r fun p q z=>⟨z.1,ht _ _ z.2.1,z.2.2⟩,ob,es,ep,k _ _ (.inl rfl) e,c⟩
 | set S n=>obtain ⟨ob,es,ep,t,e,c⟩:=x;exact ⟨ob,es,ep,t,k _ _ (.inl rfl) e,c⟩
 | ins C dx fs=>
  obtain ⟨d,z,ne,e,mA,⟨od,es,ep,e2,c⟩,r⟩:=x;exact ⟨ho _ d,z,ne,k _ _ (.inl rfl) e,mA,⟨od,es,ep,k _ _ (.inr d) e2,c⟩,r⟩
 | own y=>obtain ⟨ob,e⟩:=x;exact ⟨ob,k _ _ (.inl rfl) e⟩
 | xd fs=>obtain ⟨mA,⟨od,es,ep,e,c⟩,r⟩:=x;exact ⟨mA,⟨od,es,ep,k _ _ (.inl rfl) e,c⟩,r⟩
 | rng lo hi=>obtain ⟨t,u,v,e⟩:=x;exact ⟨t,u,v,k _ _ (.inl rfl) e⟩
 | frz ob u ih=>obtain ⟨e,q⟩:=x;exact ⟨k _ _ (.inl rfl) e,ih q⟩
 | tbl ps=>
  have e:h.get? a=some {cls:= .none,data:= .fields ps}:=x;show h'.get? a=some {cls:= .none,data:= .fields ps};exact k a _ (.inl rfl) e
 | met f y=>
  have e:h.get? a=some (PySem.W.methodObj (.ref f) (.ref y)):=x;show h'.get? a=some (PySem.W.methodObj (.ref f) (.ref y));exact k a _ (.inl rfl) e
 | ext φ=>obtain ⟨p,⟨o,e⟩,st⟩:=x;exact ⟨st _ _ p fun o q=>k _ _ (.inl rfl) q,⟨o,k _ _ (.inl rfl) e⟩,st⟩
theorem HOk.lt(x:HOk P w H h)(e:H a=some o):a < h.objs.size:=(x a o e).lt
theorem HOk.fresh(x:HOk P w H h)(e:h.objs.size≤a):H a=none:=by
 cases q:H a with
 | none=>rfl
 | some u=>exact absurd (Fq (x.lt q) e) (Hc _)
theorem HOk.kept(x:HOk P w H h)(k:∀b u,h.get? b=some u→h'.get? b=some u):HOk P w H h':=fun a o e=>
 (x a o e).stay (fun b u _ q=>k b u q) (fun _ q=>q) fun _ _ q=>q
theorem HOk.laid(x:HOk P w H h)(k:∀b u,h.get? b=some u→h'.get? b=some u)(hp:h.objs.size≤a)(new:Bi P w (upd H a o) h' a o):HOk P w (upd H a o) h':=fun b u e=>by
 have hn:=x.fresh hp
 by_cases hb:b=a
 · subst hb;rw [A3]at e;cases e;exact new
 · rw [A2 hb]at e
   exact (x b u e).stay (fun c v _ q=>k c v q) (fun c q=>by rw [A2 (A8 q hn)];exact q) fun c xs q=>by rw [A2 (A8 q hn)];exact q
end
def Rd(H:Hp)(a:Addr)(u:HO):Prop:=H a=some u∨∃o,H a=some (.frz o u)
theorem Rd.ok{P:Program}{w:World}{H:Hp}{h:Heap}{a:Addr}{u:HO}(r:Rd H a u)(x:HOk P w H h):Bi P w H h a u:=by
 rcases r with r | ⟨o,r⟩
 · exact x a u r
 · obtain ⟨_,q⟩:=x a _ r
   exact q
def Mut:Option HO→Prop
 | some (.lst _)=>True
 | some (.dK _)=>True
 | some (.dT _)=>True
 | some (.set _ _)=>True
 | some (.ins _ _ _)=>True
 | some (.ext _)=>True
 | _=>False
section
variable {P:Program} {w:World} {H:Hp} {h h':Heap} {x e:Addr} {o':HO}
theorem HOk.write(ok:HOk P w H h)(mu:Mut (H x))(he:e=x∨H e=some (.own x))(k:∀b u,b≠e→h.get? b=some u→h'.get? b=some u)(heo:∃u,h'.get? e=some u)
 (new:Bi P w (upd H x o') h' x o'):HOk P w (upd H x o') h':=fun b u q=>by
 have nown:∀c y,H c=some (.own y)→c≠x:=fun c y r z=>by subst z;rw [r]at mu;exact mu
 have ntup:∀c xs,H c=some (.tup xs)→c≠x:=fun c xs r z=>by subst z;rw [r]at mu;exact mu
 by_cases hb:b=x
 · subst hb;rw [A3]at q;cases q;exact new
 · rw [A2 hb]at q
   by_cases hbe:b=e
   · have q':H b=some (.own x):=by
      rcases he with z | z
      · exact absurd (hbe.trans z) hb
      · rw [hbe];exact z
     rw [q]at q';cases q';obtain ⟨v,hv⟩:=heo;exact ⟨v,by rw [hbe];exact hv⟩
   · refine (ok b u q).stay (fun c v hc r=>k c v ?_ r) (fun c r=>by rw [A2 (nown c b r)];exact r) fun c xs r=>by rw [A2 (ntup c xs r)];exact r
     rcases hc with rfl | hc
     · exact hbe
     · rintro rfl
       rcases he with z | z
       · exact nown c b hc z
       · rw [hc]at z;cases z;exact hb rfl
end
structure Un(fs ex:List Addr)(H H':Hp)(h h':Heap):Prop where
 keep:∀b o,h.get? b=some o→H b=none→b∉fs→b∉ex→h'.get? b=some o
 slot:∀b o,h.get? b=some o→H b=none→b∈fs→b∉ex→∃sl,h'.get? b=some {o with slots:=sl}
 free:∀b o,h.get? b=some o→H b=none→b∉ex→H' b=none
 there:∀b o,h.get? b=some o→b∉ex→∃o',h'.get? b=some o'
 tups:∀b xs,H b=some (.tup xs)→H' b=some (.tup xs)
 frzs:∀b o u,H b=some (.frz o u)→H' b=some (.frz o u)
 tbls:∀b ps,H b=some (.tbl ps)→∃more,H' b=some (.tbl (ps++more))
section
variable {fs fs' ex ex':List Addr} {H H1 H2:Hp} {h h1 h2 h':Heap} {a x e:Addr} {o:HO}
theorem Un.any(u:Un fs ex H H1 h h1){b:Addr}{ob:Obj}(q:h.get? b=some ob)(n:H b=none)(hx:b∉ex):∃sl,h1.get? b=some {ob with slots:=sl}:=by
 by_cases hb:b∈fs
 · exact u.slot b ob q n hb hx
 · exact ⟨ob.slots,u.keep b ob q n hb hx⟩
theorem Un.kept(k:∀b u,h.get? b=some u→h'.get? b=some u):Un fs ex H H h h':=
 ⟨fun b ob q _ _ _=>k b ob q,fun b ob q _ _ _=>⟨ob.slots,k b ob q⟩,fun _ _ _ n _=>n,fun b ob q _=>⟨ob,k b ob q⟩,fun _ _ q=>q,fun _ _ _ q=>q,fun _ ps q=>⟨#[],by rw [q];simp⟩⟩
theorem Un.refl:Un fs ex H H h h:=Un.kept fun _ _ q=>q
theorem Un.laid(k:∀b u,h.get? b=some u→h'.get? b=some u)(hp:h.objs.size≤a)(hn:H a=none):Un fs ex H (upd H a o) h h' where
 keep:=fun b u q _ _ _=>k b u q
 slot:=fun b u q _ _ _=>⟨u.slots,k b u q⟩
 free:=fun b u q n _=>by rw [A2 (Fs (Fq (Fm q) hp))];exact n
 there:=fun b u q _=>⟨u,k b u q⟩
 tups:=fun b xs q=>by rw [A2 (A8 q hn)];exact q
 frzs:=fun b u xs q=>by rw [A2 (A8 q hn)];exact q
 tbls:=fun b ps q=>⟨#[],by rw [A2 (A8 q hn),q];simp⟩
theorem Un.write(mu:Mut (H x))(he:e=x∨H e=some (.own x))(k:∀b u,b≠e→h.get? b=some u→h'.get? b=some u)(heo:∃u,h'.get? e=some u):Un fs ex H (upd H x o) h h':=by
 have hx:∀b,H b=none→b≠x:=fun b n z=>by subst z;rw [n]at mu;exact mu
 have hb:∀b,H b=none→b≠e:=fun b n z=>by
  subst z;rcases he with r | r
  · exact hx b n r
  · rw [n]at r;cases r
 have hm:∀b u,H b=some u→¬Mut (some u)→b≠x:=fun b u q nm z=>by subst z;rw [q]at mu;exact nm mu
 refine ⟨fun b u q n _ _=>k b u (hb b n) q,fun b u q n _ _=>⟨u.slots,k b u (hb b n) q⟩,fun b u q n _=>by rw [A2 (hx b n)];exact n,fun b u q _=>?_,
  fun b xs q=>by rw [A2 (hm b _ q fun z=>z)];exact q,fun b u xs q=>by rw [A2 (hm b _ q fun z=>z)];exact q,fun b ps q=>⟨#[],by rw [A2 (hm b _ q fun z=>z),q];simp⟩⟩
 by_cases hbe:b=e
 · subst hbe;exact heo
 · exact ⟨u,k b u hbe q⟩
end
def trk(h:Heap)(H:Hp):List Addr:=(List.range h.objs.size).filter fun a=>(H a).isSome
def Qj(h:Heap)(H:Hp):Heap:=PySem.W.hideAll h (trk h H)
theorem J0b(h:Heap)(H:Hp):(Qj h H).objs.size=h.objs.size:=PySem.W.hideAll_size _ _
theorem O1{h:Heap}{H:Hp}{b:Addr}{o:Obj}(e:h.get? b=some o)(n:H b=none):(Qj h H).get? b=some o:=
 PySem.W.hideAll_get _ e fun hm=>by
  have q:(H b).isSome=true:=(HJ.mp hm).2;rw [n]at q;simp at q
theorem J69{h:Heap}{H:Hp}{b:Addr}{o:Obj}(e:(Qj h H).get? b=some o):h.get? b=some o∧H b=none:=by
 have e':h.get? b=some o:=PySem.W.of_hideAll (trk h H) e;refine ⟨e',?_⟩
 cases q:H b with
 | none=>rfl
 | some x=>
  have hm:b∈trk h H:=HJ.mpr ⟨FY.mpr (Fm e'),by simp [q]⟩;have z:(Qj h H).get? b=none:=PySem.W.hideAll_none (trk h H) hm;rw [z]at e;cases e
def J6a(g h:Heap)(L:Addr):List (Addr×Obj):=(List.range h.objs.size).filterMap fun a=>if a=L∨(g.get? a).isSome=true then none else (h.get? a).map fun o=>(a,o)
def rest(g h:Heap)(L d:Addr):List (Addr×Obj):=(J6a g h L).filter fun p=>decide (p.1≠d)
end L2
namespace L2
structure Mod(K:PySem.W.Frag)(mg:Str→Option Value)(base:Heap):Prop where
 kin:K.In base
 glob:base.Ns mainGlobals mg
 blt:∃mb,base.Ns builtinsNs mb∧∀x:Str,x≠"__name__"→mb x=bootBuiltins x
 nolimit:base.NoLimit
structure Cx where
 prog:Program
 w:World
 K:PySem.W.Frag
 mg:Str→Option Value
 base:Heap
 A:Around
 N:List Str
 s₀:Shared
 H₀:Hp
 env:Env
 outer:List Env
 stack:List Env
 ex:List Addr
 fn:Str→Bool
 calm:Bool
 pn:List (Addr×Obj)
 xe:Value→Shared→Prop
def frs(l:List Env):List Addr:=l.filterMap (·.frame)
abbrev Cx.fs(X:Cx):List Addr:=frs X.outer
def Vis(sc:Scope)(x:Str):Prop:=sc.names.lookup x=some .local∨sc.names.lookup x=some .cell∨sc.names.lookup x=some .free
def Loc(sc:Scope)(x:Str):Prop:=sc.names.lookup x=some .local∨sc.names.lookup x=some .cell
def Jd1(env:Env)(h:Heap)(m:Str→Option Value)(x:Str)(u:Value):Prop:=
 (env.kindOf x=some .local∧m x=some u)∨((env.kindOf x=some .cell∨env.kindOf x=some .free)∧∃c,env.cells.lookup x=some c∧h.IsCell c (some u))
structure Cx.Ok(X:Cx):Prop where
 mod:Mod X.K X.mg X.base
 kind:X.env.scope.kind= .function
 glob:X.env.globals=mainGlobals
 blt:X.env.builtins=builtinsNs
 above:X.s₀.heap.objs.size≤X.env.locals
 inj:∀x y c,X.env.cells.lookup x=some c→X.env.cells.lookup y=some c→x=y
 has:∀x,(X.env.kindOf x=some .cell∨X.env.kindOf x=some .free)→∃c,X.env.cells.lookup x=some c
 cab:∀x c,X.fn x=true→X.env.cells.lookup x=some c→X.s₀.heap.objs.size≤c
 hd:X.calm=true→X.A.handled=none
 frames:X.A.frames=some X.stack
 stk:X.stack=X.outer∨(X.stack=X.env::X.outer∧X.env.frame=some X.env.locals)
 exf:∀b∈X.ex,b≠X.env.locals∧∀x c,X.env.cells.lookup x=some c→c≠b
 bs:∀b o,X.base.get? b=some o→X.s₀.heap.get? b=some o∧X.H₀ b=none
 bsz:X.base.objs.size≤X.s₀.heap.objs.size
 noex:∀b o,X.base.get? b=some o→b∉X.ex
 exfs:∀b∈X.ex,b∉X.fs
 funs:X.s₀.heap.FunFrames X.base X.outer
 frf:∀b∈X.fs,X.H₀ b=none
structure Inv(X:Cx)(pins:List (Addr×Obj))(σ:List (Option V))(H:Hp)(s:Shared):Prop where
 ok:X.Ok
 os:s.os=X.s₀.os
 bare:AllBare s.gens
 base:Un X.fs X.ex X.H₀ H X.s₀.heap s.heap
 loc:∃m,s.heap.Ns X.env.locals m∧∀(i:Nat) (x:Str) (v:V),X.N[i]?=some x→σ[i]?=some (some v)→Vis X.env.scope x→∃u,Ax v u∧Jd1 X.env s.heap m x u
 cell:∀x c,X.env.cells.lookup x=some c→∃v,s.heap.IsCell c v
 free:H X.env.locals=none
 freeC:∀x c,X.env.cells.lookup x=some c→H c=none
 pin:∀p∈X.pn++pins,s.heap.get? p.1=some p.2∧H p.1=none∧p.1≠X.env.locals∧p.1∉X.fs∧∀v,p.2.data≠ .cell v
 hok:HOk X.prog X.w H s.heap
 len:σ.length=X.N.length
section
variable {X:Cx} {pins:List (Addr×Obj)} {σ:List (Option V)} {H H':Hp} {s:Shared} {h':Heap}
theorem Cx.Ok.nofr(ok:X.Ok){b:Addr}{o:Obj}(e:X.base.get? b=some o):b∉X.fs:=fun hb=>by
 have:=(ok.funs.mem hb).1;rw [e]at this;cases this
theorem Inv.bs(I:Inv X pins σ H s):∀b o,X.base.get? b=some o→s.heap.get? b=some o∧H b=none:=fun b o e=>
 ⟨I.base.keep b o (I.ok.bs b o e).1 (I.ok.bs b o e).2 (I.ok.nofr e) (I.ok.noex b o e),I.base.free b o (I.ok.bs b o e).1 (I.ok.bs b o e).2 (I.ok.noex b o e)⟩
theorem Inv.bk(I:Inv X pins σ H s):∀b o,X.base.get? b=some o→s.heap.get? b=some o:=fun b o e=>(I.bs b o e).1
theorem Inv.mod(I:Inv X pins σ H s):Mod X.K X.mg X.base:=I.ok.mod
theorem Inv.kIn(I:Inv X pins σ H s):X.K.In s.heap:=I.ok.mod.kin.keeps I.bk
theorem Inv.lt(I:Inv X pins σ H s):X.env.locals < s.heap.objs.size:=let ⟨_,hn,_⟩:=I.loc;hn.lt
theorem Inv.sz(I:Inv X pins σ H s):X.s₀.heap.objs.size≤s.heap.objs.size:=FC I.ok.above (HF I.lt)
theorem Inv.nofs(I:Inv X pins σ H s){a:Addr}(h:s.heap.objs.size≤a):a∉X.fs:=fun hb=>by
 obtain ⟨_,o,ho,_⟩:=I.ok.funs.mem hb;exact absurd (Fq (Fm ho) (FC I.sz h)) (Hc _)
theorem Inv.cne(I:Inv X pins σ H s):∀x c,X.env.cells.lookup x=some c→c≠X.env.locals:=fun x c e z=>by
 obtain ⟨v,o,ho,hd⟩:=I.cell x c e;obtain ⟨m,⟨o',es,ep,ho',hd',_⟩,_⟩:=I.loc;rw [z,ho']at ho;cases ho;rw [hd']at hd;cases hd
theorem Inv.funs(I:Inv X pins σ H s):s.heap.FunFrames X.base X.outer:=by
 have all:∀(l:List Env),(∀b∈frs l,b∈X.fs)→X.s₀.heap.FunFrames X.base l→s.heap.FunFrames X.base l:=by
  intro l
  induction l with
  | nil=>intro _ _;trivial
  | cons env r ih=>
   intro hs hl;obtain ⟨hk,⟨L,o,hf,hn,ho,hd⟩,hr⟩:=hl;have hL:L∈X.fs:=hs L (by unfold frs;rw [Rh,hf];exact FA);obtain ⟨sl,e⟩:=I.base.slot L o ho (I.ok.frf L hL) hL fun z=>I.ok.exfs L z hL;exact ⟨hk,⟨L,_,hf,hn,e,hd⟩,ih (fun b hb=>hs b (by unfold frs;rw [Rh,hf];exact Fn _ hb)) hr⟩
 exact all X.outer (fun _ hb=>hb) I.ok.funs
theorem Inv.stack(I:Inv X pins σ H s):s.heap.FunFrames X.base X.stack:=by
 rcases I.ok.stk with e | ⟨e,hf⟩
 · rw [e];exact I.funs
 · rw [e]
   obtain ⟨m,hn,_⟩:=I.loc;refine .cons (by rw [I.ok.kind];decide) hf hn ?_ I.funs;exact Heap.get?_none_of_le (FC I.ok.bsz I.ok.above)
theorem Inv.stkSub(I:Inv X pins σ H s):∀b∈frs X.stack,b∈X.env.locals::X.fs:=fun b hb=>by
 rcases I.ok.stk with e | ⟨e,hf⟩
 · rw [e]at hb;exact Fn _ hb
 · rw [e]at hb
   unfold frs at hb;rw [Rh,hf]at hb;exact hb
theorem Inv.stkFree(I:Inv X pins σ H s):∀b∈frs X.stack,H b=none:=fun b hb=>by
 rcases Fy.mp (I.stkSub b hb) with e | hb
 · rw [e];exact I.free
 · obtain ⟨_,o,ho,_⟩:=I.ok.funs.mem hb
   exact I.base.free b o ho (I.ok.frf b hb) fun z=>I.ok.exfs b z hb
theorem Inv.step{g':Array GenState}{t':Nat}{d':Drawn}{ch:List Addr}(I:Inv X pins σ H s)
 (hch:∀b∈ch,(b∈X.ex∨X.s₀.heap.objs.size≤b)∧b≠X.env.locals∧(∀x c,X.env.cells.lookup x=some c→c≠b)∧∀p∈X.pn++pins,p.1≠b)
 (keep:∀b o,b≠X.env.locals→b∉X.fs→b∉ch→s.heap.get? b=some o→H b=none→h'.get? b=some o)
 (slot:∀b o,b≠X.env.locals→b∈X.fs→b∉ch→s.heap.get? b=some o→H b=none→∃sl,h'.get? b=some {o with slots:=sl}) (free:∀b o,b∉ch→s.heap.get? b=some o→H b=none→H' b=none)
 (there:∀b o,b∉ch→s.heap.get? b=some o→∃o',h'.get? b=some o')
 (tups:∀b xs,H b=some (.tup xs)→H' b=some (.tup xs)) (frzs:∀b o u,H b=some (.frz o u)→H' b=some (.frz o u)) (tbls:∀b ps,H b=some (.tbl ps)→∃more,H' b=some (.tbl (ps++more)))
 (ns:∀m,s.heap.Ns X.env.locals m→h'.Ns X.env.locals m) (hok:HOk X.prog X.w H' h') (hg:AllBare g'):
 Inv X pins σ H' {s with heap:=h',gens:=g',drawn:=d',toks:=t'}:=by
 have neL:∀b o,X.s₀.heap.get? b=some o→b≠X.env.locals:=fun b o e=>Fs (Fq (Fm e) I.ok.above)
 have neC:∀b o,X.s₀.heap.get? b=some o→b∉X.ex→b∉ch:=fun b o e hx hb=>by
  rcases (hch b hb).1 with z | z
  · exact hx z
  · exact absurd (Fq (Fm e) z) (Hc _)
 have cellK:∀x c,X.env.cells.lookup x=some c→∀v,s.heap.IsCell c v→h'.IsCell c v:=fun x c e v ⟨o,ho,hd⟩=>by
  have nch:c∉ch:=fun z=>(hch c z).2.2.1 x c e rfl
  by_cases hc:c∈X.fs
  · obtain ⟨sl,q⟩:=slot c o (I.cne x c e) hc nch ho (I.freeC x c e)
    exact ⟨_,q,hd⟩
  · exact ⟨o,keep c o (I.cne x c e) hc nch ho (I.freeC x c e),hd⟩
 refine ⟨I.ok,I.os,hg,⟨fun b o e n hb hx=>?_,fun b o e n hb hx=>?_,fun b o e n hx=>?_,fun b o e hx=>?_,fun b xs e=>tups b xs (I.base.tups b xs e),fun b o xs e=>frzs b o xs (I.base.frzs b o xs e),fun b ps e=>?_⟩,?_,fun x c e=>?_,?_,fun x c e=>?_,fun p hp=>?_,hok,I.len⟩
 · exact keep b o (neL b o e) hb (neC b o e hx) (I.base.keep b o e n hb hx) (I.base.free b o e n hx)
 · obtain ⟨sl,e1⟩:=I.base.slot b o e n hb hx
   obtain ⟨sl',e2⟩:=slot b _ (neL b o e) hb (neC b o e hx) e1 (I.base.free b o e n hx);exact ⟨sl',e2⟩
 · obtain ⟨o',e1⟩:=I.base.there b o e hx
   exact free b o' (neC b o e hx) e1 (I.base.free b o e n hx)
 · obtain ⟨o',e1⟩:=I.base.there b o e hx
   exact there b o' (neC b o e hx) e1
 · obtain ⟨m1,e1⟩:=I.base.tbls b ps e
   obtain ⟨m2,e2⟩:=tbls b _ e1;exact ⟨m1++m2,by rw [e2,Array.append_assoc]⟩
 · obtain ⟨m,hn,hl⟩:=I.loc
   refine ⟨m,ns m hn,fun i x v e1 e2 e3=>?_⟩;obtain ⟨u,r,l⟩:=hl i x v e1 e2 e3;refine ⟨u,r,?_⟩;rcases l with l | ⟨k,c,e,z⟩
   · exact .inl l
   · exact .inr ⟨k,c,e,cellK x c e _ z⟩
 · obtain ⟨v,z⟩:=I.cell x c e
   exact ⟨v,cellK x c e v z⟩
 · obtain ⟨m,⟨o,_,_,ho,_⟩,_⟩:=I.loc
   exact free _ o (fun z=>(hch _ z).2.1 rfl) ho I.free
 · obtain ⟨v,o,ho,hd⟩:=I.cell x c e
   exact free c o (fun z=>(hch c z).2.2.1 x c e rfl) ho (I.freeC x c e)
 · obtain ⟨e,n,ne,nf,d⟩:=I.pin p hp
   have nch:p.1∉ch:=fun z=>(hch p.1 z).2.2.2 p hp rfl;exact ⟨keep p.1 p.2 ne nf nch e n,free p.1 p.2 nch e n,ne,nf,d⟩
theorem Inv.un{t':Nat}(I:Inv X pins σ H s)(u:Un X.fs [] H H' s.heap h')(hok:HOk X.prog X.w H' h'):Inv X pins σ H' {s with heap:=h',toks:=t'}:=by
 obtain ⟨m,⟨o,es,ep,ho,r⟩,_⟩:=id I.loc;obtain ⟨sl,hL⟩:=u.any ho I.free (by simp)
 exact I.step (g':=s.gens) (d':=s.drawn) (ch:=[]) (fun _ z=>nomatch z) (fun b o _ hb _ e n=>u.keep b o e n hb (by simp)) (fun b o _ hb _ e n=>u.slot b o e n hb (by simp)) (fun b o _ e n=>u.free b o e n (by simp)) (fun b o _ e=>u.there b o e (by simp)) u.tups u.frzs u.tbls (fun m' hm=>by
  obtain ⟨o',es',ep',ho',r'⟩:=hm;rw [ho]at ho';cases ho'
  exact ⟨_,es',ep',hL,r'⟩) hok I.bare
theorem Inv.call{g':Array GenState}{t':Nat}{d':Drawn}{ch:List Addr}(I:Inv X pins σ H s)(u:Un (frs X.stack) ch H H' s.heap h')(hok:HOk X.prog X.w H' h')(hg:AllBare g')
 (hch:∀b∈ch,(b∈X.ex∨X.s₀.heap.objs.size≤b)∧b≠X.env.locals∧(∀x c,X.env.cells.lookup x=some c→c≠b)∧∀p∈X.pn++pins,p.1≠b):
 Inv X pins σ H' {s with heap:=h',gens:=g',drawn:=d',toks:=t'}:=by
 obtain ⟨m,⟨o,es,ep,ho,r⟩,_⟩:=id I.loc;obtain ⟨sl,hL⟩:=u.any ho I.free fun z=>(hch _ z).2.1 rfl
 exact I.step (ch:=ch) hch (fun b o hL hb hc e n=>u.keep b o e n (fun z=>(Fy.mp (I.stkSub b z)).elim hL hb) hc) (fun b o _ _ hc e n=>u.any e n hc) (fun b o hc e n=>u.free b o e n hc) (fun b o hc e=>u.there b o e hc) u.tups u.frzs u.tbls (fun m' hm=>by
  obtain ⟨o',es',ep',ho',r'⟩:=hm;rw [ho]at ho';cases ho'
  exact ⟨_,es',ep',hL,r'⟩) hok hg
theorem Inv.turned{t':Nat}{it:Addr}(I:Inv X pins σ H s)(k:∀b o,b≠it→s.heap.get? b=some o→h'.get? b=some o)(hn:H it=none)(hL:it≠X.env.locals)
 (h1:it∈X.ex∨X.s₀.heap.objs.size≤it) (h2:∀x c,X.env.cells.lookup x=some c→c≠it) (h3:∀p∈X.pn++pins,p.1≠it):Inv X pins σ H {s with heap:=h',toks:=t'}:=by
 have nit:∀b u,H b=some u→b≠it:=fun b u e z=>by rw [z,hn]at e;cases e
 refine I.step (g':=s.gens) (d':=s.drawn) (ch:=[it]) (fun b hb=>?_) (fun b o _ _ hc e _=>k b o (fun z=>hc (by simp [z])) e) (fun b o _ _ hc e _=>⟨o.slots,k b o (fun z=>hc (by simp [z])) e⟩) (fun _ _ _ _ n=>n)
  (fun b o hc e=>⟨o,k b o (fun z=>hc (by simp [z])) e⟩) (fun _ _ e=>e) (fun _ _ _ e=>e) (fun b ps e=>⟨#[],by rw [e];simp⟩) (fun m hm=>?_) (fun b u e=>?_) I.bare
 · have e:b=it:=by simpa using hb
   subst e;exact ⟨h1,hL,h2,h3⟩
 · obtain ⟨o,es,ep,ho,r⟩:=hm
   exact ⟨o,es,ep,k _ o (Ne.symm hL) ho,r⟩
 · refine (I.hok b u e).stay (fun c v hc q=>k c v ?_ q) (fun _ q=>q) fun _ _ q=>q
   rcases hc with z | z
   · rw [z];exact nit b u e
   · exact nit c _ z
theorem Inv.tok(I:Inv X pins σ H s)(t:Nat):Inv X pins σ H {s with toks:=t}:=I.un (h':=s.heap) (t':=t) Un.refl I.hok
theorem Inv.kept{t':Nat}(I:Inv X pins σ H s)(k:∀b u,s.heap.get? b=some u→h'.get? b=some u):Inv X pins σ H {s with heap:=h',toks:=t'}:=I.un (Un.kept k) (I.hok.kept k)
theorem Inv.laid{a:Addr}{o:HO}{t':Nat}(I:Inv X pins σ H s)(k:∀b u,s.heap.get? b=some u→h'.get? b=some u)(hp:s.heap.objs.size≤a)(new:Bi X.prog X.w (upd H a o) h' a o):
 Inv X pins σ (upd H a o) {s with heap:=h',toks:=t'}:=I.un (Un.laid k hp (I.hok.fresh hp)) (I.hok.laid k hp new)
theorem Inv.write{x e:Addr}{o:HO}{t':Nat}(I:Inv X pins σ H s)(mu:Mut (H x))(he:e=x∨H e=some (.own x))(k:∀b u,b≠e→s.heap.get? b=some u→h'.get? b=some u)(heo:∃u,h'.get? e=some u)
 (new:Bi X.prog X.w (upd H x o) h' x o):Inv X pins σ (upd H x o) {s with heap:=h',toks:=t'}:=I.un (Un.write mu he k heo) (I.hok.write mu he k heo new)
theorem Inv.weak{σ':List (Option V)}(I:Inv X pins σ H s)(hl:σ'.length=σ.length)(w:∀(i:Nat) v,σ'[i]?=some (some v)→σ[i]?=some (some v)):Inv X pins σ' H s:=
 ⟨I.ok,I.os,I.bare,I.base,let ⟨m,hn,hl'⟩:=I.loc;⟨m,hn,fun i x v e1 e2 e3=>hl' i x v e1 (w i v e2) e3⟩,I.cell,I.free,I.freeC,I.pin,I.hok,hl.trans I.len⟩
theorem Inv.pins_of{pins':List (Addr×Obj)}(I:Inv X pins σ H s)(h:∀p∈pins',s.heap.get? p.1=some p.2∧H p.1=none∧p.1≠X.env.locals∧p.1∉X.fs∧∀v,p.2.data≠ .cell v):Inv X pins' σ H s:=
 ⟨I.ok,I.os,I.bare,I.base,I.loc,I.cell,I.free,I.freeC,fun p hp=>(FI.mp hp).elim (fun z=>I.pin p (Re _ z)) (h p),I.hok,I.len⟩
theorem T6{N:List Str}(hN:N.Nodup){i j:Nat}{x:Str}(a:N[i]?=some x)(b:N[j]?=some x):i=j:=by
 obtain ⟨h1,e1⟩:=Fe.mp a;obtain ⟨h2,e2⟩:=Fe.mp b;exact (List.getElem_inj hN).mp (e1.trans e2.symm)
theorem Pl{M:Model}{A:Around}{E:Value→Shared→Prop}{i:Nat}{x:Str}{v:V}{u:Value}{Q:Unit→Shared→Prop}(I:Inv X pins σ H s)(hN:X.N.Nodup)(hi:X.N[i]?=some x)(hx:Loc X.env.scope x)(r:Ax v u)
 (h:∀s',Inv X pins (σ.set i (some v)) H s'→(∃a,Heap.SameBut a s.heap s'.heap∧(a=X.env.locals∨X.env.cells.lookup x=some a))→Q () s') (hf:X.fn x=true∨X.env.scope.names.lookup x=some .local:=by first | exact .inl rfl | exact .inr rfl | assumption):wpAny M A (storeName X.env x u) Q E s:=by
 obtain ⟨m,hn,hl⟩:=id I.loc
 have hcls:(X.env.scope.kind== .class || (X.env.scope.kind== .module && X.env.locals !=X.env.globals))=false:=by rw [I.ok.kind];rfl
 have hiσ:i < σ.length:=by rw [I.len];exact (Fe.mp hi).1
 have cne:=I.cne
 have tracked:∀{a:Addr} {h':Heap},(∃o,s.heap.get? a=some o∧H a=none)→Heap.SameBut a s.heap h'→HOk X.prog X.w H h':=fun {a h'} ha hs b ob e=>by
  obtain ⟨_,_,hfree⟩:=ha;refine (I.hok b ob e).stay (fun c w' hc q=>(hs.2 c ?_).trans q) (fun _ q=>q) fun _ _ q=>q;rintro rfl;rcases hc with rfl | hc
  · rw [hfree]at e;cases e
  · rw [hfree]at hc;cases hc
 rcases hx with hk | hk
 · refine wpAny_storeName_local hk hn (fun h' hn' hs=>?_) hcls
   obtain ⟨oL,_,_,hoL,_⟩:=id hn;refine h _ ⟨I.ok,I.os,I.bare,⟨fun b o e n hb hx=>?_,fun b o e n hb hx=>?_,I.base.free,fun b o e hx=>?_,I.base.tups,I.base.frzs,I.base.tbls⟩,⟨_,hn',fun j y v' e1 e2 e3=>?_⟩,fun y c e=>?_,I.free,I.freeC,fun p hp=>?_,tracked ⟨oL,hoL,I.free⟩ hs,by simpa using I.len⟩ ⟨_,hs,.inl rfl⟩
   · exact (hs.2 b (Fs (Fq (Fm e) I.ok.above))).trans (I.base.keep b o e n hb hx)
   · obtain ⟨sl,e1⟩:=I.base.slot b o e n hb hx
     exact ⟨sl,(hs.2 b (Fs (Fq (Fm e) I.ok.above))).trans e1⟩
   · obtain ⟨o',e1⟩:=I.base.there b o e hx
     exact ⟨o',(hs.2 b (Fs (Fq (Fm e) I.ok.above))).trans e1⟩
   · by_cases hj:j=i
     · subst hj
       rw [hi]at e1;cases e1;rw [List.getElem?_set_self hiσ]at e2;cases e2;exact ⟨u,r,.inl ⟨hk,by simp⟩⟩
     · rw [List.getElem?_set_ne (Ne.symm hj)]at e2
       obtain ⟨u',r',q⟩:=hl j y v' e1 e2 e3;refine ⟨u',r',?_⟩;rcases q with ⟨k,e⟩ | ⟨k,c,e,z⟩
       · refine .inl ⟨k,?_⟩
         have:y≠x:=fun e=>hj (T6 hN e1 (e▸hi));simp [this,e]
       · exact .inr ⟨k,c,e,z.sameBut hs (cne y c e)⟩
   · obtain ⟨w',z⟩:=I.cell y c e
     exact ⟨w',z.sameBut hs (cne y c e)⟩
   · obtain ⟨e,n,ne,nf,d⟩:=I.pin p hp
     exact ⟨(hs.2 p.1 ne).trans e,n,ne,nf,d⟩
 · have hfn:X.fn x=true:=by
    rcases hf with z | z
    · exact z
    · rw [z]at hk;cases hk
   obtain ⟨c,hc⟩:=I.ok.has x (.inl hk);obtain ⟨w',z⟩:=I.cell x c hc;refine wpAny_storeName_cell I.ok.kind hk hc z (fun h' hc' hs=>?_);obtain ⟨oc,hoc,hocd⟩:=id z;refine h {s with heap:=h'} ⟨I.ok,I.os,I.bare,⟨fun b o e n hb hx=>?_,fun b o e n hb hx=>?_,I.base.free,fun b o e hx=>?_,I.base.tups,I.base.frzs,I.base.tbls⟩,⟨m,hn.sameBut hs (Ne.symm (cne x c hc)),fun j y v' e1 e2 e3=>?_⟩,fun y c' e=>?_,I.free,I.freeC,fun p hp=>?_,tracked ⟨oc,hoc,I.freeC x c hc⟩ hs,by simpa using I.len⟩ ⟨c,hs,.inr hc⟩
   · exact (hs.2 b (Fs (Fq (Fm e) (I.ok.cab x c hfn hc)))).trans (I.base.keep b o e n hb hx)
   · obtain ⟨sl,e1⟩:=I.base.slot b o e n hb hx
     exact ⟨sl,(hs.2 b (Fs (Fq (Fm e) (I.ok.cab x c hfn hc)))).trans e1⟩
   · obtain ⟨o',e1⟩:=I.base.there b o e hx
     exact ⟨o',(hs.2 b (Fs (Fq (Fm e) (I.ok.cab x c hfn hc)))).trans e1⟩
   · by_cases hj:j=i
     · subst hj
       rw [hi]at e1;cases e1;rw [List.getElem?_set_self hiσ]at e2;cases e2;exact ⟨u,r,.inr ⟨.inl hk,c,hc,hc'⟩⟩
     · rw [List.getElem?_set_ne (Ne.symm hj)]at e2
       obtain ⟨u',r',q⟩:=hl j y v' e1 e2 e3;refine ⟨u',r',?_⟩;rcases q with q | ⟨k,c',e,z'⟩
       · exact .inl q
       · refine .inr ⟨k,c',e,z'.sameBut hs ?_⟩
         rintro rfl;exact hj (T6 hN e1 (I.ok.inj _ _ _ e hc▸hi))
   · by_cases hcc:c'=c
     · subst hcc;exact ⟨_,hc'⟩
     · obtain ⟨w2,z2⟩:=I.cell y c' e
       exact ⟨w2,z2.sameBut hs hcc⟩
   · obtain ⟨e,n,ne,nf,d⟩:=I.pin p hp
     refine ⟨(hs.2 p.1 ?_).trans e,n,ne,nf,d⟩;intro q;rw [q,hoc]at e;have q':oc=p.2:=FS e;exact d w' (by rw [← q'];exact hocd)
theorem O2{M:Model}{A:Around}{E:Value→Shared→Prop}{i:Nat}{x:Str}{v:V}{u:Value}{Q:Unit→Shared→Prop}(I:Inv X pins σ H s)(hN:X.N.Nodup)(hi:X.N[i]?=some x)(hx:Loc X.env.scope x)(r:Ax v u)
 (h:∀s',Inv X pins (σ.set i (some v)) H s'→Q () s') (hf:X.fn x=true∨X.env.scope.names.lookup x=some .local:=by first | exact .inl rfl | exact .inr rfl | assumption):wpAny M A (storeName X.env x u) Q E s:=
 Pl I hN hi hx r (fun s' I' _=>h s' I') hf
theorem Inv.call'{s':Shared}{ch:List Addr}(I:Inv X pins σ H s)(ho:s'.os=s.os)(u:Un (frs X.stack) ch H H' s.heap s'.heap)(hok:HOk X.prog X.w H' s'.heap)(hg:AllBare s'.gens)
 (hch:∀b∈ch,(b∈X.ex∨X.s₀.heap.objs.size≤b)∧b≠X.env.locals∧(∀x c,X.env.cells.lookup x=some c→c≠b)∧∀p∈X.pn++pins,p.1≠b):Inv X pins σ H' s':=by
 obtain ⟨h',g',d',t',o'⟩:=s';have e:o'=s.os:=ho;subst e;exact I.call (g':=g') (t':=t') (d':=d') u hok hg hch
end
abbrev XK:=Value→Option Addr→Hp→Prop
abbrev St:=List (Option V)
abbrev VK:=V→Hp→Prop
abbrev TE:=St→Hp→VK→Prop
abbrev TT:=St→Hp→(Bool→Hp→Prop)→Prop
abbrev TA:=St→Hp→(List V→Hp→Prop)→Prop
structure Ib where
 nx:St→Hp→Prop
 rt:VK
 bk:St→Hp→Prop:=fun _ _=>False
 ct:St→Hp→Prop:=fun _ _=>False
abbrev TS:=Ib→St→Hp→Prop
def EP(X:Cx)(pins:List (Addr×Obj))(σ:St)(Q:VK)(u:Value)(s':Shared):Prop:=∃v H',Inv X pins σ H' s'∧Ax v u∧Q v H'
def TP(X:Cx)(pins:List (Addr×Obj))(σ:St)(Q:Bool→Hp→Prop)(b:Bool)(s':Shared):Prop:=∃H',Inv X pins σ H' s'∧Q b H'
def AP(X:Cx)(pins:List (Addr×Obj))(σ:St)(Q:List V→Hp→Prop)(us:List Value)(s':Shared):Prop:=∃vs H',Inv X pins σ H' s'∧Au vs us∧Q vs H'
def SP(X:Cx)(pins:List (Addr×Obj))(D:Ib)(f:Flow)(s':Shared):Prop:=
 match f with
 | .next=>∃σ' H',Inv X pins σ' H' s'∧D.nx σ' H'
 | .brk=>∃σ' H',Inv X pins σ' H' s'∧D.bk σ' H'
 | .cont=>∃σ' H',Inv X pins σ' H' s'∧D.ct σ' H'
 | .ret u=>∃v σ' H',Inv X pins σ' H' s'∧Ax v u∧D.rt v H'
def PE(X:Cx)(e:Expr)(t:TE):Prop:=
 ∀(pins:List (Addr×Obj)) (s:Shared) (σ:St) (H:Hp) (Q:VK),Inv X pins σ H s→t σ H Q→wpAny (model X.prog X.w) X.A (eval e X.env) (EP X pins σ Q) X.xe s
def PT(X:Cx)(e:Expr)(t:TT):Prop:=
 ∀(pins:List (Addr×Obj)) (s:Shared) (σ:St) (H:Hp) (Q:Bool→Hp→Prop),Inv X pins σ H s→t σ H Q→wpAny (model X.prog X.w) X.A (isTrue e X.env (eval e X.env)) (TP X pins σ Q) X.xe s
def PW(X:Cx)(e:Expr)(t:TT):Prop:=
 ∀(whole:Sem Value) (pins:List (Addr×Obj)) (s:Shared) (σ:St) (H:Hp) (Q:Bool→Hp→Prop),Inv X pins σ H s→t σ H Q→wpAny (model X.prog X.w) X.A (isTrue e X.env whole) (TP X pins σ Q) X.xe s
theorem PW.pt{X:Cx}{e:Expr}{t:TT}(h:PW X e t):PT X e t:=h _
def PA(X:Cx)(es:List Expr)(t:TA):Prop:=
 ∀(pos:Pos) (pins:List (Addr×Obj)) (s:Shared) (σ:St) (H:Hp) (Q:List V→Hp→Prop),Inv X pins σ H s→t σ H Q→wpAny (model X.prog X.w) X.A (spliced (backTo pos (starEach es X.env))) (AP X pins σ Q) X.xe s
def PS(X:Cx)(st:Stmt)(t:TS):Prop:=
 ∀(pins:List (Addr×Obj)) (s:Shared) (σ:St) (H:Hp) (D:Ib),Inv X pins σ H s→t D σ H→wpAny (model X.prog X.w) X.A (exec st X.env) (SP X pins D) X.xe s
def PSs(X:Cx)(st:List Stmt)(t:TS):Prop:=
 ∀(pins:List (Addr×Obj)) (s:Shared) (σ:St) (H:Hp) (D:Ib),Inv X pins σ H s→t D σ H→wpAny (model X.prog X.w) X.A (execs st X.env) (SP X pins D) X.xe s
theorem thn{α:Type}{t:Sem α}{Q Q':α→Shared→Prop}{M:Model}{A:Around}{E:Value→Shared→Prop}{s:Shared}(h:wpAny M A t Q E s)(hQ:∀a s,Q a s→Q' a s):wpAny M A t Q' E s:=Hs h hQ fun _ _ x=>x
end L2
namespace L2
section
variable {X:Cx}
def J9w(i:Nat):TE:=fun σ H Q=>∃v,σ[i]?=some (some v)∧Q v H
def tC(v:V):TE:=fun _ H Q=>Q v H
theorem J9x{i:Nat}{x:Str}{pos:Pos}(hN:X.N[i]?=some x)(hv:Vis X.env.scope x)(hd:(x==("__debug__":Str))=false:=by decide)(hcd:(x==("__classdict__":Str))=false:=by decide):PE X (.Name x pos) (J9w i):=by
 intro pins s σ H Q I h;obtain ⟨v,e,h⟩:=h;obtain ⟨m,hn,hl⟩:=I.loc;obtain ⟨u,r,l⟩:=hl i x v hN e hv
 have fin:EP X pins σ Q u s:=⟨v,H,I,r,h⟩
 rcases l with ⟨hk,hm⟩ | ⟨hk,c,hc,hcell⟩
 · exact wpAny_Name (wpAny_loadName_local I.ok.kind hk hn hm fin) hd
 · rcases hk with hk | hk
   · exact wpAny_Name (wpAny_loadName_cell I.ok.kind hk hc hcell fin) hd
   · exact wpAny_Name (wpAny_loadName_free I.ok.kind hk hc hcell fin hcd) hd
theorem A9{i j pos}:PE X (.Constant (.int i) j pos) (tC (.int i)):=fun _ _ _ H _ I h=>wpAny_Constant_int ⟨.int i,H,I.tok _,⟨_,rfl⟩,h⟩
theorem D9{b j pos}:PE X (.Constant (.bool b) j pos) (tC (.bl b)):=fun _ _ _ H _ I h=>Constant_bool ⟨.bl b,H,I,rfl,h⟩
theorem Qk{j pos}:PE X (.Constant .none j pos) (tC .non):=fun _ _ _ H _ I h=>Constant_none ⟨.non,H,I,rfl,h⟩
theorem Cm{x j pos}:PE X (.Constant (.str x) j pos) (tC (.str x)):=fun _ _ _ H _ I h=>Calls.Constant_str ⟨.str x,H,I.tok _,⟨_,rfl⟩,h⟩
def Gl(X:Cx)(x:Str):Prop:=X.env.kindOf x=some .globalImplicit
theorem Nl{E:Value→Shared→Prop}{pins:List (Addr×Obj)}{s:Shared}{σ:St}{H:Hp}{x:Str}{u:Value}{pos:Pos}{Q:Value→Shared→Prop}(I:Inv X pins σ H s)(hg:Gl X x)(hm:X.mg x=some u)(h:Q u s)
 (hd:(x==("__debug__":Str))=false:=by decide):wpAny (model X.prog X.w) X.A (eval (.Name x pos) X.env) Q E s:=
 Calls.Name_function_global I.ok.kind hg (Calls.loadGlobal_global (by rw [I.ok.glob];exact I.mod.glob.keeps I.bk) hm h) hd
theorem Gb{E:Value→Shared→Prop}{pins:List (Addr×Obj)}{s:Shared}{σ:St}{H:Hp}{x:Str}{u:Value}{pos:Pos}{Q:Value→Shared→Prop}(I:Inv X pins σ H s)(hg:Gl X x)(hm:X.mg x=none)(hv:bootBuiltins x=some u)(h:Q u s)
 (hn:x≠"__name__":=by decide) (hd:(x==("__debug__":Str))=false:=by decide):wpAny (model X.prog X.w) X.A (eval (.Name x pos) X.env) Q E s:=by
 obtain ⟨mb,h1,h2⟩:=I.mod.blt;exact Calls.Name_function_global I.ok.kind hg (Calls.loadGlobal_builtin (by rw [I.ok.glob];exact I.mod.glob.keeps I.bk) hm (by rw [I.ok.blt];exact h1.keeps I.bk) ((h2 x hn).trans hv) h) hd
theorem Ql{x:Str}{v:V}{u:Value}{pos:Pos}(hg:Gl X x)(hm:X.mg x=some u)(r:Ax v u)(hd:(x==("__debug__":Str))=false:=by decide):PE X (.Name x pos) (tC v):=
 fun _ _ _ H _ I h=>Nl I hg hm ⟨v,H,I,r,h⟩ hd
theorem K3{x:Str}{v:V}{u:Value}{pos:Pos}(hg:Gl X x)(hm:X.mg x=none)(hv:bootBuiltins x=some u)(r:Ax v u)(hn:x≠"__name__":=by decide)(hd:(x==("__debug__":Str))=false:=by decide):PE X (.Name x pos) (tC v):=
 fun _ _ _ H _ I h=>Gb I hg hm hv ⟨v,H,I,r,h⟩ hn hd
variable {a b:Expr} {ta tb:TE} {pos:Pos}
def PC(X:Cx)(op:CmpOp)(a b:Expr)(t:TE):Prop:=
 ∀(pins:List (Addr×Obj)) (s:Shared) (σ:St) (H:Hp) (Q:VK),Inv X pins σ H s→t σ H Q→
   wpAny (model X.prog X.w) X.A (eval a X.env) (fun v s₁=>wpAny (model X.prog X.w) X.A (eval b X.env) (fun u s₂=>wpAny (model X.prog X.w) X.A (compareOp op v u) (EP X pins σ Q) X.xe s₂) X.xe s₁) X.xe s
theorem T7(b:Expr){op:CmpOp}(h:op≠ .In)(h2:op≠ .NotIn):behindInMarks op b=false:=by
 have e1:(op==CmpOp.In)=false:=by cases op <;> first | rfl | exact absurd rfl h
 have e2:(op==CmpOp.NotIn)=false:=by cases op <;> first | rfl | exact absurd rfl h2
 cases b <;> simp [behindInMarks,e1,e2]
def tB(t:TE):TT:=fun σ H Q=>t σ H fun x H1=>∃c,x= .bl c∧Q c H1
theorem J1w{op:CmpOp}{t:TE}(h:PC X op a b t)(h1:behindInMarks op b=false:=by first | exact T7 _ (by decide) (by decide) | rfl):PE X (.Compare a [op] [b] pos) t:=fun pins s σ H Q I hw=>wpAny_Compare1 (h pins s σ H Q I hw) h1
theorem Vk{op:CmpOp}{t:TE}(h:PC X op a b t)(h1:behindInMarks op b=false:=by first | exact T7 _ (by decide) (by decide) | rfl):PT X (.Compare a [op] [b] pos) (tB t):=by
 intro pins s σ H Q I hw;refine wpAny_isTrue_Compare1 (thn (h pins s σ H _ I hw) fun v s1 h1=>thn h1 fun u s2 h2=>thn h2 fun c s3 hq_=>?_) h1;obtain ⟨x,H1,I1,r1,q1⟩:=hq_;obtain ⟨d,rfl,q⟩:=q1;cases r1;exact Ra ⟨H1,I1,q⟩
theorem Bm{e:Expr}{t:TE}(h:PE X e t)(he:∀whole,isTrue e X.env whole=(do let v ← whole;standAt e.pos;holding [v] (truthy v)):=by intro _;rfl):PT X e (tB t):=by
 intro pins s σ H Q I hw;refine isTrue_plain (thn (h pins s σ H _ I hw) fun v s1 hq_=>?_) (he _);obtain ⟨x,H1,I1,r1,q1⟩:=hq_;obtain ⟨d,rfl,q⟩:=q1;cases r1;exact Ra ⟨H1,I1,q⟩
variable {tA tB':TT} {rest:List Expr}
def Jbj(t u:TT):TT:=fun σ H Q=>t σ H fun c H1=>if c=true then u σ H1 Q else Q false H1
def tOr(t u:TT):TT:=fun σ H Q=>t σ H fun c H1=>if c=true then Q true H1 else u σ H1 Q
def Jbk(t:TT):TT:=fun σ H Q=>t σ H fun c H1=>Q (!c) H1
theorem Qm(ha:PT X a tA):PW X (.BoolOp .And [a] pos) tA:=by
 intro wh pins s σ H Q I h;refine isTrue_and (thn (ha pins s σ H Q I h) fun c s1 e=>?_)
 cases c with
 | true=>exact isTrue_and_nil e
 | false=>exact e
theorem Id(ha:PT X a tA):PW X (.BoolOp .Or [a] pos) tA:=by
 intro wh pins s σ H Q I h;refine isTrue_or (thn (ha pins s σ H Q I h) fun c s1 e=>?_)
 cases c with
 | false=>exact isTrue_or_nil e
 | true=>exact e
theorem Vl(ha:PT X a tA)(hb:PW X (.BoolOp .And (b::rest) pos) tB'):PW X (.BoolOp .And (a::b::rest) pos) (Jbj tA tB'):=by
 intro wh pins s σ H Q I h;refine isTrue_and (thn (ha pins s σ H _ I h) fun c s1 ⟨H1,I1,q1⟩=>?_)
 cases c with
 | true=>exact hb wh pins s1 σ H1 Q I1 q1
 | false=>exact ⟨H1,I1,q1⟩
theorem L9(ha:PT X a tA)(hb:PW X (.BoolOp .Or (b::rest) pos) tB'):PW X (.BoolOp .Or (a::b::rest) pos) (tOr tA tB'):=by
 intro wh pins s σ H Q I h;refine isTrue_or (thn (ha pins s σ H _ I h) fun c s1 ⟨H1,I1,q1⟩=>?_)
 cases c with
 | true=>exact ⟨H1,I1,q1⟩
 | false=>exact hb wh pins s1 σ H1 Q I1 q1
theorem Br(ha:PT X a tA):PT X (.UnaryOp .Not a pos) (Jbk tA):=by
 intro pins s σ H Q I h;exact isTrue_not (ha pins s σ H (fun c H1=>Q (!c) H1) I h)
def J8l(ta tb:TE):TE:=fun σ H Q=>ta σ H fun x H1=>∃c,x= .bl c∧if c=true then tb σ H1 Q else Q (.bl false) H1
def J8m(ta:TE):TE:=fun σ H Q=>ta σ H fun x H1=>∃c,x= .bl c∧Q (.bl (!c)) H1
theorem L0{op}{t:TE}(h:PE X a t):PE X (.BoolOp op [a] pos) t:=fun pins s σ H Q I hw=>BoolOp_one (h pins s σ H Q I hw)
theorem Ie(ha:PE X a ta)(hb:PE X (.BoolOp .And (b::rest) pos) tb):PE X (.BoolOp .And (a::b::rest) pos) (J8l ta tb):=by
 intro pins s σ H Q I h;refine BoolOp_and (thn (ha pins s σ H _ I h) fun v s1 hq_=>?_);obtain ⟨x,H1,I1,r1,q1⟩:=hq_;obtain ⟨c,rfl,q1⟩:=q1;cases r1;refine Ra ?_
 cases c with
 | true=>exact hb pins s1 σ H1 Q I1 q1
 | false=>exact ⟨.bl false,H1,I1,rfl,q1⟩
theorem J1x(ha:PE X a ta):PE X (.UnaryOp .Not a pos) (J8m ta):=by
 intro pins s σ H Q I h;refine UnaryOp_ (thn (ha pins s σ H _ I h) fun v s1 hq_=>?_);obtain ⟨x,H1,I1,r1,q1⟩:=hq_;obtain ⟨c,rfl,q1⟩:=q1;cases r1;exact not_of (Ra ⟨.bl (!c),H1,I1,rfl,q1⟩)
end
end L2
namespace L2
def SqL(K:PySem.W.Frag)(H:Hp)(a:Addr)(xs:List V):Prop:=
 Rd H a (.lst xs)∨
  ∃(o:Obj) (its:Array Value) (n:Nat),K.lookup a=some o∧o.cls= .type "list"∧o.dict=none∧o.data= .seq its n∧its.size≤sizeLine∧Au xs its.toList
def SqT(K:PySem.W.Frag)(H:Hp)(a:Addr)(xs:List V):Prop:=
 Rd H a (.tup xs)∨
  ∃(o:Obj) (its:Array Value) (n:Nat),K.lookup a=some o∧o.cls= .type "tuple"∧o.data= .seq its n∧its.size≤sizeLine∧Au xs its.toList
def Jd2:Value→Option V
 | .none=>some .non
 | .bool b=>some (.bl b)
 | .int i _=>some (.int i)
 | .str x _=>some (.str x)
 | .bytes b _=>some (.byt b)
 | .float b _=>some (.flt b)
 | .ref a=>some (.ref a)
 | .type n=>some (.ty n)
 | _=>none
theorem Ax.abs{x:V}{u:Value}(r:Ax x u):Jd2 u=some x:=by
 cases x with
 | non=>cases r;rfl
 | bl _=>cases r;rfl
 | int _=>obtain ⟨t,rfl⟩:=r;rfl
 | str _=>obtain ⟨t,rfl⟩:=r;rfl
 | byt _=>obtain ⟨t,rfl⟩:=r;rfl
 | flt _=>obtain ⟨t,rfl⟩:=r;rfl
 | ref _=>cases r;rfl
 | ty _=>cases r;rfl
theorem Ax.inj{x y:V}{u:Value}(r:Ax x u)(q:Ax y u):x=y:=FS (r.abs.symm.trans q.abs)
theorem Au.inj:∀{xs ys:List V} {us:List Value},Au xs us→Au ys us→xs=ys
 | _,_,_,.nil,.nil=>rfl
 | _,_,_,.cons r t,.cons r' t'=>by rw [r.inj r',Au.inj t t']
section
variable {X:Cx} {pins:List (Addr×Obj)} {σ:St} {H:Hp} {s:Shared} {a:Addr} {xs ys:List V}
theorem SqL.of{K:PySem.W.Frag}(h:H a=some (.lst xs)):SqL K H a xs:= .inl (.inl h)
theorem SqT.of{K:PySem.W.Frag}(h:H a=some (.tup xs)):SqT K H a xs:= .inl (.inl h)
theorem Inv.list(I:Inv X pins σ H s)(h:SqL X.K H a xs):∃its:List Value,Au xs its∧PlainL s.heap a its.toArray∧xs.length≤sizeLine:=by
 rcases h with h | ⟨o,its,n,hk,hc,hd,hs,hz,r⟩
 · obtain ⟨z,its,n,r,e⟩:=h.ok I.hok
   exact ⟨its,r,⟨_,n,e,rfl,rfl,rfl⟩,z⟩
 · refine ⟨its.toList,r,⟨o,n,I.kIn a o hk,hc,hd,by simpa using hs⟩,?_⟩
   have e:=r.length;simp only [Ft]at e;omega
theorem Inv.tuple(I:Inv X pins σ H s)(h:SqT X.K H a xs):∃its:List Value,Au xs its∧IsTup s.heap a its.toArray∧xs.length≤sizeLine:=by
 rcases h with h | ⟨o,its,n,hk,hc,hs,hz,r⟩
 · obtain ⟨z,its,r,p⟩:=h.ok I.hok
   exact ⟨its,r,p,z⟩
 · refine ⟨its.toList,r,⟨o,I.kIn a o hk,hc,n,by simpa using hs⟩,?_⟩
   have e:=r.length;simp only [Ft]at e;omega
theorem Inv.list_inj(I:Inv X pins σ H s)(h:SqL X.K H a xs)(h':SqL X.K H a ys):xs=ys:=by
 obtain ⟨its,r,⟨o,n,e,_,_,d⟩,_⟩:=I.list h;obtain ⟨its',r',⟨o',n',e',_,_,d'⟩,_⟩:=I.list h';rw [e]at e';cases e';rw [d]at d'
 injection d' with d1 _
 have:its=its':=by simpa using congrArg Array.toList d1
 subst this;exact r.inj r'
end
abbrev Cx.wish(X:Cx)(E:Value→Shared→Prop):Cx:={X with xe:=E}
abbrev Cx.nox(X:Cx):Cx:=X.wish fun _ _=>False
theorem Cx.Ok.wish{X:Cx}(ok:X.Ok)(E:Value→Shared→Prop):(X.wish E).Ok:=
 ⟨ok.mod,ok.kind,ok.glob,ok.blt,ok.above,ok.inj,ok.has,ok.cab,ok.hd,ok.frames,ok.stk,ok.exf,ok.bs,ok.bsz,ok.noex,ok.exfs,ok.funs,ok.frf⟩
theorem Cx.Ok.unwish{X:Cx}{E:Value→Shared→Prop}(ok:(X.wish E).Ok):X.Ok:=
 ⟨ok.mod,ok.kind,ok.glob,ok.blt,ok.above,ok.inj,ok.has,ok.cab,ok.hd,ok.frames,ok.stk,ok.exf,ok.bs,ok.bsz,ok.noex,ok.exfs,ok.funs,ok.frf⟩
section
variable {X:Cx} {pins:List (Addr×Obj)} {σ:St} {H:Hp} {s:Shared} {E:Value→Shared→Prop}
theorem Inv.wish(I:Inv X pins σ H s)(E:Value→Shared→Prop):Inv (X.wish E) pins σ H s:=⟨I.ok.wish E,I.os,I.bare,I.base,I.loc,I.cell,I.free,I.freeC,I.pin,I.hok,I.len⟩
theorem Inv.unwish(I:Inv (X.wish E) pins σ H s):Inv X pins σ H s:=⟨I.ok.unwish,I.os,I.bare,I.base,I.loc,I.cell,I.free,I.freeC,I.pin,I.hok,I.len⟩
theorem SP.unwish{D:Ib}{f:Flow}{s':Shared}(h:SP (X.wish E) pins D f s'):SP X pins D f s':=by
 cases f with
 | next=>obtain ⟨σ',H',I,q⟩:=h;exact ⟨σ',H',I.unwish,q⟩
 | brk=>obtain ⟨σ',H',I,q⟩:=h;exact ⟨σ',H',I.unwish,q⟩
 | cont=>obtain ⟨σ',H',I,q⟩:=h;exact ⟨σ',H',I.unwish,q⟩
 | ret u=>obtain ⟨v,σ',H',I,r,q⟩:=h;exact ⟨v,σ',H',I.unwish,r,q⟩
theorem PSs.nox{st:List Stmt}{t:TS}(h:PSs X.nox st t):PSs X st t:=fun pins s σ H D I hw=>
 Hs (h pins s σ H D (I.wish _) hw) (fun _ _ q=>q.unwish) fun _ _ z=>False.elim z
end
section
variable {X:Cx} {st:Stmt} {rest:List Stmt} {t u:TS} {e:Expr} {te:TE} {pos:Pos}
def J1y:TS:=fun D σ H=>D.nx σ H
def Jbl(t u:TS):TS:=fun D σ H=>t {D with nx:=u D} σ H
theorem Ah:PSs X [] J1y:=fun _ _ σ H _ I h=>Js ⟨σ,H,I,h⟩
theorem A1(h1:PS X st t)(h2:PSs X rest u):PSs X (st::rest) (Jbl t u):=by
 intro pins s σ H D I h;refine wpAny_execs_cons (thn (h1 pins s σ H {D with nx:=u D} I h) fun f s1 q=>?_)
 cases f with
 | next=>
  obtain ⟨σ',H',I',q⟩:=q;exact h2 pins s1 σ' H' D I' q
 | ret v=>exact q
 | brk=>exact q
 | cont=>exact q
theorem A5(h1:PS X st t):PSs X [st] t:=by
 intro pins s σ H D I h;refine wpAny_execs_cons (thn (h1 pins s σ H D I h) fun f s1 q=>?_)
 cases f with
 | next=>exact Js q
 | ret v=>exact q
 | brk=>exact q
 | cont=>exact q
theorem Wy:PS X (.Pass pos) J1y:=fun _ _ σ H _ I h=>wpAny_Pass ⟨σ,H,I,h⟩
theorem Inv.quiet{pins:List (Addr×Obj)}{σ:St}{H:Hp}{s:Shared}(I:Inv X pins σ H s):interactive X.env=false:=by simp [interactive,I.ok.kind]
def J8n(te:TE):TS:=fun D σ H=>te σ H fun _ H1=>D.nx σ H1
theorem Al(he:PE X e te)(hs:swapsWith e none pos.line X.env=pure false:=by rfl):PS X (.Expr e pos) (J8n te):=by
 intro pins s σ H D I h;exact wpAny_Expr_any (thn (he pins s σ H _ I h) fun v s1 ⟨x,H1,I1,r1,q1⟩=>⟨σ,H1,I1,q1⟩) I.quiet hs
def Jbm(te:TE):TS:=fun D σ H=>te σ H D.rt
theorem Af(he:PE X e te):PS X (.Return (some e) pos) (Jbm te):=by
 intro pins s σ H D I h;exact wpAny_Return_some (thn (he pins s σ H _ I h) fun v s1 ⟨x,H1,I1,r1,q1⟩=>⟨x,σ,H1,I1,r1,q1⟩)
def Jbn(c:TT)(t u:TS):TS:=fun D σ H=>c σ H fun b H1=>if b=true then t D σ H1 else u D σ H1
theorem B0{c:Expr}{a b:List Stmt}{tc:TT}(hc:PT X c tc)(ha:PSs X a t)(hb:PSs X b u):PS X (.If c a b pos) (Jbn tc t u):=by
 intro pins s σ H D I h;refine wpAny_If (thn (hc pins s σ H _ I h) fun d s1 ⟨H1,I1,q1⟩=>?_)
 cases d with
 | true=>exact ha pins s1 σ H1 D I1 q1
 | false=>exact hb pins s1 σ H1 D I1 q1
def J1z:TS:=fun _ _ _=>False
theorem B3:PS X st J1z:=fun _ _ _ _ _ _ h=>h.elim
end
abbrev TG:=V→St→Hp→(St→Hp→Prop)→Prop
abbrev TGs:=List V→St→Hp→(St→Hp→Prop)→Prop
def PG(X:Cx)(target:Expr)(t:TG):Prop:=
 ∀(pins:List (Addr×Obj)) (s:Shared) (σ:St) (H:Hp) (v:V) (u:Value) (Q:St→Hp→Prop),Inv X pins σ H s→Ax v u→t v σ H Q→
   wpAny (model X.prog X.w) X.A (assign target X.env u) (fun _ s'=>∃σ' H',Inv X pins σ' H' s'∧Q σ' H') X.xe s
def PGs(X:Cx)(ts:List Expr)(t:TGs):Prop:=
 ∀(pins:List (Addr×Obj)) (s:Shared) (σ:St) (H:Hp) (vs:List V) (us:List Value) (Q:St→Hp→Prop),Inv X pins σ H s→Au vs us→t vs σ H Q→
   wpAny (model X.prog X.w) X.A (assignInOrder ((assignEach ts X.env).map (·.2)) us) (fun _ s'=>∃σ' H',Inv X pins σ' H' s'∧Q σ' H') X.xe s
abbrev J6b:=V→V→V→Hp→(Hp→Prop)→Prop
def Jbo(X:Cx)(t:J6b):Prop:=
 ∀(pins:List (Addr×Obj)) (s:Shared) (σ:St) (H:Hp) (o i v:V) (ov iv u:Value) (Q:Hp→Prop),Inv X pins σ H s→Ax o ov→Ax i iv→Ax v u→t o i v H Q→
   wpAny (model X.prog X.w) X.A (setItem ov iv u) (fun _ s'=>∃H',Inv X pins σ H' s'∧Q H') X.xe s
abbrev TIp:=V→V→Hp→VK→Prop
def PIp(X:Cx)(op:Operator)(t:TIp):Prop:=
 ∀(pins:List (Addr×Obj)) (s:Shared) (σ:St) (H:Hp) (x y:V) (v u:Value) (Q:VK),Inv X pins σ H s→Ax x v→Ax y u→t x y H Q→
   wpAny (model X.prog X.w) X.A (inplaceOp op v u) (EP X pins σ Q) X.xe s
section
variable {X:Cx} {pos:Pos}
def C7(i:Nat):TG:=fun v σ H Q=>Q (σ.set i (some v)) H
theorem B2{i:Nat}{x:Str}(hN:X.N.Nodup)(hi:X.N[i]?=some x)(hx:Loc X.env.scope x)(hf:X.fn x=true∨X.env.scope.names.lookup x=some .local:=by first | exact .inl rfl | exact .inr rfl | assumption):PG X (.Name x pos) (C7 i):=by
 intro pins s σ H v u Q I r h;exact wpAny_assign_Name (O2 I hN hi hx r (fun s' I'=>⟨_,H,I',h⟩) hf)
def J9y:TGs:=fun vs σ H Q=>vs=[]∧Q σ H
def Wz(t:TG)(u:TGs):TGs:=fun vs σ H Q=>∃v r,vs=v::r∧t v σ H fun σ' H'=>u r σ' H' Q
theorem Dx:PGs X [] J9y:=by
 intro pins s σ H vs us Q I r h;obtain ⟨e,h⟩:=h;subst e;cases r;exact assignInOrder_nil ⟨σ,H,I,h⟩
theorem Ba{e:Expr}{es:List Expr}{t:TG}{u:TGs}(h1:PG X e t)(h2:PGs X es u)
 (hs:(assignEach (e::es) X.env).map (·.2)=assign e X.env::(assignEach es X.env).map (·.2):=by rfl):PGs X (e::es) (Wz t u):=by
 intro pins s σ H vs us Q I r h;obtain ⟨v,vr,e1,h⟩:=h;subst e1
 cases r with
 | cons r rr=>
  rw [hs];refine assignInOrder_cons (thn (h1 pins s σ H _ _ _ I r h) fun _ s1 hq_=>?_);obtain ⟨σ1,H1,I1,q1⟩:=hq_;exact h2 pins s1 σ1 H1 _ _ Q I1 rr q1
def J9z(K:PySem.W.Frag)(n:Nat)(t:TGs):TG:=fun v σ H Q=>∃a xs,v= .ref a∧SqT K H a xs∧xs.length=n∧t xs σ H Q
theorem Gc{es:List Expr}{k:Nat}{t:TGs}{n:Nat}(hc:X.calm=true)(h:PGs X es t)
 (hn:(assignEach es X.env).length=n:=by rfl) (hst:(assignEach es X.env).findIdx? (·.1)=none:=by rfl):PG X (.Tuple es k pos) (J9z X.K n t):=by
 intro pins s σ H v u Q I r hw;obtain ⟨a,xs,e1,hq,hl,hw⟩:=hw;subst e1;cases r;obtain ⟨its,rv,ht,hz⟩:=I.tuple hq;refine assign_Tuple_tuple (I.ok.hd hc) ht (by simp [hn,← hl,rv.length]) hst fun h' hx=>?_;have I1:Inv X pins σ H {s with heap:=h'}:=I.kept (t':=s.toks) fun b o e=>hx b o (Fs (Fm e)) e;exact h pins _ σ H xs _ Q I1 (by simpa using rv) hw
def Vm(te:TE)(g:TG):TS:=fun D σ H=>te σ H fun x H1=>g x σ H1 D.nx
theorem Ja0{tg e:Expr}{te:TE}{g:TG}(he:PE X e te)(hg:PG X tg g)(hs:swapsWithSole [tg] e pos.line X.env=pure false:=by rfl)(hw:swappedStores [tg] e X.env=pure none:=by rfl)
 (h1:(assignEach [tg] X.env).map (·.2)=[assign tg X.env]:=by rfl):PS X (.Assign [tg] e pos) (Vm te g):=by
 intro pins s σ H D I h;refine wpAny_Assign_stores (thn (he pins s σ H _ I h) fun v s1 hq_=>?_) hs hw;obtain ⟨x,H1,I1,r1,q1⟩:=hq_;rw [h1];exact thn (hg pins s1 σ H1 x v _ I1 r1 q1) fun _ s2 q=>q
theorem Ak{i:Nat}{x:Str}{e:Expr}{te:TE}{pos':Pos}(hN:X.N.Nodup)(hi:X.N[i]?=some x)(hx:Loc X.env.scope x)(he:PE X e te)(hs:swapsWith e (some (.Name x pos')) pos.line X.env=pure false:=by rfl)(hf:X.fn x=true∨X.env.scope.names.lookup x=some .local:=by first | exact .inl rfl | exact .inr rfl | assumption):
 PS X (.Assign [.Name x pos'] e pos) (Vm te (C7 i)):=by
 intro pins s σ H D I h;refine wpAny_Assign_Name (thn (he pins s σ H _ I h) fun v s1 hq_=>?_) hs;obtain ⟨y,H1,I1,r1,q1⟩:=hq_;exact O2 I1 hN hi hx r1 (fun s2 I2=>⟨_,H1,I2,q1⟩) hf
def Ja1(i:Nat)(te:TE)(ti:TIp):TS:=fun D σ H=>∃x,σ[i]?=some (some x)∧te σ H fun y H1=>ti x y H1 fun z H2=>D.nx (σ.set i (some z)) H2
theorem Ja2{i:Nat}{x:Str}{e:Expr}{te:TE}{op:Operator}{ti:TIp}{pos':Pos}(hN:X.N.Nodup)(hi:X.N[i]?=some x)(hx:Loc X.env.scope x)(he:PE X e te)(ho:PIp X op ti)(hf:X.fn x=true∨X.env.scope.names.lookup x=some .local:=by first | exact .inl rfl | exact .inr rfl | assumption):
 PS X (.AugAssign (.Name x pos') op e pos) (Ja1 i te ti):=by
 intro pins s σ H D I h;obtain ⟨v,e1,h⟩:=h;obtain ⟨m,hn,hl⟩:=I.loc
 have vis:Vis X.env.scope x:=by rcases hx with k | k;exact .inl k;exact .inr (.inl k)
 obtain ⟨u,r,l⟩:=hl i x v hi e1 vis;refine wpAny_AugAssign_Name ?_
 have go:wpAny (model X.prog X.w) X.A (eval e X.env) (fun w s₂=>wpAny (model X.prog X.w) X.A (inplaceOp op u w) (fun r s₃=>wpAny (model X.prog X.w) X.A (storeName X.env x r) (fun _=>SP X pins D .next) X.xe s₃) X.xe s₂) X.xe s:=by
  refine thn (he pins s σ H _ I h) fun w s1 hq_=>?_;obtain ⟨y,H1,I1,r1,q1⟩:=hq_;refine thn (ho pins s1 σ H1 v y u w _ I1 r r1 q1) fun z s2 hq_=>?_;obtain ⟨zv,H2,I2,r2,q2⟩:=hq_;exact O2 I2 hN hi hx r2 (fun s3 I3=>⟨_,H2,I3,q2⟩) hf
 rcases l with ⟨hk,hm⟩ | ⟨hk,c,hc,hcell⟩
 · exact wpAny_loadName_local I.ok.kind hk hn hm go
 · rcases hk with hk | hk
   · exact wpAny_loadName_cell I.ok.kind hk hc hcell go
   · rcases hx with k | k
     · have:X.env.scope.names.lookup x=some .free:=hk
       rw [k]at this;cases this
     · have:X.env.scope.names.lookup x=some .free:=hk
       rw [k]at this;cases this
def J8o(to ti te:TE)(tget:V→V→Hp→VK→Prop)(tip:TIp)(tset:J6b):TS:=fun D σ H=>to σ H fun o H1=>ti σ H1 fun i H2=>tget o i H2 fun x H3=>te σ H3 fun y H4=>tip x y H4 fun z H5=>tset o i z H5 fun H6=>D.nx σ H6
def Jbp(X:Cx)(t:V→V→Hp→VK→Prop):Prop:=
 ∀(pins:List (Addr×Obj)) (s:Shared) (σ:St) (H:Hp) (o i:V) (ov iv:Value) (Q:VK),Inv X pins σ H s→Ax o ov→Ax i iv→t o i H Q→
   wpAny (model X.prog X.w) X.A (getItem ov iv) (EP X pins σ Q) X.xe s
theorem X0{o i e:Expr}{to ti te:TE}{tget:V→V→Hp→VK→Prop}{tip:TIp}{tset:J6b}{op:Operator}{tpos:Pos}(ho:PE X o to)(hi:PE X i ti)(hg:Jbp X tget)(he:PE X e te)(hp:PIp X op tip)(hs:Jbo X tset)
 (ha:∀ov iv new,augStore i ov iv new=(do holding [new,ov,iv] (setItem ov iv new);release [new,ov,iv] [];pure .next):=by intros;rfl):PS X (.AugAssign (.Subscript o i tpos) op e pos) (J8o to ti te tget tip tset):=by
 intro pins s σ H D I h;refine wpAny_AugAssign_SubscriptAny (thn (ho pins s σ H _ I h) fun ov s1 hq_=>?_) ha;obtain ⟨x1,H1,I1,r1,q1⟩:=hq_;refine thn (hi pins s1 σ H1 _ I1 q1) fun iv s2 hq_=>?_;obtain ⟨x2,H2,I2,r2,q2⟩:=hq_;refine thn (hg pins s2 σ H2 x1 x2 ov iv _ I2 r1 r2 q2) fun old s3 hq_=>?_;obtain ⟨x3,H3,I3,r3,q3⟩:=hq_;refine thn (he pins s3 σ H3 _ I3 q3) fun v s4 hq_=>?_;obtain ⟨x4,H4,I4,r4,q4⟩:=hq_;refine thn (hp pins s4 σ H4 x3 x4 old v _ I4 r3 r4 q4) fun new s5 hq_=>?_;obtain ⟨x5,H5,I5,r5,q5⟩:=hq_
 exact thn (hs pins s5 σ H5 x1 x2 x5 ov iv new _ I5 r1 r2 r5 q5) fun _ s6 ⟨H6,I6,q6⟩=>⟨σ,H6,I6,q6⟩
def ipI(f:Int→Int→Int):TIp:=fun x y H Q=>∃i j,x= .int i∧y= .int j∧Q (.int (f i j)) H
theorem Vn:PIp X .Add (ipI fun i j=>i+j):=by
 intro pins s σ H x y v u Q I r1 r2 h;obtain ⟨i,j,e1,e2,q⟩:=h;subst e1;subst e2;obtain ⟨t,rfl⟩:=r1;obtain ⟨t',rfl⟩:=r2;exact iadd_int ⟨.int _,H,I.tok _,⟨_,rfl⟩,q⟩
end
section
variable {X:Cx} {pos:Pos}
def J20(c:TT)(tb:TS):TS:=fun D σ H=>∃W:Nat→St→Hp→Prop,(∃m,W m σ H)∧∀m σ H,W m σ H→
 c σ H fun b H1=>if b=true then ∃N:St→Hp→Prop,(∀σ' H',N σ' H'→∃m',m' < m∧W m' σ' H')∧tb {D with nx:=N,ct:=N,bk:=D.nx} σ H1 else D.nx σ H1
theorem T8{c:Expr}{body:List Stmt}{tc:TT}{tb:TS}(hp:PassesOwn (model X.prog X.w) X.A X.env X.xe)(hc:PT X c tc)(hb:PSs X body tb):PS X (.While c body [] pos) (J20 tc tb):=by
 intro pins s σ H D I h;obtain ⟨W,⟨m0,w0⟩,turn⟩:=h;refine wpAny_While (codeAny_whileLoop (fun n s'=>∃σ' H',Inv X pins σ' H' s'∧W n σ' H') ?_ m0 ⟨σ,H,I,w0⟩);rintro n s1 ⟨σ1,H1,I1,w1⟩;refine Rq hp (thn (hc pins s1 σ1 H1 _ I1 (turn n σ1 H1 w1)) fun b s2 ⟨H2,I2,q2⟩=>?_)
 cases b with
 | true=>
  obtain ⟨N,hN,q2⟩:=q2;rw [if_pos rfl];refine Rq hp (thn (hb pins s2 σ1 H2 _ I2 q2) fun f s3 q3=>?_)
  cases f with
  | next=>
   obtain ⟨σ3,H3,I3,n3⟩:=q3;obtain ⟨m',hm,w3⟩:=hN σ3 H3 n3;exact ⟨m',hm,σ3,H3,I3,w3⟩
  | cont=>
   obtain ⟨σ3,H3,I3,n3⟩:=q3;obtain ⟨m',hm,w3⟩:=hN σ3 H3 n3;exact ⟨m',hm,σ3,H3,I3,w3⟩
  | brk=>exact q3
  | ret v=>exact q3
 | false=>
  rw [if_neg FD];exact Js ⟨σ1,H2,I2,q2⟩
end
structure It where
 go:Nat→Hp→Prop
 yld:Nat→Hp→V→Hp→Prop
 stop:Nat→Hp→Prop
def Dr(X:Cx)(pins:List (Addr×Obj))(H:Hp)(b:Addr):Prop:=
 H b=none∧b≠X.env.locals∧b∉X.fs∧(b∈X.ex∨X.s₀.heap.objs.size≤b)∧(∀x c,X.env.cells.lookup x=some c→c≠b)∧∀p∈X.pn++pins,p.1≠b
theorem Inv.fpOk{X:Cx}{pins:List (Addr×Obj)}{σ:St}{H H':Hp}{s:Shared}{b:Addr}(I:Inv X pins σ H s)(hb:s.heap.objs.size≤b)(hn:H' b=none):Dr X pins H' b:=by
 refine ⟨hn,Nat.ne_of_gt (Fq I.lt hb),I.nofs hb,.inr (FC I.sz hb),fun x c e z=>?_,fun p hp z=>?_⟩
 · obtain ⟨v,q⟩:=I.cell x c e
   exact absurd (Fq q.lt (by rw [z];exact hb)) (Hc _)
 · exact absurd (Fq (Fm (I.pin p hp).1) (by rw [z];exact hb)) (Hc _)
structure J0c(P:Program)(w:World)(K:PySem.W.Frag)(tg:Expr)(J:It)(fp:List Addr)(it:Addr)(tn:Nat→Heap→Prop):Prop where
 mem:it∈fp
 obj:∀i h,tn i h→∀b∈fp,∃o,h.get? b=some o∧∀v,o.data≠ .cell v
 keep:∀i h h',tn i h→(∀b∈fp,∀o,h.get? b=some o→h'.get? b=some o)→tn i h'
 item:∀(X:Cx),X.prog=P→X.w=w→X.K=K→X.calm=true→∀(i:Nat) (pins:List (Addr×Obj)) (s:Shared) (σ:St) (H:Hp) (E:Value→Shared→Prop),Inv X pins σ H s→(∀b∈fp,Dr X pins H b)→tn i s.heap→J.go i H→
  wpAny (model P w) X.A (pyNext (.ref it)) (fun r s1=>∃u,r=some u∧
   wpAny (model P w) X.A (letOwnedTupleGo tg (.ref it) u) (fun _ s2=>∃x H',Inv X pins σ H' s2∧Ax x u∧J.yld i H x H'∧tn (i+1) s2.heap∧∀b∈fp,H' b=none) E s1) E s
 done:∀(X:Cx),X.prog=P→X.w=w→X.K=K→X.calm=true→∀(i:Nat) (pins:List (Addr×Obj)) (s:Shared) (σ:St) (H:Hp) (E:Value→Shared→Prop),Inv X pins σ H s→(∀b∈fp,Dr X pins H b)→tn i s.heap→J.stop i H→
   wpAny (model P w) X.A (pyNext (.ref it)) (fun r s1=>r=none∧Inv X pins σ H s1) E s
 self:∀(A:Around) (i:Nat) (s:Shared) (Q:Value→Shared→Prop) (E:Value→Shared→Prop),tn i s.heap→Q (.ref it) s→wpAny (model P w) A (pyIter (.ref it)) Q E s
abbrev TI:=St→Hp→(It→Hp→Prop)→Prop
def PIE(X:Cx)(pins:List (Addr×Obj))(σ:St)(tg:Expr)(R:It→Hp→Prop)(itv:Value)(s2:Shared):Prop:=
 ∃(it:Addr) (fp:List Addr) (tn:Nat→Heap→Prop) (J:It) (H':Hp),itv= .ref it∧Inv X pins σ H' s2∧J0c X.prog X.w X.K tg J fp it tn∧tn 0 s2.heap∧(∀b∈fp,Dr X pins H' b)∧R J H'
def PI(X:Cx)(tg iter:Expr)(wi:TI):Prop:=
 ∀(pins:List (Addr×Obj)) (s:Shared) (σ:St) (H:Hp) (R:It→Hp→Prop),Inv X pins σ H s→wi σ H R→
   wpAny (model X.prog X.w) X.A (eval iter X.env) (fun v s1=>wpAny (model X.prog X.w) X.A (pyIter v) (PIE X pins σ tg R) X.xe s1) X.xe s
theorem J21{M:Model}{A:Around}{E:Value→Shared→Prop}{s:Shared}{tg:Expr}{it:Addr}{u:Value}{o:Obj}{n:String}{vs:Array Value}{Q:Unit→Shared→Prop}(ho:s.heap.get? it=some o)(hc:o.cls= .type n)(hd:o.data= .fields vs)
 (hn:["enumerate","zip","dict_itemiterator","dict_reverseitemiterator","odict_iterator","itertools.zip_longest","itertools.pairwise"].contains n=false) (hQ:Q () s):wpAny M A (letOwnedTupleGo tg (.ref it) u) Q E s:=by
 unfold letOwnedTupleGo
 cases tg <;> first
  | exact Fi hQ
  | (cases u <;> first
   | exact Fi hQ
   | (refine Fd (wpAny_load ho ?_)
      rw [hc,hd];show wpAny M A (if (["enumerate","zip","dict_itemiterator","dict_reverseitemiterator","odict_iterator","itertools.zip_longest","itertools.pairwise"].contains n && vs[0]?==some (rawInt _))=true then _ else _) Q E s;rw [if_neg (by intro h;rw [hn,Bool.false_and]at h;cases h)]
      exact Fi hQ))
def Itl(K:PySem.W.Frag)(a:Addr):It:=
 ⟨fun i H=>∃xs x,SqL K H a xs∧xs[i]?=some x,fun i H x H'=>H'=H∧∀xs,SqL K H a xs→xs[i]?=some x,fun i H=>∃xs,SqL K H a xs∧xs.length≤i⟩
def Itr(lo:Int)(n:Nat):It:=⟨fun i _=>i < n,fun i H x H'=>H'=H∧x= .int (lo+i),fun i _=>n≤i⟩
theorem J0d{P:Program}{w:World}{K:PySem.W.Frag}{tg:Expr}(a it:Addr):J0c P w K tg (Itl K a) [it] it (fun i h=>h.IsListIter it a i) where
 mem:=by simp
 obj:=fun i h st b hb=>by
  have e:b=it:=by simpa using hb
  subst e;obtain ⟨o,e,c,d⟩:=st;exact ⟨o,e,fun v z=>by rw [d]at z;cases z⟩
 keep:=fun i h h' st k=>st.at fun o e=>k it (by simp) o e
 item:=by
  intro X hP hw hK hc i pins s σ H E I hf st hg;subst hP hw hK;obtain ⟨xs,x,hq,hx⟩:=hg;obtain ⟨its,rv,p,hz⟩:=I.list hq;obtain ⟨u,hu,ru⟩:=rv.get hx;obtain ⟨f0,f1,f2,f3,f4,f5⟩:=hf it (by simp);refine wpAny_pyNext_list_item st p.isList (x:=u) (by simpa using hu) fun h' st' sb=>?_;have I1:Inv X pins σ H {s with heap:=h'}:=I.turned (t':=s.toks) (fun b o hb e=>(sb.2 b hb).trans e) f0 f1 f3 f4 f5;obtain ⟨o,e,c,d⟩:=id st';exact ⟨u,rfl,J21 (s:={s with heap:=h'}) e c d (by decide) ⟨x,H,I1,ru,⟨rfl,fun ys hy=>by rw [I.list_inj hy hq];exact hx⟩,st',fun b hb=>(hf b hb).1⟩⟩
 done:=by
   intro X hP hw hK hc i pins s σ H E I hf st hg;subst hP hw hK;obtain ⟨xs,hq,hx⟩:=hg;obtain ⟨its,rv,p,hz⟩:=I.list hq;obtain ⟨f0,f1,f2,f3,f4,f5⟩:=hf it (by simp);have hl:=rv.length
   exact wpAny_pyNext_list_end (I.ok.hd hc) st p.isList (by simp;omega) fun h' eb=>⟨rfl,I.turned (t':=s.toks) (fun b o hb e=>eb b o hb e) f0 f1 f3 f4 f5⟩
 self:=fun _ _ _ _ _ st h=>wpAny_pyIter_listiter st h
theorem Vo{P:Program}{w:World}{K:PySem.W.Frag}{tg:Expr}(it:Addr)(lo:Int)(n:Nat):J0c P w K tg (Itr lo n) [it] it (fun i h=>IsRangeIter h it (lo+(i:Nat) * 1) ((n:Int) - (i:Nat)) 1) where
 mem:=by simp
 obj:=fun i h st b hb=>by
  have e:b=it:=by simpa using hb
  subst e
  exact ⟨_,st,fun v z=>by
   have z':Data.fields _=Data.cell v:=z
   cases z'⟩
 keep:=fun i h h' st k=>k it (by simp) _ st
 item:=by
  intro X hP hw hK hc i pins s σ H E I hf st hg;subst hP hw hK;obtain ⟨f0,f1,f2,f3,f4,f5⟩:=hf it (by simp);have W:=Walks.range (prog:=X.prog) (w:=X.w) (I.ok.hd hc) it lo 1 n;refine W.item i s _ _ hg st fun v h' tk hv st' kk=>?_;obtain ⟨t,rfl⟩:=hv;have I1:Inv X pins σ H {s with heap:=h',toks:=tk}:=I.turned (fun b o hb e=>kk b o (by simpa using hb) e) f0 f1 f3 f4 f5;refine ⟨_,rfl,J21 (s:={s with heap:=h',toks:=tk}) (n:="range_iterator") st' rfl rfl (by decide) ⟨.int (lo+i),H,I1,⟨t,?_⟩,⟨rfl,rfl⟩,st',fun b hb=>(hf b hb).1⟩⟩;rw [Int.mul_one]
 done:=by
   intro X hP hw hK hc i pins s σ H E I hf st hg;subst hP hw hK;obtain ⟨f0,f1,f2,f3,f4,f5⟩:=hf it (by simp)
   exact wpAny_pyNext_range_end (I.ok.hd hc) st (by have:n≤i:=hg;omega) fun h' eb=>⟨rfl,I.turned (t':=s.toks) (fun b o hb e=>eb b o hb e) f0 f1 f3 f4 f5⟩
 self:=fun _ _ _ _ _ st h=>wpAny_pyIter_rangeiter st h
end L2
namespace L2
section
variable {X:Cx} {tg:Expr}
def J8p(K:PySem.W.Frag)(tl:TE):TI:=fun σ H R=>tl σ H fun x H1=>∃a,x= .ref a∧(∃xs,SqL K H1 a xs)∧R (Itl K a) H1
theorem C4{l:Expr}{tl:TE}(hl:PE X l tl):PI X tg l (J8p X.K tl):=by
 intro pins s σ H R I h;refine thn (hl pins s σ H _ I h) fun v s1 hq_=>?_;obtain ⟨x,H1,I1,r1,q1⟩:=hq_;obtain ⟨a,e,⟨xs,hq⟩,q⟩:=q1;subst e;cases r1;obtain ⟨its,rv,p,hz⟩:=I1.list hq;refine Rt p.isList ?_;refine ⟨s1.heap.objs.size,[s1.heap.objs.size],_,_,H1,rfl,I1.kept (t':=s1.toks) fun b o e=>Ff _ e,J0d a _,⟨_,Fo _ rfl,rfl,rfl⟩,fun b hb=>?_,q⟩
 have e:b=s1.heap.objs.size:=by simpa using hb
 subst e;exact I1.fpOk (Fh _) (I1.hok.fresh (Fh _))
theorem J22{pins:List (Addr×Obj)}{σ:St}{H:Hp}{s:Shared}{R:It→Hp→Prop}{E:Value→Shared→Prop}{lo hi:Int}{t u v:Tok}{tk:Nat}(I:Inv X pins σ H s)(h1:-(2 ^ 62)≤lo)(h2:lo < 2 ^ 62)(h3:-(2 ^ 62)≤hi)(h4:hi < 2 ^ 62)
 (q:R (Itr lo (hi - lo).toNat) H):wpAny (model X.prog X.w) X.A (pyIter (.ref s.heap.objs.size)) (PIE X pins σ tg R) E {s with heap:=s.heap.push {cls:= .type "range",data:= .fields #[.int lo t,.int hi u,.int 1 v]},toks:=tk}:=by
 refine wpAny_pyIter_range (IsRange.new ..) (small_one h1 h2 h3 h4) ?_;have I1:Inv X pins σ H {s with heap:=s.heap.push {cls:= .type "range",data:= .fields #[.int lo t,.int hi u,.int 1 v]},toks:=tk}:=I.kept fun b o e=>Ff _ e
 refine ⟨(s.heap.push {cls:= .type "range",data:= .fields #[.int lo t,.int hi u,.int 1 v]}).objs.size,[(s.heap.push {cls:= .type "range",data:= .fields #[.int lo t,.int hi u,.int 1 v]}).objs.size],_,_,H,rfl,
  I1.kept (t':=tk) fun b o e=>Ff _ e,Vo _ lo (hi - lo).toNat,?_,fun b hb=>?_,q⟩
 · have e1:lo+((0:Nat):Int) * 1=lo:=by simp
   have e2:(((hi - lo).toNat:Nat):Int) - ((0:Nat):Int)=Builtin.Range.rangeSize lo hi 1:=by rw [rangeSize_one];split <;> omega
   show IsRangeIter _ _ (lo+((0:Nat):Int) * 1) ((((hi - lo).toNat:Nat):Int) - ((0:Nat):Int)) 1;rw [e1,e2];exact Fo _ rfl
 · have e:b=(s.heap.push {cls:= .type "range",data:= .fields #[.int lo t,.int hi u,.int 1 v]}).objs.size:=by simpa using hb
   subst e;exact I1.fpOk (Fh _) (I1.hok.fresh (Fh _))
def J8q(ta:TA):TI:=fun σ H R=>ta σ H fun vs H1=>∃j:Int,vs=[.int j]∧-(2 ^ 62)≤j∧j < 2 ^ 62∧R (Itr 0 j.toNat) H1
theorem Cs{a:Expr}{ta:TA}{p pos:Pos}(hg:Gl X "range")(hm:X.mg "range"=none)(ha:PA X [a] ta)(hs:starEach [a] X.env=[(false,eval a X.env)]:=by rfl):PI X tg (.Call (.Name "range" p) [a] [] pos) (J8q ta):=by
 intro pins s σ H R I h;refine Call_ (Gb I hg hm boot_range (Ru (thn (ha pos pins s σ H _ I h) fun us s1 hq_=>?_) hs rfl));obtain ⟨vs,H1,I1,r1,q1⟩:=hq_;obtain ⟨j,e,q1,q2,q⟩:=q1;subst e
 cases r1 with
 | cons r rr=>
  cases rr;obtain ⟨t,rfl⟩:=r;exact call_range_1 (J22 I1 (by omega) (by omega) q1 q2 (by simpa using q))
def Jbq(wi:TI)(g:TG)(tb:TS):TS:=fun D σ H=>wi σ H fun J H1=>∃W:Nat→Nat→St→Hp→Prop,(∃m,W 0 m σ H1)∧∀i m σ H,W i m σ H→
 (J.stop i H∧D.nx σ H)∨(J.go i H∧∃N:St→Hp→Prop,(∀σ' H',N σ' H'→∃m',m' < m∧W (i+1) m' σ' H')∧∀x H',J.yld i H x H'→g x σ H' fun σ2 H2=>tb {D with nx:=N,ct:=N,bk:=D.nx} σ2 H2)
def Me(fp:List Addr)(h:Heap):List (Addr×Obj):=fp.filterMap fun b=>(h.get? b).map fun o=>(b,o)
theorem Gd{fp:List Addr}{h:Heap}{b:Addr}{o:Obj}(hb:b∈fp)(e:h.get? b=some o):(b,o)∈Me fp h:=JN.mpr ⟨b,hb,by rw [e];rfl⟩
theorem J0e{fp:List Addr}{h:Heap}{p:Addr×Obj}(hp:p∈Me fp h):p.1∈fp∧h.get? p.1=some p.2:=by
 obtain ⟨b,hb,e⟩:=JN.mp hp
 cases q:h.get? b with
 | none=>rw [q]at e;cases e
 | some o=>
  rw [q]at e;have e':(b,o)=p:=FS e;subst e';exact ⟨hb,q⟩
theorem Inv.pinned{pins:List (Addr×Obj)}{σ:St}{H:Hp}{s:Shared}{fp:List Addr}(I:Inv X pins σ H s)(hf:∀b∈fp,Dr X pins H b)(ho:∀b∈fp,∃o,s.heap.get? b=some o∧∀v,o.data≠ .cell v):Inv X (pins++Me fp s.heap) σ H s:=
 I.pins_of fun p hp=>(FI.mp hp).elim (fun z=>I.pin p (FG _ z)) fun z=>by
  obtain ⟨hb,e⟩:=J0e z;obtain ⟨f0,f1,f2,_⟩:=hf p.1 hb;obtain ⟨o,e',d⟩:=ho p.1 hb;rw [e]at e';cases e';exact ⟨e,f0,f1,f2,d⟩
theorem Inv.unpinned{pins pl:List (Addr×Obj)}{σ:St}{H:Hp}{s:Shared}(I:Inv X (pins++pl) σ H s):Inv X pins σ H s:=I.pins_of fun p hp=>I.pin p (FG _ (Re _ hp))
theorem C5{iter:Expr}{body:List Stmt}{wi:TI}{g:TG}{tb:TS}{pos:Pos}(hp:PassesOwn (model X.prog X.w) X.A X.env X.xe)(hc:X.calm=true)(hi:PI X tg iter wi)(hg:PG X tg g)(hb:PSs X body tb)
 (hs:∀x,foldedSetIterable iter X.env x=pure x:=by intro _;rfl):PS X (.For tg iter body [] pos) (Jbq wi g tb):=by
 intro pins s σ H D I h;refine wpAny_For (thn (hi pins s σ H _ I h) fun v s1 h1=>thn h1 fun itv s2 h2=>?_) hs;obtain ⟨it,fp,tn,J,H2,e,I2,T,st2,f2,W,⟨m0,w0⟩,turn⟩:=h2;subst e
 have stat:∀{H':Hp},(∀b∈fp,H' b=none)→∀b∈fp,Dr X pins H' b:=fun hn b hb=>⟨hn b hb,(f2 b hb).2⟩
 refine codeAny_forLoop_any (fun n s'=>∃i σ' H',Inv X pins σ' H' s'∧tn i s'.heap∧(∀b∈fp,H' b=none)∧W i n σ' H') ?_ m0 ⟨0,σ,H2,I2,st2,fun b hb=>(f2 b hb).1,w0⟩;rintro n s3 ⟨i,σ3,H3,I3,st3,fr3,w3⟩;rcases turn i n σ3 H3 w3 with ⟨stop,qn⟩ | ⟨go,N,hN,step⟩
 · refine Rq hp (thn (T.done X rfl rfl rfl hc i pins s3 σ3 H3 X.xe I3 (stat fr3) st3 stop) fun r s4 ⟨hr,I4⟩=>?_)
   subst hr;exact Js ⟨σ3,H3,I4,qn⟩
 · refine Rq hp (thn (T.item X rfl rfl rfl hc i pins s3 σ3 H3 X.xe I3 (stat fr3) st3 go) fun r s4 ⟨u,hr,h4⟩=>?_)
   subst hr;refine Rq hp (thn h4 fun _ s5 hq_=>?_);obtain ⟨x,H5,I5,r5,y5,st5,fr5⟩:=hq_;have I5':=I5.pinned (stat fr5) (T.obj _ _ st5);refine Rq hp (thn (hg _ s5 σ3 H5 x u _ I5' r5 (step x H5 y5)) fun _ s6 hq_=>?_);obtain ⟨σ6,H6,I6,q6⟩:=hq_;refine Rq hp (thn (hb _ s6 σ6 H6 _ I6 q6) fun f s7 q7=>?_)
   have again:∀{σ7:St} {H7:Hp},Inv X (pins++Me fp s5.heap) σ7 H7 s7→N σ7 H7→∃m,m < n∧∃i σ' H',Inv X pins σ' H' s7∧tn i s7.heap∧(∀b∈fp,H' b=none)∧W i m σ' H':=fun {σ7 H7} I7 n7=>by
    obtain ⟨m',hm,w7⟩:=hN σ7 H7 n7;refine ⟨m',hm,i+1,σ7,H7,I7.unpinned,T.keep _ _ _ st5 fun b hb o e=>(I7.pin (b,o) (FG _ (FG _ (Gd hb e)))).1,fun b hb=>?_,w7⟩;obtain ⟨o,e,d⟩:=T.obj _ _ st5 b hb;exact (I7.pin (b,o) (FG _ (FG _ (Gd hb e)))).2.1
   cases f with
   | next=>obtain ⟨σ7,H7,I7,n7⟩:=q7;exact again I7 n7
   | cont=>obtain ⟨σ7,H7,I7,n7⟩:=q7;exact again I7 n7
   | brk=>obtain ⟨σ7,H7,I7,q7⟩:=q7;exact ⟨σ7,H7,I7.unpinned,q7⟩
   | ret v=>obtain ⟨x7,σ7,H7,I7,r7,q7⟩:=q7;exact ⟨x7,σ7,H7,I7.unpinned,r7,q7⟩
end
theorem J23{K:PySem.W.Frag}{a:Addr}{xs:List V}{g:TG}{tb:TS}{D:Ib}{σ:St}{H:Hp}(Pv:Nat→St→Hp→Prop)(h0:Pv 0 σ H)(hl:∀i σ H,i≤xs.length→Pv i σ H→SqL K H a xs)
 (hs:∀i x σ H,xs[i]?=some x→Pv i σ H→g x σ H fun σ2 H2=>tb {D with nx:=Pv (i+1),ct:=Pv (i+1),bk:=D.nx} σ2 H2) (hd:∀σ H,Pv xs.length σ H→D.nx σ H):
 ∃W:Nat→Nat→St→Hp→Prop,(∃m,W 0 m σ H)∧∀i m σ H,W i m σ H→
  ((Itl K a).stop i H∧D.nx σ H)∨((Itl K a).go i H∧∃N:St→Hp→Prop,(∀σ' H',N σ' H'→∃m',m' < m∧W (i+1) m' σ' H')∧∀x H',(Itl K a).yld i H x H'→g x σ H' fun σ2 H2=>tb {D with nx:=N,ct:=N,bk:=D.nx} σ2 H2):=by
 refine ⟨fun i m σ H=>m=xs.length - i∧i≤xs.length∧Pv i σ H,⟨xs.length,by simp,FB _,h0⟩,?_⟩;rintro i m σ H ⟨rfl,hi,p⟩;have q:=hl i σ H hi p
 by_cases hlt:i < xs.length
 · refine .inr ⟨⟨xs,xs[i],q,by simp [hlt]⟩,Pv (i+1),fun σ' H' p'=>⟨xs.length - (i+1),by omega,rfl,hlt,p'⟩,fun x H' y=>?_⟩
   obtain ⟨e,y⟩:=y;subst e;exact hs i x σ _ (y xs q) p
 · have e:i=xs.length:=by omega
   subst e;exact .inl ⟨⟨xs,q,Fh _⟩,hd σ H p⟩
theorem J0f{lo:Int}{n:Nat}{g:TG}{tb:TS}{D:Ib}{σ:St}{H:Hp}(Pv:Nat→St→Hp→Prop)(h0:Pv 0 σ H)
 (hs:∀i σ H,i < n→Pv i σ H→g (.int (lo+i)) σ H fun σ2 H2=>tb {D with nx:=Pv (i+1),ct:=Pv (i+1),bk:=D.nx} σ2 H2) (hd:∀σ H,Pv n σ H→D.nx σ H):
 ∃W:Nat→Nat→St→Hp→Prop,(∃m,W 0 m σ H)∧∀i m σ H,W i m σ H→
  ((Itr lo n).stop i H∧D.nx σ H)∨((Itr lo n).go i H∧∃N:St→Hp→Prop,(∀σ' H',N σ' H'→∃m',m' < m∧W (i+1) m' σ' H')∧∀x H',(Itr lo n).yld i H x H'→g x σ H' fun σ2 H2=>tb {D with nx:=N,ct:=N,bk:=D.nx} σ2 H2):=by
 refine ⟨fun i m σ H=>m=n - i∧i≤n∧Pv i σ H,⟨n,by simp,FB _,h0⟩,?_⟩;rintro i m σ H ⟨rfl,hi,p⟩
 by_cases hlt:i < n
 · refine .inr ⟨hlt,Pv (i+1),fun σ' H' p'=>⟨n - (i+1),by omega,rfl,hlt,p'⟩,fun x H' y=>?_⟩
   obtain ⟨e,y⟩:=y;subst e y;exact hs i σ _ hlt p
 · have e:i=n:=by omega
   subst e;exact .inl ⟨Fh _,hd σ H p⟩
end L2
namespace L2
abbrev R2:=V→V→Hp→VK→Prop
def OpR(X:Cx)(f:Value→Value→Sem Value)(r:R2):Prop:=
 ∀(pins:List (Addr×Obj)) (s:Shared) (σ:St) (H:Hp) (x y:V) (v u:Value) (Q:VK),Inv X pins σ H s→Ax x v→Ax y u→r x y H Q→
   wpAny (model X.prog X.w) X.A (f v u) (EP X pins σ Q) X.xe s
def UnR(X:Cx)(f:Value→Sem Value)(r:V→Hp→VK→Prop):Prop:=
 ∀(pins:List (Addr×Obj)) (s:Shared) (σ:St) (H:Hp) (x:V) (v:Value) (Q:VK),Inv X pins σ H s→Ax x v→r x H Q→
   wpAny (model X.prog X.w) X.A (f v) (EP X pins σ Q) X.xe s
def E4(X:Cx)(f:Value)(r:List V→Hp→VK→Prop):Prop:=
 ∀(pins:List (Addr×Obj)) (s:Shared) (σ:St) (H:Hp) (xs:List V) (us:List Value) (Q:VK),Inv X pins σ H s→Au xs us→r xs H Q→
   wpAny (model X.prog X.w) X.A (call f us) (EP X pins σ Q) X.xe s
def tOp(r:R2)(ta tb:TE):TE:=fun σ H Q=>ta σ H fun x H1=>tb σ H1 fun y H2=>r x y H2 Q
def tUn(r:V→Hp→VK→Prop)(ta:TE):TE:=fun σ H Q=>ta σ H fun x H1=>r x H1 Q
def rI(C:Int→Int→Prop)(g:Int→Int→V):R2:=fun x y H Q=>∃i j,x= .int i∧y= .int j∧C i j∧Q (g i j) H
def rI0(g:Int→Int→V):R2:=fun x y H Q=>∃i j,x= .int i∧y= .int j∧Q (g i j) H
def rU(g:Int→V):V→Hp→VK→Prop:=fun x H Q=>∃i,x= .int i∧Q (g i) H
section
variable {X:Cx} {a b c:Expr} {ta tb tc:TE} {pos:Pos}
theorem Ja3(ha:PE X a ta)(hb:PE X b tb){pins:List (Addr×Obj)}{s:Shared}{σ:St}{H:Hp}{R:V→V→Hp→Prop}(I:Inv X pins σ H s)
 (h:ta σ H fun x H1=>tb σ H1 fun y H2=>R x y H2) {Q:Value→Shared→Prop} {f:Value→Value→Sem Value}
 (hf:∀v u s2 x y H2,Inv X pins σ H2 s2→Ax x v→Ax y u→R x y H2→wpAny (model X.prog X.w) X.A (f v u) Q X.xe s2):
 wpAny (model X.prog X.w) X.A (eval a X.env) (fun v s₁=>wpAny (model X.prog X.w) X.A (eval b X.env) (fun u s₂=>wpAny (model X.prog X.w) X.A (f v u) Q X.xe s₂) X.xe s₁) X.xe s:=by
 refine thn (ha pins s σ H _ I h) fun v s1 hq_=>?_;obtain ⟨x,H1,I1,r1,q1⟩:=hq_;refine thn (hb pins s1 σ H1 _ I1 q1) fun u s2 hq_=>?_;obtain ⟨y,H2,I2,r2,q2⟩:=hq_;exact hf v u s2 x y H2 I2 r1 r2 q2
theorem Aq{op:Operator}{r:R2}(ho:OpR X (binaryOp op) r)(ha:PE X a ta)(hb:PE X b tb):PE X (.BinOp a op b pos) (tOp r ta tb):=by
 intro pins s σ H Q I h;exact wpAny_BinOp (Ja3 ha hb I h fun v u s2 x y H2 I2 rx ry q=>ho pins s2 σ H2 x y v u Q I2 rx ry q)
theorem J8r{op:UnaryOp}{r:V→Hp→VK→Prop}(ho:UnR X (unaryOp op) r)(ha:PE X a ta):PE X (.UnaryOp op a pos) (tUn r ta):=by
 intro pins s σ H Q I h;exact UnaryOp_ (thn (ha pins s σ H _ I h) fun v s1 ⟨x,H1,I1,r1,q1⟩=>ho pins s1 σ H1 x v Q I1 r1 q1)
theorem opI{f:Value→Value→Sem Value}{C:Int→Int→Prop}{g:Int→Int→Int}
 (rule:∀(i j:Int) (t u:Tok) (s:Shared) (Q:Value→Shared→Prop) (E:Value→Shared→Prop),C i j→Q (.int (g i j) s.toks) {s with toks:=s.toks+1}→wpAny (model X.prog X.w) X.A (f (.int i t) (.int j u)) Q E s):
 OpR X f (rI C fun i j=> .int (g i j)):=by
 intro pins s σ H x y v u Q I rx ry h;obtain ⟨i,j,rfl,rfl,hc,q⟩:=h;obtain ⟨t,rfl⟩:=rx;obtain ⟨t',rfl⟩:=ry;exact rule i j t t' s _ _ hc ⟨.int (g i j),H,I.tok _,⟨_,rfl⟩,q⟩
theorem Jbr{f:Value→Value→Sem Value}{g:Int→Int→Int}
 (rule:∀(i j:Int) (t u:Tok) (s:Shared) (Q:Value→Shared→Prop) (E:Value→Shared→Prop),Q (.int (g i j) s.toks) {s with toks:=s.toks+1}→wpAny (model X.prog X.w) X.A (f (.int i t) (.int j u)) Q E s):
 OpR X f (rI0 fun i j=> .int (g i j)):=by
 intro pins s σ H x y v u Q I rx ry h;obtain ⟨i,j,rfl,rfl,q⟩:=h;obtain ⟨t,rfl⟩:=rx;obtain ⟨t',rfl⟩:=ry;exact rule i j t t' s _ _ ⟨.int (g i j),H,I.tok _,⟨_,rfl⟩,q⟩
theorem J6c{f:Value→Value→Sem Value}{g:Int→Int→Bool}
 (rule:∀(i j:Int) (t u:Tok) (s:Shared) (Q:Value→Shared→Prop) (E:Value→Shared→Prop),Q (.bool (g i j)) s→wpAny (model X.prog X.w) X.A (f (.int i t) (.int j u)) Q E s):
 OpR X f (rI0 fun i j=> .bl (g i j)):=by
 intro pins s σ H x y v u Q I rx ry h;obtain ⟨i,j,rfl,rfl,q⟩:=h;obtain ⟨t,rfl⟩:=rx;obtain ⟨t',rfl⟩:=ry;exact rule i j t t' s _ _ ⟨.bl (g i j),H,I,rfl,q⟩
def Jbs(i j:Int):Prop:=0 < j∧j < 1073741824
def Jbt(i j:Int):Prop:=0≤j∧j≤1000000∧i.natAbs < 2 ^ 64
def J24(i j:Int):Prop:=(-(2 ^ 64) < i∧i < 2 ^ 64)∨(-(2 ^ 64) < j∧j < 2 ^ 64)
theorem J24.ok{i j:Int}(h:J24 i j):IntMulOk i j:=by
 rcases h with ⟨h1,h2⟩ | ⟨h1,h2⟩
 · exact .of_left (intBits_le_64 h1 h2)
 · exact .of_right (intBits_le_64 h1 h2)
theorem Bx:OpR X (binaryOp .Add) (rI0 fun i j=> .int (i+j)):=Jbr fun _ _ _ _ _ _ _ q=>add_int q
theorem L1:OpR X (binaryOp .Sub) (rI0 fun i j=> .int (i - j)):=Jbr fun _ _ _ _ _ _ _ q=>sub_int q
theorem Qn:OpR X (binaryOp .Mult) (rI J24 fun i j=> .int (i * j)):=opI fun _ _ _ _ _ _ _ hc q=>mul_int q hc.ok
theorem K4:OpR X (binaryOp .FloorDiv) (rI Jbs fun i j=> .int (i / j)):=opI fun i j _ _ _ _ _ hc q=>by
 have h1:(0:Int) < j:=hc.1;have h2:j < 1073741824:=hc.2;exact floordiv_int (by omega) (by rw [Int.fdiv_eq_ediv_of_nonneg i (by omega)];exact q) (.inl (PyProof.noPylong_small (by omega)))
theorem D1:OpR X (binaryOp .Mod) (rI (fun _ j=>0 < j) fun i j=> .int (i % j)):=opI fun i j _ _ _ _ _ hc q=>by
 have h1:(0:Int) < j:=hc;exact mod_int' (by omega) (by rw [Int.fmod_eq_emod_of_nonneg i (by omega)];exact q)
theorem J25:OpR X (binaryOp .Pow) (rI Jbt fun i j=> .int (i ^ j.toNat)):=opI fun _ _ _ _ _ _ _ hc q=>pow_int_small hc.1 hc.2.1 hc.2.2 q
theorem unI{f:Value→Sem Value}{g:Int→Int}
 (rule:∀(i:Int) (t:Tok) (s:Shared) (Q:Value→Shared→Prop) (E:Value→Shared→Prop),Q (.int (g i) s.toks) {s with toks:=s.toks+1}→wpAny (model X.prog X.w) X.A (f (.int i t)) Q E s):
 UnR X f (rU fun i=> .int (g i)):=by
 intro pins s σ H x v Q I rx h;obtain ⟨i,rfl,q⟩:=h;obtain ⟨t,rfl⟩:=rx;exact rule i t s _ _ ⟨.int (g i),H,I.tok _,⟨_,rfl⟩,q⟩
theorem J26:UnR X (unaryOp .USub) (rU fun i=> .int (-i)):=unI fun _ _ _ _ _ q=>neg_int q
end
def scal:V→V→Bool
 | .non,.non=>true | .non,.int _=>true | .int _,.non=>true | .non,.bl _=>true | .bl _,.non=>true | .non,.str _=>true | .str _,.non=>true
 | .int _,.int _=>true | .bl _,.bl _=>true | .str _,.str _=>true | .byt _,.byt _=>true
 | .int _,.str _=>true | .str _,.int _=>true | .bl _,.str _=>true | .str _,.bl _=>true
 | _,_=>false
def rEq:R2:=fun x y H Q=>scal x y=true∧Q (.bl (decide (x=y))) H
def rNe:R2:=fun x y H Q=>scal x y=true∧Q (.bl (!decide (x=y))) H
theorem X1{i j:Int}:decide (V.int i=V.int j)=(i==j):=by
 rw [RK];simp
theorem J27{i j:Bool}:decide (V.bl i=V.bl j)=(i==j):=by
 rw [RK];simp
theorem X2{i j:Str}:decide (V.str i=V.str j)=(i==j):=by
 rw [RK];simp
theorem X3{i j:Array UInt8}:decide (V.byt i=V.byt j)=(i.toList==j.toList):=by
 rw [RK];cases i;cases j;simp
section
variable {X:Cx} {a b c:Expr} {ta tb tc:TE} {pos:Pos}
theorem B6{pins:List (Addr×Obj)}{σ:St}{H:Hp}{s:Shared}{Q:VK}{k k':Bool}(I:Inv X pins σ H s)(q:Q (.bl k) H)(e:k=k'):EP X pins σ Q (.bool k') s:=by
 subst e;exact ⟨.bl k,H,I,rfl,q⟩
theorem La:OpR X (compareOp .Eq) rEq:=by
 intro pins s σ H x y v u Q I rx ry h;obtain ⟨hs,q⟩:=h
 cases x with
 | non=>
  cases rx
  cases y with
  | non=>cases ry;exact PySem.EqNone.eq_none_none (B6 I q (by simp))
  | bl j=>cases ry;exact PySem.EqNone.eq_none_bool (B6 I q (by simp))
  | int j=>obtain ⟨t',rfl⟩:=ry;exact PySem.EqNone.eq_none_int (B6 I q (by simp))
  | str j=>obtain ⟨t',rfl⟩:=ry;exact PySem.EqNone.eq_none_str (B6 I q (by simp))
  | _=>exact absurd (show false=true from hs) FD
 | bl i=>
  cases rx
  cases y with
  | non=>cases ry;exact PySem.EqNone.eq_bool_none (B6 I q (by simp))
  | bl j=>cases ry;exact eq_bool (B6 I q J27)
  | str j=>obtain ⟨t',rfl⟩:=ry;exact PySem.EqMixed.eq_bool_str (B6 I q (by simp))
  | _=>exact absurd (show false=true from hs) FD
 | int i=>
  obtain ⟨t,rfl⟩:=rx
  cases y with
  | non=>cases ry;exact PySem.EqNone.eq_int_none (B6 I q (by simp))
  | int j=>obtain ⟨t',rfl⟩:=ry;exact eq_int (B6 I q X1)
  | str j=>obtain ⟨t',rfl⟩:=ry;exact PySem.EqMixed.eq_int_str (B6 I q (by simp))
  | _=>exact absurd (show false=true from hs) FD
 | str i=>
  obtain ⟨t,rfl⟩:=rx
  cases y with
  | non=>cases ry;exact PySem.EqNone.eq_str_none (B6 I q (by simp))
  | bl j=>cases ry;exact PySem.EqMixed.eq_str_bool (B6 I q (by simp))
  | int j=>obtain ⟨t',rfl⟩:=ry;exact PySem.EqMixed.eq_str_int (B6 I q (by simp))
  | str j=>obtain ⟨t',rfl⟩:=ry;exact eq_str (B6 I q X2)
  | _=>exact absurd (show false=true from hs) FD
 | byt i=>
  obtain ⟨t,rfl⟩:=rx
  cases y with
  | byt j=>obtain ⟨t',rfl⟩:=ry;exact PySem.W.eq_bytes (B6 I q X3)
  | _=>exact absurd (show false=true from hs) FD
 | _=>cases y <;> exact absurd (show false=true from hs) FD
theorem N2:OpR X (compareOp .NotEq) rNe:=by
 intro pins s σ H x y v u Q I rx ry h;obtain ⟨hs,q⟩:=h
 cases x with
 | non=>
  cases rx
  cases y with
  | non=>cases ry;exact PySem.EqNone.ne_none_none (B6 I q (by simp))
  | bl j=>cases ry;exact PySem.EqNone.ne_none_bool (B6 I q (by simp))
  | int j=>obtain ⟨t',rfl⟩:=ry;exact PySem.EqNone.ne_none_int (B6 I q (by simp))
  | str j=>obtain ⟨t',rfl⟩:=ry;exact PySem.EqNone.ne_none_str (B6 I q (by simp))
  | _=>exact absurd (show false=true from hs) FD
 | bl i=>
  cases rx
  cases y with
  | non=>cases ry;exact PySem.EqNone.ne_bool_none (B6 I q (by simp))
  | bl j=>cases ry;exact ne_bool (B6 I q (congrArg not J27))
  | str j=>obtain ⟨t',rfl⟩:=ry;exact PySem.EqMixed.ne_bool_str (B6 I q (by simp))
  | _=>exact absurd (show false=true from hs) FD
 | int i=>
  obtain ⟨t,rfl⟩:=rx
  cases y with
  | non=>cases ry;exact PySem.EqNone.ne_int_none (B6 I q (by simp))
  | int j=>obtain ⟨t',rfl⟩:=ry;exact ne_int (B6 I q (congrArg not X1))
  | str j=>obtain ⟨t',rfl⟩:=ry;exact PySem.EqMixed.ne_int_str (B6 I q (by simp))
  | _=>exact absurd (show false=true from hs) FD
 | str i=>
  obtain ⟨t,rfl⟩:=rx
  cases y with
  | non=>cases ry;exact PySem.EqNone.ne_str_none (B6 I q (by simp))
  | bl j=>cases ry;exact PySem.EqMixed.ne_str_bool (B6 I q (by simp))
  | int j=>obtain ⟨t',rfl⟩:=ry;exact PySem.EqMixed.ne_str_int (B6 I q (by simp))
  | str j=>obtain ⟨t',rfl⟩:=ry;exact ne_str (B6 I q (congrArg not X2))
  | _=>exact absurd (show false=true from hs) FD
 | byt i=>
  obtain ⟨t,rfl⟩:=rx
  cases y with
  | byt j=>obtain ⟨t',rfl⟩:=ry;exact PySem.W.ne_bytes (B6 I q (congrArg not X3))
  | _=>exact absurd (show false=true from hs) FD
 | _=>cases y <;> exact absurd (show false=true from hs) FD
theorem Pm:OpR X (compareOp .Lt) (rI0 fun i j=> .bl (decide (i < j))):=J6c fun _ _ _ _ _ _ _ q=>lt_int q
theorem X4:OpR X (compareOp .LtE) (rI0 fun i j=> .bl (decide (i≤j))):=J6c fun _ _ _ _ _ _ _ q=>le_int q
theorem Ig:OpR X (compareOp .Gt) (rI0 fun i j=> .bl (decide (j < i))):=J6c fun _ _ _ _ _ _ _ q=>gt_int q
theorem Jbu:OpR X (compareOp .GtE) (rI0 fun i j=> .bl (decide (j≤i))):=J6c fun _ _ _ _ _ _ _ q=>ge_int q
theorem J0g:OpR X (compareOp .In) (fun x y H Q=>∃i j,x= .str i∧y= .str j∧Q (.bl (!(Builtin.Str.occurrences j i 0 j.length 1).isEmpty)) H):=by
 intro pins s σ H x y v u Q I rx ry h;obtain ⟨i,j,rfl,rfl,q⟩:=h;obtain ⟨t,rfl⟩:=rx;obtain ⟨t',rfl⟩:=ry;exact in_str (B6 I q rfl)
theorem Ja4:OpR X (compareOp .Is) (fun x y H Q=>y= .non∧Q (.bl (decide (x= .non))) H):=by
 intro pins s σ H x y v u Q I rx ry h;obtain ⟨rfl,q⟩:=h;cases ry;refine is_none_gen (B6 I q ?_)
 cases x <;> first
  | (cases rx;rfl)
  | (obtain ⟨t,rfl⟩:=rx;rfl)
theorem X5:OpR X (compareOp .IsNot) (fun x y H Q=>y= .non∧Q (.bl (!decide (x= .non))) H):=by
 intro pins s σ H x y v u Q I rx ry h;obtain ⟨rfl,q⟩:=h;cases ry;refine isnot_none_gen (B6 I q ?_)
 cases x <;> first
  | (cases rx;rfl)
  | (obtain ⟨t,rfl⟩:=rx;rfl)
theorem nomark(b:Expr){op:CmpOp}(h:op≠ .In:=by decide)(h2:op≠ .NotIn:=by decide):behindInMarks op b=false:=by
 have e1:(op==CmpOp.In)=false:=by cases op <;> first | rfl | exact absurd rfl h
 have e2:(op==CmpOp.NotIn)=false:=by cases op <;> first | rfl | exact absurd rfl h2
 cases b <;> simp [behindInMarks,e1,e2]
theorem K5{op:CmpOp}{r:R2}(ho:OpR X (compareOp op) r)(ha:PE X a ta)(hb:PE X b tb)(hm:behindInMarks op b=false):PE X (.Compare a [op] [b] pos) (tOp r ta tb):=by
 intro pins s σ H Q I h;exact wpAny_Compare1 (Ja3 ha hb I h fun v u s2 x y H2 I2 rx ry q=>ho pins s2 σ H2 x y v u Q I2 rx ry q) hm
def J8s(t:TE):TT:=fun σ H Q=>t σ H fun x H'=>∃k,x= .bl k∧Q k H'
theorem Am{op:CmpOp}{r:R2}(ho:OpR X (compareOp op) r)(ha:PE X a ta)(hb:PE X b tb)(hm:behindInMarks op b=false):PT X (.Compare a [op] [b] pos) (J8s (tOp r ta tb)):=by
 intro pins s σ H Q I h
 refine wpAny_isTrue_Compare1 (thn (ha pins s σ H _ I h) fun v s1 ⟨x,H1,I1,r1,q1⟩=>thn (hb pins s1 σ H1 _ I1 q1) fun u s2 ⟨y,H2,I2,r2,q2⟩=>
  thn (ho pins s2 σ H2 x y v u _ I2 r1 r2 q2) fun c s3 ⟨z,H3,I3,r3,k,e,q3⟩=>?_) hm
 subst e;cases r3;exact Ra ⟨H3,I3,q3⟩
def J28(r r':R2)(ta tb tc:TE):TE:=fun σ H Q=>ta σ H fun x H1=>tb σ H1 fun y H2=>r x y H2 fun z H3=>∃k,z= .bl k∧
 (if k=true then tc σ H3 fun w' H4=>r' y w' H4 Q else Q (.bl false) H3)
theorem J29{op op':CmpOp}{r r':R2}(ho:OpR X (compareOp op) r)(ho':OpR X (compareOp op') r')(ha:PE X a ta)(hb:PE X b tb)(hc:PE X c tc)
 (hm:lastMarks [op,op'] [b,c]=false:=by with_unfolding_all rfl):PE X (.Compare a [op,op'] [b,c] pos) (J28 r r' ta tb tc):=by
 intro pins s σ H Q I h
 refine Compare_chain (thn (ha pins s σ H _ I h) fun v s1 ⟨x,H1,I1,r1,q1⟩=>chain_link (thn (hb pins s1 σ H1 _ I1 q1) fun u s2 ⟨y,H2,I2,r2,q2⟩=>
  thn (ho pins s2 σ H2 x y v u _ I2 r1 r2 q2) fun d s3 ⟨z,H3,I3,r3,k,e,q3⟩=>?_)) hm
 subst e;cases r3;refine Ra ?_
 cases k with
 | false=>exact ite_ff ⟨.bl false,H3,I3,rfl,q3⟩
 | true=>exact ite_tt (chain_last (thn (hc pins s3 σ H3 _ I3 q3) fun w' s4 ⟨z',H4,I4,r4,q4⟩=>ho' pins s4 σ H4 y z' u w' Q I4 r2 r4 q4))
theorem L3:(sizeLine:Nat) < 2 ^ 63:=by rw [Jd];decide
theorem Ce:OpR X (binaryOp .Add) (fun x y H Q=>∃i j,x= .str i∧y= .str j∧i.length+j.length≤sizeLine∧Q (.str (i++j)) H):=by
 intro pins s σ H x y v u Q I rx ry h;obtain ⟨i,j,rfl,rfl,hz,q⟩:=h;obtain ⟨t,rfl⟩:=rx;obtain ⟨t',rfl⟩:=ry;exact add_str (fun t' tk=>⟨.str (i++j),H,I.tok _,⟨_,rfl⟩,q⟩) hz
theorem G2{x:V}{us:List Value}(r:Au [x] us):∃u,us=[u]∧Ax x u:=by
 cases r with
 | cons r1 r2=>cases r2;exact ⟨_,rfl,r1⟩
theorem Jbv{x y:V}{us:List Value}(r:Au [x,y] us):∃u w',us=[u,w']∧Ax x u∧Ax y w':=by
 cases r with
 | cons r1 r2=>
  cases r2 with
  | cons r3 r4=>cases r4;exact ⟨_,_,rfl,r1,r3⟩
theorem Qo:E4 X (.type "str") (fun xs H Q=>∃i,xs=[.int i]∧i.natAbs.log2 < 1920∧Q (.str (toString i)) H):=by
 intro pins s σ H xs us Q I r h;obtain ⟨i,rfl,hz,q⟩:=h;obtain ⟨u,rfl,t,rfl⟩:=G2 r;exact PySem.P.str_of_int hz ⟨.str _,H,I.tok _,⟨_,rfl⟩,q⟩
end
end L2
namespace L2
structure Vp(h:Heap)(x dx C:Addr)(mA:Str→Option Value):Prop where
 obj:h.get? x=some (PySem.W.instObj C dx)
 ns:h.Ns1 dx mA
 ne:dx≠x
theorem J0h{h:Heap}{dx:Addr}{mA:Str→Option Value}(n:h.Ns1 dx mA):∃od,h.get? dx=some od∧∀name,PySem.W.lookIn name od=some (mA name):=by
 obtain ⟨o,es,ep,ho,hd,hk,_,hm⟩:=n;refine ⟨o,ho,fun name=>?_⟩;have e:=hm name;unfold nsFind findBy at e;rw [← Array.find?_toList]at e;unfold PySem.W.lookIn;rw [hd];dsimp only;split
 · rename_i y q
   rw [q]at e;exact congrArg some e
 · rename_i q
   rw [q]at e
   have a:es.toList.any (·.refKey)=false:=by
    rw [List.any_eq_false];intro y hy;obtain ⟨z,t,hkey⟩:=hk y (Array.mem_toList_iff.mp hy);simp [DictEntry.refKey,hkey]
   have a':¬es.toList.any (·.refKey)=true:=by rw [a];exact FD
   rw [if_neg a'];exact congrArg some e
theorem Vp.look{h:Heap}{x dx C:Addr}{mA:Str→Option Value}(I:Vp h x dx C mA):∃od,PySem.W.InstAt h x (PySem.W.instObj C dx) C (some od)∧∀name,PySem.W.lookIn name od=some (mA name):=
 let ⟨od,ho,hl⟩:=J0h I.ns
 ⟨od,⟨I.obj,rfl,rfl,ho⟩,hl⟩
section
variable {prog:Program} {w:World} {A:Around} {E:Value→Shared→Prop} {s:Shared} {K:PySem.W.Frag} {x dx C f:Addr} {mA:Str→Option Value} {name:Str} {v:Value}
theorem J6d{expr:Bool}{Q:Value→Shared→Prop}(X:K.In s.heap)(I:Vp s.heap x dx C mA)(hg:PySem.W.plainGet K C name=true)(hh:PySem.W.hasDictIn K C=true)
 (ha:PySem.W.findIn K (.ref C) name=some none) (hv:mA name=some v) (hv':PySem.W.handedIn v=true) (h:Q v {s with toks:=s.toks+1}):
 wpAny (model prog w) A (getAttr (.ref x) name expr) Q E s:=by
 obtain ⟨od,J,hl⟩:=I.look;exact PySem.W.get_value X J (RD hg).1 (PySem.W.findObj_own hh ha rfl (by rw [hl,hv])) hv' h
theorem J2a{pl:Sem Bool}{Q:Value×List Value→Shared→Prop}(X:K.In s.heap)(I:Vp s.heap x dx C mA)(hg:PySem.W.plainGet K C name=true)
 (hf:PySem.W.findIn K (.ref C) name=some (some (.ref f))) (ht:PySem.W.isFn K (.ref f)=true) (hv:mA name=none) (h:Q (.ref f,[.ref x]) s):
 wpAny (model prog w) A (getMethod (.ref x) name pl) Q E s:=by
 obtain ⟨od,J,hl⟩:=I.look;exact PySem.W.method_fn X J (RD hg).1 (RD hg).2 hf (R7.mp ht) (by show (PySem.W.lookIn name od).map (·.isSome)=some false;rw [hl,hv];rfl) h
theorem J6e{ns:List Str}{Q:Unit→Shared→Prop}(X:K.In s.heap)(I:Vp s.heap x dx C mA)
 (hs:PySem.W.findIn K (.ref C) "__setattr__"=some (some (.builtin "object.__setattr__"))) (hp:PySem.W.plainOver K C=true) (ht:PySem.W.takerIn K C name=some none) (hh:PySem.W.hasDictIn K C=true)
 (hw:PySem.Within mA ns) (hsz:ns.length≤sizeLine)
 (h:∀h',Vp h' x dx C (fun y=>if y=name then some v else mA y)→Heap.SameBut dx s.heap h'→Q () {s with heap:=h',toks:=s.toks+2}):
 wpAny (model prog w) A (setAttr (.ref x) name v) Q E s:=by
 obtain ⟨od,J,hl⟩:=I.look;refine PySem.W.set_plain X J hs (PySem.W.osa_open (s:={s with toks:=s.toks+1}) (r:=none) X J hp ht fun b=>?_);obtain ⟨cd,hc,hd'⟩:=PySem.W.any_some hh;have hx:s.heap.get? x=some ⟨.ref C,some dx,.plain,#[]⟩:=I.obj;refine Fd (Fi (Fd (Fd (wpAny_loadPart hx (Fd (PySem.W.Looks.here (s:={s with toks:=s.toks+1}) (PySem.W.looks_clsIn X hc) ?_))))));rw [hd'];refine Fi (a:=some dx) (Fd (Fi (Fd ?_)));refine wpAny_nsSet1 (s:={s with toks:=s.toks+1}) I.ns fun h' hn2 hs2=>?_;obtain ⟨oD,esD,epD,hoD,hdD,hcD⟩:=hn2.count (PySem.Within.cons name v hw);refine Fd (wpAny_lookBehind hoD (by rw [hdD];exact pastItsLine_dict (FC hcD (by rw [List.length_cons];omega))) ?_);exact Fi (h _ ⟨(hs2.2 _ (Ne.symm I.ne)).trans I.obj,hn2,I.ne⟩ hs2)
theorem J2b{R:Result→Shared→Prop}{vs:List Value}{kw:List (Str×Value)}(X:K.In s.heap)(hm:PySem.W.makesIn K C=true)
 (hi:PySem.W.findIn K (.ref C) "__init__"=some (some (.ref f))) (hf:PySem.W.typeIn K (.ref f)=some (.type "function"))
 (h:codeAny (model prog w) (A.under (.builtin "type.__call__" ⟨.ref C::vs,kw⟩)) (.call (.ref f) ⟨.ref (s.heap.objs.size+1)::vs,kw⟩) (PySem.W.InitBack (s.heap.objs.size+1) R)
  {s with heap:=(s.heap.push PySem.W.emptyDict).push (PySem.W.instObj C s.heap.objs.size)}):
 codeAny (model prog w) A (.call (.ref C) ⟨vs,kw⟩) R s:=by
 obtain ⟨hh,g,d,t,os⟩:=s;exact PySem.W.make_core (PySem.W.makes_of X hm) (PySem.W.looks_findIn X hi) (fun self=>PySem.W.bind_fn X self hf) (.inl rfl) h
end
def Av(f:Str)(v:V):List (Str×V)→List (Str×V)
 | []=>[(f,v)]
 | (g,x)::r=>if g=f then (g,v)::r else (g,x)::Av f v r
theorem Ap(f g:Str)(v:V):∀fs:List (Str×V),(Av f v fs).lookup g=if g=f then some v else fs.lookup g
 | []=>by
  show List.lookup g [(f,v)]=_
  by_cases h:g=f
  · have hb:(g==f)=true:=R7.mpr h
    simp only [List.lookup,hb,if_pos h]
  · have hb:(g==f)=false:=HG.mpr h
    simp only [List.lookup,hb,if_neg h]
 | (k,x)::r=>by
  have ih:=Ap f g v r;rw [show Av f v ((k,x)::r)=(if k=f then (k,v)::r else (k,x)::Av f v r) from rfl]
  by_cases hk:k=f
  · rw [if_pos hk]
    by_cases h:g=k
    · have hb:(g==k)=true:=R7.mpr h
      simp only [List.lookup,hb,if_pos (h.trans hk)]
    · have hb:(g==k)=false:=HG.mpr h
      simp only [List.lookup,hb,if_neg (fun e:g=f=>h (e.trans hk.symm))]
  · rw [if_neg hk]
    by_cases h:g=k
    · have hb:(g==k)=true:=R7.mpr h
      simp only [List.lookup,hb,if_neg (fun e:g=f=>hk (h.symm.trans e))]
    · have hb:(g==k)=false:=HG.mpr h
      simp only [List.lookup,hb];exact ih
theorem Mf(f:Str)(v:V):∀fs:List (Str×V),f∈(Av f v fs).map (·.1)∧∀g,g∈fs.map (·.1)→g∈(Av f v fs).map (·.1)
 | []=>⟨by simp [Av],fun g h=>by simp at h⟩
 | (k,x)::r=>by
  obtain ⟨i1,i2⟩:=Mf f v r;rw [show Av f v ((k,x)::r)=(if k=f then (k,v)::r else (k,x)::Av f v r) from rfl]
  by_cases hk:k=f
  · rw [if_pos hk]
    subst hk;exact ⟨by simp,fun g h=>by simpa using h⟩
  · rw [if_neg hk]
    refine ⟨?_,fun g h=>?_⟩
    · rw [List.map_cons]
      exact Fn _ i1
    · rw [List.map_cons]at h ⊢
      rcases Fy.mp h with e | e
      · exact Fy.mpr (.inl e)
      · exact Fn _ (i2 g e)
theorem Dj(f:Str)(v:V):∀fs:List (Str×V),(Av f v fs).length≤fs.length+1
 | []=>by simp [Av]
 | (k,x)::r=>by
  have ih:=Dj f v r;rw [show Av f v ((k,x)::r)=(if k=f then (k,v)::r else (k,x)::Av f v r) from rfl]
  by_cases hk:k=f
  · rw [if_pos hk,List.length_cons,List.length_cons];omega
  · rw [if_neg hk,List.length_cons,List.length_cons];omega
theorem G1.some_of{v:V}{o:Option Value}(r:G1 (some v) o):∃u,o=some u∧Ax v u:=by
 cases o with
 | none=>exact (show False from r).elim
 | some u=>exact ⟨u,rfl,r⟩
theorem G1.none_of{o:Option Value}(r:G1 none o):o=none:=by
 cases o with
 | none=>rfl
 | some u=>exact (show False from r).elim
theorem J0i{v:V}{u:Value}(r:Ax v u):PySem.W.handedIn u=true:=by
 cases v with
 | non=>cases (show u=Value.none from r);rfl
 | bl b=>cases (show u=Value.bool b from r);rfl
 | int i=>obtain ⟨t,e⟩:=(show ∃t,u=Value.int i t from r);cases e;rfl
 | str x=>obtain ⟨t,e⟩:=(show ∃t,u=Value.str x t from r);cases e;rfl
 | byt b=>obtain ⟨t,e⟩:=(show ∃t,u=Value.bytes b t from r);cases e;rfl
 | flt b=>obtain ⟨t,e⟩:=(show ∃t,u=Value.float b t from r);cases e;rfl
 | ref a=>cases (show u=Value.ref a from r);rfl
 | ty n=>cases (show u=Value.type n from r);rfl
section
variable {P:Program} {w:World} {H H':Hp} {h h':Heap} {a C dx:Addr} {fs fs':List (Str×V)}
theorem Lb(hok:HOk P w H h)(e:H a=some (.ins C dx fs)):∃mA,Vp h a dx C mA∧(∀f,G1 (fs.lookup f) (mA f))∧PySem.Within mA (fs.map (·.1))∧fs.length≤1000∧H dx=some (.own a):=by
 obtain ⟨d,z,ne,ob,mA,n,r,q⟩:=(show Bi P w H h a (.ins C dx fs) from hok a _ e)
 exact ⟨mA,⟨ob,n,ne⟩,r,q,z,d⟩
end
structure Cls(K:PySem.W.Frag)(C:Addr):Prop where
 pg:PySem.W.plainGet K C Str.empty=true
 hd:PySem.W.hasDictIn K C=true
 po:PySem.W.plainOver K C=true
 sa:PySem.W.findIn K (.ref C) "__setattr__"=some (some (.builtin "object.__setattr__"))
theorem Cls.get{K:PySem.W.Frag}{C:Addr}(c:Cls K C)(f:Str):PySem.W.plainGet K C f=true:=c.pg
def B5(K:PySem.W.Frag)(C:Addr)(f:Str):Prop:=PySem.W.findIn K (.ref C) f=some none
theorem B5.taker{K:PySem.W.Frag}{C:Addr}{f:Str}(n:B5 K C f):PySem.W.takerIn K C f=some none:=by
 unfold PySem.W.takerIn;rw [show PySem.W.findIn K (.ref C) f=some none from n];rfl
structure Cj(K:PySem.W.Frag)(C:Addr)(m:Str)(f:Addr):Prop where
 at_:PySem.W.findIn K (.ref C) m=some (some (.ref f))
 fn:PySem.W.isFn K (.ref f)=true
 kp:PySem.W.keepIn K (.ref f)=true
section
variable {X:Cx} {pins:List (Addr×Obj)} {σ:St} {H:Hp} {s:Shared} {a C dx:Addr} {fs:List (Str×V)} {f:Str} {v:V} {A:Around} {E:Value→Shared→Prop}
theorem O3{b:Bool}{Q:Value→Shared→Prop}(I:Inv X pins σ H s)(e:H a=some (.ins C dx fs))(c:Cls X.K C)(n:B5 X.K C f)(l:fs.lookup f=some v)
 (h:∀u s',Inv X pins σ H s'→Ax v u→Q u s'):wpAny (model X.prog X.w) A (getAttr (.ref a) f b) Q E s:=by
 obtain ⟨mA,O,r,_,_,_⟩:=Lb I.hok e;obtain ⟨u,hu,ru⟩:=G1.some_of (v:=v) (o:=mA f) (by rw [← l];exact r f);exact J6d I.kIn O (c.get f) c.hd n hu (J0i ru) (h u _ (I.tok _) ru)
theorem O4{m:Str}{g:Addr}{pl:Sem Bool}{Q:Value×List Value→Shared→Prop}(I:Inv X pins σ H s)(e:H a=some (.ins C dx fs))(c:Cls X.K C)(k:Cj X.K C m g)(l:fs.lookup m=none)
 (h:Q (.ref g,[.ref a]) s):wpAny (model X.prog X.w) A (getMethod (.ref a) m pl) Q E s:=by
 obtain ⟨mA,O,r,_,_,_⟩:=Lb I.hok e;have hn:mA m=none:=G1.none_of (by rw [← l];exact r m);exact J2a I.kIn O (c.get m) k.at_ k.fn hn h
theorem O5{y:V}{u:Value}{Q:Unit→Shared→Prop}(I:Inv X pins σ H s)(e:H a=some (.ins C dx fs))(c:Cls X.K C)(n:B5 X.K C f)(hl:fs.length < 1000)(ry:Ax y u)
 (h:∀s',Inv X pins σ (upd H a (.ins C dx (Av f y fs))) s'→Q () s'):wpAny (model X.prog X.w) A (setAttr (.ref a) f u) Q E s:=by
 obtain ⟨mA,O,r,wi,_,ho⟩:=Lb I.hok e
 have hz:(fs.map (·.1)).length≤sizeLine:=by rw [Fa,Jd];omega
 refine J6e I.kIn O c.sa c.po n.taker c.hd wi hz fun h' O' sb=>h _ ?_;have hd:∃o,h'.get? dx=some o:=let ⟨o,_,_,e',_⟩:=O'.ns;⟨o,e'⟩;refine I.write (x:=a) (e:=dx) (by rw [e];exact True.intro) (.inr ho) (fun b q hb z=>(sb.2 b hb).trans z) hd ?_;refine ⟨by rw [A2 O.ne];exact ho,?_,O.ne,O'.obj,_,O'.ns,fun g=>?_,fun g hg=>?_⟩
 · have:=Dj f y fs;omega
 · show G1 ((Av f y fs).lookup g) (if g=f then some u else mA g)
   rw [Ap]
   by_cases q:g=f
   · rw [if_pos q,if_pos q];exact ry
   · rw [if_neg q,if_neg q];exact r g
 · by_cases q:g=f
   · rw [q];exact (Mf f y fs).1
   · refine (Mf f y fs).2 g (wi g fun z=>hg ?_)
     show (if g=f then some u else mA g)=none;rw [if_neg q];exact z
theorem Inv.made(I:Inv X pins σ H s):Inv X pins σ (upd (upd H s.heap.objs.size (.own (s.heap.objs.size+1))) (s.heap.objs.size+1) (.ins C s.heap.objs.size []))
 {s with heap:=(s.heap.push PySem.W.emptyDict).push (PySem.W.instObj C s.heap.objs.size)}:=by
 have e1:(s.heap.push PySem.W.emptyDict).get? s.heap.objs.size=some PySem.W.emptyDict:=Fo s.heap rfl
 have e2:((s.heap.push PySem.W.emptyDict).push (PySem.W.instObj C s.heap.objs.size)).get? (s.heap.objs.size+1)=some (PySem.W.instObj C s.heap.objs.size):=by
  have:=Fo (s.heap.push PySem.W.emptyDict) (o:=PySem.W.instObj C s.heap.objs.size) rfl
  rwa [Rk]at this
 have e3:(s.heap.push PySem.W.emptyDict).Ns s.heap.objs.size (fun _=>none):=⟨PySem.W.emptyDict,#[],_,e1,rfl,(fun e he=>absurd he (by simp)),fun _=>rfl⟩
 have I1:=I.laid (a:=s.heap.objs.size) (o:= .own (s.heap.objs.size+1)) (h':=s.heap.push PySem.W.emptyDict) (t':=s.toks) (fun b u q=>Ff _ q) (Fh _) ⟨_,e1⟩;refine I1.laid (a:=s.heap.objs.size+1) (o:= .ins C s.heap.objs.size []) (t':=s.toks) (fun b u q=>Ff _ q) (Rp (Rk _ _)) ?_;have ne:s.heap.objs.size≠s.heap.objs.size+1:=Fs (Hu _);refine ⟨by rw [A2 ne,A3],FB _,ne,e2,fun _=>none,(Heap.Ns1.of_empty e3).at fun o q=>Ff _ q,fun _=>True.intro,fun y hy=>absurd rfl hy⟩
theorem X6{prog:Program}{w:World}{env:Env}{e:Expr}{f:Str}{pos:Pos}{s:Shared}{Q:Value→Shared→Prop}(hb:attributeBase e f env (eval e env)=eval e env)
 (h:wpAny (model prog w) A (eval e env) (fun o s₁=>wpAny (model prog w) A (getAttr o f true) Q E s₁) E s):wpAny (model prog w) A (eval (.Attribute e f pos) env) Q E s:=
 Attribute_any_ h (by rw [arm_eval_Attribute,hb])
end
def Jbw(K:PySem.W.Frag)(ta:TE)(f:Str):TE:=fun σ H Q=>ta σ H fun x H1=>∃a C dx fs v,x= .ref a∧H1 a=some (.ins C dx fs)∧Cls K C∧B5 K C f∧fs.lookup f=some v∧Q v H1
def Jbx(K:PySem.W.Frag)(ta tv:TE)(f:Str):TS:=fun D σ H=>tv σ H fun y H1=>ta σ H1 fun x H2=>∃a C dx fs,x= .ref a∧H2 a=some (.ins C dx fs)∧Cls K C∧B5 K C f∧fs.length < 1000∧
 D.nx σ (upd H2 a (.ins C dx (Av f y fs)))
def Jby(X:Cx)(op:Operator)(rd:V→V→Hp→VK→Prop):Prop:=
 ∀(pins:List (Addr×Obj)) (s:Shared) (σ:St) (H:Hp) (x y:V) (u v:Value) (Q:VK),Inv X pins σ H s→Ax x u→Ax y v→rd x y H Q→wpAny (model X.prog X.w) X.A (inplaceOp op u v) (EP X pins σ Q) X.xe s
def X7(K:PySem.W.Frag)(ta tv:TE)(rd:V→V→Hp→VK→Prop)(f:Str):TS:=fun D σ H=>ta σ H fun x H1=>∃a C dx fs v,x= .ref a∧H1 a=some (.ins C dx fs)∧Cls K C∧B5 K C f∧fs.lookup f=some v∧
 tv σ H1 fun y H2=>rd v y H2 fun z H3=>∃dx' fs',H3 a=some (.ins C dx' fs')∧fs'.length < 1000∧D.nx σ (upd H3 a (.ins C dx' (Av f z fs')))
section
variable {X:Cx} {o e value:Expr} {f:Str} {pos pos' tpos:Pos} {ta tv:TE}
theorem Ao(he:PE X e ta)(hb:attributeBase e f X.env (eval e X.env)=eval e X.env):PE X (.Attribute e f pos) (Jbw X.K ta f):=by
 intro pins s σ H Q I h;refine X6 hb (thn (he pins s σ H _ I h) fun u s1 hq_=>?_);obtain ⟨x,H1,I1,rx,a,C,dx,fs,v,ex,ea,c,n,l,q⟩:=hq_;subst ex;obtain rfl:u=Value.ref a:=rx
 exact O3 I1 ea c n l fun u' s2 I2 ru=>⟨v,H1,I2,ru,q⟩
theorem C8(ha:PE X o ta)(hv:PE X value tv)(hs:swapsWith value (some (.Attribute o f pos')) pos.line X.env=pure false):PS X (.Assign [.Attribute o f pos'] value pos) (Jbx X.K ta tv f):=by
 intro pins s σ H D I h;refine plainObj_wpAny_Assign_Attribute (thn (hv pins s σ H _ I h) fun u s1 ⟨y,H1,I1,ry,q⟩=>thn (ha pins s1 σ H1 _ I1 q) fun ov s2 hq_=>?_) hs;obtain ⟨x,H2,I2,rx,a,C,dx,fs,ex,ea,c,n,l,q2⟩:=hq_;subst ex;obtain rfl:ov=Value.ref a:=rx
 exact O5 I2 ea c n l ry fun s3 I3=>⟨σ,_,I3,q2⟩
theorem Pn{op:Operator}{rd:V→V→Hp→VK→Prop}(ha:PE X o ta)(hv:PE X value tv)(hop:Jby X op rd):PS X (.AugAssign (.Attribute o f tpos) op value pos) (X7 X.K ta tv rd f):=by
 intro pins s σ H D I h;refine wpAny_AugAssign_AttributeAny (thn (ha pins s σ H _ I h) fun ov s1 hq_=>?_);obtain ⟨x,H1,I1,rx,a,C,dx,fs,v,ex,ea,c,n,l,q⟩:=hq_;subst ex;obtain rfl:ov=Value.ref a:=rx;refine O3 I1 ea c n l fun u s2 I2 ru=>thn (hv pins s2 σ H1 _ I2 q) fun w3 s3 ⟨y,H2,I3,ry,q3⟩=>thn (hop pins s3 σ H2 v y u w3 _ I3 ru ry q3) fun w4 s4 hq_=>?_;obtain ⟨z,H3,I4,rz,dx',fs',ea',l',q4⟩:=hq_
 exact O5 I4 ea' c n l' rz fun s5 I5=>⟨σ,_,I5,q4⟩
def Ja5:V→V→Hp→VK→Prop:=fun x y H Q=>∃i j,x= .int i∧y= .int j∧Q (.int (i+j)) H
theorem J2c:Jby X .Add Ja5:=by
 rintro pins s σ H x y u v Q I rx ry ⟨i,j,rfl,rfl,q⟩
 obtain ⟨t,rfl⟩:=(show ∃t,u=Value.int i t from rx)
 obtain ⟨t',rfl⟩:=(show ∃t',v=Value.int j t' from ry)
 exact PyProof.Rows.iadd_int ⟨.int (i+j),H,I.tok _,⟨_,rfl⟩,q⟩
end
section
variable {X:Cx} {pins:List (Addr×Obj)} {σ:St} {H:Hp} {s:Shared} {A:Around} {E:Value→Shared→Prop} {Q:Value→Shared→Prop} {c:Value} {b:Bool}
inductive Mg(K:PySem.W.Frag)(H:Hp):V→Value→Prop where
 | non:Mg K H .non (.type "NoneType")
 | bl (x:Bool):Mg K H (.bl x) (.type "bool")
 | int (i:Int):Mg K H (.int i) (.type "int")
 | str (x:Str):Mg K H (.str x) (.type "str")
 | flt (x:UInt64):Mg K H (.flt x) (.type "float")
 | lst {a:Addr} {xs:List V} (e:H a=some (.lst xs)):Mg K H (.ref a) (.type "list")
 | frz {a:Addr} {o:Obj} {xs:List V} (e:H a=some (.frz o (.lst xs))):Mg K H (.ref a) (.type "list")
 | tup {a:Addr} {xs:List V} (e:H a=some (.tup xs)):Mg K H (.ref a) (.type "tuple")
 | dK {a:Addr} {kvs:List (Key×V)} (e:H a=some (.dK kvs)):Mg K H (.ref a) (.type "dict")
 | dT {a:Addr} {kvs:List (List Key×V)} (e:H a=some (.dT kvs)):Mg K H (.ref a) (.type "dict")
 | ins {a C dx:Addr} {fs:List (Str×V)} (e:H a=some (.ins C dx fs)) (cl:Cls K C) (ha:PySem.W.findIn K (.ref C) "__class__"=some (some (.builtin "object.__class__")))
  (hn:PySem.W.specialIn K (.builtin "object.__class__") "__get__"=some (some (.builtin "getset_descriptor.__get__"))) (htk:PySem.W.takesIn K (.builtin "object.__class__")=some true)
  (hm:PySem.W.mroIn K C (.type "object")=some true):Mg K H (.ref a) (.ref C)
theorem J0j{x:V}{u t:Value}(I:Inv X pins σ H s)(rx:Ax x u)(ty:Mg X.K H x t)(e:PySem.W.kitOne X.K t c=some b)(h:∀tk,Q (.bool b) {s with toks:=tk}):
 wpAny (model X.prog X.w) A (call (.builtin "isinstance") [u,c]) Q E s:=by
 cases ty with
 | non=>cases (show u=Value.none from rx);exact Hy PySem.W.kitx_none I.kIn True.intro e (fun z=>nomatch z) h
 | bl y=>cases (show u=Value.bool y from rx);exact Hy PySem.W.kitx_bool I.kIn True.intro e (fun z=>nomatch z) h
 | int i=>obtain ⟨t,q⟩:=(show ∃t,u=Value.int i t from rx);cases q;exact Hy PySem.W.kitx_int I.kIn True.intro e (fun z=>nomatch z) h
 | str y=>obtain ⟨t,q⟩:=(show ∃t,u=Value.str y t from rx);cases q;exact Hy PySem.W.kitx_str I.kIn True.intro e (fun z=>nomatch z) h
 | flt y=>obtain ⟨t,q⟩:=(show ∃t,u=Value.float y t from rx);cases q;exact Hy PySem.W.kitx_float I.kIn True.intro e (fun z=>nomatch z) h
 | @lst a xs ea=>
  cases (show u=Value.ref a from rx)
  obtain ⟨_,_,n,_,h1⟩:=(show Bi X.prog X.w H s.heap a (.lst xs) from I.hok a _ ea)
  exact Hy PySem.W.kitx_list I.kIn ⟨_,h1,rfl⟩ e (fun z=>nomatch z) h
 | @frz a ob xs ea=>
  cases (show u=Value.ref a from rx)
  obtain ⟨_,_,_,n,_,h1⟩:=(show Bi X.prog X.w H s.heap a (.frz ob (.lst xs)) from I.hok a _ ea)
  exact Hy PySem.W.kitx_list I.kIn ⟨_,h1,rfl⟩ e (fun z=>nomatch z) h
 | @tup a xs ea=>
  cases (show u=Value.ref a from rx)
  obtain ⟨_,_,_,p⟩:=(show Bi X.prog X.w H s.heap a (.tup xs) from I.hok a _ ea)
  obtain ⟨o,h1,h2,_⟩:=p;exact Hy PySem.W.kitx_tuple I.kIn ⟨o,h1,h2⟩ e (fun z=>nomatch z) h
 | @dK a kvs ea=>
  cases (show u=Value.ref a from rx)
  obtain ⟨_,_,vs,_,p⟩:=(show Bi X.prog X.w H s.heap a (.dK kvs) from I.hok a _ ea)
  obtain ⟨o,es,ep,h1,h2,_⟩:=p;exact Hy PySem.W.kitx_dict I.kIn ⟨o,h1,h2.1⟩ e (fun z=>nomatch z) h
 | @dT a kvs ea=>
  cases (show u=Value.ref a from rx)
  obtain ⟨_,_,xs,_,o,es,ep,h1,h2,_⟩:=(show Bi X.prog X.w H s.heap a (.dT kvs) from I.hok a _ ea)
  exact Hy PySem.W.kitx_dict I.kIn ⟨o,h1,h2.1⟩ e (fun z=>nomatch z) h
 | @ins a C dx fs ea cl ha hn htk hm=>
  cases (show u=Value.ref a from rx);obtain ⟨mA,O,_⟩:=Lb I.hok ea;obtain ⟨od,J,_⟩:=O.look;exact Hy (PySem.W.kitx_own (cl.get _) cl.hd ha hn htk hm) I.kIn J e (fun z=>nomatch z) h
end
end L2
namespace L2
structure Bt(k:Nat)(A:Around):Prop where
 hd:A.handled=none
 dp:A.depth+3 * k+5 < recursionLimit
 un:A.units+16 * k+200 < cLine
theorem Bt.mono{j k:Nat}{A:Around}(r:Bt k A)(h:j≤k):Bt j A:=⟨r.hd,by have:=r.dp;omega,by have:=r.un;omega⟩
theorem Bt.deeper{k:Nat}{A:Around}(r:Bt (k+1) A)(env:Env):Bt k (A.deeper env):=
 ⟨r.hd,by have:=r.dp;show A.depth+1+3 * k+5 < _;omega,by have:=r.un;show A.units+3+16 * k+200 < _;omega⟩
theorem Bt.in1{k:Nat}{A:Around}(r:Bt (k+1) A):Bt k A.in1:=
 ⟨r.hd,by have:=r.dp;show A.depth+3 * k+5 < _;omega,by have:=r.un;show A.units+1+16 * k+200 < _;omega⟩
theorem Vq{A:Around}{C:Addr}{us:List Value}{kw:List (Str×Value)}:(A.under (.builtin "type.__call__" ⟨.ref C::us,kw⟩)).depth=A.depth+1:=by
 first | rfl | simp [Around.under,Code.weight,Code.isCreation,Code.isGuard,Code.isCaller,Code.frames,Code.isFrame,guardIds]
theorem Vr{A:Around}{C:Addr}{us:List Value}{kw:List (Str×Value)}:(A.under (.builtin "type.__call__" ⟨.ref C::us,kw⟩)).units=A.units+1:=by
 first | rfl | simp [Around.under,Code.cUnits,Code.frames,Code.isFrame]
theorem Bt.make{k:Nat}{A:Around}(r:Bt (k+1) A)(C:Addr)(us:List Value)(kw:List (Str×Value)):Bt k (A.under (.builtin "type.__call__" ⟨.ref C::us,kw⟩)):=
 ⟨r.hd,by have:=r.dp;rw [Vq];omega,by have:=r.un;rw [Vr];omega⟩
theorem Bt.depth{k:Nat}{A:Around}(r:Bt k A):A.depth < recursionLimit:=by have:=r.dp;omega
theorem Bt.units{k:Nat}{A:Around}(r:Bt k A):A.units+64 < cLine:=by have:=r.un;omega
def Ja6:TA:=fun _ H Q=>Q [] H
def J8t(ta:TE)(tr:TA):TA:=fun σ H Q=>ta σ H fun x H1=>tr σ H1 fun xs H2=>Q (x::xs) H2
section
variable {X:Cx} {e:Expr} {es:List Expr} {te:TE} {t:TA} {pos:Pos}
theorem A4:PA X [] Ja6:=fun _ _ _ _ H Q I h=>Calls.spliced_nil ⟨[],H,I,.nil,h⟩
theorem A0(ha:PE X e te)(hr:PA X es t)(hs:starEach (e::es) X.env=(false,eval e X.env)::starEach es X.env:=by rfl):PA X (e::es) (J8t te t):=by
 intro pos pins s σ H Q I h;rw [hs];show wpAny _ _ (spliced ((false,eval e X.env)::backTo pos (starEach es X.env))) _ _ s;refine Calls.spliced_cons (thn (ha pins s σ H _ I h) fun u s1 hq_=>?_);obtain ⟨x,H1,I1,r1,q1⟩:=hq_
 exact thn (hr pos pins s1 σ H1 _ I1 q1) fun us s2 ⟨xs,H2,I2,r2,q2⟩=>⟨x::xs,H2,I2,.cons r1 r2,q2⟩
def Jbz(t:TA):TE:=fun σ H Q=>t σ H fun xs H1=>xs.length≤sizeLine∧∀p,H1 p=none→Q (.ref p) (upd H1 p (.tup xs))
def Jc0(t:TA):TE:=fun σ H Q=>t σ H fun xs H1=>xs.length≤sizeLine∧∀p,H1 p=none→Q (.ref p) (upd H1 p (.lst xs))
theorem Ih{x1}(h:PA X es t):PE X (.Tuple es x1 pos) (Jbz t):=by
 intro pins s σ H Q I hq;refine wpAny_Tuple_spliced (thn (h pos pins s σ H _ I hq) fun us s1 ⟨xs,H1,I1,r,z,q⟩=>⟨by rw [← r.length];exact z,?_⟩);have hf:H1 s1.heap.objs.size=none:=I1.hok.fresh (Fh _);refine ⟨.ref s1.heap.objs.size,upd H1 s1.heap.objs.size (.tup xs),I1.laid (t':=s1.toks) (fun b u e=>Ff _ e) (Fh _) ?_,rfl,q _ hf⟩;exact ⟨z,us,r,⟨_,Fo _ rfl,rfl,_,rfl⟩⟩
theorem Bo(h:PA X es t):PE X (.List es pos) (Jc0 t):=by
 intro pins s σ H Q I hq;refine wpAny_List_spliced (thn (h pos pins s σ H _ I hq) fun us s1 ⟨xs,H1,I1,r,z,q⟩=>⟨by rw [← r.length];exact z,?_⟩);have hf:H1 s1.heap.objs.size=none:=I1.hok.fresh (Fh _);refine ⟨.ref s1.heap.objs.size,upd H1 s1.heap.objs.size (.lst xs),I1.laid (t':=s1.toks) (fun b u e=>Ff _ e) (Fh _) ?_,rfl,q _ hf⟩;exact ⟨z,us,0,r,Fo _ rfl⟩
end
abbrev Sp:=List V→Hp→VK→XK→Prop
abbrev CXT:=List Env→Hp→Shared→XK→Value→Shared→Prop
structure Lc(P:Program)(w:World)(K:PySem.W.Frag)(mg:Str→Option Value)(base:Heap)(A:Around)(outer:List Env)(s:Shared)(H:Hp):Prop where
 frames:A.frames=some outer
 mod:Mod K mg base
 bs:∀b o,base.get? b=some o→s.heap.get? b=some o∧H b=none
 bsz:base.objs.size≤s.heap.objs.size
 funs:s.heap.FunFrames base outer
 frf:∀b∈frs outer,H b=none
 hok:HOk P w H s.heap
 bare:AllBare s.gens
def CE(outer:List Env)(P:Program)(w:World)(H:Hp)(s:Shared)(Q:VK)(u:Value)(s':Shared):Prop:=
 ∃v H',s'.os=s.os∧AllBare s'.gens∧Un (frs outer) [] H H' s.heap s'.heap∧HOk P w H' s'.heap∧Ax v u∧Q v H'
def CR(CX:CXT)(outer:List Env)(P:Program)(w:World)(H:Hp)(s:Shared)(Q:VK)(E:XK)(r:Result)(s':Shared):Prop:=
 match r with
 | .ok (.ret u)=>CE outer P w H s Q u s'
 | .ok _=>False
 | .error e=>CX outer H s E e s'
structure Ar(P:Program)(w:World)(K:PySem.W.Frag)(mg:Str→Option Value)(base:Heap)(CX:CXT)(k:Nat)(f:Addr)(fd:FuncData)(ps:List Str)(sp:Sp):Prop where
 len:∀vs H Q E,sp vs H Q E→vs.length=ps.length
 run:∀(A:Around) (outer:List Env) (s:Shared) (H:Hp) (args:Args) (us:List Value) (vs:List V) (Q:VK) (E:XK),Bt k A→Lc P w K mg base A outer s H→BindsTo s fd args (ps.zip us)→Au vs us→sp vs H Q E→
  codeAny (model P w) A (.call (.ref f) args) (CR CX outer P w H s Q E) s
theorem Ar.mono{P:Program}{w:World}{K:PySem.W.Frag}{mg:Str→Option Value}{base:Heap}{CX:CXT}{j k:Nat}{f:Addr}{fd:FuncData}{ps:List Str}{sp:Sp}(F:Ar P w K mg base CX j f fd ps sp)(h:j≤k):
 Ar P w K mg base CX k f fd ps sp:=⟨F.len,fun A outer s H args us vs Q E hr=>F.run A outer s H args us vs Q E (hr.mono h)⟩
theorem Lc.make{P:Program}{w:World}{K:PySem.W.Frag}{mg:Str→Option Value}{base:Heap}{A:Around}{outer:List Env}{s:Shared}{H:Hp}(e:Lc P w K mg base A outer s H)(C:Addr)(us:List Value)(kw:List (Str×Value)):
 Lc P w K mg base (A.under (.builtin "type.__call__" ⟨.ref C::us,kw⟩)) outer s H:=⟨by first | exact e.frames | (simpa [Around.under,Code.envs,Code.isFrame,pushEnvs] using e.frames),e.mod,e.bs,e.bsz,e.funs,e.frf,e.hok,e.bare⟩
theorem Lc.in1{P:Program}{w:World}{K:PySem.W.Frag}{mg:Str→Option Value}{base:Heap}{A:Around}{outer:List Env}{s:Shared}{H:Hp}(e:Lc P w K mg base A outer s H):
 Lc P w K mg base A.in1 outer s H:=⟨e.frames,e.mod,e.bs,e.bsz,e.funs,e.frf,e.hok,e.bare⟩
section
variable {X:Cx} {pins:List (Addr×Obj)} {σ:St} {H:Hp} {s s':Shared}
theorem Inv.env0(I:Inv X pins σ H s):Lc X.prog X.w X.K X.mg X.base X.A X.stack s H:=
 ⟨I.ok.frames,I.ok.mod,I.bs,FC I.ok.bsz I.sz,I.stack,I.stkFree,I.hok,I.bare⟩
theorem Inv.after{Q:VK}{u:Value}(I:Inv X pins σ H s)(h:CE X.stack X.prog X.w H s Q u s'):EP X pins σ Q u s':=by
 obtain ⟨v,H',os,bare,un,hok,r,q⟩:=h;obtain ⟨hh,g,d,t,os'⟩:=s';obtain rfl:os'=s.os:=os;exact ⟨v,H',I.call (h':=hh) (g':=g) (d':=d) (t':=t) (ch:=[]) un hok bare (fun b z=>absurd z (by simp)),r,q⟩
end
def Jc1(sp:Sp)(dvs:List V)(E:XK)(t:TA):TE:=fun σ H Q=>t σ H fun vs H1=>sp (vs++dvs) H1 Q E
def Ca(K:PySem.W.Frag)(fd:FuncData)(ps:List Str)(ds:List Value):Prop:=
 ∀(s:Shared) (us:List Value),K.In s.heap→(us++ds).length=ps.length→BindsTo s fd ⟨us,[]⟩ (ps.zip (us++ds))
theorem Ca.all{K:PySem.W.Frag}{fd:FuncData}{ps:List Str}(h:∀us:List Value,us.length=ps.length→bindArgs fd ⟨us,[]⟩=pure (ps.zip us)):Ca K fd ps []:=fun s us _ hl=>by
 rw [FT]at hl ⊢;exact .of_eq (h us hl)
def Mh(CX:CXT)(X:Cx)(E:XK):Prop:=∀(pins:List (Addr×Obj)) (σ:St) (H:Hp) (s:Shared) (e:Value) (s':Shared),Inv X pins σ H s→CX X.stack H s E e s'→X.xe e s'
section
variable {X:Cx} {CX:CXT} {k:Nat} {f C:Addr} {fd:FuncData} {ps:List Str} {sp:Sp} {dvs:List V} {ds:List Value} {E:XK} {x m:Str} {p pos apos:Pos} {e o:Expr} {es:List Expr} {ta:TE} {t:TA}
theorem Ja7{pins:List (Addr×Obj)}{σ:St}{H:Hp}{s:Shared}{Q:VK}{us:List Value}{vs:List V}(F:Ar X.prog X.w X.K X.mg X.base CX k f fd ps sp)(hr:Bt k X.A)(hb:Ca X.K fd ps ds)(hd:Au dvs ds)(hx:Mh CX X E)
 (I:Inv X pins σ H s) (r:Au vs us) (h:sp (vs++dvs) H Q E):wpAny (model X.prog X.w) X.A (call (.ref f) us) (EP X pins σ Q) X.xe s:=by
 have r2:Au (vs++dvs) (us++ds):=r.append hd
 have hl:(us++ds).length=ps.length:=by rw [← r2.length];exact F.len _ _ _ _ h
 refine RY (HY (F.run X.A X.stack s H ⟨us,[]⟩ (us++ds) (vs++dvs) Q E hr I.env0 (hb s us I.kIn hl) r2 h) fun r s' hq=>?_)
 cases r with
 | error e=>exact hx pins σ H s e s' I hq
 | ok fl=>
  cases fl with
  | ret u=>exact I.after hq
  | next=>exact False.elim hq
  | brk=>exact False.elim hq
  | cont=>exact False.elim hq
theorem J6f(F:Ar X.prog X.w X.K X.mg X.base CX k f fd ps sp)(hr:Bt k X.A)(hg:Gl X x)(hm:X.mg x=some (.ref f))(hk:PySem.W.keepIn X.K (.ref f)=true)(hb:Ca X.K fd ps ds)(hd:Au dvs ds)(hx:Mh CX X E)
 (ha:PA X (e::es) t) (hdb:(x==("__debug__":Str))=false:=by decide) (he:starEach (e::es) X.env=(false,eval e X.env)::starEach es X.env:=by rfl) (hpl:(backTo pos (starEach es X.env)).any (·.1)=false:=by rfl):
 PE X (.Call (.Name x p) (e::es) [] pos) (Jc1 sp dvs E t):=by
 intro pins s σ H Q I h;refine Hz (Nl I hg hm ?_ hdb);refine Rn (h₀:=X.base) I.ok.mod.kin hk (thn (ha pos pins s σ H _ I h) fun us s1 ⟨vs,H1,I1,r,q⟩=>⟨I1.kIn,?_⟩) he hpl;exact Ja7 F hr hb hd hx I1 r q
structure Mk(K:PySem.W.Frag)(C f:Addr):Prop where
 makes:PySem.W.makesIn K C=true
 init:PySem.W.findIn K (.ref C) "__init__"=some (some (.ref f))
 fn:PySem.W.isFn K (.ref f)=true
 kp:PySem.W.keepIn K (.ref C)=true
end
structure Ab(N P:List Str)(sc:Scope):Prop where
 kind:sc.kind= .function
 co:sc.isCoroutine=false
 gen:sc.isGenerator=false
 nd:N.Nodup
 pre:N.take P.length=P
 par:∀x∈P,sc.names.lookup x=some .local∨sc.names.lookup x=some .cell
 nofree:∀y∈sc.names,y.2≠ .free
theorem Po{kindOf:Str→Option NameKind}{x:Str}:∀{binds:List (Str×Value)} {m:Str→Option Value},(∀v,(x,v)∉binds)→bindL kindOf binds m x=m x
 | [],_,_=>rfl
 | (n,v)::r,m,h=>by
  unfold bindL;rw [Po fun w hw=>h w (Fn _ hw)];split
  · have:x≠n:=by rintro rfl;exact h v FA
    simp [this]
  · rfl
theorem Pp{kindOf:Str→Option NameKind}{x:Str}:∀{binds:List (Str×Value)} {m:Str→Option Value},(∀v,(x,v)∉binds)→bindC kindOf binds m x=m x
 | [],_,_=>rfl
 | (n,v)::r,m,h=>by
  unfold bindC;rw [Pp fun w hw=>h w (Fn _ hw)];split
  · rfl
  · have:x≠n:=by rintro rfl;exact h v FA
    simp [this]
theorem Pq{kindOf:Str→Option NameKind}{x:Str}{v:Value}:∀{P:List Str} {vs:List Value} {i:Nat} {m:Str→Option Value},P.Nodup→P[i]?=some x→vs[i]?=some v→kindOf x=some .local→
 bindL kindOf (P.zip vs) m x=some v
 | [],_,_,_,_,h,_,_=>by simp at h
 | _::_,[],_,_,_,_,h,_=>by simp at h
 | p::P,w::vs,0,m,nd,h1,h2,hk=>by
  simp at h1 h2;subst h1;subst h2;show bindL kindOf ((p,w)::P.zip vs) m p=_;unfold bindL;rw [Po fun v hv=>(Hj.mp nd).1 (Jt hv).1,if_pos hk];simp
 | p::P,w::vs,i+1,m,nd,h1,h2,hk=>by
  show bindL kindOf ((p,w)::P.zip vs) m x=_;unfold bindL;exact Pq (i:=i) (Hj.mp nd).2 (by simpa using h1) (by simpa using h2) hk
theorem Pr{kindOf:Str→Option NameKind}{x:Str}{v:Value}:∀{P:List Str} {vs:List Value} {i:Nat} {m:Str→Option Value},P.Nodup→P[i]?=some x→vs[i]?=some v→kindOf x≠some .local→
 bindC kindOf (P.zip vs) m x=some v
 | [],_,_,_,_,h,_,_=>by simp at h
 | _::_,[],_,_,_,_,h,_=>by simp at h
 | p::P,w::vs,0,m,nd,h1,h2,hk=>by
  simp at h1 h2;subst h1;subst h2;show bindC kindOf ((p,w)::P.zip vs) m p=_;unfold bindC;rw [Pp fun v hv=>(Hj.mp nd).1 (Jt hv).1,if_neg hk];simp
 | p::P,w::vs,i+1,m,nd,h1,h2,hk=>by
  show bindC kindOf ((p,w)::P.zip vs) m x=_;unfold bindC;exact Pr (i:=i) (Hj.mp nd).2 (by simpa using h1) (by simpa using h2) hk
def start(N:List Str)(vs:List V):St:=vs.map some++List.replicate (N.length - vs.length) none
def T9(CX:CXT)(P:Program)(w:World)(K:PySem.W.Frag)(mg:Str→Option Value)(base:Heap)(N:List Str)(qual:Str)(scope:Scope)(f:Addr)(cd:Value)(A:Around)(outer:List Env)(s:Shared)(H:Hp)(E:XK):Cx where
 prog:=P
 w:=w
 K:=K
 mg:=mg
 base:=base
 A:=A.deeper (envOfC qual scope s.heap.objs.size f cd)
 N:=N
 s₀:=s
 H₀:=H
 env:=envOfC qual scope s.heap.objs.size f cd
 outer:=outer
 stack:=envOfC qual scope s.heap.objs.size f cd::outer
 ex:=[]
 calm:=true
 fn:=fun _=>true
 pn:=[]
 xe:=fun e s'=>wpAny (model P w) (A.deeper (envOfC qual scope s.heap.objs.size f cd)) (leaving (envOfC qual scope s.heap.objs.size f cd) e) (fun _ s''=>CX outer H s E e s'') (fun e' s''=>CX outer H s E e' s'') s'
theorem Ta{sc:Scope}{n:Nat}{x:Str}(h:sc.names.lookup x=some .cell):∃c,(cellsFrom n sc.names []).lookup x=some c:=by
 have q:=PySem.W.cellsFrom_some sc.names n [] (.inl h);exact RG.mp q
theorem J0k{CX:CXT}{P:Program}{w:World}{K:PySem.W.Frag}{mg:Str→Option Value}{base:Heap}{N ps:List Str}{qual:Str}{scope:Scope}{f:Addr}{cd:Value}{A:Around}{outer:List Env}{s s1:Shared}{H:Hp}{E:XK}{us:List Value}{vs:List V}
 (S:Ab N ps scope) (hd:A.handled=none) (e0:Lc P w K mg base A outer s H) (hl:vs.length=ps.length) (r:Au vs us)
 (x:InCallC s s.heap.objs.size (bindL (envOfC qual scope s.heap.objs.size f cd).kindOf (ps.zip us) fun _=>none) (cellsFrom (s.heap.objs.size+1) scope.names []) (bindC (envOfC qual scope s.heap.objs.size f cd).kindOf (ps.zip us) fun _=>none) s1):
 Inv (T9 CX P w K mg base N qual scope f cd A outer s H E) [] (start N vs) H s1:=by
 have hpl:ps.length≤N.length:=by have:=congrArg List.length S.pre;rw [FX]at this;omega
 obtain ⟨h1,tk,rfl,hk⟩:=x.done;have noA:∀b:Addr,b∉(T9 CX P w K mg base N qual scope f cd A outer s H E).ex:=fun b z=>absurd (show b∈([]:List Addr) from z) (by simp)
 refine ⟨⟨e0.mod,S.kind,rfl,rfl,Fh _,fun y z c h1 h2=>?_,fun y hy=>?_,fun y c _ h=>?_,fun _=>hd,Around.frames_deeper e0.frames,.inr ⟨rfl,rfl⟩,fun b z=>absurd z (noA b),e0.bs,e0.bsz,fun b _ _=>noA b,fun b z=>absurd z (noA b),e0.funs,e0.frf⟩,
  rfl,e0.bare,Un.kept hk,⟨_,x.toInCall.ns,fun i y v h1 h2 h3=>?_⟩,fun y c h=>⟨_,x.cell y c h⟩,e0.hok.fresh (Fh _),fun y c h=>?_,fun p hp=>absurd (show p∈([]:List (Addr×Obj)) from hp) (by simp),e0.hok.kept hk,?_⟩
 · exact name_of_addr x.apart (Hb h1) (Hb h2)
 · have hy:scope.names.lookup y=some .cell∨scope.names.lookup y=some .free:=hy
   rcases hy with hy | hy
   · exact Ta hy
   · exact absurd rfl (S.nofree _ (Hb hy))
 · exact HF (x.above y c (Hb h))
 · have hi:i < vs.length:=by
    unfold start at h2
    by_cases hi:i < vs.length
    · exact hi
    · rw [FL (by simpa using hi)]at h2
      rw [List.getElem?_replicate]at h2
      split at h2 <;> cases h2
   have ha:vs[i]?=some v:=by
    unfold start at h2;rw [FJ (by simpa using hi),Fg]at h2
    cases e:vs[i]? with
    | none=>rw [e]at h2;cases h2
    | some a=>rw [e]at h2;cases h2;rfl
   obtain ⟨u,hu,rv⟩:=r.get ha
   have hp:ps[i]?=some y:=by
    rw [← S.pre,List.getElem?_take_of_lt (by omega)];exact h1
   have ndP:ps.Nodup:=by rw [← S.pre];exact S.nd.sublist (Je _ _)
   refine ⟨u,rv,?_⟩;rcases S.par y (Fk hp) with k | k
   · exact .inl ⟨k,Pq ndP hp hu k⟩
   · obtain ⟨c,e⟩:=Ta (n:=s.heap.objs.size+1) k
     refine .inr ⟨.inl k,c,e,?_⟩;have q:=x.cell y c e;rw [Pr ndP hp hu (by show scope.names.lookup y≠_;rw [k];decide)]at q;exact q
 · exact e0.hok.fresh (HF (x.above y c (Hb h)))
 · unfold start
   show _=N.length;rw [Fu,Fa,Jx];omega
theorem J8u{CX:CXT}{P:Program}{w:World}{K:PySem.W.Frag}{mg:Str→Option Value}{base:Heap}{k:Nat}{f:Addr}{name qual:Str}{params:Arguments}{body:List Stmt}{scope:Scope}{dV kV doc pm cdv ct oc:Value}{an od:Option Addr}
 {osl:Array (Option Value)} {N ps:List Str} {sp:Sp} (lk:K.lookup f=some ⟨oc,od,.func (PySem.W.fnOf name qual params body scope dV kV doc pm an cdv ct),osl⟩) (hcd:PySem.W.codeIn K cdv qual=true) (S:Ab N ps scope)
 (len:∀vs H Q E,sp vs H Q E→vs.length=ps.length)
 (hbody:∀(A:Around) (outer:List Env) (s:Shared) (H:Hp) (vs:List V) (Q:VK) (E:XK),Bt k (A.deeper (envOfC qual scope s.heap.objs.size f cdv))→sp vs H Q E→
  ∃t,PSs (T9 CX P w K mg base N qual scope f cdv A outer s H E) body t∧t {nx:=fun _ H'=>Q .non H',rt:=Q} (start N vs) H):
 Ar P w K mg base CX (k+1) f (PySem.W.fnOf name qual params body scope dV kV doc pm an cdv ct) ps sp:=by
 refine ⟨len,fun A outer s H args us vs Q E hr e0 hb r hsp=>?_⟩;have hl:=len _ _ _ _ hsp;have KX:K.In s.heap:=e0.mod.kin.keeps fun b o e=>(e0.bs b o e).1;have lim:s.heap.NoLimit:=e0.mod.nolimit.keeps fun b o e=>(e0.bs b o e).1
 have hkind:∀y∈ps.zip us,scope.names.lookup y.1=some .local∨(scope.names.lookup y.1=some .cell∧((cellsFrom (s.heap.objs.size+1) scope.names []).lookup y.1).isSome=true):=fun ⟨n,v⟩ hy=>by
  rcases S.par n (Jt hy).1 with q | q
  · exact .inl q
  · exact .inr ⟨q,PySem.W.cellsFrom_some _ _ _ (.inl q)⟩
 refine codeAny_call_function hr.depth (KX _ _ lk) rfl S.co S.gen rfl (PySem.W.codeRec_of KX hcd) (hb _ _ _ _ ?_);refine wpAny_newFunctionEnv_cells S.kind hkind fun env he s1 x=>?_;subst he;refine ⟨lim.keeps x.toInCall.keep,codeAny_func ?_⟩;obtain ⟨t,ht,hq⟩:=hbody A outer s H vs Q E (hr.deeper _) hsp;have I:Inv (T9 CX P w K mg base N qual scope f cdv A outer s H E) [] (start N vs) H s1:=J0k S hr.hd e0 hl r x;refine Hs (ht [] s1 (start N vs) H _ I hq) (fun fl s' hs=>?_) fun e s' hs=>hs
 have fin:∀{σ':St} {H':Hp} {v:V} {u:Value},Inv (T9 CX P w K mg base N qual scope f cdv A outer s H E) [] σ' H' s'→Ax v u→Q v H'→CE outer P w H s Q u s':=
  fun {σ' H' v u} J rv q=>⟨v,H',J.os,J.bare,J.base,J.hok,rv,q⟩
 cases fl with
 | ret u=>
  obtain ⟨v,σ',H',J,rv,q⟩:=hs;exact fin J rv q
 | next=>
  obtain ⟨σ',H',J,q⟩:=hs;exact fin (v:=V.non) (u:=Value.none) J rfl q
 | brk=>
  obtain ⟨_,_,_,q⟩:=hs;exact False.elim q
 | cont=>
  obtain ⟨_,_,_,q⟩:=hs;exact False.elim q
end L2
namespace L2
section
variable {X:Cx} {x:Str} {p pos:Pos} {e:Expr} {es:List Expr} {t:TA} {id T:String} {r:List V→Hp→VK→Prop}
def tCB(r:List V→Hp→VK→Prop)(t:TA):TE:=fun σ H Q=>t σ H fun vs H1=>r vs H1 Q
theorem Ag(hc:E4 X (.builtin id) r)(hg:Gl X x)(hm:X.mg x=none)(hv:bootBuiltins x=some (.builtin id))(ha:PA X (e::es) t)(hn:x≠"__name__":=by decide)(hdb:(x==("__debug__":Str))=false:=by decide)
 (he:starEach (e::es) X.env=(false,eval e X.env)::starEach es X.env:=by rfl) (hpl:(backTo pos (starEach es X.env)).any (·.1)=false:=by rfl):PE X (.Call (.Name x p) (e::es) [] pos) (tCB r t):=by
 intro pins s σ H Q I h;refine Hz (Gb I hg hm hv ?_ hn hdb);exact PyProof.Rows.callWith_builtin1 (thn (ha pos pins s σ H _ I h) fun us s1 ⟨vs,H1,I1,r1,q1⟩=>hc pins s1 σ H1 vs us Q I1 r1 q1) he hpl
theorem Da(hc:E4 X (.type T) r)(hg:Gl X x)(hm:X.mg x=none)(hv:bootBuiltins x=some (.type T))(ha:PA X (e::es) t)(hn:x≠"__name__":=by decide)(hdb:(x==("__debug__":Str))=false:=by decide)
 (he:starEach (e::es) X.env=(false,eval e X.env)::starEach es X.env:=by rfl) (hpl:(backTo pos (starEach es X.env)).any (·.1)=false:=by rfl):PE X (.Call (.Name x p) (e::es) [] pos) (tCB r t):=by
 intro pins s σ H Q I h;refine Hz (Gb I hg hm hv ?_ hn hdb);exact Ru (thn (ha pos pins s σ H _ I h) fun us s1 ⟨vs,H1,I1,r1,q1⟩=>hc pins s1 σ H1 vs us Q I1 r1 q1) he hpl
end
end L2
namespace HT
open PySem PyProof.Rows
def E5:List Int→List Int→Bool
 | [],[]=>false
 | [],_::_=>true
 | _::_,[]=>false
 | x::xs,y::ys=>if x=y then E5 xs ys else decide (x < y)
theorem Vs(x y:Int)(xs ys:List Int):E5 (x::xs) (y::ys)=if x=y then E5 xs ys else decide (x < y):=rfl
theorem Pb:E5 [] []=false:=rfl
theorem O6(y:Int)(ys:List Int):E5 [] (y::ys)=true:=rfl
theorem O7(x:Int)(xs:List Int):E5 (x::xs) []=false:=rfl
theorem J2d(A:Around)(s:Shared)(a:Int)(t:Tok)(c:Int)(u:Tok):∃e,SeqAt.EqAt A s (.int a t) (.int c u) e∧(e=true↔a=c):=
 ⟨(a==c),SeqAt.EqAt.int_int a t c u,by simp⟩
theorem J2e(A:Around)(s:Shared)(a:Int)(t:Tok)(c:Int)(u:Tok)(prog:Program)(w:World)(E:Value→Shared→Prop)(Q:Value→Shared→Prop)(h:Q (.bool (decide (a < c))) s):
 wpAny (model prog w) A (richCompare .Lt (.int a t) (.int c u)) Q E s:=
 (PyProof.Rows.lt_int h:wpAny (model prog w) A (compareOp .Lt (.int a t) (.int c u)) Q E s)
section
open PySem.SeqAt
open PySem.AutoSeq1 (wpAny_loadPart')
open PySem.MeetsSeq PySem.MeetsSeq2 PySem.MeetsSeq3
theorem Pd(l b:Addr)(items items2:Array Value)(n n2:Nat)(dd dd2:Option Addr)(sl sl2:Array (Option Value))(ns ms:List Int)(hi:IntsAre items.toList ns)(hj:IntsAre items2.toList ms):
 Meets (Builtin.«tuple.__lt__» ⟨[.ref l,.ref b],[]⟩)
  (fun _ R s=>s.heap.get? l=some {cls:= .type "tuple",dict:=dd,data:= .seq items n,slots:=sl}∧s.heap.get? b=some {cls:= .type "tuple",dict:=dd2,data:= .seq items2 n2,slots:=sl2}∧
   R (.ok (.ret (.bool (E5 ns ms)))) s):=
 .of_wp fun prog w A R s h=>by
  obtain ⟨hp,g,d,tk,os⟩:=s;obtain ⟨hl,hb,h⟩:=h;have f2:=AutoSeq1.sub_tuple_tuple
  have z1:items.size=ns.length:=by rw [← hi.length];simp
  have z2:items2.size=ms.length:=by rw [← hj.length];simp
  wp_walk using wpAny_loadPart' hl,wpAny_loadPart' hb,wpAny_forIn_list _ (fun rest b s'=>b.1=none∧s'=⟨hp,g,d,tk,os⟩∧∃(vs ws:List Value) (ns' ms':List Int),rest=vs.zip ws∧
   IntsAre vs ns'∧IntsAre ws ms'∧ns'.length+items2.size=ms'.length+items.size∧R (.ok (.ret (.bool (E5 ns' ms')))) ⟨hp,g,d,tk,os⟩) _
  case turn=>
   rintro ⟨y,x⟩ rest b s' ⟨hb',rfl,vs,ws,ns',ms',hz,hvi,hwi,hlen,hR⟩
   cases hvi with
   | nil=>rw [List.zip_nil_left]at hz;cases hz
   | cons a t hvi'=>
    cases hwi with
    | nil=>rw [List.zip_nil_right]at hz;cases hz
    | cons c u hwi'=>
     rw [List.zip_cons_cons]at hz
     injection hz with hyx hrest
     injection hyx with hy hx
     subst hy hx;rw [Vs]at hR;simp only [List.length_cons]at hlen;obtain ⟨e,he,hiff⟩:=J2d A.in1 ⟨hp,g,d,tk,os⟩ a t c u;refine Fd (he prog w _ _ ?_)
     cases e with
     | true=>
      rw [if_pos (hiff.mp rfl)]at hR
      wp_walk
      exact ⟨rfl,rfl,_,_,_,_,hrest,hvi',hwi',by omega,hR⟩
     | false=>
      rw [if_neg (fun q=>absurd (hiff.mpr q) FD)]at hR;have hri:=J2e A.in1 ⟨hp,g,d,tk,os⟩ a t c u prog w
      wp_walk using hri
      exact ⟨_,rfl,by simpa using hR⟩
  case fin=>
   rintro ⟨b1,b2⟩ s' ⟨hb',rfl,vs,ws,ns',ms',hz,hvi,hwi,hlen,hR⟩;simp only at hb';subst hb'
   have hv:E5 ns' ms'=decide (items.size < items2.size):=by
    cases hvi with
    | nil=>
     cases hwi with
     | nil=>
      simp only [List.length_nil]at hlen;rw [Pb];exact (Fz (by omega)).symm
     | cons c u hw=>
      simp only [List.length_nil,List.length_cons]at hlen;rw [O6];exact (Fx (by omega)).symm
    | cons a t hv=>
     cases hwi with
     | nil=>
      simp only [List.length_nil,List.length_cons]at hlen;rw [O7];exact (Fz (by omega)).symm
     | cons c u hw=>
      rw [List.zip_cons_cons]at hz;cases hz
   rw [hv]at hR
   wp_walk
   exact ⟨_,rfl,by simpa [Builtin.Tuple.tupleCompareSizes] using hR⟩
  case h=>
   exact ⟨rfl,rfl,items.toList,items2.toList,ns,ms,rfl,hi,hj,by omega,h⟩
end
section
variable {prog:Program} {w:World} {A:Around} {E:Value→Shared→Prop} {s:Shared}
theorem Vt{l b:Addr}{items items2:Array Value}{ns ms:List Int}{Q:Value→Shared→Prop}(hl:IsTup s.heap l items)(hb:IsTup s.heap b items2)(hi:IntsAre items.toList ns)(hj:IntsAre items2.toList ms)
 (hu:A.units < cLine) (h:Q (.bool (E5 ns ms)) s):wpAny (model prog w) A (compareOp .Lt (.ref l) (.ref b)) Q E s:=by
 obtain ⟨⟨cls,dd,data,sl⟩,ho,hc,n,hd⟩:=id hl;obtain ⟨⟨cls2,dd2,data2,sl2⟩,ho2,hc2,n2,hd2⟩:=id hb;simp only at hc hd hc2 hd2;subst hc hd hc2 hd2
 exact richCompare_meets_room (op:= .Lt) ⟨_,ho,rfl⟩ ⟨_,ho2,rfl⟩ PySem.F.slot_tuple_lt PySem.F.entry_tuple_lt (PySem.F.args_tuple_lt_2 _ _) (Pd l b items items2 n n2 dd dd2 sl sl2 ns ms hi hj)
  ⟨ho,ho2,show Value.bool (E5 ns ms)≠Value.notImplemented∧Q (.bool (E5 ns ms)) s from ⟨(fun x=>nomatch x),h⟩⟩ hu
def sIx(n d:Nat):Option Int→Nat
 | none=>d
 | some v=>if v < 0 then (v+(n:Int)).toNat else min v.toNat n
theorem J2f(n d:Nat):sIx n d none=d:=rfl
theorem K6(n d k:Nat):sIx n d (some (k:Int))=min k n:=by
 show (if (k:Int) < 0 then ((k:Int)+(n:Int)).toNat else min (k:Int).toNat n)=min k n;rw [if_neg (by omega),Int.toNat_natCast]
theorem Ja8(n d:Nat)(hd:d≤n)(o:Option Int):sIx n d o≤n:=by
 cases o with
 | none=>exact hd
 | some v=>
  show (if v < 0 then (v+(n:Int)).toNat else min v.toNat n)≤n
  by_cases hv:v < 0
  · rw [if_pos hv];omega
  · rw [if_neg hv];exact Nat.min_le_right _ _
theorem X8(v:Int)(n d:Nat):(if v < 0 then max (v+(n:Int)) 0 else min v (n:Int))=((sIx n d (some v):Nat):Int):=by
 show (if v < 0 then max (v+(n:Int)) 0 else min v (n:Int))=(((if v < 0 then (v+(n:Int)).toNat else min v.toNat n):Nat):Int)
 by_cases hv:v < 0
 · simp only [if_pos hv];omega
 · simp only [if_neg hv];omega
theorem Vu(lo hi:Option Int)(n:Nat):Builtin.Slice.sliceAdjust lo hi 1 (n:Int)=(((sIx n 0 lo:Nat):Int),((sIx n n hi:Nat):Int)):=by
 have h1:¬((1:Int) < 0):=by omega
 unfold Builtin.Slice.sliceAdjust;simp only [h1,if_false];refine Prod.ext ?_ ?_
 · cases lo with
   | none=>rfl
   | some v=>exact X8 v n 0
 · cases hi with
   | none=>rfl
   | some v=>exact X8 v n n
theorem Vv(i j:Nat):Builtin.Slice.slicePlaces (i:Int) (j:Int) 1=j - i:=by
 unfold Builtin.Slice.slicePlaces
 have h1:(1:Int) > 0:=by omega
 simp only [h1,if_true,Int.ediv_one]
 split <;> omega
theorem O8{v:Value}{o:Option Int}{Q:Option Int→Shared→Prop}(p:IsPart v o)(h:Q o s):wpAny (model prog w) A (Builtin.Slice.slicePartIndex v) Q E s:=by
 cases p with
 | none=>exact slicePart_none h
 | int i t=>exact slicePart_int h
theorem Mi{sl:Addr}{vl vu:Value}{lo hi:Option Int}{n:Nat}{Q:Int×Int×Nat→Shared→Prop}(hs:s.heap.IsSliceOf sl vl vu .none)(pl:IsPart vl lo)(pu:IsPart vu hi)
 (h:Q (((sIx n 0 lo:Nat):Int),1,sIx n n hi - sIx n 0 lo) s):wpAny (model prog w) A (Builtin.Slice.sliceApplied (.ref sl) (pure (n:Int))) Q E s:=by
 obtain ⟨os,hos,hcs,hds⟩:=id hs;unfold Builtin.Slice.sliceApplied Builtin.Slice.sliceFields;refine Fd (Fd (wpAny_field hos hds (x:=vl) rfl (Fd (wpAny_field hos hds (x:=vu) rfl (Fd (wpAny_field hos hds (x:= .none) rfl (Fi ?_)))))));refine Fd (slicePart_none ?_);show wpAny _ _ (if ((1:Int)==0)=true then _ else _) _ _ s;rw [if_neg (by decide)];refine Fd (O8 pl (Fd (O8 pu (Fd (Fi ?_)))));show wpAny _ _ (match Builtin.Slice.sliceAdjust lo hi 1 (n:Int) with | (lo,hi)=>pure (lo,(1:Int),Builtin.Slice.slicePlaces lo hi 1)) _ _ s;rw [Vu lo hi n];show wpAny _ _ (pure (((sIx n 0 lo:Nat):Int),(1:Int),Builtin.Slice.slicePlaces ((sIx n 0 lo:Nat):Int) ((sIx n n hi:Nat):Int) 1)) _ _ s;rw [Vv];exact Fi h
theorem J2g(xs:Array Value)(i k:Nat):((List.range k).filterMap fun (m:Nat)=>xs[((i:Int)+(m:Int) * 1).toNat]?).toArray=((xs.toList.drop i).take k).toArray:=by
 have e:(fun (m:Nat)=>xs[((i:Int)+(m:Int) * 1).toNat]?)=fun m=>xs[i+m]?:=by
  funext m
  have:((i:Int)+(m:Int) * 1).toNat=i+m:=by omega
  rw [this]
 rw [e];have:=pick_run xs i k;rw [List.filterMap_map]at this;have e2:((fun x=>xs[x]?)∘fun x=>i+x)=fun m=>xs[i+m]?:=rfl;rw [e2]at this;rw [this]
theorem Ld{t sl:Addr}{items:Array Value}{vl vu:Value}{lo hi:Option Int}{Q:Value→Shared→Prop}(ht:IsTup s.heap t items)(hs:s.heap.IsSliceOf sl vl vu .none)(pl:IsPart vl lo)(pu:IsPart vu hi)
 (hw:¬(sIx items.size 0 lo=0∧sIx items.size items.size hi=items.size))
 (h:Q (.ref s.heap.objs.size) {s with heap:=s.heap.push {cls:= .type "tuple",data:= .seq ((items.toList.drop (sIx items.size 0 lo)).take (sIx items.size items.size hi - sIx items.size 0 lo)).toArray}})
 (hsz:items.size≤sizeLine):wpAny (model prog w) A (getItem (.ref t) (.ref sl)) Q E s:=by
 have htake:sizeOk (.seq ((items.toList.drop (sIx items.size 0 lo)).take (sIx items.size items.size hi - sIx items.size 0 lo)).toArray):=by
  show ((items.toList.drop (sIx items.size 0 lo)).take (sIx items.size items.size hi - sIx items.size 0 lo)).toArray.size≤sizeLine;rw [Fl,FX,Hw,Ft];omega
 have hj:sIx items.size items.size hi≤items.size:=Ja8 _ _ (Fh _) hi;obtain ⟨os,hos,hcs,hds⟩:=id hs
 have hTs:s.TypeIs (.ref sl) "slice":=⟨os,hos,hcs⟩
 unfold getItem
 try with_reducible refine R3 ?_
 first | refine Fd (Fi ?_) | skip
 refine Fd (wpAny_sequenceKey ht.typeIs (by decide) ?_)
 refine Fd (Ri (name:=Str.ofString "__getitem__") ht.typeIs PyProof.Rows.slot_tuple_getitem
  (R6 PyProof.Rows.slot_tuple_getitem ht.typeIs entry_tuple_getitem ?_ (args_tuple_getitem _ _)))
 show wpAny _ _ (Builtin.Tuple.tupleItemsOf (.ref t) >>=_) _ _ s;refine Fd (tupleItemsOf_ ht ?_);refine Fd (wpAny_typeOf hTs ?_);rw [if_pos (by decide)];refine Fd (Mi hs pl pu ?_)
 have hno:¬((((sIx items.size 0 lo:Nat):Int)==0 && (1:Int)==1 && (sIx items.size items.size hi - sIx items.size 0 lo)==items.size)=true):=by
  intro q;rw [FV,FV]at q;have q1:((sIx items.size 0 lo:Nat):Int)=0:=eq_of_beq q.1.1;have q2:sIx items.size items.size hi - sIx items.size 0 lo=items.size:=eq_of_beq q.2;exact hw ⟨by omega,by omega⟩
 show wpAny _ _ (if (((sIx items.size 0 lo:Nat):Int)==0 && (1:Int)==1 && (sIx items.size items.size hi - sIx items.size 0 lo)==items.size)=true then _ else _) _ _ s;rw [if_neg hno,J2g]
 first
  | exact Fd (m:=Builtin.Tuple.tupleExact _) (Hl (Fi ⟨_,rfl,Fi h⟩) htake)
  | exact Fd (m:=Builtin.Tuple.tupleExact _) (Hl (Fd (Fi (Fi ⟨_,rfl,Fi h⟩))) htake)
  | exact Fd (Fd (m:=Builtin.Tuple.tupleExact _) (Hl (Fi (Fi ⟨_,rfl,Fi h⟩)) htake))
  | exact Fd (Fd (m:=Builtin.Tuple.tupleExact _) (Hl (Fi ⟨_,rfl,Fi h⟩) htake))
end
end HT
namespace L2
abbrev TO:=St→Hp→(Option Int→Hp→Prop)→Prop
def PO(X:Cx)(e:Option Expr)(t:TO):Prop:=
 ∀(pins:List (Addr×Obj)) (s:Shared) (σ:St) (H:Hp) (Q:Option Int→Hp→Prop),Inv X pins σ H s→t σ H Q→
   wpAny (model X.prog X.w) X.A (evalPart e X.env) (fun u s'=>∃o H',Inv X pins σ H' s'∧IsPart u o∧Q o H') X.xe s
def X9:TO:=fun _ H Q=>Q none H
def J8v(t:TE):TO:=fun σ H Q=>t σ H fun x H1=>∃i,x= .int i∧Q (some i) H1
theorem O9{ns:List Int}:∀{us:List Value},Au (ns.map V.int) us→IntsAre us ns:=by
 induction ns with
 | nil=>intro us r;rw [List.map_nil]at r;cases r;exact .nil
 | cons n ns ih=>
  intro us r;rw [List.map_cons]at r
  cases r with
  | cons r1 r2=>
   obtain ⟨t,e⟩:=r1;subst e;exact .cons n t (ih r2)
section
variable {X:Cx} {e:Expr} {te:TE} {lo hi:Option Expr} {tl th:TO} {pos p2:Pos}
theorem Le:PO X none X9:=by
 intro pins s σ H Q I h;rw [evalPart_none];exact Fi ⟨none,H,I,.none,h⟩
theorem Dy(h:PE X e te):PO X (some e) (J8v te):=by
 intro pins s σ H Q I hw;rw [evalPart_some];refine thn (h pins s σ H _ I hw) fun u s1 hq_=>?_;obtain ⟨x,H1,I1,r1,q1⟩:=hq_;obtain ⟨i,rfl,q⟩:=q1;obtain ⟨t,rfl⟩:=r1;exact ⟨some i,H1,I1,.int i t,q⟩
def SlR(X:Cx)(r:V→Option Int→Option Int→Hp→VK→Prop):Prop:=
 ∀(pins:List (Addr×Obj)) (s:Shared) (σ:St) (H:Hp) (x:V) (v vl vu:Value) (lo hi:Option Int) (sl:Addr) (Q:VK),Inv X pins σ H s→Ax x v→s.heap.IsSliceOf sl vl vu .none→IsPart vl lo→IsPart vu hi→r x lo hi H Q→
   ∃T id,typeLookup (.type T) "__getitem__"=pure (some (.builtin id))∧s.TypeIs v T∧wpAny (model X.prog X.w) X.A (getItem v (.ref sl)) (EP X pins σ Q) X.xe s
def tSl(r:V→Option Int→Option Int→Hp→VK→Prop)(te:TE)(tl th:TO):TE:=fun σ H Q=>te σ H fun x H1=>tl σ H1 fun l H2=>th σ H2 fun u H3=>r x l u H3 Q
theorem E6{r:V→Option Int→Option Int→Hp→VK→Prop}(hr:SlR X r)(he:PE X e te)(hl:PO X lo tl)(hu:PO X hi th):PE X (.Subscript e (.Slice lo hi none p2) pos) (tSl r te tl th):=by
 intro pins s σ H Q I h;refine Subscript_ (thn (he pins s σ H _ I h) fun v s1 hq_=>?_);obtain ⟨x,H1,I1,r1,q1⟩:=hq_;refine wpAny_Slice (thn (hl pins s1 σ H1 _ I1 q1) fun vl s2 ⟨l,H2,I2,pl,q2⟩=>thn (hu pins s2 σ H2 _ I2 q2) fun vu s3 hq_=>?_);obtain ⟨u,H3,I3,pu,q3⟩:=hq_;rw [evalPart_none];refine Fi ?_;have I4:Inv X pins σ H3 {s3 with heap:=s3.heap.push {cls:= .type "slice",data:= .fields #[vl,vu,.none]}}:=I3.kept (t':=s3.toks) fun b ob q=>Ff _ q;obtain ⟨T,id,hT,ht,hg⟩:=hr pins {s3 with heap:=s3.heap.push {cls:= .type "slice",data:= .fields #[vl,vu,.none]}} σ H3 x v vl vu l u s3.heap.objs.size Q I4 r1 (Heap.IsSliceOf.new ..) pl pu q3;show wpAny (model X.prog X.w) X.A (subscriptTail e (.Slice lo hi none p2) v (.ref s3.heap.objs.size)) (EP X pins σ Q) X.xe {s3 with heap:=s3.heap.push {cls:= .type "slice",data:= .fields #[vl,vu,.none]}};exact tail_any (ops:=[.ref s3.heap.objs.size,v]) ht hT hg (by with_unfolding_all rfl)
def G3(xs:List V)(lo hi:Option Int):List V:=(xs.drop (HT.sIx xs.length 0 lo)).take (HT.sIx xs.length xs.length hi - HT.sIx xs.length 0 lo)
theorem N3(xs:List V)(lo hi:Option Int):(G3 xs lo hi).length≤xs.length:=by
 unfold G3;rw [FX,Hw];omega
def Jd3(K:PySem.W.Frag):V→Option Int→Option Int→Hp→VK→Prop:=fun x lo hi H Q=>∃a xs,x= .ref a∧SqT K H a xs∧
 ¬(HT.sIx xs.length 0 lo=0∧HT.sIx xs.length xs.length hi=xs.length)∧∀p,H p=none→Q (.ref p) (upd H p (.tup (G3 xs lo hi)))
theorem Ja9:SlR X (Jd3 X.K):=by
 intro pins s σ H x v vl vu lo hi sl Q I rx hs pl pu h;obtain ⟨a,xs,rfl,hx,hw,q⟩:=h;cases rx;obtain ⟨its,r,ht,hz⟩:=I.tuple hx
 have hlen:its.toArray.size=xs.length:=by rw [Fl];exact r.length.symm
 refine ⟨"tuple",_,PyProof.Rows.slot_tuple_getitem.lookup,ht.typeIs,?_⟩;refine HT.Ld ht hs pl pu (by rw [hlen];exact hw) ?_ (by rw [hlen];exact hz);rw [hlen];refine ⟨.ref s.heap.objs.size,_,I.laid (t':=s.toks) (o:= .tup (G3 xs lo hi)) (fun b ob q=>Ff _ q) (Fh _) ?_,rfl,q _ (I.hok.fresh (Fh _))⟩;exact ⟨FC (N3 xs lo hi) hz,_,(r.drop (HT.sIx xs.length 0 lo)).take (HT.sIx xs.length xs.length hi - HT.sIx xs.length 0 lo),IsTup.new _ _⟩
end
end L2
namespace L2
def ixN(n:Nat)(i:Int):Option Nat:=if 0≤i then (if i < n then some i.toNat else none) else if -(n:Int)≤i then some (i+n).toNat else none
def atI{α:Type}(xs:List α)(i:Int):Option α:=(ixN xs.length i).bind fun j=>xs[j]?
theorem Xa{n:Nat}{i:Int}{j:Nat}(h:ixN n i=some j):seqIndex? i n=some j∧j < n∧-(n:Int)≤i∧i < n:=by
 unfold ixN at h
 by_cases h0:0≤i
 · rw [if_pos h0]at h
   by_cases h1:i < n
   · rw [if_pos h1]at h
     have e:i.toNat=j:=FS h;exact ⟨by rw [seqIndex_of h0 h1,e],by omega,by omega,h1⟩
   · rw [if_neg h1]at h;cases h
 · rw [if_neg h0]at h
   by_cases h1:-(n:Int)≤i
   · rw [if_pos h1]at h
     have e:(i+n).toNat=j:=FS h;exact ⟨by rw [seqIndex_neg (by omega) h1,e],by omega,h1,by omega⟩
   · rw [if_neg h1]at h;cases h
theorem Qp{α:Type}{xs:List α}{i:Int}{v:α}(h:atI xs i=some v):∃j,seqIndex? i xs.length=some j∧xs[j]?=some v∧j < xs.length∧-(xs.length:Int)≤i∧i < xs.length:=by
 unfold atI at h
 cases e:ixN xs.length i with
 | none=>rw [e]at h;cases h
 | some j=>
  rw [e]at h;obtain ⟨h1,h2,h3,h4⟩:=Xa e;exact ⟨j,h1,h,h2,h3,h4⟩
theorem Qq{α:Type}{xs:List α}{j:Nat}{v:α}(h:xs[j]?=some v):atI xs (j:Int)=some v:=by
 have hj:j < xs.length:=(Fe.mp h).1
 have e:ixN xs.length (j:Int)=some j:=by
  unfold ixN;rw [if_pos (by omega),if_pos (by omega)];simp
 unfold atI;rw [e];exact h
def J6g(b:Expr):Prop:=∀o i,subscripted b false o i=operate [o,i] (getItem o i)
def IxR(X:Cx)(r:R2):Prop:=
 ∀(value slice:Expr) (pins:List (Addr×Obj)) (s:Shared) (σ:St) (H:Hp) (x y:V) (v u:Value) (Q:VK),Inv X pins σ H s→Ax x v→Ax y u→r x y H Q→
   subscripted slice false v u=operate [v,u] (getItem v u)→wpAny (model X.prog X.w) X.A (subscriptTail value slice v u) (EP X pins σ Q) X.xe s
def MtR(X:Cx)(id:String)(r:V→List V→Hp→VK→Prop):Prop:=
 ∀(pins:List (Addr×Obj)) (s:Shared) (σ:St) (H:Hp) (x:V) (xs:List V) (v:Value) (us:List Value) (Q:VK),Inv X pins σ H s→Ax x v→Au xs us→r x xs H Q→
   wpAny (model X.prog X.w) X.A (call (.builtin id) (v::us)) (EP X pins σ Q) X.xe s
section
variable {X:Cx} {a b:Expr} {ta tb:TE} {pos:Pos}
theorem Bq{r:R2}(hr:IxR X r)(ha:PE X a ta)(hb:PE X b tb)(hs:J6g b):PE X (.Subscript a b pos) (tOp r ta tb):=by
 intro pins s σ H Q I h;exact Subscript_ (Ja3 ha hb I h fun v u s2 x y H2 I2 rx ry q=>hr a b pins s2 σ H2 x y v u Q I2 rx ry q (hs _ _))
def Jc2(K:PySem.W.Frag):R2:=fun x y H Q=>∃p xs i v,x= .ref p∧y= .int i∧SqL K H p xs∧atI xs i=some v∧Q v H
def Jc3(K:PySem.W.Frag):R2:=fun x y H Q=>∃p xs i v,x= .ref p∧y= .int i∧SqT K H p xs∧atI xs i=some v∧Q v H
def Jc4:R2:=fun x y H Q=>∃z i c,x= .str z∧y= .int i∧z.length≤sizeLine∧atI z.cps.toList i=some c∧Q (.str ⟨#[c]⟩) H
theorem Cb:IxR X (Jc2 X.K):=by
 intro value slice pins s σ H x y v u Q I rx ry h hs;obtain ⟨p,xs,i,z,rfl,rfl,hq,he,q⟩:=h;cases rx;obtain ⟨t,rfl⟩:=ry;obtain ⟨its,r,pl,hz⟩:=I.list hq;obtain ⟨j,h1,h2,h3,h4,h5⟩:=Qp he;obtain ⟨w,ew,rw'⟩:=r.get h2;have hl:=r.length;have hn:=L3
 have fin:EP X pins σ Q w s:=⟨z,H,I,rw',q⟩
 by_cases h0:0≤i
 · have hj:i.toNat=j:=by
    rw [seqIndex_of h0 h5]at h1;exact FS h1
   exact item_listR pl.isList h0 (by omega) (by rw [hj];simpa using ew) fin hs
 · have hj:(i+(its.toArray.size:Int)).toNat=j:=by
    rw [seqIndex_neg (by omega) h4]at h1;rw [Fl,← hl];exact FS h1
   exact subscriptTail_builtinR (x:=w) pl.isList.typeIs slot_list_getitem.lookup
    (wpAny_getItem_list_neg (Q:=fun r s'=>r=w∧EP X pins σ Q r s') pl.isList (by omega) (by rw [Fl] <;> omega) (by omega) (by rw [hj];simpa using ew) ⟨rfl,fin⟩) hs
theorem Ex:IxR X (Jc3 X.K):=by
 intro value slice pins s σ H x y v u Q I rx ry h hs;obtain ⟨p,xs,i,z,rfl,rfl,hq,he,q⟩:=h;cases rx;obtain ⟨t,rfl⟩:=ry;obtain ⟨its,r,pl,hz⟩:=I.tuple hq;obtain ⟨j,h1,h2,h3,h4,h5⟩:=Qp he;obtain ⟨w,ew,rw'⟩:=r.get h2;have hl:=r.length;have hn:=L3
 have fin:EP X pins σ Q w s:=⟨z,H,I,rw',q⟩
 exact subscriptTail_builtinR (x:=w) pl.typeIs slot_tuple_getitem.lookup
  (getItem_tuple (j:=j) (Q:=fun r s'=>r=w∧EP X pins σ Q r s') pl (by omega) (by omega) (by rw [Fl,← hl];exact h1) (by simpa using ew) ⟨rfl,fin⟩) hs
theorem Mj:IxR X Jc4:=by
 intro value slice pins s σ H x y v u Q I rx ry h hs;obtain ⟨z,i,c,rfl,rfl,hz,he,q⟩:=h;obtain ⟨t,rfl⟩:=rx;obtain ⟨t',rfl⟩:=ry;obtain ⟨j,h1,h2,h3,h4,h5⟩:=Qp he
 have hl:z.cps.toList.length=z.length:=by simp [Str.length]
 rw [hl]at h1 h4 h5;have hn:=L3
 exact tail_any (Jm s z t) slot_str_getitem.lookup (getItem_str (c:=c) (by
  have e1:decide (i < -(2 ^ 63:Int))=false:=Fz (by omega);have e2:decide (i ≥ 2 ^ 63)=false:=Fz (by omega)
  rw [e1,e2,Bool.or_false]) (by rw [h1];simpa using h2) ⟨.str ⟨#[c]⟩,H,I.tok _,⟨_,rfl⟩,q⟩) hs
theorem Vw(its:List Value)(n j:Nat)(u:Value):Obj.mapSeq (·.setIfInBounds j u) {cls:= .type "list",data:= .seq its.toArray n}={cls:= .type "list",data:= .seq (its.set j u).toArray n}:=by
 simp [Obj.mapSeq]
theorem Inv.lst{pins:List (Addr×Obj)}{σ:St}{H:Hp}{s:Shared}{p:Addr}{xs:List V}(I:Inv X pins σ H s)(h:H p=some (.lst xs)):
 ∃(its:List Value) (n:Nat),Au xs its∧s.heap.get? p=some {cls:= .type "list",data:= .seq its.toArray n}∧xs.length≤sizeLine:=by
 obtain ⟨z,its,n,r,e⟩:=I.hok p _ h;exact ⟨its,n,r,e,z⟩
theorem Inv.lstUpd{pins:List (Addr×Obj)}{σ:St}{H:Hp}{s:Shared}{p:Addr}{xs ys:List V}{its its':List Value}{n n':Nat}{f:Obj→Obj}(I:Inv X pins σ H s)(h:H p=some (.lst xs))
 (ho:s.heap.get? p=some {cls:= .type "list",data:= .seq its.toArray n}) (hf:f {cls:= .type "list",data:= .seq its.toArray n}={cls:= .type "list",data:= .seq its'.toArray n'}) (r:Au ys its') (hz:ys.length≤sizeLine) (t:Nat):
 Inv X pins σ (upd H p (.lst ys)) {s with heap:=s.heap.update p f,toks:=t}:=by
 have e:(s.heap.update p f).get? p=some {cls:= .type "list",data:= .seq its'.toArray n'}:=by
  rw [HM f ho (by rw [hf] <;> rfl),hf]
 refine I.write (x:=p) (e:=p) (by rw [h];trivial) (.inl rfl) (fun b u hb q=>(R0 _ _ (Ne.symm hb)).trans q) ⟨_,e⟩ ?_;exact ⟨hz,its',n',r,e⟩
def J8w:V→V→V→Hp→(Hp→Prop)→Prop:=fun o i v H Q=>∃p xs k j,o= .ref p∧i= .int k∧H p=some (.lst xs)∧ixN xs.length k=some j∧Q (upd H p (.lst (xs.set j v)))
theorem Tb:Jbo X J8w:=by
 intro pins s σ H o i v ov iv u Q I ro ri rv h;obtain ⟨p,xs,k,j,rfl,rfl,hp,hj,q⟩:=h;cases ro;obtain ⟨t,rfl⟩:=ri;obtain ⟨its,n,r,ho,hz⟩:=I.lst hp;obtain ⟨h1,h2,h3,h4⟩:=Xa hj;have hl:=r.length;have hn:=L3
 have I':Inv X pins σ (upd H p (.lst (xs.set j v))) {s with heap:=s.heap.update p (Obj.mapSeq (·.setIfInBounds j u))}:=
  I.lstUpd hp ho (Vw its n j u) (r.set rv j) (by rw [Ho];exact hz) s.toks
 by_cases h0:0≤k
 · have hk:k.toNat=j:=by
    rw [seqIndex_of h0 h4]at h1;exact FS h1
   exact PySem.W.ki_setAt ho h0 (by omega) (by rw [Fl,← hl];exact h4) (by rw [hk];exact ⟨_,I',q⟩)
 · have hk:(k+(its.toArray.size:Int)).toNat=j:=by
    rw [seqIndex_neg (by omega) h3]at h1;rw [Fl,← hl];exact FS h1
   exact PySem.W.ki_setBack ho (by omega) (by rw [Fl,← hl];exact h3) (by omega) (by rw [hk];exact ⟨_,I',q⟩)
theorem Qr(lo hi:Option Int)(n:Nat):(sliceBounds lo hi none n).1=((HT.sIx n 0 lo:Nat):Int)∧(sliceBounds lo hi none n).2.1=((HT.sIx n n hi:Nat):Int)∧(sliceBounds lo hi none n).2.2=1:=by
 refine ⟨?_,?_,rfl⟩
 · cases lo with
   | none=>simp [sliceBounds,HT.sIx]
   | some i=>
    simp only [sliceBounds,HT.sIx,Jl,show (1:Int) > 0 by decide,if_true]
    by_cases h:i < 0
    · simp only [h,if_true] <;> omega
    · simp only [h,if_false] <;> omega
 · cases hi with
   | none=>simp [sliceBounds,HT.sIx]
   | some i=>
    simp only [sliceBounds,HT.sIx,Jl,show (1:Int) > 0 by decide,if_true]
    by_cases h:i < 0
    · simp only [h,if_true] <;> omega
    · simp only [h,if_false] <;> omega
theorem Pe(its:List Value)(lo hi:Option Int):slicePick its.toArray lo hi none=((its.drop (HT.sIx its.length 0 lo)).take (HT.sIx its.length its.length hi - HT.sIx its.length 0 lo)).toArray:=by
 obtain ⟨h1,h2,h3⟩:=Qr lo hi its.toArray.size;unfold slicePick;rw [h1,h2,h3]
 simp only [sliceRange_one,pick_run,Fl] <;> rfl
def Jc5(K:PySem.W.Frag):V→Option Int→Option Int→Hp→VK→Prop:=fun x lo hi H Q=>∃a xs,x= .ref a∧SqL K H a xs∧∀p,H p=none→Q (.ref p) (upd H p (.lst (G3 xs lo hi)))
theorem Lf:SlR X (Jc5 X.K):=by
 intro pins s σ H x v vl vu lo hi sl Q I rx hs pl pu h;obtain ⟨a,xs,rfl,hx,q⟩:=h;cases rx;obtain ⟨its,r,ht,hz⟩:=I.list hx;have hlen:=r.length;refine ⟨"list",_,slot_list_getitem.lookup,ht.isList.typeIs,?_⟩
 refine wpAny_getItem_list_slice ht.isList hs pl pu .none (by simp) ?_ (by rw [Fl] <;> omega)
 rw [Pe,← hlen];refine ⟨.ref s.heap.objs.size,_,I.laid (t':=s.toks) (o:= .lst (G3 xs lo hi)) (fun b ob q=>Ff _ q) (Fh _) ?_,rfl,q _ (I.hok.fresh (Fh _))⟩;exact ⟨FC (N3 xs lo hi) hz,_,0,(r.drop (HT.sIx xs.length 0 lo)).take (HT.sIx xs.length xs.length hi - HT.sIx xs.length 0 lo),Fo _ rfl⟩
def C0:V→Bool
 | .non=>true
 | .bl _=>true
 | .int _=>true
 | .str _=>true
 | _=>false
def eqV:V→V→Bool
 | .non,.non=>true
 | .bl a,.bl b=>a==b
 | .bl a,.int b=>(if a then 1 else 0)==b
 | .int a,.bl b=>a==(if b then 1 else 0)
 | .int a,.int b=>a==b
 | .str a,.str b=>a==b
 | _,_=>false
theorem J2h{A:Around}{s:Shared}{y x:V}{u v:Value}(ry:Ax y u)(rx:Ax x v)(fy:C0 y=true)(fx:C0 x=true):SeqAt.EqAt A s u v (eqV y x):=by
 cases y with
 | non=>
  cases ry
  cases x with
  | non=>cases rx;exact SeqAt.EqAt.same _
  | bl b=>cases rx;exact SeqAt.EqAt.none_bool b
  | int b=>obtain ⟨t,rfl⟩:=rx;exact SeqAt.EqAt.none_int b t
  | str b=>obtain ⟨t,rfl⟩:=rx;exact SeqAt.EqAt.none_str b t
  | _=>exact absurd (show false=true from fx) FD
 | bl a=>
  cases ry
  cases x with
  | non=>cases rx;exact SeqAt.EqAt.bool_none a
  | bl b=>cases rx;exact SeqAt.EqAt.bool_bool a b
  | int b=>obtain ⟨t,rfl⟩:=rx;exact SeqAt.EqAt.bool_int a b t
  | str b=>obtain ⟨t,rfl⟩:=rx;exact SeqAt.EqAt.bool_str a b t
  | _=>exact absurd (show false=true from fx) FD
 | int a=>
  obtain ⟨t',rfl⟩:=ry
  cases x with
  | non=>cases rx;exact SeqAt.EqAt.int_none a t'
  | bl b=>cases rx;exact SeqAt.EqAt.int_bool a t' b
  | int b=>obtain ⟨t,rfl⟩:=rx;exact SeqAt.EqAt.int_int a t' b t
  | str b=>obtain ⟨t,rfl⟩:=rx;exact SeqAt.EqAt.int_str a t' b t
  | _=>exact absurd (show false=true from fx) FD
 | str a=>
  obtain ⟨t',rfl⟩:=ry
  cases x with
  | non=>cases rx;exact SeqAt.EqAt.str_none a t'
  | bl b=>cases rx;exact SeqAt.EqAt.str_bool a t' b
  | int b=>obtain ⟨t,rfl⟩:=rx;exact SeqAt.EqAt.str_int a t' b t
  | str b=>obtain ⟨t,rfl⟩:=rx;exact SeqAt.EqAt.str_str a t' b t
  | _=>exact absurd (show false=true from fx) FD
 | _=>exact absurd (show false=true from fy) FD
def eqU(x:V)(u:Value):Bool:=match u with
 | .none=>eqV .non x
 | .bool b=>eqV (.bl b) x
 | .int i _=>eqV (.int i) x
 | .str z _=>eqV (.str z) x
 | _=>false
theorem J2i{x y:V}{u:Value}(r:Ax y u)(f:C0 y=true):eqU x u=eqV y x:=by
 cases y with
 | non=>cases r;rfl
 | bl b=>cases r;rfl
 | int i=>obtain ⟨t,rfl⟩:=r;rfl
 | str z=>obtain ⟨t,rfl⟩:=r;rfl
 | _=>exact absurd (show false=true from f) FD
theorem Lg{x:V}:∀{xs:List V} {us:List Value},Au xs us→xs.all C0=true→us.any (eqU x)=xs.any fun y=>eqV y x
 | _,_,.nil,_=>rfl
 | y::xs,u::us,.cons r t,f=>by
  rw [JL,FV]at f;rw [J2,J2,J2i r f.1,Lg t f.2]
theorem Ii{A:Around}{s:Shared}{x:V}{v:Value}(rx:Ax x v)(fx:C0 x=true):∀{xs:List V} {us:List Value},Au xs us→xs.all C0=true→∀u∈us,SeqAt.EqAt A s u v (eqU x u)
 | _,_,.nil,_=>fun u hu=>by cases hu
 | y::xs,u::us,.cons r t,f=>fun u' hu=>by
  rw [JL,FV]at f;rcases Fy.mp hu with rfl | hu
  · rw [J2i r f.1];exact J2h r rx f.1 fx
  · exact Ii rx fx t f.2 u' hu
def inV(x:V)(xs:List V):Bool:=xs.any fun y=>eqV y x
def rIn(K:PySem.W.Frag)(neg:Bool):R2:=fun x y H Q=>∃p xs,y= .ref p∧(SqL K H p xs∨SqT K H p xs)∧C0 x=true∧xs.all C0=true∧Q (.bl (if neg then !inV x xs else inV x xs)) H
theorem Ps:OpR X (compareOp .In) (rIn X.K false):=by
 intro pins s σ H x y v u Q I rx ry h;obtain ⟨p,xs,rfl,hq,fx,fs,q⟩:=h;cases ry;rcases hq with hq | hq
 · obtain ⟨its,r,pl,hz⟩:=I.list hq
   refine SeqAt.in_listAt (eqU x) pl.isList (fun w hw=>Ii rx fx r fs w (by simpa using hw)) ⟨.bl _,H,I,rfl,?_⟩;rw [show its.toArray.any (eqU x)=its.any (eqU x) by simp,Lg r fs];exact q
 · obtain ⟨its,r,pl,hz⟩:=I.tuple hq
   refine SeqAt.in_tupleAt (eqU x) pl (fun w hw=>Ii rx fx r fs w (by simpa using hw)) ⟨.bl _,H,I,rfl,?_⟩;rw [show its.toArray.any (eqU x)=its.any (eqU x) by simp,Lg r fs];exact q
theorem Qs:OpR X (compareOp .NotIn) (rIn X.K true):=by
 intro pins s σ H x y v u Q I rx ry h;obtain ⟨p,xs,rfl,hq,fx,fs,q⟩:=h;cases ry;rcases hq with hq | hq
 · obtain ⟨its,r,pl,hz⟩:=I.list hq
   refine SeqAt.notIn_listAt (eqU x) pl.isList (fun w hw=>Ii rx fx r fs w (by simpa using hw)) ⟨.bl _,H,I,rfl,?_⟩;rw [show its.toArray.any (eqU x)=its.any (eqU x) by simp,Lg r fs];exact q
 · obtain ⟨its,r,pl,hz⟩:=I.tuple hq
   refine SeqAt.notIn_tupleAt (eqU x) pl (fun w hw=>Ii rx fx r fs w (by simpa using hw)) ⟨.bl _,H,I,rfl,?_⟩;rw [show its.toArray.any (eqU x)=its.any (eqU x) by simp,Lg r fs];exact q
theorem Ai:E4 X (.builtin "len") (fun xs H Q=>∃p ys,xs=[.ref p]∧(SqL X.K H p ys∨SqT X.K H p ys)∧Q (.int ys.length) H):=by
 intro pins s σ H xs us Q I r h;obtain ⟨p,ys,rfl,hq,q⟩:=h;obtain ⟨u,rfl,rx⟩:=G2 r;cases rx;have hn:=L3;rcases hq with hq | hq
 · obtain ⟨its,r',pl,hz⟩:=I.list hq
   have hlen:=r'.length
   exact Calls.call_len_list pl.isList (by simp only [Fl] <;> omega) ⟨.int ys.length,H,I.tok _,⟨s.toks+1,by rw [Fl,hlen]⟩,q⟩
 · obtain ⟨its,r',pl,hz⟩:=I.tuple hq
   have hlen:=r'.length
   exact len_tuple pl (by simp only [Fl] <;> omega) ⟨.int ys.length,H,I.tok _,⟨s.toks+1,by rw [Fl,hlen]⟩,q⟩
theorem Dz:E4 X (.builtin "len") (fun xs H Q=>∃z,xs=[.str z]∧z.length≤sizeLine∧Q (.int z.length) H):=by
 intro pins s σ H xs us Q I r h;obtain ⟨z,rfl,hz,q⟩:=h;obtain ⟨u,rfl,t,rfl⟩:=G2 r;have hn:=L3;exact len_str (by omega) ⟨.int z.length,H,I.tok _,⟨_,rfl⟩,q⟩
theorem Ge:E4 X (.type "list") (fun xs H Q=>∃p ys,xs=[.ref p]∧(SqL X.K H p ys∨SqT X.K H p ys)∧∀l,H l=none→Q (.ref l) (upd H l (.lst ys))):=by
 intro pins s σ H xs us Q I r h;obtain ⟨p,ys,rfl,hq,q⟩:=h;obtain ⟨u,rfl,rx⟩:=G2 r;cases rx
 have fin:∀(its:List Value),Au ys its→ys.length≤sizeLine→∀(h':Heap) (c':Nat),(∀b o',s.heap.get? b=some o'→h'.get? b=some o')→
  h'.get? s.heap.objs.size=some {cls:= .type "list",dict:=none,data:= .seq its.toArray c',slots:=#[]}→EP X pins σ Q (.ref s.heap.objs.size) {s with heap:=h'}:=fun its r' hz h' c' kp e=>
  ⟨.ref s.heap.objs.size,_,I.laid (t':=s.toks) kp (Fh _) (show Bi X.prog X.w _ h' _ (.lst ys) from ⟨hz,its,c',r',e⟩),rfl,q _ (I.hok.fresh (Fh _))⟩
 rcases hq with hq | hq
 · obtain ⟨its,r',pl,hz⟩:=I.list hq
   have hlen:=r'.length;obtain ⟨o,ho,hc,n,hd⟩:=pl.isList
   exact call_list_seq p (.inl rfl) ho hc hd (fun h' c' kp e=>fin its r' hz h' c' kp e) (by simp only [Fl] <;> omega)
 · obtain ⟨its,r',pl,hz⟩:=I.tuple hq
   have hlen:=r'.length;obtain ⟨o,ho,hc,n,hd⟩:=pl
   exact call_list_seq p (.inr rfl) ho hc hd (fun h' c' kp e=>fin its r' hz h' c' kp e) (by simp only [Fl] <;> omega)
def tyV(K:PySem.W.Frag)(T:String)(x:V)(H:Hp):Prop:=match x with
 | .str _=>T="str"
 | .int _=>T="int"
 | .ref p=>(T="list"∧∃xs,SqL K H p xs)∨(T="tuple"∧∃o,K.lookup p=some o∧o.cls= .type "tuple"∧o.dict=none)∨
  (T="dict"∧((∃kvs,H p=some (.dK kvs))∨∃kvs,H p=some (.dT kvs)))∨(T="set"∧∃S n,H p=some (.set S n))
 | _=>False
theorem J2j{pins:List (Addr×Obj)}{σ:St}{H:Hp}{s:Shared}{T:String}{x:V}{v:Value}(I:Inv X pins σ H s)(r:Ax x v)(ty:tyV X.K T x H):
 s.TypeIs v T∧∀a,v= .ref a→∃ob,s.heap.get? a=some ob∧ob.dict=none:=by
 cases x with
 | str z=>
  obtain ⟨t,rfl⟩:=r;cases (show T="str" from ty);exact ⟨Jm s z t,fun _ e=>nomatch e⟩
 | int i=>
  obtain ⟨t,rfl⟩:=r;cases (show T="int" from ty);exact ⟨typeIs_int s i t,fun _ e=>nomatch e⟩
 | ref p=>
  cases r;rcases ty with ⟨rfl,xs,hq⟩ | ⟨rfl,o,hk,hc,hd⟩ | ⟨rfl,hk⟩ | ⟨rfl,S,n,hk⟩
  · obtain ⟨its,_,pl,_⟩:=I.list hq
    refine ⟨pl.isList.typeIs,fun a e=>?_⟩;cases e;obtain ⟨o,n,e,c,hd,_⟩:=pl;exact ⟨o,e,hd⟩
  · refine ⟨⟨o,I.kIn p o hk,hc⟩,fun a e=>?_⟩
    cases e;exact ⟨o,I.kIn _ o hk,hd⟩
  · have z:∃o,s.heap.get? p=some o∧o.ExactDict:=by
     rcases hk with ⟨kvs,hk⟩ | ⟨kvs,hk⟩
     · obtain ⟨_,_,_,_,o,_,_,e,ex,_⟩:=I.hok p _ hk
       exact ⟨o,e,ex⟩
     · obtain ⟨_,_,_,_,o,_,_,e,ex,_⟩:=I.hok p _ hk
       exact ⟨o,e,ex⟩
    obtain ⟨o,e,ex⟩:=z;refine ⟨⟨o,e,ex.1⟩,fun a e2=>?_⟩;cases e2;exact ⟨o,e,ex.2.1⟩
  · obtain ⟨o,_,_,_,e,ex,_⟩:=I.hok p _ hk
    refine ⟨⟨o,e,ex.1⟩,fun a e2=>?_⟩;cases e2;exact ⟨o,e,ex.2.1⟩
 | _=>exact False.elim ty
def Jc6(K:PySem.W.Frag)(T:String)(r:V→List V→Hp→VK→Prop)(to:TE):TE:=fun σ H Q=>to σ H fun x H1=>tyV K T x H1∧r x [] H1 Q
def tBM(K:PySem.W.Frag)(T:String)(r:V→List V→Hp→VK→Prop)(to:TE)(t:TA):TE:=fun σ H Q=>to σ H fun x H1=>tyV K T x H1∧t σ H1 fun xs H2=>r x xs H2 Q
variable {o e:Expr} {es:List Expr} {to:TE} {t:TA} {name:Str} {apos cpos:Pos} {T id:String} {r:V→List V→Hp→VK→Prop}
theorem J2k(pa:PlainAttrs T)(slot:Slot T name id)(hty:typeOf (.builtin id)=pure (.type "method_descriptor"))(hm:MtR X id r)(ho:PE X o to)
 (hbase:attributeBase o name X.env (eval o X.env)=eval o X.env:=by rfl) (hline:(apos.endLine==cpos.line)=true:=by rfl):PE X (.Call (.Attribute o name apos) [] [] cpos) (Jc6 X.K T r to):=by
 intro pins s σ H Q I h;refine wpAny_Call_method0_late hbase hline (thn (ho pins s σ H _ I h) fun v s1 hq_=>?_);obtain ⟨x,H1,I1,r1,ty,q1⟩:=hq_;obtain ⟨h1,h2⟩:=J2j I1 r1 ty;exact ⟨T,id,pa,slot,hty,h1,h2,Calls.callWith_builtin rfl (PySem.evalArgs_none (hm pins s1 σ H1 x [] v [] Q I1 r1 .nil q1))⟩
theorem Ct(pa:PlainAttrs T)(slot:Slot T name id)(hty:typeOf (.builtin id)=pure (.type "method_descriptor"))(hm:MtR X id r)(ho:PE X o to)(ha:PA X (e::es) t)
 (hbase:attributeBase o name X.env (eval o X.env)=eval o X.env:=by rfl)
 (hfew:((backTo cpos (starEach (e::es) X.env)).all (fun x=>!x.1) && (backToKw cpos (keywordEach [] X.env)).all (fun x=>x.1.isSome)
  && decide ((e::es).length+([]:List Keyword).length+(if ([]:List Keyword).isEmpty then 0 else 1) < 30))=true:=by rfl)
 (hline:(apos.endLine==cpos.line)=true:=by rfl) (hs:starEach (e::es) X.env=(false,eval e X.env)::starEach es X.env:=by rfl) (hplain:(backTo cpos (starEach es X.env)).any (·.1)=false:=by rfl):
 PE X (.Call (.Attribute o name apos) (e::es) [] cpos) (tBM X.K T r to t):=by
 intro pins s σ H Q I h;refine wpAny_Call_method_late hbase hfew hline rfl (thn (ho pins s σ H _ I h) fun v s1 hq_=>?_);obtain ⟨x,H1,I1,r1,ty,q1⟩:=hq_;obtain ⟨h1,h2⟩:=J2j I1 r1 ty;refine ⟨T,id,pa,slot,hty,h1,h2,?_⟩;have hA:=ha cpos pins s1 σ H1 _ I1 q1;rw [hs]at hA ⊢
 refine Calls.callWith_builtin (by show (false || (backTo cpos (starEach es X.env)).any (·.1))=false;rw [hplain] <;> rfl) (Calls.evalArgs_plain ?_)
 exact thn hA fun us s2 ⟨vs,H2,I2,r2,q2⟩=>hm pins s2 σ H2 x vs v us Q I2 r1 r2 q2
end
end L2
namespace L2
def MtM(X:Cx)(id:String)(r:V→List V→Hp→VK→Prop):Prop:=
 ∀(pins:List (Addr×Obj)) (s:Shared) (σ:St) (H:Hp) (x:V) (xs:List V) (v:Value) (us:List Value) (Q:VK),Inv X pins σ H s→Ax x v→Au xs us→r x xs H Q→
   wpAny (model X.prog X.w) X.A (call (.builtin id) (v::us)) (EP X pins σ Q) X.xe s
theorem Au.one:∀{x:V} {us:List Value},Au [x] us→∃u,us=[u]∧Ax x u
 | _,_,.cons r .nil=>⟨_,rfl,r⟩
theorem Au.zero:∀{us:List Value},Au [] us→us=[]
 | _,.nil=>rfl
theorem Au.dropLast{xs:List V}{us:List Value}(h:Au xs us):Au xs.dropLast us.dropLast:=by
 induction h with
 | nil=>exact .nil
 | cons r t ih=>
  cases t with
  | nil=>exact .nil
  | cons q t'=>exact .cons r ih
theorem Au.eraseIdx:∀{xs:List V} {us:List Value} (i:Nat),Au xs us→Au (xs.eraseIdx i) (us.eraseIdx i)
 | _,_,_,.nil=> .nil
 | _,_,0,.cons _ t=>t
 | _,_,i+1,.cons r t=> .cons r (Au.eraseIdx i t)
theorem Au.rep{xs:List V}{us:List Value}(h:Au xs us):∀k:Nat,Au (List.replicate k xs).flatten (List.replicate k us).flatten
 | 0=> .nil
 | k+1=>by
  rw [Rg,Rg,Ji,Ji];exact Au.append h (Au.rep h k)
theorem Vx{α:Type}(l:List α):l.eraseIdx (l.length - 1)=l.dropLast:=by
 induction l with
 | nil=>rfl
 | cons a r ih=>
  cases r with
  | nil=>rfl
  | cons b r=>
   have e:(a::b::r).length - 1=((b::r).length - 1)+1:=by
    have h1:(a::b::r).length=r.length+2:=rfl;have h2:(b::r).length=r.length+1:=rfl;omega
   rw [e,RP,ih]
   all_goals rfl
theorem Pt(its:List Value):∀(k:Nat) (acc:List Value),
 List.foldl (fun x1 x2=>x1++x2) acc.toArray (List.replicate k its.toArray)=(acc++(List.replicate k its).flatten).toArray
 | 0,acc=>by simp
 | k+1,acc=>by
  have e:acc.toArray++its.toArray=(acc++its).toArray:=by simp
  have e2:(acc++its)++(List.replicate k its).flatten=acc++(List.replicate (k+1) its).flatten:=by
   rw [Rg,Ji,HV]
  rw [← e2,← Pt its k (acc++its),← e,Rg,List.foldl_cons]
section
variable {X:Cx} {pins:List (Addr×Obj)} {σ:St} {H:Hp} {s:Shared} {l b:Addr} {xs ys zs:List V}
theorem Inv.lset{its its':List Value}{n:Nat}{f:Array Value→Array Value}{t':Nat}(I:Inv X pins σ H s)(hH:H l=some (.lst xs))
 (e:s.heap.get? l=some {cls:= .type "list",data:= .seq its.toArray n}) (hf:f its.toArray=its'.toArray) (hv:Au ys its') (hz:ys.length≤sizeLine):
 Inv X pins σ (upd H l (.lst ys)) {s with heap:=s.heap.update l (Obj.mapSeq f),toks:=t'}:=by
 have q:=PySem.IsL.update e f;rw [hf]at q;refine I.write (x:=l) (e:=l) (by rw [hH];exact trivial) (.inl rfl) (fun b' u hb hu=>(R0 s.heap (Obj.mapSeq f) (Ne.symm hb)).trans hu) ⟨_,q⟩ ?_;exact ⟨hz,its',_,hv,q⟩
theorem Inv.lnew{its:List Value}{t':Nat}(I:Inv X pins σ H s)(hv:Au ys its)(hz:ys.length≤sizeLine):
 Inv X pins σ (upd H s.heap.objs.size (.lst ys)) {s with heap:=s.heap.push {cls:= .type "list",data:= .seq its.toArray},toks:=t'}:=
 I.laid (fun _ _ q=>Ff _ q) (Fh _) ⟨hz,its,0,hv,Fo _ rfl⟩
theorem Inv.fresh(I:Inv X pins σ H s):H s.heap.objs.size=none:=I.hok.fresh (Fh _)
theorem Inv.lstM(I:Inv X pins σ H s)(hH:H l=some (.lst xs)):xs.length≤sizeLine∧∃(its:List Value) (n:Nat),Au xs its∧xs.length=its.length∧s.heap.get? l=some {cls:= .type "list",data:= .seq its.toArray n}:=by
 obtain ⟨z,its,n,r,e⟩:=I.hok l _ hH;exact ⟨z,its,n,r,r.length,e⟩
theorem J2l{n:Nat}(h:n≤sizeLine):Builtin.List.listTooLong n=false:=by
 unfold Builtin.List.listTooLong;exact Fz (by omega)
end
section
variable {X:Cx}
def Xb:V→List V→Hp→VK→Prop:=fun x vs H Q=>∃l xs y,x= .ref l∧vs=[y]∧H l=some (.lst xs)∧xs.length < sizeLine∧Q .non (upd H l (.lst (xs++[y])))
theorem Bk:MtM X "list.append" Xb:=by
 intro pins s σ H x vs v us Q I rx rv h;obtain ⟨l,xs,y,rfl,rfl,hH,hz,q⟩:=h;cases rx;obtain ⟨u,rfl,ru⟩:=rv.one;obtain ⟨z,its,n,r,hl,e⟩:=I.lstM hH;refine RL F.slot_list_append ⟨_,e,rfl⟩ F.entry_list_append (F.args_list_append_2 _ _) (PySem.list_append l its.toArray n u (by rw [Fl];omega)) ⟨e,?_⟩;refine ⟨.non,_,I.lset (its':=its++[u]) hH e (by simp) (r.append (.cons ru .nil)) ?_,rfl,q⟩;rw [Fu,Rr];omega
def Jaa:V→List V→Hp→VK→Prop:=fun x vs H Q=>∃l xs y,x= .ref l∧vs=[]∧H l=some (.lst xs)∧xs[xs.length - 1]?=some y∧Q y (upd H l (.lst xs.dropLast))
theorem Jab:MtM X "list.pop" Jaa:=by
 intro pins s σ H x vs v us Q I rx rv h;obtain ⟨l,xs,y,rfl,rfl,hH,hy,q⟩:=h;cases rx;have hus:=rv.zero;subst hus;obtain ⟨z,its,n,r,hl,e⟩:=I.lstM hH;obtain ⟨u,hu,ru⟩:=r.get hy
 have hy':its.toArray[its.toArray.size - 1]?=some u:=by
  show its.toArray[its.length - 1]?=some u;rw [← FZ,← hl];exact hu
 refine RL F.slot_list_pop ⟨_,e,rfl⟩ F.entry_list_pop (F.args_list_pop_1 _) (MeetsSeq.list_pop_last l its.toArray n u hy' (by rw [Fl];omega)) ⟨e,?_⟩;refine ⟨y,_,I.lset (its':=its.dropLast) hH e ?_ r.dropLast ?_,ru,q⟩
 · show its.toArray.eraseIdxIfInBounds (its.toArray.size - 1)=its.dropLast.toArray
   rw [Fl,List.eraseIdxIfInBounds_toArray,Vx]
 · rw [List.length_dropLast]
   omega
def Jd4:R2:=fun x y H Q=>∃l b xs zs,x= .ref l∧y= .ref b∧H l=some (.lst xs)∧H b=some (.lst zs)∧xs.length+zs.length≤sizeLine∧∀p,H p=none→Q (.ref p) (upd H p (.lst (xs++zs)))
theorem Jac:OpR X (binaryOp .Add) Jd4:=by
 intro pins s σ H x y v u Q I rx ry h;obtain ⟨l,b,xs,zs,rfl,rfl,hH,hB,hz,q⟩:=h;cases rx;cases ry;obtain ⟨z,its,n,r,hl,e⟩:=I.lstM hH;obtain ⟨z2,its2,n2,r2,hl2,e2⟩:=I.lstM hB;refine PySem.P.add_list e e2 ?_ (by rw [Fl,Fl];omega)
 have ea:its.toArray++its2.toArray=(its++its2).toArray:=by simp
 rw [ea];exact ⟨.ref _,_,I.lnew (t':=s.toks) (r.append r2) (by rw [Fu];omega),rfl,q _ I.fresh⟩
def Jd5:R2:=fun x y H Q=>∃l k xs,x= .ref l∧y= .int k∧H l=some (.lst xs)∧-(2 ^ 63)≤k∧k < 2 ^ 63∧xs.length * k.toNat≤sizeLine∧
 ∀p,H p=none→Q (.ref p) (upd H p (.lst (List.replicate k.toNat xs).flatten))
theorem J6h{α:Type}(xs:List α)(k:Nat):(List.replicate k xs).flatten.length=k * xs.length:=by
 induction k with
 | zero=>simp
 | succ k ih=>rw [Rg,Ji,Fu,ih,Nat.succ_mul,Nat.add_comm]
theorem J2m:OpR X (binaryOp .Mult) Jd5:=by
 intro pins s σ H x y v u Q I rx ry h;obtain ⟨l,k,xs,rfl,rfl,hH,h1,h2,hz,q⟩:=h;cases rx;obtain ⟨t,rfl⟩:=ry;obtain ⟨z,its,n,r,hl,e⟩:=I.lstM hH
 have hlen:its.toArray.size * k.toNat≤sizeLine:=by rw [Fl,← hl];exact hz
 have hcap:¬its.toArray.size * k.toNat > (2 ^ 63 - 1) / 8:=by
  have:(sizeLine:Nat)≤(2 ^ 63 - 1) / 8:=by decide
  omega
 have hfit:¬(!Builtin.List.listFitsIndex k)=true:=by
  rw [fitsIndex_both h1 h2];exact FD
 have hlong:¬Builtin.List.listTooLong (its.toArray.size * k.toNat)=true:=by
  rw [J2l hlen];exact FD
 have hnew:List.foldl (fun x1 x2=>x1++x2) #[] (List.replicate (if its.toArray.isEmpty=true then 0 else k.toNat) its.toArray)=(List.replicate k.toNat its).flatten.toArray:=by
  have f0:∀m:Nat,List.foldl (fun x1 x2=>x1++x2) #[] (List.replicate m its.toArray)=(List.replicate m its).flatten.toArray:=fun m=>by
   have:=Pt its m [];rw [List.nil_append]at this;exact this
  rw [f0]
  cases its with
  | nil=>simp
  | cons a r'=>rw [if_neg (by simp)]
 refine wpAny_binaryOp_repeat_ref (T:="list") (U:="int") (by decide) ⟨_,e,rfl⟩ (fun s'=>typeIs_int s' k t) noFill_list_mul F.fills_int_mul F.slot_int_rmul repeat_list F.slot_int_index.lookup
  (RL F.slot_int_rmul (typeIs_int s k t) F.entry_int_rmul (F.args_int_rmul_2 _ _) (int___rmul___int_list k t l its.toArray n)
   ⟨e,rfl,⟨_,e,rfl⟩,RL F.slot_list_mul ⟨_,e,rfl⟩ F.entry_list_mul (F.args_list_mul_2 _ _) (AutoListH.list___mul___list_int_3 l its.toArray n k t hfit hcap hlong) ⟨e,?_⟩⟩)
 rw [hnew];exact ⟨.ref _,_,I.lnew (t':=s.toks) (r.rep k.toNat) (by rw [J6h,Nat.mul_comm];exact hz),rfl,q _ I.fresh⟩
end
end L2
namespace Att
open PySem PySem.W PySem.Calls PyProof.Rows
theorem Nj{P:Params}{h:Heap}:∀(ns:List Int) (vs:List Value),WellAll P h vs (ns.map WData.int)→IntsAre vs ns:=by
 intro ns
 induction ns with
 | nil=>
  intro vs w;rw [List.map_nil]at w;cases w;exact .nil
 | cons n ns ih=>
  intro vs w;rw [List.map_cons]at w
  cases w with
  | cons a b=>
   cases a;exact .cons _ _ (ih _ b)
theorem J0l{l:OpenLaw}{n:Nat}(hn:l.most=some n){P:Params}{h:Heap}{args:List WData}{vals:List Value}
 (hpre:l.row.toRowW.claim.pre args=true) (hwl:WellAll P h vals args):
 ∃a vs ns,vals=[Value.ref a]∧args=[WData.list (ns.map WData.int)]∧h.get? a=some {cls:= .type "list",data:= .seq vs.toArray}∧IntsAre vs ns∧ns.length≤n:=by
 have hsh:WShape.hasAll [] args [.list .int]=true:=(pre_splitW hpre).1;have hc:l.pre.holds [] {args:=args}=true:=(pre_splitW hpre).2;obtain ⟨d,r,rfl,h1,h2⟩:=hasAllW_cons hsh;obtain rfl:=hasAllW_nil h2;obtain ⟨xs,rfl,h3⟩:=hasW_list h1;obtain ⟨ns,rfl⟩:=items_int h3
 have hlen:ns.length≤n:=by
  unfold OpenLaw.pre at hc
  have h4:(WTm.not (.lt (.lit (.int (n:Int))) (.len (.arg 0)))).holds [] {args:=[.list (ns.map .int)]}=true:=by
   have h4:=(holds_andW hc).1;rw [hn]at h4;exact h4
  have h5:=condW_of h4 (w_not (w_lt w_lit (w_len_list (w_arg rfl))));rw [Fa]at h5;refine RZ fun q=>?_
  have q':(n:Int) < ((ns.length:Nat):Int):=by omega
  first
   | (rw [Fx q']at h5;exact absurd h5 (by decide))
   | (simp at h5;omega)
 cases hwl with
 | cons w1 w2=>
  cases w2
  cases w1 with
  | list ho hall=>exact ⟨_,_,ns,rfl,rfl,ho,Nj ns _ hall,hlen⟩
theorem J0m(l:OpenLaw)(args:List WData):l.row.toRowW.claim.post args (.bool true) args=true:=
 postW_of (r:=l.row.toRowW) (X:=(true==true))
  (show WShape.has [] (.bool true) .bool=true by first | rfl | decide | simp [WShape.has,WShape.arms,WShape.armsAll])
  (show (WTm.eq .res (.lit (.bool true))).value [] {args:=args,res:=some (.bool true),after:=args}=some (.bool (true==true)) from w_eq_bool (w_res rfl) w_lit) rfl
theorem Tc{l:OpenLaw}{n:Nat}{q:Program}{loose:List Str}{XP:(Str→Option Value)→Heap→Prop}{YP:World→Heap→Prop}{d:DefRec}
 (hn:l.most=some n) (hdf:d.params.defaults=[])
 (call:∀(w:World) (s₀ s₁:Shared) (mg mb:Str→Option Value) (fa:Addr) (o:Obj) (pm cd doc:Value) (a:Addr) (vs:List Value) (ns:List Int),
  Ground q loose [] XP w s₀ mg mb s₁.heap→YP w s₁.heap→
  s₁.heap.get? fa=some o→o.data= .func (docDef d.name d.params d.body d.scope pm cd doc)→s₁.heap.CodeRec cd d.name→mg d.name=some (.ref fa)→
  s₁.heap.get? a=some {cls:= .type "list",data:= .seq vs.toArray}→IntsAre vs ns→ns.length≤n→s₁.gens=#[]→
  codeAny (model l.prog w) callerA (.call (.ref fa) ⟨[.ref a],[]⟩) (fun r s'=>r= .ok (.ret (.bool true))∧OldK s₁.heap s'.heap∧s'.os=s₁.os∧AllBare s'.gens) s₁):
 WalkO q loose XP YP l.row.toRowW d [] (fun f vs=>PySem.call f vs):=by
 intro w s₀ s₁ mg mb G Y fa o pm cd doc dV kV ho hd hcd hD hmg hg args vals as hpre hlay hrd hwl hlo;obtain rfl:dV= .none:=Dflts.none hD hdf;obtain rfl:kV= .none:=Dflts.noKw hD;obtain ⟨a,vs,ns,rfl,rfl,hobj,hints,hlen⟩:=J0l hn hpre hwl;refine enter_call (HY (call w s₀ s₁ mg mb fa o pm cd doc a vs ns G Y ho (fd_plain hd) hcd hmg hobj hints hlen hg) fun r s' hq=>?_);obtain ⟨rfl,h2,h3,h4⟩:=hq;exact ⟨.inl ⟨.bool true,.bool true,[],rfl,fun _=>rfl,.bool true,J0m l _,fun _=>⟨List.Pairwise.nil,fun _ hm=>(nomatch hm)⟩⟩,h2,h3,h4⟩
end Att
namespace L2
theorem Pu:∀{vs:List Value} {ns:List Int},IntsAre vs ns→Au (ns.map V.int) vs
 | _,_,.nil=> .nil
 | _,_,.cons n t h=> .cons ⟨t,rfl⟩ (Pu h)
end L2
namespace L2
def Aw(s:Stmt)(j:Nat):Stmt:=match s with
 | .ClassDef _ _ _ body _ _ _ _ _ _ _=>body.getD j (.Pass ⟨0,0,0,0⟩)
 | _=> .Pass ⟨0,0,0,0⟩
def Bp(s:Stmt):Arguments:=match s with
 | .FunctionDef _ a _ _ _ _ _ _ _ _=>a
 | _=>{posonlyargs:=[],args:=[],vararg:=none,kwonlyargs:=[],kw_defaults:=[],kwarg:=none,defaults:=[]}
def Bg(s:Stmt):List Stmt:=match s with
 | .FunctionDef _ _ b _ _ _ _ _ _ _=>b
 | _=>[]
def A6(s:Stmt):Scope:=match s with
 | .FunctionDef _ _ _ _ _ _ sc _ _ _=>sc
 | _=>{kind:= .function,names:=[],isGenerator:=false,isCoroutine:=false}
abbrev CX0:CXT:=fun _ _ _ _ _ _=>False
abbrev E0:XK:=fun _ _ _=>False
theorem Ac{X:Cx}:Mh CX0 X E0:=fun _ _ _ _ _ _ _ h=>h.elim
structure Fun(K:PySem.W.Frag)(x qual:Str)(st:Stmt)(f:Addr)(fd:FuncData):Prop where
 ex:∃(oc:Value) (od:Option Addr) (kV doc pm:Value) (an:Option Addr) (cdv ct:Value) (osl:Array (Option Value)),
  fd=PySem.W.fnOf x qual (Bp st) (Bg st) (A6 st) .none kV doc pm an cdv ct∧K.lookup f=some ⟨oc,od,.func fd,osl⟩∧PySem.W.codeIn K cdv qual=true
 kp:PySem.W.keepIn K (.ref f)=true
section
variable {P:Program} {w:World} {K:PySem.W.Frag} {mg:Str→Option Value} {base:Heap}
theorem Fun.ok{x qual:Str}{st:Stmt}{f:Addr}{fd:FuncData}{N ps:List Str}{k:Nat}{sp:Sp}(F:Fun K x qual st f fd)(S:Ab N ps (A6 st))(len:∀vs H Q E,sp vs H Q E→vs.length=ps.length)
 (hbody:∀(cdv:Value) (A:Around) (outer:List Env) (s:Shared) (H:Hp) (vs:List V) (Q:VK) (E:XK),Bt k (A.deeper (envOfC qual (A6 st) s.heap.objs.size f cdv))→sp vs H Q E→
  ∃t,PSs (T9 CX0 P w K mg base N qual (A6 st) f cdv A outer s H E).nox (Bg st) t∧t {nx:=fun _ H'=>Q .non H',rt:=Q} (start N vs) H):Ar P w K mg base CX0 (k+1) f fd ps sp:=by
 obtain ⟨oc,od,kV,doc,pm,an,cdv,ct,osl,rfl,lk,hcd⟩:=F.ex;refine J8u lk hcd S len fun A outer s H vs Q E hr hsp=>?_;obtain ⟨t,h,q⟩:=hbody cdv A outer s H vs Q E hr hsp;exact ⟨t,h.nox,q⟩
theorem Fun.binds{x qual:Str}{st:Stmt}{f:Addr}{fd:FuncData}{ps:List Str}(F:Fun K x qual st f fd)
 (h:∀(kV doc pm:Value) (an:Option Addr) (cdv ct:Value) (us:List Value),us.length=ps.length→bindArgs (PySem.W.fnOf x qual (Bp st) (Bg st) (A6 st) .none kV doc pm an cdv ct) ⟨us,[]⟩=pure (ps.zip us)):Ca K fd ps []:=by
 obtain ⟨oc,od,kV,doc,pm,an,cdv,ct,osl,rfl,lk,hcd⟩:=F.ex;exact .all (h kV doc pm an cdv ct)
theorem Ml{x qual:Str}{st:Stmt}{f:Addr}{oc:Value}{od an:Option Addr}{osl:Array (Option Value)}{kV doc pm cdv ct:Value}(l:K.lookup f=some ⟨oc,od,.func (PySem.W.fnOf x qual (Bp st) (Bg st) (A6 st) .none kV doc pm an cdv ct),osl⟩)
 (c:PySem.W.codeIn K cdv qual=true) (k:PySem.W.keepIn K (.ref f)=true):Fun K x qual st f (PySem.W.fnOf x qual (Bp st) (Bg st) (A6 st) .none kV doc pm an cdv ct):=⟨⟨oc,od,kV,doc,pm,an,cdv,ct,osl,rfl,l,c⟩,k⟩
end
theorem D4{A:Around}{k:Nat}(hr:Bt k A):A.units+1 < cLine:=FM (Nat.add_le_add_left (by decide:1≤64) _) hr.units
section
variable {X:Cx}
theorem pv(i:Nat){x:Str}{pos:Pos}(hN:X.N[i]?=some x:=by rfl)(hv:Vis X.env.scope x:=by first | exact Or.inl rfl | exact Or.inr (Or.inl rfl) | exact Or.inr (Or.inr rfl))(hd:(x==("__debug__":Str))=false:=by decide)
 (hcd:(x==("__classdict__":Str))=false:=by decide):PE X (.Name x pos) (J9w i):=J9x hN hv hd hcd
end
def A7(H H':Hp):Prop:=∀b o,H b=some o→H' b=some o
theorem A7.refl(H:Hp):A7 H H:=fun _ _ h=>h
theorem A7.trans{H H1 H2:Hp}(a:A7 H H1)(b:A7 H1 H2):A7 H H2:=fun c o h=>b c o (a c o h)
theorem A7.seq{K:PySem.W.Frag}{H H':Hp}{a:Addr}{xs:List V}(e:A7 H H')(h:SqL K H a xs):SqL K H' a xs:=by
 rcases h with (h | ⟨o,h⟩) | h
 · exact .inl (.inl (e _ _ h))
 · exact .inl (.inr ⟨o,e _ _ h⟩)
 · exact .inr h
end L2
namespace L2
section
variable {κ:Type} [DecidableEq κ]
def B9(kvs:List (κ×V))(k:κ):Option V:=(kvs.find? fun kv=>decide (kv.1=k)).map (·.2)
def Cd(kvs:List (κ×V))(k:κ)(v:V):List (κ×V):=
 if (kvs.any fun kv=>decide (kv.1=k))=true then kvs.map (fun kv=>if kv.1=k then (kv.1,v) else kv) else kvs++[(k,v)]
def Bj(kvs:List (κ×V))(k:κ):List (κ×V):=kvs.filter fun kv=>decide (kv.1≠k)
theorem Bw{p:κ×V}{r:List (κ×V)}{k:κ}(e:p.1=k):B9 (p::r) k=some p.2:=by simp [B9,RI,e]
theorem Bn{p:κ×V}{r:List (κ×V)}{k:κ}(e:¬p.1=k):B9 (p::r) k=B9 r k:=by simp [B9,RI,e]
theorem Dk(k:κ):∀kvs:List (κ×V),(kvs.any fun kv=>decide (kv.1=k))=(B9 kvs k).isSome
 | []=>rfl
 | p::r=>by
  rw [J2]
  by_cases e:p.1=k
  · simp only [Bw e,Fx e,Bool.true_or,Option.isSome_some]
  · rw [Bn e,Fz e,Bool.false_or];exact Dk k r
theorem Td(k j:κ)(y:V):∀kvs:List (κ×V),B9 (kvs.map fun kv=>if kv.1=k then (kv.1,y) else kv) j=(B9 kvs j).map fun x=>if j=k then y else x
 | []=>rfl
 | p::r=>by
  have ih:=Td k j y r;rw [List.map_cons]
  by_cases h:p.1=k
  · rw [if_pos h]
    by_cases e:p.1=j
    · rw [Bw (p:=(p.1,y)) e,Bw e,Option.map_some,if_pos (e.symm.trans h)]
    · rw [Bn (p:=(p.1,y)) e,Bn e,ih]
  · rw [if_neg h]
    by_cases e:p.1=j
    · rw [Bw (p:=p) e,Bw e,Option.map_some,if_neg (fun z=>h (e.trans z))]
    · rw [Bn (p:=p) e,Bn e,ih]
theorem Pw(k j:κ)(y:V):∀kvs:List (κ×V),B9 kvs k=none→B9 (kvs++[(k,y)]) j=if j=k then some y else B9 kvs j
 | [],_=>by
  by_cases e:k=j
  · rw [if_pos e.symm];exact Bw (p:=(k,y)) e
  · rw [if_neg (fun z=>e z.symm)];exact Bn (p:=(k,y)) e
 | p::r,hn=>by
  rw [List.cons_append]
  have hk:¬p.1=k:=fun z=>by rw [Bw z]at hn;cases hn
  rw [Bn hk]at hn;have ih:=Pw k j y r hn
  by_cases e:p.1=j
  · rw [Bw e,Bw e,if_neg (fun z=>hk (e.trans z))]
  · rw [Bn e,Bn e,ih]
theorem Ij(kvs:List (κ×V))(k j:κ)(y:V):B9 (Cd kvs k y) j=if j=k then some y else B9 kvs j:=by
 unfold Cd
 by_cases a:(kvs.any fun kv=>decide (kv.1=k))=true
 · rw [if_pos a,Td]
   rw [Dk]at a
   by_cases e:j=k
   · obtain ⟨x,hx⟩:=RG.mp a
     rw [if_pos e,e,hx,Option.map_some,if_pos rfl]
   · rw [if_neg e]
     cases B9 kvs j with
     | none=>rfl
     | some x=>rw [Option.map_some,if_neg e]
 · rw [if_neg a]
   refine Pw k j y kvs ?_;rw [Dk]at a
   cases q:B9 kvs k with
   | none=>rfl
   | some x=>rw [q]at a;exact (a rfl).elim
theorem Cu(kvs:List (κ×V))(k:κ)(v:V):(Cd kvs k v).length≤kvs.length+1:=by
 unfold Cd;split
 · rw [Fa];omega
 · rw [Fu,List.length_cons,List.length_nil];omega
theorem Lh{kvs:List (κ×V)}{k:κ}(v:V)(h:B9 kvs k=none):Cd kvs k v=kvs++[(k,v)]:=by
 unfold Cd;rw [Dk,h];exact if_neg (by decide)
theorem G1.isSome_eq{o:Option V}{u:Option Value}(r:G1 o u):o.isSome=u.isSome:=by
 cases o with
 | none=>cases u with
  | none=>rfl
  | some _=>exact (show False from r).elim
 | some _=>cases u with
  | none=>exact (show False from r).elim
  | some _=>rfl
theorem G1.getD{o:Option V}{u:Option Value}{d:V}{d':Value}(r:G1 o u)(rd:Ax d d'):Ax (o.getD d) (u.getD d'):=by
 cases o with
 | none=>cases u with
  | none=>exact rd
  | some _=>exact (show False from r).elim
 | some _=>cases u with
  | none=>exact (show False from r).elim
  | some _=>exact r
theorem KV.val{kvs:List (κ×V)}{vs:List (κ×Value)}(r:KV kvs vs)(k:κ):G1 (B9 kvs k) (valueAt vs k):=by
 unfold KV at r
 induction r with
 | nil=>exact True.intro
 | @cons p q ps qs h t ih=>
  obtain ⟨h1,h2⟩:=h
  by_cases e:p.1=k
  · have e':q.1=k:=h1.symm.trans e
    have b:valueAt (q::qs) k=some q.2:=by simp [valueAt,RI,e']
    rw [Bw e,b];exact h2
  · have e':¬q.1=k:=fun z=>e (h1.trans z)
    have b:valueAt (q::qs) k=valueAt qs k:=by simp [valueAt,RI,e']
    rw [Bn e,b];exact ih
theorem KV.any{kvs:List (κ×V)}{vs:List (κ×Value)}(r:KV kvs vs)(k:κ):(kvs.any fun kv=>decide (kv.1=k))=vs.any fun kv=>decide (kv.1=k):=by
 unfold KV at r
 induction r with
 | nil=>rfl
 | cons h t ih=>rw [J2,J2,ih,h.1]
theorem KV.repl{kvs:List (κ×V)}{vs:List (κ×Value)}(r:KV kvs vs)(k:κ){y:V}{u:Value}(ry:Ax y u):
 KV (kvs.map fun kv=>if kv.1=k then (kv.1,y) else kv) (vs.map fun kv=>if kv.1=k then (kv.1,u) else kv):=by
 unfold KV at r ⊢
 induction r with
 | nil=>exact .nil
 | @cons p q ps qs h t ih=>
  rw [List.map_cons,List.map_cons];refine .cons ?_ ih;obtain ⟨h1,h2⟩:=h
  by_cases e:p.1=k
  · rw [if_pos e,if_pos (h1.symm.trans e)];exact ⟨h1,ry⟩
  · rw [if_neg e,if_neg (fun z=>e (h1.trans z))];exact ⟨h1,h2⟩
theorem KV.put{kvs:List (κ×V)}{vs:List (κ×Value)}(r:KV kvs vs)(k:κ){y:V}{u:Value}(ry:Ax y u):KV (Cd kvs k y) (stored vs k u):=by
 unfold Cd stored;rw [r.any k]
 by_cases e:(vs.any fun kv=>decide (kv.1=k))=true
 · rw [if_pos e,if_pos e];exact r.repl k ry
 · rw [if_neg e,if_neg e];exact Paired.snoc r ⟨rfl,ry⟩
theorem KV.drop{kvs:List (κ×V)}{vs:List (κ×Value)}(r:KV kvs vs)(k:κ):KV (Bj kvs k) (without vs k):=by
 unfold KV at r ⊢;unfold Bj without
 induction r with
 | nil=>exact .nil
 | @cons p q ps qs h t ih=>
  obtain ⟨h1,h2⟩:=h;rw [J1,J1]
  by_cases e:p.1=k
  · have a:¬decide (p.1≠k)=true:=by simp [e]
    have b:¬decide (q.1≠k)=true:=by simp [h1.symm.trans e]
    rw [if_neg a,if_neg b];exact ih
  · have e':¬q.1=k:=fun z=>e (h1.trans z)
    have a:decide (p.1≠k)=true:=by simp [e]
    have b:decide (q.1≠k)=true:=by simp [e']
    rw [if_pos a,if_pos b];exact .cons ⟨h1,h2⟩ ih
theorem KV.length{kvs:List (κ×V)}{vs:List (κ×Value)}(r:KV kvs vs):kvs.length=vs.length:=Paired.length r
theorem Te(kvs:List (κ×V))(k:κ):(Bj kvs k).length≤kvs.length:=R9 _ _
end
theorem N7{P:Program}{w:World}{k:Key}{u:Value}(r:Ax (kV k) u):(B7 P w).is k u=true:=by
 cases k with
 | inl i=>obtain ⟨t,e⟩:=(show ∃t,u=Value.int i t from r);subst e;exact T4 P w i t
 | inr x=>obtain ⟨t,e⟩:=(show ∃t,u=Value.str x t from r);subst e;exact T5 P w x t
theorem Px{P:Program}{w:World}:∀{ks:List Key} {us:List Value},Au (ks.map kV) us→ItemsAre (B7 P w) ks us
 | [],_,r=>by rw [List.map_nil]at r;cases r;exact .nil
 | k::ks,_,r=>by
  rw [List.map_cons]at r
  cases r with
  | cons h t=>exact .cons (N7 h) (Px t)
abbrev KT(H:Hp):List (List Key×V)→List (List Key×Addr×Value)→Prop:=Paired fun p q=>p.1=q.1∧H q.2.1=some (.tup (p.1.map kV))∧Ax p.2 q.2.2
theorem KT.val{H:Hp}{kvs:List (List Key×V)}{xs:List (List Key×Addr×Value)}(r:KT H kvs xs)(k:List Key):G1 (B9 kvs k) ((atKey xs k).map (·.2)):=by
 induction r with
 | nil=>exact True.intro
 | @cons p q ps qs h t ih=>
  obtain ⟨h1,_,h2⟩:=h
  by_cases e:p.1=k
  · have e':q.1=k:=h1.symm.trans e
    have b:atKey (q::qs) k=some q.2:=by simp [atKey,RI,e']
    rw [Bw e,b];exact h2
  · have e':¬q.1=k:=fun z=>e (h1.trans z)
    have b:atKey (q::qs) k=atKey qs k:=by simp [atKey,RI,e']
    rw [Bn e,b];exact ih
theorem KT.repl{H:Hp}{kvs:List (List Key×V)}{xs:List (List Key×Addr×Value)}(r:KT H kvs xs)(k:List Key){y:V}{u:Value}(ry:Ax y u):
 KT H (kvs.map fun kv=>if kv.1=k then (kv.1,y) else kv) (xs.map (putAt k u)):=by
 induction r with
 | nil=>exact .nil
 | @cons p q ps qs h t ih=>
  rw [List.map_cons,List.map_cons];refine .cons ?_ ih;obtain ⟨h1,h2,h3⟩:=h;unfold putAt
  by_cases e:p.1=k
  · rw [if_pos e,if_pos (h1.symm.trans e)];exact ⟨h1,h2,ry⟩
  · rw [if_neg e,if_neg (fun z=>e (h1.trans z))];exact ⟨h1,h2,h3⟩
theorem KT.put{H:Hp}{kvs:List (List Key×V)}{xs:List (List Key×Addr×Value)}(r:KT H kvs xs)(k:List Key){b:Addr}{y:V}{u:Value}(hb:H b=some (.tup (k.map kV)))(ry:Ax y u):
 KT H (Cd kvs k y) (storedH xs k b u):=by
 have e:(kvs.any fun kv=>decide (kv.1=k))=(atKey xs k).isSome:=by
  rw [Dk,(r.val k).isSome_eq,JR]
 unfold Cd storedH;rw [e]
 by_cases q:(atKey xs k).isSome=true
 · rw [if_pos q,if_pos q];exact r.repl k ry
 · rw [if_neg q,if_neg q];exact Paired.snoc r ⟨rfl,hb,ry⟩
theorem KT.keeps{H H':Hp}{kvs:List (List Key×V)}{xs:List (List Key×Addr×Value)}(r:KT H kvs xs)(ht:∀b ys,H b=some (.tup ys)→H' b=some (.tup ys)):KT H' kvs xs:=
 Paired.mapP r fun _ _ z=>⟨z.1,ht _ _ z.2.1,z.2.2⟩
section
variable {P:Program} {w:World} {H:Hp} {h:Heap} {a:Addr}
theorem J8x{u:HO}(ok:HOk P w H h)(e:Rd H a u):Bi P w H h a u:=e.ok ok
theorem Li{kvs:List (Key×V)}(ok:HOk P w H h)(e:Rd H a (.dK kvs)):kvs.length≤sizeLine∧(a==sysModules)=false∧∃vs,KV kvs vs∧h.DictOf (B7 P w) a vs:=
 show Bi P w H h a (.dK kvs) from J8x ok e
theorem J8y{kvs:List (Key×V)}(ok:HOk P w H h)(e:H a=some (.dK kvs)):kvs.length≤sizeLine∧(a==sysModules)=false∧∃vs,KV kvs vs∧h.DictOf (B7 P w) a vs:=Li ok (.inl e)
theorem L4{ks:List Key}(ok:HOk P w H h)(e:H a=some (.tup (ks.map kV))):(tupleKind (B7 P w)).is h ks a:=by
 obtain ⟨_,its,r,o,h1,h2,n,h3⟩:=(show Bi P w H h a (.tup (ks.map kV)) from ok a _ e)
 exact ⟨o,its.toArray,n,h1,h2,h3,by simpa using Px r⟩
theorem N9{kvs:List (List Key×V)}(ok:HOk P w H h)(e:Rd H a (.dT kvs)):kvs.length≤sizeLine∧(a==sysModules)=false∧
 ∃xs,KT H kvs xs∧h.DictOfH (tupleKind (B7 P w)) a xs:=by
 obtain ⟨z,y,xs,r,o,es,ep,h1,h2,h3,h4,h5⟩:=(show Bi P w H h a (.dT kvs) from J8x ok e)
 refine ⟨z,y,xs,r,o,es,ep,h1,h2,h3,h4,fun x hx=>?_,h5⟩
 have all:∀{l:List (List Key×V)} {m:List (List Key×Addr×Value)},KT H l m→∀x∈m,(tupleKind (B7 P w)).is h x.1 x.2.1:=by
  intro l m q
  induction q with
  | nil=>intro x hx;exact nomatch hx
  | @cons p q ps qs hq t ih=>
   intro x hx;rcases Fy.mp hx with e | hx
   · subst e
     exact L4 ok (by rw [← hq.1];exact hq.2.1)
   · exact ih x hx
 exact all r x hx
theorem Jc7{kvs:List (List Key×V)}(ok:HOk P w H h)(e:H a=some (.dT kvs)):kvs.length≤sizeLine∧(a==sysModules)=false∧
 ∃xs,KT H kvs xs∧h.DictOfH (tupleKind (B7 P w)) a xs:=N9 ok (.inl e)
end
def D0(H:Hp)(a:Addr)(y:V)(r:Option V):Prop:=
 (∃kvs k,Rd H a (.dK kvs)∧y=kV k∧r=B9 kvs k)∨∃kvs k b,Rd H a (.dT kvs)∧y= .ref b∧H b=some (.tup (k.map kV))∧r=B9 kvs k
def Oa(H:Hp)(a:Addr)(y v:V)(H':Hp):Prop:=
 (∃kvs k,H a=some (.dK kvs)∧y=kV k∧kvs.length < sizeLine∧H'=upd H a (.dK (Cd kvs k v)))∨
 ∃kvs k b,H a=some (.dT kvs)∧y= .ref b∧H b=some (.tup (k.map kV))∧kvs.length < sizeLine∧H'=upd H a (.dT (Cd kvs k v))
theorem D0.k{H:Hp}{a:Addr}{kvs:List (Key×V)}{k:Key}(e:H a=some (.dK kvs)):D0 H a (kV k) (B9 kvs k):= .inl ⟨kvs,k,.inl e,rfl,rfl⟩
theorem Oa.k{H:Hp}{a:Addr}{kvs:List (Key×V)}{k:Key}{v:V}(e:H a=some (.dK kvs))(hl:kvs.length < sizeLine):Oa H a (kV k) v (upd H a (.dK (Cd kvs k v))):= .inl ⟨kvs,k,e,rfl,hl,rfl⟩
section
variable {X:Cx} {pins:List (Addr×Obj)} {σ:St} {H:Hp} {s:Shared} {a:Addr} {y v:V} {u r:Value} {o:Option V} {A:Around} {E:Value→Shared→Prop}
theorem Inv.big(I:Inv X pins σ H s):sysModules < s.heap.objs.size:=by
 have h:mainGlobals < s.heap.objs.size:=(I.mod.glob.keeps I.bk).lt;exact RU (by decide) h
theorem J0n{Q:Value→Shared→Prop}(hu:A.units+1 < cLine)(I:Inv X pins σ H s)(g:D0 H a y (some v))(ry:Ax y u)(h:∀w' s',Inv X pins σ H s'→Ax v w'→Q w' s'):
 wpAny (model X.prog X.w) A (getItem (.ref a) u) Q E s:=by
 rcases g with ⟨kvs,k,e,ey,l⟩ | ⟨kvs,k,b,e,ey,eb,l⟩
 · subst ey
   obtain ⟨z,hd,vs,rel,dd⟩:=Li I.hok e;obtain ⟨w',hw,rw'⟩:=G1.some_of (v:=v) (o:=valueAt vs k) (by rw [l];exact rel.val k);exact wpAny_getItem_of (N7 ry) dd.mapOf hw (h w' _ (I.tok _) rw')
 · subst ey
   cases (show u=Value.ref b from ry);obtain ⟨z,hd,xs,rel,dd⟩:=N9 I.hok e;obtain ⟨w',hw,rw'⟩:=G1.some_of (v:=v) (o:=(atKey xs k).map (·.2)) (by rw [l];exact rel.val k);obtain ⟨p,hp,hp2⟩:=Option.map_eq_some_iff.mp hw;refine wpAny_getItem_heap (Rm hu) (L4 I.hok eb) dd hp ?_;rw [hp2];exact h w' _ (I.tok _) rw'
theorem Jd6{Q:Value→Shared→Prop}(hu:A.units+1 < cLine)(I:Inv X pins σ H s)(g:D0 H a y o)(ry:Ax y u)(h:∀s',Inv X pins σ H s'→Q (.bool o.isSome) s'):
 wpAny (model X.prog X.w) A (compareOp .In u (.ref a)) Q E s:=by
 rcases g with ⟨kvs,k,e,ey,l⟩ | ⟨kvs,k,b,e,ey,eb,l⟩
 · subst ey
   obtain ⟨z,hd,vs,rel,dd⟩:=Li I.hok e;refine wpAny_in_of (N7 ry) hd dd.mapOf ?_;rw [← (rel.val k).isSome_eq,← l];exact h _ (I.tok _)
 · subst ey
   cases (show u=Value.ref b from ry);obtain ⟨z,hd,xs,rel,dd⟩:=N9 I.hok e;refine wpAny_in_heap (Rm hu) (L4 I.hok eb) hd dd ?_;have q:=(rel.val k).isSome_eq;rw [JR]at q;rw [← q,← l];exact h _ (I.tok _)
theorem J6i{Q:Value→Shared→Prop}(hu:A.units+1 < cLine)(I:Inv X pins σ H s)(g:D0 H a y o)(ry:Ax y u)(h:∀s',Inv X pins σ H s'→Q (.bool (!o.isSome)) s'):
 wpAny (model X.prog X.w) A (compareOp .NotIn u (.ref a)) Q E s:=by
 rcases g with ⟨kvs,k,e,ey,l⟩ | ⟨kvs,k,b,e,ey,eb,l⟩
 · subst ey
   obtain ⟨z,hd,vs,rel,dd⟩:=Li I.hok e;refine wpAny_notIn_of (N7 ry) hd dd.mapOf ?_;rw [← (rel.val k).isSome_eq,← l];exact h _ (I.tok _)
 · subst ey
   cases (show u=Value.ref b from ry);obtain ⟨z,hd,xs,rel,dd⟩:=N9 I.hok e;refine wpAny_notIn_heap (Rm hu) (L4 I.hok eb) hd dd ?_;have q:=(rel.val k).isSome_eq;rw [JR]at q;rw [← q,← l];exact h _ (I.tok _)
theorem Qt{h':Heap}{t':Nat}{ob:HO}(I:Inv X pins σ H s)(mu:Mut (H a))(hs:Heap.SameBut a s.heap h')(he:∃q,h'.get? a=some q)(new:Bi X.prog X.w (upd H a ob) h' a ob):
 Inv X pins σ (upd H a ob) {s with heap:=h',toks:=t'}:=
 I.write (x:=a) (e:=a) mu (.inl rfl) (fun b q hb z=>(hs.2 b hb).trans z) he new
theorem J2n{P:Program}{w:World}{H':Hp}{h':Heap}{kvs:List (Key×V)}{vs:List (Key×Value)}(z:kvs.length≤sizeLine)(hd:(a==sysModules)=false)(rel:KV kvs vs)(dd:h'.DictOf (B7 P w) a vs):
 Bi P w H' h' a (.dK kvs):=⟨z,hd,vs,rel,dd⟩
theorem J0o{H':Hp}{Q:Unit→Shared→Prop}(hu:A.units+1 < cLine)(I:Inv X pins σ H s)(g:Oa H a y v H')(ry:Ax y u)(rv:Ax v r)(h:∀s',Inv X pins σ H' s'→Q () s'):
 wpAny (model X.prog X.w) A (setItem (.ref a) u r) Q E s:=by
 rcases g with ⟨kvs,k,e,ey,l,eH⟩ | ⟨kvs,k,b,e,ey,eb,l,eH⟩
 · subst ey eH
   obtain ⟨z,hd,vs,rel,dd⟩:=J8y I.hok e
   have hz:vs.length≤sizeLine:=by rw [← rel.length];exact z
   have hl:(Cd kvs k v).length≤sizeLine:=by have:=Cu kvs k v;omega
   refine wpAny_setItem_pairs (hsz:=hz) (N7 ry) dd fun h' dd' hs=>h _ ?_;have he:∃q,h'.get? a=some q:=let ⟨q,_,_,hq,_⟩:=dd';⟨q,hq⟩;exact Qt I (by rw [e];exact True.intro) hs he (J2n hl hd (rel.put k rv) dd')
 · subst ey eH
   cases (show u=Value.ref b from ry);obtain ⟨z,hd,xs,rel,dd⟩:=Jc7 I.hok e
   have hz:xs.length≤sizeLine:=by rw [← Paired.length rel];exact z
   have hl:(Cd kvs k v).length≤sizeLine:=by have:=Cu kvs k v;omega
   refine wpAny_setItem_heap (hsz:=hz) (Rm hu) (L4 I.hok eb) dd fun h' dd' hs=>h _ ?_;obtain ⟨q,es,ep,hq,h2,h3,h4,_,h5⟩:=dd';refine Qt I (by rw [e];exact True.intro) hs ⟨q,hq⟩ ⟨hl,hd,_,(rel.put k eb rv).keeps fun c ys ec=>?_,q,es,ep,hq,h2,h3,h4,h5⟩;rw [A2 (Az ec e (fun z=>nomatch z))];exact ec
end
section
variable {X:Cx} {pins:List (Addr×Obj)} {σ:St} {H:Hp} {s:Shared} {a:Addr} {kvs:List (Key×V)} {k:Key} {u:Value} {A:Around} {E:Value→Shared→Prop}
theorem Jc8{v:V}{more:List Value}{Q:Value→Shared→Prop}(I:Inv X pins σ H s)(e:H a=some (.dK kvs))(ry:Ax (kV k) u)(l:B9 kvs k=some v)(hm:more=[]∨∃x,more=[x])
 (h:∀w' s',Inv X pins σ (upd H a (.dK (Bj kvs k))) s'→Ax v w'→Q w' s'):wpAny (model X.prog X.w) A (call (.builtin "dict.pop") (.ref a::u::more)) Q E s:=by
 obtain ⟨z,hd,vs,rel,dd⟩:=J8y I.hok e;obtain ⟨w',hw,rw'⟩:=G1.some_of (v:=v) (o:=valueAt vs k) (by rw [← l];exact rel.val k)
 have hp:(keyPart u).isSome=true:=by
  cases k with
  | inl i=>obtain ⟨t,q⟩:=(show ∃t,u=Value.int i t from ry);subst q;rfl
  | inr x=>obtain ⟨t,q⟩:=(show ∃t,u=Value.str x t from ry);subst q;rfl
 have ha:argsOk "dict.pop" ⟨.ref a::u::more,[]⟩:=by
  rcases hm with q | ⟨x,q⟩
  · subst q;exact PySem.F.args_dict_pop_2 _ _
  · subst q;exact PySem.F.args_dict_pop_3 _ _ _
 refine J5 PySem.F.slot_dict_pop dd.typeIs PySem.F.entry_dict_pop ha (meets_dict_pop_there (B7 X.prog X.w) a (N7 ry) more hm hp)
  ⟨vs,w',dd,by rw [← rel.length];exact z,hw,fun h' dd' hs=>h w' _ ?_ rw'⟩
 have he:∃q,h'.get? a=some q:=let ⟨q,_,_,hq,_⟩:=dd';⟨q,hq⟩;exact Qt I (by rw [e];exact True.intro) hs he (J2n (FC (Te kvs k) z) hd (rel.drop k) dd')
theorem Jc9{Q:Value→Shared→Prop}(I:Inv X pins σ H s)(e:Rd H a (.dK kvs))(h:∀t s',Inv X pins σ H s'→Q (.int kvs.length t) s'):wpAny (model X.prog X.w) A (call (.builtin "len") [.ref a]) Q E s:=by
 obtain ⟨z,hd,vs,rel,dd⟩:=Li I.hok e;refine call_len_dict hd dd (by rw [← rel.length];rw [Jd]at z;omega) ?_;rw [← rel.length];exact h _ _ (I.tok _)
end
def Jca(i:Expr):Prop:=∀ov iv,subscripted i false ov iv=operate [ov,iv] (getItem ov iv)
theorem J6j{prog:Program}{w:World}{A:Around}{E:Value→Shared→Prop}{s:Shared}{env:Env}{value slice:Expr}{pos:Pos}{T id:String}{Q:Value→Shared→Prop}
 (hl:typeLookup (.type T) "__getitem__"=pure (some (.builtin id))) (hs:Jca slice)
 (h:wpAny (model prog w) A (eval value env) (fun o s₁=>wpAny (model prog w) A (eval slice env) (fun i s₂=>s₂.TypeIs o T∧wpAny (model prog w) A (getItem o i) Q E s₂) E s₁) E s):
 wpAny (model prog w) A (eval (.Subscript value slice pos) env) Q E s:=by
 refine Subscript_ (Hs h (fun o s₁ h₁=>Hs h₁ (fun i s₂ h₂=>?_) fun _ _ x=>x) fun _ _ x=>x);obtain ⟨hT,h₂⟩:=h₂;unfold subscriptTail;refine Fd ?_;rw [getitemInPython_of_ne hT.not_modules];refine Fd (wpAny_specialOf hT hl ?_)
 have fin:wpAny (model prog w) A (subscripted slice false o i) (fun r s₃=>wpAny (model prog w) A (letTemporaryGo value o r >>=fun _=>pure r) Q E s₃) E s₂:=by
  rw [hs o i];exact wpAny_operating (Hs h₂ (fun r s₃ h₃=>Fd (wpAny_letTemporaryGo (Fi h₃))) fun _ _ x=>x)
 first
  | exact Fi (Fd fin)
  | exact Fd (Fi (Fd fin))
  | exact Fd fin
theorem Tf{X:Cx}{pins:List (Addr×Obj)}{σ:St}{H:Hp}{s:Shared}{a:Addr}{y:V}{o:Option V}(I:Inv X pins σ H s)(g:D0 H a y o):s.TypeIs (.ref a) "dict":=by
 rcases g with ⟨kvs,k,e,_,_⟩ | ⟨kvs,k,b,e,_,_,_⟩
 · obtain ⟨_,_,vs,_,dd⟩:=Li I.hok e
   exact dd.typeIs
 · obtain ⟨_,_,xs,_,dd⟩:=N9 I.hok e
   exact dd.typeIs
def J8z(td ty:TE):TE:=fun σ H Q=>td σ H fun x H1=>ty σ H1 fun y H2=>∃a v,x= .ref a∧D0 H2 a y (some v)∧Q v H2
def Jcb(ty td:TE):TE:=fun σ H Q=>ty σ H fun y H1=>td σ H1 fun x H2=>∃a o,x= .ref a∧D0 H2 a y o∧Q (.bl o.isSome) H2
def Xc(ty td:TE):TE:=fun σ H Q=>ty σ H fun y H1=>td σ H1 fun x H2=>∃a o,x= .ref a∧D0 H2 a y o∧Q (.bl (!o.isSome)) H2
def J90(td ty tv:TE):TS:=fun D σ H=>tv σ H fun v H1=>td σ H1 fun x H2=>ty σ H2 fun y H3=>∃a H4,x= .ref a∧Oa H3 a y v H4∧D.nx σ H4
section
variable {X:Cx} {o i e value:Expr} {pos pos' tpos:Pos} {td ty tv:TE}
theorem Nm(hu:X.A.units+1 < cLine)(ho:PE X o td)(hi:PE X i ty)(hs:Jca i):PE X (.Subscript o i pos) (J8z td ty):=by
 intro pins s σ H Q I h;refine J6j PySem.F.slot_dict_getitem.lookup hs (thn (ho pins s σ H _ I h) fun u s1 ⟨x,H1,I1,rx,q1⟩=>thn (hi pins s1 σ H1 _ I1 q1) fun iv s2 hq_=>?_);obtain ⟨y,H2,I2,ry,a,v,ex,g,q2⟩:=hq_;subst ex;obtain rfl:u=Value.ref a:=rx;exact ⟨Tf I2 g,J0n hu I2 g ry fun w' s3 I3 rw'=>⟨v,H2,I3,rw',q2⟩⟩
theorem Qu(hu:X.A.units+1 < cLine)(hi:PE X i ty)(ho:PE X o td):PC X .In i o (Jcb ty td):=by
 intro pins s σ H Q I h;refine thn (hi pins s σ H _ I h) fun iv s1 ⟨y,H1,I1,ry,q1⟩=>thn (ho pins s1 σ H1 _ I1 q1) fun u s2 hq_=>?_;obtain ⟨x,H2,I2,rx,a,ov,ex,g,q2⟩:=hq_;subst ex;obtain rfl:u=Value.ref a:=rx
 exact Jd6 hu I2 g ry fun s3 I3=>⟨.bl ov.isSome,H2,I3,rfl,q2⟩
theorem J0p(hu:X.A.units+1 < cLine)(hi:PE X i ty)(ho:PE X o td):PC X .NotIn i o (Xc ty td):=by
 intro pins s σ H Q I h;refine thn (hi pins s σ H _ I h) fun iv s1 ⟨y,H1,I1,ry,q1⟩=>thn (ho pins s1 σ H1 _ I1 q1) fun u s2 hq_=>?_;obtain ⟨x,H2,I2,rx,a,ov,ex,g,q2⟩:=hq_;subst ex;obtain rfl:u=Value.ref a:=rx
 exact J6i hu I2 g ry fun s3 I3=>⟨.bl (!ov.isSome),H2,I3,rfl,q2⟩
theorem K7(hu:X.A.units+1 < cLine)(ho:PE X o td)(hi:PE X i ty)(hv:PE X value tv)(hs:swapsWith value (some (.Subscript o i pos')) pos.line X.env=pure false):
 PS X (.Assign [.Subscript o i pos'] value pos) (J90 td ty tv):=by
 intro pins s σ H D I h;refine wpAny_Assign_Subscript (thn (hv pins s σ H _ I h) fun r s1 ⟨v,H1,I1,rv,q1⟩=>thn (ho pins s1 σ H1 _ I1 q1) fun u s2 ⟨x,H2,I2,rx,q2⟩=>thn (hi pins s2 σ H2 _ I2 q2) fun iv s3 hq_=>?_) hs;obtain ⟨y,H3,I3,ry,a,H4,ex,g,q3⟩:=hq_;subst ex;obtain rfl:u=Value.ref a:=rx
 exact J0o hu I3 g ry rv fun s4 I4=>⟨σ,H4,I4,q3⟩
end
theorem J2o{P:Program}{w:World}{H:Hp}(h:Heap)(hb:sysModules < h.objs.size):Bi P w H (h.push {cls:= .type "dict",data:= .dict #[]}) h.objs.size (.dK []):=
 ⟨FB _,HG.mpr (Ne.symm (Fs hb)),[],.nil,Heap.DictOf.new h⟩
def J2p:TE:=fun _ H Q=>∀p,H p=none→Q (.ref p) (upd H p (.dK []))
section
variable {X:Cx} {pos:Pos}
theorem E7:PE X (.Dict [] [] pos) J2p:=fun pins s σ H Q I h=>
 wpAny_Dict_empty ⟨.ref s.heap.objs.size,_,I.laid (a:=s.heap.objs.size) (o:= .dK []) (t':=s.toks) (fun _ _ q=>Ff _ q) (Fh _) (J2o s.heap I.big),rfl,h _ (I.hok.fresh (Fh _))⟩
end
structure M1(X:Cx)(o:Expr)(m:Str)(apos:Pos)(e:Expr)(cpos:Pos):Prop where
 base:attributeBase o m X.env (eval o X.env)=eval o X.env
 few:((backTo cpos (starEach [e] X.env)).all (fun x=>!x.1) && (backToKw cpos (keywordEach [] X.env)).all (fun x=>x.1.isSome)
  && decide (([e]:List Expr).length+([]:List Keyword).length+(if ([]:List Keyword).isEmpty then 0 else 1) < 30))=true
 line:(apos.endLine==cpos.line)=true
 trees:backTo cpos (starEach [e] X.env)=[(false,eval e X.env)]
structure M2(X:Cx)(o:Expr)(m:Str)(apos:Pos)(e f:Expr)(cpos:Pos):Prop where
 base:attributeBase o m X.env (eval o X.env)=eval o X.env
 few:((backTo cpos (starEach [e,f] X.env)).all (fun x=>!x.1) && (backToKw cpos (keywordEach [] X.env)).all (fun x=>x.1.isSome)
  && decide (([e,f]:List Expr).length+([]:List Keyword).length+(if ([]:List Keyword).isEmpty then 0 else 1) < 30))=true
 line:(apos.endLine==cpos.line)=true
 trees:backTo cpos (starEach [e,f] X.env)=[(false,eval e X.env),(false,eval f X.env)]
def IsD(H:Hp)(a:Addr):Prop:=(∃kvs,Rd H a (.dK kvs))∨∃kvs,Rd H a (.dT kvs)
theorem Vy{X:Cx}{pins:List (Addr×Obj)}{σ:St}{H:Hp}{s:Shared}{a:Addr}(I:Inv X pins σ H s)(d:IsD H a):
 s.TypeIs (.ref a) "dict"∧(∀b,Value.ref a= .ref b→∃ob,s.heap.get? b=some ob∧ob.dict=none)∧(a==sysModules)=false:=by
 rcases d with ⟨kvs,e⟩ | ⟨kvs,e⟩
 · obtain ⟨_,hd,vs,_,dd⟩:=Li I.hok e
   refine ⟨dd.typeIs,fun b q=>?_,hd⟩;cases q;obtain ⟨ob,_,_,h1,h2,_⟩:=dd;exact ⟨ob,h1,h2.2.1⟩
 · obtain ⟨_,hd,xs,_,dd⟩:=N9 I.hok e
   refine ⟨dd.typeIs,fun b q=>?_,hd⟩;cases q;obtain ⟨ob,_,_,h1,h2,_⟩:=dd;exact ⟨ob,h1,h2.2.1⟩
section
variable {X:Cx} {pins:List (Addr×Obj)} {σ:St} {H:Hp} {s:Shared} {a:Addr} {y d:V} {u r:Value} {o:Option V} {A:Around} {E:Value→Shared→Prop}
theorem Jad{Q:Value→Shared→Prop}(hu:A.units+1 < cLine)(I:Inv X pins σ H s)(g:D0 H a y o)(ry:Ax y u)(h:∀w' s',Inv X pins σ H s'→Ax (o.getD .non) w'→Q w' s'):
 wpAny (model X.prog X.w) A (call (.builtin "dict.get") [.ref a,u]) Q E s:=by
 rcases g with ⟨kvs,k,e,ey,l⟩ | ⟨kvs,k,b,e,ey,eb,l⟩
 · subst ey
   obtain ⟨z,hd,vs,rel,dd⟩:=Li I.hok e;refine J5 R8 dd.typeIs RT (PySem.F.args_dict_get_2 _ _) (meets_dict_get (B7 X.prog X.w) a (N7 ry) hd) ⟨_,dd.mapOf,h _ _ (I.tok _) ?_⟩;rw [l];exact (rel.val k).getD rfl
 · subst ey
   cases (show u=Value.ref b from ry);obtain ⟨z,hd,xs,rel,dd⟩:=N9 I.hok e;refine J5 R8 dd.typeIs RT (PySem.F.args_dict_get_2 _ _) (meetsH_dict_get (tupleKind (B7 X.prog X.w)) a b hd) ⟨Rm hu,k,xs,L4 I.hok eb,dd,h _ _ (I.tok _) ?_⟩;rw [l];exact (rel.val k).getD rfl
theorem Jae{Q:Value→Shared→Prop}(hu:A.units+1 < cLine)(I:Inv X pins σ H s)(g:D0 H a y o)(ry:Ax y u)(rd:Ax d r)(h:∀w' s',Inv X pins σ H s'→Ax (o.getD d) w'→Q w' s'):
 wpAny (model X.prog X.w) A (call (.builtin "dict.get") [.ref a,u,r]) Q E s:=by
 rcases g with ⟨kvs,k,e,ey,l⟩ | ⟨kvs,k,b,e,ey,eb,l⟩
 · subst ey
   obtain ⟨z,hd,vs,rel,dd⟩:=Li I.hok e;refine J5 R8 dd.typeIs RT (PySem.F.args_dict_get_3 _ _ _) (meets_dict_get_default (B7 X.prog X.w) a (N7 ry) hd r) ⟨_,dd.mapOf,h _ _ (I.tok _) ?_⟩;rw [l];exact (rel.val k).getD rd
 · subst ey
   cases (show u=Value.ref b from ry);obtain ⟨z,hd,xs,rel,dd⟩:=N9 I.hok e;refine J5 R8 dd.typeIs RT (PySem.F.args_dict_get_3 _ _ _) (meetsH_dict_get_default (tupleKind (B7 X.prog X.w)) a b hd r) ⟨Rm hu,k,xs,L4 I.hok eb,dd,h _ _ (I.tok _) ?_⟩;rw [l];exact (rel.val k).getD rd
end
def J2q(td ty:TE):TE:=fun σ H Q=>td σ H fun x H1=>∃a,x= .ref a∧IsD H1 a∧ty σ H1 fun y H2=>∃o,D0 H2 a y o∧Q (o.getD .non) H2
def J2r(td ty tx:TE):TE:=fun σ H Q=>td σ H fun x H1=>∃a,x= .ref a∧IsD H1 a∧ty σ H1 fun y H2=>tx σ H2 fun z H3=>∃o,D0 H3 a y o∧Q (o.getD z) H3
def J2s(td ty:TE):TE:=fun σ H Q=>td σ H fun x H1=>∃a,x= .ref a∧IsD H1 a∧ty σ H1 fun y H2=>∃kvs k v,H2 a=some (.dK kvs)∧y=kV k∧B9 kvs k=some v∧Q v (upd H2 a (.dK (Bj kvs k)))
section
variable {X:Cx} {o e f:Expr} {apos cpos:Pos} {td ty tx:TE}
theorem J2t(hu:X.A.units+1 < cLine)(ho:PE X o td)(he:PE X e ty)(m:M1 X o "get" apos e cpos):PE X (.Call (.Attribute o "get" apos) [e] [] cpos) (J2q td ty):=by
 intro pins s σ H Q I h;refine JP m.base m.few m.line RO R8 PySem.F.type_dict_get (thn (ho pins s σ H _ I h) fun u s1 hq_=>?_);obtain ⟨x,H1,I1,rx,a,ex,d,q1⟩:=hq_;subst ex;obtain rfl:u=Value.ref a:=rx;obtain ⟨t1,t2,_⟩:=Vy I1 d;refine ⟨t1,t2,?_⟩;rw [m.trees];refine Calls.callWith_builtin rfl (Calls.evalArgs_plain (Calls.spliced_cons (thn (he pins s1 σ H1 _ I1 q1) fun iv s2 ⟨y,H2,I2,ry,ov,g,q2⟩=>Calls.spliced_nil ?_)))
 exact Jad hu I2 g ry fun w' s3 I3 rw'=>⟨_,H2,I3,rw',q2⟩
theorem Tg(hu:X.A.units+1 < cLine)(ho:PE X o td)(he:PE X e ty)(hf:PE X f tx)(m:M2 X o "get" apos e f cpos):PE X (.Call (.Attribute o "get" apos) [e,f] [] cpos) (J2r td ty tx):=by
 intro pins s σ H Q I h;refine JP m.base m.few m.line RO R8 PySem.F.type_dict_get (thn (ho pins s σ H _ I h) fun u s1 hq_=>?_);obtain ⟨x,H1,I1,rx,a,ex,d,q1⟩:=hq_;subst ex;obtain rfl:u=Value.ref a:=rx;obtain ⟨t1,t2,_⟩:=Vy I1 d;refine ⟨t1,t2,?_⟩;rw [m.trees]
 refine Calls.callWith_builtin rfl (Calls.evalArgs_plain (Calls.spliced_cons (thn (he pins s1 σ H1 _ I1 q1) fun iv s2 ⟨y,H2,I2,ry,q2⟩=>
  Calls.spliced_cons (thn (hf pins s2 σ H2 _ I2 q2) fun fv s3 ⟨z,H3,I3,rz,ov,g,q3⟩=>Calls.spliced_nil ?_))))
 exact Jae hu I3 g ry rz fun w' s4 I4 rw'=>⟨_,H3,I4,rw',q3⟩
theorem Ob(ho:PE X o td)(he:PE X e ty)(m:M1 X o "pop" apos e cpos):PE X (.Call (.Attribute o "pop" apos) [e] [] cpos) (J2s td ty):=by
 intro pins s σ H Q I h;refine JP m.base m.few m.line RO PySem.F.slot_dict_pop PySem.F.type_dict_pop (thn (ho pins s σ H _ I h) fun u s1 hq_=>?_);obtain ⟨x,H1,I1,rx,a,ex,d,q1⟩:=hq_;subst ex;obtain rfl:u=Value.ref a:=rx;obtain ⟨t1,t2,_⟩:=Vy I1 d;refine ⟨t1,t2,?_⟩;rw [m.trees];refine Calls.callWith_builtin rfl (Calls.evalArgs_plain (Calls.spliced_cons (thn (he pins s1 σ H1 _ I1 q1) fun iv s2 ⟨y,H2,I2,ry,kvs,k,v,ea,ey,l,q2⟩=>Calls.spliced_nil ?_)));subst ey
 exact Jc8 I2 ea ry l (.inl rfl) fun w' s3 I3 rw'=>⟨v,_,I3,rw',q2⟩
end
end L2
namespace L2
section
variable {X:Cx}
theorem J0q:E4 X (.builtin "len") (fun xs H Q=>∃a kvs,xs=[V.ref a]∧H a=some (.dK kvs)∧Q (.int kvs.length) H):=by
 intro pins s σ H xs us Q I r h;obtain ⟨a,kvs,rfl,ha,q⟩:=h;obtain ⟨u,rfl,ru⟩:=G2 r;cases ru
 exact Jc9 I (.inl ha) fun t s' I'=>⟨.int kvs.length,H,I',⟨t,rfl⟩,q⟩
end
section
variable {κ:Type} [DecidableEq κ]
theorem J2u{kvs:List (κ×V)}{k:κ}(h:B9 kvs k=none):¬k∈kvs.map (·.1):=by
 intro m;obtain ⟨p,hp,e⟩:=FH.mp m;have q:(kvs.any fun kv=>decide (kv.1=k))=true:=List.any_eq_true.mpr ⟨p,hp,Fx e⟩;rw [Dk,h]at q;exact absurd q (by simp)
theorem J6k{kvs:List (κ×V)}{k:κ}{v:V}(h:B9 kvs k=some v):k∈kvs.map (·.1):=by
 have q:(kvs.any fun kv=>decide (kv.1=k))=true:=by
  rw [Dk,h]
  all_goals rfl
 obtain ⟨p,hp,e⟩:=List.any_eq_true.mp q;exact FH.mpr ⟨p,hp,HS e⟩
end
end L2
namespace L2
structure Def(P:Program)(w:World)(K:PySem.W.Frag)(mg:Str→Option Value)(base:Heap)(CX:CXT)(k:Nat)(x:Str)(ps:List Str)(sp:Sp):Prop where
 ex:∃(f:Addr) (fd:FuncData),Ar P w K mg base CX k f fd ps sp∧mg x=some (.ref f)∧PySem.W.keepIn K (.ref f)=true∧Ca K fd ps []
def J2v(sp:Sp)(E:XK)(t:TA):TE:=fun σ H Q=>t σ H fun vs H1=>sp vs H1 Q E
section
variable {X:Cx} {CX:CXT} {k j:Nat} {ps:List Str} {sp:Sp} {E:XK} {x:Str} {p pos:Pos} {e:Expr} {es:List Expr} {t:TA}
theorem Ad(D:Def X.prog X.w X.K X.mg X.base CX j x ps sp)(hr:Bt k X.A)(hg:Gl X x)(hx:Mh CX X E)(ha:PA X (e::es) t)(hj:j≤k:=by decide)
 (hdb:(x==("__debug__":Str))=false:=by decide) (he:starEach (e::es) X.env=(false,eval e X.env)::starEach es X.env:=by rfl) (hpl:(backTo pos (starEach es X.env)).any (·.1)=false:=by rfl):
 PE X (.Call (.Name x p) (e::es) [] pos) (J2v sp E t):=by
 obtain ⟨f,fd,F,hm,hk,hb⟩:=D.ex;intro pins s σ H Q I h;refine J6f (F.mono hj) hr hg hm hk hb .nil hx ha hdb he hpl pins s σ H Q I ?_;show t σ H fun vs H1=>sp (vs++[]) H1 Q E
 have z:(fun (vs:List V) (H1:Hp)=>sp (vs++[]) H1 Q E)=fun vs H1=>sp vs H1 Q E:=by funext vs H1;rw [FT]
 rw [z];exact h
end
theorem J6l:(10:Nat) ^ 100≤2 ^ 1000:=by decide+kernel
section
variable {X:Cx}
theorem Lj:OpR X (binaryOp .FloorDiv) (rI (fun _ j=>j≠0∧j.natAbs < 10 ^ 100) fun i j=> .int (i.fdiv j)):=opI fun i j _ _ _ _ _ hc q=>by
 refine floordiv_int hc.1 q (.inl (PyProof.noPylong_of_log2 ?_))
 have h0:j.natAbs≠0:=by have:=hc.1;omega
 exact RU ((Nat.log2_lt h0).mpr (Fq hc.2 J6l)) (by decide)
end
def Isi(K:PySem.W.Frag)(H:Hp)(x:V)(n:String)(b:Bool):Prop:=∃t,Mg K H x t∧PySem.W.kitOne K t (.type n)=some b
section
variable {X:Cx}
theorem Cv:E4 X (.builtin "isinstance") (fun xs H Q=>∃x n b,xs=[x,.ty n]∧Isi X.K H x n b∧Q (.bl b) H):=by
 intro pins s σ H xs us Q I r h;obtain ⟨x,n,b,rfl,⟨t,ty,e⟩,q⟩:=h;obtain ⟨u,c,rfl,r1,r2⟩:=Jbv r;cases r2
 exact J0j I r1 ty e fun tk=>⟨.bl b,H,I.tok _,rfl,q⟩
end
section
variable {K:PySem.W.Frag} {H:Hp}
theorem J2w{i:Int}:Isi K H (.int i) "int" true:=⟨_,.int i,rfl⟩
theorem J2x{i:Int}:Isi K H (.int i) "bool" false:=⟨_,.int i,by with_unfolding_all rfl⟩
theorem J2y{i:Bool}:Isi K H (.bl i) "bool" true:=⟨_,.bl i,rfl⟩
theorem J2z{i:Bool}:Isi K H (.bl i) "int" true:=⟨_,.bl i,by with_unfolding_all rfl⟩
theorem Jaf{i:Str}:Isi K H (.str i) "str" true:=⟨_,.str i,rfl⟩
theorem J30{i:Str}:Isi K H (.str i) "int" false:=⟨_,.str i,by with_unfolding_all rfl⟩
theorem J31:Isi K H .non "int" false:=⟨_,.non,by with_unfolding_all rfl⟩
theorem J32{a:Addr}{xs:List V}(e:H a=some (.lst xs)):Isi K H (.ref a) "list" true:=⟨_,.lst e,rfl⟩
theorem Jag{x:V}{n:String}{b:Bool}{R:Bool→Prop}(h:Isi K H x n b)(q:R b):∃b,Isi K H x n b∧R b:=⟨b,h,q⟩
theorem J6m{p:Addr}{xs:List V}{R:List V→Prop}(h:SqL K H p xs)(q:R xs):∃ys,(SqL K H p ys∨SqT K H p ys)∧R ys:=⟨xs,.inl h,q⟩
theorem J6n{p:Addr}{xs:List V}{R:List V→Prop}(h:SqT K H p xs)(q:R xs):∃ys,(SqL K H p ys∨SqT K H p ys)∧R ys:=⟨xs,.inr h,q⟩
theorem Ik{p:Addr}{xs:List V}{i:Int}{v:V}{Q:VK}(h:SqT K H p xs)(e:atI xs i=some v)(q:Q v H):Jc3 K (.ref p) (.int i) H Q:=⟨p,xs,i,v,rfl,rfl,h,e,q⟩
theorem Cq{p:Addr}{xs:List V}{i:Int}{v:V}{Q:VK}(h:SqL K H p xs)(e:atI xs i=some v)(q:Q v H):Jc2 K (.ref p) (.int i) H Q:=⟨p,xs,i,v,rfl,rfl,h,e,q⟩
end
theorem Xd{c:TT}{tb:TS}{D:Ib}{σ:St}{H:Hp}{m0:Nat}(Pv:Nat→St→Hp→Prop)(h0:Pv m0 σ H)
 (hs:∀m σ H,Pv m σ H→c σ H fun b H1=>if b=true then ∃N:St→Hp→Prop,(∀σ' H',N σ' H'→∃m',m' < m∧Pv m' σ' H')∧tb {D with nx:=N,ct:=N,bk:=D.nx} σ H1 else D.nx σ H1):J20 c tb D σ H:=⟨Pv,⟨m0,h0⟩,hs⟩
theorem Mm{α:Type}{xs:List α}{i:Int}{v:α}(h0:0≤i)(h:xs[i.toNat]?=some v):atI xs i=some v:=by
 unfold atI ixN;have hl:i.toNat < xs.length:=(Fe.mp h).1;rw [if_pos h0,if_pos (show i < xs.length by omega)];exact h
theorem J33{CX:CXT}{P:Program}{w:World}{K:PySem.W.Frag}{mg:Str→Option Value}{base:Heap}{N:List Str}{qual:Str}{scope:Scope}{f:Addr}{cd:Value}{A:Around}{outer:List Env}{s:Shared}{H:Hp}{E:XK}:
 (T9 CX P w K mg base N qual scope f cd A outer s H E).K=K:=rfl
theorem J34{ns:List Int}{k:Nat}(h:k < ns.length):(ns.map V.int)[k]?=some (V.int (ns.getD k 0)):=by
 rw [Fg,Fc,Fb h];rfl
theorem A7.tup{K:PySem.W.Frag}{H H':Hp}{a:Addr}{xs:List V}(e:A7 H H')(h:SqT K H a xs):SqT K H' a xs:=by
 rcases h with (h | ⟨o,h⟩) | h
 · exact .inl (.inl (e _ _ h))
 · exact .inl (.inr ⟨o,e _ _ h⟩)
 · exact .inr h
theorem A7.new{H:Hp}{p:Addr}{o:HO}(h:H p=none):A7 H (upd H p o):=fun b u e=>by
 rw [A2 (A8 e h)];exact e
section
variable {σ:St} {H:Hp} {Q:VK} {QT:Bool→Hp→Prop} {QA:List V→Hp→Prop} {D:Ib} {K:PySem.W.Frag}
theorem J35{te:TE}{g:TG}:Vm te g D σ H=te σ H fun x H1=>g x σ H1 D.nx:=rfl
theorem J36{i:Nat}:J9w i σ H Q=∃v,σ[i]?=some (some v)∧Q v H:=rfl
theorem Jcc{v:V}:tC v σ H Q=Q v H:=rfl
theorem J91{r:R2}{ta tb:TE}:tOp r ta tb σ H Q=ta σ H fun x H1=>tb σ H1 fun y H2=>r x y H2 Q:=rfl
theorem J92{g:Int→Int→V}{x y:V}:rI0 g x y H Q=∃i j,x= .int i∧y= .int j∧Q (g i j) H:=rfl
theorem Jcd{C:Int→Int→Prop}{g:Int→Int→V}{x y:V}:rI C g x y H Q=∃i j,x= .int i∧y= .int j∧C i j∧Q (g i j) H:=rfl
theorem Jce{g:Int→V}{x:V}:rU g x H Q=∃i,x= .int i∧Q (g i) H:=rfl
theorem Xe{i:Nat}{v:V}{N:St→Hp→Prop}:C7 i v σ H N=N (σ.set i (some v)) H:=rfl
theorem J37{c:TT}{t u:TS}:Jbn c t u D σ H=c σ H fun b H1=>if b=true then t D σ H1 else u D σ H1:=rfl
theorem Xf{t:TE}:J8s t σ H QT=t σ H fun x H'=>∃k,x= .bl k∧QT k H':=rfl
theorem Jcf{t:TE}:tB t σ H QT=t σ H fun x H1=>∃c,x= .bl c∧QT c H1:=rfl
theorem J38{te:TE}:Jbm te D σ H=te σ H D.rt:=rfl
theorem Xg:J1y D σ H=D.nx σ H:=rfl
theorem J93{r:List V→Hp→VK→Prop}{t:TA}:tCB r t σ H Q=t σ H fun vs H1=>r vs H1 Q:=rfl
theorem Xh{ta:TE}{tr:TA}:J8t ta tr σ H QA=ta σ H fun x H1=>tr σ H1 fun xs H2=>QA (x::xs) H2:=rfl
theorem J39:Ja6 σ H QA=QA [] H:=rfl
theorem Xi{sp:Sp}{E:XK}{t:TA}:J2v sp E t σ H Q=t σ H fun vs H1=>sp vs H1 Q E:=rfl
theorem J3a{t:TT}:Jbk t σ H QT=t σ H fun c H1=>QT (!c) H1:=rfl
theorem J94{t u:TT}:tOr t u σ H QT=t σ H fun c H1=>if c=true then QT true H1 else u σ H1 QT:=rfl
theorem J3b{t u:TT}:Jbj t u σ H QT=t σ H fun c H1=>if c=true then u σ H1 QT else QT false H1:=rfl
theorem Xj{ta tb:TE}:J8l ta tb σ H Q=ta σ H fun x H1=>∃c,x= .bl c∧if c=true then tb σ H1 Q else Q (.bl false) H1:=rfl
theorem Xk{ta:TE}:J8m ta σ H Q=ta σ H fun x H1=>∃c,x= .bl c∧Q (.bl (!c)) H1:=rfl
theorem J95{r:V→Hp→VK→Prop}{ta:TE}:tUn r ta σ H Q=ta σ H fun x H1=>r x H1 Q:=rfl
theorem J96{x y:V}:rEq x y H Q=(scal x y=true∧Q (.bl (decide (x=y))) H):=rfl
theorem J97{x y:V}:rNe x y H Q=(scal x y=true∧Q (.bl (!decide (x=y))) H):=rfl
theorem J3c{t:TA}:Jbz t σ H Q=t σ H fun xs H1=>xs.length≤sizeLine∧∀p,H1 p=none→Q (.ref p) (upd H1 p (.tup xs)):=rfl
theorem J3d{t:TA}:Jc0 t σ H Q=t σ H fun xs H1=>xs.length≤sizeLine∧∀p,H1 p=none→Q (.ref p) (upd H1 p (.lst xs)):=rfl
theorem Ti:J1z D σ H=False:=rfl
theorem Xl{te:TE}:J8n te D σ H=te σ H fun _ H1=>D.nx σ H1:=rfl
theorem Tj{t:TG}{u:TGs}{vs:List V}{N:St→Hp→Prop}:Wz t u vs σ H N=∃v r,vs=v::r∧t v σ H fun σ' H'=>u r σ' H' N:=rfl
theorem Xm{vs:List V}{N:St→Hp→Prop}:J9y vs σ H N=(vs=[]∧N σ H):=rfl
theorem Tl{r r':R2}{ta tb tc:TE}:J28 r r' ta tb tc σ H Q=ta σ H fun x H1=>tb σ H1 fun y H2=>r x y H2 fun z H3=>∃k,z= .bl k∧
 (if k=true then tc σ H3 fun w' H4=>r' y w' H4 Q else Q (.bl false) H3):=rfl
theorem Xn{ta:TA}{R:It→Hp→Prop}:J8q ta σ H R=ta σ H fun vs H1=>∃j:Int,vs=[.int j]∧-(2 ^ 62)≤j∧j < 2 ^ 62∧R (Itr 0 j.toNat) H1:=rfl
theorem Tn{tl:TE}{R:It→Hp→Prop}:J8p K tl σ H R=tl σ H fun x H1=>∃a,x= .ref a∧(∃xs,SqL K H1 a xs)∧R (Itl K a) H1:=rfl
def K8(g:TG)(tb:TS)(D:Ib)(σ:St):It→Hp→Prop:=fun J H1=>∃W:Nat→Nat→St→Hp→Prop,(∃m,W 0 m σ H1)∧∀i m σ H,W i m σ H→
 (J.stop i H∧D.nx σ H)∨(J.go i H∧∃N:St→Hp→Prop,(∀σ' H',N σ' H'→∃m',m' < m∧W (i+1) m' σ' H')∧∀x H',J.yld i H x H'→g x σ H' fun σ2 H2=>tb {D with nx:=N,ct:=N,bk:=D.nx} σ2 H2)
theorem Xo{wi:TI}{g:TG}{tb:TS}:Jbq wi g tb D σ H=wi σ H (K8 g tb D σ):=rfl
theorem K9{lo:Int}{n:Nat}{g:TG}{tb:TS}(Pv:Nat→St→Hp→Prop)(h0:Pv 0 σ H)
 (hs:∀i σ H,i < n→Pv i σ H→g (.int (lo+i)) σ H fun σ2 H2=>tb {D with nx:=Pv (i+1),ct:=Pv (i+1),bk:=D.nx} σ2 H2) (hd:∀σ H,Pv n σ H→D.nx σ H):K8 g tb D σ (Itr lo n) H:=J0f Pv h0 hs hd
theorem Gf{a:Addr}{xs:List V}{g:TG}{tb:TS}(Pv:Nat→St→Hp→Prop)(h0:Pv 0 σ H)(hl:∀i σ H,i≤xs.length→Pv i σ H→SqL K H a xs)
 (hs:∀i x σ H,xs[i]?=some x→Pv i σ H→g x σ H fun σ2 H2=>tb {D with nx:=Pv (i+1),ct:=Pv (i+1),bk:=D.nx} σ2 H2) (hd:∀σ H,Pv xs.length σ H→D.nx σ H):K8 g tb D σ (Itl K a) H:=J23 Pv h0 hl hs hd
theorem Jah{t u:TS}(h:∀rest:St→Hp→Prop,rest=u D→t {D with nx:=rest} σ H):Jbl t u D σ H:=h _ rfl
theorem J6o{rest r:St→Hp→Prop}(h:rest=r)(q:r σ H):rest σ H:=by rw [h];exact q
theorem J6p{a:Addr}{ns:List Int}{k:Int}{R:List Int→Prop}(h:SqL K H a (ns.map V.int))(h0:0≤k)(hl:ns.length≤63)(q:R ns):∃x:List Int,SqL K H a (x.map V.int)∧0≤k∧x.length≤63∧R x:=⟨ns,h,h0,hl,q⟩
theorem Xp{i j:Int}(h1:0 < j)(h2:j < 1073741824):Jbs i j:=⟨h1,h2⟩
theorem J6q{i j:Int}(h1:0≤j)(h2:j≤1000000)(h3:i.natAbs < 2 ^ 64):Jbt i j:=⟨h1,h2,h3⟩
theorem J3e{i j:Int}(h1:-(2 ^ 64) < i)(h2:i < 2 ^ 64):J24 i j:= .inl ⟨h1,h2⟩
theorem J3f{i j:Int}(h1:-(2 ^ 64) < j)(h2:j < 2 ^ 64):J24 i j:= .inr ⟨h1,h2⟩
end
end L2
namespace L2
def Ka(CX:CXT)(X:Cx)(EE:St→XK):Prop:=∀(pins:List (Addr×Obj)) (σ:St) (H:Hp) (s:Shared) (e:Value) (s':Shared),Inv X pins σ H s→CX X.stack H s (EE σ) e s'→X.xe e s'
abbrev TH:=Value→Addr→TS
end L2
namespace L2
theorem Qv{prog:Program}{w:World}{A:Around}{R:Result→Shared→Prop}{s:Shared}{elt target iter:Expr}{ifs:List Expr}{scope:Scope}{pos:Pos}{it acc:Value}{env:Env}(I:Nat→Shared→Prop)
 (turn:∀n s,I n s→wpAny (model prog w) A (pyNext it) (fun r s₁=>match r with
  | none=>R (.ok .next) s₁
  | some v=>wpAny (model prog w) A (letOwnedTupleGo target it v) (fun _ s₁=>wpAny (model prog w) A (assign target env v) (fun _ s₂=>
   wpAny (model prog w) A (forIn ifs true fun c r=>if r=true then do let ok ← isTrue c env (eval c env);pure (ForInStep.yield ok) else pure (ForInStep.yield r)) (fun ok s₃=>
    if ok=true then wpAny (model prog w) A (eval elt env) (fun x s₄=>
     wpAny (model prog w) A (call (.builtin "list.append") [acc,x]) (fun _ s₅=>∃m,m < n∧I m s₅) (notedBy (model prog w) A env fun e s'=>R (.error e) s') s₄) (notedBy (model prog w) A env fun e s'=>R (.error e) s') s₃
    else ∃m,m < n∧I m s₃) (notedBy (model prog w) A env fun e s'=>R (.error e) s') s₂) (notedBy (model prog w) A env fun e s'=>R (.error e) s') s₁) (notedBy (model prog w) A env fun e s'=>R (.error e) s') s₁) (notedBy (model prog w) A env fun e s'=>R (.error e) s') s)
 (n:Nat) (h:I n s):
 codeAny (model prog w) A (.compLoop (.ListComp elt [⟨target,iter,ifs,0⟩] scope pos) 0 it acc env) R s:=by
 refine codeAny_loop rfl I (fun n s hI=>?_) n h;show wpAny _ A ((compTurn (.ListComp elt [⟨target,iter,ifs,0⟩] scope pos) 0 it acc env).onRaise (fun x=>do noteFrame x env;theTreesLotGoes x)) _ _ s;refine wpAny_noted ?_;rw [compTurn_list];refine Fd (wpAny_standAt (Fd (Hs (turn n s hI) (fun r s₁ h₁=>?_) fun _ _ h'=>h')))
 cases r with
 | none=>exact Fi h₁
 | some v=>
  refine Fd (Hs h₁ (fun _ s₁ h₁=>?_) fun _ _ h'=>h');refine Fd (Hs h₁ (fun _ s₂ h₂=>Fd (Hs h₂ (fun ok s₃ h₃=>?_) fun _ _ h'=>h')) fun _ _ h'=>h')
  cases ok with
  | false=>exact Fi ⟨rfl,h₃⟩
  | true=>
   exact Fd (Fd (Hs h₃ (fun x s₄ h₄=>Fd (Hs h₄ (fun _ s₅ h₅=>Fi (Fi ⟨rfl,h₅⟩)) fun _ _ h'=>h')) fun _ _ h'=>h'))
def clo(env:Env):List (Str×NameKind)→List (Str×Addr)→List (Str×Addr)
 | [],cs=>cs
 | (n,k)::r,cs=>clo env r (if (k== .free)=true then (match env.cells.lookup n with | some c=>(n,c)::cs | none=>cs) else cs)
theorem To{env:Env}:∀(names:List (Str×NameKind)) (cs:List (Str×Addr)),(∀y∈names,y.2= .free→∃c,env.cells.lookup y.1=some c)→
 (forIn (m:=Sem) names cs fun (x:Str×NameKind) (r:List (Str×Addr))=>match x with | (name,kind)=>if (kind== .free)=true then do let c ← cellOf env name;pure (ForInStep.yield ((name,c)::r)) else pure (ForInStep.yield r))=pure (clo env names cs)
 | [],cs,_=>rfl
 | (n,k)::r,cs,h=>by
  rw [List.forIn_cons];have ih:=fun cs=>To r cs fun y hy=>h y (Fn _ hy)
  by_cases hk:(k==NameKind.free)=true
  · obtain ⟨c,hc⟩:=h (n,k) FA (by simpa using hk)
    have e:cellOf env n=pure c:=by unfold cellOf;rw [show env.cells.lookup n=some c from hc]
    simp only [hk,if_true,e,clo];rw [show env.cells.lookup n=some c from hc];exact ih _
  · simp only [hk,clo]
    exact ih _
theorem Na{scope:Scope}{env:Env}(h:∀y∈scope.names,y.2= .free→∃c,env.cells.lookup y.1=some c):closureFor scope env=pure (clo env scope.names []):=by
 unfold closureFor;show (forIn (m:=Sem) scope.names ([]:List (Str×Addr)) _ >>=fun r=>pure r)=_;rw [To scope.names [] h];rfl
theorem Mn{env:Env}{x:Str}{c:Addr}:∀(names:List (Str×NameKind)) (cs:List (Str×Addr)),(clo env names cs).lookup x=some c→env.cells.lookup x=some c∨cs.lookup x=some c
 | [],cs,h=> .inr h
 | (n,k)::r,cs,h=>by
  unfold clo at h;rcases Mn r _ h with q | q
  · exact .inl q
  · split at q
    · split at q
      · rename_i c' hc
        rw [He]at q
        cases hx:x==n with
        | true=>
         rw [hx]at q
         have e:x=n:=by simpa using hx
         subst e;simp only [Option.some.injEq]at q;subst q;exact .inl hc
        | false=>rw [hx]at q;exact .inr q
      · exact .inr q
    · exact .inr q
theorem Qw{env:Env}{x:Str}{c:Addr}(hc:env.cells.lookup x=some c):∀(names:List (Str×NameKind)) (cs:List (Str×Addr)),(cs.lookup x=some c∨(cs.lookup x=none∧(x,NameKind.free)∈names))→(clo env names cs).lookup x=some c
 | [],cs,h=>by
  rcases h with h | ⟨_,h⟩
  · exact h
  · cases h
 | (n,k)::r,cs,h=>by
  unfold clo;refine Qw hc r _ ?_
  by_cases hx:x=n
  · subst hx
    by_cases hk:(k==NameKind.free)=true
    · rw [if_pos hk,hc]
      exact .inl (by simp [He])
    · rw [if_neg hk]
      rcases h with h | ⟨h1,h2⟩
      · exact .inl h
      · refine .inr ⟨h1,?_⟩
        rcases Fy.mp h2 with e | e
        · cases e;exact absurd rfl hk
        · exact e
  · have hb:(x==n)=false:=by simpa using hx
    have key:∀cs':List (Str×Addr),cs'.lookup x=cs.lookup x→(cs'.lookup x=some c∨(cs'.lookup x=none∧(x,NameKind.free)∈r)):=fun cs' e=>by
     rw [e];rcases h with h | ⟨h1,h2⟩
     · exact .inl h
     · refine .inr ⟨h1,?_⟩
       rcases Fy.mp h2 with e | e
       · cases e;exact absurd rfl hx
       · exact e
    refine key _ ?_;split
    · split
      · simp [He,hb]
      · rfl
    · rfl
theorem Gg{env:Env}{k':NameKind}:∀{names:List (Str×NameKind)} {x:Str},(∀y∈names,y.2≠ .cell)→
 (names.map fun (n,k)=>if (k==NameKind.free && env.scope.kind== .function && env.kindOf n==some .cell) then (n,NameKind.cell) else (n,k)).lookup x=some k'→(k'= .cell∨k'= .free)→(x,NameKind.free)∈names
 | [],_,_,h,_=>by simp at h
 | (n,k)::r,x,hc,h,hk=>by
  have ih:=@Gg env k' r x (fun y hy=>hc y (Fn _ hy));have h':List.lookup x ((if (k==NameKind.free && env.scope.kind== .function && env.kindOf n==some .cell)=true then (n,NameKind.cell) else (n,k))::(r.map fun (n,k)=>if (k==NameKind.free && env.scope.kind== .function && env.kindOf n==some .cell) then (n,NameKind.cell) else (n,k)))=some k':=h
  by_cases hx:x=n
  · subst hx
    by_cases q:(k==NameKind.free && env.scope.kind== .function && env.kindOf x==some .cell)=true
    · have:k= .free:=by simp only [FV,R7]at q;exact q.1.1
      subst this;exact FA
    · rw [if_neg q,He]at h'
      simp only [Jk]at h';have e:k=k':=FS h';rcases hk with z | z
      · exact absurd (e.trans z) (hc (x,k) FA)
      · rw [e.trans z];exact FA
  · have hb:(x==n)=false:=by simpa using hx
    refine Fn _ (ih ?_ hk);split at h'
    · rw [He,hb]at h';exact h'
    · rw [He,hb]at h';exact h'
theorem Du{env:Env}:∀{names:List (Str×NameKind)} {x:Str},names.lookup x=some .free→
 (names.map fun (n,k)=>if (k==NameKind.free && env.scope.kind== .function && env.kindOf n==some .cell) then (n,NameKind.cell) else (n,k)).lookup x=some .cell∨
 (names.map fun (n,k)=>if (k==NameKind.free && env.scope.kind== .function && env.kindOf n==some .cell) then (n,NameKind.cell) else (n,k)).lookup x=some .free
 | [],_,h=>by simp at h
 | (n,k)::r,x,h=>by
  have ih:=@Du env r x;show List.lookup x ((if (k==NameKind.free && env.scope.kind== .function && env.kindOf n==some .cell)=true then (n,NameKind.cell) else (n,k))::_)=_∨List.lookup x ((if (k==NameKind.free && env.scope.kind== .function && env.kindOf n==some .cell)=true then (n,NameKind.cell) else (n,k))::_)=_
  cases hx:x==n with
  | true=>
   simp only [He,hx]at h;cases h;split
   · left;simp [He,hx]
   · right;simp [He,hx]
  | false=>
   simp only [He,hx]at h;split
   · simp only [He,hx];exact ih h
   · simp only [He,hx];exact ih h
structure Blk where
 s:Shared
 H:Hp
 C:Addr
 fp:List Addr
abbrev Cx.blk(X:Cx)(scope:Scope)(N':List Str)(b:Blk):Cx:=
 {X with N:=N',s₀:=b.s,H₀:=b.H,env:=compEnvC scope (clo X.env scope.names []) b.C X.env,outer:=X.stack,ex:=b.fp,fn:=fun _=>false,pn:=[],xe:=fun _ _=>False}
def around(N:List Str)(fs:List Nat):List Str:=fs.map fun j=>N.getD j ""
def D5(N:List Str)(esc scope:Scope)(xs:List Str)(fs:List Nat):Bool:=
 decide (xs++around N fs).Nodup && (match scope.kind with | .function=>true | _=>false) && xs.all (fun x=>decide (scope.names.lookup x=some .local)) &&
 scope.names.all (fun y=>decide (y.2≠ .cell) && (!decide (y.2= .local) || decide (scope.names.lookup y.1=some .local)) && (!decide (y.2= .free) || decide (esc.names.lookup y.1=some .cell) || decide (esc.names.lookup y.1=some .free))) &&
 fs.all fun j=>decide (j < N.length) && decide (scope.names.lookup (N.getD j "")=some .free)
structure Qx(N:List Str)(esc scope:Scope)(xs:List Str)(fs:List Nat):Prop where
 nd:(xs++around N fs).Nodup
 kind:scope.kind= .function
 own:∀x∈xs,scope.names.lookup x=some .local
 cell:∀y∈scope.names,y.2≠ .cell
 names:∀y∈scope.names,y.2= .local→scope.names.lookup y.1=some .local
 free:∀y∈scope.names,y.2= .free→esc.names.lookup y.1=some .cell∨esc.names.lookup y.1=some .free
 fs:∀j∈fs,j < N.length∧scope.names.lookup (N.getD j "")=some .free
theorem E2{N:List Str}{esc scope:Scope}{xs:List Str}{fs:List Nat}(h:D5 N esc scope xs fs=true):Qx N esc scope xs fs:=by
 unfold D5 at h;simp only [FV,decide_eq_true_eq,Hf]at h;obtain ⟨⟨⟨⟨h1,h2⟩,h3⟩,h4⟩,h5⟩:=h;refine ⟨h1,?_,h3,fun y hy=>(h4 y hy).1.1,fun y hy e=>?_,fun y hy e=>?_,h5⟩
 · split at h2
   · assumption
   · cases h2
 · have:=(h4 y hy).1.2
   simpa [e] using this
 · have:=(h4 y hy).2
   simpa [e] using this
section
variable {X:Cx} {pins:List (Addr×Obj)} {σ:St} {H:Hp} {s:Shared} {scope:Scope} {xs:List Str} {fs:List Nat} {fp:List Addr} {C:Addr}
theorem Jai(I:Inv X pins σ H s)(O:Qx X.N X.env.scope scope xs fs)(hf:∀b∈fp,Dr X pins H b)(hC:s.heap.objs.size≤C)(hfp:∀b∈fp,b < s.heap.objs.size):(X.blk scope (xs++around X.N fs) ⟨s,H,C,fp⟩).Ok:=by
 have hcl:∀x c,(clo X.env scope.names []).lookup x=some c→X.env.cells.lookup x=some c:=fun x c e=>by
  rcases Mn _ _ e with q | q
  · exact q
  · cases q
 have hsz:∀b o,X.base.get? b=some o→b < X.s₀.heap.objs.size:=fun b o e=>Fq (Fm e) I.ok.bsz;refine ⟨I.ok.mod,O.kind,I.ok.glob,I.ok.blt,hC,fun x y c h1 h2=>I.ok.inj x y c (hcl x c h1) (hcl y c h2),fun x hx=>?_,fun x c z=>(by cases z),I.ok.hd,I.ok.frames,.inl rfl,fun b hb=>⟨Fs (Fq (hfp b hb) hC),fun x c e=>(hf b hb).2.2.2.2.1 x c (hcl x c e)⟩,I.bs,FC I.ok.bsz I.sz,fun b o e hb=>?_,fun b hb hs=>?_,I.stack,I.stkFree⟩
 · have hm:(x,NameKind.free)∈scope.names:=by
    rcases hx with hx | hx
    · exact Gg (env:=X.env) O.cell (show (scope.names.map _).lookup x=some NameKind.cell from hx) (.inl rfl)
    · exact Gg (env:=X.env) O.cell (show (scope.names.map _).lookup x=some NameKind.free from hx) (.inr rfl)
   obtain ⟨c,hc⟩:=I.ok.has x (O.free _ hm rfl);exact ⟨c,Qw hc _ _ (.inr ⟨rfl,hm⟩)⟩
 · obtain ⟨_,_,_,h4,_⟩:=hf b hb
   rcases h4 with h4 | h4
   · exact I.ok.noex b o e h4
   · exact absurd (Fq (hsz b o e) h4) (Hc _)
 · obtain ⟨_,h2,h3,_⟩:=hf b hb
   exact (Fy.mp (I.stkSub b hs)).elim h2 h3
theorem Jaj{h1:Heap}{t:Nat}{D:Addr}{m:Str→Option Value}(I:Inv X pins σ H s)(O:Qx X.N X.env.scope scope xs fs)(hf:∀b∈fp,Dr X pins H b)(hD:s.heap.objs.size≤D)(hC:s.heap.objs.size≤C)(hfp:∀b∈fp,b < s.heap.objs.size)(hDC:D≠C)
 (k:∀b u,s.heap.get? b=some u→h1.get? b=some u) (hDo:h1.get? D=some {cls:= .type "list",data:= .seq #[] 0}) (hn:h1.Ns C m):
 Inv (X.blk scope (xs++around X.N fs) ⟨s,H,C,fp⟩) [] (xs.map (fun _=>none)++fs.map fun j=>σ.getD j none) (upd H D (.lst [])) {s with heap:=h1,toks:=t}:=by
 have hcl:∀x c,(clo X.env scope.names []).lookup x=some c→X.env.cells.lookup x=some c:=fun x c e=>by
  rcases Mn _ _ e with q | q
  · exact q
  · cases q
 have ok:=Jai (C:=C) I O hf hC hfp;have hnD:H D=none:=I.hok.fresh hD;refine ⟨ok,rfl,I.bare,Un.laid k hD hnD,⟨m,hn,fun i x v e1 e2 e3=>?_⟩,fun x c e=>?_,?_,fun x c e=>?_,fun p hp=>absurd (show p∈([]:List (Addr×Obj)) from hp) (by simp),I.hok.laid k hD ⟨FB _,[],0,.nil,hDo⟩,by simp [around]⟩
 · by_cases hi:i < xs.length
   · rw [FJ (by simpa using hi),Fg]at e2
     cases q:xs[i]? with
     | none=>rw [q]at e2;cases e2
     | some a=>rw [q]at e2;cases e2
   · have hi:xs.length≤i:=RZ hi
     rw [FL (by simpa using hi)]at e1 e2;unfold around at e1;rw [Fa]at e2;rw [Fg]at e1 e2
     cases q:fs[i - xs.length]? with
     | none=>rw [q]at e2;cases e2
     | some j=>
      rw [q]at e1 e2;simp only [Option.map_some,Option.some.injEq]at e1 e2;obtain ⟨hj,hl⟩:=O.fs j (Fk q);obtain ⟨m0,_,hl0⟩:=I.loc
      have e1':X.N[j]?=some x:=by rw [← e1,Fc,Fb hj];rfl
      have e2':σ[j]?=some (some v):=by
       rw [Fc]at e2
       cases z:σ[j]? with
       | none=>rw [z]at e2;cases e2
       | some y=>rw [z]at e2;simp only [Option.getD_some]at e2;rw [e2]
      rw [e1]at hl;have hm:(x,NameKind.free)∈scope.names:=Hb hl;have hk:=O.free _ hm rfl;obtain ⟨u,r,l⟩:=hl0 j x v e1' e2' (hk.elim (fun z=> .inr (.inl z)) fun z=> .inr (.inr z));refine ⟨u,r,?_⟩;rcases l with ⟨z,_⟩ | ⟨_,c,hc,cell⟩
      · have z':X.env.scope.names.lookup x=some .local:=z
        rcases hk with hk | hk <;> (rw [z']at hk;cases hk)
      · refine .inr ⟨?_,c,Qw hc _ _ (.inr ⟨rfl,hm⟩),?_⟩
        · exact Du (env:=X.env) hl
        · obtain ⟨o,ho,hd⟩:=cell
          exact ⟨o,k _ _ ho,hd⟩
 · obtain ⟨v,o,ho,hd⟩:=I.cell x c (hcl x c e)
   exact ⟨v,o,k _ _ ho,hd⟩
 · show upd H D (.lst []) C=none
   rw [A2 (Ne.symm hDC)];exact I.hok.fresh hC
 · obtain ⟨v,q⟩:=I.cell x c (hcl x c e)
   rw [A2 (Fs (Fq q.lt hD))];exact I.freeC x c (hcl x c e)
theorem J6r{N':List Str}{σ':St}{H':Hp}{s':Shared}{h2:Heap}{pl:List (Addr×Obj)}(I:Inv X pins σ H s)(hf:∀b∈fp,Dr X pins H b)(hC:s.heap.objs.size≤C)(J:Inv (X.blk scope N' ⟨s,H,C,fp⟩) pl σ' H' s')(sb:Heap.SameBut C s'.heap h2):
 Inv X pins σ H' {s' with heap:=h2}:=by
 have u:=J.base;have ne:∀b o,s.heap.get? b=some o→b≠C:=fun b o e=>Fs (Fq (Fm e) hC);refine I.call' (ch:=fp) J.os ⟨fun b o e n h1 h2=>(sb.2 b (ne b o e)).trans (u.keep b o e n h1 h2),fun b o e n h1 h2=>?_,u.free,fun b o e hx=>?_,u.tups,u.frzs,u.tbls⟩ (fun a o e=>?_) J.bare fun b hb=>?_
 · obtain ⟨sl,q⟩:=u.slot b o e n h1 h2
   exact ⟨sl,(sb.2 b (ne b o e)).trans q⟩
 · obtain ⟨o',q⟩:=u.there b o e hx
   exact ⟨o',(sb.2 b (ne b o e)).trans q⟩
 · have fr:H' C=none:=J.free
   refine (J.hok a o e).stay (fun b v hc q=>(sb.2 b ?_).trans q) (fun _ q=>q) fun _ _ q=>q;rcases hc with rfl | hc
   · exact A8 e fr
   · exact A8 hc fr
 · obtain ⟨_,h2,h3,h4,h5,h6⟩:=hf b hb
   exact ⟨h4,h2,h5,h6⟩
end
end L2
namespace L2
def Jak(σ σ':St):Prop:=∀(i:Nat) (v:V),σ[i]?=some (some v)→σ'[i]?=some (some v)
def PTs(X:Cx)(ifs:List Expr)(t:TT):Prop:=
 ∀(pins:List (Addr×Obj)) (s:Shared) (σ:St) (H:Hp) (Q:Bool→Hp→Prop),Inv X pins σ H s→t σ H Q→
   wpAny (model X.prog X.w) X.A (forIn ifs true fun c r=>if r=true then do let ok ← isTrue c X.env (eval c X.env);pure (ForInStep.yield ok) else pure (ForInStep.yield r)) (TP X pins σ Q) X.xe s
def Pf:TT:=fun _ H Q=>Q true H
theorem Xq{X:Cx}:PTs X [] Pf:=fun _ _ _ H _ I h=>wpAny_tests_nil ⟨H,I,h⟩
theorem Qy{X:Cx}{c:Expr}{t:TT}(hc:PT X c t):PTs X [c] t:=fun pins s σ H Q I h=>wpAny_tests_one (hc pins s σ H Q I h)
def C1(σ0:St)(g:Blk→TG)(tt:Blk→TT)(te:Blk→TE)(Q:VK)(J:It)(H1:Hp):Prop:=∀(b:Blk) (D:Addr),H1 D=none→∃W:Nat→Nat→List V→Hp→Prop,(∃m,W 0 m [] (upd H1 D (.lst [])))∧∀i m ys H2,W i m ys H2→H2 D=some (.lst ys)∧
 ((J.stop i H2∧Q (.ref D) H2)∨(J.go i H2∧∀x H3,J.yld i H2 x H3→g b x σ0 H3 fun σ6 H6=>Jak σ0 σ6∧tt b σ6 H6 fun ok H7=>
   if ok=true then te b σ6 H7 fun y H8=>H8 D=some (.lst ys)∧ys.length < sizeLine∧∃m',m' < m∧W (i+1) m' (ys++[y]) (upd H8 D (.lst (ys++[y])))
   else ∃m',m' < m∧W (i+1) m' ys H7))
def Tp(wi:TI)(n:Nat)(fs:List Nat)(g:Blk→TG)(tt:Blk→TT)(te:Blk→TE):TE:=fun σ H Q=>wi σ H (C1 (List.replicate n none++fs.map fun j=>σ.getD j none) g tt te Q)
section
variable {X:Cx} {pins:List (Addr×Obj)} {σ:St} {scope:Scope} {xs:List Str} {fs:List Nat} {elt tg iter:Expr} {ifs:List Expr} {pos:Pos} {wi:TI} {g:Blk→TG} {tt:Blk→TT} {te:Blk→TE}
theorem Py{H:Hp}{s:Shared}{C:Addr}{h2:Heap}(I:Inv X pins σ H s)(F:Dr X pins H C)(sb:Heap.SameBut C s.heap h2):Inv X pins σ H {s with heap:=h2}:=
 I.turned (t':=s.toks) (fun b o hb e=>(sb.2 b hb).trans e) F.1 F.2.1 F.2.2.2.1 F.2.2.2.2.1 F.2.2.2.2.2
theorem Tq{Q:VK}{itv:Value}{s2:Shared}{E:Value→Shared→Prop}{RR:Value→Addr→Result→Shared→Prop}(hc:X.calm=true)(O:Qx X.N X.env.scope scope xs fs)
 (hg:∀b,PG (X.blk scope (xs++around X.N fs) b) tg (g b)) (ht:∀b,PTs (X.blk scope (xs++around X.N fs) b) ifs (tt b)) (he:∀b,PE (X.blk scope (xs++around X.N fs) b) elt (te b))
 (h:PIE X pins σ tg (C1 (List.replicate xs.length none++fs.map fun j=>σ.getD j none) g tt te Q) itv s2)
 (hR:∀D C s' m H',s'.heap.Ns C m→Inv X pins σ H' s'→Q (.ref D) H'→Dr X pins H' C→RR (.ref D) C (.ok .next) s'):
 wpAny (model X.prog X.w) X.A (newList []) (fun acc s₃=>wpAny (model X.prog X.w) X.A (newFunctionEnv scope X.env.globals (clo X.env scope.names []) [] X.env.qual none .none (some X.env)) (fun cenv s₄=>
  codeAny (model X.prog X.w) X.A (.compStart (.ListComp elt [⟨tg,iter,ifs,0⟩] scope pos) 0 itv acc {cenv with scope:=relabel scope X.env}) (RR acc cenv.locals) s₄) E s₃) E s2:=by
 obtain ⟨it,fp,tn,J,H2,rfl,I2,T,st2,f2,rd⟩:=h
 have hfp:∀b∈fp,b < s2.heap.objs.size:=fun b hb=>by
  obtain ⟨o,e,_⟩:=T.obj _ _ st2 b hb;exact Fm e
 refine Hl (wpAny_newFunctionEnv O.cell (by intro y hy;simp at hy) (fun h₁ hns₁ hsb₁=>?_) O.kind);dsimp only at hns₁ hsb₁ ⊢;generalize hH2:s2.heap.push {cls:= .type "list",dict:=none,data:= .seq ([]:List Value).toArray}=HH at hns₁ hsb₁ ⊢
 have hC:HH.objs.size=s2.heap.objs.size+1:=by rw [← hH2,Rk]
 have hDC:s2.heap.objs.size≠HH.objs.size:=by rw [hC];exact Fs (Hu _)
 have hCle:s2.heap.objs.size≤HH.objs.size:=by rw [hC];exact R5 _
 have old:∀b o,s2.heap.get? b=some o→h₁.get? b=some o:=fun b o e=>hsb₁.extBut b o (by rw [hC];exact Fs (HU (Fm e))) (Ff _ (hH2▸Ff _ e));have hacc:h₁.get? s2.heap.objs.size=some {cls:= .type "list",data:= .seq #[] 0}:=hsb₁.extBut _ _ hDC (Ff _ (hH2▸Fo _ rfl));obtain ⟨W,⟨m0,w0⟩,turn⟩:=rd ⟨s2,H2,HH.objs.size,fp⟩ s2.heap.objs.size I2.fresh;have I3:=Jaj (t:=s2.toks+([]:List (Str×Value)).length) I2 O f2 (Fh _) hCle hfp hDC old hacc hns₁;rw [show xs.map (fun _=>(none:Option V))=List.replicate xs.length none from List.map_const' ..]at I3;generalize hX:X.blk scope (xs++around X.N fs) ⟨s2,H2,HH.objs.size,fp⟩=X' at I3
 have stat:∀{H':Hp},(∀b∈fp,H' b=none)→∀b∈fp,Dr X' [] H' b:=fun hn b hb=>by
  subst hX;refine ⟨hn b hb,?_,?_,.inl hb,fun x c e=>?_,fun p hp=>absurd hp (by simp)⟩
  · exact (I3.ok.exf b hb).1
  · exact I3.ok.exfs b hb
  · exact (I3.ok.exf b hb).2 x c e
 have fr3:∀b∈fp,upd H2 s2.heap.objs.size (.lst []) b=none:=fun b hb=>by
  rw [A2 (Fs (hfp b hb))];exact (f2 b hb).1
 have ccell:∀y c,X.env.cells.lookup y=some c→c≠HH.objs.size:=fun y c e=>by
  obtain ⟨v,q⟩:=I2.cell y c e;exact Fs (Fq q.lt hCle)
 have cloc:HH.objs.size≠X.env.locals:=(Fs (Fq I2.lt hCle)).symm
 have eP:X'.prog=X.prog:=by rw [← hX]
 have ew:X'.w=X.w:=by rw [← hX]
 have eK:X'.K=X.K:=by rw [← hX]
 have eA:X'.A=X.A:=by rw [← hX]
 have ec:X'.calm=true:=by rw [← hX];exact hc
 have ex:X'.xe=fun _ _=>False:=by rw [← hX]
 have een:X'.env=compEnvC scope (clo X.env scope.names []) HH.objs.size X.env:=by rw [← hX]
 have hg':=hg ⟨s2,H2,HH.objs.size,fp⟩;have ht':=ht ⟨s2,H2,HH.objs.size,fp⟩;have he':=he ⟨s2,H2,HH.objs.size,fp⟩;rw [hX]at hg' ht' he';have st1:tn 0 h₁:=T.keep _ _ _ st2 fun b hb o e=>old b o e
 have loop:∀s₃:Shared,s₃={s2 with heap:=h₁,toks:=s2.toks+([]:List (Str×Value)).length}→
  codeAny (model X.prog X.w) X.A (.compLoop (.ListComp elt [⟨tg,iter,ifs,0⟩] scope pos) 0 (.ref it) (.ref s2.heap.objs.size) (compEnvC scope (clo X.env scope.names []) HH.objs.size X.env))
   (RR (.ref s2.heap.objs.size) HH.objs.size) s₃:=by
  rintro s₃ rfl;refine Qv (fun n s'=>∃i ys H',Inv X' [] (List.replicate xs.length none++fs.map fun j=>σ.getD j none) H' s'∧tn i s'.heap∧(∀b∈fp,H' b=none)∧W i n ys H') ?_ m0 ⟨0,[],_,I3,st1,fr3,w0⟩;rintro n s4 ⟨i,ys,H4,I4,st4,fr4,w4⟩;obtain ⟨hD4,tn4⟩:=turn i n ys H4 w4;rcases tn4 with ⟨stop,qn⟩ | ⟨go,step⟩
  · have td:=T.done X' eP ew eK ec i [] s4 _ H4 (notedBy (model X.prog X.w) X.A (compEnvC scope (clo X.env scope.names []) HH.objs.size X.env) fun e s'=>RR (.ref s2.heap.objs.size) HH.objs.size (.error e) s') I4 (stat fr4) st4 stop
    rw [eA]at td;refine thn td fun r s5 ⟨hr,I5⟩=>?_;subst hr;obtain ⟨m5,hn5,_⟩:=I5.loc;rw [een]at hn5
    have fr5:H4 HH.objs.size=none:=by have:=I5.free;rw [een]at this;exact this
    rw [← hX]at I5;exact hR _ _ _ m5 H4 hn5 (J6r I2 f2 hCle I5 (Heap.SameBut.refl ..)) qn (I2.fpOk hCle fr5)
  · have ti:=T.item X' eP ew eK ec i [] s4 _ H4 (notedBy (model X.prog X.w) X.A (compEnvC scope (clo X.env scope.names []) HH.objs.size X.env) fun e s'=>RR (.ref s2.heap.objs.size) HH.objs.size (.error e) s') I4 (stat fr4) st4 go
    rw [eA]at ti;refine thn ti fun r s5 ⟨u,hr,h5⟩=>?_;subst hr;refine thn h5 fun _ s6 hq_=>?_;obtain ⟨x,H6,I6,r6,y6,st6,fr6⟩:=hq_;have I6':=I6.pinned (stat fr6) (T.obj _ _ st6);have g1:=hg' _ s6 _ H6 x u _ I6' r6 (step x H6 y6);rw [eP,ew,eA,een,ex]at g1;refine Hs g1 (fun _ s7 hq_=>?_) fun _ _ z=>z.elim;obtain ⟨σ7,H7,I7,kp7,q7⟩:=hq_;have t1:=ht' _ s7 σ7 H7 _ I7 q7;rw [eP,ew,eA,een,ex]at t1
    have back:∀{H9:Hp} {s9:Shared},Inv X' ([]++Me fp s6.heap) σ7 H9 s9→Inv X' [] (List.replicate xs.length none++fs.map fun j=>σ.getD j none) H9 s9∧tn (i+1) s9.heap∧∀b∈fp,H9 b=none:=fun {H9 s9} I9=>by
     refine ⟨I9.unpinned.weak ?_ kp7,T.keep _ _ _ st6 fun b hb o e=>(I9.pin (b,o) (FG _ (FG _ (Gd hb e)))).1,fun b hb=>?_⟩
     · rw [I9.len,I4.len]
     · obtain ⟨o,e,d⟩:=T.obj _ _ st6 b hb
       exact (I9.pin (b,o) (FG _ (FG _ (Gd hb e)))).2.1
    refine Hs t1 (fun ok s8 ⟨H8,I8,q8⟩=>?_) fun _ _ z=>z.elim
    cases ok with
    | false=>
     rw [if_neg FD]at q8 ⊢;obtain ⟨m',hm,w8⟩:=q8;obtain ⟨b1,b2,b3⟩:=back I8;exact ⟨m',hm,i+1,ys,H8,b1,b2,b3,w8⟩
    | true=>
     rw [if_pos rfl]at q8 ⊢;have e1:=he' _ s8 σ7 H8 _ I8 q8;rw [eP,ew,eA,een,ex]at e1;refine Hs e1 (fun uy s9 hq_=>?_) fun _ _ z=>z.elim;obtain ⟨y,H9,I9,r9,hD9,hz,m',hm,w9⟩:=hq_;have a1:=Bk (X:=X') (pins:=[]++Me fp s6.heap) (s:=s9) (σ:=σ7) (H:=H9) (x:= .ref s2.heap.objs.size) (xs:=[y]) (v:= .ref s2.heap.objs.size) (us:=[uy]) (Q:=fun _ H'=>H'=upd H9 s2.heap.objs.size (.lst (ys++[y]))) I9 rfl (.cons r9 .nil) ⟨_,ys,y,rfl,rfl,hD9,hz,rfl⟩;rw [eP,ew,eA,ex]at a1;refine Hs a1 (fun _ s10 hq_=>?_) fun _ _ z=>z.elim;obtain ⟨_,H10,I10,_,e10⟩:=hq_;subst e10;obtain ⟨b1,b2,b3⟩:=back I10;exact ⟨m',hm,i+1,_,_,b1,b2,b3,w9⟩
 exact codeAny_compStart_list (loop _ rfl) (T.self _ 0 _ _ _ st1 (loop _ rfl))
theorem Tr(hc:X.calm=true)(hok:D5 X.N X.env.scope scope xs fs=true)(hi:PI X tg iter wi)
 (hg:∀b,PG (X.blk scope (xs++around X.N fs) b) tg (g b)) (ht:∀b,PTs (X.blk scope (xs++around X.N fs) b) ifs (tt b)) (he:∀b,PE (X.blk scope (xs++around X.N fs) b) elt (te b))
 (hs:∀x,foldedSetIterable iter X.env x=pure x:=by intro _;rfl):
 PE X (.ListComp elt [⟨tg,iter,ifs,0⟩] scope pos) (Tp wi xs.length fs g tt te):=by
 intro pins s σ H Q I h;have O:=E2 hok;rw [eval_ListComp];refine wpAny_comprehension_free (use:=none) rfl hs (Na fun y hy hf=>I.ok.has _ (O.free y hy hf)) O.kind O.names (thn (hi pins s σ H _ I h) fun v s1 h1=>thn h1 fun itv s2 h2=>?_)
 exact Tq (RR:=fun acc C=>compPost (model X.prog X.w) X.A X.xe none (EP X pins σ Q) acc C) hc O hg ht he h2 fun D C s' m H' hn I' q F=>⟨m,hn,fun h2 sb=>⟨.ref D,H',Py I' F sb,rfl,q⟩⟩
theorem Qz{y:Str}{py:Pos}{i:Nat}(hN:X.N.Nodup)(hy:X.N[i]?=some y)(hyl:X.env.kindOf y=some .local)(hc:X.calm=true)(hok:D5 X.N X.env.scope scope xs fs=true)(hi:PI X tg iter wi)
 (hg:∀b,PG (X.blk scope (xs++around X.N fs) b) tg (g b)) (ht:∀b,PTs (X.blk scope (xs++around X.N fs) b) ifs (tt b)) (he:∀b,PE (X.blk scope (xs++around X.N fs) b) elt (te b)) {spos:Pos}
 (hsw:swapsWith (.ListComp elt [⟨tg,iter,ifs,0⟩] scope pos) (some (.Name y py)) spos.line X.env=pure true:=by rfl)
 (hs:∀x,foldedSetIterable iter X.env x=pure x:=by intro _;rfl):
 PS X (.Assign [.Name y py] (.ListComp elt [⟨tg,iter,ifs,0⟩] scope pos) spos) (Vm (Tp wi xs.length fs g tt te) (C7 i)):=by
 intro pins s σ H D I h;have O:=E2 hok;rw [exec_Assign_Name_used _ _ _ _ hsw];refine Fd (wpAny_standAt (Fd ?_));show wpAny _ X.A (do let _ ← comprehension (.ListComp elt [⟨tg,iter,ifs,0⟩] scope pos) scope X.env _ (newList []) false (eval iter X.env) (some (assign (.Name y py) X.env))) _ _ s
 refine Fd (Hs (wpAny_comprehension_free (use:=some (assign (.Name y py) X.env)) (Q:=fun _ s'=>SP X pins D .next s') rfl hs (Na fun y hy hf=>I.ok.has _ (O.free y hy hf)) O.kind O.names
  (thn (hi pins s σ H _ I h) fun v s1 h1=>thn h1 fun itv s2 h2=>?_)) (fun _ s' hq=>Fi (Fi hq)) fun _ _ e=>e)
 refine Tq (RR:=fun acc C=>compPost (model X.prog X.w) X.A X.xe (some (assign (.Name y py) X.env)) (fun _ s'=>SP X pins D .next s') acc C) hc O hg ht he h2 fun D' C s' m H' hn I0 q0 F=>?_;show wpAny _ X.A (assign (.Name y py) X.env (.ref D')) _ _ _;refine wpAny_assign_Name (Pl I0 hN hy (.inl hyl) (v:= .ref D') rfl (fun s3 I3 hsb=>?_) (.inr hyl));obtain ⟨a,sb3,ha⟩:=hsb
 have haC:C≠a:=by
  rcases ha with rfl | ha
  · exact F.2.1
  · exact (F.2.2.2.2.1 y a ha).symm
 exact ⟨m,hn.sameBut sb3 haC,fun h4 sb4=>⟨_,H',Py I3 F sb4,q0⟩⟩
end
end L2
namespace L2
def Its(z:Str):It:=⟨fun i _=>i < z.cps.size,fun i H x H'=>H'=H∧∃c,z.cps[i]?=some c∧x= .str ⟨#[c]⟩,fun i _=>z.cps.size≤i⟩
def Jcg(tl:TE):TI:=fun σ H R=>tl σ H fun x H1=>∃z,x= .str z∧R (Its z) H1
section
variable {P:Program} {w:World} {K:PySem.W.Frag} {tg:Expr}
theorem J3g(ty:String)(hty:ty="str_ascii_iterator"∨ty="str_iterator")(z:Str)(t:Tok)(it:Addr):J0c P w K tg (Its z) [it] it (fun i h=>i≤z.cps.size∧h.IsStrIter it ty z t i) where
 mem:=by simp
 obj:=fun i h st b hb=>by
  have e:b=it:=by simpa using hb
  subst e;obtain ⟨o,e,c,d⟩:=st.2;exact ⟨o,e,fun v z=>by rw [d]at z;cases z⟩
 keep:=fun i h h' st k=>⟨st.1,by obtain ⟨o,e,r⟩:=st.2;exact ⟨o,k it (by simp) o e,r⟩⟩
 item:=by
  intro X hP hw hK hc i pins s σ H E I hf st hg;subst hP hw hK;obtain ⟨f0,f1,f2,f3,f4,f5⟩:=hf it (by simp)
  have W:Walks X.prog X.w X.A it [it] [it] z.cps.size (SignAt z) (fun i h=>h.IsStrIter it ty z t i):=by
   rcases hty with rfl | rfl
   · exact Walks.strAscii (I.ok.hd hc) it z t
   · exact Walks.strWide (I.ok.hd hc) it z t
  refine W.item i s _ _ hg st.2 fun v h' tk hv st' kk=>?_;obtain ⟨c,u,hcc,rfl⟩:=hv;have I1:Inv X pins σ H {s with heap:=h',toks:=tk}:=I.turned (fun b o hb e=>kk b o (by simpa using hb) e) f0 f1 f3 f4 f5;obtain ⟨o,e,cc,d⟩:=id st'
  refine ⟨_,rfl,J21 (s:={s with heap:=h',toks:=tk}) (n:=ty) e cc d (by rcases hty with rfl | rfl <;> decide) ⟨.str ⟨#[c]⟩,H,I1,⟨u,rfl⟩,⟨rfl,c,hcc,rfl⟩,⟨hg,st'⟩,fun b hb=>(hf b hb).1⟩⟩
 done:=by
   intro X hP hw hK hc i pins s σ H E I hf st hg;subst hP hw hK;obtain ⟨f0,f1,f2,f3,f4,f5⟩:=hf it (by simp)
   have W:Walks X.prog X.w X.A it [it] [it] z.cps.size (SignAt z) (fun i h=>h.IsStrIter it ty z t i):=by
    rcases hty with rfl | rfl
    · exact Walks.strAscii (I.ok.hd hc) it z t
    · exact Walks.strWide (I.ok.hd hc) it z t
   have hi:i=z.cps.size:=Nat.le_antisymm st.1 hg;subst hi
   exact W.done s _ _ st.2 fun h' tk kk=>⟨rfl,I.turned (fun b o hb e=>kk b o (by simpa using hb) e) f0 f1 f3 f4 f5⟩
 self:=fun _ _ _ _ _ st h=>by
  rcases hty with rfl | rfl
  · exact wpAny_pyIter_striter_ascii st.2 h
  · exact wpAny_pyIter_striter_wide st.2 h
end
section
variable {X:Cx} {tg:Expr}
theorem Jal{l:Expr}{tl:TE}(hl:PE X l tl):PI X tg l (Jcg tl):=by
 intro pins s σ H R I h;refine thn (hl pins s σ H _ I h) fun v s1 hq_=>?_;obtain ⟨x,H1,I1,r1,q1⟩:=hq_;obtain ⟨z,e,q⟩:=q1;subst e;obtain ⟨t,rfl⟩:=r1
 have fin:∀ty,(ty="str_ascii_iterator"∨ty="str_iterator")→PIE X pins σ tg R (.ref s1.heap.objs.size) {s1 with heap:=s1.heap.push {cls:= .type ty,data:= .fields #[.str z t,.int 0 0]}}:=fun ty hty=>by
  refine ⟨s1.heap.objs.size,[s1.heap.objs.size],_,_,H1,rfl,I1.kept (t':=s1.toks) fun b o e=>Ff _ e,J3g ty hty z t _,⟨FB _,_,Fo _ rfl,rfl,rfl⟩,fun b hb=>?_,q⟩
  have e:b=s1.heap.objs.size:=by simpa using hb
  subst e;exact I1.fpOk (Fh _) I1.fresh
 cases ha:z.cps.all (· < 128)
 · exact wpAny_pyIter_wide ha (fin _ (.inr rfl))
 · exact wpAny_pyIter_ascii ha (fin _ (.inl rfl))
def Jch:V→Option Int→Option Int→Hp→VK→Prop:=fun x lo hi H Q=>∃z,x= .str z∧z.length≤sizeLine∧Q (.str (Txt.slice z lo hi)) H
theorem Jam:SlR X Jch:=by
 intro pins s σ H x v vl vu lo hi sl Q I rx hs pl pu h;obtain ⟨z,rfl,hz,q⟩:=h;obtain ⟨t,rfl⟩:=rx;obtain ⟨o,ho,hc,hd⟩:=hs;refine ⟨"str",_,F.slot_str_getitem.lookup,Jm _ _ _,?_⟩
 have fin:∀(l u:Option (Int×Tok)),s.heap.IsSlice sl l u none→l.map (·.1)=lo→u.map (·.1)=hi→wpAny (model X.prog X.w) X.A (getItem (.str z t) (.ref sl)) (EP X pins σ Q) X.xe s:=fun l u hsl hl hu=>by
  subst hl hu;exact wpAny_getItem_str_slice (l:=l) (u:=u) (st:=none) hsl rfl (post_val_or_str ⟨FC (Txt.slice_le z _ _) hz,fun t' k=>⟨.str _,H,I.tok k,⟨t',rfl⟩,q⟩⟩)
 cases pl <;> cases pu
 · exact fin none none ⟨o,ho,hc,hd⟩ rfl rfl
 · exact fin none (some (_,_)) ⟨o,ho,hc,hd⟩ rfl rfl
 · exact fin (some (_,_)) none ⟨o,ho,hc,hd⟩ rfl rfl
 · exact fin (some (_,_)) (some (_,_)) ⟨o,ho,hc,hd⟩ rfl rfl
theorem Oc:∀{ys:List Str} {us:List Value},Au (ys.map V.str) us→StrsAre us ys
 | [],_,r=>by rw [List.map_nil]at r;cases r;exact .nil
 | y::ys,us,r=>by
  rw [List.map_cons]at r
  cases r with
  | cons r1 r2=>
   obtain ⟨t,e⟩:=r1;subst e;exact .cons y t (Oc r2)
def J98(K:PySem.W.Frag):V→List V→Hp→VK→Prop:=fun x vs H Q=>∃z p ys,x= .str z∧vs=[.ref p]∧SqL K H p (ys.map V.str)∧(ys.map (·.length)).sum+ys.length * z.length≤16777216∧Q (.str (Txt.join z ys)) H
theorem Xr:MtR X "str.join" (J98 X.K):=by
 intro pins s σ H x vs v us Q I rx rv h;obtain ⟨z,p,ys,rfl,rfl,hp,hw,q⟩:=h;obtain ⟨t,rfl⟩:=rx;obtain ⟨u,rfl,ru⟩:=rv.one;cases ru;obtain ⟨its,r,pl,hz⟩:=I.list hp
 exact join_list pl.isList (by simpa using Oc r) hw fun t' k=>⟨.str _,H,I.tok k,⟨t',rfl⟩,q⟩
theorem Pz:∀(l:List (Str×Tok)),Au ((l.map (·.1)).map V.str) (strValues l)
 | []=> .nil
 | (x,t)::r=> .cons ⟨t,rfl⟩ (Pz r)
def J3h:V→List V→Hp→VK→Prop:=fun x vs H Q=>∃z y,x= .str z∧vs=[.str y]∧(y.length==0)=false∧z.length+2≤sizeLine∧∀p,H p=none→Q (.ref p) (upd H p (.lst ((Txt.split z y).map V.str)))
theorem Od:MtR X "str.split" J3h:=by
 intro pins s σ H x vs v us Q I rx rv h;obtain ⟨x,y,rfl,rfl,hy,hsz,q⟩:=h;obtain ⟨t,rfl⟩:=rx;obtain ⟨u,rfl,ru⟩:=rv.one;obtain ⟨u,rfl⟩:=ru
 have hn:(Builtin.Str.partsBetween x (Builtin.Str.occurrences x y 0 x.length (x.length+1)) y.length).length≤sizeLine:=by
  have e1:=StrLaws.occ_length_le x y 0 x.length (x.length+1);rw [length_partsBetween];omega
 have fin:∀(l:List (Str×Tok)) (k:Nat),l.map (·.1)=Txt.split x y→EP X pins σ Q (.ref s.heap.objs.size) {s with heap:=s.heap.push {cls:= .type "list",data:= .seq (strValues l).toArray},toks:=k}:=fun l k e=>by
  refine ⟨.ref s.heap.objs.size,_,I.laid (t':=k) (fun b o e=>Ff _ e) (Fh _) ?_,rfl,q _ I.fresh⟩;refine ⟨?_,strValues l,0,e▸Pz l,Fo _ rfl⟩;rw [Fa];exact FC (split_le x y) hsz
 cases h1:(decide (x.length < y.length) || decide (Builtin.Str.strKind x < Builtin.Str.strKind y))
 · cases hf:(Builtin.Str.occurrences x y 0 x.length (x.length+1)).isEmpty
   · refine RL F.slot_str_split (Jm _ _ _) F.entry_str_split (F.args_str_split_2 _ _) (meets_str_split_sep x y t u h1 hy hf (by omega) hn) ?_
     show wants _ _ _ {s with toks:=_,heap:=s.heap.push {cls:= .type "list",data:= .seq (strsFrom s.toks (Builtin.Str.partsBetween x (Builtin.Str.occurrences x y 0 x.length (x.length+1)) y.length)).toArray}};rw [strsFrom_eq];exact fin (numbered s.toks _) _ ((numbered_texts _ _).trans ((if_neg (JI h1)).trans (if_neg (JI hf))).symm)
   · exact RL F.slot_str_split (Jm _ _ _) F.entry_str_split (F.args_str_split_2 _ _) (meets_str_split_not_found x y t u h1 hy hf)
      (fin [(x,t)] s.toks ((if_neg (JI h1)).trans (if_pos hf)).symm)
 · exact RL F.slot_str_split (Jm _ _ _) F.entry_str_split (F.args_str_split_2 _ _) (meets_str_split_cannot_occur x y t u h1)
    (fin [(x,t)] s.toks (if_pos h1).symm)
theorem Ph:E4 X (.type "int") (fun xs H Q=>∃z n,xs=[.str z]∧PySem.intText? z=some n∧z.length≤640∧Q (.int n) H):=by
 intro pins s σ H xs us Q I r h;obtain ⟨z,n,rfl,hn,hl,q⟩:=h;obtain ⟨u,rfl,t,rfl⟩:=G2 r;exact PySem.W.KIN.call_text hn hl ⟨.int n,H,I.tok _,⟨_,rfl⟩,q⟩
def Jci(K:PySem.W.Frag):List V→Hp→VK→Prop:=fun xs H Q=>∃(p:Addr) (bs:List Bool),xs=[.ref p]∧SqL K H p (bs.map V.bl)∧Q (.bl (bs.all id)) H
theorem J3i(hc:X.calm=true):E4 X (.builtin "all") (Jci X.K):=by
 intro pins s σ H xs us Q I r h;obtain ⟨p,bs,rfl,hp,q⟩:=h;obtain ⟨u,rfl,ru⟩:=G2 r;cases ru;obtain ⟨its,r,pl,hz⟩:=I.list hp
 have hlt:p < s.heap.objs.size:=by obtain ⟨o,n,e,_⟩:=pl;exact Fm e
 refine call_all_walk (Rt pl.isList ⟨s.heap.objs.size,_,_,_,_,_,fun i=>bs.getD i true,rfl,Walks.list (show X.A.in1.handled=none from I.ok.hd hc) s.heap.objs.size p (Fs hlt) its.toArray,⟨⟨_,Fo _ rfl,rfl,rfl⟩,pl.isList.push _⟩,?_,fun h' tk kk=>?_⟩)
 · intro i v s' Q' E' hP hQ'
   have hP:its.toArray[i]?=some v:=hP;have hlen:=r.length;rw [Fa]at hlen
   have hi:i < bs.length:=by
    have:=(Jb.mp hP).1;rw [Fl]at this;omega
   obtain ⟨u,hu,ru⟩:=r.get (i:=i) (x:=V.bl (bs[i])) (by simp [hi])
   have e:u=v:=by
    have:its[i]?=some v:=by simpa using hP
    rw [hu]at this;exact FS this
   subst e;cases ru;dsimp only at hQ';rw [Fc,Fb hi]at hQ';exact Fi hQ'
 · refine ⟨.bl _,H,I.kept (t':=tk) fun b o e=>kk b o ?_ (Ff _ e),rfl,?_⟩
   · simpa using Fs (Fm e)
   · have hlen:=r.length
     rw [Fa]at hlen
     have:((List.range its.toArray.size).all fun i=>bs.getD i true)=bs.all id:=by
      rw [Fl,← hlen];rw [RK,Hf,Hf];constructor
      · intro h x hx
        obtain ⟨i,hi,rfl⟩:=List.mem_iff_getElem.mp hx;have:=h i (by simpa using hi)
        simpa [Fc,Fb hi] using this
      · intro h i hi
        have hi:i < bs.length:=by simpa using hi
        rw [Fc,Fb hi];exact h _ (FU hi)
     rw [this];exact q
end
abbrev TJ:=Str→St→Hp→(Str→Hp→Prop)→Prop
end L2
namespace L2
abbrev Vz(wi:TI)(fs:List Nat)(te:Blk→TE):TE:=Tp wi 1 fs (fun _=>C7 0) (fun _=>Pf) te
section
variable {X:Cx} {scope:Scope} {x:Str} {px:Pos} {fs:List Nat} {elt iter:Expr} {pos:Pos} {wi:TI} {te:Blk→TE}
theorem S0(hok:D5 X.N X.env.scope scope [x] fs=true)(b:Blk):PG (X.blk scope ([x]++around X.N fs) b) (.Name x px) (C7 0):=
 B2 (E2 hok).nd rfl (.inl (Rb ((E2 hok).own x (by simp)))) (.inr (Rb ((E2 hok).own x (by simp))))
theorem E8(x:Str)(fs:List Nat)(hc:X.calm=true)(hok:D5 X.N X.env.scope scope [x] fs=true)(hi:PI X (.Name x px) iter wi)(he:∀b,PE (X.blk scope ([x]++around X.N fs) b) elt (te b))
 (hs:∀x,foldedSetIterable iter X.env x=pure x:=by intro _;rfl):PE X (.ListComp elt [⟨.Name x px,iter,[],0⟩] scope pos) (Vz wi fs te):=
 Tr (xs:=[x]) (g:=fun _=>C7 0) (tt:=fun _=>Pf) hc hok hi (S0 hok) (fun _=>Xq) he hs
theorem J3j{y:Str}{py:Pos}{i:Nat}{spos:Pos}(x:Str)(fs:List Nat)(hN:X.N.Nodup)(hy:X.N[i]?=some y)(hyl:X.env.kindOf y=some .local)(hc:X.calm=true)(hok:D5 X.N X.env.scope scope [x] fs=true)(hi:PI X (.Name x px) iter wi)(he:∀b,PE (X.blk scope ([x]++around X.N fs) b) elt (te b))
 (hsw:swapsWith (.ListComp elt [⟨.Name x px,iter,[],0⟩] scope pos) (some (.Name y py)) spos.line X.env=pure true:=by rfl)
 (hs:∀x,foldedSetIterable iter X.env x=pure x:=by intro _;rfl):PS X (.Assign [.Name y py] (.ListComp elt [⟨.Name x px,iter,[],0⟩] scope pos) spos) (Vm (Vz wi fs te) (C7 i)):=
 Qz (xs:=[x]) (g:=fun _=>C7 0) (tt:=fun _=>Pf) hN hy hyl hc hok hi (S0 hok) (fun _=>Xq) he hsw hs
end
theorem J3k{x:Option V}{r:St}:Jak (none::r) (x::r):=fun i v e=>by
 cases i with
 | zero=>cases e
 | succ i=>exact e
section
variable {K:PySem.W.Frag} {tail:St} {te:Blk→TE} {Q:VK} {H1:Hp}
def Ts(D:Addr)(n i:Nat)(ys:List V)(Pv:Nat→List V→Hp→Prop):VK:=fun y H4=>H4 D=some (.lst ys)∧ys.length < sizeLine∧∃m',m' < n - i∧(m'=n - (i+1)∧i+1≤n∧Pv (i+1) (ys++[y]) (upd H4 D (.lst (ys++[y]))))
theorem Il{D:Addr}{n i:Nat}{ys:List V}{Pv:Nat→List V→Hp→Prop}{y:V}{H4:Hp}(h1:H4 D=some (.lst ys))(h2:ys.length < sizeLine)(h3:i < n)(h4:Pv (i+1) (ys++[y]) (upd H4 D (.lst (ys++[y])))):Ts D n i ys Pv y H4:=
 ⟨h1,h2,n - (i+1),by omega,rfl,h3,h4⟩
theorem Lk{J:It}(n:Nat)
 (h:∀(b:Blk) (D:Addr),H1 D=none→∃Pv:Nat→List V→Hp→Prop,Pv 0 [] (upd H1 D (.lst []))∧(∀i ys H,Pv i ys H→H D=some (.lst ys))∧(∀ys H,Pv n ys H→J.stop n H∧Q (.ref D) H)∧
  ∀i ys H,i < n→Pv i ys H→J.go i H∧∀x H3,J.yld i H x H3→te b (some x::tail) H3 (Ts D n i ys Pv)):C1 (none::tail) (fun _=>C7 0) (fun _=>Pf) te Q J H1:=by
 intro b D hD;obtain ⟨Pv,p0,p1,p2,p3⟩:=h b D hD;refine ⟨fun i m ys H=>m=n - i∧i≤n∧Pv i ys H,⟨n,rfl,FB _,p0⟩,?_⟩;rintro i m ys H ⟨rfl,hi,p⟩;refine ⟨p1 i ys H p,?_⟩
 by_cases hlt:i < n
 · obtain ⟨go,st⟩:=p3 i ys H hlt p
   refine .inr ⟨go,fun x H3 y=>⟨J3k,?_⟩⟩;exact st x H3 y
 · have e:i=n:=by omega
   subst e;exact .inl (p2 ys H p)
theorem Cf{D:Addr}{o:HO}(h:H1 D=none):A7 H1 (upd H1 D o):=fun b u e=>by rw [A2 (A8 e h)];exact e
theorem W0{z:Str}(f:Nat→V)(hz:z.cps.size≤sizeLine)(he:∀b c H Q',c∈z.cps.toList→A7 H1 H→Q' (f c) H→te b (some (.str ⟨#[c]⟩)::tail) H Q')
 (q:∀D,H1 D=none→Q (.ref D) (upd H1 D (.lst (z.cps.toList.map f)))):C1 (none::tail) (fun _=>C7 0) (fun _=>Pf) te Q (Its z) H1:=by
 refine Lk z.cps.size (fun b D hD=>⟨fun i ys H=>i≤z.cps.size∧ys=(z.cps.toList.take i).map f∧H=upd H1 D (.lst ys),⟨FB _,rfl,rfl⟩,?_,?_,?_⟩)
 · rintro i ys H ⟨hi,rfl,rfl⟩
   exact A3
 · rintro ys H ⟨_,rfl,rfl⟩
   refine ⟨Fh _,?_⟩;have e:z.cps.toList.take z.cps.size=z.cps.toList:=FQ (by simp);rw [e];exact q D hD
 · rintro i ys H hi ⟨_,rfl,rfl⟩
   refine ⟨hi,fun x H3 ⟨e3,c,hc,ex⟩=>?_⟩;subst e3 ex
   have hc':z.cps.toList[i]?=some c:=by simpa using hc
   refine he b c _ _ (Fk hc') (Cf hD) (Il A3 (by rw [Fa,FX,Ft];omega) hi ⟨hi,?_,?_⟩)
   · rw [Hg,hc'];simp
   · funext a;by_cases ha:a=D <;> simp [upd,ha]
theorem Oe{lo:Int}{n:Nat}(f:Int→V)(hz:n≤sizeLine)(he:∀b (i:Nat) H Q',i < n→A7 H1 H→Q' (f (lo+i)) H→te b (some (.int (lo+i))::tail) H Q')
 (q:∀D,H1 D=none→Q (.ref D) (upd H1 D (.lst ((List.range n).map fun (i:Nat)=>f (lo+(i:Int)))))):C1 (none::tail) (fun _=>C7 0) (fun _=>Pf) te Q (Itr lo n) H1:=by
 refine Lk n (fun b D hD=>⟨fun i ys H=>i≤n∧ys=(List.range i).map (fun (i:Nat)=>f (lo+(i:Int)))∧H=upd H1 D (.lst ys),⟨FB _,rfl,rfl⟩,?_,?_,?_⟩)
 · rintro i ys H ⟨hi,rfl,rfl⟩
   exact A3
 · rintro ys H ⟨_,rfl,rfl⟩
   exact ⟨Fh _,q D hD⟩
 · rintro i ys H hi ⟨_,rfl,rfl⟩
   refine ⟨hi,fun x H3 ⟨e3,ex⟩=>?_⟩;subst e3 ex;refine he b i _ _ hi (Cf hD) (Il A3 (by rw [Fa,Fv];omega) hi ⟨hi,?_,?_⟩)
   · rw [Hn];simp
   · funext a;by_cases ha:a=D <;> simp [upd,ha]
end
section
variable {σ:St} {H:Hp} {Q:VK} {D:Ib} {K:PySem.W.Frag}
theorem Xs{wi:TI}{fs:List Nat}{te:Blk→TE}:Vz wi fs te σ H Q=wi σ H (C1 (none::fs.map fun j=>σ.getD j none) (fun _=>C7 0) (fun _=>Pf) te Q):=rfl
theorem Xt{tl:TE}{R:It→Hp→Prop}:Jcg tl σ H R=tl σ H fun x H1=>∃z,x= .str z∧R (Its z) H1:=rfl
theorem J99{r:V→Option Int→Option Int→Hp→VK→Prop}{te:TE}{tl th:TO}:tSl r te tl th σ H Q=te σ H fun x H1=>tl σ H1 fun l H2=>th σ H2 fun u H3=>r x l u H3 Q:=rfl
theorem Q0{QO:Option Int→Hp→Prop}:X9 σ H QO=QO none H:=rfl
theorem Xu{t:TE}{QO:Option Int→Hp→Prop}:J8v t σ H QO=t σ H fun x H1=>∃i,x= .int i∧QO (some i) H1:=rfl
theorem J3l{x:V}{lo hi:Option Int}:Jch x lo hi H Q=∃z,x= .str z∧z.length≤sizeLine∧Q (.str (Txt.slice z lo hi)) H:=rfl
theorem J3m{x:V}{lo hi:Option Int}:Jc5 K x lo hi H Q=∃a xs,x= .ref a∧SqL K H a xs∧∀p,H p=none→Q (.ref p) (upd H p (.lst (G3 xs lo hi))):=rfl
theorem J9a{T:String}{r:V→List V→Hp→VK→Prop}{to:TE}{t:TA}:tBM K T r to t σ H Q=to σ H fun x H1=>tyV K T x H1∧t σ H1 fun xs H2=>r x xs H2 Q:=rfl
theorem J3n{T:String}{r:V→List V→Hp→VK→Prop}{to:TE}:Jc6 K T r to σ H Q=to σ H fun x H1=>tyV K T x H1∧r x [] H1 Q:=rfl
theorem Xv{z:Str}:tyV K "str" (.str z) H=True:=eq_true rfl
theorem Xw{x:V}{vs:List V}:J98 K x vs H Q=∃z p ys,x= .str z∧vs=[.ref p]∧SqL K H p (ys.map V.str)∧(ys.map (·.length)).sum+ys.length * z.length≤16777216∧Q (.str (Txt.join z ys)) H:=rfl
theorem Tt{x:V}{vs:List V}:J3h x vs H Q=∃z y,x= .str z∧vs=[.str y]∧(y.length==0)=false∧z.length+2≤sizeLine∧∀p,H p=none→Q (.ref p) (upd H p (.lst ((Txt.split z y).map V.str))):=rfl
theorem J3o{xs:List V}:Jci K xs H Q=∃(p:Addr) (bs:List Bool),xs=[.ref p]∧SqL K H p (bs.map V.bl)∧Q (.bl (bs.all id)) H:=rfl
theorem Tu:J2p σ H Q=∀p,H p=none→Q (.ref p) (upd H p (.dK [])):=rfl
theorem Mo{z:Str}{i:Int}{c:Nat}(hz:z.length≤sizeLine)(e:atI z.cps.toList i=some c)(q:Q (.str ⟨#[c]⟩) H):Jc4 (.str z) (.int i) H Q:=⟨z,i,c,rfl,rfl,hz,e,q⟩
theorem J9b{X:Cx}{scope:Scope}{N':List Str}{b:Blk}:(X.blk scope N' b).K=X.K:=rfl
end
section
variable {X:Cx} {x:Str} {pos:Pos}
theorem Dg{i:Int}(hg:Gl X x)(hm:∃t,X.mg x=some (.int i t))(hd:(x==("__debug__":Str))=false:=by decide):PE X (.Name x pos) (tC (.int i)):=by
 obtain ⟨t,hm⟩:=hm;exact Ql hg hm ⟨t,rfl⟩ hd
theorem Nn{z:Str}(hg:Gl X x)(hm:∃t,X.mg x=some (.str z t))(hd:(x==("__debug__":Str))=false:=by decide):PE X (.Name x pos) (tC (.str z)):=by
 obtain ⟨t,hm⟩:=hm;exact Ql hg hm ⟨t,rfl⟩ hd
end
theorem Ae:sizeLine=16777216:=by decide
theorem D6{a b:Str}:(a++b).length=a.length+b.length:=strLen_append a b
theorem J6s{c:Nat}:(⟨#[c]⟩:Str).length=1:=rfl
theorem Em{z:Str}:z.cps.toList.length=z.length:=by simp [Str.length]
theorem C2{a b:Str}:(a++b).cps.toList=a.cps.toList++b.cps.toList:=by
 show (a.cps++b.cps).toList=_;simp
theorem J0r{K:PySem.W.Frag}{H:Hp}{a:Addr}{ns:List Int}{R:List Int→Prop}(h:SqL K H a (ns.map V.int))(hl:ns.length≤63)(q:R ns):∃x:List Int,SqL K H a (x.map V.int)∧x.length≤63∧R x:=⟨ns,h,hl,q⟩
def Jan(z y:Str):Bool:=!(Builtin.Str.occurrences z y 0 z.length 1).isEmpty
theorem Tv{z:Str}{c:Nat}:Jan z ⟨#[c]⟩=decide (c∈z.cps.toList):=StrLaws.found_one z c
def Jcj:R2:=fun x y H Q=>∃i j,x= .str i∧y= .str j∧Q (.bl (Jan j i)) H
theorem J3p{X:Cx}:OpR X (compareOp .In) Jcj:=J0g
theorem J3q{x y:V}{H:Hp}{Q:VK}:Jcj x y H Q=∃i j,x= .str i∧y= .str j∧Q (.bl (Jan j i)) H:=rfl
theorem Jck{α:Type}{c:α}{r:List α}:atI (c::r) 0=some c:=Mm (by decide) rfl
end L2
namespace L2
def E9(xs ys:List V):Bool:=match xs,ys with
 | [],[]=>true
 | x::xs,y::ys=>eqV x y && E9 xs ys
 | _,_=>false
theorem Ea:∀{xs ys:List V},xs.length≠ys.length→E9 xs ys=false
 | [],[],h=>absurd rfl h
 | [],_::_,_=>rfl
 | _::_,[],_=>rfl
 | x::xs,y::ys,h=>by
  unfold E9;rw [Ea (fun e=>h (by simp [e])),Bool.and_false]
theorem Dc:∀{xs ys:List V},xs.length=ys.length→E9 xs ys=(List.range xs.length).all fun i=>eqV (xs.getD i .non) (ys.getD i .non)
 | [],[],_=>rfl
 | [],_::_,h=>by cases h
 | _::_,[],h=>by cases h
 | x::xs,y::ys,h=>by
  unfold E9;rw [Dc (by simpa using h),List.length_cons,Jq,JL,JT];rfl
theorem S1{x y:Str}:eqV (.str x) (.str y)=decide (x=y):=rfl
theorem Nb:∀{xs ys:List Str},E9 (xs.map V.str) (ys.map V.str)=decide (xs=ys)
 | [],[]=>rfl
 | [],_::_=>rfl
 | _::_,[]=>rfl
 | x::xs,y::ys=>by
  show (eqV (.str x) (.str y) && E9 (xs.map V.str) (ys.map V.str))=_;rw [Nb,S1]
  by_cases h:x=y
  · subst h;simp
  · simp [h]
def EqQ(K:PySem.W.Frag)(H:Hp)(x y:V)(r:Bool):Prop:=∃a b xs ys,x= .ref a∧y= .ref b∧((SqL K H a xs∧SqL K H b ys)∨(SqT K H a xs∧SqT K H b ys))∧xs.all C0=true∧ys.all C0=true∧r=E9 xs ys
section
variable {X:Cx} {pins:List (Addr×Obj)} {σ:St} {H:Hp} {s:Shared}
theorem Gh{xs ys:List V}{us ws:List Value}{A:Around}(rx:Au xs us)(ry:Au ys ws)(fx:xs.all C0=true)(fy:ys.all C0=true):
 ∀j (h1:j < us.toArray.size) (h2:j < ws.toArray.size),SeqAt.EqAt A s us.toArray[j] ws.toArray[j] (eqV (xs.getD j .non) (ys.getD j .non)):=by
 intro j h1 h2;have lx:=rx.length;have ly:=ry.length;rw [Fl]at h1 h2
 have hx:j < xs.length:=by omega
 have hy:j < ys.length:=by omega
 obtain ⟨u,hu,ru⟩:=rx.get (i:=j) (x:=xs[j]) (by simp [hx]);obtain ⟨w,hw,rw'⟩:=ry.get (i:=j) (x:=ys[j]) (by simp [hy])
 have eu:us.toArray[j]=u:=by
  have:=Fb h1;rw [this]at hu
  simpa using hu
 have ew:ws.toArray[j]=w:=by
  have:=Fb h2;rw [this]at hw
  simpa using hw
 rw [eu,ew,Fc,Fc,Fb hx,Fb hy];exact J2h ru rw' (Hf.mp fx _ (FU hx)) (Hf.mp fy _ (FU hy))
theorem J3r{x y:V}{u v:Value}{r:Bool}{A:Around}(I:Inv X pins σ H s)(rx:Ax x u)(ry:Ax y v)(h:EqQ X.K H x y r)(hu:A.units < cLine):SeqAt.RcAt A s u v r:=by
 obtain ⟨a,b,xs,ys,rfl,rfl,hq,fx,fy,rfl⟩:=h;cases rx;cases ry;rcases hq with ⟨h1,h2⟩ | ⟨h1,h2⟩
 · obtain ⟨us,r1,p1,z1⟩:=I.list h1
   obtain ⟨ws,r2,p2,z2⟩:=I.list h2;have lx:=r1.length;have ly:=r2.length
   by_cases hl:xs.length=ys.length
   · rw [Dc hl]
     have:=SeqAt.RcAt.lists p1.isList p2.isList (by simp;omega) hu (Gh r1 r2 fx fy);rw [Fl,← lx]at this;exact this
   · rw [Ea hl]
     exact SeqAt.RcAt.lists_lengths p1.isList p2.isList (by simp;omega) hu
 · obtain ⟨us,r1,p1,z1⟩:=I.tuple h1
   obtain ⟨ws,r2,p2,z2⟩:=I.tuple h2;have lx:=r1.length;have ly:=r2.length;have:=SeqAt.RcAt.tuples (show s.heap.IsTuple a us.toArray from p1) (show s.heap.IsTuple b ws.toArray from p2) hu (Gh r1 r2 fx fy);rw [Fl,Fl,← lx,← ly]at this
   by_cases hl:xs.length=ys.length
   · rw [Dc hl]
     rw [hl,Nat.min_self,Jk,Bool.and_true]at this;rw [hl];exact this
   · rw [Ea hl]
     rw [HG.mpr hl,Bool.and_false]at this;exact this
theorem Jao{x y:V}{u v:Value}{r:Bool}{A:Around}(I:Inv X pins σ H s)(rx:Ax x u)(ry:Ax y v)(h:EqQ X.K H x y r)(hu:A.units < cLine):SeqAt.RcNeAt A s u v (!r):=by
 obtain ⟨a,b,xs,ys,rfl,rfl,hq,fx,fy,rfl⟩:=h;cases rx;cases ry;rcases hq with ⟨h1,h2⟩ | ⟨h1,h2⟩
 · obtain ⟨us,r1,p1,z1⟩:=I.list h1
   obtain ⟨ws,r2,p2,z2⟩:=I.list h2;have lx:=r1.length;have ly:=r2.length
   by_cases hl:xs.length=ys.length
   · rw [Dc hl]
     have:=SeqAt.RcNeAt.lists p1.isList p2.isList (by simp;omega) hu (Gh r1 r2 fx fy);rw [Fl,← lx]at this;exact this
   · rw [Ea hl]
     exact SeqAt.RcNeAt.lists_lengths p1.isList p2.isList (by simp;omega) hu
 · obtain ⟨us,r1,p1,z1⟩:=I.tuple h1
   obtain ⟨ws,r2,p2,z2⟩:=I.tuple h2;have lx:=r1.length;have ly:=r2.length;have:=SeqAt.RcNeAt.tuples (show s.heap.IsTuple a us.toArray from p1) (show s.heap.IsTuple b ws.toArray from p2) hu (Gh r1 r2 fx fy);rw [Fl,Fl,← lx,← ly]at this
   by_cases hl:xs.length=ys.length
   · rw [Dc hl]
     rw [hl,Nat.min_self,Jk,Bool.and_true]at this;rw [hl];exact this
   · rw [Ea hl]
     rw [HG.mpr hl,Bool.and_false]at this;exact this
def Jcl(K:PySem.W.Frag):R2:=fun x y H Q=>∃r,EqQ K H x y r∧Q (.bl r) H
def Jcm(K:PySem.W.Frag):R2:=fun x y H Q=>∃r,EqQ K H x y r∧Q (.bl (!r)) H
theorem W1{k:Nat}(hr:Bt k X.A):OpR X (compareOp .Eq) (Jcl X.K):=by
 intro pins s σ H x y v u Q I rx ry h;obtain ⟨r,e,q⟩:=h;exact J3r I rx ry e (FM (by omega) hr.un) X.prog X.w X.xe _ ⟨.bl r,H,I,rfl,q⟩
theorem Jap{k:Nat}(hr:Bt k X.A):OpR X (compareOp .NotEq) (Jcm X.K):=by
 intro pins s σ H x y v u Q I rx ry h;obtain ⟨r,e,q⟩:=h;exact Jao I rx ry e (FM (by omega) hr.un) X.prog X.w X.xe _ ⟨.bl (!r),H,I,rfl,q⟩
end
section
variable {K:PySem.W.Frag} {H:Hp} {Q:VK} {x y:V}
theorem J3s:Jcl K x y H Q=∃r,EqQ K H x y r∧Q (.bl r) H:=rfl
theorem J3t:Jcm K x y H Q=∃r,EqQ K H x y r∧Q (.bl (!r)) H:=rfl
theorem Im{xs:List Str}:(xs.map V.str).all C0=true:=by
 rw [JT];exact Hf.mpr fun _ _=>rfl
theorem Tw{a b:Addr}{xs ys:List Str}(h1:SqL K H a (xs.map V.str))(h2:SqL K H b (ys.map V.str)):EqQ K H (.ref a) (.ref b) (decide (xs=ys)):=⟨a,b,_,_,rfl,rfl,.inl ⟨h1,h2⟩,Im,Im,Nb.symm⟩
end
end L2
namespace L2
structure Be(P:Program)(w:World)(K:PySem.W.Frag)(mg:Str→Option Value)(base:Heap)(CX:CXT)(k:Nat)(C:Addr)(m:Str)(ps:List Str)(sp:Sp):Prop where
 ex:∃(f:Addr) (fd:FuncData),Ar P w K mg base CX k f fd ps sp∧Cj K C m f∧Ca K fd ps []
structure Tx(P:Program)(w:World)(K:PySem.W.Frag)(mg:Str→Option Value)(base:Heap)(CX:CXT)(k:Nat)(x:Str)(C:Addr)(ps:List Str)(sp:Sp):Prop where
 ex:∃(f:Addr) (fd:FuncData),Ar P w K mg base CX k f fd ps sp∧Mk K C f∧mg x=some (.ref C)∧Ca K fd ps []
def W2(C:Addr)(m:Str)(sp:Sp)(EE:St→XK)(ta:TE)(t:TA):TE:=fun σ H Q=>ta σ H fun x H1=>∃a dx fs,x= .ref a∧H1 a=some (.ins C dx fs)∧fs.lookup m=none∧t σ H1 fun vs H2=>sp (x::vs) H2 Q (EE σ)
def J3u(C:Addr)(sp:Sp)(EE:St→XK)(t:TA):TE:=fun σ H Q=>t σ H fun vs H1=>∀x dx,H1 x=none→H1 dx=none→dx≠x→sp (.ref x::vs) (upd (upd H1 dx (.own x)) x (.ins C dx [])) (fun v H2=>v= .non∧Q (.ref x) H2) (EE σ)
section
variable {X:Cx} {CX:CXT} {k j:Nat} {f C:Addr} {fd:FuncData} {ps:List Str} {sp:Sp} {EE:St→XK} {E:XK} {x m:Str} {p pos apos:Pos} {e o:Expr} {es:List Expr} {ta:TE} {t:TA}
theorem As(h:Mh CX X E):Ka CX X fun _=>E:=fun pins σ H s e s' I hc=>h pins σ H s e s' I hc
theorem S3{pins:List (Addr×Obj)}{σ:St}{H:Hp}{s:Shared}{Q:VK}{us:List Value}{vs:List V}(F:Ar X.prog X.w X.K X.mg X.base CX k f fd ps sp)(hr:Bt k X.A)(hb:Ca X.K fd ps [])(hx:Ka CX X EE)
 (I:Inv X pins σ H s) (r:Au vs us) (h:sp vs H Q (EE σ)):wpAny (model X.prog X.w) X.A (call (.ref f) us) (EP X pins σ Q) X.xe s:=by
 have hl:us.length=ps.length:=by rw [← r.length];exact F.len _ _ _ _ h
 have hb':=hb s us I.kIn (by simpa using hl);rw [FT]at hb';refine RY (HY (F.run X.A X.stack s H ⟨us,[]⟩ us vs Q (EE σ) hr I.env0 hb' r h) fun r s' hq=>?_)
 cases r with
 | error e=>exact hx pins σ H s e s' I hq
 | ok fl=>
  cases fl with
  | ret u=>exact I.after hq
  | next=>exact False.elim hq
  | brk=>exact False.elim hq
  | cont=>exact False.elim hq
theorem Aj{pl:Sem Bool}(D:Be X.prog X.w X.K X.mg X.base CX j C m ps sp)(c:Cls X.K C)(hr:Bt k X.A)(hx:Ka CX X EE)(he:PE X o ta)(ha:PA X (e::es) t)(hj:j≤k:=by decide)
 (hst:starEach (e::es) X.env=(false,eval e X.env)::starEach es X.env:=by rfl) (hpl:(backTo pos (starEach es X.env)).any (·.1)=false:=by rfl)
 (ht:eval (.Call (.Attribute o m apos) (e::es) [] pos) X.env=(do
  let ov ← eval o X.env
  standAt apos.atName
  let (f,first) ← holding [ov] (getMethod ov m pl)
  callWith pos f first (backTo pos (starEach (e::es) X.env)) (backToKw pos (keywordEach [] X.env))):=by rfl):
 PE X (.Call (.Attribute o m apos) (e::es) [] pos) (W2 C m sp EE ta t):=by
 obtain ⟨f,fd,F,hm,hb⟩:=D.ex;intro pins s σ H Q I h;refine Jv (pl:=pl) (thn (he pins s σ H _ I h) fun u s1 hq_=>?_) ht;obtain ⟨x,H1,I1,rx,a,dx,fs,ex,ea,l,q⟩:=hq_;subst ex;obtain rfl:u=Value.ref a:=rx;refine O4 I1 ea c hm l ?_;refine Rn (first:=[.ref a]) (h₀:=X.base) I.ok.mod.kin hm.kp (thn (ha pos pins s1 σ H1 _ I1 q) fun us s2 ⟨vs,H2,I2,r,q2⟩=>⟨I2.kIn,?_⟩) hst hpl;exact S3 (us:= .ref a::us) (vs:= .ref a::vs) (F.mono hj) hr hb hx I2 (.cons rfl r) q2
theorem Bu{pl:Sem Bool}(D:Be X.prog X.w X.K X.mg X.base CX j C m ps sp)(c:Cls X.K C)(hr:Bt k X.A)(hx:Ka CX X EE)(he:PE X o ta)(hj:j≤k:=by decide)
 (ht:eval (.Call (.Attribute o m apos) [] [] pos) X.env=(do
  let ov ← eval o X.env
  standAt apos.atName
  let (f,first) ← holding [ov] (getMethod ov m pl)
  callWith pos f first (backTo pos (starEach [] X.env)) (backToKw pos (keywordEach [] X.env))):=by rfl):
 PE X (.Call (.Attribute o m apos) [] [] pos) (W2 C m sp EE ta Ja6):=by
 obtain ⟨f,fd,F,hm,hb⟩:=D.ex;intro pins s σ H Q I h;refine Jv (pl:=pl) (thn (he pins s σ H _ I h) fun u s1 hq_=>?_) ht;obtain ⟨x,H1,I1,rx,a,dx,fs,ex,ea,l,q⟩:=hq_;subst ex;obtain rfl:u=Value.ref a:=rx;refine O4 I1 ea c hm l ?_;exact PySem.W.callWith_K0 (first:=[.ref a]) I1.kIn hm.kp (S3 (us:=[.ref a]) (vs:=[.ref a]) (F.mono hj) hr hb hx I1 (.cons rfl .nil) q)
theorem Eb(D:Tx X.prog X.w X.K X.mg X.base CX j x C ps sp)(hr:Bt k X.A)(hg:Gl X x)(hx:Ka CX X EE)(ha:PA X (e::es) t)(hj:j+1≤k:=by decide)(hdb:(x==("__debug__":Str))=false:=by decide)
 (he:starEach (e::es) X.env=(false,eval e X.env)::starEach es X.env:=by rfl) (hpl:(backTo pos (starEach es X.env)).any (·.1)=false:=by rfl):
 PE X (.Call (.Name x p) (e::es) [] pos) (J3u C sp EE t):=by
 obtain ⟨f,fd,F,M,hm,hb⟩:=D.ex;intro pins s0 σ H0 Q I0 h;refine Hz (Nl I0 hg hm ?_ hdb);refine Rn (h₀:=X.base) I0.ok.mod.kin M.kp (thn (ha pos pins s0 σ H0 _ I0 h) fun us s ⟨vs,H,I,r,q⟩=>⟨I.kIn,?_⟩) he hpl;have hq:=q (s.heap.objs.size+1) s.heap.objs.size (I.hok.fresh (R5 _)) (I.hok.fresh (Fh _)) (Fs (Hu _));have I2:=Inv.made (C:=C) I;have r2:Au (V.ref (s.heap.objs.size+1)::vs) (Value.ref (s.heap.objs.size+1)::us):= .cons rfl r
 have hl:(Value.ref (s.heap.objs.size+1)::us).length=ps.length:=by
  rw [← r2.length];exact F.len _ _ _ _ hq
 have hb':=fun s' (h':X.K.In s'.heap)=>hb s' (Value.ref (s.heap.objs.size+1)::us) h' (by simpa using hl);have hr':Bt (j+1) X.A:=hr.mono hj
 refine RY (J2b (f:=f) I.kIn M.makes M.init (R7.mp M.fn) (HY (F.run _ X.stack _ _ ⟨Value.ref (s.heap.objs.size+1)::us,[]⟩ (Value.ref (s.heap.objs.size+1)::us) _ _ (EE σ) (hr'.make C us [])
  (I2.env0.make C us []) (by have:=hb' _ I2.kIn;rw [FT]at this;exact this) r2 hq) fun r s' hq'=>?_))
 cases r with
 | error e=>exact hx pins σ _ _ e s' I2 hq'
 | ok fl=>
  cases fl with
  | ret u=>
   obtain ⟨v,H',I3,rv,ev,q3⟩:=I2.after hq';subst ev;exact ⟨rv,⟨V.ref (s.heap.objs.size+1),H',I3,rfl,q3⟩⟩
  | next=>exact False.elim hq'
  | brk=>exact False.elim hq'
  | cont=>exact False.elim hq'
end
section
variable {σ:St} {H:Hp} {Q:VK} {D:Ib} {K:PySem.W.Frag}
theorem Tz{C:Addr}{m:Str}{sp:Sp}{EE:St→XK}{ta:TE}{t:TA}:W2 C m sp EE ta t σ H Q=ta σ H fun x H1=>∃a dx fs,x= .ref a∧H1 a=some (.ins C dx fs)∧fs.lookup m=none∧t σ H1 fun vs H2=>sp (x::vs) H2 Q (EE σ):=rfl
theorem U0{C:Addr}{sp:Sp}{EE:St→XK}{t:TA}:J3u C sp EE t σ H Q=t σ H fun vs H1=>∀x dx,H1 x=none→H1 dx=none→dx≠x→sp (.ref x::vs) (upd (upd H1 dx (.own x)) x (.ins C dx [])) (fun v H2=>v= .non∧Q (.ref x) H2) (EE σ):=rfl
theorem J3v{ta:TE}{f:Str}:Jbw K ta f σ H Q=ta σ H fun x H1=>∃a C dx fs v,x= .ref a∧H1 a=some (.ins C dx fs)∧Cls K C∧B5 K C f∧fs.lookup f=some v∧Q v H1:=rfl
theorem Xx{ta tv:TE}{f:Str}:Jbx K ta tv f D σ H=tv σ H fun y H1=>ta σ H1 fun x H2=>∃a C dx fs,x= .ref a∧H2 a=some (.ins C dx fs)∧Cls K C∧B5 K C f∧fs.length < 1000∧D.nx σ (upd H2 a (.ins C dx (Av f y fs))):=rfl
theorem J3w{ty td:TE}:Jcb ty td σ H Q=ty σ H fun y H1=>td σ H1 fun x H2=>∃a o,x= .ref a∧D0 H2 a y o∧Q (.bl o.isSome) H2:=rfl
theorem Q1{ty td:TE}:Xc ty td σ H Q=ty σ H fun y H1=>td σ H1 fun x H2=>∃a o,x= .ref a∧D0 H2 a y o∧Q (.bl (!o.isSome)) H2:=rfl
theorem Xy{td ty:TE}:J8z td ty σ H Q=td σ H fun x H1=>ty σ H1 fun y H2=>∃a v,x= .ref a∧D0 H2 a y (some v)∧Q v H2:=rfl
theorem Xz{td ty tv:TE}:J90 td ty tv D σ H=tv σ H fun v H1=>td σ H1 fun x H2=>ty σ H2 fun y H3=>∃a H4,x= .ref a∧Oa H3 a y v H4∧D.nx σ H4:=rfl
theorem Y0{n:Nat}{t:TGs}{v:V}{N:St→Hp→Prop}:J9z K n t v σ H N=∃a xs,v= .ref a∧SqT K H a xs∧xs.length=n∧t xs σ H N:=rfl
end
theorem Jaq{a b:Str}{n:Nat}(h1:a.length≤n / 2)(h2:b.length≤n / 2):(a++b).length≤n:=by
 rw [D6];omega
end L2
namespace L2
section
variable {K:PySem.W.Frag} {x qual:Str} {st:Stmt} {f:Addr} {fd:FuncData} {p q r t:Str}
theorem Fun.b1(F:Fun K x qual st f fd)(h:∀(kV doc pm:Value) (an:Option Addr) (cdv ct u:Value),bindArgs (PySem.W.fnOf x qual (Bp st) (Bg st) (A6 st) .none kV doc pm an cdv ct) ⟨[u],[]⟩=pure [(p,u)]):Ca K fd [p] []:=
 F.binds (ps:=[p]) fun kV doc pm an cdv ct us hl=>match us,hl with | [u],_=>h kV doc pm an cdv ct u
theorem Fun.b2(F:Fun K x qual st f fd)(h:∀(kV doc pm:Value) (an:Option Addr) (cdv ct u v:Value),bindArgs (PySem.W.fnOf x qual (Bp st) (Bg st) (A6 st) .none kV doc pm an cdv ct) ⟨[u,v],[]⟩=pure [(p,u),(q,v)]):Ca K fd [p,q] []:=
 F.binds (ps:=[p,q]) fun kV doc pm an cdv ct us hl=>match us,hl with | [u,v],_=>h kV doc pm an cdv ct u v
theorem Fun.b3(F:Fun K x qual st f fd)(h:∀(kV doc pm:Value) (an:Option Addr) (cdv ct u v w:Value),bindArgs (PySem.W.fnOf x qual (Bp st) (Bg st) (A6 st) .none kV doc pm an cdv ct) ⟨[u,v,w],[]⟩=pure [(p,u),(q,v),(r,w)]):Ca K fd [p,q,r] []:=
 F.binds (ps:=[p,q,r]) fun kV doc pm an cdv ct us hl=>match us,hl with | [u,v,w],_=>h kV doc pm an cdv ct u v w
end
end L2
namespace N1
open PySem L2
def Bh:List Nat:=List.range' 97 26
def Bl:List Nat:=List.range' 48 10
theorem U1:(Str.ofString "abcdefghijklmnopqrstuvwxyz").cps.toList=Bh:=by decide+kernel
theorem U2:(Str.ofString "0123456789").cps.toList=Bl:=by decide+kernel
theorem J0s:(Str.ofString "abcdefghijklmnopqrstuvwxyz0123456789").cps.toList=Bh++Bl:=by decide+kernel
theorem U3:(Bh++Bl).length=36:=by decide
theorem Y1{c:Nat}:c∈Bl↔48≤c∧c < 58:=by unfold Bl;rw [Rv]
def Mp(l:List Nat)(s:List Nat):Bool:=match l with
 | []=>false
 | c::_=>decide (c∈s)
def Bz(l:List Nat):Bool:=decide (1≤l.length) && decide (l.length≤8) && Mp l Bh && l.all fun c=>decide (c∈Bh++Bl)
end N1
namespace N1
open PySem L2
def S4(l:List Nat):Bool:=decide (1≤l.length) && decide (l.length≤31) && l.all (fun c=>decide (c∈Bl)) && !(Mp l [48] && !decide (l=[48]))
def S5(l:List Nat):Int:=((NumText.digitsVal l:Nat):Int)
theorem Y2{l:List Nat}:(l.all fun c=>decide (c∈Bl))=true↔NumText.AllDigits l:=by
 rw [Hf];constructor
 · intro h c hc
   have:=h c hc;rw [decide_eq_true_eq,Y1]at this;omega
 · intro h c hc
   have:=h c hc;rw [decide_eq_true_eq,Y1];omega
theorem J6t{c:Nat}:((⟨#[c]⟩:Str)=Str.ofString "0")↔c=48:=by
 have e:Str.ofString "0"=⟨#[48]⟩:=by decide+kernel
 rw [e];simp
theorem J3x{z:Str}:(z=Str.ofString "0")↔z.cps.toList=[48]:=by
 have e:Str.ofString "0"=⟨#[48]⟩:=by decide+kernel
 rw [e];constructor
 · intro h;rw [h]
 · intro h
   have:z.cps=#[48]:=by rw [← Array.toList_inj];exact h
   cases z;simp at this;subst this;rfl
theorem J3y{z:Str}(h:(z.cps.toList.all fun c=>decide (c∈Bl))=true)(h1:z.cps.toList≠[])(h2:z.length≤4300):PySem.intText? z=some (S5 z.cps.toList):=PySem.intText_digits (Y2.mp h) h1 h2
end N1
namespace N1
open PySem L2
def tx(l:List Nat):Str:=⟨l.toArray⟩
theorem Io{l:List Nat}:(tx l).cps.toList=l:=by simp [tx]
theorem Jd7{z:Str}:tx z.cps.toList=z:=by cases z;simp [tx]
theorem J9c{a b:List Nat}(h:tx a=tx b):a=b:=by rw [← Io (l:=a),h,Io]
theorem Y3{a b:List Nat}:tx a++tx b=tx (a++b):=by
 have h:=C2 (a:=tx a) (b:=tx b);rw [Io,Io]at h;rw [← Jd7 (z:=tx a++tx b),h]
theorem U4{l:List Nat}:(tx l).length=l.length:=by rw [← Em,Io]
theorem Jcn{c:Nat}:(⟨#[c]⟩:Str)=tx [c]:=rfl
theorem U5:(Str.ofString "abcdefghijklmnopqrstuvwxyz0123456789").length=36:=by decide+kernel
def bc(i:Int):Nat:=(Bh++Bl).getD i.toNat 0
theorem Y4(i:Int){k:Int}(h0:0 < k)(h1:k≤36):atI (Str.ofString "abcdefghijklmnopqrstuvwxyz0123456789").cps.toList (i % k)=some (bc (i % k)):=by
 have h2:=Hm i h0;have h3:=Ht i (show k≠0 by omega);refine Mm h3 ?_
 have h4:(i % k).toNat < (Bh++Bl).length:=by rw [U3];omega
 unfold bc;rw [J0s,Fc,Fb h4];rfl
theorem J0t:(Str.ofString " ").length=1:=by decide+kernel
end N1
namespace N1
open L2
def Np(K:PySem.W.Frag):Sp:=fun vs H Q _=>∃(a:Addr) (ns:List Int) (k:Int),vs=[.ref a,.int k]∧SqL K H a (ns.map V.int)∧0≤k∧ns.length≤63∧Q (.int (ns.getD k.toNat 0)) H
def Ll:Sp:=fun vs H Q _=>∃(z w:Str),vs=[.str z,.str w]∧z.length≤sizeLine∧∀H',A7 H H'→Q (.bl (z.cps.toList.all fun c=>decide (c∈w.cps.toList))) H'
def Ec(K:PySem.W.Frag):Sp:=fun vs H Q _=>∃(x:V),vs=[x]∧((∃z:Str,x= .str z∧z.length≤sizeLine∧∀H',A7 H H'→Q (.bl (Bz z.cps.toList)) H')∨(Isi K H x "str" false∧Q (.bl false) H))
end N1
namespace N1
open L2
inductive StE where
 | noname | twice | nonum | many
def nOk:V→Bool
 | .str z=>Bz z.cps.toList
 | _=>false
def sOf:V→Str
 | .str z=>z
 | _=>Str.empty
def wIn(lo hi:Int):V→Bool
 | .int i=>decide (lo≤i) && decide (i≤hi)
 | _=>false
abbrev Rw:=Addr×V×V×V
def U6(ks:List Str)(n c r:V):Option StE:=if nOk n=false then some .noname else if sOf n∈ks then some .twice else if wIn 0 (10 ^ 30) c=false then some .nonum else if wIn 1 1000 r=false then some .nonum else none
def Ip(ks:List Str):List Rw→Option StE
 | []=>none
 | t::rs=>match U6 ks t.2.1 t.2.2.1 t.2.2.2 with
  | some e=>some e
  | none=>Ip (ks++[sOf t.2.1]) rs
def U7(rs:List Rw):Option StE:=if 60 < rs.length then some .many else Ip [] rs
theorem J6u{K:PySem.W.Frag}{H:Hp}{v:V}(h:C0 v=true):∃b c,Isi K H v "int" b∧(b=true→Isi K H v "bool" c)∧((b && !c)=true→∃i,v= .int i)∧((b && !c)=false→∀i,v≠ .int i):=by
 cases v with
 | non=>exact ⟨false,false,J31,fun h=>by (cases h),fun h=>by (cases h),fun _ i h=>by cases h⟩
 | bl b=>exact ⟨true,true,J2z,fun _=>J2y,fun h=>by (cases h),fun _ i h=>by cases h⟩
 | int i=>exact ⟨true,false,J2w,fun _=>J2x,fun _=>⟨i,rfl⟩,fun h=>by cases h⟩
 | str z=>exact ⟨false,false,J30,fun h=>by (cases h),fun h=>by (cases h),fun _ i h=>by cases h⟩
 | _=>cases h
def En(K:PySem.W.Frag):Sp:=fun vs H Q _=>∃(x:V) (b c:Bool),vs=[x]∧Isi K H x "int" b∧(b=true→Isi K H x "bool" c)∧Q (.bl (b && !c)) H
def Cw(K:PySem.W.Frag):Sp:=fun vs H Q _=>∃(v:V) (lo hi:Int),vs=[v,.int lo,.int hi]∧C0 v=true∧Q (.bl (wIn lo hi v)) H
def SameBut(p:Addr)(H H':Hp):Prop:=∀b o,H b=some o→b≠p→H' b=some o
theorem SameBut.trans{p:Addr}{H H1 H2:Hp}(h1:SameBut p H H1)(h2:SameBut p H1 H2):SameBut p H H2:=fun b o e n=>h2 b o (h1 b o e n) n
theorem SameBut.of{p:Addr}{H H1:Hp}(h:A7 H H1):SameBut p H H1:=fun b o e _=>h b o e
theorem U8{p:Addr}{H:Hp}{o:HO}:SameBut p H (upd H p o):=fun b u e n=>by rw [A2 n];exact e
abbrev Th:=Str×Int×Int
def flds(d:Addr):List (Str×V):=Av "things" (.ref d) []
structure Aa(K:PySem.W.Frag)(C:Addr)(H:Hp)(p:Addr)(ts:List Th):Prop where
 ex:∃(dx d:Addr) (kvs:List (Key×V)),H p=some (.ins C dx (flds d))∧H d=some (.dK kvs)∧kvs.map (·.1)=ts.map (fun t=>Sum.inr t.1)∧
  ∀(i:Nat) (t:Th),ts[i]?=some t→∃a,kvs[i]?=some (Sum.inr t.1,.ref a)∧SqT K H a [.int i,.int t.2.1,.int t.2.2]
theorem Aa.same{K:PySem.W.Frag}{C:Addr}{H H':Hp}{p:Addr}{ts:List Th}(s:A7 H H')(h:Aa K C H p ts):Aa K C H' p ts:=by
 obtain ⟨dx,d,kvs,h1,h2,h3,h4⟩:=h.ex;refine ⟨dx,d,kvs,s _ _ h1,s _ _ h2,h3,fun i t e=>?_⟩;obtain ⟨a,e1,e2⟩:=h4 i t e;exact ⟨a,e1,s.tup e2⟩
def iOf:V→Int
 | .int i=>i
 | _=>0
def J6v(t:Rw):Th:=(sOf t.2.1,iOf t.2.2.1,iOf t.2.2.2)
theorem SqT.but{K:PySem.W.Frag}{H H':Hp}{p a C dx:Addr}{fs:List (Str×V)}{xs:List V}(s:SameBut p H H')(hp:H p=some (.ins C dx fs))(h:SqT K H a xs):SqT K H' a xs:=by
 rcases h with (h | ⟨o,h⟩) | h
 · exact .inl (.inl (s _ _ h (Az h hp (by intro z;cases z))))
 · exact .inl (.inr ⟨o,s _ _ h (Az h hp (by intro z;cases z))⟩)
 · exact .inr h
theorem SqL.but{K:PySem.W.Frag}{H H':Hp}{p a C dx:Addr}{fs:List (Str×V)}{xs:List V}(s:SameBut p H H')(hp:H p=some (.ins C dx fs))(h:SqL K H a xs):SqL K H' a xs:=by
 rcases h with (h | ⟨o,h⟩) | h
 · exact .inl (.inl (s _ _ h (Az h hp (by intro z;cases z))))
 · exact .inl (.inr ⟨o,s _ _ h (Az h hp (by intro z;cases z))⟩)
 · exact .inr h
theorem Lm{kvs:List (Key×V)}{ks:List Str}{z:Str}(h:kvs.map (·.1)=ks.map Sum.inr):(B9 kvs (Sum.inr z)).isSome=decide (z∈ks):=by
 have e:(Sum.inr z:Key)∈kvs.map (·.1)↔z∈ks:=by
  rw [h,FH];constructor
  · rintro ⟨a,ha,e⟩;injection e with e;subst e;exact ha
  · intro h;exact ⟨z,h,rfl⟩
 cases hv:B9 kvs (Sum.inr z:Key) with
 | none=>rw [Fz fun q=>J2u hv (e.mpr q)];rfl
 | some v=>rw [Fx (e.mp (J6k hv))];rfl
theorem Cg{d:Addr}:(flds d).lookup ("things":Str)=some (V.ref d):=by
 unfold flds;rw [Ap,if_pos rfl]
theorem Q2{ks:List Str}{n co r:V}(h:U6 ks n co r=none):∃z c q,n= .str z∧co= .int c∧r= .int q∧¬z∈ks∧Bz z.cps.toList=true∧0≤c∧c≤10 ^ 30∧1≤q∧q≤1000:=by
 unfold U6 at h;split at h
 · cases h
 rename_i h1;split at h
 · cases h
 rename_i h2;split at h
 · cases h
 rename_i h3;split at h
 · cases h
 rename_i h4
 cases n with
 | str z=>
  cases co with
  | int c=>
   cases r with
   | int q=>
    simp only [wIn,Bool.and_eq_false_iff,decide_eq_false_iff_not,not_or,Decidable.not_not]at h3 h4;exact ⟨z,c,q,rfl,rfl,rfl,h2,by simpa [nOk] using h1,h3.1,h3.2,h4.1,h4.2⟩
   | _=>exact absurd rfl h4
  | _=>exact absurd rfl h3
 | _=>exact absurd rfl h1
theorem U9{ks:List Str}{rs:List Rw}{i:Nat}{t:Rw}(h:rs[i]?=some t):Ip ks (rs.drop i)=match U6 ks t.2.1 t.2.2.1 t.2.2.2 with
 | some e=>some e
 | none=>Ip (ks++[sOf t.2.1]) (rs.drop (i+1)):=by
 have e:rs.drop i=t::rs.drop (i+1):=by
  obtain ⟨hi,rfl⟩:=Fe.mp h;exact List.drop_eq_getElem_cons hi
 rw [e];rfl
def Ia(rs:List Rw):List Str:=rs.map fun t=>sOf t.2.1
structure Y5(K:PySem.W.Frag)(H:Hp)(d:Addr)(rs:List Rw):Prop where
 ex:∃kvs:List (Key×V),H d=some (.dK kvs)∧kvs.map (·.1)=(Ia rs).map Sum.inr∧∀(j:Nat) (t:Rw),rs[j]?=some t→∃a,kvs[j]?=some (Sum.inr (sOf t.2.1),.ref a)∧SqT K H a [.int j,.int (iOf t.2.2.1),.int (iOf t.2.2.2)]
theorem Y5.snoc{K:PySem.W.Frag}{H:Hp}{d a:Addr}{rs:List Rw}{t:Rw}{kvs:List (Key×V)}{c q:Int}{z:Str}(h1:H d=some (.dK kvs))(h2:kvs.map (·.1)=(Ia rs).map Sum.inr)
 (h3:∀(j:Nat) (t:Rw),rs[j]?=some t→∃a,kvs[j]?=some (Sum.inr (sOf t.2.1),.ref a)∧SqT K H a [.int j,.int (iOf t.2.2.1),.int (iOf t.2.2.2)])
 (e1:t.2.1= .str z) (e2:t.2.2.1= .int c) (e3:t.2.2.2= .int q) (nz:¬z∈Ia rs) (ha:H a=some (.tup [.int kvs.length,.int c,.int q])):
 Y5 K (upd H d (.dK (Cd kvs (Sum.inr z) (.ref a)))) d (rs++[t]):=by
 have hl:kvs.length=rs.length:=by
  have:=congrArg List.length h2
  simpa [Ia] using this
 have hv:B9 kvs (Sum.inr z:Key)=none:=by
  have:=Lm (z:=z) h2;rw [Fz nz]at this
  cases h:B9 kvs (Sum.inr z:Key) with
  | none=>rfl
  | some v=>rw [h]at this;cases this
 have J4d:∀{b:Addr} {xs:List V} {o:List (Key×V)},SqT K H b xs→SqT K (upd H d (.dK o)) b xs:=fun {b xs o} h=>by
  rcases h with (h | ⟨o',h⟩) | h
  · exact .inl (.inl (by rw [A2 (Az h h1 (by intro z;cases z))];exact h))
  · exact .inl (.inr ⟨_,by rw [A2 (Az h h1 (by intro z;cases z))];exact h⟩)
  · exact .inr h
 refine ⟨_,A3,?_,fun j t' hj=>?_⟩
 · rw [Lh _ hv,Fw,h2]
   simp [Ia,e1,sOf]
 · rw [Lh _ hv]
   by_cases hlt:j < rs.length
   · rw [FJ hlt]at hj
     obtain ⟨b,e,hb⟩:=h3 j t' hj;exact ⟨b,by rw [FJ (by omega)];exact e,J4d hb⟩
   · rw [FL (by omega)]at hj
     have hj0:j - rs.length=0:=by
      have:=(Fe.mp hj).1;simp at this;omega
     rw [hj0]at hj;cases hj
     have ej:j=rs.length:=by omega
     subst ej;refine ⟨a,?_,?_⟩
     · rw [← hl,FL (by omega)];simp [e1,sOf]
     · rw [e2,e3]
       refine J4d (SqT.of ?_);rw [ha,hl];rfl
end N1
namespace L2
open PySem.W
section
variable {X:Cx} {pins:List (Addr×Obj)} {σ:List (Option V)} {H H':Hp} {s:Shared} {h':Heap}
theorem Inv.grown{t':Nat}{tp:Addr}{ps more:Array Value}(I:Inv X pins σ H s)(ht:H tp=some (.tbl ps))(k:∀b u,b≠tp→s.heap.get? b=some u→h'.get? b=some u)(e:h'.get? tp=some (tabObj (ps++more)))
 (hT:H' tp=some (.tbl (ps++more))) (old:∀b,b≠tp→b < s.heap.objs.size→H' b=H b) (new:∀b u,s.heap.objs.size≤b→H' b=some u→Bi X.prog X.w H' h' b u):Inv X pins σ H' {s with heap:=h',toks:=t'}:=by
 have lt:∀b u,H b=some u→b < s.heap.objs.size:=fun b u q=>(I.hok b u q).lt
 have nt:∀b u,H b=some u→(∀ps,u≠ .tbl ps)→b≠tp:=fun b u q n z=>by rw [z,ht]at q;cases q;exact n _ rfl
 have st:∀b u,H b=some u→b≠tp→H' b=some u:=fun b u q n=>by rw [old b n (lt b u q)];exact q
 refine I.un ⟨fun b o q n _ _=>k b o (fun z=>by rw [z,ht]at n;cases n) q,fun b o q n _ _=>⟨o.slots,k b o (fun z=>by rw [z,ht]at n;cases n) q⟩,fun b o q n _=>?_,fun b o q _=>?_,fun b xs q=>st b _ q (nt b _ q fun _ z=>by cases z),fun b o u q=>st b _ q (nt b _ q fun _ z=>by cases z),fun b ps' q=>?_⟩ fun b u q=>?_
 · rw [old b (fun z=>by rw [z,ht]at n;cases n) (Fm q)];exact n
 · by_cases z:b=tp
   · subst z;exact ⟨_,e⟩
   · exact ⟨o,k b o z q⟩
 · by_cases z:b=tp
   · subst z;rw [ht]at q;cases q;exact ⟨more,hT⟩
   · exact ⟨#[],by rw [st b _ q z];simp⟩
 · by_cases z:b=tp
   · subst z;rw [hT]at q;cases q;exact e
   · by_cases hb:b < s.heap.objs.size
     · have q0:H b=some u:=by rw [← old b z hb];exact q
       refine (I.hok b u q0).stay (fun c v hc r=>k c v (fun w'=>?_) r) (fun c r=>st c _ r (nt c _ r fun _ z=>by cases z)) fun c xs r=>st c _ r (nt c _ r fun _ z=>by cases z);rcases hc with rfl | hc
       · exact z w'
       · rw [w',ht]at hc;cases hc
     · exact new b u (RZ hb) q
end
def Nc(c:Addr)(qual:Str):HO:= .ext fun h=>h.CodeRec (.ref c) qual
def fnO(f:Addr)(o:Obj):HO:= .ext fun h=>h.get? f=some o
theorem Ua{P:Program}{w:World}{H:Hp}{h:Heap}{c:Addr}{qual:Str}(x:h.CodeRec (.ref c) qual):Bi P w H h c (Nc c qual):=by
 refine ⟨x,?_,fun h1 h2 y k=>?_⟩
 · obtain ⟨c',oc,vs,tq,e,hoc,_⟩:=x
   cases e;exact ⟨oc,hoc⟩
 · obtain ⟨c',oc,vs,tq,e,hoc,r⟩:=y
   cases e;exact ⟨_,oc,vs,tq,rfl,k _ hoc,r⟩
theorem S6{P:Program}{w:World}{H:Hp}{h:Heap}{f:Addr}{o:Obj}(x:h.get? f=some o):Bi P w H h f (fnO f o):=⟨x,⟨o,x⟩,fun _ _ y k=>k _ y⟩
def Dv(tp:Addr)(pos:Pos)(qual:Str)(H:Hp):Prop:=H tp=some (.tbl #[])∨∃c,H tp=some (.tbl #[rawInt pos.line,rawInt pos.col,.ref c])∧H c=some (Nc c qual)
def Jar(tp:Addr)(pos:Pos)(qual:Str)(fo:Addr→Value→Obj):TE:=fun _ H Q=>Dv tp pos qual H∧∀f c ct H',H f=none→N1.SameBut tp H H'→Dv tp pos qual H'→H' c=some (Nc c qual)→H' f=some (fnO f (fo c ct))→Q (.ref f) H'
section
variable {X:Cx}
theorem Jas{args:Arguments}{body:Expr}{scope:Scope}{pos:Pos}{c tp:Addr}(hdef:defaultsOf args X.env=([],[]))(hcl:closureFor scope X.env=pure [])(hcode:X.env.code= .ref c)(hc:codeHdIn X.K c tp=true)(hne:mainGlobals≠tp)
 (hB:X.base.BuiltinsAt X.mg tp):
 PE X (.Lambda args body scope pos) (Jar tp pos (X.env.qual++"<lambda>") fun c ct=>kla_obj "<lambda>" (X.env.qual++"<lambda>") args body scope [] ((X.mg "__name__").getD .none) c ct):=by
 intro pins s σ H Q I h;obtain ⟨hL,q⟩:=h;have C:CodeHd s.heap c tp:=codeHd_of_K I.kIn hc;have G:s.heap.Ns mainGlobals X.mg:=I.mod.glob.keeps I.bk;have B:s.heap.BuiltinsAt X.mg tp:=hB.keeps I.bk;refine kla_eval hdef ?_;rcases hL with hE | ⟨c',hE,hc'⟩
 · have hP:s.heap.get? tp=some (tabObj #[]):=I.hok tp _ hE
   have ltt:=Fm hP;refine kla_makeFunction hcl I.ok.glob G hcode C hP (by first | trivial | exact .nil | simp [TriplesOk]) rfl hne B fun c' ctv h' tk hx hge hlt hrec htab=>?_;have ncf:c'≠h'.objs.size:=Fs hlt;have ltc:tp < c':=Fq ltt hge;have szf:s.heap.objs.size≤h'.objs.size:=FC hge (HF hlt);have ntf:tp≠h'.objs.size:=Fs (RU ltc hlt);have ntc:tp≠c':=Fs ltc;generalize hF:(kla_obj "<lambda>" (X.env.qual++"<lambda>") args body scope [] ((X.mg "__name__").getD .none) c' ctv)=fo
   have I2:Inv X pins σ (upd (upd (upd H tp (.tbl #[rawInt pos.line,rawInt pos.col,.ref c'])) c' (Nc c' (X.env.qual++"<lambda>"))) h'.objs.size (fnO h'.objs.size fo)) {s with heap:=h'.push fo,toks:=tk}:=by
    refine I.grown (more:=#[rawInt pos.line,rawInt pos.col,.ref c']) hE (fun b u nb e=>Ff _ (hx b u nb e)) (Ff _ htab) ?_ (fun b nb lb=>?_) fun b u lb e=>?_
    · rw [A2 ntf,A2 ntc];exact A3
    · rw [A2 (Fs (Fq lb szf)),A2 (Fs (Fq lb hge)),A2 nb]
    · by_cases e1:b=h'.objs.size
      · subst e1
        rw [A3]at e;cases e;exact S6 (Fo _ (by rw [← hF];rfl))
      · rw [A2 e1]at e
        by_cases e2:b=c'
        · subst e2
          rw [A3]at e;cases e;obtain ⟨c2,oc,vs,tq,ec,hoc,r⟩:=hrec;exact Ua ⟨c2,oc,vs,tq,ec,Ff _ hoc,r⟩
        · rw [A2 e2,A2 (fun z=>by rw [z]at lb;exact Hc _ (Fq ltt lb)),I.hok.fresh lb]at e
          cases e
   refine ⟨.ref h'.objs.size,_,I2,rfl,q _ c' ctv _ (I.hok.fresh szf) (fun b o e nb=>?_) (.inr ⟨c',?_,?_⟩) ?_ (by rw [A3,← hF])⟩
   · have lb:=(I.hok b o e).lt
     rw [A2 (Fs (Fq lb szf)),A2 (Fs (Fq lb hge)),A2 nb];exact e
   · rw [A2 ntf,A2 ntc];exact A3
   · rw [A2 ncf];exact A3
   · rw [A2 ncf];exact A3
 · have hP:s.heap.get? tp=some (tabObj #[rawInt pos.line,rawInt pos.col,.ref c']):=I.hok tp _ hE
   have ltt:=Fm hP;have ltc:=(I.hok c' _ hc').lt;refine kla_makeFunctionHit (cv:= .ref c') hcl I.ok.glob G hcode C hP (by simp [TriplesOk,rawInt]) (by simp [codeAmong,rawInt]) B fun ctv h' tk hk hsz=>?_;generalize hF:({cls:= .type "function",data:= .func (kla_fn "<lambda>" (X.env.qual++"<lambda>") args body scope [] ((X.mg "__name__").getD .none) (.ref c') ctv)}:Obj)=fo;have I2:=I.laid (a:=h'.objs.size) (o:=fnO h'.objs.size fo) (t':=tk) (h':=h'.push fo) (fun b u e=>Ff _ (hk b u e)) hsz (S6 (Fo _ (by rw [← hF];rfl)));have nw:=I.hok.fresh hsz
   have sm:∀b o,H b=some o→upd H h'.objs.size (fnO h'.objs.size fo) b=some o:=fun b o e=>by rw [A2 (A8 e nw)];exact e
   exact ⟨.ref h'.objs.size,_,I2,rfl,q _ c' ctv _ nw (fun b o e _=>sm b o e) (.inr ⟨c',sm _ _ hE,sm _ _ hc'⟩) (sm _ _ hc') (by rw [A3,← hF])⟩
end
def Jat(K:PySem.W.Frag)(f tp:Addr):Prop:=∃(oc:Value) (od:Option Addr) (fd:FuncData) (sl:Array (Option Value)) (c:Addr),K.lookup f=some ⟨oc,od,.func fd,sl⟩∧fd.code= .ref c∧codeHdIn K c tp=true
section
variable {P:Program} {w:World} {K:PySem.W.Frag} {mg:Str→Option Value} {base:Heap}
theorem Fun.okC{x qual:Str}{st:Stmt}{f tp:Addr}{fd:FuncData}{N ps:List Str}{k:Nat}{sp:Sp}(F:Fun K x qual st f fd)(M:Jat K f tp)(S:Ab N ps (A6 st))(len:∀vs H Q E,sp vs H Q E→vs.length=ps.length)
 (hbody:∀(c:Addr) (A:Around) (outer:List Env) (s:Shared) (H:Hp) (vs:List V) (Q:VK) (E:XK),codeHdIn K c tp=true→Bt k (A.deeper (envOfC qual (A6 st) s.heap.objs.size f (.ref c)))→sp vs H Q E→
  ∃t,PSs (T9 CX0 P w K mg base N qual (A6 st) f (.ref c) A outer s H E).nox (Bg st) t∧t {nx:=fun _ H'=>Q .non H',rt:=Q} (start N vs) H):Ar P w K mg base CX0 (k+1) f fd ps sp:=by
 obtain ⟨oc,od,kV,doc,pm,an,cdv,ct,osl,rfl,lk,hcd⟩:=F.ex;obtain ⟨oc',od',fd',sl',c,lk',e,hc⟩:=M;rw [lk]at lk';cases lk';have e:cdv= .ref c:=e;subst e;refine J8u lk hcd S len fun A outer s H vs Q E hr hsp=>?_;obtain ⟨t,h,q⟩:=hbody c A outer s H vs Q E hc hr hsp;exact ⟨t,h.nox,q⟩
end
theorem J3z{tp:Addr}{pos:Pos}{qual:Str}{fo:Addr→Value→Obj}{σ:St}{H:Hp}{Q:VK}:Jar tp pos qual fo σ H Q=(Dv tp pos qual H∧∀f c ct H',H f=none→N1.SameBut tp H H'→Dv tp pos qual H'→H' c=some (Nc c qual)→H' f=some (fnO f (fo c ct))→Q (.ref f) H'):=rfl
end L2
namespace L2
open PySem.W
def Ey(c:Addr)(o:Obj):HO:= .frz o (.ext fun h=>h.get? c=some o)
theorem Y6{P:Program}{w:World}{H:Hp}{h:Heap}{c:Addr}{o:Obj}(e:h.get? c=some o):Bi P w H h c (Ey c o):=⟨e,e,⟨o,e⟩,fun _ _ y k=>k _ y⟩
structure Pi where
 qual:Str
 args:Arguments
 body:Expr
 scope:Scope
abbrev Jau(L:Pi)(cl:List (Str×Addr))(pm:Value)(cd:Addr)(ct:Value):Obj:=kla_obj "<lambda>" L.qual L.args L.body L.scope cl pm cd ct
def Of(L:Pi)(cl:List (Str×Addr))(H:Hp)(f:Addr):Prop:=∃pm cd ct,H f=some (fnO f (Jau L cl pm cd ct))∧H cd=some (Nc cd L.qual)
def Cp(H:Hp)(cl:List (Str×Addr))(vs:List V):Prop:=Paired (fun (p:Str×Addr) (v:V)=>∃o u,H p.2=some (Ey p.2 o)∧o.data= .cell (some u)∧Ax v u) cl vs
theorem Of.same{L:Pi}{cl:List (Str×Addr)}{H H':Hp}{f:Addr}(s:A7 H H')(h:Of L cl H f):Of L cl H' f:=let ⟨pm,cd,ct,a,b⟩:=h;⟨pm,cd,ct,s _ _ a,s _ _ b⟩
theorem Cp.same{cl:List (Str×Addr)}{H H':Hp}{vs:List V}(s:A7 H H')(h:Cp H cl vs):Cp H' cl vs:=Paired.mapP h fun p v ⟨o,u,a,b⟩=>⟨o,u,s _ _ a,b⟩
theorem Cp.get{H:Hp}:∀{cl:List (Str×Addr)} {vs:List V},Cp H cl vs→∀p∈cl,∃o u,H p.2=some (Ey p.2 o)∧o.data= .cell (some u)
 | _,_,.nil,_,h=>by cases h
 | _,_,.cons ⟨o,u,a,b,_⟩ t,p,h=>by
  rcases Fy.mp h with rfl | h
  · exact ⟨o,u,a,b⟩
  · exact Cp.get t p h
theorem Cp.ix{H:Hp}:∀{cl:List (Str×Addr)} {vs:List V} {i:Nat} {v:V},Cp H cl vs→vs[i]?=some v→∃p o u,cl[i]?=some p∧H p.2=some (Ey p.2 o)∧o.data= .cell (some u)∧Ax v u
 | _,_,_,_,.nil,h=>by cases h
 | _,_,0,v,.cons ⟨o,u,a,b,c⟩ t,h=>by
  simp at h;subst h;exact ⟨_,o,u,rfl,a,b,c⟩
 | _,_,i+1,v,.cons _ t,h=>by
  obtain ⟨p,o,u,e,r⟩:=Cp.ix (i:=i) (v:=v) t (by simpa using h);exact ⟨p,o,u,by simpa using e,r⟩
def unk(H:Hp)(as:List Addr):Hp:=fun b=>if b∈as then none else H b
def retr(H H0:Hp)(as:List Addr):Hp:=fun b=>if b∈as then H0 b else H b
section
variable {H H0:Hp} {as:List Addr} {b:Addr}
theorem Mq(h:b∈as):unk H as b=none:=if_pos h
theorem Ck(h:b∉as):unk H as b=H b:=if_neg h
theorem Kb(h:b∈as):retr H H0 as b=H0 b:=if_pos h
theorem Dl(h:b∉as):retr H H0 as b=H b:=if_neg h
theorem G4(h:H b=none):unk H as b=none:=by
 by_cases z:b∈as
 · exact Mq z
 · rw [Ck z];exact h
theorem Ub{o:HO}(h:unk H as b=some o):b∉as∧H b=some o:=by
 by_cases z:b∈as
 · rw [Mq z]at h;cases h
 · rw [Ck z]at h;exact ⟨z,h⟩
end
structure Co(N ps:List Str)(sc:Scope)(cl:List (Str×Addr)):Prop where
 kind:sc.kind= .function
 co:sc.isCoroutine=false
 gen:sc.isGenerator=false
 nd:(ps++cl.map (·.1)).Nodup
 N:N=ps++cl.map (·.1)
 par:∀x∈ps,sc.names.lookup x=some .local
 nocell:∀y∈sc.names,y.2≠ .cell
 fr:∀x,sc.names.lookup x=some .free→∃c,cl.lookup x=some c
 frk:∀p∈cl,sc.names.lookup p.1=some .free
 inj:∀x y c,cl.lookup x=some c→cl.lookup y=some c→x=y
def cxL(P:Program)(w:World)(K:PySem.W.Frag)(mg:Str→Option Value)(base:Heap)(N:List Str)(qual:Str)(scope:Scope)(f:Addr)(cd:Value)(A:Around)(outer:List Env)(s:Shared)(H:Hp)(cl:List (Str×Addr)):Cx where
 prog:=P
 w:=w
 K:=K
 mg:=mg
 base:=base
 A:=A.deeper (envX qual scope s.heap.objs.size f cd cl)
 N:=N
 s₀:=s
 H₀:=H
 env:=envX qual scope s.heap.objs.size f cd cl
 outer:=outer
 stack:=envX qual scope s.heap.objs.size f cd cl::outer
 ex:=[]
 calm:=true
 fn:=fun _=>false
 pn:=[]
 xe:=fun _ _=>False
theorem J6w{x:Str}{u:Value}:∀{l:List (Str×Value)},(l.map (·.1)).Nodup→(x,u)∈l→l.lookup x=some u:=by
 intro l
 induction l with
 | nil=>intro _ h;cases h
 | cons p r ih=>
  intro nd h;rw [List.map_cons,Hj]at nd;rcases Fy.mp h with e | h
  · rw [← e,List.lookup_cons_self]
  · have n:x≠p.1:=fun e=>nd.1 (FH.mpr ⟨_,h,e⟩)
    rw [He,show (x==p.1)=false from HG.mpr n];exact ih nd.2 h
theorem J40{x:Str}{u:Value}:∀{ps:List Str} {us:List Value} {i:Nat},ps.Nodup→ps[i]?=some x→us[i]?=some u→(ps.zip us).reverse.lookup x=some u:=by
 intro ps us i nd h1 h2;refine J6w ?_ ?_
 · rw [List.map_reverse]
   refine (Jf _).nodup_iff.mpr ?_
   have key:∀(ps:List Str) (us:List Value),((ps.zip us).map (·.1)).Sublist ps:=by
    intro ps
    induction ps with
    | nil=>intro us;cases us <;> exact List.Sublist.refl _
    | cons p r ih=>
     intro us
     cases us with
     | nil=>exact List.nil_sublist _
     | cons u v=>exact (ih v).cons₂ p
   exact nd.sublist (key ps us)
 · rw [RB]
   exact Fk (i:=i) (by rw [Jc];exact ⟨h1,h2⟩)
section
variable {P:Program} {w:World} {K:PySem.W.Frag} {mg:Str→Option Value} {base:Heap}
theorem J6x{k:Nat}{f:Addr}{L:Pi}{cl:List (Str×Addr)}{pm ct:Value}{cd:Addr}{N ps:List Str}{A:Around}{outer:List Env}{s:Shared}{H:Hp}{us:List Value}{vs fvs:List V}{Q:VK}{E:XK}
 (S:Co N ps L.scope cl) (hb:bindArgs (kla_fn "<lambda>" L.qual L.args L.body L.scope cl pm (.ref cd) ct) ⟨us,[]⟩=pure (ps.zip us)) (hr:Bt (k+1) A) (e0:Lc P w K mg base A outer s H) (r:Au vs us) (hl:vs.length=ps.length)
 (hf:H f=some (fnO f (Jau L cl pm cd ct))) (hc:H cd=some (Nc cd L.qual)) (hcs:Cp H cl fvs)
 (hbody:∃t,PE (cxL P w K mg base N L.qual L.scope f (.ref cd) A outer s (unk H (cl.map (·.2))) cl) L.body t∧t (vs.map some++fvs.map some) (unk H (cl.map (·.2))) fun v H'=>(∀c∈cl.map (·.2),H' c=none)→Q v (retr H' H (cl.map (·.2)))):
 codeAny (model P w) A (.call (.ref f) ⟨us,[]⟩) (CR CX0 outer P w H s Q E) s:=by
 have hf1:s.heap.get? f=some (Jau L cl pm cd ct):=(e0.hok f _ hf).1;have hc1:s.heap.CodeRec (.ref cd) L.qual:=(e0.hok cd _ hc).1;have lim:s.heap.NoLimit:=e0.mod.nolimit.keeps fun b o e=>(e0.bs b o e).1
 have hcm:∀c∈cl.map (·.2),∃o u,H c=some (Ey c o)∧o.data= .cell (some u)∧s.heap.get? c=some o:=fun c h=>by
  obtain ⟨p,hp,rfl⟩:=FH.mp h;obtain ⟨o,u,a,b⟩:=hcs.get p hp;exact ⟨o,u,a,b,(e0.hok _ _ a).1⟩
 have nfs:∀c∈cl.map (·.2),c∉frs outer:=fun c h z=>by
  obtain ⟨o,u,a,_⟩:=hcm c h;rw [e0.frf c z]at a;cases a
 refine kla_callFunE hr.depth hf1 rfl S.co S.gen rfl hc1 ?_;rw [hb];refine Fi (wpAny_newFunctionEnv S.nocell (fun y hy=>S.par y.1 (Jt hy).1) (fun h₁ hns hsb=>?_) S.kind);have kp:∀b o,s.heap.get? b=some o→h₁.get? b=some o:=fun b o e=>hsb.extBut b o (Fs (Fm e)) (Ff _ e);refine ⟨lim.keeps kp,?_⟩;show codeAny _ _ (.expr L.body (envX L.qual L.scope s.heap.objs.size f (.ref cd) cl)) _ _;obtain ⟨t,ht,hq⟩:=hbody;have noA:∀b:Addr,b∉(cxL P w K mg base N L.qual L.scope f (.ref cd) A outer s (unk H (cl.map (·.2))) cl).ex:=fun b z=>absurd (show b∈([]:List Addr) from z) (by simp);have cin:∀x c,cl.lookup x=some c→c∈cl.map (·.2):=fun x c e=>FH.mpr ⟨(x,c),Hb e,rfl⟩
 have hok1:HOk P w (unk H (cl.map (·.2))) h₁:=fun b o e=>by
  obtain ⟨nb,e⟩:=Ub e;refine (e0.hok b o e).stay (fun c v _ q=>kp c v q) (fun c q=>?_) fun c xs q=>?_
  · rw [Ck fun z=>?_]
    · exact q
    · obtain ⟨o',_,a,_⟩:=hcm c z
      rw [a]at q;cases q
  · rw [Ck fun z=>?_]
    · exact q
    · obtain ⟨o',_,a,_⟩:=hcm c z
      rw [a]at q;cases q
 have I:Inv (cxL P w K mg base N L.qual L.scope f (.ref cd) A outer s (unk H (cl.map (·.2))) cl) [] (vs.map some++fvs.map some) (unk H (cl.map (·.2))) {s with heap:=h₁,toks:=s.toks+(ps.zip us).length}:=by
  refine ⟨⟨e0.mod,S.kind,rfl,rfl,Fh _,S.inj,fun y hy=>?_,fun y c h=>(by cases h),fun _=>hr.hd,Around.frames_deeper e0.frames,.inr ⟨rfl,rfl⟩,fun b z=>absurd z (noA b),fun b o e=>⟨(e0.bs b o e).1,G4 (e0.bs b o e).2⟩,e0.bsz,fun b _ _=>noA b,fun b z=>absurd z (noA b),e0.funs,fun b z=>G4 (e0.frf b z)⟩,
   rfl,e0.bare,Un.kept kp,⟨_,hns,fun i x v h1 h2 _=>?_⟩,fun y c h=>?_,G4 (e0.hok.fresh (Fh _)),fun y c h=>Mq (cin y c h),fun p hp=>absurd (show p∈([]:List (Addr×Obj)) from hp) (by simp),hok1,?_⟩
  · have hy:L.scope.names.lookup y=some .cell∨L.scope.names.lookup y=some .free:=hy
    rcases hy with hy | hy
    · exact absurd rfl (S.nocell _ (Hb hy))
    · exact S.fr y hy
  · have h1:N[i]?=some x:=h1
    rw [S.N]at h1
    by_cases hi:i < ps.length
    · rw [FJ hi]at h1
      rw [FJ (by rw [Fa];omega),Fg]at h2
      cases e:vs[i]? with
      | none=>rw [e]at h2;cases h2
      | some a=>
       rw [e]at h2;cases h2;obtain ⟨u,hu,rv⟩:=r.get e;exact ⟨u,rv,.inl ⟨S.par x (Fk h1),J40 (S.nd.sublist (List.sublist_append_left ..)) h1 hu⟩⟩
    · rw [FL (by omega),Fg]at h1
      rw [FL (by rw [Fa];omega),Fa,Fg,hl]at h2
      cases e:fvs[i - ps.length]? with
      | none=>rw [e]at h2;cases h2
      | some a=>
       rw [e]at h2;cases h2;obtain ⟨p,o,u,hp,a,b,rv⟩:=hcs.ix e;rw [hp]at h1;cases h1;have hm:=Fk hp;refine ⟨u,rv,.inr ⟨.inr (S.frk p hm),p.2,lookup_of_mem_nodup (S.nd.sublist (List.sublist_append_right ..)) hm,o,kp _ _ (e0.hok _ _ a).1,b⟩⟩
  · obtain ⟨o,u,_,b,e⟩:=hcm c (cin y c h)
    exact ⟨some u,o,kp _ _ e,b⟩
  · show _=N.length
    rw [S.N,Fu,Fu,Fa,Fa,Fa,hl];have:=Paired.length hcs;omega
 refine kla_codeExpr (Hs (ht [] _ _ _ _ I hq) (fun v s' hq_=>?_) fun e s' z=>False.elim z);obtain ⟨x,H',J,rx,q⟩:=hq_;have ub:Un (frs outer) [] (unk H (cl.map (·.2))) H' s.heap s'.heap:=J.base
 have hc0:∀c∈cl.map (·.2),H' c=none:=fun c h=>by
  obtain ⟨o,u,_,_,e⟩:=hcm c h;exact ub.free c o e (Mq h) (by simp)
 refine ⟨x,retr H' H (cl.map (·.2)),J.os,J.bare,⟨fun b o e n hb hx=>ub.keep b o e (G4 n) hb hx,fun b o e n hb hx=>ub.slot b o e (G4 n) hb hx,fun b o e n hx=>?_,ub.there,fun b xs e=>?_,fun b o u e=>?_,fun b pp e=>?_⟩,fun b o e=>?_,rx,q hc0⟩
 · by_cases z:b∈cl.map (·.2)
   · rw [Kb z];exact n
   · rw [Dl z];exact ub.free b o e (G4 n) hx
 · by_cases z:b∈cl.map (·.2)
   · rw [Kb z];exact e
   · rw [Dl z];exact ub.tups b xs (by rw [Ck z];exact e)
 · by_cases z:b∈cl.map (·.2)
   · rw [Kb z];exact e
   · rw [Dl z];exact ub.frzs b o u (by rw [Ck z];exact e)
 · by_cases z:b∈cl.map (·.2)
   · rw [Kb z];exact ⟨#[],by rw [e];simp⟩
   · rw [Dl z];exact ub.tbls b pp (by rw [Ck z];exact e)
 · by_cases z:b∈cl.map (·.2)
   · rw [Kb z]at e
     obtain ⟨ob,u,a,_,e2⟩:=hcm b z;rw [a]at e;cases e;exact Y6 (ub.keep b ob e2 (Mq z) (nfs b z) (by simp))
   · rw [Dl z]at e
     refine (J.hok b o e).stay (fun c v _ q=>q) (fun c q=>?_) fun c xs q=>?_
     · rw [Dl fun z=>?_]
       · exact q
       · rw [hc0 c z]at q;cases q
     · rw [Dl fun z=>?_]
       · exact q
       · rw [hc0 c z]at q;cases q
structure Nd(P:Program)(w:World)(K:PySem.W.Frag)(mg:Str→Option Value)(base:Heap)(CX:CXT)(k:Nat)(f:Addr)(J:Hp→Prop)(sp:Sp):Prop where
 fnd:PySem.W.keepIn K (.ref f)=true∨∀(H:Hp) (h:Heap),HOk P w H h→J H→FnAt f h
 run:∀(A:Around) (outer:List Env) (s:Shared) (H:Hp) (us:List Value) (vs:List V) (Q:VK) (E:XK),Bt k A→Lc P w K mg base A outer s H→Au vs us→J H→sp vs H Q E→codeAny (model P w) A (.call (.ref f) ⟨us,[]⟩) (CR CX outer P w H s Q E) s
theorem Nd.ofLam{k:Nat}{L:Pi}{cl:List (Str×Addr)}{fvs:List V}{N ps:List Str}{sp:Sp}{f:Addr}{J:Hp→Prop}(S:Co N ps L.scope cl)
 (hb:∀(pm ct cd:Value) (us:List Value),us.length=ps.length→bindArgs (kla_fn "<lambda>" L.qual L.args L.body L.scope cl pm cd ct) ⟨us,[]⟩=pure (ps.zip us)) (len:∀vs H Q E,sp vs H Q E→vs.length=ps.length) (hJ:∀H,J H→Of L cl H f∧Cp H cl fvs)
 (hbody:∀(cd:Addr) (A:Around) (outer:List Env) (s:Shared) (H:Hp) (vs:List V) (Q:VK) (E:XK),Bt k (A.deeper (envX L.qual L.scope s.heap.objs.size f (.ref cd) cl))→J H→sp vs H Q E→∃t,PE (cxL P w K mg base N L.qual L.scope f (.ref cd) A outer s (unk H (cl.map (·.2))) cl) L.body t∧t (vs.map some++fvs.map some) (unk H (cl.map (·.2))) fun v H'=>(∀c∈cl.map (·.2),H' c=none)→Q v (retr H' H (cl.map (·.2)))):
 Nd P w K mg base CX0 (k+1) f J sp:=by
 refine ⟨.inr fun H h ok j=>?_,fun A outer s H us vs Q E hr e0 r j h=>?_⟩
 · obtain ⟨⟨pm,cd,ct,a,_⟩,_⟩:=hJ H j
   exact ⟨_,_,_,_,(ok f _ a).1⟩
 · obtain ⟨⟨pm,cd,ct,a,b⟩,c⟩:=hJ H j
   have hl:=len _ _ _ _ h;exact J6x S (hb _ _ _ us (by rw [← r.length];exact hl)) hr e0 r hl a b c (hbody cd A outer s H vs Q E (hr.deeper _) j h)
end
def J41{ι:Type}(fa:ι→Addr)(J:ι→Hp→Prop)(sp:ι→Sp)(E:XK)(tv:TE)(t:TA):TE:=fun σ H Q=>tv σ H fun x H1=>∃b,x= .ref (fa b)∧J b H1∧t σ H1 fun vs H2=>J b H2∧sp b vs H2 Q E
section
variable {ι:Type} {X:Cx} {CX:CXT} {k j:Nat} {fa:ι→Addr} {J:ι→Hp→Prop} {sp:ι→Sp} {E:XK} {x:Str} {p pos:Pos} {e:Expr} {es:List Expr} {tv:TE} {t:TA}
theorem J42(D:∀b,Nd X.prog X.w X.K X.mg X.base CX j (fa b) (J b) (sp b))(hr:Bt k X.A)(hx:Mh CX X E)(hv:PE X (.Name x p) tv)(ha:PA X (e::es) t)(hj:j≤k:=by decide)
 (he:starEach (e::es) X.env=(false,eval e X.env)::starEach es X.env:=by rfl) (hpl:(backTo pos (starEach es X.env)).any (·.1)=false:=by rfl):
 PE X (.Call (.Name x p) (e::es) [] pos) (J41 fa J sp E tv t):=by
 intro pins s σ H Q I h;refine Hz (thn (hv pins s σ H _ I h) fun u s1 hq_=>?_);obtain ⟨y,H1,I1,ry,b,ey,j1,q1⟩:=hq_;subst ey;obtain rfl:u=Value.ref (fa b):=ry
 have go:∀(us:List Value) (s2:Shared) (vs:List V) (H2:Hp),Inv X pins σ H2 s2→Au vs us→J b H2→sp b vs H2 Q E→wpAny (model X.prog X.w) X.A (call (.ref (fa b)) us) (EP X pins σ Q) X.xe s2:=fun us s2 vs H2 I2 r j2 q2=>by
  refine RY (HY ((D b).run X.A X.stack s2 H2 us vs Q E (hr.mono hj) I2.env0 r j2 q2) fun r s' hq=>?_)
  cases r with
  | error e=>exact hx pins σ H2 s2 e s' I2 hq
  | ok fl=>
   cases fl with
   | ret u=>exact I2.after hq
   | next=>exact False.elim hq
   | brk=>exact False.elim hq
   | cont=>exact False.elim hq
 rcases (D b).fnd with hk | hk
 · refine Rn (h₀:=X.base) I.ok.mod.kin hk (thn (ha pos pins s1 σ H1 _ I1 q1) fun us s2 ⟨vs,H2,I2,r,j2,q2⟩=>⟨I2.kIn,go us s2 vs H2 I2 r j2 q2⟩) he hpl
 · refine callWith_F (hk _ _ I1.hok j1) (thn (ha pos pins s1 σ H1 _ I1 q1) fun us s2 ⟨vs,H2,I2,r,j2,q2⟩=>⟨hk _ _ I2.hok j2,go us s2 vs H2 I2 r j2 q2⟩) he hpl
theorem Uc{σ:St}{H:Hp}{Q:VK}:J41 fa J sp E tv t σ H Q=tv σ H fun x H1=>∃b,x= .ref (fa b)∧J b H1∧t σ H1 fun vs H2=>J b H2∧sp b vs H2 Q E:=rfl
end
def Jco(s:Stmt):Expr:=match s with
 | .Return (some e) _=>e
 | _=> .Constant .none 0 ⟨0,0,0,0⟩
def J9d(qual:Str)(e:Expr):Pi:=match e with
 | .Lambda a b s _=>⟨qual,a,b,s⟩
 | _=>⟨qual,Bp (.Pass ⟨0,0,0,0⟩),e,A6 (.Pass ⟨0,0,0,0⟩)⟩
theorem Co.mk1{ps:List Str}{sc:Scope}{x:Str}{c:Addr}(kind:sc.kind= .function)(co:sc.isCoroutine=false)(gen:sc.isGenerator=false)(nd:(ps++[x]).Nodup)(par:∀y∈ps,sc.names.lookup y=some .local)(nocell:∀y∈sc.names,y.2≠ .cell)
 (fr:∀y∈sc.names,y.2= .free→y.1=x) (frk:sc.names.lookup x=some .free):Co (ps++[x]) ps sc [(x,c)]:=by
 refine ⟨kind,co,gen,nd,rfl,par,nocell,fun y hy=>⟨c,?_⟩,fun p hp=>?_,fun y z d h1 h2=>?_⟩
 · have e:y=x:=fr _ (Hb hy) rfl
   rw [e,List.lookup_cons_self]
 · rw [Fj.mp hp];exact frk
 · have e1:=Fj.mp (Hb h1)
   have e2:=Fj.mp (Hb h2);rw [(Prod.mk.inj e1).1,(Prod.mk.inj e2).1]
theorem Co.mk0{ps:List Str}{sc:Scope}(kind:sc.kind= .function)(co:sc.isCoroutine=false)(gen:sc.isGenerator=false)(nd:ps.Nodup)(par:∀y∈ps,sc.names.lookup y=some .local)(nocell:∀y∈sc.names,y.2≠ .cell)
 (fr:∀y∈sc.names,y.2≠ .free):Co ps ps sc []:=
 ⟨kind,co,gen,by rw [List.map_nil,FT];exact nd,by rw [List.map_nil,FT],par,nocell,fun y hy=>absurd rfl (fr _ (Hb hy)),(fun p hp=>by cases hp),(fun y z d h1 _=>by cases h1)⟩
end L2
namespace L2
open PySem.W
section
variable {X:Cx}
theorem J6y{cl:List (Str×Addr)}{args:Arguments}{body:Expr}{scope:Scope}{pos:Pos}{c tp:Addr}(hdef:defaultsOf args X.env=([],[]))(hcl:closureFor scope X.env=pure cl)(hcode:X.env.code= .ref c)(hc:codeHdIn X.K c tp=true)(hne:mainGlobals≠tp)
 (hB:X.base.BuiltinsAt X.mg tp):
 PE X (.Lambda args body scope pos) (Jar tp pos (X.env.qual++"<lambda>") fun c ct=>kla_obj "<lambda>" (X.env.qual++"<lambda>") args body scope cl ((X.mg "__name__").getD .none) c ct):=by
 intro pins s σ H Q I h;obtain ⟨hL,q⟩:=h;have C:CodeHd s.heap c tp:=codeHd_of_K I.kIn hc;have G:s.heap.Ns mainGlobals X.mg:=I.mod.glob.keeps I.bk;have B:s.heap.BuiltinsAt X.mg tp:=hB.keeps I.bk;refine kla_eval hdef ?_;rcases hL with hE | ⟨c',hE,hc'⟩
 · have hP:s.heap.get? tp=some (tabObj #[]):=I.hok tp _ hE
   have ltt:=Fm hP;refine kla_makeFunction hcl I.ok.glob G hcode C hP (by first | trivial | exact .nil | simp [TriplesOk]) rfl hne B fun c' ctv h' tk hx hge hlt hrec htab=>?_;have ncf:c'≠h'.objs.size:=Fs hlt;have ltc:tp < c':=Fq ltt hge;have szf:s.heap.objs.size≤h'.objs.size:=FC hge (HF hlt);have ntf:tp≠h'.objs.size:=Fs (RU ltc hlt);have ntc:tp≠c':=Fs ltc;generalize hF:(kla_obj "<lambda>" (X.env.qual++"<lambda>") args body scope cl ((X.mg "__name__").getD .none) c' ctv)=fo
   have I2:Inv X pins σ (upd (upd (upd H tp (.tbl #[rawInt pos.line,rawInt pos.col,.ref c'])) c' (Nc c' (X.env.qual++"<lambda>"))) h'.objs.size (fnO h'.objs.size fo)) {s with heap:=h'.push fo,toks:=tk}:=by
    refine I.grown (more:=#[rawInt pos.line,rawInt pos.col,.ref c']) hE (fun b u nb e=>Ff _ (hx b u nb e)) (Ff _ htab) ?_ (fun b nb lb=>?_) fun b u lb e=>?_
    · rw [A2 ntf,A2 ntc];exact A3
    · rw [A2 (Fs (Fq lb szf)),A2 (Fs (Fq lb hge)),A2 nb]
    · by_cases e1:b=h'.objs.size
      · subst e1
        rw [A3]at e;cases e;exact S6 (Fo _ (by rw [← hF];rfl))
      · rw [A2 e1]at e
        by_cases e2:b=c'
        · subst e2
          rw [A3]at e;cases e;obtain ⟨c2,oc,vs,tq,ec,hoc,r⟩:=hrec;exact Ua ⟨c2,oc,vs,tq,ec,Ff _ hoc,r⟩
        · rw [A2 e2,A2 (fun z=>by rw [z]at lb;exact Hc _ (Fq ltt lb)),I.hok.fresh lb]at e
          cases e
   refine ⟨.ref h'.objs.size,_,I2,rfl,q _ c' ctv _ (I.hok.fresh szf) (fun b o e nb=>?_) (.inr ⟨c',?_,?_⟩) ?_ (by rw [A3,← hF])⟩
   · have lb:=(I.hok b o e).lt
     rw [A2 (Fs (Fq lb szf)),A2 (Fs (Fq lb hge)),A2 nb];exact e
   · rw [A2 ntf,A2 ntc];exact A3
   · rw [A2 ncf];exact A3
   · rw [A2 ncf];exact A3
 · have hP:s.heap.get? tp=some (tabObj #[rawInt pos.line,rawInt pos.col,.ref c']):=I.hok tp _ hE
   have ltt:=Fm hP;have ltc:=(I.hok c' _ hc').lt;refine kla_makeFunctionHit (cv:= .ref c') hcl I.ok.glob G hcode C hP (by simp [TriplesOk,rawInt]) (by simp [codeAmong,rawInt]) B fun ctv h' tk hk hsz=>?_;generalize hF:({cls:= .type "function",data:= .func (kla_fn "<lambda>" (X.env.qual++"<lambda>") args body scope cl ((X.mg "__name__").getD .none) (.ref c') ctv)}:Obj)=fo;have I2:=I.laid (a:=h'.objs.size) (o:=fnO h'.objs.size fo) (t':=tk) (h':=h'.push fo) (fun b u e=>Ff _ (hk b u e)) hsz (S6 (Fo _ (by rw [← hF];rfl)));have nw:=I.hok.fresh hsz
   have sm:∀b o,H b=some o→upd H h'.objs.size (fnO h'.objs.size fo) b=some o:=fun b o e=>by rw [A2 (A8 e nw)];exact e
   exact ⟨.ref h'.objs.size,_,I2,rfl,q _ c' ctv _ nw (fun b o e _=>sm b o e) (.inr ⟨c',sm _ _ hE,sm _ _ hc'⟩) (sm _ _ hc') (by rw [A3,← hF])⟩
end
theorem HOk.lend{P:Program}{w:World}{H:Hp}{h:Heap}{c:Addr}{o:Obj}(ok:HOk P w H h)(n:H c=none)(e:h.get? c=some o):HOk P w (upd H c (Ey c o)) h:=fun b u q=>by
 by_cases z:b=c
 · subst z
   rw [A3]at q;cases q;exact Y6 e
 · rw [A2 z]at q
   exact (ok b u q).stay (fun d ob _ q=>q) (fun d q=>by rw [A2 (A8 q n)];exact q) fun d xs q=>by rw [A2 (A8 q n)];exact q
theorem HOk.back{P:Program}{w:World}{H:Hp}{h:Heap}{c:Addr}{o:Obj}(ok:HOk P w H h)(n:H c=some (Ey c o)):HOk P w (unk H [c]) h:=fun b u q=>by
 obtain ⟨nb,q⟩:=Ub q;refine (ok b u q).stay (fun d ob _ q=>q) (fun d q=>?_) fun d xs q=>?_
 · rw [Ck fun z=>?_]
   · exact q
   · rw [Fj.mp z,n]at q;cases q
 · rw [Ck fun z=>?_]
   · exact q
   · rw [Fj.mp z,n]at q;cases q
theorem CE.back{outer:List Env}{P:Program}{w:World}{H:Hp}{s s':Shared}{Q:VK}{u:Value}{c:Addr}{o:Obj}(n:H c=none)(e:s.heap.get? c=some o)(nf:c∉frs outer)(h:CE outer P w (upd H c (Ey c o)) s (fun y H2=>H2 c=some (Ey c o)→Q y (unk H2 [c])) u s'):CE outer P w H s Q u s':=by
 obtain ⟨v,H',os,bare,un,ok,rv,q⟩:=h;have hc:H' c=some (Ey c o):=un.frzs c o _ A3;have ec:s'.heap.get? c=some o:=(ok c _ hc).1
 have up:∀b u,H b=some u→upd H c (Ey c o) b=some u∧b≠c:=fun b u q=>⟨by rw [A2 (A8 q n)];exact q,A8 q n⟩
 have out:∀b,b≠c→unk H' [c] b=H' b:=fun b nb=>Ck fun z=>nb (Fj.mp z);refine ⟨v,unk H' [c],os,bare,⟨fun b ob q' m hb hx=>?_,fun b ob q' m hb hx=>?_,fun b ob q' m hx=>?_,un.there,fun b xs q'=>?_,fun b ob w' q'=>?_,fun b ps q'=>?_⟩,ok.back hc,rv,q hc⟩
 · by_cases z:b=c
   · rw [z,e]at q'
     cases q';rw [z];exact ec
   · exact un.keep b ob q' (by rw [A2 z];exact m) hb hx
 · have z:b≠c:=fun z=>nf (by rw [← z];exact hb)
   exact un.slot b ob q' (by rw [A2 z];exact m) hb hx
 · by_cases z:b=c
   · subst z;exact Mq (by simp)
   · rw [out b z];exact un.free b ob q' (by rw [A2 z];exact m) hx
 · obtain ⟨a,nb⟩:=up b _ q'
   rw [out b nb];exact un.tups b xs a
 · obtain ⟨a,nb⟩:=up b _ q'
   rw [out b nb];exact un.frzs b ob w' a
 · obtain ⟨a,nb⟩:=up b _ q'
   rw [out b nb];exact un.tbls b ps a
def J9e(sp:Sp)(c:Addr)(i:Nat)(E:XK)(t:TA):TE:=fun σ H Q=>t σ H fun vs H1=>∃v,σ[i]?=some (some v)∧∀o u,o.data= .cell (some u)→Ax v u→H1 c=none→sp vs (upd H1 c (Ey c o)) (fun y H2=>H2 c=some (Ey c o)→Q y (unk H2 [c])) E
section
variable {X:Cx} {k j:Nat} {ps:List Str} {sp:Sp} {E:XK} {g x:Str} {p pos:Pos} {e:Expr} {es:List Expr} {t:TA} {c:Addr} {i:Nat}
theorem J6z(D:Def X.prog X.w X.K X.mg X.base CX0 j g ps sp)(hr:Bt k X.A)(hg:Gl X g)(ha:PA X (e::es) t)(hN:X.N[i]?=some x)(hk:X.env.scope.names.lookup x=some .cell)(hcx:X.env.cells.lookup x=some c)(hfn:X.fn x=true:=by rfl)(hj:j≤k:=by decide)
 (hdb:(g==("__debug__":Str))=false:=by decide) (he:starEach (e::es) X.env=(false,eval e X.env)::starEach es X.env:=by rfl) (hpl:(backTo pos (starEach es X.env)).any (·.1)=false:=by rfl):
 PE X (.Call (.Name g p) (e::es) [] pos) (J9e sp c i E t):=by
 obtain ⟨f,fd,F,hm,hkp,hb⟩:=D.ex;intro pins s σ H Q I h
 have fin:∀(us:List Value) (s2:Shared) (vs:List V) (H2:Hp),Inv X pins σ H2 s2→Au vs us→(∃v,σ[i]?=some (some v)∧∀o u,o.data= .cell (some u)→Ax v u→H2 c=none→sp vs (upd H2 c (Ey c o)) (fun y H3=>H3 c=some (Ey c o)→Q y (unk H3 [c])) E)→wpAny (model X.prog X.w) X.A (call (.ref f) us) (EP X pins σ Q) X.xe s2:=fun us s2 vs H2 I2 r ⟨v,hv,q⟩=>by
  obtain ⟨m,hns,hloc⟩:=I2.loc;obtain ⟨u,ru,lk⟩:=hloc i x v hN hv (.inr (.inl hk))
  obtain ⟨o,ho,hd⟩:∃o,s2.heap.get? c=some o∧o.data= .cell (some u):=by
   rcases lk with ⟨z,_⟩ | ⟨_,c2,e,o,a,b⟩
   · have z:X.env.scope.names.lookup x=some .local:=z
     rw [hk]at z;cases z
   · rw [hcx]at e;cases e
     exact ⟨o,a,b⟩
  have fc:H2 c=none:=I2.freeC x c hcx;have cge:X.s₀.heap.objs.size≤c:=I2.ok.cab x c hfn hcx;have e0:=I2.env0
  have nf:c∉frs X.stack:=fun hb=>by
   rcases I2.ok.stk with z | ⟨z,z2⟩
   · rw [z]at hb
     obtain ⟨_,ob,e1,_⟩:=I2.ok.funs.mem hb;exact absurd (Fm e1) (Nat.not_lt.mpr cge)
   · rw [z]at hb
     unfold frs at hb;rw [Rh,z2]at hb;rcases Fy.mp hb with w' | hb
     · obtain ⟨ob,es',ep,e1,d1,_⟩:=hns
       rw [← w',ho]at e1;cases e1;rw [hd]at d1;cases d1
     · obtain ⟨_,ob,e1,_⟩:=I2.ok.funs.mem hb
       exact absurd (Fm e1) (Nat.not_lt.mpr cge)
  have e1:Lc X.prog X.w X.K X.mg X.base X.A X.stack s2 (upd H2 c (Ey c o)):=by
   refine ⟨e0.frames,e0.mod,fun b ob q=>⟨(e0.bs b ob q).1,?_⟩,e0.bsz,e0.funs,fun b hb=>?_,e0.hok.lend fc ho,e0.bare⟩
   · have lb:b < c:=Fq (Fq (Fm q) I2.ok.bsz) cge
     rw [A2 (Fs lb)];exact (e0.bs b ob q).2
   · rw [A2 (fun z=>nf (by rw [← z];exact hb))];exact e0.frf b hb
  have hs:=q o u hd ru fc
  have hl:us.length=ps.length:=by rw [← r.length];exact F.len _ _ _ _ hs
  have hb':=hb s2 us I2.kIn (by simpa using hl);rw [FT]at hb';refine RY (HY ((F.mono hj).run X.A X.stack s2 _ ⟨us,[]⟩ us vs _ E hr e1 hb' r hs) fun rr s' hq=>?_)
  cases rr with
  | error e=>exact False.elim hq
  | ok fl=>
   cases fl with
   | ret u'=>exact I2.after (CE.back fc ho nf hq)
   | next=>exact False.elim hq
   | brk=>exact False.elim hq
   | cont=>exact False.elim hq
 refine Hz (Nl I hg hm ?_ hdb);refine Rn (h₀:=X.base) I.ok.mod.kin hkp (thn (ha pos pins s σ H _ I h) fun us s1 ⟨vs,H1,I1,r,q⟩=>⟨I1.kIn,?_⟩) he hpl;exact fin us s1 vs H1 I1 r q
theorem Y7{σ:St}{H:Hp}{Q:VK}:J9e sp c i E t σ H Q=t σ H fun vs H1=>∃v,σ[i]?=some (some v)∧∀o u,o.data= .cell (some u)→Ax v u→H1 c=none→sp vs (upd H1 c (Ey c o)) (fun y H2=>H2 c=some (Ey c o)→Q y (unk H2 [c])) E:=rfl
end
end L2
namespace L2
open PySem.W
def W3(tps:List Addr)(H:Hp):Prop:=(∀t∈tps,H t=some (.tbl #[]))∧∀b,b∉tps→H b=none∨∃o xs,H b=some (.frz o (.lst xs))
theorem W4{P:Program}{w:World}{K:PySem.W.Frag}{mg mb:Str→Option Value}{CX:CXT}{k:Nat}{fa a:Addr}{tps:List Addr}{fd:FuncData}{x:Str}{sp:Sp}{s₁:Shared}{vs:List Value}{ns:List Int}
 (KX:K.In s₁.heap) (hns:s₁.heap.Ns mainGlobals mg) (hb:s₁.heap.Ns builtinsNs mb) (hbb:∀x:Str,x≠"__name__"→mb x=bootBuiltins x) (hlim:s₁.heap.NoLimit) (hg:s₁.gens=#[])
 (ha:s₁.heap.get? a=some {cls:= .type "list",data:= .seq vs.toArray}) (hi:IntsAre vs ns) (hl:ns.length≤sizeLine) (hr:Bt k callerA)
 (hT:∀tp∈tps,s₁.heap.get? tp=some (tabObj #[])) (hct:∀tp∈tps,isCodeTable s₁.heap tp) (hKt:∀tp∈tps,K.lookup tp=none)
 (hbm:∃bm ob,mg "__builtins__"=some (.ref bm)∧bm≠builtinsNs∧s₁.heap.get? bm=some ob∧ob.cls= .type "module"∧ob.dict=some builtinsNs∧ob.data= .plain)
 (F:∀base:Heap,K.In base→base.Ns mainGlobals mg→(∀tp∈tps,base.BuiltinsAt mg tp)→Ar P w K mg base CX k fa fd [x] sp) (hbind:∀(s:Shared) (u:Value),BindsTo s fd ⟨[u],[]⟩ [(x,u)])
 (hsp:∀H:Hp,W3 tps H→SqL K H a (ns.map V.int)→sp [.ref a] H (fun v _=>v= .bl true) fun _ _ _=>False)
 (hCX:∀H e s',CX [] H s₁ (fun _ _ _=>False) e s'→False):
 codeAny (model P w) callerA (.call (.ref fa) ⟨[.ref a],[]⟩) (fun r s'=>r= .ok (.ret (.bool true))∧OldK s₁.heap s'.heap∧s'.os=s₁.os∧AllBare s'.gens) s₁:=by
 have rv:=Pu hi;have lenV:=hi.length
 have nta:a∉tps:=fun e=>by have:=hT a e;rw [ha]at this;cases this
 have core:∀H:Hp,W3 tps H→SqL K H a (ns.map V.int)→HOk P w H s₁.heap→(∀b,b∉tps→H b≠none→b=a∧K.lookup a=none)→
  codeAny (model P w) callerA (.call (.ref fa) ⟨[.ref a],[]⟩) (fun r s'=>r= .ok (.ret (.bool true))∧OldK s₁.heap s'.heap∧s'.os=s₁.os∧AllBare s'.gens) s₁:=by
  intro H hO hS hok hA
  have off:∀{b:Addr} {o:Obj} {es:Array DictEntry} {ep:Nat},s₁.heap.get? b=some o→o.data= .dict es ep→H b=none:=fun {b o es ep} e d=>by
   by_cases h1:b∈tps
   · rw [hT b h1]at e;cases e;cases d
   · cases q:H b with
     | none=>rfl
     | some u=>
      obtain ⟨e',_⟩:=hA b h1 (by rw [q];simp);subst e';rw [ha]at e;cases e;cases d
  have nsT:∀{b:Addr} {m:Str→Option Value},s₁.heap.Ns b m→(Qj s₁.heap H).Ns b m:=fun {b m} ⟨o,es,ep,e,d,r⟩=>⟨o,es,ep,O1 e (off e d),d,r⟩
  have inT:K.In (Qj s₁.heap H):=fun b o e=>O1 (KX b o e) (by
   by_cases h1:b∈tps
   · rw [hKt b h1]at e;cases e
   · cases q:H b with
     | none=>rfl
     | some u=>
      obtain ⟨e',hk⟩:=hA b h1 (by rw [q];simp)
      subst e';rw [hk]at e;cases e)
  have mT:Mod K mg (Qj s₁.heap H):=⟨inT,nsT hns,⟨mb,nsT hb,hbb⟩,let ⟨mc,h1,h2⟩:=hlim;⟨mc,nsT h1,h2⟩⟩
  have e0:Lc P w K mg (Qj s₁.heap H) callerA [] s₁ H:=⟨rfl,mT,fun b o e=>J69 e,Rp (J0b _ _),trivial,fun b hb=>absurd (show b∈([]:List Addr) from hb) (by simp),hok,.of_eq hg⟩
  have bT:∀tp∈tps,(Qj s₁.heap H).BuiltinsAt mg tp:=fun tp htp=>by
   obtain ⟨bm,ob,m1,m2,m3,m4,m5,m6⟩:=hbm
   have ntp:bm∉tps:=fun e=>by rw [hT bm e]at m3;cases m3;cases m4
   refine ⟨bm,ob,m1,m2,fun e=>?_,fun e=>ntp (e▸htp),O1 m3 ?_,m4,m5,m6⟩
   · obtain ⟨o,es,ep,e1,d1,_⟩:=hns
     rw [← e,m3]at e1;cases e1;rw [m6]at d1;cases d1
   · cases q:H bm with
     | none=>rfl
     | some u=>
      obtain ⟨e',_⟩:=hA bm ntp (by rw [q];simp);rw [e',ha]at m3;cases m3;cases m6
  refine HY ((F _ inT (nsT hns) bT).run callerA [] s₁ H ⟨[.ref a],[]⟩ [.ref a] [.ref a] _ _ hr e0 (hbind s₁ (.ref a)) (.cons rfl .nil) (hsp H hO hS)) fun r s' h=>?_
  cases r with
  | error e=>exact (hCX H e s' h).elim
  | ok fl=>
   cases fl with
   | next=>exact False.elim h
   | brk=>exact False.elim h
   | cont=>exact False.elim h
   | ret u=>
    obtain ⟨v,H',os,bare,un,hok',r',q⟩:=h;obtain rfl:v= .bl true:=q;obtain rfl:u=Value.bool true:=r'
    have kp:∀b o,b∉tps→s₁.heap.get? b=some o→s'.heap.get? b=some o:=fun b o nb e=>by
     cases q:H b with
     | none=>exact un.keep b o e q (by intro z;exact absurd (show b∈([]:List Addr) from z) (by simp)) (by simp)
     | some u=>
      rcases hO.2 b nb with z | ⟨ob,xs,z⟩
      · rw [q]at z;cases z
      · obtain ⟨e1,_⟩:=hok b _ z
        obtain ⟨e2,_⟩:=hok' b _ (un.frzs b ob _ z);rw [e]at e1;cases e1;exact e2
    have tT:∀tp∈tps,∃more,s'.heap.get? tp=some {cls:= .none,data:= .fields (#[]++more)}:=fun tp htp=>by
     obtain ⟨more,hm⟩:=un.tbls tp #[] (hO.1 tp htp);exact ⟨more,hok' tp _ hm⟩
    refine ⟨rfl,⟨fun b o e=>?_,fun b o e=>?_⟩,os,bare⟩
    · by_cases nb:b∈tps
      · rw [hT b nb]at e;cases e
        obtain ⟨more,tT⟩:=tT b nb;exact .inr (.inl ⟨hct b nb,rfl,#[],more,rfl,tT⟩)
      · exact .inl (kp b o nb e)
    · by_cases nb:b∈tps
      · obtain ⟨more,tT⟩:=tT b nb;exact ⟨_,tT⟩
      · exact ⟨o,kp b o nb e⟩
 have tOk:∀H:Hp,∀tp∈tps,Bi P w H s₁.heap tp (.tbl #[]):=fun H=>hT
 cases hk:K.lookup a with
 | some o=>
  have e:=KX a o hk;rw [ha]at e;cases e;refine core (fun b=>if b∈tps then some (.tbl #[]) else none) ⟨fun t ht=>if_pos ht,fun b nb=> .inl (if_neg nb)⟩ (.inr ⟨_,vs.toArray,_,hk,rfl,rfl,rfl,by rw [Fl,lenV];exact hl,by simpa using rv⟩) (fun b u z=>?_) (fun b nb z=>absurd (if_neg nb) z)
  by_cases h1:b∈tps
  · have z':=(if_pos h1).symm.trans z
    cases z';exact tOk _ b h1
  · have z':=(if_neg h1).symm.trans z
    cases z'
 | none=>
  refine core (fun b=>if b∈tps then some (.tbl #[]) else if b=a then some (.frz {cls:= .type "list",data:= .seq vs.toArray} (.lst (ns.map V.int))) else none) ⟨fun t ht=>if_pos ht,fun b nb=>?_⟩ (.inl (.inr ⟨{cls:= .type "list",data:= .seq vs.toArray},(if_neg nta).trans (if_pos rfl)⟩)) (fun b u z=>?_) (fun b nb z=>⟨?_,hk⟩)
  · by_cases h2:b=a
    · exact .inr ⟨_,_,(if_neg nb).trans (if_pos h2)⟩
    · exact .inl ((if_neg nb).trans (if_neg h2))
  · by_cases h1:b∈tps
    · have z':=(if_pos h1).symm.trans z
      cases z';exact tOk _ b h1
    · have z1:=(if_neg h1).symm.trans z
      by_cases h2:b=a
      · have z':=(if_pos h2).symm.trans z1
        cases z';subst h2;exact ⟨ha,by rw [Fa];exact hl,vs,_,rv,ha⟩
      · have z':=(if_neg h2).symm.trans z1
        cases z'
  · by_cases h2:b=a
    · exact h2
    · exact absurd ((if_neg nb).trans (if_neg h2)) z
theorem W5{l:PySem.W.OpenLaw}{n k:Nat}{q:Program}{loose:List Str}{XP:(Str→Option Value)→Heap→Prop}{YP:World→Heap→Prop}{d:DefRec}{K:Params→PySem.W.Frag}{CX:CXT}{sp:PySem.W.Frag→Sp}{x:Str}{tps:List Addr}
 (hn:l.most=some n) (hn2:n≤sizeLine) (hdf:d.params.defaults=[]) (hr:Bt k callerA)
 (hY:∀(w:World) (h:Heap),YP w h→(K w.params).In h) (hT:∀(w:World) (h:Heap),YP w h→∀tp∈tps,h.get? tp=some (tabObj #[])) (hKt:∀w:World,∀tp∈tps,(K w.params).lookup tp=none)
 (F:∀(w:World) (mg:Str→Option Value) (fa:Addr) (h:Heap),(K w.params).In h→h.Ns mainGlobals mg→mg d.name=some (.ref fa)→
  (∀tp∈tps,∃c,codeHdIn (K w.params) c tp=true)∧∃fd:FuncData,(∀(s:Shared) (u:Value),BindsTo s fd ⟨[u],[]⟩ [(x,u)])∧
   ∀base:Heap,(K w.params).In base→base.Ns mainGlobals mg→(∀tp∈tps,base.BuiltinsAt mg tp)→Ar l.prog w (K w.params) mg base CX k fa fd [x] (sp (K w.params)))
 (hsp:∀(K:PySem.W.Frag) (H:Hp) (a:Addr) (ns:List Int),ns.length≤n→W3 tps H→SqL K H a (ns.map V.int)→sp K [.ref a] H (fun v _=>v= .bl true) fun _ _ _=>False)
 (hCX:∀(H:Hp) (s:Shared) (e:Value) (s':Shared),CX [] H s (fun _ _ _=>False) e s'→False):
 PySem.W.WalkO q loose XP YP l.row.toRowW d [] (fun f vs=>PySem.call f vs):=by
 refine Att.Tc hn hdf fun w s₀ s₁ mg mb fa o pm cd doc a vs ns G Y ho hd hcd hmg hobj hints hlen hg=>?_;have KX:=hY w _ Y;obtain ⟨hcs,fd,hb,hF⟩:=F w mg fa _ KX G.T.g hmg
 have hct:∀tp∈tps,isCodeTable s₁.heap tp:=fun tp htp=>by
  obtain ⟨c,hc⟩:=hcs tp htp;obtain ⟨o,vs,f,tf,fl,tg,b,n,tt,e1,e2,e3,e4,_⟩:=codeHd_of_K KX hc;exact ⟨c,o,vs,e1,e2,e3,e4⟩
 exact W4 KX G.T.g G.T.b G.T.builtins G.T.nolimit hg hobj hints (FC hlen hn2) hr (hT w _ Y) hct (hKt w) G.T.bmain hF hb (fun H hO hS=>hsp (K w.params) H a ns hlen hO hS) fun H e s'=>hCX H s₁ e s'
theorem alln{p:Addr→Prop}:∀t∈([]:List Addr),p t:=fun _ h=>by cases h
theorem allc{p:Addr→Prop}{a:Addr}{l:List Addr}(h:p a)(r:∀t∈l,p t):∀t∈a::l,p t:=fun t ht=>by
 rcases Fy.mp ht with e | ht
 · rw [e];exact h
 · exact r t ht
end L2
namespace L2
theorem Y8{o i v:V}{H:Hp}{Q:Hp→Prop}:J8w o i v H Q=∃p xs k j,o= .ref p∧i= .int k∧H p=some (.lst xs)∧ixN xs.length k=some j∧Q (upd H p (.lst (xs.set j v))):=rfl
end L2
namespace N5
open L2 N1
def md(j:Nat):Int:=if j=0 then 26 else 36
def sgn(F:Nat→Int)(at':Int)(k j:Nat):Nat:=bc ((F j+if (j:Int)=at' then (k:Int) else 0) % md j)
def nmL(F:Nat→Int)(at':Int)(long k:Nat):List Nat:=(List.range long).map (sgn F at' k)
theorem J43{i:Int}:bc (i % 26)∈Bh:=by
 have h1:=Ht i (show (26:Int)≠0 by decide);have h2:=Hm i (show (0:Int) < 26 by decide);unfold bc;generalize i % 26=x at *
 have h3:x.toNat < Bh.length:=by simp [Bh];omega
 rw [Fc,FJ h3,Fb h3];exact FU h3
theorem J70{i:Int}:bc (i % 36)∈Bh++Bl:=by
 have h1:=Ht i (show (36:Int)≠0 by decide);have h2:=Hm i (show (0:Int) < 36 by decide);unfold bc;generalize i % 36=x at *
 have h3:x.toNat < (Bh++Bl).length:=by rw [U3];omega
 rw [Fc,Fb h3];exact FU h3
theorem S7{x y:Int}(hx0:0≤x)(hx:x < 36)(hy0:0≤y)(hy:y < 36)(h:bc x=bc y):x=y:=by
 have key:∀a:Fin 36,∀b:Fin 36,(Bh++Bl).getD a.val 0=(Bh++Bl).getD b.val 0→a=b:=by decide+kernel
 have:=key ⟨x.toNat,by omega⟩ ⟨y.toNat,by omega⟩ h;have:=congrArg Fin.val this;simp at this;omega
theorem Ud{F:Nat→Int}{at':Int}{long k:Nat}(h1:1≤long)(h2:long≤8):Bz (nmL F at' long k)=true:=by
 obtain ⟨n,rfl⟩:∃n,long=n+1:=⟨long - 1,by omega⟩
 have hall:∀c∈nmL F at' (n+1) k,c∈Bh++Bl:=by
  intro c hc;obtain ⟨j,_,rfl⟩:=FH.mp hc
  have hm:md j=26∨md j=36:=by unfold md;split <;> simp
  unfold sgn
  rcases hm with hm | hm <;> rw [hm]
  · exact Re _ J43
  · exact J70
 have hl:(nmL F at' (n+1) k).length=n+1:=by simp [nmL]
 have hh:Mp (nmL F at' (n+1) k) Bh=true:=by
  unfold nmL;rw [Jq,List.map_cons];show decide (sgn F at' k 0∈Bh)=true;rw [decide_eq_true_eq];unfold sgn md;rw [if_pos rfl];exact J43
 unfold Bz;rw [hl,hh,Fx h1,Fx h2];simp only [Bool.true_and];exact Hf.mpr fun c hc=>Fx (hall c hc)
theorem J71{F:Nat→Int}{at':Int}{long k k':Nat}(h0:0≤at')(h1:at' < long)(hk:k < 26)(hk':k' < 26)(h:nmL F at' long k=nmL F at' long k'):k=k':=by
 have hl:at'.toNat < long:=by omega
 have e:=congrArg (fun l=>l[at'.toNat]?) h;simp only [nmL,Fg,Hd hl,Option.map_some,Option.some.injEq]at e;unfold sgn at e;rw [if_pos (by omega),if_pos (by omega)]at e
 have hm:md at'.toNat=26∨md at'.toNat=36:=by unfold md;split <;> simp
 rcases hm with hm | hm <;> rw [hm]at e
 · have:=S7 (by omega) (by omega) (by omega) (by omega) e
   omega
 · have:=S7 (by omega) (by omega) (by omega) (by omega) e
   omega
def nms(F:Nat→Int)(at':Int)(long m:Nat):List Str:=(List.range m).map fun k=>tx (nmL F at' long k)
theorem J0u{F:Nat→Int}{at':Int}{long m:Nat}(h0:0≤at')(h1:at' < long)(hm:m≤26):(nms F at' long m).Nodup:=by
 unfold nms List.Nodup;rw [Jh];refine Jj (R:=fun a b=>a≠b) ?_ List.nodup_range;intro a b ha hb ne e;have ha:=FY.mp ha;have hb:=FY.mp hb;exact ne (J71 h0 h1 (by omega) (by omega) (J9c e))
theorem SqT.butL{K:PySem.W.Frag}{H H':Hp}{p a:Addr}{zs:List V}{xs:List V}(s:SameBut p H H')(hp:H p=some (.lst zs))(h:SqT K H a xs):SqT K H' a xs:=by
 rcases h with (h | ⟨o,h⟩) | h
 · exact .inl (.inl (s _ _ h (Az h hp (by intro z;cases z))))
 · exact .inl (.inr ⟨o,s _ _ h (Az h hp (by intro z;cases z))⟩)
 · exact .inr h
theorem J0v{H H':Hp}{x dx C:Addr}(hx:H x=none)(hd:H dx=none)(s:SameBut x (upd (upd H dx (.own x)) x (.ins C dx [])) H'):A7 H H':=fun b o e=>by
 have n1:=A8 e hx;have n2:=A8 e hd;exact s b o (by rw [A2 n1,A2 n2];exact e) n1
theorem Ue{z:Str}(h:Bz z.cps.toList=true):z.length≤8:=by
 unfold Bz at h;simp only [FV,decide_eq_true_eq]at h;have:=h.1.1.2;rw [Em]at this;exact this
end N5
namespace L2
theorem Inv.turned2{X:Cx}{pins:List (Addr×Obj)}{σ:St}{H:Hp}{s:Shared}{h':Heap}{t':Nat}{fp:List Addr}(I:Inv X pins σ H s)(k:∀b o,b∉fp→s.heap.get? b=some o→h'.get? b=some o)(hf:∀it∈fp,Dr X pins H it):
 Inv X pins σ H {s with heap:=h',toks:=t'}:=by
 have nit:∀b u,H b=some u→b∉fp:=fun b u e z=>by rw [(hf b z).1]at e;cases e
 refine I.step (g':=s.gens) (d':=s.drawn) (ch:=fp) (fun b hb=>?_) (fun b o _ _ hc e _=>k b o hc e) (fun b o _ _ hc e _=>⟨o.slots,k b o hc e⟩) (fun _ _ _ _ n=>n)
  (fun b o hc e=>⟨o,k b o hc e⟩) (fun _ _ e=>e) (fun _ _ _ e=>e) (fun b ps e=>⟨#[],by rw [e];simp⟩) (fun m hm=>?_) (fun b u e=>?_) I.bare
 · obtain ⟨_,h1,_,h2,h3,h4⟩:=hf b hb
   exact ⟨h2,h1,h3,h4⟩
 · obtain ⟨o,es,ep,ho,r⟩:=hm
   exact ⟨o,es,ep,k _ o (fun z=>(hf _ z).2.1 rfl) ho,r⟩
 · refine (I.hok b u e).stay (fun c v hc q=>k c v ?_ q) (fun _ q=>q) fun _ _ q=>q
   rcases hc with z | z
   · rw [z];exact nit b u e
   · exact nit c _ z
def Ite(K:PySem.W.Frag)(a:Addr):It:=
 ⟨fun i H=>∃xs x,SqL K H a xs∧xs[i]?=some x,fun i H y H'=>∃t x,y= .ref t∧H t=none∧H'=upd H t (.tup [.int i,x])∧∀xs,SqL K H a xs→xs[i]?=some x,fun i H=>∃xs,SqL K H a xs∧xs.length≤i⟩
def tnE(e it a:Addr)(i:Nat)(h:Heap):Prop:=(∃old,IsEnum h e it i old)∧h.IsListIter it a i
theorem J0w{P:Program}{w:World}{K:PySem.W.Frag}{es:List Expr}{k:Nat}{pos:Pos}(a e it:Addr)(ne:e≠it):J0c P w K (.Tuple es k pos) (Ite K a) [e,it] e (tnE e it a) where
 mem:=by simp
 obj:=fun i h st b hb=>by
  obtain ⟨⟨old,h1⟩,o,h2,c,d⟩:=st
  have hb:b=e∨b=it:=by simpa using hb
  rcases hb with rfl | rfl
  · exact ⟨_,h1,fun v z=>by cases z⟩
  · exact ⟨o,h2,fun v z=>by rw [d]at z;cases z⟩
 keep:=fun i h h' st kk=>by
  obtain ⟨⟨old,h1⟩,h2⟩:=st;exact ⟨⟨old,kk e (by simp) _ h1⟩,h2.at fun o q=>kk it (by simp) o q⟩
 item:=by
  intro X hP hw hK hc i pins s σ H E I hf st hg;subst hP hw hK;obtain ⟨xs,x,hq,hx⟩:=hg;obtain ⟨its,rv,p,hz⟩:=I.list hq;obtain ⟨u,hu,ru⟩:=rv.get hx;obtain ⟨⟨old,h1⟩,h2⟩:=st;have hlt:e < s.heap.objs.size:=Fm h1
  have hit:it < s.heap.objs.size:=by obtain ⟨o,q,_⟩:=id h2;exact Fm q
  refine wpAny_pyNext_enum_item h1 h2 p.isList (x:=u) (by simpa using hu) ne fun h' eo it' ht hs hk=>?_;refine ⟨_,rfl,wpAny_letOwnedTupleGo_enum (s:={s with heap:=h',toks:=s.toks+1}) eo fun h3 e3 sb=>?_⟩;have hf0:H s.heap.objs.size=none:=I.hok.fresh (Fh _)
  have nt:∀b∈[e,it],b≠s.heap.objs.size:=fun b hb=>by
   have hb:b=e∨b=it:=by simpa using hb
   rcases hb with rfl | rfl
   · exact Fs hlt
   · exact Fs hit
  have I0:Inv X pins σ (upd H s.heap.objs.size (.tup [.int i,x])) {s with heap:=s.heap.push {cls:= .type "tuple",data:= .seq #[.int i s.toks,u]},toks:=s.toks+1}:=
   I.laid (fun b u e=>Ff _ e) (Fh _) ⟨by simp [sizeLine];try decide,[.int i s.toks,u],.cons ⟨_,rfl⟩ (.cons ru .nil),⟨_,Fo _ rfl,rfl,_,rfl⟩⟩
  have hfp:∀b∈[e,it],Dr X pins (upd H s.heap.objs.size (.tup [.int i,x])) b:=fun b hb=>by
   obtain ⟨f0,f1,f2,f3,f4,f5⟩:=hf b hb;exact ⟨by rw [A2 (nt b hb)];exact f0,f1,f2,f3,f4,f5⟩
  have I1:Inv X pins σ (upd H s.heap.objs.size (.tup [.int i,x])) {s with heap:=h3,toks:=s.toks+1}:=by
   refine Inv.turned2 (s:={s with heap:=s.heap.push {cls:= .type "tuple",data:= .seq #[.int i s.toks,u]},toks:=s.toks+1}) (t':=s.toks+1) I0 (fun b o hb q=>?_) hfp
   have hb':b≠e∧b≠it:=by simpa using hb
   refine (sb.2 b hb'.1).trans ?_;rcases Heap.get?_push_cases q with ⟨rfl,rfl⟩ | q2
   · exact ht
   · exact hk b o hb'.1 hb'.2 q2
  refine ⟨.ref s.heap.objs.size,upd H s.heap.objs.size (.tup [.int i,x]),I1,rfl,⟨_,x,rfl,hf0,rfl,fun ys hy=>by rw [I.list_inj hy hq];exact hx⟩,⟨⟨u,?_⟩,?_⟩,fun b hb=>(hfp b hb).1⟩
  · show IsEnum h3 e it ((i+1:Nat):Int) u
    rw [show ((i+1:Nat):Int)=(i:Int)+1 from rfl];exact e3
  · exact it'.at fun o q=>(sb.2 it (Ne.symm ne)).trans q
 done:=by
   intro X hP hw hK hc i pins s σ H E I hf st hg;subst hP hw hK;obtain ⟨xs,hq,hx⟩:=hg;obtain ⟨its,rv,p,hz⟩:=I.list hq;obtain ⟨⟨old,h1⟩,h2⟩:=st;have hl:=rv.length
   exact wpAny_pyNext_enum_end (I.ok.hd hc) h1 h2 p.isList (by simp;omega) fun h' eb=>⟨rfl,Inv.turned2 (t':=s.toks) I (fun b o hb q=>eb b o (fun z=>hb (by simp [z])) q) hf⟩
 self:=fun _ _ _ _ _ st h=>wpAny_pyIter_enum st.1.choose_spec h
section
variable {X:Cx}
def J9f(K:PySem.W.Frag)(ta:TA):TI:=fun σ H R=>ta σ H fun vs H1=>∃a,vs=[.ref a]∧(∃xs,SqL K H1 a xs)∧R (Ite K a) H1
theorem Nq{l:Expr}{ta:TA}{p pos pp:Pos}{es:List Expr}{k:Nat}(hg:Gl X "enumerate")(hm:X.mg "enumerate"=none)(ha:PA X [l] ta)(hs:starEach [l] X.env=[(false,eval l X.env)]:=by rfl):PI X (.Tuple es k pp) (.Call (.Name "enumerate" p) [l] [] pos) (J9f X.K ta):=by
 intro pins s σ H R I h;refine Call_ (Gb I hg hm boot_enumerate (Ru (thn (ha pos pins s σ H _ I h) fun us s1 hq_=>?_) hs rfl));obtain ⟨vs,H1,I1,r1,q1⟩:=hq_;obtain ⟨a,e,⟨xs,hq⟩,q⟩:=q1;subst e
 cases r1 with
 | cons r rr=>
  cases rr;cases r;obtain ⟨its,rv,p',hz⟩:=I1.list hq;refine call_enumerate_list p'.isList fun h' h1 h2 h3 h4=>?_;refine wpAny_pyIter_enum h1 ?_;refine ⟨_,[s1.heap.objs.size+1,s1.heap.objs.size],_,_,H1,rfl,I1.kept (t':=s1.toks) h4,J0w a _ _ (Nat.succ_ne_self _),⟨⟨_,h1⟩,h2⟩,fun b hb=>?_,q⟩
  have hb:b=s1.heap.objs.size+1∨b=s1.heap.objs.size:=by simpa using hb
  rcases hb with rfl | rfl
  · exact I1.fpOk (R5 _) (I1.hok.fresh (R5 _))
  · exact I1.fpOk (Fh _) (I1.hok.fresh (Fh _))
end
section
variable {K:PySem.W.Frag} {σ:St} {H:Hp} {D:Ib}
theorem Ug{ta:TA}{R:It→Hp→Prop}:J9f K ta σ H R=ta σ H fun vs H1=>∃a,vs=[.ref a]∧(∃xs,SqL K H1 a xs)∧R (Ite K a) H1:=rfl
theorem Nr{a:Addr}{xs:List V}{g:TG}{tb:TS}(Pv:Nat→St→Hp→Prop)(h0:Pv 0 σ H)(hl:∀i σ H,i≤xs.length→Pv i σ H→SqL K H a xs)
 (hs:∀i x σ H t,xs[i]?=some x→Pv i σ H→H t=none→g (.ref t) σ (upd H t (.tup [.int i,x])) fun σ2 H2=>tb {D with nx:=Pv (i+1),ct:=Pv (i+1),bk:=D.nx} σ2 H2) (hd:∀σ H,Pv xs.length σ H→D.nx σ H):K8 g tb D σ (Ite K a) H:=by
 refine ⟨fun i m σ H=>i≤xs.length∧m=xs.length - i∧Pv i σ H,⟨_,FB _,rfl,h0⟩,fun i m σ H ⟨hi,hm,hP⟩=>?_⟩;have hq:=hl i σ H hi hP
 cases hx:xs[i]? with
 | none=>
  have hn:xs.length≤i:=by simpa using hx
  have e:i=xs.length:=Nat.le_antisymm hi hn;subst e;exact .inl ⟨⟨xs,hq,Fh _⟩,hd σ H hP⟩
 | some x=>
  have hlt:i < xs.length:=(Fe.mp hx).1;refine .inr ⟨⟨xs,x,hq,hx⟩,Pv (i+1),fun σ' H' h=>⟨xs.length - (i+1),by omega,by omega,rfl,h⟩,?_⟩;rintro y H' ⟨t,x',rfl,ht,rfl,hy⟩;have e:=(hy xs hq).symm.trans hx;cases e;exact hs i x σ H t hx hP ht
end
end L2
namespace L2
section
variable {X:Cx}
def Jav(K:PySem.W.Frag):R2:=fun x y H Q=>∃(a b:Addr) (xs:List V),x= .ref a∧y= .ref b∧SqL K H a xs∧SqL K H b []∧Q (.bl (decide (xs.length=0))) H
theorem J44{k:Nat}(hr:Bt k X.A):OpR X (compareOp .Eq) (Jav X.K):=by
 intro pins s σ H x y v u Q I rx ry h;obtain ⟨a,b,xs,rfl,rfl,h1,h2,q⟩:=h;cases rx;cases ry;obtain ⟨us,r1,p1,z1⟩:=I.list h1;obtain ⟨ws,r2,p2,z2⟩:=I.list h2;have lx:=r1.length;have ly:=r2.length;have hu:X.A.units < cLine:=FM (by omega) hr.un
 by_cases e:xs.length=0
 · have e1:us=[]:=Ha.mp (by omega)
   have e2:ws=[]:=Ha.mp (by rw [← ly];rfl);subst e1 e2;rw [Fx e]at q;have:=SeqAt.RcAt.lists (e:=fun _=>true) p1.isList p2.isList rfl hu (fun j h1 h2=>absurd h1 (J4 j));exact this X.prog X.w X.xe _ ⟨.bl true,H,I,rfl,q⟩
 · rw [Fz e]at q
   have ly':ws.length=0:=by rw [← ly];rfl
   have:=SeqAt.RcAt.lists_lengths p1.isList p2.isList (by simp;omega) hu;exact this X.prog X.w X.xe _ ⟨.bl false,H,I,rfl,q⟩
end
end L2
namespace N53
open L2 N1 N5
theorem J45{kvs:List (Key×V)}{ks:List Str}{z:Str}{v:V}(h:kvs.map (·.1)=ks.map Sum.inr):(Cd kvs (Sum.inr z) v).map (·.1)=(if z∈ks then ks else ks++[z]).map Sum.inr:=by
 have hm:=Lm (z:=z) h
 by_cases hz:z∈ks
 · rw [if_pos hz,← h]
   unfold Cd;rw [Dk,hm,Fx hz,if_pos rfl,FR];refine RE fun e _=>?_;show (if e.1=Sum.inr z then (e.1,v) else e).1=e.1
   split <;> rfl
 · rw [if_neg hz,Lh v (by rw [Fz hz]at hm;simpa using hm),Fw,Fw,h]
   rfl
end N53
namespace L2
section
variable {prog:Program} {w:World} {A:Around}
abbrev Ed(led:Bool):Obj:={cls:= .type "set",dict:=none,data:= .set #[] 0 (.fresh 0 0 led)}
variable {E:Value→Shared→Prop} {s:Shared}
end
end L2
namespace N51
open L2 N1 N5 N53
def sl(ys:List Str)(s e:Nat):List Str:=(ys.drop s).take (e - s)
end N51
namespace L2
open PySem.W
def J9g(K:PySem.W.Frag):List V→Hp→VK→Prop:=fun xs H Q=>∃(p:Addr) (is:List Int),xs=[.ref p]∧SqL K H p (is.map V.int)∧Q (.int is.sum) H
def J9h(K:PySem.W.Frag):V→V→Hp→VK→Prop:=fun o i H Q=>∃(p:Addr) (xs:List V) (k:Nat) (v:V),o= .ref p∧i= .int k∧SqL K H p xs∧xs[k]?=some v∧Q v H
theorem J0x(is:List Int):preSum (fun i=>is.getD i 0) is.length=is.sum:=by
 have key:∀n,n≤is.length→preSum (fun i=>is.getD i 0) n=(is.take n).sum:=by
  intro n
  induction n with
  | zero=>intro _;rfl
  | succ n ih=>
   intro h
   have e:is.take (n+1)=is.take n++[is.getD n 0]:=by
    rw [Hg,Fc,Fb (by omega)];rfl
   rw [preSum,ih (by omega),e,HI];simp
 have:=key is.length (Fh _)
 rwa [Hv]at this
section
variable {X:Cx}
theorem G5(hc:X.calm=true):E4 X (.builtin "sum") (J9g X.K):=by
 intro pins s σ H xs us Q I r h;obtain ⟨p,is,rfl,hp,q⟩:=h;obtain ⟨u,rfl,ru⟩:=G2 r;cases ru;obtain ⟨its,r,pl,hz⟩:=I.list hp
 have hlt:p < s.heap.objs.size:=by obtain ⟨o,n,e,_⟩:=pl;exact Fm e
 have hlen:=r.length;rw [Fa]at hlen;refine call_sum_walkAnyS (Rt pl.isList ⟨s.heap.objs.size,_,_,_,_,_,_,fun i=>is.getD i 0,rfl,(Walks.list (show X.A.in1.handled=none from I.ok.hd hc) s.heap.objs.size p (Fs hlt) its.toArray).toS,⟨⟨_,Fo _ rfl,rfl,rfl⟩,pl.isList.push _⟩,fun b hb=>?_,fun i v hP=>?_,fun s' t' hmv=>?_⟩)
 · show b < (s.heap.push _).objs.size
   rw [Rk];rcases Fy.mp hb with e | hb
   · rw [e];exact Hu _
   · rw [Fj.mp hb];exact HU hlt
 · have hP:its.toArray[i]?=some v:=hP
   have hi:i < is.length:=by
    have:=(Jb.mp hP).1;rw [Fl]at this;omega
   obtain ⟨u,hu,ru⟩:=r.get (i:=i) (x:=V.int (is[i])) (by simp [hi])
   have e:u=v:=by
    have:its[i]?=some v:=by simpa using hP
    rw [hu]at this;exact FS this
   subst e;show ∃t,u=Value.int (is.getD i 0) t;rw [Fc,Fb hi];exact ru
 · have hk:∀b o,s.heap.get? b=some o→s'.heap.get? b=some o:=fun b o e=>
    hmv.heap b o (fun hI=>absurd (Fm e) (by rw [Fj.mp hI];exact Hc _)) (Ff _ e)
   rw [Moved.eq_with hmv];refine ⟨.int is.sum,H,I.kept (t':=s'.toks) hk,⟨t',?_⟩,q⟩;rw [Fl,← hlen,J0x]
theorem Uh:Jbp X (J9h X.K):=by
 intro pins s σ H o i ov iv Q I ro ri h;obtain ⟨p,xs,k,v,rfl,rfl,hq,he,q⟩:=h;cases ro;obtain ⟨t,rfl⟩:=ri;obtain ⟨its,r,pl,hz⟩:=I.list hq;obtain ⟨w,ew,rw'⟩:=r.get he;have hl:=r.length;have hn:=L3;have hk:=(Fe.mp he).1;exact wpAny_getItem_list pl.isList (by omega) (by omega) (by simpa using ew) ⟨v,H,I,rw',q⟩
end
section
variable {σ:St} {H:Hp} {Q:VK} {D:Ib} {K:PySem.W.Frag} {xs:List V} {x y:V}
theorem Y9:J9g K xs H Q=∃(p:Addr) (is:List Int),xs=[.ref p]∧SqL K H p (is.map V.int)∧Q (.int is.sum) H:=rfl
theorem Ya:J9h K x y H Q=∃(p:Addr) (xs:List V) (k:Nat) (v:V),x= .ref p∧y= .int k∧SqL K H p xs∧xs[k]?=some v∧Q v H:=rfl
theorem Yb{to ti te:TE}{tget:V→V→Hp→VK→Prop}{tip:TIp}{tset:J6b}:J8o to ti te tget tip tset D σ H=to σ H fun o H1=>ti σ H1 fun i H2=>tget o i H2 fun x H3=>te σ H3 fun y H4=>tip x y H4 fun z H5=>tset o i z H5 fun H6=>D.nx σ H6:=rfl
theorem J46{f:Int→Int→Int}:ipI f x y H Q=∃i j,x= .int i∧y= .int j∧Q (.int (f i j)) H:=rfl
end
end L2
namespace N31
open L2 N1 N5
def Jaw(l:Addr):List (Str×V):=Av "numbers" (.ref l) []
theorem Nt{l:Addr}:(Jaw l).lookup ("numbers":Str)=some (V.ref l):=by
 unfold Jaw;rw [Ap,if_pos rfl]
structure D7(C:Addr)(H:Hp)(p l:Addr)(is:List Int):Prop where
 o:∃dx,H p=some (.ins C dx (Jaw l))
 l:H l=some (.lst (is.map V.int))
theorem D7.same{C:Addr}{H H':Hp}{p l:Addr}{is:List Int}(s:A7 H H')(h:D7 C H p l is):D7 C H' p l is:=
 ⟨h.o.imp fun dx e=>s _ _ e,s _ _ h.l⟩
theorem D7.off{C:Addr}{H:Hp}{p l b:Addr}{is:List Int}{xs ys:List V}(h:D7 C H p l is)(hb:H b=some (.lst xs))(n:l≠b):D7 C (upd H b (.lst ys)) p l is:=by
 obtain ⟨⟨dx,e⟩,hl⟩:=h;refine ⟨⟨dx,?_⟩,?_⟩
 · rw [A2 (Az e hb (by intro z;cases z))];exact e
 · rw [A2 n];exact hl
theorem D7.put{C:Addr}{H:Hp}{p l:Addr}{is js:List Int}(h:D7 C H p l is):D7 C (upd H l (.lst (js.map V.int))) p l js:=by
 obtain ⟨⟨dx,e⟩,hl⟩:=h;refine ⟨⟨dx,?_⟩,A3⟩;rw [A2 (Az e hl (by intro z;cases z))];exact e
def Off(K:PySem.W.Frag)(a:Addr)(xs:List V)(b:Addr):Prop:=∀(H2:Hp) (o:HO),SqL K H2 a xs→SqL K (upd H2 b o) a xs
theorem J47{K:PySem.W.Frag}{H:Hp}{a b:Addr}{xs:List V}(h:SqL K H a xs)(hb:H b=none):Off K a xs b:=by
 intro H2 o h2
 have key:a≠b→SqL K (upd H2 b o) a xs:=fun n=>by
  rcases h2 with (h2 | ⟨o2,h2⟩) | h2
  · exact .inl (.inl (by rw [A2 n];exact h2))
  · exact .inl (.inr ⟨o2,by rw [A2 n];exact h2⟩)
  · exact .inr h2
 rcases h with (h | ⟨o',h⟩) | h
 · exact key (A8 h hb)
 · exact key (A8 h hb)
 · exact .inr h
theorem J0y{C:Addr}{H:Hp}{p d l:Addr}(hp:H p=none)(hd:H d=none)(h:upd (upd H d (.own p)) p (.ins C d []) l=none):H l=none:=by
 cases e:H l with
 | none=>rfl
 | some o=>rw [A2 (A8 e hp),A2 (A8 e hd),e]at h;cases h
theorem J48(is:List Int)(m:Nat)(h:m≤is.length):G3 (is.map V.int) none (some (m:Int))=(is.take m).map V.int:=by
 unfold G3;rw [← JK,← RH,Fa];congr 1;unfold HT.sIx;simp only [Jl,Option.getD_some]
 first
  | (rw [if_neg (show ¬((m:Int) < 0) by omega)];simp;omega)
  | (rw [if_neg (show ¬((m:Int) < 0) by omega)];simp [HX h])
theorem J72{n k:Nat}(h:k < n):ixN n (k:Int)=some k:=by
 unfold ixN;rw [if_pos (by omega),if_pos (by omega)];simp
theorem map_set(is:List Int)(k:Nat)(v:Int):(is.map V.int).set k (V.int v)=(is.set k v).map V.int:=by
 rw [List.map_set]
end N31
namespace L2
open PySem.W
def J9i(K:PySem.W.Frag):List V→Hp→VK→Prop:=fun xs H Q=>∃(p:Addr) (is:List Int),xs=[.ref p]∧SqL K H p (is.map V.int)∧is≠[]∧∀v∈is,(∀x∈is,x≤v)→Q (.int v) H
theorem J73(val:Nat→Int):∀k,argBest (fun i j=>decide (val i > val j)) k≤k∧∀j,j≤k→val j≤val (argBest (fun i j=>decide (val i > val j)) k):=by
 intro k
 induction k with
 | zero=>exact ⟨Fh _,fun j hj=>by rw [Nat.le_zero.mp hj];exact Rz _⟩
 | succ k ih=>
  unfold argBest;split
  · rename_i h
    have h:=HS h;refine ⟨Fh _,fun j hj=>?_⟩
    by_cases e:j=k+1
    · rw [e];exact Rz _
    · have:=ih.2 j (by omega);omega
  · rename_i h
    have h:¬(val (k+1) > _):=fun z=>h (Fx z);refine ⟨HE ih.1,fun j hj=>?_⟩
    by_cases e:j=k+1
    · rw [e];omega
    · exact ih.2 j (by omega)
theorem Yc(val:Nat→Int):∀k,argBest (fun i j=>decide (val i < val j)) k≤k∧∀j,j≤k→val (argBest (fun i j=>decide (val i < val j)) k)≤val j:=by
 intro k
 induction k with
 | zero=>exact ⟨Fh _,fun j hj=>by rw [Nat.le_zero.mp hj];exact Rz _⟩
 | succ k ih=>
  unfold argBest;split
  · rename_i h
    have h:=HS h;refine ⟨Fh _,fun j hj=>?_⟩
    by_cases e:j=k+1
    · rw [e];exact Rz _
    · have:=ih.2 j (by omega);omega
  · rename_i h
    have h:¬(val (k+1) < _):=fun z=>h (Fx z);refine ⟨HE ih.1,fun j hj=>?_⟩
    by_cases e:j=k+1
    · rw [e];omega
    · exact ih.2 j (by omega)
section
variable {X:Cx}
theorem Yd{is:List Int}{its:List Value}(r:Au (is.map V.int) its){i:Nat}{v:Value}(hP:its.toArray[i]?=some v):i < is.length∧∃t,v=Value.int (is.getD i 0) t:=by
 have hlen:=r.length;rw [Fa]at hlen
 have hi:i < is.length:=by
  have:=(Jb.mp hP).1;rw [Fl]at this;omega
 obtain ⟨u,hu,ru⟩:=r.get (i:=i) (x:=V.int (is[i])) (by simp [hi])
 have e:u=v:=by
  have:its[i]?=some v:=by simpa using hP
  rw [hu]at this;exact FS this
 subst e;refine ⟨hi,?_⟩;rw [Fc,Fb hi];exact ru
theorem J0z(hc:X.calm=true):E4 X (.builtin "max") (J9i X.K):=by
 intro pins s σ H xs us Q I r h;obtain ⟨p,is,rfl,hp,hne,q⟩:=h;obtain ⟨u,rfl,ru⟩:=G2 r;cases ru;obtain ⟨its,r,pl,hz⟩:=I.list hp
 have hlt:p < s.heap.objs.size:=by obtain ⟨o,n,e,_⟩:=pl;exact Fm e
 have hlen:=r.length;rw [Fa]at hlen;have hpos:0 < is.length:=RF.mpr hne;have hb:=J73 (fun i=>is.getD i 0) (is.length - 1);refine call_max_walkS (Rt pl.isList ⟨s.heap.objs.size,_,_,_,_,_,_,fun i j=>decide (is.getD i 0 > is.getD j 0),rfl,(Walks.list (show X.A.in1.handled=none from I.ok.hd hc) s.heap.objs.size p (Fs hlt) its.toArray).toS,⟨⟨_,Fo _ rfl,rfl,rfl⟩,pl.isList.push _⟩,fun b hb=>?_,by rw [Fl];omega,CmpOf.ints_gt (fun i=>is.getD i 0) (fun i v hP=>(Yd r hP).2),fun v s' hP hmv=>?_⟩)
 · show b < (s.heap.push _).objs.size
   rw [Rk];rcases Fy.mp hb with e | hb
   · rw [e];exact Hu _
   · rw [Fj.mp hb];exact HU hlt
 · have hk:∀b o,s.heap.get? b=some o→s'.heap.get? b=some o:=fun b o e=>
    hmv.heap b o (fun hI=>absurd (Fm e) (by rw [Fj.mp hI];exact Hc _)) (Ff _ e)
   rw [Moved.eq_with hmv];rw [Fl,← hlen]at hP;obtain ⟨hi,t,rfl⟩:=Yd r hP;refine ⟨V.int _,H,I.kept (t':=s'.toks) hk,⟨t,rfl⟩,q _ ?_ fun x hx=>?_⟩
   · rw [Fc,Fb hi];exact FU hi
   · obtain ⟨j,hj⟩:=FF.mp hx
     have hjl:=(Fe.mp hj).1;have:=hb.2 j (by omega);rw [show is.getD j 0=x by rw [Fc,hj];rfl]at this;exact this
end
section
variable {K:PySem.W.Frag} {H:Hp} {Q:VK} {xs:List V}
theorem Ye:J9i K xs H Q=∃(p:Addr) (is:List Int),xs=[.ref p]∧SqL K H p (is.map V.int)∧is≠[]∧∀v∈is,(∀x∈is,x≤v)→Q (.int v) H:=rfl
end
end L2
namespace L2
def Itz(K:PySem.W.Frag)(a b:Addr):It:=
 ⟨fun i H=>∃xs ys x y,SqL K H a xs∧SqL K H b ys∧xs[i]?=some x∧ys[i]?=some y,fun i H v H'=>∃t x y,v= .ref t∧H t=none∧H'=upd H t (.tup [x,y])∧(∀xs,SqL K H a xs→xs[i]?=some x)∧∀ys,SqL K H b ys→ys[i]?=some y,
  fun i H=>∃xs ys,SqL K H a xs∧SqL K H b ys∧(xs.length≤i∨ys.length≤i)⟩
def tnZ(z TI TO i1 i2 a b:Addr)(i:Nat)(h:Heap):Prop:=IsZip h z TI TO .none∧IsPair h TI (.ref i1) (.ref i2)∧(∃x y,IsPair h TO x y)∧h.IsListIter i1 a i∧h.IsListIter i2 b i
theorem J49{P:Program}{w:World}{K:PySem.W.Frag}{es:List Expr}{k:Nat}{pos:Pos}(a b z TI TO i1 i2:Addr)(D:ZipApart z TI TO i1 i2 a b):J0c P w K (.Tuple es k pos) (Itz K a b) [z,TI,TO,i1,i2] z (tnZ z TI TO i1 i2 a b) where
 mem:=by simp
 obj:=fun i h st c hc=>by
  obtain ⟨h1,h2,⟨x,y,h3⟩,⟨o4,e4,c4,d4⟩,⟨o5,e5,c5,d5⟩⟩:=st
  have hc:c=z∨c=TI∨c=TO∨c=i1∨c=i2:=by simpa using hc
  rcases hc with rfl | rfl | rfl | rfl | rfl
  · exact ⟨_,h1,fun v z=>by cases z⟩
  · exact ⟨_,h2,fun v z=>by cases z⟩
  · exact ⟨_,h3,fun v z=>by cases z⟩
  · exact ⟨o4,e4,fun v z=>by rw [d4]at z;cases z⟩
  · exact ⟨o5,e5,fun v z=>by rw [d5]at z;cases z⟩
 keep:=fun i h h' st kk=>by
  obtain ⟨h1,h2,⟨x,y,h3⟩,h4,h5⟩:=st;exact ⟨kk z (by simp) _ h1,kk TI (by simp) _ h2,⟨x,y,kk TO (by simp) _ h3⟩,h4.at fun o q=>kk i1 (by simp) o q,h5.at fun o q=>kk i2 (by simp) o q⟩
 item:=by
  intro X hP hw hK hc i pins s σ H E I hf st hg;subst hP hw hK;obtain ⟨xs,ys,x,y,hq,hq2,hx,hy⟩:=hg;obtain ⟨its,rv,p,hz⟩:=I.list hq;obtain ⟨jts,rv2,p2,hz2⟩:=I.list hq2;obtain ⟨u,hu,ru⟩:=rv.get hx;obtain ⟨v,hv,rw'⟩:=rv2.get hy;obtain ⟨h1,h2,⟨x0,y0,h3⟩,h4,h5⟩:=st
  have lts:∀c∈[z,TI,TO,i1,i2],c < s.heap.objs.size:=fun c hc'=>by
   have hc':c=z∨c=TI∨c=TO∨c=i1∨c=i2:=by simpa using hc'
   rcases hc' with rfl | rfl | rfl | rfl | rfl
   · exact Fm h1
   · exact Fm h2
   · exact Fm h3
   · obtain ⟨o,q,_⟩:=id h4;exact Fm q
   · obtain ⟨o,q,_⟩:=id h5;exact Fm q
  refine wpAny_pyNext_zip_item D h1 h2 h3 h4 h5 p.isList p2.isList (x:=u) (y:=v) (by simpa using hu) (by simpa using hv) fun h' e1 e3 e4 e5 ht hs hk=>?_;refine ⟨_,rfl,wpAny_letOwnedTupleGo_zip (s:={s with heap:=h'}) e1 fun h6 e6 sb=>?_⟩;have hf0:H s.heap.objs.size=none:=I.hok.fresh (Fh _);have nt:∀c∈[z,TI,TO,i1,i2],c≠s.heap.objs.size:=fun c hc'=>Fs (lts c hc')
  have I0:Inv X pins σ (upd H s.heap.objs.size (.tup [x,y])) {s with heap:=s.heap.push {cls:= .type "tuple",data:= .seq #[u,v]}}:=
   I.laid (t':=s.toks) (fun b u e=>Ff _ e) (Fh _) ⟨by simp [sizeLine];try decide,[u,v],.cons ru (.cons rw' .nil),⟨_,Fo _ rfl,rfl,_,rfl⟩⟩
  have hfp:∀c∈[z,TI,TO,i1,i2],Dr X pins (upd H s.heap.objs.size (.tup [x,y])) c:=fun c hc'=>by
   obtain ⟨f0,f1,f2,f3,f4,f5⟩:=hf c hc';exact ⟨by rw [A2 (nt c hc')];exact f0,f1,f2,f3,f4,f5⟩
  have I1:Inv X pins σ (upd H s.heap.objs.size (.tup [x,y])) {s with heap:=h6}:=by
   refine Inv.turned2 (s:={s with heap:=s.heap.push {cls:= .type "tuple",data:= .seq #[u,v]}}) (t':=s.toks) I0 (fun c o hc' q=>?_) hfp
   have hb':c≠z∧c≠TI∧c≠TO∧c≠i1∧c≠i2:=by simpa using hc'
   refine (sb.2 c hb'.1).trans ?_;rcases Heap.get?_push_cases q with ⟨rfl,rfl⟩ | q2
   · exact ht
   · exact hk c o hb'.1 hb'.2.2.1 hb'.2.2.2.1 hb'.2.2.2.2 q2
  refine ⟨.ref s.heap.objs.size,upd H s.heap.objs.size (.tup [x,y]),I1,rfl,⟨_,x,y,rfl,hf0,rfl,fun zs hy'=>by rw [I.list_inj hy' hq];exact hx,fun zs hy'=>by rw [I.list_inj hy' hq2];exact hy⟩,?_,fun c hc'=>(hfp c hc').1⟩;have k6:∀c o,c≠z→h'.get? c=some o→h6.get? c=some o:=fun c o n q=>(sb.2 c n).trans q;exact ⟨e6,k6 TI _ D.TIz (hk TI _ D.TIz D.TITO D.TIi1 D.TIi2 h2),⟨_,_,k6 TO _ D.TOz e3⟩,e4.at fun o q=>k6 i1 o D.i1z q,e5.at fun o q=>k6 i2 o D.i2z q⟩
 done:=by
   intro X hP hw hK hc i pins s σ H E I hf st hg;subst hP hw hK;obtain ⟨xs,ys,hq,hq2,hx⟩:=hg;obtain ⟨its,rv,p,hz⟩:=I.list hq;obtain ⟨jts,rv2,p2,hz2⟩:=I.list hq2;obtain ⟨h1,h2,⟨x0,y0,h3⟩,h4,h5⟩:=st;have hl:=rv.length;have hl2:=rv2.length
   exact wpAny_pyNext_zip_end (I.ok.hd hc) D h1 h2 h3 h4 h5 p.isList p2.isList (hx.imp (fun h=>by simp;omega) fun h=>by simp;omega) fun h' eb=>⟨rfl,Inv.turned2 (t':=s.toks) I (fun c o hb q=>by
    have hb':c≠z∧c≠TI∧c≠TO∧c≠i1∧c≠i2:=by simpa using hb
    exact eb c o hb'.1 hb'.2.2.1 hb'.2.2.2.1 hb'.2.2.2.2 q) hf⟩
 self:=fun _ _ _ _ _ st h=>wpAny_pyIter_zip st.1 h
section
variable {X:Cx}
def Jcp(K:PySem.W.Frag)(ta:TA):TI:=fun σ H R=>ta σ H fun vs H1=>∃a b,vs=[.ref a,.ref b]∧(∃xs,SqL K H1 a xs)∧(∃ys,SqL K H1 b ys)∧R (Itz K a b) H1
theorem W6{l r:Expr}{ta:TA}{p pos pp:Pos}{es:List Expr}{k:Nat}(hg:Gl X "zip")(hm:X.mg "zip"=none)(ha:PA X [l,r] ta)(hs:starEach [l,r] X.env=[(false,eval l X.env),(false,eval r X.env)]:=by rfl)(hs2:starEach [r] X.env=[(false,eval r X.env)]:=by rfl):
 PI X (.Tuple es k pp) (.Call (.Name "zip" p) [l,r] [] pos) (Jcp X.K ta):=by
 intro pins s σ H R I h;refine Call_ (Gb I hg hm boot_zip (Ru (thn (ha pos pins s σ H _ I h) fun us s1 ⟨vs,H1,I1,r1,q1⟩=>?_) (by rw [hs,hs2]) (by rw [hs2];rfl)));obtain ⟨a,b,e,⟨xs,hq⟩,⟨ys,hq2⟩,q⟩:=q1;subst e
 cases r1 with
 | cons r rr=>
  cases rr with
  | cons r' rr=>
   cases rr;cases r;cases r';obtain ⟨its,rv,p',hz⟩:=I1.list hq;obtain ⟨jts,rv2,p2,hz2⟩:=I1.list hq2
   have la:a < s1.heap.objs.size:=by obtain ⟨o,e,_⟩:=p'.isList;exact Fm e
   have lb:b < s1.heap.objs.size:=by obtain ⟨o,e,_⟩:=p2.isList;exact Fm e
   refine call_zip_2 p'.isList p2.isList fun h' h1 h2 h3 h4 h5 h6 h7=>?_;refine wpAny_pyIter_zip h1 ?_;refine ⟨_,[s1.heap.objs.size+4,s1.heap.objs.size+2,s1.heap.objs.size+3,s1.heap.objs.size,s1.heap.objs.size+1],_,_,H1,rfl,I1.kept (t':=s1.toks) h7,J49 a b _ _ _ _ _ (PySem.W.ktu_apart _ _ _ la lb),⟨h1,h2,⟨_,_,h3⟩,h4,h5⟩,fun c hc=>?_,q⟩
   have hc:s1.heap.objs.size≤c:=by
    have hc:c=s1.heap.objs.size+4∨c=s1.heap.objs.size+2∨c=s1.heap.objs.size+3∨c=s1.heap.objs.size∨c=s1.heap.objs.size+1:=by simpa using hc
    rcases hc with rfl | rfl | rfl | rfl | rfl
    · exact J0 _ _
    · exact J0 _ _
    · exact J0 _ _
    · exact Fh _
    · exact J0 _ _
   exact I1.fpOk hc (I1.hok.fresh hc)
end
section
variable {K:PySem.W.Frag} {σ:St} {H:Hp} {D:Ib}
theorem Yf{ta:TA}{R:It→Hp→Prop}:Jcp K ta σ H R=ta σ H fun vs H1=>∃a b,vs=[.ref a,.ref b]∧(∃xs,SqL K H1 a xs)∧(∃ys,SqL K H1 b ys)∧R (Itz K a b) H1:=rfl
theorem J74{a b:Addr}{xs ys:List V}{g:TG}{tb:TS}(hlen:xs.length=ys.length)(Pv:Nat→St→Hp→Prop)(h0:Pv 0 σ H)(hl:∀i σ H,i≤xs.length→Pv i σ H→SqL K H a xs∧SqL K H b ys)
 (hs:∀i x y σ H t,xs[i]?=some x→ys[i]?=some y→Pv i σ H→H t=none→g (.ref t) σ (upd H t (.tup [x,y])) fun σ2 H2=>tb {D with nx:=Pv (i+1),ct:=Pv (i+1),bk:=D.nx} σ2 H2) (hd:∀σ H,Pv xs.length σ H→D.nx σ H):K8 g tb D σ (Itz K a b) H:=by
 refine ⟨fun i m σ H=>i≤xs.length∧m=xs.length - i∧Pv i σ H,⟨_,FB _,rfl,h0⟩,fun i m σ H ⟨hi,hm,hP⟩=>?_⟩;obtain ⟨hq,hq2⟩:=hl i σ H hi hP
 by_cases hlt:i < xs.length
 · have hx:xs[i]?=some xs[i]:=Fb hlt
   have hy:ys[i]?=some (ys[i]'(by omega)):=Fb (by omega);refine .inr ⟨⟨xs,ys,_,_,hq,hq2,hx,hy⟩,Pv (i+1),fun σ' H' h=>⟨xs.length - (i+1),by omega,by omega,rfl,h⟩,?_⟩;rintro v H' ⟨t,x',y',rfl,ht,rfl,h1,h2⟩;have e:=(h1 xs hq).symm.trans hx;have e2:=(h2 ys hq2).symm.trans hy;cases e;cases e2;exact hs i _ _ σ H t hx hy hP ht
 · have e:i=xs.length:=by omega
   subst e;exact .inl ⟨⟨xs,ys,hq,hq2,.inl (Fh _)⟩,hd σ H hP⟩
end
end L2
namespace L2
abbrev S8(wi:TI)(fs:List Nat)(tt:Blk→TT)(te:Blk→TE):TE:=Tp wi 1 fs (fun _=>C7 0) tt te
abbrev g2(K:PySem.W.Frag):Blk→TG:=fun _=>J9z K 2 (Wz (C7 0) (Wz (C7 1) J9y))
abbrev J4a(K:PySem.W.Frag)(wi:TI)(fs:List Nat)(tt:Blk→TT)(te:Blk→TE):TE:=Tp wi 2 fs (g2 K) tt te
section
variable {X:Cx} {scope:Scope} {x y:Str} {px py pt:Pos} {n:Nat} {fs:List Nat} {elt iter c:Expr} {pos:Pos} {wi:TI} {tt:Blk→TT} {te:Blk→TE}
theorem J4b(x:Str)(fs:List Nat)(hc:X.calm=true)(hok:D5 X.N X.env.scope scope [x] fs=true)(hi:PI X (.Name x px) iter wi)(ht:∀b,PT (X.blk scope ([x]++around X.N fs) b) c (tt b))(he:∀b,PE (X.blk scope ([x]++around X.N fs) b) elt (te b))
 (hs:∀x,foldedSetIterable iter X.env x=pure x:=by intro _;rfl):PE X (.ListComp elt [⟨.Name x px,iter,[c],0⟩] scope pos) (S8 wi fs tt te):=
 Tr (xs:=[x]) (g:=fun _=>C7 0) (tt:=tt) hc hok hi (S0 hok) (fun b=>Qy (ht b)) he hs
theorem J75(hc:X.calm=true)(hok:D5 X.N X.env.scope scope [x,y] fs=true)(b:Blk):PG (X.blk scope ([x,y]++around X.N fs) b) (.Tuple [.Name x px,.Name y py] n pt) (g2 X.K b):=by
 have O:=E2 hok
 refine Gc (X:=X.blk scope ([x,y]++around X.N fs) b) hc (Ba (B2 O.nd rfl (.inl (Rb (O.own x (by simp)))) (.inr (Rb (O.own x (by simp)))))
  (Ba (B2 O.nd rfl (.inl (Rb (O.own y (by simp)))) (.inr (Rb (O.own y (by simp))))) Dx))
end
section
variable {K:PySem.W.Frag} {tail:St} {tt:Blk→TT} {te:Blk→TE} {Q:VK} {H1:Hp} {σ:St} {H:Hp}
theorem Ui{wi:TI}{fs:List Nat}:S8 wi fs tt te σ H Q=wi σ H (C1 (none::fs.map fun j=>σ.getD j none) (fun _=>C7 0) tt te Q):=rfl
theorem Uj{wi:TI}{fs:List Nat}:J4a K wi fs tt te σ H Q=wi σ H (C1 (none::none::fs.map fun j=>σ.getD j none) (g2 K) tt te Q):=rfl
theorem Jcq{x y:Option V}{r:St}:Jak (none::none::r) (x::y::r):=fun i v e=>by
 match i with
 | 0=>cases e
 | 1=>cases e
 | i+2=>exact e
theorem Og{H H':Hp}{p:Addr}{o:HO}(s:A7 H H')(h:H p=none):A7 H (upd H' p o):=fun b u e=>by
 rw [A2 (A8 e h)];exact s b u e
theorem J4c{a:Addr}{xs:List V}(p:V→Bool)(f:V→V)(hS:SqL K H1 a xs)(hz:xs.length≤sizeLine)(ht:∀b x H QT,x∈xs→A7 H1 H→(∀H',A7 H H'→QT (p x) H')→tt b (some x::tail) H QT)
 (he:∀b x H Q',x∈xs→p x=true→A7 H1 H→(∀H',A7 H H'→Q' (f x) H')→te b (some x::tail) H Q')
 (q:∀D H',H1 D=none→A7 H1 H'→H' D=some (.lst ((xs.filter p).map f))→Q (.ref D) H'):C1 (none::tail) (fun _=>C7 0) tt te Q (Itl K a) H1:=by
 intro b D hD;refine ⟨fun i m ys H=>m=xs.length - i∧i≤xs.length∧ys=((xs.take i).filter p).map f∧H D=some (.lst ys)∧A7 H1 H,⟨_,rfl,FB _,rfl,A3,Cf hD⟩,?_⟩;rintro i m ys H ⟨rfl,hi,rfl,hd,sm⟩;refine ⟨hd,?_⟩
 by_cases hlt:i < xs.length
 · refine .inr ⟨⟨xs,xs[i],sm.seq hS,by simp [hlt]⟩,fun x H3 ⟨e3,ex⟩=>⟨J3k,?_⟩⟩
   subst e3;have hx:=ex xs (sm.seq hS);have hm:=Fk hx
   have hl:(((xs.take i).filter p).map f).length≤i:=by
    rw [Fa];exact FC (R9 _ _) (by rw [FX];omega)
   refine ht b x _ _ hm sm fun H7 s7=>?_
   have htk:(xs.take (i+1)).filter p=(xs.take i).filter p++[x].filter p:=by rw [Hg,hx,RN];rfl
   by_cases hp:p x=true
   · rw [if_pos hp]
     refine he b x H7 _ hm hp (sm.trans s7) fun H8 s8=>?_;have hd8:=(s7.trans s8) _ _ hd;refine ⟨hd8,by omega,xs.length - (i+1),by omega,rfl,hlt,?_,A3,Og ((sm.trans s7).trans s8) hD⟩;rw [htk,Hr hp,RJ,Fw];rfl
   · rw [if_neg hp]
     refine ⟨xs.length - (i+1),by omega,rfl,hlt,?_,s7 _ _ hd,sm.trans s7⟩;rw [htk,HC hp,RJ,FT]
 · have e:i=xs.length:=by omega
   subst e;refine .inl ⟨⟨xs,sm.seq hS,Fh _⟩,q D H hD sm ?_⟩;rw [hd,Hv]
theorem J76{a c:Addr}{xs zs:List V}(hlen:xs.length=zs.length)(p:Nat→Bool)(f:Nat→V)(hA:SqL K H1 a xs)(hC:SqL K H1 c zs)(hz:xs.length≤sizeLine)
 (ht:∀b i x z H QT,xs[i]?=some x→zs[i]?=some z→A7 H1 H→(∀H',A7 H H'→QT (p i) H')→tt b (some x::some z::tail) H QT)
 (he:∀b i x z H Q',xs[i]?=some x→zs[i]?=some z→p i=true→A7 H1 H→(∀H',A7 H H'→Q' (f i) H')→te b (some x::some z::tail) H Q')
 (q:∀D H',H1 D=none→A7 H1 H'→H' D=some (.lst (((List.range xs.length).filter p).map f))→Q (.ref D) H'):C1 (none::none::tail) (g2 K) tt te Q (Itz K a c) H1:=by
 intro b D hD;refine ⟨fun i m ys H=>m=xs.length - i∧i≤xs.length∧ys=((List.range i).filter p).map f∧H D=some (.lst ys)∧A7 H1 H,⟨_,rfl,FB _,rfl,A3,Cf hD⟩,?_⟩;rintro i m ys H ⟨rfl,hi,rfl,hd,sm⟩;refine ⟨hd,?_⟩
 by_cases hlt:i < xs.length
 · have hx:xs[i]?=some xs[i]:=Fb hlt
   have hy:zs[i]?=some (zs[i]'(by omega)):=Fb (by omega);refine .inr ⟨⟨xs,zs,_,_,sm.seq hA,sm.seq hC,hx,hy⟩,?_⟩;rintro v H3 ⟨t,x',z',rfl,hn,rfl,g1,g2'⟩;have e1:=(g1 xs (sm.seq hA)).symm.trans hx;have e2:=(g2' zs (sm.seq hC)).symm.trans hy;cases e1;cases e2;have s3:A7 H (upd H t (.tup [xs[i],zs[i]'(by omega)])):=A7.new hn
   have hl:(((List.range i).filter p).map f).length≤i:=by
    rw [Fa];exact FC (R9 _ _) (by rw [Fv];omega)
   have htk:(List.range (i+1)).filter p=(List.range i).filter p++[i].filter p:=by rw [Hn,RN]
   refine ⟨t,_,rfl,SqT.of A3,rfl,_,_,rfl,_,_,rfl,rfl,Jcq,?_⟩;refine ht b i _ _ _ _ hx hy (sm.trans s3) fun H7 s7=>?_
   by_cases hp:p i=true
   · rw [if_pos hp]
     refine he b i _ _ H7 _ hx hy hp ((sm.trans s3).trans s7) fun H8 s8=>?_;have hd8:=((s3.trans s7).trans s8) _ _ hd;refine ⟨hd8,by omega,xs.length - (i+1),by omega,rfl,hlt,?_,A3,Og (((sm.trans s3).trans s7).trans s8) hD⟩;rw [htk,Hr hp,RJ,Fw];rfl
   · rw [if_neg hp]
     refine ⟨xs.length - (i+1),by omega,rfl,hlt,?_,(s3.trans s7) _ _ hd,(sm.trans s3).trans s7⟩;rw [htk,HC hp,RJ,FT]
 · have e:i=xs.length:=by omega
   subst e;exact .inl ⟨⟨_,_,sm.seq hA,sm.seq hC,.inl (Fh _)⟩,q D H hD sm hd⟩
end
end L2
namespace L2
section
variable {X:Cx}
def Uk:V→List V→Hp→VK→Prop:=fun x vs H Q=>∃l xs y,x= .ref l∧vs=[.int 0,y]∧H l=some (.lst xs)∧xs.length < sizeLine∧Q .non (upd H l (.lst (y::xs)))
theorem J10:MtM X "list.insert" Uk:=by
 intro pins s σ H x vs v us Q I rx rv h;obtain ⟨l,xs,y,rfl,rfl,hH,hz,q⟩:=h;cases rx
 cases rv with
 | cons r0 rr=>
  obtain ⟨t0,rfl⟩:=r0;obtain ⟨u,rfl,ru⟩:=Au.one rr;obtain ⟨z,its,n,r,hl,e⟩:=I.lstM hH;refine RL F.slot_list_insert ⟨_,e,rfl⟩ F.entry_list_insert (F.args_list_insert_3 _ _ _) (AutoSeq1.list_insert_list_int_val_1 l its.toArray n 0 t0 u (by decide) (by rw [Fl];omega)) ⟨e,?_⟩;refine ⟨.non,_,I.lset (its':=u::its) hH e ?_ (.cons ru r) ?_,rfl,q⟩
  · simp
  · rw [List.length_cons];omega
theorem Q3{x:V}{vs:List V}{H:Hp}{Q:VK}:Uk x vs H Q=∃l xs y,x= .ref l∧vs=[.int 0,y]∧H l=some (.lst xs)∧xs.length < sizeLine∧Q .non (upd H l (.lst (y::xs))):=rfl
end
end L2
namespace L2
section
variable {X:Cx} {scope:Scope} {x y v:Str} {px py pt pv':Pos} {n i:Nat} {fs:List Nat} {elt iter c:Expr} {pos spos:Pos} {wi:TI} {tt:Blk→TT} {te:Blk→TE}
theorem Ul(x:Str)(fs:List Nat)(hN:X.N.Nodup)(hy:X.N[i]?=some v)(hyl:X.env.kindOf v=some .local)(hc:X.calm=true)(hok:D5 X.N X.env.scope scope [x] fs=true)(hi:PI X (.Name x px) iter wi)(ht:∀b,PT (X.blk scope ([x]++around X.N fs) b) c (tt b))(he:∀b,PE (X.blk scope ([x]++around X.N fs) b) elt (te b))
 (hsw:swapsWith (.ListComp elt [⟨.Name x px,iter,[c],0⟩] scope pos) (some (.Name v pv')) spos.line X.env=pure true:=by rfl)
 (hs:∀x,foldedSetIterable iter X.env x=pure x:=by intro _;rfl):PS X (.Assign [.Name v pv'] (.ListComp elt [⟨.Name x px,iter,[c],0⟩] scope pos) spos) (Vm (S8 wi fs tt te) (C7 i)):=
 Qz (xs:=[x]) (g:=fun _=>C7 0) (tt:=tt) hN hy hyl hc hok hi (S0 hok) (fun b=>Qy (ht b)) he hsw hs
theorem J11(x y:Str)(fs:List Nat)(hN:X.N.Nodup)(hy:X.N[i]?=some v)(hyl:X.env.kindOf v=some .local)(hc:X.calm=true)(hok:D5 X.N X.env.scope scope [x,y] fs=true)(hi:PI X (.Tuple [.Name x px,.Name y py] n pt) iter wi)(ht:∀b,PT (X.blk scope ([x,y]++around X.N fs) b) c (tt b))(he:∀b,PE (X.blk scope ([x,y]++around X.N fs) b) elt (te b))
 (hsw:swapsWith (.ListComp elt [⟨.Tuple [.Name x px,.Name y py] n pt,iter,[c],0⟩] scope pos) (some (.Name v pv')) spos.line X.env=pure true:=by rfl)
 (hs:∀x,foldedSetIterable iter X.env x=pure x:=by intro _;rfl):PS X (.Assign [.Name v pv'] (.ListComp elt [⟨.Tuple [.Name x px,.Name y py] n pt,iter,[c],0⟩] scope pos) spos) (Vm (J4a X.K wi fs tt te) (C7 i)):=
 Qz (xs:=[x,y]) (g:=g2 X.K) (tt:=tt) hN hy hyl hc hok hi (J75 hc hok) (fun b=>Qy (ht b)) he hsw hs
end
end L2
namespace L2
open Sem (wp)
section
variable {Pg:Program} {w:World} {A:Around} {E:Value→Shared→Prop} {h:Heap} {g:Array GenState} {d:Drawn} {t:Nat} {os:OsState}
variable {nm q:Str} {C N:Addr} {bs bm bmB:List Value} {hd:Bool} {sn:List Str} {su:List Value} {ab:Bool} {co:Option Bool} {dd:Option Addr} {k0 k1 k2 k3 k5:Option Value} {B nw ni:String}
abbrev J77(h:Heap)(C:Addr):Obj:={cls:= .ref C,data:= .fields #[.ref h.objs.size,.none,.none,.none,.bool false,.none]}
abbrev J78(h:Heap)(C:Addr)(rest:List Value):Heap:=(h.push {cls:= .type "tuple",data:= .seq rest.toArray}).push (J77 h C)
theorem J4d{rest:List Value}:∀b o,h.get? b=some o→(J78 h C rest).get? b=some o:=fun _ _ e=>Ff _ (Ff _ e)
end
def exO(n:Bool)(x C:Addr)(od:Option Addr):HO:= .ext fun h=>∃vs sl,h.get? x=some ⟨.ref C,od,.fields vs,sl⟩∧(n=true→∃t,vs=#[.ref t,.none,.none,.none,.bool false,.none])
end L2
namespace L2
open Sem (wp)
def pI(C:Addr)(H₀:Hp)(EE:St→XK):St→Addr→Hp→Prop:=fun σ x H2=>∃od,H2 x=some (exO true x C od)∧H₀ x=none∧EE σ (.ref C) (some x) (upd H2 x (exO false x C od))
end L2
namespace L2
theorem Jcr{P:Program}{w:World}{k:Key}{u:Value}(h:(B7 P w).is k u=true):Ax (kV k) u:=by
 cases k with
 | inl i=>
  cases u <;> first | (exact absurd h (by intro z;cases z)) | skip
  rename_i j t
  have e:j=i:=by simpa [B7,N0,Value.isInt] using h
  exact ⟨t,by rw [e]⟩
 | inr x=>
  cases u <;> first | (exact absurd h (by intro z;cases z)) | skip
  rename_i j t
  have e:j=x:=by simpa [B7,N0,Value.isStrOf] using h
  exact ⟨t,by rw [e]⟩
theorem Um:∀{xs:List V} {us:List Value},Au xs us→∀{i:Nat} {u:Value},us[i]?=some u→∃x,xs[i]?=some x∧Ax x u
 | _,_,.cons r t,0,u,e=>by cases e;exact ⟨_,rfl,r⟩
 | _,_,.cons r t,i+1,u,e=>Um t (i:=i) e
theorem Yg:∀{xs:List V} {us:List Value},xs.length=us.length→(∀(j:Nat) (u:Value),us[j]?=some u→∃x,xs[j]?=some x∧Ax x u)→Au xs us
 | [],[],_,_=> .nil
 | x::xs,u::us,hl,h=>by
  obtain ⟨y,e,r⟩:=h 0 u rfl;cases e;exact .cons r (Yg (by simpa using hl) fun j v e=>h (j+1) v e)
theorem L5{α β:Type}{F:α→β→Prop}:∀{l:List α} {m:List β},Paired F l m→∀{i:Nat} {b:β},m[i]?=some b→∃a,l[i]?=some a∧F a b
 | _,_,.cons r t,0,b,e=>by cases e;exact ⟨_,rfl,r⟩
 | _,_,.cons r t,i+1,b,e=>L5 t (i:=i) e
theorem Q4{α β:Type}(f:α→β):∀(l:List α) (i:Nat),(l.map f).eraseIdx i=(l.eraseIdx i).map f
 | [],_=>rfl
 | _::_,0=>rfl
 | a::l,i+1=>by rw [List.map_cons,RP,RP,List.map_cons,Q4 f l i]
theorem Uo(z:Str):∀l:List Str,l.eraseIdx (l.idxOf z)=l.erase z
 | []=>rfl
 | a::l=>by
  by_cases h:a=z
  · subst h;simp
  · have e:(a::l).idxOf z=l.idxOf z+1:=by rw [List.idxOf_cons,show (a==z)=false from beq_false_of_ne h];rfl
    rw [e,RP,Uo z l,JE (by simpa using h)]
def Up(v d:Addr):HO:= .ext fun h=>h.IsValuesView v d
theorem J12:∀(is:List Int),preSum (fun i=>is.getD i 0) is.length=is.sum:=by
 intro is
 have key:∀n,n≤is.length→preSum (fun i=>is.getD i 0) n=(is.take n).sum:=by
  intro n
  induction n with
  | zero=>intro _;rfl
  | succ n ih=>
   intro h
   have e:is.take (n+1)=is.take n++[is.getD n 0]:=by
    rw [Hg,Fc,Fb (by omega)];rfl
   rw [preSum,ih (by omega),e,HI];simp
 have:=key is.length (Fh _)
 rwa [Hv]at this
def J4e:List V→Hp→VK→Prop:=fun xs H Q=>∃a kvs,xs=[.ref a]∧H a=some (.dK kvs)∧∀l,H l=none→Q (.ref l) (upd H l (.lst (kvs.map fun p=>kV p.1)))
def Yh:V→List V→Hp→VK→Prop:=fun x vs H Q=>∃a kvs,x= .ref a∧vs=[]∧H a=some (.dK kvs)∧∀v,H v=none→Q (.ref v) (upd H v (Up v a))
def J9j:List V→Hp→VK→Prop:=fun xs H Q=>∃(v d:Addr) (kvs:List (Key×V)) (is:List Int),xs=[.ref v]∧H v=some (Up v d)∧H d=some (.dK kvs)∧kvs.map (·.2)=is.map V.int∧Q (.int is.sum) H
def Yi:V→List V→Hp→VK→Prop:=fun x vs H Q=>∃(l:Addr) (ys:List Str) (z:Str),x= .ref l∧vs=[.str z]∧H l=some (.lst (ys.map V.str))∧z∈ys∧Q .non (upd H l (.lst ((ys.erase z).map V.str)))
section
variable {X:Cx}
theorem Oh(hc:X.calm=true):E4 X (.type "list") J4e:=by
 intro pins s σ H xs us Q I r h;obtain ⟨a,kvs,rfl,ha,q⟩:=h;obtain ⟨u,rfl,rx⟩:=G2 r;cases rx;obtain ⟨z,lo,ws,rel,ob,es,ep,e1,e2⟩:=I.hok a _ ha
 have dat:s.heap.DictAt (B7 X.prog X.w) a ws ep:=⟨ob,es,e1,e2⟩
 refine PySem.W.kdl_call (PySem.W.kdl_dict (knd:=B7 X.prog X.w) (kvs:=ws) (ep:=ep) lo) (I.ok.hd hc) dat (by rw [← rel.length];exact z) fun h' tk acc c' kp e hi=>?_
 have hv:Au (kvs.map fun p=>kV p.1) acc.toList:=by
  have h1:=hi.1;have h2:=rel.length;refine Yg (by rw [Fa];exact h2.trans (h1.symm.trans (Ft (xs:=acc)).symm)) fun j u ej=>?_;obtain ⟨k,x,ek,hk⟩:=hi.2 j u (by rw [← FZ];exact ej);obtain ⟨p,ep',hp⟩:=L5 rel ek;exact ⟨kV p.1,by rw [Fg,ep'];rfl,by rw [hp.1];exact Jcr hk⟩
 refine ⟨.ref s.heap.objs.size,_,I.laid (t':=tk) kp (Fh _) (show Bi X.prog X.w _ h' _ (.lst (kvs.map fun p=>kV p.1)) from ⟨by rw [Fa];exact z,acc.toList,c',hv,?_⟩),rfl,q _ I.fresh⟩;rw [JH];exact e
theorem J13:MtM X "dict.values" Yh:=by
 intro pins s σ H x vs v us Q I rx rv h;obtain ⟨a,kvs,rfl,rfl,ha,q⟩:=h;cases rx;have hus:=rv.zero;subst hus;obtain ⟨z,lo,ws,rel,dd⟩:=I.hok a _ ha;refine J5 PySem.F.slot_dict_values dd.typeIs PySem.F.entry_dict_values (PySem.F.args_dict_values_1 _) (meets_dict_values (B7 X.prog X.w) a lo) ⟨⟨ws,dd⟩,?_⟩;refine ⟨.ref s.heap.objs.size,_,I.laid (t':=s.toks) (fun b o e=>Ff _ e) (Fh _) (show Bi X.prog X.w _ _ _ (Up s.heap.objs.size a) from ⟨⟨_,Fo _ rfl,rfl,rfl⟩,⟨_,Fo _ rfl⟩,fun h1 h2 ⟨o,e1,e2⟩ k=>⟨o,k _ e1,e2⟩⟩),rfl,q _ I.fresh⟩
theorem J14(hc:X.calm=true):E4 X (.builtin "sum") J9j:=by
 intro pins s σ H xs us Q I r h;obtain ⟨v,d,kvs,is,rfl,hv,hd,hm,q⟩:=h;obtain ⟨u,rfl,rx⟩:=G2 r;cases rx;obtain ⟨z,lo,ws,rel,ob,es,ep,e1,e2⟩:=I.hok d _ hd
 have dat:s.heap.DictAt (B7 X.prog X.w) d ws ep:=⟨ob,es,e1,e2⟩
 have hvw:s.heap.IsValuesView v d:=(I.hok v _ hv).1;have src:=PySem.W.kdl_values (prog:=X.prog) (w:=X.w) (r:=v) (d:=d) (knd:=B7 X.prog X.w) (kvs:=ws) (ep:=ep)
 have hlen:ws.length=is.length:=by
  have:=congrArg List.length hm;simp only [Fa]at this;rw [← rel.length];exact this
 refine call_sum_walkAnyS ?_;obtain ⟨oI,St,hit,W,st⟩:=src.iter X.A.in1 s (I.ok.hd hc) ⟨hvw,dat⟩;refine hit _ _ ⟨s.heap.objs.size,_,_,_,_,_,_,fun i=>is.getD i 0,rfl,W.toS,st,fun b hb=>?_,fun i u hp=>?_,fun s' t' hmv=>?_⟩
 · show b < (s.heap.push oI).objs.size
   rw [size_push'];rcases Fy.mp hb with e | hb
   · rw [e];exact Hu _
   · rw [Fj.mp hb];exact HU (Fm e1)
 · obtain ⟨k,ek⟩:=hp
   obtain ⟨p,ep',hp'⟩:=L5 rel ek
   have e3:(kvs.map (·.2))[i]?=some p.2:=by rw [Fg,ep'];rfl
   rw [hm,Fg]at e3
   cases hi:is[i]? with
   | none=>rw [hi]at e3;cases e3
   | some n=>
    rw [hi]at e3;have e4:V.int n=p.2:=FS e3;have r2:=hp'.2;rw [← e4]at r2;show ∃t,u=Value.int (is.getD i 0) t;rw [Fc,hi];exact r2
 · have hk:∀b o,s.heap.get? b=some o→s'.heap.get? b=some o:=fun b o e=>
    hmv.heap b o (fun hI=>absurd (Fm e) (by rw [Fj.mp hI];exact Hc _)) (Ff _ e)
   rw [Moved.eq_with hmv];refine ⟨.int is.sum,H,I.kept (t':=s'.toks) hk,⟨t',?_⟩,q⟩;rw [hlen,J12]
theorem J15:MtM X "list.remove" Yi:=by
 intro pins s σ H x vs v us Q I rx rv h;obtain ⟨l,ys,z,rfl,rfl,hH,hz,q⟩:=h;cases rx;obtain ⟨u,rfl,ru⟩:=rv.one;obtain ⟨t,rfl⟩:=ru;obtain ⟨hs,its,n,r,hl,e⟩:=I.lstM hH;have hj:ys.idxOf z < ys.length:=List.idxOf_lt_length_iff.mpr hz
 have at_:∀(m:Nat) (u:Value),its[m]?=some u→∃y t,ys[m]?=some y∧u= .str y t:=fun m u em=>by
  obtain ⟨x,ex,rx⟩:=Um r em;rw [Fg]at ex
  cases hy:ys[m]? with
  | none=>rw [hy]at ex;cases ex
  | some y=>
   rw [hy]at ex;cases ex;obtain ⟨t,e⟩:=rx;exact ⟨y,t,rfl,e⟩
 have ev:∀y,y∈its.toArray→MeetsSeq.EqGives y (.str z t) (PyProof.Rows.isStrOf z y):=fun y hy=>by
  obtain ⟨m,hm⟩:=FF.mp (by simpa using hy)
  obtain ⟨y',t',_,rfl⟩:=at_ m y hm
  exact eqGives_str y' z t' t
 have hit:∀(m:Nat) (hm:m < its.toArray.size),∃y t,ys[m]?=some y∧its.toArray[m]= .str y t:=fun m hm=>at_ m _ (by simp)
 refine RL F.slot_list_remove ⟨_,e,rfl⟩ F.entry_list_remove (F.args_list_remove_2 _ _) (MeetsSeq.list_remove l its.toArray n (.str z t) (isStrOf z) ev (ys.idxOf z) (by rw [Fl,← hl,Fa];exact hj) ?_ ?_ (by rw [Fl];omega)) ⟨e,?_⟩
 · obtain ⟨y,t',h1,h2⟩:=hit (ys.idxOf z) (by rw [Fl,← hl,Fa];exact hj)
   rw [h2]
   have e3:ys[ys.idxOf z]?=some z:=by rw [Fb hj,List.getElem_idxOf hj]
   rw [e3]at h1;cases h1;simp [isStrOf]
 · intro m hm hlt
   obtain ⟨y,t',h1,h2⟩:=hit m hm;rw [h2];have e3:(ys[m]'(by omega)==z)=false:=List.not_of_lt_findIdx hlt;rw [Fb (by omega)]at h1;cases h1;exact e3
 · refine ⟨.non,_,I.lset (its':=its.eraseIdx (ys.idxOf z)) hH e ?_ (ys:=(ys.erase z).map V.str) ?_ ?_,rfl,q⟩
   · rw [List.eraseIdxIfInBounds_toArray]
   · have:=r.eraseIdx (ys.idxOf z)
     have e5:(ys.map V.str).eraseIdx (ys.idxOf z)=(ys.erase z).map V.str:=by
      rw [Q4,Uo]
     rw [e5]at this;exact this
   · have:=List.length_erase_le (a:=z) (l:=ys)
     rw [Fa]at hs ⊢;omega
end
section
variable {σ:St} {H:Hp} {Q:VK} {xs:List V} {x y:V}
theorem Uq{td ty:TE}:J2s td ty σ H Q=td σ H fun x H1=>∃a,x= .ref a∧IsD H1 a∧ty σ H1 fun y H2=>∃kvs k v,H2 a=some (.dK kvs)∧y=kV k∧B9 kvs k=some v∧Q v (upd H2 a (.dK (Bj kvs k))):=rfl
theorem Ur{td ty tx:TE}:J2r td ty tx σ H Q=td σ H fun x H1=>∃a,x= .ref a∧IsD H1 a∧ty σ H1 fun y H2=>tx σ H2 fun z H3=>∃o,D0 H3 a y o∧Q (o.getD z) H3:=rfl
theorem Us:J4e xs H Q=∃a kvs,xs=[.ref a]∧H a=some (.dK kvs)∧∀l,H l=none→Q (.ref l) (upd H l (.lst (kvs.map fun p=>kV p.1))):=rfl
theorem Q5:Yh x xs H Q=∃a kvs,x= .ref a∧xs=[]∧H a=some (.dK kvs)∧∀v,H v=none→Q (.ref v) (upd H v (Up v a)):=rfl
theorem Yj:J9j xs H Q=∃(v d:Addr) (kvs:List (Key×V)) (is:List Int),xs=[.ref v]∧H v=some (Up v d)∧H d=some (.dK kvs)∧kvs.map (·.2)=is.map V.int∧Q (.int is.sum) H:=rfl
theorem Q6:Yi x xs H Q=∃(l:Addr) (ys:List Str) (z:Str),x= .ref l∧xs=[.str z]∧H l=some (.lst (ys.map V.str))∧z∈ys∧Q .non (upd H l (.lst ((ys.erase z).map V.str))):=rfl
end
end L2
namespace L2
open N1 N5
section
variable {K:PySem.W.Frag} {tail:St} {te:Blk→TE} {Q:VK} {H1:Hp}
theorem Ut{a:Addr}{xs:List V}(f:Nat→V)(hS:SqL K H1 a xs)(hz:xs.length≤sizeLine)(he:∀b i x H Q',xs[i]?=some x→A7 H1 H→Q' (f i) H→te b (some x::tail) H Q')
 (q:∀D,H1 D=none→Q (.ref D) (upd H1 D (.lst ((List.range xs.length).map f)))):C1 (none::tail) (fun _=>C7 0) (fun _=>Pf) te Q (Itl K a) H1:=by
 refine Lk xs.length (fun b D hD=>⟨fun i ys H=>i≤xs.length∧ys=(List.range i).map f∧H=upd H1 D (.lst ys),⟨FB _,rfl,rfl⟩,?_,?_,?_⟩)
 · rintro i ys H ⟨hi,rfl,rfl⟩
   exact A3
 · rintro ys H ⟨_,rfl,rfl⟩
   exact ⟨⟨xs,(Cf hD).seq hS,Fh _⟩,q D hD⟩
 · rintro i ys H hi ⟨_,rfl,rfl⟩
   refine ⟨⟨xs,xs[i],(Cf hD).seq hS,by simp [hi]⟩,fun x H3 ⟨e3,ex⟩=>?_⟩;subst e3;refine he b i x _ _ (ex xs ((Cf hD).seq hS)) (Cf hD) (Il A3 (by rw [Fa,Fv];omega) hi ⟨hi,?_,?_⟩)
   · rw [Hn];simp
   · funext a;by_cases ha:a=D <;> simp [upd,ha]
end
end L2
namespace N4
open L2 N1 N5
def Kc(K:PySem.W.Frag):Sp:=fun vs H Q _=>∃(n co r:V) (e:Addr) (kvs:List (Key×V)) (ks:List Str),vs=[n,co,r,.ref e]∧H e=some (.dK kvs)∧kvs.map (·.1)=ks.map Sum.inr∧U6 ks n co r=none∧∀H',A7 H H'→Q .non H'
def Ln(K:PySem.W.Frag)(C:Addr):Sp:=fun vs H Q _=>∃(p dx ra:Addr) (rs:List Rw),vs=[.ref p,.ref ra]∧H p=some (.ins C dx [])∧SqL K H ra (rs.map fun t=>V.ref t.1)∧(∀t∈rs,SqT K H t.1 [t.2.1,t.2.2.1,t.2.2.2])∧U7 rs=none∧
 ∀H',SameBut p H H'→Aa K C H' p (rs.map J6v)→Q .non H'
theorem W7{rs:List Rw}(h:U7 rs=none):rs.length≤60∧Ip [] rs=none:=by
 unfold U7 at h;split at h
 · cases h
 · exact ⟨by omega,h⟩
theorem Iq{lo hi c:Int}(h1:lo≤c)(h2:c≤hi):wIn lo hi (.int c)=true:=by
 show (decide (lo≤c) && decide (c≤hi))=true;rw [Fx h1,Fx h2];rfl
theorem Q7:∀(rs:List Rw) (ks:List Str),(∀t∈rs,∃z c q,t.2.1= .str z∧t.2.2.1= .int c∧t.2.2.2= .int q∧Bz z.cps.toList=true∧0≤c∧c≤10 ^ 30∧1≤q∧q≤1000)→(ks++rs.map fun t=>sOf t.2.1).Nodup→Ip ks rs=none
 | [],_,_,_=>rfl
 | t::rs,ks,h,nd=>by
  obtain ⟨z,c,q,e1,e2,e3,hn,h1,h2,h3,h4⟩:=h t (FA ..)
  have hz:¬z∈ks:=fun hz=>by
   rw [List.map_cons,Hq]at nd;exact nd.2.2 z hz (sOf t.2.1) (FA ..) (by rw [e1];rfl)
  have r0:U6 ks t.2.1 t.2.2.1 t.2.2.2=none:=by
   unfold U6;rw [e1,e2,e3];rw [if_neg (by show ¬Bz z.cps.toList=false;rw [hn];decide),if_neg (show ¬sOf (.str z)∈ks from hz),if_neg (by rw [Iq h1 h2];decide),if_neg (by rw [Iq h3 h4];decide)]
  unfold Ip;rw [r0];refine Q7 rs _ (fun t' ht=>h t' (Fn _ ht)) ?_;rw [HV];exact nd
theorem J4f{kvs:List (Key×V)}{i:Nat}{k:Key}{v:V}(nd:(kvs.map (·.1)).Nodup)(e:kvs[i]?=some (k,v)):B9 kvs k=some v:=by
 induction kvs generalizing i with
 | nil=>rw [List.getElem?_nil]at e;cases e
 | cons p r ih=>
  cases i with
  | zero=>cases e;exact Bw rfl
  | succ i=>
   rw [List.map_cons,Hj]at nd;have hm:(k,v)∈r:=Fk e;rw [Bn (fun z=>nd.1 (by rw [z];exact List.mem_map_of_mem (f:=(·.1)) hm))];exact ih nd.2 e
theorem J16{ks:List Str}(h:ks.Nodup):(ks.map (Sum.inr:Str→Key)).Nodup:=by
 unfold List.Nodup at *;rw [Jh];exact h.imp fun n e=>n (by injection e)
section
variable {K:PySem.W.Frag} {C:Addr} {H H':Hp} {p:Addr} {ts:List Th} {z:Str}
theorem Aa.has(h:Aa K C H p ts):∃dx d kvs,H p=some (.ins C dx (flds d))∧H d=some (.dK kvs)∧(kvs.map fun q=>kV q.1)=ts.map (fun t=>V.str t.1)∧(∀z,(B9 kvs (Sum.inr z)).isSome=decide (z∈ts.map (·.1)))∧
 ((ts.map (·.1)).Nodup→∀(i:Nat) (t:Th),ts[i]?=some t→∃a,B9 kvs (Sum.inr t.1)=some (.ref a)∧SqT K H a [.int i,.int t.2.1,.int t.2.2]):=by
 obtain ⟨dx,d,kvs,h1,h2,h3,h4⟩:=h.ex
 have h3':kvs.map (·.1)=(ts.map (·.1)).map Sum.inr:=by rw [h3,FR];rfl
 refine ⟨dx,d,kvs,h1,h2,?_,fun z=>Lm h3',fun nd i t e=>?_⟩
 · have:=congrArg (List.map kV) h3
   rw [FR,FR]at this;exact this
 · obtain ⟨a,e1,e2⟩:=h4 i t e
   exact ⟨a,J4f (by rw [h3'];exact J16 nd) e1,e2⟩
end
def pick(w:Nat)(i:Nat)(t:Th):Int:=if w=0 then i else if w=1 then t.2.1 else t.2.2
def S9(K:PySem.W.Frag)(C:Addr):Sp:=fun vs H Q _=>∃(p:Addr) (ts:List Th) (z:Str),vs=[.ref p,.str z]∧Aa K C H p ts∧Q (.bl (decide (z∈ts.map (·.1)))) H
def Sa(K:PySem.W.Frag)(C:Addr):Sp:=fun vs H Q _=>∃(p:Addr) (ts:List Th),vs=[.ref p]∧Aa K C H p ts∧∀l,H l=none→Q (.ref l) (upd H l (.lst ((ts.map (·.1)).map V.str)))
def Ir:Sp:=fun vs H Q _=>∃a b:Int,vs=[.int a,.int b]∧Q (.bl (decide (a=b))) H
theorem Kd{ts:List Th}{z:Str}(h:z∈ts.map (·.1)):∃(i:Nat) (t:Th),ts[i]?=some t∧t.1=z:=by
 obtain ⟨t,ht,e⟩:=FH.mp h;obtain ⟨i,hi⟩:=FF.mp ht;exact ⟨i,t,hi,e⟩
end N4
namespace N55
open L2 N1 N5 N53 N51
abbrev Bk5:=Addr×Str×Bool×Addr
structure Kx(H:Hp)(p:Addr)(bs:List Bk5):Prop where
 l:H p=some (.lst (bs.map fun r=>V.ref r.1))
 t:∀r∈bs,H r.1=some (.tup [.str r.2.1,.bl r.2.2.1,.ref r.2.2.2])
theorem Kx.same{H H':Hp}{p:Addr}{bs:List Bk5}(s:A7 H H')(h:Kx H p bs):Kx H' p bs:=⟨s _ _ h.l,fun r hr=>s _ _ (h.t r hr)⟩
end N55
namespace N55
open L2 N1 N5 N53 N51
section
variable {tp:Addr} {pos:Pos} {qual:Str} {H H1 H2 H':Hp}
theorem Yk(h:Dv tp pos qual H):∃ps,H tp=some (.tbl ps):=by
 rcases h with h | ⟨c,h,_⟩
 · exact ⟨_,h⟩
 · exact ⟨_,h⟩
theorem Uu(s:A7 H H')(h:Dv tp pos qual H):Dv tp pos qual H':=by
 rcases h with h | ⟨c,h,h'⟩
 · exact .inl (s _ _ h)
 · exact .inr ⟨c,s _ _ h,s _ _ h'⟩
theorem Jax(h:Dv tp pos qual H){p:Addr}{o:HO}(e:H p=some o)(n:∀ps,o≠ .tbl ps):p≠tp:=fun z=>by
 obtain ⟨ps,h'⟩:=Yk h;rw [z,h']at e;cases e;exact n _ rfl
structure Tk(tp:Addr)(pos:Pos)(qual:Str)(H H':Hp):Prop where
 but:SameBut tp H H'
 lam:Dv tp pos qual H'
theorem Tk.trans(a:Tk tp pos qual H H1)(b:Tk tp pos qual H1 H2):Tk tp pos qual H H2:=⟨a.but.trans b.but,b.lam⟩
theorem Tk.of(h:Dv tp pos qual H)(s:A7 H H1):Tk tp pos qual H H1:=⟨.of s,Uu s h⟩
theorem Tk.get(t:Tk tp pos qual H H')(h:Dv tp pos qual H){p:Addr}{o:HO}(e:H p=some o)(n:∀ps,o≠ .tbl ps):H' p=some o:=t.but _ _ e (Jax h e n)
theorem Tk.lst(t:Tk tp pos qual H H')(h:Dv tp pos qual H){p:Addr}{xs:List V}(e:H p=some (.lst xs)):H' p=some (.lst xs):=t.get h e fun _ z=>by cases z
theorem Tk.tup(t:Tk tp pos qual H H')(h:Dv tp pos qual H){p:Addr}{xs:List V}(e:H p=some (.tup xs)):H' p=some (.tup xs):=t.get h e fun _ z=>by cases z
theorem Kx.tk{p:Addr}{bs:List Bk5}(t:Tk tp pos qual H H')(h:Dv tp pos qual H)(b:Kx H p bs):Kx H' p bs:=⟨t.lst h b.l,fun r hr=>t.tup h (b.t r hr)⟩
end
def Jay(H:Hp):V→Bool
 | .ref t=>match H t with
  | some (.tup [.str _,.bl b,.ref _])=>!b
  | _=>false
 | _=>false
theorem Sb{H:Hp}{t g:Addr}{y:Str}{b:Bool}(h:H t=some (.tup [.str y,.bl b,.ref g])):Jay H (.ref t)=!b:=by
 show (match H t with | some (.tup [.str _,.bl b,.ref _])=>!b | _=>false)=!b;rw [h]
end N55
namespace N4
open L2 N1 N5
theorem Jaz{j:Nat}:md j=26∨md j=36:=by unfold md;split <;> simp
theorem Jb0{x y:Int}{j:Nat}(h:bc (x % md j)=bc (y % md j)):x % md j=y % md j:=by
 rcases Jaz (j:=j) with hm | hm <;> rw [hm]at h ⊢
 · exact S7 (by omega) (by omega) (by omega) (by omega) h
 · exact S7 (by omega) (by omega) (by omega) (by omega) h
structure W8(K:PySem.W.Frag)(H:Hp)(r:Addr)(as:List Addr)(ts:List Th):Prop where
 l:SqL K H r (as.map V.ref)
 n:as.length=ts.length
 m:ts.length≤60
 at_:∀(i:Nat) (a:Addr) (t:Th),as[i]?=some a→ts[i]?=some t→SqT K H a [.str t.1,.int t.2.1,.int t.2.2]
 ok:∀t∈ts,Bz t.1.cps.toList=true∧0≤t.2.1∧t.2.1≤10 ^ 30∧1≤t.2.2∧t.2.2≤1000
 nd:(ts.map (·.1)).Nodup
def J4g(a:Addr)(t:Th):Rw:=(a,.str t.1,.int t.2.1,.int t.2.2)
theorem W8.init{K:PySem.W.Frag}{H:Hp}{r:Addr}{as:List Addr}{ts:List Th}(h:W8 K H r as ts):∃rs:List Rw,rs.map (fun t=>V.ref t.1)=as.map V.ref∧(∀t∈rs,SqT K H t.1 [t.2.1,t.2.2.1,t.2.2.2])∧U7 rs=none∧rs.map J6v=ts:=by
 have hn:=h.n
 have gt:∀(i:Nat) (x:Addr×Th),(as.zip ts)[i]?=some x→as[i]?=some x.1∧ts[i]?=some x.2:=fun i x e=>by
  rw [Jc]at e;exact e
 have e1:((as.zip ts).map fun x=>J4g x.1 x.2).map J6v=ts:=by
  rw [FR]
  have:(J6v∘fun x:Addr×Th=>J4g x.1 x.2)=Prod.snd:=by funext x;rfl
  rw [this,List.map_snd_zip (by omega)]
 refine ⟨(as.zip ts).map fun x=>J4g x.1 x.2,?_,?_,?_,e1⟩
 · rw [FR]
   have:((fun t:Rw=>V.ref t.1)∘fun x:Addr×Th=>J4g x.1 x.2)=V.ref∘Prod.fst:=by funext x;rfl
   rw [this,← FR,List.map_fst_zip (by omega)]
 · intro t ht
   obtain ⟨x,hx,rfl⟩:=FH.mp ht;obtain ⟨i,hi⟩:=FF.mp hx;obtain ⟨h1,h2⟩:=gt i x hi;exact h.at_ i x.1 x.2 h1 h2
 · unfold U7
   rw [if_neg (by rw [Fa,List.length_zip];have:=h.m;omega)];refine Q7 _ _ (fun t ht=>?_) ?_
   · obtain ⟨x,hx,rfl⟩:=FH.mp ht
     obtain ⟨i,hi⟩:=FF.mp hx;obtain ⟨h1,h2⟩:=gt i x hi;obtain ⟨o1,o2,o3,o4,o5⟩:=h.ok x.2 (Fk h2);exact ⟨x.2.1,x.2.2.1,x.2.2.2,rfl,rfl,rfl,o1,o2,o3,o4,o5⟩
   · rw [List.nil_append,FR]
     have:((fun t:Rw=>sOf t.2.1)∘fun x:Addr×Th=>J4g x.1 x.2)=(fun t:Th=>t.1)∘Prod.snd:=by funext x;rfl
     rw [this,← FR,List.map_snd_zip (by omega)];exact h.nd
end N4
namespace N32
open L2 N1 N5 N31
def Bb(ys:List Str)(z:Str):Nat→Option Nat
 | 0=>none
 | n+1=>if ys.getD n Str.empty=z then some n else Bb ys z n
theorem Dh{ys:List Str}{z:Str}:∀{n j:Nat},Bb ys z n=some j→j < n∧ys.getD j Str.empty=z
 | 0,j,h=>by cases h
 | n+1,j,h=>by
  unfold Bb at h;split at h
  · rename_i e
    cases h;exact ⟨Hu _,e⟩
  · have:=Dh h
    exact ⟨by omega,this.2⟩
theorem J4h{ys:List Str}{z:Str}{b n j:Nat}(h:Bb ys z n=some b)(h1:b < j)(h2:j < n):ys.getD j Str.empty≠z:=by
 induction n with
 | zero=>cases h
 | succ n ih=>
  unfold Bb at h;split at h
  · rename_i e
    cases h;omega
  · rename_i e
    by_cases ej:j=n
    · subst ej;exact e
    · exact ih h (by omega)
def ear(ys:List Str)(i:Nat):Option Nat:=Bb ys (ys.getD i Str.empty) i
def W(R:Str→Int)(ys:List Str)(n j:Nat):Int:=if Bb ys (ys.getD j Str.empty) n=some j then R (ys.getD j Str.empty) else 0
def nums(R:Str→Int)(ys:List Str)(n:Nat):List Int:=(List.range ys.length).map (W R ys n)
theorem Ci{R:Str→Int}{ys:List Str}{n:Nat}:(nums R ys n).length=ys.length:=by simp [nums]
theorem Ee{R:Str→Int}{ys:List Str}{n j:Nat}(h:j < ys.length):(nums R ys n).getD j 0=W R ys n j:=by
 unfold nums;rw [Fc,Fg,Hd h];rfl
theorem Uv{xs ys:List Int}(hl:xs.length=ys.length)(h:∀j,j < xs.length→xs.getD j 0=ys.getD j 0):xs=ys:=by
 refine List.ext_getElem hl fun j h1 h2=>?_;have:=h j h1;rw [Fc,Fb h1,Fc,Fb h2]at this;exact this
theorem Lo{xs:List Int}{i j:Nat}{v:Int}(hi:i < xs.length):(xs.set i v).getD j 0=if j=i then v else xs.getD j 0:=by
 rw [Fc,List.getElem?_set]
 by_cases h:i=j
 · subst h;simp [hi]
 · rw [if_neg h,if_neg (Ne.symm h),Fc]
theorem J4i{R:Str→Int}{ys:List Str}{n:Nat}:W R ys n n=0:=by
 unfold W;rw [if_neg];intro h;exact absurd (Dh h).1 (Hc _)
theorem Yl{R:Str→Int}{ys:List Str}{n j:Nat}(h:ys.getD j Str.empty≠ys.getD n Str.empty):W R ys (n+1) j=W R ys n j:=by
 unfold W;rw [show Bb ys (ys.getD j Str.empty) (n+1)=Bb ys (ys.getD j Str.empty) n from if_neg (Ne.symm h)]
theorem J9k{R:Str→Int}{ys:List Str}{n:Nat}:W R ys (n+1) n=R (ys.getD n Str.empty):=by
 unfold W;rw [if_pos];exact if_pos rfl
theorem J9l{R:Str→Int}{ys:List Str}{n j:Nat}(h:ys.getD j Str.empty=ys.getD n Str.empty)(hj:j≠n):W R ys (n+1) j=0:=by
 unfold W;rw [h,if_neg];intro e;rw [show Bb ys (ys.getD n Str.empty) (n+1)=some n from if_pos rfl]at e;cases e;exact hj rfl
theorem W9{R:Str→Int}{ys:List Str}{n:Nat}(hn:n < ys.length)(h:ear ys n=none):(nums R ys n).set n ((nums R ys n).getD n 0+R (ys.getD n Str.empty))=nums R ys (n+1):=by
 refine Uv (by rw [Ho,Ci,Ci]) fun j hj=>?_;rw [Ho,Ci]at hj;rw [Lo (by rw [Ci];exact hn),Ee hn,Ee hj,Ee hj,J4i]
 by_cases e:j=n
 · subst e;rw [if_pos rfl,J9k];omega
 · rw [if_neg e]
   by_cases ey:ys.getD j Str.empty=ys.getD n Str.empty
   · rw [J9l ey e]
     unfold W;rw [if_neg];intro z;rw [ey]at z;unfold ear at h;rw [h]at z;cases z
   · rw [Yl ey]
theorem Wa{R:Str→Int}{ys:List Str}{n b:Nat}(hn:n < ys.length)(h:ear ys n=some b):
 ((nums R ys n).set b ((nums R ys n).getD b 0+(0 - R (ys.getD n Str.empty)))).set n (((nums R ys n).set b ((nums R ys n).getD b 0+(0 - R (ys.getD n Str.empty)))).getD n 0+R (ys.getD n Str.empty))=nums R ys (n+1):=by
 obtain ⟨h1,h2⟩:=Dh h
 have hb:b < ys.length:=by omega
 refine Uv (by rw [Ho,Ho,Ci,Ci]) fun j hj=>?_;rw [Ho,Ho,Ci]at hj;rw [Lo (by rw [Ho,Ci];exact hn),Lo (by rw [Ci];exact hb),Lo (by rw [Ci];exact hb),Ee hn,Ee hj,Ee hj,Ee hb,J4i,if_neg (show ¬n=b by omega)]
 by_cases e:j=n
 · subst e;rw [if_pos rfl,J9k];omega
 · rw [if_neg e]
   by_cases ey:ys.getD j Str.empty=ys.getD n Str.empty
   · rw [J9l ey e]
     by_cases eb:j=b
     · subst eb
       rw [if_pos rfl];unfold W;unfold ear at h;rw [h2,if_pos h];omega
     · rw [if_neg eb]
       unfold W;rw [if_neg];intro z;rw [ey]at z;unfold ear at h;rw [h]at z;cases z;exact eb rfl
   · rw [Yl ey,if_neg (fun z=>ey (by rw [z];exact h2))]
def tl(f:Nat→Int)(b n:Nat):Int:=((List.range' b (n - b)).map f).sum
theorem J4j{f:Nat→Int}{n:Nat}:tl f n n=0:=by unfold tl;rw [J6];rfl
theorem J79{f:Nat→Int}{b n:Nat}(h:b < n):tl f b n=f b+tl f (b+1) n:=by
 unfold tl;rw [show n - b=(n - (b+1))+1 by omega,JW,List.map_cons,Hh]
theorem J4k{f:Nat→Int}{n:Nat}:∀{b:Nat},b≤n→((List.range n).map f).sum - ((List.range b).map f).sum=tl f b n:=by
 intro b hb
 induction n with
 | zero=>
  have e:b=0:=by omega
  subst e;rfl
 | succ n ih=>
  by_cases e:b=n+1
  · subst e;rw [J4j];omega
  · have ih:=ih (by omega)
    rw [Hn,Fw,HI]
    have e2:tl f b (n+1)=tl f b n+f n:=by
     unfold tl;rw [show n+1 - b=(n - b)+1 by omega,List.range'_concat,Fw,HI];simp;rw [show b+(n - b)=n by omega]
    rw [e2,← ih];simp;omega
theorem Q8{R:Str→Int}{ys:List Str}{n k:Nat}(h:k≤ys.length):((nums R ys n).take k)=(List.range k).map (W R ys n):=by
 unfold nums;rw [← RH,List.take_range,HX h]
def dep(R:Str→Int)(ys:List Str)(n:Nat):Option Int:=(ear ys n).map fun b=>tl (W R ys n) b n
def Ef:Option Int→V
 | none=> .non
 | some i=> .int i
def Ky(ys:List Str)(i:Nat):V:=Ef ((ear ys i).map fun j=>(j:Int))
def Cy(R:Str→Int)(ys:List Str):List V:=(List.range ys.length).map fun i=>Ef (dep R ys i)
end N32
namespace N32
open L2 N1 N5 N31 N4
def rm(ts:List Th)(z:Str):Int:=((ts.find? fun t=>decide (t.1=z)).map (·.2.2)).getD 0
theorem Oi{ts:List Th}(nd:(ts.map (·.1)).Nodup){i:Nat}{t:Th}(h:ts[i]?=some t):rm ts t.1=t.2.2:=by
 induction ts generalizing i with
 | nil=>simp at h
 | cons u r ih=>
  rw [List.map_cons,Hj]at nd
  cases i with
  | zero=>
   rw [List.getElem?_cons_zero]at h;cases h;simp [rm]
  | succ i=>
   rw [List.getElem?_cons_succ]at h;have ne:¬u.1=t.1:=fun e=>nd.1 (by rw [e];exact FH.mpr ⟨t,Fk h,rfl⟩);have:=ih nd.2 h;unfold rm at this ⊢;rw [List.find?_cons_of_neg (by simpa using ne)];exact this
theorem none_of{H H':Hp}{D:Addr}(s:A7 H H')(h:H' D=none):H D=none:=by
 cases e:H D with
 | none=>rfl
 | some o=>rw [s _ _ e]at h;cases h
theorem G6{H H':Hp}{p:Addr}{o:HO}(s:A7 H H')(h:H p=none):A7 H (upd H' p o):=fun b u e=>by
 rw [A2 (A8 e h)];exact s b u e
def Cr:Sp:=fun vs H Q _=>∃(i:Int),vs=[.int i]∧1≤i∧i≤1000000∧Q .non H
def Dd(K:PySem.W.Frag)(C:Addr):Sp:=fun vs H Q _=>∃(p:Addr) (ts:List Th) (z:Str),vs=[.ref p,.str z]∧Aa K C H p ts∧(ts.map (·.1)).Nodup∧z∈ts.map (·.1)∧∀(i:Nat) (t:Th),ts[i]?=some t→t.1=z→∀a,SqT K H a [.int i,.int t.2.1,.int t.2.2]→Q (.ref a) H
def C3(K:PySem.W.Frag)(C:Addr):Sp:=fun vs H Q _=>∃(p:Addr) (ts:List Th) (z:Str),vs=[.ref p,.str z]∧Aa K C H p ts∧(ts.map (·.1)).Nodup∧z∈ts.map (·.1)∧Q (.int (rm ts z)) H
def Mr(K:PySem.W.Frag)(C:Addr):Sp:=fun vs H Q _=>∃(p a:Addr) (pl:Int) (ts:List Th) (ys:List Str),vs=[.ref p,.ref a,.int pl]∧Aa K C H p ts∧(ts.map (·.1)).Nodup∧SqL K H a (ys.map V.str)∧ys.length≤200∧(∀y∈ys,y∈ts.map (·.1))∧(∀t∈ts,t.2.2≤pl)∧1≤pl∧pl≤1000000∧∀H',A7 H H'→Q (.bl true) H'
def Gi(K:PySem.W.Frag):Sp:=fun vs H Q _=>∃(a:Addr) (ys:List Str),vs=[.ref a]∧SqL K H a (ys.map V.str)∧ys.length≤200∧∀p H',H p=none→A7 H H'→H' p=some (.lst ((List.range ys.length).map (Ky ys)))→Q (.ref p) H'
def Ke(C:Addr):Sp:=fun vs H Q _=>∃(p dx:Addr) (n:Nat),vs=[.ref p,.int n]∧H p=some (.ins C dx [])∧n≤200∧∀l H',H l=none→SameBut p H H'→D7 C H' p l (List.replicate n 0)→Q .non H'
def Lp(C:Addr):Sp:=fun vs H Q _=>∃(p l:Addr) (k:Nat) (b:Int) (is:List Int),vs=[.ref p,.int k,.int b]∧D7 C H p l is∧is.length≤200∧k < is.length∧Q .non (upd H l (.lst ((is.set k (is.getD k 0+b)).map V.int)))
def Kf(C:Addr):Sp:=fun vs H Q _=>∃(p l:Addr) (k:Nat) (is:List Int),vs=[.ref p,.int k]∧D7 C H p l is∧is.length≤200∧k≤is.length∧∀H',A7 H H'→Q (.int (is.take k).sum) H'
def Eo(K:PySem.W.Frag)(C:Addr):Sp:=fun vs H Q _=>∃(p a:Addr) (ts:List Th) (ys:List Str),vs=[.ref p,.ref a]∧Aa K C H p ts∧(ts.map (·.1)).Nodup∧SqL K H a (ys.map V.str)∧ys.length≤200∧(∀y∈ys,y∈ts.map (·.1))∧(∀t∈ts,t.2.2≤1000000)∧
 ∀q H',H q=none→A7 H H'→H' q=some (.lst (Cy (rm ts) ys))→Q (.ref q) H'
section
variable {K:PySem.W.Frag} {σ:L2.St} {H:Hp} {Q:VK}
theorem Uw{td ty:TE}:J2q td ty σ H Q=td σ H fun x H1=>∃a,x= .ref a∧IsD H1 a∧ty σ H1 fun y H2=>∃o,D0 H2 a y o∧Q (o.getD .non) H2:=rfl
end
end N32
namespace N32
open L2 N1 N5 N31 N4
theorem SqT.offL{K:PySem.W.Frag}{H:Hp}{a l:Addr}{xs zs:List V}{o:HO}(hl:H l=some (.lst zs))(h:SqT K H a xs):SqT K (upd H l o) a xs:=by
 rcases h with (h | ⟨o',h⟩) | h
 · exact .inl (.inl (by rw [A2 (Az h hl (by intro z;cases z))];exact h))
 · exact .inl (.inr ⟨o',by rw [A2 (Az h hl (by intro z;cases z))];exact h⟩)
 · exact .inr h
theorem Aa.offL{K:PySem.W.Frag}{C:Addr}{H:Hp}{p l:Addr}{ts:List Th}{zs:List V}{o:HO}(hl:H l=some (.lst zs))(h:Aa K C H p ts):Aa K C (upd H l o) p ts:=by
 obtain ⟨dx,d,kvs,h1,h2,h3,h4⟩:=h.ex;refine ⟨dx,d,kvs,by rw [A2 (Az h1 hl (by intro z;cases z))];exact h1,by rw [A2 (Az h2 hl (by intro z;cases z))];exact h2,h3,fun i t e=>?_⟩;obtain ⟨a,e1,e2⟩:=h4 i t e;exact ⟨a,e1,SqT.offL hl e2⟩
theorem J7a{ys:List Str}{i:Nat}:((Bb ys (ys.getD i Str.empty) i).map fun j=>V.int (j:Int)).getD .non=Ky ys i:=by
 unfold Ky ear
 cases Bb ys (ys.getD i Str.empty) i <;> rfl
theorem J4l{ys:List Str}{kvs:List (Key×V)}{i:Nat}(h:∀z,B9 kvs (Sum.inr z)=(Bb ys z i).map fun j=>V.int (j:Int))(z:Str):B9 (Cd kvs (Sum.inr (ys.getD i Str.empty)) (V.int (i:Int))) (Sum.inr z)=(Bb ys z (i+1)).map fun j=>V.int (j:Int):=by
 rw [Ij]
 by_cases e:ys.getD i Str.empty=z
 · rw [if_pos (by rw [e]),show Bb ys z (i+1)=some i from if_pos e];rfl
 · rw [if_neg (fun h=>e (by injection h with h;exact h.symm)),show Bb ys z (i+1)=Bb ys z i from if_neg e];exact h z
end N32
namespace N32
open L2 N1 N5 N31 N4
theorem J17{R:Str→Int}{ys:List Str}:nums R ys 0=List.replicate ys.length 0:=by
 unfold nums
 have e:W R ys 0=fun _=>0:=by
  funext j;unfold W;rw [if_neg (by intro h;cases h)]
 rw [e,List.map_const',Fv]
theorem J4m{R:Str→Int}{ys:List Str}{i b:Nat}(hi:i < ys.length)(h:ear ys i=some b):((nums R ys i).take i).sum - ((nums R ys i).take b).sum=tl (W R ys i) b i∧dep R ys i=some (tl (W R ys i) b i):=by
 have hb:=(Dh h).1;refine ⟨?_,by unfold dep;rw [h];rfl⟩;rw [Q8 (by omega),Q8 (by omega)];exact J4k (by omega)
end N32
open L2 N1 N5 N31 N4 N32
namespace N41
def sm(f:Str→Int)(L:List Str):Int:=(L.map f).sum
theorem Oj(f:Str→Int):sm f []=0:=rfl
theorem Gj(f:Str→Int)(x:Str)(L:List Str):sm f (x::L)=f x+sm f L:=by unfold sm;rw [List.map_cons,Hh]
end N41
namespace N41
def cst(ts:List Th)(z:Str):Int:=((ts.find? fun t=>decide (t.1=z)).map (·.2.1)).getD 0
theorem J4n{ts:List Th}(nd:(ts.map (·.1)).Nodup){i:Nat}{t:Th}(h:ts[i]?=some t):cst ts t.1=t.2.1:=by
 induction ts generalizing i with
 | nil=>simp at h
 | cons u r ih=>
  rw [List.map_cons,Hj]at nd
  cases i with
  | zero=>
   rw [List.getElem?_cons_zero]at h;cases h;simp [cst]
  | succ i=>
   rw [List.getElem?_cons_succ]at h;have ne:¬u.1=t.1:=fun e=>nd.1 (by rw [e];exact FH.mpr ⟨t,Fk h,rfl⟩);have:=ih nd.2 h;unfold cst at this ⊢;rw [List.find?_cons_of_neg (by simpa using ne)];exact this
def De(K:PySem.W.Frag)(C:Addr):Sp:=fun vs H Q _=>∃(p a:Addr) (pl:Int) (ts:List Th) (ys:List Str),vs=[.ref p,.ref a,.int pl]∧Aa K C H p ts∧(ts.map (·.1)).Nodup∧SqL K H a (ys.map V.str)∧ys.length≤200∧(∀y∈ys,y∈ts.map (·.1))∧(∀y∈ys,rm ts y≤pl)∧1≤pl∧pl≤1000000∧∀H',A7 H H'→Q (.bl true) H'
def Cz(K:PySem.W.Frag)(C:Addr):Sp:=fun vs H Q _=>∃(p:Addr) (ts:List Th) (z:Str),vs=[.ref p,.str z]∧Aa K C H p ts∧(ts.map (·.1)).Nodup∧z∈ts.map (·.1)∧Q (.int (cst ts z)) H
end N41
namespace NPb
open L2 N1 N5 N53 N51 N55 N32 N41
def spW(zs:List Str)(g:Str→Int):Sp:=fun vs H Q _=>∃z,vs=[.str z]∧z∈zs∧∀H',A7 H H'→Q (.int (g z)) H'
structure Wg(P:Program)(w:World)(K:PySem.W.Frag)(mg:Str→Option Value)(base:Heap) where
 f:Addr
 J:Hp→Prop
 zs:List Str
 g:Str→Int
 ok:Nd P w K mg base CX0 4 f J (spW zs g)
 keep:∀{H H':Hp},A7 H H'→J H→J H'
def wsm(g:Str→Int)(bs:List Bk5):Int:=((bs.filter fun r=>!r.2.2.1).map fun r=>g r.2.1).sum
def nmV(H:Hp):V→Str
 | .ref t=>match H t with
  | some (.tup [.str z,.bl _,.ref _])=>z
  | _=>""
 | _=>""
theorem J4o{H:Hp}{t g:Addr}{y:Str}{b:Bool}(h:H t=some (.tup [.str y,.bl b,.ref g])):nmV H (.ref t)=y:=by
 show (match H t with | some (.tup [.str z,.bl _,.ref _])=>z | _=>("":Str))=y;rw [h]
theorem J7b{H:Hp}{g:Str→Int}{bs:List Bk5}(h:∀r∈bs,H r.1=some (.tup [.str r.2.1,.bl r.2.2.1,.ref r.2.2.2])):(((bs.map fun r=>V.ref r.1).filter (Jay H)).map fun x=>V.int (g (nmV H x)))=((bs.filter fun r=>!r.2.2.1).map fun r=>g r.2.1).map V.int:=by
 induction bs with
 | nil=>rfl
 | cons r bs ih=>
  have hr:=h r FA;have e:=Sb hr;have e2:=J4o hr;have ih':=ih fun x hx=>h x (Fn _ hx);rw [List.map_cons,J1,J1,e]
  by_cases hb:(!r.2.2.1)=true
  · rw [if_pos hb,if_pos hb,List.map_cons,List.map_cons,List.map_cons,ih',e2]
  · rw [if_neg hb,if_neg hb,ih']
def Dm(P:Program)(w:World)(K:PySem.W.Frag)(mg:Str→Option Value)(base:Heap):Sp:=fun vs H Q _=>∃(p:Addr) (b:Wg P w K mg base) (bs:List Bk5),vs=[.ref p,.ref b.f]∧Kx H p bs∧bs.length≤250∧(∀r∈bs,r.2.2.1=false→r.2.1∈b.zs)∧b.J H∧∀H',A7 H H'→Q (.int (wsm b.g bs)) H'
def Eg(tp:Addr)(pos:Pos)(qual:Str):Sp:=fun vs H Q _=>∃(p:Addr) (bs:List Bk5),vs=[.ref p]∧Kx H p bs∧bs.length≤250∧Dv tp pos qual H∧∀H',Tk tp pos qual H H'→Q (.int (wsm (fun _=>1) bs)) H'
def Iu(tp:Addr)(pos:Pos)(qual:Str)(K:PySem.W.Frag)(C:Addr):Sp:=fun vs H Q _=>∃(st p:Addr) (ts:List Th) (bs:List Bk5),vs=[.ref st,.ref p]∧Aa K C H st ts∧(ts.map (·.1)).Nodup∧Kx H p bs∧bs.length≤250∧(∀r∈bs,r.2.1∈ts.map (·.1))∧Dv tp pos qual H∧
 ∀H',Tk tp pos qual H H'→Q (.int (wsm (cst ts) bs)) H'
def Odd(u:HO):Prop:=(∃ps,u= .tbl ps)∨∃c o,u=Ey c o
theorem SqT.odd{K:PySem.W.Frag}{H H':Hp}{p a:Addr}{u:HO}{xs:List V}(s:SameBut p H H')(hp:H p=some u)(hu:Odd u)(h:SqT K H a xs):SqT K H' a xs:=by
 rcases h with (h | ⟨o,h⟩) | h
 · refine .inl (.inl (s _ _ h (Az h hp fun z=>?_)))
   rcases hu with ⟨_,e⟩ | ⟨_,_,e⟩ <;> rw [e]at z <;> cases z
 · refine .inl (.inr ⟨o,s _ _ h (Az h hp fun z=>?_)⟩)
   rcases hu with ⟨_,e⟩ | ⟨_,_,e⟩ <;> rw [e]at z <;> cases z
 · exact .inr h
theorem Aa.odd{K:PySem.W.Frag}{C:Addr}{H H':Hp}{p st:Addr}{u:HO}{ts:List Th}(s:SameBut p H H')(hp:H p=some u)(hu:Odd u)(h:Aa K C H st ts):Aa K C H' st ts:=by
 obtain ⟨dx,d,kvs,h1,h2,h3,h4⟩:=h.ex;refine ⟨dx,d,kvs,s _ _ h1 (Az h1 hp fun z=>?_),s _ _ h2 (Az h2 hp fun z=>?_),h3,fun i t e=>?_⟩
 · rcases hu with ⟨_,e⟩ | ⟨_,_,e⟩ <;> rw [e]at z <;> cases z
 · rcases hu with ⟨_,e⟩ | ⟨_,_,e⟩ <;> rw [e]at z <;> cases z
 · obtain ⟨a,e1,e2⟩:=h4 i t e
   exact ⟨a,e1,SqT.odd s hp hu e2⟩
theorem J7c{H:Hp}{c:Addr}:SameBut c H (unk H [c]):=fun b o e n=>by
 rw [Ck fun z=>n (Fj.mp z)];exact e
theorem Ux{H:Hp}{as:List Addr}:retr (unk H as) H as=H:=by
 funext b
 by_cases z:b∈as
 · rw [Kb z]
 · rw [Dl z,Ck z]
def J9m(e:Expr)(i:Nat):Expr:=match e with
 | .Call _ as _ _=>as.getD i e
 | _=>e
def PJ(L:Pi)(K:PySem.W.Frag)(C f c st:Addr)(ts:List Th)(H:Hp):Prop:=Of L [("stock",c)] H f∧Cp H [("stock",c)] [V.ref st]∧Aa K C H st ts
theorem PJ.same{L:Pi}{K:PySem.W.Frag}{C f c st:Addr}{ts:List Th}{H H':Hp}(s:A7 H H')(h:PJ L K C f c st ts H):PJ L K C f c st ts H':=⟨h.1.same s,h.2.1.same s,h.2.2.same s⟩
theorem lent{tp:Addr}{pos:Pos}{qual:Str}{H H2 H3:Hp}{c:Addr}{o:Obj}(t:Tk tp pos qual H H2)(n:H2 c=none)(sm:A7 (upd H2 c (Ey c o)) H3):Tk tp pos qual H (unk H3 [c]):=by
 have up:∀b u,H2 b=some u→unk H3 [c] b=some u:=fun b u e=>by
  have nb:b≠c:=A8 e n;rw [Ck fun z=>nb (Fj.mp z)];exact sm _ _ (by rw [A2 nb];exact e)
 exact t.trans (Tk.of t.lam fun b u e=>up b u e)
end NPb
namespace N30
open PySem
abbrev Ris(l:List Nat):Prop:=l.Pairwise (· < ·)
theorem J7d{xs:Array Nat}{j:Nat}(hr:Ris xs.toList):∀(fuel lo hi:Nat),lo≤hi→hi≤xs.size→hi - lo≤fuel→(∀i x,i < lo→xs.toList[i]?=some x→x < j)→(∀i x,hi≤i→xs.toList[i]?=some x→j≤x)→
 SetTable.below.go xs j fuel lo hi≤xs.size∧(∀i x,i < SetTable.below.go xs j fuel lo hi→xs.toList[i]?=some x→x < j)∧∀i x,SetTable.below.go xs j fuel lo hi≤i→xs.toList[i]?=some x→j≤x:=by
 intro fuel
 induction fuel with
 | zero=>
  intro lo hi h1 h2 h3 a b
  have e:lo=hi:=by omega
  subst e;exact ⟨h2,a,b⟩
 | succ fuel ih=>
  intro lo hi h1 h2 h3 a b;unfold SetTable.below.go
  by_cases c:lo < hi
  · rw [if_pos c]
    have hm:(lo+hi) / 2 < xs.size:=by omega
    have hg:xs.toList[(lo+hi) / 2]?=some (xs.getD ((lo+hi) / 2) j):=by
     rw [FZ,Rx,Hx hm];rfl
    have mono:∀i k x y,i < k→xs.toList[i]?=some x→xs.toList[k]?=some y→x < y:=fun i k x y ik hx hy=>by
     obtain ⟨li,ei⟩:=Fe.mp hx;obtain ⟨lk,ek⟩:=Fe.mp hy;rw [← ei,← ek];exact (HK.mp hr) i k li lk ik
    dsimp only
    by_cases d:xs.getD ((lo+hi) / 2) j < j
    · rw [if_pos d]
      refine ih _ _ (by omega) h2 (by omega) (fun i x hi' hx=>?_) b
      by_cases e:i=(lo+hi) / 2
      · subst e;rw [hg]at hx;cases hx;exact d
      · exact RU (mono i _ x _ (by omega) hx hg) d
    · rw [if_neg d]
      refine ih _ _ (by omega) (by omega) (by omega) a fun i x hi' hx=>?_
      by_cases e:i=(lo+hi) / 2
      · subst e;rw [hg]at hx;cases hx;exact RZ d
      · exact FC (RZ d) (HF (mono _ i _ x (by omega) hg hx))
  · rw [if_neg c]
    have e:lo=hi:=by omega
    subst e;exact ⟨h2,a,b⟩
theorem Ol{xs:Array Nat}(hr:Ris xs.toList)(j:Nat):SetTable.below xs j≤xs.size∧(∀i x,i < SetTable.below xs j→xs.toList[i]?=some x→x < j)∧∀i x,SetTable.below xs j≤i→xs.toList[i]?=some x→j≤x:=
 J7d hr xs.size 0 xs.size (FB _) (Fh _) (by omega) (fun i x h=>absurd h (J4 _)) fun i x h hx=>by
  obtain ⟨li,_⟩:=Fe.mp hx;rw [Ft]at li;omega
theorem J4p{xs:Array Nat}(hr:Ris xs.toList){j k:Nat}(hk:k≤xs.size)(a:∀i x,i < k→xs.toList[i]?=some x→x < j)(b:∀i x,k≤i→xs.toList[i]?=some x→j≤x):SetTable.below xs j=k:=by
 obtain ⟨h1,h2,h3⟩:=Ol hr j;rcases Nat.lt_trichotomy (SetTable.below xs j) k with h | h | h
 · have l:SetTable.below xs j < xs.toList.length:=by rw [Ft];omega
   have:=a _ _ h (Fb l);have:=h3 _ _ (Fh _) (Fb l);omega
 · exact h
 · have l:k < xs.toList.length:=by rw [Ft];omega
   have:=h2 _ _ h (Fb l);have:=b _ _ (Fh _) (Fb l);omega
theorem Wb{xs:Array Nat}(hr:Ris xs.toList){j:Nat}(n:xs[SetTable.below xs j]?≠some j):Ris (SetTable.insertAt xs (SetTable.below xs j) j).toList:=by
 obtain ⟨h1,h2,h3⟩:=Ol hr j;rw [SetTable.toList_insertAt]
 have hm:∀x∈xs.toList.take (SetTable.below xs j),x < j:=fun x hx=>by
  obtain ⟨i,hi⟩:=FF.mp hx;rw [List.getElem?_take]at hi;split at hi
  · rename_i c;exact h2 i x c hi
  · cases hi
 have hd:∀x∈xs.toList.drop (SetTable.below xs j),j < x:=fun x hx=>by
  obtain ⟨i,hi⟩:=FF.mp hx;rw [JO]at hi;refine Nat.lt_of_le_of_ne (h3 _ x (J0 _ _) hi) fun e=>?_;subst e
  by_cases c:i=0
  · subst c
    rw [Nat.add_zero,FZ]at hi;exact n hi
  · have l:SetTable.below xs j < xs.toList.length:=by
     obtain ⟨li,_⟩:=Fe.mp hi;omega
    obtain ⟨li,ei⟩:=Fe.mp hi;have a1:=(HK.mp hr) (SetTable.below xs j) (SetTable.below xs j+i) l li (by omega);have a2:=h3 _ _ (Fh _) (Fb l);rw [ei]at a1;omega
 refine Ry.mpr ⟨hr.sublist (Je _ _),RM.mpr ⟨hd,hr.sublist (List.drop_sublist _ _)⟩,fun a ha b hb=>?_⟩;rcases Fy.mp hb with e | hb
 · subst e;exact hm a ha
 · exact RU (hm a ha) (hd b hb)
structure G7(t:SetTable)(n:Nat)(led:Bool):Prop where
 led:t.led=led
 dum:t.dummies=#[]
 ris:t.plain=true→Ris t.place.toList
 fit:t.fits n=true
theorem Ym(j:Nat):SetTable.has #[] j=false:=by
 unfold SetTable.has;simp
theorem Wc{t:SetTable}(hd:t.dummies=#[]){f:Nat→Int}{h:Int}:∀(fuel:Nat) (p:SetTable.Probe) (j:Nat) (d:Option Nat),p.dummy=none→SetTable.probe.go t f h fuel p=some (.empty j d)→d=none∧t.place[SetTable.below t.place j]?≠some j:=by
 intro fuel
 induction fuel with
 | zero=>intro p j d _ e;cases e
 | succ fuel ih=>
  intro p j d hp e
  have adv:∀q:SetTable.Probe,q.dummy=none→(t.advance q).dummy=none:=fun q hq=>by
   unfold SetTable.advance;split
   · exact hq
   · exact hq
  unfold SetTable.probe.go at e;unfold SetTable.slot at e;dsimp only at e
  by_cases c:(t.place[SetTable.below t.place p.j]?==some p.j)=true
  · rw [if_pos c]at e
    dsimp only at e;split at e
    · cases e
    · exact ih _ _ _ (adv p hp) e
  · rw [if_neg c,hd,Ym]at e
    simp only [Bool.false_eq_true,if_false,Option.some.injEq,SetTable.Met.empty.injEq]at e;obtain ⟨rfl,rfl⟩:=e;exact ⟨hp,fun z=>c (by rw [z];simp)⟩
theorem J7e{t:SetTable}(hd:t.dummies=#[]){h:Int}{j:Nat}{b:Bool}(e:t.freeSlot h=some (j,b)):t.place[SetTable.below t.place j]?≠some j:=by
 unfold SetTable.freeSlot at e;split at e
 · rename_i j' d hp
   obtain ⟨rfl,h2⟩:=Wc hd _ _ j' d rfl hp;simp only [Jl,Option.some.injEq,Prod.mk.injEq]at e;rw [← e.1];exact h2
 · cases e
theorem J18{t:SetTable}{n:Nat}{led:Bool}(T:G7 t n led)(es:Array (Int×Value))(h:Int)(x:Value):G7 (layNew t es h x).2.1 (layNew t es h x).1.size led:=by
 refine ⟨?_,?_,?_,layNew_fits t es h x⟩
 · unfold layNew
   split
   · dsimp only
     unfold SetTable.orStandIn;split
     · exact T.led
     · exact T.led
   · exact T.led
 · unfold layNew
   split
   · dsimp only
     unfold SetTable.orStandIn;split
     · unfold SetTable.put
       dsimp only;rw [T.dum,Ym];rfl
     · rfl
   · rfl
 · intro hp
   unfold layNew at hp ⊢;split at hp
   · rename_i slot wd hf
     dsimp only at hp ⊢;unfold SetTable.orStandIn at hp ⊢;split at hp
     · rename_i c
       rw [if_pos c];unfold SetTable.put at hp ⊢;dsimp only at hp ⊢;exact Wb (T.ris hp) (J7e T.dum hf)
     · cases hp
   · cases hp
theorem J4q{mask:Nat}{owner:Array (Option Nat)}:Ris (((List.range (mask+1)).filterMap fun j=>(owner.getD j none).map (j,·)).map (·.1)):=by
 have key:∀l:List Nat,Ris l→Ris ((l.filterMap fun j=>(owner.getD j none).map (j,·)).map (·.1))∧∀x∈(l.filterMap fun j=>(owner.getD j none).map (j,·)).map (·.1),x∈l:=by
  intro l
  induction l with
  | nil=>intro _;exact ⟨.nil,fun x h=>by cases h⟩
  | cons a r ih=>
   intro h;obtain ⟨h1,h2⟩:=RM.mp h;obtain ⟨i1,i2⟩:=ih h2;rw [Rh]
   cases e:owner.getD a none with
   | none=>exact ⟨i1,fun x hx=> .tail _ (i2 x hx)⟩
   | some k=>
    dsimp only [Option.map_some];rw [List.map_cons];refine ⟨RM.mpr ⟨fun x hx=>h1 x (i2 x hx),i1⟩,fun x hx=>?_⟩;rcases Fy.mp hx with e | hx
    · subst e;exact .head _
    · exact .tail _ (i2 x hx)
 exact (key _ List.pairwise_lt_range).1
theorem Ms{t t':SetTable}{hs:Array Int}{wanted:Nat}{order:Array Nat}(e:t.relaid hs wanted=some (t',order)):t'.led=t.led∧t'.dummies=#[]∧Ris t'.place.toList:=by
 unfold SetTable.relaid SetTable.laid at e
 cases o:SetTable.layClean (SetTable.sizeAbove wanted - 1) hs with
 | none=>rw [o]at e;cases e
 | some owner=>
  rw [o]at e;simp only [Option.bind_eq_bind,Option.bind_some,Option.pure_def,Option.some.injEq,Prod.mk.injEq]at e;obtain ⟨e,_⟩:=e;subst e;exact ⟨rfl,rfl,J4q⟩
theorem Uy{t:SetTable}{n:Nat}{led:Bool}(T:G7 t n led)(es:Array (Int×Value))(wanted:Nat):G7 (relayAll t es wanted).2.1 (relayAll t es wanted).1.size led:=by
 refine ⟨?_,?_,?_,relayAll_fits t es wanted⟩
 · unfold relayAll
   split
   · rename_i t' order e
     dsimp only;split
     · exact (Ms e).1.trans T.led
     · exact T.led
   · exact T.led
 · unfold relayAll
   split
   · rename_i t' order e
     dsimp only;split
     · exact (Ms e).2.1
     · rfl
   · rfl
 · intro hp
   unfold relayAll at hp ⊢;split at hp
   · rename_i t' order e
     dsimp only at hp ⊢;split at hp
     · rename_i c;rw [if_pos c];exact (Ms e).2.2
     · cases hp
   · cases hp
theorem J19{t:SetTable}{n:Nat}{led:Bool}(T:G7 t n led):G7 {t with plain:=false} n led:=⟨T.led,T.dum,(fun h=>by cases h),SetTable.fits_plain_off T.fit⟩
theorem Om{α:Type}:∀(l:List α) (i:Nat) (h:i < l.length),(l[i]::l.eraseIdx i).Perm l:=by
 intro l
 induction l with
 | nil=>intro i h;cases h
 | cons a r ih=>
  intro i h
  cases i with
  | zero=>exact .rfl
  | succ i=>
   have h':i < r.length:=by simpa using h
   show List.Perm (r[i]::a::r.eraseIdx i) (a::r);exact (List.Perm.swap a (r[i]) _).trans ((ih i h').cons a)
theorem J7f{α:Type}{next:Nat→Nat}:∀(fuel k:Nat) (left:List α) (out:Array α),fuel=left.length→(pickOrder.go next fuel k left out).toList.Perm (out.toList++left):=by
 intro fuel
 induction fuel with
 | zero=>
  intro k left out e;have:left=[]:=Ha.mp e.symm;subst this;unfold pickOrder.go;rw [FT]
 | succ fuel ih=>
  intro k left out e;unfold pickOrder.go
  have hl:next k % left.length < left.length:=Nat.mod_lt _ (by omega)
  rw [Fb hl];dsimp only;refine (ih _ _ _ (by rw [List.length_eraseIdx_of_lt hl];omega)).trans ?_;rw [Array.toList_push,HV];refine List.Perm.append_left _ ?_;exact Om left _ hl
theorem Mt{α:Type}(next:Nat→Nat)(xs:Array α):(pickOrder next xs).toList.Perm xs.toList:=by
 have:=J7f (next:=next) xs.size 0 xs.toList #[] (by rw [Ft])
 simpa [pickOrder] using this
end N30
namespace L2
def J4r(K:PySem.W.Frag):List V→Hp→VK→Prop:=fun xs H Q=>∃(p:Addr) (ys:List Str),xs=[.ref p]∧SqL K H p (ys.map V.str)∧ys.length < 64∧∀(q:Addr) (zs:List Str),H q=none→zs.Perm ys→sortedS zs=true→Q (.ref q) (upd H q (.lst (zs.map V.str)))
theorem J7g{ys:List Str}:∀{us:List Value},Au (ys.map V.str) us→StrsAre us ys:=by
 induction ys with
 | nil=>intro us h;cases h;exact .nil
 | cons y r ih=>
  intro us h
  cases h with
  | cons a b=>
   obtain ⟨t,rfl⟩:=a;exact .cons y t (ih b)
theorem J4s{ys:List Str}{us:List Value}(h:StrsAre us ys):Au (ys.map V.str) us:=by
 induction h with
 | nil=>exact .nil
 | cons y t _ ih=>exact .cons ⟨t,rfl⟩ ih
section
variable {X:Cx}
theorem On:E4 X (.builtin "sorted") (J4r X.K):=by
 intro pins s σ H xs us Q I r h;obtain ⟨p,ys,rfl,hp,hl,q⟩:=h;obtain ⟨u,rfl,rx⟩:=G2 r;cases rx;obtain ⟨its,rel,pl,hz⟩:=I.list hp;have hsa:=J7g rel;have hlen:=rel.length;rw [Fa]at hlen;refine sorted_strs pl.isList hsa (by omega) fun out ss' a1 a2 a3=>?_;obtain ⟨e,he⟩:=sortedAll_at s.heap its out;have hv:=J4s a1;have hol:=hv.length;rw [Fa,a2.length_eq]at hol;have hnone:H (s.heap.objs.size+1)=none:=I.hok.fresh (R5 _);refine ⟨.ref (s.heap.objs.size+1),_,I.laid (t':=s.toks) (fun b u q=>sortedAll_old q) (R5 _) (show Bi X.prog X.w _ (sortedAll s.heap its out) _ (.lst (ss'.map V.str)) from ⟨?_,out.toList,e,hv,?_⟩),rfl,q _ ss' hnone a2 a3⟩
 · rw [Fa,a2.length_eq];exact FC (HF hl) (by rw [Jd];decide)
 · rw [JH];exact he
end
theorem Uz{K:PySem.W.Frag}{xs:List V}{H:Hp}{Q:VK}:J4r K xs H Q=∃(p:Addr) (ys:List Str),xs=[.ref p]∧SqL K H p (ys.map V.str)∧ys.length < 64∧∀(q:Addr) (zs:List Str),H q=none→zs.Perm ys→sortedS zs=true→Q (.ref q) (upd H q (.lst (zs.map V.str))):=rfl
theorem J4t{a b:Str}(h1:ltCps a.cps.toList b.cps.toList=false)(h2:ltCps b.cps.toList a.cps.toList=false):a=b:=by
 rw [ltCps_eq]at h1 h2;have e:a.cps.toList=b.cps.toList:=List.le_antisymm (JA.mp (J8 h2)) (JA.mp (J8 h1));have e2:a.cps=b.cps:=Array.toList_inj.mp e;cases a;cases b;simp_all
theorem Lq:∀(p:Str) (l:List Str),risingS p l=true→∀x∈l,ltCps x.cps.toList p.cps.toList=false:=by
 intro p l
 induction l generalizing p with
 | nil=>intro _ x hx;cases hx
 | cons y r ih=>
  intro h x hx;have h':(!ltCps y.cps.toList p.cps.toList && risingS y r)=true:=h;rw [FV,Bool.not_eq_true']at h';rcases Fy.mp hx with e | e
  · rw [e];exact h'.1
  · have h3:=ih y h'.2 x e
    have h1:=h'.1;rw [ltCps_eq]at h1 h3 ⊢;exact Fz (JA.mpr (List.le_trans (JA.mp (J8 h1)) (JA.mp (J8 h3))))
theorem Wd:∀(a b:List Str),a.Perm b→sortedS a=true→sortedS b=true→a=b:=by
 have tl:∀(x:Str) (r:List Str),sortedS (x::r)=true→sortedS r=true:=fun x r h=>by
  cases r with
  | nil=>rfl
  | cons y r'=>
   have h':(!ltCps y.cps.toList x.cps.toList && risingS y r')=true:=h;rw [FV]at h';exact h'.2
 intro a
 induction a with
 | nil=>intro b p _ _;exact (List.nil_perm.mp p).symm
 | cons x r ih=>
  intro b p h1 h2
  cases b with
  | nil=>exact absurd p.length_eq (by simp)
  | cons y t=>
   have e:x=y:=by
    rcases Fy.mp (p.mem_iff.mp (FA ..)) with e | e
    · exact e
    · rcases Fy.mp (p.mem_iff.mpr (FA (a:=y) (l:=t))) with e' | e'
      · exact e'.symm
      · exact J4t (Lq y t h2 x e) (Lq x r h1 y e')
   subst e;rw [ih t (List.Perm.cons_inv p) (tl _ _ h1) (tl _ _ h2)]
end L2
namespace L2
open N30
def byT(w:World):Bool:=w.params.followText "set-order"
section
variable {prog:Program} {w:World} {K:Type} [DecidableEq K] (knd:PySem.KeyKind prog w K)
def Lr(h:Heap)(a:Addr)(S:K→Bool)(n:Nat):Prop:=
 ∃o es ep t,h.get? a=some o∧o.ExactSet∧o.data= .set es ep t∧ElemsOf knd es.toList∧(∀k,S k=true↔∃e∈es.toList,knd.is k e.2=true)∧es.size < scanBound∧G7 t es.size (!byT w)∧es.size=n
variable {knd} {A:Around} {E:Value→Shared→Prop} {s:Shared}
theorem Lr.at{h h':Heap}{a:Addr}{S:K→Bool}{n:Nat}(q:Lr knd h a S n)(k:∀o,h.get? a=some o→h'.get? a=some o):Lr knd h' a S n:=let ⟨o,es,ep,t,ho,r⟩:=q;⟨o,es,ep,t,k o ho,r⟩
theorem Lr.congr{h:Heap}{a:Addr}{S S':K→Bool}{n n':Nat}(q:Lr knd h a S n)(e:∀k,S k=S' k)(en:n=n'):Lr knd h a S' n':=by
 have:S=S':=funext e;subst this;subst en;exact q
theorem Jcs{h:Heap}{a:Addr}{o:Obj}{es es':Array (Int×Value)}{ep:Nat}{t t':SetTable}{S':K→Bool}(ho:h.get? a=some o)(hex:o.ExactSet)(hd:o.data= .set es ep t)
 (hel:ElemsOf knd es'.toList) (hmem:∀k,S' k=true↔∃e∈es'.toList,knd.is k e.2=true) (hb:es'.size < scanBound) (T:G7 t' es'.size (!byT w)):
 (h.update a (Obj.putSet es' t')).get? a=some {o with data:= .set es' (ep+1) t'}∧Lr knd (h.update a (Obj.putSet es' t')) a S' es'.size:=by
 obtain ⟨hg,_⟩:=SetOf_store (knd:=knd) ho hex hd hel hmem hb T.fit;exact ⟨hg,_,es',ep+1,t',hg,hex,rfl,hel,hmem,hb,T,rfl⟩
theorem J9n{g:Bool→Sem Unit}(hg:∀(b:Bool) (s₁:Shared) (Q':Unit→Shared→Prop),Q' () s₁→wpAny (model prog w) A (g b) Q' E s₁){a:Addr}{o:Obj}{es:Array (Int×Value)}{ep:Nat}{t:SetTable}(ho:s.heap.get? a=some o)(hex:o.ExactSet)(hd:o.data= .set es ep t)
 {es1:Array (Int×Value)} {t2:SetTable} {S':K→Bool} (hel1:ElemsOf knd es1.toList) (hmem1:∀k',S' k'=true↔∃e∈es1.toList,knd.is k' e.2=true) (hb1:es1.size < scanBound) (T2:G7 t2 es1.size (!byT w)) {wasDummy:Bool} {R:Option Bool→Shared→Prop}
 (h:∀h',Heap.SameBut a s.heap h'→Lr knd h' a S' es1.size→R (some true) {s with heap:=h'}):
 wpAny (model prog w) A (do
  storeSet a es1 t2
  if (!wasDummy && t2.tooFull)=true then do
      g (relayAll t2 es1 (SetTable.grown es1.size)).2.2
      storeSet a (relayAll t2 es1 (SetTable.grown es1.size)).1 (relayAll t2 es1 (SetTable.grown es1.size)).2.1
      pure (some true)
   else pure (some true)) R E s:=by
 refine Fd (wpAny_storeSet_of ho hd ?_ (JQ hb1));obtain ⟨ho1,q1⟩:=Jcs (knd:=knd) ho hex hd hel1 hmem1 hb1 T2;have sb1:=Hi s.heap a (Obj.putSet es1 t2);split
 · have hp:=relayAll_perm t2 es1 (SetTable.grown es1.size)
   have T3:=Uy T2 es1 (SetTable.grown es1.size);generalize relayAll t2 es1 (SetTable.grown es1.size)=Rl at hp T3 ⊢;obtain ⟨es2,t3,gv⟩:=Rl;dsimp only at hp T3 ⊢
   have sz:es2.size=es1.size:=by rw [← Ft,hp.length_eq,Ft]
   have hb2:es2.size < scanBound:=by rw [sz];exact hb1
   refine Fd (hg _ _ _ (Fd (wpAny_storeSet_of ho1 rfl ?_ (JQ hb2))));obtain ⟨_,q2⟩:=Jcs (knd:=knd) (S':=S') ho1 hex rfl (hel1.perm hp) (fun k'=>(hmem1 k').trans ⟨fun ⟨e,he,q⟩=>⟨e,hp.mem_iff.mpr he,q⟩,fun ⟨e,he,q⟩=>⟨e,hp.mem_iff.mp he,q⟩⟩) hb2 T3;rw [sz]at q2;exact Fi (h _ (sb1.trans (Hi _ a _)) q2)
 · exact Fi (h _ sb1 q1)
theorem Jd8{a:Addr}{S:K→Bool}{n:Nat}{k:K}{x:Value}{Q:Bool→Shared→Prop}(hkey:knd.is k x=true)(hsc:x.scannable=true)(q:Lr knd s.heap a S n)(room:n+1 < scanBound)
 (h:∀h',Heap.SameBut a s.heap h'→Lr knd h' a (fun k'=>S k' || decide (k'=k)) (if S k then n else n+1)→Q (!S k) {s with heap:=h'}):wpAny (model prog w) A (setAddHashed a x (knd.hash k)) Q E s:=by
 obtain ⟨o,es,ep,t,ho,hex,hd,hel,hmem,hb,T,hn⟩:=q;unfold setAddHashed setAddHashedIn;refine R3 (Fd (HR ho hd T.fit ?_));dsimp only;rw [byScan_of hsc hb hel];simp only [↓reduceIte];unfold setAddByScan;refine Fd (Fd (JM (Fd (wpAny_setScan_of hkey ho hd T.fit hel ?_))))
 cases hr:List.findIdx? (fun e=>knd.is k e.2) es.toList with
 | some j=>
  dsimp only;obtain ⟨hj,hpj,_⟩:=List.findIdx?_eq_some_iff_getElem.mp hr;have hSk:S k=true:=(hmem k).mpr ⟨es.toList[j],FU hj,hpj⟩;refine Fi (Fi ?_)
  have fin:=h s.heap (Heap.SameBut.refl a s.heap) ⟨o,es,ep,t,ho,hex,hd,hel,fun k'=>by
   rw [Bool.or_eq_true,decide_eq_true_eq,← hmem k']
   exact ⟨fun hk=>hk.elim id (fun e=>e▸hSk),.inl⟩,hb,T,by rw [hSk];exact hn⟩
  rw [hSk]at fin
  have e:s={s with heap:=s.heap}:=by cases s;rfl
  rw [e];exact fin
 | none=>
  dsimp only
  have hSk:S k=false:=by
   cases hk:S k with
   | false=>rfl
   | true=>
    obtain ⟨e,he,hp⟩:=(hmem k).mp hk;have z:=List.findIdx?_eq_none_iff.mp hr e he;rw [hp]at z;exact Bool.noConfusion z
  have hgw:∀(b:Bool) {s₁:Shared} {Q':Unit→Shared→Prop},Q' () s₁→wpAny (model prog w) A (match b with | true=>rule "set.scan.the-table-gave-way" | false=>pure ()) Q' E s₁:=fun b s₁ Q' hq=>by cases b <;> first | exact Fi hq | exact JM hq
  have hperm:=layNew_perm t es (knd.hash k) x;have T1:=J18 T es (knd.hash k) x;generalize layNew t es (knd.hash k) x=L at hperm T1 ⊢;obtain ⟨es1,t1,wd,gv⟩:=L;dsimp only at hperm T1 ⊢;rw [Array.toList_push]at hperm;have hel1:ElemsOf knd es1.toList:=(hel.push hkey hsc).perm hperm;have hmem1:∀k',(S k' || decide (k'=k))=true↔∃e∈es1.toList,knd.is k' e.2=true:=mem_push_iff hkey hmem hperm
  have hs1:es1.size=n+1:=by rw [← Ft,hperm.length_eq,Fu,Ft,hn];rfl
  have hb1:es1.size < scanBound:=by rw [hs1];exact room
  refine Fd (hgw _ ?_)
  have fin:∀h',Heap.SameBut a s.heap h'→Lr knd h' a (fun k'=>S k' || decide (k'=k)) es1.size→Q true {s with heap:=h'}:=fun h' sb q'=>by
   have z:=h h' sb;rw [hSk]at z;rw [hs1]at q';exact z q'
  split
  · refine Fd ?_
    rw [hashByValue_scannable 8 hsc];refine Fi (J9n ?_ ho hex hd hel1 hmem1 hb1 ?_ ?_)
    · intro b s₁ Q' hq;cases b <;> first | exact Fi hq | exact JM hq
    · split
      · exact T1
      · exact J19 T1
    · intro h' sb q';dsimp only;exact Fi (fin h' sb q')
  · refine Fd (Fi ?_)
    simp only [↓reduceIte];refine J9n ?_ ho hex hd hel1 hmem1 hb1 T1 ?_
    · intro b s₁ Q' hq;cases b <;> first | exact Fi hq | exact JM hq
    · intro h' sb q';dsimp only;exact Fi (fin h' sb q')
theorem Jd9(a:Value){Q₁:Value→Shared→Prop}(h:Q₁ (.ref s.heap.objs.size) {s with heap:=s.heap.push (Ed (!byT w))}):
 codeAny (model prog w) A (.call (.builtin "set.__new__") ⟨[.type "set",a],[]⟩) (wants Q₁ E) s:=by
 refine codeAny_of_tree ?_;show wpAny _ A.in1 (do checkBuiltinCall "set.__new__" ⟨[.type "set",a],[]⟩;again (.builtin "set.__new__" ⟨[.type "set",a],[]⟩)) _ _ s;refine Fd (JX (F.newCall_set_1 a) (Fi ⟨Rf F.plain_set_new _,HW F.entry_set_new ?_⟩));rw [Around.under_plainId F.plain_set_new _];unfold Builtin.«set.__new__» Builtin.Frozenset.newClass;have hsub:=sub_set_self;obtain ⟨hp,g,d,tk,os⟩:=s;dsimp only
 wp_walk
 refine JV (Fi ?_);dsimp only;simp only [newObj];exact Fd (wpAny_alloc (Fi (Fi h)))
end
theorem Bc:Slot "set_iterator" "__next__" "set_iterator.__next__":=
 .of (owner:="set_iterator") (n:="__next__") (by rw [typeLookup_type,builtinLookup_eq_fast];kernel_rfl) (by decide+kernel) (by decide+kernel) (by decide+kernel)
  (by first | exact .inl (by decide+kernel) | exact .inr (by decide+kernel)) (by rw [isSubtype_type];kernel_rfl)
theorem Di:entryFor table "set_iterator.__next__"=some Builtin.«set_iterator.__next__»:=entryFor_of_tree (by kernel_rfl)
theorem E1(a:Value):argsOk "set_iterator.__next__" ⟨[a],[]⟩:=by unfold argsOk;kernel_rfl
theorem Ls:Slot "set_iterator" "__iter__" "set_iterator.__iter__":=
 .of (owner:="set_iterator") (n:="__iter__") (by rw [typeLookup_type,builtinLookup_eq_fast];kernel_rfl) (by decide+kernel) (by decide+kernel) (by decide+kernel)
  (by first | exact .inl (by decide+kernel) | exact .inr (by decide+kernel)) (by rw [isSubtype_type];kernel_rfl)
theorem Pj:entryFor table "set_iterator.__iter__"=some Builtin.«dict_keyiterator.__iter__»:=entryFor_alias (id':="dict_keyiterator.__iter__") (by kernel_rfl) rfl (by decide+kernel) (by kernel_rfl)
theorem Sd(a:Value):argsOk "set_iterator.__iter__" ⟨[a],[]⟩:=by unfold argsOk;kernel_rfl
theorem Oo:entryFor table "set.__iter__"=some Builtin.«frozenset.__iter__»:=entryFor_alias (id':="frozenset.__iter__") (by kernel_rfl) rfl (by decide+kernel) (by kernel_rfl)
def Eh(h:Heap)(I:Addr)(f:Value)(i:Nat)(a:Addr)(n ep:Nat):Prop:=∃o,h.get? I=some o∧o.cls= .type "set_iterator"∧o.data= .fields #[f,.int i 0,.ref a,.int n 0,.int ep 0]
theorem Eh.at{h h':Heap}{I a:Addr}{f:Value}{i n ep:Nat}(q:Eh h I f i a n ep)(k:∀o,h.get? I=some o→h'.get? I=some o):Eh h' I f i a n ep:=let ⟨o,ho,r⟩:=q;⟨o,k o ho,r⟩
def C9(h:Heap)(a:Addr)(es:Array (Int×Value))(ep:Nat)(t:SetTable):Prop:=∃o,h.get? a=some o∧o.ExactSet∧o.data= .set es ep t
theorem C9.at{h h':Heap}{a:Addr}{es:Array (Int×Value)}{ep:Nat}{t:SetTable}(q:C9 h a es ep t)(k:∀o,h.get? a=some o→h'.get? a=some o):C9 h' a es ep t:=let ⟨o,ho,r⟩:=q;⟨o,k o ho,r⟩
section
variable {prog:Program} {w:World} {A:Around} {E:Value→Shared→Prop} {s:Shared} {a I:Addr} {es:Array (Int×Value)} {ep:Nat} {t:SetTable} {f:Value} {i n:Nat}
theorem Kg{Q:Bool→Shared→Prop}(h:Q (byT w) s):wpAny (model prog w) A setsByText Q E s:=by
 unfold setsByText;exact Fd (JV (Fi h))
theorem Q9{slot:Nat}{Q:Option (Value×Nat)→Shared→Prop}(hr:C9 s.heap a es ep t)(hf:t.fits es.size=true)(hb:byT w=true)(h:Q (((pickOrder (w.params.setOrder a ep) es)[i]?).map fun e=>(e.2,slot)) s):wpAny (model prog w) A (setNext a slot i ep) Q E s:=by
 obtain ⟨o,ho,hx,hd⟩:=hr;unfold setNext;refine Fd (HR ho hd hf (Fd (Kg ?_)));rw [hb];simp only [if_true];rw [if_neg (by simp)];refine Fd ?_;unfold setWalk;refine Fd (HR ho hd hf (Fd (Kg ?_)));rw [hb];simp only [if_true];exact Fd (JV (Fi (Fi h)))
theorem Qa{slot:Nat}{Q:Option (Value×Nat)→Shared→Prop}(hr:C9 s.heap a es ep t)(hf:t.fits es.size=true)(hb:byT w=false)(hl:t.led=true)(hn:(!t.plain && decide (es.size > 1))=false)
 (h:Q (match es[SetTable.below t.place slot]?,t.place[SetTable.below t.place slot]? with | some (_,x),some j=>some (x,j+1) | _,_=>none) s):wpAny (model prog w) A (setNext a slot i ep) Q E s:=by
 obtain ⟨o,ho,hx,hd⟩:=hr;unfold setNext;refine Fd (HR ho hd hf (Fd (Kg ?_)));rw [hb];simp only [Bool.false_eq_true,if_false];refine Jr (fun hc=>absurd (hn.symm.trans (show (!t.plain && decide (es.size > 1))=true from hc)) FD) fun _=>?_;refine Fd ?_;show wpAny _ _ (if (!t.led && !es.isEmpty)=true then unsupported _ else pure ()) _ _ _;rw [hl,if_neg (by simp)];exact Fi (Fi h)
end
end L2
namespace L2
open N30
section
variable {prog:Program} {w:World} {A:Around} {E:Value→Shared→Prop} {s:Shared} {a I:Addr} {es:Array (Int×Value)} {ep:Nat} {t:SetTable} {f:Value} {i n:Nat}
theorem Eh.typeIs(q:Eh s.heap I f i a n ep):s.TypeIs (.ref I) "set_iterator":=let ⟨o,ho,hc,_⟩:=q;⟨o,ho,hc⟩
theorem Se{Q:Value→Shared→Prop}(q:Eh s.heap I f i a n ep)(h:Q (.ref I) s):wpAny (model prog w) A (pyIter (.ref I)) Q E s:=by
 refine wpAny_pyIter_slot q.typeIs Ls (R6 Ls q.typeIs Pj ?_ (Sd _));show wpAny _ _ (ret (.ref I)) _ _ s;exact Fi ⟨_,rfl,"set_iterator",_,q.typeIs,Bc.lookup,h⟩
theorem Yn{slot next:Nat}{x:Value}{Q:Option Value→Shared→Prop}(q:Eh s.heap I (.int slot 0) i a es.size ep)(hr:C9 s.heap a es ep t)(hf:t.fits es.size=true)
 (hnx:∀(A:Around) (E:Value→Shared→Prop) (Q':Option (Value×Nat)→Shared→Prop),Q' (some (x,next)) s→wpAny (model prog w) A (setNext a slot i ep) Q' E s)
 (hQ:∀h',Eh h' I (.int next 0) (i+1) a es.size ep→Heap.SameBut I s.heap h'→Q (some x) {s with heap:=h'}):wpAny (model prog w) A (pyNext (.ref I)) Q E s:=by
 obtain ⟨o,ho,hc,hd⟩:=id q;obtain ⟨oa,hoa,hxa,hda⟩:=id hr;unfold pyNext;refine Fd (JJ (Ri (name:=Str.ofString "__next__") q.typeIs Bc (R6 Bc q.typeIs Di ?_ (E1 _))));unfold Builtin.«set_iterator.__next__»;refine Fd (m:=slotArgs "__next__" 0 _) (Fi ?_);refine Fd (Jz ho hd ?_)
 try dsimp only
 refine Fd (RC hoa hda hf ?_);rw [if_neg (by simp)]
 try dsimp only
 refine Fd (hnx _ _ _ ?_)
 try dsimp only
 refine Fd (RS ho hd (by simp) ?_);have ho1:=HM (Obj.mapFields (·.setIfInBounds 0 (rawInt next))) ho (Obj.isFreed_of_fields (Obj.data_mapFields hd _));have hd1:=Obj.data_mapFields hd (·.setIfInBounds 0 (rawInt next));refine Fd (RS ho1 hd1 (by simp) ?_);have hit':((s.heap.update I (Obj.mapFields (·.setIfInBounds 0 (rawInt next)))).update I (Obj.mapFields (·.setIfInBounds 1 (rawInt ((i:Int)+1))))).get? I=_:=HM _ ho1 (Obj.isFreed_of_fields (Obj.data_mapFields hd1 _));refine Fi ⟨_,rfl,Fi (hQ _ ⟨_,hit',(Obj.cls_mapFields ..).trans ((Obj.cls_mapFields ..).trans hc),by rw [Obj.data_mapFields hd1];simp [rawInt]⟩ ((Hi ..).trans (Hi ..)))⟩
theorem J4u{slot:Nat}{Q:Option Value→Shared→Prop}(hh:A.handled=none)(q:Eh s.heap I (.int slot 0) i a es.size ep)(hr:C9 s.heap a es ep t)(hf:t.fits es.size=true)
 (hnx:∀(A:Around) (E:Value→Shared→Prop) (Q':Option (Value×Nat)→Shared→Prop),Q' none s→wpAny (model prog w) A (setNext a slot i ep) Q' E s)
 (hQ:∀h',Heap.ExtBut I s.heap h'→Q none {s with heap:=h'}):wpAny (model prog w) A (pyNext (.ref I)) Q E s:=by
 obtain ⟨o,ho,hc,hd⟩:=id q;obtain ⟨oa,hoa,hxa,hda⟩:=id hr;unfold pyNext;refine Fd (JJ (Ri (name:=Str.ofString "__next__") q.typeIs Bc (R6 Bc q.typeIs Di ?_ (E1 _))));unfold Builtin.«set_iterator.__next__»;refine Fd (m:=slotArgs "__next__" 0 _) (Fi ?_);refine Fd (Jz ho hd ?_);dsimp only;refine Fd (RC hoa hda hf ?_);rw [if_neg (by simp)];refine Fd (hnx _ _ _ ?_);dsimp only;refine Fd (RS ho hd (by simp) ?_);refine Fd ?_;simp only [newExc,newTuple];refine Fd (Hl ?_ (by size_fits));refine Fd (m:=firstArgMember _ _) (JX (a:=Value.none) (by first | rfl | (simp only [firstArgMember];rfl)) ?_);refine Hl ?_ (by size_fits);simp only [raiseNew];refine Fd (wpAny_handled ?_);rw [show A.in1.handled=none from hh]
 refine Fd (Fi (wpAny_throw ?_));refine Fd (JU (T:="StopIteration") (b:=true) ⟨_,Fo _ rfl,rfl⟩ isSubtype_stop ?_);exact Fi (hQ _ (((Hi ..).extBut.push _).push _))
def G8(h:Heap)(J:Addr)(ps:List Nat):Prop:=∃o m,h.get? J=some o∧o.data= .seq (ps.map fun (p:Nat)=>rawInt p).toArray m
theorem G8.at{h h':Heap}{J:Addr}{ps:List Nat}(q:G8 h J ps)(k:∀o,h.get? J=some o→h'.get? J=some o):G8 h' J ps:=let ⟨o,m,ho,r⟩:=q;⟨o,m,k o ho,r⟩
theorem J7h{J:Addr}{ps:List Nat}{p:Nat}{e:Int×Value}{Q:Option Value→Shared→Prop}(q:Eh s.heap I (.ref J) i a es.size ep)(hr:C9 s.heap a es ep t)(hf:t.fits es.size=true)(hp:G8 s.heap J ps)(hi:ps[i]?=some p)(he:es[p]?=some e)
 (hQ:∀h',Eh h' I (.ref J) (i+1) a es.size ep→Heap.SameBut I s.heap h'→Q (some e.2) {s with heap:=h'}):wpAny (model prog w) A (pyNext (.ref I)) Q E s:=by
 obtain ⟨o,ho,hc,hd⟩:=id q;obtain ⟨oa,hoa,hxa,hda⟩:=id hr;obtain ⟨oj,mj,hoj,hdj⟩:=hp;unfold pyNext;refine Fd (JJ (Ri (name:=Str.ofString "__next__") q.typeIs Bc (R6 Bc q.typeIs Di ?_ (E1 _))));unfold Builtin.«set_iterator.__next__»;refine Fd (m:=slotArgs "__next__" 0 _) (Fi ?_);refine Fd (Jz ho hd ?_);dsimp only;refine Fd (RC hoa hda hf ?_);rw [if_neg (by simp)];refine Fd (J7 hoj hdj ?_)
 have hg:((ps.map fun (p:Nat)=>rawInt p).toArray)[((i:Nat):Int).toNat]?=some (.int p 0):=by
  rw [Int.toNat_natCast,Jy,Fg,hi];rfl
 dsimp only;rw [hg];dsimp only;refine Fd ?_;unfold setNextDrawn;refine Fd (HR hoa hda hf ?_);dsimp only;rw [if_neg (by simp)];rw [Int.toNat_natCast,he];obtain ⟨e1,e2⟩:=e;refine Fi ?_;refine Fd (RS ho hd (by simp) ?_);have hit':(s.heap.update I (Obj.mapFields (·.setIfInBounds 1 (rawInt ((i:Int)+1))))).get? I=_:=HM _ ho (Obj.isFreed_of_fields (Obj.data_mapFields hd _));refine Fi ⟨_,rfl,Fi (hQ _ ⟨_,hit',(Obj.cls_mapFields ..).trans hc,by rw [Obj.data_mapFields hd];simp [rawInt]⟩ (Hi ..))⟩
theorem Jb1{J:Addr}{ps:List Nat}{Q:Option Value→Shared→Prop}(hh:A.handled=none)(q:Eh s.heap I (.ref J) i a es.size ep)(hr:C9 s.heap a es ep t)(hf:t.fits es.size=true)(hp:G8 s.heap J ps)(hi:ps[i]?=none)
 (hQ:∀h',Heap.ExtBut I s.heap h'→Q none {s with heap:=h'}):wpAny (model prog w) A (pyNext (.ref I)) Q E s:=by
 obtain ⟨o,ho,hc,hd⟩:=id q;obtain ⟨oa,hoa,hxa,hda⟩:=id hr;obtain ⟨oj,mj,hoj,hdj⟩:=hp;unfold pyNext;refine Fd (JJ (Ri (name:=Str.ofString "__next__") q.typeIs Bc (R6 Bc q.typeIs Di ?_ (E1 _))));unfold Builtin.«set_iterator.__next__»;refine Fd (m:=slotArgs "__next__" 0 _) (Fi ?_);refine Fd (Jz ho hd ?_);dsimp only;refine Fd (RC hoa hda hf ?_);rw [if_neg (by simp)];refine Fd (J7 hoj hdj ?_)
 have hg:((ps.map fun (p:Nat)=>rawInt p).toArray)[((i:Nat):Int).toNat]?=none:=by
  rw [Int.toNat_natCast,Jy,Fg,hi];rfl
 dsimp only;rw [hg];dsimp only;refine Fd (RS ho hd (by simp) ?_);have ho1:=HM (Obj.mapFields (·.setIfInBounds 0 (rawInt 0))) ho (Obj.isFreed_of_fields (Obj.data_mapFields hd _));have hd1:=Obj.data_mapFields hd (·.setIfInBounds 0 (rawInt 0));refine Fd (RS ho1 hd1 (by simp) ?_);refine Fd ?_;simp only [newExc,newTuple];refine Fd (Hl ?_ (by size_fits));refine Fd (m:=firstArgMember _ _) (JX (a:=Value.none) (by first | rfl | (simp only [firstArgMember];rfl)) ?_);refine Hl ?_ (by size_fits);simp only [raiseNew];refine Fd (wpAny_handled ?_);rw [show A.in1.handled=none from hh];refine Fd (Fi (wpAny_throw ?_));refine Fd (JU (T:="StopIteration") (b:=true) ⟨_,Fo _ rfl,rfl⟩ isSubtype_stop ?_);exact Fi (hQ _ ((((Hi ..).trans (Hi ..)).extBut.push _).push _))
theorem J1a{src:Source}{n:Nat}{Q:Nat→Shared→Prop}(hn:n≠0)(h:∀i d,i < n→Q i {s with drawn:=d}):wpAny (model prog w) A (choose src n) Q E s:=fun Γ p hp=>⟨hn,h _ _ (Nat.mod_lt _ (Nat.pos_of_ne_zero hn))⟩
theorem J7i{α:Type}:∀(n:Nat) (xs:List α) (s:Shared) (Q:List α→Shared→Prop),n=xs.length→(∀ys d,ys.Perm xs→Q ys {s with drawn:=d})→wpAny (model prog w) A (drawOrder n xs) Q E s:=by
 intro n
 induction n with
 | zero=>
  intro xs s Q e h;have:xs=[]:=Ha.mp e.symm;subst this;unfold drawOrder;exact Fi (h [] s.drawn .rfl)
 | succ n ih=>
  intro xs s Q e h
  cases xs with
  | nil=>cases e
  | cons x r=>
   unfold drawOrder;refine Fd (J1a (by simp) fun i d hi=>?_);rw [Fb hi];dsimp only;refine Fd (ih _ _ _ (by rw [List.length_eraseIdx_of_lt hi];omega) fun ys d' hp=>Fi ?_);exact h _ d' ((hp.cons _).trans (Om _ i hi))
end
end L2
namespace L2
open N30
section
variable {prog:Program} {w:World} {A:Around} {E:Value→Shared→Prop} {s:Shared} {a I:Addr} {es:Array (Int×Value)} {ep:Nat} {t:SetTable}
theorem J1b(hh:A.handled=none)(hb:byT w=true)(hf:t.fits es.size=true)(hne:a≠I):
 Walks prog w A I [I,a] [I] es.size (fun i v=>((pickOrder (w.params.setOrder a ep) es).toList.map (·.2))[i]?=some v) (fun i h=>Eh h I (.int ((0:Nat):Int) 0) i a es.size ep∧C9 h a es ep t) where
 sub:=fun b hb=>by simp at hb;simp [hb]
 frame:=fun _ _ _ st hk=>⟨st.1.at fun o e=>hk I (by simp) o e,st.2.at fun o e=>hk a (by simp) o e⟩
 item:=fun i s Q E hi st hQ=>by
  have hl:i < (pickOrder (w.params.setOrder a ep) es).toList.length:=by rw [(Mt _ es).length_eq,Ft];exact hi
  have hg:(pickOrder (w.params.setOrder a ep) es)[i]?=some (pickOrder (w.params.setOrder a ep) es).toList[i]:=by rw [← FZ,Fb hl]
  refine Yn (slot:=0) (next:=0) (x:=(pickOrder (w.params.setOrder a ep) es).toList[i].2) st.1 st.2 hf (fun A E Q' hq=>Q9 st.2 hf hb (by rw [hg];exact hq)) fun h' it' sb=>?_;refine hQ _ h' s.toks (by rw [Fg,Fb hl];rfl) ⟨it',st.2.at fun o e=>sb.extBut a o hne e⟩ fun b o hb e=>sb.extBut b o (fun z=>hb (by simp [z])) e
 done:=fun s Q E st hQ=>by
   have hg:(pickOrder (w.params.setOrder a ep) es)[es.size]?=none:=by
    rw [← FZ];exact FN (by rw [(Mt _ es).length_eq,Ft];exact Fh _)
   exact J4u (slot:=0) hh st.1 st.2 hf (fun A E Q' hq=>Q9 st.2 hf hb (by rw [hg];exact hq)) fun h' he=>hQ h' s.toks fun b o hb e=>he b o (fun z=>hb (by simp [z])) e
 self:=fun _ _ _ _ st hQ=>Se st.1 hQ
def Iv(t:SetTable)(i:Nat):Nat:=if i=0 then 0 else t.place.getD (i - 1) 0+1
theorem Oq(hr:Ris t.place.toList){i:Nat}(hi:i≤t.place.size):SetTable.below t.place (Iv t i)=i:=by
 have mono:∀i k x y,i < k→t.place.toList[i]?=some x→t.place.toList[k]?=some y→x < y:=fun i k x y ik hx hy=>by
  obtain ⟨li,ei⟩:=Fe.mp hx;obtain ⟨lk,ek⟩:=Fe.mp hy;rw [← ei,← ek];exact (HK.mp hr) i k li lk ik
 refine J4p hr hi (fun j x hj hx=>?_) fun j x hj hx=>?_
 · unfold Iv
   rw [if_neg (by omega)]
   have l:i - 1 < t.place.size:=by omega
   have hg:t.place.toList[i - 1]?=some (t.place.getD (i - 1) 0):=by rw [FZ,Rx,Hx l];rfl
   by_cases e:j=i - 1
   · subst e;rw [hg]at hx;cases hx;omega
   · have:=mono j (i - 1) x _ (by omega) hx hg
     omega
 · unfold Iv
   by_cases e0:i=0
   · rw [if_pos e0];exact FB _
   · rw [if_neg e0]
     have l:i - 1 < t.place.size:=by omega
     have hg:t.place.toList[i - 1]?=some (t.place.getD (i - 1) 0):=by rw [FZ,Rx,Hx l];rfl
     exact mono (i - 1) j _ x (by omega) hg hx
theorem J1c(hh:A.handled=none)(hb:byT w=false)(hf:t.fits es.size=true)(hl:t.led=true)(hn:(!t.plain && decide (es.size > 1))=false)(hr:Ris t.place.toList)(hne:a≠I):
 Walks prog w A I [I,a] [I] es.size (fun i v=>(es.toList.map (·.2))[i]?=some v) (fun i h=>Eh h I (.int ((Iv t i:Nat):Int) 0) i a es.size ep∧C9 h a es ep t) where
 sub:=fun b hb=>by simp at hb;simp [hb]
 frame:=fun _ _ _ st hk=>⟨st.1.at fun o e=>hk I (by simp) o e,st.2.at fun o e=>hk a (by simp) o e⟩
 item:=fun i s Q E hi st hQ=>by
  have hz:t.place.size=es.size:=by simp only [SetTable.fits,FV,R7]at hf;exact hf.1
  have hb':=Oq hr (i:=i) (by omega)
  have hp:t.place[i]?=some (t.place.getD i 0):=by rw [Rx,Hx (by omega)];rfl
  have he:es[i]?=some es[i]:=Hx hi;refine Yn (slot:=Iv t i) (next:=Iv t (i+1)) (x:=es[i].2) st.1 st.2 hf (fun A E Q' hq=>Qa st.2 hf hb hl hn (by rw [hb',hp,he];exact hq)) fun h' it' sb=>?_;refine hQ _ h' s.toks (by rw [Fg,FZ,he];rfl) ⟨it',st.2.at fun o e=>sb.extBut a o hne e⟩ fun b o hb e=>sb.extBut b o (fun z=>hb (by simp [z])) e
 done:=fun s Q E st hQ=>by
   have hz:t.place.size=es.size:=by simp only [SetTable.fits,FV,R7]at hf;exact hf.1
   have hb':=Oq hr (i:=es.size) (by omega);have he:es[es.size]?=none:=Array.getElem?_eq_none (Fh _);exact J4u (slot:=Iv t es.size) hh st.1 st.2 hf (fun A E Q' hq=>Qa st.2 hf hb hl hn (by rw [hb',he];exact hq)) fun h' he=>hQ h' s.toks fun b o hb e=>he b o (fun z=>hb (by simp [z])) e
 self:=fun _ _ _ _ st hQ=>Se st.1 hQ
def atP(es:Array (Int×Value))(p:Nat):Value:=((es[p]?).map (·.2)).getD .none
theorem J1d:(List.range es.size).map (atP es)=es.toList.map (·.2):=by
 apply RX;intro i;rw [Fg,Fg]
 by_cases h:i < es.size
 · rw [Hd h,show es.toList[i]?=es[i]? from FZ]
   show some (atP es i)=_;unfold atP;rw [Hx h];rfl
 · rw [FN (l:=List.range es.size) (by rw [Fv];omega),FN (l:=es.toList) (by rw [Ft];omega)];rfl
theorem We(hh:A.handled=none)(hf:t.fits es.size=true){J:Addr}{ps:List Nat}(hp:ps.Perm (List.range es.size))(hne:a≠I)(hnJ:J≠I):
 Walks prog w A I [I,a,J] [I] es.size (fun i v=>(ps.map (atP es))[i]?=some v) (fun i h=>Eh h I (.ref J) i a es.size ep∧C9 h a es ep t∧G8 h J ps) where
 sub:=fun b hb=>by simp at hb;simp [hb]
 frame:=fun _ _ _ st hk=>⟨st.1.at fun o e=>hk I (by simp) o e,st.2.1.at fun o e=>hk a (by simp) o e,st.2.2.at fun o e=>hk J (by simp) o e⟩
 item:=fun i s Q E hi st hQ=>by
  have hl:i < ps.length:=by rw [hp.length_eq,Fv];exact hi
  have hm:ps[i] < es.size:=FY.mp (hp.mem_iff.mp (FU hl));have he:es[ps[i]]?=some es[ps[i]]:=Hx hm;refine J7h (e:=es[ps[i]]) st.1 st.2.1 hf st.2.2 (Fb hl) he fun h' it' sb=>?_;refine hQ _ h' s.toks ?_ ⟨it',st.2.1.at fun o e=>sb.extBut a o hne e,st.2.2.at fun o e=>sb.extBut J o hnJ e⟩ fun b o hb e=>sb.extBut b o (fun z=>hb (by simp [z])) e;rw [Fg,Fb hl];show some (atP es ps[i])=_;unfold atP;rw [he];rfl
 done:=fun s Q E st hQ=>Jb1 hh st.1 st.2.1 hf st.2.2 (FN (by rw [hp.length_eq,Fv];exact Fh _)) fun h' he=>hQ h' s.toks fun b o hb e=>he b o (fun z=>hb (by simp [z])) e
 self:=fun _ _ _ _ st hQ=>Se st.1 hQ
theorem C9.typeIs(q:C9 s.heap a es ep t):s.TypeIs (.ref a) "set":=let ⟨o,ho,hx,_⟩:=q;⟨o,ho,hx.1⟩
theorem Jct{Q:Value→Shared→Prop}(hr:C9 s.heap a es ep t)(T:G7 t es.size (!byT w))(hz:es.size≤sizeLine)
 (h:∀(out:List Value) (I:Addr) (fp:List Addr) (St:Nat→Heap→Prop) (h':Heap) (d':Drawn),out.Perm (es.toList.map (·.2))→s.heap.objs.size≤I→(∀b∈fp,b=a∨s.heap.objs.size≤b)→(∀b o,s.heap.get? b=some o→h'.get? b=some o)→
  (∀A':Around,A'.handled=none→Walks prog w A' I fp [I] es.size (fun i v=>out[i]?=some v) St)→St 0 h'→Q (.ref I) {s with heap:=h',drawn:=d'}):wpAny (model prog w) A (pyIter (.ref a)) Q E s:=by
 obtain ⟨o,ho,hx,hd⟩:=id hr;have hf:=T.fit;have lt:=Fm ho;refine wpAny_pyIter_slot hr.typeIs F.slot_set_iter (R6 F.slot_set_iter hr.typeIs Oo ?_ (F.args_set_iter_1 _));unfold Builtin.«frozenset.__iter__» Builtin.Frozenset.slot0;refine Fd (Fd (m:=slotArgs "__iter__" 0 _) (Fi (Fi ?_)));unfold Builtin.Frozenset.sizeOf;refine Fd (Fd (RC ho hd hf (Fi ?_)))
 have dn:∀(A:Around) (E:Value→Shared→Prop) (Q':Bool→Shared→Prop),Q' (!byT w && (!t.plain && decide (es.size > 1))) s→wpAny (model prog w) A (setDrawn a) Q' E s:=fun A E Q' hq=>by
  unfold setDrawn;exact Fd (HR ho hd hf (Fd (Kg (Fi hq))))
 refine Fd (dn _ _ _ ?_)
 by_cases c:(!byT w && (!t.plain && decide (es.size > 1)))=true
 · rw [if_pos c]
   refine Fd (J7i _ _ _ _ (Fv).symm fun ps d' hp=>?_);refine Fd (wpAny_newTuple ?_ (by rw [Fa,hp.length_eq,Fv];exact hz));have ho1:=Ff {cls:= .type "tuple",data:= .seq (ps.map fun (p:Nat)=>rawInt p).toArray} ho;refine Fd ?_;unfold setEpoch;refine Fd (HR ho1 hd hf (Fi ?_));refine Fd (Hl (Fi ⟨_,rfl,"set_iterator",_,⟨_,Fo _ rfl,rfl⟩,Bc.lookup,?_⟩));have sz:(s.heap.push {cls:= .type "tuple",data:= .seq (ps.map fun (p:Nat)=>rawInt p).toArray}).objs.size=s.heap.objs.size+1:=Rk ..;refine h (ps.map (atP es)) _ [_,a,s.heap.objs.size] _ _ d' (by rw [← J1d];exact hp.map _) (by rw [sz];exact R5 _) (fun b hb=>?_) (fun b o e=>Ff _ (Ff _ e)) (fun A' h'=>We (t:=t) (ep:=ep) h' hf hp (Fs (by rw [sz];exact HU lt)) (Fs (by rw [sz];exact Hu _))) ⟨⟨_,Fo _ rfl,rfl,by simp [rawInt]⟩,⟨o,Ff _ ho1,hx,hd⟩,⟨_,_,Ff _ (Fo _ rfl),rfl⟩⟩
   rcases Fy.mp hb with e | hb
   · right;rw [e,sz];exact R5 _
   · rcases Fy.mp hb with e | hb
     · exact .inl e
     · right;rw [Fj.mp hb];exact Fh _
 · rw [if_neg c]
   refine Fd (Fi ?_);refine Fd ?_;unfold setEpoch;refine Fd (HR ho hd hf (Fi ?_));refine Fd (Hl (Fi ⟨_,rfl,"set_iterator",_,⟨_,Fo _ rfl,rfl⟩,Bc.lookup,?_⟩))
   have fpo:∀b∈[s.heap.objs.size,a],b=a∨s.heap.objs.size≤b:=fun b hb=>by
    rcases Fy.mp hb with e | hb
    · right;rw [e];exact Fh _
    · exact .inl (Fj.mp hb)
   cases hb:byT w with
   | true=>
    exact h _ _ [_,a] _ _ s.drawn ((Mt (w.params.setOrder a ep) es).map (·.2)) (Fh _) fpo (fun b o e=>Ff _ e) (fun A' h'=>J1b h' hb hf (Fs lt)) ⟨⟨_,Fo _ rfl,rfl,by simp [rawInt]⟩,⟨o,Ff _ ho,hx,hd⟩⟩
   | false=>
    rw [hb]at c
    have c':(!t.plain && decide (es.size > 1))=false:=by simpa using c
    have hr':Ris t.place.toList:=by
     cases hp:t.plain with
     | true=>exact T.ris hp
     | false=>
      rw [hp]at c'
      have hs:es.size≤1:=by simpa using c'
      have hz:t.place.size=es.size:=by simp only [SetTable.fits,FV,R7]at hf;exact hf.1
      have:t.place.toList.length≤1:=by rw [Ft];omega
      match t.place.toList,this with
      | [],_=>exact .nil
      | [x],_=>exact Rj _ _
    have hl:t.led=true:=by rw [T.led,hb];rfl
    exact h _ _ [_,a] _ _ s.drawn (.refl _) (Fh _) fpo (fun b o e=>Ff _ e) (fun A' h'=>J1c h' hb hf hl c' hr' (Fs lt)) ⟨⟨_,Fo _ rfl,rfl,by simp [rawInt,Iv]⟩,⟨o,Ff _ ho,hx,hd⟩⟩
theorem J4v{r:Addr}{Q:Bool→Shared→Prop}(hT:s.TypeIs (.ref r) "set")(h:Q false s):wpAny (model prog w) A (Builtin.List.listLengthHint (.ref r)) Q E s:=by
 unfold Builtin.List.listLengthHint;refine Fd (wpAny_specialOf hT PySem.F.slot_set_len.lookup ?_);generalize hid:("set.__len__":String)=id0
 wp_delta
 rw [show splitId id0=some ("set","__len__") from by subst hid;decide+kernel];subst hid;refine Fd (JU (T:="set") (b:=true) hT (by rw [isSubtype_type];kernel_rfl) ?_);refine Jr (fun hab=>absurd hab (by decide)) (fun _=>?_);refine Jr (fun _=>?_) (fun hab=>absurd (by decide+kernel) hab);refine Fd (wpAny_typeOf hT ?_);exact Fi h
theorem J7j{R:Result→Shared→Prop}(hh:A.handled=none)(hr:C9 s.heap a es ep t)(T:G7 t es.size (!byT w))(hz:es.size≤sizeLine)(S:Addr)(hSa:S≠a)(res:Value)(c₀:Nat)(hS:s.heap.get? S=some {cls:= .type "list",data:= .seq #[] c₀})
 (hR:∀h' tk d' (acc':Array Value) c',(∀b o,b≠S→s.heap.get? b=some o→h'.get? b=some o)→h'.get? S=some {cls:= .type "list",dict:=none,data:= .seq acc' c',slots:=#[]}→acc'.toList.Perm (es.toList.map (·.2))→R (.ok (.ret res)) {s with heap:=h',toks:=tk,drawn:=d'}):
 wpAny (model prog w) A.in1 (Builtin.List.listExtendWith (.ref S) (.ref a) res)
  (fun fin s'=>match fin with | .done f=>R (.ok f) s' | .again c'=>c'.quiet=true∧codeAny (model prog w) A c' R s') (fun e s'=>R (.error e) s') s:=by
 unfold Builtin.List.listExtendWith;refine Fd (wpAny_typeOf (T:="set") hr.typeIs ?_)
 have h1:Builtin.List.listSameRef (.ref S) (.ref a)=false:=by simp [Builtin.List.listSameRef,hSa]
 have h2:(Value.type "set"==Value.type "list")=false:=by decide
 have h3:(Value.type "set"==Value.type "tuple")=false:=by decide
 simp only [h1,h2,h3,Bool.or_false,Bool.false_eq_true,if_false];refine Fd (Jct hr T hz fun out I fp St h1 d1 hp hI hfp hk W st=>?_);have W:=W A.in1 hh;have ltS:=Fm hS;have hSI:S≠I:=fun e=>absurd (Fq ltS hI) (by rw [e];exact Hc _)
 have hSf:S∉fp:=fun z=>by
  rcases hfp S z with e | e
  · exact hSa e
  · exact absurd (Fq ltS e) (Hc _)
 have hlen:out.length=es.size:=by rw [hp.length_eq,Fa,Ft]
 have key:∀(h:Heap) (c₁ tk:Nat),St 0 h→(∀b o,b≠S→s.heap.get? b=some o→h.get? b=some o)→h.get? S=some {cls:= .type "list",data:= .seq #[] c₁}→
  codeAny (model prog w) A (.builtin "list.extend.loop" ⟨[.ref S,.ref I,res],[]⟩) R {s with heap:=h,toks:=tk,drawn:=d1}:=by
  intro h c₁ tk hst hk' hS₁;refine codeAny_extend_loopS W.toS hz S hSf res es.size 0 _ #[] c₁ rfl (FB _) hst hS₁ (ItemsOf.nil _) fun s' acc' c' hm hS' hacc=>?_;rw [Moved.eq_with hm];refine hR s'.heap s'.toks d1 acc' c' (fun b o hb e=>hm.heap b o (fun hmem=>?_) (hk' b o hb e)) hS' ?_
  · rcases Fy.mp hmem with e' | hmem
    · exact hb e'
    · rw [Fj.mp hmem]at e
      exact absurd (Fq (Fm e) hI) (Hc _)
  · have:acc'.toList=out:=by
     apply RX;intro i
     by_cases hi:i < es.size
     · have hi2:i < acc'.toList.length:=by rw [Ft,hacc.1];exact hi
       rw [hacc.2 i acc'.toList[i] (by rw [← FZ];exact Fb hi2),Fb hi2]
     · rw [FN (by rw [Ft,hacc.1];omega),FN (by rw [hlen];omega)]
    rw [this];exact hp
 have hS₁:=hk S _ hS;refine Fd (R3 (J4v (s:={s with heap:=h1,drawn:=d1}) (hr.at fun o e=>hk a o e).typeIs ?_));refine Jr (fun _=>?_) (fun _=>Fi ⟨Rf PySem.F.plain_extend_loop _,key _ c₀ _ st (fun b o _ e=>hk b o e) hS₁⟩);refine Fd (JM (Fd ?_));show wpAny _ _ (updateSeq S (·.push .none) >>=fun _=>updateSeq S (·.pop)) _ _ _;refine Fd (J3 hS₁ rfl ?_);have hS₂:=HM (Obj.mapSeq (·.push Value.none)) hS₁ rfl;refine J3 (hz:=by seq_fits) hS₂ rfl ?_;have hS₃:=HM (Obj.mapSeq (·.pop)) hS₂ rfl;refine Fi ⟨Rf PySem.F.plain_extend_loop _,key _ _ _ ?_ (fun b o hb e=>?_) hS₃⟩
 · refine W.frame 0 _ _ st fun b hb o e=>?_
   have hbS:b≠S:=fun h=>hSf (h▸hb);exact (R0 _ _ (Ne.symm hbS)).trans ((R0 _ _ (Ne.symm hbS)).trans e)
 · exact (R0 _ _ (Ne.symm hb)).trans ((R0 _ _ (Ne.symm hb)).trans (hk b o e))
theorem J4w{R:List Value→Shared→Prop}(hh:A.handled=none)(hr:C9 s.heap a es ep t)(T:G7 t es.size (!byT w))(hz:es.size≤sizeLine)
 (h:∀(h':Heap) (tk:Nat) (d':Drawn) (vs:List Value),s.heap.objs.size < h'.objs.size→(∀b o,s.heap.get? b=some o→h'.get? b=some o)→vs.Perm (es.toList.map (·.2))→R vs {s with heap:=h',toks:=tk,drawn:=d'}):
 wpAny (model prog w) A (collect (.ref a)) R E s:=by
 obtain ⟨oa,hoa,_⟩:=id hr;have hlt:=Fm hoa;unfold collect;refine Fd (wpAny_runValue (HW entry_proto_collect' ?_));rw [Around.under_plainId PySem.F.plain_proto_collect _];show wpAny _ A.in1 (newList [] >>=fun l=>again (.builtin "list.__iadd__" ⟨[l,.ref a],[]⟩)) _ _ s;refine Fd (Hl ?_);refine Fi ⟨Rf PySem.F.plain_list_iadd _,HW entry_list_iadd' ?_⟩;rw [Around.under_plainId PySem.F.plain_list_iadd _];have hS₁:(s.heap.push {cls:= .type "list",data:= .seq ([]:List Value).toArray}).get? s.heap.objs.size=some {cls:= .type "list",data:= .seq #[]}:=Fo _ rfl;show wpAny _ A.in1 (Builtin.List.listExtendWith (.ref s.heap.objs.size) (.ref a) (.ref s.heap.objs.size)) _ _ _
 have key:=J7j (prog:=prog) (A:=A) (s:={s with heap:=s.heap.push {cls:= .type "list",data:= .seq ([]:List Value).toArray}})
  (R:=fun (q:Result) (s':Shared)=>∃(h':Heap) (tk:Nat) (d':Drawn) (acc':Array Value) (c':Nat),q= .ok (.ret (.ref s.heap.objs.size))∧s'={s with heap:=h',toks:=tk,drawn:=d'}∧
   (∀b o,s.heap.get? b=some o→h'.get? b=some o)∧h'.get? s.heap.objs.size=some {cls:= .type "list",dict:=none,data:= .seq acc' c',slots:=#[]}∧acc'.toList.Perm (es.toList.map (·.2)))
  hh (hr.at fun o e=>Ff _ e) T hz s.heap.objs.size (Nat.ne_of_gt hlt) (.ref s.heap.objs.size) 0 hS₁
  (fun h' tk d' acc' c' hk hS' hacc=>⟨h',tk,d',acc',c',rfl,rfl,fun b o e=>hk b o (Fs (Fm e)) (Ff _ e),hS',hacc⟩)
 refine Hs key (fun fin s' x=>?_) fun e s' x=>?_
 · cases fin with
   | done f=>
    obtain ⟨h',tk,d',acc',c',e,rfl,hk,hS',hacc⟩:=x;cases e;show wpAny _ A (load s.heap.objs.size >>=_) _ _ _;exact Fd (wpAny_load hS' (Fi (h h' tk d' acc'.toList (Fm hS') hk hacc)))
   | again c₁=>
    refine ⟨x.1,HY x.2 fun q s₂ y=>?_⟩;obtain ⟨h',tk,d',acc',c',rfl,rfl,hk,hS',hacc⟩:=y;show wpAny _ A (load s.heap.objs.size >>=_) _ _ _;exact Fd (wpAny_load hS' (Fi (h h' tk d' acc'.toList (Fm hS') hk hacc)))
 · obtain ⟨_,_,_,_,_,e',_⟩:=x
   cases e'
end
end L2
namespace L2
open N30
section
variable {K:Type} [DecidableEq K]
def ds1(s:List K)(y:K):List K:=if y∈s then s else s++[y]
def ds(ys:List K):List K:=ys.foldl ds1 []
theorem Nu(ys:List K)(y:K):ds (ys++[y])=ds1 (ds ys) y:=by unfold ds;rw [JS];rfl
theorem Yo{s:List K}{y z:K}:z∈ds1 s y↔z∈s∨z=y:=by
 unfold ds1;split
 · rename_i h
   exact ⟨.inl,fun h'=>h'.elim id fun e=>e▸h⟩
 · rw [FI,Fj]
theorem Yp{s:List K}{y:K}:(ds1 s y).length=if decide (y∈s)=true then s.length else s.length+1:=by
 unfold ds1
 by_cases h:y∈s
 · rw [if_pos h,if_pos (Fx h)]
 · rw [if_neg h,if_neg (by simp [h])];simp
theorem Os{P:List K→Prop}(h0:P [])(h1:∀r y,P r→P (r++[y]))(ys:List K):P ys:=by
 have key:∀l:List K,P l.reverse:=by
  intro l
  induction l with
  | nil=>exact h0
  | cons a r ih=>rw [Jg];exact h1 _ _ ih
 have:=key ys.reverse
 rwa [List.reverse_reverse]at this
theorem V0(ys:List K):(ds ys).Nodup:=by
 refine Os (P:=fun ys=>(ds ys).Nodup) HQ (fun r y h=>?_) ys;rw [Nu];unfold ds1;split
 · exact h
 · rename_i hn
   exact Hq.mpr ⟨h,Rj _ _,fun a ha b hb e=>hn (by rw [Fj.mp hb]at e;rw [← e];exact ha)⟩
theorem Jb2{ys:List K}{z:K}:z∈ds ys↔z∈ys:=by
 refine Os (P:=fun ys=>z∈ds ys↔z∈ys) Iff.rfl (fun r y ih=>?_) ys;rw [Nu,Yo,ih,FI,Fj]
theorem Sf(ys:List K):(ds ys).length≤ys.length:=by
 refine Os (P:=fun ys=>(ds ys).length≤ys.length) (Fh _) (fun r y ih=>?_) ys;rw [Nu,Yp,Fu,Rr]
 split <;> omega
theorem J7k:∀(l l':List K),l.Nodup→(∀x∈l,x∈l')→l'.length≤l.length→l'.Perm l:=by
 intro l
 induction l with
 | nil=>
  intro l' _ _ h;rw [Ha.mp (Nat.le_zero.mp h)]
 | cons a r ih=>
  intro l' nd sub len;obtain ⟨na,nr⟩:=Hj.mp nd;have ha:=sub a (.head _);have hp:=List.perm_cons_erase ha;have hl:=hp.length_eq;simp only [List.length_cons]at hl len;exact hp.trans ((ih (l'.erase a) nr (fun x hx=>(JC (fun e=>by rw [e]at hx;exact na hx)).mpr (sub x (.tail _ hx))) (by omega)).cons a)
end
section
variable {prog:Program} {w:World} {K:Type} [DecidableEq K] {knd:PySem.KeyKind prog w K} {A:Around}
abbrev Sg(knd:PySem.KeyKind prog w K)(h:Heap)(S:Addr)(l:List K):Prop:=Lr knd h S (fun z=>decide (z∈l)) l.length
theorem J4x{R:Result→Shared→Prop}{I:Addr}{fp wr:List Addr}{G:Array GenState→Array GenState→Prop}{n:Nat}{Pv:Nat→Value→Prop}{St:Nat→Shared→Prop}(W:WalksS prog w A.in1 I fp wr G n Pv St){S:Addr}(off:S∉fp){ys:List K}
 (hy:n=ys.length) (hv:∀i v,Pv i v→∃k,ys[i]?=some k∧knd.is k v=true∧v.scannable=true) (hb:n+1 < scanBound):
 ∀(left i:Nat) (s:Shared),left=n - i→i≤n→St i s→Sg knd s.heap S (ds (ys.take i))→
   (∀s',Moved (S::wr) G s s'→Sg knd s'.heap S (ds ys)→R (.ok (.ret .none)) s')→codeAny (model prog w) A (.builtin "set.update.loop" ⟨[.ref S,.ref I],[]⟩) R s:=by
 have offw:S∉wr:=fun z=>off (W.sub _ z);have more:∀b∈wr,b∈S::wr:=fun _ z=> .tail _ z;intro left
 induction left with
 | zero=>
  intro i s e hi st q hR
  have hin:i=n:=by omega
  rw [hin,hy,Hv]at q;rw [hin]at st
  refine HW F.entry_set_update_loop (by
   rw [Around.under_plainId F.plain_set_update_loop _];show wpAny _ A.in1 (pyNext (.ref I) >>=_) _ _ s;refine Fd (W.done s _ _ st fun s' mv=>?_);show wpAny _ A.in1 (ret Value.none) _ _ s'
   exact Fi (hR s' (mv.mono more) (q.at fun o ho=>mv.heap S _ offw ho)))
 | succ left ih=>
  intro i s e hi st q hR
  have hlt:i < n:=by omega
  refine HW F.entry_set_update_loop (by
   rw [Around.under_plainId F.plain_set_update_loop _];show wpAny _ A.in1 (pyNext (.ref I) >>=_) _ _ s;refine Fd (W.item i s _ _ hlt st fun v s1 pv st1 mv=>?_);obtain ⟨k,hk,hkey,hsc⟩:=hv i v pv;have q1:Sg knd s1.heap S (ds (ys.take i)):=q.at fun o ho=>mv.heap S _ offw ho;show wpAny _ A.in1 (holding [v] (setAdd S v) >>=_) _ _ s1;refine Fd (R3 ?_);unfold setAdd;refine R3 (Fd (knd.pyHash hkey ?_));have room:(ds (ys.take i)).length+1 < scanBound:=FM (Nat.succ_le_succ (FC (Sf _) (by rw [FX];exact Nat.min_le_left _ _))) (by omega);refine Jd8 (knd:=knd) (s:={s1 with toks:=s1.toks+1}) hkey hsc q1 room fun h2 sb q2=>?_
   have q3:Sg knd h2 S (ds (ys.take (i+1))):=by
    rw [Hg,hk];show Sg knd h2 S (ds (ys.take i++[k]));rw [Nu];refine Lr.congr q2 (fun z=>?_) Yp.symm;rw [RK,Bool.or_eq_true,decide_eq_true_eq,decide_eq_true_eq,decide_eq_true_eq,Yo]
   refine Fi ⟨Rf F.plain_set_update_loop _,ih (i+1) _ (by omega) hlt (W.frame _ s1 _ _ st1 (R5 _) fun b hb' o ho=>by rw [sb.2 b fun z=>off (z▸hb')];exact ho) q3 fun s3 mv3 q4=>hR s3 (Moved.trans W.gtrans ((mv.mono more).then_heap (R5 _) fun b o hb' ho=>by rw [sb.2 b fun z=>hb' (z▸ .head _)];exact ho) mv3) q4⟩)
variable {E:Value→Shared→Prop} {s:Shared}
set_option maxHeartbeats 8000000 in
theorem J1e{l:Addr}{us:Array Value}{ys:List K}{Q:Value→Shared→Prop}(hh:A.handled=none)(hl:s.heap.IsList l us)(hy:us.size=ys.length)(hv:∀(i:Nat) (v:Value),us[i]?=some v→∃k,ys[i]?=some k∧knd.is k v=true∧v.scannable=true)(hb:us.size+1 < scanBound)
 (q:∀(h':Heap) (tk:Nat),Sg knd h' s.heap.objs.size (ds ys)→(∀b o,s.heap.get? b=some o→h'.get? b=some o)→Q (.ref s.heap.objs.size) {s with heap:=h',toks:=tk}):
 wpAny (model prog w) A (call (.type "set") [.ref l]) Q E s:=by
 obtain ⟨c,tl,mro⟩:=F.called_set.mro;have g1:=F.called_set.made;have g2:=F.called_set.sub
 refine RY (codeAny_of_tree (by
  show wpAny _ _ (callAny (.type "set") _) _ _ _;refine Fi ⟨Code.quiet_builtin _ (by decide+kernel),HW F.entry_type_call ?_⟩;rw [Around.under_plain (weight_type_call_type "set" [.ref l] []) rfl];have g3:=F.called_set.notType;have g4:=F.called_set.canCreate;have g5:=F.typeCall_set_1 (.ref l)
  repeat (any_goals (first | assumption | wp_step))
  refine HY (Jd9 (.ref l) (E:=E) (Q₁:=fun v s1=>v= .ref s.heap.objs.size∧s1={s with heap:=s.heap.push (Ed (!byT w))}) ⟨rfl,rfl⟩) fun r s1 hr=>?_
  cases r with
  | error e=>exact hr
  | ok fl=>
   cases fl with
   | ret v=>
    obtain ⟨rfl,rfl⟩:=hr;generalize hled:(!byT w)=led;have at0:(s.heap.push (Ed led)).get? s.heap.objs.size=some (Ed led):=Fo _ rfl
    have ty0:Shared.TypeIs {s with heap:=s.heap.push (Ed led)} (.ref s.heap.objs.size) "set":=⟨_,at0,rfl⟩
    have g6:=F.called_set.init.lookup;have g7:=F.called_set.init.bind (.ref s.heap.objs.size)
    repeat (any_goals (first | assumption | wp_step))
    refine HY (codeAny_call_builtin (R:=wants (fun r s2=>r= .none∧∃h' tk,s2={s with heap:=h',toks:=tk}∧Sg knd h' s.heap.objs.size (ds ys)∧(∀b o,s.heap.get? b=some o→h'.get? b=some o)) E) F.called_set.init.plain F.entry_set_init (check_set_init_1 ty0 ?_)) fun r2 s2 hr2=>?_
    · obtain ⟨⟨oc,od,oe,os'⟩,hol,hcl,nl,hdl⟩:=hl
      simp only at hcl hdl;subst hcl hdl;have at1:(s.heap.push (Ed led)).get? l=some {cls:= .type "list",dict:=od,data:= .seq us nl,slots:=os'}:=Ff _ hol;have g8:=F.sub_list_set;have g9:=F.sub_list_frozenset
      have g10:(Value.type "list"==Value.type "dict")=false:=by decide
      have l1:(s.heap.push (Ed led)).IsList l us:=⟨_,at1,rfl,nl,rfl⟩
      unfold Builtin.«set.__init__» noKeywords Builtin.Frozenset.updateFrom;generalize hPI:pyIter=PI
      wp_walk
      subst hPI;refine Rt l1 (Fd (wpAny_runValue ?_));have lt:l < s.heap.objs.size:=Fm hol
      have h3:A.in1.in1.in1.handled=none:=by simp [hh]
      have sz:(s.heap.push (Ed led)).objs.size=s.heap.objs.size+1:=Rk ..
      have ne1:l≠(s.heap.push (Ed led)).objs.size:=by rw [sz];exact Fs (HU lt)
      have off:s.heap.objs.size∉[(s.heap.push (Ed led)).objs.size,l]:=by
       rw [sz];intro z;rcases Fy.mp z with z | z
       · exact absurd z (Fs (Hu _))
       · exact absurd (Fj.mp z) (Nat.ne_of_gt lt)
      refine J4x (knd:=knd) ((Walks.list h3 _ l ne1 us).toS) off (ys:=ys) hy (fun i v hv'=>hv i v hv') hb (us.size - 0) 0 _ rfl (FB _) ⟨⟨_,Fo _ rfl,rfl,rfl⟩,l1.push _⟩ ?_ ?_
      · refine ⟨Ed led,#[],0,_,Ff _ at0,⟨rfl,rfl,rfl⟩,rfl,fun e he=>by simp at he,fun k=>by simp [ds],by decide,⟨hled.symm,rfl,fun _=> .nil,by rfl⟩,rfl⟩
      · rintro ⟨h',g',d',tk',os2⟩ mv q'
        have eg:g'=s.gens:=mv.gens;have ed:d'=s.drawn:=mv.drawn;have eo:os2=s.os:=mv.os;subst eg ed eo;show wpAny _ _ _ _ _ _;refine Fi ?_;show wpAny _ _ (ret Value.none) _ _ _;refine Fi ⟨rfl,h',tk',rfl,q',fun b o ho=>mv.heap b o (fun z=>?_) (Ff _ (Ff _ ho))⟩;have ltb:=Fm ho;rw [sz]at z;rcases Fy.mp z with z | z
        · exact absurd z (Fs ltb)
        · exact absurd (Fj.mp z) (Fs (HU ltb))
    · cases r2 with
      | error e=>exact hr2
      | ok fl2=>
       cases fl2 with
       | ret r=>
        obtain ⟨rfl,h',tk,rfl,q',k'⟩:=hr2
        repeat (any_goals (first | assumption | wp_step))
        exact q _ _ q' k'
       | _=>exact hr2.elim
   | _=>exact hr.elim))
end
end L2
namespace L2
open N30
section
variable {prog:Program} {w:World} {A:Around} {E:Value→Shared→Prop} {s:Shared}
theorem Lr.open'{K:Type}[DecidableEq K]{knd:PySem.KeyKind prog w K}{h:Heap}{a:Addr}{l:List K}(q:Sg knd h a l)(nd:l.Nodup):∃es ep t,C9 h a es ep t∧G7 t es.size (!byT w)∧es.size < scanBound∧es.size=l.length∧
 ∃ks:List K,ks.Perm l∧Paired (fun (k:K) (v:Value)=>knd.is k v=true) ks (es.toList.map (·.2)):=by
 obtain ⟨o,es,ep,t,ho,hx,hd,hel,hmem,hb,T,hn⟩:=q;refine ⟨es,ep,t,⟨o,ho,hx,hd⟩,T,hb,hn,?_⟩
 have key:∀l':List (Int×Value),ElemsOf knd l'→∃ks:List K,Paired (fun (k:K) (v:Value)=>knd.is k v=true) ks (l'.map (·.2)):=by
  intro l'
  induction l' with
  | nil=>intro _;exact ⟨[],.nil⟩
  | cons e r ih=>
   intro h;obtain ⟨⟨k,hk,_⟩,_⟩:=h.head;obtain ⟨ks,hp⟩:=ih h.tail;exact ⟨k::ks,.cons hk hp⟩
 have memP:∀(ks:List K) (vs:List Value),Paired (fun (k:K) (v:Value)=>knd.is k v=true) ks vs→∀v∈vs,∃k∈ks,knd.is k v=true:=by
  intro ks vs h
  induction h with
  | nil=>intro v hv;cases hv
  | cons a _ ih=>
   intro v hv;rcases Fy.mp hv with e | hv
   · subst e;exact ⟨_,.head _,a⟩
   · obtain ⟨k,hk,r⟩:=ih v hv
     exact ⟨k,.tail _ hk,r⟩
 obtain ⟨ks,hp⟩:=key es.toList hel
 have hl:ks.length=l.length:=by rw [Paired.length hp,Fa,Ft];exact hn
 refine ⟨ks,J7k l ks nd (fun x hx=>?_) (Rp hl),hp⟩;obtain ⟨e,he,hk⟩:=(hmem x).mp (Fx hx);obtain ⟨k,hk1,hk2⟩:=memP ks _ hp e.2 (FH.mpr ⟨e,he,rfl⟩);rw [knd.inj e.2 x k hk hk2];exact hk1
theorem V1{K:Type}{F:K→Value→Prop}{vs vs':List Value}(p:vs'.Perm vs):∀{ks:List K},Paired F ks vs→∃ks':List K,ks'.Perm ks∧Paired F ks' vs':=by
 induction p with
 | nil=>intro ks h;exact ⟨ks,.refl _,h⟩
 | cons x _ ih=>
  intro ks h
  cases h with
  | cons a r=>
   obtain ⟨ks',h1,h2⟩:=ih r;exact ⟨_::ks',h1.cons _,.cons a h2⟩
 | swap x y l=>
  intro ks h
  cases h with
  | cons a r=>
   cases r with
   | cons b r'=>exact ⟨_,.swap _ _ _,.cons b (.cons a r')⟩
 | trans _ _ ih1 ih2=>
  intro ks h;obtain ⟨k1,a1,b1⟩:=ih2 h;obtain ⟨k2,a2,b2⟩:=ih1 b1;exact ⟨k2,a2.trans a1,b2⟩
theorem J7l{ks:List Int}{vs:List Value}(h:Paired (fun (k:Int) (v:Value)=>(intKind prog w).is k v=true) ks vs):IntsAre vs ks:=by
 induction h with
 | nil=>exact .nil
 | cons a _ ih=>
  obtain ⟨t,rfl⟩:=Value.isInt_shape a;exact .cons _ t ih
theorem Wf{h:Heap}{a:Addr}{vs:List Value}{out:Array Value}(lt:a < h.objs.size):∀b o,b≠a→h.get? b=some o→(sortedHeap h a vs out).get? b=some o:=fun b o nb e=>by
 rw [sortedHeap_old nb (Fm e)];exact e
theorem V2{a:Addr}{l:List Int}{Q:Value→Shared→Prop}(hh:A.handled=none)(q:Sg (intKind prog w) s.heap a l)(nd:l.Nodup)(h64:l.length < 64)
 (h:∀(D:Addr) (h':Heap) (tk:Nat) (d':Drawn) (vs:List Value) (ns:List Int) (c:Nat),s.heap.objs.size≤D→(∀b o,s.heap.get? b=some o→h'.get? b=some o)→h'.get? D=some (seqObj "list" vs.toArray c)→IntsAre vs ns→ns.Perm l→ns.Pairwise (· ≤·)→Q (.ref D) {s with heap:=h',toks:=tk,drawn:=d'}):
 wpAny (model prog w) A (call (.builtin "sorted") [.ref a]) Q E s:=by
 obtain ⟨es,ep,t,hr,T,hb,hn,ks,hp,hk⟩:=q.open' nd;have hz:es.size≤sizeLine:=JQ hb;refine Calls.call_function_entry kind_sorted plain_sorted entry_sorted (args_sorted1 _) ?_;unfold Builtin.«sorted»;refine Fd (m:=checkCount "sorted" 1 1 _) (Fi ?_);refine Fd (J4w (A:=A.in1) hh hr T hz fun h1 tk d1 vs lt1 k1 pv=>?_)
 have hlv:vs.length=l.length:=by rw [pv.length_eq,Fa,Ft];exact hn
 obtain ⟨ks',p2,k2⟩:=V1 pv hk;have hI:IntsAre vs ks':=J7l k2;refine Fd (wpAny_newList ?_ (by rw [hlv,Jd];omega));have hoL:(h1.push (seqObj "list" vs.toArray 0)).get? h1.objs.size=some (seqObj "list" vs.toArray 0):=Fo _ rfl;have sz:(h1.push (seqObj "list" vs.toArray 0)).objs.size=h1.objs.size+1:=Rk ..;refine Fd (R3 (R6 slot_list_sort ⟨_,hoL,rfl⟩ entry_list_sort (list_sort_tree hoL hI (by omega) fun out ns' a1 a2 a3=>⟨_,rfl,?_⟩) (args_list_sort _)));refine Fi ⟨_,rfl,?_⟩;obtain ⟨c,hc⟩:=sortedHeap_at (out:=out) hoL;exact h h1.objs.size _ tk d1 out.toList ns' c (HF lt1) (fun b o e=>Wf (by rw [sz];exact Hu _) b o (Fs (Fm (k1 b o e))) (Ff _ (k1 b o e))) (by rw [JH];exact hc) a1 (a2.trans (p2.trans hp)) a3
end
section
variable {X:Cx}
theorem Inv.laidD{pins:List (Addr×Obj)}{σ:St}{H:Hp}{s:Shared}{h':Heap}{a:Addr}{o:HO}{t':Nat}{d':Drawn}(I:Inv X pins σ H s)(k:∀b u,s.heap.get? b=some u→h'.get? b=some u)(hp:s.heap.objs.size≤a)(new:Bi X.prog X.w (upd H a o) h' a o):
 Inv X pins σ (upd H a o) {s with heap:=h',toks:=t',drawn:=d'}:=
 I.call (g':=s.gens) (d':=d') (ch:=[]) (Un.laid k hp (I.hok.fresh hp)) (I.hok.laid k hp new) I.bare fun _ z=>nomatch z
def V3(K:PySem.W.Frag)(t:TA):TE:=fun σ H Q=>t σ H fun vs H1=>∃(a:Addr) (ns:List Int),vs=[.ref a]∧SqL K H1 a (ns.map V.int)∧ns.length < 64∧∀(q:Addr) (zs:List Int),H1 q=none→zs.Perm (ds ns)→zs.Pairwise (· ≤·)→Q (.ref q) (upd H1 q (.lst (zs.map V.int)))
theorem Jb3{ns:List Int}:∀{us:List Value},Au (ns.map V.int) us→∀(i:Nat) (v:Value),us[i]?=some v→∃k,ns[i]?=some k∧(∃t,v= .int k t):=by
 intro us r i v h;have hl:=r.length;rw [Fa]at hl
 have hi:i < ns.length:=by rw [hl];exact (Fe.mp h).1
 obtain ⟨u,hu,ru⟩:=r.get (i:=i) (x:= .int ns[i]) (by rw [Fg,Fb hi];rfl);rw [h]at hu;cases hu;exact ⟨_,Fb hi,ru⟩
theorem J4y{ns:List Int}{us:List Value}(h:IntsAre us ns):Au (ns.map V.int) us:=by
 induction h with
 | nil=>exact .nil
 | cons y t _ ih=>exact .cons ⟨t,rfl⟩ ih
variable {e:Expr} {t:TA} {p p2 pos pos2:Pos}
theorem Wh(hc:X.calm=true)(hg:Gl X "sorted")(hm:X.mg "sorted"=none)(hg2:Gl X "set")(hm2:X.mg "set"=none)(ha:PA X [e] t)(he:starEach [e] X.env=(false,eval e X.env)::starEach [] X.env:=by rfl)
 (he2:starEach [.Call (.Name "set" p2) [e] [] pos2] X.env=(false,eval (.Call (.Name "set" p2) [e] [] pos2) X.env)::starEach [] X.env:=by rfl):PE X (.Call (.Name "sorted" p) [.Call (.Name "set" p2) [e] [] pos2] [] pos) (V3 X.K t):=by
 intro pins s σ H Q I h
 have hv:bootBuiltins "set"=some (.type "set"):=by decide+kernel
 have hv1:bootBuiltins "sorted"=some (.builtin "sorted"):=by decide+kernel
 refine Hz (Gb I hg hm hv1 (callWith_builtin1 (by
  rw [he2];show wpAny _ _ (spliced ((false,eval (.Call (.Name "set" p2) [e] [] pos2) X.env)::backTo pos (starEach [] X.env))) _ _ s;refine Calls.spliced_cons (Hz (Gb I hg2 hm2 hv (callWith_type1 (thn (ha pos2 pins s σ H _ I h) fun us s1 hq_=>?_) he (by rfl))));obtain ⟨vs,H1,I1,r1,q1⟩:=hq_;obtain ⟨a,ns,rfl,hq,hz,q⟩:=q1
  cases r1 with
  | cons r rr=>
   cases rr;cases r;obtain ⟨its,rv,pl,_⟩:=I1.list hq;have hl:=rv.length;rw [Fa]at hl;have h0:=I1.ok.hd hc;refine J1e (knd:=intKind X.prog X.w) (ys:=ns) h0 pl.isList (by rw [Fl];exact hl.symm) (fun i v hv'=>?_) (by rw [Fl,← hl];unfold scanBound;omega) fun h' tk st k=>?_
   · rw [Jy]at hv'
     obtain ⟨k,hk,t,rfl⟩:=Jb3 rv i v hv';exact ⟨k,hk,intKind_is _ _ _ _,rfl⟩
   · refine Calls.spliced_nil ?_
     refine V2 h0 st (V0 ns) (FM (Sf ns) hz) fun D h2 tk2 d2 vs2 ns2 c hD k2 g2 i2 p2 o2=>?_
     have szk:s1.heap.objs.size≤D:=by
      obtain ⟨o,_,_,_,ho,_⟩:=st;exact FC (HF (Fm ho)) hD
     refine ⟨.ref D,_,I1.laidD (t':=tk2) (d':=d2) (fun b u q'=>k2 b u (k b u q')) szk (o:= .lst (ns2.map V.int)) ⟨?_,vs2,c,J4y i2,g2⟩,rfl,q D ns2 (I1.hok.fresh szk) p2 o2⟩;have:=Sf ns
     rw [Fa,p2.length_eq,Jd];omega) he2 (by rfl)))
end
theorem Ot{K:PySem.W.Frag}{σ:St}{H:Hp}{Q:VK}{t:TA}:V3 K t σ H Q=t σ H fun vs H1=>∃(a:Addr) (ns:List Int),vs=[.ref a]∧SqL K H1 a (ns.map V.int)∧ns.length < 64∧∀(q:Addr) (zs:List Int),H1 q=none→zs.Perm (ds ns)→zs.Pairwise (· ≤·)→Q (.ref q) (upd H1 q (.lst (zs.map V.int))):=rfl
end L2
namespace N35
open L2 N1 N5 N31 N4 N32 N41
section
variable (ys:List Str)
def yat(j:Nat):Str:=ys.getD j Str.empty
def isL(n j:Nat):Bool:=decide (Bb ys (yat ys j) n=some j)
def rc(n c:Nat):List Str:=(((List.range' c (n - c)).reverse.filter (isL ys n))).map (yat ys)
end
variable {ys:List Str} {R:Str→Int} {n c:Nat}
theorem Ou:rc ys n n=[]:=by unfold rc;rw [J6];rfl
theorem Nv(h:c < n):rc ys n c=rc ys n (c+1)++if isL ys n c=true then [yat ys c] else []:=by
 unfold rc;rw [show n - c=(n - (c+1))+1 by omega,JW,Jg,RN,Fw];congr 1
 by_cases e:isL ys n c=true
 · rw [if_pos e,Hr e];rfl
 · rw [if_neg e,HC e];rfl
theorem Sh{z:Str}(hc:c≤n):z∈rc ys n c↔∃b,c≤b∧Bb ys z n=some b:=by
 unfold rc;rw [FH];constructor
 · rintro ⟨j,hj,rfl⟩
   rw [HJ,RB,Rv]at hj;exact ⟨j,hj.1.1,HS hj.2⟩
 · rintro ⟨b,hb,e⟩
   have h:=Dh e;refine ⟨b,?_,h.2⟩;rw [HJ,RB,Rv];refine ⟨⟨hb,by omega⟩,Fx ?_⟩;show Bb ys (ys.getD b Str.empty) n=some b;rw [h.2];exact e
theorem Ov:(rc ys n c).Nodup:=by
 unfold rc List.Nodup;rw [Jh];refine Jj (R:=fun a b=>a≠b) ?_ (((Jf _).nodup_iff.mpr List.nodup_range').sublist List.filter_sublist);intro a b ha hb hab e;rw [HJ]at ha hb;have h1:=HS ha.2;have h2:=HS hb.2;rw [e,h2]at h1;exact hab (FS h1).symm
theorem J4z{j:Nat}(h:j < n):isL ys (n+1) j=(isL ys n j && !decide (yat ys j=yat ys n)):=by
 unfold isL
 by_cases e:yat ys j=yat ys n
 · rw [Fx e,Bool.not_true,Bool.and_false]
   refine Fz fun z=>?_;rw [show Bb ys (yat ys j) (n+1)=some n from if_pos e.symm]at z;cases z;exact Hc _ h
 · rw [Fz e,Bool.not_false,Bool.and_true,show Bb ys (yat ys j) (n+1)=Bb ys (yat ys j) n from if_neg (Ne.symm e)]
theorem J50:isL ys (n+1) n=true:=Fx (if_pos rfl)
theorem J7m(hc:c≤n):rc ys (n+1) c=yat ys n::(rc ys n c).erase (yat ys n):=by
 rw [Ov.erase_eq_filter];unfold rc;rw [show n+1 - c=(n - c)+1 by omega,List.range'_concat,List.reverse_append,List.reverse_singleton,List.singleton_append,show c+1 * (n - c)=n by omega,Hr J50,List.map_cons];congr 1;rw [Ju,List.filter_filter];congr 1;refine RW fun j hj=>?_;rw [RB,Rv]at hj;rw [J4z (by omega)];rw [Bool.and_comm];congr 1
theorem Jb4(hc:c≤n):((rc ys n c).map R).sum=tl (W R ys n) c n:=by
 have key:∀m c,n - c=m→c≤n→((rc ys n c).map R).sum=tl (W R ys n) c n:=by
  intro m
  induction m with
  | zero=>
   intro c e h
   have:c=n:=by omega
   subst this;rw [Ou,J4j];rfl
  | succ m ih=>
   intro c e h;rw [Nv (by omega),J79 (by omega),Fw,HI,ih (c+1) (by omega) (by omega),Int.add_comm];congr 1;unfold W isL yat
   by_cases z:Bb ys (ys.getD c Str.empty) n=some c
   · rw [if_pos (Fx z),if_pos z];simp
   · rw [if_neg (by rw [decide_eq_true_eq];exact z),if_neg z];simp
 exact key _ c rfl hc
def thr(o:Option Int)(P:Int):Bool:=match o with
 | none=>false
 | some d=>decide (d≤P)
def mis(R:Str→Int)(ys:List Str)(P:Int)(n:Nat):List Nat:=(List.range n).filter fun i=>!thr (dep R ys i) P
def Nk(R:Str→Int)(ys:List Str)(P:Int)(n:Nat):Int:=((mis R ys P n).length:Int)
def Ow(C R:Str→Int)(ys:List Str)(P:Int)(n:Nat):Int:=((mis R ys P n).map fun i=>C (yat ys i)).sum
theorem Ox{P:Int}:mis R ys P (n+1)=mis R ys P n++if thr (dep R ys n) P=true then [] else [n]:=by
 unfold mis;rw [Hn,RN];congr 1
 by_cases z:thr (dep R ys n) P=true
 · rw [if_pos z,HC (by simp [z])];rfl
 · rw [if_neg z,Hr (by simp [z])];rfl
theorem Yq{P:Int}(h:thr (dep R ys n) P=true):mis R ys P (n+1)=mis R ys P n:=by rw [Ox,if_pos h,FT]
theorem J1f{P:Int}(h:thr (dep R ys n) P=false):Nk R ys P (n+1)=Nk R ys P n+1:=by
 unfold Nk;rw [Ox,if_neg (by rw [h];decide),Fu];rfl
theorem J1g{C:Str→Int}{P:Int}(h:thr (dep R ys n) P=false):Ow C R ys P (n+1)=Ow C R ys P n+C (yat ys n):=by
 unfold Ow;rw [Ox,if_neg (by rw [h];decide),Fw,HI];simp
theorem Qb{K:PySem.W.Frag}{H1:Hp}{tail:L2.St}{te:Blk→TE}{Q:VK}{a:Addr}{xs:List V}(f:Nat→List V)(hS:SqL K H1 a xs)(hz:xs.length≤sizeLine)(he:∀b (i:Nat) x H Q',xs[i]?=some x→A7 H1 H→(∀t H',A7 H H'→H' t=some (.tup (f i))→Q' (.ref t) H')→te b (some x::tail) H Q')
 (q:∀(D:Addr) (as:List Addr) (H':Hp),H1 D=none→A7 H1 H'→H' D=some (.lst (as.map V.ref))→as.length=xs.length→(∀i b,as[i]?=some b→H' b=some (.tup (f i)))→Q (.ref D) H'):C1 (none::tail) (fun _=>C7 0) (fun _=>Pf) te Q (Itl K a) H1:=by
 refine Lk xs.length (fun b D hD=>⟨fun i ys H=>i≤xs.length∧H D=some (.lst ys)∧A7 H1 H∧∃as:List Addr,ys=as.map V.ref∧as.length=i∧∀j c,as[j]?=some c→H c=some (.tup (f j)),⟨FB _,A3,Cf hD,[],rfl,rfl,fun j y e=>by simp at e⟩,?_,?_,?_⟩)
 · rintro i ys H ⟨hi,h,_⟩
   exact h
 · rintro ys H ⟨_,h,sm,as,rfl,hl,hall⟩
   exact ⟨⟨xs,sm.seq hS,Fh _⟩,q D as H hD sm h hl hall⟩
 · rintro i ys H hi ⟨_,h,sm,as,rfl,hl,hall⟩
   refine ⟨⟨xs,xs[i],sm.seq hS,by simp [hi]⟩,fun x H3 ⟨e3,ex⟩=>?_⟩;subst e3;refine he b i x _ _ (ex xs (sm.seq hS)) sm fun t H4 sm4 py=>?_;have h4:=sm4 _ _ h;refine Il h4 (by rw [Fa];omega) hi ⟨hi,A3,fun c o e=>?_,as++[t],by rw [Fw];rfl,by rw [Fu,hl];rfl,fun j c e=>?_⟩
   · rw [A2 (A8 e hD)];exact sm4 _ _ (sm _ _ e)
   · by_cases hj:j < as.length
     · rw [FJ hj]at e
       have g:=sm4 _ _ (hall j c e);rw [A2 (Az g h4 (by intro z;cases z))];exact g
     · rw [FL (by omega)]at e
       have hj0:j=i:=by have:=(Fe.mp e).1;simp at this;omega
       subst hj0;rw [show j - as.length=0 by omega]at e;cases e;rw [A2 (Az py h4 (by intro z;cases z))];exact py
theorem Qc{K:PySem.W.Frag}{H1:Hp}{tail:L2.St}{tt:Blk→TT}{te:Blk→TE}{Q:VK}{a:Addr}{xs:List V}(p:Nat→Bool)(hS:SqL K H1 a xs)(hz:xs.length≤sizeLine)
 (ht:∀b (i:Nat) x H QT,xs[i]?=some x→A7 H1 H→(∀H',A7 H H'→QT (p i) H')→tt b (some x::tail) H QT)
 (he:∀b (i:Nat) x H Q',xs[i]?=some x→p i=true→A7 H1 H→(∀H',A7 H H'→Q' x H')→te b (some x::tail) H Q')
 (q:∀D H',H1 D=none→A7 H1 H'→H' D=some (.lst (((List.range xs.length).filter p).map fun i=>xs.getD i .non))→Q (.ref D) H'):C1 (none::tail) (fun _=>C7 0) tt te Q (Itl K a) H1:=by
 intro b D hD;refine ⟨fun i m ys H=>m=xs.length - i∧i≤xs.length∧ys=((List.range i).filter p).map (fun i=>xs.getD i .non)∧H D=some (.lst ys)∧A7 H1 H,⟨_,rfl,FB _,rfl,A3,Cf hD⟩,?_⟩;rintro i m ys H ⟨rfl,hi,rfl,hd,sm⟩;refine ⟨hd,?_⟩
 by_cases hlt:i < xs.length
 · have hx:=Fb hlt
   refine .inr ⟨⟨xs,xs[i],sm.seq hS,hx⟩,fun x H3 ⟨e3,ex⟩=>⟨J3k,?_⟩⟩;subst e3;have hx':=(ex xs (sm.seq hS)).symm.trans hx;cases hx'
   have eg:xs.getD i .non=xs[i]:=by rw [Fc,hx];rfl
   have hl:(((List.range i).filter p).map fun i=>xs.getD i .non).length≤i:=by
    rw [Fa];exact FC (R9 _ _) (by rw [Fv];omega)
   have htk:(List.range (i+1)).filter p=(List.range i).filter p++[i].filter p:=by rw [Hn,RN]
   refine ht b i _ _ _ hx sm fun H7 s7=>?_
   by_cases hp:p i=true
   · rw [if_pos hp]
     refine he b i _ H7 _ hx hp (sm.trans s7) fun H8 s8=>?_;have hd8:=(s7.trans s8) _ _ hd;refine ⟨hd8,by omega,xs.length - (i+1),by omega,rfl,hlt,?_,A3,Og ((sm.trans s7).trans s8) hD⟩;rw [htk,Hr hp,RJ,Fw];show _++[xs[i]]=_++[xs.getD i .non];rw [eg]
   · rw [if_neg hp]
     refine ⟨xs.length - (i+1),by omega,rfl,hlt,?_,s7 _ _ hd,sm.trans s7⟩;rw [htk,HC hp,RJ,FT]
 · have e:i=xs.length:=by omega
   subst e;exact .inl ⟨⟨xs,sm.seq hS,Fh _⟩,q D H hD sm hd⟩
theorem Yr{x:V}{vs:List V}{H:Hp}{Q:VK}:Jaa x vs H Q=∃l xs y,x= .ref l∧vs=[]∧H l=some (.lst xs)∧xs[xs.length - 1]?=some y∧Q y (upd H l (.lst xs.dropLast)):=rfl
theorem J7n{K:PySem.W.Frag}{H:Hp}{a b:Addr}{xs:List V}(h1:SqL K H a xs)(hf:xs.all C0=true)(h2:SqL K H b []):EqQ K H (.ref a) (.ref b) (decide (xs=[])):=⟨a,b,xs,[],rfl,rfl,.inl ⟨h1,h2⟩,hf,rfl,by cases xs <;> simp [E9]⟩
theorem J1h:(Cy R ys).all C0=true:=by
 unfold Cy;rw [JT,Hf];intro i _;show C0 (Ef (dep R ys i))=true
 cases dep R ys i <;> rfl
def dps(R:Str→Int)(ys:List Str)(w:Int):List Int:=(List.range ys.length).filterMap fun i=>match dep R ys i with | none=>none | some v=>if w < v then some v else none
theorem Jb5{w:Int}:((List.range (Cy R ys).length).filter fun i=>match dep R ys i with | none=>false | some v=>decide (w < v)).map (fun i=>(Cy R ys).getD i V.non)=(dps R ys w).map V.int:=by
 have hdl:(Cy R ys).length=ys.length:=by unfold Cy;rw [Fa,Fv]
 rw [hdl];unfold dps
 have key:∀l:List Nat,(∀i∈l,i < ys.length)→(l.filter fun i=>match dep R ys i with | none=>false | some v=>decide (w < v)).map (fun i=>(Cy R ys).getD i V.non)=(l.filterMap fun i=>match dep R ys i with | none=>none | some v=>if w < v then some v else none).map V.int:=by
  intro l
  induction l with
  | nil=>intro _;rfl
  | cons i r ih=>
   intro h;have hi:=h i (.head _);have ih:=ih fun j hj=>h j (.tail _ hj)
   have eg:(Cy R ys).getD i V.non=Ef (dep R ys i):=by unfold Cy;rw [Fc,Fg,Hd hi];rfl
   rw [J1,Rh]
   cases e:dep R ys i with
   | none=>simp only [Bool.false_eq_true,if_false];exact ih
   | some v=>
    by_cases c:w < v
    · simp only [Fx c,if_true,if_pos c,List.map_cons]
      rw [ih,eg,e];rfl
    · simp only [Fz c,if_neg c,Bool.false_eq_true,if_false]
      exact ih
 exact key _ fun i hi=>FY.mp hi
theorem J7o{w:Int}:(dps R ys w).length≤ys.length:=by
 unfold dps;exact FC (List.length_filterMap_le _ _) (by rw [Fv];exact Fh _)
theorem J7p{w z:Int}:z∈dps R ys w↔w < z∧∃i,i < ys.length∧dep R ys i=some z:=by
 unfold dps;rw [JN];constructor
 · rintro ⟨i,hi,h⟩
   cases e:dep R ys i with
   | none=>rw [e]at h;cases h
   | some v=>
    rw [e]at h;dsimp only at h;split at h
    · rename_i c;cases h;exact ⟨c,i,FY.mp hi,e⟩
    · cases h
 · rintro ⟨h,i,hi,e⟩
   exact ⟨i,FY.mpr hi,by rw [e];exact if_pos h⟩
theorem Ys{α:Type}{l:List α}{x:α}:atI (l++[x]) (-1)=some x:=by
 unfold atI ixN;rw [if_neg (by decide)];simp only [Fu,Rr];rw [if_pos (by omega)];show (l++[x])[(-1+((l.length+1:Nat):Int)).toNat]?=some x;rw [show (-1+((l.length+1:Nat):Int)).toNat=l.length by omega,FL (Fh _),J6];rfl
theorem Jcu{x y z:V}:G3 [x,y,z] (some 1) none=[y,z]:=rfl
theorem Jb6(ns:List Int)(lo hi:Nat):∃cs:List Int,G3 (ns.map V.int) (some (lo:Int)) (some (hi:Int))=cs.map V.int∧cs.length≤hi - lo∧cs.length≤ns.length - lo:=by
 unfold G3;rw [HT.K6,HT.K6,Fa,← JK,← RH];refine ⟨_,rfl,?_,?_⟩
 · rw [FX,Hw];omega
 · rw [FX,Hw];omega
def Zs(R:Str→Int)(ys:List Str)(zs:List Int):Prop:=(ys=[]→zs=[])∧(ys≠[]→∃w,w∈ys.map R∧(∀y∈ys,R y≤w)∧zs.Pairwise (· < ·)∧∀z,z∈zs↔z=w∨(w < z∧∃i,i < ys.length∧dep R ys i=some z))
abbrev stT(C R:Str→Int)(ys:List Str)(z:Int):List V:=[.int z,.int (Nk R ys z ys.length),.int (Ow C R ys z ys.length)]
def D8(K:PySem.W.Frag)(C R:Str→Int)(ys:List Str)(H:Hp)(as:List Addr)(zs:List Int):Prop:=as.length=zs.length∧∀(j:Nat) (b:Addr) (z:Int),as[j]?=some b→zs[j]?=some z→SqT K H b (stT C R ys z)
theorem D8.same{K:PySem.W.Frag}{C R:Str→Int}{ys:List Str}{H H':Hp}{as:List Addr}{zs:List Int}(s:A7 H H')(h:D8 K C R ys H as zs):D8 K C R ys H' as zs:=⟨h.1,fun j b z e1 e2=>s.tup (h.2 j b z e1 e2)⟩
theorem V4{C:Str→Int}{zs:List Int}{P z:Int}(hz:Zs R ys zs)(h1:z∈zs)(h2:z≤P)(h3:∀z'∈zs,z'≤P→z'≤z):Nk R ys P ys.length=Nk R ys z ys.length∧Ow C R ys P ys.length=Ow C R ys z ys.length:=by
 have hne:ys≠[]:=fun e=>by
  have:=hz.1 e;rw [this]at h1;cases h1
 obtain ⟨w,_,_,_,hm⟩:=hz.2 hne;have hw:w∈zs:=(hm w).mpr (.inl rfl)
 have key:mis R ys P ys.length=mis R ys z ys.length:=by
  unfold mis;refine RW fun i hi=>?_;have hi:=FY.mp hi;congr 1;unfold thr
  cases e:dep R ys i with
  | none=>rfl
  | some d=>
   dsimp only
   by_cases c:d≤P
   · rw [Fx c,Fx]
     by_cases cw:w < d
     · exact h3 d ((hm d).mpr (.inr ⟨cw,i,hi,e⟩)) c
     · rcases (hm z).mp h1 with r | r
       · omega
       · omega
   · rw [Fz c,Fz];omega
 unfold Nk Ow;rw [key];exact ⟨rfl,rfl⟩
def Gk:Sp:=fun vs H Q _=>∃(o:Option Int) (p:Int),vs=[Ef o,.int p]∧Q (.bl (thr o p)) H
def Kh(K:PySem.W.Frag)(X:Addr):Sp:=fun vs H Q _=>∃(st a d:Addr) (P:Int) (ts:List Th) (ys:List Str),vs=[.ref st,.ref a,.ref d,.int P]∧Aa K X H st ts∧(ts.map (·.1)).Nodup∧SqL K H a (ys.map V.str)∧ys.length≤200∧(∀y∈ys,y∈ts.map (·.1))∧SqL K H d (Cy (rm ts) ys)∧
 ∀t H',H t=none→A7 H H'→H' t=some (.tup (stT (cst ts) (rm ts) ys P))→Q (.ref t) H'
def Gm(K:PySem.W.Frag)(X:Addr):Sp:=fun vs H Q _=>∃(st a:Addr) (ts:List Th) (ys:List Str),vs=[.ref st,.ref a]∧Aa K X H st ts∧(ts.map (·.1)).Nodup∧SqL K H a (ys.map V.str)∧ys.length≤60∧(∀y∈ys,y∈ts.map (·.1))∧(∀t∈ts,t.2.2≤1000000)∧
 ∀q as zs H',H q=none→A7 H H'→H' q=some (.lst (as.map V.ref))→D8 K (cst ts) (rm ts) ys H' as zs→Zs (rm ts) ys zs→zs.length≤61→Q (.ref q) H'
def Lu(K:PySem.W.Frag):Sp:=fun vs H Q _=>∃(q:Addr) (as:List Addr) (zs:List Int) (P:Int) (C R:Str→Int) (ys:List Str),vs=[.ref q,.int P]∧SqL K H q (as.map V.ref)∧D8 K C R ys H as zs∧Zs R ys zs∧zs.length≤61∧(∃z∈zs,z≤P)∧
 ∀t z H',H t=none→A7 H H'→z∈zs→z≤P→(∀z'∈zs,z'≤P→z'≤z)→H' t=some (.tup [.int (Nk R ys z ys.length),.int (Ow C R ys z ys.length)])→Q (.ref t) H'
end N35
namespace N6
open L2 N1 N5 N4
def sfl(p d:Addr)(n:Int):List (Str×V):=Av "rooms" (.ref d) (Av "places" (.int n) (Av "stock" (.ref p) []))
theorem Mu{p d:Addr}{n:Int}:(sfl p d n).lookup ("stock":Str)=some (V.ref p):=by
 unfold sfl;rw [Ap,if_neg (by decide),Ap,if_neg (by decide),Ap,if_pos rfl]
theorem Wi{p d:Addr}{n:Int}:(sfl p d n).lookup ("places":Str)=some (V.int n):=by
 unfold sfl;rw [Ap,if_neg (by decide),Ap,if_pos rfl]
theorem G9{p d:Addr}{n:Int}:(sfl p d n).lookup ("rooms":Str)=some (V.ref d):=by
 unfold sfl;rw [Ap,if_pos rfl]
abbrev Ly:=List (Str×Int)
def lyK(ls:Ly):List (Key×V):=ls.map fun x=>(Sum.inr x.1,.int x.2)
def lyN(ls:Ly):List Str:=ls.map (·.1)
def lyS(ls:Ly):Int:=(ls.map (·.2)).sum
structure B4(S:Addr)(H:Hp)(q p d:Addr)(n:Int)(ls:Ly):Prop where
 o:∃dx,H q=some (.ins S dx (sfl p d n))
 d:H d=some (.dK (lyK ls))
 nd:(lyN ls).Nodup
theorem B4.same{S:Addr}{H H':Hp}{q p d:Addr}{n:Int}{ls:Ly}(s:A7 H H')(h:B4 S H q p d n ls):B4 S H' q p d n ls:=
 ⟨h.o.imp fun _ e=>s _ _ e,s _ _ h.d,h.nd⟩
structure C6(K:PySem.W.Frag)(C:Addr)(H:Hp)(p:Addr)(ts:List Th)(d:Addr):Prop where
 ex:∃(dx e:Addr) (kvs:List (Key×V)),e≠d∧H p=some (.ins C dx (flds e))∧H e=some (.dK kvs)∧kvs.map (·.1)=ts.map (fun t=>Sum.inr t.1)∧
  ∀(i:Nat) (t:Th),ts[i]?=some t→∃a,kvs[i]?=some (Sum.inr t.1,.ref a)∧SqT K H a [.int i,.int t.2.1,.int t.2.2]
section
variable {K:PySem.W.Frag} {C S:Addr} {H H':Hp} {p q d:Addr} {ts:List Th} {n:Int} {ls:Ly} {z:Str}
theorem C6.at(h:C6 K C H p ts d):Aa K C H p ts:=by
 obtain ⟨dx,e,kvs,_,r⟩:=h.ex;exact ⟨dx,e,kvs,r⟩
theorem C6.of(h:Aa K C H p ts)(hd:H d=none):C6 K C H p ts d:=by
 obtain ⟨dx,e,kvs,h1,h2,r⟩:=h.ex;exact ⟨dx,e,kvs,A8 h2 hd,h1,h2,r⟩
theorem C6.same(s:A7 H H')(h:C6 K C H p ts d):C6 K C H' p ts d:=by
 obtain ⟨dx,e,kvs,n,h1,h2,h3,h4⟩:=h.ex;refine ⟨dx,e,kvs,n,s _ _ h1,s _ _ h2,h3,fun i t q=>?_⟩;obtain ⟨a,e1,e2⟩:=h4 i t q;exact ⟨a,e1,s.tup e2⟩
theorem SqT.butD{a:Addr}{xs:List V}{kvs:List (Key×V)}(s:SameBut d H H')(hd:H d=some (.dK kvs))(h:SqT K H a xs):SqT K H' a xs:=by
 rcases h with (h | ⟨o,h⟩) | h
 · exact .inl (.inl (s _ _ h (Az h hd (by intro z;cases z))))
 · exact .inl (.inr ⟨o,s _ _ h (Az h hd (by intro z;cases z))⟩)
 · exact .inr h
theorem SqL.butD{a:Addr}{xs:List V}{kvs:List (Key×V)}(s:SameBut d H H')(hd:H d=some (.dK kvs))(h:SqL K H a xs):SqL K H' a xs:=by
 rcases h with (h | ⟨o,h⟩) | h
 · exact .inl (.inl (s _ _ h (Az h hd (by intro z;cases z))))
 · exact .inl (.inr ⟨o,s _ _ h (Az h hd (by intro z;cases z))⟩)
 · exact .inr h
theorem C6.butD{kvs':List (Key×V)}(s:SameBut d H H')(hd:H d=some (.dK kvs'))(h:C6 K C H p ts d):C6 K C H' p ts d:=by
 obtain ⟨dx,e,kvs,n,h1,h2,h3,h4⟩:=h.ex;refine ⟨dx,e,kvs,n,s _ _ h1 (Az h1 hd (by intro z;cases z)),s _ _ h2 n,h3,fun i t q=>?_⟩;obtain ⟨a,e1,e2⟩:=h4 i t q;exact ⟨a,e1,SqT.butD s hd e2⟩
theorem C6.butL{l:Addr}{zs:List V}(s:SameBut l H H')(hl:H l=some (.lst zs))(h:C6 K C H p ts d):C6 K C H' p ts d:=by
 obtain ⟨dx,e,kvs,n,h1,h2,h3,h4⟩:=h.ex;refine ⟨dx,e,kvs,n,s _ _ h1 (Az h1 hl (by intro z;cases z)),s _ _ h2 (Az h2 hl (by intro z;cases z)),h3,fun i t q=>?_⟩;obtain ⟨a,e1,e2⟩:=h4 i t q;exact ⟨a,e1,SqT.butL s hl e2⟩
theorem B4.butL{l:Addr}{zs:List V}(s:SameBut l H H')(hl:H l=some (.lst zs))(h:B4 S H q p d n ls):B4 S H' q p d n ls:=
 ⟨h.o.imp fun _ e=>s _ _ e (Az e hl (by intro z;cases z)),s _ _ h.d (Az h.d hl (by intro z;cases z)),h.nd⟩
theorem J7q:(lyK ls).map (·.1)=(lyN ls).map Sum.inr:=by unfold lyK lyN;rw [FR,FR];rfl
theorem J1i:((lyK ls).map fun x=>kV x.1)=(lyN ls).map V.str:=by unfold lyK lyN;rw [FR,FR];rfl
theorem J51:(lyK ls).map (·.2)=(ls.map (·.2)).map V.int:=by unfold lyK;rw [FR,FR];rfl
theorem Si:(B9 (lyK ls) (Sum.inr z)).isSome=decide (z∈lyN ls):=Lm J7q
theorem J7r{r:Int}(h:¬z∈lyN ls):Cd (lyK ls) (Sum.inr z) (.int r)=lyK (ls++[(z,r)]):=by
 have hv:B9 (lyK ls) (Sum.inr z:Key)=none:=by
  have:=Si (ls:=ls) (z:=z);rw [Fz h]at this
  cases hv:B9 (lyK ls) (Sum.inr z:Key) with
  | none=>rfl
  | some v=>rw [hv]at this;cases this
 rw [Lh _ hv];unfold lyK;rw [Fw];rfl
def lyD(ls:Ly)(z:Str):Ly:=ls.filter fun x=>decide (x.1≠z)
theorem J52:Bj (lyK ls) (Sum.inr z)=lyK (lyD ls z):=by
 unfold Bj lyK lyD;rw [Ju];congr 1;refine RW fun x _=>?_;show decide ((Sum.inr x.1:Key)≠Sum.inr z)=decide (x.1≠z);exact decide_eq_decide.mpr ⟨fun h e=>h (by rw [e]),fun h e=>h (by injection e)⟩
theorem Ki(nd:(lyN ls).Nodup):lyN (lyD ls z)=(lyN ls).erase z:=by
 unfold lyN lyD at *;rw [Ja nd,Ju];congr 1;refine RW fun x _=>?_
 by_cases h:x.1=z
 · simp [h]
 · simp [h]
end
theorem B4.put{S:Addr}{H H1:Hp}{q p d:Addr}{n:Int}{ls:Ly}{z:Str}{r:Int}(h:B4 S H q p d n ls)(s:A7 H H1)(hz:¬z∈lyN ls):B4 S (upd H1 d (.dK (Cd (lyK ls) (Sum.inr z) (.int r)))) q p d n (ls++[(z,r)]):=by
 obtain ⟨dx,ho⟩:=h.o;have h1:=s _ _ ho;have h2:=s _ _ h.d;refine ⟨⟨dx,by rw [A2 (Az h1 h2 (by intro z;cases z))];exact h1⟩,by rw [A3,J7r hz],?_⟩
 have e:lyN (ls++[(z,r)])=lyN ls++[z]:=by unfold lyN;rw [Fw];rfl
 rw [e,Hq];exact ⟨h.nd,by simp,fun a ha b hb e=>hz (by rw [Fj.mp hb]at e;rw [← e];exact ha)⟩
theorem B4.cast{S:Addr}{H:Hp}{q p d:Addr}{n:Int}{ls:Ly}{z:Str}(h:B4 S H q p d n ls):B4 S (upd H d (.dK (Bj (lyK ls) (Sum.inr z)))) q p d n (lyD ls z):=by
 obtain ⟨dx,ho⟩:=h.o;refine ⟨⟨dx,by rw [A2 (Az ho h.d (by intro z;cases z))];exact ho⟩,by rw [A3,J52],?_⟩;rw [Ki h.nd];exact h.nd.erase z
def Iw(S:Addr):Sp:=fun vs H Q _=>∃(q dx p:Addr) (n:Int),vs=[.ref q,.ref p,.int n]∧H q=some (.ins S dx [])∧1≤n∧n≤1000000∧∀H' d,SameBut q H H'→H d=none→B4 S H' q p d n []→Q .non H'
def Iy(S:Addr):Sp:=fun vs H Q _=>∃(q p d:Addr) (n:Int) (ls:Ly),vs=[.ref q]∧B4 S H q p d n ls∧∀l,H l=none→Q (.ref l) (upd H l (.lst ((lyN ls).map V.str)))
def Dn(S:Addr):Sp:=fun vs H Q _=>∃(q p d:Addr) (n:Int) (ls:Ly) (z:Str),vs=[.ref q,.str z]∧B4 S H q p d n ls∧Q (.bl (decide (z∈lyN ls))) H
def Kj(S:Addr):Sp:=fun vs H Q _=>∃(q p d:Addr) (n:Int) (ls:Ly),vs=[.ref q]∧B4 S H q p d n ls∧∀H',A7 H H'→Q (.int (n - lyS ls)) H'
end N6
namespace N6
open L2 N1 N5 N4
theorem V5{z:Str}{ys:List Str}:inV (.str z) (ys.map V.str)=decide (z∈ys):=by
 unfold inV
 induction ys with
 | nil=>rfl
 | cons y ys ih=>
  rw [List.map_cons,J2,ih,S1]
  by_cases h:y=z
  · subst h;simp
  · have h':¬z=y:=fun e=>h e.symm
    simp [h,h']
theorem J9o{K:PySem.W.Frag}{H:Hp}{p:Addr}{z:Str}{ys:List Str}{Q:VK}(h:SqL K H p (ys.map V.str))(q:Q (.bl (decide (z∈ys))) H):rIn K false (.str z) (.ref p) H Q:=by
 refine ⟨p,_,rfl,.inl h,rfl,Im,?_⟩;rw [if_neg (by decide),V5];exact q
theorem J53{K:PySem.W.Frag}{H:Hp}{p:Addr}{z:Str}{ys:List Str}{Q:VK}(h:SqL K H p (ys.map V.str))(q:Q (.bl (!decide (z∈ys))) H):rIn K true (.str z) (.ref p) H Q:=by
 refine ⟨p,_,rfl,.inl h,rfl,Im,?_⟩;rw [if_pos rfl,V5];exact q
theorem Do{rs:List Int}{i:Nat}(h:i < rs.length):rs[i]?=some (rs.getD i 0):=by
 rw [Fc,Fb h];rfl
end N6
namespace N08
open PySem PySem.Builtin PySem.Builtin.Str PySem.StrLaws
section
variable (x y:Str)
def greedy:List Nat→Nat→List Nat
 | [],_=>[]
 | i::l,free=>if free≤i∧i+y.length≤x.length∧subAt x y i=true then i::greedy l (i+y.length) else greedy l free
theorem L6(limit:Nat):∀(l:List Nat) (arr:Array Nat) (free:Nat),arr.size+l.length≤limit→
 (forIn l (arr,free) (occBody x y x.length limit)).run.fst.toList=arr.toList++greedy x y l free
 | [],arr,free,_=>by simp [greedy]
 | i::l,arr,free,h=>by
  rw [List.forIn_cons];unfold occBody;rw [List.length_cons]at h
  by_cases hc:free≤i∧i+y.length≤x.length∧subAt x y i=true
  · rw [if_pos (show (((arr,free).fst.size < limit∧(arr,free).snd≤i)∧i+y.length≤x.length)∧subAt x y i=true from ⟨⟨⟨by show arr.size < limit;omega,hc.1⟩,hc.2.1⟩,hc.2.2⟩)]
    refine (L6 limit l (arr.push i) (i+y.length) (by rw [Array.size_push];omega)).trans ?_;simp only [greedy];rw [if_pos hc];simp
  · rw [if_neg (show ¬((((arr,free).fst.size < limit∧(arr,free).snd≤i)∧i+y.length≤x.length)∧subAt x y i=true) from fun z=>hc ⟨z.1.1.2,z.1.2,z.2⟩)]
    refine (L6 limit l arr free (by omega)).trans ?_;simp only [greedy];rw [if_neg hc]
theorem Ep:∀(pre l:List Nat) (free:Nat),(∀i∈pre,¬(free≤i∧i+y.length≤x.length∧subAt x y i=true))→greedy x y (pre++l) free=greedy x y l free
 | [],l,free,_=>rfl
 | i::pre,l,free,h=>by
  show greedy x y (i::(pre++l)) free=_;simp only [greedy];rw [if_neg (h i FA)];exact Ep pre l free fun j hj=>h j (Fn _ hj)
def cuts(a:Nat):List Nat:=greedy x y (List.range' a (x.length+1 - a)) a
theorem Qd{a:Nat}(h:∀i,a≤i→¬At x y x.length i):cuts x y a=[]:=by
 unfold cuts;have:=Ep x y (List.range' a (x.length+1 - a)) [] a fun i hi z=>h i z.1 ⟨z.2.1,z.2.2⟩;rw [FT]at this;rw [this];rfl
theorem J1j{a c:Nat}(hac:a≤c)(hy:1≤y.length)(hc:At x y x.length c)(h:∀i,a≤i→i < c→¬At x y x.length i):cuts x y a=c::cuts x y (c+y.length):=by
 have hcl:=hc.1;unfold cuts
 have e1:List.range' a (x.length+1 - a)=List.range' a (c - a)++List.range' c (x.length+1 - c):=by
  have:=List.range'_append_1 (s:=a) (m:=c - a) (n:=x.length+1 - c);rw [show a+(c - a)=c by omega]at this;rw [this];congr 1;omega
 have e2:List.range' c (x.length+1 - c)=c::List.range' (c+1) (x.length - c):=by
  rw [show x.length+1 - c=(x.length - c)+1 by omega,JW]
 have e3:List.range' (c+1) (x.length - c)=List.range' (c+1) (y.length - 1)++List.range' (c+y.length) (x.length+1 - (c+y.length)):=by
  have:=List.range'_append_1 (s:=c+1) (m:=y.length - 1) (n:=x.length+1 - (c+y.length));rw [show c+1+(y.length - 1)=c+y.length by omega]at this;rw [this];congr 1;omega
 rw [e1,Ep x y _ _ _ fun i hi z=>?_,e2]
 · simp only [greedy]
   rw [if_pos ⟨hac,hcl,hc.2⟩,e3,Ep x y _ _ _ fun i hi z=>?_];rw [Rv]at hi;omega
 · rw [Rv]at hi
   exact h i hi.1 (by omega) ⟨z.2.1,z.2.2⟩
theorem J54:occurrences x y 0 x.length (x.length+1)=cuts x y 0:=by
 rw [occ_eq,L6 x y (x.length+1) _ #[] 0 (by simp)];unfold cuts;simp
theorem Wj(hk:(decide (strKind x < strKind y))=false):Txt.split x y=partsFrom x y.length 0 (cuts x y 0):=by
 unfold Txt.split;rw [J54,hk,Bool.or_false]
 by_cases h:x.length < y.length
 · rw [if_pos (by simpa using h),Qd x y fun i _ z=>by have:=z.1;omega]
   show [x]=[strSub x 0 x.length];rw [sub_whole]
 · rw [if_neg (by simpa using h),partsBetween_eq]
   split
   · rename_i h2
     rw [List.isEmpty_iff.mp h2];show [x]=[strSub x 0 x.length];rw [sub_whole]
   · rfl
theorem J55{a:Nat}:(strSub x a x.length).cps.toList=x.cps.toList.drop a:=by
 rw [strSub_toList,FQ];rw [Hw];simp [Str.length]
end
theorem Sj{x y:Str}(h:x.cps.toList=y.cps.toList):x=y:=by
 cases x;cases y
 simpa using h
open PySem.NumText
theorem J1k:∀c:Nat,c < 58→(Char.ofNat c).toNat=c:=by decide
theorem shown{l:List Nat}(h:AllDigits l)(hne:l≠[])(hh:l=[48]∨∃c r,l=c::r∧49≤c):Str.ofString (toString ((digitsVal l:Nat):Int))=⟨l.toArray⟩:=by
 have e:Nat.toDigits 10 (digitsVal l)=l.map Char.ofNat:=by
  cases hl:l.length with
  | zero=>exact absurd (Ha.mp hl) hne
  | succ n=>
   refine toDigits_digitsVal n l hl h ?_;rcases hh with e | h2
   · subst e
     simp at hl;exact .inl hl
   · exact .inr h2
 have e2:toString ((digitsVal l:Nat):Int)=String.ofList (l.map Char.ofNat):=by
  show Nat.repr (digitsVal l)=_;unfold Nat.repr;rw [e]
 rw [e2];rw [Str.ofString_eq_toList];rw [String.toList_ofList,FR];congr 1;congr 1
 conv=>rhs;rw [← List.map_id l]
 exact RE fun c hc=>J1k c (by have:=h c hc;omega)
end N08
namespace L2
open N1 N5
theorem J56{x:V}(h:C0 x=true):eqV x x=true:=by
 cases x with
 | non=>rfl
 | bl b=>cases b <;> rfl
 | int i=>exact Jk i
 | str z=>rw [S1];simp
 | _=>cases h
theorem Nf:∀{xs:List V},xs.all C0=true→E9 xs xs=true
 | [],_=>rfl
 | x::xs,h=>by
  rw [JL,FV]at h;show (eqV x x && E9 xs xs)=true;rw [J56 h.1,Nf h.2];rfl
end L2
namespace N8
open L2 N1 N5 N08
inductive Pc where
 | line | num | ok (t:Th)
def Jb7(z:Str):Pc:=match Txt.split z (Str.ofString " ") with
 | [a,b,c]=>if S4 b.cps.toList=true then (if S4 c.cps.toList=true then .ok (a,S5 b.cps.toList,S5 c.cps.toList) else .num) else .num
 | _=> .line
def B8(t:Th):Str:=t.1++Str.ofString " "++(Str.ofString (toString t.2.1)++Str.ofString " "++Str.ofString (toString t.2.2))
end N8
namespace N8
open L2 N1 N5 N08
def Ng(t:Th):Prop:=Bz t.1.cps.toList=true∧0≤t.2.1∧t.2.1≤10 ^ 30∧1≤t.2.2∧t.2.2≤1000
end N8
namespace N8
open L2 N1 N5 N08
open PySem.Builtin.Str (strSub strKind)
theorem J57{z a b c:Str}(h:Txt.split z (Str.ofString " ")=[a,b,c]):Jb7 z=if S4 b.cps.toList=true then (if S4 c.cps.toList=true then .ok (a,S5 b.cps.toList,S5 c.cps.toList) else .num) else .num:=by
 unfold Jb7;rw [h]
end N8
namespace N8
open L2 N1 N5 N08
theorem Sk{n:Int}(h0:0≤n)(h1:n < 10 ^ 40):(Str.ofString (toString n)).length≤40:=by
 obtain ⟨m,rfl⟩:=Int.eq_ofNat_of_zero_le h0;rw [Str.ofString_eq_toList];show ((Nat.repr m).toList.map Char.toNat).toArray.size≤40;rw [Fl,Fa,String.length_toList];exact (Nat.length_repr_le_iff (by decide)).mpr (by exact_mod_cast h1)
theorem J7s{n:Int}(h0:0≤n)(h1:n < 10 ^ 40):n.natAbs.log2 < 1920:=by
 by_cases hz:n.natAbs=0
 · rw [hz];decide
 · have h:n.natAbs < 2 ^ 1920:=by
    have:n.natAbs < 10 ^ 40:=by omega
    exact RU this (by decide+kernel)
   exact (Nat.log2_lt hz).mpr h
theorem Mv{t:Th}(g:Ng t):(B8 t).length≤100:=by
 obtain ⟨g1,g2,g3,g4,g5⟩:=g;have h1:=Ue g1;have h2:=Sk g2 (by omega);have h3:=Sk (n:=t.2.2) (by omega) (by omega);have h4:=J0t;unfold B8;rw [D6,D6,D6,D6,h4];omega
end N8
namespace N12
open L2 N1 N5 N4 N6
theorem Jb8{n k:Nat}(h:k < n):ixN n (k:Int)=some k:=by
 unfold ixN;rw [if_pos (by omega),if_pos (by omega)];simp
end N12
namespace N6
open L2 N1 N5 N4
def Lv(K:PySem.W.Frag)(C S:Addr):Sp:=fun vs H Q _=>∃(q p d:Addr) (n:Int) (ls:Ly) (ts:List Th) (z:Str) (r:Int),vs=[.ref q,.str z]∧B4 S H q p d n ls∧C6 K C H p ts d∧(ts.map (·.1)).Nodup∧ls.length≤1000∧
 z∈ts.map (·.1)∧(∀t∈ts,t.1=z→t.2.2=r)∧¬z∈lyN ls∧r≤n - lyS ls∧∀H',SameBut d H H'→B4 S H' q p d n (ls++[(z,r)])→Q .non H'
def Iz(S:Addr):Sp:=fun vs H Q _=>∃(q p d:Addr) (n:Int) (ls:Ly) (z:Str),vs=[.ref q,.str z]∧B4 S H q p d n ls∧z∈lyN ls∧∀H',SameBut d H H'→B4 S H' q p d n (lyD ls z)→Q .non H'
end N6
namespace L2
theorem Yt{σ:St}{H:Hp}{D:Ib}{i:Nat}{te:TE}{ti:TIp}:Ja1 i te ti D σ H=∃x,σ[i]?=some (some x)∧te σ H fun y H1=>ti x y H1 fun z H2=>D.nx (σ.set i (some z)) H2:=rfl
end L2
namespace N14
open L2 N1 N5 N4 N6 N12 N32
abbrev Row:=Str×Bool×List Str
def Ic(ls:Ly)(gone:List Str):Ly:=gone.foldl lyD ls
def okG(z:Str):Ly→List Str→Prop
 | _,[]=>True
 | ls,o::r=>o≠z∧o∈lyN ls∧okG z (lyD ls o) r
def Yu(R:Str→Int)(n:Int)(ls:Ly)(z:Str)(row:Row):Prop:=row.1=z∧row.2.1=decide (z∈lyN ls)∧okG z ls row.2.2∧(z∉lyN ls→R z≤n - lyS (Ic ls row.2.2))
def Dw(R:Str→Int)(ls:Ly)(z:Str)(gone:List Str):Ly:=if z∈lyN ls then Ic ls gone else Ic ls gone++[(z,R z)]
def Oy(R:Str→Int):Ly→List (Str×List Str)→Ly
 | ls,[]=>ls
 | ls,(z,g)::r=>Oy R (Dw R ls z g) r
structure Oz(K:PySem.W.Frag)(H:Hp)(b:Addr)(as gs:List Addr)(rs:List Row):Prop where
 l:SqL K H b (as.map V.ref)
 n:as.length=rs.length
 m:gs.length=rs.length
 t:∀(i:Nat) (a g:Addr) (r:Row),as[i]?=some a→gs[i]?=some g→rs[i]?=some r→SqT K H a [.str r.1,.bl r.2.1,.ref g]∧SqL K H g (r.2.2.map V.str)
theorem Oz.same{K:PySem.W.Frag}{H H':Hp}{b:Addr}{as gs:List Addr}{rs:List Row}(s:A7 H H')(h:Oz K H b as gs rs):Oz K H' b as gs rs:=
 ⟨s.seq h.l,h.n,h.m,fun i a g r e1 e2 e3=>⟨s.tup (h.t i a g r e1 e2 e3).1,s.seq (h.t i a g r e1 e2 e3).2⟩⟩
theorem J58{z:Str}:∀{ls:Ly} {gone:List Str} {i:Nat} {o:Str},okG z ls gone→gone[i]?=some o→o≠z∧o∈lyN (Ic ls (gone.take i)):=by
 intro ls gone
 induction gone generalizing ls with
 | nil=>intro i o _ h;simp at h
 | cons x r ih=>
  intro i o h e;obtain ⟨h1,h2,h3⟩:=h
  cases i with
  | zero=>cases e;exact ⟨h1,h2⟩
  | succ i=>exact ih h3 e
theorem J1l{ls:Ly}{gone:List Str}{i:Nat}{o:Str}(h:gone[i]?=some o):Ic ls (gone.take (i+1))=lyD (Ic ls (gone.take i)) o:=by
 unfold Ic;rw [Hg,h,JS];rfl
def Gn(K:PySem.W.Frag)(S:Addr):Sp:=fun vs H Q _=>∃(q p d g:Addr) (n:Int) (ls:Ly) (z:Str) (gone:List Str),vs=[.ref q,.str z,.ref g]∧B4 S H q p d n ls∧SqL K H g (gone.map V.str)∧okG z ls gone∧
 ∀H',SameBut d H H'→B4 S H' q p d n (Ic ls gone)→Q (.bl true) H'
def Er(K:PySem.W.Frag)(C S:Addr):Sp:=fun vs H Q _=>∃(q p d r g:Addr) (n:Int) (ls:Ly) (ts:List Th) (z:Str) (row:Row),vs=[.ref q,.str z,.ref r]∧B4 S H q p d n ls∧C6 K C H p ts d∧(ts.map (·.1)).Nodup∧z∈ts.map (·.1)∧ls.length≤500∧SqT K H r [.str row.1,.bl row.2.1,.ref g]∧SqL K H g (row.2.2.map V.str)∧Yu (rm ts) n ls z row∧
 ∀H',SameBut d H H'→B4 S H' q p d n (Dw (rm ts) ls z row.2.2)→Q (.bl true) H'
theorem Jcv{ts:List Th}{z:Str}{r:Int}(nd:(ts.map (·.1)).Nodup)(hz:z∈ts.map (·.1))(h:∀t∈ts,t.1=z→t.2.2=r):rm ts z=r:=by
 obtain ⟨i,t,ht,rfl⟩:=Kd hz;rw [Oi nd ht,h t (Fk ht) rfl]
theorem Jb9(ls:Ly)(z:Str):(lyD ls z).length≤ls.length:=R9 _ _
theorem Yv(ls:Ly)(g:List Str):(Ic ls g).length≤ls.length:=by
 unfold Ic
 induction g generalizing ls with
 | nil=>exact Fh _
 | cons x r ih=>exact FC (ih _) (Jb9 _ _)
theorem Yw{ls:Ly}{z u:Str}:u∈lyN (lyD ls z)↔u∈lyN ls∧u≠z:=by
 unfold lyN lyD;simp only [FH,HJ,decide_eq_true_eq];constructor
 · rintro ⟨x,⟨h1,h2⟩,rfl⟩;exact ⟨⟨x,h1,rfl⟩,h2⟩
 · rintro ⟨⟨x,h1,rfl⟩,h2⟩;exact ⟨x,⟨h1,h2⟩,rfl⟩
theorem V6{ls:Ly}{g:List Str}{u:Str}:u∈lyN (Ic ls g)↔u∈lyN ls∧u∉g:=by
 unfold Ic
 induction g generalizing ls with
 | nil=>simp
 | cons x r ih=>
  rw [List.foldl_cons,ih,Yw,Fy,and_assoc];constructor
  · rintro ⟨h1,h2,h3⟩;exact ⟨h1,fun h=>h.elim h2 h3⟩
  · rintro ⟨h1,h2⟩;exact ⟨h1,fun h=>h2 (.inl h),fun h=>h2 (.inr h)⟩
theorem P0{R:Str→Int}:∀(xs:List (Str×List Str)) (ls:Ly) (z:Str) (g:List Str),Oy R ls (xs++[(z,g)])=Dw R (Oy R ls xs) z g
 | [],_,_,_=>rfl
 | (_,_)::r,_,_,_=>P0 r _ _ _
def J7t(ys:List Str)(rs:List Row):List (Str×List Str):=ys.zip (rs.map (·.2.2))
def stL(R:Str→Int)(ys:List Str)(rs:List Row)(i:Nat):Ly:=Oy R [] ((J7t ys rs).take i)
theorem J7u{ys:List Str}{rs:List Row}{i:Nat}{z:Str}{r:Row}(h1:ys[i]?=some z)(h2:rs[i]?=some r):(J7t ys rs)[i]?=some (z,r.2.2):=by
 unfold J7t;rw [Jc];exact ⟨h1,by rw [Fg,h2];rfl⟩
theorem V7{R:Str→Int}{ys:List Str}{rs:List Row}{i:Nat}{z:Str}{r:Row}(h1:ys[i]?=some z)(h2:rs[i]?=some r):stL R ys rs (i+1)=Dw R (stL R ys rs i) z r.2.2:=by
 unfold stL;rw [Hg,J7u h1 h2];exact P0 _ _ _ _
theorem J59(R:Str→Int)(ls:Ly)(z:Str)(g:List Str):(Dw R ls z g).length≤ls.length+1:=by
 have h:=Yv ls g;unfold Dw;split
 · omega
 · rw [Fu];simpa using h
theorem V8(R:Str→Int):∀(xs:List (Str×List Str)) (ls:Ly),(Oy R ls xs).length≤ls.length+xs.length
 | [],ls=>by simp [Oy]
 | (z,g)::r,ls=>by
  have h:=V8 R r (Dw R ls z g);have h':=J59 R ls z g;simp only [Oy,List.length_cons];omega
theorem Jba(R:Str→Int)(ys:List Str)(rs:List Row)(i:Nat):(stL R ys rs i).length≤i:=by
 have h:=V8 R ((J7t ys rs).take i) [];rw [FX]at h;unfold stL;simp only [List.length_nil]at h;omega
structure J5a(R:Str→Int)(n:Int)(ys:List Str)(rs:List Row):Prop where
 len:ys.length=rs.length
 row:∀{i:Nat} {z:Str} {r:Row},ys[i]?=some z→rs[i]?=some r→Yu R n (stL R ys rs i) z r
structure Sl(H H':Hp)(l:Addr)(qs:List Addr)(W:Nat→Ly)(n:Nat):Prop where
 L:H' l=some (.lst (qs.map V.ref))
 N:qs.length=n
 d:(l::qs).Nodup
 q:∀(j:Nat) (q:Addr),qs[j]?=some q→H q=none∧H' q=some (.lst ((lyN (W (j+1))).map V.str))
def Gp(K:PySem.W.Frag)(C:Addr):Sp:=fun vs H Q _=>∃(p a b:Addr) (n:Int) (ts:List Th) (ys:List Str) (as gs:List Addr) (rs:List Row),vs=[.ref p,.ref a,.int n,.ref b]∧Aa K C H p ts∧(ts.map (·.1)).Nodup∧SqL K H a (ys.map V.str)∧ys.length≤200∧(∀y∈ys,y∈ts.map (·.1))∧(∀y∈ys,rm ts y≤n)∧1≤n∧n≤1000000∧
 Oz K H b as gs rs∧J5a (rm ts) n ys rs∧∀l qs H',H l=none→A7 H H'→Sl H H' l qs (stL (rm ts) ys rs) ys.length→Q (.ref l) H'
theorem Sl.same{H H' H1:Hp}{l:Addr}{qs:List Addr}{W:Nat→Ly}{n:Nat}(h:Sl H H' l qs W n)(s:A7 H' H1):Sl H H1 l qs W n:=⟨s _ _ h.L,h.N,h.d,fun j q hj=>⟨(h.q j q hj).1,s _ _ (h.q j q hj).2⟩⟩
theorem Sl.step{H H' H1:Hp}{l d x:Addr}{qs:List Addr}{W:Nat→Ly}{n:Nat}{kvs:List (Key×V)}(h:Sl H H' l qs W n)(hs:A7 H H')(hd:H' d=some (.dK kvs))(sb:SameBut d H' H1)(hH:A7 H H1)(hx:H1 x=none):Sl H (upd (upd H1 x (.lst ((lyN (W (n+1))).map V.str))) l (.lst ((qs++[x]).map V.ref))) l (qs++[x]) W (n+1):=by
 have hld:l≠d:=fun e=>by have:=h.L;rw [e,hd]at this;cases this
 have hl1:=sb _ _ h.L hld
 have hlx:l≠x:=fun e=>by rw [e,hx]at hl1;cases hl1
 have hqx:∀q∈qs,q≠x∧q≠l∧H1 q=H' q:=fun q hq=>by
  obtain ⟨j,hj⟩:=JD hq;have h2:=(h.q j q hj).2
  have hqd:q≠d:=fun e=>by rw [e,hd]at h2;cases h2
  have h3:=sb _ _ h2 hqd;refine ⟨fun e=>(by rw [e,hx]at h3;cases h3),fun e=>(Hj.mp h.d).1 (e▸hq),by rw [h3,h2]⟩
 refine ⟨A3,by rw [Fu,h.N];rfl,?_,?_⟩
 · rw [← List.cons_append,Hq]
   refine ⟨h.d,Hj.mpr ⟨by simp,HQ⟩,fun y hy u hu=>?_⟩;rw [Fj]at hu;rw [hu];rcases Fy.mp hy with e | e
   · rw [e];exact hlx
   · exact (hqx y e).1
 · intro j q hj
   rcases Nat.lt_or_ge j qs.length with h1 | h1
   · rw [FJ h1]at hj
     obtain ⟨n1,n2,n3⟩:=hqx q (Fk hj);rw [A2 n2,A2 n1,n3];exact h.q j q hj
   · rw [FL h1]at hj
     have e:j - qs.length=0:=by
      rcases Nat.eq_zero_or_pos (j - qs.length) with e | e
      · exact e
      · rw [FN (by simp;omega)]at hj;cases hj
     rw [e]at hj;cases hj
     have ej:j=n:=by have:=h.N;omega
     subst ej;refine ⟨?_,by rw [A2 hlx.symm];exact A3⟩
     cases e2:H x with
     | none=>rfl
     | some o=>rw [hH _ _ e2]at hx;cases hx
theorem V9{H H':Hp}{x dx:Addr}{o1 o2:HO}(h1:H x=none)(h2:H dx=none)(sb:SameBut x (upd (upd H dx o1) x o2) H'):A7 H H':=fun b o e=>by
 have n1:b≠x:=fun h=>by rw [h,h1]at e;cases e
 have n2:b≠dx:=fun h=>by rw [h,h2]at e;cases e
 exact sb _ _ (by rw [A2 n1,A2 n2];exact e) n1
theorem Va{H:Hp}{x dx d:Addr}{o1 o2:HO}(h:upd (upd H dx o1) x o2 d=none):H d=none:=by
 by_cases e1:d=x
 · rw [e1,A3]at h;cases h
 rw [A2 e1]at h
 by_cases e2:d=dx
 · rw [e2,A3]at h;cases h
 rw [A2 e2]at h;exact h
theorem Bd{H H':Hp}{d:Addr}(s:A7 H H')(h:H' d=none):H d=none:=by
 cases e:H d with
 | none=>rfl
 | some o=>rw [s _ _ e]at h;cases h
theorem P1{H H' H1:Hp}{d:Addr}(s:A7 H H')(hd:H d=none)(sb:SameBut d H' H1):A7 H H1:=fun b o e=>sb _ _ (s _ _ e) fun h=>by rw [h,hd]at e;cases e
theorem Yx{H H':Hp}{l:Addr}{o:HO}(s:A7 H H')(hl:H l=none):A7 H (upd H' l o):=fun b u e=>by
 rw [A2 (fun h=>by rw [h,hl]at e;cases e)];exact s _ _ e
structure OkL(R:Str→Int)(ns:List Str)(ls:Ly):Prop where
 nd:(lyN ls).Nodup
 r:∀x∈ls,x.2=R x.1
 s:∀u∈lyN ls,u∈ns
theorem OkL.nil{R:Str→Int}{ns:List Str}:OkL R ns []:=⟨HQ,by simp,by simp [lyN]⟩
theorem OkL.drop{R:Str→Int}{ns:List Str}{ls:Ly}{z:Str}(h:OkL R ns ls):OkL R ns (lyD ls z):=
 ⟨by rw [Ki h.nd];exact h.nd.erase _,fun x hx=>h.r x (HJ.mp hx).1,fun u hu=>h.s u (Yw.mp hu).1⟩
theorem OkL.drops{R:Str→Int}{ns:List Str}{ls:Ly}{g:List Str}(h:OkL R ns ls):OkL R ns (Ic ls g):=by
 unfold Ic
 induction g generalizing ls with
 | nil=>exact h
 | cons x r ih=>exact ih h.drop
theorem OkL.put{R:Str→Int}{ns:List Str}{ls:Ly}{z:Str}(h:OkL R ns ls)(hz:z∉lyN ls)(hn:z∈ns):OkL R ns (ls++[(z,R z)]):=by
 have e:lyN (ls++[(z,R z)])=lyN ls++[z]:=by unfold lyN;rw [Fw];rfl
 refine ⟨?_,?_,?_⟩
 · rw [e,Hq]
   refine ⟨h.nd,by simp,fun y hy u hu=>?_⟩;rw [Fj]at hu;rw [hu];exact fun e=>hz (e▸hy)
 · intro x hx
   rcases FI.mp hx with h1 | h1
   · exact h.r x h1
   · rw [Fj.mp h1]
 · intro u hu
   rw [e]at hu;rcases FI.mp hu with h1 | h1
   · exact h.s u h1
   · rw [Fj.mp h1];exact hn
theorem OkL.step{R:Str→Int}{ns:List Str}{ls:Ly}{z:Str}{g:List Str}(h:OkL R ns ls)(hn:z∈ns):OkL R ns (Dw R ls z g):=by
 unfold Dw;split
 · exact h.drops
 · rename_i hz
   exact h.drops.put (fun hh=>hz (V6.mp hh).1) hn
def Kp(M:List Addr)(H H':Hp):Prop:=∀b o,b∉M→H b=some o→H' b=some o
theorem Kp.trans{M:List Addr}{H H1 H2:Hp}(h1:Kp M H H1)(h2:Kp M H1 H2):Kp M H H2:=fun b o n e=>h2 b o n (h1 b o n e)
theorem Kp.of{M:List Addr}{H H1:Hp}(h:A7 H H1):Kp M H H1:=fun b o _ e=>h b o e
theorem Kp.upd{M:List Addr}{H H1:Hp}{p:Addr}{o:HO}(h:Kp M H H1)(hp:p∈M):Kp M H (upd H1 p o):=fun b u n e=>by
 have hb:b≠p:=fun e2=>n (by rw [e2];exact hp);rw [A2 hb];exact h b u n e
theorem Kp.same{M:List Addr}{H0 H H1:Hp}(s:A7 H0 H)(h:Kp M H H1)(hn:∀p∈M,H0 p=none):A7 H0 H1:=fun b o e=>h b o (fun hb=>by rw [hn b hb]at e;cases e) (s b o e)
theorem Sm{α:Type}{xs:List α}{y z:α}{i:Nat}(h:(xs++[y])[i]?=some z):(i < xs.length∧xs[i]?=some z)∨(i=xs.length∧z=y):=by
 rcases Nat.lt_or_ge i xs.length with h1 | h1
 · rw [FJ h1]at h;exact .inl ⟨h1,h⟩
 · rw [FL h1]at h
   rcases Nat.eq_zero_or_pos (i - xs.length) with e | e
   · rw [e]at h;cases h;exact .inr ⟨by omega,rfl⟩
   · rw [FN (by simp;omega)]at h;cases h
theorem Jbb{R:Str→Int}{ls:Ly}{z:Str}{g:List Str}(h:z∉lyN ls):lyN (Dw R ls z g)=lyN (Ic ls g)++[z]:=by
 unfold Dw;rw [if_neg h];unfold lyN;rw [Fw];rfl
theorem Wl{R:Str→Int}{ls:Ly}{z:Str}{g:List Str}(h:z∈lyN ls):Dw R ls z g=Ic ls g:=by
 unfold Dw;rw [if_pos h]
end N14
namespace L2
structure Jbc(P:Program)(w:World)(K:PySem.W.Frag)(mg:Str→Option Value)(base:Heap)(CX:CXT)(k:Nat)(x:Str)(C:Addr)(ps:List Str)(sp:Sp):Prop where
 ex:∃(f:Addr) (fd:FuncData),Ar P w K mg base CX k f fd ps sp∧Mk K C f∧mg x=some (.ref C)∧Ca K fd ps []∧PySem.W.findCls K (.ref C) (.type "type") "__init__"=some (.val (.ref f))∧PySem.W.keepIn K (.ref f)=true
 sp:PySem.W.specialIn K (.ref C) "__getattribute__"=some (some (.builtin "type.__getattribute__"))
 rd:PySem.W.readsIn K C (.type "type")=true
def J5b(sp:Sp)(EE:St→XK)(t:TA):TE:=fun σ H Q=>t σ H fun vs H1=>sp vs H1 Q (EE σ)
section
variable {X:Cx} {CX:CXT} {k j:Nat} {C:Addr} {ps:List Str} {sp:Sp} {EE:St→XK} {x:Str} {pos apos:Pos} {e o:Expr} {es:List Expr} {t:TA}
theorem J5c{pl:Sem Bool}(D:Jbc X.prog X.w X.K X.mg X.base CX j x C ps sp)(hr:Bt k X.A)(hx:Ka CX X EE)(he:PE X o (tC (.ref C)))(ha:PA X (e::es) t)(hj:j≤k:=by decide)
 (hst:starEach (e::es) X.env=(false,eval e X.env)::starEach es X.env:=by rfl) (hpl:(backTo pos (starEach es X.env)).any (·.1)=false:=by rfl)
 (ht:eval (.Call (.Attribute o "__init__" apos) (e::es) [] pos) X.env=(do
  let ov ← eval o X.env
  standAt apos.atName
  let (f,first) ← holding [ov] (getMethod ov "__init__" pl)
  callWith pos f first (backTo pos (starEach (e::es) X.env)) (backToKw pos (keywordEach [] X.env))):=by rfl):
 PE X (.Call (.Attribute o "__init__" apos) (e::es) [] pos) (J5b sp EE t):=by
 obtain ⟨f,fd,F,M,hm,hb,hc,hk⟩:=D.ex;intro pins s σ H Q I h;refine Jv (pl:=pl) (thn (he pins s σ H (fun v H1=>v= .ref C∧t σ H1 fun vs H2=>sp vs H2 Q (EE σ)) I ⟨rfl,h⟩) fun u s1 hq_=>?_) ht;obtain ⟨x,H1,I1,rx,q⟩:=hq_;obtain ⟨rfl,q⟩:=q;obtain rfl:u=Value.ref C:=rx;refine PySem.W.method_cls I1.kIn D.sp (PySem.W.cls_value I1.kIn D.rd hc rfl ?_);have I2:=I1.tok (s1.toks+1);exact Rn (first:=[]) (h₀:=X.base) I.ok.mod.kin hk (thn (ha pos pins _ σ H1 _ I2 q) fun us s2 ⟨vs,H2,I3,r,q2⟩=>⟨I3.kIn,S3 (us:=us) (vs:=vs) (F.mono hj) hr hb hx I3 r q2⟩) hst hpl
theorem Vb{σ:St}{H:Hp}{Q:VK}:J5b sp EE t σ H Q=t σ H fun vs H1=>sp vs H1 Q (EE σ):=rfl
end
end L2
namespace N20
open L2 N1 N5 N4 N6 N12 N32 N14
end N20
namespace N71
open L2 N1 N5 N4 N6 N12
theorem J5d{f:Str}{v:V}:∀{fs:List (Str×V)},(fs.lookup f).isSome=true→(Av f v fs).length=fs.length:=by
 intro fs
 induction fs with
 | nil=>intro h;cases h
 | cons p r ih=>
  obtain ⟨g,x⟩:=p;intro h
  by_cases e:g=f
  · subst e;simp [Av]
  · have h2:(r.lookup f).isSome=true:=by
     rw [He]at h;rw [show (f==g)=false from beq_false_of_ne (fun z=>e z.symm)]at h;exact h
    have:=ih h2;simp [Av,e,this]
theorem P3(kvs:List (Key×V))(k:Key):B9 (Bj kvs k) k=none:=by
 induction kvs with
 | nil=>rfl
 | cons p r ih=>
  by_cases e:p.1=k
  · have:Bj (p::r) k=Bj r k:=by unfold Bj;rw [HC (by simp [e])]
    rw [this];exact ih
  · have:Bj (p::r) k=p::Bj r k:=by unfold Bj;rw [Hr (by simp [e])]
    rw [this,Bn e];exact ih
theorem P4{kvs:List (Key×V)}{k j:Key}(n:j≠k):B9 (Bj kvs k) j=B9 kvs j:=by
 induction kvs with
 | nil=>rfl
 | cons p r ih=>
  by_cases e:p.1=k
  · have h1:Bj (p::r) k=Bj r k:=by unfold Bj;rw [HC (by simp [e])]
    rw [h1,ih,Bn (fun z=>n (by rw [← z,e]))]
  · have h1:Bj (p::r) k=p::Bj r k:=by unfold Bj;rw [Hr (by simp [e])]
    rw [h1]
    by_cases e2:p.1=j
    · rw [Bw e2,Bw e2]
    · rw [Bn e2,Bn e2];exact ih
theorem Vc(kvs:List (Key×V))(k:Key):(Bj kvs k).length≤kvs.length:=Te kvs k
structure TwA where
 st:Addr
 si:Addr
 ro:Addr
 he:Addr
 la:Addr
 so:Addr
 en:Addr
 fi:Addr
structure Tfs(x:TwA)(pd:Int)(fs:List (Str×V)):Prop where
 st:fs.lookup (Str.ofString "stock")=some (.ref x.st)
 si:fs.lookup (Str.ofString "sizes")=some (.ref x.si)
 ro:fs.lookup (Str.ofString "row")=some (.ref x.ro)
 he:fs.lookup (Str.ofString "held")=some (.ref x.he)
 la:fs.lookup (Str.ofString "late")=some (.ref x.la)
 so:fs.lookup (Str.ofString "store")=some (.ref x.so)
 en:fs.lookup (Str.ofString "entries")=some (.ref x.en)
 fi:fs.lookup (Str.ofString "finds")=some (.ref x.fi)
 pd:fs.lookup (Str.ofString "paid")=some (.int pd)
 n:fs.length < 500
 m:∀m∈[Str.ofString "levels",Str.ofString "stored",Str.ofString "shelf_of",Str.ofString "fetch",Str.ofString "come",Str.ofString "fall_off",Str.ofString "write",Str.ofString "settle",Str.ofString "read",Str.ofString "keep",Str.ofString "rest",Str.ofString "ahead",Str.ofString "diary",Str.ofString "found",Str.ofString "spent"],fs.lookup m=none
theorem Tfs.paid{x:TwA}{pd pd':Int}{fs:List (Str×V)}(h:Tfs x pd fs):Tfs x pd' (Av (Str.ofString "paid") (.int pd') fs):=by
 have k:∀g,g≠Str.ofString "paid"→(Av (Str.ofString "paid") (.int pd') fs).lookup g=fs.lookup g:=fun g n=>by rw [Ap,if_neg n]
 refine ⟨?_,?_,?_,?_,?_,?_,?_,?_,by rw [Ap,if_pos rfl],?_,?_⟩
 · rw [k _ (by decide+kernel)];exact h.st
 · rw [k _ (by decide+kernel)];exact h.si
 · rw [k _ (by decide+kernel)];exact h.ro
 · rw [k _ (by decide+kernel)];exact h.he
 · rw [k _ (by decide+kernel)];exact h.la
 · rw [k _ (by decide+kernel)];exact h.so
 · rw [k _ (by decide+kernel)];exact h.en
 · rw [k _ (by decide+kernel)];exact h.fi
 · rw [J5d (by rw [h.pd];rfl)];exact h.n
 · intro m hm
   have hne:∀m∈[Str.ofString "levels",Str.ofString "stored",Str.ofString "shelf_of",Str.ofString "fetch",Str.ofString "come",Str.ofString "fall_off",Str.ofString "write",Str.ofString "settle",Str.ofString "read",Str.ofString "keep",Str.ofString "rest",Str.ofString "ahead",Str.ofString "diary",Str.ofString "found",Str.ofString "spent"],m≠Str.ofString "paid":=by decide+kernel
   rw [k _ (hne m hm)];exact h.m m hm
structure TwS where
 zs:List Int
 R:List Str
 kh:List (Key×V)
 kl:List (Key×V)
 ks:List (Key×V)
 es:List V
 ff:List Int
 pd:Int
structure Bf(C:Addr)(H:Hp)(t:Addr)(x:TwA)(s:TwS):Prop where
 o:∃dx fs,H t=some (.ins C dx fs)∧Tfs x s.pd fs
 si:H x.si=some (.lst (s.zs.map V.int))
 ro:H x.ro=some (.lst (s.R.map V.str))
 he:H x.he=some (.dK s.kh)
 la:H x.la=some (.dK s.kl)
 so:H x.so=some (.dK s.ks)
 en:H x.en=some (.lst s.es)
 fi:H x.fi=some (.lst (s.ff.map V.int))
 d1:x.he≠x.la
 d2:x.he≠x.so
 d3:x.la≠x.so
 l1:x.ro≠x.si
 l2:x.ro≠x.en
 l3:x.ro≠x.fi
 l4:x.si≠x.en
 l5:x.si≠x.fi
 l6:x.en≠x.fi
theorem Bf.same{C:Addr}{H H':Hp}{t:Addr}{x:TwA}{s:TwS}(m:A7 H H')(h:Bf C H t x s):Bf C H' t x s:=by
 obtain ⟨dx,fs,h1,h2⟩:=h.o;exact ⟨⟨dx,fs,m _ _ h1,h2⟩,m _ _ h.si,m _ _ h.ro,m _ _ h.he,m _ _ h.la,m _ _ h.so,m _ _ h.en,m _ _ h.fi,h.d1,h.d2,h.d3,h.l1,h.l2,h.l3,h.l4,h.l5,h.l6⟩
def own(t:Addr)(x:TwA):List Addr:=[t,x.ro,x.he,x.la,x.so,x.en,x.fi]
def Off(L:List Addr)(H H':Hp):Prop:=∀b o,H b=some o→b∉L→H' b=some o
theorem Off.trans{L:List Addr}{H H1 H2:Hp}(a:Off L H H1)(b:Off L H1 H2):Off L H H2:=fun c o e n=>b c o (a c o e n) n
theorem Off.of{L:List Addr}{H H1:Hp}(s:A7 H H1):Off L H H1:=fun c o e _=>s c o e
theorem Off.put{L:List Addr}{H:Hp}{b:Addr}{o:HO}(h:b∈L):Off L H (upd H b o):=fun c u e n=>by
 rw [A2 (fun z=>n (by rw [z];exact h))];exact e
section
variable {C:Addr} {H:Hp} {t:Addr} {x:TwA} {s:TwS}
theorem Bf.nt(h:Bf C H t x s){b:Addr}{u:HO}(e:H b=some u)(n:∀C dx fs,u≠ .ins C dx fs):t≠b:=by
 obtain ⟨dx,fs,h1,_⟩:=h.o
 exact fun z=>by rw [← z,h1]at e;cases e;exact n _ _ _ rfl
theorem Bf.row(h:Bf C H t x s)(R:List Str):Bf C (upd H x.ro (.lst (R.map V.str))) t x {s with R:=R}:=by
 obtain ⟨dx,fs,h1,h2⟩:=h.o;have nt:=h.nt h.ro (by intro _ _ _ z;cases z);refine ⟨⟨dx,fs,by rw [A2 nt];exact h1,h2⟩,by rw [A2 h.l1.symm];exact h.si,A3,?_,?_,?_,by rw [A2 h.l2.symm];exact h.en,by rw [A2 h.l3.symm];exact h.fi,h.d1,h.d2,h.d3,h.l1,h.l2,h.l3,h.l4,h.l5,h.l6⟩
 · rw [A2 (Az h.he h.ro (by intro z;cases z))];exact h.he
 · rw [A2 (Az h.la h.ro (by intro z;cases z))];exact h.la
 · rw [A2 (Az h.so h.ro (by intro z;cases z))];exact h.so
theorem Bf.held(h:Bf C H t x s)(k:List (Key×V)):Bf C (upd H x.he (.dK k)) t x {s with kh:=k}:=by
 obtain ⟨dx,fs,h1,h2⟩:=h.o;have nt:=h.nt h.he (by intro _ _ _ z;cases z);refine ⟨⟨dx,fs,by rw [A2 nt];exact h1,h2⟩,?_,?_,A3,by rw [A2 h.d1.symm];exact h.la,by rw [A2 h.d2.symm];exact h.so,?_,?_,h.d1,h.d2,h.d3,h.l1,h.l2,h.l3,h.l4,h.l5,h.l6⟩
 · rw [A2 (Az h.si h.he (by intro z;cases z))];exact h.si
 · rw [A2 (Az h.ro h.he (by intro z;cases z))];exact h.ro
 · rw [A2 (Az h.en h.he (by intro z;cases z))];exact h.en
 · rw [A2 (Az h.fi h.he (by intro z;cases z))];exact h.fi
theorem Bf.late(h:Bf C H t x s)(k:List (Key×V)):Bf C (upd H x.la (.dK k)) t x {s with kl:=k}:=by
 obtain ⟨dx,fs,h1,h2⟩:=h.o;have nt:=h.nt h.la (by intro _ _ _ z;cases z);refine ⟨⟨dx,fs,by rw [A2 nt];exact h1,h2⟩,?_,?_,by rw [A2 h.d1];exact h.he,A3,by rw [A2 h.d3.symm];exact h.so,?_,?_,h.d1,h.d2,h.d3,h.l1,h.l2,h.l3,h.l4,h.l5,h.l6⟩
 · rw [A2 (Az h.si h.la (by intro z;cases z))];exact h.si
 · rw [A2 (Az h.ro h.la (by intro z;cases z))];exact h.ro
 · rw [A2 (Az h.en h.la (by intro z;cases z))];exact h.en
 · rw [A2 (Az h.fi h.la (by intro z;cases z))];exact h.fi
theorem Bf.store(h:Bf C H t x s)(k:List (Key×V)):Bf C (upd H x.so (.dK k)) t x {s with ks:=k}:=by
 obtain ⟨dx,fs,h1,h2⟩:=h.o;have nt:=h.nt h.so (by intro _ _ _ z;cases z);refine ⟨⟨dx,fs,by rw [A2 nt];exact h1,h2⟩,?_,?_,by rw [A2 h.d2];exact h.he,by rw [A2 h.d3];exact h.la,A3,?_,?_,h.d1,h.d2,h.d3,h.l1,h.l2,h.l3,h.l4,h.l5,h.l6⟩
 · rw [A2 (Az h.si h.so (by intro z;cases z))];exact h.si
 · rw [A2 (Az h.ro h.so (by intro z;cases z))];exact h.ro
 · rw [A2 (Az h.en h.so (by intro z;cases z))];exact h.en
 · rw [A2 (Az h.fi h.so (by intro z;cases z))];exact h.fi
theorem Bf.entry(h:Bf C H t x s)(k:List V):Bf C (upd H x.en (.lst k)) t x {s with es:=k}:=by
 obtain ⟨dx,fs,h1,h2⟩:=h.o;have nt:=h.nt h.en (by intro _ _ _ z;cases z);refine ⟨⟨dx,fs,by rw [A2 nt];exact h1,h2⟩,by rw [A2 h.l4];exact h.si,by rw [A2 h.l2];exact h.ro,?_,?_,?_,A3,by rw [A2 h.l6.symm];exact h.fi,h.d1,h.d2,h.d3,h.l1,h.l2,h.l3,h.l4,h.l5,h.l6⟩
 · rw [A2 (Az h.he h.en (by intro z;cases z))];exact h.he
 · rw [A2 (Az h.la h.en (by intro z;cases z))];exact h.la
 · rw [A2 (Az h.so h.en (by intro z;cases z))];exact h.so
theorem Bf.find(h:Bf C H t x s)(k:List Int):Bf C (upd H x.fi (.lst (k.map V.int))) t x {s with ff:=k}:=by
 obtain ⟨dx,fs,h1,h2⟩:=h.o;have nt:=h.nt h.fi (by intro _ _ _ z;cases z);refine ⟨⟨dx,fs,by rw [A2 nt];exact h1,h2⟩,by rw [A2 h.l5];exact h.si,by rw [A2 h.l3];exact h.ro,?_,?_,?_,by rw [A2 h.l6];exact h.en,A3,h.d1,h.d2,h.d3,h.l1,h.l2,h.l3,h.l4,h.l5,h.l6⟩
 · rw [A2 (Az h.he h.fi (by intro z;cases z))];exact h.he
 · rw [A2 (Az h.la h.fi (by intro z;cases z))];exact h.la
 · rw [A2 (Az h.so h.fi (by intro z;cases z))];exact h.so
end
theorem Bf.paid{C:Addr}{H:Hp}{t:Addr}{x:TwA}{s:TwS}(h:Bf C H t x s){dx:Addr}{fs:List (Str×V)}(ho:H t=some (.ins C dx fs))(hf:Tfs x s.pd fs)(n:Int):Bf C (upd H t (.ins C dx (Av (Str.ofString "paid") (.int n) fs))) t x {s with pd:=n}:=by
 have nt:∀(b:Addr) (u:HO),H b=some u→(∀C dx fs,u≠ .ins C dx fs)→b≠t:=fun b u e k=>(h.nt e k).symm;refine ⟨⟨dx,_,A3,hf.paid⟩,?_,?_,?_,?_,?_,?_,?_,h.d1,h.d2,h.d3,h.l1,h.l2,h.l3,h.l4,h.l5,h.l6⟩
 · rw [A2 (nt _ _ h.si (by intro _ _ _ z;cases z))];exact h.si
 · rw [A2 (nt _ _ h.ro (by intro _ _ _ z;cases z))];exact h.ro
 · rw [A2 (nt _ _ h.he (by intro _ _ _ z;cases z))];exact h.he
 · rw [A2 (nt _ _ h.la (by intro _ _ _ z;cases z))];exact h.la
 · rw [A2 (nt _ _ h.so (by intro _ _ _ z;cases z))];exact h.so
 · rw [A2 (nt _ _ h.en (by intro _ _ _ z;cases z))];exact h.en
 · rw [A2 (nt _ _ h.fi (by intro _ _ _ z;cases z))];exact h.fi
structure By(K:PySem.W.Frag)(S:Addr)(H:Hp)(p:Addr)(ts:List Th)(L:List Addr):Prop where
 ex:∃(dx d:Addr) (kvs:List (Key×V)),H p=some (.ins S dx (flds d))∧H d=some (.dK kvs)∧p∉L∧d∉L∧kvs.map (·.1)=ts.map (fun t=>Sum.inr t.1)∧
  ∀(i:Nat) (t:Th),ts[i]?=some t→∃a,kvs[i]?=some (Sum.inr t.1,.ref a)∧((Rd H a (.tup [.int i,.int t.2.1,.int t.2.2])∧a∉L)∨∀H',SqT K H' a [.int i,.int t.2.1,.int t.2.2])
theorem By.at{K:PySem.W.Frag}{S:Addr}{H:Hp}{p:Addr}{ts:List Th}{L:List Addr}(h:By K S H p ts L):Aa K S H p ts:=by
 obtain ⟨dx,d,kvs,h1,h2,_,_,h3,h4⟩:=h.ex;refine ⟨dx,d,kvs,h1,h2,h3,fun i t e=>?_⟩;obtain ⟨a,e1,e2 | e2⟩:=h4 i t e
 · exact ⟨a,e1,.inl e2.1⟩
 · exact ⟨a,e1,e2 H⟩
theorem By.off{K:PySem.W.Frag}{S:Addr}{H H':Hp}{p:Addr}{ts:List Th}{L:List Addr}(o:Off L H H')(h:By K S H p ts L):By K S H' p ts L:=by
 obtain ⟨dx,d,kvs,h1,h2,n1,n2,h3,h4⟩:=h.ex;refine ⟨dx,d,kvs,o _ _ h1 n1,o _ _ h2 n2,n1,n2,h3,fun i t e=>?_⟩;obtain ⟨a,e1,⟨e2,n⟩ | e2⟩:=h4 i t e
 · refine ⟨a,e1,.inl ⟨?_,n⟩⟩
   rcases e2 with h | ⟨ob,h⟩
   · exact .inl (o _ _ h n)
   · exact .inr ⟨ob,o _ _ h n⟩
 · exact ⟨a,e1,.inr e2⟩
theorem By.mono{K:PySem.W.Frag}{S:Addr}{H:Hp}{p:Addr}{ts:List Th}{L L':List Addr}(m:∀b∈L',b∈L∨H b=none)(h:By K S H p ts L):By K S H p ts L':=by
 obtain ⟨dx,d,kvs,h1,h2,n1,n2,h3,h4⟩:=h.ex
 have k:∀(b:Addr) (u:HO),H b=some u→b∉L→b∉L':=fun b u e n z=>by
  rcases m b z with h | h
  · exact n h
  · rw [h]at e;cases e
 refine ⟨dx,d,kvs,h1,h2,k _ _ h1 n1,k _ _ h2 n2,h3,fun i t e=>?_⟩;obtain ⟨a,e1,⟨e2,n⟩ | e2⟩:=h4 i t e
 · refine ⟨a,e1,.inl ⟨e2,?_⟩⟩
   rcases e2 with h | ⟨ob,h⟩
   · exact k _ _ h n
   · exact k _ _ h n
 · exact ⟨a,e1,.inr e2⟩
theorem By.of{K:PySem.W.Frag}{S:Addr}{H:Hp}{p:Addr}{ts:List Th}(h:Aa K S H p ts):By K S H p ts []:=by
 obtain ⟨dx,d,kvs,h1,h2,h3,h4⟩:=h.ex;refine ⟨dx,d,kvs,h1,h2,HN,HN,h3,fun i t e=>?_⟩;obtain ⟨a,e1,e2⟩:=h4 i t e;rcases e2 with e2 | e2
 · exact ⟨a,e1,.inl ⟨e2,HN⟩⟩
 · exact ⟨a,e1,.inr fun _=> .inr e2⟩
structure TwL(s:TwS)(B:Nat)(hd:Str→Prop):Prop where
 h:∀y,hd y→∃i:Int,B9 s.kh (Sum.inr y)=some (.int i)
 l:∀y,(B9 s.kl (Sum.inr y)).isSome=true→hd y
 st:∀y v,B9 s.ks (Sum.inr y)=some v→∃i:Int,v= .int i
 n1:s.kh.length≤B
 n2:s.kl.length≤B
 n3:s.ks.length≤B
 n4:s.es.length≤B
 b:B≤100000
theorem Lw{R:List Str}{z u:Str}:u∈z::R.erase z↔u∈R∨u=z:=by
 rw [Fy];constructor
 · rintro (h | h)
   · exact .inr h
   · exact .inl (HL h)
 · rintro (h | h)
   · by_cases e:u=z
     · exact .inl e
     · exact .inr ((JC e).mpr h)
   · exact .inl h
theorem Yy{R:List Str}{z:Str}(nd:R.Nodup):(z::R.erase z).Nodup:=Hj.mpr ⟨nd.not_mem_erase,nd.erase z⟩
theorem J1m{R1:List Str}{S:Nat}(nd:R1.Nodup)(hl:R1.length=S+1):∃y,R1[R1.length - 1]?=some y∧R1.dropLast=R1.take S∧y∈R1∧∀u,u∈R1.dropLast↔u∈R1∧u≠y:=by
 have hS:S < R1.length:=by omega
 have e1:R1.dropLast=R1.take S:=by rw [List.dropLast_eq_take,show R1.length - 1=S by omega]
 have e2:R1=R1.take S++[R1[S]]:=by
  have:=Jw S R1;rw [List.drop_eq_getElem_cons hS,List.drop_eq_nil_of_le (by omega)]at this;exact this.symm
 refine ⟨R1[S],by rw [show R1.length - 1=S by omega,Fb hS],e1,FU hS,fun u=>?_⟩;rw [e1]
 have nd2:(R1.take S++[R1[S]]).Nodup:=by rw [← e2];exact nd
 have nin:R1[S]∉R1.take S:=fun h=>(Hq.mp nd2).2.2 _ h _ FA rfl;constructor
 · intro h
   exact ⟨Rc h,fun e=>nin (by rw [← e];exact h)⟩
 · rintro ⟨h1,h2⟩
   rw [e2]at h1;rcases FI.mp h1 with h | h
   · exact h
   · exact absurd (Fj.mp h) h2
def lvl:List Int→List Str→Nat→List Str
 | [],_,_=>[]
 | z::_,R,0=>R.take z.toNat
 | z::zs,R,i+1=>lvl zs (R.drop z.toNat) i
def pre(zs:List Int)(i:Nat):Int:=(zs.take i).sum
theorem Ez{zs:List Int}(h:∀z∈zs,1≤z)(i:Nat):0≤pre zs i:=by
 unfold pre
 induction zs generalizing i with
 | nil=>simp
 | cons a l ih=>
  cases i with
  | zero=>simp
  | succ i=>
   have h1:=h a FA;have h2:=ih (fun z hz=>h z (Fn _ hz)) i;rw [FW,Hh];omega
theorem Lx{zs:List Int}{i:Nat}(h:i < zs.length):pre zs (i+1)=pre zs i+zs.getD i 0:=by
 unfold pre;rw [Hg,Fb h,HI,Fc,Fb h];simp
theorem Wm{zs:List Int}(h:∀z∈zs,1≤z):∀{R:List Str} {i:Nat},i < zs.length→lvl zs R i=(R.drop (pre zs i).toNat).take (zs.getD i 0).toNat:=by
 induction zs with
 | nil=>intro R i hi;cases hi
 | cons a l ih=>
  intro R i hi
  cases i with
  | zero=>simp [lvl,pre]
  | succ i=>
   have h1:=h a FA;have h2:=Ez (zs:=l) (fun z hz=>h z (Fn _ hz)) i
   have e:pre (a::l) (i+1)=a+pre l i:=by unfold pre;rw [FW,Hh]
   show lvl l (R.drop a.toNat) i=_;rw [ih (fun z hz=>h z (Fn _ hz)) (by simpa using hi),e,JG,show a.toNat+(pre l i).toNat=(a+pre l i).toNat by omega];rfl
theorem J7v{zs:List Int}:∀{R:List Str} {i:Nat} {u:Str},u∈lvl zs R i→u∈R:=by
 induction zs with
 | nil=>intro R i u h;cases h
 | cons a l ih=>
  intro R i u h
  cases i with
  | zero=>exact Rc h
  | succ i=>exact JB (ih (R:=R.drop a.toNat) h)
theorem J7w{zs:List Int}(h:∀z∈zs,1≤z):∀{R:List Str} {u:Str},(R.length:Int)≤zs.sum→u∈R→∃i,i < zs.length∧u∈lvl zs R i:=by
 induction zs with
 | nil=>
  intro R u hs hu
  have:R.length=0:=by simp at hs;simp [hs]
  rw [Ha.mp this]at hu;cases hu
 | cons a l ih=>
  intro R u hs hu;have h1:=h a FA;rw [Hh]at hs
  have h3:0≤l.sum:=by
   have:=Ez (zs:=l) (fun z hz=>h z (Fn _ hz)) l.length;unfold pre at this;rw [Hv]at this;exact this
  rw [← Jw a.toNat R]at hu;rcases FI.mp hu with hu | hu
  · exact ⟨0,by simp,hu⟩
  · obtain ⟨i,hi,hui⟩:=ih (fun z hz=>h z (Fn _ hz)) (R:=R.drop a.toNat) (by rw [Hw];omega) hu
    exact ⟨i+1,by simpa using hi,hui⟩
theorem J7x(xs:List V)(a b:Nat)(h:a≤b):G3 xs (some (a:Int)) (some (b:Int))=(xs.drop a).take (b - a):=by
 unfold G3;rw [HT.K6,HT.K6]
 by_cases h1:a≤xs.length
 · rw [HX h1]
   by_cases h2:b≤xs.length
   · rw [HX h2]
   · rw [RA (by omega),FQ (by rw [Hw];exact Fh _),FQ (by rw [Hw];omega)]
 · rw [RA (by omega),RA (by omega),J6,List.take_zero,List.drop_eq_nil_of_le (by omega),List.take_nil]
theorem J7y{zs:List Int}{R:List Str}{i:Nat}(h:∀z∈zs,1≤z∧z≤1000000)(hi:i < zs.length):G3 (R.map V.str) (some (pre zs i)) (some (pre zs i+zs.getD i 0))=(lvl zs R i).map V.str:=by
 have h0:=Ez (fun z hz=>(h z hz).1) i;have hz:=h _ (Fk (Do hi));rw [Wm (fun z hz=>(h z hz).1) hi]
 have e1:pre zs i=((pre zs i).toNat:Int):=by omega
 have e2:pre zs i+zs.getD i 0=(((pre zs i).toNat+(zs.getD i 0).toNat:Nat):Int):=by omega
 have:=J7x (R.map V.str) (pre zs i).toNat ((pre zs i).toNat+(zs.getD i 0).toNat) (by omega);rw [← e1,← e2]at this;rw [this,show (pre zs i).toNat+(zs.getD i 0).toNat - (pre zs i).toNat=(zs.getD i 0).toNat by omega,← JK,← RH]
def Sn(H:Hp)(as:List Addr)(zs:List Int)(R:List Str)(n:Nat):Prop:=as.length=n∧∀(i:Nat) (a:Addr),as[i]?=some a→H a=some (.lst ((lvl zs R i).map V.str))
theorem Sn.same{H H':Hp}{as:List Addr}{zs:List Int}{R:List Str}{n:Nat}(s:A7 H H')(h:Sn H as zs R n):Sn H' as zs R n:=⟨h.1,fun i a e=>s _ _ (h.2 i a e)⟩
def Df(w:Nat)(K:PySem.W.Frag)(C:Addr):Sp:=fun vs H Q _=>∃(p:Addr) (ts:List Th) (z:Str),vs=[.ref p,.str z]∧Aa K C H p ts∧(ts.map (·.1)).Nodup∧z∈ts.map (·.1)∧∀(i:Nat) (t:Th),ts[i]?=some t→t.1=z→Q (.int (pick w i t)) H
def Dq(C:Addr):Sp:=fun vs H Q _=>∃(t:Addr) (x:TwA) (s:TwS),vs=[.ref t]∧Bf C H t x s∧s.zs.length≤6∧(∀z∈s.zs,1≤z∧z≤1000000)∧
 ∀(p:Addr) (as:List Addr) (H':Hp),H p=none→A7 H H'→H' p=some (.lst (as.map V.ref))→Sn H' as s.zs s.R s.zs.length→(∀a∈as,H a=none)→as.Nodup→p∉as→Q (.ref p) H'
structure Tow(K:PySem.W.Frag)(C S:Addr)(H:Hp)(t:Addr)(x:TwA)(s:TwS)(ts:List Th)(B:Nat):Prop where
 tw:Bf C H t x s
 sk:By K S H x.st ts (own t x)
 l:TwL s B (fun y=>y∈s.R)
 nd:s.R.Nodup
 rs:(s.R.length:Int)≤s.zs.sum
 z1:1≤s.zs.length
 zl:s.zs.length≤6
 zz:∀z∈s.zs,1≤z∧z≤1000000
 rn:∀y∈s.R,y∈ts.map (·.1)
 tn:(ts.map (·.1)).Nodup
 tl:ts.length≤59
 ff:s.ff.length=s.zs.length+1
theorem Tow.rl{K:PySem.W.Frag}{C S:Addr}{H:Hp}{t:Addr}{x:TwA}{s:TwS}{ts:List Th}{B:Nat}(h:Tow K C S H t x s ts B):s.R.length≤59:=by
 have h1:=List.Nodup.length_le_of_subset h.nd (fun y hy=>h.rn y hy);rw [Fa]at h1;exact FC h1 h.tl
theorem Tow.s1{K:PySem.W.Frag}{C S:Addr}{H:Hp}{t:Addr}{x:TwA}{s:TwS}{ts:List Th}{B:Nat}(h:Tow K C S H t x s ts B):1≤s.zs.sum:=by
 have h1:=h.z1;have h2:=h.zz
 cases e:s.zs with
 | nil=>rw [e]at h1;cases h1
 | cons a l=>
  rw [e]at h2;have h3:=h2 a FA;have h4:=Ez (zs:=l) (fun z hz=>(h2 z (Fn _ hz)).1) l.length;unfold pre at h4;rw [Hv]at h4;rw [Hh];omega
theorem Tow.same{K:PySem.W.Frag}{C S:Addr}{H H':Hp}{t:Addr}{x:TwA}{s:TwS}{ts:List Th}{B:Nat}(m:A7 H H')(h:Tow K C S H t x s ts B):Tow K C S H' t x s ts B:=
 ⟨h.tw.same m,h.sk.off (.of m),h.l,h.nd,h.rs,h.z1,h.zl,h.zz,h.rn,h.tn,h.tl,h.ff⟩
def Qe(z:Str)(s:TwS):List Str:=(z::s.R.erase z).take s.zs.sum.toNat
theorem J5e{K:PySem.W.Frag}{C S:Addr}{H H':Hp}{t:Addr}{x:TwA}{s s':TwS}{ts:List Th}{B B':Nat}{z:Str}(h:Tow K C S H t x s ts B)(hz:z∈ts.map (·.1))(o:Off (own t x) H H')(hT:Bf C H' t x s')(eR:s'.R=Qe z s)(eZ:s'.zs=s.zs)(hL:TwL s' B' (fun y=>y∈s'.R))(hF:s'.ff.length=s.zs.length+1):Tow K C S H' t x s' ts B':=by
 have hs1:=h.s1;refine ⟨hT,h.sk.off o,hL,?_,?_,by rw [eZ];exact h.z1,by rw [eZ];exact h.zl,by rw [eZ];exact h.zz,fun y hy=>?_,h.tn,h.tl,by rw [eZ];exact hF⟩
 · rw [eR];exact (Yy h.nd).sublist (Je _ _)
 · rw [eR,eZ];unfold Qe;rw [FX];omega
 · rw [eR]at hy
   rcases Lw.mp (Rc hy) with h1 | h1
   · exact h.rn y h1
   · rw [h1];exact hz
def Gq(K:PySem.W.Frag):Sp:=fun vs H Q _=>∃(a:Addr) (zs:List Int),vs=[.ref a]∧SqL K H a (zs.map V.int)∧1≤zs.length∧zs.length≤6∧(∀z∈zs,1≤z∧z≤1000000)∧Q .non H
def Gr(K:PySem.W.Frag)(S:Addr):Sp:=fun vs H Q _=>∃(p a:Addr) (ts:List Th) (ys:List Str),vs=[.ref p,.ref a]∧Aa K S H p ts∧(ts.map (·.1)).Nodup∧SqL K H a (ys.map V.str)∧(∀y∈ys,y∈ts.map (·.1))∧(∀t∈ts,t.2.2=1)∧ys.length≤60∧Q .non H
theorem Ei{H1 Hk:Hp}{t l C dx:Addr}{fs:List (Str×V)}{o:HO}{f:Str}(sb:SameBut t H1 Hk)(ht:Hk t=some (.ins C dx fs))(hl:Hk l=none):
 SameBut t H1 (upd (upd Hk l o) t (.ins C dx (Av f (.ref l) fs)))∧upd (upd Hk l o) t (.ins C dx (Av f (.ref l) fs)) t=some (.ins C dx (Av f (.ref l) fs))∧upd (upd Hk l o) t (.ins C dx (Av f (.ref l) fs)) l=some o∧
  (∀b u,Hk b=some u→b≠t→upd (upd Hk l o) t (.ins C dx (Av f (.ref l) fs)) b=some u)∧H1 l=none∧l≠t∧(∀b u,Hk b=some u→b≠l):=by
 have ntl:l≠t:=(A8 ht hl).symm
 have kp:∀b u,Hk b=some u→b≠t→upd (upd Hk l o) t (.ins C dx (Av f (.ref l) fs)) b=some u:=fun b u e n=>by
  rw [A2 n,A2 (A8 e hl)];exact e
 refine ⟨fun b u e n=>kp b u (sb b u e n) n,A3,by rw [A2 ntl];exact A3,kp,?_,ntl,fun b u e=>A8 e hl⟩
 cases q:H1 l with
 | none=>rfl
 | some u=>rw [sb _ _ q ntl]at hl;cases hl
theorem An{f:Str}{v:V}{fs:List (Str×V)}{k:Nat}(h:fs.length≤k):(Av f v fs).length≤k+1:=FC (Dj f v fs) (Nat.succ_le_succ h)
def f1(x:TwA):List (Str×V):=Av (Str.ofString "sizes") (.ref x.si) (Av (Str.ofString "stock") (.ref x.st) [])
def f3(x:TwA):List (Str×V):=Av (Str.ofString "late") (.ref x.la) (Av (Str.ofString "held") (.ref x.he) (Av (Str.ofString "row") (.ref x.ro) (f1 x)))
def f6(x:TwA):List (Str×V):=Av (Str.ofString "paid") (.int 0) (Av (Str.ofString "finds") (.ref x.fi) (Av (Str.ofString "entries") (.ref x.en) (Av (Str.ofString "store") (.ref x.so) (f3 x))))
theorem J5f(x:TwA):Tfs x 0 (f6 x):=by
 unfold f6 f3 f1;refine ⟨?_,?_,?_,?_,?_,?_,?_,?_,?_,?_,?_⟩
 case refine_10=>exact FM (An (An (An (An (An (An (An (An (An (Fh _)))))))))) (by decide)
 case refine_11=>
  intro m hm
  have hne:∀m∈[Str.ofString "levels",Str.ofString "stored",Str.ofString "shelf_of",Str.ofString "fetch",Str.ofString "come",Str.ofString "fall_off",Str.ofString "write",Str.ofString "settle",Str.ofString "read",Str.ofString "keep",Str.ofString "rest",Str.ofString "ahead",Str.ofString "diary",Str.ofString "found",Str.ofString "spent"],m≠Str.ofString "paid"∧m≠Str.ofString "finds"∧m≠Str.ofString "entries"∧m≠Str.ofString "store"∧m≠Str.ofString "late"∧m≠Str.ofString "held"∧m≠Str.ofString "row"∧m≠Str.ofString "sizes"∧m≠Str.ofString "stock":=by decide+kernel
  obtain ⟨h1,h2,h3,h4,h5,h6,h7,h8,h9⟩:=hne m hm;rw [Ap,if_neg h1,Ap,if_neg h2,Ap,if_neg h3,Ap,if_neg h4,Ap,if_neg h5,Ap,if_neg h6,Ap,if_neg h7,Ap,if_neg h8,Ap,if_neg h9];rfl
 all_goals repeat first | (rw [Ap,if_pos rfl];done) | rw [Ap,if_neg (by decide+kernel)]
theorem By.ins{K:PySem.W.Frag}{S C:Addr}{H:Hp}{p t dx:Addr}{ts:List Th}{L:List Addr}(ht:H t=some (.ins C dx []))(h:By K S H p ts L):By K S H p ts (t::L):=by
 obtain ⟨dy,d,kvs,h1,h2,n1,n2,h3,h4⟩:=h.ex
 have k:∀(b:Addr) (u:HO),H b=some u→u≠ .ins C dx []→b∉L→b∉t::L:=fun b u e ne n z=>by
  rcases Fy.mp z with h | h
  · rw [h,ht]at e;cases e;exact ne rfl
  · exact n h
 refine ⟨dy,d,kvs,h1,h2,k _ _ h1 (by intro z;injection z with _ _ z;cases z) n1,k _ _ h2 (by intro z;cases z) n2,h3,fun i t' e=>?_⟩;obtain ⟨a,e1,⟨e2,n⟩ | e2⟩:=h4 i t' e
 · refine ⟨a,e1,.inl ⟨e2,?_⟩⟩
   rcases e2 with h | ⟨ob,h⟩
   · exact k _ _ h (by intro z;cases z) n
   · exact k _ _ h (by intro z;cases z) n
 · exact ⟨a,e1,.inr e2⟩
theorem Jbd(n:Nat):(List.replicate ((n:Int)+1).toNat [V.int 0]).flatten=(List.replicate (n+1) (0:Int)).map V.int:=by
 rw [show ((n:Int)+1).toNat=n+1 by omega,List.map_replicate,List.flatten_replicate_singleton]
end N71
namespace L2
section
variable {K:PySem.W.Frag} {σ:St} {H:Hp} {D:Ib} {Q:VK}
theorem J5g{x:V}{vs:List V}:Jaa x vs H Q=∃l xs y,x= .ref l∧vs=[]∧H l=some (.lst xs)∧xs[xs.length - 1]?=some y∧Q y (upd H l (.lst xs.dropLast)):=rfl
theorem Qf{ta tv:TE}{rd:V→V→Hp→VK→Prop}{f:Str}:X7 K ta tv rd f D σ H=ta σ H fun x H1=>∃a C dx fs v,x= .ref a∧H1 a=some (.ins C dx fs)∧Cls K C∧B5 K C f∧fs.lookup f=some v∧
 tv σ H1 fun y H2=>rd v y H2 fun z H3=>∃dx' fs',H3 a=some (.ins C dx' fs')∧fs'.length < 1000∧D.nx σ (upd H3 a (.ins C dx' (Av f z fs'))):=rfl
theorem J5h{i:Nat}{te:TE}{ti:TIp}:Ja1 i te ti D σ H=∃x,σ[i]?=some (some x)∧te σ H fun y H1=>ti x y H1 fun z H2=>D.nx (σ.set i (some z)) H2:=rfl
end
end L2
namespace L2
open N1 N5
def Jbe(K:PySem.W.Frag)(H:Hp)(x y:V):Prop:=∃(a b:Addr) (as bs:List Addr),x= .ref a∧y= .ref b∧SqL K H a (as.map V.ref)∧SqL K H b (bs.map V.ref)∧as.length=bs.length∧∀(i:Nat) (p q:Addr),as[i]?=some p→bs[i]?=some q→∃xs,SqL K H p xs∧SqL K H q xs∧xs.all C0=true
def Jcw(K:PySem.W.Frag):R2:=fun x y H Q=>Jbe K H x y∧Q (.bl false) H
section
variable {X:Cx}
theorem J5i{pins:List (Addr×Obj)}{σ:St}{H:Hp}{s:Shared}{p q:Addr}{xs:List V}{A:Around}(I:Inv X pins σ H s)(h1:SqL X.K H p xs)(h2:SqL X.K H q xs)(f:xs.all C0=true)(hu:A.units < cLine):SeqAt.EqAt A s (.ref p) (.ref q) true:=by
 by_cases e:p=q
 · subst e;exact SeqAt.EqAt.same _
 · exact SeqAt.EqAt.of_refs e (J3r (x:= .ref p) (y:= .ref q) I rfl rfl ⟨p,q,xs,xs,rfl,rfl,.inl ⟨h1,h2⟩,f,f,(Nf f).symm⟩ hu)
theorem J7z{k:Nat}(hr:Bt k X.A):OpR X (compareOp .NotEq) (Jcw X.K):=by
 intro pins s σ H x y v u Q I rx ry h;obtain ⟨⟨a,b,as,bs,rfl,rfl,h1,h2,hl,hall⟩,q⟩:=h;cases rx;cases ry;obtain ⟨us,r1,p1,z1⟩:=I.list h1;obtain ⟨ws,r2,p2,z2⟩:=I.list h2;have lx:=r1.length;have ly:=r2.length;rw [Fa]at lx ly;have hu:X.A.units < cLine:=FM (by omega) hr.un
 have:=SeqAt.RcNeAt.lists (e:=fun _=>true) p1.isList p2.isList (by simp;omega) hu (fun j h1 h2=>by
  rw [Fl]at h1 h2
  have hx:j < as.length:=by omega
  have hy:j < bs.length:=by omega
  obtain ⟨u,hu,ru⟩:=r1.get (i:=j) (x:=V.ref as[j]) (by simp [hx]);obtain ⟨w,hw,rw'⟩:=r2.get (i:=j) (x:=V.ref bs[j]) (by simp [hy])
  have eu:us.toArray[j]=u:=by
   have:=Fb h1;rw [this]at hu
   simpa using hu
  have ew:ws.toArray[j]=w:=by
   have:=Fb h2;rw [this]at hw
   simpa using hw
  rw [eu,ew];cases ru;cases rw';obtain ⟨xs,e1,e2,f⟩:=hall j _ _ (Fb hx) (Fb hy)
  exact J5i I e1 e2 f (D4 hr))
 have e:(!(List.range us.toArray.size).all fun _=>true)=false:=by
  rw [Bool.not_eq_false',Hf];intros;rfl
 rw [e]at this;exact this X.prog X.w X.xe _ ⟨.bl false,H,I,rfl,q⟩
end
end L2
namespace N18
open L2 N1 N5 N4 N6 N12 N32 N14
end N18
namespace N25
open L2 N1 N5 N4 N6 N12 N32 N14 N20
theorem J80{y z:Str}(h:y≠z):(Sum.inr y:Key)≠Sum.inr z:=fun e=>h (by injection e)
theorem Yz{f:Str→Int}:∀{L M:List Str},L.Perm M→N41.sm f L=N41.sm f M:=by
 intro L M h
 induction h with
 | nil=>rfl
 | cons x _ ih=>rw [N41.Gj,N41.Gj,ih]
 | swap x y l=>rw [N41.Gj,N41.Gj,N41.Gj,N41.Gj];omega
 | trans _ _ a b=>rw [a,b]
theorem So{R:Str→Int}{ns:List Str}:∀{ls:Ly},(∀x∈ls,x.2=R x.1)→lyS ls=N41.sm R (lyN ls)
 | [],_=>rfl
 | x::r,h=>by
  have ih:=So (R:=R) (ns:=ns) (ls:=r) fun y hy=>h y (Fn _ hy);have h1:=h x (FA ..);unfold lyS at ih ⊢;unfold lyN at ih ⊢;rw [List.map_cons,Hh,List.map_cons,N41.Gj,ih,h1]
end N25
namespace N25
open L2 N1 N5 N4 N6 N12 N32 N14 N20
theorem Qg{M:List Addr}{a:Addr}{H H':Hp}(s:SameBut a H H')(h:a∈M):Kp M H H':=fun b o n e=>s b o e (fun e2=>n (e2▸h))
theorem Nw{M:List Addr}{H H':Hp}{b:Addr}(k:Kp M H H')(hb:b∉M)(h:H' b=none):H b=none:=by
 cases e:H b with
 | none=>rfl
 | some o=>rw [k b o hb e]at h;cases h
theorem J5j{M:List Addr}{H H':Hp}{w:Addr}{o:HO}(k:Kp M H H')(hw:H w=none):Kp M H (upd H' w o):=fun b u n e=>by
 rw [A2 (fun h=>by rw [h,hw]at e;cases e)];exact k b u n e
theorem J5k{L M:List Str}(h:L.Nodup)(hs:∀z∈L,z∈M):L.length≤M.length:=by
 induction L generalizing M with
 | nil=>exact FB _
 | cons x r ih=>
  obtain ⟨hx,hr⟩:=Hj.mp h;have hm:=hs x (FA ..);have:=ih (M:=M.erase x) hr fun z hz=>(JC (fun e=>hx (by rw [← e];exact hz))).mpr (hs z (Fn _ hz));rw [HP hm]at this;have hp:0 < M.length:=RV hm;rw [List.length_cons];omega
end N25
namespace NR
open L2 N1 N5 N4 N6 N12 N32 N14 N20 N18 N25
structure Ay where
 C:Addr
 St:Type
 At:Hp→List Addr→Addr→Addr→Int→St→Prop
 asked:Int→St→Str→St
 pick:Int→St→List Str→St×Str
 gone:Int→St→Str→St
 came:Int→St→Str→St
 inv:List Str→Int→St→List Str→Prop
 mid:List Str→Int→Str→St→List Str→Prop
 dep:∀{H H':Hp} {M:List Addr} {q p:Addr} {n:Int} {s:St},(∀m∈M,∀o,H m=some o→H' m=some o)→At H M q p n s→At H' M q p n s
 live:∀{H:Hp} {M:List Addr} {q p:Addr} {n:Int} {s:St},At H M q p n s→∀m∈M,H m≠none
 obj:∀{H:Hp} {M:List Addr} {q p:Addr} {n:Int} {s:St},At H M q p n s→∃dx fs,H q=some (.ins C dx fs)∧fs.lookup ("stock":Str)=some (.ref p)∧fs.lookup ("places":Str)=some (.int n)∧fs.lookup ("asked":Str)=none∧fs.lookup ("choice":Str)=none∧fs.lookup ("gone":Str)=none∧fs.lookup ("came":Str)=none∧fs.lookup ("nests":Str)=none
 i_hit:∀{ns:List Str} {n:Int} {s:St} {l:List Str} {z:Str},inv ns n s l→z∈ns→z∈l→inv ns n (asked n s z) l
 i_mid:∀{ns:List Str} {n:Int} {s:St} {l:List Str} {z:Str},inv ns n s l→z∈ns→z∉l→mid ns n z (asked n s z) l
 i_pick:∀{ns:List Str} {n:Int} {s:St} {l:List Str} {z:Str},mid ns n z s l→l≠[]→(pick n s l).2∈l∧mid ns n z (gone n (pick n s l).1 (pick n s l).2) (l.erase (pick n s l).2)
 i_came:∀{ns:List Str} {n:Int} {s:St} {l:List Str} {z:Str},mid ns n z s l→z∈ns→z∉l→inv ns n (came n s z) (l++[z])
 cnt:St→Nat:=fun _=>0
 c_ask:∀n s z,cnt (asked n s z)≤cnt s+1:=by exact fun _ _ _=>FB _
 c_pick:∀n s l,cnt (pick n s l).1≤cnt s:=by exact fun _ _ _=>FB _
 c_gone:∀n s z,cnt (gone n s z)≤cnt s:=by exact fun _ _ _=>FB _
 c_came:∀n s z,cnt (came n s z)≤cnt s:=by exact fun _ _ _=>FB _
def gfin(T:Ay)(R:Str→Int)(n need:Int):Nat→T.St→List Str→List Str→T.St×List Str×List Str
 | 0,s,l,w=>(s,l,w)
 | k+1,s,l,w=>if need≤n - N41.sm R l then (s,l,w) else gfin T R n need k (T.gone n (T.pick n s l).1 (T.pick n s l).2) (l.erase (T.pick n s l).2) (w++[(T.pick n s l).2])
def gf(T:Ay)(R:Str→Int)(n need:Int)(s:T.St)(l w:List Str):T.St×List Str×List Str:=gfin T R n need l.length s l w
section
variable {T:Ay} {R:Str→Int} {n need:Int} {s:T.St} {l w ns:List Str} {z:Str}
theorem L7(h:need≤n - N41.sm R l):gf T R n need s l w=(s,l,w):=by
 unfold gf
 cases hk:l.length with
 | zero=>rfl
 | succ k=>
  show (if _ then _ else _)=_;rw [if_pos h]
theorem J00(h:¬need≤n - N41.sm R l)(hp:(T.pick n s l).2∈l):gf T R n need s l w=gf T R n need (T.gone n (T.pick n s l).1 (T.pick n s l).2) (l.erase (T.pick n s l).2) (w++[(T.pick n s l).2]):=by
 unfold gf;have hl:=HP hp;have h0:0 < l.length:=RV hp;rw [show l.length=(l.erase (T.pick n s l).2).length+1 by omega];show (if _ then _ else _)=_;rw [if_neg h]
theorem Wn:∀(k:Nat) (s:T.St) (l w:List Str),l.length=k→T.mid ns n z s l→need≤n→T.mid ns n z (gf T R n need s l w).1 (gf T R n need s l w).2.1∧need≤n - N41.sm R (gf T R n need s l w).2.1∧(∀u∈(gf T R n need s l w).2.1,u∈l)∧(l.Nodup→(gf T R n need s l w).2.1.Nodup)∧(gf T R n need s l w).2.1.length≤l.length:=by
 intro k
 induction k with
 | zero=>
  intro s l w hk hm hn;have hL:l=[]:=Ha.mp hk;subst hL
  have he:need≤n - N41.sm R []:=by rw [N41.Oj];omega
  rw [L7 he];exact ⟨hm,he,fun z hz=>hz,id,Fh _⟩
 | succ k ih=>
  intro s l w hk hm hn
  by_cases he:need≤n - N41.sm R l
  · rw [L7 he]
    exact ⟨hm,he,fun z hz=>hz,id,Fh _⟩
  · have hne:l≠[]:=fun e=>by rw [e]at hk;cases hk
    obtain ⟨hp,hm2⟩:=T.i_pick hm hne;rw [J00 he hp];have hl:=HP hp;obtain ⟨a,b,c,d,e⟩:=ih _ _ (w++[(T.pick n s l).2]) (by omega) hm2 hn;exact ⟨a,b,fun u hu=>HL (c u hu),fun hnd=>d (hnd.erase _),by omega⟩
end
def gask(T:Ay)(R:Str→Int)(n:Int)(s:T.St×List Str)(z:Str):(T.St×List Str)×N14.Row:=
 if z∈s.2 then ((T.asked n s.1 z,s.2),(z,true,[]))
 else ((T.came n (gf T R n (R z) (T.asked n s.1 z) s.2 []).1 z,(gf T R n (R z) (T.asked n s.1 z) s.2 []).2.1++[z]),(z,false,(gf T R n (R z) (T.asked n s.1 z) s.2 []).2.2))
def gst(T:Ay)(R:Str→Int)(n:Int)(s0:T.St)(ys:List Str)(i:Nat):T.St×List Str:=(ys.take i).foldl (fun s z=>(gask T R n s z).1) (s0,[])
def grow(T:Ay)(R:Str→Int)(n:Int)(s0:T.St)(ys:List Str)(i:Nat):N14.Row:=(gask T R n (gst T R n s0 ys i) (ys.getD i Str.empty)).2
def grows(T:Ay)(R:Str→Int)(n:Int)(s0:T.St)(ys:List Str)(i:Nat):List N14.Row:=(List.range i).map (grow T R n s0 ys)
section
variable {T:Ay} {R:Str→Int} {n:Int} {s0:T.St} {ys ns:List Str} {i:Nat} {z:Str}
theorem K0(h:ys[i]?=some z):gst T R n s0 ys (i+1)=(gask T R n (gst T R n s0 ys i) z).1:=by
 unfold gst;rw [Hg,h,JS];rfl
theorem Sq(h:ys[i]?=some z):grow T R n s0 ys i=(gask T R n (gst T R n s0 ys i) z).2:=by
 unfold grow;rw [Fc,h];rfl
theorem Kk:(grows T R n s0 ys i).length=i:=by unfold grows;rw [Fa,Fv]
theorem J5l{u v:Str}{l:List Str}(e:u=v)(h:u∈l):v∈l:=e▸h
structure GI(T:Ay)(ns:List Str)(n:Int)(s:T.St×List Str):Prop where
 i:T.inv ns n s.1 s.2
 nd:s.2.Nodup
 s:∀u∈s.2,u∈ns
theorem GI.ask{s:T.St×List Str}(h:GI T ns n s)(hz:z∈ns)(hR:R z≤n):GI T ns n (gask T R n s z).1:=by
 unfold gask;split
 · rename_i hm
   exact ⟨T.i_hit h.i hz hm,h.nd,h.s⟩
 · rename_i hm
   obtain ⟨a,b,c,d,e⟩:=Wn (R:=R) _ _ _ [] rfl (T.i_mid h.i hz hm) hR;have hm2:z∉(gf T R n (R z) (T.asked n s.1 z) s.2 []).2.1:=fun hh=>hm (c z hh);refine ⟨T.i_came a hz hm2,?_,fun u hu=>?_⟩
   · show ((gf T R n (R z) (T.asked n s.1 z) s.2 []).2.1++[z]).Nodup
     rw [Hq];refine ⟨d h.nd,by simp,fun y hy u hu e=>hm2 (J5l (e.trans (Fj.mp hu)) hy)⟩
   · rcases FI.mp hu with hu | hu
     · exact h.s u (c u hu)
     · rw [Fj.mp hu];exact hz
theorem Nx(h0:T.inv ns n s0 [])(hin:∀y∈ys,y∈ns)(hR:∀y∈ys,R y≤n):∀i,i≤ys.length→GI T ns n (gst T R n s0 ys i)
 | 0,_=>⟨h0,HQ,by simp [gst]⟩
 | i+1,h=>by
  have hz:=Fb (show i < ys.length by omega);have hm:=Fk hz;rw [K0 hz];exact (Nx h0 hin hR i (by omega)).ask (hin _ hm) (hR _ hm)
end
theorem J5m{T:Ay}{R:Str→Int}{n need:Int}:∀(k:Nat) (s:T.St) (l w:List Str),T.cnt (gfin T R n need k s l w).1≤T.cnt s:=by
 intro k
 induction k with
 | zero=>intro s l w;exact Fh _
 | succ k ih=>
  intro s l w;unfold gfin;split
  · exact Fh _
  · exact FC (ih _ _ _) (FC (T.c_gone _ _ _) (T.c_pick _ _ _))
theorem J5n{T:Ay}{R:Str→Int}{n:Int}{s:T.St×List Str}{z:Str}:T.cnt (gask T R n s z).1.1≤T.cnt s.1+1:=by
 unfold gask;split
 · exact T.c_ask _ _ _
 · exact FC (T.c_came _ _ _) (FC (J5m _ _ _ _) (T.c_ask _ _ _))
theorem J01{T:Ay}{R:Str→Int}{n:Int}{s0:T.St}{ys:List Str}:∀i,i≤ys.length→T.cnt (gst T R n s0 ys i).1≤T.cnt s0+i
 | 0,_=>Fh _
 | i+1,h=>by
  have hz:=Fb (show i < ys.length by omega);rw [K0 hz];have:=J01 (T:=T) (R:=R) (n:=n) (s0:=s0) (ys:=ys) i (by omega);have h2:=J5n (T:=T) (R:=R) (n:=n) (s:=gst T R n s0 ys i) (z:=ys[i]);omega
structure Ds(T:Ay)(K:PySem.W.Frag)(C S:Addr)(H0 H:Hp)(q p sh d:Addr)(M:List Addr)(n:Int)(ts:List Th)(ls:Ly)(s:T.St):Prop where
 h:T.At H M q p n s
 shf:B4 S H sh p d n ls
 st:Aa K C H0 p ts
 sm:A7 H0 H
 n0:∀m∈M,H0 m=none
 nd:H0 d=none
 nsh:sh∉M
 ndm:d∉M
 ok:OkL (rm ts) (ts.map (·.1)) ls
section
variable {T:Ay} {K:PySem.W.Frag} {C S:Addr} {H0 H H' H1 H2:Hp} {q p sh d w:Addr} {M:List Addr} {n:Int} {ts:List Th} {ls:Ly} {s s':T.St}
theorem Sr(e:A7 H H')(h:T.At H M q p n s):T.At H' M q p n s:=T.dep (fun m _ o=>e m o) h
theorem J5o(e:SameBut d H H')(hd:d∉M)(h:T.At H M q p n s):T.At H' M q p n s:=T.dep (fun m hm o e1=>e m o e1 (fun e2=>hd (e2▸hm))) h
theorem Ds.same(r:Ds T K C S H0 H q p sh d M n ts ls s)(e:A7 H H'):Ds T K C S H0 H' q p sh d M n ts ls s:=
 ⟨Sr e r.h,r.shf.same e,r.st,r.sm.trans e,r.n0,r.nd,r.nsh,r.ndm,r.ok⟩
theorem Ds.x(r:Ds T K C S H0 H q p sh d M n ts ls s):C6 K C H p ts d:=(C6.of r.st r.nd).same r.sm
theorem Ds.left(r:Ds T K C S H0 H q p sh d M n ts ls s):n - lyS ls=n - N41.sm (rm ts) (lyN ls):=by rw [So (ns:=ts.map (·.1)) r.ok.r]
theorem Ds.rule(r:Ds T K C S H0 H q p sh d M n ts ls s)(k:Kp M H H')(h:T.At H' M q p n s'):Ds T K C S H0 H' q p sh d M n ts ls s':=
 ⟨h,⟨r.shf.o.imp fun _ e=>k _ _ r.nsh e,k _ _ r.ndm r.shf.d,r.shf.nd⟩,r.st,Kp.same r.sm k r.n0,r.n0,r.nd,r.nsh,r.ndm,r.ok⟩
theorem Ds.shelf{ls':Ly}(r:Ds T K C S H0 H q p sh d M n ts ls s)(k:SameBut d H H')(hs:B4 S H' sh p d n ls')(ok:OkL (rm ts) (ts.map (·.1)) ls'):Ds T K C S H0 H' q p sh d M n ts ls' s:=
 ⟨J5o k r.ndm r.h,hs,r.st,P1 r.sm r.nd k,r.n0,r.nd,r.nsh,r.ndm,ok⟩
theorem Ds.lst{zs:List V}(r:Ds T K C S H0 H q p sh d M n ts ls s)(k:SameBut w H H')(hw:H w=some (.lst zs))(hm:w∉M)(h0:H0 w=none):Ds T K C S H0 H' q p sh d M n ts ls s:=
 ⟨J5o k hm r.h,r.shf.butL k hw,r.st,P1 r.sm h0 k,r.n0,r.nd,r.nsh,r.ndm,r.ok⟩
theorem Ds.free{b:Addr}(r:Ds T K C S H0 H q p sh d M n ts ls s)(hb:H b=none):b∉d::M:=fun hm=>by
 rcases Fy.mp hm with e | e
 · rw [e,r.shf.d]at hb;cases hb
 · exact T.live r.h b e hb
theorem Lz{M:List Addr}{d:Addr}{H H':Hp}(k:Kp M H H'):Kp (d::M) H H':=fun b o n e=>k b o (fun h=>n (Fn _ h)) e
theorem J5p{a:Addr}{xs:List V}(h:SqL K H a xs)(k:Kp M H H')(na:a∉M):SqL K H' a xs:=by
 rcases h with (h | ⟨o,h⟩) | h
 · exact .inl (.inl (k _ _ na h))
 · exact .inl (.inr ⟨o,k _ _ na h⟩)
 · exact .inr h
end
def Kl(T:Ay):Sp:=fun vs H Q _=>∃(q p:Addr) (n:Int) (M:List Addr) (s:T.St) (l ns:List Str) (z:Str),vs=[.ref q,.str z]∧T.At H M q p n s∧T.inv ns n s l∧z∈ns∧ns.length≤60∧∀H',Kp M H H'→T.At H' M q p n (T.asked n s z)→Q .non H'
def Gs(T:Ay)(K:PySem.W.Frag):Sp:=fun vs H Q _=>∃(q p a:Addr) (n:Int) (M:List Addr) (s:T.St) (l ns:List Str) (z:Str),vs=[.ref q,.ref a]∧T.At H M q p n s∧T.mid ns n z s l∧l≠[]∧H a=some (.lst (l.map V.str))∧a∉M∧ns.length≤60∧l.length≤60∧T.cnt s≤300∧∀H',Kp M H H'→T.At H' M q p n (T.pick n s l).1→Q (.str (T.pick n s l).2) H'
def M0(T:Ay):Sp:=fun vs H Q _=>∃(q p:Addr) (n:Int) (M:List Addr) (s:T.St) (l ns:List Str) (z:Str),vs=[.ref q,.str (T.pick n s l).2]∧T.At H M q p n (T.pick n s l).1∧T.mid ns n z s l∧l≠[]∧ns.length≤60∧∀H',Kp M H H'→T.At H' M q p n (T.gone n (T.pick n s l).1 (T.pick n s l).2)→Q .non H'
def M3(T:Ay):Sp:=fun vs H Q _=>∃(q p:Addr) (n:Int) (M:List Addr) (s:T.St) (l ns:List Str) (z:Str),vs=[.ref q,.str z]∧T.At H M q p n s∧T.mid ns n z s l∧z∈ns∧z∉l∧ns.length≤60∧∀H',Kp M H H'→T.At H' M q p n (T.came n s z)→Q .non H'
def M4(T:Ay)(K:PySem.W.Frag)(C S:Addr):Sp:=fun vs H Q _=>∃(H0:Hp) (q p sh d:Addr) (M:List Addr) (n need:Int) (ts:List Th) (ls:Ly) (s:T.St) (z:Str),vs=[.ref q,.ref sh,.int need]∧Ds T K C S H0 H q p sh d M n ts ls s∧T.mid (ts.map (·.1)) n z s (lyN ls)∧need≤n∧ls.length≤60∧ts.length≤60∧T.cnt s≤300∧
 ∀(w:Addr) (ls':Ly) (H':Hp),Kp (d::M) H H'→H w=none→H' w=some (.lst ((gf T (rm ts) n need s (lyN ls) []).2.2.map V.str))→lyN ls'=(gf T (rm ts) n need s (lyN ls) []).2.1→Ds T K C S H0 H' q p sh d M n ts ls' (gf T (rm ts) n need s (lyN ls) []).1→Q (.ref w) H'
def Ny(T:Ay)(K:PySem.W.Frag)(C S:Addr):Sp:=fun vs H Q _=>∃(H0:Hp) (q p sh d:Addr) (M:List Addr) (n:Int) (ts:List Th) (ls:Ly) (s:T.St) (z:Str),vs=[.ref q,.ref sh,.str z]∧Ds T K C S H0 H q p sh d M n ts ls s∧T.inv (ts.map (·.1)) n s (lyN ls)∧(ts.map (·.1)).Nodup∧ts.length≤60∧z∈ts.map (·.1)∧rm ts z≤n∧T.cnt s≤299∧
 ∀(t g:Addr) (ls':Ly) (H':Hp),Kp (d::M) H H'→H t=none→H g=none→H' t=some (.tup [.str (gask T (rm ts) n (s,lyN ls) z).2.1,.bl (gask T (rm ts) n (s,lyN ls) z).2.2.1,.ref g])→H' g=some (.lst ((gask T (rm ts) n (s,lyN ls) z).2.2.2.map V.str))→lyN ls'=(gask T (rm ts) n (s,lyN ls) z).1.2→Ds T K C S H0 H' q p sh d M n ts ls' (gask T (rm ts) n (s,lyN ls) z).1.1→Q (.ref t) H'
end NR
namespace L2
section
variable {X:Cx} {pins:List (Addr×Obj)} {σ:St} {H:Hp} {s:Shared} {a C dx g:Addr} {fs:List (Str×V)} {m:Str} {A:Around} {E:Value→Shared→Prop}
theorem Vd{b:Bool}{Q:Value→Shared→Prop}(I:Inv X pins σ H s)(e:H a=some (.ins C dx fs))(c:Cls X.K C)(k:Cj X.K C m g)(l:fs.lookup m=none)
 (hgf:PySem.W.specialIn X.K (.ref g) "__get__"=some (some (.builtin "function.__get__"))) (ht:PySem.W.takesIn X.K (.ref g)=some false) (hc:PySem.W.copiedNames.contains m=false)
 (h:Q (.ref s.heap.objs.size) {s with heap:=s.heap.push (PySem.W.methodObj (.ref g) (.ref a)),toks:=s.toks+1}):wpAny (model X.prog X.w) A (getAttr (.ref a) m b) Q E s:=by
 obtain ⟨mA,O,r,_,_,_⟩:=Lb I.hok e;have hn:mA m=none:=G1.none_of (by rw [← l];exact r m);obtain ⟨od,J,hl⟩:=O.look;have hK:X.K.In ({s with toks:=s.toks+1}:Shared).heap:=I.kIn
 exact PySem.W.get_bind I.kIn J (RD (c.get m)).1 (PySem.W.findObj_fn c.hd k.at_ hgf ht hc (by rw [hl,hn])) (RD (c.get m)).2
  (RY (PySem.W.fn_get (s:={s with toks:=s.toks+1}) hK (R7.mp k.fn) (PySem.W.handed_on rfl h)))
end
end L2
namespace L2
section
variable {X:Cx} {k:Nat} {f a q:Addr} {fd:FuncData} {ps:List Str} {sp:Sp}
theorem P5{pins:List (Addr×Obj)}{σ:St}{H:Hp}{s:Shared}{Q:VK}{us:List Value}{vs:List V}{E:Value→Shared→Prop}(F:Ar X.prog X.w X.K X.mg X.base CX0 k f fd ps sp)(hr:Bt (k+1) X.A)(hb:Ca X.K fd ps [])
 (I:Inv X pins σ H s) (r:Au vs us) (hq:s.heap.get? q=some (PySem.W.methodObj (.ref f) (.ref a))) (h:sp (.ref a::vs) H Q E0):wpAny (model X.prog X.w) X.A.in1 (call (.ref q) us) (EP X pins σ Q) E s:=by
 have r':Au (V.ref a::vs) (Value.ref a::us):= .cons rfl r
 have hl:(Value.ref a::us).length=ps.length:=by rw [← r'.length];exact F.len _ _ _ _ h
 have hb':=hb s (Value.ref a::us) I.kIn (by simpa using hl);rw [FT]at hb';refine RY (ks_codeAny_call_bound (a:=⟨us,[]⟩) hq (HY (F.run X.A.in1 X.stack s H ⟨Value.ref a::us,[]⟩ (Value.ref a::us) (V.ref a::vs) Q E0 hr.in1 (Lc.in1 I.env0) hb' r' h) fun r s' hq=>?_))
 cases r with
 | error e=>exact False.elim hq
 | ok fl=>
  cases fl with
  | ret u=>exact I.after hq
  | next=>exact False.elim hq
  | brk=>exact False.elim hq
  | cont=>exact False.elim hq
end
def btK(kf:Nat→List Int):Nat→Nat→Bool:=fun i j=>HT.E5 (kf i) (kf j)
section
variable {X:Cx} {pins:List (Addr×Obj)} {σ:St} {k:Nat} {g a q mo it S:Addr} {fd:FuncData} {ps:List Str} {sp:Sp} {H0:Hp} {xs:List V} {kf:Nat→List Int} {R:Result→Shared→Prop}
theorem Inv.turn1{H:Hp}{s:Shared}{b:Addr}{h':Heap}{t':Nat}(I:Inv X pins σ H s)(fp:Dr X pins H b)(hk:∀c o,c≠b→s.heap.get? c=some o→h'.get? c=some o):Inv X pins σ H {s with heap:=h',toks:=t'}:=
 I.turned hk fp.1 fp.2.1 fp.2.2.2.1 fp.2.2.2.2.1 fp.2.2.2.2.2
theorem Dr.at{H H':Hp}{b:Addr}(h:Dr X pins H b)(hn:H' b=none):Dr X pins H' b:=⟨hn,h.2⟩
theorem J1n(F:Ar X.prog X.w X.K X.mg X.base CX0 k g fd ps sp)(hr:Bt (k+1) X.A)(hb:Ca X.K fd ps [])(hq:SqL X.K H0 a xs)(hai:a≠it)
 (turn:∀i v,xs[i]?=some v→∀H',A7 H0 H'→sp [.ref q,v] H' (fun u H''=>A7 H' H''∧∃t,u= .ref t∧H'' t=some (.tup ((kf i).map V.int))) E0)
 (hR:∀v u H' s',A7 H0 H'→Inv X pins σ H' s'→Ax v u→xs[argBest (btK kf) (xs.length - 1)]?=some v→R (.ok (.ret u)) s')
 (nmi:mo≠it) (nms:mo≠S) (nis:it≠S):
 ∀(r j:Nat) (s:Shared) (H:Hp) (vb:Value) (t:Addr) (c:Nat) (v0:V),xs.length - (j+1)=r→j+1≤xs.length→Inv X pins σ H s→A7 H0 H→Dr X pins H mo→Dr X pins H it→Dr X pins H S→
   s.heap.get? mo=some (PySem.W.methodObj (.ref g) (.ref q))→s.heap.get? S=some (seqObj "list" #[vb,.ref t] c)→s.heap.IsListIter it a (j+1)→
   xs[argBest (btK kf) j]?=some v0→Ax v0 vb→H t=some (.tup ((kf (argBest (btK kf) j)).map V.int))→
   codeAny (model X.prog X.w) X.A (.builtin "min.loop" ⟨[.ref it,.ref mo,.ref S],[]⟩) R s:=by
 have hname:(toString "min"++toString ".loop":String)="min.loop":=by decide
 have hh:X.A.in1.handled=none:=hr.hd;intro r
 induction r with
 | zero=>
  intro j s H vb t c v0 hrr hj I sm fm fi fs gm gS hit hx0 rv0 ht;obtain ⟨its,rv,p,hz⟩:=I.list (sm.seq hq);have hln:=rv.length;have W:=Walks.list (prog:=X.prog) (w:=X.w) (A:=X.A.in1) hh it a hai its.toArray
  have hsz:its.toArray.size=xs.length:=by rw [Fl,hln]
  have hin:j+1=xs.length:=by omega
  refine HW Jp ?_;rw [Around.under_plainId HD _];show wpAny _ X.A.in1 (seqItems? (.ref S) >>=_) _ _ _;refine Fd (J7 gS rfl ?_);show wpAny _ X.A.in1 (tryCatch (pyNext (.ref it)) _ >>=_) _ _ _;refine Fd (RQ (W.done _ _ _ ⟨by rw [hsz,← hin];exact hit,p.isList⟩ fun h' tk' hk'=>?_));have hk2:∀b o,b≠it→s.heap.get? b=some o→h'.get? b=some o:=fun b o e=>hk' b o (by simpa using e);have I1:Inv X pins σ H {s with heap:=h',toks:=tk'}:=I.turn1 fi hk2;have gS':=hk2 S _ (Ne.symm nis) gS;have s1:=Hi h' S (Obj.mapSeq fun _=>(#[]:Array Value));show wpAny _ X.A.in1 (updateSeq S (fun _=>#[]) >>=_) _ _ _;refine Fd ?_;refine J3 gS' rfl (Fd (JY (Fi ?_)));refine hR v0 vb H _ sm (I1.turn1 (t':=tk') fs fun b o e e2=>(s1.2 b e).trans e2) rv0 ?_;rw [show xs.length - 1=j by omega]
  exact hx0
 | succ r ih=>
  intro j s H vb t c v0 hrr hj I sm fm fi fs gm gS hit hx0 rv0 ht;obtain ⟨its,rv,p,hz⟩:=I.list (sm.seq hq);have hln:=rv.length;have W:=Walks.list (prog:=X.prog) (w:=X.w) (A:=X.A.in1) hh it a hai its.toArray
  have hsz:its.toArray.size=xs.length:=by rw [Fl,hln]
  have hlt:j+1 < xs.length:=by omega
  refine HW Jp ?_;rw [Around.under_plainId HD _];show wpAny _ X.A.in1 (seqItems? (.ref S) >>=_) _ _ _;refine Fd (J7 gS rfl ?_);show wpAny _ X.A.in1 (tryCatch (pyNext (.ref it)) _ >>=_) _ _ _;refine Fd (RQ (W.item (j+1) _ _ _ (by rw [hsz];exact hlt) ⟨hit,p.isList⟩ fun v h' tk' hP hst' hk'=>?_));have hk2:∀b o,b≠it→s.heap.get? b=some o→h'.get? b=some o:=fun b o e=>hk' b o (by simpa using e);have hxj:=Fb hlt;obtain ⟨v',hv',rv'⟩:=rv.get hxj
  have hvv:v'=v:=by
   have:its[j+1]?=some v:=by simpa using hP
   rw [hv']at this;exact FS this
  subst hvv;obtain ⟨oI',hoI',hoc,hod⟩:=id hst'.1;have I1:Inv X pins σ H {s with heap:=h',toks:=tk'}:=I.turn1 fi hk2;have gS':=hk2 S _ (Ne.symm nis) gS;have gm':=hk2 mo _ nmi gm
  have I1p:Inv X (pins++[(mo,PySem.W.methodObj (.ref g) (.ref q)),(S,seqObj "list" #[vb,.ref t] c),(it,oI')]) σ H {s with heap:=h',toks:=tk'}:=I1.pins_of fun p hp=>by
   rcases FI.mp hp with hp | hp
   · exact I1.pin p (FG _ hp)
   · simp only [Fy,HN,or_false]at hp
     rcases hp with rfl | rfl | rfl
     · exact ⟨gm',fm.1,fm.2.1,fm.2.2.1,fun v e=>by cases e⟩
     · exact ⟨gS',fs.1,fs.2.1,fs.2.2.1,fun v e=>by cases e⟩
     · exact ⟨hoI',fi.1,fi.2.1,fi.2.2.1,fun v e=>by rw [hod]at e;cases e⟩
  show wpAny _ X.A.in1 (tryCatch (holding [v'] (call (.ref mo) [v'])) _ >>=_) _ _ _;refine Fd (RQ (R3 (thn (P5 (vs:=[xs[j+1]]) F hr hb I1p (.cons rv' .nil) gm' (turn (j+1) _ hxj H sm)) fun x s2 he=>?_)));obtain ⟨y,H2,I2p,ry,sm2,t2,rfl,ht2⟩:=he;obtain rfl:x=Value.ref t2:=ry;have P2:=fun p hp=>I2p.pin p (FG _ (FG _ hp));have pm:=P2 (mo,PySem.W.methodObj (.ref g) (.ref q)) (by simp);have pS:=P2 (S,seqObj "list" #[vb,.ref t] c) (by simp);have pI:=P2 (it,oI') (by simp);have I2:Inv X pins σ H2 s2:=I2p.pins_of fun p hp=>I2p.pin p (FG _ (Re _ hp))
  have hit2:s2.heap.IsListIter it a (j+1+1):=⟨oI',pI.1,hoc,hod⟩
  have smx:=sm.trans sm2;have ht':=sm2 _ _ ht;obtain ⟨us1,r1,p1,_⟩:=I2.tuple (SqT.of ht2);obtain ⟨us2,r2,p2,_⟩:=I2.tuple (SqT.of ht');have hu:X.A.in1.units < cLine:=FM (by omega) hr.in1.un;show wpAny _ X.A.in1 (tryCatch (holding [v',.ref t2] (richCompare .Lt (.ref t2) (.ref t) >>=_)) _ >>=_) _ _ _;refine Fd (RQ (R3 (Fd (HT.Vt p1 p2 (O9 r1) (O9 r2) hu ?_))));refine Fd (R3 (Ra ?_));refine Fd (JY (Fi ?_))
  have eB:argBest (btK kf) (j+1)=if HT.E5 (kf (j+1)) (kf (argBest (btK kf) j))=true then j+1 else argBest (btK kf) j:=rfl
  by_cases hb':HT.E5 (kf (j+1)) (kf (argBest (btK kf) j))=true
  · have s1:=Hi s2.heap S (Obj.mapSeq fun _=>#[v',.ref t2])
    obtain ⟨c2,hc2⟩:∃c2,(s2.heap.update S (Obj.mapSeq fun _=>#[v',.ref t2])).get? S=some (seqObj "list" #[v',.ref t2] c2):=⟨_,get?_update_seq pS.1 fun _=>#[v',.ref t2]⟩
    rw [if_pos hb']at eB;simp only [hb',if_true];refine Fd ?_;refine J3 pS.1 rfl (Fd (JY ?_));rw [hname];have I3:Inv X pins σ H2 {s2 with heap:=s2.heap.update S (Obj.mapSeq fun _=>#[v',.ref t2]),toks:=s2.toks}:=I2.turn1 (fs.at pS.2.1) fun b o e e2=>(s1.2 b e).trans e2;exact Fi ⟨Rf HD _,ih (j+1) _ H2 v' t2 c2 _ (by omega) hlt I3 smx (fm.at pm.2.1) (fi.at pI.2.1) (fs.at pS.2.1) ((s1.2 mo nms).trans pm.1) hc2 ⟨oI',(s1.2 it nis).trans pI.1,hoc,hod⟩ (by rw [eB];exact hxj) rv' (by rw [eB];exact ht2)⟩
  · rw [if_neg hb']at eB
    simp only [hb',Bool.false_eq_true,if_false];refine Fd (JY ?_);rw [hname];exact Fi ⟨Rf HD _,ih (j+1) s2 H2 vb t c v0 (by omega) hlt I2 smx (fm.at pm.2.1) (fi.at pI.2.1) (fs.at pS.2.1) pm.1 pS.1 hit2 (by rw [eB];exact hx0) rv0 (by rw [eB];exact ht')⟩
end
section
variable {X:Cx} {pins:List (Addr×Obj)} {σ:St} {k:Nat} {g a q mo:Addr} {fd:FuncData} {ps:List Str} {sp:Sp} {H:Hp} {s:Shared} {xs:List V} {kf:Nat→List Int} {Q:VK}
theorem J1o(F:Ar X.prog X.w X.K X.mg X.base CX0 k g fd ps sp)(hr:Bt (k+1) X.A)(hb:Ca X.K fd ps [])(I:Inv X pins σ H s)(hq:SqL X.K H a xs)(hne:xs≠[])
 (gm:s.heap.get? mo=some (PySem.W.methodObj (.ref g) (.ref q))) (fm:Dr X pins H mo)
 (turn:∀i v,xs[i]?=some v→∀H',A7 H H'→sp [.ref q,v] H' (fun u H''=>A7 H' H''∧∃t,u= .ref t∧H'' t=some (.tup ((kf i).map V.int))) E0)
 (hQ:∀v H',A7 H H'→xs[argBest (btK kf) (xs.length - 1)]?=some v→Q v H'):
 wpAny (model X.prog X.w) X.A (call (.builtin "min") [.ref a] [(Str.ofString "key",.ref mo)]) (EP X pins σ Q) X.xe s:=by
 have hname:(toString "min"++toString ".loop":String)="min.loop":=by decide
 have hh:X.A.in1.handled=none:=hr.hd;obtain ⟨its,rv,p,hz⟩:=I.list hq;have hln:=rv.length;have hpos:0 < xs.length:=RF.mpr hne
 have hla:a < s.heap.objs.size:=by obtain ⟨o,n,e,_⟩:=p;exact Fm e
 have hlm:mo < s.heap.objs.size:=Fm gm;refine kmk_tree PySem.F.kind_min PySem.F.plain_min PySem.F.entry_min (kmk_min_key _ _) ?_;show wpAny _ X.A.in1 (Builtin.Builtins.bindParams "min" ["key","default"] 0 ⟨[],[(Str.ofString "key",.ref mo)]⟩ >>=_) _ _ s;refine Fd (JX (show Builtin.Builtins.bindParams "min" ["key","default"] 0 ⟨[],[(Str.ofString "key",.ref mo)]⟩=pure [some (.ref mo),none] from rfl) ?_);refine Fd (Fi ?_);refine Fd (Rt p.isList ?_);refine Fd (wpAny_newList ?_ (FB _));rw [hname];refine Fi ⟨Rf HD _,?_⟩;have hS:(s.heap.push {cls:= .type "list_iterator",data:= .fields #[.ref a,.int 0 0]}).objs.size=s.heap.objs.size+1:=size_push' ..;generalize hSe:(s.heap.push {cls:= .type "list_iterator",data:= .fields #[.ref a,.int 0 0]}).objs.size=S at hS;have hai:a≠s.heap.objs.size:=Fs hla
 have nmi:mo≠s.heap.objs.size:=Fs hlm
 have nms:mo≠S:=by rw [hS];exact Fs (HU hlm)
 have nis:s.heap.objs.size≠S:=by rw [hS];exact Fs (Hu _)
 have k1:∀b o,s.heap.get? b=some o→((s.heap.push {cls:= .type "list_iterator",data:= .fields #[.ref a,.int 0 0]}).push (seqObj "list" #[] 0)).get? b=some o:=fun b o e=>Ff _ (Ff _ e);have fi:Dr X pins H s.heap.objs.size:=I.fpOk (Fh _) (I.hok.fresh (Fh _));have fs:Dr X pins H S:=I.fpOk (by rw [hS];exact R5 _) (I.hok.fresh (by rw [hS];exact R5 _));have gI:((s.heap.push {cls:= .type "list_iterator",data:= .fields #[.ref a,.int 0 0]}).push (seqObj "list" #[] 0)).get? s.heap.objs.size=some {cls:= .type "list_iterator",data:= .fields #[.ref a,.int 0 0]}:=Ff _ (Fo _ rfl)
 have gS:((s.heap.push {cls:= .type "list_iterator",data:= .fields #[.ref a,.int 0 0]}).push (seqObj "list" #[] 0)).get? S=some (seqObj "list" #[] 0):=by rw [← hSe];exact Fo _ rfl
 have gm1:=k1 _ _ gm;have I1:Inv X pins σ H {s with heap:=(s.heap.push {cls:= .type "list_iterator",data:= .fields #[.ref a,.int 0 0]}).push (seqObj "list" #[] 0),toks:=s.toks}:=I.kept k1;obtain ⟨its',rv1,p1,_⟩:=I1.list hq;have hln1:=rv1.length;have W:=Walks.list (prog:=X.prog) (w:=X.w) (A:=X.A.in1) hh s.heap.objs.size a hai its'.toArray
 have hsz:its'.toArray.size=xs.length:=by rw [Fl,hln1]
 refine HW Jp ?_;rw [Around.under_plainId HD _];show wpAny _ X.A.in1 (seqItems? (.ref S) >>=_) _ _ _;refine Fd (J7 gS rfl ?_);show wpAny _ X.A.in1 (tryCatch (pyNext (.ref s.heap.objs.size)) _ >>=_) _ _ _;refine Fd (RQ (W.item 0 _ _ _ (by rw [hsz];exact hpos) ⟨⟨_,gI,rfl,rfl⟩,p1.isList⟩ fun v h' tk' hP hst' hk'=>?_));have hk2:∀b o,b≠s.heap.objs.size→((s.heap.push {cls:= .type "list_iterator",data:= .fields #[.ref a,.int 0 0]}).push (seqObj "list" #[] 0)).get? b=some o→h'.get? b=some o:=fun b o e=>hk' b o (by simpa using e);have hx0:=Fb hpos;obtain ⟨v',hv',rv'⟩:=rv1.get hx0
 have hvv:v'=v:=by
  have:its'[0]?=some v:=by simpa using hP
  rw [hv']at this;exact FS this
 subst hvv;obtain ⟨oI',hoI',hoc,hod⟩:=id hst'.1;have I2:Inv X pins σ H {s with heap:=h',toks:=tk'}:=I1.turn1 fi hk2;have gS':=hk2 S _ (Ne.symm nis) gS;have gm':=hk2 mo _ nmi gm1
 have I2p:Inv X (pins++[(mo,PySem.W.methodObj (.ref g) (.ref q)),(S,seqObj "list" #[] 0),(s.heap.objs.size,oI')]) σ H {s with heap:=h',toks:=tk'}:=I2.pins_of fun p hp=>by
  rcases FI.mp hp with hp | hp
  · exact I2.pin p (FG _ hp)
  · simp only [Fy,HN,or_false]at hp
    rcases hp with rfl | rfl | rfl
    · exact ⟨gm',fm.1,fm.2.1,fm.2.2.1,fun v e=>by cases e⟩
    · exact ⟨gS',fs.1,fs.2.1,fs.2.2.1,fun v e=>by cases e⟩
    · exact ⟨hoI',fi.1,fi.2.1,fi.2.2.1,fun v e=>by rw [hod]at e;cases e⟩
 show wpAny _ X.A.in1 (tryCatch (holding [v'] (call (.ref mo) [v'])) _ >>=_) _ _ _;refine Fd (RQ (R3 (thn (P5 (vs:=[xs[0]]) F hr hb I2p (.cons rv' .nil) gm' (turn 0 _ hx0 H (A7.refl H))) fun x s2 he=>?_)));obtain ⟨y,H2,I3p,ry,sm2,t2,rfl,ht2⟩:=he;obtain rfl:x=Value.ref t2:=ry;have P2:=fun p hp=>I3p.pin p (FG _ (FG _ hp));have pm:=P2 (mo,PySem.W.methodObj (.ref g) (.ref q)) (by simp);have pS:=P2 (S,seqObj "list" #[] 0) (by simp);have pI:=P2 (s.heap.objs.size,oI') (by simp);have I3:Inv X pins σ H2 s2:=I3p.pins_of fun p hp=>I3p.pin p (FG _ (Re _ hp));have s1:=Hi s2.heap S (Obj.mapSeq fun _=>#[v',.ref t2])
 obtain ⟨c2,hc2⟩:∃c2,(s2.heap.update S (Obj.mapSeq fun _=>#[v',.ref t2])).get? S=some (seqObj "list" #[v',.ref t2] c2):=⟨_,get?_update_seq pS.1 fun _=>#[v',.ref t2]⟩
 show wpAny _ X.A.in1 (updateSeq S (fun _=>#[v',.ref t2]) >>=_) _ _ _;refine Fd ?_;refine J3 pS.1 rfl ?_;rw [hname];have I4:Inv X pins σ H2 {s2 with heap:=s2.heap.update S (Obj.mapSeq fun _=>#[v',.ref t2]),toks:=s2.toks}:=I3.turn1 (fs.at pS.2.1) fun b o e e2=>(s1.2 b e).trans e2;refine Fi ⟨Rf HD _,J1n (H0:=H) (kf:=kf) (xs:=xs) (a:=a) F hr hb hq hai turn (fun v u H' s' smH I' ru hv=>?_) nmi nms nis _ 0 _ H2 v' t2 c2 xs[0] rfl hpos I4 sm2 (fm.at pm.2.1) (fi.at pI.2.1) (fs.at pS.2.1) ((s1.2 mo nms).trans pm.1) hc2 ⟨oI',(s1.2 _ nis).trans pI.1,hoc,hod⟩ hx0 rv' ht2⟩;exact ⟨v,H',I',ru,hQ v H' smH hv⟩
end
structure Jbf(P:Program)(w:World)(K:PySem.W.Frag)(mg:Str→Option Value)(base:Heap)(k:Nat)(C:Addr)(m:Str)(ps:List Str)(sp:Sp):Prop where
 ex:∃(f:Addr) (fd:FuncData),Ar P w K mg base CX0 k f fd ps sp∧Cj K C m f∧Ca K fd ps []∧PySem.W.specialIn K (.ref f) "__get__"=some (some (.builtin "function.__get__"))∧PySem.W.takesIn K (.ref f)=some false
def J9p(K:PySem.W.Frag)(C:Addr)(m:Str)(sp:Sp)(ta:TA)(to:TE):TE:=fun σ H Q=>ta σ H fun vs H1=>to σ H1 fun o H2=>∃(a q dx:Addr) (fs:List (Str×V)) (xs:List V) (kf:Nat→List Int),vs=[.ref a]∧o= .ref q∧H2 q=some (.ins C dx fs)∧fs.lookup m=none∧SqL K H2 a xs∧xs≠[]∧
 (∀i v,xs[i]?=some v→∀H',A7 H2 H'→sp [.ref q,v] H' (fun u H''=>A7 H' H''∧∃t,u= .ref t∧H'' t=some (.tup ((kf i).map V.int))) E0)∧∀v H',A7 H2 H'→xs[argBest (btK kf) (xs.length - 1)]?=some v→Q v H'
section
variable {X:Cx} {k j:Nat} {C:Addr} {ps:List Str} {sp:Sp} {m:Str} {x:Str} {p pos apos kp:Pos} {e o:Expr} {t:TA} {to:TE}
theorem J81(D:Jbf X.prog X.w X.K X.mg X.base j C m ps sp)(c:Cls X.K C)(hr:Bt k X.A)(hg:Gl X x)(hm:X.mg x=none)(hv:bootBuiltins x=some (.builtin "min"))(ha:PA X [e] t)(ho:PE X o to)(hba:attributeBase o m X.env (eval o X.env)=eval o X.env)(hcn:PySem.W.copiedNames.contains m=false:=by decide+kernel)(hj:j+1≤k:=by decide)(hn:x≠"__name__":=by decide)(hdb:(x==("__debug__":Str))=false:=by decide)
 (he:backTo pos (starEach [e] X.env)=(false,eval e X.env)::backTo pos (starEach [] X.env):=by rfl) (hpl:(backTo pos (starEach [e] X.env)).any (·.1)=false:=by rfl):
 PE X (.Call (.Name x p) [e] [⟨some (Str.ofString "key"),.Attribute o m apos,kp⟩] pos) (J9p X.K C m sp t to):=by
 obtain ⟨g,fd,F,M,hb,hgf,htk⟩:=D.ex;intro pins s σ H Q I h;refine Hz (Gb I hg hm hv ?_ hn hdb);refine callWith_kw (thn (ha pos pins s σ H _ I h) fun us s1 hq_=>?_) he hpl;obtain ⟨vs,H1,I1,r1,q1⟩:=hq_;refine kws_cons (X6 hba (thn (ho pins s1 σ H1 _ I1 q1) fun u s2 hq_=>?_));obtain ⟨y,H2,I2,ry,a,q,dx,fs,xs,kf,ev,ey,hq,hl,hx,hne,turn,fin⟩:=hq_;subst ev ey;obtain rfl:u=Value.ref q:=ry;obtain ⟨u,rfl,ru⟩:=G2 r1;obtain rfl:u=Value.ref a:=ru;refine Vd I2 hq c M hl hgf htk hcn (kws_nil ?_);have I3:Inv X pins σ H2 {s2 with heap:=s2.heap.push (PySem.W.methodObj (.ref g) (.ref q)),toks:=s2.toks+1}:=I2.kept fun b o e=>Ff _ e;exact J1o (q:=q) (g:=g) (F.mono (show j≤j from Fh j)) (hr.mono hj) hb I3 hx hne (Fo _ rfl) (I2.fpOk (Fh _) (I2.hok.fresh (Fh _))) turn fin
theorem J02{K:PySem.W.Frag}{σ:St}{H:Hp}{Q:VK}:J9p K C m sp t to σ H Q=t σ H fun vs H1=>to σ H1 fun o H2=>∃(a q dx:Addr) (fs:List (Str×V)) (xs:List V) (kf:Nat→List Int),vs=[.ref a]∧o= .ref q∧H2 q=some (.ins C dx fs)∧fs.lookup m=none∧SqL K H2 a xs∧xs≠[]∧
 (∀i v,xs[i]?=some v→∀H',A7 H2 H'→sp [.ref q,v] H' (fun u H''=>A7 H' H''∧∃t,u= .ref t∧H'' t=some (.tup ((kf i).map V.int))) E0)∧∀v H',A7 H2 H'→xs[argBest (btK kf) (xs.length - 1)]?=some v→Q v H':=rfl
end
end L2
namespace N22
open L2 N1 N5 N4 N6 N12 N32 N14 N20 N18 N25 NR
def rf0(p:Addr)(n:Int):List (Str×V):=Av "places" (.int n) (Av "stock" (.ref p) [])
def Gu(kvs:List (Key×V))(ns:List Str):Prop:=∃ks:List Str,kvs.map (·.1)=ks.map Sum.inr∧ks.Nodup∧∀z∈ks,z∈ns
theorem Gu.nil{ns:List Str}:Gu [] ns:=⟨[],rfl,HQ,by simp⟩
theorem Gu.len{kvs:List (Key×V)}{ns:List Str}(h:Gu kvs ns):kvs.length≤ns.length:=by
 obtain ⟨ks,e,nd,s⟩:=h;have:=congrArg List.length e;rw [Fa,Fa]at this;have:=J5k nd s;omega
theorem Gu.put{kvs:List (Key×V)}{ns:List Str}{z:Str}{v:V}(h:Gu kvs ns)(hz:z∈ns):Gu (Cd kvs (Sum.inr z) v) ns:=by
 obtain ⟨ks,e,nd,s⟩:=h;refine ⟨if z∈ks then ks else ks++[z],N53.J45 e,?_,?_⟩
 · split
   · exact nd
   · rename_i hn
     rw [Hq];exact ⟨nd,by simp,fun a ha b hb e2=>hn (J5l (e2.trans (Fj.mp hb)) ha)⟩
 · intro u hu
   split at hu
   · exact s u hu
   · rcases FI.mp hu with hu | hu
     · exact s u hu
     · rw [Fj.mp hu];exact hz
end N22
namespace N21
open L2 N1 N5 N4 N6 N12 N32 N14 N20 N18 N25 NR N22
structure S2 where
 k:Int
 la:List (Key×V)
def lv(s:S2)(z:Str):Int:=match B9 s.la (Sum.inr z) with
 | some (.int i)=>i
 | _=>0
theorem Ve{s:S2}{z:Str}{i:Int}(h:B9 s.la (Sum.inr z)=some (.int i)):lv s z=i:=by unfold lv;rw [h]
def lmin(v:Str→Int)(l:List Str):Str:=l.getD (argBest (fun i j=>decide (v (l.getD i Str.empty) < v (l.getD j Str.empty))) (l.length - 1)) Str.empty
theorem J03{v:Str→Int}{l:List Str}(h:l≠[]):lmin v l∈l∧∀u∈l,v (lmin v l)≤v u:=by
 have hl0:0 < l.length:=RF.mpr h;have hb:=Yc (fun i=>v (l.getD i Str.empty)) (l.length - 1);unfold lmin;generalize argBest (fun i j=>decide (v (l.getD i Str.empty) < v (l.getD j Str.empty))) (l.length - 1)=m at hb
 have hm:m < l.length:=by omega
 refine ⟨?_,fun u hu=>?_⟩
 · rw [Fc,Fb hm];exact FU hm
 · obtain ⟨j,hj⟩:=FF.mp hu
   have hjl:=(Fe.mp hj).1;have:=hb.2 j (by omega);rw [show l.getD j Str.empty=u by rw [Fc,hj];rfl]at this;exact this
structure LI(ns:List Str)(s:S2)(l:List Str):Prop where
 a:Gu s.la ns
 v:∀z∈l,∃i,B9 s.la (Sum.inr z)=some (.int i)∧i≤s.k
 o:l.Pairwise fun x y=>lv s x≠lv s y
def El(s:S2)(z:Str):S2:=⟨s.k+1,Cd s.la (Sum.inr z) (.int (s.k+1))⟩
theorem J04{s:S2}{z u:Str}(h:u≠z):B9 (El s z).la (Sum.inr u)=B9 s.la (Sum.inr u):=by
 unfold El;simp only;rw [Ij,if_neg (J80 h)]
theorem Ss{s:S2}{z:Str}:B9 (El s z).la (Sum.inr z)=some (.int (s.k+1)):=by
 unfold El;simp only;rw [Ij,if_pos rfl]
theorem G0{s:S2}{z u:Str}(h:u≠z):lv (El s z) u=lv s u:=by unfold lv;rw [J04 h]
theorem Wo{s:S2}{z:Str}:lv (El s z) z=s.k+1:=Ve Ss
theorem LI.le{ns:List Str}{s:S2}{l:List Str}(h:LI ns s l):∀z∈l,lv s z≤s.k:=fun z hz=>by
 obtain ⟨i,e,hi⟩:=h.v z hz;rw [Ve e];exact hi
theorem LI.inj{ns:List Str}{s:S2}{l:List Str}(h:LI ns s l):∀x∈l,∀y∈l,lv s x=lv s y→x=y:=fun x hx y hy e=>by
 obtain ⟨i,hi⟩:=FF.mp hx;obtain ⟨j,hj⟩:=FF.mp hy;obtain ⟨hil,hi⟩:=Fe.mp hi;obtain ⟨hjl,hj⟩:=Fe.mp hj;rcases Nat.lt_trichotomy i j with c | c | c
 · exact absurd (by rw [hi,hj];exact e) ((HK.mp h.o) i j hil hjl c)
 · subst c;rw [← hi,← hj]
 · exact absurd (by rw [hi,hj];exact e.symm) ((HK.mp h.o) j i hjl hil c)
theorem LI.ask{ns:List Str}{s:S2}{l:List Str}{z:Str}(h:LI ns s l)(hz:z∈ns):LI ns (El s z) l:=by
 refine ⟨h.a.put hz,fun u hu=>?_,h.o.imp_of_mem fun {x y} hx hy hxy=>?_⟩
 · by_cases e:u=z
   · rw [e];exact ⟨_,Ss,Rz _⟩
   · obtain ⟨i,e1,e2⟩:=h.v u hu
     exact ⟨i,(J04 e).trans e1,by show i≤s.k+1;omega⟩
 · have lx:=h.le x hx
   have ly:=h.le y hy
   by_cases ex:x=z
   · by_cases ey:y=z
     · exact absurd (by rw [ex,ey]) hxy
     · rw [ex,Wo,G0 ey];omega
   · by_cases ey:y=z
     · rw [ey,Wo,G0 ex];omega
     · rw [G0 ex,G0 ey];exact hxy
theorem LI.drop{ns:List Str}{s:S2}{l:List Str}{z:Str}(h:LI ns s l):LI ns s (l.erase z):=
 ⟨h.a,fun u hu=>h.v u (HL hu),h.o.sublist List.erase_sublist⟩
structure LM(ns:List Str)(z:Str)(s:S2)(l:List Str):Prop where
 i:LI ns s l
 z:B9 s.la (Sum.inr z)=some (.int s.k)
 b:∀u∈l,lv s u < s.k
theorem LI.mid{ns:List Str}{s:S2}{l:List Str}{z:Str}(h:LI ns s l)(hz:z∈ns)(hn:z∉l):LM ns z (El s z) l:=
 ⟨h.ask hz,Ss,fun u hu=>by
  have:=h.le u hu;have e:lv (El s z) u=lv s u:=G0 (fun e=>hn (by rw [← e];exact hu));show lv (El s z) u < s.k+1
  omega⟩
theorem LM.came{ns:List Str}{s:S2}{l:List Str}{z:Str}(h:LM ns z s l):LI ns s (l++[z]):=by
 refine ⟨h.i.a,fun u hu=>?_,?_⟩
 · rcases FI.mp hu with hu | hu
   · exact h.i.v u hu
   · rw [Fj.mp hu];exact ⟨_,h.z,Rz _⟩
 · rw [Ry]
   refine ⟨h.i.o,Rj ..,fun u hu y hy=>?_⟩;rw [Fj.mp hy,Ve h.z];have:=h.b u hu;omega
def rf2(p:Addr)(n k:Int)(la:Addr):List (Str×V):=Av "last" (.ref la) (Av "present" (.int k) (rf0 p n))
def OAt(C:Addr)(H:Hp)(M:List Addr)(q p:Addr)(n:Int)(s:S2):Prop:=∃la,M=[q,la]∧(∃dx,H q=some (.ins C dx (rf2 p n s.k la)))∧H la=some (.dK s.la)
def T2(C:Addr):Ay where
 C:=C
 St:=S2
 At:=OAt C
 asked:=fun _ s z=>El s z
 pick:=fun _ s l=>(s,lmin (lv s) l)
 gone:=fun _ s _=>s
 came:=fun _ s _=>s
 inv:=fun ns _ s l=>LI ns s l
 mid:=fun ns _ z s l=>LM ns z s l
 dep:=fun e ⟨la,hM,⟨dx,ho⟩,h1⟩=>by
  rw [hM]at e;exact ⟨la,hM,⟨dx,e _ (by simp) _ ho⟩,e _ (by simp) _ h1⟩
 live:=fun ⟨la,hM,⟨dx,ho⟩,h1⟩ m hm e=>by
  rw [hM]at hm;simp only [Fy,HN,or_false]at hm;rcases hm with e1 | e1
  · rw [e1,ho]at e;cases e
  · rw [e1,h1]at e;cases e
 obj:=fun ⟨la,hM,⟨dx,ho⟩,h1⟩=>⟨dx,_,ho,by rfl,by rfl,by rfl,by rfl,by rfl,by rfl,by rfl⟩
 i_hit:=fun h hz _=>LI.ask h hz
 i_mid:=fun h hz hn=>LI.mid h hz hn
 i_pick:=fun h hl=>⟨(J03 hl).1,LI.drop h.i,h.z,fun u hu=>h.b u (HL hu)⟩
 i_came:=fun h _ _=>LM.came h
def RT2(c1 c2:Addr)(b:Bool):Ay:=bif b then T2 c1 else T2 c2
def s20:S2:=⟨0,[]⟩
section
variable {p la:Addr} {n k k':Int}
theorem J82:(rf2 p n k la).length=4:=by rfl
theorem Nh:(rf2 p n k la).lookup ("present":Str)=some (V.int k):=by rfl
theorem Vf:(rf2 p n k la).lookup ("last":Str)=some (V.ref la):=by rfl
end
def Ej(c1 c2:Addr):Sp:=fun vs H Q _=>∃(b:Bool) (q dx p:Addr) (n:Int),vs=[.ref q,.ref p,.int n]∧H q=some (.ins (RT2 c1 c2 b).C dx [])∧1≤n∧n≤1000000∧∀H',SameBut q H H'→H' q=some (.ins (RT2 c1 c2 b).C dx (rf0 p n))→Q .non H'
def Km(C:Addr):Sp:=fun vs H Q _=>∃(q dx p:Addr) (n:Int),vs=[.ref q,.ref p,.int n]∧H q=some (.ins C dx [])∧1≤n∧n≤1000000∧∀H' la,SameBut q H H'→H la=none→OAt C H' [q,la] q p n s20→Q .non H'
def Es(C:Addr):Sp:=fun vs H Q _=>∃(q p:Addr) (n:Int) (M:List Addr) (s:S2) (z:Str),vs=[.ref q,.str z]∧OAt C H M q p n s∧s.la.length≤1000∧∀H',Kp M H H'→OAt C H' M q p n (El s z)→Q .non H'
def Kn(C:Addr):Sp:=fun vs H Q _=>∃(q p:Addr) (n:Int) (M:List Addr) (s:S2) (z:Str) (i:Int),vs=[.ref q,.str z]∧OAt C H M q p n s∧B9 s.la (Sum.inr z)=some (.int i)∧Q (.int i) H
def Ga(C:Addr):Sp:=fun vs H Q _=>∃(q p:Addr) (n:Int) (M:List Addr) (s:S2) (z:Str) (i:Int),vs=[.ref q,.str z]∧OAt C H M q p n s∧B9 s.la (Sum.inr z)=some (.int i)∧∀t,H t=none→Q (.ref t) (upd H t (.tup [.int i]))
theorem Jbg{v:Nat→Int}:btK (fun i=>[v i])=fun i j=>decide (v i < v j):=by
 funext i j;show (if v i=v j then false else decide (v i < v j))=decide (v i < v j);split
 · rename_i e;rw [e];exact (Fz (Int.lt_irrefl _)).symm
 · rfl
def Ko(T:Ay)(K:PySem.W.Frag)(C S:Addr):Sp:=fun vs H Q _=>∃(H0:Hp) (q p a:Addr) (M:List Addr) (n:Int) (ts:List Th) (ys:List Str) (s0:T.St),vs=[.ref q,.ref a]∧T.At H M q p n s0∧T.inv (ts.map (·.1)) n s0 []∧Aa K C H0 p ts∧A7 H0 H∧(∀m∈M,H0 m=none)∧(ts.map (·.1)).Nodup∧ts.length≤60∧SqL K H a (ys.map V.str)∧a∉M∧ys.length≤200∧(∀y∈ys,y∈ts.map (·.1))∧(∀y∈ys,rm ts y≤n)∧1≤n∧n≤1000000∧T.cnt s0≤50∧
 ∀(b:Addr) (as gs:List Addr) (H':Hp),Kp M H H'→H' b=some (.lst (as.map V.ref))→(∀(i:Nat) a,as[i]?=some a→∃xs,H' a=some (.tup xs))→Oz K H' b as gs (grows T (rm ts) n s0 ys ys.length)→T.At H' M q p n (gst T (rm ts) n s0 ys ys.length).1→H b=none→b∉gs→gs.Nodup→(∀(i:Nat) a g,as[i]?=some a→gs[i]?=some g→H a=none∧H g=none∧g∉M∧H' a=some (.tup [.str (NR.grow T (rm ts) n s0 ys i).1,.bl (NR.grow T (rm ts) n s0 ys i).2.1,.ref g])∧H' g=some (.lst ((NR.grow T (rm ts) n s0 ys i).2.2.map V.str)))→Q (.ref b) H'
structure Cc(s:S2)(l line:List Str):Prop where
 p:line.Perm l
 o:line.Pairwise fun x y=>lv s x < lv s y
theorem Cc.nil{s:S2}:Cc s [] []:=⟨List.Perm.refl _,List.Pairwise.nil⟩
theorem Cc.nd{s:S2}{l line:List Str}(h:Cc s l line):line.Nodup:=h.o.imp fun {x y} hxy e=>by rw [e]at hxy;exact Int.lt_irrefl _ hxy
theorem Cc.hit{ns:List Str}{s:S2}{l line:List Str}{z:Str}(h:Cc s l line)(hi:LI ns s l)(hz:z∈l):Cc (El s z) l (line.erase z++[z]):=by
 have hzl:z∈line:=h.p.mem_iff.mpr hz
 have hne:∀u∈line.erase z,u≠z:=fun u hu e=>by rw [e,List.Nodup.mem_erase_iff h.nd]at hu;exact hu.1 rfl
 refine ⟨((List.perm_append_singleton ..).trans (List.perm_cons_erase hzl).symm).trans h.p,?_⟩;rw [Ry];refine ⟨(h.o.sublist List.erase_sublist).imp_of_mem fun {x y} hx hy hxy=>by rw [G0 (hne x hx),G0 (hne y hy)];exact hxy,Rj ..,fun u hu y hy=>?_⟩;rw [Fj.mp hy,Wo,G0 (hne u hu)];have:=hi.le u (h.p.mem_iff.mp (HL hu));omega
theorem Cc.mid{s:S2}{l line:List Str}{z:Str}(h:Cc s l line)(hz:z∉l):Cc (El s z) l line:=by
 have hne:∀u∈line,u≠z:=fun u hu e=>hz (by rw [← e];exact h.p.mem_iff.mp hu);exact ⟨h.p,h.o.imp_of_mem fun {x y} hx hy hxy=>by rw [G0 (hne x hx),G0 (hne y hy)];exact hxy⟩
theorem Cc.head{ns:List Str}{s:S2}{l r:List Str}{f:Str}(h:Cc s l (f::r))(hi:LI ns s l):lmin (lv s) l=f:=by
 have hf:f∈l:=h.p.mem_iff.mp (FA ..)
 have hne:l≠[]:=fun e=>by rw [e]at hf;cases hf
 obtain ⟨a,b⟩:=J03 (v:=lv s) hne
 have hle:lv s f≤lv s (lmin (lv s) l):=by
  rcases Fy.mp (h.p.mem_iff.mpr a) with e | e
  · rw [e];exact Rz _
  · exact Int.le_of_lt ((RM.mp h.o).1 _ e)
 exact hi.inj _ a _ hf (Int.le_antisymm (b f hf) hle)
theorem Cc.drop{s:S2}{l r:List Str}{f:Str}(h:Cc s l (f::r)):Cc s (l.erase f) r:=by
 have:=h.p.erase f;rw [JF]at this;exact ⟨this,(RM.mp h.o).2⟩
theorem Cc.come{ns:List Str}{s:S2}{l line:List Str}{z:Str}(h:Cc s l line)(hm:LM ns z s l):Cc s (l++[z]) (line++[z]):=by
 refine ⟨h.p.append_right _,?_⟩;rw [Ry];refine ⟨h.o,Rj ..,fun u hu y hy=>?_⟩;rw [Fj.mp hy,Ve hm.z];exact hm.b u (h.p.mem_iff.mp hu)
end N21
namespace N24
open L2 N1 N5 N4 N6 N12 N32 N14 N20 N18 N25 NR N22 N21
end N24
namespace N23
open L2 N1 N5 N4 N6 N12 N32 N14 N20 N18 N25 NR N22 N21 N24
end N23
namespace N26
open L2 N1 N5 N4 N6 N12 N32 N14 N20 N18 N25 NR
structure R4 where
 a:List Str
 b:List Str
 p:List Str
 q:List Str
 k:Int
 r:Bool
def l4(s:R4)(j:Nat):List Str:=match j with
 | 0=>s.a
 | 1=>s.b
 | 2=>s.p
 | _=>s.q
end N26
namespace N28
open L2 N1 N5 N4 N6 N12 N32 N14 N20 N18 N25 NR N22 N21 N24 N23 N26
inductive Wk(R:Str→Int)(n need:Int):List Str→List Str→List Str→Prop
 | nil {l:List Str} (h:need≤n - N41.sm R l):Wk R n need l [] l
 | cons {l w l':List Str} {x:Str} (hx:x∈l) (h:¬need≤n - N41.sm R l) (t:Wk R n need (l.erase x) w l'):Wk R n need l (x::w) l'
theorem J83{T:Ay}{R:Str→Int}{n need:Int}{z:Str}{ns:List Str}:∀(k:Nat) (s:T.St) (l w:List Str),l.length=k→T.mid ns n z s l→need≤n→∃v,(gf T R n need s l w).2.2=w++v∧Wk R n need l v (gf T R n need s l w).2.1:=by
 intro k
 induction k with
 | zero=>
  intro s l w hk hm hn;have hL:l=[]:=Ha.mp hk;subst hL
  have he:need≤n - N41.sm R []:=by rw [N41.Oj];omega
  rw [L7 he];exact ⟨[],(FT _).symm,.nil he⟩
 | succ k ih=>
  intro s l w hk hm hn
  by_cases he:need≤n - N41.sm R l
  · rw [L7 he]
    exact ⟨[],(FT _).symm,.nil he⟩
  · have hne:l≠[]:=fun e=>by rw [e]at hk;cases hk
    obtain ⟨hp,hm2⟩:=T.i_pick hm hne;rw [J00 he hp];have hl:=HP hp;obtain ⟨v,e1,e2⟩:=ih _ _ (w++[(T.pick n s l).2]) (by omega) hm2 hn;exact ⟨(T.pick n s l).2::v,by rw [e1,HV];rfl,.cons hp he e2⟩
def Jda(R:Str→Int)(n:Int)(l:List Str)(z:Str)(b:Bool)(w l':List Str):Prop:=(b=true∧z∈l∧w=[]∧l'=l)∨(b=false∧z∉l∧∃l1,Wk R n (R z) l w l1∧l'=l1++[z])
theorem J5q{T:Ay}{R:Str→Int}{n:Int}{z:Str}{ns:List Str}{s:T.St×List Str}(h:GI T ns n s)(hz:z∈ns)(hR:R z≤n):(gask T R n s z).2.1=z∧Jda R n s.2 z (gask T R n s z).2.2.1 (gask T R n s z).2.2.2 (gask T R n s z).1.2:=by
 unfold gask;split
 · rename_i hm
   exact ⟨rfl,.inl ⟨rfl,hm,rfl,rfl⟩⟩
 · rename_i hm
   obtain ⟨v,e1,e2⟩:=J83 (R:=R) (need:=R z) _ _ _ [] rfl (T.i_mid h.i hz hm) hR;refine ⟨rfl,.inr ⟨rfl,hm,_,?_,rfl⟩⟩;show Wk R n (R z) s.2 (gf T R n (R z) (T.asked n s.1 z) s.2 []).2.2 _;rw [e1];exact e2
theorem Wk.ly{R:Str→Int}{n need:Int}{ns:List Str}{z:Str}{l w l':List Str}(h:Wk R n need l w l'):∀{ls:Ly},OkL R ns ls→lyN ls=l→z∉l→lyN (Ic ls w)=l'∧okG z ls w∧need≤n - N41.sm R l':=by
 induction h with
 | nil h=>intro ls _ e _;exact ⟨e,trivial,h⟩
 | cons hx h t ih=>
  rename_i l0 w0 l1 x;intro ls ok e hz
  have e2:lyN (lyD ls x)=l0.erase x:=by rw [Ki ok.nd,e]
  obtain ⟨a,b,c⟩:=ih ok.drop e2 (fun hh=>hz (HL hh));exact ⟨a,⟨fun ez=>hz (ez▸hx),by rw [e];exact hx,b⟩,c⟩
section
variable {T:Ay} {R:Str→Int} {n:Int} {s0:T.St} {ys ns:List Str}
theorem P6{i:Nat}(h:i < ys.length):(grows T R n s0 ys ys.length)[i]?=some (grow T R n s0 ys i):=by unfold grows;rw [Fg,Hd h];rfl
theorem J9q(h0:T.inv ns n s0 [])(hin:∀y∈ys,y∈ns)(hR:∀y∈ys,R y≤n):∀i,i≤ys.length→OkL R ns (stL R ys (grows T R n s0 ys ys.length) i)∧lyN (stL R ys (grows T R n s0 ys ys.length) i)=(gst T R n s0 ys i).2∧(∀z r,i < ys.length→ys[i]?=some z→(grows T R n s0 ys ys.length)[i]?=some r→Yu R n (stL R ys (grows T R n s0 ys ys.length) i) z r):=by
 have row:∀i,i < ys.length→OkL R ns (stL R ys (grows T R n s0 ys ys.length) i)→lyN (stL R ys (grows T R n s0 ys ys.length) i)=(gst T R n s0 ys i).2→∀z,ys[i]?=some z→Yu R n (stL R ys (grows T R n s0 ys ys.length) i) z (grow T R n s0 ys i)∧lyN (Dw R (stL R ys (grows T R n s0 ys ys.length) i) z (grow T R n s0 ys i).2.2)=(gst T R n s0 ys (i+1)).2:=by
  intro i hi ok e z hz;have hm:=Fk hz;have gi:=Nx (T:=T) (R:=R) h0 hin hR i (by omega);rw [K0 hz,Sq hz];obtain ⟨e1,hw⟩:=J5q gi (hin z hm) (hR z hm);rcases hw with ⟨b,hz1,w,l'⟩ | ⟨b,hz1,l1,wk,l'⟩
  · rw [← e]at hz1
    rw [l',Wl hz1,w];refine ⟨⟨e1,by rw [b];exact (Fx hz1).symm,by rw [w];trivial,fun hh=>absurd hz1 hh⟩,e⟩
  · have hz2:=hz1
    rw [← e]at hz2;obtain ⟨a1,a2,a3⟩:=wk.ly ok e hz1;rw [l',Jbb hz2,a1];refine ⟨⟨e1,by rw [b];exact (Fz hz2).symm,a2,fun _=>?_⟩,rfl⟩;rw [So (ns:=ns) (OkL.drops (g:=(gask T R n (gst T R n s0 ys i) z).2.2.2) ok).r,a1];exact a3
 intro i
 induction i with
 | zero=>
  intro _;have ok:OkL R ns (stL R ys (grows T R n s0 ys ys.length) 0):=OkL.nil;exact ⟨ok,rfl,fun z r hi hz hr=>by rw [P6 hi]at hr;cases hr;exact (row 0 hi ok rfl z hz).1⟩
 | succ i ih=>
  intro hi;obtain ⟨ok,e,_⟩:=ih (by omega)
  have hi':i < ys.length:=by omega
  have hz:=Fb hi';have st:=V7 (R:=R) hz (P6 (T:=T) (R:=R) (n:=n) (s0:=s0) hi')
  have ok2:OkL R ns (stL R ys (grows T R n s0 ys ys.length) (i+1)):=by rw [st];exact ok.step (hin _ (Fk hz))
  have e2:lyN (stL R ys (grows T R n s0 ys ys.length) (i+1))=(gst T R n s0 ys (i+1)).2:=by rw [st];exact (row i hi' ok e _ hz).2
  exact ⟨ok2,e2,fun z r hi2 hz2 hr=>by rw [P6 hi2]at hr;cases hr;exact (row (i+1) hi2 ok2 e2 z hz2).1⟩
theorem J1p(h0:T.inv ns n s0 [])(hin:∀y∈ys,y∈ns)(hR:∀y∈ys,R y≤n):J5a R n ys (grows T R n s0 ys ys.length):=by
 refine ⟨Kk.symm,fun {i z r} h1 h2=>?_⟩;have hi:=(Fe.mp h1).1;exact (J9q h0 hin hR i (by omega)).2.2 z r hi h1 h2
end
end N28
namespace N63
open L2 N1 N5 N4 N6 N12 N32 N14 N20 N18 N25 NR N22 N21 N28
theorem J84{C:Addr}{R:Str→Int}{n need:Int}{ns:List Str}{z:Str}:∀(line:List Str) (s:S2) (l w:List Str) (x:S2×List Str×List Str),gf (T2 C) R n need s l w=x→Cc s l line→LM ns z s l→need≤n→
 ∃j,x.1=s∧Cc s x.2.1 (line.drop j)∧need≤n - N41.sm R (line.drop j)∧∀i,i < j→¬need≤n - N41.sm R (line.drop i):=by
 intro line
 induction line with
 | nil=>
  intro s l w x hx hl hm hn;have e:l=[]:=List.Perm.eq_nil hl.p.symm
  have he:need≤n - N41.sm R l:=by rw [e,N41.Oj];omega
  have hx2:=(L7 (T:=T2 C) (s:=s) (w:=w) he).symm.trans hx;cases hx2;exact ⟨0,rfl,hl,by rw [J9,N41.Oj];omega,fun i hi=>absurd hi (J4 _)⟩
 | cons f r ih=>
  intro s l w x hx hl hm hn
  by_cases he:need≤n - N41.sm R l
  · have hx2:=(L7 (T:=T2 C) (s:=s) (w:=w) he).symm.trans hx
    cases hx2;exact ⟨0,rfl,hl,by rw [J9,N25.Yz hl.p];exact he,fun i hi=>absurd hi (J4 _)⟩
  · have hf:lmin (lv s) l=f:=hl.head hm.i
    have hp:((T2 C).pick n s l).2∈l:=by
     show lmin (lv s) l∈l;rw [hf];exact hl.p.mem_iff.mp (FA ..)
    have hx2:gf (T2 C) R n need s (l.erase (lmin (lv s) l)) (w++[lmin (lv s) l])=x:=(J00 (T:=T2 C) (s:=s) (w:=w) he hp).symm.trans hx
    have hm2:LM ns z s (l.erase f):=⟨hm.i.drop,hm.z,fun u hu=>hm.b u (HL hu)⟩
    obtain ⟨j,a,b,c,d⟩:=ih s (l.erase f) (w++[f]) x (hf▸hx2) hl.drop hm2 hn;refine ⟨j+1,a,b,c,fun i hi=>?_⟩
    cases i with
    | zero=>rw [J9,N25.Yz hl.p];exact he
    | succ i=>exact d i (by omega)
theorem J85{C:Addr}{R:Str→Int}{n:Int}{s:S2}{l:List Str}{z:Str}{x:S2×List Str}(hx:(gask (T2 C) R n (s,l) z).1=x)(h:z∈l):x=(El s z,l):=by
 have e:gask (T2 C) R n (s,l) z=((El s z,l),(z,true,[])):=if_pos h;rw [e]at hx;exact hx.symm
theorem J5r{C:Addr}{R:Str→Int}{n:Int}{ns:List Str}{s:S2}{l line:List Str}{z:Str}{x:S2×List Str}(hx:(gask (T2 C) R n (s,l) z).1=x)(h:z∉l)(hi:LI ns s l)(hz:z∈ns)(hR:R z≤n)(hl:Cc s l line):
 ∃j l',x=(El s z,l'++[z])∧Cc (El s z) (l'++[z]) (line.drop j++[z])∧R z≤n - N41.sm R (line.drop j)∧∀i,i < j→¬R z≤n - N41.sm R (line.drop i):=by
 have hm:LM ns z (El s z) l:=hi.mid hz h
 obtain ⟨y,hy⟩:∃y:S2×List Str×List Str,gf (T2 C) R n (R z) (El s z) l []=y:=⟨_,rfl⟩
 have e:gask (T2 C) R n (s,l) z=((y.1,y.2.1++[z]),(z,false,y.2.2)):=by
  rw [← hy];exact if_neg h
 have a3:LM ns z y.1 y.2.1:=by
  rw [← hy];exact (Wn (T:=T2 C) (R:=R) (ns:=ns) (z:=z) (n:=n) (need:=R z) _ (El s z) l [] rfl hm hR).1
 obtain ⟨j,a,b,c,d⟩:=J84 (C:=C) (R:=R) line (El s z) l [] y hy (hl.mid h) hm hR;rw [e]at hx;refine ⟨j,y.2.1,?_,?_,c,d⟩
 · rw [← hx,a]
 · rw [a]at a3
   exact b.come a3
section
variable {C:Addr} {R:Str→Int} {n1 n2:Int} {ns ys:List Str}
theorem li0:LI ns s20 []:=⟨Gu.nil,by simp,List.Pairwise.nil⟩
end
section
variable {H H':Hp} {x dx:Addr} {o:HO}
theorem Su(h1:H x=none)(h2:H dx=none)(s:SameBut x (upd (upd H dx (.own x)) x o) H'):A7 H H':=fun b ob e=>by
 have n1:b≠x:=fun e2=>by rw [e2,h1]at e;cases e
 have n2:b≠dx:=fun e2=>by rw [e2,h2]at e;cases e
 exact s b ob (by rw [A2 n1,A2 n2];exact e) n1
theorem Wp(h1:H x=none)(h2:H dx=none):A7 H (upd (upd H dx (.own x)) x o):=fun b ob e=>by
 have n1:b≠x:=fun e2=>by rw [e2,h1]at e;cases e
 have n2:b≠dx:=fun e2=>by rw [e2,h2]at e;cases e
 rw [A2 n1,A2 n2];exact e
end
def W63(C:Addr)(ts:List Th)(n:Int)(ys:List Str):Nat→Ly:=stL (rm ts) ys (grows (T2 C) (rm ts) n s20 ys ys.length)
def L63(C:Addr)(ts:List Th)(n:Int)(ys:List Str)(i:Nat):List Str:=(gst (T2 C) (rm ts) n s20 ys i).2
def r63(C:Addr)(ts:List Th)(n:Int)(ys:List Str)(i:Nat):N14.Row:=NR.grow (T2 C) (rm ts) n s20 ys i
structure J5s(C:Addr)(H:Hp)(b:Addr)(as gs:List Addr)(ts:List Th)(n:Int)(ys:List Str):Prop where
 L:H b=some (.lst (as.map V.ref))
 ln:as.length=ys.length
 m:gs.length=ys.length
 t:∀(i:Nat) (a g:Addr),as[i]?=some a→gs[i]?=some g→H a=some (.tup [.str (r63 C ts n ys i).1,.bl (r63 C ts n ys i).2.1,.ref g])∧H g=some (.lst ((r63 C ts n ys i).2.2.map V.str))
theorem J5s.same{C:Addr}{H H':Hp}{b:Addr}{as gs:List Addr}{ts:List Th}{n:Int}{ys:List Str}(h:J5s C H b as gs ts n ys)(e:A7 H H'):J5s C H' b as gs ts n ys:=⟨e _ _ h.L,h.ln,h.m,fun i a g h1 h2=>⟨e _ _ (h.t i a g h1 h2).1,e _ _ (h.t i a g h1 h2).2⟩⟩
section
variable {C:Addr} {ts:List Th} {n:Int} {ys:List Str}
theorem Jcx(hin:∀y∈ys,y∈ts.map (·.1))(hR:∀y∈ys,rm ts y≤n){i:Nat}(hi:i≤ys.length):lyN (W63 C ts n ys i)=L63 C ts n ys i:=(J9q (T:=T2 C) (R:=rm ts) (n:=n) (s0:=s20) li0 hin hR i hi).2.1
end
end N63
namespace N74
open L2 N1 N5 N4 N6 N12 N71
structure Gt where
 h:Str→Int
 l:Str→Bool
 st:Str→Int
 es:List (List V)
def Pk{α:Type}(f:Str→α)(z:Str)(v:α):Str→α:=fun y=>if y=z then v else f y
theorem E3{α:Type}{f:Str→α}{z:Str}{v:α}:Pk f z v z=v:=if_pos rfl
theorem M5{α:Type}{f:Str→α}{z y:Str}{v:α}(n:y≠z):Pk f z v y=f y:=if_neg n
def wrT(z:Str)(v:Int):List V:=[.str (Str.ofString "write"),.str z,.int v]
def Gt.write(g:Gt)(z:Str):Gt:={g with st:=Pk g.st z (g.h z),es:=g.es++[wrT z (g.h z)]}
def Gt.late(g:Gt)(z:Str)(b:Bool):Gt:={g with l:=Pk g.l z b}
def Kz(z:Str)(g:Gt):Gt:=if g.l z then (g.late z false).write z else g
def J9r(R:List Str):Str:=(R[R.length - 1]?).getD Str.empty
def P7(S:Int)(R:List Str)(z:Str)(g:Gt):Gt:=if S < ((z::R.erase z).length:Int) then Kz (J9r (z::R.erase z)) g else g
def Mw(w z:Str)(g:Gt):Gt:={g with es:=g.es++[[.str w,.str z]],h:=Pk g.h z (g.st z)}
def P8(S:Int)(R:List Str)(z:Str)(g:Gt):Gt:=P7 S R z (if z∈R then g else Mw (Str.ofString "fetch") z g)
structure TwG(H:Hp)(s:TwS)(g:Gt)(B:Nat)(hd:Str→Prop):Prop where
 h:∀y,hd y→B9 s.kh (Sum.inr y)=some (.int (g.h y))
 l:∀y,(B9 s.kl (Sum.inr y)).isSome=g.l y
 lh:∀y,g.l y=true→hd y
 st:∀y,(B9 s.ks (Sum.inr y)).getD (.int 0)= .int (g.st y)
 es:∃us:List Addr,s.es=us.map V.ref∧us.length=g.es.length∧∀(i:Nat) (u:Addr) (e:List V),us[i]?=some u→g.es[i]?=some e→H u=some (.tup e)
 n1:s.kh.length≤B
 n2:s.kl.length≤B
 n3:s.ks.length≤B
 n4:s.es.length≤B
 b:B≤100000
 fl:∀e∈g.es,e.all C0=true
section
variable {H H':Hp} {s s':TwS} {g:Gt} {B B':Nat} {hd q:Str→Prop} {z:Str}
theorem TwG.toL(h:TwG H s g B hd):TwL s B hd:=by
 refine ⟨fun y hy=>⟨_,h.h y hy⟩,fun y hy=>h.lh y (by rw [← h.l y];exact hy),fun y v hv=>?_,h.n1,h.n2,h.n3,h.n4,h.b⟩;have:=h.st y;rw [hv]at this;exact ⟨_,this⟩
theorem TwG.keep(h:TwG H s g B hd)(k:∀v e,H v=some (.tup e)→H' v=some (.tup e)):TwG H' s g B hd:=by
 obtain ⟨us,e1,e2,e3⟩:=h.es;exact ⟨h.h,h.l,h.lh,h.st,⟨us,e1,e2,fun i u e h1 h2=>k _ _ (e3 i u e h1 h2)⟩,h.n1,h.n2,h.n3,h.n4,h.b,h.fl⟩
theorem TwG.same(m:A7 H H')(h:TwG H s g B hd):TwG H' s g B hd:=h.keep fun v e hv=>m _ _ hv
theorem J05{C t:Addr}{x:TwA}(hT:Bf C H t x s')(o:Off (own t x) H H'):∀v e,H v=some (.tup e)→H' v=some (.tup e):=fun v e hv=>by
 refine o v _ hv fun hm=>?_;obtain ⟨dx,fs,h1,h2⟩:=hT.o
 have hm':v=t∨v=x.ro∨v=x.he∨v=x.la∨v=x.so∨v=x.en∨v=x.fi:=by simpa [own] using hm
 rcases hm' with e | e | e | e | e | e | e <;> rw [e]at hv
 · rw [h1]at hv;cases hv
 · rw [hT.ro]at hv;cases hv
 · rw [hT.he]at hv;cases hv
 · rw [hT.la]at hv;cases hv
 · rw [hT.so]at hv;cases hv
 · rw [hT.en]at hv;cases hv
 · rw [hT.fi]at hv;cases hv
theorem TwG.off{C t:Addr}{x:TwA}(hT:Bf C H t x s')(o:Off (own t x) H H')(h:TwG H s g B hd):TwG H' s g B hd:=h.keep (J05 hT o)
theorem TwG.iff(h:TwG H s g B hd)(e:∀u,hd u↔q u)(hB:B≤B')(hb:B'≤100000):TwG H s g B' q:=
 ⟨fun y hy=>h.h y ((e y).mpr hy),h.l,fun y hy=>(e y).mp (h.lh y hy),h.st,h.es,FC h.n1 hB,FC h.n2 hB,FC h.n3 hB,FC h.n4 hB,hb,h.fl⟩
theorem TwG.cast(h:TwG H s g B hd)(e1:s'.kh=s.kh)(e2:s'.kl=s.kl)(e3:s'.ks=s.ks)(e4:s'.es=s.es):TwG H s' g B hd:=
 ⟨by rw [e1];exact h.h,by rw [e2];exact h.l,h.lh,by rw [e3];exact h.st,by rw [e4];exact h.es,by rw [e1];exact h.n1,by rw [e2];exact h.n2,by rw [e3];exact h.n3,by rw [e4];exact h.n4,h.b,h.fl⟩
theorem Sv{y z:Str}(e:y≠z):(Sum.inr y:Key)≠Sum.inr z:=fun h=>e (by injection h)
theorem Sw{us:List Addr}{ee:List (List V)}{u:Addr}{e:List V}(hl:us.length=ee.length)(k:∀v e,H v=some (.tup e)→H' v=some (.tup e))(h:∀(i:Nat) (u:Addr) (e:List V),us[i]?=some u→ee[i]?=some e→H u=some (.tup e))(hu:H' u=some (.tup e)):
 ∀(i:Nat) (v:Addr) (f:List V),(us++[u])[i]?=some v→(ee++[e])[i]?=some f→H' v=some (.tup f):=by
 intro i v f h1 h2
 by_cases hi:i < us.length
 · rw [FJ hi]at h1
   rw [FJ (by omega)]at h2;exact k _ _ (h i v f h1 h2)
 · have h3:=(Fe.mp h1).1
   rw [Fu]at h3
   have h4:i=us.length:=by simp at h3;omega
   subst h4;rw [FL (Fh _),J6]at h1;rw [hl,FL (Fh _),J6]at h2;cases h1;cases h2;exact hu
theorem Sx{ee:List (List V)}{e:List V}(h:∀e∈ee,e.all C0=true)(he:e.all C0=true):∀f∈ee++[e],f.all C0=true:=fun f hf=>by
 rcases FI.mp hf with h1 | h1
 · exact h f h1
 · rw [Fj.mp h1];exact he
theorem TwG.wrote(h:TwG H s g B hd)(hz:hd z)(k:∀v e,H v=some (.tup e)→H' v=some (.tup e)){u:Addr}(hu:H' u=some (.tup (wrT z (g.h z))))(hB:B+1≤100000):TwG H' {s with ks:=Cd s.ks (Sum.inr z) (.int (g.h z)),es:=s.es++[.ref u]} (g.write z) (B+1) hd:=by
 obtain ⟨us,e1,e2,e3⟩:=h.es;have h5:=Cu s.ks (Sum.inr z:Key) (V.int (g.h z));refine ⟨h.h,h.l,h.lh,fun y=>?_,⟨us++[u],by rw [Fw,e1];rfl,by show _=(g.es++[_]).length;rw [Fu,Fu,e2];rfl,Sw e2 k e3 hu⟩,HE h.n1,HE h.n2,by have:=h.n3;show (Cd _ _ _).length≤_;omega,by have:=h.n4;show (s.es++[_]).length≤_;rw [Fu];show s.es.length+1≤_;omega,hB,Sx h.fl rfl⟩;show (B9 (Cd s.ks (Sum.inr z) (.int (g.h z))) (Sum.inr y)).getD (.int 0)= .int (Pk g.st z (g.h z) y);rw [Ij]
 by_cases e:y=z
 · subst e;rw [if_pos rfl,E3];rfl
 · rw [if_neg (Sv e),M5 e];exact h.st y
theorem TwG.noted(h:TwG H s g B hd)(k:∀v e,H v=some (.tup e)→H' v=some (.tup e)){u:Addr}{e:List V}(hu:H' u=some (.tup e))(he:e.all C0=true)(hB:B+1≤100000){pd:Int}:TwG H' {s with pd:=pd,es:=s.es++[.ref u]} {g with es:=g.es++[e]} (B+1) hd:=by
 obtain ⟨us,e1,e2,e3⟩:=h.es;exact ⟨h.h,h.l,h.lh,h.st,⟨us++[u],by rw [Fw,e1];rfl,by show _=(g.es++[_]).length;rw [Fu,Fu,e2];rfl,Sw e2 k e3 hu⟩,HE h.n1,HE h.n2,HE h.n3,by have:=h.n4;show (s.es++[_]).length≤_;rw [Fu];show s.es.length+1≤_;omega,hB,Sx h.fl he⟩
theorem TwG.fetched(h:TwG H s g B hd)(k:∀v e,H v=some (.tup e)→H' v=some (.tup e)){u:Addr}{w:Str}(hu:H' u=some (.tup [.str w,.str z]))(hB:B+1≤100000){pd:Int}:TwG H' {s with pd:=pd,es:=s.es++[.ref u],kh:=Cd s.kh (Sum.inr z) (.int (g.st z))} (Mw w z g) (B+1) (fun y=>hd y∨y=z):=by
 obtain ⟨us,e1,e2,e3⟩:=h.es;have h5:=Cu s.kh (Sum.inr z:Key) (V.int (g.st z));refine ⟨fun y hy=>?_,h.l,fun y hy=> .inl (h.lh y hy),h.st,⟨us++[u],by rw [Fw,e1];rfl,by show _=(g.es++[_]).length;rw [Fu,Fu,e2];rfl,Sw e2 k e3 hu⟩,by have:=h.n1;show (Cd _ _ _).length≤_;omega,HE h.n2,HE h.n3,by have:=h.n4;show (s.es++[_]).length≤_;rw [Fu];show s.es.length+1≤_;omega,hB,Sx h.fl rfl⟩;show B9 (Cd s.kh (Sum.inr z) (.int (g.st z))) (Sum.inr y)=some (.int (Pk g.h z (g.st z) y));rw [Ij]
 by_cases e:y=z
 · subst e;rw [if_pos rfl,E3]
 · rw [if_neg (Sv e),M5 e];exact h.h y (hy.resolve_right e)
theorem TwG.lateOff(h:TwG H s g B hd):TwG H {s with kl:=Bj s.kl (Sum.inr z)} (g.late z false) B hd:=by
 have h5:=Vc s.kl (Sum.inr z:Key);refine ⟨h.h,fun y=>?_,fun y hy=>?_,h.st,h.es,h.n1,by have:=h.n2;show (Bj _ _).length≤_;omega,h.n3,h.n4,h.b,h.fl⟩
 · show (B9 (Bj s.kl (Sum.inr z)) (Sum.inr y)).isSome=Pk g.l z false y
   by_cases e:y=z
   · subst e;rw [P3,E3];rfl
   · rw [P4 (Sv e),M5 e];exact h.l y
 · have hy2:Pk g.l z false y=true:=hy
   by_cases e:y=z
   · rw [e,E3]at hy2;cases hy2
   · rw [M5 e]at hy2;exact h.lh y hy2
theorem TwG.popped(h:TwG H s g B hd)(hz:g.l z=false):TwG H {s with kh:=Bj s.kh (Sum.inr z)} g B (fun y=>hd y∧y≠z):=by
 have h5:=Vc s.kh (Sum.inr z:Key);refine ⟨fun y hy=>?_,h.l,fun y hy=>⟨h.lh y hy,fun e=>by rw [e,hz]at hy;cases hy⟩,h.st,h.es,by have:=h.n1;show (Bj _ _).length≤_;omega,h.n2,h.n3,h.n4,h.b,h.fl⟩;show B9 (Bj s.kh (Sum.inr z)) (Sum.inr y)=_;rw [P4 (Sv hy.2)];exact h.h y hy.1
end
structure Wq(K:PySem.W.Frag)(C S:Addr)(H:Hp)(t:Addr)(x:TwA)(s:TwS)(g:Gt)(ts:List Th)(B:Nat):Prop where
 to:Tow K C S H t x s ts B
 g:TwG H s g B (fun y=>y∈s.R)
theorem Wq.same{K:PySem.W.Frag}{C S:Addr}{H H':Hp}{t:Addr}{x:TwA}{s:TwS}{g:Gt}{ts:List Th}{B:Nat}(m:A7 H H')(h:Wq K C S H t x s g ts B):Wq K C S H' t x s g ts B:=⟨h.to.same m,h.g.same m⟩
def Dt(ts:List Th)(z:Str):Int:=((ts.find? fun t=>t.1=z).map fun t=>t.2.1).getD 0
theorem J1q{ts:List Th}{z:Str}{i:Nat}{t:Th}(nd:(ts.map (·.1)).Nodup)(h:ts[i]?=some t)(e:t.1=z):Dt ts z=t.2.1:=by
 unfold Dt
 cases hf:ts.find? (fun t=>t.1=z) with
 | none=>
  rw [List.find?_eq_none]at hf;exact absurd (by simpa using e) (hf t (Fk h))
 | some t'=>
  have h1:=List.mem_of_find?_eq_some hf
  have h2:t'.1=z:=by simpa using List.find?_some hf
  obtain ⟨j,hj⟩:=FF.mp h1
  have ij:i=j:=by
   have hi:=(Fe.mp h).1;have hj':=(Fe.mp hj).1;refine (List.getElem_inj (h₀:=show i < (ts.map fun t:Th=>t.1).length by simpa using hi) (h₁:=show j < (ts.map fun t:Th=>t.1).length by simpa using hj') nd).mp ?_;have a1:ts[i]=t:=(Fe.mp h).2;have a2:ts[j]=t':=(Fe.mp hj).2;rw [List.getElem_map,List.getElem_map,a1,a2,e,h2]
  subst ij;rw [hj]at h;cases h;rfl
def Gv(C:Addr):Sp:=fun vs H Q _=>∃(t:Addr) (x:TwA) (s:TwS) (g:Gt) (z:Str) (B:Nat) (hd:Str→Prop),vs=[.ref t,.str z]∧Bf C H t x s∧TwG H s g B hd∧B≤90000∧hd z∧
 ∀(s':TwS) (H':Hp),Off (own t x) H H'→Bf C H' t x s'→s'.R=s.R→s'.zs=s.zs→s'.ff=s.ff→s'.pd=s.pd→s'.kl=s.kl→TwG H' s' (g.write z) (B+1) hd→Q .non H'
def Kq(C:Addr):Sp:=fun vs H Q _=>∃(t:Addr) (x:TwA) (s:TwS) (g:Gt) (z:Str) (B:Nat) (hd:Str→Prop),vs=[.ref t,.str z]∧Bf C H t x s∧TwG H s g B hd∧B≤90000∧hd z∧
 ∀(s':TwS) (H':Hp),Off (own t x) H H'→Bf C H' t x s'→s'.R=s.R→s'.zs=s.zs→s'.ff=s.ff→s'.pd=s.pd→TwG H' s' (Kz z g) (B+1) (fun y=>hd y∧y≠z)→Q .non H'
def Kr(C:Addr):Sp:=fun vs H Q _=>∃(t:Addr) (x:TwA) (s:TwS) (g:Gt) (z:Str) (B:Nat),vs=[.ref t,.str z]∧Bf C H t x s∧TwG H s g B (fun y=>y∈s.R∨y=z)∧B≤90000∧s.R.Nodup∧s.R.length≤60∧(s.R.length:Int)≤s.zs.sum∧1≤s.zs.sum∧
 ∀(s':TwS) (H':Hp),Off (own t x) H H'→Bf C H' t x s'→s'.R=(z::s.R.erase z).take s.zs.sum.toNat→s'.zs=s.zs→s'.ff=s.ff→s'.pd=s.pd→TwG H' s' (P7 s.zs.sum s.R z g) (B+1) (fun y=>y∈s'.R)→Q .non H'
def Et(K:PySem.W.Frag)(C S:Addr):Sp:=fun vs H Q _=>∃(t:Addr) (x:TwA) (s:TwS) (g:Gt) (z:Str) (ts:List Th) (B:Nat) (hd:Str→Prop),vs=[.ref t,.str z]∧Bf C H t x s∧By K S H x.st ts (own t x)∧(ts.map (·.1)).Nodup∧z∈ts.map (·.1)∧TwG H s g B hd∧Q (.int (g.st z)) H
def Gw(K:PySem.W.Frag)(C S:Addr):Sp:=fun vs H Q _=>∃(t:Addr) (x:TwA) (s:TwS) (g:Gt) (w z:Str) (ts:List Th) (B:Nat) (p:Str→Prop),vs=[.ref t,.str w,.str z]∧Bf C H t x s∧By K S H x.st ts (own t x)∧(ts.map (·.1)).Nodup∧z∈ts.map (·.1)∧TwG H s g B p∧B≤90000∧
 ∀(s':TwS) (H':Hp),Off (own t x) H H'→Bf C H' t x s'→s'.R=s.R→s'.zs=s.zs→s'.ff=s.ff→s'.pd=s.pd+Dt ts z→TwG H' s' (Mw w z g) (B+1) (fun y=>p y∨y=z)→Q .non H'
def g0:Gt:=⟨fun _=>0,fun _=>false,fun _=>0,[]⟩
end N74
namespace N34
open L2 N1 N5 N31 N4 N32 N41 N35
variable {ys:List Str} {R:Str→Int} {n c:Nat}
def Fp(i:Int)(k:Nat):Nat→Int
 | 0=>i+(k:Int) / 8
 | j+1=>(i / 24).fdiv ((j:Int)+1)+5 * j
def nmP(i:Int)(k:Nat):List Nat:=nmL (Fp i k) (-1) (1+k % 8) 0
def K1(i:Int)(n:Nat):List Nat:=(List.range n).map fun (j:Nat)=>bc (((i / 24).fdiv ((j:Int)+1)+5 * j) % 36)
theorem J1r{i:Int}{n:Nat}:K1 i (n+1)=K1 i n++[bc (((i / 24).fdiv ((n:Int)+1)+5 * n) % 36)]:=by
 unfold K1;rw [Hn,Fw];rfl
theorem Wr{i:Int}{k:Nat}:nmP i k=bc ((i+(k:Int) / 8) % 26)::(K1 i 7).take (k % 8):=by
 unfold nmP nmL K1;rw [Nat.add_comm,Jq,List.map_cons,FR,← RH,List.take_range,HX (by omega)];congr 1
 · unfold sgn md
   rw [if_neg (by omega),if_pos rfl,Int.add_zero];rfl
 · refine RE fun j _=>?_
   show sgn (Fp i k) (-1) 0 (j+1)=_;unfold sgn md;rw [if_neg (by omega),if_neg (by omega),Int.add_zero];rfl
theorem J5t{i:Int}{k:Nat}:Bz (nmP i k)=true:=Ud (by omega) (by omega)
theorem J86{i:Int}{k k':Nat}(hk:k < 26)(hk':k' < 26)(h:nmP i k=nmP i k'):k=k':=by
 have hl:=congrArg List.length h;unfold nmP nmL at hl;rw [Fa,Fa,Fv,Fv]at hl;rw [Wr,Wr]at h
 injection h with h1 _
 have h2:=Jb0 (j:=0) (show bc ((i+(k:Int) / 8) % md 0)=bc ((i+(k':Int) / 8) % md 0) from h1);have h3:(i+(k:Int) / 8) % 26=(i+(k':Int) / 8) % 26:=h2;omega
def J1s(i:Int)(m:Nat):List Str:=(List.range m).map fun k=>tx (nmP i k)
theorem Ws{i:Int}{m:Nat}(hm:m≤26):(J1s i m).Nodup:=by
 unfold J1s List.Nodup;rw [Jh];refine Jj (R:=fun a b=>a≠b) ?_ List.nodup_range;intro a b ha hb hab e;exact hab (J86 (by have:=FY.mp ha;omega) (by have:=FY.mp hb;omega) (J9c e))
theorem Wt{l:List Nat}{k:Nat}(h:k≤l.length):Txt.slice (tx l) none (some (k:Int))=tx (l.take k):=by
 have e:=R7.mp (PyProof.Rows.slice_closes_toL (x:=tx l) (j:=(k:Int)) (by omega) (by rw [U4];omega));rw [e,Io];unfold tx;rw [show ((k:Int) - 0).toNat=k by omega];rfl
end N34
namespace NTx
open L2 N1 N5 N8 N08 PySem.NumText PySem.StrLaws
open PySem.Builtin.Str (strSub strKind subAt)
def dg(n:Nat):List Nat:=if n < 10 then [48+n] else dg (n / 10)++[48+n % 10]
termination_by n
decreasing_by omega
theorem P9{n:Nat}(h:n < 10):dg n=[48+n]:=by unfold dg;rw [if_pos h]
theorem J5u{n:Nat}(h:¬n < 10):dg n=dg (n / 10)++[48+n % 10]:=by rw [dg];rw [if_neg h]
theorem J5v(n:Nat):AllDigits (dg n)∧digitsVal (dg n)=n∧dg n≠[]∧(dg n=[48]∨∃c r,dg n=c::r∧49≤c):=by
 induction n using Nat.strongRecOn with
 | ind n ih=>
  by_cases h:n < 10
  · rw [P9 h]
    refine ⟨fun c hc=>?_,?_,by simp,?_⟩
    · rw [Fj.mp hc];omega
    · show 0 * 10+(48+n - 48)=n
      omega
    · by_cases h0:n=0
      · exact .inl (by rw [h0])
      · exact .inr ⟨_,_,rfl,by omega⟩
  · obtain ⟨a,b,c,d⟩:=ih (n / 10) (by omega)
    rw [J5u h];refine ⟨fun x hx=>?_,?_,by simp,.inr ?_⟩
    · rcases FI.mp hx with hx | hx
      · exact a x hx
      · rw [Fj.mp hx];omega
    · rw [digitsVal_snoc,b];omega
    · rcases d with d | ⟨x,r,d,hx⟩
      · rw [d]at b
        have:digitsVal [48]=0:=rfl;omega
      · exact ⟨x,r++[48+n % 10],by rw [d];rfl,hx⟩
theorem J5w:∀(k n:Nat),n < 10 ^ (k+1)→(dg n).length≤k+1
 | 0,n,h=>by rw [P9 (by simpa using h)];simp
 | k+1,n,h=>by
  by_cases hn:n < 10
  · rw [P9 hn];simp
  · rw [J5u hn,Fu,Rr]
    have:=J5w k (n / 10) (by rw [Nat.pow_succ]at h;omega);omega
theorem Ma{v:Int}(h0:0≤v)(h1:v < 10 ^ 31):S4 (Str.ofString (toString v)).cps.toList=true∧S5 (Str.ofString (toString v)).cps.toList=v:=by
 obtain ⟨n,rfl⟩:∃n:Nat,v=n:=⟨v.toNat,by omega⟩
 obtain ⟨a,b,c,d⟩:=J5v n;have e:=shown a c d;rw [b]at e;rw [e];show S4 (dg n)=true∧S5 (dg n)=n
 have h31:(n:Int) < ((10 ^ 31:Nat):Int):=by simpa using h1
 have hl:=J5w 30 n (Int.ofNat_lt.mp h31);have hp:=RF.mpr c;refine ⟨?_,by unfold S5;rw [b]⟩;unfold S4;rw [Fx (show 1≤(dg n).length by omega),Fx (show (dg n).length≤31 by omega),Y2.mpr a];rcases d with d | ⟨x,r,d,hx⟩
 · rw [d];rfl
 · rw [d]
   have:x≠48:=by omega
   simp [Mp,this]
theorem Mb{v:Int}(h0:0≤v){c:Nat}(hc:c∈(Str.ofString (toString v)).cps.toList):48≤c∧c≤57:=by
 obtain ⟨n,rfl⟩:∃n:Nat,v=n:=⟨v.toNat,by omega⟩
 obtain ⟨a,b,hne,d⟩:=J5v n;have e:=shown a hne d;rw [b]at e;rw [e]at hc;exact a c hc
theorem Vg{x:Str}{a b c:Nat}(h:∀i,a≤i→i < b→x.cps.toList[i]?≠some c){i:Nat}(h1:a≤i)(h2:i < b){y:Str}{r:List Nat}(hy:y.cps.toList=c::r):¬At x y x.length i:=fun z=>by
 have e:=z.2;rw [subAt_eq,R7,hy]at e
 have hl:y.length=r.length+1:=by unfold Str.length;rw [← Ft,hy];rfl
 rw [hl]at e;refine h i h1 h2 ?_
 cases hd:x.cps.toList.drop i with
 | nil=>rw [hd]at e;cases e
 | cons d t=>
  rw [hd]at e;have:d=c:=(List.cons.inj e).1;rw [← this,← List.head?_drop,hd];rfl
theorem Pa{x y:Str}{c:Nat}{r:List Nat}(hy:y.cps.toList=c::r):∀(ps:List Str) (a:Nat),ps≠[]→(∀p∈ps,c∉p.cps.toList)→a≤x.length→x.cps.toList.drop a=(Str.join y ps).cps.toList→partsFrom x y.length a (cuts x y a)=ps
 | [],a,h,_,_,_=>absurd rfl h
 | [p],a,_,h,ha,e=>by
  have e':x.cps.toList.drop a=p.cps.toList:=e;rw [Qd x y fun i hi=>?_]
  · show [strSub x a x.length]=[p]
    congr 1;exact Sj (by rw [J55];exact e')
  · by_cases hl:i < x.length
    · refine Vg (b:=x.length) (fun j hj _ ej=>?_) hi hl hy
      refine h p (by simp) ?_;rw [← e',FF];exact ⟨j - a,by rw [JO,show a+(j - a)=j by omega];exact ej⟩
    · intro z
      have:=z.1
      have hl':y.length=r.length+1:=by unfold Str.length;rw [← Ft,hy];rfl
      omega
 | p::q::ps,a,_,h,ha,e=>by
  have hl':y.length=r.length+1:=by unfold Str.length;rw [← Ft,hy];rfl
  have e':x.cps.toList.drop a=p.cps.toList++(y.cps.toList++(Str.join y (q::ps)).cps.toList):=by
   rw [e];show (p++y++Str.join y (q::ps)).cps.toList=_;rw [C2,C2,HV]
  have hlen:x.length - a=p.length+(y.length+(Str.join y (q::ps)).cps.toList.length):=by
   have:=congrArg List.length e';rw [Hw,Fu,Fu,Ft,Ft,Ft]at this;unfold Str.length;rw [this]
  have gp:∀j,a≤j→j < a+p.length→x.cps.toList[j]?≠some c:=fun j h1 h2 ej=>by
   refine h p (by simp) ?_;rw [FF];refine ⟨j - a,?_⟩
   have:(x.cps.toList.drop a)[j - a]?=some c:=by rw [JO,show a+(j - a)=j by omega];exact ej
   rw [e',FJ (by rw [Ft];unfold Str.length at h2;omega)]at this;exact this
  have dr:x.cps.toList.drop (a+p.length)=y.cps.toList++(Str.join y (q::ps)).cps.toList:=by
   rw [← JG,e'];exact List.drop_left' (by unfold Str.length;rw [Ft])
  have hc:At x y x.length (a+p.length):=by
   refine ⟨by omega,?_⟩;rw [subAt_eq,dr,R7];exact List.take_left' (by unfold Str.length;rw [Ft])
  rw [J1j x y (by omega) (by omega) hc fun i h1 h2=>Vg gp h1 h2 hy];show strSub x a (a+p.length)::partsFrom x y.length (a+p.length+y.length) (cuts x y (a+p.length+y.length))=_;rw [Pa hy (q::ps) (a+p.length+y.length) (by simp) (fun z hz=>h z (Fn _ hz)) (by omega) (by rw [← JG,dr];exact List.drop_left' (by unfold Str.length;rw [Ft]))];congr 1;refine Sj ?_;rw [strSub_toList,e',show a+p.length - a=p.length by omega];exact List.take_left' (by unfold Str.length;rw [Ft])
theorem L8{y:Str}{c:Nat}{r:List Nat}{ps:List Str}(hy:y.cps.toList=c::r)(hk:strKind y=1)(hne:ps≠[])(h:∀p∈ps,c∉p.cps.toList):Txt.split (Str.join y ps) y=ps:=by
 rw [Wj _ _ (by rw [hk];exact Fz (by have:=PyProof.Rows.strKind_pos (Str.join y ps);omega))];exact Pa hy ps 0 hne h (FB _) rfl
theorem Mx{l:List Nat}(h:Bz l=true){c:Nat}(hc:c∈l):48≤c∧c≤122∧c≠59:=by
 unfold Bz at h;simp only [FV]at h;have:=Hf.mp h.2 c hc
 have hm:c∈Bh++Bl:=by simpa using this
 have key:∀c∈Bh++Bl,48≤c∧c≤122∧c≠59:=by decide+kernel
 exact key c hm
theorem Ni{t:Th}(g:Ng t):Txt.split (B8 t) (Str.ofString " ")=[t.1,Str.ofString (toString t.2.1),Str.ofString (toString t.2.2)]:=by
 obtain ⟨h1,h2,h3,h4,h5⟩:=g;refine L8 (ps:=[t.1,Str.ofString (toString t.2.1),Str.ofString (toString t.2.2)]) (y:=Str.ofString " ") (c:=32) (r:=[]) (by decide+kernel) (by decide+kernel) (by simp) fun p hp hc=>?_
 have hp':p=t.1∨p=Str.ofString (toString t.2.1)∨p=Str.ofString (toString t.2.2):=by simpa using hp
 rcases hp' with e | e | e <;> rw [e]at hc
 · have:=Mx h1 hc;omega
 · have:=Mb h2 hc;omega
 · have:=Mb (v:=t.2.2) (by omega) hc;omega
theorem Jcy{t:Th}(g:Ng t):Jb7 (B8 t)= .ok t:=by
 have e:=Ni g;obtain ⟨h1,h2,h3,h4,h5⟩:=g;obtain ⟨a1,a2⟩:=Ma (v:=t.2.1) h2 (by omega);obtain ⟨b1,b2⟩:=Ma (v:=t.2.2) (by omega) (by omega);rw [J57 e,if_pos a1,if_pos b1,a2,b2]
theorem Wu{t:Th}(g:Ng t):59∉(B8 t).cps.toList:=fun hc=>by
 obtain ⟨h1,h2,h3,h4,h5⟩:=g
 have hs:∀c∈(Str.ofString " ").cps.toList,c=32:=by decide+kernel
 unfold B8 at hc;rw [C2,C2,C2,C2,FI,FI,FI,FI]at hc;rcases hc with (hc | hc) | (hc | hc) | hc
 · have:=Mx h1 hc;omega
 · have:=hs _ hc;omega
 · have:=Mb h2 hc;omega
 · have:=hs _ hc;omega
 · have:=Mb (v:=t.2.2) (by omega) hc;omega
theorem Vh{ts:List Th}(hne:ts≠[])(h:∀t∈ts,Ng t):Txt.split (Txt.join (Str.ofString "; ") (ts.map B8)) (Str.ofString "; ")=ts.map B8:=by
 rw [show Txt.join (Str.ofString "; ") (ts.map B8)=Str.join (Str.ofString "; ") (ts.map B8) from StrLaws.glued_eq_join _ _];refine L8 (y:=Str.ofString "; ") (ps:=ts.map B8) (c:=59) (r:=[32]) (by decide+kernel) (by decide+kernel) (by simpa using hne) fun p hp=>?_;obtain ⟨t,ht,rfl⟩:=FH.mp hp;exact Wu (h t ht)
theorem J1t{ys:List Str}(hne:ys≠[])(h:∀y∈ys,Bz y.cps.toList=true):Txt.split (Txt.join (Str.ofString " ") ys) (Str.ofString " ")=ys:=by
 rw [show Txt.join (Str.ofString " ") ys=Str.join (Str.ofString " ") ys from StrLaws.glued_eq_join _ _];refine L8 (y:=Str.ofString " ") (ps:=ys) (c:=32) (r:=[]) (by decide+kernel) (by decide+kernel) hne fun p hp hc=>?_;have:=Mx (h p hp) hc;omega
def Nz:Sp:=fun vs H Q _=>∃(z:Str),vs=[.str z]∧S4 z.cps.toList=true∧∀H',A7 H H'→Q (.int (S5 z.cps.toList)) H'
def Ks:Sp:=fun vs H Q _=>∃(t:Th),vs=[.str (B8 t)]∧Ng t∧∀a H',A7 H H'→H' a=some (.tup [.str t.1,.int t.2.1,.int t.2.2])→Q (.ref a) H'
def Kt(K:PySem.W.Frag)(C:Addr):Sp:=fun vs H Q _=>∃(ts:List Th),vs=[.str (Txt.join (Str.ofString "; ") (ts.map B8))]∧ts≠[]∧ts.length≤60∧(∀t∈ts,Ng t)∧(ts.map (·.1)).Nodup∧∀p H',A7 H H'→Aa K C H' p ts→Q (.ref p) H'
def Mc:Sp:=fun vs H Q _=>∃(ys:List Str),vs=[.str (Txt.join (Str.ofString " ") ys)]∧ys.length≤200∧(∀y∈ys,Bz y.cps.toList=true)∧∀p H',H p=none→A7 H H'→H' p=some (.lst (ys.map V.str))→Q (.ref p) H'
theorem Ku{l:List Nat}(h:Bz l=true):1≤l.length∧l.length≤8:=by
 unfold Bz at h;simp only [FV,decide_eq_true_eq]at h;exact ⟨h.1.1.1,h.1.1.2⟩
theorem My{y:Str}{b:Nat}:∀{ps:List Str},(∀p∈ps,p.length≤b)→(Str.join y ps).length≤ps.length * (b+y.length)
 | [],_=>FB _
 | [p],h=>by
  show p.length≤_;have:=h p (by simp);simp;omega
 | p::q::r,h=>by
  show (p++y++Str.join y (q::r)).length≤_;rw [D6,D6];have:=My (y:=y) (ps:=q::r) fun x hx=>h x (Fn _ hx);have:=h p (by simp);rw [show (p::q::r).length=(q::r).length+1 from rfl,Nat.add_mul];omega
theorem J06{y:Str}:∀{ps:List Str},ps≠[]→(∀p∈ps,p.cps.toList≠[])→(Str.join y ps).cps.toList≠[]
 | [],h,_=>absurd rfl h
 | [p],_,h=>h p (by simp)
 | p::q::r,_,h=>by
  show (p++y++Str.join y (q::r)).cps.toList≠[];rw [C2,C2];intro e;have:=h p (by simp);simp [this]at e
end NTx
namespace N93
open L2 N1 N5 N4 N6 N12 N32 N14 N20 N18 N25 NR N22 N21 N63 N35
theorem Vi{z:Str}:∀{L:List Str} {s:Nat},((L.take (s+1)).erase z).take s=(L.erase z).take s
 | [],s=>by simp
 | a::l,s=>by
  rw [FW]
  by_cases e:a=z
  · rw [e,JF,JF,List.take_take,Nat.min_self]
  · rw [JE (by simpa using e),JE (by simpa using e)]
    cases s with
    | zero=>rfl
    | succ s=>rw [FW,FW,Vi]
theorem mtf{z:Str}{L:List Str}{S:Nat}(h:1≤S):(z::(L.take S).erase z).take S=(z::L.erase z).take S:=by
 obtain ⟨s,rfl⟩:∃s,S=s+1:=⟨S - 1,by omega⟩
 rw [FW,FW,Vi]
variable {ys:List Str} {R:Str→Int} {n c:Nat}
def nw(ys:List Str)(n:Nat):List Str:=rc ys n 0
theorem J07:nw ys (n+1)=yat ys n::(nw ys n).erase (yat ys n):=J7m (FB _)
theorem J5x:(nw ys n).Nodup:=Ov
theorem Wv:∀{c:Nat},c≤n→∃rest,nw ys n=rc ys n c++rest
 | 0,_=>⟨[],(FT _).symm⟩
 | c+1,h=>by
  obtain ⟨r,e⟩:=Wv (c:=c) (by omega);rw [Nv (by omega),HV]at e;exact ⟨_,e⟩
theorem J5y{y:Str}(h:y∈nw ys n)(hn:n≤ys.length):y∈ys:=by
 obtain ⟨b,_,e⟩:=(Sh (FB _)).mp h;obtain ⟨h1,h2⟩:=Dh e;rw [← h2,Fc,Fb (by omega)];exact FU _
theorem ones{l:List Str}(h:∀y∈l,R y=1):(l.map R).sum=l.length:=by
 induction l with
 | nil=>rfl
 | cons a l ih=>
  rw [List.map_cons,Hh,ih fun y hy=>h y (Fn _ hy),h a FA,List.length_cons];omega
theorem J5z(hR:∀y∈ys,R y=1)(hn:n≤ys.length)(P:Nat):thr (dep R ys n) P=decide (yat ys n∈(nw ys n).take P):=by
 unfold dep
 cases h:ear ys n with
 | none=>
  refine (Fz fun hm=>?_).symm;obtain ⟨b,_,e⟩:=(Sh (FB _)).mp (Rc hm);rw [show Bb ys (yat ys n) n=none from h]at e;cases e
 | some b=>
  have hb:=(Dh h).1
  have hl:isL ys n b=true:=by
   unfold isL;refine Fx ?_;rw [show yat ys b=yat ys n from (Dh h).2];exact h
  have e1:=Nv (ys:=ys) hb;rw [if_pos hl,show yat ys b=yat ys n from (Dh h).2]at e1;obtain ⟨rest,e0⟩:=Wv (ys:=ys) (HF hb)
  have hlen:tl (W R ys n) b n=((rc ys n b).length:Int):=by
   rw [← Jb4 (HF hb)];refine ones fun y hy=>hR y (J5y (n:=n) ?_ hn);rw [e0];exact Re _ hy
  have hno:yat ys n∉rc ys n (b+1):=fun hm=>by
   have nd:(rc ys n b).Nodup:=Ov;rw [e1,Hq]at nd;exact nd.2.2 _ hm _ (Fj.mpr rfl) rfl
  show decide (tl (W R ys n) b n≤(P:Int))=_;rw [hlen,e0,e1,Fu,Rr,HV]
  by_cases hp:(rc ys n (b+1)).length+1≤P
  · rw [Fx (by omega)]
    refine (Fx ?_).symm;rw [List.take_append,FI];refine .inr ?_
    obtain ⟨q,hq⟩:∃q,P - (rc ys n (b+1)).length=q+1:=⟨P - (rc ys n (b+1)).length - 1,by omega⟩
    rw [hq];simp
  · rw [Fz (by omega)]
    refine (Fz fun hm=>?_).symm;rw [List.take_append,show P - (rc ys n (b+1)).length=0 by omega,List.take_zero,FT]at hm;exact hno (Rc hm)
theorem J1u{z:Str}{l:List Str}(nd:l.Nodup):l.reverse.erase z=(l.erase z).reverse:=by
 rw [Ja nd,Ja ((Jf l).nodup_iff.mpr nd),List.filter_reverse]
theorem J87{C:Addr}{N:Nat}{ns:List Str}(hN:1≤N)(hin:∀y∈ys,y∈ns)(hR:∀y∈ys,R y=1):∀i,i≤ys.length→∀a:S2×List Str,gst (T2 C) R N s20 ys i=a→Cc a.1 a.2 (((nw ys i).take N).reverse):=by
 intro i
 induction i with
 | zero=>
  intro _ a ha;have ha':((s20,[]):S2×List Str)=a:=ha;rw [← ha',show nw ys 0=[] from Ou];rw [List.take_nil];exact Cc.nil
 | succ i ih=>
  intro hi a ha
  have hz:ys[i]?=some (yat ys i):=by unfold yat;rw [Fc,Fb (by omega)];rfl
  have hzm:=Fk hz
  have hle:∀y∈ys,R y≤(N:Int):=fun y hy=>by rw [hR y hy];omega
  obtain ⟨g,hg⟩:∃g:S2×List Str,gst (T2 C) R (N:Int) s20 ys i=g:=⟨_,rfl⟩
  have gi:LI ns g.1 g.2:=hg▸(Nx (T:=T2 C) (R:=R) (n:=(N:Int)) (s0:=s20) (ns:=ns) li0 hin hle i (by omega)).i;have k1:=(K0 (T:=T2 C) (R:=R) (n:=(N:Int)) (s0:=s20) hz).symm.trans ha;rw [hg]at k1;have hl:=ih (by omega) _ hg;obtain ⟨s,l⟩:=g;have nd:=J5x (ys:=ys) (n:=i);have ndt:((nw ys i).take N).Nodup:=nd.sublist (Je _ _);have hone:∀y∈(nw ys i).take N,R y=1:=fun y hy=>hR y (J5y (Rc hy) (by omega))
  have hlen:((nw ys i).take N).length≤N:=by rw [FX];omega
  have hmem:∀y,y∈l↔y∈(nw ys i).take N:=fun y=>by rw [← hl.p.mem_iff,RB]
  rw [J07,← mtf hN];generalize (nw ys i).take N=M at hl ndt hone hlen hmem ⊢
  by_cases hzl:yat ys i∈l
  · have e:=J85 k1 hzl
    subst e;have hzM:=(hmem _).mp hzl;have h2:=hl.hit gi hzl;rw [J1u ndt]at h2;rw [FQ (by rw [List.length_cons,HP hzM];have:=RV hzM;omega),Jg];exact h2
  · have hzM:yat ys i∉M:=fun h=>hzl ((hmem _).mpr h)
    obtain ⟨j,l',e,h2,h3,h4⟩:=J5r k1 hzl gi (hin _ hzm) (hle _ hzm) hl;subst e;rw [List.erase_of_not_mem hzM]
    obtain ⟨S,rfl⟩:∃S,N=S+1:=⟨N - 1,by omega⟩
    rw [FW,Jg]
    have sml:∀j,N41.sm R (M.reverse.drop j)=((M.length - j:Nat):Int):=fun j=>by
     unfold N41.sm;rw [ones fun y hy=>hone y (RB.mp (JB hy)),Hw,List.length_reverse]
    rw [sml,hR _ hzm]at h3
    have hj:M.length - j=min S M.length:=by
     by_cases hj0:j=0
     · subst hj0;omega
     · have:=h4 (j - 1) (by omega)
       rw [sml,hR _ hzm]at this;omega
    have ed:M.reverse.drop j=(M.take S).reverse:=by
     rw [List.drop_reverse,hj];rcases Nat.le_total S M.length with h | h
     · rw [HX h]
     · rw [RA h,FQ h,FQ (Fh _)]
    rw [ed]at h2;exact h2
theorem J08{C:Addr}{ts:List Th}{N i:Nat}(hN:1≤N)(hin:∀y∈ys,y∈ts.map (·.1))(hR:∀y∈ys,rm ts y=1)(hi:i≤ys.length):(L63 C ts N ys i).Perm ((nw ys i).take N):=
 ((J87 (C:=C) (R:=rm ts) hN hin hR i hi _ rfl).p.symm).trans (Jf _)
theorem Sy{C:Addr}{ts:List Th}{N i:Nat}{z:Str}(hN:1≤N)(hin:∀y∈ys,y∈ts.map (·.1))(hR:∀y∈ys,rm ts y=1)(hz:ys[i]?=some z):(r63 C ts N ys i).1=z∧(r63 C ts N ys i).2.1=thr (dep (rm ts) ys i) N:=by
 have hi:=(Fe.mp hz).1
 have ez:yat ys i=z:=by unfold yat;rw [Fc,hz];rfl
 have e1:r63 C ts N ys i=(gask (T2 C) (rm ts) N (gst (T2 C) (rm ts) N s20 ys i) z).2:=Sq hz;have hm:z∈L63 C ts N ys i↔z∈(nw ys i).take N:=(J08 hN hin hR (by omega)).mem_iff;rw [J5z hR (by omega),ez,e1]
 by_cases h:z∈L63 C ts N ys i
 · have e:gask (T2 C) (rm ts) N (gst (T2 C) (rm ts) N s20 ys i) z=(_,(z,true,[])):=if_pos h
   rw [e];exact ⟨rfl,(Fx (hm.mp h)).symm⟩
 · have e:gask (T2 C) (rm ts) N (gst (T2 C) (rm ts) N s20 ys i) z=(_,(z,false,_)):=if_neg h
   rw [e];exact ⟨rfl,(Fz fun w=>h (hm.mpr w)).symm⟩
def Vj(C:Addr)(ts:List Th)(N:Int)(ys:List Str)(as gs:List Addr):List N55.Bk5:=(List.range ys.length).map fun i=>(as.getD i 0,(r63 C ts N ys i).1,(r63 C ts N ys i).2.1,gs.getD i 0)
theorem J88{C:Addr}{H:Hp}{b:Addr}{as gs:List Addr}{ts:List Th}{N:Int}(B:J5s C H b as gs ts N ys):N55.Kx H b (Vj C ts N ys as gs):=by
 have ga:∀i,i < ys.length→as[i]?=some (as.getD i 0):=fun i hi=>by rw [Fc,Fb (by rw [B.ln];exact hi)];rfl
 have gg:∀i,i < ys.length→gs[i]?=some (gs.getD i 0):=fun i hi=>by rw [Fc,Fb (by rw [B.m];exact hi)];rfl
 refine ⟨?_,fun r hr=>?_⟩
 · rw [B.L]
   congr 2;unfold Vj;rw [FR];refine RX fun i=>?_;rw [Fg,Fg]
   by_cases hi:i < ys.length
   · rw [ga i hi,Hd hi];rfl
   · rw [FN (by rw [B.ln];omega),FN (by rw [Fv];omega)]
     rfl
 · obtain ⟨i,hi,rfl⟩:=FH.mp hr
   have hi:=FY.mp hi;exact (B.t i _ _ (ga i hi) (gg i hi)).1
theorem Qh{g:Str→Int}{C:Addr}{ts:List Th}{N:Nat}{as gs:List Addr}(hN:1≤N)(hin:∀y∈ys,y∈ts.map (·.1))(hR:∀y∈ys,rm ts y=1):NPb.wsm g (Vj C ts N ys as gs)=((N35.mis (rm ts) ys N ys.length).map fun i=>g (yat ys i)).sum:=by
 unfold NPb.wsm Vj N35.mis;rw [Ju,FR]
 have hz:∀i∈List.range ys.length,ys[i]?=some (yat ys i):=fun i hi=>by
  have hi:=FY.mp hi;unfold yat;rw [Fc,Fb hi];rfl
 have e1:(List.range ys.length).filter ((fun r:N55.Bk5=>!r.2.2.1)∘fun i=>(as.getD i 0,(r63 C ts N ys i).1,(r63 C ts N ys i).2.1,gs.getD i 0))=(List.range ys.length).filter fun i=>!thr (dep (rm ts) ys i) N:=by
  refine RW fun i hi=>?_;show (!(r63 C ts N ys i).2.1)=_;rw [(Sy hN hin hR (hz i hi)).2]
 rw [e1];congr 1;refine RE fun i hi=>?_;show g (r63 C ts N ys i).1=_;rw [(Sy hN hin hR (hz i (HJ.mp hi).1)).1]
theorem J89{C:Addr}{ts:List Th}{N:Nat}{as gs:List Addr}(hN:1≤N)(hin:∀y∈ys,y∈ts.map (·.1))(hR:∀y∈ys,rm ts y=1):NPb.wsm (fun _=>1) (Vj C ts N ys as gs)=Nk (rm ts) ys N ys.length:=by
 rw [Qh hN hin hR];unfold Nk;generalize N35.mis (rm ts) ys N ys.length=l
 induction l with
 | nil=>rfl
 | cons a l ih=>rw [List.map_cons,Hh,ih,List.length_cons];omega
theorem J60{g:Str→Int}{C:Addr}{ts:List Th}{N:Nat}{as gs:List Addr}(hN:1≤N)(hin:∀y∈ys,y∈ts.map (·.1))(hR:∀y∈ys,rm ts y=1):NPb.wsm g (Vj C ts N ys as gs)=Ow g (rm ts) ys N ys.length:=Qh hN hin hR
theorem Sz:∀{l:List Int} {k m:Nat},k < l.length→((l.set k (l.getD k 0+1)).take m).sum=(l.take m).sum+if k < m then 1 else 0
 | [],k,m,h=>by cases h
 | a::l,0,m,_=>by
  cases m with
  | zero=>simp
  | succ m=>
   rw [List.set_cons_zero,FW,FW,Hh,Hh,if_pos (by omega),List.getD_cons_zero];omega
 | a::l,k+1,m,h=>by
  cases m with
  | zero=>simp
  | succ m=>
   rw [List.set_cons_succ,FW,FW,Hh,Hh,List.getD_cons_succ,Sz (by simpa using h)]
   by_cases e:k < m
   · rw [if_pos e,if_pos (by omega)];omega
   · rw [if_neg e,if_neg (by omega)];omega
open N71
theorem J61{zs:List Int}(h:∀z∈zs,1≤z){Q:List Str}{z:Str}:∀{k:Nat},k≤zs.length→(z∈Q.take (pre zs k).toNat↔∃j,j < k∧z∈lvl zs Q j)
 | 0,_=>by
  rw [show pre zs 0=0 from rfl];simp
 | k+1,hk=>by
  have h0:=Ez h k;have hz:=h _ (Fk (Do (show k < zs.length by omega)));rw [Lx (by omega),show (pre zs k+zs.getD k 0).toNat=(pre zs k).toNat+(zs.getD k 0).toNat by omega,List.take_add,FI,J61 h (by omega),← Wm h (by omega)];constructor
  · rintro (⟨j,hj,e⟩ | e)
    · exact ⟨j,by omega,e⟩
    · exact ⟨k,by omega,e⟩
  · rintro ⟨j,hj,e⟩
    by_cases ej:j=k
    · rw [ej]at e;exact .inr e
    · exact .inl ⟨j,by omega,e⟩
structure TI(C R:Str→Int)(ys:List Str)(zs:List Int)(i:Nat)(Q:List Str)(ff:List Int)(pd:Int):Prop where
 r:Q=(nw ys i).take zs.sum.toNat
 l:ff.length=zs.length+1
 f:∀m,m≤zs.length→(ff.take m).sum=i - Nk R ys (pre zs m) i
 t:ff.sum=i
 p:pd=Ow C R ys zs.sum i
theorem J8a{zs:List Int}:pre zs zs.length=zs.sum:=by unfold pre;rw [Hv]
theorem J8b{C R:Str→Int}{zs:List Int}{i k:Nat}{Q:List Str}{ff:List Int}{pd:Int}(T:TI C R ys zs i Q ff pd)(hz:∀z∈zs,1≤z)(h1:1≤zs.sum)(hR:∀y∈ys,R y=1)(hi:i < ys.length)(hk:k≤zs.length)(hkR:k < zs.length↔yat ys i∈Q)
 (k1:∀j,j < k→yat ys i∉lvl zs Q j) (k2:k < zs.length→yat ys i∈lvl zs Q k):TI C R ys zs (i+1) ((yat ys i::Q.erase (yat ys i)).take zs.sum.toNat) (ff.set k (ff.getD k 0+1)) (pd+if yat ys i∈Q then 0 else C (yat ys i)):=by
 have cumle:∀m,m≤zs.length→pre zs m≤zs.sum:=fun m hm=>by
  have e:zs.sum=(zs.take m).sum+(zs.drop m).sum:=by rw [← HI,Jw]
  have:0≤(zs.drop m).sum:=by
   have key:∀l:List Int,(∀z∈l,1≤z)→0≤l.sum:=fun l=>by
    induction l with
    | nil=>intro _;simp
    | cons a l ih=>
     intro h;have:=ih fun z hz=>h z (Fn _ hz);have:=h a FA;rw [Hh];omega
   exact key _ fun z hz'=>hz z (JB hz')
  unfold pre;omega
 have hin:∀m,m≤zs.length→(k < m↔thr (dep R ys i) (pre zs m)=true):=fun m hm=>by
  have h0:=Ez hz m;have hle:=cumle m hm;have e:=J5z (R:=R) hR (HF hi) (pre zs m).toNat;rw [show (((pre zs m).toNat:Nat):Int)=pre zs m by omega]at e;rw [e,decide_eq_true_iff]
  have e2:(nw ys i).take (pre zs m).toNat=Q.take (pre zs m).toNat:=by rw [T.r,List.take_take,HX (by omega)]
  rw [e2,J61 hz hm];constructor
  · intro h;exact ⟨k,h,k2 (by omega)⟩
  · rintro ⟨j,hj,hl⟩
    by_cases hjk:j < k
    · exact absurd hl (k1 j hjk)
    · omega
 have hlt:k < ff.length:=by rw [T.l];omega
 refine ⟨?_,by rw [Ho];exact T.l,fun m hm=>?_,?_,?_⟩
 · rw [J07,T.r,mtf (by omega)]
 · rw [Sz hlt,T.f m hm]
   have:=hin m hm
   cases ht:thr (dep R ys i) (pre zs m) with
   | true=>
    rw [if_pos (this.mpr ht)];unfold Nk;rw [Yq ht];omega
   | false=>
    rw [if_neg (fun w=>by rw [this.mp w]at ht;cases ht),J1f ht];omega
 · have e:=Sz (m:=ff.length) hlt
   rw [FQ (by rw [Ho];exact Fh _),Hv,if_pos hlt,T.t]at e;rw [e];omega
 · have:=hin zs.length (Fh _)
   rw [J8a]at this;rw [T.p]
   cases ht:thr (dep R ys i) zs.sum with
   | true=>
    rw [if_pos (hkR.mp (this.mpr ht))];unfold Ow;rw [Yq ht];omega
   | false=>
    rw [if_neg (fun w=>by rw [this.mp (hkR.mpr w)]at ht;cases ht),J1g ht]
open N74
def OnS(zs:List Int)(Q:List Str)(z:Str)(k:Nat):Prop:=k≤zs.length∧(k < zs.length↔z∈Q)∧(∀j,j < k→z∉lvl zs Q j)∧(k < zs.length→z∈lvl zs Q k)
def Gx(K:PySem.W.Frag)(C S:Addr):Sp:=fun vs H Q _=>∃(t:Addr) (x:TwA) (s:TwS) (z:Str) (ts:List Th),vs=[.ref t,.str z]∧Bf C H t x s∧By K S H x.st ts (own t x)∧(ts.map (·.1)).Nodup∧z∈ts.map (·.1)∧s.zs.length≤6∧(∀z∈s.zs,1≤z∧z≤1000000)∧(s.R.length:Int)≤s.zs.sum∧
 ∀(k:Nat) (H':Hp),A7 H H'→OnS s.zs s.R z k→Q (.int k) H'
def Kv(K:PySem.W.Frag)(C S:Addr):Sp:=fun vs H Q _=>∃(t:Addr) (x:TwA) (s:TwS) (g:Gt) (z:Str) (ts:List Th) (B:Nat),vs=[.ref t,.str z]∧Wq K C S H t x s g ts B∧z∈ts.map (·.1)∧B≤80000∧
 ∀(k:Nat) (s':TwS) (H':Hp),Off (own t x) H H'→Wq K C S H' t x s' (P8 s.zs.sum s.R z g) ts (B+2)→s'.R=Qe z s→s'.zs=s.zs→s'.pd=s.pd+(if z∈s.R then 0 else Dt ts z)→OnS s.zs s.R z k→s'.ff=s.ff.set k (s.ff.getD k 0+1)→Q (.int ((P8 s.zs.sum s.R z g).h z)) H'
def Ek(C:Addr):Sp:=fun vs H Q _=>∃(t:Addr) (x:TwA) (s:TwS),vs=[.ref t]∧Bf C H t x s∧s.ff.length≤100∧∀(p:Addr) (H':Hp),H p=none→A7 H H'→H' p=some (.lst (s.ff.map V.int))→Q (.ref p) H'
def Gy(C:Addr):Sp:=fun vs H Q _=>∃(t:Addr) (x:TwA) (s:TwS),vs=[.ref t]∧Bf C H t x s∧Q (.int s.pd) H
theorem J8c{n c:Nat}(h:c < n):rc ys n c=rc ys n (c+1)++if yat ys c∈rc ys n (c+1) then [] else [yat ys c]:=by
 rw [Nv h];congr 1
 by_cases hl:isL ys n c=true
 · rw [if_pos hl,if_neg fun hm=>?_]
   obtain ⟨b,hb,e⟩:=(Sh (by omega)).mp hm;have:=HS hl;rw [this]at e;cases e;omega
 · rw [if_neg hl,if_pos ?_]
   rw [Sh (by omega)]
   cases e:Bb ys (yat ys c) n with
   | none=>
    exfalso
    have key:∀n,c < n→Bb ys (yat ys c) n≠none:=fun n=>by
     induction n with
     | zero=>intro h;cases h
     | succ n ih=>
      intro hn;unfold Bb
      by_cases ez:ys.getD n Str.empty=yat ys c
      · rw [if_pos ez];simp
      · rw [if_neg ez]
        refine ih ?_
        by_cases hcn:c=n
        · rw [← hcn]at ez;exact absurd rfl ez
        · omega
    exact key n h e
   | some b=>
    refine ⟨b,?_,rfl⟩
    by_cases hbc:b < c
    · exact absurd rfl (J4h e hbc h)
    · by_cases ebc:b=c
      · rw [ebc]at e
        exact absurd (Fx e) hl
      · omega
theorem J62{Z:List Str}{z:Int}(h:0≤z):G3 (Z.map V.str) none (some z)=(Z.take z.toNat).map V.str:=by
 obtain ⟨n,rfl⟩:∃n:Nat,z=n:=⟨z.toNat,by omega⟩
 unfold G3;rw [Fa,HT.K6,HT.J2f,J9,← RH,Nat.sub_zero,Int.toNat_natCast];congr 1;rcases Nat.le_total n Z.length with e | e
 · rw [HX e]
 · rw [RA e,FQ (Fh _),FQ e]
theorem Ww{Z:List Str}{z:Int}(h:0≤z):G3 (Z.map V.str) (some z) none=(Z.drop z.toNat).map V.str:=by
 obtain ⟨n,rfl⟩:∃n:Nat,z=n:=⟨z.toNat,by omega⟩
 unfold G3;rw [Fa,HT.K6,← JK,Int.toNat_natCast,← RH];congr 1;rcases Nat.le_total n Z.length with e | e
 · rw [HX e,FQ (by rw [Hw];exact Fh _)]
 · rw [RA e,List.drop_of_length_le (Fh _),List.drop_of_length_le e];simp
theorem Jbh{K:PySem.W.Frag}{σ:L2.St}{H:Hp}{D:Ib}{a b:Addr}{xs ys:List V}{g:TG}{tb:TS}(hlen:xs.length≤ys.length)(Pv:Nat→L2.St→Hp→Prop)(h0:Pv 0 σ H)(hl:∀i σ H,i≤xs.length→Pv i σ H→SqL K H a xs∧SqL K H b ys)
 (hs:∀i x y σ H t,xs[i]?=some x→ys[i]?=some y→Pv i σ H→H t=none→g (.ref t) σ (upd H t (.tup [x,y])) fun σ2 H2=>tb {D with nx:=Pv (i+1),ct:=Pv (i+1),bk:=D.nx} σ2 H2) (hd:∀σ H,Pv xs.length σ H→D.nx σ H):K8 g tb D σ (Itz K a b) H:=by
 refine ⟨fun i m σ H=>i≤xs.length∧m=xs.length - i∧Pv i σ H,⟨_,FB _,rfl,h0⟩,fun i m σ H ⟨hi,hm,hP⟩=>?_⟩;obtain ⟨hq,hq2⟩:=hl i σ H hi hP
 by_cases hlt:i < xs.length
 · have hx:xs[i]?=some xs[i]:=Fb hlt
   have hy:ys[i]?=some (ys[i]'(by omega)):=Fb (by omega);refine .inr ⟨⟨xs,ys,_,_,hq,hq2,hx,hy⟩,Pv (i+1),fun σ' H' h=>⟨xs.length - (i+1),by omega,by omega,rfl,h⟩,?_⟩;rintro v H' ⟨t,x',y',rfl,ht,rfl,h1,h2⟩;have e:=(h1 xs hq).symm.trans hx;have e2:=(h2 ys hq2).symm.trans hy;cases e;cases e2;exact hs i _ _ σ H t hx hy hP ht
 · have e:i=xs.length:=by omega
   subst e;exact .inl ⟨⟨xs,ys,hq,hq2,.inl (Fh _)⟩,hd σ H hP⟩
def Gz:Sp:=fun vs H Q _=>∃(i:Int) (m:Nat),vs=[.int i,.int m]∧m≤26∧∀(p:Addr) (ys:List Str) (H':Hp),H p=none→A7 H H'→H' p=some (.lst (ys.map V.str))→ys.length=m→ys.Nodup→(∀y∈ys,Bz y.cps.toList=true)→Q (.ref p) H'
def Eu(K:PySem.W.Frag):Sp:=fun vs H Q _=>∃(a:Addr) (ys:List Str) (i M:Nat),vs=[.ref a,.int i,.int M]∧SqL K H a (ys.map V.str)∧ys.length≤200∧i < ys.length∧∀(p:Addr) (H':Hp),H p=none→A7 H H'→H' p=some (.lst (((nw ys (i+1)).take M).map V.str))→Q (.ref p) H'
def Md(K:PySem.W.Frag):Sp:=fun vs H Q _=>∃(a b:Addr) (Z:List Str) (zs:List Int),vs=[.ref a,.ref b]∧H a=some (.lst (Z.map V.str))∧SqL K H b (zs.map V.int)∧zs.length≤6∧Z.length≤200∧(∀z∈zs,1≤z∧z≤1000000)∧
 ∀(p:Addr) (as:List Addr) (H':Hp),H p=none→A7 H H'→H' p=some (.lst (as.map V.ref))→Sn H' as zs Z zs.length→Q (.ref p) H'
def Ew(K:PySem.W.Frag)(C:Addr):Sp:=fun vs H Q _=>∃(t q a:Addr) (x:TwA) (s:TwS) (as:List Addr) (Zz:List Int) (ts:List Th) (ys:List Str),vs=[.ref t,.ref q,.ref a,.int ys.length]∧Bf C H t x s∧TI (N41.cst ts) (rm ts) ys s.zs ys.length s.R s.ff s.pd∧SqL K H q (as.map V.ref)∧D8 K (N41.cst ts) (rm ts) ys H as Zz∧Zs (rm ts) ys Zz∧Zz.length≤61∧(∃z∈Zz,z≤1)∧
 SqL K H a (s.zs.map V.int)∧s.zs.length≤6∧1≤s.zs.length∧(∀z∈s.zs,1≤z∧z≤1000000)∧ys.length≤200∧∀H',A7 H H'→Q (.bl true) H'
def K2(tm tp:Addr)(K:PySem.W.Frag):Sp:=fun vs H Q _=>∃(a:Addr) (ns:List Int),vs=[.ref a]∧SqL K H a (ns.map V.int)∧ns.length≤63∧H tm=some (.tbl #[])∧H tp=some (.tbl #[])∧∀H',Q (.bl true) H'
def Kw(K:PySem.W.Frag)(C S:Addr):Sp:=fun vs H Q _=>∃(t dx p a:Addr) (ts:List Th) (zs:List Int),vs=[.ref t,.ref p,.ref a]∧H t=some (.ins C dx [])∧Aa K S H p ts∧(ts.map (·.1)).Nodup∧(∀t∈ts,t.2.2=1)∧ts.length≤59∧SqL K H a (zs.map V.int)∧1≤zs.length∧zs.length≤6∧(∀z∈zs,1≤z∧z≤1000000)∧
 ∀(x:TwA) (s:TwS) (H':Hp),SameBut t H H'→Wq K C S H' t x s g0 ts 1→s.R=[]→s.zs=zs→s.pd=0→s.ff=List.replicate (zs.length+1) 0→(∀b∈x.si::own t x,b=t∨H b=none)→Q .non H'
theorem J8d{C R:Str→Int}{zs:List Int}:TI C R ys zs 0 [] (List.replicate (zs.length+1) 0) 0:=by
 have z0:∀n:Nat,(List.replicate n (0:Int)).sum=0:=fun n=>by
  induction n with
  | zero=>rfl
  | succ n ih=>rw [Rg,Hh,ih];rfl
 refine ⟨by rw [show nw ys 0=[] from Ou,List.take_nil],Jx ..,fun m hm=>?_,z0 _,rfl⟩;rw [List.take_replicate,z0];rfl
def J63(ym:List Str)(c D:Int)(k:Nat):Th:=(ym.getD k Str.empty,((c / 2).fdiv ((k:Int)+1)+7 * k) % D,1)
def Wx(ym:List Str)(c D:Int):List Th:=(List.range ym.length).map (J63 ym c D)
theorem J64{ym:List Str}{c D:Int}:(Wx ym c D).map (·.1)=ym:=by
 unfold Wx;rw [FR];refine RX fun i=>?_;rw [Fg]
 by_cases hi:i < ym.length
 · rw [Hd hi,Fb hi]
   show some (ym.getD i Str.empty)=_;rw [Fc,Fb hi];rfl
 · rw [FN (by rw [Fv];omega),FN (by omega)];rfl
theorem J1v{ym:List Str}{c D:Int}(hn:∀y∈ym,Bz y.cps.toList=true)(h1:1≤D)(h2:D≤10 ^ 30+1):∀t∈Wx ym c D,N8.Ng t∧t.2.2=1:=fun t ht=>by
 obtain ⟨k,hk,rfl⟩:=FH.mp ht;have hk:=FY.mp hk;have e0:=Ht ((c / 2).fdiv ((k:Int)+1)+7 * k) (show D≠0 by omega);have e1:=Hm ((c / 2).fdiv ((k:Int)+1)+7 * k) (show 0 < D by omega);refine ⟨⟨hn _ ?_,e0,?_,by show (1:Int)≤1;omega,by show (1:Int)≤1000;omega⟩,rfl⟩
 · show ym.getD k Str.empty∈ym
   rw [Fc,Fb hk];exact FU _
 · show ((c / 2).fdiv ((k:Int)+1)+7 * k) % D≤10 ^ 30
   omega
theorem J8e{z:Str}{c:Int}:z++Str.ofString " "++Str.ofString (toString c)++Str.ofString " 1"=N8.B8 (z,c,1):=by
 refine N08.Sj ?_;unfold N8.B8;simp only [C2]
 have e1:(Str.ofString " 1").cps.toList=(Str.ofString " ").cps.toList++(Str.ofString (toString (1:Int))).cps.toList:=by decide+kernel
 rw [e1];simp [HV]
theorem Mz{b:Nat}:∀{ps:List Str},(∀p∈ps,p.length≤b)→(ps.map fun x=>x.length).sum≤ps.length * b
 | [],_=>by simp
 | p::r,h=>by
  rw [List.map_cons,Hh,List.length_cons,Nat.add_mul];have:=h p (by simp);have:=Mz fun x hx=>h x (Fn _ hx);omega
theorem J65:∀{zs:List Int},(∀z∈zs,1≤z∧z≤4)→(zs.length:Int)≤zs.sum∧zs.sum≤4 * zs.length
 | [],_=>by simp
 | z::r,h=>by
  have:=h z (by simp);have:=J65 fun x hx=>h x (Fn _ hx);rw [Hh,List.length_cons];omega
def Z93(g:Gt):Prop:=∀z,g.h z=0∧g.l z=false∧g.st z=0
theorem Jcz:Z93 g0:=fun _=>⟨rfl,rfl,rfl⟩
theorem J66{S:Int}{R:List Str}{z:Str}{g:Gt}(h:Z93 g):Z93 (P8 S R z g):=by
 have h1:Z93 (if z∈R then g else Mw (Str.ofString "fetch") z g):=by
  split
  · exact h
  · refine fun y=>⟨?_,(h y).2.1,(h y).2.2⟩
    show Pk g.h z (g.st z) y=0
    by_cases e:y=z
    · rw [e,E3];exact (h z).2.2
    · rw [M5 e];exact (h y).1
 unfold P8;generalize (if z∈R then g else Mw (Str.ofString "fetch") z g)=g1 at h1;unfold P7;split
 · unfold Kz
   rw [if_neg (by rw [(h1 _).2.1];decide)];exact h1
 · exact h1
theorem J67{H H':Hp}{b:Addr}{bs:List N55.Bk5}{C:Addr}{t:Addr}{x:TwA}{s:TwS}(o:Off (own t x) H H')(T:Bf C H t x s)(n:b∉own t x)(h:N55.Kx H b bs):N55.Kx H' b bs:=by
 refine ⟨o _ _ h.1 n,fun r hr=>o _ _ (h.2 r hr) fun z=>?_⟩;have e:=h.2 r hr;unfold own at z;simp only [Fy,HN,or_false]at z
 rcases z with z | z | z | z | z | z | z <;> rw [z]at e
 · obtain ⟨dx,fs,h1,_⟩:=T.o
   rw [h1]at e;cases e
 · rw [T.ro]at e;cases e
 · rw [T.he]at e;cases e
 · rw [T.la]at e;cases e
 · rw [T.so]at e;cases e
 · rw [T.en]at e;cases e
 · rw [T.fi]at e;cases e
theorem O0{H:Hp}{C t:Addr}{x:TwA}{s:TwS}(T:Bf C H t x s){b:Addr}(hb:H b=none):b∉own t x:=fun z=>by
 unfold own at z;simp only [Fy,HN,or_false]at z
 rcases z with z | z | z | z | z | z | z <;> rw [z]at hb
 · obtain ⟨dx,fs,h1,_⟩:=T.o
   rw [h1]at hb;cases hb
 · rw [T.ro]at hb;cases hb
 · rw [T.he]at hb;cases hb
 · rw [T.la]at hb;cases hb
 · rw [T.so]at hb;cases hb
 · rw [T.en]at hb;cases hb
 · rw [T.fi]at hb;cases hb
theorem Bf.odd{H H':Hp}{C t tp:Addr}{x:TwA}{s:TwS}{u:HO}(sb:SameBut tp H H')(hp:H tp=some u)(hu:NPb.Odd u)(T:Bf C H t x s):Bf C H' t x s:=by
 obtain ⟨dx,fs,h1,h2⟩:=T.o
 have hL:∀(b:Addr) (l:List V),H b=some (.lst l)→H' b=some (.lst l):=fun b l e=>sb _ _ e (Az e hp fun z=>by rcases hu with ⟨_,e⟩ | ⟨_,_,e⟩ <;> rw [e]at z <;> cases z)
 have hD:∀(b:Addr) (l:List (Key×V)),H b=some (.dK l)→H' b=some (.dK l):=fun b l e=>sb _ _ e (Az e hp fun z=>by rcases hu with ⟨_,e⟩ | ⟨_,_,e⟩ <;> rw [e]at z <;> cases z)
 exact ⟨⟨dx,fs,sb _ _ h1 (Az h1 hp fun z=>by rcases hu with ⟨_,e⟩ | ⟨_,_,e⟩ <;> rw [e]at z <;> cases z),h2⟩,hL _ _ T.si,hL _ _ T.ro,hD _ _ T.he,hD _ _ T.la,hD _ _ T.so,hL _ _ T.en,hL _ _ T.fi,T.d1,T.d2,T.d3,T.l1,T.l2,T.l3,T.l4,T.l5,T.l6⟩
theorem D8.odd{K:PySem.W.Frag}{C R:Str→Int}{H H':Hp}{tp:Addr}{as:List Addr}{zs:List Int}{u:HO}(sb:SameBut tp H H')(hp:H tp=some u)(hu:NPb.Odd u)(h:D8 K C R ys H as zs):D8 K C R ys H' as zs:=⟨h.1,fun j b z e1 e2=>NPb.SqT.odd sb hp hu (h.2 j b z e1 e2)⟩
theorem J8f{K:PySem.W.Frag}{C:Addr}{vs:List V}{H:Hp}{Q:VK}{E:XK}(h:N32.Mr K C vs H Q E):N41.De K C vs H Q E:=by
 obtain ⟨p,a,pl,ts,ys,rfl,hs,nd,hS,hl,hin,hw,h1,h2,q⟩:=h;refine ⟨p,a,pl,ts,ys,rfl,hs,nd,hS,hl,hin,fun y hy=>?_,h1,h2,q⟩;obtain ⟨i,t,ht,e⟩:=Kd (hin y hy);rw [← e,N32.Oi nd ht];exact hw t (Fk ht)
theorem J68{K:PySem.W.Frag}{C:Addr}{vs:List V}{H:Hp}{Q:VK}{E:XK}(h:Df 2 K C vs H Q E):N32.C3 K C vs H Q E:=by
 obtain ⟨p,ts,z,rfl,hs,nd,hz,q⟩:=h;obtain ⟨i,t,ht,e⟩:=Kd hz;refine ⟨p,ts,z,rfl,hs,nd,hz,?_⟩;have:=q i t ht e;rw [← e,N32.Oi nd ht];exact this
theorem J8g{K:PySem.W.Frag}{C:Addr}{vs:List V}{H:Hp}{Q:VK}{E:XK}(h:Df 1 K C vs H Q E):N41.Cz K C vs H Q E:=by
 obtain ⟨p,ts,z,rfl,hs,nd,hz,q⟩:=h;obtain ⟨i,t,ht,e⟩:=Kd hz;refine ⟨p,ts,z,rfl,hs,nd,hz,?_⟩;have:=q i t ht e;rw [← e,N41.J4n nd ht];exact this
end N93
namespace L2
theorem Def.wk93{P:Program}{w:World}{K:PySem.W.Frag}{mg:Str→Option Value}{base:Heap}{CX:CXT}{k:Nat}{x:Str}{ps:List Str}{sp sp':Sp}(D:Def P w K mg base CX k x ps sp)(h:∀vs H Q E,sp' vs H Q E→sp vs H Q E):Def P w K mg base CX k x ps sp':=by
 obtain ⟨f,fd,F,a,b,c⟩:=D.ex;exact ⟨f,fd,⟨fun vs H Q E q=>F.len vs H Q E (h _ _ _ _ q),fun A outer s H args us vs Q E hr e0 hb r q=>F.run A outer s H args us vs Q E hr e0 hb r (h _ _ _ _ q)⟩,a,b,c⟩
theorem Be.wk93{P:Program}{w:World}{K:PySem.W.Frag}{mg:Str→Option Value}{base:Heap}{CX:CXT}{k:Nat}{C:Addr}{m:Str}{ps:List Str}{sp sp':Sp}(D:Be P w K mg base CX k C m ps sp)(h:∀vs H Q E,sp' vs H Q E→sp vs H Q E):Be P w K mg base CX k C m ps sp':=by
 obtain ⟨f,fd,F,a,b⟩:=D.ex;exact ⟨f,fd,⟨fun vs H Q E q=>F.len vs H Q E (h _ _ _ _ q),fun A outer s H args us vs Q E hr e0 hb r q=>F.run A outer s H args us vs Q E hr e0 hb r (h _ _ _ _ q)⟩,a,b⟩
end L2
open PySem PySem.W PyProof.Rows
namespace L2
structure Bs(P:Program)(w:World)(K:PySem.W.Frag)(mg:Str→Option Value)(base:Heap):Prop where
 ex:∃h:Heap,K.In h∧h.Ns mainGlobals mg
theorem lc{α:Type}{us:List α}{n:Nat}(h:us.length=n+1):∃u r,us=u::r∧r.length=n:=by
 cases us with
 | nil=>cases h
 | cons u r=>exact ⟨u,r,rfl,Nat.succ.inj h⟩
theorem l0{α:Type}{us:List α}(h:us.length=0):us=[]:=by
 cases us with
 | nil=>rfl
 | cons u r=>cases h
section
variable {P:Program} {w:World} {K:PySem.W.Frag} {mg:Str→Option Value} {base:Heap} {CX:CXT} {k:Nat} {sp:Sp} {ps:List Str} {x qual n p1 p2 p3 p4 p5 p6 p7:Str} {st:Stmt} {f C:Addr} {fd:FuncData}
theorem Fun.d(F:Fun K x qual st f fd)(B:Bs P w K mg base)(a:PySem.W.nsIn K mainGlobals x=some (some (.ref f)))(o:Ar P w K mg base CX k f fd ps sp)(b:Ca K fd ps []):Def P w K mg base CX k x ps sp:=
 let ⟨_,X,G⟩:=B.ex;⟨f,fd,o,PySem.W.mg_of X G a,F.kp,b⟩
theorem Fun.m(F:Fun K x qual st f fd)(B:Bs P w K mg base)(M:Cj K C x f)(o:Ar P w K mg base CX k f fd ps sp)(b:Ca K fd ps []):Be P w K mg base CX k C x ps sp:=
 ⟨f,fd,o,M,b⟩
theorem Fun.i(F:Fun K x qual st f fd)(B:Bs P w K mg base)(M:Mk K C f)(a:PySem.W.nsIn K mainGlobals n=some (some (.ref C)))(o:Ar P w K mg base CX k f fd ps sp)(b:Ca K fd ps []):Tx P w K mg base CX k n C ps sp:=
 let ⟨_,X,G⟩:=B.ex;⟨f,fd,o,M,PySem.W.mg_of X G a,b⟩
theorem Fun.e1(F:Fun K x qual st f fd)(h:∀(kV doc pm:Value) (an:Option Addr) (cdv ct u:Value),bindArgs (PySem.W.fnOf x qual (Bp st) (Bg st) (A6 st) .none kV doc pm an cdv ct) ⟨[u],[]⟩=pure [(p1,u)]):Ca K fd [p1] []:=
 F.binds (ps:=[p1]) fun kV doc pm an cdv ct us hl=>by
  obtain ⟨u,us,rfl,h1⟩:=lc hl;cases l0 h1;exact h kV doc pm an cdv ct u
theorem Fun.e2(F:Fun K x qual st f fd)(h:∀(kV doc pm:Value) (an:Option Addr) (cdv ct u v:Value),bindArgs (PySem.W.fnOf x qual (Bp st) (Bg st) (A6 st) .none kV doc pm an cdv ct) ⟨[u,v],[]⟩=pure [(p1,u),(p2,v)]):Ca K fd [p1,p2] []:=
 F.binds (ps:=[p1,p2]) fun kV doc pm an cdv ct us hl=>by
  obtain ⟨u,us,rfl,h1⟩:=lc hl;obtain ⟨v,us,rfl,h2⟩:=lc h1;cases l0 h2;exact h kV doc pm an cdv ct u v
theorem Fun.e3(F:Fun K x qual st f fd)(h:∀(kV doc pm:Value) (an:Option Addr) (cdv ct u v w:Value),bindArgs (PySem.W.fnOf x qual (Bp st) (Bg st) (A6 st) .none kV doc pm an cdv ct) ⟨[u,v,w],[]⟩=pure [(p1,u),(p2,v),(p3,w)]):Ca K fd [p1,p2,p3] []:=
 F.binds (ps:=[p1,p2,p3]) fun kV doc pm an cdv ct us hl=>by
  obtain ⟨u,us,rfl,h1⟩:=lc hl;obtain ⟨v,us,rfl,h2⟩:=lc h1;obtain ⟨w,us,rfl,h3⟩:=lc h2;cases l0 h3;exact h kV doc pm an cdv ct u v w
theorem Fun.e4(F:Fun K x qual st f fd)(h:∀(kV doc pm:Value) (an:Option Addr) (cdv ct u v w y:Value),bindArgs (PySem.W.fnOf x qual (Bp st) (Bg st) (A6 st) .none kV doc pm an cdv ct) ⟨[u,v,w,y],[]⟩=pure [(p1,u),(p2,v),(p3,w),(p4,y)]):Ca K fd [p1,p2,p3,p4] []:=
 F.binds (ps:=[p1,p2,p3,p4]) fun kV doc pm an cdv ct us hl=>by
  obtain ⟨u,us,rfl,h1⟩:=lc hl;obtain ⟨v,us,rfl,h2⟩:=lc h1;obtain ⟨w,us,rfl,h3⟩:=lc h2;obtain ⟨y,us,rfl,h4⟩:=lc h3;cases l0 h4;exact h kV doc pm an cdv ct u v w y
end
theorem Jdb{n:Str}{N:List Str}{v:V}{vs:List V}:start (n::N) (v::vs)=some v::start N vs:=by
 simp [start]
theorem Jdc{n:Str}{N:List Str}:start (n::N) []=none::start N []:=rfl
theorem Jdd:start [] []=[]:=rfl
end L2
namespace K93
open L2 N1 N5 N8 N08 N31 N4 N6 N12 N32 N41 N14 N20 N18 N25 NR N22 N21 N35 N34 N55 N63 N71 N74 NPb NTx N93
def ql:Array Lean.Term:=("J35 J36 Jcc J91 J92 Jcd Jce Xe J37 Xf Jcf J38 Xg J93 Xh J39 Xi J3a J94 J3b Xj Xk J95 J96 J97 J3c J3d Ti Xl Tj Xm Tl Xn Tn Xo scal Xs Xt J99 Q0 Xu J3l J3m J9a J3n Xv Xw Tt J3o Tu true_implies false_implies Bool.false_and Bool.true_and Bool.and_true Bool.and_false Bool.false_or Bool.true_or Bool.or_true Bool.or_false J3s J3t Tz U0 J3v Xx J3w Q1 Xy Xz Y0 J3q Tv J9b Int.zero_add Int.toNat_natCast Qi List.map_cons List.map_nil List.getD_cons_zero List.getD_cons_succ J33 List.length_cons List.length_nil List.getElem?_cons_zero List.getElem?_cons_succ List.set_cons_zero List.set_cons_succ Option.some.injEq V.int.injEq V.bl.injEq V.str.injEq V.ref.injEq V.ty.injEq exists_eq_left' exists_eq_left exists_and_left exists_eq exists_eq' List.cons.injEq and_true true_and decide_eq_true_eq Bool.not_eq_true' decide_eq_false_iff_not reduceCtorEq exists_const Bool.true_eq_false Bool.false_eq_true if_true if_false ite_true ite_false Bool.not_true Bool.not_false decide_true decide_false Bool.not_not false_and and_false exists_false false_or or_false true_or or_true and_assoc not_true_eq_false not_false_eq_true Int.reduceToNat Nat.reduceAdd Np Ll Ec En Cw Kc Ln S9 Cr Dd C3 Mr Gi Ke Lp Kf Eo Ug Yf Uw Y8 Y9 Ya Yb J46 Cz Gk Kh Gm Lu Ot Ye Ui Uj Q6 Yr Q3 N41.De Lv Iz Us Q5 Yj Uq Sa Iw Iy Dn Kj Vb J02 Kl Gs M0 M3 M4 Ny Qf Ur Ja5 Yt Ej Km Es Kn Ga Ko Gn Er Gp Uz J3z Y7 Uc Dm Eg Iu spW Nz Ks Kt Mc J5g J5h Dq Df Gq Gr Gv Kq Kr Et Gw Gx Kv Ek Gy Ir Gz Eu Md Ew K2 Kw".splitOn " ").toArray.map fun s=>⟨(Lean.mkIdent s.toName).raw⟩
local macro_rules | `(tactic| walk_at "rq") => `(tactic| simp only [$[$ql:term],*])
local macro_rules | `(tactic| walk_at "rd") => `(tactic| first | (dsimp only [$[$ql:term],*]; try walk_at "rq") | walk_at "rq")
local macro_rules | `(tactic| walk_at "hp") => `(tactic| first | with_reducible assumption | exact A3 | (rw [A2 (by first | with_reducible assumption | exact A8 (by with_reducible assumption) (by with_reducible assumption))]; first | with_reducible assumption | exact A3))
local macro_rules | `(tactic| walk_at "sq") => `(tactic| (repeat' first | with_reducible assumption | exact SqT.of A3 | exact SqL.of A3 | refine' A7.tup (A7.new (by with_reducible assumption)) ?_ | refine' A7.seq (A7.new (by with_reducible assumption)) ?_))
local macro_rules | `(tactic| walk_at "isi") => `(tactic| first | exact J2w | exact J2x | exact J2y | exact Jaf | exact J30 | exact J2z | exact J31 | exact J32 (by walk_at "hp"))
local macro_rules | `(tactic| walk_at "slen") => `(tactic| first | omega | decide +kernel | (refine Jaq ?_ ?_ <;> walk_at "slen"))
local macro_rules | `(tactic| walk_at "side") => `(tactic| first | with_reducible assumption | with_reducible exact Xp (by omega) (by omega) | with_reducible exact J6q (by decide) (by decide) (by decide) | with_reducible exact J3e (by omega) (by omega) | with_reducible exact J3f (by omega) (by omega) | omega | decide | decide +kernel | (have := Ae; omega) | (simp only [D6, J6s, Ae]; omega) | (rw [Ae]; walk_at "slen"; done))
local macro_rules | `(tactic| walk_at "go1") => `(tactic| first | walk_at "rd" | ((with_reducible refine And.intro ?_ ?_); (focus (walk_at "side"; done))) | ((with_reducible apply Jag); (focus (walk_at "isi"; done))) | ((with_reducible apply Ik); (focus (walk_at "sq"; done)); (focus rfl)) | ((with_reducible apply Cq); (focus (walk_at "sq"; done)); (focus rfl)) | ((with_reducible apply J6n); (focus (walk_at "sq"; done))) | ((with_reducible apply J6m); (focus (walk_at "sq"; done))) | ((with_reducible apply J0r); (focus (walk_at "sq"; done)); (focus (assumption; done))) | ((with_reducible apply J6p); (focus (walk_at "sq"; done)); (focus (decide; done)); (focus (assumption; done))) | (intro (_ : List (Addr × PySem.Obj)) (_ : PySem.Value → PySem.Shared → Prop)) | with_reducible refine Jah fun _ _ => ?_ | (refine J6o (by with_reducible assumption) ?_; subst_vars))
local macro_rules | `(tactic| walk_at "go") => `(tactic| repeat walk_at "go1")
def top(i:Nat):Stmt:=PySem.Challenge.pw_castoff_k93_whole_sizes_books_and_towers.main.body.getD i (.Pass ⟨0,0,0,0⟩)
structure Txt(K:W.Frag)(mg:Str→Option Value)(Z2 Z5 Z3 Z6 Z4 Z0 Z1:Addr):Prop where
 Z7e:mg "Stock"=some (.ref Z2)
 Zb:Cls K Z2
 Ze:B5 K Z2 "things"
 Z7i:mg "Sums"=some (.ref Z5)
 Z0v:Cls K Z5
 Zm:B5 K Z5 "numbers"
 Z7f:mg "Shelf"=some (.ref Z3)
 Z9:Cls K Z3
 Zw:B5 K Z3 "stock"
 Z05:B5 K Z3 "places"
 Zl:B5 K Z3 "rooms"
 Z78:mg "Rule"=some (.ref Z6)
 Z7g:Cls K Z6
 Z7c:mg "Ranked"=some (.ref Z4)
 Z6y:Cls K Z4
 Z0g:B5 K Z4 "stock"
 Z0e:B5 K Z4 "places"
 Z0l:B5 K Z4 "present"
 Z11:B5 K Z4 "last"
 Z7d:mg "Oldest"=some (.ref Z0)
 Zh:Cls K Z0
 Zy:B5 K Z0 "stock"
 Zt:B5 K Z0 "places"
 Zr:B5 K Z0 "present"
 Z01:B5 K Z0 "last"
 Z7h:mg "Tower"=some (.ref Z1)
 Z7:Cls K Z1
 Zx:B5 K Z1 "stock"
 Zq:B5 K Z1 "sizes"
 Zn:B5 K Z1 "row"
 Zo:B5 K Z1 "held"
 Z07:B5 K Z1 "late"
 Z02:B5 K Z1 "store"
 Zu:B5 K Z1 "entries"
 Z03:B5 K Z1 "finds"
 Z08:B5 K Z1 "paid"
 Zg:mg "len"=none
 Zp:mg "isinstance"=none
 Z3n:mg "int"=none
 Z3m:mg "bool"=none
 Z4e:mg "str"=none
 Z0y:mg "list"=none
 Z4w:mg "all"=none
 Z09:mg "range"=none
 Z04:mg "enumerate"=none
 Z3o:mg "zip"=none
 Z1v:mg "sum"=none
 Z4x:mg "set"=none
 Z14:mg "sorted"=none
 Z4y:mg "max"=none
 Z4f:mg "tuple"=none
 Z4z:mg "min"=none
 Z1c:∃t,mg "LETTERS"=some (.str "abcdefghijklmnopqrstuvwxyz" t)
 Z1d:∃t,mg "FIGURES"=some (.str "0123456789" t)
 Z0t:∃t,mg "MOST_SIGNS"=some (.int 8 t)
 Z0n:∃t,mg "MOST_THINGS"=some (.int 60 t)
 Z0z:∃t,mg "MOST_ROOM"=some (.int 1000 t)
 Z0a:∃t,mg "MOST_PLACES"=some (.int 1000000 t)
 Z0o:∃t,mg "MOST_ASKS"=some (.int 200 t)
 Z10:∃t,mg "MOST_SUMS"=some (.int 200 t)
 Z0h:∃t,mg "MOST_FIGURES"=some (.int 31 t)
 Z0i:∃t,mg "MOST_SHELVES"=some (.int 6 t)
local macro_rules | `(tactic| walk_at "sc") => `(tactic| exact ⟨rfl, rfl, rfl, by decide +kernel, rfl, by decide +kernel, by decide +kernel⟩)
local macro_rules | `(tactic| walk_at "st") => `(tactic| simp only [Jdb, Jdc, Jdd])
section
variable {P:Program} {w:World} {K:W.Frag} {mg:Str→Option Value} {base:Heap} {Z2 Z5 Z3 Z6 Z4 Z0 Z1:Addr}
abbrev Z3p:Stmt:=top 16
abbrev Z33:Stmt:=top 17
abbrev Z1n:Stmt:=top 20
abbrev Z40:Stmt:=top 28
abbrev Z41:Stmt:=top 29
abbrev Z1x:Stmt:=top 30
abbrev Z2p:Stmt:=Aw (top 31) 0
abbrev Z34:Stmt:=Aw (top 31) 2
abbrev Z15:Stmt:=Aw (top 31) 3
abbrev Z1i:Stmt:=Aw (top 31) 6
abbrev Z1j:Stmt:=Aw (top 31) 5
abbrev Z1y:Stmt:=top 35
abbrev Z2q:Stmt:=top 37
abbrev Z2r:Stmt:=top 38
abbrev Z35:Stmt:=top 36
abbrev Z42:Stmt:=top 46
abbrev Z0f:Stmt:=top 47
abbrev Z0u:Stmt:=top 48
abbrev Z1z:Stmt:=Aw (top 31) 1
abbrev Z0w:Stmt:=Aw (top 31) 4
abbrev Z20:Stmt:=top 51
abbrev Z21:Stmt:=top 41
abbrev Z22:Stmt:=Aw (top 52) 10
abbrev Z16:Stmt:=Aw (top 52) 9
abbrev Z2s:Stmt:=Aw (top 52) 8
abbrev Z1o:Stmt:=Aw (top 52) 1
abbrev Z17:Stmt:=Aw (top 52) 6
abbrev Z1p:Stmt:=Aw (top 52) 2
abbrev Z23:Stmt:=Aw (top 52) 7
abbrev Z2t:Stmt:=Aw (top 52) 12
abbrev Z2u:Stmt:=Aw (top 52) 0
abbrev Z24:Stmt:=Aw (top 52) 4
abbrev Z25:Stmt:=Aw (top 52) 5
abbrev Z2v:Stmt:=top 40
abbrev Z2w:Stmt:=Aw (top 21) 0
abbrev Z26:Stmt:=Aw (top 21) 1
abbrev Z27:Stmt:=Aw (top 21) 2
abbrev Z0x:Stmt:=Aw (top 21) 3
abbrev Z36:Stmt:=Aw (top 21) 4
abbrev Z2x:Stmt:=Aw (top 21) 5
abbrev Z37:Stmt:=top 43
abbrev Z4n:Stmt:=top 44
abbrev Z28:Stmt:=top 45
abbrev Z0p:Stmt:=Aw (top 54) 0
abbrev Z29:Stmt:=Aw (top 55) 0
abbrev Z0r:Stmt:=Aw (top 55) 2
abbrev Z1q:Stmt:=Aw (top 55) 1
abbrev Z18:Stmt:=Aw (top 55) 3
abbrev Z0b:Stmt:=Aw (top 55) 4
abbrev Z1k:Stmt:=Aw (top 55) 5
abbrev Z2a:Stmt:=Aw (top 54) 4
abbrev Z2b:Stmt:=Aw (top 54) 5
abbrev Z38:Stmt:=top 57
abbrev Z4o:Stmt:=top 58
abbrev Z43:Stmt:=top 59
abbrev Z1r:Stmt:=top 42
abbrev Z39:Stmt:=Aw (top 62) 0
abbrev Z3q:Stmt:=Aw (top 62) 1
abbrev Z3a:Stmt:=Aw (top 62) 2
abbrev Z3b:Stmt:=top 64
abbrev Z3r:Stmt:=top 65
abbrev Z3c:Stmt:=top 66
abbrev Z3s:Stmt:=top 67
abbrev Z44:Stmt:=top 68
abbrev Z4p:Stmt:=top 70
abbrev Z45:Stmt:=top 71
abbrev Z46:Stmt:=top 72
abbrev Z3t:Stmt:=top 73
abbrev Z59:Stmt:=top 74
abbrev Z47:Stmt:=top 75
abbrev Z2n:Stmt:=top 76
def J8h:Pi:=J9d (("missed_by"++".<locals>.")++"<lambda>") (J9m (Jco ((Bg Z0f).getD 0 (.Pass ⟨0,0,0,0⟩))) 1)
def J8i:Pi:=J9d (("paid_by"++".<locals>.")++"<lambda>") (J9m (Jco ((Bg Z0u).getD 0 (.Pass ⟨0,0,0,0⟩))) 1)
theorem Z6i{f:Addr}{fd:FuncData}(F:Fun K "is_whole" "is_whole" Z3p f fd)(T:Txt K mg Z2 Z5 Z3 Z6 Z4 Z0 Z1):Ar P w K mg base CX0 1 f fd ["thing"] (En K):=by
 have sc:Ab ["thing"] ["thing"] (A6 Z3p):=by walk_at "sc"
 refine F.ok sc (fun vs H Q E h=>?_) (fun cdv A outer s H vs Q E hr h=>?_)
 · obtain ⟨_,_,_,rfl,_⟩:=h;rfl
 obtain ⟨x,b,c,rfl,h1,h2,q⟩:=h;refine ⟨_,(@A5 _ _ _ (@Af _ _ _ _ (Ie (Ag Cv rfl T.Zp (by first | rfl | decide+kernel) (A0 (pv 0) (A0 (K3 (v:= .ty "int") rfl T.Z3n (by first | rfl | decide+kernel) rfl) A4))) (L0 (J1x (Ag Cv rfl T.Zp (by first | rfl | decide+kernel) (A0 (pv 0) (A0 (K3 (v:= .ty "bool") rfl T.Z3m (by first | rfl | decide+kernel) rfl) A4)))))))),?_⟩;walk_at "st";walk_at "go";refine ⟨_,h1,?_⟩;cases b
 · walk_at "go"
   exact q
 · walk_at "go"
   refine ⟨_,h2 rfl,?_⟩;walk_at "go";exact q
theorem Z63{f:Addr}{fd:FuncData}(F:Fun K "is_within" "is_within" Z33 f fd)(T:Txt K mg Z2 Z5 Z3 Z6 Z4 Z0 Z1)(Z3u:Def P w K mg base CX0 1 "is_whole" ["thing"] (En K)):Ar P w K mg base CX0 2 f fd ["thing","least","most"] (Cw K):=by
 have sc:Ab ["thing","least","most"] ["thing","least","most"] (A6 Z33):=by walk_at "sc"
 refine F.ok sc (fun vs H Q E h=>?_) (fun cdv A outer s H vs Q E hr h=>?_)
 · obtain ⟨_,_,_,rfl,_⟩:=h;rfl
 obtain ⟨v,lo,hi,rfl,hv,q⟩:=h;refine ⟨_,(@A5 _ _ _ (@Af _ _ _ _ (Ie (Ad Z3u hr rfl Ac (A0 (pv 0) A4)) (L0 (J29 X4 X4 (pv 1) (pv 0) (pv 2)))))),?_⟩;walk_at "st";obtain ⟨b,c,h1,h2,h3,h4⟩:=J6u (K:=K) (H:=H) hv;walk_at "go";refine ⟨b,h1,c,h2,?_⟩;split
 · rename_i h
   obtain ⟨i,rfl⟩:=h3 h;simp only [wIn]at q;walk_at "go";split
   · rename_i h'
     rw [Fx h',Bool.true_and]at q;exact q
   · rename_i h'
     rw [Fz h',Bool.false_and]at q;exact q
 · rename_i h
   have e:wIn lo hi v=false:=by
    cases v with
    | int i=>exact absurd rfl (h4 (by simpa using h) i)
    | _=>rfl
   rw [e]at q;exact q
theorem Z50{f:Addr}{fd:FuncData}(F:Fun K "check_places" "check_places" Z1n f fd)(T:Txt K mg Z2 Z5 Z3 Z6 Z4 Z0 Z1)(Zd:Def P w K mg base CX0 2 "is_within" ["thing","least","most"] (Cw K)):Ar P w K mg base CX0 3 f fd ["places"] (Cr):=by
 have sc:Ab ["places"] ["places"] (A6 Z1n):=by walk_at "sc"
 refine F.ok sc (fun vs H Q E h=>?_) (fun cdv A outer s H vs Q E hr h=>?_)
 · obtain ⟨_,rfl,_⟩:=h;rfl
 obtain ⟨i,rfl,h1,h2,q⟩:=h
 refine ⟨_,(@A5 _ _ _ (B0 (Br (Bm (Ad Zd hr rfl Ac (A0 (pv 0) (A0 A9 (A0 (Dg rfl T.Z0a) A4))))))
  (@A5 _ _ _ B3)
  Ah)),?_⟩
 walk_at "st";walk_at "go";rw [if_neg (by rw [Iq h1 h2];decide)];exact ⟨rfl,q⟩
theorem Z6n{f:Addr}{fd:FuncData}(F:Fun K "made_of" "made_of" Z40 f fd)(T:Txt K mg Z2 Z5 Z3 Z6 Z4 Z0 Z1):Ar P w K mg base CX0 1 f fd ["text","signs"] (Ll):=by
 have sc:Ab ["text","signs"] ["text","signs"] (A6 Z40):=by walk_at "sc"
 refine F.ok sc (fun vs H Q E h=>?_) (fun cdv A outer s H vs Q E hr h=>?_)
 · obtain ⟨_,_,rfl,_⟩:=h;rfl
 obtain ⟨z,w,rfl,hz,q⟩:=h;refine ⟨_,(@A5 _ _ _ (@Af _ _ _ _ (Ag (J3i rfl) rfl T.Z4w (by first | rfl | decide+kernel) (A0 (E8 "sign" [1] rfl rfl (Jal (pv 0)) (fun b=>(K5 J3p (pv 0) (pv 1) (by with_unfolding_all rfl)))) A4)))),?_⟩;walk_at "st";walk_at "go";refine W0 (fun c=>V.bl (decide (c∈w.cps.toList))) hz (fun b c H' Q' hc sm q'=>?_) fun D hD=>?_
 · walk_at "go"
   exact q'
 · refine ⟨_,rfl,z.cps.toList.map fun c=>decide (c∈w.cps.toList),?_,?_⟩
   · rw [FR];exact SqL.of A3
   · rw [JT];exact q _ (A7.new hD)
theorem Z6o{f:Addr}{fd:FuncData}(F:Fun K "is_name" "is_name" Z41 f fd)(T:Txt K mg Z2 Z5 Z3 Z6 Z4 Z0 Z1)(Z1e:Def P w K mg base CX0 1 "made_of" ["text","signs"] (Ll)):Ar P w K mg base CX0 2 f fd ["thing"] (Ec K):=by
 have sc:Ab ["thing"] ["thing"] (A6 Z41):=by walk_at "sc"
 refine F.ok sc (fun vs H Q E h=>?_) (fun cdv A outer s H vs Q E hr h=>?_)
 · obtain ⟨_,rfl,_⟩:=h;rfl
 obtain ⟨x,rfl,hx⟩:=h
 refine ⟨_,(@A1 _ _ _ _ _ (B0 (Br (Bm (Ag Cv rfl T.Zp (by first | rfl | decide+kernel) (A0 (pv 0) (A0 (K3 (v:= .ty "str") rfl T.Z4e (by first | rfl | decide+kernel) rfl) A4)))))
  (@A5 _ _ _ (@Af _ _ _ _ D9))
  Ah)
  (@A1 _ _ _ _ _ (B0 (PW.pt (L9 (Am Pm (Ag Dz rfl T.Zg FE (A0 (pv 0) A4)) A9 (nomark _)) (Id (Am Ig (Ag Dz rfl T.Zg FE (A0 (pv 0) A4)) (Dg rfl T.Z0t) (nomark _)))))
   (@A5 _ _ _ (@Af _ _ _ _ D9))
   Ah)
  (@A5 _ _ _ (@Af _ _ _ _ (Ie (K5 J3p (@Bq _ _ _ _ _ _ _ Mj (pv 0) A9 (fun _ _=>rfl)) (Nn rfl T.Z1c) (by with_unfolding_all rfl)) (L0 (Ad Z1e hr rfl Ac (A0 (pv 0) (A0 (Aq Ce (Nn rfl T.Z1c) (Nn rfl T.Z1d)) A4))))))))),?_⟩
 walk_at "st";rcases hx with ⟨z,rfl,hz,q⟩ | ⟨hi,q⟩
 · walk_at "go"
   have hl:=Em (z:=z);split
   · rename_i h1
     have e:Bz z.cps.toList=false:=by unfold Bz;rw [Fz (show ¬1≤z.cps.toList.length by omega)];rfl
     rw [e]at q;exact q _ (A7.refl H)
   · rename_i h1
     refine ⟨hz,?_⟩;split
     · have e:Bz z.cps.toList=false:=by unfold Bz;rw [Fz (show ¬z.cps.toList.length≤8 by omega),Bool.and_false];rfl
       rw [e]at q;exact q _ (A7.refl H)
     · rename_i h2
       obtain ⟨c,r,hcr⟩:∃c r,z.cps.toList=c::r:=by
        cases h:z.cps.toList with
        | nil=>rw [h]at hl;simp at hl;omega
        | cons c r=>exact ⟨c,r,rfl⟩
       have hn:Bz z.cps.toList=(decide (c∈Bh) && z.cps.toList.all fun c=>decide (c∈Bh++Bl)):=by
        unfold Bz;rw [Fx (show 1≤z.cps.toList.length by omega),Fx (show z.cps.toList.length≤8 by omega)];rw [hcr];rfl
       rw [hn]at q;walk_at "go";refine Mo hz (by rw [hcr];exact Jck) ?_;walk_at "go";rw [U1];split
       · rename_i hc
         rw [Fx hc,Bool.true_and]at q;walk_at "go";rw [C2,U1,U2];exact q
       · rename_i hc
         rw [Fz hc,Bool.false_and]at q;exact q _ (A7.refl H)
 · walk_at "go"
   refine ⟨_,hi,?_⟩;walk_at "go";exact q
theorem Z5a{f:Addr}{fd:FuncData}(F:Fun K "check_thing" "check_thing" Z1x f fd)(T:Txt K mg Z2 Z5 Z3 Z6 Z4 Z0 Z1)(Z1f:Def P w K mg base CX0 2 "is_name" ["thing"] (Ec K))(Zd:Def P w K mg base CX0 2 "is_within" ["thing","least","most"] (Cw K)):Ar P w K mg base CX0 3 f fd ["name","cost","room","earlier"] (Kc K):=by
 have sc:Ab ["name","cost","room","earlier"] ["name","cost","room","earlier"] (A6 Z1x):=by walk_at "sc"
 refine F.ok sc (fun vs H Q E h=>?_) (fun cdv A outer s H vs Q E hr h=>?_)
 · obtain ⟨_,_,_,_,_,_,rfl,_⟩:=h;rfl
 obtain ⟨n,co,r,e,kvs,ks,rfl,he,hk,hrow,q⟩:=h
 refine ⟨_,(@A1 _ _ _ _ _ (B0 (Br (Bm (Ad Z1f hr rfl Ac (A0 (pv 0) A4))))
  (@A5 _ _ _ B3)
  Ah)
  (@A1 _ _ _ _ _ (B0 (Vk (Qu (D4 hr) (pv 0) (pv 3)))
   (@A5 _ _ _ B3)
   Ah)
  (@A1 _ _ _ _ _ (B0 (Br (Bm (Ad Zd hr rfl Ac (A0 (pv 1) (A0 A9 (A0 (Aq J25 A9 A9) A4))))))
   (@A5 _ _ _ B3)
   Ah)
  (@A5 _ _ _ (B0 (Br (Bm (Ad Zd hr rfl Ac (A0 (pv 2) (A0 A9 (A0 (Dg rfl T.Z0z) A4))))))
   (@A5 _ _ _ B3)
   Ah))))),?_⟩
 walk_at "st";obtain ⟨z,c,w,rfl,rfl,rfl,nz,hb,h1,h2,h3,h4⟩:=Q2 hrow;have line:=Ae;have hz8:=Ue hb;walk_at "go";intro H1 sm1;rw [hb];have he1:=sm1 _ _ he;walk_at "go";refine ⟨_,D0.k (k:=Sum.inr z) he1,?_⟩;rw [Lm hk,Fz nz];walk_at "go";refine ⟨rfl,?_⟩;split
 · rename_i h
   exact absurd h (by rw [Iq h1 h2];decide)
 · walk_at "go"
   refine ⟨rfl,?_⟩;split
   · rename_i h
     exact absurd h (by rw [Iq h3 h4];decide)
   · walk_at "go"
     exact q _ sm1
theorem Z5t{f:Addr}{fd:FuncData}(F:Fun K "__init__" "Stock.__init__" Z2p f fd)(T:Txt K mg Z2 Z5 Z3 Z6 Z4 Z0 Z1)(Z2c:Def P w K mg base CX0 3 "check_thing" ["name","cost","room","earlier"] (Kc K)):Ar P w K mg base CX0 4 f fd ["self","rows"] (Ln K Z2):=by
 have sc:Ab ["self","rows","name","cost","room"] ["self","rows"] (A6 Z2p):=by walk_at "sc"
 refine F.ok sc (fun vs H Q E h=>?_) (fun cdv A outer s H vs Q E hr h=>?_)
 · obtain ⟨_,_,_,_,rfl,_⟩:=h;rfl
 obtain ⟨p,dx,ra,rs,rfl,hp,hrs,hall,er,q⟩:=h
 refine ⟨_,(@A1 _ _ _ _ _ (B0 (Am Ig (Ag Ai rfl T.Zg FE (A0 (pv 1) A4)) (Dg rfl T.Z0n) (nomark _))
  (@A5 _ _ _ B3)
  Ah)
  (@A1 _ _ _ _ _ (C8 (pv 0) E7 rfl)
  (@A5 _ _ _ (C5 PassesOwn.never rfl (C4 (pv 1)) (Gc rfl (Ba (B2 (i:=2) sc.nd rfl (Or.inl rfl)) (Ba (B2 (i:=3) sc.nd rfl (Or.inl rfl)) (Ba (B2 (i:=4) sc.nd rfl (Or.inl rfl)) Dx))))
   (@A1 _ _ _ _ _ (Al (Ad Z2c hr rfl Ac (A0 (pv 2) (A0 (pv 3) (A0 (pv 4) (A0 (Ao (pv 0) rfl) A4))))))
   (@A5 _ _ _ (K7 (D4 hr) (Ao (pv 0) rfl) (pv 2) (Ih (A0 (Ag J0q rfl T.Zg FE (A0 (Ao (pv 0) rfl) A4)) (A0 (pv 3) (A0 (pv 4) A4)))) rfl))))))),?_⟩
 walk_at "st";have line:=Ae;obtain ⟨hl60,hstk⟩:=W7 er;walk_at "go";rw [Fa];split
 · rename_i h
   exact absurd h (by omega)
 · rename_i h
   walk_at "go";intro d hd;have npd:p≠d:=A8 hp hd;walk_at "go";refine ⟨Z2,dx,[],by rw [A2 npd];exact hp,T.Zb,T.Ze,by decide,?_⟩
   have sb0:SameBut p H (upd (upd H d (.dK [])) p (.ins Z2 dx (flds d))):=fun b o e n=>by rw [A2 n,A2 (A8 e hd)];exact e
   have hp0:upd (upd H d (.dK [])) p (.ins Z2 dx (flds d)) p=some (.ins Z2 dx (flds d)):=A3
   have hd0:upd (upd H d (.dK [])) p (.ins Z2 dx (flds d)) d=some (.dK []):=by rw [A2 npd.symm,A3]
   unfold flds at sb0 hp0 hd0;generalize upd (upd H d (HO.dK [])) p (HO.ins Z2 dx (Av (Str.ofString "things") (V.ref d) []))=H0 at sb0 hp0 hd0 ⊢;walk_at "go";refine ⟨⟨_,SqL.but sb0 hp hrs⟩,?_⟩;refine Gf (xs:=rs.map fun t=>V.ref t.1) (fun i σ H'=>∃v1 v2 v3,σ=[some (V.ref p),some (V.ref ra),v1,v2,v3]∧SameBut p H H'∧H' p=some (.ins Z2 dx (flds d))∧Y5 K H' d (rs.take i)∧Ip (Ia (rs.take i)) (rs.drop i)=none) ⟨none,none,none,rfl,sb0,hp0,⟨[],hd0,rfl,fun j t e=>by simp at e⟩,by rw [List.take_zero,J9];exact hstk⟩ (fun i σ H' _ h_=>by obtain ⟨v1,v2,v3,_,sb,_⟩:=h_;exact SqL.but sb hp hrs) ?_ ?_
   · rintro i x σ H' hx ⟨v1,v2,v3,rfl,sb,hp',⟨kvs,hd',hk,hm⟩,hst⟩
     rw [Fg]at hx
     cases ht:rs[i]? with
     | none=>rw [ht]at hx;cases hx
     | some t=>
      rw [ht]at hx;simp only [Option.map_some,Option.some.injEq]at hx;subst hx;have hi:i < rs.length:=(Fe.mp ht).1;have r1:=SqT.but sb hp (hall t (Fk ht));rw [U9 ht]at hst
      have hkl:kvs.length=i:=by
       have:=congrArg List.length hk;simp [Ia]at this;omega
      cases hrow:U6 (Ia (rs.take i)) t.2.1 t.2.2.1 t.2.2.2 with
      | some e=>rw [hrow]at hst;cases hst
      | none=>
       rw [hrow]at hst;obtain ⟨z,c,q',e1,e2,e3,nz,hb,_⟩:=Q2 hrow;walk_at "go";refine ⟨_,r1,rfl,?_⟩;walk_at "go";refine ⟨Z2,dx,flds d,hp',T.Zb,T.Ze,_,Cg,d,rfl,kvs,hd',_,hk,hrow,fun H1 sm1=>?_⟩;rw [e1,e2,e3];have hp1:=sm1 _ _ hp';have hd1:=sm1 _ _ hd';walk_at "go";refine ⟨Z2,dx,flds d,hp1,T.Zb,T.Ze,_,Cg,?_⟩;walk_at "go";refine ⟨kvs,hd1,by omega,fun t2 ht2=>?_⟩;have np2:p≠t2:=A8 hp1 ht2;have nd2:d≠t2:=A8 hd1 ht2
       have hd2:upd H1 t2 (.tup [.int kvs.length,.int c,.int q']) d=some (.dK kvs):=by rw [A2 nd2];exact hd1
       refine ⟨Z2,dx,flds d,by rw [A2 np2];exact hp1,T.Zb,T.Ze,_,Cg,d,rfl,_,Oa.k (k:=Sum.inr z) hd2 (by omega),?_,?_,?_,?_⟩
       · intro b o eb nb
         have h1:=sm1 _ _ (sb b o eb nb);rw [A2 (A8 eb hd),A2 (A8 h1 ht2)];exact h1
       · rw [A2 npd,A2 np2];exact hp1
       · rw [Hg,ht]
         refine Y5.snoc hd2 hk (fun j t' e=>?_) e1 e2 e3 nz A3;obtain ⟨a,q1,q2⟩:=hm j t' e;exact ⟨a,q1,(sm1.trans (A7.new ht2)).tup q2⟩
       · rw [Hg,ht]
         have e:Ia (rs.take kvs.length++(some t).toList)=Ia (rs.take kvs.length)++[sOf t.2.1]:=by unfold Ia;simp
         rw [e];exact hst
   · rintro σ H' ⟨v1,v2,v3,rfl,sb,hp',⟨kvs,hd',hk,hm⟩,hst⟩
     simp only [Fa,Hv,List.drop_length]at hk hm hst;show Q V.non H';refine q _ sb ⟨dx,d,kvs,hp',hd',?_,fun i t ht=>?_⟩
     · rw [hk];unfold Ia;rw [FR,FR];rfl
     · rw [Fg]at ht
       cases hr:rs[i]? with
       | none=>rw [hr]at ht;cases ht
       | some t'=>
        rw [hr]at ht;simp only [Option.map_some,Option.some.injEq]at ht;subst ht;exact hm i t' hr
theorem Z64{f:Addr}{fd:FuncData}(F:Fun K "has" "Stock.has" Z34 f fd)(T:Txt K mg Z2 Z5 Z3 Z6 Z4 Z0 Z1):Ar P w K mg base CX0 1 f fd ["self","name"] (S9 K Z2):=by
 have sc:Ab ["self","name"] ["self","name"] (A6 Z34):=by walk_at "sc"
 refine F.ok sc (fun vs H Q E h=>?_) (fun cdv A outer s H vs Q E hr h=>?_)
 · obtain ⟨_,_,_,rfl,_⟩:=h;rfl
 obtain ⟨p,ts,z,rfl,hs,q⟩:=h;refine ⟨_,(@A5 _ _ _ (@Af _ _ _ _ (J1w (Qu (D4 hr) (pv 1) (Ao (pv 0) rfl))))),?_⟩;walk_at "st";obtain ⟨dx,d,kvs,h1,h2,h3,h4,h5⟩:=Aa.has hs;walk_at "go";refine ⟨Z2,dx,flds d,h1,T.Zb,T.Ze,_,Cg,d,rfl,_,D0.k (k:=Sum.inr z) h2,?_⟩;rw [h4];exact q
theorem Z4j{f:Addr}{fd:FuncData}(F:Fun K "thing_of" "Stock.thing_of" Z15 f fd)(T:Txt K mg Z2 Z5 Z3 Z6 Z4 Z0 Z1):Ar P w K mg base CX0 1 f fd ["self","name"] (Dd K Z2):=by
 have sc:Ab ["self","name"] ["self","name"] (A6 Z15):=by walk_at "sc"
 refine F.ok sc (fun vs H Q E h=>?_) (fun cdv A outer s H vs Q E hr h=>?_)
 · obtain ⟨_,_,_,rfl,_⟩:=h;rfl
 obtain ⟨p,ts,z,rfl,hs,nd,hz,q⟩:=h
 refine ⟨_,(@A1 _ _ _ _ _ (B0 (Vk (J0p (D4 hr) (pv 1) (Ao (pv 0) rfl)))
  (@A5 _ _ _ B3)
  Ah)
  (@A5 _ _ _ (@Af _ _ _ _ (Nm (D4 hr) (Ao (pv 0) rfl) (pv 1) (fun _ _=>rfl))))),?_⟩
 walk_at "st";obtain ⟨dx,d,kvs,h1,h2,h3,h4,h5⟩:=Aa.has hs;have line:=Ae;walk_at "go";refine ⟨Z2,dx,flds d,h1,T.Zb,T.Ze,_,Cg,d,rfl,_,D0.k (k:=Sum.inr z) h2,?_⟩;rw [h4,Fx hz];obtain ⟨i,t,ht,rfl⟩:=Kd hz;obtain ⟨a,e1,e2⟩:=h5 nd i t ht;walk_at "go";refine ⟨Z2,dx,flds d,h1,T.Zb,T.Ze,_,Cg,?_⟩;walk_at "go";refine ⟨V.ref a,by rw [← e1];exact D0.k (k:=Sum.inr t.1) h2,?_⟩;exact q i t ht rfl a e2
theorem Z4q{f:Addr}{fd:FuncData}(F:Fun K "room_of" "Stock.room_of" Z1i f fd)(T:Txt K mg Z2 Z5 Z3 Z6 Z4 Z0 Z1)(Zj:Be P w K mg base CX0 1 Z2 "thing_of" ["self","name"] (Dd K Z2)):Ar P w K mg base CX0 2 f fd ["self","name"] (C3 K Z2):=by
 have sc:Ab ["self","name"] ["self","name"] (A6 Z1i):=by walk_at "sc"
 refine F.ok sc (fun vs H Q E h=>?_) (fun cdv A outer s H vs Q E hr h=>?_)
 · obtain ⟨_,_,_,rfl,_⟩:=h;rfl
 obtain ⟨p,ts,z,rfl,hs,nd,hz,q⟩:=h;refine ⟨_,(@A5 _ _ _ (@Af _ _ _ _ (@Bq _ _ _ _ _ _ _ Ex (Aj Zj T.Zb hr (As Ac) (pv 0) (A0 (pv 1) A4)) A9 (fun _ _=>rfl)))),?_⟩;walk_at "st";obtain ⟨dx,d,kvs,h1,h2,h3,h4,h5⟩:=Aa.has hs;walk_at "go";refine ⟨dx,flds d,h1,by rfl,?_⟩;walk_at "go";refine ⟨ts,hs,nd,hz,fun i t ht e a ha=>?_⟩;subst e;refine Ik ha rfl ?_;rw [Oi nd ht]at q;exact q
theorem Z4r{f:Addr}{fd:FuncData}(F:Fun K "cost_of" "Stock.cost_of" Z1j f fd)(T:Txt K mg Z2 Z5 Z3 Z6 Z4 Z0 Z1)(Zj:Be P w K mg base CX0 1 Z2 "thing_of" ["self","name"] (Dd K Z2)):Ar P w K mg base CX0 2 f fd ["self","name"] (Cz K Z2):=by
 have sc:Ab ["self","name"] ["self","name"] (A6 Z1j):=by walk_at "sc"
 refine F.ok sc (fun vs H Q E h=>?_) (fun cdv A outer s H vs Q E hr h=>?_)
 · obtain ⟨_,_,_,rfl,_⟩:=h;rfl
 obtain ⟨p,ts,z,rfl,hs,nd,hz,q⟩:=h;refine ⟨_,(@A5 _ _ _ (@Af _ _ _ _ (@Bq _ _ _ _ _ _ _ Ex (Aj Zj T.Zb hr (As Ac) (pv 0) (A0 (pv 1) A4)) A9 (fun _ _=>rfl)))),?_⟩;walk_at "st";obtain ⟨dx,d,kvs,h1,h2,h3,h4,h5⟩:=Aa.has hs;walk_at "go";refine ⟨dx,flds d,h1,by rfl,?_⟩;walk_at "go";refine ⟨ts,hs,nd,hz,fun i t ht e a ha=>?_⟩;subst e;refine Ik ha rfl ?_;rw [J4n nd ht]at q;exact q
theorem Z5b{f:Addr}{fd:FuncData}(F:Fun K "read_number" "read_number" Z1y f fd)(T:Txt K mg Z2 Z5 Z3 Z6 Z4 Z0 Z1)(Z1e:Def P w K mg base CX0 1 "made_of" ["text","signs"] (Ll)):Ar P w K mg base CX0 2 f fd ["text"] (Nz):=by
 have sc:Ab ["text"] ["text"] (A6 Z1y):=by walk_at "sc"
 refine F.ok sc (fun vs H Q E h=>?_) (fun cdv A outer s H vs Q E hr h=>?_)
 · obtain ⟨_,rfl,_⟩:=h;rfl
 obtain ⟨z,rfl,hn,q⟩:=h
 refine ⟨_,(@A1 _ _ _ _ _ (B0 (PW.pt (L9 (Am Pm (Ag Dz rfl T.Zg FE (A0 (pv 0) A4)) A9 (nomark _)) (L9 (Am Ig (Ag Dz rfl T.Zg FE (A0 (pv 0) A4)) (Dg rfl T.Z0h) (nomark _)) (Id (Br (Bm (Ad Z1e hr rfl Ac (A0 (pv 0) (A0 (Nn rfl T.Z1d) A4)))))))))
  (@A5 _ _ _ B3)
  Ah)
  (@A1 _ _ _ _ _ (B0 (PW.pt (Vl (Am La (@Bq _ _ _ _ _ _ _ Mj (pv 0) A9 (fun _ _=>rfl)) Cm (nomark _)) (Qm (Am N2 (pv 0) Cm (nomark _)))))
   (@A5 _ _ _ B3)
   Ah)
  (@A5 _ _ _ (@Af _ _ _ _ (Da Ph rfl T.Z3n (by first | rfl | decide+kernel) (A0 (pv 0) A4)))))),?_⟩
 walk_at "st";have line:=Ae;have hl:=Em (z:=z)
 obtain ⟨h1,h2,h3,h4⟩:1≤z.length∧z.length≤31∧(z.cps.toList.all fun c=>decide (c∈Bl))=true∧(Mp z.cps.toList [48] && !decide (z.cps.toList=[48]))=false:=by
  have h:=hn;unfold S4 at h;simp only [FV,decide_eq_true_eq,Bool.not_eq_true']at h;exact ⟨by omega,by omega,h.1.2,h.2⟩
 walk_at "go";rw [if_neg (by omega)];refine ⟨by omega,?_⟩;rw [if_neg (by omega)];refine ⟨by omega,fun H1 sm1=>?_⟩;rw [U2,if_neg (by rw [h3];simp)]
 obtain ⟨c,r,hcr⟩:∃c r,z.cps.toList=c::r:=by
  cases h:z.cps.toList with
  | nil=>rw [h]at hl;simp at hl;omega
  | cons c r=>exact ⟨c,r,rfl⟩
 have fin:(∃x,PySem.intText? z=some x∧z.length≤640∧Q (V.int x) H1):=⟨_,J3y h3 (by rw [hcr];simp) (by omega),by omega,q _ sm1⟩
 rename_i rest hrest;subst hrest;walk_at "go";refine Mo (by omega) (by rw [hcr];exact Jck) ?_;walk_at "go";simp only [J6t];simp only [J3x];split
 · rename_i h5
   have h7:z.cps.toList=[48]:=by
    rw [hcr,h5]at h4;rw [hcr,h5]
    simpa [Mp] using h4
   rw [if_neg (fun h6=>h6 h7)];walk_at "go";exact fin
 · walk_at "go"
   exact fin
theorem Z5u{f:Addr}{fd:FuncData}(F:Fun K "read_thing" "read_thing" Z2q f fd)(T:Txt K mg Z2 Z5 Z3 Z6 Z4 Z0 Z1)(Z12:Def P w K mg base CX0 2 "read_number" ["text"] (Nz)):Ar P w K mg base CX0 3 f fd ["piece"] (Ks):=by
 have sc:Ab ["piece","parts","cost","room"] ["piece"] (A6 Z2q):=by walk_at "sc"
 refine F.ok sc (fun vs H Q E h=>?_) (fun cdv A outer s H vs Q E hr h=>?_)
 · obtain ⟨_,rfl,_⟩:=h;rfl
 obtain ⟨t,rfl,hg,q⟩:=h
 refine ⟨_,(@A1 _ _ _ _ _ (Ak (i:=1) sc.nd rfl (Or.inl rfl) (Ct Ro Jo Jn Od (pv 0) (A0 Cm A4)))
  (@A1 _ _ _ _ _ (B0 (Am N2 (Ag Ai rfl T.Zg FE (A0 (pv 1) A4)) A9 (nomark _))
   (@A5 _ _ _ B3)
   Ah)
  (@A1 _ _ _ _ _ (Ak (i:=2) sc.nd rfl (Or.inl rfl) (Ad Z12 hr rfl Ac (A0 (@Bq _ _ _ _ _ _ _ Cb (pv 1) A9 (fun _ _=>rfl)) A4)))
  (@A1 _ _ _ _ _ (Ak (i:=3) sc.nd rfl (Or.inl rfl) (Ad Z12 hr rfl Ac (A0 (@Bq _ _ _ _ _ _ _ Cb (pv 1) A9 (fun _ _=>rfl)) A4)))
  (@A5 _ _ _ (@Af _ _ _ _ (Ih (A0 (@Bq _ _ _ _ _ _ _ Cb (pv 1) A9 (fun _ _=>rfl)) (A0 (pv 2) (A0 (pv 3) A4)))))))))),?_⟩
 walk_at "st";have line:=Ae;have hl:=Mv hg;have e3:=Jcy hg;obtain ⟨h1,h2,h3,h4,h5⟩:=hg;obtain ⟨a1,a2⟩:=Ma (v:=t.2.1) h2 (by omega);obtain ⟨b1,b2⟩:=Ma (v:=t.2.2) (by omega) (by omega);walk_at "go";intro p hp;rw [Ni ⟨h1,h2,h3,h4,h5⟩];have sm1:A7 H (upd H p (.lst ([t.1,Str.ofString (toString t.2.1),Str.ofString (toString t.2.2)].map V.str))):=A7.new hp;have hp1:upd H p (.lst ([t.1,Str.ofString (toString t.2.1),Str.ofString (toString t.2.2)].map V.str)) p=some (.lst [V.str t.1,V.str (Str.ofString (toString t.2.1)),V.str (Str.ofString (toString t.2.2))]):=A3;generalize upd H p (.lst ([t.1,Str.ofString (toString t.2.1),Str.ofString (toString t.2.2)].map V.str))=H1 at sm1 hp1 ⊢;rename_i rest hrest;subst hrest;walk_at "go";refine ⟨_,.inl (SqL.of hp1),?_⟩;rw [if_neg (fun h=>h rfl)];rename_i rest hrest;subst hrest;walk_at "go";refine Cq (SqL.of hp1) (v:=V.str (Str.ofString (toString t.2.1))) rfl ⟨_,rfl,a1,fun H2 sm2=>?_⟩
 rw [a2];have hp2:=sm2 _ _ hp1;walk_at "go";refine Cq (SqL.of hp2) (v:=V.str (Str.ofString (toString t.2.2))) rfl ⟨_,rfl,b1,fun H3 sm3=>?_⟩;rw [b2];have hp3:=sm3 _ _ hp2;walk_at "go";refine Cq (SqL.of hp3) (v:=V.str t.1) rfl ?_;walk_at "go";intro u hu;exact q u _ (((sm1.trans sm2).trans sm3).trans (A7.new hu)) A3
theorem Z5v{f:Addr}{fd:FuncData}(F:Fun K "read_stock" "read_stock" Z2r f fd)(T:Txt K mg Z2 Z5 Z3 Z6 Z4 Z0 Z1)(Z2y:Def P w K mg base CX0 3 "read_thing" ["piece"] (Ks))(Z1l:Tx P w K mg base CX0 4 "Stock" Z2 ["self","rows"] (Ln K Z2)):Ar P w K mg base CX0 6 f fd ["text"] (Kt K Z2):=by
 have sc:Ab ["text"] ["text"] (A6 Z2r):=by walk_at "sc"
 refine F.ok sc (fun vs H Q E h=>?_) (fun cdv A outer s H vs Q E hr h=>?_)
 · obtain ⟨_,rfl,_⟩:=h;rfl
 obtain ⟨ts,rfl,hne,hl,hg,nd,q⟩:=h
 refine ⟨_,(@A1 _ _ _ _ _ (B0 (Am La (pv 0) Cm (nomark _))
  (@A5 _ _ _ (@Af _ _ _ _ (Eb Z1l hr rfl (As Ac) (A0 (@Bo _ _ _ _ A4) A4))))
  Ah)
  (@A5 _ _ _ (@Af _ _ _ _ (Eb Z1l hr rfl (As Ac) (A0 (E8 "piece" [] rfl rfl (C4 (Ct Ro Jo Jn Od (pv 0) (A0 Cm A4))) (fun b=>(Ad Z2y hr rfl Ac (A0 (pv 0) A4)))) A4))))),?_⟩
 walk_at "st";have line:=Ae;have ej:Txt.join (Str.ofString "; ") (ts.map B8)=Str.join (Str.ofString "; ") (ts.map B8):=StrLaws.glued_eq_join _ _
 have hjl:(Txt.join (Str.ofString "; ") (ts.map B8)).length≤7000:=by
  rw [ej]
  have h1:=My (y:=Str.ofString "; ") (b:=100) (ps:=ts.map B8) fun p hp=>by obtain ⟨t,ht,rfl⟩:=FH.mp hp;exact Mv (hg t ht)
  have h2:(Str.ofString "; ").length=2:=by decide+kernel
  rw [h2,Fa]at h1;omega
 have hne2:Txt.join (Str.ofString "; ") (ts.map B8)≠Str.ofString "":=fun e=>by
  have:=J06 (y:=Str.ofString "; ") (ps:=ts.map B8) (by simpa using hne) fun p hp e=>by
   obtain ⟨t,ht,rfl⟩:=FH.mp hp;have h1:=Ku (hg t ht).1;unfold B8 at e;rw [C2,C2]at e;have e1:=(List.append_eq_nil_iff.mp (List.append_eq_nil_iff.mp e).1).1;rw [e1]at h1;simp at h1
  rw [← ej,e]at this;exact this (by decide+kernel)
 have es:=Vh hne hg;walk_at "go";rw [if_neg hne2];generalize Txt.join (Str.ofString "; ") (ts.map B8)=z at hjl es ⊢;rename_i rest hrest;subst hrest;walk_at "go";intro p hp;rw [es];have sm1:A7 H (upd H p (.lst ((ts.map B8).map V.str))):=A7.new hp;have hp1:upd H p (.lst ((ts.map B8).map V.str)) p=some (.lst ((ts.map B8).map V.str)):=A3;generalize upd H p (.lst ((ts.map B8).map V.str))=H1 at sm1 hp1 ⊢;refine ⟨⟨_,SqL.of hp1⟩,Qb (fun i=>[.str (ts.getD i ("",0,0)).1,.int (ts.getD i ("",0,0)).2.1,.int (ts.getD i ("",0,0)).2.2]) (SqL.of hp1) (by rw [Fa,Fa];omega) ?_ ?_⟩
 · intro b i x H2 Q' hx sm2 q'
   rw [Fg,Fg]at hx
   cases ht:ts[i]? with
   | none=>rw [ht]at hx;cases hx
   | some t=>
   rw [ht]at hx;cases hx
   have e:ts.getD i ("",0,0)=t:=by rw [Fc,ht];rfl
   rw [e]at q';walk_at "go";exact ⟨t,rfl,hg t (Fk ht),q'⟩
 · intro D as H2 hD sm2 hD2 hal hall x dx hx hdx nx
   rw [Fa,Fa]at hal;have sm3:A7 H2 (upd (upd H2 dx (.own x)) x (.ins Z2 dx [])):=Wp hx hdx
   have ra:W8 K (upd (upd H2 dx (.own x)) x (.ins Z2 dx [])) D as ts:=⟨SqL.of (sm3 _ _ hD2),hal,hl,fun i a t h1 h2=>by
    have e:ts.getD i (Str.ofString "",0,0)=t:=by rw [Fc,h2];rfl
    have:=hall i a h1;rw [e]at this
    exact SqT.of (sm3 _ _ this),fun t ht=>hg t ht,nd⟩
   obtain ⟨rs,e1,e2,e3,e4⟩:=ra.init;refine ⟨dx,D,rfl,A3,rs,by rw [e1];exact ra.l,e2,e3,fun H3 sb st=>?_⟩;rw [e4]at st;exact q x H3 ((sm1.trans sm2).trans (Su hx hdx sb)) st
theorem Z65{f:Addr}{fd:FuncData}(F:Fun K "read_asks" "read_asks" Z35 f fd)(T:Txt K mg Z2 Z5 Z3 Z6 Z4 Z0 Z1)(Z1f:Def P w K mg base CX0 2 "is_name" ["thing"] (Ec K)):Ar P w K mg base CX0 3 f fd ["text"] (Mc):=by
 have sc:Ab ["text","pieces","piece"] ["text"] (A6 Z35):=by walk_at "sc"
 refine F.ok sc (fun vs H Q E h=>?_) (fun cdv A outer s H vs Q E hr h=>?_)
 · obtain ⟨_,rfl,_⟩:=h;rfl
 obtain ⟨ys,rfl,hl,hy,q⟩:=h
 refine ⟨_,(@A1 _ _ _ _ _ (B0 (Am La (pv 0) Cm (nomark _))
  (@A5 _ _ _ (@Af _ _ _ _ (@Bo _ _ _ _ A4)))
  Ah)
  (@A1 _ _ _ _ _ (Ak (i:=1) sc.nd rfl (Or.inl rfl) (Ct Ro Jo Jn Od (pv 0) (A0 Cm A4)))
  (@A1 _ _ _ _ _ (B0 (Am Ig (Ag Ai rfl T.Zg FE (A0 (pv 1) A4)) (Dg rfl T.Z0o) (nomark _))
   (@A5 _ _ _ B3)
   Ah)
  (@A1 _ _ _ _ _ (C5 PassesOwn.never rfl (C4 (pv 1)) (B2 (i:=2) sc.nd rfl (Or.inl rfl))
   (@A5 _ _ _ (B0 (Br (Bm (Ad Z1f hr rfl Ac (A0 (pv 2) A4))))
    (@A5 _ _ _ B3)
    Ah)))
  (@A5 _ _ _ (@Af _ _ _ _ (pv 1))))))),?_⟩
 walk_at "st";have line:=Ae;walk_at "go"
 by_cases hn:ys=[]
 · subst hn
   rw [if_pos (by decide+kernel)];refine ⟨by omega,fun p hp=>q p _ hp (A7.new hp) A3⟩
 have hne:∀y∈ys,y.cps.toList≠[]:=fun y hyy e=>by have:=Ku (hy y hyy);rw [e]at this;simp at this
 have ej:Txt.join (Str.ofString " ") ys=Str.join (Str.ofString " ") ys:=StrLaws.glued_eq_join _ _
 have hjl:(Txt.join (Str.ofString " ") ys).length≤2000:=by
  rw [ej]
  have h1:=My (y:=Str.ofString " ") (b:=8) (ps:=ys) fun p hp=>by have:=Ku (hy p hp);rw [Em]at this;exact this.2
  have h2:(Str.ofString " ").length=1:=by decide+kernel
  rw [h2]at h1;omega
 rw [if_neg (fun e=>by have:=J06 (y:=Str.ofString " ") hn hne;rw [← ej,e]at this;exact this (by decide+kernel))];have es:=J1t hn hy;generalize Txt.join (Str.ofString " ") ys=z at hjl es ⊢;rename_i rest hrest;subst hrest;walk_at "go";intro p hp;rw [es];have sm1:A7 H (upd H p (.lst (ys.map V.str))):=A7.new hp;have hp1:upd H p (.lst (ys.map V.str)) p=some (.lst (ys.map V.str)):=A3;generalize upd H p (.lst (ys.map V.str))=H1 at sm1 hp1 ⊢;rename_i rest hrest;subst hrest;walk_at "go";refine ⟨_,.inl (SqL.of hp1),?_⟩;rw [Fa,if_neg (by omega)];rename_i rest hrest;subst hrest;walk_at "go";rename_i rest hrest;refine ⟨⟨_,SqL.of hp1⟩,Gf (xs:=ys.map V.str) (fun i σ H'=>∃v,σ=[some (V.str z),some (V.ref p),v]∧A7 H1 H') ⟨none,rfl,A7.refl _⟩ (fun i σ H' _ h_=>by obtain ⟨v,_,sm⟩:=h_;exact SqL.of (sm _ _ hp1)) ?_ ?_⟩
 · clear hrest
   rintro i x σ H' hx ⟨v,rfl,sm⟩;rw [Fg]at hx
   cases hy':ys[i]? with
   | none=>rw [hy']at hx;cases hx
   | some y=>
   rw [hy']at hx;cases hx;have hyn:=hy y (Fk hy');have hyl:=Ku hyn;rw [Em]at hyl;walk_at "go";intro H2 sm2;rw [hyn,if_neg (by simp)];exact sm.trans sm2
 · rintro σ H' ⟨v,rfl,sm⟩
   subst hrest;walk_at "go";exact q p _ hp (sm1.trans sm) (sm _ _ hp1)
theorem Z6p{f:Addr}{fd:FuncData}(F:Fun K "weighed" "weighed" Z42 f fd)(T:Txt K mg Z2 Z5 Z3 Z6 Z4 Z0 Z1):Ar P w K mg base CX0 5 f fd ["book","weigh"] (Dm P w K mg base):=by
 have sc:Ab ["book","weigh"] ["book","weigh"] (A6 Z42):=by walk_at "sc"
 refine F.ok sc (fun vs H Q E h=>?_) (fun cdv A outer s H vs Q E hr h=>?_)
 · obtain ⟨_,_,_,rfl,_⟩:=h;rfl
 obtain ⟨p,b,bs,rfl,hB,hbl,hin,hJ,q⟩:=h;refine ⟨_,(@A5 _ _ _ (@Af _ _ _ _ (Ag (G5 rfl) rfl T.Z1v (by first | rfl | decide+kernel) (A0 (J4b "row" [1] rfl rfl (C4 (pv 0)) (fun b=>(Br (Bm (@Bq _ _ _ _ _ _ _ Ex (pv 0) A9 (fun _ _=>rfl))))) (fun b=>(J42 (fa:=(fun b:Wg P w K mg base=>b.f)) (J:=(fun b=>b.J)) (sp:=(fun b=>spW b.zs b.g)) (fun b=>b.ok) hr Ac (pv 1) (A0 (@Bq _ _ _ _ _ _ _ Ex (pv 0) A9 (fun _ _=>rfl)) A4)))) A4)))),?_⟩;walk_at "st";have line:=Ae;walk_at "go";refine ⟨⟨_,SqL.of hB.l⟩,J4c (xs:=bs.map fun r=>V.ref r.1) (Jay H) (fun x=>V.int (b.g (nmV H x))) (SqL.of hB.l) (by rw [Fa];omega) ?_ ?_ ?_⟩
 · intro b' v H5 QT hx sm q'
   obtain ⟨r,hr,rfl⟩:=FH.mp hx;have q2:=q' H5 (A7.refl _);rw [Sb (hB.t r hr)]at q2;have g3:=sm _ _ (hB.t r hr);walk_at "go";exact Ik (SqT.of g3) rfl ⟨_,rfl,q2⟩
 · intro b' v H5 Q' hx hm sm q'
   obtain ⟨r,hr,rfl⟩:=FH.mp hx;have g3:=sm _ _ (hB.t r hr);have hJ2:=b.keep sm hJ;walk_at "go";refine ⟨b,rfl,hJ2,Ik (SqT.of g3) rfl ⟨hJ2,_,rfl,hin r hr (by have:=Sb (hB.t r hr);rw [hm]at this;simpa using this.symm),fun H7 s7=>?_⟩⟩;have:=q' H7 s7;rw [J4o (hB.t r hr)]at this;exact this
 · intro D H' hD sm hD2
   rw [J7b hB.t]at hD2;have q2:=q H' sm;exact ⟨D,rfl,_,SqL.of hD2,q2⟩
theorem J8j{f:Addr}{zs:List Str}(T:Txt K mg Z2 Z5 Z3 Z6 Z4 Z0 Z1):Nd P w K mg base CX0 4 f (Of J8h [] · f) (spW zs fun _=>1):=by
 have sc:Co ["name"] ["name"] J8h.scope []:=Co.mk0 (ps:=["name"]) (sc:=J8h.scope) rfl rfl rfl (by decide+kernel) (by decide+kernel) (by decide+kernel) (by decide+kernel);refine Nd.ofLam (fvs:=[]) sc (fun pm ct cd us hl=>match us,hl with | [_],_=>rfl) (fun vs H Q E h=>?_) (fun H h=>⟨h,.nil⟩) (fun cd A outer s H vs Q E hr hJ h=>?_)
 · obtain ⟨z,rfl,_⟩:=h;rfl
 obtain ⟨z,rfl,hz,q⟩:=h;refine ⟨_,A9,?_⟩;walk_at "go";intro _;rw [Ux];exact q _ (A7.refl _)
theorem Z66{f:Addr}{fd:FuncData}(F:Fun K "missed_by" "missed_by" Z0f f fd)(T:Txt K mg Z2 Z5 Z3 Z6 Z4 Z0 Z1)(Z1g:Def P w K mg base CX0 5 "weighed" ["book","weigh"] (Dm P w K mg base))(M:Jat K f 524)(HB:base.BuiltinsAt mg 524):Ar P w K mg base CX0 6 f fd ["book"] (Eg 524 (⟨243,25,243,39⟩:Pos) (("missed_by"++".<locals>.")++"<lambda>")):=by
 have sc:Ab ["book"] ["book"] (A6 Z0f):=by walk_at "sc"
 refine F.okC M sc (fun vs H Q E h=>?_) (fun c A outer s H vs Q E hc hr h=>?_)
 · obtain ⟨_,_,rfl,_⟩:=h;rfl
 obtain ⟨p,bs,rfl,hB,hbl,hL,q⟩:=h;refine ⟨_,(@A5 _ _ _ (@Af _ _ _ _ (Ad Z1g hr rfl Ac (A0 (pv 0) (A0 (Jas rfl rfl rfl hc (by decide) HB) A4))))),?_⟩;walk_at "st";have line:=Ae;walk_at "go";refine ⟨hL,fun f2 c2 ct H2 hf2 sb hL2 hc2 hff=>?_⟩;walk_at "go";refine ⟨⟨f2,(Of J8h [] · f2),bs.map (·.2.1),fun _=>1,J8j T,fun s h=>h.same s⟩,rfl,bs,Kx.tk ⟨sb,hL2⟩ hL hB,hbl,fun r hr _=>FH.mpr ⟨r,hr,rfl⟩,⟨_,c2,ct,hff,hc2⟩,fun H3 sm3=>q _ ⟨sb.trans (.of sm3),Uu sm3 hL2⟩⟩
theorem J8k{f c st:Addr}{ts:List Th}(nd:(ts.map (·.1)).Nodup)(T:Txt K mg Z2 Z5 Z3 Z6 Z4 Z0 Z1)(Za:Be P w K mg base CX0 2 Z2 "cost_of" ["self","name"] (Cz K Z2)):Nd P w K mg base CX0 4 f (PJ J8i K Z2 f c st ts) (spW (ts.map (·.1)) (cst ts)):=by
 have sc:Co ["name","stock"] ["name"] J8i.scope [("stock",c)]:=Co.mk1 (ps:=["name"]) (sc:=J8i.scope) (x:="stock") rfl rfl rfl (by decide+kernel) (by decide+kernel) (by decide+kernel) (by decide+kernel) rfl;refine Nd.ofLam (fvs:=[V.ref st]) sc (fun pm ct cd us hl=>match us,hl with | [_],_=>rfl) (fun vs H Q E h=>?_) (fun H h=>⟨h.1,h.2.1⟩) (fun cd A outer s H vs Q E hr hJ h=>?_)
 · obtain ⟨z,rfl,_⟩:=h;rfl
 obtain ⟨z,rfl,hz,q⟩:=h;refine ⟨_,(Aj Za T.Zb hr (As Ac) (pv 1) (A0 (pv 0) A4)),?_⟩;obtain ⟨o,u,hco,_⟩:=hJ.2.1.get _ (FA ..);have hst:=Aa.odd J7c hco (.inr ⟨_,_,rfl⟩) hJ.2.2;obtain ⟨dx,d,kvs,h1,_⟩:=hst.ex;walk_at "go";exact ⟨_,rfl,_,rfl,dx,_,h1,rfl,_,rfl,_,rfl,ts,z,rfl,hst,nd,hz,fun _=>by rw [Ux];exact q _ (A7.refl _)⟩
theorem Z6q{f:Addr}{fd:FuncData}(F:Fun K "paid_by" "paid_by" Z0u f fd)(T:Txt K mg Z2 Z5 Z3 Z6 Z4 Z0 Z1)(Z1g:Def P w K mg base CX0 5 "weighed" ["book","weigh"] (Dm P w K mg base))(Za:Be P w K mg base CX0 2 Z2 "cost_of" ["self","name"] (Cz K Z2))(M:Jat K f 531)(HB:base.BuiltinsAt mg 531):Ar P w K mg base CX0 6 f fd ["stock","book"] (Iu 531 (⟨245,25,245,57⟩:Pos) (("paid_by"++".<locals>.")++"<lambda>") K Z2):=by
 have sc:Ab ["stock","book"] ["stock","book"] (A6 Z0u):=by walk_at "sc"
 refine F.okC M sc (fun vs H Q E h=>?_) (fun c A outer s H vs Q E hc hr h=>?_)
 · obtain ⟨_,_,_,_,rfl,_⟩:=h;rfl
 obtain ⟨st,p,ts,bs,rfl,hst,nd,hB,hbl,hin,hL,q⟩:=h;refine ⟨_,(@A5 _ _ _ (@Af _ _ _ _ (J6z (E:=fun _ _ _=>False) (i:=0) Z1g hr rfl (A0 (pv 1) (A0 (J6y rfl rfl rfl hc (by decide) HB) A4)) rfl rfl rfl))),?_⟩;walk_at "st";have line:=Ae;walk_at "go";refine ⟨hL,fun f2 c2 ct H2 hf2 sb hL2 hc2 hff=>?_⟩
 have tk2:Tk 531 (⟨245,25,245,57⟩:Pos) (("paid_by"++".<locals>.")++"<lambda>") H H2:=⟨sb,hL2⟩
 obtain ⟨tb,htb⟩:=Yk hL;have hst2:=Aa.odd sb htb (.inl ⟨_,rfl⟩) hst;have hB2:=Kx.tk tk2 hL hB;walk_at "go";intro o u ho hu hcn;have s3:A7 H2 (upd H2 (s.heap.objs.size+1) (Ey (s.heap.objs.size+1) o)):=Cf hcn;refine ⟨⟨f2,PJ J8i K Z2 f2 (s.heap.objs.size+1) st ts,ts.map (·.1),cst ts,J8k nd T Za,fun s h=>h.same s⟩,rfl,bs,hB2.same s3,hbl,fun r hr _=>hin r hr,⟨⟨_,c2,ct,s3 _ _ hff,s3 _ _ hc2⟩,.cons ⟨o,u,A3,ho,hu⟩ .nil,hst2.same s3⟩,fun H3 sm3 _=>q _ (lent tk2 hcn sm3)⟩
theorem Z5c{f:Addr}{fd:FuncData}(F:Fun K "names" "Stock.names" Z1z f fd)(T:Txt K mg Z2 Z5 Z3 Z6 Z4 Z0 Z1):Ar P w K mg base CX0 1 f fd ["self"] (Sa K Z2):=by
 have sc:Ab ["self"] ["self"] (A6 Z1z):=by walk_at "sc"
 refine F.ok sc (fun vs H Q E h=>?_) (fun cdv A outer s H vs Q E hr h=>?_)
 · obtain ⟨_,_,rfl,_⟩:=h;rfl
 obtain ⟨p,ts,rfl,hs,q⟩:=h;refine ⟨_,(@A5 _ _ _ (@Af _ _ _ _ (Da (Oh rfl) rfl T.Z0y (by first | rfl | decide+kernel) (A0 (Ao (pv 0) rfl) A4)))),?_⟩;walk_at "st";obtain ⟨dx,d,kvs,h1,h2,h3,h4,h5⟩:=Aa.has hs;walk_at "go";refine ⟨Z2,dx,flds d,h1,T.Zb,T.Ze,_,Cg,?_⟩;walk_at "go";refine ⟨_,h2,fun l hl=>?_⟩;rw [h3];have:=q l hl;rw [FR]at this;exact this
theorem Z48{f:Addr}{fd:FuncData}(F:Fun K "number_of" "Stock.number_of" Z0w f fd)(T:Txt K mg Z2 Z5 Z3 Z6 Z4 Z0 Z1)(Zj:Be P w K mg base CX0 1 Z2 "thing_of" ["self","name"] (Dd K Z2)):Ar P w K mg base CX0 2 f fd ["self","name"] (Df 0 K Z2):=by
 have sc:Ab ["self","name"] ["self","name"] (A6 Z0w):=by walk_at "sc"
 refine F.ok sc (fun vs H Q E h=>?_) (fun cdv A outer s H vs Q E hr h=>?_)
 · obtain ⟨_,_,_,rfl,_⟩:=h;rfl
 obtain ⟨p,ts,z,rfl,hs,nd,hz,q⟩:=h;refine ⟨_,(@A5 _ _ _ (@Af _ _ _ _ (@Bq _ _ _ _ _ _ _ Ex (Aj Zj T.Zb hr (As Ac) (pv 0) (A0 (pv 1) A4)) A9 (fun _ _=>rfl)))),?_⟩;walk_at "st";obtain ⟨dx,d,kvs,h1,h2,h3,h4,h5⟩:=Aa.has hs;walk_at "go";refine ⟨dx,flds d,h1,by rfl,?_⟩;walk_at "go";refine ⟨ts,hs,nd,hz,fun i t ht e a ha=>?_⟩;refine Ik ha rfl ?_;exact q i t ht e
theorem Z5d{f:Addr}{fd:FuncData}(F:Fun K "check_sizes" "check_sizes" Z20 f fd)(T:Txt K mg Z2 Z5 Z3 Z6 Z4 Z0 Z1)(Zf:Def P w K mg base CX0 3 "check_places" ["places"] (Cr)):Ar P w K mg base CX0 4 f fd ["sizes"] (Gq K):=by
 have sc:Ab ["sizes","size"] ["sizes"] (A6 Z20):=by walk_at "sc"
 refine F.ok sc (fun vs H Q E h=>?_) (fun cdv A outer s H vs Q E hr h=>?_)
 · obtain ⟨_,_,rfl,_⟩:=h;rfl
 obtain ⟨a,zs,rfl,hS,h1,h6,hz,q⟩:=h
 refine ⟨_,(@A1 _ _ _ _ _ (B0 (PW.pt (L9 (Am Pm (Ag Ai rfl T.Zg FE (A0 (pv 0) A4)) A9 (nomark _)) (Id (Am Ig (Ag Ai rfl T.Zg FE (A0 (pv 0) A4)) (Dg rfl T.Z0i) (nomark _)))))
  (@A5 _ _ _ B3)
  Ah)
  (@A5 _ _ _ (C5 PassesOwn.never rfl (C4 (pv 0)) (B2 (i:=1) sc.nd rfl (Or.inl rfl))
   (@A5 _ _ _ (Al (Ad Zf hr rfl Ac (A0 (pv 1) A4))))))),?_⟩
 walk_at "st";have line:=Ae;walk_at "go";rw [Fa,if_neg (by omega)];refine ⟨_,.inl hS,?_⟩;rw [Fa,if_neg (by omega)];walk_at "go";refine ⟨⟨_,hS⟩,?_⟩;refine Gf (xs:=zs.map V.int) (fun i σ H'=>∃(v1:Option V),σ=[some (V.ref a),v1]∧H'=H) ⟨none,rfl,rfl⟩ (fun i σ H' _ h_=>by obtain ⟨v1,_,rfl⟩:=h_;exact hS) ?_ ?_
 · rintro i v σ H' hv ⟨v1,rfl,rfl⟩
   obtain ⟨n,hn,rfl⟩:=FH.mp (Fk hv);have h:=hz n hn;walk_at "go";exact h.2
 · rintro σ H' ⟨v1,rfl,rfl⟩
   exact q
theorem Z5e{f:Addr}{fd:FuncData}(F:Fun K "check_rooms" "check_rooms" Z21 f fd)(T:Txt K mg Z2 Z5 Z3 Z6 Z4 Z0 Z1)(Z8:Be P w K mg base CX0 2 Z2 "room_of" ["self","name"] (C3 K Z2)):Ar P w K mg base CX0 4 f fd ["stock","asks"] (Gr K Z2):=by
 have sc:Ab ["stock","asks","name"] ["stock","asks"] (A6 Z21):=by walk_at "sc"
 refine F.ok sc (fun vs H Q E h=>?_) (fun cdv A outer s H vs Q E hr h=>?_)
 · obtain ⟨_,_,_,_,rfl,_⟩:=h;rfl
 obtain ⟨p,a,ts,ys,rfl,hs,nd,hS,hy,hr1,hl,q⟩:=h;replace Z8:=Z8.wk93 fun _ _ _ _=>J68
 refine ⟨_,(@A5 _ _ _ (C5 PassesOwn.never rfl (C4 (pv 1)) (B2 (i:=2) sc.nd rfl (Or.inl rfl))
  (@A5 _ _ _ (B0 (Am N2 (Aj Z8 T.Zb hr (As Ac) (pv 0) (A0 (pv 2) A4)) A9 (nomark _))
   (@A5 _ _ _ B3)
   Ah)))),?_⟩
 walk_at "st";have line:=Ae;obtain ⟨dy,e,kvs,h1,h2,h3,h4,h5⟩:=Aa.has hs;walk_at "go";refine ⟨⟨_,hS⟩,?_⟩;refine Gf (xs:=ys.map V.str) (fun i σ H'=>∃(v1:Option V),σ=[some (V.ref p),some (V.ref a),v1]∧H'=H) ⟨none,rfl,rfl⟩ (fun i σ H' _ h_=>by obtain ⟨v1,_,rfl⟩:=h_;exact hS) ?_ ?_
 · rintro i v σ H' hv ⟨v1,rfl,rfl⟩
   obtain ⟨y,hyy,rfl⟩:=FH.mp (Fk hv);walk_at "go";refine ⟨dy,flds e,h1,by rfl,ts,hs,nd,hy y hyy,fun j t' ht' e'=>?_⟩;have hp2:pick 2 j t'=1:=hr1 t' (Fk ht');rw [hp2];clear e' ht';walk_at "go"
 · rintro σ H' ⟨v1,rfl,rfl⟩
   exact q
theorem Z5f{f:Addr}{fd:FuncData}(F:Fun K "write" "Tower.write" Z22 f fd)(T:Txt K mg Z2 Z5 Z3 Z6 Z4 Z0 Z1):Ar P w K mg base CX0 2 f fd ["self","name"] (Gv Z1):=by
 have sc:Ab ["self","name"] ["self","name"] (A6 Z22):=by walk_at "sc"
 refine F.ok sc (fun vs H Q E h=>?_) (fun cdv A outer s H vs Q E hr h=>?_)
 · obtain ⟨_,_,_,_,_,_,_,rfl,_⟩:=h;rfl
 obtain ⟨t,x,s,g,z,B,hd,rfl,hT,hL,hB,hz,q⟩:=h
 refine ⟨_,(@A1 _ _ _ _ _ (K7 (D4 hr) (Ao (pv 0) rfl) (pv 1) (Nm (D4 hr) (Ao (pv 0) rfl) (pv 1) (fun _ _=>rfl)) rfl)
  (@A5 _ _ _ (Al (Ct FK FP FO Bk (Ao (pv 0) rfl) (A0 (Ih (A0 Cm (A0 (pv 1) (A0 (Nm (D4 hr) (Ao (pv 0) rfl) (pv 1) (fun _ _=>rfl)) A4)))) A4))))),?_⟩
 walk_at "st";have line:=Ae;obtain ⟨dx,fs,ho,hf⟩:=hT.o;have hi:=hL.h z hz;have n3:=hL.n3;have n4:=hL.n4;walk_at "go";refine ⟨Z1,dx,fs,ho,T.Z7,T.Zo,_,hf.he,x.he,rfl,.int (g.h z),by rw [← hi];exact D0.k (k:=Sum.inr z) hT.he,Z1,dx,fs,ho,T.Z7,T.Z02,_,hf.so,x.so,rfl,_,Oa.k (k:=Sum.inr z) hT.so (by omega),?_⟩;have hT1:=hT.store (Cd s.ks (Sum.inr z) (.int (g.h z)));have o1:Off (own t x) H (upd H x.so (.dK (Cd s.ks (Sum.inr z) (.int (g.h z))))):=Off.put (by simp [own]);generalize upd H x.so (.dK (Cd s.ks (Sum.inr z) (.int (g.h z))))=H1 at hT1 o1 ⊢;obtain ⟨dx1,fs1,ho1,hf1⟩:=hT1.o;walk_at "go";refine ⟨Z1,dx1,fs1,ho1,T.Z7,T.Zu,_,hf1.en,.inl ⟨rfl,_,SqL.of hT1.en⟩,Z1,dx1,fs1,ho1,T.Z7,T.Zo,_,hf1.he,x.he,rfl,.int (g.h z),by rw [← hi];exact D0.k (k:=Sum.inr z) hT1.he,by omega,fun u hu=>?_⟩;have sm2:A7 H1 (upd H1 u (.tup (wrT z (g.h z)))):=A7.new hu;have hT2:=hT1.same sm2;have hu2:upd H1 u (.tup (wrT z (g.h z))) u=some (.tup (wrT z (g.h z))):=A3
 have nue:u≠x.en:=(A8 hT1.en hu).symm;have o2:Off (own t x) H (upd H1 u (.tup (wrT z (g.h z)))):=o1.trans (.of sm2);show Xb _ _ (upd H1 u (.tup (wrT z (g.h z)))) _;generalize upd H1 u (.tup (wrT z (g.h z)))=H2 at hT2 o2 hu2 ⊢;refine ⟨x.en,_,_,rfl,rfl,hT2.en,by show s.es.length < _;omega,?_⟩;walk_at "go";have oF:=o2.trans (Off.put (H:=H2) (b:=x.en) (o:= .lst (s.es++[.ref u])) (by simp [own]));exact q {s with ks:=Cd s.ks (Sum.inr z) (.int (g.h z)),es:=s.es++[.ref u]} _ oF (hT2.entry (s.es++[.ref u])) rfl rfl rfl rfl rfl (hL.wrote hz (J05 hT oF) (by rw [A2 nue];exact hu2) (by omega))
theorem Z4k{f:Addr}{fd:FuncData}(F:Fun K "fall_off" "Tower.fall_off" Z16 f fd)(T:Txt K mg Z2 Z5 Z3 Z6 Z4 Z0 Z1)(Z2d:Be P w K mg base CX0 2 Z1 "write" ["self","name"] (Gv Z1)):Ar P w K mg base CX0 3 f fd ["self","name"] (Kq Z1):=by
 have sc:Ab ["self","name"] ["self","name"] (A6 Z16):=by walk_at "sc"
 refine F.ok sc (fun vs H Q E h=>?_) (fun cdv A outer s H vs Q E hr h=>?_)
 · obtain ⟨_,_,_,_,_,_,_,rfl,_⟩:=h;rfl
 obtain ⟨t,x,s,g,z,B,hd,rfl,hT,hL,hB,hz,q⟩:=h
 refine ⟨_,(@A1 _ _ _ _ _ (B0 (Vk (Qu (D4 hr) (pv 1) (Ao (pv 0) rfl)))
  (@A1 _ _ _ _ _ (Al (Ob (Ao (pv 0) rfl) (pv 1) ⟨rfl,rfl,rfl,rfl⟩))
  (@A5 _ _ _ (Al (Aj Z2d T.Z7 hr (As Ac) (pv 0) (A0 (pv 1) A4)))))
  Ah)
  (@A5 _ _ _ (Al (Ob (Ao (pv 0) rfl) (pv 1) ⟨rfl,rfl,rfl,rfl⟩)))),?_⟩
 walk_at "st";have line:=Ae;obtain ⟨dx,fs,ho,hf⟩:=hT.o;walk_at "go";refine ⟨Z1,dx,fs,ho,T.Z7,T.Z07,_,hf.la,x.la,rfl,_,D0.k (k:=Sum.inr z) hT.la,?_⟩;rename_i rest hrest
 have key:∀(s1:TwS) (H1:Hp),Off (own t x) H H1→Bf Z1 H1 t x s1→s1.R=s.R→s1.zs=s.zs→s1.ff=s.ff→s1.pd=s.pd→TwG H1 s1 (Kz z g) (B+1) hd→(Kz z g).l z=false→rest [some (V.ref t),some (V.str z)] H1:=by
  intro s1 H1 o1 hT1 e1 e2 e3 e4 hL1 hz1;obtain ⟨dx1,fs1,ho1,hf1⟩:=hT1.o;have hi1:=hL1.h z hz;subst hrest;walk_at "go";refine ⟨Z1,dx1,fs1,ho1,T.Z7,T.Zo,_,hf1.he,x.he,rfl,.inl ⟨_,.inl hT1.he⟩,_,hT1.he,Sum.inr z,rfl,_,hi1,?_⟩;have oP:Off (own t x) H1 (upd H1 x.he (.dK (Bj s1.kh (Sum.inr z)))):=Off.put (by simp [own]);exact q _ _ (o1.trans oP) (hT1.held (Bj s1.kh (Sum.inr z))) e1 e2 e3 e4 ((hL1.popped hz1).off hT1 oP)
 clear hrest;rw [hL.l z]
 by_cases hin:g.l z=true
 · rw [if_pos hin]
   have hsome:(B9 s.kl (Sum.inr z)).isSome=true:=by rw [hL.l z];exact hin
   obtain ⟨vl,hvl⟩:=RG.mp hsome;walk_at "go";refine ⟨Z1,dx,fs,ho,T.Z7,T.Z07,_,hf.la,x.la,rfl,.inl ⟨_,.inl hT.la⟩,_,hT.la,Sum.inr z,rfl,_,hvl,?_⟩;have hT1:=hT.late (Bj s.kl (Sum.inr z));have o1:Off (own t x) H (upd H x.la (.dK (Bj s.kl (Sum.inr z)))):=Off.put (by simp [own]);have hL1:=(hL.lateOff (z:=z)).off hT o1;generalize upd H x.la (.dK (Bj s.kl (Sum.inr z)))=H1 at hT1 o1 hL1 ⊢;obtain ⟨dx1,fs1,ho1,hf1⟩:=hT1.o
   have eG:Kz z g=(g.late z false).write z:=by unfold Kz;rw [if_pos hin]
   walk_at "go";refine ⟨dx1,fs1,ho1,hf1.m _ (by simp),x,_,hT1,_,B,hd,hL1,hB,hz,fun s2 H2 o2 hT2 e1 e2 e3 e4 _ hL2=>?_⟩;exact key s2 H2 (o1.trans o2) hT2 e1 e2 e3 e4 (by rw [eG];exact hL2) (by rw [eG];exact E3)
 · rw [if_neg hin]
   have eG:Kz z g=g:=by unfold Kz;rw [if_neg hin]
   exact key s H (fun b o e _=>e) hT rfl rfl rfl rfl (by rw [eG];exact hL.iff (fun _=>Iff.rfl) (by omega) (by omega)) (by rw [eG];simpa using hin)
theorem Z5w{f:Addr}{fd:FuncData}(F:Fun K "come" "Tower.come" Z2s f fd)(T:Txt K mg Z2 Z5 Z3 Z6 Z4 Z0 Z1)(Z19:Be P w K mg base CX0 3 Z1 "fall_off" ["self","name"] (Kq Z1)):Ar P w K mg base CX0 4 f fd ["self","name"] (Kr Z1):=by
 have sc:Ab ["self","name"] ["self","name"] (A6 Z2s):=by walk_at "sc"
 refine F.ok sc (fun vs H Q E h=>?_) (fun cdv A outer s H vs Q E hr h=>?_)
 · obtain ⟨_,_,_,_,_,_,rfl,_⟩:=h;rfl
 obtain ⟨t,x,s,g,z,B,rfl,hT,hL,hB,nd,hRl,hRs,hS1,q⟩:=h
 refine ⟨_,(@A1 _ _ _ _ _ (B0 (Am Ps (pv 1) (Ao (pv 0) rfl) (by with_unfolding_all rfl))
  (@A5 _ _ _ (Al (Ct FK PySem.F.slot_list_remove PySem.F.type_list_remove J15 (Ao (pv 0) rfl) (A0 (pv 1) A4))))
  Ah)
  (@A1 _ _ _ _ _ (Al (Ct FK PySem.F.slot_list_insert PySem.F.type_list_insert J10 (Ao (pv 0) rfl) (A0 A9 (A0 (pv 1) A4))))
  (@A5 _ _ _ (B0 (Am Ig (Ag Ai rfl T.Zg FE (A0 (Ao (pv 0) rfl) A4)) (Ag (G5 rfl) rfl T.Z1v (by first | rfl | decide+kernel) (A0 (Ao (pv 0) rfl) A4)) (nomark _))
   (@A5 _ _ _ (Al (Aj Z19 T.Z7 hr (As Ac) (pv 0) (A0 (J2k FK PySem.F.slot_list_pop PySem.F.type_list_pop Jab (Ao (pv 0) rfl)) A4))))
   Ah)))),?_⟩
 walk_at "st";have line:=Ae;obtain ⟨dx,fs,ho,hf⟩:=hT.o;walk_at "go";refine ⟨Z1,dx,fs,ho,T.Z7,T.Zn,_,hf.ro,J9o (SqL.of hT.ro) ⟨_,rfl,?_⟩⟩;rename_i rest hrest
 have key:∀H1:Hp,Off (own t x) H H1→Bf Z1 H1 t x {s with R:=s.R.erase z}→rest [some (V.ref t),some (V.str z)] H1:=by
  intro H1 o1 hT1;obtain ⟨dx1,fs1,ho1,hf1⟩:=hT1.o;have hel:(s.R.erase z).length≤s.R.length:=List.length_erase_le;subst hrest;walk_at "go";refine ⟨Z1,dx1,fs1,ho1,T.Z7,T.Zn,_,hf1.ro,.inl ⟨rfl,_,SqL.of hT1.ro⟩,x.ro,rfl,_,hT1.ro,by rw [Fa];show (s.R.erase z).length < _;omega,?_⟩;have hT2:Bf Z1 (upd H1 x.ro (.lst (V.str z::List.map V.str {s with R:=s.R.erase z}.R))) t x {s with R:=z::s.R.erase z}:=hT1.row (z::s.R.erase z);have o2:Off (own t x) H (upd H1 x.ro (.lst (V.str z::List.map V.str {s with R:=s.R.erase z}.R))):=o1.trans (Off.put (by simp [own]));generalize upd H1 x.ro (.lst (V.str z::List.map V.str {s with R:=s.R.erase z}.R))=H2 at hT2 o2 ⊢;obtain ⟨dx2,fs2,ho2,hf2⟩:=hT2.o;walk_at "go";refine ⟨Z1,dx2,fs2,ho2,T.Z7,T.Zn,_,hf2.ro,x.ro,rfl,_,.inl (SqL.of hT2.ro),Z1,dx2,fs2,ho2,T.Z7,T.Zq,_,hf2.si,x.si,rfl,_,SqL.of hT2.si,?_⟩;rw [Fa];have hl1:(z::s.R.erase z).length=(s.R.erase z).length+1:=rfl
  have ndc:=Yy (z:=z) nd
  by_cases hov:s.zs.sum < ((z::s.R.erase z).length:Int)
  · rw [if_pos hov]
    obtain ⟨y,hy,edl,hyin,hiff⟩:=J1m (S:=s.zs.sum.toNat) ndc (by omega)
    have eG:P7 s.zs.sum s.R z g=Kz y g:=by unfold P7 J9r;rw [if_pos hov,hy];rfl
    refine ⟨dx2,fs2,ho2,hf2.m _ (by simp),Z1,dx2,fs2,ho2,T.Z7,T.Zn,_,hf2.ro,.inl ⟨rfl,_,SqL.of hT2.ro⟩,x.ro,rfl,_,hT2.ro,V.str y,by rw [Fa,Fg,hy];rfl,?_⟩
    have hT3:Bf Z1 (upd H2 x.ro (.lst ((z::s.R.erase z).map V.str).dropLast)) t x {s with R:=(z::s.R.erase z).dropLast}:=by
     rw [← List.map_dropLast];exact hT2.row ((z::s.R.erase z).dropLast)
    have o3:Off (own t x) H (upd H2 x.ro (.lst ((z::s.R.erase z).map V.str).dropLast)):=o2.trans (Off.put (by simp [own]));have hL3:=hL.off hT o3;walk_at "go";refine ⟨x,_,hT3,g,B,_,hL3.cast rfl rfl rfl rfl,hB,Lw.mp hyin,fun s' H' o hT' e1 e2 e3 e4 hL'=>?_⟩;have e1':s'.R=(z::s.R.erase z).dropLast:=e1;exact q s' H' (o3.trans o) hT' (by rw [e1',edl]) e2 e3 e4 (by rw [eG];exact hL'.iff (fun u=>by rw [e1',hiff u,Lw]) (Fh _) (by omega))
  · rw [if_neg hov]
    have eG:P7 s.zs.sum s.R z g=g:=by unfold P7;rw [if_neg hov]
    exact q _ H2 o2 hT2 (by rw [FQ (by omega)]) rfl rfl rfl (by rw [eG];exact ((hL.off hT o2).iff (fun u=>(Lw (R:=s.R) (z:=z) (u:=u)).symm) (by omega) (by omega)).cast rfl rfl rfl rfl)
 clear hrest
 by_cases hin:z∈s.R
 · rw [if_pos (by simpa using hin)]
   refine ⟨Z1,dx,fs,ho,T.Z7,T.Zn,_,hf.ro,.inl ⟨rfl,_,SqL.of hT.ro⟩,x.ro,rfl,s.R,hT.ro,hin,?_⟩;exact key _ (Off.put (by simp [own])) (hT.row (s.R.erase z))
 · rw [if_neg (by simpa using hin)]
   have:=key H (fun b o e _=>e) (by rw [List.erase_of_not_mem hin];exact hT);exact this
theorem Z51{f:Addr}{fd:FuncData}(F:Fun K "levels" "Tower.levels" Z1o f fd)(T:Txt K mg Z2 Z5 Z3 Z6 Z4 Z0 Z1):Ar P w K mg base CX0 1 f fd ["self"] (Dq Z1):=by
 have sc:Ab ["self","told","start","size"] ["self"] (A6 Z1o):=by walk_at "sc"
 refine F.ok sc (fun vs H Q E h=>?_) (fun cdv A outer s H vs Q E hr h=>?_)
 · obtain ⟨_,_,_,rfl,_⟩:=h;rfl
 obtain ⟨t,x,s,rfl,hT,hzl,hz,q⟩:=h
 refine ⟨_,(@A1 _ _ _ _ _ (Ak (i:=1) sc.nd rfl (Or.inl rfl) (@Bo _ _ _ _ A4))
  (@A1 _ _ _ _ _ (Ak (i:=2) sc.nd rfl (Or.inl rfl) A9)
  (@A1 _ _ _ _ _ (C5 PassesOwn.never rfl (C4 (Ao (pv 0) rfl)) (B2 (i:=3) sc.nd rfl (Or.inl rfl))
   (@A1 _ _ _ _ _ (Al (Ct FK FP FO Bk (pv 1) (A0 (E6 Lf (Ao (pv 0) rfl) (Dy (pv 2)) (Dy (Aq Bx (pv 2) (pv 3)))) A4)))
   (@A5 _ _ _ (Ja2 (i:=2) sc.nd rfl (Or.inl rfl) (pv 3) Vn))))
  (@A5 _ _ _ (@Af _ _ _ _ (pv 1)))))),?_⟩
 walk_at "st";have line:=Ae;obtain ⟨dx,fs,ho,hf⟩:=hT.o;walk_at "go";intro p hp;walk_at "go";have sm0:A7 H (upd H p (.lst [])):=A7.new hp;have hp0:upd H p (.lst []) p=some (.lst []):=A3;generalize upd H p (.lst [])=H0 at sm0 hp0 ⊢;refine ⟨Z1,dx,fs,sm0 _ _ ho,T.Z7,T.Zq,_,hf.si,x.si,rfl,⟨_,SqL.of (sm0 _ _ hT.si)⟩,?_⟩;rename_i rest hrest
 refine Gf (xs:=s.zs.map V.int) (fun i σ H'=>∃(as:List Addr) (v3:Option V),σ=[some (V.ref t),some (V.ref p),some (V.int (pre s.zs i)),v3]∧A7 H H'∧H' p=some (.lst (as.map V.ref))∧Sn H' as s.zs s.R i∧(∀a∈as,H a=none)∧as.Nodup∧p∉as)
  ⟨[],none,rfl,sm0,hp0,⟨rfl,fun i a e=>by simp at e⟩,(fun a ha=>by cases ha),HQ,(fun h=>by cases h)⟩ (fun i σ H' _ h_=>by obtain ⟨as,v3,_,sm,_⟩:=h_;exact SqL.of (sm _ _ hT.si)) ?_ ?_
 · rintro i v σ H' hv ⟨as,v3,rfl,sm,hp',hA,hn,nd,hpn⟩
   have hi:i < s.zs.length:=by
    have:=(Fe.mp hv).1;rw [Fa]at this;exact this
   have hgi:s.zs[i]?=some (s.zs.getD i 0):=Do hi;rw [Fg,hgi]at hv;cases hv;have hz1:=hz _ (Fk hgi);have hpn0:=Ez (fun z h=>(hz z h).1) i;rw [Lx hi];have hal:as.length≤i:=Rp hA.1;walk_at "go";refine ⟨.inl ⟨rfl,_,SqL.of hp'⟩,Z1,dx,fs,sm _ _ ho,T.Z7,T.Zn,_,hf.ro,x.ro,rfl,_,SqL.of (sm _ _ hT.ro),fun l hl=>?_⟩;rw [J7y hz hi];have npl:p≠l:=A8 hp' hl;have sm2:A7 H' (upd H' l (.lst ((lvl s.zs s.R i).map V.str))):=A7.new hl
   have hlH:H l=none:=by
    cases e:H l with
    | none=>rfl
    | some o=>rw [sm _ _ e]at hl;cases hl
   refine ⟨p,_,_,rfl,rfl,sm2 _ _ hp',by rw [Fa];omega,?_⟩
   have hla:l∉as:=fun h=>by
    obtain ⟨j,hj⟩:=FF.mp h;rw [hA.2 j l hj]at hl;cases hl
   have sm3:A7 H (upd (upd H' l (.lst ((lvl s.zs s.R i).map V.str))) p (.lst (as.map V.ref++[V.ref l]))):=fun b o e=>by rw [A2 (A8 e hp)];exact (sm.trans sm2) _ _ e
   have hp3:upd (upd H' l (.lst ((lvl s.zs s.R i).map V.str))) p (.lst (as.map V.ref++[V.ref l])) p=some (.lst ((as++[l]).map V.ref)):=by rw [A3,Fw];rfl
   have hA3:Sn (upd (upd H' l (.lst ((lvl s.zs s.R i).map V.str))) p (.lst (as.map V.ref++[V.ref l]))) (as++[l]) s.zs s.R (i+1):=by
    refine ⟨by rw [Fu,hA.1];rfl,fun j a e=>?_⟩
    by_cases hj:j < as.length
    · rw [FJ hj]at e
      have h1:=hA.2 j a e;rw [A2 (fun z=>hpn (by rw [← z];exact Fk e))];exact sm2 _ _ h1
    · rw [FL (by omega)]at e
      have hj0:j=i:=by
       have h1:=(Fe.mp e).1;have h2:=hA.1;simp at h1;omega
      rw [show j - as.length=0 by have:=hA.1;omega]at e;cases e;rw [A2 npl.symm,A3,hj0]
   generalize upd (upd H' l (.lst ((lvl s.zs s.R i).map V.str))) p (.lst (as.map V.ref++[V.ref l]))=H3 at sm3 hp3 hA3 ⊢;walk_at "go";refine ⟨as++[l],hp3,hA3,fun a ha=>?_,?_,fun h=>?_⟩
   · rcases FI.mp ha with ha | ha
     · exact hn a ha
     · rw [Fj.mp ha];exact hlH
   · exact Hq.mpr ⟨nd,Hj.mpr ⟨HN,HQ⟩,fun a ha b hb e=>hla (by rw [← Fj.mp hb,← e];exact ha)⟩
   · rcases FI.mp h with h | h
     · exact hpn h
     · exact npl (Fj.mp h)
 · rintro σ H' ⟨as,v3,rfl,sm,hp',hA,hn,nd,hpn⟩
   rw [Fa]at hA;walk_at "go";exact q p as _ hp sm hp' hA hn nd hpn
theorem Z4l{f:Addr}{fd:FuncData}(F:Fun K "shelf_of" "Tower.shelf_of" Z17 f fd)(T:Txt K mg Z2 Z5 Z3 Z6 Z4 Z0 Z1)(Zv:Be P w K mg base CX0 2 Z2 "number_of" ["self","name"] (Df 0 K Z2))(Z06:Be P w K mg base CX0 1 Z1 "levels" ["self"] (Dq Z1)):Ar P w K mg base CX0 4 f fd ["self","name"] (Gx K Z1 Z2):=by
 have sc:Ab ["self","name","number","names"] ["self","name"] (A6 Z17):=by walk_at "sc"
 refine F.ok sc (fun vs H Q E h=>?_) (fun cdv A outer s H vs Q E hr h=>?_)
 · obtain ⟨_,_,_,_,_,rfl,_⟩:=h;rfl
 obtain ⟨t,x,s,z,ts,rfl,hT,hs,nd,hz,hzl,hzz,hRs,q⟩:=h
 refine ⟨_,(@A1 _ _ _ _ _ (Al (Aj Zv T.Zb hr (As Ac) (Ao (pv 0) rfl) (A0 (pv 1) A4)))
  (@A1 _ _ _ _ _ (C5 PassesOwn.never rfl (Nq rfl T.Z04 (A0 (Bu Z06 T.Z7 hr (As Ac) (pv 0)) A4)) (Gc rfl (Ba (B2 (i:=2) sc.nd rfl (Or.inl rfl)) (Ba (B2 (i:=3) sc.nd rfl (Or.inl rfl)) Dx)))
   (@A5 _ _ _ (B0 (Am Ps (pv 1) (pv 3) (by with_unfolding_all rfl))
    (@A5 _ _ _ (@Af _ _ _ _ (pv 2)))
    Ah)))
  (@A5 _ _ _ (@Af _ _ _ _ (Ag Ai rfl T.Zg FE (A0 (Ao (pv 0) rfl) A4)))))),?_⟩
 walk_at "st";have line:=Ae;obtain ⟨dx,fs,ho,hf⟩:=hT.o;obtain ⟨dy,e,kvs,h1,h2,h3,h4,h5⟩:=Aa.has hs.at;walk_at "go";refine ⟨Z1,dx,fs,ho,T.Z7,T.Zx,_,hf.st,x.st,rfl,dy,flds e,h1,by rfl,x.st,rfl,ts,hs.at,nd,hz,fun i t' ht' e'=>?_⟩;clear e' ht';walk_at "go";refine ⟨dx,fs,ho,hf.m _ (by simp),x,s,hT,hzl,hzz,fun p as H1 hp sm1 hp1 hA han nda hpn=>⟨⟨_,SqL.of hp1⟩,?_⟩⟩;rename_i rest hrest;refine Nr (xs:=as.map V.ref) (fun i σ H'=>∃(v2 v3:Option V),σ=[some (V.ref t),some (V.str z),v2,v3]∧A7 H1 H'∧∀j,j < i→z∉lvl s.zs s.R j) ⟨none,none,rfl,A7.refl _,fun j hj=>absurd hj (J4 j)⟩ (fun i σ H' _ h_=>by obtain ⟨v2,v3,_,sm,_⟩:=h_;exact SqL.of (sm _ _ hp1)) ?_ ?_
 · rintro i v σ H' u hv ⟨v2,v3,rfl,sm,hno⟩ hu
   have hi:i < as.length:=by
    have:=(Fe.mp hv).1;rw [Fa]at this;exact this
   have hai:as[i]?=some as[i]:=Fb hi;rw [Fg,hai]at hv;cases hv;have hla:=(sm.trans (A7.new (o:= .tup [.int i,.ref as[i]]) hu)) _ _ (hA.2 i _ hai);have smu:=sm.trans (A7.new (o:= .tup [.int i,.ref as[i]]) hu);walk_at "go";refine ⟨_,SqT.of A3,rfl,_,_,rfl,_,_,rfl,rfl,?_⟩;generalize upd H' u (.tup [.int i,.ref as[i]])=H2 at hla smu ⊢
   have hzl2:i < s.zs.length:=by have:=hA.1;omega
   walk_at "go";refine J9o (SqL.of hla) ⟨_,rfl,?_⟩
   by_cases hin:z∈lvl s.zs s.R i
   · rw [if_pos (by simpa using hin)]
     walk_at "go";exact q i H2 (sm1.trans smu) ⟨by omega,⟨fun _=>J7v hin,fun _=>hzl2⟩,hno,fun _=>hin⟩
   · rw [if_neg (by simpa using hin)]
     walk_at "go";intro j hj
     by_cases e:j=i
     · rw [e];exact hin
     · exact hno j (by omega)
 · rintro σ H' ⟨v2,v3,rfl,sm,hno⟩
   rw [Fa,hA.1]at hno;have smA:=sm1.trans sm;walk_at "go";refine ⟨Z1,dx,fs,smA _ _ ho,T.Z7,T.Zq,_,hf.si,x.si,rfl,_,.inl (SqL.of (smA _ _ hT.si)),?_⟩;rw [Fa];refine q s.zs.length H' smA ⟨Fh _,⟨fun h=>absurd h (Hc _),fun h=>?_⟩,hno,fun h=>absurd h (Hc _)⟩;obtain ⟨j,hj,hjz⟩:=J7w (fun z h=>(hzz z h).1) hRs h;exact absurd hjz (hno j hj)
theorem Z52{f:Addr}{fd:FuncData}(F:Fun K "stored" "Tower.stored" Z1p f fd)(T:Txt K mg Z2 Z5 Z3 Z6 Z4 Z0 Z1)(Zv:Be P w K mg base CX0 2 Z2 "number_of" ["self","name"] (Df 0 K Z2)):Ar P w K mg base CX0 4 f fd ["self","name"] (Et K Z1 Z2):=by
 have sc:Ab ["self","name"] ["self","name"] (A6 Z1p):=by walk_at "sc"
 refine F.ok sc (fun vs H Q E h=>?_) (fun cdv A outer s H vs Q E hr h=>?_)
 · obtain ⟨_,_,_,_,_,_,_,_,rfl,_⟩:=h;rfl
 obtain ⟨t,x,s,g,z,ts,B,hd,rfl,hT,hs,nd,hz,hL,q⟩:=h
 refine ⟨_,(@A1 _ _ _ _ _ (Al (Aj Zv T.Zb hr (As Ac) (Ao (pv 0) rfl) (A0 (pv 1) A4)))
  (@A5 _ _ _ (@Af _ _ _ _ (Tg (D4 hr) (Ao (pv 0) rfl) (pv 1) A9 ⟨rfl,rfl,rfl,rfl⟩)))),?_⟩
 walk_at "st";have line:=Ae;obtain ⟨dx,fs,ho,hf⟩:=hT.o;obtain ⟨dy,e,kvs,h1,h2,h3,h4,h5⟩:=Aa.has hs.at;walk_at "go";refine ⟨Z1,dx,fs,ho,T.Z7,T.Zx,_,hf.st,x.st,rfl,dy,flds e,h1,by rfl,x.st,rfl,ts,hs.at,nd,hz,fun i t' ht' e'=>?_⟩;clear e' ht';walk_at "go";refine ⟨Z1,dx,fs,ho,T.Z7,T.Z02,_,hf.so,x.so,rfl,.inl ⟨_,.inl hT.so⟩,_,D0.k (k:=Sum.inr z) hT.so,?_⟩;have hst:=hL.st z
 cases hv:B9 s.ks (Sum.inr z) with
 | none=>rw [hv]at hst;rw [← hst]at q;exact q
 | some v=>rw [hv]at hst;rw [← hst]at q;exact q
theorem Z5g{f:Addr}{fd:FuncData}(F:Fun K "fetch" "Tower.fetch" Z23 f fd)(T:Txt K mg Z2 Z5 Z3 Z6 Z4 Z0 Z1)(Za:Be P w K mg base CX0 2 Z2 "cost_of" ["self","name"] (Cz K Z2))(Z1s:Be P w K mg base CX0 4 Z1 "stored" ["self","name"] (Et K Z1 Z2)):Ar P w K mg base CX0 5 f fd ["self","word","name"] (Gw K Z1 Z2):=by
 have sc:Ab ["self","word","name"] ["self","word","name"] (A6 Z23):=by walk_at "sc"
 refine F.ok sc (fun vs H Q E h=>?_) (fun cdv A outer s H vs Q E hr h=>?_)
 · obtain ⟨_,_,_,_,_,_,_,_,_,rfl,_⟩:=h;rfl
 obtain ⟨t,x,s,g,w2,z,ts,B,p,rfl,hT,hs,nd,hz,hL,hB,q⟩:=h;replace Za:=Za.wk93 fun _ _ _ _=>J8g
 refine ⟨_,(@A1 _ _ _ _ _ (Pn (pv 0) (Aj Za T.Zb hr (As Ac) (Ao (pv 0) rfl) (A0 (pv 2) A4)) J2c)
  (@A1 _ _ _ _ _ (Al (Ct FK FP FO Bk (Ao (pv 0) rfl) (A0 (Ih (A0 (pv 1) (A0 (pv 2) A4))) A4)))
  (@A5 _ _ _ (K7 (D4 hr) (Ao (pv 0) rfl) (pv 2) (Aj Z1s T.Z7 hr (As Ac) (pv 0) (A0 (pv 2) A4)) rfl)))),?_⟩
 walk_at "st";have line:=Ae;obtain ⟨dx,fs,ho,hf⟩:=hT.o;obtain ⟨dy,e,kvs,h1,h2,h3,h4,h5⟩:=Aa.has hs.at;walk_at "go";refine ⟨Z1,dx,fs,ho,T.Z7,T.Z08,_,hf.pd,Z1,dx,fs,ho,T.Z7,T.Zx,_,hf.st,x.st,rfl,dy,flds e,h1,by rfl,x.st,rfl,ts,hs.at,nd,hz,fun i t' ht' e'=>⟨_,rfl,dx,fs,ho,by have:=hf.n;omega,?_⟩⟩;have ec:pick 1 i t'=Dt ts z:=(J1q nd ht' e').symm;rw [ec];clear e' ec;have hT1:=hT.paid ho hf (s.pd+Dt ts z);have o1:Off (own t x) H (upd H t (.ins Z1 dx (Av (Str.ofString "paid") (.int (s.pd+Dt ts z)) fs))):=Off.put (by simp [own]);generalize upd H t (.ins Z1 dx (Av (Str.ofString "paid") (.int (s.pd+Dt ts z)) fs))=H1 at hT1 o1 ⊢;clear ht';obtain ⟨dx1,fs1,ho1,hf1⟩:=hT1.o;have n4:=hL.n4;walk_at "go";refine ⟨Z1,dx1,fs1,ho1,T.Z7,T.Zu,_,hf1.en,.inl ⟨rfl,_,SqL.of hT1.en⟩,by omega,fun u hu=>?_⟩;have sm2:A7 H1 (upd H1 u (.tup [.str w2,.str z])):=A7.new hu;have hT2:=hT1.same sm2;have hu2:upd H1 u (.tup [.str w2,.str z]) u=some (.tup [.str w2,.str z]):=A3
 have nue:u≠x.en:=(A8 hT1.en hu).symm;have o2:Off (own t x) H (upd H1 u (.tup [.str w2,.str z])):=o1.trans (.of sm2);generalize upd H1 u (.tup [.str w2,.str z])=H2 at hT2 o2 hu2 ⊢;refine ⟨x.en,_,_,rfl,rfl,hT2.en,by show s.es.length < _;omega,?_⟩;have hT3:=hT2.entry (s.es++[.ref u]);have o3:Off (own t x) H (upd H2 x.en (.lst (s.es++[.ref u]))):=o2.trans (Off.put (by simp [own]));have hs3:=hs.off o3
 have hu3:upd H2 x.en (.lst (s.es++[.ref u])) u=some (.tup [.str w2,.str z]):=by rw [A2 nue];exact hu2
 have hst:=hL.st;walk_at "go";show _;generalize upd H2 x.en (.lst (s.es++[.ref u]))=H3 at hT3 o3 hs3 hu3 ⊢;obtain ⟨dx3,fs3,ho3,hf3⟩:=hT3.o
 have hL3:=(hL.fetched (J05 hT o3) hu3 (by omega) (pd:=s.pd+Dt ts z))
 have oF:Off (own t x) H3 (upd H3 x.he (.dK (Cd s.kh (Sum.inr z) (.int (g.st z))))):=Off.put (by simp [own]);have n1:=hL.n1;have hL2:=hL.noted (J05 hT o3) hu3 rfl (by omega) (pd:=s.pd+Dt ts z);have fin:=q {s with pd:=s.pd+Dt ts z,es:=s.es++[.ref u],kh:=Cd s.kh (Sum.inr z) (.int (g.st z))} _ (o3.trans oF) (hT3.held (Cd s.kh (Sum.inr z) (.int (g.st z)))) rfl rfl rfl rfl (hL3.off hT3 oF);exact ⟨dx3,fs3,ho3,hf3.m _ (by simp),x,_,hT3,_,ts,hs3,nd,hz,_,_,hL2,Z1,dx3,fs3,ho3,T.Z7,T.Zo,_,hf3.he,x.he,rfl,_,Oa.k (k:=Sum.inr z) hT3.he (by show s.kh.length < _;omega),fin⟩
theorem Z5x{f:Addr}{fd:FuncData}(F:Fun K "read" "Tower.read" Z2t f fd)(T:Txt K mg Z2 Z5 Z3 Z6 Z4 Z0 Z1)(Z1a:Be P w K mg base CX0 4 Z1 "shelf_of" ["self","name"] (Gx K Z1 Z2))(Z2e:Be P w K mg base CX0 5 Z1 "fetch" ["self","word","name"] (Gw K Z1 Z2))(Z2z:Be P w K mg base CX0 4 Z1 "come" ["self","name"] (Kr Z1)):Ar P w K mg base CX0 6 f fd ["self","name"] (Kv K Z1 Z2):=by
 have sc:Ab ["self","name","place"] ["self","name"] (A6 Z2t):=by walk_at "sc"
 refine F.ok sc (fun vs H Q E h=>?_) (fun cdv A outer s H vs Q E hr h=>?_)
 · obtain ⟨_,_,_,_,_,_,_,rfl,_⟩:=h;rfl
 obtain ⟨t,x,s,g,z,ts,B,rfl,hG,hz,hB,q⟩:=h
 refine ⟨_,(@A1 _ _ _ _ _ (Ak (i:=2) sc.nd rfl (Or.inl rfl) (Aj Z1a T.Z7 hr (As Ac) (pv 0) (A0 (pv 1) A4)))
  (@A1 _ _ _ _ _ (X0 (Ao (pv 0) rfl) (pv 2) Uh A9 Vn Tb)
  (@A1 _ _ _ _ _ (B0 (Am La (pv 2) (Ag Ai rfl T.Zg FE (A0 (Ao (pv 0) rfl) A4)) (nomark _))
   (@A5 _ _ _ (Al (Aj Z2e T.Z7 hr (As Ac) (pv 0) (A0 Cm (A0 (pv 1) A4)))))
   Ah)
  (@A1 _ _ _ _ _ (Al (Aj Z2z T.Z7 hr (As Ac) (pv 0) (A0 (pv 1) A4)))
  (@A5 _ _ _ (@Af _ _ _ _ (Nm (D4 hr) (Ao (pv 0) rfl) (pv 1) (fun _ _=>rfl)))))))),?_⟩
 walk_at "st";have line:=Ae;have hW:=hG.to;obtain ⟨dx,fs,ho,hf⟩:=hW.tw.o;walk_at "go";refine ⟨dx,fs,ho,hf.m _ (by simp),x,s,hW.tw,ts,hW.sk,hW.tn,hz,hW.zl,hW.zz,hW.rs,fun k H1 sm1 hon=>?_⟩;obtain ⟨hk,hkR,_⟩:=id hon;have hT1:=hW.tw.same sm1;have o1:Off (own t x) H H1:= .of sm1;obtain ⟨dx1,fs1,ho1,hf1⟩:=hT1.o;have hfl:=hW.ff;have hgk:s.ff[k]?=some (s.ff.getD k 0):=Do (by omega);walk_at "go";refine ⟨Z1,dx1,fs1,ho1,T.Z7,T.Z03,_,hf1.fi,?_⟩;refine ⟨x.fi,rfl,s.ff.map V.int,k,rfl,SqL.of hT1.fi,V.int (s.ff.getD k 0),by rw [Fg,hgk];rfl,_,rfl,x.fi,rfl,_,hT1.fi,k,by rw [Fa];exact Jb8 (by omega),?_⟩;rw [← List.map_set];have hT2:=hT1.find (s.ff.set k (s.ff.getD k 0+1));have o2:Off (own t x) H (upd H1 x.fi (.lst ((s.ff.set k (s.ff.getD k 0+1)).map V.int))):=o1.trans (Off.put (by simp [own]))
 have hff2:(s.ff.set k (s.ff.getD k 0+1)).length=s.zs.length+1:=by rw [Ho];exact hfl
 generalize upd H1 x.fi (.lst ((s.ff.set k (s.ff.getD k 0+1)).map V.int))=H2 at hT2 o2 ⊢
 obtain ⟨ff2,hfe⟩:∃y,s.ff.set k (s.ff.getD k 0+1)=y∧True:=⟨_,rfl,trivial⟩
 rw [hfe.1]at hT2 hff2;have hs2:=hW.sk.off o2;have hL2:=(hG.g.off hW.tw o2).cast (s':={s with ff:=ff2}) rfl rfl rfl rfl;obtain ⟨dx2,fs2,ho2,hf2⟩:=hT2.o;clear hT1 o1 ho1 hf1 hgk hfl;walk_at "go";refine ⟨Z1,dx2,fs2,ho2,T.Z7,T.Zq,_,hf2.si,x.si,rfl,_,.inl (SqL.of hT2.si),?_⟩;rw [Fa];rename_i rest hrest
 have key:∀(s3:TwS) (H3:Hp),Off (own t x) H H3→Bf Z1 H3 t x s3→s3.R=s.R→s3.zs=s.zs→s3.ff=ff2→s3.pd=s.pd+(if z∈s.R then 0 else Dt ts z)→TwG H3 s3 (if z∈s.R then g else Mw (Str.ofString "fetch") z g) (B+1) (fun y=>y∈s.R∨y=z)→rest [some (V.ref t),some (V.str z),some (V.int k)] H3:=by
  intro s3 H3 o3 hT3 eR eZ eF eP hL3;obtain ⟨dx3,fs3,ho3,hf3⟩:=hT3.o;have hrl:=hW.rl;have hrs:=hW.rs;have hs1:=hW.s1;subst hrest;walk_at "go";refine ⟨dx3,fs3,ho3,hf3.m _ (by simp),x,s3,hT3,_,B+1,by rw [eR];exact hL3,by omega,by rw [eR];exact hW.nd,by rw [eR];omega,by rw [eR,eZ];exact hrs,by rw [eZ];exact hs1,fun s4 H4 o4 hT4 eR4 eZ4 eF4 eP4 hL4=>?_⟩;rw [eR,eZ]at hL4;obtain ⟨dx4,fs4,ho4,hf4⟩:=hT4.o
  have eR5:s4.R=Qe z s:=by rw [eR4,eR,eZ];rfl
  have hzin:z∈s4.R:=by
   rw [eR5];unfold Qe
   obtain ⟨n,hn⟩:∃n,s.zs.sum.toNat=n+1:=⟨s.zs.sum.toNat - 1,by omega⟩
   rw [hn,FW];exact FA
  have hi:=hL4.h z hzin;walk_at "go";refine ⟨Z1,dx4,fs4,ho4,T.Z7,T.Zo,_,hf4.he,x.he,rfl,.int ((P8 s.zs.sum s.R z g).h z),by rw [← show B9 s4.kh (Sum.inr z)=some (.int ((P8 s.zs.sum s.R z g).h z)) from hi];exact D0.k (k:=Sum.inr z) hT4.he,?_⟩;have o5:=o3.trans o4;exact q k s4 H4 o5 ⟨J5e hW hz o5 hT4 eR5 (by rw [eZ4,eZ]) hL4.toL (by rw [eF4];exact hff2),hL4⟩ eR5 (by rw [eZ4,eZ]) (by rw [eP4,eP]) hon (by rw [eF4,hfe.1])
 clear hrest;have hl:=hW.l
 by_cases hk2:k=s.zs.length
 · rw [if_pos (by show (k:Int)=(s.zs.length:Int);omega)]
   have hzR:z∉s.R:=fun h=>by have:=hkR.mpr h;omega
   refine ⟨dx2,fs2,ho2,hf2.m _ (by simp),x,_,hT2,g,ts,hs2,hW.tn,hz,B,_,hL2,by omega,fun s3 H3 o3 hT3 e1 e2 e3 e4 hL3=>key s3 H3 (o2.trans o3) hT3 e1 e2 e3 (by rw [e4,if_neg hzR]) (by rw [if_neg hzR];exact hL3)⟩
 · rw [if_neg (by show ¬(k:Int)=(s.zs.length:Int);omega)]
   have hzR:z∈s.R:=hkR.mp (by omega);have hl2:=hL2.iff (q:=fun y=>y∈s.R∨y=z) (B':=B+1) (fun u=>⟨.inl,fun h=>h.elim id fun e=>by rw [e];exact hzR⟩) (by omega) (by omega);exact key _ H2 o2 hT2 rfl rfl rfl (by rw [if_pos hzR,Int.add_zero]) (by rw [if_pos hzR];exact hl2)
theorem Z5y{f:Addr}{fd:FuncData}(F:Fun K "__init__" "Tower.__init__" Z2u f fd)(T:Txt K mg Z2 Z5 Z3 Z6 Z4 Z0 Z1)(Z2f:Def P w K mg base CX0 4 "check_sizes" ["sizes"] (Gq K))(Z2g:Def P w K mg base CX0 4 "check_rooms" ["stock","asks"] (Gr K Z2))(Z2h:Be P w K mg base CX0 1 Z2 "names" ["self"] (Sa K Z2)):Ar P w K mg base CX0 5 f fd ["self","stock","sizes"] (Kw K Z1 Z2):=by
 have sc:Ab ["self","stock","sizes"] ["self","stock","sizes"] (A6 Z2u):=by walk_at "sc"
 refine F.ok sc (fun vs H Q E h=>?_) (fun cdv A outer s H vs Q E hr h=>?_)
 · obtain ⟨_,_,_,_,_,_,rfl,_⟩:=h;rfl
 obtain ⟨t,dx,p,a,ts,zs,rfl,ht,hs,nd,hr1,htl,hS,hz1,hz6,hzz,q⟩:=h
 refine ⟨_,(@A1 _ _ _ _ _ (Al (Ad Z2f hr rfl Ac (A0 (pv 2) A4)))
  (@A1 _ _ _ _ _ (Al (Ad Z2g hr rfl Ac (A0 (pv 1) (A0 (Bu Z2h T.Zb hr (As Ac) (pv 1)) A4))))
  (@A1 _ _ _ _ _ (C8 (pv 0) (pv 1) rfl)
  (@A1 _ _ _ _ _ (C8 (pv 0) (Da Ge rfl T.Z0y (by first | rfl | decide+kernel) (A0 (pv 2) A4)) rfl)
  (@A1 _ _ _ _ _ (C8 (pv 0) (@Bo _ _ _ _ A4) rfl)
  (@A1 _ _ _ _ _ (C8 (pv 0) E7 rfl)
  (@A1 _ _ _ _ _ (C8 (pv 0) E7 rfl)
  (@A1 _ _ _ _ _ (C8 (pv 0) E7 rfl)
  (@A1 _ _ _ _ _ (C8 (pv 0) (@Bo _ _ _ _ A4) rfl)
  (@A1 _ _ _ _ _ (C8 (pv 0) (Aq J2m (@Bo _ _ _ _ (A0 A9 A4)) (Aq Bx (Ag Ai rfl T.Zg FE (A0 (pv 2) A4)) A9)) rfl)
  (@A5 _ _ _ (C8 (pv 0) A9 rfl)))))))))))),?_⟩
 walk_at "st";have line:=Ae;obtain ⟨dy,e,kvs,h1,h2,h3,h4,h5⟩:=Aa.has hs;walk_at "go";refine ⟨zs,hS,hz1,hz6,hzz,?_⟩;walk_at "go";refine ⟨dy,flds e,h1,by rfl,ts,hs,fun l hl=>?_⟩;have sm1:A7 H (upd H l (.lst ((ts.map (·.1)).map V.str))):=A7.new hl;refine ⟨ts,hs.same sm1,nd,ts.map (·.1),SqL.of A3,fun y hy=>hy,hr1,by rw [Fa];omega,?_⟩;have ht1:=sm1 _ _ ht;have hs1:=By.of (hs.same sm1);have hS1:=sm1.seq hS
 have nw:∀b,upd H l (.lst ((ts.map (·.1)).map V.str)) b=none→H b=none:=fun b hb=>by
  cases q:H b with
  | none=>rfl
  | some o=>rw [sm1 _ _ q]at hb;cases hb
 generalize upd H l (.lst ((ts.map (·.1)).map V.str))=H1 at sm1 ht1 hs1 hS1 nw ⊢;walk_at "go";refine ⟨Z1,dx,[],ht1,T.Z7,T.Zx,by decide,?_⟩;have sbA:SameBut t H1 (upd H1 t (.ins Z1 dx (Av (Str.ofString "stock") (V.ref p) []))):=U8;have htA:upd H1 t (.ins Z1 dx (Av (Str.ofString "stock") (V.ref p) [])) t=some (.ins Z1 dx (Av (Str.ofString "stock") (V.ref p) [])):=A3;have hSA:=SqL.but sbA ht1 hS1;walk_at "go";show _;generalize upd H1 t (.ins Z1 dx (Av (Str.ofString "stock") (V.ref p) []))=HA at sbA htA hSA ⊢;intro si hsi;refine ⟨Z1,dx,_,by rw [A2 (A8 htA hsi)];exact htA,T.Z7,T.Zq,FM (An (Fh _)) (by decide),?_⟩;obtain ⟨sb1,ht2,hsi1,k1,nsi,tsi,d1⟩:=Ei (o:= .lst (zs.map V.int)) (f:=Str.ofString "sizes") sbA htA hsi;walk_at "go";show _;generalize upd (upd HA si (.lst (zs.map V.int))) t (.ins Z1 dx (Av (Str.ofString "sizes") (V.ref si) (Av (Str.ofString "stock") (V.ref p) [])))=HB0 at sb1 ht2 k1 hsi1 ⊢
 intro ro hron;refine ⟨Z1,dx,_,by rw [A2 (A8 ht2 hron)];exact ht2,T.Z7,T.Zn,FM (An (An (Fh _))) (by decide),?_⟩;obtain ⟨sb2,ht3,hro2,k2,nro,tro,d2⟩:=Ei (o:= .lst []) (f:=Str.ofString "row") sb1 ht2 hron;have hsi2:=k2 _ _ hsi1 tsi;have ne_ro_si:ro≠si:=(d2 _ _ hsi1).symm;walk_at "go";show _;generalize upd (upd HB0 ro (.lst [])) t (.ins Z1 dx (Av (Str.ofString "row") (V.ref ro) (Av (Str.ofString "sizes") (V.ref si) (Av (Str.ofString "stock") (V.ref p) []))))=HB1 at sb2 ht3 k2 hsi2 hro2 ⊢;intro he hhen;refine ⟨Z1,dx,_,by rw [A2 (A8 ht3 hhen)];exact ht3,T.Z7,T.Zo,FM (An (An (An (Fh _)))) (by decide),?_⟩;obtain ⟨sb3,ht4,hhe3,k3,nhe,the,d3⟩:=Ei (o:= .dK []) (f:=Str.ofString "held") sb2 ht3 hhen;have hsi3:=k3 _ _ hsi2 tsi;have ne_he_si:he≠si:=(d3 _ _ hsi2).symm;have hro3:=k3 _ _ hro2 tro;have ne_he_ro:he≠ro:=(d3 _ _ hro2).symm;walk_at "go";show _
 generalize upd (upd HB1 he (.dK [])) t (.ins Z1 dx (Av (Str.ofString "held") (V.ref he) (Av (Str.ofString "row") (V.ref ro) (Av (Str.ofString "sizes") (V.ref si) (Av (Str.ofString "stock") (V.ref p) [])))))=HB2 at sb3 ht4 k3 hsi3 hro3 hhe3 ⊢;intro la hlan;refine ⟨Z1,dx,_,by rw [A2 (A8 ht4 hlan)];exact ht4,T.Z7,T.Z07,FM (An (An (An (An (Fh _))))) (by decide),?_⟩;obtain ⟨sb4,ht5,hla4,k4,nla,tla,d4⟩:=Ei (o:= .dK []) (f:=Str.ofString "late") sb3 ht4 hlan;have hsi4:=k4 _ _ hsi3 tsi;have ne_la_si:la≠si:=(d4 _ _ hsi3).symm;have hro4:=k4 _ _ hro3 tro;have ne_la_ro:la≠ro:=(d4 _ _ hro3).symm;have hhe4:=k4 _ _ hhe3 the;have ne_la_he:la≠he:=(d4 _ _ hhe3).symm;walk_at "go";show _;generalize upd (upd HB2 la (.dK [])) t (.ins Z1 dx (Av (Str.ofString "late") (V.ref la) (Av (Str.ofString "held") (V.ref he) (Av (Str.ofString "row") (V.ref ro) (Av (Str.ofString "sizes") (V.ref si) (Av (Str.ofString "stock") (V.ref p) []))))))=HB3 at sb4 ht5 k4 hsi4 hro4 hhe4 hla4 ⊢
 intro so hson;refine ⟨Z1,dx,_,by rw [A2 (A8 ht5 hson)];exact ht5,T.Z7,T.Z02,FM (An (An (An (An (An (Fh _)))))) (by decide),?_⟩;obtain ⟨sb5,ht6,hso5,k5,nso,tso,d5⟩:=Ei (o:= .dK []) (f:=Str.ofString "store") sb4 ht5 hson;have hsi5:=k5 _ _ hsi4 tsi;have ne_so_si:so≠si:=(d5 _ _ hsi4).symm;have hro5:=k5 _ _ hro4 tro;have ne_so_ro:so≠ro:=(d5 _ _ hro4).symm;have hhe5:=k5 _ _ hhe4 the;have ne_so_he:so≠he:=(d5 _ _ hhe4).symm;have hla5:=k5 _ _ hla4 tla;have ne_so_la:so≠la:=(d5 _ _ hla4).symm;walk_at "go";show _;generalize upd (upd HB3 so (.dK [])) t (.ins Z1 dx (Av (Str.ofString "store") (V.ref so) (Av (Str.ofString "late") (V.ref la) (Av (Str.ofString "held") (V.ref he) (Av (Str.ofString "row") (V.ref ro) (Av (Str.ofString "sizes") (V.ref si) (Av (Str.ofString "stock") (V.ref p) [])))))))=HB4 at sb5 ht6 k5 hsi5 hro5 hhe5 hla5 hso5 ⊢;intro en henn;refine ⟨Z1,dx,_,by rw [A2 (A8 ht6 henn)];exact ht6,T.Z7,T.Zu,FM (An (An (An (An (An (An (Fh _))))))) (by decide),?_⟩
 obtain ⟨sb6,ht7,hen6,k6,nen,ten,d6⟩:=Ei (o:= .lst []) (f:=Str.ofString "entries") sb5 ht6 henn;have hsi6:=k6 _ _ hsi5 tsi;have ne_en_si:en≠si:=(d6 _ _ hsi5).symm;have hro6:=k6 _ _ hro5 tro;have ne_en_ro:en≠ro:=(d6 _ _ hro5).symm;have hhe6:=k6 _ _ hhe5 the;have ne_en_he:en≠he:=(d6 _ _ hhe5).symm;have hla6:=k6 _ _ hla5 tla;have ne_en_la:en≠la:=(d6 _ _ hla5).symm;have hso6:=k6 _ _ hso5 tso;have ne_en_so:en≠so:=(d6 _ _ hso5).symm;walk_at "go";show _;generalize upd (upd HB4 en (.lst [])) t (.ins Z1 dx (Av (Str.ofString "entries") (V.ref en) (Av (Str.ofString "store") (V.ref so) (Av (Str.ofString "late") (V.ref la) (Av (Str.ofString "held") (V.ref he) (Av (Str.ofString "row") (V.ref ro) (Av (Str.ofString "sizes") (V.ref si) (Av (Str.ofString "stock") (V.ref p) []))))))))=HB5 at sb6 ht7 k6 hsi6 hro6 hhe6 hla6 hso6 hen6 ⊢;intro l0 hl0;have hS5:=SqL.but sb6 ht1 hS1;have smz:A7 HB5 (upd HB5 l0 (.lst [V.int 0])):=A7.new hl0
 have sbz:SameBut t H1 (upd HB5 l0 (.lst [V.int 0])):=sb6.trans (.of smz);have hlz:upd HB5 l0 (.lst [V.int 0]) l0=some (.lst [V.int 0]):=A3;have htz:=smz _ _ ht7;have hsiz:=smz _ _ hsi6;have hroz:=smz _ _ hro6;have hhez:=smz _ _ hhe6;have hlaz:=smz _ _ hla6;have hsoz:=smz _ _ hso6;have henz:=smz _ _ hen6;have hSz:=smz.seq hS5;generalize upd HB5 l0 (.lst [V.int 0])=HZ at sbz hlz htz hsiz hroz hhez hlaz hsoz henz hSz ⊢;refine ⟨_,.inl hSz,?_⟩;rw [Fa];refine ⟨l0,_,_,rfl,rfl,hlz,by omega,by omega,by simp;omega,fun fi hfi=>?_⟩;rw [Jbd];refine ⟨Z1,dx,_,by rw [A2 (A8 htz hfi)];exact htz,T.Z7,T.Z03,FM (An (An (An (An (An (An (An (Fh _)))))))) (by decide),?_⟩;obtain ⟨sb7,ht8,hfi7,k7,nfi,tfi,d7⟩:=Ei (o:= .lst ((List.replicate (zs.length+1) (0:Int)).map V.int)) (f:=Str.ofString "finds") sbz htz hfi;have hsi7:=k7 _ _ hsiz tsi;have hro7:=k7 _ _ hroz tro;have hhe7:=k7 _ _ hhez the
 have hla7:=k7 _ _ hlaz tla;have hso7:=k7 _ _ hsoz tso;have hen7:=k7 _ _ henz ten;have ne_fi_si:=(d7 _ _ hsiz).symm;have ne_fi_ro:=(d7 _ _ hroz).symm;have ne_fi_en:=(d7 _ _ henz).symm;walk_at "go";refine ⟨Z1,dx,_,ht8,T.Z7,T.Z08,FM (An (An (An (An (An (An (An (An (Fh _))))))))) (by decide),?_⟩
 have kz:∀b u,HZ b=some u→upd HZ fi (.lst ((List.replicate (zs.length+1) (0:Int)).map V.int)) b=some u:=fun b u e=>by rw [A2 (A8 e hfi)];exact e
 refine q ⟨p,si,ro,he,la,so,en,fi⟩ ⟨zs,[],[],[],[],[],List.replicate (zs.length+1) 0,0⟩ _ (fun b o e nb=>?_) ⟨?_,?_⟩ rfl rfl rfl rfl (fun b hb=>?_)
 · rw [A2 nb];exact kz _ _ (sbz _ _ (sm1 _ _ e) nb)
 · have hfin:∀u:HO,SameBut t H1 (upd (upd HZ fi (.lst ((List.replicate (zs.length+1) (0:Int)).map V.int))) t u):=fun u b o e nb=>by rw [A2 nb];exact kz _ _ (sbz _ _ e nb)
   refine ⟨⟨⟨dx,f6 ⟨p,si,ro,he,la,so,en,fi⟩,A3,J5f _⟩,by rw [A2 tsi];exact kz _ _ hsiz,by rw [A2 tro];exact kz _ _ hroz,by rw [A2 the];exact kz _ _ hhez,by rw [A2 tla];exact kz _ _ hlaz,by rw [A2 tso];exact kz _ _ hsoz,by rw [A2 ten];exact kz _ _ henz,by rw [A2 tfi];exact A3,ne_la_he.symm,ne_so_he.symm,ne_so_la.symm,ne_ro_si,ne_en_ro.symm,ne_fi_ro.symm,ne_en_si.symm,ne_fi_si.symm,ne_fi_en.symm⟩,?_,⟨(fun y hy=>by cases hy),(fun y hy=>by cases hy),(fun y v hv=>by cases hv),FB _,FB _,FB _,FB _,by decide⟩,HQ,?_,hz1,hz6,hzz,(fun y hy=>by cases hy),nd,htl,by simp⟩
   · refine ((hs1.ins ht1).mono fun b hb=>?_).off fun b o e n=>hfin _ b o e fun z=>n (by rw [z];simp [own])
     have hb':b=t∨b=ro∨b=he∨b=la∨b=so∨b=en∨b=fi:=by simpa [own] using hb
     rcases hb' with h | h | h | h | h | h | h <;> rw [h]
     · exact .inl FA
     · exact .inr nro
     · exact .inr nhe
     · exact .inr nla
     · exact .inr nso
     · exact .inr nen
     · exact .inr nfi
   · have h4:=Ez (zs:=zs) (fun z hz=>(hzz z hz).1) zs.length
     unfold pre at h4;rw [Hv]at h4;exact h4
 · exact ⟨(fun y hy=>by cases hy),(fun y=>rfl),(fun y hy=>by cases hy),(fun y=>rfl),⟨[],rfl,rfl,fun i u e h=>by simp at h⟩,FB _,FB _,FB _,FB _,by decide,(fun e he=>by cases he)⟩
 · have hb':b=si∨b=t∨b=ro∨b=he∨b=la∨b=so∨b=en∨b=fi:=by simpa [own] using hb
   rcases hb' with h | h | h | h | h | h | h | h <;> rw [h]
   · exact .inr (nw _ nsi)
   · exact .inl rfl
   · exact .inr (nw _ nro)
   · exact .inr (nw _ nhe)
   · exact .inr (nw _ nla)
   · exact .inr (nw _ nso)
   · exact .inr (nw _ nen)
   · exact .inr (nw _ nfi)
theorem Z5h{f:Addr}{fd:FuncData}(F:Fun K "found" "Tower.found" Z24 f fd)(T:Txt K mg Z2 Z5 Z3 Z6 Z4 Z0 Z1):Ar P w K mg base CX0 1 f fd ["self"] (Ek Z1):=by
 have sc:Ab ["self"] ["self"] (A6 Z24):=by walk_at "sc"
 refine F.ok sc (fun vs H Q E h=>?_) (fun cdv A outer s H vs Q E hr h=>?_)
 · obtain ⟨_,_,_,rfl,_⟩:=h;rfl
 obtain ⟨t,x,s,rfl,hT,hl,q⟩:=h;refine ⟨_,(@A5 _ _ _ (@Af _ _ _ _ (Da Ge rfl T.Z0y (by first | rfl | decide+kernel) (A0 (Ao (pv 0) rfl) A4)))),?_⟩;walk_at "st";have line:=Ae;obtain ⟨dx,fs,ho,hf⟩:=hT.o;walk_at "go";exact ⟨Z1,dx,fs,ho,T.Z7,T.Z03,_,hf.fi,x.fi,rfl,_,.inl (SqL.of hT.fi),fun l hl=>q l _ hl (A7.new hl) A3⟩
theorem Z5i{f:Addr}{fd:FuncData}(F:Fun K "spent" "Tower.spent" Z25 f fd)(T:Txt K mg Z2 Z5 Z3 Z6 Z4 Z0 Z1):Ar P w K mg base CX0 1 f fd ["self"] (Gy Z1):=by
 have sc:Ab ["self"] ["self"] (A6 Z25):=by walk_at "sc"
 refine F.ok sc (fun vs H Q E h=>?_) (fun cdv A outer s H vs Q E hr h=>?_)
 · obtain ⟨_,_,_,rfl,_⟩:=h;rfl
 obtain ⟨t,x,s,rfl,hT,q⟩:=h;refine ⟨_,(@A5 _ _ _ (@Af _ _ _ _ (Ao (pv 0) rfl))),?_⟩;walk_at "st";obtain ⟨dx,fs,ho,hf⟩:=hT.o;walk_at "go";exact ⟨Z1,dx,fs,ho,T.Z7,T.Z08,_,hf.pd,q⟩
theorem Z5z{f:Addr}{fd:FuncData}(F:Fun K "check_asks" "check_asks" Z2v f fd)(T:Txt K mg Z2 Z5 Z3 Z6 Z4 Z0 Z1)(Zf:Def P w K mg base CX0 3 "check_places" ["places"] (Cr))(Z3d:Be P w K mg base CX0 1 Z2 "has" ["self","name"] (S9 K Z2))(Z8:Be P w K mg base CX0 2 Z2 "room_of" ["self","name"] (C3 K Z2)):Ar P w K mg base CX0 4 f fd ["stock","asks","places"] (N41.De K Z2):=by
 have sc:Ab ["stock","asks","places","number","name"] ["stock","asks","places"] (A6 Z2v):=by walk_at "sc"
 refine F.ok sc (fun vs H Q E h=>?_) (fun cdv A outer s H vs Q E hr h=>?_)
 · obtain ⟨_,_,_,_,_,rfl,_⟩:=h;rfl
 obtain ⟨p,a,pl,ts,ys,rfl,hs,nd,hS,hl,hin,hw,h1,h2,q⟩:=h
 refine ⟨_,(@A1 _ _ _ _ _ (Al (Ad Zf hr rfl Ac (A0 (pv 2) A4)))
  (@A1 _ _ _ _ _ (B0 (Am Ig (Ag Ai rfl T.Zg FE (A0 (pv 1) A4)) (Dg rfl T.Z0o) (nomark _))
   (@A5 _ _ _ B3)
   Ah)
  (@A1 _ _ _ _ _ (C5 PassesOwn.never rfl (Nq rfl T.Z04 (A0 (pv 1) A4)) (Gc rfl (Ba (B2 (i:=3) sc.nd rfl (Or.inl rfl)) (Ba (B2 (i:=4) sc.nd rfl (Or.inl rfl)) Dx)))
   (@A1 _ _ _ _ _ (B0 (Br (Bm (Aj Z3d T.Zb hr (As Ac) (pv 0) (A0 (pv 4) A4))))
    (@A5 _ _ _ B3)
    Ah)
   (@A5 _ _ _ (B0 (Am Ig (Aj Z8 T.Zb hr (As Ac) (pv 0) (A0 (pv 4) A4)) (pv 2) (nomark _))
    (@A5 _ _ _ B3)
    Ah))))
  (@A5 _ _ _ (@Af _ _ _ _ D9))))),?_⟩
 walk_at "st";have line:=Ae;walk_at "go";rw [Fa,if_neg (by omega)];walk_at "go";refine ⟨⟨_,hS⟩,?_⟩;rename_i rest hrest;refine Nr (xs:=ys.map V.str) (fun i σ H'=>∃v3 v4,σ=[some (V.ref p),some (V.ref a),some (V.int pl),v3,v4]∧A7 H H') ⟨none,none,rfl,A7.refl _⟩ (fun i σ H' _ ⟨v3,v4,_,sm⟩=>sm.seq hS) ?_ ?_
 · rintro i x σ H' t hx ⟨v3,v4,rfl,sm⟩ ht
   rw [Fg]at hx
   cases hy:ys[i]? with
   | none=>rw [hy]at hx;cases hx
   | some y=>
    rw [hy]at hx;cases hx;have hyin:=hin y (Fk hy);walk_at "go";refine ⟨_,SqT.of A3,rfl,_,_,rfl,_,_,rfl,rfl,?_⟩;have sm2:=sm.trans (A7.new (o:= .tup [.int i,.str y]) ht);generalize upd H' t (.tup [.int i,.str y])=H2 at sm2 ⊢;have hs2:=Aa.same sm2 hs;obtain ⟨dx,d,kvs,g1,g2,_⟩:=Aa.has hs2;walk_at "go";refine ⟨dx,flds d,g1,by rfl,ts,hs2,?_⟩;rw [if_neg (fun h=>h hyin)];walk_at "go";refine ⟨dx,flds d,g1,by rfl,ts,hs2,nd,hyin,?_⟩;rw [if_neg (by have:=hw y (Fk hy);omega)];exact sm2
 · rintro σ H' ⟨v3,v4,rfl,sm⟩
   walk_at "go";exact q _ sm
theorem Z60{f:Addr}{fd:FuncData}(F:Fun K "__init__" "Shelf.__init__" Z2w f fd)(T:Txt K mg Z2 Z5 Z3 Z6 Z4 Z0 Z1)(Zf:Def P w K mg base CX0 3 "check_places" ["places"] (Cr)):Ar P w K mg base CX0 4 f fd ["self","stock","places"] (Iw Z3):=by
 have sc:Ab ["self","stock","places"] ["self","stock","places"] (A6 Z2w):=by walk_at "sc"
 refine F.ok sc (fun vs H Q E h=>?_) (fun cdv A outer s H vs Q E hr h=>?_)
 · obtain ⟨_,_,_,_,rfl,_⟩:=h;rfl
 obtain ⟨s,dx,p,n,rfl,hs,h1,h2,q⟩:=h
 refine ⟨_,(@A1 _ _ _ _ _ (Al (Ad Zf hr rfl Ac (A0 (pv 2) A4)))
  (@A1 _ _ _ _ _ (C8 (pv 0) (pv 1) rfl)
  (@A1 _ _ _ _ _ (C8 (pv 0) (pv 2) rfl)
  (@A5 _ _ _ (C8 (pv 0) E7 rfl))))),?_⟩
 walk_at "st";walk_at "go";refine ⟨Z3,dx,[],hs,T.Z9,T.Zw,by decide,?_⟩;walk_at "go";refine ⟨Z3,dx,_,A3,T.Z9,T.Z05,by simp [Av],?_⟩;walk_at "go";intro d hd
 have nd:d≠s:=fun e=>by rw [e,A3]at hd;cases hd
 have hd0:H d=none:=by rw [A2 nd]at hd;exact hd
 refine ⟨Z3,dx,_,by rw [A2 nd.symm,A3],T.Z9,T.Zl,by have:=Dj "places" (V.int n) (Av "stock" (V.ref p) []);have:=Dj "stock" (V.ref p) [];simp at *;omega,?_⟩;refine q _ d (fun b o e nb=>?_) hd0 ⟨⟨dx,A3⟩,by rw [A2 nd,A3];rfl,HQ⟩;rw [A2 nb,A2 (A8 e hd0),A2 nb];exact e
theorem Z5j{f:Addr}{fd:FuncData}(F:Fun K "lying" "Shelf.lying" Z26 f fd)(T:Txt K mg Z2 Z5 Z3 Z6 Z4 Z0 Z1):Ar P w K mg base CX0 1 f fd ["self"] (Iy Z3):=by
 have sc:Ab ["self"] ["self"] (A6 Z26):=by walk_at "sc"
 refine F.ok sc (fun vs H Q E h=>?_) (fun cdv A outer s H vs Q E hr h=>?_)
 · obtain ⟨_,_,_,_,_,rfl,_⟩:=h;rfl
 obtain ⟨s,p,d,n,ls,rfl,hs,q⟩:=h;refine ⟨_,(@A5 _ _ _ (@Af _ _ _ _ (Da (Oh rfl) rfl T.Z0y (by first | rfl | decide+kernel) (A0 (Ao (pv 0) rfl) A4)))),?_⟩;walk_at "st";obtain ⟨⟨dx,ho⟩,hd,_⟩:=hs;walk_at "go";refine ⟨Z3,dx,_,ho,T.Z9,T.Zl,_,G9,?_⟩;walk_at "go";refine ⟨_,hd,fun l hl=>?_⟩;rw [J1i];exact q l hl
theorem Z5k{f:Addr}{fd:FuncData}(F:Fun K "holds" "Shelf.holds" Z27 f fd)(T:Txt K mg Z2 Z5 Z3 Z6 Z4 Z0 Z1):Ar P w K mg base CX0 1 f fd ["self","name"] (Dn Z3):=by
 have sc:Ab ["self","name"] ["self","name"] (A6 Z27):=by walk_at "sc"
 refine F.ok sc (fun vs H Q E h=>?_) (fun cdv A outer s H vs Q E hr h=>?_)
 · obtain ⟨_,_,_,_,_,_,rfl,_⟩:=h;rfl
 obtain ⟨s,p,d,n,ls,z,rfl,hs,q⟩:=h;refine ⟨_,(@A5 _ _ _ (@Af _ _ _ _ (J1w (Qu (D4 hr) (pv 1) (Ao (pv 0) rfl))))),?_⟩;walk_at "st";obtain ⟨⟨dx,ho⟩,hd,_⟩:=hs;walk_at "go";refine ⟨Z3,dx,_,ho,T.Z9,T.Zl,_,G9,d,rfl,_,D0.k (k:=Sum.inr z) hd,?_⟩;rw [Si];exact q
theorem Z49{f:Addr}{fd:FuncData}(F:Fun K "room_left" "Shelf.room_left" Z0x f fd)(T:Txt K mg Z2 Z5 Z3 Z6 Z4 Z0 Z1):Ar P w K mg base CX0 1 f fd ["self"] (Kj Z3):=by
 have sc:Ab ["self"] ["self"] (A6 Z0x):=by walk_at "sc"
 refine F.ok sc (fun vs H Q E h=>?_) (fun cdv A outer s H vs Q E hr h=>?_)
 · obtain ⟨_,_,_,_,_,rfl,_⟩:=h;rfl
 obtain ⟨s,p,d,n,ls,rfl,hs,q⟩:=h;refine ⟨_,(@A5 _ _ _ (@Af _ _ _ _ (Aq L1 (Ao (pv 0) rfl) (Ag (J14 rfl) rfl T.Z1v (by first | rfl | decide+kernel) (A0 (J2k RO PySem.F.slot_dict_values PySem.F.type_dict_values J13 (Ao (pv 0) rfl)) A4))))),?_⟩;walk_at "st";obtain ⟨⟨dx,ho⟩,hd,_⟩:=hs;walk_at "go";refine ⟨Z3,dx,_,ho,T.Z9,T.Z05,_,Wi,Z3,dx,_,ho,T.Z9,T.Zl,_,G9,?_⟩;refine ⟨.inr (.inr (.inl ⟨rfl,.inl ⟨_,hd⟩⟩)),d,rfl,_,hd,fun v hv=>⟨d,A3,_,(A7.new hv) _ _ hd,_,J51,n,rfl,q _ (A7.new hv)⟩⟩
theorem Z67{f:Addr}{fd:FuncData}(F:Fun K "put" "Shelf.put" Z36 f fd)(T:Txt K mg Z2 Z5 Z3 Z6 Z4 Z0 Z1)(Z8:Be P w K mg base CX0 2 Z2 "room_of" ["self","name"] (C3 K Z2))(Zc:Be P w K mg base CX0 1 Z3 "holds" ["self","name"] (Dn Z3))(Zi:Be P w K mg base CX0 1 Z3 "room_left" ["self"] (Kj Z3)):Ar P w K mg base CX0 4 f fd ["self","name"] (Lv K Z2 Z3):=by
 have sc:Ab ["self","name","room"] ["self","name"] (A6 Z36):=by walk_at "sc"
 refine F.ok sc (fun vs H Q E h=>?_) (fun cdv A outer s H vs Q E hr h=>?_)
 · obtain ⟨_,_,_,_,_,_,_,_,rfl,_⟩:=h;rfl
 obtain ⟨s,p,d,n,ls,ts,z,r,rfl,hs,hx,nd,hl,hz,hr',hin,hle,q⟩:=h
 refine ⟨_,(@A1 _ _ _ _ _ (Ak (i:=2) sc.nd rfl (Or.inl rfl) (Aj Z8 T.Zb hr (As Ac) (Ao (pv 0) rfl) (A0 (pv 1) A4)))
  (@A1 _ _ _ _ _ (B0 (Bm (Aj Zc T.Z9 hr (As Ac) (pv 0) (A0 (pv 1) A4)))
   (@A5 _ _ _ B3)
   Ah)
  (@A1 _ _ _ _ _ (B0 (Am Ig (pv 2) (Bu Zi T.Z9 hr (As Ac) (pv 0)) (nomark _))
   (@A5 _ _ _ B3)
   Ah)
  (@A5 _ _ _ (K7 (D4 hr) (Ao (pv 0) rfl) (pv 1) (pv 2) rfl))))),?_⟩
 walk_at "st";have line:=Ae;have hsA:=hs;obtain ⟨⟨dx,ho⟩,hd,hnd⟩:=hs;obtain ⟨dy,e,kvs,h1,h2,h3,h4,h5⟩:=Aa.has hx.at;walk_at "go";refine ⟨Z3,dx,_,ho,T.Z9,T.Zw,_,Mu,?_⟩;walk_at "go";refine ⟨dy,flds e,h1,by rfl,ts,hx.at,nd,hz,?_⟩;rw [Jcv nd hz hr'];walk_at "go";refine ⟨dx,_,ho,by rfl,?_⟩;walk_at "go";refine ⟨_,_,_,_,hsA,?_⟩;rw [if_neg (by simpa using hin)];walk_at "go";refine ⟨dx,_,ho,by rfl,_,_,_,_,hsA,fun H1 sm1=>?_⟩;rw [if_neg (by omega)];walk_at "go";refine ⟨Z3,dx,_,sm1 _ _ ho,T.Z9,T.Zl,_,G9,?_⟩
 have hll:(lyK ls).length < sizeLine:=by unfold lyK;rw [Fa];omega
 refine ⟨d,rfl,_,Oa.k (k:=Sum.inr z) (sm1 _ _ hd) hll,?_⟩;refine q _ (fun b o e n=>?_) (hsA.put sm1 hin);rw [A2 n];exact sm1 _ _ e
theorem Z61{f:Addr}{fd:FuncData}(F:Fun K "cast" "Shelf.cast" Z2x f fd)(T:Txt K mg Z2 Z5 Z3 Z6 Z4 Z0 Z1)(Zc:Be P w K mg base CX0 1 Z3 "holds" ["self","name"] (Dn Z3)):Ar P w K mg base CX0 2 f fd ["self","name"] (Iz Z3):=by
 have sc:Ab ["self","name"] ["self","name"] (A6 Z2x):=by walk_at "sc"
 refine F.ok sc (fun vs H Q E h=>?_) (fun cdv A outer s H vs Q E hr h=>?_)
 · obtain ⟨_,_,_,_,_,_,rfl,_⟩:=h;rfl
 obtain ⟨s,p,d,n,ls,z,rfl,hs,hin,q⟩:=h
 refine ⟨_,(@A1 _ _ _ _ _ (B0 (Br (Bm (Aj Zc T.Z9 hr (As Ac) (pv 0) (A0 (pv 1) A4))))
  (@A5 _ _ _ B3)
  Ah)
  (@A5 _ _ _ (Al (Ob (Ao (pv 0) rfl) (pv 1) ⟨rfl,rfl,rfl,rfl⟩)))),?_⟩
 walk_at "st";have line:=Ae;have hsA:=hs;obtain ⟨⟨dx,ho⟩,hd,hnd⟩:=hs;walk_at "go";refine ⟨dx,_,ho,by rfl,_,_,_,_,hsA,?_⟩;rw [if_neg (fun h=>h hin)];walk_at "go";have hv:=Si (ls:=ls) (z:=z);rw [Fx hin]at hv;obtain ⟨v,hv⟩:=RG.mp hv;refine ⟨Z3,dx,_,ho,T.Z9,T.Zl,_,G9,d,rfl,.inl ⟨_,.inl hd⟩,_,hd,Sum.inr z,rfl,v,hv,?_⟩;exact q _ (fun b o e n=>by rw [A2 n];exact e) hsA.cast
theorem Z68{f:Addr}{fd:FuncData}(F:Fun K "casts_off" "casts_off" Z37 f fd)(T:Txt K mg Z2 Z5 Z3 Z6 Z4 Z0 Z1)(Zc:Be P w K mg base CX0 1 Z3 "holds" ["self","name"] (Dn Z3))(Z0j:Be P w K mg base CX0 2 Z3 "cast" ["self","name"] (Iz Z3)):Ar P w K mg base CX0 3 f fd ["shelf","name","gone"] (Gn K Z3):=by
 have sc:Ab ["shelf","name","gone","other"] ["shelf","name","gone"] (A6 Z37):=by walk_at "sc"
 refine F.ok sc (fun vs H Q E h=>?_) (fun cdv A outer s H vs Q E hr h=>?_)
 · obtain ⟨_,_,_,_,_,_,_,_,rfl,_⟩:=h;rfl
 obtain ⟨q',p,d,g,n,ls,z,gone,rfl,hs,hg,hok,q⟩:=h
 refine ⟨_,(@A1 _ _ _ _ _ (C5 PassesOwn.never rfl (C4 (pv 2)) (B2 (i:=3) sc.nd rfl (Or.inl rfl))
  (@A1 _ _ _ _ _ (B0 (PW.pt (L9 (Am La (pv 3) (pv 1) (nomark _)) (Id (Br (Bm (Aj Zc T.Z9 hr (As Ac) (pv 0) (A0 (pv 3) A4)))))))
   (@A5 _ _ _ (@Af _ _ _ _ D9))
   Ah)
  (@A5 _ _ _ (Al (Aj Z0j T.Z9 hr (As Ac) (pv 0) (A0 (pv 3) A4))))))
  (@A5 _ _ _ (@Af _ _ _ _ D9))),?_⟩
 walk_at "st";have line:=Ae;have hd0:=hs.d;walk_at "go";refine ⟨⟨_,hg⟩,?_⟩;refine Gf (xs:=gone.map V.str) (fun i σ H'=>∃(v3:Option V),σ=[some (V.ref q'),some (V.str z),some (V.ref g),v3]∧SameBut d H H'∧B4 Z3 H' q' p d n (Ic ls (gone.take i))) ⟨none,rfl,.of (A7.refl H),hs⟩ (fun i σ H' _ h_=>by obtain ⟨v3,_,sb,_⟩:=h_;exact SqL.butD sb hd0 hg) ?_ ?_
 · rintro i v σ H' hv ⟨v3,rfl,sb,hs'⟩
   rw [Fg]at hv
   cases ho:gone[i]? with
   | none=>rw [ho]at hv;cases hv
   | some o=>
    rw [ho]at hv;cases hv;obtain ⟨h1,h2⟩:=J58 hok ho;rw [J1l ho];obtain ⟨⟨dx,ho'⟩,hd',hnd'⟩:=id hs';walk_at "go";rw [if_neg h1];refine ⟨dx,_,ho',by rfl,_,_,_,_,hs',?_⟩;rw [if_neg (fun h=>h h2)];rename_i rest hrest;subst hrest;walk_at "go";refine ⟨dx,_,ho',by rfl,?_⟩;refine ⟨_,_,_,_,hs',h2,fun H2 sb2 hs2=>⟨sb.trans sb2,hs2⟩⟩
 · rintro σ H' ⟨v3,rfl,sb,hs'⟩
   rw [Fa,Hv]at hs';walk_at "go";exact q H' sb hs'
theorem Z6z{f:Addr}{fd:FuncData}(F:Fun K "serves" "serves" Z4n f fd)(T:Txt K mg Z2 Z5 Z3 Z6 Z4 Z0 Z1)(Zc:Be P w K mg base CX0 1 Z3 "holds" ["self","name"] (Dn Z3))(Z3e:Def P w K mg base CX0 3 "casts_off" ["shelf","name","gone"] (Gn K Z3))(Z8:Be P w K mg base CX0 2 Z2 "room_of" ["self","name"] (C3 K Z2))(Zi:Be P w K mg base CX0 1 Z3 "room_left" ["self"] (Kj Z3))(Z0q:Be P w K mg base CX0 4 Z3 "put" ["self","name"] (Lv K Z2 Z3)):Ar P w K mg base CX0 5 f fd ["shelf","name","row"] (Er K Z2 Z3):=by
 have sc:Ab ["shelf","name","row","there"] ["shelf","name","row"] (A6 Z4n):=by walk_at "sc"
 refine F.ok sc (fun vs H Q E h=>?_) (fun cdv A outer s H vs Q E hr h=>?_)
 · obtain ⟨_,_,_,_,_,_,_,_,_,_,rfl,_⟩:=h;rfl
 obtain ⟨q',p,d,r,g,n,ls,ts,z,row,rfl,hs,hx,nd,hz,hl,hr',hg,hok,q⟩:=h
 refine ⟨_,(@A1 _ _ _ _ _ (Ak (i:=3) sc.nd rfl (Or.inl rfl) (Aj Zc T.Z9 hr (As Ac) (pv 0) (A0 (pv 1) A4)))
  (@A1 _ _ _ _ _ (B0 (PW.pt (L9 (Am N2 (@Bq _ _ _ _ _ _ _ Ex (pv 2) A9 (fun _ _=>rfl)) (pv 1) (nomark _)) (Id (Am N2 (@Bq _ _ _ _ _ _ _ Ex (pv 2) A9 (fun _ _=>rfl)) (pv 3) (nomark _)))))
   (@A5 _ _ _ (@Af _ _ _ _ D9))
   Ah)
  (@A1 _ _ _ _ _ (B0 (Br (Bm (Ad Z3e hr rfl Ac (A0 (pv 0) (A0 (pv 1) (A0 (@Bq _ _ _ _ _ _ _ Ex (pv 2) A9 (fun _ _=>rfl)) A4))))))
   (@A5 _ _ _ (@Af _ _ _ _ D9))
   Ah)
  (@A1 _ _ _ _ _ (B0 (Bm (pv 3))
   (@A5 _ _ _ (@Af _ _ _ _ D9))
   Ah)
  (@A1 _ _ _ _ _ (B0 (Am Ig (Aj Z8 T.Zb hr (As Ac) (Ao (pv 0) rfl) (A0 (pv 1) A4)) (Bu Zi T.Z9 hr (As Ac) (pv 0)) (nomark _))
   (@A5 _ _ _ (@Af _ _ _ _ D9))
   Ah)
  (@A1 _ _ _ _ _ (Al (Aj Z0q T.Z9 hr (As Ac) (pv 0) (A0 (pv 1) A4)))
  (@A5 _ _ _ (@Af _ _ _ _ D9)))))))),?_⟩
 walk_at "st";have line:=Ae;obtain ⟨⟨dx,ho⟩,hd,hnd⟩:=id hs;obtain ⟨e1,e2,e3,e4⟩:=hok;obtain ⟨r0,r1,r2⟩:=row;simp only at e1 e2 e3 e4 hr' hg q;subst e1;walk_at "go";refine ⟨dx,_,ho,by rfl,_,_,_,_,hs,?_⟩;walk_at "go";refine ⟨_,_,_,_,hs,_,hg,e3,fun H1 sb1 hs1=>?_⟩;rename_i rest hrest;subst hrest;obtain ⟨⟨dx1,ho1⟩,hd1,hnd1⟩:=id hs1;walk_at "go"
 by_cases hin:r0∈lyN ls
 · rw [if_pos hin]
   refine q H1 sb1 ?_;unfold Dw;rw [if_pos hin];exact hs1
 rw [if_neg hin];rename_i rest hrest;subst hrest;have hx1:=hx.butD sb1 hd;obtain ⟨dy,e,kvs,h1,h2,h3,h4,h5⟩:=Aa.has hx1.at;walk_at "go";refine ⟨Z3,dx1,_,ho1,T.Z9,T.Zw,_,Mu,_,rfl,dy,flds e,h1,by rfl,_,rfl,ts,hx1.at,nd,hz,dx1,_,ho1,by rfl,_,_,_,_,hs1,fun H2 sm2=>?_⟩;have hroom:=e4 hin;rw [if_neg (by omega)];rename_i rest hrest;subst hrest;have hs2:=hs1.same sm2;have hx2:=hx1.same sm2;have hle:=Yv ls r2;obtain ⟨⟨dx2,ho2⟩,hd2,hnd2⟩:=id hs2;walk_at "go";refine ⟨dx2,_,ho2,by rfl,_,_,_,_,hs2,ts,hx2,nd,by omega,hz,rm ts r0,fun t ht e=>?_,fun h=>hin (V6.mp h).1,hroom,fun H3 sb3 hs3=>?_⟩
 · obtain ⟨i,hi⟩:=JD ht
   rw [← e,Oi nd hi]
 rename_i rest hrest;subst hrest;walk_at "go";refine q H3 ((sb1.trans (.of sm2)).trans sb3) ?_;unfold Dw;rw [if_neg hin];exact hs3
theorem Z5l{f:Addr}{fd:FuncData}(F:Fun K "lying_after" "lying_after" Z28 f fd)(T:Txt K mg Z2 Z5 Z3 Z6 Z4 Z0 Z1)(Zk:Def P w K mg base CX0 4 "check_asks" ["stock","asks","places"] (N41.De K Z2))(Z0k:Tx P w K mg base CX0 4 "Shelf" Z3 ["self","stock","places"] (Iw Z3))(Z4s:Def P w K mg base CX0 5 "serves" ["shelf","name","row"] (Er K Z2 Z3))(Z0c:Be P w K mg base CX0 1 Z3 "lying" ["self"] (Iy Z3)):Ar P w K mg base CX0 7 f fd ["stock","asks","places","book"] (Gp K Z2):=by
 have sc:Ab ["stock","asks","places","book","shelf","told","name","row"] ["stock","asks","places","book"] (A6 Z28):=by walk_at "sc"
 refine F.ok sc (fun vs H Q E h=>?_) (fun cdv A outer s H vs Q E hr h=>?_)
 · obtain ⟨_,_,_,_,_,_,_,_,_,rfl,_⟩:=h;rfl
 obtain ⟨p,a,b,n,ts,ys,as,gs,rs,rfl,hst,nd,ha,hlen,hin,hrm,hn1,hn2,hb,hlaw,q⟩:=h
 refine ⟨_,(@A1 _ _ _ _ _ (Al (Ad Zk hr rfl Ac (A0 (pv 0) (A0 (pv 1) (A0 (pv 2) A4)))))
  (@A1 _ _ _ _ _ (Ak (i:=4) sc.nd rfl (Or.inl rfl) (Eb Z0k hr rfl (As Ac) (A0 (pv 0) (A0 (pv 2) A4))))
  (@A1 _ _ _ _ _ (Ak (i:=5) sc.nd rfl (Or.inl rfl) (@Bo _ _ _ _ A4))
  (@A1 _ _ _ _ _ (C5 PassesOwn.never rfl (W6 rfl T.Z3o (A0 (pv 1) (A0 (pv 3) A4))) (Gc rfl (Ba (B2 (i:=6) sc.nd rfl (Or.inl rfl)) (Ba (B2 (i:=7) sc.nd rfl (Or.inl rfl)) Dx)))
   (@A1 _ _ _ _ _ (B0 (Br (Bm (Ad Z4s hr rfl Ac (A0 (pv 4) (A0 (pv 6) (A0 (pv 7) A4))))))
    (@A5 _ _ _ B3)
    Ah)
   (@A5 _ _ _ (Al (Ct FK FP FO Bk (pv 5) (A0 (Bu Z0c T.Z9 hr (As Ac) (pv 4)) A4))))))
  (@A1 _ _ _ _ _ (B0 (Am N2 (Ag Ai rfl T.Zg FE (A0 (pv 1) A4)) (Ag Ai rfl T.Zg FE (A0 (pv 3) A4)) (nomark _))
   (@A5 _ _ _ B3)
   Ah)
  (@A5 _ _ _ (@Af _ _ _ _ (pv 5)))))))),?_⟩
 walk_at "st";have line:=Ae;walk_at "go";refine ⟨ts,hst,nd,ys,ha,hlen,hin,hrm,hn1,hn2,fun H1 sm1=>?_⟩;rename_i rest hrest;subst hrest;walk_at "go";intro x dx hx hdx hne;refine ⟨dx,A3,hn1,hn2,fun H2 d sb hdn hs2=>?_⟩;have sm2:=sm1.trans (V9 hx hdx sb);have hd0:=Bd sm1 (Va hdn);clear hdn sb hdx hne;rename_i rest hrest;subst hrest;walk_at "go";intro l hl;rename_i rest hrest;subst hrest;have sm3:A7 H (upd H2 l (.lst [])):=Yx sm2 (Bd sm2 hl);have hs3:=hs2.same (A7.new (o:= .lst []) hl);have hx3:=(C6.of hst hd0).same sm3
 have htold:Sl H (upd H2 l (.lst [])) l [] (stL (rm ts) ys rs) 0:=⟨A3,rfl,by simp,by simp⟩
 have hl0:=Bd sm2 hl;walk_at "go";rename_i rest hrest;refine ⟨⟨_,sm3.seq ha⟩,⟨_,(hb.same sm3).l⟩,?_⟩;clear hl hs2 sm2 hx sm1
 have hlen2:(ys.map V.str).length=(as.map V.ref).length:=by rw [Fa,Fa,hlaw.len,hb.n]
 refine J74 hlen2 (fun i σ H'=>∃(v6 v7:Option V) (qs:List Addr),σ=[some (V.ref p),some (V.ref a),some (V.int n),some (V.ref b),some (V.ref x),some (V.ref l),v6,v7]∧A7 H H'∧B4 Z3 H' x p d n (stL (rm ts) ys rs i)∧C6 K Z2 H' p ts d∧Sl H H' l qs (stL (rm ts) ys rs) i) ⟨none,none,[],rfl,sm3,hs3,hx3,htold⟩ (fun i σ H' _ ⟨_,_,_,_,sm,_⟩=>⟨sm.seq ha,(hb.same sm).l⟩) ?_ ?_
 · clear hs3 hx3 htold sm3 hrest
   rintro i u y σ H' t hu hy ⟨v6,v7,qs,rfl,sm,hs',hx',ht'⟩ htn;rw [Fg]at hu hy
   cases hz:ys[i]? with
   | none=>rw [hz]at hu;cases hu
   | some z=>
   rw [hz]at hu;cases hu
   cases hr:as[i]? with
   | none=>rw [hr]at hy;cases hy
   | some r=>
   rw [hr]at hy;cases hy;have hi:i < as.length:=(Fe.mp hr).1
   have hi2:i < rs.length:=by rw [← hb.n];exact hi
   have hi3:i < gs.length:=by rw [hb.m];exact hi2
   have hrow:=Fb hi2;have hg:=Fb hi3;generalize rs[i]=row at hrow;generalize gs[i]=g at hg;obtain ⟨hT,hG⟩:=hb.t i r g row hr hg hrow;have hok:=hlaw.row hz hrow;have hstep:=V7 (R:=rm ts) hz hrow;have hle:=Jba (rm ts) ys rs i;have hi4:i < ys.length:=(Fe.mp hz).1;have hzin:=hin z (Fk hz);walk_at "go";refine ⟨_,SqT.of A3,rfl,_,_,rfl,_,_,rfl,rfl,?_⟩;have smt:A7 H' (upd H' t (.tup [V.str z,V.ref r])):=A7.new htn;have sm4:=sm.trans smt;have hs4:=hs'.same smt;have hx4:=hx'.same smt;have ht4:=ht'.same smt;generalize upd H' t (.tup [V.str z,V.ref r])=H4 at smt sm4 hs4 hx4 ht4 ⊢;clear smt ht' hx' hs' sm htn;have hT4:=sm4.tup hT;have hG4:=sm4.seq hG;walk_at "go";refine ⟨_,_,g,_,_,hs4,ts,hx4,nd,hzin,by omega,row,hT4,hG4,hok,fun H5 sb5 hs5=>?_⟩;rename_i rest hrest;subst hrest;have hd4:=hs4.d;have sm5:=P1 sm4 hd0 sb5;have hx5:=hx4.butD sb5 hd4
   rw [← hstep]at hs5;obtain ⟨⟨dx5,ho5⟩,hd5,hnd5⟩:=id hs5
   have hld:l≠d:=fun e=>by have:=ht4.L;rw [e,hd4]at this;cases this
   have hl5:=sb5 _ _ ht4.L hld;walk_at "go";refine ⟨.inl ⟨rfl,_,SqL.of hl5⟩,dx5,_,ho5,by rfl,_,_,_,_,hs5,fun y hy=>?_⟩
   have hly:l≠y:=fun e=>by rw [e,hy]at hl5;cases hl5
   have smy:A7 H5 (upd H5 y (.lst ((lyN (stL (rm ts) ys rs (i+1))).map V.str))):=A7.new hy;have hq4:=ht4.N;refine ⟨_,_,_,rfl,rfl,smy _ _ hl5,by rw [Fa];omega,?_⟩;have key:=ht4.step sm4 hd4 sb5 sm5 hy;rw [Fw]at key;exact ⟨Yx (sm5.trans smy) hl0,(hs5.same smy).butL (fun b o e nb=>by rw [A2 nb];exact e) (smy _ _ hl5),(hx5.same smy).butL (fun b o e nb=>by rw [A2 nb];exact e) (smy _ _ hl5),_,key⟩
 · clear hs3 hx3 htold sm3
   rintro σ H' ⟨v6,v7,qs,rfl,sm,hs',hx',ht'⟩;subst hrest;rw [Fa]at ht' hs';walk_at "go";refine ⟨_,.inl (sm.seq ha),_,.inl (hb.same sm).l,?_⟩;rw [if_neg (by rw [hlen2];exact fun h=>h rfl)];rename_i rest hrest;subst hrest;walk_at "go";exact q l qs H' hl0 sm ht'
theorem Z69{f:Addr}{fd:FuncData}(F:Fun K "__init__" "Rule.__init__" Z0p f fd)(T:Txt K mg Z2 Z5 Z3 Z6 Z4 Z0 Z1)(Zf:Def P w K mg base CX0 3 "check_places" ["places"] (Cr)):Ar P w K mg base CX0 4 f fd ["self","stock","places"] (Ej Z0 Z4):=by
 have sc:Ab ["self","stock","places"] ["self","stock","places"] (A6 Z0p):=by walk_at "sc"
 refine F.ok sc (fun vs H Q E h=>?_) (fun cdv A outer s H vs Q E hr h=>?_)
 · obtain ⟨_,_,_,_,_,rfl,_⟩:=h;rfl
 obtain ⟨b,q',dx,p,n,rfl,hq,h1,h2,q⟩:=h
 refine ⟨_,(@A1 _ _ _ _ _ (Al (Ad Zf hr rfl Ac (A0 (pv 2) A4)))
  (@A1 _ _ _ _ _ (C8 (pv 0) (pv 1) rfl)
  (@A5 _ _ _ (C8 (pv 0) (pv 2) rfl)))),?_⟩
 walk_at "st"
 have hcl:∀b,Cls K (RT2 Z0 Z4 b).C:=fun b=>by cases b;exact T.Z6y;exact T.Zh
 have hns:∀b,B5 K (RT2 Z0 Z4 b).C "stock":=fun b=>by cases b;exact T.Z0g;exact T.Zy
 have hnp:∀b,B5 K (RT2 Z0 Z4 b).C "places":=fun b=>by cases b;exact T.Z0e;exact T.Zt
 walk_at "go";refine ⟨_,dx,[],hq,hcl b,hns b,by decide,?_⟩;walk_at "go";refine ⟨_,dx,_,A3,hcl b,hnp b,by simp [Av],?_⟩;walk_at "go";exact q _ (fun b o e nb=>by rw [A2 nb];exact e) A3
theorem Z5m{f:Addr}{fd:FuncData}(F:Fun K "__init__" "Ranked.__init__" Z29 f fd)(T:Txt K mg Z2 Z5 Z3 Z6 Z4 Z0 Z1)(Z3f:Jbc P w K mg base CX0 4 "Rule" Z6 ["self","stock","places"] (Ej Z0 Z4)):Ar P w K mg base CX0 5 f fd ["self","stock","places"] (Km Z0):=by
 have sc:Ab ["self","stock","places"] ["self","stock","places"] (A6 Z29):=by walk_at "sc"
 refine F.ok sc (fun vs H Q E h=>?_) (fun cdv A outer s H vs Q E hr h=>?_)
 · obtain ⟨_,_,_,_,rfl,_⟩:=h;rfl
 obtain ⟨q',dx,p,n,rfl,hq,h1,h2,q⟩:=h
 refine ⟨_,(@A1 _ _ _ _ _ (Al (J5c Z3f hr (As Ac) (Ql (v:= .ref Z6) rfl T.Z78 rfl) (A0 (pv 0) (A0 (pv 1) (A0 (pv 2) A4)))))
  (@A1 _ _ _ _ _ (C8 (pv 0) A9 rfl)
  (@A5 _ _ _ (C8 (pv 0) E7 rfl)))),?_⟩
 walk_at "st";have line:=Ae;walk_at "go";refine ⟨true,dx,hq,h1,h2,fun H1 sb1 hq1=>?_⟩;have hq1':H1 q'=some (.ins Z0 dx (rf0 p n)):=hq1;clear hq1;rename_i rest hrest;subst hrest;walk_at "go";refine ⟨Z0,dx,_,hq1',T.Zh,T.Zr,by rw [show (rf0 p n).length=2 from rfl];decide,?_⟩
 have sb2:SameBut q' H1 (upd H1 q' (.ins Z0 dx (Av "present" (V.int 0) (rf0 p n)))):=fun b o e nb=>by rw [A2 nb];exact e
 have hq2:upd H1 q' (.ins Z0 dx (Av "present" (V.int 0) (rf0 p n))) q'=some (.ins Z0 dx (Av "present" (V.int 0) (rf0 p n))):=A3;generalize upd H1 q' (.ins Z0 dx (Av "present" (V.int 0) (rf0 p n)))=H2 at sb2 hq2 ⊢;rename_i rest hrest;subst hrest;walk_at "go";intro la hla
 have n1:la≠q':=fun e=>by rw [e,hq2]at hla;cases hla
 refine ⟨Z0,dx,_,by rw [A2 n1.symm];exact hq2,T.Zh,T.Z01,by rw [show (Av "present" (V.int 0) (rf0 p n)).length=3 from rfl];decide,?_⟩;have sb12:=sb1.trans sb2
 have hla0:H la=none:=by
  cases e2:H la with
  | none=>rfl
  | some o=>rw [sb12 _ _ e2 n1]at hla;cases hla
 walk_at "go";exact q _ la (fun b o e nb=>by rw [A2 nb,A2 (fun e2=>by rw [e2,hla0]at e;cases e)];exact sb12 _ _ e nb) hla0 ⟨la,rfl,⟨dx,A3⟩,by rw [A2 n1,A3];rfl⟩
theorem Z3v{f:Addr}{fd:FuncData}(F:Fun K "number_ask" "Ranked.number_ask" Z0r f fd)(T:Txt K mg Z2 Z5 Z3 Z6 Z4 Z0 Z1):Ar P w K mg base CX0 1 f fd ["self","name"] (Es Z0):=by
 have sc:Ab ["self","name"] ["self","name"] (A6 Z0r):=by walk_at "sc"
 refine F.ok sc (fun vs H Q E h=>?_) (fun cdv A outer s H vs Q E hr h=>?_)
 · obtain ⟨_,_,_,_,_,_,rfl,_⟩:=h;rfl
 obtain ⟨q',p,n,M,s,z,rfl,hh,hl,q⟩:=h
 refine ⟨_,(@A1 _ _ _ _ _ (Pn (pv 0) A9 J2c)
  (@A5 _ _ _ (K7 (D4 hr) (Ao (pv 0) rfl) (pv 1) (Ao (pv 0) rfl) rfl))),?_⟩
 walk_at "st";have line:=Ae;obtain ⟨la,hM,⟨dx,ho⟩,hla⟩:=hh
 have hM2:M=[q',la]∧True:=⟨hM,trivial⟩
 clear hM
 have nq1:q'≠la:=fun e=>by rw [e,hla]at ho;cases ho
 walk_at "go";refine ⟨Z0,dx,_,ho,T.Zh,T.Zr,_,Nh,s.k,rfl,dx,_,ho,by rw [J82];decide,?_⟩;have ho1:upd H q' (.ins Z0 dx (rf2 p n (s.k+1) la)) q'=some (.ins Z0 dx (rf2 p n (s.k+1) la)):=A3
 have hla1:upd H q' (.ins Z0 dx (rf2 p n (s.k+1) la)) la=some (.dK s.la):=by rw [A2 nq1.symm];exact hla
 have kp1:Kp M H (upd H q' (.ins Z0 dx (rf2 p n (s.k+1) la))):=(Kp.of (A7.refl H)).upd (by rw [hM2.1];simp);rename_i rest hrest;show rest _ (upd H q' (.ins Z0 dx (rf2 p n (s.k+1) la)));generalize upd H q' (.ins Z0 dx (rf2 p n (s.k+1) la))=H1 at ho1 hla1 kp1 ⊢;have hlp:=Cu s.la (Sum.inr z:Key) (V.int (s.k+1));subst hrest;walk_at "go";exact ⟨Z0,dx,_,ho1,T.Zh,T.Zr,_,Nh,Z0,dx,_,ho1,T.Zh,T.Z01,_,Vf,la,rfl,_,Oa.k (k:=Sum.inr z) hla1 (by omega),q _ (kp1.upd (by rw [hM2.1];simp)) ⟨la,hM2.1,⟨dx,by rw [A2 nq1];exact ho1⟩,A3⟩⟩
theorem Z53{f:Addr}{fd:FuncData}(F:Fun K "asked" "Ranked.asked" Z1q f fd)(T:Txt K mg Z2 Z5 Z3 Z6 Z4 Z0 Z1)(Z0s:Be P w K mg base CX0 1 Z0 "number_ask" ["self","name"] (Es Z0)):Ar P w K mg base CX0 2 f fd ["self","name"] (Kl (T2 Z0)):=by
 have sc:Ab ["self","name"] ["self","name"] (A6 Z1q):=by walk_at "sc"
 refine F.ok sc (fun vs H Q E h=>?_) (fun cdv A outer s H vs Q E hr h=>?_)
 · obtain ⟨_,_,_,_,_,_,_,_,rfl,_⟩:=h;rfl
 obtain ⟨q',p,n,M,s,l,ns,z,rfl,hh,hi,hz,hns,q⟩:=h;refine ⟨_,(@A5 _ _ _ (Al (Aj Z0s T.Zh hr (As Ac) (pv 0) (A0 (pv 1) A4)))),?_⟩;walk_at "st";have line:=Ae;have hh':OAt Z0 H M q' p n s:=hh;obtain ⟨la,hM,⟨dx,ho⟩,hla⟩:=id hh';have hlen:=hi.a.len;walk_at "go";exact ⟨dx,_,ho,by rfl,p,n,M,s,hh',by omega,fun H1 kp1 h1=>q H1 kp1 h1⟩
theorem Z4m{f:Addr}{fd:FuncData}(F:Fun K "last_of" "Ranked.last_of" Z18 f fd)(T:Txt K mg Z2 Z5 Z3 Z6 Z4 Z0 Z1):Ar P w K mg base CX0 1 f fd ["self","name"] (Kn Z0):=by
 have sc:Ab ["self","name"] ["self","name"] (A6 Z18):=by walk_at "sc"
 refine F.ok sc (fun vs H Q E h=>?_) (fun cdv A outer s H vs Q E hr h=>?_)
 · obtain ⟨_,_,_,_,_,_,_,rfl,_⟩:=h;rfl
 obtain ⟨q',p,n,M,s,z,i,rfl,hh,hv,q⟩:=h;refine ⟨_,(@A5 _ _ _ (@Af _ _ _ _ (Tg (D4 hr) (Ao (pv 0) rfl) (pv 1) A9 ⟨rfl,rfl,rfl,rfl⟩))),?_⟩;walk_at "st";have line:=Ae;obtain ⟨la,hM,⟨dx,ho⟩,hla⟩:=hh;clear hM;walk_at "go";exact ⟨Z0,dx,_,ho,T.Zh,T.Z01,_,Vf,la,rfl,.inl ⟨_,.inl hla⟩,some (.int i),by rw [← hv];exact D0.k (k:=Sum.inr z) hla,q⟩
theorem Z5n{f:Addr}{fd:FuncData}(F:Fun K "rank" "Ranked.rank" Z0b f fd)(T:Txt K mg Z2 Z5 Z3 Z6 Z4 Z0 Z1)(Z1b:Be P w K mg base CX0 1 Z0 "last_of" ["self","name"] (Kn Z0)):Ar P w K mg base CX0 2 f fd ["self","name"] (Ga Z0):=by
 have sc:Ab ["self","name"] ["self","name"] (A6 Z0b):=by walk_at "sc"
 refine F.ok sc (fun vs H Q E h=>?_) (fun cdv A outer s H vs Q E hr h=>?_)
 · obtain ⟨_,_,_,_,_,_,_,rfl,_⟩:=h;rfl
 obtain ⟨q',p,n,M,s,z,i,rfl,hh,hv,q⟩:=h;refine ⟨_,(@A5 _ _ _ (@Af _ _ _ _ (Ih (A0 (Aj Z1b T.Zh hr (As Ac) (pv 0) (A0 (pv 1) A4)) A4)))),?_⟩;walk_at "st";have line:=Ae;obtain ⟨la,hM,⟨dx,ho⟩,hla⟩:=id hh;clear hM;walk_at "go";exact ⟨dx,_,ho,by rfl,p,n,M,s,hh,i,hv,by omega,fun t ht=>q t ht⟩
theorem Z4t{f:Addr}{fd:FuncData}(F:Fun K "choice" "Ranked.choice" Z1k f fd)(T:Txt K mg Z2 Z5 Z3 Z6 Z4 Z0 Z1)(Z2i:Jbf P w K mg base 2 Z0 "rank" ["self","name"] (Ga Z0)):Ar P w K mg base CX0 4 f fd ["self","lying"] (Gs (T2 Z0) K):=by
 have sc:Ab ["self","lying"] ["self","lying"] (A6 Z1k):=by walk_at "sc"
 refine F.ok sc (fun vs H Q E h=>?_) (fun cdv A outer s H vs Q E hr h=>?_)
 · obtain ⟨_,_,_,_,_,_,_,_,_,rfl,_⟩:=h;rfl
 obtain ⟨q',p,a,n,M,s,l,ns,z,rfl,hh,hm,hl,ha,ham,hns,hll,hcn,q⟩:=h;refine ⟨_,(@A5 _ _ _ (@Af _ _ _ _ (J81 Z2i T.Zh hr rfl T.Z4z (by first | rfl | decide+kernel) (A0 (pv 1) A4) (pv 0) rfl))),?_⟩;walk_at "st";have line:=Ae;have hh':OAt Z0 H M q' p n s:=hh;obtain ⟨la,hM,⟨dx,ho⟩,hla⟩:=id hh';clear hM;have hm':LM ns z s l:=hm;have q2:∀H',Kp M H H'→OAt Z0 H' M q' p n s→Q (.str (lmin (lv s) l)) H':=q;clear q hm;walk_at "go";refine ⟨dx,_,ho,by rfl,l.map V.str,SqL.of ha,by simpa using hl,fun i=>[lv s (l.getD i Str.empty)],fun i v hv H1 sm1=>?_,fun v H1 sm1 hv=>?_⟩
 · rw [Fg]at hv
   cases hz:l[i]? with
   | none=>rw [hz]at hv;cases hv
   | some u=>
   rw [hz]at hv;cases hv;obtain ⟨j,hj,_⟩:=hm'.i.v u (Fk hz);refine ⟨p,n,M,s,u,rfl,(T2 Z0).dep (fun m _ o=>sm1 m o) hh',j,hj,fun t ht=>⟨A7.new ht,?_⟩⟩;rw [A3];show _=some (HO.tup [V.int (lv s (l.getD i Str.empty))]);rw [Fc,hz];show _=some (HO.tup [V.int (lv s u)]);rw [Ve hj]
 · rw [Jbg,Fa,Fg]at hv
   have hb:=Yc (fun i=>lv s (l.getD i Str.empty)) (l.length - 1);have hl0:0 < l.length:=RF.mpr hl
   have hlt:argBest (fun i j=>decide (lv s (l.getD i Str.empty) < lv s (l.getD j Str.empty))) (l.length - 1) < l.length:=by omega
   have e:v=V.str (lmin (lv s) l):=by
    unfold lmin;rw [Fc,Fb hlt];rw [Fb hlt]at hv;exact (FS hv).symm
   rw [e];exact q2 _ (Kp.of sm1) ((T2 Z0).dep (fun m _ o=>sm1 m o) hh')
theorem Z5o{f:Addr}{fd:FuncData}(F:Fun K "gone" "Rule.gone" Z2a f fd)(T:Txt K mg Z2 Z5 Z3 Z6 Z4 Z0 Z1):Ar P w K mg base CX0 1 f fd ["self","name"] (M0 (T2 Z0)):=by
 have sc:Ab ["self","name"] ["self","name"] (A6 Z2a):=by walk_at "sc"
 refine F.ok sc (fun vs H Q E h=>?_) (fun cdv A outer s H vs Q E hr h=>?_)
 · obtain ⟨_,_,_,_,_,_,_,_,rfl,_⟩:=h;rfl
 obtain ⟨q',p,n,M,s,l,ns,z,rfl,hh,hm,hl,hns,q⟩:=h;refine ⟨_,(@A5 _ _ _ Wy),?_⟩;walk_at "st";walk_at "go";exact q _ (Kp.of (A7.refl _)) hh
theorem Z5p{f:Addr}{fd:FuncData}(F:Fun K "came" "Rule.came" Z2b f fd)(T:Txt K mg Z2 Z5 Z3 Z6 Z4 Z0 Z1):Ar P w K mg base CX0 1 f fd ["self","name"] (M3 (T2 Z0)):=by
 have sc:Ab ["self","name"] ["self","name"] (A6 Z2b):=by walk_at "sc"
 refine F.ok sc (fun vs H Q E h=>?_) (fun cdv A outer s H vs Q E hr h=>?_)
 · obtain ⟨_,_,_,_,_,_,_,_,rfl,_⟩:=h;rfl
 obtain ⟨q',p,n,M,s,l,ns,z,rfl,hh,hm,hz,hzl,hns,q⟩:=h;refine ⟨_,(@A5 _ _ _ Wy),?_⟩;walk_at "st";walk_at "go";exact q _ (Kp.of (A7.refl _)) hh
theorem Z6a{f:Addr}{fd:FuncData}(F:Fun K "make_room" "make_room" Z38 f fd)(T:Txt K mg Z2 Z5 Z3 Z6 Z4 Z0 Z1)(Zi:Be P w K mg base CX0 1 Z3 "room_left" ["self"] (Kj Z3))(Z0c:Be P w K mg base CX0 1 Z3 "lying" ["self"] (Iy Z3))(Z1m:Be P w K mg base CX0 4 Z0 "choice" ["self","lying"] (Gs (T2 Z0) K))(Z0j:Be P w K mg base CX0 2 Z3 "cast" ["self","name"] (Iz Z3))(Z2j:Be P w K mg base CX0 1 Z0 "gone" ["self","name"] (M0 (T2 Z0))):Ar P w K mg base CX0 5 f fd ["rule","shelf","room"] (M4 (T2 Z0) K Z2 Z3):=by
 have sc:Ab ["rule","shelf","room","went","name"] ["rule","shelf","room"] (A6 Z38):=by walk_at "sc"
 refine F.ok sc (fun vs H Q E h=>?_) (fun cdv A outer s H vs Q E hr h=>?_)
 · obtain ⟨_,_,_,_,_,_,_,_,_,_,_,_,rfl,_⟩:=h;rfl
 obtain ⟨H0,q',p,sh,d,M,n,need,ts,ls,s,z,rfl,hr',hm,hn,hll,htl,hcn,q⟩:=h
 refine ⟨_,(@A1 _ _ _ _ _ (Ak (i:=3) sc.nd rfl (Or.inl rfl) (@Bo _ _ _ _ A4))
  (@A1 _ _ _ _ _ (T8 PassesOwn.never (Am Pm (Bu Zi T.Z9 hr (As Ac) (pv 1)) (pv 2) (nomark _))
   (@A1 _ _ _ _ _ (Ak (i:=4) sc.nd rfl (Or.inl rfl) (Aj Z1m T.Zh hr (As Ac) (pv 0) (A0 (Bu Z0c T.Z9 hr (As Ac) (pv 1)) A4)))
   (@A1 _ _ _ _ _ (Al (Aj Z0j T.Z9 hr (As Ac) (pv 1) (A0 (pv 4) A4)))
   (@A1 _ _ _ _ _ (Al (Aj Z2j T.Zh hr (As Ac) (pv 0) (A0 (pv 4) A4)))
   (@A5 _ _ _ (Al (Ct FK FP FO Bk (pv 3) (A0 (pv 4) A4))))))))
  (@A5 _ _ _ (@Af _ _ _ _ (pv 3))))),?_⟩
 walk_at "st";have line:=Ae;walk_at "go";intro w hw;have kp0:Kp (d::M) H (upd H w (.lst [])):=Kp.of (A7.new hw);have hr0:=hr'.same (A7.new (o:= .lst []) hw);have hww:upd H w (.lst []) w=some (.lst []):=A3;have nw:=hr'.free hw;have nw0:H0 w=none:=Bd hr'.sm hw;have nwm:w∉M:=fun h=>nw (Fn _ h);have nwd:w≠d:=fun h=>nw (by rw [h];simp);generalize upd H w (.lst [])=H1 at kp0 hr0 hww ⊢;rename_i rest hrest;subst hrest;walk_at "go";rename_i rest hrest;refine Xd (m0:=ls.length) (fun m σ H5=>∃(ls':Ly) (s':((T2 Z0)).St) (wl:List Str) (v4:Option V),σ=[some (V.ref q'),some (V.ref sh),some (V.int need),some (V.ref w),v4]∧Kp (d::M) H H5∧H5 w=some (.lst (wl.map V.str))∧Ds (T2 Z0) K Z2 Z3 H0 H5 q' p sh d M n ts ls' s'∧((T2 Z0)).mid (ts.map (·.1)) n z s' (lyN ls')∧gf (T2 Z0) (rm ts) n need s (lyN ls) []=gf (T2 Z0) (rm ts) n need s' (lyN ls') wl∧wl.length+ls'.length≤60∧((T2 Z0)).cnt s'≤300∧m=ls'.length) ⟨ls,s,[],none,rfl,kp0,hww,hr0,hm,rfl,by simpa using hll,hcn,rfl⟩ ?_
 clear hr' hr0 hww kp0 hm;rintro m' σ H5 ⟨ls',s',wl,v4,rfl,kp5,hw5,hr5,hm5,hf5,hl5,hcn5,rfl⟩;have hleft:=hr5.left;obtain ⟨⟨dx,ho⟩,hd,hnd⟩:=id hr5.shf;walk_at "go";refine ⟨dx,_,ho,by rfl,_,_,_,_,hr5.shf,fun H6 sm6=>?_⟩;have hr6:=hr5.same sm6;have hw6:=sm6 _ _ hw5;have kp6:=kp5.trans (Kp.of sm6)
 by_cases hlt:need≤n - N41.sm (rm ts) (lyN ls')
 · rw [if_neg (by rw [hleft];omega)]
   have e1:gf (T2 Z0) (rm ts) n need s (lyN ls) []=(s',lyN ls',wl)∧True:=⟨hf5.trans (L7 hlt),trivial⟩
   clear hf5;subst hrest;walk_at "go";exact q w ls' H6 kp6 hw (by rw [e1.1];exact hw6) (by rw [e1.1]) (by rw [e1.1];exact hr6)
 · rw [if_pos (by rw [hleft];omega)]
   clear hrest;refine ⟨_,fun σ' H7 h=>h,?_⟩;have hLne:lyN ls'≠[]:=fun e=>hlt (by rw [e,N41.Oj];omega);obtain ⟨⟨dx6,ho6⟩,hd6,hnd6⟩:=id hr6.shf;obtain ⟨dq,fs,hoq,o1,o2,o3,hec,o4⟩:=Ay.obj _ hr6.h;clear hleft ho hd hnd hr5 hw5 kp5 sm6;walk_at "go";refine ⟨dq,_,hoq,hec,dx6,_,ho6,by rfl,_,_,_,_,hr6.shf,fun l hl=>?_⟩;have sml:A7 H6 (upd H6 l (.lst ((lyN ls').map V.str))):=A7.new hl;have hl7:upd H6 l (.lst ((lyN ls').map V.str)) l=some (.lst ((lyN ls').map V.str)):=A3;have nl:=hr6.free hl;have hr7:=hr6.same sml;have hw7:=sml _ _ hw6;have kp7:=kp6.trans (Kp.of sml);generalize upd H6 l (.lst ((lyN ls').map V.str))=H7 at hr7 hw7 kp7 hl7 ⊢;clear hr6 hw6 kp6 hoq ho6 hd6 hnd6 sml hl hec;obtain ⟨hf,hm8⟩:=Ay.i_pick _ hm5 hLne;have hcn6:=FC (FC (Ay.c_gone (T2 Z0) n (Ay.pick _ n s' (lyN ls')).1 (Ay.pick _ n s' (lyN ls')).2) (Ay.c_pick (T2 Z0) n s' (lyN ls'))) hcn5
   have hlen:(lyN ls').length≤60:=by unfold lyN;rw [Fa];omega
   refine ⟨p,n,M,s',hr7.h,lyN ls',ts.map (·.1),z,hm5,hLne,hl7,fun h=>nl (Fn _ h),by rw [Fa];exact htl,hlen,hcn5,fun H8 kp8 hh8=>?_⟩;have hr8:=hr7.rule kp8 hh8;have hw8:=kp8 _ _ nwm hw7;have kp08:=kp7.trans (Lz (d:=d) kp8)
   have hfin':gf (T2 Z0) (rm ts) n need s (lyN ls) []=gf (T2 Z0) (rm ts) n need (Ay.gone _ n (Ay.pick _ n s' (lyN ls')).1 (Ay.pick _ n s' (lyN ls')).2) ((lyN ls').erase (Ay.pick _ n s' (lyN ls')).2) (wl++[(Ay.pick _ n s' (lyN ls')).2])∧True:=⟨hf5.trans (J00 hlt hf),trivial⟩
   clear hf5 hr7 hw7 kp7 kp8 hh8 hl7;obtain ⟨⟨dx8,ho8⟩,hd8,hnd8⟩:=id hr8.shf;rename_i rest2 hrest2;subst hrest2;walk_at "go";refine ⟨dx8,_,ho8,by rfl,_,_,_,_,hr8.shf,hf,fun H9 sb9 hs9=>?_⟩;have hr9:=hr8.shelf sb9 hs9 hr8.ok.drop;have hw9:=sb9 _ _ hw8 nwd;obtain ⟨dq9,fs9,hoq9,o5,o6,o7,o8,heg,o9⟩:=Ay.obj _ hr9.h;have hnames:=Ki (z:=(Ay.pick _ n s' (lyN ls')).2) hr8.ok.nd;rename_i rest2 hrest2;subst hrest2;walk_at "go";refine ⟨dq9,_,hoq9,heg,p,n,M,s',lyN ls',rfl,hr9.h,ts.map (·.1),z,hm5,hLne,by rw [Fa];exact htl,fun H10 kp10 hh10=>?_⟩;have hr10:=hr9.rule kp10 hh10;have hw10:=kp10 _ _ nwm hw9;have kp010:Kp (d::M) H H10:=(kp08.trans (Qg sb9 (by simp))).trans (Lz kp10);clear hr8 hs9 hh10 sb9 kp10 hw8 hw9 kp08 hd8 hnd8 ho8 hoq9 hr9 heg;have hel:=HP hf;have hlp:0 < (lyN ls').length:=RV hf
   have hll5:(lyN ls').length=ls'.length∧True:=⟨by unfold lyN;rw [Fa],trivial⟩
   have hll6:(lyD ls' (Ay.pick _ n s' (lyN ls')).2).length+1≤ls'.length:=by
    have e:(lyN (lyD ls' (Ay.pick _ n s' (lyN ls')).2)).length=(lyD ls' (Ay.pick _ n s' (lyN ls')).2).length:=by unfold lyN;rw [Fa]
    rw [hnames]at e;omega
   rw [← hnames]at hm8 hfin';rename_i rest2 hrest2;subst hrest2;walk_at "go";generalize hfe:(Ay.pick _ n s' (lyN ls')).2=f at hf hm8 hfin' hnames hel hr10 hll6 hcn6 ⊢
   have hwl:(wl++[f]).length=wl.length+1:=by rw [Fu];rfl
   refine ⟨.inl ⟨rfl,_,SqL.of hw10⟩,w,_,_,rfl,rfl,hw10,by rw [Fa];omega,(lyD ls' f).length,by omega,J5j kp010 hw,lyD ls' f,_,wl++[f],by rw [A3,Fw];rfl,hr10.lst (fun b o e nb=>by rw [A2 nb];exact e) hw10 nwm nw0,hm8,hfin'.1,by omega,hcn6,rfl⟩
theorem Z70{f:Addr}{fd:FuncData}(F:Fun K "row_of" "row_of" Z4o f fd)(T:Txt K mg Z2 Z5 Z3 Z6 Z4 Z0 Z1)(Z1t:Be P w K mg base CX0 2 Z0 "asked" ["self","name"] (Kl (T2 Z0)))(Zc:Be P w K mg base CX0 1 Z3 "holds" ["self","name"] (Dn Z3))(Z8:Be P w K mg base CX0 2 Z2 "room_of" ["self","name"] (C3 K Z2))(Z3g:Def P w K mg base CX0 5 "make_room" ["rule","shelf","room"] (M4 (T2 Z0) K Z2 Z3))(Z0q:Be P w K mg base CX0 4 Z3 "put" ["self","name"] (Lv K Z2 Z3))(Z2k:Be P w K mg base CX0 1 Z0 "came" ["self","name"] (M3 (T2 Z0))):Ar P w K mg base CX0 6 f fd ["rule","shelf","name"] (Ny (T2 Z0) K Z2 Z3):=by
 have sc:Ab ["rule","shelf","name","went"] ["rule","shelf","name"] (A6 Z4o):=by walk_at "sc"
 refine F.ok sc (fun vs H Q E h=>?_) (fun cdv A outer s H vs Q E hr h=>?_)
 · obtain ⟨_,_,_,_,_,_,_,_,_,_,_,rfl,_⟩:=h;rfl
 obtain ⟨H0,q',p,sh,d,M,n,ts,ls,s,z,rfl,hr',hi,nd,htl,hz,hzn,hcn,q⟩:=h
 refine ⟨_,(@A1 _ _ _ _ _ (Al (Aj Z1t T.Zh hr (As Ac) (pv 0) (A0 (pv 2) A4)))
  (@A1 _ _ _ _ _ (B0 (Bm (Aj Zc T.Z9 hr (As Ac) (pv 1) (A0 (pv 2) A4)))
   (@A5 _ _ _ (@Af _ _ _ _ (Ih (A0 (pv 2) (A0 D9 (A0 (@Bo _ _ _ _ A4) A4))))))
   Ah)
  (@A1 _ _ _ _ _ (Ak (i:=3) sc.nd rfl (Or.inl rfl) (Ad Z3g hr rfl Ac (A0 (pv 0) (A0 (pv 1) (A0 (Aj Z8 T.Zb hr (As Ac) (Ao (pv 1) rfl) (A0 (pv 2) A4)) A4)))))
  (@A1 _ _ _ _ _ (Al (Aj Z0q T.Z9 hr (As Ac) (pv 1) (A0 (pv 2) A4)))
  (@A1 _ _ _ _ _ (Al (Aj Z2k T.Zh hr (As Ac) (pv 0) (A0 (pv 2) A4)))
  (@A5 _ _ _ (@Af _ _ _ _ (Ih (A0 (pv 2) (A0 D9 (A0 (pv 3) A4))))))))))),?_⟩
 walk_at "st";have line:=Ae;obtain ⟨dq,fs,hoq,o1,o2,hea,o3⟩:=Ay.obj _ hr'.h;walk_at "go";refine ⟨dq,_,hoq,hea,p,n,M,s,hr'.h,lyN ls,ts.map (·.1),hi,hz,by rw [Fa];exact htl,fun H1 kp1 hh1=>?_⟩;have hr1:=hr'.rule kp1 hh1;obtain ⟨⟨dx,ho⟩,hd,hnd⟩:=id hr1.shf;have fresh:∀b,H1 b=none→H b=none:=fun b e=>Nw kp1 (fun hm=>hr1.free e (Fn _ hm)) e
 have hlsl:(lyN ls).length≤60:=by
  have:=N25.J5k hr1.ok.nd hr1.ok.s;rw [Fa]at this;omega
 clear hoq hea;rename_i rest hrest;subst hrest;walk_at "go";refine ⟨dx,_,ho,by rfl,_,_,_,_,hr1.shf,?_⟩
 by_cases hzL:z∈lyN ls
 · have e:gask (T2 Z0) (rm ts) n (s,lyN ls) z=((Ay.asked _ n s z,lyN ls),(z,true,[])):=by unfold gask;rw [if_pos hzL]
   rw [if_pos hzL];rw [e]at q;refine ⟨by omega,fun g hg=>⟨by omega,fun t ht=>?_⟩⟩;have s1:A7 H1 (upd H1 g (.lst [])):=A7.new hg;have k1:upd H1 g (.lst []) g=some (.lst (([]:List Str).map V.str)):=A3;generalize upd H1 g (.lst [])=H2 at s1 k1 ht ⊢;have s2:A7 H2 (upd H2 t (.tup [V.str z,V.bl true,V.ref g])):=A7.new ht;exact q t g ls _ (Lz (kp1.trans (Kp.of (s1.trans s2)))) (fresh t (Bd s1 ht)) (fresh g hg) A3 (s2 _ _ k1) rfl (hr1.same (s1.trans s2))
 rw [if_neg hzL]
 have eh:gask (T2 Z0) (rm ts) n (s,lyN ls) z=((Ay.came _ n (gf (T2 Z0) (rm ts) n (rm ts z) (Ay.asked _ n s z) (lyN ls) []).1 z,(gf (T2 Z0) (rm ts) n (rm ts z) (Ay.asked _ n s z) (lyN ls) []).2.1++[z]),(z,false,(gf (T2 Z0) (rm ts) n (rm ts z) (Ay.asked _ n s z) (lyN ls) []).2.2)):=by unfold gask;rw [if_neg hzL]
 rw [eh]at q;clear eh;have hm1:=Ay.i_mid _ hi hz hzL;obtain ⟨hI,hne,hsub,hnd2,hwl⟩:=Wn (R:=rm ts) (n:=n) (need:=rm ts z) _ _ _ [] rfl hm1 hzn;obtain ⟨dy,e,kvs,h1,h2,h3,h4,h5⟩:=Aa.has hr1.x.at;rename_i rest hrest;subst hrest;walk_at "go";refine ⟨Z3,dx,_,ho,T.Z9,T.Zw,_,Mu,_,rfl,dy,flds e,h1,by rfl,_,rfl,ts,hr1.x.at,nd,hz,H0,p,d,M,n,ts,ls,_,hr1,z,hm1,hzn,by unfold lyN at hlsl;rw [Fa]at hlsl;exact hlsl,htl,FC (Ay.c_ask (T2 Z0) n s z) (by omega),fun g ls2 H2 kp2 hg hg2 hln2 hr2=>?_⟩;obtain ⟨⟨dx2,ho2⟩,hd2,hnd2'⟩:=id hr2.shf;have kp02:Kp (d::M) H H2:=(Lz kp1).trans kp2;have ngo:=hr1.free hg;have ngd:g≠d:=fun h=>ngo (by rw [h];simp);have ngm:g∉M:=fun h=>ngo (Fn _ h);have hnl:z∉lyN ls2:=fun h=>hzL (hsub z (by rw [← hln2];exact h))
 have hlen2:ls2.length≤60:=by
  have e1:(lyN ls2).length=ls2.length:=by unfold lyN;rw [Fa]
  rw [hln2]at e1;omega
 have hleft2:=hr2.left;rw [hln2]at hleft2;generalize gf (T2 Z0) (rm ts) n (rm ts z) (Ay.asked _ n s z) (lyN ls) []=F at hr2 hg2 q hne hI hleft2 hln2;obtain ⟨s2,l2,w2⟩:=F;simp only at hr2 hg2 q hne hI hleft2 hln2;clear hr1 hh1 kp1 h1 h2 h3 h4 h5 ho hd hnd hsub hnd2 hwl;rename_i rest hrest;subst hrest;walk_at "go";refine ⟨dx2,_,ho2,by rfl,_,_,_,_,hr2.shf,ts,hr2.x,nd,by omega,hz,rm ts z,fun t ht e=>?_,hnl,by omega,fun H3 sb3 hs3=>?_⟩
 · obtain ⟨i,hi'⟩:=JD ht
   rw [← e,Oi nd hi']
 have hr3:=hr2.shelf sb3 hs3 (hr2.ok.put hnl hz);obtain ⟨dq3,fs3,hoq3,o4,o5,o6,o7,o8,hec,o9⟩:=Ay.obj _ hr3.h;have hg3:=sb3 _ _ hg2 ngd
 have hl3:lyN (ls2++[(z,rm ts z)])=l2++[z]∧True:=⟨by unfold lyN at hln2 ⊢;rw [Fw,hln2];rfl,trivial⟩
 rw [hln2]at hnl;rename_i rest hrest;subst hrest;walk_at "go";refine ⟨dq3,_,hoq3,hec,p,n,M,s2,hr3.h,l2,ts.map (·.1),hI,hz,hnl,by rw [Fa];exact htl,fun H4 kp4 hh4=>?_⟩;have hr4:=hr3.rule kp4 hh4;have hg4:=kp4 _ _ ngm hg3;have kp04:Kp (d::M) H H4:=(kp02.trans (Qg sb3 (by simp))).trans (Lz kp4);rename_i rest hrest;subst hrest;walk_at "go";intro t ht;exact q t g _ _ (kp04.trans (Kp.of (A7.new ht))) (Nw kp04 (hr4.free ht) ht) (fresh g hg) A3 (A7.new ht _ _ hg4) hl3.1 (hr4.same (A7.new ht))
theorem Z6r{f:Addr}{fd:FuncData}(F:Fun K "book_of" "book_of" Z43 f fd)(T:Txt K mg Z2 Z5 Z3 Z6 Z4 Z0 Z1)(Zk:Def P w K mg base CX0 4 "check_asks" ["stock","asks","places"] (N41.De K Z2))(Z0k:Tx P w K mg base CX0 4 "Shelf" Z3 ["self","stock","places"] (Iw Z3))(Z4u:Def P w K mg base CX0 6 "row_of" ["rule","shelf","name"] (Ny (T2 Z0) K Z2 Z3)):Ar P w K mg base CX0 7 f fd ["rule","asks"] (Ko (T2 Z0) K Z2 Z3):=by
 have sc:Ab ["rule","asks","shelf"] ["rule","asks"] (A6 Z43):=by walk_at "sc"
 refine F.ok sc (fun vs H Q E h=>?_) (fun cdv A outer s H vs Q E hr h=>?_)
 · obtain ⟨_,_,_,_,_,_,_,_,_,rfl,_⟩:=h;rfl
 obtain ⟨H0,q',p,a,M,n,ts,ys,s0,rfl,hh,hi0,hsto,sm0,hm0,nd,htl,ha,ham,hlen,hin,hrm,hn1,hn2,hcn,q⟩:=h
 refine ⟨_,(@A1 _ _ _ _ _ (Al (Ad Zk hr rfl Ac (A0 (Ao (pv 0) rfl) (A0 (pv 1) (A0 (Ao (pv 0) rfl) A4)))))
  (@A1 _ _ _ _ _ (Ak (i:=2) sc.nd rfl (Or.inr rfl) (Eb Z0k hr rfl (As Ac) (A0 (Ao (pv 0) rfl) (A0 (Ao (pv 0) rfl) A4))))
  (@A5 _ _ _ (@Af _ _ _ _ (E8 "name" [0,2] rfl rfl (C4 (pv 1)) (fun b=>(Ad Z4u hr rfl Ac (A0 (pv 1) (A0 (pv 2) (A0 (pv 0) A4)))))))))),?_⟩
 walk_at "st";have line:=Ae;obtain ⟨dq,fs,hoq,hst_,hpl_,o1⟩:=Ay.obj _ hh;walk_at "go";refine ⟨Z0,dq,_,hoq,T.Zh,T.Zy,_,hst_,Z0,dq,_,hoq,T.Zh,T.Zt,_,hpl_,p,rfl,n,rfl,ts,hsto.same sm0,nd,ys,ha,hlen,hin,hrm,hn1,hn2,fun H1 sm1=>?_⟩;have hh1:=Sr sm1 hh;have ha1:=sm1.seq ha;obtain ⟨dq1,fs1,hoq1,hst1,hpl1,o2⟩:=Ay.obj _ hh1;clear hoq hst_ hpl_;rename_i rest hrest;subst hrest;walk_at "go";refine ⟨Z0,dq1,_,hoq1,T.Zh,T.Zy,_,hst1,Z0,dq1,_,hoq1,T.Zh,T.Zt,_,hpl1,fun sh dx hsh hdx hne=>⟨dx,p,rfl,n,rfl,A3,hn1,hn2,fun H2 d sb hdn hs2=>?_⟩⟩;have sm2:=V9 hsh hdx sb;have hd0:=Va hdn;have hd1:H0 d=none:=Bd (sm0.trans sm1) hd0;have nsh:sh∉M:=fun h=>Ay.live _ hh1 _ h hsh;have ndm:d∉M:=fun h=>Ay.live _ hh1 _ h hd0
 have hr2:Ds (T2 Z0) K Z2 Z3 H0 H2 q' p sh d M n ts [] s0:=⟨Sr sm2 hh1,hs2,hsto,(sm0.trans sm1).trans sm2,hm0,hd1,nsh,ndm,OkL.nil⟩
 have ha2:=sm2.seq ha1;clear hdn sb hdx hsh hne hh1 hoq1 hs2 hst1 hpl1;rename_i rest hrest;subst hrest;walk_at "go";refine ⟨⟨_,ha2⟩,?_⟩
 have kpM:∀{H':Hp},Kp (d::M) H2 H'→Kp M H1 H':=fun {H'} k b o nb e=>k b o (fun hm=>by
  rcases Fy.mp hm with e1 | e1
  · rw [e1,hd0]at e;cases e
  · exact nb e1) (sm2 _ _ e)
 refine Lk ys.length fun b D hD=>⟨fun i zs H'=>∃(as gs:List Addr) (ls':Ly),zs=as.map V.ref∧as.length=i∧gs.length=i∧i≤ys.length∧H' D=some (.lst zs)∧Kp (d::M) H2 H'∧lyN ls'=(gst (T2 Z0) (rm ts) n s0 ys i).2∧Ds (T2 Z0) K Z2 Z3 H0 H' q' p sh d M n ts ls' (gst (T2 Z0) (rm ts) n s0 ys i).1∧gs.Nodup∧∀(j:Nat) a g,as[j]?=some a→gs[j]?=some g→a∉d::M∧g∉d::M∧a≠D∧g≠D∧H' a=some (.tup [.str (NR.grow (T2 Z0) (rm ts) n s0 ys j).1,.bl (NR.grow (T2 Z0) (rm ts) n s0 ys j).2.1,.ref g])∧H' g=some (.lst ((NR.grow (T2 Z0) (rm ts) n s0 ys j).2.2.map V.str))∧H1 a=none∧H1 g=none,⟨[],[],[],rfl,rfl,rfl,FB _,A3,Kp.of (A7.new hD),rfl,hr2.same (A7.new hD),HQ,by simp⟩,?_,?_,?_⟩
 · rintro i zs H' ⟨as,gs,ls',_,_,_,_,h,_⟩
   exact h
 · rintro zs H' ⟨as,gs,ls',rfl,e1,e2,_,hDD,kp,hln,hr3,hnd,hall⟩
   have ha3:=J5p ha1 (kpM kp) ham;refine ⟨⟨_,ha3,by rw [Fa];exact Fh _⟩,?_⟩;have hrl:=Kk (T:=(T2 Z0)) (R:=rm ts) (n:=n) (s0:=s0) (ys:=ys) (i:=ys.length)
   have hra:∀j,j < ys.length→(grows (T2 Z0) (rm ts) n s0 ys ys.length)[j]?=some (NR.grow (T2 Z0) (rm ts) n s0 ys j):=fun j hj=>by unfold grows;rw [Fg,Hd hj];rfl
   refine q D as gs H' ((Kp.of sm1).trans (kpM kp)) hDD (fun i a hi=>?_) ⟨SqL.of hDD,by rw [e1,hrl],by rw [e2,hrl],fun i a g r h1 h2 h3=>?_⟩ hr3.h (Bd sm1 (Bd sm2 hD)) (fun hm=>?_) hnd (fun i a g h1 h2=>?_)
   · have hil:i < as.length:=(Fe.mp hi).1
     obtain ⟨_,_,_,_,k1,_⟩:=hall i a _ hi (Fb (show i < gs.length by omega));exact ⟨_,k1⟩
   · have hil:i < as.length:=(Fe.mp h1).1
     obtain ⟨_,_,_,_,k1,k2,_⟩:=hall i a g h1 h2;rw [hra i (by omega)]at h3;cases h3;exact ⟨SqT.of k1,SqL.of k2⟩
   · obtain ⟨j,hj⟩:=FF.mp hm
     have hjl:j < gs.length:=(Fe.mp hj).1;obtain ⟨_,_,_,h4,_⟩:=hall j _ _ (Fb (show j < as.length by omega)) hj;exact h4 rfl
   · obtain ⟨_,h2',_,_,k1,k2,z1,z2⟩:=hall i a g h1 h2
     exact ⟨Bd sm1 z1,Bd sm1 z2,fun hm=>h2' (Fn _ hm),k1,k2⟩
 · rintro i zs H' hi ⟨as,gs,ls',rfl,e1,e2,_,hDD,kp,hln,hr3,hnd,hall⟩
   have ha3:=J5p ha1 (kpM kp) ham;have hz:=Fb hi;generalize ys[i]'hi=z at hz;refine ⟨⟨_,V.str z,ha3,by rw [Fg,hz];rfl⟩,fun x H3 ⟨e3,ex⟩=>?_⟩;subst e3;have hx:=ex _ ha3;rw [Fg,hz]at hx;cases hx;have hsi:=Nx (R:=rm ts) hi0 hin hrm i (by omega);have hzm:=Fk hz;have e1':=Rp e1;have e1'':=Rp e1.symm;have e2':=Rp e2;have e2'':=Rp e2.symm;clear e1 e2;have hrowi:=Sq (T:=(T2 Z0)) (R:=rm ts) (n:=n) (s0:=s0) hz;have hss:=K0 (T:=(T2 Z0)) (R:=rm ts) (n:=n) (s0:=s0) hz
   have hpair:(gst (T2 Z0) (rm ts) n s0 ys i)=((gst (T2 Z0) (rm ts) n s0 ys i).1,lyN ls')∧True:=⟨by rw [hln],trivial⟩
   walk_at "go";refine ⟨H0,p,d,M,n,ts,ls',_,hr3,by rw [hln];exact hsi.i,nd,htl,hin z hzm,hrm z hzm,FC (J01 i (by omega)) (by omega),fun t g ls2 H4 kp4 ht hg ht4 hg4 hln4 hr4=>?_⟩;rw [← hpair.1]at ht4 hg4 hln4 hr4;have hD3:D∉d::M:=hr2.free hD;have hDD4:=kp4 _ _ hD3 hDD
   have htD:t≠D:=fun e=>by rw [e,hDD]at ht;cases ht
   have hgD:g≠D:=fun e=>by rw [e,hDD]at hg;cases hg
   have ht1:H1 t=none:=Nw (kpM kp) (fun hm=>hr3.free ht (Fn _ hm)) ht;have hg1:H1 g=none:=Nw (kpM kp) (fun hm=>hr3.free hg (Fn _ hm)) hg
   have hndg:(gs++[g]).Nodup:=by
    rw [Hq];refine ⟨hnd,by simp,fun x hx y hy e=>?_⟩;obtain ⟨j,hj⟩:=FF.mp hx;have hjl:j < gs.length:=(Fe.mp hj).1;obtain ⟨_,_,_,_,_,k2,_⟩:=hall j _ _ (Fb (show j < as.length by omega)) hj;rw [e,Fj.mp hy,hg]at k2;cases k2
   refine Il hDD4 (by rw [Fa];omega) hi ⟨as++[t],by rw [Fw];rfl,by rw [Fu];simp only [List.length_cons,List.length_nil];omega,gs++[g],by rw [Fu];simp only [List.length_cons,List.length_nil];omega,hi,A3,J5j (kp.trans kp4) hD,ls2,by rw [hss];exact hln4,?_,hndg,fun j a' g' h1 h2=>?_⟩
   · rw [hss]
     exact hr4.lst (fun b o e nb=>by rw [A2 nb];exact e) hDD4 (fun h=>hD3 (Fn _ h)) (Bd hr2.sm hD)
   · rcases Sm h1 with ⟨l1,c1⟩ | ⟨l1,c1⟩
     · rcases Sm h2 with ⟨l2,c2⟩ | ⟨l2,c2⟩
       · obtain ⟨n1,n2,n3,n4,k1,k2,z1,z2⟩:=hall j a' g' c1 c2
         refine ⟨n1,n2,n3,n4,?_,?_,z1,z2⟩
         · rw [A2 n3];exact kp4 _ _ n1 k1
         · rw [A2 n4];exact kp4 _ _ n2 k2
       · omega
     · rcases Sm h2 with ⟨l2,c2⟩ | ⟨l2,c2⟩
       · omega
       · rw [c1,c2,show j=i by omega,hrowi]
         refine ⟨hr3.free ht,hr3.free hg,htD,hgD,?_,?_,ht1,hg1⟩
         · rw [A2 htD];exact ht4
         · rw [A2 hgD];exact hg4
theorem Z54{f:Addr}{fd:FuncData}(F:Fun K "earlier_asks" "earlier_asks" Z1r f fd)(T:Txt K mg Z2 Z5 Z3 Z6 Z4 Z0 Z1):Ar P w K mg base CX0 1 f fd ["asks"] (Gi K):=by
 have sc:Ab ["asks","last","told","number","name"] ["asks"] (A6 Z1r):=by walk_at "sc"
 refine F.ok sc (fun vs H Q E h=>?_) (fun cdv A outer s H vs Q E hr h=>?_)
 · obtain ⟨_,_,rfl,_⟩:=h;rfl
 obtain ⟨a,ys,rfl,hS,hl,q⟩:=h
 refine ⟨_,(@A1 _ _ _ _ _ (Ak (i:=1) sc.nd rfl (Or.inl rfl) E7)
  (@A1 _ _ _ _ _ (Ak (i:=2) sc.nd rfl (Or.inl rfl) (@Bo _ _ _ _ A4))
  (@A1 _ _ _ _ _ (C5 PassesOwn.never rfl (Nq rfl T.Z04 (A0 (pv 0) A4)) (Gc rfl (Ba (B2 (i:=3) sc.nd rfl (Or.inl rfl)) (Ba (B2 (i:=4) sc.nd rfl (Or.inl rfl)) Dx)))
   (@A1 _ _ _ _ _ (Al (Ct FK FP FO Bk (pv 2) (A0 (J2t (D4 hr) (pv 1) (pv 4) ⟨rfl,rfl,rfl,rfl⟩) A4)))
   (@A5 _ _ _ (K7 (D4 hr) (pv 1) (pv 4) (pv 3) rfl))))
  (@A5 _ _ _ (@Af _ _ _ _ (pv 2)))))),?_⟩
 walk_at "st";have line:=Ae;walk_at "go";intro d hd;walk_at "go";intro p hp;walk_at "go";have ndp:d≠p:=A8 A3 hp;have sm0:A7 H (upd (upd H d (.dK [])) p (.lst [])):=(A7.new hd).trans (A7.new hp)
 have hd0:upd (upd H d (.dK [])) p (.lst []) d=some (.dK []):=by rw [A2 ndp];exact A3
 have hp0:upd (upd H d (.dK [])) p (.lst []) p=some (.lst []):=A3;have hpH:=none_of (A7.new hd) hp;generalize upd (upd H d (.dK [])) p (.lst [])=H1 at sm0 hd0 hp0 ⊢;clear hp;refine ⟨⟨_,sm0.seq hS⟩,?_⟩;rename_i rest hrest
 refine Nr (xs:=ys.map V.str) (fun i σ H'=>∃(kvs:List (Key×V)) (v3 v4:Option V),σ=[some (V.ref a),some (V.ref d),some (V.ref p),v3,v4]∧A7 H H'∧H' d=some (.dK kvs)∧kvs.length≤i∧(∀z,B9 kvs (Sum.inr z)=(Bb ys z i).map fun j=>V.int (j:Int))∧H' p=some (.lst ((List.range i).map (Ky ys))))
  ⟨[],none,none,rfl,sm0,hd0,Fh _,fun z=>rfl,hp0⟩ (fun i σ H' _ ⟨kvs,v3,v4,_,sm,_⟩=>sm.seq hS) ?_ ?_
 · rintro i x σ H' t hx ⟨kvs,v3,v4,rfl,sm,g1,g2,g3,g4⟩ ht
   rw [Fg]at hx
   cases hy:ys[i]? with
   | none=>rw [hy]at hx;cases hx
   | some y=>
    rw [hy]at hx;cases hx
    have hyD:ys.getD i Str.empty=y:=by rw [Fc,hy];rfl
    have hil:i < ys.length:=(Fe.mp hy).1;walk_at "go";refine ⟨_,SqT.of A3,rfl,_,_,rfl,_,_,rfl,rfl,?_⟩;have smt:A7 H' (upd H' t (.tup [.int i,.str y])):=A7.new ht;have sm2:=sm.trans smt;have f1:=smt _ _ g1;have f4:=smt _ _ g4;generalize upd H' t (.tup [.int i,.str y])=H2 at sm2 f1 f4 ⊢;clear smt ht g1 g4 sm;walk_at "go";refine ⟨.inl ⟨rfl,_,SqL.of f4⟩,.inl ⟨kvs,.inl f1⟩,_,D0.k (k:=Sum.inr y) f1,?_⟩;refine ⟨p,_,_,rfl,rfl,f4,by rw [Fa,Fv];omega,?_⟩;rw [g3 y,← hyD,J7a];walk_at "go"
    have f1':upd H2 p (.lst ((List.range i).map (Ky ys)++[Ky ys i])) d=some (.dK kvs):=by rw [A2 ndp];exact f1
    refine ⟨_,Oa.k (k:=Sum.inr (ys.getD i Str.empty)) f1' (by omega),G6 (G6 sm2 hpH) hd,_,A3,?_,J4l g3,?_⟩
    · have:=Cu kvs (Sum.inr (ys.getD i Str.empty):Key) (V.int (i:Int));omega
    · rw [A2 ndp.symm,A3,Hn,Fw];rfl
 · rintro σ H' ⟨kvs,v3,v4,rfl,sm,g1,g2,g3,g4⟩
   rw [Fa]at g4;walk_at "go";exact q p _ hpH sm g4
theorem Z6b{f:Addr}{fd:FuncData}(F:Fun K "__init__" "Sums.__init__" Z39 f fd)(T:Txt K mg Z2 Z5 Z3 Z6 Z4 Z0 Z1)(Zd:Def P w K mg base CX0 2 "is_within" ["thing","least","most"] (Cw K)):Ar P w K mg base CX0 3 f fd ["self","many"] (Ke Z5):=by
 have sc:Ab ["self","many"] ["self","many"] (A6 Z39):=by walk_at "sc"
 refine F.ok sc (fun vs H Q E h=>?_) (fun cdv A outer s H vs Q E hr h=>?_)
 · obtain ⟨_,_,_,rfl,_⟩:=h;rfl
 obtain ⟨p,dx,n,rfl,hp,hn,q⟩:=h
 refine ⟨_,(@A1 _ _ _ _ _ (B0 (Br (Bm (Ad Zd hr rfl Ac (A0 (pv 1) (A0 A9 (A0 (Dg rfl T.Z10) A4))))))
  (@A5 _ _ _ B3)
  Ah)
  (@A5 _ _ _ (C8 (pv 0) (E8 "place" [] rfl rfl (Cs rfl T.Z09 (A0 (pv 1) A4)) (fun b=>A9)) rfl))),?_⟩
 walk_at "st";have line:=Ae;walk_at "go";rw [if_neg (by rw [Iq (by omega) (by omega)];decide)];refine ⟨rfl,?_⟩;walk_at "go";refine Oe (fun _=>V.int 0) (by omega) (fun b i H' Q' hi sm q'=>?_) fun D hD=>?_
 · walk_at "go"
   exact q'
 · have npd:p≠D:=A8 hp hD
   walk_at "go";refine ⟨Z5,dx,[],by rw [A2 npd];exact hp,T.Z0v,T.Zm,by decide,?_⟩;refine q D _ hD (fun b o e nb=>?_) ⟨⟨dx,A3⟩,?_⟩
   · rw [A2 nb,A2 (A8 e hD)];exact e
   · rw [A2 npd.symm,A3,List.map_const',Fv,List.map_replicate]
theorem Z6j{f:Addr}{fd:FuncData}(F:Fun K "add" "Sums.add" Z3q f fd)(T:Txt K mg Z2 Z5 Z3 Z6 Z4 Z0 Z1)(Zd:Def P w K mg base CX0 2 "is_within" ["thing","least","most"] (Cw K)):Ar P w K mg base CX0 3 f fd ["self","at","by"] (Lp Z5):=by
 have sc:Ab ["self","at","by"] ["self","at","by"] (A6 Z3q):=by walk_at "sc"
 refine F.ok sc (fun vs H Q E h=>?_) (fun cdv A outer s H vs Q E hr h=>?_)
 · obtain ⟨_,_,_,_,_,rfl,_⟩:=h;rfl
 obtain ⟨p,l,k,b,is,rfl,hs,hl,hk,q⟩:=h
 refine ⟨_,(@A1 _ _ _ _ _ (B0 (Br (Bm (Ad Zd hr rfl Ac (A0 (pv 1) (A0 A9 (A0 (Aq L1 (Ag Ai rfl T.Zg FE (A0 (Ao (pv 0) rfl) A4)) A9) A4))))))
  (@A5 _ _ _ B3)
  Ah)
  (@A5 _ _ _ (X0 (Ao (pv 0) rfl) (pv 1) Uh (pv 2) Vn Tb))),?_⟩
 walk_at "st";have line:=Ae;obtain ⟨⟨dx,ho⟩,hL⟩:=hs;walk_at "go";refine ⟨Z5,dx,_,ho,T.Z0v,T.Zm,_,Nt,?_⟩;walk_at "go";refine ⟨_,.inl (SqL.of hL),rfl,?_⟩;rw [Fa,if_neg (by rw [Iq (by omega) (by omega)];decide)];walk_at "go";refine ⟨Z5,dx,_,ho,T.Z0v,T.Zm,_,Nt,?_⟩;walk_at "go";refine ⟨_,k,rfl,SqL.of hL,_,J34 hk,_,rfl,_,hL,k,J72 (by rw [Fa];exact hk),?_⟩;rw [map_set];exact q
theorem Z6c{f:Addr}{fd:FuncData}(F:Fun K "upto" "Sums.upto" Z3a f fd)(T:Txt K mg Z2 Z5 Z3 Z6 Z4 Z0 Z1)(Zd:Def P w K mg base CX0 2 "is_within" ["thing","least","most"] (Cw K)):Ar P w K mg base CX0 3 f fd ["self","at"] (Kf Z5):=by
 have sc:Ab ["self","at"] ["self","at"] (A6 Z3a):=by walk_at "sc"
 refine F.ok sc (fun vs H Q E h=>?_) (fun cdv A outer s H vs Q E hr h=>?_)
 · obtain ⟨_,_,_,_,rfl,_⟩:=h;rfl
 obtain ⟨p,l,k,is,rfl,hs,hl,hk,q⟩:=h
 refine ⟨_,(@A1 _ _ _ _ _ (B0 (Br (Bm (Ad Zd hr rfl Ac (A0 (pv 1) (A0 A9 (A0 (Ag Ai rfl T.Zg FE (A0 (Ao (pv 0) rfl) A4)) A4))))))
  (@A5 _ _ _ B3)
  Ah)
  (@A5 _ _ _ (@Af _ _ _ _ (Ag (G5 rfl) rfl T.Z1v (by first | rfl | decide+kernel) (A0 (E6 Lf (Ao (pv 0) rfl) Le (Dy (pv 1))) A4))))),?_⟩
 walk_at "st";have line:=Ae;obtain ⟨⟨dx,ho⟩,hL⟩:=hs;walk_at "go";refine ⟨Z5,dx,_,ho,T.Z0v,T.Zm,_,Nt,?_⟩;walk_at "go";refine ⟨_,.inl (SqL.of hL),rfl,?_⟩;rw [Fa,if_neg (by rw [Iq (by omega) (by omega)];decide)];walk_at "go";refine ⟨Z5,dx,_,ho,T.Z0v,T.Zm,_,Nt,?_⟩;walk_at "go";refine ⟨_,SqL.of hL,fun p' hp=>?_⟩;rw [J48 is k hk];exact ⟨is.take k,SqL.of A3,q _ (A7.new hp)⟩
theorem Z6d{f:Addr}{fd:FuncData}(F:Fun K "depths_of" "depths_of" Z3b f fd)(T:Txt K mg Z2 Z5 Z3 Z6 Z4 Z0 Z1)(Zk:Def P w K mg base CX0 4 "check_asks" ["stock","asks","places"] (N41.De K Z2))(Z1u:Def P w K mg base CX0 1 "earlier_asks" ["asks"] (Gi K))(Z8:Be P w K mg base CX0 2 Z2 "room_of" ["self","name"] (C3 K Z2))(Z3h:Tx P w K mg base CX0 3 "Sums" Z5 ["self","many"] (Ke Z5))(Z2o:Be P w K mg base CX0 3 Z5 "add" ["self","at","by"] (Lp Z5))(Z1w:Be P w K mg base CX0 3 Z5 "upto" ["self","at"] (Kf Z5)):Ar P w K mg base CX0 5 f fd ["stock","asks"] (Eo K Z2):=by
 have sc:Ab ["stock","asks","rooms","depths","number","earlier","room"] ["stock","asks"] (A6 Z3b):=by walk_at "sc"
 refine F.ok sc (fun vs H Q E h=>?_) (fun cdv A outer s H vs Q E hr h=>?_)
 · obtain ⟨_,_,_,_,rfl,_⟩:=h;rfl
 obtain ⟨p,a,ts,ys,rfl,hs,nd,hS,hl,hin,hw,q⟩:=h;replace Zk:=Zk.wk93 fun _ _ _ _=>J8f
 refine ⟨_,(@A1 _ _ _ _ _ (Al (Ad Zk hr rfl Ac (A0 (pv 0) (A0 (pv 1) (A0 (Dg rfl T.Z0a) A4)))))
  (@A1 _ _ _ _ _ (Ak (i:=2) sc.nd rfl (Or.inl rfl) (Eb Z3h hr rfl (As Ac) (A0 (Ag Ai rfl T.Zg FE (A0 (pv 1) A4)) A4)))
  (@A1 _ _ _ _ _ (Ak (i:=3) sc.nd rfl (Or.inl rfl) (@Bo _ _ _ _ A4))
  (@A1 _ _ _ _ _ (C5 PassesOwn.never rfl (Nq rfl T.Z04 (A0 (Ad Z1u hr rfl Ac (A0 (pv 1) A4)) A4)) (Gc rfl (Ba (B2 (i:=4) sc.nd rfl (Or.inl rfl)) (Ba (B2 (i:=5) sc.nd rfl (Or.inl rfl)) Dx)))
   (@A1 _ _ _ _ _ (Ak (i:=6) sc.nd rfl (Or.inl rfl) (Aj Z8 T.Zb hr (As Ac) (pv 0) (A0 (@Bq _ _ _ _ _ _ _ Cb (pv 1) (pv 4) (fun _ _=>rfl)) A4)))
   (@A1 _ _ _ _ _ (B0 (Am Ja4 (pv 5) Qk (nomark _))
    (@A5 _ _ _ (Al (Ct FK FP FO Bk (pv 3) (A0 Qk A4))))
    (@A1 _ _ _ _ _ (Al (Ct FK FP FO Bk (pv 3) (A0 (Aq L1 (Aj Z1w T.Z0v hr (As Ac) (pv 2) (A0 (pv 4) A4)) (Aj Z1w T.Z0v hr (As Ac) (pv 2) (A0 (pv 5) A4))) A4)))
    (@A5 _ _ _ (Al (Aj Z2o T.Z0v hr (As Ac) (pv 2) (A0 (pv 5) (A0 (Aq L1 A9 (pv 6)) A4)))))))
   (@A5 _ _ _ (Al (Aj Z2o T.Z0v hr (As Ac) (pv 2) (A0 (pv 4) (A0 (pv 6) A4))))))))
  (@A5 _ _ _ (@Af _ _ _ _ (pv 3))))))),?_⟩
 walk_at "st";have line:=Ae;walk_at "go";refine ⟨ts,hs,nd,ys,hS,hl,hin,hw,by decide,by decide,fun H1 sm1=>?_⟩;have hS1:=sm1.seq hS;have hs1:=Aa.same sm1 hs;clear hS hs;walk_at "go";intro s dx hsn hdx nds;refine ⟨dx,ys.length,by rw [Fa],A3,hl,fun l H2 hln sb2 sa2=>?_⟩;have sm2:A7 H1 H2:=J0v hsn hdx sb2;have hS2:=sm2.seq hS1;have hs2:=Aa.same sm2 hs1;have hlH:H1 l=none:=J0y hsn hdx hln;have offl:=J47 hS1 hlH;have hlH0:=none_of sm1 hlH;have sm02:=sm1.trans sm2;clear sb2 hln hdx nds hsn sm2 hS1 hs1 sm1;walk_at "go";intro D hD;have smD:A7 H2 (upd H2 D (.lst [])):=A7.new hD;have sm03:=sm02.trans smD;have hS3:=smD.seq hS2;have hs3:=Aa.same smD hs2;have sa3:=sa2.same smD;have hD3:upd H2 D (.lst []) D=some (.lst []):=A3;have nlD:l≠D:=A8 sa2.l hD;have offD:=J47 hS2 hD;have hDH:=none_of sm02 hD;generalize upd H2 D (.lst [])=H3 at smD sm03 hS3 hs3 sa3 hD3 ⊢;clear smD hS2 hs2 sa2 hD sm02
 walk_at "go";refine ⟨ys,hS3,hl,fun e H4 hen sm4 he4=>?_⟩;have hS4:=sm4.seq hS3;have hs4:=Aa.same sm4 hs3;have sa4:=sa3.same sm4;have hD4:=sm4 _ _ hD3;have nDe:D≠e:=A8 hD3 hen;have nle:l≠e:=A8 sa3.l hen;have sm04:=sm03.trans sm4;clear sm4 sm03 hD3 sa3 hs3 hS3 hen;rw [← J17 (R:=rm ts)]at sa4;refine ⟨⟨_,SqL.of he4⟩,?_⟩;rename_i rest hrest
 refine Nr (xs:=(List.range ys.length).map (Ky ys)) (fun i σ H'=>∃v4 v5 v6,σ=[some (V.ref p),some (V.ref a),some (V.ref s),some (V.ref D),v4,v5,v6]∧A7 H H'∧SqL K H' a (ys.map V.str)∧Aa K Z2 H' p ts∧D7 Z5 H' s l (nums (rm ts) ys i)∧H' D=some (.lst ((List.range i).map fun j=>Ef (dep (rm ts) ys j)))∧H' e=some (.lst ((List.range ys.length).map (Ky ys))))
  ⟨none,none,none,rfl,sm04,hS4,hs4,sa4,hD4,he4⟩ (fun i σ H' _ ⟨v4,v5,v6,_,_,_,_,_,_,h⟩=>SqL.of h) ?_ ?_
 · clear hS4 hs4 sa4 hD4 he4 sm04
   rintro i x σ H' t hx ⟨v4,v5,v6,rfl,sm,hS5,hs5,sa5,hD5,he5⟩ ht
   have hi:i < ys.length:=by
    have:=(Fe.mp hx).1;rw [Fa,Fv]at this;exact this
   rw [Fg,Hd hi]at hx;cases hx;have hyD:ys.getD i Str.empty∈ts.map (·.1):=hin _ (by rw [Fc,Fb hi];exact FU hi)
   have hg:atI (ys.map V.str) (i:Int)=some (V.str (ys.getD i Str.empty)):=by
    refine Qq ?_;rw [Fg,Fc,Fb hi];rfl
   walk_at "go";refine ⟨_,SqT.of A3,rfl,_,_,rfl,_,_,rfl,rfl,?_⟩;have smt:A7 H' (upd H' t (.tup [.int i,Ky ys i])):=A7.new ht;have sm2:=sm.trans smt;have hS6:=smt.seq hS5;have hs6:=Aa.same smt hs5;have sa6:=sa5.same smt;have hD6:=smt _ _ hD5;have he6:=smt _ _ he5;generalize upd H' t (.tup [.int i,Ky ys i])=H6 at sm2 hS6 hs6 sa6 hD6 he6 ⊢;clear smt sm hS5 hs5 sa5 hD5 he5 ht;obtain ⟨dx',d',kvs',g1,g2,_⟩:=Aa.has hs6;walk_at "go";refine ⟨dx',flds d',g1,by rfl,?_⟩;refine Cq hS6 hg ⟨ts,_,rfl,hs6,nd,hyD,?_⟩;obtain ⟨⟨dxs,hos⟩,hL⟩:=id sa6;have hnl:=Ci (R:=rm ts) (ys:=ys) (n:=i)
   cases he:ear ys i with
   | none=>
    have e1:Ky ys i= .non:=by unfold Ky;rw [he];rfl
    have e2:dep (rm ts) ys i=none:=by unfold dep;rw [he];rfl
    rw [e1];walk_at "go";refine ⟨.inl ⟨rfl,_,SqL.of hD6⟩,D,_,_,rfl,rfl,hD6,by rw [Fa,Fv];omega,?_⟩;have sa7:=sa6.off (ys:=((List.range i).map fun j=>Ef (dep (rm ts) ys j))++[V.non]) hD6 nlD;have hS7:=offD _ (.lst (((List.range i).map fun j=>Ef (dep (rm ts) ys j))++[V.non])) hS6;have hs7:=Aa.offL (o:= .lst (((List.range i).map fun j=>Ef (dep (rm ts) ys j))++[V.non])) hD6 hs6;have sm7:=G6 (o:= .lst (((List.range i).map fun j=>Ef (dep (rm ts) ys j))++[V.non])) sm2 hDH
    have hD7:upd H6 D (.lst (((List.range i).map fun j=>Ef (dep (rm ts) ys j))++[V.non])) D=some (.lst ((List.range (i+1)).map fun j=>Ef (dep (rm ts) ys j))):=by rw [A3,Hn,Fw,List.map_cons,List.map_nil,e2];rfl
    have he7:upd H6 D (.lst (((List.range i).map fun j=>Ef (dep (rm ts) ys j))++[V.non])) e=some (.lst ((List.range ys.length).map (Ky ys))):=by rw [A2 nDe.symm];exact he6
    generalize upd H6 D (.lst (((List.range i).map fun j=>Ef (dep (rm ts) ys j))++[V.non]))=H7 at sa7 hS7 hs7 sm7 hD7 he7 ⊢;clear sa6 hS6 hs6 sm2 hD6 he6 hos hL g1 g2;obtain ⟨⟨dx7,ho7⟩,hL7⟩:=id sa7;walk_at "go";refine ⟨dx7,_,ho7,by rfl,l,i,rfl,_,sa7,by omega,by omega,?_⟩;rw [W9 hi he];exact ⟨G6 sm7 hlH0,offl _ _ hS7,Aa.offL hL7 hs7,sa7.put,by rw [A2 nlD.symm];exact hD7,by rw [A2 nle.symm];exact he7⟩
   | some b=>
    have e1:Ky ys i= .int b:=by unfold Ky;rw [he];rfl
    have hb:=(Dh he).1;obtain ⟨e3,e2⟩:=J4m (R:=rm ts) hi he;rw [e1];walk_at "go";refine ⟨.inl ⟨rfl,_,SqL.of hD6⟩,dxs,_,hos,by rfl,l,i,rfl,_,sa6,by omega,by omega,fun H7 sm7=>?_⟩;refine ⟨dxs,_,sm7 _ _ hos,by rfl,l,b,rfl,_,sa6.same sm7,by omega,by omega,fun H8 sm8=>?_⟩;rw [e3];have sm78:=sm7.trans sm8;have sa8:=sa6.same sm78;have hS8:=sm78.seq hS6;have hs8:=Aa.same sm78 hs6;have hD8:=sm78 _ _ hD6;have he8:=sm78 _ _ he6;have sH8:=sm2.trans sm78;clear sa6 hS6 hs6 sm2 hD6 he6 hos hL g1 g2 sm7 sm8 sm78 e3;refine ⟨D,_,_,rfl,rfl,hD8,by rw [Fa,Fv];omega,?_⟩;have sa9:=sa8.off (ys:=((List.range i).map fun j=>Ef (dep (rm ts) ys j))++[V.int (tl (W (rm ts) ys i) b i)]) hD8 nlD;have hS9:=offD _ (.lst (((List.range i).map fun j=>Ef (dep (rm ts) ys j))++[V.int (tl (W (rm ts) ys i) b i)])) hS8;have hs9:=Aa.offL (o:= .lst (((List.range i).map fun j=>Ef (dep (rm ts) ys j))++[V.int (tl (W (rm ts) ys i) b i)])) hD8 hs8
    have sm9:=G6 (o:= .lst (((List.range i).map fun j=>Ef (dep (rm ts) ys j))++[V.int (tl (W (rm ts) ys i) b i)])) sH8 hDH
    have hD9:upd H8 D (.lst (((List.range i).map fun j=>Ef (dep (rm ts) ys j))++[V.int (tl (W (rm ts) ys i) b i)])) D=some (.lst ((List.range (i+1)).map fun j=>Ef (dep (rm ts) ys j))):=by rw [A3,Hn,Fw,List.map_cons,List.map_nil,e2];rfl
    have he9:upd H8 D (.lst (((List.range i).map fun j=>Ef (dep (rm ts) ys j))++[V.int (tl (W (rm ts) ys i) b i)])) e=some (.lst ((List.range ys.length).map (Ky ys))):=by rw [A2 nDe.symm];exact he8
    generalize upd H8 D (.lst (((List.range i).map fun j=>Ef (dep (rm ts) ys j))++[V.int (tl (W (rm ts) ys i) b i)]))=H9 at sa9 hS9 hs9 sm9 hD9 he9 ⊢;clear sa8 hS8 hs8 sH8 hD8 he8 e2;obtain ⟨⟨dx9,ho9⟩,hL9⟩:=id sa9;walk_at "go";refine ⟨dx9,_,ho9,by rfl,l,b,rfl,_,sa9,by omega,by omega,?_⟩;have sa10:D7 Z5 (upd H9 l (.lst (((nums (rm ts) ys i).set b ((nums (rm ts) ys i).getD b 0+(0 - rm ts (ys.getD i Str.empty)))).map V.int))) s l ((nums (rm ts) ys i).set b ((nums (rm ts) ys i).getD b 0+(0 - rm ts (ys.getD i Str.empty)))):=sa9.put;obtain ⟨⟨dx10,ho10⟩,hL10⟩:=id sa10;walk_at "go";refine ⟨dx10,_,ho10,by rfl,l,i,rfl,_,sa10,by rw [Ho];omega,by rw [Ho];omega,?_⟩;rw [Wa hi he,Qi];exact ⟨G6 sm9 hlH0,offl _ _ hS9,Aa.offL hL9 hs9,sa9.put,by rw [A2 nlD.symm];exact hD9,by rw [A2 nle.symm];exact he9⟩
 · rintro σ H' ⟨v4,v5,v6,rfl,sm,hS5,hs5,sa5,hD5,he5⟩
   rw [Fa,Fv]at hD5;walk_at "go";exact q D _ hDH sm hD5
theorem Z6k{f:Addr}{fd:FuncData}(F:Fun K "is_there" "is_there" Z3r f fd)(T:Txt K mg Z2 Z5 Z3 Z6 Z4 Z0 Z1):Ar P w K mg base CX0 1 f fd ["depth","places"] (Gk):=by
 have sc:Ab ["depth","places"] ["depth","places"] (A6 Z3r):=by walk_at "sc"
 refine F.ok sc (fun vs H Q E h=>?_) (fun cdv A outer s H vs Q E hr h=>?_)
 · obtain ⟨_,_,rfl,_⟩:=h;rfl
 obtain ⟨o,p,rfl,q⟩:=h;refine ⟨_,(@A5 _ _ _ (@Af _ _ _ _ (Ie (K5 X5 (pv 0) Qk (nomark _)) (L0 (K5 X4 (pv 0) (pv 1) (nomark _)))))),?_⟩;walk_at "st";have line:=Ae;walk_at "go"
 cases o with
 | none=>rw [if_neg (fun h=>h rfl)];exact q
 | some d=>rw [if_pos (by intro h;cases h)];exact ⟨d,rfl,q⟩
theorem Z6e{f:Addr}{fd:FuncData}(F:Fun K "step_with" "step_with" Z3c f fd)(T:Txt K mg Z2 Z5 Z3 Z6 Z4 Z0 Z1)(Z3w:Def P w K mg base CX0 1 "is_there" ["depth","places"] (Gk))(Za:Be P w K mg base CX0 2 Z2 "cost_of" ["self","name"] (Cz K Z2)):Ar P w K mg base CX0 4 f fd ["stock","asks","depths","places"] (Kh K Z2):=by
 have sc:Ab ["stock","asks","depths","places","costs"] ["stock","asks","depths","places"] (A6 Z3c):=by walk_at "sc"
 refine F.ok sc (fun vs H Q E h=>?_) (fun cdv A outer s H vs Q E hr h=>?_)
 · obtain ⟨_,_,_,_,_,_,rfl,_⟩:=h;rfl
 obtain ⟨st,a,d,P,ts,ys,rfl,hs,nd,hS,hl,hin,hD,q⟩:=h
 refine ⟨_,(@A1 _ _ _ _ _ (J11 (i:=4) "name" "depth" [0,3] sc.nd rfl rfl rfl rfl (W6 rfl T.Z3o (A0 (pv 1) (A0 (pv 2) A4))) (fun b=>(Br (Bm (Ad Z3w hr rfl Ac (A0 (pv 1) (A0 (pv 3) A4)))))) (fun b=>(Aj Za T.Zb hr (As Ac) (pv 2) (A0 (pv 0) A4))))
  (@A5 _ _ _ (@Af _ _ _ _ (Ih (A0 (pv 3) (A0 (Ag Ai rfl T.Zg FE (A0 (pv 4) A4)) (A0 (Ag (G5 rfl) rfl T.Z1v (by first | rfl | decide+kernel) (A0 (pv 4) A4)) A4))))))),?_⟩
 walk_at "st";have line:=Ae;walk_at "go";refine ⟨⟨_,hS⟩,⟨_,hD⟩,?_⟩;rename_i rest hrest;refine J76 (by rw [Fa];unfold Cy;rw [Fa,Fv]) (fun i=>!thr (dep (rm ts) ys i) P) (fun i=>V.int (cst ts (yat ys i))) hS hD (by rw [Fa];omega) ?_ ?_ ?_
 · rintro b i x z H' QT hx hz sm q'
   have hi:i < ys.length:=by have:=(Fe.mp hx).1;rw [Fa]at this;exact this
   unfold Cy at hz;rw [Fg,Hd hi]at hz;cases hz;walk_at "go";exact ⟨_,rfl,q' _ (A7.refl _)⟩
 · rintro b i x z H' Q' hx hz hp sm q'
   have hi:i < ys.length:=by have:=(Fe.mp hx).1;rw [Fa]at this;exact this
   have ey:yat ys i=ys[i]:=by unfold yat;rw [Fc,Fb hi];rfl
   rw [Fg,Fb hi]at hx;cases hx;have hs':=Aa.same sm hs;obtain ⟨dx,d',kvs,g1,g2,_⟩:=Aa.has hs';walk_at "go";refine ⟨dx,flds d',g1,by rfl,ts,hs',nd,hin _ (FU hi),?_⟩;have:=q' _ (A7.refl _);rw [ey]at this;exact this
 · intro D H' hDn sm hD'
   subst hrest
   have eD:((List.range (ys.map V.str).length).filter fun i=>!thr (dep (rm ts) ys i) P).map (fun i=>V.int (cst ts (yat ys i)))=((mis (rm ts) ys P ys.length).map fun i=>cst ts (yat ys i)).map V.int:=by rw [Fa,FR];rfl
   rw [eD]at hD';walk_at "go";refine ⟨_,.inl (SqL.of hD'),_,SqL.of hD',by rw [line];decide,fun t ht=>?_⟩;refine q t _ (none_of sm ht) (sm.trans (A7.new ht)) ?_;rw [A3,Fa,Fa];rfl
theorem Z6l{f:Addr}{fd:FuncData}(F:Fun K "steps_of" "steps_of" Z3s f fd)(T:Txt K mg Z2 Z5 Z3 Z6 Z4 Z0 Z1)(Z3i:Def P w K mg base CX0 5 "depths_of" ["stock","asks"] (Eo K Z2))(Z8:Be P w K mg base CX0 2 Z2 "room_of" ["self","name"] (C3 K Z2))(Z3j:Def P w K mg base CX0 4 "step_with" ["stock","asks","depths","places"] (Kh K Z2)):Ar P w K mg base CX0 6 f fd ["stock","asks"] (Gm K Z2):=by
 have sc:Ab ["stock","asks","depths","widest","deeper"] ["stock","asks"] (A6 Z3s):=by walk_at "sc"
 refine F.ok sc (fun vs H Q E h=>?_) (fun cdv A outer s H vs Q E hr h=>?_)
 · obtain ⟨_,_,_,_,rfl,_⟩:=h;rfl
 obtain ⟨st,a,ts,ys,rfl,hs,nd,hS,hl,hin,hw,q⟩:=h
 refine ⟨_,(@A1 _ _ _ _ _ (Ak (i:=2) sc.nd rfl (Or.inr rfl) (Ad Z3i hr rfl Ac (A0 (pv 0) (A0 (pv 1) A4))))
  (@A1 _ _ _ _ _ (B0 (Am (W1 hr) (pv 2) (@Bo _ _ _ _ A4) (nomark _))
   (@A5 _ _ _ (@Af _ _ _ _ (@Bo _ _ _ _ A4)))
   Ah)
  (@A1 _ _ _ _ _ (Ak (i:=3) sc.nd rfl (Or.inr rfl) (Ag (J0z rfl) rfl T.Z4y (by first | rfl | decide+kernel) (A0 (E8 "name" [0] rfl rfl (C4 (pv 1)) (fun b=>(Aj Z8 T.Zb hr (As Ac) (pv 1) (A0 (pv 0) A4)))) A4)))
  (@A1 _ _ _ _ _ (Ul (i:=4) "depth" [3] sc.nd rfl rfl rfl rfl (C4 (pv 2)) (fun b=>(PW.pt (Vl (Am X5 (pv 0) Qk (nomark _)) (Qm (Am Ig (pv 0) (pv 1) (nomark _)))))) (fun b=>(pv 0)))
  (@A5 _ _ _ (@Af _ _ _ _ (E8 "places" [0,1,2] rfl rfl (C4 (Wh rfl rfl T.Z14 rfl T.Z4x (A0 (Aq Jac (@Bo _ _ _ _ (A0 (pv 3) A4)) (pv 4)) A4))) (fun b=>(Ad Z3j hr rfl Ac (A0 (pv 1) (A0 (pv 2) (A0 (pv 3) (A0 (pv 0) A4))))))))))))),?_⟩
 walk_at "st";have line:=Ae;walk_at "go";refine ⟨ts,hs,nd,ys,hS,by omega,hin,hw,fun d H1 hd sm1 hD1=>?_⟩;have hS1:=sm1.seq hS;have hs1:=Aa.same sm1 hs;walk_at "go";intro p hp;have smp:A7 H1 (upd H1 p (.lst [])):=A7.new hp;have hS2:=smp.seq hS1;have hs2:=Aa.same smp hs1;have hD2:=smp _ _ hD1;have sm2:=sm1.trans smp;have hp2:upd H1 p (.lst []) p=some (.lst []):=A3;generalize upd H1 p (.lst [])=H2 at smp hS2 hs2 hD2 sm2 hp2 ⊢;clear hS1 hs1 smp sm1 hp hd hD1 hS hs;refine ⟨_,J7n (SqL.of hD2) J1h (SqL.of hp2),?_⟩
 by_cases hy:ys=[]
 · subst hy
   rw [if_pos (by rfl)];exact ⟨FB _,fun r hr=>q r [] [] _ (none_of sm2 hr) (sm2.trans (A7.new hr)) A3 ⟨rfl,fun j b z h=>by cases h⟩ ⟨fun _=>rfl,fun h=>absurd rfl h⟩ (FB _)⟩
 · rw [if_neg (by
    intro h;have h:=HS h;have hl':=congrArg List.length h;unfold Cy at hl';rw [Fa,Fv]at hl'
    exact hy (Ha.mp hl'))]
   walk_at "go";refine ⟨⟨_,hS2⟩,?_⟩;refine Ut (fun i=>V.int (rm ts (yat ys i))) hS2 (by rw [Fa];omega) ?_ ?_
   · rintro b i x H' Q' hx sm q'
     have hi:i < ys.length:=by have:=(Fe.mp hx).1;rw [Fa]at this;exact this
     have ey:yat ys i=ys[i]:=by unfold yat;rw [Fc,Fb hi];rfl
     rw [Fg,Fb hi]at hx;cases hx;have hs':=Aa.same sm hs2;obtain ⟨dx,d',kvs,g1,g2,_⟩:=Aa.has hs';walk_at "go";refine ⟨dx,flds d',g1,by rfl,ts,hs',nd,hin _ (FU hi),?_⟩;rw [ey]at q';exact q'
   · intro D hDn
     have smD:A7 H2 (upd H2 D (.lst ((List.range (ys.map V.str).length).map fun i=>V.int (rm ts (yat ys i))))):=A7.new hDn
     have eD:(List.range (ys.map V.str).length).map (fun i=>V.int (rm ts (yat ys i)))=(ys.map (rm ts)).map V.int:=by
      rw [Fa];apply RX;intro i;rw [Fg,Fg,Fg]
      by_cases hi:i < ys.length
      · rw [Hd hi,Fb hi]
        show some (V.int (rm ts (yat ys i)))=_;unfold yat;rw [Fc,Fb hi];rfl
      · rw [FN (by rw [Fv];omega),FN (by omega)];rfl
     rw [eD]at smD ⊢;refine ⟨D,rfl,_,SqL.of A3,by intro h;exact hy (List.map_eq_nil_iff.mp h),fun w hwm hwx=>?_⟩;have hS3:=smD.seq hS2;have hs3:=Aa.same smD hs2;have hD3:=smD _ _ hD2;have sm3:=sm2.trans smD;generalize upd H2 D (.lst ((ys.map (rm ts)).map V.int))=H3 at smD hS3 hs3 hD3 sm3 ⊢;clear hS2 hs2 hD2 sm2 smD hDn hp2 eD;walk_at "go";refine ⟨⟨_,SqL.of hD3⟩,?_⟩
     have hdl:(Cy (rm ts) ys).length=ys.length:=by unfold Cy;rw [Fa,Fv]
     have hdx:∀(i:Nat) x,(Cy (rm ts) ys)[i]?=some x→i < ys.length∧x=Ef (dep (rm ts) ys i):=fun i x hx=>by
      have hi:i < ys.length:=by have:=(Fe.mp hx).1;omega
      unfold Cy at hx;rw [Fg,Hd hi]at hx;cases hx;exact ⟨hi,rfl⟩
     refine Qc (fun i=>match dep (rm ts) ys i with | none=>false | some v=>decide (w < v)) (SqL.of hD3) (by omega) ?_ ?_ ?_
     · rintro b i x H' QT hx sm q'
       obtain ⟨hi,rfl⟩:=hdx i x hx;walk_at "go"
       cases e:dep (rm ts) ys i with
       | none=>
        rw [if_neg (fun h=>h rfl)];have:=q' _ (A7.refl _);rw [e]at this;exact this
       | some v=>
        rw [if_pos (by intro h;cases h)];have:=q' _ (A7.refl _);rw [e]at this;exact ⟨v,rfl,this⟩
     · rintro b i x H' Q' hx hp sm q'
       walk_at "go";exact q' _ (A7.refl _)
     · intro D2 H4 hDn sm4 hD4
       have eD:((List.range (Cy (rm ts) ys).length).filter fun i=>match dep (rm ts) ys i with | none=>false | some v=>decide (w < v)).map (fun i=>(Cy (rm ts) ys).getD i V.non)=(dps (rm ts) ys w).map V.int:=Jb5;rw [eD]at hD4;have hS4:=sm4.seq hS3;have hs4:=Aa.same sm4 hs3;have hd4:=sm4 _ _ hD3;have sm5:=sm3.trans sm4;have hle:=J7o (R:=rm ts) (ys:=ys) (w:=w);walk_at "go";intro r hr;have smr:A7 H4 (upd H4 r (.lst [V.int w])):=A7.new hr;refine ⟨r,D2,[V.int w],(dps (rm ts) ys w).map V.int,rfl,rfl,A3,smr _ _ hD4,by rw [Fa];show 1+_≤_;omega,fun c hc=>?_⟩;have smc:=smr.trans (A7.new (o:= .lst ([V.int w]++(dps (rm ts) ys w).map V.int)) hc);refine ⟨c,rfl,w::dps (rm ts) ys w,SqL.of A3,by rw [List.length_cons];omega,fun g zs hg hzp hzs=>?_⟩;have smg:=smc.trans (A7.new (o:= .lst (zs.map V.int)) hg);have hg5:upd (upd (upd H4 r (.lst [V.int w])) c (.lst ([V.int w]++(dps (rm ts) ys w).map V.int))) g (.lst (zs.map V.int)) g=some (.lst (zs.map V.int)):=A3
       generalize upd (upd (upd H4 r (.lst [V.int w])) c (.lst ([V.int w]++(dps (rm ts) ys w).map V.int))) g (.lst (zs.map V.int))=H5 at smg hg5 ⊢;have hS5:=smg.seq hS4;have hs5:=Aa.same smg hs4;have hd5:=smg _ _ hd4;have sm6:=sm5.trans smg
       have hzl:zs.length≤61:=by
        rw [hzp.length_eq];refine FC (Sf _) ?_;rw [List.length_cons];omega
       have hlt:zs.Pairwise (· < ·):=by
        have hn:zs.Nodup:=hzp.nodup_iff.mpr (V0 _)
        exact (hzs.and hn).imp fun h=>by omega
       refine ⟨⟨_,SqL.of hg5⟩,?_⟩;refine Qb (fun j=>stT (cst ts) (rm ts) ys (zs.getD j 0)) (SqL.of hg5) (by rw [Fa];omega) ?_ ?_
       · rintro b j x H' Q' hx sm q'
         rw [Fg]at hx
         cases hz:zs[j]? with
         | none=>rw [hz]at hx;cases hx
         | some z=>
          rw [hz]at hx;cases hx
          have ez:zs.getD j 0=z:=by rw [Fc,hz];rfl
          rw [ez]at q';walk_at "go";exact ⟨ts,Aa.same sm hs5,nd,ys,sm.seq hS5,by omega,hin,SqL.of (sm _ _ hd5),fun t H6 ht sm6 h6=>q' t H6 sm6 h6⟩
       · intro D3 as H6 hDn6 sm7 hD6 hal hat
         rw [Fa]at hal;refine q D3 as zs H6 (none_of sm6 hDn6) (sm6.trans sm7) hD6 ⟨hal,fun j b z h1 h2=>?_⟩ ⟨fun h=>absurd h hy,fun _=>⟨w,hwm,fun y hy'=>hwx _ (FH.mpr ⟨y,hy',rfl⟩),hlt,fun z=>?_⟩⟩ hzl
         · have:=hat j b h1
           rw [Fc,h2]at this;exact SqT.of this
         · rw [hzp.mem_iff,Jb2,Fy,J7p]
theorem Z6s{f:Addr}{fd:FuncData}(F:Fun K "step_at" "step_at" Z44 f fd)(T:Txt K mg Z2 Z5 Z3 Z6 Z4 Z0 Z1):Ar P w K mg base CX0 1 f fd ["steps","places"] (Lu K):=by
 have sc:Ab ["steps","places","within"] ["steps","places"] (A6 Z44):=by walk_at "sc"
 refine F.ok sc (fun vs H Q E h=>?_) (fun cdv A outer s H vs Q E hr h=>?_)
 · obtain ⟨_,_,_,_,_,_,_,rfl,_⟩:=h;rfl
 obtain ⟨q',as,zs,P,C,R,ys,rfl,hS,hT,hZ,hl,hex,q⟩:=h
 refine ⟨_,(@A1 _ _ _ _ _ (Ul (i:=2) "step" [1] sc.nd rfl rfl rfl rfl (C4 (pv 0)) (fun b=>(Am X4 (@Bq _ _ _ _ _ _ _ Ex (pv 0) A9 (fun _ _=>rfl)) (pv 1) (nomark _))) (fun b=>(pv 0)))
  (@A1 _ _ _ _ _ (B0 (Am (J44 hr) (pv 2) (@Bo _ _ _ _ A4) (nomark _))
   (@A5 _ _ _ B3)
   Ah)
  (@A5 _ _ _ (@Af _ _ _ _ (E6 Ja9 (@Bq _ _ _ _ _ _ _ Cb (pv 2) (J8r J26 A9) (fun _ _=>rfl)) (Dy A9) Le))))),?_⟩
 walk_at "st";have line:=Ae;walk_at "go";refine ⟨⟨_,hS⟩,?_⟩;rename_i rest hrest;have hlen:=hT.1
 have hx:∀(j:Nat) x,(as.map V.ref)[j]?=some x→∃b,x=V.ref b∧as[j]?=some b∧zs[j]?=some (zs.getD j 0)∧SqT K H b (stT C R ys (zs.getD j 0)):=fun j x hx=>by
  rw [Fg]at hx
  cases hb:as[j]? with
  | none=>rw [hb]at hx;cases hx
  | some b=>
   rw [hb]at hx;cases hx
   have hj2:j < zs.length:=by have:=(Fe.mp hb).1;omega
   have e:zs[j]?=some (zs.getD j 0):=by rw [Fc,Fb hj2];rfl
   exact ⟨b,rfl,rfl,e,hT.2 j b _ hb e⟩
 refine Qc (fun j=>decide (zs.getD j 0≤P)) hS (by rw [Fa];omega) ?_ ?_ ?_
 · rintro b j x H' QT hj sm q2
   obtain ⟨c,rfl,h1,h2,h3⟩:=hx j x hj;walk_at "go";exact Ik (sm.tup h3) rfl ⟨_,rfl,q2 _ (A7.refl _)⟩
 · rintro b j x H' Q' hj hp sm q2
   walk_at "go";exact q2 _ (A7.refl _)
 · intro D H1 hDn sm1 hD1
   subst hrest;rw [Fa]at hD1
   have hne:(List.range as.length).filter (fun j=>decide (zs.getD j 0≤P))≠[]:=fun h=>by
    obtain ⟨z,hz1,hz2⟩:=hex;obtain ⟨j,hj⟩:=FF.mp hz1;have hjl:=(Fe.mp hj).1;have hm:j∈(List.range as.length).filter (fun j=>decide (zs.getD j 0≤P)):=HJ.mpr ⟨FY.mpr (by omega),Fx (by rw [Fc,hj];exact hz2)⟩;rw [h]at hm;cases hm
   have hinc:((List.range as.length).filter (fun j=>decide (zs.getD j 0≤P))).Pairwise (· < ·):=List.pairwise_lt_range.sublist List.filter_sublist
   have hmem:∀j,j∈(List.range as.length).filter (fun j=>decide (zs.getD j 0≤P))↔j < as.length∧zs.getD j 0≤P:=fun j=>by rw [HJ,FY,decide_eq_true_eq]
   generalize (List.range as.length).filter (fun j=>decide (zs.getD j 0≤P))=ix at hD1 hne hinc hmem
   obtain ⟨pre,l,rfl⟩:∃pre l,ix=pre++[l]:=⟨ix.dropLast,ix.getLast hne,(List.dropLast_concat_getLast hne).symm⟩
   have hl1:=(hmem l).mp (FG _ (.head _));obtain ⟨b,hb1,hb2,hb3,hb4⟩:=hx l _ (by rw [Fg,Fb hl1.1];rfl)
   have eb:(as.map V.ref).getD l V.non=V.ref b:=by rw [Fc,Fg,hb2];rfl
   walk_at "go";intro r hr;have smr:A7 H1 (upd H1 r (.lst [])):=A7.new hr;refine ⟨D,r,_,rfl,rfl,SqL.of (smr _ _ hD1),SqL.of A3,false,by rw [Fa,Fu];rfl,?_⟩;rw [if_neg (by decide)];have hD2:=smr _ _ hD1;have sm2:=sm1.trans smr;generalize upd H1 r (.lst [])=H2 at smr hD2 sm2 ⊢;have hbT:=sm2.tup hb4;walk_at "go";refine Cq (SqL.of hD2) (v:=V.ref b) ?_ ⟨b,_,rfl,hbT,(fun h=>absurd h.1 (by show ¬(1:Nat)=0;decide)),fun t ht=>?_⟩
   · rw [Fw]
     show atI (pre.map _++[(as.map V.ref).getD l V.non]) (-1)=_;rw [eb];exact Ys
   · rw [Jcu]
     refine q t (zs.getD l 0) _ (none_of sm2 ht) (sm2.trans (A7.new ht)) (Fk hb3) hl1.2 (fun z' hz' hz2=>?_) A3;obtain ⟨j,hj⟩:=FF.mp hz';have hjl:=(Fe.mp hj).1
     have ej:zs.getD j 0=z':=by rw [Fc,hj];rfl
     have hjm:=(hmem j).mpr ⟨by omega,by rw [ej];exact hz2⟩
     have hys:ys≠[]:=fun e=>by
      have:=hZ.1 e;rw [this]at hz';cases hz'
     obtain ⟨_,_,_,hsrt,_⟩:=hZ.2 hys
     have hjl2:j≤l:=by
      rcases FI.mp hjm with h | h
      · exact HF ((Ry.mp hinc).2.2 j h l (.head _))
      · rw [Fj.mp h];exact Fh _
     by_cases e:j=l
     · subst e;rw [ej];exact Rz _
     · have hll:l < zs.length:=by omega
       have:=(HK.mp hsrt) j l hjl hll (by omega);have e1:zs[j]=z':=(Fe.mp hj).2
       have e2:zs[l]=zs.getD l 0:=by rw [Fc,Fb hll];rfl
       omega
theorem Z71{f:Addr}{fd:FuncData}(F:Fun K "_law_cell" "_law_cell" Z4p f fd)(T:Txt K mg Z2 Z5 Z3 Z6 Z4 Z0 Z1):Ar P w K mg base CX0 1 f fd ["_law_script","_law_k"] (Np K):=by
 have sc:Ab ["_law_script","_law_k"] ["_law_script","_law_k"] (A6 Z4p):=by walk_at "sc"
 refine F.ok sc (fun vs H Q E h=>?_) (fun cdv A outer s H vs Q E hr h=>?_)
 · obtain ⟨_,_,_,rfl,_⟩:=h;rfl
 obtain ⟨a,ns,k,rfl,hS,h0,hl,q⟩:=h
 refine ⟨_,(@A1 _ _ _ _ _ (B0 (Am Pm (pv 1) (Ag Ai rfl T.Zg FE (A0 (pv 0) A4)) (nomark _))
  (@A5 _ _ _ (@Af _ _ _ _ (@Bq _ _ _ _ _ _ _ Cb (pv 0) (pv 1) (fun _ _=>rfl))))
  Ah)
  (@A5 _ _ _ (@Af _ _ _ _ A9))),?_⟩
 walk_at "st";walk_at "go";rw [Fa];split
 · rename_i hk
   exact Cq hS (Mm h0 (J34 (by omega))) q
 · rename_i hk
   rw [Fc,FN (by omega)]at q;walk_at "go";exact q
theorem Z6t{f:Addr}{fd:FuncData}(F:Fun K "_law_whole" "_law_whole" Z45 f fd)(T:Txt K mg Z2 Z5 Z3 Z6 Z4 Z0 Z1):Ar P w K mg base CX0 1 f fd ["_law_found_here","_law_due"] (Ir):=by
 have sc:Ab ["_law_found_here","_law_due"] ["_law_found_here","_law_due"] (A6 Z45):=by walk_at "sc"
 refine F.ok sc (fun vs H Q E h=>?_) (fun cdv A outer s H vs Q E hr h=>?_)
 · obtain ⟨_,_,rfl,_⟩:=h;rfl
 obtain ⟨a,b,rfl,q⟩:=h;refine ⟨_,(@A5 _ _ _ (@Af _ _ _ _ (Ie (Ag Cv rfl T.Zp (by first | rfl | decide+kernel) (A0 (pv 0) (A0 (K3 (v:= .ty "int") rfl T.Z3n (by first | rfl | decide+kernel) rfl) A4))) (Ie (J1x (Ag Cv rfl T.Zp (by first | rfl | decide+kernel) (A0 (pv 0) (A0 (K3 (v:= .ty "bool") rfl T.Z3m (by first | rfl | decide+kernel) rfl) A4)))) (L0 (K5 La (pv 0) (pv 1) (nomark _))))))),?_⟩;walk_at "st";walk_at "go";exact q
theorem Z6u{f:Addr}{fd:FuncData}(F:Fun K "_law_names" "_law_names" Z46 f fd)(T:Txt K mg Z2 Z5 Z3 Z6 Z4 Z0 Z1):Ar P w K mg base CX0 1 f fd ["_law_cell_here","_law_many"] (Gz):=by
 have sc:Ab ["_law_cell_here","_law_many","_law_signs","_law_tail","_law_j","_law_long","_law_at","_law_names_here","_law_k","_law_name","_law_by"] ["_law_cell_here","_law_many"] (A6 Z46):=by walk_at "sc"
 refine F.ok sc (fun vs H Q E h=>?_) (fun cdv A outer s H vs Q E hr h=>?_)
 · obtain ⟨_,_,rfl,_⟩:=h;rfl
 obtain ⟨i,m,rfl,hm,q⟩:=h
 refine ⟨_,(@A1 _ _ _ _ _ (Ak (i:=2) sc.nd rfl (Or.inr rfl) Cm)
  (@A1 _ _ _ _ _ (B0 (Am La (Aq D1 (Aq K4 (pv 0) A9) A9) A9 (nomark _))
   (@A1 _ _ _ _ _ (Ak (i:=3) sc.nd rfl (Or.inr rfl) Cm)
   (@A1 _ _ _ _ _ (C5 PassesOwn.never rfl (Cs rfl T.Z09 (A0 A9 A4)) (B2 (i:=4) sc.nd rfl (Or.inl rfl))
    (@A5 _ _ _ (Ak (i:=3) sc.nd rfl (Or.inr rfl) (Aq Ce (pv 3) (@Bq _ _ _ _ _ _ _ Mj (pv 2) (Aq D1 (Aq Bx (Aq Lj (Aq K4 (pv 0) A9) (Aq Bx (pv 4) A9)) (Aq Qn A9 (pv 4))) A9) (fun _ _=>rfl))))))
   (@A5 _ _ _ (@Af _ _ _ _ (E8 "_law_k" [2,3,0] rfl rfl (Cs rfl T.Z09 (A0 (pv 1) A4)) (fun b=>(Aq Ce (@Bq _ _ _ _ _ _ _ Mj (pv 1) (Aq D1 (Aq Bx (pv 3) (Aq K4 (pv 0) A9)) A9) (fun _ _=>rfl)) (E6 Jam (pv 2) Le (Dy (Aq D1 (pv 0) A9))))))))))
   Ah)
  (@A1 _ _ _ _ _ (Ak (i:=5) sc.nd rfl (Or.inl rfl) (Aq Bx A9 (Aq D1 (pv 0) A9)))
  (@A1 _ _ _ _ _ (Ak (i:=6) sc.nd rfl (Or.inl rfl) (Aq D1 (Aq K4 (pv 0) A9) (pv 5)))
  (@A1 _ _ _ _ _ (Ak (i:=7) sc.nd rfl (Or.inl rfl) (@Bo _ _ _ _ A4))
  (@A1 _ _ _ _ _ (C5 PassesOwn.never rfl (Cs rfl T.Z09 (A0 (pv 1) A4)) (B2 (i:=8) sc.nd rfl (Or.inl rfl))
   (@A1 _ _ _ _ _ (Ak (i:=9) sc.nd rfl (Or.inl rfl) Cm)
   (@A1 _ _ _ _ _ (C5 PassesOwn.never rfl (Cs rfl T.Z09 (A0 (pv 5) A4)) (B2 (i:=4) sc.nd rfl (Or.inl rfl))
    (@A1 _ _ _ _ _ (Ak (i:=10) sc.nd rfl (Or.inl rfl) (Aq Bx (Aq Lj (Aq K4 (pv 0) A9) (Aq Bx (pv 4) A9)) (Aq Qn A9 (pv 4))))
    (@A1 _ _ _ _ _ (B0 (Am La (pv 4) (pv 6) (nomark _))
     (@A5 _ _ _ (Ak (i:=10) sc.nd rfl (Or.inl rfl) (Aq Bx (pv 10) (pv 8))))
     Ah)
    (@A5 _ _ _ (B0 (Am La (pv 4) A9 (nomark _))
     (@A5 _ _ _ (Ak (i:=9) sc.nd rfl (Or.inl rfl) (Aq Ce (pv 9) (@Bq _ _ _ _ _ _ _ Mj (pv 2) (Aq D1 (pv 10) A9) (fun _ _=>rfl)))))
     (@A5 _ _ _ (Ak (i:=9) sc.nd rfl (Or.inl rfl) (Aq Ce (pv 9) (@Bq _ _ _ _ _ _ _ Mj (pv 2) (Aq D1 (pv 10) A9) (fun _ _=>rfl))))))))))
   (@A5 _ _ _ (Al (Ct FK FP FO Bk (pv 7) (A0 (pv 9) A4)))))))
  (@A5 _ _ _ (@Af _ _ _ _ (pv 7))))))))),?_⟩
 walk_at "st";have line:=Ae;have bl:=U5;walk_at "go";split
 · rename_i hst
   clear hst;walk_at "go";rename_i rest hrest;refine K9 (n:=7) (fun j σ H'=>∃(v4:Option V),σ=[some (V.int i),some (V.int m),some (V.str (Str.ofString "abcdefghijklmnopqrstuvwxyz0123456789")),some (V.str (tx (K1 i j))),v4,none,none,none,none,none,none]∧H'=H) ⟨none,rfl,rfl⟩ ?_ ?_
   · rintro j σ H' hj ⟨v4,rfl,rfl⟩
     have hzl:(tx (K1 i j)).length=j:=by rw [U4];simp [K1]
     walk_at "go";refine Mo (by omega) (Y4 _ (by decide) (by decide)) ?_;walk_at "go";rw [J1r,← Y3];rfl
   · rintro σ H' ⟨v4,rfl,rfl⟩
     subst hrest;walk_at "go";refine Oe (fun x=>V.str (tx (nmP i x.toNat))) (by omega) (fun b k H2 Q' hk sm q'=>?_) fun D hD=>?_
     · rw [show (0+(k:Int)).toNat=k by omega,Wr]at q'
       have k1:=Ht (k:Int) (show (8:Int)≠0 by decide);walk_at "go";refine Mo (by omega) (Y4 _ (by decide) (by decide)) ?_;walk_at "go"
       have e8:(k:Int) % 8=((k % 8:Nat):Int):=by omega
       have htl:(K1 i 7).length=7:=by unfold K1;rw [Fa,Fv]
       have hsl:=Wt (l:=K1 i 7) (k:=k % 8) (by omega);rw [← e8]at hsl;rw [hsl];refine ⟨by rw [U4,htl,line];decide,by rw [U4,FX,htl];show 1+_≤_;omega,?_⟩;rw [Jcn,Y3];exact q'
     · refine q D (J1s i m) _ hD (A7.new hD) ?_ (by unfold J1s;rw [Fa,Fv]) (Ws (by omega)) fun y hy=>?_
       · rw [A3]
         unfold J1s;rw [FR];congr 2;refine RE fun k _=>?_;show V.str (tx (nmP i (0+(k:Int)).toNat))=_;rw [show (0+(k:Int)).toNat=k by omega];rfl
       · unfold J1s at hy
         obtain ⟨k,_,rfl⟩:=FH.mp hy;rw [Io];exact J5t
 · rename_i hst
   clear hst;walk_at "go";intro p hp
   obtain ⟨L,hL⟩:∃L:Nat,(L:Int)=1+i % 8:=⟨(1+i % 8).toNat,by omega⟩
   have hL2:1≤L:=by omega
   have hL8:L≤8:=by omega
   rw [← hL];have ha0:=Ht (i / 8) (show (L:Int)≠0 by omega);have ha1:=Hm (i / 8) (show (0:Int) < L by omega);clear hL;generalize i / 8 % (L:Int)=at' at ha0 ha1 ⊢;walk_at "go";refine K9 (fun k σ H'=>∃(v7 v8 v9 v10:Option V),σ=[some (V.int i),some (V.int m),some (V.str (Str.ofString "abcdefghijklmnopqrstuvwxyz0123456789")),none,v7,some (V.int L),some (V.int at'),some (V.ref p),v8,v9,v10]∧H'=upd H p (.lst ((nms (fun j=>(i / 64).fdiv (j+1)+10 * j) at' L k).map V.str))) ⟨none,none,none,none,rfl,rfl⟩ ?_ ?_
   · rintro k σ H' hk ⟨v7,v8,v9,v10,rfl,rfl⟩
     have hlen:((nms (fun j=>(i / 64).fdiv ((j:Int)+1)+10 * j) at' L k).map V.str).length=k:=by rw [Fa];unfold nms;rw [Fa,Fv]
     walk_at "go";rename_i rest hrest;refine K9 (fun j σ H'=>∃(v9 v10:Option V),σ=[some (V.int i),some (V.int m),some (V.str (Str.ofString "abcdefghijklmnopqrstuvwxyz0123456789")),none,v9,some (V.int L),some (V.int at'),some (V.ref p),some (V.int k),some (V.str (tx (nmL (fun j=>(i / 64).fdiv (j+1)+10 * j) at' j k))),v10]∧H'=upd H p (.lst ((nms (fun j=>(i / 64).fdiv (j+1)+10 * j) at' L k).map V.str))) ⟨v7,v10,rfl,rfl⟩ ?_ ?_
     · rintro j σ H' hj ⟨v9,v10,rfl,rfl⟩
       have hzl:(tx (nmL (fun j=>(i / 64).fdiv ((j:Int)+1)+10 * j) at' j k)).length=j:=by rw [U4];simp [nmL]
       have hsg:nmL (fun j=>(i / 64).fdiv ((j:Int)+1)+10 * j) at' (j+1) k=nmL (fun j=>(i / 64).fdiv ((j:Int)+1)+10 * j) at' j k++[sgn (fun j=>(i / 64).fdiv ((j:Int)+1)+10 * j) at' k j]:=by
        unfold nmL;rw [Hn,Fw];rfl
       unfold N5.sgn at hsg;walk_at "go";rename_i rest hrest
       have key1:∀b1:Int,((i / 64).fdiv ((j:Int)+1)+10 * j+(if (j:Int)=at' then (k:Int) else 0)=b1)→rest [some (V.int i),some (V.int m),some (V.str (Str.ofString "abcdefghijklmnopqrstuvwxyz0123456789")),none,some (V.int j),some (V.int L),some (V.int at'),some (V.ref p),some (V.int k),some (V.str (tx (nmL (fun j=>(i / 64).fdiv (j+1)+10 * j) at' j k))),some (V.int b1)] (upd H p (.lst ((nms (fun j=>(i / 64).fdiv (j+1)+10 * j) at' L k).map V.str))):=by
        intro b1 hb1;rw [hb1]at hsg;clear hb1;subst hrest;generalize nmL (fun j=>(i / 64).fdiv ((j:Int)+1)+10 * j) at' j k=zl at hsg hzl ⊢;walk_at "go";split
        · rename_i hj0
          walk_at "go";refine Mo (by omega) (Y4 _ (by decide) (by decide)) ?_;walk_at "go";rw [hsg,← Y3];unfold md;rw [if_pos (by omega)];rfl
        · rename_i hj0
          walk_at "go";refine Mo (by omega) (Y4 _ (by decide) (by decide)) ?_;walk_at "go";rw [hsg,← Y3];unfold md;rw [if_neg (by omega)];rfl
       clear hrest;split
       · rename_i he
         walk_at "go";exact key1 _ (by rw [if_pos he])
       · rename_i he
         exact key1 _ (by rw [if_neg he];omega)
     · rintro σ H' ⟨v9,v10,rfl,rfl⟩
       walk_at "go";refine ⟨.inl ⟨rfl,_,SqL.of A3⟩,p,_,_,rfl,rfl,A3,by omega,?_⟩;walk_at "go";unfold nms;rw [Hn,Fw,Fw];rfl
   · rintro σ H' ⟨v7,v8,v9,v10,rfl,rfl⟩
     walk_at "go";refine q p _ _ hp (A7.new hp) A3 (by unfold nms;simp) (J0u ha0 ha1 (by omega)) fun y hy=>?_;unfold nms at hy;obtain ⟨k,_,rfl⟩:=FH.mp hy;rw [Io];exact Ud (by omega) hL8
theorem Z6m{f:Addr}{fd:FuncData}(F:Fun K "_law_newest" "_law_newest" Z3t f fd)(T:Txt K mg Z2 Z5 Z3 Z6 Z4 Z0 Z1):Ar P w K mg base CX0 1 f fd ["_law_row","_law_at","_law_most"] (Eu K):=by
 have sc:Ab ["_law_row","_law_at","_law_most","_law_found_here","_law_back"] ["_law_row","_law_at","_law_most"] (A6 Z3t):=by walk_at "sc"
 refine F.ok sc (fun vs H Q E h=>?_) (fun cdv A outer s H vs Q E hr h=>?_)
 · obtain ⟨_,_,_,_,rfl,_⟩:=h;rfl
 obtain ⟨a,ys,i,M,rfl,hS,hl,hi,q⟩:=h
 refine ⟨_,(@A1 _ _ _ _ _ (Ak (i:=3) sc.nd rfl (Or.inl rfl) (@Bo _ _ _ _ A4))
  (@A1 _ _ _ _ _ (Ak (i:=4) sc.nd rfl (Or.inl rfl) (pv 1))
  (@A1 _ _ _ _ _ (T8 PassesOwn.never (PW.pt (Vl (Am Jbu (pv 4) A9 (nomark _)) (Qm (Am Pm (Ag Ai rfl T.Zg FE (A0 (pv 3) A4)) (pv 2) (nomark _)))))
   (@A1 _ _ _ _ _ (B0 (Am Qs (@Bq _ _ _ _ _ _ _ Cb (pv 0) (pv 4) (fun _ _=>rfl)) (pv 3) (by with_unfolding_all rfl))
    (@A5 _ _ _ (Al (Ct FK FP FO Bk (pv 3) (A0 (@Bq _ _ _ _ _ _ _ Cb (pv 0) (pv 4) (fun _ _=>rfl)) A4))))
    Ah)
   (@A5 _ _ _ (Ak (i:=4) sc.nd rfl (Or.inl rfl) (Aq L1 (pv 4) A9)))))
  (@A5 _ _ _ (@Af _ _ _ _ (pv 3)))))),?_⟩
 walk_at "st";have line:=Ae;walk_at "go";intro p hp;have sm0:A7 H (upd H p (.lst [])):=A7.new hp;have hp0:upd H p (.lst []) p=some (.lst []):=A3;generalize upd H p (.lst [])=H0 at sm0 hp0 ⊢;rename_i rest hrest;subst hrest;walk_at "go";rename_i rest hrest;refine Xd (m0:=i+1) (fun c σ H'=>c≤i+1∧σ=[some (V.ref a),some (V.int i),some (V.int M),some (V.ref p),some (V.int ((c:Int) - 1))]∧A7 H H'∧H' p=some (.lst ((rc ys (i+1) c).map V.str))∧(rc ys (i+1) c).length≤M) ⟨Fh _,by simp,sm0,by rw [Ou];exact hp0,by rw [Ou];exact FB _⟩ ?_;rintro c σ H' ⟨hc,rfl,sm,hp',hlen⟩
 have fin:(c=0∨(rc ys (i+1) c).length=M)→rest [some (V.ref a),some (V.int i),some (V.int M),some (V.ref p),some (V.int ((c:Int) - 1))] H':=fun h=>by
  subst hrest;walk_at "go";refine q p _ hp sm ?_;rw [hp'];congr 3;obtain ⟨r,e⟩:=Wv (ys:=ys) hc;rcases h with h | h
  · subst h
    exact (FQ hlen).symm
  · rw [e]
    exact (List.take_left' h).symm
 clear hrest;walk_at "go"
 by_cases h0:c=0
 · rw [if_neg (by omega)]
   exact fin (.inl h0)
 rw [if_pos (by omega)];refine ⟨_,.inl (SqL.of hp'),?_⟩;rw [Fa]
 by_cases hM:(rc ys (i+1) c).length < M
 · rw [if_pos (by omega)]
   clear fin
   obtain ⟨d,rfl⟩:∃d,c=d+1:=⟨c - 1,by omega⟩
   have hyd:ys[d]?=some (yat ys d):=by unfold yat;rw [Fc,Fb (by omega)];rfl
   have hSd:=sm.seq hS;have hrn:=J8c (ys:=ys) (n:=i+1) (c:=d) (by omega)
   have hln:(rc ys (i+1) (d+1)).length≤201:=by
    have:(rc ys (i+1) (d+1)).length≤i+1:=by
     unfold rc;rw [Fa];refine FC (R9 _ _) ?_;rw [List.length_reverse,List.length_range'];omega
    omega
   rw [show (((d+1:Nat):Int) - 1)=(d:Int) by omega];refine ⟨fun σ' H5=>∃m',m' < d+1∧m'≤i+1∧σ'=[some (V.ref a),some (V.int i),some (V.int M),some (V.ref p),some (V.int ((m':Int) - 1))]∧A7 H H5∧H5 p=some (.lst ((rc ys (i+1) m').map V.str))∧(rc ys (i+1) m').length≤M,fun σ' H5 h=>h,?_⟩;walk_at "go";rename_i rest2 hrest2
   have key:∀(H2:Hp),A7 H H2→H2 p=some (.lst ((rc ys (i+1) d).map V.str))→rest2 [some (V.ref a),some (V.int i),some (V.int M),some (V.ref p),some (V.int d)] H2:=by
    intro H2 s2 h2;subst hrest2;walk_at "go";refine ⟨d,by omega,by omega,rfl,s2,h2,?_⟩;rw [hrn]
    split <;> simp <;> omega
   clear hrest2;have hat:atI (ys.map V.str) (d:Int)=some (V.str (yat ys d)):=Mm (by omega) (by rw [Int.toNat_natCast,Fg,hyd];rfl);refine Cq hSd hat ?_;refine J53 (SqL.of hp') ?_;refine ⟨_,rfl,?_⟩
   by_cases hin:yat ys d∈rc ys (i+1) (d+1)
   · rw [if_neg (by simpa using hin)]
     refine key _ sm ?_;rw [hrn,if_pos hin,FT];exact hp'
   · rw [if_pos (by simpa using hin)]
     refine ⟨.inl ⟨rfl,_,SqL.of hp'⟩,Cq hSd hat ⟨p,_,_,rfl,rfl,hp',by rw [Fa];omega,key _ (fun b o e=>?_) ?_⟩⟩
     · rw [A2 (A8 e hp)];exact sm _ _ e
     · rw [A3,hrn,if_neg hin,Fw];rfl
 · rw [if_neg (by omega)]
   exact fin (.inr (by omega))
theorem Z72{f:Addr}{fd:FuncData}(F:Fun K "_law_cut" "_law_cut" Z59 f fd)(T:Txt K mg Z2 Z5 Z3 Z6 Z4 Z0 Z1):Ar P w K mg base CX0 1 f fd ["_law_newest_here","_law_sizes"] (Md K):=by
 have sc:Ab ["_law_newest_here","_law_sizes","_law_shelves","_law_size"] ["_law_newest_here","_law_sizes"] (A6 Z59):=by walk_at "sc"
 refine F.ok sc (fun vs H Q E h=>?_) (fun cdv A outer s H vs Q E hr h=>?_)
 · obtain ⟨_,_,_,_,rfl,_⟩:=h;rfl
 obtain ⟨a,b,Z,zs,rfl,hA,hS,hzl,hZl,hz,q⟩:=h
 refine ⟨_,(@A1 _ _ _ _ _ (Ak (i:=2) sc.nd rfl (Or.inl rfl) (@Bo _ _ _ _ A4))
  (@A1 _ _ _ _ _ (C5 PassesOwn.never rfl (C4 (pv 1)) (B2 (i:=3) sc.nd rfl (Or.inl rfl))
   (@A1 _ _ _ _ _ (Al (Ct FK FP FO Bk (pv 2) (A0 (E6 Lf (pv 0) Le (Dy (pv 3))) A4)))
   (@A5 _ _ _ (Ak (i:=0) sc.nd rfl (Or.inl rfl) (E6 Lf (pv 0) (Dy (pv 3)) Le)))))
  (@A5 _ _ _ (@Af _ _ _ _ (pv 2))))),?_⟩
 walk_at "st";have line:=Ae;walk_at "go";intro p hp;have sm0:A7 H (upd H p (.lst [])):=A7.new hp;have hp0:upd H p (.lst []) p=some (.lst []):=A3;generalize upd H p (.lst [])=H0 at sm0 hp0 ⊢;rename_i rest hrest;subst hrest;walk_at "go";rename_i rest hrest;have hap:a≠p:=A8 hA hp;refine ⟨⟨_,sm0.seq hS⟩,Gf (xs:=zs.map V.int) (fun i σ H'=>∃(a':Addr) (as:List Addr) (v3:Option V),σ=[some (V.ref a'),some (V.ref b),some (V.ref p),v3]∧A7 H H'∧H' a'=some (.lst ((Z.drop (pre zs i).toNat).map V.str))∧H' p=some (.lst (as.map V.ref))∧Sn H' as zs Z i∧a'≠p∧p∉as) ⟨a,[],none,rfl,sm0,by rw [show pre zs 0=0 from rfl];exact sm0 _ _ hA,hp0,⟨rfl,fun i a e=>by simp at e⟩,hap,by simp⟩ (fun i σ H' _ h_=>by obtain ⟨_,_,_,_,sm,_⟩:=h_;exact sm.seq hS) ?_ ?_⟩
 · clear hrest
   rintro i v σ H' hv ⟨a',as,v3,rfl,sm,ha',hp',hA',nap,npa⟩
   have hi:i < zs.length:=by
    have:=(Fe.mp hv).1;rw [Fa]at this;exact this
   have hgi:zs[i]?=some (zs.getD i 0):=Do hi;rw [Fg,hgi]at hv;cases hv;have hz1:=hz _ (Fk hgi);have hpn0:=Ez (fun z h=>(hz z h).1) i;have hal:as.length≤i:=Rp hA'.1;walk_at "go";rename_i rest hrest;refine ⟨.inl ⟨rfl,_,SqL.of hp'⟩,_,SqL.of ha',fun l hl=>?_⟩;rw [J62 (by omega)];have elv:(Z.drop (pre zs i).toNat).take (zs.getD i 0).toNat=lvl zs Z i:=(Wm (fun z h=>(hz z h).1) hi).symm;rw [elv];have npl:p≠l:=A8 hp' hl;have nal:a'≠l:=A8 ha' hl;have sm2:A7 H' (upd H' l (.lst ((lvl zs Z i).map V.str))):=A7.new hl
   have hla:l∉as:=fun h=>by
    obtain ⟨j,hj⟩:=FF.mp h;rw [hA'.2 j l hj]at hl;cases hl
   refine ⟨p,_,_,rfl,rfl,sm2 _ _ hp',by rw [Fa];omega,?_⟩
   have sm3:A7 H (upd (upd H' l (.lst ((lvl zs Z i).map V.str))) p (.lst (as.map V.ref++[V.ref l]))):=fun b o e=>by rw [A2 (A8 e hp)];exact (sm.trans sm2) _ _ e
   have hp3:upd (upd H' l (.lst ((lvl zs Z i).map V.str))) p (.lst (as.map V.ref++[V.ref l])) p=some (.lst ((as++[l]).map V.ref)):=by rw [A3,Fw];rfl
   have ha3:upd (upd H' l (.lst ((lvl zs Z i).map V.str))) p (.lst (as.map V.ref++[V.ref l])) a'=some (.lst ((Z.drop (pre zs i).toNat).map V.str)):=by rw [A2 nap];exact sm2 _ _ ha'
   have hA3:Sn (upd (upd H' l (.lst ((lvl zs Z i).map V.str))) p (.lst (as.map V.ref++[V.ref l]))) (as++[l]) zs Z (i+1):=by
    refine ⟨by rw [Fu,hA'.1];rfl,fun j a e=>?_⟩
    by_cases hj:j < as.length
    · rw [FJ hj]at e
      have h1:=hA'.2 j a e;rw [A2 (fun z=>npa (by rw [← z];exact Fk e))];exact sm2 _ _ h1
    · rw [FL (by omega)]at e
      have hj0:j=i:=by
       have h1:=(Fe.mp e).1;have h2:=hA'.1;simp at h1;omega
      rw [show j - as.length=0 by have:=hA'.1;omega]at e;cases e;rw [A2 npl.symm,A3,hj0]
   generalize upd (upd H' l (.lst ((lvl zs Z i).map V.str))) p (.lst (as.map V.ref++[V.ref l]))=H3 at sm3 hp3 ha3 hA3 ⊢;subst hrest;walk_at "go";refine ⟨_,SqL.of ha3,fun l2 hl2=>?_⟩;rw [Ww (by omega)];walk_at "go";have npl2:p≠l2:=A8 hp3 hl2;have sm4:=sm3.trans (A7.new (o:= .lst (((Z.drop (pre zs i).toNat).drop (zs.getD i 0).toNat).map V.str)) hl2)
   have h5:p∉as++[l]:=fun h=>by
    rcases FI.mp h with h | h
    · exact npa h
    · exact npl (Fj.mp h)
   refine ⟨sm4,?_,as++[l],by rw [A2 npl2];exact hp3,hA3.same (A7.new hl2),npl2.symm,h5⟩;rw [A3,JG,Lx hi,show (pre zs i+zs.getD i 0).toNat=(pre zs i).toNat+(zs.getD i 0).toNat by omega]
 · rintro σ H' ⟨a',as,v3,rfl,sm,ha',hp',hA',nap,npa⟩
   rw [Fa]at hA';subst hrest;walk_at "go";exact q p as _ hp sm hp' hA'
theorem Z6v{f:Addr}{fd:FuncData}(F:Fun K "_law_found" "_law_found" Z47 f fd)(T:Txt K mg Z2 Z5 Z3 Z6 Z4 Z0 Z1)(Z0d:Be P w K mg base CX0 1 Z1 "found" ["self"] (Ek Z1))(Z1h:Def P w K mg base CX0 1 "step_at" ["steps","places"] (Lu K))(Z00:Def P w K mg base CX0 1 "_law_whole" ["_law_found_here","_law_due"] (Ir)):Ar P w K mg base CX0 2 f fd ["_law_tower","_law_steps","_law_sizes","_law_asked"] (Ew K Z1):=by
 have sc:Ab ["_law_tower","_law_steps","_law_sizes","_law_asked","_law_found_here","_law_places","_law_hits","_law_size","_law_count"] ["_law_tower","_law_steps","_law_sizes","_law_asked"] (A6 Z47):=by walk_at "sc"
 refine F.ok sc (fun vs H Q E h=>?_) (fun cdv A outer s H vs Q E hr h=>?_)
 · obtain ⟨_,_,_,_,_,_,_,_,_,rfl,_⟩:=h;rfl
 obtain ⟨t,q',a,x,s',as,Zz,ts,ys,rfl,hT,hI,hQ,hSt,hZs,hZl,hZ1,hS,hzl,hz1,hz,hl,q⟩:=h
 refine ⟨_,(@A1 _ _ _ _ _ (Ak (i:=4) sc.nd rfl (Or.inl rfl) (Bu Z0d T.Z7 hr (As Ac) (pv 0)))
  (@A1 _ _ _ _ _ (B0 (PW.pt (L9 (Br (Bm (Ag Cv rfl T.Zp (by first | rfl | decide+kernel) (A0 (pv 4) (A0 (K3 (v:= .ty "list") rfl T.Z0y (by first | rfl | decide+kernel) rfl) A4))))) (Id (Am N2 (Ag Ai rfl T.Zg FE (A0 (pv 4) A4)) (Aq Bx (Ag Ai rfl T.Zg FE (A0 (pv 2) A4)) A9) (nomark _)))))
   (@A5 _ _ _ (@Af _ _ _ _ D9))
   Ah)
  (@A1 _ _ _ _ _ (Ak (i:=5) sc.nd rfl (Or.inl rfl) A9)
  (@A1 _ _ _ _ _ (Ak (i:=6) sc.nd rfl (Or.inl rfl) A9)
  (@A1 _ _ _ _ _ (C5 PassesOwn.never rfl (W6 rfl T.Z3o (A0 (pv 2) (A0 (pv 4) A4))) (Gc rfl (Ba (B2 (i:=7) sc.nd rfl (Or.inl rfl)) (Ba (B2 (i:=8) sc.nd rfl (Or.inl rfl)) Dx)))
   (@A1 _ _ _ _ _ (Ak (i:=5) sc.nd rfl (Or.inl rfl) (Aq Bx (pv 5) (pv 7)))
   (@A1 _ _ _ _ _ (Ak (i:=6) sc.nd rfl (Or.inl rfl) (Aq Bx (pv 6) (pv 8)))
   (@A5 _ _ _ (B0 (Br (Bm (Ad Z00 hr rfl Ac (A0 (@Bq _ _ _ _ _ _ _ Ex (Ad Z1h hr rfl Ac (A0 (pv 1) (A0 (pv 5) A4))) A9 (fun _ _=>rfl)) (A0 (Aq L1 (pv 3) (pv 6)) A4)))))
    (@A5 _ _ _ (@Af _ _ _ _ D9))
    Ah)))))
  (@A5 _ _ _ (@Af _ _ _ _ (Ad Z00 hr rfl Ac (A0 (@Bq _ _ _ _ _ _ _ Cb (pv 4) (J8r J26 A9) (fun _ _=>rfl)) (A0 (Aq L1 (pv 3) (pv 6)) A4)))))))))),?_⟩
 walk_at "st";have line:=Ae;obtain ⟨dx,fs,ho,hf⟩:=hT.o;have hfl:=hI.l;walk_at "go";refine ⟨dx,fs,ho,hf.m _ (by simp),x,s',hT,by omega,fun p H1 hp sm1 hp1=>?_⟩;rename_i rest hrest;subst hrest;walk_at "go";refine ⟨_,.inl (SqL.of hp1),_,.inl (sm1.seq hS),?_⟩;rw [Fa,Fa,if_neg (by omega)];rename_i rest hrest;subst hrest;walk_at "go";rename_i rest hrest;refine ⟨⟨_,sm1.seq hS⟩,⟨_,SqL.of hp1⟩,?_⟩;refine Jbh (xs:=s'.zs.map V.int) (ys:=s'.ff.map V.int) (by rw [Fa,Fa];omega) (fun i σ H'=>∃(v7 v8:Option V),σ=[some (V.ref t),some (V.ref q'),some (V.ref a),some (V.int ys.length),some (V.ref p),some (V.int (pre s'.zs i)),some (V.int (s'.ff.take i).sum),v7,v8]∧A7 H1 H') ⟨none,none,rfl,A7.refl _⟩ (fun i σ H' _ h_=>by obtain ⟨_,_,_,sm⟩:=h_;exact ⟨sm.seq (sm1.seq hS),SqL.of (sm _ _ hp1)⟩) ?_ ?_
 · clear hrest
   rintro i v w' σ H' u hv hw ⟨v7,v8,rfl,sm⟩ hu
   have hi:i < s'.zs.length:=by
    have:=(Fe.mp hv).1;rw [Fa]at this;exact this
   have hgi:s'.zs[i]?=some (s'.zs.getD i 0):=Do hi;have hgf:s'.ff[i]?=some (s'.ff.getD i 0):=Do (by omega);rw [Fg,hgi]at hv;rw [Fg,hgf]at hw;cases hv;cases hw;have hz1:=hz _ (Fk hgi);have smu:=sm.trans (A7.new (o:= .tup [.int (s'.zs.getD i 0),.int (s'.ff.getD i 0)]) hu);walk_at "go";refine ⟨_,SqT.of A3,rfl,_,_,rfl,_,_,rfl,rfl,?_⟩;generalize upd H' u (.tup [.int (s'.zs.getD i 0),.int (s'.ff.getD i 0)])=H2 at smu ⊢;have sm2:=sm1.trans smu
   have hsum:(s'.ff.take (i+1)).sum=(s'.ff.take i).sum+s'.ff.getD i 0:=by
    rw [Hg,hgf,HI];simp
   have hfi:=hI.f (i+1) (by omega);have hpi:=Lx hi
   have hp1':1≤pre s'.zs (i+1):=by
    have:=Ez (fun z h=>(hz z h).1) i;omega
   walk_at "go";obtain ⟨z0,hz0,hz0'⟩:=hZ1;refine ⟨as,sm2.seq hQ,Zz,_,_,_,hSt.same sm2,hZs,hZl,⟨z0,hz0,by omega⟩,fun t2 z3 H5 ht2 sm5 hz3 hz3' hmx ht3=>?_⟩;refine Ik (SqT.of ht3) rfl ⟨_,rfl,?_⟩;have em:=(N35.V4 (C:=N41.cst ts) hZs hz3 hz3' hmx).1;rw [← hpi]at em;rw [if_neg (fun h=>h (by omega))];exact ⟨hpi.symm,hsum.symm,smu.trans sm5⟩
 · rintro σ H' ⟨v7,v8,rfl,sm⟩
   rw [Fa];subst hrest;have hgl:s'.ff[s'.zs.length]?=some (s'.ff.getD s'.zs.length 0):=Do (by omega)
   have el:s'.ff=s'.ff.take s'.zs.length++[s'.ff.getD s'.zs.length 0]:=by
    have h1:=Hg (l:=s'.ff) (i:=s'.zs.length);rw [hgl,FQ (by omega)]at h1;exact h1
   have hs:s'.ff.getD s'.zs.length 0=(ys.length:Int) - (s'.ff.take s'.zs.length).sum:=by
    have h1:=hI.t;rw [el,HI,List.sum_singleton]at h1
    have e2:(s'.ff.take s'.zs.length++[s'.ff.getD s'.zs.length 0]).getD s'.zs.length 0=s'.ff.getD s'.zs.length 0:=by rw [← el]
    omega
   walk_at "go";refine Cq (SqL.of (sm _ _ hp1)) (v:=V.int (s'.ff.getD s'.zs.length 0)) ?_ ⟨_,rfl,?_⟩
   · have e3:s'.ff.map V.int=(s'.ff.take s'.zs.length).map V.int++[V.int (s'.ff.getD s'.zs.length 0)]:=by
      conv=>lhs;rw [el]
      rw [Fw];rfl
     rw [e3];exact N35.Ys
   · rw [Fx hs]
     exact q _ (sm1.trans sm)
theorem Z79{f:Addr}{fd:FuncData}(F:Fun K "law" "law" Z2n f fd)(T:Txt K mg Z2 Z5 Z3 Z6 Z4 Z0 Z1)(Z0m:Def P w K mg base CX0 1 "_law_cell" ["_law_script","_law_k"] (Np K))(Z4a:Def P w K mg base CX0 1 "_law_names" ["_law_cell_here","_law_many"] (Gz))(Z30:Def P w K mg base CX0 6 "read_stock" ["text"] (Kt K Z2))(Z3k:Def P w K mg base CX0 3 "read_asks" ["text"] (Mc))(Z31:Tx P w K mg base CX0 5 "Tower" Z1 ["self","stock","sizes"] (Kw K Z1 Z2))(Z2l:Tx P w K mg base CX0 5 "Oldest" Z0 ["self","stock","places"] (Km Z0))(Z4b:Def P w K mg base CX0 7 "book_of" ["rule","asks"] (Ko (T2 Z0) K Z2 Z3))(Z2m:Def P w K mg base CX0 7 "lying_after" ["stock","asks","places","book"] (Gp K Z2))(Z3x:Def P w K mg base CX0 1 "_law_newest" ["_law_row","_law_at","_law_most"] (Eu K))(Z00:Def P w K mg base CX0 1 "_law_whole" ["_law_found_here","_law_due"] (Ir))(Z32:Be P w K mg base CX0 6 Z1 "read" ["self","name"] (Kv K Z1 Z2))(Z06:Be P w K mg base CX0 1 Z1 "levels" ["self"] (Dq Z1))(Z5q:Def P w K mg base CX0 1 "_law_cut" ["_law_newest_here","_law_sizes"] (Md K))(Z0d:Be P w K mg base CX0 1 Z1 "found" ["self"] (Ek Z1))(Z13:Be P w K mg base CX0 1 Z1 "spent" ["self"] (Gy Z1))(Z3y:Def P w K mg base CX0 6 "steps_of" ["stock","asks"] (Gm K Z2))(Z1h:Def P w K mg base CX0 1 "step_at" ["steps","places"] (Lu K))(Z3l:Def P w K mg base CX0 6 "missed_by" ["book"] (Eg 524 (⟨243,25,243,39⟩:Pos) (("missed_by"++".<locals>.")++"<lambda>")))(Z4c:Def P w K mg base CX0 6 "paid_by" ["stock","book"] (Iu 531 (⟨245,25,245,57⟩:Pos) (("paid_by"++".<locals>.")++"<lambda>") K Z2))(Z4d:Def P w K mg base CX0 2 "_law_found" ["_law_tower","_law_steps","_law_sizes","_law_asked"] (Ew K Z1)):Ar P w K mg base CX0 12 f fd ["_law_script"] (K2 524 531 K):=by
 have sc:Ab ["_law_script","_law_many","_law_names_here","_law_dearest","_law_things","_law_k","_law_cost","_law_stock","_law_row","_law_asks","_law_sizes","_law_tower","_law_total","_law_book","_law_lying","_law_at","_law_newest_here","_law_steps","_law_missed","_law_paid"] ["_law_script"] (A6 Z2n):=by walk_at "sc"
 refine F.ok sc (fun vs H Q E h=>?_) (fun cdv A outer s H vs Q E hr h=>?_)
 · obtain ⟨_,_,rfl,_⟩:=h;rfl
 obtain ⟨a,ns,rfl,hS,hl,hM,hP,q⟩:=h
 refine ⟨_,(@A1 _ _ _ _ _ (Ak (i:=1) sc.nd rfl (Or.inr rfl) (Aq Bx A9 (Aq D1 (Ad Z0m hr rfl Ac (A0 (pv 0) (A0 A9 A4))) A9)))
  (@A1 _ _ _ _ _ (Ak (i:=2) sc.nd rfl (Or.inr rfl) (Ad Z4a hr rfl Ac (A0 (Ad Z0m hr rfl Ac (A0 (pv 0) (A0 A9 A4))) (A0 (pv 1) A4))))
  (@A1 _ _ _ _ _ (Ak (i:=3) sc.nd rfl (Or.inl rfl) (@Bq _ _ _ _ _ _ _ Cb (@Bo _ _ _ _ (A0 A9 (A0 (Aq Bx (Aq J25 A9 A9) A9) A4))) (Aq D1 (Ad Z0m hr rfl Ac (A0 (pv 0) (A0 A9 A4))) A9) (fun _ _=>rfl)))
  (@A1 _ _ _ _ _ (Ak (i:=4) sc.nd rfl (Or.inl rfl) (@Bo _ _ _ _ A4))
  (@A1 _ _ _ _ _ (C5 PassesOwn.never rfl (Cs rfl T.Z09 (A0 (pv 1) A4)) (B2 (i:=5) sc.nd rfl (Or.inl rfl))
   (@A1 _ _ _ _ _ (Ak (i:=6) sc.nd rfl (Or.inl rfl) (Aq D1 (Aq Bx (Aq Lj (Aq K4 (Ad Z0m hr rfl Ac (A0 (pv 0) (A0 A9 A4))) A9) (Aq Bx (pv 5) A9)) (Aq Qn A9 (pv 5))) (pv 3)))
   (@A5 _ _ _ (Al (Ct FK FP FO Bk (pv 4) (A0 (Aq Ce (Aq Ce (Aq Ce (@Bq _ _ _ _ _ _ _ Cb (pv 2) (pv 5) (fun _ _=>rfl)) Cm) (Da Qo rfl T.Z4e (by first | rfl | decide+kernel) (A0 (pv 6) A4))) Cm) A4))))))
  (@A1 _ _ _ _ _ (Ak (i:=7) sc.nd rfl (Or.inl rfl) (Ad Z30 hr rfl Ac (A0 (Ct Ro PySem.F.slot_str_join PySem.F.type_str_join Xr Cm (A0 (pv 4) A4)) A4)))
  (@A1 _ _ _ _ _ (J3j (i:=8) "_law_x" [2,1] sc.nd rfl rfl rfl rfl (C4 (E6 Lf (pv 0) (Dy A9) (Dy A9))) (fun b=>(@Bq _ _ _ _ _ _ _ Cb (pv 1) (Aq D1 (pv 0) (pv 2)) (fun _ _=>rfl))))
  (@A1 _ _ _ _ _ (Ak (i:=9) sc.nd rfl (Or.inl rfl) (Ad Z3k hr rfl Ac (A0 (Ct Ro PySem.F.slot_str_join PySem.F.type_str_join Xr Cm (A0 (pv 8) A4)) A4)))
  (@A1 _ _ _ _ _ (Ak (i:=10) sc.nd rfl (Or.inl rfl) (@Bo _ _ _ _ A4))
  (@A1 _ _ _ _ _ (C5 PassesOwn.never rfl (Cs rfl T.Z09 (A0 (Aq Bx A9 (Aq D1 (Ad Z0m hr rfl Ac (A0 (pv 0) (A0 A9 A4))) A9)) A4)) (B2 (i:=5) sc.nd rfl (Or.inl rfl))
   (@A5 _ _ _ (Al (Ct FK FP FO Bk (pv 10) (A0 (Aq Bx A9 (Aq D1 (Aq Bx (Aq Lj (Ad Z0m hr rfl Ac (A0 (pv 0) (A0 A9 A4))) (Aq Bx (pv 5) A9)) (Aq Qn (Ad Z0m hr rfl Ac (A0 (pv 0) (A0 A9 A4))) (pv 5))) A9)) A4)))))
  (@A1 _ _ _ _ _ (Ak (i:=11) sc.nd rfl (Or.inl rfl) (Eb Z31 hr rfl (As Ac) (A0 (pv 7) (A0 (Da Ge rfl T.Z0y (by first | rfl | decide+kernel) (A0 (pv 10) A4)) A4))))
  (@A1 _ _ _ _ _ (Ak (i:=12) sc.nd rfl (Or.inl rfl) (Ag (G5 rfl) rfl T.Z1v (by first | rfl | decide+kernel) (A0 (pv 10) A4)))
  (@A1 _ _ _ _ _ (Ak (i:=13) sc.nd rfl (Or.inl rfl) (Ad Z4b hr rfl Ac (A0 (Eb Z2l hr rfl (As Ac) (A0 (pv 7) (A0 (pv 12) A4))) (A0 (pv 9) A4))))
  (@A1 _ _ _ _ _ (Ak (i:=14) sc.nd rfl (Or.inl rfl) (Ad Z2m hr rfl Ac (A0 (pv 7) (A0 (pv 9) (A0 (pv 12) (A0 (pv 13) A4))))))
  (@A1 _ _ _ _ _ (B0 (Am N2 (Ag Ai rfl T.Zg FE (A0 (pv 14) A4)) (Ag Ai rfl T.Zg FE (A0 (pv 8) A4)) (nomark _))
   (@A5 _ _ _ (@Af _ _ _ _ D9))
   Ah)
  (@A1 _ _ _ _ _ (C5 PassesOwn.never rfl (Cs rfl T.Z09 (A0 (Ag Ai rfl T.Zg FE (A0 (pv 8) A4)) A4)) (B2 (i:=15) sc.nd rfl (Or.inl rfl))
   (@A1 _ _ _ _ _ (Ak (i:=16) sc.nd rfl (Or.inl rfl) (Ad Z3x hr rfl Ac (A0 (pv 8) (A0 (pv 15) (A0 (pv 12) A4)))))
   (@A1 _ _ _ _ _ (B0 (PW.pt (L9 (Br (Bm (Ad Z00 hr rfl Ac (A0 (Aj Z32 T.Z7 hr (As Ac) (pv 11) (A0 (@Bq _ _ _ _ _ _ _ Cb (pv 9) (pv 15) (fun _ _=>rfl)) A4)) (A0 A9 A4))))) (Id (Am (J7z hr) (Bu Z06 T.Z7 hr (As Ac) (pv 11)) (Ad Z5q hr rfl Ac (A0 (pv 16) (A0 (pv 10) A4))) (nomark _)))))
    (@A5 _ _ _ (@Af _ _ _ _ D9))
    Ah)
   (@A5 _ _ _ (B0 (Am (Jap hr) (Ag On rfl T.Z14 (by first | rfl | decide+kernel) (A0 (@Bq _ _ _ _ _ _ _ Cb (pv 14) (pv 15) (fun _ _=>rfl)) A4)) (Ag On rfl T.Z14 (by first | rfl | decide+kernel) (A0 (pv 16) A4)) (nomark _))
    (@A5 _ _ _ (@Af _ _ _ _ D9))
    Ah)))))
  (@A1 _ _ _ _ _ (B0 (Am (W1 hr) (pv 8) (@Bo _ _ _ _ A4) (nomark _))
   (@A5 _ _ _ (@Af _ _ _ _ (Ie (K5 (W1 hr) (Bu Z0d T.Z7 hr (As Ac) (pv 11)) (Aq J2m (@Bo _ _ _ _ (A0 A9 A4)) (Aq Bx (Ag Ai rfl T.Zg FE (A0 (pv 10) A4)) A9)) (nomark _)) (L0 (Ad Z00 hr rfl Ac (A0 (Bu Z13 T.Z7 hr (As Ac) (pv 11)) (A0 A9 A4)))))))
   Ah)
  (@A1 _ _ _ _ _ (Ak (i:=17) sc.nd rfl (Or.inl rfl) (Ad Z3y hr rfl Ac (A0 (pv 7) (A0 (pv 9) A4))))
  (@A1 _ _ _ _ _ (Ja0 (Ad Z1h hr rfl Ac (A0 (pv 17) (A0 (pv 12) A4))) (Gc rfl (Ba (B2 (i:=18) sc.nd rfl (Or.inl rfl)) (Ba (B2 (i:=19) sc.nd rfl (Or.inl rfl)) Dx))))
  (@A1 _ _ _ _ _ (B0 (PW.pt (L9 (Br (Bm (Ad Z00 hr rfl Ac (A0 (Ad Z3l hr rfl Ac (A0 (pv 13) A4)) (A0 (pv 18) A4))))) (Id (Br (Bm (Ad Z00 hr rfl Ac (A0 (Ad Z4c hr rfl Ac (A0 (pv 7) (A0 (pv 13) A4))) (A0 (pv 19) A4))))))))
   (@A5 _ _ _ (@Af _ _ _ _ D9))
   Ah)
  (@A5 _ _ _ (@Af _ _ _ _ (Ie (Ad Z00 hr rfl Ac (A0 (Bu Z13 T.Z7 hr (As Ac) (pv 11)) (A0 (pv 19) A4))) (L0 (Ad Z4d hr rfl Ac (A0 (pv 11) (A0 (pv 17) (A0 (pv 10) (A0 (Ag Ai rfl T.Zg FE (A0 (pv 8) A4)) A4))))))))))))))))))))))))))))),?_⟩
 walk_at "st";have line:=Ae;walk_at "go";have hm0:0≤ns.getD 1 0 % 9:=Ht _ (by decide);have hm1:ns.getD 1 0 % 9 < 9:=Hm _ (by decide);refine ⟨(1+ns.getD 1 0 % 9).toNat,by omega,by omega,fun np ym H1 hnp sm1 hny hyl ynd hyn=>?_⟩;have hS1:=sm1.seq hS;have hM1:=sm1 _ _ hM;have hP1:=sm1 _ _ hP
 have hyl1:1≤ym.length∧ym.length≤9∧(1+ns.getD 1 0 % 9=(ym.length:Int)∧True):=⟨by omega,by omega,by omega,trivial⟩
 obtain ⟨hy1,hy9,hye⟩:=hyl1;rw [hye.1];clear hyl hye hm0 hm1;rename_i rest hrest;subst hrest;walk_at "go";intro d hd;have sm2:A7 H1 (upd H1 d (.lst [.int 51,.int (10 ^ 30+1)])):=A7.new hd;have hd2:upd H1 d (.lst [.int 51,.int (10 ^ 30+1)]) d=some (.lst [.int 51,.int (10 ^ 30+1)]):=A3;generalize upd H1 d (.lst [.int 51,.int (10 ^ 30+1)])=H2 at sm2 hd2 ⊢;have sm02:=sm1.trans sm2
 obtain ⟨D,hD,hD1,hD2⟩:∃D:Int,atI [V.int 51,V.int (10 ^ 30+1)] (ns.getD 2 0 % 2)=some (V.int D)∧1≤D∧D≤10 ^ 30+1:=by
  rcases (by omega:ns.getD 2 0 % 2=0∨ns.getD 2 0 % 2=1) with e | e <;> rw [e]
  · exact ⟨51,rfl,by decide,by decide⟩
  · exact ⟨10 ^ 30+1,rfl,by decide,by decide⟩
 refine ⟨ns,sm02.seq hS,by decide,hl,by decide,Cq (SqL.of hd2) hD ?_⟩;have hny2:=sm2 _ _ hny;rename_i rest hrest;subst hrest;walk_at "go";intro tl htl;have sm3:A7 H2 (upd H2 tl (.lst [])):=A7.new htl;have htl3:upd H2 tl (.lst []) tl=some (.lst []):=A3;generalize upd H2 tl (.lst [])=H3 at sm3 htl3 ⊢;have sm03:=sm02.trans sm3;have hny3:=sm3 _ _ hny2;have htl0:H tl=none:=Bd sm02 htl;have nnt:np≠tl:=A8 hny2 htl;clear sm2 hd2 hS1 hM1 hP1 hny hny2;rename_i rest hrest;subst hrest;walk_at "go";rename_i rest hrest;refine K9 (fun k σ H'=>∃(v5 v6:Option V),σ=[some (V.ref a),some (V.int ym.length),some (V.ref np),some (V.int D),some (V.ref tl),v5,v6,none,none,none,none,none,none,none,none,none,none,none,none,none]∧A7 H H'∧H' np=some (.lst (ym.map V.str))∧H' tl=some (.lst ((((List.range k).map (J63 ym (ns.getD 2 0) D)).map B8).map V.str))) ⟨none,none,rfl,sm03,hny3,htl3⟩ ?_ ?_
 · clear hrest
   rintro k σ H' hk ⟨v5,v6,rfl,sm,hn',ht'⟩
   have hgk:(ym.map V.str)[k]?=some (V.str (ym.getD k Str.empty)):=by rw [Fg,Fc,Fb (by omega)];rfl
   have e0:=Ht ((ns.getD 2 0 / 2).fdiv ((k:Int)+1)+7 * k) (show D≠0 by omega);have e1:=Hm ((ns.getD 2 0 / 2).fdiv ((k:Int)+1)+7 * k) (show 0 < D by omega);have hnb:Bz (ym.getD k Str.empty).cps.toList=true:=hyn _ (by rw [Fc,Fb (by omega)];exact FU _);have hnl:=Ku hnb;rw [Em]at hnl;walk_at "go";refine ⟨ns,sm.seq hS,by decide,hl,Xp (by omega) (by omega),by omega,FM (m:=100) (by omega) (by decide),?_,by omega,?_⟩
   · exact J3e (by decide) (by decide)
   obtain ⟨cz,hcz⟩:∃cz,((ns.getD 2 0 / 2).fdiv ((k:Int)+1)+7 * k) % D=cz∧True:=⟨_,rfl,trivial⟩
   rw [hcz.1]at e0 e1 ⊢;have hcl:=N8.Sk (n:=cz) e0 (by omega);rename_i rest hrest;subst hrest;walk_at "go"
   have l1:(Str.ofString " ").length=1:=by decide+kernel
   have l2:(Str.ofString " 1").length=2:=by decide+kernel
   refine ⟨.inl ⟨rfl,_,SqL.of ht'⟩,Cq (SqL.of hn') (Mm (by omega) (by rw [Int.toNat_natCast];exact hgk)) ⟨_,rfl,by omega,N8.J7s e0 (by omega),by rw [D6];omega,by rw [D6,D6];omega,tl,_,_,rfl,rfl,ht',by rw [Fa,Fa,Fa,Fv];omega,fun b o e=>?_,?_,?_⟩⟩
   · rw [A2 (A8 e htl0)];exact sm _ _ e
   · rw [A2 nnt];exact hn'
   · have et:J63 ym (ns.getD 2 0) D k=(ym.getD k Str.empty,cz,1):=by unfold J63;rw [hcz.1]
     rw [A3,Hn,Fw,Fw,Fw,J8e];show _=some (HO.lst (_++[V.str (B8 (J63 ym (ns.getD 2 0) D k))]));rw [et]
 · rintro σ H4 ⟨v5,v6,rfl,sm4,hn4,ht4⟩
   subst hrest;have hgood:=J1v (c:=ns.getD 2 0) hyn hD1 hD2
   have hts:(Wx ym (ns.getD 2 0) D).length=ym.length:=by unfold Wx;rw [Fa,Fv]
   have ht5:H4 tl=some (.lst (((Wx ym (ns.getD 2 0) D).map B8).map V.str)):=ht4;have hfst:=J64 (ym:=ym) (c:=ns.getD 2 0) (D:=D);clear ht4;generalize Wx ym (ns.getD 2 0) D=ts at hgood hts ht5 hfst;walk_at "go"
   have hjl:=Mz (b:=100) (ps:=ts.map B8) fun p hp=>by obtain ⟨t,ht,rfl⟩:=FH.mp hp;exact Mv (hgood t ht).1
   rw [Fa]at hjl
   have l3:(Str.ofString "; ").length=2:=by decide+kernel
   refine ⟨ts.map B8,SqL.of ht5,by rw [Fa,l3];omega,ts,rfl,fun e=>by rw [e]at hts;simp at hts;omega,by omega,fun t ht=>(hgood t ht).1,by rw [hfst];exact ynd,fun st H5 sm5 hst=>?_⟩;have sm05:=sm4.trans sm5;have hn5:=sm5 _ _ hn4;clear hjl l3;rename_i rest hrest;subst hrest;walk_at "go";obtain ⟨cs,ecs,hcs1,hcs2⟩:=Jb6 ns 6 66;refine ⟨_,sm05.seq hS,fun p hp=>?_⟩;rw [show G3 (ns.map V.int) (some 6) (some 66)=cs.map V.int from ecs];have sm6:A7 H5 (upd H5 p (.lst (cs.map V.int))):=A7.new hp;have hp6:upd H5 p (.lst (cs.map V.int)) p=some (.lst (cs.map V.int)):=A3;generalize upd H5 p (.lst (cs.map V.int))=H6 at sm6 hp6 ⊢;have hn6:=sm6 _ _ hn5;refine ⟨⟨_,SqL.of hp6⟩,Ut (fun i=>V.str (ym.getD (cs.getD i 0 % (ym.length:Int)).toNat Str.empty)) (SqL.of hp6) (by rw [Fa];omega) ?_ ?_⟩
   · intro b i x H7 Q' hx sm7 q'
     rw [Fg]at hx
     cases hc:cs[i]? with
     | none=>rw [hc]at hx;cases hx
     | some c=>
     rw [hc]at hx;cases hx;have e0:=Ht c (show (ym.length:Int)≠0 by omega);have e1:=Hm c (show (0:Int) < ym.length by omega)
     have ec:cs.getD i 0=c:=by rw [Fc,hc];rfl
     rw [ec]at q';walk_at "go";refine Cq (SqL.of (sm7 _ _ hn6)) (Mm e0 (by rw [Fg,Fb (by omega)];rfl)) ?_;rw [Fc,Fb (by omega)]at q';exact q'
   rw [Fa];intro ro hro
   obtain ⟨ys,hys⟩:∃ys:List Str,(List.range cs.length).map (fun i=>ym.getD (cs.getD i 0 % (ym.length:Int)).toNat Str.empty)=ys∧True:=⟨_,rfl,trivial⟩
   have eys:(List.range cs.length).map (fun i=>V.str (ym.getD (cs.getD i 0 % (ym.length:Int)).toNat Str.empty))=ys.map V.str:=by rw [← hys.1,FR];rfl
   rw [eys]
   have hysl:ys.length≤60:=by rw [← hys.1,Fa,Fv];omega
   have hysm:∀y∈ys,y∈ym:=fun y hy=>by
    rw [← hys.1]at hy;obtain ⟨i,_,rfl⟩:=FH.mp hy;have e0:=Ht (cs.getD i 0) (show (ym.length:Int)≠0 by omega);have e1:=Hm (cs.getD i 0) (show (0:Int) < ym.length by omega);rw [Fc,Fb (by omega)];exact FU _
   have sm06:=sm05.trans sm6;have sm7:A7 H6 (upd H6 ro (.lst (ys.map V.str))):=A7.new hro;have hro7:upd H6 ro (.lst (ys.map V.str)) ro=some (.lst (ys.map V.str)):=A3;generalize upd H6 ro (.lst (ys.map V.str))=H7 at sm7 hro7 ⊢;have sm07:=sm06.trans sm7;have hst7:=hst.same (sm6.trans sm7);clear eys hys ecs hp6 hn6 hcs1 hcs2;rename_i rest hrest;subst hrest;walk_at "go";have hysn:∀y∈ys,Bz y.cps.toList=true:=fun y hy=>hyn y (hysm y hy)
   have hjl2:=Mz (b:=8) (ps:=ys) fun p hp=>by have:=Ku (hysn p hp);rw [Em]at this;exact this.2
   have l4:(Str.ofString " ").length=1:=by decide+kernel
   refine ⟨ys,SqL.of hro7,by rw [l4];omega,ys,rfl,by omega,hysn,fun ak H8 hak sm8 hak8=>?_⟩;have sm08:=sm07.trans sm8;have hst8:=hst7.same sm8;have hro8:=sm8 _ _ hro7;clear hjl2 l4;rename_i rest hrest;subst hrest;walk_at "go";intro si hsi;have sm9:A7 H8 (upd H8 si (.lst [])):=A7.new hsi;have hsi9:upd H8 si (.lst []) si=some (.lst []):=A3;have hsi0:H8 si=none:=hsi;have hS8:=sm08.seq hS;generalize upd H8 si (.lst [])=H9 at sm9 hsi9 ⊢;rename_i rest hrest;subst hrest;walk_at "go";have hk0:=Ht (ns.getD 3 0) (show (6:Int)≠0 by decide);have hk1:=Hm (ns.getD 3 0) (show (0:Int) < 6 by decide);refine ⟨ns,sm9.seq hS8,by decide,hl,by decide,by omega,by omega,?_⟩
   have hL1:1≤(1+ns.getD 3 0 % 6).toNat:=by omega
   have hL6:(1+ns.getD 3 0 % 6).toNat≤6:=by omega
   generalize (1+ns.getD 3 0 % 6).toNat=L at hL1 hL6 ⊢;clear hk0 hk1;rename_i rest hrest;refine K9 (fun k σ H'=>∃(zs:List Int) (w5:Option V),σ=[some (V.ref a),some (V.int ym.length),some (V.ref np),some (V.int D),some (V.ref tl),w5,v6,some (V.ref st),some (V.ref ro),some (V.ref ak),some (V.ref si),none,none,none,none,none,none,none,none,none]∧A7 H8 H'∧H' si=some (.lst (zs.map V.int))∧zs.length≤k∧k≤zs.length∧∀z∈zs,1≤z∧z≤4) ⟨[],v5,rfl,sm9,hsi9,Fh _,Fh _,(fun z hz=>by cases hz)⟩ ?_ ?_
   · clear hrest
     rintro k σ H' hk ⟨zs,w5,rfl,sm,hs',h1,h2,hz⟩;have hSk:=sm.seq hS8;walk_at "go";have e0:=Ht ((ns.getD 4 0).fdiv ((k:Int)+1)+ns.getD 5 0 * k) (show (4:Int)≠0 by decide);have e1:=Hm ((ns.getD 4 0).fdiv ((k:Int)+1)+ns.getD 5 0 * k) (show (0:Int) < 4 by decide);refine ⟨.inl ⟨rfl,_,SqL.of hs'⟩,ns,hSk,by decide,hl,by omega,FM (m:=100) (by omega) (by decide),ns,hSk,by decide,hl,J3f (by omega) (by omega),by decide,si,_,_,rfl,rfl,hs',by rw [Fa];omega,fun b o e=>?_,zs++[_],by rw [A3,Fw];rfl,by simp;omega,by simp;omega,fun z hz'=>?_⟩
     · rw [A2 (A8 e hsi0)];exact sm _ _ e
     · rcases FI.mp hz' with h | h
       · exact hz z h
       · rw [Fj.mp h];omega
   · rintro σ H10 ⟨zs,w5,rfl,sm10,hs10,h1,h2,hz⟩
     subst hrest;have hst10:=hst8.same sm10;have hro10:=sm10 _ _ hro8;have hak10:=sm10 _ _ hak8;have sm010:=sm08.trans sm10;clear sm9 hsi9;walk_at "go";refine ⟨_,.inl (SqL.of hs10),fun l hl' tw dx htw hdx ntd=>?_⟩;have sm11:A7 H10 (upd H10 l (.lst (zs.map V.int))):=A7.new hl';have hl11:upd H10 l (.lst (zs.map V.int)) l=some (.lst (zs.map V.int)):=A3;generalize upd H10 l (.lst (zs.map V.int))=H11 at sm11 hl11 htw hdx ⊢;have smk:A7 H11 (upd (upd H11 dx (.own tw)) tw (.ins Z1 dx [])):=Wp htw hdx;refine ⟨dx,A3,ts,(hst10.same sm11).same smk,by rw [hfst];exact ynd,fun t ht=>(hgood t ht).2,by omega,zs,SqL.of (smk _ _ hl11),by omega,by omega,fun z h=>⟨(hz z h).1,by have:=(hz z h).2;omega⟩,fun x s H12 sb tow eR eZ eP eF own'=>?_⟩;have sm12:A7 H11 H12:=Su htw hdx sb;rename_i rest hrest;subst hrest;walk_at "go";have sm1012:=sm11.trans sm12;refine ⟨zs,SqL.of (sm1012 _ _ hs10),?_⟩;have hst12:=hst10.same sm1012
     have hro12:=sm1012 _ _ hro10;have hak12:=sm1012 _ _ hak10;rename_i rest hrest;subst hrest;walk_at "go";obtain ⟨hz5,hz6⟩:=J65 hz
     obtain ⟨N,hN⟩:∃N:Nat,zs.sum=(N:Int)∧True:=⟨zs.sum.toNat,by omega,trivial⟩
     have hN1:1≤N:=by have:=hN.1;omega
     have hN24:N≤24:=by have:=hN.1;omega
     have hTn:(ts.map (·.1)).Nodup:=by rw [hfst];exact ynd
     have hTi:∀y∈ys,y∈ts.map (·.1):=fun y hy=>by rw [hfst];exact hysm y hy
     have hR1:∀y∈ys,rm ts y=1:=fun y hy=>by
      obtain ⟨i,t,ht,e⟩:=Kd (hTi y hy);rw [← e,Oi hTn ht];exact (hgood t (Fk ht)).2
     have hTN:∀y∈ys,rm ts y≤(N:Int):=fun y hy=>by rw [hR1 y hy];omega
     have htl60:ts.length≤60:=by omega
     rw [hN.1];intro q1 dq hq1 hdq nq1;refine ⟨dq,A3,by omega,by omega,fun H13 la sb13 hla hO=>?_⟩;have sA:A7 H12 H13:=Su hq1 hdq sb13
     have hM0:∀k∈[q1,la],H12 k=none:=fun k hk=>by
      rcases Fy.mp hk with h | h
      · rw [h];exact hq1
      · rw [Fj.mp h];exact Bd (Wp hq1 hdq) hla
     have nak:ak∉[q1,la]:=fun h=>by rw [hM0 _ h]at hak12;cases hak12
     refine ⟨H12,st,[q1,la],(N:Int),ts,ys,s20,hO,li0,hst12,sA,hM0,hTn,htl60,SqL.of (sA _ _ hak12),nak,by omega,hTi,hTN,by omega,by omega,FB _,fun b1 as1 gs1 H14 kp14 hb1 htup1 bk1 at2 hbn1 hbg1 hgn1 hx1=>?_⟩;have sm14:A7 H12 H14:=fun x o e=>kp14 x o (fun h=>by rw [hM0 x h]at e;cases e) (sA x o e)
     have B1:J5s Z0 H14 b1 as1 gs1 ts N ys:=⟨hb1,bk1.n.trans Kk,bk1.m.trans Kk,fun i a g h1 h2=>⟨(hx1 i a g h1 h2).2.2.2.1,(hx1 i a g h1 h2).2.2.2.2⟩⟩
     rename_i rest hrest;subst hrest;walk_at "go";refine ⟨ts,hst12.same sm14,hTn,ys,SqL.of (sm14 _ _ hak12),by omega,hTi,hTN,by omega,by omega,as1,gs1,_,bk1,N28.J1p li0 hTi hTN,fun l2 qs H15 hl2 sm15 td=>?_⟩
     have hno:∀b o,H11 b=some o→b∉own tw x:=fun b o e h=>by
      rcases own' b (Fn _ h) with e1 | e1
      · rw [e1,htw]at e;cases e
      · rw [smk _ _ e]at e1;cases e1
     have hni:∀b,b∈own tw x→H11 b=none:=fun b h=>by
      cases e:H11 b with
      | none=>rfl
      | some o=>exact absurd h (hno b o e)
     have sT11:By K Z2 H11 st ts (own tw x):=(By.of (hst10.same sm11)).mono fun b hb=> .inr (hni b hb);have sm1215:A7 H12 H15:=sm14.trans sm15;have sT15:By K Z2 H15 st ts (own tw x):=sT11.off (.of (sm12.trans sm1215));have nro:=hno _ _ (sm11 _ _ hro10);have nak2:=hno _ _ (sm11 _ _ hak10);have nsi:=hno _ _ (sm11 _ _ hs10);have nM:=hno _ _ (sm11 _ _ (sm010 _ _ hM));have nP:=hno _ _ (sm11 _ _ (sm010 _ _ hP));have nl2:=O0 tow.to.tw (Bd sm14 hl2);have nqs:∀(j:Nat) (q:Addr),qs[j]?=some q→q∉own tw x:=fun j q h=>O0 tow.to.tw (Bd sm14 (td.q j q h).1);have nb1:=O0 tow.to.tw (Bd sA hbn1);have hBk:=J88 (B1.same sm15);have tow15:=tow.same sm1215;have hro15:=sm1215 _ _ hro12;have hak15:=sm1215 _ _ hak12;have hsi15:=sm1215 _ _ (sm1012 _ _ hs10);have hM15:=(sm12.trans sm1215) _ _ (sm11 _ _ (sm010 _ _ hM));have hP15:=(sm12.trans sm1215) _ _ (sm11 _ _ (sm010 _ _ hP));have tdL:=td.L;have tdN:=td.N
     have tdq:∀(j:Nat) (q:Addr),qs[j]?=some q→H15 q=some (.lst ((L63 Z0 ts N ys (j+1)).map V.str)):=fun j q h=>by
      have hj:=(Fe.mp h).1;rw [← Jcx (C:=Z0) hTi hTN (show j+1≤ys.length by omega)];exact (td.q j q h).2
     clear td bk1 hx1 hbg1 hgn1 hb1 htup1 at2 kp14 hO nak sb13 hla hM0 sA nq1 own' hno hni sT11 tow sm14 sm15 hst12 hro12 hak12 sm1012 sm12 hbn1 hl2 smk htw hdx ntd hl11 sm11 hl' hst10 hro10 hak10 hs10 sm010 sm10 B1;rename_i rest hrest;subst hrest;walk_at "go";refine ⟨_,.inl (SqL.of tdL),_,.inl (SqL.of hro15),?_⟩;rw [if_neg (by rw [Fa,Fa];omega)]
     have hti0:TI (N41.cst ts) (rm ts) ys zs 0 s.R s.ff s.pd:=by rw [eR,eF,eP];exact J8d
     have eZ':s.zs=zs∧True:=⟨eZ,trivial⟩
     have eF':(0:Nat)=0→s.ff=List.replicate (zs.length+1) 0:=fun _=>eF;clear eR eF eP eZ;rename_i rest hrest;subst hrest;walk_at "go";refine ⟨_,.inl (SqL.of hro15),?_⟩;rw [Fa];refine ⟨by omega,by omega,?_⟩;rename_i rest hrest;refine K9 (fun i σ H'=>∃(s':TwS) (g:Gt) (v15 v16:Option V),σ=[some (V.ref a),some (V.int ym.length),some (V.ref np),some (V.int D),some (V.ref tl),w5,v6,some (V.ref st),some (V.ref ro),some (V.ref ak),some (V.ref si),some (V.ref tw),some (V.int N),some (V.ref b1),some (V.ref l2),v15,v16,none,none,none]∧Off (own tw x) H15 H'∧Wq K Z1 Z2 H' tw x s' g ts (1+2 * i)∧(s'.zs=zs∧True)∧TI (N41.cst ts) (rm ts) ys zs i s'.R s'.ff s'.pd∧Z93 g∧(i=0→s'.ff=List.replicate (zs.length+1) 0)) ⟨s,g0,none,none,rfl,.of (A7.refl _),tow15,eZ',hti0,Jcz,eF'⟩ ?_ ?_
     · clear hrest
       rintro i σ H' hi ⟨s',g,v15,v16,rfl,of,tow',ez,ti,hz93,hff⟩;have hro':=of _ _ hro15 nro;have hak':=of _ _ hak15 nak2;have hsi':=of _ _ hsi15 nsi;have hl2':=of _ _ tdL nl2;walk_at "go";refine ⟨ys,i,rfl,N,rfl,SqL.of hro',by omega,hi,fun p H1 hp sm1 hp1=>?_⟩;have tow1:=tow'.same sm1;obtain ⟨dx,fs,ho,hfs⟩:=tow1.to.tw.o;have hak1:=sm1 _ _ hak'
       have hgi:ys[i]?=some (yat ys i):=by unfold yat;rw [Fc,Fb hi];rfl
       have hgv:atI (ys.map V.str) (i:Int)=some (V.str (yat ys i)):=Qq (by rw [Fg,hgi];rfl);have hsum:zs.sum=(N:Int)∧True:=hN;rename_i rest hrest;subst hrest;walk_at "go";have npo:p∉own tw x:=O0 tow'.to.tw hp;have hsi1:=sm1 _ _ hsi';have hl21:=sm1 _ _ hl2';have of1:Off (own tw x) H15 H1:=of.trans (.of sm1)
       have hzs:∀z∈zs,1≤z∧z≤1000000:=fun z h=>⟨(hz z h).1,by have:=(hz z h).2;omega⟩
       refine ⟨dx,fs,ho,hfs.m _ (by simp),Cq (SqL.of hak1) hgv ⟨x,s',g,yat ys i,rfl,ts,_,tow1,hTi _ (Fk hgi),by omega,fun k s2 H2 of2 tow2 eR2 eZ2 eP2 on2 eF2=>?_⟩⟩;have ti2:=J8b ti (fun z h=>(hz z h).1) (by omega) hR1 hi (by have:=on2.1;rw [ez.1]at this;exact this) (by have:=on2.2.1;rw [ez.1]at this;exact this) (by have:=on2.2.2.1;rw [ez.1]at this;exact this) (by have:=on2.2.2.2;rw [ez.1]at this;exact this)
       have eR3:s2.R=(yat ys i::s'.R.erase (yat ys i)).take zs.sum.toNat:=by rw [eR2];unfold Qe;rw [ez.1]
       rw [← eR3,← eF2,← show s2.pd=s'.pd+(if yat ys i∈s'.R then 0 else N41.cst ts (yat ys i)) from eP2]at ti2;have hz2:Z93 (P8 s'.zs.sum s'.R (yat ys i) g):=J66 hz93
       have ez2:s2.zs=zs∧True:=⟨eZ2.trans ez.1,trivial⟩
       have eR4:s2.R=(nw ys (i+1)).take N∧True:=⟨by rw [ti2.r,hN.1,Int.toNat_natCast],trivial⟩
       clear eR2 eR3 eF2 eP2 eZ2 on2;rw [if_neg (fun h=>h (hz2 _).1)];obtain ⟨dx2,fs2,ho2,hfs2⟩:=tow2.to.tw.o;refine ⟨dx2,fs2,ho2,hfs2.m _ (by simp),x,s2,tow2.to.tw,tow2.to.zl,tow2.to.zz,fun p3 as3 H3 hp3 sm3 hp33 lv3 u1 u2 u3=>?_⟩;have hp2:=sm3 _ _ (of2 _ _ hp1 npo);refine ⟨(nw ys (i+1)).take N,hp2,zs,SqL.of (sm3 _ _ (of2 _ _ hsi1 nsi)),by omega,by rw [FX];omega,hzs,fun p4 as4 H4 hp4 sm4 hp44 lv4=>⟨⟨p3,p4,as3,as4,rfl,rfl,SqL.of (sm4 _ _ hp33),SqL.of hp44,by rw [lv3.1,lv4.1,ez2.1],fun j u v hu hv=>⟨_,SqL.of (sm4 _ _ (lv3.2 j u hu)),?_,Im⟩⟩,?_⟩⟩
       · rw [ez2.1,eR4.1]
         exact SqL.of (lv4.2 j v hv)
       have tow4:=tow2.same (sm3.trans sm4);have of4:=of1.trans (of2.trans (.of (sm3.trans sm4)));have hp5:=sm4 _ _ hp2;clear u1 u2 u3 lv3 lv4 hp44 hp33 hp4 hp3 sm3 sm4 of2 tow2 ho2 hfs2 hp2;refine ⟨false,rfl,?_⟩;rw [if_neg (by decide)]
       have hq:qs[i]?=some (qs.getD i 0):=by rw [Fc,Fb (by omega)];rfl
       have hqv:atI (qs.map V.ref) (i:Int)=some (V.ref (qs.getD i 0)):=Qq (by rw [Fg,hq];rfl);have hl24:=of4 _ _ tdL nl2;have hq4:=of4 _ _ (tdq i _ hq) (nqs i _ hq);have hpm:=J08 (C:=Z0) (ts:=ts) hN1 hTi hR1 (show i+1≤ys.length by omega)
       have hpl:(L63 Z0 ts (N:Int) ys (i+1)).length < 64:=by rw [hpm.length_eq,FX];omega
       rename_i rest hrest;subst hrest;walk_at "go";refine Cq (SqL.of hl24) hqv ⟨_,rfl,_,SqL.of hq4,hpl,fun a1 z1 ha1 pm1 so1=>?_⟩;have n1:A7 H4 (upd H4 a1 (.lst (z1.map V.str))):=A7.new ha1;refine ⟨_,SqL.of (n1 _ _ hp5),by rw [FX];omega,fun a2 z2 ha2 pm2 so2=>?_⟩;have n2:=n1.trans (A7.new (o:= .lst (z2.map V.str)) ha2);have e12:z1=z2:=Wd z1 z2 ((pm1.trans hpm).trans pm2.symm) so1 so2;refine ⟨_,Tw (SqL.of ((A7.new ha2) _ _ A3)) (SqL.of A3),?_⟩;rw [Fx e12,if_neg (by decide)];exact ⟨of4.trans (.of n2),s2,_,tow4.same n2,ez2.1,ti2,hz2⟩
     · rintro σ H' ⟨s',g,v15,v16,rfl,of,tow',ez,ti,hz93,hff⟩
       subst hrest;have hro':=of _ _ hro15 nro;have hak':=of _ _ hak15 nak2;have hsi':=of _ _ hsi15 nsi;have sT':=sT15.off of;have hBk':=J67 of tow15.to.tw nb1 hBk;have hM':=of _ _ hM15 nM;have hP':=of _ _ hP15 nP;clear hro15 hak15 hsi15 sT15 hBk hM15 hP15 of tow15 eZ' hti0 tdL tdN tdq nqs nl2 nb1 sm1215;walk_at "go";intro p hp;have smp:A7 H' (upd H' p (.lst [])):=A7.new hp;refine ⟨_,Tw (ys:=[]) (SqL.of (smp _ _ hro')) (SqL.of A3),?_⟩;have towp:=tow'.same smp;have hsip:=smp _ _ hsi';have hrop:=smp _ _ hro';have hakp:=smp _ _ hak';have sTp:=sT'.off (.of smp);have hBkp:=N55.Kx.same smp hBk';have hMp:=smp _ _ hM';have hPp:=smp _ _ hP';generalize upd H' p (.lst [])=Hp at smp towp hsip hrop hakp sTp hBkp hMp hPp ⊢;clear hp smp tow' hsi' hro' hak' sT' hBk' hM' hP' nro nak2 nsi nM nP
       by_cases hy0:ys=[]
       · rw [if_pos (Fx hy0)]
         obtain ⟨dx,fs,ho,hfs⟩:=towp.to.tw.o;refine ⟨dx,fs,ho,hfs.m _ (by simp),x,s',towp.to.tw,by rw [ti.l];omega,fun p1 H1 hp1 sm1 hp11=>⟨by rw [line];decide,fun p2 hp2=>⟨_,.inl (SqL.of ((A7.new hp2) _ _ (sm1 _ _ hsip))),?_⟩⟩⟩;rw [Fa];refine ⟨p2,_,_,rfl,rfl,A3,by omega,by omega,by rw [line];show 1 * _≤_;omega,fun p3 hp3=>?_⟩;have sm3:A7 H1 (upd (upd H1 p2 (.lst [V.int 0])) p3 (.lst (List.replicate ((zs.length:Int)+1).toNat [V.int 0]).flatten)):=(A7.new hp2).trans (A7.new hp3);have h0:s'.ff=List.replicate (zs.length+1) 0:=hff (by rw [hy0];rfl)
         have hpd:s'.pd=0:=by rw [ti.p,hy0];rfl
         refine ⟨true,⟨p1,p3,_,_,rfl,rfl,.inl ⟨SqL.of (sm3 _ _ hp11),SqL.of A3⟩,?_,?_,?_⟩,?_⟩
         · exact Hf.mpr fun v hv=>by obtain ⟨_,_,rfl⟩:=FH.mp hv;rfl
         · rw [Jbd];exact Hf.mpr fun v hv=>by obtain ⟨_,_,rfl⟩:=FH.mp hv;rfl
         · rw [Jbd,h0,Dc rfl]
           refine (Hf.mpr fun j hj=>?_).symm;have hj':=FY.mp hj;rw [Fa,Jx]at hj';rw [Fc,Fg,List.getElem?_replicate,if_pos hj'];rfl
         · rw [if_pos rfl]
           have tw3:=(towp.same (sm1.trans sm3)).to.tw;obtain ⟨dx,fs,ho,hfs⟩:=tw3.o;refine ⟨dx,fs,ho,hfs.m _ (by simp),x,s',tw3,?_⟩;rw [Fx hpd];exact q _
       · rw [if_neg (by simpa using hy0)]
         rename_i rest hrest;subst hrest;walk_at "go";refine ⟨ts,sTp.at,hTn,ys,SqL.of hakp,by omega,hTi,fun t ht=>(by rw [(hgood t ht).2];decide),fun qS as Zz H1 hq sm1 hq1 hSt hZ hZl=>?_⟩;rename_i rest hrest;subst hrest;walk_at "go"
         have hw1:∃w∈Zz,w≤1:=by
          obtain ⟨w',h1,h2,_,hm'⟩:=hZ.2 hy0;obtain ⟨y,hy,rfl⟩:=FH.mp h1;exact ⟨_,(hm' _).mpr (.inl rfl),by rw [hR1 y hy];exact Rz _⟩
         refine ⟨as,SqL.of hq1,Zz,_,_,ys,hSt,hZ,hZl,(by obtain ⟨w',a1,a2⟩:=hw1;exact ⟨w',a1,by omega⟩),fun t z H2 ht sm2 hz1 hz2 hz3 ht2=>?_⟩;obtain ⟨m1,m2⟩:=N35.V4 (C:=N41.cst ts) hZ hz1 hz2 hz3;rw [← m1,← m2]at ht2;have sm12:=sm1.trans sm2;refine ⟨_,SqT.of ht2,rfl,_,_,rfl,_,_,rfl,rfl,?_⟩;have tw2:=(towp.same sm12).to.tw;have st2:=sTp.at.same sm12;have hBk2:=N55.Kx.same sm12 hBkp;have hM2:=sm12 _ _ hMp;have hP2:=sm12 _ _ hPp;have hsi2:=sm12 _ _ hsip;have hq2:=sm2 _ _ hq1;have hSt2:=hSt.same sm2;have hro2:=sm12 _ _ hrop;clear towp sTp hBkp hMp hPp hsip hrop hq1 hSt hakp sm12 sm1 sm2 hq ht hz1 hz2 hz3 ht2 m1 m2;rename_i rest hrest;subst hrest;walk_at "go"
         have hbl:(Vj Z0 ts N ys as1 gs1).length≤250:=by unfold Vj;rw [Fa,Fv];omega
         refine ⟨_,hBk2,hbl,.inl hM2,fun H3 tk3=>?_⟩;rw [if_neg (fun h=>h (J89 hN1 hTi hR1))];have odd0:NPb.Odd (.tbl #[]):= .inl ⟨_,rfl⟩;have hP3:=tk3.but _ _ hP2 (by decide);refine ⟨ts,NPb.Aa.odd tk3.but hM2 odd0 st2,hTn,_,hBk2.tk tk3 (.inl hM2),hbl,fun r hr=>?_,.inl hP3,fun H4 tk4=>?_⟩
         · obtain ⟨i,hi,rfl⟩:=FH.mp hr
           have hi:=FY.mp hi
           have hzi:ys[i]?=some (yat ys i):=by unfold yat;rw [Fc,Fb hi];rfl
           show (r63 Z0 ts N ys i).1∈_;rw [(Sy hN1 hTi hR1 hzi).1];exact hTi _ (Fk hzi)
         rw [if_neg (fun h=>h (J60 hN1 hTi hR1))];have tw4:=Bf.odd tk4.but hP3 odd0 (Bf.odd tk3.but hM2 odd0 tw2);have hSt4:=D8.odd tk4.but hP3 odd0 (D8.odd tk3.but hM2 odd0 hSt2);have hq4:=tk4.lst (.inl hP3) (tk3.lst (.inl hM2) hq2);have hsi4:=tk4.lst (.inl hP3) (tk3.lst (.inl hM2) hsi2);have hro4:=tk4.lst (.inl hP3) (tk3.lst (.inl hM2) hro2);obtain ⟨dx,fs,ho,hfs⟩:=tw4.o;have hpd:=ti.p;rw [hN.1]at hpd;rename_i rest hrest;subst hrest;walk_at "go";refine ⟨dx,fs,ho,hfs.m _ (by simp),x,s',tw4,?_⟩;rw [if_pos hpd]
         have tizs:N93.TI (N41.cst ts) (rm ts) ys s'.zs ys.length s'.R s'.ff s'.pd:=by rw [ez.1];exact ti
         exact ⟨_,.inl (SqL.of hro4),x,s',as,Zz,ts,ys,by rw [Fa],tw4,tizs,SqL.of hq4,hSt4,hZ,hZl,hw1,by rw [ez.1];exact SqL.of hsi4,by rw [ez.1];omega,by rw [ez.1];omega,(by rw [ez.1];exact fun z h=>⟨(hz z h).1,by have:=(hz z h).2;omega⟩),by omega,fun H' _=>q H'⟩
end
theorem Jbi{l:W.OpenLaw}{w:World}{K:W.Frag}{h:Heap}{mg:Str→Option Value}{fa f0 f1 f2 f3 f4 f5 f6 f7 f8 f9 f10 f11 f12 f13 f14 f15 f16 f17 f18 f19 f20 f21 f22 f23 f24 f25 f26 f27 f28 f29 f30 f31 f32 f33 f34 f35 f36 f37 f38 f39 f40 f41 f42 f43 f44 f45 f46 f47 f48 f49 f50 f51 f52 f53 f54 f55 f56 f57 f58 f59 f60 f61 f62 f63 f64 f65 f66 f67 f68 f69 f70 Z2 Z5 Z3 Z6 Z4 Z0 Z1:Addr}(X:K.In h)(G:h.Ns mainGlobals mg)(hfa:mg "law"=some (.ref fa))
 {od16 an16 od17 an17 od43 an43 od48 an48 od70 an70:Option Addr} {sl16 sl17 sl43 sl48 sl70:Array (Option Value)} {oc16 kV16 dc16 pm16 cd16 ct16 oc17 kV17 dc17 pm17 cd17 ct17 oc43 kV43 dc43 pm43 cd43 ct43 oc48 kV48 dc48 pm48 cd48 ct48 oc70 kV70 dc70 pm70 cd70 ct70:Value}
 {d0 d1 d2 d3 d4 d5 d6 d7 d8 d9 d10 d11 d12 d13 d14 d15 d18 d19 d20 d21 d22 d23 d24 d25 d26 d27 d28 d29 d30 d31 d32 d33 d34 d35 d36 d37 d38 d39 d40 d41 d42 d44 d45 d46 d47 d49 d50 d51 d52 d53 d54 d55 d56 d57 d58 d59 d60 d61 d62 d63 d64 d65 d66 d67 d68 d69:FuncData}
 (a0:W.nsIn K mainGlobals "is_whole"=some (some (.ref f0))) (F0:Fun K "is_whole" "is_whole" Z3p f0 d0)
 (a1:W.nsIn K mainGlobals "is_within"=some (some (.ref f1))) (F1:Fun K "is_within" "is_within" Z33 f1 d1)
 (a2:W.nsIn K mainGlobals "check_places"=some (some (.ref f2))) (F2:Fun K "check_places" "check_places" Z1n f2 d2)
 (a3:W.nsIn K mainGlobals "made_of"=some (some (.ref f3))) (F3:Fun K "made_of" "made_of" Z40 f3 d3)
 (a4:W.nsIn K mainGlobals "is_name"=some (some (.ref f4))) (F4:Fun K "is_name" "is_name" Z41 f4 d4)
 (a5:W.nsIn K mainGlobals "check_thing"=some (some (.ref f5))) (F5:Fun K "check_thing" "check_thing" Z1x f5 d5)
 (M6:Mk K Z2 f6) (F6:Fun K "__init__" "Stock.__init__" Z2p f6 d6)
 (M7:Cj K Z2 "has" f7) (F7:Fun K "has" "Stock.has" Z34 f7 d7)
 (M8:Cj K Z2 "thing_of" f8) (F8:Fun K "thing_of" "Stock.thing_of" Z15 f8 d8)
 (M9:Cj K Z2 "room_of" f9) (F9:Fun K "room_of" "Stock.room_of" Z1i f9 d9)
 (M10:Cj K Z2 "cost_of" f10) (F10:Fun K "cost_of" "Stock.cost_of" Z1j f10 d10)
 (a11:W.nsIn K mainGlobals "read_number"=some (some (.ref f11))) (F11:Fun K "read_number" "read_number" Z1y f11 d11)
 (a12:W.nsIn K mainGlobals "read_thing"=some (some (.ref f12))) (F12:Fun K "read_thing" "read_thing" Z2q f12 d12)
 (a13:W.nsIn K mainGlobals "read_stock"=some (some (.ref f13))) (F13:Fun K "read_stock" "read_stock" Z2r f13 d13)
 (a14:W.nsIn K mainGlobals "read_asks"=some (some (.ref f14))) (F14:Fun K "read_asks" "read_asks" Z35 f14 d14)
 (a15:W.nsIn K mainGlobals "weighed"=some (some (.ref f15))) (F15:Fun K "weighed" "weighed" Z42 f15 d15)
 (a16:W.nsIn K mainGlobals "missed_by"=some (some (.ref f16))) (l16:K.lookup f16=some ⟨oc16,od16,.func (W.fnOf "missed_by" "missed_by" (Bp Z0f) (Bg Z0f) (A6 Z0f) .none kV16 dc16 pm16 an16 cd16 ct16),sl16⟩) (c16:W.codeIn K cd16 "missed_by"=true) (k16:W.keepIn K (.ref f16)=true)
 {cq9:Addr} (mc16:cd16= .ref cq9) (mh16:W.codeHdIn K cq9 524=true)
 (a17:W.nsIn K mainGlobals "paid_by"=some (some (.ref f17))) (l17:K.lookup f17=some ⟨oc17,od17,.func (W.fnOf "paid_by" "paid_by" (Bp Z0u) (Bg Z0u) (A6 Z0u) .none kV17 dc17 pm17 an17 cd17 ct17),sl17⟩) (c17:W.codeIn K cd17 "paid_by"=true) (k17:W.keepIn K (.ref f17)=true)
 {cq9:Addr} (mc17:cd17= .ref cq9) (mh17:W.codeHdIn K cq9 531=true)
 (M18:Cj K Z2 "names" f18) (F18:Fun K "names" "Stock.names" Z1z f18 d18)
 (M19:Cj K Z2 "number_of" f19) (F19:Fun K "number_of" "Stock.number_of" Z0w f19 d19)
 (a20:W.nsIn K mainGlobals "check_sizes"=some (some (.ref f20))) (F20:Fun K "check_sizes" "check_sizes" Z20 f20 d20)
 (a21:W.nsIn K mainGlobals "check_rooms"=some (some (.ref f21))) (F21:Fun K "check_rooms" "check_rooms" Z21 f21 d21)
 (M22:Cj K Z1 "write" f22) (F22:Fun K "write" "Tower.write" Z22 f22 d22)
 (M23:Cj K Z1 "fall_off" f23) (F23:Fun K "fall_off" "Tower.fall_off" Z16 f23 d23)
 (M24:Cj K Z1 "come" f24) (F24:Fun K "come" "Tower.come" Z2s f24 d24)
 (M25:Cj K Z1 "levels" f25) (F25:Fun K "levels" "Tower.levels" Z1o f25 d25)
 (M26:Cj K Z1 "shelf_of" f26) (F26:Fun K "shelf_of" "Tower.shelf_of" Z17 f26 d26)
 (M27:Cj K Z1 "stored" f27) (F27:Fun K "stored" "Tower.stored" Z1p f27 d27)
 (M28:Cj K Z1 "fetch" f28) (F28:Fun K "fetch" "Tower.fetch" Z23 f28 d28)
 (M29:Cj K Z1 "read" f29) (F29:Fun K "read" "Tower.read" Z2t f29 d29)
 (M30:Mk K Z1 f30) (F30:Fun K "__init__" "Tower.__init__" Z2u f30 d30)
 (M31:Cj K Z1 "found" f31) (F31:Fun K "found" "Tower.found" Z24 f31 d31)
 (M32:Cj K Z1 "spent" f32) (F32:Fun K "spent" "Tower.spent" Z25 f32 d32)
 (a33:W.nsIn K mainGlobals "check_asks"=some (some (.ref f33))) (F33:Fun K "check_asks" "check_asks" Z2v f33 d33)
 (M34:Mk K Z3 f34) (F34:Fun K "__init__" "Shelf.__init__" Z2w f34 d34)
 (M35:Cj K Z3 "lying" f35) (F35:Fun K "lying" "Shelf.lying" Z26 f35 d35)
 (M36:Cj K Z3 "holds" f36) (F36:Fun K "holds" "Shelf.holds" Z27 f36 d36)
 (M37:Cj K Z3 "room_left" f37) (F37:Fun K "room_left" "Shelf.room_left" Z0x f37 d37)
 (M38:Cj K Z3 "put" f38) (F38:Fun K "put" "Shelf.put" Z36 f38 d38)
 (M39:Cj K Z3 "cast" f39) (F39:Fun K "cast" "Shelf.cast" Z2x f39 d39)
 (a40:W.nsIn K mainGlobals "casts_off"=some (some (.ref f40))) (F40:Fun K "casts_off" "casts_off" Z37 f40 d40)
 (a41:W.nsIn K mainGlobals "serves"=some (some (.ref f41))) (F41:Fun K "serves" "serves" Z4n f41 d41)
 (a42:W.nsIn K mainGlobals "lying_after"=some (some (.ref f42))) (F42:Fun K "lying_after" "lying_after" Z28 f42 d42)
 (a43:W.findIn K (.ref Z6) "__init__"=some (some (.ref f43))) (l43:K.lookup f43=some ⟨oc43,od43,.func (W.fnOf "__init__" "Rule.__init__" (Bp Z0p) (Bg Z0p) (A6 Z0p) .none kV43 dc43 pm43 an43 cd43 ct43),sl43⟩) (c43:W.codeIn K cd43 "Rule.__init__"=true) (n43:W.isFn K (.ref f43)=true) (k43:W.keepIn K (.ref Z6)=true) (m43:W.makesIn K Z6=true) (kf43:W.keepIn K (.ref f43)=true)
 (fc43:W.findCls K (.ref Z6) (.type "type") "__init__"=some (.val (.ref f43))) (sc43:W.specialIn K (.ref Z6) "__getattribute__"=some (some (.builtin "type.__getattribute__"))) (rc43:W.readsIn K Z6 (.type "type")=true)
 (M44:Mk K Z0 f44) (F44:Fun K "__init__" "Ranked.__init__" Z29 f44 d44)
 (M45:Cj K Z0 "number_ask" f45) (F45:Fun K "number_ask" "Ranked.number_ask" Z0r f45 d45)
 (M46:Cj K Z0 "asked" f46) (F46:Fun K "asked" "Ranked.asked" Z1q f46 d46)
 (M47:Cj K Z0 "last_of" f47) (F47:Fun K "last_of" "Ranked.last_of" Z18 f47 d47)
 (a48:W.findIn K (.ref Z0) "rank"=some (some (.ref f48))) (l48:K.lookup f48=some ⟨oc48,od48,.func (W.fnOf "rank" "Ranked.rank" (Bp Z0b) (Bg Z0b) (A6 Z0b) .none kV48 dc48 pm48 an48 cd48 ct48),sl48⟩) (c48:W.codeIn K cd48 "Ranked.rank"=true) (n48:W.isFn K (.ref f48)=true) (k48:W.keepIn K (.ref f48)=true)
 (gv48:W.specialIn K (.ref f48) "__get__"=some (some (.builtin "function.__get__"))) (tv48:W.takesIn K (.ref f48)=some false)
 (M49:Cj K Z0 "choice" f49) (F49:Fun K "choice" "Ranked.choice" Z1k f49 d49)
 (M50:Cj K Z0 "gone" f50) (F50:Fun K "gone" "Rule.gone" Z2a f50 d50)
 (M51:Cj K Z0 "came" f51) (F51:Fun K "came" "Rule.came" Z2b f51 d51)
 (a52:W.nsIn K mainGlobals "make_room"=some (some (.ref f52))) (F52:Fun K "make_room" "make_room" Z38 f52 d52)
 (a53:W.nsIn K mainGlobals "row_of"=some (some (.ref f53))) (F53:Fun K "row_of" "row_of" Z4o f53 d53)
 (a54:W.nsIn K mainGlobals "book_of"=some (some (.ref f54))) (F54:Fun K "book_of" "book_of" Z43 f54 d54)
 (a55:W.nsIn K mainGlobals "earlier_asks"=some (some (.ref f55))) (F55:Fun K "earlier_asks" "earlier_asks" Z1r f55 d55)
 (M56:Mk K Z5 f56) (F56:Fun K "__init__" "Sums.__init__" Z39 f56 d56)
 (M57:Cj K Z5 "add" f57) (F57:Fun K "add" "Sums.add" Z3q f57 d57)
 (M58:Cj K Z5 "upto" f58) (F58:Fun K "upto" "Sums.upto" Z3a f58 d58)
 (a59:W.nsIn K mainGlobals "depths_of"=some (some (.ref f59))) (F59:Fun K "depths_of" "depths_of" Z3b f59 d59)
 (a60:W.nsIn K mainGlobals "is_there"=some (some (.ref f60))) (F60:Fun K "is_there" "is_there" Z3r f60 d60)
 (a61:W.nsIn K mainGlobals "step_with"=some (some (.ref f61))) (F61:Fun K "step_with" "step_with" Z3c f61 d61)
 (a62:W.nsIn K mainGlobals "steps_of"=some (some (.ref f62))) (F62:Fun K "steps_of" "steps_of" Z3s f62 d62)
 (a63:W.nsIn K mainGlobals "step_at"=some (some (.ref f63))) (F63:Fun K "step_at" "step_at" Z44 f63 d63)
 (a64:W.nsIn K mainGlobals "_law_cell"=some (some (.ref f64))) (F64:Fun K "_law_cell" "_law_cell" Z4p f64 d64)
 (a65:W.nsIn K mainGlobals "_law_whole"=some (some (.ref f65))) (F65:Fun K "_law_whole" "_law_whole" Z45 f65 d65)
 (a66:W.nsIn K mainGlobals "_law_names"=some (some (.ref f66))) (F66:Fun K "_law_names" "_law_names" Z46 f66 d66)
 (a67:W.nsIn K mainGlobals "_law_newest"=some (some (.ref f67))) (F67:Fun K "_law_newest" "_law_newest" Z3t f67 d67)
 (a68:W.nsIn K mainGlobals "_law_cut"=some (some (.ref f68))) (F68:Fun K "_law_cut" "_law_cut" Z59 f68 d68)
 (a69:W.nsIn K mainGlobals "_law_found"=some (some (.ref f69))) (F69:Fun K "_law_found" "_law_found" Z47 f69 d69)
 (a70:W.nsIn K mainGlobals "law"=some (some (.ref f70))) (l70:K.lookup f70=some ⟨oc70,od70,.func (W.fnOf "law" "law" (Bp Z2n) (Bg Z2n) (A6 Z2n) .none kV70 dc70 pm70 an70 cd70 ct70),sl70⟩) (c70:W.codeIn K cd70 "law"=true) (k70:W.keepIn K (.ref f70)=true)
 (Zg:W.nsIn K mainGlobals "len"=some none)
 (Zp:W.nsIn K mainGlobals "isinstance"=some none)
 (Z3n:W.nsIn K mainGlobals "int"=some none)
 (Z3m:W.nsIn K mainGlobals "bool"=some none)
 (Z4e:W.nsIn K mainGlobals "str"=some none)
 (Z0y:W.nsIn K mainGlobals "list"=some none)
 (Z4w:W.nsIn K mainGlobals "all"=some none)
 (Z09:W.nsIn K mainGlobals "range"=some none)
 (Z04:W.nsIn K mainGlobals "enumerate"=some none)
 (Z3o:W.nsIn K mainGlobals "zip"=some none)
 (Z1v:W.nsIn K mainGlobals "sum"=some none)
 (Z4x:W.nsIn K mainGlobals "set"=some none)
 (Z14:W.nsIn K mainGlobals "sorted"=some none)
 (Z4y:W.nsIn K mainGlobals "max"=some none)
 (Z4f:W.nsIn K mainGlobals "tuple"=some none)
 (Z4z:W.nsIn K mainGlobals "min"=some none)
 {Z6w:Tok} (Z1c:W.nsIn K mainGlobals "LETTERS"=some (some (.str "abcdefghijklmnopqrstuvwxyz" Z6w)))
 {Z6x:Tok} (Z1d:W.nsIn K mainGlobals "FIGURES"=some (some (.str "0123456789" Z6x)))
 {Z62:Tok} (Z0t:W.nsIn K mainGlobals "MOST_SIGNS"=some (some (.int 8 Z62)))
 {Z5r:Tok} (Z0n:W.nsIn K mainGlobals "MOST_THINGS"=some (some (.int 60 Z5r)))
 {Z6f:Tok} (Z0z:W.nsIn K mainGlobals "MOST_ROOM"=some (some (.int 1000 Z6f)))
 {Z5s:Tok} (Z0a:W.nsIn K mainGlobals "MOST_PLACES"=some (some (.int 1000000 Z5s)))
 {Z6g:Tok} (Z0o:W.nsIn K mainGlobals "MOST_ASKS"=some (some (.int 200 Z6g)))
 {Z6h:Tok} (Z10:W.nsIn K mainGlobals "MOST_SUMS"=some (some (.int 200 Z6h)))
 {Z55:Tok} (Z0h:W.nsIn K mainGlobals "MOST_FIGURES"=some (some (.int 31 Z55)))
 {Z56:Tok} (Z0i:W.nsIn K mainGlobals "MOST_SHELVES"=some (some (.int 6 Z56)))
 (Z4g:W.nsIn K mainGlobals "Stock"=some (some (.ref Z2))) (Z75:Cls K Z2)
 (Ze:W.findIn K (.ref Z2) "things"=some none)
 (Z57:W.nsIn K mainGlobals "Sums"=some (some (.ref Z5))) (Z7a:Cls K Z5)
 (Zm:W.findIn K (.ref Z5) "numbers"=some none)
 (Z4h:W.nsIn K mainGlobals "Shelf"=some (some (.ref Z3))) (Z76:Cls K Z3)
 (Zw:W.findIn K (.ref Z3) "stock"=some none)
 (Z05:W.findIn K (.ref Z3) "places"=some none)
 (Zl:W.findIn K (.ref Z3) "rooms"=some none)
 (Z58:W.nsIn K mainGlobals "Rule"=some (some (.ref Z6))) (Z7b:Cls K Z6)
 (Z4v:W.nsIn K mainGlobals "Ranked"=some (some (.ref Z4))) (Z73:Cls K Z4)
 (Z0g:W.findIn K (.ref Z4) "stock"=some none)
 (Z0e:W.findIn K (.ref Z4) "places"=some none)
 (Z0l:W.findIn K (.ref Z4) "present"=some none)
 (Z11:W.findIn K (.ref Z4) "last"=some none)
 (Z3z:W.nsIn K mainGlobals "Oldest"=some (some (.ref Z0))) (Z74:Cls K Z0)
 (Zy:W.findIn K (.ref Z0) "stock"=some none)
 (Zt:W.findIn K (.ref Z0) "places"=some none)
 (Zr:W.findIn K (.ref Z0) "present"=some none)
 (Z01:W.findIn K (.ref Z0) "last"=some none)
 (Z4i:W.nsIn K mainGlobals "Tower"=some (some (.ref Z1))) (Z77:Cls K Z1)
 (Zx:W.findIn K (.ref Z1) "stock"=some none)
 (Zq:W.findIn K (.ref Z1) "sizes"=some none)
 (Zn:W.findIn K (.ref Z1) "row"=some none)
 (Zo:W.findIn K (.ref Z1) "held"=some none)
 (Z07:W.findIn K (.ref Z1) "late"=some none)
 (Z02:W.findIn K (.ref Z1) "store"=some none)
 (Zu:W.findIn K (.ref Z1) "entries"=some none)
 (Z03:W.findIn K (.ref Z1) "finds"=some none)
 (Z08:W.findIn K (.ref Z1) "paid"=some none)
 :(∀tp∈([524,531]:List Addr),∃c,W.codeHdIn K c tp=true)∧∃fd:FuncData,(∀(s:Shared) (v:Value),BindsTo s fd ⟨[v],[]⟩ [("_law_script",v)])∧∀base:Heap,K.In base→base.Ns mainGlobals mg→(∀tp∈([524,531]:List Addr),base.BuiltinsAt mg tp)→Ar l.prog w K mg base CX0 12 fa fd ["_law_script"] (K2 524 531 K):=by
 have e:=hfa.symm.trans (W.mg_of X G a70);cases e
 have T:Txt K mg Z2 Z5 Z3 Z6 Z4 Z0 Z1:=⟨W.mg_of X G Z4g,Z75,Ze,W.mg_of X G Z57,Z7a,Zm,W.mg_of X G Z4h,Z76,Zw,Z05,Zl,W.mg_of X G Z58,Z7b,W.mg_of X G Z4v,Z73,Z0g,Z0e,Z0l,Z11,W.mg_of X G Z3z,Z74,Zy,Zt,Zr,Z01,W.mg_of X G Z4i,Z77,Zx,Zq,Zn,Zo,Z07,Z02,Zu,Z03,Z08,W.mg_none_of X G Zg,W.mg_none_of X G Zp,W.mg_none_of X G Z3n,W.mg_none_of X G Z3m,W.mg_none_of X G Z4e,W.mg_none_of X G Z0y,W.mg_none_of X G Z4w,W.mg_none_of X G Z09,W.mg_none_of X G Z04,W.mg_none_of X G Z3o,W.mg_none_of X G Z1v,W.mg_none_of X G Z4x,W.mg_none_of X G Z14,W.mg_none_of X G Z4y,W.mg_none_of X G Z4f,W.mg_none_of X G Z4z,⟨_,W.mg_of X G Z1c⟩,⟨_,W.mg_of X G Z1d⟩,⟨_,W.mg_of X G Z0t⟩,⟨_,W.mg_of X G Z0n⟩,⟨_,W.mg_of X G Z0z⟩,⟨_,W.mg_of X G Z0a⟩,⟨_,W.mg_of X G Z0o⟩,⟨_,W.mg_of X G Z10⟩,⟨_,W.mg_of X G Z0h⟩,⟨_,W.mg_of X G Z0i⟩⟩
 have F16:=Ml (st:=Z0f) l16 c16 k16;have F17:=Ml (st:=Z0u) l17 c17 k17;have F43:=Ml (st:=Z0p) l43 c43 kf43;have F48:=Ml (st:=Z0b) l48 c48 k48;have F70:=Ml (st:=Z2n) l70 c70 k70;refine ⟨L2.allc ⟨_,mh16⟩ (L2.allc ⟨_,mh17⟩ (L2.alln)),W.fnOf "law" "law" (Bp Z2n) (Bg Z2n) (A6 Z2n) .none kV70 dc70 pm70 an70 cd70 ct70,fun s v=> .of_eq rfl,fun base _ _ HB=>?_⟩
 have B:Bs l.prog w K mg base:=⟨h,X,G⟩
 have Z3u:=F0.d B a0 (Z6i F0 T) (F0.e1 fun _ _ _ _ _ _ _=>rfl);have Zd:=F1.d B a1 (Z63 F1 T Z3u) (F1.e3 fun _ _ _ _ _ _ _ _ _=>rfl);have Zf:=F2.d B a2 (Z50 F2 T Zd) (F2.e1 fun _ _ _ _ _ _ _=>rfl);have Z1e:=F3.d B a3 (Z6n F3 T) (F3.e2 fun _ _ _ _ _ _ _ _=>rfl);have Z1f:=F4.d B a4 (Z6o F4 T Z1e) (F4.e1 fun _ _ _ _ _ _ _=>rfl);have Z2c:=F5.d B a5 (Z5a F5 T Z1f Zd) (F5.e4 fun _ _ _ _ _ _ _ _ _ _=>rfl);have Z1l:=F6.i B M6 Z4g (Z5t F6 T Z2c) (F6.e2 fun _ _ _ _ _ _ _ _=>rfl);have Z3d:=F7.m B M7 (Z64 F7 T) (F7.e2 fun _ _ _ _ _ _ _ _=>rfl);have Zj:=F8.m B M8 (Z4j F8 T) (F8.e2 fun _ _ _ _ _ _ _ _=>rfl);have Z8:=F9.m B M9 (Z4q F9 T Zj) (F9.e2 fun _ _ _ _ _ _ _ _=>rfl);have Za:=F10.m B M10 (Z4r F10 T Zj) (F10.e2 fun _ _ _ _ _ _ _ _=>rfl);have Z12:=F11.d B a11 (Z5b F11 T Z1e) (F11.e1 fun _ _ _ _ _ _ _=>rfl);have Z2y:=F12.d B a12 (Z5u F12 T Z12) (F12.e1 fun _ _ _ _ _ _ _=>rfl);have Z30:=F13.d B a13 (Z5v F13 T Z2y Z1l) (F13.e1 fun _ _ _ _ _ _ _=>rfl)
 have Z3k:=F14.d B a14 (Z65 F14 T Z1f) (F14.e1 fun _ _ _ _ _ _ _=>rfl);have Z1g:=F15.d B a15 (Z6p F15 T) (F15.e2 fun _ _ _ _ _ _ _ _=>rfl)
 have Z3l:Def l.prog w K mg base CX0 6 "missed_by" ["book"] (Eg 524 (⟨243,25,243,39⟩:Pos) (("missed_by"++".<locals>.")++"<lambda>")):=⟨⟨f16,_,Z66 F16 T Z1g ⟨_,_,_,_,_,l16,mc16,mh16⟩ (HB 524 (by simp)),W.mg_of X G a16,k16,F16.b1 fun _ _ _ _ _ _ _=>rfl⟩⟩
 have Z4c:Def l.prog w K mg base CX0 6 "paid_by" ["stock","book"] (Iu 531 (⟨245,25,245,57⟩:Pos) (("paid_by"++".<locals>.")++"<lambda>") K Z2):=⟨⟨f17,_,Z6q F17 T Z1g Za ⟨_,_,_,_,_,l17,mc17,mh17⟩ (HB 531 (by simp)),W.mg_of X G a17,k17,F17.b2 fun _ _ _ _ _ _ _ _=>rfl⟩⟩
 have Z2h:=F18.m B M18 (Z5c F18 T) (F18.e1 fun _ _ _ _ _ _ _=>rfl);have Zv:=F19.m B M19 (Z48 F19 T Zj) (F19.e2 fun _ _ _ _ _ _ _ _=>rfl);have Z2f:=F20.d B a20 (Z5d F20 T Zf) (F20.e1 fun _ _ _ _ _ _ _=>rfl);have Z2g:=F21.d B a21 (Z5e F21 T Z8) (F21.e2 fun _ _ _ _ _ _ _ _=>rfl);have Z2d:=F22.m B M22 (Z5f F22 T) (F22.e2 fun _ _ _ _ _ _ _ _=>rfl);have Z19:=F23.m B M23 (Z4k F23 T Z2d) (F23.e2 fun _ _ _ _ _ _ _ _=>rfl);have Z2z:=F24.m B M24 (Z5w F24 T Z19) (F24.e2 fun _ _ _ _ _ _ _ _=>rfl);have Z06:=F25.m B M25 (Z51 F25 T) (F25.e1 fun _ _ _ _ _ _ _=>rfl);have Z1a:=F26.m B M26 (Z4l F26 T Zv Z06) (F26.e2 fun _ _ _ _ _ _ _ _=>rfl);have Z1s:=F27.m B M27 (Z52 F27 T Zv) (F27.e2 fun _ _ _ _ _ _ _ _=>rfl);have Z2e:=F28.m B M28 (Z5g F28 T Za Z1s) (F28.e3 fun _ _ _ _ _ _ _ _ _=>rfl);have Z32:=F29.m B M29 (Z5x F29 T Z1a Z2e Z2z) (F29.e2 fun _ _ _ _ _ _ _ _=>rfl);have Z31:=F30.i B M30 Z4i (Z5y F30 T Z2f Z2g Z2h) (F30.e3 fun _ _ _ _ _ _ _ _ _=>rfl)
 have Z0d:=F31.m B M31 (Z5h F31 T) (F31.e1 fun _ _ _ _ _ _ _=>rfl);have Z13:=F32.m B M32 (Z5i F32 T) (F32.e1 fun _ _ _ _ _ _ _=>rfl);have Zk:=F33.d B a33 (Z5z F33 T Zf Z3d Z8) (F33.e3 fun _ _ _ _ _ _ _ _ _=>rfl);have Z0k:=F34.i B M34 Z4h (Z60 F34 T Zf) (F34.e3 fun _ _ _ _ _ _ _ _ _=>rfl);have Z0c:=F35.m B M35 (Z5j F35 T) (F35.e1 fun _ _ _ _ _ _ _=>rfl);have Zc:=F36.m B M36 (Z5k F36 T) (F36.e2 fun _ _ _ _ _ _ _ _=>rfl);have Zi:=F37.m B M37 (Z49 F37 T) (F37.e1 fun _ _ _ _ _ _ _=>rfl);have Z0q:=F38.m B M38 (Z67 F38 T Z8 Zc Zi) (F38.e2 fun _ _ _ _ _ _ _ _=>rfl);have Z0j:=F39.m B M39 (Z61 F39 T Zc) (F39.e2 fun _ _ _ _ _ _ _ _=>rfl);have Z3e:=F40.d B a40 (Z68 F40 T Zc Z0j) (F40.e3 fun _ _ _ _ _ _ _ _ _=>rfl);have Z4s:=F41.d B a41 (Z6z F41 T Zc Z3e Z8 Zi Z0q) (F41.e3 fun _ _ _ _ _ _ _ _ _=>rfl);have Z2m:=F42.d B a42 (Z5l F42 T Zk Z0k Z4s Z0c) (F42.e4 fun _ _ _ _ _ _ _ _ _ _=>rfl)
 have Z3f:Jbc l.prog w K mg base CX0 4 "Rule" Z6 ["self","stock","places"] (Ej Z0 Z4):=⟨⟨f43,_,Z69 F43 T Zf,⟨m43,a43,n43,k43⟩,W.mg_of X G Z58,F43.b3 fun _ _ _ _ _ _ _ _ _=>rfl,fc43,kf43⟩,sc43,rc43⟩
 have Z2l:=F44.i B M44 Z3z (Z5m F44 T Z3f) (F44.e3 fun _ _ _ _ _ _ _ _ _=>rfl);have Z0s:=F45.m B M45 (Z3v F45 T) (F45.e2 fun _ _ _ _ _ _ _ _=>rfl);have Z1t:=F46.m B M46 (Z53 F46 T Z0s) (F46.e2 fun _ _ _ _ _ _ _ _=>rfl);have Z1b:=F47.m B M47 (Z4m F47 T) (F47.e2 fun _ _ _ _ _ _ _ _=>rfl)
 have Z2i:Jbf l.prog w K mg base 2 Z0 "rank" ["self","name"] (Ga Z0):=⟨⟨f48,_,Z5n F48 T Z1b,⟨a48,n48,k48⟩,F48.b2 fun _ _ _ _ _ _ _ _=>rfl,gv48,tv48⟩⟩
 have Z1m:=F49.m B M49 (Z4t F49 T Z2i) (F49.e2 fun _ _ _ _ _ _ _ _=>rfl);have Z2j:=F50.m B M50 (Z5o F50 T) (F50.e2 fun _ _ _ _ _ _ _ _=>rfl);have Z2k:=F51.m B M51 (Z5p F51 T) (F51.e2 fun _ _ _ _ _ _ _ _=>rfl);have Z3g:=F52.d B a52 (Z6a F52 T Zi Z0c Z1m Z0j Z2j) (F52.e3 fun _ _ _ _ _ _ _ _ _=>rfl);have Z4u:=F53.d B a53 (Z70 F53 T Z1t Zc Z8 Z3g Z0q Z2k) (F53.e3 fun _ _ _ _ _ _ _ _ _=>rfl);have Z4b:=F54.d B a54 (Z6r F54 T Zk Z0k Z4u) (F54.e2 fun _ _ _ _ _ _ _ _=>rfl);have Z1u:=F55.d B a55 (Z54 F55 T) (F55.e1 fun _ _ _ _ _ _ _=>rfl);have Z3h:=F56.i B M56 Z57 (Z6b F56 T Zd) (F56.e2 fun _ _ _ _ _ _ _ _=>rfl);have Z2o:=F57.m B M57 (Z6j F57 T Zd) (F57.e3 fun _ _ _ _ _ _ _ _ _=>rfl);have Z1w:=F58.m B M58 (Z6c F58 T Zd) (F58.e2 fun _ _ _ _ _ _ _ _=>rfl);have Z3i:=F59.d B a59 (Z6d F59 T Zk Z1u Z8 Z3h Z2o Z1w) (F59.e2 fun _ _ _ _ _ _ _ _=>rfl);have Z3w:=F60.d B a60 (Z6k F60 T) (F60.e2 fun _ _ _ _ _ _ _ _=>rfl)
 have Z3j:=F61.d B a61 (Z6e F61 T Z3w Za) (F61.e4 fun _ _ _ _ _ _ _ _ _ _=>rfl);have Z3y:=F62.d B a62 (Z6l F62 T Z3i Z8 Z3j) (F62.e2 fun _ _ _ _ _ _ _ _=>rfl);have Z1h:=F63.d B a63 (Z6s F63 T) (F63.e2 fun _ _ _ _ _ _ _ _=>rfl);have Z0m:=F64.d B a64 (Z71 F64 T) (F64.e2 fun _ _ _ _ _ _ _ _=>rfl);have Z00:=F65.d B a65 (Z6t F65 T) (F65.e2 fun _ _ _ _ _ _ _ _=>rfl);have Z4a:=F66.d B a66 (Z6u F66 T) (F66.e2 fun _ _ _ _ _ _ _ _=>rfl);have Z3x:=F67.d B a67 (Z6m F67 T) (F67.e3 fun _ _ _ _ _ _ _ _ _=>rfl);have Z5q:=F68.d B a68 (Z72 F68 T) (F68.e2 fun _ _ _ _ _ _ _ _=>rfl);have Z4d:=F69.d B a69 (Z6v F69 T Z0d Z1h Z00) (F69.e4 fun _ _ _ _ _ _ _ _ _ _=>rfl);exact Z79 F70 T Z0m Z4a Z30 Z3k Z31 Z2l Z4b Z2m Z3x Z00 Z32 Z06 Z5q Z0d Z13 Z3y Z1h Z3l Z4c Z4d
end K93
open PySem PySem.W PyProof.Rows
set_option maxRecDepth 100000 in
set_option maxHeartbeats 0 in
theorem PySem.Challenge.cw_castoff_k93_whole_sizes_books_and_towers_holds : PySem.Challenge.rw_castoff_k93_whole_sizes_books_and_towers.Holds := by
 refine hd93 ?_
 k_fill
 refine L2.W5 (l:=PySem.Challenge.rw_castoff_k93_whole_sizes_books_and_towers) (n:=63) (k:=12) (x:="_law_script") (CX:=L2.CX0) (sp:=N93.K2 524 531) (tps:=[524,531]) rfl (by decide) rfl ⟨rfl,by decide,by decide⟩ (fun w h Y=>PySem.W.km_in_of Y) (fun w h Y=>L2.allc (PySem.W.km_tabs_of Y _ (by simp)) (L2.allc (PySem.W.km_tabs_of Y _ (by simp)) (L2.alln))) (fun w=>L2.allc (by kernel_rfl) (L2.allc (by kernel_rfl) (L2.alln))) ?F ?S ?C
 case F=>
  intro w mg fa h KX G hmg;refine' K93.Jbi KX G hmg ?a0 ?FF0 ?a1 ?FF1 ?a2 ?FF2 ?a3 ?FF3 ?a4 ?FF4 ?a5 ?FF5 ?MI6 ?FF6 ?MM7 ?FF7 ?MM8 ?FF8 ?MM9 ?FF9 ?MM10 ?FF10 ?a11 ?FF11 ?a12 ?FF12 ?a13 ?FF13 ?a14 ?FF14 ?a15 ?FF15 ?a16 ?l16 ?c16 ?k16 ?mc16 ?mh16 ?a17 ?l17 ?c17 ?k17 ?mc17 ?mh17 ?MM18 ?FF18 ?MM19 ?FF19 ?a20 ?FF20 ?a21 ?FF21 ?MM22 ?FF22 ?MM23 ?FF23 ?MM24 ?FF24 ?MM25 ?FF25 ?MM26 ?FF26 ?MM27 ?FF27 ?MM28 ?FF28 ?MM29 ?FF29 ?MI30 ?FF30 ?MM31 ?FF31 ?MM32 ?FF32 ?a33 ?FF33 ?MI34 ?FF34 ?MM35 ?FF35 ?MM36 ?FF36 ?MM37 ?FF37 ?MM38 ?FF38 ?MM39 ?FF39 ?a40 ?FF40 ?a41 ?FF41 ?a42 ?FF42 ?a43 ?l43 ?c43 ?n43 ?k43 ?m43 ?kf43 ?fc43 ?sc43 ?rc43 ?MI44 ?FF44 ?MM45 ?FF45 ?MM46 ?FF46 ?MM47 ?FF47 ?a48 ?l48 ?c48 ?n48 ?k48 ?gv48 ?tv48 ?MM49 ?FF49 ?MM50 ?FF50 ?MM51 ?FF51 ?a52 ?FF52 ?a53 ?FF53 ?a54 ?FF54 ?a55 ?FF55 ?MI56 ?FF56 ?MM57 ?FF57 ?MM58 ?FF58 ?a59 ?FF59 ?a60 ?FF60 ?a61 ?FF61 ?a62 ?FF62 ?a63 ?FF63 ?a64 ?FF64 ?a65 ?FF65 ?a66 ?FF66 ?a67 ?FF67 ?a68 ?FF68 ?a69 ?FF69 ?a70 ?l70 ?c70 ?k70 ?Zg ?Zp ?Z3n ?Z3m ?Z4e ?Z0y ?Z4w ?Z09 ?Z04 ?Z3o ?Z1v ?Z4x ?Z14 ?Z4y ?Z4f ?Z4z ?Z1c ?Z1d ?Z0t ?Z0n ?Z0z ?Z0a ?Z0o ?Z10 ?Z0h ?Z0i ?Z4g ?EE_Stock ?Ze ?Z57 ?EE_Sums ?Zm ?Z4h ?EE_Shelf ?Zw ?Z05 ?Zl ?Z58 ?EE_Rule ?Z4v ?EE_Ranked ?Z0g ?Z0e ?Z0l ?Z11 ?Z3z ?EE_Oldest ?Zy ?Zt ?Zr ?Z01 ?Z4i ?EE_Tower ?Zx ?Zq ?Zn ?Zo ?Z07 ?Z02 ?Zu ?Z03 ?Z08
  case Z4g|Z57|Z4h|Z58|Z4v|Z3z|Z4i|a0|a1|a2|a3|a4|a5|a11|a12|a13|a14|a15|a16|l16|c16|k16=>k_is
  case mc16=>rfl
  (case mh16=>kernel_rfl)
  case a17|l17|c17|k17=>k_is
  case mc17=>rfl
  (case mh17=>kernel_rfl)
  case a20|a21|a33|a40|a41|a42|a43|l43|c43|n43|k43|m43|kf43|fc43|sc43|rc43|a48|l48|c48|n48|k48|gv48|tv48|a52|a53|a54|a55|a59|a60|a61|a62|a63|a64|a65|a66|a67|a68|a69|a70|l70|c70|k70|Zg|Zp|Z3n|Z3m|Z4e|Z0y|Z4w|Z09|Z04|Z3o|Z1v|Z4x|Z14|Z4y|Z4f|Z4z|Z1c|Z1d|Z0t|Z0n|Z0z|Z0a|Z0o|Z10|Z0h|Z0i|Ze|Zm|Zw|Z05|Zl|Z0g|Z0e|Z0l|Z11|Zy|Zt|Zr|Z01|Zx|Zq|Zn|Zo|Z07|Z02|Zu|Z03|Z08=>k_is
  case EE_Stock|EE_Sums|EE_Shelf|EE_Rule|EE_Ranked|EE_Oldest|EE_Tower|MI6|MI30|MI34|MI44|MI56=>refine' ⟨?j1,?j2,?j3,?j4⟩;case j1|j2|j3|j4=>k_is
  case MM7|MM8|MM9|MM10|MM18|MM19|MM22|MM23|MM24|MM25|MM26|MM27|MM28|MM29|MM31|MM32|MM35|MM36|MM37|MM38|MM39|MM45|MM46|MM47|MM49|MM50|MM51|MM57|MM58=>refine' ⟨?j1,?j2,?j3⟩;case j1|j2|j3=>k_is
  case FF0|FF1|FF2|FF3|FF4|FF5|FF6|FF7|FF8|FF9|FF10|FF11|FF12|FF13|FF14|FF15|FF18|FF19|FF20|FF21|FF22|FF23|FF24|FF25|FF26|FF27|FF28|FF29|FF30|FF31|FF32|FF33|FF34|FF35|FF36|FF37|FF38|FF39|FF40|FF41|FF42|FF44|FF45|FF46|FF47|FF49|FF50|FF51|FF52|FF53|FF54|FF55|FF56|FF57|FF58|FF59|FF60|FF61|FF62|FF63|FF64|FF65|FF66|FF67|FF68|FF69=>refine' L2.Ml ?l ?c ?k;case l|c|k=>k_is
 case S=>exact fun K H a ns hl hO hS=>⟨a,ns,rfl,hS,hl,hO.1 _ (by simp),hO.1 _ (by simp),fun _=>rfl⟩
 case C=>exact fun H s e s' z=>z
