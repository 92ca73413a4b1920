import PyProof.Rows.All
import KE.KSuperObj
import KE.KPairComp
import KE.KLam
import KE.KNestM
import KE.KItemsList
import KE.KUnpack
import KE.KEqDict
import KE.KFromBytes
import KE.KMinKey
import KE.KIntText
import KE.KRevIter
import KE.KDictOf
import KE.KTryMore
import KE.KBoundM
import KE.KNestM
import KE.KLam
import PySem.Challenge.RW_castoff_k45_whole_farthest_is_best
set_option linter.all false
set_option Elab.async false
set_option maxRecDepth 100000
set_option maxHeartbeats 4000000
namespace PySem.W.Fast
theorem tw9424412082546378849:True:=⟨⟩
theorem tw15799880804563963025:True:=⟨⟩
theorem tw10793707685923640011:True:=⟨⟩
theorem tw2985319865498678177:True:=⟨⟩
theorem tw13366942398087326016:True:=⟨⟩
theorem tw9991042145066466735:True:=⟨⟩
theorem tw8685425385097222600:True:=⟨⟩
theorem tw7588160422255876310:True:=⟨⟩
theorem tw1813796464483368614:True:=⟨⟩
theorem tw3149878944278907280:True:=⟨⟩
theorem tw12336998799453330012:True:=⟨⟩
theorem tw6713538081171206513:True:=⟨⟩
theorem tw2907995002123666701:True:=⟨⟩
theorem tw6268760527546298970:True:=⟨⟩
theorem tw1355864948692409525:True:=⟨⟩
theorem tw15665856825816938056:True:=⟨⟩
theorem tw7848967514350063778:True:=⟨⟩
theorem tw6529691306274009093:True:=⟨⟩
theorem tw4780803596647763918:True:=⟨⟩
theorem tw8935597575319528929:True:=⟨⟩
theorem tw13308529388651451683:True:=⟨⟩
theorem tw17760417266350434549:True:=⟨⟩
theorem tw9604500778245808102:True:=⟨⟩
theorem tw4126820268693303423:True:=⟨⟩
theorem tw2814108013561120822:True:=⟨⟩
theorem tw13081089312475281390:True:=⟨⟩
theorem tw17750915361355984938:True:=⟨⟩
theorem tw1882625617667073296:True:=⟨⟩
theorem tw12588418844287887323:True:=⟨⟩
theorem tw10475543006497387832:True:=⟨⟩
theorem tw14481315437185513688:True:=⟨⟩
theorem tw16282606948947092752:True:=⟨⟩
theorem tw3529616017944607292:True:=⟨⟩
theorem tw5987737062967227020:True:=⟨⟩
theorem tw8223753311000865927:True:=⟨⟩
theorem tw11057385273620228890:True:=⟨⟩
theorem tw16763052524834566377:True:=⟨⟩
theorem tw12867043095564189499:True:=⟨⟩
theorem tw13759935587632507648:True:=⟨⟩
theorem tw10551479799405262591:True:=⟨⟩
theorem tw10502731864304241072:True:=⟨⟩
theorem tw6955368256661259398:True:=⟨⟩
theorem tw14107712856625124041:True:=⟨⟩
theorem tw14692529888244465510:True:=⟨⟩
theorem tw16687720061041854700:True:=⟨⟩
theorem tw5038888886355320147:True:=⟨⟩
theorem tw6327085369604528584:True:=⟨⟩
theorem tw5551992073521105930:True:=⟨⟩
theorem tw17601445977571944161:True:=⟨⟩
theorem tw15493926907296942583:True:=⟨⟩
theorem tw1308408049984225123:True:=⟨⟩
theorem tw10824997853977416341:True:=⟨⟩
theorem tw10682280176337594157:True:=⟨⟩
theorem tw11249882680441156454:True:=⟨⟩
theorem tw16993464736114764620:True:=⟨⟩
theorem tw12299570646838441900:True:=⟨⟩
theorem tw9490617385073702937:True:=⟨⟩
theorem tw15991978015286251079:True:=⟨⟩
theorem tw10333355066641569558:True:=⟨⟩
theorem tw2579929773048134385:True:=⟨⟩
theorem tw7288923892300829588:True:=⟨⟩
theorem tw3926870955413420569:True:=⟨⟩
theorem tw15288739122623739184:True:=⟨⟩
theorem tw15931930794537254732:True:=⟨⟩
theorem tw8543007707856646643:True:=⟨⟩
theorem tw16073204240412080379:True:=⟨⟩
theorem tw13756453830634463226:True:=⟨⟩
theorem tw15852335143334200664:True:=⟨⟩
theorem tw12903580092464782469:True:=⟨⟩
theorem tw4473628290957212514:True:=⟨⟩
theorem tw17498531841645316461:True:=⟨⟩
theorem tw18168032764139830989:True:=⟨⟩
theorem tw9291377341236215341:True:=⟨⟩
theorem tw2771488267799908531:True:=⟨⟩
theorem tw18386431759806829724:True:=⟨⟩
theorem tw5655382876131599917:True:=⟨⟩
theorem tw10835282620219969259:True:=⟨⟩
theorem tw17335989873507671684:True:=⟨⟩
theorem tw3142810044184589238:True:=⟨⟩
theorem tw10183846447641542260:True:=⟨⟩
theorem tw2717418582048973062:True:=⟨⟩
theorem tw8709686147681320716:True:=⟨⟩
theorem tw15535218353393919207:True:=⟨⟩
theorem tw16086652873076593569:True:=⟨⟩
theorem tw12719948762204777372:True:=⟨⟩
theorem tw6550697797838921665:True:=⟨⟩
theorem tw16701559641305573780:True:=⟨⟩
theorem tw10569092008369580349:True:=⟨⟩
theorem tw4494253709337506462:True:=⟨⟩
theorem tw2725597197306219207:True:=⟨⟩
theorem tw2892575898834744895:True:=⟨⟩
theorem tw16417054626100665492:True:=⟨⟩
theorem tw9763184687763431412:True:=⟨⟩
theorem tw3385045256557360195:True:=⟨⟩
theorem tw4326537488697369361:True:=⟨⟩
theorem tw15189584405096606765:True:=⟨⟩
theorem tw1222697584302173592:True:=⟨⟩
theorem tw11042658495469366102:True:=⟨⟩
theorem tw11365536163619231801:True:=⟨⟩
theorem tw6065313025134735218:True:=⟨⟩
theorem tw5298241396487930349:True:=⟨⟩
theorem tw4775000552636617573:True:=⟨⟩
theorem tw561533087885160225:True:=⟨⟩
theorem tw16193479902228481821:True:=⟨⟩
theorem tw10592234418175598449:True:=⟨⟩
theorem tw13358566946192509225:True:=⟨⟩
theorem tw11408826117536444125:True:=⟨⟩
theorem tw10240078796854381558:True:=⟨⟩
theorem tw7361505797579758205:True:=⟨⟩
theorem tw17847273248576228935:True:=⟨⟩
theorem tw5741256885567676863:True:=⟨⟩
theorem tw18245651013101208460:True:=⟨⟩
theorem tw15483844408524987740:True:=⟨⟩
theorem tw16882342662583307662:True:=⟨⟩
theorem tw5009031535788109889:True:=⟨⟩
theorem tw3701436015491764219:True:=⟨⟩
theorem tw17681597883857231692:True:=⟨⟩
theorem tw11940792651149518052:True:=⟨⟩
theorem tw14528752295359276690:True:=⟨⟩
theorem tw1160185906911869016:True:=⟨⟩
theorem tw5043507401337583689:True:=⟨⟩
theorem tw6794122262166736453:True:=⟨⟩
theorem tw11512273639121137662:True:=⟨⟩
theorem tw11479555814867234318:True:=⟨⟩
theorem tw9314314472876680965:True:=⟨⟩
theorem tw9267713139115370850:True:=⟨⟩
theorem tw10831418308464391520:True:=⟨⟩
theorem tw11285301708418128634:True:=⟨⟩
theorem tw9309659126083529521:True:=⟨⟩
theorem tw988481395937019234:True:=⟨⟩
theorem tw17441068789766209602:True:=⟨⟩
theorem tw14805286880983821443:True:=⟨⟩
theorem tw7695843529008065041:True:=⟨⟩
theorem tw4125589512846483175:True:=⟨⟩
theorem tw17865000034295560369:True:=⟨⟩
theorem tw5553721719197625053:True:=⟨⟩
theorem tw11686223114885504760:True:=⟨⟩
theorem tw17075396837799417915:True:=⟨⟩
theorem tw5215099035750798599:True:=⟨⟩
theorem tw16654319551759417130:True:=⟨⟩
theorem tw5690887493541376225:True:=⟨⟩
theorem tw9975751178193027773:True:=⟨⟩
theorem tw6498784051570791924:True:=⟨⟩
theorem tw6164543097646404760:True:=⟨⟩
theorem tw13962412943194890709:True:=⟨⟩
theorem tw3647500305601160278:True:=⟨⟩
theorem tw18175483185063296995:True:=⟨⟩
theorem tw14971090909517893143:True:=⟨⟩
theorem tw1393996800878089015:True:=⟨⟩
theorem tw15608947335983457021:True:=⟨⟩
theorem tw12078436009994939613:True:=⟨⟩
theorem tw754440220369793069:True:=⟨⟩
theorem tw17492716651117694136:True:=⟨⟩
theorem tw282793550463875917:True:=⟨⟩
theorem tw1553412069862418011:True:=⟨⟩
theorem tw11048885180384838209:True:=⟨⟩
theorem tw6147675492082257850:True:=⟨⟩
theorem tw16923109804581730670:True:=⟨⟩
theorem tw13784637525108096403:True:=⟨⟩
theorem tw12245132922371156156:True:=⟨⟩
theorem tw15911856066575548728:True:=⟨⟩
theorem tw9300566267257376246:True:=⟨⟩
theorem tw6669037542657754876:True:=⟨⟩
theorem tw1078464696414385287:True:=⟨⟩
theorem tw9820416236074177745:True:=⟨⟩
theorem tw15026389469171918822:True:=⟨⟩
theorem tw15850864453905667369:True:=⟨⟩
theorem tw14472060381834752725:True:=⟨⟩
theorem tw16910767191638700155:True:=⟨⟩
theorem tw2523809748593437725:True:=⟨⟩
theorem tw6736904043586026758:True:=⟨⟩
theorem tw3162376807220536177:True:=⟨⟩
theorem tw613509445079523550:True:=⟨⟩
theorem tw18441049719315620778:True:=⟨⟩
theorem tw4453525200655253658:True:=⟨⟩
theorem tw17497521455007328556:True:=⟨⟩
theorem tw11414619389524784024:True:=⟨⟩
theorem tw5677441310608179298:True:=⟨⟩
theorem tw16427262193166435192:True:=⟨⟩
theorem tw17093007585330896339:True:=⟨⟩
theorem tw6707267778800058239:True:=⟨⟩
theorem tw16776188323132512868:True:=⟨⟩
theorem tw16248943333360683783:True:=⟨⟩
theorem tw18110238315769754083:True:=⟨⟩
theorem tw14728591078544420733:True:=⟨⟩
theorem tw17217599303943712858:True:=⟨⟩
theorem tw16286075818759787381:True:=⟨⟩
theorem tw8092708409091747632:True:=⟨⟩
theorem tw14094921882613104051:True:=⟨⟩
theorem tw12277968506013131497:True:=⟨⟩
theorem tw17028487838558169250:True:=⟨⟩
theorem tw8961286946110149374:True:=⟨⟩
theorem tw710045713217582135:True:=⟨⟩
theorem tw16607764363413144082:True:=⟨⟩
theorem tw7352418833311870623:True:=⟨⟩
theorem tw690815955644260278:True:=⟨⟩
theorem tw4558482135964925713:True:=⟨⟩
theorem tw16386708850794571015:True:=⟨⟩
theorem tw8192723860903973156:True:=⟨⟩
theorem tw15738175445641634693:True:=⟨⟩
theorem tw4893751508568704006:True:=⟨⟩
theorem tw564477514897826438:True:=⟨⟩
theorem tw7343320549815924620:True:=⟨⟩
theorem tw1358641038765113625:True:=⟨⟩
theorem tw18427591486497584863:True:=⟨⟩
theorem tw14468335714859347100:True:=⟨⟩
theorem tw8640540541704615973:True:=⟨⟩
theorem tw5517802204372124418:True:=⟨⟩
theorem tw15391376221176501137:True:=⟨⟩
theorem tw13423319126432551721:True:=⟨⟩
theorem tw16578363328010787102:True:=⟨⟩
theorem tw4219368744320387852:True:=⟨⟩
theorem tw17559826367455066877:True:=⟨⟩
theorem tw11655379954259270628:True:=⟨⟩
theorem tw16471190614224063203:True:=⟨⟩
theorem tw10602856190568906867:True:=⟨⟩
theorem tw3053301568323415027:True:=⟨⟩
theorem tw4873852101090469821:True:=⟨⟩
theorem tw16642157685367768698:True:=⟨⟩
theorem tw14074982716734452432:True:=⟨⟩
theorem tw16695792679449576347:True:=⟨⟩
theorem tw7320291373962785798:True:=⟨⟩
theorem tw11873641294630220759:True:=⟨⟩
theorem tw604393926212495931:True:=⟨⟩
theorem tw5198131997517724452:True:=⟨⟩
theorem tw8098440839550265474:True:=⟨⟩
theorem tw2646824675944883070:True:=⟨⟩
theorem tw10640904936085552708:True:=⟨⟩
theorem tw11621195458929049744:True:=⟨⟩
theorem tw3351065035458297017:True:=⟨⟩
theorem tw15183973243532544398:True:=⟨⟩
theorem tw866735914426794376:True:=⟨⟩
theorem tw18347330459508032885:True:=⟨⟩
theorem tw4154500540409751227:True:=⟨⟩
theorem tw13043511981663591702:True:=⟨⟩
theorem tw1029721068426951371:True:=⟨⟩
theorem tw31443443560867222:True:=⟨⟩
theorem tw11350876433582086976:True:=⟨⟩
theorem tw6596732837564662002:True:=⟨⟩
theorem tw6770473915102795370:True:=⟨⟩
theorem tw9484061046591807080:True:=⟨⟩
theorem tw11657214187841262445:True:=⟨⟩
theorem tw12240409972167049996:True:=⟨⟩
theorem tw7823817519963676024:True:=⟨⟩
theorem tw1023815207856203817:True:=⟨⟩
theorem tw14179942400234922432:True:=⟨⟩
theorem tw12112081522923539865:True:=⟨⟩
theorem tw17333574259891557140:True:=⟨⟩
theorem tw7848682664852089029:True:=⟨⟩
theorem tw17614994533950863620:True:=⟨⟩
theorem tw902268074304223116:True:=⟨⟩
theorem tw1924751413988763024:True:=⟨⟩
theorem tw8852587790655994853:True:=⟨⟩
theorem tw7396749615231871591:True:=⟨⟩
theorem tw7042799468687715483:True:=⟨⟩
theorem tw14374570419221078327:True:=⟨⟩
theorem tw6601501617794818316:True:=⟨⟩
theorem tw12937392590187997095:True:=⟨⟩
theorem tw10073927961842454132:True:=⟨⟩
theorem tw11150648134093523639:True:=⟨⟩
theorem tw8452921302864609795:True:=⟨⟩
theorem tw7679048620384511188:True:=⟨⟩
theorem tw833198306239955211:True:=⟨⟩
theorem tw4326111744430936440:True:=⟨⟩
theorem tw18013614891946248934:True:=⟨⟩
theorem tw16778403330900731455:True:=⟨⟩
theorem tw10094979767827720307:True:=⟨⟩
theorem tw9048556575973949597:True:=⟨⟩
theorem tw3913043636703342575:True:=⟨⟩
theorem tw17735231195341970028:True:=⟨⟩
theorem tw12133788743031995150:True:=⟨⟩
theorem tw12182290540965604951:True:=⟨⟩
theorem tw5221096549169505164:True:=⟨⟩
theorem tw3775435784221898137:True:=⟨⟩
theorem tw13011011508073208:True:=⟨⟩
theorem tw16729616213945959608:True:=⟨⟩
theorem tw8707282163005868579:True:=⟨⟩
theorem tw14885724417160465514:True:=⟨⟩
theorem tw11962008538507112918:True:=⟨⟩
theorem tw7382819293089563825:True:=⟨⟩
theorem tw18441683664830450772:True:=⟨⟩
theorem tw4560691147124197332:True:=⟨⟩
theorem tw10836052703404590031:True:=⟨⟩
theorem tw10577455259215810391:True:=⟨⟩
theorem tw15199148744132805323:True:=⟨⟩
theorem tw17722002304170712583:True:=⟨⟩
theorem tw8628850470283932157:True:=⟨⟩
theorem tw12637368063896338519:True:=⟨⟩
theorem tw16574835028679539244:True:=⟨⟩
theorem tw15880834975313491802:True:=⟨⟩
theorem tw10522719579899351509:True:=⟨⟩
theorem tw4341758389174004758:True:=⟨⟩
theorem tw3326576593167176227:True:=⟨⟩
theorem tw9953313538064682609:True:=⟨⟩
theorem tw10893004257689605223:True:=⟨⟩
theorem tw7724144811881365188:True:=⟨⟩
theorem tw11169903650141804595:True:=⟨⟩
theorem tw17694589608623785263:True:=⟨⟩
theorem tw15821900648256862266:True:=⟨⟩
theorem tw9312675964416523589:True:=⟨⟩
theorem tw2219800055013286954:True:=⟨⟩
theorem tw10527448058047538152:True:=⟨⟩
theorem tw12977144188882578183:True:=⟨⟩
theorem tw9648047095037623158:True:=⟨⟩
theorem tw15083237207105543055:True:=⟨⟩
theorem tw2657828700852750579:True:=⟨⟩
theorem tw3518925939138289652:True:=⟨⟩
theorem tw12380545524060899071:True:=⟨⟩
theorem tw11840248657687996462:True:=⟨⟩
theorem tw2564875049063218284:True:=⟨⟩
theorem tw13193109501785526124:True:=⟨⟩
theorem tw7635451246040887840:True:=⟨⟩
theorem tw15539533857831631711:True:=⟨⟩
theorem tw17468580320228579726:True:=⟨⟩
theorem tw6699984375897069741:True:=⟨⟩
theorem tw3719892711812367843:True:=⟨⟩
theorem tw11910669135256595104:True:=⟨⟩
theorem tw5850779358702282264:True:=⟨⟩
theorem tw2398060625769197304:True:=⟨⟩
theorem tw11688520267869970231:True:=⟨⟩
theorem tw14563899169265562628:True:=⟨⟩
theorem tw6319804310584022954:True:=⟨⟩
theorem tw13087523320105975304:True:=⟨⟩
theorem tw7954160674719073282:True:=⟨⟩
theorem tw1025391930958121840:True:=⟨⟩
theorem tw15908047174823237778:True:=⟨⟩
theorem tw13554141588479981582:True:=⟨⟩
theorem tw12421269163488165813:True:=⟨⟩
theorem tw1448322951698511275:True:=⟨⟩
theorem tw3058127228530222910:True:=⟨⟩
theorem tw17402304706831970683:True:=⟨⟩
theorem tw17197280069406731704:True:=⟨⟩
theorem tw5512709982841371972:True:=⟨⟩
theorem tw14214367619619270304:True:=⟨⟩
theorem tw15515193291235547009:True:=⟨⟩
theorem tw14853146180262659307:True:=⟨⟩
theorem tw4973506470843739196:True:=⟨⟩
end PySem.W.Fast
section
open PySem PySem.W PyProof.Rows
set_option maxHeartbeats 0
open_top hd45 for PySem.Challenge.rw_castoff_k45_whole_farthest_is_best
end
noncomputable section
open PySem PySem.Spec PyProof.Rows
namespace L2
abbrev Key:=Sum Int Str
def Ls:Key→Value→Bool
 | .inl k,v=>Value.isInt k v
 | .inr x,v=>Value.isStrOf x v
def J9d(w:World):Key→Int
 | .inl k=>hashInt k
 | .inr x=>hashStr w x
theorem Bl:∀{k:Key} {v:Value},Ls k v=true→(∃i t,k=Sum.inl i∧v=Value.int i t)∨(∃x t,k=Sum.inr x∧v=Value.str x t)
 | .inl i,v,h=>by
  obtain ⟨t,e⟩:=Value.isInt_shape (k:=i) (v:=v) h;exact .inl ⟨i,t,rfl,e⟩
 | .inr x,v,h=>by
  obtain ⟨t,e⟩:=Value.isStrOf_shape (x:=x) (v:=v) h;exact .inr ⟨x,t,rfl,e⟩
theorem Wv(i:Int)(t:Tok):Ls (.inl i) (.int i t)=true:=by simp [Ls,Value.isInt]
theorem Ww(x:Str)(t:Tok):Ls (.inr x) (.str x t)=true:=by simp [Ls,Value.isStrOf]
theorem J6e(a b:Int):decide ((Sum.inl a:Key)=Sum.inl b)=(a==b):=by
 by_cases e:a=b
 · subst e;simp
 · have h:¬(Sum.inl a:Key)=Sum.inl b:=fun q=>e (Sum.inl.inj q)
   rw [decide_eq_false h];exact (beq_eq_false_iff_ne.mpr e).symm
theorem J6f(a b:Str):decide ((Sum.inr a:Key)=Sum.inr b)=decide (a=b):=by
 by_cases e:a=b
 · subst e;simp
 · have h:¬(Sum.inr a:Key)=Sum.inr b:=fun q=>e (Sum.inr.inj q)
   rw [decide_eq_false h,decide_eq_false e]
theorem J6g(a:Int)(b:Str):decide ((Sum.inl a:Key)=Sum.inr b)=false:=decide_eq_false (fun q=>nomatch q)
theorem J6h(a:Str)(b:Int):decide ((Sum.inr a:Key)=Sum.inl b)=false:=decide_eq_false (fun q=>nomatch q)
def B0(prog:Program)(w:World):PySem.KeyKind prog w Key where
 is:=Ls
 hash:=J9d w
 inj:=fun v a b ha hb=>by
  rcases Bl ha with ⟨i,t,rfl,rfl⟩ | ⟨x,t,rfl,rfl⟩
  · rcases Bl hb with ⟨j,u,rfl,e⟩ | ⟨y,u,rfl,e⟩
    · injection e with e1 _;rw [e1]
    · exact nomatch e
  · rcases Bl hb with ⟨j,u,rfl,e⟩ | ⟨y,u,rfl,e⟩
    · exact nomatch e
    · injection e with e1 _;rw [e1]
 byValue:=fun k v h=>by
   rcases Bl h with ⟨i,t,rfl,rfl⟩ | ⟨x,t,rfl,rfl⟩ <;> rfl
 pyHash:=fun hv h=>by
  rcases Bl hv with ⟨i,t,rfl,rfl⟩ | ⟨x,t,rfl,rfl⟩
  · exact wpAny_pyHash_int h
  · exact wpAny_pyHash_str h
 eqBool:=fun hu hv h=>by
  rcases Bl hu with ⟨i,t,rfl,rfl⟩ | ⟨x,t,rfl,rfl⟩
  · rcases Bl hv with ⟨j,u,rfl,rfl⟩ | ⟨y,u,rfl,rfl⟩
    · rw [J6e]at h;exact wpAny_eqBool_int h
    · rw [J6g]at h;exact SeqAt.EqAt.int_str i t y u _ _ _ _ h
  · rcases Bl hv with ⟨j,u,rfl,rfl⟩ | ⟨y,u,rfl,rfl⟩
    · rw [J6h]at h;exact SeqAt.EqAt.str_int x t j u _ _ _ _ h
    · rw [J6f]at h;exact wpAny_eqBool_str h
 «strs»:=fun k x t v h=>by
  rcases Bl h with ⟨i,u,rfl,e⟩ | ⟨y,u,rfl,e⟩
  · exact nomatch e
  · injection e with e1 _
    subst e1
    cases v <;> rfl
theorem Q9(prog:Program)(w:World)(i:Int)(t:Tok):(B0 prog w).is (.inl i) (.int i t)=true:=Wv i t
theorem Qa(prog:Program)(w:World)(x:Str)(t:Tok):(B0 prog w).is (.inr x) (.str x t)=true:=Ww x t
end L2
namespace L2
inductive V where
 | non | bl (b:Bool) | int (i:Int) | str (x:Str) | byt (b:Array UInt8) | flt (b:UInt64) | ref (a:Addr) | ty (n:String)
 deriving DecidableEq
def Ao:V→Value→Prop
 | .non,u=>u=Value.none
 | .bl b,u=>u=Value.bool b
 | .int i,u=>∃t,u=Value.int i t
 | .str x,u=>∃t,u=Value.str x t
 | .byt b,u=>∃t,u=Value.bytes b t
 | .flt b,u=>∃t,u=Value.float b t
 | .ref a,u=>u=Value.ref a
 | .ty n,u=>u=Value.type n
abbrev Aw:List V→List Value→Prop:=Paired Ao
theorem Aw.length{xs:List V}{us:List Value}(r:Aw xs us):xs.length=us.length:=Paired.length r
theorem Aw.get:∀{xs:List V} {us:List Value} {i:Nat} {x:V},Aw xs us→xs[i]?=some x→∃u,us[i]?=some u∧Ao x u
 | _,_,_,_,.nil,e=>by simp at e
 | _,_,0,_,.cons r _,e=>by simp at e;subst e;exact ⟨_,rfl,r⟩
 | _,_,i+1,x,.cons _ t,e=>by
  obtain ⟨u,h1,h2⟩:=Aw.get (i:=i) (x:=x) t (by simpa using e);exact ⟨u,by simpa using h1,h2⟩
theorem Aw.set{x:V}{u:Value}(r:Ao x u):∀{xs:List V} {us:List Value} (i:Nat),Aw xs us→Aw (xs.set i x) (us.set i u)
 | _,_,_,.nil=> .nil
 | _,_,0,.cons _ t=> .cons r t
 | _,_,i+1,.cons q t=> .cons q (Aw.set r i t)
theorem Aw.append:∀{xs ys:List V} {us ws:List Value},Aw xs us→Aw ys ws→Aw (xs++ys) (us++ws)
 | _,_,_,_,.nil,s=>s
 | _,_,_,_,.cons r t,s=> .cons r (Aw.append t s)
theorem Aw.take:∀{xs:List V} {us:List Value} (n:Nat),Aw xs us→Aw (xs.take n) (us.take n)
 | _,_,0,_=> .nil
 | _,_,_+1,.nil=> .nil
 | _,_,n+1,.cons r t=> .cons r (Aw.take n t)
theorem Aw.drop:∀{xs:List V} {us:List Value} (n:Nat),Aw xs us→Aw (xs.drop n) (us.drop n)
 | _,_,0,r=>r
 | _,_,_+1,.nil=> .nil
 | _,_,n+1,.cons _ t=>Aw.drop n t
def E4:Option V→Option Value→Prop
 | some v,some u=>Ao v u
 | none,none=>True
 | _,_=>False
def KV{κ:Type}:List (κ×V)→List (κ×Value)→Prop:=Paired fun (p:κ×V) (q:κ×Value)=>p.1=q.1∧Ao p.2 q.2
def kV:Key→V
 | .inl i=> .int i
 | .inr x=> .str x
inductive HO where
 | lst (xs:List V)
 | tup (xs:List V)
 | dK (kvs:List (Key×V)) | dT (kvs:List (List Key×V))
 | set (S:Int→Bool) (n:Nat)
 | ins (C dx:Addr) (fs:List (Str×V))
 | own (x:Addr)
 | xd (fs:List (Str×V))
 | met (f x:Addr)
 | rng (lo hi:Int)
 | frz (o:Obj) (u:HO)
 | tbl (ps:Array Value)
 | ext (φ:Heap→Prop)
abbrev Hp:=Addr→Option HO
def upd(H:Hp)(a:Addr)(o:HO):Hp:=fun b=>if b=a then some o else H b
theorem A1{H:Hp}{a:Addr}{o:HO}:upd H a o a=some o:=by unfold upd;rw [if_pos rfl]
theorem A5{H:Hp}{a b:Addr}{o:HO}(h:b≠a):upd H a o b=H b:=by unfold upd;rw [if_neg h]
theorem Ur{H:Hp}{a:Addr}{o u:HO}:upd (upd H a o) a u=upd H a u:=by
 funext b;unfold upd;split <;> rfl
theorem C0{H:Hp}{a b:Addr}{o u:HO}(h:H a=some o)(h':H b=some u)(d:o≠u):a≠b:=by
 intro e;subst e;rw [h]at h';exact d (Option.some.inj h')
theorem Ab{H:Hp}{a b:Addr}{o:HO}(h:H a=some o)(h':H b=none):a≠b:=by
 intro e;subst e;rw [h]at h';cases h'
section
variable (P:Program) (w:World)
def Bg(H:Hp)(h:Heap)(a:Addr):HO→Prop
 | .lst xs=>xs.length≤sizeLine∧∃(its:List Value) (n:Nat),Aw xs its∧h.get? a=some {cls:= .type "list",data:= .seq its.toArray n}
 | .tup xs=>xs.length≤sizeLine∧∃its:List Value,Aw xs its∧IsTup h a its.toArray
 | .dK kvs=>kvs.length≤sizeLine∧(a==sysModules)=false∧∃vs,KV kvs vs∧h.DictOf (B0 P w) a vs
 | .dT kvs=>kvs.length≤sizeLine∧(a==sysModules)=false∧∃xs:List (List Key×Addr×Value),
  Paired (fun (p:List Key×V) (q:List Key×Addr×Value)=>p.1=q.1∧H q.2.1=some (.tup (p.1.map kV))∧Ao p.2 q.2.2) kvs xs∧
  ∃o es ep,h.get? a=some o∧o.ExactDict∧o.data= .dict es ep∧es.toList=xs.map (entryOfKey (tupleKind (B0 P w)))∧(xs.map (·.1)).Nodup
 | .set S n=>h.SetOf (intKind P w) a S n
 | .ins C dx fs=>H dx=some (.own a)∧fs.length≤1000∧dx≠a∧h.get? a=some (PySem.W.instObj C dx)∧
  ∃mA,h.Ns1 dx mA∧(∀f,E4 (fs.lookup f) (mA f))∧PySem.Within mA (fs.map (·.1))
 | .own _=>∃o,h.get? a=some o
 | .xd fs=>∃mA,h.Ns1 a mA∧∀f,E4 (fs.lookup f) (mA f)
 | .rng lo hi=>∃t u v,h.get? a=some {cls:= .type "range",data:= .fields #[.int lo t,.int hi u,.int 1 v]}
 | .frz o u=>h.get? a=some o∧Bg H h a u
 | .tbl ps=>h.get? a=some {cls:= .none,data:= .fields ps}
 | .met f x=>h.get? a=some (PySem.W.methodObj (.ref f) (.ref x))
 | .ext φ=>φ h∧(∃o,h.get? a=some o)∧∀h1 h2:Heap,φ h1→(∀o,h1.get? a=some o→h2.get? a=some o)→φ h2
def HOk(H:Hp)(h:Heap):Prop:=∀a o,H a=some o→Bg P w H h a o
end
section
variable {P:Program} {w:World} {H H':Hp} {h h':Heap} {a:Addr} {o:HO}
theorem Bg.lt(x:Bg P w H h a o):a < h.objs.size:=by
 cases o with
 | lst xs=>obtain ⟨_,_,_,_,e⟩:=x;exact Heap.lt_size e
 | tup xs=>obtain ⟨_,_,_,p⟩:=x;exact p.lt
 | dK kvs=>obtain ⟨_,_,_,_,o,_,_,e,_⟩:=x;exact Heap.lt_size e
 | dT kvs=>obtain ⟨_,_,_,_,o,_,_,e,_⟩:=x;exact Heap.lt_size e
 | set S n=>obtain ⟨o,_,_,_,e,_⟩:=x;exact Heap.lt_size e
 | ins C dx fs=>obtain ⟨_,_,_,e,_⟩:=x;exact Heap.lt_size e
 | own y=>obtain ⟨_,e⟩:=x;exact Heap.lt_size e
 | xd fs=>obtain ⟨_,⟨_,_,_,e,_⟩,_⟩:=x;exact Heap.lt_size e
 | rng lo hi=>obtain ⟨_,_,_,e⟩:=x;exact Heap.lt_size e
 | frz ob u=>obtain ⟨e,_⟩:=x;exact Heap.lt_size e
 | tbl ps=>exact Heap.lt_size (show h.get? a=some _ from x)
 | met f y=>exact Heap.lt_size (show h.get? a=some _ from x)
 | ext φ=>obtain ⟨_,⟨_,e⟩,_⟩:=x;exact Heap.lt_size e
theorem Paired.mapP{α β:Type}{F G:α→β→Prop}:∀{l₁:List α} {l₂:List β},Paired F l₁ l₂→(∀a b,F a b→G a b)→Paired G l₁ l₂
 | _,_,.nil,_=> .nil
 | _,_,.cons r t,f=> .cons (f _ _ r) (Paired.mapP t f)
theorem Bg.stay(x:Bg P w H h a o)(k:∀b u,(b=a∨H b=some (.own a))→h.get? b=some u→h'.get? b=some u)
 (ho:∀b,H b=some (.own a)→H' b=some (.own a)) (ht:∀b xs,H b=some (.tup xs)→H' b=some (.tup xs)):Bg P w H' h' a o:=by
 induction o with
 | lst xs=>obtain ⟨z,its,n,r,e⟩:=x;exact ⟨z,its,n,r,k _ _ (.inl rfl) e⟩
 | tup xs=>obtain ⟨z,its,r,ob,e,c⟩:=x;exact ⟨z,its,r,ob,k _ _ (.inl rfl) e,c⟩
 | dK kvs=>obtain ⟨z,y,vs,r,ob,es,ep,e,c⟩:=x;exact ⟨z,y,vs,r,ob,es,ep,k _ _ (.inl rfl) e,c⟩
 | dT kvs=>
  obtain ⟨z,y,xs,r,ob,es,ep,e,c⟩:=x;exact ⟨z,y,xs,Paired.mapP r fun p q z=>⟨z.1,ht _ _ z.2.1,z.2.2⟩,ob,es,ep,k _ _ (.inl rfl) e,c⟩
 | set S n=>obtain ⟨ob,es,ep,t,e,c⟩:=x;exact ⟨ob,es,ep,t,k _ _ (.inl rfl) e,c⟩
 | ins C dx fs=>
  obtain ⟨d,z,ne,e,mA,⟨od,es,ep,e2,c⟩,r⟩:=x;exact ⟨ho _ d,z,ne,k _ _ (.inl rfl) e,mA,⟨od,es,ep,k _ _ (.inr d) e2,c⟩,r⟩
 | own y=>obtain ⟨ob,e⟩:=x;exact ⟨ob,k _ _ (.inl rfl) e⟩
 | xd fs=>obtain ⟨mA,⟨od,es,ep,e,c⟩,r⟩:=x;exact ⟨mA,⟨od,es,ep,k _ _ (.inl rfl) e,c⟩,r⟩
 | rng lo hi=>obtain ⟨t,u,v,e⟩:=x;exact ⟨t,u,v,k _ _ (.inl rfl) e⟩
 | frz ob u ih=>obtain ⟨e,q⟩:=x;exact ⟨k _ _ (.inl rfl) e,ih q⟩
 | tbl ps=>
  have e:h.get? a=some {cls:= .none,data:= .fields ps}:=x;show h'.get? a=some {cls:= .none,data:= .fields ps};exact k a _ (.inl rfl) e
 | met f y=>
  have e:h.get? a=some (PySem.W.methodObj (.ref f) (.ref y)):=x;show h'.get? a=some (PySem.W.methodObj (.ref f) (.ref y));exact k a _ (.inl rfl) e
 | ext φ=>obtain ⟨p,⟨o,e⟩,st⟩:=x;exact ⟨st _ _ p fun o q=>k _ _ (.inl rfl) q,⟨o,k _ _ (.inl rfl) e⟩,st⟩
theorem HOk.lt(x:HOk P w H h)(e:H a=some o):a < h.objs.size:=(x a o e).lt
theorem HOk.fresh(x:HOk P w H h)(e:h.objs.size≤a):H a=none:=by
 cases q:H a with
 | none=>rfl
 | some u=>exact absurd (Nat.lt_of_lt_of_le (x.lt q) e) (Nat.lt_irrefl _)
theorem HOk.kept(x:HOk P w H h)(k:∀b u,h.get? b=some u→h'.get? b=some u):HOk P w H h':=fun a o e=>
 (x a o e).stay (fun b u _ q=>k b u q) (fun _ q=>q) fun _ _ q=>q
theorem HOk.laid(x:HOk P w H h)(k:∀b u,h.get? b=some u→h'.get? b=some u)(hp:h.objs.size≤a)(new:Bg P w (upd H a o) h' a o):HOk P w (upd H a o) h':=fun b u e=>by
 have hn:=x.fresh hp
 by_cases hb:b=a
 · subst hb;rw [A1]at e;cases e;exact new
 · rw [A5 hb]at e
   exact (x b u e).stay (fun c v _ q=>k c v q) (fun c q=>by rw [A5 (Ab q hn)];exact q) fun c xs q=>by rw [A5 (Ab q hn)];exact q
end
def Rd(H:Hp)(a:Addr)(u:HO):Prop:=H a=some u∨∃o,H a=some (.frz o u)
theorem Rd.ok{P:Program}{w:World}{H:Hp}{h:Heap}{a:Addr}{u:HO}(r:Rd H a u)(x:HOk P w H h):Bg P w H h a u:=by
 rcases r with r | ⟨o,r⟩
 · exact x a u r
 · obtain ⟨_,q⟩:=x a _ r
   exact q
def Mut:Option HO→Prop
 | some (.lst _)=>True
 | some (.dK _)=>True
 | some (.dT _)=>True
 | some (.set _ _)=>True
 | some (.ins _ _ _)=>True
 | some (.ext _)=>True
 | _=>False
section
variable {P:Program} {w:World} {H:Hp} {h h':Heap} {x e:Addr} {o':HO}
theorem HOk.write(ok:HOk P w H h)(mu:Mut (H x))(he:e=x∨H e=some (.own x))(k:∀b u,b≠e→h.get? b=some u→h'.get? b=some u)(heo:∃u,h'.get? e=some u)
 (new:Bg P w (upd H x o') h' x o'):HOk P w (upd H x o') h':=fun b u q=>by
 have nown:∀c y,H c=some (.own y)→c≠x:=fun c y r z=>by subst z;rw [r]at mu;exact mu
 have ntup:∀c xs,H c=some (.tup xs)→c≠x:=fun c xs r z=>by subst z;rw [r]at mu;exact mu
 by_cases hb:b=x
 · subst hb;rw [A1]at q;cases q;exact new
 · rw [A5 hb]at q
   by_cases hbe:b=e
   · have q':H b=some (.own x):=by
      rcases he with z | z
      · exact absurd (hbe.trans z) hb
      · rw [hbe];exact z
     rw [q]at q';cases q';obtain ⟨v,hv⟩:=heo;exact ⟨v,by rw [hbe];exact hv⟩
   · refine (ok b u q).stay (fun c v hc r=>k c v ?_ r) (fun c r=>by rw [A5 (nown c b r)];exact r) fun c xs r=>by rw [A5 (ntup c xs r)];exact r
     rcases hc with rfl | hc
     · exact hbe
     · rintro rfl
       rcases he with z | z
       · exact nown c b hc z
       · rw [hc]at z;cases z;exact hb rfl
end
structure Un(fs ex:List Addr)(H H':Hp)(h h':Heap):Prop where
 keep:∀b o,h.get? b=some o→H b=none→b∉fs→b∉ex→h'.get? b=some o
 slot:∀b o,h.get? b=some o→H b=none→b∈fs→b∉ex→∃sl,h'.get? b=some {o with slots:=sl}
 free:∀b o,h.get? b=some o→H b=none→b∉ex→H' b=none
 there:∀b o,h.get? b=some o→b∉ex→∃o',h'.get? b=some o'
 tups:∀b xs,H b=some (.tup xs)→H' b=some (.tup xs)
 frzs:∀b o u,H b=some (.frz o u)→H' b=some (.frz o u)
 tbls:∀b ps,H b=some (.tbl ps)→∃more,H' b=some (.tbl (ps++more))
section
variable {fs fs' ex ex':List Addr} {H H1 H2:Hp} {h h1 h2 h':Heap} {a x e:Addr} {o:HO}
theorem Un.any(u:Un fs ex H H1 h h1){b:Addr}{ob:Obj}(q:h.get? b=some ob)(n:H b=none)(hx:b∉ex):∃sl,h1.get? b=some {ob with slots:=sl}:=by
 by_cases hb:b∈fs
 · exact u.slot b ob q n hb hx
 · exact ⟨ob.slots,u.keep b ob q n hb hx⟩
theorem Un.kept(k:∀b u,h.get? b=some u→h'.get? b=some u):Un fs ex H H h h':=
 ⟨fun b ob q _ _ _=>k b ob q,fun b ob q _ _ _=>⟨ob.slots,k b ob q⟩,fun _ _ _ n _=>n,fun b ob q _=>⟨ob,k b ob q⟩,fun _ _ q=>q,fun _ _ _ q=>q,fun _ ps q=>⟨#[],by rw [q];simp⟩⟩
theorem Un.refl:Un fs ex H H h h:=Un.kept fun _ _ q=>q
theorem Un.laid(k:∀b u,h.get? b=some u→h'.get? b=some u)(hp:h.objs.size≤a)(hn:H a=none):Un fs ex H (upd H a o) h h' where
 keep:=fun b u q _ _ _=>k b u q
 slot:=fun b u q _ _ _=>⟨u.slots,k b u q⟩
 free:=fun b u q n _=>by rw [A5 (Nat.ne_of_lt (Nat.lt_of_lt_of_le (Heap.lt_size q) hp))];exact n
 there:=fun b u q _=>⟨u,k b u q⟩
 tups:=fun b xs q=>by rw [A5 (Ab q hn)];exact q
 frzs:=fun b u xs q=>by rw [A5 (Ab q hn)];exact q
 tbls:=fun b ps q=>⟨#[],by rw [A5 (Ab q hn),q];simp⟩
theorem Un.write(mu:Mut (H x))(he:e=x∨H e=some (.own x))(k:∀b u,b≠e→h.get? b=some u→h'.get? b=some u)(heo:∃u,h'.get? e=some u):Un fs ex H (upd H x o) h h':=by
 have hx:∀b,H b=none→b≠x:=fun b n z=>by subst z;rw [n]at mu;exact mu
 have hb:∀b,H b=none→b≠e:=fun b n z=>by
  subst z;rcases he with r | r
  · exact hx b n r
  · rw [n]at r;cases r
 have hm:∀b u,H b=some u→¬Mut (some u)→b≠x:=fun b u q nm z=>by subst z;rw [q]at mu;exact nm mu
 refine ⟨fun b u q n _ _=>k b u (hb b n) q,fun b u q n _ _=>⟨u.slots,k b u (hb b n) q⟩,fun b u q n _=>by rw [A5 (hx b n)];exact n,fun b u q _=>?_,
  fun b xs q=>by rw [A5 (hm b _ q fun z=>z)];exact q,fun b u xs q=>by rw [A5 (hm b _ q fun z=>z)];exact q,fun b ps q=>⟨#[],by rw [A5 (hm b _ q fun z=>z),q];simp⟩⟩
 by_cases hbe:b=e
 · subst hbe;exact heo
 · exact ⟨u,k b u hbe q⟩
end
def trk(h:Heap)(H:Hp):List Addr:=(List.range h.objs.size).filter fun a=>(H a).isSome
def P4(h:Heap)(H:Hp):Heap:=PySem.W.hideAll h (trk h H)
theorem Wx(h:Heap)(H:Hp):(P4 h H).objs.size=h.objs.size:=PySem.W.hideAll_size _ _
theorem Mu{h:Heap}{H:Hp}{b:Addr}{o:Obj}(e:h.get? b=some o)(n:H b=none):(P4 h H).get? b=some o:=
 PySem.W.hideAll_get _ e fun hm=>by
  have q:(H b).isSome=true:=(List.mem_filter.mp hm).2;rw [n]at q;simp at q
theorem J3f{h:Heap}{H:Hp}{b:Addr}{o:Obj}(e:(P4 h H).get? b=some o):h.get? b=some o∧H b=none:=by
 have e':h.get? b=some o:=PySem.W.of_hideAll (trk h H) e;refine ⟨e',?_⟩
 cases q:H b with
 | none=>rfl
 | some x=>
  have hm:b∈trk h H:=List.mem_filter.mpr ⟨List.mem_range.mpr (Heap.lt_size e'),by simp [q]⟩;have z:(P4 h H).get? b=none:=PySem.W.hideAll_none (trk h H) hm;rw [z]at e;cases e
def J3g(g h:Heap)(L:Addr):List (Addr×Obj):=(List.range h.objs.size).filterMap fun a=>if a=L∨(g.get? a).isSome=true then none else (h.get? a).map fun o=>(a,o)
def rest(g h:Heap)(L d:Addr):List (Addr×Obj):=(J3g g h L).filter fun p=>decide (p.1≠d)
end L2
namespace L2
structure Mod(K:PySem.W.Frag)(mg:Str→Option Value)(base:Heap):Prop where
 kin:K.In base
 glob:base.Ns mainGlobals mg
 blt:∃mb,base.Ns builtinsNs mb∧∀x:Str,x≠"__name__"→mb x=bootBuiltins x
 nolimit:base.NoLimit
structure Cx where
 prog:Program
 w:World
 K:PySem.W.Frag
 mg:Str→Option Value
 base:Heap
 A:Around
 N:List Str
 s₀:Shared
 H₀:Hp
 env:Env
 outer:List Env
 stack:List Env
 ex:List Addr
 fn:Str→Bool
 calm:Bool
 pn:List (Addr×Obj)
 xe:Value→Shared→Prop
def frs(l:List Env):List Addr:=l.filterMap (·.frame)
abbrev Cx.fs(X:Cx):List Addr:=frs X.outer
def Vis(sc:Scope)(x:Str):Prop:=sc.names.lookup x=some .local∨sc.names.lookup x=some .cell∨sc.names.lookup x=some .free
def Loc(sc:Scope)(x:Str):Prop:=sc.names.lookup x=some .local∨sc.names.lookup x=some .cell
def J9e(env:Env)(h:Heap)(m:Str→Option Value)(x:Str)(u:Value):Prop:=
 (env.kindOf x=some .local∧m x=some u)∨((env.kindOf x=some .cell∨env.kindOf x=some .free)∧∃c,env.cells.lookup x=some c∧h.IsCell c (some u))
structure Cx.Ok(X:Cx):Prop where
 mod:Mod X.K X.mg X.base
 kind:X.env.scope.kind= .function
 glob:X.env.globals=mainGlobals
 blt:X.env.builtins=builtinsNs
 above:X.s₀.heap.objs.size≤X.env.locals
 inj:∀x y c,X.env.cells.lookup x=some c→X.env.cells.lookup y=some c→x=y
 has:∀x,(X.env.kindOf x=some .cell∨X.env.kindOf x=some .free)→∃c,X.env.cells.lookup x=some c
 cab:∀x c,X.fn x=true→X.env.cells.lookup x=some c→X.s₀.heap.objs.size≤c
 hd:X.calm=true→X.A.handled=none
 frames:X.A.frames=some X.stack
 stk:X.stack=X.outer∨(X.stack=X.env::X.outer∧X.env.frame=some X.env.locals)
 exf:∀b∈X.ex,b≠X.env.locals∧∀x c,X.env.cells.lookup x=some c→c≠b
 bs:∀b o,X.base.get? b=some o→X.s₀.heap.get? b=some o∧X.H₀ b=none
 bsz:X.base.objs.size≤X.s₀.heap.objs.size
 noex:∀b o,X.base.get? b=some o→b∉X.ex
 exfs:∀b∈X.ex,b∉X.fs
 funs:X.s₀.heap.FunFrames X.base X.outer
 frf:∀b∈X.fs,X.H₀ b=none
structure Inv(X:Cx)(pins:List (Addr×Obj))(σ:List (Option V))(H:Hp)(s:Shared):Prop where
 ok:X.Ok
 os:s.os=X.s₀.os
 bare:AllBare s.gens
 base:Un X.fs X.ex X.H₀ H X.s₀.heap s.heap
 loc:∃m,s.heap.Ns X.env.locals m∧∀(i:Nat) (x:Str) (v:V),X.N[i]?=some x→σ[i]?=some (some v)→Vis X.env.scope x→∃u,Ao v u∧J9e X.env s.heap m x u
 cell:∀x c,X.env.cells.lookup x=some c→∃v,s.heap.IsCell c v
 free:H X.env.locals=none
 freeC:∀x c,X.env.cells.lookup x=some c→H c=none
 pin:∀p∈X.pn++pins,s.heap.get? p.1=some p.2∧H p.1=none∧p.1≠X.env.locals∧p.1∉X.fs∧∀v,p.2.data≠ .cell v
 hok:HOk X.prog X.w H s.heap
 len:σ.length=X.N.length
section
variable {X:Cx} {pins:List (Addr×Obj)} {σ:List (Option V)} {H H':Hp} {s:Shared} {h':Heap}
theorem Cx.Ok.nofr(ok:X.Ok){b:Addr}{o:Obj}(e:X.base.get? b=some o):b∉X.fs:=fun hb=>by
 have:=(ok.funs.mem hb).1;rw [e]at this;cases this
theorem Inv.bs(I:Inv X pins σ H s):∀b o,X.base.get? b=some o→s.heap.get? b=some o∧H b=none:=fun b o e=>
 ⟨I.base.keep b o (I.ok.bs b o e).1 (I.ok.bs b o e).2 (I.ok.nofr e) (I.ok.noex b o e),I.base.free b o (I.ok.bs b o e).1 (I.ok.bs b o e).2 (I.ok.noex b o e)⟩
theorem Inv.bk(I:Inv X pins σ H s):∀b o,X.base.get? b=some o→s.heap.get? b=some o:=fun b o e=>(I.bs b o e).1
theorem Inv.mod(I:Inv X pins σ H s):Mod X.K X.mg X.base:=I.ok.mod
theorem Inv.kIn(I:Inv X pins σ H s):X.K.In s.heap:=I.ok.mod.kin.keeps I.bk
theorem Inv.lt(I:Inv X pins σ H s):X.env.locals < s.heap.objs.size:=let ⟨_,hn,_⟩:=I.loc;hn.lt
theorem Inv.sz(I:Inv X pins σ H s):X.s₀.heap.objs.size≤s.heap.objs.size:=Nat.le_trans I.ok.above (Nat.le_of_lt I.lt)
theorem Inv.nofs(I:Inv X pins σ H s){a:Addr}(h:s.heap.objs.size≤a):a∉X.fs:=fun hb=>by
 obtain ⟨_,o,ho,_⟩:=I.ok.funs.mem hb;exact absurd (Nat.lt_of_lt_of_le (Heap.lt_size ho) (Nat.le_trans I.sz h)) (Nat.lt_irrefl _)
theorem Inv.cne(I:Inv X pins σ H s):∀x c,X.env.cells.lookup x=some c→c≠X.env.locals:=fun x c e z=>by
 obtain ⟨v,o,ho,hd⟩:=I.cell x c e;obtain ⟨m,⟨o',es,ep,ho',hd',_⟩,_⟩:=I.loc;rw [z,ho']at ho;cases ho;rw [hd']at hd;cases hd
theorem Inv.funs(I:Inv X pins σ H s):s.heap.FunFrames X.base X.outer:=by
 have all:∀(l:List Env),(∀b∈frs l,b∈X.fs)→X.s₀.heap.FunFrames X.base l→s.heap.FunFrames X.base l:=by
  intro l
  induction l with
  | nil=>intro _ _;trivial
  | cons env r ih=>
   intro hs hl;obtain ⟨hk,⟨L,o,hf,hn,ho,hd⟩,hr⟩:=hl;have hL:L∈X.fs:=hs L (by unfold frs;rw [List.filterMap_cons,hf];exact List.mem_cons_self);obtain ⟨sl,e⟩:=I.base.slot L o ho (I.ok.frf L hL) hL fun z=>I.ok.exfs L z hL;exact ⟨hk,⟨L,_,hf,hn,e,hd⟩,ih (fun b hb=>hs b (by unfold frs;rw [List.filterMap_cons,hf];exact List.mem_cons_of_mem _ hb)) hr⟩
 exact all X.outer (fun _ hb=>hb) I.ok.funs
theorem Inv.stack(I:Inv X pins σ H s):s.heap.FunFrames X.base X.stack:=by
 rcases I.ok.stk with e | ⟨e,hf⟩
 · rw [e];exact I.funs
 · rw [e]
   obtain ⟨m,hn,_⟩:=I.loc;refine .cons (by rw [I.ok.kind];decide) hf hn ?_ I.funs;exact Heap.get?_none_of_le (Nat.le_trans I.ok.bsz I.ok.above)
theorem Inv.stkSub(I:Inv X pins σ H s):∀b∈frs X.stack,b∈X.env.locals::X.fs:=fun b hb=>by
 rcases I.ok.stk with e | ⟨e,hf⟩
 · rw [e]at hb;exact List.mem_cons_of_mem _ hb
 · rw [e]at hb
   unfold frs at hb;rw [List.filterMap_cons,hf]at hb;exact hb
theorem Inv.stkFree(I:Inv X pins σ H s):∀b∈frs X.stack,H b=none:=fun b hb=>by
 rcases List.mem_cons.mp (I.stkSub b hb) with e | hb
 · rw [e];exact I.free
 · obtain ⟨_,o,ho,_⟩:=I.ok.funs.mem hb
   exact I.base.free b o ho (I.ok.frf b hb) fun z=>I.ok.exfs b z hb
theorem Inv.step{g':Array GenState}{t':Nat}{d':Drawn}{ch:List Addr}(I:Inv X pins σ H s)
 (hch:∀b∈ch,(b∈X.ex∨X.s₀.heap.objs.size≤b)∧b≠X.env.locals∧(∀x c,X.env.cells.lookup x=some c→c≠b)∧∀p∈X.pn++pins,p.1≠b)
 (keep:∀b o,b≠X.env.locals→b∉X.fs→b∉ch→s.heap.get? b=some o→H b=none→h'.get? b=some o)
 (slot:∀b o,b≠X.env.locals→b∈X.fs→b∉ch→s.heap.get? b=some o→H b=none→∃sl,h'.get? b=some {o with slots:=sl}) (free:∀b o,b∉ch→s.heap.get? b=some o→H b=none→H' b=none)
 (there:∀b o,b∉ch→s.heap.get? b=some o→∃o',h'.get? b=some o')
 (tups:∀b xs,H b=some (.tup xs)→H' b=some (.tup xs)) (frzs:∀b o u,H b=some (.frz o u)→H' b=some (.frz o u)) (tbls:∀b ps,H b=some (.tbl ps)→∃more,H' b=some (.tbl (ps++more)))
 (ns:∀m,s.heap.Ns X.env.locals m→h'.Ns X.env.locals m) (hok:HOk X.prog X.w H' h') (hg:AllBare g'):
 Inv X pins σ H' {s with heap:=h',gens:=g',drawn:=d',toks:=t'}:=by
 have neL:∀b o,X.s₀.heap.get? b=some o→b≠X.env.locals:=fun b o e=>Nat.ne_of_lt (Nat.lt_of_lt_of_le (Heap.lt_size e) I.ok.above)
 have neC:∀b o,X.s₀.heap.get? b=some o→b∉X.ex→b∉ch:=fun b o e hx hb=>by
  rcases (hch b hb).1 with z | z
  · exact hx z
  · exact absurd (Nat.lt_of_lt_of_le (Heap.lt_size e) z) (Nat.lt_irrefl _)
 have cellK:∀x c,X.env.cells.lookup x=some c→∀v,s.heap.IsCell c v→h'.IsCell c v:=fun x c e v ⟨o,ho,hd⟩=>by
  have nch:c∉ch:=fun z=>(hch c z).2.2.1 x c e rfl
  by_cases hc:c∈X.fs
  · obtain ⟨sl,q⟩:=slot c o (I.cne x c e) hc nch ho (I.freeC x c e)
    exact ⟨_,q,hd⟩
  · exact ⟨o,keep c o (I.cne x c e) hc nch ho (I.freeC x c e),hd⟩
 refine ⟨I.ok,I.os,hg,⟨fun b o e n hb hx=>?_,fun b o e n hb hx=>?_,fun b o e n hx=>?_,fun b o e hx=>?_,fun b xs e=>tups b xs (I.base.tups b xs e),fun b o xs e=>frzs b o xs (I.base.frzs b o xs e),fun b ps e=>?_⟩,?_,fun x c e=>?_,?_,fun x c e=>?_,fun p hp=>?_,hok,I.len⟩
 · exact keep b o (neL b o e) hb (neC b o e hx) (I.base.keep b o e n hb hx) (I.base.free b o e n hx)
 · obtain ⟨sl,e1⟩:=I.base.slot b o e n hb hx
   obtain ⟨sl',e2⟩:=slot b _ (neL b o e) hb (neC b o e hx) e1 (I.base.free b o e n hx);exact ⟨sl',e2⟩
 · obtain ⟨o',e1⟩:=I.base.there b o e hx
   exact free b o' (neC b o e hx) e1 (I.base.free b o e n hx)
 · obtain ⟨o',e1⟩:=I.base.there b o e hx
   exact there b o' (neC b o e hx) e1
 · obtain ⟨m1,e1⟩:=I.base.tbls b ps e
   obtain ⟨m2,e2⟩:=tbls b _ e1;exact ⟨m1++m2,by rw [e2,Array.append_assoc]⟩
 · obtain ⟨m,hn,hl⟩:=I.loc
   refine ⟨m,ns m hn,fun i x v e1 e2 e3=>?_⟩;obtain ⟨u,r,l⟩:=hl i x v e1 e2 e3;refine ⟨u,r,?_⟩;rcases l with l | ⟨k,c,e,z⟩
   · exact .inl l
   · exact .inr ⟨k,c,e,cellK x c e _ z⟩
 · obtain ⟨v,z⟩:=I.cell x c e
   exact ⟨v,cellK x c e v z⟩
 · obtain ⟨m,⟨o,_,_,ho,_⟩,_⟩:=I.loc
   exact free _ o (fun z=>(hch _ z).2.1 rfl) ho I.free
 · obtain ⟨v,o,ho,hd⟩:=I.cell x c e
   exact free c o (fun z=>(hch c z).2.2.1 x c e rfl) ho (I.freeC x c e)
 · obtain ⟨e,n,ne,nf,d⟩:=I.pin p hp
   have nch:p.1∉ch:=fun z=>(hch p.1 z).2.2.2 p hp rfl;exact ⟨keep p.1 p.2 ne nf nch e n,free p.1 p.2 nch e n,ne,nf,d⟩
theorem Inv.un{t':Nat}(I:Inv X pins σ H s)(u:Un X.fs [] H H' s.heap h')(hok:HOk X.prog X.w H' h'):Inv X pins σ H' {s with heap:=h',toks:=t'}:=by
 obtain ⟨m,⟨o,es,ep,ho,r⟩,_⟩:=id I.loc;obtain ⟨sl,hL⟩:=u.any ho I.free (by simp)
 exact I.step (g':=s.gens) (d':=s.drawn) (ch:=[]) (fun _ z=>nomatch z) (fun b o _ hb _ e n=>u.keep b o e n hb (by simp)) (fun b o _ hb _ e n=>u.slot b o e n hb (by simp)) (fun b o _ e n=>u.free b o e n (by simp)) (fun b o _ e=>u.there b o e (by simp)) u.tups u.frzs u.tbls (fun m' hm=>by
  obtain ⟨o',es',ep',ho',r'⟩:=hm;rw [ho]at ho';cases ho'
  exact ⟨_,es',ep',hL,r'⟩) hok I.bare
theorem Inv.call{g':Array GenState}{t':Nat}{d':Drawn}{ch:List Addr}(I:Inv X pins σ H s)(u:Un (frs X.stack) ch H H' s.heap h')(hok:HOk X.prog X.w H' h')(hg:AllBare g')
 (hch:∀b∈ch,(b∈X.ex∨X.s₀.heap.objs.size≤b)∧b≠X.env.locals∧(∀x c,X.env.cells.lookup x=some c→c≠b)∧∀p∈X.pn++pins,p.1≠b):
 Inv X pins σ H' {s with heap:=h',gens:=g',drawn:=d',toks:=t'}:=by
 obtain ⟨m,⟨o,es,ep,ho,r⟩,_⟩:=id I.loc;obtain ⟨sl,hL⟩:=u.any ho I.free fun z=>(hch _ z).2.1 rfl
 exact I.step (ch:=ch) hch (fun b o hL hb hc e n=>u.keep b o e n (fun z=>(List.mem_cons.mp (I.stkSub b z)).elim hL hb) hc) (fun b o _ _ hc e n=>u.any e n hc) (fun b o hc e n=>u.free b o e n hc) (fun b o hc e=>u.there b o e hc) u.tups u.frzs u.tbls (fun m' hm=>by
  obtain ⟨o',es',ep',ho',r'⟩:=hm;rw [ho]at ho';cases ho'
  exact ⟨_,es',ep',hL,r'⟩) hok hg
theorem Inv.turned{t':Nat}{it:Addr}(I:Inv X pins σ H s)(k:∀b o,b≠it→s.heap.get? b=some o→h'.get? b=some o)(hn:H it=none)(hL:it≠X.env.locals)
 (h1:it∈X.ex∨X.s₀.heap.objs.size≤it) (h2:∀x c,X.env.cells.lookup x=some c→c≠it) (h3:∀p∈X.pn++pins,p.1≠it):Inv X pins σ H {s with heap:=h',toks:=t'}:=by
 have nit:∀b u,H b=some u→b≠it:=fun b u e z=>by rw [z,hn]at e;cases e
 refine I.step (g':=s.gens) (d':=s.drawn) (ch:=[it]) (fun b hb=>?_) (fun b o _ _ hc e _=>k b o (fun z=>hc (by simp [z])) e) (fun b o _ _ hc e _=>⟨o.slots,k b o (fun z=>hc (by simp [z])) e⟩) (fun _ _ _ _ n=>n)
  (fun b o hc e=>⟨o,k b o (fun z=>hc (by simp [z])) e⟩) (fun _ _ e=>e) (fun _ _ _ e=>e) (fun b ps e=>⟨#[],by rw [e];simp⟩) (fun m hm=>?_) (fun b u e=>?_) I.bare
 · have e:b=it:=by simpa using hb
   subst e;exact ⟨h1,hL,h2,h3⟩
 · obtain ⟨o,es,ep,ho,r⟩:=hm
   exact ⟨o,es,ep,k _ o (Ne.symm hL) ho,r⟩
 · refine (I.hok b u e).stay (fun c v hc q=>k c v ?_ q) (fun _ q=>q) fun _ _ q=>q
   rcases hc with z | z
   · rw [z];exact nit b u e
   · exact nit c _ z
theorem Inv.tok(I:Inv X pins σ H s)(t:Nat):Inv X pins σ H {s with toks:=t}:=I.un (h':=s.heap) (t':=t) Un.refl I.hok
theorem Inv.kept{t':Nat}(I:Inv X pins σ H s)(k:∀b u,s.heap.get? b=some u→h'.get? b=some u):Inv X pins σ H {s with heap:=h',toks:=t'}:=I.un (Un.kept k) (I.hok.kept k)
theorem Inv.laid{a:Addr}{o:HO}{t':Nat}(I:Inv X pins σ H s)(k:∀b u,s.heap.get? b=some u→h'.get? b=some u)(hp:s.heap.objs.size≤a)(new:Bg X.prog X.w (upd H a o) h' a o):
 Inv X pins σ (upd H a o) {s with heap:=h',toks:=t'}:=I.un (Un.laid k hp (I.hok.fresh hp)) (I.hok.laid k hp new)
theorem Inv.write{x e:Addr}{o:HO}{t':Nat}(I:Inv X pins σ H s)(mu:Mut (H x))(he:e=x∨H e=some (.own x))(k:∀b u,b≠e→s.heap.get? b=some u→h'.get? b=some u)(heo:∃u,h'.get? e=some u)
 (new:Bg X.prog X.w (upd H x o) h' x o):Inv X pins σ (upd H x o) {s with heap:=h',toks:=t'}:=I.un (Un.write mu he k heo) (I.hok.write mu he k heo new)
theorem Inv.weak{σ':List (Option V)}(I:Inv X pins σ H s)(hl:σ'.length=σ.length)(w:∀(i:Nat) v,σ'[i]?=some (some v)→σ[i]?=some (some v)):Inv X pins σ' H s:=
 ⟨I.ok,I.os,I.bare,I.base,let ⟨m,hn,hl'⟩:=I.loc;⟨m,hn,fun i x v e1 e2 e3=>hl' i x v e1 (w i v e2) e3⟩,I.cell,I.free,I.freeC,I.pin,I.hok,hl.trans I.len⟩
theorem Inv.pins_of{pins':List (Addr×Obj)}(I:Inv X pins σ H s)(h:∀p∈pins',s.heap.get? p.1=some p.2∧H p.1=none∧p.1≠X.env.locals∧p.1∉X.fs∧∀v,p.2.data≠ .cell v):Inv X pins' σ H s:=
 ⟨I.ok,I.os,I.bare,I.base,I.loc,I.cell,I.free,I.freeC,fun p hp=>(List.mem_append.mp hp).elim (fun z=>I.pin p (List.mem_append_left _ z)) (h p),I.hok,I.len⟩
theorem Qb{N:List Str}(hN:N.Nodup){i j:Nat}{x:Str}(a:N[i]?=some x)(b:N[j]?=some x):i=j:=by
 obtain ⟨h1,e1⟩:=List.getElem?_eq_some_iff.mp a;obtain ⟨h2,e2⟩:=List.getElem?_eq_some_iff.mp b;exact (List.getElem_inj hN).mp (e1.trans e2.symm)
theorem O4{M:Model}{A:Around}{E:Value→Shared→Prop}{i:Nat}{x:Str}{v:V}{u:Value}{Q:Unit→Shared→Prop}(I:Inv X pins σ H s)(hN:X.N.Nodup)(hi:X.N[i]?=some x)(hx:Loc X.env.scope x)(r:Ao v u)
 (h:∀s',Inv X pins (σ.set i (some v)) H s'→(∃a,Heap.SameBut a s.heap s'.heap∧(a=X.env.locals∨X.env.cells.lookup x=some a))→Q () s') (hf:X.fn x=true∨X.env.scope.names.lookup x=some .local:=by first | exact .inl rfl | exact .inr rfl | assumption):wpAny M A (storeName X.env x u) Q E s:=by
 obtain ⟨m,hn,hl⟩:=id I.loc
 have hcls:(X.env.scope.kind== .class || (X.env.scope.kind== .module && X.env.locals !=X.env.globals))=false:=by rw [I.ok.kind];rfl
 have hiσ:i < σ.length:=by rw [I.len];exact (List.getElem?_eq_some_iff.mp hi).1
 have cne:=I.cne
 have tracked:∀{a:Addr} {h':Heap},(∃o,s.heap.get? a=some o∧H a=none)→Heap.SameBut a s.heap h'→HOk X.prog X.w H h':=fun {a h'} ha hs b ob e=>by
  obtain ⟨_,_,hfree⟩:=ha;refine (I.hok b ob e).stay (fun c w' hc q=>(hs.2 c ?_).trans q) (fun _ q=>q) fun _ _ q=>q;rintro rfl;rcases hc with rfl | hc
  · rw [hfree]at e;cases e
  · rw [hfree]at hc;cases hc
 rcases hx with hk | hk
 · refine wpAny_storeName_local hk hn (fun h' hn' hs=>?_) hcls
   obtain ⟨oL,_,_,hoL,_⟩:=id hn;refine h _ ⟨I.ok,I.os,I.bare,⟨fun b o e n hb hx=>?_,fun b o e n hb hx=>?_,I.base.free,fun b o e hx=>?_,I.base.tups,I.base.frzs,I.base.tbls⟩,⟨_,hn',fun j y v' e1 e2 e3=>?_⟩,fun y c e=>?_,I.free,I.freeC,fun p hp=>?_,tracked ⟨oL,hoL,I.free⟩ hs,by simpa using I.len⟩ ⟨_,hs,.inl rfl⟩
   · exact (hs.2 b (Nat.ne_of_lt (Nat.lt_of_lt_of_le (Heap.lt_size e) I.ok.above))).trans (I.base.keep b o e n hb hx)
   · obtain ⟨sl,e1⟩:=I.base.slot b o e n hb hx
     exact ⟨sl,(hs.2 b (Nat.ne_of_lt (Nat.lt_of_lt_of_le (Heap.lt_size e) I.ok.above))).trans e1⟩
   · obtain ⟨o',e1⟩:=I.base.there b o e hx
     exact ⟨o',(hs.2 b (Nat.ne_of_lt (Nat.lt_of_lt_of_le (Heap.lt_size e) I.ok.above))).trans e1⟩
   · by_cases hj:j=i
     · subst hj
       rw [hi]at e1;cases e1;rw [List.getElem?_set_self hiσ]at e2;cases e2;exact ⟨u,r,.inl ⟨hk,by simp⟩⟩
     · rw [List.getElem?_set_ne (Ne.symm hj)]at e2
       obtain ⟨u',r',q⟩:=hl j y v' e1 e2 e3;refine ⟨u',r',?_⟩;rcases q with ⟨k,e⟩ | ⟨k,c,e,z⟩
       · refine .inl ⟨k,?_⟩
         have:y≠x:=fun e=>hj (Qb hN e1 (e▸hi));simp [this,e]
       · exact .inr ⟨k,c,e,z.sameBut hs (cne y c e)⟩
   · obtain ⟨w',z⟩:=I.cell y c e
     exact ⟨w',z.sameBut hs (cne y c e)⟩
   · obtain ⟨e,n,ne,nf,d⟩:=I.pin p hp
     exact ⟨(hs.2 p.1 ne).trans e,n,ne,nf,d⟩
 · have hfn:X.fn x=true:=by
    rcases hf with z | z
    · exact z
    · rw [z]at hk;cases hk
   obtain ⟨c,hc⟩:=I.ok.has x (.inl hk);obtain ⟨w',z⟩:=I.cell x c hc;refine wpAny_storeName_cell I.ok.kind hk hc z (fun h' hc' hs=>?_);obtain ⟨oc,hoc,hocd⟩:=id z;refine h {s with heap:=h'} ⟨I.ok,I.os,I.bare,⟨fun b o e n hb hx=>?_,fun b o e n hb hx=>?_,I.base.free,fun b o e hx=>?_,I.base.tups,I.base.frzs,I.base.tbls⟩,⟨m,hn.sameBut hs (Ne.symm (cne x c hc)),fun j y v' e1 e2 e3=>?_⟩,fun y c' e=>?_,I.free,I.freeC,fun p hp=>?_,tracked ⟨oc,hoc,I.freeC x c hc⟩ hs,by simpa using I.len⟩ ⟨c,hs,.inr hc⟩
   · exact (hs.2 b (Nat.ne_of_lt (Nat.lt_of_lt_of_le (Heap.lt_size e) (I.ok.cab x c hfn hc)))).trans (I.base.keep b o e n hb hx)
   · obtain ⟨sl,e1⟩:=I.base.slot b o e n hb hx
     exact ⟨sl,(hs.2 b (Nat.ne_of_lt (Nat.lt_of_lt_of_le (Heap.lt_size e) (I.ok.cab x c hfn hc)))).trans e1⟩
   · obtain ⟨o',e1⟩:=I.base.there b o e hx
     exact ⟨o',(hs.2 b (Nat.ne_of_lt (Nat.lt_of_lt_of_le (Heap.lt_size e) (I.ok.cab x c hfn hc)))).trans e1⟩
   · by_cases hj:j=i
     · subst hj
       rw [hi]at e1;cases e1;rw [List.getElem?_set_self hiσ]at e2;cases e2;exact ⟨u,r,.inr ⟨.inl hk,c,hc,hc'⟩⟩
     · rw [List.getElem?_set_ne (Ne.symm hj)]at e2
       obtain ⟨u',r',q⟩:=hl j y v' e1 e2 e3;refine ⟨u',r',?_⟩;rcases q with q | ⟨k,c',e,z'⟩
       · exact .inl q
       · refine .inr ⟨k,c',e,z'.sameBut hs ?_⟩
         rintro rfl;exact hj (Qb hN e1 (I.ok.inj _ _ _ e hc▸hi))
   · by_cases hcc:c'=c
     · subst hcc;exact ⟨_,hc'⟩
     · obtain ⟨w2,z2⟩:=I.cell y c' e
       exact ⟨w2,z2.sameBut hs hcc⟩
   · obtain ⟨e,n,ne,nf,d⟩:=I.pin p hp
     refine ⟨(hs.2 p.1 ?_).trans e,n,ne,nf,d⟩;intro q;rw [q,hoc]at e;have q':oc=p.2:=Option.some.inj e;exact d w' (by rw [← q'];exact hocd)
theorem Mw{M:Model}{A:Around}{E:Value→Shared→Prop}{i:Nat}{x:Str}{v:V}{u:Value}{Q:Unit→Shared→Prop}(I:Inv X pins σ H s)(hN:X.N.Nodup)(hi:X.N[i]?=some x)(hx:Loc X.env.scope x)(r:Ao v u)
 (h:∀s',Inv X pins (σ.set i (some v)) H s'→Q () s') (hf:X.fn x=true∨X.env.scope.names.lookup x=some .local:=by first | exact .inl rfl | exact .inr rfl | assumption):wpAny M A (storeName X.env x u) Q E s:=
 O4 I hN hi hx r (fun s' I' _=>h s' I') hf
theorem Inv.call'{s':Shared}{ch:List Addr}(I:Inv X pins σ H s)(ho:s'.os=s.os)(u:Un (frs X.stack) ch H H' s.heap s'.heap)(hok:HOk X.prog X.w H' s'.heap)(hg:AllBare s'.gens)
 (hch:∀b∈ch,(b∈X.ex∨X.s₀.heap.objs.size≤b)∧b≠X.env.locals∧(∀x c,X.env.cells.lookup x=some c→c≠b)∧∀p∈X.pn++pins,p.1≠b):Inv X pins σ H' s':=by
 obtain ⟨h',g',d',t',o'⟩:=s';have e:o'=s.os:=ho;subst e;exact I.call (g':=g') (t':=t') (d':=d') u hok hg hch
end
abbrev XK:=Value→Option Addr→Hp→Prop
abbrev St:=List (Option V)
abbrev VK:=V→Hp→Prop
abbrev TE:=St→Hp→VK→Prop
abbrev TT:=St→Hp→(Bool→Hp→Prop)→Prop
abbrev TA:=St→Hp→(List V→Hp→Prop)→Prop
structure G7 where
 nx:St→Hp→Prop
 rt:VK
 bk:St→Hp→Prop:=fun _ _=>False
 ct:St→Hp→Prop:=fun _ _=>False
abbrev TS:=G7→St→Hp→Prop
def EP(X:Cx)(pins:List (Addr×Obj))(σ:St)(Q:VK)(u:Value)(s':Shared):Prop:=∃v H',Inv X pins σ H' s'∧Ao v u∧Q v H'
def TP(X:Cx)(pins:List (Addr×Obj))(σ:St)(Q:Bool→Hp→Prop)(b:Bool)(s':Shared):Prop:=∃H',Inv X pins σ H' s'∧Q b H'
def AP(X:Cx)(pins:List (Addr×Obj))(σ:St)(Q:List V→Hp→Prop)(us:List Value)(s':Shared):Prop:=∃vs H',Inv X pins σ H' s'∧Aw vs us∧Q vs H'
def SP(X:Cx)(pins:List (Addr×Obj))(D:G7)(f:Flow)(s':Shared):Prop:=
 match f with
 | .next=>∃σ' H',Inv X pins σ' H' s'∧D.nx σ' H'
 | .brk=>∃σ' H',Inv X pins σ' H' s'∧D.bk σ' H'
 | .cont=>∃σ' H',Inv X pins σ' H' s'∧D.ct σ' H'
 | .ret u=>∃v σ' H',Inv X pins σ' H' s'∧Ao v u∧D.rt v H'
def PE(X:Cx)(e:Expr)(t:TE):Prop:=
 ∀(pins:List (Addr×Obj)) (s:Shared) (σ:St) (H:Hp) (Q:VK),Inv X pins σ H s→t σ H Q→wpAny (model X.prog X.w) X.A (eval e X.env) (EP X pins σ Q) X.xe s
def PT(X:Cx)(e:Expr)(t:TT):Prop:=
 ∀(pins:List (Addr×Obj)) (s:Shared) (σ:St) (H:Hp) (Q:Bool→Hp→Prop),Inv X pins σ H s→t σ H Q→wpAny (model X.prog X.w) X.A (isTrue e X.env (eval e X.env)) (TP X pins σ Q) X.xe s
def PW(X:Cx)(e:Expr)(t:TT):Prop:=
 ∀(whole:Sem Value) (pins:List (Addr×Obj)) (s:Shared) (σ:St) (H:Hp) (Q:Bool→Hp→Prop),Inv X pins σ H s→t σ H Q→wpAny (model X.prog X.w) X.A (isTrue e X.env whole) (TP X pins σ Q) X.xe s
theorem PW.pt{X:Cx}{e:Expr}{t:TT}(h:PW X e t):PT X e t:=h _
def PA(X:Cx)(es:List Expr)(t:TA):Prop:=
 ∀(pos:Pos) (pins:List (Addr×Obj)) (s:Shared) (σ:St) (H:Hp) (Q:List V→Hp→Prop),Inv X pins σ H s→t σ H Q→wpAny (model X.prog X.w) X.A (spliced (backTo pos (starEach es X.env))) (AP X pins σ Q) X.xe s
def PS(X:Cx)(st:Stmt)(t:TS):Prop:=
 ∀(pins:List (Addr×Obj)) (s:Shared) (σ:St) (H:Hp) (D:G7),Inv X pins σ H s→t D σ H→wpAny (model X.prog X.w) X.A (exec st X.env) (SP X pins D) X.xe s
def PSs(X:Cx)(st:List Stmt)(t:TS):Prop:=
 ∀(pins:List (Addr×Obj)) (s:Shared) (σ:St) (H:Hp) (D:G7),Inv X pins σ H s→t D σ H→wpAny (model X.prog X.w) X.A (execs st X.env) (SP X pins D) X.xe s
theorem thn{α:Type}{t:Sem α}{Q Q':α→Shared→Prop}{M:Model}{A:Around}{E:Value→Shared→Prop}{s:Shared}(h:wpAny M A t Q E s)(hQ:∀a s,Q a s→Q' a s):wpAny M A t Q' E s:=wpAny_mono h hQ fun _ _ x=>x
end L2
namespace L2
section
variable {X:Cx}
def J6i(i:Nat):TE:=fun σ H Q=>∃v,σ[i]?=some (some v)∧Q v H
def tC(v:V):TE:=fun _ H Q=>Q v H
theorem J6j{i:Nat}{x:Str}{pos:Pos}(hN:X.N[i]?=some x)(hv:Vis X.env.scope x)(hd:(x==("__debug__":Str))=false:=by decide)(hcd:(x==("__classdict__":Str))=false:=by decide):PE X (.Name x pos) (J6i i):=by
 intro pins s σ H Q I h;obtain ⟨v,e,h⟩:=h;obtain ⟨m,hn,hl⟩:=I.loc;obtain ⟨u,r,l⟩:=hl i x v hN e hv
 have fin:EP X pins σ Q u s:=⟨v,H,I,r,h⟩
 rcases l with ⟨hk,hm⟩ | ⟨hk,c,hc,hcell⟩
 · exact wpAny_Name (wpAny_loadName_local I.ok.kind hk hn hm fin) hd
 · rcases hk with hk | hk
   · exact wpAny_Name (wpAny_loadName_cell I.ok.kind hk hc hcell fin) hd
   · exact wpAny_Name (wpAny_loadName_free I.ok.kind hk hc hcell fin hcd) hd
theorem A8{i j pos}:PE X (.Constant (.int i) j pos) (tC (.int i)):=fun _ _ _ H _ I h=>wpAny_Constant_int ⟨.int i,H,I.tok _,⟨_,rfl⟩,h⟩
theorem G8{b j pos}:PE X (.Constant (.bool b) j pos) (tC (.bl b)):=fun _ _ _ H _ I h=>Constant_bool ⟨.bl b,H,I,rfl,h⟩
theorem Mx{j pos}:PE X (.Constant .none j pos) (tC .non):=fun _ _ _ H _ I h=>Constant_none ⟨.non,H,I,rfl,h⟩
theorem Y9{x j pos}:PE X (.Constant (.str x) j pos) (tC (.str x)):=fun _ _ _ H _ I h=>Calls.Constant_str ⟨.str x,H,I.tok _,⟨_,rfl⟩,h⟩
def Gl(X:Cx)(x:Str):Prop:=X.env.kindOf x=some .globalImplicit
theorem Ma{E:Value→Shared→Prop}{pins:List (Addr×Obj)}{s:Shared}{σ:St}{H:Hp}{x:Str}{u:Value}{pos:Pos}{Q:Value→Shared→Prop}(I:Inv X pins σ H s)(hg:Gl X x)(hm:X.mg x=some u)(h:Q u s)
 (hd:(x==("__debug__":Str))=false:=by decide):wpAny (model X.prog X.w) X.A (eval (.Name x pos) X.env) Q E s:=
 Calls.Name_function_global I.ok.kind hg (Calls.loadGlobal_global (by rw [I.ok.glob];exact I.mod.glob.keeps I.bk) hm h) hd
theorem G9{E:Value→Shared→Prop}{pins:List (Addr×Obj)}{s:Shared}{σ:St}{H:Hp}{x:Str}{u:Value}{pos:Pos}{Q:Value→Shared→Prop}(I:Inv X pins σ H s)(hg:Gl X x)(hm:X.mg x=none)(hv:bootBuiltins x=some u)(h:Q u s)
 (hn:x≠"__name__":=by decide) (hd:(x==("__debug__":Str))=false:=by decide):wpAny (model X.prog X.w) X.A (eval (.Name x pos) X.env) Q E s:=by
 obtain ⟨mb,h1,h2⟩:=I.mod.blt;exact Calls.Name_function_global I.ok.kind hg (Calls.loadGlobal_builtin (by rw [I.ok.glob];exact I.mod.glob.keeps I.bk) hm (by rw [I.ok.blt];exact h1.keeps I.bk) ((h2 x hn).trans hv) h) hd
theorem Ka{x:Str}{v:V}{u:Value}{pos:Pos}(hg:Gl X x)(hm:X.mg x=some u)(r:Ao v u)(hd:(x==("__debug__":Str))=false:=by decide):PE X (.Name x pos) (tC v):=
 fun _ _ _ H _ I h=>Ma I hg hm ⟨v,H,I,r,h⟩ hd
theorem Cb{x:Str}{v:V}{u:Value}{pos:Pos}(hg:Gl X x)(hm:X.mg x=none)(hv:bootBuiltins x=some u)(r:Ao v u)(hn:x≠"__name__":=by decide)(hd:(x==("__debug__":Str))=false:=by decide):PE X (.Name x pos) (tC v):=
 fun _ _ _ H _ I h=>G9 I hg hm hv ⟨v,H,I,r,h⟩ hn hd
variable {a b:Expr} {ta tb:TE} {pos:Pos}
def PC(X:Cx)(op:CmpOp)(a b:Expr)(t:TE):Prop:=
 ∀(pins:List (Addr×Obj)) (s:Shared) (σ:St) (H:Hp) (Q:VK),Inv X pins σ H s→t σ H Q→
   wpAny (model X.prog X.w) X.A (eval a X.env) (fun v s₁=>wpAny (model X.prog X.w) X.A (eval b X.env) (fun u s₂=>wpAny (model X.prog X.w) X.A (compareOp op v u) (EP X pins σ Q) X.xe s₂) X.xe s₁) X.xe s
theorem Qc(b:Expr){op:CmpOp}(h:op≠ .In)(h2:op≠ .NotIn):behindInMarks op b=false:=by
 have e1:(op==CmpOp.In)=false:=by cases op <;> first | rfl | exact absurd rfl h
 have e2:(op==CmpOp.NotIn)=false:=by cases op <;> first | rfl | exact absurd rfl h2
 cases b <;> simp [behindInMarks,e1,e2]
def tB(t:TE):TT:=fun σ H Q=>t σ H fun x H1=>∃c,x= .bl c∧Q c H1
theorem Ya{op:CmpOp}{t:TE}(h:PC X op a b t)(h1:behindInMarks op b=false:=by first | exact Qc _ (by decide) (by decide) | rfl):PE X (.Compare a [op] [b] pos) t:=fun pins s σ H Q I hw=>wpAny_Compare1 (h pins s σ H Q I hw) h1
theorem Tl{op:CmpOp}{t:TE}(h:PC X op a b t)(h1:behindInMarks op b=false:=by first | exact Qc _ (by decide) (by decide) | rfl):PT X (.Compare a [op] [b] pos) (tB t):=by
 intro pins s σ H Q I hw;refine wpAny_isTrue_Compare1 (thn (h pins s σ H _ I hw) fun v s1 h1=>thn h1 fun u s2 h2=>thn h2 fun c s3 hq_=>?_) h1;obtain ⟨x,H1,I1,r1,q1⟩:=hq_;obtain ⟨d,rfl,q⟩:=q1;cases r1;exact wpAny_truthy_bool ⟨H1,I1,q⟩
theorem Bi{e:Expr}{t:TE}(h:PE X e t)(he:∀whole,isTrue e X.env whole=(do let v ← whole;standAt e.pos;holding [v] (truthy v)):=by intro _;rfl):PT X e (tB t):=by
 intro pins s σ H Q I hw;refine isTrue_plain (thn (h pins s σ H _ I hw) fun v s1 hq_=>?_) (he _);obtain ⟨x,H1,I1,r1,q1⟩:=hq_;obtain ⟨d,rfl,q⟩:=q1;cases r1;exact wpAny_truthy_bool ⟨H1,I1,q⟩
variable {tA tB':TT} {rest:List Expr}
def J7t(t u:TT):TT:=fun σ H Q=>t σ H fun c H1=>if c=true then u σ H1 Q else Q false H1
def tOr(t u:TT):TT:=fun σ H Q=>t σ H fun c H1=>if c=true then Q true H1 else u σ H1 Q
def J7u(t:TT):TT:=fun σ H Q=>t σ H fun c H1=>Q (!c) H1
theorem Us(ha:PT X a tA):PW X (.BoolOp .And [a] pos) tA:=by
 intro wh pins s σ H Q I h;refine isTrue_and (thn (ha pins s σ H Q I h) fun c s1 e=>?_)
 cases c with
 | true=>exact isTrue_and_nil e
 | false=>exact e
theorem L7(ha:PT X a tA):PW X (.BoolOp .Or [a] pos) tA:=by
 intro wh pins s σ H Q I h;refine isTrue_or (thn (ha pins s σ H Q I h) fun c s1 e=>?_)
 cases c with
 | false=>exact isTrue_or_nil e
 | true=>exact e
theorem Yb(ha:PT X a tA)(hb:PW X (.BoolOp .And (b::rest) pos) tB'):PW X (.BoolOp .And (a::b::rest) pos) (J7t tA tB'):=by
 intro wh pins s σ H Q I h;refine isTrue_and (thn (ha pins s σ H _ I h) fun c s1 ⟨H1,I1,q1⟩=>?_)
 cases c with
 | true=>exact hb wh pins s1 σ H1 Q I1 q1
 | false=>exact ⟨H1,I1,q1⟩
theorem Iw(ha:PT X a tA)(hb:PW X (.BoolOp .Or (b::rest) pos) tB'):PW X (.BoolOp .Or (a::b::rest) pos) (tOr tA tB'):=by
 intro wh pins s σ H Q I h;refine isTrue_or (thn (ha pins s σ H _ I h) fun c s1 ⟨H1,I1,q1⟩=>?_)
 cases c with
 | true=>exact ⟨H1,I1,q1⟩
 | false=>exact hb wh pins s1 σ H1 Q I1 q1
theorem Bx(ha:PT X a tA):PT X (.UnaryOp .Not a pos) (J7u tA):=by
 intro pins s σ H Q I h;exact isTrue_not (ha pins s σ H (fun c H1=>Q (!c) H1) I h)
def J5a(ta tb:TE):TE:=fun σ H Q=>ta σ H fun x H1=>∃c,x= .bl c∧if c=true then tb σ H1 Q else Q (.bl false) H1
def J5b(ta:TE):TE:=fun σ H Q=>ta σ H fun x H1=>∃c,x= .bl c∧Q (.bl (!c)) H1
theorem L8{op}{t:TE}(h:PE X a t):PE X (.BoolOp op [a] pos) t:=fun pins s σ H Q I hw=>BoolOp_one (h pins s σ H Q I hw)
theorem L9(ha:PE X a ta)(hb:PE X (.BoolOp .And (b::rest) pos) tb):PE X (.BoolOp .And (a::b::rest) pos) (J5a ta tb):=by
 intro pins s σ H Q I h;refine BoolOp_and (thn (ha pins s σ H _ I h) fun v s1 hq_=>?_);obtain ⟨x,H1,I1,r1,q1⟩:=hq_;obtain ⟨c,rfl,q1⟩:=q1;cases r1;refine wpAny_truthy_bool ?_
 cases c with
 | true=>exact hb pins s1 σ H1 Q I1 q1
 | false=>exact ⟨.bl false,H1,I1,rfl,q1⟩
theorem P5(ha:PE X a ta):PE X (.UnaryOp .Not a pos) (J5b ta):=by
 intro pins s σ H Q I h;refine UnaryOp_ (thn (ha pins s σ H _ I h) fun v s1 hq_=>?_);obtain ⟨x,H1,I1,r1,q1⟩:=hq_;obtain ⟨c,rfl,q1⟩:=q1;cases r1;exact not_of (wpAny_truthy_bool ⟨.bl (!c),H1,I1,rfl,q1⟩)
def tIf(t:TT)(ta tb:TE):TE:=fun σ H Q=>t σ H fun c H1=>if c=true then ta σ H1 Q else tb σ H1 Q
theorem Yc{c:Expr}(hc:PT X c tA)(ha:PE X a ta)(hb:PE X b tb):PE X (.IfExp c a b pos) (tIf tA ta tb):=by
 intro pins s σ H Q I h;refine wpAny_IfExp (thn (hc pins s σ H _ I h) fun d s1 ⟨H1,I1,q1⟩=>?_)
 cases d with
 | true=>exact ha pins s1 σ H1 Q I1 q1
 | false=>exact hb pins s1 σ H1 Q I1 q1
end
end L2
namespace L2
def SqL(K:PySem.W.Frag)(H:Hp)(a:Addr)(xs:List V):Prop:=
 Rd H a (.lst xs)∨
  ∃(o:Obj) (its:Array Value) (n:Nat),K.lookup a=some o∧o.cls= .type "list"∧o.dict=none∧o.data= .seq its n∧its.size≤sizeLine∧Aw xs its.toList
def SqT(K:PySem.W.Frag)(H:Hp)(a:Addr)(xs:List V):Prop:=
 Rd H a (.tup xs)∨
  ∃(o:Obj) (its:Array Value) (n:Nat),K.lookup a=some o∧o.cls= .type "tuple"∧o.data= .seq its n∧its.size≤sizeLine∧Aw xs its.toList
def J9f:Value→Option V
 | .none=>some .non
 | .bool b=>some (.bl b)
 | .int i _=>some (.int i)
 | .str x _=>some (.str x)
 | .bytes b _=>some (.byt b)
 | .float b _=>some (.flt b)
 | .ref a=>some (.ref a)
 | .type n=>some (.ty n)
 | _=>none
theorem Ao.abs{x:V}{u:Value}(r:Ao x u):J9f u=some x:=by
 cases x with
 | non=>cases r;rfl
 | bl _=>cases r;rfl
 | int _=>obtain ⟨t,rfl⟩:=r;rfl
 | str _=>obtain ⟨t,rfl⟩:=r;rfl
 | byt _=>obtain ⟨t,rfl⟩:=r;rfl
 | flt _=>obtain ⟨t,rfl⟩:=r;rfl
 | ref _=>cases r;rfl
 | ty _=>cases r;rfl
theorem Ao.inj{x y:V}{u:Value}(r:Ao x u)(q:Ao y u):x=y:=Option.some.inj (r.abs.symm.trans q.abs)
theorem Aw.inj:∀{xs ys:List V} {us:List Value},Aw xs us→Aw ys us→xs=ys
 | _,_,_,.nil,.nil=>rfl
 | _,_,_,.cons r t,.cons r' t'=>by rw [r.inj r',Aw.inj t t']
section
variable {X:Cx} {pins:List (Addr×Obj)} {σ:St} {H:Hp} {s:Shared} {a:Addr} {xs ys:List V}
theorem SqL.of{K:PySem.W.Frag}(h:H a=some (.lst xs)):SqL K H a xs:= .inl (.inl h)
theorem SqT.of{K:PySem.W.Frag}(h:H a=some (.tup xs)):SqT K H a xs:= .inl (.inl h)
theorem Inv.list(I:Inv X pins σ H s)(h:SqL X.K H a xs):∃its:List Value,Aw xs its∧PlainL s.heap a its.toArray∧xs.length≤sizeLine:=by
 rcases h with h | ⟨o,its,n,hk,hc,hd,hs,hz,r⟩
 · obtain ⟨z,its,n,r,e⟩:=h.ok I.hok
   exact ⟨its,r,⟨_,n,e,rfl,rfl,rfl⟩,z⟩
 · refine ⟨its.toList,r,⟨o,n,I.kIn a o hk,hc,hd,by simpa using hs⟩,?_⟩
   have e:=r.length;simp only [Array.length_toList]at e;omega
theorem Inv.tuple(I:Inv X pins σ H s)(h:SqT X.K H a xs):∃its:List Value,Aw xs its∧IsTup s.heap a its.toArray∧xs.length≤sizeLine:=by
 rcases h with h | ⟨o,its,n,hk,hc,hs,hz,r⟩
 · obtain ⟨z,its,r,p⟩:=h.ok I.hok
   exact ⟨its,r,p,z⟩
 · refine ⟨its.toList,r,⟨o,I.kIn a o hk,hc,n,by simpa using hs⟩,?_⟩
   have e:=r.length;simp only [Array.length_toList]at e;omega
theorem Inv.list_inj(I:Inv X pins σ H s)(h:SqL X.K H a xs)(h':SqL X.K H a ys):xs=ys:=by
 obtain ⟨its,r,⟨o,n,e,_,_,d⟩,_⟩:=I.list h;obtain ⟨its',r',⟨o',n',e',_,_,d'⟩,_⟩:=I.list h';rw [e]at e';cases e';rw [d]at d'
 injection d' with d1 _
 have:its=its':=by simpa using congrArg Array.toList d1
 subst this;exact r.inj r'
end
abbrev Cx.wish(X:Cx)(E:Value→Shared→Prop):Cx:={X with xe:=E}
abbrev Cx.nox(X:Cx):Cx:=X.wish fun _ _=>False
theorem Cx.Ok.wish{X:Cx}(ok:X.Ok)(E:Value→Shared→Prop):(X.wish E).Ok:=
 ⟨ok.mod,ok.kind,ok.glob,ok.blt,ok.above,ok.inj,ok.has,ok.cab,ok.hd,ok.frames,ok.stk,ok.exf,ok.bs,ok.bsz,ok.noex,ok.exfs,ok.funs,ok.frf⟩
theorem Cx.Ok.unwish{X:Cx}{E:Value→Shared→Prop}(ok:(X.wish E).Ok):X.Ok:=
 ⟨ok.mod,ok.kind,ok.glob,ok.blt,ok.above,ok.inj,ok.has,ok.cab,ok.hd,ok.frames,ok.stk,ok.exf,ok.bs,ok.bsz,ok.noex,ok.exfs,ok.funs,ok.frf⟩
section
variable {X:Cx} {pins:List (Addr×Obj)} {σ:St} {H:Hp} {s:Shared} {E:Value→Shared→Prop}
theorem Inv.wish(I:Inv X pins σ H s)(E:Value→Shared→Prop):Inv (X.wish E) pins σ H s:=⟨I.ok.wish E,I.os,I.bare,I.base,I.loc,I.cell,I.free,I.freeC,I.pin,I.hok,I.len⟩
theorem Inv.unwish(I:Inv (X.wish E) pins σ H s):Inv X pins σ H s:=⟨I.ok.unwish,I.os,I.bare,I.base,I.loc,I.cell,I.free,I.freeC,I.pin,I.hok,I.len⟩
theorem SP.unwish{D:G7}{f:Flow}{s':Shared}(h:SP (X.wish E) pins D f s'):SP X pins D f s':=by
 cases f with
 | next=>obtain ⟨σ',H',I,q⟩:=h;exact ⟨σ',H',I.unwish,q⟩
 | brk=>obtain ⟨σ',H',I,q⟩:=h;exact ⟨σ',H',I.unwish,q⟩
 | cont=>obtain ⟨σ',H',I,q⟩:=h;exact ⟨σ',H',I.unwish,q⟩
 | ret u=>obtain ⟨v,σ',H',I,r,q⟩:=h;exact ⟨v,σ',H',I.unwish,r,q⟩
theorem PSs.nox{st:List Stmt}{t:TS}(h:PSs X.nox st t):PSs X st t:=fun pins s σ H D I hw=>
 wpAny_mono (h pins s σ H D (I.wish _) hw) (fun _ _ q=>q.unwish) fun _ _ z=>False.elim z
end
section
variable {X:Cx} {st:Stmt} {rest:List Stmt} {t u:TS} {e:Expr} {te:TE} {pos:Pos}
def Yd:TS:=fun D σ H=>D.nx σ H
def J7v(t u:TS):TS:=fun D σ H=>t {D with nx:=u D} σ H
theorem Ak:PSs X [] Yd:=fun _ _ σ H _ I h=>wpAny_execs_nil ⟨σ,H,I,h⟩
theorem A2(h1:PS X st t)(h2:PSs X rest u):PSs X (st::rest) (J7v t u):=by
 intro pins s σ H D I h;refine wpAny_execs_cons (thn (h1 pins s σ H {D with nx:=u D} I h) fun f s1 q=>?_)
 cases f with
 | next=>
  obtain ⟨σ',H',I',q⟩:=q;exact h2 pins s1 σ' H' D I' q
 | ret v=>exact q
 | brk=>exact q
 | cont=>exact q
theorem A4(h1:PS X st t):PSs X [st] t:=by
 intro pins s σ H D I h;refine wpAny_execs_cons (thn (h1 pins s σ H D I h) fun f s1 q=>?_)
 cases f with
 | next=>exact wpAny_execs_nil q
 | ret v=>exact q
 | brk=>exact q
 | cont=>exact q
theorem Kb:PS X (.Pass pos) Yd:=fun _ _ σ H _ I h=>wpAny_Pass ⟨σ,H,I,h⟩
theorem Inv.quiet{pins:List (Addr×Obj)}{σ:St}{H:Hp}{s:Shared}(I:Inv X pins σ H s):interactive X.env=false:=by simp [interactive,I.ok.kind]
def J5c(te:TE):TS:=fun D σ H=>te σ H fun _ H1=>D.nx σ H1
theorem Ay(he:PE X e te)(hs:swapsWith e none pos.line X.env=pure false:=by rfl):PS X (.Expr e pos) (J5c te):=by
 intro pins s σ H D I h;exact wpAny_Expr_any (thn (he pins s σ H _ I h) fun v s1 ⟨x,H1,I1,r1,q1⟩=>⟨σ,H1,I1,q1⟩) I.quiet hs
def J7w(te:TE):TS:=fun D σ H=>te σ H D.rt
theorem Ae(he:PE X e te):PS X (.Return (some e) pos) (J7w te):=by
 intro pins s σ H D I h;exact wpAny_Return_some (thn (he pins s σ H _ I h) fun v s1 ⟨x,H1,I1,r1,q1⟩=>⟨x,σ,H1,I1,r1,q1⟩)
def J7x(c:TT)(t u:TS):TS:=fun D σ H=>c σ H fun b H1=>if b=true then t D σ H1 else u D σ H1
theorem Bd{c:Expr}{a b:List Stmt}{tc:TT}(hc:PT X c tc)(ha:PSs X a t)(hb:PSs X b u):PS X (.If c a b pos) (J7x tc t u):=by
 intro pins s σ H D I h;refine wpAny_If (thn (hc pins s σ H _ I h) fun d s1 ⟨H1,I1,q1⟩=>?_)
 cases d with
 | true=>exact ha pins s1 σ H1 D I1 q1
 | false=>exact hb pins s1 σ H1 D I1 q1
def Ye:TS:=fun _ _ _=>False
theorem Bj:PS X st Ye:=fun _ _ _ _ _ _ h=>h.elim
end
abbrev TG:=V→St→Hp→(St→Hp→Prop)→Prop
abbrev TGs:=List V→St→Hp→(St→Hp→Prop)→Prop
def PG(X:Cx)(target:Expr)(t:TG):Prop:=
 ∀(pins:List (Addr×Obj)) (s:Shared) (σ:St) (H:Hp) (v:V) (u:Value) (Q:St→Hp→Prop),Inv X pins σ H s→Ao v u→t v σ H Q→
   wpAny (model X.prog X.w) X.A (assign target X.env u) (fun _ s'=>∃σ' H',Inv X pins σ' H' s'∧Q σ' H') X.xe s
def PGs(X:Cx)(ts:List Expr)(t:TGs):Prop:=
 ∀(pins:List (Addr×Obj)) (s:Shared) (σ:St) (H:Hp) (vs:List V) (us:List Value) (Q:St→Hp→Prop),Inv X pins σ H s→Aw vs us→t vs σ H Q→
   wpAny (model X.prog X.w) X.A (assignInOrder ((assignEach ts X.env).map (·.2)) us) (fun _ s'=>∃σ' H',Inv X pins σ' H' s'∧Q σ' H') X.xe s
abbrev J3h:=V→V→V→Hp→(Hp→Prop)→Prop
def J7y(X:Cx)(t:J3h):Prop:=
 ∀(pins:List (Addr×Obj)) (s:Shared) (σ:St) (H:Hp) (o i v:V) (ov iv u:Value) (Q:Hp→Prop),Inv X pins σ H s→Ao o ov→Ao i iv→Ao v u→t o i v H Q→
   wpAny (model X.prog X.w) X.A (setItem ov iv u) (fun _ s'=>∃H',Inv X pins σ H' s'∧Q H') X.xe s
abbrev TIp:=V→V→Hp→VK→Prop
def PIp(X:Cx)(op:Operator)(t:TIp):Prop:=
 ∀(pins:List (Addr×Obj)) (s:Shared) (σ:St) (H:Hp) (x y:V) (v u:Value) (Q:VK),Inv X pins σ H s→Ao x v→Ao y u→t x y H Q→
   wpAny (model X.prog X.w) X.A (inplaceOp op v u) (EP X pins σ Q) X.xe s
section
variable {X:Cx} {pos:Pos}
def Bq(i:Nat):TG:=fun v σ H Q=>Q (σ.set i (some v)) H
theorem Ax{i:Nat}{x:Str}(hN:X.N.Nodup)(hi:X.N[i]?=some x)(hx:Loc X.env.scope x)(hf:X.fn x=true∨X.env.scope.names.lookup x=some .local:=by first | exact .inl rfl | exact .inr rfl | assumption):PG X (.Name x pos) (Bq i):=by
 intro pins s σ H v u Q I r h;exact wpAny_assign_Name (Mw I hN hi hx r (fun s' I'=>⟨_,H,I',h⟩) hf)
def J3i:TGs:=fun vs σ H Q=>vs=[]∧Q σ H
def My(t:TG)(u:TGs):TGs:=fun vs σ H Q=>∃v r,vs=v::r∧t v σ H fun σ' H'=>u r σ' H' Q
theorem Dq:PGs X [] J3i:=by
 intro pins s σ H vs us Q I r h;obtain ⟨e,h⟩:=h;subst e;cases r;exact assignInOrder_nil ⟨σ,H,I,h⟩
theorem B3{e:Expr}{es:List Expr}{t:TG}{u:TGs}(h1:PG X e t)(h2:PGs X es u)
 (hs:(assignEach (e::es) X.env).map (·.2)=assign e X.env::(assignEach es X.env).map (·.2):=by rfl):PGs X (e::es) (My t u):=by
 intro pins s σ H vs us Q I r h;obtain ⟨v,vr,e1,h⟩:=h;subst e1
 cases r with
 | cons r rr=>
  rw [hs];refine assignInOrder_cons (thn (h1 pins s σ H _ _ _ I r h) fun _ s1 hq_=>?_);obtain ⟨σ1,H1,I1,q1⟩:=hq_;exact h2 pins s1 σ1 H1 _ _ Q I1 rr q1
def J3j(K:PySem.W.Frag)(n:Nat)(t:TGs):TG:=fun v σ H Q=>∃a xs,v= .ref a∧SqT K H a xs∧xs.length=n∧t xs σ H Q
theorem Ga{es:List Expr}{k:Nat}{t:TGs}{n:Nat}(hc:X.calm=true)(h:PGs X es t)
 (hn:(assignEach es X.env).length=n:=by rfl) (hst:(assignEach es X.env).findIdx? (·.1)=none:=by rfl):PG X (.Tuple es k pos) (J3j X.K n t):=by
 intro pins s σ H v u Q I r hw;obtain ⟨a,xs,e1,hq,hl,hw⟩:=hw;subst e1;cases r;obtain ⟨its,rv,ht,hz⟩:=I.tuple hq;refine assign_Tuple_tuple (I.ok.hd hc) ht (by simp [hn,← hl,rv.length]) hst fun h' hx=>?_;have I1:Inv X pins σ H {s with heap:=h'}:=I.kept (t':=s.toks) fun b o e=>hx b o (Nat.ne_of_lt (Heap.lt_size e)) e;exact h pins _ σ H xs _ Q I1 (by simpa using rv) hw
def J7z(to ti:TE)(t:J3h):TG:=fun v σ H Q=>to σ H fun o H1=>ti σ H1 fun i H2=>t o i v H2 fun H3=>Q σ H3
theorem Tn{o i:Expr}{to ti:TE}{t:J3h}(ho:PE X o to)(hi:PE X i ti)(hs:J7y X t)
 (ha:∀v,assign (.Subscript o i pos) X.env v=(do
  let ov ← holding [v] (eval o X.env)
  let iv ← holding [v,ov] (eval i X.env)
  standAt pos
  holding [v,ov,iv] (setItem ov iv v)
  release [v,ov,iv] []):=by intro _;rfl):PG X (.Subscript o i pos) (J7z to ti t):=by
 intro pins s σ H v u Q I r h;rw [ha];refine wpAny_bind (wpAny_holding (thn (ho pins s σ H _ I h) fun ov s1 hq_=>?_));obtain ⟨x,H1,I1,r1,q1⟩:=hq_;refine wpAny_bind (wpAny_holding (thn (hi pins s1 σ H1 _ I1 q1) fun iv s2 hq_=>?_));obtain ⟨y,H2,I2,r2,q2⟩:=hq_;refine wpAny_bind (wpAny_standAt (wpAny_bind (wpAny_holding (thn (hs pins s2 σ H2 x y v ov iv u _ I2 r1 r2 r q2) fun _ s3 ⟨H3,I3,q3⟩=>?_))));exact wpAny_release ⟨σ,H3,I3,q3⟩
def Qd(te:TE)(g:TG):TS:=fun D σ H=>te σ H fun x H1=>g x σ H1 D.nx
theorem To{tg e:Expr}{te:TE}{g:TG}(he:PE X e te)(hg:PG X tg g)(hs:swapsWithSole [tg] e pos.line X.env=pure false:=by rfl)(hw:swappedStores [tg] e X.env=pure none:=by rfl)
 (h1:(assignEach [tg] X.env).map (·.2)=[assign tg X.env]:=by rfl):PS X (.Assign [tg] e pos) (Qd te g):=by
 intro pins s σ H D I h;refine wpAny_Assign_stores (thn (he pins s σ H _ I h) fun v s1 hq_=>?_) hs hw;obtain ⟨x,H1,I1,r1,q1⟩:=hq_;rw [h1];exact thn (hg pins s1 σ H1 x v _ I1 r1 q1) fun _ s2 q=>q
theorem Am{i:Nat}{x:Str}{e:Expr}{te:TE}{pos':Pos}(hN:X.N.Nodup)(hi:X.N[i]?=some x)(hx:Loc X.env.scope x)(he:PE X e te)(hs:swapsWith e (some (.Name x pos')) pos.line X.env=pure false:=by rfl)(hf:X.fn x=true∨X.env.scope.names.lookup x=some .local:=by first | exact .inl rfl | exact .inr rfl | assumption):
 PS X (.Assign [.Name x pos'] e pos) (Qd te (Bq i)):=by
 intro pins s σ H D I h;refine wpAny_Assign_Name (thn (he pins s σ H _ I h) fun v s1 hq_=>?_) hs;obtain ⟨y,H1,I1,r1,q1⟩:=hq_;exact Mw I1 hN hi hx r1 (fun s2 I2=>⟨_,H1,I2,q1⟩) hf
def J6k(i:Nat)(te:TE)(ti:TIp):TS:=fun D σ H=>∃x,σ[i]?=some (some x)∧te σ H fun y H1=>ti x y H1 fun z H2=>D.nx (σ.set i (some z)) H2
theorem Yf{i:Nat}{x:Str}{e:Expr}{te:TE}{op:Operator}{ti:TIp}{pos':Pos}(hN:X.N.Nodup)(hi:X.N[i]?=some x)(hx:Loc X.env.scope x)(he:PE X e te)(ho:PIp X op ti)(hf:X.fn x=true∨X.env.scope.names.lookup x=some .local:=by first | exact .inl rfl | exact .inr rfl | assumption):
 PS X (.AugAssign (.Name x pos') op e pos) (J6k i te ti):=by
 intro pins s σ H D I h;obtain ⟨v,e1,h⟩:=h;obtain ⟨m,hn,hl⟩:=I.loc
 have vis:Vis X.env.scope x:=by rcases hx with k | k;exact .inl k;exact .inr (.inl k)
 obtain ⟨u,r,l⟩:=hl i x v hi e1 vis;refine wpAny_AugAssign_Name ?_
 have go:wpAny (model X.prog X.w) X.A (eval e X.env) (fun w s₂=>wpAny (model X.prog X.w) X.A (inplaceOp op u w) (fun r s₃=>wpAny (model X.prog X.w) X.A (storeName X.env x r) (fun _=>SP X pins D .next) X.xe s₃) X.xe s₂) X.xe s:=by
  refine thn (he pins s σ H _ I h) fun w s1 hq_=>?_;obtain ⟨y,H1,I1,r1,q1⟩:=hq_;refine thn (ho pins s1 σ H1 v y u w _ I1 r r1 q1) fun z s2 hq_=>?_;obtain ⟨zv,H2,I2,r2,q2⟩:=hq_;exact Mw I2 hN hi hx r2 (fun s3 I3=>⟨_,H2,I3,q2⟩) hf
 rcases l with ⟨hk,hm⟩ | ⟨hk,c,hc,hcell⟩
 · exact wpAny_loadName_local I.ok.kind hk hn hm go
 · rcases hk with hk | hk
   · exact wpAny_loadName_cell I.ok.kind hk hc hcell go
   · rcases hx with k | k
     · have:X.env.scope.names.lookup x=some .free:=hk
       rw [k]at this;cases this
     · have:X.env.scope.names.lookup x=some .free:=hk
       rw [k]at this;cases this
def ipI(f:Int→Int→Int):TIp:=fun x y H Q=>∃i j,x= .int i∧y= .int j∧Q (.int (f i j)) H
theorem J6l:PIp X .Add (ipI fun i j=>i+j):=by
 intro pins s σ H x y v u Q I r1 r2 h;obtain ⟨i,j,e1,e2,q⟩:=h;subst e1;subst e2;obtain ⟨t,rfl⟩:=r1;obtain ⟨t',rfl⟩:=r2;exact iadd_int ⟨.int _,H,I.tok _,⟨_,rfl⟩,q⟩
end
section
variable {X:Cx} {pos:Pos}
def Yg(c:TT)(tb:TS):TS:=fun D σ H=>∃W:Nat→St→Hp→Prop,(∃m,W m σ H)∧∀m σ H,W m σ H→
 c σ H fun b H1=>if b=true then ∃N:St→Hp→Prop,(∀σ' H',N σ' H'→∃m',m' < m∧W m' σ' H')∧tb {D with nx:=N,ct:=N,bk:=D.nx} σ H1 else D.nx σ H1
theorem Kc{c:Expr}{body:List Stmt}{tc:TT}{tb:TS}(hp:PassesOwn (model X.prog X.w) X.A X.env X.xe)(hc:PT X c tc)(hb:PSs X body tb):PS X (.While c body [] pos) (Yg tc tb):=by
 intro pins s σ H D I h;obtain ⟨W,⟨m0,w0⟩,turn⟩:=h;refine wpAny_While (codeAny_whileLoop (fun n s'=>∃σ' H',Inv X pins σ' H' s'∧W n σ' H') ?_ m0 ⟨σ,H,I,w0⟩);rintro n s1 ⟨σ1,H1,I1,w1⟩;refine wpAny_passesOwn hp (thn (hc pins s1 σ1 H1 _ I1 (turn n σ1 H1 w1)) fun b s2 ⟨H2,I2,q2⟩=>?_)
 cases b with
 | true=>
  obtain ⟨N,hN,q2⟩:=q2;rw [if_pos rfl];refine wpAny_passesOwn hp (thn (hb pins s2 σ1 H2 _ I2 q2) fun f s3 q3=>?_)
  cases f with
  | next=>
   obtain ⟨σ3,H3,I3,n3⟩:=q3;obtain ⟨m',hm,w3⟩:=hN σ3 H3 n3;exact ⟨m',hm,σ3,H3,I3,w3⟩
  | cont=>
   obtain ⟨σ3,H3,I3,n3⟩:=q3;obtain ⟨m',hm,w3⟩:=hN σ3 H3 n3;exact ⟨m',hm,σ3,H3,I3,w3⟩
  | brk=>exact q3
  | ret v=>exact q3
 | false=>
  rw [if_neg Bool.false_ne_true];exact wpAny_execs_nil ⟨σ1,H2,I2,q2⟩
end
structure It where
 go:Nat→Hp→Prop
 yld:Nat→Hp→V→Hp→Prop
 stop:Nat→Hp→Prop
def D8(X:Cx)(pins:List (Addr×Obj))(H:Hp)(b:Addr):Prop:=
 H b=none∧b≠X.env.locals∧b∉X.fs∧(b∈X.ex∨X.s₀.heap.objs.size≤b)∧(∀x c,X.env.cells.lookup x=some c→c≠b)∧∀p∈X.pn++pins,p.1≠b
theorem Inv.fpOk{X:Cx}{pins:List (Addr×Obj)}{σ:St}{H H':Hp}{s:Shared}{b:Addr}(I:Inv X pins σ H s)(hb:s.heap.objs.size≤b)(hn:H' b=none):D8 X pins H' b:=by
 refine ⟨hn,Nat.ne_of_gt (Nat.lt_of_lt_of_le I.lt hb),I.nofs hb,.inr (Nat.le_trans I.sz hb),fun x c e z=>?_,fun p hp z=>?_⟩
 · obtain ⟨v,q⟩:=I.cell x c e
   exact absurd (Nat.lt_of_lt_of_le q.lt (by rw [z];exact hb)) (Nat.lt_irrefl _)
 · exact absurd (Nat.lt_of_lt_of_le (Heap.lt_size (I.pin p hp).1) (by rw [z];exact hb)) (Nat.lt_irrefl _)
structure Wz(P:Program)(w:World)(K:PySem.W.Frag)(tg:Expr)(J:It)(fp:List Addr)(it:Addr)(tn:Nat→Heap→Prop):Prop where
 mem:it∈fp
 obj:∀i h,tn i h→∀b∈fp,∃o,h.get? b=some o∧∀v,o.data≠ .cell v
 keep:∀i h h',tn i h→(∀b∈fp,∀o,h.get? b=some o→h'.get? b=some o)→tn i h'
 item:∀(X:Cx),X.prog=P→X.w=w→X.K=K→X.calm=true→∀(i:Nat) (pins:List (Addr×Obj)) (s:Shared) (σ:St) (H:Hp) (E:Value→Shared→Prop),Inv X pins σ H s→(∀b∈fp,D8 X pins H b)→tn i s.heap→J.go i H→
  wpAny (model P w) X.A (pyNext (.ref it)) (fun r s1=>∃u,r=some u∧
   wpAny (model P w) X.A (letOwnedTupleGo tg (.ref it) u) (fun _ s2=>∃x H',Inv X pins σ H' s2∧Ao x u∧J.yld i H x H'∧tn (i+1) s2.heap∧∀b∈fp,H' b=none) E s1) E s
 done:∀(X:Cx),X.prog=P→X.w=w→X.K=K→X.calm=true→∀(i:Nat) (pins:List (Addr×Obj)) (s:Shared) (σ:St) (H:Hp) (E:Value→Shared→Prop),Inv X pins σ H s→(∀b∈fp,D8 X pins H b)→tn i s.heap→J.stop i H→
   wpAny (model P w) X.A (pyNext (.ref it)) (fun r s1=>r=none∧Inv X pins σ H s1) E s
 self:∀(A:Around) (i:Nat) (s:Shared) (Q:Value→Shared→Prop) (E:Value→Shared→Prop),tn i s.heap→Q (.ref it) s→wpAny (model P w) A (pyIter (.ref it)) Q E s
abbrev TI:=St→Hp→(It→Hp→Prop)→Prop
def PIE(X:Cx)(pins:List (Addr×Obj))(σ:St)(tg:Expr)(R:It→Hp→Prop)(itv:Value)(s2:Shared):Prop:=
 ∃(it:Addr) (fp:List Addr) (tn:Nat→Heap→Prop) (J:It) (H':Hp),itv= .ref it∧Inv X pins σ H' s2∧Wz X.prog X.w X.K tg J fp it tn∧tn 0 s2.heap∧(∀b∈fp,D8 X pins H' b)∧R J H'
def PI(X:Cx)(tg iter:Expr)(wi:TI):Prop:=
 ∀(pins:List (Addr×Obj)) (s:Shared) (σ:St) (H:Hp) (R:It→Hp→Prop),Inv X pins σ H s→wi σ H R→
   wpAny (model X.prog X.w) X.A (eval iter X.env) (fun v s1=>wpAny (model X.prog X.w) X.A (pyIter v) (PIE X pins σ tg R) X.xe s1) X.xe s
theorem Yh{M:Model}{A:Around}{E:Value→Shared→Prop}{s:Shared}{tg:Expr}{it:Addr}{u:Value}{o:Obj}{n:String}{vs:Array Value}{Q:Unit→Shared→Prop}(ho:s.heap.get? it=some o)(hc:o.cls= .type n)(hd:o.data= .fields vs)
 (hn:["enumerate","zip","dict_itemiterator","dict_reverseitemiterator","odict_iterator","itertools.zip_longest","itertools.pairwise"].contains n=false) (hQ:Q () s):wpAny M A (letOwnedTupleGo tg (.ref it) u) Q E s:=by
 unfold letOwnedTupleGo
 cases tg <;> first
  | exact wpAny_pure hQ
  | (cases u <;> first
   | exact wpAny_pure hQ
   | (refine wpAny_bind (wpAny_load ho ?_)
      rw [hc,hd];show wpAny M A (if (["enumerate","zip","dict_itemiterator","dict_reverseitemiterator","odict_iterator","itertools.zip_longest","itertools.pairwise"].contains n && vs[0]?==some (rawInt _))=true then _ else _) Q E s;rw [if_neg (by intro h;rw [hn,Bool.false_and]at h;cases h)]
      exact wpAny_pure hQ))
def Itl(K:PySem.W.Frag)(a:Addr):It:=
 ⟨fun i H=>∃xs x,SqL K H a xs∧xs[i]?=some x,fun i H x H'=>H'=H∧∀xs,SqL K H a xs→xs[i]?=some x,fun i H=>∃xs,SqL K H a xs∧xs.length≤i⟩
def Itr(lo:Int)(n:Nat):It:=⟨fun i _=>i < n,fun i H x H'=>H'=H∧x= .int (lo+i),fun i _=>n≤i⟩
theorem X0{P:Program}{w:World}{K:PySem.W.Frag}{tg:Expr}(a it:Addr):Wz P w K tg (Itl K a) [it] it (fun i h=>h.IsListIter it a i) where
 mem:=by simp
 obj:=fun i h st b hb=>by
  have e:b=it:=by simpa using hb
  subst e;obtain ⟨o,e,c,d⟩:=st;exact ⟨o,e,fun v z=>by rw [d]at z;cases z⟩
 keep:=fun i h h' st k=>st.at fun o e=>k it (by simp) o e
 item:=by
  intro X hP hw hK hc i pins s σ H E I hf st hg;subst hP hw hK;obtain ⟨xs,x,hq,hx⟩:=hg;obtain ⟨its,rv,p,hz⟩:=I.list hq;obtain ⟨u,hu,ru⟩:=rv.get hx;obtain ⟨f0,f1,f2,f3,f4,f5⟩:=hf it (by simp);refine wpAny_pyNext_list_item st p.isList (x:=u) (by simpa using hu) fun h' st' sb=>?_;have I1:Inv X pins σ H {s with heap:=h'}:=I.turned (t':=s.toks) (fun b o hb e=>(sb.2 b hb).trans e) f0 f1 f3 f4 f5;obtain ⟨o,e,c,d⟩:=id st';exact ⟨u,rfl,Yh (s:={s with heap:=h'}) e c d (by decide) ⟨x,H,I1,ru,⟨rfl,fun ys hy=>by rw [I.list_inj hy hq];exact hx⟩,st',fun b hb=>(hf b hb).1⟩⟩
 done:=by
   intro X hP hw hK hc i pins s σ H E I hf st hg;subst hP hw hK;obtain ⟨xs,hq,hx⟩:=hg;obtain ⟨its,rv,p,hz⟩:=I.list hq;obtain ⟨f0,f1,f2,f3,f4,f5⟩:=hf it (by simp);have hl:=rv.length
   exact wpAny_pyNext_list_end (I.ok.hd hc) st p.isList (by simp;omega) fun h' eb=>⟨rfl,I.turned (t':=s.toks) (fun b o hb e=>eb b o hb e) f0 f1 f3 f4 f5⟩
 self:=fun _ _ _ _ _ st h=>wpAny_pyIter_listiter st h
theorem Tp{P:Program}{w:World}{K:PySem.W.Frag}{tg:Expr}(it:Addr)(lo:Int)(n:Nat):Wz P w K tg (Itr lo n) [it] it (fun i h=>IsRangeIter h it (lo+(i:Nat) * 1) ((n:Int) - (i:Nat)) 1) where
 mem:=by simp
 obj:=fun i h st b hb=>by
  have e:b=it:=by simpa using hb
  subst e
  exact ⟨_,st,fun v z=>by
   have z':Data.fields _=Data.cell v:=z
   cases z'⟩
 keep:=fun i h h' st k=>k it (by simp) _ st
 item:=by
  intro X hP hw hK hc i pins s σ H E I hf st hg;subst hP hw hK;obtain ⟨f0,f1,f2,f3,f4,f5⟩:=hf it (by simp);have W:=Walks.range (prog:=X.prog) (w:=X.w) (I.ok.hd hc) it lo 1 n;refine W.item i s _ _ hg st fun v h' tk hv st' kk=>?_;obtain ⟨t,rfl⟩:=hv;have I1:Inv X pins σ H {s with heap:=h',toks:=tk}:=I.turned (fun b o hb e=>kk b o (by simpa using hb) e) f0 f1 f3 f4 f5;refine ⟨_,rfl,Yh (s:={s with heap:=h',toks:=tk}) (n:="range_iterator") st' rfl rfl (by decide) ⟨.int (lo+i),H,I1,⟨t,?_⟩,⟨rfl,rfl⟩,st',fun b hb=>(hf b hb).1⟩⟩;rw [Int.mul_one]
 done:=by
   intro X hP hw hK hc i pins s σ H E I hf st hg;subst hP hw hK;obtain ⟨f0,f1,f2,f3,f4,f5⟩:=hf it (by simp)
   exact wpAny_pyNext_range_end (I.ok.hd hc) st (by have:n≤i:=hg;omega) fun h' eb=>⟨rfl,I.turned (t':=s.toks) (fun b o hb e=>eb b o hb e) f0 f1 f3 f4 f5⟩
 self:=fun _ _ _ _ _ st h=>wpAny_pyIter_rangeiter st h
end L2
namespace L2
section
variable {X:Cx} {tg:Expr}
def J5d(K:PySem.W.Frag)(tl:TE):TI:=fun σ H R=>tl σ H fun x H1=>∃a,x= .ref a∧(∃xs,SqL K H1 a xs)∧R (Itl K a) H1
theorem C3{l:Expr}{tl:TE}(hl:PE X l tl):PI X tg l (J5d X.K tl):=by
 intro pins s σ H R I h;refine thn (hl pins s σ H _ I h) fun v s1 hq_=>?_;obtain ⟨x,H1,I1,r1,q1⟩:=hq_;obtain ⟨a,e,⟨xs,hq⟩,q⟩:=q1;subst e;cases r1;obtain ⟨its,rv,p,hz⟩:=I1.list hq;refine wpAny_pyIter_list p.isList ?_;refine ⟨s1.heap.objs.size,[s1.heap.objs.size],_,_,H1,rfl,I1.kept (t':=s1.toks) fun b o e=>Heap.get?_push_of_some _ e,X0 a _,⟨_,Heap.get?_push_size _ rfl,rfl,rfl⟩,fun b hb=>?_,q⟩
 have e:b=s1.heap.objs.size:=by simpa using hb
 subst e;exact I1.fpOk (Nat.le_refl _) (I1.hok.fresh (Nat.le_refl _))
theorem Qe{pins:List (Addr×Obj)}{σ:St}{H:Hp}{s:Shared}{R:It→Hp→Prop}{E:Value→Shared→Prop}{lo hi:Int}{t u v:Tok}{tk:Nat}(I:Inv X pins σ H s)(h1:-(2 ^ 62)≤lo)(h2:lo < 2 ^ 62)(h3:-(2 ^ 62)≤hi)(h4:hi < 2 ^ 62)
 (q:R (Itr lo (hi - lo).toNat) H):wpAny (model X.prog X.w) X.A (pyIter (.ref s.heap.objs.size)) (PIE X pins σ tg R) E {s with heap:=s.heap.push {cls:= .type "range",data:= .fields #[.int lo t,.int hi u,.int 1 v]},toks:=tk}:=by
 refine wpAny_pyIter_range (IsRange.new ..) (small_one h1 h2 h3 h4) ?_;have I1:Inv X pins σ H {s with heap:=s.heap.push {cls:= .type "range",data:= .fields #[.int lo t,.int hi u,.int 1 v]},toks:=tk}:=I.kept fun b o e=>Heap.get?_push_of_some _ e
 refine ⟨(s.heap.push {cls:= .type "range",data:= .fields #[.int lo t,.int hi u,.int 1 v]}).objs.size,[(s.heap.push {cls:= .type "range",data:= .fields #[.int lo t,.int hi u,.int 1 v]}).objs.size],_,_,H,rfl,
  I1.kept (t':=tk) fun b o e=>Heap.get?_push_of_some _ e,Tp _ lo (hi - lo).toNat,?_,fun b hb=>?_,q⟩
 · have e1:lo+((0:Nat):Int) * 1=lo:=by simp
   have e2:(((hi - lo).toNat:Nat):Int) - ((0:Nat):Int)=Builtin.Range.rangeSize lo hi 1:=by rw [rangeSize_one];split <;> omega
   show IsRangeIter _ _ (lo+((0:Nat):Int) * 1) ((((hi - lo).toNat:Nat):Int) - ((0:Nat):Int)) 1;rw [e1,e2];exact Heap.get?_push_size _ rfl
 · have e:b=(s.heap.push {cls:= .type "range",data:= .fields #[.int lo t,.int hi u,.int 1 v]}).objs.size:=by simpa using hb
   subst e;exact I1.fpOk (Nat.le_refl _) (I1.hok.fresh (Nat.le_refl _))
def J5e(ta:TA):TI:=fun σ H R=>ta σ H fun vs H1=>∃j:Int,vs=[.int j]∧-(2 ^ 62)≤j∧j < 2 ^ 62∧R (Itr 0 j.toNat) H1
def J5f(ta:TA):TI:=fun σ H R=>ta σ H fun vs H1=>∃i j:Int,vs=[.int i,.int j]∧(-(2 ^ 62)≤i∧i < 2 ^ 62∧-(2 ^ 62)≤j∧j < 2 ^ 62)∧R (Itr i (j - i).toNat) H1
theorem Gu{a:Expr}{ta:TA}{p pos:Pos}(hg:Gl X "range")(hm:X.mg "range"=none)(ha:PA X [a] ta)(hs:starEach [a] X.env=[(false,eval a X.env)]:=by rfl):PI X tg (.Call (.Name "range" p) [a] [] pos) (J5e ta):=by
 intro pins s σ H R I h;refine Call_ (G9 I hg hm boot_range (PyProof.Rows.callWith_type1 (thn (ha pos pins s σ H _ I h) fun us s1 hq_=>?_) hs rfl));obtain ⟨vs,H1,I1,r1,q1⟩:=hq_;obtain ⟨j,e,q1,q2,q⟩:=q1;subst e
 cases r1 with
 | cons r rr=>
  cases rr;obtain ⟨t,rfl⟩:=r;exact call_range_1 (Qe I1 (by omega) (by omega) q1 q2 (by simpa using q))
theorem O5{a b:Expr}{ta:TA}{p pos:Pos}(hg:Gl X "range")(hm:X.mg "range"=none)(ha:PA X [a,b] ta)(hs:starEach [a,b] X.env=[(false,eval a X.env),(false,eval b X.env)]:=by rfl)(hs2:starEach [b] X.env=[(false,eval b X.env)]:=by rfl):
 PI X tg (.Call (.Name "range" p) [a,b] [] pos) (J5f ta):=by
 intro pins s σ H R I h;refine Call_ (G9 I hg hm boot_range (PyProof.Rows.callWith_type1 (thn (ha pos pins s σ H _ I h) fun us s1 ⟨vs,H1,I1,r1,q1⟩=>?_) (by rw [hs,hs2]) (by rw [hs2];rfl)));obtain ⟨i,j,e,⟨q1,q2,q3,q4⟩,q⟩:=q1;subst e
 cases r1 with
 | cons r rr=>
  cases rr with
  | cons r' rr=>
   cases rr;obtain ⟨t,rfl⟩:=r;obtain ⟨t',rfl⟩:=r';exact call_range_2 (Qe I1 q1 q2 q3 q4 q)
def J80(wi:TI)(g:TG)(tb:TS):TS:=fun D σ H=>wi σ H fun J H1=>∃W:Nat→Nat→St→Hp→Prop,(∃m,W 0 m σ H1)∧∀i m σ H,W i m σ H→
 (J.stop i H∧D.nx σ H)∨(J.go i H∧∃N:St→Hp→Prop,(∀σ' H',N σ' H'→∃m',m' < m∧W (i+1) m' σ' H')∧∀x H',J.yld i H x H'→g x σ H' fun σ2 H2=>tb {D with nx:=N,ct:=N,bk:=D.nx} σ2 H2)
def La(fp:List Addr)(h:Heap):List (Addr×Obj):=fp.filterMap fun b=>(h.get? b).map fun o=>(b,o)
theorem Eh{fp:List Addr}{h:Heap}{b:Addr}{o:Obj}(hb:b∈fp)(e:h.get? b=some o):(b,o)∈La fp h:=List.mem_filterMap.mpr ⟨b,hb,by rw [e];rfl⟩
theorem X1{fp:List Addr}{h:Heap}{p:Addr×Obj}(hp:p∈La fp h):p.1∈fp∧h.get? p.1=some p.2:=by
 obtain ⟨b,hb,e⟩:=List.mem_filterMap.mp hp
 cases q:h.get? b with
 | none=>rw [q]at e;cases e
 | some o=>
  rw [q]at e;have e':(b,o)=p:=Option.some.inj e;subst e';exact ⟨hb,q⟩
theorem Inv.pinned{pins:List (Addr×Obj)}{σ:St}{H:Hp}{s:Shared}{fp:List Addr}(I:Inv X pins σ H s)(hf:∀b∈fp,D8 X pins H b)(ho:∀b∈fp,∃o,s.heap.get? b=some o∧∀v,o.data≠ .cell v):Inv X (pins++La fp s.heap) σ H s:=
 I.pins_of fun p hp=>(List.mem_append.mp hp).elim (fun z=>I.pin p (List.mem_append_right _ z)) fun z=>by
  obtain ⟨hb,e⟩:=X1 z;obtain ⟨f0,f1,f2,_⟩:=hf p.1 hb;obtain ⟨o,e',d⟩:=ho p.1 hb;rw [e]at e';cases e';exact ⟨e,f0,f1,f2,d⟩
theorem Inv.unpinned{pins pl:List (Addr×Obj)}{σ:St}{H:Hp}{s:Shared}(I:Inv X (pins++pl) σ H s):Inv X pins σ H s:=I.pins_of fun p hp=>I.pin p (List.mem_append_right _ (List.mem_append_left _ hp))
theorem Co{iter:Expr}{body:List Stmt}{wi:TI}{g:TG}{tb:TS}{pos:Pos}(hp:PassesOwn (model X.prog X.w) X.A X.env X.xe)(hc:X.calm=true)(hi:PI X tg iter wi)(hg:PG X tg g)(hb:PSs X body tb)
 (hs:∀x,foldedSetIterable iter X.env x=pure x:=by intro _;rfl):PS X (.For tg iter body [] pos) (J80 wi g tb):=by
 intro pins s σ H D I h;refine wpAny_For (thn (hi pins s σ H _ I h) fun v s1 h1=>thn h1 fun itv s2 h2=>?_) hs;obtain ⟨it,fp,tn,J,H2,e,I2,T,st2,f2,W,⟨m0,w0⟩,turn⟩:=h2;subst e
 have stat:∀{H':Hp},(∀b∈fp,H' b=none)→∀b∈fp,D8 X pins H' b:=fun hn b hb=>⟨hn b hb,(f2 b hb).2⟩
 refine codeAny_forLoop_any (fun n s'=>∃i σ' H',Inv X pins σ' H' s'∧tn i s'.heap∧(∀b∈fp,H' b=none)∧W i n σ' H') ?_ m0 ⟨0,σ,H2,I2,st2,fun b hb=>(f2 b hb).1,w0⟩;rintro n s3 ⟨i,σ3,H3,I3,st3,fr3,w3⟩;rcases turn i n σ3 H3 w3 with ⟨stop,qn⟩ | ⟨go,N,hN,step⟩
 · refine wpAny_passesOwn hp (thn (T.done X rfl rfl rfl hc i pins s3 σ3 H3 X.xe I3 (stat fr3) st3 stop) fun r s4 ⟨hr,I4⟩=>?_)
   subst hr;exact wpAny_execs_nil ⟨σ3,H3,I4,qn⟩
 · refine wpAny_passesOwn hp (thn (T.item X rfl rfl rfl hc i pins s3 σ3 H3 X.xe I3 (stat fr3) st3 go) fun r s4 ⟨u,hr,h4⟩=>?_)
   subst hr;refine wpAny_passesOwn hp (thn h4 fun _ s5 hq_=>?_);obtain ⟨x,H5,I5,r5,y5,st5,fr5⟩:=hq_;have I5':=I5.pinned (stat fr5) (T.obj _ _ st5);refine wpAny_passesOwn hp (thn (hg _ s5 σ3 H5 x u _ I5' r5 (step x H5 y5)) fun _ s6 hq_=>?_);obtain ⟨σ6,H6,I6,q6⟩:=hq_;refine wpAny_passesOwn hp (thn (hb _ s6 σ6 H6 _ I6 q6) fun f s7 q7=>?_)
   have again:∀{σ7:St} {H7:Hp},Inv X (pins++La fp s5.heap) σ7 H7 s7→N σ7 H7→∃m,m < n∧∃i σ' H',Inv X pins σ' H' s7∧tn i s7.heap∧(∀b∈fp,H' b=none)∧W i m σ' H':=fun {σ7 H7} I7 n7=>by
    obtain ⟨m',hm,w7⟩:=hN σ7 H7 n7;refine ⟨m',hm,i+1,σ7,H7,I7.unpinned,T.keep _ _ _ st5 fun b hb o e=>(I7.pin (b,o) (List.mem_append_right _ (List.mem_append_right _ (Eh hb e)))).1,fun b hb=>?_,w7⟩;obtain ⟨o,e,d⟩:=T.obj _ _ st5 b hb;exact (I7.pin (b,o) (List.mem_append_right _ (List.mem_append_right _ (Eh hb e)))).2.1
   cases f with
   | next=>obtain ⟨σ7,H7,I7,n7⟩:=q7;exact again I7 n7
   | cont=>obtain ⟨σ7,H7,I7,n7⟩:=q7;exact again I7 n7
   | brk=>obtain ⟨σ7,H7,I7,q7⟩:=q7;exact ⟨σ7,H7,I7.unpinned,q7⟩
   | ret v=>obtain ⟨x7,σ7,H7,I7,r7,q7⟩:=q7;exact ⟨x7,σ7,H7,I7.unpinned,r7,q7⟩
end
theorem Yi{K:PySem.W.Frag}{a:Addr}{xs:List V}{g:TG}{tb:TS}{D:G7}{σ:St}{H:Hp}(Pv:Nat→St→Hp→Prop)(h0:Pv 0 σ H)(hl:∀i σ H,i≤xs.length→Pv i σ H→SqL K H a xs)
 (hs:∀i x σ H,xs[i]?=some x→Pv i σ H→g x σ H fun σ2 H2=>tb {D with nx:=Pv (i+1),ct:=Pv (i+1),bk:=D.nx} σ2 H2) (hd:∀σ H,Pv xs.length σ H→D.nx σ H):
 ∃W:Nat→Nat→St→Hp→Prop,(∃m,W 0 m σ H)∧∀i m σ H,W i m σ H→
  ((Itl K a).stop i H∧D.nx σ H)∨((Itl K a).go i H∧∃N:St→Hp→Prop,(∀σ' H',N σ' H'→∃m',m' < m∧W (i+1) m' σ' H')∧∀x H',(Itl K a).yld i H x H'→g x σ H' fun σ2 H2=>tb {D with nx:=N,ct:=N,bk:=D.nx} σ2 H2):=by
 refine ⟨fun i m σ H=>m=xs.length - i∧i≤xs.length∧Pv i σ H,⟨xs.length,by simp,Nat.zero_le _,h0⟩,?_⟩;rintro i m σ H ⟨rfl,hi,p⟩;have q:=hl i σ H hi p
 by_cases hlt:i < xs.length
 · refine .inr ⟨⟨xs,xs[i],q,by simp [hlt]⟩,Pv (i+1),fun σ' H' p'=>⟨xs.length - (i+1),by omega,rfl,hlt,p'⟩,fun x H' y=>?_⟩
   obtain ⟨e,y⟩:=y;subst e;exact hs i x σ _ (y xs q) p
 · have e:i=xs.length:=by omega
   subst e;exact .inl ⟨⟨xs,q,Nat.le_refl _⟩,hd σ H p⟩
theorem X2{lo:Int}{n:Nat}{g:TG}{tb:TS}{D:G7}{σ:St}{H:Hp}(Pv:Nat→St→Hp→Prop)(h0:Pv 0 σ H)
 (hs:∀i σ H,i < n→Pv i σ H→g (.int (lo+i)) σ H fun σ2 H2=>tb {D with nx:=Pv (i+1),ct:=Pv (i+1),bk:=D.nx} σ2 H2) (hd:∀σ H,Pv n σ H→D.nx σ H):
 ∃W:Nat→Nat→St→Hp→Prop,(∃m,W 0 m σ H)∧∀i m σ H,W i m σ H→
  ((Itr lo n).stop i H∧D.nx σ H)∨((Itr lo n).go i H∧∃N:St→Hp→Prop,(∀σ' H',N σ' H'→∃m',m' < m∧W (i+1) m' σ' H')∧∀x H',(Itr lo n).yld i H x H'→g x σ H' fun σ2 H2=>tb {D with nx:=N,ct:=N,bk:=D.nx} σ2 H2):=by
 refine ⟨fun i m σ H=>m=n - i∧i≤n∧Pv i σ H,⟨n,by simp,Nat.zero_le _,h0⟩,?_⟩;rintro i m σ H ⟨rfl,hi,p⟩
 by_cases hlt:i < n
 · refine .inr ⟨hlt,Pv (i+1),fun σ' H' p'=>⟨n - (i+1),by omega,rfl,hlt,p'⟩,fun x H' y=>?_⟩
   obtain ⟨e,y⟩:=y;subst e y;exact hs i σ _ hlt p
 · have e:i=n:=by omega
   subst e;exact .inl ⟨Nat.le_refl _,hd σ H p⟩
end L2
namespace L2
abbrev R2:=V→V→Hp→VK→Prop
def OpR(X:Cx)(f:Value→Value→Sem Value)(r:R2):Prop:=
 ∀(pins:List (Addr×Obj)) (s:Shared) (σ:St) (H:Hp) (x y:V) (v u:Value) (Q:VK),Inv X pins σ H s→Ao x v→Ao y u→r x y H Q→
   wpAny (model X.prog X.w) X.A (f v u) (EP X pins σ Q) X.xe s
def UnR(X:Cx)(f:Value→Sem Value)(r:V→Hp→VK→Prop):Prop:=
 ∀(pins:List (Addr×Obj)) (s:Shared) (σ:St) (H:Hp) (x:V) (v:Value) (Q:VK),Inv X pins σ H s→Ao x v→r x H Q→
   wpAny (model X.prog X.w) X.A (f v) (EP X pins σ Q) X.xe s
def G5(X:Cx)(f:Value)(r:List V→Hp→VK→Prop):Prop:=
 ∀(pins:List (Addr×Obj)) (s:Shared) (σ:St) (H:Hp) (xs:List V) (us:List Value) (Q:VK),Inv X pins σ H s→Aw xs us→r xs H Q→
   wpAny (model X.prog X.w) X.A (call f us) (EP X pins σ Q) X.xe s
def tOp(r:R2)(ta tb:TE):TE:=fun σ H Q=>ta σ H fun x H1=>tb σ H1 fun y H2=>r x y H2 Q
def tUn(r:V→Hp→VK→Prop)(ta:TE):TE:=fun σ H Q=>ta σ H fun x H1=>r x H1 Q
def rI(C:Int→Int→Prop)(g:Int→Int→V):R2:=fun x y H Q=>∃i j,x= .int i∧y= .int j∧C i j∧Q (g i j) H
def rI0(g:Int→Int→V):R2:=fun x y H Q=>∃i j,x= .int i∧y= .int j∧Q (g i j) H
def rU(g:Int→V):V→Hp→VK→Prop:=fun x H Q=>∃i,x= .int i∧Q (g i) H
section
variable {X:Cx} {a b c:Expr} {ta tb tc:TE} {pos:Pos}
theorem J6m(ha:PE X a ta)(hb:PE X b tb){pins:List (Addr×Obj)}{s:Shared}{σ:St}{H:Hp}{R:V→V→Hp→Prop}(I:Inv X pins σ H s)
 (h:ta σ H fun x H1=>tb σ H1 fun y H2=>R x y H2) {Q:Value→Shared→Prop} {f:Value→Value→Sem Value}
 (hf:∀v u s2 x y H2,Inv X pins σ H2 s2→Ao x v→Ao y u→R x y H2→wpAny (model X.prog X.w) X.A (f v u) Q X.xe s2):
 wpAny (model X.prog X.w) X.A (eval a X.env) (fun v s₁=>wpAny (model X.prog X.w) X.A (eval b X.env) (fun u s₂=>wpAny (model X.prog X.w) X.A (f v u) Q X.xe s₂) X.xe s₁) X.xe s:=by
 refine thn (ha pins s σ H _ I h) fun v s1 hq_=>?_;obtain ⟨x,H1,I1,r1,q1⟩:=hq_;refine thn (hb pins s1 σ H1 _ I1 q1) fun u s2 hq_=>?_;obtain ⟨y,H2,I2,r2,q2⟩:=hq_;exact hf v u s2 x y H2 I2 r1 r2 q2
theorem Ai{op:Operator}{r:R2}(ho:OpR X (binaryOp op) r)(ha:PE X a ta)(hb:PE X b tb):PE X (.BinOp a op b pos) (tOp r ta tb):=by
 intro pins s σ H Q I h;exact wpAny_BinOp (J6m ha hb I h fun v u s2 x y H2 I2 rx ry q=>ho pins s2 σ H2 x y v u Q I2 rx ry q)
theorem Ut{op:UnaryOp}{r:V→Hp→VK→Prop}(ho:UnR X (unaryOp op) r)(ha:PE X a ta):PE X (.UnaryOp op a pos) (tUn r ta):=by
 intro pins s σ H Q I h;exact UnaryOp_ (thn (ha pins s σ H _ I h) fun v s1 ⟨x,H1,I1,r1,q1⟩=>ho pins s1 σ H1 x v Q I1 r1 q1)
theorem opI{f:Value→Value→Sem Value}{C:Int→Int→Prop}{g:Int→Int→Int}
 (rule:∀(i j:Int) (t u:Tok) (s:Shared) (Q:Value→Shared→Prop) (E:Value→Shared→Prop),C i j→Q (.int (g i j) s.toks) {s with toks:=s.toks+1}→wpAny (model X.prog X.w) X.A (f (.int i t) (.int j u)) Q E s):
 OpR X f (rI C fun i j=> .int (g i j)):=by
 intro pins s σ H x y v u Q I rx ry h;obtain ⟨i,j,rfl,rfl,hc,q⟩:=h;obtain ⟨t,rfl⟩:=rx;obtain ⟨t',rfl⟩:=ry;exact rule i j t t' s _ _ hc ⟨.int (g i j),H,I.tok _,⟨_,rfl⟩,q⟩
theorem J81{f:Value→Value→Sem Value}{g:Int→Int→Int}
 (rule:∀(i j:Int) (t u:Tok) (s:Shared) (Q:Value→Shared→Prop) (E:Value→Shared→Prop),Q (.int (g i j) s.toks) {s with toks:=s.toks+1}→wpAny (model X.prog X.w) X.A (f (.int i t) (.int j u)) Q E s):
 OpR X f (rI0 fun i j=> .int (g i j)):=by
 intro pins s σ H x y v u Q I rx ry h;obtain ⟨i,j,rfl,rfl,q⟩:=h;obtain ⟨t,rfl⟩:=rx;obtain ⟨t',rfl⟩:=ry;exact rule i j t t' s _ _ ⟨.int (g i j),H,I.tok _,⟨_,rfl⟩,q⟩
theorem J3k{f:Value→Value→Sem Value}{g:Int→Int→Bool}
 (rule:∀(i j:Int) (t u:Tok) (s:Shared) (Q:Value→Shared→Prop) (E:Value→Shared→Prop),Q (.bool (g i j)) s→wpAny (model X.prog X.w) X.A (f (.int i t) (.int j u)) Q E s):
 OpR X f (rI0 fun i j=> .bl (g i j)):=by
 intro pins s σ H x y v u Q I rx ry h;obtain ⟨i,j,rfl,rfl,q⟩:=h;obtain ⟨t,rfl⟩:=rx;obtain ⟨t',rfl⟩:=ry;exact rule i j t t' s _ _ ⟨.bl (g i j),H,I,rfl,q⟩
def J82(i j:Int):Prop:=0 < j∧j < 1073741824
def J83(i j:Int):Prop:=0≤j∧j≤1000000∧i.natAbs < 2 ^ 64
def Yj(i j:Int):Prop:=(-(2 ^ 64) < i∧i < 2 ^ 64)∨(-(2 ^ 64) < j∧j < 2 ^ 64)
theorem Yj.ok{i j:Int}(h:Yj i j):IntMulOk i j:=by
 rcases h with ⟨h1,h2⟩ | ⟨h1,h2⟩
 · exact .of_left (intBits_le_64 h1 h2)
 · exact .of_right (intBits_le_64 h1 h2)
theorem Bo:OpR X (binaryOp .Add) (rI0 fun i j=> .int (i+j)):=J81 fun _ _ _ _ _ _ _ q=>add_int q
theorem Ei:OpR X (binaryOp .Sub) (rI0 fun i j=> .int (i - j)):=J81 fun _ _ _ _ _ _ _ q=>sub_int q
theorem J6n:OpR X (binaryOp .Mult) (rI Yj fun i j=> .int (i * j)):=opI fun _ _ _ _ _ _ _ hc q=>mul_int q hc.ok
theorem Ej:OpR X (binaryOp .FloorDiv) (rI J82 fun i j=> .int (i / j)):=opI fun i j _ _ _ _ _ hc q=>by
 have h1:(0:Int) < j:=hc.1;have h2:j < 1073741824:=hc.2;exact floordiv_int (by omega) (by rw [Int.fdiv_eq_ediv_of_nonneg i (by omega)];exact q) (.inl (PyProof.noPylong_small (by omega)))
theorem C9:OpR X (binaryOp .Mod) (rI (fun _ j=>0 < j) fun i j=> .int (i % j)):=opI fun i j _ _ _ _ _ hc q=>by
 have h1:(0:Int) < j:=hc;exact mod_int' (by omega) (by rw [Int.fmod_eq_emod_of_nonneg i (by omega)];exact q)
theorem Tq:OpR X (binaryOp .Pow) (rI J83 fun i j=> .int (i ^ j.toNat)):=opI fun _ _ _ _ _ _ _ hc q=>pow_int_small hc.1 hc.2.1 hc.2.2 q
theorem unI{f:Value→Sem Value}{g:Int→Int}
 (rule:∀(i:Int) (t:Tok) (s:Shared) (Q:Value→Shared→Prop) (E:Value→Shared→Prop),Q (.int (g i) s.toks) {s with toks:=s.toks+1}→wpAny (model X.prog X.w) X.A (f (.int i t)) Q E s):
 UnR X f (rU fun i=> .int (g i)):=by
 intro pins s σ H x v Q I rx h;obtain ⟨i,rfl,q⟩:=h;obtain ⟨t,rfl⟩:=rx;exact rule i t s _ _ ⟨.int (g i),H,I.tok _,⟨_,rfl⟩,q⟩
theorem P6:UnR X (unaryOp .USub) (rU fun i=> .int (-i)):=unI fun _ _ _ _ _ q=>neg_int q
end
def scal:V→V→Bool
 | .non,.non=>true | .non,.int _=>true | .int _,.non=>true | .non,.bl _=>true | .bl _,.non=>true | .non,.str _=>true | .str _,.non=>true
 | .int _,.int _=>true | .bl _,.bl _=>true | .str _,.str _=>true | .byt _,.byt _=>true
 | .int _,.str _=>true | .str _,.int _=>true | .bl _,.str _=>true | .str _,.bl _=>true
 | _,_=>false
def rEq:R2:=fun x y H Q=>scal x y=true∧Q (.bl (decide (x=y))) H
def rNe:R2:=fun x y H Q=>scal x y=true∧Q (.bl (!decide (x=y))) H
theorem Uu{i j:Int}:decide (V.int i=V.int j)=(i==j):=by
 rw [Bool.eq_iff_iff];simp
theorem Yk{i j:Bool}:decide (V.bl i=V.bl j)=(i==j):=by
 rw [Bool.eq_iff_iff];simp
theorem Uv{i j:Str}:decide (V.str i=V.str j)=(i==j):=by
 rw [Bool.eq_iff_iff];simp
theorem Uw{i j:Array UInt8}:decide (V.byt i=V.byt j)=(i.toList==j.toList):=by
 rw [Bool.eq_iff_iff];cases i;cases j;simp
section
variable {X:Cx} {a b c:Expr} {ta tb tc:TE} {pos:Pos}
theorem B2{pins:List (Addr×Obj)}{σ:St}{H:Hp}{s:Shared}{Q:VK}{k k':Bool}(I:Inv X pins σ H s)(q:Q (.bl k) H)(e:k=k'):EP X pins σ Q (.bool k') s:=by
 subst e;exact ⟨.bl k,H,I,rfl,q⟩
theorem Iy:OpR X (compareOp .Eq) rEq:=by
 intro pins s σ H x y v u Q I rx ry h;obtain ⟨hs,q⟩:=h
 cases x with
 | non=>
  cases rx
  cases y with
  | non=>cases ry;exact PySem.EqNone.eq_none_none (B2 I q (by simp))
  | bl j=>cases ry;exact PySem.EqNone.eq_none_bool (B2 I q (by simp))
  | int j=>obtain ⟨t',rfl⟩:=ry;exact PySem.EqNone.eq_none_int (B2 I q (by simp))
  | str j=>obtain ⟨t',rfl⟩:=ry;exact PySem.EqNone.eq_none_str (B2 I q (by simp))
  | _=>exact absurd (show false=true from hs) Bool.false_ne_true
 | bl i=>
  cases rx
  cases y with
  | non=>cases ry;exact PySem.EqNone.eq_bool_none (B2 I q (by simp))
  | bl j=>cases ry;exact eq_bool (B2 I q Yk)
  | str j=>obtain ⟨t',rfl⟩:=ry;exact PySem.EqMixed.eq_bool_str (B2 I q (by simp))
  | _=>exact absurd (show false=true from hs) Bool.false_ne_true
 | int i=>
  obtain ⟨t,rfl⟩:=rx
  cases y with
  | non=>cases ry;exact PySem.EqNone.eq_int_none (B2 I q (by simp))
  | int j=>obtain ⟨t',rfl⟩:=ry;exact eq_int (B2 I q Uu)
  | str j=>obtain ⟨t',rfl⟩:=ry;exact PySem.EqMixed.eq_int_str (B2 I q (by simp))
  | _=>exact absurd (show false=true from hs) Bool.false_ne_true
 | str i=>
  obtain ⟨t,rfl⟩:=rx
  cases y with
  | non=>cases ry;exact PySem.EqNone.eq_str_none (B2 I q (by simp))
  | bl j=>cases ry;exact PySem.EqMixed.eq_str_bool (B2 I q (by simp))
  | int j=>obtain ⟨t',rfl⟩:=ry;exact PySem.EqMixed.eq_str_int (B2 I q (by simp))
  | str j=>obtain ⟨t',rfl⟩:=ry;exact eq_str (B2 I q Uv)
  | _=>exact absurd (show false=true from hs) Bool.false_ne_true
 | byt i=>
  obtain ⟨t,rfl⟩:=rx
  cases y with
  | byt j=>obtain ⟨t',rfl⟩:=ry;exact PySem.W.eq_bytes (B2 I q Uw)
  | _=>exact absurd (show false=true from hs) Bool.false_ne_true
 | _=>cases y <;> exact absurd (show false=true from hs) Bool.false_ne_true
theorem O6:OpR X (compareOp .NotEq) rNe:=by
 intro pins s σ H x y v u Q I rx ry h;obtain ⟨hs,q⟩:=h
 cases x with
 | non=>
  cases rx
  cases y with
  | non=>cases ry;exact PySem.EqNone.ne_none_none (B2 I q (by simp))
  | bl j=>cases ry;exact PySem.EqNone.ne_none_bool (B2 I q (by simp))
  | int j=>obtain ⟨t',rfl⟩:=ry;exact PySem.EqNone.ne_none_int (B2 I q (by simp))
  | str j=>obtain ⟨t',rfl⟩:=ry;exact PySem.EqNone.ne_none_str (B2 I q (by simp))
  | _=>exact absurd (show false=true from hs) Bool.false_ne_true
 | bl i=>
  cases rx
  cases y with
  | non=>cases ry;exact PySem.EqNone.ne_bool_none (B2 I q (by simp))
  | bl j=>cases ry;exact ne_bool (B2 I q (congrArg not Yk))
  | str j=>obtain ⟨t',rfl⟩:=ry;exact PySem.EqMixed.ne_bool_str (B2 I q (by simp))
  | _=>exact absurd (show false=true from hs) Bool.false_ne_true
 | int i=>
  obtain ⟨t,rfl⟩:=rx
  cases y with
  | non=>cases ry;exact PySem.EqNone.ne_int_none (B2 I q (by simp))
  | int j=>obtain ⟨t',rfl⟩:=ry;exact ne_int (B2 I q (congrArg not Uu))
  | str j=>obtain ⟨t',rfl⟩:=ry;exact PySem.EqMixed.ne_int_str (B2 I q (by simp))
  | _=>exact absurd (show false=true from hs) Bool.false_ne_true
 | str i=>
  obtain ⟨t,rfl⟩:=rx
  cases y with
  | non=>cases ry;exact PySem.EqNone.ne_str_none (B2 I q (by simp))
  | bl j=>cases ry;exact PySem.EqMixed.ne_str_bool (B2 I q (by simp))
  | int j=>obtain ⟨t',rfl⟩:=ry;exact PySem.EqMixed.ne_str_int (B2 I q (by simp))
  | str j=>obtain ⟨t',rfl⟩:=ry;exact ne_str (B2 I q (congrArg not Uv))
  | _=>exact absurd (show false=true from hs) Bool.false_ne_true
 | byt i=>
  obtain ⟨t,rfl⟩:=rx
  cases y with
  | byt j=>obtain ⟨t',rfl⟩:=ry;exact PySem.W.ne_bytes (B2 I q (congrArg not Uw))
  | _=>exact absurd (show false=true from hs) Bool.false_ne_true
 | _=>cases y <;> exact absurd (show false=true from hs) Bool.false_ne_true
theorem Qf:OpR X (compareOp .Lt) (rI0 fun i j=> .bl (decide (i < j))):=J3k fun _ _ _ _ _ _ _ q=>lt_int q
theorem Yl:OpR X (compareOp .LtE) (rI0 fun i j=> .bl (decide (i≤j))):=J3k fun _ _ _ _ _ _ _ q=>le_int q
theorem Gb:OpR X (compareOp .Gt) (rI0 fun i j=> .bl (decide (j < i))):=J3k fun _ _ _ _ _ _ _ q=>gt_int q
theorem J84:OpR X (compareOp .GtE) (rI0 fun i j=> .bl (decide (j≤i))):=J3k fun _ _ _ _ _ _ _ q=>ge_int q
theorem X3:OpR X (compareOp .In) (fun x y H Q=>∃i j,x= .str i∧y= .str j∧Q (.bl (!(Builtin.Str.occurrences j i 0 j.length 1).isEmpty)) H):=by
 intro pins s σ H x y v u Q I rx ry h;obtain ⟨i,j,rfl,rfl,q⟩:=h;obtain ⟨t,rfl⟩:=rx;obtain ⟨t',rfl⟩:=ry;exact in_str (B2 I q rfl)
theorem Ux:OpR X (compareOp .IsNot) (fun x y H Q=>y= .non∧Q (.bl (!decide (x= .non))) H):=by
 intro pins s σ H x y v u Q I rx ry h;obtain ⟨rfl,q⟩:=h;cases ry;refine isnot_none_gen (B2 I q ?_)
 cases x <;> first
  | (cases rx;rfl)
  | (obtain ⟨t,rfl⟩:=rx;rfl)
theorem nomark(b:Expr){op:CmpOp}(h:op≠ .In:=by decide)(h2:op≠ .NotIn:=by decide):behindInMarks op b=false:=by
 have e1:(op==CmpOp.In)=false:=by cases op <;> first | rfl | exact absurd rfl h
 have e2:(op==CmpOp.NotIn)=false:=by cases op <;> first | rfl | exact absurd rfl h2
 cases b <;> simp [behindInMarks,e1,e2]
theorem D1{op:CmpOp}{r:R2}(ho:OpR X (compareOp op) r)(ha:PE X a ta)(hb:PE X b tb)(hm:behindInMarks op b=false):PE X (.Compare a [op] [b] pos) (tOp r ta tb):=by
 intro pins s σ H Q I h;exact wpAny_Compare1 (J6m ha hb I h fun v u s2 x y H2 I2 rx ry q=>ho pins s2 σ H2 x y v u Q I2 rx ry q) hm
def Ym(t:TE):TT:=fun σ H Q=>t σ H fun x H'=>∃k,x= .bl k∧Q k H'
theorem Az{op:CmpOp}{r:R2}(ho:OpR X (compareOp op) r)(ha:PE X a ta)(hb:PE X b tb)(hm:behindInMarks op b=false):PT X (.Compare a [op] [b] pos) (Ym (tOp r ta tb)):=by
 intro pins s σ H Q I h
 refine wpAny_isTrue_Compare1 (thn (ha pins s σ H _ I h) fun v s1 ⟨x,H1,I1,r1,q1⟩=>thn (hb pins s1 σ H1 _ I1 q1) fun u s2 ⟨y,H2,I2,r2,q2⟩=>
  thn (ho pins s2 σ H2 x y v u _ I2 r1 r2 q2) fun c s3 ⟨z,H3,I3,r3,k,e,q3⟩=>?_) hm
 subst e;cases r3;exact wpAny_truthy_bool ⟨H3,I3,q3⟩
def Tr(r r':R2)(ta tb tc:TE):TE:=fun σ H Q=>ta σ H fun x H1=>tb σ H1 fun y H2=>r x y H2 fun z H3=>∃k,z= .bl k∧
 (if k=true then tc σ H3 fun w' H4=>r' y w' H4 Q else Q (.bl false) H3)
theorem Yn{op op':CmpOp}{r r':R2}(ho:OpR X (compareOp op) r)(ho':OpR X (compareOp op') r')(ha:PE X a ta)(hb:PE X b tb)(hc:PE X c tc)
 (hm:lastMarks [op,op'] [b,c]=false:=by with_unfolding_all rfl):PE X (.Compare a [op,op'] [b,c] pos) (Tr r r' ta tb tc):=by
 intro pins s σ H Q I h
 refine Compare_chain (thn (ha pins s σ H _ I h) fun v s1 ⟨x,H1,I1,r1,q1⟩=>chain_link (thn (hb pins s1 σ H1 _ I1 q1) fun u s2 ⟨y,H2,I2,r2,q2⟩=>
  thn (ho pins s2 σ H2 x y v u _ I2 r1 r2 q2) fun d s3 ⟨z,H3,I3,r3,k,e,q3⟩=>?_)) hm
 subst e;cases r3;refine wpAny_truthy_bool ?_
 cases k with
 | false=>exact ite_ff ⟨.bl false,H3,I3,rfl,q3⟩
 | true=>exact ite_tt (chain_last (thn (hc pins s3 σ H3 _ I3 q3) fun w' s4 ⟨z',H4,I4,r4,q4⟩=>ho' pins s4 σ H4 y z' u w' Q I4 r2 r4 q4))
theorem Yo{op op':CmpOp}{r r':R2}(ho:OpR X (compareOp op) r)(ho':OpR X (compareOp op') r')(ha:PE X a ta)(hb:PE X b tb)(hc:PE X c tc)
 (hm:lastMarks [op,op'] [b,c]=false:=by with_unfolding_all rfl):PT X (.Compare a [op,op'] [b,c] pos) (Ym (Tr r r' ta tb tc)):=by
 intro pins s σ H Q I h
 refine isTrue_chain (thn (ha pins s σ H _ I h) fun v s1 ⟨x,H1,I1,r1,q1⟩=>test_link (thn (hb pins s1 σ H1 _ I1 q1) fun u s2 ⟨y,H2,I2,r2,q2⟩=>
  thn (ho pins s2 σ H2 x y v u _ I2 r1 r2 q2) fun d s3 ⟨z,H3,I3,r3,k,e,q3⟩=>?_)) hm
 subst e;cases r3;refine wpAny_truthy_bool ?_
 cases k with
 | false=>
  obtain ⟨k',e',q'⟩:=q3;cases e';exact ite_ff ⟨H3,I3,q'⟩
 | true=>
  refine ite_tt (test_last (thn (hc pins s3 σ H3 _ I3 q3) fun w' s4 ⟨z',H4,I4,r4,q4⟩=>thn (ho' pins s4 σ H4 y z' u w' _ I4 r2 r4 q4) fun d' s5 hq_=>?_));obtain ⟨z2,H5,I5,r5,k2,e2,q5⟩:=hq_;subst e2;cases r5;exact wpAny_truthy_bool ⟨H5,I5,q5⟩
theorem Lb:(sizeLine:Nat) < 2 ^ 63:=by rw [sizeLine_eq];decide
theorem Mz:OpR X (binaryOp .Add) (fun x y H Q=>∃i j,x= .str i∧y= .str j∧i.length+j.length≤sizeLine∧Q (.str (i++j)) H):=by
 intro pins s σ H x y v u Q I rx ry h;obtain ⟨i,j,rfl,rfl,hz,q⟩:=h;obtain ⟨t,rfl⟩:=rx;obtain ⟨t',rfl⟩:=ry;exact add_str (fun t' tk=>⟨.str (i++j),H,I.tok _,⟨_,rfl⟩,q⟩) hz
theorem Gc{x:V}{us:List Value}(r:Aw [x] us):∃u,us=[u]∧Ao x u:=by
 cases r with
 | cons r1 r2=>cases r2;exact ⟨_,rfl,r1⟩
theorem J85{x y:V}{us:List Value}(r:Aw [x,y] us):∃u w',us=[u,w']∧Ao x u∧Ao y w':=by
 cases r with
 | cons r1 r2=>
  cases r2 with
  | cons r3 r4=>cases r4;exact ⟨_,_,rfl,r1,r3⟩
theorem Lc:G5 X (.type "int") (fun xs H Q=>(∃i,xs=[.int i]∧Q (.int i) H)∨∃k,xs=[.bl k]∧Q (.int (if k then 1 else 0)) H):=by
 intro pins s σ H xs us Q I r h;rcases h with ⟨i,rfl,q⟩ | ⟨k,rfl,q⟩
 · obtain ⟨u,rfl,t,rfl⟩:=Gc r
   exact call_int_int ⟨.int i,H,I,⟨_,rfl⟩,q⟩
 · obtain ⟨u,rfl,r1⟩:=Gc r
   cases r1;exact call_int_bool ⟨.int (if k then 1 else 0),H,I.tok _,⟨_,rfl⟩,q⟩
end
end L2
namespace L2
structure Ts(h:Heap)(x dx C:Addr)(mA:Str→Option Value):Prop where
 obj:h.get? x=some (PySem.W.instObj C dx)
 ns:h.Ns1 dx mA
 ne:dx≠x
theorem X4{h:Heap}{dx:Addr}{mA:Str→Option Value}(n:h.Ns1 dx mA):∃od,h.get? dx=some od∧∀name,PySem.W.lookIn name od=some (mA name):=by
 obtain ⟨o,es,ep,ho,hd,hk,_,hm⟩:=n;refine ⟨o,ho,fun name=>?_⟩;have e:=hm name;unfold nsFind findBy at e;rw [← Array.find?_toList]at e;unfold PySem.W.lookIn;rw [hd];dsimp only;split
 · rename_i y q
   rw [q]at e;exact congrArg some e
 · rename_i q
   rw [q]at e
   have a:es.toList.any (·.refKey)=false:=by
    rw [List.any_eq_false];intro y hy;obtain ⟨z,t,hkey⟩:=hk y (Array.mem_toList_iff.mp hy);simp [DictEntry.refKey,hkey]
   have a':¬es.toList.any (·.refKey)=true:=by rw [a];exact Bool.false_ne_true
   rw [if_neg a'];exact congrArg some e
theorem Ts.look{h:Heap}{x dx C:Addr}{mA:Str→Option Value}(I:Ts h x dx C mA):∃od,PySem.W.InstAt h x (PySem.W.instObj C dx) C (some od)∧∀name,PySem.W.lookIn name od=some (mA name):=
 let ⟨od,ho,hl⟩:=X4 I.ns
 ⟨od,⟨I.obj,rfl,rfl,ho⟩,hl⟩
section
variable {prog:Program} {w:World} {A:Around} {E:Value→Shared→Prop} {s:Shared} {K:PySem.W.Frag} {x dx C f:Addr} {mA:Str→Option Value} {name:Str} {v:Value}
theorem J3l{expr:Bool}{Q:Value→Shared→Prop}(X:K.In s.heap)(I:Ts s.heap x dx C mA)(hg:PySem.W.plainGet K C name=true)(hh:PySem.W.hasDictIn K C=true)
 (ha:PySem.W.findIn K (.ref C) name=some none) (hv:mA name=some v) (hv':PySem.W.handedIn v=true) (h:Q v {s with toks:=s.toks+1}):
 wpAny (model prog w) A (getAttr (.ref x) name expr) Q E s:=by
 obtain ⟨od,J,hl⟩:=I.look;exact PySem.W.get_value X J (PySem.W.plainGet_of hg).1 (PySem.W.findObj_own hh ha rfl (by rw [hl,hv])) hv' h
theorem Yp{pl:Sem Bool}{Q:Value×List Value→Shared→Prop}(X:K.In s.heap)(I:Ts s.heap x dx C mA)(hg:PySem.W.plainGet K C name=true)
 (hf:PySem.W.findIn K (.ref C) name=some (some (.ref f))) (ht:PySem.W.isFn K (.ref f)=true) (hv:mA name=none) (h:Q (.ref f,[.ref x]) s):
 wpAny (model prog w) A (getMethod (.ref x) name pl) Q E s:=by
 obtain ⟨od,J,hl⟩:=I.look;exact PySem.W.method_fn X J (PySem.W.plainGet_of hg).1 (PySem.W.plainGet_of hg).2 hf (beq_iff_eq.mp ht) (by show (PySem.W.lookIn name od).map (·.isSome)=some false;rw [hl,hv];rfl) h
theorem J3m{ns:List Str}{Q:Unit→Shared→Prop}(X:K.In s.heap)(I:Ts s.heap x dx C mA)
 (hs:PySem.W.findIn K (.ref C) "__setattr__"=some (some (.builtin "object.__setattr__"))) (hp:PySem.W.plainOver K C=true) (ht:PySem.W.takerIn K C name=some none) (hh:PySem.W.hasDictIn K C=true)
 (hw:PySem.Within mA ns) (hsz:ns.length≤sizeLine)
 (h:∀h',Ts h' x dx C (fun y=>if y=name then some v else mA y)→Heap.SameBut dx s.heap h'→Q () {s with heap:=h',toks:=s.toks+2}):
 wpAny (model prog w) A (setAttr (.ref x) name v) Q E s:=by
 obtain ⟨od,J,hl⟩:=I.look;refine PySem.W.set_plain X J hs (PySem.W.osa_open (s:={s with toks:=s.toks+1}) (r:=none) X J hp ht fun b=>?_);obtain ⟨cd,hc,hd'⟩:=PySem.W.any_some hh;have hx:s.heap.get? x=some ⟨.ref C,some dx,.plain,#[]⟩:=I.obj;refine wpAny_bind (wpAny_pure (wpAny_bind (wpAny_bind (wpAny_loadPart hx (wpAny_bind (PySem.W.Looks.here (s:={s with toks:=s.toks+1}) (PySem.W.looks_clsIn X hc) ?_))))));rw [hd'];refine wpAny_pure (a:=some dx) (wpAny_bind (wpAny_pure (wpAny_bind ?_)));refine wpAny_nsSet1 (s:={s with toks:=s.toks+1}) I.ns fun h' hn2 hs2=>?_;obtain ⟨oD,esD,epD,hoD,hdD,hcD⟩:=hn2.count (PySem.Within.cons name v hw);refine wpAny_bind (wpAny_lookBehind hoD (by rw [hdD];exact pastItsLine_dict (Nat.le_trans hcD (by rw [List.length_cons];omega))) ?_);exact wpAny_pure (h _ ⟨(hs2.2 _ (Ne.symm I.ne)).trans I.obj,hn2,I.ne⟩ hs2)
theorem Yq{R:Result→Shared→Prop}{vs:List Value}{kw:List (Str×Value)}(X:K.In s.heap)(hm:PySem.W.makesIn K C=true)
 (hi:PySem.W.findIn K (.ref C) "__init__"=some (some (.ref f))) (hf:PySem.W.typeIn K (.ref f)=some (.type "function"))
 (h:codeAny (model prog w) (A.under (.builtin "type.__call__" ⟨.ref C::vs,kw⟩)) (.call (.ref f) ⟨.ref (s.heap.objs.size+1)::vs,kw⟩) (PySem.W.InitBack (s.heap.objs.size+1) R)
  {s with heap:=(s.heap.push PySem.W.emptyDict).push (PySem.W.instObj C s.heap.objs.size)}):
 codeAny (model prog w) A (.call (.ref C) ⟨vs,kw⟩) R s:=by
 obtain ⟨hh,g,d,t,os⟩:=s;exact PySem.W.make_core (PySem.W.makes_of X hm) (PySem.W.looks_findIn X hi) (fun self=>PySem.W.bind_fn X self hf) (.inl rfl) h
end
def Bh(f:Str)(v:V):List (Str×V)→List (Str×V)
 | []=>[(f,v)]
 | (g,x)::r=>if g=f then (g,v)::r else (g,x)::Bh f v r
theorem Bm(f g:Str)(v:V):∀fs:List (Str×V),(Bh f v fs).lookup g=if g=f then some v else fs.lookup g
 | []=>by
  show List.lookup g [(f,v)]=_
  by_cases h:g=f
  · have hb:(g==f)=true:=beq_iff_eq.mpr h
    simp only [List.lookup,hb,if_pos h]
  · have hb:(g==f)=false:=beq_eq_false_iff_ne.mpr h
    simp only [List.lookup,hb,if_neg h]
 | (k,x)::r=>by
  have ih:=Bm f g v r;rw [show Bh f v ((k,x)::r)=(if k=f then (k,v)::r else (k,x)::Bh f v r) from rfl]
  by_cases hk:k=f
  · rw [if_pos hk]
    by_cases h:g=k
    · have hb:(g==k)=true:=beq_iff_eq.mpr h
      simp only [List.lookup,hb,if_pos (h.trans hk)]
    · have hb:(g==k)=false:=beq_eq_false_iff_ne.mpr h
      simp only [List.lookup,hb,if_neg (fun e:g=f=>h (e.trans hk.symm))]
  · rw [if_neg hk]
    by_cases h:g=k
    · have hb:(g==k)=true:=beq_iff_eq.mpr h
      simp only [List.lookup,hb,if_neg (fun e:g=f=>hk (h.symm.trans e))]
    · have hb:(g==k)=false:=beq_eq_false_iff_ne.mpr h
      simp only [List.lookup,hb];exact ih
theorem Ld(f:Str)(v:V):∀fs:List (Str×V),f∈(Bh f v fs).map (·.1)∧∀g,g∈fs.map (·.1)→g∈(Bh f v fs).map (·.1)
 | []=>⟨by simp [Bh],fun g h=>by simp at h⟩
 | (k,x)::r=>by
  obtain ⟨i1,i2⟩:=Ld f v r;rw [show Bh f v ((k,x)::r)=(if k=f then (k,v)::r else (k,x)::Bh f v r) from rfl]
  by_cases hk:k=f
  · rw [if_pos hk]
    subst hk;exact ⟨by simp,fun g h=>by simpa using h⟩
  · rw [if_neg hk]
    refine ⟨?_,fun g h=>?_⟩
    · rw [List.map_cons]
      exact List.mem_cons_of_mem _ i1
    · rw [List.map_cons]at h ⊢
      rcases List.mem_cons.mp h with e | e
      · exact List.mem_cons.mpr (.inl e)
      · exact List.mem_cons_of_mem _ (i2 g e)
theorem Dr(f:Str)(v:V):∀fs:List (Str×V),(Bh f v fs).length≤fs.length+1
 | []=>by simp [Bh]
 | (k,x)::r=>by
  have ih:=Dr f v r;rw [show Bh f v ((k,x)::r)=(if k=f then (k,v)::r else (k,x)::Bh f v r) from rfl]
  by_cases hk:k=f
  · rw [if_pos hk,List.length_cons,List.length_cons];omega
  · rw [if_neg hk,List.length_cons,List.length_cons];omega
theorem E4.some_of{v:V}{o:Option Value}(r:E4 (some v) o):∃u,o=some u∧Ao v u:=by
 cases o with
 | none=>exact (show False from r).elim
 | some u=>exact ⟨u,rfl,r⟩
theorem E4.none_of{o:Option Value}(r:E4 none o):o=none:=by
 cases o with
 | none=>rfl
 | some u=>exact (show False from r).elim
theorem X5{v:V}{u:Value}(r:Ao v u):PySem.W.handedIn u=true:=by
 cases v with
 | non=>cases (show u=Value.none from r);rfl
 | bl b=>cases (show u=Value.bool b from r);rfl
 | int i=>obtain ⟨t,e⟩:=(show ∃t,u=Value.int i t from r);cases e;rfl
 | str x=>obtain ⟨t,e⟩:=(show ∃t,u=Value.str x t from r);cases e;rfl
 | byt b=>obtain ⟨t,e⟩:=(show ∃t,u=Value.bytes b t from r);cases e;rfl
 | flt b=>obtain ⟨t,e⟩:=(show ∃t,u=Value.float b t from r);cases e;rfl
 | ref a=>cases (show u=Value.ref a from r);rfl
 | ty n=>cases (show u=Value.type n from r);rfl
section
variable {P:Program} {w:World} {H H':Hp} {h h':Heap} {a C dx:Addr} {fs fs':List (Str×V)}
theorem Kd(hok:HOk P w H h)(e:H a=some (.ins C dx fs)):∃mA,Ts h a dx C mA∧(∀f,E4 (fs.lookup f) (mA f))∧PySem.Within mA (fs.map (·.1))∧fs.length≤1000∧H dx=some (.own a):=by
 obtain ⟨d,z,ne,ob,mA,n,r,q⟩:=(show Bg P w H h a (.ins C dx fs) from hok a _ e)
 exact ⟨mA,⟨ob,n,ne⟩,r,q,z,d⟩
end
structure Cls(K:PySem.W.Frag)(C:Addr):Prop where
 pg:PySem.W.plainGet K C Str.empty=true
 hd:PySem.W.hasDictIn K C=true
 po:PySem.W.plainOver K C=true
 sa:PySem.W.findIn K (.ref C) "__setattr__"=some (some (.builtin "object.__setattr__"))
theorem Cls.get{K:PySem.W.Frag}{C:Addr}(c:Cls K C)(f:Str):PySem.W.plainGet K C f=true:=c.pg
def Ar(K:PySem.W.Frag)(C:Addr)(f:Str):Prop:=PySem.W.findIn K (.ref C) f=some none
theorem Ar.taker{K:PySem.W.Frag}{C:Addr}{f:Str}(n:Ar K C f):PySem.W.takerIn K C f=some none:=by
 unfold PySem.W.takerIn;rw [show PySem.W.findIn K (.ref C) f=some none from n];rfl
structure Cp(K:PySem.W.Frag)(C:Addr)(m:Str)(f:Addr):Prop where
 at_:PySem.W.findIn K (.ref C) m=some (some (.ref f))
 fn:PySem.W.isFn K (.ref f)=true
 kp:PySem.W.keepIn K (.ref f)=true
section
variable {X:Cx} {pins:List (Addr×Obj)} {σ:St} {H:Hp} {s:Shared} {a C dx:Addr} {fs:List (Str×V)} {f:Str} {v:V} {A:Around} {E:Value→Shared→Prop}
theorem N0{b:Bool}{Q:Value→Shared→Prop}(I:Inv X pins σ H s)(e:H a=some (.ins C dx fs))(c:Cls X.K C)(n:Ar X.K C f)(l:fs.lookup f=some v)
 (h:∀u s',Inv X pins σ H s'→Ao v u→Q u s'):wpAny (model X.prog X.w) A (getAttr (.ref a) f b) Q E s:=by
 obtain ⟨mA,O,r,_,_,_⟩:=Kd I.hok e;obtain ⟨u,hu,ru⟩:=E4.some_of (v:=v) (o:=mA f) (by rw [← l];exact r f);exact J3l I.kIn O (c.get f) c.hd n hu (X5 ru) (h u _ (I.tok _) ru)
theorem K0{m:Str}{g:Addr}{pl:Sem Bool}{Q:Value×List Value→Shared→Prop}(I:Inv X pins σ H s)(e:H a=some (.ins C dx fs))(c:Cls X.K C)(k:Cp X.K C m g)(l:fs.lookup m=none)
 (h:Q (.ref g,[.ref a]) s):wpAny (model X.prog X.w) A (getMethod (.ref a) m pl) Q E s:=by
 obtain ⟨mA,O,r,_,_,_⟩:=Kd I.hok e;have hn:mA m=none:=E4.none_of (by rw [← l];exact r m);exact Yp I.kIn O (c.get m) k.at_ k.fn hn h
theorem N2{y:V}{u:Value}{Q:Unit→Shared→Prop}(I:Inv X pins σ H s)(e:H a=some (.ins C dx fs))(c:Cls X.K C)(n:Ar X.K C f)(hl:fs.length < 1000)(ry:Ao y u)
 (h:∀s',Inv X pins σ (upd H a (.ins C dx (Bh f y fs))) s'→Q () s'):wpAny (model X.prog X.w) A (setAttr (.ref a) f u) Q E s:=by
 obtain ⟨mA,O,r,wi,_,ho⟩:=Kd I.hok e
 have hz:(fs.map (·.1)).length≤sizeLine:=by rw [List.length_map,sizeLine_eq];omega
 refine J3m I.kIn O c.sa c.po n.taker c.hd wi hz fun h' O' sb=>h _ ?_;have hd:∃o,h'.get? dx=some o:=let ⟨o,_,_,e',_⟩:=O'.ns;⟨o,e'⟩;refine I.write (x:=a) (e:=dx) (by rw [e];exact True.intro) (.inr ho) (fun b q hb z=>(sb.2 b hb).trans z) hd ?_;refine ⟨by rw [A5 O.ne];exact ho,?_,O.ne,O'.obj,_,O'.ns,fun g=>?_,fun g hg=>?_⟩
 · have:=Dr f y fs;omega
 · show E4 ((Bh f y fs).lookup g) (if g=f then some u else mA g)
   rw [Bm]
   by_cases q:g=f
   · rw [if_pos q,if_pos q];exact ry
   · rw [if_neg q,if_neg q];exact r g
 · by_cases q:g=f
   · rw [q];exact (Ld f y fs).1
   · refine (Ld f y fs).2 g (wi g fun z=>hg ?_)
     show (if g=f then some u else mA g)=none;rw [if_neg q];exact z
theorem Inv.made(I:Inv X pins σ H s):Inv X pins σ (upd (upd H s.heap.objs.size (.own (s.heap.objs.size+1))) (s.heap.objs.size+1) (.ins C s.heap.objs.size []))
 {s with heap:=(s.heap.push PySem.W.emptyDict).push (PySem.W.instObj C s.heap.objs.size)}:=by
 have e1:(s.heap.push PySem.W.emptyDict).get? s.heap.objs.size=some PySem.W.emptyDict:=Heap.get?_push_size s.heap rfl
 have e2:((s.heap.push PySem.W.emptyDict).push (PySem.W.instObj C s.heap.objs.size)).get? (s.heap.objs.size+1)=some (PySem.W.instObj C s.heap.objs.size):=by
  have:=Heap.get?_push_size (s.heap.push PySem.W.emptyDict) (o:=PySem.W.instObj C s.heap.objs.size) rfl
  rwa [Heap.size_push]at this
 have e3:(s.heap.push PySem.W.emptyDict).Ns s.heap.objs.size (fun _=>none):=⟨PySem.W.emptyDict,#[],_,e1,rfl,(fun e he=>absurd he (by simp)),fun _=>rfl⟩
 have I1:=I.laid (a:=s.heap.objs.size) (o:= .own (s.heap.objs.size+1)) (h':=s.heap.push PySem.W.emptyDict) (t':=s.toks) (fun b u q=>Heap.get?_push_of_some _ q) (Nat.le_refl _) ⟨_,e1⟩;refine I1.laid (a:=s.heap.objs.size+1) (o:= .ins C s.heap.objs.size []) (t':=s.toks) (fun b u q=>Heap.get?_push_of_some _ q) (Nat.le_of_eq (Heap.size_push _ _)) ?_;have ne:s.heap.objs.size≠s.heap.objs.size+1:=Nat.ne_of_lt (Nat.lt_succ_self _);refine ⟨by rw [A5 ne,A1],Nat.zero_le _,ne,e2,fun _=>none,(Heap.Ns1.of_empty e3).at fun o q=>Heap.get?_push_of_some _ q,fun _=>True.intro,fun y hy=>absurd rfl hy⟩
theorem Uy{prog:Program}{w:World}{env:Env}{e:Expr}{f:Str}{pos:Pos}{s:Shared}{Q:Value→Shared→Prop}(hb:attributeBase e f env (eval e env)=eval e env)
 (h:wpAny (model prog w) A (eval e env) (fun o s₁=>wpAny (model prog w) A (getAttr o f true) Q E s₁) E s):wpAny (model prog w) A (eval (.Attribute e f pos) env) Q E s:=
 Attribute_any_ h (by rw [arm_eval_Attribute,hb])
end
def J86(K:PySem.W.Frag)(ta:TE)(f:Str):TE:=fun σ H Q=>ta σ H fun x H1=>∃a C dx fs v,x= .ref a∧H1 a=some (.ins C dx fs)∧Cls K C∧Ar K C f∧fs.lookup f=some v∧Q v H1
def J87(K:PySem.W.Frag)(ta tv:TE)(f:Str):TS:=fun D σ H=>tv σ H fun y H1=>ta σ H1 fun x H2=>∃a C dx fs,x= .ref a∧H2 a=some (.ins C dx fs)∧Cls K C∧Ar K C f∧fs.length < 1000∧
 D.nx σ (upd H2 a (.ins C dx (Bh f y fs)))
def J88(X:Cx)(op:Operator)(rd:V→V→Hp→VK→Prop):Prop:=
 ∀(pins:List (Addr×Obj)) (s:Shared) (σ:St) (H:Hp) (x y:V) (u v:Value) (Q:VK),Inv X pins σ H s→Ao x u→Ao y v→rd x y H Q→wpAny (model X.prog X.w) X.A (inplaceOp op u v) (EP X pins σ Q) X.xe s
def Uz(K:PySem.W.Frag)(ta tv:TE)(rd:V→V→Hp→VK→Prop)(f:Str):TS:=fun D σ H=>ta σ H fun x H1=>∃a C dx fs v,x= .ref a∧H1 a=some (.ins C dx fs)∧Cls K C∧Ar K C f∧fs.lookup f=some v∧
 tv σ H1 fun y H2=>rd v y H2 fun z H3=>∃dx' fs',H3 a=some (.ins C dx' fs')∧fs'.length < 1000∧D.nx σ (upd H3 a (.ins C dx' (Bh f z fs')))
section
variable {X:Cx} {o e value:Expr} {f:Str} {pos pos' tpos:Pos} {ta tv:TE}
theorem As(he:PE X e ta)(hb:attributeBase e f X.env (eval e X.env)=eval e X.env):PE X (.Attribute e f pos) (J86 X.K ta f):=by
 intro pins s σ H Q I h;refine Uy hb (thn (he pins s σ H _ I h) fun u s1 hq_=>?_);obtain ⟨x,H1,I1,rx,a,C,dx,fs,v,ex,ea,c,n,l,q⟩:=hq_;subst ex;obtain rfl:u=Value.ref a:=rx
 exact N0 I1 ea c n l fun u' s2 I2 ru=>⟨v,H1,I2,ru,q⟩
theorem D9(ha:PE X o ta)(hv:PE X value tv)(hs:swapsWith value (some (.Attribute o f pos')) pos.line X.env=pure false):PS X (.Assign [.Attribute o f pos'] value pos) (J87 X.K ta tv f):=by
 intro pins s σ H D I h;refine plainObj_wpAny_Assign_Attribute (thn (hv pins s σ H _ I h) fun u s1 ⟨y,H1,I1,ry,q⟩=>thn (ha pins s1 σ H1 _ I1 q) fun ov s2 hq_=>?_) hs;obtain ⟨x,H2,I2,rx,a,C,dx,fs,ex,ea,c,n,l,q2⟩:=hq_;subst ex;obtain rfl:ov=Value.ref a:=rx
 exact N2 I2 ea c n l ry fun s3 I3=>⟨σ,_,I3,q2⟩
theorem O7{op:Operator}{rd:V→V→Hp→VK→Prop}(ha:PE X o ta)(hv:PE X value tv)(hop:J88 X op rd):PS X (.AugAssign (.Attribute o f tpos) op value pos) (Uz X.K ta tv rd f):=by
 intro pins s σ H D I h;refine wpAny_AugAssign_AttributeAny (thn (ha pins s σ H _ I h) fun ov s1 hq_=>?_);obtain ⟨x,H1,I1,rx,a,C,dx,fs,v,ex,ea,c,n,l,q⟩:=hq_;subst ex;obtain rfl:ov=Value.ref a:=rx;refine N0 I1 ea c n l fun u s2 I2 ru=>thn (hv pins s2 σ H1 _ I2 q) fun w3 s3 ⟨y,H2,I3,ry,q3⟩=>thn (hop pins s3 σ H2 v y u w3 _ I3 ru ry q3) fun w4 s4 hq_=>?_;obtain ⟨z,H3,I4,rz,dx',fs',ea',l',q4⟩:=hq_
 exact N2 I4 ea' c n l' rz fun s5 I5=>⟨σ,_,I5,q4⟩
def J6o:V→V→Hp→VK→Prop:=fun x y H Q=>∃i j,x= .int i∧y= .int j∧Q (.int (i+j)) H
theorem Yr:J88 X .Add J6o:=by
 rintro pins s σ H x y u v Q I rx ry ⟨i,j,rfl,rfl,q⟩
 obtain ⟨t,rfl⟩:=(show ∃t,u=Value.int i t from rx)
 obtain ⟨t',rfl⟩:=(show ∃t',v=Value.int j t' from ry)
 exact PyProof.Rows.iadd_int ⟨.int (i+j),H,I.tok _,⟨_,rfl⟩,q⟩
end
section
variable {X:Cx} {pins:List (Addr×Obj)} {σ:St} {H:Hp} {s:Shared} {A:Around} {E:Value→Shared→Prop} {Q:Value→Shared→Prop} {c:Value} {b:Bool}
inductive Le(K:PySem.W.Frag)(H:Hp):V→Value→Prop where
 | non:Le K H .non (.type "NoneType")
 | bl (x:Bool):Le K H (.bl x) (.type "bool")
 | int (i:Int):Le K H (.int i) (.type "int")
 | str (x:Str):Le K H (.str x) (.type "str")
 | flt (x:UInt64):Le K H (.flt x) (.type "float")
 | lst {a:Addr} {xs:List V} (e:H a=some (.lst xs)):Le K H (.ref a) (.type "list")
 | frz {a:Addr} {o:Obj} {xs:List V} (e:H a=some (.frz o (.lst xs))):Le K H (.ref a) (.type "list")
 | tup {a:Addr} {xs:List V} (e:H a=some (.tup xs)):Le K H (.ref a) (.type "tuple")
 | dK {a:Addr} {kvs:List (Key×V)} (e:H a=some (.dK kvs)):Le K H (.ref a) (.type "dict")
 | dT {a:Addr} {kvs:List (List Key×V)} (e:H a=some (.dT kvs)):Le K H (.ref a) (.type "dict")
 | ins {a C dx:Addr} {fs:List (Str×V)} (e:H a=some (.ins C dx fs)) (cl:Cls K C) (ha:PySem.W.findIn K (.ref C) "__class__"=some (some (.builtin "object.__class__")))
  (hn:PySem.W.specialIn K (.builtin "object.__class__") "__get__"=some (some (.builtin "getset_descriptor.__get__"))) (htk:PySem.W.takesIn K (.builtin "object.__class__")=some true)
  (hm:PySem.W.mroIn K C (.type "object")=some true):Le K H (.ref a) (.ref C)
theorem X6{x:V}{u t:Value}(I:Inv X pins σ H s)(rx:Ao x u)(ty:Le X.K H x t)(e:PySem.W.kitOne X.K t c=some b)(h:∀tk,Q (.bool b) {s with toks:=tk}):
 wpAny (model X.prog X.w) A (call (.builtin "isinstance") [u,c]) Q E s:=by
 cases ty with
 | non=>cases (show u=Value.none from rx);exact PySem.W.kia_one PySem.W.kitx_none I.kIn True.intro e (fun z=>nomatch z) h
 | bl y=>cases (show u=Value.bool y from rx);exact PySem.W.kia_one PySem.W.kitx_bool I.kIn True.intro e (fun z=>nomatch z) h
 | int i=>obtain ⟨t,q⟩:=(show ∃t,u=Value.int i t from rx);cases q;exact PySem.W.kia_one PySem.W.kitx_int I.kIn True.intro e (fun z=>nomatch z) h
 | str y=>obtain ⟨t,q⟩:=(show ∃t,u=Value.str y t from rx);cases q;exact PySem.W.kia_one PySem.W.kitx_str I.kIn True.intro e (fun z=>nomatch z) h
 | flt y=>obtain ⟨t,q⟩:=(show ∃t,u=Value.float y t from rx);cases q;exact PySem.W.kia_one PySem.W.kitx_float I.kIn True.intro e (fun z=>nomatch z) h
 | @lst a xs ea=>
  cases (show u=Value.ref a from rx)
  obtain ⟨_,_,n,_,h1⟩:=(show Bg X.prog X.w H s.heap a (.lst xs) from I.hok a _ ea)
  exact PySem.W.kia_one PySem.W.kitx_list I.kIn ⟨_,h1,rfl⟩ e (fun z=>nomatch z) h
 | @frz a ob xs ea=>
  cases (show u=Value.ref a from rx)
  obtain ⟨_,_,_,n,_,h1⟩:=(show Bg X.prog X.w H s.heap a (.frz ob (.lst xs)) from I.hok a _ ea)
  exact PySem.W.kia_one PySem.W.kitx_list I.kIn ⟨_,h1,rfl⟩ e (fun z=>nomatch z) h
 | @tup a xs ea=>
  cases (show u=Value.ref a from rx)
  obtain ⟨_,_,_,p⟩:=(show Bg X.prog X.w H s.heap a (.tup xs) from I.hok a _ ea)
  obtain ⟨o,h1,h2,_⟩:=p;exact PySem.W.kia_one PySem.W.kitx_tuple I.kIn ⟨o,h1,h2⟩ e (fun z=>nomatch z) h
 | @dK a kvs ea=>
  cases (show u=Value.ref a from rx)
  obtain ⟨_,_,vs,_,p⟩:=(show Bg X.prog X.w H s.heap a (.dK kvs) from I.hok a _ ea)
  obtain ⟨o,es,ep,h1,h2,_⟩:=p;exact PySem.W.kia_one PySem.W.kitx_dict I.kIn ⟨o,h1,h2.1⟩ e (fun z=>nomatch z) h
 | @dT a kvs ea=>
  cases (show u=Value.ref a from rx)
  obtain ⟨_,_,xs,_,o,es,ep,h1,h2,_⟩:=(show Bg X.prog X.w H s.heap a (.dT kvs) from I.hok a _ ea)
  exact PySem.W.kia_one PySem.W.kitx_dict I.kIn ⟨o,h1,h2.1⟩ e (fun z=>nomatch z) h
 | @ins a C dx fs ea cl ha hn htk hm=>
  cases (show u=Value.ref a from rx);obtain ⟨mA,O,_⟩:=Kd I.hok ea;obtain ⟨od,J,_⟩:=O.look;exact PySem.W.kia_one (PySem.W.kitx_own (cl.get _) cl.hd ha hn htk hm) I.kIn J e (fun z=>nomatch z) h
end
end L2
namespace L2
structure Br(k:Nat)(A:Around):Prop where
 hd:A.handled=none
 dp:A.depth+3 * k+5 < recursionLimit
 un:A.units+16 * k+200 < cLine
theorem Br.mono{j k:Nat}{A:Around}(r:Br k A)(h:j≤k):Br j A:=⟨r.hd,by have:=r.dp;omega,by have:=r.un;omega⟩
theorem Br.deeper{k:Nat}{A:Around}(r:Br (k+1) A)(env:Env):Br k (A.deeper env):=
 ⟨r.hd,by have:=r.dp;show A.depth+1+3 * k+5 < _;omega,by have:=r.un;show A.units+3+16 * k+200 < _;omega⟩
theorem Br.in1{k:Nat}{A:Around}(r:Br (k+1) A):Br k A.in1:=
 ⟨r.hd,by have:=r.dp;show A.depth+3 * k+5 < _;omega,by have:=r.un;show A.units+1+16 * k+200 < _;omega⟩
theorem Tt{A:Around}{C:Addr}{us:List Value}{kw:List (Str×Value)}:(A.under (.builtin "type.__call__" ⟨.ref C::us,kw⟩)).depth=A.depth+1:=by
 first | rfl | simp [Around.under,Code.weight,Code.isCreation,Code.isGuard,Code.isCaller,Code.frames,Code.isFrame,guardIds]
theorem Tu{A:Around}{C:Addr}{us:List Value}{kw:List (Str×Value)}:(A.under (.builtin "type.__call__" ⟨.ref C::us,kw⟩)).units=A.units+1:=by
 first | rfl | simp [Around.under,Code.cUnits,Code.frames,Code.isFrame]
theorem Br.make{k:Nat}{A:Around}(r:Br (k+1) A)(C:Addr)(us:List Value)(kw:List (Str×Value)):Br k (A.under (.builtin "type.__call__" ⟨.ref C::us,kw⟩)):=
 ⟨r.hd,by have:=r.dp;rw [Tt];omega,by have:=r.un;rw [Tu];omega⟩
theorem Br.depth{k:Nat}{A:Around}(r:Br k A):A.depth < recursionLimit:=by have:=r.dp;omega
theorem Br.units{k:Nat}{A:Around}(r:Br k A):A.units+64 < cLine:=by have:=r.un;omega
def J6p:TA:=fun _ H Q=>Q [] H
def V0(ta:TE)(tr:TA):TA:=fun σ H Q=>ta σ H fun x H1=>tr σ H1 fun xs H2=>Q (x::xs) H2
section
variable {X:Cx} {e:Expr} {es:List Expr} {te:TE} {t:TA} {pos:Pos}
theorem A3:PA X [] J6p:=fun _ _ _ _ H Q I h=>Calls.spliced_nil ⟨[],H,I,.nil,h⟩
theorem A0(ha:PE X e te)(hr:PA X es t)(hs:starEach (e::es) X.env=(false,eval e X.env)::starEach es X.env:=by rfl):PA X (e::es) (V0 te t):=by
 intro pos pins s σ H Q I h;rw [hs];show wpAny _ _ (spliced ((false,eval e X.env)::backTo pos (starEach es X.env))) _ _ s;refine Calls.spliced_cons (thn (ha pins s σ H _ I h) fun u s1 hq_=>?_);obtain ⟨x,H1,I1,r1,q1⟩:=hq_
 exact thn (hr pos pins s1 σ H1 _ I1 q1) fun us s2 ⟨xs,H2,I2,r2,q2⟩=>⟨x::xs,H2,I2,.cons r1 r2,q2⟩
def J89(t:TA):TE:=fun σ H Q=>t σ H fun xs H1=>xs.length≤sizeLine∧∀p,H1 p=none→Q (.ref p) (upd H1 p (.tup xs))
def J8a(t:TA):TE:=fun σ H Q=>t σ H fun xs H1=>xs.length≤sizeLine∧∀p,H1 p=none→Q (.ref p) (upd H1 p (.lst xs))
theorem By{x1}(h:PA X es t):PE X (.Tuple es x1 pos) (J89 t):=by
 intro pins s σ H Q I hq;refine wpAny_Tuple_spliced (thn (h pos pins s σ H _ I hq) fun us s1 ⟨xs,H1,I1,r,z,q⟩=>⟨by rw [← r.length];exact z,?_⟩);have hf:H1 s1.heap.objs.size=none:=I1.hok.fresh (Nat.le_refl _);refine ⟨.ref s1.heap.objs.size,upd H1 s1.heap.objs.size (.tup xs),I1.laid (t':=s1.toks) (fun b u e=>Heap.get?_push_of_some _ e) (Nat.le_refl _) ?_,rfl,q _ hf⟩;exact ⟨z,us,r,⟨_,Heap.get?_push_size _ rfl,rfl,_,rfl⟩⟩
theorem K1(h:PA X es t):PE X (.List es pos) (J8a t):=by
 intro pins s σ H Q I hq;refine wpAny_List_spliced (thn (h pos pins s σ H _ I hq) fun us s1 ⟨xs,H1,I1,r,z,q⟩=>⟨by rw [← r.length];exact z,?_⟩);have hf:H1 s1.heap.objs.size=none:=I1.hok.fresh (Nat.le_refl _);refine ⟨.ref s1.heap.objs.size,upd H1 s1.heap.objs.size (.lst xs),I1.laid (t':=s1.toks) (fun b u e=>Heap.get?_push_of_some _ e) (Nat.le_refl _) ?_,rfl,q _ hf⟩;exact ⟨z,us,0,r,Heap.get?_push_size _ rfl⟩
end
abbrev Sp:=List V→Hp→VK→XK→Prop
abbrev CXT:=List Env→Hp→Shared→XK→Value→Shared→Prop
structure Ke(P:Program)(w:World)(K:PySem.W.Frag)(mg:Str→Option Value)(base:Heap)(A:Around)(outer:List Env)(s:Shared)(H:Hp):Prop where
 frames:A.frames=some outer
 mod:Mod K mg base
 bs:∀b o,base.get? b=some o→s.heap.get? b=some o∧H b=none
 bsz:base.objs.size≤s.heap.objs.size
 funs:s.heap.FunFrames base outer
 frf:∀b∈frs outer,H b=none
 hok:HOk P w H s.heap
 bare:AllBare s.gens
def CE(outer:List Env)(P:Program)(w:World)(H:Hp)(s:Shared)(Q:VK)(u:Value)(s':Shared):Prop:=
 ∃v H',s'.os=s.os∧AllBare s'.gens∧Un (frs outer) [] H H' s.heap s'.heap∧HOk P w H' s'.heap∧Ao v u∧Q v H'
def CR(CX:CXT)(outer:List Env)(P:Program)(w:World)(H:Hp)(s:Shared)(Q:VK)(E:XK)(r:Result)(s':Shared):Prop:=
 match r with
 | .ok (.ret u)=>CE outer P w H s Q u s'
 | .ok _=>False
 | .error e=>CX outer H s E e s'
structure Al(P:Program)(w:World)(K:PySem.W.Frag)(mg:Str→Option Value)(base:Heap)(CX:CXT)(k:Nat)(f:Addr)(fd:FuncData)(ps:List Str)(sp:Sp):Prop where
 len:∀vs H Q E,sp vs H Q E→vs.length=ps.length
 run:∀(A:Around) (outer:List Env) (s:Shared) (H:Hp) (args:Args) (us:List Value) (vs:List V) (Q:VK) (E:XK),Br k A→Ke P w K mg base A outer s H→BindsTo s fd args (ps.zip us)→Aw vs us→sp vs H Q E→
  codeAny (model P w) A (.call (.ref f) args) (CR CX outer P w H s Q E) s
theorem Al.mono{P:Program}{w:World}{K:PySem.W.Frag}{mg:Str→Option Value}{base:Heap}{CX:CXT}{j k:Nat}{f:Addr}{fd:FuncData}{ps:List Str}{sp:Sp}(F:Al P w K mg base CX j f fd ps sp)(h:j≤k):
 Al P w K mg base CX k f fd ps sp:=⟨F.len,fun A outer s H args us vs Q E hr=>F.run A outer s H args us vs Q E (hr.mono h)⟩
theorem Al.imp{P:Program}{w:World}{K:PySem.W.Frag}{mg:Str→Option Value}{base:Heap}{CX:CXT}{k:Nat}{f:Addr}{fd:FuncData}{ps:List Str}{sp sp':Sp}(F:Al P w K mg base CX k f fd ps sp)
 (h:∀vs H Q E,sp' vs H Q E→sp vs H Q E):Al P w K mg base CX k f fd ps sp':=
 ⟨fun vs H Q E q=>F.len vs H Q E (h _ _ _ _ q),fun A outer s H args us vs Q E hr he hb hv hs=>F.run A outer s H args us vs Q E hr he hb hv (h _ _ _ _ hs)⟩
theorem Ke.make{P:Program}{w:World}{K:PySem.W.Frag}{mg:Str→Option Value}{base:Heap}{A:Around}{outer:List Env}{s:Shared}{H:Hp}(e:Ke P w K mg base A outer s H)(C:Addr)(us:List Value)(kw:List (Str×Value)):
 Ke P w K mg base (A.under (.builtin "type.__call__" ⟨.ref C::us,kw⟩)) outer s H:=⟨by first | exact e.frames | (simpa [Around.under,Code.envs,Code.isFrame,pushEnvs] using e.frames),e.mod,e.bs,e.bsz,e.funs,e.frf,e.hok,e.bare⟩
theorem Ke.in1{P:Program}{w:World}{K:PySem.W.Frag}{mg:Str→Option Value}{base:Heap}{A:Around}{outer:List Env}{s:Shared}{H:Hp}(e:Ke P w K mg base A outer s H):
 Ke P w K mg base A.in1 outer s H:=⟨e.frames,e.mod,e.bs,e.bsz,e.funs,e.frf,e.hok,e.bare⟩
section
variable {X:Cx} {pins:List (Addr×Obj)} {σ:St} {H:Hp} {s s':Shared}
theorem Inv.env0(I:Inv X pins σ H s):Ke X.prog X.w X.K X.mg X.base X.A X.stack s H:=
 ⟨I.ok.frames,I.ok.mod,I.bs,Nat.le_trans I.ok.bsz I.sz,I.stack,I.stkFree,I.hok,I.bare⟩
theorem Inv.after{Q:VK}{u:Value}(I:Inv X pins σ H s)(h:CE X.stack X.prog X.w H s Q u s'):EP X pins σ Q u s':=by
 obtain ⟨v,H',os,bare,un,hok,r,q⟩:=h;obtain ⟨hh,g,d,t,os'⟩:=s';obtain rfl:os'=s.os:=os;exact ⟨v,H',I.call (h':=hh) (g':=g) (d':=d) (t':=t) (ch:=[]) un hok bare (fun b z=>absurd z (by simp)),r,q⟩
end
def J8b(sp:Sp)(dvs:List V)(E:XK)(t:TA):TE:=fun σ H Q=>t σ H fun vs H1=>sp (vs++dvs) H1 Q E
def C1(K:PySem.W.Frag)(fd:FuncData)(ps:List Str)(ds:List Value):Prop:=
 ∀(s:Shared) (us:List Value),K.In s.heap→(us++ds).length=ps.length→BindsTo s fd ⟨us,[]⟩ (ps.zip (us++ds))
theorem C1.all{K:PySem.W.Frag}{fd:FuncData}{ps:List Str}(h:∀us:List Value,us.length=ps.length→bindArgs fd ⟨us,[]⟩=pure (ps.zip us)):C1 K fd ps []:=fun s us _ hl=>by
 rw [List.append_nil]at hl ⊢;exact .of_eq (h us hl)
def Lf(CX:CXT)(X:Cx)(E:XK):Prop:=∀(pins:List (Addr×Obj)) (σ:St) (H:Hp) (s:Shared) (e:Value) (s':Shared),Inv X pins σ H s→CX X.stack H s E e s'→X.xe e s'
section
variable {X:Cx} {CX:CXT} {k:Nat} {f C:Addr} {fd:FuncData} {ps:List Str} {sp:Sp} {dvs:List V} {ds:List Value} {E:XK} {x m:Str} {p pos apos:Pos} {e o:Expr} {es:List Expr} {ta:TE} {t:TA}
theorem J6q{pins:List (Addr×Obj)}{σ:St}{H:Hp}{s:Shared}{Q:VK}{us:List Value}{vs:List V}(F:Al X.prog X.w X.K X.mg X.base CX k f fd ps sp)(hr:Br k X.A)(hb:C1 X.K fd ps ds)(hd:Aw dvs ds)(hx:Lf CX X E)
 (I:Inv X pins σ H s) (r:Aw vs us) (h:sp (vs++dvs) H Q E):wpAny (model X.prog X.w) X.A (call (.ref f) us) (EP X pins σ Q) X.xe s:=by
 have r2:Aw (vs++dvs) (us++ds):=r.append hd
 have hl:(us++ds).length=ps.length:=by rw [← r2.length];exact F.len _ _ _ _ h
 refine wpAny_call (codeAny_mono (F.run X.A X.stack s H ⟨us,[]⟩ (us++ds) (vs++dvs) Q E hr I.env0 (hb s us I.kIn hl) r2 h) fun r s' hq=>?_)
 cases r with
 | error e=>exact hx pins σ H s e s' I hq
 | ok fl=>
  cases fl with
  | ret u=>exact I.after hq
  | next=>exact False.elim hq
  | brk=>exact False.elim hq
  | cont=>exact False.elim hq
theorem J3n(F:Al X.prog X.w X.K X.mg X.base CX k f fd ps sp)(hr:Br k X.A)(hg:Gl X x)(hm:X.mg x=some (.ref f))(hk:PySem.W.keepIn X.K (.ref f)=true)(hb:C1 X.K fd ps ds)(hd:Aw dvs ds)(hx:Lf CX X E)
 (ha:PA X (e::es) t) (hdb:(x==("__debug__":Str))=false:=by decide) (he:starEach (e::es) X.env=(false,eval e X.env)::starEach es X.env:=by rfl) (hpl:(backTo pos (starEach es X.env)).any (·.1)=false:=by rfl):
 PE X (.Call (.Name x p) (e::es) [] pos) (J8b sp dvs E t):=by
 intro pins s σ H Q I h;refine wpAny_Call_Name_kw (Ma I hg hm ?_ hdb);refine PySem.W.callWith_K (h₀:=X.base) I.ok.mod.kin hk (thn (ha pos pins s σ H _ I h) fun us s1 ⟨vs,H1,I1,r,q⟩=>⟨I1.kIn,?_⟩) he hpl;exact J6q F hr hb hd hx I1 r q
structure Mk(K:PySem.W.Frag)(C f:Addr):Prop where
 makes:PySem.W.makesIn K C=true
 init:PySem.W.findIn K (.ref C) "__init__"=some (some (.ref f))
 fn:PySem.W.isFn K (.ref f)=true
 kp:PySem.W.keepIn K (.ref C)=true
end
structure A9(N P:List Str)(sc:Scope):Prop where
 kind:sc.kind= .function
 co:sc.isCoroutine=false
 gen:sc.isGenerator=false
 nd:N.Nodup
 pre:N.take P.length=P
 par:∀x∈P,sc.names.lookup x=some .local∨sc.names.lookup x=some .cell
 nofree:∀y∈sc.names,y.2≠ .free
theorem O8{kindOf:Str→Option NameKind}{x:Str}:∀{binds:List (Str×Value)} {m:Str→Option Value},(∀v,(x,v)∉binds)→bindL kindOf binds m x=m x
 | [],_,_=>rfl
 | (n,v)::r,m,h=>by
  unfold bindL;rw [O8 fun w hw=>h w (List.mem_cons_of_mem _ hw)];split
  · have:x≠n:=by rintro rfl;exact h v List.mem_cons_self
    simp [this]
  · rfl
theorem O9{kindOf:Str→Option NameKind}{x:Str}:∀{binds:List (Str×Value)} {m:Str→Option Value},(∀v,(x,v)∉binds)→bindC kindOf binds m x=m x
 | [],_,_=>rfl
 | (n,v)::r,m,h=>by
  unfold bindC;rw [O9 fun w hw=>h w (List.mem_cons_of_mem _ hw)];split
  · rfl
  · have:x≠n:=by rintro rfl;exact h v List.mem_cons_self
    simp [this]
theorem Oa{kindOf:Str→Option NameKind}{x:Str}{v:Value}:∀{P:List Str} {vs:List Value} {i:Nat} {m:Str→Option Value},P.Nodup→P[i]?=some x→vs[i]?=some v→kindOf x=some .local→
 bindL kindOf (P.zip vs) m x=some v
 | [],_,_,_,_,h,_,_=>by simp at h
 | _::_,[],_,_,_,_,h,_=>by simp at h
 | p::P,w::vs,0,m,nd,h1,h2,hk=>by
  simp at h1 h2;subst h1;subst h2;show bindL kindOf ((p,w)::P.zip vs) m p=_;unfold bindL;rw [O8 fun v hv=>(List.nodup_cons.mp nd).1 (List.of_mem_zip hv).1,if_pos hk];simp
 | p::P,w::vs,i+1,m,nd,h1,h2,hk=>by
  show bindL kindOf ((p,w)::P.zip vs) m x=_;unfold bindL;exact Oa (i:=i) (List.nodup_cons.mp nd).2 (by simpa using h1) (by simpa using h2) hk
theorem Ob{kindOf:Str→Option NameKind}{x:Str}{v:Value}:∀{P:List Str} {vs:List Value} {i:Nat} {m:Str→Option Value},P.Nodup→P[i]?=some x→vs[i]?=some v→kindOf x≠some .local→
 bindC kindOf (P.zip vs) m x=some v
 | [],_,_,_,_,h,_,_=>by simp at h
 | _::_,[],_,_,_,_,h,_=>by simp at h
 | p::P,w::vs,0,m,nd,h1,h2,hk=>by
  simp at h1 h2;subst h1;subst h2;show bindC kindOf ((p,w)::P.zip vs) m p=_;unfold bindC;rw [O9 fun v hv=>(List.nodup_cons.mp nd).1 (List.of_mem_zip hv).1,if_neg hk];simp
 | p::P,w::vs,i+1,m,nd,h1,h2,hk=>by
  show bindC kindOf ((p,w)::P.zip vs) m x=_;unfold bindC;exact Ob (i:=i) (List.nodup_cons.mp nd).2 (by simpa using h1) (by simpa using h2) hk
def start(N:List Str)(vs:List V):St:=vs.map some++List.replicate (N.length - vs.length) none
def Qg(CX:CXT)(P:Program)(w:World)(K:PySem.W.Frag)(mg:Str→Option Value)(base:Heap)(N:List Str)(qual:Str)(scope:Scope)(f:Addr)(cd:Value)(A:Around)(outer:List Env)(s:Shared)(H:Hp)(E:XK):Cx where
 prog:=P
 w:=w
 K:=K
 mg:=mg
 base:=base
 A:=A.deeper (envOfC qual scope s.heap.objs.size f cd)
 N:=N
 s₀:=s
 H₀:=H
 env:=envOfC qual scope s.heap.objs.size f cd
 outer:=outer
 stack:=envOfC qual scope s.heap.objs.size f cd::outer
 ex:=[]
 calm:=true
 fn:=fun _=>true
 pn:=[]
 xe:=fun e s'=>wpAny (model P w) (A.deeper (envOfC qual scope s.heap.objs.size f cd)) (leaving (envOfC qual scope s.heap.objs.size f cd) e) (fun _ s''=>CX outer H s E e s'') (fun e' s''=>CX outer H s E e' s'') s'
theorem Qh{sc:Scope}{n:Nat}{x:Str}(h:sc.names.lookup x=some .cell):∃c,(cellsFrom n sc.names []).lookup x=some c:=by
 have q:=PySem.W.cellsFrom_some sc.names n [] (.inl h);exact Option.isSome_iff_exists.mp q
theorem X7{CX:CXT}{P:Program}{w:World}{K:PySem.W.Frag}{mg:Str→Option Value}{base:Heap}{N ps:List Str}{qual:Str}{scope:Scope}{f:Addr}{cd:Value}{A:Around}{outer:List Env}{s s1:Shared}{H:Hp}{E:XK}{us:List Value}{vs:List V}
 (S:A9 N ps scope) (hd:A.handled=none) (e0:Ke P w K mg base A outer s H) (hl:vs.length=ps.length) (r:Aw vs us)
 (x:InCallC s s.heap.objs.size (bindL (envOfC qual scope s.heap.objs.size f cd).kindOf (ps.zip us) fun _=>none) (cellsFrom (s.heap.objs.size+1) scope.names []) (bindC (envOfC qual scope s.heap.objs.size f cd).kindOf (ps.zip us) fun _=>none) s1):
 Inv (Qg CX P w K mg base N qual scope f cd A outer s H E) [] (start N vs) H s1:=by
 have hpl:ps.length≤N.length:=by have:=congrArg List.length S.pre;rw [List.length_take]at this;omega
 obtain ⟨h1,tk,rfl,hk⟩:=x.done;have noA:∀b:Addr,b∉(Qg CX P w K mg base N qual scope f cd A outer s H E).ex:=fun b z=>absurd (show b∈([]:List Addr) from z) (by simp)
 refine ⟨⟨e0.mod,S.kind,rfl,rfl,Nat.le_refl _,fun y z c h1 h2=>?_,fun y hy=>?_,fun y c _ h=>?_,fun _=>hd,Around.frames_deeper e0.frames,.inr ⟨rfl,rfl⟩,fun b z=>absurd z (noA b),e0.bs,e0.bsz,fun b _ _=>noA b,fun b z=>absurd z (noA b),e0.funs,e0.frf⟩,
  rfl,e0.bare,Un.kept hk,⟨_,x.toInCall.ns,fun i y v h1 h2 h3=>?_⟩,fun y c h=>⟨_,x.cell y c h⟩,e0.hok.fresh (Nat.le_refl _),fun y c h=>?_,fun p hp=>absurd (show p∈([]:List (Addr×Obj)) from hp) (by simp),e0.hok.kept hk,?_⟩
 · exact name_of_addr x.apart (PySem.mem_of_lookup h1) (PySem.mem_of_lookup h2)
 · have hy:scope.names.lookup y=some .cell∨scope.names.lookup y=some .free:=hy
   rcases hy with hy | hy
   · exact Qh hy
   · exact absurd rfl (S.nofree _ (PySem.mem_of_lookup hy))
 · exact Nat.le_of_lt (x.above y c (PySem.mem_of_lookup h))
 · have hi:i < vs.length:=by
    unfold start at h2
    by_cases hi:i < vs.length
    · exact hi
    · rw [List.getElem?_append_right (by simpa using hi)]at h2
      rw [List.getElem?_replicate]at h2
      split at h2 <;> cases h2
   have ha:vs[i]?=some v:=by
    unfold start at h2;rw [List.getElem?_append_left (by simpa using hi),List.getElem?_map]at h2
    cases e:vs[i]? with
    | none=>rw [e]at h2;cases h2
    | some a=>rw [e]at h2;cases h2;rfl
   obtain ⟨u,hu,rv⟩:=r.get ha
   have hp:ps[i]?=some y:=by
    rw [← S.pre,List.getElem?_take_of_lt (by omega)];exact h1
   have ndP:ps.Nodup:=by rw [← S.pre];exact S.nd.sublist (List.take_sublist _ _)
   refine ⟨u,rv,?_⟩;rcases S.par y (List.mem_of_getElem? hp) with k | k
   · exact .inl ⟨k,Oa ndP hp hu k⟩
   · obtain ⟨c,e⟩:=Qh (n:=s.heap.objs.size+1) k
     refine .inr ⟨.inl k,c,e,?_⟩;have q:=x.cell y c e;rw [Ob ndP hp hu (by show scope.names.lookup y≠_;rw [k];decide)]at q;exact q
 · exact e0.hok.fresh (Nat.le_of_lt (x.above y c (PySem.mem_of_lookup h)))
 · unfold start
   show _=N.length;rw [List.length_append,List.length_map,List.length_replicate];omega
theorem J5g{CX:CXT}{P:Program}{w:World}{K:PySem.W.Frag}{mg:Str→Option Value}{base:Heap}{k:Nat}{f:Addr}{name qual:Str}{params:Arguments}{body:List Stmt}{scope:Scope}{dV kV doc pm cdv ct oc:Value}{an od:Option Addr}
 {osl:Array (Option Value)} {N ps:List Str} {sp:Sp} (lk:K.lookup f=some ⟨oc,od,.func (PySem.W.fnOf name qual params body scope dV kV doc pm an cdv ct),osl⟩) (hcd:PySem.W.codeIn K cdv qual=true) (S:A9 N ps scope)
 (len:∀vs H Q E,sp vs H Q E→vs.length=ps.length)
 (hbody:∀(A:Around) (outer:List Env) (s:Shared) (H:Hp) (vs:List V) (Q:VK) (E:XK),Br k (A.deeper (envOfC qual scope s.heap.objs.size f cdv))→sp vs H Q E→
  ∃t,PSs (Qg CX P w K mg base N qual scope f cdv A outer s H E) body t∧t {nx:=fun _ H'=>Q .non H',rt:=Q} (start N vs) H):
 Al P w K mg base CX (k+1) f (PySem.W.fnOf name qual params body scope dV kV doc pm an cdv ct) ps sp:=by
 refine ⟨len,fun A outer s H args us vs Q E hr e0 hb r hsp=>?_⟩;have hl:=len _ _ _ _ hsp;have KX:K.In s.heap:=e0.mod.kin.keeps fun b o e=>(e0.bs b o e).1;have lim:s.heap.NoLimit:=e0.mod.nolimit.keeps fun b o e=>(e0.bs b o e).1
 have hkind:∀y∈ps.zip us,scope.names.lookup y.1=some .local∨(scope.names.lookup y.1=some .cell∧((cellsFrom (s.heap.objs.size+1) scope.names []).lookup y.1).isSome=true):=fun ⟨n,v⟩ hy=>by
  rcases S.par n (List.of_mem_zip hy).1 with q | q
  · exact .inl q
  · exact .inr ⟨q,PySem.W.cellsFrom_some _ _ _ (.inl q)⟩
 refine codeAny_call_function hr.depth (KX _ _ lk) rfl S.co S.gen rfl (PySem.W.codeRec_of KX hcd) (hb _ _ _ _ ?_);refine wpAny_newFunctionEnv_cells S.kind hkind fun env he s1 x=>?_;subst he;refine ⟨lim.keeps x.toInCall.keep,codeAny_func ?_⟩;obtain ⟨t,ht,hq⟩:=hbody A outer s H vs Q E (hr.deeper _) hsp;have I:Inv (Qg CX P w K mg base N qual scope f cdv A outer s H E) [] (start N vs) H s1:=X7 S hr.hd e0 hl r x;refine wpAny_mono (ht [] s1 (start N vs) H _ I hq) (fun fl s' hs=>?_) fun e s' hs=>hs
 have fin:∀{σ':St} {H':Hp} {v:V} {u:Value},Inv (Qg CX P w K mg base N qual scope f cdv A outer s H E) [] σ' H' s'→Ao v u→Q v H'→CE outer P w H s Q u s':=
  fun {σ' H' v u} J rv q=>⟨v,H',J.os,J.bare,J.base,J.hok,rv,q⟩
 cases fl with
 | ret u=>
  obtain ⟨v,σ',H',J,rv,q⟩:=hs;exact fin J rv q
 | next=>
  obtain ⟨σ',H',J,q⟩:=hs;exact fin (v:=V.non) (u:=Value.none) J rfl q
 | brk=>
  obtain ⟨_,_,_,q⟩:=hs;exact False.elim q
 | cont=>
  obtain ⟨_,_,_,q⟩:=hs;exact False.elim q
end L2
namespace L2
section
variable {X:Cx} {x:Str} {p pos:Pos} {e:Expr} {es:List Expr} {t:TA} {id T:String} {r:List V→Hp→VK→Prop}
def tCB(r:List V→Hp→VK→Prop)(t:TA):TE:=fun σ H Q=>t σ H fun vs H1=>r vs H1 Q
theorem Af(hc:G5 X (.builtin id) r)(hg:Gl X x)(hm:X.mg x=none)(hv:bootBuiltins x=some (.builtin id))(ha:PA X (e::es) t)(hn:x≠"__name__":=by decide)(hdb:(x==("__debug__":Str))=false:=by decide)
 (he:starEach (e::es) X.env=(false,eval e X.env)::starEach es X.env:=by rfl) (hpl:(backTo pos (starEach es X.env)).any (·.1)=false:=by rfl):PE X (.Call (.Name x p) (e::es) [] pos) (tCB r t):=by
 intro pins s σ H Q I h;refine wpAny_Call_Name_kw (G9 I hg hm hv ?_ hn hdb);exact PyProof.Rows.callWith_builtin1 (thn (ha pos pins s σ H _ I h) fun us s1 ⟨vs,H1,I1,r1,q1⟩=>hc pins s1 σ H1 vs us Q I1 r1 q1) he hpl
theorem Ci(hc:G5 X (.type T) r)(hg:Gl X x)(hm:X.mg x=none)(hv:bootBuiltins x=some (.type T))(ha:PA X (e::es) t)(hn:x≠"__name__":=by decide)(hdb:(x==("__debug__":Str))=false:=by decide)
 (he:starEach (e::es) X.env=(false,eval e X.env)::starEach es X.env:=by rfl) (hpl:(backTo pos (starEach es X.env)).any (·.1)=false:=by rfl):PE X (.Call (.Name x p) (e::es) [] pos) (tCB r t):=by
 intro pins s σ H Q I h;refine wpAny_Call_Name_kw (G9 I hg hm hv ?_ hn hdb);exact PyProof.Rows.callWith_type1 (thn (ha pos pins s σ H _ I h) fun us s1 ⟨vs,H1,I1,r1,q1⟩=>hc pins s1 σ H1 vs us Q I1 r1 q1) he hpl
end
end L2
namespace HT
open PySem PyProof.Rows
def D2:List Int→List Int→Bool
 | [],[]=>false
 | [],_::_=>true
 | _::_,[]=>false
 | x::xs,y::ys=>if x=y then D2 xs ys else decide (x < y)
theorem Tv(x y:Int)(xs ys:List Int):D2 (x::xs) (y::ys)=if x=y then D2 xs ys else decide (x < y):=rfl
theorem Ny:D2 [] []=false:=rfl
theorem N3(y:Int)(ys:List Int):D2 [] (y::ys)=true:=rfl
theorem N7(x:Int)(xs:List Int):D2 (x::xs) []=false:=rfl
theorem Ys(A:Around)(s:Shared)(a:Int)(t:Tok)(c:Int)(u:Tok):∃e,SeqAt.EqAt A s (.int a t) (.int c u) e∧(e=true↔a=c):=
 ⟨(a==c),SeqAt.EqAt.int_int a t c u,by simp⟩
theorem Yt(A:Around)(s:Shared)(a:Int)(t:Tok)(c:Int)(u:Tok)(prog:Program)(w:World)(E:Value→Shared→Prop)(Q:Value→Shared→Prop)(h:Q (.bool (decide (a < c))) s):
 wpAny (model prog w) A (richCompare .Lt (.int a t) (.int c u)) Q E s:=
 (PyProof.Rows.lt_int h:wpAny (model prog w) A (compareOp .Lt (.int a t) (.int c u)) Q E s)
section
open PySem.SeqAt
open PySem.AutoSeq1 (wpAny_loadPart')
open PySem.MeetsSeq PySem.MeetsSeq2 PySem.MeetsSeq3
theorem Nz(l b:Addr)(items items2:Array Value)(n n2:Nat)(dd dd2:Option Addr)(sl sl2:Array (Option Value))(ns ms:List Int)(hi:IntsAre items.toList ns)(hj:IntsAre items2.toList ms):
 Meets (Builtin.«tuple.__lt__» ⟨[.ref l,.ref b],[]⟩)
  (fun _ R s=>s.heap.get? l=some {cls:= .type "tuple",dict:=dd,data:= .seq items n,slots:=sl}∧s.heap.get? b=some {cls:= .type "tuple",dict:=dd2,data:= .seq items2 n2,slots:=sl2}∧
   R (.ok (.ret (.bool (D2 ns ms)))) s):=
 .of_wp fun prog w A R s h=>by
  obtain ⟨hp,g,d,tk,os⟩:=s;obtain ⟨hl,hb,h⟩:=h;have f2:=AutoSeq1.sub_tuple_tuple
  have z1:items.size=ns.length:=by rw [← hi.length];simp
  have z2:items2.size=ms.length:=by rw [← hj.length];simp
  wp_walk using wpAny_loadPart' hl,wpAny_loadPart' hb,wpAny_forIn_list _ (fun rest b s'=>b.1=none∧s'=⟨hp,g,d,tk,os⟩∧∃(vs ws:List Value) (ns' ms':List Int),rest=vs.zip ws∧
   IntsAre vs ns'∧IntsAre ws ms'∧ns'.length+items2.size=ms'.length+items.size∧R (.ok (.ret (.bool (D2 ns' ms')))) ⟨hp,g,d,tk,os⟩) _
  case turn=>
   rintro ⟨y,x⟩ rest b s' ⟨hb',rfl,vs,ws,ns',ms',hz,hvi,hwi,hlen,hR⟩
   cases hvi with
   | nil=>rw [List.zip_nil_left]at hz;cases hz
   | cons a t hvi'=>
    cases hwi with
    | nil=>rw [List.zip_nil_right]at hz;cases hz
    | cons c u hwi'=>
     rw [List.zip_cons_cons]at hz
     injection hz with hyx hrest
     injection hyx with hy hx
     subst hy hx;rw [Tv]at hR;simp only [List.length_cons]at hlen;obtain ⟨e,he,hiff⟩:=Ys A.in1 ⟨hp,g,d,tk,os⟩ a t c u;refine wpAny_bind (he prog w _ _ ?_)
     cases e with
     | true=>
      rw [if_pos (hiff.mp rfl)]at hR
      wp_walk
      exact ⟨rfl,rfl,_,_,_,_,hrest,hvi',hwi',by omega,hR⟩
     | false=>
      rw [if_neg (fun q=>absurd (hiff.mpr q) Bool.false_ne_true)]at hR;have hri:=Yt A.in1 ⟨hp,g,d,tk,os⟩ a t c u prog w
      wp_walk using hri
      exact ⟨_,rfl,by simpa using hR⟩
  case fin=>
   rintro ⟨b1,b2⟩ s' ⟨hb',rfl,vs,ws,ns',ms',hz,hvi,hwi,hlen,hR⟩;simp only at hb';subst hb'
   have hv:D2 ns' ms'=decide (items.size < items2.size):=by
    cases hvi with
    | nil=>
     cases hwi with
     | nil=>
      simp only [List.length_nil]at hlen;rw [Ny];exact (decide_eq_false (by omega)).symm
     | cons c u hw=>
      simp only [List.length_nil,List.length_cons]at hlen;rw [N3];exact (decide_eq_true (by omega)).symm
    | cons a t hv=>
     cases hwi with
     | nil=>
      simp only [List.length_nil,List.length_cons]at hlen;rw [N7];exact (decide_eq_false (by omega)).symm
     | cons c u hw=>
      rw [List.zip_cons_cons]at hz;cases hz
   rw [hv]at hR
   wp_walk
   exact ⟨_,rfl,by simpa [Builtin.Tuple.tupleCompareSizes] using hR⟩
  case h=>
   exact ⟨rfl,rfl,items.toList,items2.toList,ns,ms,rfl,hi,hj,by omega,h⟩
end
section
variable {prog:Program} {w:World} {A:Around} {E:Value→Shared→Prop} {s:Shared}
theorem Tw{l b:Addr}{items items2:Array Value}{ns ms:List Int}{Q:Value→Shared→Prop}(hl:IsTup s.heap l items)(hb:IsTup s.heap b items2)(hi:IntsAre items.toList ns)(hj:IntsAre items2.toList ms)
 (hu:A.units < cLine) (h:Q (.bool (D2 ns ms)) s):wpAny (model prog w) A (compareOp .Lt (.ref l) (.ref b)) Q E s:=by
 obtain ⟨⟨cls,dd,data,sl⟩,ho,hc,n,hd⟩:=id hl;obtain ⟨⟨cls2,dd2,data2,sl2⟩,ho2,hc2,n2,hd2⟩:=id hb;simp only at hc hd hc2 hd2;subst hc hd hc2 hd2
 exact richCompare_meets_room (op:= .Lt) ⟨_,ho,rfl⟩ ⟨_,ho2,rfl⟩ PySem.F.slot_tuple_lt PySem.F.entry_tuple_lt (PySem.F.args_tuple_lt_2 _ _) (Nz l b items items2 n n2 dd dd2 sl sl2 ns ms hi hj)
  ⟨ho,ho2,show Value.bool (D2 ns ms)≠Value.notImplemented∧Q (.bool (D2 ns ms)) s from ⟨(fun x=>nomatch x),h⟩⟩ hu
def sIx(n d:Nat):Option Int→Nat
 | none=>d
 | some v=>if v < 0 then (v+(n:Int)).toNat else min v.toNat n
theorem P7(n d k:Nat):sIx n d (some (k:Int))=min k n:=by
 show (if (k:Int) < 0 then ((k:Int)+(n:Int)).toNat else min (k:Int).toNat n)=min k n;rw [if_neg (by omega),Int.toNat_natCast]
end
end HT
namespace L2
abbrev TO:=St→Hp→(Option Int→Hp→Prop)→Prop
def PO(X:Cx)(e:Option Expr)(t:TO):Prop:=
 ∀(pins:List (Addr×Obj)) (s:Shared) (σ:St) (H:Hp) (Q:Option Int→Hp→Prop),Inv X pins σ H s→t σ H Q→
   wpAny (model X.prog X.w) X.A (evalPart e X.env) (fun u s'=>∃o H',Inv X pins σ H' s'∧IsPart u o∧Q o H') X.xe s
def V1:TO:=fun _ H Q=>Q none H
def J5h(t:TE):TO:=fun σ H Q=>t σ H fun x H1=>∃i,x= .int i∧Q (some i) H1
theorem N8{ns:List Int}:∀{us:List Value},Aw (ns.map V.int) us→IntsAre us ns:=by
 induction ns with
 | nil=>intro us r;rw [List.map_nil]at r;cases r;exact .nil
 | cons n ns ih=>
  intro us r;rw [List.map_cons]at r
  cases r with
  | cons r1 r2=>
   obtain ⟨t,e⟩:=r1;subst e;exact .cons n t (ih r2)
section
variable {X:Cx} {e:Expr} {te:TE} {lo hi:Option Expr} {tl th:TO} {pos p2:Pos}
theorem J3o:PO X none V1:=by
 intro pins s σ H Q I h;rw [evalPart_none];exact wpAny_pure ⟨none,H,I,.none,h⟩
theorem P8(h:PE X e te):PO X (some e) (J5h te):=by
 intro pins s σ H Q I hw;rw [evalPart_some];refine thn (h pins s σ H _ I hw) fun u s1 hq_=>?_;obtain ⟨x,H1,I1,r1,q1⟩:=hq_;obtain ⟨i,rfl,q⟩:=q1;obtain ⟨t,rfl⟩:=r1;exact ⟨some i,H1,I1,.int i t,q⟩
def SlR(X:Cx)(r:V→Option Int→Option Int→Hp→VK→Prop):Prop:=
 ∀(pins:List (Addr×Obj)) (s:Shared) (σ:St) (H:Hp) (x:V) (v vl vu:Value) (lo hi:Option Int) (sl:Addr) (Q:VK),Inv X pins σ H s→Ao x v→s.heap.IsSliceOf sl vl vu .none→IsPart vl lo→IsPart vu hi→r x lo hi H Q→
   ∃T id,typeLookup (.type T) "__getitem__"=pure (some (.builtin id))∧s.TypeIs v T∧wpAny (model X.prog X.w) X.A (getItem v (.ref sl)) (EP X pins σ Q) X.xe s
def tSl(r:V→Option Int→Option Int→Hp→VK→Prop)(te:TE)(tl th:TO):TE:=fun σ H Q=>te σ H fun x H1=>tl σ H1 fun l H2=>th σ H2 fun u H3=>r x l u H3 Q
theorem Qi{r:V→Option Int→Option Int→Hp→VK→Prop}(hr:SlR X r)(he:PE X e te)(hl:PO X lo tl)(hu:PO X hi th):PE X (.Subscript e (.Slice lo hi none p2) pos) (tSl r te tl th):=by
 intro pins s σ H Q I h;refine Subscript_ (thn (he pins s σ H _ I h) fun v s1 hq_=>?_);obtain ⟨x,H1,I1,r1,q1⟩:=hq_;refine wpAny_Slice (thn (hl pins s1 σ H1 _ I1 q1) fun vl s2 ⟨l,H2,I2,pl,q2⟩=>thn (hu pins s2 σ H2 _ I2 q2) fun vu s3 hq_=>?_);obtain ⟨u,H3,I3,pu,q3⟩:=hq_;rw [evalPart_none];refine wpAny_pure ?_;have I4:Inv X pins σ H3 {s3 with heap:=s3.heap.push {cls:= .type "slice",data:= .fields #[vl,vu,.none]}}:=I3.kept (t':=s3.toks) fun b ob q=>Heap.get?_push_of_some _ q;obtain ⟨T,id,hT,ht,hg⟩:=hr pins {s3 with heap:=s3.heap.push {cls:= .type "slice",data:= .fields #[vl,vu,.none]}} σ H3 x v vl vu l u s3.heap.objs.size Q I4 r1 (Heap.IsSliceOf.new ..) pl pu q3;show wpAny (model X.prog X.w) X.A (subscriptTail e (.Slice lo hi none p2) v (.ref s3.heap.objs.size)) (EP X pins σ Q) X.xe {s3 with heap:=s3.heap.push {cls:= .type "slice",data:= .fields #[vl,vu,.none]}};exact tail_any (ops:=[.ref s3.heap.objs.size,v]) ht hT hg (by with_unfolding_all rfl)
def O0(xs:List V)(lo hi:Option Int):List V:=(xs.drop (HT.sIx xs.length 0 lo)).take (HT.sIx xs.length xs.length hi - HT.sIx xs.length 0 lo)
theorem Qj(xs:List V)(lo hi:Option Int):(O0 xs lo hi).length≤xs.length:=by
 unfold O0;rw [List.length_take,List.length_drop];omega
end
end L2
namespace L2
def ixN(n:Nat)(i:Int):Option Nat:=if 0≤i then (if i < n then some i.toNat else none) else if -(n:Int)≤i then some (i+n).toNat else none
def atI{α:Type}(xs:List α)(i:Int):Option α:=(ixN xs.length i).bind fun j=>xs[j]?
theorem V2{n:Nat}{i:Int}{j:Nat}(h:ixN n i=some j):seqIndex? i n=some j∧j < n∧-(n:Int)≤i∧i < n:=by
 unfold ixN at h
 by_cases h0:0≤i
 · rw [if_pos h0]at h
   by_cases h1:i < n
   · rw [if_pos h1]at h
     have e:i.toNat=j:=Option.some.inj h;exact ⟨by rw [seqIndex_of h0 h1,e],by omega,by omega,h1⟩
   · rw [if_neg h1]at h;cases h
 · rw [if_neg h0]at h
   by_cases h1:-(n:Int)≤i
   · rw [if_pos h1]at h
     have e:(i+n).toNat=j:=Option.some.inj h;exact ⟨by rw [seqIndex_neg (by omega) h1,e],by omega,h1,by omega⟩
   · rw [if_neg h1]at h;cases h
theorem P9{α:Type}{xs:List α}{i:Int}{v:α}(h:atI xs i=some v):∃j,seqIndex? i xs.length=some j∧xs[j]?=some v∧j < xs.length∧-(xs.length:Int)≤i∧i < xs.length:=by
 unfold atI at h
 cases e:ixN xs.length i with
 | none=>rw [e]at h;cases h
 | some j=>
  rw [e]at h;obtain ⟨h1,h2,h3,h4⟩:=V2 e;exact ⟨j,h1,h,h2,h3,h4⟩
theorem Aq{α:Type}{xs:List α}{j:Nat}{v:α}(h:xs[j]?=some v):atI xs (j:Int)=some v:=by
 have hj:j < xs.length:=(List.getElem?_eq_some_iff.mp h).1
 have e:ixN xs.length (j:Int)=some j:=by
  unfold ixN;rw [if_pos (by omega),if_pos (by omega)];simp
 unfold atI;rw [e];exact h
def J3p(b:Expr):Prop:=∀o i,subscripted b false o i=operate [o,i] (getItem o i)
def IxR(X:Cx)(r:R2):Prop:=
 ∀(value slice:Expr) (pins:List (Addr×Obj)) (s:Shared) (σ:St) (H:Hp) (x y:V) (v u:Value) (Q:VK),Inv X pins σ H s→Ao x v→Ao y u→r x y H Q→
   subscripted slice false v u=operate [v,u] (getItem v u)→wpAny (model X.prog X.w) X.A (subscriptTail value slice v u) (EP X pins σ Q) X.xe s
def MtR(X:Cx)(id:String)(r:V→List V→Hp→VK→Prop):Prop:=
 ∀(pins:List (Addr×Obj)) (s:Shared) (σ:St) (H:Hp) (x:V) (xs:List V) (v:Value) (us:List Value) (Q:VK),Inv X pins σ H s→Ao x v→Aw xs us→r x xs H Q→
   wpAny (model X.prog X.w) X.A (call (.builtin id) (v::us)) (EP X pins σ Q) X.xe s
section
variable {X:Cx} {a b:Expr} {ta tb:TE} {pos:Pos}
theorem B1{r:R2}(hr:IxR X r)(ha:PE X a ta)(hb:PE X b tb)(hs:J3p b):PE X (.Subscript a b pos) (tOp r ta tb):=by
 intro pins s σ H Q I h;exact Subscript_ (J6m ha hb I h fun v u s2 x y H2 I2 rx ry q=>hr a b pins s2 σ H2 x y v u Q I2 rx ry q (hs _ _))
def J8c(K:PySem.W.Frag):R2:=fun x y H Q=>∃p xs i v,x= .ref p∧y= .int i∧SqL K H p xs∧atI xs i=some v∧Q v H
def J8d(K:PySem.W.Frag):R2:=fun x y H Q=>∃p xs i v,x= .ref p∧y= .int i∧SqT K H p xs∧atI xs i=some v∧Q v H
def J8e:R2:=fun x y H Q=>∃z i c,x= .str z∧y= .int i∧z.length≤sizeLine∧atI z.cps.toList i=some c∧Q (.str ⟨#[c]⟩) H
theorem Cc:IxR X (J8c X.K):=by
 intro value slice pins s σ H x y v u Q I rx ry h hs;obtain ⟨p,xs,i,z,rfl,rfl,hq,he,q⟩:=h;cases rx;obtain ⟨t,rfl⟩:=ry;obtain ⟨its,r,pl,hz⟩:=I.list hq;obtain ⟨j,h1,h2,h3,h4,h5⟩:=P9 he;obtain ⟨w,ew,rw'⟩:=r.get h2;have hl:=r.length;have hn:=Lb
 have fin:EP X pins σ Q w s:=⟨z,H,I,rw',q⟩
 by_cases h0:0≤i
 · have hj:i.toNat=j:=by
    rw [seqIndex_of h0 h5]at h1;exact Option.some.inj h1
   exact item_listR pl.isList h0 (by omega) (by rw [hj];simpa using ew) fin hs
 · have hj:(i+(its.toArray.size:Int)).toNat=j:=by
    rw [seqIndex_neg (by omega) h4]at h1;rw [List.size_toArray,← hl];exact Option.some.inj h1
   exact subscriptTail_builtinR (x:=w) pl.isList.typeIs slot_list_getitem.lookup
    (wpAny_getItem_list_neg (Q:=fun r s'=>r=w∧EP X pins σ Q r s') pl.isList (by omega) (by rw [List.size_toArray] <;> omega) (by omega) (by rw [hj];simpa using ew) ⟨rfl,fin⟩) hs
theorem Ba:IxR X (J8d X.K):=by
 intro value slice pins s σ H x y v u Q I rx ry h hs;obtain ⟨p,xs,i,z,rfl,rfl,hq,he,q⟩:=h;cases rx;obtain ⟨t,rfl⟩:=ry;obtain ⟨its,r,pl,hz⟩:=I.tuple hq;obtain ⟨j,h1,h2,h3,h4,h5⟩:=P9 he;obtain ⟨w,ew,rw'⟩:=r.get h2;have hl:=r.length;have hn:=Lb
 have fin:EP X pins σ Q w s:=⟨z,H,I,rw',q⟩
 exact subscriptTail_builtinR (x:=w) pl.typeIs slot_tuple_getitem.lookup
  (getItem_tuple (j:=j) (Q:=fun r s'=>r=w∧EP X pins σ Q r s') pl (by omega) (by omega) (by rw [List.size_toArray,← hl];exact h1) (by simpa using ew) ⟨rfl,fin⟩) hs
theorem Pa:IxR X J8e:=by
 intro value slice pins s σ H x y v u Q I rx ry h hs;obtain ⟨z,i,c,rfl,rfl,hz,he,q⟩:=h;obtain ⟨t,rfl⟩:=rx;obtain ⟨t',rfl⟩:=ry;obtain ⟨j,h1,h2,h3,h4,h5⟩:=P9 he
 have hl:z.cps.toList.length=z.length:=by simp [Str.length]
 rw [hl]at h1 h4 h5;have hn:=Lb
 exact tail_any (typeIs_str s z t) slot_str_getitem.lookup (getItem_str (c:=c) (by
  have e1:decide (i < -(2 ^ 63:Int))=false:=decide_eq_false (by omega);have e2:decide (i ≥ 2 ^ 63)=false:=decide_eq_false (by omega)
  rw [e1,e2,Bool.or_false]) (by rw [h1];simpa using h2) ⟨.str ⟨#[c]⟩,H,I.tok _,⟨_,rfl⟩,q⟩) hs
theorem Tx(its:List Value)(n j:Nat)(u:Value):Obj.mapSeq (·.setIfInBounds j u) {cls:= .type "list",data:= .seq its.toArray n}={cls:= .type "list",data:= .seq (its.set j u).toArray n}:=by
 simp [Obj.mapSeq]
theorem Inv.lst{pins:List (Addr×Obj)}{σ:St}{H:Hp}{s:Shared}{p:Addr}{xs:List V}(I:Inv X pins σ H s)(h:H p=some (.lst xs)):
 ∃(its:List Value) (n:Nat),Aw xs its∧s.heap.get? p=some {cls:= .type "list",data:= .seq its.toArray n}∧xs.length≤sizeLine:=by
 obtain ⟨z,its,n,r,e⟩:=I.hok p _ h;exact ⟨its,n,r,e,z⟩
theorem Inv.lstUpd{pins:List (Addr×Obj)}{σ:St}{H:Hp}{s:Shared}{p:Addr}{xs ys:List V}{its its':List Value}{n n':Nat}{f:Obj→Obj}(I:Inv X pins σ H s)(h:H p=some (.lst xs))
 (ho:s.heap.get? p=some {cls:= .type "list",data:= .seq its.toArray n}) (hf:f {cls:= .type "list",data:= .seq its.toArray n}={cls:= .type "list",data:= .seq its'.toArray n'}) (r:Aw ys its') (hz:ys.length≤sizeLine) (t:Nat):
 Inv X pins σ (upd H p (.lst ys)) {s with heap:=s.heap.update p f,toks:=t}:=by
 have e:(s.heap.update p f).get? p=some {cls:= .type "list",data:= .seq its'.toArray n'}:=by
  rw [Heap.get?_update_self f ho (by rw [hf] <;> rfl),hf]
 refine I.write (x:=p) (e:=p) (by rw [h];trivial) (.inl rfl) (fun b u hb q=>(Heap.get?_update_other _ _ (Ne.symm hb)).trans q) ⟨_,e⟩ ?_;exact ⟨hz,its',n',r,e⟩
def J5i:V→V→V→Hp→(Hp→Prop)→Prop:=fun o i v H Q=>∃p xs k j,o= .ref p∧i= .int k∧H p=some (.lst xs)∧ixN xs.length k=some j∧Q (upd H p (.lst (xs.set j v)))
theorem N9:J7y X J5i:=by
 intro pins s σ H o i v ov iv u Q I ro ri rv h;obtain ⟨p,xs,k,j,rfl,rfl,hp,hj,q⟩:=h;cases ro;obtain ⟨t,rfl⟩:=ri;obtain ⟨its,n,r,ho,hz⟩:=I.lst hp;obtain ⟨h1,h2,h3,h4⟩:=V2 hj;have hl:=r.length;have hn:=Lb
 have I':Inv X pins σ (upd H p (.lst (xs.set j v))) {s with heap:=s.heap.update p (Obj.mapSeq (·.setIfInBounds j u))}:=
  I.lstUpd hp ho (Tx its n j u) (r.set rv j) (by rw [List.length_set];exact hz) s.toks
 by_cases h0:0≤k
 · have hk:k.toNat=j:=by
    rw [seqIndex_of h0 h4]at h1;exact Option.some.inj h1
   exact PySem.W.ki_setAt ho h0 (by omega) (by rw [List.size_toArray,← hl];exact h4) (by rw [hk];exact ⟨_,I',q⟩)
 · have hk:(k+(its.toArray.size:Int)).toNat=j:=by
    rw [seqIndex_neg (by omega) h3]at h1;rw [List.size_toArray,← hl];exact Option.some.inj h1
   exact PySem.W.ki_setBack ho (by omega) (by rw [List.size_toArray,← hl];exact h3) (by omega) (by rw [hk];exact ⟨_,I',q⟩)
theorem Pb(lo hi:Option Int)(n:Nat):(sliceBounds lo hi none n).1=((HT.sIx n 0 lo:Nat):Int)∧(sliceBounds lo hi none n).2.1=((HT.sIx n n hi:Nat):Int)∧(sliceBounds lo hi none n).2.2=1:=by
 refine ⟨?_,?_,rfl⟩
 · cases lo with
   | none=>simp [sliceBounds,HT.sIx]
   | some i=>
    simp only [sliceBounds,HT.sIx,Option.getD_none,show (1:Int) > 0 by decide,if_true]
    by_cases h:i < 0
    · simp only [h,if_true] <;> omega
    · simp only [h,if_false] <;> omega
 · cases hi with
   | none=>simp [sliceBounds,HT.sIx]
   | some i=>
    simp only [sliceBounds,HT.sIx,Option.getD_none,show (1:Int) > 0 by decide,if_true]
    by_cases h:i < 0
    · simp only [h,if_true] <;> omega
    · simp only [h,if_false] <;> omega
theorem O1(its:List Value)(lo hi:Option Int):slicePick its.toArray lo hi none=((its.drop (HT.sIx its.length 0 lo)).take (HT.sIx its.length its.length hi - HT.sIx its.length 0 lo)).toArray:=by
 obtain ⟨h1,h2,h3⟩:=Pb lo hi its.toArray.size;unfold slicePick;rw [h1,h2,h3]
 simp only [sliceRange_one,pick_run,List.size_toArray] <;> rfl
def J8f(K:PySem.W.Frag):V→Option Int→Option Int→Hp→VK→Prop:=fun x lo hi H Q=>∃a xs,x= .ref a∧SqL K H a xs∧∀p,H p=none→Q (.ref p) (upd H p (.lst (O0 xs lo hi)))
theorem V3:SlR X (J8f X.K):=by
 intro pins s σ H x v vl vu lo hi sl Q I rx hs pl pu h;obtain ⟨a,xs,rfl,hx,q⟩:=h;cases rx;obtain ⟨its,r,ht,hz⟩:=I.list hx;have hlen:=r.length;refine ⟨"list",_,slot_list_getitem.lookup,ht.isList.typeIs,?_⟩
 refine wpAny_getItem_list_slice ht.isList hs pl pu .none (by simp) ?_ (by rw [List.size_toArray] <;> omega)
 rw [O1,← hlen];refine ⟨.ref s.heap.objs.size,_,I.laid (t':=s.toks) (o:= .lst (O0 xs lo hi)) (fun b ob q=>Heap.get?_push_of_some _ q) (Nat.le_refl _) ?_,rfl,q _ (I.hok.fresh (Nat.le_refl _))⟩;exact ⟨Nat.le_trans (Qj xs lo hi) hz,_,0,(r.drop (HT.sIx xs.length 0 lo)).take (HT.sIx xs.length xs.length hi - HT.sIx xs.length 0 lo),Heap.get?_push_size _ rfl⟩
def Gd:V→Bool
 | .non=>true
 | .bl _=>true
 | .int _=>true
 | .str _=>true
 | _=>false
def eqV:V→V→Bool
 | .non,.non=>true
 | .bl a,.bl b=>a==b
 | .bl a,.int b=>(if a then 1 else 0)==b
 | .int a,.bl b=>a==(if b then 1 else 0)
 | .int a,.int b=>a==b
 | .str a,.str b=>a==b
 | _,_=>false
theorem J6r{A:Around}{s:Shared}{y x:V}{u v:Value}(ry:Ao y u)(rx:Ao x v)(fy:Gd y=true)(fx:Gd x=true):SeqAt.EqAt A s u v (eqV y x):=by
 cases y with
 | non=>
  cases ry
  cases x with
  | non=>cases rx;exact SeqAt.EqAt.same _
  | bl b=>cases rx;exact SeqAt.EqAt.none_bool b
  | int b=>obtain ⟨t,rfl⟩:=rx;exact SeqAt.EqAt.none_int b t
  | str b=>obtain ⟨t,rfl⟩:=rx;exact SeqAt.EqAt.none_str b t
  | _=>exact absurd (show false=true from fx) Bool.false_ne_true
 | bl a=>
  cases ry
  cases x with
  | non=>cases rx;exact SeqAt.EqAt.bool_none a
  | bl b=>cases rx;exact SeqAt.EqAt.bool_bool a b
  | int b=>obtain ⟨t,rfl⟩:=rx;exact SeqAt.EqAt.bool_int a b t
  | str b=>obtain ⟨t,rfl⟩:=rx;exact SeqAt.EqAt.bool_str a b t
  | _=>exact absurd (show false=true from fx) Bool.false_ne_true
 | int a=>
  obtain ⟨t',rfl⟩:=ry
  cases x with
  | non=>cases rx;exact SeqAt.EqAt.int_none a t'
  | bl b=>cases rx;exact SeqAt.EqAt.int_bool a t' b
  | int b=>obtain ⟨t,rfl⟩:=rx;exact SeqAt.EqAt.int_int a t' b t
  | str b=>obtain ⟨t,rfl⟩:=rx;exact SeqAt.EqAt.int_str a t' b t
  | _=>exact absurd (show false=true from fx) Bool.false_ne_true
 | str a=>
  obtain ⟨t',rfl⟩:=ry
  cases x with
  | non=>cases rx;exact SeqAt.EqAt.str_none a t'
  | bl b=>cases rx;exact SeqAt.EqAt.str_bool a t' b
  | int b=>obtain ⟨t,rfl⟩:=rx;exact SeqAt.EqAt.str_int a t' b t
  | str b=>obtain ⟨t,rfl⟩:=rx;exact SeqAt.EqAt.str_str a t' b t
  | _=>exact absurd (show false=true from fx) Bool.false_ne_true
 | _=>exact absurd (show false=true from fy) Bool.false_ne_true
def eqU(x:V)(u:Value):Bool:=match u with
 | .none=>eqV .non x
 | .bool b=>eqV (.bl b) x
 | .int i _=>eqV (.int i) x
 | .str z _=>eqV (.str z) x
 | _=>false
theorem Yu{x y:V}{u:Value}(r:Ao y u)(f:Gd y=true):eqU x u=eqV y x:=by
 cases y with
 | non=>cases r;rfl
 | bl b=>cases r;rfl
 | int i=>obtain ⟨t,rfl⟩:=r;rfl
 | str z=>obtain ⟨t,rfl⟩:=r;rfl
 | _=>exact absurd (show false=true from f) Bool.false_ne_true
theorem Kf{x:V}:∀{xs:List V} {us:List Value},Aw xs us→xs.all Gd=true→us.any (eqU x)=xs.any fun y=>eqV y x
 | _,_,.nil,_=>rfl
 | y::xs,u::us,.cons r t,f=>by
  rw [List.all_cons,Bool.and_eq_true]at f;rw [List.any_cons,List.any_cons,Yu r f.1,Kf t f.2]
theorem Ge{A:Around}{s:Shared}{x:V}{v:Value}(rx:Ao x v)(fx:Gd x=true):∀{xs:List V} {us:List Value},Aw xs us→xs.all Gd=true→∀u∈us,SeqAt.EqAt A s u v (eqU x u)
 | _,_,.nil,_=>fun u hu=>by cases hu
 | y::xs,u::us,.cons r t,f=>fun u' hu=>by
  rw [List.all_cons,Bool.and_eq_true]at f;rcases List.mem_cons.mp hu with rfl | hu
  · rw [Yu r f.1];exact J6r r rx f.1 fx
  · exact Ge rx fx t f.2 u' hu
def inV(x:V)(xs:List V):Bool:=xs.any fun y=>eqV y x
def rIn(K:PySem.W.Frag)(neg:Bool):R2:=fun x y H Q=>∃p xs,y= .ref p∧(SqL K H p xs∨SqT K H p xs)∧Gd x=true∧xs.all Gd=true∧Q (.bl (if neg then !inV x xs else inV x xs)) H
theorem X8:OpR X (compareOp .In) (rIn X.K false):=by
 intro pins s σ H x y v u Q I rx ry h;obtain ⟨p,xs,rfl,hq,fx,fs,q⟩:=h;cases ry;rcases hq with hq | hq
 · obtain ⟨its,r,pl,hz⟩:=I.list hq
   refine SeqAt.in_listAt (eqU x) pl.isList (fun w hw=>Ge rx fx r fs w (by simpa using hw)) ⟨.bl _,H,I,rfl,?_⟩;rw [show its.toArray.any (eqU x)=its.any (eqU x) by simp,Kf r fs];exact q
 · obtain ⟨its,r,pl,hz⟩:=I.tuple hq
   refine SeqAt.in_tupleAt (eqU x) pl (fun w hw=>Ge rx fx r fs w (by simpa using hw)) ⟨.bl _,H,I,rfl,?_⟩;rw [show its.toArray.any (eqU x)=its.any (eqU x) by simp,Kf r fs];exact q
theorem Pc:OpR X (compareOp .NotIn) (rIn X.K true):=by
 intro pins s σ H x y v u Q I rx ry h;obtain ⟨p,xs,rfl,hq,fx,fs,q⟩:=h;cases ry;rcases hq with hq | hq
 · obtain ⟨its,r,pl,hz⟩:=I.list hq
   refine SeqAt.notIn_listAt (eqU x) pl.isList (fun w hw=>Ge rx fx r fs w (by simpa using hw)) ⟨.bl _,H,I,rfl,?_⟩;rw [show its.toArray.any (eqU x)=its.any (eqU x) by simp,Kf r fs];exact q
 · obtain ⟨its,r,pl,hz⟩:=I.tuple hq
   refine SeqAt.notIn_tupleAt (eqU x) pl (fun w hw=>Ge rx fx r fs w (by simpa using hw)) ⟨.bl _,H,I,rfl,?_⟩;rw [show its.toArray.any (eqU x)=its.any (eqU x) by simp,Kf r fs];exact q
theorem Au:G5 X (.builtin "len") (fun xs H Q=>∃p ys,xs=[.ref p]∧(SqL X.K H p ys∨SqT X.K H p ys)∧Q (.int ys.length) H):=by
 intro pins s σ H xs us Q I r h;obtain ⟨p,ys,rfl,hq,q⟩:=h;obtain ⟨u,rfl,rx⟩:=Gc r;cases rx;have hn:=Lb;rcases hq with hq | hq
 · obtain ⟨its,r',pl,hz⟩:=I.list hq
   have hlen:=r'.length
   exact Calls.call_len_list pl.isList (by simp only [List.size_toArray] <;> omega) ⟨.int ys.length,H,I.tok _,⟨s.toks+1,by rw [List.size_toArray,hlen]⟩,q⟩
 · obtain ⟨its,r',pl,hz⟩:=I.tuple hq
   have hlen:=r'.length
   exact len_tuple pl (by simp only [List.size_toArray] <;> omega) ⟨.int ys.length,H,I.tok _,⟨s.toks+1,by rw [List.size_toArray,hlen]⟩,q⟩
theorem Kg:G5 X (.builtin "len") (fun xs H Q=>∃z,xs=[.str z]∧z.length≤sizeLine∧Q (.int z.length) H):=by
 intro pins s σ H xs us Q I r h;obtain ⟨z,rfl,hz,q⟩:=h;obtain ⟨u,rfl,t,rfl⟩:=Gc r;have hn:=Lb;exact len_str (by omega) ⟨.int z.length,H,I.tok _,⟨_,rfl⟩,q⟩
theorem De:G5 X (.type "list") (fun xs H Q=>∃p ys,xs=[.ref p]∧(SqL X.K H p ys∨SqT X.K H p ys)∧∀l,H l=none→Q (.ref l) (upd H l (.lst ys))):=by
 intro pins s σ H xs us Q I r h;obtain ⟨p,ys,rfl,hq,q⟩:=h;obtain ⟨u,rfl,rx⟩:=Gc r;cases rx
 have fin:∀(its:List Value),Aw ys its→ys.length≤sizeLine→∀(h':Heap) (c':Nat),(∀b o',s.heap.get? b=some o'→h'.get? b=some o')→
  h'.get? s.heap.objs.size=some {cls:= .type "list",dict:=none,data:= .seq its.toArray c',slots:=#[]}→EP X pins σ Q (.ref s.heap.objs.size) {s with heap:=h'}:=fun its r' hz h' c' kp e=>
  ⟨.ref s.heap.objs.size,_,I.laid (t':=s.toks) kp (Nat.le_refl _) (show Bg X.prog X.w _ h' _ (.lst ys) from ⟨hz,its,c',r',e⟩),rfl,q _ (I.hok.fresh (Nat.le_refl _))⟩
 rcases hq with hq | hq
 · obtain ⟨its,r',pl,hz⟩:=I.list hq
   have hlen:=r'.length;obtain ⟨o,ho,hc,n,hd⟩:=pl.isList
   exact call_list_seq p (.inl rfl) ho hc hd (fun h' c' kp e=>fin its r' hz h' c' kp e) (by simp only [List.size_toArray] <;> omega)
 · obtain ⟨its,r',pl,hz⟩:=I.tuple hq
   have hlen:=r'.length;obtain ⟨o,ho,hc,n,hd⟩:=pl
   exact call_list_seq p (.inr rfl) ho hc hd (fun h' c' kp e=>fin its r' hz h' c' kp e) (by simp only [List.size_toArray] <;> omega)
def tyV(K:PySem.W.Frag)(T:String)(x:V)(H:Hp):Prop:=match x with
 | .str _=>T="str"
 | .int _=>T="int"
 | .ref p=>(T="list"∧∃xs,SqL K H p xs)∨(T="tuple"∧∃o,K.lookup p=some o∧o.cls= .type "tuple"∧o.dict=none)∨
  (T="dict"∧((∃kvs,H p=some (.dK kvs))∨∃kvs,H p=some (.dT kvs)))∨(T="set"∧∃S n,H p=some (.set S n))
 | _=>False
theorem Yv{pins:List (Addr×Obj)}{σ:St}{H:Hp}{s:Shared}{T:String}{x:V}{v:Value}(I:Inv X pins σ H s)(r:Ao x v)(ty:tyV X.K T x H):
 s.TypeIs v T∧∀a,v= .ref a→∃ob,s.heap.get? a=some ob∧ob.dict=none:=by
 cases x with
 | str z=>
  obtain ⟨t,rfl⟩:=r;cases (show T="str" from ty);exact ⟨typeIs_str s z t,fun _ e=>nomatch e⟩
 | int i=>
  obtain ⟨t,rfl⟩:=r;cases (show T="int" from ty);exact ⟨typeIs_int s i t,fun _ e=>nomatch e⟩
 | ref p=>
  cases r;rcases ty with ⟨rfl,xs,hq⟩ | ⟨rfl,o,hk,hc,hd⟩ | ⟨rfl,hk⟩ | ⟨rfl,S,n,hk⟩
  · obtain ⟨its,_,pl,_⟩:=I.list hq
    refine ⟨pl.isList.typeIs,fun a e=>?_⟩;cases e;obtain ⟨o,n,e,c,hd,_⟩:=pl;exact ⟨o,e,hd⟩
  · refine ⟨⟨o,I.kIn p o hk,hc⟩,fun a e=>?_⟩
    cases e;exact ⟨o,I.kIn _ o hk,hd⟩
  · have z:∃o,s.heap.get? p=some o∧o.ExactDict:=by
     rcases hk with ⟨kvs,hk⟩ | ⟨kvs,hk⟩
     · obtain ⟨_,_,_,_,o,_,_,e,ex,_⟩:=I.hok p _ hk
       exact ⟨o,e,ex⟩
     · obtain ⟨_,_,_,_,o,_,_,e,ex,_⟩:=I.hok p _ hk
       exact ⟨o,e,ex⟩
    obtain ⟨o,e,ex⟩:=z;refine ⟨⟨o,e,ex.1⟩,fun a e2=>?_⟩;cases e2;exact ⟨o,e,ex.2.1⟩
  · obtain ⟨o,_,_,_,e,ex,_⟩:=I.hok p _ hk
    refine ⟨⟨o,e,ex.1⟩,fun a e2=>?_⟩;cases e2;exact ⟨o,e,ex.2.1⟩
 | _=>exact False.elim ty
def J8g(K:PySem.W.Frag)(T:String)(r:V→List V→Hp→VK→Prop)(to:TE):TE:=fun σ H Q=>to σ H fun x H1=>tyV K T x H1∧r x [] H1 Q
def tBM(K:PySem.W.Frag)(T:String)(r:V→List V→Hp→VK→Prop)(to:TE)(t:TA):TE:=fun σ H Q=>to σ H fun x H1=>tyV K T x H1∧t σ H1 fun xs H2=>r x xs H2 Q
variable {o e:Expr} {es:List Expr} {to:TE} {t:TA} {name:Str} {apos cpos:Pos} {T id:String} {r:V→List V→Hp→VK→Prop}
theorem J6s(pa:PlainAttrs T)(slot:Slot T name id)(hty:typeOf (.builtin id)=pure (.type "method_descriptor"))(hm:MtR X id r)(ho:PE X o to)
 (hbase:attributeBase o name X.env (eval o X.env)=eval o X.env:=by rfl) (hline:(apos.endLine==cpos.line)=true:=by rfl):PE X (.Call (.Attribute o name apos) [] [] cpos) (J8g X.K T r to):=by
 intro pins s σ H Q I h;refine wpAny_Call_method0_late hbase hline (thn (ho pins s σ H _ I h) fun v s1 hq_=>?_);obtain ⟨x,H1,I1,r1,ty,q1⟩:=hq_;obtain ⟨h1,h2⟩:=Yv I1 r1 ty;exact ⟨T,id,pa,slot,hty,h1,h2,Calls.callWith_builtin rfl (PySem.evalArgs_none (hm pins s1 σ H1 x [] v [] Q I1 r1 .nil q1))⟩
theorem Kh(pa:PlainAttrs T)(slot:Slot T name id)(hty:typeOf (.builtin id)=pure (.type "method_descriptor"))(hm:MtR X id r)(ho:PE X o to)(ha:PA X (e::es) t)
 (hbase:attributeBase o name X.env (eval o X.env)=eval o X.env:=by rfl)
 (hfew:((backTo cpos (starEach (e::es) X.env)).all (fun x=>!x.1) && (backToKw cpos (keywordEach [] X.env)).all (fun x=>x.1.isSome)
  && decide ((e::es).length+([]:List Keyword).length+(if ([]:List Keyword).isEmpty then 0 else 1) < 30))=true:=by rfl)
 (hline:(apos.endLine==cpos.line)=true:=by rfl) (hs:starEach (e::es) X.env=(false,eval e X.env)::starEach es X.env:=by rfl) (hplain:(backTo cpos (starEach es X.env)).any (·.1)=false:=by rfl):
 PE X (.Call (.Attribute o name apos) (e::es) [] cpos) (tBM X.K T r to t):=by
 intro pins s σ H Q I h;refine wpAny_Call_method_late hbase hfew hline rfl (thn (ho pins s σ H _ I h) fun v s1 hq_=>?_);obtain ⟨x,H1,I1,r1,ty,q1⟩:=hq_;obtain ⟨h1,h2⟩:=Yv I1 r1 ty;refine ⟨T,id,pa,slot,hty,h1,h2,?_⟩;have hA:=ha cpos pins s1 σ H1 _ I1 q1;rw [hs]at hA ⊢
 refine Calls.callWith_builtin (by show (false || (backTo cpos (starEach es X.env)).any (·.1))=false;rw [hplain] <;> rfl) (Calls.evalArgs_plain ?_)
 exact thn hA fun us s2 ⟨vs,H2,I2,r2,q2⟩=>hm pins s2 σ H2 x vs v us Q I2 r1 r2 q2
end
end L2
namespace L2
def MtM(X:Cx)(id:String)(r:V→List V→Hp→VK→Prop):Prop:=
 ∀(pins:List (Addr×Obj)) (s:Shared) (σ:St) (H:Hp) (x:V) (xs:List V) (v:Value) (us:List Value) (Q:VK),Inv X pins σ H s→Ao x v→Aw xs us→r x xs H Q→
   wpAny (model X.prog X.w) X.A (call (.builtin id) (v::us)) (EP X pins σ Q) X.xe s
theorem Aw.one:∀{x:V} {us:List Value},Aw [x] us→∃u,us=[u]∧Ao x u
 | _,_,.cons r .nil=>⟨_,rfl,r⟩
theorem Aw.zero:∀{us:List Value},Aw [] us→us=[]
 | _,.nil=>rfl
theorem Aw.eraseIdx:∀{xs:List V} {us:List Value} (i:Nat),Aw xs us→Aw (xs.eraseIdx i) (us.eraseIdx i)
 | _,_,_,.nil=> .nil
 | _,_,0,.cons _ t=>t
 | _,_,i+1,.cons r t=> .cons r (Aw.eraseIdx i t)
section
variable {X:Cx} {pins:List (Addr×Obj)} {σ:St} {H:Hp} {s:Shared} {l b:Addr} {xs ys zs:List V}
theorem Inv.lset{its its':List Value}{n:Nat}{f:Array Value→Array Value}{t':Nat}(I:Inv X pins σ H s)(hH:H l=some (.lst xs))
 (e:s.heap.get? l=some {cls:= .type "list",data:= .seq its.toArray n}) (hf:f its.toArray=its'.toArray) (hv:Aw ys its') (hz:ys.length≤sizeLine):
 Inv X pins σ (upd H l (.lst ys)) {s with heap:=s.heap.update l (Obj.mapSeq f),toks:=t'}:=by
 have q:=PySem.IsL.update e f;rw [hf]at q;refine I.write (x:=l) (e:=l) (by rw [hH];exact trivial) (.inl rfl) (fun b' u hb hu=>(Heap.get?_update_other s.heap (Obj.mapSeq f) (Ne.symm hb)).trans hu) ⟨_,q⟩ ?_;exact ⟨hz,its',_,hv,q⟩
theorem Inv.fresh(I:Inv X pins σ H s):H s.heap.objs.size=none:=I.hok.fresh (Nat.le_refl _)
theorem Inv.lstM(I:Inv X pins σ H s)(hH:H l=some (.lst xs)):xs.length≤sizeLine∧∃(its:List Value) (n:Nat),Aw xs its∧xs.length=its.length∧s.heap.get? l=some {cls:= .type "list",data:= .seq its.toArray n}:=by
 obtain ⟨z,its,n,r,e⟩:=I.hok l _ hH;exact ⟨z,its,n,r,r.length,e⟩
theorem Yw{n:Nat}(h:n≤sizeLine):Builtin.List.listTooLong n=false:=by
 unfold Builtin.List.listTooLong;exact decide_eq_false (by omega)
end
section
variable {X:Cx}
def J3q:V→List V→Hp→VK→Prop:=fun x vs H Q=>∃l xs y,x= .ref l∧vs=[y]∧H l=some (.lst xs)∧xs.length < sizeLine∧Q .non (upd H l (.lst (xs++[y])))
theorem C4:MtM X "list.append" J3q:=by
 intro pins s σ H x vs v us Q I rx rv h;obtain ⟨l,xs,y,rfl,rfl,hH,hz,q⟩:=h;cases rx;obtain ⟨u,rfl,ru⟩:=rv.one;obtain ⟨z,its,n,r,hl,e⟩:=I.lstM hH;refine call_meets F.slot_list_append ⟨_,e,rfl⟩ F.entry_list_append (F.args_list_append_2 _ _) (PySem.list_append l its.toArray n u (by rw [List.size_toArray];omega)) ⟨e,?_⟩;refine ⟨.non,_,I.lset (its':=its++[u]) hH e (by simp) (r.append (.cons ru .nil)) ?_,rfl,q⟩;rw [List.length_append,List.length_singleton];omega
end
end L2
namespace Att
open PySem PySem.W PySem.Calls PyProof.Rows
theorem M3{P:Params}{h:Heap}:∀(ns:List Int) (vs:List Value),WellAll P h vs (ns.map WData.int)→IntsAre vs ns:=by
 intro ns
 induction ns with
 | nil=>
  intro vs w;rw [List.map_nil]at w;cases w;exact .nil
 | cons n ns ih=>
  intro vs w;rw [List.map_cons]at w
  cases w with
  | cons a b=>
   cases a;exact .cons _ _ (ih _ b)
theorem X9{l:OpenLaw}{n:Nat}(hn:l.most=some n){P:Params}{h:Heap}{args:List WData}{vals:List Value}
 (hpre:l.row.toRowW.claim.pre args=true) (hwl:WellAll P h vals args):
 ∃a vs ns,vals=[Value.ref a]∧args=[WData.list (ns.map WData.int)]∧h.get? a=some {cls:= .type "list",data:= .seq vs.toArray}∧IntsAre vs ns∧ns.length≤n:=by
 have hsh:WShape.hasAll [] args [.list .int]=true:=(pre_splitW hpre).1;have hc:l.pre.holds [] {args:=args}=true:=(pre_splitW hpre).2;obtain ⟨d,r,rfl,h1,h2⟩:=hasAllW_cons hsh;obtain rfl:=hasAllW_nil h2;obtain ⟨xs,rfl,h3⟩:=hasW_list h1;obtain ⟨ns,rfl⟩:=items_int h3
 have hlen:ns.length≤n:=by
  unfold OpenLaw.pre at hc
  have h4:(WTm.not (.lt (.lit (.int (n:Int))) (.len (.arg 0)))).holds [] {args:=[.list (ns.map .int)]}=true:=by
   have h4:=(holds_andW hc).1;rw [hn]at h4;exact h4
  have h5:=condW_of h4 (w_not (w_lt w_lit (w_len_list (w_arg rfl))));rw [List.length_map]at h5;refine Nat.le_of_not_lt fun q=>?_
  have q':(n:Int) < ((ns.length:Nat):Int):=by omega
  first
   | (rw [decide_eq_true q']at h5;exact absurd h5 (by decide))
   | (simp at h5;omega)
 cases hwl with
 | cons w1 w2=>
  cases w2
  cases w1 with
  | list ho hall=>exact ⟨_,_,ns,rfl,rfl,ho,M3 ns _ hall,hlen⟩
theorem Xa(l:OpenLaw)(args:List WData):l.row.toRowW.claim.post args (.bool true) args=true:=
 postW_of (r:=l.row.toRowW) (X:=(true==true))
  (show WShape.has [] (.bool true) .bool=true by first | rfl | decide | simp [WShape.has,WShape.arms,WShape.armsAll])
  (show (WTm.eq .res (.lit (.bool true))).value [] {args:=args,res:=some (.bool true),after:=args}=some (.bool (true==true)) from w_eq_bool (w_res rfl) w_lit) rfl
theorem Qk{l:OpenLaw}{n:Nat}{q:Program}{loose:List Str}{XP:(Str→Option Value)→Heap→Prop}{YP:World→Heap→Prop}{d:DefRec}
 (hn:l.most=some n) (hdf:d.params.defaults=[])
 (call:∀(w:World) (s₀ s₁:Shared) (mg mb:Str→Option Value) (fa:Addr) (o:Obj) (pm cd doc:Value) (a:Addr) (vs:List Value) (ns:List Int),
  Ground q loose [] XP w s₀ mg mb s₁.heap→YP w s₁.heap→
  s₁.heap.get? fa=some o→o.data= .func (docDef d.name d.params d.body d.scope pm cd doc)→s₁.heap.CodeRec cd d.name→mg d.name=some (.ref fa)→
  s₁.heap.get? a=some {cls:= .type "list",data:= .seq vs.toArray}→IntsAre vs ns→ns.length≤n→s₁.gens=#[]→
  codeAny (model l.prog w) callerA (.call (.ref fa) ⟨[.ref a],[]⟩) (fun r s'=>r= .ok (.ret (.bool true))∧OldK s₁.heap s'.heap∧s'.os=s₁.os∧AllBare s'.gens) s₁):
 WalkO q loose XP YP l.row.toRowW d [] (fun f vs=>PySem.call f vs):=by
 intro w s₀ s₁ mg mb G Y fa o pm cd doc dV kV ho hd hcd hD hmg hg args vals as hpre hlay hrd hwl hlo;obtain rfl:dV= .none:=Dflts.none hD hdf;obtain rfl:kV= .none:=Dflts.noKw hD;obtain ⟨a,vs,ns,rfl,rfl,hobj,hints,hlen⟩:=X9 hn hpre hwl;refine enter_call (codeAny_mono (call w s₀ s₁ mg mb fa o pm cd doc a vs ns G Y ho (fd_plain hd) hcd hmg hobj hints hlen hg) fun r s' hq=>?_);obtain ⟨rfl,h2,h3,h4⟩:=hq;exact ⟨.inl ⟨.bool true,.bool true,[],rfl,fun _=>rfl,.bool true,Xa l _,fun _=>⟨List.Pairwise.nil,fun _ hm=>(nomatch hm)⟩⟩,h2,h3,h4⟩
end Att
namespace L2
theorem Oc:∀{vs:List Value} {ns:List Int},IntsAre vs ns→Aw (ns.map V.int) vs
 | _,_,.nil=> .nil
 | _,_,.cons n t h=> .cons ⟨t,rfl⟩ (Oc h)
end L2
namespace L2
def Ap(s:Stmt)(j:Nat):Stmt:=match s with
 | .ClassDef _ _ _ body _ _ _ _ _ _ _=>body.getD j (.Pass ⟨0,0,0,0⟩)
 | _=> .Pass ⟨0,0,0,0⟩
def Bk(s:Stmt):Arguments:=match s with
 | .FunctionDef _ a _ _ _ _ _ _ _ _=>a
 | _=>{posonlyargs:=[],args:=[],vararg:=none,kwonlyargs:=[],kw_defaults:=[],kwarg:=none,defaults:=[]}
def Be(s:Stmt):List Stmt:=match s with
 | .FunctionDef _ _ b _ _ _ _ _ _ _=>b
 | _=>[]
def A7(s:Stmt):Scope:=match s with
 | .FunctionDef _ _ _ _ _ _ sc _ _ _=>sc
 | _=>{kind:= .function,names:=[],isGenerator:=false,isCoroutine:=false}
abbrev CX0:CXT:=fun _ _ _ _ _ _=>False
abbrev E0:XK:=fun _ _ _=>False
theorem Ad{X:Cx}:Lf CX0 X E0:=fun _ _ _ _ _ _ _ h=>h.elim
structure Fun(K:PySem.W.Frag)(x qual:Str)(st:Stmt)(f:Addr)(fd:FuncData):Prop where
 ex:∃(oc:Value) (od:Option Addr) (kV doc pm:Value) (an:Option Addr) (cdv ct:Value) (osl:Array (Option Value)),
  fd=PySem.W.fnOf x qual (Bk st) (Be st) (A7 st) .none kV doc pm an cdv ct∧K.lookup f=some ⟨oc,od,.func fd,osl⟩∧PySem.W.codeIn K cdv qual=true
 kp:PySem.W.keepIn K (.ref f)=true
section
variable {P:Program} {w:World} {K:PySem.W.Frag} {mg:Str→Option Value} {base:Heap}
theorem Fun.ok{x qual:Str}{st:Stmt}{f:Addr}{fd:FuncData}{N ps:List Str}{k:Nat}{sp:Sp}(F:Fun K x qual st f fd)(S:A9 N ps (A7 st))(len:∀vs H Q E,sp vs H Q E→vs.length=ps.length)
 (hbody:∀(cdv:Value) (A:Around) (outer:List Env) (s:Shared) (H:Hp) (vs:List V) (Q:VK) (E:XK),Br k (A.deeper (envOfC qual (A7 st) s.heap.objs.size f cdv))→sp vs H Q E→
  ∃t,PSs (Qg CX0 P w K mg base N qual (A7 st) f cdv A outer s H E).nox (Be st) t∧t {nx:=fun _ H'=>Q .non H',rt:=Q} (start N vs) H):Al P w K mg base CX0 (k+1) f fd ps sp:=by
 obtain ⟨oc,od,kV,doc,pm,an,cdv,ct,osl,rfl,lk,hcd⟩:=F.ex;refine J5g lk hcd S len fun A outer s H vs Q E hr hsp=>?_;obtain ⟨t,h,q⟩:=hbody cdv A outer s H vs Q E hr hsp;exact ⟨t,h.nox,q⟩
theorem Fun.binds{x qual:Str}{st:Stmt}{f:Addr}{fd:FuncData}{ps:List Str}(F:Fun K x qual st f fd)
 (h:∀(kV doc pm:Value) (an:Option Addr) (cdv ct:Value) (us:List Value),us.length=ps.length→bindArgs (PySem.W.fnOf x qual (Bk st) (Be st) (A7 st) .none kV doc pm an cdv ct) ⟨us,[]⟩=pure (ps.zip us)):C1 K fd ps []:=by
 obtain ⟨oc,od,kV,doc,pm,an,cdv,ct,osl,rfl,lk,hcd⟩:=F.ex;exact .all (h kV doc pm an cdv ct)
theorem K2{x qual:Str}{st:Stmt}{f:Addr}{oc:Value}{od an:Option Addr}{osl:Array (Option Value)}{kV doc pm cdv ct:Value}(l:K.lookup f=some ⟨oc,od,.func (PySem.W.fnOf x qual (Bk st) (Be st) (A7 st) .none kV doc pm an cdv ct),osl⟩)
 (c:PySem.W.codeIn K cdv qual=true) (k:PySem.W.keepIn K (.ref f)=true):Fun K x qual st f (PySem.W.fnOf x qual (Bk st) (Be st) (A7 st) .none kV doc pm an cdv ct):=⟨⟨oc,od,kV,doc,pm,an,cdv,ct,osl,rfl,l,c⟩,k⟩
end
theorem D3{A:Around}{k:Nat}(hr:Br k A):A.units+1 < cLine:=Nat.lt_of_le_of_lt (Nat.add_le_add_left (by decide:1≤64) _) hr.units
section
variable {X:Cx}
theorem pv(i:Nat){x:Str}{pos:Pos}(hN:X.N[i]?=some x:=by rfl)(hv:Vis X.env.scope x:=by first | exact Or.inl rfl | exact Or.inr (Or.inl rfl) | exact Or.inr (Or.inr rfl))(hd:(x==("__debug__":Str))=false:=by decide)
 (hcd:(x==("__classdict__":Str))=false:=by decide):PE X (.Name x pos) (J6i i):=J6j hN hv hd hcd
end
def A6(H H':Hp):Prop:=∀b o,H b=some o→H' b=some o
theorem A6.refl(H:Hp):A6 H H:=fun _ _ h=>h
theorem A6.trans{H H1 H2:Hp}(a:A6 H H1)(b:A6 H1 H2):A6 H H2:=fun c o h=>b c o (a c o h)
theorem A6.seq{K:PySem.W.Frag}{H H':Hp}{a:Addr}{xs:List V}(e:A6 H H')(h:SqL K H a xs):SqL K H' a xs:=by
 rcases h with (h | ⟨o,h⟩) | h
 · exact .inl (.inl (e _ _ h))
 · exact .inl (.inr ⟨o,e _ _ h⟩)
 · exact .inr h
end L2
namespace L2
section
variable {κ:Type} [DecidableEq κ]
def B8(kvs:List (κ×V))(k:κ):Option V:=(kvs.find? fun kv=>decide (kv.1=k)).map (·.2)
def Ct(kvs:List (κ×V))(k:κ)(v:V):List (κ×V):=
 if (kvs.any fun kv=>decide (kv.1=k))=true then kvs.map (fun kv=>if kv.1=k then (kv.1,v) else kv) else kvs++[(k,v)]
def Ki(kvs:List (κ×V))(k:κ):List (κ×V):=kvs.filter fun kv=>decide (kv.1≠k)
theorem Bt{p:κ×V}{r:List (κ×V)}{k:κ}(e:p.1=k):B8 (p::r) k=some p.2:=by simp [B8,List.find?_cons,e]
theorem Bn{p:κ×V}{r:List (κ×V)}{k:κ}(e:¬p.1=k):B8 (p::r) k=B8 r k:=by simp [B8,List.find?_cons,e]
theorem D4(k:κ):∀kvs:List (κ×V),(kvs.any fun kv=>decide (kv.1=k))=(B8 kvs k).isSome
 | []=>rfl
 | p::r=>by
  rw [List.any_cons]
  by_cases e:p.1=k
  · simp only [Bt e,decide_eq_true e,Bool.true_or,Option.isSome_some]
  · rw [Bn e,decide_eq_false e,Bool.false_or];exact D4 k r
theorem Ql(k j:κ)(y:V):∀kvs:List (κ×V),B8 (kvs.map fun kv=>if kv.1=k then (kv.1,y) else kv) j=(B8 kvs j).map fun x=>if j=k then y else x
 | []=>rfl
 | p::r=>by
  have ih:=Ql k j y r;rw [List.map_cons]
  by_cases h:p.1=k
  · rw [if_pos h]
    by_cases e:p.1=j
    · rw [Bt (p:=(p.1,y)) e,Bt e,Option.map_some,if_pos (e.symm.trans h)]
    · rw [Bn (p:=(p.1,y)) e,Bn e,ih]
  · rw [if_neg h]
    by_cases e:p.1=j
    · rw [Bt (p:=p) e,Bt e,Option.map_some,if_neg (fun z=>h (e.trans z))]
    · rw [Bn (p:=p) e,Bn e,ih]
theorem Od(k j:κ)(y:V):∀kvs:List (κ×V),B8 kvs k=none→B8 (kvs++[(k,y)]) j=if j=k then some y else B8 kvs j
 | [],_=>by
  by_cases e:k=j
  · rw [if_pos e.symm];exact Bt (p:=(k,y)) e
  · rw [if_neg (fun z=>e z.symm)];exact Bn (p:=(k,y)) e
 | p::r,hn=>by
  rw [List.cons_append]
  have hk:¬p.1=k:=fun z=>by rw [Bt z]at hn;cases hn
  rw [Bn hk]at hn;have ih:=Od k j y r hn
  by_cases e:p.1=j
  · rw [Bt e,Bt e,if_neg (fun z=>hk (e.trans z))]
  · rw [Bn e,Bn e,ih]
theorem Kj(kvs:List (κ×V))(k j:κ)(y:V):B8 (Ct kvs k y) j=if j=k then some y else B8 kvs j:=by
 unfold Ct
 by_cases a:(kvs.any fun kv=>decide (kv.1=k))=true
 · rw [if_pos a,Ql]
   rw [D4]at a
   by_cases e:j=k
   · obtain ⟨x,hx⟩:=Option.isSome_iff_exists.mp a
     rw [if_pos e,e,hx,Option.map_some,if_pos rfl]
   · rw [if_neg e]
     cases B8 kvs j with
     | none=>rfl
     | some x=>rw [Option.map_some,if_neg e]
 · rw [if_neg a]
   refine Od k j y kvs ?_;rw [D4]at a
   cases q:B8 kvs k with
   | none=>rfl
   | some x=>rw [q]at a;exact (a rfl).elim
theorem Cj(kvs:List (κ×V))(k:κ)(v:V):(Ct kvs k v).length≤kvs.length+1:=by
 unfold Ct;split
 · rw [List.length_map];omega
 · rw [List.length_append,List.length_cons,List.length_nil];omega
theorem Gf{kvs:List (κ×V)}{k:κ}(v:V)(h:B8 kvs k=none):Ct kvs k v=kvs++[(k,v)]:=by
 unfold Ct;rw [D4,h];exact if_neg (by decide)
theorem E4.isSome_eq{o:Option V}{u:Option Value}(r:E4 o u):o.isSome=u.isSome:=by
 cases o with
 | none=>cases u with
  | none=>rfl
  | some _=>exact (show False from r).elim
 | some _=>cases u with
  | none=>exact (show False from r).elim
  | some _=>rfl
theorem E4.getD{o:Option V}{u:Option Value}{d:V}{d':Value}(r:E4 o u)(rd:Ao d d'):Ao (o.getD d) (u.getD d'):=by
 cases o with
 | none=>cases u with
  | none=>exact rd
  | some _=>exact (show False from r).elim
 | some _=>cases u with
  | none=>exact (show False from r).elim
  | some _=>exact r
theorem KV.val{kvs:List (κ×V)}{vs:List (κ×Value)}(r:KV kvs vs)(k:κ):E4 (B8 kvs k) (valueAt vs k):=by
 unfold KV at r
 induction r with
 | nil=>exact True.intro
 | @cons p q ps qs h t ih=>
  obtain ⟨h1,h2⟩:=h
  by_cases e:p.1=k
  · have e':q.1=k:=h1.symm.trans e
    have b:valueAt (q::qs) k=some q.2:=by simp [valueAt,List.find?_cons,e']
    rw [Bt e,b];exact h2
  · have e':¬q.1=k:=fun z=>e (h1.trans z)
    have b:valueAt (q::qs) k=valueAt qs k:=by simp [valueAt,List.find?_cons,e']
    rw [Bn e,b];exact ih
theorem KV.any{kvs:List (κ×V)}{vs:List (κ×Value)}(r:KV kvs vs)(k:κ):(kvs.any fun kv=>decide (kv.1=k))=vs.any fun kv=>decide (kv.1=k):=by
 unfold KV at r
 induction r with
 | nil=>rfl
 | cons h t ih=>rw [List.any_cons,List.any_cons,ih,h.1]
theorem KV.repl{kvs:List (κ×V)}{vs:List (κ×Value)}(r:KV kvs vs)(k:κ){y:V}{u:Value}(ry:Ao y u):
 KV (kvs.map fun kv=>if kv.1=k then (kv.1,y) else kv) (vs.map fun kv=>if kv.1=k then (kv.1,u) else kv):=by
 unfold KV at r ⊢
 induction r with
 | nil=>exact .nil
 | @cons p q ps qs h t ih=>
  rw [List.map_cons,List.map_cons];refine .cons ?_ ih;obtain ⟨h1,h2⟩:=h
  by_cases e:p.1=k
  · rw [if_pos e,if_pos (h1.symm.trans e)];exact ⟨h1,ry⟩
  · rw [if_neg e,if_neg (fun z=>e (h1.trans z))];exact ⟨h1,h2⟩
theorem KV.put{kvs:List (κ×V)}{vs:List (κ×Value)}(r:KV kvs vs)(k:κ){y:V}{u:Value}(ry:Ao y u):KV (Ct kvs k y) (stored vs k u):=by
 unfold Ct stored;rw [r.any k]
 by_cases e:(vs.any fun kv=>decide (kv.1=k))=true
 · rw [if_pos e,if_pos e];exact r.repl k ry
 · rw [if_neg e,if_neg e];exact Paired.snoc r ⟨rfl,ry⟩
theorem KV.drop{kvs:List (κ×V)}{vs:List (κ×Value)}(r:KV kvs vs)(k:κ):KV (Ki kvs k) (without vs k):=by
 unfold KV at r ⊢;unfold Ki without
 induction r with
 | nil=>exact .nil
 | @cons p q ps qs h t ih=>
  obtain ⟨h1,h2⟩:=h;rw [List.filter_cons,List.filter_cons]
  by_cases e:p.1=k
  · have a:¬decide (p.1≠k)=true:=by simp [e]
    have b:¬decide (q.1≠k)=true:=by simp [h1.symm.trans e]
    rw [if_neg a,if_neg b];exact ih
  · have e':¬q.1=k:=fun z=>e (h1.trans z)
    have a:decide (p.1≠k)=true:=by simp [e]
    have b:decide (q.1≠k)=true:=by simp [e']
    rw [if_pos a,if_pos b];exact .cons ⟨h1,h2⟩ ih
theorem KV.length{kvs:List (κ×V)}{vs:List (κ×Value)}(r:KV kvs vs):kvs.length=vs.length:=Paired.length r
theorem Yx(kvs:List (κ×V))(k:κ):(Ki kvs k).length≤kvs.length:=List.length_filter_le _ _
end
theorem Lu{P:Program}{w:World}{k:Key}{u:Value}(r:Ao (kV k) u):(B0 P w).is k u=true:=by
 cases k with
 | inl i=>obtain ⟨t,e⟩:=(show ∃t,u=Value.int i t from r);subst e;exact Q9 P w i t
 | inr x=>obtain ⟨t,e⟩:=(show ∃t,u=Value.str x t from r);subst e;exact Qa P w x t
theorem Oe{P:Program}{w:World}:∀{ks:List Key} {us:List Value},Aw (ks.map kV) us→ItemsAre (B0 P w) ks us
 | [],_,r=>by rw [List.map_nil]at r;cases r;exact .nil
 | k::ks,_,r=>by
  rw [List.map_cons]at r
  cases r with
  | cons h t=>exact .cons (Lu h) (Oe t)
abbrev KT(H:Hp):List (List Key×V)→List (List Key×Addr×Value)→Prop:=Paired fun p q=>p.1=q.1∧H q.2.1=some (.tup (p.1.map kV))∧Ao p.2 q.2.2
theorem KT.val{H:Hp}{kvs:List (List Key×V)}{xs:List (List Key×Addr×Value)}(r:KT H kvs xs)(k:List Key):E4 (B8 kvs k) ((atKey xs k).map (·.2)):=by
 induction r with
 | nil=>exact True.intro
 | @cons p q ps qs h t ih=>
  obtain ⟨h1,_,h2⟩:=h
  by_cases e:p.1=k
  · have e':q.1=k:=h1.symm.trans e
    have b:atKey (q::qs) k=some q.2:=by simp [atKey,List.find?_cons,e']
    rw [Bt e,b];exact h2
  · have e':¬q.1=k:=fun z=>e (h1.trans z)
    have b:atKey (q::qs) k=atKey qs k:=by simp [atKey,List.find?_cons,e']
    rw [Bn e,b];exact ih
theorem KT.repl{H:Hp}{kvs:List (List Key×V)}{xs:List (List Key×Addr×Value)}(r:KT H kvs xs)(k:List Key){y:V}{u:Value}(ry:Ao y u):
 KT H (kvs.map fun kv=>if kv.1=k then (kv.1,y) else kv) (xs.map (putAt k u)):=by
 induction r with
 | nil=>exact .nil
 | @cons p q ps qs h t ih=>
  rw [List.map_cons,List.map_cons];refine .cons ?_ ih;obtain ⟨h1,h2,h3⟩:=h;unfold putAt
  by_cases e:p.1=k
  · rw [if_pos e,if_pos (h1.symm.trans e)];exact ⟨h1,h2,ry⟩
  · rw [if_neg e,if_neg (fun z=>e (h1.trans z))];exact ⟨h1,h2,h3⟩
theorem KT.put{H:Hp}{kvs:List (List Key×V)}{xs:List (List Key×Addr×Value)}(r:KT H kvs xs)(k:List Key){b:Addr}{y:V}{u:Value}(hb:H b=some (.tup (k.map kV)))(ry:Ao y u):
 KT H (Ct kvs k y) (storedH xs k b u):=by
 have e:(kvs.any fun kv=>decide (kv.1=k))=(atKey xs k).isSome:=by
  rw [D4,(r.val k).isSome_eq,Option.isSome_map]
 unfold Ct storedH;rw [e]
 by_cases q:(atKey xs k).isSome=true
 · rw [if_pos q,if_pos q];exact r.repl k ry
 · rw [if_neg q,if_neg q];exact Paired.snoc r ⟨rfl,hb,ry⟩
theorem KT.keeps{H H':Hp}{kvs:List (List Key×V)}{xs:List (List Key×Addr×Value)}(r:KT H kvs xs)(ht:∀b ys,H b=some (.tup ys)→H' b=some (.tup ys)):KT H' kvs xs:=
 Paired.mapP r fun _ _ z=>⟨z.1,ht _ _ z.2.1,z.2.2⟩
section
variable {P:Program} {w:World} {H:Hp} {h:Heap} {a:Addr}
theorem J5j{u:HO}(ok:HOk P w H h)(e:Rd H a u):Bg P w H h a u:=e.ok ok
theorem Kk{kvs:List (Key×V)}(ok:HOk P w H h)(e:Rd H a (.dK kvs)):kvs.length≤sizeLine∧(a==sysModules)=false∧∃vs,KV kvs vs∧h.DictOf (B0 P w) a vs:=
 show Bg P w H h a (.dK kvs) from J5j ok e
theorem J5k{kvs:List (Key×V)}(ok:HOk P w H h)(e:H a=some (.dK kvs)):kvs.length≤sizeLine∧(a==sysModules)=false∧∃vs,KV kvs vs∧h.DictOf (B0 P w) a vs:=Kk ok (.inl e)
theorem K3{ks:List Key}(ok:HOk P w H h)(e:H a=some (.tup (ks.map kV))):(tupleKind (B0 P w)).is h ks a:=by
 obtain ⟨_,its,r,o,h1,h2,n,h3⟩:=(show Bg P w H h a (.tup (ks.map kV)) from ok a _ e)
 exact ⟨o,its.toArray,n,h1,h2,h3,by simpa using Oe r⟩
theorem Lv{kvs:List (List Key×V)}(ok:HOk P w H h)(e:Rd H a (.dT kvs)):kvs.length≤sizeLine∧(a==sysModules)=false∧
 ∃xs,KT H kvs xs∧h.DictOfH (tupleKind (B0 P w)) a xs:=by
 obtain ⟨z,y,xs,r,o,es,ep,h1,h2,h3,h4,h5⟩:=(show Bg P w H h a (.dT kvs) from J5j ok e)
 refine ⟨z,y,xs,r,o,es,ep,h1,h2,h3,h4,fun x hx=>?_,h5⟩
 have all:∀{l:List (List Key×V)} {m:List (List Key×Addr×Value)},KT H l m→∀x∈m,(tupleKind (B0 P w)).is h x.1 x.2.1:=by
  intro l m q
  induction q with
  | nil=>intro x hx;exact nomatch hx
  | @cons p q ps qs hq t ih=>
   intro x hx;rcases List.mem_cons.mp hx with e | hx
   · subst e
     exact K3 ok (by rw [← hq.1];exact hq.2.1)
   · exact ih x hx
 exact all r x hx
theorem J8h{kvs:List (List Key×V)}(ok:HOk P w H h)(e:H a=some (.dT kvs)):kvs.length≤sizeLine∧(a==sysModules)=false∧
 ∃xs,KT H kvs xs∧h.DictOfH (tupleKind (B0 P w)) a xs:=Lv ok (.inl e)
end
def Cq(H:Hp)(a:Addr)(y:V)(r:Option V):Prop:=
 (∃kvs k,Rd H a (.dK kvs)∧y=kV k∧r=B8 kvs k)∨∃kvs k b,Rd H a (.dT kvs)∧y= .ref b∧H b=some (.tup (k.map kV))∧r=B8 kvs k
def M4(H:Hp)(a:Addr)(y v:V)(H':Hp):Prop:=
 (∃kvs k,H a=some (.dK kvs)∧y=kV k∧kvs.length < sizeLine∧H'=upd H a (.dK (Ct kvs k v)))∨
 ∃kvs k b,H a=some (.dT kvs)∧y= .ref b∧H b=some (.tup (k.map kV))∧kvs.length < sizeLine∧H'=upd H a (.dT (Ct kvs k v))
theorem Cq.k{H:Hp}{a:Addr}{kvs:List (Key×V)}{k:Key}(e:H a=some (.dK kvs)):Cq H a (kV k) (B8 kvs k):= .inl ⟨kvs,k,.inl e,rfl,rfl⟩
theorem M4.k{H:Hp}{a:Addr}{kvs:List (Key×V)}{k:Key}{v:V}(e:H a=some (.dK kvs))(hl:kvs.length < sizeLine):M4 H a (kV k) v (upd H a (.dK (Ct kvs k v))):= .inl ⟨kvs,k,e,rfl,hl,rfl⟩
section
variable {X:Cx} {pins:List (Addr×Obj)} {σ:St} {H:Hp} {s:Shared} {a:Addr} {y v:V} {u r:Value} {o:Option V} {A:Around} {E:Value→Shared→Prop}
theorem Inv.big(I:Inv X pins σ H s):sysModules < s.heap.objs.size:=by
 have h:mainGlobals < s.heap.objs.size:=(I.mod.glob.keeps I.bk).lt;exact Nat.lt_trans (by decide) h
theorem Xb{Q:Value→Shared→Prop}(hu:A.units+1 < cLine)(I:Inv X pins σ H s)(g:Cq H a y (some v))(ry:Ao y u)(h:∀w' s',Inv X pins σ H s'→Ao v w'→Q w' s'):
 wpAny (model X.prog X.w) A (getItem (.ref a) u) Q E s:=by
 rcases g with ⟨kvs,k,e,ey,l⟩ | ⟨kvs,k,b,e,ey,eb,l⟩
 · subst ey
   obtain ⟨z,hd,vs,rel,dd⟩:=Kk I.hok e;obtain ⟨w',hw,rw'⟩:=E4.some_of (v:=v) (o:=valueAt vs k) (by rw [l];exact rel.val k);exact wpAny_getItem_of (Lu ry) dd.mapOf hw (h w' _ (I.tok _) rw')
 · subst ey
   cases (show u=Value.ref b from ry);obtain ⟨z,hd,xs,rel,dd⟩:=Lv I.hok e;obtain ⟨w',hw,rw'⟩:=E4.some_of (v:=v) (o:=(atKey xs k).map (·.2)) (by rw [l];exact rel.val k);obtain ⟨p,hp,hp2⟩:=Option.map_eq_some_iff.mp hw;refine wpAny_getItem_heap (tupleKind_room_in1 hu) (K3 I.hok eb) dd hp ?_;rw [hp2];exact h w' _ (I.tok _) rw'
theorem J9g{Q:Value→Shared→Prop}(hu:A.units+1 < cLine)(I:Inv X pins σ H s)(g:Cq H a y o)(ry:Ao y u)(h:∀s',Inv X pins σ H s'→Q (.bool o.isSome) s'):
 wpAny (model X.prog X.w) A (compareOp .In u (.ref a)) Q E s:=by
 rcases g with ⟨kvs,k,e,ey,l⟩ | ⟨kvs,k,b,e,ey,eb,l⟩
 · subst ey
   obtain ⟨z,hd,vs,rel,dd⟩:=Kk I.hok e;refine wpAny_in_of (Lu ry) hd dd.mapOf ?_;rw [← (rel.val k).isSome_eq,← l];exact h _ (I.tok _)
 · subst ey
   cases (show u=Value.ref b from ry);obtain ⟨z,hd,xs,rel,dd⟩:=Lv I.hok e;refine wpAny_in_heap (tupleKind_room_in1 hu) (K3 I.hok eb) hd dd ?_;have q:=(rel.val k).isSome_eq;rw [Option.isSome_map]at q;rw [← q,← l];exact h _ (I.tok _)
theorem J3r{Q:Value→Shared→Prop}(hu:A.units+1 < cLine)(I:Inv X pins σ H s)(g:Cq H a y o)(ry:Ao y u)(h:∀s',Inv X pins σ H s'→Q (.bool (!o.isSome)) s'):
 wpAny (model X.prog X.w) A (compareOp .NotIn u (.ref a)) Q E s:=by
 rcases g with ⟨kvs,k,e,ey,l⟩ | ⟨kvs,k,b,e,ey,eb,l⟩
 · subst ey
   obtain ⟨z,hd,vs,rel,dd⟩:=Kk I.hok e;refine wpAny_notIn_of (Lu ry) hd dd.mapOf ?_;rw [← (rel.val k).isSome_eq,← l];exact h _ (I.tok _)
 · subst ey
   cases (show u=Value.ref b from ry);obtain ⟨z,hd,xs,rel,dd⟩:=Lv I.hok e;refine wpAny_notIn_heap (tupleKind_room_in1 hu) (K3 I.hok eb) hd dd ?_;have q:=(rel.val k).isSome_eq;rw [Option.isSome_map]at q;rw [← q,← l];exact h _ (I.tok _)
theorem Pd{h':Heap}{t':Nat}{ob:HO}(I:Inv X pins σ H s)(mu:Mut (H a))(hs:Heap.SameBut a s.heap h')(he:∃q,h'.get? a=some q)(new:Bg X.prog X.w (upd H a ob) h' a ob):
 Inv X pins σ (upd H a ob) {s with heap:=h',toks:=t'}:=
 I.write (x:=a) (e:=a) mu (.inl rfl) (fun b q hb z=>(hs.2 b hb).trans z) he new
theorem Yy{P:Program}{w:World}{H':Hp}{h':Heap}{kvs:List (Key×V)}{vs:List (Key×Value)}(z:kvs.length≤sizeLine)(hd:(a==sysModules)=false)(rel:KV kvs vs)(dd:h'.DictOf (B0 P w) a vs):
 Bg P w H' h' a (.dK kvs):=⟨z,hd,vs,rel,dd⟩
theorem Xc{H':Hp}{Q:Unit→Shared→Prop}(hu:A.units+1 < cLine)(I:Inv X pins σ H s)(g:M4 H a y v H')(ry:Ao y u)(rv:Ao v r)(h:∀s',Inv X pins σ H' s'→Q () s'):
 wpAny (model X.prog X.w) A (setItem (.ref a) u r) Q E s:=by
 rcases g with ⟨kvs,k,e,ey,l,eH⟩ | ⟨kvs,k,b,e,ey,eb,l,eH⟩
 · subst ey eH
   obtain ⟨z,hd,vs,rel,dd⟩:=J5k I.hok e
   have hz:vs.length≤sizeLine:=by rw [← rel.length];exact z
   have hl:(Ct kvs k v).length≤sizeLine:=by have:=Cj kvs k v;omega
   refine wpAny_setItem_pairs (hsz:=hz) (Lu ry) dd fun h' dd' hs=>h _ ?_;have he:∃q,h'.get? a=some q:=let ⟨q,_,_,hq,_⟩:=dd';⟨q,hq⟩;exact Pd I (by rw [e];exact True.intro) hs he (Yy hl hd (rel.put k rv) dd')
 · subst ey eH
   cases (show u=Value.ref b from ry);obtain ⟨z,hd,xs,rel,dd⟩:=J8h I.hok e
   have hz:xs.length≤sizeLine:=by rw [← Paired.length rel];exact z
   have hl:(Ct kvs k v).length≤sizeLine:=by have:=Cj kvs k v;omega
   refine wpAny_setItem_heap (hsz:=hz) (tupleKind_room_in1 hu) (K3 I.hok eb) dd fun h' dd' hs=>h _ ?_;obtain ⟨q,es,ep,hq,h2,h3,h4,_,h5⟩:=dd';refine Pd I (by rw [e];exact True.intro) hs ⟨q,hq⟩ ⟨hl,hd,_,(rel.put k eb rv).keeps fun c ys ec=>?_,q,es,ep,hq,h2,h3,h4,h5⟩;rw [A5 (C0 ec e (fun z=>nomatch z))];exact ec
end
section
variable {X:Cx} {pins:List (Addr×Obj)} {σ:St} {H:Hp} {s:Shared} {a:Addr} {kvs:List (Key×V)} {k:Key} {u:Value} {A:Around} {E:Value→Shared→Prop}
theorem J8i{v:V}{more:List Value}{Q:Value→Shared→Prop}(I:Inv X pins σ H s)(e:H a=some (.dK kvs))(ry:Ao (kV k) u)(l:B8 kvs k=some v)(hm:more=[]∨∃x,more=[x])
 (h:∀w' s',Inv X pins σ (upd H a (.dK (Ki kvs k))) s'→Ao v w'→Q w' s'):wpAny (model X.prog X.w) A (call (.builtin "dict.pop") (.ref a::u::more)) Q E s:=by
 obtain ⟨z,hd,vs,rel,dd⟩:=J5k I.hok e;obtain ⟨w',hw,rw'⟩:=E4.some_of (v:=v) (o:=valueAt vs k) (by rw [← l];exact rel.val k)
 have hp:(keyPart u).isSome=true:=by
  cases k with
  | inl i=>obtain ⟨t,q⟩:=(show ∃t,u=Value.int i t from ry);subst q;rfl
  | inr x=>obtain ⟨t,q⟩:=(show ∃t,u=Value.str x t from ry);subst q;rfl
 have ha:argsOk "dict.pop" ⟨.ref a::u::more,[]⟩:=by
  rcases hm with q | ⟨x,q⟩
  · subst q;exact PySem.F.args_dict_pop_2 _ _
  · subst q;exact PySem.F.args_dict_pop_3 _ _ _
 refine call_meetsIn PySem.F.slot_dict_pop dd.typeIs PySem.F.entry_dict_pop ha (meets_dict_pop_there (B0 X.prog X.w) a (Lu ry) more hm hp)
  ⟨vs,w',dd,by rw [← rel.length];exact z,hw,fun h' dd' hs=>h w' _ ?_ rw'⟩
 have he:∃q,h'.get? a=some q:=let ⟨q,_,_,hq,_⟩:=dd';⟨q,hq⟩;exact Pd I (by rw [e];exact True.intro) hs he (Yy (Nat.le_trans (Yx kvs k) z) hd (rel.drop k) dd')
theorem J8j{Q:Value→Shared→Prop}(I:Inv X pins σ H s)(e:Rd H a (.dK kvs))(h:∀t s',Inv X pins σ H s'→Q (.int kvs.length t) s'):wpAny (model X.prog X.w) A (call (.builtin "len") [.ref a]) Q E s:=by
 obtain ⟨z,hd,vs,rel,dd⟩:=Kk I.hok e;refine call_len_dict hd dd (by rw [← rel.length];rw [sizeLine_eq]at z;omega) ?_;rw [← rel.length];exact h _ _ (I.tok _)
end
def J8k(i:Expr):Prop:=∀ov iv,subscripted i false ov iv=operate [ov,iv] (getItem ov iv)
theorem J3s{prog:Program}{w:World}{A:Around}{E:Value→Shared→Prop}{s:Shared}{env:Env}{value slice:Expr}{pos:Pos}{T id:String}{Q:Value→Shared→Prop}
 (hl:typeLookup (.type T) "__getitem__"=pure (some (.builtin id))) (hs:J8k slice)
 (h:wpAny (model prog w) A (eval value env) (fun o s₁=>wpAny (model prog w) A (eval slice env) (fun i s₂=>s₂.TypeIs o T∧wpAny (model prog w) A (getItem o i) Q E s₂) E s₁) E s):
 wpAny (model prog w) A (eval (.Subscript value slice pos) env) Q E s:=by
 refine Subscript_ (wpAny_mono h (fun o s₁ h₁=>wpAny_mono h₁ (fun i s₂ h₂=>?_) fun _ _ x=>x) fun _ _ x=>x);obtain ⟨hT,h₂⟩:=h₂;unfold subscriptTail;refine wpAny_bind ?_;rw [getitemInPython_of_ne hT.not_modules];refine wpAny_bind (wpAny_specialOf hT hl ?_)
 have fin:wpAny (model prog w) A (subscripted slice false o i) (fun r s₃=>wpAny (model prog w) A (letTemporaryGo value o r >>=fun _=>pure r) Q E s₃) E s₂:=by
  rw [hs o i];exact wpAny_operating (wpAny_mono h₂ (fun r s₃ h₃=>wpAny_bind (wpAny_letTemporaryGo (wpAny_pure h₃))) fun _ _ x=>x)
 first
  | exact wpAny_pure (wpAny_bind fin)
  | exact wpAny_bind (wpAny_pure (wpAny_bind fin))
  | exact wpAny_bind fin
theorem Qm{X:Cx}{pins:List (Addr×Obj)}{σ:St}{H:Hp}{s:Shared}{a:Addr}{y:V}{o:Option V}(I:Inv X pins σ H s)(g:Cq H a y o):s.TypeIs (.ref a) "dict":=by
 rcases g with ⟨kvs,k,e,_,_⟩ | ⟨kvs,k,b,e,_,_,_⟩
 · obtain ⟨_,_,vs,_,dd⟩:=Kk I.hok e
   exact dd.typeIs
 · obtain ⟨_,_,xs,_,dd⟩:=Lv I.hok e
   exact dd.typeIs
def J5l(td ty:TE):TE:=fun σ H Q=>td σ H fun x H1=>ty σ H1 fun y H2=>∃a v,x= .ref a∧Cq H2 a y (some v)∧Q v H2
def J8l(ty td:TE):TE:=fun σ H Q=>ty σ H fun y H1=>td σ H1 fun x H2=>∃a o,x= .ref a∧Cq H2 a y o∧Q (.bl o.isSome) H2
def V4(ty td:TE):TE:=fun σ H Q=>ty σ H fun y H1=>td σ H1 fun x H2=>∃a o,x= .ref a∧Cq H2 a y o∧Q (.bl (!o.isSome)) H2
def J5m(td ty tv:TE):TS:=fun D σ H=>tv σ H fun v H1=>td σ H1 fun x H2=>ty σ H2 fun y H3=>∃a H4,x= .ref a∧M4 H3 a y v H4∧D.nx σ H4
section
variable {X:Cx} {o i e value:Expr} {pos pos' tpos:Pos} {td ty tv:TE}
theorem V5(hu:X.A.units+1 < cLine)(ho:PE X o td)(hi:PE X i ty)(hs:J8k i):PE X (.Subscript o i pos) (J5l td ty):=by
 intro pins s σ H Q I h;refine J3s PySem.F.slot_dict_getitem.lookup hs (thn (ho pins s σ H _ I h) fun u s1 ⟨x,H1,I1,rx,q1⟩=>thn (hi pins s1 σ H1 _ I1 q1) fun iv s2 hq_=>?_);obtain ⟨y,H2,I2,ry,a,v,ex,g,q2⟩:=hq_;subst ex;obtain rfl:u=Value.ref a:=rx;exact ⟨Qm I2 g,Xb hu I2 g ry fun w' s3 I3 rw'=>⟨v,H2,I3,rw',q2⟩⟩
theorem Pe(hu:X.A.units+1 < cLine)(hi:PE X i ty)(ho:PE X o td):PC X .In i o (J8l ty td):=by
 intro pins s σ H Q I h;refine thn (hi pins s σ H _ I h) fun iv s1 ⟨y,H1,I1,ry,q1⟩=>thn (ho pins s1 σ H1 _ I1 q1) fun u s2 hq_=>?_;obtain ⟨x,H2,I2,rx,a,ov,ex,g,q2⟩:=hq_;subst ex;obtain rfl:u=Value.ref a:=rx
 exact J9g hu I2 g ry fun s3 I3=>⟨.bl ov.isSome,H2,I3,rfl,q2⟩
theorem Xd(hu:X.A.units+1 < cLine)(hi:PE X i ty)(ho:PE X o td):PC X .NotIn i o (V4 ty td):=by
 intro pins s σ H Q I h;refine thn (hi pins s σ H _ I h) fun iv s1 ⟨y,H1,I1,ry,q1⟩=>thn (ho pins s1 σ H1 _ I1 q1) fun u s2 hq_=>?_;obtain ⟨x,H2,I2,rx,a,ov,ex,g,q2⟩:=hq_;subst ex;obtain rfl:u=Value.ref a:=rx
 exact J3r hu I2 g ry fun s3 I3=>⟨.bl (!ov.isSome),H2,I3,rfl,q2⟩
theorem Ek(hu:X.A.units+1 < cLine)(ho:PE X o td)(hi:PE X i ty)(hv:PE X value tv)(hs:swapsWith value (some (.Subscript o i pos')) pos.line X.env=pure false):
 PS X (.Assign [.Subscript o i pos'] value pos) (J5m td ty tv):=by
 intro pins s σ H D I h;refine wpAny_Assign_Subscript (thn (hv pins s σ H _ I h) fun r s1 ⟨v,H1,I1,rv,q1⟩=>thn (ho pins s1 σ H1 _ I1 q1) fun u s2 ⟨x,H2,I2,rx,q2⟩=>thn (hi pins s2 σ H2 _ I2 q2) fun iv s3 hq_=>?_) hs;obtain ⟨y,H3,I3,ry,a,H4,ex,g,q3⟩:=hq_;subst ex;obtain rfl:u=Value.ref a:=rx
 exact Xc hu I3 g ry rv fun s4 I4=>⟨σ,H4,I4,q3⟩
end
theorem Yz{P:Program}{w:World}{H:Hp}(h:Heap)(hb:sysModules < h.objs.size):Bg P w H (h.push {cls:= .type "dict",data:= .dict #[]}) h.objs.size (.dK []):=
 ⟨Nat.zero_le _,beq_eq_false_iff_ne.mpr (Ne.symm (Nat.ne_of_lt hb)),[],.nil,Heap.DictOf.new h⟩
def J00:TE:=fun _ H Q=>∀p,H p=none→Q (.ref p) (upd H p (.dK []))
section
variable {X:Cx} {pos:Pos}
theorem E5:PE X (.Dict [] [] pos) J00:=fun pins s σ H Q I h=>
 wpAny_Dict_empty ⟨.ref s.heap.objs.size,_,I.laid (a:=s.heap.objs.size) (o:= .dK []) (t':=s.toks) (fun _ _ q=>Heap.get?_push_of_some _ q) (Nat.le_refl _) (Yz s.heap I.big),rfl,h _ (I.hok.fresh (Nat.le_refl _))⟩
end
structure M1(X:Cx)(o:Expr)(m:Str)(apos:Pos)(e:Expr)(cpos:Pos):Prop where
 base:attributeBase o m X.env (eval o X.env)=eval o X.env
 few:((backTo cpos (starEach [e] X.env)).all (fun x=>!x.1) && (backToKw cpos (keywordEach [] X.env)).all (fun x=>x.1.isSome)
  && decide (([e]:List Expr).length+([]:List Keyword).length+(if ([]:List Keyword).isEmpty then 0 else 1) < 30))=true
 line:(apos.endLine==cpos.line)=true
 trees:backTo cpos (starEach [e] X.env)=[(false,eval e X.env)]
structure M2(X:Cx)(o:Expr)(m:Str)(apos:Pos)(e f:Expr)(cpos:Pos):Prop where
 base:attributeBase o m X.env (eval o X.env)=eval o X.env
 few:((backTo cpos (starEach [e,f] X.env)).all (fun x=>!x.1) && (backToKw cpos (keywordEach [] X.env)).all (fun x=>x.1.isSome)
  && decide (([e,f]:List Expr).length+([]:List Keyword).length+(if ([]:List Keyword).isEmpty then 0 else 1) < 30))=true
 line:(apos.endLine==cpos.line)=true
 trees:backTo cpos (starEach [e,f] X.env)=[(false,eval e X.env),(false,eval f X.env)]
def IsD(H:Hp)(a:Addr):Prop:=(∃kvs,Rd H a (.dK kvs))∨∃kvs,Rd H a (.dT kvs)
theorem Tz{X:Cx}{pins:List (Addr×Obj)}{σ:St}{H:Hp}{s:Shared}{a:Addr}(I:Inv X pins σ H s)(d:IsD H a):
 s.TypeIs (.ref a) "dict"∧(∀b,Value.ref a= .ref b→∃ob,s.heap.get? b=some ob∧ob.dict=none)∧(a==sysModules)=false:=by
 rcases d with ⟨kvs,e⟩ | ⟨kvs,e⟩
 · obtain ⟨_,hd,vs,_,dd⟩:=Kk I.hok e
   refine ⟨dd.typeIs,fun b q=>?_,hd⟩;cases q;obtain ⟨ob,_,_,h1,h2,_⟩:=dd;exact ⟨ob,h1,h2.2.1⟩
 · obtain ⟨_,hd,xs,_,dd⟩:=Lv I.hok e
   refine ⟨dd.typeIs,fun b q=>?_,hd⟩;cases q;obtain ⟨ob,_,_,h1,h2,_⟩:=dd;exact ⟨ob,h1,h2.2.1⟩
section
variable {X:Cx} {pins:List (Addr×Obj)} {σ:St} {H:Hp} {s:Shared} {a:Addr} {y d:V} {u r:Value} {o:Option V} {A:Around} {E:Value→Shared→Prop}
theorem J6t{Q:Value→Shared→Prop}(hu:A.units+1 < cLine)(I:Inv X pins σ H s)(g:Cq H a y o)(ry:Ao y u)(h:∀w' s',Inv X pins σ H s'→Ao (o.getD .non) w'→Q w' s'):
 wpAny (model X.prog X.w) A (call (.builtin "dict.get") [.ref a,u]) Q E s:=by
 rcases g with ⟨kvs,k,e,ey,l⟩ | ⟨kvs,k,b,e,ey,eb,l⟩
 · subst ey
   obtain ⟨z,hd,vs,rel,dd⟩:=Kk I.hok e;refine call_meetsIn PySem.F.slot_dict_get dd.typeIs PySem.F.entry_dict_get (PySem.F.args_dict_get_2 _ _) (meets_dict_get (B0 X.prog X.w) a (Lu ry) hd) ⟨_,dd.mapOf,h _ _ (I.tok _) ?_⟩;rw [l];exact (rel.val k).getD rfl
 · subst ey
   cases (show u=Value.ref b from ry);obtain ⟨z,hd,xs,rel,dd⟩:=Lv I.hok e;refine call_meetsIn PySem.F.slot_dict_get dd.typeIs PySem.F.entry_dict_get (PySem.F.args_dict_get_2 _ _) (meetsH_dict_get (tupleKind (B0 X.prog X.w)) a b hd) ⟨tupleKind_room_in1 hu,k,xs,K3 I.hok eb,dd,h _ _ (I.tok _) ?_⟩;rw [l];exact (rel.val k).getD rfl
theorem J6u{Q:Value→Shared→Prop}(hu:A.units+1 < cLine)(I:Inv X pins σ H s)(g:Cq H a y o)(ry:Ao y u)(rd:Ao d r)(h:∀w' s',Inv X pins σ H s'→Ao (o.getD d) w'→Q w' s'):
 wpAny (model X.prog X.w) A (call (.builtin "dict.get") [.ref a,u,r]) Q E s:=by
 rcases g with ⟨kvs,k,e,ey,l⟩ | ⟨kvs,k,b,e,ey,eb,l⟩
 · subst ey
   obtain ⟨z,hd,vs,rel,dd⟩:=Kk I.hok e;refine call_meetsIn PySem.F.slot_dict_get dd.typeIs PySem.F.entry_dict_get (PySem.F.args_dict_get_3 _ _ _) (meets_dict_get_default (B0 X.prog X.w) a (Lu ry) hd r) ⟨_,dd.mapOf,h _ _ (I.tok _) ?_⟩;rw [l];exact (rel.val k).getD rd
 · subst ey
   cases (show u=Value.ref b from ry);obtain ⟨z,hd,xs,rel,dd⟩:=Lv I.hok e;refine call_meetsIn PySem.F.slot_dict_get dd.typeIs PySem.F.entry_dict_get (PySem.F.args_dict_get_3 _ _ _) (meetsH_dict_get_default (tupleKind (B0 X.prog X.w)) a b hd r) ⟨tupleKind_room_in1 hu,k,xs,K3 I.hok eb,dd,h _ _ (I.tok _) ?_⟩;rw [l];exact (rel.val k).getD rd
end
def J01(td ty:TE):TE:=fun σ H Q=>td σ H fun x H1=>∃a,x= .ref a∧IsD H1 a∧ty σ H1 fun y H2=>∃o,Cq H2 a y o∧Q (o.getD .non) H2
def J02(td ty tx:TE):TE:=fun σ H Q=>td σ H fun x H1=>∃a,x= .ref a∧IsD H1 a∧ty σ H1 fun y H2=>tx σ H2 fun z H3=>∃o,Cq H3 a y o∧Q (o.getD z) H3
def J03(td ty:TE):TE:=fun σ H Q=>td σ H fun x H1=>∃a,x= .ref a∧IsD H1 a∧ty σ H1 fun y H2=>∃kvs k v,H2 a=some (.dK kvs)∧y=kV k∧B8 kvs k=some v∧Q v (upd H2 a (.dK (Ki kvs k)))
section
variable {X:Cx} {o e f:Expr} {apos cpos:Pos} {td ty tx:TE}
theorem J04(hu:X.A.units+1 < cLine)(ho:PE X o td)(he:PE X e ty)(m:M1 X o "get" apos e cpos):PE X (.Call (.Attribute o "get" apos) [e] [] cpos) (J01 td ty):=by
 intro pins s σ H Q I h;refine wpAny_Call_method m.base m.few m.line PySem.F.plainAttrs_dict PySem.F.slot_dict_get PySem.F.type_dict_get (thn (ho pins s σ H _ I h) fun u s1 hq_=>?_);obtain ⟨x,H1,I1,rx,a,ex,d,q1⟩:=hq_;subst ex;obtain rfl:u=Value.ref a:=rx;obtain ⟨t1,t2,_⟩:=Tz I1 d;refine ⟨t1,t2,?_⟩;rw [m.trees];refine Calls.callWith_builtin rfl (Calls.evalArgs_plain (Calls.spliced_cons (thn (he pins s1 σ H1 _ I1 q1) fun iv s2 ⟨y,H2,I2,ry,ov,g,q2⟩=>Calls.spliced_nil ?_)))
 exact J6t hu I2 g ry fun w' s3 I3 rw'=>⟨_,H2,I3,rw',q2⟩
theorem Qn(hu:X.A.units+1 < cLine)(ho:PE X o td)(he:PE X e ty)(hf:PE X f tx)(m:M2 X o "get" apos e f cpos):PE X (.Call (.Attribute o "get" apos) [e,f] [] cpos) (J02 td ty tx):=by
 intro pins s σ H Q I h;refine wpAny_Call_method m.base m.few m.line PySem.F.plainAttrs_dict PySem.F.slot_dict_get PySem.F.type_dict_get (thn (ho pins s σ H _ I h) fun u s1 hq_=>?_);obtain ⟨x,H1,I1,rx,a,ex,d,q1⟩:=hq_;subst ex;obtain rfl:u=Value.ref a:=rx;obtain ⟨t1,t2,_⟩:=Tz I1 d;refine ⟨t1,t2,?_⟩;rw [m.trees]
 refine Calls.callWith_builtin rfl (Calls.evalArgs_plain (Calls.spliced_cons (thn (he pins s1 σ H1 _ I1 q1) fun iv s2 ⟨y,H2,I2,ry,q2⟩=>
  Calls.spliced_cons (thn (hf pins s2 σ H2 _ I2 q2) fun fv s3 ⟨z,H3,I3,rz,ov,g,q3⟩=>Calls.spliced_nil ?_))))
 exact J6u hu I3 g ry rz fun w' s4 I4 rw'=>⟨_,H3,I4,rw',q3⟩
theorem J05(ho:PE X o td)(he:PE X e ty)(m:M1 X o "pop" apos e cpos):PE X (.Call (.Attribute o "pop" apos) [e] [] cpos) (J03 td ty):=by
 intro pins s σ H Q I h;refine wpAny_Call_method m.base m.few m.line PySem.F.plainAttrs_dict PySem.F.slot_dict_pop PySem.F.type_dict_pop (thn (ho pins s σ H _ I h) fun u s1 hq_=>?_);obtain ⟨x,H1,I1,rx,a,ex,d,q1⟩:=hq_;subst ex;obtain rfl:u=Value.ref a:=rx;obtain ⟨t1,t2,_⟩:=Tz I1 d;refine ⟨t1,t2,?_⟩;rw [m.trees];refine Calls.callWith_builtin rfl (Calls.evalArgs_plain (Calls.spliced_cons (thn (he pins s1 σ H1 _ I1 q1) fun iv s2 ⟨y,H2,I2,ry,kvs,k,v,ea,ey,l,q2⟩=>Calls.spliced_nil ?_)));subst ey
 exact J8i I2 ea ry l (.inl rfl) fun w' s3 I3 rw'=>⟨v,_,I3,rw',q2⟩
end
end L2
namespace L2
section
variable {X:Cx}
theorem Xe:G5 X (.builtin "len") (fun xs H Q=>∃a kvs,xs=[V.ref a]∧H a=some (.dK kvs)∧Q (.int kvs.length) H):=by
 intro pins s σ H xs us Q I r h;obtain ⟨a,kvs,rfl,ha,q⟩:=h;obtain ⟨u,rfl,ru⟩:=Gc r;cases ru
 exact J8j I (.inl ha) fun t s' I'=>⟨.int kvs.length,H,I',⟨t,rfl⟩,q⟩
end
section
variable {κ:Type} [DecidableEq κ]
theorem J06{kvs:List (κ×V)}{k:κ}(h:B8 kvs k=none):¬k∈kvs.map (·.1):=by
 intro m;obtain ⟨p,hp,e⟩:=List.mem_map.mp m;have q:(kvs.any fun kv=>decide (kv.1=k))=true:=List.any_eq_true.mpr ⟨p,hp,decide_eq_true e⟩;rw [D4,h]at q;exact absurd q (by simp)
theorem J3t{kvs:List (κ×V)}{k:κ}{v:V}(h:B8 kvs k=some v):k∈kvs.map (·.1):=by
 have q:(kvs.any fun kv=>decide (kv.1=k))=true:=by
  rw [D4,h]
  all_goals rfl
 obtain ⟨p,hp,e⟩:=List.any_eq_true.mp q;exact List.mem_map.mpr ⟨p,hp,of_decide_eq_true e⟩
end
end L2
namespace L2
structure Def(P:Program)(w:World)(K:PySem.W.Frag)(mg:Str→Option Value)(base:Heap)(CX:CXT)(k:Nat)(x:Str)(ps:List Str)(sp:Sp):Prop where
 ex:∃(f:Addr) (fd:FuncData),Al P w K mg base CX k f fd ps sp∧mg x=some (.ref f)∧PySem.W.keepIn K (.ref f)=true∧C1 K fd ps []
def J07(sp:Sp)(E:XK)(t:TA):TE:=fun σ H Q=>t σ H fun vs H1=>sp vs H1 Q E
section
variable {X:Cx} {CX:CXT} {k j:Nat} {ps:List Str} {sp:Sp} {E:XK} {x:Str} {p pos:Pos} {e:Expr} {es:List Expr} {t:TA}
theorem Ac(D:Def X.prog X.w X.K X.mg X.base CX j x ps sp)(hr:Br k X.A)(hg:Gl X x)(hx:Lf CX X E)(ha:PA X (e::es) t)(hj:j≤k:=by decide)
 (hdb:(x==("__debug__":Str))=false:=by decide) (he:starEach (e::es) X.env=(false,eval e X.env)::starEach es X.env:=by rfl) (hpl:(backTo pos (starEach es X.env)).any (·.1)=false:=by rfl):
 PE X (.Call (.Name x p) (e::es) [] pos) (J07 sp E t):=by
 obtain ⟨f,fd,F,hm,hk,hb⟩:=D.ex;intro pins s σ H Q I h;refine J3n (F.mono hj) hr hg hm hk hb .nil hx ha hdb he hpl pins s σ H Q I ?_;show t σ H fun vs H1=>sp (vs++[]) H1 Q E
 have z:(fun (vs:List V) (H1:Hp)=>sp (vs++[]) H1 Q E)=fun vs H1=>sp vs H1 Q E:=by funext vs H1;rw [List.append_nil]
 rw [z];exact h
end
def J9h(i j:Int):Prop:=i.natAbs < 10 ^ 100∧j.natAbs < 10 ^ 100
theorem J3u:(10:Nat) ^ 100≤2 ^ 1000:=by decide+kernel
theorem V6{i:Int}(h:i.natAbs < 10 ^ 100):Builtin.Int.intBits i≤2 ^ 20:=by
 have h1:Builtin.Int.intBits i≤1000:=by
  unfold Builtin.Int.intBits;split
  · omega
  · rename_i hne
    have:=(Nat.log2_lt (n:=i.natAbs) (k:=1000) (by simpa using hne)).mpr (Nat.lt_of_lt_of_le h J3u);omega
 exact Nat.le_trans h1 (by decide)
section
variable {X:Cx}
theorem V7:OpR X (binaryOp .Mult) (rI J9h fun i j=> .int (i * j)):=opI fun _ _ _ _ _ _ _ hc q=>mul_int q (.of_bits (V6 hc.1) (V6 hc.2))
end
def Isi(K:PySem.W.Frag)(H:Hp)(x:V)(n:String)(b:Bool):Prop:=∃t,Le K H x t∧PySem.W.kitOne K t (.type n)=some b
section
variable {X:Cx}
theorem B9:G5 X (.builtin "isinstance") (fun xs H Q=>∃x n b,xs=[x,.ty n]∧Isi X.K H x n b∧Q (.bl b) H):=by
 intro pins s σ H xs us Q I r h;obtain ⟨x,n,b,rfl,⟨t,ty,e⟩,q⟩:=h;obtain ⟨u,c,rfl,r1,r2⟩:=J85 r;cases r2
 exact X6 I r1 ty e fun tk=>⟨.bl b,H,I.tok _,rfl,q⟩
end
section
variable {K:PySem.W.Frag} {H:Hp}
theorem J08{i:Int}:Isi K H (.int i) "int" true:=⟨_,.int i,rfl⟩
theorem J09{i:Int}:Isi K H (.int i) "bool" false:=⟨_,.int i,by with_unfolding_all rfl⟩
theorem J6v{i:Int}:Isi K H (.int i) "str" false:=⟨_,.int i,by with_unfolding_all rfl⟩
theorem U0{i:Bool}:Isi K H (.bl i) "bool" true:=⟨_,.bl i,rfl⟩
theorem J0a{i:Bool}:Isi K H (.bl i) "int" true:=⟨_,.bl i,by with_unfolding_all rfl⟩
theorem J6w{i:Bool}:Isi K H (.bl i) "str" false:=⟨_,.bl i,by with_unfolding_all rfl⟩
theorem J0b{i:Str}:Isi K H (.str i) "str" true:=⟨_,.str i,rfl⟩
theorem J0c{i:Str}:Isi K H (.str i) "int" false:=⟨_,.str i,by with_unfolding_all rfl⟩
theorem J6x{i:Str}:Isi K H (.str i) "bool" false:=⟨_,.str i,by with_unfolding_all rfl⟩
theorem J0d:Isi K H .non "int" false:=⟨_,.non,by with_unfolding_all rfl⟩
theorem J6y:Isi K H .non "str" false:=⟨_,.non,by with_unfolding_all rfl⟩
theorem Na{a:Addr}{xs:List V}(e:H a=some (.lst xs)):Isi K H (.ref a) "list" true:=⟨_,.lst e,rfl⟩
theorem J0e{a:Addr}{xs:List V}(e:H a=some (.lst xs)):Isi K H (.ref a) "str" false:=⟨_,.lst e,by with_unfolding_all rfl⟩
theorem J0f{a:Addr}{xs:List V}(e:H a=some (.lst xs)):Isi K H (.ref a) "int" false:=⟨_,.lst e,by with_unfolding_all rfl⟩
theorem J0g{a:Addr}{xs:List V}(e:H a=some (.lst xs)):Isi K H (.ref a) "tuple" false:=⟨_,.lst e,by with_unfolding_all rfl⟩
theorem J0h{a:Addr}{xs:List V}(e:H a=some (.tup xs)):Isi K H (.ref a) "tuple" true:=⟨_,.tup e,rfl⟩
theorem J0i{a:Addr}{xs:List V}(e:H a=some (.tup xs)):Isi K H (.ref a) "str" false:=⟨_,.tup e,by with_unfolding_all rfl⟩
theorem J0j{a:Addr}{xs:List V}(e:H a=some (.tup xs)):Isi K H (.ref a) "int" false:=⟨_,.tup e,by with_unfolding_all rfl⟩
theorem J0k{a:Addr}{xs:List V}(e:H a=some (.tup xs)):Isi K H (.ref a) "list" false:=⟨_,.tup e,by with_unfolding_all rfl⟩
theorem J6z{x:V}{n:String}{b:Bool}{R:Bool→Prop}(h:Isi K H x n b)(q:R b):∃b,Isi K H x n b∧R b:=⟨b,h,q⟩
theorem J3v{p:Addr}{xs:List V}{R:List V→Prop}(h:SqL K H p xs)(q:R xs):∃ys,(SqL K H p ys∨SqT K H p ys)∧R ys:=⟨xs,.inl h,q⟩
theorem J3w{p:Addr}{xs:List V}{R:List V→Prop}(h:SqT K H p xs)(q:R xs):∃ys,(SqL K H p ys∨SqT K H p ys)∧R ys:=⟨xs,.inr h,q⟩
theorem B5{p:Addr}{xs:List V}{i:Int}{v:V}{Q:VK}(h:SqT K H p xs)(e:atI xs i=some v)(q:Q v H):J8d K (.ref p) (.int i) H Q:=⟨p,xs,i,v,rfl,rfl,h,e,q⟩
theorem Cg{p:Addr}{xs:List V}{i:Int}{v:V}{Q:VK}(h:SqL K H p xs)(e:atI xs i=some v)(q:Q v H):J8c K (.ref p) (.int i) H Q:=⟨p,xs,i,v,rfl,rfl,h,e,q⟩
end
theorem J3x{c:TT}{tb:TS}{D:G7}{σ:St}{H:Hp}{m0:Nat}(Pv:Nat→St→Hp→Prop)(h0:Pv m0 σ H)
 (hs:∀m σ H,Pv m σ H→c σ H fun b H1=>if b=true then ∃N:St→Hp→Prop,(∀σ' H',N σ' H'→∃m',m' < m∧Pv m' σ' H')∧tb {D with nx:=N,ct:=N,bk:=D.nx} σ H1 else D.nx σ H1):Yg c tb D σ H:=⟨Pv,⟨m0,h0⟩,hs⟩
theorem U1{α:Type}{xs:List α}{i:Int}{v:α}(h0:0≤i)(h:xs[i.toNat]?=some v):atI xs i=some v:=by
 unfold atI ixN;have hl:i.toNat < xs.length:=(List.getElem?_eq_some_iff.mp h).1;rw [if_pos h0,if_pos (show i < xs.length by omega)];exact h
theorem J0l{CX:CXT}{P:Program}{w:World}{K:PySem.W.Frag}{mg:Str→Option Value}{base:Heap}{N:List Str}{qual:Str}{scope:Scope}{f:Addr}{cd:Value}{A:Around}{outer:List Env}{s:Shared}{H:Hp}{E:XK}:
 (Qg CX P w K mg base N qual scope f cd A outer s H E).K=K:=rfl
theorem J70{ns:List Int}{k:Nat}(h:k < ns.length):(ns.map V.int)[k]?=some (V.int (ns.getD k 0)):=by
 rw [List.getElem?_map,List.getD_eq_getElem?_getD,List.getElem?_eq_getElem h];rfl
theorem A6.tup{K:PySem.W.Frag}{H H':Hp}{a:Addr}{xs:List V}(e:A6 H H')(h:SqT K H a xs):SqT K H' a xs:=by
 rcases h with (h | ⟨o,h⟩) | h
 · exact .inl (.inl (e _ _ h))
 · exact .inl (.inr ⟨o,e _ _ h⟩)
 · exact .inr h
theorem A6.new{H:Hp}{p:Addr}{o:HO}(h:H p=none):A6 H (upd H p o):=fun b u e=>by
 rw [A5 (Ab e h)];exact e
section
variable {σ:St} {H:Hp} {Q:VK} {QT:Bool→Hp→Prop} {QA:List V→Hp→Prop} {D:G7} {K:PySem.W.Frag}
theorem J0m{te:TE}{g:TG}:Qd te g D σ H=te σ H fun x H1=>g x σ H1 D.nx:=rfl
theorem J0n{i:Nat}:J6i i σ H Q=∃v,σ[i]?=some (some v)∧Q v H:=rfl
theorem J8m{v:V}:tC v σ H Q=Q v H:=rfl
theorem J5n{r:R2}{ta tb:TE}:tOp r ta tb σ H Q=ta σ H fun x H1=>tb σ H1 fun y H2=>r x y H2 Q:=rfl
theorem J5o{g:Int→Int→V}{x y:V}:rI0 g x y H Q=∃i j,x= .int i∧y= .int j∧Q (g i j) H:=rfl
theorem J8n{C:Int→Int→Prop}{g:Int→Int→V}{x y:V}:rI C g x y H Q=∃i j,x= .int i∧y= .int j∧C i j∧Q (g i j) H:=rfl
theorem J8o{g:Int→V}{x:V}:rU g x H Q=∃i,x= .int i∧Q (g i) H:=rfl
theorem V8{i:Nat}{v:V}{N:St→Hp→Prop}:Bq i v σ H N=N (σ.set i (some v)) H:=rfl
theorem J0o{c:TT}{t u:TS}:J7x c t u D σ H=c σ H fun b H1=>if b=true then t D σ H1 else u D σ H1:=rfl
theorem V9{t:TE}:Ym t σ H QT=t σ H fun x H'=>∃k,x= .bl k∧QT k H':=rfl
theorem J8p{t:TE}:tB t σ H QT=t σ H fun x H1=>∃c,x= .bl c∧QT c H1:=rfl
theorem J0p{te:TE}:J7w te D σ H=te σ H D.rt:=rfl
theorem Va:Yd D σ H=D.nx σ H:=rfl
theorem J5p{r:List V→Hp→VK→Prop}{t:TA}:tCB r t σ H Q=t σ H fun vs H1=>r vs H1 Q:=rfl
theorem Vb{ta:TE}{tr:TA}:V0 ta tr σ H QA=ta σ H fun x H1=>tr σ H1 fun xs H2=>QA (x::xs) H2:=rfl
theorem J0q:J6p σ H QA=QA [] H:=rfl
theorem Vc{sp:Sp}{E:XK}{t:TA}:J07 sp E t σ H Q=t σ H fun vs H1=>sp vs H1 Q E:=rfl
theorem J0r{t:TT}:J7u t σ H QT=t σ H fun c H1=>QT (!c) H1:=rfl
theorem J5q{t u:TT}:tOr t u σ H QT=t σ H fun c H1=>if c=true then QT true H1 else u σ H1 QT:=rfl
theorem J0s{t u:TT}:J7t t u σ H QT=t σ H fun c H1=>if c=true then u σ H1 QT else QT false H1:=rfl
theorem Vd{ta tb:TE}:J5a ta tb σ H Q=ta σ H fun x H1=>∃c,x= .bl c∧if c=true then tb σ H1 Q else Q (.bl false) H1:=rfl
theorem Ve{ta:TE}:J5b ta σ H Q=ta σ H fun x H1=>∃c,x= .bl c∧Q (.bl (!c)) H1:=rfl
theorem J5r{t:TT}{ta tb:TE}:tIf t ta tb σ H Q=t σ H fun c H1=>if c=true then ta σ H1 Q else tb σ H1 Q:=rfl
theorem J5s{r:V→Hp→VK→Prop}{ta:TE}:tUn r ta σ H Q=ta σ H fun x H1=>r x H1 Q:=rfl
theorem J5t{x y:V}:rEq x y H Q=(scal x y=true∧Q (.bl (decide (x=y))) H):=rfl
theorem J5u{x y:V}:rNe x y H Q=(scal x y=true∧Q (.bl (!decide (x=y))) H):=rfl
theorem J0t{t:TA}:J89 t σ H Q=t σ H fun xs H1=>xs.length≤sizeLine∧∀p,H1 p=none→Q (.ref p) (upd H1 p (.tup xs)):=rfl
theorem J0u{t:TA}:J8a t σ H Q=t σ H fun xs H1=>xs.length≤sizeLine∧∀p,H1 p=none→Q (.ref p) (upd H1 p (.lst xs)):=rfl
theorem Qo:Ye D σ H=False:=rfl
theorem Vf{te:TE}:J5c te D σ H=te σ H fun _ H1=>D.nx σ H1:=rfl
theorem Qp{t:TG}{u:TGs}{vs:List V}{N:St→Hp→Prop}:My t u vs σ H N=∃v r,vs=v::r∧t v σ H fun σ' H'=>u r σ' H' N:=rfl
theorem Vg{vs:List V}{N:St→Hp→Prop}:J3i vs σ H N=(vs=[]∧N σ H):=rfl
theorem Vh{to ti:TE}{t:J3h}{v:V}{N:St→Hp→Prop}:J7z to ti t v σ H N=to σ H fun o H1=>ti σ H1 fun i H2=>t o i v H2 fun H3=>N σ H3:=rfl
theorem Qq{r r':R2}{ta tb tc:TE}:Tr r r' ta tb tc σ H Q=ta σ H fun x H1=>tb σ H1 fun y H2=>r x y H2 fun z H3=>∃k,z= .bl k∧
 (if k=true then tc σ H3 fun w' H4=>r' y w' H4 Q else Q (.bl false) H3):=rfl
theorem Vi{ta:TA}{R:It→Hp→Prop}:J5e ta σ H R=ta σ H fun vs H1=>∃j:Int,vs=[.int j]∧-(2 ^ 62)≤j∧j < 2 ^ 62∧R (Itr 0 j.toNat) H1:=rfl
theorem Vj{ta:TA}{R:It→Hp→Prop}:J5f ta σ H R=ta σ H fun vs H1=>∃i j:Int,vs=[.int i,.int j]∧(-(2 ^ 62)≤i∧i < 2 ^ 62∧-(2 ^ 62)≤j∧j < 2 ^ 62)∧R (Itr i (j - i).toNat) H1:=rfl
theorem Qr{tl:TE}{R:It→Hp→Prop}:J5d K tl σ H R=tl σ H fun x H1=>∃a,x= .ref a∧(∃xs,SqL K H1 a xs)∧R (Itl K a) H1:=rfl
def Kl(g:TG)(tb:TS)(D:G7)(σ:St):It→Hp→Prop:=fun J H1=>∃W:Nat→Nat→St→Hp→Prop,(∃m,W 0 m σ H1)∧∀i m σ H,W i m σ H→
 (J.stop i H∧D.nx σ H)∨(J.go i H∧∃N:St→Hp→Prop,(∀σ' H',N σ' H'→∃m',m' < m∧W (i+1) m' σ' H')∧∀x H',J.yld i H x H'→g x σ H' fun σ2 H2=>tb {D with nx:=N,ct:=N,bk:=D.nx} σ2 H2)
theorem Vk{wi:TI}{g:TG}{tb:TS}:J80 wi g tb D σ H=wi σ H (Kl g tb D σ):=rfl
theorem Mb{lo:Int}{n:Nat}{g:TG}{tb:TS}(Pv:Nat→St→Hp→Prop)(h0:Pv 0 σ H)
 (hs:∀i σ H,i < n→Pv i σ H→g (.int (lo+i)) σ H fun σ2 H2=>tb {D with nx:=Pv (i+1),ct:=Pv (i+1),bk:=D.nx} σ2 H2) (hd:∀σ H,Pv n σ H→D.nx σ H):Kl g tb D σ (Itr lo n) H:=X2 Pv h0 hs hd
theorem Gv{a:Addr}{xs:List V}{g:TG}{tb:TS}(Pv:Nat→St→Hp→Prop)(h0:Pv 0 σ H)(hl:∀i σ H,i≤xs.length→Pv i σ H→SqL K H a xs)
 (hs:∀i x σ H,xs[i]?=some x→Pv i σ H→g x σ H fun σ2 H2=>tb {D with nx:=Pv (i+1),ct:=Pv (i+1),bk:=D.nx} σ2 H2) (hd:∀σ H,Pv xs.length σ H→D.nx σ H):Kl g tb D σ (Itl K a) H:=Yi Pv h0 hl hs hd
theorem J71{t u:TS}(h:∀rest:St→Hp→Prop,rest=u D→t {D with nx:=rest} σ H):J7v t u D σ H:=h _ rfl
theorem J3y{rest r:St→Hp→Prop}(h:rest=r)(q:r σ H):rest σ H:=by rw [h];exact q
theorem J3z{a:Addr}{ns:List Int}{k:Int}{R:List Int→Prop}(h:SqL K H a (ns.map V.int))(h0:0≤k)(hl:ns.length≤63)(q:R ns):∃x:List Int,SqL K H a (x.map V.int)∧0≤k∧x.length≤63∧R x:=⟨ns,h,h0,hl,q⟩
theorem Pf{i j:Int}(h1:0 < j)(h2:j < 1073741824):J82 i j:=⟨h1,h2⟩
theorem Vl{i j:Int}(h1:0≤j)(h2:j≤1000000)(h3:i.natAbs < 2 ^ 64):J83 i j:=⟨h1,h2,h3⟩
theorem J72{i j:Int}(h1:-(2 ^ 64) < i)(h2:i < 2 ^ 64):Yj i j:= .inl ⟨h1,h2⟩
theorem J73{i j:Int}(h1:-(2 ^ 64) < j)(h2:j < 2 ^ 64):Yj i j:= .inr ⟨h1,h2⟩
end
end L2
namespace L2
def El(CX:CXT)(X:Cx)(EE:St→XK):Prop:=∀(pins:List (Addr×Obj)) (σ:St) (H:Hp) (s:Shared) (e:Value) (s':Shared),Inv X pins σ H s→CX X.stack H s (EE σ) e s'→X.xe e s'
abbrev TH:=Value→Addr→TS
end L2
namespace L2
theorem Ph{prog:Program}{w:World}{A:Around}{R:Result→Shared→Prop}{s:Shared}{elt target iter:Expr}{ifs:List Expr}{scope:Scope}{pos:Pos}{it acc:Value}{env:Env}(I:Nat→Shared→Prop)
 (turn:∀n s,I n s→wpAny (model prog w) A (pyNext it) (fun r s₁=>match r with
  | none=>R (.ok .next) s₁
  | some v=>wpAny (model prog w) A (letOwnedTupleGo target it v) (fun _ s₁=>wpAny (model prog w) A (assign target env v) (fun _ s₂=>
   wpAny (model prog w) A (forIn ifs true fun c r=>if r=true then do let ok ← isTrue c env (eval c env);pure (ForInStep.yield ok) else pure (ForInStep.yield r)) (fun ok s₃=>
    if ok=true then wpAny (model prog w) A (eval elt env) (fun x s₄=>
     wpAny (model prog w) A (call (.builtin "list.append") [acc,x]) (fun _ s₅=>∃m,m < n∧I m s₅) (notedBy (model prog w) A env fun e s'=>R (.error e) s') s₄) (notedBy (model prog w) A env fun e s'=>R (.error e) s') s₃
    else ∃m,m < n∧I m s₃) (notedBy (model prog w) A env fun e s'=>R (.error e) s') s₂) (notedBy (model prog w) A env fun e s'=>R (.error e) s') s₁) (notedBy (model prog w) A env fun e s'=>R (.error e) s') s₁) (notedBy (model prog w) A env fun e s'=>R (.error e) s') s)
 (n:Nat) (h:I n s):
 codeAny (model prog w) A (.compLoop (.ListComp elt [⟨target,iter,ifs,0⟩] scope pos) 0 it acc env) R s:=by
 refine codeAny_loop rfl I (fun n s hI=>?_) n h;show wpAny _ A ((compTurn (.ListComp elt [⟨target,iter,ifs,0⟩] scope pos) 0 it acc env).onRaise (fun x=>do noteFrame x env;theTreesLotGoes x)) _ _ s;refine wpAny_noted ?_;rw [compTurn_list];refine wpAny_bind (wpAny_standAt (wpAny_bind (wpAny_mono (turn n s hI) (fun r s₁ h₁=>?_) fun _ _ h'=>h')))
 cases r with
 | none=>exact wpAny_pure h₁
 | some v=>
  refine wpAny_bind (wpAny_mono h₁ (fun _ s₁ h₁=>?_) fun _ _ h'=>h');refine wpAny_bind (wpAny_mono h₁ (fun _ s₂ h₂=>wpAny_bind (wpAny_mono h₂ (fun ok s₃ h₃=>?_) fun _ _ h'=>h')) fun _ _ h'=>h')
  cases ok with
  | false=>exact wpAny_pure ⟨rfl,h₃⟩
  | true=>
   exact wpAny_bind (wpAny_bind (wpAny_mono h₃ (fun x s₄ h₄=>wpAny_bind (wpAny_mono h₄ (fun _ s₅ h₅=>wpAny_pure (wpAny_pure ⟨rfl,h₅⟩)) fun _ _ h'=>h')) fun _ _ h'=>h'))
def clo(env:Env):List (Str×NameKind)→List (Str×Addr)→List (Str×Addr)
 | [],cs=>cs
 | (n,k)::r,cs=>clo env r (if (k== .free)=true then (match env.cells.lookup n with | some c=>(n,c)::cs | none=>cs) else cs)
theorem Qs{env:Env}:∀(names:List (Str×NameKind)) (cs:List (Str×Addr)),(∀y∈names,y.2= .free→∃c,env.cells.lookup y.1=some c)→
 (forIn (m:=Sem) names cs fun (x:Str×NameKind) (r:List (Str×Addr))=>match x with | (name,kind)=>if (kind== .free)=true then do let c ← cellOf env name;pure (ForInStep.yield ((name,c)::r)) else pure (ForInStep.yield r))=pure (clo env names cs)
 | [],cs,_=>rfl
 | (n,k)::r,cs,h=>by
  rw [List.forIn_cons];have ih:=fun cs=>Qs r cs fun y hy=>h y (List.mem_cons_of_mem _ hy)
  by_cases hk:(k==NameKind.free)=true
  · obtain ⟨c,hc⟩:=h (n,k) List.mem_cons_self (by simpa using hk)
    have e:cellOf env n=pure c:=by unfold cellOf;rw [show env.cells.lookup n=some c from hc]
    simp only [hk,if_true,e,clo];rw [show env.cells.lookup n=some c from hc];exact ih _
  · simp only [hk,clo]
    exact ih _
theorem Lw{scope:Scope}{env:Env}(h:∀y∈scope.names,y.2= .free→∃c,env.cells.lookup y.1=some c):closureFor scope env=pure (clo env scope.names []):=by
 unfold closureFor;show (forIn (m:=Sem) scope.names ([]:List (Str×Addr)) _ >>=fun r=>pure r)=_;rw [Qs scope.names [] h];rfl
theorem Lg{env:Env}{x:Str}{c:Addr}:∀(names:List (Str×NameKind)) (cs:List (Str×Addr)),(clo env names cs).lookup x=some c→env.cells.lookup x=some c∨cs.lookup x=some c
 | [],cs,h=> .inr h
 | (n,k)::r,cs,h=>by
  unfold clo at h;rcases Lg r _ h with q | q
  · exact .inl q
  · split at q
    · split at q
      · rename_i c' hc
        rw [List.lookup_cons]at q
        cases hx:x==n with
        | true=>
         rw [hx]at q
         have e:x=n:=by simpa using hx
         subst e;simp only [Option.some.injEq]at q;subst q;exact .inl hc
        | false=>rw [hx]at q;exact .inr q
      · exact .inr q
    · exact .inr q
theorem Pj{env:Env}{x:Str}{c:Addr}(hc:env.cells.lookup x=some c):∀(names:List (Str×NameKind)) (cs:List (Str×Addr)),(cs.lookup x=some c∨(cs.lookup x=none∧(x,NameKind.free)∈names))→(clo env names cs).lookup x=some c
 | [],cs,h=>by
  rcases h with h | ⟨_,h⟩
  · exact h
  · cases h
 | (n,k)::r,cs,h=>by
  unfold clo;refine Pj hc r _ ?_
  by_cases hx:x=n
  · subst hx
    by_cases hk:(k==NameKind.free)=true
    · rw [if_pos hk,hc]
      exact .inl (by simp [List.lookup_cons])
    · rw [if_neg hk]
      rcases h with h | ⟨h1,h2⟩
      · exact .inl h
      · refine .inr ⟨h1,?_⟩
        rcases List.mem_cons.mp h2 with e | e
        · cases e;exact absurd rfl hk
        · exact e
  · have hb:(x==n)=false:=by simpa using hx
    have key:∀cs':List (Str×Addr),cs'.lookup x=cs.lookup x→(cs'.lookup x=some c∨(cs'.lookup x=none∧(x,NameKind.free)∈r)):=fun cs' e=>by
     rw [e];rcases h with h | ⟨h1,h2⟩
     · exact .inl h
     · refine .inr ⟨h1,?_⟩
       rcases List.mem_cons.mp h2 with e | e
       · cases e;exact absurd rfl hx
       · exact e
    refine key _ ?_;split
    · split
      · simp [List.lookup_cons,hb]
      · rfl
    · rfl
theorem Em{env:Env}{k':NameKind}:∀{names:List (Str×NameKind)} {x:Str},(∀y∈names,y.2≠ .cell)→
 (names.map fun (n,k)=>if (k==NameKind.free && env.scope.kind== .function && env.kindOf n==some .cell) then (n,NameKind.cell) else (n,k)).lookup x=some k'→(k'= .cell∨k'= .free)→(x,NameKind.free)∈names
 | [],_,_,h,_=>by simp at h
 | (n,k)::r,x,hc,h,hk=>by
  have ih:=@Em env k' r x (fun y hy=>hc y (List.mem_cons_of_mem _ hy));have h':List.lookup x ((if (k==NameKind.free && env.scope.kind== .function && env.kindOf n==some .cell)=true then (n,NameKind.cell) else (n,k))::(r.map fun (n,k)=>if (k==NameKind.free && env.scope.kind== .function && env.kindOf n==some .cell) then (n,NameKind.cell) else (n,k)))=some k':=h
  by_cases hx:x=n
  · subst hx
    by_cases q:(k==NameKind.free && env.scope.kind== .function && env.kindOf x==some .cell)=true
    · have:k= .free:=by simp only [Bool.and_eq_true,beq_iff_eq]at q;exact q.1.1
      subst this;exact List.mem_cons_self
    · rw [if_neg q,List.lookup_cons]at h'
      simp only [beq_self_eq_true]at h';have e:k=k':=Option.some.inj h';rcases hk with z | z
      · exact absurd (e.trans z) (hc (x,k) List.mem_cons_self)
      · rw [e.trans z];exact List.mem_cons_self
  · have hb:(x==n)=false:=by simpa using hx
    refine List.mem_cons_of_mem _ (ih ?_ hk);split at h'
    · rw [List.lookup_cons,hb]at h';exact h'
    · rw [List.lookup_cons,hb]at h';exact h'
theorem Dc{env:Env}:∀{names:List (Str×NameKind)} {x:Str},names.lookup x=some .free→
 (names.map fun (n,k)=>if (k==NameKind.free && env.scope.kind== .function && env.kindOf n==some .cell) then (n,NameKind.cell) else (n,k)).lookup x=some .cell∨
 (names.map fun (n,k)=>if (k==NameKind.free && env.scope.kind== .function && env.kindOf n==some .cell) then (n,NameKind.cell) else (n,k)).lookup x=some .free
 | [],_,h=>by simp at h
 | (n,k)::r,x,h=>by
  have ih:=@Dc env r x;show List.lookup x ((if (k==NameKind.free && env.scope.kind== .function && env.kindOf n==some .cell)=true then (n,NameKind.cell) else (n,k))::_)=_∨List.lookup x ((if (k==NameKind.free && env.scope.kind== .function && env.kindOf n==some .cell)=true then (n,NameKind.cell) else (n,k))::_)=_
  cases hx:x==n with
  | true=>
   simp only [List.lookup_cons,hx]at h;cases h;split
   · left;simp [List.lookup_cons,hx]
   · right;simp [List.lookup_cons,hx]
  | false=>
   simp only [List.lookup_cons,hx]at h;split
   · simp only [List.lookup_cons,hx];exact ih h
   · simp only [List.lookup_cons,hx];exact ih h
structure Blk where
 s:Shared
 H:Hp
 C:Addr
 fp:List Addr
abbrev Cx.blk(X:Cx)(scope:Scope)(N':List Str)(b:Blk):Cx:=
 {X with N:=N',s₀:=b.s,H₀:=b.H,env:=compEnvC scope (clo X.env scope.names []) b.C X.env,outer:=X.stack,ex:=b.fp,fn:=fun _=>false,pn:=[],xe:=fun _ _=>False}
def around(N:List Str)(fs:List Nat):List Str:=fs.map fun j=>N.getD j ""
def Bv(N:List Str)(esc scope:Scope)(xs:List Str)(fs:List Nat):Bool:=
 decide (xs++around N fs).Nodup && (match scope.kind with | .function=>true | _=>false) && xs.all (fun x=>decide (scope.names.lookup x=some .local)) &&
 scope.names.all (fun y=>decide (y.2≠ .cell) && (!decide (y.2= .local) || decide (scope.names.lookup y.1=some .local)) && (!decide (y.2= .free) || decide (esc.names.lookup y.1=some .cell) || decide (esc.names.lookup y.1=some .free))) &&
 fs.all fun j=>decide (j < N.length) && decide (scope.names.lookup (N.getD j "")=some .free)
structure Pk(N:List Str)(esc scope:Scope)(xs:List Str)(fs:List Nat):Prop where
 nd:(xs++around N fs).Nodup
 kind:scope.kind= .function
 own:∀x∈xs,scope.names.lookup x=some .local
 cell:∀y∈scope.names,y.2≠ .cell
 names:∀y∈scope.names,y.2= .local→scope.names.lookup y.1=some .local
 free:∀y∈scope.names,y.2= .free→esc.names.lookup y.1=some .cell∨esc.names.lookup y.1=some .free
 fs:∀j∈fs,j < N.length∧scope.names.lookup (N.getD j "")=some .free
theorem Cv{N:List Str}{esc scope:Scope}{xs:List Str}{fs:List Nat}(h:Bv N esc scope xs fs=true):Pk N esc scope xs fs:=by
 unfold Bv at h;simp only [Bool.and_eq_true,decide_eq_true_eq,List.all_eq_true]at h;obtain ⟨⟨⟨⟨h1,h2⟩,h3⟩,h4⟩,h5⟩:=h;refine ⟨h1,?_,h3,fun y hy=>(h4 y hy).1.1,fun y hy e=>?_,fun y hy e=>?_,h5⟩
 · split at h2
   · assumption
   · cases h2
 · have:=(h4 y hy).1.2
   simpa [e] using this
 · have:=(h4 y hy).2
   simpa [e] using this
section
variable {X:Cx} {pins:List (Addr×Obj)} {σ:St} {H:Hp} {s:Shared} {scope:Scope} {xs:List Str} {fs:List Nat} {fp:List Addr} {C:Addr}
theorem J74(I:Inv X pins σ H s)(O:Pk X.N X.env.scope scope xs fs)(hf:∀b∈fp,D8 X pins H b)(hC:s.heap.objs.size≤C)(hfp:∀b∈fp,b < s.heap.objs.size):(X.blk scope (xs++around X.N fs) ⟨s,H,C,fp⟩).Ok:=by
 have hcl:∀x c,(clo X.env scope.names []).lookup x=some c→X.env.cells.lookup x=some c:=fun x c e=>by
  rcases Lg _ _ e with q | q
  · exact q
  · cases q
 have hsz:∀b o,X.base.get? b=some o→b < X.s₀.heap.objs.size:=fun b o e=>Nat.lt_of_lt_of_le (Heap.lt_size e) I.ok.bsz;refine ⟨I.ok.mod,O.kind,I.ok.glob,I.ok.blt,hC,fun x y c h1 h2=>I.ok.inj x y c (hcl x c h1) (hcl y c h2),fun x hx=>?_,fun x c z=>(by cases z),I.ok.hd,I.ok.frames,.inl rfl,fun b hb=>⟨Nat.ne_of_lt (Nat.lt_of_lt_of_le (hfp b hb) hC),fun x c e=>(hf b hb).2.2.2.2.1 x c (hcl x c e)⟩,I.bs,Nat.le_trans I.ok.bsz I.sz,fun b o e hb=>?_,fun b hb hs=>?_,I.stack,I.stkFree⟩
 · have hm:(x,NameKind.free)∈scope.names:=by
    rcases hx with hx | hx
    · exact Em (env:=X.env) O.cell (show (scope.names.map _).lookup x=some NameKind.cell from hx) (.inl rfl)
    · exact Em (env:=X.env) O.cell (show (scope.names.map _).lookup x=some NameKind.free from hx) (.inr rfl)
   obtain ⟨c,hc⟩:=I.ok.has x (O.free _ hm rfl);exact ⟨c,Pj hc _ _ (.inr ⟨rfl,hm⟩)⟩
 · obtain ⟨_,_,_,h4,_⟩:=hf b hb
   rcases h4 with h4 | h4
   · exact I.ok.noex b o e h4
   · exact absurd (Nat.lt_of_lt_of_le (hsz b o e) h4) (Nat.lt_irrefl _)
 · obtain ⟨_,h2,h3,_⟩:=hf b hb
   exact (List.mem_cons.mp (I.stkSub b hs)).elim h2 h3
theorem J75{h1:Heap}{t:Nat}{D:Addr}{m:Str→Option Value}(I:Inv X pins σ H s)(O:Pk X.N X.env.scope scope xs fs)(hf:∀b∈fp,D8 X pins H b)(hD:s.heap.objs.size≤D)(hC:s.heap.objs.size≤C)(hfp:∀b∈fp,b < s.heap.objs.size)(hDC:D≠C)
 (k:∀b u,s.heap.get? b=some u→h1.get? b=some u) (hDo:h1.get? D=some {cls:= .type "list",data:= .seq #[] 0}) (hn:h1.Ns C m):
 Inv (X.blk scope (xs++around X.N fs) ⟨s,H,C,fp⟩) [] (xs.map (fun _=>none)++fs.map fun j=>σ.getD j none) (upd H D (.lst [])) {s with heap:=h1,toks:=t}:=by
 have hcl:∀x c,(clo X.env scope.names []).lookup x=some c→X.env.cells.lookup x=some c:=fun x c e=>by
  rcases Lg _ _ e with q | q
  · exact q
  · cases q
 have ok:=J74 (C:=C) I O hf hC hfp;have hnD:H D=none:=I.hok.fresh hD;refine ⟨ok,rfl,I.bare,Un.laid k hD hnD,⟨m,hn,fun i x v e1 e2 e3=>?_⟩,fun x c e=>?_,?_,fun x c e=>?_,fun p hp=>absurd (show p∈([]:List (Addr×Obj)) from hp) (by simp),I.hok.laid k hD ⟨Nat.zero_le _,[],0,.nil,hDo⟩,by simp [around]⟩
 · by_cases hi:i < xs.length
   · rw [List.getElem?_append_left (by simpa using hi),List.getElem?_map]at e2
     cases q:xs[i]? with
     | none=>rw [q]at e2;cases e2
     | some a=>rw [q]at e2;cases e2
   · have hi:xs.length≤i:=Nat.le_of_not_lt hi
     rw [List.getElem?_append_right (by simpa using hi)]at e1 e2;unfold around at e1;rw [List.length_map]at e2;rw [List.getElem?_map]at e1 e2
     cases q:fs[i - xs.length]? with
     | none=>rw [q]at e2;cases e2
     | some j=>
      rw [q]at e1 e2;simp only [Option.map_some,Option.some.injEq]at e1 e2;obtain ⟨hj,hl⟩:=O.fs j (List.mem_of_getElem? q);obtain ⟨m0,_,hl0⟩:=I.loc
      have e1':X.N[j]?=some x:=by rw [← e1,List.getD_eq_getElem?_getD,List.getElem?_eq_getElem hj];rfl
      have e2':σ[j]?=some (some v):=by
       rw [List.getD_eq_getElem?_getD]at e2
       cases z:σ[j]? with
       | none=>rw [z]at e2;cases e2
       | some y=>rw [z]at e2;simp only [Option.getD_some]at e2;rw [e2]
      rw [e1]at hl;have hm:(x,NameKind.free)∈scope.names:=PySem.mem_of_lookup hl;have hk:=O.free _ hm rfl;obtain ⟨u,r,l⟩:=hl0 j x v e1' e2' (hk.elim (fun z=> .inr (.inl z)) fun z=> .inr (.inr z));refine ⟨u,r,?_⟩;rcases l with ⟨z,_⟩ | ⟨_,c,hc,cell⟩
      · have z':X.env.scope.names.lookup x=some .local:=z
        rcases hk with hk | hk <;> (rw [z']at hk;cases hk)
      · refine .inr ⟨?_,c,Pj hc _ _ (.inr ⟨rfl,hm⟩),?_⟩
        · exact Dc (env:=X.env) hl
        · obtain ⟨o,ho,hd⟩:=cell
          exact ⟨o,k _ _ ho,hd⟩
 · obtain ⟨v,o,ho,hd⟩:=I.cell x c (hcl x c e)
   exact ⟨v,o,k _ _ ho,hd⟩
 · show upd H D (.lst []) C=none
   rw [A5 (Ne.symm hDC)];exact I.hok.fresh hC
 · obtain ⟨v,q⟩:=I.cell x c (hcl x c e)
   rw [A5 (Nat.ne_of_lt (Nat.lt_of_lt_of_le q.lt hD))];exact I.freeC x c (hcl x c e)
theorem J40{N':List Str}{σ':St}{H':Hp}{s':Shared}{h2:Heap}{pl:List (Addr×Obj)}(I:Inv X pins σ H s)(hf:∀b∈fp,D8 X pins H b)(hC:s.heap.objs.size≤C)(J:Inv (X.blk scope N' ⟨s,H,C,fp⟩) pl σ' H' s')(sb:Heap.SameBut C s'.heap h2):
 Inv X pins σ H' {s' with heap:=h2}:=by
 have u:=J.base;have ne:∀b o,s.heap.get? b=some o→b≠C:=fun b o e=>Nat.ne_of_lt (Nat.lt_of_lt_of_le (Heap.lt_size e) hC);refine I.call' (ch:=fp) J.os ⟨fun b o e n h1 h2=>(sb.2 b (ne b o e)).trans (u.keep b o e n h1 h2),fun b o e n h1 h2=>?_,u.free,fun b o e hx=>?_,u.tups,u.frzs,u.tbls⟩ (fun a o e=>?_) J.bare fun b hb=>?_
 · obtain ⟨sl,q⟩:=u.slot b o e n h1 h2
   exact ⟨sl,(sb.2 b (ne b o e)).trans q⟩
 · obtain ⟨o',q⟩:=u.there b o e hx
   exact ⟨o',(sb.2 b (ne b o e)).trans q⟩
 · have fr:H' C=none:=J.free
   refine (J.hok a o e).stay (fun b v hc q=>(sb.2 b ?_).trans q) (fun _ q=>q) fun _ _ q=>q;rcases hc with rfl | hc
   · exact Ab e fr
   · exact Ab hc fr
 · obtain ⟨_,h2,h3,h4,h5,h6⟩:=hf b hb
   exact ⟨h4,h2,h5,h6⟩
end
end L2
namespace L2
def J41(σ σ':St):Prop:=∀(i:Nat) (v:V),σ[i]?=some (some v)→σ'[i]?=some (some v)
def PTs(X:Cx)(ifs:List Expr)(t:TT):Prop:=
 ∀(pins:List (Addr×Obj)) (s:Shared) (σ:St) (H:Hp) (Q:Bool→Hp→Prop),Inv X pins σ H s→t σ H Q→
   wpAny (model X.prog X.w) X.A (forIn ifs true fun c r=>if r=true then do let ok ← isTrue c X.env (eval c X.env);pure (ForInStep.yield ok) else pure (ForInStep.yield r)) (TP X pins σ Q) X.xe s
def Cu:TT:=fun _ H Q=>Q true H
theorem Km{X:Cx}:PTs X [] Cu:=fun _ _ _ H _ I h=>wpAny_tests_nil ⟨H,I,h⟩
theorem Pl{X:Cx}{c:Expr}{t:TT}(hc:PT X c t):PTs X [c] t:=fun pins s σ H Q I h=>wpAny_tests_one (hc pins s σ H Q I h)
def B6(σ0:St)(g:Blk→TG)(tt:Blk→TT)(te:Blk→TE)(Q:VK)(J:It)(H1:Hp):Prop:=∀(b:Blk) (D:Addr),H1 D=none→∃W:Nat→Nat→List V→Hp→Prop,(∃m,W 0 m [] (upd H1 D (.lst [])))∧∀i m ys H2,W i m ys H2→H2 D=some (.lst ys)∧
 ((J.stop i H2∧Q (.ref D) H2)∨(J.go i H2∧∀x H3,J.yld i H2 x H3→g b x σ0 H3 fun σ6 H6=>J41 σ0 σ6∧tt b σ6 H6 fun ok H7=>
   if ok=true then te b σ6 H7 fun y H8=>H8 D=some (.lst ys)∧ys.length < sizeLine∧∃m',m' < m∧W (i+1) m' (ys++[y]) (upd H8 D (.lst (ys++[y])))
   else ∃m',m' < m∧W (i+1) m' ys H7))
def Of(wi:TI)(n:Nat)(fs:List Nat)(g:Blk→TG)(tt:Blk→TT)(te:Blk→TE):TE:=fun σ H Q=>wi σ H (B6 (List.replicate n none++fs.map fun j=>σ.getD j none) g tt te Q)
section
variable {X:Cx} {pins:List (Addr×Obj)} {σ:St} {scope:Scope} {xs:List Str} {fs:List Nat} {elt tg iter:Expr} {ifs:List Expr} {pos:Pos} {wi:TI} {g:Blk→TG} {tt:Blk→TT} {te:Blk→TE}
theorem Og{H:Hp}{s:Shared}{C:Addr}{h2:Heap}(I:Inv X pins σ H s)(F:D8 X pins H C)(sb:Heap.SameBut C s.heap h2):Inv X pins σ H {s with heap:=h2}:=
 I.turned (t':=s.toks) (fun b o hb e=>(sb.2 b hb).trans e) F.1 F.2.1 F.2.2.2.1 F.2.2.2.2.1 F.2.2.2.2.2
theorem Qt{Q:VK}{itv:Value}{s2:Shared}{E:Value→Shared→Prop}{RR:Value→Addr→Result→Shared→Prop}(hc:X.calm=true)(O:Pk X.N X.env.scope scope xs fs)
 (hg:∀b,PG (X.blk scope (xs++around X.N fs) b) tg (g b)) (ht:∀b,PTs (X.blk scope (xs++around X.N fs) b) ifs (tt b)) (he:∀b,PE (X.blk scope (xs++around X.N fs) b) elt (te b))
 (h:PIE X pins σ tg (B6 (List.replicate xs.length none++fs.map fun j=>σ.getD j none) g tt te Q) itv s2)
 (hR:∀D C s' m H',s'.heap.Ns C m→Inv X pins σ H' s'→Q (.ref D) H'→D8 X pins H' C→RR (.ref D) C (.ok .next) s'):
 wpAny (model X.prog X.w) X.A (newList []) (fun acc s₃=>wpAny (model X.prog X.w) X.A (newFunctionEnv scope X.env.globals (clo X.env scope.names []) [] X.env.qual none .none (some X.env)) (fun cenv s₄=>
  codeAny (model X.prog X.w) X.A (.compStart (.ListComp elt [⟨tg,iter,ifs,0⟩] scope pos) 0 itv acc {cenv with scope:=relabel scope X.env}) (RR acc cenv.locals) s₄) E s₃) E s2:=by
 obtain ⟨it,fp,tn,J,H2,rfl,I2,T,st2,f2,rd⟩:=h
 have hfp:∀b∈fp,b < s2.heap.objs.size:=fun b hb=>by
  obtain ⟨o,e,_⟩:=T.obj _ _ st2 b hb;exact Heap.lt_size e
 refine wpAny_newObj_type (wpAny_newFunctionEnv O.cell (by intro y hy;simp at hy) (fun h₁ hns₁ hsb₁=>?_) O.kind);dsimp only at hns₁ hsb₁ ⊢;generalize hH2:s2.heap.push {cls:= .type "list",dict:=none,data:= .seq ([]:List Value).toArray}=HH at hns₁ hsb₁ ⊢
 have hC:HH.objs.size=s2.heap.objs.size+1:=by rw [← hH2,Heap.size_push]
 have hDC:s2.heap.objs.size≠HH.objs.size:=by rw [hC];exact Nat.ne_of_lt (Nat.lt_succ_self _)
 have hCle:s2.heap.objs.size≤HH.objs.size:=by rw [hC];exact Nat.le_succ _
 have old:∀b o,s2.heap.get? b=some o→h₁.get? b=some o:=fun b o e=>hsb₁.extBut b o (by rw [hC];exact Nat.ne_of_lt (Nat.lt_succ_of_lt (Heap.lt_size e))) (Heap.get?_push_of_some _ (hH2▸Heap.get?_push_of_some _ e));have hacc:h₁.get? s2.heap.objs.size=some {cls:= .type "list",data:= .seq #[] 0}:=hsb₁.extBut _ _ hDC (Heap.get?_push_of_some _ (hH2▸Heap.get?_push_size _ rfl));obtain ⟨W,⟨m0,w0⟩,turn⟩:=rd ⟨s2,H2,HH.objs.size,fp⟩ s2.heap.objs.size I2.fresh;have I3:=J75 (t:=s2.toks+([]:List (Str×Value)).length) I2 O f2 (Nat.le_refl _) hCle hfp hDC old hacc hns₁;rw [show xs.map (fun _=>(none:Option V))=List.replicate xs.length none from List.map_const' ..]at I3;generalize hX:X.blk scope (xs++around X.N fs) ⟨s2,H2,HH.objs.size,fp⟩=X' at I3
 have stat:∀{H':Hp},(∀b∈fp,H' b=none)→∀b∈fp,D8 X' [] H' b:=fun hn b hb=>by
  subst hX;refine ⟨hn b hb,?_,?_,.inl hb,fun x c e=>?_,fun p hp=>absurd hp (by simp)⟩
  · exact (I3.ok.exf b hb).1
  · exact I3.ok.exfs b hb
  · exact (I3.ok.exf b hb).2 x c e
 have fr3:∀b∈fp,upd H2 s2.heap.objs.size (.lst []) b=none:=fun b hb=>by
  rw [A5 (Nat.ne_of_lt (hfp b hb))];exact (f2 b hb).1
 have ccell:∀y c,X.env.cells.lookup y=some c→c≠HH.objs.size:=fun y c e=>by
  obtain ⟨v,q⟩:=I2.cell y c e;exact Nat.ne_of_lt (Nat.lt_of_lt_of_le q.lt hCle)
 have cloc:HH.objs.size≠X.env.locals:=(Nat.ne_of_lt (Nat.lt_of_lt_of_le I2.lt hCle)).symm
 have eP:X'.prog=X.prog:=by rw [← hX]
 have ew:X'.w=X.w:=by rw [← hX]
 have eK:X'.K=X.K:=by rw [← hX]
 have eA:X'.A=X.A:=by rw [← hX]
 have ec:X'.calm=true:=by rw [← hX];exact hc
 have ex:X'.xe=fun _ _=>False:=by rw [← hX]
 have een:X'.env=compEnvC scope (clo X.env scope.names []) HH.objs.size X.env:=by rw [← hX]
 have hg':=hg ⟨s2,H2,HH.objs.size,fp⟩;have ht':=ht ⟨s2,H2,HH.objs.size,fp⟩;have he':=he ⟨s2,H2,HH.objs.size,fp⟩;rw [hX]at hg' ht' he';have st1:tn 0 h₁:=T.keep _ _ _ st2 fun b hb o e=>old b o e
 have loop:∀s₃:Shared,s₃={s2 with heap:=h₁,toks:=s2.toks+([]:List (Str×Value)).length}→
  codeAny (model X.prog X.w) X.A (.compLoop (.ListComp elt [⟨tg,iter,ifs,0⟩] scope pos) 0 (.ref it) (.ref s2.heap.objs.size) (compEnvC scope (clo X.env scope.names []) HH.objs.size X.env))
   (RR (.ref s2.heap.objs.size) HH.objs.size) s₃:=by
  rintro s₃ rfl;refine Ph (fun n s'=>∃i ys H',Inv X' [] (List.replicate xs.length none++fs.map fun j=>σ.getD j none) H' s'∧tn i s'.heap∧(∀b∈fp,H' b=none)∧W i n ys H') ?_ m0 ⟨0,[],_,I3,st1,fr3,w0⟩;rintro n s4 ⟨i,ys,H4,I4,st4,fr4,w4⟩;obtain ⟨hD4,tn4⟩:=turn i n ys H4 w4;rcases tn4 with ⟨stop,qn⟩ | ⟨go,step⟩
  · have td:=T.done X' eP ew eK ec i [] s4 _ H4 (notedBy (model X.prog X.w) X.A (compEnvC scope (clo X.env scope.names []) HH.objs.size X.env) fun e s'=>RR (.ref s2.heap.objs.size) HH.objs.size (.error e) s') I4 (stat fr4) st4 stop
    rw [eA]at td;refine thn td fun r s5 ⟨hr,I5⟩=>?_;subst hr;obtain ⟨m5,hn5,_⟩:=I5.loc;rw [een]at hn5
    have fr5:H4 HH.objs.size=none:=by have:=I5.free;rw [een]at this;exact this
    rw [← hX]at I5;exact hR _ _ _ m5 H4 hn5 (J40 I2 f2 hCle I5 (Heap.SameBut.refl ..)) qn (I2.fpOk hCle fr5)
  · have ti:=T.item X' eP ew eK ec i [] s4 _ H4 (notedBy (model X.prog X.w) X.A (compEnvC scope (clo X.env scope.names []) HH.objs.size X.env) fun e s'=>RR (.ref s2.heap.objs.size) HH.objs.size (.error e) s') I4 (stat fr4) st4 go
    rw [eA]at ti;refine thn ti fun r s5 ⟨u,hr,h5⟩=>?_;subst hr;refine thn h5 fun _ s6 hq_=>?_;obtain ⟨x,H6,I6,r6,y6,st6,fr6⟩:=hq_;have I6':=I6.pinned (stat fr6) (T.obj _ _ st6);have g1:=hg' _ s6 _ H6 x u _ I6' r6 (step x H6 y6);rw [eP,ew,eA,een,ex]at g1;refine wpAny_mono g1 (fun _ s7 hq_=>?_) fun _ _ z=>z.elim;obtain ⟨σ7,H7,I7,kp7,q7⟩:=hq_;have t1:=ht' _ s7 σ7 H7 _ I7 q7;rw [eP,ew,eA,een,ex]at t1
    have back:∀{H9:Hp} {s9:Shared},Inv X' ([]++La fp s6.heap) σ7 H9 s9→Inv X' [] (List.replicate xs.length none++fs.map fun j=>σ.getD j none) H9 s9∧tn (i+1) s9.heap∧∀b∈fp,H9 b=none:=fun {H9 s9} I9=>by
     refine ⟨I9.unpinned.weak ?_ kp7,T.keep _ _ _ st6 fun b hb o e=>(I9.pin (b,o) (List.mem_append_right _ (List.mem_append_right _ (Eh hb e)))).1,fun b hb=>?_⟩
     · rw [I9.len,I4.len]
     · obtain ⟨o,e,d⟩:=T.obj _ _ st6 b hb
       exact (I9.pin (b,o) (List.mem_append_right _ (List.mem_append_right _ (Eh hb e)))).2.1
    refine wpAny_mono t1 (fun ok s8 ⟨H8,I8,q8⟩=>?_) fun _ _ z=>z.elim
    cases ok with
    | false=>
     rw [if_neg Bool.false_ne_true]at q8 ⊢;obtain ⟨m',hm,w8⟩:=q8;obtain ⟨b1,b2,b3⟩:=back I8;exact ⟨m',hm,i+1,ys,H8,b1,b2,b3,w8⟩
    | true=>
     rw [if_pos rfl]at q8 ⊢;have e1:=he' _ s8 σ7 H8 _ I8 q8;rw [eP,ew,eA,een,ex]at e1;refine wpAny_mono e1 (fun uy s9 hq_=>?_) fun _ _ z=>z.elim;obtain ⟨y,H9,I9,r9,hD9,hz,m',hm,w9⟩:=hq_;have a1:=C4 (X:=X') (pins:=[]++La fp s6.heap) (s:=s9) (σ:=σ7) (H:=H9) (x:= .ref s2.heap.objs.size) (xs:=[y]) (v:= .ref s2.heap.objs.size) (us:=[uy]) (Q:=fun _ H'=>H'=upd H9 s2.heap.objs.size (.lst (ys++[y]))) I9 rfl (.cons r9 .nil) ⟨_,ys,y,rfl,rfl,hD9,hz,rfl⟩;rw [eP,ew,eA,ex]at a1;refine wpAny_mono a1 (fun _ s10 hq_=>?_) fun _ _ z=>z.elim;obtain ⟨_,H10,I10,_,e10⟩:=hq_;subst e10;obtain ⟨b1,b2,b3⟩:=back I10;exact ⟨m',hm,i+1,_,_,b1,b2,b3,w9⟩
 exact codeAny_compStart_list (loop _ rfl) (T.self _ 0 _ _ _ st1 (loop _ rfl))
theorem Kn(hc:X.calm=true)(hok:Bv X.N X.env.scope scope xs fs=true)(hi:PI X tg iter wi)
 (hg:∀b,PG (X.blk scope (xs++around X.N fs) b) tg (g b)) (ht:∀b,PTs (X.blk scope (xs++around X.N fs) b) ifs (tt b)) (he:∀b,PE (X.blk scope (xs++around X.N fs) b) elt (te b))
 (hs:∀x,foldedSetIterable iter X.env x=pure x:=by intro _;rfl):
 PE X (.ListComp elt [⟨tg,iter,ifs,0⟩] scope pos) (Of wi xs.length fs g tt te):=by
 intro pins s σ H Q I h;have O:=Cv hok;rw [eval_ListComp];refine wpAny_comprehension_free (use:=none) rfl hs (Lw fun y hy hf=>I.ok.has _ (O.free y hy hf)) O.kind O.names (thn (hi pins s σ H _ I h) fun v s1 h1=>thn h1 fun itv s2 h2=>?_)
 exact Qt (RR:=fun acc C=>compPost (model X.prog X.w) X.A X.xe none (EP X pins σ Q) acc C) hc O hg ht he h2 fun D C s' m H' hn I' q F=>⟨m,hn,fun h2 sb=>⟨.ref D,H',Og I' F sb,rfl,q⟩⟩
theorem Mc{y:Str}{py:Pos}{i:Nat}(hN:X.N.Nodup)(hy:X.N[i]?=some y)(hyl:X.env.kindOf y=some .local)(hc:X.calm=true)(hok:Bv X.N X.env.scope scope xs fs=true)(hi:PI X tg iter wi)
 (hg:∀b,PG (X.blk scope (xs++around X.N fs) b) tg (g b)) (ht:∀b,PTs (X.blk scope (xs++around X.N fs) b) ifs (tt b)) (he:∀b,PE (X.blk scope (xs++around X.N fs) b) elt (te b)) {spos:Pos}
 (hsw:swapsWith (.ListComp elt [⟨tg,iter,ifs,0⟩] scope pos) (some (.Name y py)) spos.line X.env=pure true:=by rfl)
 (hs:∀x,foldedSetIterable iter X.env x=pure x:=by intro _;rfl):
 PS X (.Assign [.Name y py] (.ListComp elt [⟨tg,iter,ifs,0⟩] scope pos) spos) (Qd (Of wi xs.length fs g tt te) (Bq i)):=by
 intro pins s σ H D I h;have O:=Cv hok;rw [exec_Assign_Name_used _ _ _ _ hsw];refine wpAny_bind (wpAny_standAt (wpAny_bind ?_));show wpAny _ X.A (do let _ ← comprehension (.ListComp elt [⟨tg,iter,ifs,0⟩] scope pos) scope X.env _ (newList []) false (eval iter X.env) (some (assign (.Name y py) X.env))) _ _ s
 refine wpAny_bind (wpAny_mono (wpAny_comprehension_free (use:=some (assign (.Name y py) X.env)) (Q:=fun _ s'=>SP X pins D .next s') rfl hs (Lw fun y hy hf=>I.ok.has _ (O.free y hy hf)) O.kind O.names
  (thn (hi pins s σ H _ I h) fun v s1 h1=>thn h1 fun itv s2 h2=>?_)) (fun _ s' hq=>wpAny_pure (wpAny_pure hq)) fun _ _ e=>e)
 refine Qt (RR:=fun acc C=>compPost (model X.prog X.w) X.A X.xe (some (assign (.Name y py) X.env)) (fun _ s'=>SP X pins D .next s') acc C) hc O hg ht he h2 fun D' C s' m H' hn I0 q0 F=>?_;show wpAny _ X.A (assign (.Name y py) X.env (.ref D')) _ _ _;refine wpAny_assign_Name (O4 I0 hN hy (.inl hyl) (v:= .ref D') rfl (fun s3 I3 hsb=>?_) (.inr hyl));obtain ⟨a,sb3,ha⟩:=hsb
 have haC:C≠a:=by
  rcases ha with rfl | ha
  · exact F.2.1
  · exact (F.2.2.2.2.1 y a ha).symm
 exact ⟨m,hn.sameBut sb3 haC,fun h4 sb4=>⟨_,H',Og I3 F sb4,q0⟩⟩
end
end L2
namespace L2
def Its(z:Str):It:=⟨fun i _=>i < z.cps.size,fun i H x H'=>H'=H∧∃c,z.cps[i]?=some c∧x= .str ⟨#[c]⟩,fun i _=>z.cps.size≤i⟩
def J8q(tl:TE):TI:=fun σ H R=>tl σ H fun x H1=>∃z,x= .str z∧R (Its z) H1
section
variable {P:Program} {w:World} {K:PySem.W.Frag} {tg:Expr}
theorem J0v(ty:String)(hty:ty="str_ascii_iterator"∨ty="str_iterator")(z:Str)(t:Tok)(it:Addr):Wz P w K tg (Its z) [it] it (fun i h=>i≤z.cps.size∧h.IsStrIter it ty z t i) where
 mem:=by simp
 obj:=fun i h st b hb=>by
  have e:b=it:=by simpa using hb
  subst e;obtain ⟨o,e,c,d⟩:=st.2;exact ⟨o,e,fun v z=>by rw [d]at z;cases z⟩
 keep:=fun i h h' st k=>⟨st.1,by obtain ⟨o,e,r⟩:=st.2;exact ⟨o,k it (by simp) o e,r⟩⟩
 item:=by
  intro X hP hw hK hc i pins s σ H E I hf st hg;subst hP hw hK;obtain ⟨f0,f1,f2,f3,f4,f5⟩:=hf it (by simp)
  have W:Walks X.prog X.w X.A it [it] [it] z.cps.size (SignAt z) (fun i h=>h.IsStrIter it ty z t i):=by
   rcases hty with rfl | rfl
   · exact Walks.strAscii (I.ok.hd hc) it z t
   · exact Walks.strWide (I.ok.hd hc) it z t
  refine W.item i s _ _ hg st.2 fun v h' tk hv st' kk=>?_;obtain ⟨c,u,hcc,rfl⟩:=hv;have I1:Inv X pins σ H {s with heap:=h',toks:=tk}:=I.turned (fun b o hb e=>kk b o (by simpa using hb) e) f0 f1 f3 f4 f5;obtain ⟨o,e,cc,d⟩:=id st'
  refine ⟨_,rfl,Yh (s:={s with heap:=h',toks:=tk}) (n:=ty) e cc d (by rcases hty with rfl | rfl <;> decide) ⟨.str ⟨#[c]⟩,H,I1,⟨u,rfl⟩,⟨rfl,c,hcc,rfl⟩,⟨hg,st'⟩,fun b hb=>(hf b hb).1⟩⟩
 done:=by
   intro X hP hw hK hc i pins s σ H E I hf st hg;subst hP hw hK;obtain ⟨f0,f1,f2,f3,f4,f5⟩:=hf it (by simp)
   have W:Walks X.prog X.w X.A it [it] [it] z.cps.size (SignAt z) (fun i h=>h.IsStrIter it ty z t i):=by
    rcases hty with rfl | rfl
    · exact Walks.strAscii (I.ok.hd hc) it z t
    · exact Walks.strWide (I.ok.hd hc) it z t
   have hi:i=z.cps.size:=Nat.le_antisymm st.1 hg;subst hi
   exact W.done s _ _ st.2 fun h' tk kk=>⟨rfl,I.turned (fun b o hb e=>kk b o (by simpa using hb) e) f0 f1 f3 f4 f5⟩
 self:=fun _ _ _ _ _ st h=>by
  rcases hty with rfl | rfl
  · exact wpAny_pyIter_striter_ascii st.2 h
  · exact wpAny_pyIter_striter_wide st.2 h
end
section
variable {X:Cx} {tg:Expr}
theorem J76{l:Expr}{tl:TE}(hl:PE X l tl):PI X tg l (J8q tl):=by
 intro pins s σ H R I h;refine thn (hl pins s σ H _ I h) fun v s1 hq_=>?_;obtain ⟨x,H1,I1,r1,q1⟩:=hq_;obtain ⟨z,e,q⟩:=q1;subst e;obtain ⟨t,rfl⟩:=r1
 have fin:∀ty,(ty="str_ascii_iterator"∨ty="str_iterator")→PIE X pins σ tg R (.ref s1.heap.objs.size) {s1 with heap:=s1.heap.push {cls:= .type ty,data:= .fields #[.str z t,.int 0 0]}}:=fun ty hty=>by
  refine ⟨s1.heap.objs.size,[s1.heap.objs.size],_,_,H1,rfl,I1.kept (t':=s1.toks) fun b o e=>Heap.get?_push_of_some _ e,J0v ty hty z t _,⟨Nat.zero_le _,_,Heap.get?_push_size _ rfl,rfl,rfl⟩,fun b hb=>?_,q⟩
  have e:b=s1.heap.objs.size:=by simpa using hb
  subst e;exact I1.fpOk (Nat.le_refl _) I1.fresh
 cases ha:z.cps.all (· < 128)
 · exact wpAny_pyIter_wide ha (fin _ (.inr rfl))
 · exact wpAny_pyIter_ascii ha (fin _ (.inl rfl))
def J5v:R2:=fun x y H Q=>∃z n,x= .str z∧y= .int n∧MulOk z n∧Q (.str (Txt.mul z n)) H
theorem J42:OpR X (binaryOp .Mult) J5v:=by
 intro pins s σ H x y v u Q I rx ry h;obtain ⟨z,n,rfl,rfl,hok,q⟩:=h;obtain ⟨t,rfl⟩:=rx;obtain ⟨t2,rfl⟩:=ry
 exact SB.mul hok fun t' k=>⟨.str _,H,I.tok k,⟨t',rfl⟩,q⟩
def J8r(K:PySem.W.Frag):List V→Hp→VK→Prop:=fun xs H Q=>∃(p:Addr) (bs:List Bool),xs=[.ref p]∧SqL K H p (bs.map V.bl)∧Q (.bl (bs.all id)) H
theorem J0w(hc:X.calm=true):G5 X (.builtin "all") (J8r X.K):=by
 intro pins s σ H xs us Q I r h;obtain ⟨p,bs,rfl,hp,q⟩:=h;obtain ⟨u,rfl,ru⟩:=Gc r;cases ru;obtain ⟨its,r,pl,hz⟩:=I.list hp
 have hlt:p < s.heap.objs.size:=by obtain ⟨o,n,e,_⟩:=pl;exact Heap.lt_size e
 refine call_all_walk (wpAny_pyIter_list pl.isList ⟨s.heap.objs.size,_,_,_,_,_,fun i=>bs.getD i true,rfl,Walks.list (show X.A.in1.handled=none from I.ok.hd hc) s.heap.objs.size p (Nat.ne_of_lt hlt) its.toArray,⟨⟨_,Heap.get?_push_size _ rfl,rfl,rfl⟩,pl.isList.push _⟩,?_,fun h' tk kk=>?_⟩)
 · intro i v s' Q' E' hP hQ'
   have hP:its.toArray[i]?=some v:=hP;have hlen:=r.length;rw [List.length_map]at hlen
   have hi:i < bs.length:=by
    have:=(Array.getElem?_eq_some_iff.mp hP).1;rw [List.size_toArray]at this;omega
   obtain ⟨u,hu,ru⟩:=r.get (i:=i) (x:=V.bl (bs[i])) (by simp [hi])
   have e:u=v:=by
    have:its[i]?=some v:=by simpa using hP
    rw [hu]at this;exact Option.some.inj this
   subst e;cases ru;dsimp only at hQ';rw [List.getD_eq_getElem?_getD,List.getElem?_eq_getElem hi]at hQ';exact wpAny_pure hQ'
 · refine ⟨.bl _,H,I.kept (t':=tk) fun b o e=>kk b o ?_ (Heap.get?_push_of_some _ e),rfl,?_⟩
   · simpa using Nat.ne_of_lt (Heap.lt_size e)
   · have hlen:=r.length
     rw [List.length_map]at hlen
     have:((List.range its.toArray.size).all fun i=>bs.getD i true)=bs.all id:=by
      rw [List.size_toArray,← hlen];rw [Bool.eq_iff_iff,List.all_eq_true,List.all_eq_true];constructor
      · intro h x hx
        obtain ⟨i,hi,rfl⟩:=List.mem_iff_getElem.mp hx;have:=h i (by simpa using hi)
        simpa [List.getD_eq_getElem?_getD,List.getElem?_eq_getElem hi] using this
      · intro h i hi
        have hi:i < bs.length:=by simpa using hi
        rw [List.getD_eq_getElem?_getD,List.getElem?_eq_getElem hi];exact h _ (List.getElem_mem hi)
     rw [this];exact q
end
abbrev TJ:=Str→St→Hp→(Str→Hp→Prop)→Prop
end L2
namespace L2
abbrev U2(wi:TI)(fs:List Nat)(te:Blk→TE):TE:=Of wi 1 fs (fun _=>Bq 0) (fun _=>Cu) te
section
variable {X:Cx} {scope:Scope} {x:Str} {px:Pos} {fs:List Nat} {elt iter:Expr} {pos:Pos} {wi:TI} {te:Blk→TE}
theorem U3(hok:Bv X.N X.env.scope scope [x] fs=true)(b:Blk):PG (X.blk scope ([x]++around X.N fs) b) (.Name x px) (Bq 0):=
 Ax (Cv hok).nd rfl (.inl (lookup_relabel_local ((Cv hok).own x (by simp)))) (.inr (lookup_relabel_local ((Cv hok).own x (by simp))))
theorem Ko(x:Str)(fs:List Nat)(hc:X.calm=true)(hok:Bv X.N X.env.scope scope [x] fs=true)(hi:PI X (.Name x px) iter wi)(he:∀b,PE (X.blk scope ([x]++around X.N fs) b) elt (te b))
 (hs:∀x,foldedSetIterable iter X.env x=pure x:=by intro _;rfl):PE X (.ListComp elt [⟨.Name x px,iter,[],0⟩] scope pos) (U2 wi fs te):=
 Kn (xs:=[x]) (g:=fun _=>Bq 0) (tt:=fun _=>Cu) hc hok hi (U3 hok) (fun _=>Km) he hs
theorem Qu{y:Str}{py:Pos}{i:Nat}{spos:Pos}(x:Str)(fs:List Nat)(hN:X.N.Nodup)(hy:X.N[i]?=some y)(hyl:X.env.kindOf y=some .local)(hc:X.calm=true)(hok:Bv X.N X.env.scope scope [x] fs=true)(hi:PI X (.Name x px) iter wi)(he:∀b,PE (X.blk scope ([x]++around X.N fs) b) elt (te b))
 (hsw:swapsWith (.ListComp elt [⟨.Name x px,iter,[],0⟩] scope pos) (some (.Name y py)) spos.line X.env=pure true:=by rfl)
 (hs:∀x,foldedSetIterable iter X.env x=pure x:=by intro _;rfl):PS X (.Assign [.Name y py] (.ListComp elt [⟨.Name x px,iter,[],0⟩] scope pos) spos) (Qd (U2 wi fs te) (Bq i)):=
 Mc (xs:=[x]) (g:=fun _=>Bq 0) (tt:=fun _=>Cu) hN hy hyl hc hok hi (U3 hok) (fun _=>Km) he hsw hs
end
theorem J5w{x:Option V}{r:St}:J41 (none::r) (x::r):=fun i v e=>by
 cases i with
 | zero=>cases e
 | succ i=>exact e
section
variable {K:PySem.W.Frag} {tail:St} {te:Blk→TE} {Q:VK} {H1:Hp}
def Qv(D:Addr)(n i:Nat)(ys:List V)(Pv:Nat→List V→Hp→Prop):VK:=fun y H4=>H4 D=some (.lst ys)∧ys.length < sizeLine∧∃m',m' < n - i∧(m'=n - (i+1)∧i+1≤n∧Pv (i+1) (ys++[y]) (upd H4 D (.lst (ys++[y]))))
theorem Gg{D:Addr}{n i:Nat}{ys:List V}{Pv:Nat→List V→Hp→Prop}{y:V}{H4:Hp}(h1:H4 D=some (.lst ys))(h2:ys.length < sizeLine)(h3:i < n)(h4:Pv (i+1) (ys++[y]) (upd H4 D (.lst (ys++[y])))):Qv D n i ys Pv y H4:=
 ⟨h1,h2,n - (i+1),by omega,rfl,h3,h4⟩
theorem Kq{J:It}(n:Nat)
 (h:∀(b:Blk) (D:Addr),H1 D=none→∃Pv:Nat→List V→Hp→Prop,Pv 0 [] (upd H1 D (.lst []))∧(∀i ys H,Pv i ys H→H D=some (.lst ys))∧(∀ys H,Pv n ys H→J.stop n H∧Q (.ref D) H)∧
  ∀i ys H,i < n→Pv i ys H→J.go i H∧∀x H3,J.yld i H x H3→te b (some x::tail) H3 (Qv D n i ys Pv)):B6 (none::tail) (fun _=>Bq 0) (fun _=>Cu) te Q J H1:=by
 intro b D hD;obtain ⟨Pv,p0,p1,p2,p3⟩:=h b D hD;refine ⟨fun i m ys H=>m=n - i∧i≤n∧Pv i ys H,⟨n,rfl,Nat.zero_le _,p0⟩,?_⟩;rintro i m ys H ⟨rfl,hi,p⟩;refine ⟨p1 i ys H p,?_⟩
 by_cases hlt:i < n
 · obtain ⟨go,st⟩:=p3 i ys H hlt p
   refine .inr ⟨go,fun x H3 y=>⟨J5w,?_⟩⟩;exact st x H3 y
 · have e:i=n:=by omega
   subst e;exact .inl (p2 ys H p)
theorem B7{D:Addr}{o:HO}(h:H1 D=none):A6 H1 (upd H1 D o):=fun b u e=>by rw [A5 (Ab e h)];exact e
theorem U4{z:Str}(f:Nat→V)(hz:z.cps.size≤sizeLine)(he:∀b c H Q',c∈z.cps.toList→A6 H1 H→Q' (f c) H→te b (some (.str ⟨#[c]⟩)::tail) H Q')
 (q:∀D,H1 D=none→Q (.ref D) (upd H1 D (.lst (z.cps.toList.map f)))):B6 (none::tail) (fun _=>Bq 0) (fun _=>Cu) te Q (Its z) H1:=by
 refine Kq z.cps.size (fun b D hD=>⟨fun i ys H=>i≤z.cps.size∧ys=(z.cps.toList.take i).map f∧H=upd H1 D (.lst ys),⟨Nat.zero_le _,rfl,rfl⟩,?_,?_,?_⟩)
 · rintro i ys H ⟨hi,rfl,rfl⟩
   exact A1
 · rintro ys H ⟨_,rfl,rfl⟩
   refine ⟨Nat.le_refl _,?_⟩;have e:z.cps.toList.take z.cps.size=z.cps.toList:=List.take_of_length_le (by simp);rw [e];exact q D hD
 · rintro i ys H hi ⟨_,rfl,rfl⟩
   refine ⟨hi,fun x H3 ⟨e3,c,hc,ex⟩=>?_⟩;subst e3 ex
   have hc':z.cps.toList[i]?=some c:=by simpa using hc
   refine he b c _ _ (List.mem_of_getElem? hc') (B7 hD) (Gg A1 (by rw [List.length_map,List.length_take,Array.length_toList];omega) hi ⟨hi,?_,?_⟩)
   · rw [List.take_add_one,hc'];simp
   · funext a;by_cases ha:a=D <;> simp [upd,ha]
theorem U5{a:Addr}{xs:List V}(f:V→V)(hS:SqL K H1 a xs)(hz:xs.length≤sizeLine)(he:∀b x H Q',x∈xs→A6 H1 H→Q' (f x) H→te b (some x::tail) H Q')
 (q:∀D,H1 D=none→Q (.ref D) (upd H1 D (.lst (xs.map f)))):B6 (none::tail) (fun _=>Bq 0) (fun _=>Cu) te Q (Itl K a) H1:=by
 refine Kq xs.length (fun b D hD=>⟨fun i ys H=>i≤xs.length∧ys=(xs.take i).map f∧H=upd H1 D (.lst ys),⟨Nat.zero_le _,rfl,rfl⟩,?_,?_,?_⟩)
 · rintro i ys H ⟨hi,rfl,rfl⟩
   exact A1
 · rintro ys H ⟨_,rfl,rfl⟩
   refine ⟨⟨xs,(B7 hD).seq hS,Nat.le_refl _⟩,?_⟩;rw [List.take_length];exact q D hD
 · rintro i ys H hi ⟨_,rfl,rfl⟩
   refine ⟨⟨xs,xs[i],(B7 hD).seq hS,by simp [hi]⟩,fun x H3 ⟨e3,ex⟩=>?_⟩;subst e3;have hc':=ex xs ((B7 hD).seq hS);refine he b x _ _ (List.mem_of_getElem? hc') (B7 hD) (Gg A1 (by rw [List.length_map,List.length_take];omega) hi ⟨hi,?_,?_⟩)
   · rw [List.take_add_one,hc'];simp
   · funext a;by_cases ha:a=D <;> simp [upd,ha]
end
section
variable {σ:St} {H:Hp} {Q:VK} {D:G7} {K:PySem.W.Frag}
theorem Vm{wi:TI}{fs:List Nat}{te:Blk→TE}:U2 wi fs te σ H Q=wi σ H (B6 (none::fs.map fun j=>σ.getD j none) (fun _=>Bq 0) (fun _=>Cu) te Q):=rfl
theorem Vn{tl:TE}{R:It→Hp→Prop}:J8q tl σ H R=tl σ H fun x H1=>∃z,x= .str z∧R (Its z) H1:=rfl
theorem J5x{r:V→Option Int→Option Int→Hp→VK→Prop}{te:TE}{tl th:TO}:tSl r te tl th σ H Q=te σ H fun x H1=>tl σ H1 fun l H2=>th σ H2 fun u H3=>r x l u H3 Q:=rfl
theorem Oh{QO:Option Int→Hp→Prop}:V1 σ H QO=QO none H:=rfl
theorem Vo{t:TE}{QO:Option Int→Hp→Prop}:J5h t σ H QO=t σ H fun x H1=>∃i,x= .int i∧QO (some i) H1:=rfl
theorem J0x{x:V}{lo hi:Option Int}:J8f K x lo hi H Q=∃a xs,x= .ref a∧SqL K H a xs∧∀p,H p=none→Q (.ref p) (upd H p (.lst (O0 xs lo hi))):=rfl
theorem J5y{T:String}{r:V→List V→Hp→VK→Prop}{to:TE}{t:TA}:tBM K T r to t σ H Q=to σ H fun x H1=>tyV K T x H1∧t σ H1 fun xs H2=>r x xs H2 Q:=rfl
theorem J0y{T:String}{r:V→List V→Hp→VK→Prop}{to:TE}:J8g K T r to σ H Q=to σ H fun x H1=>tyV K T x H1∧r x [] H1 Q:=rfl
theorem Vp{z:Str}:tyV K "str" (.str z) H=True:=eq_true rfl
theorem J0z{xs:List V}:J8r K xs H Q=∃(p:Addr) (bs:List Bool),xs=[.ref p]∧SqL K H p (bs.map V.bl)∧Q (.bl (bs.all id)) H:=rfl
theorem Vq{x y:V}:J5v x y H Q=∃z n,x= .str z∧y= .int n∧MulOk z n∧Q (.str (Txt.mul z n)) H:=rfl
theorem Qw:J00 σ H Q=∀p,H p=none→Q (.ref p) (upd H p (.dK [])):=rfl
theorem Pm{z:Str}{i:Int}{c:Nat}(hz:z.length≤sizeLine)(e:atI z.cps.toList i=some c)(q:Q (.str ⟨#[c]⟩) H):J8e (.str z) (.int i) H Q:=⟨z,i,c,rfl,rfl,hz,e,q⟩
theorem J5z{X:Cx}{scope:Scope}{N':List Str}{b:Blk}:(X.blk scope N' b).K=X.K:=rfl
end
section
variable {X:Cx} {x:Str} {pos:Pos}
theorem Gw{i:Int}(hg:Gl X x)(hm:∃t,X.mg x=some (.int i t))(hd:(x==("__debug__":Str))=false:=by decide):PE X (.Name x pos) (tC (.int i)):=by
 obtain ⟨t,hm⟩:=hm;exact Ka hg hm ⟨t,rfl⟩ hd
theorem Pn{z:Str}(hg:Gl X x)(hm:∃t,X.mg x=some (.str z t))(hd:(x==("__debug__":Str))=false:=by decide):PE X (.Name x pos) (tC (.str z)):=by
 obtain ⟨t,hm⟩:=hm;exact Ka hg hm ⟨t,rfl⟩ hd
end
theorem Aa:sizeLine=16777216:=by decide
theorem Vr{a b:Str}:(a++b).length=a.length+b.length:=strLen_append a b
theorem Md{c:Nat}:(⟨#[c]⟩:Str).length=1:=rfl
theorem Po{z:Str}:z.cps.toList.length=z.length:=by simp [Str.length]
theorem Qx{a b:Str}:(a++b).cps.toList=a.cps.toList++b.cps.toList:=by
 show (a.cps++b.cps).toList=_;simp
theorem Xf{K:PySem.W.Frag}{H:Hp}{a:Addr}{ns:List Int}{R:List Int→Prop}(h:SqL K H a (ns.map V.int))(hl:ns.length≤63)(q:R ns):∃x:List Int,SqL K H a (x.map V.int)∧x.length≤63∧R x:=⟨ns,h,hl,q⟩
def J77(z y:Str):Bool:=!(Builtin.Str.occurrences z y 0 z.length 1).isEmpty
theorem Qy{z:Str}{c:Nat}:J77 z ⟨#[c]⟩=decide (c∈z.cps.toList):=StrLaws.found_one z c
def J8s:R2:=fun x y H Q=>∃i j,x= .str i∧y= .str j∧Q (.bl (J77 j i)) H
theorem J10{X:Cx}:OpR X (compareOp .In) J8s:=X3
theorem J11{x y:V}{H:Hp}{Q:VK}:J8s x y H Q=∃i j,x= .str i∧y= .str j∧Q (.bl (J77 j i)) H:=rfl
theorem J9i{α:Type}{c:α}{r:List α}:atI (c::r) 0=some c:=U1 (by decide) rfl
end L2
namespace L2
theorem J43{x y:Str}:eqV (.str x) (.str y)=decide (x=y):=rfl
section
variable {K:PySem.W.Frag} {H:Hp} {Q:VK} {x y:V}
theorem Qz{xs:List Str}:(xs.map V.str).all Gd=true:=by
 rw [List.all_map];exact List.all_eq_true.mpr fun _ _=>rfl
end
end L2
namespace L2
structure DefM(P:Program)(w:World)(K:PySem.W.Frag)(mg:Str→Option Value)(base:Heap)(CX:CXT)(k:Nat)(C:Addr)(m:Str)(ps:List Str)(sp:Sp):Prop where
 ex:∃(f:Addr) (fd:FuncData),Al P w K mg base CX k f fd ps sp∧Cp K C m f∧C1 K fd ps []
structure U6(P:Program)(w:World)(K:PySem.W.Frag)(mg:Str→Option Value)(base:Heap)(CX:CXT)(k:Nat)(x:Str)(C:Addr)(ps:List Str)(sp:Sp):Prop where
 ex:∃(f:Addr) (fd:FuncData),Al P w K mg base CX k f fd ps sp∧Mk K C f∧mg x=some (.ref C)∧C1 K fd ps []
def U7(C:Addr)(m:Str)(sp:Sp)(EE:St→XK)(ta:TE)(t:TA):TE:=fun σ H Q=>ta σ H fun x H1=>∃a dx fs,x= .ref a∧H1 a=some (.ins C dx fs)∧fs.lookup m=none∧t σ H1 fun vs H2=>sp (x::vs) H2 Q (EE σ)
def J12(C:Addr)(sp:Sp)(EE:St→XK)(t:TA):TE:=fun σ H Q=>t σ H fun vs H1=>∀x dx,H1 x=none→H1 dx=none→dx≠x→sp (.ref x::vs) (upd (upd H1 dx (.own x)) x (.ins C dx [])) (fun v H2=>v= .non∧Q (.ref x) H2) (EE σ)
section
variable {X:Cx} {CX:CXT} {k j:Nat} {f C:Addr} {fd:FuncData} {ps:List Str} {sp:Sp} {EE:St→XK} {E:XK} {x m:Str} {p pos apos:Pos} {e o:Expr} {es:List Expr} {ta:TE} {t:TA}
theorem Bc(h:Lf CX X E):El CX X fun _=>E:=fun pins σ H s e s' I hc=>h pins σ H s e s' I hc
theorem Me{pins:List (Addr×Obj)}{σ:St}{H:Hp}{s:Shared}{Q:VK}{us:List Value}{vs:List V}(F:Al X.prog X.w X.K X.mg X.base CX k f fd ps sp)(hr:Br k X.A)(hb:C1 X.K fd ps [])(hx:El CX X EE)
 (I:Inv X pins σ H s) (r:Aw vs us) (h:sp vs H Q (EE σ)):wpAny (model X.prog X.w) X.A (call (.ref f) us) (EP X pins σ Q) X.xe s:=by
 have hl:us.length=ps.length:=by rw [← r.length];exact F.len _ _ _ _ h
 have hb':=hb s us I.kIn (by simpa using hl);rw [List.append_nil]at hb';refine wpAny_call (codeAny_mono (F.run X.A X.stack s H ⟨us,[]⟩ us vs Q (EE σ) hr I.env0 hb' r h) fun r s' hq=>?_)
 cases r with
 | error e=>exact hx pins σ H s e s' I hq
 | ok fl=>
  cases fl with
  | ret u=>exact I.after hq
  | next=>exact False.elim hq
  | brk=>exact False.elim hq
  | cont=>exact False.elim hq
theorem B4{pl:Sem Bool}(D:DefM X.prog X.w X.K X.mg X.base CX j C m ps sp)(c:Cls X.K C)(hr:Br k X.A)(hx:El CX X EE)(he:PE X o ta)(ha:PA X (e::es) t)(hj:j≤k:=by decide)
 (hst:starEach (e::es) X.env=(false,eval e X.env)::starEach es X.env:=by rfl) (hpl:(backTo pos (starEach es X.env)).any (·.1)=false:=by rfl)
 (ht:eval (.Call (.Attribute o m apos) (e::es) [] pos) X.env=(do
  let ov ← eval o X.env
  standAt apos.atName
  let (f,first) ← holding [ov] (getMethod ov m pl)
  callWith pos f first (backTo pos (starEach (e::es) X.env)) (backToKw pos (keywordEach [] X.env))):=by rfl):
 PE X (.Call (.Attribute o m apos) (e::es) [] pos) (U7 C m sp EE ta t):=by
 obtain ⟨f,fd,F,hm,hb⟩:=D.ex;intro pins s σ H Q I h;refine PySem.W.methodCall_KW (pl:=pl) (thn (he pins s σ H _ I h) fun u s1 hq_=>?_) ht;obtain ⟨x,H1,I1,rx,a,dx,fs,ex,ea,l,q⟩:=hq_;subst ex;obtain rfl:u=Value.ref a:=rx;refine K0 I1 ea c hm l ?_;refine PySem.W.callWith_K (first:=[.ref a]) (h₀:=X.base) I.ok.mod.kin hm.kp (thn (ha pos pins s1 σ H1 _ I1 q) fun us s2 ⟨vs,H2,I2,r,q2⟩=>⟨I2.kIn,?_⟩) hst hpl;exact Me (us:= .ref a::us) (vs:= .ref a::vs) (F.mono hj) hr hb hx I2 (.cons rfl r) q2
theorem Gx{pl:Sem Bool}(D:DefM X.prog X.w X.K X.mg X.base CX j C m ps sp)(c:Cls X.K C)(hr:Br k X.A)(hx:El CX X EE)(he:PE X o ta)(hj:j≤k:=by decide)
 (ht:eval (.Call (.Attribute o m apos) [] [] pos) X.env=(do
  let ov ← eval o X.env
  standAt apos.atName
  let (f,first) ← holding [ov] (getMethod ov m pl)
  callWith pos f first (backTo pos (starEach [] X.env)) (backToKw pos (keywordEach [] X.env))):=by rfl):
 PE X (.Call (.Attribute o m apos) [] [] pos) (U7 C m sp EE ta J6p):=by
 obtain ⟨f,fd,F,hm,hb⟩:=D.ex;intro pins s σ H Q I h;refine PySem.W.methodCall_KW (pl:=pl) (thn (he pins s σ H _ I h) fun u s1 hq_=>?_) ht;obtain ⟨x,H1,I1,rx,a,dx,fs,ex,ea,l,q⟩:=hq_;subst ex;obtain rfl:u=Value.ref a:=rx;refine K0 I1 ea c hm l ?_;exact PySem.W.callWith_K0 (first:=[.ref a]) I1.kIn hm.kp (Me (us:=[.ref a]) (vs:=[.ref a]) (F.mono hj) hr hb hx I1 (.cons rfl .nil) q)
theorem Gh(D:U6 X.prog X.w X.K X.mg X.base CX j x C ps sp)(hr:Br k X.A)(hg:Gl X x)(hx:El CX X EE)(ha:PA X (e::es) t)(hj:j+1≤k:=by decide)(hdb:(x==("__debug__":Str))=false:=by decide)
 (he:starEach (e::es) X.env=(false,eval e X.env)::starEach es X.env:=by rfl) (hpl:(backTo pos (starEach es X.env)).any (·.1)=false:=by rfl):
 PE X (.Call (.Name x p) (e::es) [] pos) (J12 C sp EE t):=by
 obtain ⟨f,fd,F,M,hm,hb⟩:=D.ex;intro pins s0 σ H0 Q I0 h;refine wpAny_Call_Name_kw (Ma I0 hg hm ?_ hdb);refine PySem.W.callWith_K (h₀:=X.base) I0.ok.mod.kin M.kp (thn (ha pos pins s0 σ H0 _ I0 h) fun us s ⟨vs,H,I,r,q⟩=>⟨I.kIn,?_⟩) he hpl;have hq:=q (s.heap.objs.size+1) s.heap.objs.size (I.hok.fresh (Nat.le_succ _)) (I.hok.fresh (Nat.le_refl _)) (Nat.ne_of_lt (Nat.lt_succ_self _));have I2:=Inv.made (C:=C) I;have r2:Aw (V.ref (s.heap.objs.size+1)::vs) (Value.ref (s.heap.objs.size+1)::us):= .cons rfl r
 have hl:(Value.ref (s.heap.objs.size+1)::us).length=ps.length:=by
  rw [← r2.length];exact F.len _ _ _ _ hq
 have hb':=fun s' (h':X.K.In s'.heap)=>hb s' (Value.ref (s.heap.objs.size+1)::us) h' (by simpa using hl);have hr':Br (j+1) X.A:=hr.mono hj
 refine wpAny_call (Yq (f:=f) I.kIn M.makes M.init (beq_iff_eq.mp M.fn) (codeAny_mono (F.run _ X.stack _ _ ⟨Value.ref (s.heap.objs.size+1)::us,[]⟩ (Value.ref (s.heap.objs.size+1)::us) _ _ (EE σ) (hr'.make C us [])
  (I2.env0.make C us []) (by have:=hb' _ I2.kIn;rw [List.append_nil]at this;exact this) r2 hq) fun r s' hq'=>?_))
 cases r with
 | error e=>exact hx pins σ _ _ e s' I2 hq'
 | ok fl=>
  cases fl with
  | ret u=>
   obtain ⟨v,H',I3,rv,ev,q3⟩:=I2.after hq';subst ev;exact ⟨rv,⟨V.ref (s.heap.objs.size+1),H',I3,rfl,q3⟩⟩
  | next=>exact False.elim hq'
  | brk=>exact False.elim hq'
  | cont=>exact False.elim hq'
end
section
variable {σ:St} {H:Hp} {Q:VK} {D:G7} {K:PySem.W.Frag}
theorem S0{C:Addr}{m:Str}{sp:Sp}{EE:St→XK}{ta:TE}{t:TA}:U7 C m sp EE ta t σ H Q=ta σ H fun x H1=>∃a dx fs,x= .ref a∧H1 a=some (.ins C dx fs)∧fs.lookup m=none∧t σ H1 fun vs H2=>sp (x::vs) H2 Q (EE σ):=rfl
theorem S1{C:Addr}{sp:Sp}{EE:St→XK}{t:TA}:J12 C sp EE t σ H Q=t σ H fun vs H1=>∀x dx,H1 x=none→H1 dx=none→dx≠x→sp (.ref x::vs) (upd (upd H1 dx (.own x)) x (.ins C dx [])) (fun v H2=>v= .non∧Q (.ref x) H2) (EE σ):=rfl
theorem J13{ta:TE}{f:Str}:J86 K ta f σ H Q=ta σ H fun x H1=>∃a C dx fs v,x= .ref a∧H1 a=some (.ins C dx fs)∧Cls K C∧Ar K C f∧fs.lookup f=some v∧Q v H1:=rfl
theorem Vs{ta tv:TE}{f:Str}:J87 K ta tv f D σ H=tv σ H fun y H1=>ta σ H1 fun x H2=>∃a C dx fs,x= .ref a∧H2 a=some (.ins C dx fs)∧Cls K C∧Ar K C f∧fs.length < 1000∧D.nx σ (upd H2 a (.ins C dx (Bh f y fs))):=rfl
theorem J14{ty td:TE}:J8l ty td σ H Q=ty σ H fun y H1=>td σ H1 fun x H2=>∃a o,x= .ref a∧Cq H2 a y o∧Q (.bl o.isSome) H2:=rfl
theorem Oi{ty td:TE}:V4 ty td σ H Q=ty σ H fun y H1=>td σ H1 fun x H2=>∃a o,x= .ref a∧Cq H2 a y o∧Q (.bl (!o.isSome)) H2:=rfl
theorem Vt{td ty:TE}:J5l td ty σ H Q=td σ H fun x H1=>ty σ H1 fun y H2=>∃a v,x= .ref a∧Cq H2 a y (some v)∧Q v H2:=rfl
theorem Vu{td ty tv:TE}:J5m td ty tv D σ H=tv σ H fun v H1=>td σ H1 fun x H2=>ty σ H2 fun y H3=>∃a H4,x= .ref a∧M4 H3 a y v H4∧D.nx σ H4:=rfl
theorem Vv{n:Nat}{t:TGs}{v:V}{N:St→Hp→Prop}:J3j K n t v σ H N=∃a xs,v= .ref a∧SqT K H a xs∧xs.length=n∧t xs σ H N:=rfl
end
theorem J78{a b:Str}{n:Nat}(h1:a.length≤n / 2)(h2:b.length≤n / 2):(a++b).length≤n:=by
 rw [Vr];omega
end L2
namespace L2
section
variable {K:PySem.W.Frag} {x qual:Str} {st:Stmt} {f:Addr} {fd:FuncData} {p q r t:Str}
theorem Fun.b2(F:Fun K x qual st f fd)(h:∀(kV doc pm:Value) (an:Option Addr) (cdv ct u v:Value),bindArgs (PySem.W.fnOf x qual (Bk st) (Be st) (A7 st) .none kV doc pm an cdv ct) ⟨[u,v],[]⟩=pure [(p,u),(q,v)]):C1 K fd [p,q] []:=
 F.binds (ps:=[p,q]) fun kV doc pm an cdv ct us hl=>match us,hl with | [u,v],_=>h kV doc pm an cdv ct u v
theorem Fun.b3(F:Fun K x qual st f fd)(h:∀(kV doc pm:Value) (an:Option Addr) (cdv ct u v w:Value),bindArgs (PySem.W.fnOf x qual (Bk st) (Be st) (A7 st) .none kV doc pm an cdv ct) ⟨[u,v,w],[]⟩=pure [(p,u),(q,v),(r,w)]):C1 K fd [p,q,r] []:=
 F.binds (ps:=[p,q,r]) fun kV doc pm an cdv ct us hl=>match us,hl with | [u,v,w],_=>h kV doc pm an cdv ct u v w
end
end L2
namespace NF
structure Mv where
 u:Nat
 v:Nat
 g:Int
 k:Option Nat
abbrev Wy:=Int×Option Nat
def prd(w:List Wy)(v:Nat):Nat:=(w.getD v (0,none)).1.toNat
inductive Rch(w:List Wy):Nat→Nat→Prop
 | z:Rch w 0 0
 | s {v d:Nat}:0 < v→Rch w (prd w v) d→Rch w v (d+1)
theorem Rch.inj{w:List Wy}{v d d':Nat}(h:Rch w v d)(h':Rch w v d'):d=d':=by
 induction h generalizing d' with
 | z=>cases h' with
  | z=>rfl
  | s p _=>exact absurd p (Nat.lt_irrefl _)
 | s p _ ih=>cases h' with
  | z=>exact absurd p (Nat.lt_irrefl _)
  | s _ q=>rw [ih q]
def at'(h:List Int)(v:Nat):Int:=h.getD v 0
theorem Lh{h:List Int}{v x:Nat}{i:Int}(hv:v < h.length):at' (h.set v i) x=if x=v then i else at' h x:=by
 unfold at';rw [List.getD_eq_getElem?_getD,List.getD_eq_getElem?_getD,List.getElem?_set]
 by_cases e:v=x
 · rw [if_pos e,if_pos hv,if_pos e.symm];rfl
 · rw [if_neg e,if_neg (fun h=>e h.symm)]
theorem Pp{w:List Wy}{v x:Nat}{y:Wy}(hv:v < w.length):prd (w.set v y) x=if x=v then y.1.toNat else prd w x:=by
 unfold prd;rw [List.getD_eq_getElem?_getD,List.getD_eq_getElem?_getD,List.getElem?_set]
 by_cases e:v=x
 · rw [if_pos e,if_pos hv,if_pos e.symm];rfl
 · rw [if_neg e,if_neg (fun h=>e h.symm)]
structure Pot(n:Nat)(ms:List Mv)(pi:Nat→Int):Prop where
 z:pi 0=0
 m:∀m∈ms,m.u < n∧m.v < n∧pi m.u+m.g≤pi m.v
structure CI(n:Nat)(ms:List Mv)(pi:Nat→Int)(h:List Int)(w:List Wy):Prop where
 lh:h.length=n
 lw:w.length=n
 hi:∀v,v < n→at' h v≤pi v
 lo:∀v,v < n→0≤at' h v
 wy:∀v,0 < v→v < n→∃m∈ms,m.v=v∧w.getD v (0,none)=((m.u:Int),m.k)∧at' h v≤at' h m.u+m.g
 rc:∀v,v < n→∃d,Rch w v d
def rise(m:Mv)(s:List Int×List Wy):List Int×List Wy:=if at' s.1 m.u+m.g > at' s.1 m.v then (s.1.set m.v (at' s.1 m.u+m.g),s.2.set m.v ((m.u:Int),m.k)) else s
section
variable {n:Nat} {ms:List Mv} {pi:Nat→Int} {h:List Int} {w:List Wy} {m:Mv}
theorem past(P:Pot n ms pi)(c:CI n ms pi h w){v:Nat}{y:Wy}(hv:v < n):∀{x d:Nat},Rch w x d→x < n→(∃d',Rch (w.set v y) x d')∨∃G:Int,at' h x≤at' h v+G∧pi v+G≤pi x:=by
 intro x d r
 induction r with
 | z=>intro _;exact .inl ⟨0,.z⟩
 | @s x d p r ih=>
  intro hx
  by_cases e:x=v
  · subst e;exact .inr ⟨0,by omega,by omega⟩
  · obtain ⟨m,hm,e1,e2,e3⟩:=c.wy x p hx
    have ep:prd w x=m.u:=by unfold prd;rw [e2];exact Int.toNat_natCast _
    have pm:=P.m m hm;rw [ep]at ih r;rcases ih pm.1 with ⟨d',r'⟩ | ⟨G,a,b⟩
    · refine .inl ⟨d'+1,.s p ?_⟩
      rw [Pp (by rw [c.lw];exact hv),if_neg e,ep];exact r'
    · refine .inr ⟨G+m.g,by omega,?_⟩
      have:=pm.2.2;rw [e1]at this;omega
theorem CI.rise(P:Pot n ms pi)(c:CI n ms pi h w)(hm:m∈ms):CI n ms pi (NF.rise m (h,w)).1 (NF.rise m (h,w)).2:=by
 unfold NF.rise
 by_cases hg:at' h m.u+m.g > at' h m.v
 · rw [if_pos hg]
   show CI n ms pi (h.set m.v (at' h m.u+m.g)) (w.set m.v ((m.u:Int),m.k));obtain ⟨hu,hv,hp⟩:=P.m m hm;have hiu:=c.hi m.u hu
   have nz:0 < m.v:=by
    rcases Nat.eq_zero_or_pos m.v with e | e
    · have h0:=c.lo 0 (by omega)
      rw [e]at hg hp;rw [P.z]at hp;have:at' h 0 < at' h m.u+m.g:=hg;omega
    · exact e
   have lv:m.v < h.length:=by rw [c.lh];exact hv
   have lw:m.v < w.length:=by rw [c.lw];exact hv
   have ru:∃d,Rch (w.set m.v ((m.u:Int),m.k)) m.u d:=by
    obtain ⟨d,r⟩:=c.rc m.u hu;rcases past P c (y:=((m.u:Int),m.k)) hv r hu with r' | ⟨G,a,b⟩
    · exact r'
    · omega
   have rv:∃d,Rch (w.set m.v ((m.u:Int),m.k)) m.v d:=by
    obtain ⟨d,r⟩:=ru;exact ⟨d+1,.s nz (by rw [Pp lw,if_pos rfl,show ((m.u:Int),m.k).1.toNat=m.u from Int.toNat_natCast _];exact r)⟩
   refine ⟨by simp [c.lh],by simp [c.lw],fun x hx=>?_,fun x hx=>?_,fun x p hx=>?_,fun x hx=>?_⟩
   · rw [Lh lv]
     by_cases e:x=m.v
     · rw [if_pos e,e];omega
     · rw [if_neg e];exact c.hi x hx
   · rw [Lh lv]
     have hlo:=c.lo m.v hv
     by_cases e:x=m.v
     · rw [if_pos e];omega
     · rw [if_neg e];exact c.lo x hx
   · by_cases e:x=m.v
     · refine ⟨m,hm,e.symm,?_,?_⟩
       · rw [List.getD_eq_getElem?_getD,List.getElem?_set,if_pos e.symm,if_pos lw];rfl
       · rw [Lh lv,if_pos e,Lh lv]
         by_cases e2:m.u=m.v
         · rw [if_pos e2]
           rw [e2]at hp hg;omega
         · rw [if_neg e2];omega
     · obtain ⟨m',hm',e1,e2,e3⟩:=c.wy x p hx
       refine ⟨m',hm',e1,?_,?_⟩
       · rw [List.getD_eq_getElem?_getD,List.getElem?_set,if_neg (fun z=>e z.symm),← List.getD_eq_getElem?_getD];exact e2
       · rw [Lh lv,if_neg e,Lh lv]
         by_cases e2:m'.u=m.v
         · rw [if_pos e2];rw [e2]at e3;omega
         · rw [if_neg e2];exact e3
   · obtain ⟨d,r⟩:=c.rc x hx
     clear hx
     induction r with
     | z=>exact ⟨0,.z⟩
     | @s x d p r ih=>
      by_cases e:x=m.v
      · rw [e];exact rv
      · obtain ⟨d',r'⟩:=ih
        exact ⟨d'+1,.s p (by rw [Pp lw,if_neg e];exact r')⟩
 · rw [if_neg hg];exact c
end
theorem S3:∀{l:List Int} {i:Nat} {x:Int},i < l.length→(l.set i x).sum=l.sum+x - l.getD i 0
 | [],_,_,h=>by cases h
 | a::l,0,x,_=>by rw [List.set_cons_zero,List.sum_cons,List.sum_cons,List.getD_cons_zero];omega
 | a::l,i+1,x,h=>by rw [List.set_cons_succ,List.sum_cons,List.sum_cons,List.getD_cons_succ,S3 (by simpa using h)];omega
theorem J44:∀{n:Nat} {h:List Int} {f:Nat→Int},h.length=n→(∀v,v < n→at' h v≤f v)→h.sum≤((List.range n).map f).sum:=by
 intro n
 induction n with
 | zero=>intro h f e _;rw [List.length_eq_zero_iff.mp e];simp
 | succ n ih=>
  intro h f e k;rcases List.eq_nil_or_concat h with rfl | ⟨l,a,rfl⟩
  · cases e
  · have el:l.length=n:=by simpa using e
    rw [List.range_succ,List.map_append,List.sum_append,List.concat_eq_append,List.sum_append]
    have h1:=ih (h:=l) (f:=f) el fun v hv=>by
     have:=k v (by omega);unfold at' at this ⊢;rw [List.concat_eq_append,List.getD_eq_getElem?_getD,List.getElem?_append_left (by omega),← List.getD_eq_getElem?_getD]at this;exact this
    have h2:=k n (by omega);unfold at' at h2;rw [List.concat_eq_append,List.getD_eq_getElem?_getD,List.getElem?_append_right (by omega),el,Nat.sub_self]at h2;simp only [List.map_cons,List.map_nil,List.sum_cons,List.sum_nil];have h3:a≤f n:=h2;omega
section
variable {n:Nat} {ms:List Mv} {pi:Nat→Int} {h:List Int} {w:List Wy} {m:Mv}
def rise1(m:Mv)(s:(List Int×List Wy)×Bool):(List Int×List Wy)×Bool:=if at' s.1.1 m.u+m.g > at' s.1.1 m.v then (rise m s.1,true) else s
def Bz(l:List Mv)(s:(List Int×List Wy)×Bool):(List Int×List Wy)×Bool:=l.foldl (fun s m=>rise1 m s) s
theorem CI.rise1(P:Pot n ms pi){s:(List Int×List Wy)×Bool}(c:CI n ms pi s.1.1 s.1.2)(hm:m∈ms):CI n ms pi (NF.rise1 m s).1.1 (NF.rise1 m s).1.2:=by
 unfold NF.rise1
 by_cases hg:at' s.1.1 m.u+m.g > at' s.1.1 m.v
 · rw [if_pos hg];exact c.rise P hm
 · rw [if_neg hg];exact c
theorem Xg(P:Pot n ms pi){s:(List Int×List Wy)×Bool}(c:CI n ms pi s.1.1 s.1.2)(hm:m∈ms)(b0:Int)(hb:b0≤s.1.1.sum∧(s.2=true→b0 < s.1.1.sum)):b0≤(NF.rise1 m s).1.1.sum∧((NF.rise1 m s).2=true→b0 < (NF.rise1 m s).1.1.sum):=by
 unfold NF.rise1
 by_cases hg:at' s.1.1 m.u+m.g > at' s.1.1 m.v
 · rw [if_pos hg]
   have hv:=(P.m m hm).2.1
   have:(NF.rise m s.1).1=s.1.1.set m.v (at' s.1.1 m.u+m.g):=by unfold NF.rise;rw [if_pos hg]
   show b0≤(NF.rise m s.1).1.sum∧(true=true→b0 < (NF.rise m s.1).1.sum)
   rw [this,S3 (by rw [c.lh];exact hv)];have e:s.1.1.getD m.v 0=at' s.1.1 m.v:=rfl;rw [e];exact ⟨by omega,fun _=>by omega⟩
 · rw [if_neg hg];exact hb
theorem Nb(P:Pot n ms pi):∀(l:List Mv) (s:(List Int×List Wy)×Bool),(∀m∈l,m∈ms)→CI n ms pi s.1.1 s.1.2→CI n ms pi (Bz l s).1.1 (Bz l s).1.2
 | [],s,_,c=>c
 | m::l,s,hl,c=>Nb P l _ (fun x hx=>hl x (List.mem_cons_of_mem _ hx)) (c.rise1 P (hl m (by simp)))
theorem Oj(P:Pot n ms pi)(b0:Int):∀(l:List Mv) (s:(List Int×List Wy)×Bool),(∀m∈l,m∈ms)→CI n ms pi s.1.1 s.1.2→(b0≤s.1.1.sum∧(s.2=true→b0 < s.1.1.sum))→b0≤(Bz l s).1.1.sum∧((Bz l s).2=true→b0 < (Bz l s).1.1.sum)
 | [],s,_,_,hb=>hb
 | m::l,s,hl,c,hb=>Oj P b0 l _ (fun x hx=>hl x (List.mem_cons_of_mem _ hx)) (c.rise1 P (hl m (by simp))) (Xg P c (hl m (by simp)) b0 hb)
theorem Lx:∀(l:List Mv) (s:(List Int×List Wy)×Bool),(Bz l s).2=false→s.2=false∧(Bz l s)=s∧∀m∈l,at' s.1.1 m.u+m.g≤at' s.1.1 m.v
 | [],s,h=>⟨h,rfl,fun m hm=>by cases hm⟩
 | m::l,s,h=>by
  obtain ⟨a,b,c⟩:=Lx l (rise1 m s) h
  by_cases hg:at' s.1.1 m.u+m.g > at' s.1.1 m.v
  · have e:rise1 m s=(rise m s.1,true):=if_pos hg
    rw [e]at a;cases a
  · have e:rise1 m s=s:=if_neg hg
    rw [e]at a b c;refine ⟨a,?_,fun m' hm'=>?_⟩
    · show Bz l (rise1 m s)=s
      rw [e];exact b
    · rcases List.mem_cons.mp hm' with rfl | h'
      · omega
      · exact c m' h'
theorem J79(c:CI n ms pi h w):h.sum≤((List.range n).map pi).sum:=J44 c.lh c.hi
end
abbrev Jp:=Nat×Nat×Int
def cov(j:Jp)(t:Nat):Bool:=decide (j.1≤t) && decide (t < j.2.1)
def over:List Jp→List Bool→Nat→Nat
 | j::js,b::bs,t=>(if b && cov j t then 1 else 0)+over js bs t
 | _,_,_=>0
def b1(b:Bool):Int:=if b then 1 else 0
theorem S4:∀{js:List Jp} {tk:List Bool} {k:Nat} {b:Bool} {t:Nat},k < js.length→tk.length=js.length→(over js (tk.set k b) t:Int)=over js tk t+b1 (b && cov (js.getD k (0,0,0)) t) - b1 (tk.getD k false && cov (js.getD k (0,0,0)) t)
 | [],_,_,_,_,h,_=>by cases h
 | j::js,[],_,_,_,_,h=>by cases h
 | j::js,c::tk,0,b,t,_,_=>by
  rw [List.set_cons_zero,List.getD_cons_zero,List.getD_cons_zero];unfold over b1
  cases b && cov j t <;> cases c && cov j t <;> simp <;> omega
 | j::js,c::tk,k+1,b,t,hk,hl=>by
  rw [List.set_cons_succ,List.getD_cons_succ,List.getD_cons_succ];have:=S4 (js:=js) (tk:=tk) (k:=k) (b:=b) (t:=t) (by simpa using hk) (by simpa using hl);show (((if c && cov j t then 1 else 0)+over js (tk.set k b) t:Nat):Int)=(((if c && cov j t then 1 else 0)+over js tk t:Nat):Int)+_ - _;omega
def Nc(js:List Jp)(tk:List Bool)(s:Nat)(t:Nat):List Mv:=⟨t,t+1,0,none⟩::if over js tk t < s then [⟨t+1,t,0,none⟩] else []
def C2(j:Jp)(b:Bool)(k:Nat):Mv:=if b then ⟨j.2.1,j.1,0 - j.2.2,some k⟩ else ⟨j.1,j.2.1,j.2.2,some k⟩
def Gi(js:List Jp)(tk:List Bool)(s n:Nat):List Mv:=(List.range n).flatMap (Nc js tk s)
def K4(js:List Jp)(tk:List Bool):List Mv:=(List.range js.length).map fun k=>C2 (js.getD k (0,0,0)) (tk.getD k false) k
def mvs(n:Nat)(js:List Jp)(tk:List Bool)(s:Nat):List Mv:=Gi js tk s (n - 1)++K4 js tk
section
variable {n:Nat} {js:List Jp} {tk:List Bool} {s:Nat}
theorem Cd{m:Mv}:m∈mvs n js tk s↔(∃t,t+1 < n∧(m=⟨t,t+1,0,none⟩∨(over js tk t < s∧m=⟨t+1,t,0,none⟩)))∨∃k,k < js.length∧m=C2 (js.getD k (0,0,0)) (tk.getD k false) k:=by
 unfold mvs Gi K4;rw [List.mem_append,List.mem_flatMap,List.mem_map];constructor
 · rintro (⟨t,ht,h⟩ | ⟨k,hk,rfl⟩)
   · have ht:=List.mem_range.mp ht
     refine .inl ⟨t,by omega,?_⟩;unfold Nc at h;rcases List.mem_cons.mp h with h | h
     · exact .inl h
     · split at h
       · rename_i ho
         exact .inr ⟨ho,List.mem_singleton.mp h⟩
       · cases h
   · exact .inr ⟨k,List.mem_range.mp hk,rfl⟩
 · rintro (⟨t,ht,h⟩ | ⟨k,hk,rfl⟩)
   · refine .inl ⟨t,List.mem_range.mpr (by omega),?_⟩
     unfold Nc;rcases h with h | ⟨ho,h⟩
     · rw [h];exact List.mem_cons_self
     · rw [if_pos ho,h];simp
   · exact .inr ⟨k,List.mem_range.mpr hk,rfl⟩
def JOk(n:Nat)(js:List Jp):Prop:=∀j∈js,j.1≤j.2.1∧j.2.1 < n∧0≤j.2.2
theorem jat{k:Nat}(h:k < js.length):js.getD k (0,0,0)∈js:=by
 rw [List.getD_eq_getElem?_getD,List.getElem?_eq_getElem h];exact List.getElem_mem h
structure FI(n:Nat)(js:List Jp)(tk:List Bool)(s:Nat)(pi:Nat→Int):Prop where
 l:tk.length=js.length
 o:∀t,t+1 < n→over js tk t≤s
 p:Pot n (mvs n js tk s) pi
def tk0(js:List Jp):List Bool:=js.map fun j=>decide (j.1=j.2.1)
def f0(v:Nat)(j:Jp):Int:=if j.1 < j.2.1∧j.2.1≤v then j.2.2 else 0
def pi0(js:List Jp)(v:Nat):Int:=(js.map (f0 v)).sum
theorem J60:∀(js:List Jp) (t:Nat),over js (tk0 js) t=0
 | [],_=>rfl
 | j::js,t=>by
  show (if decide (j.1=j.2.1) && cov j t then 1 else 0)+over js (tk0 js) t=0;rw [J60,if_neg];unfold cov;simp only [Bool.and_eq_true,decide_eq_true_eq,not_and];omega
theorem Nd{f g:Jp→Int}:∀{l:List Jp},(∀j∈l,f j≤g j)→(l.map f).sum≤(l.map g).sum
 | [],_=>Int.le_refl _
 | j::l,h=>by
  rw [List.map_cons,List.map_cons,List.sum_cons,List.sum_cons];have:=h j (by simp);have:=Nd fun x hx=>h x (List.mem_cons_of_mem _ hx);omega
theorem Vw{f g:Jp→Int}{c:Int}:∀{l:List Jp} {j:Jp},j∈l→(∀j∈l,f j≤g j)→f j+c≤g j→(l.map f).sum+c≤(l.map g).sum
 | [],_,h,_,_=>by cases h
 | i::l,j,hm,h,hj=>by
  rw [List.map_cons,List.map_cons,List.sum_cons,List.sum_cons];rcases List.mem_cons.mp hm with e | e
  · rw [← e]
    have:=Nd (f:=f) (g:=g) fun x hx=>h x (List.mem_cons_of_mem _ hx);omega
  · have:=h i (by simp)
    have:=Vw e (fun x hx=>h x (List.mem_cons_of_mem _ hx)) hj;omega
theorem Vx{n:Nat}(J:JOk n js){a b:Nat}(h:a≤b):∀j∈js,f0 a j≤f0 b j:=fun j hj=>by
 have:=(J j hj).2.2;unfold f0;split
 · rw [if_pos (by omega)];omega
 · split <;> omega
theorem fi0(J:JOk n js)(hn:1≤n):FI n js (tk0 js) 0 (pi0 js):=by
 refine ⟨List.length_map ..,fun t _=>by rw [J60];exact Nat.le_refl _,?_,fun m hm=>?_⟩
 · have:∀l:List Jp,(l.map (f0 0)).sum=0:=fun l=>by
    induction l with
    | nil=>rfl
    | cons j l ih=>
     rw [List.map_cons,List.sum_cons,ih];unfold f0;rw [if_neg (by omega)];rfl
   exact this js
 · rcases Cd.mp hm with ⟨t,ht,rfl | ⟨ho,_⟩⟩ | ⟨k,hk,rfl⟩
   · refine ⟨by show t < n;omega,ht,?_⟩
     show pi0 js t+0≤pi0 js (t+1);have:=Nd (Vx (a:=t) (b:=t+1) J (by omega));unfold pi0;omega
   · omega
   · have hj:=jat hk
     have ho:=J _ hj
     have et:(tk0 js).getD k false=decide ((js.getD k (0,0,0)).1=(js.getD k (0,0,0)).2.1):=by
      unfold tk0;rw [List.getD_eq_getElem?_getD,List.getElem?_map,List.getD_eq_getElem?_getD,List.getElem?_eq_getElem hk];rfl
     rw [et];generalize js.getD k (0,0,0)=j at hj ho;unfold C2
     by_cases e:j.1=j.2.1
     · rw [if_pos (decide_eq_true e)]
       refine ⟨ho.2.1,by show j.1 < n;omega,?_⟩;show pi0 js j.2.1+(0 - j.2.2)≤pi0 js j.1;rw [e];omega
     · rw [if_neg (by rw [decide_eq_true_iff];exact e)]
       refine ⟨by show j.1 < n;omega,ho.2.1,?_⟩;show pi0 js j.1+j.2.2≤pi0 js j.2.1;unfold pi0;refine Vw hj (Vx J ho.1) ?_;unfold f0;rw [if_neg (by omega),if_pos (by omega)];omega
def h0(n:Nat):List Int:=List.replicate n 0
def w0(n:Nat):List Wy:=(List.range n).map fun (p:Nat)=>((p:Int) - 1,(none:Option Nat))
theorem J61{v:Nat}(h:v < n):(w0 n).getD v (0,none)=((v:Int) - 1,none):=by
 unfold w0;rw [List.getD_eq_getElem?_getD,List.getElem?_map,List.getElem?_range h];rfl
theorem at0{v:Nat}:at' (h0 n) v=0:=by
 unfold at' h0;rw [List.getD_eq_getElem?_getD,List.getElem?_replicate]
 split <;> rfl
theorem J15{pi:Nat→Int}(P:Pot n (mvs n js tk s) pi):∀v,v < n→0≤pi v
 | 0,_=>by rw [P.z];exact Int.le_refl _
 | v+1,h=>by
  have h1:=J15 P v (by omega);have h2:=(P.m ⟨v,v+1,0,none⟩ (Cd.mpr (.inl ⟨v,h,.inl rfl⟩))).2.2;have h3:pi v+0≤pi (v+1):=h2;omega
theorem ci0{pi:Nat→Int}(P:Pot n (mvs n js tk s) pi):CI n (mvs n js tk s) pi (h0 n) (w0 n):=by
 refine ⟨List.length_replicate ..,by unfold w0;rw [List.length_map,List.length_range],fun v hv=>by rw [at0];exact J15 P v hv,fun v hv=>by rw [at0];exact Int.le_refl _,fun v p hv=>?_,?_⟩
 · refine ⟨⟨v - 1,v,0,none⟩,Cd.mpr (.inl ⟨v - 1,by omega,.inl (by congr;omega)⟩),rfl,?_,?_⟩
   · rw [J61 hv]
     show ((v:Int) - 1,(none:Option Nat))=(((v - 1:Nat):Int),none);congr 1;omega
   · rw [at0,at0];exact Int.le_refl _
 · intro v
   induction v with
   | zero=>intro _;exact ⟨0,.z⟩
   | succ v ih=>
    intro hv;obtain ⟨d,r⟩:=ih (by omega);refine ⟨d+1,.s (by omega) ?_⟩
    have:prd (w0 n) (v+1)=v:=by
     unfold prd;rw [J61 hv];show (((v+1:Nat):Int) - 1).toNat=v;omega
    rw [this];exact r
end
def nums(w:List Wy):Nat→Nat→List (Option Nat)
 | 0,_=>[]
 | d+1,v=>(w.getD v (0,none)).2::nums w d (prd w v)
def usd(w:List Wy)(d v:Nat):List Nat:=(nums w d v).filterMap id
def flip(tk:List Bool)(k:Nat):List Bool:=tk.set k (!tk.getD k false)
def flips(tk:List Bool)(ks:List Nat):List Bool:=ks.foldl flip tk
def sg(js:List Jp)(tk:List Bool)(t k:Nat):Int:=if tk.getD k false then 0 - b1 (cov (js.getD k (0,0,0)) t) else b1 (cov (js.getD k (0,0,0)) t)
def dl(js:List Jp)(tk:List Bool)(t:Nat)(ks:List Nat):Int:=(ks.map (sg js tk t)).sum
section
variable {n:Nat} {js:List Jp} {tk:List Bool} {s:Nat} {pi:Nat→Int} {h:List Int} {w:List Wy}
theorem Nf{k:Nat}:(flip tk k).length=tk.length:=List.length_set ..
theorem Li:∀(ks:List Nat) (tk:List Bool),(flips tk ks).length=tk.length
 | [],_=>rfl
 | k::ks,tk=>(Li ks (flip tk k)).trans Nf
theorem Vy{k i:Nat}(hk:k < tk.length):(flip tk k).getD i false=if i=k then !tk.getD k false else tk.getD i false:=by
 unfold flip;rw [List.getD_eq_getElem?_getD,List.getElem?_set]
 by_cases e:k=i
 · rw [if_pos e,if_pos hk,if_pos e.symm];rfl
 · rw [if_neg e,if_neg (fun z=>e z.symm),← List.getD_eq_getElem?_getD]
theorem S5:∀(ks:List Nat) (tk:List Bool) (i:Nat),ks.Nodup→(∀k∈ks,k < tk.length)→(flips tk ks).getD i false=if i∈ks then !tk.getD i false else tk.getD i false
 | [],tk,i,_,_=>by rw [if_neg List.not_mem_nil];rfl
 | k::ks,tk,i,nd,hk=>by
  have h0:=hk k (by simp);have nd':=List.nodup_cons.mp nd;show (flips (flip tk k) ks).getD i false=_;rw [S5 ks _ i nd'.2 fun x hx=>by rw [Nf];exact hk x (List.mem_cons_of_mem _ hx),Vy h0]
  by_cases e:i=k
  · rw [if_pos e,if_neg (by rw [e];exact nd'.1),if_pos (by rw [e];simp),e]
  · rw [if_neg e]
    by_cases e2:i∈ks
    · rw [if_pos e2,if_pos (List.mem_cons_of_mem _ e2)]
    · rw [if_neg e2,if_neg (fun z=>by rcases List.mem_cons.mp z with z | z;exact e z;exact e2 z)]
theorem Ng(t:Nat):∀(ks:List Nat) (tk:List Bool),tk.length=js.length→ks.Nodup→(∀k∈ks,k < js.length)→(over js (flips tk ks) t:Int)=over js tk t+dl js tk t ks
 | [],tk,_,_,_=>by show (over js tk t:Int)=over js tk t+0;omega
 | k::ks,tk,hl,nd,hk=>by
  have h0:=hk k (by simp);have nd':=List.nodup_cons.mp nd;show (over js (flips (flip tk k) ks) t:Int)=_;rw [Ng t ks (flip tk k) (by rw [Nf];exact hl) nd'.2 fun x hx=>hk x (List.mem_cons_of_mem _ hx)]
  have e1:dl js (flip tk k) t ks=dl js tk t ks:=by
   unfold dl;congr 1;refine List.map_congr_left fun x hx=>?_;unfold sg;rw [Vy (by omega),if_neg (fun e:x=k=>nd'.1 (by rw [← e];exact hx))]
  have e2:dl js tk t (k::ks)=sg js tk t k+dl js tk t ks:=by unfold dl;rw [List.map_cons,List.sum_cons]
  rw [e1,e2]
  have e3:(over js (flip tk k) t:Int)=over js tk t+sg js tk t k:=by
   unfold flip;rw [S4 h0 hl];unfold sg b1
   cases tk.getD k false <;> cases cov (js.getD k (0,0,0)) t <;> simp <;> omega
  omega
def le1(a t:Nat):Int:=b1 (decide (a≤t))
theorem J45{j:Jp}{t:Nat}(h:j.1≤j.2.1):le1 j.1 t - le1 j.2.1 t=b1 (cov j t):=by
 unfold le1 cov b1
 by_cases h1:j.1≤t
 · by_cases h2:t < j.2.1
   · rw [decide_eq_true h1,decide_eq_true h2,decide_eq_false (show ¬j.2.1≤t by omega)];rfl
   · rw [decide_eq_true h1,decide_eq_false h2,decide_eq_true (show j.2.1≤t by omega)];rfl
 · rw [decide_eq_false h1,decide_eq_false (show ¬j.2.1≤t by omega)];rfl
theorem J16{a t:Nat}:le1 a t - le1 (a+1) t=if a=t then 1 else 0:=by
 unfold le1 b1
 by_cases h1:a=t
 · rw [decide_eq_true (show a≤t by omega),decide_eq_false (show ¬a+1≤t by omega),if_pos h1];rfl
 · rw [if_neg h1]
   by_cases h2:a≤t
   · rw [decide_eq_true h2,decide_eq_true (show a+1≤t by omega)];rfl
   · rw [decide_eq_false h2,decide_eq_false (show ¬a+1≤t by omega)];rfl
def U8(ms:List Mv)(h:List Int):Prop:=∀m∈ms,at' h m.u+m.g≤at' h m.v
def tgt(js:List Jp)(tk:List Bool)(k:Nat):Nat:=(C2 (js.getD k (0,0,0)) (tk.getD k false) k).v
structure WB(n:Nat)(js:List Jp)(tk:List Bool)(s:Nat)(h:List Int)(w:List Wy)(d v:Nat):Prop where
 nd:(usd w d v).Nodup
 kl:∀k∈usd w d v,k < js.length
 tg:∀k∈usd w d v,∃d',0 < d'∧d'≤d∧Rch w (tgt js tk k) d'
 ti:∀k∈usd w d v,at' h (C2 (js.getD k (0,0,0)) (tk.getD k false) k).u+(C2 (js.getD k (0,0,0)) (tk.getD k false) k).g=at' h (C2 (js.getD k (0,0,0)) (tk.getD k false) k).v
 cr:∀t,∃fs bs:Nat,dl js tk t (usd w d v)+fs - bs=1 - le1 v t∧(0 < fs→at' h (t+1)≤at' h t)∧bs≤1∧(0 < bs→over js tk t < s∧∃d',0 < d'∧d'≤d∧Rch w t d')
theorem wb(J:JOk n js)(c:CI n (mvs n js tk s) pi h w)(P:Pot n (mvs n js tk s) pi)(R:U8 (mvs n js tk s) h):∀{v d:Nat},Rch w v d→v < n→WB n js tk s h w d v:=by
 intro v d r
 induction r with
 | z=>
  intro _;refine ⟨List.nodup_nil,(fun k hk=>by cases hk),(fun k hk=>by cases hk),(fun k hk=>by cases hk),fun t=>⟨0,0,?_,fun z=>absurd z (Nat.lt_irrefl _),Nat.zero_le _,fun z=>absurd z (Nat.lt_irrefl _)⟩⟩;show (0:Int)+0 - 0=1 - le1 0 t;unfold le1 b1;rw [decide_eq_true (Nat.zero_le t)];rfl
 | @s v d p r ih=>
  intro hv;obtain ⟨m,hm,e1,e2,e3⟩:=c.wy v p hv
  have ep:prd w v=m.u:=by unfold prd;rw [e2];exact Int.toNat_natCast _
  have pm:=P.m m hm;have W:=ih (by rw [ep];exact pm.1);have rv:Rch w v (d+1):= .s p r
  have ti:at' h m.u+m.g=at' h m.v:=by have:=R m hm;rw [e1]at this ⊢;omega
  have up:∀x,(∃d',0 < d'∧d'≤d∧Rch w x d')→∃d',0 < d'∧d'≤d+1∧Rch w x d':=fun x ⟨d',a,b,c⟩=>⟨d',a,by omega,c⟩
  rcases Cd.mp hm with ⟨a,ha,hs⟩ | ⟨k,hk,rfl⟩
  · have ek:m.k=none:=by rcases hs with rfl | ⟨_,rfl⟩ <;> rfl
    have eu:usd w (d+1) v=usd w d m.u:=by
     unfold usd;show (List.filterMap id ((w.getD v (0,none)).2::nums w d (prd w v)))=_;rw [e2,ek,ep];rfl
    rw [ep]at W;refine ⟨by rw [eu];exact W.nd,by rw [eu];exact W.kl,by rw [eu];exact fun k hk=>up _ (W.tg k hk),by rw [eu];exact W.ti,fun t=>?_⟩;rw [eu];obtain ⟨fs,bs,c1,c2,c3,c4⟩:=W.cr t;have st:=J16 (a:=a) (t:=t);rcases hs with rfl | ⟨ho,rfl⟩
    · have e1':a+1=v:=e1
      have ti':at' h a+0=at' h (a+1):=ti;have c1':dl js tk t (usd w d a)+fs - bs=1 - le1 a t:=c1;rw [← e1']
      by_cases e:a=t
      · rw [if_pos e]at st
        refine ⟨fs+1,bs,?_,fun _=>by rw [← e];omega,c3,fun z=>⟨(c4 z).1,up _ (c4 z).2⟩⟩;show dl js tk t (usd w d a)+((fs+1:Nat):Int) - bs=_;omega
      · rw [if_neg e]at st
        refine ⟨fs,bs,?_,c2,c3,fun z=>⟨(c4 z).1,up _ (c4 z).2⟩⟩;show dl js tk t (usd w d a)+fs - bs=_;omega
    · have e1':a=v:=e1
      have c1':dl js tk t (usd w d (a+1))+fs - bs=1 - le1 (a+1) t:=c1;rw [← e1']
      by_cases e:a=t
      · rw [if_pos e]at st
        have b0:bs=0:=by
         rcases Nat.eq_zero_or_pos bs with z | z
         · exact z
         · obtain ⟨_,d',_,h2,h3⟩:=c4 z
           rw [← e,e1']at h3;have:=rv.inj h3;omega
        refine ⟨fs,1,?_,c2,Nat.le_refl _,fun _=>⟨by rw [← e];exact ho,d+1,by omega,Nat.le_refl _,by rw [← e,e1'];exact rv⟩⟩;show dl js tk t (usd w d (a+1))+fs - ((1:Nat):Int)=_;omega
      · rw [if_neg e]at st
        refine ⟨fs,bs,?_,c2,c3,fun z=>⟨(c4 z).1,up _ (c4 z).2⟩⟩;show dl js tk t (usd w d (a+1))+fs - bs=_;omega
  · have hj:=J _ (jat hk)
    have ek:(C2 (js.getD k (0,0,0)) (tk.getD k false) k).k=some k:=by unfold C2;split <;> rfl
    have eu:usd w (d+1) v=k::usd w d (C2 (js.getD k (0,0,0)) (tk.getD k false) k).u:=by
     unfold usd;show (List.filterMap id ((w.getD v (0,none)).2::nums w d (prd w v)))=_;rw [e2,ek,ep];rfl
    rw [ep]at W
    have nk:k∉usd w d (C2 (js.getD k (0,0,0)) (tk.getD k false) k).u:=fun z=>by
     obtain ⟨d',_,h2,h3⟩:=W.tg k z;have et:tgt js tk k=v:=e1;rw [et]at h3;have:=rv.inj h3;omega
    refine ⟨by rw [eu];exact List.nodup_cons.mpr ⟨nk,W.nd⟩,?_,?_,?_,fun t=>?_⟩
    · rw [eu];intro x hx
      rcases List.mem_cons.mp hx with rfl | hx
      · exact hk
      · exact W.kl x hx
    · rw [eu];intro x hx
      rcases List.mem_cons.mp hx with rfl | hx
      · exact ⟨d+1,by omega,Nat.le_refl _,by rw [show tgt js tk x=v from e1];exact rv⟩
      · exact up _ (W.tg x hx)
    · rw [eu];intro x hx
      rcases List.mem_cons.mp hx with rfl | hx
      · exact ti
      · exact W.ti x hx
    · obtain ⟨fs,bs,c1,c2,c3,c4⟩:=W.cr t
      refine ⟨fs,bs,?_,c2,c3,fun z=>⟨(c4 z).1,up _ (c4 z).2⟩⟩
      have ed:dl js tk t (usd w (d+1) v)=sg js tk t k+dl js tk t (usd w d (C2 (js.getD k (0,0,0)) (tk.getD k false) k).u):=by rw [eu];unfold dl;rw [List.map_cons,List.sum_cons]
      have lc:=J45 (t:=t) hj.1;rw [ed,← e1];clear ed eu nk up rv ti pm ep e3 e2 hm
      revert c1
      unfold sg C2
      cases tk.getD k false with
      | true=>
       rw [if_pos rfl,if_pos rfl];intro c1;show 0 - b1 (cov (js.getD k (0,0,0)) t)+dl js tk t (usd w d (js.getD k (0,0,0)).2.1)+fs - bs=1 - le1 (js.getD k (0,0,0)).1 t;have c1':dl js tk t (usd w d (js.getD k (0,0,0)).2.1)+fs - bs=1 - le1 (js.getD k (0,0,0)).2.1 t:=c1;omega
      | false=>
       rw [if_neg (by decide),if_neg (by decide)];intro c1;show b1 (cov (js.getD k (0,0,0)) t)+dl js tk t (usd w d (js.getD k (0,0,0)).1)+fs - bs=1 - le1 (js.getD k (0,0,0)).2.1 t;have c1':dl js tk t (usd w d (js.getD k (0,0,0)).1)+fs - bs=1 - le1 (js.getD k (0,0,0)).1 t:=c1;omega
theorem Ol(hn:1≤n)(P:Pot n (mvs n js tk s) pi)(c:CI n (mvs n js tk s) pi h w):at' h 0=0:=by
 have h1:=c.hi 0 (by omega);have h2:=c.lo 0 (by omega);rw [P.z]at h1;omega
theorem J17(hn:1≤n)(P:Pot n (mvs n js tk s) pi)(c:CI n (mvs n js tk s) pi h w)(R:U8 (mvs n js tk s) h):Pot n (mvs n js tk s) (at' h):=⟨Ol hn P c,fun m hm=>⟨(P.m m hm).1,(P.m m hm).2.1,R m hm⟩⟩
theorem J46(J:JOk n js)(hn:1≤n)(F:FI n js tk s pi)(c:CI n (mvs n js tk s) pi h w)(R:U8 (mvs n js tk s) h){d:Nat}(r:Rch w (n - 1) d):FI n js (flips tk (usd w d (n - 1))) (s+1) (at' h):=by
 have W:=wb J c F.p R r (by omega)
 have hl:∀k∈usd w d (n - 1),k < tk.length:=fun k hk=>by rw [F.l];exact W.kl k hk
 have ov:∀t,t+1 < n→∃fs bs:Nat,(over js (flips tk (usd w d (n - 1))) t:Int)=over js tk t+1 - fs+bs∧(0 < fs→at' h (t+1)≤at' h t)∧bs≤1∧(0 < bs→over js tk t < s):=fun t ht=>by
  obtain ⟨fs,bs,c1,c2,c3,c4⟩:=W.cr t;refine ⟨fs,bs,?_,c2,c3,fun z=>(c4 z).1⟩;rw [Ng t _ tk F.l W.nd W.kl]
  have:le1 (n - 1) t=0:=by unfold le1 b1;rw [decide_eq_false (show ¬n - 1≤t by omega)];rfl
  omega
 refine ⟨by rw [Li];exact F.l,fun t ht=>?_,Ol hn F.p c,fun m hm=>?_⟩
 · obtain ⟨fs,bs,c1,c2,c3,c4⟩:=ov t ht
   have:=F.o t ht
   by_cases z:0 < bs
   · have:=c4 z;omega
   · omega
 · rcases Cd.mp hm with ⟨t,ht,rfl | ⟨ho,rfl⟩⟩ | ⟨k,hk,rfl⟩
   · have hm':(⟨t,t+1,0,none⟩:Mv)∈mvs n js tk s:=Cd.mpr (.inl ⟨t,ht,.inl rfl⟩)
     exact ⟨by show t < n;omega,ht,R _ hm'⟩
   · refine ⟨ht,by show t < n;omega,?_⟩
     show at' h (t+1)+0≤at' h t;obtain ⟨fs,bs,c1,c2,c3,c4⟩:=ov t ht
     by_cases hs:over js tk t < s
     · exact R ⟨t+1,t,0,none⟩ (Cd.mpr (.inl ⟨t,ht,.inr ⟨hs,rfl⟩⟩))
     · have b0:bs=0:=by
        rcases Nat.eq_zero_or_pos bs with z | z
        · exact z
        · exact absurd (c4 z) hs
       have:=c2 (by omega);omega
   · have hj:=J _ (jat hk)
     have hm':C2 (js.getD k (0,0,0)) (tk.getD k false) k∈mvs n js tk s:=Cd.mpr (.inr ⟨k,hk,rfl⟩);rw [S5 _ tk k W.nd hl]
     by_cases e:k∈usd w d (n - 1)
     · rw [if_pos e]
       have ti:=W.ti k e
       revert ti
       unfold C2
       cases tk.getD k false with
       | true=>
        rw [if_pos rfl,if_neg (by decide)];intro ti;have ti':at' h (js.getD k (0,0,0)).2.1+(0 - (js.getD k (0,0,0)).2.2)=at' h (js.getD k (0,0,0)).1:=ti;refine ⟨by show (js.getD k (0,0,0)).1 < n;omega,hj.2.1,?_⟩;show at' h (js.getD k (0,0,0)).1+(js.getD k (0,0,0)).2.2≤at' h (js.getD k (0,0,0)).2.1;omega
       | false=>
        rw [if_neg (by decide),if_pos (by decide)];intro ti;have ti':at' h (js.getD k (0,0,0)).1+(js.getD k (0,0,0)).2.2=at' h (js.getD k (0,0,0)).2.1:=ti;refine ⟨hj.2.1,by show (js.getD k (0,0,0)).1 < n;omega,?_⟩;show at' h (js.getD k (0,0,0)).2.1+(0 - (js.getD k (0,0,0)).2.2)≤at' h (js.getD k (0,0,0)).1;omega
     · rw [if_neg e]
       exact ⟨(F.p.m _ hm').1,(F.p.m _ hm').2.1,R _ hm'⟩
end
def rs(f:Nat→Int)(N:Nat):Int:=((List.range N).map f).sum
theorem Ds{f:Nat→Int}{N:Nat}:rs f (N+1)=rs f N+f N:=by
 unfold rs;rw [List.range_succ,List.map_append,List.sum_append];simp
theorem J18{f g:Nat→Int}{N:Nat}(h:∀t,t < N→f t=g t):rs f N=rs g N:=by
 unfold rs;congr 1;exact List.map_congr_left fun t ht=>h t (List.mem_range.mp ht)
theorem J19{f g:Nat→Int}:∀{N:Nat},rs (fun t=>f t+g t) N=rs f N+rs g N
 | 0=>rfl
 | N+1=>by rw [Ds,Ds,Ds,J19];omega
theorem Mf:∀{N:Nat},rs (fun _=>0) N=0
 | 0=>rfl
 | N+1=>by rw [Ds,Mf];rfl
theorem J1a{f:Nat→Int}{c:Int}:∀{N:Nat},rs (fun t=>c * f t) N=c * rs f N
 | 0=>by show (0:Int)=c * 0;omega
 | N+1=>by rw [Ds,Ds,J1a,Int.mul_add]
theorem U9{q:Nat→Int}:∀{N:Nat},rs (fun t=>q (t+1) - q t) N=q N - q 0
 | 0=>by show (0:Int)=q 0 - q 0;omega
 | N+1=>by rw [Ds,U9];omega
theorem J1b{q:Nat→Int}{j:Jp}(hj:j.1≤j.2.1):∀{N:Nat},rs (fun t=>b1 (cov j t) * (q (t+1) - q t)) N=q (min j.2.1 N) - q (min j.1 N)
 | 0=>by
  rw [Nat.min_zero,Nat.min_zero];show (0:Int)=q 0 - q 0;omega
 | N+1=>by
  rw [Ds,J1b hj];unfold cov b1
  by_cases h1:j.1≤N
  · by_cases h2:N < j.2.1
    · rw [decide_eq_true h1,decide_eq_true h2,Nat.min_eq_right (show N≤j.2.1 by omega),Nat.min_eq_left h1,Nat.min_eq_right (show N+1≤j.2.1 by omega),Nat.min_eq_left (show j.1≤N+1 by omega)]
      show q N - q j.1+1 * (q (N+1) - q N)=_;omega
    · rw [decide_eq_true h1,decide_eq_false h2,Nat.min_eq_left (show j.2.1≤N by omega),Nat.min_eq_left h1,Nat.min_eq_left (show j.2.1≤N+1 by omega),Nat.min_eq_left (show j.1≤N+1 by omega)]
      show q j.2.1 - q j.1+0 * (q (N+1) - q N)=_;omega
  · rw [decide_eq_false h1,Nat.min_eq_right (show N≤j.2.1 by omega),Nat.min_eq_right (show N≤j.1 by omega),Nat.min_eq_right (show N+1≤j.2.1 by omega),Nat.min_eq_right (show N+1≤j.1 by omega)]
    show q N - q N+0 * (q (N+1) - q N)=_;omega
def tsum(q:Nat→Int):List Jp→List Bool→Int
 | j::js,b::bs=>(if b then q j.2.1 - q j.1 else 0)+tsum q js bs
 | _,_=>0
theorem Om{q:Nat→Int}{N:Nat}:∀{js:List Jp} {tk:List Bool},(∀j∈js,j.1≤j.2.1∧j.2.1≤N)→tsum q js tk=rs (fun t=>(over js tk t:Int) * (q (t+1) - q t)) N
 | [],tk,_=>by
  have:(fun t=>((over [] tk t:Nat):Int) * (q (t+1) - q t))=fun _=>0:=by
   funext t
   rw [show over [] tk t=0 by cases tk <;> rfl];simp
  rw [this,Mf];cases tk <;> rfl
 | j::js,[],_=>by
  have:(fun t=>((over (j::js) [] t:Nat):Int) * (q (t+1) - q t))=fun _=>0:=by
   funext t;rw [show over (j::js) [] t=0 from rfl];simp
  rw [this,Mf];rfl
 | j::js,b::tk,hj=>by
  have h0:=hj j (by simp);have ih:=Om (q:=q) (N:=N) (js:=js) (tk:=tk) fun i hi=>hj i (List.mem_cons_of_mem _ hi);show (if b then q j.2.1 - q j.1 else 0)+tsum q js tk=_;rw [ih]
  have e:(fun t=>((over (j::js) (b::tk) t:Nat):Int) * (q (t+1) - q t))=fun t=>b1 (b && cov j t) * (q (t+1) - q t)+(over js tk t:Int) * (q (t+1) - q t):=by
   funext t;rw [← Int.add_mul];congr 1;show (((if b && cov j t then 1 else 0)+over js tk t:Nat):Int)=_;unfold b1
   cases b && cov j t <;> simp
  rw [e,J19];congr 1
  cases b with
  | true=>
   have e2:(fun t=>b1 (true && cov j t) * (q (t+1) - q t))=fun t=>b1 (cov j t) * (q (t+1) - q t):=by funext t;rw [Bool.true_and]
   rw [e2,J1b h0.1,Nat.min_eq_left h0.2,Nat.min_eq_left (by omega)];rfl
  | false=>
   have e2:(fun t=>b1 (false && cov j t) * (q (t+1) - q t))=fun _=>0:=by funext t;rw [Bool.false_and];show (0:Int) * _=0;simp
   rw [e2,Mf];rfl
structure FE(n:Nat)(js:List Jp)(tk:List Bool)(most:Int)(h:List Int):Prop where
 l:tk.length=js.length
 lh:h.length=n
 o:∀t,t+1 < n→(over js tk t:Int)≤most
 z:at' h 0=0
 up:∀t,t+1 < n→at' h t≤at' h (t+1)
 t1:∀k,k < js.length→tk.getD k false=true→at' h (js.getD k (0,0,0)).2.1 - at' h (js.getD k (0,0,0)).1≤(js.getD k (0,0,0)).2.2
 t0:∀k,k < js.length→tk.getD k false=false→(js.getD k (0,0,0)).2.2≤at' h (js.getD k (0,0,0)).2.1 - at' h (js.getD k (0,0,0)).1
 s:tsum (at' h) js tk=most * at' h (n - 1)
section
variable {n:Nat} {js:List Jp} {tk:List Bool} {s:Nat} {pi:Nat→Int} {h:List Int} {w:List Wy}
theorem J8t(J:JOk n js)(hn:1≤n)(F:FI n js tk s pi)(c:CI n (mvs n js tk s) pi h w)(R:U8 (mvs n js tk s) h){most:Int}(hs:(s:Int)≤most)(he:(s:Int)=most∨at' h (n - 1)≤0):FE n js tk most h:=by
 have P:=J17 hn F.p c R
 have up:∀t,t+1 < n→at' h t≤at' h (t+1):=fun t ht=>by
  have:at' h t+0≤at' h (t+1):=R ⟨t,t+1,0,none⟩ (Cd.mpr (.inl ⟨t,ht,.inl rfl⟩));omega
 refine ⟨F.l,c.lh,fun t ht=>by have:=F.o t ht;omega,P.z,up,fun k hk hb=>?_,fun k hk hb=>?_,?_⟩
 · have:=R _ (Cd.mpr (.inr ⟨k,hk,rfl⟩))
   rw [hb]at this;have:at' h (js.getD k (0,0,0)).2.1+(0 - (js.getD k (0,0,0)).2.2)≤at' h (js.getD k (0,0,0)).1:=this;omega
 · have:=R _ (Cd.mpr (.inr ⟨k,hk,rfl⟩))
   rw [hb]at this;have:at' h (js.getD k (0,0,0)).1+(js.getD k (0,0,0)).2.2≤at' h (js.getD k (0,0,0)).2.1:=this;omega
 · rw [Om (N:=n - 1) fun j hj=>⟨(J j hj).1,by have:=(J j hj).2.1;omega⟩]
   have e:rs (fun t=>(over js tk t:Int) * (at' h (t+1) - at' h t)) (n - 1)=rs (fun t=>(s:Int) * (at' h (t+1) - at' h t)) (n - 1):=J18 fun t ht=>by
    by_cases ho:over js tk t < s
    · have h1:at' h (t+1)+0≤at' h t:=R ⟨t+1,t,0,none⟩ (Cd.mpr (.inl ⟨t,by omega,.inr ⟨ho,rfl⟩⟩))
      have h2:=up t (by omega);rw [show at' h (t+1) - at' h t=0 by omega];simp
    · have:=F.o t (by omega)
      rw [show over js tk t=s by omega]
   rw [e,J1a,U9,P.z,Int.sub_zero];rcases he with e | e
   · rw [e]
   · have:0≤at' h (n - 1):=c.lo _ (by omega)
     rw [show at' h (n - 1)=0 by omega];simp
end
end NF
namespace L2
open Sem (wp)
section
variable {Pg:Program} {w:World} {A:Around} {E:Value→Shared→Prop} {h:Heap} {g:Array GenState} {d:Drawn} {t:Nat} {os:OsState}
variable {nm q:Str} {C N:Addr} {bs bm bmB:List Value} {hd:Bool} {sn:List Str} {su:List Value} {ab:Bool} {co:Option Bool} {dd:Option Addr} {k0 k1 k2 k3 k5:Option Value} {B nw ni:String}
abbrev J47(h:Heap)(C:Addr):Obj:={cls:= .ref C,data:= .fields #[.ref h.objs.size,.none,.none,.none,.bool false,.none]}
abbrev J48(h:Heap)(C:Addr)(rest:List Value):Heap:=(h.push {cls:= .type "tuple",data:= .seq rest.toArray}).push (J47 h C)
theorem J1c{rest:List Value}:∀b o,h.get? b=some o→(J48 h C rest).get? b=some o:=fun _ _ e=>Heap.get?_push_of_some _ (Heap.get?_push_of_some _ e)
end
def exO(n:Bool)(x C:Addr)(od:Option Addr):HO:= .ext fun h=>∃vs sl,h.get? x=some ⟨.ref C,od,.fields vs,sl⟩∧(n=true→∃t,vs=#[.ref t,.none,.none,.none,.bool false,.none])
end L2
namespace L2
open Sem (wp)
def pI(C:Addr)(H₀:Hp)(EE:St→XK):St→Addr→Hp→Prop:=fun σ x H2=>∃od,H2 x=some (exO true x C od)∧H₀ x=none∧EE σ (.ref C) (some x) (upd H2 x (exO false x C od))
end L2
namespace L2
theorem J8u{P:Program}{w:World}{k:Key}{u:Value}(h:(B0 P w).is k u=true):Ao (kV k) u:=by
 cases k with
 | inl i=>
  cases u <;> first | (exact absurd h (by intro z;cases z)) | skip
  rename_i j t
  have e:j=i:=by simpa [B0,Ls,Value.isInt] using h
  exact ⟨t,by rw [e]⟩
 | inr x=>
  cases u <;> first | (exact absurd h (by intro z;cases z)) | skip
  rename_i j t
  have e:j=x:=by simpa [B0,Ls,Value.isStrOf] using h
  exact ⟨t,by rw [e]⟩
theorem S6:∀{xs:List V} {us:List Value},Aw xs us→∀{i:Nat} {u:Value},us[i]?=some u→∃x,xs[i]?=some x∧Ao x u
 | _,_,.cons r t,0,u,e=>by cases e;exact ⟨_,rfl,r⟩
 | _,_,.cons r t,i+1,u,e=>S6 t (i:=i) e
theorem Vz:∀{xs:List V} {us:List Value},xs.length=us.length→(∀(j:Nat) (u:Value),us[j]?=some u→∃x,xs[j]?=some x∧Ao x u)→Aw xs us
 | [],[],_,_=> .nil
 | x::xs,u::us,hl,h=>by
  obtain ⟨y,e,r⟩:=h 0 u rfl;cases e;exact .cons r (Vz (by simpa using hl) fun j v e=>h (j+1) v e)
theorem K5{α β:Type}{F:α→β→Prop}:∀{l:List α} {m:List β},Paired F l m→∀{i:Nat} {b:β},m[i]?=some b→∃a,l[i]?=some a∧F a b
 | _,_,.cons r t,0,b,e=>by cases e;exact ⟨_,rfl,r⟩
 | _,_,.cons r t,i+1,b,e=>K5 t (i:=i) e
theorem On{α β:Type}(f:α→β):∀(l:List α) (i:Nat),(l.map f).eraseIdx i=(l.eraseIdx i).map f
 | [],_=>rfl
 | _::_,0=>rfl
 | a::l,i+1=>by rw [List.map_cons,List.eraseIdx_cons_succ,List.eraseIdx_cons_succ,List.map_cons,On f l i]
theorem S7(z:Str):∀l:List Str,l.eraseIdx (l.idxOf z)=l.erase z
 | []=>rfl
 | a::l=>by
  by_cases h:a=z
  · subst h;simp
  · have e:(a::l).idxOf z=l.idxOf z+1:=by rw [List.idxOf_cons,show (a==z)=false from beq_false_of_ne h];rfl
    rw [e,List.eraseIdx_cons_succ,S7 z l,List.erase_cons_tail (by simpa using h)]
def S8(v d:Addr):HO:= .ext fun h=>h.IsValuesView v d
theorem Xh:∀(is:List Int),preSum (fun i=>is.getD i 0) is.length=is.sum:=by
 intro is
 have key:∀n,n≤is.length→preSum (fun i=>is.getD i 0) n=(is.take n).sum:=by
  intro n
  induction n with
  | zero=>intro _;rfl
  | succ n ih=>
   intro h
   have e:is.take (n+1)=is.take n++[is.getD n 0]:=by
    rw [List.take_add_one,List.getD_eq_getElem?_getD,List.getElem?_eq_getElem (by omega)];rfl
   rw [preSum,ih (by omega),e,List.sum_append];simp
 have:=key is.length (Nat.le_refl _)
 rwa [List.take_length]at this
def J1d:List V→Hp→VK→Prop:=fun xs H Q=>∃a kvs,xs=[.ref a]∧H a=some (.dK kvs)∧∀l,H l=none→Q (.ref l) (upd H l (.lst (kvs.map fun p=>kV p.1)))
def W0:V→List V→Hp→VK→Prop:=fun x vs H Q=>∃a kvs,x= .ref a∧vs=[]∧H a=some (.dK kvs)∧∀v,H v=none→Q (.ref v) (upd H v (S8 v a))
def J62:List V→Hp→VK→Prop:=fun xs H Q=>∃(v d:Addr) (kvs:List (Key×V)) (is:List Int),xs=[.ref v]∧H v=some (S8 v d)∧H d=some (.dK kvs)∧kvs.map (·.2)=is.map V.int∧Q (.int is.sum) H
def W1:V→List V→Hp→VK→Prop:=fun x vs H Q=>∃(l:Addr) (ys:List Str) (z:Str),x= .ref l∧vs=[.str z]∧H l=some (.lst (ys.map V.str))∧z∈ys∧Q .non (upd H l (.lst ((ys.erase z).map V.str)))
section
variable {X:Cx}
theorem Ua(hc:X.calm=true):G5 X (.type "list") J1d:=by
 intro pins s σ H xs us Q I r h;obtain ⟨a,kvs,rfl,ha,q⟩:=h;obtain ⟨u,rfl,rx⟩:=Gc r;cases rx;obtain ⟨z,lo,ws,rel,ob,es,ep,e1,e2⟩:=I.hok a _ ha
 have dat:s.heap.DictAt (B0 X.prog X.w) a ws ep:=⟨ob,es,e1,e2⟩
 refine PySem.W.kdl_call (PySem.W.kdl_dict (knd:=B0 X.prog X.w) (kvs:=ws) (ep:=ep) lo) (I.ok.hd hc) dat (by rw [← rel.length];exact z) fun h' tk acc c' kp e hi=>?_
 have hv:Aw (kvs.map fun p=>kV p.1) acc.toList:=by
  have h1:=hi.1;have h2:=rel.length;refine Vz (by rw [List.length_map];exact h2.trans (h1.symm.trans (Array.length_toList (xs:=acc)).symm)) fun j u ej=>?_;obtain ⟨k,x,ek,hk⟩:=hi.2 j u (by rw [← Array.getElem?_toList];exact ej);obtain ⟨p,ep',hp⟩:=K5 rel ek;exact ⟨kV p.1,by rw [List.getElem?_map,ep'];rfl,by rw [hp.1];exact J8u hk⟩
 refine ⟨.ref s.heap.objs.size,_,I.laid (t':=tk) kp (Nat.le_refl _) (show Bg X.prog X.w _ h' _ (.lst (kvs.map fun p=>kV p.1)) from ⟨by rw [List.length_map];exact z,acc.toList,c',hv,?_⟩),rfl,q _ I.fresh⟩;rw [Array.toArray_toList];exact e
theorem Xi:MtM X "dict.values" W0:=by
 intro pins s σ H x vs v us Q I rx rv h;obtain ⟨a,kvs,rfl,rfl,ha,q⟩:=h;cases rx;have hus:=rv.zero;subst hus;obtain ⟨z,lo,ws,rel,dd⟩:=I.hok a _ ha;refine call_meetsIn PySem.F.slot_dict_values dd.typeIs PySem.F.entry_dict_values (PySem.F.args_dict_values_1 _) (meets_dict_values (B0 X.prog X.w) a lo) ⟨⟨ws,dd⟩,?_⟩;refine ⟨.ref s.heap.objs.size,_,I.laid (t':=s.toks) (fun b o e=>Heap.get?_push_of_some _ e) (Nat.le_refl _) (show Bg X.prog X.w _ _ _ (S8 s.heap.objs.size a) from ⟨⟨_,Heap.get?_push_size _ rfl,rfl,rfl⟩,⟨_,Heap.get?_push_size _ rfl⟩,fun h1 h2 ⟨o,e1,e2⟩ k=>⟨o,k _ e1,e2⟩⟩),rfl,q _ I.fresh⟩
theorem Xj(hc:X.calm=true):G5 X (.builtin "sum") J62:=by
 intro pins s σ H xs us Q I r h;obtain ⟨v,d,kvs,is,rfl,hv,hd,hm,q⟩:=h;obtain ⟨u,rfl,rx⟩:=Gc r;cases rx;obtain ⟨z,lo,ws,rel,ob,es,ep,e1,e2⟩:=I.hok d _ hd
 have dat:s.heap.DictAt (B0 X.prog X.w) d ws ep:=⟨ob,es,e1,e2⟩
 have hvw:s.heap.IsValuesView v d:=(I.hok v _ hv).1;have src:=PySem.W.kdl_values (prog:=X.prog) (w:=X.w) (r:=v) (d:=d) (knd:=B0 X.prog X.w) (kvs:=ws) (ep:=ep)
 have hlen:ws.length=is.length:=by
  have:=congrArg List.length hm;simp only [List.length_map]at this;rw [← rel.length];exact this
 refine call_sum_walkAnyS ?_;obtain ⟨oI,St,hit,W,st⟩:=src.iter X.A.in1 s (I.ok.hd hc) ⟨hvw,dat⟩;refine hit _ _ ⟨s.heap.objs.size,_,_,_,_,_,_,fun i=>is.getD i 0,rfl,W.toS,st,fun b hb=>?_,fun i u hp=>?_,fun s' t' hmv=>?_⟩
 · show b < (s.heap.push oI).objs.size
   rw [size_push'];rcases List.mem_cons.mp hb with e | hb
   · rw [e];exact Nat.lt_succ_self _
   · rw [List.mem_singleton.mp hb];exact Nat.lt_succ_of_lt (Heap.lt_size e1)
 · obtain ⟨k,ek⟩:=hp
   obtain ⟨p,ep',hp'⟩:=K5 rel ek
   have e3:(kvs.map (·.2))[i]?=some p.2:=by rw [List.getElem?_map,ep'];rfl
   rw [hm,List.getElem?_map]at e3
   cases hi:is[i]? with
   | none=>rw [hi]at e3;cases e3
   | some n=>
    rw [hi]at e3;have e4:V.int n=p.2:=Option.some.inj e3;have r2:=hp'.2;rw [← e4]at r2;show ∃t,u=Value.int (is.getD i 0) t;rw [List.getD_eq_getElem?_getD,hi];exact r2
 · have hk:∀b o,s.heap.get? b=some o→s'.heap.get? b=some o:=fun b o e=>
    hmv.heap b o (fun hI=>absurd (Heap.lt_size e) (by rw [List.mem_singleton.mp hI];exact Nat.lt_irrefl _)) (Heap.get?_push_of_some _ e)
   rw [Moved.eq_with hmv];refine ⟨.int is.sum,H,I.kept (t':=s'.toks) hk,⟨t',?_⟩,q⟩;rw [hlen,Xh]
theorem Xk:MtM X "list.remove" W1:=by
 intro pins s σ H x vs v us Q I rx rv h;obtain ⟨l,ys,z,rfl,rfl,hH,hz,q⟩:=h;cases rx;obtain ⟨u,rfl,ru⟩:=rv.one;obtain ⟨t,rfl⟩:=ru;obtain ⟨hs,its,n,r,hl,e⟩:=I.lstM hH;have hj:ys.idxOf z < ys.length:=List.idxOf_lt_length_iff.mpr hz
 have at_:∀(m:Nat) (u:Value),its[m]?=some u→∃y t,ys[m]?=some y∧u= .str y t:=fun m u em=>by
  obtain ⟨x,ex,rx⟩:=S6 r em;rw [List.getElem?_map]at ex
  cases hy:ys[m]? with
  | none=>rw [hy]at ex;cases ex
  | some y=>
   rw [hy]at ex;cases ex;obtain ⟨t,e⟩:=rx;exact ⟨y,t,rfl,e⟩
 have ev:∀y,y∈its.toArray→MeetsSeq.EqGives y (.str z t) (PyProof.Rows.isStrOf z y):=fun y hy=>by
  obtain ⟨m,hm⟩:=List.mem_iff_getElem?.mp (by simpa using hy)
  obtain ⟨y',t',_,rfl⟩:=at_ m y hm
  exact eqGives_str y' z t' t
 have hit:∀(m:Nat) (hm:m < its.toArray.size),∃y t,ys[m]?=some y∧its.toArray[m]= .str y t:=fun m hm=>at_ m _ (by simp)
 refine call_meets F.slot_list_remove ⟨_,e,rfl⟩ F.entry_list_remove (F.args_list_remove_2 _ _) (MeetsSeq.list_remove l its.toArray n (.str z t) (isStrOf z) ev (ys.idxOf z) (by rw [List.size_toArray,← hl,List.length_map];exact hj) ?_ ?_ (by rw [List.size_toArray];omega)) ⟨e,?_⟩
 · obtain ⟨y,t',h1,h2⟩:=hit (ys.idxOf z) (by rw [List.size_toArray,← hl,List.length_map];exact hj)
   rw [h2]
   have e3:ys[ys.idxOf z]?=some z:=by rw [List.getElem?_eq_getElem hj,List.getElem_idxOf hj]
   rw [e3]at h1;cases h1;simp [isStrOf]
 · intro m hm hlt
   obtain ⟨y,t',h1,h2⟩:=hit m hm;rw [h2];have e3:(ys[m]'(by omega)==z)=false:=List.not_of_lt_findIdx hlt;rw [List.getElem?_eq_getElem (by omega)]at h1;cases h1;exact e3
 · refine ⟨.non,_,I.lset (its':=its.eraseIdx (ys.idxOf z)) hH e ?_ (ys:=(ys.erase z).map V.str) ?_ ?_,rfl,q⟩
   · rw [List.eraseIdxIfInBounds_toArray]
   · have:=r.eraseIdx (ys.idxOf z)
     have e5:(ys.map V.str).eraseIdx (ys.idxOf z)=(ys.erase z).map V.str:=by
      rw [On,S7]
     rw [e5]at this;exact this
   · have:=List.length_erase_le (a:=z) (l:=ys)
     rw [List.length_map]at hs ⊢;omega
end
section
variable {σ:St} {H:Hp} {Q:VK} {xs:List V} {x y:V}
theorem S9{td ty:TE}:J03 td ty σ H Q=td σ H fun x H1=>∃a,x= .ref a∧IsD H1 a∧ty σ H1 fun y H2=>∃kvs k v,H2 a=some (.dK kvs)∧y=kV k∧B8 kvs k=some v∧Q v (upd H2 a (.dK (Ki kvs k))):=rfl
theorem Sa{td ty tx:TE}:J02 td ty tx σ H Q=td σ H fun x H1=>∃a,x= .ref a∧IsD H1 a∧ty σ H1 fun y H2=>tx σ H2 fun z H3=>∃o,Cq H3 a y o∧Q (o.getD z) H3:=rfl
theorem Sb:J1d xs H Q=∃a kvs,xs=[.ref a]∧H a=some (.dK kvs)∧∀l,H l=none→Q (.ref l) (upd H l (.lst (kvs.map fun p=>kV p.1))):=rfl
theorem Oo:W0 x xs H Q=∃a kvs,x= .ref a∧xs=[]∧H a=some (.dK kvs)∧∀v,H v=none→Q (.ref v) (upd H v (S8 v a)):=rfl
theorem W2:J62 xs H Q=∃(v d:Addr) (kvs:List (Key×V)) (is:List Int),xs=[.ref v]∧H v=some (S8 v d)∧H d=some (.dK kvs)∧kvs.map (·.2)=is.map V.int∧Q (.int is.sum) H:=rfl
theorem Oq:W1 x xs H Q=∃(l:Addr) (ys:List Str) (z:Str),x= .ref l∧xs=[.str z]∧H l=some (.lst (ys.map V.str))∧z∈ys∧Q .non (upd H l (.lst ((ys.erase z).map V.str))):=rfl
end
end L2
namespace N1
open PySem L2
def Bf:List Nat:=List.range' 97 26
def Ce:List Nat:=List.range' 48 10
theorem Sd:(Str.ofString "abcdefghijklmnopqrstuvwxyz").cps.toList=Bf:=by decide+kernel
theorem J1e:(Str.ofString "0123456789").cps.toList=Ce:=by decide+kernel
theorem Xl:(Str.ofString "abcdefghijklmnopqrstuvwxyz0123456789").cps.toList=Bf++Ce:=by decide+kernel
theorem Se:(Bf++Ce).length=36:=by decide
def Ub(l:List Nat)(s:List Nat):Bool:=match l with
 | []=>false
 | c::_=>decide (c∈s)
def C8(l:List Nat):Bool:=decide (1≤l.length) && decide (l.length≤8) && Ub l Bf && l.all fun c=>decide (c∈Bf++Ce)
end N1
namespace N1
open PySem L2
def tx(l:List Nat):Str:=⟨l.toArray⟩
theorem K6{l:List Nat}:(tx l).cps.toList=l:=by simp [tx]
theorem J9j{z:Str}:tx z.cps.toList=z:=by cases z;simp [tx]
theorem J8v{a b:List Nat}(h:tx a=tx b):a=b:=by rw [← K6 (l:=a),h,K6]
theorem J8w{a b:List Nat}:tx a++tx b=tx (a++b):=by
 have h:=Qx (a:=tx a) (b:=tx b);rw [K6,K6]at h;rw [← J9j (z:=tx a++tx b),h]
theorem J8x{l:List Nat}:(tx l).length=l.length:=by rw [← Po,K6]
theorem J63{c:Nat}:(⟨#[c]⟩:Str)=tx [c]:=rfl
theorem Sf:(Str.ofString "abcdefghijklmnopqrstuvwxyz0123456789").length=36:=by decide+kernel
def bc(i:Int):Nat:=(Bf++Ce).getD i.toNat 0
theorem J1f(i:Int){k:Int}(h0:0 < k)(h1:k≤36):atI (Str.ofString "abcdefghijklmnopqrstuvwxyz0123456789").cps.toList (i % k)=some (bc (i % k)):=by
 have h2:=Int.emod_lt_of_pos i h0;have h3:=Int.emod_nonneg i (show k≠0 by omega);refine U1 h3 ?_
 have h4:(i % k).toNat < (Bf++Ce).length:=by rw [Se];omega
 unfold bc;rw [Xl,List.getD_eq_getElem?_getD,List.getElem?_eq_getElem h4];rfl
end N1
namespace N1
open L2
def Mg(K:PySem.W.Frag):Sp:=fun vs H Q _=>∃(a:Addr) (ns:List Int) (k:Int),vs=[.ref a,.int k]∧SqL K H a (ns.map V.int)∧0≤k∧ns.length≤63∧Q (.int (ns.getD k.toNat 0)) H
def Mh:Sp:=fun vs H Q _=>∃(z w:Str),vs=[.str z,.str w]∧z.length≤sizeLine∧∀H',A6 H H'→Q (.bl (z.cps.toList.all fun c=>decide (c∈w.cps.toList))) H'
def En(K:PySem.W.Frag):Sp:=fun vs H Q _=>∃(x:V),vs=[x]∧((∃z:Str,x= .str z∧z.length≤sizeLine∧∀H',A6 H H'→Q (.bl (C8 z.cps.toList)) H')∨(Isi K H x "str" false∧Q (.bl false) H))
end N1
namespace N1
open L2
inductive StE where
 | noname | twice | nonum | many
def nOk:V→Bool
 | .str z=>C8 z.cps.toList
 | _=>false
def sOf:V→Str
 | .str z=>z
 | _=>Str.empty
def wIn(lo hi:Int):V→Bool
 | .int i=>decide (lo≤i) && decide (i≤hi)
 | _=>false
abbrev Rw:=Addr×V×V×V
def Sg(ks:List Str)(n c r:V):Option StE:=if nOk n=false then some .noname else if sOf n∈ks then some .twice else if wIn 0 (10 ^ 30) c=false then some .nonum else if wIn 1 1000 r=false then some .nonum else none
def Gj(ks:List Str):List Rw→Option StE
 | []=>none
 | t::rs=>match Sg ks t.2.1 t.2.2.1 t.2.2.2 with
  | some e=>some e
  | none=>Gj (ks++[sOf t.2.1]) rs
def Sh(rs:List Rw):Option StE:=if 60 < rs.length then some .many else Gj [] rs
theorem J49{K:PySem.W.Frag}{H:Hp}{v:V}(h:Gd v=true):∃b c,Isi K H v "int" b∧(b=true→Isi K H v "bool" c)∧((b && !c)=true→∃i,v= .int i)∧((b && !c)=false→∀i,v≠ .int i):=by
 cases v with
 | non=>exact ⟨false,false,J0d,fun h=>by (cases h),fun h=>by (cases h),fun _ i h=>by cases h⟩
 | bl b=>exact ⟨true,true,J0a,fun _=>U0,fun h=>by (cases h),fun _ i h=>by cases h⟩
 | int i=>exact ⟨true,false,J08,fun _=>J09,fun _=>⟨i,rfl⟩,fun h=>by cases h⟩
 | str z=>exact ⟨false,false,J0c,fun h=>by (cases h),fun h=>by (cases h),fun _ i h=>by cases h⟩
 | _=>cases h
def Dt(K:PySem.W.Frag):Sp:=fun vs H Q _=>∃(x:V) (b c:Bool),vs=[x]∧Isi K H x "int" b∧(b=true→Isi K H x "bool" c)∧Q (.bl (b && !c)) H
def E6(K:PySem.W.Frag):Sp:=fun vs H Q _=>∃(v:V) (lo hi:Int),vs=[v,.int lo,.int hi]∧Gd v=true∧Q (.bl (wIn lo hi v)) H
def SameBut(p:Addr)(H H':Hp):Prop:=∀b o,H b=some o→b≠p→H' b=some o
theorem SameBut.trans{p:Addr}{H H1 H2:Hp}(h1:SameBut p H H1)(h2:SameBut p H1 H2):SameBut p H H2:=fun b o e n=>h2 b o (h1 b o e n) n
theorem SameBut.of{p:Addr}{H H1:Hp}(h:A6 H H1):SameBut p H H1:=fun b o e _=>h b o e
theorem Si{p:Addr}{H:Hp}{o:HO}:SameBut p H (upd H p o):=fun b u e n=>by rw [A5 n];exact e
abbrev Th:=Str×Int×Int
def flds(d:Addr):List (Str×V):=Bh "things" (.ref d) []
structure Ag(K:PySem.W.Frag)(C:Addr)(H:Hp)(p:Addr)(ts:List Th):Prop where
 ex:∃(dx d:Addr) (kvs:List (Key×V)),H p=some (.ins C dx (flds d))∧H d=some (.dK kvs)∧kvs.map (·.1)=ts.map (fun t=>Sum.inr t.1)∧
  ∀(i:Nat) (t:Th),ts[i]?=some t→∃a,kvs[i]?=some (Sum.inr t.1,.ref a)∧SqT K H a [.int i,.int t.2.1,.int t.2.2]
theorem Ag.same{K:PySem.W.Frag}{C:Addr}{H H':Hp}{p:Addr}{ts:List Th}(s:A6 H H')(h:Ag K C H p ts):Ag K C H' p ts:=by
 obtain ⟨dx,d,kvs,h1,h2,h3,h4⟩:=h.ex;refine ⟨dx,d,kvs,s _ _ h1,s _ _ h2,h3,fun i t e=>?_⟩;obtain ⟨a,e1,e2⟩:=h4 i t e;exact ⟨a,e1,s.tup e2⟩
def iOf:V→Int
 | .int i=>i
 | _=>0
def J4a(t:Rw):Th:=(sOf t.2.1,iOf t.2.2.1,iOf t.2.2.2)
theorem SqT.but{K:PySem.W.Frag}{H H':Hp}{p a C dx:Addr}{fs:List (Str×V)}{xs:List V}(s:SameBut p H H')(hp:H p=some (.ins C dx fs))(h:SqT K H a xs):SqT K H' a xs:=by
 rcases h with (h | ⟨o,h⟩) | h
 · exact .inl (.inl (s _ _ h (C0 h hp (by intro z;cases z))))
 · exact .inl (.inr ⟨o,s _ _ h (C0 h hp (by intro z;cases z))⟩)
 · exact .inr h
theorem SqL.but{K:PySem.W.Frag}{H H':Hp}{p a C dx:Addr}{fs:List (Str×V)}{xs:List V}(s:SameBut p H H')(hp:H p=some (.ins C dx fs))(h:SqL K H a xs):SqL K H' a xs:=by
 rcases h with (h | ⟨o,h⟩) | h
 · exact .inl (.inl (s _ _ h (C0 h hp (by intro z;cases z))))
 · exact .inl (.inr ⟨o,s _ _ h (C0 h hp (by intro z;cases z))⟩)
 · exact .inr h
theorem Kr{kvs:List (Key×V)}{ks:List Str}{z:Str}(h:kvs.map (·.1)=ks.map Sum.inr):(B8 kvs (Sum.inr z)).isSome=decide (z∈ks):=by
 have e:(Sum.inr z:Key)∈kvs.map (·.1)↔z∈ks:=by
  rw [h,List.mem_map];constructor
  · rintro ⟨a,ha,e⟩;injection e with e;subst e;exact ha
  · intro h;exact ⟨z,h,rfl⟩
 cases hv:B8 kvs (Sum.inr z:Key) with
 | none=>rw [decide_eq_false fun q=>J06 hv (e.mpr q)];rfl
 | some v=>rw [decide_eq_true (e.mp (J3t hv))];rfl
theorem Ck{d:Addr}:(flds d).lookup ("things":Str)=some (V.ref d):=by
 unfold flds;rw [Bm,if_pos rfl]
theorem Os{ks:List Str}{n co r:V}(h:Sg ks n co r=none):∃z c q,n= .str z∧co= .int c∧r= .int q∧¬z∈ks∧C8 z.cps.toList=true∧0≤c∧c≤10 ^ 30∧1≤q∧q≤1000:=by
 unfold Sg at h;split at h
 · cases h
 rename_i h1;split at h
 · cases h
 rename_i h2;split at h
 · cases h
 rename_i h3;split at h
 · cases h
 rename_i h4
 cases n with
 | str z=>
  cases co with
  | int c=>
   cases r with
   | int q=>
    simp only [wIn,Bool.and_eq_false_iff,decide_eq_false_iff_not,not_or,Decidable.not_not]at h3 h4;exact ⟨z,c,q,rfl,rfl,rfl,h2,by simpa [nOk] using h1,h3.1,h3.2,h4.1,h4.2⟩
   | _=>exact absurd rfl h4
  | _=>exact absurd rfl h3
 | _=>exact absurd rfl h1
theorem Sj{ks:List Str}{rs:List Rw}{i:Nat}{t:Rw}(h:rs[i]?=some t):Gj ks (rs.drop i)=match Sg ks t.2.1 t.2.2.1 t.2.2.2 with
 | some e=>some e
 | none=>Gj (ks++[sOf t.2.1]) (rs.drop (i+1)):=by
 have e:rs.drop i=t::rs.drop (i+1):=by
  obtain ⟨hi,rfl⟩:=List.getElem?_eq_some_iff.mp h;exact List.drop_eq_getElem_cons hi
 rw [e];rfl
def G6(rs:List Rw):List Str:=rs.map fun t=>sOf t.2.1
structure W4(K:PySem.W.Frag)(H:Hp)(d:Addr)(rs:List Rw):Prop where
 ex:∃kvs:List (Key×V),H d=some (.dK kvs)∧kvs.map (·.1)=(G6 rs).map Sum.inr∧∀(j:Nat) (t:Rw),rs[j]?=some t→∃a,kvs[j]?=some (Sum.inr (sOf t.2.1),.ref a)∧SqT K H a [.int j,.int (iOf t.2.2.1),.int (iOf t.2.2.2)]
theorem W4.snoc{K:PySem.W.Frag}{H:Hp}{d a:Addr}{rs:List Rw}{t:Rw}{kvs:List (Key×V)}{c q:Int}{z:Str}(h1:H d=some (.dK kvs))(h2:kvs.map (·.1)=(G6 rs).map Sum.inr)
 (h3:∀(j:Nat) (t:Rw),rs[j]?=some t→∃a,kvs[j]?=some (Sum.inr (sOf t.2.1),.ref a)∧SqT K H a [.int j,.int (iOf t.2.2.1),.int (iOf t.2.2.2)])
 (e1:t.2.1= .str z) (e2:t.2.2.1= .int c) (e3:t.2.2.2= .int q) (nz:¬z∈G6 rs) (ha:H a=some (.tup [.int kvs.length,.int c,.int q])):
 W4 K (upd H d (.dK (Ct kvs (Sum.inr z) (.ref a)))) d (rs++[t]):=by
 have hl:kvs.length=rs.length:=by
  have:=congrArg List.length h2
  simpa [G6] using this
 have hv:B8 kvs (Sum.inr z:Key)=none:=by
  have:=Kr (z:=z) h2;rw [decide_eq_false nz]at this
  cases h:B8 kvs (Sum.inr z:Key) with
  | none=>rfl
  | some v=>rw [h]at this;cases this
 have J1c:∀{b:Addr} {xs:List V} {o:List (Key×V)},SqT K H b xs→SqT K (upd H d (.dK o)) b xs:=fun {b xs o} h=>by
  rcases h with (h | ⟨o',h⟩) | h
  · exact .inl (.inl (by rw [A5 (C0 h h1 (by intro z;cases z))];exact h))
  · exact .inl (.inr ⟨_,by rw [A5 (C0 h h1 (by intro z;cases z))];exact h⟩)
  · exact .inr h
 refine ⟨_,A1,?_,fun j t' hj=>?_⟩
 · rw [Gf _ hv,List.map_append,h2]
   simp [G6,e1,sOf]
 · rw [Gf _ hv]
   by_cases hlt:j < rs.length
   · rw [List.getElem?_append_left hlt]at hj
     obtain ⟨b,e,hb⟩:=h3 j t' hj;exact ⟨b,by rw [List.getElem?_append_left (by omega)];exact e,J1c hb⟩
   · rw [List.getElem?_append_right (by omega)]at hj
     have hj0:j - rs.length=0:=by
      have:=(List.getElem?_eq_some_iff.mp hj).1;simp at this;omega
     rw [hj0]at hj;cases hj
     have ej:j=rs.length:=by omega
     subst ej;refine ⟨a,?_,?_⟩
     · rw [← hl,List.getElem?_append_right (by omega)];simp [e1,sOf]
     · rw [e2,e3]
       refine J1c (SqT.of ?_);rw [ha,hl];rfl
end N1
namespace L2
section
variable {X:Cx} {pins:List (Addr×Obj)} {σ:St} {H:Hp} {s:Shared}
theorem Ks{c:Const}{j pos}{es:List Expr}{te:TE}{t:TA}(ha:PE X (.Constant c j pos) te)(hr:PA X es t):PA X (.Constant c j pos::es) (V0 te t):=A0 ha hr rfl
theorem Nh{o j}{a b:Expr}{es:List Expr}{te:TE}{t:TA}(ha:PE X (.BinOp a o b j) te)(hr:PA X es t):PA X (.BinOp a o b j::es) (V0 te t):=A0 ha hr rfl
end
theorem W6{o i v:V}{H:Hp}{Q:Hp→Prop}:J5i o i v H Q=∃p xs k j,o= .ref p∧i= .int k∧H p=some (.lst xs)∧ixN xs.length k=some j∧Q (upd H p (.lst (xs.set j v))):=rfl
end L2
namespace N5
open L2 N1
def md(j:Nat):Int:=if j=0 then 26 else 36
def sgn(F:Nat→Int)(at':Int)(k j:Nat):Nat:=bc ((F j+if (j:Int)=at' then (k:Int) else 0) % md j)
def nmL(F:Nat→Int)(at':Int)(long k:Nat):List Nat:=(List.range long).map (sgn F at' k)
theorem Uc{i:Int}:bc (i % 26)∈Bf:=by
 have h1:=Int.emod_nonneg i (show (26:Int)≠0 by decide);have h2:=Int.emod_lt_of_pos i (show (0:Int) < 26 by decide);unfold bc;generalize i % 26=x at *
 have h3:x.toNat < Bf.length:=by simp [Bf];omega
 rw [List.getD_eq_getElem?_getD,List.getElem?_append_left h3,List.getElem?_eq_getElem h3];exact List.getElem_mem h3
theorem J4b{i:Int}:bc (i % 36)∈Bf++Ce:=by
 have h1:=Int.emod_nonneg i (show (36:Int)≠0 by decide);have h2:=Int.emod_lt_of_pos i (show (0:Int) < 36 by decide);unfold bc;generalize i % 36=x at *
 have h3:x.toNat < (Bf++Ce).length:=by rw [Se];omega
 rw [List.getD_eq_getElem?_getD,List.getElem?_eq_getElem h3];exact List.getElem_mem h3
theorem Ni{x y:Int}(hx0:0≤x)(hx:x < 36)(hy0:0≤y)(hy:y < 36)(h:bc x=bc y):x=y:=by
 have key:∀a:Fin 36,∀b:Fin 36,(Bf++Ce).getD a.val 0=(Bf++Ce).getD b.val 0→a=b:=by decide+kernel
 have:=key ⟨x.toNat,by omega⟩ ⟨y.toNat,by omega⟩ h;have:=congrArg Fin.val this;simp at this;omega
theorem J1g{F:Nat→Int}{at':Int}{long k:Nat}(h1:1≤long)(h2:long≤8):C8 (nmL F at' long k)=true:=by
 obtain ⟨n,rfl⟩:∃n,long=n+1:=⟨long - 1,by omega⟩
 have hall:∀c∈nmL F at' (n+1) k,c∈Bf++Ce:=by
  intro c hc;obtain ⟨j,_,rfl⟩:=List.mem_map.mp hc
  have hm:md j=26∨md j=36:=by unfold md;split <;> simp
  unfold sgn
  rcases hm with hm | hm <;> rw [hm]
  · exact List.mem_append_left _ Uc
  · exact J4b
 have hl:(nmL F at' (n+1) k).length=n+1:=by simp [nmL]
 have hh:Ub (nmL F at' (n+1) k) Bf=true:=by
  unfold nmL;rw [List.range_succ_eq_map,List.map_cons];show decide (sgn F at' k 0∈Bf)=true;rw [decide_eq_true_eq];unfold sgn md;rw [if_pos rfl];exact Uc
 unfold C8;rw [hl,hh,decide_eq_true h1,decide_eq_true h2];simp only [Bool.true_and];exact List.all_eq_true.mpr fun c hc=>decide_eq_true (hall c hc)
theorem J4c{F:Nat→Int}{at':Int}{long k k':Nat}(h0:0≤at')(h1:at' < long)(hk:k < 26)(hk':k' < 26)(h:nmL F at' long k=nmL F at' long k'):k=k':=by
 have hl:at'.toNat < long:=by omega
 have e:=congrArg (fun l=>l[at'.toNat]?) h;simp only [nmL,List.getElem?_map,List.getElem?_range hl,Option.map_some,Option.some.injEq]at e;unfold sgn at e;rw [if_pos (by omega),if_pos (by omega)]at e
 have hm:md at'.toNat=26∨md at'.toNat=36:=by unfold md;split <;> simp
 rcases hm with hm | hm <;> rw [hm]at e
 · have:=Ni (by omega) (by omega) (by omega) (by omega) e
   omega
 · have:=Ni (by omega) (by omega) (by omega) (by omega) e
   omega
def nms(F:Nat→Int)(at':Int)(long m:Nat):List Str:=(List.range m).map fun k=>tx (nmL F at' long k)
theorem ne1:Str.ofString "no name"≠Str.ofString "nothing":=by decide+kernel
theorem J1h{z:Str}(h:C8 z.cps.toList=true):z.length≤8:=by
 unfold C8 at h;simp only [Bool.and_eq_true,decide_eq_true_eq]at h;have:=h.1.1.2;rw [Po]at this;exact this
end N5
namespace L2
open N1 N5
section
variable {K:PySem.W.Frag} {tail:St} {te:Blk→TE} {Q:VK} {H1:Hp}
def J1i(P:V→Hp→Prop):Prop:=∀y H H' l zs,P y H→H l=some (.lst zs)→SameBut l H H'→P y H'
theorem Sk{lo:Int}{n:Nat}(P:Nat→V→Hp→Prop)(hP:∀i,J1i (P i))(hz:n≤sizeLine)(he:∀b (i:Nat) H Q',i < n→A6 H1 H→(∀y H',A6 H H'→P i y H'→Q' y H')→te b (some (.int (lo+i))::tail) H Q')
 (q:∀D ys H',H1 D=none→A6 H1 H'→H' D=some (.lst ys)→ys.length=n→(∀i y,ys[i]?=some y→P i y H')→Q (.ref D) H'):B6 (none::tail) (fun _=>Bq 0) (fun _=>Cu) te Q (Itr lo n) H1:=by
 refine Kq n (fun b D hD=>⟨fun i ys H=>i≤n∧ys.length=i∧H D=some (.lst ys)∧A6 H1 H∧∀j y,ys[j]?=some y→P j y H,⟨Nat.zero_le _,rfl,A1,B7 hD,fun j y e=>by simp at e⟩,?_,?_,?_⟩)
 · rintro i ys H ⟨hi,_,h,_⟩
   exact h
 · rintro ys H ⟨_,hl,h,sm,hall⟩
   exact ⟨Nat.le_refl _,q D ys H hD sm h hl hall⟩
 · rintro i ys H hi ⟨_,hl,h,sm,hall⟩
   refine ⟨hi,fun x H3 ⟨e3,ex⟩=>?_⟩;subst e3 ex;refine he b i _ _ hi sm fun y H4 sm4 py=>?_;have h4:=sm4 _ _ h;have sb:SameBut D H4 (upd H4 D (.lst (ys++[y]))):=Si;refine Gg h4 (by omega) hi ⟨hi,by rw [List.length_append,hl];rfl,A1,fun c o e=>?_,fun j y' e=>?_⟩
   · rw [A5 (Ab e hD)];exact sm4 _ _ (sm _ _ e)
   · by_cases hj:j < ys.length
     · rw [List.getElem?_append_left hj]at e
       have:=hall j y' e
       exact hP j _ _ _ _ _ this h fun c o e n=>by rw [A5 n];exact sm4 _ _ e
     · rw [List.getElem?_append_right (by omega)]at e
       have hj0:j=i:=by have:=(List.getElem?_eq_some_iff.mp e).1;simp at this;omega
       subst hj0;rw [show j - ys.length=0 by omega]at e;cases e;exact hP j _ _ _ _ _ py h4 sb
end
end L2
namespace N4
open L2 N1 N5
def Gy(K:PySem.W.Frag):Sp:=fun vs H Q _=>∃(n co r:V) (e:Addr) (kvs:List (Key×V)) (ks:List Str),vs=[n,co,r,.ref e]∧H e=some (.dK kvs)∧kvs.map (·.1)=ks.map Sum.inr∧Sg ks n co r=none∧∀H',A6 H H'→Q .non H'
def Kt(K:PySem.W.Frag)(C:Addr):Sp:=fun vs H Q _=>∃(p dx ra:Addr) (rs:List Rw),vs=[.ref p,.ref ra]∧H p=some (.ins C dx [])∧SqL K H ra (rs.map fun t=>V.ref t.1)∧(∀t∈rs,SqT K H t.1 [t.2.1,t.2.2.1,t.2.2.2])∧Sh rs=none∧
 ∀H',SameBut p H H'→Ag K C H' p (rs.map J4a)→Q .non H'
theorem Ud{rs:List Rw}(h:Sh rs=none):rs.length≤60∧Gj [] rs=none:=by
 unfold Sh at h;split at h
 · cases h
 · exact ⟨by omega,h⟩
theorem Nj{lo hi c:Int}(h1:lo≤c)(h2:c≤hi):wIn lo hi (.int c)=true:=by
 show (decide (lo≤c) && decide (c≤hi))=true;rw [decide_eq_true h1,decide_eq_true h2];rfl
theorem Ot:∀(rs:List Rw) (ks:List Str),(∀t∈rs,∃z c q,t.2.1= .str z∧t.2.2.1= .int c∧t.2.2.2= .int q∧C8 z.cps.toList=true∧0≤c∧c≤10 ^ 30∧1≤q∧q≤1000)→(ks++rs.map fun t=>sOf t.2.1).Nodup→Gj ks rs=none
 | [],_,_,_=>rfl
 | t::rs,ks,h,nd=>by
  obtain ⟨z,c,q,e1,e2,e3,hn,h1,h2,h3,h4⟩:=h t (List.mem_cons_self ..)
  have hz:¬z∈ks:=fun hz=>by
   rw [List.map_cons,List.nodup_append]at nd;exact nd.2.2 z hz (sOf t.2.1) (List.mem_cons_self ..) (by rw [e1];rfl)
  have r0:Sg ks t.2.1 t.2.2.1 t.2.2.2=none:=by
   unfold Sg;rw [e1,e2,e3];rw [if_neg (by show ¬C8 z.cps.toList=false;rw [hn];decide),if_neg (show ¬sOf (.str z)∈ks from hz),if_neg (by rw [Nj h1 h2];decide),if_neg (by rw [Nj h3 h4];decide)]
  unfold Gj;rw [r0];refine Ot rs _ (fun t' ht=>h t' (List.mem_cons_of_mem _ ht)) ?_;rw [List.append_assoc];exact nd
theorem J1j{kvs:List (Key×V)}{i:Nat}{k:Key}{v:V}(nd:(kvs.map (·.1)).Nodup)(e:kvs[i]?=some (k,v)):B8 kvs k=some v:=by
 induction kvs generalizing i with
 | nil=>rw [List.getElem?_nil]at e;cases e
 | cons p r ih=>
  cases i with
  | zero=>cases e;exact Bt rfl
  | succ i=>
   rw [List.map_cons,List.nodup_cons]at nd;have hm:(k,v)∈r:=List.mem_of_getElem? e;rw [Bn (fun z=>nd.1 (by rw [z];exact List.mem_map_of_mem (f:=(·.1)) hm))];exact ih nd.2 e
theorem Xm{ks:List Str}(h:ks.Nodup):(ks.map (Sum.inr:Str→Key)).Nodup:=by
 unfold List.Nodup at *;rw [List.pairwise_map];exact h.imp fun n e=>n (by injection e)
section
variable {K:PySem.W.Frag} {C:Addr} {H H':Hp} {p:Addr} {ts:List Th} {z:Str}
theorem Ag.has(h:Ag K C H p ts):∃dx d kvs,H p=some (.ins C dx (flds d))∧H d=some (.dK kvs)∧(kvs.map fun q=>kV q.1)=ts.map (fun t=>V.str t.1)∧(∀z,(B8 kvs (Sum.inr z)).isSome=decide (z∈ts.map (·.1)))∧
 ((ts.map (·.1)).Nodup→∀(i:Nat) (t:Th),ts[i]?=some t→∃a,B8 kvs (Sum.inr t.1)=some (.ref a)∧SqT K H a [.int i,.int t.2.1,.int t.2.2]):=by
 obtain ⟨dx,d,kvs,h1,h2,h3,h4⟩:=h.ex
 have h3':kvs.map (·.1)=(ts.map (·.1)).map Sum.inr:=by rw [h3,List.map_map];rfl
 refine ⟨dx,d,kvs,h1,h2,?_,fun z=>Kr h3',fun nd i t e=>?_⟩
 · have:=congrArg (List.map kV) h3
   rw [List.map_map,List.map_map]at this;exact this
 · obtain ⟨a,e1,e2⟩:=h4 i t e
   exact ⟨a,J1j (by rw [h3'];exact Xm nd) e1,e2⟩
end
def pick(w:Nat)(i:Nat)(t:Th):Int:=if w=0 then i else if w=1 then t.2.1 else t.2.2
def Pq(K:PySem.W.Frag)(C:Addr):Sp:=fun vs H Q _=>∃(p:Addr) (ts:List Th) (z:Str),vs=[.ref p,.str z]∧Ag K C H p ts∧Q (.bl (decide (z∈ts.map (·.1)))) H
theorem W7{ts:List Th}{z:Str}(h:z∈ts.map (·.1)):∃(i:Nat) (t:Th),ts[i]?=some t∧t.1=z:=by
 obtain ⟨t,ht,e⟩:=List.mem_map.mp h;obtain ⟨i,hi⟩:=List.mem_iff_getElem?.mp ht;exact ⟨i,t,hi,e⟩
end N4
namespace N4
open L2 N1 N5
def G2(F:Nat→Int)(at' be:Int)(k:Nat)(j:Nat):Int:=F j+(if (j:Int)=at' then (k:Int) % 26 else 0)+(if (j:Int)=be∧25 < k then (k:Int) / 26 else 0)
def nm2(F:Nat→Int)(at' be:Int)(long k:Nat):List Nat:=(List.range long).map fun j=>bc (G2 F at' be k j % md j)
structure Ue(K:PySem.W.Frag)(H:Hp)(r:Addr)(as:List Addr)(ts:List Th):Prop where
 l:SqL K H r (as.map V.ref)
 n:as.length=ts.length
 m:ts.length≤60
 at_:∀(i:Nat) (a:Addr) (t:Th),as[i]?=some a→ts[i]?=some t→SqT K H a [.str t.1,.int t.2.1,.int t.2.2]
 ok:∀t∈ts,C8 t.1.cps.toList=true∧0≤t.2.1∧t.2.1≤10 ^ 30∧1≤t.2.2∧t.2.2≤1000
 nd:(ts.map (·.1)).Nodup
def J1k(a:Addr)(t:Th):Rw:=(a,.str t.1,.int t.2.1,.int t.2.2)
theorem Ue.init{K:PySem.W.Frag}{H:Hp}{r:Addr}{as:List Addr}{ts:List Th}(h:Ue K H r as ts):∃rs:List Rw,rs.map (fun t=>V.ref t.1)=as.map V.ref∧(∀t∈rs,SqT K H t.1 [t.2.1,t.2.2.1,t.2.2.2])∧Sh rs=none∧rs.map J4a=ts:=by
 have hn:=h.n
 have gt:∀(i:Nat) (x:Addr×Th),(as.zip ts)[i]?=some x→as[i]?=some x.1∧ts[i]?=some x.2:=fun i x e=>by
  rw [List.getElem?_zip_eq_some]at e;exact e
 have e1:((as.zip ts).map fun x=>J1k x.1 x.2).map J4a=ts:=by
  rw [List.map_map]
  have:(J4a∘fun x:Addr×Th=>J1k x.1 x.2)=Prod.snd:=by funext x;rfl
  rw [this,List.map_snd_zip (by omega)]
 refine ⟨(as.zip ts).map fun x=>J1k x.1 x.2,?_,?_,?_,e1⟩
 · rw [List.map_map]
   have:((fun t:Rw=>V.ref t.1)∘fun x:Addr×Th=>J1k x.1 x.2)=V.ref∘Prod.fst:=by funext x;rfl
   rw [this,← List.map_map,List.map_fst_zip (by omega)]
 · intro t ht
   obtain ⟨x,hx,rfl⟩:=List.mem_map.mp ht;obtain ⟨i,hi⟩:=List.mem_iff_getElem?.mp hx;obtain ⟨h1,h2⟩:=gt i x hi;exact h.at_ i x.1 x.2 h1 h2
 · unfold Sh
   rw [if_neg (by rw [List.length_map,List.length_zip];have:=h.m;omega)];refine Ot _ _ (fun t ht=>?_) ?_
   · obtain ⟨x,hx,rfl⟩:=List.mem_map.mp ht
     obtain ⟨i,hi⟩:=List.mem_iff_getElem?.mp hx;obtain ⟨h1,h2⟩:=gt i x hi;obtain ⟨o1,o2,o3,o4,o5⟩:=h.ok x.2 (List.mem_of_getElem? h2);exact ⟨x.2.1,x.2.2.1,x.2.2.2,rfl,rfl,rfl,o1,o2,o3,o4,o5⟩
   · rw [List.nil_append,List.map_map]
     have:((fun t:Rw=>sOf t.2.1)∘fun x:Addr×Th=>J1k x.1 x.2)=(fun t:Th=>t.1)∘Prod.snd:=by funext x;rfl
     rw [this,← List.map_map,List.map_snd_zip (by omega)];exact h.nd
end N4
namespace L2
open PySem.W
def J64(K:PySem.W.Frag):List V→Hp→VK→Prop:=fun xs H Q=>∃(p:Addr) (is:List Int),xs=[.ref p]∧SqL K H p (is.map V.int)∧Q (.int is.sum) H
theorem Xn(is:List Int):preSum (fun i=>is.getD i 0) is.length=is.sum:=by
 have key:∀n,n≤is.length→preSum (fun i=>is.getD i 0) n=(is.take n).sum:=by
  intro n
  induction n with
  | zero=>intro _;rfl
  | succ n ih=>
   intro h
   have e:is.take (n+1)=is.take n++[is.getD n 0]:=by
    rw [List.take_add_one,List.getD_eq_getElem?_getD,List.getElem?_eq_getElem (by omega)];rfl
   rw [preSum,ih (by omega),e,List.sum_append];simp
 have:=key is.length (Nat.le_refl _)
 rwa [List.take_length]at this
section
variable {X:Cx}
theorem Xo(hc:X.calm=true):G5 X (.builtin "sum") (J64 X.K):=by
 intro pins s σ H xs us Q I r h;obtain ⟨p,is,rfl,hp,q⟩:=h;obtain ⟨u,rfl,ru⟩:=Gc r;cases ru;obtain ⟨its,r,pl,hz⟩:=I.list hp
 have hlt:p < s.heap.objs.size:=by obtain ⟨o,n,e,_⟩:=pl;exact Heap.lt_size e
 have hlen:=r.length;rw [List.length_map]at hlen;refine call_sum_walkAnyS (wpAny_pyIter_list pl.isList ⟨s.heap.objs.size,_,_,_,_,_,_,fun i=>is.getD i 0,rfl,(Walks.list (show X.A.in1.handled=none from I.ok.hd hc) s.heap.objs.size p (Nat.ne_of_lt hlt) its.toArray).toS,⟨⟨_,Heap.get?_push_size _ rfl,rfl,rfl⟩,pl.isList.push _⟩,fun b hb=>?_,fun i v hP=>?_,fun s' t' hmv=>?_⟩)
 · show b < (s.heap.push _).objs.size
   rw [Heap.size_push];rcases List.mem_cons.mp hb with e | hb
   · rw [e];exact Nat.lt_succ_self _
   · rw [List.mem_singleton.mp hb];exact Nat.lt_succ_of_lt hlt
 · have hP:its.toArray[i]?=some v:=hP
   have hi:i < is.length:=by
    have:=(Array.getElem?_eq_some_iff.mp hP).1;rw [List.size_toArray]at this;omega
   obtain ⟨u,hu,ru⟩:=r.get (i:=i) (x:=V.int (is[i])) (by simp [hi])
   have e:u=v:=by
    have:its[i]?=some v:=by simpa using hP
    rw [hu]at this;exact Option.some.inj this
   subst e;show ∃t,u=Value.int (is.getD i 0) t;rw [List.getD_eq_getElem?_getD,List.getElem?_eq_getElem hi];exact ru
 · have hk:∀b o,s.heap.get? b=some o→s'.heap.get? b=some o:=fun b o e=>
    hmv.heap b o (fun hI=>absurd (Heap.lt_size e) (by rw [List.mem_singleton.mp hI];exact Nat.lt_irrefl _)) (Heap.get?_push_of_some _ e)
   rw [Moved.eq_with hmv];refine ⟨.int is.sum,H,I.kept (t':=s'.toks) hk,⟨t',?_⟩,q⟩;rw [List.size_toArray,← hlen,Xn]
end
section
variable {σ:St} {H:Hp} {Q:VK} {D:G7} {K:PySem.W.Frag} {xs:List V} {x y:V}
theorem W8:J64 K xs H Q=∃(p:Addr) (is:List Int),xs=[.ref p]∧SqL K H p (is.map V.int)∧Q (.int is.sum) H:=rfl
theorem J1l{f:Int→Int→Int}:ipI f x y H Q=∃i j,x= .int i∧y= .int j∧Q (.int (f i j)) H:=rfl
end
end L2
namespace N31
open L2 N1 N5
end N31
namespace L2
theorem Inv.turned2{X:Cx}{pins:List (Addr×Obj)}{σ:St}{H:Hp}{s:Shared}{h':Heap}{t':Nat}{fp:List Addr}(I:Inv X pins σ H s)(k:∀b o,b∉fp→s.heap.get? b=some o→h'.get? b=some o)(hf:∀it∈fp,D8 X pins H it):
 Inv X pins σ H {s with heap:=h',toks:=t'}:=by
 have nit:∀b u,H b=some u→b∉fp:=fun b u e z=>by rw [(hf b z).1]at e;cases e
 refine I.step (g':=s.gens) (d':=s.drawn) (ch:=fp) (fun b hb=>?_) (fun b o _ _ hc e _=>k b o hc e) (fun b o _ _ hc e _=>⟨o.slots,k b o hc e⟩) (fun _ _ _ _ n=>n)
  (fun b o hc e=>⟨o,k b o hc e⟩) (fun _ _ e=>e) (fun _ _ _ e=>e) (fun b ps e=>⟨#[],by rw [e];simp⟩) (fun m hm=>?_) (fun b u e=>?_) I.bare
 · obtain ⟨_,h1,_,h2,h3,h4⟩:=hf b hb
   exact ⟨h2,h1,h3,h4⟩
 · obtain ⟨o,es,ep,ho,r⟩:=hm
   exact ⟨o,es,ep,k _ o (fun z=>(hf _ z).2.1 rfl) ho,r⟩
 · refine (I.hok b u e).stay (fun c v hc q=>k c v ?_ q) (fun _ q=>q) fun _ _ q=>q
   rcases hc with z | z
   · rw [z];exact nit b u e
   · exact nit c _ z
def Ite(K:PySem.W.Frag)(a:Addr):It:=
 ⟨fun i H=>∃xs x,SqL K H a xs∧xs[i]?=some x,fun i H y H'=>∃t x,y= .ref t∧H t=none∧H'=upd H t (.tup [.int i,x])∧∀xs,SqL K H a xs→xs[i]?=some x,fun i H=>∃xs,SqL K H a xs∧xs.length≤i⟩
def tnE(e it a:Addr)(i:Nat)(h:Heap):Prop:=(∃old,IsEnum h e it i old)∧h.IsListIter it a i
theorem Xp{P:Program}{w:World}{K:PySem.W.Frag}{es:List Expr}{k:Nat}{pos:Pos}(a e it:Addr)(ne:e≠it):Wz P w K (.Tuple es k pos) (Ite K a) [e,it] e (tnE e it a) where
 mem:=by simp
 obj:=fun i h st b hb=>by
  obtain ⟨⟨old,h1⟩,o,h2,c,d⟩:=st
  have hb:b=e∨b=it:=by simpa using hb
  rcases hb with rfl | rfl
  · exact ⟨_,h1,fun v z=>by cases z⟩
  · exact ⟨o,h2,fun v z=>by rw [d]at z;cases z⟩
 keep:=fun i h h' st kk=>by
  obtain ⟨⟨old,h1⟩,h2⟩:=st;exact ⟨⟨old,kk e (by simp) _ h1⟩,h2.at fun o q=>kk it (by simp) o q⟩
 item:=by
  intro X hP hw hK hc i pins s σ H E I hf st hg;subst hP hw hK;obtain ⟨xs,x,hq,hx⟩:=hg;obtain ⟨its,rv,p,hz⟩:=I.list hq;obtain ⟨u,hu,ru⟩:=rv.get hx;obtain ⟨⟨old,h1⟩,h2⟩:=st;have hlt:e < s.heap.objs.size:=Heap.lt_size h1
  have hit:it < s.heap.objs.size:=by obtain ⟨o,q,_⟩:=id h2;exact Heap.lt_size q
  refine wpAny_pyNext_enum_item h1 h2 p.isList (x:=u) (by simpa using hu) ne fun h' eo it' ht hs hk=>?_;refine ⟨_,rfl,wpAny_letOwnedTupleGo_enum (s:={s with heap:=h',toks:=s.toks+1}) eo fun h3 e3 sb=>?_⟩;have hf0:H s.heap.objs.size=none:=I.hok.fresh (Nat.le_refl _)
  have nt:∀b∈[e,it],b≠s.heap.objs.size:=fun b hb=>by
   have hb:b=e∨b=it:=by simpa using hb
   rcases hb with rfl | rfl
   · exact Nat.ne_of_lt hlt
   · exact Nat.ne_of_lt hit
  have I0:Inv X pins σ (upd H s.heap.objs.size (.tup [.int i,x])) {s with heap:=s.heap.push {cls:= .type "tuple",data:= .seq #[.int i s.toks,u]},toks:=s.toks+1}:=
   I.laid (fun b u e=>Heap.get?_push_of_some _ e) (Nat.le_refl _) ⟨by simp [sizeLine];try decide,[.int i s.toks,u],.cons ⟨_,rfl⟩ (.cons ru .nil),⟨_,Heap.get?_push_size _ rfl,rfl,_,rfl⟩⟩
  have hfp:∀b∈[e,it],D8 X pins (upd H s.heap.objs.size (.tup [.int i,x])) b:=fun b hb=>by
   obtain ⟨f0,f1,f2,f3,f4,f5⟩:=hf b hb;exact ⟨by rw [A5 (nt b hb)];exact f0,f1,f2,f3,f4,f5⟩
  have I1:Inv X pins σ (upd H s.heap.objs.size (.tup [.int i,x])) {s with heap:=h3,toks:=s.toks+1}:=by
   refine Inv.turned2 (s:={s with heap:=s.heap.push {cls:= .type "tuple",data:= .seq #[.int i s.toks,u]},toks:=s.toks+1}) (t':=s.toks+1) I0 (fun b o hb q=>?_) hfp
   have hb':b≠e∧b≠it:=by simpa using hb
   refine (sb.2 b hb'.1).trans ?_;rcases Heap.get?_push_cases q with ⟨rfl,rfl⟩ | q2
   · exact ht
   · exact hk b o hb'.1 hb'.2 q2
  refine ⟨.ref s.heap.objs.size,upd H s.heap.objs.size (.tup [.int i,x]),I1,rfl,⟨_,x,rfl,hf0,rfl,fun ys hy=>by rw [I.list_inj hy hq];exact hx⟩,⟨⟨u,?_⟩,?_⟩,fun b hb=>(hfp b hb).1⟩
  · show IsEnum h3 e it ((i+1:Nat):Int) u
    rw [show ((i+1:Nat):Int)=(i:Int)+1 from rfl];exact e3
  · exact it'.at fun o q=>(sb.2 it (Ne.symm ne)).trans q
 done:=by
   intro X hP hw hK hc i pins s σ H E I hf st hg;subst hP hw hK;obtain ⟨xs,hq,hx⟩:=hg;obtain ⟨its,rv,p,hz⟩:=I.list hq;obtain ⟨⟨old,h1⟩,h2⟩:=st;have hl:=rv.length
   exact wpAny_pyNext_enum_end (I.ok.hd hc) h1 h2 p.isList (by simp;omega) fun h' eb=>⟨rfl,Inv.turned2 (t':=s.toks) I (fun b o hb q=>eb b o (fun z=>hb (by simp [z])) q) hf⟩
 self:=fun _ _ _ _ _ st h=>wpAny_pyIter_enum st.1.choose_spec h
section
variable {X:Cx}
def J65(K:PySem.W.Frag)(ta:TA):TI:=fun σ H R=>ta σ H fun vs H1=>∃a,vs=[.ref a]∧(∃xs,SqL K H1 a xs)∧R (Ite K a) H1
theorem Mi{l:Expr}{ta:TA}{p pos pp:Pos}{es:List Expr}{k:Nat}(hg:Gl X "enumerate")(hm:X.mg "enumerate"=none)(ha:PA X [l] ta)(hs:starEach [l] X.env=[(false,eval l X.env)]:=by rfl):PI X (.Tuple es k pp) (.Call (.Name "enumerate" p) [l] [] pos) (J65 X.K ta):=by
 intro pins s σ H R I h;refine Call_ (G9 I hg hm boot_enumerate (PyProof.Rows.callWith_type1 (thn (ha pos pins s σ H _ I h) fun us s1 hq_=>?_) hs rfl));obtain ⟨vs,H1,I1,r1,q1⟩:=hq_;obtain ⟨a,e,⟨xs,hq⟩,q⟩:=q1;subst e
 cases r1 with
 | cons r rr=>
  cases rr;cases r;obtain ⟨its,rv,p',hz⟩:=I1.list hq;refine call_enumerate_list p'.isList fun h' h1 h2 h3 h4=>?_;refine wpAny_pyIter_enum h1 ?_;refine ⟨_,[s1.heap.objs.size+1,s1.heap.objs.size],_,_,H1,rfl,I1.kept (t':=s1.toks) h4,Xp a _ _ (Nat.succ_ne_self _),⟨⟨_,h1⟩,h2⟩,fun b hb=>?_,q⟩
  have hb:b=s1.heap.objs.size+1∨b=s1.heap.objs.size:=by simpa using hb
  rcases hb with rfl | rfl
  · exact I1.fpOk (Nat.le_succ _) (I1.hok.fresh (Nat.le_succ _))
  · exact I1.fpOk (Nat.le_refl _) (I1.hok.fresh (Nat.le_refl _))
end
section
variable {K:PySem.W.Frag} {σ:St} {H:Hp} {D:G7}
theorem Sl{ta:TA}{R:It→Hp→Prop}:J65 K ta σ H R=ta σ H fun vs H1=>∃a,vs=[.ref a]∧(∃xs,SqL K H1 a xs)∧R (Ite K a) H1:=rfl
theorem W9{a:Addr}{xs:List V}{g:TG}{tb:TS}(Pv:Nat→St→Hp→Prop)(h0:Pv 0 σ H)(hl:∀i σ H,i≤xs.length→Pv i σ H→SqL K H a xs)
 (hs:∀i x σ H t,xs[i]?=some x→Pv i σ H→H t=none→g (.ref t) σ (upd H t (.tup [.int i,x])) fun σ2 H2=>tb {D with nx:=Pv (i+1),ct:=Pv (i+1),bk:=D.nx} σ2 H2) (hd:∀σ H,Pv xs.length σ H→D.nx σ H):Kl g tb D σ (Ite K a) H:=by
 refine ⟨fun i m σ H=>i≤xs.length∧m=xs.length - i∧Pv i σ H,⟨_,Nat.zero_le _,rfl,h0⟩,fun i m σ H ⟨hi,hm,hP⟩=>?_⟩;have hq:=hl i σ H hi hP
 cases hx:xs[i]? with
 | none=>
  have hn:xs.length≤i:=by simpa using hx
  have e:i=xs.length:=Nat.le_antisymm hi hn;subst e;exact .inl ⟨⟨xs,hq,Nat.le_refl _⟩,hd σ H hP⟩
 | some x=>
  have hlt:i < xs.length:=(List.getElem?_eq_some_iff.mp hx).1;refine .inr ⟨⟨xs,x,hq,hx⟩,Pv (i+1),fun σ' H' h=>⟨xs.length - (i+1),by omega,by omega,rfl,h⟩,?_⟩;rintro y H' ⟨t,x',rfl,ht,rfl,hy⟩;have e:=(hy xs hq).symm.trans hx;cases e;exact hs i x σ H t hx hP ht
end
end L2
namespace L2
def Itz(K:PySem.W.Frag)(a b:Addr):It:=
 ⟨fun i H=>∃xs ys x y,SqL K H a xs∧SqL K H b ys∧xs[i]?=some x∧ys[i]?=some y,fun i H v H'=>∃t x y,v= .ref t∧H t=none∧H'=upd H t (.tup [x,y])∧(∀xs,SqL K H a xs→xs[i]?=some x)∧∀ys,SqL K H b ys→ys[i]?=some y,
  fun i H=>∃xs ys,SqL K H a xs∧SqL K H b ys∧(xs.length≤i∨ys.length≤i)⟩
def tnZ(z TI TO i1 i2 a b:Addr)(i:Nat)(h:Heap):Prop:=IsZip h z TI TO .none∧IsPair h TI (.ref i1) (.ref i2)∧(∃x y,IsPair h TO x y)∧h.IsListIter i1 a i∧h.IsListIter i2 b i
theorem J1m{P:Program}{w:World}{K:PySem.W.Frag}{es:List Expr}{k:Nat}{pos:Pos}(a b z TI TO i1 i2:Addr)(D:ZipApart z TI TO i1 i2 a b):Wz P w K (.Tuple es k pos) (Itz K a b) [z,TI,TO,i1,i2] z (tnZ z TI TO i1 i2 a b) where
 mem:=by simp
 obj:=fun i h st c hc=>by
  obtain ⟨h1,h2,⟨x,y,h3⟩,⟨o4,e4,c4,d4⟩,⟨o5,e5,c5,d5⟩⟩:=st
  have hc:c=z∨c=TI∨c=TO∨c=i1∨c=i2:=by simpa using hc
  rcases hc with rfl | rfl | rfl | rfl | rfl
  · exact ⟨_,h1,fun v z=>by cases z⟩
  · exact ⟨_,h2,fun v z=>by cases z⟩
  · exact ⟨_,h3,fun v z=>by cases z⟩
  · exact ⟨o4,e4,fun v z=>by rw [d4]at z;cases z⟩
  · exact ⟨o5,e5,fun v z=>by rw [d5]at z;cases z⟩
 keep:=fun i h h' st kk=>by
  obtain ⟨h1,h2,⟨x,y,h3⟩,h4,h5⟩:=st;exact ⟨kk z (by simp) _ h1,kk TI (by simp) _ h2,⟨x,y,kk TO (by simp) _ h3⟩,h4.at fun o q=>kk i1 (by simp) o q,h5.at fun o q=>kk i2 (by simp) o q⟩
 item:=by
  intro X hP hw hK hc i pins s σ H E I hf st hg;subst hP hw hK;obtain ⟨xs,ys,x,y,hq,hq2,hx,hy⟩:=hg;obtain ⟨its,rv,p,hz⟩:=I.list hq;obtain ⟨jts,rv2,p2,hz2⟩:=I.list hq2;obtain ⟨u,hu,ru⟩:=rv.get hx;obtain ⟨v,hv,rw'⟩:=rv2.get hy;obtain ⟨h1,h2,⟨x0,y0,h3⟩,h4,h5⟩:=st
  have lts:∀c∈[z,TI,TO,i1,i2],c < s.heap.objs.size:=fun c hc'=>by
   have hc':c=z∨c=TI∨c=TO∨c=i1∨c=i2:=by simpa using hc'
   rcases hc' with rfl | rfl | rfl | rfl | rfl
   · exact Heap.lt_size h1
   · exact Heap.lt_size h2
   · exact Heap.lt_size h3
   · obtain ⟨o,q,_⟩:=id h4;exact Heap.lt_size q
   · obtain ⟨o,q,_⟩:=id h5;exact Heap.lt_size q
  refine wpAny_pyNext_zip_item D h1 h2 h3 h4 h5 p.isList p2.isList (x:=u) (y:=v) (by simpa using hu) (by simpa using hv) fun h' e1 e3 e4 e5 ht hs hk=>?_;refine ⟨_,rfl,wpAny_letOwnedTupleGo_zip (s:={s with heap:=h'}) e1 fun h6 e6 sb=>?_⟩;have hf0:H s.heap.objs.size=none:=I.hok.fresh (Nat.le_refl _);have nt:∀c∈[z,TI,TO,i1,i2],c≠s.heap.objs.size:=fun c hc'=>Nat.ne_of_lt (lts c hc')
  have I0:Inv X pins σ (upd H s.heap.objs.size (.tup [x,y])) {s with heap:=s.heap.push {cls:= .type "tuple",data:= .seq #[u,v]}}:=
   I.laid (t':=s.toks) (fun b u e=>Heap.get?_push_of_some _ e) (Nat.le_refl _) ⟨by simp [sizeLine];try decide,[u,v],.cons ru (.cons rw' .nil),⟨_,Heap.get?_push_size _ rfl,rfl,_,rfl⟩⟩
  have hfp:∀c∈[z,TI,TO,i1,i2],D8 X pins (upd H s.heap.objs.size (.tup [x,y])) c:=fun c hc'=>by
   obtain ⟨f0,f1,f2,f3,f4,f5⟩:=hf c hc';exact ⟨by rw [A5 (nt c hc')];exact f0,f1,f2,f3,f4,f5⟩
  have I1:Inv X pins σ (upd H s.heap.objs.size (.tup [x,y])) {s with heap:=h6}:=by
   refine Inv.turned2 (s:={s with heap:=s.heap.push {cls:= .type "tuple",data:= .seq #[u,v]}}) (t':=s.toks) I0 (fun c o hc' q=>?_) hfp
   have hb':c≠z∧c≠TI∧c≠TO∧c≠i1∧c≠i2:=by simpa using hc'
   refine (sb.2 c hb'.1).trans ?_;rcases Heap.get?_push_cases q with ⟨rfl,rfl⟩ | q2
   · exact ht
   · exact hk c o hb'.1 hb'.2.2.1 hb'.2.2.2.1 hb'.2.2.2.2 q2
  refine ⟨.ref s.heap.objs.size,upd H s.heap.objs.size (.tup [x,y]),I1,rfl,⟨_,x,y,rfl,hf0,rfl,fun zs hy'=>by rw [I.list_inj hy' hq];exact hx,fun zs hy'=>by rw [I.list_inj hy' hq2];exact hy⟩,?_,fun c hc'=>(hfp c hc').1⟩;have k6:∀c o,c≠z→h'.get? c=some o→h6.get? c=some o:=fun c o n q=>(sb.2 c n).trans q;exact ⟨e6,k6 TI _ D.TIz (hk TI _ D.TIz D.TITO D.TIi1 D.TIi2 h2),⟨_,_,k6 TO _ D.TOz e3⟩,e4.at fun o q=>k6 i1 o D.i1z q,e5.at fun o q=>k6 i2 o D.i2z q⟩
 done:=by
   intro X hP hw hK hc i pins s σ H E I hf st hg;subst hP hw hK;obtain ⟨xs,ys,hq,hq2,hx⟩:=hg;obtain ⟨its,rv,p,hz⟩:=I.list hq;obtain ⟨jts,rv2,p2,hz2⟩:=I.list hq2;obtain ⟨h1,h2,⟨x0,y0,h3⟩,h4,h5⟩:=st;have hl:=rv.length;have hl2:=rv2.length
   exact wpAny_pyNext_zip_end (I.ok.hd hc) D h1 h2 h3 h4 h5 p.isList p2.isList (hx.imp (fun h=>by simp;omega) fun h=>by simp;omega) fun h' eb=>⟨rfl,Inv.turned2 (t':=s.toks) I (fun c o hb q=>by
    have hb':c≠z∧c≠TI∧c≠TO∧c≠i1∧c≠i2:=by simpa using hb
    exact eb c o hb'.1 hb'.2.2.1 hb'.2.2.2.1 hb'.2.2.2.2 q) hf⟩
 self:=fun _ _ _ _ _ st h=>wpAny_pyIter_zip st.1 h
section
variable {X:Cx}
def J8y(K:PySem.W.Frag)(ta:TA):TI:=fun σ H R=>ta σ H fun vs H1=>∃a b,vs=[.ref a,.ref b]∧(∃xs,SqL K H1 a xs)∧(∃ys,SqL K H1 b ys)∧R (Itz K a b) H1
theorem Pr{l r:Expr}{ta:TA}{p pos pp:Pos}{es:List Expr}{k:Nat}(hg:Gl X "zip")(hm:X.mg "zip"=none)(ha:PA X [l,r] ta)(hs:starEach [l,r] X.env=[(false,eval l X.env),(false,eval r X.env)]:=by rfl)(hs2:starEach [r] X.env=[(false,eval r X.env)]:=by rfl):
 PI X (.Tuple es k pp) (.Call (.Name "zip" p) [l,r] [] pos) (J8y X.K ta):=by
 intro pins s σ H R I h;refine Call_ (G9 I hg hm boot_zip (PyProof.Rows.callWith_type1 (thn (ha pos pins s σ H _ I h) fun us s1 ⟨vs,H1,I1,r1,q1⟩=>?_) (by rw [hs,hs2]) (by rw [hs2];rfl)));obtain ⟨a,b,e,⟨xs,hq⟩,⟨ys,hq2⟩,q⟩:=q1;subst e
 cases r1 with
 | cons r rr=>
  cases rr with
  | cons r' rr=>
   cases rr;cases r;cases r';obtain ⟨its,rv,p',hz⟩:=I1.list hq;obtain ⟨jts,rv2,p2,hz2⟩:=I1.list hq2
   have la:a < s1.heap.objs.size:=by obtain ⟨o,e,_⟩:=p'.isList;exact Heap.lt_size e
   have lb:b < s1.heap.objs.size:=by obtain ⟨o,e,_⟩:=p2.isList;exact Heap.lt_size e
   refine call_zip_2 p'.isList p2.isList fun h' h1 h2 h3 h4 h5 h6 h7=>?_;refine wpAny_pyIter_zip h1 ?_;refine ⟨_,[s1.heap.objs.size+4,s1.heap.objs.size+2,s1.heap.objs.size+3,s1.heap.objs.size,s1.heap.objs.size+1],_,_,H1,rfl,I1.kept (t':=s1.toks) h7,J1m a b _ _ _ _ _ (PySem.W.ktu_apart _ _ _ la lb),⟨h1,h2,⟨_,_,h3⟩,h4,h5⟩,fun c hc=>?_,q⟩
   have hc:s1.heap.objs.size≤c:=by
    have hc:c=s1.heap.objs.size+4∨c=s1.heap.objs.size+2∨c=s1.heap.objs.size+3∨c=s1.heap.objs.size∨c=s1.heap.objs.size+1:=by simpa using hc
    rcases hc with rfl | rfl | rfl | rfl | rfl
    · exact Nat.le_add_right _ _
    · exact Nat.le_add_right _ _
    · exact Nat.le_add_right _ _
    · exact Nat.le_refl _
    · exact Nat.le_add_right _ _
   exact I1.fpOk hc (I1.hok.fresh hc)
end
section
variable {K:PySem.W.Frag} {σ:St} {H:Hp} {D:G7}
theorem Wa{ta:TA}{R:It→Hp→Prop}:J8y K ta σ H R=ta σ H fun vs H1=>∃a b,vs=[.ref a,.ref b]∧(∃xs,SqL K H1 a xs)∧(∃ys,SqL K H1 b ys)∧R (Itz K a b) H1:=rfl
theorem Wb{a b:Addr}{xs ys:List V}{g:TG}{tb:TS}(hlen:xs.length=ys.length)(Pv:Nat→St→Hp→Prop)(h0:Pv 0 σ H)(hl:∀i σ H,i≤xs.length→Pv i σ H→SqL K H a xs∧SqL K H b ys)
 (hs:∀i x y σ H t,xs[i]?=some x→ys[i]?=some y→Pv i σ H→H t=none→g (.ref t) σ (upd H t (.tup [x,y])) fun σ2 H2=>tb {D with nx:=Pv (i+1),ct:=Pv (i+1),bk:=D.nx} σ2 H2) (hd:∀σ H,Pv xs.length σ H→D.nx σ H):Kl g tb D σ (Itz K a b) H:=by
 refine ⟨fun i m σ H=>i≤xs.length∧m=xs.length - i∧Pv i σ H,⟨_,Nat.zero_le _,rfl,h0⟩,fun i m σ H ⟨hi,hm,hP⟩=>?_⟩;obtain ⟨hq,hq2⟩:=hl i σ H hi hP
 by_cases hlt:i < xs.length
 · have hx:xs[i]?=some xs[i]:=List.getElem?_eq_getElem hlt
   have hy:ys[i]?=some (ys[i]'(by omega)):=List.getElem?_eq_getElem (by omega);refine .inr ⟨⟨xs,ys,_,_,hq,hq2,hx,hy⟩,Pv (i+1),fun σ' H' h=>⟨xs.length - (i+1),by omega,by omega,rfl,h⟩,?_⟩;rintro v H' ⟨t,x',y',rfl,ht,rfl,h1,h2⟩;have e:=(h1 xs hq).symm.trans hx;have e2:=(h2 ys hq2).symm.trans hy;cases e;cases e2;exact hs i _ _ σ H t hx hy hP ht
 · have e:i=xs.length:=by omega
   subst e;exact .inl ⟨⟨xs,ys,hq,hq2,.inl (Nat.le_refl _)⟩,hd σ H hP⟩
end
end L2
namespace N32
open L2 N1 N5 N31
def An(ys:List Str)(z:Str):Nat→Option Nat
 | 0=>none
 | n+1=>if ys.getD n Str.empty=z then some n else An ys z n
theorem Df{ys:List Str}{z:Str}:∀{n j:Nat},An ys z n=some j→j < n∧ys.getD j Str.empty=z
 | 0,j,h=>by cases h
 | n+1,j,h=>by
  unfold An at h;split at h
  · rename_i e
    cases h;exact ⟨Nat.lt_succ_self _,e⟩
  · have:=Df h
    exact ⟨by omega,this.2⟩
theorem J1n{ys:List Str}{z:Str}{b n j:Nat}(h:An ys z n=some b)(h1:b < j)(h2:j < n):ys.getD j Str.empty≠z:=by
 induction n with
 | zero=>cases h
 | succ n ih=>
  unfold An at h;split at h
  · rename_i e
    cases h;omega
  · rename_i e
    by_cases ej:j=n
    · subst ej;exact e
    · exact ih h (by omega)
def ear(ys:List Str)(i:Nat):Option Nat:=An ys (ys.getD i Str.empty) i
def W(R:Str→Int)(ys:List Str)(n j:Nat):Int:=if An ys (ys.getD j Str.empty) n=some j then R (ys.getD j Str.empty) else 0
def tl(f:Nat→Int)(b n:Nat):Int:=((List.range' b (n - b)).map f).sum
def J9k:Option Int→V
 | none=> .non
 | some i=> .int i
def O2(ys:List Str)(i:Nat):V:=J9k ((ear ys i).map fun j=>(j:Int))
end N32
namespace N32
open L2 N1 N5 N31 N4
def rm(ts:List Th)(z:Str):Int:=((ts.find? fun t=>decide (t.1=z)).map (·.2.2)).getD 0
theorem Wc{ts:List Th}(nd:(ts.map (·.1)).Nodup){i:Nat}{t:Th}(h:ts[i]?=some t):rm ts t.1=t.2.2:=by
 induction ts generalizing i with
 | nil=>simp at h
 | cons u r ih=>
  rw [List.map_cons,List.nodup_cons]at nd
  cases i with
  | zero=>
   rw [List.getElem?_cons_zero]at h;cases h;simp [rm]
  | succ i=>
   rw [List.getElem?_cons_succ]at h;have ne:¬u.1=t.1:=fun e=>nd.1 (by rw [e];exact List.mem_map.mpr ⟨t,List.mem_of_getElem? h,rfl⟩);have:=ih nd.2 h;unfold rm at this ⊢;rw [List.find?_cons_of_neg (by simpa using ne)];exact this
def Ku(H:Hp)(d:Addr)(ns:List Str)(R:Str→Int):Prop:=∃kvs:List (Key×V),H d=some (.dK kvs)∧∀z∈ns,B8 kvs (Sum.inr z)=some (.int (R z))
theorem Ku.same{H H':Hp}{d:Addr}{ns:List Str}{R:Str→Int}(s:A6 H H')(h:Ku H d ns R):Ku H' d ns R:=let ⟨kvs,h1,h2⟩:=h;⟨kvs,s _ _ h1,h2⟩
theorem none_of{H H':Hp}{D:Addr}(s:A6 H H')(h:H' D=none):H D=none:=by
 cases e:H D with
 | none=>rfl
 | some o=>rw [s _ _ e]at h;cases h
theorem Bw{H H':Hp}{p:Addr}{o:HO}(s:A6 H H')(h:H p=none):A6 H (upd H' p o):=fun b u e=>by
 rw [A5 (Ab e h)];exact s b u e
def Cw:Sp:=fun vs H Q _=>∃(i:Int),vs=[.int i]∧1≤i∧i≤1000000∧Q .non H
def Dl(K:PySem.W.Frag)(C:Addr):Sp:=fun vs H Q _=>∃(p:Addr) (ts:List Th) (z:Str),vs=[.ref p,.str z]∧Ag K C H p ts∧(ts.map (·.1)).Nodup∧z∈ts.map (·.1)∧∀(i:Nat) (t:Th),ts[i]?=some t→t.1=z→∀a,SqT K H a [.int i,.int t.2.1,.int t.2.2]→Q (.ref a) H
def Cy(K:PySem.W.Frag)(C:Addr):Sp:=fun vs H Q _=>∃(p:Addr) (ts:List Th) (z:Str),vs=[.ref p,.str z]∧Ag K C H p ts∧(ts.map (·.1)).Nodup∧z∈ts.map (·.1)∧Q (.int (rm ts z)) H
def Eo(K:PySem.W.Frag):Sp:=fun vs H Q _=>∃(a:Addr) (ys:List Str),vs=[.ref a]∧SqL K H a (ys.map V.str)∧ys.length≤200∧∀p H',H p=none→A6 H H'→H' p=some (.lst ((List.range ys.length).map (O2 ys)))→Q (.ref p) H'
section
variable {K:PySem.W.Frag} {σ:L2.St} {H:Hp} {Q:VK}
theorem Sm{td ty:TE}:J01 td ty σ H Q=td σ H fun x H1=>∃a,x= .ref a∧IsD H1 a∧ty σ H1 fun y H2=>∃o,Cq H2 a y o∧Q (o.getD .non) H2:=rfl
end
end N32
namespace N32
open L2 N1 N5 N31 N4
theorem J4d{ys:List Str}{i:Nat}:((An ys (ys.getD i Str.empty) i).map fun j=>V.int (j:Int)).getD .non=O2 ys i:=by
 unfold O2 ear
 cases An ys (ys.getD i Str.empty) i <;> rfl
theorem J1o{ys:List Str}{kvs:List (Key×V)}{i:Nat}(h:∀z,B8 kvs (Sum.inr z)=(An ys z i).map fun j=>V.int (j:Int))(z:Str):B8 (Ct kvs (Sum.inr (ys.getD i Str.empty)) (V.int (i:Int))) (Sum.inr z)=(An ys z (i+1)).map fun j=>V.int (j:Int):=by
 rw [Kj]
 by_cases e:ys.getD i Str.empty=z
 · rw [if_pos (by rw [e]),show An ys z (i+1)=some i from if_pos e];rfl
 · rw [if_neg (fun h=>e (by injection h with h;exact h.symm)),show An ys z (i+1)=An ys z i from if_neg e];exact h z
end N32
open L2 N1 N5 N31 N4 N32
namespace N41
def seg(T:List Int)(a b:Nat):Int:=((T.take b).drop a).sum
def Dg(c r:Str→Int)(T:List Int)(S:Int)(ys:List Str)(n:Nat):Int:=
 match ear ys n with
 | none=>c (ys.getD n Str.empty) * S
 | some e=>min (c (ys.getD n Str.empty) * S) (r (ys.getD n Str.empty) * seg T (e+1) n)
def fl(c r:Str→Int)(T:List Int)(S P:Int)(ys:List Str):Nat→Int
 | 0=>0
 | n+1=>fl c r T S P ys n+(Dg c r T S ys n - T.getD n 0 * (P - r (ys.getD n Str.empty)))
def sm(f:Str→Int)(L:List Str):Int:=(L.map f).sum
theorem Lj(f:Str→Int):sm f []=0:=rfl
theorem C6(f:Str→Int)(x:Str)(L:List Str):sm f (x::L)=f x+sm f L:=by unfold sm;rw [List.map_cons,List.sum_cons]
theorem J1p(f:Str→Int)(L M:List Str):sm f (L++M)=sm f L+sm f M:=by unfold sm;rw [List.map_append,List.sum_append]
theorem J66{f:Str→Int}{L:List Str}(h:∀y∈L,0≤f y):0≤sm f L:=by
 induction L with
 | nil=>exact Int.le_refl _
 | cons x r ih=>
  rw [C6];have h1:=h x List.mem_cons_self;have h2:=ih fun y hy=>h y (List.mem_cons_of_mem _ hy);omega
theorem Nk{f:Str→Int}{L:List Str}{z:Str}(h:z∈L):sm f (L.erase z)=sm f L - f z:=by
 induction L with
 | nil=>cases h
 | cons x r ih=>
  by_cases e:x=z
  · subst e;rw [List.erase_cons_head,C6];omega
  · rw [List.erase_cons_tail (by simpa using e),C6,C6,ih ((List.mem_cons.mp h).resolve_left fun k=>e k.symm)];omega
theorem J1q{f g r:Str→Int}{k:Int}{L:List Str}(h:∀y∈L,f y=g y+k * r y):sm f L=sm g L+k * sm r L:=by
 induction L with
 | nil=>simp [Lj]
 | cons x t ih=>
  rw [C6,C6,C6,ih fun y hy=>h y (List.mem_cons_of_mem _ hy),h x List.mem_cons_self,Int.mul_add];omega
theorem Ug{f:Str→Int}{L M:List Str}(s:List.Sublist M L)(h:∀y∈L,0≤f y):sm f M≤sm f L:=by
 induction s with
 | slnil=>exact Int.le_refl _
 | cons a s ih=>
  rw [C6];have:=ih fun y hy=>h y (List.mem_cons_of_mem _ hy);have:=h a List.mem_cons_self;omega
 | cons_cons a s ih=>
  rw [C6,C6];have:=ih fun y hy=>h y (List.mem_cons_of_mem _ hy);omega
theorem J1r{T:List Int}{a n:Nat}(ha:a≤n)(hn:n < T.length):seg T a (n+1)=seg T a n+T.getD n 0:=by
 unfold seg;rw [List.take_succ,List.getElem?_eq_getElem hn,List.drop_append_of_le_length (by rw [List.length_take];omega),List.sum_append];rw [List.getD_eq_getElem?_getD,List.getElem?_eq_getElem hn];simp
theorem J1s{T:List Int}{n:Nat}:seg T n n=0:=by
 unfold seg;rw [List.drop_eq_nil_of_le (by rw [List.length_take];exact Nat.min_le_left _ _)];rfl
theorem J7a{T:List Int}(h:∀t∈T,0≤t){a b:Nat}:0≤seg T a b:=by
 unfold seg;have:∀t∈(T.take b).drop a,0≤t:=fun t ht=>h t (List.mem_of_mem_take (List.mem_of_mem_drop ht));generalize (T.take b).drop a=l at this
 induction l with
 | nil=>simp
 | cons x r ih=>
  rw [List.sum_cons];have h1:=this x List.mem_cons_self;have h2:=ih fun t ht=>this t (List.mem_cons_of_mem _ ht);omega
def cr(r:Str→Int)(T:List Int)(ys:List Str)(n:Nat)(y:Str):Int:=
 match An ys y n with
 | none=>0
 | some j=>r y * seg T (j+1) n
theorem J1t{r:Str→Int}{T:List Int}{ys:List Str}{n:Nat}{y:Str}(hr:0≤r y)(hT:∀t∈T,0≤t):0≤cr r T ys n y:=by
 unfold cr
 cases An ys y n with
 | none=>exact Int.le_refl _
 | some j=>exact Int.mul_nonneg hr (J7a hT)
theorem Sn{r:Str→Int}{T:List Int}{ys:List Str}{n:Nat}{y:Str}(hn:n < T.length)(h:y≠ys.getD n Str.empty)(ha:(An ys y n).isSome=true):cr r T ys (n+1) y=cr r T ys n y+T.getD n 0 * r y:=by
 unfold cr;rw [show An ys y (n+1)=An ys y n from if_neg fun e=>h e.symm]
 cases e:An ys y n with
 | none=>rw [e]at ha;cases ha
 | some j=>
  have:=(Df e).1;show r y * seg T (j+1) (n+1)=r y * seg T (j+1) n+_;rw [J1r (by omega) hn,Int.mul_add,Int.mul_comm (T.getD n 0)]
theorem Wd{r:Str→Int}{T:List Int}{ys:List Str}{n:Nat}:cr r T ys (n+1) (ys.getD n Str.empty)=0:=by
 unfold cr;rw [show An ys (ys.getD n Str.empty) (n+1)=some n from if_pos rfl];show _ * seg T (n+1) (n+1)=0;rw [J1s,Int.mul_zero]
theorem J1u{c r:Str→Int}{T:List Int}{S:Int}{ys:List Str}{n:Nat}(ha:(An ys (ys.getD n Str.empty) n).isSome=true):Dg c r T S ys n≤cr r T ys n (ys.getD n Str.empty):=by
 unfold Dg cr ear
 cases e:An ys (ys.getD n Str.empty) n with
 | none=>rw [e]at ha;cases ha
 | some j=>exact Int.min_le_right _ _
theorem Uh{c r:Str→Int}{T:List Int}{S:Int}{ys:List Str}{n:Nat}:Dg c r T S ys n≤c (ys.getD n Str.empty) * S:=by
 unfold Dg
 cases ear ys n with
 | none=>exact Int.le_refl _
 | some j=>exact Int.min_le_left _ _
structure M5(c r:Str→Int)(T:List Int)(S P:Int)(ys:List Str)(n:Nat)(L:List Str)(paid:Int):Prop where
 nd:L.Nodup
 fit:sm r L≤P
 asked:∀y∈L,(An ys y n).isSome=true
 le:fl c r T S P ys n+sm (cr r T ys n) L≤paid * S
section
variable {c r:Str→Int} {T:List Int} {S P:Int} {ys:List Str} {n:Nat} {L M:List Str} {paid:Int}
theorem M5.start(hP:0≤P):M5 c r T S P ys 0 [] 0:=⟨List.nodup_nil,hP,(fun y hy=>by cases hy),by simp [fl,Lj]⟩
theorem K7{y:Str}(h:(An ys y n).isSome=true):(An ys y (n+1)).isSome=true:=by
 unfold An;split
 · rfl
 · exact h
theorem M5.hit(h:M5 c r T S P ys n L paid)(hT:∀t∈T,0≤t)(hn:n < T.length)(hz:ys.getD n Str.empty∈L):M5 c r T S P ys (n+1) L paid:=by
 refine ⟨h.nd,h.fit,fun y hy=>K7 (h.asked y hy),?_⟩
 have hTn:0≤T.getD n 0:=by
  rw [List.getD_eq_getElem?_getD,List.getElem?_eq_getElem hn];exact hT _ (List.getElem_mem hn)
 have e1:sm (cr r T ys (n+1)) (L.erase (ys.getD n Str.empty))=sm (cr r T ys n) (L.erase (ys.getD n Str.empty))+T.getD n 0 * sm r (L.erase (ys.getD n Str.empty)):=
  J1q fun y hy=>Sn hn (fun e=>by rw [e]at hy;exact h.nd.not_mem_erase hy) (h.asked y (List.mem_of_mem_erase hy))
 rw [Nk hz,Nk hz,Nk hz,Wd]at e1;have e2:=J1u (c:=c) (r:=r) (T:=T) (S:=S) (h.asked _ hz);have e3:T.getD n 0 * (sm r L - r (ys.getD n Str.empty))≤T.getD n 0 * (P - r (ys.getD n Str.empty)):=Int.mul_le_mul_of_nonneg_left (by have:=h.fit;omega) hTn;have e4:=h.le;show fl c r T S P ys n+(Dg c r T S ys n - T.getD n 0 * (P - r (ys.getD n Str.empty)))+_≤_;omega
theorem M5.miss(h:M5 c r T S P ys n L paid)(hT:∀t∈T,0≤t)(hn:n < T.length)(hz:ys.getD n Str.empty∉L)(hf:sm r L+r (ys.getD n Str.empty)≤P):M5 c r T S P ys (n+1) (L++[ys.getD n Str.empty]) (paid+c (ys.getD n Str.empty)):=by
 refine ⟨?_,?_,fun y hy=>?_,?_⟩
 · rw [List.nodup_append]
   exact ⟨h.nd,by simp,fun a ha b hb e=>hz (by rw [List.mem_singleton.mp hb]at e;rw [← e];exact ha)⟩
 · rw [J1p,C6,Lj];omega
 · rcases List.mem_append.mp hy with k | k
   · exact K7 (h.asked y k)
   · rw [List.mem_singleton.mp k]
     unfold An;rw [if_pos rfl];rfl
 have hTn:0≤T.getD n 0:=by
  rw [List.getD_eq_getElem?_getD,List.getElem?_eq_getElem hn];exact hT _ (List.getElem_mem hn)
 have e1:sm (cr r T ys (n+1)) L=sm (cr r T ys n) L+T.getD n 0 * sm r L:=
  J1q fun y hy=>Sn hn (fun e=>by rw [e]at hy;exact hz hy) (h.asked y hy)
 have e2:=Uh (c:=c) (r:=r) (T:=T) (S:=S) (ys:=ys) (n:=n);have e3:T.getD n 0 * sm r L≤T.getD n 0 * (P - r (ys.getD n Str.empty)):=Int.mul_le_mul_of_nonneg_left (by omega) hTn;have e4:=h.le;rw [J1p,C6,Lj,Wd,e1,Int.add_mul];show fl c r T S P ys n+(Dg c r T S ys n - T.getD n 0 * (P - r (ys.getD n Str.empty)))+_≤_;omega
end
end N41
namespace N41
def cst(ts:List Th)(z:Str):Int:=((ts.find? fun t=>decide (t.1=z)).map (·.2.1)).getD 0
theorem J1v{ts:List Th}(nd:(ts.map (·.1)).Nodup){i:Nat}{t:Th}(h:ts[i]?=some t):cst ts t.1=t.2.1:=by
 induction ts generalizing i with
 | nil=>simp at h
 | cons u r ih=>
  rw [List.map_cons,List.nodup_cons]at nd
  cases i with
  | zero=>
   rw [List.getElem?_cons_zero]at h;cases h;simp [cst]
  | succ i=>
   rw [List.getElem?_cons_succ]at h;have ne:¬u.1=t.1:=fun e=>nd.1 (by rw [e];exact List.mem_map.mpr ⟨t,List.mem_of_getElem? h,rfl⟩);have:=ih nd.2 h;unfold cst at this ⊢;rw [List.find?_cons_of_neg (by simpa using ne)];exact this
def Dj(K:PySem.W.Frag)(C:Addr):Sp:=fun vs H Q _=>∃(p a:Addr) (pl:Int) (ts:List Th) (ys:List Str),vs=[.ref p,.ref a,.int pl]∧Ag K C H p ts∧(ts.map (·.1)).Nodup∧SqL K H a (ys.map V.str)∧ys.length≤200∧(∀y∈ys,y∈ts.map (·.1))∧(∀y∈ys,rm ts y≤pl)∧1≤pl∧pl≤1000000∧∀H',A6 H H'→Q (.bl true) H'
def Dk(K:PySem.W.Frag)(C:Addr):Sp:=fun vs H Q _=>∃(p:Addr) (ts:List Th) (z:Str),vs=[.ref p,.str z]∧Ag K C H p ts∧(ts.map (·.1)).Nodup∧z∈ts.map (·.1)∧Q (.int (cst ts z)) H
end N41
namespace L2
open PySem.W
theorem We(val:Nat→Int):∀k,argBest (fun i j=>decide (val i < val j)) k≤k∧∀j,j≤k→val (argBest (fun i j=>decide (val i < val j)) k)≤val j:=by
 intro k
 induction k with
 | zero=>exact ⟨Nat.le_refl _,fun j hj=>by rw [Nat.le_zero.mp hj];exact Int.le_refl _⟩
 | succ k ih=>
  unfold argBest;split
  · rename_i h
    have h:=of_decide_eq_true h;refine ⟨Nat.le_refl _,fun j hj=>?_⟩
    by_cases e:j=k+1
    · rw [e];exact Int.le_refl _
    · have:=ih.2 j (by omega);omega
  · rename_i h
    have h:¬(val (k+1) < _):=fun z=>h (decide_eq_true z);refine ⟨Nat.le_succ_of_le ih.1,fun j hj=>?_⟩
    by_cases e:j=k+1
    · rw [e];omega
    · exact ih.2 j (by omega)
end L2
namespace L2
abbrev Wf(wi:TI)(fs:List Nat)(tt:Blk→TT)(te:Blk→TE):TE:=Of wi 1 fs (fun _=>Bq 0) tt te
abbrev g2(K:PySem.W.Frag):Blk→TG:=fun _=>J3j K 2 (My (Bq 0) (My (Bq 1) J3i))
abbrev Nl(K:PySem.W.Frag)(wi:TI)(fs:List Nat)(tt:Blk→TT)(te:Blk→TE):TE:=Of wi 2 fs (g2 K) tt te
section
variable {X:Cx} {scope:Scope} {x y:Str} {px py pt:Pos} {n:Nat} {fs:List Nat} {elt iter c:Expr} {pos:Pos} {wi:TI} {tt:Blk→TT} {te:Blk→TE}
theorem So(x:Str)(fs:List Nat)(hc:X.calm=true)(hok:Bv X.N X.env.scope scope [x] fs=true)(hi:PI X (.Name x px) iter wi)(ht:∀b,PT (X.blk scope ([x]++around X.N fs) b) c (tt b))(he:∀b,PE (X.blk scope ([x]++around X.N fs) b) elt (te b))
 (hs:∀x,foldedSetIterable iter X.env x=pure x:=by intro _;rfl):PE X (.ListComp elt [⟨.Name x px,iter,[c],0⟩] scope pos) (Wf wi fs tt te):=
 Kn (xs:=[x]) (g:=fun _=>Bq 0) (tt:=tt) hc hok hi (U3 hok) (fun b=>Pl (ht b)) he hs
theorem Mj(hc:X.calm=true)(hok:Bv X.N X.env.scope scope [x,y] fs=true)(b:Blk):PG (X.blk scope ([x,y]++around X.N fs) b) (.Tuple [.Name x px,.Name y py] n pt) (g2 X.K b):=by
 have O:=Cv hok
 refine Ga (X:=X.blk scope ([x,y]++around X.N fs) b) hc (B3 (Ax O.nd rfl (.inl (lookup_relabel_local (O.own x (by simp)))) (.inr (lookup_relabel_local (O.own x (by simp)))))
  (B3 (Ax O.nd rfl (.inl (lookup_relabel_local (O.own y (by simp)))) (.inr (lookup_relabel_local (O.own y (by simp))))) Dq))
theorem Sq(x y:Str)(fs:List Nat)(hc:X.calm=true)(hok:Bv X.N X.env.scope scope [x,y] fs=true)(hi:PI X (.Tuple [.Name x px,.Name y py] n pt) iter wi)(he:∀b,PE (X.blk scope ([x,y]++around X.N fs) b) elt (te b))
 (hs:∀x,foldedSetIterable iter X.env x=pure x:=by intro _;rfl):PE X (.ListComp elt [⟨.Tuple [.Name x px,.Name y py] n pt,iter,[],0⟩] scope pos) (Nl X.K wi fs (fun _=>Cu) te):=
 Kn (xs:=[x,y]) (g:=g2 X.K) (tt:=fun _=>Cu) hc hok hi (Mj hc hok) (fun _=>Km) he hs
theorem Xq(x y:Str)(fs:List Nat)(hc:X.calm=true)(hok:Bv X.N X.env.scope scope [x,y] fs=true)(hi:PI X (.Tuple [.Name x px,.Name y py] n pt) iter wi)(ht:∀b,PT (X.blk scope ([x,y]++around X.N fs) b) c (tt b))(he:∀b,PE (X.blk scope ([x,y]++around X.N fs) b) elt (te b))
 (hs:∀x,foldedSetIterable iter X.env x=pure x:=by intro _;rfl):PE X (.ListComp elt [⟨.Tuple [.Name x px,.Name y py] n pt,iter,[c],0⟩] scope pos) (Nl X.K wi fs tt te):=
 Kn (xs:=[x,y]) (g:=g2 X.K) (tt:=tt) hc hok hi (Mj hc hok) (fun b=>Pl (ht b)) he hs
end
section
variable {K:PySem.W.Frag} {tail:St} {tt:Blk→TT} {te:Blk→TE} {Q:VK} {H1:Hp} {σ:St} {H:Hp}
theorem Sr{wi:TI}{fs:List Nat}:Wf wi fs tt te σ H Q=wi σ H (B6 (none::fs.map fun j=>σ.getD j none) (fun _=>Bq 0) tt te Q):=rfl
theorem Ss{wi:TI}{fs:List Nat}:Nl K wi fs tt te σ H Q=wi σ H (B6 (none::none::fs.map fun j=>σ.getD j none) (g2 K) tt te Q):=rfl
theorem Su{x y:Option V}{r:St}:J41 (none::none::r) (x::y::r):=fun i v e=>by
 match i with
 | 0=>cases e
 | 1=>cases e
 | i+2=>exact e
theorem E7{H H':Hp}{p:Addr}{o:HO}(s:A6 H H')(h:H p=none):A6 H (upd H' p o):=fun b u e=>by
 rw [A5 (Ab e h)];exact s b u e
theorem Sv{a:Addr}{xs:List V}(p:V→Bool)(f:V→V)(hS:SqL K H1 a xs)(hz:xs.length≤sizeLine)(ht:∀b x H QT,x∈xs→A6 H1 H→(∀H',A6 H H'→QT (p x) H')→tt b (some x::tail) H QT)
 (he:∀b x H Q',x∈xs→p x=true→A6 H1 H→(∀H',A6 H H'→Q' (f x) H')→te b (some x::tail) H Q')
 (q:∀D H',H1 D=none→A6 H1 H'→H' D=some (.lst ((xs.filter p).map f))→Q (.ref D) H'):B6 (none::tail) (fun _=>Bq 0) tt te Q (Itl K a) H1:=by
 intro b D hD;refine ⟨fun i m ys H=>m=xs.length - i∧i≤xs.length∧ys=((xs.take i).filter p).map f∧H D=some (.lst ys)∧A6 H1 H,⟨_,rfl,Nat.zero_le _,rfl,A1,B7 hD⟩,?_⟩;rintro i m ys H ⟨rfl,hi,rfl,hd,sm⟩;refine ⟨hd,?_⟩
 by_cases hlt:i < xs.length
 · refine .inr ⟨⟨xs,xs[i],sm.seq hS,by simp [hlt]⟩,fun x H3 ⟨e3,ex⟩=>⟨J5w,?_⟩⟩
   subst e3;have hx:=ex xs (sm.seq hS);have hm:=List.mem_of_getElem? hx
   have hl:(((xs.take i).filter p).map f).length≤i:=by
    rw [List.length_map];exact Nat.le_trans (List.length_filter_le _ _) (by rw [List.length_take];omega)
   refine ht b x _ _ hm sm fun H7 s7=>?_
   have htk:(xs.take (i+1)).filter p=(xs.take i).filter p++[x].filter p:=by rw [List.take_add_one,hx,List.filter_append];rfl
   by_cases hp:p x=true
   · rw [if_pos hp]
     refine he b x H7 _ hm hp (sm.trans s7) fun H8 s8=>?_;have hd8:=(s7.trans s8) _ _ hd;refine ⟨hd8,by omega,xs.length - (i+1),by omega,rfl,hlt,?_,A1,E7 ((sm.trans s7).trans s8) hD⟩;rw [htk,List.filter_cons_of_pos hp,List.filter_nil,List.map_append];rfl
   · rw [if_neg hp]
     refine ⟨xs.length - (i+1),by omega,rfl,hlt,?_,s7 _ _ hd,sm.trans s7⟩;rw [htk,List.filter_cons_of_neg hp,List.filter_nil,List.append_nil]
 · have e:i=xs.length:=by omega
   subst e;refine .inl ⟨⟨xs,sm.seq hS,Nat.le_refl _⟩,q D H hD sm ?_⟩;rw [hd,List.take_length]
theorem J4e{a c:Addr}{xs zs:List V}(hlen:xs.length=zs.length)(p:Nat→Bool)(f:Nat→V)(hA:SqL K H1 a xs)(hC:SqL K H1 c zs)(hz:xs.length≤sizeLine)
 (ht:∀b i x z H QT,xs[i]?=some x→zs[i]?=some z→A6 H1 H→(∀H',A6 H H'→QT (p i) H')→tt b (some x::some z::tail) H QT)
 (he:∀b i x z H Q',xs[i]?=some x→zs[i]?=some z→p i=true→A6 H1 H→(∀H',A6 H H'→Q' (f i) H')→te b (some x::some z::tail) H Q')
 (q:∀D H',H1 D=none→A6 H1 H'→H' D=some (.lst (((List.range xs.length).filter p).map f))→Q (.ref D) H'):B6 (none::none::tail) (g2 K) tt te Q (Itz K a c) H1:=by
 intro b D hD;refine ⟨fun i m ys H=>m=xs.length - i∧i≤xs.length∧ys=((List.range i).filter p).map f∧H D=some (.lst ys)∧A6 H1 H,⟨_,rfl,Nat.zero_le _,rfl,A1,B7 hD⟩,?_⟩;rintro i m ys H ⟨rfl,hi,rfl,hd,sm⟩;refine ⟨hd,?_⟩
 by_cases hlt:i < xs.length
 · have hx:xs[i]?=some xs[i]:=List.getElem?_eq_getElem hlt
   have hy:zs[i]?=some (zs[i]'(by omega)):=List.getElem?_eq_getElem (by omega);refine .inr ⟨⟨xs,zs,_,_,sm.seq hA,sm.seq hC,hx,hy⟩,?_⟩;rintro v H3 ⟨t,x',z',rfl,hn,rfl,g1,g2'⟩;have e1:=(g1 xs (sm.seq hA)).symm.trans hx;have e2:=(g2' zs (sm.seq hC)).symm.trans hy;cases e1;cases e2;have s3:A6 H (upd H t (.tup [xs[i],zs[i]'(by omega)])):=A6.new hn
   have hl:(((List.range i).filter p).map f).length≤i:=by
    rw [List.length_map];exact Nat.le_trans (List.length_filter_le _ _) (by rw [List.length_range];omega)
   have htk:(List.range (i+1)).filter p=(List.range i).filter p++[i].filter p:=by rw [List.range_succ,List.filter_append]
   refine ⟨t,_,rfl,SqT.of A1,rfl,_,_,rfl,_,_,rfl,rfl,Su,?_⟩;refine ht b i _ _ _ _ hx hy (sm.trans s3) fun H7 s7=>?_
   by_cases hp:p i=true
   · rw [if_pos hp]
     refine he b i _ _ H7 _ hx hy hp ((sm.trans s3).trans s7) fun H8 s8=>?_;have hd8:=((s3.trans s7).trans s8) _ _ hd;refine ⟨hd8,by omega,xs.length - (i+1),by omega,rfl,hlt,?_,A1,E7 (((sm.trans s3).trans s7).trans s8) hD⟩;rw [htk,List.filter_cons_of_pos hp,List.filter_nil,List.map_append];rfl
   · rw [if_neg hp]
     refine ⟨xs.length - (i+1),by omega,rfl,hlt,?_,(s3.trans s7) _ _ hd,(sm.trans s3).trans s7⟩;rw [htk,List.filter_cons_of_neg hp,List.filter_nil,List.append_nil]
 · have e:i=xs.length:=by omega
   subst e;exact .inl ⟨⟨_,_,sm.seq hA,sm.seq hC,.inl (Nat.le_refl _)⟩,q D H hD sm hd⟩
end
end L2
namespace L2
section
variable {X:Cx} {scope:Scope} {x y v:Str} {px py pt pv':Pos} {n i:Nat} {fs:List Nat} {elt iter c:Expr} {pos spos:Pos} {wi:TI} {tt:Blk→TT} {te:Blk→TE}
theorem J1w(x y:Str)(fs:List Nat)(hN:X.N.Nodup)(hy:X.N[i]?=some v)(hyl:X.env.kindOf v=some .local)(hc:X.calm=true)(hok:Bv X.N X.env.scope scope [x,y] fs=true)(hi:PI X (.Tuple [.Name x px,.Name y py] n pt) iter wi)(he:∀b,PE (X.blk scope ([x,y]++around X.N fs) b) elt (te b))
 (hsw:swapsWith (.ListComp elt [⟨.Tuple [.Name x px,.Name y py] n pt,iter,[],0⟩] scope pos) (some (.Name v pv')) spos.line X.env=pure true:=by rfl)
 (hs:∀x,foldedSetIterable iter X.env x=pure x:=by intro _;rfl):PS X (.Assign [.Name v pv'] (.ListComp elt [⟨.Tuple [.Name x px,.Name y py] n pt,iter,[],0⟩] scope pos) spos) (Qd (Nl X.K wi fs (fun _=>Cu) te) (Bq i)):=
 Mc (xs:=[x,y]) (g:=g2 X.K) (tt:=fun _=>Cu) hN hy hyl hc hok hi (Mj hc hok) (fun _=>Km) he hsw hs
theorem Xr(x y:Str)(fs:List Nat)(hN:X.N.Nodup)(hy:X.N[i]?=some v)(hyl:X.env.kindOf v=some .local)(hc:X.calm=true)(hok:Bv X.N X.env.scope scope [x,y] fs=true)(hi:PI X (.Tuple [.Name x px,.Name y py] n pt) iter wi)(ht:∀b,PT (X.blk scope ([x,y]++around X.N fs) b) c (tt b))(he:∀b,PE (X.blk scope ([x,y]++around X.N fs) b) elt (te b))
 (hsw:swapsWith (.ListComp elt [⟨.Tuple [.Name x px,.Name y py] n pt,iter,[c],0⟩] scope pos) (some (.Name v pv')) spos.line X.env=pure true:=by rfl)
 (hs:∀x,foldedSetIterable iter X.env x=pure x:=by intro _;rfl):PS X (.Assign [.Name v pv'] (.ListComp elt [⟨.Tuple [.Name x px,.Name y py] n pt,iter,[c],0⟩] scope pos) spos) (Qd (Nl X.K wi fs tt te) (Bq i)):=
 Mc (xs:=[x,y]) (g:=g2 X.K) (tt:=tt) hN hy hyl hc hok hi (Mj hc hok) (fun b=>Pl (ht b)) he hsw hs
end
end L2
namespace L2
theorem Wh{σ:St}{H:Hp}{D:G7}{i:Nat}{te:TE}{ti:TIp}:J6k i te ti D σ H=∃x,σ[i]?=some (some x)∧te σ H fun y H1=>ti x y H1 fun z H2=>D.nx (σ.set i (some z)) H2:=rfl
end L2
namespace N41
open L2 N1 N5 N31 N4 N32
def nmR(c:Int)(k:Nat):List Nat:=List.replicate (1+k % 8) (bc ((c+(k:Int) / 8) % 26))
theorem J1x{c:Int}{k:Nat}:C8 (nmR c k)=true:=by
 have hb:bc ((c+(k:Int) / 8) % 26)∈Bf:=Uc;unfold nmR;generalize bc ((c+(k:Int) / 8) % 26)=x at hb ⊢
 have hl:1+k % 8≤8:=by omega
 obtain ⟨n,hn⟩:∃n,1+k % 8=n+1:=⟨k % 8,by omega⟩
 rw [hn]at hl ⊢;unfold C8;have e1:(List.replicate (n+1) x).length=n+1:=List.length_replicate ..;simp only [Bool.and_eq_true,decide_eq_true_eq,e1];refine ⟨⟨⟨by omega,by omega⟩,?_⟩,?_⟩
 all_goals first | (rw [List.replicate_succ];unfold Ub;simp [hb];done) | (rw [List.all_eq_true];intro y hy;rw [(List.mem_replicate.mp hy).2];simp [hb];done) | (simp [List.replicate_succ,hb];done) | simp_all
def nmB(w:Bool)(c:Int)(at':Int)(L:Nat)(k:Nat):List Nat:=if w then nmL (fun j:Nat=>c+5 * (j:Int)) at' L k else nmR c k
def Iv(w:Bool)(c:Int)(at':Int)(L m:Nat):List Str:=(List.range m).map fun k=>tx (nmB w c at' L k)
theorem Xs{w:Bool}{c at':Int}{L m:Nat}(h1:1≤L)(h2:L≤8):∀y∈Iv w c at' L m,C8 y.cps.toList=true:=fun y hy=>by
 unfold Iv at hy;obtain ⟨k,_,rfl⟩:=List.mem_map.mp hy;rw [K6];unfold nmB
 cases w with
 | true=>exact J1g h1 h2
 | false=>exact J1x
def Ep:Sp:=fun vs H Q _=>∃i:Int,vs=[.int i]∧Q (.bl true) H
theorem J1y{x:Nat}:∀(n:Nat) (acc:Array Nat),(List.replicate n #[x]).foldl (· ++·) acc=acc++(List.replicate n x).toArray:=by
 intro n
 induction n with
 | zero=>intro acc;simp
 | succ n ih=>
  intro acc;rw [List.replicate_succ,List.foldl_cons,ih,List.replicate_succ];apply Array.toList_inj.mp;simp
theorem J4f{x:Nat}{n:Int}(h:1≤n):Txt.mul ⟨#[x]⟩ n=tx (List.replicate n.toNat x):=by
 unfold Txt.mul;rw [if_neg (by omega)]
 by_cases e:n=1
 · subst e;rfl
 · rw [if_neg (by rw [Md];simp [e])]
   show (⟨_⟩:Str)=⟨_⟩;congr 1;rw [J1y];simp
theorem J4g{x:Nat}{n:Int}(h0:0≤n)(h:n≤8):MulOk ⟨#[x]⟩ n:=by
 have hc:n=0∨n=1∨n=2∨n=3∨n=4∨n=5∨n=6∨n=7∨n=8:=by omega
 unfold MulOk;rw [Md]
 rcases hc with rfl | rfl | rfl | rfl | rfl | rfl | rfl | rfl | rfl <;> exact ⟨by decide,by decide,by decide+kernel⟩
theorem J67{F:Nat→Int}{at':Int}{j k:Nat}:nmL F at' (j+1) k=nmL F at' j k++[sgn F at' k j]:=by unfold nmL;rw [List.range_succ,List.map_append];rfl
theorem J8z{F:Nat→Int}{at':Int}{L k:Nat}:(nmL F at' L k).length=L:=by simp [nmL]
theorem J4h{c at':Int}{k:Nat}:nmL (fun j:Nat=>c+5 * (j:Int)) at' 1 k=[bc ((c+(k:Int) * (if at'=0 then 1 else 0)) % 26)]:=by
 rw [J67];show []++_=_;unfold sgn md;rw [List.nil_append,if_pos rfl];congr 3
 by_cases h:at'=0
 · rw [if_pos (by rw [h];rfl),if_pos h];simp
 · rw [if_neg (fun e=>h e.symm),if_neg h];simp
theorem J1z{c at':Int}{k j:Nat}:nmL (fun j:Nat=>c+5 * (j:Int)) at' (1+j+1) k=nmL (fun j:Nat=>c+5 * (j:Int)) at' (1+j) k++[bc ((c+5 * (1+(j:Int))+(k:Int) * (if 1+(j:Int)=at' then 1 else 0)) % 36)]:=by
 rw [J67];congr 2;unfold sgn md
 have e:((1+j:Nat):Int)=1+(j:Int):=by omega
 rw [e,if_neg (show ¬(1+j=0) by omega)];congr 2
 by_cases h:1+(j:Int)=at'
 · rw [if_pos h,if_pos h];simp
 · rw [if_neg h,if_neg h];simp
theorem Xt{w:Bool}{c at':Int}{L k:Nat}:Iv w c at' L (k+1)=Iv w c at' L k++[tx (nmB w c at' L k)]:=by
 unfold Iv;rw [List.range_succ,List.map_append];rfl
theorem Bu{ys:List Str}{k:Nat}(h:k < ys.length):ys[k]?=some (ys.getD k Str.empty):=by rw [List.getD_eq_getElem?_getD,List.getElem?_eq_getElem h];rfl
theorem J4i(xs:List V)(v:V):atI (xs++[v]) (-1)=some v:=by
 unfold atI ixN;rw [if_neg (by decide),List.length_append];simp;rw [if_pos (by omega),show (-1+((xs.length:Int)+1)).toNat=xs.length by omega];simp
def kvN(ys:List Str)(f:Str→Int):List (Key×V):=ys.map fun y=>(Sum.inr y,V.int (f y))
def upF(f:Str→Int)(y:Str)(v:Int):Str→Int:=fun u=>if u=y then v else f u
theorem J20{f:Str→Int}{y:Str}{v:Int}:upF f y v y=v:=if_pos rfl
theorem J7b{f:Str→Int}{y u:Str}{v:Int}(h:u≠y):upF f y v u=f u:=if_neg h
theorem J4j{ys:List Str}{f:Str→Int}{y:Str}(h:y∈ys):B8 (kvN ys f) (Sum.inr y)=some (.int (f y)):=by
 unfold kvN
 induction ys with
 | nil=>cases h
 | cons x r ih=>
  rw [List.map_cons]
  by_cases e:x=y
  · subst e;rw [Bt rfl]
  · rw [Bn (fun z=>e (by injection z))]
    exact ih ((List.mem_cons.mp h).resolve_left fun z=>e z.symm)
theorem J21{ys:List Str}{f:Str→Int}{y:Str}(h:y∉ys):B8 (kvN ys f) (Sum.inr y)=none:=by
 unfold kvN
 induction ys with
 | nil=>rfl
 | cons x r ih=>
  rw [List.map_cons,Bn (fun z=>h (by injection z with z;rw [z];exact List.mem_cons_self))];exact ih fun z=>h (List.mem_cons_of_mem _ z)
theorem J22{ys:List Str}{f:Str→Int}{y:Str}{v:Int}(h:y∉ys):Ct (kvN ys f) (Sum.inr y) (.int v)=kvN (ys++[y]) (upF f y v):=by
 rw [Gf _ (J21 h)];unfold kvN;rw [List.map_append];congr 1
 · refine List.map_congr_left fun x hx=>?_
   rw [J7b (fun e=>h (by rw [← e];exact hx))]
 · rw [List.map_cons,J20];rfl
theorem J4k{ys:List Str}{f:Str→Int}:(kvN ys f).length=ys.length:=by unfold kvN;rw [List.length_map]
def tsF(C R:Str→Int)(ys:List Str):List Th:=ys.map fun y=>(y,C y,R y)
theorem Lk{C R:Str→Int}{ys:List Str}:(tsF C R ys).map (·.1)=ys:=by
 unfold tsF;rw [List.map_map];exact (List.map_congr_left fun _ _=>rfl).trans (List.map_id ys)
theorem J4l{C R:Str→Int}{ys:List Str}:(tsF C R ys).length=ys.length:=by unfold tsF;rw [List.length_map]
theorem J7c{C R:Str→Int}{ys:List Str}{i:Nat}(h:i < ys.length):(tsF C R ys)[i]?=some (ys.getD i Str.empty,C (ys.getD i Str.empty),R (ys.getD i Str.empty)):=by
 unfold tsF;rw [List.getElem?_map,Bu h];rfl
def Kv(ys:List Str)(m:Nat)(c:Int):Str:=ys.getD (c % (m:Int)).toNat Str.empty
def J90(ys:List Str)(m:Nat):V→V
 | .int c=> .str (Kv ys m c)
 | _=> .non
theorem Xu{ys:List Str}{m:Nat}{cs:List Int}:(cs.map V.int).map (J90 ys m)=(cs.map (Kv ys m)).map V.str:=by
 rw [List.map_map,List.map_map];rfl
end N41
namespace N6
open L2 N1 N5 N4
def sfl(p d:Addr)(n:Int):List (Str×V):=Bh "rooms" (.ref d) (Bh "places" (.int n) (Bh "stock" (.ref p) []))
theorem Ou{p d:Addr}{n:Int}:(sfl p d n).lookup ("stock":Str)=some (V.ref p):=by
 unfold sfl;rw [Bm,if_neg (by decide),Bm,if_neg (by decide),Bm,if_pos rfl]
theorem Ui{p d:Addr}{n:Int}:(sfl p d n).lookup ("places":Str)=some (V.int n):=by
 unfold sfl;rw [Bm,if_neg (by decide),Bm,if_pos rfl]
theorem E8{p d:Addr}{n:Int}:(sfl p d n).lookup ("rooms":Str)=some (V.ref d):=by
 unfold sfl;rw [Bm,if_pos rfl]
abbrev Ly:=List (Str×Int)
def lyK(ls:Ly):List (Key×V):=ls.map fun x=>(Sum.inr x.1,.int x.2)
def lyN(ls:Ly):List Str:=ls.map (·.1)
def lyS(ls:Ly):Int:=(ls.map (·.2)).sum
structure Bb(S:Addr)(H:Hp)(q p d:Addr)(n:Int)(ls:Ly):Prop where
 o:∃dx,H q=some (.ins S dx (sfl p d n))
 d:H d=some (.dK (lyK ls))
 nd:(lyN ls).Nodup
theorem Bb.same{S:Addr}{H H':Hp}{q p d:Addr}{n:Int}{ls:Ly}(s:A6 H H')(h:Bb S H q p d n ls):Bb S H' q p d n ls:=
 ⟨h.o.imp fun _ e=>s _ _ e,s _ _ h.d,h.nd⟩
structure E2(K:PySem.W.Frag)(C:Addr)(H:Hp)(p:Addr)(ts:List Th)(d:Addr):Prop where
 ex:∃(dx e:Addr) (kvs:List (Key×V)),e≠d∧H p=some (.ins C dx (flds e))∧H e=some (.dK kvs)∧kvs.map (·.1)=ts.map (fun t=>Sum.inr t.1)∧
  ∀(i:Nat) (t:Th),ts[i]?=some t→∃a,kvs[i]?=some (Sum.inr t.1,.ref a)∧SqT K H a [.int i,.int t.2.1,.int t.2.2]
section
variable {K:PySem.W.Frag} {C S:Addr} {H H':Hp} {p q d:Addr} {ts:List Th} {n:Int} {ls:Ly} {z:Str}
theorem E2.at(h:E2 K C H p ts d):Ag K C H p ts:=by
 obtain ⟨dx,e,kvs,_,r⟩:=h.ex;exact ⟨dx,e,kvs,r⟩
theorem E2.of(h:Ag K C H p ts)(hd:H d=none):E2 K C H p ts d:=by
 obtain ⟨dx,e,kvs,h1,h2,r⟩:=h.ex;exact ⟨dx,e,kvs,Ab h2 hd,h1,h2,r⟩
theorem E2.same(s:A6 H H')(h:E2 K C H p ts d):E2 K C H' p ts d:=by
 obtain ⟨dx,e,kvs,n,h1,h2,h3,h4⟩:=h.ex;refine ⟨dx,e,kvs,n,s _ _ h1,s _ _ h2,h3,fun i t q=>?_⟩;obtain ⟨a,e1,e2⟩:=h4 i t q;exact ⟨a,e1,s.tup e2⟩
theorem Bb.butL{l:Addr}{zs:List V}(s:SameBut l H H')(hl:H l=some (.lst zs))(h:Bb S H q p d n ls):Bb S H' q p d n ls:=
 ⟨h.o.imp fun _ e=>s _ _ e (C0 e hl (by intro z;cases z)),s _ _ h.d (C0 h.d hl (by intro z;cases z)),h.nd⟩
theorem J4m:(lyK ls).map (·.1)=(lyN ls).map Sum.inr:=by unfold lyK lyN;rw [List.map_map,List.map_map];rfl
theorem Xv:((lyK ls).map fun x=>kV x.1)=(lyN ls).map V.str:=by unfold lyK lyN;rw [List.map_map,List.map_map];rfl
theorem J23:(lyK ls).map (·.2)=(ls.map (·.2)).map V.int:=by unfold lyK;rw [List.map_map,List.map_map];rfl
theorem Ps:(B8 (lyK ls) (Sum.inr z)).isSome=decide (z∈lyN ls):=Kr J4m
theorem J4n{r:Int}(h:¬z∈lyN ls):Ct (lyK ls) (Sum.inr z) (.int r)=lyK (ls++[(z,r)]):=by
 have hv:B8 (lyK ls) (Sum.inr z:Key)=none:=by
  have:=Ps (ls:=ls) (z:=z);rw [decide_eq_false h]at this
  cases hv:B8 (lyK ls) (Sum.inr z:Key) with
  | none=>rfl
  | some v=>rw [hv]at this;cases this
 rw [Gf _ hv];unfold lyK;rw [List.map_append];rfl
def lyD(ls:Ly)(z:Str):Ly:=ls.filter fun x=>decide (x.1≠z)
theorem J24:Ki (lyK ls) (Sum.inr z)=lyK (lyD ls z):=by
 unfold Ki lyK lyD;rw [List.filter_map];congr 1;refine List.filter_congr fun x _=>?_;show decide ((Sum.inr x.1:Key)≠Sum.inr z)=decide (x.1≠z);exact decide_eq_decide.mpr ⟨fun h e=>h (by rw [e]),fun h e=>h (by injection e)⟩
theorem Ll(nd:(lyN ls).Nodup):lyN (lyD ls z)=(lyN ls).erase z:=by
 unfold lyN lyD at *;rw [List.Nodup.erase_eq_filter nd,List.filter_map];congr 1;refine List.filter_congr fun x _=>?_
 by_cases h:x.1=z
 · simp [h]
 · simp [h]
end
theorem Bb.put{S:Addr}{H H1:Hp}{q p d:Addr}{n:Int}{ls:Ly}{z:Str}{r:Int}(h:Bb S H q p d n ls)(s:A6 H H1)(hz:¬z∈lyN ls):Bb S (upd H1 d (.dK (Ct (lyK ls) (Sum.inr z) (.int r)))) q p d n (ls++[(z,r)]):=by
 obtain ⟨dx,ho⟩:=h.o;have h1:=s _ _ ho;have h2:=s _ _ h.d;refine ⟨⟨dx,by rw [A5 (C0 h1 h2 (by intro z;cases z))];exact h1⟩,by rw [A1,J4n hz],?_⟩
 have e:lyN (ls++[(z,r)])=lyN ls++[z]:=by unfold lyN;rw [List.map_append];rfl
 rw [e,List.nodup_append];exact ⟨h.nd,by simp,fun a ha b hb e=>hz (by rw [List.mem_singleton.mp hb]at e;rw [← e];exact ha)⟩
theorem Bb.cast{S:Addr}{H:Hp}{q p d:Addr}{n:Int}{ls:Ly}{z:Str}(h:Bb S H q p d n ls):Bb S (upd H d (.dK (Ki (lyK ls) (Sum.inr z)))) q p d n (lyD ls z):=by
 obtain ⟨dx,ho⟩:=h.o;refine ⟨⟨dx,by rw [A5 (C0 ho h.d (by intro z;cases z))];exact ho⟩,by rw [A1,J24],?_⟩;rw [Ll h.nd];exact h.nd.erase z
def Kw(S:Addr):Sp:=fun vs H Q _=>∃(q dx p:Addr) (n:Int),vs=[.ref q,.ref p,.int n]∧H q=some (.ins S dx [])∧1≤n∧n≤1000000∧∀H' d,SameBut q H H'→H d=none→Bb S H' q p d n []→Q .non H'
def Kx(S:Addr):Sp:=fun vs H Q _=>∃(q p d:Addr) (n:Int) (ls:Ly),vs=[.ref q]∧Bb S H q p d n ls∧∀l,H l=none→Q (.ref l) (upd H l (.lst ((lyN ls).map V.str)))
def E9(S:Addr):Sp:=fun vs H Q _=>∃(q p d:Addr) (n:Int) (ls:Ly) (z:Str),vs=[.ref q,.str z]∧Bb S H q p d n ls∧Q (.bl (decide (z∈lyN ls))) H
def Ky(S:Addr):Sp:=fun vs H Q _=>∃(q p d:Addr) (n:Int) (ls:Ly),vs=[.ref q]∧Bb S H q p d n ls∧∀H',A6 H H'→Q (.int (n - lyS ls)) H'
end N6
namespace N6
open L2 N1 N5 N4
theorem Sw{z:Str}{ys:List Str}:inV (.str z) (ys.map V.str)=decide (z∈ys):=by
 unfold inV
 induction ys with
 | nil=>rfl
 | cons y ys ih=>
  rw [List.map_cons,List.any_cons,ih,J43]
  by_cases h:y=z
  · subst h;simp
  · have h':¬z=y:=fun e=>h e.symm
    simp [h,h']
theorem J91{K:PySem.W.Frag}{H:Hp}{p:Addr}{z:Str}{ys:List Str}{Q:VK}(h:SqL K H p (ys.map V.str))(q:Q (.bl (decide (z∈ys))) H):rIn K false (.str z) (.ref p) H Q:=by
 refine ⟨p,_,rfl,.inl h,rfl,Qz,?_⟩;rw [if_neg (by decide),Sw];exact q
theorem J25{K:PySem.W.Frag}{H:Hp}{p:Addr}{z:Str}{ys:List Str}{Q:VK}(h:SqL K H p (ys.map V.str))(q:Q (.bl (!decide (z∈ys))) H):rIn K true (.str z) (.ref p) H Q:=by
 refine ⟨p,_,rfl,.inl h,rfl,Qz,?_⟩;rw [if_pos rfl,Sw];exact q
def aOf:V→Addr
 | .ref a=>a
 | _=>0
end N6
namespace N41
open L2 N1 N5 N31 N4 N32
theorem Xw{c r:Str→Int}{T:List Int}{S P:Int}{ys:List Str}{n:Nat}{L M:List Str}{paid:Int}(h:M5 c r T S P ys n L paid)(hr:∀y∈L,0≤r y)(hT:∀t∈T,0≤t)(s:List.Sublist M L):M5 c r T S P ys n M paid:=by
 have h1:=Ug (f:=r) s hr;have h2:=Ug (f:=cr r T ys n) s fun y hy=>J1t (hr y hy) hT;exact ⟨h.nd.sublist s,Int.le_trans h1 h.fit,fun y hy=>h.asked y (s.subset hy),by have:=h.le;omega⟩
structure Dd(c r:Str→Int)(P:Int)(ys:List Str)(n:Nat)(L:List Str)(paid:Int):Prop where
 nd:L.Nodup
 fit:sm r L≤P
 asked:∀y∈L,(An ys y n).isSome=true
 all:∀(T:List Int) (S:Int),(∀t∈T,0≤t)→T.length=ys.length→M5 c r T S P ys n L paid
section
variable {c r:Str→Int} {P:Int} {ys:List Str} {n:Nat} {L M:List Str} {paid:Int}
theorem Dd.start(hP:0≤P):Dd c r P ys 0 [] 0:=⟨List.nodup_nil,hP,(fun y hy=>by cases hy),fun T S _ _=>M5.start hP⟩
theorem Dd.cast(h:Dd c r P ys n L paid)(hr:∀y∈L,0≤r y)(s:List.Sublist M L):Dd c r P ys n M paid:=
 ⟨h.nd.sublist s,Int.le_trans (Ug (f:=r) s hr) h.fit,fun y hy=>h.asked y (s.subset hy),fun T S hT hl=>Xw (h.all T S hT hl) hr hT s⟩
theorem Dd.hit(h:Dd c r P ys n L paid)(hn:n < ys.length)(hz:ys.getD n Str.empty∈L):Dd c r P ys (n+1) L paid:=
 ⟨h.nd,h.fit,fun y hy=>K7 (h.asked y hy),fun T S hT hl=>(h.all T S hT hl).hit hT (by omega) hz⟩
theorem Dd.miss(h:Dd c r P ys n L paid)(hn:n < ys.length)(hz:ys.getD n Str.empty∉L)(hf:sm r L+r (ys.getD n Str.empty)≤P):Dd c r P ys (n+1) (L++[ys.getD n Str.empty]) (paid+c (ys.getD n Str.empty)):=by
 have h0:=(h.all (List.replicate ys.length 0) 1 (fun t ht=>by rw [(List.mem_replicate.mp ht).2];exact Int.le_refl _) (by simp)).miss (fun t ht=>by rw [(List.mem_replicate.mp ht).2];exact Int.le_refl _) (by simp;omega) hz hf;exact ⟨h0.nd,h0.fit,h0.asked,fun T S hT hl=>(h.all T S hT hl).miss hT (by omega) hz hf⟩
end
theorem Kz{ys:List Str}{y:Str}{n:Nat}(h:(An ys y n).isSome=true)(hn:n≤ys.length):y∈ys:=by
 obtain ⟨j,hj⟩:=Option.isSome_iff_exists.mp h;obtain ⟨h1,h2⟩:=Df hj;rw [← h2];exact List.mem_of_getElem? (Bu (by omega))
end N41
namespace L2
open PySem.W
def J26(tp:Addr)(H:Hp):Prop:=H tp=some (.tbl #[])∧∀b,b≠tp→H b=none∨∃o xs,H b=some (.frz o (.lst xs))
theorem Xx{P:Program}{w:World}{K:PySem.W.Frag}{mg mb:Str→Option Value}{CX:CXT}{k:Nat}{fa a tp:Addr}{fd:FuncData}{x:Str}{sp:Sp}{s₁:Shared}{vs:List Value}{ns:List Int}
 (KX:K.In s₁.heap) (hns:s₁.heap.Ns mainGlobals mg) (hb:s₁.heap.Ns builtinsNs mb) (hbb:∀x:Str,x≠"__name__"→mb x=bootBuiltins x) (hlim:s₁.heap.NoLimit) (hg:s₁.gens=#[])
 (ha:s₁.heap.get? a=some {cls:= .type "list",data:= .seq vs.toArray}) (hi:IntsAre vs ns) (hl:ns.length≤sizeLine) (hr:Br k callerA)
 (hT:s₁.heap.get? tp=some (tabObj #[])) (hct:isCodeTable s₁.heap tp) (hKt:K.lookup tp=none)
 (hbm:∃bm ob,mg "__builtins__"=some (.ref bm)∧bm≠builtinsNs∧s₁.heap.get? bm=some ob∧ob.cls= .type "module"∧ob.dict=some builtinsNs∧ob.data= .plain)
 (F:∀base:Heap,K.In base→base.Ns mainGlobals mg→base.BuiltinsAt mg tp→Al P w K mg base CX k fa fd [x] sp) (hbind:∀(s:Shared) (u:Value),BindsTo s fd ⟨[u],[]⟩ [(x,u)])
 (hsp:∀H:Hp,J26 tp H→SqL K H a (ns.map V.int)→sp [.ref a] H (fun v _=>v= .bl true) fun _ _ _=>False)
 (hCX:∀H e s',CX [] H s₁ (fun _ _ _=>False) e s'→False):
 codeAny (model P w) callerA (.call (.ref fa) ⟨[.ref a],[]⟩) (fun r s'=>r= .ok (.ret (.bool true))∧OldK s₁.heap s'.heap∧s'.os=s₁.os∧AllBare s'.gens) s₁:=by
 have rv:=Oc hi;have lenV:=hi.length
 have nta:tp≠a:=fun e=>by rw [e,ha]at hT;cases hT
 have core:∀H:Hp,J26 tp H→SqL K H a (ns.map V.int)→HOk P w H s₁.heap→(∀b,b≠tp→H b≠none→b=a∧K.lookup a=none)→
  codeAny (model P w) callerA (.call (.ref fa) ⟨[.ref a],[]⟩) (fun r s'=>r= .ok (.ret (.bool true))∧OldK s₁.heap s'.heap∧s'.os=s₁.os∧AllBare s'.gens) s₁:=by
  intro H hO hS hok hA
  have off:∀{b:Addr} {o:Obj} {es:Array DictEntry} {ep:Nat},s₁.heap.get? b=some o→o.data= .dict es ep→H b=none:=fun {b o es ep} e d=>by
   by_cases h1:b=tp
   · subst h1;rw [hT]at e;cases e;cases d
   · cases q:H b with
     | none=>rfl
     | some u=>
      obtain ⟨e',_⟩:=hA b h1 (by rw [q];simp);subst e';rw [ha]at e;cases e;cases d
  have nsT:∀{b:Addr} {m:Str→Option Value},s₁.heap.Ns b m→(P4 s₁.heap H).Ns b m:=fun {b m} ⟨o,es,ep,e,d,r⟩=>⟨o,es,ep,Mu e (off e d),d,r⟩
  have inT:K.In (P4 s₁.heap H):=fun b o e=>Mu (KX b o e) (by
   by_cases h1:b=tp
   · subst h1;rw [hKt]at e;cases e
   · cases q:H b with
     | none=>rfl
     | some u=>
      obtain ⟨e',hk⟩:=hA b h1 (by rw [q];simp)
      subst e';rw [hk]at e;cases e)
  have mT:Mod K mg (P4 s₁.heap H):=⟨inT,nsT hns,⟨mb,nsT hb,hbb⟩,let ⟨mc,h1,h2⟩:=hlim;⟨mc,nsT h1,h2⟩⟩
  have e0:Ke P w K mg (P4 s₁.heap H) callerA [] s₁ H:=⟨rfl,mT,fun b o e=>J3f e,Nat.le_of_eq (Wx _ _),trivial,fun b hb=>absurd (show b∈([]:List Addr) from hb) (by simp),hok,.of_eq hg⟩
  have bT:(P4 s₁.heap H).BuiltinsAt mg tp:=by
   obtain ⟨bm,ob,m1,m2,m3,m4,m5,m6⟩:=hbm
   have ntp:bm≠tp:=fun e=>by rw [e,hT]at m3;cases m3;cases m4
   refine ⟨bm,ob,m1,m2,fun e=>?_,ntp,Mu m3 ?_,m4,m5,m6⟩
   · obtain ⟨o,es,ep,e1,d1,_⟩:=hns
     rw [← e,m3]at e1;cases e1;rw [m6]at d1;cases d1
   · cases q:H bm with
     | none=>rfl
     | some u=>
      obtain ⟨e',_⟩:=hA bm ntp (by rw [q];simp);rw [e',ha]at m3;cases m3;cases m6
  refine codeAny_mono ((F _ inT (nsT hns) bT).run callerA [] s₁ H ⟨[.ref a],[]⟩ [.ref a] [.ref a] _ _ hr e0 (hbind s₁ (.ref a)) (.cons rfl .nil) (hsp H hO hS)) fun r s' h=>?_
  cases r with
  | error e=>exact (hCX H e s' h).elim
  | ok fl=>
   cases fl with
   | next=>exact False.elim h
   | brk=>exact False.elim h
   | cont=>exact False.elim h
   | ret u=>
    obtain ⟨v,H',os,bare,un,hok',r',q⟩:=h;obtain rfl:v= .bl true:=q;obtain rfl:u=Value.bool true:=r'
    have kp:∀b o,b≠tp→s₁.heap.get? b=some o→s'.heap.get? b=some o:=fun b o nb e=>by
     cases q:H b with
     | none=>exact un.keep b o e q (by intro z;exact absurd (show b∈([]:List Addr) from z) (by simp)) (by simp)
     | some u=>
      rcases hO.2 b nb with z | ⟨ob,xs,z⟩
      · rw [q]at z;cases z
      · obtain ⟨e1,_⟩:=hok b _ z
        obtain ⟨e2,_⟩:=hok' b _ (un.frzs b ob _ z);rw [e]at e1;cases e1;exact e2
    obtain ⟨more,hm⟩:=un.tbls tp #[] hO.1;have tT:s'.heap.get? tp=some {cls:= .none,data:= .fields (#[]++more)}:=hok' tp _ hm;refine ⟨rfl,⟨fun b o e=>?_,fun b o e=>?_⟩,os,bare⟩
    · by_cases nb:b=tp
      · subst nb
        rw [hT]at e;cases e;exact .inr (.inl ⟨hct,rfl,#[],more,rfl,tT⟩)
      · exact .inl (kp b o nb e)
    · by_cases nb:b=tp
      · subst nb;exact ⟨_,tT⟩
      · exact ⟨o,kp b o nb e⟩
 have tOk:∀H:Hp,Bg P w H s₁.heap tp (.tbl #[]):=fun H=>hT
 cases hk:K.lookup a with
 | some o=>
  have e:=KX a o hk;rw [ha]at e;cases e;refine core (fun b=>if b=tp then some (.tbl #[]) else none) ⟨if_pos rfl,fun b nb=> .inl (if_neg nb)⟩ (.inr ⟨_,vs.toArray,_,hk,rfl,rfl,rfl,by rw [List.size_toArray,lenV];exact hl,by simpa using rv⟩) (fun b u z=>?_) (fun b nb z=>absurd (if_neg nb) z)
  by_cases h1:b=tp
  · have z':=(if_pos h1).symm.trans z
    cases z';subst h1;exact tOk _
  · have z':=(if_neg h1).symm.trans z
    cases z'
 | none=>
  refine core (fun b=>if b=tp then some (.tbl #[]) else if b=a then some (.frz {cls:= .type "list",data:= .seq vs.toArray} (.lst (ns.map V.int))) else none) ⟨if_pos rfl,fun b nb=>?_⟩ (.inl (.inr ⟨{cls:= .type "list",data:= .seq vs.toArray},(if_neg nta.symm).trans (if_pos rfl)⟩)) (fun b u z=>?_) (fun b nb z=>⟨?_,hk⟩)
  · by_cases h2:b=a
    · exact .inr ⟨_,_,(if_neg nb).trans (if_pos h2)⟩
    · exact .inl ((if_neg nb).trans (if_neg h2))
  · by_cases h1:b=tp
    · have z':=(if_pos h1).symm.trans z
      cases z';subst h1;exact tOk _
    · have z1:=(if_neg h1).symm.trans z
      by_cases h2:b=a
      · have z':=(if_pos h2).symm.trans z1
        cases z';subst h2;exact ⟨ha,by rw [List.length_map];exact hl,vs,_,rv,ha⟩
      · have z':=(if_neg h2).symm.trans z1
        cases z'
  · by_cases h2:b=a
    · exact h2
    · exact absurd ((if_neg nb).trans (if_neg h2)) z
theorem Xy{l:PySem.W.OpenLaw}{n k:Nat}{q:Program}{loose:List Str}{XP:(Str→Option Value)→Heap→Prop}{YP:World→Heap→Prop}{d:DefRec}{K:Params→PySem.W.Frag}{CX:CXT}{sp:PySem.W.Frag→Sp}{x:Str}{tp:Addr}
 (hn:l.most=some n) (hn2:n≤sizeLine) (hdf:d.params.defaults=[]) (hr:Br k callerA)
 (hY:∀(w:World) (h:Heap),YP w h→(K w.params).In h) (hT:∀(w:World) (h:Heap),YP w h→h.get? tp=some (tabObj #[])) (hKt:∀w:World,(K w.params).lookup tp=none)
 (F:∀(w:World) (mg:Str→Option Value) (fa:Addr) (h:Heap),(K w.params).In h→h.Ns mainGlobals mg→mg d.name=some (.ref fa)→
  (∃c,codeHdIn (K w.params) c tp=true)∧∃fd:FuncData,(∀(s:Shared) (u:Value),BindsTo s fd ⟨[u],[]⟩ [(x,u)])∧
   ∀base:Heap,(K w.params).In base→base.Ns mainGlobals mg→base.BuiltinsAt mg tp→Al l.prog w (K w.params) mg base CX k fa fd [x] (sp (K w.params)))
 (hsp:∀(K:PySem.W.Frag) (H:Hp) (a:Addr) (ns:List Int),ns.length≤n→J26 tp H→SqL K H a (ns.map V.int)→sp K [.ref a] H (fun v _=>v= .bl true) fun _ _ _=>False)
 (hCX:∀(H:Hp) (s:Shared) (e:Value) (s':Shared),CX [] H s (fun _ _ _=>False) e s'→False):
 PySem.W.WalkO q loose XP YP l.row.toRowW d [] (fun f vs=>PySem.call f vs):=by
 refine Att.Qk hn hdf fun w s₀ s₁ mg mb fa o pm cd doc a vs ns G Y ho hd hcd hmg hobj hints hlen hg=>?_;have KX:=hY w _ Y;obtain ⟨⟨c,hc⟩,fd,hb,hF⟩:=F w mg fa _ KX G.T.g hmg
 have hct:isCodeTable s₁.heap tp:=by
  obtain ⟨o,vs,f,tf,fl,tg,b,n,tt,e1,e2,e3,e4,_⟩:=codeHd_of_K KX hc;exact ⟨c,o,vs,e1,e2,e3,e4⟩
 exact Xx KX G.T.g G.T.b G.T.builtins G.T.nolimit hg hobj hints (Nat.le_trans hlen hn2) hr (hT w _ Y) hct (hKt w) G.T.bmain hF hb (fun H hO hS=>hsp (K w.params) H a ns hlen hO hS) fun H e s'=>hCX H s₁ e s'
section
variable {X:Cx} {pins:List (Addr×Obj)} {σ:List (Option V)} {H H':Hp} {s:Shared} {h':Heap}
theorem Inv.grown{t':Nat}{tp:Addr}{ps more:Array Value}(I:Inv X pins σ H s)(ht:H tp=some (.tbl ps))(k:∀b u,b≠tp→s.heap.get? b=some u→h'.get? b=some u)(e:h'.get? tp=some (tabObj (ps++more)))
 (hT:H' tp=some (.tbl (ps++more))) (old:∀b,b≠tp→b < s.heap.objs.size→H' b=H b) (new:∀b u,s.heap.objs.size≤b→H' b=some u→Bg X.prog X.w H' h' b u):Inv X pins σ H' {s with heap:=h',toks:=t'}:=by
 have lt:∀b u,H b=some u→b < s.heap.objs.size:=fun b u q=>(I.hok b u q).lt
 have nt:∀b u,H b=some u→(∀ps,u≠ .tbl ps)→b≠tp:=fun b u q n z=>by rw [z,ht]at q;cases q;exact n _ rfl
 have st:∀b u,H b=some u→b≠tp→H' b=some u:=fun b u q n=>by rw [old b n (lt b u q)];exact q
 refine I.un ⟨fun b o q n _ _=>k b o (fun z=>by rw [z,ht]at n;cases n) q,fun b o q n _ _=>⟨o.slots,k b o (fun z=>by rw [z,ht]at n;cases n) q⟩,fun b o q n _=>?_,fun b o q _=>?_,fun b xs q=>st b _ q (nt b _ q fun _ z=>by cases z),fun b o u q=>st b _ q (nt b _ q fun _ z=>by cases z),fun b ps' q=>?_⟩ fun b u q=>?_
 · rw [old b (fun z=>by rw [z,ht]at n;cases n) (Heap.lt_size q)];exact n
 · by_cases z:b=tp
   · subst z;exact ⟨_,e⟩
   · exact ⟨o,k b o z q⟩
 · by_cases z:b=tp
   · subst z;rw [ht]at q;cases q;exact ⟨more,hT⟩
   · exact ⟨#[],by rw [st b _ q z];simp⟩
 · by_cases z:b=tp
   · subst z;rw [hT]at q;cases q;exact e
   · by_cases hb:b < s.heap.objs.size
     · have q0:H b=some u:=by rw [← old b z hb];exact q
       refine (I.hok b u q0).stay (fun c v hc r=>k c v (fun w'=>?_) r) (fun c r=>st c _ r (nt c _ r fun _ z=>by cases z)) fun c xs r=>st c _ r (nt c _ r fun _ z=>by cases z);rcases hc with rfl | hc
       · exact z w'
       · rw [w',ht]at hc;cases hc
     · exact new b u (Nat.le_of_not_lt hb) q
end
def Nm(c:Addr)(qual:Str):HO:= .ext fun h=>h.CodeRec (.ref c) qual
def fnO(f:Addr)(o:Obj):HO:= .ext fun h=>h.get? f=some o
theorem J27{P:Program}{w:World}{H:Hp}{h:Heap}{c:Addr}{qual:Str}(x:h.CodeRec (.ref c) qual):Bg P w H h c (Nm c qual):=by
 refine ⟨x,?_,fun h1 h2 y k=>?_⟩
 · obtain ⟨c',oc,vs,tq,e,hoc,_⟩:=x
   cases e;exact ⟨oc,hoc⟩
 · obtain ⟨c',oc,vs,tq,e,hoc,r⟩:=y
   cases e;exact ⟨_,oc,vs,tq,rfl,k _ hoc,r⟩
theorem J28{P:Program}{w:World}{H:Hp}{h:Heap}{f:Addr}{o:Obj}(x:h.get? f=some o):Bg P w H h f (fnO f o):=⟨x,⟨o,x⟩,fun _ _ y k=>k _ y⟩
def D5(tp:Addr)(pos:Pos)(qual:Str)(H:Hp):Prop:=H tp=some (.tbl #[])∨∃c,H tp=some (.tbl #[rawInt pos.line,rawInt pos.col,.ref c])∧H c=some (Nm c qual)
def J92(tp:Addr)(pos:Pos)(qual:Str)(fo:Addr→Value→Obj):TE:=fun _ H Q=>D5 tp pos qual H∧∀f c ct H',H f=none→N1.SameBut tp H H'→D5 tp pos qual H'→H' c=some (Nm c qual)→H' f=some (fnO f (fo c ct))→Q (.ref f) H'
def J93(K:PySem.W.Frag)(f tp:Addr):Prop:=∃(oc:Value) (od:Option Addr) (fd:FuncData) (sl:Array (Option Value)) (c:Addr),K.lookup f=some ⟨oc,od,.func fd,sl⟩∧fd.code= .ref c∧codeHdIn K c tp=true
section
variable {P:Program} {w:World} {K:PySem.W.Frag} {mg:Str→Option Value} {base:Heap}
theorem Fun.okC{x qual:Str}{st:Stmt}{f tp:Addr}{fd:FuncData}{N ps:List Str}{k:Nat}{sp:Sp}(F:Fun K x qual st f fd)(M:J93 K f tp)(S:A9 N ps (A7 st))(len:∀vs H Q E,sp vs H Q E→vs.length=ps.length)
 (hbody:∀(c:Addr) (A:Around) (outer:List Env) (s:Shared) (H:Hp) (vs:List V) (Q:VK) (E:XK),codeHdIn K c tp=true→Br k (A.deeper (envOfC qual (A7 st) s.heap.objs.size f (.ref c)))→sp vs H Q E→
  ∃t,PSs (Qg CX0 P w K mg base N qual (A7 st) f (.ref c) A outer s H E).nox (Be st) t∧t {nx:=fun _ H'=>Q .non H',rt:=Q} (start N vs) H):Al P w K mg base CX0 (k+1) f fd ps sp:=by
 obtain ⟨oc,od,kV,doc,pm,an,cdv,ct,osl,rfl,lk,hcd⟩:=F.ex;obtain ⟨oc',od',fd',sl',c,lk',e,hc⟩:=M;rw [lk]at lk';cases lk';have e:cdv= .ref c:=e;subst e;refine J5g lk hcd S len fun A outer s H vs Q E hr hsp=>?_;obtain ⟨t,h,q⟩:=hbody c A outer s H vs Q E hc hr hsp;exact ⟨t,h.nox,q⟩
end
theorem J29{tp:Addr}{pos:Pos}{qual:Str}{fo:Addr→Value→Obj}{σ:St}{H:Hp}{Q:VK}:J92 tp pos qual fo σ H Q=(D5 tp pos qual H∧∀f c ct H',H f=none→N1.SameBut tp H H'→D5 tp pos qual H'→H' c=some (Nm c qual)→H' f=some (fnO f (fo c ct))→Q (.ref f) H'):=rfl
end L2
namespace L2
open PySem.W
def E3(c:Addr)(o:Obj):HO:= .frz o (.ext fun h=>h.get? c=some o)
theorem Wi{P:Program}{w:World}{H:Hp}{h:Heap}{c:Addr}{o:Obj}(e:h.get? c=some o):Bg P w H h c (E3 c o):=⟨e,e,⟨o,e⟩,fun _ _ y k=>k _ y⟩
structure Pt where
 qual:Str
 args:Arguments
 body:Expr
 scope:Scope
abbrev J7d(L:Pt)(cl:List (Str×Addr))(pm:Value)(cd:Addr)(ct:Value):Obj:=kla_obj "<lambda>" L.qual L.args L.body L.scope cl pm cd ct
def Sx(L:Pt)(cl:List (Str×Addr))(H:Hp)(f:Addr):Prop:=∃pm cd ct,H f=some (fnO f (J7d L cl pm cd ct))∧H cd=some (Nm cd L.qual)
def Cf(H:Hp)(cl:List (Str×Addr))(vs:List V):Prop:=Paired (fun (p:Str×Addr) (v:V)=>∃o u,H p.2=some (E3 p.2 o)∧o.data= .cell (some u)∧Ao v u) cl vs
theorem Sx.same{L:Pt}{cl:List (Str×Addr)}{H H':Hp}{f:Addr}(s:A6 H H')(h:Sx L cl H f):Sx L cl H' f:=let ⟨pm,cd,ct,a,b⟩:=h;⟨pm,cd,ct,s _ _ a,s _ _ b⟩
theorem Cf.same{cl:List (Str×Addr)}{H H':Hp}{vs:List V}(s:A6 H H')(h:Cf H cl vs):Cf H' cl vs:=Paired.mapP h fun p v ⟨o,u,a,b⟩=>⟨o,u,s _ _ a,b⟩
theorem Cf.get{H:Hp}:∀{cl:List (Str×Addr)} {vs:List V},Cf H cl vs→∀p∈cl,∃o u,H p.2=some (E3 p.2 o)∧o.data= .cell (some u)
 | _,_,.nil,_,h=>by cases h
 | _,_,.cons ⟨o,u,a,b,_⟩ t,p,h=>by
  rcases List.mem_cons.mp h with rfl | h
  · exact ⟨o,u,a,b⟩
  · exact Cf.get t p h
theorem Cf.ix{H:Hp}:∀{cl:List (Str×Addr)} {vs:List V} {i:Nat} {v:V},Cf H cl vs→vs[i]?=some v→∃p o u,cl[i]?=some p∧H p.2=some (E3 p.2 o)∧o.data= .cell (some u)∧Ao v u
 | _,_,_,_,.nil,h=>by cases h
 | _,_,0,v,.cons ⟨o,u,a,b,c⟩ t,h=>by
  simp at h;subst h;exact ⟨_,o,u,rfl,a,b,c⟩
 | _,_,i+1,v,.cons _ t,h=>by
  obtain ⟨p,o,u,e,r⟩:=Cf.ix (i:=i) (v:=v) t (by simpa using h);exact ⟨p,o,u,by simpa using e,r⟩
def unk(H:Hp)(as:List Addr):Hp:=fun b=>if b∈as then none else H b
def retr(H H0:Hp)(as:List Addr):Hp:=fun b=>if b∈as then H0 b else H b
section
variable {H H0:Hp} {as:List Addr} {b:Addr}
theorem Ln(h:b∈as):unk H as b=none:=if_pos h
theorem C7(h:b∉as):unk H as b=H b:=if_neg h
theorem Gz(h:b∈as):retr H H0 as b=H0 b:=if_pos h
theorem D6(h:b∉as):retr H H0 as b=H b:=if_neg h
theorem Ea(h:H b=none):unk H as b=none:=by
 by_cases z:b∈as
 · exact Ln z
 · rw [C7 z];exact h
theorem Sy{o:HO}(h:unk H as b=some o):b∉as∧H b=some o:=by
 by_cases z:b∈as
 · rw [Ln z]at h;cases h
 · rw [C7 z]at h;exact ⟨z,h⟩
end
structure Eb(N ps:List Str)(sc:Scope)(cl:List (Str×Addr)):Prop where
 kind:sc.kind= .function
 co:sc.isCoroutine=false
 gen:sc.isGenerator=false
 nd:(ps++cl.map (·.1)).Nodup
 N:N=ps++cl.map (·.1)
 par:∀x∈ps,sc.names.lookup x=some .local
 nocell:∀y∈sc.names,y.2≠ .cell
 fr:∀x,sc.names.lookup x=some .free→∃c,cl.lookup x=some c
 frk:∀p∈cl,sc.names.lookup p.1=some .free
 inj:∀x y c,cl.lookup x=some c→cl.lookup y=some c→x=y
def cxL(P:Program)(w:World)(K:PySem.W.Frag)(mg:Str→Option Value)(base:Heap)(N:List Str)(qual:Str)(scope:Scope)(f:Addr)(cd:Value)(A:Around)(outer:List Env)(s:Shared)(H:Hp)(cl:List (Str×Addr)):Cx where
 prog:=P
 w:=w
 K:=K
 mg:=mg
 base:=base
 A:=A.deeper (envX qual scope s.heap.objs.size f cd cl)
 N:=N
 s₀:=s
 H₀:=H
 env:=envX qual scope s.heap.objs.size f cd cl
 outer:=outer
 stack:=envX qual scope s.heap.objs.size f cd cl::outer
 ex:=[]
 calm:=true
 fn:=fun _=>false
 pn:=[]
 xe:=fun _ _=>False
theorem J4o{x:Str}{u:Value}:∀{l:List (Str×Value)},(l.map (·.1)).Nodup→(x,u)∈l→l.lookup x=some u:=by
 intro l
 induction l with
 | nil=>intro _ h;cases h
 | cons p r ih=>
  intro nd h;rw [List.map_cons,List.nodup_cons]at nd;rcases List.mem_cons.mp h with e | h
  · rw [← e,List.lookup_cons_self]
  · have n:x≠p.1:=fun e=>nd.1 (List.mem_map.mpr ⟨_,h,e⟩)
    rw [List.lookup_cons,show (x==p.1)=false from beq_eq_false_iff_ne.mpr n];exact ih nd.2 h
theorem J2a{x:Str}{u:Value}:∀{ps:List Str} {us:List Value} {i:Nat},ps.Nodup→ps[i]?=some x→us[i]?=some u→(ps.zip us).reverse.lookup x=some u:=by
 intro ps us i nd h1 h2;refine J4o ?_ ?_
 · rw [List.map_reverse]
   refine (List.reverse_perm _).nodup_iff.mpr ?_
   have key:∀(ps:List Str) (us:List Value),((ps.zip us).map (·.1)).Sublist ps:=by
    intro ps
    induction ps with
    | nil=>intro us;cases us <;> exact List.Sublist.refl _
    | cons p r ih=>
     intro us
     cases us with
     | nil=>exact List.nil_sublist _
     | cons u v=>exact (ih v).cons₂ p
   exact nd.sublist (key ps us)
 · rw [List.mem_reverse]
   exact List.mem_of_getElem? (i:=i) (by rw [List.getElem?_zip_eq_some];exact ⟨h1,h2⟩)
section
variable {P:Program} {w:World} {K:PySem.W.Frag} {mg:Str→Option Value} {base:Heap}
theorem J4p{k:Nat}{f:Addr}{L:Pt}{cl:List (Str×Addr)}{pm ct:Value}{cd:Addr}{N ps:List Str}{A:Around}{outer:List Env}{s:Shared}{H:Hp}{us:List Value}{vs fvs:List V}{Q:VK}{E:XK}
 (S:Eb N ps L.scope cl) (hb:bindArgs (kla_fn "<lambda>" L.qual L.args L.body L.scope cl pm (.ref cd) ct) ⟨us,[]⟩=pure (ps.zip us)) (hr:Br (k+1) A) (e0:Ke P w K mg base A outer s H) (r:Aw vs us) (hl:vs.length=ps.length)
 (hf:H f=some (fnO f (J7d L cl pm cd ct))) (hc:H cd=some (Nm cd L.qual)) (hcs:Cf H cl fvs)
 (hbody:∃t,PE (cxL P w K mg base N L.qual L.scope f (.ref cd) A outer s (unk H (cl.map (·.2))) cl) L.body t∧t (vs.map some++fvs.map some) (unk H (cl.map (·.2))) fun v H'=>(∀c∈cl.map (·.2),H' c=none)→Q v (retr H' H (cl.map (·.2)))):
 codeAny (model P w) A (.call (.ref f) ⟨us,[]⟩) (CR CX0 outer P w H s Q E) s:=by
 have hf1:s.heap.get? f=some (J7d L cl pm cd ct):=(e0.hok f _ hf).1;have hc1:s.heap.CodeRec (.ref cd) L.qual:=(e0.hok cd _ hc).1;have lim:s.heap.NoLimit:=e0.mod.nolimit.keeps fun b o e=>(e0.bs b o e).1
 have hcm:∀c∈cl.map (·.2),∃o u,H c=some (E3 c o)∧o.data= .cell (some u)∧s.heap.get? c=some o:=fun c h=>by
  obtain ⟨p,hp,rfl⟩:=List.mem_map.mp h;obtain ⟨o,u,a,b⟩:=hcs.get p hp;exact ⟨o,u,a,b,(e0.hok _ _ a).1⟩
 have nfs:∀c∈cl.map (·.2),c∉frs outer:=fun c h z=>by
  obtain ⟨o,u,a,_⟩:=hcm c h;rw [e0.frf c z]at a;cases a
 refine kla_callFunE hr.depth hf1 rfl S.co S.gen rfl hc1 ?_;rw [hb];refine wpAny_pure (wpAny_newFunctionEnv S.nocell (fun y hy=>S.par y.1 (List.of_mem_zip hy).1) (fun h₁ hns hsb=>?_) S.kind);have kp:∀b o,s.heap.get? b=some o→h₁.get? b=some o:=fun b o e=>hsb.extBut b o (Nat.ne_of_lt (Heap.lt_size e)) (Heap.get?_push_of_some _ e);refine ⟨lim.keeps kp,?_⟩;show codeAny _ _ (.expr L.body (envX L.qual L.scope s.heap.objs.size f (.ref cd) cl)) _ _;obtain ⟨t,ht,hq⟩:=hbody;have noA:∀b:Addr,b∉(cxL P w K mg base N L.qual L.scope f (.ref cd) A outer s (unk H (cl.map (·.2))) cl).ex:=fun b z=>absurd (show b∈([]:List Addr) from z) (by simp);have cin:∀x c,cl.lookup x=some c→c∈cl.map (·.2):=fun x c e=>List.mem_map.mpr ⟨(x,c),PySem.mem_of_lookup e,rfl⟩
 have hok1:HOk P w (unk H (cl.map (·.2))) h₁:=fun b o e=>by
  obtain ⟨nb,e⟩:=Sy e;refine (e0.hok b o e).stay (fun c v _ q=>kp c v q) (fun c q=>?_) fun c xs q=>?_
  · rw [C7 fun z=>?_]
    · exact q
    · obtain ⟨o',_,a,_⟩:=hcm c z
      rw [a]at q;cases q
  · rw [C7 fun z=>?_]
    · exact q
    · obtain ⟨o',_,a,_⟩:=hcm c z
      rw [a]at q;cases q
 have I:Inv (cxL P w K mg base N L.qual L.scope f (.ref cd) A outer s (unk H (cl.map (·.2))) cl) [] (vs.map some++fvs.map some) (unk H (cl.map (·.2))) {s with heap:=h₁,toks:=s.toks+(ps.zip us).length}:=by
  refine ⟨⟨e0.mod,S.kind,rfl,rfl,Nat.le_refl _,S.inj,fun y hy=>?_,fun y c h=>(by cases h),fun _=>hr.hd,Around.frames_deeper e0.frames,.inr ⟨rfl,rfl⟩,fun b z=>absurd z (noA b),fun b o e=>⟨(e0.bs b o e).1,Ea (e0.bs b o e).2⟩,e0.bsz,fun b _ _=>noA b,fun b z=>absurd z (noA b),e0.funs,fun b z=>Ea (e0.frf b z)⟩,
   rfl,e0.bare,Un.kept kp,⟨_,hns,fun i x v h1 h2 _=>?_⟩,fun y c h=>?_,Ea (e0.hok.fresh (Nat.le_refl _)),fun y c h=>Ln (cin y c h),fun p hp=>absurd (show p∈([]:List (Addr×Obj)) from hp) (by simp),hok1,?_⟩
  · have hy:L.scope.names.lookup y=some .cell∨L.scope.names.lookup y=some .free:=hy
    rcases hy with hy | hy
    · exact absurd rfl (S.nocell _ (PySem.mem_of_lookup hy))
    · exact S.fr y hy
  · have h1:N[i]?=some x:=h1
    rw [S.N]at h1
    by_cases hi:i < ps.length
    · rw [List.getElem?_append_left hi]at h1
      rw [List.getElem?_append_left (by rw [List.length_map];omega),List.getElem?_map]at h2
      cases e:vs[i]? with
      | none=>rw [e]at h2;cases h2
      | some a=>
       rw [e]at h2;cases h2;obtain ⟨u,hu,rv⟩:=r.get e;exact ⟨u,rv,.inl ⟨S.par x (List.mem_of_getElem? h1),J2a (S.nd.sublist (List.sublist_append_left ..)) h1 hu⟩⟩
    · rw [List.getElem?_append_right (by omega),List.getElem?_map]at h1
      rw [List.getElem?_append_right (by rw [List.length_map];omega),List.length_map,List.getElem?_map,hl]at h2
      cases e:fvs[i - ps.length]? with
      | none=>rw [e]at h2;cases h2
      | some a=>
       rw [e]at h2;cases h2;obtain ⟨p,o,u,hp,a,b,rv⟩:=hcs.ix e;rw [hp]at h1;cases h1;have hm:=List.mem_of_getElem? hp;refine ⟨u,rv,.inr ⟨.inr (S.frk p hm),p.2,lookup_of_mem_nodup (S.nd.sublist (List.sublist_append_right ..)) hm,o,kp _ _ (e0.hok _ _ a).1,b⟩⟩
  · obtain ⟨o,u,_,b,e⟩:=hcm c (cin y c h)
    exact ⟨some u,o,kp _ _ e,b⟩
  · show _=N.length
    rw [S.N,List.length_append,List.length_append,List.length_map,List.length_map,List.length_map,hl];have:=Paired.length hcs;omega
 refine kla_codeExpr (wpAny_mono (ht [] _ _ _ _ I hq) (fun v s' hq_=>?_) fun e s' z=>False.elim z);obtain ⟨x,H',J,rx,q⟩:=hq_;have ub:Un (frs outer) [] (unk H (cl.map (·.2))) H' s.heap s'.heap:=J.base
 have hc0:∀c∈cl.map (·.2),H' c=none:=fun c h=>by
  obtain ⟨o,u,_,_,e⟩:=hcm c h;exact ub.free c o e (Ln h) (by simp)
 refine ⟨x,retr H' H (cl.map (·.2)),J.os,J.bare,⟨fun b o e n hb hx=>ub.keep b o e (Ea n) hb hx,fun b o e n hb hx=>ub.slot b o e (Ea n) hb hx,fun b o e n hx=>?_,ub.there,fun b xs e=>?_,fun b o u e=>?_,fun b pp e=>?_⟩,fun b o e=>?_,rx,q hc0⟩
 · by_cases z:b∈cl.map (·.2)
   · rw [Gz z];exact n
   · rw [D6 z];exact ub.free b o e (Ea n) hx
 · by_cases z:b∈cl.map (·.2)
   · rw [Gz z];exact e
   · rw [D6 z];exact ub.tups b xs (by rw [C7 z];exact e)
 · by_cases z:b∈cl.map (·.2)
   · rw [Gz z];exact e
   · rw [D6 z];exact ub.frzs b o u (by rw [C7 z];exact e)
 · by_cases z:b∈cl.map (·.2)
   · rw [Gz z];exact ⟨#[],by rw [e];simp⟩
   · rw [D6 z];exact ub.tbls b pp (by rw [C7 z];exact e)
 · by_cases z:b∈cl.map (·.2)
   · rw [Gz z]at e
     obtain ⟨ob,u,a,_,e2⟩:=hcm b z;rw [a]at e;cases e;exact Wi (ub.keep b ob e2 (Ln z) (nfs b z) (by simp))
   · rw [D6 z]at e
     refine (J.hok b o e).stay (fun c v _ q=>q) (fun c q=>?_) fun c xs q=>?_
     · rw [D6 fun z=>?_]
       · exact q
       · rw [hc0 c z]at q;cases q
     · rw [D6 fun z=>?_]
       · exact q
       · rw [hc0 c z]at q;cases q
structure Ov(P:Program)(w:World)(K:PySem.W.Frag)(mg:Str→Option Value)(base:Heap)(CX:CXT)(k:Nat)(f:Addr)(J:Hp→Prop)(sp:Sp):Prop where
 fnd:PySem.W.keepIn K (.ref f)=true∨∀(H:Hp) (h:Heap),HOk P w H h→J H→FnAt f h
 run:∀(A:Around) (outer:List Env) (s:Shared) (H:Hp) (us:List Value) (vs:List V) (Q:VK) (E:XK),Br k A→Ke P w K mg base A outer s H→Aw vs us→J H→sp vs H Q E→codeAny (model P w) A (.call (.ref f) ⟨us,[]⟩) (CR CX outer P w H s Q E) s
theorem Ov.ofLam{k:Nat}{L:Pt}{cl:List (Str×Addr)}{fvs:List V}{N ps:List Str}{sp:Sp}{f:Addr}{J:Hp→Prop}(S:Eb N ps L.scope cl)
 (hb:∀(pm ct cd:Value) (us:List Value),us.length=ps.length→bindArgs (kla_fn "<lambda>" L.qual L.args L.body L.scope cl pm cd ct) ⟨us,[]⟩=pure (ps.zip us)) (len:∀vs H Q E,sp vs H Q E→vs.length=ps.length) (hJ:∀H,J H→Sx L cl H f∧Cf H cl fvs)
 (hbody:∀(cd:Addr) (A:Around) (outer:List Env) (s:Shared) (H:Hp) (vs:List V) (Q:VK) (E:XK),Br k (A.deeper (envX L.qual L.scope s.heap.objs.size f (.ref cd) cl))→J H→sp vs H Q E→∃t,PE (cxL P w K mg base N L.qual L.scope f (.ref cd) A outer s (unk H (cl.map (·.2))) cl) L.body t∧t (vs.map some++fvs.map some) (unk H (cl.map (·.2))) fun v H'=>(∀c∈cl.map (·.2),H' c=none)→Q v (retr H' H (cl.map (·.2)))):
 Ov P w K mg base CX0 (k+1) f J sp:=by
 refine ⟨.inr fun H h ok j=>?_,fun A outer s H us vs Q E hr e0 r j h=>?_⟩
 · obtain ⟨⟨pm,cd,ct,a,_⟩,_⟩:=hJ H j
   exact ⟨_,_,_,_,(ok f _ a).1⟩
 · obtain ⟨⟨pm,cd,ct,a,b⟩,c⟩:=hJ H j
   have hl:=len _ _ _ _ h;exact J4p S (hb _ _ _ us (by rw [← r.length];exact hl)) hr e0 r hl a b c (hbody cd A outer s H vs Q E (hr.deeper _) j h)
end
def J2b{ι:Type}(fa:ι→Addr)(J:ι→Hp→Prop)(sp:ι→Sp)(E:XK)(tv:TE)(t:TA):TE:=fun σ H Q=>tv σ H fun x H1=>∃b,x= .ref (fa b)∧J b H1∧t σ H1 fun vs H2=>J b H2∧sp b vs H2 Q E
section
variable {ι:Type} {X:Cx} {CX:CXT} {k j:Nat} {fa:ι→Addr} {J:ι→Hp→Prop} {sp:ι→Sp} {E:XK} {x:Str} {p pos:Pos} {e:Expr} {es:List Expr} {tv:TE} {t:TA}
theorem J2c(D:∀b,Ov X.prog X.w X.K X.mg X.base CX j (fa b) (J b) (sp b))(hr:Br k X.A)(hx:Lf CX X E)(hv:PE X (.Name x p) tv)(ha:PA X (e::es) t)(hj:j≤k:=by decide)
 (he:starEach (e::es) X.env=(false,eval e X.env)::starEach es X.env:=by rfl) (hpl:(backTo pos (starEach es X.env)).any (·.1)=false:=by rfl):
 PE X (.Call (.Name x p) (e::es) [] pos) (J2b fa J sp E tv t):=by
 intro pins s σ H Q I h;refine wpAny_Call_Name_kw (thn (hv pins s σ H _ I h) fun u s1 hq_=>?_);obtain ⟨y,H1,I1,ry,b,ey,j1,q1⟩:=hq_;subst ey;obtain rfl:u=Value.ref (fa b):=ry
 have go:∀(us:List Value) (s2:Shared) (vs:List V) (H2:Hp),Inv X pins σ H2 s2→Aw vs us→J b H2→sp b vs H2 Q E→wpAny (model X.prog X.w) X.A (call (.ref (fa b)) us) (EP X pins σ Q) X.xe s2:=fun us s2 vs H2 I2 r j2 q2=>by
  refine wpAny_call (codeAny_mono ((D b).run X.A X.stack s2 H2 us vs Q E (hr.mono hj) I2.env0 r j2 q2) fun r s' hq=>?_)
  cases r with
  | error e=>exact hx pins σ H2 s2 e s' I2 hq
  | ok fl=>
   cases fl with
   | ret u=>exact I2.after hq
   | next=>exact False.elim hq
   | brk=>exact False.elim hq
   | cont=>exact False.elim hq
 rcases (D b).fnd with hk | hk
 · refine PySem.W.callWith_K (h₀:=X.base) I.ok.mod.kin hk (thn (ha pos pins s1 σ H1 _ I1 q1) fun us s2 ⟨vs,H2,I2,r,j2,q2⟩=>⟨I2.kIn,go us s2 vs H2 I2 r j2 q2⟩) he hpl
 · refine callWith_F (hk _ _ I1.hok j1) (thn (ha pos pins s1 σ H1 _ I1 q1) fun us s2 ⟨vs,H2,I2,r,j2,q2⟩=>⟨hk _ _ I2.hok j2,go us s2 vs H2 I2 r j2 q2⟩) he hpl
theorem Sz{σ:St}{H:Hp}{Q:VK}:J2b fa J sp E tv t σ H Q=tv σ H fun x H1=>∃b,x= .ref (fa b)∧J b H1∧t σ H1 fun vs H2=>J b H2∧sp b vs H2 Q E:=rfl
end
def J9l(s:Stmt):Expr:=match s with
 | .Return (some e) _=>e
 | _=> .Constant .none 0 ⟨0,0,0,0⟩
def J94(qual:Str)(e:Expr):Pt:=match e with
 | .Lambda a b s _=>⟨qual,a,b,s⟩
 | _=>⟨qual,Bk (.Pass ⟨0,0,0,0⟩),e,A7 (.Pass ⟨0,0,0,0⟩)⟩
theorem Eb.mk1{ps:List Str}{sc:Scope}{x:Str}{c:Addr}(kind:sc.kind= .function)(co:sc.isCoroutine=false)(gen:sc.isGenerator=false)(nd:(ps++[x]).Nodup)(par:∀y∈ps,sc.names.lookup y=some .local)(nocell:∀y∈sc.names,y.2≠ .cell)
 (fr:∀y∈sc.names,y.2= .free→y.1=x) (frk:sc.names.lookup x=some .free):Eb (ps++[x]) ps sc [(x,c)]:=by
 refine ⟨kind,co,gen,nd,rfl,par,nocell,fun y hy=>⟨c,?_⟩,fun p hp=>?_,fun y z d h1 h2=>?_⟩
 · have e:y=x:=fr _ (PySem.mem_of_lookup hy) rfl
   rw [e,List.lookup_cons_self]
 · rw [List.mem_singleton.mp hp];exact frk
 · have e1:=List.mem_singleton.mp (PySem.mem_of_lookup h1)
   have e2:=List.mem_singleton.mp (PySem.mem_of_lookup h2);rw [(Prod.mk.inj e1).1,(Prod.mk.inj e2).1]
end L2
namespace L2
open PySem.W
section
variable {X:Cx}
theorem J4q{cl:List (Str×Addr)}{args:Arguments}{body:Expr}{scope:Scope}{pos:Pos}{c tp:Addr}(hdef:defaultsOf args X.env=([],[]))(hcl:closureFor scope X.env=pure cl)(hcode:X.env.code= .ref c)(hc:codeHdIn X.K c tp=true)(hne:mainGlobals≠tp)
 (hB:X.base.BuiltinsAt X.mg tp):
 PE X (.Lambda args body scope pos) (J92 tp pos (X.env.qual++"<lambda>") fun c ct=>kla_obj "<lambda>" (X.env.qual++"<lambda>") args body scope cl ((X.mg "__name__").getD .none) c ct):=by
 intro pins s σ H Q I h;obtain ⟨hL,q⟩:=h;have C:CodeHd s.heap c tp:=codeHd_of_K I.kIn hc;have G:s.heap.Ns mainGlobals X.mg:=I.mod.glob.keeps I.bk;have B:s.heap.BuiltinsAt X.mg tp:=hB.keeps I.bk;refine kla_eval hdef ?_;rcases hL with hE | ⟨c',hE,hc'⟩
 · have hP:s.heap.get? tp=some (tabObj #[]):=I.hok tp _ hE
   have ltt:=Heap.lt_size hP;refine kla_makeFunction hcl I.ok.glob G hcode C hP (by first | trivial | exact .nil | simp [TriplesOk]) rfl hne B fun c' ctv h' tk hx hge hlt hrec htab=>?_;have ncf:c'≠h'.objs.size:=Nat.ne_of_lt hlt;have ltc:tp < c':=Nat.lt_of_lt_of_le ltt hge;have szf:s.heap.objs.size≤h'.objs.size:=Nat.le_trans hge (Nat.le_of_lt hlt);have ntf:tp≠h'.objs.size:=Nat.ne_of_lt (Nat.lt_trans ltc hlt);have ntc:tp≠c':=Nat.ne_of_lt ltc;generalize hF:(kla_obj "<lambda>" (X.env.qual++"<lambda>") args body scope cl ((X.mg "__name__").getD .none) c' ctv)=fo
   have I2:Inv X pins σ (upd (upd (upd H tp (.tbl #[rawInt pos.line,rawInt pos.col,.ref c'])) c' (Nm c' (X.env.qual++"<lambda>"))) h'.objs.size (fnO h'.objs.size fo)) {s with heap:=h'.push fo,toks:=tk}:=by
    refine I.grown (more:=#[rawInt pos.line,rawInt pos.col,.ref c']) hE (fun b u nb e=>Heap.get?_push_of_some _ (hx b u nb e)) (Heap.get?_push_of_some _ htab) ?_ (fun b nb lb=>?_) fun b u lb e=>?_
    · rw [A5 ntf,A5 ntc];exact A1
    · rw [A5 (Nat.ne_of_lt (Nat.lt_of_lt_of_le lb szf)),A5 (Nat.ne_of_lt (Nat.lt_of_lt_of_le lb hge)),A5 nb]
    · by_cases e1:b=h'.objs.size
      · subst e1
        rw [A1]at e;cases e;exact J28 (Heap.get?_push_size _ (by rw [← hF];rfl))
      · rw [A5 e1]at e
        by_cases e2:b=c'
        · subst e2
          rw [A1]at e;cases e;obtain ⟨c2,oc,vs,tq,ec,hoc,r⟩:=hrec;exact J27 ⟨c2,oc,vs,tq,ec,Heap.get?_push_of_some _ hoc,r⟩
        · rw [A5 e2,A5 (fun z=>by rw [z]at lb;exact Nat.lt_irrefl _ (Nat.lt_of_lt_of_le ltt lb)),I.hok.fresh lb]at e
          cases e
   refine ⟨.ref h'.objs.size,_,I2,rfl,q _ c' ctv _ (I.hok.fresh szf) (fun b o e nb=>?_) (.inr ⟨c',?_,?_⟩) ?_ (by rw [A1,← hF])⟩
   · have lb:=(I.hok b o e).lt
     rw [A5 (Nat.ne_of_lt (Nat.lt_of_lt_of_le lb szf)),A5 (Nat.ne_of_lt (Nat.lt_of_lt_of_le lb hge)),A5 nb];exact e
   · rw [A5 ntf,A5 ntc];exact A1
   · rw [A5 ncf];exact A1
   · rw [A5 ncf];exact A1
 · have hP:s.heap.get? tp=some (tabObj #[rawInt pos.line,rawInt pos.col,.ref c']):=I.hok tp _ hE
   have ltt:=Heap.lt_size hP;have ltc:=(I.hok c' _ hc').lt;refine kla_makeFunctionHit (cv:= .ref c') hcl I.ok.glob G hcode C hP (by simp [TriplesOk,rawInt]) (by simp [codeAmong,rawInt]) B fun ctv h' tk hk hsz=>?_;generalize hF:({cls:= .type "function",data:= .func (kla_fn "<lambda>" (X.env.qual++"<lambda>") args body scope cl ((X.mg "__name__").getD .none) (.ref c') ctv)}:Obj)=fo;have I2:=I.laid (a:=h'.objs.size) (o:=fnO h'.objs.size fo) (t':=tk) (h':=h'.push fo) (fun b u e=>Heap.get?_push_of_some _ (hk b u e)) hsz (J28 (Heap.get?_push_size _ (by rw [← hF];rfl)));have nw:=I.hok.fresh hsz
   have sm:∀b o,H b=some o→upd H h'.objs.size (fnO h'.objs.size fo) b=some o:=fun b o e=>by rw [A5 (Ab e nw)];exact e
   exact ⟨.ref h'.objs.size,_,I2,rfl,q _ c' ctv _ nw (fun b o e _=>sm b o e) (.inr ⟨c',sm _ _ hE,sm _ _ hc'⟩) (sm _ _ hc') (by rw [A1,← hF])⟩
end
theorem HOk.lend{P:Program}{w:World}{H:Hp}{h:Heap}{c:Addr}{o:Obj}(ok:HOk P w H h)(n:H c=none)(e:h.get? c=some o):HOk P w (upd H c (E3 c o)) h:=fun b u q=>by
 by_cases z:b=c
 · subst z
   rw [A1]at q;cases q;exact Wi e
 · rw [A5 z]at q
   exact (ok b u q).stay (fun d ob _ q=>q) (fun d q=>by rw [A5 (Ab q n)];exact q) fun d xs q=>by rw [A5 (Ab q n)];exact q
theorem HOk.back{P:Program}{w:World}{H:Hp}{h:Heap}{c:Addr}{o:Obj}(ok:HOk P w H h)(n:H c=some (E3 c o)):HOk P w (unk H [c]) h:=fun b u q=>by
 obtain ⟨nb,q⟩:=Sy q;refine (ok b u q).stay (fun d ob _ q=>q) (fun d q=>?_) fun d xs q=>?_
 · rw [C7 fun z=>?_]
   · exact q
   · rw [List.mem_singleton.mp z,n]at q;cases q
 · rw [C7 fun z=>?_]
   · exact q
   · rw [List.mem_singleton.mp z,n]at q;cases q
theorem CE.back{outer:List Env}{P:Program}{w:World}{H:Hp}{s s':Shared}{Q:VK}{u:Value}{c:Addr}{o:Obj}(n:H c=none)(e:s.heap.get? c=some o)(nf:c∉frs outer)(h:CE outer P w (upd H c (E3 c o)) s (fun y H2=>H2 c=some (E3 c o)→Q y (unk H2 [c])) u s'):CE outer P w H s Q u s':=by
 obtain ⟨v,H',os,bare,un,ok,rv,q⟩:=h;have hc:H' c=some (E3 c o):=un.frzs c o _ A1;have ec:s'.heap.get? c=some o:=(ok c _ hc).1
 have up:∀b u,H b=some u→upd H c (E3 c o) b=some u∧b≠c:=fun b u q=>⟨by rw [A5 (Ab q n)];exact q,Ab q n⟩
 have out:∀b,b≠c→unk H' [c] b=H' b:=fun b nb=>C7 fun z=>nb (List.mem_singleton.mp z);refine ⟨v,unk H' [c],os,bare,⟨fun b ob q' m hb hx=>?_,fun b ob q' m hb hx=>?_,fun b ob q' m hx=>?_,un.there,fun b xs q'=>?_,fun b ob w' q'=>?_,fun b ps q'=>?_⟩,ok.back hc,rv,q hc⟩
 · by_cases z:b=c
   · rw [z,e]at q'
     cases q';rw [z];exact ec
   · exact un.keep b ob q' (by rw [A5 z];exact m) hb hx
 · have z:b≠c:=fun z=>nf (by rw [← z];exact hb)
   exact un.slot b ob q' (by rw [A5 z];exact m) hb hx
 · by_cases z:b=c
   · subst z;exact Ln (by simp)
   · rw [out b z];exact un.free b ob q' (by rw [A5 z];exact m) hx
 · obtain ⟨a,nb⟩:=up b _ q'
   rw [out b nb];exact un.tups b xs a
 · obtain ⟨a,nb⟩:=up b _ q'
   rw [out b nb];exact un.frzs b ob w' a
 · obtain ⟨a,nb⟩:=up b _ q'
   rw [out b nb];exact un.tbls b ps a
def J68(sp:Sp)(c:Addr)(i:Nat)(E:XK)(t:TA):TE:=fun σ H Q=>t σ H fun vs H1=>∃v,σ[i]?=some (some v)∧∀o u,o.data= .cell (some u)→Ao v u→H1 c=none→sp vs (upd H1 c (E3 c o)) (fun y H2=>H2 c=some (E3 c o)→Q y (unk H2 [c])) E
section
variable {X:Cx} {k j:Nat} {ps:List Str} {sp:Sp} {E:XK} {g x:Str} {p pos:Pos} {e:Expr} {es:List Expr} {t:TA} {c:Addr} {i:Nat}
theorem J4r(D:Def X.prog X.w X.K X.mg X.base CX0 j g ps sp)(hr:Br k X.A)(hg:Gl X g)(ha:PA X (e::es) t)(hN:X.N[i]?=some x)(hk:X.env.scope.names.lookup x=some .cell)(hcx:X.env.cells.lookup x=some c)(hfn:X.fn x=true:=by rfl)(hj:j≤k:=by decide)
 (hdb:(g==("__debug__":Str))=false:=by decide) (he:starEach (e::es) X.env=(false,eval e X.env)::starEach es X.env:=by rfl) (hpl:(backTo pos (starEach es X.env)).any (·.1)=false:=by rfl):
 PE X (.Call (.Name g p) (e::es) [] pos) (J68 sp c i E t):=by
 obtain ⟨f,fd,F,hm,hkp,hb⟩:=D.ex;intro pins s σ H Q I h
 have fin:∀(us:List Value) (s2:Shared) (vs:List V) (H2:Hp),Inv X pins σ H2 s2→Aw vs us→(∃v,σ[i]?=some (some v)∧∀o u,o.data= .cell (some u)→Ao v u→H2 c=none→sp vs (upd H2 c (E3 c o)) (fun y H3=>H3 c=some (E3 c o)→Q y (unk H3 [c])) E)→wpAny (model X.prog X.w) X.A (call (.ref f) us) (EP X pins σ Q) X.xe s2:=fun us s2 vs H2 I2 r ⟨v,hv,q⟩=>by
  obtain ⟨m,hns,hloc⟩:=I2.loc;obtain ⟨u,ru,lk⟩:=hloc i x v hN hv (.inr (.inl hk))
  obtain ⟨o,ho,hd⟩:∃o,s2.heap.get? c=some o∧o.data= .cell (some u):=by
   rcases lk with ⟨z,_⟩ | ⟨_,c2,e,o,a,b⟩
   · have z:X.env.scope.names.lookup x=some .local:=z
     rw [hk]at z;cases z
   · rw [hcx]at e;cases e
     exact ⟨o,a,b⟩
  have fc:H2 c=none:=I2.freeC x c hcx;have cge:X.s₀.heap.objs.size≤c:=I2.ok.cab x c hfn hcx;have e0:=I2.env0
  have nf:c∉frs X.stack:=fun hb=>by
   rcases I2.ok.stk with z | ⟨z,z2⟩
   · rw [z]at hb
     obtain ⟨_,ob,e1,_⟩:=I2.ok.funs.mem hb;exact absurd (Heap.lt_size e1) (Nat.not_lt.mpr cge)
   · rw [z]at hb
     unfold frs at hb;rw [List.filterMap_cons,z2]at hb;rcases List.mem_cons.mp hb with w' | hb
     · obtain ⟨ob,es',ep,e1,d1,_⟩:=hns
       rw [← w',ho]at e1;cases e1;rw [hd]at d1;cases d1
     · obtain ⟨_,ob,e1,_⟩:=I2.ok.funs.mem hb
       exact absurd (Heap.lt_size e1) (Nat.not_lt.mpr cge)
  have e1:Ke X.prog X.w X.K X.mg X.base X.A X.stack s2 (upd H2 c (E3 c o)):=by
   refine ⟨e0.frames,e0.mod,fun b ob q=>⟨(e0.bs b ob q).1,?_⟩,e0.bsz,e0.funs,fun b hb=>?_,e0.hok.lend fc ho,e0.bare⟩
   · have lb:b < c:=Nat.lt_of_lt_of_le (Nat.lt_of_lt_of_le (Heap.lt_size q) I2.ok.bsz) cge
     rw [A5 (Nat.ne_of_lt lb)];exact (e0.bs b ob q).2
   · rw [A5 (fun z=>nf (by rw [← z];exact hb))];exact e0.frf b hb
  have hs:=q o u hd ru fc
  have hl:us.length=ps.length:=by rw [← r.length];exact F.len _ _ _ _ hs
  have hb':=hb s2 us I2.kIn (by simpa using hl);rw [List.append_nil]at hb';refine wpAny_call (codeAny_mono ((F.mono hj).run X.A X.stack s2 _ ⟨us,[]⟩ us vs _ E hr e1 hb' r hs) fun rr s' hq=>?_)
  cases rr with
  | error e=>exact False.elim hq
  | ok fl=>
   cases fl with
   | ret u'=>exact I2.after (CE.back fc ho nf hq)
   | next=>exact False.elim hq
   | brk=>exact False.elim hq
   | cont=>exact False.elim hq
 refine wpAny_Call_Name_kw (Ma I hg hm ?_ hdb);refine PySem.W.callWith_K (h₀:=X.base) I.ok.mod.kin hkp (thn (ha pos pins s σ H _ I h) fun us s1 ⟨vs,H1,I1,r,q⟩=>⟨I1.kIn,?_⟩) he hpl;exact fin us s1 vs H1 I1 r q
theorem Wj{σ:St}{H:Hp}{Q:VK}:J68 sp c i E t σ H Q=t σ H fun vs H1=>∃v,σ[i]?=some (some v)∧∀o u,o.data= .cell (some u)→Ao v u→H1 c=none→sp vs (upd H1 c (E3 c o)) (fun y H2=>H2 c=some (E3 c o)→Q y (unk H2 [c])) E:=rfl
end
end L2
namespace N53
open L2 N1 N5
theorem J2d{kvs:List (Key×V)}{ks:List Str}{z:Str}{v:V}(h:kvs.map (·.1)=ks.map Sum.inr):(Ct kvs (Sum.inr z) v).map (·.1)=(if z∈ks then ks else ks++[z]).map Sum.inr:=by
 have hm:=Kr (z:=z) h
 by_cases hz:z∈ks
 · rw [if_pos hz,← h]
   unfold Ct;rw [D4,hm,decide_eq_true hz,if_pos rfl,List.map_map];refine List.map_congr_left fun e _=>?_;show (if e.1=Sum.inr z then (e.1,v) else e).1=e.1
   split <;> rfl
 · rw [if_neg hz,Gf v (by rw [decide_eq_false hz]at hm;simpa using hm),List.map_append,List.map_append,h]
   rfl
end N53
namespace L2
def J9m(s:List Str)(y:Str):List Str:=if y∈s then s else s++[y]
def dis(ys:List Str):List Str:=ys.foldl J9m []
end L2
namespace N51
open L2 N1 N5 N53
def sl(ys:List Str)(s e:Nat):List Str:=(ys.drop s).take (e - s)
end N51
namespace N55
open L2 N1 N5 N53 N51
abbrev Bk5:=Addr×Str×Bool×Addr
structure O3(H:Hp)(p:Addr)(bs:List Bk5):Prop where
 l:H p=some (.lst (bs.map fun r=>V.ref r.1))
 t:∀r∈bs,H r.1=some (.tup [.str r.2.1,.bl r.2.2.1,.ref r.2.2.2])
theorem O3.same{H H':Hp}{p:Addr}{bs:List Bk5}(s:A6 H H')(h:O3 H p bs):O3 H' p bs:=⟨s _ _ h.l,fun r hr=>s _ _ (h.t r hr)⟩
end N55
namespace N55
open L2 N1 N5 N53 N51
section
variable {tp:Addr} {pos:Pos} {qual:Str} {H H1 H2 H':Hp}
theorem Ml(h:D5 tp pos qual H):∃ps,H tp=some (.tbl ps):=by
 rcases h with h | ⟨c,h,_⟩
 · exact ⟨_,h⟩
 · exact ⟨_,h⟩
theorem T1(s:A6 H H')(h:D5 tp pos qual H):D5 tp pos qual H':=by
 rcases h with h | ⟨c,h,h'⟩
 · exact .inl (s _ _ h)
 · exact .inr ⟨c,s _ _ h,s _ _ h'⟩
theorem J7e(h:D5 tp pos qual H){p:Addr}{o:HO}(e:H p=some o)(n:∀ps,o≠ .tbl ps):p≠tp:=fun z=>by
 obtain ⟨ps,h'⟩:=Ml h;rw [z,h']at e;cases e;exact n _ rfl
structure Tk(tp:Addr)(pos:Pos)(qual:Str)(H H':Hp):Prop where
 but:SameBut tp H H'
 lam:D5 tp pos qual H'
theorem Tk.trans(a:Tk tp pos qual H H1)(b:Tk tp pos qual H1 H2):Tk tp pos qual H H2:=⟨a.but.trans b.but,b.lam⟩
theorem Tk.of(h:D5 tp pos qual H)(s:A6 H H1):Tk tp pos qual H H1:=⟨.of s,T1 s h⟩
theorem Tk.get(t:Tk tp pos qual H H')(h:D5 tp pos qual H){p:Addr}{o:HO}(e:H p=some o)(n:∀ps,o≠ .tbl ps):H' p=some o:=t.but _ _ e (J7e h e n)
theorem Tk.lst(t:Tk tp pos qual H H')(h:D5 tp pos qual H){p:Addr}{xs:List V}(e:H p=some (.lst xs)):H' p=some (.lst xs):=t.get h e fun _ z=>by cases z
theorem Tk.tup(t:Tk tp pos qual H H')(h:D5 tp pos qual H){p:Addr}{xs:List V}(e:H p=some (.tup xs)):H' p=some (.tup xs):=t.get h e fun _ z=>by cases z
theorem Tk.none(t:Tk tp pos qual H H')(h:D5 tp pos qual H){p:Addr}(e:H' p=none):H p=none:=by
 cases q:H p with
 | none=>rfl
 | some o=>
  by_cases z:p=tp
  · obtain ⟨ps,g⟩:=Ml t.lam
    rw [z,g]at e;cases e
  · rw [t.but _ _ q z]at e
    cases e
theorem O3.tk{p:Addr}{bs:List Bk5}(t:Tk tp pos qual H H')(h:D5 tp pos qual H)(b:O3 H p bs):O3 H' p bs:=⟨t.lst h b.l,fun r hr=>t.tup h (b.t r hr)⟩
end
def J7f(H:Hp):V→Bool
 | .ref t=>match H t with
  | some (.tup [.str _,.bl b,.ref _])=>!b
  | _=>false
 | _=>false
theorem Pu{H:Hp}{t g:Addr}{y:Str}{b:Bool}(h:H t=some (.tup [.str y,.bl b,.ref g])):J7f H (.ref t)=!b:=by
 show (match H t with | some (.tup [.str _,.bl b,.ref _])=>!b | _=>false)=!b;rw [h]
end N55
namespace NPb
open L2 N1 N5 N53 N51 N55 N32 N41
def spW(zs:List Str)(g:Str→Int):Sp:=fun vs H Q _=>∃z,vs=[.str z]∧z∈zs∧∀H',A6 H H'→Q (.int (g z)) H'
structure Wg(P:Program)(w:World)(K:PySem.W.Frag)(mg:Str→Option Value)(base:Heap) where
 f:Addr
 J:Hp→Prop
 zs:List Str
 g:Str→Int
 ok:Ov P w K mg base CX0 4 f J (spW zs g)
 keep:∀{H H':Hp},A6 H H'→J H→J H'
def wsm(g:Str→Int)(bs:List Bk5):Int:=((bs.filter fun r=>!r.2.2.1).map fun r=>g r.2.1).sum
def nmV(H:Hp):V→Str
 | .ref t=>match H t with
  | some (.tup [.str z,.bl _,.ref _])=>z
  | _=>""
 | _=>""
theorem J2e{H:Hp}{t g:Addr}{y:Str}{b:Bool}(h:H t=some (.tup [.str y,.bl b,.ref g])):nmV H (.ref t)=y:=by
 show (match H t with | some (.tup [.str z,.bl _,.ref _])=>z | _=>("":Str))=y;rw [h]
theorem J4s{H:Hp}{g:Str→Int}{bs:List Bk5}(h:∀r∈bs,H r.1=some (.tup [.str r.2.1,.bl r.2.2.1,.ref r.2.2.2])):(((bs.map fun r=>V.ref r.1).filter (J7f H)).map fun x=>V.int (g (nmV H x)))=((bs.filter fun r=>!r.2.2.1).map fun r=>g r.2.1).map V.int:=by
 induction bs with
 | nil=>rfl
 | cons r bs ih=>
  have hr:=h r List.mem_cons_self;have e:=Pu hr;have e2:=J2e hr;have ih':=ih fun x hx=>h x (List.mem_cons_of_mem _ hx);rw [List.map_cons,List.filter_cons,List.filter_cons,e]
  by_cases hb:(!r.2.2.1)=true
  · rw [if_pos hb,if_pos hb,List.map_cons,List.map_cons,List.map_cons,ih',e2]
  · rw [if_neg hb,if_neg hb,ih']
def Du(P:Program)(w:World)(K:PySem.W.Frag)(mg:Str→Option Value)(base:Heap):Sp:=fun vs H Q _=>∃(p:Addr) (b:Wg P w K mg base) (bs:List Bk5),vs=[.ref p,.ref b.f]∧O3 H p bs∧bs.length≤250∧(∀r∈bs,r.2.2.1=false→r.2.1∈b.zs)∧b.J H∧∀H',A6 H H'→Q (.int (wsm b.g bs)) H'
def Gk(tp:Addr)(pos:Pos)(qual:Str)(K:PySem.W.Frag)(C:Addr):Sp:=fun vs H Q _=>∃(st p:Addr) (ts:List Th) (bs:List Bk5),vs=[.ref st,.ref p]∧Ag K C H st ts∧(ts.map (·.1)).Nodup∧O3 H p bs∧bs.length≤250∧(∀r∈bs,r.2.1∈ts.map (·.1))∧D5 tp pos qual H∧
 ∀H',Tk tp pos qual H H'→Q (.int (wsm (cst ts) bs)) H'
def Odd(u:HO):Prop:=(∃ps,u= .tbl ps)∨∃c o,u=E3 c o
theorem SqT.odd{K:PySem.W.Frag}{H H':Hp}{p a:Addr}{u:HO}{xs:List V}(s:SameBut p H H')(hp:H p=some u)(hu:Odd u)(h:SqT K H a xs):SqT K H' a xs:=by
 rcases h with (h | ⟨o,h⟩) | h
 · refine .inl (.inl (s _ _ h (C0 h hp fun z=>?_)))
   rcases hu with ⟨_,e⟩ | ⟨_,_,e⟩ <;> rw [e]at z <;> cases z
 · refine .inl (.inr ⟨o,s _ _ h (C0 h hp fun z=>?_)⟩)
   rcases hu with ⟨_,e⟩ | ⟨_,_,e⟩ <;> rw [e]at z <;> cases z
 · exact .inr h
theorem Ag.odd{K:PySem.W.Frag}{C:Addr}{H H':Hp}{p st:Addr}{u:HO}{ts:List Th}(s:SameBut p H H')(hp:H p=some u)(hu:Odd u)(h:Ag K C H st ts):Ag K C H' st ts:=by
 obtain ⟨dx,d,kvs,h1,h2,h3,h4⟩:=h.ex;refine ⟨dx,d,kvs,s _ _ h1 (C0 h1 hp fun z=>?_),s _ _ h2 (C0 h2 hp fun z=>?_),h3,fun i t e=>?_⟩
 · rcases hu with ⟨_,e⟩ | ⟨_,_,e⟩ <;> rw [e]at z <;> cases z
 · rcases hu with ⟨_,e⟩ | ⟨_,_,e⟩ <;> rw [e]at z <;> cases z
 · obtain ⟨a,e1,e2⟩:=h4 i t e
   exact ⟨a,e1,SqT.odd s hp hu e2⟩
theorem J4t{H:Hp}{c:Addr}:SameBut c H (unk H [c]):=fun b o e n=>by
 rw [C7 fun z=>n (List.mem_singleton.mp z)];exact e
theorem J2f{H:Hp}{as:List Addr}:retr (unk H as) H as=H:=by
 funext b
 by_cases z:b∈as
 · rw [Gz z]
 · rw [D6 z,C7 z]
def J95(e:Expr)(i:Nat):Expr:=match e with
 | .Call _ as _ _=>as.getD i e
 | _=>e
def PJ(L:Pt)(K:PySem.W.Frag)(C f c st:Addr)(ts:List Th)(H:Hp):Prop:=Sx L [("stock",c)] H f∧Cf H [("stock",c)] [V.ref st]∧Ag K C H st ts
theorem PJ.same{L:Pt}{K:PySem.W.Frag}{C f c st:Addr}{ts:List Th}{H H':Hp}(s:A6 H H')(h:PJ L K C f c st ts H):PJ L K C f c st ts H':=⟨h.1.same s,h.2.1.same s,h.2.2.same s⟩
theorem lent{tp:Addr}{pos:Pos}{qual:Str}{H H2 H3:Hp}{c:Addr}{o:Obj}(t:Tk tp pos qual H H2)(n:H2 c=none)(sm:A6 (upd H2 c (E3 c o)) H3):Tk tp pos qual H (unk H3 [c]):=by
 have up:∀b u,H2 b=some u→unk H3 [c] b=some u:=fun b u e=>by
  have nb:b≠c:=Ab e n;rw [C7 fun z=>nb (List.mem_singleton.mp z)];exact sm _ _ (by rw [A5 nb];exact e)
 exact t.trans (Tk.of t.lam fun b u e=>up b u e)
end NPb
namespace N30
open PySem
end N30
namespace L2
open N30
section
variable {K:Type} [DecidableEq K]
def ds1(s:List K)(y:K):List K:=if y∈s then s else s++[y]
def ds(ys:List K):List K:=ys.foldl ds1 []
end
end L2
namespace N35
open L2 N1 N5 N31 N4 N32 N41
variable {ys:List Str} {R:Str→Int} {n c:Nat}
theorem Xz{K:PySem.W.Frag}{H1:Hp}{tail:L2.St}{te:Blk→TE}{Q:VK}{a:Addr}{xs:List V}(f:Nat→List V)(hS:SqL K H1 a xs)(hz:xs.length≤sizeLine)(he:∀b (i:Nat) x H Q',xs[i]?=some x→A6 H1 H→(∀t H',A6 H H'→H' t=some (.tup (f i))→Q' (.ref t) H')→te b (some x::tail) H Q')
 (q:∀(D:Addr) (as:List Addr) (H':Hp),H1 D=none→A6 H1 H'→H' D=some (.lst (as.map V.ref))→as.length=xs.length→(∀i b,as[i]?=some b→H' b=some (.tup (f i)))→Q (.ref D) H'):B6 (none::tail) (fun _=>Bq 0) (fun _=>Cu) te Q (Itl K a) H1:=by
 refine Kq xs.length (fun b D hD=>⟨fun i ys H=>i≤xs.length∧H D=some (.lst ys)∧A6 H1 H∧∃as:List Addr,ys=as.map V.ref∧as.length=i∧∀j c,as[j]?=some c→H c=some (.tup (f j)),⟨Nat.zero_le _,A1,B7 hD,[],rfl,rfl,fun j y e=>by simp at e⟩,?_,?_,?_⟩)
 · rintro i ys H ⟨hi,h,_⟩
   exact h
 · rintro ys H ⟨_,h,sm,as,rfl,hl,hall⟩
   exact ⟨⟨xs,sm.seq hS,Nat.le_refl _⟩,q D as H hD sm h hl hall⟩
 · rintro i ys H hi ⟨_,h,sm,as,rfl,hl,hall⟩
   refine ⟨⟨xs,xs[i],sm.seq hS,by simp [hi]⟩,fun x H3 ⟨e3,ex⟩=>?_⟩;subst e3;refine he b i x _ _ (ex xs (sm.seq hS)) sm fun t H4 sm4 py=>?_;have h4:=sm4 _ _ h;refine Gg h4 (by rw [List.length_map];omega) hi ⟨hi,A1,fun c o e=>?_,as++[t],by rw [List.map_append];rfl,by rw [List.length_append,hl];rfl,fun j c e=>?_⟩
   · rw [A5 (Ab e hD)];exact sm4 _ _ (sm _ _ e)
   · by_cases hj:j < as.length
     · rw [List.getElem?_append_left hj]at e
       have g:=sm4 _ _ (hall j c e);rw [A5 (C0 g h4 (by intro z;cases z))];exact g
     · rw [List.getElem?_append_right (by omega)]at e
       have hj0:j=i:=by have:=(List.getElem?_eq_some_iff.mp e).1;simp at this;omega
       subst hj0;rw [show j - as.length=0 by omega]at e;cases e;rw [A5 (C0 py h4 (by intro z;cases z))];exact py
theorem J7g(ns:List Int)(lo hi:Nat):∃cs:List Int,O0 (ns.map V.int) (some (lo:Int)) (some (hi:Int))=cs.map V.int∧cs.length≤hi - lo∧cs.length≤ns.length - lo:=by
 unfold O0;rw [HT.P7,HT.P7,List.length_map,← List.map_drop,← List.map_take];refine ⟨_,rfl,?_,?_⟩
 · rw [List.length_take,List.length_drop];omega
 · rw [List.length_take,List.length_drop];omega
end N35
namespace L2
abbrev g3(K:PySem.W.Frag):Blk→TG:=fun _=>J3j K 3 (My (Bq 0) (My (Bq 1) (My (Bq 2) J3i)))
abbrev J2g(K:PySem.W.Frag)(wi:TI)(fs:List Nat)(te:Blk→TE):TE:=Of wi 3 fs (g3 K) (fun _=>Cu) te
section
variable {X:Cx} {scope:Scope} {x y z:Str} {px py pz pt:Pos} {n:Nat} {fs:List Nat} {elt iter:Expr} {pos:Pos} {wi:TI} {te:Blk→TE}
theorem J4u(hc:X.calm=true)(hok:Bv X.N X.env.scope scope [x,y,z] fs=true)(b:Blk):PG (X.blk scope ([x,y,z]++around X.N fs) b) (.Tuple [.Name x px,.Name y py,.Name z pz] n pt) (g3 X.K b):=by
 have O:=Cv hok
 refine Ga (X:=X.blk scope ([x,y,z]++around X.N fs) b) hc (B3 (Ax O.nd rfl (.inl (lookup_relabel_local (O.own x (by simp)))) (.inr (lookup_relabel_local (O.own x (by simp))))) (B3 (Ax O.nd rfl (.inl (lookup_relabel_local (O.own y (by simp)))) (.inr (lookup_relabel_local (O.own y (by simp)))))
  (B3 (Ax O.nd rfl (.inl (lookup_relabel_local (O.own z (by simp)))) (.inr (lookup_relabel_local (O.own z (by simp))))) Dq)))
end
section
variable {K:PySem.W.Frag} {tail:St} {te:Blk→TE} {Q:VK} {H1:Hp} {σ:St} {H:Hp}
theorem T2{wi:TI}{fs:List Nat}:J2g K wi fs te σ H Q=wi σ H (B6 (none::none::none::fs.map fun j=>σ.getD j none) (g3 K) (fun _=>Cu) te Q):=rfl
theorem J96{x y z:Option V}{r:St}:J41 (none::none::none::r) (x::y::z::r):=fun i v e=>by
 match i with
 | 0=>cases e
 | 1=>cases e
 | 2=>cases e
 | i+3=>exact e
theorem J4v{a:Addr}{as:List Addr}(x1 x2 x3 f:Nat→V)(hS:SqL K H1 a (as.map V.ref))(hz:as.length≤sizeLine)(hT:∀i p,as[i]?=some p→SqT K H1 p [x1 i,x2 i,x3 i])
 (he:∀b i H Q',i < as.length→A6 H1 H→Q' (f i) H→te b (some (x1 i)::some (x2 i)::some (x3 i)::tail) H Q')
 (q:∀D,H1 D=none→Q (.ref D) (upd H1 D (.lst ((List.range as.length).map f)))):B6 (none::none::none::tail) (g3 K) (fun _=>Cu) te Q (Itl K a) H1:=by
 intro b D hD;refine ⟨fun i m ys H=>m=as.length - i∧i≤as.length∧ys=(List.range i).map f∧H=upd H1 D (.lst ys),⟨_,rfl,Nat.zero_le _,rfl,rfl⟩,?_⟩;rintro i m ys H ⟨rfl,hi,rfl,rfl⟩;refine ⟨A1,?_⟩
 by_cases hlt:i < as.length
 · refine .inr ⟨⟨_,V.ref as[i],(B7 hD).seq hS,by simp [hlt]⟩,fun x H3 ⟨e3,ex⟩=>?_⟩
   subst e3;have hx:=ex _ ((B7 hD).seq hS)
   have hx':V.ref as[i]=x:=by simpa [hlt] using hx
   subst hx';refine ⟨as[i],_,rfl,(B7 hD).tup (hT i _ (by simp [hlt])),rfl,_,_,rfl,_,_,rfl,_,_,rfl,rfl,J96,?_⟩;show Cu _ _ _;unfold Cu;dsimp only;rw [if_pos rfl];refine he b i _ _ hlt (B7 hD) ⟨A1,by rw [List.length_map,List.length_range];omega,as.length - (i+1),by omega,rfl,hlt,?_,?_⟩
   · rw [List.range_succ,List.map_append];rfl
   · funext c;by_cases hc:c=D <;> simp [upd,hc]
 · have e:i=as.length:=by omega
   subst e;exact .inl ⟨⟨_,(B7 hD).seq hS,by simp⟩,q D hD⟩
end
end L2
namespace N12
open L2 N1 N5 N4 N6
theorem Uj{n k:Nat}(h:k < n):ixN n (k:Int)=some k:=by
 unfold ixN;rw [if_pos (by omega),if_pos (by omega)];simp
end N12
namespace N6
open L2 N1 N5 N4
def Mm(K:PySem.W.Frag)(C S:Addr):Sp:=fun vs H Q _=>∃(q p d:Addr) (n:Int) (ls:Ly) (ts:List Th) (z:Str) (r:Int),vs=[.ref q,.str z]∧Bb S H q p d n ls∧E2 K C H p ts d∧(ts.map (·.1)).Nodup∧ls.length≤1000∧
 z∈ts.map (·.1)∧(∀t∈ts,t.1=z→t.2.2=r)∧¬z∈lyN ls∧r≤n - lyS ls∧∀H',SameBut d H H'→Bb S H' q p d n (ls++[(z,r)])→Q .non H'
def L0(S:Addr):Sp:=fun vs H Q _=>∃(q p d:Addr) (n:Int) (ls:Ly) (z:Str),vs=[.ref q,.str z]∧Bb S H q p d n ls∧z∈lyN ls∧∀H',SameBut d H H'→Bb S H' q p d n (lyD ls z)→Q .non H'
end N6
namespace N14
open L2 N1 N5 N4 N6 N12 N32
abbrev Row:=Str×Bool×List Str
structure J7h(K:PySem.W.Frag)(H:Hp)(b:Addr)(as gs:List Addr)(rs:List Row):Prop where
 l:SqL K H b (as.map V.ref)
 n:as.length=rs.length
 m:gs.length=rs.length
 t:∀(i:Nat) (a g:Addr) (r:Row),as[i]?=some a→gs[i]?=some g→rs[i]?=some r→SqT K H a [.str r.1,.bl r.2.1,.ref g]∧SqL K H g (r.2.2.map V.str)
theorem J97{ts:List Th}{z:Str}{r:Int}(nd:(ts.map (·.1)).Nodup)(hz:z∈ts.map (·.1))(h:∀t∈ts,t.1=z→t.2.2=r):rm ts z=r:=by
 obtain ⟨i,t,ht,rfl⟩:=W7 hz;rw [Wc nd ht,h t (List.mem_of_getElem? ht) rfl]
theorem J4w{ls:Ly}{z u:Str}:u∈lyN (lyD ls z)↔u∈lyN ls∧u≠z:=by
 unfold lyN lyD;simp only [List.mem_map,List.mem_filter,decide_eq_true_eq];constructor
 · rintro ⟨x,⟨h1,h2⟩,rfl⟩;exact ⟨⟨x,h1,rfl⟩,h2⟩
 · rintro ⟨⟨x,h1,rfl⟩,h2⟩;exact ⟨x,⟨h1,h2⟩,rfl⟩
theorem J2h{H H':Hp}{x dx:Addr}{o1 o2:HO}(h1:H x=none)(h2:H dx=none)(sb:SameBut x (upd (upd H dx o1) x o2) H'):A6 H H':=fun b o e=>by
 have n1:b≠x:=fun h=>by rw [h,h1]at e;cases e
 have n2:b≠dx:=fun h=>by rw [h,h2]at e;cases e
 exact sb _ _ (by rw [A5 n1,A5 n2];exact e) n1
theorem J2i{H:Hp}{x dx d:Addr}{o1 o2:HO}(h:upd (upd H dx o1) x o2 d=none):H d=none:=by
 by_cases e1:d=x
 · rw [e1,A1]at h;cases h
 rw [A5 e1]at h
 by_cases e2:d=dx
 · rw [e2,A1]at h;cases h
 rw [A5 e2]at h;exact h
theorem Ah{H H':Hp}{d:Addr}(s:A6 H H')(h:H' d=none):H d=none:=by
 cases e:H d with
 | none=>rfl
 | some o=>rw [s _ _ e]at h;cases h
theorem T5{H H' H1:Hp}{d:Addr}(s:A6 H H')(hd:H d=none)(sb:SameBut d H' H1):A6 H H1:=fun b o e=>sb _ _ (s _ _ e) fun h=>by rw [h,hd]at e;cases e
structure OkL(R:Str→Int)(ns:List Str)(ls:Ly):Prop where
 nd:(lyN ls).Nodup
 r:∀x∈ls,x.2=R x.1
 s:∀u∈lyN ls,u∈ns
theorem OkL.nil{R:Str→Int}{ns:List Str}:OkL R ns []:=⟨List.nodup_nil,by simp,by simp [lyN]⟩
theorem OkL.drop{R:Str→Int}{ns:List Str}{ls:Ly}{z:Str}(h:OkL R ns ls):OkL R ns (lyD ls z):=
 ⟨by rw [Ll h.nd];exact h.nd.erase _,fun x hx=>h.r x (List.mem_filter.mp hx).1,fun u hu=>h.s u (J4w.mp hu).1⟩
theorem OkL.put{R:Str→Int}{ns:List Str}{ls:Ly}{z:Str}(h:OkL R ns ls)(hz:z∉lyN ls)(hn:z∈ns):OkL R ns (ls++[(z,R z)]):=by
 have e:lyN (ls++[(z,R z)])=lyN ls++[z]:=by unfold lyN;rw [List.map_append];rfl
 refine ⟨?_,?_,?_⟩
 · rw [e,List.nodup_append]
   refine ⟨h.nd,by simp,fun y hy u hu=>?_⟩;rw [List.mem_singleton]at hu;rw [hu];exact fun e=>hz (e▸hy)
 · intro x hx
   rcases List.mem_append.mp hx with h1 | h1
   · exact h.r x h1
   · rw [List.mem_singleton.mp h1]
 · intro u hu
   rw [e]at hu;rcases List.mem_append.mp hu with h1 | h1
   · exact h.s u h1
   · rw [List.mem_singleton.mp h1];exact hn
def Kp(M:List Addr)(H H':Hp):Prop:=∀b o,b∉M→H b=some o→H' b=some o
theorem Kp.trans{M:List Addr}{H H1 H2:Hp}(h1:Kp M H H1)(h2:Kp M H1 H2):Kp M H H2:=fun b o n e=>h2 b o n (h1 b o n e)
theorem Kp.of{M:List Addr}{H H1:Hp}(h:A6 H H1):Kp M H H1:=fun b o _ e=>h b o e
theorem Kp.upd{M:List Addr}{H H1:Hp}{p:Addr}{o:HO}(h:Kp M H H1)(hp:p∈M):Kp M H (upd H1 p o):=fun b u n e=>by
 have hb:b≠p:=fun e2=>n (by rw [e2];exact hp);rw [A5 hb];exact h b u n e
theorem Kp.same{M:List Addr}{H0 H H1:Hp}(s:A6 H0 H)(h:Kp M H H1)(hn:∀p∈M,H0 p=none):A6 H0 H1:=fun b o e=>h b o (fun hb=>by rw [hn b hb]at e;cases e) (s b o e)
theorem Mn{α:Type}{xs:List α}{y z:α}{i:Nat}(h:(xs++[y])[i]?=some z):(i < xs.length∧xs[i]?=some z)∨(i=xs.length∧z=y):=by
 rcases Nat.lt_or_ge i xs.length with h1 | h1
 · rw [List.getElem?_append_left h1]at h;exact .inl ⟨h1,h⟩
 · rw [List.getElem?_append_right h1]at h
   rcases Nat.eq_zero_or_pos (i - xs.length) with e | e
   · rw [e]at h;cases h;exact .inr ⟨by omega,rfl⟩
   · rw [List.getElem?_eq_none (by simp;omega)]at h;cases h
end N14
namespace L2
structure Y0(P:Program)(w:World)(K:PySem.W.Frag)(mg:Str→Option Value)(base:Heap)(CX:CXT)(k:Nat)(x:Str)(C:Addr)(ps:List Str)(sp:Sp):Prop where
 ex:∃(f:Addr) (fd:FuncData),Al P w K mg base CX k f fd ps sp∧Mk K C f∧mg x=some (.ref C)∧C1 K fd ps []∧PySem.W.findCls K (.ref C) (.type "type") "__init__"=some (.val (.ref f))∧PySem.W.keepIn K (.ref f)=true
 sp:PySem.W.specialIn K (.ref C) "__getattribute__"=some (some (.builtin "type.__getattribute__"))
 rd:PySem.W.readsIn K C (.type "type")=true
def J2j(sp:Sp)(EE:St→XK)(t:TA):TE:=fun σ H Q=>t σ H fun vs H1=>sp vs H1 Q (EE σ)
section
variable {X:Cx} {CX:CXT} {k j:Nat} {C:Addr} {ps:List Str} {sp:Sp} {EE:St→XK} {x:Str} {pos apos:Pos} {e o:Expr} {es:List Expr} {t:TA}
theorem Nn{pl:Sem Bool}(D:Y0 X.prog X.w X.K X.mg X.base CX j x C ps sp)(hr:Br k X.A)(hx:El CX X EE)(he:PE X o (tC (.ref C)))(ha:PA X (e::es) t)(hj:j≤k:=by decide)
 (hst:starEach (e::es) X.env=(false,eval e X.env)::starEach es X.env:=by rfl) (hpl:(backTo pos (starEach es X.env)).any (·.1)=false:=by rfl)
 (ht:eval (.Call (.Attribute o "__init__" apos) (e::es) [] pos) X.env=(do
  let ov ← eval o X.env
  standAt apos.atName
  let (f,first) ← holding [ov] (getMethod ov "__init__" pl)
  callWith pos f first (backTo pos (starEach (e::es) X.env)) (backToKw pos (keywordEach [] X.env))):=by rfl):
 PE X (.Call (.Attribute o "__init__" apos) (e::es) [] pos) (J2j sp EE t):=by
 obtain ⟨f,fd,F,M,hm,hb,hc,hk⟩:=D.ex;intro pins s σ H Q I h;refine PySem.W.methodCall_KW (pl:=pl) (thn (he pins s σ H (fun v H1=>v= .ref C∧t σ H1 fun vs H2=>sp vs H2 Q (EE σ)) I ⟨rfl,h⟩) fun u s1 hq_=>?_) ht;obtain ⟨x,H1,I1,rx,q⟩:=hq_;obtain ⟨rfl,q⟩:=q;obtain rfl:u=Value.ref C:=rx;refine PySem.W.method_cls I1.kIn D.sp (PySem.W.cls_value I1.kIn D.rd hc rfl ?_);have I2:=I1.tok (s1.toks+1);exact PySem.W.callWith_K (first:=[]) (h₀:=X.base) I.ok.mod.kin hk (thn (ha pos pins _ σ H1 _ I2 q) fun us s2 ⟨vs,H2,I3,r,q2⟩=>⟨I3.kIn,Me (us:=us) (vs:=vs) (F.mono hj) hr hb hx I3 r q2⟩) hst hpl
theorem T6{σ:St}{H:Hp}{Q:VK}:J2j sp EE t σ H Q=t σ H fun vs H1=>sp vs H1 Q (EE σ):=rfl
end
end L2
namespace N20
open L2 N1 N5 N4 N6 N12 N32 N14
end N20
namespace N71
open L2 N1 N5 N4 N6 N12
structure TwA where
 st:Addr
 si:Addr
 ro:Addr
 he:Addr
 la:Addr
 so:Addr
 en:Addr
 fi:Addr
structure TwS where
 zs:List Int
 R:List Str
 kh:List (Key×V)
 kl:List (Key×V)
 ks:List (Key×V)
 es:List V
 ff:List Int
 pd:Int
end N71
namespace L2
section
variable {K:PySem.W.Frag} {σ:St} {H:Hp} {D:G7} {Q:VK}
theorem Ow{ta tv:TE}{rd:V→V→Hp→VK→Prop}{f:Str}:Uz K ta tv rd f D σ H=ta σ H fun x H1=>∃a C dx fs v,x= .ref a∧H1 a=some (.ins C dx fs)∧Cls K C∧Ar K C f∧fs.lookup f=some v∧
 tv σ H1 fun y H2=>rd v y H2 fun z H3=>∃dx' fs',H3 a=some (.ins C dx' fs')∧fs'.length < 1000∧D.nx σ (upd H3 a (.ins C dx' (Bh f z fs'))):=rfl
theorem J2k{i:Nat}{te:TE}{ti:TIp}:J6k i te ti D σ H=∃x,σ[i]?=some (some x)∧te σ H fun y H1=>ti x y H1 fun z H2=>D.nx (σ.set i (some z)) H2:=rfl
end
end L2
namespace N18
open L2 N1 N5 N4 N6 N12 N32 N14
end N18
namespace N25
open L2 N1 N5 N4 N6 N12 N32 N14 N20
theorem J4x{y z:Str}(h:y≠z):(Sum.inr y:Key)≠Sum.inr z:=fun e=>h (by injection e)
theorem Wk{R:Str→Int}{ns:List Str}:∀{ls:Ly},(∀x∈ls,x.2=R x.1)→lyS ls=N41.sm R (lyN ls)
 | [],_=>rfl
 | x::r,h=>by
  have ih:=Wk (R:=R) (ns:=ns) (ls:=r) fun y hy=>h y (List.mem_cons_of_mem _ hy);have h1:=h x (List.mem_cons_self ..);unfold lyS at ih ⊢;unfold lyN at ih ⊢;rw [List.map_cons,List.sum_cons,List.map_cons,N41.C6,ih,h1]
end N25
namespace N25
open L2 N1 N5 N4 N6 N12 N32 N14 N20
theorem Ox{M:List Addr}{a:Addr}{H H':Hp}(s:SameBut a H H')(h:a∈M):Kp M H H':=fun b o n e=>s b o e (fun e2=>n (e2▸h))
theorem Mo{M:List Addr}{H H':Hp}{b:Addr}(k:Kp M H H')(hb:b∉M)(h:H' b=none):H b=none:=by
 cases e:H b with
 | none=>rfl
 | some o=>rw [k b o hb e]at h;cases h
theorem J2l{M:List Addr}{H H':Hp}{w:Addr}{o:HO}(k:Kp M H H')(hw:H w=none):Kp M H (upd H' w o):=fun b u n e=>by
 rw [A5 (fun h=>by rw [h,hw]at e;cases e)];exact k b u n e
theorem Uk{L M:List Str}(h:L.Nodup)(hs:∀z∈L,z∈M):L.length≤M.length:=by
 induction L generalizing M with
 | nil=>exact Nat.zero_le _
 | cons x r ih=>
  obtain ⟨hx,hr⟩:=List.nodup_cons.mp h;have hm:=hs x (List.mem_cons_self ..);have:=ih (M:=M.erase x) hr fun z hz=>(List.mem_erase_of_ne (fun e=>hx (by rw [← e];exact hz))).mpr (hs z (List.mem_cons_of_mem _ hz));rw [List.length_erase_of_mem hm]at this;have hp:0 < M.length:=List.length_pos_of_mem hm;rw [List.length_cons];omega
end N25
namespace NR
open L2 N1 N5 N4 N6 N12 N32 N14 N20 N18 N25
structure Aj where
 C:Addr
 St:Type
 At:Hp→List Addr→Addr→Addr→Int→St→Prop
 asked:Int→St→Str→St
 pick:Int→St→List Str→St×Str
 gone:Int→St→Str→St
 came:Int→St→Str→St
 inv:List Str→Int→St→List Str→Prop
 mid:List Str→Int→Str→St→List Str→Prop
 dep:∀{H H':Hp} {M:List Addr} {q p:Addr} {n:Int} {s:St},(∀m∈M,∀o,H m=some o→H' m=some o)→At H M q p n s→At H' M q p n s
 live:∀{H:Hp} {M:List Addr} {q p:Addr} {n:Int} {s:St},At H M q p n s→∀m∈M,H m≠none
 obj:∀{H:Hp} {M:List Addr} {q p:Addr} {n:Int} {s:St},At H M q p n s→∃dx fs,H q=some (.ins C dx fs)∧fs.lookup ("stock":Str)=some (.ref p)∧fs.lookup ("places":Str)=some (.int n)∧fs.lookup ("asked":Str)=none∧fs.lookup ("choice":Str)=none∧fs.lookup ("gone":Str)=none∧fs.lookup ("came":Str)=none∧fs.lookup ("nests":Str)=none
 i_hit:∀{ns:List Str} {n:Int} {s:St} {l:List Str} {z:Str},inv ns n s l→z∈ns→z∈l→inv ns n (asked n s z) l
 i_mid:∀{ns:List Str} {n:Int} {s:St} {l:List Str} {z:Str},inv ns n s l→z∈ns→z∉l→mid ns n z (asked n s z) l
 i_pick:∀{ns:List Str} {n:Int} {s:St} {l:List Str} {z:Str},mid ns n z s l→l≠[]→(pick n s l).2∈l∧mid ns n z (gone n (pick n s l).1 (pick n s l).2) (l.erase (pick n s l).2)
 i_came:∀{ns:List Str} {n:Int} {s:St} {l:List Str} {z:Str},mid ns n z s l→z∈ns→z∉l→inv ns n (came n s z) (l++[z])
 cnt:St→Nat:=fun _=>0
 c_ask:∀n s z,cnt (asked n s z)≤cnt s+1:=by exact fun _ _ _=>Nat.zero_le _
 c_pick:∀n s l,cnt (pick n s l).1≤cnt s:=by exact fun _ _ _=>Nat.zero_le _
 c_gone:∀n s z,cnt (gone n s z)≤cnt s:=by exact fun _ _ _=>Nat.zero_le _
 c_came:∀n s z,cnt (came n s z)≤cnt s:=by exact fun _ _ _=>Nat.zero_le _
def gfin(T:Aj)(R:Str→Int)(n need:Int):Nat→T.St→List Str→List Str→T.St×List Str×List Str
 | 0,s,l,w=>(s,l,w)
 | k+1,s,l,w=>if need≤n - N41.sm R l then (s,l,w) else gfin T R n need k (T.gone n (T.pick n s l).1 (T.pick n s l).2) (l.erase (T.pick n s l).2) (w++[(T.pick n s l).2])
def gf(T:Aj)(R:Str→Int)(n need:Int)(s:T.St)(l w:List Str):T.St×List Str×List Str:=gfin T R n need l.length s l w
section
variable {T:Aj} {R:Str→Int} {n need:Int} {s:T.St} {l w ns:List Str} {z:Str}
theorem Np(h:need≤n - N41.sm R l):gf T R n need s l w=(s,l,w):=by
 unfold gf
 cases hk:l.length with
 | zero=>rfl
 | succ k=>
  show (if _ then _ else _)=_;rw [if_pos h]
theorem J2m(h:¬need≤n - N41.sm R l)(hp:(T.pick n s l).2∈l):gf T R n need s l w=gf T R n need (T.gone n (T.pick n s l).1 (T.pick n s l).2) (l.erase (T.pick n s l).2) (w++[(T.pick n s l).2]):=by
 unfold gf;have hl:=List.length_erase_of_mem hp;have h0:0 < l.length:=List.length_pos_of_mem hp;rw [show l.length=(l.erase (T.pick n s l).2).length+1 by omega];show (if _ then _ else _)=_;rw [if_neg h]
theorem J2n:∀(k:Nat) (s:T.St) (l w:List Str),l.length=k→T.mid ns n z s l→need≤n→T.mid ns n z (gf T R n need s l w).1 (gf T R n need s l w).2.1∧need≤n - N41.sm R (gf T R n need s l w).2.1∧(∀u∈(gf T R n need s l w).2.1,u∈l)∧(l.Nodup→(gf T R n need s l w).2.1.Nodup)∧(gf T R n need s l w).2.1.length≤l.length:=by
 intro k
 induction k with
 | zero=>
  intro s l w hk hm hn;have hL:l=[]:=List.length_eq_zero_iff.mp hk;subst hL
  have he:need≤n - N41.sm R []:=by rw [N41.Lj];omega
  rw [Np he];exact ⟨hm,he,fun z hz=>hz,id,Nat.le_refl _⟩
 | succ k ih=>
  intro s l w hk hm hn
  by_cases he:need≤n - N41.sm R l
  · rw [Np he]
    exact ⟨hm,he,fun z hz=>hz,id,Nat.le_refl _⟩
  · have hne:l≠[]:=fun e=>by rw [e]at hk;cases hk
    obtain ⟨hp,hm2⟩:=T.i_pick hm hne;rw [J2m he hp];have hl:=List.length_erase_of_mem hp;obtain ⟨a,b,c,d,e⟩:=ih _ _ (w++[(T.pick n s l).2]) (by omega) hm2 hn;exact ⟨a,b,fun u hu=>List.mem_of_mem_erase (c u hu),fun hnd=>d (hnd.erase _),by omega⟩
end
def gask(T:Aj)(R:Str→Int)(n:Int)(s:T.St×List Str)(z:Str):(T.St×List Str)×N14.Row:=
 if z∈s.2 then ((T.asked n s.1 z,s.2),(z,true,[]))
 else ((T.came n (gf T R n (R z) (T.asked n s.1 z) s.2 []).1 z,(gf T R n (R z) (T.asked n s.1 z) s.2 []).2.1++[z]),(z,false,(gf T R n (R z) (T.asked n s.1 z) s.2 []).2.2))
def gst(T:Aj)(R:Str→Int)(n:Int)(s0:T.St)(ys:List Str)(i:Nat):T.St×List Str:=(ys.take i).foldl (fun s z=>(gask T R n s z).1) (s0,[])
def grow(T:Aj)(R:Str→Int)(n:Int)(s0:T.St)(ys:List Str)(i:Nat):N14.Row:=(gask T R n (gst T R n s0 ys i) (ys.getD i Str.empty)).2
def grows(T:Aj)(R:Str→Int)(n:Int)(s0:T.St)(ys:List Str)(i:Nat):List N14.Row:=(List.range i).map (grow T R n s0 ys)
section
variable {T:Aj} {R:Str→Int} {n:Int} {s0:T.St} {ys ns:List Str} {i:Nat} {z:Str}
theorem Cr(h:ys[i]?=some z):gst T R n s0 ys (i+1)=(gask T R n (gst T R n s0 ys i) z).1:=by
 unfold gst;rw [List.take_add_one,h,List.foldl_append];rfl
theorem Wl(h:ys[i]?=some z):grow T R n s0 ys i=(gask T R n (gst T R n s0 ys i) z).2:=by
 unfold grow;rw [List.getD_eq_getElem?_getD,h];rfl
theorem Ul(h:ys[i]?=some z):grows T R n s0 ys (i+1)=grows T R n s0 ys i++[(gask T R n (gst T R n s0 ys i) z).2]:=by
 unfold grows;rw [List.range_succ,List.map_append];show _++[grow T R n s0 ys i]=_;rw [Wl h]
theorem Cz:(grows T R n s0 ys i).length=i:=by unfold grows;rw [List.length_map,List.length_range]
theorem J2o{u v:Str}{l:List Str}(e:u=v)(h:u∈l):v∈l:=e▸h
structure GI(T:Aj)(ns:List Str)(n:Int)(s:T.St×List Str):Prop where
 i:T.inv ns n s.1 s.2
 nd:s.2.Nodup
 s:∀u∈s.2,u∈ns
theorem GI.ask{s:T.St×List Str}(h:GI T ns n s)(hz:z∈ns)(hR:R z≤n):GI T ns n (gask T R n s z).1:=by
 unfold gask;split
 · rename_i hm
   exact ⟨T.i_hit h.i hz hm,h.nd,h.s⟩
 · rename_i hm
   obtain ⟨a,b,c,d,e⟩:=J2n (R:=R) _ _ _ [] rfl (T.i_mid h.i hz hm) hR;have hm2:z∉(gf T R n (R z) (T.asked n s.1 z) s.2 []).2.1:=fun hh=>hm (c z hh);refine ⟨T.i_came a hz hm2,?_,fun u hu=>?_⟩
   · show ((gf T R n (R z) (T.asked n s.1 z) s.2 []).2.1++[z]).Nodup
     rw [List.nodup_append];refine ⟨d h.nd,by simp,fun y hy u hu e=>hm2 (J2o (e.trans (List.mem_singleton.mp hu)) hy)⟩
   · rcases List.mem_append.mp hu with hu | hu
     · exact h.s u (c u hu)
     · rw [List.mem_singleton.mp hu];exact hz
theorem Dh(h0:T.inv ns n s0 [])(hin:∀y∈ys,y∈ns)(hR:∀y∈ys,R y≤n):∀i,i≤ys.length→GI T ns n (gst T R n s0 ys i)
 | 0,_=>⟨h0,List.nodup_nil,by simp [gst]⟩
 | i+1,h=>by
  have hz:=List.getElem?_eq_getElem (show i < ys.length by omega);have hm:=List.mem_of_getElem? hz;rw [Cr hz];exact (Dh h0 hin hR i (by omega)).ask (hin _ hm) (hR _ hm)
end
theorem J2p{T:Aj}{R:Str→Int}{n need:Int}:∀(k:Nat) (s:T.St) (l w:List Str),T.cnt (gfin T R n need k s l w).1≤T.cnt s:=by
 intro k
 induction k with
 | zero=>intro s l w;exact Nat.le_refl _
 | succ k ih=>
  intro s l w;unfold gfin;split
  · exact Nat.le_refl _
  · exact Nat.le_trans (ih _ _ _) (Nat.le_trans (T.c_gone _ _ _) (T.c_pick _ _ _))
theorem J2q{T:Aj}{R:Str→Int}{n:Int}{s:T.St×List Str}{z:Str}:T.cnt (gask T R n s z).1.1≤T.cnt s.1+1:=by
 unfold gask;split
 · exact T.c_ask _ _ _
 · exact Nat.le_trans (T.c_came _ _ _) (Nat.le_trans (J2p _ _ _ _) (T.c_ask _ _ _))
theorem Wm{T:Aj}{R:Str→Int}{n:Int}{s0:T.St}{ys:List Str}:∀i,i≤ys.length→T.cnt (gst T R n s0 ys i).1≤T.cnt s0+i
 | 0,_=>Nat.le_refl _
 | i+1,h=>by
  have hz:=List.getElem?_eq_getElem (show i < ys.length by omega);rw [Cr hz];have:=Wm (T:=T) (R:=R) (n:=n) (s0:=s0) (ys:=ys) i (by omega);have h2:=J2q (T:=T) (R:=R) (n:=n) (s:=gst T R n s0 ys i) (z:=ys[i]);omega
structure Da(T:Aj)(K:PySem.W.Frag)(C S:Addr)(H0 H:Hp)(q p sh d:Addr)(M:List Addr)(n:Int)(ts:List Th)(ls:Ly)(s:T.St):Prop where
 h:T.At H M q p n s
 shf:Bb S H sh p d n ls
 st:Ag K C H0 p ts
 sm:A6 H0 H
 n0:∀m∈M,H0 m=none
 nd:H0 d=none
 nsh:sh∉M
 ndm:d∉M
 ok:OkL (rm ts) (ts.map (·.1)) ls
section
variable {T:Aj} {K:PySem.W.Frag} {C S:Addr} {H0 H H' H1 H2:Hp} {q p sh d w:Addr} {M:List Addr} {n:Int} {ts:List Th} {ls:Ly} {s s':T.St}
theorem Pw(e:A6 H H')(h:T.At H M q p n s):T.At H' M q p n s:=T.dep (fun m _ o=>e m o) h
theorem J2r(e:SameBut d H H')(hd:d∉M)(h:T.At H M q p n s):T.At H' M q p n s:=T.dep (fun m hm o e1=>e m o e1 (fun e2=>hd (e2▸hm))) h
theorem Da.same(r:Da T K C S H0 H q p sh d M n ts ls s)(e:A6 H H'):Da T K C S H0 H' q p sh d M n ts ls s:=
 ⟨Pw e r.h,r.shf.same e,r.st,r.sm.trans e,r.n0,r.nd,r.nsh,r.ndm,r.ok⟩
theorem Da.x(r:Da T K C S H0 H q p sh d M n ts ls s):E2 K C H p ts d:=(E2.of r.st r.nd).same r.sm
theorem Da.left(r:Da T K C S H0 H q p sh d M n ts ls s):n - lyS ls=n - N41.sm (rm ts) (lyN ls):=by rw [Wk (ns:=ts.map (·.1)) r.ok.r]
theorem Da.rule(r:Da T K C S H0 H q p sh d M n ts ls s)(k:Kp M H H')(h:T.At H' M q p n s'):Da T K C S H0 H' q p sh d M n ts ls s':=
 ⟨h,⟨r.shf.o.imp fun _ e=>k _ _ r.nsh e,k _ _ r.ndm r.shf.d,r.shf.nd⟩,r.st,Kp.same r.sm k r.n0,r.n0,r.nd,r.nsh,r.ndm,r.ok⟩
theorem Da.shelf{ls':Ly}(r:Da T K C S H0 H q p sh d M n ts ls s)(k:SameBut d H H')(hs:Bb S H' sh p d n ls')(ok:OkL (rm ts) (ts.map (·.1)) ls'):Da T K C S H0 H' q p sh d M n ts ls' s:=
 ⟨J2r k r.ndm r.h,hs,r.st,T5 r.sm r.nd k,r.n0,r.nd,r.nsh,r.ndm,ok⟩
theorem Da.lst{zs:List V}(r:Da T K C S H0 H q p sh d M n ts ls s)(k:SameBut w H H')(hw:H w=some (.lst zs))(hm:w∉M)(h0:H0 w=none):Da T K C S H0 H' q p sh d M n ts ls s:=
 ⟨J2r k hm r.h,r.shf.butL k hw,r.st,T5 r.sm h0 k,r.n0,r.nd,r.nsh,r.ndm,r.ok⟩
theorem Da.free{b:Addr}(r:Da T K C S H0 H q p sh d M n ts ls s)(hb:H b=none):b∉d::M:=fun hm=>by
 rcases List.mem_cons.mp hm with e | e
 · rw [e,r.shf.d]at hb;cases hb
 · exact T.live r.h b e hb
theorem L1{M:List Addr}{d:Addr}{H H':Hp}(k:Kp M H H'):Kp (d::M) H H':=fun b o n e=>k b o (fun h=>n (List.mem_cons_of_mem _ h)) e
theorem J2s{a:Addr}{xs:List V}(h:SqL K H a xs)(k:Kp M H H')(na:a∉M):SqL K H' a xs:=by
 rcases h with (h | ⟨o,h⟩) | h
 · exact .inl (.inl (k _ _ na h))
 · exact .inl (.inr ⟨o,k _ _ na h⟩)
 · exact .inr h
end
def Ec(T:Aj):Sp:=fun vs H Q _=>∃(q p:Addr) (n:Int) (M:List Addr) (s:T.St) (l ns:List Str) (z:Str),vs=[.ref q,.str z]∧T.At H M q p n s∧T.inv ns n s l∧z∈ns∧ns.length≤60∧∀H',Kp M H H'→T.At H' M q p n (T.asked n s z)→Q .non H'
def Dm(T:Aj)(K:PySem.W.Frag):Sp:=fun vs H Q _=>∃(q p a:Addr) (n:Int) (M:List Addr) (s:T.St) (l ns:List Str) (z:Str),vs=[.ref q,.ref a]∧T.At H M q p n s∧T.mid ns n z s l∧l≠[]∧H a=some (.lst (l.map V.str))∧a∉M∧ns.length≤60∧l.length≤60∧T.cnt s≤300∧∀H',Kp M H H'→T.At H' M q p n (T.pick n s l).1→Q (.str (T.pick n s l).2) H'
def Gm(T:Aj):Sp:=fun vs H Q _=>∃(q p:Addr) (n:Int) (M:List Addr) (s:T.St) (l ns:List Str) (z:Str),vs=[.ref q,.str (T.pick n s l).2]∧T.At H M q p n (T.pick n s l).1∧T.mid ns n z s l∧l≠[]∧ns.length≤60∧∀H',Kp M H H'→T.At H' M q p n (T.gone n (T.pick n s l).1 (T.pick n s l).2)→Q .non H'
def Gn(T:Aj):Sp:=fun vs H Q _=>∃(q p:Addr) (n:Int) (M:List Addr) (s:T.St) (l ns:List Str) (z:Str),vs=[.ref q,.str z]∧T.At H M q p n s∧T.mid ns n z s l∧z∈ns∧z∉l∧ns.length≤60∧∀H',Kp M H H'→T.At H' M q p n (T.came n s z)→Q .non H'
def Nq(T:Aj)(K:PySem.W.Frag)(C S:Addr):Sp:=fun vs H Q _=>∃(H0:Hp) (q p sh d:Addr) (M:List Addr) (n need:Int) (ts:List Th) (ls:Ly) (s:T.St) (z:Str),vs=[.ref q,.ref sh,.int need]∧Da T K C S H0 H q p sh d M n ts ls s∧T.mid (ts.map (·.1)) n z s (lyN ls)∧need≤n∧ls.length≤60∧ts.length≤60∧T.cnt s≤300∧
 ∀(w:Addr) (ls':Ly) (H':Hp),Kp (d::M) H H'→H w=none→H' w=some (.lst ((gf T (rm ts) n need s (lyN ls) []).2.2.map V.str))→lyN ls'=(gf T (rm ts) n need s (lyN ls) []).2.1→Da T K C S H0 H' q p sh d M n ts ls' (gf T (rm ts) n need s (lyN ls) []).1→Q (.ref w) H'
def Px(T:Aj)(K:PySem.W.Frag)(C S:Addr):Sp:=fun vs H Q _=>∃(H0:Hp) (q p sh d:Addr) (M:List Addr) (n:Int) (ts:List Th) (ls:Ly) (s:T.St) (z:Str),vs=[.ref q,.ref sh,.str z]∧Da T K C S H0 H q p sh d M n ts ls s∧T.inv (ts.map (·.1)) n s (lyN ls)∧(ts.map (·.1)).Nodup∧ts.length≤60∧z∈ts.map (·.1)∧rm ts z≤n∧T.cnt s≤299∧
 ∀(t g:Addr) (ls':Ly) (H':Hp),Kp (d::M) H H'→H t=none→H g=none→H' t=some (.tup [.str (gask T (rm ts) n (s,lyN ls) z).2.1,.bl (gask T (rm ts) n (s,lyN ls) z).2.2.1,.ref g])→H' g=some (.lst ((gask T (rm ts) n (s,lyN ls) z).2.2.2.map V.str))→lyN ls'=(gask T (rm ts) n (s,lyN ls) z).1.2→Da T K C S H0 H' q p sh d M n ts ls' (gask T (rm ts) n (s,lyN ls) z).1.1→Q (.ref t) H'
end NR
namespace L2
section
variable {X:Cx} {pins:List (Addr×Obj)} {σ:St} {H:Hp} {s:Shared} {a C dx g:Addr} {fs:List (Str×V)} {m:Str} {A:Around} {E:Value→Shared→Prop}
theorem T7{b:Bool}{Q:Value→Shared→Prop}(I:Inv X pins σ H s)(e:H a=some (.ins C dx fs))(c:Cls X.K C)(k:Cp X.K C m g)(l:fs.lookup m=none)
 (hgf:PySem.W.specialIn X.K (.ref g) "__get__"=some (some (.builtin "function.__get__"))) (ht:PySem.W.takesIn X.K (.ref g)=some false) (hc:PySem.W.copiedNames.contains m=false)
 (h:Q (.ref s.heap.objs.size) {s with heap:=s.heap.push (PySem.W.methodObj (.ref g) (.ref a)),toks:=s.toks+1}):wpAny (model X.prog X.w) A (getAttr (.ref a) m b) Q E s:=by
 obtain ⟨mA,O,r,_,_,_⟩:=Kd I.hok e;have hn:mA m=none:=E4.none_of (by rw [← l];exact r m);obtain ⟨od,J,hl⟩:=O.look;have hK:X.K.In ({s with toks:=s.toks+1}:Shared).heap:=I.kIn
 exact PySem.W.get_bind I.kIn J (PySem.W.plainGet_of (c.get m)).1 (PySem.W.findObj_fn c.hd k.at_ hgf ht hc (by rw [hl,hn])) (PySem.W.plainGet_of (c.get m)).2
  (wpAny_call (PySem.W.fn_get (s:={s with toks:=s.toks+1}) hK (beq_iff_eq.mp k.fn) (PySem.W.handed_on rfl h)))
end
end L2
namespace L2
section
variable {X:Cx} {k:Nat} {f a q:Addr} {fd:FuncData} {ps:List Str} {sp:Sp}
theorem Nr{pins:List (Addr×Obj)}{σ:St}{H:Hp}{s:Shared}{Q:VK}{us:List Value}{vs:List V}{E:Value→Shared→Prop}(F:Al X.prog X.w X.K X.mg X.base CX0 k f fd ps sp)(hr:Br (k+1) X.A)(hb:C1 X.K fd ps [])
 (I:Inv X pins σ H s) (r:Aw vs us) (hq:s.heap.get? q=some (PySem.W.methodObj (.ref f) (.ref a))) (h:sp (.ref a::vs) H Q E0):wpAny (model X.prog X.w) X.A.in1 (call (.ref q) us) (EP X pins σ Q) E s:=by
 have r':Aw (V.ref a::vs) (Value.ref a::us):= .cons rfl r
 have hl:(Value.ref a::us).length=ps.length:=by rw [← r'.length];exact F.len _ _ _ _ h
 have hb':=hb s (Value.ref a::us) I.kIn (by simpa using hl);rw [List.append_nil]at hb';refine wpAny_call (ks_codeAny_call_bound (a:=⟨us,[]⟩) hq (codeAny_mono (F.run X.A.in1 X.stack s H ⟨Value.ref a::us,[]⟩ (Value.ref a::us) (V.ref a::vs) Q E0 hr.in1 (Ke.in1 I.env0) hb' r' h) fun r s' hq=>?_))
 cases r with
 | error e=>exact False.elim hq
 | ok fl=>
  cases fl with
  | ret u=>exact I.after hq
  | next=>exact False.elim hq
  | brk=>exact False.elim hq
  | cont=>exact False.elim hq
end
def btK(kf:Nat→List Int):Nat→Nat→Bool:=fun i j=>HT.D2 (kf i) (kf j)
section
variable {X:Cx} {pins:List (Addr×Obj)} {σ:St} {k:Nat} {g a q mo it S:Addr} {fd:FuncData} {ps:List Str} {sp:Sp} {H0:Hp} {xs:List V} {kf:Nat→List Int} {R:Result→Shared→Prop}
theorem Inv.turn1{H:Hp}{s:Shared}{b:Addr}{h':Heap}{t':Nat}(I:Inv X pins σ H s)(fp:D8 X pins H b)(hk:∀c o,c≠b→s.heap.get? c=some o→h'.get? c=some o):Inv X pins σ H {s with heap:=h',toks:=t'}:=
 I.turned hk fp.1 fp.2.1 fp.2.2.2.1 fp.2.2.2.2.1 fp.2.2.2.2.2
theorem D8.at{H H':Hp}{b:Addr}(h:D8 X pins H b)(hn:H' b=none):D8 X pins H' b:=⟨hn,h.2⟩
theorem Y1(F:Al X.prog X.w X.K X.mg X.base CX0 k g fd ps sp)(hr:Br (k+1) X.A)(hb:C1 X.K fd ps [])(hq:SqL X.K H0 a xs)(hai:a≠it)
 (turn:∀i v,xs[i]?=some v→∀H',A6 H0 H'→sp [.ref q,v] H' (fun u H''=>A6 H' H''∧∃t,u= .ref t∧H'' t=some (.tup ((kf i).map V.int))) E0)
 (hR:∀v u H' s',A6 H0 H'→Inv X pins σ H' s'→Ao v u→xs[argBest (btK kf) (xs.length - 1)]?=some v→R (.ok (.ret u)) s')
 (nmi:mo≠it) (nms:mo≠S) (nis:it≠S):
 ∀(r j:Nat) (s:Shared) (H:Hp) (vb:Value) (t:Addr) (c:Nat) (v0:V),xs.length - (j+1)=r→j+1≤xs.length→Inv X pins σ H s→A6 H0 H→D8 X pins H mo→D8 X pins H it→D8 X pins H S→
   s.heap.get? mo=some (PySem.W.methodObj (.ref g) (.ref q))→s.heap.get? S=some (seqObj "list" #[vb,.ref t] c)→s.heap.IsListIter it a (j+1)→
   xs[argBest (btK kf) j]?=some v0→Ao v0 vb→H t=some (.tup ((kf (argBest (btK kf) j)).map V.int))→
   codeAny (model X.prog X.w) X.A (.builtin "min.loop" ⟨[.ref it,.ref mo,.ref S],[]⟩) R s:=by
 have hname:(toString "min"++toString ".loop":String)="min.loop":=by decide
 have hh:X.A.in1.handled=none:=hr.hd;intro r
 induction r with
 | zero=>
  intro j s H vb t c v0 hrr hj I sm fm fi fs gm gS hit hx0 rv0 ht;obtain ⟨its,rv,p,hz⟩:=I.list (sm.seq hq);have hln:=rv.length;have W:=Walks.list (prog:=X.prog) (w:=X.w) (A:=X.A.in1) hh it a hai its.toArray
  have hsz:its.toArray.size=xs.length:=by rw [List.size_toArray,hln]
  have hin:j+1=xs.length:=by omega
  refine codeAny_builtin PySem.F.entry_min_loop ?_;rw [Around.under_plainId PySem.F.plain_min_loop _];show wpAny _ X.A.in1 (seqItems? (.ref S) >>=_) _ _ _;refine wpAny_bind (wpAny_seqItems gS rfl ?_);show wpAny _ X.A.in1 (tryCatch (pyNext (.ref it)) _ >>=_) _ _ _;refine wpAny_bind (wpAny_tryCatch (W.done _ _ _ ⟨by rw [hsz,← hin];exact hit,p.isList⟩ fun h' tk' hk'=>?_));have hk2:∀b o,b≠it→s.heap.get? b=some o→h'.get? b=some o:=fun b o e=>hk' b o (by simpa using e);have I1:Inv X pins σ H {s with heap:=h',toks:=tk'}:=I.turn1 fi hk2;have gS':=hk2 S _ (Ne.symm nis) gS;have s1:=Heap.SameBut.update h' S (Obj.mapSeq fun _=>(#[]:Array Value));show wpAny _ X.A.in1 (updateSeq S (fun _=>#[]) >>=_) _ _ _;refine wpAny_bind ?_;refine wpAny_updateSeq gS' rfl (wpAny_bind (wpAny_letGo (wpAny_pure ?_)));refine hR v0 vb H _ sm (I1.turn1 (t':=tk') fs fun b o e e2=>(s1.2 b e).trans e2) rv0 ?_;rw [show xs.length - 1=j by omega]
  exact hx0
 | succ r ih=>
  intro j s H vb t c v0 hrr hj I sm fm fi fs gm gS hit hx0 rv0 ht;obtain ⟨its,rv,p,hz⟩:=I.list (sm.seq hq);have hln:=rv.length;have W:=Walks.list (prog:=X.prog) (w:=X.w) (A:=X.A.in1) hh it a hai its.toArray
  have hsz:its.toArray.size=xs.length:=by rw [List.size_toArray,hln]
  have hlt:j+1 < xs.length:=by omega
  refine codeAny_builtin PySem.F.entry_min_loop ?_;rw [Around.under_plainId PySem.F.plain_min_loop _];show wpAny _ X.A.in1 (seqItems? (.ref S) >>=_) _ _ _;refine wpAny_bind (wpAny_seqItems gS rfl ?_);show wpAny _ X.A.in1 (tryCatch (pyNext (.ref it)) _ >>=_) _ _ _;refine wpAny_bind (wpAny_tryCatch (W.item (j+1) _ _ _ (by rw [hsz];exact hlt) ⟨hit,p.isList⟩ fun v h' tk' hP hst' hk'=>?_));have hk2:∀b o,b≠it→s.heap.get? b=some o→h'.get? b=some o:=fun b o e=>hk' b o (by simpa using e);have hxj:=List.getElem?_eq_getElem hlt;obtain ⟨v',hv',rv'⟩:=rv.get hxj
  have hvv:v'=v:=by
   have:its[j+1]?=some v:=by simpa using hP
   rw [hv']at this;exact Option.some.inj this
  subst hvv;obtain ⟨oI',hoI',hoc,hod⟩:=id hst'.1;have I1:Inv X pins σ H {s with heap:=h',toks:=tk'}:=I.turn1 fi hk2;have gS':=hk2 S _ (Ne.symm nis) gS;have gm':=hk2 mo _ nmi gm
  have I1p:Inv X (pins++[(mo,PySem.W.methodObj (.ref g) (.ref q)),(S,seqObj "list" #[vb,.ref t] c),(it,oI')]) σ H {s with heap:=h',toks:=tk'}:=I1.pins_of fun p hp=>by
   rcases List.mem_append.mp hp with hp | hp
   · exact I1.pin p (List.mem_append_right _ hp)
   · simp only [List.mem_cons,List.not_mem_nil,or_false]at hp
     rcases hp with rfl | rfl | rfl
     · exact ⟨gm',fm.1,fm.2.1,fm.2.2.1,fun v e=>by cases e⟩
     · exact ⟨gS',fs.1,fs.2.1,fs.2.2.1,fun v e=>by cases e⟩
     · exact ⟨hoI',fi.1,fi.2.1,fi.2.2.1,fun v e=>by rw [hod]at e;cases e⟩
  show wpAny _ X.A.in1 (tryCatch (holding [v'] (call (.ref mo) [v'])) _ >>=_) _ _ _;refine wpAny_bind (wpAny_tryCatch (wpAny_holding (thn (Nr (vs:=[xs[j+1]]) F hr hb I1p (.cons rv' .nil) gm' (turn (j+1) _ hxj H sm)) fun x s2 he=>?_)));obtain ⟨y,H2,I2p,ry,sm2,t2,rfl,ht2⟩:=he;obtain rfl:x=Value.ref t2:=ry;have P2:=fun p hp=>I2p.pin p (List.mem_append_right _ (List.mem_append_right _ hp));have pm:=P2 (mo,PySem.W.methodObj (.ref g) (.ref q)) (by simp);have pS:=P2 (S,seqObj "list" #[vb,.ref t] c) (by simp);have pI:=P2 (it,oI') (by simp);have I2:Inv X pins σ H2 s2:=I2p.pins_of fun p hp=>I2p.pin p (List.mem_append_right _ (List.mem_append_left _ hp))
  have hit2:s2.heap.IsListIter it a (j+1+1):=⟨oI',pI.1,hoc,hod⟩
  have smx:=sm.trans sm2;have ht':=sm2 _ _ ht;obtain ⟨us1,r1,p1,_⟩:=I2.tuple (SqT.of ht2);obtain ⟨us2,r2,p2,_⟩:=I2.tuple (SqT.of ht');have hu:X.A.in1.units < cLine:=Nat.lt_of_le_of_lt (by omega) hr.in1.un;show wpAny _ X.A.in1 (tryCatch (holding [v',.ref t2] (richCompare .Lt (.ref t2) (.ref t) >>=_)) _ >>=_) _ _ _;refine wpAny_bind (wpAny_tryCatch (wpAny_holding (wpAny_bind (HT.Tw p1 p2 (N8 r1) (N8 r2) hu ?_))));refine wpAny_bind (wpAny_holding (wpAny_truthy_bool ?_));refine wpAny_bind (wpAny_letGo (wpAny_pure ?_))
  have eB:argBest (btK kf) (j+1)=if HT.D2 (kf (j+1)) (kf (argBest (btK kf) j))=true then j+1 else argBest (btK kf) j:=rfl
  by_cases hb':HT.D2 (kf (j+1)) (kf (argBest (btK kf) j))=true
  · have s1:=Heap.SameBut.update s2.heap S (Obj.mapSeq fun _=>#[v',.ref t2])
    obtain ⟨c2,hc2⟩:∃c2,(s2.heap.update S (Obj.mapSeq fun _=>#[v',.ref t2])).get? S=some (seqObj "list" #[v',.ref t2] c2):=⟨_,get?_update_seq pS.1 fun _=>#[v',.ref t2]⟩
    rw [if_pos hb']at eB;simp only [hb',if_true];refine wpAny_bind ?_;refine wpAny_updateSeq pS.1 rfl (wpAny_bind (wpAny_letGo ?_));rw [hname];have I3:Inv X pins σ H2 {s2 with heap:=s2.heap.update S (Obj.mapSeq fun _=>#[v',.ref t2]),toks:=s2.toks}:=I2.turn1 (fs.at pS.2.1) fun b o e e2=>(s1.2 b e).trans e2;exact wpAny_pure ⟨plainId_quiet PySem.F.plain_min_loop _,ih (j+1) _ H2 v' t2 c2 _ (by omega) hlt I3 smx (fm.at pm.2.1) (fi.at pI.2.1) (fs.at pS.2.1) ((s1.2 mo nms).trans pm.1) hc2 ⟨oI',(s1.2 it nis).trans pI.1,hoc,hod⟩ (by rw [eB];exact hxj) rv' (by rw [eB];exact ht2)⟩
  · rw [if_neg hb']at eB
    simp only [hb',Bool.false_eq_true,if_false];refine wpAny_bind (wpAny_letGo ?_);rw [hname];exact wpAny_pure ⟨plainId_quiet PySem.F.plain_min_loop _,ih (j+1) s2 H2 vb t c v0 (by omega) hlt I2 smx (fm.at pm.2.1) (fi.at pI.2.1) (fs.at pS.2.1) pm.1 pS.1 hit2 (by rw [eB];exact hx0) rv0 (by rw [eB];exact ht')⟩
end
section
variable {X:Cx} {pins:List (Addr×Obj)} {σ:St} {k:Nat} {g a q mo:Addr} {fd:FuncData} {ps:List Str} {sp:Sp} {H:Hp} {s:Shared} {xs:List V} {kf:Nat→List Int} {Q:VK}
theorem Y2(F:Al X.prog X.w X.K X.mg X.base CX0 k g fd ps sp)(hr:Br (k+1) X.A)(hb:C1 X.K fd ps [])(I:Inv X pins σ H s)(hq:SqL X.K H a xs)(hne:xs≠[])
 (gm:s.heap.get? mo=some (PySem.W.methodObj (.ref g) (.ref q))) (fm:D8 X pins H mo)
 (turn:∀i v,xs[i]?=some v→∀H',A6 H H'→sp [.ref q,v] H' (fun u H''=>A6 H' H''∧∃t,u= .ref t∧H'' t=some (.tup ((kf i).map V.int))) E0)
 (hQ:∀v H',A6 H H'→xs[argBest (btK kf) (xs.length - 1)]?=some v→Q v H'):
 wpAny (model X.prog X.w) X.A (call (.builtin "min") [.ref a] [(Str.ofString "key",.ref mo)]) (EP X pins σ Q) X.xe s:=by
 have hname:(toString "min"++toString ".loop":String)="min.loop":=by decide
 have hh:X.A.in1.handled=none:=hr.hd;obtain ⟨its,rv,p,hz⟩:=I.list hq;have hln:=rv.length;have hpos:0 < xs.length:=List.length_pos_iff.mpr hne
 have hla:a < s.heap.objs.size:=by obtain ⟨o,n,e,_⟩:=p;exact Heap.lt_size e
 have hlm:mo < s.heap.objs.size:=Heap.lt_size gm;refine kmk_tree PySem.F.kind_min PySem.F.plain_min PySem.F.entry_min (kmk_min_key _ _) ?_;show wpAny _ X.A.in1 (Builtin.Builtins.bindParams "min" ["key","default"] 0 ⟨[],[(Str.ofString "key",.ref mo)]⟩ >>=_) _ _ s;refine wpAny_bind (wpAny_of_eq (show Builtin.Builtins.bindParams "min" ["key","default"] 0 ⟨[],[(Str.ofString "key",.ref mo)]⟩=pure [some (.ref mo),none] from rfl) ?_);refine wpAny_bind (wpAny_pure ?_);refine wpAny_bind (wpAny_pyIter_list p.isList ?_);refine wpAny_bind (wpAny_newList ?_ (Nat.zero_le _));rw [hname];refine wpAny_pure ⟨plainId_quiet PySem.F.plain_min_loop _,?_⟩;have hS:(s.heap.push {cls:= .type "list_iterator",data:= .fields #[.ref a,.int 0 0]}).objs.size=s.heap.objs.size+1:=size_push' ..;generalize hSe:(s.heap.push {cls:= .type "list_iterator",data:= .fields #[.ref a,.int 0 0]}).objs.size=S at hS;have hai:a≠s.heap.objs.size:=Nat.ne_of_lt hla
 have nmi:mo≠s.heap.objs.size:=Nat.ne_of_lt hlm
 have nms:mo≠S:=by rw [hS];exact Nat.ne_of_lt (Nat.lt_succ_of_lt hlm)
 have nis:s.heap.objs.size≠S:=by rw [hS];exact Nat.ne_of_lt (Nat.lt_succ_self _)
 have k1:∀b o,s.heap.get? b=some o→((s.heap.push {cls:= .type "list_iterator",data:= .fields #[.ref a,.int 0 0]}).push (seqObj "list" #[] 0)).get? b=some o:=fun b o e=>Heap.get?_push_of_some _ (Heap.get?_push_of_some _ e);have fi:D8 X pins H s.heap.objs.size:=I.fpOk (Nat.le_refl _) (I.hok.fresh (Nat.le_refl _));have fs:D8 X pins H S:=I.fpOk (by rw [hS];exact Nat.le_succ _) (I.hok.fresh (by rw [hS];exact Nat.le_succ _));have gI:((s.heap.push {cls:= .type "list_iterator",data:= .fields #[.ref a,.int 0 0]}).push (seqObj "list" #[] 0)).get? s.heap.objs.size=some {cls:= .type "list_iterator",data:= .fields #[.ref a,.int 0 0]}:=Heap.get?_push_of_some _ (Heap.get?_push_size _ rfl)
 have gS:((s.heap.push {cls:= .type "list_iterator",data:= .fields #[.ref a,.int 0 0]}).push (seqObj "list" #[] 0)).get? S=some (seqObj "list" #[] 0):=by rw [← hSe];exact Heap.get?_push_size _ rfl
 have gm1:=k1 _ _ gm;have I1:Inv X pins σ H {s with heap:=(s.heap.push {cls:= .type "list_iterator",data:= .fields #[.ref a,.int 0 0]}).push (seqObj "list" #[] 0),toks:=s.toks}:=I.kept k1;obtain ⟨its',rv1,p1,_⟩:=I1.list hq;have hln1:=rv1.length;have W:=Walks.list (prog:=X.prog) (w:=X.w) (A:=X.A.in1) hh s.heap.objs.size a hai its'.toArray
 have hsz:its'.toArray.size=xs.length:=by rw [List.size_toArray,hln1]
 refine codeAny_builtin PySem.F.entry_min_loop ?_;rw [Around.under_plainId PySem.F.plain_min_loop _];show wpAny _ X.A.in1 (seqItems? (.ref S) >>=_) _ _ _;refine wpAny_bind (wpAny_seqItems gS rfl ?_);show wpAny _ X.A.in1 (tryCatch (pyNext (.ref s.heap.objs.size)) _ >>=_) _ _ _;refine wpAny_bind (wpAny_tryCatch (W.item 0 _ _ _ (by rw [hsz];exact hpos) ⟨⟨_,gI,rfl,rfl⟩,p1.isList⟩ fun v h' tk' hP hst' hk'=>?_));have hk2:∀b o,b≠s.heap.objs.size→((s.heap.push {cls:= .type "list_iterator",data:= .fields #[.ref a,.int 0 0]}).push (seqObj "list" #[] 0)).get? b=some o→h'.get? b=some o:=fun b o e=>hk' b o (by simpa using e);have hx0:=List.getElem?_eq_getElem hpos;obtain ⟨v',hv',rv'⟩:=rv1.get hx0
 have hvv:v'=v:=by
  have:its'[0]?=some v:=by simpa using hP
  rw [hv']at this;exact Option.some.inj this
 subst hvv;obtain ⟨oI',hoI',hoc,hod⟩:=id hst'.1;have I2:Inv X pins σ H {s with heap:=h',toks:=tk'}:=I1.turn1 fi hk2;have gS':=hk2 S _ (Ne.symm nis) gS;have gm':=hk2 mo _ nmi gm1
 have I2p:Inv X (pins++[(mo,PySem.W.methodObj (.ref g) (.ref q)),(S,seqObj "list" #[] 0),(s.heap.objs.size,oI')]) σ H {s with heap:=h',toks:=tk'}:=I2.pins_of fun p hp=>by
  rcases List.mem_append.mp hp with hp | hp
  · exact I2.pin p (List.mem_append_right _ hp)
  · simp only [List.mem_cons,List.not_mem_nil,or_false]at hp
    rcases hp with rfl | rfl | rfl
    · exact ⟨gm',fm.1,fm.2.1,fm.2.2.1,fun v e=>by cases e⟩
    · exact ⟨gS',fs.1,fs.2.1,fs.2.2.1,fun v e=>by cases e⟩
    · exact ⟨hoI',fi.1,fi.2.1,fi.2.2.1,fun v e=>by rw [hod]at e;cases e⟩
 show wpAny _ X.A.in1 (tryCatch (holding [v'] (call (.ref mo) [v'])) _ >>=_) _ _ _;refine wpAny_bind (wpAny_tryCatch (wpAny_holding (thn (Nr (vs:=[xs[0]]) F hr hb I2p (.cons rv' .nil) gm' (turn 0 _ hx0 H (A6.refl H))) fun x s2 he=>?_)));obtain ⟨y,H2,I3p,ry,sm2,t2,rfl,ht2⟩:=he;obtain rfl:x=Value.ref t2:=ry;have P2:=fun p hp=>I3p.pin p (List.mem_append_right _ (List.mem_append_right _ hp));have pm:=P2 (mo,PySem.W.methodObj (.ref g) (.ref q)) (by simp);have pS:=P2 (S,seqObj "list" #[] 0) (by simp);have pI:=P2 (s.heap.objs.size,oI') (by simp);have I3:Inv X pins σ H2 s2:=I3p.pins_of fun p hp=>I3p.pin p (List.mem_append_right _ (List.mem_append_left _ hp));have s1:=Heap.SameBut.update s2.heap S (Obj.mapSeq fun _=>#[v',.ref t2])
 obtain ⟨c2,hc2⟩:∃c2,(s2.heap.update S (Obj.mapSeq fun _=>#[v',.ref t2])).get? S=some (seqObj "list" #[v',.ref t2] c2):=⟨_,get?_update_seq pS.1 fun _=>#[v',.ref t2]⟩
 show wpAny _ X.A.in1 (updateSeq S (fun _=>#[v',.ref t2]) >>=_) _ _ _;refine wpAny_bind ?_;refine wpAny_updateSeq pS.1 rfl ?_;rw [hname];have I4:Inv X pins σ H2 {s2 with heap:=s2.heap.update S (Obj.mapSeq fun _=>#[v',.ref t2]),toks:=s2.toks}:=I3.turn1 (fs.at pS.2.1) fun b o e e2=>(s1.2 b e).trans e2;refine wpAny_pure ⟨plainId_quiet PySem.F.plain_min_loop _,Y1 (H0:=H) (kf:=kf) (xs:=xs) (a:=a) F hr hb hq hai turn (fun v u H' s' smH I' ru hv=>?_) nmi nms nis _ 0 _ H2 v' t2 c2 xs[0] rfl hpos I4 sm2 (fm.at pm.2.1) (fi.at pI.2.1) (fs.at pS.2.1) ((s1.2 mo nms).trans pm.1) hc2 ⟨oI',(s1.2 _ nis).trans pI.1,hoc,hod⟩ hx0 rv' ht2⟩;exact ⟨v,H',I',ru,hQ v H' smH hv⟩
end
structure J2t(P:Program)(w:World)(K:PySem.W.Frag)(mg:Str→Option Value)(base:Heap)(k:Nat)(C:Addr)(m:Str)(ps:List Str)(sp:Sp):Prop where
 ex:∃(f:Addr) (fd:FuncData),Al P w K mg base CX0 k f fd ps sp∧Cp K C m f∧C1 K fd ps []∧PySem.W.specialIn K (.ref f) "__get__"=some (some (.builtin "function.__get__"))∧PySem.W.takesIn K (.ref f)=some false
def J69(K:PySem.W.Frag)(C:Addr)(m:Str)(sp:Sp)(ta:TA)(to:TE):TE:=fun σ H Q=>ta σ H fun vs H1=>to σ H1 fun o H2=>∃(a q dx:Addr) (fs:List (Str×V)) (xs:List V) (kf:Nat→List Int),vs=[.ref a]∧o= .ref q∧H2 q=some (.ins C dx fs)∧fs.lookup m=none∧SqL K H2 a xs∧xs≠[]∧
 (∀i v,xs[i]?=some v→∀H',A6 H2 H'→sp [.ref q,v] H' (fun u H''=>A6 H' H''∧∃t,u= .ref t∧H'' t=some (.tup ((kf i).map V.int))) E0)∧∀v H',A6 H2 H'→xs[argBest (btK kf) (xs.length - 1)]?=some v→Q v H'
section
variable {X:Cx} {k j:Nat} {C:Addr} {ps:List Str} {sp:Sp} {m:Str} {x:Str} {p pos apos kp:Pos} {e o:Expr} {t:TA} {to:TE}
theorem Wn(D:J2t X.prog X.w X.K X.mg X.base j C m ps sp)(c:Cls X.K C)(hr:Br k X.A)(hg:Gl X x)(hm:X.mg x=none)(hv:bootBuiltins x=some (.builtin "min"))(ha:PA X [e] t)(ho:PE X o to)(hba:attributeBase o m X.env (eval o X.env)=eval o X.env)(hcn:PySem.W.copiedNames.contains m=false:=by decide+kernel)(hj:j+1≤k:=by decide)(hn:x≠"__name__":=by decide)(hdb:(x==("__debug__":Str))=false:=by decide)
 (he:backTo pos (starEach [e] X.env)=(false,eval e X.env)::backTo pos (starEach [] X.env):=by rfl) (hpl:(backTo pos (starEach [e] X.env)).any (·.1)=false:=by rfl):
 PE X (.Call (.Name x p) [e] [⟨some (Str.ofString "key"),.Attribute o m apos,kp⟩] pos) (J69 X.K C m sp t to):=by
 obtain ⟨g,fd,F,M,hb,hgf,htk⟩:=D.ex;intro pins s σ H Q I h;refine wpAny_Call_Name_kw (G9 I hg hm hv ?_ hn hdb);refine callWith_kw (thn (ha pos pins s σ H _ I h) fun us s1 hq_=>?_) he hpl;obtain ⟨vs,H1,I1,r1,q1⟩:=hq_;refine kws_cons (Uy hba (thn (ho pins s1 σ H1 _ I1 q1) fun u s2 hq_=>?_));obtain ⟨y,H2,I2,ry,a,q,dx,fs,xs,kf,ev,ey,hq,hl,hx,hne,turn,fin⟩:=hq_;subst ev ey;obtain rfl:u=Value.ref q:=ry;obtain ⟨u,rfl,ru⟩:=Gc r1;obtain rfl:u=Value.ref a:=ru;refine T7 I2 hq c M hl hgf htk hcn (kws_nil ?_);have I3:Inv X pins σ H2 {s2 with heap:=s2.heap.push (PySem.W.methodObj (.ref g) (.ref q)),toks:=s2.toks+1}:=I2.kept fun b o e=>Heap.get?_push_of_some _ e;exact Y2 (q:=q) (g:=g) (F.mono (show j≤j from Nat.le_refl j)) (hr.mono hj) hb I3 hx hne (Heap.get?_push_size _ rfl) (I2.fpOk (Nat.le_refl _) (I2.hok.fresh (Nat.le_refl _))) turn fin
theorem Wo{K:PySem.W.Frag}{σ:St}{H:Hp}{Q:VK}:J69 K C m sp t to σ H Q=t σ H fun vs H1=>to σ H1 fun o H2=>∃(a q dx:Addr) (fs:List (Str×V)) (xs:List V) (kf:Nat→List Int),vs=[.ref a]∧o= .ref q∧H2 q=some (.ins C dx fs)∧fs.lookup m=none∧SqL K H2 a xs∧xs≠[]∧
 (∀i v,xs[i]?=some v→∀H',A6 H2 H'→sp [.ref q,v] H' (fun u H''=>A6 H' H''∧∃t,u= .ref t∧H'' t=some (.tup ((kf i).map V.int))) E0)∧∀v H',A6 H2 H'→xs[argBest (btK kf) (xs.length - 1)]?=some v→Q v H':=rfl
end
end L2
namespace N22
open L2 N1 N5 N4 N6 N12 N32 N14 N20 N18 N25 NR
def rf0(p:Addr)(n:Int):List (Str×V):=Bh "places" (.int n) (Bh "stock" (.ref p) [])
def Er(kvs:List (Key×V))(ns:List Str):Prop:=∃ks:List Str,kvs.map (·.1)=ks.map Sum.inr∧ks.Nodup∧∀z∈ks,z∈ns
theorem Er.nil{ns:List Str}:Er [] ns:=⟨[],rfl,List.nodup_nil,by simp⟩
theorem Er.len{kvs:List (Key×V)}{ns:List Str}(h:Er kvs ns):kvs.length≤ns.length:=by
 obtain ⟨ks,e,nd,s⟩:=h;have:=congrArg List.length e;rw [List.length_map,List.length_map]at this;have:=Uk nd s;omega
theorem Er.put{kvs:List (Key×V)}{ns:List Str}{z:Str}{v:V}(h:Er kvs ns)(hz:z∈ns):Er (Ct kvs (Sum.inr z) v) ns:=by
 obtain ⟨ks,e,nd,s⟩:=h;refine ⟨if z∈ks then ks else ks++[z],N53.J2d e,?_,?_⟩
 · split
   · exact nd
   · rename_i hn
     rw [List.nodup_append];exact ⟨nd,by simp,fun a ha b hb e2=>hn (J2o (e2.trans (List.mem_singleton.mp hb)) ha)⟩
 · intro u hu
   split at hu
   · exact s u hu
   · rcases List.mem_append.mp hu with hu | hu
     · exact s u hu
     · rw [List.mem_singleton.mp hu];exact hz
end N22
namespace N21
open L2 N1 N5 N4 N6 N12 N32 N14 N20 N18 N25 NR N22
structure S2 where
 k:Int
 la:List (Key×V)
def lv(s:S2)(z:Str):Int:=match B8 s.la (Sum.inr z) with
 | some (.int i)=>i
 | _=>0
theorem Nt{s:S2}{z:Str}{i:Int}(h:B8 s.la (Sum.inr z)=some (.int i)):lv s z=i:=by unfold lv;rw [h]
def lmin(v:Str→Int)(l:List Str):Str:=l.getD (argBest (fun i j=>decide (v (l.getD i Str.empty) < v (l.getD j Str.empty))) (l.length - 1)) Str.empty
theorem Wp{v:Str→Int}{l:List Str}(h:l≠[]):lmin v l∈l∧∀u∈l,v (lmin v l)≤v u:=by
 have hl0:0 < l.length:=List.length_pos_iff.mpr h;have hb:=We (fun i=>v (l.getD i Str.empty)) (l.length - 1);unfold lmin;generalize argBest (fun i j=>decide (v (l.getD i Str.empty) < v (l.getD j Str.empty))) (l.length - 1)=m at hb
 have hm:m < l.length:=by omega
 refine ⟨?_,fun u hu=>?_⟩
 · rw [List.getD_eq_getElem?_getD,List.getElem?_eq_getElem hm];exact List.getElem_mem hm
 · obtain ⟨j,hj⟩:=List.mem_iff_getElem?.mp hu
   have hjl:=(List.getElem?_eq_some_iff.mp hj).1;have:=hb.2 j (by omega);rw [show l.getD j Str.empty=u by rw [List.getD_eq_getElem?_getD,hj];rfl]at this;exact this
structure LI(ns:List Str)(s:S2)(l:List Str):Prop where
 a:Er s.la ns
 v:∀z∈l,∃i,B8 s.la (Sum.inr z)=some (.int i)∧i≤s.k
 o:l.Pairwise fun x y=>lv s x≠lv s y
def Bp(s:S2)(z:Str):S2:=⟨s.k+1,Ct s.la (Sum.inr z) (.int (s.k+1))⟩
theorem Py{s:S2}{z u:Str}(h:u≠z):B8 (Bp s z).la (Sum.inr u)=B8 s.la (Sum.inr u):=by
 unfold Bp;simp only;rw [Kj,if_neg (J4x h)]
theorem Mp{s:S2}{z:Str}:B8 (Bp s z).la (Sum.inr z)=some (.int (s.k+1)):=by
 unfold Bp;simp only;rw [Kj,if_pos rfl]
theorem Lo{s:S2}{z u:Str}(h:u≠z):lv (Bp s z) u=lv s u:=by unfold lv;rw [Py h]
theorem J2u{s:S2}{z:Str}:lv (Bp s z) z=s.k+1:=Nt Mp
theorem LI.le{ns:List Str}{s:S2}{l:List Str}(h:LI ns s l):∀z∈l,lv s z≤s.k:=fun z hz=>by
 obtain ⟨i,e,hi⟩:=h.v z hz;rw [Nt e];exact hi
theorem LI.ask{ns:List Str}{s:S2}{l:List Str}{z:Str}(h:LI ns s l)(hz:z∈ns):LI ns (Bp s z) l:=by
 refine ⟨h.a.put hz,fun u hu=>?_,h.o.imp_of_mem fun {x y} hx hy hxy=>?_⟩
 · by_cases e:u=z
   · rw [e];exact ⟨_,Mp,Int.le_refl _⟩
   · obtain ⟨i,e1,e2⟩:=h.v u hu
     exact ⟨i,(Py e).trans e1,by show i≤s.k+1;omega⟩
 · have lx:=h.le x hx
   have ly:=h.le y hy
   by_cases ex:x=z
   · by_cases ey:y=z
     · exact absurd (by rw [ex,ey]) hxy
     · rw [ex,J2u,Lo ey];omega
   · by_cases ey:y=z
     · rw [ey,J2u,Lo ex];omega
     · rw [Lo ex,Lo ey];exact hxy
theorem LI.drop{ns:List Str}{s:S2}{l:List Str}{z:Str}(h:LI ns s l):LI ns s (l.erase z):=
 ⟨h.a,fun u hu=>h.v u (List.mem_of_mem_erase hu),h.o.sublist List.erase_sublist⟩
structure LM(ns:List Str)(z:Str)(s:S2)(l:List Str):Prop where
 i:LI ns s l
 z:B8 s.la (Sum.inr z)=some (.int s.k)
 b:∀u∈l,lv s u < s.k
theorem LI.mid{ns:List Str}{s:S2}{l:List Str}{z:Str}(h:LI ns s l)(hz:z∈ns)(hn:z∉l):LM ns z (Bp s z) l:=
 ⟨h.ask hz,Mp,fun u hu=>by
  have:=h.le u hu;have e:lv (Bp s z) u=lv s u:=Lo (fun e=>hn (by rw [← e];exact hu));show lv (Bp s z) u < s.k+1
  omega⟩
theorem LM.came{ns:List Str}{s:S2}{l:List Str}{z:Str}(h:LM ns z s l):LI ns s (l++[z]):=by
 refine ⟨h.i.a,fun u hu=>?_,?_⟩
 · rcases List.mem_append.mp hu with hu | hu
   · exact h.i.v u hu
   · rw [List.mem_singleton.mp hu];exact ⟨_,h.z,Int.le_refl _⟩
 · rw [List.pairwise_append]
   refine ⟨h.i.o,List.pairwise_singleton ..,fun u hu y hy=>?_⟩;rw [List.mem_singleton.mp hy,Nt h.z];have:=h.b u hu;omega
def rf2(p:Addr)(n k:Int)(la:Addr):List (Str×V):=Bh "last" (.ref la) (Bh "present" (.int k) (rf0 p n))
def s20:S2:=⟨0,[]⟩
section
variable {p la:Addr} {n k k':Int}
theorem J4y:(rf2 p n k la).length=4:=by rfl
end
theorem J7i{v:Nat→Int}:btK (fun i=>[v i])=fun i j=>decide (v i < v j):=by
 funext i j;show (if v i=v j then false else decide (v i < v j))=decide (v i < v j);split
 · rename_i e;rw [e];exact (decide_eq_false (Int.lt_irrefl _)).symm
 · rfl
def Lp(T:Aj)(K:PySem.W.Frag)(C S:Addr):Sp:=fun vs H Q _=>∃(H0:Hp) (q p a:Addr) (M:List Addr) (n:Int) (ts:List Th) (ys:List Str) (s0:T.St),vs=[.ref q,.ref a]∧T.At H M q p n s0∧T.inv (ts.map (·.1)) n s0 []∧Ag K C H0 p ts∧A6 H0 H∧(∀m∈M,H0 m=none)∧(ts.map (·.1)).Nodup∧ts.length≤60∧SqL K H a (ys.map V.str)∧a∉M∧ys.length≤200∧(∀y∈ys,y∈ts.map (·.1))∧(∀y∈ys,rm ts y≤n)∧1≤n∧n≤1000000∧T.cnt s0≤50∧
 ∀(b:Addr) (as gs:List Addr) (H':Hp),Kp M H H'→H' b=some (.lst (as.map V.ref))→(∀(i:Nat) a,as[i]?=some a→∃xs,H' a=some (.tup xs))→J7h K H' b as gs (grows T (rm ts) n s0 ys ys.length)→T.At H' M q p n (gst T (rm ts) n s0 ys ys.length).1→H b=none→b∉gs→gs.Nodup→(∀(i:Nat) a g,as[i]?=some a→gs[i]?=some g→H a=none∧H g=none∧g∉M∧H' a=some (.tup [.str (NR.grow T (rm ts) n s0 ys i).1,.bl (NR.grow T (rm ts) n s0 ys i).2.1,.ref g])∧H' g=some (.lst ((NR.grow T (rm ts) n s0 ys i).2.2.map V.str)))→Q (.ref b) H'
end N21
namespace N24
open L2 N1 N5 N4 N6 N12 N32 N14 N20 N18 N25 NR N22 N21
def nx(ys:List Str)(j:Nat)(z:Str):Nat:=min (j+(ys.drop j).findIdx fun y=>decide (y=z)) ys.length
theorem J6a{ys:List Str}{j t:Nat}{z:Str}(h:ys[j+t]?=some z)(hno:∀u,u < t→ys[j+u]?≠some z):nx ys j z=j+t:=by
 unfold nx;have hl:=(List.getElem?_eq_some_iff.mp h).1
 have hd:t < (ys.drop j).length:=by rw [List.length_drop];omega
 have e:(ys.drop j).findIdx (fun y=>decide (y=z))=t:=by
  rw [List.findIdx_eq hd];refine ⟨?_,fun u hu=>?_⟩
  · have:=(List.getElem?_eq_some_iff.mp h).2
    rw [List.getElem_drop];exact decide_eq_true this
  · have:=hno u hu
    rw [List.getElem?_eq_getElem (show j+u < ys.length by omega)]at this;rw [List.getElem_drop];exact decide_eq_false (fun e=>this (by rw [e]))
 rw [e];omega
theorem J7j{ys:List Str}{j:Nat}{z:Str}(hno:∀u,j+u < ys.length→ys[j+u]?≠some z):nx ys j z=ys.length:=by
 unfold nx
 have e:(ys.drop j).findIdx (fun y=>decide (y=z))=(ys.drop j).length:=by
  rw [List.findIdx_eq_length];intro y hy;obtain ⟨u,hu⟩:=List.mem_iff_getElem?.mp hy;rw [List.getElem?_drop]at hu;have hl:=(List.getElem?_eq_some_iff.mp hu).1;exact decide_eq_false (fun e=>hno u hl (by rw [hu,e]))
 rw [e,List.length_drop];omega
theorem J4z{ys:List Str}{j:Nat}{z y:Str}(hy:ys[j]?=some y)(hne:y≠z):nx ys j z=nx ys (j+1) z:=by
 have hj:=(List.getElem?_eq_some_iff.mp hy).1;unfold nx;rw [List.drop_eq_getElem_cons hj,List.findIdx_cons,(List.getElem?_eq_some_iff.mp hy).2,decide_eq_false hne];show min (j+(List.findIdx _ _+1)) _=_;rw [show j+(List.findIdx (fun y=>decide (y=z)) (List.drop (j+1) ys)+1)=j+1+List.findIdx (fun y=>decide (y=z)) (List.drop (j+1) ys) by omega]
def rkF(ys:List Str)(s:S2)(z:Str):List Int:=[0 - ((nx ys s.k.toNat z:Int)+1),lv s z]
def fmin(ys:List Str)(s:S2)(l:List Str):Str:=l.getD (argBest (btK fun i=>rkF ys s (l.getD i Str.empty)) (l.length - 1)) Str.empty
theorem J9n{a b c d:Int}:HT.D2 [a,b] [c,d]=decide (a < c∨(a=c∧b < d)):=by
 show (if a=c then (if b=d then false else decide (b < d)) else decide (a < c))=_
 by_cases h:a=c
 · rw [if_pos h]
   by_cases h2:b=d
   · rw [if_pos h2];symm;exact decide_eq_false (by omega)
   · rw [if_neg h2]
     by_cases h3:b < d
     · rw [decide_eq_true h3];symm;exact decide_eq_true (by omega)
     · rw [decide_eq_false h3];symm;exact decide_eq_false (by omega)
 · rw [if_neg h]
   by_cases h3:a < c
   · rw [decide_eq_true h3];symm;exact decide_eq_true (by omega)
   · rw [decide_eq_false h3];symm;exact decide_eq_false (by omega)
theorem J6b(a b:Nat→Int):∀k,argBest (btK fun i=>[a i,b i]) k≤k∧∀j,j≤k→¬(a j < a (argBest (btK fun i=>[a i,b i]) k)∨(a j=a (argBest (btK fun i=>[a i,b i]) k)∧b j < b (argBest (btK fun i=>[a i,b i]) k))):=by
 intro k
 induction k with
 | zero=>exact ⟨Nat.le_refl _,fun j hj=>by rw [Nat.le_zero.mp hj];show ¬(a 0 < a 0∨(a 0=a 0∧b 0 < b 0));omega⟩
 | succ k ih=>
  have e:argBest (btK fun i=>[a i,b i]) (k+1)=if HT.D2 [a (k+1),b (k+1)] [a (argBest (btK fun i=>[a i,b i]) k),b (argBest (btK fun i=>[a i,b i]) k)]=true then k+1 else argBest (btK fun i=>[a i,b i]) k:=rfl
  rw [e,J9n];generalize argBest (btK fun i=>[a i,b i]) k=m at ih;split
  · rename_i h
    have h:=of_decide_eq_true h;refine ⟨Nat.le_refl _,fun j hj=>?_⟩
    by_cases e:j=k+1
    · rw [e];omega
    · have:=ih.2 j (by omega);omega
  · rename_i h
    have h:¬(a (k+1) < a m∨(a (k+1)=a m∧b (k+1) < b m)):=fun z=>h (decide_eq_true z);refine ⟨Nat.le_succ_of_le ih.1,fun j hj=>?_⟩
    by_cases e:j=k+1
    · rw [e];exact h
    · exact ih.2 j (by omega)
theorem Wq{ys:List Str}{s:S2}{l:List Str}(h:l≠[]):fmin ys s l∈l∧∀u∈l,nx ys s.k.toNat u < nx ys s.k.toNat (fmin ys s l)∨(nx ys s.k.toNat u=nx ys s.k.toNat (fmin ys s l)∧lv s (fmin ys s l)≤lv s u):=by
 have hl0:0 < l.length:=List.length_pos_iff.mpr h;have hb:=J6b (fun i=>0 - ((nx ys s.k.toNat (l.getD i Str.empty):Int)+1)) (fun i=>lv s (l.getD i Str.empty)) (l.length - 1);unfold fmin;have e:(fun i=>rkF ys s (l.getD i Str.empty))=fun i=>[0 - ((nx ys s.k.toNat (l.getD i Str.empty):Int)+1),lv s (l.getD i Str.empty)]:=rfl;rw [e];generalize argBest (btK fun i=>[0 - ((nx ys s.k.toNat (l.getD i Str.empty):Int)+1),lv s (l.getD i Str.empty)]) (l.length - 1)=m at hb
 have hm:m < l.length:=by omega
 refine ⟨?_,fun u hu=>?_⟩
 · rw [List.getD_eq_getElem?_getD,List.getElem?_eq_getElem hm];exact List.getElem_mem hm
 · obtain ⟨j,hj⟩:=List.mem_iff_getElem?.mp hu
   have hjl:=(List.getElem?_eq_some_iff.mp hj).1;have:=hb.2 j (by omega);rw [show l.getD j Str.empty=u by rw [List.getD_eq_getElem?_getD,hj];rfl]at this;omega
def rf3(p:Addr)(n k:Int)(la ak:Addr):List (Str×V):=Bh "asks" (.ref ak) (rf2 p n k la)
def QAt(C:Addr)(ys:List Str)(H:Hp)(M:List Addr)(q p:Addr)(n:Int)(s:S2):Prop:=∃la ak,M=[q,la,ak]∧(∃dx,H q=some (.ins C dx (rf3 p n s.k la ak)))∧H la=some (.dK s.la)∧H ak=some (.lst (ys.map V.str))
def T3(C:Addr)(ys:List Str):Aj where
 C:=C
 St:=S2
 At:=QAt C ys
 asked:=fun _ s z=>Bp s z
 pick:=fun _ s l=>(s,fmin ys s l)
 gone:=fun _ s _=>s
 came:=fun _ s _=>s
 inv:=fun ns _ s l=>LI ns s l∧0≤s.k
 mid:=fun ns _ z s l=>LM ns z s l∧0≤s.k
 dep:=fun e ⟨la,ak,hM,⟨dx,ho⟩,h1,h2⟩=>by
  rw [hM]at e;exact ⟨la,ak,hM,⟨dx,e _ (by simp) _ ho⟩,e _ (by simp) _ h1,e _ (by simp) _ h2⟩
 live:=fun ⟨la,ak,hM,⟨dx,ho⟩,h1,h2⟩ m hm e=>by
  rw [hM]at hm;simp only [List.mem_cons,List.not_mem_nil,or_false]at hm;rcases hm with e1 | e1 | e1
  · rw [e1,ho]at e;cases e
  · rw [e1,h1]at e;cases e
  · rw [e1,h2]at e;cases e
 obj:=fun ⟨la,ak,hM,⟨dx,ho⟩,h1,h2⟩=>⟨dx,_,ho,by rfl,by rfl,by rfl,by rfl,by rfl,by rfl,by rfl⟩
 i_hit:=fun {ns n s l z} h hz _=>⟨LI.ask h.1 hz,by show 0≤s.k+1;have:=h.2;omega⟩
 i_mid:=fun {ns n s l z} h hz hn=>⟨LI.mid h.1 hz hn,by show 0≤s.k+1;have:=h.2;omega⟩
 i_pick:=fun h hl=>⟨(Wq hl).1,⟨LI.drop h.1.i,h.1.z,fun u hu=>h.1.b u (List.mem_of_mem_erase hu)⟩,h.2⟩
 i_came:=fun h _ _=>⟨LM.came h.1,h.2⟩
 cnt:=fun s=>s.k.toNat
 c_ask:=fun n s z=>by show (s.k+1).toNat≤s.k.toNat+1;omega
 c_pick:=fun n s l=>Nat.le_refl _
 c_gone:=fun n s z=>Nat.le_refl _
 c_came:=fun n s z=>Nat.le_refl _
section
variable {p la ak:Addr} {n k k':Int}
theorem J50:(rf3 p n k la ak).length=5:=by rfl
theorem Gp:(rf3 p n k la ak).lookup ("present":Str)=some (V.int k):=by rfl
theorem T8:(rf3 p n k la ak).lookup ("last":Str)=some (V.ref la):=by rfl
theorem Nu:(rf3 p n k la ak).lookup ("asks":Str)=some (V.ref ak):=by rfl
end
def Ia(K:PySem.W.Frag)(S C:Addr):Sp:=fun vs H Q _=>∃(q dx p a:Addr) (n:Int) (ts:List Th) (ys:List Str),vs=[.ref q,.ref p,.int n,.ref a]∧H q=some (.ins C dx [])∧Ag K S H p ts∧(ts.map (·.1)).Nodup∧SqL K H a (ys.map V.str)∧ys.length≤200∧(∀y∈ys,y∈ts.map (·.1))∧(∀y∈ys,rm ts y≤n)∧1≤n∧n≤1000000∧a≠q∧∀H' la ak,SameBut q H H'→H la=none→H ak=none→QAt C ys H' [q,la,ak] q p n s20→Q .non H'
def Dv(C:Addr):Sp:=fun vs H Q _=>∃(q p:Addr) (n:Int) (M:List Addr) (s:S2) (z:Str) (ys:List Str),vs=[.ref q,.str z]∧QAt C ys H M q p n s∧s.la.length≤1000∧∀H',Kp M H H'→QAt C ys H' M q p n (Bp s z)→Q .non H'
def Ib(C:Addr):Sp:=fun vs H Q _=>∃(q p:Addr) (n:Int) (M:List Addr) (s:S2) (z:Str) (i:Int) (ys:List Str),vs=[.ref q,.str z]∧QAt C ys H M q p n s∧B8 s.la (Sum.inr z)=some (.int i)∧Q (.int i) H
def Dw(C:Addr):Sp:=fun vs H Q _=>∃(q p:Addr) (n:Int) (M:List Addr) (s:S2) (z:Str) (ys:List Str),vs=[.ref q,.str z]∧QAt C ys H M q p n s∧0≤s.k∧s.k≤1000000∧ys.length≤1000∧Q (.int ((nx ys s.k.toNat z:Int)+1)) H
def Ed(C:Addr):Sp:=fun vs H Q _=>∃(q p:Addr) (n:Int) (M:List Addr) (s:S2) (z:Str) (ys:List Str),vs=[.ref q,.str z]∧QAt C ys H M q p n s∧0≤s.k∧s.k≤1000000∧ys.length≤1000∧(∃i:Int,B8 s.la (Sum.inr z)=some (.int i))∧∀t,H t=none→Q (.ref t) (upd H t (.tup ((rkF ys s z).map V.int)))
theorem J7k{ys:List Str}{j:Nat}{z:Str}(h:ys[j]?=some z):nx ys j z=j:=by
 have:=J6a (t:=0) (j:=j) (z:=z) (ys:=ys) (by rw [Nat.add_zero];exact h) (fun u hu=>absurd hu (Nat.not_lt_zero _));rw [this,Nat.add_zero]
def Es(C:Addr):Sp:=fun vs H Q E=>∃ys,Ec (T3 C ys) vs H Q E
def Dx(C:Addr)(K:PySem.W.Frag):Sp:=fun vs H Q E=>∃ys:List Str,ys.length≤1000∧Dm (T3 C ys) K vs H Q E
def Ic(C:Addr):Sp:=fun vs H Q E=>∃ys,Gm (T3 C ys) vs H Q E
def Ie(C:Addr):Sp:=fun vs H Q E=>∃ys,Gn (T3 C ys) vs H Q E
end N24
namespace N23
open L2 N1 N5 N4 N6 N12 N32 N14 N20 N18 N25 NR N22 N21 N24
end N23
namespace N26
open L2 N1 N5 N4 N6 N12 N32 N14 N20 N18 N25 NR
structure R4 where
 a:List Str
 b:List Str
 p:List Str
 q:List Str
 k:Int
 r:Bool
def l4(s:R4)(j:Nat):List Str:=match j with
 | 0=>s.a
 | 1=>s.b
 | 2=>s.p
 | _=>s.q
end N26
namespace L2
def J2v{ι:Type}(C:ι→Addr)(m:Str)(sp:ι→Sp)(EE:St→XK)(ta:TE)(t:TA):TE:=fun σ H Q=>ta σ H fun x H1=>∃b a dx fs,x= .ref a∧H1 a=some (.ins (C b) dx fs)∧fs.lookup m=none∧t σ H1 fun vs H2=>sp b (x::vs) H2 Q (EE σ)
section
variable {ι:Type} {X:Cx} {CX:CXT} {k j:Nat} {C:ι→Addr} {ps:List Str} {sp:ι→Sp} {EE:St→XK} {m:Str} {pos apos:Pos} {e o:Expr} {es:List Expr} {ta:TE} {t:TA}
theorem L3{pl:Sem Bool}(D:∀b,DefM X.prog X.w X.K X.mg X.base CX j (C b) m ps (sp b))(c:∀b,Cls X.K (C b))(hr:Br k X.A)(hx:El CX X EE)(he:PE X o ta)(ha:PA X (e::es) t)(hj:j≤k:=by decide)
 (hst:starEach (e::es) X.env=(false,eval e X.env)::starEach es X.env:=by rfl) (hpl:(backTo pos (starEach es X.env)).any (·.1)=false:=by rfl)
 (ht:eval (.Call (.Attribute o m apos) (e::es) [] pos) X.env=(do
  let ov ← eval o X.env
  standAt apos.atName
  let (f,first) ← holding [ov] (getMethod ov m pl)
  callWith pos f first (backTo pos (starEach (e::es) X.env)) (backToKw pos (keywordEach [] X.env))):=by rfl):
 PE X (.Call (.Attribute o m apos) (e::es) [] pos) (J2v C m sp EE ta t):=by
 intro pins s σ H Q I h;refine PySem.W.methodCall_KW (pl:=pl) (thn (he pins s σ H _ I h) fun u s1 hq_=>?_) ht;obtain ⟨x,H1,I1,rx,b,a,dx,fs,ex,ea,l,q⟩:=hq_;obtain ⟨f,fd,F,hm,hb⟩:=(D b).ex;subst ex;obtain rfl:u=Value.ref a:=rx;refine K0 I1 ea (c b) hm l ?_;refine PySem.W.callWith_K (first:=[.ref a]) (h₀:=X.base) I.ok.mod.kin hm.kp (thn (ha pos pins s1 σ H1 _ I1 q) fun us s2 ⟨vs,H2,I2,r,q2⟩=>⟨I2.kIn,?_⟩) hst hpl;exact Me (us:= .ref a::us) (vs:= .ref a::vs) (F.mono hj) hr hb hx I2 (.cons rfl r) q2
theorem T9{σ:St}{H:Hp}{Q:VK}:J2v C m sp EE ta t σ H Q=ta σ H fun x H1=>∃b a dx fs,x= .ref a∧H1 a=some (.ins (C b) dx fs)∧fs.lookup m=none∧t σ H1 fun vs H2=>sp b (x::vs) H2 Q (EE σ):=rfl
end
end L2
namespace N28
open L2 N1 N5 N4 N6 N12 N32 N14 N20 N18 N25 NR N22 N21 N24 N23 N26
section
variable {P:Program} {w:World} {K:PySem.W.Frag} {mg:Str→Option Value} {base:Heap} {CX:CXT} {k:Nat} {C:Addr} {m:Str} {ps:List Str} {sp sp':Sp}
theorem _root_.L2.DefM.imp(D:DefM P w K mg base CX k C m ps sp)(h:∀vs H Q E,sp' vs H Q E→sp vs H Q E):DefM P w K mg base CX k C m ps sp':=by
 obtain ⟨f,fd,F,a,b⟩:=D.ex;exact ⟨f,fd,F.imp h,a,b⟩
end
def L4{ι:Type}(T:ι→Aj)(K:PySem.W.Frag)(C S:Addr):Sp:=fun vs H Q E=>∃b,Nq (T b) K C S vs H Q E
def Mq{ι:Type}(T:ι→Aj)(K:PySem.W.Frag)(C S:Addr):Sp:=fun vs H Q E=>∃b,Px (T b) K C S vs H Q E
def Dn(K:PySem.W.Frag):Sp:=fun vs H Q _=>∃(X q dx p:Addr) (n:Int),vs=[.ref q,.ref p,.int n]∧H q=some (.ins X dx [])∧Cls K X∧Ar K X "stock"∧Ar K X "places"∧1≤n∧n≤1000000∧∀H',SameBut q H H'→H' q=some (.ins X dx (rf0 p n))→Q .non H'
def D0(K:PySem.W.Frag):Sp:=fun vs H Q _=>∃(X q dx p:Addr) (n:Int),vs=[.ref q,.ref p,.int n]∧H q=some (.ins X dx [])∧Cls K X∧(Ar K X "stock"∧Ar K X "places")∧Ar K X "present"∧Ar K X "last"∧1≤n∧n≤1000000∧∀H' la,SameBut q H H'→H la=none→la≠q→H' q=some (.ins X dx (rf2 p n 0 la))→H' la=some (.dK [])→Q .non H'
def Ee{ι:Type}(T:ι→Aj)(K:PySem.W.Frag)(C S:Addr):Sp:=fun vs H Q E=>∃b,Lp (T b) K C S vs H Q E
end N28
namespace N63
open L2 N1 N5 N4 N6 N12 N32 N14 N20 N18 N25 NR N22 N21 N28
section
variable {C:Addr} {R:Str→Int} {n1 n2:Int} {ns ys:List Str}
theorem li0:LI ns s20 []:=⟨Er.nil,by simp,List.Pairwise.nil⟩
end
section
variable {H H':Hp} {x dx:Addr} {o:HO}
theorem Mr(h1:H x=none)(h2:H dx=none)(s:SameBut x (upd (upd H dx (.own x)) x o) H'):A6 H H':=fun b ob e=>by
 have n1:b≠x:=fun e2=>by rw [e2,h1]at e;cases e
 have n2:b≠dx:=fun e2=>by rw [e2,h2]at e;cases e
 exact s b ob (by rw [A5 n1,A5 n2];exact e) n1
theorem Nv(h1:H x=none)(h2:H dx=none):A6 H (upd (upd H dx (.own x)) x o):=fun b ob e=>by
 have n1:b≠x:=fun e2=>by rw [e2,h1]at e;cases e
 have n2:b≠dx:=fun e2=>by rw [e2,h2]at e;cases e
 rw [A5 n1,A5 n2];exact e
end
end N63
namespace N74
open L2 N1 N5 N4 N6 N12 N71
structure Gt where
 h:Str→Int
 l:Str→Bool
 st:Str→Int
 es:List (List V)
end N74
namespace N34
open L2 N1 N5 N31 N4 N32 N41 N35
variable {ys:List Str} {R:Str→Int} {n c:Nat}
theorem Ta{tail:L2.St}{te:Blk→TE}{Q:VK}{H1:Hp}{n:Nat}(f:Nat→V)(hz:n≤sizeLine)(he:∀b (i:Nat) H Q',i < n→A6 H1 H→(∀H',A6 H H'→Q' (f i) H')→te b (some (.int (0+(i:Int)))::tail) H Q')
 (q:∀D H',H1 D=none→A6 H1 H'→H' D=some (.lst ((List.range n).map f))→Q (.ref D) H'):B6 (none::tail) (fun _=>Bq 0) (fun _=>Cu) te Q (Itr 0 n) H1:=by
 refine Sk (lo:=0) (fun i v _=>v=f i) (fun i y H H' l zs h _ _=>h) hz (fun b i H Q' hi sm q'=>he b i H Q' hi sm fun H' sm'=>q' _ _ sm' rfl) fun D ys H' hD sm hd hl hall=>?_
 have e:ys=(List.range n).map f:=by
  apply List.ext_getElem?;intro i
  by_cases hi:i < n
  · rw [List.getElem?_map,List.getElem?_range hi,List.getElem?_eq_getElem (by omega)]
    exact congrArg some (hall i _ (List.getElem?_eq_getElem (by omega)))
  · rw [List.getElem?_eq_none (by omega),List.getElem?_eq_none (by rw [List.length_map,List.length_range];omega)]
 rw [e]at hd;exact q D H' hD sm hd
end N34
namespace N93
open L2 N1 N5 N4 N6 N12 N32 N14 N20 N18 N25 NR N22 N21 N63 N35
variable {ys:List Str} {R:Str→Int} {n c:Nat}
theorem ones{l:List Str}(h:∀y∈l,R y=1):(l.map R).sum=l.length:=by
 induction l with
 | nil=>rfl
 | cons a l ih=>
  rw [List.map_cons,List.sum_cons,ih fun y hy=>h y (List.mem_cons_of_mem _ hy),h a List.mem_cons_self,List.length_cons];omega
open N71
open N74
end N93
namespace N43
open L2 N1 N5 N4 N6 N12 N32 N14 N20 N18 N25 NR N22 N21 NF
def gps(ys:List Str):Nat→List (Nat×Nat)
 | 0=>[]
 | n+1=>gps ys n++(match ear ys n with | none=>[] | some e=>[(e,n)])
abbrev jmp(C:Str→Int)(ys:List Str)(g:Nat×Nat):Jp:=(g.1+1,g.2,C (ys.getD g.2 Str.empty))
abbrev jps(C:Str→Int)(ys:List Str)(n:Nat):List Jp:=(gps ys n).map (jmp C ys)
theorem Gq{ys:List Str}{n:Nat}(h:ear ys n=none):gps ys (n+1)=gps ys n:=by
 show gps ys n++(match ear ys n with | none=>[] | some e=>[(e,n)])=_;rw [h];exact List.append_nil _
theorem Ef{ys:List Str}{n e:Nat}(h:ear ys n=some e):gps ys (n+1)=gps ys n++[(e,n)]:=by
 show gps ys n++(match ear ys n with | none=>[] | some e=>[(e,n)])=_;rw [h]
theorem L6{ys:List Str}:∀{n:Nat} {g:Nat×Nat},g∈gps ys n→g.2 < n∧ear ys g.2=some g.1
 | 0,g,h=>by cases h
 | n+1,g,h=>by
  cases e:ear ys n with
  | none=>rw [Gq e]at h;have:=L6 h;exact ⟨by omega,this.2⟩
  | some b=>
   rw [Ef e]at h;rcases List.mem_append.mp h with h | h
   · have:=L6 h;exact ⟨by omega,this.2⟩
   · rw [List.mem_singleton.mp h];exact ⟨Nat.lt_succ_self _,e⟩
theorem Wr{ys:List Str}:∀{N n:Nat},n≤N→∃r,gps ys N=gps ys n++r
 | 0,n,h=>⟨[],by rw [Nat.le_zero.mp h];rfl⟩
 | N+1,n,h=>by
  by_cases e:n=N+1
  · rw [e];exact ⟨[],(List.append_nil _).symm⟩
  · obtain ⟨r,hr⟩:=Wr (ys:=ys) (N:=N) (n:=n) (by omega)
    refine ⟨r++(match ear ys N with | none=>[] | some e=>[(e,N)]),?_⟩;rw [← List.append_assoc,← hr];rfl
theorem J2w{ys:List Str}{N n e:Nat}(hn:n < N)(h:ear ys n=some e):(gps ys N)[(gps ys n).length]?=some (e,n):=by
 obtain ⟨r,hr⟩:=Wr (ys:=ys) (N:=N) (n:=n+1) hn;rw [hr,Ef h,List.append_assoc,List.getElem?_append_right (Nat.le_refl _),Nat.sub_self];rfl
theorem jok{C:Str→Int}{ys:List Str}{N:Nat}(hC:∀n,n < N→0≤C (ys.getD n Str.empty)):JOk (N+1) (jps C ys N):=fun j hj=>by
 obtain ⟨g,hg,rfl⟩:=List.mem_map.mp hj;obtain ⟨h1,h2⟩:=L6 hg;have:=(Df h2).1;exact ⟨by show g.1+1≤g.2;omega,by show g.2 < N+1;omega,hC _ h1⟩
def Cm(q:Nat→Int)(N:Nat):List Int:=(List.range N).map fun i=>q (i+1) - q i
theorem Tb{q:Nat→Int}{N:Nat}:(Cm q N).length=N:=by unfold Cm;rw [List.length_map,List.length_range]
theorem J51{q:Nat→Int}{N i:Nat}(h:i < N):(Cm q N).getD i 0=q (i+1) - q i:=by
 unfold Cm;rw [List.getD_eq_getElem?_getD,List.getElem?_map,List.getElem?_range h];rfl
theorem Oy{q:Nat→Int}{N b:Nat}(h:b≤N):((Cm q N).take b).sum=q b - q 0:=by
 unfold Cm;rw [← List.map_take,List.take_range,Nat.min_eq_left h];exact U9
theorem J2x{q:Nat→Int}{N a b:Nat}(h:a≤b)(hb:b≤N):N41.seg (Cm q N) a b=q b - q a:=by
 have e:=Oy (q:=q) hb;have e2:=Oy (q:=q) (N:=N) (b:=a) (by omega);rw [← List.take_append_drop a ((Cm q N).take b),List.sum_append,List.take_take,Nat.min_eq_left h]at e;unfold N41.seg;omega
theorem Oz{q:Nat→Int}{j:Jp}{b:Bool}:∀{js:List Jp} {tk:List Bool},js.length=tk.length→tsum q (js++[j]) (tk++[b])=tsum q js tk+if b then q j.2.1 - q j.1 else 0
 | [],[],_=>by show (if b then _ else _)+0=0+_;omega
 | i::js,c::tk,h=>by
  show (if c then _ else _)+tsum q (js++[j]) (tk++[b])=((if c then _ else _)+tsum q js tk)+_;rw [Oz (by simpa using h)];omega
def tkA(ys:List Str)(tk:List Bool)(n:Nat):Bool:=match ear ys n with
 | none=>false
 | some _=>tk.getD (gps ys n).length false
def un(C:Str→Int)(ys:List Str)(tk:List Bool):Nat→Int
 | 0=>0
 | n+1=>un C ys tk n+if tkA ys tk n then 0 else C (ys.getD n Str.empty)
section
variable {C r:Str→Int} {ys:List Str} {tk:List Bool} {P:Int} {h:List Int} {N:Nat}
theorem J7l{n e:Nat}(hn:n < N)(he:ear ys n=some e):(gps ys n).length < (jps C ys N).length∧(jps C ys N).getD (gps ys n).length (0,0,0)=jmp C ys (e,n):=by
 have g:=J2w hn he;have hl:=(List.getElem?_eq_some_iff.mp g).1;refine ⟨by rw [List.length_map];exact hl,?_⟩;rw [List.getD_eq_getElem?_getD,List.getElem?_map,g];rfl
theorem lsum(F:FE (N+1) (jps C ys N) tk P h)(hr:∀n,n < N→r (ys.getD n Str.empty)=1):∀n,n≤N→N41.fl C r (Cm (at' h) N) 1 (P+1) ys n=un C ys tk n+tsum (at' h) (jps C ys n) (tk.take (gps ys n).length) - P * at' h n
 | 0,_=>by
  show (0:Int)=0+tsum (at' h) [] (tk.take 0) - P * at' h 0;rw [F.z,List.take_zero];show (0:Int)=0+0 - P * 0;omega
 | n+1,hn=>by
  have ih:=lsum F hr n (by omega);show N41.fl C r (Cm (at' h) N) 1 (P+1) ys n+(N41.Dg C r (Cm (at' h) N) 1 ys n - (Cm (at' h) N).getD n 0 * (P+1 - r (ys.getD n Str.empty)))=(un C ys tk n+if tkA ys tk n then 0 else C (ys.getD n Str.empty))+_ - _;rw [ih,J51 (by omega),hr n (by omega),show P+1 - 1=P by omega]
  have em:(at' h (n+1) - at' h n) * P=P * at' h (n+1) - P * at' h n:=by rw [Int.mul_comm,Int.mul_sub]
  rw [em];unfold N41.Dg tkA
  cases he:ear ys n with
  | none=>
   have ej:jps C ys (n+1)=jps C ys n:=by unfold jps;rw [Gq he]
   rw [ej,Gq he];show _+(C (ys.getD n Str.empty) * 1 - _)=un C ys tk n+C (ys.getD n Str.empty)+_ - _;omega
  | some e=>
   obtain ⟨hk,hj⟩:=J7l (C:=C) (N:=N) (by omega) he;have el:=(Df he).1
   have ej:jps C ys (n+1)=jps C ys n++[jmp C ys (e,n)]:=by unfold jps;rw [Ef he,List.map_append];rfl
   have et:tk.take (gps ys (n+1)).length=tk.take (gps ys n).length++[tk.getD (gps ys n).length false]:=by
    rw [Ef he,List.length_append,List.length_singleton,List.take_add_one];congr 1;rw [List.getD_eq_getElem?_getD,List.getElem?_eq_getElem (by rw [F.l];exact hk)];rfl
   rw [ej,et,Oz (by rw [List.length_map,List.length_take,F.l];omega)];have sg:=J2x (q:=at' h) (N:=N) (show e+1≤n by omega) (by omega);show _+(min (C (ys.getD n Str.empty) * 1) (r (ys.getD n Str.empty) * N41.seg (Cm (at' h) N) (e+1) n) - _)=un C ys tk n+(if tk.getD (gps ys n).length false then 0 else C (ys.getD n Str.empty))+(_+if tk.getD (gps ys n).length false then at' h n - at' h (e+1) else 0) - _;rw [sg,hr n (by omega)]
   cases hb:tk.getD (gps ys n).length false with
   | true=>
    have:=F.t1 _ hk hb;rw [hj]at this;have:at' h n - at' h (e+1)≤C (ys.getD n Str.empty):=this;rw [Int.min_eq_right (by omega),if_pos rfl,if_pos rfl];omega
   | false=>
    have:=F.t0 _ hk hb;rw [hj]at this;have:C (ys.getD n Str.empty)≤at' h n - at' h (e+1):=this;rw [Int.min_eq_left (by omega),if_neg (by decide),if_neg (by decide)];omega
theorem J2y(F:FE (N+1) (jps C ys N) tk P h)(hr:∀n,n < N→r (ys.getD n Str.empty)=1):N41.fl C r (Cm (at' h) N) 1 (P+1) ys N=un C ys tk N:=by
 rw [lsum F hr N (Nat.le_refl _),List.take_of_length_le (by rw [F.l,List.length_map];exact Nat.le_refl _),F.s,show N+1 - 1=N from rfl];omega
theorem Ms(F:FE (N+1) (jps C ys N) tk P h):∀t∈Cm (at' h) N,0≤t:=fun t ht=>by
 obtain ⟨i,hi,rfl⟩:=List.mem_map.mp ht;have:=F.up i (by have:=List.mem_range.mp hi;omega);omega
end
def rf4(p:Addr)(n k:Int)(la sd:Addr):List (Str×V):=Bh "stays" (.ref sd) (rf2 p n k la)
def stB(kv:List (Key×V))(i:Int):Bool:=(B8 kv (Sum.inl i)).isSome
def PAt(kv:List (Key×V))(C:Addr)(H:Hp)(M:List Addr)(q p:Addr)(n:Int)(s:S2):Prop:=∃la sd,M=[q,la,sd]∧la≠sd∧(∃dx,H q=some (.ins C dx (rf4 p n s.k la sd)))∧H la=some (.dK s.la)∧H sd=some (.dK kv)
def rk4(kv:List (Key×V))(s:S2)(z:Str):Int:=if stB kv (lv s z) then 1 else 0
def T4(kv:List (Key×V))(C:Addr):Aj where
 C:=C
 St:=S2
 At:=PAt kv C
 asked:=fun _ s z=>Bp s z
 pick:=fun _ s l=>(s,lmin (rk4 kv s) l)
 gone:=fun _ s _=>s
 came:=fun _ s _=>s
 inv:=fun ns _ s l=>LI ns s l
 mid:=fun ns _ z s l=>LM ns z s l
 dep:=fun e ⟨la,sd,hM,nl,⟨dx,ho⟩,h1,h2⟩=>by
  rw [hM]at e;exact ⟨la,sd,hM,nl,⟨dx,e _ (by simp) _ ho⟩,e _ (by simp) _ h1,e _ (by simp) _ h2⟩
 live:=fun ⟨la,sd,hM,nl,⟨dx,ho⟩,h1,h2⟩ m hm e=>by
  rw [hM]at hm;simp only [List.mem_cons,List.not_mem_nil,or_false]at hm;rcases hm with e1 | e1 | e1
  · rw [e1,ho]at e;cases e
  · rw [e1,h1]at e;cases e
  · rw [e1,h2]at e;cases e
 obj:=fun ⟨la,sd,hM,nl,⟨dx,ho⟩,h1,h2⟩=>⟨dx,_,ho,by rfl,by rfl,by rfl,by rfl,by rfl,by rfl,by rfl⟩
 i_hit:=fun h hz _=>LI.ask h hz
 i_mid:=fun h hz hn=>LI.mid h hz hn
 i_pick:=fun h hl=>⟨(Wp hl).1,LI.drop h.i,h.z,fun u hu=>h.b u (List.mem_of_mem_erase hu)⟩
 i_came:=fun h _ _=>LM.came h
theorem Lz{t:Nat}:∀{js:List Jp} {tk:List Bool},over js tk t=((js.zip tk).filter fun p=>p.2 && cov p.1 t).length
 | [],tk=>by cases tk <;> rfl
 | j::js,[]=>rfl
 | j::js,b::tk=>by
  show (if b && cov j t then 1 else 0)+over js tk t=_;rw [Lz (js:=js) (tk:=tk),List.zip_cons_cons,List.filter_cons];show _=(if (b && cov j t)=true then _ else _:List (Jp×Bool)).length;split
  · rw [List.length_cons];omega
  · omega
def Sty(C:Str→Int)(ys:List Str)(N:Nat)(tk:List Bool)(kv:List (Key×V)):Prop:=∀i:Int,stB kv i=true↔∃k g,(gps ys N)[k]?=some g∧tk.getD k false=true∧i=(g.1:Int)+1
section
variable {C r:Str→Int} {ys ns:List Str} {tk:List Bool} {P:Nat} {kv:List (Key×V)} {N:Nat} {X:Addr}
structure PR(C r:Str→Int)(ys:List Str)(tk:List Bool)(P:Nat)(kv:List (Key×V))(i:Nat)(s:S2)(l:List Str)(paid:Int):Prop where
 k:s.k=i
 la:∀z,B8 s.la (Sum.inr z)=(An ys z i).map fun e=>V.int ((e:Int)+1)
 st:∀z e,An ys z i=some e→stB kv ((e:Int)+1)=true→z∈l
 pa:N41.Dd C r (P:Int) ys i l paid
 le:paid≤un C ys tk i
theorem PR.lv{i:Nat}{s:S2}{l:List Str}{paid:Int}(h:PR C r ys tk P kv i s l paid){z:Str}{e:Nat}(he:An ys z i=some e):lv s z=(e:Int)+1:=Nt (by rw [h.la,he];rfl)
theorem Pz{z:Str}{i:Nat}:An ys z (i+1)=if ys.getD i Str.empty=z then some i else An ys z i:=rfl
theorem J7m{s:S2}{i:Nat}(hk:s.k=i)(h:∀z,B8 s.la (Sum.inr z)=(An ys z i).map fun e=>V.int ((e:Int)+1)):∀z,B8 (Bp s (ys.getD i Str.empty)).la (Sum.inr z)=(An ys z (i+1)).map fun e=>V.int ((e:Int)+1):=fun z=>by
 rw [Pz]
 by_cases e:ys.getD i Str.empty=z
 · rw [if_pos e,← e,Mp,hk];rfl
 · rw [if_neg e,Py fun z'=>e z'.symm];exact h z
theorem Y3{s:S2}{l:List Str}{i:Nat}(hS:Sty C ys N tk kv)(ho:∀t,t < N→over (jps C ys N) tk t < P)(hl:tk.length=(jps C ys N).length)(hi:i < N)(hN:N≤ys.length)(hla:∀z,B8 s.la (Sum.inr z)=(An ys z i).map fun e=>V.int ((e:Int)+1))(hnd:l.Nodup)(has:∀y∈l,(An ys y i).isSome=true)(hz:ys.getD i Str.empty∉l)(hf:P≤l.length):∃u∈l,stB kv (N21.lv s u)=false:=by
 refine Classical.byContradiction fun hno=>?_
 have hall:∀u∈l,stB kv (N21.lv s u)=true:=fun u hu=>by
  cases e:stB kv (N21.lv s u) with
  | true=>rfl
  | false=>exact absurd ⟨u,hu,e⟩ hno
 let F:List (Jp×Bool):=((jps C ys N).zip tk).filter fun p=>p.2 && cov p.1 i
 have key:∀u∈l,∃e,An ys u i=some e∧e+1∈F.map fun p=>p.1.1:=fun u hu=>by
  obtain ⟨e,he⟩:=Option.isSome_iff_exists.mp (has u hu);refine ⟨e,he,?_⟩;have h1:=hall u hu;rw [Nt (s:=s) (z:=u) (by rw [hla,he];rfl)]at h1;obtain ⟨k,g,hg,hb,hi'⟩:=(hS _).mp h1
  have eg:g.1=e:=by omega
  obtain ⟨g1,g2⟩:=L6 (List.mem_of_getElem? hg);have hkl:=(List.getElem?_eq_some_iff.mp hg).1;obtain ⟨e1,e2⟩:=Df he;obtain ⟨e3,e4⟩:=Df g2
  have eu:ys.getD g.2 Str.empty=u:=by rw [← e4,eg,e2]
  have hlt:i < g.2:=by
   rcases Nat.lt_trichotomy i g.2 with c | c | c
   · exact c
   · exact absurd (by rw [c,eu];exact hu) hz
   · exact absurd eu (J1n he (by omega) c)
  refine List.mem_map.mpr ⟨(jmp C ys g,true),List.mem_filter.mpr ⟨?_,?_⟩,by show g.1+1=e+1;omega⟩
  · refine List.mem_iff_getElem?.mpr ⟨k,?_⟩
    rw [List.getElem?_zip_eq_some];refine ⟨by rw [List.getElem?_map,hg];rfl,?_⟩
    have:k < tk.length:=by rw [hl,List.length_map];exact hkl
    rw [List.getD_eq_getElem?_getD,List.getElem?_eq_getElem this]at hb;rw [List.getElem?_eq_getElem this];exact congrArg some hb
  · show (true && (decide (g.1+1≤i) && decide (i < g.2)))=true
    rw [decide_eq_true (show g.1+1≤i by omega),decide_eq_true hlt];rfl
 have hnd2:(l.map fun u=>((An ys u i).getD 0)+1).Nodup:=by
  rw [List.nodup_iff_pairwise_ne,List.pairwise_map];refine (List.nodup_iff_pairwise_ne.mp hnd).imp_of_mem fun {a b} ha hb hab hc=>hab ?_;obtain ⟨ea,h1,_⟩:=key a ha;obtain ⟨eb,h2,_⟩:=key b hb;rw [h1,h2]at hc;have hc:ea+1=eb+1:=hc
  have:ea=eb:=by omega
  rw [← (Df h1).2,← (Df h2).2,this]
 have hle:=List.Nodup.length_le_of_subset (l₂:=F.map fun p=>p.1.1) hnd2 fun x hx=>by
  obtain ⟨u,hu,rfl⟩:=List.mem_map.mp hx;obtain ⟨e,he,hm⟩:=key u hu;rw [he];exact hm
 rw [List.length_map,List.length_map]at hle;have:=ho i hi;rw [Lz]at this;have:F.length < P:=this;omega
theorem K8{l:List Str}(h:∀y∈l,r y=1):N41.sm r l=l.length:=by
 unfold N41.sm;exact N93.ones h
end
section
variable {T:Aj} {R:Str→Int} {n:Int} {ns:List Str}
theorem J2z{s:T.St}{l:List Str}{z:Str}(hR:∀u∈l,R u=1)(hz:R z=1)(hl:(l.length:Int) < n):gf T R n (R z) s l []=(s,l,[]):=Np (by rw [K8 hR,hz];omega)
theorem Ws{s:T.St}{l:List Str}{z:Str}(hm:T.mid ns n z s l)(hR:∀u∈l,R u=1)(hz:R z=1)(hl:(l.length:Int)=n)(hn:1≤n):(T.pick n s l).2∈l∧gf T R n (R z) s l []=(T.gone n (T.pick n s l).1 (T.pick n s l).2,l.erase (T.pick n s l).2,[(T.pick n s l).2]):=by
 have hne:l≠[]:=fun e=>by rw [e]at hl;simp at hl;omega
 obtain ⟨hp,_⟩:=T.i_pick hm hne;refine ⟨hp,?_⟩;rw [J2m (by rw [K8 hR,hz];omega) hp,Np]
 · rfl
 · have:=List.length_erase_of_mem hp
   have:=List.length_pos_of_mem hp;rw [K8 fun u hu=>hR u (List.mem_of_mem_erase hu),hz];omega
end
section
variable {C r:Str→Int} {ys ns:List Str} {tk:List Bool} {P:Nat} {kv:List (Key×V)} {X:Addr}
structure K9(P:Nat)(l:List Str)(z:Str)(rw_:N14.Row)(l':List Str):Prop where
 n:rw_.1=z
 b:rw_.2.1=decide (z∈l)
 hit:z∈l→rw_.2.2=[]∧l'=l
 few:z∉l→l.length < P→rw_.2.2=[]∧l'=l++[z]
 full:z∉l→¬l.length < P→∃u∈l,rw_.2.2=[u]∧l'=l.erase u++[z]
theorem P0(hS:Sty C ys ys.length tk kv)(ho:∀t,t < ys.length→over (jps C ys ys.length) tk t < P)(hl:tk.length=(jps C ys ys.length).length)(hP:1≤P)(hr:∀y∈ys,r y=1)(hC:∀y∈ys,0≤C y)(hin:∀y∈ys,y∈ns){i:Nat}(hi:i < ys.length){s:S2}{l:List Str}{paid:Int}(h:PR C r ys tk P kv i s l paid)(hI:LI ns s l)(hb:l.length≤P):
 PR C r ys tk P kv (i+1) (gask (T4 kv X) r P (s,l) (ys.getD i Str.empty)).1.1 (gask (T4 kv X) r P (s,l) (ys.getD i Str.empty)).1.2 (paid+if ys.getD i Str.empty∈l then 0 else C (ys.getD i Str.empty))∧(gask (T4 kv X) r P (s,l) (ys.getD i Str.empty)).1.2.length≤P∧K9 P l (ys.getD i Str.empty) (gask (T4 kv X) r P (s,l) (ys.getD i Str.empty)).2 (gask (T4 kv X) r P (s,l) (ys.getD i Str.empty)).1.2:=by
 have hzy:ys.getD i Str.empty∈ys:=List.mem_of_getElem? (N41.Bu hi);have hz1:=hr _ hzy;have hz0:=hC _ hzy;have hly:∀y∈l,y∈ys:=fun y hy=>N41.Kz (h.pa.asked y hy) (by omega);have hl1:∀y∈l,r y=1:=fun y hy=>hr y (hly y hy)
 have hu:un C ys tk (i+1)=un C ys tk i+if tkA ys tk i then 0 else C (ys.getD i Str.empty):=rfl
 have hla:=J7m h.k h.la
 have hk:(Bp s (ys.getD i Str.empty)).k=((i+1:Nat):Int):=by show s.k+1=_;rw [h.k];omega
 by_cases hm:ys.getD i Str.empty∈l
 · have e:gask (T4 kv X) r P (s,l) (ys.getD i Str.empty)=((Bp s (ys.getD i Str.empty),l),(ys.getD i Str.empty,true,[])):=if_pos hm
   rw [e,if_pos hm,Int.add_zero];refine ⟨⟨hk,hla,fun z e he hs=>?_,h.pa.hit hi hm,?_⟩,hb,⟨rfl,(decide_eq_true hm).symm,fun _=>⟨rfl,rfl⟩,fun w=>absurd hm w,fun w=>absurd hm w⟩⟩
   · rw [Pz]at he
     by_cases ez:ys.getD i Str.empty=z
     · rw [← ez];exact hm
     · rw [if_neg ez]at he;exact h.st z e he hs
   · have:=h.le
     rw [hu]
     split <;> omega
 · have e:gask (T4 kv X) r P (s,l) (ys.getD i Str.empty)=(((gf (T4 kv X) r P (r (ys.getD i Str.empty)) (Bp s (ys.getD i Str.empty)) l []).1,(gf (T4 kv X) r P (r (ys.getD i Str.empty)) (Bp s (ys.getD i Str.empty)) l []).2.1++[ys.getD i Str.empty]),(ys.getD i Str.empty,false,(gf (T4 kv X) r P (r (ys.getD i Str.empty)) (Bp s (ys.getD i Str.empty)) l []).2.2)):=if_neg hm
   rw [e,if_neg hm]
   have hle:paid+C (ys.getD i Str.empty)≤un C ys tk (i+1):=by
    have:=h.le;rw [hu];unfold tkA
    cases he:ear ys i with
    | none=>show _≤_+C _;omega
    | some b=>
     show _≤_+if tk.getD (gps ys i).length false then 0 else C _
     cases hb:tk.getD (gps ys i).length false with
     | false=>rw [if_neg (by decide)];omega
     | true=>exact absurd (h.st _ b he ((hS _).mpr ⟨_,_,J2w hi he,hb,rfl⟩)) hm
   by_cases hlt:l.length < P
   · have hg:gf (T4 kv X) r P (r (ys.getD i Str.empty)) (Bp s (ys.getD i Str.empty)) l []=(Bp s (ys.getD i Str.empty),l,[]):=J2z (T:=T4 kv X) hl1 hz1 (by omega)
     rw [hg];refine ⟨⟨hk,hla,fun z e he hs=>?_,h.pa.miss hi hm (by rw [K8 hl1,hz1];omega),hle⟩,by rw [List.length_append];simp;omega,⟨rfl,(decide_eq_false hm).symm,fun w=>absurd w hm,fun _ _=>⟨rfl,rfl⟩,fun _ w=>absurd hlt w⟩⟩;rw [Pz]at he
     by_cases ez:ys.getD i Str.empty=z
     · rw [← ez];exact List.mem_append_right _ (List.mem_singleton.mpr rfl)
     · rw [if_neg ez]at he;exact List.mem_append_left _ (h.st z e he hs)
   · have hmid:(T4 kv X).mid ns P (ys.getD i Str.empty) (Bp s (ys.getD i Str.empty)) l:=LI.mid hI (hin _ hzy) hm
     obtain ⟨hp,hg0⟩:=Ws (T:=T4 kv X) hmid hl1 hz1 (by omega) (by omega);have hg:gf (T4 kv X) r P (r (ys.getD i Str.empty)) (Bp s (ys.getD i Str.empty)) l []=(Bp s (ys.getD i Str.empty),l.erase (lmin (rk4 kv (Bp s (ys.getD i Str.empty))) l),[lmin (rk4 kv (Bp s (ys.getD i Str.empty))) l]):=hg0;rw [hg];have epk:((T4 kv X).pick P (Bp s (ys.getD i Str.empty)) l).2=lmin (rk4 kv (Bp s (ys.getD i Str.empty))) l:=rfl;rw [epk]at hp;have hne:l≠[]:=List.ne_nil_of_mem hp;obtain ⟨u,hul,hus⟩:=Y3 hS ho hl hi (Nat.le_refl _) h.la h.pa.nd h.pa.asked hm (by omega);have hlvo:∀y∈l,N21.lv (Bp s (ys.getD i Str.empty)) y=N21.lv s y:=fun y hy=>Lo fun ey=>hm (by rw [← ey];exact hy);have hmin:=(Wp (v:=rk4 kv (Bp s (ys.getD i Str.empty))) hne).2 u hul
     have hgo:stB kv (N21.lv s (lmin (rk4 kv (Bp s (ys.getD i Str.empty))) l))=false:=by
      unfold rk4 at hmin hp ⊢;rw [hlvo u hul,hus,hlvo _ hp]at hmin
      cases hx:stB kv (N21.lv s (lmin (fun z=>if stB kv (N21.lv (Bp s (ys.getD i Str.empty)) z)=true then 1 else 0) l)) with
      | false=>rfl
      | true=>rw [hx]at hmin;simp at hmin
     show PR C r ys tk P kv (i+1) (Bp s (ys.getD i Str.empty)) (l.erase (lmin (rk4 kv (Bp s (ys.getD i Str.empty))) l)++[ys.getD i Str.empty]) _∧(l.erase (lmin (rk4 kv (Bp s (ys.getD i Str.empty))) l)++[ys.getD i Str.empty]).length≤P∧K9 P l (ys.getD i Str.empty) (ys.getD i Str.empty,false,[lmin (rk4 kv (Bp s (ys.getD i Str.empty))) l]) (l.erase (lmin (rk4 kv (Bp s (ys.getD i Str.empty))) l)++[ys.getD i Str.empty]);generalize lmin (rk4 kv (Bp s (ys.getD i Str.empty))) l=x at hp hgo;have hlen:=List.length_erase_of_mem hp;have hpos:=List.length_pos_of_mem hp;have hpa:=h.pa.cast (M:=l.erase x) (fun y hy=>by rw [hl1 y hy];decide) List.erase_sublist;refine ⟨⟨hk,hla,fun z e he hs=>?_,hpa.miss hi (fun w=>hm (List.mem_of_mem_erase w)) (by rw [K8 fun y hy=>hl1 y (List.mem_of_mem_erase hy),hz1];omega),hle⟩,by rw [List.length_append];simp;omega,⟨rfl,(decide_eq_false hm).symm,fun w=>absurd w hm,fun _ w=>absurd w hlt,fun _ _=>⟨x,hp,rfl,rfl⟩⟩⟩
     rw [Pz]at he
     by_cases ez:ys.getD i Str.empty=z
     · rw [← ez];exact List.mem_append_right _ (List.mem_singleton.mpr rfl)
     · rw [if_neg ez]at he
       refine List.mem_append_left _ ((List.Nodup.mem_erase_iff h.pa.nd).mpr ⟨fun ex=>?_,h.st z e he hs⟩);rw [← ex,h.lv he,hs]at hgo;cases hgo
theorem J30:PR C r ys tk P kv 0 s20 [] 0:=⟨rfl,fun z=>rfl,(fun z e he=>by cases he),N41.Dd.start (by omega),Int.le_refl _⟩
def Ca(C:Str→Int)(rs:List N14.Row):Int:=((rs.filter fun x=>!x.2.1).map fun x=>C x.1).sum
theorem Ig{rs:List N14.Row}{x:N14.Row}:Ca C (rs++[x])=Ca C rs+if x.2.1 then 0 else C x.1:=by
 unfold Ca;rw [List.filter_append,List.map_append,List.sum_append]
 cases h:x.2.1 with
 | true=>
  have:List.filter (fun x:N14.Row=>!x.2.1) [x]=[]:=by rw [List.filter_cons,h];rfl
  rw [this];simp
 | false=>
  have:List.filter (fun x:N14.Row=>!x.2.1) [x]=[x]:=by rw [List.filter_cons,h];rfl
  rw [this];simp
theorem Tc(hS:Sty C ys ys.length tk kv)(ho:∀t,t < ys.length→over (jps C ys ys.length) tk t < P)(hl:tk.length=(jps C ys ys.length).length)(hP:1≤P)(hr:∀y∈ys,r y=1)(hC:∀y∈ys,0≤C y)(hin:∀y∈ys,y∈ns):∀i,i≤ys.length→PR C r ys tk P kv i (gst (T4 kv X) r P s20 ys i).1 (gst (T4 kv X) r P s20 ys i).2 (Ca C (grows (T4 kv X) r P s20 ys i))∧(gst (T4 kv X) r P s20 ys i).2.length≤P:=by
 intro i
 induction i with
 | zero=>intro _;exact ⟨J30,Nat.zero_le _⟩
 | succ i ih=>
  intro hi;obtain ⟨h1,h2⟩:=ih (by omega);have hz:=N41.Bu (ys:=ys) (k:=i) (by omega);have gi:=Dh (T:=T4 kv X) (R:=r) (n:=(P:Int)) (s0:=s20) (ns:=ns) N63.li0 hin (fun y hy=>by rw [hr y hy];omega) i (by omega);have k:=P0 (X:=X) hS ho hl hP hr hC hin (by omega) h1 gi.i h2;have e1:gst (T4 kv X) r P s20 ys (i+1)=(gask (T4 kv X) r P (gst (T4 kv X) r P s20 ys i) (ys.getD i Str.empty)).1:=Cr hz;have e2:grows (T4 kv X) r P s20 ys (i+1)=grows (T4 kv X) r P s20 ys i++[(gask (T4 kv X) r P (gst (T4 kv X) r P s20 ys i) (ys.getD i Str.empty)).2]:=Ul hz;rw [e1,e2,Ig]
  have ep:(if (gask (T4 kv X) r P (gst (T4 kv X) r P s20 ys i) (ys.getD i Str.empty)).2.2.1 then (0:Int) else C (gask (T4 kv X) r P (gst (T4 kv X) r P s20 ys i) (ys.getD i Str.empty)).2.1)=if ys.getD i Str.empty∈(gst (T4 kv X) r P s20 ys i).2 then 0 else C (ys.getD i Str.empty):=by
   have e1:=k.2.2.n;have e2:=k.2.2.b;rw [e1,e2]
   by_cases hm:ys.getD i Str.empty∈(gst (T4 kv X) r P s20 ys i).2
   · rw [decide_eq_true hm,if_pos rfl,if_pos hm]
   · rw [decide_eq_false hm,if_neg (by decide),if_neg hm]
  rw [ep];exact ⟨k.1,k.2.1⟩
theorem Y4{h:List Int}(F:FE (ys.length+1) (jps C ys ys.length) tk ((P:Int) - 1) h)(hS:Sty C ys ys.length tk kv)(hP:1≤P)(hr:∀y∈ys,r y=1)(hC:∀y∈ys,0≤C y)(hin:∀y∈ys,y∈ns):Ca C (grows (T4 kv X) r P s20 ys ys.length)=N41.fl C r (Cm (at' h) ys.length) 1 P ys ys.length:=by
 have ho:∀t,t < ys.length→over (jps C ys ys.length) tk t < P:=fun t ht=>by have:=F.o t (by omega);omega
 obtain ⟨a,_⟩:=Tc (X:=X) hS ho F.l hP hr hC hin ys.length (Nat.le_refl _);have h1:=a.le;have h2:=(a.pa.all (Cm (at' h) ys.length) 1 (Ms F) Tb).le;have h3:=J2y (r:=r) F fun n hn=>hr _ (List.mem_of_getElem? (N41.Bu hn));rw [show (P:Int) - 1+1=P by omega]at h3;have h4:0≤N41.sm (N41.cr r (Cm (at' h) ys.length) ys ys.length) (gst (T4 kv X) r P s20 ys ys.length).2:=N41.J66 fun y hy=>N41.J1t (by rw [hr y (N41.Kz (a.pa.asked y hy) (Nat.le_refl _))];decide) (Ms F);omega
end
end N43
namespace L2
section
variable {M:Model} {A:Around} {E:Value→Shared→Prop} {s:Shared}
theorem Td{a b:Value}{Q:Value→Shared→Prop}(ha:s.TypeIs a "list")(hb:s.TypeIs b "list")(hc:wpAny M A (call (.builtin "list.__iadd__") [a,b]) Q E s):wpAny M A (inplaceOp .Add a b) Q E s:=by
 have hl:typeLookup (.type "list") (dunderI "add")=pure (some (.builtin "list.__iadd__")):=PySem.F.slot_list_iadd.lookup
 have hs:isSeqSlot (some (.builtin "list.__iadd__"))=true:=by decide+kernel
 unfold inplaceOp;refine wpAny_holding ?_
 have hfi:fillsInplaceSlot (.type "list") "add" (Operator.Add== .Add)=pure false:=by
  unfold fillsInplaceSlot;show (typeLookup (.type "list") (dunderI "add") >>=fun fi=>pure (fi.isSome && !isSeqSlot fi))=pure false;rw [hl];show (pure (true && !isSeqSlot (some (.builtin "list.__iadd__"))):Sem Bool)=pure false;rw [hs];rfl
 refine wpAny_bind (wpAny_typeOf ha (wpAny_bind (wpAny_of_eq hfi ?_)));show wpAny M A (if false=true then _ else _) Q E s;rw [if_neg Bool.false_ne_true];refine wpAny_bind (binaryOp1_none (nm:="add") ha hb noFill_list_add ?_);refine wpAny_bind (wpAny_of_eq (PyProof.Rows.seqSlot_of hl hs) ?_);exact wpAny_bind (wpAny_rule hc)
end
def ipL:TIp:=fun x y H Q=>∃l b xs zs,x= .ref l∧y= .ref b∧H l=some (.lst xs)∧H b=some (.lst zs)∧xs.length+zs.length≤sizeLine∧Q (.ref l) (upd H l (.lst (xs++zs)))
theorem J52{X:Cx}:PIp X .Add ipL:=by
 intro pins s σ H x y v u Q I rx ry h;obtain ⟨l,b,xs,zs,rfl,rfl,hH,hB,hz,q⟩:=h;cases rx;cases ry;obtain ⟨z,its,n,r,hl,e⟩:=I.lstM hH;obtain ⟨z2,its2,n2,r2,hl2,e2⟩:=I.lstM hB
 have hsz:its.toArray.size+its2.toArray.size≤sizeLine:=by rw [List.size_toArray,List.size_toArray];omega
 have hlong:¬(!its.toArray.isEmpty && Builtin.List.listTooLong (its.toArray.size+its2.toArray.size))=true:=by
  rw [Yw hsz,Bool.and_false];exact Bool.false_ne_true
 refine Td ⟨_,e,rfl⟩ ⟨_,e2,rfl⟩ (call_meets PySem.F.slot_list_iadd ⟨_,e,rfl⟩ PySem.F.entry_list_iadd (PySem.F.args_list_iadd_2 _ _)
  (AutoSeq1.list___iadd___list_list_0 l its.toArray n b its2.toArray n2 hlong (by rw [List.size_toArray];omega) (by omega)) ⟨e,e2,?_⟩)
 refine ⟨.ref l,_,I.lset (its':=its++its2) hH e (by simp) (r.append r2) ?_,rfl,q⟩;rw [List.length_append];omega
theorem J31{x y:V}{H:Hp}{Q:VK}:ipL x y H Q=∃l b xs zs,x= .ref l∧y= .ref b∧H l=some (.lst xs)∧H b=some (.lst zs)∧xs.length+zs.length≤sizeLine∧Q (.ref l) (upd H l (.lst (xs++zs))):=rfl
end L2
namespace N29
open L2 N1 N5 N4 N6 N12 N32 N14 N20 N18 N25 NR N22 N21 N24 N23
inductive W5 where
 | ra | ol | fi | ha | fa
structure C5 where
 ra:Addr
 ol:Addr
 fi:Addr
 ha:Addr
 fa:Addr
structure L5 where
 k:Int
 la:List (Key×V)
 pu:List (Key×V)
 ta:List (Key×V)
 e:Int
end N29
namespace N36
open L2 N1 N5 N4 N6 N12 N32 N14 N20 N18 N25 NR N22 N21 N24 N23 N29
def pos(row:List Str)(z:Str):Nat:=if z∈row then row.idxOf z else row.length
inductive W3 where
 | ol | ha | fa
theorem Y5{K:PySem.W.Frag}{H1:Hp}{tail:L2.St}{te:Blk→TE}{Q:VK}{a:Addr}{xs:List V}(f:Nat→List V)(hS:SqL K H1 a xs)(hz:xs.length≤sizeLine)(he:∀b (i:Nat) x H Q',xs[i]?=some x→A6 H1 H→(∀t H',A6 H H'→H' t=some (.tup (f i))→Q' (.ref t) H')→te b (some (.int i)::some x::tail) H Q')
 (q:∀(D:Addr) (as:List Addr) (H':Hp),H1 D=none→A6 H1 H'→H' D=some (.lst (as.map V.ref))→as.length=xs.length→(∀(i:Nat) b,as[i]?=some b→H' b=some (.tup (f i)))→Q (.ref D) H'):B6 (none::none::tail) (g2 K) (fun _=>Cu) te Q (Ite K a) H1:=by
 intro b D hD;refine ⟨fun i m ys H=>m=xs.length - i∧i≤xs.length∧H D=some (.lst ys)∧A6 H1 H∧∃as:List Addr,ys=as.map V.ref∧as.length=i∧∀(j:Nat) c,as[j]?=some c→H c=some (.tup (f j)),⟨_,rfl,Nat.zero_le _,A1,B7 hD,[],rfl,rfl,fun j y e=>by simp at e⟩,?_⟩;rintro i m ys H ⟨rfl,hi,hd,sm,as,rfl,hl,hall⟩;refine ⟨hd,?_⟩
 by_cases hlt:i < xs.length
 · refine .inr ⟨⟨xs,xs[i],sm.seq hS,by simp [hlt]⟩,?_⟩
   rintro y H3 ⟨t,x,rfl,hn,rfl,g1⟩;have hx:=g1 xs (sm.seq hS);have s3:A6 H (upd H t (.tup [.int i,x])):=A6.new hn;refine ⟨t,_,rfl,SqT.of A1,rfl,_,_,rfl,_,_,rfl,rfl,Su,?_⟩;change te b (some (.int i)::some x::tail) _ _;refine he b i x _ _ hx (sm.trans s3) fun t8 H8 s8 ht8=>?_;have s38:=s3.trans s8;have hd8:=s38 _ _ hd;refine ⟨hd8,by rw [List.length_map];omega,xs.length - (i+1),by omega,rfl,hlt,A1,E7 (sm.trans s38) hD,as++[t8],by rw [List.map_append];rfl,by rw [List.length_append,hl];rfl,fun j c e=>?_⟩
   by_cases hj:j < as.length
   · rw [List.getElem?_append_left hj]at e
     have g:=s38 _ _ (hall j c e);rw [A5 (C0 g hd8 (by intro z;cases z))];exact g
   · rw [List.getElem?_append_right (by omega)]at e
     have hj0:j=i:=by have:=(List.getElem?_eq_some_iff.mp e).1;simp at this;omega
     subst hj0;rw [show j - as.length=0 by omega]at e;cases e;rw [A5 (C0 ht8 hd8 (by intro z;cases z))];exact ht8
 · have e:i=xs.length:=by omega
   subst e;exact .inl ⟨⟨xs,sm.seq hS,Nat.le_refl _⟩,q D as H hD sm hd hl hall⟩
end N36
namespace L2
open N1
def Cs(H:Hp)(as:List Addr)(ps:List (Int×Int)):Prop:=as.length=ps.length∧∀(i:Nat) (a:Addr) (p:Int×Int),as[i]?=some a→ps[i]?=some p→H a=some (.tup [.int p.1,.int p.2])
theorem Cs.same{H H':Hp}{as:List Addr}{ps:List (Int×Int)}(s:A6 H H')(h:Cs H as ps):Cs H' as ps:=⟨h.1,fun i a p ha hp=>s _ _ (h.2 i a p ha hp)⟩
theorem Cs.nil{H:Hp}:Cs H [] []:=⟨rfl,fun i a p h=>by simp at h⟩
theorem Cs.off{H:Hp}{as:List Addr}{ps:List (Int×Int)}{l:Addr}{xs:List V}{o:HO}(hl:H l=some (.lst xs))(h:Cs H as ps):Cs (upd H l o) as ps:=⟨h.1,fun i a p ha hp=>by
 have e:=h.2 i a p ha hp
 rw [A5 fun z=>by rw [z,hl]at e;cases e];exact e⟩
theorem Cs.snoc{H:Hp}{as:List Addr}{ps:List (Int×Int)}{a:Addr}{p:Int×Int}(h:Cs H as ps)(e:H a=some (.tup [.int p.1,.int p.2])):Cs H (as++[a]) (ps++[p]):=by
 refine ⟨by rw [List.length_append,List.length_append,h.1];rfl,fun i b q hb hq=>?_⟩
 by_cases hi:i < as.length
 · rw [List.getElem?_append_left hi]at hb
   rw [List.getElem?_append_left (by rw [← h.1];exact hi)]at hq;exact h.2 i b q hb hq
 · rw [List.getElem?_append_right (by omega)]at hb
   rw [List.getElem?_append_right (by rw [← h.1];omega)]at hq
   have h0:i - as.length=0:=by have:=(List.getElem?_eq_some_iff.mp hb).1;simp at this;omega
   rw [h0]at hb;rw [← h.1,h0]at hq;cases hb;cases hq;exact e
section
variable {K:PySem.W.Frag} {H1:Hp} {tail:St} {tt:Blk→TT} {te:Blk→TE} {Q:VK} {a:Addr}
theorem Te{xs:List V}(p:Nat→Bool)(g:Nat→Int×Int)(hS:SqL K H1 a xs)(hz:xs.length≤sizeLine)
 (ht:∀b (i:Nat) x H QT,xs[i]?=some x→A6 H1 H→(∀H',A6 H H'→QT (p i) H')→tt b (some (.int i)::some x::tail) H QT)
 (he:∀b (i:Nat) x H Q',xs[i]?=some x→p i=true→A6 H1 H→(∀t H',A6 H H'→H' t=some (.tup [.int (g i).1,.int (g i).2])→Q' (.ref t) H')→te b (some (.int i)::some x::tail) H Q')
 (q:∀D as H',H1 D=none→A6 H1 H'→H' D=some (.lst (as.map V.ref))→Cs H' as (((List.range xs.length).filter p).map g)→Q (.ref D) H'):B6 (none::none::tail) (g2 K) tt te Q (Ite K a) H1:=by
 intro b D hD;refine ⟨fun i m ys H=>m=xs.length - i∧i≤xs.length∧∃as:List Addr,ys=as.map V.ref∧H D=some (.lst ys)∧A6 H1 H∧Cs H as (((List.range i).filter p).map g),⟨_,rfl,Nat.zero_le _,[],rfl,A1,B7 hD,Cs.nil⟩,?_⟩;rintro i m ys H ⟨rfl,hi,as,rfl,hd,sm,hp⟩;refine ⟨hd,?_⟩
 by_cases hlt:i < xs.length
 · refine .inr ⟨⟨xs,xs[i],sm.seq hS,by simp [hlt]⟩,?_⟩
   rintro y H3 ⟨t,x,rfl,hn,rfl,g1⟩;have hx:=g1 xs (sm.seq hS);have s3:A6 H (upd H t (.tup [.int i,x])):=A6.new hn
   have hl:as.length≤i:=by
    rw [hp.1,List.length_map];exact Nat.le_trans (List.length_filter_le _ _) (by rw [List.length_range];omega)
   have htk:((List.range (i+1)).filter p).map g=((List.range i).filter p).map g++([i].filter p).map g:=by rw [List.range_succ,List.filter_append,List.map_append]
   refine ⟨t,_,rfl,SqT.of A1,rfl,_,_,rfl,_,_,rfl,rfl,Su,?_⟩;change tt b (some (.int i)::some x::tail) _ _;refine ht b i x _ _ hx (sm.trans s3) fun H7 s7=>?_;have s37:=s3.trans s7
   by_cases hpi:p i=true
   · rw [if_pos hpi]
     refine he b i x H7 _ hx hpi (sm.trans s37) fun t8 H8 s8 ht8=>?_;have s38:=s37.trans s8;have hd8:=s38 _ _ hd;refine ⟨hd8,by rw [List.length_map];omega,xs.length - (i+1),by omega,rfl,hlt,as++[t8],by rw [List.map_append];rfl,A1,E7 (sm.trans s38) hD,?_⟩;rw [htk,List.filter_cons_of_pos hpi,List.filter_nil];exact ((hp.same s38).snoc ht8).off hd8
   · rw [if_neg hpi]
     refine ⟨xs.length - (i+1),by omega,rfl,hlt,as,rfl,s37 _ _ hd,sm.trans s37,?_⟩;rw [htk,List.filter_cons_of_neg hpi,List.filter_nil,List.map_nil,List.append_nil];exact hp.same s37
 · have e:i=xs.length:=by omega
   subst e;exact .inl ⟨⟨xs,sm.seq hS,Nat.le_refl _⟩,q D as H hD sm hd hp⟩
end
end L2
namespace N47
open L2 N1 N5 N4 N6 N32 N41
def RD:List Str→Str→Nat
 | [],_=>0
 | d::D,z=>if z=d then 1 else 2 * RD D z
def rmx:List Int→Nat→Int
 | [],_=>0
 | r::rs,S=>(if S % 2=1 then r else 0)+rmx rs (S / 2)
def J9o(rs:List Int):List Int:=(List.range (2 ^ rs.length)).map (rmx rs)
def smD(f:Str→Int)(l:List Str):Int:=(l.map f).sum
def lxle(p q:Int×Int):Bool:=decide (p.1 < q.1∨p.1=q.1∧p.2≤q.2)
def J32:List (Int×Int)→Option (Int×Int)
 | []=>none
 | p::r=>match J32 r with
  | none=>some p
  | some q=>if lxle p q then some p else some q
abbrev Ent:=Option (Int×Int)
def knP(es:List Ent):List (Int×Int):=((List.range es.length).filter fun i=>(es.getD i none).isSome).map fun i=>(((es.getD i none).getD (0,0)).1,(i:Int))
def svP(es:List Ent)(w c:Int):List (Int×Int):=(knP es).map fun p=>(if Builtin.bitAnd p.2 w≠0 then p.1 else p.1+c,p.2)
def alP(s:Int)(q:Int×Int):Bool:=decide (Builtin.bitAnd q.2 s=s)
def bhE(es:List Ent)(rs:List Int)(n w c:Int):List Ent:=(List.range rs.length).map fun (h:Nat)=>if Builtin.bitAnd (h:Int) w≠0∧rs.getD h 0≤n then J32 ((svP es w c).filter (alP ((h:Int) - w))) else none
def tab(rs:List Int)(n:Int)(W C:Str→Int)(ys:List Str):Nat→List Ent
 | 0=>[some (0,0)]
 | i+1=>bhE (tab rs n W C ys i) rs n (W (ys.getD i Str.empty)) (C (ys.getD i Str.empty))
end N47
namespace L2
open N1
section
variable {X:Cx} {scope:Scope} {x y z v:Str} {px py pz pt pv':Pos} {n i:Nat} {fs:List Nat} {elt iter c:Expr} {pos spos:Pos} {wi:TI} {te:Blk→TE}
theorem J33(x y z:Str)(fs:List Nat)(hN:X.N.Nodup)(hy:X.N[i]?=some v)(hyl:X.env.kindOf v=some .local)(hc:X.calm=true)(hok:Bv X.N X.env.scope scope [x,y,z] fs=true)(hi:PI X (.Tuple [.Name x px,.Name y py,.Name z pz] n pt) iter wi)(he:∀b,PE (X.blk scope ([x,y,z]++around X.N fs) b) elt (te b))
 (hsw:swapsWith (.ListComp elt [⟨.Tuple [.Name x px,.Name y py,.Name z pz] n pt,iter,[],0⟩] scope pos) (some (.Name v pv')) spos.line X.env=pure true:=by rfl)
 (hs:∀x,foldedSetIterable iter X.env x=pure x:=by intro _;rfl):PS X (.Assign [.Name v pv'] (.ListComp elt [⟨.Tuple [.Name x px,.Name y py,.Name z pz] n pt,iter,[],0⟩] scope pos) spos) (Qd (J2g X.K wi fs te) (Bq i)):=
 Mc (xs:=[x,y,z]) (g:=g3 X.K) (tt:=fun _=>Cu) hN hy hyl hc hok hi (J4u hc hok) (fun _=>Km) he hsw hs
end
end L2
namespace N46
open L2 N1 N5 N4 N6 N32 N41 N47
def tb(D ys:List Str)(Rm C:Str→Int)(n:Int):Nat→List Ent:=tab (J9o (D.map Rm)) n (fun z=>(RD D z:Int)) C ys
def hc(f:Nat→List Ent)(n h:Nat):Nat→Nat
 | 0=>h
 | j+1=>match (f (n - j))[hc f n h j]? with
  | some (some p)=>p.2.toNat
  | _=>0
def hi(f:Nat→List Ent)(n h i:Nat):Nat:=hc f n h (n - i)
def J98(w s:Int)(k:Nat):Prop:=Builtin.bitAnd (Builtin.bitOr (k:Int) w) s=s
instance {w s:Int} {k:Nat}:Decidable (J98 w s k):=by unfold J98;exact inferInstance
def TB(ts:List Th)(ys:List Str)(n:Int):Nat→List Ent:=tb (dis ys) ys (rm ts) (cst ts) n
def HI(ts:List Th)(ys:List Str)(n:Int)(pp:Int×Int)(i:Nat):Nat:=hi (TB ts ys n) ys.length pp.2.toNat i
end N46
namespace L2
theorem P1{H1 H8:Hp}{as:List Addr}{f:Nat→List V}{i:Nat}{t8 D:Addr}{l l':List V}(hl:as.length=i)(hall:∀(j:Nat) c,as[j]?=some c→H1 c=some (.tup (f j)))(s:A6 H1 H8)(hd:H8 D=some (.lst l))(ht:H8 t8=some (.tup (f i))):∀(j:Nat) c,(as++[t8])[j]?=some c→upd H8 D (.lst l') c=some (.tup (f j)):=fun j c e=>by
 by_cases hj:j < as.length
 · rw [List.getElem?_append_left hj]at e
   have g:=s _ _ (hall j c e);rw [A5 (C0 g hd (by intro z;cases z))];exact g
 · rw [List.getElem?_append_right (by omega)]at e
   have hj0:j=i:=by have:=(List.getElem?_eq_some_iff.mp e).1;simp at this;omega
   subst hj0;rw [show j - as.length=0 by omega]at e;cases e;rw [A5 (C0 ht hd (by intro z;cases z))];exact ht
section
variable {K:PySem.W.Frag} {H1:Hp} {tail:St} {te:Blk→TE} {Q:VK} {a:Addr}
theorem Y6{as:List Addr}(x1 x2:Nat→V)(f:Nat→List V)(hS:SqL K H1 a (as.map V.ref))(hz:as.length≤sizeLine)(hT:∀(i:Nat) c,as[i]?=some c→H1 c=some (.tup [x1 i,x2 i]))
 (he:∀b (i:Nat) H Q',i < as.length→A6 H1 H→(∀t H',A6 H H'→H' t=some (.tup (f i))→Q' (.ref t) H')→te b (some (x1 i)::some (x2 i)::tail) H Q')
 (q:∀(D:Addr) (bs:List Addr) (H':Hp),H1 D=none→A6 H1 H'→H' D=some (.lst (bs.map V.ref))→bs.length=as.length→(∀(i:Nat) b,bs[i]?=some b→H' b=some (.tup (f i)))→Q (.ref D) H'):B6 (none::none::tail) (g2 K) (fun _=>Cu) te Q (Itl K a) H1:=by
 intro b D hD;refine ⟨fun i m ys H=>m=as.length - i∧i≤as.length∧H D=some (.lst ys)∧A6 H1 H∧∃bs:List Addr,ys=bs.map V.ref∧bs.length=i∧∀(j:Nat) c,bs[j]?=some c→H c=some (.tup (f j)),⟨_,rfl,Nat.zero_le _,A1,B7 hD,[],rfl,rfl,fun j y e=>by simp at e⟩,?_⟩;rintro i m ys H ⟨rfl,hi,hd,sm,bs,rfl,hl,hall⟩;refine ⟨hd,?_⟩
 by_cases hlt:i < as.length
 · refine .inr ⟨⟨_,V.ref as[i],sm.seq hS,by simp [hlt]⟩,fun x H3 ⟨e3,ex⟩=>?_⟩
   subst e3;have hx:=ex _ (sm.seq hS)
   have hx':V.ref as[i]=x:=by simpa [hlt] using hx
   subst hx';refine ⟨as[i],_,rfl,SqT.of (sm _ _ (hT i _ (by simp [hlt]))),rfl,_,_,rfl,_,_,rfl,rfl,Su,?_⟩;show Cu _ _ _;unfold Cu;dsimp only;rw [if_pos rfl];refine he b i _ _ hlt sm fun t8 H8 s8 ht8=>?_;have hd8:=s8 _ _ hd;exact ⟨hd8,by rw [List.length_map];omega,as.length - (i+1),by omega,rfl,hlt,A1,E7 (sm.trans s8) hD,bs++[t8],by rw [List.map_append];rfl,by rw [List.length_append,hl];rfl,P1 hl hall s8 hd8 ht8⟩
 · have e:i=as.length:=by omega
   subst e;exact .inl ⟨⟨_,sm.seq hS,by simp⟩,q D bs H hD sm hd hl hall⟩
theorem J34{c:Addr}{xs zs:List V}(f:Nat→List V)(hlen:zs.length≤xs.length)(hA:SqL K H1 a xs)(hC:SqL K H1 c zs)(hz:zs.length≤sizeLine)
 (he:∀b (i:Nat) x z H Q',xs[i]?=some x→zs[i]?=some z→A6 H1 H→(∀t H',A6 H H'→H' t=some (.tup (f i))→Q' (.ref t) H')→te b (some x::some z::tail) H Q')
 (q:∀(D:Addr) (bs:List Addr) (H':Hp),H1 D=none→A6 H1 H'→H' D=some (.lst (bs.map V.ref))→bs.length=zs.length→(∀(i:Nat) b,bs[i]?=some b→H' b=some (.tup (f i)))→Q (.ref D) H'):B6 (none::none::tail) (g2 K) (fun _=>Cu) te Q (Itz K a c) H1:=by
 intro b D hD;refine ⟨fun i m ys H=>m=zs.length - i∧i≤zs.length∧H D=some (.lst ys)∧A6 H1 H∧∃bs:List Addr,ys=bs.map V.ref∧bs.length=i∧∀(j:Nat) c,bs[j]?=some c→H c=some (.tup (f j)),⟨_,rfl,Nat.zero_le _,A1,B7 hD,[],rfl,rfl,fun j y e=>by simp at e⟩,?_⟩;rintro i m ys H ⟨rfl,hi,hd,sm,bs,rfl,hl,hall⟩;refine ⟨hd,?_⟩
 by_cases hlt:i < zs.length
 · have hx:xs[i]?=some (xs[i]'(by omega)):=List.getElem?_eq_getElem (by omega)
   have hy:zs[i]?=some zs[i]:=List.getElem?_eq_getElem hlt;refine .inr ⟨⟨xs,zs,_,_,sm.seq hA,sm.seq hC,hx,hy⟩,?_⟩;rintro v H3 ⟨t,x',z',rfl,hn,rfl,g1,g2'⟩;have e1:=(g1 xs (sm.seq hA)).symm.trans hx;have e2:=(g2' zs (sm.seq hC)).symm.trans hy;cases e1;cases e2;have s3:A6 H (upd H t (.tup [xs[i]'(by omega),zs[i]])):=A6.new hn;refine ⟨t,_,rfl,SqT.of A1,rfl,_,_,rfl,_,_,rfl,rfl,Su,?_⟩;show Cu _ _ _;unfold Cu;dsimp only;rw [if_pos rfl];refine he b i _ _ _ _ hx hy (sm.trans s3) fun t8 H8 s8 ht8=>?_;have s38:=s3.trans s8;have hd8:=s38 _ _ hd;exact ⟨hd8,by rw [List.length_map];omega,zs.length - (i+1),by omega,rfl,hlt,A1,E7 (sm.trans s38) hD,bs++[t8],by rw [List.map_append];rfl,by rw [List.length_append,hl];rfl,P1 hl hall s38 hd8 ht8⟩
 · have e:i=zs.length:=by omega
   subst e;exact .inl ⟨⟨_,_,sm.seq hA,sm.seq hC,.inr (Nat.le_refl _)⟩,q D bs H hD sm hd hl hall⟩
end
end L2
namespace NF
open L2 N1 N14
inductive ClR(ms:List Mv):List Int×List Wy→List Int×List Wy→Prop
 | z {s:List Int×List Wy}:(Bz ms (s,false)).2=false→ClR ms s (Bz ms (s,false)).1
 | s {s e:List Int×List Wy}:(Bz ms (s,false)).2=true→ClR ms (Bz ms (s,false)).1 e→ClR ms s e
inductive FlR(n:Nat)(js:List Jp)(most:Int):List Bool→Nat→List Bool→List Int→Prop
 | z {tk:List Bool} {s:Nat} {h:List Int} {w:List Wy}:ClR (mvs n js tk s) (h0 n,w0 n) (h,w)→¬((s:Int) < most∧0 < at' h (n - 1))→FlR n js most tk s tk h
 | s {tk tk':List Bool} {s d:Nat} {h h':List Int} {w:List Wy}:ClR (mvs n js tk s) (h0 n,w0 n) (h,w)→((s:Int) < most∧0 < at' h (n - 1))→Rch w (n - 1) d→FlR n js most (flips tk (usd w d (n - 1))) (s+1) tk' h'→FlR n js most tk s tk' h'
def oV:Option Nat→V
 | none=> .non
 | some k=> .int k
def jpV(j:Jp):List V:=[.int j.1,.int j.2.1,.int j.2.2]
def mvV(m:Mv):List V:=[.int m.u,.int m.v,.int m.g,oV m.k]
def wyV(y:Wy):List V:=[.int y.1,oV y.2]
def Av{α:Type}(f:α→List V)(H:Hp)(as:List Addr)(xs:List α):Prop:=as.length=xs.length∧∀(k:Nat) (t:Addr) (x:α),as[k]?=some t→xs[k]?=some x→H t=some (.tup (f x))
section
variable {α:Type} {f:α→List V} {H H':Hp} {as bs:List Addr} {xs zs:List α}
theorem Av.nil:Av f H [] []:=⟨rfl,fun k t x h=>by simp at h⟩
theorem Av.same(s:A6 H H')(h:Av f H as xs):Av f H' as xs:=⟨h.1,fun k t x a b=>s _ _ (h.2 k t x a b)⟩
theorem Av.kp{M:List Addr}(s:Kp M H H')(hM:∀m∈M,∀l,H m≠some (.tup l))(h:Av f H as xs):Av f H' as xs:=⟨h.1,fun k t x a b=>s _ _ (fun hm=>hM t hm _ (h.2 k t x a b)) (h.2 k t x a b)⟩
theorem Av.lst{l:Addr}{ls:List V}{o:HO}(hl:H l=some (.lst ls))(h:Av f H as xs):Av f (upd H l o) as xs:=⟨h.1,fun k t x a b=>by
 rw [A5 fun e=>by have:=h.2 k t x a b;rw [e,hl]at this;cases this];exact h.2 k t x a b⟩
theorem Av.app(h:Av f H as xs)(g:Av f H bs zs):Av f H (as++bs) (xs++zs):=by
 refine ⟨by rw [List.length_append,List.length_append,h.1,g.1],fun k t x a b=>?_⟩
 by_cases hk:k < as.length
 · rw [List.getElem?_append_left hk]at a
   rw [List.getElem?_append_left (by rw [← h.1];exact hk)]at b;exact h.2 k t x a b
 · rw [List.getElem?_append_right (by omega)]at a
   rw [List.getElem?_append_right (by rw [← h.1];omega),← h.1]at b;exact g.2 _ t x a b
theorem Av.one{t:Addr}{x:α}(h:H t=some (.tup (f x))):Av f H [t] [x]:=⟨rfl,fun k t' x' a b=>by
 match k,a,b with
 | 0,a,b=>cases a;cases b;exact h
 | k+1,a,_=>simp at a⟩
theorem Av.push{p t:Addr}{l0 l1:List V}{tv:List V}{x:α}(h:Av f H as xs)(hp:H p=some (.lst l0))(ht:H t=none)(e:tv=f x):Av f (upd (upd H t (.tup tv)) p (.lst l1)) (as++[t]) (xs++[x]):=by
 have s:A6 H (upd H t (.tup tv)):=fun b o e=>by rw [A5 fun z=>by rw [z,ht]at e;cases e];exact e
 exact Av.lst (s _ _ hp) ((h.same s).app (.one (by rw [A1,e])))
theorem Av.set{t:Addr}{x:α}{k:Nat}(h:Av f H as xs)(ht:H t=some (.tup (f x))):Av f H (as.set k t) (xs.set k x):=by
 refine ⟨by rw [List.length_set,List.length_set];exact h.1,fun i t' x' a b=>?_⟩;rw [List.getElem?_set]at a b
 by_cases e:k=i
 · rw [if_pos e]at a b
   split at a
   · split at b
     · cases a;cases b;exact ht
     · cases b
   · cases a
 · rw [if_neg e]at a b
   exact h.2 i t' x' a b
theorem Av.get(h:Av f H as xs){k:Nat}{x:α}(b:xs[k]?=some x):∃t,as[k]?=some t∧H t=some (.tup (f x)):=by
 have hk:k < as.length:=by rw [h.1];exact (List.getElem?_eq_some_iff.mp b).1
 exact ⟨_,List.getElem?_eq_getElem hk,h.2 k _ x (List.getElem?_eq_getElem hk) b⟩
end
def Tf(H:Hp)(a:Addr)(as:List Addr)(js:List Jp):Prop:=H a=some (.lst (as.map V.ref))∧Av jpV H as js
theorem Tf.same{H H':Hp}{a:Addr}{as:List Addr}{js:List Jp}(s:A6 H H')(h:Tf H a as js):Tf H' a as js:=⟨s _ _ h.1,h.2.same s⟩
def clF(hs ws:Addr):List (Str×V):=Bh "ways" (.ref ws) (Bh "heights" (.ref hs) [])
structure Lq(C:Addr)(H:Hp)(q hs ws:Addr)(as:List Addr)(h:List Int)(w:List Wy):Prop where
 o:∃dx,H q=some (.ins C dx (clF hs ws))
 hh:H hs=some (.lst (h.map V.int))
 ww:H ws=some (.lst (as.map V.ref))
 t:Av wyV H as w
 n:hs≠ws
theorem Lq.same{C:Addr}{H H':Hp}{q hs ws:Addr}{as:List Addr}{h:List Int}{w:List Wy}(s:A6 H H')(c:Lq C H q hs ws as h w):Lq C H' q hs ws as h w:=⟨c.o.imp fun _ e=>s _ _ e,s _ _ c.hh,s _ _ c.ww,c.t.same s,c.n⟩
theorem Lr:∀{l:List (Option Nat)},((l.map oV).filter fun x=>!decide (x=V.non)).map id=(l.filterMap id).map fun (k:Nat)=>V.int (k:Int)
 | []=>rfl
 | none::l=>by
  rw [List.map_cons,List.filter_cons,show oV none=V.non from rfl,if_neg (by simp),Lr];rfl
 | some k::l=>by
  rw [List.map_cons,List.filter_cons,show oV (some k)=V.int k from rfl,if_pos (by simp),List.map_cons,Lr];rfl
theorem J35{h:List Int}(hl:1≤h.length):atI (h.map V.int) (-1)=some (V.int (at' h (h.length - 1))):=by
 rcases List.eq_nil_or_concat h with rfl | ⟨l,x,rfl⟩
 · simp at hl
 · rw [List.concat_eq_append,List.map_append]
   show atI (l.map V.int++[V.int x]) (-1)=_;rw [N41.J4i];unfold at';rw [List.length_append,List.length_singleton,List.getD_eq_getElem?_getD,List.getElem?_append_right (by omega),show l.length+1 - 1 - l.length=0 by omega];rfl
theorem J36{js:List Jp}:(List.range js.length).map (fun i=>V.bl (decide ((js.getD i (0,0,0)).1=(js.getD i (0,0,0)).2.1)))=(tk0 js).map V.bl:=by
 unfold tk0;rw [List.map_map];refine List.ext_getElem? fun i=>?_;rw [List.getElem?_map,List.getElem?_map]
 by_cases hi:i < js.length
 · rw [List.getElem?_range hi,List.getElem?_eq_getElem hi]
   show some (V.bl (decide ((js.getD i (0,0,0)).1=(js.getD i (0,0,0)).2.1)))=_;rw [List.getD_eq_getElem?_getD,List.getElem?_eq_getElem hi];rfl
 · rw [List.getElem?_eq_none (by rw [List.length_range];omega),List.getElem?_eq_none (by omega)];rfl
theorem J37{tk:List Bool}{k:Nat}:(tk.map V.bl).set k (V.bl (!tk.getD k false))=(flip tk k).map V.bl:=by
 unfold flip;rw [List.map_set]
theorem Um{tk:List Bool}{ks:List Nat}{i k:Nat}(h:ks[i]?=some k):flips tk (ks.take (i+1))=flip (flips tk (ks.take i)) k:=by
 unfold flips;rw [List.take_add_one,h,List.foldl_append];rfl
theorem J53{w:List Wy}{n:Nat}(hu:∀v,0 < v→v < n→prd w v < n):∀{v d:Nat},Rch w v d→v < n→∃l:List Nat,l.length=d+1∧l.Nodup∧(∀x∈l,x < n)∧∀x∈l,∃d',d'≤d∧Rch w x d':=by
 intro v d r
 induction r with
 | z=>intro h;exact ⟨[0],rfl,by simp,fun x hx=>by rw [List.mem_singleton.mp hx];exact h,fun x hx=>⟨0,Nat.le_refl _,by rw [List.mem_singleton.mp hx];exact .z⟩⟩
 | @s v d p r ih=>
  intro h;obtain ⟨l,h1,h2,h3,h4⟩:=ih (hu v p h);refine ⟨v::l,by rw [List.length_cons,h1],List.nodup_cons.mpr ⟨fun hm=>?_,h2⟩,fun x hx=>?_,fun x hx=>?_⟩
  · obtain ⟨d',hd,r'⟩:=h4 v hm
    have:=(Rch.s p r).inj r';omega
  · rcases List.mem_cons.mp hx with e | e
    · rw [e];exact h
    · exact h3 x e
  · rcases List.mem_cons.mp hx with e | e
    · rw [e];exact ⟨d+1,Nat.le_refl _,.s p r⟩
    · obtain ⟨d',hd,r'⟩:=h4 x e
      exact ⟨d',by omega,r'⟩
theorem J7n{w:List Wy}{n v d:Nat}(hu:∀v,0 < v→v < n→prd w v < n)(r:Rch w v d)(h:v < n):d < n:=by
 obtain ⟨l,h1,h2,h3,_⟩:=J53 hu r h;have:=List.Nodup.length_le_of_subset (l₂:=List.range n) h2 fun x hx=>List.mem_range.mpr (h3 x hx);rw [List.length_range]at this;omega
theorem Uo{ms:List Mv}{s:(List Int×List Wy)×Bool}{i:Nat}{m:Mv}(h:ms[i]?=some m):Bz (ms.take (i+1)) s=rise1 m (Bz (ms.take i) s):=by
 unfold Bz;rw [List.take_add_one,h,List.foldl_append];rfl
theorem Nw{t:Nat}:∀{js:List Jp} {tk:List Bool},tk.length=js.length→((List.range js.length).filter fun i=>tk.getD i false && cov (js.getD i (0,0,0)) t).length=over js tk t
 | [],tk,_=>by cases tk <;> rfl
 | j::js,[],h=>by cases h
 | j::js,b::tk,h=>by
  have ih:=Nw (t:=t) (js:=js) (tk:=tk) (by simpa using h);rw [List.length_cons,List.range_succ_eq_map,List.filter_cons,List.filter_map,show over (j::js) (b::tk) t=(if b && cov j t then 1 else 0)+over js tk t from rfl,← ih];have e:(List.filter ((fun i=>(b::tk).getD i false && cov ((j::js).getD i (0,0,0)) t)∘Nat.succ) (List.range js.length))=(List.filter (fun i=>tk.getD i false && cov (js.getD i (0,0,0)) t) (List.range js.length)):=rfl;rw [e];show (if (b && cov j t)=true then _ else _:List Nat).length=_;split
  · rw [List.length_cons,List.length_map];omega
  · rw [List.length_map];omega
def Di:Sp:=fun vs H Q _=>∃(t:Nat) (a b:Addr) (s:Int) (as:List Addr) (js:List Jp) (tk:List Bool),vs=[.int t,.ref a,.ref b,.int s]∧Tf H a as js∧H b=some (.lst (tk.map V.bl))∧tk.length=js.length∧js.length≤200∧∀H',A6 H H'→Q (.int (s - over js tk t)) H'
def Et:Sp:=fun vs H Q _=>∃(n:Nat) (a b:Addr) (s:Nat) (as:List Addr) (js:List Jp) (tk:List Bool),vs=[.int n,.ref a,.ref b,.int s]∧Tf H a as js∧H b=some (.lst (tk.map V.bl))∧tk.length=js.length∧js.length≤200∧1≤n∧n≤200∧
 ∀(p:Addr) (ms:List Addr) (H':Hp),H p=none→A6 H H'→H' p=some (.lst (ms.map V.ref))→Av mvV H' ms (Gi js tk s (n - 1))→ms.length≤400→Q (.ref p) H'
def Ih:Sp:=fun vs H Q _=>∃(t:Addr) (b:Bool) (k:Nat) (j:Jp),vs=[.ref t,.bl b,.int k]∧H t=some (.tup (jpV j))∧∀(t':Addr) (H':Hp),A6 H H'→H' t'=some (.tup (mvV (C2 j b k)))→Q (.ref t') H'
def Eu(C:Addr):Sp:=fun vs H Q _=>∃(q dx:Addr) (n:Nat),vs=[.ref q,.int n]∧H q=some (.ins C dx [])∧n≤200∧∀(hs ws:Addr) (as:List Addr) (H':Hp),SameBut q H H'→H hs=none→H ws=none→Lq C H' q hs ws as (h0 n) (w0 n)→Q .non H'
def Ew(C:Addr):Sp:=fun vs H Q _=>∃(q m hs ws:Addr) (as mas:List Addr) (n:Nat) (ms:List Mv) (pi:Nat→Int) (h:List Int) (w:List Wy),vs=[.ref q,.ref m]∧Lq C H q hs ws as h w∧H m=some (.lst (mas.map V.ref))∧Av mvV H mas ms∧m≠hs∧m≠ws∧Pot n ms pi∧CI n ms pi h w∧n≤200∧ms.length≤1000∧
 ∀(as':List Addr) (H':Hp),Kp [hs,ws] H H'→Lq C H' q hs ws as' (Bz ms ((h,w),false)).1.1 (Bz ms ((h,w),false)).1.2→Q (.bl (Bz ms ((h,w),false)).2) H'
def Ii(C:Addr):Sp:=fun vs H Q _=>∃(q hs ws:Addr) (as:List Addr) (n d:Nat) (h:List Int) (w:List Wy),vs=[.ref q]∧Lq C H q hs ws as h w∧w.length=n∧1≤n∧n≤200∧(∀v,0 < v→v < n→∃u:Nat,u < n∧(w.getD v (0,none)).1=u)∧Rch w (n - 1) d∧d≤400∧
 ∀(p:Addr) (H':Hp),H p=none→A6 H H'→H' p=some (.lst ((usd w d (n - 1)).map fun (k:Nat)=>V.int (k:Int)))→Q (.ref p) H'
def Ex(C:Addr):Sp:=fun vs H Q _=>∃(n:Nat) (a b:Addr) (s:Nat) (as:List Addr) (js:List Jp) (tk:List Bool) (pi:Nat→Int),vs=[.int n,.ref a,.ref b,.int s]∧Tf H a as js∧H b=some (.lst (tk.map V.bl))∧FI n js tk s pi∧JOk n js∧js.length≤200∧1≤n∧n≤200∧
 ∀(q hs ws:Addr) (ws':List Addr) (h:List Int) (w:List Wy) (H':Hp),A6 H H'→H hs=none→Lq C H' q hs ws ws' h w→ClR (mvs n js tk s) (h0 n,w0 n) (h,w)→CI n (mvs n js tk s) pi h w→U8 (mvs n js tk s) h→Q (.ref q) H'
def Ij:Sp:=fun vs H Q _=>∃(n:Nat) (a:Addr) (most:Int) (as:List Addr) (js:List Jp),vs=[.int n,.ref a,.int most]∧Tf H a as js∧JOk n js∧js.length≤200∧1≤n∧n≤200∧0≤most∧
 ∀(t b hs:Addr) (tk:List Bool) (h:List Int) (H':Hp),A6 H H'→H b=none→H hs=none→H' t=some (.tup [.ref b,.ref hs])→H' b=some (.lst (tk.map V.bl))→H' hs=some (.lst (h.map V.int))→FlR n js most (tk0 js) 0 tk h→FE n js tk most h→(∀v,v < n→at' h v≤pi0 js v)→Q (.ref t) H'
end NF
namespace N43
open L2 N1 N5 N4 N6 N12 N32 N14 N20 N18 N25 NR N22 N21 NF
def Ey(X:Addr):Sp:=fun vs H Q E=>∃kv:List (Key×V),Ec (T4 kv X) vs H Q E
def Dy(X:Addr)(K:PySem.W.Frag):Sp:=fun vs H Q E=>∃kv:List (Key×V),kv.length≤1000∧Dm (T4 kv X) K vs H Q E
def Ik(X:Addr):Sp:=fun vs H Q E=>∃kv:List (Key×V),Gm (T4 kv X) vs H Q E
def Il(X:Addr):Sp:=fun vs H Q E=>∃kv:List (Key×V),Gn (T4 kv X) vs H Q E
def Ez(X:Addr):Sp:=fun vs H Q _=>∃(q dx p sd:Addr) (n:Int) (kv:List (Key×V)),vs=[.ref q,.ref p,.int n,.ref sd]∧H q=some (.ins X dx [])∧1≤n∧n≤1000000∧H sd=some (.dK kv)∧∀H' la,SameBut q H H'→H la=none→PAt kv X H' [q,la,sd] q p n s20→Q .non H'
def Dz(X:Addr):Sp:=fun vs H Q _=>∃(q p:Addr) (n:Int) (M:List Addr) (s:S2) (z:Str) (kv:List (Key×V)),vs=[.ref q,.str z]∧PAt kv X H M q p n s∧s.la.length≤1000∧∀H',Kp M H H'→PAt kv X H' M q p n (Bp s z)→Q .non H'
def Im(X:Addr):Sp:=fun vs H Q _=>∃(q p:Addr) (n:Int) (M:List Addr) (s:S2) (z:Str) (i:Int) (kv:List (Key×V)),vs=[.ref q,.str z]∧PAt kv X H M q p n s∧B8 s.la (Sum.inr z)=some (.int i)∧Q (.int i) H
def Eg(X:Addr):Sp:=fun vs H Q _=>∃(q p:Addr) (n:Int) (M:List Addr) (s:S2) (z:Str) (i:Int) (kv:List (Key×V)),vs=[.ref q,.str z]∧PAt kv X H M q p n s∧B8 s.la (Sum.inr z)=some (.int i)∧∀t,H t=none→Q (.ref t) (upd H t (.tup [.int (if stB kv i then 1 else 0)]))
section
variable {p la sd:Addr} {n k k':Int}
theorem J54:(rf4 p n k la sd).length=5:=by rfl
theorem M0:(rf4 p n k la sd).lookup ("present":Str)=some (V.int k):=by rfl
theorem Tg:(rf4 p n k la sd).lookup ("last":Str)=some (V.ref la):=by rfl
theorem Y7:(rf4 p n k la sd).lookup ("stays":Str)=some (V.ref sd):=by rfl
end
def gpV(g:Nat×Nat):List V:=[.int g.1,.int g.2]
theorem Nx{ys:List Str}:∀{n:Nat},(((List.range n).filter fun i=>(ear ys i).isSome).map fun i=>((((ear ys i).getD 0:Nat):Int),(i:Int)))=(gps ys n).map fun g=>((g.1:Int),(g.2:Int))
 | 0=>rfl
 | n+1=>by
  rw [List.range_succ,List.filter_append,List.map_append,Nx]
  cases h:ear ys n with
  | none=>
   rw [Gq h,List.filter_cons,h];show _++[]=_;rw [List.append_nil]
  | some e=>
   rw [Ef h,List.filter_cons,h,List.map_append];show _++List.map _ [n]=_;rw [List.map_cons,h];rfl
theorem Q0{ys:List Str}:∀{n:Nat},(gps ys n).length≤n
 | 0=>Nat.le_refl _
 | n+1=>by
  cases h:ear ys n with
  | none=>rw [Gq h];have:=Q0 (ys:=ys) (n:=n);omega
  | some e=>rw [Ef h,List.length_append,List.length_singleton];have:=Q0 (ys:=ys) (n:=n);omega
def stk(gs:List (Nat×Nat))(tk:List Bool):Nat→List (Key×V)
 | 0=>[]
 | i+1=>if tk.getD i false then Ct (stk gs tk i) (Sum.inl (((gs.getD i (0,0)).1:Int)+1)) (.bl true) else stk gs tk i
theorem Q1{gs:List (Nat×Nat)}{tk:List Bool}:∀{i:Nat},(stk gs tk i).length≤i
 | 0=>Nat.le_refl _
 | i+1=>by
  show (if _ then _ else _:List (Key×V)).length≤_;have:=Q1 (gs:=gs) (tk:=tk) (i:=i);split
  · have:=Cj (stk gs tk i) (Sum.inl (((gs.getD i (0,0)).1:Int)+1):Key) (V.bl true)
    omega
  · omega
theorem Wt{gs:List (Nat×Nat)}{tk:List Bool}{x:Int}:∀{i:Nat},stB (stk gs tk i) x=true↔∃k,k < i∧tk.getD k false=true∧x=((gs.getD k (0,0)).1:Int)+1
 | 0=>⟨(fun h=>by cases h),(fun ⟨k,h,_⟩=>by omega)⟩
 | i+1=>by
  have ih:=Wt (gs:=gs) (tk:=tk) (x:=x) (i:=i)
  have e:stk gs tk (i+1)=if tk.getD i false then Ct (stk gs tk i) (Sum.inl (((gs.getD i (0,0)).1:Int)+1)) (.bl true) else stk gs tk i:=rfl
  cases hb:tk.getD i false with
  | false=>
   rw [e,hb,if_neg (by decide),ih];constructor
   · rintro ⟨k,h1,h2,h3⟩;exact ⟨k,by omega,h2,h3⟩
   · rintro ⟨k,h1,h2,h3⟩
     by_cases ek:k=i
     · rw [ek,hb]at h2;cases h2
     · exact ⟨k,by omega,h2,h3⟩
  | true=>
   rw [e,hb,if_pos rfl];unfold stB at ih ⊢;rw [Kj]
   by_cases ex:x=((gs.getD i (0,0)).1:Int)+1
   · rw [if_pos (by rw [ex])]
     exact ⟨fun _=>⟨i,by omega,hb,ex⟩,fun _=>rfl⟩
   · rw [if_neg (fun z=>ex (Sum.inl.inj z)),ih]
     constructor
     · rintro ⟨k,h1,h2,h3⟩;exact ⟨k,by omega,h2,h3⟩
     · rintro ⟨k,h1,h2,h3⟩
       by_cases ek:k=i
       · rw [ek]at h3;exact absurd h3 ex
       · exact ⟨k,by omega,h2,h3⟩
theorem Q2{C:Str→Int}{ys:List Str}{N:Nat}{tk:List Bool}:Sty C ys N tk (stk (gps ys N) tk (gps ys N).length):=fun i=>by
 rw [Wt];constructor
 · rintro ⟨k,h1,h2,h3⟩
   have hg:(gps ys N)[k]?=some ((gps ys N).getD k (0,0)):=by rw [List.getD_eq_getElem?_getD,List.getElem?_eq_getElem h1];rfl
   exact ⟨k,_,hg,h2,h3⟩
 · rintro ⟨k,g,h1,h2,h3⟩
   have hk:=(List.getElem?_eq_some_iff.mp h1).1;exact ⟨k,hk,h2,by rw [List.getD_eq_getElem?_getD,h1];exact h3⟩
theorem J99{Z:List Int}:O0 (Z.map V.int) (some 1) none=(Z.drop 1).map V.int:=by
 unfold O0;rw [List.length_map,show (1:Int)=((1:Nat):Int) from rfl,HT.P7,← List.map_drop,← List.map_take];congr 1;rcases Nat.le_total 1 Z.length with e | e
 · rw [Nat.min_eq_left e,List.take_of_length_le (by rw [List.length_drop];exact Nat.le_refl _)]
 · rw [Nat.min_eq_right e,List.drop_of_length_le (Nat.le_refl _),List.drop_of_length_le e];simp
def G0(K:PySem.W.Frag)(C:Addr):Sp:=fun vs H Q _=>∃(p a:Addr) (ts:List Th) (ys:List Str),vs=[.ref p,.ref a]∧Ag K C H p ts∧(ts.map (·.1)).Nodup∧SqL K H a (ys.map V.str)∧(∀y∈ys,y∈ts.map (·.1))∧(∀y∈ys,rm ts y=1)∧Q .non H
def Io(K:PySem.W.Frag):Sp:=fun vs H Q _=>∃(a:Addr) (ys:List Str),vs=[.ref a]∧SqL K H a (ys.map V.str)∧ys.length≤200∧∀(p:Addr) (as:List Addr) (H':Hp),H p=none→A6 H H'→H' p=some (.lst (as.map V.ref))→Av gpV H' as (gps ys ys.length)→Q (.ref p) H'
def G1:Sp:=fun vs H Q _=>∃(p b:Addr) (as:List Addr) (gs:List (Nat×Nat)) (tk:List Bool),vs=[.ref p,.ref b]∧H p=some (.lst (as.map V.ref))∧Av gpV H as gs∧H b=some (.lst (tk.map V.bl))∧tk.length=gs.length∧gs.length≤200∧∀(d:Addr) (H':Hp),H d=none→A6 H H'→H' d=some (.dK (stk gs tk gs.length))→Q (.ref d) H'
def prV(q:Nat→Int)(i:Nat):List V:=[.int (q (i+1) - q i),.int 1]
def E1:Sp:=fun vs H Q _=>∃(a:Addr) (h:List Int) (n:Nat),vs=[.ref a]∧H a=some (.lst (h.map V.int))∧h.length=n+1∧n≤200∧∀(p:Addr) (as:List Addr) (H':Hp),H p=none→A6 H H'→H' p=some (.lst (as.map V.ref))→as.length=n→(∀(i:Nat) t,as[i]?=some t→H' t=some (.tup (prV (at' h) i)))→Q (.ref p) H'
structure BkP(H:Hp)(b:Addr)(as gs:List Addr)(rs:List N14.Row):Prop where
 L:H b=some (.lst (as.map V.ref))
 ln:as.length=rs.length
 m:gs.length=rs.length
 t:∀(i:Nat) (a g:Addr) (r:N14.Row),as[i]?=some a→gs[i]?=some g→rs[i]?=some r→H a=some (.tup [.str r.1,.bl r.2.1,.ref g])∧H g=some (.lst (r.2.2.map V.str))
theorem BkP.same{H H':Hp}{b:Addr}{as gs:List Addr}{rs:List N14.Row}(h:BkP H b as gs rs)(s:A6 H H'):BkP H' b as gs rs:=⟨s _ _ h.L,h.ln,h.m,fun i a g r h1 h2 h3=>⟨s _ _ (h.t i a g r h1 h2 h3).1,s _ _ (h.t i a g r h1 h2 h3).2⟩⟩
theorem BkP.odd{H H':Hp}{b tp:Addr}{as gs:List Addr}{rs:List N14.Row}{u:HO}(sb:SameBut tp H H')(hp:H tp=some u)(hu:NPb.Odd u)(h:BkP H b as gs rs):BkP H' b as gs rs:=by
 have hL:∀(b:Addr) (l:List V),H b=some (.lst l)→H' b=some (.lst l):=fun b l e=>sb _ _ e (C0 e hp fun z=>by rcases hu with ⟨_,e⟩ | ⟨_,_,e⟩ <;> rw [e]at z <;> cases z)
 have hT:∀(b:Addr) (l:List V),H b=some (.tup l)→H' b=some (.tup l):=fun b l e=>sb _ _ e (C0 e hp fun z=>by rcases hu with ⟨_,e⟩ | ⟨_,_,e⟩ <;> rw [e]at z <;> cases z)
 exact ⟨hL _ _ h.L,h.ln,h.m,fun i a g r h1 h2 h3=>⟨hT _ _ (h.t i a g r h1 h2 h3).1,hL _ _ (h.t i a g r h1 h2 h3).2⟩⟩
def bkL(as gs:List Addr)(rs:List N14.Row):List N55.Bk5:=(List.range rs.length).map fun i=>(as.getD i 0,(rs.getD i (Str.empty,true,[])).1,(rs.getD i (Str.empty,true,[])).2.1,gs.getD i 0)
theorem BkP.bk{H:Hp}{b:Addr}{as gs:List Addr}{rs:List N14.Row}(B:BkP H b as gs rs):N55.O3 H b (bkL as gs rs):=by
 have ga:∀i,i < rs.length→as[i]?=some (as.getD i 0):=fun i hi=>by rw [List.getD_eq_getElem?_getD,List.getElem?_eq_getElem (by rw [B.ln];exact hi)];rfl
 have gg:∀i,i < rs.length→gs[i]?=some (gs.getD i 0):=fun i hi=>by rw [List.getD_eq_getElem?_getD,List.getElem?_eq_getElem (by rw [B.m];exact hi)];rfl
 have gr:∀i,i < rs.length→rs[i]?=some (rs.getD i (Str.empty,true,[])):=fun i hi=>by rw [List.getD_eq_getElem?_getD,List.getElem?_eq_getElem hi];rfl
 refine ⟨?_,fun r hr=>?_⟩
 · rw [B.L]
   congr 2;unfold bkL;rw [List.map_map];refine List.ext_getElem? fun i=>?_;rw [List.getElem?_map,List.getElem?_map]
   by_cases hi:i < rs.length
   · rw [ga i hi,List.getElem?_range hi];rfl
   · rw [List.getElem?_eq_none (by rw [B.ln];omega),List.getElem?_eq_none (by rw [List.length_range];omega)]
     rfl
 · obtain ⟨i,hi,rfl⟩:=List.mem_map.mp hr
   have hi:=List.mem_range.mp hi;exact (B.t i _ _ _ (ga i hi) (gg i hi) (gr i hi)).1
theorem J55{as gs:List Addr}{rs:List N14.Row}:(bkL as gs rs).length=rs.length:=by unfold bkL;rw [List.length_map,List.length_range]
theorem J56{C:Str→Int}{as gs:List Addr}{rs:List N14.Row}:NPb.wsm C (bkL as gs rs)=Ca C rs:=by
 have e:rs=(List.range rs.length).map fun i=>rs.getD i (Str.empty,true,[]):=by
  refine List.ext_getElem? fun i=>?_;rw [List.getElem?_map]
  by_cases hi:i < rs.length
  · rw [List.getElem?_range hi,List.getElem?_eq_getElem hi]
    show _=some (rs.getD i _);rw [List.getD_eq_getElem?_getD,List.getElem?_eq_getElem hi];rfl
  · rw [List.getElem?_eq_none (by omega),List.getElem?_eq_none (by rw [List.length_range];omega)];rfl
 unfold NPb.wsm Ca bkL;rw [List.filter_map,List.map_map]
 conv=>rhs;rw [e,List.filter_map,List.map_map]
 rfl
def rwP(X:Addr)(ts:List Th)(P:Nat)(ys:List Str)(tk:List Bool):List N14.Row:=grows (T4 (stk (gps ys ys.length) tk (gps ys ys.length).length) X) (rm ts) P s20 ys ys.length
theorem J38{T:Aj}{R:Str→Int}{n:Int}{s:T.St×List Str}{z:Str}:(gask T R n s z).2.1=z:=by
 unfold gask
 split <;> rfl
theorem Wu{X:Addr}{ts:List Th}{P:Nat}{ys:List Str}{tk:List Bool}:(rwP X ts P ys tk).length=ys.length:=Cz
theorem Up{X:Addr}{ts:List Th}{P:Nat}{ys:List Str}{tk:List Bool}{i:Nat}{r:N14.Row}(h:(rwP X ts P ys tk)[i]?=some r):i < ys.length∧r=NR.grow (T4 (stk (gps ys ys.length) tk (gps ys ys.length).length) X) (rm ts) P s20 ys i:=by
 have hil:i < ys.length:=by rw [← Wu (X:=X) (ts:=ts) (P:=P) (tk:=tk)];exact (List.getElem?_eq_some_iff.mp h).1
 unfold rwP grows at h;rw [List.getElem?_map,List.getElem?_range hil]at h;exact ⟨hil,(Option.some.inj h).symm⟩
theorem J39{X:Addr}{ts:List Th}{P:Nat}{ys:List Str}{tk:List Bool}{i:Nat}{r:N14.Row}(h:(rwP X ts P ys tk)[i]?=some r):r.1=ys.getD i Str.empty:=by
 rw [(Up h).2];exact J38
def Ip(tp:Addr)(pos:Pos)(qual:Str)(K:PySem.W.Frag)(S X:Addr):Sp:=fun vs H Q _=>∃(st a:Addr) (P:Nat) (ts:List Th) (ys:List Str),vs=[.ref st,.ref a,.int P]∧Ag K S H st ts∧(ts.map (·.1)).Nodup∧ts.length≤60∧H a=some (.lst (ys.map V.str))∧ys.length≤40∧(∀y∈ys,y∈ts.map (·.1))∧(∀y∈ys,rm ts y=1)∧(∀y∈ys,0≤N41.cst ts y)∧1≤P∧P≤1000000∧D5 tp pos qual H∧
 ∀(t b p:Addr) (as gs ps:List Addr) (tk:List Bool) (h:List Int) (H':Hp),N55.Tk tp pos qual H H'→H t=none→H b=none→H p=none→(∀a∈as,H a=none)→(∀g∈gs,H g=none)→gs.Nodup→b∉gs→p∉gs→b≠p→
   H' t=some (.tup [.int (Ca (N41.cst ts) (rwP X ts P ys tk)),.ref b,.ref p])→BkP H' b as gs (rwP X ts P ys tk)→H' p=some (.lst (ps.map V.ref))→ps.length=ys.length→(∀(i:Nat) c,ps[i]?=some c→H' c=some (.tup (prV (at' h) i)))→
   FlR (ys.length+1) (jps (N41.cst ts) ys ys.length) ((P:Int) - 1) (tk0 (jps (N41.cst ts) ys ys.length)) 0 tk h→FE (ys.length+1) (jps (N41.cst ts) ys ys.length) tk ((P:Int) - 1) h→(∀v,v < ys.length+1→at' h v≤pi0 (jps (N41.cst ts) ys ys.length) v)→Q (.ref t) H'
theorem Y8{c:Int}{k k':Nat}(hk:k < 26)(hk':k' < 26)(h:N41.nmR c k=N41.nmR c k'):k=k':=by
 have h1:=congrArg List.length h;unfold N41.nmR at h1 h;rw [List.length_replicate,List.length_replicate]at h1
 have h2:bc ((c+(k:Int) / 8) % 26)=bc ((c+(k':Int) / 8) % 26):=by
  rw [← h1,show 1+k % 8=(k % 8)+1 by omega,List.replicate_succ,List.replicate_succ]at h;exact (List.cons.inj h).1
 have h3:=Ni (Int.emod_nonneg _ (by decide)) (Int.lt_of_lt_of_le (Int.emod_lt_of_pos _ (by decide)) (by decide)) (Int.emod_nonneg _ (by decide)) (Int.lt_of_lt_of_le (Int.emod_lt_of_pos _ (by decide)) (by decide)) h2;omega
theorem Q3{w:Bool}{c a:Int}{L m:Nat}(h0:0≤a)(h1:a < L)(hm:m≤26):(N41.Iv w c a L m).Nodup:=by
 unfold N41.Iv List.Nodup;rw [List.pairwise_map];refine List.Pairwise.imp_of_mem (R:=fun a b=>a≠b) ?_ List.nodup_range;intro a b ha hb hab e;have ha':=List.mem_range.mp ha;have hb':=List.mem_range.mp hb;have e':=J8v e;unfold N41.nmB at e'
 cases w with
 | true=>exact hab (J4c h0 h1 (by omega) (by omega) e')
 | false=>exact hab (Y8 (by omega) (by omega) e')
end N43
namespace N43
open L2 N1 N5 N4 N6 N12 N32 N14 N20 N18 N25 NR N22 N21 NF
theorem J3a:(Str.ofString "unasked9").cps.toList=[117,110,97,115,107,101,100,57]:=by decide+kernel
theorem J9a{w:Bool}{c a:Int}{L k:Nat}(hc0:0≤c)(hc1:c < 26):tx (N41.nmB w c a L k)≠Str.ofString "unasked9":=fun e=>by
 have e':=congrArg (fun s:Str=>s.cps.toList) e;simp only [K6,J3a]at e';unfold N41.nmB at e'
 cases w with
 | false=>
  rw [if_neg (by decide)]at e';unfold N41.nmR at e';have h0:=congrArg (fun l:List Nat=>l[0]?) e';have h1:=congrArg (fun l:List Nat=>l[1]?) e';simp only [List.getElem?_replicate]at h0 h1;rw [if_pos (by omega)]at h0;split at h1
  · have a0:bc ((c+(k:Int) / 8) % 26)=117:=Option.some.inj h0
    have a1:bc ((c+(k:Int) / 8) % 26)=110:=Option.some.inj h1;omega
  · cases h1
 | true=>
  rw [if_pos rfl]at e'
  have key:∀j:Nat,(j:Int)≠a→j≠0→∀x:Nat,[117,110,97,115,107,101,100,57][j]?=some x→bc ((c+5 * (j:Int)) % 36)=x:=fun j hj h0 x hx=>by
   have h2:(nmL (fun j:Nat=>c+5 * (j:Int)) a L k)[j]?=[117,110,97,115,107,101,100,57][j]?:=by rw [e']
   unfold nmL at h2;rw [hx,List.getElem?_map]at h2
   cases hr:(List.range L)[j]? with
   | none=>rw [hr]at h2;cases h2
   | some v=>
    have hv:v=j:=by
     have hl:=(List.getElem?_eq_some_iff.mp hr).1;rw [List.getElem?_range (by simpa using hl)]at hr;exact (Option.some.inj hr).symm
    rw [hr]at h2;have h3:sgn (fun j:Nat=>c+5 * (j:Int)) a k v=x:=Option.some.inj h2;rw [hv]at h3;unfold sgn md at h3;rw [if_neg hj,if_neg h0]at h3
    simpa using h3
  by_cases h2:a=2
  · have:=key 4 (by omega) (by decide) 107 rfl
    have:=Ni (Int.emod_nonneg _ (by decide)) (Int.emod_lt_of_pos _ (by decide)) (show (0:Int)≤10 by decide) (by decide) (this.trans (by decide+kernel:107=bc 10));omega
  · have:=key 2 (by omega) (by decide) 97 rfl
    have:=Ni (Int.emod_nonneg _ (by decide)) (Int.emod_lt_of_pos _ (by decide)) (show (0:Int)≤0 by decide) (by decide) (this.trans (by decide+kernel:97=bc 0));omega
theorem J7o{w:Bool}{c a:Int}{L m:Nat}(hc0:0≤c)(hc1:c < 26):Str.ofString "unasked9"∉N41.Iv w c a L m:=fun h=>by
 unfold N41.Iv at h;obtain ⟨k,_,e⟩:=List.mem_map.mp h;exact J9a hc0 hc1 e
def G3:Sp:=fun vs H Q _=>∃(i:Int) (m:Nat),vs=[.int i,.int m]∧m≤26∧∀(p:Addr) (ys:List Str) (H':Hp),H p=none→A6 H H'→H' p=some (.lst (ys.map V.str))→ys.length≤m→m≤ys.length→ys.Nodup→(∀y∈ys,C8 y.cps.toList=true)→Str.ofString "unasked9"∉ys→Q (.ref p) H'
structure J6c(C:Str→Int)(ys:List Str)(ts:List Th):Prop where
 nd:(ts.map (·.1)).Nodup
 l:ts.length≤27
 i:∀y∈ys,y∈ts.map (·.1)
 r:∀y∈ys,rm ts y=1
 c:∀y∈ys,N41.cst ts y=C y
theorem J3b{C:Str→Int}{ys:List Str}{ts:List Th}(nd:(ts.map (·.1)).Nodup)(l:ts.length≤27)(h:∀t∈N41.tsF C (fun _=>1) ys,t∈ts):J6c C ys ts:=by
 have key:∀y∈ys,∃i:Nat,ts[i]?=some ((y,C y,(1:Int)):Th):=fun y hy=>List.mem_iff_getElem?.mp (h _ (List.mem_map.mpr ⟨y,hy,rfl⟩));refine ⟨nd,l,fun y hy=>?_,fun y hy=>?_,fun y hy=>?_⟩
 · obtain ⟨i,hi⟩:=key y hy
   exact List.mem_map.mpr ⟨_,List.mem_of_getElem? hi,rfl⟩
 · obtain ⟨i,hi⟩:=key y hy
   exact Wc nd hi
 · obtain ⟨i,hi⟩:=key y hy
   exact N41.J1v nd hi
def Iq:Sp:=fun vs H Q _=>∃(t g ly:Addr) (P:Int) (z:Str) (b:Bool) (l L:List Str),vs=[.ref t,.str z,.ref ly,.int P]∧H t=some (.tup [.str z,.bl b,.ref g])∧H g=some (.lst (l.map V.str))∧H ly=some (.lst (L.map V.str))∧b=decide (z∈L)∧L.length≤1000∧l.length=(if z∉L∧(L.length:Int)=P then 1 else 0)∧Q (.bl true) H
theorem K9.len{P:Nat}{l l':List Str}{z:Str}{r:N14.Row}(h:K9 P l z r l')(hP:l.length≤P):r.2.2.length=(if z∉l∧(l.length:Int)=(P:Int) then 1 else 0):=by
 by_cases hz:z∈l
 · rw [if_neg (fun w=>w.1 hz),(h.hit hz).1];rfl
 · by_cases hl:l.length < P
   · rw [if_neg (fun w=>by have:=w.2;omega),(h.few hz hl).1];rfl
   · obtain ⟨u,_,e,_⟩:=h.full hz hl
     rw [if_pos ⟨hz,by omega⟩,e];rfl
theorem K9.mid{P:Nat}{l l':List Str}{z:Str}{r:N14.Row}(h:K9 P l z r l'):∃m:List Str,((r.2.2=[]∧m=l)∨∃u,u∈l∧r.2.2=[u]∧m=l.erase u)∧l'=(if r.2.1 then m else m++[z]):=by
 by_cases hz:z∈l
 · refine ⟨l,.inl ⟨(h.hit hz).1,rfl⟩,?_⟩
   rw [h.b,decide_eq_true hz,if_pos rfl];exact (h.hit hz).2
 · by_cases hl:l.length < P
   · refine ⟨l,.inl ⟨(h.few hz hl).1,rfl⟩,?_⟩
     rw [h.b,decide_eq_false hz,if_neg (by decide)];exact (h.few hz hl).2
   · obtain ⟨u,hu,e1,e2⟩:=h.full hz hl
     refine ⟨l.erase u,.inr ⟨u,hu,e1,rfl⟩,?_⟩;rw [h.b,decide_eq_false hz,if_neg (by decide)];exact e2
def Iz(P:Nat)(ys:List Str)(rs:List N14.Row)(L:Nat→List Str):Prop:=rs.length=ys.length∧L 0=[]∧∀(i:Nat) (r:N14.Row),rs[i]?=some r→K9 P (L i) (ys.getD i Str.empty) r (L (i+1))∧(L i).length≤P∧(L i).Nodup
def G4(K:PySem.W.Frag):Sp:=fun vs H Q _=>∃(b a co:Addr) (P:Nat) (as gs:List Addr) (ys ns:List Str) (rs:List N14.Row) (L:Nat→List Str) (C:Str→Int),vs=[.ref b,.ref a,.ref co,.int P]∧BkP H b as gs rs∧SqL K H a (ys.map V.str)∧Ku H co ns C∧(∀y∈ys,y∈ns)∧ys.length≤200∧Iz P ys rs L∧(∀i,i≤ys.length→(L i).length≤200)∧∀H',A6 H H'→Q (.int (Ca C rs)) H'
def lyP(X:Addr)(ts:List Th)(P:Nat)(ys:List Str)(tk:List Bool)(i:Nat):List Str:=(gst (T4 (stk (gps ys ys.length) tk (gps ys ys.length).length) X) (rm ts) P s20 ys i).2
section
variable {X:Addr} {ts:List Th} {P:Nat} {ys:List Str} {tk:List Bool} {h:List Int}
theorem J9b(F:FE (ys.length+1) (jps (N41.cst ts) ys ys.length) tk ((P:Int) - 1) h)(hP:1≤P)(hr:∀y∈ys,rm ts y=1)(hC:∀y∈ys,0≤N41.cst ts y)(hin:∀y∈ys,y∈ts.map (·.1)):Iz P ys (rwP X ts P ys tk) (lyP X ts P ys tk):=by
 have ho:∀t,t < ys.length→over (jps (N41.cst ts) ys ys.length) tk t < P:=fun t ht=>by have:=F.o t (by omega);omega
 refine ⟨Wu,rfl,fun i r hri=>?_⟩;obtain ⟨hil,er⟩:=Up hri;obtain ⟨a,b⟩:=Tc (X:=X) Q2 ho F.l hP hr hC hin i (by omega);have gi:=Dh (T:=T4 (stk (gps ys ys.length) tk (gps ys ys.length).length) X) (R:=rm ts) (n:=(P:Int)) (s0:=s20) (ns:=ts.map (·.1)) N63.li0 hin (fun y hy=>by rw [hr y hy];omega) i (by omega);have k:=P0 (X:=X) Q2 ho F.l hP hr hC hin hil a gi.i b;have hz:=N41.Bu (ys:=ys) (k:=i) hil;have e1:gst (T4 (stk (gps ys ys.length) tk (gps ys ys.length).length) X) (rm ts) P s20 ys (i+1)=(gask (T4 (stk (gps ys ys.length) tk (gps ys ys.length).length) X) (rm ts) P (gst (T4 (stk (gps ys ys.length) tk (gps ys ys.length).length) X) (rm ts) P s20 ys i) (ys.getD i Str.empty)).1:=Cr hz;refine ⟨?_,b,gi.nd⟩;rw [er];unfold lyP;rw [e1];exact k.2.2
theorem Uq{C C':Str→Int}{rs:List N14.Row}(h:∀r∈rs,C r.1=C' r.1):Ca C rs=Ca C' rs:=by
 unfold Ca;congr 1;exact List.map_congr_left fun r hr=>h r (List.mem_filter.mp hr).1
end
end N43
namespace N45
open L2 N1 N5 N4 N6 N12 N32 N14 N20 N18 N25 NR N22 N21 N24 N43 NF
def ct(ys:List Str)(j t:Nat)(l:List Str):Nat:=l.countP fun y=>decide (nx ys j y≤t)
section
variable {ys:List Str} {i j t P:Nat} {z u:Str} {l l':List Str}
theorem J9c(h:j≤ys.length):j≤nx ys j z:=by unfold nx;omega
theorem J3c:ct ys j t l≤l.length:=List.countP_le_length
theorem Q4:ct ys j t (l++[z])=ct ys j t l+if nx ys j z≤t then 1 else 0:=by
 unfold ct;rw [List.countP_append,List.countP_singleton];congr 1
 by_cases h:nx ys j z≤t <;> simp [h]
theorem Q5(hj:j≤ys.length)(h:t < j):ct ys j t l=0:=by
 unfold ct;rw [List.countP_eq_zero];intro y _ e;have h1:=of_decide_eq_true e;have h2:=J9c (ys:=ys) (j:=j) (z:=y) hj;omega
theorem Do(h:z∈l):ct ys j t l=ct ys j t (l.erase z)+if nx ys j z≤t then 1 else 0:=by
 unfold ct;rw [(List.perm_cons_erase h).countP_eq,List.countP_cons];congr 1
 by_cases h:nx ys j z≤t <;> simp [h]
theorem Ir(hz:ys[i]?=some z)(h:z∉l):ct ys i t l=ct ys (i+1) t l:=by
 unfold ct;refine List.countP_congr fun y hy=>?_;rw [J4z hz (fun e=>h (by rw [e];exact hy))]
theorem J7p(h:∀y∈l,nx ys j y≤t):ct ys j t l=l.length:=by
 unfold ct;rw [List.countP_eq_length];exact fun y hy=>decide_eq_true (h y hy)
theorem Q6(hz:ys[i]?=some z)(hi:i≤t)(h:z∈l)(nd:l.Nodup):ct ys i t l=ct ys (i+1) t (l.erase z)+1:=by
 rw [Do h,J7k hz,if_pos hi,Ir hz (nd.not_mem_erase)]
theorem Ti{r:N14.Row}(hz:ys[i]?=some z)(h:K9 P l z r l')(hm:z∉l)(hP:1≤P)(hl:l.length≤P):ct ys (i+1) t l'≤ct ys i t l+(if nx ys (i+1) z≤t then 1 else 0)∧ct ys (i+1) t l'≤P - 1+(if nx ys (i+1) z≤t then 1 else 0):=by
 by_cases hf:l.length < P
 · obtain ⟨_,e⟩:=h.few hm hf
   rw [e,Q4,Ir hz hm];have:=J3c (ys:=ys) (j:=i+1) (t:=t) (l:=l);exact ⟨Nat.le_refl _,by omega⟩
 · obtain ⟨u,hu,_,e⟩:=h.full hm hf
   rw [e,Q4,Ir hz hm,Do hu];have:=J3c (ys:=ys) (j:=i+1) (t:=t) (l:=l.erase u);rw [List.length_erase_of_mem hu]at this;exact ⟨by omega,by omega⟩
structure J7q(ys:List Str)(P i:Nat)(l:List Str)(z:Str)(r:N14.Row)(l':List Str):Prop where
 p:K9 P l z r l'
 f:z∉l→¬l.length < P→∃u∈l,r.2.2=[u]∧l'=l.erase u++[z]∧∀w∈l,nx ys (i+1) w≤nx ys (i+1) u
theorem J7r{r:N14.Row}(hz:ys[i]?=some z)(h:J7q ys P i l z r l')(hm:z∉l)(hl:l.length≤P):ct ys (i+1) t l'=ct ys i t l+(if nx ys (i+1) z≤t then 1 else 0)∨ct ys (i+1) t l'=P - 1+(if nx ys (i+1) z≤t then 1 else 0):=by
 by_cases hf:l.length < P
 · obtain ⟨_,e⟩:=h.p.few hm hf
   rw [e,Q4,Ir hz hm];exact .inl rfl
 · obtain ⟨u,hu,_,e,hw⟩:=h.f hm hf
   rw [e,Q4,Ir hz hm]
   by_cases hut:nx ys (i+1) u≤t
   · right
     rw [J7p fun y hy=>Nat.le_trans (hw y (List.mem_of_mem_erase hy)) hut,List.length_erase_of_mem hu];omega
   · left
     rw [Do hu,if_neg hut];omega
structure BI(ys:List Str)(i:Nat)(lF lO:List Str)(mF mO:Nat):Prop where
 m:mF≤mO
 c:∀t,t < ys.length→mF+ct ys i t lO≤mO+ct ys i t lF
theorem BI.zero:BI ys 0 [] [] 0 0:=⟨Nat.le_refl _,fun t _=>Nat.le_refl _⟩
theorem BI.step{lF lO lF' lO':List Str}{mF mO:Nat}{rF rO:N14.Row}(b:BI ys i lF lO mF mO)(hz:ys[i]?=some z)(hP:1≤P)(hF:J7q ys P i lF z rF lF')(hO:K9 P lO z rO lO')(nF:lF.Nodup)(nO:lO.Nodup)(cF:lF.length≤P)(cO:lO.length≤P):BI ys (i+1) lF' lO' (mF+if z∈lF then 0 else 1) (mO+if z∈lO then 0 else 1):=by
 have hi:=(List.getElem?_eq_some_iff.mp hz).1
 have hmm:mF+(if z∈lF then 0 else 1)≤mO+if z∈lO then 0 else 1:=by
  have hm:=b.m
  by_cases h1:z∈lF
  · rw [if_pos h1];omega
  · rw [if_neg h1]
    by_cases h2:z∈lO
    · rw [if_pos h2]
      have h3:=b.c i hi;rw [Q6 hz (Nat.le_refl _) h2 nO,Ir hz h1,Q5 (t:=i) (l:=lF) (show i+1≤ys.length by omega) (by omega)]at h3;omega
    · rw [if_neg h2];omega
 refine ⟨hmm,fun t ht=>?_⟩
 by_cases hti:t < i+1
 · rw [Q5 (by omega) hti,Q5 (by omega) hti];omega
 have hb:=b.c t ht;have hm:=b.m
 by_cases h1:z∈lF
 · obtain ⟨_,e1⟩:=hF.p.hit h1
   rw [Q6 hz (by omega) h1 nF]at hb
   by_cases h2:z∈lO
   · obtain ⟨_,e2⟩:=hO.hit h2
     rw [Q6 hz (by omega) h2 nO]at hb;rw [if_pos h1,if_pos h2,e1,e2,Do h1,Do h2];omega
   · have k:=Ti (t:=t) hz hO h2 hP cO
     rw [if_pos h1,if_neg h2,e1,Do h1];omega
 · rw [if_neg h1]at hmm ⊢
   have kF:=J7r (t:=t) hz hF h1 cF
   by_cases h2:z∈lO
   · obtain ⟨_,e2⟩:=hO.hit h2
     rw [Q6 hz (by omega) h2 nO]at hb;have k3:=J3c (ys:=ys) (j:=i+1) (t:=t) (l:=lO.erase z);rw [List.length_erase_of_mem h2]at k3;rw [if_pos h2]at hmm ⊢;rw [e2,Do h2]
     rcases kF with k | k <;> rw [k] <;> omega
   · have k:=Ti (t:=t) hz hO h2 hP cO
     rw [if_neg h2]
     rcases kF with k' | k' <;> rw [k'] <;> omega
end
def ms(ys:List Str)(L:Nat→List Str):Nat→Nat
 | 0=>0
 | i+1=>ms ys L i+if ys.getD i Str.empty∈L i then 0 else 1
def Q7(P:Nat)(ys:List Str)(rs:List N14.Row)(L:Nat→List Str):Prop:=∀(i:Nat) (r:N14.Row),rs[i]?=some r→J7q ys P i (L i) (ys.getD i Str.empty) r (L (i+1))
theorem belady{ys:List Str}{P:Nat}{rF rO:List N14.Row}{LF LO:Nat→List Str}(hP:1≤P)(hF:Iz P ys rF LF)(hf:Q7 P ys rF LF)(hO:Iz P ys rO LO):∀i,i≤ys.length→BI ys i (LF i) (LO i) (ms ys LF i) (ms ys LO i)
 | 0,_=>by rw [hF.2.1,hO.2.1];exact BI.zero
 | i+1,h=>by
  have b:=belady hP hF hf hO i (by omega)
  obtain ⟨r1,e1⟩:∃r,rF[i]?=some r:=⟨_,List.getElem?_eq_getElem (by rw [hF.1];omega)⟩
  obtain ⟨r2,e2⟩:∃r,rO[i]?=some r:=⟨_,List.getElem?_eq_getElem (by rw [hO.1];omega)⟩
  have f1:=hF.2.2 i _ e1;have f2:=hO.2.2 i _ e2;exact b.step (N41.Bu (by omega)) hP (hf i _ e1) f2.1 f1.2.2 f2.2.2 f1.2.1 f2.2.1
theorem Q8{ys:List Str}{P:Nat}{rs:List N14.Row}{L:Nat→List Str}{C:Str→Int}{c:Int}(h:Iz P ys rs L)(hc:∀y∈ys,C y=c):∀i,i≤ys.length→Ca C (rs.take i)=c * (ms ys L i:Int)
 | 0,_=>by simp [Ca,ms]
 | i+1,hi=>by
  obtain ⟨r,e⟩:∃r,rs[i]?=some r:=⟨_,List.getElem?_eq_getElem (by rw [h.1];omega)⟩
  have hr:=(h.2.2 i _ e).1;rw [List.take_succ,e];show Ca C (rs.take i++[r])=_;rw [Ig,Q8 h hc i (by omega),hr.b,hr.n,hc _ (List.mem_of_getElem? (N41.Bu (show i < ys.length by omega)))];show _=c * ((ms ys L i+if ys.getD i Str.empty∈L i then 0 else 1:Nat):Int)
  by_cases hm:ys.getD i Str.empty∈L i
  · rw [if_pos hm,decide_eq_true hm];simp
  · rw [if_neg hm,decide_eq_false hm]
    rw [Int.natCast_add,Int.mul_add];simp
theorem J3d{ys:List Str}{P:Nat}{rF rO:List N14.Row}{LF LO:Nat→List Str}{C:Str→Int}{c:Int}(hP:1≤P)(hF:Iz P ys rF LF)(hf:Q7 P ys rF LF)(hO:Iz P ys rO LO)(hc:∀y∈ys,C y=c)(c0:0≤c):Ca C rF≤Ca C rO:=by
 have e1:=Q8 hF hc _ (Nat.le_refl _);have e2:=Q8 hO hc _ (Nat.le_refl _);rw [List.take_of_length_le (by rw [hF.1];exact Nat.le_refl _)]at e1;rw [List.take_of_length_le (by rw [hO.1];exact Nat.le_refl _)]at e2;rw [e1,e2];exact Int.mul_le_mul_of_nonneg_left (by have:=(belady hP hF hf hO _ (Nat.le_refl _)).m;omega) c0
section
variable {T:Aj} {R:Str→Int} {P:Nat} {ns ys:List Str} {s:T.St} {s0:T.St} {l:List Str} {z:Str} {C:Str→Int}
theorem Iu(hi:T.inv ns P s l)(hz:z∈ns)(hP:1≤P)(hl:l.length≤P)(hl1:∀y∈l,R y=1)(hz1:R z=1):K9 P l z (gask T R P (s,l) z).2 (gask T R P (s,l) z).1.2∧(z∉l→¬l.length < P→(T.pick P (T.asked P s z) l).2∈l∧gask T R P (s,l) z=((T.came P (T.gone P (T.pick P (T.asked P s z) l).1 (T.pick P (T.asked P s z) l).2) z,l.erase (T.pick P (T.asked P s z) l).2++[z]),(z,false,[(T.pick P (T.asked P s z) l).2])))∧(z∉l→l.length < P→gask T R P (s,l) z=((T.came P (T.asked P s z) z,l++[z]),(z,false,[]))):=by
 by_cases hm:z∈l
 · have e:gask T R P (s,l) z=((T.asked P s z,l),(z,true,[])):=if_pos hm
   rw [e];exact ⟨⟨rfl,(decide_eq_true hm).symm,fun _=>⟨rfl,rfl⟩,fun w=>absurd hm w,fun w=>absurd hm w⟩,fun w=>absurd hm w,fun w=>absurd hm w⟩
 · have e:gask T R P (s,l) z=((T.came P (gf T R P (R z) (T.asked P s z) l []).1 z,(gf T R P (R z) (T.asked P s z) l []).2.1++[z]),(z,false,(gf T R P (R z) (T.asked P s z) l []).2.2)):=if_neg hm
   rw [e]
   by_cases hlt:l.length < P
   · rw [J2z (T:=T) hl1 hz1 (by omega)]
     exact ⟨⟨rfl,(decide_eq_false hm).symm,fun w=>absurd w hm,fun _ _=>⟨rfl,rfl⟩,fun _ w=>absurd hlt w⟩,fun _ w=>absurd hlt w,fun _ _=>rfl⟩
   · obtain ⟨hp,hg⟩:=Ws (T:=T) (T.i_mid hi hz hm) hl1 hz1 (by omega) (by omega)
     rw [hg];exact ⟨⟨rfl,(decide_eq_false hm).symm,fun w=>absurd w hm,fun _ w=>absurd w hlt,fun _ _=>⟨_,hp,rfl,rfl⟩⟩,fun _ _=>⟨hp,rfl⟩,fun _ w=>absurd w hlt⟩
theorem K9.len{r:N14.Row}{l':List Str}(h:K9 P l z r l')(hP:1≤P)(hl:l.length≤P):l'.length≤P:=by
 by_cases hm:z∈l
 · rw [(h.hit hm).2];exact hl
 by_cases hf:l.length < P
 · rw [(h.few hm hf).2,List.length_append];simp;omega
 · obtain ⟨u,hu,_,e⟩:=h.full hm hf
   have:=List.length_pos_of_mem hu;rw [e,List.length_append,List.length_erase_of_mem hu];simp;omega
variable (h0:T.inv ns P s0 []) (hP:1≤P) (hin:∀y∈ys,y∈ns) (hr:∀y∈ys,R y=1)
include h0 hP hin hr
theorem Mt:∀i,i≤ys.length→(gst T R P s0 ys i).2.length≤P∧∀y∈(gst T R P s0 ys i).2,y∈ys
 | 0,_=>⟨Nat.zero_le _,fun y hy=>by cases hy⟩
 | i+1,hi=>by
  obtain ⟨a,b⟩:=Mt i (by omega);have gi:=Dh (T:=T) (R:=R) (n:=(P:Int)) (s0:=s0) (ns:=ns) h0 hin (fun y hy=>by rw [hr y hy];omega) i (by omega);have hz:=N41.Bu (ys:=ys) (k:=i) (by omega);have hzy:=List.mem_of_getElem? hz;have k:=(Iu (T:=T) (R:=R) (P:=P) (s:=(gst T R P s0 ys i).1) (l:=(gst T R P s0 ys i).2) gi.i (hin _ hzy) hP a (fun y hy=>hr y (b y hy)) (hr _ hzy)).1;rw [Cr hz];refine ⟨K9.len k hP a,fun y hy=>?_⟩
  by_cases hm:ys.getD i Str.empty∈(gst T R P s0 ys i).2
  · rw [(k.hit hm).2]at hy;exact b y hy
  by_cases hf:(gst T R P s0 ys i).2.length < P
  · rw [(k.few hm hf).2]at hy
    rcases List.mem_append.mp hy with hy | hy
    · exact b y hy
    · rw [List.mem_singleton.mp hy];exact hzy
  · obtain ⟨u,hu,_,e⟩:=k.full hm hf
    rw [e]at hy;rcases List.mem_append.mp hy with hy | hy
    · exact b y (List.mem_of_mem_erase hy)
    · rw [List.mem_singleton.mp hy];exact hzy
theorem Gr:Iz P ys (grows T R P s0 ys ys.length) (fun i=>(gst T R P s0 ys i).2):=by
 refine ⟨Cz,rfl,fun i r hri=>?_⟩
 have hil:i < ys.length:=by rw [← Cz (T:=T) (R:=R) (n:=(P:Int)) (s0:=s0) (ys:=ys) (i:=ys.length)];exact (List.getElem?_eq_some_iff.mp hri).1
 obtain ⟨a,b⟩:=Mt h0 hP hin hr i (by omega);have gi:=Dh (T:=T) (R:=R) (n:=(P:Int)) (s0:=s0) (ns:=ns) h0 hin (fun y hy=>by rw [hr y hy];omega) i (by omega);have hz:=N41.Bu (ys:=ys) (k:=i) hil;have hzy:=List.mem_of_getElem? hz;have k:=(Iu (T:=T) (R:=R) (P:=P) (s:=(gst T R P s0 ys i).1) (l:=(gst T R P s0 ys i).2) gi.i (hin _ hzy) hP a (fun y hy=>hr y (b y hy)) (hr _ hzy)).1
 have er:r=grow T R P s0 ys i:=by
  unfold grows at hri;rw [List.getElem?_map,List.getElem?_range hil]at hri;exact (Option.some.inj hri).symm
 rw [er];refine ⟨?_,a,gi.nd⟩;show K9 P (gst T R P s0 ys i).2 _ (grow T R P s0 ys i) (gst T R P s0 ys (i+1)).2;rw [Cr hz];exact k
end
theorem P3{ys:List Str}{P:Nat}{rs:List N14.Row}{L:Nat→List Str}{C r:Str→Int}(h:Iz P ys rs L)(hr:∀y∈ys,r y=1):∀i,i≤ys.length→N41.Dd C r P ys i (L i) (Ca C (rs.take i))
 | 0,_=>by rw [h.2.1];exact N41.Dd.start (by omega)
 | i+1,hi=>by
  have a:=P3 (C:=C) h hr i (by omega)
  obtain ⟨rr,e⟩:∃r,rs[i]?=some r:=⟨_,List.getElem?_eq_getElem (by rw [h.1];omega)⟩
  obtain ⟨k,kl,kn⟩:=h.2.2 i _ e;have hin:∀y∈L i,r y=1:=fun y hy=>hr y (N41.Kz (a.asked y hy) (by omega));have hz1:=hr _ (List.mem_of_getElem? (N41.Bu (show i < ys.length by omega)));rw [List.take_succ,e];show N41.Dd C r P ys (i+1) (L (i+1)) (Ca C (rs.take i++[rr]));rw [Ig,k.b,k.n]
  by_cases hm:ys.getD i Str.empty∈L i
  · rw [(k.hit hm).2,decide_eq_true hm]
    simpa using a.hit (by omega) hm
  rw [decide_eq_false hm];rw [if_neg (by decide)]
  by_cases hf:(L i).length < P
  · rw [(k.few hm hf).2]
    exact a.miss (by omega) hm (by rw [K8 hin,hz1];omega)
  · obtain ⟨u,hu,_,e⟩:=k.full hm hf
    rw [e];have hlen:=List.length_erase_of_mem hu;have hpos:=List.length_pos_of_mem hu;have c:=a.cast (M:=(L i).erase u) (fun y hy=>by rw [hin y hy];decide) List.erase_sublist;exact c.miss (by omega) (fun w=>hm (List.mem_of_mem_erase w)) (by rw [K8 fun y hy=>hin y (List.mem_of_mem_erase hy),hz1];omega)
theorem J57{X:Addr}{ts:List Th}{P:Nat}{ys:List Str}{tk:List Bool}{h:List Int}{rs:List N14.Row}{L:Nat→List Str}(F:FE (ys.length+1) (jps (N41.cst ts) ys ys.length) tk ((P:Int) - 1) h)(hP:1≤P)(hr:∀y∈ys,rm ts y=1)(hC:∀y∈ys,0≤N41.cst ts y)(hin:∀y∈ys,y∈ts.map (·.1))(hR:Iz P ys rs L):Ca (N41.cst ts) (rwP X ts P ys tk)≤Ca (N41.cst ts) rs:=by
 have e:=Y4 (X:=X) (r:=rm ts) (ns:=ts.map (·.1)) F Q2 hP hr hC hin;unfold rwP;rw [e];have a:=P3 (C:=N41.cst ts) hR hr ys.length (Nat.le_refl _);rw [List.take_of_length_le (by rw [hR.1];exact Nat.le_refl _)]at a;have h2:=(a.all (Cm (at' h) ys.length) 1 (Ms F) Tb).le;have h4:0≤N41.sm (N41.cr (rm ts) (Cm (at' h) ys.length) ys ys.length) (L ys.length):=N41.J66 fun y hy=>N41.J1t (by rw [hr y (N41.Kz (a.asked y hy) (Nat.le_refl _))];decide) (Ms F);omega
section
variable {X:Addr} {R:Str→Int} {P:Nat} {ns ys:List Str}
variable (hP:1≤P) (hin:∀y∈ys,y∈ns) (hr:∀y∈ys,R y=1)
include hP hin hr
theorem J6d:∀i,i≤ys.length→S2.k (gst (T3 X ys) R P s20 ys i).1=(i:Int)
 | 0,_=>rfl
 | i+1,hi=>by
  have ih:=J6d i (by omega)
  have h0:(T3 X ys).inv ns P s20 []:=⟨N63.li0,Int.le_refl _⟩
  obtain ⟨a,b⟩:=Mt (T:=T3 X ys) h0 hP hin hr i (by omega);have gi:=Dh (T:=T3 X ys) (R:=R) (n:=(P:Int)) (s0:=s20) (ns:=ns) h0 hin (fun y hy=>by rw [hr y hy];omega) i (by omega);have hz:=N41.Bu (ys:=ys) (k:=i) (by omega);have hzy:=List.mem_of_getElem? hz;have k:=Iu (T:=T3 X ys) (R:=R) (P:=P) (s:=(gst (T3 X ys) R P s20 ys i).1) (l:=(gst (T3 X ys) R P s20 ys i).2) gi.i (hin _ hzy) hP a (fun y hy=>hr y (b y hy)) (hr _ hzy);have e1:gst (T3 X ys) R P s20 ys (i+1)=(gask (T3 X ys) R P (gst (T3 X ys) R P s20 ys i) (ys.getD i Str.empty)).1:=Cr hz;rw [e1]
  have fin:S2.k (Bp (gst (T3 X ys) R P s20 ys i).1 (ys.getD i Str.empty))=((i+1:Nat):Int):=by show S2.k (gst (T3 X ys) R P s20 ys i).1+1=_;rw [ih];omega
  by_cases hm:ys.getD i Str.empty∈(gst (T3 X ys) R P s20 ys i).2
  · have e:gask (T3 X ys) R P (gst (T3 X ys) R P s20 ys i) (ys.getD i Str.empty)=(((T3 X ys).asked P (gst (T3 X ys) R P s20 ys i).1 (ys.getD i Str.empty),(gst (T3 X ys) R P s20 ys i).2),(ys.getD i Str.empty,true,[])):=if_pos hm
    rw [e];exact fin
  by_cases hf:(gst (T3 X ys) R P s20 ys i).2.length < P
  · have e:=k.2.2 hm hf
    rw [show gask (T3 X ys) R P (gst (T3 X ys) R P s20 ys i) (ys.getD i Str.empty)=_ from e];exact fin
  · have e:=(k.2.1 hm hf).2
    rw [show gask (T3 X ys) R P (gst (T3 X ys) R P s20 ys i) (ys.getD i Str.empty)=_ from e];exact fin
theorem J3e:Q7 P ys (grows (T3 X ys) R P s20 ys ys.length) (fun i=>(gst (T3 X ys) R P s20 ys i).2):=fun i r hri=>by
 have h0:(T3 X ys).inv ns P s20 []:=⟨N63.li0,Int.le_refl _⟩
 have hil:i < ys.length:=by rw [← Cz (T:=T3 X ys) (R:=R) (n:=(P:Int)) (s0:=s20) (ys:=ys) (i:=ys.length)];exact (List.getElem?_eq_some_iff.mp hri).1
 have hrw:=(Gr (T:=T3 X ys) (R:=R) h0 hP hin hr).2.2 i r hri;refine ⟨hrw.1,fun hm hf=>?_⟩;obtain ⟨a,b⟩:=Mt (T:=T3 X ys) h0 hP hin hr i (by omega);have gi:=Dh (T:=T3 X ys) (R:=R) (n:=(P:Int)) (s0:=s20) (ns:=ns) h0 hin (fun y hy=>by rw [hr y hy];omega) i (by omega);have hz:=N41.Bu (ys:=ys) (k:=i) hil;have hzy:=List.mem_of_getElem? hz;obtain ⟨hp,e⟩:=(Iu (T:=T3 X ys) (R:=R) (P:=P) (s:=(gst (T3 X ys) R P s20 ys i).1) (l:=(gst (T3 X ys) R P s20 ys i).2) gi.i (hin _ hzy) hP a (fun y hy=>hr y (b y hy)) (hr _ hzy)).2.1 hm hf
 have er:r=grow (T3 X ys) R P s20 ys i:=by
  unfold grows at hri;rw [List.getElem?_map,List.getElem?_range hil]at hri;exact (Option.some.inj hri).symm
 have e':gask (T3 X ys) R P (gst (T3 X ys) R P s20 ys i) (ys.getD i Str.empty)=_:=e;refine ⟨_,hp,?_,?_,fun w hw=>?_⟩
 · rw [er];show (gask (T3 X ys) R P (gst (T3 X ys) R P s20 ys i) (ys.getD i Str.empty)).2.2.2=_;rw [e']
 · show (gst (T3 X ys) R P s20 ys (i+1)).2=_
   have e1:gst (T3 X ys) R P s20 ys (i+1)=(gask (T3 X ys) R P (gst (T3 X ys) R P s20 ys i) (ys.getD i Str.empty)).1:=Cr hz;rw [e1,e']
 · have hne:(gst (T3 X ys) R P s20 ys i).2≠[]:=List.ne_nil_of_mem hp
   have hk:(S2.k (Bp (gst (T3 X ys) R P s20 ys i).1 (ys.getD i Str.empty))).toNat=i+1:=by
    show (S2.k (gst (T3 X ys) R P s20 ys i).1+1).toNat=_;rw [J6d hP hin hr i (by omega)];omega
   have:=(Wq (ys:=ys) (s:=Bp (gst (T3 X ys) R P s20 ys i).1 (ys.getD i Str.empty)) hne).2 w hw;rw [hk]at this;show nx ys (i+1) w≤nx ys (i+1) (fmin ys (Bp (gst (T3 X ys) R P s20 ys i).1 (ys.getD i Str.empty)) (gst (T3 X ys) R P s20 ys i).2);omega
end
theorem Tj{X X':Addr}{ts:List Th}{P:Nat}{ys:List Str}{tk:List Bool}{h:List Int}{c:Int}(F:FE (ys.length+1) (jps (N41.cst ts) ys ys.length) tk ((P:Int) - 1) h)(hP:1≤P)(hr:∀y∈ys,rm ts y=1)(hin:∀y∈ys,y∈ts.map (·.1))(hc:∀y∈ys,N41.cst ts y=c)(c0:0≤c):Ca (N41.cst ts) (grows (T3 X' ys) (rm ts) P s20 ys ys.length)=Ca (N41.cst ts) (rwP X ts P ys tk):=by
 have hC:∀y∈ys,0≤N41.cst ts y:=fun y hy=>by rw [hc y hy];exact c0
 have h1:=Gr (T:=T3 X' ys) (R:=rm ts) (s0:=s20) (ns:=ts.map (·.1)) ⟨N63.li0,Int.le_refl _⟩ hP hin hr;have a:=J57 (X:=X) F hP hr hC hin h1;have b:=J3d hP h1 (J3e hP hin hr) (J9b (X:=X) F hP hr hC hin) hc c0;omega
inductive W5 where
 | fa (ys:List Str) (h:ys.length≤1000)
 | pl (kv:List (Key×V)) (h:kv.length≤1000)
structure C5 where
 fa:Addr
 pl:Addr
def TB(c:C5):W5→Aj
 | .fa ys _=>T3 c.fa ys
 | .pl kv _=>N43.T4 kv c.pl
def Gs(tp:Addr)(K:PySem.W.Frag):Sp:=fun vs H Q _=>∃(a:Addr) (ns:List Int),vs=[.ref a]∧SqL K H a (ns.map V.int)∧ns.length≤63∧H tp=some (.tbl #[])∧∀H',Q (.bl true) H'
end N45
open PySem PySem.W PyProof.Rows
namespace L2
structure Bs(P:Program)(w:World)(K:PySem.W.Frag)(mg:Str→Option Value)(base:Heap):Prop where
 ex:∃h:Heap,K.In h∧h.Ns mainGlobals mg
theorem lc{α:Type}{us:List α}{n:Nat}(h:us.length=n+1):∃u r,us=u::r∧r.length=n:=by
 cases us with
 | nil=>cases h
 | cons u r=>exact ⟨u,r,rfl,Nat.succ.inj h⟩
theorem l0{α:Type}{us:List α}(h:us.length=0):us=[]:=by
 cases us with
 | nil=>rfl
 | cons u r=>cases h
section
variable {P:Program} {w:World} {K:PySem.W.Frag} {mg:Str→Option Value} {base:Heap} {CX:CXT} {k:Nat} {sp:Sp} {ps:List Str} {x qual n p1 p2 p3 p4 p5 p6 p7:Str} {st:Stmt} {f C:Addr} {fd:FuncData}
theorem Fun.d(F:Fun K x qual st f fd)(B:Bs P w K mg base)(a:PySem.W.nsIn K mainGlobals x=some (some (.ref f)))(o:Al P w K mg base CX k f fd ps sp)(b:C1 K fd ps []):Def P w K mg base CX k x ps sp:=
 let ⟨_,X,G⟩:=B.ex;⟨f,fd,o,PySem.W.mg_of X G a,F.kp,b⟩
theorem Fun.m(F:Fun K x qual st f fd)(B:Bs P w K mg base)(M:Cp K C x f)(o:Al P w K mg base CX k f fd ps sp)(b:C1 K fd ps []):DefM P w K mg base CX k C x ps sp:=
 ⟨f,fd,o,M,b⟩
theorem Fun.i(F:Fun K x qual st f fd)(B:Bs P w K mg base)(M:Mk K C f)(a:PySem.W.nsIn K mainGlobals n=some (some (.ref C)))(o:Al P w K mg base CX k f fd ps sp)(b:C1 K fd ps []):U6 P w K mg base CX k n C ps sp:=
 let ⟨_,X,G⟩:=B.ex;⟨f,fd,o,M,PySem.W.mg_of X G a,b⟩
theorem Fun.e1(F:Fun K x qual st f fd)(h:∀(kV doc pm:Value) (an:Option Addr) (cdv ct u:Value),bindArgs (PySem.W.fnOf x qual (Bk st) (Be st) (A7 st) .none kV doc pm an cdv ct) ⟨[u],[]⟩=pure [(p1,u)]):C1 K fd [p1] []:=
 F.binds (ps:=[p1]) fun kV doc pm an cdv ct us hl=>by
  obtain ⟨u,us,rfl,h1⟩:=lc hl;cases l0 h1;exact h kV doc pm an cdv ct u
theorem Fun.e2(F:Fun K x qual st f fd)(h:∀(kV doc pm:Value) (an:Option Addr) (cdv ct u v:Value),bindArgs (PySem.W.fnOf x qual (Bk st) (Be st) (A7 st) .none kV doc pm an cdv ct) ⟨[u,v],[]⟩=pure [(p1,u),(p2,v)]):C1 K fd [p1,p2] []:=
 F.binds (ps:=[p1,p2]) fun kV doc pm an cdv ct us hl=>by
  obtain ⟨u,us,rfl,h1⟩:=lc hl;obtain ⟨v,us,rfl,h2⟩:=lc h1;cases l0 h2;exact h kV doc pm an cdv ct u v
theorem Fun.e3(F:Fun K x qual st f fd)(h:∀(kV doc pm:Value) (an:Option Addr) (cdv ct u v w:Value),bindArgs (PySem.W.fnOf x qual (Bk st) (Be st) (A7 st) .none kV doc pm an cdv ct) ⟨[u,v,w],[]⟩=pure [(p1,u),(p2,v),(p3,w)]):C1 K fd [p1,p2,p3] []:=
 F.binds (ps:=[p1,p2,p3]) fun kV doc pm an cdv ct us hl=>by
  obtain ⟨u,us,rfl,h1⟩:=lc hl;obtain ⟨v,us,rfl,h2⟩:=lc h1;obtain ⟨w,us,rfl,h3⟩:=lc h2;cases l0 h3;exact h kV doc pm an cdv ct u v w
theorem Fun.e4(F:Fun K x qual st f fd)(h:∀(kV doc pm:Value) (an:Option Addr) (cdv ct u v w y:Value),bindArgs (PySem.W.fnOf x qual (Bk st) (Be st) (A7 st) .none kV doc pm an cdv ct) ⟨[u,v,w,y],[]⟩=pure [(p1,u),(p2,v),(p3,w),(p4,y)]):C1 K fd [p1,p2,p3,p4] []:=
 F.binds (ps:=[p1,p2,p3,p4]) fun kV doc pm an cdv ct us hl=>by
  obtain ⟨u,us,rfl,h1⟩:=lc hl;obtain ⟨v,us,rfl,h2⟩:=lc h1;obtain ⟨w,us,rfl,h3⟩:=lc h2;obtain ⟨y,us,rfl,h4⟩:=lc h3;cases l0 h4;exact h kV doc pm an cdv ct u v w y
end
theorem J9p{n:Str}{N:List Str}{v:V}{vs:List V}:start (n::N) (v::vs)=some v::start N vs:=by
 simp [start]
theorem J9q{n:Str}{N:List Str}:start (n::N) []=none::start N []:=rfl
theorem J9r:start [] []=[]:=rfl
end L2
namespace K45
open L2 N1 N5 N31 N4 N6 N12 N32 N41 N14 N20 N18 N25 NR N22 N21 N24 N28 N55 N63 NPb NF N43 N45
local macro_rules | `(tactic| walk_at "rq") => `(tactic| simp only [J0m, J0n, J8m, J5n, J5o, J8n, J8o, V8, J0o, V9, J8p, J0p, Va, J5p, Vb, J0q, Vc, J0r, J5q, J0s, Vd, Ve, J5r, J5s, J5t, J5u, J0t, J0u, Qo, Vf, Qp, Vg, Vh, Qq, Vi, Vj, Qr, Vk, scal, Vm, Vn, J5x, Oh, Vo, J0x, J5y, J0y, Vp, J0z, Vq, Qw, true_implies, false_implies, Bool.false_and, Bool.true_and, Bool.and_true, Bool.and_false, Bool.false_or, Bool.true_or, Bool.or_true, Bool.or_false, S0, S1, J13, Vs, J14, Oi, Vt, Vu, Vv, J11, Qy, J5z, Int.zero_add, Int.toNat_natCast, Ur, List.map_cons, List.map_nil, List.getD_cons_zero, List.getD_cons_succ, J0l, List.length_cons, List.length_nil, List.getElem?_cons_zero, List.getElem?_cons_succ, List.set_cons_zero, List.set_cons_succ, Option.some.injEq, V.int.injEq, V.bl.injEq, V.str.injEq, V.ref.injEq, V.ty.injEq, exists_eq_left', exists_eq_left, exists_and_left, exists_eq, exists_eq', List.cons.injEq, and_true, true_and, decide_eq_true_eq, Bool.not_eq_true', decide_eq_false_iff_not, reduceCtorEq, exists_const, Bool.true_eq_false, Bool.false_eq_true, if_true, if_false, ite_true, ite_false, Bool.not_true, Bool.not_false, decide_true, decide_false, Bool.not_not, false_and, and_false, exists_false, false_or, or_false, true_or, or_true, and_assoc, not_true_eq_false, not_false_eq_true, Int.reduceToNat, Nat.reduceAdd, Mg, Mh, En, Dt, E6, Gy, Kt, Pq, Cy, Dl, Cw, N41.Dj, Mm, L0, Sb, Oo, W2, Oq, S9, Kw, Kx, E9, Ky, Sl, Wa, T2, Sr, Ss, W6, Sm, T6, W8, Wo, Ec, Dm, Gm, Gn, Nq, Px, Ow, Sa, J6o, Wh, J1l, Lp, J29, Wj, Sz, Du, Gk, spW, Eo, Dk, J31, J2k, Di, Et, Ih, Eu, Ew, Ii, Ex, Ij, Ip, Ey, Dy, Ik, Il, Ez, Dz, Im, Eg, G0, Io, G1, E1, Ep, G3, Iq, G4, Dn, D0, Ia, Dv, Ib, Dw, Ed, Es, Dx, Ic, Ie, L4, Mq, Ee, Gs, T9])
local macro_rules | `(tactic| walk_at "rd") => `(tactic| first | (dsimp only [J0m, J0n, J8m, J5n, J5o, J8n, J8o, V8, J0o, V9, J8p, J0p, Va, J5p, Vb, J0q, Vc, J0r, J5q, J0s, Vd, Ve, J5r, J5s, J5t, J5u, J0t, J0u, Qo, Vf, Qp, Vg, Vh, Qq, Vi, Vj, Qr, Vk, scal, Vm, Vn, J5x, Oh, Vo, J0x, J5y, J0y, Vp, J0z, Vq, Qw, true_implies, false_implies, Bool.false_and, Bool.true_and, Bool.and_true, Bool.and_false, Bool.false_or, Bool.true_or, Bool.or_true, Bool.or_false, S0, S1, J13, Vs, J14, Oi, Vt, Vu, Vv, J11, Qy, J5z, Int.zero_add, Int.toNat_natCast, Ur, List.map_cons, List.map_nil, List.getD_cons_zero, List.getD_cons_succ, J0l, List.length_cons, List.length_nil, List.getElem?_cons_zero, List.getElem?_cons_succ, List.set_cons_zero, List.set_cons_succ, Option.some.injEq, V.int.injEq, V.bl.injEq, V.str.injEq, V.ref.injEq, V.ty.injEq, exists_eq_left', exists_eq_left, exists_and_left, exists_eq, exists_eq', List.cons.injEq, and_true, true_and, decide_eq_true_eq, Bool.not_eq_true', decide_eq_false_iff_not, reduceCtorEq, exists_const, Bool.true_eq_false, Bool.false_eq_true, if_true, if_false, ite_true, ite_false, Bool.not_true, Bool.not_false, decide_true, decide_false, Bool.not_not, false_and, and_false, exists_false, false_or, or_false, true_or, or_true, and_assoc, not_true_eq_false, not_false_eq_true, Int.reduceToNat, Nat.reduceAdd, Mg, Mh, En, Dt, E6, Gy, Kt, Pq, Cy, Dl, Cw, N41.Dj, Mm, L0, Sb, Oo, W2, Oq, S9, Kw, Kx, E9, Ky, Sl, Wa, T2, Sr, Ss, W6, Sm, T6, W8, Wo, Ec, Dm, Gm, Gn, Nq, Px, Ow, Sa, J6o, Wh, J1l, Lp, J29, Wj, Sz, Du, Gk, spW, Eo, Dk, J31, J2k, Di, Et, Ih, Eu, Ew, Ii, Ex, Ij, Ip, Ey, Dy, Ik, Il, Ez, Dz, Im, Eg, G0, Io, G1, E1, Ep, G3, Iq, G4, Dn, D0, Ia, Dv, Ib, Dw, Ed, Es, Dx, Ic, Ie, L4, Mq, Ee, Gs, T9]; try walk_at "rq") | walk_at "rq")
local macro_rules | `(tactic| walk_at "hp") => `(tactic| first | with_reducible assumption | exact A1 | (rw [A5 (by first | with_reducible assumption | exact Ab (by with_reducible assumption) (by with_reducible assumption))]; first | with_reducible assumption | exact A1))
local macro_rules | `(tactic| walk_at "sq") => `(tactic| (repeat' first | with_reducible assumption | exact SqT.of A1 | exact SqL.of A1 | refine' A6.tup (A6.new (by with_reducible assumption)) ?_ | refine' A6.seq (A6.new (by with_reducible assumption)) ?_))
local macro_rules | `(tactic| walk_at "isi") => `(tactic| first | exact J08 | exact J09 | exact U0 | exact J6v | exact J0b | exact J0c | exact J6x | exact J0a | exact J6w | exact J0d | exact J6y | exact J0h (by walk_at "hp") | exact Na (by walk_at "hp") | exact J0k (by walk_at "hp") | exact J0g (by walk_at "hp") | exact J0i (by walk_at "hp") | exact J0e (by walk_at "hp") | exact J0j (by walk_at "hp") | exact J0f (by walk_at "hp"))
local macro_rules | `(tactic| walk_at "slen") => `(tactic| first | omega | decide +kernel | (refine J78 ?_ ?_ <;> walk_at "slen"))
local macro_rules | `(tactic| walk_at "side") => `(tactic| first | with_reducible assumption | with_reducible exact Pf (by omega) (by omega) | with_reducible exact Vl (by decide) (by decide) (by decide) | with_reducible exact J72 (by omega) (by omega) | with_reducible exact J73 (by omega) (by omega) | omega | decide | decide +kernel | (have := Aa; omega) | (simp only [Vr, Md, Aa]; omega) | (rw [Aa]; walk_at "slen"; done))
local macro_rules | `(tactic| walk_at "go1") => `(tactic| first | walk_at "rd" | ((with_reducible refine And.intro ?_ ?_); (focus (walk_at "side"; done))) | ((with_reducible apply J6z); (focus (walk_at "isi"; done))) | ((with_reducible apply B5); (focus (walk_at "sq"; done)); (focus rfl)) | ((with_reducible apply Cg); (focus (walk_at "sq"; done)); (focus rfl)) | ((with_reducible apply J3w); (focus (walk_at "sq"; done))) | ((with_reducible apply J3v); (focus (walk_at "sq"; done))) | ((with_reducible apply Xf); (focus (walk_at "sq"; done)); (focus (assumption; done))) | ((with_reducible apply J3z); (focus (walk_at "sq"; done)); (focus (decide; done)); (focus (assumption; done))) | (intro (_ : List (Addr × PySem.Obj)) (_ : PySem.Value → PySem.Shared → Prop)) | with_reducible refine J71 fun _ _ => ?_ | (refine J3y (by with_reducible assumption) ?_; subst_vars))
local macro_rules | `(tactic| walk_at "go") => `(tactic| repeat walk_at "go1")
def top(i:Nat):Stmt:=PySem.Challenge.pw_castoff_k45_whole_farthest_is_best.main.body.getD i (.Pass ⟨0,0,0,0⟩)
structure Txt(K:W.Frag)(mg:Str→Option Value)(Z2 Z3 Z4 Z6 Z5 Z0 Z1:Addr):Prop where
 Z6f:mg "Stock"=some (.ref Z2)
 Zh:Cls K Z2
 Zb:Ar K Z2 "things"
 Z6g:mg "Shelf"=some (.ref Z3)
 Zd:Cls K Z3
 Z01:Ar K Z3 "stock"
 Z03:Ar K Z3 "places"
 Zf:Ar K Z3 "rooms"
 Z6h:mg "Climb"=some (.ref Z4)
 Zi:Cls K Z4
 Z8:Ar K Z4 "heights"
 Zo:Ar K Z4 "ways"
 Z69:mg "Rule"=some (.ref Z6)
 Z6i:Cls K Z6
 Z1b:Ar K Z6 "stock"
 Z10:Ar K Z6 "places"
 Z5b:mg "Ranked"=some (.ref Z5)
 Z6d:Cls K Z5
 Z0r:Ar K Z5 "stock"
 Z0j:Ar K Z5 "places"
 Z0a:Ar K Z5 "present"
 Z11:Ar K Z5 "last"
 Z6c:mg "Farthest"=some (.ref Z0)
 Z7:Cls K Z0
 Zu:Ar K Z0 "stock"
 Zr:Ar K Z0 "places"
 Zc:Ar K Z0 "present"
 Zp:Ar K Z0 "last"
 Zk:Ar K Z0 "asks"
 Z6e:mg "Planned"=some (.ref Z1)
 Ze:Cls K Z1
 Zy:Ar K Z1 "stock"
 Zv:Ar K Z1 "places"
 Zj:Ar K Z1 "present"
 Zw:Ar K Z1 "last"
 Zz:Ar K Z1 "stays"
 Zt:mg "len"=none
 Z9:mg "isinstance"=none
 Z29:mg "int"=none
 Z2e:mg "bool"=none
 Z36:mg "str"=none
 Z0k:mg "list"=none
 Z4n:mg "all"=none
 Z0h:mg "range"=none
 Z02:mg "enumerate"=none
 Z2s:mg "zip"=none
 Z42:mg "sum"=none
 Z43:mg "min"=none
 Z2d:mg "tuple"=none
 Z19:∃t,mg "LETTERS"=some (.str "abcdefghijklmnopqrstuvwxyz" t)
 Z21:∃t,mg "FIGURES"=some (.str "0123456789" t)
 Z0l:∃t,mg "MOST_SIGNS"=some (.int 8 t)
 Z0f:∃t,mg "MOST_THINGS"=some (.int 60 t)
 Z0x:∃t,mg "MOST_ROOM"=some (.int 1000 t)
 Z0g:∃t,mg "MOST_PLACES"=some (.int 1000000 t)
 Z0y:∃t,mg "MOST_ASKS"=some (.int 200 t)
 Z0z:∃t,mg "MOST_BEST"=some (.int 40 t)
local macro_rules | `(tactic| walk_at "sc") => `(tactic| exact ⟨rfl, rfl, rfl, by decide +kernel, rfl, by decide +kernel, by decide +kernel⟩)
local macro_rules | `(tactic| walk_at "st") => `(tactic| simp only [J9p, J9q, J9r])
section
variable {P:Program} {w:World} {K:W.Frag} {mg:Str→Option Value} {base:Heap} {Z2 Z3 Z4 Z6 Z5 Z0 Z1:Addr}
abbrev Z37:Stmt:=top 14
abbrev Z2u:Stmt:=top 15
abbrev Z1p:Stmt:=top 18
abbrev Z3h:Stmt:=top 26
abbrev Z3i:Stmt:=top 27
abbrev Z22:Stmt:=top 28
abbrev Z2f:Stmt:=Ap (top 29) 0
abbrev Z2v:Stmt:=Ap (top 29) 2
abbrev Z12:Stmt:=Ap (top 29) 3
abbrev Z1c:Stmt:=Ap (top 29) 6
abbrev Z1d:Stmt:=Ap (top 29) 5
abbrev Z2g:Stmt:=top 32
abbrev Z1q:Stmt:=top 34
abbrev Z2h:Stmt:=Ap (top 19) 0
abbrev Z23:Stmt:=Ap (top 19) 1
abbrev Z24:Stmt:=Ap (top 19) 2
abbrev Z0s:Stmt:=Ap (top 19) 3
abbrev Z2w:Stmt:=Ap (top 19) 4
abbrev Z2i:Stmt:=Ap (top 19) 5
abbrev Z3j:Stmt:=top 35
abbrev Z0m:Stmt:=top 36
abbrev Z2j:Stmt:=top 38
abbrev Z1e:Stmt:=top 39
abbrev Z1r:Stmt:=top 40
abbrev Z2k:Stmt:=Ap (top 41) 0
abbrev Z13:Stmt:=Ap (top 41) 1
abbrev Z0n:Stmt:=Ap (top 41) 2
abbrev Z38:Stmt:=top 42
abbrev Z3k:Stmt:=top 43
abbrev Z0i:Stmt:=Ap (top 45) 0
abbrev Z05:Stmt:=Ap (top 46) 0
abbrev Z1f:Stmt:=Ap (top 47) 0
abbrev Z08:Stmt:=Ap (top 46) 2
abbrev Z0o:Stmt:=Ap (top 46) 3
abbrev Z0b:Stmt:=Ap (top 47) 2
abbrev Z00:Stmt:=Ap (top 47) 3
abbrev Z14:Stmt:=Ap (top 46) 1
abbrev Z0t:Stmt:=Ap (top 46) 5
abbrev Z1g:Stmt:=Ap (top 45) 4
abbrev Z1h:Stmt:=Ap (top 45) 5
abbrev Z1s:Stmt:=Ap (top 53) 0
abbrev Z0c:Stmt:=Ap (top 46) 2
abbrev Z1i:Stmt:=Ap (top 46) 1
abbrev Z0u:Stmt:=Ap (top 46) 3
abbrev Z04:Stmt:=Ap (top 53) 1
abbrev Z15:Stmt:=Ap (top 46) 5
abbrev Z1t:Stmt:=Ap (top 45) 4
abbrev Z1u:Stmt:=Ap (top 45) 5
abbrev Z2x:Stmt:=top 48
abbrev Z4b:Stmt:=top 49
abbrev Z3l:Stmt:=top 50
abbrev Z25:Stmt:=top 33
abbrev Z3m:Stmt:=top 54
abbrev Z39:Stmt:=top 55
abbrev Z3a:Stmt:=top 56
abbrev Z3n:Stmt:=top 57
abbrev Z2y:Stmt:=top 59
abbrev Z3o:Stmt:=top 60
abbrev Z3p:Stmt:=top 61
abbrev Z2l:Stmt:=top 62
abbrev Z4c:Stmt:=top 63
abbrev Z2a:Stmt:=top 64
def J58:Pt:=J94 (("paid_by"++".<locals>.")++"<lambda>") (J95 (J9l ((Be Z0m).getD 0 (.Pass ⟨0,0,0,0⟩))) 1)
theorem Z5l{f:Addr}{fd:FuncData}(F:Fun K "is_whole" "is_whole" Z37 f fd)(T:Txt K mg Z2 Z3 Z4 Z6 Z5 Z0 Z1):Al P w K mg base CX0 1 f fd ["thing"] (Dt K):=by
 have sc:A9 ["thing"] ["thing"] (A7 Z37):=by walk_at "sc"
 refine F.ok sc (fun vs H Q E h=>?_) (fun cdv A outer s H vs Q E hr h=>?_)
 · obtain ⟨_,_,_,rfl,_⟩:=h;rfl
 obtain ⟨x,b,c,rfl,h1,h2,q⟩:=h;refine ⟨_,(@A4 _ _ _ (@Ae _ _ _ _ (L9 (Af B9 rfl T.Z9 (by first | rfl | decide+kernel) (A0 (pv 0) (A0 (Cb (v:= .ty "int") rfl T.Z29 (by first | rfl | decide+kernel) rfl) A3))) (L8 (P5 (Af B9 rfl T.Z9 (by first | rfl | decide+kernel) (A0 (pv 0) (A0 (Cb (v:= .ty "bool") rfl T.Z2e (by first | rfl | decide+kernel) rfl) A3)))))))),?_⟩;walk_at "st";walk_at "go";refine ⟨_,h1,?_⟩;cases b
 · walk_at "go"
   exact q
 · walk_at "go"
   refine ⟨_,h2 rfl,?_⟩;walk_at "go";exact q
theorem Z5c{f:Addr}{fd:FuncData}(F:Fun K "is_within" "is_within" Z2u f fd)(T:Txt K mg Z2 Z3 Z4 Z6 Z5 Z0 Z1)(Z3b:Def P w K mg base CX0 1 "is_whole" ["thing"] (Dt K)):Al P w K mg base CX0 2 f fd ["thing","least","most"] (E6 K):=by
 have sc:A9 ["thing","least","most"] ["thing","least","most"] (A7 Z2u):=by walk_at "sc"
 refine F.ok sc (fun vs H Q E h=>?_) (fun cdv A outer s H vs Q E hr h=>?_)
 · obtain ⟨_,_,_,rfl,_⟩:=h;rfl
 obtain ⟨v,lo,hi,rfl,hv,q⟩:=h;refine ⟨_,(@A4 _ _ _ (@Ae _ _ _ _ (L9 (Ac Z3b hr rfl Ad (A0 (pv 0) A3)) (L8 (Yn Yl Yl (pv 1) (pv 0) (pv 2)))))),?_⟩;walk_at "st";obtain ⟨b,c,h1,h2,h3,h4⟩:=J49 (K:=K) (H:=H) hv;walk_at "go";refine ⟨b,h1,c,h2,?_⟩;split
 · rename_i h
   obtain ⟨i,rfl⟩:=h3 h;simp only [wIn]at q;walk_at "go";split
   · rename_i h'
     rw [decide_eq_true h',Bool.true_and]at q;exact q
   · rename_i h'
     rw [decide_eq_false h',Bool.false_and]at q;exact q
 · rename_i h
   have e:wIn lo hi v=false:=by
    cases v with
    | int i=>exact absurd rfl (h4 (by simpa using h) i)
    | _=>rfl
   rw [e]at q;exact q
theorem Z4o{f:Addr}{fd:FuncData}(F:Fun K "check_places" "check_places" Z1p f fd)(T:Txt K mg Z2 Z3 Z4 Z6 Z5 Z0 Z1)(Z07:Def P w K mg base CX0 2 "is_within" ["thing","least","most"] (E6 K)):Al P w K mg base CX0 3 f fd ["places"] (Cw):=by
 have sc:A9 ["places"] ["places"] (A7 Z1p):=by walk_at "sc"
 refine F.ok sc (fun vs H Q E h=>?_) (fun cdv A outer s H vs Q E hr h=>?_)
 · obtain ⟨_,rfl,_⟩:=h;rfl
 obtain ⟨i,rfl,h1,h2,q⟩:=h
 refine ⟨_,(@A4 _ _ _ (Bd (Bx (Bi (Ac Z07 hr rfl Ad (A0 (pv 0) (A0 A8 (A0 (Gw rfl T.Z0g) A3))))))
  (@A4 _ _ _ Bj)
  Ak)),?_⟩
 walk_at "st";walk_at "go";rw [if_neg (by rw [Nj h1 h2];decide)];exact ⟨rfl,q⟩
theorem Z5p{f:Addr}{fd:FuncData}(F:Fun K "made_of" "made_of" Z3h f fd)(T:Txt K mg Z2 Z3 Z4 Z6 Z5 Z0 Z1):Al P w K mg base CX0 1 f fd ["text","signs"] (Mh):=by
 have sc:A9 ["text","signs"] ["text","signs"] (A7 Z3h):=by walk_at "sc"
 refine F.ok sc (fun vs H Q E h=>?_) (fun cdv A outer s H vs Q E hr h=>?_)
 · obtain ⟨_,_,rfl,_⟩:=h;rfl
 obtain ⟨z,w,rfl,hz,q⟩:=h;refine ⟨_,(@A4 _ _ _ (@Ae _ _ _ _ (Af (J0w rfl) rfl T.Z4n (by first | rfl | decide+kernel) (A0 (Ko "sign" [1] rfl rfl (J76 (pv 0)) (fun b=>(D1 J10 (pv 0) (pv 1) (by with_unfolding_all rfl)))) A3)))),?_⟩;walk_at "st";walk_at "go";refine U4 (fun c=>V.bl (decide (c∈w.cps.toList))) hz (fun b c H' Q' hc sm q'=>?_) fun D hD=>?_
 · walk_at "go"
   exact q'
 · refine ⟨_,rfl,z.cps.toList.map fun c=>decide (c∈w.cps.toList),?_,?_⟩
   · rw [List.map_map];exact SqL.of A1
   · rw [List.all_map];exact q _ (A6.new hD)
theorem Z5q{f:Addr}{fd:FuncData}(F:Fun K "is_name" "is_name" Z3i f fd)(T:Txt K mg Z2 Z3 Z4 Z6 Z5 Z0 Z1)(Z3q:Def P w K mg base CX0 1 "made_of" ["text","signs"] (Mh)):Al P w K mg base CX0 2 f fd ["thing"] (En K):=by
 have sc:A9 ["thing"] ["thing"] (A7 Z3i):=by walk_at "sc"
 refine F.ok sc (fun vs H Q E h=>?_) (fun cdv A outer s H vs Q E hr h=>?_)
 · obtain ⟨_,rfl,_⟩:=h;rfl
 obtain ⟨x,rfl,hx⟩:=h
 refine ⟨_,(@A2 _ _ _ _ _ (Bd (Bx (Bi (Af B9 rfl T.Z9 (by first | rfl | decide+kernel) (A0 (pv 0) (A0 (Cb (v:= .ty "str") rfl T.Z36 (by first | rfl | decide+kernel) rfl) A3)))))
  (@A4 _ _ _ (@Ae _ _ _ _ G8))
  Ak)
  (@A2 _ _ _ _ _ (Bd (PW.pt (Iw (Az Qf (Af Kg rfl T.Zt PySem.boot_len (A0 (pv 0) A3)) A8 (nomark _)) (L7 (Az Gb (Af Kg rfl T.Zt PySem.boot_len (A0 (pv 0) A3)) (Gw rfl T.Z0l) (nomark _)))))
   (@A4 _ _ _ (@Ae _ _ _ _ G8))
   Ak)
  (@A4 _ _ _ (@Ae _ _ _ _ (L9 (D1 J10 (@B1 _ _ _ _ _ _ _ Pa (pv 0) A8 (fun _ _=>rfl)) (Pn rfl T.Z19) (by with_unfolding_all rfl)) (L8 (Ac Z3q hr rfl Ad (A0 (pv 0) (A0 (Ai Mz (Pn rfl T.Z19) (Pn rfl T.Z21)) A3))))))))),?_⟩
 walk_at "st";rcases hx with ⟨z,rfl,hz,q⟩ | ⟨hi,q⟩
 · walk_at "go"
   have hl:=Po (z:=z);split
   · rename_i h1
     have e:C8 z.cps.toList=false:=by unfold C8;rw [decide_eq_false (show ¬1≤z.cps.toList.length by omega)];rfl
     rw [e]at q;exact q _ (A6.refl H)
   · rename_i h1
     refine ⟨hz,?_⟩;split
     · have e:C8 z.cps.toList=false:=by unfold C8;rw [decide_eq_false (show ¬z.cps.toList.length≤8 by omega),Bool.and_false];rfl
       rw [e]at q;exact q _ (A6.refl H)
     · rename_i h2
       obtain ⟨c,r,hcr⟩:∃c r,z.cps.toList=c::r:=by
        cases h:z.cps.toList with
        | nil=>rw [h]at hl;simp at hl;omega
        | cons c r=>exact ⟨c,r,rfl⟩
       have hn:C8 z.cps.toList=(decide (c∈Bf) && z.cps.toList.all fun c=>decide (c∈Bf++Ce)):=by
        unfold C8;rw [decide_eq_true (show 1≤z.cps.toList.length by omega),decide_eq_true (show z.cps.toList.length≤8 by omega)];rw [hcr];rfl
       rw [hn]at q;walk_at "go";refine Pm hz (by rw [hcr];exact J9i) ?_;walk_at "go";rw [Sd];split
       · rename_i hc
         rw [decide_eq_true hc,Bool.true_and]at q;walk_at "go";rw [Qx,Sd,J1e];exact q
       · rename_i hc
         rw [decide_eq_false hc,Bool.false_and]at q;exact q _ (A6.refl H)
 · walk_at "go"
   refine ⟨_,hi,?_⟩;walk_at "go";exact q
theorem Z4w{f:Addr}{fd:FuncData}(F:Fun K "check_thing" "check_thing" Z22 f fd)(T:Txt K mg Z2 Z3 Z4 Z6 Z5 Z0 Z1)(Z3r:Def P w K mg base CX0 2 "is_name" ["thing"] (En K))(Z07:Def P w K mg base CX0 2 "is_within" ["thing","least","most"] (E6 K)):Al P w K mg base CX0 3 f fd ["name","cost","room","earlier"] (Gy K):=by
 have sc:A9 ["name","cost","room","earlier"] ["name","cost","room","earlier"] (A7 Z22):=by walk_at "sc"
 refine F.ok sc (fun vs H Q E h=>?_) (fun cdv A outer s H vs Q E hr h=>?_)
 · obtain ⟨_,_,_,_,_,_,rfl,_⟩:=h;rfl
 obtain ⟨n,co,r,e,kvs,ks,rfl,he,hk,hrow,q⟩:=h
 refine ⟨_,(@A2 _ _ _ _ _ (Bd (Bx (Bi (Ac Z3r hr rfl Ad (A0 (pv 0) A3))))
  (@A4 _ _ _ Bj)
  Ak)
  (@A2 _ _ _ _ _ (Bd (Tl (Pe (D3 hr) (pv 0) (pv 3)))
   (@A4 _ _ _ Bj)
   Ak)
  (@A2 _ _ _ _ _ (Bd (Bx (Bi (Ac Z07 hr rfl Ad (A0 (pv 1) (A0 A8 (A0 (Ai Tq A8 A8) A3))))))
   (@A4 _ _ _ Bj)
   Ak)
  (@A4 _ _ _ (Bd (Bx (Bi (Ac Z07 hr rfl Ad (A0 (pv 2) (A0 A8 (A0 (Gw rfl T.Z0x) A3))))))
   (@A4 _ _ _ Bj)
   Ak))))),?_⟩
 walk_at "st";obtain ⟨z,c,w,rfl,rfl,rfl,nz,hb,h1,h2,h3,h4⟩:=Os hrow;have line:=Aa;have hz8:=J1h hb;walk_at "go";intro H1 sm1;rw [hb];have he1:=sm1 _ _ he;walk_at "go";refine ⟨_,Cq.k (k:=Sum.inr z) he1,?_⟩;rw [Kr hk,decide_eq_false nz];walk_at "go";refine ⟨rfl,?_⟩;split
 · rename_i h
   exact absurd h (by rw [Nj h1 h2];decide)
 · walk_at "go"
   refine ⟨rfl,?_⟩;split
   · rename_i h
     exact absurd h (by rw [Nj h3 h4];decide)
   · walk_at "go"
     exact q _ sm1
theorem Z53{f:Addr}{fd:FuncData}(F:Fun K "__init__" "Stock.__init__" Z2f f fd)(T:Txt K mg Z2 Z3 Z4 Z6 Z5 Z0 Z1)(Z26:Def P w K mg base CX0 3 "check_thing" ["name","cost","room","earlier"] (Gy K)):Al P w K mg base CX0 4 f fd ["self","rows"] (Kt K Z2):=by
 have sc:A9 ["self","rows","name","cost","room"] ["self","rows"] (A7 Z2f):=by walk_at "sc"
 refine F.ok sc (fun vs H Q E h=>?_) (fun cdv A outer s H vs Q E hr h=>?_)
 · obtain ⟨_,_,_,_,rfl,_⟩:=h;rfl
 obtain ⟨p,dx,ra,rs,rfl,hp,hrs,hall,er,q⟩:=h
 refine ⟨_,(@A2 _ _ _ _ _ (Bd (Az Gb (Af Au rfl T.Zt PySem.boot_len (A0 (pv 1) A3)) (Gw rfl T.Z0f) (nomark _))
  (@A4 _ _ _ Bj)
  Ak)
  (@A2 _ _ _ _ _ (D9 (pv 0) E5 rfl)
  (@A4 _ _ _ (Co PassesOwn.never rfl (C3 (pv 1)) (Ga rfl (B3 (Ax (i:=2) sc.nd rfl (Or.inl rfl)) (B3 (Ax (i:=3) sc.nd rfl (Or.inl rfl)) (B3 (Ax (i:=4) sc.nd rfl (Or.inl rfl)) Dq))))
   (@A2 _ _ _ _ _ (Ay (Ac Z26 hr rfl Ad (A0 (pv 2) (A0 (pv 3) (A0 (pv 4) (A0 (As (pv 0) rfl) A3))))))
   (@A4 _ _ _ (Ek (D3 hr) (As (pv 0) rfl) (pv 2) (By (A0 (Af Xe rfl T.Zt PySem.boot_len (A0 (As (pv 0) rfl) A3)) (A0 (pv 3) (A0 (pv 4) A3)))) rfl))))))),?_⟩
 walk_at "st";have line:=Aa;obtain ⟨hl60,hstk⟩:=Ud er;walk_at "go";rw [List.length_map];split
 · rename_i h
   exact absurd h (by omega)
 · rename_i h
   walk_at "go";intro d hd;have npd:p≠d:=Ab hp hd;walk_at "go";refine ⟨Z2,dx,[],by rw [A5 npd];exact hp,T.Zh,T.Zb,by decide,?_⟩
   have sb0:SameBut p H (upd (upd H d (.dK [])) p (.ins Z2 dx (flds d))):=fun b o e n=>by rw [A5 n,A5 (Ab e hd)];exact e
   have hp0:upd (upd H d (.dK [])) p (.ins Z2 dx (flds d)) p=some (.ins Z2 dx (flds d)):=A1
   have hd0:upd (upd H d (.dK [])) p (.ins Z2 dx (flds d)) d=some (.dK []):=by rw [A5 npd.symm,A1]
   unfold flds at sb0 hp0 hd0;generalize upd (upd H d (HO.dK [])) p (HO.ins Z2 dx (Bh (Str.ofString "things") (V.ref d) []))=H0 at sb0 hp0 hd0 ⊢;walk_at "go";refine ⟨⟨_,SqL.but sb0 hp hrs⟩,?_⟩;refine Gv (xs:=rs.map fun t=>V.ref t.1) (fun i σ H'=>∃v1 v2 v3,σ=[some (V.ref p),some (V.ref ra),v1,v2,v3]∧SameBut p H H'∧H' p=some (.ins Z2 dx (flds d))∧W4 K H' d (rs.take i)∧Gj (G6 (rs.take i)) (rs.drop i)=none) ⟨none,none,none,rfl,sb0,hp0,⟨[],hd0,rfl,fun j t e=>by simp at e⟩,by rw [List.take_zero,List.drop_zero];exact hstk⟩ (fun i σ H' _ h_=>by obtain ⟨v1,v2,v3,_,sb,_⟩:=h_;exact SqL.but sb hp hrs) ?_ ?_
   · rintro i x σ H' hx ⟨v1,v2,v3,rfl,sb,hp',⟨kvs,hd',hk,hm⟩,hst⟩
     rw [List.getElem?_map]at hx
     cases ht:rs[i]? with
     | none=>rw [ht]at hx;cases hx
     | some t=>
      rw [ht]at hx;simp only [Option.map_some,Option.some.injEq]at hx;subst hx;have hi:i < rs.length:=(List.getElem?_eq_some_iff.mp ht).1;have r1:=SqT.but sb hp (hall t (List.mem_of_getElem? ht));rw [Sj ht]at hst
      have hkl:kvs.length=i:=by
       have:=congrArg List.length hk;simp [G6]at this;omega
      cases hrow:Sg (G6 (rs.take i)) t.2.1 t.2.2.1 t.2.2.2 with
      | some e=>rw [hrow]at hst;cases hst
      | none=>
       rw [hrow]at hst;obtain ⟨z,c,q',e1,e2,e3,nz,hb,_⟩:=Os hrow;walk_at "go";refine ⟨_,r1,rfl,?_⟩;walk_at "go";refine ⟨Z2,dx,flds d,hp',T.Zh,T.Zb,_,Ck,d,rfl,kvs,hd',_,hk,hrow,fun H1 sm1=>?_⟩;rw [e1,e2,e3];have hp1:=sm1 _ _ hp';have hd1:=sm1 _ _ hd';walk_at "go";refine ⟨Z2,dx,flds d,hp1,T.Zh,T.Zb,_,Ck,?_⟩;walk_at "go";refine ⟨kvs,hd1,by omega,fun t2 ht2=>?_⟩;have np2:p≠t2:=Ab hp1 ht2;have nd2:d≠t2:=Ab hd1 ht2
       have hd2:upd H1 t2 (.tup [.int kvs.length,.int c,.int q']) d=some (.dK kvs):=by rw [A5 nd2];exact hd1
       refine ⟨Z2,dx,flds d,by rw [A5 np2];exact hp1,T.Zh,T.Zb,_,Ck,d,rfl,_,M4.k (k:=Sum.inr z) hd2 (by omega),?_,?_,?_,?_⟩
       · intro b o eb nb
         have h1:=sm1 _ _ (sb b o eb nb);rw [A5 (Ab eb hd),A5 (Ab h1 ht2)];exact h1
       · rw [A5 npd,A5 np2];exact hp1
       · rw [List.take_add_one,ht]
         refine W4.snoc hd2 hk (fun j t' e=>?_) e1 e2 e3 nz A1;obtain ⟨a,q1,q2⟩:=hm j t' e;exact ⟨a,q1,(sm1.trans (A6.new ht2)).tup q2⟩
       · rw [List.take_add_one,ht]
         have e:G6 (rs.take kvs.length++(some t).toList)=G6 (rs.take kvs.length)++[sOf t.2.1]:=by unfold G6;simp
         rw [e];exact hst
   · rintro σ H' ⟨v1,v2,v3,rfl,sb,hp',⟨kvs,hd',hk,hm⟩,hst⟩
     simp only [List.length_map,List.take_length,List.drop_length]at hk hm hst;show Q V.non H';refine q _ sb ⟨dx,d,kvs,hp',hd',?_,fun i t ht=>?_⟩
     · rw [hk];unfold G6;rw [List.map_map,List.map_map];rfl
     · rw [List.getElem?_map]at ht
       cases hr:rs[i]? with
       | none=>rw [hr]at ht;cases ht
       | some t'=>
        rw [hr]at ht;simp only [Option.map_some,Option.some.injEq]at ht;subst ht;exact hm i t' hr
theorem Z5d{f:Addr}{fd:FuncData}(F:Fun K "has" "Stock.has" Z2v f fd)(T:Txt K mg Z2 Z3 Z4 Z6 Z5 Z0 Z1):Al P w K mg base CX0 1 f fd ["self","name"] (Pq K Z2):=by
 have sc:A9 ["self","name"] ["self","name"] (A7 Z2v):=by walk_at "sc"
 refine F.ok sc (fun vs H Q E h=>?_) (fun cdv A outer s H vs Q E hr h=>?_)
 · obtain ⟨_,_,_,rfl,_⟩:=h;rfl
 obtain ⟨p,ts,z,rfl,hs,q⟩:=h;refine ⟨_,(@A4 _ _ _ (@Ae _ _ _ _ (Ya (Pe (D3 hr) (pv 1) (As (pv 0) rfl))))),?_⟩;walk_at "st";obtain ⟨dx,d,kvs,h1,h2,h3,h4,h5⟩:=Ag.has hs;walk_at "go";refine ⟨Z2,dx,flds d,h1,T.Zh,T.Zb,_,Ck,d,rfl,_,Cq.k (k:=Sum.inr z) h2,?_⟩;rw [h4];exact q
theorem Z47{f:Addr}{fd:FuncData}(F:Fun K "thing_of" "Stock.thing_of" Z12 f fd)(T:Txt K mg Z2 Z3 Z4 Z6 Z5 Z0 Z1):Al P w K mg base CX0 1 f fd ["self","name"] (Dl K Z2):=by
 have sc:A9 ["self","name"] ["self","name"] (A7 Z12):=by walk_at "sc"
 refine F.ok sc (fun vs H Q E h=>?_) (fun cdv A outer s H vs Q E hr h=>?_)
 · obtain ⟨_,_,_,rfl,_⟩:=h;rfl
 obtain ⟨p,ts,z,rfl,hs,nd,hz,q⟩:=h
 refine ⟨_,(@A2 _ _ _ _ _ (Bd (Tl (Xd (D3 hr) (pv 1) (As (pv 0) rfl)))
  (@A4 _ _ _ Bj)
  Ak)
  (@A4 _ _ _ (@Ae _ _ _ _ (V5 (D3 hr) (As (pv 0) rfl) (pv 1) (fun _ _=>rfl))))),?_⟩
 walk_at "st";obtain ⟨dx,d,kvs,h1,h2,h3,h4,h5⟩:=Ag.has hs;have line:=Aa;walk_at "go";refine ⟨Z2,dx,flds d,h1,T.Zh,T.Zb,_,Ck,d,rfl,_,Cq.k (k:=Sum.inr z) h2,?_⟩;rw [h4,decide_eq_true hz];obtain ⟨i,t,ht,rfl⟩:=W7 hz;obtain ⟨a,e1,e2⟩:=h5 nd i t ht;walk_at "go";refine ⟨Z2,dx,flds d,h1,T.Zh,T.Zb,_,Ck,?_⟩;walk_at "go";refine ⟨V.ref a,by rw [← e1];exact Cq.k (k:=Sum.inr t.1) h2,?_⟩;exact q i t ht rfl a e2
theorem Z4d{f:Addr}{fd:FuncData}(F:Fun K "room_of" "Stock.room_of" Z1c f fd)(T:Txt K mg Z2 Z3 Z4 Z6 Z5 Z0 Z1)(Zx:DefM P w K mg base CX0 1 Z2 "thing_of" ["self","name"] (Dl K Z2)):Al P w K mg base CX0 2 f fd ["self","name"] (Cy K Z2):=by
 have sc:A9 ["self","name"] ["self","name"] (A7 Z1c):=by walk_at "sc"
 refine F.ok sc (fun vs H Q E h=>?_) (fun cdv A outer s H vs Q E hr h=>?_)
 · obtain ⟨_,_,_,rfl,_⟩:=h;rfl
 obtain ⟨p,ts,z,rfl,hs,nd,hz,q⟩:=h;refine ⟨_,(@A4 _ _ _ (@Ae _ _ _ _ (@B1 _ _ _ _ _ _ _ Ba (B4 Zx T.Zh hr (Bc Ad) (pv 0) (A0 (pv 1) A3)) A8 (fun _ _=>rfl)))),?_⟩;walk_at "st";obtain ⟨dx,d,kvs,h1,h2,h3,h4,h5⟩:=Ag.has hs;walk_at "go";refine ⟨dx,flds d,h1,by rfl,?_⟩;walk_at "go";refine ⟨ts,hs,nd,hz,fun i t ht e a ha=>?_⟩;subst e;refine B5 ha rfl ?_;rw [Wc nd ht]at q;exact q
theorem Z4e{f:Addr}{fd:FuncData}(F:Fun K "cost_of" "Stock.cost_of" Z1d f fd)(T:Txt K mg Z2 Z3 Z4 Z6 Z5 Z0 Z1)(Zx:DefM P w K mg base CX0 1 Z2 "thing_of" ["self","name"] (Dl K Z2)):Al P w K mg base CX0 2 f fd ["self","name"] (Dk K Z2):=by
 have sc:A9 ["self","name"] ["self","name"] (A7 Z1d):=by walk_at "sc"
 refine F.ok sc (fun vs H Q E h=>?_) (fun cdv A outer s H vs Q E hr h=>?_)
 · obtain ⟨_,_,_,rfl,_⟩:=h;rfl
 obtain ⟨p,ts,z,rfl,hs,nd,hz,q⟩:=h;refine ⟨_,(@A4 _ _ _ (@Ae _ _ _ _ (@B1 _ _ _ _ _ _ _ Ba (B4 Zx T.Zh hr (Bc Ad) (pv 0) (A0 (pv 1) A3)) A8 (fun _ _=>rfl)))),?_⟩;walk_at "st";obtain ⟨dx,d,kvs,h1,h2,h3,h4,h5⟩:=Ag.has hs;walk_at "go";refine ⟨dx,flds d,h1,by rfl,?_⟩;walk_at "go";refine ⟨ts,hs,nd,hz,fun i t ht e a ha=>?_⟩;subst e;refine B5 ha rfl ?_;rw [J1v nd ht]at q;exact q
theorem Z54{f:Addr}{fd:FuncData}(F:Fun K "check_asks" "check_asks" Z2g f fd)(T:Txt K mg Z2 Z3 Z4 Z6 Z5 Z0 Z1)(Zg:Def P w K mg base CX0 3 "check_places" ["places"] (Cw))(Z2z:DefM P w K mg base CX0 1 Z2 "has" ["self","name"] (Pq K Z2))(Za:DefM P w K mg base CX0 2 Z2 "room_of" ["self","name"] (Cy K Z2)):Al P w K mg base CX0 4 f fd ["stock","asks","places"] (N41.Dj K Z2):=by
 have sc:A9 ["stock","asks","places","number","name"] ["stock","asks","places"] (A7 Z2g):=by walk_at "sc"
 refine F.ok sc (fun vs H Q E h=>?_) (fun cdv A outer s H vs Q E hr h=>?_)
 · obtain ⟨_,_,_,_,_,rfl,_⟩:=h;rfl
 obtain ⟨p,a,pl,ts,ys,rfl,hs,nd,hS,hl,hin,hw,h1,h2,q⟩:=h
 refine ⟨_,(@A2 _ _ _ _ _ (Ay (Ac Zg hr rfl Ad (A0 (pv 2) A3)))
  (@A2 _ _ _ _ _ (Bd (Az Gb (Af Au rfl T.Zt PySem.boot_len (A0 (pv 1) A3)) (Gw rfl T.Z0y) (nomark _))
   (@A4 _ _ _ Bj)
   Ak)
  (@A2 _ _ _ _ _ (Co PassesOwn.never rfl (Mi rfl T.Z02 (A0 (pv 1) A3)) (Ga rfl (B3 (Ax (i:=3) sc.nd rfl (Or.inl rfl)) (B3 (Ax (i:=4) sc.nd rfl (Or.inl rfl)) Dq)))
   (@A2 _ _ _ _ _ (Bd (Bx (Bi (B4 Z2z T.Zh hr (Bc Ad) (pv 0) (A0 (pv 4) A3))))
    (@A4 _ _ _ Bj)
    Ak)
   (@A4 _ _ _ (Bd (Az Gb (B4 Za T.Zh hr (Bc Ad) (pv 0) (A0 (pv 4) A3)) (pv 2) (nomark _))
    (@A4 _ _ _ Bj)
    Ak))))
  (@A4 _ _ _ (@Ae _ _ _ _ G8))))),?_⟩
 walk_at "st";have line:=Aa;walk_at "go";rw [List.length_map,if_neg (by omega)];walk_at "go";refine ⟨⟨_,hS⟩,?_⟩;rename_i rest hrest;refine W9 (xs:=ys.map V.str) (fun i σ H'=>∃v3 v4,σ=[some (V.ref p),some (V.ref a),some (V.int pl),v3,v4]∧A6 H H') ⟨none,none,rfl,A6.refl _⟩ (fun i σ H' _ ⟨v3,v4,_,sm⟩=>sm.seq hS) ?_ ?_
 · rintro i x σ H' t hx ⟨v3,v4,rfl,sm⟩ ht
   rw [List.getElem?_map]at hx
   cases hy:ys[i]? with
   | none=>rw [hy]at hx;cases hx
   | some y=>
    rw [hy]at hx;cases hx;have hyin:=hin y (List.mem_of_getElem? hy);walk_at "go";refine ⟨_,SqT.of A1,rfl,_,_,rfl,_,_,rfl,rfl,?_⟩;have sm2:=sm.trans (A6.new (o:= .tup [.int i,.str y]) ht);generalize upd H' t (.tup [.int i,.str y])=H2 at sm2 ⊢;have hs2:=Ag.same sm2 hs;obtain ⟨dx,d,kvs,g1,g2,_⟩:=Ag.has hs2;walk_at "go";refine ⟨dx,flds d,g1,by rfl,ts,hs2,?_⟩;rw [if_neg (fun h=>h hyin)];walk_at "go";refine ⟨dx,flds d,g1,by rfl,ts,hs2,nd,hyin,?_⟩;rw [if_neg (by have:=hw y (List.mem_of_getElem? hy);omega)];exact sm2
 · rintro σ H' ⟨v3,v4,rfl,sm⟩
   walk_at "go";exact q _ sm
theorem Z4p{f:Addr}{fd:FuncData}(F:Fun K "earlier_asks" "earlier_asks" Z1q f fd)(T:Txt K mg Z2 Z3 Z4 Z6 Z5 Z0 Z1):Al P w K mg base CX0 1 f fd ["asks"] (Eo K):=by
 have sc:A9 ["asks","last","told","number","name"] ["asks"] (A7 Z1q):=by walk_at "sc"
 refine F.ok sc (fun vs H Q E h=>?_) (fun cdv A outer s H vs Q E hr h=>?_)
 · obtain ⟨_,_,rfl,_⟩:=h;rfl
 obtain ⟨a,ys,rfl,hS,hl,q⟩:=h
 refine ⟨_,(@A2 _ _ _ _ _ (Am (i:=1) sc.nd rfl (Or.inl rfl) E5)
  (@A2 _ _ _ _ _ (Am (i:=2) sc.nd rfl (Or.inl rfl) (@K1 _ _ _ _ A3))
  (@A2 _ _ _ _ _ (Co PassesOwn.never rfl (Mi rfl T.Z02 (A0 (pv 0) A3)) (Ga rfl (B3 (Ax (i:=3) sc.nd rfl (Or.inl rfl)) (B3 (Ax (i:=4) sc.nd rfl (Or.inl rfl)) Dq)))
   (@A2 _ _ _ _ _ (Ay (Kh PySem.F.plainAttrs_list PySem.F.slot_list_append PySem.F.type_list_append C4 (pv 2) (A0 (J04 (D3 hr) (pv 1) (pv 4) ⟨rfl,rfl,rfl,rfl⟩) A3)))
   (@A4 _ _ _ (Ek (D3 hr) (pv 1) (pv 4) (pv 3) rfl))))
  (@A4 _ _ _ (@Ae _ _ _ _ (pv 2)))))),?_⟩
 walk_at "st";have line:=Aa;walk_at "go";intro d hd;walk_at "go";intro p hp;walk_at "go";have ndp:d≠p:=Ab A1 hp;have sm0:A6 H (upd (upd H d (.dK [])) p (.lst [])):=(A6.new hd).trans (A6.new hp)
 have hd0:upd (upd H d (.dK [])) p (.lst []) d=some (.dK []):=by rw [A5 ndp];exact A1
 have hp0:upd (upd H d (.dK [])) p (.lst []) p=some (.lst []):=A1;have hpH:=none_of (A6.new hd) hp;generalize upd (upd H d (.dK [])) p (.lst [])=H1 at sm0 hd0 hp0 ⊢;clear hp;refine ⟨⟨_,sm0.seq hS⟩,?_⟩;rename_i rest hrest
 refine W9 (xs:=ys.map V.str) (fun i σ H'=>∃(kvs:List (Key×V)) (v3 v4:Option V),σ=[some (V.ref a),some (V.ref d),some (V.ref p),v3,v4]∧A6 H H'∧H' d=some (.dK kvs)∧kvs.length≤i∧(∀z,B8 kvs (Sum.inr z)=(An ys z i).map fun j=>V.int (j:Int))∧H' p=some (.lst ((List.range i).map (O2 ys))))
  ⟨[],none,none,rfl,sm0,hd0,Nat.le_refl _,fun z=>rfl,hp0⟩ (fun i σ H' _ ⟨kvs,v3,v4,_,sm,_⟩=>sm.seq hS) ?_ ?_
 · rintro i x σ H' t hx ⟨kvs,v3,v4,rfl,sm,g1,g2,g3,g4⟩ ht
   rw [List.getElem?_map]at hx
   cases hy:ys[i]? with
   | none=>rw [hy]at hx;cases hx
   | some y=>
    rw [hy]at hx;cases hx
    have hyD:ys.getD i Str.empty=y:=by rw [List.getD_eq_getElem?_getD,hy];rfl
    have hil:i < ys.length:=(List.getElem?_eq_some_iff.mp hy).1;walk_at "go";refine ⟨_,SqT.of A1,rfl,_,_,rfl,_,_,rfl,rfl,?_⟩;have smt:A6 H' (upd H' t (.tup [.int i,.str y])):=A6.new ht;have sm2:=sm.trans smt;have f1:=smt _ _ g1;have f4:=smt _ _ g4;generalize upd H' t (.tup [.int i,.str y])=H2 at sm2 f1 f4 ⊢;clear smt ht g1 g4 sm;walk_at "go";refine ⟨.inl ⟨rfl,_,SqL.of f4⟩,.inl ⟨kvs,.inl f1⟩,_,Cq.k (k:=Sum.inr y) f1,?_⟩;refine ⟨p,_,_,rfl,rfl,f4,by rw [List.length_map,List.length_range];omega,?_⟩;rw [g3 y,← hyD,J4d];walk_at "go"
    have f1':upd H2 p (.lst ((List.range i).map (O2 ys)++[O2 ys i])) d=some (.dK kvs):=by rw [A5 ndp];exact f1
    refine ⟨_,M4.k (k:=Sum.inr (ys.getD i Str.empty)) f1' (by omega),Bw (Bw sm2 hpH) hd,_,A1,?_,J1o g3,?_⟩
    · have:=Cj kvs (Sum.inr (ys.getD i Str.empty):Key) (V.int (i:Int));omega
    · rw [A5 ndp.symm,A1,List.range_succ,List.map_append];rfl
 · rintro σ H' ⟨kvs,v3,v4,rfl,sm,g1,g2,g3,g4⟩
   rw [List.length_map]at g4;walk_at "go";exact q p _ hpH sm g4
theorem Z55{f:Addr}{fd:FuncData}(F:Fun K "__init__" "Shelf.__init__" Z2h f fd)(T:Txt K mg Z2 Z3 Z4 Z6 Z5 Z0 Z1)(Zg:Def P w K mg base CX0 3 "check_places" ["places"] (Cw)):Al P w K mg base CX0 4 f fd ["self","stock","places"] (Kw Z3):=by
 have sc:A9 ["self","stock","places"] ["self","stock","places"] (A7 Z2h):=by walk_at "sc"
 refine F.ok sc (fun vs H Q E h=>?_) (fun cdv A outer s H vs Q E hr h=>?_)
 · obtain ⟨_,_,_,_,rfl,_⟩:=h;rfl
 obtain ⟨s,dx,p,n,rfl,hs,h1,h2,q⟩:=h
 refine ⟨_,(@A2 _ _ _ _ _ (Ay (Ac Zg hr rfl Ad (A0 (pv 2) A3)))
  (@A2 _ _ _ _ _ (D9 (pv 0) (pv 1) rfl)
  (@A2 _ _ _ _ _ (D9 (pv 0) (pv 2) rfl)
  (@A4 _ _ _ (D9 (pv 0) E5 rfl))))),?_⟩
 walk_at "st";walk_at "go";refine ⟨Z3,dx,[],hs,T.Zd,T.Z01,by decide,?_⟩;walk_at "go";refine ⟨Z3,dx,_,A1,T.Zd,T.Z03,by simp [Bh],?_⟩;walk_at "go";intro d hd
 have nd:d≠s:=fun e=>by rw [e,A1]at hd;cases hd
 have hd0:H d=none:=by rw [A5 nd]at hd;exact hd
 refine ⟨Z3,dx,_,by rw [A5 nd.symm,A1],T.Zd,T.Zf,by have:=Dr "places" (V.int n) (Bh "stock" (V.ref p) []);have:=Dr "stock" (V.ref p) [];simp at *;omega,?_⟩;refine q _ d (fun b o e nb=>?_) hd0 ⟨⟨dx,A1⟩,by rw [A5 nd,A1];rfl,List.nodup_nil⟩;rw [A5 nb,A5 (Ab e hd0),A5 nb];exact e
theorem Z4x{f:Addr}{fd:FuncData}(F:Fun K "lying" "Shelf.lying" Z23 f fd)(T:Txt K mg Z2 Z3 Z4 Z6 Z5 Z0 Z1):Al P w K mg base CX0 1 f fd ["self"] (Kx Z3):=by
 have sc:A9 ["self"] ["self"] (A7 Z23):=by walk_at "sc"
 refine F.ok sc (fun vs H Q E h=>?_) (fun cdv A outer s H vs Q E hr h=>?_)
 · obtain ⟨_,_,_,_,_,rfl,_⟩:=h;rfl
 obtain ⟨s,p,d,n,ls,rfl,hs,q⟩:=h;refine ⟨_,(@A4 _ _ _ (@Ae _ _ _ _ (Ci (Ua rfl) rfl T.Z0k (by first | rfl | decide+kernel) (A0 (As (pv 0) rfl) A3)))),?_⟩;walk_at "st";obtain ⟨⟨dx,ho⟩,hd,_⟩:=hs;walk_at "go";refine ⟨Z3,dx,_,ho,T.Zd,T.Zf,_,E8,?_⟩;walk_at "go";refine ⟨_,hd,fun l hl=>?_⟩;rw [Xv];exact q l hl
theorem Z4y{f:Addr}{fd:FuncData}(F:Fun K "holds" "Shelf.holds" Z24 f fd)(T:Txt K mg Z2 Z3 Z4 Z6 Z5 Z0 Z1):Al P w K mg base CX0 1 f fd ["self","name"] (E9 Z3):=by
 have sc:A9 ["self","name"] ["self","name"] (A7 Z24):=by walk_at "sc"
 refine F.ok sc (fun vs H Q E h=>?_) (fun cdv A outer s H vs Q E hr h=>?_)
 · obtain ⟨_,_,_,_,_,_,rfl,_⟩:=h;rfl
 obtain ⟨s,p,d,n,ls,z,rfl,hs,q⟩:=h;refine ⟨_,(@A4 _ _ _ (@Ae _ _ _ _ (Ya (Pe (D3 hr) (pv 1) (As (pv 0) rfl))))),?_⟩;walk_at "st";obtain ⟨⟨dx,ho⟩,hd,_⟩:=hs;walk_at "go";refine ⟨Z3,dx,_,ho,T.Zd,T.Zf,_,E8,d,rfl,_,Cq.k (k:=Sum.inr z) hd,?_⟩;rw [Ps];exact q
theorem Z3s{f:Addr}{fd:FuncData}(F:Fun K "room_left" "Shelf.room_left" Z0s f fd)(T:Txt K mg Z2 Z3 Z4 Z6 Z5 Z0 Z1):Al P w K mg base CX0 1 f fd ["self"] (Ky Z3):=by
 have sc:A9 ["self"] ["self"] (A7 Z0s):=by walk_at "sc"
 refine F.ok sc (fun vs H Q E h=>?_) (fun cdv A outer s H vs Q E hr h=>?_)
 · obtain ⟨_,_,_,_,_,rfl,_⟩:=h;rfl
 obtain ⟨s,p,d,n,ls,rfl,hs,q⟩:=h;refine ⟨_,(@A4 _ _ _ (@Ae _ _ _ _ (Ai Ei (As (pv 0) rfl) (Af (Xj rfl) rfl T.Z42 (by first | rfl | decide+kernel) (A0 (J6s PySem.F.plainAttrs_dict PySem.F.slot_dict_values PySem.F.type_dict_values Xi (As (pv 0) rfl)) A3))))),?_⟩;walk_at "st";obtain ⟨⟨dx,ho⟩,hd,_⟩:=hs;walk_at "go";refine ⟨Z3,dx,_,ho,T.Zd,T.Z03,_,Ui,Z3,dx,_,ho,T.Zd,T.Zf,_,E8,?_⟩;refine ⟨.inr (.inr (.inl ⟨rfl,.inl ⟨_,hd⟩⟩)),d,rfl,_,hd,fun v hv=>⟨d,A1,_,(A6.new hv) _ _ hd,_,J23,n,rfl,q _ (A6.new hv)⟩⟩
theorem Z5e{f:Addr}{fd:FuncData}(F:Fun K "put" "Shelf.put" Z2w f fd)(T:Txt K mg Z2 Z3 Z4 Z6 Z5 Z0 Z1)(Za:DefM P w K mg base CX0 2 Z2 "room_of" ["self","name"] (Cy K Z2))(Zm:DefM P w K mg base CX0 1 Z3 "holds" ["self","name"] (E9 Z3))(Zs:DefM P w K mg base CX0 1 Z3 "room_left" ["self"] (Ky Z3)):Al P w K mg base CX0 4 f fd ["self","name"] (Mm K Z2 Z3):=by
 have sc:A9 ["self","name","room"] ["self","name"] (A7 Z2w):=by walk_at "sc"
 refine F.ok sc (fun vs H Q E h=>?_) (fun cdv A outer s H vs Q E hr h=>?_)
 · obtain ⟨_,_,_,_,_,_,_,_,rfl,_⟩:=h;rfl
 obtain ⟨s,p,d,n,ls,ts,z,r,rfl,hs,hx,nd,hl,hz,hr',hin,hle,q⟩:=h
 refine ⟨_,(@A2 _ _ _ _ _ (Am (i:=2) sc.nd rfl (Or.inl rfl) (B4 Za T.Zh hr (Bc Ad) (As (pv 0) rfl) (A0 (pv 1) A3)))
  (@A2 _ _ _ _ _ (Bd (Bi (B4 Zm T.Zd hr (Bc Ad) (pv 0) (A0 (pv 1) A3)))
   (@A4 _ _ _ Bj)
   Ak)
  (@A2 _ _ _ _ _ (Bd (Az Gb (pv 2) (Gx Zs T.Zd hr (Bc Ad) (pv 0)) (nomark _))
   (@A4 _ _ _ Bj)
   Ak)
  (@A4 _ _ _ (Ek (D3 hr) (As (pv 0) rfl) (pv 1) (pv 2) rfl))))),?_⟩
 walk_at "st";have line:=Aa;have hsA:=hs;obtain ⟨⟨dx,ho⟩,hd,hnd⟩:=hs;obtain ⟨dy,e,kvs,h1,h2,h3,h4,h5⟩:=Ag.has hx.at;walk_at "go";refine ⟨Z3,dx,_,ho,T.Zd,T.Z01,_,Ou,?_⟩;walk_at "go";refine ⟨dy,flds e,h1,by rfl,ts,hx.at,nd,hz,?_⟩;rw [J97 nd hz hr'];walk_at "go";refine ⟨dx,_,ho,by rfl,?_⟩;walk_at "go";refine ⟨_,_,_,_,hsA,?_⟩;rw [if_neg (by simpa using hin)];walk_at "go";refine ⟨dx,_,ho,by rfl,_,_,_,_,hsA,fun H1 sm1=>?_⟩;rw [if_neg (by omega)];walk_at "go";refine ⟨Z3,dx,_,sm1 _ _ ho,T.Zd,T.Zf,_,E8,?_⟩
 have hll:(lyK ls).length < sizeLine:=by unfold lyK;rw [List.length_map];omega
 refine ⟨d,rfl,_,M4.k (k:=Sum.inr z) (sm1 _ _ hd) hll,?_⟩;refine q _ (fun b o e n=>?_) (hsA.put sm1 hin);rw [A5 n];exact sm1 _ _ e
theorem Z56{f:Addr}{fd:FuncData}(F:Fun K "cast" "Shelf.cast" Z2i f fd)(T:Txt K mg Z2 Z3 Z4 Z6 Z5 Z0 Z1)(Zm:DefM P w K mg base CX0 1 Z3 "holds" ["self","name"] (E9 Z3)):Al P w K mg base CX0 2 f fd ["self","name"] (L0 Z3):=by
 have sc:A9 ["self","name"] ["self","name"] (A7 Z2i):=by walk_at "sc"
 refine F.ok sc (fun vs H Q E h=>?_) (fun cdv A outer s H vs Q E hr h=>?_)
 · obtain ⟨_,_,_,_,_,_,rfl,_⟩:=h;rfl
 obtain ⟨s,p,d,n,ls,z,rfl,hs,hin,q⟩:=h
 refine ⟨_,(@A2 _ _ _ _ _ (Bd (Bx (Bi (B4 Zm T.Zd hr (Bc Ad) (pv 0) (A0 (pv 1) A3))))
  (@A4 _ _ _ Bj)
  Ak)
  (@A4 _ _ _ (Ay (J05 (As (pv 0) rfl) (pv 1) ⟨rfl,rfl,rfl,rfl⟩)))),?_⟩
 walk_at "st";have line:=Aa;have hsA:=hs;obtain ⟨⟨dx,ho⟩,hd,hnd⟩:=hs;walk_at "go";refine ⟨dx,_,ho,by rfl,_,_,_,_,hsA,?_⟩;rw [if_neg (fun h=>h hin)];walk_at "go";have hv:=Ps (ls:=ls) (z:=z);rw [decide_eq_true hin]at hv;obtain ⟨v,hv⟩:=Option.isSome_iff_exists.mp hv;refine ⟨Z3,dx,_,ho,T.Zd,T.Zf,_,E8,d,rfl,.inl ⟨_,.inl hd⟩,_,hd,Sum.inr z,rfl,v,hv,?_⟩;exact q _ (fun b o e n=>by rw [A5 n];exact e) hsA.cast
theorem Z5r{f:Addr}{fd:FuncData}(F:Fun K "weighed" "weighed" Z3j f fd)(T:Txt K mg Z2 Z3 Z4 Z6 Z5 Z0 Z1):Al P w K mg base CX0 5 f fd ["book","weigh"] (Du P w K mg base):=by
 have sc:A9 ["book","weigh"] ["book","weigh"] (A7 Z3j):=by walk_at "sc"
 refine F.ok sc (fun vs H Q E h=>?_) (fun cdv A outer s H vs Q E hr h=>?_)
 · obtain ⟨_,_,_,rfl,_⟩:=h;rfl
 obtain ⟨p,b,bs,rfl,hB,hbl,hin,hJ,q⟩:=h;refine ⟨_,(@A4 _ _ _ (@Ae _ _ _ _ (Af (Xo rfl) rfl T.Z42 (by first | rfl | decide+kernel) (A0 (So "row" [1] rfl rfl (C3 (pv 0)) (fun b=>(Bx (Bi (@B1 _ _ _ _ _ _ _ Ba (pv 0) A8 (fun _ _=>rfl))))) (fun b=>(J2c (fa:=(fun b:Wg P w K mg base=>b.f)) (J:=(fun b=>b.J)) (sp:=(fun b=>spW b.zs b.g)) (fun b=>b.ok) hr Ad (pv 1) (A0 (@B1 _ _ _ _ _ _ _ Ba (pv 0) A8 (fun _ _=>rfl)) A3)))) A3)))),?_⟩;walk_at "st";have line:=Aa;walk_at "go";refine ⟨⟨_,SqL.of hB.l⟩,Sv (xs:=bs.map fun r=>V.ref r.1) (J7f H) (fun x=>V.int (b.g (nmV H x))) (SqL.of hB.l) (by rw [List.length_map];omega) ?_ ?_ ?_⟩
 · intro b' v H5 QT hx sm q'
   obtain ⟨r,hr,rfl⟩:=List.mem_map.mp hx;have q2:=q' H5 (A6.refl _);rw [Pu (hB.t r hr)]at q2;have g3:=sm _ _ (hB.t r hr);walk_at "go";exact B5 (SqT.of g3) rfl ⟨_,rfl,q2⟩
 · intro b' v H5 Q' hx hm sm q'
   obtain ⟨r,hr,rfl⟩:=List.mem_map.mp hx;have g3:=sm _ _ (hB.t r hr);have hJ2:=b.keep sm hJ;walk_at "go";refine ⟨b,rfl,hJ2,B5 (SqT.of g3) rfl ⟨hJ2,_,rfl,hin r hr (by have:=Pu (hB.t r hr);rw [hm]at this;simpa using this.symm),fun H7 s7=>?_⟩⟩;have:=q' H7 s7;rw [J2e (hB.t r hr)]at this;exact this
 · intro D H' hD sm hD2
   rw [J4s hB.t]at hD2;have q2:=q H' sm;exact ⟨D,rfl,_,SqL.of hD2,q2⟩
theorem J59{f c st:Addr}{ts:List Th}(nd:(ts.map (·.1)).Nodup)(T:Txt K mg Z2 Z3 Z4 Z6 Z5 Z0 Z1)(Zl:DefM P w K mg base CX0 2 Z2 "cost_of" ["self","name"] (Dk K Z2)):Ov P w K mg base CX0 4 f (PJ J58 K Z2 f c st ts) (spW (ts.map (·.1)) (cst ts)):=by
 have sc:Eb ["name","stock"] ["name"] J58.scope [("stock",c)]:=Eb.mk1 (ps:=["name"]) (sc:=J58.scope) (x:="stock") rfl rfl rfl (by decide+kernel) (by decide+kernel) (by decide+kernel) (by decide+kernel) rfl;refine Ov.ofLam (fvs:=[V.ref st]) sc (fun pm ct cd us hl=>match us,hl with | [_],_=>rfl) (fun vs H Q E h=>?_) (fun H h=>⟨h.1,h.2.1⟩) (fun cd A outer s H vs Q E hr hJ h=>?_)
 · obtain ⟨z,rfl,_⟩:=h;rfl
 obtain ⟨z,rfl,hz,q⟩:=h;refine ⟨_,(B4 Zl T.Zh hr (Bc Ad) (pv 1) (A0 (pv 0) A3)),?_⟩;obtain ⟨o,u,hco,_⟩:=hJ.2.1.get _ (List.mem_cons_self ..);have hst:=Ag.odd J4t hco (.inr ⟨_,_,rfl⟩) hJ.2.2;obtain ⟨dx,d,kvs,h1,_⟩:=hst.ex;walk_at "go";exact ⟨_,rfl,_,rfl,dx,_,h1,rfl,_,rfl,_,rfl,ts,z,rfl,hst,nd,hz,fun _=>by rw [J2f];exact q _ (A6.refl _)⟩
theorem Z5s{f:Addr}{fd:FuncData}(F:Fun K "paid_by" "paid_by" Z0m f fd)(T:Txt K mg Z2 Z3 Z4 Z6 Z5 Z0 Z1)(Z3t:Def P w K mg base CX0 5 "weighed" ["book","weigh"] (Du P w K mg base))(Zl:DefM P w K mg base CX0 2 Z2 "cost_of" ["self","name"] (Dk K Z2))(M:J93 K f 432)(HB:base.BuiltinsAt mg 432):Al P w K mg base CX0 6 f fd ["stock","book"] (Gk 432 (⟨174,25,174,57⟩:Pos) (("paid_by"++".<locals>.")++"<lambda>") K Z2):=by
 have sc:A9 ["stock","book"] ["stock","book"] (A7 Z0m):=by walk_at "sc"
 refine F.okC M sc (fun vs H Q E h=>?_) (fun c A outer s H vs Q E hc hr h=>?_)
 · obtain ⟨_,_,_,_,rfl,_⟩:=h;rfl
 obtain ⟨st,p,ts,bs,rfl,hst,nd,hB,hbl,hin,hL,q⟩:=h;refine ⟨_,(@A4 _ _ _ (@Ae _ _ _ _ (J4r (E:=fun _ _ _=>False) (i:=0) Z3t hr rfl (A0 (pv 1) (A0 (J4q rfl rfl rfl hc (by decide) HB) A3)) rfl rfl rfl))),?_⟩;walk_at "st";have line:=Aa;walk_at "go";refine ⟨hL,fun f2 c2 ct H2 hf2 sb hL2 hc2 hff=>?_⟩
 have tk2:Tk 432 (⟨174,25,174,57⟩:Pos) (("paid_by"++".<locals>.")++"<lambda>") H H2:=⟨sb,hL2⟩
 obtain ⟨tb,htb⟩:=Ml hL;have hst2:=Ag.odd sb htb (.inl ⟨_,rfl⟩) hst;have hB2:=O3.tk tk2 hL hB;walk_at "go";intro o u ho hu hcn;have s3:A6 H2 (upd H2 (s.heap.objs.size+1) (E3 (s.heap.objs.size+1) o)):=B7 hcn;refine ⟨⟨f2,PJ J58 K Z2 f2 (s.heap.objs.size+1) st ts,ts.map (·.1),cst ts,J59 nd T Zl,fun s h=>h.same s⟩,rfl,bs,hB2.same s3,hbl,fun r hr _=>hin r hr,⟨⟨_,c2,ct,s3 _ _ hff,s3 _ _ hc2⟩,.cons ⟨o,u,A1,ho,hu⟩ .nil,hst2.same s3⟩,fun H3 sm3 _=>q _ (lent tk2 hcn sm3)⟩
theorem Z57{f:Addr}{fd:FuncData}(F:Fun K "walkers_at" "walkers_at" Z2j f fd)(T:Txt K mg Z2 Z3 Z4 Z6 Z5 Z0 Z1):Al P w K mg base CX0 1 f fd ["step","jumps","taken","strands"] (Di):=by
 have sc:A9 ["step","jumps","taken","strands","over"] ["step","jumps","taken","strands"] (A7 Z2j):=by walk_at "sc"
 refine F.ok sc (fun vs H Q E h=>?_) (fun cdv A outer s H vs Q E hr h=>?_)
 · obtain ⟨_,_,_,_,_,_,_,rfl,_⟩:=h;rfl
 obtain ⟨t,a,b,s',as,js,tk,rfl,hJ,hB,hl,hj,q⟩:=h
 refine ⟨_,(@A2 _ _ _ _ _ (Xr (i:=4) "jump" "used" [0] sc.nd rfl rfl rfl rfl (Pr rfl T.Z2s (A0 (pv 1) (A0 (pv 2) A3))) (fun b=>(PW.pt (Yb (Bi (pv 1)) (Us (Yo Yl Qf (@B1 _ _ _ _ _ _ _ Ba (pv 0) A8 (fun _ _=>rfl)) (pv 2) (@B1 _ _ _ _ _ _ _ Ba (pv 0) A8 (fun _ _=>rfl))))))) (fun b=>(pv 0)))
  (@A4 _ _ _ (@Ae _ _ _ _ (Ai Ei (pv 3) (Af Au rfl T.Zt PySem.boot_len (A0 (pv 4) A3)))))),?_⟩
 walk_at "st";have line:=Aa;walk_at "go";refine ⟨⟨_,SqL.of hJ.1⟩,⟨_,SqL.of hB⟩,J4e (xs:=as.map V.ref) (zs:=tk.map V.bl) (by rw [List.length_map,List.length_map,hJ.2.1,hl]) (fun i=>tk.getD i false && cov (js.getD i (0,0,0)) t) (fun i=>V.ref (as.getD i 0)) (SqL.of hJ.1) (SqL.of hB) (by rw [List.length_map,hJ.2.1];omega) (fun b' i x z H' QT hx hz sm qt=>?_) (fun b' i x z H' Q' hx hz hp sm q'=>?_) (fun D H' hD sm hD'=>?_)⟩
 · rw [List.getElem?_map]at hx hz
   cases ha:as[i]? with
   | none=>rw [ha]at hx;cases hx
   | some c=>
   cases hb:tk[i]? with
   | none=>rw [hb]at hz;cases hz
   | some u=>
   rw [ha]at hx;rw [hb]at hz;cases hx;cases hz
   have hil:i < js.length:=by rw [← hJ.2.1];exact (List.getElem?_eq_some_iff.mp ha).1
   have hT:=sm _ _ (hJ.2.2 i c _ ha (show js[i]?=some (js.getD i (0,0,0)) by rw [List.getD_eq_getElem?_getD,List.getElem?_eq_getElem hil];rfl))
   have eu:tk.getD i false=u:=by rw [List.getD_eq_getElem?_getD,hb];rfl
   rw [eu]at qt;generalize js.getD i (0,0,0)=j at hT qt;obtain ⟨j1,j2,j3⟩:=j;have hT':H' c=some (.tup [.int j1,.int j2,.int j3]):=hT;clear hT eu;walk_at "go"
   cases u with
   | false=>rw [if_neg (by decide)];exact qt _ (A6.refl _)
   | true=>
    rw [if_pos rfl];refine B5 (SqT.of hT') (Aq (j:=0) rfl) ⟨_,rfl,?_⟩
    by_cases h1:j1≤t
    · rw [if_pos (by omega)]
      refine B5 (SqT.of hT') (Aq (j:=1) rfl) ⟨_,rfl,?_⟩;have:=qt _ (A6.refl _);unfold cov at this;rw [show decide ((t:Int) < (j2:Int))=decide (t < j2) from decide_eq_decide.mpr (by omega)];simp only [decide_eq_true h1,Bool.true_and]at this;exact this
    · rw [if_neg (by omega)]
      have:=qt _ (A6.refl _);unfold cov at this;simp only [decide_eq_false h1,Bool.false_and,Bool.and_false]at this;exact this
 · rw [List.getElem?_map]at hx
   cases ha:as[i]? with
   | none=>rw [ha]at hx;cases hx
   | some c=>
   rw [ha]at hx;cases hx;have:=q' _ (A6.refl _);rw [List.getD_eq_getElem?_getD,ha]at this;walk_at "go";exact this
 · rename_i rest hrest
   subst hrest;walk_at "go";refine ⟨_,.inl (SqL.of hD'),?_⟩;rw [List.length_map,List.length_map,hJ.2.1,Nw hl];exact q _ sm
theorem Z4f{f:Addr}{fd:FuncData}(F:Fun K "moves_by_step" "moves_by_step" Z1e f fd)(T:Txt K mg Z2 Z3 Z4 Z6 Z5 Z0 Z1)(Z2m:Def P w K mg base CX0 1 "walkers_at" ["step","jumps","taken","strands"] (Di)):Al P w K mg base CX0 2 f fd ["points","jumps","taken","strands"] (Et):=by
 have sc:A9 ["points","jumps","taken","strands","moves","step"] ["points","jumps","taken","strands"] (A7 Z1e):=by walk_at "sc"
 refine F.ok sc (fun vs H Q E h=>?_) (fun cdv A outer s H vs Q E hr h=>?_)
 · obtain ⟨_,_,_,_,_,_,_,rfl,_⟩:=h;rfl
 obtain ⟨n,a,b,s',as,js,tk,rfl,hJ,hB,hl,hj,hn1,hn,q⟩:=h
 refine ⟨_,(@A2 _ _ _ _ _ (Am (i:=4) sc.nd rfl (Or.inl rfl) (@K1 _ _ _ _ A3))
  (@A2 _ _ _ _ _ (Co PassesOwn.never rfl (Gu rfl T.Z0h (A0 (Ai Ei (pv 0) A8) A3)) (Ax (i:=5) sc.nd rfl (Or.inl rfl))
   (@A2 _ _ _ _ _ (Ay (Kh PySem.F.plainAttrs_list PySem.F.slot_list_append PySem.F.type_list_append C4 (pv 4) (A0 (By (A0 (pv 5) (@Nh _ _ _ _ _ _ _ _ (Ai Bo (pv 5) A8) (@Ks _ _ _ _ _ _ _ A8 (@Ks _ _ _ _ _ _ _ Mx A3))))) A3)))
   (@A4 _ _ _ (Bd (Az Gb (Ac Z2m hr rfl Ad (A0 (pv 5) (A0 (pv 1) (A0 (pv 2) (A0 (pv 3) A3))))) A8 (nomark _))
    (@A4 _ _ _ (Ay (Kh PySem.F.plainAttrs_list PySem.F.slot_list_append PySem.F.type_list_append C4 (pv 4) (A0 (By (@Nh _ _ _ _ _ _ _ _ (Ai Bo (pv 5) A8) (A0 (pv 5) (@Ks _ _ _ _ _ _ _ A8 (@Ks _ _ _ _ _ _ _ Mx A3))))) A3))))
    Ak))))
  (@A4 _ _ _ (@Ae _ _ _ _ (pv 4))))),?_⟩
 walk_at "st";have line:=Aa;walk_at "go";intro p hp;have sm0:A6 H (upd H p (.lst [])):=A6.new hp;have hp0:upd H p (.lst []) p=some (.lst []):=A1;generalize upd H p (.lst [])=H1 at sm0 hp0 ⊢;rename_i rest hrest;subst hrest;walk_at "go";rename_i rest hrest;refine Mb (fun i σ H'=>∃(ms:List Addr) (v5:Option V),σ=[some (V.int n),some (V.ref a),some (V.ref b),some (V.int s'),some (V.ref p),v5]∧A6 H H'∧H' p=some (.lst (ms.map V.ref))∧Av mvV H' ms (Gi js tk s' i)∧ms.length≤2 * i) ⟨[],none,rfl,sm0,hp0,Av.nil,Nat.le_refl _⟩ ?_ ?_
 · clear hrest
   rintro i σ H' hi ⟨ms,v5,rfl,sm,hp',hT,hml⟩
   have es:Gi js tk s' (i+1)=Gi js tk s' i++Nc js tk s' i:=by unfold Gi;rw [List.range_succ,List.flatMap_append];simp
   walk_at "go";refine ⟨.inl ⟨rfl,_,SqL.of hp'⟩,by omega,fun t1 ht1=>⟨p,_,_,rfl,rfl,(A6.new ht1) _ _ hp',by rw [List.length_map];omega,?_⟩⟩;have smA:A6 H (upd (upd H' t1 (.tup [V.int i,V.int (i+1),V.int 0,V.non])) p (.lst (ms.map V.ref++[V.ref t1]))):=Bw (sm.trans (A6.new ht1)) hp
   have hpA:upd (upd H' t1 (.tup [V.int i,V.int (i+1),V.int 0,V.non])) p (.lst (ms.map V.ref++[V.ref t1])) p=some (.lst ((ms++[t1]).map V.ref)):=by rw [A1,List.map_append];rfl
   have hTA:Av mvV (upd (upd H' t1 (.tup [V.int i,V.int (i+1),V.int 0,V.non])) p (.lst (ms.map V.ref++[V.ref t1]))) (ms++[t1]) (Gi js tk s' i++[⟨i,i+1,0,none⟩]):=hT.push hp' ht1 rfl
   have hlA:(ms++[t1]).length≤2 * i+1:=by rw [List.length_append,List.length_singleton];omega
   generalize upd (upd H' t1 (.tup [V.int i,V.int (i+1),V.int 0,V.non])) p (.lst (ms.map V.ref++[V.ref t1]))=HA at smA hpA hTA ⊢;generalize ms++[t1]=ms1 at hpA hTA hlA;have hJA:=hJ.same smA;have hBA:=smA _ _ hB;clear hT hml hp' ht1;rename_i rest hrest;subst hrest;walk_at "go";refine ⟨i,rfl,as,js,hJA,tk,hBA,hl,hj,fun HB smB=>?_⟩;have smAB:=smA.trans smB;have hpB:=smB _ _ hpA;have hTB:=hTA.same smB;rw [es];unfold Nc
   by_cases ho:over js tk i < s'
   · rw [if_pos (by omega),if_pos ho]
     refine ⟨.inl ⟨rfl,_,SqL.of hpB⟩,by omega,fun t2 ht2=>⟨p,_,_,rfl,rfl,(A6.new ht2) _ _ hpB,by rw [List.length_map];omega,Bw (smAB.trans (A6.new ht2)) hp,ms1++[t2],by rw [A1,List.map_append];rfl,?_,by rw [List.length_append,List.length_singleton];omega⟩⟩;have:=hTB.push (l1:=ms1.map V.ref++[V.ref t2]) (x:=(⟨i+1,i,0,none⟩:Mv)) (tv:=[V.int (i+1),V.int i,V.int 0,V.non]) hpB ht2 rfl;rw [List.append_assoc]at this;exact this
   · rw [if_neg (by omega),if_neg ho]
     exact ⟨smAB,ms1,hpB,hTB,by omega⟩
 · rintro σ H' ⟨ms,v5,rfl,sm,hp',hT,hml⟩
   subst hrest;walk_at "go";rw [show ((n:Int) - 1).toNat=n - 1 by omega]at hT hml;exact q p ms H' hp sm hp' hT (by omega)
theorem Z4q{f:Addr}{fd:FuncData}(F:Fun K "move_by_jump" "move_by_jump" Z1r f fd)(T:Txt K mg Z2 Z3 Z4 Z6 Z5 Z0 Z1):Al P w K mg base CX0 1 f fd ["jump","used","number"] (Ih):=by
 have sc:A9 ["jump","used","number"] ["jump","used","number"] (A7 Z1r):=by walk_at "sc"
 refine F.ok sc (fun vs H Q E h=>?_) (fun cdv A outer s H vs Q E hr h=>?_)
 · obtain ⟨_,_,_,_,rfl,_⟩:=h;rfl
 obtain ⟨t,b,k,j,rfl,ht,q⟩:=h
 refine ⟨_,(@A2 _ _ _ _ _ (Bd (Bi (pv 1))
  (@A4 _ _ _ (@Ae _ _ _ _ (By (A0 (@B1 _ _ _ _ _ _ _ Ba (pv 0) A8 (fun _ _=>rfl)) (A0 (@B1 _ _ _ _ _ _ _ Ba (pv 0) A8 (fun _ _=>rfl)) (@Nh _ _ _ _ _ _ _ _ (Ai Ei A8 (@B1 _ _ _ _ _ _ _ Ba (pv 0) A8 (fun _ _=>rfl))) (A0 (pv 2) A3)))))))
  Ak)
  (@A4 _ _ _ (@Ae _ _ _ _ (By (A0 (@B1 _ _ _ _ _ _ _ Ba (pv 0) A8 (fun _ _=>rfl)) (A0 (@B1 _ _ _ _ _ _ _ Ba (pv 0) A8 (fun _ _=>rfl)) (A0 (@B1 _ _ _ _ _ _ _ Ba (pv 0) A8 (fun _ _=>rfl)) (A0 (pv 2) A3)))))))),?_⟩
 walk_at "st";have line:=Aa;obtain ⟨j1,j2,j3⟩:=j;have hT:H t=some (.tup [.int j1,.int j2,.int j3]):=ht;clear ht;walk_at "go"
 cases b with
 | true=>
  rw [if_pos rfl];refine B5 (SqT.of hT) (Aq (j:=1) rfl) (B5 (SqT.of hT) (Aq (j:=0) rfl) (B5 (SqT.of hT) (Aq (j:=2) rfl) ⟨_,rfl,by omega,fun p hp=>?_⟩));exact q p _ (A6.new hp) A1
 | false=>
  rw [if_neg (by decide)];rename_i rest hrest;subst hrest;walk_at "go";refine B5 (SqT.of hT) (Aq (j:=0) rfl) (B5 (SqT.of hT) (Aq (j:=1) rfl) (B5 (SqT.of hT) (Aq (j:=2) rfl) ⟨by omega,fun p hp=>?_⟩));exact q p _ (A6.new hp) A1
theorem Z58{f:Addr}{fd:FuncData}(F:Fun K "__init__" "Climb.__init__" Z2k f fd)(T:Txt K mg Z2 Z3 Z4 Z6 Z5 Z0 Z1):Al P w K mg base CX0 1 f fd ["self","points"] (Eu Z4):=by
 have sc:A9 ["self","points"] ["self","points"] (A7 Z2k):=by walk_at "sc"
 refine F.ok sc (fun vs H Q E h=>?_) (fun cdv A outer s H vs Q E hr h=>?_)
 · obtain ⟨_,_,_,rfl,_⟩:=h;rfl
 obtain ⟨q',dx,n,rfl,hq,hn,q⟩:=h
 refine ⟨_,(@A2 _ _ _ _ _ (D9 (pv 0) (Ko "point" [] rfl rfl (Gu rfl T.Z0h (A0 (pv 1) A3)) (fun b=>A8)) rfl)
  (@A4 _ _ _ (D9 (pv 0) (Ko "point" [] rfl rfl (Gu rfl T.Z0h (A0 (pv 1) A3)) (fun b=>(By (A0 (Ai Ei (pv 0) A8) (A0 Mx A3))))) rfl))),?_⟩
 walk_at "st";have line:=Aa;walk_at "go";refine N34.Ta (fun _=>V.int 0) (by omega) (fun b i H' Q' hi sm q'=>?_) fun hs H1 hhs sm1 hh1=>?_
 · walk_at "go"
   exact q' _ (A6.refl _)
 have eh:(List.range n).map (fun _=>V.int 0)=(h0 n).map V.int:=by unfold h0;rw [List.map_replicate,List.map_const',List.length_range]
 rw [eh]at hh1;have nq:q'≠hs:=Ab hq hhs;refine ⟨Z4,dx,_,sm1 _ _ hq,T.Zi,T.Z8,by decide,?_⟩
 have sb1:SameBut q' H (upd H1 q' (.ins Z4 dx (Bh "heights" (V.ref hs) []))):=fun b o e nb=>by rw [A5 nb];exact sm1 _ _ e
 have hh2:upd H1 q' (.ins Z4 dx (Bh "heights" (V.ref hs) [])) hs=some (.lst ((h0 n).map V.int)):=by rw [A5 nq.symm];exact hh1
 have hq2:upd H1 q' (.ins Z4 dx (Bh "heights" (V.ref hs) [])) q'=some (.ins Z4 dx (Bh "heights" (V.ref hs) [])):=A1;generalize upd H1 q' (.ins Z4 dx (Bh "heights" (V.ref hs) []))=H2 at sb1 hh2 hq2 ⊢;clear sm1 hh1 eh;rename_i rest hrest;subst hrest;walk_at "go";refine Sk (lo:=0) (fun i y H'=>∃t,y=V.ref t∧H' t=some (.tup [.int ((i:Int) - 1),.non])) (fun i y H' H'' l zs ⟨t,e,h⟩ hl sb=>⟨t,e,sb _ _ h (fun z=>by rw [z,hl]at h;cases h)⟩) (by omega) (fun b i H' Q' hi sm q''=>?_) fun ws yl H3 hws sm3 hw3 hwl hall=>?_
 · walk_at "go"
   intro p hp;exact q'' _ _ (A6.new hp) ⟨p,rfl,A1⟩
 have ey:yl=(yl.map aOf).map V.ref:=by
  rw [List.map_map];refine (List.map_id yl).symm.trans (List.map_congr_left fun y hy=>?_);obtain ⟨i,hi⟩:=List.mem_iff_getElem?.mp hy;obtain ⟨t,rfl,_⟩:=hall i y hi;rfl
 have nw:ws≠q':=fun e=>by rw [e,hq2]at hws;cases hws
 have nhw:hs≠ws:=fun e=>by rw [← e,hh2]at hws;cases hws
 have hws0:H ws=none:=by
  cases e:H ws with
  | none=>rfl
  | some o=>rw [sb1 _ _ e nw]at hws;cases hws
 refine ⟨Z4,dx,_,sm3 _ _ hq2,T.Zi,T.Zo,by rw [show (Bh (Str.ofString "heights") (V.ref hs) []).length=1 from rfl];decide,q hs ws (yl.map aOf) _ (fun b o e nb=>by rw [A5 nb];exact sm3 _ _ (sb1 _ _ e nb)) hhs hws0 ⟨⟨dx,A1⟩,by rw [A5 nq.symm];exact sm3 _ _ hh2,by rw [A5 nw,← ey];exact hw3,⟨by rw [List.length_map,hwl];unfold w0;rw [List.length_map,List.length_range],fun k t x hk hx=>?_⟩,nhw⟩⟩;rw [List.getElem?_map]at hk
 cases hy:yl[k]? with
 | none=>rw [hy]at hk;cases hk
 | some y=>
 rw [hy]at hk;obtain ⟨t',rfl,ht'⟩:=hall k y hy;cases hk
 have hkn:k < n:=by rw [← hwl];exact (List.getElem?_eq_some_iff.mp hy).1
 unfold w0 at hx;rw [List.getElem?_map,List.getElem?_range hkn]at hx;cases hx
 have nt:t'≠q':=fun e=>by rw [e,sm3 _ _ hq2]at ht';cases ht'
 show upd H3 q' _ t'=_;rw [A5 nt];exact ht'
theorem Z48{f:Addr}{fd:FuncData}(F:Fun K "rises_by" "Climb.rises_by" Z13 f fd)(T:Txt K mg Z2 Z3 Z4 Z6 Z5 Z0 Z1):Al P w K mg base CX0 1 f fd ["self","moves"] (Ew Z4):=by
 have sc:A9 ["self","moves","rises","start","end","gain","number"] ["self","moves"] (A7 Z13):=by walk_at "sc"
 refine F.ok sc (fun vs H Q E h=>?_) (fun cdv A outer s H vs Q E hr h=>?_)
 · obtain ⟨_,_,_,_,_,_,_,_,_,_,_,rfl,_⟩:=h;rfl
 obtain ⟨q',m,hs,ws,as,mas,n,ms,pi,h,w',rfl,hC,hm,hT,n1,n2,P',c,hn,hml,q⟩:=h
 refine ⟨_,(@A2 _ _ _ _ _ (Am (i:=2) sc.nd rfl (Or.inl rfl) G8)
  (@A2 _ _ _ _ _ (Co PassesOwn.never rfl (C3 (pv 1)) (Ga rfl (B3 (Ax (i:=3) sc.nd rfl (Or.inl rfl)) (B3 (Ax (i:=4) sc.nd rfl (Or.inl rfl)) (B3 (Ax (i:=5) sc.nd rfl (Or.inl rfl)) (B3 (Ax (i:=6) sc.nd rfl (Or.inl rfl)) Dq)))))
   (@A4 _ _ _ (Bd (Az Gb (Ai Bo (@B1 _ _ _ _ _ _ _ Cc (As (pv 0) rfl) (pv 3) (fun _ _=>rfl)) (pv 5)) (@B1 _ _ _ _ _ _ _ Cc (As (pv 0) rfl) (pv 4) (fun _ _=>rfl)) (nomark _))
    (@A2 _ _ _ _ _ (To (Ai Bo (@B1 _ _ _ _ _ _ _ Cc (As (pv 0) rfl) (pv 3) (fun _ _=>rfl)) (pv 5)) (Tn (As (pv 0) rfl) (pv 4) N9))
    (@A2 _ _ _ _ _ (To (By (A0 (pv 3) (A0 (pv 6) A3))) (Tn (As (pv 0) rfl) (pv 4) N9))
    (@A4 _ _ _ (Am (i:=2) sc.nd rfl (Or.inl rfl) G8))))
    Ak)))
  (@A4 _ _ _ (@Ae _ _ _ _ (pv 2))))),?_⟩
 walk_at "st";have line:=Aa;walk_at "go"
 have hMs:∀x∈[hs,ws],∀l,H x≠some (.tup l):=fun x hx l e=>by
  rcases List.mem_cons.mp hx with z | z
  · rw [z,hC.hh]at e;cases e
  · rw [List.mem_singleton.mp z,hC.ww]at e;cases e
 have nm:m∉[hs,ws]:=by simp;exact ⟨n1,n2⟩
 refine ⟨⟨_,SqL.of hm⟩,?_⟩;rename_i rest hrest;refine Gv (xs:=mas.map V.ref) (fun i σ H'=>∃(as':List Addr) (v3 v4 v5 v6:Option V),σ=[some (V.ref q'),some (V.ref m),some (V.bl (Bz (ms.take i) ((h,w'),false)).2),v3,v4,v5,v6]∧Kp [hs,ws] H H'∧Lq Z4 H' q' hs ws as' (Bz (ms.take i) ((h,w'),false)).1.1 (Bz (ms.take i) ((h,w'),false)).1.2) ⟨as,none,none,none,none,rfl,Kp.of (A6.refl _),hC⟩ (fun i σ H' _ ⟨_,_,_,_,_,_,kp,_⟩=>SqL.of (kp _ _ nm hm)) ?_ ?_
 · clear hrest
   rintro i x σ H' hx ⟨as',v3,v4,v5,v6,rfl,kp,hC'⟩;rw [List.getElem?_map]at hx
   cases ha:mas[i]? with
   | none=>rw [ha]at hx;cases hx
   | some t=>
   rw [ha]at hx;cases hx
   have hil:i < ms.length:=by rw [← hT.1];exact (List.getElem?_eq_some_iff.mp ha).1
   obtain ⟨mv,hmv⟩:∃mv,ms[i]?=some mv:=⟨_,List.getElem?_eq_getElem hil⟩
   have hmem:=List.mem_of_getElem? hmv;have ht:=kp _ _ (fun z=>hMs t z _ (hT.2 i t mv ha hmv)) (hT.2 i t mv ha hmv);have ci:=Nb P' (ms.take i) ((h,w'),false) (fun x hx=>List.mem_of_mem_take hx) c;rw [Uo hmv];generalize Bz (ms.take i) ((h,w'),false)=st at hC' ci ⊢;obtain ⟨⟨hh,ww⟩,bb⟩:=st;have ht':H' t=some (.tup [V.int mv.u,V.int mv.v,V.int mv.g,oV mv.k]):=ht;clear ht;have pm:=P'.m mv hmem;have hC2:Lq Z4 H' q' hs ws as' hh ww:=hC';have ci2:CI n ms pi hh ww:=ci;clear hC' ci;obtain ⟨dx,ho⟩:=id hC2.o
   have hul:mv.u < hh.length:=by rw [ci2.lh];exact pm.1
   have hvl:mv.v < hh.length:=by rw [ci2.lh];exact pm.2.1
   have gu:atI (hh.map V.int) (mv.u:Int)=some (V.int (at' hh mv.u)):=Aq (by rw [List.getElem?_map,List.getElem?_eq_getElem hul];unfold at';rw [List.getD_eq_getElem?_getD,List.getElem?_eq_getElem hul];rfl);have gv:atI (hh.map V.int) (mv.v:Int)=some (V.int (at' hh mv.v)):=Aq (by rw [List.getElem?_map,List.getElem?_eq_getElem hvl];unfold at';rw [List.getD_eq_getElem?_getD,List.getElem?_eq_getElem hvl];rfl)
   have lh:(clF hs ws).lookup (Str.ofString "heights")=some (V.ref hs):=by rfl
   have lw:(clF hs ws).lookup (Str.ofString "ways")=some (V.ref ws):=by rfl
   by_cases hg:at' hh mv.u+mv.g > at' hh mv.v
   · have er:rise1 mv ((hh,ww),bb)=((hh.set mv.v (at' hh mv.u+mv.g),ww.set mv.v ((mv.u:Int),mv.k)),true):=by
      unfold rise1 rise;rw [if_pos hg,if_pos hg]
     rw [er];walk_at "go";refine ⟨_,SqT.of ht',rfl,_,_,rfl,_,_,rfl,_,_,rfl,_,_,rfl,rfl,Z4,dx,_,ho,T.Zi,T.Z8,_,lh,Cg (SqL.of hC2.hh) gu ⟨_,rfl,_,rfl,Z4,dx,_,ho,T.Zi,T.Z8,_,lh,Cg (SqL.of hC2.hh) gv ⟨_,rfl,?_⟩⟩⟩;rw [if_pos hg];walk_at "go";refine ⟨Z4,dx,_,ho,T.Zi,T.Z8,_,lh,Cg (SqL.of hC2.hh) gu ⟨_,rfl,Z4,dx,_,ho,T.Zi,T.Z8,_,lh,hs,rfl,_,hC2.hh,mv.v,by rw [List.length_map];exact Uj hvl,?_⟩⟩;rw [← List.map_set]
     have nqh:q'≠hs:=fun e=>by have:=hC2.hh;rw [← e,ho]at this;cases this
     have nqw:q'≠ws:=fun e=>by have:=hC2.ww;rw [← e,ho]at this;cases this
     have kpA:Kp [hs,ws] H (upd H' hs (.lst ((hh.set mv.v (at' hh mv.u+mv.g)).map V.int))):=kp.upd (by simp)
     have hoA:upd H' hs (.lst ((hh.set mv.v (at' hh mv.u+mv.g)).map V.int)) q'=some (.ins Z4 dx (clF hs ws)):=by rw [A5 nqh];exact ho
     have hhA:upd H' hs (.lst ((hh.set mv.v (at' hh mv.u+mv.g)).map V.int)) hs=some (.lst ((hh.set mv.v (at' hh mv.u+mv.g)).map V.int)):=A1
     have hwA:upd H' hs (.lst ((hh.set mv.v (at' hh mv.u+mv.g)).map V.int)) ws=some (.lst (as'.map V.ref)):=by rw [A5 hC2.n.symm];exact hC2.ww
     have hTA:Av wyV (upd H' hs (.lst ((hh.set mv.v (at' hh mv.u+mv.g)).map V.int))) as' ww:=hC2.t.lst hC2.hh;have hnA:=hC2.n
     have hal:mv.v < as'.length:=by rw [hC2.t.1,ci2.lw];exact pm.2.1
     generalize upd H' hs (.lst ((hh.set mv.v (at' hh mv.u+mv.g)).map V.int))=HA at kpA hoA hhA hwA hTA ⊢;clear ht' gu gv kp hC2 ho;rename_i rest2 hrest2;subst hrest2;walk_at "go";intro t2 ht2;have s2:A6 HA (upd HA t2 (.tup [V.int mv.u,oV mv.k])):=A6.new ht2;refine ⟨Z4,dx,_,s2 _ _ hoA,T.Zi,T.Zo,_,lw,ws,rfl,_,s2 _ _ hwA,mv.v,by rw [List.length_map];exact Uj hal,?_⟩;rw [← List.map_set];rename_i rest2 hrest2;subst hrest2;walk_at "go";refine ⟨(kpA.trans (Kp.of s2)).upd (by simp),as'.set mv.v t2,⟨⟨dx,by rw [A5 nqw];exact s2 _ _ hoA⟩,by rw [A5 hnA];exact s2 _ _ hhA,A1,?_,hnA⟩⟩;exact Av.lst (s2 _ _ hwA) ((hTA.same s2).set (by rw [A1];rfl))
   · have er:rise1 mv ((hh,ww),bb)=((hh,ww),bb):=if_neg hg
     rw [er];walk_at "go";refine ⟨_,SqT.of ht',rfl,_,_,rfl,_,_,rfl,_,_,rfl,_,_,rfl,rfl,Z4,dx,_,ho,T.Zi,T.Z8,_,lh,Cg (SqL.of hC2.hh) gu ⟨_,rfl,_,rfl,Z4,dx,_,ho,T.Zi,T.Z8,_,lh,Cg (SqL.of hC2.hh) gv ⟨_,rfl,?_⟩⟩⟩;rw [if_neg (by omega)];exact ⟨kp,as',hC2⟩
 · rintro σ H' ⟨as',v3,v4,v5,v6,rfl,kp,hC'⟩
   subst hrest;rw [List.length_map,hT.1,List.take_length]at hC' ⊢;walk_at "go";exact q as' H' kp hC'
theorem Z3f{f:Addr}{fd:FuncData}(F:Fun K "jumps_used" "Climb.jumps_used" Z0n f fd)(T:Txt K mg Z2 Z3 Z4 Z6 Z5 Z0 Z1):Al P w K mg base CX0 1 f fd ["self"] (Ii Z4):=by
 have sc:A9 ["self","numbers","point"] ["self"] (A7 Z0n):=by walk_at "sc"
 refine F.ok sc (fun vs H Q E h=>?_) (fun cdv A outer s H vs Q E hr h=>?_)
 · obtain ⟨_,_,_,_,_,_,_,_,rfl,_⟩:=h;rfl
 obtain ⟨q',hs,ws,as,n,d,h,w',rfl,hC,hw,hn1,hn,hu,hr,hd,q⟩:=h
 refine ⟨_,(@A2 _ _ _ _ _ (Am (i:=1) sc.nd rfl (Or.inl rfl) (@K1 _ _ _ _ A3))
  (@A2 _ _ _ _ _ (Am (i:=2) sc.nd rfl (Or.inl rfl) (Ai Ei (Af Au rfl T.Zt PySem.boot_len (A0 (As (pv 0) rfl) A3)) A8))
  (@A2 _ _ _ _ _ (Kc PassesOwn.never (Az Gb (pv 2) A8 (nomark _))
   (@A2 _ _ _ _ _ (Ay (Kh PySem.F.plainAttrs_list PySem.F.slot_list_append PySem.F.type_list_append C4 (pv 1) (A0 (@B1 _ _ _ _ _ _ _ Ba (@B1 _ _ _ _ _ _ _ Cc (As (pv 0) rfl) (pv 2) (fun _ _=>rfl)) A8 (fun _ _=>rfl)) A3)))
   (@A4 _ _ _ (Am (i:=2) sc.nd rfl (Or.inl rfl) (@B1 _ _ _ _ _ _ _ Ba (@B1 _ _ _ _ _ _ _ Cc (As (pv 0) rfl) (pv 2) (fun _ _=>rfl)) A8 (fun _ _=>rfl))))))
  (@A4 _ _ _ (@Ae _ _ _ _ (So "number" [] rfl rfl (C3 (pv 1)) (fun b=>(Az Ux (pv 0) Mx (nomark _))) (fun b=>(pv 0)))))))),?_⟩
 walk_at "st";have line:=Aa;walk_at "go";intro p hp;have sm0:A6 H (upd H p (.lst [])):=A6.new hp;have hp0:upd H p (.lst []) p=some (.lst []):=A1;generalize upd H p (.lst [])=H1 at sm0 hp0 ⊢;obtain ⟨dx,ho⟩:=id hC.o;rename_i rest hrest;subst hrest;walk_at "go"
 have lw:(clF hs ws).lookup (Str.ofString "ways")=some (V.ref ws):=by rfl
 have hC1:=hC.same sm0
 have hwl:as.length=n:=by rw [hC.t.1,hw]
 refine ⟨Z4,dx,_,sm0 _ _ ho,T.Zi,T.Zo,_,lw,ws,rfl,_,.inl (SqL.of hC1.ww),?_⟩;rw [List.length_map,hwl];rename_i rest hrest;subst hrest;walk_at "go";rename_i rest hrest;refine ⟨fun d' σ H'=>∃(v:Nat) (pre:List (Option Nat)),σ=[some (V.ref q'),some (V.ref p),some (V.int v)]∧A6 H H'∧v < n∧Rch w' v d'∧H' p=some (.lst (pre.map oV))∧pre++nums w' d' v=nums w' d (n - 1)∧pre.length+d'≤d,⟨d,n - 1,[],by rw [show ((n:Int) - 1)=((n - 1:Nat):Int) by omega],sm0,by omega,hr,hp0,rfl,by simp⟩,?_⟩;rintro d' σ H' ⟨v,pre,rfl,sm,hv,rv,hp',hpre,hpl⟩;have hC':=hC.same sm;obtain ⟨dx2,ho2⟩:=id hC'.o;walk_at "go"
 by_cases hv0:0 < v
 · rw [if_pos (by omega)]
   cases rv with
   | z=>exact absurd hv0 (Nat.lt_irrefl _)
   | @s _ d2 pz r=>
   obtain ⟨u,hu1,hu2⟩:=hu v hv0 hv
   obtain ⟨y,hy⟩:∃y:Wy,w'[v]?=some y:=⟨_,List.getElem?_eq_getElem (by omega)⟩
   have ey:w'.getD v (0,none)=y:=by rw [List.getD_eq_getElem?_getD,hy];rfl
   obtain ⟨t,ht1,ht2⟩:=hC'.t.get hy;have gw:atI (as.map V.ref) (v:Int)=some (V.ref t):=Aq (by rw [List.getElem?_map,ht1];rfl);have ht3:H' t=some (.tup [V.int y.1,oV y.2]):=ht2;rw [ey]at hu2
   have ep:prd w' v=u:=by unfold prd;rw [ey,hu2];exact Int.toNat_natCast _
   rw [ep]at r
   have en:NF.nums w' (d2+1) v=y.2::NF.nums w' d2 u:=by
    show (w'.getD v (0,none)).2::NF.nums w' d2 (prd w' v)=_;rw [ey,ep]
   rw [en]at hpre;refine ⟨fun σ' H'=>∃v,σ'=[some (V.ref q'),some (V.ref p),some (V.int (v:Nat))]∧A6 H H'∧v < n∧Rch w' v d2∧∃x,H' p=some (HO.lst (List.map oV x))∧x++NF.nums w' d2 v=NF.nums w' d (n - 1)∧x.length+d2≤d,fun σ' H' hN=>⟨d2,Nat.lt_succ_self _,hN⟩,?_⟩;walk_at "go";refine ⟨.inl ⟨rfl,_,SqL.of hp'⟩,Z4,dx2,_,ho2,T.Zi,T.Zo,_,lw,Cg (SqL.of hC'.ww) gw (B5 (SqT.of ht3) (Aq (j:=1) rfl) ⟨p,_,_,rfl,rfl,hp',by rw [List.length_map];omega,?_⟩)⟩;have smA:A6 H (upd H' p (.lst (pre.map oV++[oV y.2]))):=Bw sm hp
   have hpA:upd H' p (.lst (pre.map oV++[oV y.2])) p=some (.lst ((pre++[y.2]).map oV)):=by rw [A1,List.map_append];rfl
   have npt:t≠p:=fun e=>by rw [e,hp']at ht3;cases ht3
   have htA:upd H' p (.lst (pre.map oV++[oV y.2])) t=some (.tup [V.int y.1,oV y.2]):=by rw [A5 npt];exact ht3
   generalize upd H' p (.lst (pre.map oV++[oV y.2]))=HA at smA hpA htA ⊢;have hCA:=hC.same smA;obtain ⟨dx3,ho3⟩:=id hCA.o;rename_i rest2 hrest2;subst hrest2;walk_at "go";refine ⟨Z4,dx3,_,ho3,T.Zi,T.Zo,_,lw,Cg (SqL.of hCA.ww) gw (B5 (SqT.of htA) (Aq (j:=0) rfl) ?_)⟩;exact ⟨u,by rw [hu2],smA,hu1,r,pre++[y.2],hpA,by rw [List.append_assoc];exact hpre,by rw [List.length_append,List.length_singleton];omega⟩
 · rw [if_neg (by omega)]
   have e0:v=0:=by omega
   subst e0
   cases rv with
   | s pz _=>exact absurd pz (Nat.lt_irrefl _)
   | z=>
   have epre:pre=NF.nums w' d (n - 1):=by rw [← hpre];exact (List.append_nil _).symm
   subst hrest;walk_at "go";refine ⟨⟨_,SqL.of hp'⟩,Sv (fun x=>!decide (x=V.non)) id (SqL.of hp') (by rw [List.length_map];omega) (fun b x H2 QT hx sm2 qt=>?_) (fun b x H2 Q' hx hpx sm2 q'=>?_) (fun D H2 hD sm2 hD2=>?_)⟩
   · walk_at "go"
     exact qt _ (A6.refl _)
   · walk_at "go"
     exact q' _ (A6.refl _)
   · rw [Lr,epre]at hD2
     exact q D H2 (Ah sm hD) (sm.trans sm2) hD2
theorem Z5m{f:Addr}{fd:FuncData}(F:Fun K "climb_of" "climb_of" Z38 f fd)(T:Txt K mg Z2 Z3 Z4 Z6 Z5 Z0 Z1)(Z1j:Def P w K mg base CX0 2 "moves_by_step" ["points","jumps","taken","strands"] (Et))(Z1v:Def P w K mg base CX0 1 "move_by_jump" ["jump","used","number"] (Ih))(Z2n:U6 P w K mg base CX0 1 "Climb" Z4 ["self","points"] (Eu Z4))(Z16:DefM P w K mg base CX0 1 Z4 "rises_by" ["self","moves"] (Ew Z4)):Al P w K mg base CX0 3 f fd ["points","jumps","taken","strands"] (Ex Z4):=by
 have sc:A9 ["points","jumps","taken","strands","moves","climb"] ["points","jumps","taken","strands"] (A7 Z38):=by walk_at "sc"
 refine F.ok sc (fun vs H Q E h=>?_) (fun cdv A outer s H vs Q E hr h=>?_)
 · obtain ⟨_,_,_,_,_,_,_,_,rfl,_⟩:=h;rfl
 obtain ⟨n,a,b,s',as,js,tk,pi,rfl,hJ,hB,hF,hok,hj,hn1,hn,q⟩:=h
 refine ⟨_,(@A2 _ _ _ _ _ (Am (i:=4) sc.nd rfl (Or.inl rfl) (Ac Z1j hr rfl Ad (A0 (pv 0) (A0 (pv 1) (A0 (pv 2) (A0 (pv 3) A3))))))
  (@A2 _ _ _ _ _ (Yf (i:=4) sc.nd rfl (Or.inl rfl) (Sq "number" "jump" [2] rfl rfl (Mi rfl T.Z02 (A0 (pv 1) A3)) (fun b=>(Ac Z1v hr rfl Ad (A0 (pv 1) (A0 (@B1 _ _ _ _ _ _ _ Cc (pv 2) (pv 0) (fun _ _=>rfl)) (A0 (pv 0) A3)))))) J52)
  (@A2 _ _ _ _ _ (Am (i:=5) sc.nd rfl (Or.inl rfl) (Gh Z2n hr rfl (Bc Ad) (A0 (pv 0) A3)))
  (@A2 _ _ _ _ _ (Kc PassesOwn.never (Bi (B4 Z16 T.Zi hr (Bc Ad) (pv 5) (A0 (pv 4) A3)))
   (@A4 _ _ _ Kb))
  (@A4 _ _ _ (@Ae _ _ _ _ (pv 5))))))),?_⟩
 walk_at "st";have line:=Aa;walk_at "go";refine ⟨n,rfl,s',rfl,as,js,hJ,tk,hB,hF.l,hj,hn1,hn,fun m ms H1 hm sm1 hm1 hT1 hml=>?_⟩;rename_i rest hrest;subst hrest;walk_at "go";have hJ1:=hJ.same sm1;have hB1:=sm1 _ _ hB;refine ⟨⟨_,SqL.of hJ1.1⟩,N36.Y5 (xs:=as.map V.ref) (fun i=>mvV (C2 (js.getD i (0,0,0)) (tk.getD i false) i)) (SqL.of hJ1.1) (by rw [List.length_map,hJ.2.1];omega) (fun bb i x H' Q' hx sm q'=>?_) fun m2 ms2 H2 hm2 sm2 hm22 hl2 hT2=>?_⟩
 · rw [List.getElem?_map]at hx
   cases ha:as[i]? with
   | none=>rw [ha]at hx;cases hx
   | some c=>
   rw [ha]at hx;cases hx
   have hil:i < js.length:=by rw [← hJ.2.1];exact (List.getElem?_eq_some_iff.mp ha).1
   have hc:=sm _ _ (hJ1.2.2 i c _ ha (show js[i]?=some (js.getD i (0,0,0)) by rw [List.getD_eq_getElem?_getD,List.getElem?_eq_getElem hil];rfl));have gt:atI (tk.map V.bl) (i:Int)=some (V.bl (tk.getD i false)):=Aq (by rw [List.getElem?_map,List.getD_eq_getElem?_getD,List.getElem?_eq_getElem (by rw [hF.l];exact hil)];rfl);walk_at "go";exact Cg (SqL.of (sm _ _ hB1)) gt ⟨_,rfl,i,rfl,_,hc,fun t' H'' sm' ht'=>q' t' H'' sm' ht'⟩
 have hTJ:Av mvV H2 ms2 (K4 js tk):=⟨by rw [hl2,List.length_map,hJ.2.1];unfold K4;rw [List.length_map,List.length_range],fun k t x hk hx=>by
  unfold K4 at hx
  have hkl:k < js.length:=by have:=(List.getElem?_eq_some_iff.mp hx).1;rw [List.length_map,List.length_range]at this;exact this
  rw [List.getElem?_map,List.getElem?_range hkl]at hx;cases hx
  exact hT2 k t hk⟩
 have hm12:=sm2 _ _ hm1;have nm2:m≠m2:=Ab hm1 hm2;refine ⟨m2,rfl,_,hm12,_,hm22,by rw [List.length_map,List.length_map];have:=hTJ.1;unfold K4 at this;rw [List.length_map,List.length_range]at this;omega,?_⟩;have smA:A6 H (upd H2 m (.lst (ms.map V.ref++ms2.map V.ref))):=Bw (sm1.trans sm2) hm
 have hmA:upd H2 m (.lst (ms.map V.ref++ms2.map V.ref)) m=some (.lst ((ms++ms2).map V.ref)):=by rw [A1,List.map_append]
 have hTA:Av mvV (upd H2 m (.lst (ms.map V.ref++ms2.map V.ref))) (ms++ms2) (mvs n js tk s'):=((hT1.same sm2).lst hm12).app (hTJ.lst hm12)
 have hlA:(mvs n js tk s').length≤1000:=by have h1:=hTA.1;have h2:=hTJ.1;unfold K4 at h2;rw [List.length_map,List.length_range]at h2;rw [List.length_append]at h1;omega
 generalize upd H2 m (.lst (ms.map V.ref++ms2.map V.ref))=HA at smA hmA hTA ⊢;clear hT1 hTJ hm12 hm22 sm2 hT2 hm1 sm1 hJ1 hB1;rename_i rest hrest;subst hrest;walk_at "go";intro x dx hx hdx nx;refine ⟨dx,n,rfl,A1,hn,fun hs ws ws' H3 sb hhs hws hC=>?_⟩;have sm3:A6 HA H3:=N63.Mr hx hdx sb;have hhsA:HA hs=none:=Ah (N63.Nv hx hdx) hhs;have hwsA:HA ws=none:=Ah (N63.Nv hx hdx) hws;have n1:m≠hs:=Ab hmA hhsA;have n2:m≠ws:=Ab hmA hwsA
 have hM0:∀k∈[hs,ws],H k=none:=fun k hk=>by
  rcases List.mem_cons.mp hk with h | h
  · rw [h];exact Ah smA hhsA
  · rw [List.mem_singleton.mp h];exact Ah smA hwsA
 have smH3:=smA.trans sm3;have hm3:=sm3 _ _ hmA;have hT3:=hTA.same sm3
 have hMs:∀x∈[hs,ws],∀l,H3 x≠some (.tup l):=fun x hx l e=>by
  rcases List.mem_cons.mp hx with z | z
  · rw [z,hC.hh]at e;cases e
  · rw [List.mem_singleton.mp z,hC.ww]at e;cases e
 have nm:m∉[hs,ws]:=by simp;exact ⟨n1,n2⟩
 clear hTA hmA sb hhs hws hx hdx nx hhsA hwsA sm3 smA;rename_i rest hrest;subst hrest;walk_at "go";rename_i rest hrest;refine ⟨fun k σ H'=>∃(ws2:List Addr) (hc:List Int) (wc:List Wy),σ=[some (V.int n),some (V.ref a),some (V.ref b),some (V.int s'),some (V.ref m),some (V.ref x)]∧Kp [hs,ws] H3 H'∧Lq Z4 H' x hs ws ws2 hc wc∧CI n (mvs n js tk s') pi hc wc∧(∀e,ClR (mvs n js tk s') (hc,wc) e→ClR (mvs n js tk s') (h0 n,w0 n) e)∧k=(((List.range n).map pi).sum - hc.sum).toNat,⟨_,ws',h0 n,w0 n,rfl,Kp.of (A6.refl _),hC,ci0 hF.p,fun e he=>he,rfl⟩,?_⟩;rintro k σ H' ⟨ws2,hc,wc,rfl,kp,hC',ci,hR,hk⟩;obtain ⟨dx2,ho2⟩:=id hC'.o;walk_at "go";refine ⟨dx2,_,ho2,by rfl,hs,ws,ws2,ms++ms2,n,mvs n js tk s',pi,hc,wc,hC',kp _ _ nm hm3,hT3.kp kp hMs,n1,n2,hF.p,ci,hn,hlA,fun as' H4 kp4 hC4=>?_⟩;have ci4:=Nb hF.p (mvs n js tk s') ((hc,wc),false) (fun _ h=>h) ci;have hsm:=Oj hF.p hc.sum (mvs n js tk s') ((hc,wc),false) (fun _ h=>h) ci ⟨Int.le_refl _,fun h=>by cases h⟩
 have hmx:=J79 ci4;have kp04:=kp.trans kp4
 cases hb:(Bz (mvs n js tk s') ((hc,wc),false)).2 with
 | true=>
  rw [if_pos rfl];have hlt:=hsm.2 hb;refine ⟨fun σ' H''=>σ'=[some (V.int n),some (V.ref a),some (V.ref b),some (V.int s'),some (V.ref m),some (V.ref x)]∧H''=H4,?_,rfl,rfl⟩;rintro σ' H'' ⟨rfl,rfl⟩;exact ⟨(((List.range n).map pi).sum - (Bz (mvs n js tk s') ((hc,wc),false)).1.1.sum).toNat,by omega,rfl,kp04,as',_,_,hC4,ci4,fun e he=>hR e (.s hb he),rfl⟩
 | false=>
  rw [if_neg (by decide)];obtain ⟨_,he,hst⟩:=Lx _ _ hb;have hcl:=hR _ (.z hb);rw [he]at hC4 ci4 hcl;subst hrest;walk_at "go";exact q x hs ws as' hc wc H4 (Kp.same smH3 kp04 hM0) (hM0 hs (by simp)) hC4 hcl ci4 hst
theorem Z5t{f:Addr}{fd:FuncData}(F:Fun K "flow_of" "flow_of" Z3k f fd)(T:Txt K mg Z2 Z3 Z4 Z6 Z5 Z0 Z1)(Z2b:Def P w K mg base CX0 3 "climb_of" ["points","jumps","taken","strands"] (Ex Z4))(Z0p:DefM P w K mg base CX0 1 Z4 "jumps_used" ["self"] (Ii Z4)):Al P w K mg base CX0 4 f fd ["points","jumps","most"] (Ij):=by
 have sc:A9 ["points","jumps","most","taken","strands","climb","number"] ["points","jumps","most"] (A7 Z3k):=by walk_at "sc"
 refine F.ok sc (fun vs H Q E h=>?_) (fun cdv A outer s H vs Q E hr h=>?_)
 · obtain ⟨_,_,_,_,_,rfl,_⟩:=h;rfl
 obtain ⟨n,a,most,as,js,rfl,hJ,hok,hj,hn1,hn,hm,q⟩:=h
 refine ⟨_,(@A2 _ _ _ _ _ (J33 (i:=3) "start" "end" "gain" [] sc.nd rfl rfl rfl rfl (C3 (pv 1)) (fun b=>(D1 Iy (pv 0) (pv 1) (nomark _))))
  (@A2 _ _ _ _ _ (Am (i:=4) sc.nd rfl (Or.inl rfl) A8)
  (@A2 _ _ _ _ _ (Am (i:=5) sc.nd rfl (Or.inl rfl) (Ac Z2b hr rfl Ad (A0 (pv 0) (A0 (pv 1) (A0 (pv 3) (A0 (pv 4) A3))))))
  (@A2 _ _ _ _ _ (Kc PassesOwn.never (PW.pt (Yb (Az Qf (pv 4) (pv 2) (nomark _)) (Us (Az Gb (@B1 _ _ _ _ _ _ _ Cc (As (pv 5) rfl) (Ut P6 A8) (fun _ _=>rfl)) A8 (nomark _)))))
   (@A2 _ _ _ _ _ (Co PassesOwn.never rfl (C3 (Gx Z0p T.Zi hr (Bc Ad) (pv 5))) (Ax (i:=6) sc.nd rfl (Or.inl rfl))
    (@A4 _ _ _ (To (P5 (@B1 _ _ _ _ _ _ _ Cc (pv 3) (pv 6) (fun _ _=>rfl))) (Tn (pv 3) (pv 6) N9))))
   (@A2 _ _ _ _ _ (Yf (i:=4) sc.nd rfl (Or.inl rfl) A8 J6l)
   (@A4 _ _ _ (Am (i:=5) sc.nd rfl (Or.inl rfl) (Ac Z2b hr rfl Ad (A0 (pv 0) (A0 (pv 1) (A0 (pv 3) (A0 (pv 4) A3))))))))))
  (@A4 _ _ _ (@Ae _ _ _ _ (By (A0 (pv 3) (A0 (As (pv 5) rfl) A3))))))))),?_⟩
 walk_at "st";have line:=Aa;walk_at "go";refine ⟨⟨_,SqL.of hJ.1⟩,J4v (fun i=>V.int (js.getD i (0,0,0)).1) (fun i=>V.int (js.getD i (0,0,0)).2.1) (fun i=>V.int (js.getD i (0,0,0)).2.2) (fun i=>V.bl (decide ((js.getD i (0,0,0)).1=(js.getD i (0,0,0)).2.1))) (SqL.of hJ.1) (by rw [hJ.2.1];omega) (fun i p hp=>?_) (fun b i H' Q' hi sm q'=>?_) fun b hb=>?_⟩
 · have hil:i < js.length:=by rw [← hJ.2.1];exact (List.getElem?_eq_some_iff.mp hp).1
   exact SqT.of (hJ.2.2 i p _ hp (show js[i]?=some (js.getD i (0,0,0)) by rw [List.getD_eq_getElem?_getD,List.getElem?_eq_getElem hil];rfl))
 · walk_at "go"
   rw [show decide (((js.getD i (0,0,0)).1:Int)=((js.getD i (0,0,0)).2.1:Int))=decide ((js.getD i (0,0,0)).1=(js.getD i (0,0,0)).2.1) from decide_eq_decide.mpr (by omega)];exact q'
 rw [hJ.2.1,J36];have sm0:A6 H (upd H b (.lst ((tk0 js).map V.bl))):=A6.new hb;have hb0:upd H b (.lst ((tk0 js).map V.bl)) b=some (.lst ((tk0 js).map V.bl)):=A1;generalize upd H b (.lst ((tk0 js).map V.bl))=H0 at sm0 hb0 ⊢;rename_i rest hrest;subst hrest;walk_at "go";refine ⟨n,rfl,0,rfl,as,js,hJ.same sm0,tk0 js,hb0,pi0 js,fi0 hok hn1,hok,hj,hn1,hn,fun q1 hs1 ws1 wl1 h1 w1 H1 sm1 hhs1 hC1 hR1 ci1 rs1=>?_⟩
 have nb1:hs1≠b:=fun e=>by rw [e,hb0]at hhs1;cases hhs1
 have hb1:=sm1 _ _ hb0;have hhs0:=Ah sm0 hhs1;rename_i rest hrest;subst hrest;walk_at "go";rename_i rest hrest;refine ⟨fun k σ H'=>∃(tk:List Bool) (st:Nat) (cq hs ws:Addr) (wl:List Addr) (h:List Int) (w':List Wy) (pi:Nat→Int) (v6:Option V),σ=[some (V.int n),some (V.ref a),some (V.int most),some (V.ref b),some (V.int st),some (V.ref cq),v6]∧A6 H H'∧H' b=some (.lst (tk.map V.bl))∧H hs=none∧hs≠b∧Lq Z4 H' cq hs ws wl h w'∧FI n js tk st pi∧CI n (mvs n js tk st) pi h w'∧U8 (mvs n js tk st) h∧ClR (mvs n js tk st) (h0 n,w0 n) (h,w')∧(st:Int)≤most∧(∀t' h',FlR n js most tk st t' h'→FlR n js most (tk0 js) 0 t' h')∧(∀v,v < n→pi v≤pi0 js v)∧k=(most - st).toNat,⟨_,tk0 js,0,q1,hs1,ws1,wl1,h1,w1,pi0 js,none,rfl,sm0.trans sm1,hb1,hhs0,nb1,hC1,fi0 hok hn1,ci1,rs1,hR1,hm,fun t' h' z=>z,fun v _=>Int.le_refl _,rfl⟩,?_⟩;rintro k σ H' ⟨tk,st,cq,hs,ws,wl,h,w',pi,v6,rfl,sm,hb',hhs,nhb,hC,hF,ci,rs,hR,hsm,hfl,hpi,hk⟩
 obtain ⟨dx,ho⟩:=id hC.o
 have lh:(clF hs ws).lookup (Str.ofString "heights")=some (V.ref hs):=by rfl
 have gl:atI (h.map V.int) (-1)=some (V.int (at' h (n - 1))):=by rw [J35 (by rw [ci.lh];exact hn1),ci.lh]
 have fin:¬((st:Int) < most∧0 < at' h (n - 1))→rest [some (V.int n),some (V.ref a),some (V.int most),some (V.ref b),some (V.int st),some (V.ref cq),v6] H':=by
  intro hno;subst hrest;walk_at "go";refine ⟨Z4,dx,_,ho,T.Zi,T.Z8,_,lh,by omega,fun t ht=>?_⟩;have st':A6 H' (upd H' t (.tup [V.ref b,V.ref hs])):=A6.new ht;exact q t b hs tk h _ (sm.trans st') hb hhs A1 (st' _ _ hb') (st' _ _ hC.hh) (hfl _ _ (.z hR hno)) (J8t hok hn1 hF ci rs hsm (by omega)) (fun v hv=>Int.le_trans (ci.hi v hv) (hpi v hv))
 walk_at "go"
 by_cases h1:(st:Int) < most
 · rw [if_pos h1]
   refine ⟨Z4,dx,_,ho,T.Zi,T.Z8,_,lh,Cg (SqL.of hC.hh) gl ⟨_,rfl,?_⟩⟩
   by_cases h2:0 < at' h (n - 1)
   · rw [if_pos h2]
     obtain ⟨d,rd⟩:=ci.rc (n - 1) (by omega);have W:=wb hok ci hF.p rs rd (by omega);have hF':=J46 hok hn1 hF ci rs rd;clear fin;refine ⟨fun σ' H''=>∃(tk:List Bool) (cq hs ws:Addr) (wl:List Addr) (h:List Int) (w':List Wy) (pi:Nat→Int) (v6:Option V),σ'=[some (V.int n),some (V.ref a),some (V.int most),some (V.ref b),some (V.int ((st+1:Nat):Int)),some (V.ref cq),v6]∧A6 H H''∧H'' b=some (.lst (tk.map V.bl))∧H hs=none∧hs≠b∧Lq Z4 H'' cq hs ws wl h w'∧FI n js tk (st+1) pi∧CI n (mvs n js tk (st+1)) pi h w'∧U8 (mvs n js tk (st+1)) h∧ClR (mvs n js tk (st+1)) (h0 n,w0 n) (h,w')∧(∀t' h',FlR n js most tk (st+1) t' h'→FlR n js most (tk0 js) 0 t' h')∧(∀v,v < n→pi v≤pi0 js v),?_,?_⟩
     · rintro σ' H'' ⟨tk2,cq2,hs2,ws2,wl2,h2',w2,pi2,v62,rfl,e1,e2,e3,e4,e5,e6,e7,e8,e9,e10,e11⟩
       exact ⟨(most - ((st+1:Nat):Int)).toNat,by omega,tk2,st+1,cq2,hs2,ws2,wl2,h2',w2,pi2,v62,rfl,e1,e2,e3,e4,e5,e6,e7,e8,e9,by omega,e10,e11,rfl⟩
     · have hu:∀v,0 < v→v < n→∃u:Nat,u < n∧(w'.getD v (0,none)).1=u:=fun v p hv=>by
        obtain ⟨m,hm',_,e2,_⟩:=ci.wy v p hv;exact ⟨m.u,(hF.p.m m hm').1,by rw [e2]⟩
       have hd:d < n:=J7n (fun v p hv=>by
        obtain ⟨u,hu1,hu2⟩:=hu v p hv;unfold prd
        rw [hu2,Int.toNat_natCast];exact hu1) rd (by omega)
       walk_at "go";refine ⟨dx,_,ho,by rfl,hs,ws,wl,n,d,h,w',hC,ci.lw,hn1,hn,hu,rd,by omega,fun p H2 hp sm2 hp2=>⟨⟨_,SqL.of hp2⟩,?_⟩⟩
       have npb:p≠b:=fun e=>by rw [e,hb']at hp;cases hp
       have hpH:=Ah sm hp
       have hul:(usd w' d (n - 1)).length≤200:=by
        have:=List.Nodup.length_le_of_subset (l₂:=List.range js.length) W.nd fun x hx=>List.mem_range.mpr (W.kl x hx);rw [List.length_range]at this;omega
       have hfl2:∀t' h',FlR n js most (flips tk (usd w' d (n - 1))) (st+1) t' h'→FlR n js most (tk0 js) 0 t' h':=fun t' h' z=>hfl _ _ (.s hR ⟨h1,h2⟩ rd z);have hkl:=W.kl;have hpi2:∀v,v < n→at' h v≤pi0 js v:=fun v hv=>Int.le_trans (ci.hi v hv) (hpi v hv);have sm02:=sm.trans sm2;have hb2:=sm2 _ _ hb';clear W hu hd hC ci rs hR hfl hk lh gl ho rd sm2 sm;generalize usd w' d (n - 1)=ks at hp2 hul hfl2 hkl hF';rename_i rest2 hrest2;refine Gv (xs:=ks.map fun (k:Nat)=>V.int (k:Int)) (fun i σ H''=>∃(v6:Option V),σ=[some (V.int n),some (V.ref a),some (V.int most),some (V.ref b),some (V.int st),some (V.ref cq),v6]∧A6 H H''∧H'' b=some (.lst ((flips tk (ks.take i)).map V.bl))∧H'' p=some (.lst (ks.map fun (k:Nat)=>V.int (k:Int)))) ⟨v6,rfl,sm02,hb2,hp2⟩ (fun i σ H'' _ ⟨_,_,_,_,e⟩=>SqL.of e) ?_ ?_
       · clear hrest2
         rintro i x σ H'' hx ⟨v6,rfl,sm,hb3,hp3⟩;rw [List.getElem?_map]at hx
         cases hki:ks[i]? with
         | none=>rw [hki]at hx;cases hx
         | some ki=>
         rw [hki]at hx;cases hx
         have hkj:ki < (flips tk (ks.take i)).length:=by rw [Li,hF.l];exact hkl ki (List.mem_of_getElem? hki)
         rw [Um hki];generalize flips tk (ks.take i)=tki at hb3 hkj ⊢;have gt:atI (tki.map V.bl) (ki:Int)=some (V.bl (tki.getD ki false)):=Aq (by rw [List.getElem?_map,List.getD_eq_getElem?_getD,List.getElem?_eq_getElem hkj];rfl);walk_at "go";refine Cg (SqL.of hb3) gt ?_;refine ⟨_,rfl,_,hb3,ki,by rw [List.length_map];exact Uj hkj,Bw sm hb,by rw [A1,J37],by rw [A5 npb];exact hp3⟩
       · rintro σ H'' ⟨v6,rfl,sm,hb3,hp3⟩
         rw [List.length_map,List.take_length]at hb3;subst hrest2;walk_at "go";refine ⟨n,rfl,st+1,by omega,as,js,hJ.same sm,flips tk ks,hb3,at' h,hF',hok,hj,hn1,hn,fun q3 hs3 ws3 wl3 h3 w3 H3 sm3 hhs3 hC3 hR3 ci3 rs3=>?_⟩;exact ⟨by omega,sm.trans sm3,_,sm3 _ _ hb3,hs3,Ah sm hhs3,(fun e=>by rw [e,hb3]at hhs3;cases hhs3),ws3,wl3,h3,w3,hC3,at' h,hF',ci3,rs3,hR3,hfl2,hpi2⟩
   · rw [if_neg h2]
     exact fin fun z=>h2 z.2
 · rw [if_neg h1]
   exact fin fun z=>h1 z.1
theorem Z5f{f:Addr}{fd:FuncData}(F:Fun K "__init__" "Rule.__init__" Z0i f fd)(T:Txt K mg Z2 Z3 Z4 Z6 Z5 Z0 Z1)(Zg:Def P w K mg base CX0 3 "check_places" ["places"] (Cw)):Al P w K mg base CX0 4 f fd ["self","stock","places"] (Dn K):=by
 have sc:A9 ["self","stock","places"] ["self","stock","places"] (A7 Z0i):=by walk_at "sc"
 refine F.ok sc (fun vs H Q E h=>?_) (fun cdv A outer s H vs Q E hr h=>?_)
 · obtain ⟨_,_,_,_,_,rfl,_⟩:=h;rfl
 obtain ⟨X,q',dx,p,n,rfl,hq,hcl,hns,hnp,h1,h2,q⟩:=h
 refine ⟨_,(@A2 _ _ _ _ _ (Ay (Ac Zg hr rfl Ad (A0 (pv 2) A3)))
  (@A2 _ _ _ _ _ (D9 (pv 0) (pv 1) rfl)
  (@A4 _ _ _ (D9 (pv 0) (pv 2) rfl)))),?_⟩
 walk_at "st";walk_at "go";refine ⟨X,dx,[],hq,hcl,hns,by decide,?_⟩;walk_at "go";refine ⟨X,dx,_,A1,hcl,hnp,by simp [Bh],?_⟩;walk_at "go";exact q _ (fun b o e nb=>by rw [A5 nb];exact e) A1
theorem Z4z{f:Addr}{fd:FuncData}(F:Fun K "__init__" "Ranked.__init__" Z05 f fd)(T:Txt K mg Z2 Z3 Z4 Z6 Z5 Z0 Z1)(Z30:Y0 P w K mg base CX0 4 "Rule" Z6 ["self","stock","places"] (Dn K)):Al P w K mg base CX0 5 f fd ["self","stock","places"] (D0 K):=by
 have sc:A9 ["self","stock","places"] ["self","stock","places"] (A7 Z05):=by walk_at "sc"
 refine F.ok sc (fun vs H Q E h=>?_) (fun cdv A outer s H vs Q E hr h=>?_)
 · obtain ⟨_,_,_,_,_,rfl,_⟩:=h;rfl
 obtain ⟨X,q',dx,p,n,rfl,hq,hcl,⟨hns,hnp⟩,hpr,hla5,h1,h2,q⟩:=h
 refine ⟨_,(@A2 _ _ _ _ _ (Ay (Nn Z30 hr (Bc Ad) (Ka (v:= .ref Z6) rfl T.Z69 rfl) (A0 (pv 0) (A0 (pv 1) (A0 (pv 2) A3)))))
  (@A2 _ _ _ _ _ (D9 (pv 0) A8 rfl)
  (@A4 _ _ _ (D9 (pv 0) E5 rfl)))),?_⟩
 walk_at "st";have line:=Aa;walk_at "go";refine ⟨X,dx,hq,hcl,hns,hnp,h1,h2,fun H1 sb1 hq1=>?_⟩;rename_i rest hrest;subst hrest;walk_at "go";refine ⟨X,dx,_,hq1,hcl,hpr,by rw [show (rf0 p n).length=2 from rfl];decide,?_⟩
 have sb2:SameBut q' H1 (upd H1 q' (.ins X dx (Bh "present" (V.int 0) (rf0 p n)))):=fun b o e nb=>by rw [A5 nb];exact e
 have hq2:upd H1 q' (.ins X dx (Bh "present" (V.int 0) (rf0 p n))) q'=some (.ins X dx (Bh "present" (V.int 0) (rf0 p n))):=A1;generalize upd H1 q' (.ins X dx (Bh "present" (V.int 0) (rf0 p n)))=H2 at sb2 hq2 ⊢;rename_i rest hrest;subst hrest;walk_at "go";intro la hla
 have n1:la≠q':=fun e=>by rw [e,hq2]at hla;cases hla
 refine ⟨X,dx,_,by rw [A5 n1.symm];exact hq2,hcl,hla5,by rw [show (Bh "present" (V.int 0) (rf0 p n)).length=3 from rfl];decide,?_⟩;have sb12:=sb1.trans sb2
 have hla0:H la=none:=by
  cases e2:H la with
  | none=>rfl
  | some o=>rw [sb12 _ _ e2 n1]at hla;cases hla
 walk_at "go";exact q _ la (fun b o e nb=>by rw [A5 nb,A5 (fun e2=>by rw [e2,hla0]at e;cases e)];exact sb12 _ _ e nb) hla0 n1 A1 (by rw [A5 n1,A1])
theorem Z4g{f:Addr}{fd:FuncData}(F:Fun K "__init__" "Farthest.__init__" Z1f f fd)(T:Txt K mg Z2 Z3 Z4 Z6 Z5 Z0 Z1)(Zq:Def P w K mg base CX0 4 "check_asks" ["stock","asks","places"] (N41.Dj K Z2))(Z06:Y0 P w K mg base CX0 5 "Ranked" Z5 ["self","stock","places"] (D0 K)):Al P w K mg base CX0 6 f fd ["self","stock","places","asks"] (Ia K Z2 Z0):=by
 have sc:A9 ["self","stock","places","asks"] ["self","stock","places","asks"] (A7 Z1f):=by walk_at "sc"
 refine F.ok sc (fun vs H Q E h=>?_) (fun cdv A outer s H vs Q E hr h=>?_)
 · obtain ⟨_,_,_,_,_,_,_,rfl,_⟩:=h;rfl
 obtain ⟨q',dx,p,a,n,ts,ys,rfl,hq,hsto,nd,ha,hlen,hin,hrm,h1,h2,naq,q⟩:=h
 refine ⟨_,(@A2 _ _ _ _ _ (Ay (Ac Zq hr rfl Ad (A0 (pv 1) (A0 (pv 3) (A0 (pv 2) A3)))))
  (@A2 _ _ _ _ _ (Ay (Nn Z06 hr (Bc Ad) (Ka (v:= .ref Z5) rfl T.Z5b rfl) (A0 (pv 0) (A0 (pv 1) (A0 (pv 2) A3)))))
  (@A4 _ _ _ (D9 (pv 0) (Ci De rfl T.Z0k (by first | rfl | decide+kernel) (A0 (pv 3) A3)) rfl)))),?_⟩
 walk_at "st";have line:=Aa;walk_at "go";refine ⟨ts,hsto,nd,ys,ha,hlen,hin,hrm,h1,h2,fun H0 sm0=>?_⟩;have hq0:=sm0 _ _ hq;have ha0:=sm0.seq ha;rename_i rest hrest;subst hrest;walk_at "go";refine ⟨Z0,dx,hq0,T.Z7,T.Zu,T.Zr,T.Zc,T.Zp,h1,h2,fun H1 la sb1 hla n1 hq1' hl1=>?_⟩;have hq1:H1 q'=some (.ins Z0 dx (Bh "last" (V.ref la) (Bh "present" (V.int 0) (rf0 p n)))):=hq1';clear hq1'
 have ha1:SqL K H1 a (ys.map V.str):=by
  rcases ha0 with (h | ⟨o,h⟩) | h
  · exact .inl (.inl (sb1 _ _ h naq))
  · exact .inl (.inr ⟨o,sb1 _ _ h naq⟩)
  · exact .inr h
 rename_i rest hrest;subst hrest;walk_at "go";intro ak hak
 have n2:ak≠q':=fun e=>by rw [e,hq1]at hak;cases hak
 have n3:la≠ak:=fun e=>by rw [← e,hl1]at hak;cases hak
 refine ⟨Z0,dx,_,by rw [A5 n2.symm];exact hq1,T.Z7,T.Zk,by rw [show (Bh "last" (V.ref la) (Bh "present" (V.int 0) (rf0 p n))).length=4 from rfl];decide,?_⟩
 have hak0:H ak=none:=by
  cases e2:H ak with
  | none=>rfl
  | some o=>rw [sb1 _ _ (sm0 _ _ e2) n2]at hak;cases hak
 exact q _ la ak (fun b o e nb=>by rw [A5 nb,A5 (fun e2=>by rw [e2,hak0]at e;cases e)];exact sb1 _ _ (sm0 _ _ e) nb) (Ah sm0 hla) hak0 ⟨la,ak,rfl,⟨dx,A1⟩,by rw [A5 n1,A5 n3];exact hl1,by rw [A5 n2,A1]⟩
theorem Z31{f:Addr}{fd:FuncData}(F:Fun K "number_ask" "Ranked.number_ask" Z08 f fd)(T:Txt K mg Z2 Z3 Z4 Z6 Z5 Z0 Z1):Al P w K mg base CX0 1 f fd ["self","name"] (Dv Z0):=by
 have sc:A9 ["self","name"] ["self","name"] (A7 Z08):=by walk_at "sc"
 refine F.ok sc (fun vs H Q E h=>?_) (fun cdv A outer s H vs Q E hr h=>?_)
 · obtain ⟨_,_,_,_,_,_,_,rfl,_⟩:=h;rfl
 obtain ⟨q',p,n,M,s,z,ys,rfl,hh,hl,q⟩:=h
 refine ⟨_,(@A2 _ _ _ _ _ (O7 (pv 0) A8 Yr)
  (@A4 _ _ _ (Ek (D3 hr) (As (pv 0) rfl) (pv 1) (As (pv 0) rfl) rfl))),?_⟩
 walk_at "st";have line:=Aa;obtain ⟨la,ak,hM,⟨dx,ho⟩,hla,hak⟩:=hh
 have hM2:M=[q',la,ak]∧True:=⟨hM,trivial⟩
 clear hM
 have nq1:q'≠la:=fun e=>by rw [e,hla]at ho;cases ho
 have nq2:q'≠ak:=fun e=>by rw [e,hak]at ho;cases ho
 have nla:la≠ak:=fun e=>by rw [e,hak]at hla;cases hla
 walk_at "go";refine ⟨Z0,dx,_,ho,T.Z7,T.Zc,_,Gp,s.k,rfl,dx,_,ho,by rw [J50];decide,?_⟩;have ho1:upd H q' (.ins Z0 dx (rf3 p n (s.k+1) la ak)) q'=some (.ins Z0 dx (rf3 p n (s.k+1) la ak)):=A1
 have hla1:upd H q' (.ins Z0 dx (rf3 p n (s.k+1) la ak)) la=some (.dK s.la):=by rw [A5 nq1.symm];exact hla
 have hak1:upd H q' (.ins Z0 dx (rf3 p n (s.k+1) la ak)) ak=some (.lst (ys.map V.str)):=by rw [A5 nq2.symm];exact hak
 have kp1:Kp M H (upd H q' (.ins Z0 dx (rf3 p n (s.k+1) la ak))):=(Kp.of (A6.refl H)).upd (by rw [hM2.1];simp);rename_i rest hrest;show rest _ (upd H q' (.ins Z0 dx (rf3 p n (s.k+1) la ak)));generalize upd H q' (.ins Z0 dx (rf3 p n (s.k+1) la ak))=H1 at ho1 hla1 hak1 kp1 ⊢;have hlp:=Cj s.la (Sum.inr z:Key) (V.int (s.k+1));subst hrest;walk_at "go";exact ⟨Z0,dx,_,ho1,T.Z7,T.Zc,_,Gp,Z0,dx,_,ho1,T.Z7,T.Zp,_,T8,la,rfl,_,M4.k (k:=Sum.inr z) hla1 (by omega),q _ (kp1.upd (by rw [hM2.1];simp)) ⟨la,ak,hM2.1,⟨dx,by rw [A5 nq1];exact ho1⟩,A1,by rw [A5 nla.symm];exact hak1⟩⟩
theorem Z3g{f:Addr}{fd:FuncData}(F:Fun K "last_of" "Ranked.last_of" Z0o f fd)(T:Txt K mg Z2 Z3 Z4 Z6 Z5 Z0 Z1):Al P w K mg base CX0 1 f fd ["self","name"] (Ib Z0):=by
 have sc:A9 ["self","name"] ["self","name"] (A7 Z0o):=by walk_at "sc"
 refine F.ok sc (fun vs H Q E h=>?_) (fun cdv A outer s H vs Q E hr h=>?_)
 · obtain ⟨_,_,_,_,_,_,_,_,rfl,_⟩:=h;rfl
 obtain ⟨q',p,n,M,s,z,i,ys,rfl,hh,hv,q⟩:=h;refine ⟨_,(@A4 _ _ _ (@Ae _ _ _ _ (Qn (D3 hr) (As (pv 0) rfl) (pv 1) A8 ⟨rfl,rfl,rfl,rfl⟩))),?_⟩;walk_at "st";have line:=Aa;obtain ⟨la,ak,hM,⟨dx,ho⟩,hla,hak⟩:=hh;clear hM;walk_at "go";exact ⟨Z0,dx,_,ho,T.Z7,T.Zp,_,T8,la,rfl,.inl ⟨_,.inl hla⟩,some (.int i),by rw [← hv];exact Cq.k (k:=Sum.inr z) hla,q⟩
theorem Z34{f:Addr}{fd:FuncData}(F:Fun K "coming_of" "Farthest.coming_of" Z0b f fd)(T:Txt K mg Z2 Z3 Z4 Z6 Z5 Z0 Z1):Al P w K mg base CX0 1 f fd ["self","name"] (Dw Z0):=by
 have sc:A9 ["self","name","before"] ["self","name"] (A7 Z0b):=by walk_at "sc"
 refine F.ok sc (fun vs H Q E h=>?_) (fun cdv A outer s H vs Q E hr h=>?_)
 · obtain ⟨_,_,_,_,_,_,_,rfl,_⟩:=h;rfl
 obtain ⟨q',p,n,M,s,z,ys,rfl,hh,hk0,hk1,hlen,q⟩:=h
 refine ⟨_,(@A2 _ _ _ _ _ (Co PassesOwn.never rfl (O5 rfl T.Z0h (A0 (As (pv 0) rfl) (A0 (Af Au rfl T.Zt PySem.boot_len (A0 (As (pv 0) rfl) A3)) A3))) (Ax (i:=2) sc.nd rfl (Or.inl rfl))
  (@A4 _ _ _ (Bd (Az Iy (@B1 _ _ _ _ _ _ _ Cc (As (pv 0) rfl) (pv 2) (fun _ _=>rfl)) (pv 1) (nomark _))
   (@A4 _ _ _ (@Ae _ _ _ _ (Ai Bo (pv 2) A8)))
   Ak)))
  (@A4 _ _ _ (@Ae _ _ _ _ (Ai Bo (Af Au rfl T.Zt PySem.boot_len (A0 (As (pv 0) rfl) A3)) A8)))),?_⟩
 walk_at "st";have line:=Aa;obtain ⟨la,ak,hM,⟨dx,ho⟩,hla,hak⟩:=hh;clear hM;walk_at "go";refine ⟨Z0,dx,_,ho,T.Z7,T.Zc,_,Gp,Z0,dx,_,ho,T.Z7,T.Zk,_,Nu,?_⟩;refine ⟨ak,rfl,_,.inl (SqL.of hak),s.k,rfl,by omega,by omega,by rw [List.length_map];omega,by rw [List.length_map];omega,?_⟩;rw [List.length_map]
 have hkn:s.k=((s.k.toNat:Nat):Int)∧True:=⟨by omega,trivial⟩
 rename_i rest hrest;refine Mb (fun i σ H'=>∃v2:Option V,σ=[some (V.ref q'),some (V.str z),v2]∧H'=H∧∀u,u < i→ys[s.k.toNat+u]?≠some z) ⟨none,rfl,rfl,fun u hu=>absurd hu (Nat.not_lt_zero _)⟩ ?_ ?_
 · clear hrest
   rintro i σ H' hi ⟨v2,rfl,rfl,hno⟩
   have hil:s.k.toNat+i < ys.length:=by omega
   have hy:=List.getElem?_eq_getElem hil;generalize ys[s.k.toNat+i]=y at hy;walk_at "go";refine ⟨Z0,dx,_,ho,T.Z7,T.Zk,_,Nu,Cg (SqL.of hak) (v:=V.str y) (by rw [show s.k+(i:Int)=((s.k.toNat+i:Nat):Int) by omega];exact Aq (by rw [List.getElem?_map,hy];rfl)) ?_⟩;refine ⟨rfl,?_⟩
   by_cases e:y=z
   · rw [if_pos (by rw [e])]
     rw [e]at hy;rw [J6a hy hno]at q;rw [show s.k+(i:Int)+1=((s.k.toNat+i:Nat):Int)+1 by omega];exact q
   · rw [if_neg (fun h=>e (by injection h))]
     refine ⟨rfl,fun u hu=>?_⟩
     by_cases eu:u=i
     · rw [eu,hy];exact fun h=>e (Option.some.inj h)
     · exact hno u (by omega)
 · rintro σ H' ⟨v2,rfl,rfl,hno⟩
   rw [J7j (fun u hu=>hno u (by omega))]at q;subst hrest;walk_at "go";refine ⟨Z0,dx,_,ho,T.Z7,T.Zk,_,Nu,ak,rfl,_,.inl (SqL.of hak),?_⟩;rw [List.length_map];exact q
theorem Z4h{f:Addr}{fd:FuncData}(F:Fun K "rank" "Farthest.rank" Z00 f fd)(T:Txt K mg Z2 Z3 Z4 Z6 Z5 Z0 Z1)(Z0d:DefM P w K mg base CX0 1 Z0 "coming_of" ["self","name"] (Dw Z0))(Z0q:DefM P w K mg base CX0 1 Z0 "last_of" ["self","name"] (Ib Z0)):Al P w K mg base CX0 2 f fd ["self","name"] (Ed Z0):=by
 have sc:A9 ["self","name"] ["self","name"] (A7 Z00):=by walk_at "sc"
 refine F.ok sc (fun vs H Q E h=>?_) (fun cdv A outer s H vs Q E hr h=>?_)
 · obtain ⟨_,_,_,_,_,_,_,rfl,_⟩:=h;rfl
 obtain ⟨q',p,n,M,s,z,ys,rfl,hh,hk0,hk1,hlen,⟨i,hv⟩,q⟩:=h;refine ⟨_,(@A4 _ _ _ (@Ae _ _ _ _ (By (A0 (Ai Ei A8 (B4 Z0d T.Z7 hr (Bc Ad) (pv 0) (A0 (pv 1) A3))) (A0 (B4 Z0q T.Z7 hr (Bc Ad) (pv 0) (A0 (pv 1) A3)) A3))))),?_⟩;walk_at "st";have line:=Aa;obtain ⟨la,ak,hM,⟨dx,ho⟩,hla,hak⟩:=id hh;clear hM;walk_at "go";refine ⟨dx,_,ho,by rfl,p,n,M,s,ys,hh,hk0,hk1,hlen,dx,_,ho,by rfl,p,n,M,s,i,ys,hh,hv,by omega,fun t ht=>?_⟩;have hq:=q t ht;unfold rkF at hq;rw [Nt hv]at hq;exact hq
theorem Z49{f:Addr}{fd:FuncData}(F:Fun K "asked" "Ranked.asked" Z14 f fd)(T:Txt K mg Z2 Z3 Z4 Z6 Z5 Z0 Z1)(Z09:DefM P w K mg base CX0 1 Z0 "number_ask" ["self","name"] (Dv Z0)):Al P w K mg base CX0 3 f fd ["self","name"] (Es Z0):=by
 have sc:A9 ["self","name"] ["self","name"] (A7 Z14):=by walk_at "sc"
 refine F.ok sc (fun vs H Q E h=>?_) (fun cdv A outer s H vs Q E hr h=>?_)
 · obtain ⟨_,_,_,_,_,_,_,_,_,rfl,_⟩:=h;rfl
 obtain ⟨ys,q',p,n,M,s,l,ns,z,rfl,hh,hi,hz,hns,q⟩:=h;refine ⟨_,(@A4 _ _ _ (Ay (B4 Z09 T.Z7 hr (Bc Ad) (pv 0) (A0 (pv 1) A3)))),?_⟩;walk_at "st";have line:=Aa;have hh':QAt Z0 ys H M q' p n s:=hh;obtain ⟨la,ak,hM,⟨dx,ho⟩,hla,hak⟩:=id hh';have hlen:=hi.1.a.len;walk_at "go";exact ⟨dx,_,ho,by rfl,p,n,M,s,ys,hh',by omega,fun H1 kp1 h1=>q H1 kp1 h1⟩
theorem Z3u{f:Addr}{fd:FuncData}(F:Fun K "choice" "Ranked.choice" Z0t f fd)(T:Txt K mg Z2 Z3 Z4 Z6 Z5 Z0 Z1)(Z1k:J2t P w K mg base 2 Z0 "rank" ["self","name"] (Ed Z0)):Al P w K mg base CX0 4 f fd ["self","lying"] (Dx Z0 K):=by
 have sc:A9 ["self","lying"] ["self","lying"] (A7 Z0t):=by walk_at "sc"
 refine F.ok sc (fun vs H Q E h=>?_) (fun cdv A outer s H vs Q E hr h=>?_)
 · obtain ⟨_,_,_,_,_,_,_,_,_,_,_,rfl,_⟩:=h;rfl
 obtain ⟨ys,hyl,q',p,a,n,M,s,l,ns,z,rfl,hh,hm,hl,ha,ham,hns,hll,hcn,q⟩:=h;refine ⟨_,(@A4 _ _ _ (@Ae _ _ _ _ (Wn Z1k T.Z7 hr rfl T.Z43 (by first | rfl | decide+kernel) (A0 (pv 1) A3) (pv 0) rfl))),?_⟩;walk_at "st";have line:=Aa;have hh':QAt Z0 ys H M q' p n s:=hh;obtain ⟨la,ak,hM,⟨dx,ho⟩,hla,hak⟩:=id hh';clear hM;have hm':LM ns z s l:=hm.1;have hk0:0≤s.k:=hm.2;have hk1:s.k.toNat≤300:=hcn;have q2:∀H',Kp M H H'→QAt Z0 ys H' M q' p n s→Q (.str (fmin ys s l)) H':=q;clear q hm hcn;walk_at "go";refine ⟨dx,_,ho,by rfl,l.map V.str,SqL.of ha,by simpa using hl,fun i=>rkF ys s (l.getD i Str.empty),fun i v hv H1 sm1=>?_,fun v H1 sm1 hv=>?_⟩
 · rw [List.getElem?_map]at hv
   cases hz:l[i]? with
   | none=>rw [hz]at hv;cases hv
   | some u=>
   rw [hz]at hv;cases hv;obtain ⟨j,hj,_⟩:=hm'.i.v u (List.mem_of_getElem? hz);refine ⟨p,n,M,s,u,rfl,ys,(T3 Z0 ys).dep (fun m _ o=>sm1 m o) hh',hk0,by omega,by omega,⟨j,hj⟩,fun t ht=>⟨A6.new ht,?_⟩⟩;rw [A1];show _=some (HO.tup ((rkF ys s (l.getD i Str.empty)).map V.int));rw [List.getD_eq_getElem?_getD,hz];rfl
 · rw [List.length_map,List.getElem?_map]at hv
   have hl0:0 < l.length:=List.length_pos_iff.mpr hl;have hb:=J6b (fun i=>0 - ((nx ys s.k.toNat (l.getD i Str.empty):Int)+1)) (fun i=>lv s (l.getD i Str.empty)) (l.length - 1);have hlt:argBest (btK fun i=>rkF ys s (l.getD i Str.empty)) (l.length - 1) < l.length:=Nat.lt_of_le_of_lt hb.1 (by omega)
   have e:v=V.str (fmin ys s l):=by
    unfold fmin;rw [List.getD_eq_getElem?_getD,List.getElem?_eq_getElem hlt];rw [List.getElem?_eq_getElem hlt]at hv;exact (Option.some.inj hv).symm
   rw [e];exact q2 _ (Kp.of sm1) ((T3 Z0 ys).dep (fun m _ o=>sm1 m o) hh')
theorem Z4i{f:Addr}{fd:FuncData}(F:Fun K "gone" "Rule.gone" Z1g f fd)(T:Txt K mg Z2 Z3 Z4 Z6 Z5 Z0 Z1):Al P w K mg base CX0 3 f fd ["self","name"] (Ic Z0):=by
 have sc:A9 ["self","name"] ["self","name"] (A7 Z1g):=by walk_at "sc"
 refine F.ok sc (fun vs H Q E h=>?_) (fun cdv A outer s H vs Q E hr h=>?_)
 · obtain ⟨_,_,_,_,_,_,_,_,_,rfl,_⟩:=h;rfl
 obtain ⟨ys,q',p,n,M,s,l,ns,z,rfl,hh,hm,hl,hns,q⟩:=h;refine ⟨_,(@A4 _ _ _ Kb),?_⟩;walk_at "st";walk_at "go";exact q _ (Kp.of (A6.refl _)) hh
theorem Z4j{f:Addr}{fd:FuncData}(F:Fun K "came" "Rule.came" Z1h f fd)(T:Txt K mg Z2 Z3 Z4 Z6 Z5 Z0 Z1):Al P w K mg base CX0 1 f fd ["self","name"] (Ie Z0):=by
 have sc:A9 ["self","name"] ["self","name"] (A7 Z1h):=by walk_at "sc"
 refine F.ok sc (fun vs H Q E h=>?_) (fun cdv A outer s H vs Q E hr h=>?_)
 · obtain ⟨_,_,_,_,_,_,_,_,_,rfl,_⟩:=h;rfl
 obtain ⟨ys,q',p,n,M,s,l,ns,z,rfl,hh,hm,hz,hzl,hns,q⟩:=h;refine ⟨_,(@A4 _ _ _ Kb),?_⟩;walk_at "st";walk_at "go";exact q _ (Kp.of (A6.refl _)) hh
theorem Z4r{f:Addr}{fd:FuncData}(F:Fun K "__init__" "Planned.__init__" Z1s f fd)(T:Txt K mg Z2 Z3 Z4 Z6 Z5 Z0 Z1)(Z06:Y0 P w K mg base CX0 5 "Ranked" Z5 ["self","stock","places"] (D0 K)):Al P w K mg base CX0 6 f fd ["self","stock","places","stays"] (Ez Z1):=by
 have sc:A9 ["self","stock","places","stays"] ["self","stock","places","stays"] (A7 Z1s):=by walk_at "sc"
 refine F.ok sc (fun vs H Q E h=>?_) (fun cdv A outer s H vs Q E hr h=>?_)
 · obtain ⟨_,_,_,_,_,_,rfl,_⟩:=h;rfl
 obtain ⟨q',dx,p,sd,n,kv,rfl,hq,h1,h2,hsd,q⟩:=h
 refine ⟨_,(@A2 _ _ _ _ _ (Ay (Nn Z06 hr (Bc Ad) (Ka (v:= .ref Z5) rfl T.Z5b rfl) (A0 (pv 0) (A0 (pv 1) (A0 (pv 2) A3)))))
  (@A4 _ _ _ (D9 (pv 0) (pv 3) rfl))),?_⟩
 walk_at "st";have line:=Aa;walk_at "go";refine ⟨Z1,dx,hq,T.Ze,T.Zy,T.Zv,T.Zj,T.Zw,h1,h2,fun H1 la sb1 hla nlq0 hq1 hla1=>?_⟩
 have nsq:sd≠q':=fun e=>by rw [e,hq]at hsd;cases hsd
 have hsd1:=sb1 _ _ hsd nsq
 have nlq:la≠q':=fun e=>by rw [e,hq1]at hla1;cases hla1
 rename_i rest hrest;subst hrest;walk_at "go";refine ⟨Z1,dx,_,hq1,T.Ze,T.Zz,by rw [J4y];decide,?_⟩;walk_at "go";exact q _ la (fun b o e nb=>by rw [A5 nb];exact sb1 _ _ e nb) hla ⟨la,sd,rfl,(fun e=>by rw [e,hsd]at hla;cases hla),⟨dx,A1⟩,by rw [A5 nlq];exact hla1,by rw [A5 nsq];exact hsd1⟩
theorem Z35{f:Addr}{fd:FuncData}(F:Fun K "number_ask" "Ranked.number_ask" Z0c f fd)(T:Txt K mg Z2 Z3 Z4 Z6 Z5 Z0 Z1):Al P w K mg base CX0 1 f fd ["self","name"] (Dz Z1):=by
 have sc:A9 ["self","name"] ["self","name"] (A7 Z0c):=by walk_at "sc"
 refine F.ok sc (fun vs H Q E h=>?_) (fun cdv A outer s H vs Q E hr h=>?_)
 · obtain ⟨_,_,_,_,_,_,_,rfl,_⟩:=h;rfl
 obtain ⟨q',p,n,M,s,z,kv,rfl,hh,hl,q⟩:=h
 refine ⟨_,(@A2 _ _ _ _ _ (O7 (pv 0) A8 Yr)
  (@A4 _ _ _ (Ek (D3 hr) (As (pv 0) rfl) (pv 1) (As (pv 0) rfl) rfl))),?_⟩
 walk_at "st";have line:=Aa;obtain ⟨la,sd,hM,nls,⟨dx,ho⟩,hla,hsd⟩:=hh
 have hM2:M=[q',la,sd]∧True:=⟨hM,trivial⟩
 clear hM
 have nsd:sd≠q':=fun e=>by rw [e,ho]at hsd;cases hsd
 have nq1:q'≠la:=fun e=>by rw [e,hla]at ho;cases ho
 walk_at "go";refine ⟨Z1,dx,_,ho,T.Ze,T.Zj,_,M0,s.k,rfl,dx,_,ho,by rw [J54];decide,?_⟩;have ho1:upd H q' (.ins Z1 dx (rf4 p n (s.k+1) la sd)) q'=some (.ins Z1 dx (rf4 p n (s.k+1) la sd)):=A1
 have hla1:upd H q' (.ins Z1 dx (rf4 p n (s.k+1) la sd)) la=some (.dK s.la):=by rw [A5 nq1.symm];exact hla
 have kp1:Kp M H (upd H q' (.ins Z1 dx (rf4 p n (s.k+1) la sd))):=(Kp.of (A6.refl H)).upd (by rw [hM2.1];simp)
 have hsd1:upd H q' (.ins Z1 dx (rf4 p n (s.k+1) la sd)) sd=some (.dK kv):=by rw [A5 nsd];exact hsd
 rename_i rest hrest;show rest _ (upd H q' (.ins Z1 dx (rf4 p n (s.k+1) la sd)));generalize upd H q' (.ins Z1 dx (rf4 p n (s.k+1) la sd))=H1 at ho1 hla1 kp1 hsd1 ⊢;have hlp:=Cj s.la (Sum.inr z:Key) (V.int (s.k+1));subst hrest;walk_at "go";exact ⟨Z1,dx,_,ho1,T.Ze,T.Zj,_,M0,Z1,dx,_,ho1,T.Ze,T.Zw,_,Tg,la,rfl,_,M4.k (k:=Sum.inr z) hla1 (by omega),q _ (kp1.upd (by rw [hM2.1];simp)) ⟨la,sd,hM2.1,nls,⟨dx,by rw [A5 nq1];exact ho1⟩,A1,by rw [A5 nls.symm];exact hsd1⟩⟩
theorem Z4k{f:Addr}{fd:FuncData}(F:Fun K "asked" "Ranked.asked" Z1i f fd)(T:Txt K mg Z2 Z3 Z4 Z6 Z5 Z0 Z1)(Z0e:DefM P w K mg base CX0 1 Z1 "number_ask" ["self","name"] (Dz Z1)):Al P w K mg base CX0 3 f fd ["self","name"] (Ey Z1):=by
 have sc:A9 ["self","name"] ["self","name"] (A7 Z1i):=by walk_at "sc"
 refine F.ok sc (fun vs H Q E h=>?_) (fun cdv A outer s H vs Q E hr h=>?_)
 · obtain ⟨_,_,_,_,_,_,_,_,_,rfl,_⟩:=h;rfl
 obtain ⟨kv,q',p,n,M,s,l,ns,z,rfl,hh,hi,hz,hns,q⟩:=h;refine ⟨_,(@A4 _ _ _ (Ay (B4 Z0e T.Ze hr (Bc Ad) (pv 0) (A0 (pv 1) A3)))),?_⟩;walk_at "st";have line:=Aa;have hh':PAt kv Z1 H M q' p n s:=hh;obtain ⟨la,sd,hM,nls,⟨dx,ho⟩,hla,hsd⟩:=id hh';have hlen:=hi.a.len;walk_at "go";exact ⟨dx,_,ho,by rfl,p,n,M,s,kv,hh',by omega,fun H1 kp1 h1=>q H1 kp1 h1⟩
theorem Z3v{f:Addr}{fd:FuncData}(F:Fun K "last_of" "Ranked.last_of" Z0u f fd)(T:Txt K mg Z2 Z3 Z4 Z6 Z5 Z0 Z1):Al P w K mg base CX0 1 f fd ["self","name"] (Im Z1):=by
 have sc:A9 ["self","name"] ["self","name"] (A7 Z0u):=by walk_at "sc"
 refine F.ok sc (fun vs H Q E h=>?_) (fun cdv A outer s H vs Q E hr h=>?_)
 · obtain ⟨_,_,_,_,_,_,_,_,rfl,_⟩:=h;rfl
 obtain ⟨q',p,n,M,s,z,i,kv,rfl,hh,hv,q⟩:=h;refine ⟨_,(@A4 _ _ _ (@Ae _ _ _ _ (Qn (D3 hr) (As (pv 0) rfl) (pv 1) A8 ⟨rfl,rfl,rfl,rfl⟩))),?_⟩;walk_at "st";have line:=Aa;obtain ⟨la,sd,hM,nls,⟨dx,ho⟩,hla,hsd⟩:=hh;clear hM;walk_at "go";exact ⟨Z1,dx,_,ho,T.Ze,T.Zw,_,Tg,la,rfl,.inl ⟨_,.inl hla⟩,some (.int i),by rw [← hv];exact Cq.k (k:=Sum.inr z) hla,q⟩
theorem Z4s{f:Addr}{fd:FuncData}(F:Fun K "rank" "Planned.rank" Z04 f fd)(T:Txt K mg Z2 Z3 Z4 Z6 Z5 Z0 Z1)(Z0v:DefM P w K mg base CX0 1 Z1 "last_of" ["self","name"] (Im Z1)):Al P w K mg base CX0 2 f fd ["self","name"] (Eg Z1):=by
 have sc:A9 ["self","name"] ["self","name"] (A7 Z04):=by walk_at "sc"
 refine F.ok sc (fun vs H Q E h=>?_) (fun cdv A outer s H vs Q E hr h=>?_)
 · obtain ⟨_,_,_,_,_,_,_,_,rfl,_⟩:=h;rfl
 obtain ⟨q',p,n,M,s,z,i,kv,rfl,hh,hv,q⟩:=h;refine ⟨_,(@A4 _ _ _ (@Ae _ _ _ _ (By (A0 (Yc (Tl (Pe (D3 hr) (B4 Z0v T.Ze hr (Bc Ad) (pv 0) (A0 (pv 1) A3)) (As (pv 0) rfl))) A8 A8) A3)))),?_⟩;walk_at "st";have line:=Aa;obtain ⟨la,sd,hM,nls,⟨dx,ho⟩,hla,hsd⟩:=id hh;clear hM;walk_at "go";refine ⟨dx,_,ho,by rfl,p,n,M,s,i,kv,hh,hv,Z1,dx,_,ho,T.Ze,T.Zz,_,Y7,sd,rfl,_,Cq.k (k:=Sum.inl i) hsd,?_⟩;unfold stB at q;split
 · rename_i hb
   rw [if_pos hb]at q;exact ⟨by omega,q⟩
 · rename_i hb
   rw [if_neg hb]at q;exact ⟨by omega,q⟩
theorem Z4a{f:Addr}{fd:FuncData}(F:Fun K "choice" "Ranked.choice" Z15 f fd)(T:Txt K mg Z2 Z3 Z4 Z6 Z5 Z0 Z1)(Z1w:J2t P w K mg base 2 Z1 "rank" ["self","name"] (Eg Z1)):Al P w K mg base CX0 4 f fd ["self","lying"] (Dy Z1 K):=by
 have sc:A9 ["self","lying"] ["self","lying"] (A7 Z15):=by walk_at "sc"
 refine F.ok sc (fun vs H Q E h=>?_) (fun cdv A outer s H vs Q E hr h=>?_)
 · obtain ⟨_,_,_,_,_,_,_,_,_,_,_,rfl,_⟩:=h;rfl
 obtain ⟨kv,hkv,q',p,a,n,M,s,l,ns,z,rfl,hh,hm,hl,ha,ham,hns,hll,hcn,q⟩:=h;refine ⟨_,(@A4 _ _ _ (@Ae _ _ _ _ (Wn Z1w T.Ze hr rfl T.Z43 (by first | rfl | decide+kernel) (A0 (pv 1) A3) (pv 0) rfl))),?_⟩;walk_at "st";have line:=Aa;have hh':PAt kv Z1 H M q' p n s:=hh;obtain ⟨la,sd,hM,nls,⟨dx,ho⟩,hla,hsd⟩:=id hh';clear hM;have hm':LM ns z s l:=hm;have q2:∀H',Kp M H H'→PAt kv Z1 H' M q' p n s→Q (.str (lmin (rk4 kv s) l)) H':=q;clear q hm;walk_at "go";refine ⟨dx,_,ho,by rfl,l.map V.str,SqL.of ha,by simpa using hl,fun i=>[rk4 kv s (l.getD i Str.empty)],fun i v hv H1 sm1=>?_,fun v H1 sm1 hv=>?_⟩
 · rw [List.getElem?_map]at hv
   cases hz:l[i]? with
   | none=>rw [hz]at hv;cases hv
   | some u=>
   rw [hz]at hv;cases hv;obtain ⟨j,hj,_⟩:=hm'.i.v u (List.mem_of_getElem? hz);refine ⟨p,n,M,s,u,rfl,j,kv,(T4 kv Z1).dep (fun m _ o=>sm1 m o) hh',hj,fun t ht=>⟨A6.new ht,?_⟩⟩;rw [A1];show _=some (HO.tup [V.int (rk4 kv s (l.getD i Str.empty))]);rw [List.getD_eq_getElem?_getD,hz];show _=some (HO.tup [V.int (rk4 kv s u)]);unfold rk4;rw [Nt hj]
 · rw [J7i,List.length_map,List.getElem?_map]at hv
   have hb:=We (fun i=>rk4 kv s (l.getD i Str.empty)) (l.length - 1);have hl0:0 < l.length:=List.length_pos_iff.mpr hl
   have hlt:argBest (fun i j=>decide (rk4 kv s (l.getD i Str.empty) < rk4 kv s (l.getD j Str.empty))) (l.length - 1) < l.length:=by omega
   have e:v=V.str (lmin (rk4 kv s) l):=by
    unfold lmin;rw [List.getD_eq_getElem?_getD,List.getElem?_eq_getElem hlt];rw [List.getElem?_eq_getElem hlt]at hv;exact (Option.some.inj hv).symm
   rw [e];exact q2 _ (Kp.of sm1) ((T4 kv Z1).dep (fun m _ o=>sm1 m o) hh')
theorem Z4t{f:Addr}{fd:FuncData}(F:Fun K "gone" "Rule.gone" Z1t f fd)(T:Txt K mg Z2 Z3 Z4 Z6 Z5 Z0 Z1):Al P w K mg base CX0 3 f fd ["self","name"] (Ik Z1):=by
 have sc:A9 ["self","name"] ["self","name"] (A7 Z1t):=by walk_at "sc"
 refine F.ok sc (fun vs H Q E h=>?_) (fun cdv A outer s H vs Q E hr h=>?_)
 · obtain ⟨_,_,_,_,_,_,_,_,_,rfl,_⟩:=h;rfl
 obtain ⟨kv,q',p,n,M,s,l,ns,z,rfl,hh,hm,hl,hns,q⟩:=h;refine ⟨_,(@A4 _ _ _ Kb),?_⟩;walk_at "st";walk_at "go";exact q _ (Kp.of (A6.refl _)) hh
theorem Z4u{f:Addr}{fd:FuncData}(F:Fun K "came" "Rule.came" Z1u f fd)(T:Txt K mg Z2 Z3 Z4 Z6 Z5 Z0 Z1):Al P w K mg base CX0 1 f fd ["self","name"] (Il Z1):=by
 have sc:A9 ["self","name"] ["self","name"] (A7 Z1u):=by walk_at "sc"
 refine F.ok sc (fun vs H Q E h=>?_) (fun cdv A outer s H vs Q E hr h=>?_)
 · obtain ⟨_,_,_,_,_,_,_,_,_,rfl,_⟩:=h;rfl
 obtain ⟨kv,q',p,n,M,s,l,ns,z,rfl,hh,hm,hz,hzl,hns,q⟩:=h;refine ⟨_,(@A4 _ _ _ Kb),?_⟩;walk_at "st";walk_at "go";exact q _ (Kp.of (A6.refl _)) hh
theorem Z5g{f:Addr}{fd:FuncData}(F:Fun K "make_room" "make_room" Z2x f fd)(T:Txt K mg Z2 Z3 Z4 Z6 Z5 Z0 Z1)(Zs:DefM P w K mg base CX0 1 Z3 "room_left" ["self"] (Ky Z3))(Z27:DefM P w K mg base CX0 1 Z3 "lying" ["self"] (Kx Z3))(Z0w:DefM P w K mg base CX0 4 Z0 "choice" ["self","lying"] (Dx Z0 K))(Z17:DefM P w K mg base CX0 4 Z1 "choice" ["self","lying"] (Dy Z1 K))(Z2o:DefM P w K mg base CX0 2 Z3 "cast" ["self","name"] (L0 Z3))(Z1l:DefM P w K mg base CX0 3 Z0 "gone" ["self","name"] (Ic Z0))(Z1x:DefM P w K mg base CX0 3 Z1 "gone" ["self","name"] (Ik Z1)):Al P w K mg base CX0 5 f fd ["rule","shelf","room"] (L4 (TB (C5.mk Z0 Z1)) K Z2 Z3):=by
 have sc:A9 ["rule","shelf","room","went","name"] ["rule","shelf","room"] (A7 Z2x):=by walk_at "sc"
 refine F.ok sc (fun vs H Q E h=>?_) (fun cdv A outer s H vs Q E hr h=>?_)
 · obtain ⟨_,_,_,_,_,_,_,_,_,_,_,_,_,rfl,_⟩:=h;rfl
 obtain ⟨w8,H0,q',p,sh,d,M,n,need,ts,ls,s,z,rfl,hr',hm,hn,hll,htl,hcn,q⟩:=h
 refine ⟨_,(@A2 _ _ _ _ _ (Am (i:=3) sc.nd rfl (Or.inl rfl) (@K1 _ _ _ _ A3))
  (@A2 _ _ _ _ _ (Kc PassesOwn.never (Az Qf (Gx Zs T.Zd hr (Bc Ad) (pv 1)) (pv 2) (nomark _))
   (@A2 _ _ _ _ _ (Am (i:=4) sc.nd rfl (Or.inl rfl) (L3 (C:=fun w=>(TB (C5.mk Z0 Z1) w).C) (sp:=fun w=>Dm (TB (C5.mk Z0 Z1) w) K) (fun w=>by cases w;exact (Z0w.imp (fun _ _ _ _ h=>⟨_,by assumption,h⟩));exact (Z17.imp (fun _ _ _ _ h=>⟨_,by assumption,h⟩))) (fun w=>by cases w;exact T.Z7;exact T.Ze) hr (Bc Ad) (pv 0) (A0 (Gx Z27 T.Zd hr (Bc Ad) (pv 1)) A3)))
   (@A2 _ _ _ _ _ (Ay (B4 Z2o T.Zd hr (Bc Ad) (pv 1) (A0 (pv 4) A3)))
   (@A2 _ _ _ _ _ (Ay (L3 (C:=fun w=>(TB (C5.mk Z0 Z1) w).C) (sp:=fun w=>Gm (TB (C5.mk Z0 Z1) w)) (fun w=>by cases w;exact (Z1l.imp (fun _ _ _ _ h=>⟨_,h⟩));exact (Z1x.imp (fun _ _ _ _ h=>⟨_,h⟩))) (fun w=>by cases w;exact T.Z7;exact T.Ze) hr (Bc Ad) (pv 0) (A0 (pv 4) A3)))
   (@A4 _ _ _ (Ay (Kh PySem.F.plainAttrs_list PySem.F.slot_list_append PySem.F.type_list_append C4 (pv 3) (A0 (pv 4) A3))))))))
  (@A4 _ _ _ (@Ae _ _ _ _ (pv 3))))),?_⟩
 walk_at "st";have line:=Aa;walk_at "go";intro w hw;have kp0:Kp (d::M) H (upd H w (.lst [])):=Kp.of (A6.new hw);have hr0:=hr'.same (A6.new (o:= .lst []) hw);have hww:upd H w (.lst []) w=some (.lst []):=A1;have nw:=hr'.free hw;have nw0:H0 w=none:=Ah hr'.sm hw;have nwm:w∉M:=fun h=>nw (List.mem_cons_of_mem _ h);have nwd:w≠d:=fun h=>nw (by rw [h];simp);generalize upd H w (.lst [])=H1 at kp0 hr0 hww ⊢;rename_i rest hrest;subst hrest;walk_at "go";rename_i rest hrest;refine J3x (m0:=ls.length) (fun m σ H5=>∃(ls':Ly) (s':((TB (C5.mk Z0 Z1) w8)).St) (wl:List Str) (v4:Option V),σ=[some (V.ref q'),some (V.ref sh),some (V.int need),some (V.ref w),v4]∧Kp (d::M) H H5∧H5 w=some (.lst (wl.map V.str))∧Da (TB (C5.mk Z0 Z1) w8) K Z2 Z3 H0 H5 q' p sh d M n ts ls' s'∧((TB (C5.mk Z0 Z1) w8)).mid (ts.map (·.1)) n z s' (lyN ls')∧gf (TB (C5.mk Z0 Z1) w8) (rm ts) n need s (lyN ls) []=gf (TB (C5.mk Z0 Z1) w8) (rm ts) n need s' (lyN ls') wl∧wl.length+ls'.length≤60∧((TB (C5.mk Z0 Z1) w8)).cnt s'≤300∧m=ls'.length) ⟨ls,s,[],none,rfl,kp0,hww,hr0,hm,rfl,by simpa using hll,hcn,rfl⟩ ?_
 clear hr' hr0 hww kp0 hm;rintro m' σ H5 ⟨ls',s',wl,v4,rfl,kp5,hw5,hr5,hm5,hf5,hl5,hcn5,rfl⟩;have hleft:=hr5.left;obtain ⟨⟨dx,ho⟩,hd,hnd⟩:=id hr5.shf;walk_at "go";refine ⟨dx,_,ho,by rfl,_,_,_,_,hr5.shf,fun H6 sm6=>?_⟩;have hr6:=hr5.same sm6;have hw6:=sm6 _ _ hw5;have kp6:=kp5.trans (Kp.of sm6)
 by_cases hlt:need≤n - N41.sm (rm ts) (lyN ls')
 · rw [if_neg (by rw [hleft];omega)]
   have e1:gf (TB (C5.mk Z0 Z1) w8) (rm ts) n need s (lyN ls) []=(s',lyN ls',wl)∧True:=⟨hf5.trans (Np hlt),trivial⟩
   clear hf5;subst hrest;walk_at "go";exact q w ls' H6 kp6 hw (by rw [e1.1];exact hw6) (by rw [e1.1]) (by rw [e1.1];exact hr6)
 · rw [if_pos (by rw [hleft];omega)]
   clear hrest;refine ⟨_,fun σ' H7 h=>h,?_⟩;have hLne:lyN ls'≠[]:=fun e=>hlt (by rw [e,N41.Lj];omega);obtain ⟨⟨dx6,ho6⟩,hd6,hnd6⟩:=id hr6.shf;obtain ⟨dq,fs,hoq,o1,o2,o3,hec,o4⟩:=Aj.obj _ hr6.h;clear hleft ho hd hnd hr5 hw5 kp5 sm6;walk_at "go";refine ⟨w8,dq,_,hoq,hec,dx6,_,ho6,by rfl,_,_,_,_,hr6.shf,fun l hl=>?_⟩;have sml:A6 H6 (upd H6 l (.lst ((lyN ls').map V.str))):=A6.new hl;have hl7:upd H6 l (.lst ((lyN ls').map V.str)) l=some (.lst ((lyN ls').map V.str)):=A1;have nl:=hr6.free hl;have hr7:=hr6.same sml;have hw7:=sml _ _ hw6;have kp7:=kp6.trans (Kp.of sml);generalize upd H6 l (.lst ((lyN ls').map V.str))=H7 at hr7 hw7 kp7 hl7 ⊢;clear hr6 hw6 kp6 hoq ho6 hd6 hnd6 sml hl hec;obtain ⟨hf,hm8⟩:=Aj.i_pick _ hm5 hLne;have hcn6:=Nat.le_trans (Nat.le_trans (Aj.c_gone (TB (C5.mk Z0 Z1) w8) n (Aj.pick _ n s' (lyN ls')).1 (Aj.pick _ n s' (lyN ls')).2) (Aj.c_pick (TB (C5.mk Z0 Z1) w8) n s' (lyN ls'))) hcn5
   have hlen:(lyN ls').length≤60:=by unfold lyN;rw [List.length_map];omega
   refine ⟨p,n,M,s',hr7.h,lyN ls',ts.map (·.1),z,hm5,hLne,hl7,fun h=>nl (List.mem_cons_of_mem _ h),by rw [List.length_map];exact htl,hlen,hcn5,fun H8 kp8 hh8=>?_⟩;have hr8:=hr7.rule kp8 hh8;have hw8:=kp8 _ _ nwm hw7;have kp08:=kp7.trans (L1 (d:=d) kp8)
   have hfin':gf (TB (C5.mk Z0 Z1) w8) (rm ts) n need s (lyN ls) []=gf (TB (C5.mk Z0 Z1) w8) (rm ts) n need (Aj.gone _ n (Aj.pick _ n s' (lyN ls')).1 (Aj.pick _ n s' (lyN ls')).2) ((lyN ls').erase (Aj.pick _ n s' (lyN ls')).2) (wl++[(Aj.pick _ n s' (lyN ls')).2])∧True:=⟨hf5.trans (J2m hlt hf),trivial⟩
   clear hf5 hr7 hw7 kp7 kp8 hh8 hl7;obtain ⟨⟨dx8,ho8⟩,hd8,hnd8⟩:=id hr8.shf;rename_i rest2 hrest2;subst hrest2;walk_at "go";refine ⟨dx8,_,ho8,by rfl,_,_,_,_,hr8.shf,hf,fun H9 sb9 hs9=>?_⟩;have hr9:=hr8.shelf sb9 hs9 hr8.ok.drop;have hw9:=sb9 _ _ hw8 nwd;obtain ⟨dq9,fs9,hoq9,o5,o6,o7,o8,heg,o9⟩:=Aj.obj _ hr9.h;have hnames:=Ll (z:=(Aj.pick _ n s' (lyN ls')).2) hr8.ok.nd;rename_i rest2 hrest2;subst hrest2;walk_at "go";refine ⟨w8,dq9,_,hoq9,heg,p,n,M,s',lyN ls',rfl,hr9.h,ts.map (·.1),z,hm5,hLne,by rw [List.length_map];exact htl,fun H10 kp10 hh10=>?_⟩;have hr10:=hr9.rule kp10 hh10;have hw10:=kp10 _ _ nwm hw9;have kp010:Kp (d::M) H H10:=(kp08.trans (Ox sb9 (by simp))).trans (L1 kp10);clear hr8 hs9 hh10 sb9 kp10 hw8 hw9 kp08 hd8 hnd8 ho8 hoq9 hr9 heg;have hel:=List.length_erase_of_mem hf;have hlp:0 < (lyN ls').length:=List.length_pos_of_mem hf
   have hll5:(lyN ls').length=ls'.length∧True:=⟨by unfold lyN;rw [List.length_map],trivial⟩
   have hll6:(lyD ls' (Aj.pick _ n s' (lyN ls')).2).length+1≤ls'.length:=by
    have e:(lyN (lyD ls' (Aj.pick _ n s' (lyN ls')).2)).length=(lyD ls' (Aj.pick _ n s' (lyN ls')).2).length:=by unfold lyN;rw [List.length_map]
    rw [hnames]at e;omega
   rw [← hnames]at hm8 hfin';rename_i rest2 hrest2;subst hrest2;walk_at "go";generalize hfe:(Aj.pick _ n s' (lyN ls')).2=f at hf hm8 hfin' hnames hel hr10 hll6 hcn6 ⊢
   have hwl:(wl++[f]).length=wl.length+1:=by rw [List.length_append];rfl
   refine ⟨.inl ⟨rfl,_,SqL.of hw10⟩,w,_,_,rfl,rfl,hw10,by rw [List.length_map];omega,(lyD ls' f).length,by omega,J2l kp010 hw,lyD ls' f,_,wl++[f],by rw [A1,List.map_append];rfl,hr10.lst (fun b o e nb=>by rw [A5 nb];exact e) hw10 nwm nw0,hm8,hfin'.1,by omega,hcn6,rfl⟩
theorem Z62{f:Addr}{fd:FuncData}(F:Fun K "row_of" "row_of" Z4b f fd)(T:Txt K mg Z2 Z3 Z4 Z6 Z5 Z0 Z1)(Z18:DefM P w K mg base CX0 3 Z0 "asked" ["self","name"] (Es Z0))(Z1m:DefM P w K mg base CX0 3 Z1 "asked" ["self","name"] (Ey Z1))(Zm:DefM P w K mg base CX0 1 Z3 "holds" ["self","name"] (E9 Z3))(Za:DefM P w K mg base CX0 2 Z2 "room_of" ["self","name"] (Cy K Z2))(Z32:Def P w K mg base CX0 5 "make_room" ["rule","shelf","room"] (L4 (TB (C5.mk Z0 Z1)) K Z2 Z3))(Z33:DefM P w K mg base CX0 4 Z3 "put" ["self","name"] (Mm K Z2 Z3))(Z1n:DefM P w K mg base CX0 1 Z0 "came" ["self","name"] (Ie Z0))(Z1y:DefM P w K mg base CX0 1 Z1 "came" ["self","name"] (Il Z1)):Al P w K mg base CX0 6 f fd ["rule","shelf","name"] (Mq (TB (C5.mk Z0 Z1)) K Z2 Z3):=by
 have sc:A9 ["rule","shelf","name","went"] ["rule","shelf","name"] (A7 Z4b):=by walk_at "sc"
 refine F.ok sc (fun vs H Q E h=>?_) (fun cdv A outer s H vs Q E hr h=>?_)
 · obtain ⟨_,_,_,_,_,_,_,_,_,_,_,_,rfl,_⟩:=h;rfl
 obtain ⟨w8,H0,q',p,sh,d,M,n,ts,ls,s,z,rfl,hr',hi,nd,htl,hz,hzn,hcn,q⟩:=h
 refine ⟨_,(@A2 _ _ _ _ _ (Ay (L3 (C:=fun w=>(TB (C5.mk Z0 Z1) w).C) (sp:=fun w=>Ec (TB (C5.mk Z0 Z1) w)) (fun w=>by cases w;exact (Z18.imp (fun _ _ _ _ h=>⟨_,h⟩));exact (Z1m.imp (fun _ _ _ _ h=>⟨_,h⟩))) (fun w=>by cases w;exact T.Z7;exact T.Ze) hr (Bc Ad) (pv 0) (A0 (pv 2) A3)))
  (@A2 _ _ _ _ _ (Bd (Bi (B4 Zm T.Zd hr (Bc Ad) (pv 1) (A0 (pv 2) A3)))
   (@A4 _ _ _ (@Ae _ _ _ _ (By (A0 (pv 2) (A0 G8 (A0 (@K1 _ _ _ _ A3) A3))))))
   Ak)
  (@A2 _ _ _ _ _ (Am (i:=3) sc.nd rfl (Or.inl rfl) (Ac Z32 hr rfl Ad (A0 (pv 0) (A0 (pv 1) (A0 (B4 Za T.Zh hr (Bc Ad) (As (pv 1) rfl) (A0 (pv 2) A3)) A3)))))
  (@A2 _ _ _ _ _ (Ay (B4 Z33 T.Zd hr (Bc Ad) (pv 1) (A0 (pv 2) A3)))
  (@A2 _ _ _ _ _ (Ay (L3 (C:=fun w=>(TB (C5.mk Z0 Z1) w).C) (sp:=fun w=>Gn (TB (C5.mk Z0 Z1) w)) (fun w=>by cases w;exact (Z1n.imp (fun _ _ _ _ h=>⟨_,h⟩));exact (Z1y.imp (fun _ _ _ _ h=>⟨_,h⟩))) (fun w=>by cases w;exact T.Z7;exact T.Ze) hr (Bc Ad) (pv 0) (A0 (pv 2) A3)))
  (@A4 _ _ _ (@Ae _ _ _ _ (By (A0 (pv 2) (A0 G8 (A0 (pv 3) A3))))))))))),?_⟩
 walk_at "st";have line:=Aa;obtain ⟨dq,fs,hoq,o1,o2,hea,o3⟩:=Aj.obj _ hr'.h;walk_at "go";refine ⟨w8,dq,_,hoq,hea,p,n,M,s,hr'.h,lyN ls,ts.map (·.1),hi,hz,by rw [List.length_map];exact htl,fun H1 kp1 hh1=>?_⟩;have hr1:=hr'.rule kp1 hh1;obtain ⟨⟨dx,ho⟩,hd,hnd⟩:=id hr1.shf;have fresh:∀b,H1 b=none→H b=none:=fun b e=>Mo kp1 (fun hm=>hr1.free e (List.mem_cons_of_mem _ hm)) e
 have hlsl:(lyN ls).length≤60:=by
  have:=N25.Uk hr1.ok.nd hr1.ok.s;rw [List.length_map]at this;omega
 clear hoq hea;rename_i rest hrest;subst hrest;walk_at "go";refine ⟨dx,_,ho,by rfl,_,_,_,_,hr1.shf,?_⟩
 by_cases hzL:z∈lyN ls
 · have e:gask (TB (C5.mk Z0 Z1) w8) (rm ts) n (s,lyN ls) z=((Aj.asked _ n s z,lyN ls),(z,true,[])):=by unfold gask;rw [if_pos hzL]
   rw [if_pos hzL];rw [e]at q;refine ⟨by omega,fun g hg=>⟨by omega,fun t ht=>?_⟩⟩;have s1:A6 H1 (upd H1 g (.lst [])):=A6.new hg;have k1:upd H1 g (.lst []) g=some (.lst (([]:List Str).map V.str)):=A1;generalize upd H1 g (.lst [])=H2 at s1 k1 ht ⊢;have s2:A6 H2 (upd H2 t (.tup [V.str z,V.bl true,V.ref g])):=A6.new ht;exact q t g ls _ (L1 (kp1.trans (Kp.of (s1.trans s2)))) (fresh t (Ah s1 ht)) (fresh g hg) A1 (s2 _ _ k1) rfl (hr1.same (s1.trans s2))
 rw [if_neg hzL]
 have eh:gask (TB (C5.mk Z0 Z1) w8) (rm ts) n (s,lyN ls) z=((Aj.came _ n (gf (TB (C5.mk Z0 Z1) w8) (rm ts) n (rm ts z) (Aj.asked _ n s z) (lyN ls) []).1 z,(gf (TB (C5.mk Z0 Z1) w8) (rm ts) n (rm ts z) (Aj.asked _ n s z) (lyN ls) []).2.1++[z]),(z,false,(gf (TB (C5.mk Z0 Z1) w8) (rm ts) n (rm ts z) (Aj.asked _ n s z) (lyN ls) []).2.2)):=by unfold gask;rw [if_neg hzL]
 rw [eh]at q;clear eh;have hm1:=Aj.i_mid _ hi hz hzL;obtain ⟨hI,hne,hsub,hnd2,hwl⟩:=J2n (R:=rm ts) (n:=n) (need:=rm ts z) _ _ _ [] rfl hm1 hzn;obtain ⟨dy,e,kvs,h1,h2,h3,h4,h5⟩:=Ag.has hr1.x.at;rename_i rest hrest;subst hrest;walk_at "go";refine ⟨Z3,dx,_,ho,T.Zd,T.Z01,_,Ou,_,rfl,dy,flds e,h1,by rfl,_,rfl,ts,hr1.x.at,nd,hz,w8,H0,p,d,M,n,ts,ls,_,hr1,z,hm1,hzn,by unfold lyN at hlsl;rw [List.length_map]at hlsl;exact hlsl,htl,Nat.le_trans (Aj.c_ask (TB (C5.mk Z0 Z1) w8) n s z) (by omega),fun g ls2 H2 kp2 hg hg2 hln2 hr2=>?_⟩;obtain ⟨⟨dx2,ho2⟩,hd2,hnd2'⟩:=id hr2.shf;have kp02:Kp (d::M) H H2:=(L1 kp1).trans kp2;have ngo:=hr1.free hg;have ngd:g≠d:=fun h=>ngo (by rw [h];simp);have ngm:g∉M:=fun h=>ngo (List.mem_cons_of_mem _ h);have hnl:z∉lyN ls2:=fun h=>hzL (hsub z (by rw [← hln2];exact h))
 have hlen2:ls2.length≤60:=by
  have e1:(lyN ls2).length=ls2.length:=by unfold lyN;rw [List.length_map]
  rw [hln2]at e1;omega
 have hleft2:=hr2.left;rw [hln2]at hleft2;generalize gf (TB (C5.mk Z0 Z1) w8) (rm ts) n (rm ts z) (Aj.asked _ n s z) (lyN ls) []=F at hr2 hg2 q hne hI hleft2 hln2;obtain ⟨s2,l2,w2⟩:=F;simp only at hr2 hg2 q hne hI hleft2 hln2;clear hr1 hh1 kp1 h1 h2 h3 h4 h5 ho hd hnd hsub hnd2 hwl;rename_i rest hrest;subst hrest;walk_at "go";refine ⟨dx2,_,ho2,by rfl,_,_,_,_,hr2.shf,ts,hr2.x,nd,by omega,hz,rm ts z,fun t ht e=>?_,hnl,by omega,fun H3 sb3 hs3=>?_⟩
 · obtain ⟨i,hi'⟩:=List.getElem?_of_mem ht
   rw [← e,Wc nd hi']
 have hr3:=hr2.shelf sb3 hs3 (hr2.ok.put hnl hz);obtain ⟨dq3,fs3,hoq3,o4,o5,o6,o7,o8,hec,o9⟩:=Aj.obj _ hr3.h;have hg3:=sb3 _ _ hg2 ngd
 have hl3:lyN (ls2++[(z,rm ts z)])=l2++[z]∧True:=⟨by unfold lyN at hln2 ⊢;rw [List.map_append,hln2];rfl,trivial⟩
 rw [hln2]at hnl;rename_i rest hrest;subst hrest;walk_at "go";refine ⟨w8,dq3,_,hoq3,hec,p,n,M,s2,hr3.h,l2,ts.map (·.1),hI,hz,hnl,by rw [List.length_map];exact htl,fun H4 kp4 hh4=>?_⟩;have hr4:=hr3.rule kp4 hh4;have hg4:=kp4 _ _ ngm hg3;have kp04:Kp (d::M) H H4:=(kp02.trans (Ox sb3 (by simp))).trans (L1 kp4);rename_i rest hrest;subst hrest;walk_at "go";intro t ht;exact q t g _ _ (kp04.trans (Kp.of (A6.new ht))) (Mo kp04 (hr4.free ht) ht) (fresh g hg) A1 (A6.new ht _ _ hg4) hl3.1 (hr4.same (A6.new ht))
theorem Z5u{f:Addr}{fd:FuncData}(F:Fun K "book_of" "book_of" Z3l f fd)(T:Txt K mg Z2 Z3 Z4 Z6 Z5 Z0 Z1)(Zq:Def P w K mg base CX0 4 "check_asks" ["stock","asks","places"] (N41.Dj K Z2))(Z2p:U6 P w K mg base CX0 4 "Shelf" Z3 ["self","stock","places"] (Kw Z3))(Z4l:Def P w K mg base CX0 6 "row_of" ["rule","shelf","name"] (Mq (TB (C5.mk Z0 Z1)) K Z2 Z3)):Al P w K mg base CX0 7 f fd ["rule","asks"] (Ee (TB (C5.mk Z0 Z1)) K Z2 Z3):=by
 have sc:A9 ["rule","asks","shelf"] ["rule","asks"] (A7 Z3l):=by walk_at "sc"
 refine F.ok sc (fun vs H Q E h=>?_) (fun cdv A outer s H vs Q E hr h=>?_)
 · obtain ⟨_,_,_,_,_,_,_,_,_,_,rfl,_⟩:=h;rfl
 obtain ⟨w8,H0,q',p,a,M,n,ts,ys,s0,rfl,hh,hi0,hsto,sm0,hm0,nd,htl,ha,ham,hlen,hin,hrm,hn1,hn2,hcn,q⟩:=h
 refine ⟨_,(@A2 _ _ _ _ _ (Ay (Ac Zq hr rfl Ad (A0 (As (pv 0) rfl) (A0 (pv 1) (A0 (As (pv 0) rfl) A3)))))
  (@A2 _ _ _ _ _ (Am (i:=2) sc.nd rfl (Or.inr rfl) (Gh Z2p hr rfl (Bc Ad) (A0 (As (pv 0) rfl) (A0 (As (pv 0) rfl) A3))))
  (@A4 _ _ _ (@Ae _ _ _ _ (Ko "name" [0,2] rfl rfl (C3 (pv 1)) (fun b=>(Ac Z4l hr rfl Ad (A0 (pv 1) (A0 (pv 2) (A0 (pv 0) A3)))))))))),?_⟩
 walk_at "st";have line:=Aa
 have hcl:∀w,Cls K (TB (C5.mk Z0 Z1) w).C:=fun w=>by cases w;exact T.Z7;exact T.Ze
 have hns:∀w,Ar K (TB (C5.mk Z0 Z1) w).C "stock":=fun w=>by cases w;exact T.Zu;exact T.Zy
 have hnp:∀w,Ar K (TB (C5.mk Z0 Z1) w).C "places":=fun w=>by cases w;exact T.Zr;exact T.Zv
 obtain ⟨dq,fs,hoq,hst_,hpl_,o1⟩:=Aj.obj _ hh;walk_at "go";refine ⟨_,dq,_,hoq,hcl w8,hns w8,_,hst_,_,dq,_,hoq,hcl w8,hnp w8,_,hpl_,p,rfl,n,rfl,ts,hsto.same sm0,nd,ys,ha,hlen,hin,hrm,hn1,hn2,fun H1 sm1=>?_⟩;have hh1:=Pw sm1 hh;have ha1:=sm1.seq ha;obtain ⟨dq1,fs1,hoq1,hst1,hpl1,o2⟩:=Aj.obj _ hh1;clear hoq hst_ hpl_;rename_i rest hrest;subst hrest;walk_at "go";refine ⟨_,dq1,_,hoq1,hcl w8,hns w8,_,hst1,_,dq1,_,hoq1,hcl w8,hnp w8,_,hpl1,fun sh dx hsh hdx hne=>⟨dx,p,rfl,n,rfl,A1,hn1,hn2,fun H2 d sb hdn hs2=>?_⟩⟩;have sm2:=J2h hsh hdx sb;have hd0:=J2i hdn;have hd1:H0 d=none:=Ah (sm0.trans sm1) hd0;have nsh:sh∉M:=fun h=>Aj.live _ hh1 _ h hsh;have ndm:d∉M:=fun h=>Aj.live _ hh1 _ h hd0
 have hr2:Da (TB (C5.mk Z0 Z1) w8) K Z2 Z3 H0 H2 q' p sh d M n ts [] s0:=⟨Pw sm2 hh1,hs2,hsto,(sm0.trans sm1).trans sm2,hm0,hd1,nsh,ndm,OkL.nil⟩
 have ha2:=sm2.seq ha1;clear hdn sb hdx hsh hne hh1 hoq1 hs2 hst1 hpl1;rename_i rest hrest;subst hrest;walk_at "go";refine ⟨⟨_,ha2⟩,?_⟩
 have kpM:∀{H':Hp},Kp (d::M) H2 H'→Kp M H1 H':=fun {H'} k b o nb e=>k b o (fun hm=>by
  rcases List.mem_cons.mp hm with e1 | e1
  · rw [e1,hd0]at e;cases e
  · exact nb e1) (sm2 _ _ e)
 refine Kq ys.length fun b D hD=>⟨fun i zs H'=>∃(as gs:List Addr) (ls':Ly),zs=as.map V.ref∧as.length=i∧gs.length=i∧i≤ys.length∧H' D=some (.lst zs)∧Kp (d::M) H2 H'∧lyN ls'=(gst (TB (C5.mk Z0 Z1) w8) (rm ts) n s0 ys i).2∧Da (TB (C5.mk Z0 Z1) w8) K Z2 Z3 H0 H' q' p sh d M n ts ls' (gst (TB (C5.mk Z0 Z1) w8) (rm ts) n s0 ys i).1∧gs.Nodup∧∀(j:Nat) a g,as[j]?=some a→gs[j]?=some g→a∉d::M∧g∉d::M∧a≠D∧g≠D∧H' a=some (.tup [.str (NR.grow (TB (C5.mk Z0 Z1) w8) (rm ts) n s0 ys j).1,.bl (NR.grow (TB (C5.mk Z0 Z1) w8) (rm ts) n s0 ys j).2.1,.ref g])∧H' g=some (.lst ((NR.grow (TB (C5.mk Z0 Z1) w8) (rm ts) n s0 ys j).2.2.map V.str))∧H1 a=none∧H1 g=none,⟨[],[],[],rfl,rfl,rfl,Nat.zero_le _,A1,Kp.of (A6.new hD),rfl,hr2.same (A6.new hD),List.nodup_nil,by simp⟩,?_,?_,?_⟩
 · rintro i zs H' ⟨as,gs,ls',_,_,_,_,h,_⟩
   exact h
 · rintro zs H' ⟨as,gs,ls',rfl,e1,e2,_,hDD,kp,hln,hr3,hnd,hall⟩
   have ha3:=J2s ha1 (kpM kp) ham;refine ⟨⟨_,ha3,by rw [List.length_map];exact Nat.le_refl _⟩,?_⟩;have hrl:=Cz (T:=(TB (C5.mk Z0 Z1) w8)) (R:=rm ts) (n:=n) (s0:=s0) (ys:=ys) (i:=ys.length)
   have hra:∀j,j < ys.length→(grows (TB (C5.mk Z0 Z1) w8) (rm ts) n s0 ys ys.length)[j]?=some (NR.grow (TB (C5.mk Z0 Z1) w8) (rm ts) n s0 ys j):=fun j hj=>by unfold grows;rw [List.getElem?_map,List.getElem?_range hj];rfl
   refine q D as gs H' ((Kp.of sm1).trans (kpM kp)) hDD (fun i a hi=>?_) ⟨SqL.of hDD,by rw [e1,hrl],by rw [e2,hrl],fun i a g r h1 h2 h3=>?_⟩ hr3.h (Ah sm1 (Ah sm2 hD)) (fun hm=>?_) hnd (fun i a g h1 h2=>?_)
   · have hil:i < as.length:=(List.getElem?_eq_some_iff.mp hi).1
     obtain ⟨_,_,_,_,k1,_⟩:=hall i a _ hi (List.getElem?_eq_getElem (show i < gs.length by omega));exact ⟨_,k1⟩
   · have hil:i < as.length:=(List.getElem?_eq_some_iff.mp h1).1
     obtain ⟨_,_,_,_,k1,k2,_⟩:=hall i a g h1 h2;rw [hra i (by omega)]at h3;cases h3;exact ⟨SqT.of k1,SqL.of k2⟩
   · obtain ⟨j,hj⟩:=List.mem_iff_getElem?.mp hm
     have hjl:j < gs.length:=(List.getElem?_eq_some_iff.mp hj).1;obtain ⟨_,_,_,h4,_⟩:=hall j _ _ (List.getElem?_eq_getElem (show j < as.length by omega)) hj;exact h4 rfl
   · obtain ⟨_,h2',_,_,k1,k2,z1,z2⟩:=hall i a g h1 h2
     exact ⟨Ah sm1 z1,Ah sm1 z2,fun hm=>h2' (List.mem_cons_of_mem _ hm),k1,k2⟩
 · rintro i zs H' hi ⟨as,gs,ls',rfl,e1,e2,_,hDD,kp,hln,hr3,hnd,hall⟩
   have ha3:=J2s ha1 (kpM kp) ham;have hz:=List.getElem?_eq_getElem hi;generalize ys[i]'hi=z at hz;refine ⟨⟨_,V.str z,ha3,by rw [List.getElem?_map,hz];rfl⟩,fun x H3 ⟨e3,ex⟩=>?_⟩;subst e3;have hx:=ex _ ha3;rw [List.getElem?_map,hz]at hx;cases hx;have hsi:=Dh (R:=rm ts) hi0 hin hrm i (by omega);have hzm:=List.mem_of_getElem? hz;have e1':=Nat.le_of_eq e1;have e1'':=Nat.le_of_eq e1.symm;have e2':=Nat.le_of_eq e2;have e2'':=Nat.le_of_eq e2.symm;clear e1 e2;have hrowi:=Wl (T:=(TB (C5.mk Z0 Z1) w8)) (R:=rm ts) (n:=n) (s0:=s0) hz;have hss:=Cr (T:=(TB (C5.mk Z0 Z1) w8)) (R:=rm ts) (n:=n) (s0:=s0) hz
   have hpair:(gst (TB (C5.mk Z0 Z1) w8) (rm ts) n s0 ys i)=((gst (TB (C5.mk Z0 Z1) w8) (rm ts) n s0 ys i).1,lyN ls')∧True:=⟨by rw [hln],trivial⟩
   walk_at "go";refine ⟨w8,H0,p,d,M,n,ts,ls',_,hr3,by rw [hln];exact hsi.i,nd,htl,hin z hzm,hrm z hzm,Nat.le_trans (Wm i (by omega)) (by omega),fun t g ls2 H4 kp4 ht hg ht4 hg4 hln4 hr4=>?_⟩;rw [← hpair.1]at ht4 hg4 hln4 hr4;have hD3:D∉d::M:=hr2.free hD;have hDD4:=kp4 _ _ hD3 hDD
   have htD:t≠D:=fun e=>by rw [e,hDD]at ht;cases ht
   have hgD:g≠D:=fun e=>by rw [e,hDD]at hg;cases hg
   have ht1:H1 t=none:=Mo (kpM kp) (fun hm=>hr3.free ht (List.mem_cons_of_mem _ hm)) ht;have hg1:H1 g=none:=Mo (kpM kp) (fun hm=>hr3.free hg (List.mem_cons_of_mem _ hm)) hg
   have hndg:(gs++[g]).Nodup:=by
    rw [List.nodup_append];refine ⟨hnd,by simp,fun x hx y hy e=>?_⟩;obtain ⟨j,hj⟩:=List.mem_iff_getElem?.mp hx;have hjl:j < gs.length:=(List.getElem?_eq_some_iff.mp hj).1;obtain ⟨_,_,_,_,_,k2,_⟩:=hall j _ _ (List.getElem?_eq_getElem (show j < as.length by omega)) hj;rw [e,List.mem_singleton.mp hy,hg]at k2;cases k2
   refine Gg hDD4 (by rw [List.length_map];omega) hi ⟨as++[t],by rw [List.map_append];rfl,by rw [List.length_append];simp only [List.length_cons,List.length_nil];omega,gs++[g],by rw [List.length_append];simp only [List.length_cons,List.length_nil];omega,hi,A1,J2l (kp.trans kp4) hD,ls2,by rw [hss];exact hln4,?_,hndg,fun j a' g' h1 h2=>?_⟩
   · rw [hss]
     exact hr4.lst (fun b o e nb=>by rw [A5 nb];exact e) hDD4 (fun h=>hD3 (List.mem_cons_of_mem _ h)) (Ah hr2.sm hD)
   · rcases Mn h1 with ⟨l1,c1⟩ | ⟨l1,c1⟩
     · rcases Mn h2 with ⟨l2,c2⟩ | ⟨l2,c2⟩
       · obtain ⟨n1,n2,n3,n4,k1,k2,z1,z2⟩:=hall j a' g' c1 c2
         refine ⟨n1,n2,n3,n4,?_,?_,z1,z2⟩
         · rw [A5 n3];exact kp4 _ _ n1 k1
         · rw [A5 n4];exact kp4 _ _ n2 k2
       · omega
     · rcases Mn h2 with ⟨l2,c2⟩ | ⟨l2,c2⟩
       · omega
       · rw [c1,c2,show j=i by omega,hrowi]
         refine ⟨hr3.free ht,hr3.free hg,htD,hgD,?_,?_,ht1,hg1⟩
         · rw [A5 htD];exact ht4
         · rw [A5 hgD];exact hg4
theorem Z50{f:Addr}{fd:FuncData}(F:Fun K "check_rooms" "check_rooms" Z25 f fd)(T:Txt K mg Z2 Z3 Z4 Z6 Z5 Z0 Z1)(Za:DefM P w K mg base CX0 2 Z2 "room_of" ["self","name"] (Cy K Z2)):Al P w K mg base CX0 4 f fd ["stock","asks"] (G0 K Z2):=by
 have sc:A9 ["stock","asks","name"] ["stock","asks"] (A7 Z25):=by walk_at "sc"
 refine F.ok sc (fun vs H Q E h=>?_) (fun cdv A outer s H vs Q E hr h=>?_)
 · obtain ⟨_,_,_,_,rfl,_⟩:=h;rfl
 obtain ⟨p,a,ts,ys,rfl,hs,nd,hS,hy,hr1,q⟩:=h
 refine ⟨_,(@A4 _ _ _ (Co PassesOwn.never rfl (C3 (pv 1)) (Ax (i:=2) sc.nd rfl (Or.inl rfl))
  (@A4 _ _ _ (Bd (Az O6 (B4 Za T.Zh hr (Bc Ad) (pv 0) (A0 (pv 2) A3)) A8 (nomark _))
   (@A4 _ _ _ Bj)
   Ak)))),?_⟩
 walk_at "st";have line:=Aa;obtain ⟨dy,e,kvs,h1,h2,h3,h4,h5⟩:=Ag.has hs;walk_at "go";refine ⟨⟨_,hS⟩,?_⟩;refine Gv (xs:=ys.map V.str) (fun i σ H'=>∃(v1:Option V),σ=[some (V.ref p),some (V.ref a),v1]∧H'=H) ⟨none,rfl,rfl⟩ (fun i σ H' _ h_=>by obtain ⟨v1,_,rfl⟩:=h_;exact hS) ?_ ?_
 · rintro i v σ H' hv ⟨v1,rfl,rfl⟩
   obtain ⟨y,hyy,rfl⟩:=List.mem_map.mp (List.mem_of_getElem? hv);walk_at "go";exact ⟨dy,flds e,h1,by rfl,ts,hs,nd,hy y hyy,by rw [if_neg (fun h=>h (hr1 y hyy))];trivial⟩
 · rintro σ H' ⟨v1,rfl,rfl⟩
   exact q
theorem Z5v{f:Addr}{fd:FuncData}(F:Fun K "gaps_of" "gaps_of" Z3m f fd)(T:Txt K mg Z2 Z3 Z4 Z6 Z5 Z0 Z1)(Z1z:Def P w K mg base CX0 1 "earlier_asks" ["asks"] (Eo K)):Al P w K mg base CX0 2 f fd ["asks"] (Io K):=by
 have sc:A9 ["asks"] ["asks"] (A7 Z3m):=by walk_at "sc"
 refine F.ok sc (fun vs H Q E h=>?_) (fun cdv A outer s H vs Q E hr h=>?_)
 · obtain ⟨_,_,rfl,_⟩:=h;rfl
 obtain ⟨a,ys,rfl,hS,hl,q⟩:=h;refine ⟨_,(@A4 _ _ _ (@Ae _ _ _ _ (Xq "later" "earlier" [] rfl rfl (Mi rfl T.Z02 (A0 (Ac Z1z hr rfl Ad (A0 (pv 0) A3)) A3)) (fun b=>(Az Ux (pv 1) Mx (nomark _))) (fun b=>(By (A0 (pv 1) (A0 (pv 0) A3))))))),?_⟩;walk_at "st";have line:=Aa;walk_at "go";refine ⟨ys,hS,hl,fun p H1 hp sm1 hp1=>⟨⟨_,SqL.of hp1⟩,Te (fun i=>(ear ys i).isSome) (fun i=>((((ear ys i).getD 0:Nat):Int),(i:Int))) (SqL.of hp1) (by rw [List.length_map,List.length_range];omega) (fun b i x H' QT hx sm qt=>?_) (fun b i x H' Q' hx hpi sm q'=>?_) (fun D as H2 hD sm2 hD2 hP=>?_)⟩⟩
 · have hil:i < ys.length:=by have:=(List.getElem?_eq_some_iff.mp hx).1;rw [List.length_map,List.length_range]at this;exact this
   rw [List.getElem?_map,List.getElem?_range hil]at hx
   have ex:O2 ys i=x∧True:=⟨Option.some.inj hx,trivial⟩
   clear hx;walk_at "go";rw [← ex.1];unfold O2
   cases he:ear ys i with
   | none=>rw [he]at qt;exact qt _ (A6.refl _)
   | some j=>rw [he]at qt;exact qt _ (A6.refl _)
 · have hil:i < ys.length:=by have:=(List.getElem?_eq_some_iff.mp hx).1;rw [List.length_map,List.length_range]at this;exact this
   rw [List.getElem?_map,List.getElem?_range hil]at hx
   cases he:ear ys i with
   | none=>rw [he]at hpi;cases hpi
   | some j=>
   have ex:x=V.int j:=by rw [← Option.some.inj hx];show O2 ys i=_;unfold O2;rw [he];rfl
   rw [he]at q';subst ex;clear hx;walk_at "go";exact fun t ht=>q' t _ (A6.new ht) A1
 · rw [List.length_map,List.length_range,Nx]at hP
   refine q D as H2 (Ah sm1 hD) (sm1.trans sm2) hD2 ⟨by rw [hP.1,List.length_map],fun k t g hk hg=>?_⟩;exact hP.2 k t _ hk (by rw [List.getElem?_map,hg];rfl)
theorem Z5n{f:Addr}{fd:FuncData}(F:Fun K "stays_of" "stays_of" Z39 f fd)(T:Txt K mg Z2 Z3 Z4 Z6 Z5 Z0 Z1):Al P w K mg base CX0 1 f fd ["gaps","taken"] (G1):=by
 have sc:A9 ["gaps","taken","stays","gap","used"] ["gaps","taken"] (A7 Z39):=by walk_at "sc"
 refine F.ok sc (fun vs H Q E h=>?_) (fun cdv A outer s H vs Q E hr h=>?_)
 · obtain ⟨_,_,_,_,_,rfl,_⟩:=h;rfl
 obtain ⟨p,b,as,gs,tk,rfl,hp,hT,hB,hl,hgl,q⟩:=h
 refine ⟨_,(@A2 _ _ _ _ _ (Am (i:=2) sc.nd rfl (Or.inl rfl) E5)
  (@A2 _ _ _ _ _ (Co PassesOwn.never rfl (Pr rfl T.Z2s (A0 (pv 0) (A0 (pv 1) A3))) (Ga rfl (B3 (Ax (i:=3) sc.nd rfl (Or.inl rfl)) (B3 (Ax (i:=4) sc.nd rfl (Or.inl rfl)) Dq)))
   (@A4 _ _ _ (Bd (Bi (pv 4))
    (@A4 _ _ _ (Ek (D3 hr) (pv 2) (Ai Bo (@B1 _ _ _ _ _ _ _ Ba (pv 3) A8 (fun _ _=>rfl)) A8) G8 rfl))
    Ak)))
  (@A4 _ _ _ (@Ae _ _ _ _ (pv 2))))),?_⟩
 walk_at "st";have line:=Aa;walk_at "go";intro d hd;have sm0:A6 H (upd H d (.dK [])):=A6.new hd;have hd0:upd H d (.dK []) d=some (.dK []):=A1;generalize upd H d (.dK [])=H1 at sm0 hd0 ⊢;rename_i rest hrest;subst hrest;walk_at "go";refine ⟨⟨_,SqL.of (sm0 _ _ hp)⟩,⟨_,SqL.of (sm0 _ _ hB)⟩,?_⟩;rename_i rest hrest;refine Wb (xs:=as.map V.ref) (ys:=tk.map V.bl) (by rw [List.length_map,List.length_map,hT.1,hl]) (fun i σ H'=>∃(v3 v4:Option V),σ=[some (V.ref p),some (V.ref b),some (V.ref d),v3,v4]∧A6 H H'∧H' d=some (.dK (stk gs tk i))) ⟨none,none,rfl,sm0,hd0⟩ (fun i σ H' _ ⟨_,_,_,sm,_⟩=>⟨SqL.of (sm _ _ hp),SqL.of (sm _ _ hB)⟩) ?_ ?_
 · clear hrest
   rintro i x y σ H' t hx hy ⟨v3,v4,rfl,sm,hd'⟩ ht;rw [List.getElem?_map]at hx hy
   cases ha:as[i]? with
   | none=>rw [ha]at hx;cases hx
   | some c=>
   cases hb:tk[i]? with
   | none=>rw [hb]at hy;cases hy
   | some u=>
   rw [ha]at hx;rw [hb]at hy;cases hx;cases hy
   have hil:i < gs.length:=by rw [← hT.1];exact (List.getElem?_eq_some_iff.mp ha).1
   have hc:=sm _ _ (hT.2 i c _ ha (show gs[i]?=some (gs.getD i (0,0)) by rw [List.getD_eq_getElem?_getD,List.getElem?_eq_getElem hil];rfl))
   have es:stk gs tk (i+1)=if u then Ct (stk gs tk i) (Sum.inl (((gs.getD i (0,0)).1:Int)+1)) (.bl true) else stk gs tk i:=by
    show (if tk.getD i false then _ else _)=_;rw [List.getD_eq_getElem?_getD,hb];rfl
   have hsl:=Q1 (gs:=gs) (tk:=tk) (i:=i);rw [es];generalize gs.getD i (0,0)=g at hc ⊢;have s1:A6 H' (upd H' t (.tup [V.ref c,V.bl u])):=A6.new ht;have ht1:upd H' t (.tup [V.ref c,V.bl u]) t=some (.tup [V.ref c,V.bl u]):=A1;have hc':upd H' t (.tup [V.ref c,V.bl u]) c=some (.tup [V.int g.1,V.int g.2]):=s1 _ _ hc;have hd1:=s1 _ _ hd';have sm1:=sm.trans s1;generalize upd H' t (.tup [V.ref c,V.bl u])=H2 at ht1 hc' hd1 sm1 ⊢;clear hc hd' s1 ht es
   cases u with
   | false=>
    walk_at "go";exact ⟨_,SqT.of ht1,rfl,_,_,rfl,_,_,rfl,rfl,_,rfl,by rw [if_neg (by decide)];exact ⟨sm1,hd1⟩⟩
   | true=>
    walk_at "go";refine ⟨_,SqT.of ht1,rfl,_,_,rfl,_,_,rfl,rfl,_,rfl,?_⟩;rw [if_pos rfl];exact B5 (SqT.of hc') (Aq (j:=0) rfl) ⟨_,rfl,_,M4.k (k:=Sum.inl _) hd1 (by omega),Bw sm1 hd,A1⟩
 · rintro σ H' ⟨v3,v4,rfl,sm,hd'⟩
   rw [List.length_map,hT.1]at hd';subst hrest;walk_at "go";exact q d H' hd sm hd'
theorem Z5o{f:Addr}{fd:FuncData}(F:Fun K "rises_of" "rises_of" Z3a f fd)(T:Txt K mg Z2 Z3 Z4 Z6 Z5 Z0 Z1):Al P w K mg base CX0 1 f fd ["heights"] (E1):=by
 have sc:A9 ["heights"] ["heights"] (A7 Z3a):=by walk_at "sc"
 refine F.ok sc (fun vs H Q E h=>?_) (fun cdv A outer s H vs Q E hr h=>?_)
 · obtain ⟨_,_,_,rfl,_⟩:=h;rfl
 obtain ⟨a,h,n,rfl,ha,hh,hn,q⟩:=h;refine ⟨_,(@A4 _ _ _ (@Ae _ _ _ _ (Sq "low" "high" [] rfl rfl (Pr rfl T.Z2s (A0 (pv 0) (A0 (Qi V3 (pv 0) (P8 A8) J3o) A3))) (fun b=>(By (A0 (Ai Ei (pv 1) (pv 0)) (A0 A8 A3))))))),?_⟩;walk_at "st";have line:=Aa;walk_at "go";refine ⟨_,SqL.of ha,fun p hp=>?_⟩;rw [J99];have sm0:A6 H (upd H p (.lst ((h.drop 1).map V.int))):=A6.new hp;have hp0:upd H p (.lst ((h.drop 1).map V.int)) p=some (.lst ((h.drop 1).map V.int)):=A1;generalize upd H p (.lst ((h.drop 1).map V.int))=H1 at sm0 hp0 ⊢;refine ⟨⟨_,SqL.of (sm0 _ _ ha)⟩,⟨_,SqL.of hp0⟩,J34 (prV (at' h)) (by rw [List.length_map,List.length_map,List.length_drop];omega) (SqL.of (sm0 _ _ ha)) (SqL.of hp0) (by rw [List.length_map,List.length_drop];omega) (fun b i x z H' Q' hx hz sm q'=>?_) fun D bs H2 hD sm2 hD2 hl2 hT2=>?_⟩
 · rw [List.getElem?_map]at hx hz
   have hil:i < h.length - 1:=by
    cases e:(h.drop 1)[i]? with
    | none=>rw [e]at hz;cases hz
    | some v=>have:=(List.getElem?_eq_some_iff.mp e).1;rw [List.length_drop]at this;exact this
   have ex:x=V.int (at' h i):=by
    rw [List.getElem?_eq_getElem (by omega)]at hx;unfold at';rw [List.getD_eq_getElem?_getD,List.getElem?_eq_getElem (by omega)];exact (Option.some.inj hx).symm
   have ez:z=V.int (at' h (i+1)):=by
    rw [List.getElem?_drop,Nat.add_comm 1 i,List.getElem?_eq_getElem (by omega)]at hz;unfold at';rw [List.getD_eq_getElem?_getD,List.getElem?_eq_getElem (by omega)];exact (Option.some.inj hz).symm
   subst ex;subst ez;clear hx hz;walk_at "go";exact fun t ht=>q' t _ (A6.new ht) A1
 · rw [List.length_map,List.length_drop]at hl2
   exact q D bs H2 (Ah sm0 hD) (sm0.trans sm2) hD2 (by omega) hT2
theorem Z5w{f:Addr}{fd:FuncData}(F:Fun K "best_of" "best_of" Z3n f fd)(T:Txt K mg Z2 Z3 Z4 Z6 Z5 Z0 Z1)(Zq:Def P w K mg base CX0 4 "check_asks" ["stock","asks","places"] (N41.Dj K Z2))(Z28:Def P w K mg base CX0 4 "check_rooms" ["stock","asks"] (G0 K Z2))(Z3w:Def P w K mg base CX0 2 "gaps_of" ["asks"] (Io K))(Zl:DefM P w K mg base CX0 2 Z2 "cost_of" ["self","name"] (Dk K Z2))(Z3x:Def P w K mg base CX0 4 "flow_of" ["points","jumps","most"] (Ij))(Z3c:Def P w K mg base CX0 1 "stays_of" ["gaps","taken"] (G1))(Z20:U6 P w K mg base CX0 6 "Planned" Z1 ["self","stock","places","stays"] (Ez Z1))(Z1a:Def P w K mg base CX0 7 "book_of" ["rule","asks"] (Ee (TB (C5.mk Z0 Z1)) K Z2 Z3))(Z3y:Def P w K mg base CX0 6 "paid_by" ["stock","book"] (Gk 432 (⟨174,25,174,57⟩:Pos) (("paid_by"++".<locals>.")++"<lambda>") K Z2))(Z3d:Def P w K mg base CX0 1 "rises_of" ["heights"] (E1)):Al P w K mg base CX0 8 f fd ["stock","asks","places"] (Ip 432 (⟨174,25,174,57⟩:Pos) (("paid_by"++".<locals>.")++"<lambda>") K Z2 Z1):=by
 have sc:A9 ["stock","asks","places","gaps","jumps","flow","book"] ["stock","asks","places"] (A7 Z3n):=by walk_at "sc"
 refine F.ok sc (fun vs H Q E h=>?_) (fun cdv A outer s H vs Q E hr h=>?_)
 · obtain ⟨_,_,_,_,_,rfl,_⟩:=h;rfl
 obtain ⟨st,a,P',ts,ys,rfl,hst,nd,htl,hA,hl,hin,hr1,hc0,hP1,hP2,hL,q⟩:=h
 refine ⟨_,(@A2 _ _ _ _ _ (Ay (Ac Zq hr rfl Ad (A0 (pv 0) (A0 (pv 1) (A0 (pv 2) A3)))))
  (@A2 _ _ _ _ _ (Ay (Ac Z28 hr rfl Ad (A0 (pv 0) (A0 (pv 1) A3))))
  (@A2 _ _ _ _ _ (Bd (Az Gb (Af Au rfl T.Zt PySem.boot_len (A0 (pv 1) A3)) (Gw rfl T.Z0z) (nomark _))
   (@A4 _ _ _ Bj)
   Ak)
  (@A2 _ _ _ _ _ (Am (i:=3) sc.nd rfl (Or.inl rfl) (Ac Z3w hr rfl Ad (A0 (pv 1) A3)))
  (@A2 _ _ _ _ _ (J1w (i:=4) "earlier" "later" [0,1] sc.nd rfl rfl rfl rfl (C3 (pv 3)) (fun b=>(By (A0 (Ai Bo (pv 0) A8) (A0 (pv 1) (A0 (B4 Zl T.Zh hr (Bc Ad) (pv 2) (A0 (@B1 _ _ _ _ _ _ _ Cc (pv 3) (pv 1) (fun _ _=>rfl)) A3)) A3))))))
  (@A2 _ _ _ _ _ (Am (i:=5) sc.nd rfl (Or.inl rfl) (Ac Z3x hr rfl Ad (A0 (Ai Bo (Af Au rfl T.Zt PySem.boot_len (A0 (pv 1) A3)) A8) (A0 (pv 4) (A0 (Ai Ei (pv 2) A8) A3)))))
  (@A2 _ _ _ _ _ (Am (i:=6) sc.nd rfl (Or.inl rfl) (Ac Z1a hr rfl Ad (A0 (Gh Z20 hr rfl (Bc Ad) (A0 (pv 0) (A0 (pv 2) (A0 (Ac Z3c hr rfl Ad (A0 (pv 3) (A0 (@B1 _ _ _ _ _ _ _ Ba (pv 5) A8 (fun _ _=>rfl)) A3))) A3)))) (A0 (pv 1) A3))))
  (@A4 _ _ _ (@Ae _ _ _ _ (By (A0 (Ac Z3y hr rfl Ad (A0 (pv 0) (A0 (pv 6) A3))) (A0 (pv 6) (A0 (Ac Z3d hr rfl Ad (A0 (@B1 _ _ _ _ _ _ _ Ba (pv 5) A8 (fun _ _=>rfl)) A3)) A3))))))))))))),?_⟩
 walk_at "st";have line:=Aa;have hS:SqL K H a (ys.map V.str):=SqL.of hA
 have hr1':∀y∈ys,rm ts y≤(P':Int):=fun y hy=>by rw [hr1 y hy];omega
 walk_at "go";refine ⟨ts,hst,nd,ys,hS,by omega,hin,hr1',by omega,by omega,fun H1 sm1=>?_⟩;have hst1:=hst.same sm1;have hS1:=sm1.seq hS;rename_i rest hrest;subst hrest;walk_at "go";refine ⟨ts,hst1,nd,ys,hS1,hin,hr1,?_⟩;rename_i rest hrest;subst hrest;walk_at "go";rw [if_neg (by rw [List.length_map];omega)];rename_i rest hrest;subst hrest;walk_at "go";refine ⟨ys,hS1,by omega,fun g ga H2 hg sm2 hg2 hG2=>?_⟩;have sm02:=sm1.trans sm2;have hst2:=hst.same sm02;have hS2:=sm02.seq hS;have hglen:=Q0 (ys:=ys) (n:=ys.length);have hgal:ga.length=(gps ys ys.length).length:=hG2.1
 have ggp:∀i,i < ga.length→(gps ys ys.length)[i]?=some ((gps ys ys.length).getD i (0,0)):=fun i hi=>by rw [List.getD_eq_getElem?_getD,List.getElem?_eq_getElem (by omega)];rfl
 rename_i rest hrest;subst hrest;walk_at "go";refine ⟨⟨_,SqL.of hg2⟩,Y6 (fun i=>V.int ((gps ys ys.length).getD i (0,0)).1) (fun i=>V.int ((gps ys ys.length).getD i (0,0)).2) (fun i=>jpV (jmp (cst ts) ys ((gps ys ys.length).getD i (0,0)))) (SqL.of hg2) (by omega) (fun i c hc=>hG2.2 i c _ hc (ggp i (List.getElem?_eq_some_iff.mp hc).1)) (fun b i H' Q' hi sm q'=>?_) fun j ja H3 hj sm3 hj3 hjl hJ3=>?_⟩
 · obtain ⟨k1,k2⟩:=L6 (List.mem_of_getElem? (ggp i hi))
   have hst':=hst2.same sm;have hS':=sm.seq hS2;generalize (gps ys ys.length).getD i (0,0)=gi at k1 k2 q' ⊢;have gy:atI (ys.map V.str) (gi.2:Int)=some (V.str (ys.getD gi.2 Str.empty)):=Aq (by rw [List.getElem?_map,N41.Bu k1];rfl);obtain ⟨dy,e,kvs,s1,s2,s3,s4,s5⟩:=Ag.has hst';walk_at "go";exact ⟨dy,flds e,s1,by rfl,Cg hS' gy ⟨ts,_,rfl,hst',nd,hin _ (List.mem_of_getElem? (N41.Bu k1)),by omega,fun t ht=>q' t _ (A6.new ht) A1⟩⟩
 have sm03:=sm02.trans sm3;have hst3:=hst.same sm03;have hS3:=sm03.seq hS
 have hJs:Tf H3 j ja (jps (cst ts) ys ys.length):=⟨hj3,by rw [hjl,hgal,List.length_map],fun k t x hk hx=>by
  have hkl:k < ga.length:=by rw [← hjl];exact (List.getElem?_eq_some_iff.mp hk).1
  rw [List.getElem?_map,ggp k hkl]at hx;cases hx
  exact hJ3 k t hk⟩
 have hok:JOk (ys.length+1) (jps (cst ts) ys ys.length):=jok fun n hn=>hc0 _ (List.mem_of_getElem? (N41.Bu hn));have hg3:=sm3 _ _ hg2;have hG3:=hG2.same sm3;rename_i rest hrest;subst hrest;walk_at "go";refine ⟨ys.length+1,by rw [List.length_map];omega,ja,_,hJs,hok,by rw [List.length_map];omega,by omega,by omega,by omega,fun ft fb fh tk h H4 sm4 hfb hfh hft hfb4 hfh4 hFl hFE hpi=>?_⟩;have sm04:=sm03.trans sm4;have hst4:=hst.same sm04;have hS4:=sm04.seq hS;have hg4:=sm4 _ _ hg3;have hG4:=hG3.same sm4
 have htkl:tk.length=(gps ys ys.length).length:=by rw [hFE.l,List.length_map]
 clear hJs hJ3 hj3 hg3 hG3 hg2 hG2 hst1 hst2 hst3 hS1 hS2 hS3;rename_i rest hrest;subst hrest;walk_at "go";refine B5 (SqT.of hft) (Aq (j:=0) rfl) ?_;refine ⟨fb,rfl,ga,hg4,_,hG4,tk,hfb4,htkl,by omega,fun sd H5 hsd sm5 hsd5 qx dx hqx hdx nqd=>?_⟩;have mo:A6 H5 (upd (upd H5 dx (.own qx)) qx (.ins Z1 dx [])):=N63.Nv hqx hdx;refine ⟨dx,A1,by omega,by omega,_,mo _ _ hsd5,fun H6 la sb6 hla hPA=>?_⟩;have sm6:A6 H5 H6:=N63.Mr hqx hdx sb6
 have hM0:∀k∈[qx,la,sd],H4 k=none:=fun k hk=>by
  simp only [List.mem_cons,List.not_mem_nil,or_false]at hk;rcases hk with e | e | e
  · rw [e];exact Ah sm5 hqx
  · rw [e];exact Ah sm5 (Ah mo hla)
  · rw [e];exact hsd
 have hA4:=sm04 _ _ hA
 have nam:a∉[qx,la,sd]:=fun hk=>by rw [hM0 _ hk]at hA4;cases hA4
 have sm46:=sm5.trans sm6;have hkl:=Q1 (gs:=gps ys ys.length) (tk:=tk) (i:=(gps ys ys.length).length);refine ⟨W5.pl (stk (gps ys ys.length) tk (gps ys ys.length).length) (by omega),H4,st,[qx,la,sd],(P':Int),ts,ys,s20,hPA,N63.li0,hst4,sm46,hM0,nd,htl,SqL.of (sm46 _ _ hA4),nam,by omega,hin,hr1',by omega,by omega,Nat.zero_le _,fun b as gs H7 kp7 hb7 htup7 bk7 at7 hbn hbg hgn hx7=>?_⟩;have sm47:A6 H4 H7:=Kp.same sm46 kp7 hM0;have sm07:=sm04.trans sm47
 have grl:(rwP Z1 ts P' ys tk).length=ys.length:=by unfold rwP;exact Cz
 have hB7:BkP H7 b as gs (rwP Z1 ts P' ys tk):=⟨hb7,bk7.n,bk7.m,fun i c g' r h1 h2 h3=>by
  have hil:i < ys.length:=by rw [← grl];exact (List.getElem?_eq_some_iff.mp h3).1
  have er:r=NR.grow (T4 (stk (gps ys ys.length) tk (gps ys ys.length).length) Z1) (rm ts) P' s20 ys i:=by
   unfold rwP grows at h3;rw [List.getElem?_map,List.getElem?_range hil]at h3;exact (Option.some.inj h3).symm
  rw [er]
  exact ⟨(hx7 i c g' h1 h2).2.2.2.1,(hx7 i c g' h1 h2).2.2.2.2⟩⟩
 have hbn0:H b=none:=Ah (sm04.trans sm46) hbn
 have hasl:as.length=ys.length:=by rw [hB7.ln,grl]
 have hgsl:gs.length=ys.length:=by rw [hB7.m,grl]
 have has0:∀c∈as,H c=none:=fun c hc=>by
  obtain ⟨i,hi⟩:=List.mem_iff_getElem?.mp hc;have hil:=(List.getElem?_eq_some_iff.mp hi).1;exact Ah (sm04.trans sm46) (hx7 i c _ hi (List.getElem?_eq_getElem (by omega))).1
 have hgs0:∀c∈gs,H c=none:=fun c hc=>by
  obtain ⟨i,hi⟩:=List.mem_iff_getElem?.mp hc;have hil:=(List.getElem?_eq_some_iff.mp hi).1;exact Ah (sm04.trans sm46) (hx7 i _ c (List.getElem?_eq_getElem (by omega)) hi).2.1
 have hL7:=T1 sm07 hL;have hst7:=hst.same sm07;have hfh7:=sm47 _ _ hfh4;have hft7:=sm47 _ _ hft
 have hnm:∀r∈bkL as gs (rwP Z1 ts P' ys tk),r.2.1∈ts.map (·.1):=fun r hr=>by
  obtain ⟨i,hi,rfl⟩:=List.mem_map.mp hr;have hi:=List.mem_range.mp hi;show ((rwP Z1 ts P' ys tk).getD i (Str.empty,true,[])).1∈_
  have hr2:(rwP Z1 ts P' ys tk)[i]?=some ((rwP Z1 ts P' ys tk).getD i (Str.empty,true,[])):=by rw [List.getD_eq_getElem?_getD,List.getElem?_eq_getElem hi];rfl
  rw [J39 hr2];exact hin _ (List.mem_of_getElem? (N41.Bu (Up hr2).1))
 clear hx7 bk7 at7 htup7 hb7 kp7 hM0 hPA sb6 hla mo;rename_i rest hrest;subst hrest;walk_at "go";refine ⟨ts,hst7,nd,_,hB7.bk,by rw [J55,grl];omega,hnm,hL7,fun H8 tk8=>?_⟩;obtain ⟨ps0,hps0⟩:=Ml hL7;have odd0:NPb.Odd (.tbl ps0):= .inl ⟨_,rfl⟩;have hB8:=hB7.odd tk8.but hps0 odd0;have hft8:=tk8.tup hL7 hft7;have hfh8:=tk8.lst hL7 hfh7;have tk08:=(Tk.of hL sm07).trans tk8;refine B5 (SqT.of hft8) (Aq (j:=1) rfl) ⟨fh,rfl,h,hfh8,ys.length,hFE.lh,by omega,fun p ps H9 hp sm9 hp9 hpl hp9t=>⟨by omega,fun t ht=>?_⟩⟩;rw [J56];have st9:A6 H9 (upd H9 t (.tup [V.int (Ca (cst ts) (rwP Z1 ts P' ys tk)),V.ref b,V.ref p])):=A6.new ht;have tk09:=tk08.trans (Tk.of tk8.lam sm9);have tk0t:=tk09.trans (Tk.of tk09.lam st9)
 have npg:p∉gs:=fun hm=>by
  obtain ⟨i,hi⟩:=List.mem_iff_getElem?.mp hm;have hil:=(List.getElem?_eq_some_iff.mp hi).1;have:=(hB8.t i _ p _ (List.getElem?_eq_getElem (by omega)) hi (List.getElem?_eq_getElem (by rw [grl];omega))).2;rw [hp]at this;cases this
 have nbp:b≠p:=fun e=>by have:=hB8.L;rw [e,hp]at this;cases this
 exact q t b p as gs ps tk h _ tk0t (tk09.none hL ht) hbn0 (tk08.none hL hp) has0 hgs0 hgn hbg npg nbp A1 (hB8.same (sm9.trans st9)) (st9 _ _ hp9) hpl (fun i c hc=>st9 _ _ (hp9t i c hc)) hFl hFE hpi
theorem Z5h{f:Addr}{fd:FuncData}(F:Fun K "_law_cell_at" "_law_cell_at" Z2y f fd)(T:Txt K mg Z2 Z3 Z4 Z6 Z5 Z0 Z1):Al P w K mg base CX0 1 f fd ["_law_script","_law_k"] (Mg K):=by
 have sc:A9 ["_law_script","_law_k"] ["_law_script","_law_k"] (A7 Z2y):=by walk_at "sc"
 refine F.ok sc (fun vs H Q E h=>?_) (fun cdv A outer s H vs Q E hr h=>?_)
 · obtain ⟨_,_,_,rfl,_⟩:=h;rfl
 obtain ⟨a,ns,k,rfl,hS,h0,hl,q⟩:=h
 refine ⟨_,(@A2 _ _ _ _ _ (Bd (Az Qf (pv 1) (Af Au rfl T.Zt PySem.boot_len (A0 (pv 0) A3)) (nomark _))
  (@A4 _ _ _ (@Ae _ _ _ _ (@B1 _ _ _ _ _ _ _ Cc (pv 0) (pv 1) (fun _ _=>rfl))))
  Ak)
  (@A4 _ _ _ (@Ae _ _ _ _ A8))),?_⟩
 walk_at "st";walk_at "go";rw [List.length_map];split
 · rename_i hk
   exact Cg hS (U1 h0 (J70 (by omega))) q
 · rename_i hk
   rw [List.getD_eq_getElem?_getD,List.getElem?_eq_none (by omega)]at q;walk_at "go";exact q
theorem Z5x{f:Addr}{fd:FuncData}(F:Fun K "_law_whole" "_law_whole" Z3o f fd)(T:Txt K mg Z2 Z3 Z4 Z6 Z5 Z0 Z1):Al P w K mg base CX0 1 f fd ["_law_found"] (Ep):=by
 have sc:A9 ["_law_found"] ["_law_found"] (A7 Z3o):=by walk_at "sc"
 refine F.ok sc (fun vs H Q E h=>?_) (fun cdv A outer s H vs Q E hr h=>?_)
 · obtain ⟨_,rfl,_⟩:=h;rfl
 obtain ⟨i,rfl,q⟩:=h;refine ⟨_,(@A4 _ _ _ (@Ae _ _ _ _ (L9 (Af B9 rfl T.Z9 (by first | rfl | decide+kernel) (A0 (pv 0) (A0 (Cb (v:= .ty "int") rfl T.Z29 (by first | rfl | decide+kernel) rfl) A3))) (L8 (P5 (Af B9 rfl T.Z9 (by first | rfl | decide+kernel) (A0 (pv 0) (A0 (Cb (v:= .ty "bool") rfl T.Z2e (by first | rfl | decide+kernel) rfl) A3)))))))),?_⟩;walk_at "st";walk_at "go";exact q
theorem Z5y{f:Addr}{fd:FuncData}(F:Fun K "_law_names" "_law_names" Z3p f fd)(T:Txt K mg Z2 Z3 Z4 Z6 Z5 Z0 Z1):Al P w K mg base CX0 1 f fd ["_law_cell","_law_many"] (G3):=by
 have sc:A9 ["_law_cell","_law_many","_law_signs","_law_size","_law_at","_law_far","_law_names_here","_law_k","_law_name","_law_j"] ["_law_cell","_law_many"] (A7 Z3p):=by walk_at "sc"
 refine F.ok sc (fun vs H Q E h=>?_) (fun cdv A outer s H vs Q E hr h=>?_)
 · obtain ⟨_,_,rfl,_⟩:=h;rfl
 obtain ⟨i,m,rfl,hm,q⟩:=h
 refine ⟨_,(@A2 _ _ _ _ _ (Am (i:=2) sc.nd rfl (Or.inl rfl) Y9)
  (@A2 _ _ _ _ _ (Am (i:=3) sc.nd rfl (Or.inl rfl) (Ai Bo A8 (Ai C9 (pv 0) A8)))
  (@A2 _ _ _ _ _ (Am (i:=4) sc.nd rfl (Or.inl rfl) (Ai C9 (Ai Ej (pv 0) A8) (pv 3)))
  (@A2 _ _ _ _ _ (Am (i:=5) sc.nd rfl (Or.inl rfl) (Ai C9 (Ai Ej (pv 0) A8) A8))
  (@A2 _ _ _ _ _ (Am (i:=6) sc.nd rfl (Or.inl rfl) (@K1 _ _ _ _ A3))
  (@A2 _ _ _ _ _ (Co PassesOwn.never rfl (Gu rfl T.Z0h (A0 (pv 1) A3)) (Ax (i:=7) sc.nd rfl (Or.inl rfl))
   (@A2 _ _ _ _ _ (Am (i:=8) sc.nd rfl (Or.inl rfl) (Ai J42 (@B1 _ _ _ _ _ _ _ Pa (pv 2) (Ai C9 (Ai Bo (pv 5) (Ai Ej (pv 7) A8)) A8) (fun _ _=>rfl)) (Ai Bo A8 (Ai C9 (pv 7) A8))))
   (@A2 _ _ _ _ _ (Bd (Az Gb (Ai C9 (Ai Ej (pv 0) A8) A8) A8 (nomark _))
    (@A2 _ _ _ _ _ (Am (i:=8) sc.nd rfl (Or.inl rfl) (@B1 _ _ _ _ _ _ _ Pa (pv 2) (Ai C9 (Ai Bo (pv 5) (Ai V7 (pv 7) (Ci Lc rfl T.Z29 (by first | rfl | decide+kernel) (A0 (D1 Iy (pv 4) A8 (nomark _)) A3)))) A8) (fun _ _=>rfl)))
    (@A4 _ _ _ (Co PassesOwn.never rfl (O5 rfl T.Z0h (A0 A8 (A0 (pv 3) A3))) (Ax (i:=9) sc.nd rfl (Or.inl rfl))
     (@A4 _ _ _ (Am (i:=8) sc.nd rfl (Or.inl rfl) (Ai Mz (pv 8) (@B1 _ _ _ _ _ _ _ Pa (pv 2) (Ai C9 (Ai Bo (Ai Bo (pv 5) (Ai J6n A8 (pv 9))) (Ai V7 (pv 7) (Ci Lc rfl T.Z29 (by first | rfl | decide+kernel) (A0 (D1 Iy (pv 9) (pv 4) (nomark _)) A3)))) A8) (fun _ _=>rfl))))))))
    Ak)
   (@A4 _ _ _ (Ay (Kh PySem.F.plainAttrs_list PySem.F.slot_list_append PySem.F.type_list_append C4 (pv 6) (A0 (pv 8) A3)))))))
  (@A4 _ _ _ (@Ae _ _ _ _ (pv 6))))))))),?_⟩
 walk_at "st";have line:=Aa;have bl:=Sf
 have hL1:1≤(1+i % 8).toNat:=by omega
 have hL8:(1+i % 8).toNat≤8:=by omega
 have h8:(1+i % 8)=((1+i % 8).toNat:Int):=by omega
 walk_at "go";rw [h8];clear h8;generalize (1+i % 8).toNat=L at hL1 hL8 ⊢;have ha0:=Int.emod_nonneg (i / 8) (show (L:Int)≠0 by omega);have ha1:=Int.emod_lt_of_pos (i / 8) (show (0:Int) < L by omega);walk_at "go";generalize i / 8 % (L:Int)=at' at ha0 ha1 ⊢;have hf0:=Int.emod_nonneg (i / 192) (show (26:Int)≠0 by decide);have hf1:=Int.emod_lt_of_pos (i / 192) (show (0:Int) < 26 by decide);generalize i / 192 % 26=fr at hf0 hf1 ⊢;intro p hp;walk_at "go";refine Mb (fun k σ H'=>∃(v7 v8 v9:Option V),σ=[some (V.int i),some (V.int m),some (V.str (Str.ofString "abcdefghijklmnopqrstuvwxyz0123456789")),some (V.int L),some (V.int at'),some (V.int fr),some (V.ref p),v7,v8,v9]∧H'=upd H p (.lst ((Iv (decide (0 < i / 64 % 3)) fr at' L k).map V.str))) ⟨none,none,none,rfl,rfl⟩ ?_ ?_
 · rintro k σ H' hk ⟨v7,v8,v9,rfl,rfl⟩
   have hlen:((Iv (decide (0 < i / 64 % 3)) fr at' L k).map V.str).length=k:=by simp [Iv]
   walk_at "go";refine Pm (by omega) (J1f _ (by decide) (by decide)) ?_;walk_at "go";refine ⟨J4g (by omega) (by omega),?_⟩;rw [J4f (by omega),show (1+(k:Int) % 8).toNat=1+k % 8 by omega];rename_i rest hrest;subst hrest;walk_at "go";rename_i rest hrest
   have key:∀(z:List Nat) (w9:Option V),nmB (decide (0 < i / 64 % 3)) fr at' L k=z→rest [some (V.int i),some (V.int m),some (V.str (Str.ofString "abcdefghijklmnopqrstuvwxyz0123456789")),some (V.int L),some (V.int at'),some (V.int fr),some (V.ref p),some (V.int k),some (V.str (tx z)),w9] (upd H p (.lst ((Iv (decide (0 < i / 64 % 3)) fr at' L k).map V.str))):=by
    intro z w9 hz;rw [← hz];clear hz;subst hrest;walk_at "go";refine ⟨.inl ⟨rfl,_,SqL.of A1⟩,p,_,_,rfl,rfl,A1,by rw [hlen];omega,?_⟩;walk_at "go";rw [Xt,List.map_append];rfl
   clear hrest;split
   · rename_i hw
     have ew:nmB (decide (0 < i / 64 % 3)) fr at' L k=nmL (fun j:Nat=>fr+5 * (j:Int)) at' L k:=by unfold nmB;rw [decide_eq_true hw];rfl
     rw [ew]at key;walk_at "go"
     refine ⟨⟨by omega,by split <;> decide⟩,by decide,Pm (by omega) (J1f _ (by decide) (by decide)) ?_⟩
     rw [J63,← J4h];rename_i rest2 hrest2;subst hrest2;walk_at "go";refine Mb (fun j σ H'=>∃(w9:Option V),σ=[some (V.int i),some (V.int m),some (V.str (Str.ofString "abcdefghijklmnopqrstuvwxyz0123456789")),some (V.int L),some (V.int at'),some (V.int fr),some (V.ref p),some (V.int k),some (V.str (tx (nmL (fun j:Nat=>fr+5 * (j:Int)) at' (1+j) k))),w9]∧H'=upd H p (.lst ((Iv (decide (0 < i / 64 % 3)) fr at' L k).map V.str))) ⟨_,rfl,rfl⟩ ?_ ?_
     · rintro j σ H' hj ⟨w9,rfl,rfl⟩
       have hzl:(tx (nmL (fun j:Nat=>fr+5 * (j:Int)) at' (1+j) k)).length≤8:=by rw [J8x,J8z];omega
       rw [show 1+(j+1)=1+j+1 by omega,J1z];generalize nmL (fun j:Nat=>fr+5 * (j:Int)) at' (1+j) k=zl at hzl ⊢;walk_at "go"
       refine ⟨⟨by omega,by split <;> decide⟩,by decide,Pm (by omega) (J1f _ (by decide) (by decide)) ⟨_,rfl,by rw [Md];omega,?_,rfl⟩⟩
       rw [J63,J8w]
     · rintro σ H' ⟨w9,rfl,rfl⟩
       rw [show 1+((L:Int) - 1).toNat=L by omega];exact key _ _ rfl
   · rename_i hw
     exact key _ _ (by unfold nmB;rw [if_neg (by simp;omega)];rfl)
 · rintro σ H' ⟨v7,v8,v9,rfl,rfl⟩
   walk_at "go";exact q p _ _ hp (A6.new hp) A1 (by simp [Iv]) (by simp [Iv]) (Q3 ha0 ha1 (by omega)) (Xs hL1 hL8) (J7o hf0 hf1)
theorem Z59{f:Addr}{fd:FuncData}(F:Fun K "_law_row_good" "_law_row_good" Z2l f fd)(T:Txt K mg Z2 Z3 Z4 Z6 Z5 Z0 Z1):Al P w K mg base CX0 1 f fd ["_law_row","_law_name","_law_lying","_law_places"] (Iq):=by
 have sc:A9 ["_law_row","_law_name","_law_lying","_law_places"] ["_law_row","_law_name","_law_lying","_law_places"] (A7 Z2l):=by walk_at "sc"
 refine F.ok sc (fun vs H Q E h=>?_) (fun cdv A outer s H vs Q E hr h=>?_)
 · obtain ⟨_,_,_,_,_,_,_,_,rfl,_⟩:=h;rfl
 obtain ⟨t,g,ly,P',z,b,l,L,rfl,ht,hg,hly,hb,hL,hl,q⟩:=h
 refine ⟨_,(@A2 _ _ _ _ _ (Bd (PW.pt (Iw (Bx (Bi (Af B9 rfl T.Z9 (by first | rfl | decide+kernel) (A0 (pv 0) (A0 (Cb (v:= .ty "tuple") rfl T.Z2d (by first | rfl | decide+kernel) rfl) A3))))) (Iw (Az O6 (Af Au rfl T.Zt PySem.boot_len (A0 (pv 0) A3)) A8 (nomark _)) (Iw (Bx (Bi (Af B9 rfl T.Z9 (by first | rfl | decide+kernel) (A0 (@B1 _ _ _ _ _ _ _ Ba (pv 0) A8 (fun _ _=>rfl)) (A0 (Cb (v:= .ty "str") rfl T.Z36 (by first | rfl | decide+kernel) rfl) A3))))) (L7 (Az O6 (@B1 _ _ _ _ _ _ _ Ba (pv 0) A8 (fun _ _=>rfl)) (pv 1) (nomark _)))))))
  (@A4 _ _ _ (@Ae _ _ _ _ G8))
  Ak)
  (@A2 _ _ _ _ _ (Bd (PW.pt (Iw (Bx (Bi (Af B9 rfl T.Z9 (by first | rfl | decide+kernel) (A0 (@B1 _ _ _ _ _ _ _ Ba (pv 0) A8 (fun _ _=>rfl)) (A0 (Cb (v:= .ty "bool") rfl T.Z2e (by first | rfl | decide+kernel) rfl) A3))))) (Iw (Az O6 (@B1 _ _ _ _ _ _ _ Ba (pv 0) A8 (fun _ _=>rfl)) (D1 X8 (pv 1) (pv 2) (by with_unfolding_all rfl)) (nomark _)) (L7 (Bx (Bi (Af B9 rfl T.Z9 (by first | rfl | decide+kernel) (A0 (@B1 _ _ _ _ _ _ _ Ba (pv 0) A8 (fun _ _=>rfl)) (A0 (Cb (v:= .ty "list") rfl T.Z0k (by first | rfl | decide+kernel) rfl) A3)))))))))
   (@A4 _ _ _ (@Ae _ _ _ _ G8))
   Ak)
  (@A4 _ _ _ (@Ae _ _ _ _ (D1 Iy (Af Au rfl T.Zt PySem.boot_len (A0 (@B1 _ _ _ _ _ _ _ Ba (pv 0) A8 (fun _ _=>rfl)) A3)) (Ci Lc rfl T.Z29 (by first | rfl | decide+kernel) (A0 (L9 (P5 (@B1 _ _ _ _ _ _ _ Ba (pv 0) A8 (fun _ _=>rfl))) (L8 (D1 Iy (Af Au rfl T.Zt PySem.boot_len (A0 (pv 2) A3)) (pv 3) (nomark _)))) A3)) (nomark _)))))),?_⟩
 walk_at "st";have line:=Aa;walk_at "go";refine ⟨_,.inr (SqT.of ht),?_⟩;rw [if_neg (by simp)];refine B5 (SqT.of ht) (Aq (j:=0) rfl) ⟨true,J0b,?_⟩;rw [if_neg (by decide)];refine B5 (SqT.of ht) (Aq (j:=0) rfl) ⟨rfl,?_⟩;rw [if_neg (by simp)];rename_i rest hrest;subst hrest;walk_at "go";refine B5 (SqT.of ht) (Aq (j:=1) rfl) ⟨true,U0,?_⟩;rw [if_neg (by decide)];refine B5 (SqT.of ht) (Aq (j:=1) rfl) (J91 (SqL.of hly) ⟨rfl,?_⟩);rw [if_neg (by rw [hb];simp)];refine B5 (SqT.of ht) (Aq (j:=2) rfl) ⟨true,Na hg,?_⟩;rw [if_neg (by decide)];rename_i rest hrest;subst hrest;walk_at "go";refine B5 (SqT.of ht) (Aq (j:=2) rfl) ⟨g,rfl,_,.inl (SqL.of hg),B5 (SqT.of ht) (Aq (j:=1) rfl) ⟨b,rfl,?_⟩⟩;rw [List.length_map]
 by_cases hz:z∈L
 · rw [if_neg (by rw [hb];simp [hz]),hl,if_neg (fun h=>h.1 hz)]
   exact q
 · rw [if_pos (by rw [hb];simp [hz])]
   refine ⟨_,.inl (SqL.of hly),?_⟩;rw [List.length_map,hl]
   by_cases hP:(L.length:Int)=P'
   · rw [if_pos ⟨hz,hP⟩,if_pos hP]
     exact q
   · rw [if_neg (fun h=>hP h.2),if_neg hP]
     exact q
theorem Z63{f:Addr}{fd:FuncData}(F:Fun K "_law_paid" "_law_paid" Z4c f fd)(T:Txt K mg Z2 Z3 Z4 Z6 Z5 Z0 Z1)(Z2q:Def P w K mg base CX0 1 "_law_row_good" ["_law_row","_law_name","_law_lying","_law_places"] (Iq)):Al P w K mg base CX0 2 f fd ["_law_book","_law_asks","_law_costs","_law_places"] (G4 K):=by
 have sc:A9 ["_law_book","_law_asks","_law_costs","_law_places","_law_lying","_law_paid_here","_law_row","_law_name","_law_one"] ["_law_book","_law_asks","_law_costs","_law_places"] (A7 Z4c):=by walk_at "sc"
 refine F.ok sc (fun vs H Q E h=>?_) (fun cdv A outer s H vs Q E hr h=>?_)
 · obtain ⟨_,_,_,_,_,_,_,_,_,_,_,rfl,_⟩:=h;rfl
 obtain ⟨b,a,co,P',as,gs,ys,ns,rs,L,C,rfl,hB,hS,hC,hin,hl,hR,hLl,q⟩:=h
 refine ⟨_,(@A2 _ _ _ _ _ (Bd (PW.pt (Iw (Bx (Bi (Af B9 rfl T.Z9 (by first | rfl | decide+kernel) (A0 (pv 0) (A0 (Cb (v:= .ty "list") rfl T.Z0k (by first | rfl | decide+kernel) rfl) A3))))) (L7 (Az O6 (Af Au rfl T.Zt PySem.boot_len (A0 (pv 0) A3)) (Af Au rfl T.Zt PySem.boot_len (A0 (pv 1) A3)) (nomark _)))))
  (@A4 _ _ _ (@Ae _ _ _ _ (Ut P6 A8)))
  Ak)
  (@A2 _ _ _ _ _ (Am (i:=4) sc.nd rfl (Or.inl rfl) (@K1 _ _ _ _ A3))
  (@A2 _ _ _ _ _ (Am (i:=5) sc.nd rfl (Or.inl rfl) A8)
  (@A2 _ _ _ _ _ (Co PassesOwn.never rfl (Pr rfl T.Z2s (A0 (pv 0) (A0 (pv 1) A3))) (Ga rfl (B3 (Ax (i:=6) sc.nd rfl (Or.inl rfl)) (B3 (Ax (i:=7) sc.nd rfl (Or.inl rfl)) Dq)))
   (@A2 _ _ _ _ _ (Bd (Bx (Bi (Ac Z2q hr rfl Ad (A0 (pv 6) (A0 (pv 7) (A0 (pv 4) (A0 (pv 3) A3)))))))
    (@A4 _ _ _ (@Ae _ _ _ _ (Ut P6 A8)))
    Ak)
   (@A2 _ _ _ _ _ (Co PassesOwn.never rfl (C3 (@B1 _ _ _ _ _ _ _ Ba (pv 6) A8 (fun _ _=>rfl))) (Ax (i:=8) sc.nd rfl (Or.inl rfl))
    (@A2 _ _ _ _ _ (Bd (PW.pt (Iw (Bx (Bi (Af B9 rfl T.Z9 (by first | rfl | decide+kernel) (A0 (pv 8) (A0 (Cb (v:= .ty "str") rfl T.Z36 (by first | rfl | decide+kernel) rfl) A3))))) (L7 (Az Pc (pv 8) (pv 4) (by with_unfolding_all rfl)))))
     (@A4 _ _ _ (@Ae _ _ _ _ (Ut P6 A8)))
     Ak)
    (@A4 _ _ _ (Ay (Kh PySem.F.plainAttrs_list PySem.F.slot_list_remove PySem.F.type_list_remove Xk (pv 4) (A0 (pv 8) A3))))))
   (@A4 _ _ _ (Bd (Bx (Bi (@B1 _ _ _ _ _ _ _ Ba (pv 6) A8 (fun _ _=>rfl))))
    (@A2 _ _ _ _ _ (Ay (Kh PySem.F.plainAttrs_list PySem.F.slot_list_append PySem.F.type_list_append C4 (pv 4) (A0 (pv 7) A3)))
    (@A4 _ _ _ (Am (i:=5) sc.nd rfl (Or.inl rfl) (Ai Bo (pv 5) (V5 (D3 hr) (pv 2) (pv 7) (fun _ _=>rfl))))))
    Ak)))))
  (@A4 _ _ _ (@Ae _ _ _ _ (pv 5))))))),?_⟩
 walk_at "st";have line:=Aa;walk_at "go";refine ⟨true,Na hB.L,?_⟩;rw [if_neg (by decide)];refine ⟨_,.inl (SqL.of hB.L),_,.inl hS,?_⟩;rw [if_neg (by rw [List.length_map,List.length_map,hB.ln,hR.1];simp)];rename_i rest hrest;subst hrest;walk_at "go";intro ly hly;have sm0:A6 H (upd H ly (.lst [])):=A6.new hly;have hly0:upd H ly (.lst []) ly=some (.lst []):=A1;generalize upd H ly (.lst [])=H1 at sm0 hly0 ⊢;rename_i rest hrest;subst hrest;walk_at "go";have hB1:=hB.same sm0;obtain ⟨kc,hc1,hc2⟩:=hC;refine ⟨⟨_,SqL.of hB1.L⟩,⟨_,sm0.seq hS⟩,?_⟩;rename_i rest hrest;refine Wb (xs:=as.map V.ref) (ys:=ys.map V.str) (by rw [List.length_map,List.length_map,hB.ln,hR.1]) (fun i σ H'=>∃(v6 v7 v8:Option V),σ=[some (V.ref b),some (V.ref a),some (V.ref co),some (V.int P'),some (V.ref ly),some (V.int (Ca C (rs.take i))),v6,v7,v8]∧A6 H H'∧H' ly=some (.lst ((L i).map V.str))) ⟨none,none,none,rfl,sm0,by rw [hR.2.1];exact hly0⟩ (fun i σ H' _ ⟨_,_,_,_,sm,_⟩=>⟨SqL.of (sm _ _ hB.L),sm.seq hS⟩) ?_ ?_
 · clear hrest
   rintro i x y σ H' t hx hy ⟨v6,v7,v8,rfl,sm,hly'⟩ ht;rw [List.getElem?_map]at hx hy
   cases ha:as[i]? with
   | none=>rw [ha]at hx;cases hx
   | some c=>
   cases hz:ys[i]? with
   | none=>rw [hz]at hy;cases hy
   | some z=>
   rw [ha]at hx;rw [hz]at hy;cases hx;cases hy
   have hil:i < rs.length:=by rw [← hB.ln];exact (List.getElem?_eq_some_iff.mp ha).1
   obtain ⟨r,hr⟩:∃r,rs[i]?=some r:=⟨_,List.getElem?_eq_getElem hil⟩
   obtain ⟨g,hg⟩:∃g,gs[i]?=some g:=⟨_,List.getElem?_eq_getElem (by rw [hB.m];exact hil)⟩
   have ez:ys.getD i Str.empty=z:=by rw [List.getD_eq_getElem?_getD,hz];rfl
   obtain ⟨rp,hLP,hLn⟩:=hR.2.2 i r hr;rw [ez]at rp;obtain ⟨hbt,hbg⟩:=hB.t i c g r ha hg hr
   have hpay:Ca C (rs.take (i+1))=Ca C (rs.take i)+if r.2.1 then 0 else C r.1:=by rw [List.take_add_one,hr];exact Ig
   have hzn:=hin z (List.mem_of_getElem? hz);have hLi:=hLl i (by have:=hR.1;omega);rw [hpay];clear hpay;have s1:A6 H' (upd H' t (.tup [V.ref c,V.str z])):=A6.new ht;have ht1:upd H' t (.tup [V.ref c,V.str z]) t=some (.tup [V.ref c,V.str z]):=A1;have sm1:=sm.trans s1;have hly1:=s1 _ _ hly';generalize upd H' t (.tup [V.ref c,V.str z])=H2 at ht1 sm1 hly1 ⊢;clear s1 ht hly' sm ez;have hbt2:=sm1 _ _ hbt;have hbg2:=sm1 _ _ hbg;have er:r.1=z:=rp.n;have hrb:=rp.b;rw [er]at hbt2;walk_at "go";refine ⟨_,SqT.of ht1,rfl,_,_,rfl,_,_,rfl,rfl,?_⟩;walk_at "go";refine ⟨g,_,hbt2,_,hbg2,L i,hly1,hrb,by omega,rp.len hLP,?_⟩;obtain ⟨Lm,hmid,hnext⟩:=rp.mid;rename_i rest2 hrest2;subst hrest2;walk_at "go";refine B5 (SqT.of hbt2) (Aq (j:=2) rfl) ⟨g,rfl,⟨_,SqL.of hbg2⟩,?_⟩;rename_i rest2 hrest2;refine Gv (xs:=r.2.2.map V.str) (fun j σ H''=>∃v8,σ=[some (V.ref b),some (V.ref a),some (V.ref co),some (V.int P'),some (V.ref ly),some (V.int (Ca C (rs.take i))),some (V.ref c),some (V.str z),v8]∧A6 H H''∧(j=0→H'' ly=some (.lst ((L i).map V.str)))∧(j=r.2.2.length→H'' ly=some (.lst (Lm.map V.str)))) ⟨v8,rfl,sm1,fun _=>hly1,fun hj=>?_⟩ (fun j σ H'' _ ⟨_,_,sm,_⟩=>SqL.of (sm _ _ hbg)) ?_ ?_
   · rcases hmid with ⟨e1,e2⟩ | ⟨u,_,e1,_⟩
     · rw [e2];exact hly1
     · rw [e1]at hj;cases hj
   · clear hrest2
     rintro j x σ H'' hx ⟨w8,rfl,sm,h0,hN⟩;rcases hmid with ⟨e1,e2⟩ | ⟨u,hu,e1,e2⟩
     · rw [e1]at hx;simp at hx
     · rw [e1]at hx hN ⊢
       have hj0:j=0:=by have:=(List.getElem?_eq_some_iff.mp hx).1;simp at this;omega
       subst hj0;cases hx;have hly2:=h0 rfl;clear h0 hN;walk_at "go";refine J25 (SqL.of hly2) ⟨_,rfl,?_⟩;rw [if_neg (by simp [hu])];rename_i rest3 hrest3;subst hrest3;walk_at "go";exact ⟨.inl ⟨rfl,_,SqL.of hly2⟩,_,hly2,hu,Bw sm hly,by rw [A1,e2]⟩
   · rintro σ H'' ⟨w8,rfl,sm,h0,hN⟩
     have hly3:=hN (List.length_map _);have hbt3:=sm _ _ hbt;rw [er]at hbt3;subst hrest2;walk_at "go";refine B5 (SqT.of hbt3) (Aq (j:=1) rfl) ⟨_,rfl,?_⟩
     cases hb2:r.2.1 with
     | true=>
      rw [hb2,if_pos rfl]at hnext;rw [if_neg (by decide)];exact ⟨by simp,sm,by rw [hnext];exact hly3⟩
     | false=>
      rw [hb2,if_neg (by decide)]at hnext
      have gC:∀H3,A6 H H3→Cq H3 co (.str z) (some (.int (C z))):=fun H3 s3=>by rw [← hc2 z hzn];exact Cq.k (k:=Sum.inr z) (s3 _ _ hc1)
      have hml:Lm.length≤200:=by
       rcases hmid with ⟨_,e2⟩ | ⟨u,_,_,e2⟩
       · rw [e2];exact hLi
       · rw [e2];exact Nat.le_trans (List.erase_sublist.length_le) hLi
      rw [if_pos rfl,er];walk_at "go";refine ⟨.inl ⟨rfl,_,SqL.of hly3⟩,ly,_,_,rfl,rfl,hly3,by rw [List.length_map];omega,?_⟩;have smA:A6 H (upd H'' ly (.lst (Lm.map V.str++[V.str z]))):=Bw sm hly
      have hlA:upd H'' ly (.lst (Lm.map V.str++[V.str z])) ly=some (.lst ((L (i+1)).map V.str)):=by rw [A1,hnext,List.map_append];rfl
      generalize upd H'' ly (.lst (Lm.map V.str++[V.str z]))=HA at smA hlA ⊢;rename_i rest3 hrest3;subst hrest3;walk_at "go";exact ⟨_,gC HA smA,_,rfl,rfl,smA,hlA⟩
 · rintro σ H' ⟨v6,v7,v8,rfl,sm,hly'⟩
   rw [List.length_map,hB.ln,List.take_length];subst hrest;walk_at "go";exact q H' sm
theorem Z6a{f:Addr}{fd:FuncData}(F:Fun K "law" "law" Z2a f fd)(T:Txt K mg Z2 Z3 Z4 Z6 Z5 Z0 Z1)(Zn:Def P w K mg base CX0 1 "_law_cell_at" ["_law_script","_law_k"] (Mg K))(Z3z:Def P w K mg base CX0 1 "_law_names" ["_law_cell","_law_many"] (G3))(Z2r:U6 P w K mg base CX0 4 "Stock" Z2 ["self","rows"] (Kt K Z2))(Z1o:U6 P w K mg base CX0 6 "Farthest" Z0 ["self","stock","places","asks"] (Ia K Z2 Z0))(Z1a:Def P w K mg base CX0 7 "book_of" ["rule","asks"] (Ee (TB (C5.mk Z0 Z1)) K Z2 Z3))(Z40:Def P w K mg base CX0 8 "best_of" ["stock","asks","places"] (Ip 432 (⟨174,25,174,57⟩:Pos) (("paid_by"++".<locals>.")++"<lambda>") K Z2 Z1))(Z41:Def P w K mg base CX0 1 "_law_whole" ["_law_found"] (Ep))(Z4m:Def P w K mg base CX0 2 "_law_paid" ["_law_book","_law_asks","_law_costs","_law_places"] (G4 K)):Al P w K mg base CX0 12 f fd ["_law_script"] (Gs 432 K):=by
 have sc:A9 ["_law_script","_law_many","_law_names_here","_law_cost","_law_costs","_law_name","_law_asks","_law_places","_law_rows","_law_stock","_law_paid_here","_law_found"] ["_law_script"] (A7 Z2a):=by walk_at "sc"
 refine F.ok sc (fun vs H Q E h=>?_) (fun cdv A outer s H vs Q E hr h=>?_)
 · obtain ⟨_,_,rfl,_⟩:=h;rfl
 obtain ⟨a,ns,rfl,hS,hl,hP,q⟩:=h
 refine ⟨_,(@A2 _ _ _ _ _ (Am (i:=1) sc.nd rfl (Or.inr rfl) (Ai Bo A8 (Ai C9 (Ac Zn hr rfl Ad (A0 (pv 0) (A0 A8 A3))) A8)))
  (@A2 _ _ _ _ _ (Am (i:=2) sc.nd rfl (Or.inr rfl) (Ac Z3z hr rfl Ad (A0 (Ac Zn hr rfl Ad (A0 (pv 0) (A0 A8 A3))) (A0 (pv 1) A3))))
  (@A2 _ _ _ _ _ (Am (i:=3) sc.nd rfl (Or.inr rfl) (Ai C9 (Ac Zn hr rfl Ad (A0 (pv 0) (A0 A8 A3))) (Ai Bo (Ai Tq A8 A8) A8)))
  (@A2 _ _ _ _ _ (Bd (Az Iy (Ai C9 (Ai Ej (Ac Zn hr rfl Ad (A0 (pv 0) (A0 A8 A3))) A8) A8) A8 (nomark _))
   (@A4 _ _ _ (Am (i:=3) sc.nd rfl (Or.inr rfl) (Ai C9 (Ac Zn hr rfl Ad (A0 (pv 0) (A0 A8 A3))) A8)))
   Ak)
  (@A2 _ _ _ _ _ (Am (i:=4) sc.nd rfl (Or.inl rfl) E5)
  (@A2 _ _ _ _ _ (Co PassesOwn.never rfl (C3 (pv 2)) (Ax (i:=5) sc.nd rfl (Or.inl rfl))
   (@A4 _ _ _ (Ek (D3 hr) (pv 4) (pv 5) (pv 3) rfl)))
  (@A2 _ _ _ _ _ (Qu (i:=6) "_law_cell" [2,1] sc.nd rfl rfl rfl rfl (C3 (Qi V3 (pv 0) (P8 A8) (P8 A8))) (fun b=>(@B1 _ _ _ _ _ _ _ Cc (pv 1) (Ai C9 (pv 0) (pv 2)) (fun _ _=>rfl))))
  (@A2 _ _ _ _ _ (Am (i:=7) sc.nd rfl (Or.inl rfl) (Ai Bo A8 (Ai C9 (Ac Zn hr rfl Ad (A0 (pv 0) (A0 A8 A3))) (Ai Bo (pv 1) A8))))
  (@A2 _ _ _ _ _ (Bd (Az Iy (Ai C9 (Ac Zn hr rfl Ad (A0 (pv 0) (A0 A8 A3))) A8) A8 (nomark _))
   (@A4 _ _ _ (Am (i:=7) sc.nd rfl (Or.inl rfl) (Ai Tq A8 A8)))
   Ak)
  (@A2 _ _ _ _ _ (Qu (i:=8) "_law_name" [3] sc.nd rfl rfl rfl rfl (C3 (pv 2)) (fun b=>(By (A0 (pv 0) (A0 (pv 1) (A0 A8 A3))))))
  (@A2 _ _ _ _ _ (Bd (Az Iy (Ai C9 (Ai Ej (Ac Zn hr rfl Ad (A0 (pv 0) (A0 A8 A3))) A8) A8) A8 (nomark _))
   (@A4 _ _ _ (Ay (Kh PySem.F.plainAttrs_list PySem.F.slot_list_append PySem.F.type_list_append C4 (pv 8) (A0 (By (A0 Y9 (A0 (Ai Bo (Ai Ej (pv 3) A8) A8) (A0 A8 A3)))) A3))))
   Ak)
  (@A2 _ _ _ _ _ (Am (i:=9) sc.nd rfl (Or.inl rfl) (Gh Z2r hr rfl (Bc Ad) (A0 (pv 8) A3)))
  (@A2 _ _ _ _ _ (Am (i:=10) sc.nd rfl (Or.inl rfl) (Ac Z4m hr rfl Ad (A0 (Ac Z1a hr rfl Ad (A0 (Gh Z1o hr rfl (Bc Ad) (A0 (pv 9) (A0 (pv 7) (A0 (Ci De rfl T.Z0k (by first | rfl | decide+kernel) (A0 (pv 6) A3)) A3)))) (A0 (Ci De rfl T.Z0k (by first | rfl | decide+kernel) (A0 (pv 6) A3)) A3))) (A0 (pv 6) (A0 (pv 4) (A0 (pv 7) A3))))))
  (@A2 _ _ _ _ _ (Am (i:=11) sc.nd rfl (Or.inl rfl) (Ac Z40 hr rfl Ad (A0 (pv 9) (A0 (Ci De rfl T.Z0k (by first | rfl | decide+kernel) (A0 (pv 6) A3)) (A0 (pv 7) A3)))))
  (@A2 _ _ _ _ _ (Bd (PW.pt (Iw (Bx (Bi (Af B9 rfl T.Z9 (by first | rfl | decide+kernel) (A0 (pv 11) (A0 (Cb (v:= .ty "tuple") rfl T.Z2d (by first | rfl | decide+kernel) rfl) A3))))) (Iw (Az O6 (Af Au rfl T.Zt PySem.boot_len (A0 (pv 11) A3)) A8 (nomark _)) (L7 (Bx (Bi (Ac Z41 hr rfl Ad (A0 (@B1 _ _ _ _ _ _ _ Ba (pv 11) A8 (fun _ _=>rfl)) A3))))))))
   (@A4 _ _ _ (@Ae _ _ _ _ G8))
   Ak)
  (@A4 _ _ _ (@Ae _ _ _ _ (L9 (D1 J84 (pv 10) A8 (nomark _)) (L8 (D1 Iy (@B1 _ _ _ _ _ _ _ Ba (pv 11) A8 (fun _ _=>rfl)) (pv 10) (nomark _))))))))))))))))))))),?_⟩
 walk_at "st";have line:=Aa;walk_at "go"
 obtain ⟨m,hm⟩:∃m:Nat,1+ns.getD 2 0 % 12=(m:Int):=⟨(1+ns.getD 2 0 % 12).toNat,by omega⟩
 have hm1:1≤m:=by omega
 have hm26:m≤12:=by omega
 rw [hm];refine ⟨m,rfl,by omega,fun np ys H1 hnp sm1 hny hy1 hy2 ynd hyn hun=>?_⟩;have hS1:=sm1.seq hS;have hP1:=sm1 _ _ hP;rename_i rest hrest;subst hrest;walk_at "go";rename_i rest hrest
 have key:∀c:Int,0≤c→c≤10 ^ 30→rest [some (V.ref a),some (V.int m),some (V.ref np),some (V.int c),none,none,none,none,none,none,none,none] H1:=by
  intro c hc0 hc1;subst hrest;walk_at "go";intro co hco;have sm2:A6 H1 (upd H1 co (.dK [])):=A6.new hco;have g1:upd H1 co (.dK []) co=some (.dK []):=A1;generalize upd H1 co (.dK [])=H2 at sm2 g1 ⊢;rename_i rest hrest;subst hrest;walk_at "go";rename_i rest hrest;refine ⟨⟨_,SqL.of (sm2 _ _ hny)⟩,?_⟩;refine Gv (xs:=ys.map V.str) (fun i σ H'=>∃(v5:Option V),σ=[some (V.ref a),some (V.int m),some (V.ref np),some (V.int c),some (V.ref co),v5,none,none,none,none,none,none]∧A6 H1 H'∧H' co=some (.dK (kvN (ys.take i) (fun _=>c)))) ⟨none,rfl,sm2,g1⟩ (fun i σ H' _ ⟨_,_,sm,_⟩=>SqL.of (sm _ _ hny)) ?_ ?_
  · clear hrest
    rintro i x σ H' hx ⟨v5,rfl,sm,e5⟩;rw [List.getElem?_map]at hx
    cases hy:ys[i]? with
    | none=>rw [hy]at hx;cases hx
    | some y=>
    rw [hy]at hx;cases hx
    have htk:ys.take (i+1)=ys.take i++[y]:=by rw [List.take_succ,hy];rfl
    have hyn':y∉ys.take i:=fun h=>by
     have h2:(ys.take (i+1)).Nodup:=List.Nodup.sublist (List.take_sublist _ _) ynd;rw [htk,List.nodup_append]at h2;exact h2.2.2 _ h _ List.mem_cons_self rfl
    have hlen:(kvN (ys.take i) (fun _=>c)).length≤26:=by rw [J4k,List.length_take];omega
    rw [htk];walk_at "go";have hputR:=M4.k (k:=Sum.inr y) (v:=V.int c) e5 (by omega)
    rw [show Ct (kvN (ys.take i) fun _=>c) (Sum.inr y) (V.int c)=kvN (ys.take i++[y]) (fun _=>c) from by rw [J22 hyn'];congr 1;funext z;unfold upF;split <;> rfl]at hputR
    exact ⟨_,hputR,Bw sm hco,A1⟩
  · rintro σ H3 ⟨v5,rfl,sm,e5⟩
    rw [List.take_of_length_le (by rw [List.length_map];omega)]at e5;have hny3:=sm _ _ hny;have hS3:=sm.seq hS1;have hP3:=sm _ _ hP1
    have hCo:Ku H3 co ys (fun _=>c):=⟨_,e5,fun z hz=>J4j hz⟩
    clear hny hS1 sm1 sm2 g1 sm hnp hco e5 hP1;subst hrest;walk_at "go";obtain ⟨cs,ecs,hcl,hcl2⟩:=N35.J7g ns 4 44;refine ⟨_,hS3,fun cp hcp=>?_⟩;rw [show O0 (ns.map V.int) (some 4) (some 44)=cs.map V.int from ecs];have smc:A6 H3 (upd H3 cp (.lst (cs.map V.int))):=A6.new hcp;refine ⟨⟨_,SqL.of A1⟩,?_⟩;refine U5 (J90 ys m) (SqL.of A1) (by rw [List.length_map];omega) (fun b x H' Q' hx sm' q'=>?_) fun D7 hD7=>?_
    · obtain ⟨e,he,rfl⟩:=List.mem_map.mp hx
      have hk0:=Int.emod_nonneg e (show (m:Int)≠0 by omega);have hk1:=Int.emod_lt_of_pos e (show (0:Int) < m by omega);walk_at "go";refine Cg (SqL.of (sm' _ _ (smc _ _ hny3))) (v:=V.str (ys.getD (e % (m:Int)).toNat Str.empty)) ?_ q';rw [show e % (m:Int)=(((e % (m:Int)).toNat:Nat):Int) by omega,Int.toNat_natCast];exact Aq (by rw [List.getElem?_map,Bu (by omega)];rfl)
    rw [Xu];have smD:=smc.trans (A6.new (o:= .lst ((cs.map (Kv ys m)).map V.str)) hD7)
    have hzin:∀y∈cs.map (Kv ys m),y∈ys:=fun y hy=>by
     obtain ⟨e,_,rfl⟩:=List.mem_map.mp hy;have hk0:=Int.emod_nonneg e (show (m:Int)≠0 by omega);have hk1:=Int.emod_lt_of_pos e (show (0:Int) < m by omega);exact List.mem_of_getElem? (Bu (by omega))
    have hzl:(cs.map (Kv ys m)).length≤40:=by rw [List.length_map];omega
    have hap:upd (upd H3 cp (.lst (cs.map V.int))) D7 (.lst ((cs.map (Kv ys m)).map V.str)) D7=some (.lst ((cs.map (Kv ys m)).map V.str)):=A1;generalize upd (upd H3 cp (.lst (cs.map V.int))) D7 (.lst ((cs.map (Kv ys m)).map V.str))=H6 at smD hap ⊢;generalize cs.map (Kv ys m)=zs at hzin hzl hap;have hS6:=smD.seq hS3;have hC6:=hCo.same smD;have hny6:=smD _ _ hny3;have hP6:=smD _ _ hP3;clear hD7 smc hcp hcl hcl2 hny3 hS3 hCo hP3 smD ecs;rename_i rest hrest;subst hrest;walk_at "go";rename_i rest hrest
    have key2:∀P2:Nat,1≤P2→P2≤1000000→rest [some (V.ref a),some (V.int m),some (V.ref np),some (V.int c),some (V.ref co),v5,some (V.ref D7),some (V.int P2),none,none,none,none] H6:=by
     intro P2 hP21 hP22;subst hrest;walk_at "go";refine ⟨⟨_,SqL.of hny6⟩,N35.Xz (xs:=ys.map V.str) (fun i=>[V.str (ys.getD i Str.empty),V.int c,V.int 1]) (SqL.of hny6) (by rw [List.length_map];omega) (fun b i x H' Q' hx sm q'=>?_) fun r as H7 hr sm7 hr7 hal hT=>?_⟩
     · rw [List.getElem?_map]at hx
       cases hy:ys[i]? with
       | none=>rw [hy]at hx;cases hx
       | some y=>
       rw [hy]at hx;cases hx
       have ey:ys.getD i Str.empty=y:=by rw [List.getD_eq_getElem?_getD,hy];rfl
       rw [ey]at q';walk_at "go";exact fun t ht=>q' t _ (A6.new ht) A1
     rw [List.length_map]at hal;rename_i rest hrest;subst hrest;walk_at "go"
     have okF:∀t∈N41.tsF (fun _=>c) (fun _=>1) ys,C8 t.1.cps.toList=true∧0≤t.2.1∧t.2.1≤10 ^ 30∧1≤t.2.2∧t.2.2≤1000:=fun t ht=>by
      obtain ⟨y,hy,rfl⟩:=List.mem_map.mp ht;exact ⟨hyn y hy,hc0,hc1,by show (1:Int)≤1;decide,by show (1:Int)≤1000;decide⟩
     have hfl:(N41.tsF (fun _=>c) (fun _=>1) ys).length=ys.length:=N41.J4l
     have atF:∀(i:Nat) (a:Addr) (t:Th),as[i]?=some a→(N41.tsF (fun _=>c) (fun _=>1) ys)[i]?=some t→H7 a=some (.tup [.str t.1,.int t.2.1,.int t.2.2]):=fun i a t h1 h2=>by
      have hil:i < ys.length:=by rw [← hal];exact (List.getElem?_eq_some_iff.mp h1).1
      rw [N41.J7c hil]at h2;cases h2;exact hT i a h1
     rename_i rest hrest
     have key3:∀(as2:List Addr) (ts:List Th) (H8:Hp),A6 H6 H8→H8 r=some (.lst (as2.map V.ref))→Ue K H8 r as2 ts→J6c (fun _=>c) ys ts→rest [some (V.ref a),some (V.int m),some (V.ref np),some (V.int c),some (V.ref co),v5,some (V.ref D7),some (V.int P2),some (V.ref r),none,none,none] H8:=by
      intro as2 ts H8 sm8 hr8 rows ok;have hap8:=sm8 _ _ hap;have hC8:=hC6.same sm8;have hP8:=sm8 _ _ hP6;clear hap hC6 hP6 hS6 hny6 sm8 hr sm7 hr7 hT atF okF hfl hal;subst hrest;walk_at "go";intro st dx hst hdx ne1;obtain ⟨rws,r1,r2,r3,r4⟩:=rows.init;have smx:A6 H8 (upd (upd H8 dx (.own st)) st (.ins Z2 dx [])):=N63.Nv hst hdx;refine ⟨dx,A1,rws,by rw [r1];exact smx.seq rows.l,fun t ht=>smx.tup (r2 t ht),r3,fun H9 sb9 stk=>?_⟩;rw [r4]at stk;have sm9:A6 H8 H9:=N63.Mr hst hdx sb9;have hap9:=sm9 _ _ hap8;have hC9:=hC8.same sm9;have hP9:=sm9 _ _ hP8
      have okc:∀y∈zs,0≤N41.cst ts y:=fun y hy=>by rw [ok.c y (hzin y hy)];exact hc0
      have hokl:=ok.l;clear r1 r2 r3 r4 smx sb9 rows hst hdx ne1 hr8 sm9 hap8 hC8 hP8;have hrz:∀y∈zs,rm ts y=1:=fun y hy=>ok.r y (hzin y hy);have hiz:∀y∈zs,y∈ts.map (·.1):=fun y hy=>ok.i y (hzin y hy)
      have hrP:∀y∈zs,rm ts y≤(P2:Int):=fun y hy=>by rw [hrz y hy];omega
      rename_i rest hrest;subst hrest;walk_at "go";refine ⟨_,.inl (SqL.of hap9),fun l1 hl1 q1 dq hq1 hdq neq=>?_⟩;have sA:A6 H9 (upd H9 l1 (.lst (zs.map V.str))):=A6.new hl1;have hl1A:upd H9 l1 (.lst (zs.map V.str)) l1=some (.lst (zs.map V.str)):=A1;generalize upd H9 l1 (.lst (zs.map V.str))=HA at sA hl1A hq1 hdq ⊢;have sB:A6 HA (upd (upd HA dq (.own q1)) q1 (.ins Z0 dq [])):=N63.Nv hq1 hdq
      have nlq:l1≠q1:=fun e=>by rw [e,hq1]at hl1A;cases hl1A
      refine ⟨dq,A1,ts,Ag.same (sA.trans sB) stk,ok.nd,zs,SqL.of (sB _ _ hl1A),by omega,hiz,hrP,by omega,by omega,nlq,fun HC la ak sbC hla hak hQ=>?_⟩;have sC:A6 HA HC:=N63.Mr hq1 hdq sbC;have sC9:=sA.trans sC;refine ⟨_,.inl (SqL.of (sC9 _ _ hap9)),fun l2 hl2=>?_⟩;have sD:A6 HC (upd HC l2 (.lst (zs.map V.str))):=A6.new hl2;have hl2D:upd HC l2 (.lst (zs.map V.str)) l2=some (.lst (zs.map V.str)):=A1;generalize upd HC l2 (.lst (zs.map V.str))=HD at sD hl2D ⊢
      have hM0:∀k∈[q1,la,ak],HA k=none:=fun k hk=>by
       simp only [List.mem_cons,List.not_mem_nil,or_false]at hk;rcases hk with e | e | e
       · rw [e];exact hq1
       · rw [e];exact Ah sB hla
       · rw [e];exact Ah sB hak
      have hQD:QAt Z0 zs HD [q1,la,ak] q1 st P2 s20:=by
       obtain ⟨la',ak',e1,⟨dx',h1⟩,h2,h3⟩:=hQ;exact ⟨la',ak',e1,⟨dx',sD _ _ h1⟩,sD _ _ h2,sD _ _ h3⟩
      have nam:l2∉[q1,la,ak]:=fun hk=>by
       obtain ⟨la',ak',e1,⟨dx',h1⟩,h2,h3⟩:=hQ;cases e1;simp only [List.mem_cons,List.not_mem_nil,or_false]at hk;rcases hk with e | e | e
       · rw [e,h1]at hl2;cases hl2
       · rw [e,h2]at hl2;cases hl2
       · rw [e,h3]at hl2;cases hl2
      refine ⟨W5.fa zs (by omega),HA,st,[q1,la,ak],(P2:Int),ts,zs,s20,hQD,⟨N63.li0,Int.le_refl _⟩,Ag.same sA stk,sC.trans sD,hM0,ok.nd,by omega,SqL.of hl2D,nam,by omega,hiz,hrP,by omega,by omega,Nat.zero_le _,fun b bs gs HE kpE hbE htE bkE atE hbn hbg hgn hxE=>?_⟩;have sE:A6 HA HE:=Kp.same (sC.trans sD) kpE hM0;have sE9:=sA.trans sE;have grl:(grows (T3 Z0 zs) (rm ts) P2 s20 zs zs.length).length=zs.length:=Cz
      have hB:BkP HE b bs gs (grows (T3 Z0 zs) (rm ts) P2 s20 zs zs.length):=⟨hbE,bkE.n,bkE.m,fun i c g' r h1 h2 h3=>by
       have hil:i < zs.length:=by rw [← grl];exact (List.getElem?_eq_some_iff.mp h3).1
       have er:r=NR.grow (T3 Z0 zs) (rm ts) P2 s20 zs i:=by
        unfold grows at h3;rw [List.getElem?_map,List.getElem?_range hil]at h3;exact (Option.some.inj h3).symm
       rw [er]
       exact ⟨(hxE i c g' h1 h2).2.2.2.1,(hxE i c g' h1 h2).2.2.2.2⟩⟩
      have hrw:=Gr (T:=T3 Z0 zs) (R:=rm ts) (P:=P2) (s0:=s20) (ns:=ts.map (·.1)) ⟨N63.li0,Int.le_refl _⟩ hP21 hiz hrz;walk_at "go";refine ⟨P2,rfl,bs,gs,zs,ys,_,hB,SqL.of (sE9 _ _ hap9),_,fun _=>c,hC9.same sE9,hzin,by omega,hrw,fun i hi=>?_,fun HF smF=>?_⟩
      · have gi:=Dh (T:=T3 Z0 zs) (R:=rm ts) (n:=(P2:Int)) (s0:=s20) (ns:=ts.map (·.1)) ⟨N63.li0,Int.le_refl _⟩ hiz hrP i hi
        have h3:=N25.Uk gi.nd gi.s;rw [List.length_map]at h3;exact Nat.le_trans h3 (by omega)
      have sF:=sE9.trans smF;have stkF:=Ag.same sF stk;have hapF:=sF _ _ hap9;have hPF:=sF _ _ hP9;clear hB hxE bkE atE htE hbE kpE hQD hQ nam hM0 sC9 sC sD sB sbC smF sE sE9 sA;rename_i rest hrest;subst hrest;walk_at "go";refine ⟨_,.inl (SqL.of hapF),fun ha hha=>?_⟩;have sm9:A6 HF (upd HF ha (.lst (zs.map V.str))):=A6.new hha;have hha9:upd HF ha (.lst (zs.map V.str)) ha=some (.lst (zs.map V.str)):=A1;generalize upd HF ha (.lst (zs.map V.str))=HG at sm9 hha9 ⊢;refine ⟨P2,rfl,ts,Ag.same sm9 stkF,ok.nd,by omega,zs,hha9,hzl,hiz,hrz,okc,hP21,hP22,.inl (sm9 _ _ hPF),fun t bk pr bas bgs pas tk h HI tkI ht hbk hpr hbas hbgs ndg nbg npg nbp htI hBI hprI hpl hpt hFl hFE hpi=>?_⟩;have hfar:=Tj (X:=Z1) (X':=Z0) hFE hP21 hrz hiz (c:=c) (fun y hy=>ok.c y (hzin y hy)) hc0;rename_i rest hrest;subst hrest;walk_at "go";refine ⟨_,.inr (SqT.of htI),?_⟩;rw [if_neg (by simp)];refine B5 (SqT.of htI) (Aq (j:=0) rfl) ⟨_,rfl,?_⟩
      have hpe:Ca (fun _=>c) (grows (T3 Z0 zs) (rm ts) P2 s20 zs zs.length)=Ca (N41.cst ts) (grows (T3 Z0 zs) (rm ts) P2 s20 zs zs.length)∧True:=⟨Uq fun rr hrr=>by
       obtain ⟨i,hi⟩:=List.mem_iff_getElem?.mp hrr;have k:=(hrw.2.2 i rr hi).1.n
       have hil:i < zs.length:=by rw [← grl];exact (List.getElem?_eq_some_iff.mp hi).1
       rw [k]
       exact (ok.c _ (hzin _ (List.mem_of_getElem? (Bu hil)))).symm,trivial⟩
      have hp0:0≤Ca (fun _=>c) (grows (T3 Z0 zs) (rm ts) P2 s20 zs zs.length):=by
       have e:=Q8 (C:=fun _=>c) (c:=c) hrw (fun _ _=>rfl) _ (Nat.le_refl _);rw [List.take_of_length_le (by rw [hrw.1];exact Nat.le_refl _)]at e;rw [e];exact Int.mul_nonneg hc0 (by omega)
      have hfin:Ca (N41.cst ts) (rwP Z1 ts P2 zs tk)=Ca (fun _=>c) (grows (T3 Z0 zs) (rm ts) P2 s20 zs zs.length)∧True:=⟨by rw [hpe.1];exact hfar.symm,trivial⟩
      rename_i rest hrest;subst hrest;walk_at "go";rw [if_pos hp0];refine B5 (SqT.of htI) (Aq (j:=0) rfl) ⟨rfl,?_⟩;rw [hfin.1,decide_eq_true rfl];exact q _
     refine ⟨ns,sm7.seq hS6,by decide,hl,Pf (by decide) (by decide),by decide,?_⟩
     by_cases h36:ns.getD 2 0 / 36 % 2=1
     · rw [if_pos h36]
       refine ⟨.inl ⟨rfl,_,SqL.of hr7⟩,Pf (by decide) (by decide),by omega,fun t ht=>?_⟩;have st:A6 H7 (upd H7 t (.tup [V.str (Str.ofString "unasked9"),V.int (c / 2+1),V.int 7])):=A6.new ht;refine ⟨r,_,_,rfl,rfl,st _ _ hr7,by rw [List.length_map];omega,?_⟩;rw [show as.map V.ref++[V.ref t]=(as++[t]).map V.ref by simp];have hr2:upd (upd H7 t (.tup [V.str (Str.ofString "unasked9"),V.int (c / 2+1),V.int 7])) r (.lst ((as++[t]).map V.ref)) r=some (.lst ((as++[t]).map V.ref)):=A1;have sm2:A6 H6 (upd (upd H7 t (.tup [V.str (Str.ofString "unasked9"),V.int (c / 2+1),V.int 7])) r (.lst ((as++[t]).map V.ref))):=Bw (sm7.trans st) hr
       have tp2:∀(a:Addr) (l:List V),upd H7 t (.tup [V.str (Str.ofString "unasked9"),V.int (c / 2+1),V.int 7]) a=some (.tup l)→upd (upd H7 t (.tup [V.str (Str.ofString "unasked9"),V.int (c / 2+1),V.int 7])) r (.lst ((as++[t]).map V.ref)) a=some (.tup l):=fun a l e=>by
        rw [A5 fun z=>by rw [z,st _ _ hr7]at e;cases e];exact e
       have ht2:=tp2 t _ A1;have tp3:∀(a:Addr) (l:List V),H7 a=some (.tup l)→upd (upd H7 t (.tup [V.str (Str.ofString "unasked9"),V.int (c / 2+1),V.int 7])) r (.lst ((as++[t]).map V.ref)) a=some (.tup l):=fun a l e=>tp2 a l (st _ _ e);generalize upd (upd H7 t (.tup [V.str (Str.ofString "unasked9"),V.int (c / 2+1),V.int 7])) r (.lst ((as++[t]).map V.ref))=H8 at hr2 sm2 ht2 tp3 ⊢
       have nd2:((N41.tsF (fun _=>c) (fun _=>1) ys++[((Str.ofString "unasked9",c / 2+1,7):Th)]).map (·.1)).Nodup:=by
        rw [List.map_append,N41.Lk,List.nodup_append]
        exact ⟨ynd,by simp,fun y hy u hu e=>hun (by
         have hu2:u=Str.ofString "unasked9":=by simpa using hu
         rw [← hu2,← e];exact hy)⟩
       have unm:C8 (Str.ofString "unasked9").cps.toList=true:=by decide+kernel
       refine key3 (as++[t]) (N41.tsF (fun _=>c) (fun _=>1) ys++[((Str.ofString "unasked9",c / 2+1,7):Th)]) H8 sm2 hr2 ⟨SqL.of hr2,by rw [List.length_append,List.length_append,hal,hfl];rfl,by rw [List.length_append,hfl];simp;omega,fun i a' t' h1 h2=>?_,fun t' ht'=>?_,nd2⟩ (J3b nd2 (by rw [List.length_append,hfl];simp;omega) fun t' ht'=>List.mem_append_left _ ht')
       · rcases Mn h1 with ⟨l1,c1⟩ | ⟨l1,c1⟩
         · rw [List.getElem?_append_left (by rw [hfl,← hal];exact l1)]at h2
           exact SqT.of (tp3 _ _ (atF i a' t' c1 h2))
         · rw [List.getElem?_append_right (by rw [hfl,← hal];omega),hfl,← hal,l1,Nat.sub_self]at h2
           cases h2;rw [c1];exact SqT.of ht2
       · rcases List.mem_append.mp ht' with h | h
         · exact okF t' h
         · rw [List.mem_singleton.mp h]
           exact ⟨unm,by show 0≤c / 2+1;omega,by show c / 2+1≤10 ^ 30;omega,by show (1:Int)≤7;decide,by show (7:Int)≤1000;decide⟩
     · rw [if_neg h36]
       exact key3 as _ H7 sm7 hr7 ⟨SqL.of hr7,by rw [hal,hfl],by rw [hfl];omega,fun i a t h1 h2=>SqT.of (atF i a t h1 h2),okF,by rw [N41.Lk];exact ynd⟩ (J3b (by rw [N41.Lk];exact ynd) (by rw [hfl];omega) fun t ht=>ht)
    have hp0:=Int.emod_nonneg (ns.getD 3 0) (show (m:Int)+1≠0 by omega);have hp1:=Int.emod_lt_of_pos (ns.getD 3 0) (show (0:Int) < (m:Int)+1 by omega)
    by_cases h8:ns.getD 3 0 % 8=5
    · rw [if_pos h8]
      exact ⟨Vl (by decide) (by decide) (by decide),key2 1000000 (by decide) (by decide)⟩
    · rw [if_neg h8]
      have:=key2 (1+ns.getD 3 0 % ((m:Int)+1)).toNat (by omega) (by omega);rw [show (((1+ns.getD 3 0 % ((m:Int)+1)).toNat:Nat):Int)=1+ns.getD 3 0 % ((m:Int)+1) by omega]at this;exact this
 by_cases h12:ns.getD 2 0 / 12 % 3=0
 · rw [if_pos h12]
   exact ⟨ns,hS1,by decide,hl,by decide,key _ (by omega) (by omega)⟩
 · rw [if_neg h12]
   exact key _ (by omega) (by omega)
end
theorem J7s{l:W.OpenLaw}{w:World}{K:W.Frag}{h:Heap}{mg:Str→Option Value}{fa f0 f1 f2 f3 f4 f5 f6 f7 f8 f9 f10 f11 f12 f13 f14 f15 f16 f17 f18 f19 f20 f21 f22 f23 f24 f25 f26 f27 f28 f29 f30 f31 f32 f33 f34 f35 f36 f37 f38 f39 f40 f41 f42 f43 f44 f45 f46 f47 f48 f49 f50 f51 f52 f53 f54 f55 f56 f57 f58 f59 f60 f61 Z2 Z3 Z4 Z6 Z5 Z0 Z1:Addr}(X:K.In h)(G:h.Ns mainGlobals mg)(hfa:mg "law"=some (.ref fa))
 {od20 an20 od29 an29 od30 an30 od35 an35 od44 an44 od61 an61:Option Addr} {sl20 sl29 sl30 sl35 sl44 sl61:Array (Option Value)} {oc20 kV20 dc20 pm20 cd20 ct20 oc29 kV29 dc29 pm29 cd29 ct29 oc30 kV30 dc30 pm30 cd30 ct30 oc35 kV35 dc35 pm35 cd35 ct35 oc44 kV44 dc44 pm44 cd44 ct44 oc61 kV61 dc61 pm61 cd61 ct61:Value}
 {d0 d1 d2 d3 d4 d5 d6 d7 d8 d9 d10 d11 d12 d13 d14 d15 d16 d17 d18 d19 d21 d22 d23 d24 d25 d26 d27 d28 d31 d32 d33 d34 d36 d37 d38 d39 d40 d41 d42 d43 d45 d46 d47 d48 d49 d50 d51 d52 d53 d54 d55 d56 d57 d58 d59 d60:FuncData}
 (a0:W.nsIn K mainGlobals "is_whole"=some (some (.ref f0))) (F0:Fun K "is_whole" "is_whole" Z37 f0 d0)
 (a1:W.nsIn K mainGlobals "is_within"=some (some (.ref f1))) (F1:Fun K "is_within" "is_within" Z2u f1 d1)
 (a2:W.nsIn K mainGlobals "check_places"=some (some (.ref f2))) (F2:Fun K "check_places" "check_places" Z1p f2 d2)
 (a3:W.nsIn K mainGlobals "made_of"=some (some (.ref f3))) (F3:Fun K "made_of" "made_of" Z3h f3 d3)
 (a4:W.nsIn K mainGlobals "is_name"=some (some (.ref f4))) (F4:Fun K "is_name" "is_name" Z3i f4 d4)
 (a5:W.nsIn K mainGlobals "check_thing"=some (some (.ref f5))) (F5:Fun K "check_thing" "check_thing" Z22 f5 d5)
 (M6:Mk K Z2 f6) (F6:Fun K "__init__" "Stock.__init__" Z2f f6 d6)
 (M7:Cp K Z2 "has" f7) (F7:Fun K "has" "Stock.has" Z2v f7 d7)
 (M8:Cp K Z2 "thing_of" f8) (F8:Fun K "thing_of" "Stock.thing_of" Z12 f8 d8)
 (M9:Cp K Z2 "room_of" f9) (F9:Fun K "room_of" "Stock.room_of" Z1c f9 d9)
 (M10:Cp K Z2 "cost_of" f10) (F10:Fun K "cost_of" "Stock.cost_of" Z1d f10 d10)
 (a11:W.nsIn K mainGlobals "check_asks"=some (some (.ref f11))) (F11:Fun K "check_asks" "check_asks" Z2g f11 d11)
 (a12:W.nsIn K mainGlobals "earlier_asks"=some (some (.ref f12))) (F12:Fun K "earlier_asks" "earlier_asks" Z1q f12 d12)
 (M13:Mk K Z3 f13) (F13:Fun K "__init__" "Shelf.__init__" Z2h f13 d13)
 (M14:Cp K Z3 "lying" f14) (F14:Fun K "lying" "Shelf.lying" Z23 f14 d14)
 (M15:Cp K Z3 "holds" f15) (F15:Fun K "holds" "Shelf.holds" Z24 f15 d15)
 (M16:Cp K Z3 "room_left" f16) (F16:Fun K "room_left" "Shelf.room_left" Z0s f16 d16)
 (M17:Cp K Z3 "put" f17) (F17:Fun K "put" "Shelf.put" Z2w f17 d17)
 (M18:Cp K Z3 "cast" f18) (F18:Fun K "cast" "Shelf.cast" Z2i f18 d18)
 (a19:W.nsIn K mainGlobals "weighed"=some (some (.ref f19))) (F19:Fun K "weighed" "weighed" Z3j f19 d19)
 (a20:W.nsIn K mainGlobals "paid_by"=some (some (.ref f20))) (l20:K.lookup f20=some ⟨oc20,od20,.func (W.fnOf "paid_by" "paid_by" (Bk Z0m) (Be Z0m) (A7 Z0m) .none kV20 dc20 pm20 an20 cd20 ct20),sl20⟩) (c20:W.codeIn K cd20 "paid_by"=true) (k20:W.keepIn K (.ref f20)=true)
 {cq9:Addr} (mc20:cd20= .ref cq9) (mh20:W.codeHdIn K cq9 432=true)
 (a21:W.nsIn K mainGlobals "walkers_at"=some (some (.ref f21))) (F21:Fun K "walkers_at" "walkers_at" Z2j f21 d21)
 (a22:W.nsIn K mainGlobals "moves_by_step"=some (some (.ref f22))) (F22:Fun K "moves_by_step" "moves_by_step" Z1e f22 d22)
 (a23:W.nsIn K mainGlobals "move_by_jump"=some (some (.ref f23))) (F23:Fun K "move_by_jump" "move_by_jump" Z1r f23 d23)
 (M24:Mk K Z4 f24) (F24:Fun K "__init__" "Climb.__init__" Z2k f24 d24)
 (M25:Cp K Z4 "rises_by" f25) (F25:Fun K "rises_by" "Climb.rises_by" Z13 f25 d25)
 (M26:Cp K Z4 "jumps_used" f26) (F26:Fun K "jumps_used" "Climb.jumps_used" Z0n f26 d26)
 (a27:W.nsIn K mainGlobals "climb_of"=some (some (.ref f27))) (F27:Fun K "climb_of" "climb_of" Z38 f27 d27)
 (a28:W.nsIn K mainGlobals "flow_of"=some (some (.ref f28))) (F28:Fun K "flow_of" "flow_of" Z3k f28 d28)
 (a29:W.findIn K (.ref Z6) "__init__"=some (some (.ref f29))) (l29:K.lookup f29=some ⟨oc29,od29,.func (W.fnOf "__init__" "Rule.__init__" (Bk Z0i) (Be Z0i) (A7 Z0i) .none kV29 dc29 pm29 an29 cd29 ct29),sl29⟩) (c29:W.codeIn K cd29 "Rule.__init__"=true) (n29:W.isFn K (.ref f29)=true) (k29:W.keepIn K (.ref Z6)=true) (m29:W.makesIn K Z6=true) (kf29:W.keepIn K (.ref f29)=true)
 (fc29:W.findCls K (.ref Z6) (.type "type") "__init__"=some (.val (.ref f29))) (sc29:W.specialIn K (.ref Z6) "__getattribute__"=some (some (.builtin "type.__getattribute__"))) (rc29:W.readsIn K Z6 (.type "type")=true)
 (a30:W.findIn K (.ref Z5) "__init__"=some (some (.ref f30))) (l30:K.lookup f30=some ⟨oc30,od30,.func (W.fnOf "__init__" "Ranked.__init__" (Bk Z05) (Be Z05) (A7 Z05) .none kV30 dc30 pm30 an30 cd30 ct30),sl30⟩) (c30:W.codeIn K cd30 "Ranked.__init__"=true) (n30:W.isFn K (.ref f30)=true) (k30:W.keepIn K (.ref Z5)=true) (m30:W.makesIn K Z5=true) (kf30:W.keepIn K (.ref f30)=true)
 (fc30:W.findCls K (.ref Z5) (.type "type") "__init__"=some (.val (.ref f30))) (sc30:W.specialIn K (.ref Z5) "__getattribute__"=some (some (.builtin "type.__getattribute__"))) (rc30:W.readsIn K Z5 (.type "type")=true)
 (M31:Mk K Z0 f31) (F31:Fun K "__init__" "Farthest.__init__" Z1f f31 d31)
 (M32:Cp K Z0 "number_ask" f32) (F32:Fun K "number_ask" "Ranked.number_ask" Z08 f32 d32)
 (M33:Cp K Z0 "last_of" f33) (F33:Fun K "last_of" "Ranked.last_of" Z0o f33 d33)
 (M34:Cp K Z0 "coming_of" f34) (F34:Fun K "coming_of" "Farthest.coming_of" Z0b f34 d34)
 (a35:W.findIn K (.ref Z0) "rank"=some (some (.ref f35))) (l35:K.lookup f35=some ⟨oc35,od35,.func (W.fnOf "rank" "Farthest.rank" (Bk Z00) (Be Z00) (A7 Z00) .none kV35 dc35 pm35 an35 cd35 ct35),sl35⟩) (c35:W.codeIn K cd35 "Farthest.rank"=true) (n35:W.isFn K (.ref f35)=true) (k35:W.keepIn K (.ref f35)=true)
 (gv35:W.specialIn K (.ref f35) "__get__"=some (some (.builtin "function.__get__"))) (tv35:W.takesIn K (.ref f35)=some false)
 (M36:Cp K Z0 "asked" f36) (F36:Fun K "asked" "Ranked.asked" Z14 f36 d36)
 (M37:Cp K Z0 "choice" f37) (F37:Fun K "choice" "Ranked.choice" Z0t f37 d37)
 (M38:Cp K Z0 "gone" f38) (F38:Fun K "gone" "Rule.gone" Z1g f38 d38)
 (M39:Cp K Z0 "came" f39) (F39:Fun K "came" "Rule.came" Z1h f39 d39)
 (M40:Mk K Z1 f40) (F40:Fun K "__init__" "Planned.__init__" Z1s f40 d40)
 (M41:Cp K Z1 "number_ask" f41) (F41:Fun K "number_ask" "Ranked.number_ask" Z0c f41 d41)
 (M42:Cp K Z1 "asked" f42) (F42:Fun K "asked" "Ranked.asked" Z1i f42 d42)
 (M43:Cp K Z1 "last_of" f43) (F43:Fun K "last_of" "Ranked.last_of" Z0u f43 d43)
 (a44:W.findIn K (.ref Z1) "rank"=some (some (.ref f44))) (l44:K.lookup f44=some ⟨oc44,od44,.func (W.fnOf "rank" "Planned.rank" (Bk Z04) (Be Z04) (A7 Z04) .none kV44 dc44 pm44 an44 cd44 ct44),sl44⟩) (c44:W.codeIn K cd44 "Planned.rank"=true) (n44:W.isFn K (.ref f44)=true) (k44:W.keepIn K (.ref f44)=true)
 (gv44:W.specialIn K (.ref f44) "__get__"=some (some (.builtin "function.__get__"))) (tv44:W.takesIn K (.ref f44)=some false)
 (M45:Cp K Z1 "choice" f45) (F45:Fun K "choice" "Ranked.choice" Z15 f45 d45)
 (M46:Cp K Z1 "gone" f46) (F46:Fun K "gone" "Rule.gone" Z1t f46 d46)
 (M47:Cp K Z1 "came" f47) (F47:Fun K "came" "Rule.came" Z1u f47 d47)
 (a48:W.nsIn K mainGlobals "make_room"=some (some (.ref f48))) (F48:Fun K "make_room" "make_room" Z2x f48 d48)
 (a49:W.nsIn K mainGlobals "row_of"=some (some (.ref f49))) (F49:Fun K "row_of" "row_of" Z4b f49 d49)
 (a50:W.nsIn K mainGlobals "book_of"=some (some (.ref f50))) (F50:Fun K "book_of" "book_of" Z3l f50 d50)
 (a51:W.nsIn K mainGlobals "check_rooms"=some (some (.ref f51))) (F51:Fun K "check_rooms" "check_rooms" Z25 f51 d51)
 (a52:W.nsIn K mainGlobals "gaps_of"=some (some (.ref f52))) (F52:Fun K "gaps_of" "gaps_of" Z3m f52 d52)
 (a53:W.nsIn K mainGlobals "stays_of"=some (some (.ref f53))) (F53:Fun K "stays_of" "stays_of" Z39 f53 d53)
 (a54:W.nsIn K mainGlobals "rises_of"=some (some (.ref f54))) (F54:Fun K "rises_of" "rises_of" Z3a f54 d54)
 (a55:W.nsIn K mainGlobals "best_of"=some (some (.ref f55))) (F55:Fun K "best_of" "best_of" Z3n f55 d55)
 (a56:W.nsIn K mainGlobals "_law_cell_at"=some (some (.ref f56))) (F56:Fun K "_law_cell_at" "_law_cell_at" Z2y f56 d56)
 (a57:W.nsIn K mainGlobals "_law_whole"=some (some (.ref f57))) (F57:Fun K "_law_whole" "_law_whole" Z3o f57 d57)
 (a58:W.nsIn K mainGlobals "_law_names"=some (some (.ref f58))) (F58:Fun K "_law_names" "_law_names" Z3p f58 d58)
 (a59:W.nsIn K mainGlobals "_law_row_good"=some (some (.ref f59))) (F59:Fun K "_law_row_good" "_law_row_good" Z2l f59 d59)
 (a60:W.nsIn K mainGlobals "_law_paid"=some (some (.ref f60))) (F60:Fun K "_law_paid" "_law_paid" Z4c f60 d60)
 (a61:W.nsIn K mainGlobals "law"=some (some (.ref f61))) (l61:K.lookup f61=some ⟨oc61,od61,.func (W.fnOf "law" "law" (Bk Z2a) (Be Z2a) (A7 Z2a) .none kV61 dc61 pm61 an61 cd61 ct61),sl61⟩) (c61:W.codeIn K cd61 "law"=true) (k61:W.keepIn K (.ref f61)=true)
 (Zt:W.nsIn K mainGlobals "len"=some none)
 (Z9:W.nsIn K mainGlobals "isinstance"=some none)
 (Z29:W.nsIn K mainGlobals "int"=some none)
 (Z2e:W.nsIn K mainGlobals "bool"=some none)
 (Z36:W.nsIn K mainGlobals "str"=some none)
 (Z0k:W.nsIn K mainGlobals "list"=some none)
 (Z4n:W.nsIn K mainGlobals "all"=some none)
 (Z0h:W.nsIn K mainGlobals "range"=some none)
 (Z02:W.nsIn K mainGlobals "enumerate"=some none)
 (Z2s:W.nsIn K mainGlobals "zip"=some none)
 (Z42:W.nsIn K mainGlobals "sum"=some none)
 (Z43:W.nsIn K mainGlobals "min"=some none)
 (Z2d:W.nsIn K mainGlobals "tuple"=some none)
 {Z5z:Tok} (Z19:W.nsIn K mainGlobals "LETTERS"=some (some (.str "abcdefghijklmnopqrstuvwxyz" Z5z)))
 {Z60:Tok} (Z21:W.nsIn K mainGlobals "FIGURES"=some (some (.str "0123456789" Z60)))
 {Z5a:Tok} (Z0l:W.nsIn K mainGlobals "MOST_SIGNS"=some (some (.int 8 Z5a)))
 {Z51:Tok} (Z0f:W.nsIn K mainGlobals "MOST_THINGS"=some (some (.int 60 Z51)))
 {Z5i:Tok} (Z0x:W.nsIn K mainGlobals "MOST_ROOM"=some (some (.int 1000 Z5i)))
 {Z52:Tok} (Z0g:W.nsIn K mainGlobals "MOST_PLACES"=some (some (.int 1000000 Z52)))
 {Z5j:Tok} (Z0y:W.nsIn K mainGlobals "MOST_ASKS"=some (some (.int 200 Z5j)))
 {Z5k:Tok} (Z0z:W.nsIn K mainGlobals "MOST_BEST"=some (some (.int 40 Z5k)))
 (Z44:W.nsIn K mainGlobals "Stock"=some (some (.ref Z2))) (Z66:Cls K Z2)
 (Zb:W.findIn K (.ref Z2) "things"=some none)
 (Z45:W.nsIn K mainGlobals "Shelf"=some (some (.ref Z3))) (Z67:Cls K Z3)
 (Z01:W.findIn K (.ref Z3) "stock"=some none)
 (Z03:W.findIn K (.ref Z3) "places"=some none)
 (Zf:W.findIn K (.ref Z3) "rooms"=some none)
 (Z46:W.nsIn K mainGlobals "Climb"=some (some (.ref Z4))) (Z68:Cls K Z4)
 (Z8:W.findIn K (.ref Z4) "heights"=some none)
 (Zo:W.findIn K (.ref Z4) "ways"=some none)
 (Z4v:W.nsIn K mainGlobals "Rule"=some (some (.ref Z6))) (Z6b:Cls K Z6)
 (Z1b:W.findIn K (.ref Z6) "stock"=some none)
 (Z10:W.findIn K (.ref Z6) "places"=some none)
 (Z3e:W.nsIn K mainGlobals "Ranked"=some (some (.ref Z5))) (Z65:Cls K Z5)
 (Z0r:W.findIn K (.ref Z5) "stock"=some none)
 (Z0j:W.findIn K (.ref Z5) "places"=some none)
 (Z0a:W.findIn K (.ref Z5) "present"=some none)
 (Z11:W.findIn K (.ref Z5) "last"=some none)
 (Z2c:W.nsIn K mainGlobals "Farthest"=some (some (.ref Z0))) (Z61:Cls K Z0)
 (Zu:W.findIn K (.ref Z0) "stock"=some none)
 (Zr:W.findIn K (.ref Z0) "places"=some none)
 (Zc:W.findIn K (.ref Z0) "present"=some none)
 (Zp:W.findIn K (.ref Z0) "last"=some none)
 (Zk:W.findIn K (.ref Z0) "asks"=some none)
 (Z2t:W.nsIn K mainGlobals "Planned"=some (some (.ref Z1))) (Z64:Cls K Z1)
 (Zy:W.findIn K (.ref Z1) "stock"=some none)
 (Zv:W.findIn K (.ref Z1) "places"=some none)
 (Zj:W.findIn K (.ref Z1) "present"=some none)
 (Zw:W.findIn K (.ref Z1) "last"=some none)
 (Zz:W.findIn K (.ref Z1) "stays"=some none)
 :(∃c,W.codeHdIn K c 432=true)∧∃fd:FuncData,(∀(s:Shared) (v:Value),BindsTo s fd ⟨[v],[]⟩ [("_law_script",v)])∧∀base:Heap,K.In base→base.Ns mainGlobals mg→base.BuiltinsAt mg 432→Al l.prog w K mg base CX0 12 fa fd ["_law_script"] (Gs 432 K):=by
 have e:=hfa.symm.trans (W.mg_of X G a61);cases e
 have T:Txt K mg Z2 Z3 Z4 Z6 Z5 Z0 Z1:=⟨W.mg_of X G Z44,Z66,Zb,W.mg_of X G Z45,Z67,Z01,Z03,Zf,W.mg_of X G Z46,Z68,Z8,Zo,W.mg_of X G Z4v,Z6b,Z1b,Z10,W.mg_of X G Z3e,Z65,Z0r,Z0j,Z0a,Z11,W.mg_of X G Z2c,Z61,Zu,Zr,Zc,Zp,Zk,W.mg_of X G Z2t,Z64,Zy,Zv,Zj,Zw,Zz,W.mg_none_of X G Zt,W.mg_none_of X G Z9,W.mg_none_of X G Z29,W.mg_none_of X G Z2e,W.mg_none_of X G Z36,W.mg_none_of X G Z0k,W.mg_none_of X G Z4n,W.mg_none_of X G Z0h,W.mg_none_of X G Z02,W.mg_none_of X G Z2s,W.mg_none_of X G Z42,W.mg_none_of X G Z43,W.mg_none_of X G Z2d,⟨_,W.mg_of X G Z19⟩,⟨_,W.mg_of X G Z21⟩,⟨_,W.mg_of X G Z0l⟩,⟨_,W.mg_of X G Z0f⟩,⟨_,W.mg_of X G Z0x⟩,⟨_,W.mg_of X G Z0g⟩,⟨_,W.mg_of X G Z0y⟩,⟨_,W.mg_of X G Z0z⟩⟩
 have F20:=K2 (st:=Z0m) l20 c20 k20;have F29:=K2 (st:=Z0i) l29 c29 kf29;have F30:=K2 (st:=Z05) l30 c30 kf30;have F35:=K2 (st:=Z00) l35 c35 k35;have F44:=K2 (st:=Z04) l44 c44 k44;have F61:=K2 (st:=Z2a) l61 c61 k61;refine ⟨⟨_,mh20⟩,W.fnOf "law" "law" (Bk Z2a) (Be Z2a) (A7 Z2a) .none kV61 dc61 pm61 an61 cd61 ct61,fun s v=> .of_eq rfl,fun base _ _ HB=>?_⟩
 have B:Bs l.prog w K mg base:=⟨h,X,G⟩
 have Z3b:=F0.d B a0 (Z5l F0 T) (F0.e1 fun _ _ _ _ _ _ _=>rfl);have Z07:=F1.d B a1 (Z5c F1 T Z3b) (F1.e3 fun _ _ _ _ _ _ _ _ _=>rfl);have Zg:=F2.d B a2 (Z4o F2 T Z07) (F2.e1 fun _ _ _ _ _ _ _=>rfl);have Z3q:=F3.d B a3 (Z5p F3 T) (F3.e2 fun _ _ _ _ _ _ _ _=>rfl);have Z3r:=F4.d B a4 (Z5q F4 T Z3q) (F4.e1 fun _ _ _ _ _ _ _=>rfl);have Z26:=F5.d B a5 (Z4w F5 T Z3r Z07) (F5.e4 fun _ _ _ _ _ _ _ _ _ _=>rfl);have Z2r:=F6.i B M6 Z44 (Z53 F6 T Z26) (F6.e2 fun _ _ _ _ _ _ _ _=>rfl);have Z2z:=F7.m B M7 (Z5d F7 T) (F7.e2 fun _ _ _ _ _ _ _ _=>rfl);have Zx:=F8.m B M8 (Z47 F8 T) (F8.e2 fun _ _ _ _ _ _ _ _=>rfl);have Za:=F9.m B M9 (Z4d F9 T Zx) (F9.e2 fun _ _ _ _ _ _ _ _=>rfl);have Zl:=F10.m B M10 (Z4e F10 T Zx) (F10.e2 fun _ _ _ _ _ _ _ _=>rfl);have Zq:=F11.d B a11 (Z54 F11 T Zg Z2z Za) (F11.e3 fun _ _ _ _ _ _ _ _ _=>rfl);have Z1z:=F12.d B a12 (Z4p F12 T) (F12.e1 fun _ _ _ _ _ _ _=>rfl);have Z2p:=F13.i B M13 Z45 (Z55 F13 T Zg) (F13.e3 fun _ _ _ _ _ _ _ _ _=>rfl)
 have Z27:=F14.m B M14 (Z4x F14 T) (F14.e1 fun _ _ _ _ _ _ _=>rfl);have Zm:=F15.m B M15 (Z4y F15 T) (F15.e2 fun _ _ _ _ _ _ _ _=>rfl);have Zs:=F16.m B M16 (Z3s F16 T) (F16.e1 fun _ _ _ _ _ _ _=>rfl);have Z33:=F17.m B M17 (Z5e F17 T Za Zm Zs) (F17.e2 fun _ _ _ _ _ _ _ _=>rfl);have Z2o:=F18.m B M18 (Z56 F18 T Zm) (F18.e2 fun _ _ _ _ _ _ _ _=>rfl);have Z3t:=F19.d B a19 (Z5r F19 T) (F19.e2 fun _ _ _ _ _ _ _ _=>rfl)
 have Z3y:Def l.prog w K mg base CX0 6 "paid_by" ["stock","book"] (Gk 432 (⟨174,25,174,57⟩:Pos) (("paid_by"++".<locals>.")++"<lambda>") K Z2):=⟨⟨f20,_,Z5s F20 T Z3t Zl ⟨_,_,_,_,_,l20,mc20,mh20⟩ HB,W.mg_of X G a20,k20,F20.b2 fun _ _ _ _ _ _ _ _=>rfl⟩⟩
 have Z2m:=F21.d B a21 (Z57 F21 T) (F21.e4 fun _ _ _ _ _ _ _ _ _ _=>rfl);have Z1j:=F22.d B a22 (Z4f F22 T Z2m) (F22.e4 fun _ _ _ _ _ _ _ _ _ _=>rfl);have Z1v:=F23.d B a23 (Z4q F23 T) (F23.e3 fun _ _ _ _ _ _ _ _ _=>rfl);have Z2n:=F24.i B M24 Z46 (Z58 F24 T) (F24.e2 fun _ _ _ _ _ _ _ _=>rfl);have Z16:=F25.m B M25 (Z48 F25 T) (F25.e2 fun _ _ _ _ _ _ _ _=>rfl);have Z0p:=F26.m B M26 (Z3f F26 T) (F26.e1 fun _ _ _ _ _ _ _=>rfl);have Z2b:=F27.d B a27 (Z5m F27 T Z1j Z1v Z2n Z16) (F27.e4 fun _ _ _ _ _ _ _ _ _ _=>rfl);have Z3x:=F28.d B a28 (Z5t F28 T Z2b Z0p) (F28.e3 fun _ _ _ _ _ _ _ _ _=>rfl)
 have Z30:Y0 l.prog w K mg base CX0 4 "Rule" Z6 ["self","stock","places"] (Dn K):=⟨⟨f29,_,Z5f F29 T Zg,⟨m29,a29,n29,k29⟩,W.mg_of X G Z4v,F29.b3 fun _ _ _ _ _ _ _ _ _=>rfl,fc29,kf29⟩,sc29,rc29⟩
 have Z06:Y0 l.prog w K mg base CX0 5 "Ranked" Z5 ["self","stock","places"] (D0 K):=⟨⟨f30,_,Z4z F30 T Z30,⟨m30,a30,n30,k30⟩,W.mg_of X G Z3e,F30.b3 fun _ _ _ _ _ _ _ _ _=>rfl,fc30,kf30⟩,sc30,rc30⟩
 have Z1o:=F31.i B M31 Z2c (Z4g F31 T Zq Z06) (F31.e4 fun _ _ _ _ _ _ _ _ _ _=>rfl);have Z09:=F32.m B M32 (Z31 F32 T) (F32.e2 fun _ _ _ _ _ _ _ _=>rfl);have Z0q:=F33.m B M33 (Z3g F33 T) (F33.e2 fun _ _ _ _ _ _ _ _=>rfl);have Z0d:=F34.m B M34 (Z34 F34 T) (F34.e2 fun _ _ _ _ _ _ _ _=>rfl)
 have Z1k:J2t l.prog w K mg base 2 Z0 "rank" ["self","name"] (Ed Z0):=⟨⟨f35,_,Z4h F35 T Z0d Z0q,⟨a35,n35,k35⟩,F35.b2 fun _ _ _ _ _ _ _ _=>rfl,gv35,tv35⟩⟩
 have Z18:=F36.m B M36 (Z49 F36 T Z09) (F36.e2 fun _ _ _ _ _ _ _ _=>rfl);have Z0w:=F37.m B M37 (Z3u F37 T Z1k) (F37.e2 fun _ _ _ _ _ _ _ _=>rfl);have Z1l:=F38.m B M38 (Z4i F38 T) (F38.e2 fun _ _ _ _ _ _ _ _=>rfl);have Z1n:=F39.m B M39 (Z4j F39 T) (F39.e2 fun _ _ _ _ _ _ _ _=>rfl);have Z20:=F40.i B M40 Z2t (Z4r F40 T Z06) (F40.e4 fun _ _ _ _ _ _ _ _ _ _=>rfl);have Z0e:=F41.m B M41 (Z35 F41 T) (F41.e2 fun _ _ _ _ _ _ _ _=>rfl);have Z1m:=F42.m B M42 (Z4k F42 T Z0e) (F42.e2 fun _ _ _ _ _ _ _ _=>rfl);have Z0v:=F43.m B M43 (Z3v F43 T) (F43.e2 fun _ _ _ _ _ _ _ _=>rfl)
 have Z1w:J2t l.prog w K mg base 2 Z1 "rank" ["self","name"] (Eg Z1):=⟨⟨f44,_,Z4s F44 T Z0v,⟨a44,n44,k44⟩,F44.b2 fun _ _ _ _ _ _ _ _=>rfl,gv44,tv44⟩⟩
 have Z17:=F45.m B M45 (Z4a F45 T Z1w) (F45.e2 fun _ _ _ _ _ _ _ _=>rfl);have Z1x:=F46.m B M46 (Z4t F46 T) (F46.e2 fun _ _ _ _ _ _ _ _=>rfl);have Z1y:=F47.m B M47 (Z4u F47 T) (F47.e2 fun _ _ _ _ _ _ _ _=>rfl);have Z32:=F48.d B a48 (Z5g F48 T Zs Z27 Z0w Z17 Z2o Z1l Z1x) (F48.e3 fun _ _ _ _ _ _ _ _ _=>rfl);have Z4l:=F49.d B a49 (Z62 F49 T Z18 Z1m Zm Za Z32 Z33 Z1n Z1y) (F49.e3 fun _ _ _ _ _ _ _ _ _=>rfl);have Z1a:=F50.d B a50 (Z5u F50 T Zq Z2p Z4l) (F50.e2 fun _ _ _ _ _ _ _ _=>rfl);have Z28:=F51.d B a51 (Z50 F51 T Za) (F51.e2 fun _ _ _ _ _ _ _ _=>rfl);have Z3w:=F52.d B a52 (Z5v F52 T Z1z) (F52.e1 fun _ _ _ _ _ _ _=>rfl);have Z3c:=F53.d B a53 (Z5n F53 T) (F53.e2 fun _ _ _ _ _ _ _ _=>rfl);have Z3d:=F54.d B a54 (Z5o F54 T) (F54.e1 fun _ _ _ _ _ _ _=>rfl);have Z40:=F55.d B a55 (Z5w F55 T Zq Z28 Z3w Zl Z3x Z3c Z20 Z1a Z3y Z3d) (F55.e3 fun _ _ _ _ _ _ _ _ _=>rfl);have Zn:=F56.d B a56 (Z5h F56 T) (F56.e2 fun _ _ _ _ _ _ _ _=>rfl)
 have Z41:=F57.d B a57 (Z5x F57 T) (F57.e1 fun _ _ _ _ _ _ _=>rfl);have Z3z:=F58.d B a58 (Z5y F58 T) (F58.e2 fun _ _ _ _ _ _ _ _=>rfl);have Z2q:=F59.d B a59 (Z59 F59 T) (F59.e4 fun _ _ _ _ _ _ _ _ _ _=>rfl);have Z4m:=F60.d B a60 (Z63 F60 T Z2q) (F60.e4 fun _ _ _ _ _ _ _ _ _ _=>rfl);exact Z6a F61 T Zn Z3z Z2r Z1o Z1a Z40 Z41 Z4m
end K45
open PySem PySem.W PyProof.Rows
set_option maxRecDepth 100000 in
set_option maxHeartbeats 0 in
theorem PySem.Challenge.cw_castoff_k45_whole_farthest_is_best_holds : PySem.Challenge.rw_castoff_k45_whole_farthest_is_best.Holds := by
 refine hd45 ?_
 k_fill
 refine L2.Xy (l:=PySem.Challenge.rw_castoff_k45_whole_farthest_is_best) (n:=63) (k:=12) (x:="_law_script") (CX:=L2.CX0) (sp:=N45.Gs 432) (tp:=432) rfl (by decide) rfl ⟨rfl,by decide,by decide⟩ (fun w h Y=>PySem.W.km_in_of Y) (fun w h Y=>PySem.W.km_tabs_of Y _ (by simp)) (fun w=>by kernel_rfl) ?F ?S ?C
 case F=>
  intro w mg fa h KX G hmg;refine' K45.J7s KX G hmg ?a0 ?FF0 ?a1 ?FF1 ?a2 ?FF2 ?a3 ?FF3 ?a4 ?FF4 ?a5 ?FF5 ?MI6 ?FF6 ?MM7 ?FF7 ?MM8 ?FF8 ?MM9 ?FF9 ?MM10 ?FF10 ?a11 ?FF11 ?a12 ?FF12 ?MI13 ?FF13 ?MM14 ?FF14 ?MM15 ?FF15 ?MM16 ?FF16 ?MM17 ?FF17 ?MM18 ?FF18 ?a19 ?FF19 ?a20 ?l20 ?c20 ?k20 ?mc20 ?mh20 ?a21 ?FF21 ?a22 ?FF22 ?a23 ?FF23 ?MI24 ?FF24 ?MM25 ?FF25 ?MM26 ?FF26 ?a27 ?FF27 ?a28 ?FF28 ?a29 ?l29 ?c29 ?n29 ?k29 ?m29 ?kf29 ?fc29 ?sc29 ?rc29 ?a30 ?l30 ?c30 ?n30 ?k30 ?m30 ?kf30 ?fc30 ?sc30 ?rc30 ?MI31 ?FF31 ?MM32 ?FF32 ?MM33 ?FF33 ?MM34 ?FF34 ?a35 ?l35 ?c35 ?n35 ?k35 ?gv35 ?tv35 ?MM36 ?FF36 ?MM37 ?FF37 ?MM38 ?FF38 ?MM39 ?FF39 ?MI40 ?FF40 ?MM41 ?FF41 ?MM42 ?FF42 ?MM43 ?FF43 ?a44 ?l44 ?c44 ?n44 ?k44 ?gv44 ?tv44 ?MM45 ?FF45 ?MM46 ?FF46 ?MM47 ?FF47 ?a48 ?FF48 ?a49 ?FF49 ?a50 ?FF50 ?a51 ?FF51 ?a52 ?FF52 ?a53 ?FF53 ?a54 ?FF54 ?a55 ?FF55 ?a56 ?FF56 ?a57 ?FF57 ?a58 ?FF58 ?a59 ?FF59 ?a60 ?FF60 ?a61 ?l61 ?c61 ?k61 ?Zt ?Z9 ?Z29 ?Z2e ?Z36 ?Z0k ?Z4n ?Z0h ?Z02 ?Z2s ?Z42 ?Z43 ?Z2d ?Z19 ?Z21 ?Z0l ?Z0f ?Z0x ?Z0g ?Z0y ?Z0z ?Z44 ?EE_Stock ?Zb ?Z45 ?EE_Shelf ?Z01 ?Z03 ?Zf ?Z46 ?EE_Climb ?Z8 ?Zo ?Z4v ?EE_Rule ?Z1b ?Z10 ?Z3e ?EE_Ranked ?Z0r ?Z0j ?Z0a ?Z11 ?Z2c ?EE_Farthest ?Zu ?Zr ?Zc ?Zp ?Zk ?Z2t ?EE_Planned ?Zy ?Zv ?Zj ?Zw ?Zz
  case Z44|Z45|Z46|Z4v|Z3e|Z2c|Z2t|a0|a1|a2|a3|a4|a5|a11|a12|a19|a20|l20|c20|k20=>k_is
  case mc20=>rfl
  (case mh20=>kernel_rfl)
  case a21|a22|a23|a27|a28|a29|l29|c29|n29|k29|m29|kf29|fc29|sc29|rc29|a30|l30|c30|n30|k30|m30|kf30|fc30|sc30|rc30|a35|l35|c35|n35|k35|gv35|tv35|a44|l44|c44|n44|k44|gv44|tv44|a48|a49|a50|a51|a52|a53|a54|a55|a56|a57|a58|a59|a60|a61|l61|c61|k61|Zt|Z9|Z29|Z2e|Z36|Z0k|Z4n|Z0h|Z02|Z2s|Z42|Z43|Z2d|Z19|Z21|Z0l|Z0f|Z0x|Z0g|Z0y|Z0z|Zb|Z01|Z03|Zf|Z8|Zo|Z1b|Z10|Z0r|Z0j|Z0a|Z11|Zu|Zr|Zc|Zp|Zk|Zy|Zv|Zj|Zw|Zz=>k_is
  case EE_Stock|EE_Shelf|EE_Climb|EE_Rule|EE_Ranked|EE_Farthest|EE_Planned|MI6|MI13|MI24|MI31|MI40=>refine' ⟨?j1,?j2,?j3,?j4⟩;case j1|j2|j3|j4=>k_is
  case MM7|MM8|MM9|MM10|MM14|MM15|MM16|MM17|MM18|MM25|MM26|MM32|MM33|MM34|MM36|MM37|MM38|MM39|MM41|MM42|MM43|MM45|MM46|MM47=>refine' ⟨?j1,?j2,?j3⟩;case j1|j2|j3=>k_is
  case FF0|FF1|FF2|FF3|FF4|FF5|FF6|FF7|FF8|FF9|FF10|FF11|FF12|FF13|FF14|FF15|FF16|FF17|FF18|FF19|FF21|FF22|FF23|FF24|FF25|FF26|FF27|FF28|FF31|FF32|FF33|FF34|FF36|FF37|FF38|FF39|FF40|FF41|FF42|FF43|FF45|FF46|FF47|FF48|FF49|FF50|FF51|FF52|FF53|FF54|FF55|FF56|FF57|FF58|FF59|FF60=>refine' L2.K2 ?l ?c ?k;case l|c|k=>k_is
 case S=>exact fun K H a ns hl hO hS=>⟨a,ns,rfl,hS,hl,hO.1,fun _=>rfl⟩
 case C=>exact fun H s e s' z=>z
