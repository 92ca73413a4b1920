import PyProof.Rows.All
import KE.KSuperObj
import KE.KPairComp
import KE.KLam
import KE.KNestM
import KE.KItemsList
import KE.KUnpack
import KE.KEqDict
import KE.KFromBytes
import KE.KMinKey
import KE.KIntText
import KE.KRevIter
import KE.KDictOf
import KE.KTryMore
import KE.KBoundM
import PySem.Challenge.RW_castoff_k20_rules_refused
set_option linter.all false
set_option compiler.extract_closed false
set_option genSizeOf false
set_option Elab.async false
set_option maxRecDepth 100000
set_option maxHeartbeats 4000000
namespace PySem.W.Fast
def tw12218391067973118062:=0
def tw5598810372305622106:=0
def tw17287426442071129086:=0
def tw14815440768924887939:=0
def tw10494666057671504280:=0
def tw6139608979284365571:=0
def tw1123239241421288444:=0
def tw4043412585086651080:=0
def tw14951435706193078315:=0
def tw17609110408277639157:=0
def tw12085896058403628961:=0
def tw2631729541370407119:=0
def tw14574401012182052643:=0
def tw14531852736474733172:=0
def tw8068264537387905085:=0
def tw7595514121640770294:=0
def tw3001044707340591702:=0
def tw3271092898572480073:=0
def tw1769577036746017070:=0
def tw13479619039611753157:=0
def tw4557754627993965444:=0
def tw2625718331255874283:=0
def tw7963226680995976494:=0
def tw6534604221519279076:=0
def tw4657060536033433432:=0
def tw9616081775130246426:=0
def tw8769200863755129997:=0
def tw2198123974223215557:=0
def tw9168328000554815262:=0
def tw9512130965554024953:=0
def tw16501892653829541891:=0
def tw12273039735707641833:=0
def tw1458147424254337562:=0
def tw4318711770857824530:=0
def tw7719473691799209821:=0
def tw6818659741325653950:=0
def tw15117324095252821594:=0
def tw5739088425576661416:=0
def tw7737404425646303731:=0
def tw6688381650462765611:=0
def tw6405388695507505971:=0
def tw15537759529873316771:=0
def tw9772531924913684479:=0
def tw5560489623271589538:=0
def tw13868276965899934774:=0
def tw16083377057374716353:=0
def tw10158823462860022599:=0
def tw17210117755817770569:=0
def tw17300663294811341100:=0
def tw13959638006958385510:=0
def tw1677400080018487067:=0
def tw14875588320404371906:=0
def tw12254267189949137613:=0
def tw8312992180462914389:=0
def tw11203569074801659623:=0
def tw16530524292844625570:=0
def tw13112798555606791706:=0
def tw13116993310649929179:=0
def tw16322018618417187810:=0
def tw10815199207344155909:=0
def tw3309530188809129783:=0
def tw9163316000980528984:=0
def tw7786182312359176928:=0
def tw7840395952912439091:=0
def tw7179781764511660043:=0
def tw4526837404948403350:=0
def tw11262839990357599924:=0
def tw9577128622066765030:=0
def tw1933573174592360674:=0
def tw17562933354619728799:=0
def tw17705507106935494651:=0
def tw15691472360633009307:=0
def tw827906144692557929:=0
def tw77302122816036253:=0
def tw11135973593626383175:=0
def tw4560457388018008596:=0
def tw10112088275128630931:=0
def tw12400681744375554034:=0
def tw1808796805334305651:=0
def tw5005586868197312747:=0
def tw2596365046862805439:=0
def tw5343522022555302000:=0
def tw903286840637241678:=0
def tw10879283981092536495:=0
def tw5907504969246062436:=0
def tw11960205221083733067:=0
def tw15619657731000207565:=0
def tw6917950326018083164:=0
def tw9215545790021068366:=0
def tw10553944532177278732:=0
def tw12003702396572892444:=0
def tw9488717006978363351:=0
def tw7100968405347360827:=0
def tw5971980262601700230:=0
def tw9272918646285510793:=0
def tw8305474220858297399:=0
def tw12786320037916604391:=0
def tw17327267760802594522:=0
def tw17131309322731880819:=0
def tw16431842145658064248:=0
def tw17836686909119264509:=0
def tw10301247818930827722:=0
def tw12301352448575569907:=0
def tw6167083020118224186:=0
def tw9195560707114545163:=0
def tw16941880904640003327:=0
def tw12786316122674809398:=0
def tw6278617172150421030:=0
def tw16375449167529924265:=0
def tw9496978839131850867:=0
def tw1811419499885508471:=0
def tw14971191604725236053:=0
def tw250996739359956585:=0
def tw4838547619089062292:=0
def tw108471916894949226:=0
def tw17258547439048671984:=0
def tw10454751396646662049:=0
def tw6520803595555723885:=0
def tw6549680538660793329:=0
def tw4803104314498435673:=0
def tw1693703036258658899:=0
def tw10422204183888251446:=0
def tw12874669700201826859:=0
def tw12423077832877627057:=0
def tw4204690444814415199:=0
def tw15802493662330245506:=0
def tw5550424343289959960:=0
def tw2029820970572465682:=0
def tw9473655860507510048:=0
def tw14654607635595864416:=0
def tw2625342304852234859:=0
def tw10875108029963390967:=0
def tw850925922765582663:=0
def tw14307232582094180380:=0
def tw12558990627676614494:=0
def tw2454518954948579372:=0
def tw17913509299337126221:=0
def tw12760928543602155892:=0
def tw4438842745074352140:=0
def tw3683773385609165101:=0
def tw15597294519353284870:=0
def tw8649667384002410860:=0
def tw2914990610466153693:=0
def tw9322855279036897775:=0
def tw14446078434229639211:=0
def tw15174799894155416844:=0
def tw9527625028445672791:=0
def tw6861538969209191135:=0
def tw6433248483421171570:=0
def tw17537905343862296832:=0
def tw16965131245065100708:=0
def tw5085983009692879420:=0
def tw13787925894269713961:=0
def tw4665383055263802238:=0
def tw17437085852982642527:=0
def tw7166298454551107443:=0
def tw59521074599049142:=0
def tw1069703652468920201:=0
def tw3971844684019171351:=0
def tw12577335108020709903:=0
def tw8748166979383564629:=0
def tw11911069287740249150:=0
def tw7577256852267707425:=0
def tw11801668265906307269:=0
def tw4462197699437871298:=0
def tw970676919214281426:=0
def tw11082003675643837731:=0
def tw4809389618755662258:=0
def tw5390922785100740781:=0
def tw15044568873341845541:=0
def tw17918807695310048429:=0
def tw17462148486354129062:=0
def tw15720307055392149467:=0
def tw6128532715789456961:=0
def tw15952516385701753562:=0
def tw13403132269061091767:=0
def tw3948956876455888577:=0
def tw4547091178692569517:=0
def tw7512980621522319005:=0
def tw8897104385896623760:=0
def tw2561571019270952013:=0
def tw7460618713756519543:=0
def tw13329201448463758792:=0
def tw8281380116042797459:=0
def tw226857901864581085:=0
def tw14293181414508342685:=0
def tw518867015353598081:=0
def tw1069762078115798925:=0
def tw6659362835321552881:=0
def tw2875584317859086905:=0
def tw2698981570395477813:=0
def tw13895402015821486840:=0
def tw11874210173133375981:=0
def tw3055414745538222602:=0
def tw26037257576413457:=0
def tw16688339792888480429:=0
def tw14386998147509196611:=0
def tw12994697895588396833:=0
def tw376166883933421636:=0
def tw8631813096080030672:=0
def tw2819542016705838374:=0
def tw3970055723979821212:=0
def tw34074315782198969:=0
def tw5632945994962437606:=0
def tw3019064544328718643:=0
def tw9228779148789240272:=0
def tw18313623535096346645:=0
def tw1222597937421630375:=0
def tw1623644695822261682:=0
def tw2603694285214994468:=0
def tw6077430846527501021:=0
def tw2291489605705265361:=0
def tw16655978776229628877:=0
def tw11741971522757702443:=0
def tw5932443463894213025:=0
def tw17957311681359650566:=0
def tw13775695330731943002:=0
def tw16047691842518432981:=0
def tw11771596077799687271:=0
def tw11619407582347253260:=0
def tw12439351149038619806:=0
def tw10862821133907245177:=0
def tw11423863427444915688:=0
def tw5508062917924811037:=0
def tw347098314652017303:=0
def tw9638929184413885212:=0
def tw10483922014911696986:=0
def tw17143679554373439242:=0
def tw9908156527365049812:=0
def tw15666064415499766250:=0
def tw10456251610668209760:=0
def tw15389013448752659179:=0
def tw8265335553103545503:=0
def tw2181128614270295894:=0
def tw9510036252189384411:=0
def tw12247945357275388808:=0
def tw15593946438228169702:=0
def tw14178284299142447813:=0
def tw16296446785598384228:=0
def tw6302653248503508550:=0
def tw12993253811395306320:=0
def tw17976656147559569317:=0
def tw2723293197253414938:=0
def tw1537994747918028398:=0
def tw503143579861822645:=0
def tw11953452839068009168:=0
def tw5498585673215873214:=0
def tw5342452675955265021:=0
def tw15180054286840959115:=0
def tw8177149594763468673:=0
def tw15432061540836746328:=0
def tw6317656427182209397:=0
def tw5333826145715064447:=0
def tw3826777597105943085:=0
def tw8427950967512968674:=0
def tw12043961582089655256:=0
def tw7909112270806587397:=0
def tw11894382800225988394:=0
def tw1296734089493496746:=0
def tw15520650221446829980:=0
def tw174345847774253788:=0
def tw14896319707812596515:=0
def tw17066361545658989112:=0
def tw13944459043516646642:=0
def tw1228405155297122241:=0
def tw10296034625185720160:=0
def tw14035668010834661301:=0
def tw15751800214428054361:=0
def tw4196290360591867301:=0
def tw5559647805190483760:=0
def tw12392882641951803058:=0
def tw10280377227216475167:=0
def tw14364320186141412107:=0
def tw9489754987595247791:=0
def tw11204279097791119116:=0
def tw10750839701081876919:=0
def tw4947429195916273318:=0
def tw9223796649778458393:=0
def tw17488327881369654228:=0
def tw6778703622668524082:=0
def tw14329722789712656578:=0
def tw9438978768353361527:=0
def tw6881956720663479799:=0
def tw4005928700071464457:=0
def tw8596227710701599727:=0
def tw14241909096596922828:=0
def tw15038860285402327597:=0
def tw13433857398640357313:=0
def tw9166398121321519408:=0
def tw13252878528027513120:=0
def tw3490232530115805065:=0
def tw7766592491875411536:=0
def tw2220990833134439989:=0
def tw12975197436995844331:=0
def tw14160534144305472292:=0
def tw11321966231623989989:=0
def tw4034681021157186989:=0
def tw10731422587645532714:=0
def tw17317256493505040388:=0
def tw4241786281824093266:=0
def tw17476087245313130118:=0
def tw8267521923267005014:=0
def tw8924459302269360853:=0
def tw9925610386521878854:=0
def tw6359181809236871382:=0
def tw17051065966624756846:=0
def tw4577070734818137205:=0
def tw280181403621581761:=0
def tw2133477362649772674:=0
def tw8491076195407480327:=0
def tw18426579464327401822:=0
def tw5734889912518000463:=0
def tw13673666221417708028:=0
def tw7692675092004797133:=0
def tw17596186585838638055:=0
def tw11463975253321840431:=0
def tw9749968610678834267:=0
def tw15788797468059082038:=0
def tw2752619571733662125:=0
def tw9365059123122957874:=0
def tw13493735905198103105:=0
def tw13950991843318118529:=0
def tw880741714195434258:=0
def tw1967878514945730022:=0
def tw2075447846510465827:=0
def tw14346067004436438955:=0
def tw4717294627738625464:=0
def tw16903121761667626045:=0
def tw10358782707197188617:=0
def tw14309181092073454837:=0
def tw17381475571352164559:=0
def tw11257184373701493708:=0
def tw17806797799235637306:=0
def tw4799829839480756084:=0
def tw529218310418372394:=0
def tw14786568371235419562:=0
def tw8484045034433794381:=0
def tw13105197941352650716:=0
def tw11317940294280758503:=0
def tw1606940270527986445:=0
def tw17503318822576857508:=0
def tw7270613837407356788:=0
def tw6023208815797149373:=0
def tw2279358425391086632:=0
def tw10616327436340964094:=0
def tw17873787463315731749:=0
def tw6375917909958026342:=0
def tw11684644340338223619:=0
def tw4306248210029460300:=0
def tw9504361203138145220:=0
def tw10403877072277845668:=0
def tw12414850858154666008:=0
def tw138630097531635132:=0
def tw10023999568571521138:=0
def tw5928431981723327917:=0
def tw10948339769236480030:=0
def tw12545797111003203246:=0
def tw6469962910919721301:=0
def tw5149902899165925192:=0
def tw7984724218531868609:=0
def tw3549301144000635230:=0
def tw16340735861826520525:=0
def tw17479211545099489205:=0
def tw13478922659348380116:=0
def tw9541561572344297321:=0
def tw11178204922780477846:=0
def tw12329174996680793228:=0
def tw17259459840765746215:=0
def tw16785992608671340398:=0
def tw13142562876314236079:=0
def tw7022577026914383958:=0
def tw16424258205528035127:=0
def tw8998489693364896445:=0
def tw3448320469183312926:=0
def tw18396215571445415213:=0
def tw15548020339423987738:=0
def tw17821682539917276246:=0
def tw9043976226403083914:=0
def tw8045473245166736600:=0
def tw2558135433302481290:=0
def tw14535323422759921547:=0
def tw257870919601762204:=0
def tw15487860069309849664:=0
def tw14746219898962712095:=0
def tw7045521214624183228:=0
def tw13708698653924532315:=0
def tw12165254166986686344:=0
def tw17007788872595024338:=0
def tw10207114030667484216:=0
def tw17542192680181606752:=0
def tw1594723795807167384:=0
def tw2651319005277588877:=0
def tw17848736984013168293:=0
def tw10169914741215801276:=0
def tw8757936289507706725:=0
def tw6006486339276885563:=0
def tw13388956094299354151:=0
def tw11920147523503551719:=0
def tw7786895476098503704:=0
def tw6081867353878291205:=0
def tw7005849179616790647:=0
def tw16973726848205281468:=0
end PySem.W.Fast
section
open PySem PySem.W PyProof.Rows
set_option maxHeartbeats 0
open_top hd20 for PySem.Challenge.rw_castoff_k20_rules_refused
end
namespace L2
section
variable{A B C D F G H I J K L M N O Q R:Sort _}{Z:Prop}
theorem x1{p:A->Prop}(e:∃a,p a)(z:∀a,p a->Z):Z:=e.elim z
theorem x2{p:A->B->Prop}(e:∃a b,p a b)(z:∀a b,p a b->Z):Z:=e.elim λa e=>x1 e (z a)
theorem x3{p:A->B->C->Prop}(e:∃a b c,p a b c)(z:∀a b c,p a b c->Z):Z:=e.elim λa e=>x2 e (z a)
theorem x4{p:A->B->C->D->Prop}(e:∃a b c d,p a b c d)(z:∀a b c d,p a b c d->Z):Z:=e.elim λa e=>x3 e (z a)
theorem x5{p:A->B->C->D->F->Prop}(e:∃a b c d f,p a b c d f)(z:∀a b c d f,p a b c d f->Z):Z:=e.elim λa e=>x4 e (z a)
theorem x6{p:A->B->C->D->F->G->Prop}(e:∃a b c d f g,p a b c d f g)(z:∀a b c d f g,p a b c d f g->Z):Z:=e.elim λa e=>x5 e (z a)
theorem x7{p:A->B->C->D->F->G->H->Prop}(e:∃a b c d f g h,p a b c d f g h)(z:∀a b c d f g h,p a b c d f g h->Z):Z:=e.elim λa e=>x6 e (z a)
theorem x8{p:A->B->C->D->F->G->H->I->Prop}(e:∃a b c d f g h i,p a b c d f g h i)(z:∀a b c d f g h i,p a b c d f g h i->Z):Z:=e.elim λa e=>x7 e (z a)
theorem x9{p:A->B->C->D->F->G->H->I->J->Prop}(e:∃a b c d f g h i j,p a b c d f g h i j)(z:∀a b c d f g h i j,p a b c d f g h i j->Z):Z:=e.elim λa e=>x8 e (z a)
theorem x10{p:A->B->C->D->F->G->H->I->J->K->Prop}(e:∃a b c d f g h i j k,p a b c d f g h i j k)(z:∀a b c d f g h i j k,p a b c d f g h i j k->Z):Z:=e.elim λa e=>x9 e (z a)
theorem x11{p:A->B->C->D->F->G->H->I->J->K->L->Prop}(e:∃a b c d f g h i j k l,p a b c d f g h i j k l)(z:∀a b c d f g h i j k l,p a b c d f g h i j k l->Z):Z:=e.elim λa e=>x10 e (z a)
theorem x12{p:A->B->C->D->F->G->H->I->J->K->L->M->Prop}(e:∃a b c d f g h i j k l m,p a b c d f g h i j k l m)(z:∀a b c d f g h i j k l m,p a b c d f g h i j k l m->Z):Z:=e.elim λa e=>x11 e (z a)
theorem x13{p:A->B->C->D->F->G->H->I->J->K->L->M->N->Prop}(e:∃a b c d f g h i j k l m n,p a b c d f g h i j k l m n)(z:∀a b c d f g h i j k l m n,p a b c d f g h i j k l m n->Z):Z:=e.elim λa e=>x12 e (z a)
theorem v2{p:A->B->Prop}(a)(b)(e:p a b):∃a b,p a b:=⟨a,b,e⟩
theorem v3{p:A->B->C->Prop}(a)(b)(c)(e:p a b c):∃a b c,p a b c:=⟨a,v2 b c e⟩
theorem v4{p:A->B->C->D->Prop}(a)(b)(c)(d)(e:p a b c d):∃a b c d,p a b c d:=⟨a,v3 b c d e⟩
theorem v5{p:A->B->C->D->F->Prop}(a)(b)(c)(d)(f)(e:p a b c d f):∃a b c d f,p a b c d f:=⟨a,v4 b c d f e⟩
theorem v6{p:A->B->C->D->F->G->Prop}(a)(b)(c)(d)(f)(g)(e:p a b c d f g):∃a b c d f g,p a b c d f g:=⟨a,v5 b c d f g e⟩
theorem v7{p:A->B->C->D->F->G->H->Prop}(a)(b)(c)(d)(f)(g)(h)(e:p a b c d f g h):∃a b c d f g h,p a b c d f g h:=⟨a,v6 b c d f g h e⟩
theorem v8{p:A->B->C->D->F->G->H->I->Prop}(a)(b)(c)(d)(f)(g)(h)(i)(e:p a b c d f g h i):∃a b c d f g h i,p a b c d f g h i:=⟨a,v7 b c d f g h i e⟩
theorem v9{p:A->B->C->D->F->G->H->I->J->Prop}(a)(b)(c)(d)(f)(g)(h)(i)(j)(e:p a b c d f g h i j):∃a b c d f g h i j,p a b c d f g h i j:=⟨a,v8 b c d f g h i j e⟩
theorem v10{p:A->B->C->D->F->G->H->I->J->K->Prop}(a)(b)(c)(d)(f)(g)(h)(i)(j)(k)(e:p a b c d f g h i j k):∃a b c d f g h i j k,p a b c d f g h i j k:=⟨a,v9 b c d f g h i j k e⟩
theorem v11{p:A->B->C->D->F->G->H->I->J->K->L->Prop}(a)(b)(c)(d)(f)(g)(h)(i)(j)(k)(l)(e:p a b c d f g h i j k l):∃a b c d f g h i j k l,p a b c d f g h i j k l:=⟨a,v10 b c d f g h i j k l e⟩
variable{V:Type}{v:List V}{t:Nat}
theorem n0{f:List V}{p:Prop}(e:v=f/\p)(z:f.length=t):v.length=t:=e.1▸z
theorem n1{u:A->List V}{p:A->Prop}(e:∃a,v=u a/\p a)(z:∀a,(u a).length=t):v.length=t:=e.elim λa e=>n0 e (z a)
theorem n2{u:A->B->List V}{p:A->B->Prop}(e:∃a b,v=u a b/\p a b)(z:∀a b,(u a b).length=t):v.length=t:=e.elim λa e=>n1 e (z a)
theorem n3{u:A->B->C->List V}{p:A->B->C->Prop}(e:∃a b c,v=u a b c/\p a b c)(z:∀a b c,(u a b c).length=t):v.length=t:=e.elim λa e=>n2 e (z a)
theorem n4{u:A->B->C->D->List V}{p:A->B->C->D->Prop}(e:∃a b c d,v=u a b c d/\p a b c d)(z:∀a b c d,(u a b c d).length=t):v.length=t:=e.elim λa e=>n3 e (z a)
theorem n5{u:A->B->C->D->F->List V}{p:A->B->C->D->F->Prop}(e:∃a b c d f,v=u a b c d f/\p a b c d f)(z:∀a b c d f,(u a b c d f).length=t):v.length=t:=e.elim λa e=>n4 e (z a)
theorem n6{u:A->B->C->D->F->G->List V}{p:A->B->C->D->F->G->Prop}(e:∃a b c d f g,v=u a b c d f g/\p a b c d f g)(z:∀a b c d f g,(u a b c d f g).length=t):v.length=t:=e.elim λa e=>n5 e (z a)
theorem n7{u:A->B->C->D->F->G->H->List V}{p:A->B->C->D->F->G->H->Prop}(e:∃a b c d f g h,v=u a b c d f g h/\p a b c d f g h)(z:∀a b c d f g h,(u a b c d f g h).length=t):v.length=t:=e.elim λa e=>n6 e (z a)
theorem n8{u:A->B->C->D->F->G->H->I->List V}{p:A->B->C->D->F->G->H->I->Prop}(e:∃a b c d f g h i,v=u a b c d f g h i/\p a b c d f g h i)(z:∀a b c d f g h i,(u a b c d f g h i).length=t):v.length=t:=e.elim λa e=>n7 e (z a)
theorem n9{u:A->B->C->D->F->G->H->I->J->List V}{p:A->B->C->D->F->G->H->I->J->Prop}(e:∃a b c d f g h i j,v=u a b c d f g h i j/\p a b c d f g h i j)(z:∀a b c d f g h i j,(u a b c d f g h i j).length=t):v.length=t:=e.elim λa e=>n8 e (z a)
theorem n10{u:A->B->C->D->F->G->H->I->J->K->List V}{p:A->B->C->D->F->G->H->I->J->K->Prop}(e:∃a b c d f g h i j k,v=u a b c d f g h i j k/\p a b c d f g h i j k)(z:∀a b c d f g h i j k,(u a b c d f g h i j k).length=t):v.length=t:=e.elim λa e=>n9 e (z a)
theorem n11{u:A->B->C->D->F->G->H->I->J->K->L->List V}{p:A->B->C->D->F->G->H->I->J->K->L->Prop}(e:∃a b c d f g h i j k l,v=u a b c d f g h i j k l/\p a b c d f g h i j k l)(z:∀a b c d f g h i j k l,(u a b c d f g h i j k l).length=t):v.length=t:=e.elim λa e=>n10 e (z a)
theorem n12{u:A->B->C->D->F->G->H->I->J->K->L->M->List V}{p:A->B->C->D->F->G->H->I->J->K->L->M->Prop}(e:∃a b c d f g h i j k l m,v=u a b c d f g h i j k l m/\p a b c d f g h i j k l m)(z:∀a b c d f g h i j k l m,(u a b c d f g h i j k l m).length=t):v.length=t:=e.elim λa e=>n11 e (z a)
theorem n13{u:A->B->C->D->F->G->H->I->J->K->L->M->N->List V}{p:A->B->C->D->F->G->H->I->J->K->L->M->N->Prop}(e:∃a b c d f g h i j k l m n,v=u a b c d f g h i j k l m n/\p a b c d f g h i j k l m n)(z:∀a b c d f g h i j k l m n,(u a b c d f g h i j k l m n).length=t):v.length=t:=e.elim λa e=>n12 e (z a)
end
section
variable{A B C D F G H I J K L M N O Q R S T U W X Y Z:Prop}
theorem y2(e:A/\B)(z:A->B->Z):Z:=z e.1 e.2
theorem y3(e:A/\B/\C)(z:A->B->C->Z):Z:=y2 e.2 (z e.1)
theorem y4(e:A/\B/\C/\D)(z:A->B->C->D->Z):Z:=y3 e.2 (z e.1)
theorem y5(e:A/\B/\C/\D/\F)(z:A->B->C->D->F->Z):Z:=y4 e.2 (z e.1)
theorem y6(e:A/\B/\C/\D/\F/\G)(z:A->B->C->D->F->G->Z):Z:=y5 e.2 (z e.1)
theorem y7(e:A/\B/\C/\D/\F/\G/\H)(z:A->B->C->D->F->G->H->Z):Z:=y6 e.2 (z e.1)
theorem y8(e:A/\B/\C/\D/\F/\G/\H/\I)(z:A->B->C->D->F->G->H->I->Z):Z:=y7 e.2 (z e.1)
theorem y9(e:A/\B/\C/\D/\F/\G/\H/\I/\J)(z:A->B->C->D->F->G->H->I->J->Z):Z:=y8 e.2 (z e.1)
theorem y10(e:A/\B/\C/\D/\F/\G/\H/\I/\J/\K)(z:A->B->C->D->F->G->H->I->J->K->Z):Z:=y9 e.2 (z e.1)
theorem y11(e:A/\B/\C/\D/\F/\G/\H/\I/\J/\K/\L)(z:A->B->C->D->F->G->H->I->J->K->L->Z):Z:=y10 e.2 (z e.1)
theorem y12(e:A/\B/\C/\D/\F/\G/\H/\I/\J/\K/\L/\M)(z:A->B->C->D->F->G->H->I->J->K->L->M->Z):Z:=y11 e.2 (z e.1)
theorem y13(e:A/\B/\C/\D/\F/\G/\H/\I/\J/\K/\L/\M/\N)(z:A->B->C->D->F->G->H->I->J->K->L->M->N->Z):Z:=y12 e.2 (z e.1)
theorem y14(e:A/\B/\C/\D/\F/\G/\H/\I/\J/\K/\L/\M/\N/\O)(z:A->B->C->D->F->G->H->I->J->K->L->M->N->O->Z):Z:=y13 e.2 (z e.1)
theorem y15(e:A/\B/\C/\D/\F/\G/\H/\I/\J/\K/\L/\M/\N/\O/\Q)(z:A->B->C->D->F->G->H->I->J->K->L->M->N->O->Q->Z):Z:=y14 e.2 (z e.1)
theorem y16(e:A/\B/\C/\D/\F/\G/\H/\I/\J/\K/\L/\M/\N/\O/\Q/\R)(z:A->B->C->D->F->G->H->I->J->K->L->M->N->O->Q->R->Z):Z:=y15 e.2 (z e.1)
theorem y17(e:A/\B/\C/\D/\F/\G/\H/\I/\J/\K/\L/\M/\N/\O/\Q/\R/\S)(z:A->B->C->D->F->G->H->I->J->K->L->M->N->O->Q->R->S->Z):Z:=y16 e.2 (z e.1)
theorem y18(e:A/\B/\C/\D/\F/\G/\H/\I/\J/\K/\L/\M/\N/\O/\Q/\R/\S/\T)(z:A->B->C->D->F->G->H->I->J->K->L->M->N->O->Q->R->S->T->Z):Z:=y17 e.2 (z e.1)
end
end L2
open Lean in
local macro_rules
 | `(tactic| obtain⟨$ps,*⟩:=$h:term)=>do
  let ps:=ps.getElems
  let n:=ps.size
  if n < 4 || n > 38 then Macro.throwUnsupported
  let fr (s : String) : MacroM (TSyntax `ident):=return mkIdent (<- Macro.addMacroScope (.mkSimple s))
  let mut ns : Array (TSyntax `term):=#[]
  let mut post : Array (TSyntax `tactic):=#[]
  for p in ps do
   if !p.raw[1].isNone || p.raw[0][0].getArgs.size != 1 then Macro.throwUnsupported
   let q:=p.raw[0][0][0]
   if q.getKind == `Lean.Parser.Tactic.rcasesPat.one && q[0].getId != `rfl then ns:=ns.push ⟨q[0]⟩
   else if q.getKind == `Lean.Parser.Tactic.rcasesPat.ignore then ns:=ns.push (<- `(_))
   else
    let t <- fr s!"t{ns.size}"
    ns:=ns.push t
    let m : TSyntax `Lean.Parser.Tactic.rcasesPatMed:=⟨p.raw[0]⟩
    post:=post.push (<- `(tactic| obtain $m := $t:term))
  let one:=h.raw.isIdent && (match h.raw.getId.eraseMacroScopes with | .str .anonymous _=>true | _=>false)
  let hh <- fr "hh"
  let e <- fr "e"
  let src : TSyntax `term:=if one then hh else h
  let mut main <- `(tactic| fail)
  for k in [0:n] do
   let r:=n - k
   if k > 13 || r > 18 then continue
   let (bs, cs):=(ns.extract 0 k, ns.extract k n)
   let x:=mkIdent (`L2 ++ .mkSimple s!"x{k}")
   let y:=mkIdent (`L2 ++ .mkSimple s!"y{r}")
   let a <- if k == 0 then `(tactic| with_reducible refine $y $src fun $cs*=>?_)
    else if r == 1 then `(tactic| with_reducible refine $x $src fun $bs* $cs*=>?_)
    else `(tactic| (with_reducible refine $x $src fun $bs* $e=>$y $e fun $cs*=>?_; clear $e))
   main <- `(tactic| first | $main:tactic | $a:tactic)
  if one then `(tactic| (revert $h; intro $hh:ident; $main:tactic; clear $hh; $[$post:tactic];*))
  else `(tactic| ($main:tactic; $[$post:tactic];*))
open Lean in
local macro_rules
 | `(tactic| rintro $ps*)=>do
  let n:=ps.size
  if n == 0 then Macro.throwUnsupported
  let l:=ps[n-1]!.raw[0]
  if l.getKind != `Lean.Parser.Tactic.rcasesPat.tuple then Macro.throwUnsupported
  let mut ns : Array (TSyntax `term):=#[]
  for p in ps.pop do
   let q:=p.raw[0]
   if q.getKind == `Lean.Parser.Tactic.rcasesPat.one && q[0].getId != `rfl then ns:=ns.push ⟨q[0]⟩ else Macro.throwUnsupported
  let t <- Macro.addMacroScope `hr
  let t:=mkIdent t
  let m : TSyntax `Lean.Parser.Tactic.rcasesPatMed:=⟨mkNode `Lean.Parser.Tactic.rcasesPatMed #[mkNullNode #[l]]⟩
  `(tactic| (intro $ns* $t:ident; obtain $m := $t:term))
open Lean in
def hv (xs : Array Term) (f : Term -> MacroM (TSyntax `tactic)) : MacroM (TSyntax `tactic):=do
  let n:=xs.size
  if n < 4 || n > 38 then Macro.throwUnsupported
  let mut main <- `(tactic| fail)
  let a:=mkIdent (<- Macro.addMacroScope `a)
  for k in [2:n] do
   if k > 11 then continue
   let mut g <- if n - k == 1 then `(_) else `(_ /\ _)
   for _ in [0:k] do g <- `(∃ $a:ident, $g)
   let (bs, cs):=(xs.extract 0 k, xs.extract k n)
   let c <- if n - k == 1 then pure cs[0]! else `(⟨$cs,*⟩)
   let v:=mkIdent (`L2 ++ .mkSimple s!"v{k}")
   let t <- f (<- `($v $bs* $c))
   main <- `(tactic| first | $main:tactic | (guard_target =~ $g; $t:tactic))
  return main
local macro_rules | `(tactic| refine⟨$xs,*⟩)=>hv xs.getElems λt=>`(tactic| refine $t)
local macro_rules | `(tactic| exact⟨$xs,*⟩)=>hv xs.getElems λt=>`(tactic| exact $t)
local macro_rules | `(tactic| omega)=>`(tactic| lia)
def Fa:=@List.length_map
def Fb:=@List.getElem?_eq_getElem
def Fc:=@PySem.wpAny_bind
def Fd:=@List.getD_eq_getElem?_getD
def Fe:=@PySem.Heap.get?_push_of_some
def Ff:=@List.getElem?_map
def Fg:=@Nat.le_refl
def Fh:=@List.getElem?_eq_some_iff
def Fi:=@List.size_toArray
def Fj:=@decide_eq_true
def Fk:=@List.mem_cons_of_mem
def Fl:=@Nat.lt_of_lt_of_le
def Fm:=@PySem.Heap.lt_size
def Fn:=@List.length_append
def Fo:=@List.mem_singleton
def Fp:=@Bool.false_ne_true
def Fq:=@List.mem_of_getElem?
def Fs:=@decide_eq_false
def Ft:=@List.mem_cons
def Fu:=@PySem.wpAny_pure
def Fv:=@Nat.ne_of_lt
def Fw:=@List.mem_append_right
def Fx:=@PySem.F.plainAttrs_list
def Fy:=@PySem.Heap.get?_push_size
def Fz:=@List.map_append
def FA:=@List.map_map
def FB:=@List.mem_append
def FC:=@List.mem_cons_self
def FD:=@Int.emod_lt_of_pos
def FE:=@Nat.le_trans
def FF:=@List.length_take
def FG:=@Option.some.inj
def FH:=@Int.emod_nonneg
def FJ:=@List.getElem?_append_right
def FK:=@List.mem_map
def FL:=@List.mem_iff_getElem?
def FM:=@List.not_mem_nil
def FN:=@PySem.wpAny_mono
def FO:=@PySem.boot_len
def FP:=@Nat.zero_le
def FQ:=@List.getElem?_append_left
def FR:=@PySem.F.type_list_append
def FS:=@PySem.F.slot_list_append
def FT:=@List.lookup_cons
def FU:=@PySem.W.kia_one
def FV:=@PySem.wpAny_Call_Name_kw
def FW:=@PySem.W.callWith_K
def FX:=@List.mem_append_left
def FY:=@List.all_eq_true
def FZ:=@PySem.F.plain_min_loop
def Ha:=@List.append_nil
def Hb:=@List.mem_of_mem_erase
def Hc:=@List.length_drop
def Hd:=@PySem.wpAny_truthy_bool
def He:=@List.take_add_one
def Hf:=@List.nodup_append
def Hg:=@List.append_assoc
def Hh:=@beq_eq_false_iff_ne
def Hi:=@List.length_pos_iff
def Hj:=@List.getElem_mem
def Hk:=@Nat.lt_of_le_of_lt
def Hl:=@List.length_replicate
def Hm:=@List.length_range
def Hn:=@List.count_append
def Ho:=@Option.isSome_iff_exists
def Hq:=@Nat.lt_irrefl
def Hr:=@PySem.mem_of_lookup
def Hs:=@Bool.and_eq_true
def Ht:=@PySem.codeAny_mono
def Hu:=@Nat.le_of_eq
def Hv:=@List.length_pos_of_mem
def Hw:=@List.count_pos_iff
def Hy:=@PySem.Heap.get?_update_other
def Hz:=@PySem.wpAny_passesOwn
def HA:=@Option.map_some
def HB:=@List.nodup_cons
def HC:=@PySem.wpAny_holding
def HD:=@List.getElem?_eq_none
def HE:=@PyProof.Rows.callWith_type1
def HF:=@Nat.le_succ
def HG:=@List.perm_append_singleton
def HI:=@Array.getElem?_eq_some_iff
def HJ:=@PySem.W.plainGet_of
def HK:=@List.replicate_succ
def HL:=@List.map_congr_left
def HM:=@List.filterMap_cons
def HN:=@PySem.F.type_list_remove
def HP:=@PySem.F.slot_list_remove
def HQ:=@List.length_erase_of_mem
def HR:=@List.find?_cons
def HS:=@PySem.wpAny_call
def HU:=@PySem.tupleKind_room_in1
def HV:=@beq_iff_eq
def HW:=@PySem.wpAny_tryCatch
def HX:=@PySem.wpAny_loadPart_at
def HY:=@List.nodup_nil
def HZ:=@PySem.W.methodCall_KW
def R0:=@Bool.and_eq_false_iff
def R1:=@beq_self_eq_true
def R3:=@Nat.lt_succ_self
def R5:=@List.any_cons
def R6:=@List.mem_of_mem_take
def R7:=@List.length_erase_le
def R8:=@Int.le_refl
def R9:=@PySem.Heap.get?_none_of_le
def Ra:=@PySem.wpAny_execs_nil
def Rb:=@List.mem_filter
def Rc:=@Bool.eq_iff_iff
def Re:=@Array.length_toList
def Rf:=@List.flatten_cons
def Rg:=@PySem.wpAny_standAt
def Rh:=@PySem.F.plainAttrs_dict
def Ri:=@Option.bind_some
def Rj:=@List.length_eq_zero_iff
def Rk:=@List.eraseIdx_cons_succ
def Rl:=@List.any_eq_true
def Rm:=@PySem.call_meets
def Rn:=@PySem.W.cellsFrom_some
def Ro:=@PySem.F.entry_min_loop
def Rp:=@List.take_of_length_le
def Rq:=@List.getElem?_set_self
def Rr:=@List.range_succ
def Rt:=@List.of_mem_zip
def Ru:=@PySem.F.slot_dict_get
def Rv:=@PySem.Heap.get?_update_self
def Rx:=@PySem.wpAny_loadPart
def Ry:=@PySem.sizeLine_eq
def Rz:=@PySem.codeAny_call_builtin
def RA:=@List.mem_range
def RB:=@List.getElem?_set_ne
def RC:=@List.getElem?_range
def RD:=@PySem.Heap.SameBut.update
def RE:=@PySem.plainId_quiet
def RF:=@List.mem_filterMap
def RG:=@PySem.wpAny_pyIter_list
def RH:=@of_decide_eq_true
def RJ:=@PySem.call_meetsIn
def RK:=@Option.isSome_map
def RL:=@Nat.lt_succ_of_lt
def RM:=@PySem.wpAny_lookBehind
def RN:=@PySem.pastItsLine_dict
def RO:=@Option.getD_none
def RP:=@List.take_length
def RQ:=@PySem.wpAny_letGo
def RS:=@PySem.wpAny_field
def RT:=@Nat.le_zero
noncomputable section
open PySem PySem.Spec PyProof.Rows
namespace L2
abbrev Key:=Sum Int Str
def M9:Key->Value->Bool
 | .inl k,v=>Value.isInt k v
 | .inr x,v=>Value.isStrOf x v
def Jc7(w:World):Key->Int
 | .inl k=>hashInt k
 | .inr x=>hashStr w x
theorem Bw:∀{k:Key}{v:Value},M9 k v=true->(∃i t,k=Sum.inl i/\v=Value.int i t)\/(∃x t,k=Sum.inr x/\v=Value.str x t)
 | .inl i,v,h=>by
  obtain⟨t,e⟩:=Value.isInt_shape (k:=i) (v:=v) h;exact .inl ⟨i,t,rfl,e⟩
 | .inr x,v,h=>by
  obtain⟨t,e⟩:=Value.isStrOf_shape (x:=x) (v:=v) h;exact .inr ⟨x,t,rfl,e⟩
theorem Yd(i:Int)(t:Tok):M9 (.inl i) (.int i t)=true:=by simp[M9,Value.isInt]
theorem Ye(x:Str)(t:Tok):M9 (.inr x) (.str x t)=true:=by simp[M9,Value.isStrOf]
theorem J8b(a b:Int):decide ((Sum.inl a:Key)=Sum.inl b)=(a==b):=by
 by_cases e:a=b
 . subst e;simp
 . have h:¬(Sum.inl a:Key)=Sum.inl b:=λq=>e (Sum.inl.inj q)
   rw[Fs h];exact(Hh.mpr e).symm
theorem J8c(a b:Str):decide ((Sum.inr a:Key)=Sum.inr b)=decide (a=b):=by
 by_cases e:a=b
 . subst e;simp
 . have h:¬(Sum.inr a:Key)=Sum.inr b:=λq=>e (Sum.inr.inj q)
   rw[Fs h,Fs e]
theorem J8d(a:Int)(b:Str):decide ((Sum.inl a:Key)=Sum.inr b)=false:=Fs (λq=>nomatch q)
theorem J8e(a:Str)(b:Int):decide ((Sum.inr a:Key)=Sum.inl b)=false:=Fs (λq=>nomatch q)
def Bb(prog:Program)(w:World):PySem.KeyKind prog w Key where
 is:=M9
 hash:=Jc7 w
 inj:=λv a b ha hb=>by
  rcases Bw ha with ⟨i,t,rfl,rfl⟩ | ⟨x,t,rfl,rfl⟩
  . rcases Bw hb with ⟨j,u,rfl,e⟩ | ⟨y,u,rfl,e⟩
    . injection e with e1 _;rw[e1]
    . exact nomatch e
  . rcases Bw hb with ⟨j,u,rfl,e⟩ | ⟨y,u,rfl,e⟩
    . exact nomatch e
    . injection e with e1 _;rw[e1]
 byValue:=λk v h=>by
   rcases Bw h with ⟨i,t,rfl,rfl⟩ | ⟨x,t,rfl,rfl⟩ <;> rfl
 pyHash:=λhv h=>by
  rcases Bw hv with ⟨i,t,rfl,rfl⟩ | ⟨x,t,rfl,rfl⟩
  . exact wpAny_pyHash_int h
  . exact wpAny_pyHash_str h
 eqBool:=λhu hv h=>by
  rcases Bw hu with ⟨i,t,rfl,rfl⟩ | ⟨x,t,rfl,rfl⟩
  . rcases Bw hv with ⟨j,u,rfl,rfl⟩ | ⟨y,u,rfl,rfl⟩
    . rw[J8b]at h;exact wpAny_eqBool_int h
    . rw[J8d]at h;exact SeqAt.EqAt.int_str i t y u _ _ _ _ h
  . rcases Bw hv with ⟨j,u,rfl,rfl⟩ | ⟨y,u,rfl,rfl⟩
    . rw[J8e]at h;exact SeqAt.EqAt.str_int x t j u _ _ _ _ h
    . rw[J8c]at h;exact wpAny_eqBool_str h
 «strs»:=λk x t v h=>by
  rcases Bw h with ⟨i,u,rfl,e⟩ | ⟨y,u,rfl,e⟩
  . exact nomatch e
  . injection e with e1 _
    subst e1
    cases v <;> rfl
theorem Qw(prog:Program)(w:World)(i:Int)(t:Tok):(Bb prog w).is (.inl i) (.int i t)=true:=Yd i t
theorem Qx(prog:Program)(w:World)(x:Str)(t:Tok):(Bb prog w).is (.inr x) (.str x t)=true:=Ye x t
inductive V where
 | non | bl (b:Bool) | int (i:Int) | str (x:Str) | byt (b:Array UInt8) | flt (b:UInt64) | ref (a:Addr) | ty (n:String)
 deriving DecidableEq
def Au:V->Value->Prop
 | .non,u=>u=Value.none
 | .bl b,u=>u=Value.bool b
 | .int i,u=>∃t,u=Value.int i t
 | .str x,u=>∃t,u=Value.str x t
 | .byt b,u=>∃t,u=Value.bytes b t
 | .flt b,u=>∃t,u=Value.float b t
 | .ref a,u=>u=Value.ref a
 | .ty n,u=>u=Value.type n
abbrev Ay:List V->List Value->Prop:=Paired Au
theorem Ay.length{xs:List V}{us:List Value}(r:Ay xs us):xs.length=us.length:=Paired.length r
theorem Ay.get:∀{xs:List V}{us:List Value}{i:Nat}{x:V},Ay xs us->xs[i]?=some x->∃u,us[i]?=some u/\Au x u
 | _,_,_,_,.nil,e=>by simp at e
 | _,_,0,_,.cons r _,e=>by simp at e;subst e;exact⟨_,rfl,r⟩
 | _,_,i+1,x,.cons _ t,e=>by
  obtain⟨u,h1,h2⟩:=Ay.get (i:=i) (x:=x) t (by simpa using e);exact⟨u,by simpa using h1,h2⟩
theorem Ay.append:∀{xs ys:List V}{us ws:List Value},Ay xs us->Ay ys ws->Ay (xs++ys) (us++ws)
 | _,_,_,_,.nil,s=>s
 | _,_,_,_,.cons r t,s=> .cons r (Ay.append t s)
theorem Ay.take:∀{xs:List V}{us:List Value} (n:Nat),Ay xs us->Ay (xs.take n) (us.take n)
 | _,_,0,_=> .nil
 | _,_,_+1,.nil=> .nil
 | _,_,n+1,.cons r t=> .cons r (Ay.take n t)
theorem Ay.drop:∀{xs:List V}{us:List Value} (n:Nat),Ay xs us->Ay (xs.drop n) (us.drop n)
 | _,_,0,r=>r
 | _,_,_+1,.nil=> .nil
 | _,_,n+1,.cons _ t=>Ay.drop n t
def Dv:Option V->Option Value->Prop
 | some v,some u=>Au v u
 | none,none=>True
 | _,_=>False
def KV{κ:Type}:List (κ×V)->List (κ×Value)->Prop:=Paired λ(p:κ×V) (q:κ×Value)=>p.1=q.1/\Au p.2 q.2
def kV:Key->V
 | .inl i=> .int i
 | .inr x=> .str x
inductive HO where
 | lst (xs:List V)
 | tup (xs:List V)
 | dK (kvs:List (Key×V)) | dT (kvs:List (List Key×V))
 | set (S:Int->Bool) (n:Nat)
 | ins (C dx:Addr) (fs:List (Str×V))
 | own (x:Addr)
 | xd (fs:List (Str×V))
 | met (f x:Addr)
 | rng (lo hi:Int)
 | frz (o:Obj) (u:HO)
 | tbl (ps:Array Value)
 | ext (φ:Heap->Prop)
abbrev Hp:=Addr->Option HO
def upd(H:Hp)(a:Addr)(o:HO):Hp:=λb=>if b=a then some o else H b
theorem A1{H:Hp}{a:Addr}{o:HO}:upd H a o a=some o:=by unfold upd;rw[if_pos rfl]
theorem A5{H:Hp}{a b:Addr}{o:HO}(h:b≠a):upd H a o b=H b:=by unfold upd;rw[if_neg h]
theorem Iu{H:Hp}{a:Addr}{o u:HO}:upd (upd H a o) a u=upd H a u:=by
 funext b;unfold upd;split <;> rfl
theorem C0{H:Hp}{a b:Addr}{o u:HO}(h:H a=some o)(h':H b=some u)(d:o≠u):a≠b:=by
 intro e;subst e;rw[h]at h';exact d (FG h')
theorem Ab{H:Hp}{a b:Addr}{o:HO}(h:H a=some o)(h':H b=none):a≠b:=by
 intro e;subst e;rw[h]at h';cases h'
section
variable (P:Program) (w:World)
def Bk(H:Hp)(h:Heap)(a:Addr):HO->Prop
 | .lst xs=>xs.length<=sizeLine/\∃(its:List Value) (n:Nat),Ay xs its/\h.get? a=some {cls:= .type "list",data:= .seq its.toArray n}
 | .tup xs=>xs.length<=sizeLine/\∃its:List Value,Ay xs its/\IsTup h a its.toArray
 | .dK kvs=>kvs.length<=sizeLine/\(a==sysModules)=false/\∃vs,KV kvs vs/\h.DictOf (Bb P w) a vs
 | .dT kvs=>kvs.length<=sizeLine/\(a==sysModules)=false/\∃xs:List (List Key×Addr×Value),
  Paired (λ(p:List Key×V) (q:List Key×Addr×Value)=>p.1=q.1/\H q.2.1=some (.tup (p.1.map kV))/\Au p.2 q.2.2) kvs xs/\
  ∃o es ep,h.get? a=some o/\o.ExactDict/\o.data= .dict es ep/\es.toList=xs.map (entryOfKey (tupleKind (Bb P w)))/\(xs.map (·.1)).Nodup
 | .set S n=>h.SetOf (intKind P w) a S n
 | .ins C dx fs=>H dx=some (.own a)/\fs.length<=1000/\dx≠a/\h.get? a=some (PySem.W.instObj C dx)/\
  ∃mA,h.Ns1 dx mA/\(∀f,Dv (fs.lookup f) (mA f))/\PySem.Within mA (fs.map (·.1))
 | .own _=>∃o,h.get? a=some o
 | .xd fs=>∃mA,h.Ns1 a mA/\∀f,Dv (fs.lookup f) (mA f)
 | .rng lo hi=>∃t u v,h.get? a=some {cls:= .type "range",data:= .fields #[.int lo t,.int hi u,.int 1 v]}
 | .frz o u=>h.get? a=some o/\Bk H h a u
 | .tbl ps=>h.get? a=some {cls:= .none,data:= .fields ps}
 | .met f x=>h.get? a=some (PySem.W.methodObj (.ref f) (.ref x))
 | .ext φ=>φ h/\(∃o,h.get? a=some o)/\∀h1 h2:Heap,φ h1->(∀o,h1.get? a=some o->h2.get? a=some o)->φ h2
def HOk(H:Hp)(h:Heap):Prop:=∀a o,H a=some o->Bk P w H h a o
end
section
variable {P:Program}{w:World}{H H':Hp}{h h':Heap}{a:Addr}{o:HO}
theorem Bk.lt(x:Bk P w H h a o):a < h.objs.size:=by
 cases o with
 | lst xs=>obtain⟨_,_,_,_,e⟩:=x;exact Fm e
 | tup xs=>obtain⟨_,_,_,p⟩:=x;exact p.lt
 | dK kvs=>obtain⟨_,_,_,_,o,_,_,e,_⟩:=x;exact Fm e
 | dT kvs=>obtain⟨_,_,_,_,o,_,_,e,_⟩:=x;exact Fm e
 | set S n=>obtain⟨o,_,_,_,e,_⟩:=x;exact Fm e
 | ins C dx fs=>obtain⟨_,_,_,e,_⟩:=x;exact Fm e
 | own y=>obtain⟨_,e⟩:=x;exact Fm e
 | xd fs=>obtain⟨_,⟨_,_,_,e,_⟩,_⟩:=x;exact Fm e
 | rng lo hi=>obtain⟨_,_,_,e⟩:=x;exact Fm e
 | frz ob u=>obtain⟨e,_⟩:=x;exact Fm e
 | tbl ps=>exact Fm (show h.get? a=some _ from x)
 | met f y=>exact Fm (show h.get? a=some _ from x)
 | ext φ=>obtain⟨_,⟨_,e⟩,_⟩:=x;exact Fm e
theorem Paired.mapP{α β:Type}{F G:α->β->Prop}:∀{l₁:List α}{l₂:List β},Paired F l₁ l₂->(∀a b,F a b->G a b)->Paired G l₁ l₂
 | _,_,.nil,_=> .nil
 | _,_,.cons r t,f=> .cons (f _ _ r) (Paired.mapP t f)
theorem Bk.stay(x:Bk P w H h a o)(k:∀b u,(b=a\/H b=some (.own a))->h.get? b=some u->h'.get? b=some u)
 (ho:∀b,H b=some (.own a)->H' b=some (.own a)) (ht:∀b xs,H b=some (.tup xs)->H' b=some (.tup xs)):Bk P w H' h' a o:=by
 induction o with
 | lst xs=>obtain⟨z,its,n,r,e⟩:=x;exact⟨z,its,n,r,k _ _ (.inl rfl) e⟩
 | tup xs=>obtain⟨z,its,r,ob,e,c⟩:=x;exact⟨z,its,r,ob,k _ _ (.inl rfl) e,c⟩
 | dK kvs=>obtain⟨z,y,vs,r,ob,es,ep,e,c⟩:=x;exact⟨z,y,vs,r,ob,es,ep,k _ _ (.inl rfl) e,c⟩
 | dT kvs=>
  obtain⟨z,y,xs,r,ob,es,ep,e,c⟩:=x;exact⟨z,y,xs,Paired.mapP r λp q z=>⟨z.1,ht _ _ z.2.1,z.2.2⟩,ob,es,ep,k _ _ (.inl rfl) e,c⟩
 | set S n=>obtain⟨ob,es,ep,t,e,c⟩:=x;exact⟨ob,es,ep,t,k _ _ (.inl rfl) e,c⟩
 | ins C dx fs=>
  obtain⟨d,z,ne,e,mA,⟨od,es,ep,e2,c⟩,r⟩:=x;exact⟨ho _ d,z,ne,k _ _ (.inl rfl) e,mA,⟨od,es,ep,k _ _ (.inr d) e2,c⟩,r⟩
 | own y=>obtain⟨ob,e⟩:=x;exact⟨ob,k _ _ (.inl rfl) e⟩
 | xd fs=>obtain⟨mA,⟨od,es,ep,e,c⟩,r⟩:=x;exact⟨mA,⟨od,es,ep,k _ _ (.inl rfl) e,c⟩,r⟩
 | rng lo hi=>obtain⟨t,u,v,e⟩:=x;exact⟨t,u,v,k _ _ (.inl rfl) e⟩
 | frz ob u ih=>obtain⟨e,q⟩:=x;exact⟨k _ _ (.inl rfl) e,ih q⟩
 | tbl ps=>
  have e:h.get? a=some {cls:= .none,data:= .fields ps}:=x;show h'.get? a=some {cls:= .none,data:= .fields ps};exact k a _ (.inl rfl) e
 | met f y=>
  have e:h.get? a=some (PySem.W.methodObj (.ref f) (.ref y)):=x;show h'.get? a=some (PySem.W.methodObj (.ref f) (.ref y));exact k a _ (.inl rfl) e
 | ext φ=>obtain⟨p,⟨o,e⟩,st⟩:=x;exact⟨st _ _ p λo q=>k _ _ (.inl rfl) q,⟨o,k _ _ (.inl rfl) e⟩,st⟩
theorem HOk.lt(x:HOk P w H h)(e:H a=some o):a < h.objs.size:=(x a o e).lt
theorem HOk.fresh(x:HOk P w H h)(e:h.objs.size<=a):H a=none:=by
 cases q:H a with
 | none=>rfl
 | some u=>exact absurd (Fl (x.lt q) e) (Hq _)
theorem HOk.kept(x:HOk P w H h)(k:∀b u,h.get? b=some u->h'.get? b=some u):HOk P w H h':=λa o e=>
 (x a o e).stay (λb u _ q=>k b u q) (λ_ q=>q) λ_ _ q=>q
theorem HOk.laid(x:HOk P w H h)(k:∀b u,h.get? b=some u->h'.get? b=some u)(hp:h.objs.size<=a)(new:Bk P w (upd H a o) h' a o):HOk P w (upd H a o) h':=λb u e=>by
 have hn:=x.fresh hp
 by_cases hb:b=a
 . subst hb;rw[A1]at e;cases e;exact new
 . rw[A5 hb]at e
   exact(x b u e).stay (λc v _ q=>k c v q) (λc q=>by rw[A5 (Ab q hn)];exact q) λc xs q=>by rw[A5 (Ab q hn)];exact q
end
def Rd(H:Hp)(a:Addr)(u:HO):Prop:=H a=some u\/∃o,H a=some (.frz o u)
theorem Rd.ok{P:Program}{w:World}{H:Hp}{h:Heap}{a:Addr}{u:HO}(r:Rd H a u)(x:HOk P w H h):Bk P w H h a u:=by
 rcases r with r | ⟨o,r⟩
 . exact x a u r
 . obtain⟨_,q⟩:=x a _ r
   exact q
def Mut:Option HO->Prop
 | some (.lst _)=>True
 | some (.dK _)=>True
 | some (.dT _)=>True
 | some (.set _ _)=>True
 | some (.ins _ _ _)=>True
 | some (.ext _)=>True
 | _=>False
section
variable {P:Program}{w:World}{H:Hp}{h h':Heap}{x e:Addr}{o':HO}
theorem HOk.write(ok:HOk P w H h)(mu:Mut (H x))(he:e=x\/H e=some (.own x))(k:∀b u,b≠e->h.get? b=some u->h'.get? b=some u)(heo:∃u,h'.get? e=some u)
 (new:Bk P w (upd H x o') h' x o'):HOk P w (upd H x o') h':=λb u q=>by
 have nown:∀c y,H c=some (.own y)->c≠x:=λc y r z=>by subst z;rw[r]at mu;exact mu
 have ntup:∀c xs,H c=some (.tup xs)->c≠x:=λc xs r z=>by subst z;rw[r]at mu;exact mu
 by_cases hb:b=x
 . subst hb;rw[A1]at q;cases q;exact new
 . rw[A5 hb]at q
   by_cases hbe:b=e
   . have q':H b=some (.own x):=by
      rcases he with z | z
      . exact absurd (hbe.trans z) hb
      . rw[hbe];exact z
     rw[q]at q';cases q';obtain⟨v,hv⟩:=heo;exact⟨v,by rw[hbe];exact hv⟩
   . refine(ok b u q).stay (λc v hc r=>k c v ?_ r) (λc r=>by rw[A5 (nown c b r)];exact r) λc xs r=>by rw[A5 (ntup c xs r)];exact r
     rcases hc with rfl | hc
     . exact hbe
     . rintro rfl
       rcases he with z | z
       . exact nown c b hc z
       . rw[hc]at z;cases z;exact hb rfl
end
structure Un(fs ex:List Addr)(H H':Hp)(h h':Heap):Prop where
 keep:∀b o,h.get? b=some o->H b=none->b∉fs->b∉ex->h'.get? b=some o
 slot:∀b o,h.get? b=some o->H b=none->b∈fs->b∉ex->∃sl,h'.get? b=some {o with slots:=sl}
 free:∀b o,h.get? b=some o->H b=none->b∉ex->H' b=none
 there:∀b o,h.get? b=some o->b∉ex->∃o',h'.get? b=some o'
 tups:∀b xs,H b=some (.tup xs)->H' b=some (.tup xs)
 frzs:∀b o u,H b=some (.frz o u)->H' b=some (.frz o u)
 tbls:∀b ps,H b=some (.tbl ps)->∃more,H' b=some (.tbl (ps++more))
section
variable {fs fs' ex ex':List Addr}{H H1 H2:Hp}{h h1 h2 h':Heap}{a x e:Addr}{o:HO}
theorem Un.any(u:Un fs ex H H1 h h1){b:Addr}{ob:Obj}(q:h.get? b=some ob)(n:H b=none)(hx:b∉ex):∃sl,h1.get? b=some {ob with slots:=sl}:=by
 by_cases hb:b∈fs
 . exact u.slot b ob q n hb hx
 . exact⟨ob.slots,u.keep b ob q n hb hx⟩
theorem Un.kept(k:∀b u,h.get? b=some u->h'.get? b=some u):Un fs ex H H h h':=
 ⟨λb ob q _ _ _=>k b ob q,λb ob q _ _ _=>⟨ob.slots,k b ob q⟩,λ_ _ _ n _=>n,λb ob q _=>⟨ob,k b ob q⟩,λ_ _ q=>q,λ_ _ _ q=>q,λ_ ps q=>⟨#[],by rw[q];simp⟩⟩
theorem Un.refl:Un fs ex H H h h:=Un.kept λ_ _ q=>q
theorem Un.laid(k:∀b u,h.get? b=some u->h'.get? b=some u)(hp:h.objs.size<=a)(hn:H a=none):Un fs ex H (upd H a o) h h' where
 keep:=λb u q _ _ _=>k b u q
 slot:=λb u q _ _ _=>⟨u.slots,k b u q⟩
 free:=λb u q n _=>by rw[A5 (Fv (Fl (Fm q) hp))];exact n
 there:=λb u q _=>⟨u,k b u q⟩
 tups:=λb xs q=>by rw[A5 (Ab q hn)];exact q
 frzs:=λb u xs q=>by rw[A5 (Ab q hn)];exact q
 tbls:=λb ps q=>⟨#[],by rw[A5 (Ab q hn),q];simp⟩
theorem Un.write(mu:Mut (H x))(he:e=x\/H e=some (.own x))(k:∀b u,b≠e->h.get? b=some u->h'.get? b=some u)(heo:∃u,h'.get? e=some u):Un fs ex H (upd H x o) h h':=by
 have hx:∀b,H b=none->b≠x:=λb n z=>by subst z;rw[n]at mu;exact mu
 have hb:∀b,H b=none->b≠e:=λb n z=>by
  subst z;rcases he with r | r
  . exact hx b n r
  . rw[n]at r;cases r
 have hm:∀b u,H b=some u->¬Mut (some u)->b≠x:=λb u q nm z=>by subst z;rw[q]at mu;exact nm mu
 refine⟨λb u q n _ _=>k b u (hb b n) q,λb u q n _ _=>⟨u.slots,k b u (hb b n) q⟩,λb u q n _=>by rw[A5 (hx b n)];exact n,λb u q _=>?_,
  λb xs q=>by rw[A5 (hm b _ q λz=>z)];exact q,λb u xs q=>by rw[A5 (hm b _ q λz=>z)];exact q,λb ps q=>⟨#[],by rw[A5 (hm b _ q λz=>z),q];simp⟩⟩
 by_cases hbe:b=e
 . subst hbe;exact heo
 . exact⟨u,k b u hbe q⟩
end
def trk(h:Heap)(H:Hp):List Addr:=(List.range h.objs.size).filter λa=>(H a).isSome
def Py(h:Heap)(H:Hp):Heap:=PySem.W.hideAll h (trk h H)
theorem Yf(h:Heap)(H:Hp):(Py h H).objs.size=h.objs.size:=PySem.W.hideAll_size _ _
theorem J0k{h:Heap}{H:Hp}{b:Addr}{o:Obj}(e:h.get? b=some o)(n:H b=none):(Py h H).get? b=some o:=
 PySem.W.hideAll_get _ e λhm=>by
  have q:(H b).isSome=true:=(Rb.mp hm).2;rw[n]at q;simp at q
theorem J4z{h:Heap}{H:Hp}{b:Addr}{o:Obj}(e:(Py h H).get? b=some o):h.get? b=some o/\H b=none:=by
 have e':h.get? b=some o:=PySem.W.of_hideAll (trk h H) e;refine⟨e',?_⟩
 cases q:H b with
 | none=>rfl
 | some x=>
  have hm:b∈trk h H:=Rb.mpr ⟨RA.mpr (Fm e'),by simp[q]⟩;have z:(Py h H).get? b=none:=PySem.W.hideAll_none (trk h H) hm;rw[z]at e;cases e
def J50(g h:Heap)(L:Addr):List (Addr×Obj):=(List.range h.objs.size).filterMap λa=>if a=L\/(g.get? a).isSome=true then none else (h.get? a).map λo=>(a,o)
def rest(g h:Heap)(L d:Addr):List (Addr×Obj):=(J50 g h L).filter λp=>decide (p.1≠d)
structure Mod(K:PySem.W.Frag)(mg:Str->Option Value)(base:Heap):Prop where
 kin:K.In base
 glob:base.Ns mainGlobals mg
 blt:∃mb,base.Ns builtinsNs mb/\∀x:Str,x≠"__name__"->mb x=bootBuiltins x
 nolimit:base.NoLimit
structure Cx where
 prog:Program
 w:World
 K:PySem.W.Frag
 mg:Str->Option Value
 base:Heap
 A:Around
 N:List Str
 s₀:Shared
 H₀:Hp
 env:Env
 outer:List Env
 stack:List Env
 ex:List Addr
 fn:Str->Bool
 calm:Bool
 pn:List (Addr×Obj)
 xe:Value->Shared->Prop
def frs(l:List Env):List Addr:=l.filterMap (·.frame)
abbrev Cx.fs(X:Cx):List Addr:=frs X.outer
def Vis(sc:Scope)(x:Str):Prop:=sc.names.lookup x=some .local\/sc.names.lookup x=some .cell\/sc.names.lookup x=some .free
def Loc(sc:Scope)(x:Str):Prop:=sc.names.lookup x=some .local\/sc.names.lookup x=some .cell
def Jc8(env:Env)(h:Heap)(m:Str->Option Value)(x:Str)(u:Value):Prop:=
 (env.kindOf x=some .local/\m x=some u)\/((env.kindOf x=some .cell\/env.kindOf x=some .free)/\∃c,env.cells.lookup x=some c/\h.IsCell c (some u))
structure Cx.Ok(X:Cx):Prop where
 mod:Mod X.K X.mg X.base
 kind:X.env.scope.kind= .function
 glob:X.env.globals=mainGlobals
 blt:X.env.builtins=builtinsNs
 above:X.s₀.heap.objs.size<=X.env.locals
 inj:∀x y c,X.env.cells.lookup x=some c->X.env.cells.lookup y=some c->x=y
 has:∀x,(X.env.kindOf x=some .cell\/X.env.kindOf x=some .free)->∃c,X.env.cells.lookup x=some c
 cab:∀x c,X.fn x=true->X.env.cells.lookup x=some c->X.s₀.heap.objs.size<=c
 hd:X.calm=true->X.A.handled=none
 frames:X.A.frames=some X.stack
 stk:X.stack=X.outer\/(X.stack=X.env::X.outer/\X.env.frame=some X.env.locals)
 exf:∀b∈X.ex,b≠X.env.locals/\∀x c,X.env.cells.lookup x=some c->c≠b
 bs:∀b o,X.base.get? b=some o->X.s₀.heap.get? b=some o/\X.H₀ b=none
 bsz:X.base.objs.size<=X.s₀.heap.objs.size
 noex:∀b o,X.base.get? b=some o->b∉X.ex
 exfs:∀b∈X.ex,b∉X.fs
 funs:X.s₀.heap.FunFrames X.base X.outer
 frf:∀b∈X.fs,X.H₀ b=none
structure Inv(X:Cx)(pins:List (Addr×Obj))(σ:List (Option V))(H:Hp)(s:Shared):Prop where
 ok:X.Ok
 os:s.os=X.s₀.os
 bare:AllBare s.gens
 base:Un X.fs X.ex X.H₀ H X.s₀.heap s.heap
 loc:∃m,s.heap.Ns X.env.locals m/\∀(i:Nat) (x:Str) (v:V),X.N[i]?=some x->σ[i]?=some (some v)->Vis X.env.scope x->∃u,Au v u/\Jc8 X.env s.heap m x u
 cell:∀x c,X.env.cells.lookup x=some c->∃v,s.heap.IsCell c v
 free:H X.env.locals=none
 freeC:∀x c,X.env.cells.lookup x=some c->H c=none
 pin:∀p∈X.pn++pins,s.heap.get? p.1=some p.2/\H p.1=none/\p.1≠X.env.locals/\p.1∉X.fs/\∀v,p.2.data≠ .cell v
 hok:HOk X.prog X.w H s.heap
 len:σ.length=X.N.length
section
variable {X:Cx}{pins:List (Addr×Obj)}{σ:List (Option V)}{H H':Hp}{s:Shared}{h':Heap}
theorem Cx.Ok.nofr(ok:X.Ok){b:Addr}{o:Obj}(e:X.base.get? b=some o):b∉X.fs:=λhb=>by
 have:=(ok.funs.mem hb).1;rw[e]at this;cases this
theorem Inv.bs(I:Inv X pins σ H s):∀b o,X.base.get? b=some o->s.heap.get? b=some o/\H b=none:=λb o e=>
 ⟨I.base.keep b o (I.ok.bs b o e).1 (I.ok.bs b o e).2 (I.ok.nofr e) (I.ok.noex b o e),I.base.free b o (I.ok.bs b o e).1 (I.ok.bs b o e).2 (I.ok.noex b o e)⟩
theorem Inv.bk(I:Inv X pins σ H s):∀b o,X.base.get? b=some o->s.heap.get? b=some o:=λb o e=>(I.bs b o e).1
theorem Inv.mod(I:Inv X pins σ H s):Mod X.K X.mg X.base:=I.ok.mod
theorem Inv.kIn(I:Inv X pins σ H s):X.K.In s.heap:=I.ok.mod.kin.keeps I.bk
theorem Inv.lt(I:Inv X pins σ H s):X.env.locals < s.heap.objs.size:=let ⟨_,hn,_⟩:=I.loc;hn.lt
theorem Inv.sz(I:Inv X pins σ H s):X.s₀.heap.objs.size<=s.heap.objs.size:=FE I.ok.above (Nat.le_of_lt I.lt)
theorem Inv.nofs(I:Inv X pins σ H s){a:Addr}(h:s.heap.objs.size<=a):a∉X.fs:=λhb=>by
 obtain⟨_,o,ho,_⟩:=I.ok.funs.mem hb;exact absurd (Fl (Fm ho) (FE I.sz h)) (Hq _)
theorem Inv.cne(I:Inv X pins σ H s):∀x c,X.env.cells.lookup x=some c->c≠X.env.locals:=λx c e z=>by
 obtain⟨v,o,ho,hd⟩:=I.cell x c e;obtain⟨m,⟨o',es,ep,ho',hd',_⟩,_⟩:=I.loc;rw[z,ho']at ho;cases ho;rw[hd']at hd;cases hd
theorem Inv.funs(I:Inv X pins σ H s):s.heap.FunFrames X.base X.outer:=by
 have all:∀(l:List Env),(∀b∈frs l,b∈X.fs)->X.s₀.heap.FunFrames X.base l->s.heap.FunFrames X.base l:=by
  intro l
  induction l with
  | nil=>intro _ _;trivial
  | cons env r ih=>
   intro hs hl;obtain⟨hk,⟨L,o,hf,hn,ho,hd⟩,hr⟩:=hl;have hL:L∈X.fs:=hs L (by unfold frs;rw[HM,hf];exact FC);obtain⟨sl,e⟩:=I.base.slot L o ho (I.ok.frf L hL) hL λz=>I.ok.exfs L z hL;exact⟨hk,⟨L,_,hf,hn,e,hd⟩,ih (λb hb=>hs b (by unfold frs;rw[HM,hf];exact Fk _ hb)) hr⟩
 exact all X.outer (λ_ hb=>hb) I.ok.funs
theorem Inv.stack(I:Inv X pins σ H s):s.heap.FunFrames X.base X.stack:=by
 rcases I.ok.stk with e | ⟨e,hf⟩
 . rw[e];exact I.funs
 . rw[e]
   obtain⟨m,hn,_⟩:=I.loc;refine .cons (by rw[I.ok.kind];decide) hf hn ?_ I.funs;exact R9 (FE I.ok.bsz I.ok.above)
theorem Inv.stkSub(I:Inv X pins σ H s):∀b∈frs X.stack,b∈X.env.locals::X.fs:=λb hb=>by
 rcases I.ok.stk with e | ⟨e,hf⟩
 . rw[e]at hb;exact Fk _ hb
 . rw[e]at hb
   unfold frs at hb;rw[HM,hf]at hb;exact hb
theorem Inv.stkFree(I:Inv X pins σ H s):∀b∈frs X.stack,H b=none:=λb hb=>by
 rcases Ft.mp (I.stkSub b hb) with e | hb
 . rw[e];exact I.free
 . obtain⟨_,o,ho,_⟩:=I.ok.funs.mem hb
   exact I.base.free b o ho (I.ok.frf b hb) λz=>I.ok.exfs b z hb
theorem Inv.step{g':Array GenState}{t':Nat}{d':Drawn}{ch:List Addr}(I:Inv X pins σ H s)
 (hch:∀b∈ch,(b∈X.ex\/X.s₀.heap.objs.size<=b)/\b≠X.env.locals/\(∀x c,X.env.cells.lookup x=some c->c≠b)/\∀p∈X.pn++pins,p.1≠b)
 (keep:∀b o,b≠X.env.locals->b∉X.fs->b∉ch->s.heap.get? b=some o->H b=none->h'.get? b=some o)
 (slot:∀b o,b≠X.env.locals->b∈X.fs->b∉ch->s.heap.get? b=some o->H b=none->∃sl,h'.get? b=some {o with slots:=sl}) (free:∀b o,b∉ch->s.heap.get? b=some o->H b=none->H' b=none)
 (there:∀b o,b∉ch->s.heap.get? b=some o->∃o',h'.get? b=some o')
 (tups:∀b xs,H b=some (.tup xs)->H' b=some (.tup xs)) (frzs:∀b o u,H b=some (.frz o u)->H' b=some (.frz o u)) (tbls:∀b ps,H b=some (.tbl ps)->∃more,H' b=some (.tbl (ps++more)))
 (ns:∀m,s.heap.Ns X.env.locals m->h'.Ns X.env.locals m) (hok:HOk X.prog X.w H' h') (hg:AllBare g'):
 Inv X pins σ H' {s with heap:=h',gens:=g',drawn:=d',toks:=t'}:=by
 have neL:∀b o,X.s₀.heap.get? b=some o->b≠X.env.locals:=λb o e=>Fv (Fl (Fm e) I.ok.above)
 have neC:∀b o,X.s₀.heap.get? b=some o->b∉X.ex->b∉ch:=λb o e hx hb=>by
  rcases(hch b hb).1 with z | z
  . exact hx z
  . exact absurd (Fl (Fm e) z) (Hq _)
 have cellK:∀x c,X.env.cells.lookup x=some c->∀v,s.heap.IsCell c v->h'.IsCell c v:=λx c e v ⟨o,ho,hd⟩=>by
  have nch:c∉ch:=λz=>(hch c z).2.2.1 x c e rfl
  by_cases hc:c∈X.fs
  . obtain⟨sl,q⟩:=slot c o (I.cne x c e) hc nch ho (I.freeC x c e)
    exact⟨_,q,hd⟩
  . exact⟨o,keep c o (I.cne x c e) hc nch ho (I.freeC x c e),hd⟩
 refine⟨I.ok,I.os,hg,⟨λb o e n hb hx=>?_,λb o e n hb hx=>?_,λb o e n hx=>?_,λb o e hx=>?_,λb xs e=>tups b xs (I.base.tups b xs e),λb o xs e=>frzs b o xs (I.base.frzs b o xs e),λb ps e=>?_⟩,?_,λx c e=>?_,?_,λx c e=>?_,λp hp=>?_,hok,I.len⟩
 . exact keep b o (neL b o e) hb (neC b o e hx) (I.base.keep b o e n hb hx) (I.base.free b o e n hx)
 . obtain⟨sl,e1⟩:=I.base.slot b o e n hb hx
   obtain⟨sl',e2⟩:=slot b _ (neL b o e) hb (neC b o e hx) e1 (I.base.free b o e n hx);exact⟨sl',e2⟩
 . obtain⟨o',e1⟩:=I.base.there b o e hx
   exact free b o' (neC b o e hx) e1 (I.base.free b o e n hx)
 . obtain⟨o',e1⟩:=I.base.there b o e hx
   exact there b o' (neC b o e hx) e1
 . obtain⟨m1,e1⟩:=I.base.tbls b ps e
   obtain⟨m2,e2⟩:=tbls b _ e1;exact⟨m1++m2,by rw[e2,Array.append_assoc]⟩
 . obtain⟨m,hn,hl⟩:=I.loc
   refine⟨m,ns m hn,λi x v e1 e2 e3=>?_⟩;obtain⟨u,r,l⟩:=hl i x v e1 e2 e3;refine⟨u,r,?_⟩;rcases l with l | ⟨k,c,e,z⟩
   . exact .inl l
   . exact .inr ⟨k,c,e,cellK x c e _ z⟩
 . obtain⟨v,z⟩:=I.cell x c e
   exact⟨v,cellK x c e v z⟩
 . obtain⟨m,⟨o,_,_,ho,_⟩,_⟩:=I.loc
   exact free _ o (λz=>(hch _ z).2.1 rfl) ho I.free
 . obtain⟨v,o,ho,hd⟩:=I.cell x c e
   exact free c o (λz=>(hch c z).2.2.1 x c e rfl) ho (I.freeC x c e)
 . obtain⟨e,n,ne,nf,d⟩:=I.pin p hp
   have nch:p.1∉ch:=λz=>(hch p.1 z).2.2.2 p hp rfl;exact⟨keep p.1 p.2 ne nf nch e n,free p.1 p.2 nch e n,ne,nf,d⟩
theorem Inv.un{t':Nat}(I:Inv X pins σ H s)(u:Un X.fs [] H H' s.heap h')(hok:HOk X.prog X.w H' h'):Inv X pins σ H' {s with heap:=h',toks:=t'}:=by
 obtain⟨m,⟨o,es,ep,ho,r⟩,_⟩:=id I.loc;obtain⟨sl,hL⟩:=u.any ho I.free (by simp)
 exact I.step (g':=s.gens) (d':=s.drawn) (ch:=[]) (λ_ z=>nomatch z) (λb o _ hb _ e n=>u.keep b o e n hb (by simp)) (λb o _ hb _ e n=>u.slot b o e n hb (by simp)) (λb o _ e n=>u.free b o e n (by simp)) (λb o _ e=>u.there b o e (by simp)) u.tups u.frzs u.tbls (λm' hm=>by
  obtain⟨o',es',ep',ho',r'⟩:=hm;rw[ho]at ho';cases ho'
  exact⟨_,es',ep',hL,r'⟩) hok I.bare
theorem Inv.call{g':Array GenState}{t':Nat}{d':Drawn}{ch:List Addr}(I:Inv X pins σ H s)(u:Un (frs X.stack) ch H H' s.heap h')(hok:HOk X.prog X.w H' h')(hg:AllBare g')
 (hch:∀b∈ch,(b∈X.ex\/X.s₀.heap.objs.size<=b)/\b≠X.env.locals/\(∀x c,X.env.cells.lookup x=some c->c≠b)/\∀p∈X.pn++pins,p.1≠b):
 Inv X pins σ H' {s with heap:=h',gens:=g',drawn:=d',toks:=t'}:=by
 obtain⟨m,⟨o,es,ep,ho,r⟩,_⟩:=id I.loc;obtain⟨sl,hL⟩:=u.any ho I.free λz=>(hch _ z).2.1 rfl
 exact I.step (ch:=ch) hch (λb o hL hb hc e n=>u.keep b o e n (λz=>(Ft.mp (I.stkSub b z)).elim hL hb) hc) (λb o _ _ hc e n=>u.any e n hc) (λb o hc e n=>u.free b o e n hc) (λb o hc e=>u.there b o e hc) u.tups u.frzs u.tbls (λm' hm=>by
  obtain⟨o',es',ep',ho',r'⟩:=hm;rw[ho]at ho';cases ho'
  exact⟨_,es',ep',hL,r'⟩) hok hg
theorem Inv.turned{t':Nat}{it:Addr}(I:Inv X pins σ H s)(k:∀b o,b≠it->s.heap.get? b=some o->h'.get? b=some o)(hn:H it=none)(hL:it≠X.env.locals)
 (h1:it∈X.ex\/X.s₀.heap.objs.size<=it) (h2:∀x c,X.env.cells.lookup x=some c->c≠it) (h3:∀p∈X.pn++pins,p.1≠it):Inv X pins σ H {s with heap:=h',toks:=t'}:=by
 have nit:∀b u,H b=some u->b≠it:=λb u e z=>by rw[z,hn]at e;cases e
 refine I.step (g':=s.gens) (d':=s.drawn) (ch:=[it]) (λb hb=>?_) (λb o _ _ hc e _=>k b o (λz=>hc (by simp[z])) e) (λb o _ _ hc e _=>⟨o.slots,k b o (λz=>hc (by simp[z])) e⟩) (λ_ _ _ _ n=>n)
  (λb o hc e=>⟨o,k b o (λz=>hc (by simp[z])) e⟩) (λ_ _ e=>e) (λ_ _ _ e=>e) (λb ps e=>⟨#[],by rw[e];simp⟩) (λm hm=>?_) (λb u e=>?_) I.bare
 . have e:b=it:=by simpa using hb
   subst e;exact⟨h1,hL,h2,h3⟩
 . obtain⟨o,es,ep,ho,r⟩:=hm
   exact⟨o,es,ep,k _ o (Ne.symm hL) ho,r⟩
 . refine(I.hok b u e).stay (λc v hc q=>k c v ?_ q) (λ_ q=>q) λ_ _ q=>q
   rcases hc with z | z
   . rw[z];exact nit b u e
   . exact nit c _ z
theorem Inv.tok(I:Inv X pins σ H s)(t:Nat):Inv X pins σ H {s with toks:=t}:=I.un (h':=s.heap) (t':=t) Un.refl I.hok
theorem Inv.kept{t':Nat}(I:Inv X pins σ H s)(k:∀b u,s.heap.get? b=some u->h'.get? b=some u):Inv X pins σ H {s with heap:=h',toks:=t'}:=I.un (Un.kept k) (I.hok.kept k)
theorem Inv.laid{a:Addr}{o:HO}{t':Nat}(I:Inv X pins σ H s)(k:∀b u,s.heap.get? b=some u->h'.get? b=some u)(hp:s.heap.objs.size<=a)(new:Bk X.prog X.w (upd H a o) h' a o):
 Inv X pins σ (upd H a o) {s with heap:=h',toks:=t'}:=I.un (Un.laid k hp (I.hok.fresh hp)) (I.hok.laid k hp new)
theorem Inv.write{x e:Addr}{o:HO}{t':Nat}(I:Inv X pins σ H s)(mu:Mut (H x))(he:e=x\/H e=some (.own x))(k:∀b u,b≠e->s.heap.get? b=some u->h'.get? b=some u)(heo:∃u,h'.get? e=some u)
 (new:Bk X.prog X.w (upd H x o) h' x o):Inv X pins σ (upd H x o) {s with heap:=h',toks:=t'}:=I.un (Un.write mu he k heo) (I.hok.write mu he k heo new)
theorem Inv.weak{σ':List (Option V)}(I:Inv X pins σ H s)(hl:σ'.length=σ.length)(w:∀(i:Nat) v,σ'[i]?=some (some v)->σ[i]?=some (some v)):Inv X pins σ' H s:=
 ⟨I.ok,I.os,I.bare,I.base,let ⟨m,hn,hl'⟩:=I.loc;⟨m,hn,λi x v e1 e2 e3=>hl' i x v e1 (w i v e2) e3⟩,I.cell,I.free,I.freeC,I.pin,I.hok,hl.trans I.len⟩
theorem Inv.pins_of{pins':List (Addr×Obj)}(I:Inv X pins σ H s)(h:∀p∈pins',s.heap.get? p.1=some p.2/\H p.1=none/\p.1≠X.env.locals/\p.1∉X.fs/\∀v,p.2.data≠ .cell v):Inv X pins' σ H s:=
 ⟨I.ok,I.os,I.bare,I.base,I.loc,I.cell,I.free,I.freeC,λp hp=>(FB.mp hp).elim (λz=>I.pin p (FX _ z)) (h p),I.hok,I.len⟩
theorem N3{N:List Str}(hN:N.Nodup){i j:Nat}{x:Str}(a:N[i]?=some x)(b:N[j]?=some x):i=j:=by
 obtain⟨h1,e1⟩:=Fh.mp a;obtain⟨h2,e2⟩:=Fh.mp b;exact(List.getElem_inj hN).mp (e1.trans e2.symm)
theorem On{M:Model}{A:Around}{E:Value->Shared->Prop}{i:Nat}{x:Str}{v:V}{u:Value}{Q:Unit->Shared->Prop}(I:Inv X pins σ H s)(hN:X.N.Nodup)(hi:X.N[i]?=some x)(hx:Loc X.env.scope x)(r:Au v u)
 (h:∀s',Inv X pins (σ.set i (some v)) H s'->(∃a,Heap.SameBut a s.heap s'.heap/\(a=X.env.locals\/X.env.cells.lookup x=some a))->Q () s') (hf:X.fn x=true\/X.env.scope.names.lookup x=some .local:=by first | exact .inl rfl | exact .inr rfl | assumption):wpAny M A (storeName X.env x u) Q E s:=by
 obtain⟨m,hn,hl⟩:=id I.loc
 have hcls:(X.env.scope.kind== .class || (X.env.scope.kind== .module && X.env.locals !=X.env.globals))=false:=by rw[I.ok.kind];rfl
 have hiσ:i < σ.length:=by rw[I.len];exact(Fh.mp hi).1
 have cne:=I.cne
 have tracked:∀{a:Addr}{h':Heap},(∃o,s.heap.get? a=some o/\H a=none)->Heap.SameBut a s.heap h'->HOk X.prog X.w H h':=λ{a h'} ha hs b ob e=>by
  obtain⟨_,_,hfree⟩:=ha;refine(I.hok b ob e).stay (λc w' hc q=>(hs.2 c ?_).trans q) (λ_ q=>q) λ_ _ q=>q;rintro rfl;rcases hc with rfl | hc
  . rw[hfree]at e;cases e
  . rw[hfree]at hc;cases hc
 rcases hx with hk | hk
 . refine wpAny_storeName_local hk hn (λh' hn' hs=>?_) hcls
   obtain⟨oL,_,_,hoL,_⟩:=id hn;refine h _ ⟨I.ok,I.os,I.bare,⟨λb o e n hb hx=>?_,λb o e n hb hx=>?_,I.base.free,λb o e hx=>?_,I.base.tups,I.base.frzs,I.base.tbls⟩,⟨_,hn',λj y v' e1 e2 e3=>?_⟩,λy c e=>?_,I.free,I.freeC,λp hp=>?_,tracked ⟨oL,hoL,I.free⟩ hs,by simpa using I.len⟩ ⟨_,hs,.inl rfl⟩
   . exact(hs.2 b (Fv (Fl (Fm e) I.ok.above))).trans (I.base.keep b o e n hb hx)
   . obtain⟨sl,e1⟩:=I.base.slot b o e n hb hx
     exact⟨sl,(hs.2 b (Fv (Fl (Fm e) I.ok.above))).trans e1⟩
   . obtain⟨o',e1⟩:=I.base.there b o e hx
     exact⟨o',(hs.2 b (Fv (Fl (Fm e) I.ok.above))).trans e1⟩
   . by_cases hj:j=i
     . subst hj
       rw[hi]at e1;cases e1;rw[Rq hiσ]at e2;cases e2;exact⟨u,r,.inl ⟨hk,by simp⟩⟩
     . rw[RB (Ne.symm hj)]at e2
       obtain⟨u',r',q⟩:=hl j y v' e1 e2 e3;refine⟨u',r',?_⟩;rcases q with ⟨k,e⟩ | ⟨k,c,e,z⟩
       . refine .inl ⟨k,?_⟩
         have:y≠x:=λe=>hj (N3 hN e1 (e▸hi));simp[this,e]
       . exact .inr ⟨k,c,e,z.sameBut hs (cne y c e)⟩
   . obtain⟨w',z⟩:=I.cell y c e
     exact⟨w',z.sameBut hs (cne y c e)⟩
   . obtain⟨e,n,ne,nf,d⟩:=I.pin p hp
     exact⟨(hs.2 p.1 ne).trans e,n,ne,nf,d⟩
 . have hfn:X.fn x=true:=by
    rcases hf with z | z
    . exact z
    . rw[z]at hk;cases hk
   obtain⟨c,hc⟩:=I.ok.has x (.inl hk);obtain⟨w',z⟩:=I.cell x c hc;refine wpAny_storeName_cell I.ok.kind hk hc z (λh' hc' hs=>?_);obtain⟨oc,hoc,hocd⟩:=id z;refine h {s with heap:=h'} ⟨I.ok,I.os,I.bare,⟨λb o e n hb hx=>?_,λb o e n hb hx=>?_,I.base.free,λb o e hx=>?_,I.base.tups,I.base.frzs,I.base.tbls⟩,⟨m,hn.sameBut hs (Ne.symm (cne x c hc)),λj y v' e1 e2 e3=>?_⟩,λy c' e=>?_,I.free,I.freeC,λp hp=>?_,tracked ⟨oc,hoc,I.freeC x c hc⟩ hs,by simpa using I.len⟩ ⟨c,hs,.inr hc⟩
   . exact(hs.2 b (Fv (Fl (Fm e) (I.ok.cab x c hfn hc)))).trans (I.base.keep b o e n hb hx)
   . obtain⟨sl,e1⟩:=I.base.slot b o e n hb hx
     exact⟨sl,(hs.2 b (Fv (Fl (Fm e) (I.ok.cab x c hfn hc)))).trans e1⟩
   . obtain⟨o',e1⟩:=I.base.there b o e hx
     exact⟨o',(hs.2 b (Fv (Fl (Fm e) (I.ok.cab x c hfn hc)))).trans e1⟩
   . by_cases hj:j=i
     . subst hj
       rw[hi]at e1;cases e1;rw[Rq hiσ]at e2;cases e2;exact⟨u,r,.inr ⟨.inl hk,c,hc,hc'⟩⟩
     . rw[RB (Ne.symm hj)]at e2
       obtain⟨u',r',q⟩:=hl j y v' e1 e2 e3;refine⟨u',r',?_⟩;rcases q with q | ⟨k,c',e,z'⟩
       . exact .inl q
       . refine .inr ⟨k,c',e,z'.sameBut hs ?_⟩
         rintro rfl;exact hj (N3 hN e1 (I.ok.inj _ _ _ e hc▸hi))
   . by_cases hcc:c'=c
     . subst hcc;exact⟨_,hc'⟩
     . obtain⟨w2,z2⟩:=I.cell y c' e
       exact⟨w2,z2.sameBut hs hcc⟩
   . obtain⟨e,n,ne,nf,d⟩:=I.pin p hp
     refine⟨(hs.2 p.1 ?_).trans e,n,ne,nf,d⟩;intro q;rw[q,hoc]at e;have q':oc=p.2:=FG e;exact d w' (by rw[<- q'];exact hocd)
theorem N7{M:Model}{A:Around}{E:Value->Shared->Prop}{i:Nat}{x:Str}{v:V}{u:Value}{Q:Unit->Shared->Prop}(I:Inv X pins σ H s)(hN:X.N.Nodup)(hi:X.N[i]?=some x)(hx:Loc X.env.scope x)(r:Au v u)
 (h:∀s',Inv X pins (σ.set i (some v)) H s'->Q () s') (hf:X.fn x=true\/X.env.scope.names.lookup x=some .local:=by first | exact .inl rfl | exact .inr rfl | assumption):wpAny M A (storeName X.env x u) Q E s:=
 On I hN hi hx r (λs' I' _=>h s' I') hf
theorem Inv.call'{s':Shared}{ch:List Addr}(I:Inv X pins σ H s)(ho:s'.os=s.os)(u:Un (frs X.stack) ch H H' s.heap s'.heap)(hok:HOk X.prog X.w H' s'.heap)(hg:AllBare s'.gens)
 (hch:∀b∈ch,(b∈X.ex\/X.s₀.heap.objs.size<=b)/\b≠X.env.locals/\(∀x c,X.env.cells.lookup x=some c->c≠b)/\∀p∈X.pn++pins,p.1≠b):Inv X pins σ H' s':=by
 obtain⟨h',g',d',t',o'⟩:=s';have e:o'=s.os:=ho;subst e;exact I.call (g':=g') (t':=t') (d':=d') u hok hg hch
end
abbrev XK:=Value->Option Addr->Hp->Prop
abbrev St:=List (Option V)
abbrev VK:=V->Hp->Prop
abbrev TE:=St->Hp->VK->Prop
abbrev TT:=St->Hp->(Bool->Hp->Prop)->Prop
abbrev TA:=St->Hp->(List V->Hp->Prop)->Prop
structure Dh where
 nx:St->Hp->Prop
 rt:VK
 bk:St->Hp->Prop:=λ_ _=>False
 ct:St->Hp->Prop:=λ_ _=>False
abbrev TS:=Dh->St->Hp->Prop
def EP(X:Cx)(pins:List (Addr×Obj))(σ:St)(Q:VK)(u:Value)(s':Shared):Prop:=∃v H',Inv X pins σ H' s'/\Au v u/\Q v H'
def TP(X:Cx)(pins:List (Addr×Obj))(σ:St)(Q:Bool->Hp->Prop)(b:Bool)(s':Shared):Prop:=∃H',Inv X pins σ H' s'/\Q b H'
def AP(X:Cx)(pins:List (Addr×Obj))(σ:St)(Q:List V->Hp->Prop)(us:List Value)(s':Shared):Prop:=∃vs H',Inv X pins σ H' s'/\Ay vs us/\Q vs H'
def SP(X:Cx)(pins:List (Addr×Obj))(D:Dh)(f:Flow)(s':Shared):Prop:=
 match f with
 | .next=>∃σ' H',Inv X pins σ' H' s'/\D.nx σ' H'
 | .brk=>∃σ' H',Inv X pins σ' H' s'/\D.bk σ' H'
 | .cont=>∃σ' H',Inv X pins σ' H' s'/\D.ct σ' H'
 | .ret u=>∃v σ' H',Inv X pins σ' H' s'/\Au v u/\D.rt v H'
def PE(X:Cx)(e:Expr)(t:TE):Prop:=
 ∀(pins:List (Addr×Obj)) (s:Shared) (σ:St) (H:Hp) (Q:VK),Inv X pins σ H s->t σ H Q->wpAny (model X.prog X.w) X.A (eval e X.env) (EP X pins σ Q) X.xe s
def PT(X:Cx)(e:Expr)(t:TT):Prop:=
 ∀(pins:List (Addr×Obj)) (s:Shared) (σ:St) (H:Hp) (Q:Bool->Hp->Prop),Inv X pins σ H s->t σ H Q->wpAny (model X.prog X.w) X.A (isTrue e X.env (eval e X.env)) (TP X pins σ Q) X.xe s
def PW(X:Cx)(e:Expr)(t:TT):Prop:=
 ∀(whole:Sem Value) (pins:List (Addr×Obj)) (s:Shared) (σ:St) (H:Hp) (Q:Bool->Hp->Prop),Inv X pins σ H s->t σ H Q->wpAny (model X.prog X.w) X.A (isTrue e X.env whole) (TP X pins σ Q) X.xe s
theorem PW.pt{X:Cx}{e:Expr}{t:TT}(h:PW X e t):PT X e t:=h _
def PA(X:Cx)(es:List Expr)(t:TA):Prop:=
 ∀(pos:Pos) (pins:List (Addr×Obj)) (s:Shared) (σ:St) (H:Hp) (Q:List V->Hp->Prop),Inv X pins σ H s->t σ H Q->wpAny (model X.prog X.w) X.A (spliced (backTo pos (starEach es X.env))) (AP X pins σ Q) X.xe s
def PS(X:Cx)(st:Stmt)(t:TS):Prop:=
 ∀(pins:List (Addr×Obj)) (s:Shared) (σ:St) (H:Hp) (D:Dh),Inv X pins σ H s->t D σ H->wpAny (model X.prog X.w) X.A (exec st X.env) (SP X pins D) X.xe s
def PSs(X:Cx)(st:List Stmt)(t:TS):Prop:=
 ∀(pins:List (Addr×Obj)) (s:Shared) (σ:St) (H:Hp) (D:Dh),Inv X pins σ H s->t D σ H->wpAny (model X.prog X.w) X.A (execs st X.env) (SP X pins D) X.xe s
theorem thn{α:Type}{t:Sem α}{Q Q':α->Shared->Prop}{M:Model}{A:Around}{E:Value->Shared->Prop}{s:Shared}(h:wpAny M A t Q E s)(hQ:∀a s,Q a s->Q' a s):wpAny M A t Q' E s:=FN h hQ λ_ _ x=>x
section
variable {X:Cx}
def J8f(i:Nat):TE:=λσ H Q=>∃v,σ[i]?=some (some v)/\Q v H
def tC(v:V):TE:=λ_ H Q=>Q v H
theorem J8g{i:Nat}{x:Str}{pos:Pos}(hN:X.N[i]?=some x)(hv:Vis X.env.scope x)(hd:(x==("__debug__":Str))=false:=by decide)(hcd:(x==("__classdict__":Str))=false:=by decide):PE X (.Name x pos) (J8f i):=by
 intro pins s σ H Q I h;obtain⟨v,e,h⟩:=h;obtain⟨m,hn,hl⟩:=I.loc;obtain⟨u,r,l⟩:=hl i x v hN e hv
 have fin:EP X pins σ Q u s:=⟨v,H,I,r,h⟩
 rcases l with ⟨hk,hm⟩ | ⟨hk,c,hc,hcell⟩
 . exact wpAny_Name (wpAny_loadName_local I.ok.kind hk hn hm fin) hd
 . rcases hk with hk | hk
   . exact wpAny_Name (wpAny_loadName_cell I.ok.kind hk hc hcell fin) hd
   . exact wpAny_Name (wpAny_loadName_free I.ok.kind hk hc hcell fin hcd) hd
theorem A8{i j pos}:PE X (.Constant (.int i) j pos) (tC (.int i)):=λ_ _ _ H _ I h=>wpAny_Constant_int ⟨.int i,H,I.tok _,⟨_,rfl⟩,h⟩
theorem Cw{b j pos}:PE X (.Constant (.bool b) j pos) (tC (.bl b)):=λ_ _ _ H _ I h=>Constant_bool ⟨.bl b,H,I,rfl,h⟩
theorem J8h{j pos}:PE X (.Constant .none j pos) (tC .non):=λ_ _ _ H _ I h=>Constant_none ⟨.non,H,I,rfl,h⟩
theorem B3{x j pos}:PE X (.Constant (.str x) j pos) (tC (.str x)):=λ_ _ _ H _ I h=>Calls.Constant_str ⟨.str x,H,I.tok _,⟨_,rfl⟩,h⟩
def Gl(X:Cx)(x:Str):Prop:=X.env.kindOf x=some .globalImplicit
theorem Ef{E:Value->Shared->Prop}{pins:List (Addr×Obj)}{s:Shared}{σ:St}{H:Hp}{x:Str}{u:Value}{pos:Pos}{Q:Value->Shared->Prop}(I:Inv X pins σ H s)(hg:Gl X x)(hm:X.mg x=some u)(h:Q u s)
 (hd:(x==("__debug__":Str))=false:=by decide):wpAny (model X.prog X.w) X.A (eval (.Name x pos) X.env) Q E s:=
 Calls.Name_function_global I.ok.kind hg (Calls.loadGlobal_global (by rw[I.ok.glob];exact I.mod.glob.keeps I.bk) hm h) hd
theorem Kf{E:Value->Shared->Prop}{pins:List (Addr×Obj)}{s:Shared}{σ:St}{H:Hp}{x:Str}{u:Value}{pos:Pos}{Q:Value->Shared->Prop}(I:Inv X pins σ H s)(hg:Gl X x)(hm:X.mg x=none)(hv:bootBuiltins x=some u)(h:Q u s)
 (hn:x≠"__name__":=by decide) (hd:(x==("__debug__":Str))=false:=by decide):wpAny (model X.prog X.w) X.A (eval (.Name x pos) X.env) Q E s:=by
 obtain⟨mb,h1,h2⟩:=I.mod.blt;exact Calls.Name_function_global I.ok.kind hg (Calls.loadGlobal_builtin (by rw[I.ok.glob];exact I.mod.glob.keeps I.bk) hm (by rw[I.ok.blt];exact h1.keeps I.bk) ((h2 x hn).trans hv) h) hd
theorem Be{x:Str}{v:V}{u:Value}{pos:Pos}(hg:Gl X x)(hm:X.mg x=some u)(r:Au v u)(hd:(x==("__debug__":Str))=false:=by decide):PE X (.Name x pos) (tC v):=
 λ_ _ _ H _ I h=>Ef I hg hm ⟨v,H,I,r,h⟩ hd
theorem Mj{x:Str}{v:V}{u:Value}{pos:Pos}(hg:Gl X x)(hm:X.mg x=none)(hv:bootBuiltins x=some u)(r:Au v u)(hn:x≠"__name__":=by decide)(hd:(x==("__debug__":Str))=false:=by decide):PE X (.Name x pos) (tC v):=
 λ_ _ _ H _ I h=>Kf I hg hm hv ⟨v,H,I,r,h⟩ hn hd
variable {a b:Expr}{ta tb:TE}{pos:Pos}
def PC(X:Cx)(op:CmpOp)(a b:Expr)(t:TE):Prop:=
 ∀(pins:List (Addr×Obj)) (s:Shared) (σ:St) (H:Hp) (Q:VK),Inv X pins σ H s->t σ H Q->
   wpAny (model X.prog X.w) X.A (eval a X.env) (λv s₁=>wpAny (model X.prog X.w) X.A (eval b X.env) (λu s₂=>wpAny (model X.prog X.w) X.A (compareOp op v u) (EP X pins σ Q) X.xe s₂) X.xe s₁) X.xe s
theorem Qy(b:Expr){op:CmpOp}(h:op≠ .In)(h2:op≠ .NotIn):behindInMarks op b=false:=by
 have e1:(op==CmpOp.In)=false:=by cases op <;> first | rfl | exact absurd rfl h
 have e2:(op==CmpOp.NotIn)=false:=by cases op <;> first | rfl | exact absurd rfl h2
 cases b <;> simp[behindInMarks,e1,e2]
def tB(t:TE):TT:=λσ H Q=>t σ H λx H1=>∃c,x= .bl c/\Q c H1
theorem J0l{op:CmpOp}{t:TE}(h:PC X op a b t)(h1:behindInMarks op b=false:=by first | exact Qy _ (by decide) (by decide) | rfl):PE X (.Compare a [op] [b] pos) t:=λpins s σ H Q I hw=>wpAny_Compare1 (h pins s σ H Q I hw) h1
theorem Up{op:CmpOp}{t:TE}(h:PC X op a b t)(h1:behindInMarks op b=false:=by first | exact Qy _ (by decide) (by decide) | rfl):PT X (.Compare a [op] [b] pos) (tB t):=by
 intro pins s σ H Q I hw;refine wpAny_isTrue_Compare1 (thn (h pins s σ H _ I hw) λv s1 h1=>thn h1 λu s2 h2=>thn h2 λc s3 hq_=>?_) h1;obtain⟨x,H1,I1,r1,q1⟩:=hq_;obtain⟨d,rfl,q⟩:=q1;cases r1;exact Hd ⟨H1,I1,q⟩
theorem D9{e:Expr}{t:TE}(h:PE X e t)(he:∀whole,isTrue e X.env whole=(do let v <- whole;standAt e.pos;holding [v] (truthy v)):=by intro _;rfl):PT X e (tB t):=by
 intro pins s σ H Q I hw;refine isTrue_plain (thn (h pins s σ H _ I hw) λv s1 hq_=>?_) (he _);obtain⟨x,H1,I1,r1,q1⟩:=hq_;obtain⟨d,rfl,q⟩:=q1;cases r1;exact Hd ⟨H1,I1,q⟩
variable {tA tB':TT}{rest:List Expr}
def Ja2(t u:TT):TT:=λσ H Q=>t σ H λc H1=>if c=true then u σ H1 Q else Q false H1
def tOr(t u:TT):TT:=λσ H Q=>t σ H λc H1=>if c=true then Q true H1 else u σ H1 Q
def Ja3(t:TT):TT:=λσ H Q=>t σ H λc H1=>Q (!c) H1
theorem J51(ha:PT X a tA):PW X (.BoolOp .And [a] pos) tA:=by
 intro wh pins s σ H Q I h;refine isTrue_and (thn (ha pins s σ H Q I h) λc s1 e=>?_)
 cases c with
 | true=>exact isTrue_and_nil e
 | false=>exact e
theorem N8(ha:PT X a tA):PW X (.BoolOp .Or [a] pos) tA:=by
 intro wh pins s σ H Q I h;refine isTrue_or (thn (ha pins s σ H Q I h) λc s1 e=>?_)
 cases c with
 | false=>exact isTrue_or_nil e
 | true=>exact e
theorem J8i(ha:PT X a tA)(hb:PW X (.BoolOp .And (b::rest) pos) tB'):PW X (.BoolOp .And (a::b::rest) pos) (Ja2 tA tB'):=by
 intro wh pins s σ H Q I h;refine isTrue_and (thn (ha pins s σ H _ I h) λc s1 ⟨H1,I1,q1⟩=>?_)
 cases c with
 | true=>exact hb wh pins s1 σ H1 Q I1 q1
 | false=>exact⟨H1,I1,q1⟩
theorem Qz(ha:PT X a tA)(hb:PW X (.BoolOp .Or (b::rest) pos) tB'):PW X (.BoolOp .Or (a::b::rest) pos) (tOr tA tB'):=by
 intro wh pins s σ H Q I h;refine isTrue_or (thn (ha pins s σ H _ I h) λc s1 ⟨H1,I1,q1⟩=>?_)
 cases c with
 | true=>exact⟨H1,I1,q1⟩
 | false=>exact hb wh pins s1 σ H1 Q I1 q1
theorem En(ha:PT X a tA):PT X (.UnaryOp .Not a pos) (Ja3 tA):=by
 intro pins s σ H Q I h;exact isTrue_not (ha pins s σ H (λc H1=>Q (!c) H1) I h)
def J6t(ta tb:TE):TE:=λσ H Q=>ta σ H λx H1=>∃c,x= .bl c/\if c=true then tb σ H1 Q else Q (.bl false) H1
def Ja4(ta tb:TE):TE:=λσ H Q=>ta σ H λx H1=>∃c,x= .bl c/\if c=true then Q (.bl true) H1 else tb σ H1 Q
def J6u(ta:TE):TE:=λσ H Q=>ta σ H λx H1=>∃c,x= .bl c/\Q (.bl (!c)) H1
theorem N9{op}{t:TE}(h:PE X a t):PE X (.BoolOp op [a] pos) t:=λpins s σ H Q I hw=>BoolOp_one (h pins s σ H Q I hw)
theorem Na(ha:PE X a ta)(hb:PE X (.BoolOp .And (b::rest) pos) tb):PE X (.BoolOp .And (a::b::rest) pos) (J6t ta tb):=by
 intro pins s σ H Q I h;refine BoolOp_and (thn (ha pins s σ H _ I h) λv s1 hq_=>?_);obtain⟨x,H1,I1,r1,q1⟩:=hq_;obtain⟨c,rfl,q1⟩:=q1;cases r1;refine Hd ?_
 cases c with
 | true=>exact hb pins s1 σ H1 Q I1 q1
 | false=>exact⟨.bl false,H1,I1,rfl,q1⟩
theorem Ja5(ha:PE X a ta)(hb:PE X (.BoolOp .Or (b::rest) pos) tb):PE X (.BoolOp .Or (a::b::rest) pos) (Ja4 ta tb):=by
 intro pins s σ H Q I h;refine BoolOp_or (thn (ha pins s σ H _ I h) λv s1 hq_=>?_);obtain⟨x,H1,I1,r1,q1⟩:=hq_;obtain⟨c,rfl,q1⟩:=q1;cases r1;refine Hd ?_
 cases c with
 | false=>exact hb pins s1 σ H1 Q I1 q1
 | true=>exact⟨.bl true,H1,I1,rfl,q1⟩
theorem J8j(ha:PE X a ta):PE X (.UnaryOp .Not a pos) (J6u ta):=by
 intro pins s σ H Q I h;refine UnaryOp_ (thn (ha pins s σ H _ I h) λv s1 hq_=>?_);obtain⟨x,H1,I1,r1,q1⟩:=hq_;obtain⟨c,rfl,q1⟩:=q1;cases r1;exact not_of (Hd ⟨.bl (!c),H1,I1,rfl,q1⟩)
def tIf(t:TT)(ta tb:TE):TE:=λσ H Q=>t σ H λc H1=>if c=true then ta σ H1 Q else tb σ H1 Q
end
def SqL(K:PySem.W.Frag)(H:Hp)(a:Addr)(xs:List V):Prop:=
 Rd H a (.lst xs)\/
  ∃(o:Obj) (its:Array Value) (n:Nat),K.lookup a=some o/\o.cls= .type "list"/\o.dict=none/\o.data= .seq its n/\its.size<=sizeLine/\Ay xs its.toList
def SqT(K:PySem.W.Frag)(H:Hp)(a:Addr)(xs:List V):Prop:=
 Rd H a (.tup xs)\/
  ∃(o:Obj) (its:Array Value) (n:Nat),K.lookup a=some o/\o.cls= .type "tuple"/\o.data= .seq its n/\its.size<=sizeLine/\Ay xs its.toList
def Jc9:Value->Option V
 | .none=>some .non
 | .bool b=>some (.bl b)
 | .int i _=>some (.int i)
 | .str x _=>some (.str x)
 | .bytes b _=>some (.byt b)
 | .float b _=>some (.flt b)
 | .ref a=>some (.ref a)
 | .type n=>some (.ty n)
 | _=>none
theorem Au.abs{x:V}{u:Value}(r:Au x u):Jc9 u=some x:=by
 cases x with
 | non=>cases r;rfl
 | bl _=>cases r;rfl
 | int _=>obtain⟨t,rfl⟩:=r;rfl
 | str _=>obtain⟨t,rfl⟩:=r;rfl
 | byt _=>obtain⟨t,rfl⟩:=r;rfl
 | flt _=>obtain⟨t,rfl⟩:=r;rfl
 | ref _=>cases r;rfl
 | ty _=>cases r;rfl
theorem Au.inj{x y:V}{u:Value}(r:Au x u)(q:Au y u):x=y:=FG (r.abs.symm.trans q.abs)
theorem Ay.inj:∀{xs ys:List V}{us:List Value},Ay xs us->Ay ys us->xs=ys
 | _,_,_,.nil,.nil=>rfl
 | _,_,_,.cons r t,.cons r' t'=>by rw[r.inj r',Ay.inj t t']
section
variable {X:Cx}{pins:List (Addr×Obj)}{σ:St}{H:Hp}{s:Shared}{a:Addr}{xs ys:List V}
theorem SqL.of{K:PySem.W.Frag}(h:H a=some (.lst xs)):SqL K H a xs:= .inl (.inl h)
theorem SqT.of{K:PySem.W.Frag}(h:H a=some (.tup xs)):SqT K H a xs:= .inl (.inl h)
theorem Inv.list(I:Inv X pins σ H s)(h:SqL X.K H a xs):∃its:List Value,Ay xs its/\PlainL s.heap a its.toArray/\xs.length<=sizeLine:=by
 rcases h with h | ⟨o,its,n,hk,hc,hd,hs,hz,r⟩
 . obtain⟨z,its,n,r,e⟩:=h.ok I.hok
   exact⟨its,r,⟨_,n,e,rfl,rfl,rfl⟩,z⟩
 . refine⟨its.toList,r,⟨o,n,I.kIn a o hk,hc,hd,by simpa using hs⟩,?_⟩
   have e:=r.length;simp only[Re]at e;omega
theorem Inv.tuple(I:Inv X pins σ H s)(h:SqT X.K H a xs):∃its:List Value,Ay xs its/\IsTup s.heap a its.toArray/\xs.length<=sizeLine:=by
 rcases h with h | ⟨o,its,n,hk,hc,hs,hz,r⟩
 . obtain⟨z,its,r,p⟩:=h.ok I.hok
   exact⟨its,r,p,z⟩
 . refine⟨its.toList,r,⟨o,I.kIn a o hk,hc,n,by simpa using hs⟩,?_⟩
   have e:=r.length;simp only[Re]at e;omega
theorem Inv.list_inj(I:Inv X pins σ H s)(h:SqL X.K H a xs)(h':SqL X.K H a ys):xs=ys:=by
 obtain⟨its,r,⟨o,n,e,_,_,d⟩,_⟩:=I.list h;obtain⟨its',r',⟨o',n',e',_,_,d'⟩,_⟩:=I.list h';rw[e]at e';cases e';rw[d]at d'
 injection d' with d1 _
 have:its=its':=by simpa using congrArg Array.toList d1
 subst this;exact r.inj r'
end
abbrev Cx.wish(X:Cx)(E:Value->Shared->Prop):Cx:={X with xe:=E}
abbrev Cx.nox(X:Cx):Cx:=X.wish λ_ _=>False
theorem Cx.Ok.wish{X:Cx}(ok:X.Ok)(E:Value->Shared->Prop):(X.wish E).Ok:=
 ⟨ok.mod,ok.kind,ok.glob,ok.blt,ok.above,ok.inj,ok.has,ok.cab,ok.hd,ok.frames,ok.stk,ok.exf,ok.bs,ok.bsz,ok.noex,ok.exfs,ok.funs,ok.frf⟩
theorem Cx.Ok.unwish{X:Cx}{E:Value->Shared->Prop}(ok:(X.wish E).Ok):X.Ok:=
 ⟨ok.mod,ok.kind,ok.glob,ok.blt,ok.above,ok.inj,ok.has,ok.cab,ok.hd,ok.frames,ok.stk,ok.exf,ok.bs,ok.bsz,ok.noex,ok.exfs,ok.funs,ok.frf⟩
section
variable {X:Cx}{pins:List (Addr×Obj)}{σ:St}{H:Hp}{s:Shared}{E:Value->Shared->Prop}
theorem Inv.wish(I:Inv X pins σ H s)(E:Value->Shared->Prop):Inv (X.wish E) pins σ H s:=⟨I.ok.wish E,I.os,I.bare,I.base,I.loc,I.cell,I.free,I.freeC,I.pin,I.hok,I.len⟩
theorem Inv.unwish(I:Inv (X.wish E) pins σ H s):Inv X pins σ H s:=⟨I.ok.unwish,I.os,I.bare,I.base,I.loc,I.cell,I.free,I.freeC,I.pin,I.hok,I.len⟩
theorem SP.unwish{D:Dh}{f:Flow}{s':Shared}(h:SP (X.wish E) pins D f s'):SP X pins D f s':=by
 cases f with
 | next=>obtain⟨σ',H',I,q⟩:=h;exact⟨σ',H',I.unwish,q⟩
 | brk=>obtain⟨σ',H',I,q⟩:=h;exact⟨σ',H',I.unwish,q⟩
 | cont=>obtain⟨σ',H',I,q⟩:=h;exact⟨σ',H',I.unwish,q⟩
 | ret u=>obtain⟨v,σ',H',I,r,q⟩:=h;exact⟨v,σ',H',I.unwish,r,q⟩
theorem PSs.nox{st:List Stmt}{t:TS}(h:PSs X.nox st t):PSs X st t:=λpins s σ H D I hw=>
 FN (h pins s σ H D (I.wish _) hw) (λ_ _ q=>q.unwish) λ_ _ z=>False.elim z
end
section
variable {X:Cx}{st:Stmt}{rest:List Stmt}{t u:TS}{e:Expr}{te:TE}{pos:Pos}
def J0m:TS:=λD σ H=>D.nx σ H
def Ja6(t u:TS):TS:=λD σ H=>t {D with nx:=u D} σ H
theorem Aj:PSs X [] J0m:=λ_ _ σ H _ I h=>Ra ⟨σ,H,I,h⟩
theorem A3(h1:PS X st t)(h2:PSs X rest u):PSs X (st::rest) (Ja6 t u):=by
 intro pins s σ H D I h;refine wpAny_execs_cons (thn (h1 pins s σ H {D with nx:=u D} I h) λf s1 q=>?_)
 cases f with
 | next=>
  obtain⟨σ',H',I',q⟩:=q;exact h2 pins s1 σ' H' D I' q
 | ret v=>exact q
 | brk=>exact q
 | cont=>exact q
theorem A4(h1:PS X st t):PSs X [st] t:=by
 intro pins s σ H D I h;refine wpAny_execs_cons (thn (h1 pins s σ H D I h) λf s1 q=>?_)
 cases f with
 | next=>exact Ra q
 | ret v=>exact q
 | brk=>exact q
 | cont=>exact q
def J8k:TS:=λD σ H=>D.bk σ H
def Ja7:TS:=λD σ H=>D.ct σ H
theorem Dm:PS X (.Pass pos) J0m:=λ_ _ σ H _ I h=>wpAny_Pass ⟨σ,H,I,h⟩
theorem Inv.quiet{pins:List (Addr×Obj)}{σ:St}{H:Hp}{s:Shared}(I:Inv X pins σ H s):interactive X.env=false:=by simp[interactive,I.ok.kind]
def J6v(te:TE):TS:=λD σ H=>te σ H λ_ H1=>D.nx σ H1
theorem Al(he:PE X e te)(hs:swapsWith e none pos.line X.env=pure false:=by rfl):PS X (.Expr e pos) (J6v te):=by
 intro pins s σ H D I h;exact wpAny_Expr_any (thn (he pins s σ H _ I h) λv s1 ⟨x,H1,I1,r1,q1⟩=>⟨σ,H1,I1,q1⟩) I.quiet hs
def Ja8(te:TE):TS:=λD σ H=>te σ H D.rt
theorem Af(he:PE X e te):PS X (.Return (some e) pos) (Ja8 te):=by
 intro pins s σ H D I h;exact wpAny_Return_some (thn (he pins s σ H _ I h) λv s1 ⟨x,H1,I1,r1,q1⟩=>⟨x,σ,H1,I1,r1,q1⟩)
def Ja9:TS:=λD _ H=>D.rt .non H
def Jaa(c:TT)(t u:TS):TS:=λD σ H=>c σ H λb H1=>if b=true then t D σ H1 else u D σ H1
theorem As{c:Expr}{a b:List Stmt}{tc:TT}(hc:PT X c tc)(ha:PSs X a t)(hb:PSs X b u):PS X (.If c a b pos) (Jaa tc t u):=by
 intro pins s σ H D I h;refine wpAny_If (thn (hc pins s σ H _ I h) λd s1 ⟨H1,I1,q1⟩=>?_)
 cases d with
 | true=>exact ha pins s1 σ H1 D I1 q1
 | false=>exact hb pins s1 σ H1 D I1 q1
def J0n:TS:=λ_ _ _=>False
theorem Da:PS X st J0n:=λ_ _ _ _ _ _ h=>h.elim
end
abbrev TG:=V->St->Hp->(St->Hp->Prop)->Prop
abbrev TGs:=List V->St->Hp->(St->Hp->Prop)->Prop
def PG(X:Cx)(target:Expr)(t:TG):Prop:=
 ∀(pins:List (Addr×Obj)) (s:Shared) (σ:St) (H:Hp) (v:V) (u:Value) (Q:St->Hp->Prop),Inv X pins σ H s->Au v u->t v σ H Q->
   wpAny (model X.prog X.w) X.A (assign target X.env u) (λ_ s'=>∃σ' H',Inv X pins σ' H' s'/\Q σ' H') X.xe s
def PGs(X:Cx)(ts:List Expr)(t:TGs):Prop:=
 ∀(pins:List (Addr×Obj)) (s:Shared) (σ:St) (H:Hp) (vs:List V) (us:List Value) (Q:St->Hp->Prop),Inv X pins σ H s->Ay vs us->t vs σ H Q->
   wpAny (model X.prog X.w) X.A (assignInOrder ((assignEach ts X.env).map (·.2)) us) (λ_ s'=>∃σ' H',Inv X pins σ' H' s'/\Q σ' H') X.xe s
abbrev Jab:=V->V->V->Hp->(Hp->Prop)->Prop
abbrev TIp:=V->V->Hp->VK->Prop
section
variable {X:Cx}{pos:Pos}
def Cy(i:Nat):TG:=λv σ H Q=>Q (σ.set i (some v)) H
theorem Cr{i:Nat}{x:Str}(hN:X.N.Nodup)(hi:X.N[i]?=some x)(hx:Loc X.env.scope x)(hf:X.fn x=true\/X.env.scope.names.lookup x=some .local:=by first | exact .inl rfl | exact .inr rfl | assumption):PG X (.Name x pos) (Cy i):=by
 intro pins s σ H v u Q I r h;exact wpAny_assign_Name (N7 I hN hi hx r (λs' I'=>⟨_,H,I',h⟩) hf)
def J52:TGs:=λvs σ H Q=>vs=[]/\Q σ H
def Nb(t:TG)(u:TGs):TGs:=λvs σ H Q=>∃v r,vs=v::r/\t v σ H λσ' H'=>u r σ' H' Q
theorem Ml:PGs X [] J52:=by
 intro pins s σ H vs us Q I r h;obtain⟨e,h⟩:=h;subst e;cases r;exact assignInOrder_nil ⟨σ,H,I,h⟩
theorem Dc{e:Expr}{es:List Expr}{t:TG}{u:TGs}(h1:PG X e t)(h2:PGs X es u)
 (hs:(assignEach (e::es) X.env).map (·.2)=assign e X.env::(assignEach es X.env).map (·.2):=by rfl):PGs X (e::es) (Nb t u):=by
 intro pins s σ H vs us Q I r h;obtain⟨v,vr,e1,h⟩:=h;subst e1
 cases r with
 | cons r rr=>
  rw[hs];refine assignInOrder_cons (thn (h1 pins s σ H _ _ _ I r h) λ_ s1 hq_=>?_);obtain⟨σ1,H1,I1,q1⟩:=hq_;exact h2 pins s1 σ1 H1 _ _ Q I1 rr q1
def J53(K:PySem.W.Frag)(n:Nat)(t:TGs):TG:=λv σ H Q=>∃a xs,v= .ref a/\SqT K H a xs/\xs.length=n/\t xs σ H Q
theorem Uq{es:List Expr}{k:Nat}{t:TGs}{n:Nat}(hc:X.calm=true)(h:PGs X es t)
 (hn:(assignEach es X.env).length=n:=by rfl) (hst:(assignEach es X.env).findIdx? (·.1)=none:=by rfl):PG X (.Tuple es k pos) (J53 X.K n t):=by
 intro pins s σ H v u Q I r hw;obtain⟨a,xs,e1,hq,hl,hw⟩:=hw;subst e1;cases r;obtain⟨its,rv,ht,hz⟩:=I.tuple hq;refine assign_Tuple_tuple (I.ok.hd hc) ht (by simp[hn,<- hl,rv.length]) hst λh' hx=>?_;have I1:Inv X pins σ H {s with heap:=h'}:=I.kept (t':=s.toks) λb o e=>hx b o (Fv (Fm e)) e;exact h pins _ σ H xs _ Q I1 (by simpa using rv) hw
def Jca(to ti:TE)(t:Jab):TG:=λv σ H Q=>to σ H λo H1=>ti σ H1 λi H2=>t o i v H2 λH3=>Q σ H3
def J0o(te:TE)(g:TG):TS:=λD σ H=>te σ H λx H1=>g x σ H1 D.nx
theorem J8l{tg e:Expr}{te:TE}{g:TG}(he:PE X e te)(hg:PG X tg g)(hs:swapsWithSole [tg] e pos.line X.env=pure false:=by rfl)(hw:swappedStores [tg] e X.env=pure none:=by rfl)
 (h1:(assignEach [tg] X.env).map (·.2)=[assign tg X.env]:=by rfl):PS X (.Assign [tg] e pos) (J0o te g):=by
 intro pins s σ H D I h;refine wpAny_Assign_stores (thn (he pins s σ H _ I h) λv s1 hq_=>?_) hs hw;obtain⟨x,H1,I1,r1,q1⟩:=hq_;rw[h1];exact thn (hg pins s1 σ H1 x v _ I1 r1 q1) λ_ s2 q=>q
theorem Az{i:Nat}{x:Str}{e:Expr}{te:TE}{pos':Pos}(hN:X.N.Nodup)(hi:X.N[i]?=some x)(hx:Loc X.env.scope x)(he:PE X e te)(hs:swapsWith e (some (.Name x pos')) pos.line X.env=pure false:=by rfl)(hf:X.fn x=true\/X.env.scope.names.lookup x=some .local:=by first | exact .inl rfl | exact .inr rfl | assumption):
 PS X (.Assign [.Name x pos'] e pos) (J0o te (Cy i)):=by
 intro pins s σ H D I h;refine wpAny_Assign_Name (thn (he pins s σ H _ I h) λv s1 hq_=>?_) hs;obtain⟨y,H1,I1,r1,q1⟩:=hq_;exact N7 I1 hN hi hx r1 (λs2 I2=>⟨_,H1,I2,q1⟩) hf
def Jcb(i j:Nat)(ta:TA):TS:=λD σ H=>ta σ H λvs H1=>∃v w,vs=[v,w]/\D.nx ((σ.set i (some v)).set j (some w)) H1
def Jcc(i:Nat)(te:TE)(ti:TIp):TS:=λD σ H=>∃x,σ[i]?=some (some x)/\te σ H λy H1=>ti x y H1 λz H2=>D.nx (σ.set i (some z)) H2
def ipI(f:Int->Int->Int):TIp:=λx y H Q=>∃i j,x= .int i/\y= .int j/\Q (.int (f i j)) H
end
section
variable {X:Cx}{pos:Pos}
def J0p(c:TT)(tb:TS):TS:=λD σ H=>∃W:Nat->St->Hp->Prop,(∃m,W m σ H)/\∀m σ H,W m σ H->
 c σ H λb H1=>if b=true then ∃N:St->Hp->Prop,(∀σ' H',N σ' H'->∃m',m' < m/\W m' σ' H')/\tb {D with nx:=N,ct:=N,bk:=D.nx} σ H1 else D.nx σ H1
theorem S0{c:Expr}{body:List Stmt}{tc:TT}{tb:TS}(hp:PassesOwn (model X.prog X.w) X.A X.env X.xe)(hc:PT X c tc)(hb:PSs X body tb):PS X (.While c body [] pos) (J0p tc tb):=by
 intro pins s σ H D I h;obtain⟨W,⟨m0,w0⟩,turn⟩:=h;refine wpAny_While (codeAny_whileLoop (λn s'=>∃σ' H',Inv X pins σ' H' s'/\W n σ' H') ?_ m0 ⟨σ,H,I,w0⟩);rintro n s1 ⟨σ1,H1,I1,w1⟩;refine Hz hp (thn (hc pins s1 σ1 H1 _ I1 (turn n σ1 H1 w1)) λb s2 ⟨H2,I2,q2⟩=>?_)
 cases b with
 | true=>
  obtain⟨N,hN,q2⟩:=q2;rw[if_pos rfl];refine Hz hp (thn (hb pins s2 σ1 H2 _ I2 q2) λf s3 q3=>?_)
  cases f with
  | next=>
   obtain⟨σ3,H3,I3,n3⟩:=q3;obtain⟨m',hm,w3⟩:=hN σ3 H3 n3;exact⟨m',hm,σ3,H3,I3,w3⟩
  | cont=>
   obtain⟨σ3,H3,I3,n3⟩:=q3;obtain⟨m',hm,w3⟩:=hN σ3 H3 n3;exact⟨m',hm,σ3,H3,I3,w3⟩
  | brk=>exact q3
  | ret v=>exact q3
 | false=>
  rw[if_neg Fp];exact Ra ⟨σ1,H2,I2,q2⟩
end
structure It where
 go:Nat->Hp->Prop
 yld:Nat->Hp->V->Hp->Prop
 stop:Nat->Hp->Prop
def Dz(X:Cx)(pins:List (Addr×Obj))(H:Hp)(b:Addr):Prop:=
 H b=none/\b≠X.env.locals/\b∉X.fs/\(b∈X.ex\/X.s₀.heap.objs.size<=b)/\(∀x c,X.env.cells.lookup x=some c->c≠b)/\∀p∈X.pn++pins,p.1≠b
theorem Inv.fpOk{X:Cx}{pins:List (Addr×Obj)}{σ:St}{H H':Hp}{s:Shared}{b:Addr}(I:Inv X pins σ H s)(hb:s.heap.objs.size<=b)(hn:H' b=none):Dz X pins H' b:=by
 refine⟨hn,Nat.ne_of_gt (Fl I.lt hb),I.nofs hb,.inr (FE I.sz hb),λx c e z=>?_,λp hp z=>?_⟩
 . obtain⟨v,q⟩:=I.cell x c e
   exact absurd (Fl q.lt (by rw[z];exact hb)) (Hq _)
 . exact absurd (Fl (Fm (I.pin p hp).1) (by rw[z];exact hb)) (Hq _)
structure J0q(P:Program)(w:World)(K:PySem.W.Frag)(tg:Expr)(J:It)(fp:List Addr)(it:Addr)(tn:Nat->Heap->Prop):Prop where
 mem:it∈fp
 obj:∀i h,tn i h->∀b∈fp,∃o,h.get? b=some o/\∀v,o.data≠ .cell v
 keep:∀i h h',tn i h->(∀b∈fp,∀o,h.get? b=some o->h'.get? b=some o)->tn i h'
 item:∀(X:Cx),X.prog=P->X.w=w->X.K=K->X.calm=true->∀(i:Nat) (pins:List (Addr×Obj)) (s:Shared) (σ:St) (H:Hp) (E:Value->Shared->Prop),Inv X pins σ H s->(∀b∈fp,Dz X pins H b)->tn i s.heap->J.go i H->
  wpAny (model P w) X.A (pyNext (.ref it)) (λr s1=>∃u,r=some u/\
   wpAny (model P w) X.A (letOwnedTupleGo tg (.ref it) u) (λ_ s2=>∃x H',Inv X pins σ H' s2/\Au x u/\J.yld i H x H'/\tn (i+1) s2.heap/\∀b∈fp,H' b=none) E s1) E s
 done:∀(X:Cx),X.prog=P->X.w=w->X.K=K->X.calm=true->∀(i:Nat) (pins:List (Addr×Obj)) (s:Shared) (σ:St) (H:Hp) (E:Value->Shared->Prop),Inv X pins σ H s->(∀b∈fp,Dz X pins H b)->tn i s.heap->J.stop i H->
   wpAny (model P w) X.A (pyNext (.ref it)) (λr s1=>r=none/\Inv X pins σ H s1) E s
 self:∀(A:Around) (i:Nat) (s:Shared) (Q:Value->Shared->Prop) (E:Value->Shared->Prop),tn i s.heap->Q (.ref it) s->wpAny (model P w) A (pyIter (.ref it)) Q E s
abbrev TI:=St->Hp->(It->Hp->Prop)->Prop
def PIE(X:Cx)(pins:List (Addr×Obj))(σ:St)(tg:Expr)(R:It->Hp->Prop)(itv:Value)(s2:Shared):Prop:=
 ∃(it:Addr) (fp:List Addr) (tn:Nat->Heap->Prop) (J:It) (H':Hp),itv= .ref it/\Inv X pins σ H' s2/\J0q X.prog X.w X.K tg J fp it tn/\tn 0 s2.heap/\(∀b∈fp,Dz X pins H' b)/\R J H'
def PI(X:Cx)(tg iter:Expr)(wi:TI):Prop:=
 ∀(pins:List (Addr×Obj)) (s:Shared) (σ:St) (H:Hp) (R:It->Hp->Prop),Inv X pins σ H s->wi σ H R->
   wpAny (model X.prog X.w) X.A (eval iter X.env) (λv s1=>wpAny (model X.prog X.w) X.A (pyIter v) (PIE X pins σ tg R) X.xe s1) X.xe s
theorem J0r{M:Model}{A:Around}{E:Value->Shared->Prop}{s:Shared}{tg:Expr}{it:Addr}{u:Value}{o:Obj}{n:String}{vs:Array Value}{Q:Unit->Shared->Prop}(ho:s.heap.get? it=some o)(hc:o.cls= .type n)(hd:o.data= .fields vs)
 (hn:["enumerate","zip","dict_itemiterator","dict_reverseitemiterator","odict_iterator","itertools.zip_longest","itertools.pairwise"].contains n=false) (hQ:Q () s):wpAny M A (letOwnedTupleGo tg (.ref it) u) Q E s:=by
 unfold letOwnedTupleGo
 cases tg <;> first
  | exact Fu hQ
  | (cases u <;> first
   | exact Fu hQ
   | (refine Fc (wpAny_load ho ?_)
      rw[hc,hd];show wpAny M A (if (["enumerate","zip","dict_itemiterator","dict_reverseitemiterator","odict_iterator","itertools.zip_longest","itertools.pairwise"].contains n && vs[0]?==some (rawInt _))=true then _ else _) Q E s;rw[if_neg (by intro h;rw[hn,Bool.false_and]at h;cases h)]
      exact Fu hQ))
def Itl(K:PySem.W.Frag)(a:Addr):It:=
 ⟨λi H=>∃xs x,SqL K H a xs/\xs[i]?=some x,λi H x H'=>H'=H/\∀xs,SqL K H a xs->xs[i]?=some x,λi H=>∃xs,SqL K H a xs/\xs.length<=i⟩
def Itt(K:PySem.W.Frag)(a:Addr):It:=
 ⟨λi H=>∃xs x,SqT K H a xs/\xs[i]?=some x,λi H x H'=>H'=H/\∀xs,SqT K H a xs->xs[i]?=some x,λi H=>∃xs,SqT K H a xs/\xs.length<=i⟩
def Itr(lo:Int)(n:Nat):It:=⟨λi _=>i < n,λi H x H'=>H'=H/\x= .int (lo+i),λi _=>n<=i⟩
theorem Yg{P:Program}{w:World}{K:PySem.W.Frag}{tg:Expr}(a it:Addr):J0q P w K tg (Itl K a) [it] it (λi h=>h.IsListIter it a i) where
 mem:=by simp
 obj:=λi h st b hb=>by
  have e:b=it:=by simpa using hb
  subst e;obtain⟨o,e,c,d⟩:=st;exact⟨o,e,λv z=>by rw[d]at z;cases z⟩
 keep:=λi h h' st k=>st.at λo e=>k it (by simp) o e
 item:=by
  intro X hP hw hK hc i pins s σ H E I hf st hg;subst hP hw hK;obtain⟨xs,x,hq,hx⟩:=hg;obtain⟨its,rv,p,hz⟩:=I.list hq;obtain⟨u,hu,ru⟩:=rv.get hx;obtain⟨f0,f1,f2,f3,f4,f5⟩:=hf it (by simp);refine wpAny_pyNext_list_item st p.isList (x:=u) (by simpa using hu) λh' st' sb=>?_;have I1:Inv X pins σ H {s with heap:=h'}:=I.turned (t':=s.toks) (λb o hb e=>(sb.2 b hb).trans e) f0 f1 f3 f4 f5;obtain⟨o,e,c,d⟩:=id st';exact⟨u,rfl,J0r (s:={s with heap:=h'}) e c d (by decide) ⟨x,H,I1,ru,⟨rfl,λys hy=>by rw[I.list_inj hy hq];exact hx⟩,st',λb hb=>(hf b hb).1⟩⟩
 done:=by
   intro X hP hw hK hc i pins s σ H E I hf st hg;subst hP hw hK;obtain⟨xs,hq,hx⟩:=hg;obtain⟨its,rv,p,hz⟩:=I.list hq;obtain⟨f0,f1,f2,f3,f4,f5⟩:=hf it (by simp);have hl:=rv.length
   exact wpAny_pyNext_list_end (I.ok.hd hc) st p.isList (by simp;omega) λh' eb=>⟨rfl,I.turned (t':=s.toks) (λb o hb e=>eb b o hb e) f0 f1 f3 f4 f5⟩
 self:=λ_ _ _ _ _ st h=>wpAny_pyIter_listiter st h
theorem Ur{P:Program}{w:World}{K:PySem.W.Frag}{tg:Expr}(it:Addr)(lo:Int)(n:Nat):J0q P w K tg (Itr lo n) [it] it (λi h=>IsRangeIter h it (lo+(i:Nat) * 1) ((n:Int) - (i:Nat)) 1) where
 mem:=by simp
 obj:=λi h st b hb=>by
  have e:b=it:=by simpa using hb
  subst e
  exact⟨_,st,λv z=>by
   have z':Data.fields _=Data.cell v:=z
   cases z'⟩
 keep:=λi h h' st k=>k it (by simp) _ st
 item:=by
  intro X hP hw hK hc i pins s σ H E I hf st hg;subst hP hw hK;obtain⟨f0,f1,f2,f3,f4,f5⟩:=hf it (by simp);have W:=Walks.range (prog:=X.prog) (w:=X.w) (I.ok.hd hc) it lo 1 n;refine W.item i s _ _ hg st λv h' tk hv st' kk=>?_;obtain⟨t,rfl⟩:=hv;have I1:Inv X pins σ H {s with heap:=h',toks:=tk}:=I.turned (λb o hb e=>kk b o (by simpa using hb) e) f0 f1 f3 f4 f5;refine⟨_,rfl,J0r (s:={s with heap:=h',toks:=tk}) (n:="range_iterator") st' rfl rfl (by decide) ⟨.int (lo+i),H,I1,⟨t,?_⟩,⟨rfl,rfl⟩,st',λb hb=>(hf b hb).1⟩⟩;rw[Int.mul_one]
 done:=by
   intro X hP hw hK hc i pins s σ H E I hf st hg;subst hP hw hK;obtain⟨f0,f1,f2,f3,f4,f5⟩:=hf it (by simp)
   exact wpAny_pyNext_range_end (I.ok.hd hc) st (by have:n<=i:=hg;omega) λh' eb=>⟨rfl,I.turned (t':=s.toks) (λb o hb e=>eb b o hb e) f0 f1 f3 f4 f5⟩
 self:=λ_ _ _ _ _ st h=>wpAny_pyIter_rangeiter st h
section
variable {X:Cx}{tg:Expr}
def J6w(K:PySem.W.Frag)(tl:TE):TI:=λσ H R=>tl σ H λx H1=>∃a,x= .ref a/\(∃xs,SqL K H1 a xs)/\R (Itl K a) H1
def Jcd(K:PySem.W.Frag)(tl:TE):TI:=λσ H R=>tl σ H λx H1=>∃a,x= .ref a/\(∃xs,SqT K H1 a xs)/\R (Itt K a) H1
theorem Ko{l:Expr}{tl:TE}(hl:PE X l tl):PI X tg l (J6w X.K tl):=by
 intro pins s σ H R I h;refine thn (hl pins s σ H _ I h) λv s1 hq_=>?_;obtain⟨x,H1,I1,r1,q1⟩:=hq_;obtain⟨a,e,⟨xs,hq⟩,q⟩:=q1;subst e;cases r1;obtain⟨its,rv,p,hz⟩:=I1.list hq;refine RG p.isList ?_;refine⟨s1.heap.objs.size,[s1.heap.objs.size],_,_,H1,rfl,I1.kept (t':=s1.toks) λb o e=>Fe _ e,Yg a _,⟨_,Fy _ rfl,rfl,rfl⟩,λb hb=>?_,q⟩
 have e:b=s1.heap.objs.size:=by simpa using hb
 subst e;exact I1.fpOk (Fg _) (I1.hok.fresh (Fg _))
theorem S3{pins:List (Addr×Obj)}{σ:St}{H:Hp}{s:Shared}{R:It->Hp->Prop}{E:Value->Shared->Prop}{lo hi:Int}{t u v:Tok}{tk:Nat}(I:Inv X pins σ H s)(h1:-(2 ^ 62)<=lo)(h2:lo < 2 ^ 62)(h3:-(2 ^ 62)<=hi)(h4:hi < 2 ^ 62)
 (q:R (Itr lo (hi - lo).toNat) H):wpAny (model X.prog X.w) X.A (pyIter (.ref s.heap.objs.size)) (PIE X pins σ tg R) E {s with heap:=s.heap.push {cls:= .type "range",data:= .fields #[.int lo t,.int hi u,.int 1 v]},toks:=tk}:=by
 refine wpAny_pyIter_range (IsRange.new ..) (small_one h1 h2 h3 h4) ?_;have I1:Inv X pins σ H {s with heap:=s.heap.push {cls:= .type "range",data:= .fields #[.int lo t,.int hi u,.int 1 v]},toks:=tk}:=I.kept λb o e=>Fe _ e
 refine⟨(s.heap.push {cls:= .type "range",data:= .fields #[.int lo t,.int hi u,.int 1 v]}).objs.size,[(s.heap.push {cls:= .type "range",data:= .fields #[.int lo t,.int hi u,.int 1 v]}).objs.size],_,_,H,rfl,
  I1.kept (t':=tk) λb o e=>Fe _ e,Ur _ lo (hi - lo).toNat,?_,λb hb=>?_,q⟩
 . have e1:lo+((0:Nat):Int) * 1=lo:=by simp
   have e2:(((hi - lo).toNat:Nat):Int) - ((0:Nat):Int)=Builtin.Range.rangeSize lo hi 1:=by rw[rangeSize_one];split <;> omega
   show IsRangeIter _ _ (lo+((0:Nat):Int) * 1) ((((hi - lo).toNat:Nat):Int) - ((0:Nat):Int)) 1;rw[e1,e2];exact Fy _ rfl
 . have e:b=(s.heap.push {cls:= .type "range",data:= .fields #[.int lo t,.int hi u,.int 1 v]}).objs.size:=by simpa using hb
   subst e;exact I1.fpOk (Fg _) (I1.hok.fresh (Fg _))
def J6x(ta:TA):TI:=λσ H R=>ta σ H λvs H1=>∃j:Int,vs=[.int j]/\-(2 ^ 62)<=j/\j < 2 ^ 62/\R (Itr 0 j.toNat) H1
def J6y(ta:TA):TI:=λσ H R=>ta σ H λvs H1=>∃i j:Int,vs=[.int i,.int j]/\(-(2 ^ 62)<=i/\i < 2 ^ 62/\-(2 ^ 62)<=j/\j < 2 ^ 62)/\R (Itr i (j - i).toNat) H1
theorem Iv{a:Expr}{ta:TA}{p pos:Pos}(hg:Gl X "range")(hm:X.mg "range"=none)(ha:PA X [a] ta)(hs:starEach [a] X.env=[(false,eval a X.env)]:=by rfl):PI X tg (.Call (.Name "range" p) [a] [] pos) (J6x ta):=by
 intro pins s σ H R I h;refine Call_ (Kf I hg hm boot_range (HE (thn (ha pos pins s σ H _ I h) λus s1 hq_=>?_) hs rfl));obtain⟨vs,H1,I1,r1,q1⟩:=hq_;obtain⟨j,e,q1,q2,q⟩:=q1;subst e
 cases r1 with
 | cons r rr=>
  cases rr;obtain⟨t,rfl⟩:=r;exact call_range_1 (S3 I1 (by omega) (by omega) q1 q2 (by simpa using q))
theorem Yh{a b:Expr}{ta:TA}{p pos:Pos}(hg:Gl X "range")(hm:X.mg "range"=none)(ha:PA X [a,b] ta)(hs:starEach [a,b] X.env=[(false,eval a X.env),(false,eval b X.env)]:=by rfl)(hs2:starEach [b] X.env=[(false,eval b X.env)]:=by rfl):
 PI X tg (.Call (.Name "range" p) [a,b] [] pos) (J6y ta):=by
 intro pins s σ H R I h;refine Call_ (Kf I hg hm boot_range (HE (thn (ha pos pins s σ H _ I h) λus s1 ⟨vs,H1,I1,r1,q1⟩=>?_) (by rw[hs,hs2]) (by rw[hs2];rfl)));obtain⟨i,j,e,⟨q1,q2,q3,q4⟩,q⟩:=q1;subst e
 cases r1 with
 | cons r rr=>
  cases rr with
  | cons r' rr=>
   cases rr;obtain⟨t,rfl⟩:=r;obtain⟨t',rfl⟩:=r';exact call_range_2 (S3 I1 q1 q2 q3 q4 q)
def Jac(wi:TI)(g:TG)(tb:TS):TS:=λD σ H=>wi σ H λJ H1=>∃W:Nat->Nat->St->Hp->Prop,(∃m,W 0 m σ H1)/\∀i m σ H,W i m σ H->
 (J.stop i H/\D.nx σ H)\/(J.go i H/\∃N:St->Hp->Prop,(∀σ' H',N σ' H'->∃m',m' < m/\W (i+1) m' σ' H')/\∀x H',J.yld i H x H'->g x σ H' λσ2 H2=>tb {D with nx:=N,ct:=N,bk:=D.nx} σ2 H2)
def Lo(fp:List Addr)(h:Heap):List (Addr×Obj):=fp.filterMap λb=>(h.get? b).map λo=>(b,o)
theorem G6{fp:List Addr}{h:Heap}{b:Addr}{o:Obj}(hb:b∈fp)(e:h.get? b=some o):(b,o)∈Lo fp h:=RF.mpr ⟨b,hb,by rw[e];rfl⟩
theorem Yi{fp:List Addr}{h:Heap}{p:Addr×Obj}(hp:p∈Lo fp h):p.1∈fp/\h.get? p.1=some p.2:=by
 obtain⟨b,hb,e⟩:=RF.mp hp
 cases q:h.get? b with
 | none=>rw[q]at e;cases e
 | some o=>
  rw[q]at e;have e':(b,o)=p:=FG e;subst e';exact⟨hb,q⟩
theorem Inv.pinned{pins:List (Addr×Obj)}{σ:St}{H:Hp}{s:Shared}{fp:List Addr}(I:Inv X pins σ H s)(hf:∀b∈fp,Dz X pins H b)(ho:∀b∈fp,∃o,s.heap.get? b=some o/\∀v,o.data≠ .cell v):Inv X (pins++Lo fp s.heap) σ H s:=
 I.pins_of λp hp=>(FB.mp hp).elim (λz=>I.pin p (Fw _ z)) λz=>by
  obtain⟨hb,e⟩:=Yi z;obtain⟨f0,f1,f2,_⟩:=hf p.1 hb;obtain⟨o,e',d⟩:=ho p.1 hb;rw[e]at e';cases e';exact⟨e,f0,f1,f2,d⟩
theorem Inv.unpinned{pins pl:List (Addr×Obj)}{σ:St}{H:Hp}{s:Shared}(I:Inv X (pins++pl) σ H s):Inv X pins σ H s:=I.pins_of λp hp=>I.pin p (Fw _ (FX _ hp))
theorem Lp{iter:Expr}{body:List Stmt}{wi:TI}{g:TG}{tb:TS}{pos:Pos}(hp:PassesOwn (model X.prog X.w) X.A X.env X.xe)(hc:X.calm=true)(hi:PI X tg iter wi)(hg:PG X tg g)(hb:PSs X body tb)
 (hs:∀x,foldedSetIterable iter X.env x=pure x:=by intro _;rfl):PS X (.For tg iter body [] pos) (Jac wi g tb):=by
 intro pins s σ H D I h;refine wpAny_For (thn (hi pins s σ H _ I h) λv s1 h1=>thn h1 λitv s2 h2=>?_) hs;obtain⟨it,fp,tn,J,H2,e,I2,T,st2,f2,W,⟨m0,w0⟩,turn⟩:=h2;subst e
 have stat:∀{H':Hp},(∀b∈fp,H' b=none)->∀b∈fp,Dz X pins H' b:=λhn b hb=>⟨hn b hb,(f2 b hb).2⟩
 refine codeAny_forLoop_any (λn s'=>∃i σ' H',Inv X pins σ' H' s'/\tn i s'.heap/\(∀b∈fp,H' b=none)/\W i n σ' H') ?_ m0 ⟨0,σ,H2,I2,st2,λb hb=>(f2 b hb).1,w0⟩;rintro n s3 ⟨i,σ3,H3,I3,st3,fr3,w3⟩;rcases turn i n σ3 H3 w3 with ⟨stop,qn⟩ | ⟨go,N,hN,step⟩
 . refine Hz hp (thn (T.done X rfl rfl rfl hc i pins s3 σ3 H3 X.xe I3 (stat fr3) st3 stop) λr s4 ⟨hr,I4⟩=>?_)
   subst hr;exact Ra ⟨σ3,H3,I4,qn⟩
 . refine Hz hp (thn (T.item X rfl rfl rfl hc i pins s3 σ3 H3 X.xe I3 (stat fr3) st3 go) λr s4 ⟨u,hr,h4⟩=>?_)
   subst hr;refine Hz hp (thn h4 λ_ s5 hq_=>?_);obtain⟨x,H5,I5,r5,y5,st5,fr5⟩:=hq_;have I5':=I5.pinned (stat fr5) (T.obj _ _ st5);refine Hz hp (thn (hg _ s5 σ3 H5 x u _ I5' r5 (step x H5 y5)) λ_ s6 hq_=>?_);obtain⟨σ6,H6,I6,q6⟩:=hq_;refine Hz hp (thn (hb _ s6 σ6 H6 _ I6 q6) λf s7 q7=>?_)
   have again:∀{σ7:St}{H7:Hp},Inv X (pins++Lo fp s5.heap) σ7 H7 s7->N σ7 H7->∃m,m < n/\∃i σ' H',Inv X pins σ' H' s7/\tn i s7.heap/\(∀b∈fp,H' b=none)/\W i m σ' H':=λ{σ7 H7} I7 n7=>by
    obtain⟨m',hm,w7⟩:=hN σ7 H7 n7;refine⟨m',hm,i+1,σ7,H7,I7.unpinned,T.keep _ _ _ st5 λb hb o e=>(I7.pin (b,o) (Fw _ (Fw _ (G6 hb e)))).1,λb hb=>?_,w7⟩;obtain⟨o,e,d⟩:=T.obj _ _ st5 b hb;exact(I7.pin (b,o) (Fw _ (Fw _ (G6 hb e)))).2.1
   cases f with
   | next=>obtain⟨σ7,H7,I7,n7⟩:=q7;exact again I7 n7
   | cont=>obtain⟨σ7,H7,I7,n7⟩:=q7;exact again I7 n7
   | brk=>obtain⟨σ7,H7,I7,q7⟩:=q7;exact⟨σ7,H7,I7.unpinned,q7⟩
   | ret v=>obtain⟨x7,σ7,H7,I7,r7,q7⟩:=q7;exact⟨x7,σ7,H7,I7.unpinned,r7,q7⟩
end
theorem J0s{K:PySem.W.Frag}{a:Addr}{xs:List V}{g:TG}{tb:TS}{D:Dh}{σ:St}{H:Hp}(Pv:Nat->St->Hp->Prop)(h0:Pv 0 σ H)(hl:∀i σ H,i<=xs.length->Pv i σ H->SqL K H a xs)
 (hs:∀i x σ H,xs[i]?=some x->Pv i σ H->g x σ H λσ2 H2=>tb {D with nx:=Pv (i+1),ct:=Pv (i+1),bk:=D.nx} σ2 H2) (hd:∀σ H,Pv xs.length σ H->D.nx σ H):
 ∃W:Nat->Nat->St->Hp->Prop,(∃m,W 0 m σ H)/\∀i m σ H,W i m σ H->
  ((Itl K a).stop i H/\D.nx σ H)\/((Itl K a).go i H/\∃N:St->Hp->Prop,(∀σ' H',N σ' H'->∃m',m' < m/\W (i+1) m' σ' H')/\∀x H',(Itl K a).yld i H x H'->g x σ H' λσ2 H2=>tb {D with nx:=N,ct:=N,bk:=D.nx} σ2 H2):=by
 refine⟨λi m σ H=>m=xs.length - i/\i<=xs.length/\Pv i σ H,⟨xs.length,by simp,FP _,h0⟩,?_⟩;rintro i m σ H ⟨rfl,hi,p⟩;have q:=hl i σ H hi p
 by_cases hlt:i < xs.length
 . refine .inr ⟨⟨xs,xs[i],q,by simp[hlt]⟩,Pv (i+1),λσ' H' p'=>⟨xs.length - (i+1),by omega,rfl,hlt,p'⟩,λx H' y=>?_⟩
   obtain⟨e,y⟩:=y;subst e;exact hs i x σ _ (y xs q) p
 . have e:i=xs.length:=by omega
   subst e;exact .inl ⟨⟨xs,q,Fg _⟩,hd σ H p⟩
theorem Yj{lo:Int}{n:Nat}{g:TG}{tb:TS}{D:Dh}{σ:St}{H:Hp}(Pv:Nat->St->Hp->Prop)(h0:Pv 0 σ H)
 (hs:∀i σ H,i < n->Pv i σ H->g (.int (lo+i)) σ H λσ2 H2=>tb {D with nx:=Pv (i+1),ct:=Pv (i+1),bk:=D.nx} σ2 H2) (hd:∀σ H,Pv n σ H->D.nx σ H):
 ∃W:Nat->Nat->St->Hp->Prop,(∃m,W 0 m σ H)/\∀i m σ H,W i m σ H->
  ((Itr lo n).stop i H/\D.nx σ H)\/((Itr lo n).go i H/\∃N:St->Hp->Prop,(∀σ' H',N σ' H'->∃m',m' < m/\W (i+1) m' σ' H')/\∀x H',(Itr lo n).yld i H x H'->g x σ H' λσ2 H2=>tb {D with nx:=N,ct:=N,bk:=D.nx} σ2 H2):=by
 refine⟨λi m σ H=>m=n - i/\i<=n/\Pv i σ H,⟨n,by simp,FP _,h0⟩,?_⟩;rintro i m σ H ⟨rfl,hi,p⟩
 by_cases hlt:i < n
 . refine .inr ⟨hlt,Pv (i+1),λσ' H' p'=>⟨n - (i+1),by omega,rfl,hlt,p'⟩,λx H' y=>?_⟩
   obtain⟨e,y⟩:=y;subst e y;exact hs i σ _ hlt p
 . have e:i=n:=by omega
   subst e;exact .inl ⟨Fg _,hd σ H p⟩
abbrev R2:=V->V->Hp->VK->Prop
def OpR(X:Cx)(f:Value->Value->Sem Value)(r:R2):Prop:=
 ∀(pins:List (Addr×Obj)) (s:Shared) (σ:St) (H:Hp) (x y:V) (v u:Value) (Q:VK),Inv X pins σ H s->Au x v->Au y u->r x y H Q->
   wpAny (model X.prog X.w) X.A (f v u) (EP X pins σ Q) X.xe s
def Ep(X:Cx)(f:Value)(r:List V->Hp->VK->Prop):Prop:=
 ∀(pins:List (Addr×Obj)) (s:Shared) (σ:St) (H:Hp) (xs:List V) (us:List Value) (Q:VK),Inv X pins σ H s->Ay xs us->r xs H Q->
   wpAny (model X.prog X.w) X.A (call f us) (EP X pins σ Q) X.xe s
def tOp(r:R2)(ta tb:TE):TE:=λσ H Q=>ta σ H λx H1=>tb σ H1 λy H2=>r x y H2 Q
def tUn(r:V->Hp->VK->Prop)(ta:TE):TE:=λσ H Q=>ta σ H λx H1=>r x H1 Q
def rI(C:Int->Int->Prop)(g:Int->Int->V):R2:=λx y H Q=>∃i j,x= .int i/\y= .int j/\C i j/\Q (g i j) H
def rI0(g:Int->Int->V):R2:=λx y H Q=>∃i j,x= .int i/\y= .int j/\Q (g i j) H
def rU(g:Int->V):V->Hp->VK->Prop:=λx H Q=>∃i,x= .int i/\Q (g i) H
section
variable {X:Cx}{a b c:Expr}{ta tb tc:TE}{pos:Pos}
theorem J8m(ha:PE X a ta)(hb:PE X b tb){pins:List (Addr×Obj)}{s:Shared}{σ:St}{H:Hp}{R:V->V->Hp->Prop}(I:Inv X pins σ H s)
 (h:ta σ H λx H1=>tb σ H1 λy H2=>R x y H2) {Q:Value->Shared->Prop}{f:Value->Value->Sem Value}
 (hf:∀v u s2 x y H2,Inv X pins σ H2 s2->Au x v->Au y u->R x y H2->wpAny (model X.prog X.w) X.A (f v u) Q X.xe s2):
 wpAny (model X.prog X.w) X.A (eval a X.env) (λv s₁=>wpAny (model X.prog X.w) X.A (eval b X.env) (λu s₂=>wpAny (model X.prog X.w) X.A (f v u) Q X.xe s₂) X.xe s₁) X.xe s:=by
 refine thn (ha pins s σ H _ I h) λv s1 hq_=>?_;obtain⟨x,H1,I1,r1,q1⟩:=hq_;refine thn (hb pins s1 σ H1 _ I1 q1) λu s2 hq_=>?_;obtain⟨y,H2,I2,r2,q2⟩:=hq_;exact hf v u s2 x y H2 I2 r1 r2 q2
theorem Ak{op:Operator}{r:R2}(ho:OpR X (binaryOp op) r)(ha:PE X a ta)(hb:PE X b tb):PE X (.BinOp a op b pos) (tOp r ta tb):=by
 intro pins s σ H Q I h;exact wpAny_BinOp (J8m ha hb I h λv u s2 x y H2 I2 rx ry q=>ho pins s2 σ H2 x y v u Q I2 rx ry q)
theorem opI{f:Value->Value->Sem Value}{C:Int->Int->Prop}{g:Int->Int->Int}
 (rule:∀(i j:Int) (t u:Tok) (s:Shared) (Q:Value->Shared->Prop) (E:Value->Shared->Prop),C i j->Q (.int (g i j) s.toks) {s with toks:=s.toks+1}->wpAny (model X.prog X.w) X.A (f (.int i t) (.int j u)) Q E s):
 OpR X f (rI C λi j=> .int (g i j)):=by
 intro pins s σ H x y v u Q I rx ry h;obtain⟨i,j,rfl,rfl,hc,q⟩:=h;obtain⟨t,rfl⟩:=rx;obtain⟨t',rfl⟩:=ry;exact rule i j t t' s _ _ hc ⟨.int (g i j),H,I.tok _,⟨_,rfl⟩,q⟩
theorem Jad{f:Value->Value->Sem Value}{g:Int->Int->Int}
 (rule:∀(i j:Int) (t u:Tok) (s:Shared) (Q:Value->Shared->Prop) (E:Value->Shared->Prop),Q (.int (g i j) s.toks) {s with toks:=s.toks+1}->wpAny (model X.prog X.w) X.A (f (.int i t) (.int j u)) Q E s):
 OpR X f (rI0 λi j=> .int (g i j)):=by
 intro pins s σ H x y v u Q I rx ry h;obtain⟨i,j,rfl,rfl,q⟩:=h;obtain⟨t,rfl⟩:=rx;obtain⟨t',rfl⟩:=ry;exact rule i j t t' s _ _ ⟨.int (g i j),H,I.tok _,⟨_,rfl⟩,q⟩
theorem J8n{f:Value->Value->Sem Value}{g:Int->Int->Bool}
 (rule:∀(i j:Int) (t u:Tok) (s:Shared) (Q:Value->Shared->Prop) (E:Value->Shared->Prop),Q (.bool (g i j)) s->wpAny (model X.prog X.w) X.A (f (.int i t) (.int j u)) Q E s):
 OpR X f (rI0 λi j=> .bl (g i j)):=by
 intro pins s σ H x y v u Q I rx ry h;obtain⟨i,j,rfl,rfl,q⟩:=h;obtain⟨t,rfl⟩:=rx;obtain⟨t',rfl⟩:=ry;exact rule i j t t' s _ _ ⟨.bl (g i j),H,I,rfl,q⟩
def Jae(i j:Int):Prop:=0 < j/\j < 1073741824
def Jaf(i j:Int):Prop:=0<=j/\j<=1000000/\i.natAbs < 2 ^ 64
def Us(i j:Int):Prop:=(-(2 ^ 64) < i/\i < 2 ^ 64)\/(-(2 ^ 64) < j/\j < 2 ^ 64)
theorem Us.ok{i j:Int}(h:Us i j):IntMulOk i j:=by
 rcases h with ⟨h1,h2⟩ | ⟨h1,h2⟩
 . exact .of_left (intBits_le_64 h1 h2)
 . exact .of_right (intBits_le_64 h1 h2)
theorem Bo:OpR X (binaryOp .Add) (rI0 λi j=> .int (i+j)):=Jad λ_ _ _ _ _ _ _ q=>add_int q
theorem G7:OpR X (binaryOp .Sub) (rI0 λi j=> .int (i - j)):=Jad λ_ _ _ _ _ _ _ q=>sub_int q
theorem Ut:OpR X (binaryOp .Mult) (rI Us λi j=> .int (i * j)):=opI λ_ _ _ _ _ _ _ hc q=>mul_int q hc.ok
theorem Cd:OpR X (binaryOp .FloorDiv) (rI Jae λi j=> .int (i / j)):=opI λi j _ _ _ _ _ hc q=>by
 have h1:(0:Int) < j:=hc.1;have h2:j < 1073741824:=hc.2;exact floordiv_int (by omega) (by rw[Int.fdiv_eq_ediv_of_nonneg i (by omega)];exact q) (.inl (PyProof.noPylong_small (by omega)))
theorem Bf:OpR X (binaryOp .Mod) (rI (λ_ j=>0 < j) λi j=> .int (i % j)):=opI λi j _ _ _ _ _ hc q=>by
 have h1:(0:Int) < j:=hc;exact mod_int' (by omega) (by rw[Int.fmod_eq_emod_of_nonneg i (by omega)];exact q)
theorem Uu:OpR X (binaryOp .Pow) (rI Jaf λi j=> .int (i ^ j.toNat)):=opI λ_ _ _ _ _ _ _ hc q=>pow_int_small hc.1 hc.2.1 hc.2.2 q
end
def scal:V->V->Bool
 | .non,.non=>true | .non,.int _=>true | .int _,.non=>true | .non,.bl _=>true | .bl _,.non=>true | .non,.str _=>true | .str _,.non=>true
 | .int _,.int _=>true | .bl _,.bl _=>true | .str _,.str _=>true | .byt _,.byt _=>true
 | .int _,.str _=>true | .str _,.int _=>true | .bl _,.str _=>true | .str _,.bl _=>true
 | _,_=>false
def rEq:R2:=λx y H Q=>scal x y=true/\Q (.bl (decide (x=y))) H
def rNe:R2:=λx y H Q=>scal x y=true/\Q (.bl (!decide (x=y))) H
theorem Vq{i j:Int}:decide (V.int i=V.int j)=(i==j):=by
 rw[Rc];simp
theorem J0t{i j:Bool}:decide (V.bl i=V.bl j)=(i==j):=by
 rw[Rc];simp
theorem Vr{i j:Str}:decide (V.str i=V.str j)=(i==j):=by
 rw[Rc];simp
theorem Vs{i j:Array UInt8}:decide (V.byt i=V.byt j)=(i.toList==j.toList):=by
 rw[Rc];cases i;cases j;simp
section
variable {X:Cx}{a b c:Expr}{ta tb tc:TE}{pos:Pos}
theorem B8{pins:List (Addr×Obj)}{σ:St}{H:Hp}{s:Shared}{Q:VK}{k k':Bool}(I:Inv X pins σ H s)(q:Q (.bl k) H)(e:k=k'):EP X pins σ Q (.bool k') s:=by
 subst e;exact⟨.bl k,H,I,rfl,q⟩
theorem Bg:OpR X (compareOp .Eq) rEq:=by
 intro pins s σ H x y v u Q I rx ry h;obtain⟨hs,q⟩:=h
 cases x with
 | non=>
  cases rx
  cases y with
  | non=>cases ry;exact PySem.EqNone.eq_none_none (B8 I q (by simp))
  | bl j=>cases ry;exact PySem.EqNone.eq_none_bool (B8 I q (by simp))
  | int j=>obtain⟨t',rfl⟩:=ry;exact PySem.EqNone.eq_none_int (B8 I q (by simp))
  | str j=>obtain⟨t',rfl⟩:=ry;exact PySem.EqNone.eq_none_str (B8 I q (by simp))
  | _=>exact absurd (show false=true from hs) Fp
 | bl i=>
  cases rx
  cases y with
  | non=>cases ry;exact PySem.EqNone.eq_bool_none (B8 I q (by simp))
  | bl j=>cases ry;exact eq_bool (B8 I q J0t)
  | str j=>obtain⟨t',rfl⟩:=ry;exact PySem.EqMixed.eq_bool_str (B8 I q (by simp))
  | _=>exact absurd (show false=true from hs) Fp
 | int i=>
  obtain⟨t,rfl⟩:=rx
  cases y with
  | non=>cases ry;exact PySem.EqNone.eq_int_none (B8 I q (by simp))
  | int j=>obtain⟨t',rfl⟩:=ry;exact eq_int (B8 I q Vq)
  | str j=>obtain⟨t',rfl⟩:=ry;exact PySem.EqMixed.eq_int_str (B8 I q (by simp))
  | _=>exact absurd (show false=true from hs) Fp
 | str i=>
  obtain⟨t,rfl⟩:=rx
  cases y with
  | non=>cases ry;exact PySem.EqNone.eq_str_none (B8 I q (by simp))
  | bl j=>cases ry;exact PySem.EqMixed.eq_str_bool (B8 I q (by simp))
  | int j=>obtain⟨t',rfl⟩:=ry;exact PySem.EqMixed.eq_str_int (B8 I q (by simp))
  | str j=>obtain⟨t',rfl⟩:=ry;exact eq_str (B8 I q Vr)
  | _=>exact absurd (show false=true from hs) Fp
 | byt i=>
  obtain⟨t,rfl⟩:=rx
  cases y with
  | byt j=>obtain⟨t',rfl⟩:=ry;exact PySem.W.eq_bytes (B8 I q Vs)
  | _=>exact absurd (show false=true from hs) Fp
 | _=>cases y <;> exact absurd (show false=true from hs) Fp
theorem Jag:OpR X (compareOp .NotEq) rNe:=by
 intro pins s σ H x y v u Q I rx ry h;obtain⟨hs,q⟩:=h
 cases x with
 | non=>
  cases rx
  cases y with
  | non=>cases ry;exact PySem.EqNone.ne_none_none (B8 I q (by simp))
  | bl j=>cases ry;exact PySem.EqNone.ne_none_bool (B8 I q (by simp))
  | int j=>obtain⟨t',rfl⟩:=ry;exact PySem.EqNone.ne_none_int (B8 I q (by simp))
  | str j=>obtain⟨t',rfl⟩:=ry;exact PySem.EqNone.ne_none_str (B8 I q (by simp))
  | _=>exact absurd (show false=true from hs) Fp
 | bl i=>
  cases rx
  cases y with
  | non=>cases ry;exact PySem.EqNone.ne_bool_none (B8 I q (by simp))
  | bl j=>cases ry;exact ne_bool (B8 I q (congrArg not J0t))
  | str j=>obtain⟨t',rfl⟩:=ry;exact PySem.EqMixed.ne_bool_str (B8 I q (by simp))
  | _=>exact absurd (show false=true from hs) Fp
 | int i=>
  obtain⟨t,rfl⟩:=rx
  cases y with
  | non=>cases ry;exact PySem.EqNone.ne_int_none (B8 I q (by simp))
  | int j=>obtain⟨t',rfl⟩:=ry;exact ne_int (B8 I q (congrArg not Vq))
  | str j=>obtain⟨t',rfl⟩:=ry;exact PySem.EqMixed.ne_int_str (B8 I q (by simp))
  | _=>exact absurd (show false=true from hs) Fp
 | str i=>
  obtain⟨t,rfl⟩:=rx
  cases y with
  | non=>cases ry;exact PySem.EqNone.ne_str_none (B8 I q (by simp))
  | bl j=>cases ry;exact PySem.EqMixed.ne_str_bool (B8 I q (by simp))
  | int j=>obtain⟨t',rfl⟩:=ry;exact PySem.EqMixed.ne_str_int (B8 I q (by simp))
  | str j=>obtain⟨t',rfl⟩:=ry;exact ne_str (B8 I q (congrArg not Vr))
  | _=>exact absurd (show false=true from hs) Fp
 | byt i=>
  obtain⟨t,rfl⟩:=rx
  cases y with
  | byt j=>obtain⟨t',rfl⟩:=ry;exact PySem.W.ne_bytes (B8 I q (congrArg not Vs))
  | _=>exact absurd (show false=true from hs) Fp
 | _=>cases y <;> exact absurd (show false=true from hs) Fp
theorem J0u:OpR X (compareOp .Lt) (rI0 λi j=> .bl (decide (i < j))):=J8n λ_ _ _ _ _ _ _ q=>lt_int q
theorem J6z:OpR X (compareOp .LtE) (rI0 λi j=> .bl (decide (i<=j))):=J8n λ_ _ _ _ _ _ _ q=>le_int q
theorem Nc:OpR X (compareOp .Gt) (rI0 λi j=> .bl (decide (j < i))):=J8n λ_ _ _ _ _ _ _ q=>gt_int q
theorem Yk:OpR X (compareOp .In) (λx y H Q=>∃i j,x= .str i/\y= .str j/\Q (.bl (!(Builtin.Str.occurrences j i 0 j.length 1).isEmpty)) H):=by
 intro pins s σ H x y v u Q I rx ry h;obtain⟨i,j,rfl,rfl,q⟩:=h;obtain⟨t,rfl⟩:=rx;obtain⟨t',rfl⟩:=ry;exact in_str (B8 I q rfl)
theorem nomark(b:Expr){op:CmpOp}(h:op≠ .In:=by decide)(h2:op≠ .NotIn:=by decide):behindInMarks op b=false:=by
 have e1:(op==CmpOp.In)=false:=by cases op <;> first | rfl | exact absurd rfl h
 have e2:(op==CmpOp.NotIn)=false:=by cases op <;> first | rfl | exact absurd rfl h2
 cases b <;> simp[behindInMarks,e1,e2]
theorem E1{op:CmpOp}{r:R2}(ho:OpR X (compareOp op) r)(ha:PE X a ta)(hb:PE X b tb)(hm:behindInMarks op b=false):PE X (.Compare a [op] [b] pos) (tOp r ta tb):=by
 intro pins s σ H Q I h;exact wpAny_Compare1 (J8m ha hb I h λv u s2 x y H2 I2 rx ry q=>ho pins s2 σ H2 x y v u Q I2 rx ry q) hm
def J70(t:TE):TT:=λσ H Q=>t σ H λx H'=>∃k,x= .bl k/\Q k H'
theorem Am{op:CmpOp}{r:R2}(ho:OpR X (compareOp op) r)(ha:PE X a ta)(hb:PE X b tb)(hm:behindInMarks op b=false):PT X (.Compare a [op] [b] pos) (J70 (tOp r ta tb)):=by
 intro pins s σ H Q I h
 refine wpAny_isTrue_Compare1 (thn (ha pins s σ H _ I h) λv s1 ⟨x,H1,I1,r1,q1⟩=>thn (hb pins s1 σ H1 _ I1 q1) λu s2 ⟨y,H2,I2,r2,q2⟩=>
  thn (ho pins s2 σ H2 x y v u _ I2 r1 r2 q2) λc s3 ⟨z,H3,I3,r3,k,e,q3⟩=>?_) hm
 subst e;cases r3;exact Hd ⟨H3,I3,q3⟩
def J0v(r r':R2)(ta tb tc:TE):TE:=λσ H Q=>ta σ H λx H1=>tb σ H1 λy H2=>r x y H2 λz H3=>∃k,z= .bl k/\
 (if k=true then tc σ H3 λw' H4=>r' y w' H4 Q else Q (.bl false) H3)
theorem J0w{op op':CmpOp}{r r':R2}(ho:OpR X (compareOp op) r)(ho':OpR X (compareOp op') r')(ha:PE X a ta)(hb:PE X b tb)(hc:PE X c tc)
 (hm:lastMarks [op,op'] [b,c]=false:=by with_unfolding_all rfl):PE X (.Compare a [op,op'] [b,c] pos) (J0v r r' ta tb tc):=by
 intro pins s σ H Q I h
 refine Compare_chain (thn (ha pins s σ H _ I h) λv s1 ⟨x,H1,I1,r1,q1⟩=>chain_link (thn (hb pins s1 σ H1 _ I1 q1) λu s2 ⟨y,H2,I2,r2,q2⟩=>
  thn (ho pins s2 σ H2 x y v u _ I2 r1 r2 q2) λd s3 ⟨z,H3,I3,r3,k,e,q3⟩=>?_)) hm
 subst e;cases r3;refine Hd ?_
 cases k with
 | false=>exact ite_ff ⟨.bl false,H3,I3,rfl,q3⟩
 | true=>exact ite_tt (chain_last (thn (hc pins s3 σ H3 _ I3 q3) λw' s4 ⟨z',H4,I4,r4,q4⟩=>ho' pins s4 σ H4 y z' u w' Q I4 r2 r4 q4))
theorem Nd:(sizeLine:Nat) < 2 ^ 63:=by rw[Ry];decide
theorem Di:OpR X (binaryOp .Add) (λx y H Q=>∃i j,x= .str i/\y= .str j/\i.length+j.length<=sizeLine/\Q (.str (i++j)) H):=by
 intro pins s σ H x y v u Q I rx ry h;obtain⟨i,j,rfl,rfl,hz,q⟩:=h;obtain⟨t,rfl⟩:=rx;obtain⟨t',rfl⟩:=ry;exact add_str (λt' tk=>⟨.str (i++j),H,I.tok _,⟨_,rfl⟩,q⟩) hz
theorem Ma{x:V}{us:List Value}(r:Ay [x] us):∃u,us=[u]/\Au x u:=by
 cases r with
 | cons r1 r2=>cases r2;exact⟨_,rfl,r1⟩
theorem Vt{x y:V}{us:List Value}(r:Ay [x,y] us):∃u w',us=[u,w']/\Au x u/\Au y w':=by
 cases r with
 | cons r1 r2=>
  cases r2 with
  | cons r3 r4=>cases r4;exact⟨_,_,rfl,r1,r3⟩
theorem Oo(hc:X.calm=true):Ep X (.builtin "max") (λxs H Q=>∃i j,xs=[.int i,.int j]/\Q (.int (if j > i then j else i)) H):=by
 intro pins s σ H xs us Q I r h;obtain⟨i,j,rfl,q⟩:=h;obtain⟨u,w',rfl,⟨t,rfl⟩,⟨t',rfl⟩⟩:=Vt r
 refine max_two_ints (I.ok.hd hc) λh' tk k=>⟨_,H,I.kept k,?_,q⟩
 by_cases hj:j > i
 . rw[if_pos hj,if_pos hj];exact⟨_,rfl⟩
 . rw[if_neg hj,if_neg hj];exact⟨_,rfl⟩
theorem Yl(hc:X.calm=true):Ep X (.builtin "min") (λxs H Q=>∃i j,xs=[.int i,.int j]/\Q (.int (if j < i then j else i)) H):=by
 intro pins s σ H xs us Q I r h;obtain⟨i,j,rfl,q⟩:=h;obtain⟨u,w',rfl,⟨t,rfl⟩,⟨t',rfl⟩⟩:=Vt r
 refine min_two_ints (I.ok.hd hc) λh' tk k=>⟨_,H,I.kept k,?_,q⟩
 by_cases hj:j < i
 . rw[if_pos hj,if_pos hj];exact⟨_,rfl⟩
 . rw[if_neg hj,if_neg hj];exact⟨_,rfl⟩
end
structure Uv(h:Heap)(x dx C:Addr)(mA:Str->Option Value):Prop where
 obj:h.get? x=some (PySem.W.instObj C dx)
 ns:h.Ns1 dx mA
 ne:dx≠x
theorem Oq{h:Heap}{dx:Addr}{mA:Str->Option Value}(n:h.Ns1 dx mA):∃od,h.get? dx=some od/\∀name,PySem.W.lookIn name od=some (mA name):=by
 obtain⟨o,es,ep,ho,hd,hk,_,hm⟩:=n;refine⟨o,ho,λname=>?_⟩;have e:=hm name;unfold nsFind findBy at e;rw[<- Array.find?_toList]at e;unfold PySem.W.lookIn;rw[hd];dsimp only;split
 . rename_i y q
   rw[q]at e;exact congrArg some e
 . rename_i q
   rw[q]at e
   have a:es.toList.any (·.refKey)=false:=by
    rw[List.any_eq_false];intro y hy;obtain⟨z,t,hkey⟩:=hk y (Array.mem_toList_iff.mp hy);simp[DictEntry.refKey,hkey]
   have a':¬es.toList.any (·.refKey)=true:=by rw[a];exact Fp
   rw[if_neg a'];exact congrArg some e
theorem Uv.look{h:Heap}{x dx C:Addr}{mA:Str->Option Value}(I:Uv h x dx C mA):∃od,PySem.W.InstAt h x (PySem.W.instObj C dx) C (some od)/\∀name,PySem.W.lookIn name od=some (mA name):=
 let ⟨od,ho,hl⟩:=Oq I.ns
 ⟨od,⟨I.obj,rfl,rfl,ho⟩,hl⟩
section
variable {prog:Program}{w:World}{A:Around}{E:Value->Shared->Prop}{s:Shared}{K:PySem.W.Frag}{x dx C f:Addr}{mA:Str->Option Value}{name:Str}{v:Value}
theorem J54{expr:Bool}{Q:Value->Shared->Prop}(X:K.In s.heap)(I:Uv s.heap x dx C mA)(hg:PySem.W.plainGet K C name=true)(hh:PySem.W.hasDictIn K C=true)
 (ha:PySem.W.findIn K (.ref C) name=some none) (hv:mA name=some v) (hv':PySem.W.handedIn v=true) (h:Q v {s with toks:=s.toks+1}):
 wpAny (model prog w) A (getAttr (.ref x) name expr) Q E s:=by
 obtain⟨od,J,hl⟩:=I.look;exact PySem.W.get_value X J (HJ hg).1 (PySem.W.findObj_own hh ha rfl (by rw[hl,hv])) hv' h
theorem J0x{pl:Sem Bool}{Q:Value×List Value->Shared->Prop}(X:K.In s.heap)(I:Uv s.heap x dx C mA)(hg:PySem.W.plainGet K C name=true)
 (hf:PySem.W.findIn K (.ref C) name=some (some (.ref f))) (ht:PySem.W.isFn K (.ref f)=true) (hv:mA name=none) (h:Q (.ref f,[.ref x]) s):
 wpAny (model prog w) A (getMethod (.ref x) name pl) Q E s:=by
 obtain⟨od,J,hl⟩:=I.look;exact PySem.W.method_fn X J (HJ hg).1 (HJ hg).2 hf (HV.mp ht) (by show (PySem.W.lookIn name od).map (·.isSome)=some false;rw[hl,hv];rfl) h
theorem J55{ns:List Str}{Q:Unit->Shared->Prop}(X:K.In s.heap)(I:Uv s.heap x dx C mA)
 (hs:PySem.W.findIn K (.ref C) "__setattr__"=some (some (.builtin "object.__setattr__"))) (hp:PySem.W.plainOver K C=true) (ht:PySem.W.takerIn K C name=some none) (hh:PySem.W.hasDictIn K C=true)
 (hw:PySem.Within mA ns) (hsz:ns.length<=sizeLine)
 (h:∀h',Uv h' x dx C (λy=>if y=name then some v else mA y)->Heap.SameBut dx s.heap h'->Q () {s with heap:=h',toks:=s.toks+2}):
 wpAny (model prog w) A (setAttr (.ref x) name v) Q E s:=by
 obtain⟨od,J,hl⟩:=I.look;refine PySem.W.set_plain X J hs (PySem.W.osa_open (s:={s with toks:=s.toks+1}) (r:=none) X J hp ht λb=>?_);obtain⟨cd,hc,hd'⟩:=PySem.W.any_some hh;have hx:s.heap.get? x=some ⟨.ref C,some dx,.plain,#[]⟩:=I.obj;refine Fc (Fu (Fc (Fc (Rx hx (Fc (PySem.W.Looks.here (s:={s with toks:=s.toks+1}) (PySem.W.looks_clsIn X hc) ?_))))));rw[hd'];refine Fu (a:=some dx) (Fc (Fu (Fc ?_)));refine wpAny_nsSet1 (s:={s with toks:=s.toks+1}) I.ns λh' hn2 hs2=>?_;obtain⟨oD,esD,epD,hoD,hdD,hcD⟩:=hn2.count (PySem.Within.cons name v hw);refine Fc (RM hoD (by rw[hdD];exact RN (FE hcD (by rw[List.length_cons];omega))) ?_);exact Fu (h _ ⟨(hs2.2 _ (Ne.symm I.ne)).trans I.obj,hn2,I.ne⟩ hs2)
theorem J0y{R:Result->Shared->Prop}{vs:List Value}{kw:List (Str×Value)}(X:K.In s.heap)(hm:PySem.W.makesIn K C=true)
 (hi:PySem.W.findIn K (.ref C) "__init__"=some (some (.ref f))) (hf:PySem.W.typeIn K (.ref f)=some (.type "function"))
 (h:codeAny (model prog w) (A.under (.builtin "type.__call__" ⟨.ref C::vs,kw⟩)) (.call (.ref f) ⟨.ref (s.heap.objs.size+1)::vs,kw⟩) (PySem.W.InitBack (s.heap.objs.size+1) R)
  {s with heap:=(s.heap.push PySem.W.emptyDict).push (PySem.W.instObj C s.heap.objs.size)}):
 codeAny (model prog w) A (.call (.ref C) ⟨vs,kw⟩) R s:=by
 obtain⟨hh,g,d,t,os⟩:=s;exact PySem.W.make_core (PySem.W.makes_of X hm) (PySem.W.looks_findIn X hi) (λself=>PySem.W.bind_fn X self hf) (.inl rfl) h
end
def Ac(f:Str)(v:V):List (Str×V)->List (Str×V)
 | []=>[(f,v)]
 | (g,x)::r=>if g=f then (g,v)::r else (g,x)::Ac f v r
theorem Ao(f g:Str)(v:V):∀fs:List (Str×V),(Ac f v fs).lookup g=if g=f then some v else fs.lookup g
 | []=>by
  show List.lookup g [(f,v)]=_
  by_cases h:g=f
  . have hb:(g==f)=true:=HV.mpr h
    simp only[List.lookup,hb,if_pos h]
  . have hb:(g==f)=false:=Hh.mpr h
    simp only[List.lookup,hb,if_neg h]
 | (k,x)::r=>by
  have ih:=Ao f g v r;rw[show Ac f v ((k,x)::r)=(if k=f then (k,v)::r else (k,x)::Ac f v r) from rfl]
  by_cases hk:k=f
  . rw[if_pos hk]
    by_cases h:g=k
    . have hb:(g==k)=true:=HV.mpr h
      simp only[List.lookup,hb,if_pos (h.trans hk)]
    . have hb:(g==k)=false:=Hh.mpr h
      simp only[List.lookup,hb,if_neg (λe:g=f=>h (e.trans hk.symm))]
  . rw[if_neg hk]
    by_cases h:g=k
    . have hb:(g==k)=true:=HV.mpr h
      simp only[List.lookup,hb,if_neg (λe:g=f=>hk (h.symm.trans e))]
    . have hb:(g==k)=false:=Hh.mpr h
      simp only[List.lookup,hb];exact ih
theorem Er(f:Str)(v:V):∀fs:List (Str×V),f∈(Ac f v fs).map (·.1)/\∀g,g∈fs.map (·.1)->g∈(Ac f v fs).map (·.1)
 | []=>⟨by simp[Ac],λg h=>by simp at h⟩
 | (k,x)::r=>by
  obtain⟨i1,i2⟩:=Er f v r;rw[show Ac f v ((k,x)::r)=(if k=f then (k,v)::r else (k,x)::Ac f v r) from rfl]
  by_cases hk:k=f
  . rw[if_pos hk]
    subst hk;exact⟨by simp,λg h=>by simpa using h⟩
  . rw[if_neg hk]
    refine⟨?_,λg h=>?_⟩
    . rw[List.map_cons]
      exact Fk _ i1
    . rw[List.map_cons]at h ⊢
      rcases Ft.mp h with e | e
      . exact Ft.mpr (.inl e)
      . exact Fk _ (i2 g e)
theorem C6(f:Str)(v:V):∀fs:List (Str×V),(Ac f v fs).length<=fs.length+1
 | []=>by simp[Ac]
 | (k,x)::r=>by
  have ih:=C6 f v r;rw[show Ac f v ((k,x)::r)=(if k=f then (k,v)::r else (k,x)::Ac f v r) from rfl]
  by_cases hk:k=f
  . rw[if_pos hk,List.length_cons,List.length_cons];omega
  . rw[if_neg hk,List.length_cons,List.length_cons];omega
theorem Dv.some_of{v:V}{o:Option Value}(r:Dv (some v) o):∃u,o=some u/\Au v u:=by
 cases o with
 | none=>exact(show False from r).elim
 | some u=>exact⟨u,rfl,r⟩
theorem Dv.none_of{o:Option Value}(r:Dv none o):o=none:=by
 cases o with
 | none=>rfl
 | some u=>exact(show False from r).elim
theorem Os{v:V}{u:Value}(r:Au v u):PySem.W.handedIn u=true:=by
 cases v with
 | non=>cases (show u=Value.none from r);rfl
 | bl b=>cases (show u=Value.bool b from r);rfl
 | int i=>obtain⟨t,e⟩:=(show ∃t,u=Value.int i t from r);cases e;rfl
 | str x=>obtain⟨t,e⟩:=(show ∃t,u=Value.str x t from r);cases e;rfl
 | byt b=>obtain⟨t,e⟩:=(show ∃t,u=Value.bytes b t from r);cases e;rfl
 | flt b=>obtain⟨t,e⟩:=(show ∃t,u=Value.float b t from r);cases e;rfl
 | ref a=>cases (show u=Value.ref a from r);rfl
 | ty n=>cases (show u=Value.type n from r);rfl
section
variable {P:Program}{w:World}{H H':Hp}{h h':Heap}{a C dx:Addr}{fs fs':List (Str×V)}
theorem Kq(hok:HOk P w H h)(e:H a=some (.ins C dx fs)):∃mA,Uv h a dx C mA/\(∀f,Dv (fs.lookup f) (mA f))/\PySem.Within mA (fs.map (·.1))/\fs.length<=1000/\H dx=some (.own a):=by
 obtain⟨d,z,ne,ob,mA,n,r,q⟩:=(show Bk P w H h a (.ins C dx fs) from hok a _ e)
 exact⟨mA,⟨ob,n,ne⟩,r,q,z,d⟩
end
structure Cls(K:PySem.W.Frag)(C:Addr):Prop where
 pg:PySem.W.plainGet K C Str.empty=true
 hd:PySem.W.hasDictIn K C=true
 po:PySem.W.plainOver K C=true
 sa:PySem.W.findIn K (.ref C) "__setattr__"=some (some (.builtin "object.__setattr__"))
theorem Cls.get{K:PySem.W.Frag}{C:Addr}(c:Cls K C)(f:Str):PySem.W.plainGet K C f=true:=c.pg
def An(K:PySem.W.Frag)(C:Addr)(f:Str):Prop:=PySem.W.findIn K (.ref C) f=some none
theorem An.taker{K:PySem.W.Frag}{C:Addr}{f:Str}(n:An K C f):PySem.W.takerIn K C f=some none:=by
 unfold PySem.W.takerIn;rw[show PySem.W.findIn K (.ref C) f=some none from n];rfl
structure Ym(K:PySem.W.Frag)(C:Addr)(m:Str)(f:Addr):Prop where
 at_:PySem.W.findIn K (.ref C) m=some (some (.ref f))
 fn:PySem.W.isFn K (.ref f)=true
 kp:PySem.W.keepIn K (.ref f)=true
section
variable {X:Cx}{pins:List (Addr×Obj)}{σ:St}{H:Hp}{s:Shared}{a C dx:Addr}{fs:List (Str×V)}{f:Str}{v:V}{A:Around}{E:Value->Shared->Prop}
theorem Nf{b:Bool}{Q:Value->Shared->Prop}(I:Inv X pins σ H s)(e:H a=some (.ins C dx fs))(c:Cls X.K C)(n:An X.K C f)(l:fs.lookup f=some v)
 (h:∀u s',Inv X pins σ H s'->Au v u->Q u s'):wpAny (model X.prog X.w) A (getAttr (.ref a) f b) Q E s:=by
 obtain⟨mA,O,r,_,_,_⟩:=Kq I.hok e;obtain⟨u,hu,ru⟩:=Dv.some_of (v:=v) (o:=mA f) (by rw[<- l];exact r f);exact J54 I.kIn O (c.get f) c.hd n hu (Os ru) (h u _ (I.tok _) ru)
theorem Kg{m:Str}{g:Addr}{pl:Sem Bool}{Q:Value×List Value->Shared->Prop}(I:Inv X pins σ H s)(e:H a=some (.ins C dx fs))(c:Cls X.K C)(k:Ym X.K C m g)(l:fs.lookup m=none)
 (h:Q (.ref g,[.ref a]) s):wpAny (model X.prog X.w) A (getMethod (.ref a) m pl) Q E s:=by
 obtain⟨mA,O,r,_,_,_⟩:=Kq I.hok e;have hn:mA m=none:=Dv.none_of (by rw[<- l];exact r m);exact J0x I.kIn O (c.get m) k.at_ k.fn hn h
theorem Ng{y:V}{u:Value}{Q:Unit->Shared->Prop}(I:Inv X pins σ H s)(e:H a=some (.ins C dx fs))(c:Cls X.K C)(n:An X.K C f)(hl:fs.length < 1000)(ry:Au y u)
 (h:∀s',Inv X pins σ (upd H a (.ins C dx (Ac f y fs))) s'->Q () s'):wpAny (model X.prog X.w) A (setAttr (.ref a) f u) Q E s:=by
 obtain⟨mA,O,r,wi,_,ho⟩:=Kq I.hok e
 have hz:(fs.map (·.1)).length<=sizeLine:=by rw[Fa,Ry];omega
 refine J55 I.kIn O c.sa c.po n.taker c.hd wi hz λh' O' sb=>h _ ?_;have hd:∃o,h'.get? dx=some o:=let ⟨o,_,_,e',_⟩:=O'.ns;⟨o,e'⟩;refine I.write (x:=a) (e:=dx) (by rw[e];exact True.intro) (.inr ho) (λb q hb z=>(sb.2 b hb).trans z) hd ?_;refine⟨by rw[A5 O.ne];exact ho,?_,O.ne,O'.obj,_,O'.ns,λg=>?_,λg hg=>?_⟩
 . have:=C6 f y fs;omega
 . show Dv ((Ac f y fs).lookup g) (if g=f then some u else mA g)
   rw[Ao]
   by_cases q:g=f
   . rw[if_pos q,if_pos q];exact ry
   . rw[if_neg q,if_neg q];exact r g
 . by_cases q:g=f
   . rw[q];exact(Er f y fs).1
   . refine(Er f y fs).2 g (wi g λz=>hg ?_)
     show (if g=f then some u else mA g)=none;rw[if_neg q];exact z
theorem Inv.made(I:Inv X pins σ H s):Inv X pins σ (upd (upd H s.heap.objs.size (.own (s.heap.objs.size+1))) (s.heap.objs.size+1) (.ins C s.heap.objs.size []))
 {s with heap:=(s.heap.push PySem.W.emptyDict).push (PySem.W.instObj C s.heap.objs.size)}:=by
 have e1:(s.heap.push PySem.W.emptyDict).get? s.heap.objs.size=some PySem.W.emptyDict:=Fy s.heap rfl
 have e2:((s.heap.push PySem.W.emptyDict).push (PySem.W.instObj C s.heap.objs.size)).get? (s.heap.objs.size+1)=some (PySem.W.instObj C s.heap.objs.size):=by
  have:=Fy (s.heap.push PySem.W.emptyDict) (o:=PySem.W.instObj C s.heap.objs.size) rfl
  rwa [Heap.size_push]at this
 have e3:(s.heap.push PySem.W.emptyDict).Ns s.heap.objs.size (λ_=>none):=⟨PySem.W.emptyDict,#[],_,e1,rfl,(λe he=>absurd he (by simp)),λ_=>rfl⟩
 have I1:=I.laid (a:=s.heap.objs.size) (o:= .own (s.heap.objs.size+1)) (h':=s.heap.push PySem.W.emptyDict) (t':=s.toks) (λb u q=>Fe _ q) (Fg _) ⟨_,e1⟩;refine I1.laid (a:=s.heap.objs.size+1) (o:= .ins C s.heap.objs.size []) (t':=s.toks) (λb u q=>Fe _ q) (Hu (Heap.size_push _ _)) ?_;have ne:s.heap.objs.size≠s.heap.objs.size+1:=Fv (R3 _);refine⟨by rw[A5 ne,A1],FP _,ne,e2,λ_=>none,(Heap.Ns1.of_empty e3).at λo q=>Fe _ q,λ_=>True.intro,λy hy=>absurd rfl hy⟩
theorem Pz{prog:Program}{w:World}{env:Env}{e:Expr}{f:Str}{pos:Pos}{s:Shared}{Q:Value->Shared->Prop}(hb:attributeBase e f env (eval e env)=eval e env)
 (h:wpAny (model prog w) A (eval e env) (λo s₁=>wpAny (model prog w) A (getAttr o f true) Q E s₁) E s):wpAny (model prog w) A (eval (.Attribute e f pos) env) Q E s:=
 Attribute_any_ h (by rw[arm_eval_Attribute,hb])
end
def Jah(K:PySem.W.Frag)(ta:TE)(f:Str):TE:=λσ H Q=>ta σ H λx H1=>∃a C dx fs v,x= .ref a/\H1 a=some (.ins C dx fs)/\Cls K C/\An K C f/\fs.lookup f=some v/\Q v H1
def Jai(K:PySem.W.Frag)(ta tv:TE)(f:Str):TS:=λD σ H=>tv σ H λy H1=>ta σ H1 λx H2=>∃a C dx fs,x= .ref a/\H2 a=some (.ins C dx fs)/\Cls K C/\An K C f/\fs.length < 1000/\
 D.nx σ (upd H2 a (.ins C dx (Ac f y fs)))
def Jaj(X:Cx)(op:Operator)(rd:V->V->Hp->VK->Prop):Prop:=
 ∀(pins:List (Addr×Obj)) (s:Shared) (σ:St) (H:Hp) (x y:V) (u v:Value) (Q:VK),Inv X pins σ H s->Au x u->Au y v->rd x y H Q->wpAny (model X.prog X.w) X.A (inplaceOp op u v) (EP X pins σ Q) X.xe s
def Vu(K:PySem.W.Frag)(ta tv:TE)(rd:V->V->Hp->VK->Prop)(f:Str):TS:=λD σ H=>ta σ H λx H1=>∃a C dx fs v,x= .ref a/\H1 a=some (.ins C dx fs)/\Cls K C/\An K C f/\fs.lookup f=some v/\
 tv σ H1 λy H2=>rd v y H2 λz H3=>∃dx' fs',H3 a=some (.ins C dx' fs')/\fs'.length < 1000/\D.nx σ (upd H3 a (.ins C dx' (Ac f z fs')))
section
variable {X:Cx}{o e value:Expr}{f:Str}{pos pos' tpos:Pos}{ta tv:TE}
theorem Ad(he:PE X e ta)(hb:attributeBase e f X.env (eval e X.env)=eval e X.env):PE X (.Attribute e f pos) (Jah X.K ta f):=by
 intro pins s σ H Q I h;refine Pz hb (thn (he pins s σ H _ I h) λu s1 hq_=>?_);obtain⟨x,H1,I1,rx,a,C,dx,fs,v,ex,ea,c,n,l,q⟩:=hq_;subst ex;obtain rfl:u=Value.ref a:=rx
 exact Nf I1 ea c n l λu' s2 I2 ru=>⟨v,H1,I2,ru,q⟩
theorem Av(ha:PE X o ta)(hv:PE X value tv)(hs:swapsWith value (some (.Attribute o f pos')) pos.line X.env=pure false):PS X (.Assign [.Attribute o f pos'] value pos) (Jai X.K ta tv f):=by
 intro pins s σ H D I h;refine plainObj_wpAny_Assign_Attribute (thn (hv pins s σ H _ I h) λu s1 ⟨y,H1,I1,ry,q⟩=>thn (ha pins s1 σ H1 _ I1 q) λov s2 hq_=>?_) hs;obtain⟨x,H2,I2,rx,a,C,dx,fs,ex,ea,c,n,l,q2⟩:=hq_;subst ex;obtain rfl:ov=Value.ref a:=rx
 exact Ng I2 ea c n l ry λs3 I3=>⟨σ,_,I3,q2⟩
theorem Iw{op:Operator}{rd:V->V->Hp->VK->Prop}(ha:PE X o ta)(hv:PE X value tv)(hop:Jaj X op rd):PS X (.AugAssign (.Attribute o f tpos) op value pos) (Vu X.K ta tv rd f):=by
 intro pins s σ H D I h;refine wpAny_AugAssign_AttributeAny (thn (ha pins s σ H _ I h) λov s1 hq_=>?_);obtain⟨x,H1,I1,rx,a,C,dx,fs,v,ex,ea,c,n,l,q⟩:=hq_;subst ex;obtain rfl:ov=Value.ref a:=rx;refine Nf I1 ea c n l λu s2 I2 ru=>thn (hv pins s2 σ H1 _ I2 q) λw3 s3 ⟨y,H2,I3,ry,q3⟩=>thn (hop pins s3 σ H2 v y u w3 _ I3 ru ry q3) λw4 s4 hq_=>?_;obtain⟨z,H3,I4,rz,dx',fs',ea',l',q4⟩:=hq_
 exact Ng I4 ea' c n l' rz λs5 I5=>⟨σ,_,I5,q4⟩
def J8o:V->V->Hp->VK->Prop:=λx y H Q=>∃i j,x= .int i/\y= .int j/\Q (.int (i+j)) H
theorem Q0:Jaj X .Add J8o:=by
 rintro pins s σ H x y u v Q I rx ry ⟨i,j,rfl,rfl,q⟩
 obtain⟨t,rfl⟩:=(show ∃t,u=Value.int i t from rx)
 obtain⟨t',rfl⟩:=(show ∃t',v=Value.int j t' from ry)
 exact PyProof.Rows.iadd_int ⟨.int (i+j),H,I.tok _,⟨_,rfl⟩,q⟩
end
section
variable {X:Cx}{pins:List (Addr×Obj)}{σ:St}{H:Hp}{s:Shared}{A:Around}{E:Value->Shared->Prop}{Q:Value->Shared->Prop}{c:Value}{b:Bool}
inductive Lq(K:PySem.W.Frag)(H:Hp):V->Value->Prop where
 | non:Lq K H .non (.type "NoneType")
 | bl (x:Bool):Lq K H (.bl x) (.type "bool")
 | int (i:Int):Lq K H (.int i) (.type "int")
 | str (x:Str):Lq K H (.str x) (.type "str")
 | flt (x:UInt64):Lq K H (.flt x) (.type "float")
 | lst {a:Addr}{xs:List V} (e:H a=some (.lst xs)):Lq K H (.ref a) (.type "list")
 | frz {a:Addr}{o:Obj}{xs:List V} (e:H a=some (.frz o (.lst xs))):Lq K H (.ref a) (.type "list")
 | tup {a:Addr}{xs:List V} (e:H a=some (.tup xs)):Lq K H (.ref a) (.type "tuple")
 | dK {a:Addr}{kvs:List (Key×V)} (e:H a=some (.dK kvs)):Lq K H (.ref a) (.type "dict")
 | dT {a:Addr}{kvs:List (List Key×V)} (e:H a=some (.dT kvs)):Lq K H (.ref a) (.type "dict")
 | ins {a C dx:Addr}{fs:List (Str×V)} (e:H a=some (.ins C dx fs)) (cl:Cls K C) (ha:PySem.W.findIn K (.ref C) "__class__"=some (some (.builtin "object.__class__")))
  (hn:PySem.W.specialIn K (.builtin "object.__class__") "__get__"=some (some (.builtin "getset_descriptor.__get__"))) (htk:PySem.W.takesIn K (.builtin "object.__class__")=some true)
  (hm:PySem.W.mroIn K C (.type "object")=some true):Lq K H (.ref a) (.ref C)
theorem Yn{x:V}{u t:Value}(I:Inv X pins σ H s)(rx:Au x u)(ty:Lq X.K H x t)(e:PySem.W.kitOne X.K t c=some b)(h:∀tk,Q (.bool b) {s with toks:=tk}):
 wpAny (model X.prog X.w) A (call (.builtin "isinstance") [u,c]) Q E s:=by
 cases ty with
 | non=>cases (show u=Value.none from rx);exact FU PySem.W.kitx_none I.kIn True.intro e (λz=>nomatch z) h
 | bl y=>cases (show u=Value.bool y from rx);exact FU PySem.W.kitx_bool I.kIn True.intro e (λz=>nomatch z) h
 | int i=>obtain⟨t,q⟩:=(show ∃t,u=Value.int i t from rx);cases q;exact FU PySem.W.kitx_int I.kIn True.intro e (λz=>nomatch z) h
 | str y=>obtain⟨t,q⟩:=(show ∃t,u=Value.str y t from rx);cases q;exact FU PySem.W.kitx_str I.kIn True.intro e (λz=>nomatch z) h
 | flt y=>obtain⟨t,q⟩:=(show ∃t,u=Value.float y t from rx);cases q;exact FU PySem.W.kitx_float I.kIn True.intro e (λz=>nomatch z) h
 | @lst a xs ea=>
  cases (show u=Value.ref a from rx)
  obtain⟨_,_,n,_,h1⟩:=(show Bk X.prog X.w H s.heap a (.lst xs) from I.hok a _ ea)
  exact FU PySem.W.kitx_list I.kIn ⟨_,h1,rfl⟩ e (λz=>nomatch z) h
 | @frz a ob xs ea=>
  cases (show u=Value.ref a from rx)
  obtain⟨_,_,_,n,_,h1⟩:=(show Bk X.prog X.w H s.heap a (.frz ob (.lst xs)) from I.hok a _ ea)
  exact FU PySem.W.kitx_list I.kIn ⟨_,h1,rfl⟩ e (λz=>nomatch z) h
 | @tup a xs ea=>
  cases (show u=Value.ref a from rx)
  obtain⟨_,_,_,p⟩:=(show Bk X.prog X.w H s.heap a (.tup xs) from I.hok a _ ea)
  obtain⟨o,h1,h2,_⟩:=p;exact FU PySem.W.kitx_tuple I.kIn ⟨o,h1,h2⟩ e (λz=>nomatch z) h
 | @dK a kvs ea=>
  cases (show u=Value.ref a from rx)
  obtain⟨_,_,vs,_,p⟩:=(show Bk X.prog X.w H s.heap a (.dK kvs) from I.hok a _ ea)
  obtain⟨o,es,ep,h1,h2,_⟩:=p;exact FU PySem.W.kitx_dict I.kIn ⟨o,h1,h2.1⟩ e (λz=>nomatch z) h
 | @dT a kvs ea=>
  cases (show u=Value.ref a from rx)
  obtain⟨_,_,xs,_,o,es,ep,h1,h2,_⟩:=(show Bk X.prog X.w H s.heap a (.dT kvs) from I.hok a _ ea)
  exact FU PySem.W.kitx_dict I.kIn ⟨o,h1,h2.1⟩ e (λz=>nomatch z) h
 | @ins a C dx fs ea cl ha hn htk hm=>
  cases (show u=Value.ref a from rx);obtain⟨mA,O,_⟩:=Kq I.hok ea;obtain⟨od,J,_⟩:=O.look;exact FU (PySem.W.kitx_own (cl.get _) cl.hd ha hn htk hm) I.kIn J e (λz=>nomatch z) h
end
structure Bt(k:Nat)(A:Around):Prop where
 hd:A.handled=none
 dp:A.depth+3 * k+5 < recursionLimit
 un:A.units+16 * k+200 < cLine
theorem Bt.mono{j k:Nat}{A:Around}(r:Bt k A)(h:j<=k):Bt j A:=⟨r.hd,by have:=r.dp;omega,by have:=r.un;omega⟩
theorem Bt.deeper{k:Nat}{A:Around}(r:Bt (k+1) A)(env:Env):Bt k (A.deeper env):=
 ⟨r.hd,by have:=r.dp;show A.depth+1+3 * k+5 < _;omega,by have:=r.un;show A.units+3+16 * k+200 < _;omega⟩
theorem Bt.in1{k:Nat}{A:Around}(r:Bt (k+1) A):Bt k A.in1:=
 ⟨r.hd,by have:=r.dp;show A.depth+3 * k+5 < _;omega,by have:=r.un;show A.units+1+16 * k+200 < _;omega⟩
theorem Uw{A:Around}{C:Addr}{us:List Value}{kw:List (Str×Value)}:(A.under (.builtin "type.__call__" ⟨.ref C::us,kw⟩)).depth=A.depth+1:=by
 first | rfl | simp[Around.under,Code.weight,Code.isCreation,Code.isGuard,Code.isCaller,Code.frames,Code.isFrame,guardIds]
theorem Ux{A:Around}{C:Addr}{us:List Value}{kw:List (Str×Value)}:(A.under (.builtin "type.__call__" ⟨.ref C::us,kw⟩)).units=A.units+1:=by
 first | rfl | simp[Around.under,Code.cUnits,Code.frames,Code.isFrame]
theorem Bt.make{k:Nat}{A:Around}(r:Bt (k+1) A)(C:Addr)(us:List Value)(kw:List (Str×Value)):Bt k (A.under (.builtin "type.__call__" ⟨.ref C::us,kw⟩)):=
 ⟨r.hd,by have:=r.dp;rw[Uw];omega,by have:=r.un;rw[Ux];omega⟩
theorem Bt.depth{k:Nat}{A:Around}(r:Bt k A):A.depth < recursionLimit:=by have:=r.dp;omega
theorem Bt.units{k:Nat}{A:Around}(r:Bt k A):A.units+64 < cLine:=by have:=r.un;omega
def J8p:TA:=λ_ H Q=>Q [] H
def S5(ta:TE)(tr:TA):TA:=λσ H Q=>ta σ H λx H1=>tr σ H1 λxs H2=>Q (x::xs) H2
section
variable {X:Cx}{e:Expr}{es:List Expr}{te:TE}{t:TA}{pos:Pos}
theorem A2:PA X [] J8p:=λ_ _ _ _ H Q I h=>Calls.spliced_nil ⟨[],H,I,.nil,h⟩
theorem A0(ha:PE X e te)(hr:PA X es t)(hs:starEach (e::es) X.env=(false,eval e X.env)::starEach es X.env:=by rfl):PA X (e::es) (S5 te t):=by
 intro pos pins s σ H Q I h;rw[hs];show wpAny _ _ (spliced ((false,eval e X.env)::backTo pos (starEach es X.env))) _ _ s;refine Calls.spliced_cons (thn (ha pins s σ H _ I h) λu s1 hq_=>?_);obtain⟨x,H1,I1,r1,q1⟩:=hq_
 exact thn (hr pos pins s1 σ H1 _ I1 q1) λus s2 ⟨xs,H2,I2,r2,q2⟩=>⟨x::xs,H2,I2,.cons r1 r2,q2⟩
def Jak(t:TA):TE:=λσ H Q=>t σ H λxs H1=>xs.length<=sizeLine/\∀p,H1 p=none->Q (.ref p) (upd H1 p (.tup xs))
def Jal(t:TA):TE:=λσ H Q=>t σ H λxs H1=>xs.length<=sizeLine/\∀p,H1 p=none->Q (.ref p) (upd H1 p (.lst xs))
theorem Bh{x1}(h:PA X es t):PE X (.Tuple es x1 pos) (Jak t):=by
 intro pins s σ H Q I hq;refine wpAny_Tuple_spliced (thn (h pos pins s σ H _ I hq) λus s1 ⟨xs,H1,I1,r,z,q⟩=>⟨by rw[<- r.length];exact z,?_⟩);have hf:H1 s1.heap.objs.size=none:=I1.hok.fresh (Fg _);refine⟨.ref s1.heap.objs.size,upd H1 s1.heap.objs.size (.tup xs),I1.laid (t':=s1.toks) (λb u e=>Fe _ e) (Fg _) ?_,rfl,q _ hf⟩;exact⟨z,us,r,⟨_,Fy _ rfl,rfl,_,rfl⟩⟩
theorem Bd(h:PA X es t):PE X (.List es pos) (Jal t):=by
 intro pins s σ H Q I hq;refine wpAny_List_spliced (thn (h pos pins s σ H _ I hq) λus s1 ⟨xs,H1,I1,r,z,q⟩=>⟨by rw[<- r.length];exact z,?_⟩);have hf:H1 s1.heap.objs.size=none:=I1.hok.fresh (Fg _);refine⟨.ref s1.heap.objs.size,upd H1 s1.heap.objs.size (.lst xs),I1.laid (t':=s1.toks) (λb u e=>Fe _ e) (Fg _) ?_,rfl,q _ hf⟩;exact⟨z,us,0,r,Fy _ rfl⟩
end
abbrev Sp:=List V->Hp->VK->XK->Prop
abbrev CXT:=List Env->Hp->Shared->XK->Value->Shared->Prop
structure Kr(P:Program)(w:World)(K:PySem.W.Frag)(mg:Str->Option Value)(base:Heap)(A:Around)(outer:List Env)(s:Shared)(H:Hp):Prop where
 frames:A.frames=some outer
 mod:Mod K mg base
 bs:∀b o,base.get? b=some o->s.heap.get? b=some o/\H b=none
 bsz:base.objs.size<=s.heap.objs.size
 funs:s.heap.FunFrames base outer
 frf:∀b∈frs outer,H b=none
 hok:HOk P w H s.heap
 bare:AllBare s.gens
def CE(outer:List Env)(P:Program)(w:World)(H:Hp)(s:Shared)(Q:VK)(u:Value)(s':Shared):Prop:=
 ∃v H',s'.os=s.os/\AllBare s'.gens/\Un (frs outer) [] H H' s.heap s'.heap/\HOk P w H' s'.heap/\Au v u/\Q v H'
def CR(CX:CXT)(outer:List Env)(P:Program)(w:World)(H:Hp)(s:Shared)(Q:VK)(E:XK)(r:Result)(s':Shared):Prop:=
 match r with
 | .ok (.ret u)=>CE outer P w H s Q u s'
 | .ok _=>False
 | .error e=>CX outer H s E e s'
structure Ai(P:Program)(w:World)(K:PySem.W.Frag)(mg:Str->Option Value)(base:Heap)(CX:CXT)(k:Nat)(f:Addr)(fd:FuncData)(ps:List Str)(sp:Sp):Prop where
 len:∀vs H Q E,sp vs H Q E->vs.length=ps.length
 run:∀(A:Around) (outer:List Env) (s:Shared) (H:Hp) (args:Args) (us:List Value) (vs:List V) (Q:VK) (E:XK),Bt k A->Kr P w K mg base A outer s H->BindsTo s fd args (ps.zip us)->Ay vs us->sp vs H Q E->
  codeAny (model P w) A (.call (.ref f) args) (CR CX outer P w H s Q E) s
theorem Ai.mono{P:Program}{w:World}{K:PySem.W.Frag}{mg:Str->Option Value}{base:Heap}{CX:CXT}{j k:Nat}{f:Addr}{fd:FuncData}{ps:List Str}{sp:Sp}(F:Ai P w K mg base CX j f fd ps sp)(h:j<=k):
 Ai P w K mg base CX k f fd ps sp:=⟨F.len,λA outer s H args us vs Q E hr=>F.run A outer s H args us vs Q E (hr.mono h)⟩
theorem Ai.imp{P:Program}{w:World}{K:PySem.W.Frag}{mg:Str->Option Value}{base:Heap}{CX:CXT}{k:Nat}{f:Addr}{fd:FuncData}{ps:List Str}{sp sp':Sp}(F:Ai P w K mg base CX k f fd ps sp)
 (h:∀vs H Q E,sp' vs H Q E->sp vs H Q E):Ai P w K mg base CX k f fd ps sp':=
 ⟨λvs H Q E q=>F.len vs H Q E (h _ _ _ _ q),λA outer s H args us vs Q E hr he hb hv hs=>F.run A outer s H args us vs Q E hr he hb hv (h _ _ _ _ hs)⟩
theorem Kr.make{P:Program}{w:World}{K:PySem.W.Frag}{mg:Str->Option Value}{base:Heap}{A:Around}{outer:List Env}{s:Shared}{H:Hp}(e:Kr P w K mg base A outer s H)(C:Addr)(us:List Value)(kw:List (Str×Value)):
 Kr P w K mg base (A.under (.builtin "type.__call__" ⟨.ref C::us,kw⟩)) outer s H:=⟨by first | exact e.frames | (simpa [Around.under,Code.envs,Code.isFrame,pushEnvs] using e.frames),e.mod,e.bs,e.bsz,e.funs,e.frf,e.hok,e.bare⟩
theorem Kr.in1{P:Program}{w:World}{K:PySem.W.Frag}{mg:Str->Option Value}{base:Heap}{A:Around}{outer:List Env}{s:Shared}{H:Hp}(e:Kr P w K mg base A outer s H):
 Kr P w K mg base A.in1 outer s H:=⟨e.frames,e.mod,e.bs,e.bsz,e.funs,e.frf,e.hok,e.bare⟩
section
variable {X:Cx}{pins:List (Addr×Obj)}{σ:St}{H:Hp}{s s':Shared}
theorem Inv.env0(I:Inv X pins σ H s):Kr X.prog X.w X.K X.mg X.base X.A X.stack s H:=
 ⟨I.ok.frames,I.ok.mod,I.bs,FE I.ok.bsz I.sz,I.stack,I.stkFree,I.hok,I.bare⟩
theorem Inv.after{Q:VK}{u:Value}(I:Inv X pins σ H s)(h:CE X.stack X.prog X.w H s Q u s'):EP X pins σ Q u s':=by
 obtain⟨v,H',os,bare,un,hok,r,q⟩:=h;obtain⟨hh,g,d,t,os'⟩:=s';obtain rfl:os'=s.os:=os;exact⟨v,H',I.call (h':=hh) (g':=g) (d':=d) (t':=t) (ch:=[]) un hok bare (λb z=>absurd z (by simp)),r,q⟩
end
def Jam(sp:Sp)(dvs:List V)(E:XK)(t:TA):TE:=λσ H Q=>t σ H λvs H1=>sp (vs++dvs) H1 Q E
def Bl(K:PySem.W.Frag)(fd:FuncData)(ps:List Str)(ds:List Value):Prop:=
 ∀(s:Shared) (us:List Value),K.In s.heap->(us++ds).length=ps.length->BindsTo s fd ⟨us,[]⟩ (ps.zip (us++ds))
theorem Bl.all{K:PySem.W.Frag}{fd:FuncData}{ps:List Str}(h:∀us:List Value,us.length=ps.length->bindArgs fd ⟨us,[]⟩=pure (ps.zip us)):Bl K fd ps []:=λs us _ hl=>by
 rw[Ha]at hl ⊢;exact .of_eq (h us hl)
def Kh(CX:CXT)(X:Cx)(E:XK):Prop:=∀(pins:List (Addr×Obj)) (σ:St) (H:Hp) (s:Shared) (e:Value) (s':Shared),Inv X pins σ H s->CX X.stack H s E e s'->X.xe e s'
section
variable {X:Cx}{CX:CXT}{k:Nat}{f C:Addr}{fd:FuncData}{ps:List Str}{sp:Sp}{dvs:List V}{ds:List Value}{E:XK}{x m:Str}{p pos apos:Pos}{e o:Expr}{es:List Expr}{ta:TE}{t:TA}
theorem J8q{pins:List (Addr×Obj)}{σ:St}{H:Hp}{s:Shared}{Q:VK}{us:List Value}{vs:List V}(F:Ai X.prog X.w X.K X.mg X.base CX k f fd ps sp)(hr:Bt k X.A)(hb:Bl X.K fd ps ds)(hd:Ay dvs ds)(hx:Kh CX X E)
 (I:Inv X pins σ H s) (r:Ay vs us) (h:sp (vs++dvs) H Q E):wpAny (model X.prog X.w) X.A (call (.ref f) us) (EP X pins σ Q) X.xe s:=by
 have r2:Ay (vs++dvs) (us++ds):=r.append hd
 have hl:(us++ds).length=ps.length:=by rw[<- r2.length];exact F.len _ _ _ _ h
 refine HS (Ht (F.run X.A X.stack s H ⟨us,[]⟩ (us++ds) (vs++dvs) Q E hr I.env0 (hb s us I.kIn hl) r2 h) λr s' hq=>?_)
 cases r with
 | error e=>exact hx pins σ H s e s' I hq
 | ok fl=>
  cases fl with
  | ret u=>exact I.after hq
  | next=>exact False.elim hq
  | brk=>exact False.elim hq
  | cont=>exact False.elim hq
theorem J56(F:Ai X.prog X.w X.K X.mg X.base CX k f fd ps sp)(hr:Bt k X.A)(hg:Gl X x)(hm:X.mg x=some (.ref f))(hk:PySem.W.keepIn X.K (.ref f)=true)(hb:Bl X.K fd ps ds)(hd:Ay dvs ds)(hx:Kh CX X E)
 (ha:PA X (e::es) t) (hdb:(x==("__debug__":Str))=false:=by decide) (he:starEach (e::es) X.env=(false,eval e X.env)::starEach es X.env:=by rfl) (hpl:(backTo pos (starEach es X.env)).any (·.1)=false:=by rfl):
 PE X (.Call (.Name x p) (e::es) [] pos) (Jam sp dvs E t):=by
 intro pins s σ H Q I h;refine FV (Ef I hg hm ?_ hdb);refine FW (h₀:=X.base) I.ok.mod.kin hk (thn (ha pos pins s σ H _ I h) λus s1 ⟨vs,H1,I1,r,q⟩=>⟨I1.kIn,?_⟩) he hpl;exact J8q F hr hb hd hx I1 r q
structure Mk(K:PySem.W.Frag)(C f:Addr):Prop where
 makes:PySem.W.makesIn K C=true
 init:PySem.W.findIn K (.ref C) "__init__"=some (some (.ref f))
 fn:PySem.W.isFn K (.ref f)=true
 kp:PySem.W.keepIn K (.ref C)=true
end
section
variable {X:Cx}{CX:CXT}{k:Nat}{f C:Addr}{fd:FuncData}{ps ks:List Str}{sp:Sp}{E:XK}{x m:Str}{p pos apos kpos:Pos}{e o:Expr}{es:List Expr}{kws:List Keyword}{te ta:TE}{t tk:TA}{nm:Option Str}
structure J0z(K:PySem.W.Frag)(fd:FuncData)(ps ks:List Str)(g:List Value->List Value->List Value)(gV:List V->List V->List V):Prop where
 to:∀(s:Shared) (us ws:List Value),K.In s.heap->(g us ws).length=ps.length->BindsTo s fd ⟨us,ks.zip ws⟩ (ps.zip (g us ws))
 rel:∀{vs:List V}{us:List Value}{zs:List V}{ws:List Value},Ay vs us->Ay zs ws->Ay (gV vs zs) (g us ws)
variable {g:List Value->List Value->List Value}{gV:List V->List V->List V}
end
structure A9(N P:List Str)(sc:Scope):Prop where
 kind:sc.kind= .function
 co:sc.isCoroutine=false
 gen:sc.isGenerator=false
 nd:N.Nodup
 pre:N.take P.length=P
 par:∀x∈P,sc.names.lookup x=some .local\/sc.names.lookup x=some .cell
 nofree:∀y∈sc.names,y.2≠ .free
theorem Ot{kindOf:Str->Option NameKind}{x:Str}:∀{binds:List (Str×Value)}{m:Str->Option Value},(∀v,(x,v)∉binds)->bindL kindOf binds m x=m x
 | [],_,_=>rfl
 | (n,v)::r,m,h=>by
  unfold bindL;rw[Ot λw hw=>h w (Fk _ hw)];split
  . have:x≠n:=by rintro rfl;exact h v FC
    simp[this]
  . rfl
theorem Ou{kindOf:Str->Option NameKind}{x:Str}:∀{binds:List (Str×Value)}{m:Str->Option Value},(∀v,(x,v)∉binds)->bindC kindOf binds m x=m x
 | [],_,_=>rfl
 | (n,v)::r,m,h=>by
  unfold bindC;rw[Ou λw hw=>h w (Fk _ hw)];split
  . rfl
  . have:x≠n:=by rintro rfl;exact h v FC
    simp[this]
theorem Ov{kindOf:Str->Option NameKind}{x:Str}{v:Value}:∀{P:List Str}{vs:List Value}{i:Nat}{m:Str->Option Value},P.Nodup->P[i]?=some x->vs[i]?=some v->kindOf x=some .local->
 bindL kindOf (P.zip vs) m x=some v
 | [],_,_,_,_,h,_,_=>by simp at h
 | _::_,[],_,_,_,_,h,_=>by simp at h
 | p::P,w::vs,0,m,nd,h1,h2,hk=>by
  simp at h1 h2;subst h1;subst h2;show bindL kindOf ((p,w)::P.zip vs) m p=_;unfold bindL;rw[Ot λv hv=>(HB.mp nd).1 (Rt hv).1,if_pos hk];simp
 | p::P,w::vs,i+1,m,nd,h1,h2,hk=>by
  show bindL kindOf ((p,w)::P.zip vs) m x=_;unfold bindL;exact Ov (i:=i) (HB.mp nd).2 (by simpa using h1) (by simpa using h2) hk
theorem Ow{kindOf:Str->Option NameKind}{x:Str}{v:Value}:∀{P:List Str}{vs:List Value}{i:Nat}{m:Str->Option Value},P.Nodup->P[i]?=some x->vs[i]?=some v->kindOf x≠some .local->
 bindC kindOf (P.zip vs) m x=some v
 | [],_,_,_,_,h,_,_=>by simp at h
 | _::_,[],_,_,_,_,h,_=>by simp at h
 | p::P,w::vs,0,m,nd,h1,h2,hk=>by
  simp at h1 h2;subst h1;subst h2;show bindC kindOf ((p,w)::P.zip vs) m p=_;unfold bindC;rw[Ou λv hv=>(HB.mp nd).1 (Rt hv).1,if_neg hk];simp
 | p::P,w::vs,i+1,m,nd,h1,h2,hk=>by
  show bindC kindOf ((p,w)::P.zip vs) m x=_;unfold bindC;exact Ow (i:=i) (HB.mp nd).2 (by simpa using h1) (by simpa using h2) hk
def start(N:List Str)(vs:List V):St:=vs.map some++List.replicate (N.length - vs.length) none
def Gy(CX:CXT)(P:Program)(w:World)(K:PySem.W.Frag)(mg:Str->Option Value)(base:Heap)(N:List Str)(qual:Str)(scope:Scope)(f:Addr)(cd:Value)(A:Around)(outer:List Env)(s:Shared)(H:Hp)(E:XK):Cx where
 prog:=P
 w:=w
 K:=K
 mg:=mg
 base:=base
 A:=A.deeper (envOfC qual scope s.heap.objs.size f cd)
 N:=N
 s₀:=s
 H₀:=H
 env:=envOfC qual scope s.heap.objs.size f cd
 outer:=outer
 stack:=envOfC qual scope s.heap.objs.size f cd::outer
 ex:=[]
 calm:=true
 fn:=λ_=>true
 pn:=[]
 xe:=λe s'=>wpAny (model P w) (A.deeper (envOfC qual scope s.heap.objs.size f cd)) (leaving (envOfC qual scope s.heap.objs.size f cd) e) (λ_ s''=>CX outer H s E e s'') (λe' s''=>CX outer H s E e' s'') s'
theorem S6{sc:Scope}{n:Nat}{x:Str}(h:sc.names.lookup x=some .cell):∃c,(cellsFrom n sc.names []).lookup x=some c:=by
 have q:=Rn sc.names n [] (.inl h);exact Ho.mp q
theorem Ox{CX:CXT}{P:Program}{w:World}{K:PySem.W.Frag}{mg:Str->Option Value}{base:Heap}{N ps:List Str}{qual:Str}{scope:Scope}{f:Addr}{cd:Value}{A:Around}{outer:List Env}{s s1:Shared}{H:Hp}{E:XK}{us:List Value}{vs:List V}
 (S:A9 N ps scope) (hd:A.handled=none) (e0:Kr P w K mg base A outer s H) (hl:vs.length=ps.length) (r:Ay vs us)
 (x:InCallC s s.heap.objs.size (bindL (envOfC qual scope s.heap.objs.size f cd).kindOf (ps.zip us) λ_=>none) (cellsFrom (s.heap.objs.size+1) scope.names []) (bindC (envOfC qual scope s.heap.objs.size f cd).kindOf (ps.zip us) λ_=>none) s1):
 Inv (Gy CX P w K mg base N qual scope f cd A outer s H E) [] (start N vs) H s1:=by
 have hpl:ps.length<=N.length:=by have:=congrArg List.length S.pre;rw[FF]at this;omega
 obtain⟨h1,tk,rfl,hk⟩:=x.done;have noA:∀b:Addr,b∉(Gy CX P w K mg base N qual scope f cd A outer s H E).ex:=λb z=>absurd (show b∈([]:List Addr) from z) (by simp)
 refine⟨⟨e0.mod,S.kind,rfl,rfl,Fg _,λy z c h1 h2=>?_,λy hy=>?_,λy c _ h=>?_,λ_=>hd,Around.frames_deeper e0.frames,.inr ⟨rfl,rfl⟩,λb z=>absurd z (noA b),e0.bs,e0.bsz,λb _ _=>noA b,λb z=>absurd z (noA b),e0.funs,e0.frf⟩,
  rfl,e0.bare,Un.kept hk,⟨_,x.toInCall.ns,λi y v h1 h2 h3=>?_⟩,λy c h=>⟨_,x.cell y c h⟩,e0.hok.fresh (Fg _),λy c h=>?_,λp hp=>absurd (show p∈([]:List (Addr×Obj)) from hp) (by simp),e0.hok.kept hk,?_⟩
 . exact name_of_addr x.apart (Hr h1) (Hr h2)
 . have hy:scope.names.lookup y=some .cell\/scope.names.lookup y=some .free:=hy
   rcases hy with hy | hy
   . exact S6 hy
   . exact absurd rfl (S.nofree _ (Hr hy))
 . exact Nat.le_of_lt (x.above y c (Hr h))
 . have hi:i < vs.length:=by
    unfold start at h2
    by_cases hi:i < vs.length
    . exact hi
    . rw[FJ (by simpa using hi)]at h2
      rw[List.getElem?_replicate]at h2
      split at h2 <;> cases h2
   have ha:vs[i]?=some v:=by
    unfold start at h2;rw[FQ (by simpa using hi),Ff]at h2
    cases e:vs[i]? with
    | none=>rw[e]at h2;cases h2
    | some a=>rw[e]at h2;cases h2;rfl
   obtain⟨u,hu,rv⟩:=r.get ha
   have hp:ps[i]?=some y:=by
    rw[<- S.pre,List.getElem?_take_of_lt (by omega)];exact h1
   have ndP:ps.Nodup:=by rw[<- S.pre];exact S.nd.sublist (List.take_sublist _ _)
   refine⟨u,rv,?_⟩;rcases S.par y (Fq hp) with k | k
   . exact .inl ⟨k,Ov ndP hp hu k⟩
   . obtain⟨c,e⟩:=S6 (n:=s.heap.objs.size+1) k
     refine .inr ⟨.inl k,c,e,?_⟩;have q:=x.cell y c e;rw[Ow ndP hp hu (by show scope.names.lookup y≠_;rw[k];decide)]at q;exact q
 . exact e0.hok.fresh (Nat.le_of_lt (x.above y c (Hr h)))
 . unfold start
   show _=N.length;rw[Fn,Fa,Hl];omega
theorem J10{CX:CXT}{P:Program}{w:World}{K:PySem.W.Frag}{mg:Str->Option Value}{base:Heap}{k:Nat}{f:Addr}{name qual:Str}{params:Arguments}{body:List Stmt}{scope:Scope}{dV kV doc pm cdv ct oc:Value}{an od:Option Addr}
 {osl:Array (Option Value)}{N ps:List Str}{sp:Sp} (lk:K.lookup f=some ⟨oc,od,.func (PySem.W.fnOf name qual params body scope dV kV doc pm an cdv ct),osl⟩) (hcd:PySem.W.codeIn K cdv qual=true) (S:A9 N ps scope)
 (len:∀vs H Q E,sp vs H Q E->vs.length=ps.length)
 (hbody:∀(A:Around) (outer:List Env) (s:Shared) (H:Hp) (vs:List V) (Q:VK) (E:XK),Bt k (A.deeper (envOfC qual scope s.heap.objs.size f cdv))->sp vs H Q E->
  ∃t,PSs (Gy CX P w K mg base N qual scope f cdv A outer s H E) body t/\t {nx:=λ_ H'=>Q .non H',rt:=Q} (start N vs) H):
 Ai P w K mg base CX (k+1) f (PySem.W.fnOf name qual params body scope dV kV doc pm an cdv ct) ps sp:=by
 refine⟨len,λA outer s H args us vs Q E hr e0 hb r hsp=>?_⟩;have hl:=len _ _ _ _ hsp;have KX:K.In s.heap:=e0.mod.kin.keeps λb o e=>(e0.bs b o e).1;have lim:s.heap.NoLimit:=e0.mod.nolimit.keeps λb o e=>(e0.bs b o e).1
 have hkind:∀y∈ps.zip us,scope.names.lookup y.1=some .local\/(scope.names.lookup y.1=some .cell/\((cellsFrom (s.heap.objs.size+1) scope.names []).lookup y.1).isSome=true):=λ⟨n,v⟩ hy=>by
  rcases S.par n (Rt hy).1 with q | q
  . exact .inl q
  . exact .inr ⟨q,Rn _ _ _ (.inl q)⟩
 refine codeAny_call_function hr.depth (KX _ _ lk) rfl S.co S.gen rfl (PySem.W.codeRec_of KX hcd) (hb _ _ _ _ ?_);refine wpAny_newFunctionEnv_cells S.kind hkind λenv he s1 x=>?_;subst he;refine⟨lim.keeps x.toInCall.keep,codeAny_func ?_⟩;obtain⟨t,ht,hq⟩:=hbody A outer s H vs Q E (hr.deeper _) hsp;have I:Inv (Gy CX P w K mg base N qual scope f cdv A outer s H E) [] (start N vs) H s1:=Ox S hr.hd e0 hl r x;refine FN (ht [] s1 (start N vs) H _ I hq) (λfl s' hs=>?_) λe s' hs=>hs
 have fin:∀{σ':St}{H':Hp}{v:V}{u:Value},Inv (Gy CX P w K mg base N qual scope f cdv A outer s H E) [] σ' H' s'->Au v u->Q v H'->CE outer P w H s Q u s':=
  λ{σ' H' v u} J rv q=>⟨v,H',J.os,J.bare,J.base,J.hok,rv,q⟩
 cases fl with
 | ret u=>
  obtain⟨v,σ',H',J,rv,q⟩:=hs;exact fin J rv q
 | next=>
  obtain⟨σ',H',J,q⟩:=hs;exact fin (v:=V.non) (u:=Value.none) J rfl q
 | brk=>
  obtain⟨_,_,_,q⟩:=hs;exact False.elim q
 | cont=>
  obtain⟨_,_,_,q⟩:=hs;exact False.elim q
section
variable {X:Cx}{x:Str}{p pos:Pos}{e:Expr}{es:List Expr}{t:TA}{id T:String}{r:List V->Hp->VK->Prop}
def tCB(r:List V->Hp->VK->Prop)(t:TA):TE:=λσ H Q=>t σ H λvs H1=>r vs H1 Q
theorem Aw(hc:Ep X (.builtin id) r)(hg:Gl X x)(hm:X.mg x=none)(hv:bootBuiltins x=some (.builtin id))(ha:PA X (e::es) t)(hn:x≠"__name__":=by decide)(hdb:(x==("__debug__":Str))=false:=by decide)
 (he:starEach (e::es) X.env=(false,eval e X.env)::starEach es X.env:=by rfl) (hpl:(backTo pos (starEach es X.env)).any (·.1)=false:=by rfl):PE X (.Call (.Name x p) (e::es) [] pos) (tCB r t):=by
 intro pins s σ H Q I h;refine FV (Kf I hg hm hv ?_ hn hdb);exact PyProof.Rows.callWith_builtin1 (thn (ha pos pins s σ H _ I h) λus s1 ⟨vs,H1,I1,r1,q1⟩=>hc pins s1 σ H1 vs us Q I1 r1 q1) he hpl
theorem Bv(hc:Ep X (.type T) r)(hg:Gl X x)(hm:X.mg x=none)(hv:bootBuiltins x=some (.type T))(ha:PA X (e::es) t)(hn:x≠"__name__":=by decide)(hdb:(x==("__debug__":Str))=false:=by decide)
 (he:starEach (e::es) X.env=(false,eval e X.env)::starEach es X.env:=by rfl) (hpl:(backTo pos (starEach es X.env)).any (·.1)=false:=by rfl):PE X (.Call (.Name x p) (e::es) [] pos) (tCB r t):=by
 intro pins s σ H Q I h;refine FV (Kf I hg hm hv ?_ hn hdb);exact HE (thn (ha pos pins s σ H _ I h) λus s1 ⟨vs,H1,I1,r1,q1⟩=>hc pins s1 σ H1 vs us Q I1 r1 q1) he hpl
end
end L2
variable {xs:List L2.V}{us:List Value}{u doc cdv oc cls:Value}{α:Type}{P:Program}{t' at':Nat}{E:Value->Shared->Prop}{Q:L2.VK}{s':Shared}{X:L2.Cx}{pins pl:List (Addr×Obj)}{σ:L2.St}{D:L2.Dh}{tg:Expr}{te tv td:L2.TE}{g:L2.TG}{body:List Stmt}{H' H1 H2:L2.Hp}{wi:L2.TI}{dx:Addr}{mA:Str->Option Value}{CX:L2.CXT}{fd:FuncData}{ps ys:List Str}{qual:Str}{scope:Scope}{an od:Option Addr}{kvs:List (L2.Key×L2.V)}{h':Heap}{as M:List Addr}
namespace HT
open PySem PyProof.Rows
def Do:List Int->List Int->Bool
 | [],[]=>false
 | [],_::_=>true
 | _::_,[]=>false
 | x::xs,y::ys=>if x=y then Do xs ys else decide (x < y)
theorem Uy(x y:Int)(xs ys:List Int):Do (x::xs) (y::ys)=if x=y then Do xs ys else decide (x < y):=rfl
theorem Og:Do [] []=false:=rfl
theorem Nh(y:Int)(ys:List Int):Do [] (y::ys)=true:=rfl
theorem Ni(x:Int)(xs:List Int):Do (x::xs) []=false:=rfl
theorem J11(A:Around)(s:Shared)(a:Int)(t:Tok)(c:Int)(u:Tok):∃e,SeqAt.EqAt A s (.int a t) (.int c u) e/\(e=true↔a=c):=
 ⟨(a==c),SeqAt.EqAt.int_int a t c u,by simp⟩
theorem J12(A:Around)(s:Shared)(a:Int)(t:Tok)(c:Int)(u:Tok)(prog:Program)(w:World)(E:Value->Shared->Prop)(Q:Value->Shared->Prop)(h:Q (.bool (decide (a < c))) s):
 wpAny (model prog w) A (richCompare .Lt (.int a t) (.int c u)) Q E s:=
 (PyProof.Rows.lt_int h:wpAny (model prog w) A (compareOp .Lt (.int a t) (.int c u)) Q E s)
section
open PySem.SeqAt
open PySem.AutoSeq1 (wpAny_loadPart')
open PySem.MeetsSeq PySem.MeetsSeq2 PySem.MeetsSeq3
theorem Oh(l b:Addr)(items items2:Array Value)(n n2:Nat)(dd dd2:Option Addr)(sl sl2:Array (Option Value))(ns ms:List Int)(hi:IntsAre items.toList ns)(hj:IntsAre items2.toList ms):
 Meets (Builtin.«tuple.__lt__» ⟨[.ref l,.ref b],[]⟩)
  (λ_ R s=>s.heap.get? l=some {cls:= .type "tuple",dict:=dd,data:= .seq items n,slots:=sl}/\s.heap.get? b=some {cls:= .type "tuple",dict:=dd2,data:= .seq items2 n2,slots:=sl2}/\
   R (.ok (.ret (.bool (Do ns ms)))) s):=
 .of_wp λprog w A R s h=>by
  obtain⟨hp,g,d,tk,os⟩:=s;obtain⟨hl,hb,h⟩:=h;have f2:=AutoSeq1.sub_tuple_tuple
  have z1:items.size=ns.length:=by rw[<- hi.length];simp
  have z2:items2.size=ms.length:=by rw[<- hj.length];simp
  wp_walk using wpAny_loadPart' hl,wpAny_loadPart' hb,wpAny_forIn_list _ (λrest b s'=>b.1=none/\s'=⟨hp,g,d,tk,os⟩/\∃(vs ws:List Value) (ns' ms':List Int),rest=vs.zip ws/\
   IntsAre vs ns'/\IntsAre ws ms'/\ns'.length+items2.size=ms'.length+items.size/\R (.ok (.ret (.bool (Do ns' ms')))) ⟨hp,g,d,tk,os⟩) _
  case turn=>
   rintro⟨y,x⟩ rest b s' ⟨hb',rfl,vs,ws,ns',ms',hz,hvi,hwi,hlen,hR⟩
   cases hvi with
   | nil=>rw[List.zip_nil_left]at hz;cases hz
   | cons a t hvi'=>
    cases hwi with
    | nil=>rw[List.zip_nil_right]at hz;cases hz
    | cons c u hwi'=>
     rw[List.zip_cons_cons]at hz
     injection hz with hyx hrest
     injection hyx with hy hx
     subst hy hx;rw[Uy]at hR;simp only[List.length_cons]at hlen;obtain⟨e,he,hiff⟩:=J11 A.in1 ⟨hp,g,d,tk,os⟩ a t c u;refine Fc (he prog w _ _ ?_)
     cases e with
     | true=>
      rw[if_pos (hiff.mp rfl)]at hR
      wp_walk
      exact⟨rfl,rfl,_,_,_,_,hrest,hvi',hwi',by omega,hR⟩
     | false=>
      rw[if_neg (λq=>absurd (hiff.mpr q) Fp)]at hR;have hri:=J12 A.in1 ⟨hp,g,d,tk,os⟩ a t c u prog w
      wp_walk using hri
      exact⟨_,rfl,by simpa using hR⟩
  case fin=>
   rintro⟨b1,b2⟩ s' ⟨hb',rfl,vs,ws,ns',ms',hz,hvi,hwi,hlen,hR⟩;simp only at hb';subst hb'
   have hv:Do ns' ms'=decide (items.size < items2.size):=by
    cases hvi with
    | nil=>
     cases hwi with
     | nil=>
      simp only[List.length_nil]at hlen;rw[Og];exact(Fs (by omega)).symm
     | cons c u hw=>
      simp only[List.length_nil,List.length_cons]at hlen;rw[Nh];exact(Fj (by omega)).symm
    | cons a t hv=>
     cases hwi with
     | nil=>
      simp only[List.length_nil,List.length_cons]at hlen;rw[Ni];exact(Fs (by omega)).symm
     | cons c u hw=>
      rw[List.zip_cons_cons]at hz;cases hz
   rw[hv]at hR
   wp_walk
   exact⟨_,rfl,by simpa [Builtin.Tuple.tupleCompareSizes] using hR⟩
  case h=>
   exact⟨rfl,rfl,items.toList,items2.toList,ns,ms,rfl,hi,hj,by omega,h⟩
end
section
variable {prog:Program}{w:World}{A:Around}{E:Value->Shared->Prop}{s:Shared}
theorem Uz{l b:Addr}{items items2:Array Value}{ns ms:List Int}{Q:Value->Shared->Prop}(hl:IsTup s.heap l items)(hb:IsTup s.heap b items2)(hi:IntsAre items.toList ns)(hj:IntsAre items2.toList ms)
 (hu:A.units < cLine) (h:Q (.bool (Do ns ms)) s):wpAny (model prog w) A (compareOp .Lt (.ref l) (.ref b)) Q E s:=by
 obtain⟨⟨cls,dd,data,sl⟩,ho,hc,n,hd⟩:=id hl;obtain⟨⟨cls2,dd2,data2,sl2⟩,ho2,hc2,n2,hd2⟩:=id hb;simp only at hc hd hc2 hd2;subst hc hd hc2 hd2
 exact richCompare_meets_room (op:= .Lt) ⟨_,ho,rfl⟩ ⟨_,ho2,rfl⟩ PySem.F.slot_tuple_lt PySem.F.entry_tuple_lt (PySem.F.args_tuple_lt_2 _ _) (Oh l b items items2 n n2 dd dd2 sl sl2 ns ms hi hj)
  ⟨ho,ho2,show Value.bool (Do ns ms)≠Value.notImplemented/\Q (.bool (Do ns ms)) s from ⟨(λx=>nomatch x),h⟩⟩ hu
def sIx(n d:Nat):Option Int->Nat
 | none=>d
 | some v=>if v < 0 then (v+(n:Int)).toNat else min v.toNat n
theorem J13(n d:Nat):sIx n d none=d:=rfl
theorem Vv(n d k:Nat):sIx n d (some (k:Int))=min k n:=by
 show (if (k:Int) < 0 then ((k:Int)+(n:Int)).toNat else min (k:Int).toNat n)=min k n;rw[if_neg (by omega),Int.toNat_natCast]
end
end HT
namespace L2
abbrev TO:=St->Hp->(Option Int->Hp->Prop)->Prop
def PO(X:Cx)(e:Option Expr)(t:TO):Prop:=
 ∀(pins:List (Addr×Obj)) (s:Shared) (σ:St) (H:Hp) (Q:Option Int->Hp->Prop),Inv X pins σ H s->t σ H Q->
   wpAny (model X.prog X.w) X.A (evalPart e X.env) (λu s'=>∃o H',Inv X pins σ H' s'/\IsPart u o/\Q o H') X.xe s
def Vw:TO:=λ_ H Q=>Q none H
def J71(t:TE):TO:=λσ H Q=>t σ H λx H1=>∃i,x= .int i/\Q (some i) H1
theorem Nj{ns:List Int}:∀{us:List Value},Ay (ns.map V.int) us->IntsAre us ns:=by
 induction ns with
 | nil=>intro us r;rw[List.map_nil]at r;cases r;exact .nil
 | cons n ns ih=>
  intro us r;rw[List.map_cons]at r
  cases r with
  | cons r1 r2=>
   obtain⟨t,e⟩:=r1;subst e;exact .cons n t (ih r2)
section
variable {X:Cx}{e:Expr}{te:TE}{lo hi:Option Expr}{tl th:TO}{pos p2:Pos}
theorem G8:PO X none Vw:=by
 intro pins s σ H Q I h;rw[evalPart_none];exact Fu ⟨none,H,I,.none,h⟩
theorem E2(h:PE X e te):PO X (some e) (J71 te):=by
 intro pins s σ H Q I hw;rw[evalPart_some];refine thn (h pins s σ H _ I hw) λu s1 hq_=>?_;obtain⟨x,H1,I1,r1,q1⟩:=hq_;obtain⟨i,rfl,q⟩:=q1;obtain⟨t,rfl⟩:=r1;exact⟨some i,H1,I1,.int i t,q⟩
def SlR(X:Cx)(r:V->Option Int->Option Int->Hp->VK->Prop):Prop:=
 ∀(pins:List (Addr×Obj)) (s:Shared) (σ:St) (H:Hp) (x:V) (v vl vu:Value) (lo hi:Option Int) (sl:Addr) (Q:VK),Inv X pins σ H s->Au x v->s.heap.IsSliceOf sl vl vu .none->IsPart vl lo->IsPart vu hi->r x lo hi H Q->
   ∃T id,typeLookup (.type T) "__getitem__"=pure (some (.builtin id))/\s.TypeIs v T/\wpAny (model X.prog X.w) X.A (getItem v (.ref sl)) (EP X pins σ Q) X.xe s
def tSl(r:V->Option Int->Option Int->Hp->VK->Prop)(te:TE)(tl th:TO):TE:=λσ H Q=>te σ H λx H1=>tl σ H1 λl H2=>th σ H2 λu H3=>r x l u H3 Q
theorem Dq{r:V->Option Int->Option Int->Hp->VK->Prop}(hr:SlR X r)(he:PE X e te)(hl:PO X lo tl)(hu:PO X hi th):PE X (.Subscript e (.Slice lo hi none p2) pos) (tSl r te tl th):=by
 intro pins s σ H Q I h;refine Subscript_ (thn (he pins s σ H _ I h) λv s1 hq_=>?_);obtain⟨x,H1,I1,r1,q1⟩:=hq_;refine wpAny_Slice (thn (hl pins s1 σ H1 _ I1 q1) λvl s2 ⟨l,H2,I2,pl,q2⟩=>thn (hu pins s2 σ H2 _ I2 q2) λvu s3 hq_=>?_);obtain⟨u,H3,I3,pu,q3⟩:=hq_;rw[evalPart_none];refine Fu ?_;have I4:Inv X pins σ H3 {s3 with heap:=s3.heap.push {cls:= .type "slice",data:= .fields #[vl,vu,.none]}}:=I3.kept (t':=s3.toks) λb ob q=>Fe _ q;obtain⟨T,id,hT,ht,hg⟩:=hr pins {s3 with heap:=s3.heap.push {cls:= .type "slice",data:= .fields #[vl,vu,.none]}} σ H3 x v vl vu l u s3.heap.objs.size Q I4 r1 (Heap.IsSliceOf.new ..) pl pu q3;show wpAny (model X.prog X.w) X.A (subscriptTail e (.Slice lo hi none p2) v (.ref s3.heap.objs.size)) (EP X pins σ Q) X.xe {s3 with heap:=s3.heap.push {cls:= .type "slice",data:= .fields #[vl,vu,.none]}};exact tail_any (ops:=[.ref s3.heap.objs.size,v]) ht hT hg (by with_unfolding_all rfl)
def Nk(xs:List V)(lo hi:Option Int):List V:=(xs.drop (HT.sIx xs.length 0 lo)).take (HT.sIx xs.length xs.length hi - HT.sIx xs.length 0 lo)
theorem S7(xs:List V)(lo hi:Option Int):(Nk xs lo hi).length<=xs.length:=by
 unfold Nk;rw[FF,Hc];omega
end
def ixN(n:Nat)(i:Int):Option Nat:=if 0<=i then (if i < n then some i.toNat else none) else if -(n:Int)<=i then some (i+n).toNat else none
def atI{α:Type}(xs:List α)(i:Int):Option α:=(ixN xs.length i).bind λj=>xs[j]?
theorem J57{n:Nat}{i:Int}{j:Nat}(h:ixN n i=some j):seqIndex? i n=some j/\j < n/\-(n:Int)<=i/\i < n:=by
 unfold ixN at h
 by_cases h0:0<=i
 . rw[if_pos h0]at h
   by_cases h1:i < n
   . rw[if_pos h1]at h
     have e:i.toNat=j:=FG h;exact⟨by rw[seqIndex_of h0 h1,e],by omega,by omega,h1⟩
   . rw[if_neg h1]at h;cases h
 . rw[if_neg h0]at h
   by_cases h1:-(n:Int)<=i
   . rw[if_pos h1]at h
     have e:(i+n).toNat=j:=FG h;exact⟨by rw[seqIndex_neg (by omega) h1,e],by omega,h1,by omega⟩
   . rw[if_neg h1]at h;cases h
theorem Q1{xs:List α}{i:Int}{v:α}(h:atI xs i=some v):∃j,seqIndex? i xs.length=some j/\xs[j]?=some v/\j < xs.length/\-(xs.length:Int)<=i/\i < xs.length:=by
 unfold atI at h
 cases e:ixN xs.length i with
 | none=>rw[e]at h;cases h
 | some j=>
  rw[e]at h;obtain⟨h1,h2,h3,h4⟩:=J57 e;exact⟨j,h1,h,h2,h3,h4⟩
theorem Ce{xs:List α}{j:Nat}{v:α}(h:xs[j]?=some v):atI xs (j:Int)=some v:=by
 have hj:j < xs.length:=(Fh.mp h).1
 have e:ixN xs.length (j:Int)=some j:=by
  unfold ixN;rw[if_pos (by omega),if_pos (by omega)];simp
 unfold atI;rw[e];exact h
def J58(b:Expr):Prop:=∀o i,subscripted b false o i=operate [o,i] (getItem o i)
def IxR(X:Cx)(r:R2):Prop:=
 ∀(value slice:Expr) (pins:List (Addr×Obj)) (s:Shared) (σ:St) (H:Hp) (x y:V) (v u:Value) (Q:VK),Inv X pins σ H s->Au x v->Au y u->r x y H Q->
   subscripted slice false v u=operate [v,u] (getItem v u)->wpAny (model X.prog X.w) X.A (subscriptTail value slice v u) (EP X pins σ Q) X.xe s
def MtR(X:Cx)(id:String)(r:V->List V->Hp->VK->Prop):Prop:=
 ∀(pins:List (Addr×Obj)) (s:Shared) (σ:St) (H:Hp) (x:V) (xs:List V) (v:Value) (us:List Value) (Q:VK),Inv X pins σ H s->Au x v->Ay xs us->r x xs H Q->
   wpAny (model X.prog X.w) X.A (call (.builtin id) (v::us)) (EP X pins σ Q) X.xe s
section
variable {X:Cx}{a b:Expr}{ta tb:TE}{pos:Pos}
theorem Cf{r:R2}(hr:IxR X r)(ha:PE X a ta)(hb:PE X b tb)(hs:J58 b):PE X (.Subscript a b pos) (tOp r ta tb):=by
 intro pins s σ H Q I h;exact Subscript_ (J8m ha hb I h λv u s2 x y H2 I2 rx ry q=>hr a b pins s2 σ H2 x y v u Q I2 rx ry q (hs _ _))
def J8r(K:PySem.W.Frag):R2:=λx y H Q=>∃p xs i v,x= .ref p/\y= .int i/\SqL K H p xs/\atI xs i=some v/\Q v H
def Jan(K:PySem.W.Frag):R2:=λx y H Q=>∃p xs i v,x= .ref p/\y= .int i/\SqT K H p xs/\atI xs i=some v/\Q v H
def Jao:R2:=λx y H Q=>∃z i c,x= .str z/\y= .int i/\z.length<=sizeLine/\atI z.cps.toList i=some c/\Q (.str ⟨#[c]⟩) H
theorem By:IxR X (J8r X.K):=by
 intro value slice pins s σ H x y v u Q I rx ry h hs;obtain⟨p,xs,i,z,rfl,rfl,hq,he,q⟩:=h;cases rx;obtain⟨t,rfl⟩:=ry;obtain⟨its,r,pl,hz⟩:=I.list hq;obtain⟨j,h1,h2,h3,h4,h5⟩:=Q1 he;obtain⟨w,ew,rw'⟩:=r.get h2;have hl:=r.length;have hn:=Nd
 have fin:EP X pins σ Q w s:=⟨z,H,I,rw',q⟩
 by_cases h0:0<=i
 . have hj:i.toNat=j:=by
    rw[seqIndex_of h0 h5]at h1;exact FG h1
   exact item_listR pl.isList h0 (by omega) (by rw[hj];simpa using ew) fin hs
 . have hj:(i+(its.toArray.size:Int)).toNat=j:=by
    rw[seqIndex_neg (by omega) h4]at h1;rw[Fi,<- hl];exact FG h1
   exact subscriptTail_builtinR (x:=w) pl.isList.typeIs slot_list_getitem.lookup
    (wpAny_getItem_list_neg (Q:=λr s'=>r=w/\EP X pins σ Q r s') pl.isList (by omega) (by rw[Fi] <;> omega) (by omega) (by rw[hj];simpa using ew) ⟨rfl,fin⟩) hs
theorem V0:IxR X (Jan X.K):=by
 intro value slice pins s σ H x y v u Q I rx ry h hs;obtain⟨p,xs,i,z,rfl,rfl,hq,he,q⟩:=h;cases rx;obtain⟨t,rfl⟩:=ry;obtain⟨its,r,pl,hz⟩:=I.tuple hq;obtain⟨j,h1,h2,h3,h4,h5⟩:=Q1 he;obtain⟨w,ew,rw'⟩:=r.get h2;have hl:=r.length;have hn:=Nd
 have fin:EP X pins σ Q w s:=⟨z,H,I,rw',q⟩
 exact subscriptTail_builtinR (x:=w) pl.typeIs slot_tuple_getitem.lookup
  (getItem_tuple (j:=j) (Q:=λr s'=>r=w/\EP X pins σ Q r s') pl (by omega) (by omega) (by rw[Fi,<- hl];exact h1) (by simpa using ew) ⟨rfl,fin⟩) hs
theorem Nl:IxR X Jao:=by
 intro value slice pins s σ H x y v u Q I rx ry h hs;obtain⟨z,i,c,rfl,rfl,hz,he,q⟩:=h;obtain⟨t,rfl⟩:=rx;obtain⟨t',rfl⟩:=ry;obtain⟨j,h1,h2,h3,h4,h5⟩:=Q1 he
 have hl:z.cps.toList.length=z.length:=by simp[Str.length]
 rw[hl]at h1 h4 h5;have hn:=Nd
 exact tail_any (typeIs_str s z t) slot_str_getitem.lookup (getItem_str (c:=c) (by
  have e1:decide (i < -(2 ^ 63:Int))=false:=Fs (by omega);have e2:decide (i >= 2 ^ 63)=false:=Fs (by omega)
  rw[e1,e2,Bool.or_false]) (by rw[h1];simpa using h2) ⟨.str ⟨#[c]⟩,H,I.tok _,⟨_,rfl⟩,q⟩) hs
def Jap:V->V->V->Hp->(Hp->Prop)->Prop:=λo i v H Q=>∃p xs k j,o= .ref p/\i= .int k/\H p=some (.lst xs)/\ixN xs.length k=some j/\Q (upd H p (.lst (xs.set j v)))
theorem Q2(lo hi:Option Int)(n:Nat):(sliceBounds lo hi none n).1=((HT.sIx n 0 lo:Nat):Int)/\(sliceBounds lo hi none n).2.1=((HT.sIx n n hi:Nat):Int)/\(sliceBounds lo hi none n).2.2=1:=by
 refine⟨?_,?_,rfl⟩
 . cases lo with
   | none=>simp[sliceBounds,HT.sIx]
   | some i=>
    simp only[sliceBounds,HT.sIx,RO,show (1:Int) > 0 by decide,if_true]
    by_cases h:i < 0
    . simp only[h,if_true] <;> omega
    . simp only[h,if_false] <;> omega
 . cases hi with
   | none=>simp[sliceBounds,HT.sIx]
   | some i=>
    simp only[sliceBounds,HT.sIx,RO,show (1:Int) > 0 by decide,if_true]
    by_cases h:i < 0
    . simp only[h,if_true] <;> omega
    . simp only[h,if_false] <;> omega
theorem Oi(its:List Value)(lo hi:Option Int):slicePick its.toArray lo hi none=((its.drop (HT.sIx its.length 0 lo)).take (HT.sIx its.length its.length hi - HT.sIx its.length 0 lo)).toArray:=by
 obtain⟨h1,h2,h3⟩:=Q2 lo hi its.toArray.size;unfold slicePick;rw[h1,h2,h3]
 simp only[sliceRange_one,pick_run,Fi] <;> rfl
def Jaq(K:PySem.W.Frag):V->Option Int->Option Int->Hp->VK->Prop:=λx lo hi H Q=>∃a xs,x= .ref a/\SqL K H a xs/\∀p,H p=none->Q (.ref p) (upd H p (.lst (Nk xs lo hi)))
theorem Q3:SlR X (Jaq X.K):=by
 intro pins s σ H x v vl vu lo hi sl Q I rx hs pl pu h;obtain⟨a,xs,rfl,hx,q⟩:=h;cases rx;obtain⟨its,r,ht,hz⟩:=I.list hx;have hlen:=r.length;refine⟨"list",_,slot_list_getitem.lookup,ht.isList.typeIs,?_⟩
 refine wpAny_getItem_list_slice ht.isList hs pl pu .none (by simp) ?_ (by rw[Fi] <;> omega)
 rw[Oi,<- hlen];refine⟨.ref s.heap.objs.size,_,I.laid (t':=s.toks) (o:= .lst (Nk xs lo hi)) (λb ob q=>Fe _ q) (Fg _) ?_,rfl,q _ (I.hok.fresh (Fg _))⟩;exact⟨FE (S7 xs lo hi) hz,_,0,(r.drop (HT.sIx xs.length 0 lo)).take (HT.sIx xs.length xs.length hi - HT.sIx xs.length 0 lo),Fy _ rfl⟩
def Ca:V->Bool
 | .non=>true
 | .bl _=>true
 | .int _=>true
 | .str _=>true
 | _=>false
def eqV:V->V->Bool
 | .non,.non=>true
 | .bl a,.bl b=>a==b
 | .bl a,.int b=>(if a then 1 else 0)==b
 | .int a,.bl b=>a==(if b then 1 else 0)
 | .int a,.int b=>a==b
 | .str a,.str b=>a==b
 | _,_=>false
theorem V1{A:Around}{s:Shared}{y x:V}{v:Value}(ry:Au y u)(rx:Au x v)(fy:Ca y=true)(fx:Ca x=true):SeqAt.EqAt A s u v (eqV y x):=by
 cases y with
 | non=>
  cases ry
  cases x with
  | non=>cases rx;exact SeqAt.EqAt.same _
  | bl b=>cases rx;exact SeqAt.EqAt.none_bool b
  | int b=>obtain⟨t,rfl⟩:=rx;exact SeqAt.EqAt.none_int b t
  | str b=>obtain⟨t,rfl⟩:=rx;exact SeqAt.EqAt.none_str b t
  | _=>exact absurd (show false=true from fx) Fp
 | bl a=>
  cases ry
  cases x with
  | non=>cases rx;exact SeqAt.EqAt.bool_none a
  | bl b=>cases rx;exact SeqAt.EqAt.bool_bool a b
  | int b=>obtain⟨t,rfl⟩:=rx;exact SeqAt.EqAt.bool_int a b t
  | str b=>obtain⟨t,rfl⟩:=rx;exact SeqAt.EqAt.bool_str a b t
  | _=>exact absurd (show false=true from fx) Fp
 | int a=>
  obtain⟨t',rfl⟩:=ry
  cases x with
  | non=>cases rx;exact SeqAt.EqAt.int_none a t'
  | bl b=>cases rx;exact SeqAt.EqAt.int_bool a t' b
  | int b=>obtain⟨t,rfl⟩:=rx;exact SeqAt.EqAt.int_int a t' b t
  | str b=>obtain⟨t,rfl⟩:=rx;exact SeqAt.EqAt.int_str a t' b t
  | _=>exact absurd (show false=true from fx) Fp
 | str a=>
  obtain⟨t',rfl⟩:=ry
  cases x with
  | non=>cases rx;exact SeqAt.EqAt.str_none a t'
  | bl b=>cases rx;exact SeqAt.EqAt.str_bool a t' b
  | int b=>obtain⟨t,rfl⟩:=rx;exact SeqAt.EqAt.str_int a t' b t
  | str b=>obtain⟨t,rfl⟩:=rx;exact SeqAt.EqAt.str_str a t' b t
  | _=>exact absurd (show false=true from fx) Fp
 | _=>exact absurd (show false=true from fy) Fp
def eqU(x:V)(u:Value):Bool:=match u with
 | .none=>eqV .non x
 | .bool b=>eqV (.bl b) x
 | .int i _=>eqV (.int i) x
 | .str z _=>eqV (.str z) x
 | _=>false
theorem J14{x y:V}(r:Au y u)(f:Ca y=true):eqU x u=eqV y x:=by
 cases y with
 | non=>cases r;rfl
 | bl b=>cases r;rfl
 | int i=>obtain⟨t,rfl⟩:=r;rfl
 | str z=>obtain⟨t,rfl⟩:=r;rfl
 | _=>exact absurd (show false=true from f) Fp
theorem Q4{x:V}:∀{xs:List V}{us:List Value},Ay xs us->xs.all Ca=true->us.any (eqU x)=xs.any λy=>eqV y x
 | _,_,.nil,_=>rfl
 | y::xs,u::us,.cons r t,f=>by
  rw[List.all_cons,Hs]at f;rw[R5,R5,J14 r f.1,Q4 t f.2]
theorem Nm{A:Around}{s:Shared}{x:V}{v:Value}(rx:Au x v)(fx:Ca x=true):∀{xs:List V}{us:List Value},Ay xs us->xs.all Ca=true->∀u∈us,SeqAt.EqAt A s u v (eqU x u)
 | _,_,.nil,_=>λu hu=>by cases hu
 | y::xs,u::us,.cons r t,f=>λu' hu=>by
  rw[List.all_cons,Hs]at f;rcases Ft.mp hu with rfl | hu
  . rw[J14 r f.1];exact V1 r rx f.1 fx
  . exact Nm rx fx t f.2 u' hu
def inV(x:V)(xs:List V):Bool:=xs.any λy=>eqV y x
def rIn(K:PySem.W.Frag)(neg:Bool):R2:=λx y H Q=>∃p xs,y= .ref p/\(SqL K H p xs\/SqT K H p xs)/\Ca x=true/\xs.all Ca=true/\Q (.bl (if neg then !inV x xs else inV x xs)) H
theorem Dj:OpR X (compareOp .In) (rIn X.K false):=by
 intro pins s σ H x y v u Q I rx ry h;obtain⟨p,xs,rfl,hq,fx,fs,q⟩:=h;cases ry;rcases hq with hq | hq
 . obtain⟨its,r,pl,hz⟩:=I.list hq
   refine SeqAt.in_listAt (eqU x) pl.isList (λw hw=>Nm rx fx r fs w (by simpa using hw)) ⟨.bl _,H,I,rfl,?_⟩;rw[show its.toArray.any (eqU x)=its.any (eqU x) by simp,Q4 r fs];exact q
 . obtain⟨its,r,pl,hz⟩:=I.tuple hq
   refine SeqAt.in_tupleAt (eqU x) pl (λw hw=>Nm rx fx r fs w (by simpa using hw)) ⟨.bl _,H,I,rfl,?_⟩;rw[show its.toArray.any (eqU x)=its.any (eqU x) by simp,Q4 r fs];exact q
theorem B6:Ep X (.builtin "len") (λxs H Q=>∃p ys,xs=[.ref p]/\(SqL X.K H p ys\/SqT X.K H p ys)/\Q (.int ys.length) H):=by
 intro pins s σ H xs us Q I r h;obtain⟨p,ys,rfl,hq,q⟩:=h;obtain⟨u,rfl,rx⟩:=Ma r;cases rx;have hn:=Nd;rcases hq with hq | hq
 . obtain⟨its,r',pl,hz⟩:=I.list hq
   have hlen:=r'.length
   exact Calls.call_len_list pl.isList (by simp only[Fi] <;> omega) ⟨.int ys.length,H,I.tok _,⟨s.toks+1,by rw[Fi,hlen]⟩,q⟩
 . obtain⟨its,r',pl,hz⟩:=I.tuple hq
   have hlen:=r'.length
   exact len_tuple pl (by simp only[Fi] <;> omega) ⟨.int ys.length,H,I.tok _,⟨s.toks+1,by rw[Fi,hlen]⟩,q⟩
theorem Ks:Ep X (.builtin "len") (λxs H Q=>∃z,xs=[.str z]/\z.length<=sizeLine/\Q (.int z.length) H):=by
 intro pins s σ H xs us Q I r h;obtain⟨z,rfl,hz,q⟩:=h;obtain⟨u,rfl,t,rfl⟩:=Ma r;have hn:=Nd;exact len_str (by omega) ⟨.int z.length,H,I.tok _,⟨_,rfl⟩,q⟩
theorem Bp:Ep X (.type "list") (λxs H Q=>∃p ys,xs=[.ref p]/\(SqL X.K H p ys\/SqT X.K H p ys)/\∀l,H l=none->Q (.ref l) (upd H l (.lst ys))):=by
 intro pins s σ H xs us Q I r h;obtain⟨p,ys,rfl,hq,q⟩:=h;obtain⟨u,rfl,rx⟩:=Ma r;cases rx
 have fin:∀(its:List Value),Ay ys its->ys.length<=sizeLine->∀(h':Heap) (c':Nat),(∀b o',s.heap.get? b=some o'->h'.get? b=some o')->
  h'.get? s.heap.objs.size=some {cls:= .type "list",dict:=none,data:= .seq its.toArray c',slots:=#[]}->EP X pins σ Q (.ref s.heap.objs.size) {s with heap:=h'}:=λits r' hz h' c' kp e=>
  ⟨.ref s.heap.objs.size,_,I.laid (t':=s.toks) kp (Fg _) (show Bk X.prog X.w _ h' _ (.lst ys) from ⟨hz,its,c',r',e⟩),rfl,q _ (I.hok.fresh (Fg _))⟩
 rcases hq with hq | hq
 . obtain⟨its,r',pl,hz⟩:=I.list hq
   have hlen:=r'.length;obtain⟨o,ho,hc,n,hd⟩:=pl.isList
   exact call_list_seq p (.inl rfl) ho hc hd (λh' c' kp e=>fin its r' hz h' c' kp e) (by simp only[Fi] <;> omega)
 . obtain⟨its,r',pl,hz⟩:=I.tuple hq
   have hlen:=r'.length;obtain⟨o,ho,hc,n,hd⟩:=pl
   exact call_list_seq p (.inr rfl) ho hc hd (λh' c' kp e=>fin its r' hz h' c' kp e) (by simp only[Fi] <;> omega)
def tyV(K:PySem.W.Frag)(T:String)(x:V)(H:Hp):Prop:=match x with
 | .str _=>T="str"
 | .int _=>T="int"
 | .ref p=>(T="list"/\∃xs,SqL K H p xs)\/(T="tuple"/\∃o,K.lookup p=some o/\o.cls= .type "tuple"/\o.dict=none)\/
  (T="dict"/\((∃kvs,H p=some (.dK kvs))\/∃kvs,H p=some (.dT kvs)))\/(T="set"/\∃S n,H p=some (.set S n))
 | _=>False
theorem J15{H:Hp}{s:Shared}{T:String}{x:V}{v:Value}(I:Inv X pins σ H s)(r:Au x v)(ty:tyV X.K T x H):
 s.TypeIs v T/\∀a,v= .ref a->∃ob,s.heap.get? a=some ob/\ob.dict=none:=by
 cases x with
 | str z=>
  obtain⟨t,rfl⟩:=r;cases (show T="str" from ty);exact⟨typeIs_str s z t,λ_ e=>nomatch e⟩
 | int i=>
  obtain⟨t,rfl⟩:=r;cases (show T="int" from ty);exact⟨typeIs_int s i t,λ_ e=>nomatch e⟩
 | ref p=>
  cases r;rcases ty with ⟨rfl,xs,hq⟩ | ⟨rfl,o,hk,hc,hd⟩ | ⟨rfl,hk⟩ | ⟨rfl,S,n,hk⟩
  . obtain⟨its,_,pl,_⟩:=I.list hq
    refine⟨pl.isList.typeIs,λa e=>?_⟩;cases e;obtain⟨o,n,e,c,hd,_⟩:=pl;exact⟨o,e,hd⟩
  . refine⟨⟨o,I.kIn p o hk,hc⟩,λa e=>?_⟩
    cases e;exact⟨o,I.kIn _ o hk,hd⟩
  . have z:∃o,s.heap.get? p=some o/\o.ExactDict:=by
     rcases hk with ⟨kvs,hk⟩ | ⟨kvs,hk⟩
     . obtain⟨_,_,_,_,o,_,_,e,ex,_⟩:=I.hok p _ hk
       exact⟨o,e,ex⟩
     . obtain⟨_,_,_,_,o,_,_,e,ex,_⟩:=I.hok p _ hk
       exact⟨o,e,ex⟩
    obtain⟨o,e,ex⟩:=z;refine⟨⟨o,e,ex.1⟩,λa e2=>?_⟩;cases e2;exact⟨o,e,ex.2.1⟩
  . obtain⟨o,_,_,_,e,ex,_⟩:=I.hok p _ hk
    refine⟨⟨o,e,ex.1⟩,λa e2=>?_⟩;cases e2;exact⟨o,e,ex.2.1⟩
 | _=>exact False.elim ty
def Jar(K:PySem.W.Frag)(T:String)(r:V->List V->Hp->VK->Prop)(to:TE):TE:=λσ H Q=>to σ H λx H1=>tyV K T x H1/\r x [] H1 Q
def tBM(K:PySem.W.Frag)(T:String)(r:V->List V->Hp->VK->Prop)(to:TE)(t:TA):TE:=λσ H Q=>to σ H λx H1=>tyV K T x H1/\t σ H1 λxs H2=>r x xs H2 Q
variable {o e:Expr}{es:List Expr}{to:TE}{t:TA}{name:Str}{apos cpos:Pos}{T id:String}{r:V->List V->Hp->VK->Prop}
theorem J8s(pa:PlainAttrs T)(slot:Slot T name id)(hty:typeOf (.builtin id)=pure (.type "method_descriptor"))(hm:MtR X id r)(ho:PE X o to)
 (hbase:attributeBase o name X.env (eval o X.env)=eval o X.env:=by rfl) (hline:(apos.endLine==cpos.line)=true:=by rfl):PE X (.Call (.Attribute o name apos) [] [] cpos) (Jar X.K T r to):=by
 intro pins s σ H Q I h;refine wpAny_Call_method0_late hbase hline (thn (ho pins s σ H _ I h) λv s1 hq_=>?_);obtain⟨x,H1,I1,r1,ty,q1⟩:=hq_;obtain⟨h1,h2⟩:=J15 I1 r1 ty;exact⟨T,id,pa,slot,hty,h1,h2,Calls.callWith_builtin rfl (PySem.evalArgs_none (hm pins s1 σ H1 x [] v [] Q I1 r1 .nil q1))⟩
theorem Dx(pa:PlainAttrs T)(slot:Slot T name id)(hty:typeOf (.builtin id)=pure (.type "method_descriptor"))(hm:MtR X id r)(ho:PE X o to)(ha:PA X (e::es) t)
 (hbase:attributeBase o name X.env (eval o X.env)=eval o X.env:=by rfl)
 (hfew:((backTo cpos (starEach (e::es) X.env)).all (λx=>!x.1) && (backToKw cpos (keywordEach [] X.env)).all (λx=>x.1.isSome)
  && decide ((e::es).length+([]:List Keyword).length+(if ([]:List Keyword).isEmpty then 0 else 1) < 30))=true:=by rfl)
 (hline:(apos.endLine==cpos.line)=true:=by rfl) (hs:starEach (e::es) X.env=(false,eval e X.env)::starEach es X.env:=by rfl) (hplain:(backTo cpos (starEach es X.env)).any (·.1)=false:=by rfl):
 PE X (.Call (.Attribute o name apos) (e::es) [] cpos) (tBM X.K T r to t):=by
 intro pins s σ H Q I h;refine wpAny_Call_method_late hbase hfew hline rfl (thn (ho pins s σ H _ I h) λv s1 hq_=>?_);obtain⟨x,H1,I1,r1,ty,q1⟩:=hq_;obtain⟨h1,h2⟩:=J15 I1 r1 ty;refine⟨T,id,pa,slot,hty,h1,h2,?_⟩;have hA:=ha cpos pins s1 σ H1 _ I1 q1;rw[hs]at hA ⊢
 refine Calls.callWith_builtin (by show (false || (backTo cpos (starEach es X.env)).any (·.1))=false;rw[hplain] <;> rfl) (Calls.evalArgs_plain ?_)
 exact thn hA λus s2 ⟨vs,H2,I2,r2,q2⟩=>hm pins s2 σ H2 x vs v us Q I2 r1 r2 q2
end
def MtM(X:Cx)(id:String)(r:V->List V->Hp->VK->Prop):Prop:=
 ∀(pins:List (Addr×Obj)) (s:Shared) (σ:St) (H:Hp) (x:V) (xs:List V) (v:Value) (us:List Value) (Q:VK),Inv X pins σ H s->Au x v->Ay xs us->r x xs H Q->
   wpAny (model X.prog X.w) X.A (call (.builtin id) (v::us)) (EP X pins σ Q) X.xe s
theorem Ay.one:∀{x:V}{us:List Value},Ay [x] us->∃u,us=[u]/\Au x u
 | _,_,.cons r .nil=>⟨_,rfl,r⟩
theorem Ay.zero:∀{us:List Value},Ay [] us->us=[]
 | _,.nil=>rfl
theorem Ay.eraseIdx:∀{xs:List V}{us:List Value} (i:Nat),Ay xs us->Ay (xs.eraseIdx i) (us.eraseIdx i)
 | _,_,_,.nil=> .nil
 | _,_,0,.cons _ t=>t
 | _,_,i+1,.cons r t=> .cons r (Ay.eraseIdx i t)
theorem Ay.rep(h:Ay xs us):∀k:Nat,Ay (List.replicate k xs).flatten (List.replicate k us).flatten
 | 0=> .nil
 | k+1=>by
  rw[HK,HK,Rf,Rf];exact Ay.append h (Ay.rep h k)
theorem Oy:∀(l:List α) (i:Nat),(l.eraseIdx i).length<=l.length
 | [],_=>Fg _
 | _::_,0=>HF _
 | _::r,i+1=>Nat.succ_le_succ (Oy r i)
theorem Oz(its:List Value):∀(k:Nat) (acc:List Value),
 List.foldl (λx1 x2=>x1++x2) acc.toArray (List.replicate k its.toArray)=(acc++(List.replicate k its).flatten).toArray
 | 0,acc=>by simp
 | k+1,acc=>by
  have e:acc.toArray++its.toArray=(acc++its).toArray:=by simp
  have e2:(acc++its)++(List.replicate k its).flatten=acc++(List.replicate (k+1) its).flatten:=by
   rw[HK,Rf,Hg]
  rw[<- e2,<- Oz its k (acc++its),<- e,HK,List.foldl_cons]
section
variable {X:Cx}{pins:List (Addr×Obj)}{σ:St}{H:Hp}{s:Shared}{l b:Addr}{xs ys zs:List V}
theorem Inv.lset{its its':List Value}{n:Nat}{f:Array Value->Array Value}(I:Inv X pins σ H s)(hH:H l=some (.lst xs))
 (e:s.heap.get? l=some {cls:= .type "list",data:= .seq its.toArray n}) (hf:f its.toArray=its'.toArray) (hv:Ay ys its') (hz:ys.length<=sizeLine):
 Inv X pins σ (upd H l (.lst ys)) {s with heap:=s.heap.update l (Obj.mapSeq f),toks:=t'}:=by
 have q:=PySem.IsL.update e f;rw[hf]at q;refine I.write (x:=l) (e:=l) (by rw[hH];exact trivial) (.inl rfl) (λb' u hb hu=>(Hy s.heap (Obj.mapSeq f) (Ne.symm hb)).trans hu) ⟨_,q⟩ ?_;exact⟨hz,its',_,hv,q⟩
theorem Inv.lnew{its:List Value}(I:Inv X pins σ H s)(hv:Ay ys its)(hz:ys.length<=sizeLine):
 Inv X pins σ (upd H s.heap.objs.size (.lst ys)) {s with heap:=s.heap.push {cls:= .type "list",data:= .seq its.toArray},toks:=t'}:=
 I.laid (λ_ _ q=>Fe _ q) (Fg _) ⟨hz,its,0,hv,Fy _ rfl⟩
theorem Inv.fresh(I:Inv X pins σ H s):H s.heap.objs.size=none:=I.hok.fresh (Fg _)
theorem Inv.lstM(I:Inv X pins σ H s)(hH:H l=some (.lst xs)):xs.length<=sizeLine/\∃(its:List Value) (n:Nat),Ay xs its/\xs.length=its.length/\s.heap.get? l=some {cls:= .type "list",data:= .seq its.toArray n}:=by
 obtain⟨z,its,n,r,e⟩:=I.hok l _ hH;exact⟨z,its,n,r,r.length,e⟩
theorem J16{n:Nat}(h:n<=sizeLine):Builtin.List.listTooLong n=false:=by
 unfold Builtin.List.listTooLong;exact Fs (by omega)
end
section
variable {X:Cx}
def J59:V->List V->Hp->VK->Prop:=λx vs H Q=>∃l xs y,x= .ref l/\vs=[y]/\H l=some (.lst xs)/\xs.length < sizeLine/\Q .non (upd H l (.lst (xs++[y])))
theorem Cs:MtM X "list.append" J59:=by
 intro pins s σ H x vs v us Q I rx rv h;obtain⟨l,xs,y,rfl,rfl,hH,hz,q⟩:=h;cases rx;obtain⟨u,rfl,ru⟩:=rv.one;obtain⟨z,its,n,r,hl,e⟩:=I.lstM hH;refine Rm F.slot_list_append ⟨_,e,rfl⟩ F.entry_list_append (F.args_list_append_2 _ _) (PySem.list_append l its.toArray n u (by rw[Fi];omega)) ⟨e,?_⟩;refine⟨.non,_,I.lset (its':=its++[u]) hH e (by simp) (r.append (.cons ru .nil)) ?_,rfl,q⟩;rw[Fn,List.length_singleton];omega
def J17:V->List V->Hp->VK->Prop:=λx vs H Q=>∃l xs i k y,x= .ref l/\vs=[.int i]/\H l=some (.lst xs)/\-(2 ^ 63)<=i/\i < 2 ^ 63/\seqIndex? i xs.length=some k/\xs[k]?=some y/\Q y (upd H l (.lst (xs.eraseIdx k)))
theorem S8:MtM X "list.pop" J17:=by
 intro pins s σ H x vs v us Q I rx rv h;obtain⟨l,xs,i,k,y,rfl,rfl,hH,h1,h2,hk,hy,q⟩:=h;cases rx;obtain⟨u,rfl,ru⟩:=rv.one;obtain⟨t,rfl⟩:=ru;obtain⟨z,its,n,r,hl,e⟩:=I.lstM hH;obtain⟨w,hw,rw'⟩:=r.get hy
 refine Rm F.slot_list_pop ⟨_,e,rfl⟩ F.entry_list_pop (F.args_list_pop_2 _ _)
  (MeetsSeq.list_pop_at l its.toArray n i t k w (fitsIndex_both h1 h2) (by rw[Fi,<- hl];exact hk) (by rw[<- Array.getElem?_toList];exact hw) (by rw[Fi];omega)) ⟨e,?_⟩
 refine⟨y,_,I.lset (its':=its.eraseIdx k) hH e ?_ (r.eraseIdx k) ?_,rw',q⟩
 . show its.toArray.eraseIdxIfInBounds k=(its.eraseIdx k).toArray
   rw[List.eraseIdxIfInBounds_toArray]
 . have:=Oy xs k
   omega
def Jce:R2:=λx y H Q=>∃l b xs zs,x= .ref l/\y= .ref b/\H l=some (.lst xs)/\H b=some (.lst zs)/\xs.length+zs.length<=sizeLine/\∀p,H p=none->Q (.ref p) (upd H p (.lst (xs++zs)))
theorem Nn:OpR X (binaryOp .Add) Jce:=by
 intro pins s σ H x y v u Q I rx ry h;obtain⟨l,b,xs,zs,rfl,rfl,hH,hB,hz,q⟩:=h;cases rx;cases ry;obtain⟨z,its,n,r,hl,e⟩:=I.lstM hH;obtain⟨z2,its2,n2,r2,hl2,e2⟩:=I.lstM hB;refine PySem.P.add_list e e2 ?_ (by rw[Fi,Fi];omega)
 have ea:its.toArray++its2.toArray=(its++its2).toArray:=by simp
 rw[ea];exact⟨.ref _,_,I.lnew (t':=s.toks) (r.append r2) (by rw[Fn];omega),rfl,q _ I.fresh⟩
def Jas:R2:=λx y H Q=>∃l k xs,x= .ref l/\y= .int k/\H l=some (.lst xs)/\-(2 ^ 63)<=k/\k < 2 ^ 63/\xs.length * k.toNat<=sizeLine/\
 ∀p,H p=none->Q (.ref p) (upd H p (.lst (List.replicate k.toNat xs).flatten))
theorem J5a(xs:List α)(k:Nat):(List.replicate k xs).flatten.length=k * xs.length:=by
 induction k with
 | zero=>simp
 | succ k ih=>rw[HK,Rf,Fn,ih,Nat.succ_mul,Nat.add_comm]
theorem J8t:OpR X (binaryOp .Mult) Jas:=by
 intro pins s σ H x y v u Q I rx ry h;obtain⟨l,k,xs,rfl,rfl,hH,h1,h2,hz,q⟩:=h;cases rx;obtain⟨t,rfl⟩:=ry;obtain⟨z,its,n,r,hl,e⟩:=I.lstM hH
 have hlen:its.toArray.size * k.toNat<=sizeLine:=by rw[Fi,<- hl];exact hz
 have hcap:¬its.toArray.size * k.toNat > (2 ^ 63 - 1) / 8:=by
  have:(sizeLine:Nat)<=(2 ^ 63 - 1) / 8:=by decide
  omega
 have hfit:¬(!Builtin.List.listFitsIndex k)=true:=by
  rw[fitsIndex_both h1 h2];exact Fp
 have hlong:¬Builtin.List.listTooLong (its.toArray.size * k.toNat)=true:=by
  rw[J16 hlen];exact Fp
 have hnew:List.foldl (λx1 x2=>x1++x2) #[] (List.replicate (if its.toArray.isEmpty=true then 0 else k.toNat) its.toArray)=(List.replicate k.toNat its).flatten.toArray:=by
  have f0:∀m:Nat,List.foldl (λx1 x2=>x1++x2) #[] (List.replicate m its.toArray)=(List.replicate m its).flatten.toArray:=λm=>by
   have:=Oz its m [];rw[List.nil_append]at this;exact this
  rw[f0]
  cases its with
  | nil=>simp
  | cons a r'=>rw[if_neg (by simp)]
 refine wpAny_binaryOp_repeat_ref (T:="list") (U:="int") (by decide) ⟨_,e,rfl⟩ (λs'=>typeIs_int s' k t) noFill_list_mul F.fills_int_mul F.slot_int_rmul repeat_list F.slot_int_index.lookup
  (Rm F.slot_int_rmul (typeIs_int s k t) F.entry_int_rmul (F.args_int_rmul_2 _ _) (int___rmul___int_list k t l its.toArray n)
   ⟨e,rfl,⟨_,e,rfl⟩,Rm F.slot_list_mul ⟨_,e,rfl⟩ F.entry_list_mul (F.args_list_mul_2 _ _) (AutoListH.list___mul___list_int_3 l its.toArray n k t hfit hcap hlong) ⟨e,?_⟩⟩)
 rw[hnew];exact⟨.ref _,_,I.lnew (t':=s.toks) (r.rep k.toNat) (by rw[J5a,Nat.mul_comm];exact hz),rfl,q _ I.fresh⟩
end
end L2
namespace Att
open PySem PySem.W PySem.Calls PyProof.Rows
theorem Mf{P:Params}{h:Heap}:∀(ns:List Int) (vs:List Value),WellAll P h vs (ns.map WData.int)->IntsAre vs ns:=by
 intro ns
 induction ns with
 | nil=>
  intro vs w;rw[List.map_nil]at w;cases w;exact .nil
 | cons n ns ih=>
  intro vs w;rw[List.map_cons]at w
  cases w with
  | cons a b=>
   cases a;exact .cons _ _ (ih _ b)
theorem Yo{l:OpenLaw}{n:Nat}(hn:l.most=some n){P:Params}{h:Heap}{args:List WData}{vals:List Value}
 (hpre:l.row.toRowW.claim.pre args=true) (hwl:WellAll P h vals args):
 ∃a vs ns,vals=[Value.ref a]/\args=[WData.list (ns.map WData.int)]/\h.get? a=some {cls:= .type "list",data:= .seq vs.toArray}/\IntsAre vs ns/\ns.length<=n:=by
 have hsh:WShape.hasAll [] args [.list .int]=true:=(pre_splitW hpre).1;have hc:l.pre.holds [] {args:=args}=true:=(pre_splitW hpre).2;obtain⟨d,r,rfl,h1,h2⟩:=hasAllW_cons hsh;obtain rfl:=hasAllW_nil h2;obtain⟨xs,rfl,h3⟩:=hasW_list h1;obtain⟨ns,rfl⟩:=items_int h3
 have hlen:ns.length<=n:=by
  unfold OpenLaw.pre at hc
  have h4:(WTm.not (.lt (.lit (.int (n:Int))) (.len (.arg 0)))).holds [] {args:=[.list (ns.map .int)]}=true:=by
   have h4:=(holds_andW hc).1;rw[hn]at h4;exact h4
  have h5:=condW_of h4 (w_not (w_lt w_lit (w_len_list (w_arg rfl))));rw[Fa]at h5;refine Nat.le_of_not_lt λq=>?_
  have q':(n:Int) < ((ns.length:Nat):Int):=by omega
  first
   | (rw[Fj q']at h5;exact absurd h5 (by decide))
   | (simp at h5;omega)
 cases hwl with
 | cons w1 w2=>
  cases w2
  cases w1 with
  | list ho hall=>exact⟨_,_,ns,rfl,rfl,ho,Mf ns _ hall,hlen⟩
theorem Yp(l:OpenLaw)(args:List WData):l.row.toRowW.claim.post args (.bool true) args=true:=
 postW_of (r:=l.row.toRowW) (X:=(true==true))
  (show WShape.has [] (.bool true) .bool=true by first | rfl | decide | simp[WShape.has,WShape.arms,WShape.armsAll])
  (show (WTm.eq .res (.lit (.bool true))).value [] {args:=args,res:=some (.bool true),after:=args}=some (.bool (true==true)) from w_eq_bool (w_res rfl) w_lit) rfl
theorem S9{l:OpenLaw}{n:Nat}{q:Program}{loose:List Str}{XP:(Str->Option Value)->Heap->Prop}{YP:World->Heap->Prop}{d:DefRec}
 (hn:l.most=some n) (hdf:d.params.defaults=[])
 (call:∀(w:World) (s₀ s₁:Shared) (mg mb:Str->Option Value) (fa:Addr) (o:Obj) (pm cd doc:Value) (a:Addr) (vs:List Value) (ns:List Int),
  Ground q loose [] XP w s₀ mg mb s₁.heap->YP w s₁.heap->
  s₁.heap.get? fa=some o->o.data= .func (docDef d.name d.params d.body d.scope pm cd doc)->s₁.heap.CodeRec cd d.name->mg d.name=some (.ref fa)->
  s₁.heap.get? a=some {cls:= .type "list",data:= .seq vs.toArray}->IntsAre vs ns->ns.length<=n->s₁.gens=#[]->
  codeAny (model l.prog w) callerA (.call (.ref fa) ⟨[.ref a],[]⟩) (λr s'=>r= .ok (.ret (.bool true))/\OldK s₁.heap s'.heap/\s'.os=s₁.os/\AllBare s'.gens) s₁):
 WalkO q loose XP YP l.row.toRowW d [] (λf vs=>PySem.call f vs):=by
 intro w s₀ s₁ mg mb G Y fa o pm cd doc dV kV ho hd hcd hD hmg hg args vals as hpre hlay hrd hwl hlo;obtain rfl:dV= .none:=Dflts.none hD hdf;obtain rfl:kV= .none:=Dflts.noKw hD;obtain⟨a,vs,ns,rfl,rfl,hobj,hints,hlen⟩:=Yo hn hpre hwl;refine enter_call (Ht (call w s₀ s₁ mg mb fa o pm cd doc a vs ns G Y ho (fd_plain hd) hcd hmg hobj hints hlen hg) λr s' hq=>?_);obtain⟨rfl,h2,h3,h4⟩:=hq;exact⟨.inl ⟨.bool true,.bool true,[],rfl,λ_=>rfl,.bool true,Yp l _,λ_=>⟨List.Pairwise.nil,λ_ hm=>(nomatch hm)⟩⟩,h2,h3,h4⟩
end Att
namespace L2
theorem P0:∀{vs:List Value}{ns:List Int},IntsAre vs ns->Ay (ns.map V.int) vs
 | _,_,.nil=> .nil
 | _,_,.cons n t h=> .cons ⟨t,rfl⟩ (P0 h)
def J5b(H:Hp):Prop:=∀b,H b=none\/∃o xs,H b=some (.frz o (.lst xs))
theorem J18{w:World}{K:PySem.W.Frag}{mg mb:Str->Option Value}{k:Nat}{fa a:Addr}{x:Str}{sp:Sp}{s₁:Shared}{vs:List Value}{ns:List Int}
 (KX:K.In s₁.heap) (hns:s₁.heap.Ns mainGlobals mg) (hb:s₁.heap.Ns builtinsNs mb) (hbb:∀x:Str,x≠"__name__"->mb x=bootBuiltins x) (hlim:s₁.heap.NoLimit) (hg:s₁.gens=#[])
 (ha:s₁.heap.get? a=some {cls:= .type "list",data:= .seq vs.toArray}) (hi:IntsAre vs ns) (hl:ns.length<=sizeLine) (hr:Bt k callerA)
 (F:∀base:Heap,K.In base->base.Ns mainGlobals mg->Ai P w K mg base CX k fa fd [x] sp) (hbind:∀(s:Shared) (u:Value),BindsTo s fd ⟨[u],[]⟩ [(x,u)])
 (hsp:∀H:Hp,J5b H->SqL K H a (ns.map V.int)->sp [.ref a] H (λv _=>v= .bl true) λ_ _ _=>False)
 (hCX:∀H e s',CX [] H s₁ (λ_ _ _=>False) e s'->False):
 codeAny (model P w) callerA (.call (.ref fa) ⟨[.ref a],[]⟩) (λr s'=>r= .ok (.ret (.bool true))/\OldK s₁.heap s'.heap/\s'.os=s₁.os/\AllBare s'.gens) s₁:=by
 have rv:=P0 hi;have lenV:=hi.length
 have core:∀H:Hp,J5b H->SqL K H a (ns.map V.int)->HOk P w H s₁.heap->(∀b,H b≠none->b=a)->(H a≠none->K.lookup a=none)->
  codeAny (model P w) callerA (.call (.ref fa) ⟨[.ref a],[]⟩) (λr s'=>r= .ok (.ret (.bool true))/\OldK s₁.heap s'.heap/\s'.os=s₁.os/\AllBare s'.gens) s₁:=by
  intro H hO hS hok hA hK;have base_of:∀{b:Addr}{o:Obj},s₁.heap.get? b=some o->H b=none->(Py s₁.heap H).get? b=some o:=λe n=>J0k e n
  have noA:∀{b:Addr}{o:Obj}{es:Array DictEntry}{ep:Nat},s₁.heap.get? b=some o->o.data= .dict es ep->H b=none:=λ{b o es ep} e d=>by
   cases q:H b with
   | none=>rfl
   | some u=>
    have e':b=a:=hA b (by rw[q];simp);subst e';rw[ha]at e;cases e;have d':Data.seq vs.toArray _=Data.dict es ep:=d;cases d'
  have nsK:∀{b:Addr}{m:Str->Option Value},s₁.heap.Ns b m->(Py s₁.heap H).Ns b m:=λ{b m} ⟨o,es,ep,e,d,r⟩=>⟨o,es,ep,base_of e (noA e d),d,r⟩
  have hKb:K.In (Py s₁.heap H):=λb o e=>base_of (KX b o e) (by
   cases q:H b with
   | none=>rfl
   | some u=>
    have e':b=a:=hA b (by rw[q];simp);subst e'
    rw[hK (by rw[q];simp)]at e;cases e)
  have hM:Mod K mg (Py s₁.heap H):=⟨hKb,nsK hns,⟨mb,nsK hb,hbb⟩,let ⟨mc,h1,h2⟩:=hlim;⟨mc,nsK h1,h2⟩⟩
  have e0:Kr P w K mg (Py s₁.heap H) callerA [] s₁ H:=⟨rfl,hM,λb o e=>J4z e,Hu (Yf _ _),trivial,λb hb=>absurd (show b∈([]:List Addr) from hb) (by simp),hok,.of_eq hg⟩
  refine Ht ((F _ hKb (nsK hns)).run callerA [] s₁ H ⟨[.ref a],[]⟩ [.ref a] [.ref a] _ _ hr e0 (hbind s₁ (.ref a)) (.cons rfl .nil) (hsp H hO hS)) λr s' h=>?_
  cases r with
  | error e=>exact(hCX H e s' h).elim
  | ok fl=>
   cases fl with
   | next=>exact False.elim h
   | brk=>exact False.elim h
   | cont=>exact False.elim h
   | ret u=>
    obtain⟨v,H',os,bare,un,hok',r',q⟩:=h;have q':v= .bl true:=q;subst q';obtain rfl:u=Value.bool true:=r';refine⟨rfl,OldK.of_keep λb o e=>?_,os,bare⟩
    cases q:H b with
    | none=>exact un.keep b o e q (by intro z;exact absurd (show b∈([]:List Addr) from z) (by simp)) (by simp)
    | some u=>
     rcases hO b with z | ⟨ob,xs,z⟩
     . rw[q]at z;cases z
     . have z2:=un.frzs b ob _ z
       obtain⟨e1,_⟩:=hok b _ z;obtain⟨e2,_⟩:=hok' b _ z2;rw[e]at e1;cases e1;exact e2
 cases hk:K.lookup a with
 | some o=>
  have e:=KX a o hk;rw[ha]at e;cases e;refine core (λ_=>none) (λ_=> .inl rfl) (.inr ⟨_,vs.toArray,_,hk,rfl,rfl,rfl,by rw[Fi,lenV];exact hl,by simpa using rv⟩) (λb u z=>by have z':(none:Option HO)=some u:=z;cases z') (λb z=>absurd rfl z) λz=>absurd rfl z
 | none=>
  refine core (λb=>if b=a then some (.frz {cls:= .type "list",data:= .seq vs.toArray} (.lst (ns.map V.int))) else none) (λb=>?_) (.inl (.inr ⟨{cls:= .type "list",data:= .seq vs.toArray},if_pos rfl⟩)) (λb u z=>?_) (λb z=>?_) λ_=>hk
  . by_cases hb:b=a
    . exact .inr ⟨_,_,if_pos hb⟩
    . exact .inl (if_neg hb)
  . by_cases hb:b=a
    . have z':=(if_pos hb).symm.trans z
      cases z';subst hb;exact⟨ha,by rw[Fa];exact hl,vs,_,rv,ha⟩
    . have z':=(if_neg hb).symm.trans z
      cases z'
  . by_cases hb:b=a
    . exact hb
    . exact absurd (if_neg hb) z
theorem J5c{l:PySem.W.OpenLaw}{n k:Nat}{q:Program}{loose:List Str}{XP:(Str->Option Value)->Heap->Prop}{YP:World->Heap->Prop}{d:DefRec}{K:Params->PySem.W.Frag}{CX:World->CXT}{sp:World->Sp}{x:Str}
 (hn:l.most=some n) (hn2:n<=sizeLine) (hdf:d.params.defaults=[]) (hr:Bt k callerA)
 (hY:∀(w:World) (h:Heap),YP w h->(K w.params).In h)
 (F:∀(w:World) (mg:Str->Option Value) (fa:Addr) (h:Heap),(K w.params).In h->h.Ns mainGlobals mg->mg d.name=some (.ref fa)->
  ∃fd:FuncData,(∀(s:Shared) (u:Value),BindsTo s fd ⟨[u],[]⟩ [(x,u)])/\
   ∀base:Heap,(K w.params).In base->base.Ns mainGlobals mg->Ai l.prog w (K w.params) mg base (CX w) k fa fd [x] (sp w))
 (hsp:∀(w:World) (H:Hp) (a:Addr) (ns:List Int),ns.length<=n->J5b H->SqL (K w.params) H a (ns.map V.int)->sp w [.ref a] H (λv _=>v= .bl true) λ_ _ _=>False)
 (hCX:∀(w:World) (H:Hp) (s:Shared) (e:Value) (s':Shared),CX w [] H s (λ_ _ _=>False) e s'->False):
 PySem.W.WalkO q loose XP YP l.row.toRowW d [] (λf vs=>PySem.call f vs):=by
 refine Att.S9 hn hdf λw s₀ s₁ mg mb fa o pm cd doc a vs ns G Y ho hd hcd hmg hobj hints hlen hg=>?_;have KX:=hY w _ Y;obtain⟨fd,hb,hF⟩:=F w mg fa _ KX G.T.g hmg;exact J18 KX G.T.g G.T.b G.T.builtins G.T.nolimit hg hobj hints (FE hlen hn2) hr hF hb (λH hO hS=>hsp w H a ns hlen hO hS) λH e s'=>hCX w H s₁ e s'
def Ah(s:Stmt)(j:Nat):Stmt:=match s with
 | .ClassDef _ _ _ body _ _ _ _ _ _ _=>body.getD j (.Pass ⟨0,0,0,0⟩)
 | _=> .Pass ⟨0,0,0,0⟩
def B2(s:Stmt):Arguments:=match s with
 | .FunctionDef _ a _ _ _ _ _ _ _ _=>a
 | _=>{posonlyargs:=[],args:=[],vararg:=none,kwonlyargs:=[],kw_defaults:=[],kwarg:=none,defaults:=[]}
def Ax(s:Stmt):List Stmt:=match s with
 | .FunctionDef _ _ b _ _ _ _ _ _ _=>b
 | _=>[]
def A6(s:Stmt):Scope:=match s with
 | .FunctionDef _ _ _ _ _ _ sc _ _ _=>sc
 | _=>{kind:= .function,names:=[],isGenerator:=false,isCoroutine:=false}
abbrev CX0:CXT:=λ_ _ _ _ _ _=>False
abbrev E0:XK:=λ_ _ _=>False
theorem J19:Kh CX0 X E0:=λ_ _ _ _ _ _ _ h=>h.elim
structure Fun(K:PySem.W.Frag)(x qual:Str)(st:Stmt)(f:Addr)(fd:FuncData):Prop where
 ex:∃(oc:Value) (od:Option Addr) (kV doc pm:Value) (an:Option Addr) (cdv ct:Value) (osl:Array (Option Value)),
  fd=PySem.W.fnOf x qual (B2 st) (Ax st) (A6 st) .none kV doc pm an cdv ct/\K.lookup f=some ⟨oc,od,.func fd,osl⟩/\PySem.W.codeIn K cdv qual=true
 kp:PySem.W.keepIn K (.ref f)=true
section
variable {P:Program}{w:World}{K:PySem.W.Frag}{mg:Str->Option Value}{base:Heap}
theorem Fun.ok{x:Str}{st:Stmt}{f:Addr}{N:List Str}{k:Nat}{sp:Sp}(F:Fun K x qual st f fd)(S:A9 N ps (A6 st))(len:∀vs H Q E,sp vs H Q E->vs.length=ps.length)
 (hbody:∀(cdv:Value) (A:Around) (outer:List Env) (s:Shared) (H:Hp) (vs:List V) (Q:VK) (E:XK),Bt k (A.deeper (envOfC qual (A6 st) s.heap.objs.size f cdv))->sp vs H Q E->
  ∃t,PSs (Gy CX0 P w K mg base N qual (A6 st) f cdv A outer s H E).nox (Ax st) t/\t {nx:=λ_ H'=>Q .non H',rt:=Q} (start N vs) H):Ai P w K mg base CX0 (k+1) f fd ps sp:=by
 obtain⟨oc,od,kV,doc,pm,an,cdv,ct,osl,rfl,lk,hcd⟩:=F.ex;refine J10 lk hcd S len λA outer s H vs Q E hr hsp=>?_;obtain⟨t,h,q⟩:=hbody cdv A outer s H vs Q E hr hsp;exact⟨t,h.nox,q⟩
theorem Fun.binds{x:Str}{st:Stmt}{f:Addr}{ps:List Str}(F:Fun K x qual st f fd)
 (h:∀(kV doc pm:Value) (an:Option Addr) (cdv ct:Value) (us:List Value),us.length=ps.length->bindArgs (PySem.W.fnOf x qual (B2 st) (Ax st) (A6 st) .none kV doc pm an cdv ct) ⟨us,[]⟩=pure (ps.zip us)):Bl K fd ps []:=by
 obtain⟨oc,od,kV,doc,pm,an,cdv,ct,osl,rfl,lk,hcd⟩:=F.ex;exact .all (h kV doc pm an cdv ct)
theorem D3{x:Str}{st:Stmt}{f:Addr}{osl:Array (Option Value)}{kV pm ct:Value}(l:K.lookup f=some ⟨oc,od,.func (PySem.W.fnOf x qual (B2 st) (Ax st) (A6 st) .none kV doc pm an cdv ct),osl⟩)
 (c:PySem.W.codeIn K cdv qual=true) (k:PySem.W.keepIn K (.ref f)=true):Fun K x qual st f (PySem.W.fnOf x qual (B2 st) (Ax st) (A6 st) .none kV doc pm an cdv ct):=⟨⟨oc,od,kV,doc,pm,an,cdv,ct,osl,rfl,l,c⟩,k⟩
end
theorem Cg{A:Around}{k:Nat}(hr:Bt k A):A.units+1 < cLine:=Hk (Nat.add_le_add_left (by decide:1<=64) _) hr.units
section
variable {X:Cx}
theorem pv(i:Nat){x:Str}{pos:Pos}(hN:X.N[i]?=some x:=by rfl)(hv:Vis X.env.scope x:=by first | exact Or.inl rfl | exact Or.inr (Or.inl rfl) | exact Or.inr (Or.inr rfl))(hd:(x==("__debug__":Str))=false:=by decide)
 (hcd:(x==("__classdict__":Str))=false:=by decide):PE X (.Name x pos) (J8f i):=J8g hN hv hd hcd
end
def Aa(H H':Hp):Prop:=∀b o,H b=some o->H' b=some o
theorem Aa.refl(H:Hp):Aa H H:=λ_ _ h=>h
theorem Aa.trans{H:Hp}(a:Aa H H1)(b:Aa H1 H2):Aa H H2:=λc o h=>b c o (a c o h)
theorem Aa.seq{K:PySem.W.Frag}{H:Hp}{a:Addr}{xs:List V}(e:Aa H H')(h:SqL K H a xs):SqL K H' a xs:=by
 rcases h with (h | ⟨o,h⟩) | h
 . exact .inl (.inl (e _ _ h))
 . exact .inl (.inr ⟨o,e _ _ h⟩)
 . exact .inr h
section
variable {κ:Type} [DecidableEq κ]
def B1(kvs:List (κ×V))(k:κ):Option V:=(kvs.find? λkv=>decide (kv.1=k)).map (·.2)
def Cj(kvs:List (κ×V))(k:κ)(v:V):List (κ×V):=
 if (kvs.any λkv=>decide (kv.1=k))=true then kvs.map (λkv=>if kv.1=k then (kv.1,v) else kv) else kvs++[(k,v)]
def C7(kvs:List (κ×V))(k:κ):List (κ×V):=kvs.filter λkv=>decide (kv.1≠k)
theorem Cb{p:κ×V}{r:List (κ×V)}{k:κ}(e:p.1=k):B1 (p::r) k=some p.2:=by simp[B1,HR,e]
theorem Cc{p:κ×V}{r:List (κ×V)}{k:κ}(e:¬p.1=k):B1 (p::r) k=B1 r k:=by simp[B1,HR,e]
theorem D1(k:κ):∀kvs:List (κ×V),(kvs.any λkv=>decide (kv.1=k))=(B1 kvs k).isSome
 | []=>rfl
 | p::r=>by
  rw[R5]
  by_cases e:p.1=k
  . simp only[Cb e,Fj e,Bool.true_or,Option.isSome_some]
  . rw[Cc e,Fs e,Bool.false_or];exact D1 k r
theorem Sa(k j:κ)(y:V):∀kvs:List (κ×V),B1 (kvs.map λkv=>if kv.1=k then (kv.1,y) else kv) j=(B1 kvs j).map λx=>if j=k then y else x
 | []=>rfl
 | p::r=>by
  have ih:=Sa k j y r;rw[List.map_cons]
  by_cases h:p.1=k
  . rw[if_pos h]
    by_cases e:p.1=j
    . rw[Cb (p:=(p.1,y)) e,Cb e,HA,if_pos (e.symm.trans h)]
    . rw[Cc (p:=(p.1,y)) e,Cc e,ih]
  . rw[if_neg h]
    by_cases e:p.1=j
    . rw[Cb (p:=p) e,Cb e,HA,if_neg (λz=>h (e.trans z))]
    . rw[Cc (p:=p) e,Cc e,ih]
theorem P3(k j:κ)(y:V):∀kvs:List (κ×V),B1 kvs k=none->B1 (kvs++[(k,y)]) j=if j=k then some y else B1 kvs j
 | [],_=>by
  by_cases e:k=j
  . rw[if_pos e.symm];exact Cb (p:=(k,y)) e
  . rw[if_neg (λz=>e z.symm)];exact Cc (p:=(k,y)) e
 | p::r,hn=>by
  rw[List.cons_append]
  have hk:¬p.1=k:=λz=>by rw[Cb z]at hn;cases hn
  rw[Cc hk]at hn;have ih:=P3 k j y r hn
  by_cases e:p.1=j
  . rw[Cb e,Cb e,if_neg (λz=>hk (e.trans z))]
  . rw[Cc e,Cc e,ih]
theorem Dr(kvs:List (κ×V))(k j:κ)(y:V):B1 (Cj kvs k y) j=if j=k then some y else B1 kvs j:=by
 unfold Cj
 by_cases a:(kvs.any λkv=>decide (kv.1=k))=true
 . rw[if_pos a,Sa]
   rw[D1]at a
   by_cases e:j=k
   . obtain⟨x,hx⟩:=Ho.mp a
     rw[if_pos e,e,hx,HA,if_pos rfl]
   . rw[if_neg e]
     cases B1 kvs j with
     | none=>rfl
     | some x=>rw[HA,if_neg e]
 . rw[if_neg a]
   refine P3 k j y kvs ?_;rw[D1]at a
   cases q:B1 kvs k with
   | none=>rfl
   | some x=>rw[q]at a;exact(a rfl).elim
theorem Br(kvs:List (κ×V))(k:κ)(v:V):(Cj kvs k v).length<=kvs.length+1:=by
 unfold Cj;split
 . rw[Fa];omega
 . rw[Fn,List.length_cons,List.length_nil];omega
theorem Kt{kvs:List (κ×V)}{k:κ}(v:V)(h:B1 kvs k=none):Cj kvs k v=kvs++[(k,v)]:=by
 unfold Cj;rw[D1,h];exact if_neg (by decide)
theorem Dv.isSome_eq{o:Option V}{u:Option Value}(r:Dv o u):o.isSome=u.isSome:=by
 cases o with
 | none=>cases u with
  | none=>rfl
  | some _=>exact(show False from r).elim
 | some _=>cases u with
  | none=>exact(show False from r).elim
  | some _=>rfl
theorem Dv.getD{o:Option V}{u:Option Value}{d:V}{d':Value}(r:Dv o u)(rd:Au d d'):Au (o.getD d) (u.getD d'):=by
 cases o with
 | none=>cases u with
  | none=>exact rd
  | some _=>exact(show False from r).elim
 | some _=>cases u with
  | none=>exact(show False from r).elim
  | some _=>exact r
theorem KV.val{kvs:List (κ×V)}{vs:List (κ×Value)}(r:KV kvs vs)(k:κ):Dv (B1 kvs k) (valueAt vs k):=by
 unfold KV at r
 induction r with
 | nil=>exact True.intro
 | @cons p q ps qs h t ih=>
  obtain⟨h1,h2⟩:=h
  by_cases e:p.1=k
  . have e':q.1=k:=h1.symm.trans e
    have b:valueAt (q::qs) k=some q.2:=by simp[valueAt,HR,e']
    rw[Cb e,b];exact h2
  . have e':¬q.1=k:=λz=>e (h1.trans z)
    have b:valueAt (q::qs) k=valueAt qs k:=by simp[valueAt,HR,e']
    rw[Cc e,b];exact ih
theorem KV.any{kvs:List (κ×V)}{vs:List (κ×Value)}(r:KV kvs vs)(k:κ):(kvs.any λkv=>decide (kv.1=k))=vs.any λkv=>decide (kv.1=k):=by
 unfold KV at r
 induction r with
 | nil=>rfl
 | cons h t ih=>rw[R5,R5,ih,h.1]
theorem KV.repl{kvs:List (κ×V)}{vs:List (κ×Value)}(r:KV kvs vs)(k:κ){y:V}(ry:Au y u):
 KV (kvs.map λkv=>if kv.1=k then (kv.1,y) else kv) (vs.map λkv=>if kv.1=k then (kv.1,u) else kv):=by
 unfold KV at r ⊢
 induction r with
 | nil=>exact .nil
 | @cons p q ps qs h t ih=>
  rw[List.map_cons,List.map_cons];refine .cons ?_ ih;obtain⟨h1,h2⟩:=h
  by_cases e:p.1=k
  . rw[if_pos e,if_pos (h1.symm.trans e)];exact⟨h1,ry⟩
  . rw[if_neg e,if_neg (λz=>e (h1.trans z))];exact⟨h1,h2⟩
theorem KV.put{kvs:List (κ×V)}{vs:List (κ×Value)}(r:KV kvs vs)(k:κ){y:V}(ry:Au y u):KV (Cj kvs k y) (stored vs k u):=by
 unfold Cj stored;rw[r.any k]
 by_cases e:(vs.any λkv=>decide (kv.1=k))=true
 . rw[if_pos e,if_pos e];exact r.repl k ry
 . rw[if_neg e,if_neg e];exact Paired.snoc r ⟨rfl,ry⟩
theorem KV.drop{kvs:List (κ×V)}{vs:List (κ×Value)}(r:KV kvs vs)(k:κ):KV (C7 kvs k) (without vs k):=by
 unfold KV at r ⊢;unfold C7 without
 induction r with
 | nil=>exact .nil
 | @cons p q ps qs h t ih=>
  obtain⟨h1,h2⟩:=h;rw[List.filter_cons,List.filter_cons]
  by_cases e:p.1=k
  . have a:¬decide (p.1≠k)=true:=by simp[e]
    have b:¬decide (q.1≠k)=true:=by simp[h1.symm.trans e]
    rw[if_neg a,if_neg b];exact ih
  . have e':¬q.1=k:=λz=>e (h1.trans z)
    have a:decide (p.1≠k)=true:=by simp[e]
    have b:decide (q.1≠k)=true:=by simp[e']
    rw[if_pos a,if_pos b];exact .cons ⟨h1,h2⟩ ih
theorem KV.length{kvs:List (κ×V)}{vs:List (κ×Value)}(r:KV kvs vs):kvs.length=vs.length:=Paired.length r
theorem J1a(kvs:List (κ×V))(k:κ):(C7 kvs k).length<=kvs.length:=List.length_filter_le _ _
end
theorem Np{w:World}{k:Key}(r:Au (kV k) u):(Bb P w).is k u=true:=by
 cases k with
 | inl i=>obtain⟨t,e⟩:=(show ∃t,u=Value.int i t from r);subst e;exact Qw P w i t
 | inr x=>obtain⟨t,e⟩:=(show ∃t,u=Value.str x t from r);subst e;exact Qx P w x t
theorem P4{w:World}:∀{ks:List Key}{us:List Value},Ay (ks.map kV) us->ItemsAre (Bb P w) ks us
 | [],_,r=>by rw[List.map_nil]at r;cases r;exact .nil
 | k::ks,_,r=>by
  rw[List.map_cons]at r
  cases r with
  | cons h t=>exact .cons (Np h) (P4 t)
abbrev KT(H:Hp):List (List Key×V)->List (List Key×Addr×Value)->Prop:=Paired λp q=>p.1=q.1/\H q.2.1=some (.tup (p.1.map kV))/\Au p.2 q.2.2
theorem KT.val{H:Hp}{kvs:List (List Key×V)}{xs:List (List Key×Addr×Value)}(r:KT H kvs xs)(k:List Key):Dv (B1 kvs k) ((atKey xs k).map (·.2)):=by
 induction r with
 | nil=>exact True.intro
 | @cons p q ps qs h t ih=>
  obtain⟨h1,_,h2⟩:=h
  by_cases e:p.1=k
  . have e':q.1=k:=h1.symm.trans e
    have b:atKey (q::qs) k=some q.2:=by simp[atKey,HR,e']
    rw[Cb e,b];exact h2
  . have e':¬q.1=k:=λz=>e (h1.trans z)
    have b:atKey (q::qs) k=atKey qs k:=by simp[atKey,HR,e']
    rw[Cc e,b];exact ih
theorem KT.repl{H:Hp}{kvs:List (List Key×V)}{xs:List (List Key×Addr×Value)}(r:KT H kvs xs)(k:List Key){y:V}(ry:Au y u):
 KT H (kvs.map λkv=>if kv.1=k then (kv.1,y) else kv) (xs.map (putAt k u)):=by
 induction r with
 | nil=>exact .nil
 | @cons p q ps qs h t ih=>
  rw[List.map_cons,List.map_cons];refine .cons ?_ ih;obtain⟨h1,h2,h3⟩:=h;unfold putAt
  by_cases e:p.1=k
  . rw[if_pos e,if_pos (h1.symm.trans e)];exact⟨h1,h2,ry⟩
  . rw[if_neg e,if_neg (λz=>e (h1.trans z))];exact⟨h1,h2,h3⟩
theorem KT.put{H:Hp}{kvs:List (List Key×V)}{xs:List (List Key×Addr×Value)}(r:KT H kvs xs)(k:List Key){b:Addr}{y:V}(hb:H b=some (.tup (k.map kV)))(ry:Au y u):
 KT H (Cj kvs k y) (storedH xs k b u):=by
 have e:(kvs.any λkv=>decide (kv.1=k))=(atKey xs k).isSome:=by
  rw[D1,(r.val k).isSome_eq,RK]
 unfold Cj storedH;rw[e]
 by_cases q:(atKey xs k).isSome=true
 . rw[if_pos q,if_pos q];exact r.repl k ry
 . rw[if_neg q,if_neg q];exact Paired.snoc r ⟨rfl,hb,ry⟩
theorem KT.keeps{H:Hp}{kvs:List (List Key×V)}{xs:List (List Key×Addr×Value)}(r:KT H kvs xs)(ht:∀b ys,H b=some (.tup ys)->H' b=some (.tup ys)):KT H' kvs xs:=
 Paired.mapP r λ_ _ z=>⟨z.1,ht _ _ z.2.1,z.2.2⟩
section
variable {P:Program}{w:World}{H:Hp}{h:Heap}{a:Addr}
theorem J72{u:HO}(ok:HOk P w H h)(e:Rd H a u):Bk P w H h a u:=e.ok ok
theorem Mb(ok:HOk P w H h)(e:Rd H a (.dK kvs)):kvs.length<=sizeLine/\(a==sysModules)=false/\∃vs,KV kvs vs/\h.DictOf (Bb P w) a vs:=
 show Bk P w H h a (.dK kvs) from J72 ok e
theorem J73(ok:HOk P w H h)(e:H a=some (.dK kvs)):kvs.length<=sizeLine/\(a==sysModules)=false/\∃vs,KV kvs vs/\h.DictOf (Bb P w) a vs:=Mb ok (.inl e)
theorem Lr{ks:List Key}(ok:HOk P w H h)(e:H a=some (.tup (ks.map kV))):(tupleKind (Bb P w)).is h ks a:=by
 obtain⟨_,its,r,o,h1,h2,n,h3⟩:=(show Bk P w H h a (.tup (ks.map kV)) from ok a _ e)
 exact⟨o,its.toArray,n,h1,h2,h3,by simpa using P4 r⟩
theorem Nq{kvs:List (List Key×V)}(ok:HOk P w H h)(e:Rd H a (.dT kvs)):kvs.length<=sizeLine/\(a==sysModules)=false/\
 ∃xs,KT H kvs xs/\h.DictOfH (tupleKind (Bb P w)) a xs:=by
 obtain⟨z,y,xs,r,o,es,ep,h1,h2,h3,h4,h5⟩:=(show Bk P w H h a (.dT kvs) from J72 ok e)
 refine⟨z,y,xs,r,o,es,ep,h1,h2,h3,h4,λx hx=>?_,h5⟩
 have all:∀{l:List (List Key×V)}{m:List (List Key×Addr×Value)},KT H l m->∀x∈m,(tupleKind (Bb P w)).is h x.1 x.2.1:=by
  intro l m q
  induction q with
  | nil=>intro x hx;exact nomatch hx
  | @cons p q ps qs hq t ih=>
   intro x hx;rcases Ft.mp hx with e | hx
   . subst e
     exact Lr ok (by rw[<- hq.1];exact hq.2.1)
   . exact ih x hx
 exact all r x hx
theorem Jat{kvs:List (List Key×V)}(ok:HOk P w H h)(e:H a=some (.dT kvs)):kvs.length<=sizeLine/\(a==sysModules)=false/\
 ∃xs,KT H kvs xs/\h.DictOfH (tupleKind (Bb P w)) a xs:=Nq ok (.inl e)
end
def D8(H:Hp)(a:Addr)(y:V)(r:Option V):Prop:=
 (∃kvs k,Rd H a (.dK kvs)/\y=kV k/\r=B1 kvs k)\/∃kvs k b,Rd H a (.dT kvs)/\y= .ref b/\H b=some (.tup (k.map kV))/\r=B1 kvs k
def Ke(H:Hp)(a:Addr)(y v:V)(H':Hp):Prop:=
 (∃kvs k,H a=some (.dK kvs)/\y=kV k/\kvs.length < sizeLine/\H'=upd H a (.dK (Cj kvs k v)))\/
 ∃kvs k b,H a=some (.dT kvs)/\y= .ref b/\H b=some (.tup (k.map kV))/\kvs.length < sizeLine/\H'=upd H a (.dT (Cj kvs k v))
theorem D8.k{H:Hp}{a:Addr}{k:Key}(e:H a=some (.dK kvs)):D8 H a (kV k) (B1 kvs k):= .inl ⟨kvs,k,.inl e,rfl,rfl⟩
theorem Ke.k{H:Hp}{a:Addr}{k:Key}{v:V}(e:H a=some (.dK kvs))(hl:kvs.length < sizeLine):Ke H a (kV k) v (upd H a (.dK (Cj kvs k v))):= .inl ⟨kvs,k,e,rfl,hl,rfl⟩
section
variable {X:Cx}{pins:List (Addr×Obj)}{σ:St}{H:Hp}{s:Shared}{a:Addr}{y v:V}{u r:Value}{o:Option V}{A:Around}{E:Value->Shared->Prop}
theorem Inv.big(I:Inv X pins σ H s):sysModules < s.heap.objs.size:=by
 have h:mainGlobals < s.heap.objs.size:=(I.mod.glob.keeps I.bk).lt;exact Nat.lt_trans (by decide) h
theorem Yq{Q:Value->Shared->Prop}(hu:A.units+1 < cLine)(I:Inv X pins σ H s)(g:D8 H a y (some v))(ry:Au y u)(h:∀w' s',Inv X pins σ H s'->Au v w'->Q w' s'):
 wpAny (model X.prog X.w) A (getItem (.ref a) u) Q E s:=by
 rcases g with ⟨kvs,k,e,ey,l⟩ | ⟨kvs,k,b,e,ey,eb,l⟩
 . subst ey
   obtain⟨z,hd,vs,rel,dd⟩:=Mb I.hok e;obtain⟨w',hw,rw'⟩:=Dv.some_of (v:=v) (o:=valueAt vs k) (by rw[l];exact rel.val k);exact wpAny_getItem_of (Np ry) dd.mapOf hw (h w' _ (I.tok _) rw')
 . subst ey
   cases (show u=Value.ref b from ry);obtain⟨z,hd,xs,rel,dd⟩:=Nq I.hok e;obtain⟨w',hw,rw'⟩:=Dv.some_of (v:=v) (o:=(atKey xs k).map (·.2)) (by rw[l];exact rel.val k);obtain⟨p,hp,hp2⟩:=Option.map_eq_some_iff.mp hw;refine wpAny_getItem_heap (HU hu) (Lr I.hok eb) dd hp ?_;rw[hp2];exact h w' _ (I.tok _) rw'
theorem Jcf{Q:Value->Shared->Prop}(hu:A.units+1 < cLine)(I:Inv X pins σ H s)(g:D8 H a y o)(ry:Au y u)(h:∀s',Inv X pins σ H s'->Q (.bool o.isSome) s'):
 wpAny (model X.prog X.w) A (compareOp .In u (.ref a)) Q E s:=by
 rcases g with ⟨kvs,k,e,ey,l⟩ | ⟨kvs,k,b,e,ey,eb,l⟩
 . subst ey
   obtain⟨z,hd,vs,rel,dd⟩:=Mb I.hok e;refine wpAny_in_of (Np ry) hd dd.mapOf ?_;rw[<- (rel.val k).isSome_eq,<- l];exact h _ (I.tok _)
 . subst ey
   cases (show u=Value.ref b from ry);obtain⟨z,hd,xs,rel,dd⟩:=Nq I.hok e;refine wpAny_in_heap (HU hu) (Lr I.hok eb) hd dd ?_;have q:=(rel.val k).isSome_eq;rw[RK]at q;rw[<- q,<- l];exact h _ (I.tok _)
theorem J5d{Q:Value->Shared->Prop}(hu:A.units+1 < cLine)(I:Inv X pins σ H s)(g:D8 H a y o)(ry:Au y u)(h:∀s',Inv X pins σ H s'->Q (.bool (!o.isSome)) s'):
 wpAny (model X.prog X.w) A (compareOp .NotIn u (.ref a)) Q E s:=by
 rcases g with ⟨kvs,k,e,ey,l⟩ | ⟨kvs,k,b,e,ey,eb,l⟩
 . subst ey
   obtain⟨z,hd,vs,rel,dd⟩:=Mb I.hok e;refine wpAny_notIn_of (Np ry) hd dd.mapOf ?_;rw[<- (rel.val k).isSome_eq,<- l];exact h _ (I.tok _)
 . subst ey
   cases (show u=Value.ref b from ry);obtain⟨z,hd,xs,rel,dd⟩:=Nq I.hok e;refine wpAny_notIn_heap (HU hu) (Lr I.hok eb) hd dd ?_;have q:=(rel.val k).isSome_eq;rw[RK]at q;rw[<- q,<- l];exact h _ (I.tok _)
theorem Q5{ob:HO}(I:Inv X pins σ H s)(mu:Mut (H a))(hs:Heap.SameBut a s.heap h')(he:∃q,h'.get? a=some q)(new:Bk X.prog X.w (upd H a ob) h' a ob):
 Inv X pins σ (upd H a ob) {s with heap:=h',toks:=t'}:=
 I.write (x:=a) (e:=a) mu (.inl rfl) (λb q hb z=>(hs.2 b hb).trans z) he new
theorem J1b{w:World}{vs:List (Key×Value)}(z:kvs.length<=sizeLine)(hd:(a==sysModules)=false)(rel:KV kvs vs)(dd:h'.DictOf (Bb P w) a vs):
 Bk P w H' h' a (.dK kvs):=⟨z,hd,vs,rel,dd⟩
theorem Yr{Q:Unit->Shared->Prop}(hu:A.units+1 < cLine)(I:Inv X pins σ H s)(g:Ke H a y v H')(ry:Au y u)(rv:Au v r)(h:∀s',Inv X pins σ H' s'->Q () s'):
 wpAny (model X.prog X.w) A (setItem (.ref a) u r) Q E s:=by
 rcases g with ⟨kvs,k,e,ey,l,eH⟩ | ⟨kvs,k,b,e,ey,eb,l,eH⟩
 . subst ey eH
   obtain⟨z,hd,vs,rel,dd⟩:=J73 I.hok e
   have hz:vs.length<=sizeLine:=by rw[<- rel.length];exact z
   have hl:(Cj kvs k v).length<=sizeLine:=by have:=Br kvs k v;omega
   refine wpAny_setItem_pairs (hsz:=hz) (Np ry) dd λh' dd' hs=>h _ ?_;have he:∃q,h'.get? a=some q:=let ⟨q,_,_,hq,_⟩:=dd';⟨q,hq⟩;exact Q5 I (by rw[e];exact True.intro) hs he (J1b hl hd (rel.put k rv) dd')
 . subst ey eH
   cases (show u=Value.ref b from ry);obtain⟨z,hd,xs,rel,dd⟩:=Jat I.hok e
   have hz:xs.length<=sizeLine:=by rw[<- Paired.length rel];exact z
   have hl:(Cj kvs k v).length<=sizeLine:=by have:=Br kvs k v;omega
   refine wpAny_setItem_heap (hsz:=hz) (HU hu) (Lr I.hok eb) dd λh' dd' hs=>h _ ?_;obtain⟨q,es,ep,hq,h2,h3,h4,_,h5⟩:=dd';refine Q5 I (by rw[e];exact True.intro) hs ⟨q,hq⟩ ⟨hl,hd,_,(rel.put k eb rv).keeps λc ys ec=>?_,q,es,ep,hq,h2,h3,h4,h5⟩;rw[A5 (C0 ec e (λz=>nomatch z))];exact ec
end
section
variable {X:Cx}{pins:List (Addr×Obj)}{σ:St}{H:Hp}{s:Shared}{a:Addr}{kvs:List (Key×V)}{k:Key}{u:Value}{A:Around}{E:Value->Shared->Prop}
theorem Jau{v:V}{more:List Value}{Q:Value->Shared->Prop}(I:Inv X pins σ H s)(e:H a=some (.dK kvs))(ry:Au (kV k) u)(l:B1 kvs k=some v)(hm:more=[]\/∃x,more=[x])
 (h:∀w' s',Inv X pins σ (upd H a (.dK (C7 kvs k))) s'->Au v w'->Q w' s'):wpAny (model X.prog X.w) A (call (.builtin "dict.pop") (.ref a::u::more)) Q E s:=by
 obtain⟨z,hd,vs,rel,dd⟩:=J73 I.hok e;obtain⟨w',hw,rw'⟩:=Dv.some_of (v:=v) (o:=valueAt vs k) (by rw[<- l];exact rel.val k)
 have hp:(keyPart u).isSome=true:=by
  cases k with
  | inl i=>obtain⟨t,q⟩:=(show ∃t,u=Value.int i t from ry);subst q;rfl
  | inr x=>obtain⟨t,q⟩:=(show ∃t,u=Value.str x t from ry);subst q;rfl
 have ha:argsOk "dict.pop" ⟨.ref a::u::more,[]⟩:=by
  rcases hm with q | ⟨x,q⟩
  . subst q;exact PySem.F.args_dict_pop_2 _ _
  . subst q;exact PySem.F.args_dict_pop_3 _ _ _
 refine RJ PySem.F.slot_dict_pop dd.typeIs PySem.F.entry_dict_pop ha (meets_dict_pop_there (Bb X.prog X.w) a (Np ry) more hm hp)
  ⟨vs,w',dd,by rw[<- rel.length];exact z,hw,λh' dd' hs=>h w' _ ?_ rw'⟩
 have he:∃q,h'.get? a=some q:=let ⟨q,_,_,hq,_⟩:=dd';⟨q,hq⟩;exact Q5 I (by rw[e];exact True.intro) hs he (J1b (FE (J1a kvs k) z) hd (rel.drop k) dd')
theorem Jav{Q:Value->Shared->Prop}(I:Inv X pins σ H s)(e:Rd H a (.dK kvs))(h:∀t s',Inv X pins σ H s'->Q (.int kvs.length t) s'):wpAny (model X.prog X.w) A (call (.builtin "len") [.ref a]) Q E s:=by
 obtain⟨z,hd,vs,rel,dd⟩:=Mb I.hok e;refine call_len_dict hd dd (by rw[<- rel.length];rw[Ry]at z;omega) ?_;rw[<- rel.length];exact h _ _ (I.tok _)
end
def Jaw(i:Expr):Prop:=∀ov iv,subscripted i false ov iv=operate [ov,iv] (getItem ov iv)
theorem J5e{prog:Program}{w:World}{A:Around}{s:Shared}{env:Env}{value slice:Expr}{pos:Pos}{T id:String}{Q:Value->Shared->Prop}
 (hl:typeLookup (.type T) "__getitem__"=pure (some (.builtin id))) (hs:Jaw slice)
 (h:wpAny (model prog w) A (eval value env) (λo s₁=>wpAny (model prog w) A (eval slice env) (λi s₂=>s₂.TypeIs o T/\wpAny (model prog w) A (getItem o i) Q E s₂) E s₁) E s):
 wpAny (model prog w) A (eval (.Subscript value slice pos) env) Q E s:=by
 refine Subscript_ (FN h (λo s₁ h₁=>FN h₁ (λi s₂ h₂=>?_) λ_ _ x=>x) λ_ _ x=>x);obtain⟨hT,h₂⟩:=h₂;unfold subscriptTail;refine Fc ?_;rw[getitemInPython_of_ne hT.not_modules];refine Fc (wpAny_specialOf hT hl ?_)
 have fin:wpAny (model prog w) A (subscripted slice false o i) (λr s₃=>wpAny (model prog w) A (letTemporaryGo value o r >>=λ_=>pure r) Q E s₃) E s₂:=by
  rw[hs o i];exact wpAny_operating (FN h₂ (λr s₃ h₃=>Fc (wpAny_letTemporaryGo (Fu h₃))) λ_ _ x=>x)
 first
  | exact Fu (Fc fin)
  | exact Fc (Fu (Fc fin))
  | exact Fc fin
theorem Sb{H:Hp}{s:Shared}{a:Addr}{y:V}{o:Option V}(I:Inv X pins σ H s)(g:D8 H a y o):s.TypeIs (.ref a) "dict":=by
 rcases g with ⟨kvs,k,e,_,_⟩ | ⟨kvs,k,b,e,_,_,_⟩
 . obtain⟨_,_,vs,_,dd⟩:=Mb I.hok e
   exact dd.typeIs
 . obtain⟨_,_,xs,_,dd⟩:=Nq I.hok e
   exact dd.typeIs
def J74(td ty:TE):TE:=λσ H Q=>td σ H λx H1=>ty σ H1 λy H2=>∃a v,x= .ref a/\D8 H2 a y (some v)/\Q v H2
def Jax(ty td:TE):TE:=λσ H Q=>ty σ H λy H1=>td σ H1 λx H2=>∃a o,x= .ref a/\D8 H2 a y o/\Q (.bl o.isSome) H2
def Vx(ty td:TE):TE:=λσ H Q=>ty σ H λy H1=>td σ H1 λx H2=>∃a o,x= .ref a/\D8 H2 a y o/\Q (.bl (!o.isSome)) H2
def J75(td ty tv:TE):TS:=λD σ H=>tv σ H λv H1=>td σ H1 λx H2=>ty σ H2 λy H3=>∃a H4,x= .ref a/\Ke H3 a y v H4/\D.nx σ H4
section
variable {X:Cx}{o i e value:Expr}{pos pos' tpos:Pos}{td ty tv:TE}
theorem Vy(hu:X.A.units+1 < cLine)(ho:PE X o td)(hi:PE X i ty)(hs:Jaw i):PE X (.Subscript o i pos) (J74 td ty):=by
 intro pins s σ H Q I h;refine J5e PySem.F.slot_dict_getitem.lookup hs (thn (ho pins s σ H _ I h) λu s1 ⟨x,H1,I1,rx,q1⟩=>thn (hi pins s1 σ H1 _ I1 q1) λiv s2 hq_=>?_);obtain⟨y,H2,I2,ry,a,v,ex,g,q2⟩:=hq_;subst ex;obtain rfl:u=Value.ref a:=rx;exact⟨Sb I2 g,Yq hu I2 g ry λw' s3 I3 rw'=>⟨v,H2,I3,rw',q2⟩⟩
theorem Q6(hu:X.A.units+1 < cLine)(hi:PE X i ty)(ho:PE X o td):PC X .In i o (Jax ty td):=by
 intro pins s σ H Q I h;refine thn (hi pins s σ H _ I h) λiv s1 ⟨y,H1,I1,ry,q1⟩=>thn (ho pins s1 σ H1 _ I1 q1) λu s2 hq_=>?_;obtain⟨x,H2,I2,rx,a,ov,ex,g,q2⟩:=hq_;subst ex;obtain rfl:u=Value.ref a:=rx
 exact Jcf hu I2 g ry λs3 I3=>⟨.bl ov.isSome,H2,I3,rfl,q2⟩
theorem Ys(hu:X.A.units+1 < cLine)(hi:PE X i ty)(ho:PE X o td):PC X .NotIn i o (Vx ty td):=by
 intro pins s σ H Q I h;refine thn (hi pins s σ H _ I h) λiv s1 ⟨y,H1,I1,ry,q1⟩=>thn (ho pins s1 σ H1 _ I1 q1) λu s2 hq_=>?_;obtain⟨x,H2,I2,rx,a,ov,ex,g,q2⟩:=hq_;subst ex;obtain rfl:u=Value.ref a:=rx
 exact J5d hu I2 g ry λs3 I3=>⟨.bl (!ov.isSome),H2,I3,rfl,q2⟩
theorem Dd(hu:X.A.units+1 < cLine)(ho:PE X o td)(hi:PE X i ty)(hv:PE X value tv)(hs:swapsWith value (some (.Subscript o i pos')) pos.line X.env=pure false):
 PS X (.Assign [.Subscript o i pos'] value pos) (J75 td ty tv):=by
 intro pins s σ H D I h;refine wpAny_Assign_Subscript (thn (hv pins s σ H _ I h) λr s1 ⟨v,H1,I1,rv,q1⟩=>thn (ho pins s1 σ H1 _ I1 q1) λu s2 ⟨x,H2,I2,rx,q2⟩=>thn (hi pins s2 σ H2 _ I2 q2) λiv s3 hq_=>?_) hs;obtain⟨y,H3,I3,ry,a,H4,ex,g,q3⟩:=hq_;subst ex;obtain rfl:u=Value.ref a:=rx
 exact Yr hu I3 g ry rv λs4 I4=>⟨σ,H4,I4,q3⟩
end
theorem J1c{w:World}{H:Hp}(h:Heap)(hb:sysModules < h.objs.size):Bk P w H (h.push {cls:= .type "dict",data:= .dict #[]}) h.objs.size (.dK []):=
 ⟨FP _,Hh.mpr (Ne.symm (Fv hb)),[],.nil,Heap.DictOf.new h⟩
def J1d:TE:=λ_ H Q=>∀p,H p=none->Q (.ref p) (upd H p (.dK []))
section
variable {X:Cx}{pos:Pos}
theorem C1:PE X (.Dict [] [] pos) J1d:=λpins s σ H Q I h=>
 wpAny_Dict_empty ⟨.ref s.heap.objs.size,_,I.laid (a:=s.heap.objs.size) (o:= .dK []) (t':=s.toks) (λ_ _ q=>Fe _ q) (Fg _) (J1c s.heap I.big),rfl,h _ (I.hok.fresh (Fg _))⟩
end
def J1e:List (TE×TE)->St->Hp->(List (V×V)->Hp->Prop)->Prop
 | [],_,H,Q=>Q [] H
 | (tk,tv)::r,σ,H,Q=>tk σ H λx H1=>tv σ H1 λy H2=>J1e r σ H2 λps H3=>Q ((x,y)::ps) H3
def J1f(kvs more:List (Key×V)):List (Key×V):=more.foldl (λacc kv=>Cj acc kv.1 kv.2) kvs
def Jay(trs:List (TE×TE)):TE:=λσ H Q=>∀p,H p=none->J1e trs σ (upd H p (.dK [])) λps H2=>H2 p=some (.dK [])/\∃kvs:List (Key×V),ps=kvs.map (λkv=>(kV kv.1,kv.2))/\kvs.length<=15/\Q (.ref p) (upd H2 p (.dK (J1f [] kvs)))
structure M1(X:Cx)(o:Expr)(m:Str)(apos:Pos)(e:Expr)(cpos:Pos):Prop where
 base:attributeBase o m X.env (eval o X.env)=eval o X.env
 few:((backTo cpos (starEach [e] X.env)).all (λx=>!x.1) && (backToKw cpos (keywordEach [] X.env)).all (λx=>x.1.isSome)
  && decide (([e]:List Expr).length+([]:List Keyword).length+(if ([]:List Keyword).isEmpty then 0 else 1) < 30))=true
 line:(apos.endLine==cpos.line)=true
 trees:backTo cpos (starEach [e] X.env)=[(false,eval e X.env)]
structure M2(X:Cx)(o:Expr)(m:Str)(apos:Pos)(e f:Expr)(cpos:Pos):Prop where
 base:attributeBase o m X.env (eval o X.env)=eval o X.env
 few:((backTo cpos (starEach [e,f] X.env)).all (λx=>!x.1) && (backToKw cpos (keywordEach [] X.env)).all (λx=>x.1.isSome)
  && decide (([e,f]:List Expr).length+([]:List Keyword).length+(if ([]:List Keyword).isEmpty then 0 else 1) < 30))=true
 line:(apos.endLine==cpos.line)=true
 trees:backTo cpos (starEach [e,f] X.env)=[(false,eval e X.env),(false,eval f X.env)]
def IsD(H:Hp)(a:Addr):Prop:=(∃kvs,Rd H a (.dK kvs))\/∃kvs,Rd H a (.dT kvs)
theorem J1g{H:Hp}{s:Shared}{a:Addr}(I:Inv X pins σ H s)(d:IsD H a):
 s.TypeIs (.ref a) "dict"/\(∀b,Value.ref a= .ref b->∃ob,s.heap.get? b=some ob/\ob.dict=none)/\(a==sysModules)=false:=by
 rcases d with ⟨kvs,e⟩ | ⟨kvs,e⟩
 . obtain⟨_,hd,vs,_,dd⟩:=Mb I.hok e
   refine⟨dd.typeIs,λb q=>?_,hd⟩;cases q;obtain⟨ob,_,_,h1,h2,_⟩:=dd;exact⟨ob,h1,h2.2.1⟩
 . obtain⟨_,hd,xs,_,dd⟩:=Nq I.hok e
   refine⟨dd.typeIs,λb q=>?_,hd⟩;cases q;obtain⟨ob,_,_,h1,h2,_⟩:=dd;exact⟨ob,h1,h2.2.1⟩
section
variable {X:Cx}{pins:List (Addr×Obj)}{σ:St}{H:Hp}{s:Shared}{a:Addr}{y d:V}{u r:Value}{o:Option V}{A:Around}{E:Value->Shared->Prop}
theorem J8u{Q:Value->Shared->Prop}(hu:A.units+1 < cLine)(I:Inv X pins σ H s)(g:D8 H a y o)(ry:Au y u)(rd:Au d r)(h:∀w' s',Inv X pins σ H s'->Au (o.getD d) w'->Q w' s'):
 wpAny (model X.prog X.w) A (call (.builtin "dict.get") [.ref a,u,r]) Q E s:=by
 rcases g with ⟨kvs,k,e,ey,l⟩ | ⟨kvs,k,b,e,ey,eb,l⟩
 . subst ey
   obtain⟨z,hd,vs,rel,dd⟩:=Mb I.hok e;refine RJ Ru dd.typeIs PySem.F.entry_dict_get (PySem.F.args_dict_get_3 _ _ _) (meets_dict_get_default (Bb X.prog X.w) a (Np ry) hd r) ⟨_,dd.mapOf,h _ _ (I.tok _) ?_⟩;rw[l];exact(rel.val k).getD rd
 . subst ey
   cases (show u=Value.ref b from ry);obtain⟨z,hd,xs,rel,dd⟩:=Nq I.hok e;refine RJ Ru dd.typeIs PySem.F.entry_dict_get (PySem.F.args_dict_get_3 _ _ _) (meetsH_dict_get_default (tupleKind (Bb X.prog X.w)) a b hd r) ⟨HU hu,k,xs,Lr I.hok eb,dd,h _ _ (I.tok _) ?_⟩;rw[l];exact(rel.val k).getD rd
end
def J8v(td ty:TE):TE:=λσ H Q=>td σ H λx H1=>∃a,x= .ref a/\IsD H1 a/\ty σ H1 λy H2=>∃o,D8 H2 a y o/\Q (o.getD .non) H2
def J1h(td ty tx:TE):TE:=λσ H Q=>td σ H λx H1=>∃a,x= .ref a/\IsD H1 a/\ty σ H1 λy H2=>tx σ H2 λz H3=>∃o,D8 H3 a y o/\Q (o.getD z) H3
def J1i(td ty:TE):TE:=λσ H Q=>td σ H λx H1=>∃a,x= .ref a/\IsD H1 a/\ty σ H1 λy H2=>∃kvs k v,H2 a=some (.dK kvs)/\y=kV k/\B1 kvs k=some v/\Q v (upd H2 a (.dK (C7 kvs k)))
section
variable {X:Cx}{o e f:Expr}{apos cpos:Pos}{td ty tx:TE}
theorem Es(hu:X.A.units+1 < cLine)(ho:PE X o td)(he:PE X e ty)(hf:PE X f tx)(m:M2 X o "get" apos e f cpos):PE X (.Call (.Attribute o "get" apos) [e,f] [] cpos) (J1h td ty tx):=by
 intro pins s σ H Q I h;refine wpAny_Call_method m.base m.few m.line Rh Ru PySem.F.type_dict_get (thn (ho pins s σ H _ I h) λu s1 hq_=>?_);obtain⟨x,H1,I1,rx,a,ex,d,q1⟩:=hq_;subst ex;obtain rfl:u=Value.ref a:=rx;obtain⟨t1,t2,_⟩:=J1g I1 d;refine⟨t1,t2,?_⟩;rw[m.trees]
 refine Calls.callWith_builtin rfl (Calls.evalArgs_plain (Calls.spliced_cons (thn (he pins s1 σ H1 _ I1 q1) λiv s2 ⟨y,H2,I2,ry,q2⟩=>
  Calls.spliced_cons (thn (hf pins s2 σ H2 _ I2 q2) λfv s3 ⟨z,H3,I3,rz,ov,g,q3⟩=>Calls.spliced_nil ?_))))
 exact J8u hu I3 g ry rz λw' s4 I4 rw'=>⟨_,H3,I4,rw',q3⟩
theorem Sd(ho:PE X o td)(he:PE X e ty)(m:M1 X o "pop" apos e cpos):PE X (.Call (.Attribute o "pop" apos) [e] [] cpos) (J1i td ty):=by
 intro pins s σ H Q I h;refine wpAny_Call_method m.base m.few m.line Rh PySem.F.slot_dict_pop PySem.F.type_dict_pop (thn (ho pins s σ H _ I h) λu s1 hq_=>?_);obtain⟨x,H1,I1,rx,a,ex,d,q1⟩:=hq_;subst ex;obtain rfl:u=Value.ref a:=rx;obtain⟨t1,t2,_⟩:=J1g I1 d;refine⟨t1,t2,?_⟩;rw[m.trees];refine Calls.callWith_builtin rfl (Calls.evalArgs_plain (Calls.spliced_cons (thn (he pins s1 σ H1 _ I1 q1) λiv s2 ⟨y,H2,I2,ry,kvs,k,v,ea,ey,l,q2⟩=>Calls.spliced_nil ?_)));subst ey
 exact Jau I2 ea ry l (.inl rfl) λw' s3 I3 rw'=>⟨v,_,I3,rw',q2⟩
end
section
variable {X:Cx}
theorem Yt:Ep X (.builtin "len") (λxs H Q=>∃a kvs,xs=[V.ref a]/\H a=some (.dK kvs)/\Q (.int kvs.length) H):=by
 intro pins s σ H xs us Q I r h;obtain⟨a,kvs,rfl,ha,q⟩:=h;obtain⟨u,rfl,ru⟩:=Ma r;cases ru
 exact Jav I (.inl ha) λt s' I'=>⟨.int kvs.length,H,I',⟨t,rfl⟩,q⟩
end
section
variable {κ:Type} [DecidableEq κ]
theorem J1j{kvs:List (κ×V)}{k:κ}(h:B1 kvs k=none):¬k∈kvs.map (·.1):=by
 intro m;obtain⟨p,hp,e⟩:=FK.mp m;have q:(kvs.any λkv=>decide (kv.1=k))=true:=Rl.mpr ⟨p,hp,Fj e⟩;rw[D1,h]at q;exact absurd q (by simp)
theorem J5f{kvs:List (κ×V)}{k:κ}{v:V}(h:B1 kvs k=some v):k∈kvs.map (·.1):=by
 have q:(kvs.any λkv=>decide (kv.1=k))=true:=by
  rw[D1,h]
  all_goals rfl
 obtain⟨p,hp,e⟩:=Rl.mp q;exact FK.mpr ⟨p,hp,RH e⟩
end
structure Def(P:Program)(w:World)(K:PySem.W.Frag)(mg:Str->Option Value)(base:Heap)(CX:CXT)(k:Nat)(x:Str)(ps:List Str)(sp:Sp):Prop where
 ex:∃(f:Addr) (fd:FuncData),Ai P w K mg base CX k f fd ps sp/\mg x=some (.ref f)/\PySem.W.keepIn K (.ref f)=true/\Bl K fd ps []
def J1k(sp:Sp)(E:XK)(t:TA):TE:=λσ H Q=>t σ H λvs H1=>sp vs H1 Q E
section
variable {X:Cx}{CX:CXT}{k j:Nat}{ps:List Str}{sp:Sp}{E:XK}{x:Str}{p pos:Pos}{e:Expr}{es:List Expr}{t:TA}
theorem Ae(D:Def X.prog X.w X.K X.mg X.base CX j x ps sp)(hr:Bt k X.A)(hg:Gl X x)(hx:Kh CX X E)(ha:PA X (e::es) t)(hj:j<=k:=by decide)
 (hdb:(x==("__debug__":Str))=false:=by decide) (he:starEach (e::es) X.env=(false,eval e X.env)::starEach es X.env:=by rfl) (hpl:(backTo pos (starEach es X.env)).any (·.1)=false:=by rfl):
 PE X (.Call (.Name x p) (e::es) [] pos) (J1k sp E t):=by
 obtain⟨f,fd,F,hm,hk,hb⟩:=D.ex;intro pins s σ H Q I h;refine J56 (F.mono hj) hr hg hm hk hb .nil hx ha hdb he hpl pins s σ H Q I ?_;show t σ H λvs H1=>sp (vs++[]) H1 Q E
 have z:(λ(vs:List V) (H1:Hp)=>sp (vs++[]) H1 Q E)=λvs H1=>sp vs H1 Q E:=by funext vs H1;rw[Ha]
 rw[z];exact h
end
def Jcg(i j:Int):Prop:=i.natAbs < 10 ^ 100/\j.natAbs < 10 ^ 100
theorem Vz:(10:Nat) ^ 100<=2 ^ 1000:=by decide+kernel
theorem W0{i:Int}(h:i.natAbs < 10 ^ 100):Builtin.Int.intBits i<=2 ^ 20:=by
 have h1:Builtin.Int.intBits i<=1000:=by
  unfold Builtin.Int.intBits;split
  . omega
  . rename_i hne
    have:=(Nat.log2_lt (n:=i.natAbs) (k:=1000) (by simpa using hne)).mpr (Fl h Vz);omega
 exact FE h1 (by decide)
section
variable {X:Cx}
theorem J5g:OpR X (binaryOp .Mult) (rI Jcg λi j=> .int (i * j)):=opI λ_ _ _ _ _ _ _ hc q=>mul_int q (.of_bits (W0 hc.1) (W0 hc.2))
theorem J1l:OpR X (binaryOp .FloorDiv) (rI (λ_ j=>j≠0/\j.natAbs < 10 ^ 100) λi j=> .int (i.fdiv j)):=opI λi j _ _ _ _ _ hc q=>by
 refine floordiv_int hc.1 q (.inl (PyProof.noPylong_of_log2 ?_))
 have h0:j.natAbs≠0:=by have:=hc.1;omega
 exact Nat.lt_trans ((Nat.log2_lt h0).mpr (Fl hc.2 Vz)) (by decide)
end
def Isi(K:PySem.W.Frag)(H:Hp)(x:V)(n:String)(b:Bool):Prop:=∃t,Lq K H x t/\PySem.W.kitOne K t (.type n)=some b
section
variable {X:Cx}
theorem Gz:Ep X (.builtin "isinstance") (λxs H Q=>∃x n b,xs=[x,.ty n]/\Isi X.K H x n b/\Q (.bl b) H):=by
 intro pins s σ H xs us Q I r h;obtain⟨x,n,b,rfl,⟨t,ty,e⟩,q⟩:=h;obtain⟨u,c,rfl,r1,r2⟩:=Vt r;cases r2
 exact Yn I r1 ty e λtk=>⟨.bl b,H,I.tok _,rfl,q⟩
end
section
variable {K:PySem.W.Frag}{H:Hp}
theorem J1m{i:Int}:Isi K H (.int i) "int" true:=⟨_,.int i,rfl⟩
theorem J1n{i:Int}:Isi K H (.int i) "bool" false:=⟨_,.int i,by with_unfolding_all rfl⟩
theorem J8w{i:Int}:Isi K H (.int i) "str" false:=⟨_,.int i,by with_unfolding_all rfl⟩
theorem J1o{i:Bool}:Isi K H (.bl i) "bool" true:=⟨_,.bl i,rfl⟩
theorem J1p{i:Bool}:Isi K H (.bl i) "int" true:=⟨_,.bl i,by with_unfolding_all rfl⟩
theorem J8x{i:Bool}:Isi K H (.bl i) "str" false:=⟨_,.bl i,by with_unfolding_all rfl⟩
theorem J8y{i:Str}:Isi K H (.str i) "str" true:=⟨_,.str i,rfl⟩
theorem J1q{i:Str}:Isi K H (.str i) "int" false:=⟨_,.str i,by with_unfolding_all rfl⟩
theorem J8z{i:Str}:Isi K H (.str i) "bool" false:=⟨_,.str i,by with_unfolding_all rfl⟩
theorem J1r:Isi K H .non "int" false:=⟨_,.non,by with_unfolding_all rfl⟩
theorem J90:Isi K H .non "str" false:=⟨_,.non,by with_unfolding_all rfl⟩
theorem J1s{a:Addr}(e:H a=some (.lst xs)):Isi K H (.ref a) "list" true:=⟨_,.lst e,rfl⟩
theorem J1t{a:Addr}(e:H a=some (.lst xs)):Isi K H (.ref a) "str" false:=⟨_,.lst e,by with_unfolding_all rfl⟩
theorem Se{a:Addr}(e:H a=some (.lst xs)):Isi K H (.ref a) "int" false:=⟨_,.lst e,by with_unfolding_all rfl⟩
theorem J1u{a:Addr}(e:H a=some (.lst xs)):Isi K H (.ref a) "tuple" false:=⟨_,.lst e,by with_unfolding_all rfl⟩
theorem J1v{a:Addr}(e:H a=some (.tup xs)):Isi K H (.ref a) "tuple" true:=⟨_,.tup e,rfl⟩
theorem J1w{a:Addr}(e:H a=some (.tup xs)):Isi K H (.ref a) "str" false:=⟨_,.tup e,by with_unfolding_all rfl⟩
theorem Sf{a:Addr}(e:H a=some (.tup xs)):Isi K H (.ref a) "int" false:=⟨_,.tup e,by with_unfolding_all rfl⟩
theorem J1x{a:Addr}(e:H a=some (.tup xs)):Isi K H (.ref a) "list" false:=⟨_,.tup e,by with_unfolding_all rfl⟩
theorem J91{x:V}{n:String}{b:Bool}{R:Bool->Prop}(h:Isi K H x n b)(q:R b):∃b,Isi K H x n b/\R b:=⟨b,h,q⟩
theorem J5h{p:Addr}{R:List V->Prop}(h:SqL K H p xs)(q:R xs):∃ys,(SqL K H p ys\/SqT K H p ys)/\R ys:=⟨xs,.inl h,q⟩
theorem J5i{p:Addr}{R:List V->Prop}(h:SqT K H p xs)(q:R xs):∃ys,(SqL K H p ys\/SqT K H p ys)/\R ys:=⟨xs,.inr h,q⟩
theorem V2{p:Addr}{i:Int}{v:V}(h:SqT K H p xs)(e:atI xs i=some v)(q:Q v H):Jan K (.ref p) (.int i) H Q:=⟨p,xs,i,v,rfl,rfl,h,e,q⟩
theorem Ck{p:Addr}{xs:List V}{i:Int}{v:V}(h:SqL K H p xs)(e:atI xs i=some v)(q:Q v H):J8r K (.ref p) (.int i) H Q:=⟨p,xs,i,v,rfl,rfl,h,e,q⟩
end
theorem W1{c:TT}{tb:TS}{H:Hp}{m0:Nat}(Pv:Nat->St->Hp->Prop)(h0:Pv m0 σ H)
 (hs:∀m σ H,Pv m σ H->c σ H λb H1=>if b=true then ∃N:St->Hp->Prop,(∀σ' H',N σ' H'->∃m',m' < m/\Pv m' σ' H')/\tb {D with nx:=N,ct:=N,bk:=D.nx} σ H1 else D.nx σ H1):J0p c tb D σ H:=⟨Pv,⟨m0,h0⟩,hs⟩
theorem Q7{xs:List α}{i:Int}{v:α}(h0:0<=i)(h:xs[i.toNat]?=some v):atI xs i=some v:=by
 unfold atI ixN;have hl:i.toNat < xs.length:=(Fh.mp h).1;rw[if_pos h0,if_pos (show i < xs.length by omega)];exact h
theorem J1y{w:World}{K:PySem.W.Frag}{mg:Str->Option Value}{base:Heap}{N:List Str}{f:Addr}{cd:Value}{A:Around}{outer:List Env}{s:Shared}{H:Hp}{E:XK}:
 (Gy CX P w K mg base N qual scope f cd A outer s H E).K=K:=rfl
theorem J92{ns:List Int}{k:Nat}(h:k < ns.length):(ns.map V.int)[k]?=some (V.int (ns.getD k 0)):=by
 rw[Ff,Fd,Fb h];rfl
theorem Aa.tup{K:PySem.W.Frag}{H H':Hp}{a:Addr}{xs:List V}(e:Aa H H')(h:SqT K H a xs):SqT K H' a xs:=by
 rcases h with (h | ⟨o,h⟩) | h
 . exact .inl (.inl (e _ _ h))
 . exact .inl (.inr ⟨o,e _ _ h⟩)
 . exact .inr h
theorem Aa.new{H:Hp}{p:Addr}{o:HO}(h:H p=none):Aa H (upd H p o):=λb u e=>by
 rw[A5 (Ab e h)];exact e
section
variable {σ:St}{H:Hp}{Q:VK}{QT:Bool->Hp->Prop}{QA:List V->Hp->Prop}{D:Dh}{K:PySem.W.Frag}
theorem J1z:J0o te g D σ H=te σ H λx H1=>g x σ H1 D.nx:=rfl
theorem J20{i:Nat}:J8f i σ H Q=∃v,σ[i]?=some (some v)/\Q v H:=rfl
theorem Jaz{v:V}:tC v σ H Q=Q v H:=rfl
theorem J76{r:R2}{ta tb:TE}:tOp r ta tb σ H Q=ta σ H λx H1=>tb σ H1 λy H2=>r x y H2 Q:=rfl
theorem J77{g:Int->Int->V}{x y:V}:rI0 g x y H Q=∃i j,x= .int i/\y= .int j/\Q (g i j) H:=rfl
theorem Jb0{C:Int->Int->Prop}{g:Int->Int->V}{x y:V}:rI C g x y H Q=∃i j,x= .int i/\y= .int j/\C i j/\Q (g i j) H:=rfl
theorem Jb1{g:Int->V}{x:V}:rU g x H Q=∃i,x= .int i/\Q (g i) H:=rfl
theorem W4{i:Nat}{v:V}{N:St->Hp->Prop}:Cy i v σ H N=N (σ.set i (some v)) H:=rfl
theorem J21{c:TT}{t u:TS}:Jaa c t u D σ H=c σ H λb H1=>if b=true then t D σ H1 else u D σ H1:=rfl
theorem W6{t:TE}:J70 t σ H QT=t σ H λx H'=>∃k,x= .bl k/\QT k H':=rfl
theorem Jb2{t:TE}:tB t σ H QT=t σ H λx H1=>∃c,x= .bl c/\QT c H1:=rfl
theorem J22:Ja8 te D σ H=te σ H D.rt:=rfl
theorem W7:Ja9 D σ H=D.rt .non H:=rfl
theorem W8:J0m D σ H=D.nx σ H:=rfl
theorem Sg:J8k D σ H=D.bk σ H:=rfl
theorem W9:Ja7 D σ H=D.ct σ H:=rfl
theorem J78{r:List V->Hp->VK->Prop}{t:TA}:tCB r t σ H Q=t σ H λvs H1=>r vs H1 Q:=rfl
theorem Wa{ta:TE}{tr:TA}:S5 ta tr σ H QA=ta σ H λx H1=>tr σ H1 λxs H2=>QA (x::xs) H2:=rfl
theorem J23:J8p σ H QA=QA [] H:=rfl
theorem Wb{sp:Sp}{E:XK}{t:TA}:J1k sp E t σ H Q=t σ H λvs H1=>sp vs H1 Q E:=rfl
theorem J24{t:TT}:Ja3 t σ H QT=t σ H λc H1=>QT (!c) H1:=rfl
theorem J79{t u:TT}:tOr t u σ H QT=t σ H λc H1=>if c=true then QT true H1 else u σ H1 QT:=rfl
theorem J25{t u:TT}:Ja2 t u σ H QT=t σ H λc H1=>if c=true then u σ H1 QT else QT false H1:=rfl
theorem Wc{ta tb:TE}:J6t ta tb σ H Q=ta σ H λx H1=>∃c,x= .bl c/\if c=true then tb σ H1 Q else Q (.bl false) H1:=rfl
theorem J26{ta tb:TE}:Ja4 ta tb σ H Q=ta σ H λx H1=>∃c,x= .bl c/\if c=true then Q (.bl true) H1 else tb σ H1 Q:=rfl
theorem Wd{ta:TE}:J6u ta σ H Q=ta σ H λx H1=>∃c,x= .bl c/\Q (.bl (!c)) H1:=rfl
theorem J7a{t:TT}{ta tb:TE}:tIf t ta tb σ H Q=t σ H λc H1=>if c=true then ta σ H1 Q else tb σ H1 Q:=rfl
theorem J7b{r:V->Hp->VK->Prop}{ta:TE}:tUn r ta σ H Q=ta σ H λx H1=>r x H1 Q:=rfl
theorem J7c{x y:V}:rEq x y H Q=(scal x y=true/\Q (.bl (decide (x=y))) H):=rfl
theorem J7d{x y:V}:rNe x y H Q=(scal x y=true/\Q (.bl (!decide (x=y))) H):=rfl
theorem J27{i j:Nat}{ta:TA}:Jcb i j ta D σ H=ta σ H λvs H1=>∃v w,vs=[v,w]/\D.nx ((σ.set i (some v)).set j (some w)) H1:=rfl
theorem J28{t:TA}:Jak t σ H Q=t σ H λxs H1=>xs.length<=sizeLine/\∀p,H1 p=none->Q (.ref p) (upd H1 p (.tup xs)):=rfl
theorem J29{t:TA}:Jal t σ H Q=t σ H λxs H1=>xs.length<=sizeLine/\∀p,H1 p=none->Q (.ref p) (upd H1 p (.lst xs)):=rfl
theorem Sh:J0n D σ H=False:=rfl
theorem We:J6v te D σ H=te σ H λ_ H1=>D.nx σ H1:=rfl
theorem Si{t:TG}{u:TGs}{vs:List V}{N:St->Hp->Prop}:Nb t u vs σ H N=∃v r,vs=v::r/\t v σ H λσ' H'=>u r σ' H' N:=rfl
theorem Wf{vs:List V}{N:St->Hp->Prop}:J52 vs σ H N=(vs=[]/\N σ H):=rfl
theorem Wg{to ti:TE}{t:Jab}{v:V}{N:St->Hp->Prop}:Jca to ti t v σ H N=to σ H λo H1=>ti σ H1 λi H2=>t o i v H2 λH3=>N σ H3:=rfl
theorem Sj{r r':R2}{ta tb tc:TE}:J0v r r' ta tb tc σ H Q=ta σ H λx H1=>tb σ H1 λy H2=>r x y H2 λz H3=>∃k,z= .bl k/\
 (if k=true then tc σ H3 λw' H4=>r' y w' H4 Q else Q (.bl false) H3):=rfl
theorem Wh{ta:TA}{R:It->Hp->Prop}:J6x ta σ H R=ta σ H λvs H1=>∃j:Int,vs=[.int j]/\-(2 ^ 62)<=j/\j < 2 ^ 62/\R (Itr 0 j.toNat) H1:=rfl
theorem Wi{ta:TA}{R:It->Hp->Prop}:J6y ta σ H R=ta σ H λvs H1=>∃i j:Int,vs=[.int i,.int j]/\(-(2 ^ 62)<=i/\i < 2 ^ 62/\-(2 ^ 62)<=j/\j < 2 ^ 62)/\R (Itr i (j - i).toNat) H1:=rfl
theorem Sk{tl:TE}{R:It->Hp->Prop}:J6w K tl σ H R=tl σ H λx H1=>∃a,x= .ref a/\(∃xs,SqL K H1 a xs)/\R (Itl K a) H1:=rfl
theorem Wj{tl:TE}{R:It->Hp->Prop}:Jcd K tl σ H R=tl σ H λx H1=>∃a,x= .ref a/\(∃xs,SqT K H1 a xs)/\R (Itt K a) H1:=rfl
def Mm(g:TG)(tb:TS)(D:Dh)(σ:St):It->Hp->Prop:=λJ H1=>∃W:Nat->Nat->St->Hp->Prop,(∃m,W 0 m σ H1)/\∀i m σ H,W i m σ H->
 (J.stop i H/\D.nx σ H)\/(J.go i H/\∃N:St->Hp->Prop,(∀σ' H',N σ' H'->∃m',m' < m/\W (i+1) m' σ' H')/\∀x H',J.yld i H x H'->g x σ H' λσ2 H2=>tb {D with nx:=N,ct:=N,bk:=D.nx} σ2 H2)
theorem Wk{tb:TS}:Jac wi g tb D σ H=wi σ H (Mm g tb D σ):=rfl
theorem Wl{lo:Int}{n:Nat}{tb:TS}(Pv:Nat->St->Hp->Prop)(h0:Pv 0 σ H)
 (hs:∀i σ H,i < n->Pv i σ H->g (.int (lo+i)) σ H λσ2 H2=>tb {D with nx:=Pv (i+1),ct:=Pv (i+1),bk:=D.nx} σ2 H2) (hd:∀σ H,Pv n σ H->D.nx σ H):Mm g tb D σ (Itr lo n) H:=Yj Pv h0 hs hd
theorem Wm{a:Addr}{xs:List V}{tb:TS}(Pv:Nat->St->Hp->Prop)(h0:Pv 0 σ H)(hl:∀i σ H,i<=xs.length->Pv i σ H->SqL K H a xs)
 (hs:∀i x σ H,xs[i]?=some x->Pv i σ H->g x σ H λσ2 H2=>tb {D with nx:=Pv (i+1),ct:=Pv (i+1),bk:=D.nx} σ2 H2) (hd:∀σ H,Pv xs.length σ H->D.nx σ H):Mm g tb D σ (Itl K a) H:=J0s Pv h0 hl hs hd
theorem J93{t u:TS}(h:∀rest:St->Hp->Prop,rest=u D->t {D with nx:=rest} σ H):Ja6 t u D σ H:=h _ rfl
theorem J5j{rest r:St->Hp->Prop}(h:rest=r)(q:r σ H):rest σ H:=by rw[h];exact q
theorem J5k{a:Addr}{ns:List Int}{k:Int}{R:List Int->Prop}(h:SqL K H a (ns.map V.int))(h0:0<=k)(hl:ns.length<=63)(q:R ns):∃x:List Int,SqL K H a (x.map V.int)/\0<=k/\x.length<=63/\R x:=⟨ns,h,h0,hl,q⟩
theorem Iy{i j:Int}(h1:0 < j)(h2:j < 1073741824):Jae i j:=⟨h1,h2⟩
theorem J5l{i j:Int}(h1:0<=j)(h2:j<=1000000)(h3:i.natAbs < 2 ^ 64):Jaf i j:=⟨h1,h2,h3⟩
theorem J94{i j:Int}(h1:-(2 ^ 64) < i)(h2:i < 2 ^ 64):Us i j:= .inl ⟨h1,h2⟩
theorem J95{i j:Int}(h1:-(2 ^ 64) < j)(h2:j < 2 ^ 64):Us i j:= .inr ⟨h1,h2⟩
end
section
variable {P:Program}{w:World}{H:Hp}{h:Heap}{a:Addr}{o:HO}
theorem Bk.there(x:Bk P w H h a o):∃ob,h.get? a=some ob:=by
 cases o with
 | lst xs=>obtain⟨_,_,_,_,e⟩:=x;exact⟨_,e⟩
 | tup xs=>obtain⟨_,_,_,_,e,_⟩:=x;exact⟨_,e⟩
 | dK kvs=>obtain⟨_,_,_,_,_,_,_,e,_⟩:=x;exact⟨_,e⟩
 | dT kvs=>obtain⟨_,_,_,_,_,_,_,e,_⟩:=x;exact⟨_,e⟩
 | set S n=>obtain⟨_,_,_,_,e,_⟩:=x;exact⟨_,e⟩
 | ins C dx fs=>obtain⟨_,_,_,e,_⟩:=x;exact⟨_,e⟩
 | own y=>exact x
 | xd fs=>obtain⟨_,⟨_,_,_,e,_⟩,_⟩:=x;exact⟨_,e⟩
 | rng lo hi=>obtain⟨_,_,_,e⟩:=x;exact⟨_,e⟩
 | frz ob u=>exact⟨_,x.1⟩
 | tbl ps=>exact⟨_,x⟩
 | met f y=>exact⟨_,x⟩
 | ext φ=>exact x.2.1
theorem HOk.there(x:HOk P w H h)(e:H a=some o):∃ob,h.get? a=some ob:=(x a o e).there
end
def Ki(fs:List Addr)(H':Hp)(g h B:Heap):Prop:=∀b o,h.get? b=some o->b∉fs->(H' b≠none\/∃u,g.get? b=some u)->B.get? b=some o
section
variable {P:Program}{w:World}
theorem Q8{fs:List Addr}{H0:Hp}{g h h3 B:Heap}(u:Un fs [] H0 H' g h)(ok:HOk P w H' h)
 (hfr:∀b∈fs,∃o,g.get? b=some o/\∀vs,o.data≠ .fields vs) (hf0:∀b∈fs,H0 b=none) (hB:Ki fs H' g h B) (st:B.StaysIn h3) (up:h.UpToSlots h3):
 Un fs [] H0 H' g h3/\HOk P w H' h3/\Ki fs H' g h3 B:=by
 have fr':∀b∈fs,H' b=none:=λb hb=>by
  obtain⟨o,ho,_⟩:=hfr b hb;exact u.free b o ho (hf0 b hb) (by simp)
 have tr:∀b o,H' b=some o->b∉fs:=λb o e hb=>by rw[fr' b hb]at e;cases e
 have kp:∀b ob,h.get? b=some ob->b∉fs->(H' b≠none\/∃u,g.get? b=some u)->h3.get? b=some ob:=λb ob e n c=>st b ob (hB b ob e n c)
 have sl:∀b o,g.get? b=some o->H0 b=none->b∈fs->b∉([]:List Addr)->∃sl,h3.get? b=some {o with slots:=sl}:=λb o e n hb hx=>by
  obtain⟨sl,e1⟩:=u.slot b o e n hb hx;obtain⟨o',e',d⟩:=hfr b hb;rw[e]at e';cases e';obtain⟨sl2,e2⟩:=up b _ e1 d;exact⟨sl2,e2⟩
 refine⟨⟨λb o e n hb hx=>kp b o (u.keep b o e n hb hx) hb (.inr ⟨o,e⟩),sl,u.free,λb o e hx=>?_,u.tups,u.frzs,u.tbls⟩,λa o e=>?_,λb o e hb c=>?_⟩
 . by_cases hb:b∈fs
   . obtain⟨s1,e1⟩:=sl b o e (hf0 b hb) hb hx
     exact⟨_,e1⟩
   . obtain⟨o',e1⟩:=u.there b o e hx
     exact⟨o',kp b o' e1 hb (.inr ⟨o,e⟩)⟩
 . refine(ok a o e).stay (λb v hc q=>kp b v q ?_ (.inl ?_)) (λ_ q=>q) λ_ _ q=>q
   . rcases hc with rfl | hc
     . exact tr _ _ e
     . exact tr _ _ hc
   . rcases hc with rfl | hc
     . rw[e];simp
     . rw[hc];simp
 . have z:∃o1,h.get? b=some o1:=by
    rcases c with c | ⟨u0,e0⟩
    . cases q:H' b with
      | none=>exact absurd q c
      | some v=>exact ok.there q
    . exact u.there b u0 e0 (by simp)
   obtain⟨o1,e1⟩:=z;have e2:=kp b o1 e1 hb c;rw[e]at e2;cases e2;exact hB b o e1 hb c
end
section
variable {X:Cx}{pins:List (Addr×Obj)}{σ:St}{H1 H2:Hp}{s1:Shared}{h2 h3 B:Heap}
theorem Inv.frm(I:Inv X pins σ H1 s1):∀b∈frs X.stack,∃o,s1.heap.get? b=some o/\∀vs,o.data≠ .fields vs:=λb hb=>(I.stack.mem hb).2
theorem J2a(I:Inv X pins σ H1 s1)(hex:X.ex=[])(u:Un (frs X.stack) [] H1 H2 s1.heap h2)(ok:HOk X.prog X.w H2 h2)(hB:Ki (frs X.stack) H2 s1.heap h2 B)(st:B.StaysIn h3)(up:h2.UpToSlots h3):
 Un X.fs [] X.H₀ H2 X.s₀.heap h3/\HOk X.prog X.w H2 h3/\Ki X.fs H2 X.s₀.heap h3 B:=by
 obtain⟨U,ok3,hB3⟩:=Q8 u ok I.frm I.stkFree hB st up;have bs:=I.base;rw[hex]at bs;have nl:∀b o,X.s₀.heap.get? b=some o->b≠X.env.locals:=λb o e=>Fv (Fl (Fm e) I.ok.above);have ns:∀b o,X.s₀.heap.get? b=some o->b∉X.fs->b∉frs X.stack:=λb o e n hb=>(Ft.mp (I.stkSub b hb)).elim (nl b o e) n
 have sub:∀b∈X.fs,b∈frs X.stack:=λb hb=>by
  rcases I.ok.stk with e | ⟨e,hf⟩
  . rw[e];exact hb
  . rw[e];unfold frs;rw[HM,hf];exact Fk _ hb
 have nt:∀b,H2 b≠none->b∉frs X.stack:=λb c hb=>by
  obtain⟨o,ho,_⟩:=I.frm b hb;exact c (U.free b o ho (I.stkFree b hb) (by simp))
 refine⟨⟨λb o e n hb hx=>?_,λb o e n hb hx=>?_,λb o e n hx=>?_,λb o e hx=>?_,λb xs e=>U.tups b xs (bs.tups b xs e),λb o v e=>U.frzs b o v (bs.frzs b o v e),λb ps e=>?_⟩,ok3,λb o e hb c=>?_⟩
 . exact U.keep b o (bs.keep b o e n hb hx) (bs.free b o e n hx) (ns b o e hb) hx
 . obtain⟨sl,e1⟩:=bs.slot b o e n hb hx
   obtain⟨sl2,e2⟩:=U.slot b _ e1 (bs.free b o e n hx) (sub b hb) hx;exact⟨sl2,e2⟩
 . obtain⟨o',e1⟩:=bs.there b o e hx
   exact U.free b o' e1 (bs.free b o e n hx) hx
 . obtain⟨o',e1⟩:=bs.there b o e hx
   exact U.there b o' e1 hx
 . obtain⟨m1,e1⟩:=bs.tbls b ps e
   obtain⟨m2,e2⟩:=U.tbls b _ e1;exact⟨m1++m2,by rw[e2,Array.append_assoc]⟩
 . rcases c with c | ⟨v,e0⟩
   . exact hB3 b o e (nt b c) (.inl c)
   . obtain⟨o',e1⟩:=bs.there b v e0 (by simp)
     exact hB3 b o e (ns b v e0 hb) (.inr ⟨o',e1⟩)
end
structure V3(K:PySem.W.Frag)(C:Addr):Prop where
 at_:∀h:Heap,K.In h->∃(nm q:Str) (N:Addr) (bs bm:List Value) (hdct:Bool) (sn:List Str) (sub:List Value) (ab:Bool) (col:Option Bool) (dd:Option Addr) (k0 k1 k2 k3 k5:Option Value) (mN:Str->Option Value),
  h.get? C=some (excClassObj nm q C N bs bm hdct sn sub ab col dd k0 k1 k2 k3 k5 "ValueError.__new__")/\h.Ns N mN/\mN "__init__"=none/\
  OwnTail h [.type "ValueError",.type "Exception",.type "BaseException",.type "object"] bm
def J96(C:Addr)(EE:St->XK)(t:TA):TS:=λ_ σ H=>t σ H λvs H1=>vs.length<=sizeLine/\∀x,H1 x=none->EE σ (.ref C) (some x) H1
def Ci(CX:CXT)(X:Cx)(EE:St->XK):Prop:=∀(pins:List (Addr×Obj)) (σ:St) (H:Hp) (s:Shared) (e:Value) (s':Shared),Inv X pins σ H s->CX X.stack H s (EE σ) e s'->X.xe e s'
def V4(sp:Sp)(EE:St->XK)(t:TA):TE:=λσ H Q=>t σ H λvs H1=>sp vs H1 Q (EE σ)
section
variable {X:Cx}{CX:CXT}{k j:Nat}{ps:List Str}{sp:Sp}{EE:St->XK}{x:Str}{p pos:Pos}{e:Expr}{es:List Expr}{t:TA}
theorem Sl(D:Def X.prog X.w X.K X.mg X.base CX j x ps sp)(hr:Bt k X.A)(hg:Gl X x)(hx:Ci CX X EE)(ha:PA X (e::es) t)(hj:j<=k:=by decide)
 (hdb:(x==("__debug__":Str))=false:=by decide) (he:starEach (e::es) X.env=(false,eval e X.env)::starEach es X.env:=by rfl) (hpl:(backTo pos (starEach es X.env)).any (·.1)=false:=by rfl):
 PE X (.Call (.Name x p) (e::es) [] pos) (V4 sp EE t):=by
 obtain⟨f,fd,F,hm,hk,hb⟩:=D.ex;intro pins s σ H Q I h;refine FV (Ef I hg hm ?_ hdb);refine FW (h₀:=X.base) I.ok.mod.kin hk (thn (ha pos pins s σ H _ I h) λus s1 ⟨vs,H1,I1,r,q⟩=>⟨I1.kIn,?_⟩) he hpl
 have hl:us.length=ps.length:=by rw[<- r.length];exact F.len _ _ _ _ q
 have hb':BindsTo s1 fd ⟨us,[]⟩ (ps.zip us):=by
  have z:=hb s1 us I1.kIn (by rw[Ha];exact hl);rw[Ha]at z;exact z
 refine HS (Ht (F.run X.A X.stack s1 H1 ⟨us,[]⟩ us vs Q (EE σ) (hr.mono hj) I1.env0 hb' r q) λrs s' hq=>?_)
 cases rs with
 | error ev=>exact hx pins σ H1 s1 ev s' I1 hq
 | ok fl=>
  cases fl with
  | ret u=>exact I1.after hq
  | next=>exact False.elim hq
  | brk=>exact False.elim hq
  | cont=>exact False.elim hq
end
structure Air(X:Cx)(pins:List (Addr×Obj))(σ:St)(H:Hp)(x:Addr)(cls:Value)(s:Shared):Prop where
 ex:∃(H0:Hp) (s0:Shared) (a0:Value) (B:Heap),Inv X pins σ H0 s0/\s.os=s0.os/\AllBare s.gens/\Un (frs X.stack) [] H0 H s0.heap s.heap/\HOk X.prog X.w H s.heap/\
  Heap.FlyingW B X.stack x cls a0 s.heap/\Ki (frs X.stack) H s0.heap s.heap B/\H x=none/\s0.heap.get? x=none
section
variable {X:Cx}{pins:List (Addr×Obj)}{σ:St}{H:Hp}{x:Addr}{cls:Value}{s:Shared}
theorem Air.inv(Z:Air X pins σ H x cls s):Inv X pins σ H s:=by
 obtain⟨H0,s0,a0,B,I,os,bare,u,ok,fl,hB,hx,hn⟩:=Z.ex;exact I.call' os u ok bare λb hb=>absurd hb (by simp)
theorem Air.obj(Z:Air X pins σ H x cls s):∃ob vs,s.heap.get? x=some ob/\ob.cls=cls/\ob.data= .fields vs:=by
 obtain⟨H0,s0,a0,B,I,os,bare,u,ok,fl,hB,hx,hn⟩:=Z.ex;obtain⟨oe,vs,h1,h2,h3,_⟩:=fl.first;exact⟨oe,vs,h1,h2,h3⟩
end
abbrev Cx.sui(X:Cx)(x:Addr):Cx:={X with A:=X.A.mark (some (.ref x)),calm:=false,xe:=λ_ _=>False}
section
variable {X:Cx}{pins:List (Addr×Obj)}{σ:St}{H:Hp}{x:Addr}{cls:Value}{s:Shared}
theorem Cx.Ok.sui(ok:X.Ok)(x:Addr):(X.sui x).Ok:=
 ⟨ok.mod,ok.kind,ok.glob,ok.blt,ok.above,ok.inj,ok.has,ok.cab,λz=>(by cases z),ok.frames,ok.stk,ok.exf,ok.bs,ok.bsz,ok.noex,ok.exfs,ok.funs,ok.frf⟩
theorem Inv.sui(I:Inv X pins σ H s)(x:Addr):Inv (X.sui x) pins σ H s:=⟨I.ok.sui x,I.os,I.bare,I.base,I.loc,I.cell,I.free,I.freeC,I.pin,I.hok,I.len⟩
theorem Inv.unsui(I0:X.Ok)(I:Inv (X.sui x) pins σ H s):Inv X pins σ H s:=⟨I0,I.os,I.bare,I.base,I.loc,I.cell,I.free,I.freeC,I.pin,I.hok,I.len⟩
theorem SP.unsui(I0:X.Ok){f:Flow}(h:SP (X.sui x) pins D f s'):SP X pins D f s':=by
 cases f with
 | next=>obtain⟨σ',H',I,q⟩:=h;exact⟨σ',H',I.unsui I0,q⟩
 | brk=>obtain⟨σ',H',I,q⟩:=h;exact⟨σ',H',I.unsui I0,q⟩
 | cont=>obtain⟨σ',H',I,q⟩:=h;exact⟨σ',H',I.unsui I0,q⟩
 | ret u=>obtain⟨v,σ',H',I,r,q⟩:=h;exact⟨v,σ',H',I.unsui I0,r,q⟩
end
abbrev TH:=Value->Addr->TS
def Jb3:TH:=λ_ _ _ _ _=>False
section
variable {X:Cx}{C:Str}{c:Value}{np pos:Pos}{b₀:Stmt}{suite:List Stmt}{rest:List ExceptHandler}{ts:TS}{tr:TH}
theorem Sm{s:Shared}{H:Hp}{x:Addr}{b:Bool}{R:Result->Shared->Prop}(Z:Air X pins σ H x cls s)(hv:∀(Q:Value->Shared->Prop) (E:Value->Shared->Prop),Q c s->wpAny (model X.prog X.w) (X.A.mark (some (.ref x))) (eval (.Name C np) X.env) Q E s)
 (e:PySem.W.exmOne X.K cls c=some b) (h:R (.ok (if b then .brk else .next)) s):
 codeAny (model X.prog X.w) (X.A.mark (some (.ref x))) (.handlers (.ref x) [.ExceptHandler (some (.Name C np)) none [] pos] X.env) R s:=by
 refine codeAny_handlers_test (hv _ _ ?_);obtain⟨ob,vs,h1,h2,_⟩:=Z.obj;have LT:PySem.W.Looks (model X.prog X.w) s.heap (typeOf (.ref x)) cls:=h2▸(PySem.W.Looks.ld h1).andThen .now;exact(PySem.W.exm_one Z.inv.kIn LT e).here h
end
def J5m(x:Addr)(cls:Value):HO:= .ext λh=>∃ob vs,h.get? x=some ob/\ob.cls=cls/\ob.data= .fields vs
section
variable {X:Cx}{pins:List (Addr×Obj)}{σ:St}{H:Hp}{x:Addr}{cls:Value}{s:Shared}
theorem Iz{i:Nat}{n:Str}{M:Model}{A:Around}{pos:Pos}{Q:Unit->Shared->Prop}(I:Inv X pins σ H s)(hN:X.N.Nodup)(hi:X.N[i]?=some n)(hl:X.env.kindOf n=some .local)
 (h:∀s',Inv X pins (σ.set i none) H s'->Q () s'):wpAny M A (do bindName X.env n .none;unbindBehindTheSuite X.env n pos) Q E s:=by
 obtain⟨m,hn,hm⟩:=id I.loc;refine wpAny_nameGoes_keeps hl hn (by rw[I.ok.kind];rfl) λh' v hn' hs=>h _ ?_;obtain⟨oL,_,_,hoL,_⟩:=id hn;have nL:∀b o,X.s₀.heap.get? b=some o->b≠X.env.locals:=λb o e=>Fv (Fl (Fm e) I.ok.above);refine⟨I.ok,I.os,I.bare,⟨λb o e n hb hx=>(hs.2 b (nL b o e)).trans (I.base.keep b o e n hb hx),λb o e n hb hx=>?_,I.base.free,λb o e hx=>?_,I.base.tups,I.base.frzs,I.base.tbls⟩,⟨_,hn',λj y v' e1 e2 e3=>?_⟩,λy c e=>?_,I.free,I.freeC,λp hp=>?_,λb o e=>?_,by simpa using I.len⟩
 . obtain⟨sl,e1⟩:=I.base.slot b o e n hb hx
   exact⟨sl,(hs.2 b (nL b o e)).trans e1⟩
 . obtain⟨o',e1⟩:=I.base.there b o e hx
   exact⟨o',(hs.2 b (nL b o e)).trans e1⟩
 . have hj:j≠i:=by
    rintro rfl
    by_cases hlt:j < σ.length
    . rw[Rq hlt]at e2;cases e2
    . rw[HD (by rw[List.length_set];omega)]at e2;cases e2
   rw[RB (Ne.symm hj)]at e2;obtain⟨u',r',q⟩:=hm j y v' e1 e2 e3;refine⟨u',r',?_⟩;rcases q with ⟨k,e⟩ | ⟨k,c,e,z⟩
   . have ny:y≠n:=λz=>hj (N3 hN e1 (z▸hi))
     exact .inl ⟨k,by simp[ny,e]⟩
   . exact .inr ⟨k,c,e,z.sameBut hs (I.cne y c e)⟩
 . obtain⟨w',z⟩:=I.cell y c e
   exact⟨w',z.sameBut hs (I.cne y c e)⟩
 . obtain⟨e,n1,ne,nf,d⟩:=I.pin p hp
   exact⟨(hs.2 p.1 ne).trans e,n1,ne,nf,d⟩
 . refine(I.hok b o e).stay (λc w' hc q=>(hs.2 c ?_).trans q) (λ_ q=>q) λ_ _ q=>q
   rintro rfl;rcases hc with z | hc
   . rw[<- z,I.free]at e;cases e
   . rw[I.free]at hc;cases hc
end
def Nr(i:Nat)(D:Dh):Dh:={nx:=λσ H=>D.nx (σ.set i none) H,rt:=D.rt,bk:=λσ H=>D.bk (σ.set i none) H,ct:=λσ H=>D.ct (σ.set i none) H}
abbrev Cx.tryX(X:Cx)(pn:List (Addr×Obj))(xe:Value->Shared->Prop):Cx:={X with pn:=pn,xe:=xe}
section
variable {X:Cx}{body:List Stmt}{h₀:ExceptHandler}{hs:List ExceptHandler}{pos:Pos}{tb:(St->XK)->TS}{th:TH}{pins:List (Addr×Obj)}{σ:St}{H:Hp}{s:Shared}{pn:List (Addr×Obj)}{xe:Value->Shared->Prop}
theorem Inv.tryIn(I:Inv X pins σ H s)(xe:Value->Shared->Prop):Inv (X.tryX (X.pn++pins) xe) [] σ H s:=
 ⟨⟨I.ok.mod,I.ok.kind,I.ok.glob,I.ok.blt,I.ok.above,I.ok.inj,I.ok.has,I.ok.cab,I.ok.hd,I.ok.frames,I.ok.stk,I.ok.exf,I.ok.bs,I.ok.bsz,I.ok.noex,I.ok.exfs,I.ok.funs,I.ok.frf⟩,I.os,I.bare,I.base,I.loc,I.cell,I.free,I.freeC,λp hp=>I.pin p (by simpa using hp),I.hok,I.len⟩
theorem Inv.tryOut(I0:X.Ok)(I:Inv (X.tryX (X.pn++pins) xe) pl σ H s):Inv X pins σ H s:=
 ⟨I0,I.os,I.bare,I.base,I.loc,I.cell,I.free,I.freeC,λp hp=>I.pin p (FX _ hp),I.hok,I.len⟩
theorem SP.tryOut(I0:X.Ok){f:Flow}(h:SP (X.tryX (X.pn++pins) xe) pl D f s'):SP X pins D f s':=by
 cases f with
 | next=>obtain⟨σ',H',I,q⟩:=h;exact⟨σ',H',I.tryOut I0,q⟩
 | brk=>obtain⟨σ',H',I,q⟩:=h;exact⟨σ',H',I.tryOut I0,q⟩
 | cont=>obtain⟨σ',H',I,q⟩:=h;exact⟨σ',H',I.tryOut I0,q⟩
 | ret u=>obtain⟨v,σ',H',I,r,q⟩:=h;exact⟨v,σ',H',I.tryOut I0,r,q⟩
end
open PySem.W
def Jb4(K:Frag):List V->Hp->VK->Prop:=λxs H Q=>∃p cls n,xs=[.ref p,.ty n]/\H p=some (J5m p cls)/\kitOne K cls (.type n)=some true/\Q (.bl true) H
def Cm(es:Array DictEntry):Bool:=es.toList.all λe=>match e.key with
 | .str _ _=>true
 | _=>false
theorem V5{es:Array DictEntry}(h:Cm es=true):StrKeys es:=λe he=>by
 have z:=FY.mp h e (by simpa using he)
 cases k:e.key with
 | str n t=>exact⟨n,t,rfl⟩
 | _=>rw[k]at z;cases z
theorem Wn{K:Frag}{h:Heap}{N:Addr}{es:Array DictEntry}{ep:Nat}{sl:Array (Option Value)}(X:K.In h)(l:K.lookup N=some ⟨oc,od,.dict es ep,sl⟩)(k:Cm es=true):h.Ns N (nsFind es):=
 ⟨_,es,ep,X _ _ l,rfl,V5 k,λ_=>rfl⟩
theorem Wo{K:Frag}{C N A:Addr}{nm q:Str}{bs:List Value}{hdct:Bool}{sn:List Str}{sub:List Value}{ab:Bool}{col:Option Bool}{dd:Option Addr}{k0 k1 k2 k3 k5:Option Value}{c0 oc2:Value}{dA od2:Option Addr}{es es2:Array DictEntry}{ep ep2:Nat}{sl slA sl2:Array (Option Value)}{cdA:ClassData}
 (lC:K.lookup C=some (excClassObj nm q C N bs [.ref A,.type "ValueError",.type "Exception",.type "BaseException",.type "object"] hdct sn sub ab col dd k0 k1 k2 k3 k5 "ValueError.__new__"))
 (lN:K.lookup N=some ⟨oc,od,.dict es ep,sl⟩) (sN:Cm es=true) (iN:nsFind es "__init__"=none) (lA:K.lookup A=some ⟨c0,dA,.cls cdA,slA⟩) (lNA:K.lookup cdA.ns=some ⟨oc2,od2,.dict es2 ep2,sl2⟩) (sNA:Cm es2=true) (iNA:nsFind es2 "__init__"=none):V3 K C:=
 ⟨λh X=>⟨nm,q,N,bs,_,hdct,sn,sub,ab,col,dd,k0,k1,k2,k3,k5,nsFind es,X _ _ lC,Wn X lN sN,iN,.own (X _ _ lA) (Wn X lNA sNA) iNA .base⟩⟩
theorem Dn{K:Frag}{C:Addr}{b:Bool}{cd:ClassData}(s1:subIn K (.ref C) (.type "BaseException")=some true)(c1:clsIn K C=some cd)(t1:typeIn K (.ref C)=some (.type "type"))(s2:subIn K cls (.ref C)=some b):exmOne K cls (.ref C)=some b:=by
 unfold exmOne kitCls;dsimp only;rw[s1,c1,t1];exact s2
theorem J5n{K:Frag}{C:Addr}{T:String}{b:Bool}(m:kitMeta T=true)(s:subIn K (.ref C) (.type T)=some b):kitOne K (.ref C) (.type T)=some b:=by
 unfold kitOne kitCls;rw[if_neg (by simp)];dsimp only;rw[if_pos m];exact s
theorem Q9{K:Frag}{C:Addr}{b:Bool}(s:subIn K (.ref C) (.type "ValueError")=some b):kitOne K (.ref C) (.type "ValueError")=some b:=J5n (by decide+kernel) s
section
variable {σ:St}{H:Hp}{Q:VK}{D:Dh}{K:Frag}
theorem Sn{C:Addr}{EE:St->XK}{t:TA}:J96 C EE t D σ H=t σ H λvs H1=>vs.length<=sizeLine/\∀x,H1 x=none->EE σ (.ref C) (some x) H1:=rfl
theorem Ku{sp:Sp}{EE:St->XK}{t:TA}:V4 sp EE t σ H Q=t σ H λvs H1=>sp vs H1 Q (EE σ):=rfl
theorem Wp{x:Addr}:Jb3 cls x D σ H=False:=rfl
theorem Wq{i:Nat}:Nr i D={nx:=λσ H=>D.nx (σ.set i none) H,rt:=D.rt,bk:=λσ H=>D.bk (σ.set i none) H,ct:=λσ H=>D.ct (σ.set i none) H}:=rfl
theorem Wr:Jb4 K xs H Q=∃p cls n,xs=[.ref p,.ty n]/\H p=some (J5m p cls)/\kitOne K cls (.type n)=some true/\Q (.bl true) H:=rfl
end
theorem Qa{prog:Program}{w:World}{A:Around}{R:Result->Shared->Prop}{s:Shared}{elt target iter:Expr}{ifs:List Expr}{pos:Pos}{it acc:Value}{env:Env}(I:Nat->Shared->Prop)
 (turn:∀n s,I n s->wpAny (model prog w) A (pyNext it) (λr s₁=>match r with
  | none=>R (.ok .next) s₁
  | some v=>wpAny (model prog w) A (letOwnedTupleGo target it v) (λ_ s₁=>wpAny (model prog w) A (assign target env v) (λ_ s₂=>
   wpAny (model prog w) A (forIn ifs true λc r=>if r=true then do let ok <- isTrue c env (eval c env);pure (ForInStep.yield ok) else pure (ForInStep.yield r)) (λok s₃=>
    if ok=true then wpAny (model prog w) A (eval elt env) (λx s₄=>
     wpAny (model prog w) A (call (.builtin "list.append") [acc,x]) (λ_ s₅=>∃m,m < n/\I m s₅) (notedBy (model prog w) A env λe s'=>R (.error e) s') s₄) (notedBy (model prog w) A env λe s'=>R (.error e) s') s₃
    else ∃m,m < n/\I m s₃) (notedBy (model prog w) A env λe s'=>R (.error e) s') s₂) (notedBy (model prog w) A env λe s'=>R (.error e) s') s₁) (notedBy (model prog w) A env λe s'=>R (.error e) s') s₁) (notedBy (model prog w) A env λe s'=>R (.error e) s') s)
 (n:Nat) (h:I n s):
 codeAny (model prog w) A (.compLoop (.ListComp elt [⟨target,iter,ifs,0⟩] scope pos) 0 it acc env) R s:=by
 refine codeAny_loop rfl I (λn s hI=>?_) n h;show wpAny _ A ((compTurn (.ListComp elt [⟨target,iter,ifs,0⟩] scope pos) 0 it acc env).onRaise (λx=>do noteFrame x env;theTreesLotGoes x)) _ _ s;refine wpAny_noted ?_;rw[compTurn_list];refine Fc (Rg (Fc (FN (turn n s hI) (λr s₁ h₁=>?_) λ_ _ h'=>h')))
 cases r with
 | none=>exact Fu h₁
 | some v=>
  refine Fc (FN h₁ (λ_ s₁ h₁=>?_) λ_ _ h'=>h');refine Fc (FN h₁ (λ_ s₂ h₂=>Fc (FN h₂ (λok s₃ h₃=>?_) λ_ _ h'=>h')) λ_ _ h'=>h')
  cases ok with
  | false=>exact Fu ⟨rfl,h₃⟩
  | true=>
   exact Fc (Fc (FN h₃ (λx s₄ h₄=>Fc (FN h₄ (λ_ s₅ h₅=>Fu (Fu ⟨rfl,h₅⟩)) λ_ _ h'=>h')) λ_ _ h'=>h'))
def clo(env:Env):List (Str×NameKind)->List (Str×Addr)->List (Str×Addr)
 | [],cs=>cs
 | (n,k)::r,cs=>clo env r (if (k== .free)=true then (match env.cells.lookup n with | some c=>(n,c)::cs | none=>cs) else cs)
theorem So{env:Env}:∀(names:List (Str×NameKind)) (cs:List (Str×Addr)),(∀y∈names,y.2= .free->∃c,env.cells.lookup y.1=some c)->
 (forIn (m:=Sem) names cs λ(x:Str×NameKind) (r:List (Str×Addr))=>match x with | (name,kind)=>if (kind== .free)=true then do let c <- cellOf env name;pure (ForInStep.yield ((name,c)::r)) else pure (ForInStep.yield r))=pure (clo env names cs)
 | [],cs,_=>rfl
 | (n,k)::r,cs,h=>by
  rw[List.forIn_cons];have ih:=λcs=>So r cs λy hy=>h y (Fk _ hy)
  by_cases hk:(k==NameKind.free)=true
  . obtain⟨c,hc⟩:=h (n,k) FC (by simpa using hk)
    have e:cellOf env n=pure c:=by unfold cellOf;rw[show env.cells.lookup n=some c from hc]
    simp only[hk,if_true,e,clo];rw[show env.cells.lookup n=some c from hc];exact ih _
  . simp only[hk,clo]
    exact ih _
theorem Mc{env:Env}(h:∀y∈scope.names,y.2= .free->∃c,env.cells.lookup y.1=some c):closureFor scope env=pure (clo env scope.names []):=by
 unfold closureFor;show (forIn (m:=Sem) scope.names ([]:List (Str×Addr)) _ >>=λr=>pure r)=_;rw[So scope.names [] h];rfl
theorem Ls{env:Env}{x:Str}{c:Addr}:∀(names:List (Str×NameKind)) (cs:List (Str×Addr)),(clo env names cs).lookup x=some c->env.cells.lookup x=some c\/cs.lookup x=some c
 | [],cs,h=> .inr h
 | (n,k)::r,cs,h=>by
  unfold clo at h;rcases Ls r _ h with q | q
  . exact .inl q
  . split at q
    . split at q
      . rename_i c' hc
        rw[FT]at q
        cases hx:x==n with
        | true=>
         rw[hx]at q
         have e:x=n:=by simpa using hx
         subst e;simp only[Option.some.injEq]at q;subst q;exact .inl hc
        | false=>rw[hx]at q;exact .inr q
      . exact .inr q
    . exact .inr q
theorem Qb{env:Env}{x:Str}{c:Addr}(hc:env.cells.lookup x=some c):∀(names:List (Str×NameKind)) (cs:List (Str×Addr)),(cs.lookup x=some c\/(cs.lookup x=none/\(x,NameKind.free)∈names))->(clo env names cs).lookup x=some c
 | [],cs,h=>by
  rcases h with h | ⟨_,h⟩
  . exact h
  . cases h
 | (n,k)::r,cs,h=>by
  unfold clo;refine Qb hc r _ ?_
  by_cases hx:x=n
  . subst hx
    by_cases hk:(k==NameKind.free)=true
    . rw[if_pos hk,hc]
      exact .inl (by simp[FT])
    . rw[if_neg hk]
      rcases h with h | ⟨h1,h2⟩
      . exact .inl h
      . refine .inr ⟨h1,?_⟩
        rcases Ft.mp h2 with e | e
        . cases e;exact absurd rfl hk
        . exact e
  . have hb:(x==n)=false:=by simpa using hx
    have key:∀cs':List (Str×Addr),cs'.lookup x=cs.lookup x->(cs'.lookup x=some c\/(cs'.lookup x=none/\(x,NameKind.free)∈r)):=λcs' e=>by
     rw[e];rcases h with h | ⟨h1,h2⟩
     . exact .inl h
     . refine .inr ⟨h1,?_⟩
       rcases Ft.mp h2 with e | e
       . cases e;exact absurd rfl hx
       . exact e
    refine key _ ?_;split
    . split
      . simp[FT,hb]
      . rfl
    . rfl
theorem G9{env:Env}{k':NameKind}:∀{names:List (Str×NameKind)}{x:Str},(∀y∈names,y.2≠ .cell)->
 (names.map λ(n,k)=>if (k==NameKind.free && env.scope.kind== .function && env.kindOf n==some .cell) then (n,NameKind.cell) else (n,k)).lookup x=some k'->(k'= .cell\/k'= .free)->(x,NameKind.free)∈names
 | [],_,_,h,_=>by simp at h
 | (n,k)::r,x,hc,h,hk=>by
  have ih:=@G9 env k' r x (λy hy=>hc y (Fk _ hy));have h':List.lookup x ((if (k==NameKind.free && env.scope.kind== .function && env.kindOf n==some .cell)=true then (n,NameKind.cell) else (n,k))::(r.map λ(n,k)=>if (k==NameKind.free && env.scope.kind== .function && env.kindOf n==some .cell) then (n,NameKind.cell) else (n,k)))=some k':=h
  by_cases hx:x=n
  . subst hx
    by_cases q:(k==NameKind.free && env.scope.kind== .function && env.kindOf x==some .cell)=true
    . have:k= .free:=by simp only[Hs,HV]at q;exact q.1.1
      subst this;exact FC
    . rw[if_neg q,FT]at h'
      simp only[R1]at h';have e:k=k':=FG h';rcases hk with z | z
      . exact absurd (e.trans z) (hc (x,k) FC)
      . rw[e.trans z];exact FC
  . have hb:(x==n)=false:=by simpa using hx
    refine Fk _ (ih ?_ hk);split at h'
    . rw[FT,hb]at h';exact h'
    . rw[FT,hb]at h';exact h'
theorem Dy{env:Env}:∀{names:List (Str×NameKind)}{x:Str},names.lookup x=some .free->
 (names.map λ(n,k)=>if (k==NameKind.free && env.scope.kind== .function && env.kindOf n==some .cell) then (n,NameKind.cell) else (n,k)).lookup x=some .cell\/
 (names.map λ(n,k)=>if (k==NameKind.free && env.scope.kind== .function && env.kindOf n==some .cell) then (n,NameKind.cell) else (n,k)).lookup x=some .free
 | [],_,h=>by simp at h
 | (n,k)::r,x,h=>by
  have ih:=@Dy env r x;show List.lookup x ((if (k==NameKind.free && env.scope.kind== .function && env.kindOf n==some .cell)=true then (n,NameKind.cell) else (n,k))::_)=_\/List.lookup x ((if (k==NameKind.free && env.scope.kind== .function && env.kindOf n==some .cell)=true then (n,NameKind.cell) else (n,k))::_)=_
  cases hx:x==n with
  | true=>
   simp only[FT,hx]at h;cases h;split
   . left;simp[FT,hx]
   . right;simp[FT,hx]
  | false=>
   simp only[FT,hx]at h;split
   . simp only[FT,hx];exact ih h
   . simp only[FT,hx];exact ih h
structure Blk where
 s:Shared
 H:Hp
 C:Addr
 fp:List Addr
abbrev Cx.blk(X:Cx)(scope:Scope)(N':List Str)(b:Blk):Cx:=
 {X with N:=N',s₀:=b.s,H₀:=b.H,env:=compEnvC scope (clo X.env scope.names []) b.C X.env,outer:=X.stack,ex:=b.fp,fn:=λ_=>false,pn:=[],xe:=λ_ _=>False}
def around(N:List Str)(fs:List Nat):List Str:=fs.map λj=>N.getD j ""
def Ga(N:List Str)(esc scope:Scope)(xs:List Str)(fs:List Nat):Bool:=
 decide (xs++around N fs).Nodup && (match scope.kind with | .function=>true | _=>false) && xs.all (λx=>decide (scope.names.lookup x=some .local)) &&
 scope.names.all (λy=>decide (y.2≠ .cell) && (!decide (y.2= .local) || decide (scope.names.lookup y.1=some .local)) && (!decide (y.2= .free) || decide (esc.names.lookup y.1=some .cell) || decide (esc.names.lookup y.1=some .free))) &&
 fs.all λj=>decide (j < N.length) && decide (scope.names.lookup (N.getD j "")=some .free)
structure Qc(N:List Str)(esc scope:Scope)(xs:List Str)(fs:List Nat):Prop where
 nd:(xs++around N fs).Nodup
 kind:scope.kind= .function
 own:∀x∈xs,scope.names.lookup x=some .local
 cell:∀y∈scope.names,y.2≠ .cell
 names:∀y∈scope.names,y.2= .local->scope.names.lookup y.1=some .local
 free:∀y∈scope.names,y.2= .free->esc.names.lookup y.1=some .cell\/esc.names.lookup y.1=some .free
 fs:∀j∈fs,j < N.length/\scope.names.lookup (N.getD j "")=some .free
theorem Et{N:List Str}{esc:Scope}{xs:List Str}{fs:List Nat}(h:Ga N esc scope xs fs=true):Qc N esc scope xs fs:=by
 unfold Ga at h;simp only[Hs,decide_eq_true_eq,FY]at h;obtain⟨⟨⟨⟨h1,h2⟩,h3⟩,h4⟩,h5⟩:=h;refine⟨h1,?_,h3,λy hy=>(h4 y hy).1.1,λy hy e=>?_,λy hy e=>?_,h5⟩
 . split at h2
   . assumption
   . cases h2
 . have:=(h4 y hy).1.2
   simpa [e] using this
 . have:=(h4 y hy).2
   simpa [e] using this
section
variable {X:Cx}{pins:List (Addr×Obj)}{σ:St}{H:Hp}{s:Shared}{scope:Scope}{xs:List Str}{fs:List Nat}{fp:List Addr}{C:Addr}
theorem J97(I:Inv X pins σ H s)(O:Qc X.N X.env.scope scope xs fs)(hf:∀b∈fp,Dz X pins H b)(hC:s.heap.objs.size<=C)(hfp:∀b∈fp,b < s.heap.objs.size):(X.blk scope (xs++around X.N fs) ⟨s,H,C,fp⟩).Ok:=by
 have hcl:∀x c,(clo X.env scope.names []).lookup x=some c->X.env.cells.lookup x=some c:=λx c e=>by
  rcases Ls _ _ e with q | q
  . exact q
  . cases q
 have hsz:∀b o,X.base.get? b=some o->b < X.s₀.heap.objs.size:=λb o e=>Fl (Fm e) I.ok.bsz;refine⟨I.ok.mod,O.kind,I.ok.glob,I.ok.blt,hC,λx y c h1 h2=>I.ok.inj x y c (hcl x c h1) (hcl y c h2),λx hx=>?_,λx c z=>(by cases z),I.ok.hd,I.ok.frames,.inl rfl,λb hb=>⟨Fv (Fl (hfp b hb) hC),λx c e=>(hf b hb).2.2.2.2.1 x c (hcl x c e)⟩,I.bs,FE I.ok.bsz I.sz,λb o e hb=>?_,λb hb hs=>?_,I.stack,I.stkFree⟩
 . have hm:(x,NameKind.free)∈scope.names:=by
    rcases hx with hx | hx
    . exact G9 (env:=X.env) O.cell (show (scope.names.map _).lookup x=some NameKind.cell from hx) (.inl rfl)
    . exact G9 (env:=X.env) O.cell (show (scope.names.map _).lookup x=some NameKind.free from hx) (.inr rfl)
   obtain⟨c,hc⟩:=I.ok.has x (O.free _ hm rfl);exact⟨c,Qb hc _ _ (.inr ⟨rfl,hm⟩)⟩
 . obtain⟨_,_,_,h4,_⟩:=hf b hb
   rcases h4 with h4 | h4
   . exact I.ok.noex b o e h4
   . exact absurd (Fl (hsz b o e) h4) (Hq _)
 . obtain⟨_,h2,h3,_⟩:=hf b hb
   exact(Ft.mp (I.stkSub b hs)).elim h2 h3
theorem J98{h1:Heap}{t:Nat}{D:Addr}{m:Str->Option Value}(I:Inv X pins σ H s)(O:Qc X.N X.env.scope scope xs fs)(hf:∀b∈fp,Dz X pins H b)(hD:s.heap.objs.size<=D)(hC:s.heap.objs.size<=C)(hfp:∀b∈fp,b < s.heap.objs.size)(hDC:D≠C)
 (k:∀b u,s.heap.get? b=some u->h1.get? b=some u) (hDo:h1.get? D=some {cls:= .type "list",data:= .seq #[] 0}) (hn:h1.Ns C m):
 Inv (X.blk scope (xs++around X.N fs) ⟨s,H,C,fp⟩) [] (xs.map (λ_=>none)++fs.map λj=>σ.getD j none) (upd H D (.lst [])) {s with heap:=h1,toks:=t}:=by
 have hcl:∀x c,(clo X.env scope.names []).lookup x=some c->X.env.cells.lookup x=some c:=λx c e=>by
  rcases Ls _ _ e with q | q
  . exact q
  . cases q
 have ok:=J97 (C:=C) I O hf hC hfp;have hnD:H D=none:=I.hok.fresh hD;refine⟨ok,rfl,I.bare,Un.laid k hD hnD,⟨m,hn,λi x v e1 e2 e3=>?_⟩,λx c e=>?_,?_,λx c e=>?_,λp hp=>absurd (show p∈([]:List (Addr×Obj)) from hp) (by simp),I.hok.laid k hD ⟨FP _,[],0,.nil,hDo⟩,by simp[around]⟩
 . by_cases hi:i < xs.length
   . rw[FQ (by simpa using hi),Ff]at e2
     cases q:xs[i]? with
     | none=>rw[q]at e2;cases e2
     | some a=>rw[q]at e2;cases e2
   . have hi:xs.length<=i:=Nat.le_of_not_lt hi
     rw[FJ (by simpa using hi)]at e1 e2;unfold around at e1;rw[Fa]at e2;rw[Ff]at e1 e2
     cases q:fs[i - xs.length]? with
     | none=>rw[q]at e2;cases e2
     | some j=>
      rw[q]at e1 e2;simp only[HA,Option.some.injEq]at e1 e2;obtain⟨hj,hl⟩:=O.fs j (Fq q);obtain⟨m0,_,hl0⟩:=I.loc
      have e1':X.N[j]?=some x:=by rw[<- e1,Fd,Fb hj];rfl
      have e2':σ[j]?=some (some v):=by
       rw[Fd]at e2
       cases z:σ[j]? with
       | none=>rw[z]at e2;cases e2
       | some y=>rw[z]at e2;simp only[Option.getD_some]at e2;rw[e2]
      rw[e1]at hl;have hm:(x,NameKind.free)∈scope.names:=Hr hl;have hk:=O.free _ hm rfl;obtain⟨u,r,l⟩:=hl0 j x v e1' e2' (hk.elim (λz=> .inr (.inl z)) λz=> .inr (.inr z));refine⟨u,r,?_⟩;rcases l with ⟨z,_⟩ | ⟨_,c,hc,cell⟩
      . have z':X.env.scope.names.lookup x=some .local:=z
        rcases hk with hk | hk <;> (rw[z']at hk;cases hk)
      . refine .inr ⟨?_,c,Qb hc _ _ (.inr ⟨rfl,hm⟩),?_⟩
        . exact Dy (env:=X.env) hl
        . obtain⟨o,ho,hd⟩:=cell
          exact⟨o,k _ _ ho,hd⟩
 . obtain⟨v,o,ho,hd⟩:=I.cell x c (hcl x c e)
   exact⟨v,o,k _ _ ho,hd⟩
 . show upd H D (.lst []) C=none
   rw[A5 (Ne.symm hDC)];exact I.hok.fresh hC
 . obtain⟨v,q⟩:=I.cell x c (hcl x c e)
   rw[A5 (Fv (Fl q.lt hD))];exact I.freeC x c (hcl x c e)
theorem J5o{N':List Str}{σ':St}{h2:Heap}(I:Inv X pins σ H s)(hf:∀b∈fp,Dz X pins H b)(hC:s.heap.objs.size<=C)(J:Inv (X.blk scope N' ⟨s,H,C,fp⟩) pl σ' H' s')(sb:Heap.SameBut C s'.heap h2):
 Inv X pins σ H' {s' with heap:=h2}:=by
 have u:=J.base;have ne:∀b o,s.heap.get? b=some o->b≠C:=λb o e=>Fv (Fl (Fm e) hC);refine I.call' (ch:=fp) J.os ⟨λb o e n h1 h2=>(sb.2 b (ne b o e)).trans (u.keep b o e n h1 h2),λb o e n h1 h2=>?_,u.free,λb o e hx=>?_,u.tups,u.frzs,u.tbls⟩ (λa o e=>?_) J.bare λb hb=>?_
 . obtain⟨sl,q⟩:=u.slot b o e n h1 h2
   exact⟨sl,(sb.2 b (ne b o e)).trans q⟩
 . obtain⟨o',q⟩:=u.there b o e hx
   exact⟨o',(sb.2 b (ne b o e)).trans q⟩
 . have fr:H' C=none:=J.free
   refine(J.hok a o e).stay (λb v hc q=>(sb.2 b ?_).trans q) (λ_ q=>q) λ_ _ q=>q;rcases hc with rfl | hc
   . exact Ab e fr
   . exact Ab hc fr
 . obtain⟨_,h2,h3,h4,h5,h6⟩:=hf b hb
   exact⟨h4,h2,h5,h6⟩
end
def Jb5(σ σ':St):Prop:=∀(i:Nat) (v:V),σ[i]?=some (some v)->σ'[i]?=some (some v)
def PTs(X:Cx)(ifs:List Expr)(t:TT):Prop:=
 ∀(pins:List (Addr×Obj)) (s:Shared) (σ:St) (H:Hp) (Q:Bool->Hp->Prop),Inv X pins σ H s->t σ H Q->
   wpAny (model X.prog X.w) X.A (forIn ifs true λc r=>if r=true then do let ok <- isTrue c X.env (eval c X.env);pure (ForInStep.yield ok) else pure (ForInStep.yield r)) (TP X pins σ Q) X.xe s
def Mg:TT:=λ_ H Q=>Q true H
theorem Ws:PTs X [] Mg:=λ_ _ _ H _ I h=>wpAny_tests_nil ⟨H,I,h⟩
def Co(σ0:St)(g:Blk->TG)(tt:Blk->TT)(te:Blk->TE)(Q:VK)(J:It)(H1:Hp):Prop:=∀(b:Blk) (D:Addr),H1 D=none->∃W:Nat->Nat->List V->Hp->Prop,(∃m,W 0 m [] (upd H1 D (.lst [])))/\∀i m ys H2,W i m ys H2->H2 D=some (.lst ys)/\
 ((J.stop i H2/\Q (.ref D) H2)\/(J.go i H2/\∀x H3,J.yld i H2 x H3->g b x σ0 H3 λσ6 H6=>Jb5 σ0 σ6/\tt b σ6 H6 λok H7=>
   if ok=true then te b σ6 H7 λy H8=>H8 D=some (.lst ys)/\ys.length < sizeLine/\∃m',m' < m/\W (i+1) m' (ys++[y]) (upd H8 D (.lst (ys++[y])))
   else ∃m',m' < m/\W (i+1) m' ys H7))
def P5(wi:TI)(n:Nat)(fs:List Nat)(g:Blk->TG)(tt:Blk->TT)(te:Blk->TE):TE:=λσ H Q=>wi σ H (Co (List.replicate n none++fs.map λj=>σ.getD j none) g tt te Q)
section
variable {X:Cx}{pins:List (Addr×Obj)}{σ:St}{scope:Scope}{xs:List Str}{fs:List Nat}{elt tg iter:Expr}{ifs:List Expr}{pos:Pos}{wi:TI}{g:Blk->TG}{tt:Blk->TT}{te:Blk->TE}
theorem P6{H:Hp}{s:Shared}{C:Addr}{h2:Heap}(I:Inv X pins σ H s)(F:Dz X pins H C)(sb:Heap.SameBut C s.heap h2):Inv X pins σ H {s with heap:=h2}:=
 I.turned (t':=s.toks) (λb o hb e=>(sb.2 b hb).trans e) F.1 F.2.1 F.2.2.2.1 F.2.2.2.2.1 F.2.2.2.2.2
theorem Sq{itv:Value}{s2:Shared}{RR:Value->Addr->Result->Shared->Prop}(hc:X.calm=true)(O:Qc X.N X.env.scope scope xs fs)
 (hg:∀b,PG (X.blk scope (xs++around X.N fs) b) tg (g b)) (ht:∀b,PTs (X.blk scope (xs++around X.N fs) b) ifs (tt b)) (he:∀b,PE (X.blk scope (xs++around X.N fs) b) elt (te b))
 (h:PIE X pins σ tg (Co (List.replicate xs.length none++fs.map λj=>σ.getD j none) g tt te Q) itv s2)
 (hR:∀D C s' m H',s'.heap.Ns C m->Inv X pins σ H' s'->Q (.ref D) H'->Dz X pins H' C->RR (.ref D) C (.ok .next) s'):
 wpAny (model X.prog X.w) X.A (newList []) (λacc s₃=>wpAny (model X.prog X.w) X.A (newFunctionEnv scope X.env.globals (clo X.env scope.names []) [] X.env.qual none .none (some X.env)) (λcenv s₄=>
  codeAny (model X.prog X.w) X.A (.compStart (.ListComp elt [⟨tg,iter,ifs,0⟩] scope pos) 0 itv acc {cenv with scope:=relabel scope X.env}) (RR acc cenv.locals) s₄) E s₃) E s2:=by
 obtain⟨it,fp,tn,J,H2,rfl,I2,T,st2,f2,rd⟩:=h
 have hfp:∀b∈fp,b < s2.heap.objs.size:=λb hb=>by
  obtain⟨o,e,_⟩:=T.obj _ _ st2 b hb;exact Fm e
 refine wpAny_newObj_type (wpAny_newFunctionEnv O.cell (by intro y hy;simp at hy) (λh₁ hns₁ hsb₁=>?_) O.kind);dsimp only at hns₁ hsb₁ ⊢;generalize hH2:s2.heap.push {cls:= .type "list",dict:=none,data:= .seq ([]:List Value).toArray}=HH at hns₁ hsb₁ ⊢
 have hC:HH.objs.size=s2.heap.objs.size+1:=by rw[<- hH2,Heap.size_push]
 have hDC:s2.heap.objs.size≠HH.objs.size:=by rw[hC];exact Fv (R3 _)
 have hCle:s2.heap.objs.size<=HH.objs.size:=by rw[hC];exact HF _
 have old:∀b o,s2.heap.get? b=some o->h₁.get? b=some o:=λb o e=>hsb₁.extBut b o (by rw[hC];exact Fv (RL (Fm e))) (Fe _ (hH2▸Fe _ e));have hacc:h₁.get? s2.heap.objs.size=some {cls:= .type "list",data:= .seq #[] 0}:=hsb₁.extBut _ _ hDC (Fe _ (hH2▸Fy _ rfl));obtain⟨W,⟨m0,w0⟩,turn⟩:=rd ⟨s2,H2,HH.objs.size,fp⟩ s2.heap.objs.size I2.fresh;have I3:=J98 (t:=s2.toks+([]:List (Str×Value)).length) I2 O f2 (Fg _) hCle hfp hDC old hacc hns₁;rw[show xs.map (λ_=>(none:Option V))=List.replicate xs.length none from List.map_const' ..]at I3;generalize hX:X.blk scope (xs++around X.N fs) ⟨s2,H2,HH.objs.size,fp⟩=X' at I3
 have stat:∀{H':Hp},(∀b∈fp,H' b=none)->∀b∈fp,Dz X' [] H' b:=λhn b hb=>by
  subst hX;refine⟨hn b hb,?_,?_,.inl hb,λx c e=>?_,λp hp=>absurd hp (by simp)⟩
  . exact(I3.ok.exf b hb).1
  . exact I3.ok.exfs b hb
  . exact(I3.ok.exf b hb).2 x c e
 have fr3:∀b∈fp,upd H2 s2.heap.objs.size (.lst []) b=none:=λb hb=>by
  rw[A5 (Fv (hfp b hb))];exact(f2 b hb).1
 have ccell:∀y c,X.env.cells.lookup y=some c->c≠HH.objs.size:=λy c e=>by
  obtain⟨v,q⟩:=I2.cell y c e;exact Fv (Fl q.lt hCle)
 have cloc:HH.objs.size≠X.env.locals:=(Fv (Fl I2.lt hCle)).symm
 have eP:X'.prog=X.prog:=by rw[<- hX]
 have ew:X'.w=X.w:=by rw[<- hX]
 have eK:X'.K=X.K:=by rw[<- hX]
 have eA:X'.A=X.A:=by rw[<- hX]
 have ec:X'.calm=true:=by rw[<- hX];exact hc
 have ex:X'.xe=λ_ _=>False:=by rw[<- hX]
 have een:X'.env=compEnvC scope (clo X.env scope.names []) HH.objs.size X.env:=by rw[<- hX]
 have hg':=hg ⟨s2,H2,HH.objs.size,fp⟩;have ht':=ht ⟨s2,H2,HH.objs.size,fp⟩;have he':=he ⟨s2,H2,HH.objs.size,fp⟩;rw[hX]at hg' ht' he';have st1:tn 0 h₁:=T.keep _ _ _ st2 λb hb o e=>old b o e
 have loop:∀s₃:Shared,s₃={s2 with heap:=h₁,toks:=s2.toks+([]:List (Str×Value)).length}->
  codeAny (model X.prog X.w) X.A (.compLoop (.ListComp elt [⟨tg,iter,ifs,0⟩] scope pos) 0 (.ref it) (.ref s2.heap.objs.size) (compEnvC scope (clo X.env scope.names []) HH.objs.size X.env))
   (RR (.ref s2.heap.objs.size) HH.objs.size) s₃:=by
  rintro s₃ rfl;refine Qa (λn s'=>∃i ys H',Inv X' [] (List.replicate xs.length none++fs.map λj=>σ.getD j none) H' s'/\tn i s'.heap/\(∀b∈fp,H' b=none)/\W i n ys H') ?_ m0 ⟨0,[],_,I3,st1,fr3,w0⟩;rintro n s4 ⟨i,ys,H4,I4,st4,fr4,w4⟩;obtain⟨hD4,tn4⟩:=turn i n ys H4 w4;rcases tn4 with ⟨stop,qn⟩ | ⟨go,step⟩
  . have td:=T.done X' eP ew eK ec i [] s4 _ H4 (notedBy (model X.prog X.w) X.A (compEnvC scope (clo X.env scope.names []) HH.objs.size X.env) λe s'=>RR (.ref s2.heap.objs.size) HH.objs.size (.error e) s') I4 (stat fr4) st4 stop
    rw[eA]at td;refine thn td λr s5 ⟨hr,I5⟩=>?_;subst hr;obtain⟨m5,hn5,_⟩:=I5.loc;rw[een]at hn5
    have fr5:H4 HH.objs.size=none:=by have:=I5.free;rw[een]at this;exact this
    rw[<- hX]at I5;exact hR _ _ _ m5 H4 hn5 (J5o I2 f2 hCle I5 (Heap.SameBut.refl ..)) qn (I2.fpOk hCle fr5)
  . have ti:=T.item X' eP ew eK ec i [] s4 _ H4 (notedBy (model X.prog X.w) X.A (compEnvC scope (clo X.env scope.names []) HH.objs.size X.env) λe s'=>RR (.ref s2.heap.objs.size) HH.objs.size (.error e) s') I4 (stat fr4) st4 go
    rw[eA]at ti;refine thn ti λr s5 ⟨u,hr,h5⟩=>?_;subst hr;refine thn h5 λ_ s6 hq_=>?_;obtain⟨x,H6,I6,r6,y6,st6,fr6⟩:=hq_;have I6':=I6.pinned (stat fr6) (T.obj _ _ st6);have g1:=hg' _ s6 _ H6 x u _ I6' r6 (step x H6 y6);rw[eP,ew,eA,een,ex]at g1;refine FN g1 (λ_ s7 hq_=>?_) λ_ _ z=>z.elim;obtain⟨σ7,H7,I7,kp7,q7⟩:=hq_;have t1:=ht' _ s7 σ7 H7 _ I7 q7;rw[eP,ew,eA,een,ex]at t1
    have back:∀{H9:Hp}{s9:Shared},Inv X' ([]++Lo fp s6.heap) σ7 H9 s9->Inv X' [] (List.replicate xs.length none++fs.map λj=>σ.getD j none) H9 s9/\tn (i+1) s9.heap/\∀b∈fp,H9 b=none:=λ{H9 s9} I9=>by
     refine⟨I9.unpinned.weak ?_ kp7,T.keep _ _ _ st6 λb hb o e=>(I9.pin (b,o) (Fw _ (Fw _ (G6 hb e)))).1,λb hb=>?_⟩
     . rw[I9.len,I4.len]
     . obtain⟨o,e,d⟩:=T.obj _ _ st6 b hb
       exact(I9.pin (b,o) (Fw _ (Fw _ (G6 hb e)))).2.1
    refine FN t1 (λok s8 ⟨H8,I8,q8⟩=>?_) λ_ _ z=>z.elim
    cases ok with
    | false=>
     rw[if_neg Fp]at q8 ⊢;obtain⟨m',hm,w8⟩:=q8;obtain⟨b1,b2,b3⟩:=back I8;exact⟨m',hm,i+1,ys,H8,b1,b2,b3,w8⟩
    | true=>
     rw[if_pos rfl]at q8 ⊢;have e1:=he' _ s8 σ7 H8 _ I8 q8;rw[eP,ew,eA,een,ex]at e1;refine FN e1 (λuy s9 hq_=>?_) λ_ _ z=>z.elim;obtain⟨y,H9,I9,r9,hD9,hz,m',hm,w9⟩:=hq_;have a1:=Cs (X:=X') (pins:=[]++Lo fp s6.heap) (s:=s9) (σ:=σ7) (H:=H9) (x:= .ref s2.heap.objs.size) (xs:=[y]) (v:= .ref s2.heap.objs.size) (us:=[uy]) (Q:=λ_ H'=>H'=upd H9 s2.heap.objs.size (.lst (ys++[y]))) I9 rfl (.cons r9 .nil) ⟨_,ys,y,rfl,rfl,hD9,hz,rfl⟩;rw[eP,ew,eA,ex]at a1;refine FN a1 (λ_ s10 hq_=>?_) λ_ _ z=>z.elim;obtain⟨_,H10,I10,_,e10⟩:=hq_;subst e10;obtain⟨b1,b2,b3⟩:=back I10;exact⟨m',hm,i+1,_,_,b1,b2,b3,w9⟩
 exact codeAny_compStart_list (loop _ rfl) (T.self _ 0 _ _ _ st1 (loop _ rfl))
theorem J2b(hc:X.calm=true)(hok:Ga X.N X.env.scope scope xs fs=true)(hi:PI X tg iter wi)
 (hg:∀b,PG (X.blk scope (xs++around X.N fs) b) tg (g b)) (ht:∀b,PTs (X.blk scope (xs++around X.N fs) b) ifs (tt b)) (he:∀b,PE (X.blk scope (xs++around X.N fs) b) elt (te b))
 (hs:∀x,foldedSetIterable iter X.env x=pure x:=by intro _;rfl):
 PE X (.ListComp elt [⟨tg,iter,ifs,0⟩] scope pos) (P5 wi xs.length fs g tt te):=by
 intro pins s σ H Q I h;have O:=Et hok;rw[eval_ListComp];refine wpAny_comprehension_free (use:=none) rfl hs (Mc λy hy hf=>I.ok.has _ (O.free y hy hf)) O.kind O.names (thn (hi pins s σ H _ I h) λv s1 h1=>thn h1 λitv s2 h2=>?_)
 exact Sq (RR:=λacc C=>compPost (model X.prog X.w) X.A X.xe none (EP X pins σ Q) acc C) hc O hg ht he h2 λD C s' m H' hn I' q F=>⟨m,hn,λh2 sb=>⟨.ref D,H',P6 I' F sb,rfl,q⟩⟩
theorem J5p{y:Str}{py:Pos}{i:Nat}(hN:X.N.Nodup)(hy:X.N[i]?=some y)(hyl:X.env.kindOf y=some .local)(hc:X.calm=true)(hok:Ga X.N X.env.scope scope xs fs=true)(hi:PI X tg iter wi)
 (hg:∀b,PG (X.blk scope (xs++around X.N fs) b) tg (g b)) (ht:∀b,PTs (X.blk scope (xs++around X.N fs) b) ifs (tt b)) (he:∀b,PE (X.blk scope (xs++around X.N fs) b) elt (te b)) {spos:Pos}
 (hsw:swapsWith (.ListComp elt [⟨tg,iter,ifs,0⟩] scope pos) (some (.Name y py)) spos.line X.env=pure true:=by rfl)
 (hs:∀x,foldedSetIterable iter X.env x=pure x:=by intro _;rfl):
 PS X (.Assign [.Name y py] (.ListComp elt [⟨tg,iter,ifs,0⟩] scope pos) spos) (J0o (P5 wi xs.length fs g tt te) (Cy i)):=by
 intro pins s σ H D I h;have O:=Et hok;rw[exec_Assign_Name_used _ _ _ _ hsw];refine Fc (Rg (Fc ?_));show wpAny _ X.A (do let _ <- comprehension (.ListComp elt [⟨tg,iter,ifs,0⟩] scope pos) scope X.env _ (newList []) false (eval iter X.env) (some (assign (.Name y py) X.env))) _ _ s
 refine Fc (FN (wpAny_comprehension_free (use:=some (assign (.Name y py) X.env)) (Q:=λ_ s'=>SP X pins D .next s') rfl hs (Mc λy hy hf=>I.ok.has _ (O.free y hy hf)) O.kind O.names
  (thn (hi pins s σ H _ I h) λv s1 h1=>thn h1 λitv s2 h2=>?_)) (λ_ s' hq=>Fu (Fu hq)) λ_ _ e=>e)
 refine Sq (RR:=λacc C=>compPost (model X.prog X.w) X.A X.xe (some (assign (.Name y py) X.env)) (λ_ s'=>SP X pins D .next s') acc C) hc O hg ht he h2 λD' C s' m H' hn I0 q0 F=>?_;show wpAny _ X.A (assign (.Name y py) X.env (.ref D')) _ _ _;refine wpAny_assign_Name (On I0 hN hy (.inl hyl) (v:= .ref D') rfl (λs3 I3 hsb=>?_) (.inr hyl));obtain⟨a,sb3,ha⟩:=hsb
 have haC:C≠a:=by
  rcases ha with rfl | ha
  . exact F.2.1
  . exact(F.2.2.2.2.1 y a ha).symm
 exact⟨m,hn.sameBut sb3 haC,λh4 sb4=>⟨_,H',P6 I3 F sb4,q0⟩⟩
end
def Its(z:Str):It:=⟨λi _=>i < z.cps.size,λi H x H'=>H'=H/\∃c,z.cps[i]?=some c/\x= .str ⟨#[c]⟩,λi _=>z.cps.size<=i⟩
def Jb6(tl:TE):TI:=λσ H R=>tl σ H λx H1=>∃z,x= .str z/\R (Its z) H1
section
variable {P:Program}{w:World}{K:PySem.W.Frag}{tg:Expr}
theorem J2c(ty:String)(hty:ty="str_ascii_iterator"\/ty="str_iterator")(z:Str)(t:Tok)(it:Addr):J0q P w K tg (Its z) [it] it (λi h=>i<=z.cps.size/\h.IsStrIter it ty z t i) where
 mem:=by simp
 obj:=λi h st b hb=>by
  have e:b=it:=by simpa using hb
  subst e;obtain⟨o,e,c,d⟩:=st.2;exact⟨o,e,λv z=>by rw[d]at z;cases z⟩
 keep:=λi h h' st k=>⟨st.1,by obtain⟨o,e,r⟩:=st.2;exact⟨o,k it (by simp) o e,r⟩⟩
 item:=by
  intro X hP hw hK hc i pins s σ H E I hf st hg;subst hP hw hK;obtain⟨f0,f1,f2,f3,f4,f5⟩:=hf it (by simp)
  have W:Walks X.prog X.w X.A it [it] [it] z.cps.size (SignAt z) (λi h=>h.IsStrIter it ty z t i):=by
   rcases hty with rfl | rfl
   . exact Walks.strAscii (I.ok.hd hc) it z t
   . exact Walks.strWide (I.ok.hd hc) it z t
  refine W.item i s _ _ hg st.2 λv h' tk hv st' kk=>?_;obtain⟨c,u,hcc,rfl⟩:=hv;have I1:Inv X pins σ H {s with heap:=h',toks:=tk}:=I.turned (λb o hb e=>kk b o (by simpa using hb) e) f0 f1 f3 f4 f5;obtain⟨o,e,cc,d⟩:=id st'
  refine⟨_,rfl,J0r (s:={s with heap:=h',toks:=tk}) (n:=ty) e cc d (by rcases hty with rfl | rfl <;> decide) ⟨.str ⟨#[c]⟩,H,I1,⟨u,rfl⟩,⟨rfl,c,hcc,rfl⟩,⟨hg,st'⟩,λb hb=>(hf b hb).1⟩⟩
 done:=by
   intro X hP hw hK hc i pins s σ H E I hf st hg;subst hP hw hK;obtain⟨f0,f1,f2,f3,f4,f5⟩:=hf it (by simp)
   have W:Walks X.prog X.w X.A it [it] [it] z.cps.size (SignAt z) (λi h=>h.IsStrIter it ty z t i):=by
    rcases hty with rfl | rfl
    . exact Walks.strAscii (I.ok.hd hc) it z t
    . exact Walks.strWide (I.ok.hd hc) it z t
   have hi:i=z.cps.size:=Nat.le_antisymm st.1 hg;subst hi
   exact W.done s _ _ st.2 λh' tk kk=>⟨rfl,I.turned (λb o hb e=>kk b o (by simpa using hb) e) f0 f1 f3 f4 f5⟩
 self:=λ_ _ _ _ _ st h=>by
  rcases hty with rfl | rfl
  . exact wpAny_pyIter_striter_ascii st.2 h
  . exact wpAny_pyIter_striter_wide st.2 h
end
section
variable {X:Cx}{tg:Expr}
theorem J99{l:Expr}{tl:TE}(hl:PE X l tl):PI X tg l (Jb6 tl):=by
 intro pins s σ H R I h;refine thn (hl pins s σ H _ I h) λv s1 hq_=>?_;obtain⟨x,H1,I1,r1,q1⟩:=hq_;obtain⟨z,e,q⟩:=q1;subst e;obtain⟨t,rfl⟩:=r1
 have fin:∀ty,(ty="str_ascii_iterator"\/ty="str_iterator")->PIE X pins σ tg R (.ref s1.heap.objs.size) {s1 with heap:=s1.heap.push {cls:= .type ty,data:= .fields #[.str z t,.int 0 0]}}:=λty hty=>by
  refine⟨s1.heap.objs.size,[s1.heap.objs.size],_,_,H1,rfl,I1.kept (t':=s1.toks) λb o e=>Fe _ e,J2c ty hty z t _,⟨FP _,_,Fy _ rfl,rfl,rfl⟩,λb hb=>?_,q⟩
  have e:b=s1.heap.objs.size:=by simpa using hb
  subst e;exact I1.fpOk (Fg _) I1.fresh
 cases ha:z.cps.all (· < 128)
 . exact wpAny_pyIter_wide ha (fin _ (.inr rfl))
 . exact wpAny_pyIter_ascii ha (fin _ (.inl rfl))
def Jb7:V->Option Int->Option Int->Hp->VK->Prop:=λx lo hi H Q=>∃z,x= .str z/\z.length<=sizeLine/\Q (.str (Txt.slice z lo hi)) H
theorem Nt:SlR X Jb7:=by
 intro pins s σ H x v vl vu lo hi sl Q I rx hs pl pu h;obtain⟨z,rfl,hz,q⟩:=h;obtain⟨t,rfl⟩:=rx;obtain⟨o,ho,hc,hd⟩:=hs;refine⟨"str",_,F.slot_str_getitem.lookup,typeIs_str _ _ _,?_⟩
 have fin:∀(l u:Option (Int×Tok)),s.heap.IsSlice sl l u none->l.map (·.1)=lo->u.map (·.1)=hi->wpAny (model X.prog X.w) X.A (getItem (.str z t) (.ref sl)) (EP X pins σ Q) X.xe s:=λl u hsl hl hu=>by
  subst hl hu;exact wpAny_getItem_str_slice (l:=l) (u:=u) (st:=none) hsl rfl (post_val_or_str ⟨FE (Txt.slice_le z _ _) hz,λt' k=>⟨.str _,H,I.tok k,⟨t',rfl⟩,q⟩⟩)
 cases pl <;> cases pu
 . exact fin none none ⟨o,ho,hc,hd⟩ rfl rfl
 . exact fin none (some (_,_)) ⟨o,ho,hc,hd⟩ rfl rfl
 . exact fin (some (_,_)) none ⟨o,ho,hc,hd⟩ rfl rfl
 . exact fin (some (_,_)) (some (_,_)) ⟨o,ho,hc,hd⟩ rfl rfl
theorem Nu:∀{ys:List Str}{us:List Value},Ay (ys.map V.str) us->StrsAre us ys
 | [],_,r=>by rw[List.map_nil]at r;cases r;exact .nil
 | y::ys,us,r=>by
  rw[List.map_cons]at r
  cases r with
  | cons r1 r2=>
   obtain⟨t,e⟩:=r1;subst e;exact .cons y t (Nu r2)
def J7e(K:PySem.W.Frag):V->List V->Hp->VK->Prop:=λx vs H Q=>∃z p ys,x= .str z/\vs=[.ref p]/\SqL K H p (ys.map V.str)/\(ys.map (·.length)).sum+ys.length * z.length<=16777216/\Q (.str (Txt.join z ys)) H
theorem J5q:MtR X "str.join" (J7e X.K):=by
 intro pins s σ H x vs v us Q I rx rv h;obtain⟨z,p,ys,rfl,rfl,hp,hw,q⟩:=h;obtain⟨t,rfl⟩:=rx;obtain⟨u,rfl,ru⟩:=rv.one;cases ru;obtain⟨its,r,pl,hz⟩:=I.list hp
 exact join_list pl.isList (by simpa using Nu r) hw λt' k=>⟨.str _,H,I.tok k,⟨t',rfl⟩,q⟩
def Jb8:V->List V->Hp->VK->Prop:=λx vs H Q=>∃z y,x= .str z/\vs=[.str y]/\Q (.int (Txt.find z y)) H
def J9a:V->List V->Hp->VK->Prop:=λx vs H Q=>∃z y,x= .str z/\vs=[.str y]/\(y.length==0)=false/\z.length+2<=sizeLine/\∀p,H p=none->Q (.ref p) (upd H p (.lst ((Txt.split z y).map V.str)))
def Jb9:R2:=λx y H Q=>∃z n,x= .str z/\y= .int n/\MulOk z n/\Q (.str (Txt.mul z n)) H
def Jba(K:PySem.W.Frag):List V->Hp->VK->Prop:=λxs H Q=>∃(p:Addr) (bs:List Bool),xs=[.ref p]/\SqL K H p (bs.map V.bl)/\Q (.bl (bs.all id)) H
theorem J2d(hc:X.calm=true):Ep X (.builtin "all") (Jba X.K):=by
 intro pins s σ H xs us Q I r h;obtain⟨p,bs,rfl,hp,q⟩:=h;obtain⟨u,rfl,ru⟩:=Ma r;cases ru;obtain⟨its,r,pl,hz⟩:=I.list hp
 have hlt:p < s.heap.objs.size:=by obtain⟨o,n,e,_⟩:=pl;exact Fm e
 refine call_all_walk (RG pl.isList ⟨s.heap.objs.size,_,_,_,_,_,λi=>bs.getD i true,rfl,Walks.list (show X.A.in1.handled=none from I.ok.hd hc) s.heap.objs.size p (Fv hlt) its.toArray,⟨⟨_,Fy _ rfl,rfl,rfl⟩,pl.isList.push _⟩,?_,λh' tk kk=>?_⟩)
 . intro i v s' Q' E' hP hQ'
   have hP:its.toArray[i]?=some v:=hP;have hlen:=r.length;rw[Fa]at hlen
   have hi:i < bs.length:=by
    have:=(HI.mp hP).1;rw[Fi]at this;omega
   obtain⟨u,hu,ru⟩:=r.get (i:=i) (x:=V.bl (bs[i])) (by simp[hi])
   have e:u=v:=by
    have:its[i]?=some v:=by simpa using hP
    rw[hu]at this;exact FG this
   subst e;cases ru;dsimp only at hQ';rw[Fd,Fb hi]at hQ';exact Fu hQ'
 . refine⟨.bl _,H,I.kept (t':=tk) λb o e=>kk b o ?_ (Fe _ e),rfl,?_⟩
   . simpa using Fv (Fm e)
   . have hlen:=r.length
     rw[Fa]at hlen
     have:((List.range its.toArray.size).all λi=>bs.getD i true)=bs.all id:=by
      rw[Fi,<- hlen];rw[Rc,FY,FY];constructor
      . intro h x hx
        obtain⟨i,hi,rfl⟩:=List.mem_iff_getElem.mp hx;have:=h i (by simpa using hi)
        simpa [Fd,Fb hi] using this
      . intro h i hi
        have hi:i < bs.length:=by simpa using hi
        rw[Fd,Fb hi];exact h _ (Hj hi)
     rw[this];exact q
end
abbrev TJ:=Str->St->Hp->(Str->Hp->Prop)->Prop
def PJ(X:Cx)(es:List Expr)(t:TJ):Prop:=
 ∀(acc:Str) (pins:List (Addr×Obj)) (s:Shared) (σ:St) (H:Hp) (Q:Str->Hp->Prop),Inv X pins σ H s->t acc σ H Q->
   Joins (model X.prog X.w) X.A X.xe (evalEach es X.env) acc (λout s'=>∃H',Inv X pins σ H' s'/\Q out H') s
def Jbb:TJ:=λacc _ H Q=>Q acc H
def J7f(te:TE)(tr:TJ):TJ:=λacc σ H Q=>te σ H λx H1=>∃y,x= .str y/\(acc++y).length<=sizeLine/\tr (acc++y) σ H1 Q
def J7g(t:TJ):TE:=λσ H Q=>t Str.empty σ H λout H1=>out.length<=sizeLine/\Q (.str out) H1
def Jbc(te:TE):TE:=λσ H Q=>te σ H λx H1=>(∃z,x= .str z/\z.length<=sizeLine/\Q (.str z) H1)\/∃i,x= .int i/\i.natAbs.log2 < 1920/\Q (.str (toString i)) H1
def Jbd(te:TE):TE:=λσ H Q=>te σ H λx H1=>∃z,x= .str z/\(PySem.reprText z).length<=sizeLine/\Q (.str (PySem.reprText z)) H1
section
variable {X:Cx}{e v₁ v₂:Expr}{es:List Expr}{te:TE}{tr t:TJ}{pos:Pos}
theorem Nv:PJ X [] Jbb:=λ_ _ _ _ H _ I h=>⟨H,I,h⟩
theorem De(he:PE X e te)(hr:PJ X es tr):PJ X (e::es) (J7f te tr):=by
 intro acc pins s σ H Q I h;refine thn (he pins s σ H _ I h) λv s1 hq_=>?_;obtain⟨x,H1,I1,r1,y,ex,hz,q⟩:=hq_;subst ex;obtain⟨t,rfl⟩:=r1;exact⟨y,t,rfl,hz,hr _ pins s1 σ H1 Q I1 q⟩
theorem Joins.mono{M:Model}{A:Around}{Q Q':Str->Shared->Prop}(h:∀o s,Q o s->Q' o s):∀{parts:List (Sem Value)}{acc:Str}{s:Shared},Joins M A E parts acc Q s->Joins M A E parts acc Q' s
 | [],_,_,q=>h _ _ q
 | _::_,_,_,q=>FN q (λv s1 ⟨y,t,e,hz,r⟩=>⟨y,t,e,hz,Joins.mono h r⟩) λ_ _ x=>x
theorem Kv(h:PJ X (v₁::v₂::es) t):PE X (.JoinedStr (v₁::v₂::es) pos) (J7g t):=by
 intro pins s σ H Q I hq;refine wpAny_JoinedStr (Joins.mono (λo s1 hq_=>?_) (h Str.empty pins s σ H _ I hq));obtain⟨H1,I1,hz,q⟩:=hq_;exact⟨hz,.str o,H1,I1.tok _,⟨_,rfl⟩,q⟩
theorem Nw(h:PE X e te):PE X (.FormattedValue e (-1) none pos) (Jbc te):=by
 intro pins s σ H Q I hq;refine wpAny_FormattedValue_plain (thn (h pins s σ H _ I hq) λv s1 hq_=>?_);obtain⟨x,H1,I1,r1,q⟩:=hq_;rcases q with ⟨z,rfl,hz,q⟩ | ⟨i,rfl,hz,q⟩
 . obtain⟨t,rfl⟩:=r1
   exact wpAny_formatField_str ⟨.str z,H1,I1,⟨_,rfl⟩,q⟩ ⟨.str z,H1,I1.tok _,⟨_,rfl⟩,q⟩ hz
 . obtain⟨t,rfl⟩:=r1
   exact wpAny_formatField_int hz ⟨.str _,H1,I1.tok _,⟨_,rfl⟩,q⟩
end
abbrev V6(wi:TI)(fs:List Nat)(te:Blk->TE):TE:=P5 wi 1 fs (λ_=>Cy 0) (λ_=>Mg) te
section
variable {X:Cx}{scope:Scope}{x:Str}{px:Pos}{fs:List Nat}{elt iter:Expr}{pos:Pos}{wi:TI}{te:Blk->TE}
theorem J2e(hok:Ga X.N X.env.scope scope [x] fs=true)(b:Blk):PG (X.blk scope ([x]++around X.N fs) b) (.Name x px) (Cy 0):=
 Cr (Et hok).nd rfl (.inl (lookup_relabel_local ((Et hok).own x (by simp)))) (.inr (lookup_relabel_local ((Et hok).own x (by simp))))
theorem Ia(x:Str)(fs:List Nat)(hc:X.calm=true)(hok:Ga X.N X.env.scope scope [x] fs=true)(hi:PI X (.Name x px) iter wi)(he:∀b,PE (X.blk scope ([x]++around X.N fs) b) elt (te b))
 (hs:∀x,foldedSetIterable iter X.env x=pure x:=by intro _;rfl):PE X (.ListComp elt [⟨.Name x px,iter,[],0⟩] scope pos) (V6 wi fs te):=
 J2b (xs:=[x]) (g:=λ_=>Cy 0) (tt:=λ_=>Mg) hc hok hi (J2e hok) (λ_=>Ws) he hs
theorem Sr{y:Str}{py:Pos}{i:Nat}{spos:Pos}(x:Str)(fs:List Nat)(hN:X.N.Nodup)(hy:X.N[i]?=some y)(hyl:X.env.kindOf y=some .local)(hc:X.calm=true)(hok:Ga X.N X.env.scope scope [x] fs=true)(hi:PI X (.Name x px) iter wi)(he:∀b,PE (X.blk scope ([x]++around X.N fs) b) elt (te b))
 (hsw:swapsWith (.ListComp elt [⟨.Name x px,iter,[],0⟩] scope pos) (some (.Name y py)) spos.line X.env=pure true:=by rfl)
 (hs:∀x,foldedSetIterable iter X.env x=pure x:=by intro _;rfl):PS X (.Assign [.Name y py] (.ListComp elt [⟨.Name x px,iter,[],0⟩] scope pos) spos) (J0o (V6 wi fs te) (Cy i)):=
 J5p (xs:=[x]) (g:=λ_=>Cy 0) (tt:=λ_=>Mg) hN hy hyl hc hok hi (J2e hok) (λ_=>Ws) he hsw hs
end
theorem Jbe{x:Option V}{r:St}:Jb5 (none::r) (x::r):=λi v e=>by
 cases i with
 | zero=>cases e
 | succ i=>exact e
section
variable {K:PySem.W.Frag}{tail:St}{te:Blk->TE}{Q:VK}{H1:Hp}
def Ss(D:Addr)(n i:Nat)(ys:List V)(Pv:Nat->List V->Hp->Prop):VK:=λy H4=>H4 D=some (.lst ys)/\ys.length < sizeLine/\∃m',m' < n - i/\(m'=n - (i+1)/\i+1<=n/\Pv (i+1) (ys++[y]) (upd H4 D (.lst (ys++[y]))))
theorem Ib{D:Addr}{n i:Nat}{ys:List V}{Pv:Nat->List V->Hp->Prop}{y:V}{H4:Hp}(h1:H4 D=some (.lst ys))(h2:ys.length < sizeLine)(h3:i < n)(h4:Pv (i+1) (ys++[y]) (upd H4 D (.lst (ys++[y])))):Ss D n i ys Pv y H4:=
 ⟨h1,h2,n - (i+1),by omega,rfl,h3,h4⟩
theorem Kw{J:It}(n:Nat)
 (h:∀(b:Blk) (D:Addr),H1 D=none->∃Pv:Nat->List V->Hp->Prop,Pv 0 [] (upd H1 D (.lst []))/\(∀i ys H,Pv i ys H->H D=some (.lst ys))/\(∀ys H,Pv n ys H->J.stop n H/\Q (.ref D) H)/\
  ∀i ys H,i < n->Pv i ys H->J.go i H/\∀x H3,J.yld i H x H3->te b (some x::tail) H3 (Ss D n i ys Pv)):Co (none::tail) (λ_=>Cy 0) (λ_=>Mg) te Q J H1:=by
 intro b D hD;obtain⟨Pv,p0,p1,p2,p3⟩:=h b D hD;refine⟨λi m ys H=>m=n - i/\i<=n/\Pv i ys H,⟨n,rfl,FP _,p0⟩,?_⟩;rintro i m ys H ⟨rfl,hi,p⟩;refine⟨p1 i ys H p,?_⟩
 by_cases hlt:i < n
 . obtain⟨go,st⟩:=p3 i ys H hlt p
   refine .inr ⟨go,λx H3 y=>⟨Jbe,?_⟩⟩;exact st x H3 y
 . have e:i=n:=by omega
   subst e;exact .inl (p2 ys H p)
theorem E8{D:Addr}{o:HO}(h:H1 D=none):Aa H1 (upd H1 D o):=λb u e=>by rw[A5 (Ab e h)];exact e
theorem V8{z:Str}(f:Nat->V)(hz:z.cps.size<=sizeLine)(he:∀b c H Q',c∈z.cps.toList->Aa H1 H->Q' (f c) H->te b (some (.str ⟨#[c]⟩)::tail) H Q')
 (q:∀D,H1 D=none->Q (.ref D) (upd H1 D (.lst (z.cps.toList.map f)))):Co (none::tail) (λ_=>Cy 0) (λ_=>Mg) te Q (Its z) H1:=by
 refine Kw z.cps.size (λb D hD=>⟨λi ys H=>i<=z.cps.size/\ys=(z.cps.toList.take i).map f/\H=upd H1 D (.lst ys),⟨FP _,rfl,rfl⟩,?_,?_,?_⟩)
 . rintro i ys H ⟨hi,rfl,rfl⟩
   exact A1
 . rintro ys H ⟨_,rfl,rfl⟩
   refine⟨Fg _,?_⟩;have e:z.cps.toList.take z.cps.size=z.cps.toList:=Rp (by simp);rw[e];exact q D hD
 . rintro i ys H hi ⟨_,rfl,rfl⟩
   refine⟨hi,λx H3 ⟨e3,c,hc,ex⟩=>?_⟩;subst e3 ex
   have hc':z.cps.toList[i]?=some c:=by simpa using hc
   refine he b c _ _ (Fq hc') (E8 hD) (Ib A1 (by rw[Fa,FF,Re];omega) hi ⟨hi,?_,?_⟩)
   . rw[He,hc'];simp
   . funext a;by_cases ha:a=D <;> simp[upd,ha]
theorem V9{a:Addr}(f:V->V)(hS:SqL K H1 a xs)(hz:xs.length<=sizeLine)(he:∀b x H Q',x∈xs->Aa H1 H->Q' (f x) H->te b (some x::tail) H Q')
 (q:∀D,H1 D=none->Q (.ref D) (upd H1 D (.lst (xs.map f)))):Co (none::tail) (λ_=>Cy 0) (λ_=>Mg) te Q (Itl K a) H1:=by
 refine Kw xs.length (λb D hD=>⟨λi ys H=>i<=xs.length/\ys=(xs.take i).map f/\H=upd H1 D (.lst ys),⟨FP _,rfl,rfl⟩,?_,?_,?_⟩)
 . rintro i ys H ⟨hi,rfl,rfl⟩
   exact A1
 . rintro ys H ⟨_,rfl,rfl⟩
   refine⟨⟨xs,(E8 hD).seq hS,Fg _⟩,?_⟩;rw[RP];exact q D hD
 . rintro i ys H hi ⟨_,rfl,rfl⟩
   refine⟨⟨xs,xs[i],(E8 hD).seq hS,by simp[hi]⟩,λx H3 ⟨e3,ex⟩=>?_⟩;subst e3;have hc':=ex xs ((E8 hD).seq hS);refine he b x _ _ (Fq hc') (E8 hD) (Ib A1 (by rw[Fa,FF];omega) hi ⟨hi,?_,?_⟩)
   . rw[He,hc'];simp
   . funext a;by_cases ha:a=D <;> simp[upd,ha]
theorem Nx{lo:Int}{n:Nat}(f:Int->V)(hz:n<=sizeLine)(he:∀b (i:Nat) H Q',i < n->Aa H1 H->Q' (f (lo+i)) H->te b (some (.int (lo+i))::tail) H Q')
 (q:∀D,H1 D=none->Q (.ref D) (upd H1 D (.lst ((List.range n).map λ(i:Nat)=>f (lo+(i:Int)))))):Co (none::tail) (λ_=>Cy 0) (λ_=>Mg) te Q (Itr lo n) H1:=by
 refine Kw n (λb D hD=>⟨λi ys H=>i<=n/\ys=(List.range i).map (λ(i:Nat)=>f (lo+(i:Int)))/\H=upd H1 D (.lst ys),⟨FP _,rfl,rfl⟩,?_,?_,?_⟩)
 . rintro i ys H ⟨hi,rfl,rfl⟩
   exact A1
 . rintro ys H ⟨_,rfl,rfl⟩
   exact⟨Fg _,q D hD⟩
 . rintro i ys H hi ⟨_,rfl,rfl⟩
   refine⟨hi,λx H3 ⟨e3,ex⟩=>?_⟩;subst e3 ex;refine he b i _ _ hi (E8 hD) (Ib A1 (by rw[Fa,Hm];omega) hi ⟨hi,?_,?_⟩)
   . rw[Rr];simp
   . funext a;by_cases ha:a=D <;> simp[upd,ha]
end
section
variable {σ:St}{H:Hp}{Q:VK}{D:Dh}{K:PySem.W.Frag}
theorem Wt{fs:List Nat}{te:Blk->TE}:V6 wi fs te σ H Q=wi σ H (Co (none::fs.map λj=>σ.getD j none) (λ_=>Cy 0) (λ_=>Mg) te Q):=rfl
theorem Wu{tl:TE}{R:It->Hp->Prop}:Jb6 tl σ H R=tl σ H λx H1=>∃z,x= .str z/\R (Its z) H1:=rfl
theorem J7h{r:V->Option Int->Option Int->Hp->VK->Prop}{tl th:TO}:tSl r te tl th σ H Q=te σ H λx H1=>tl σ H1 λl H2=>th σ H2 λu H3=>r x l u H3 Q:=rfl
theorem P7{QO:Option Int->Hp->Prop}:Vw σ H QO=QO none H:=rfl
theorem Wv{t:TE}{QO:Option Int->Hp->Prop}:J71 t σ H QO=t σ H λx H1=>∃i,x= .int i/\QO (some i) H1:=rfl
theorem J2f{x:V}{lo hi:Option Int}:Jb7 x lo hi H Q=∃z,x= .str z/\z.length<=sizeLine/\Q (.str (Txt.slice z lo hi)) H:=rfl
theorem J2g{x:V}{lo hi:Option Int}:Jaq K x lo hi H Q=∃a xs,x= .ref a/\SqL K H a xs/\∀p,H p=none->Q (.ref p) (upd H p (.lst (Nk xs lo hi))):=rfl
theorem J7i{T:String}{r:V->List V->Hp->VK->Prop}{to:TE}{t:TA}:tBM K T r to t σ H Q=to σ H λx H1=>tyV K T x H1/\t σ H1 λxs H2=>r x xs H2 Q:=rfl
theorem J2h{T:String}{r:V->List V->Hp->VK->Prop}{to:TE}:Jar K T r to σ H Q=to σ H λx H1=>tyV K T x H1/\r x [] H1 Q:=rfl
theorem Ww{z:Str}:tyV K "str" (.str z) H=True:=eq_true rfl
theorem Wx{x:V}{vs:List V}:J7e K x vs H Q=∃z p ys,x= .str z/\vs=[.ref p]/\SqL K H p (ys.map V.str)/\(ys.map (·.length)).sum+ys.length * z.length<=16777216/\Q (.str (Txt.join z ys)) H:=rfl
theorem Wy{x:V}{vs:List V}:Jb8 x vs H Q=∃z y,x= .str z/\vs=[.str y]/\Q (.int (Txt.find z y)) H:=rfl
theorem Su{x:V}{vs:List V}:J9a x vs H Q=∃z y,x= .str z/\vs=[.str y]/\(y.length==0)=false/\z.length+2<=sizeLine/\∀p,H p=none->Q (.ref p) (upd H p (.lst ((Txt.split z y).map V.str))):=rfl
theorem J2i:Jba K xs H Q=∃(p:Addr) (bs:List Bool),xs=[.ref p]/\SqL K H p (bs.map V.bl)/\Q (.bl (bs.all id)) H:=rfl
theorem Wz{x y:V}:Jb9 x y H Q=∃z n,x= .str z/\y= .int n/\MulOk z n/\Q (.str (Txt.mul z n)) H:=rfl
theorem X0{acc:Str}{QS:Str->Hp->Prop}:Jbb acc σ H QS=QS acc H:=rfl
theorem Sv{tr:TJ}{acc:Str}{QS:Str->Hp->Prop}:J7f te tr acc σ H QS=te σ H λx H1=>∃y,x= .str y/\(acc++y).length<=sizeLine/\tr (acc++y) σ H1 QS:=rfl
theorem X1{t:TJ}:J7g t σ H Q=t Str.empty σ H λout H1=>out.length<=sizeLine/\Q (.str out) H1:=rfl
theorem X2:Jbd te σ H Q=te σ H λx H1=>∃z,x= .str z/\(PySem.reprText z).length<=sizeLine/\Q (.str (PySem.reprText z)) H1:=rfl
theorem J2j:Jbc te σ H Q=te σ H λx H1=>(∃z,x= .str z/\z.length<=sizeLine/\Q (.str z) H1)\/∃i,x= .int i/\i.natAbs.log2 < 1920/\Q (.str (toString i)) H1:=rfl
theorem Sw:J1d σ H Q=∀p,H p=none->Q (.ref p) (upd H p (.dK [])):=rfl
theorem Ny{z:Str}{i:Int}{c:Nat}(hz:z.length<=sizeLine)(e:atI z.cps.toList i=some c)(q:Q (.str ⟨#[c]⟩) H):Jao (.str z) (.int i) H Q:=⟨z,i,c,rfl,rfl,hz,e,q⟩
theorem J7j{N':List Str}{b:Blk}:(X.blk scope N' b).K=X.K:=rfl
end
section
variable {X:Cx}{x:Str}{pos:Pos}
theorem Ct{i:Int}(hg:Gl X x)(hm:∃t,X.mg x=some (.int i t))(hd:(x==("__debug__":Str))=false:=by decide):PE X (.Name x pos) (tC (.int i)):=by
 obtain⟨t,hm⟩:=hm;exact Be hg hm ⟨t,rfl⟩ hd
theorem Qd{z:Str}(hg:Gl X x)(hm:∃t,X.mg x=some (.str z t))(hd:(x==("__debug__":Str))=false:=by decide):PE X (.Name x pos) (tC (.str z)):=by
 obtain⟨t,hm⟩:=hm;exact Be hg hm ⟨t,rfl⟩ hd
end
theorem E9:sizeLine=16777216:=by decide
theorem Bq{a b:Str}:(a++b).length=a.length+b.length:=strLen_append a b
theorem K0{c:Nat}:(⟨#[c]⟩:Str).length=1:=rfl
theorem Qe{z:Str}:z.cps.toList.length=z.length:=by simp[Str.length]
theorem Sx{a b:Str}:(a++b).cps.toList=a.cps.toList++b.cps.toList:=by
 show (a.cps++b.cps).toList=_;simp
theorem J9b{xs:List α}{i:Int}(h0:0<=i)(h1:i < xs.length):∃v,atI xs i=some v/\v∈xs:=by
 refine⟨xs[i.toNat],?_,Hj (by omega)⟩;exact Q7 h0 (by rw[Fb (by omega)])
theorem Yu{K:PySem.W.Frag}{H:Hp}{a:Addr}{ns:List Int}{R:List Int->Prop}(h:SqL K H a (ns.map V.int))(hl:ns.length<=63)(q:R ns):∃x:List Int,SqL K H a (x.map V.int)/\x.length<=63/\R x:=⟨ns,h,hl,q⟩
def J2k(z y:Str):Bool:=!(Builtin.Str.occurrences z y 0 z.length 1).isEmpty
theorem Sy{z:Str}{c:Nat}:J2k z ⟨#[c]⟩=decide (c∈z.cps.toList):=StrLaws.found_one z c
def Jbf:R2:=λx y H Q=>∃i j,x= .str i/\y= .str j/\Q (.bl (J2k j i)) H
def J5r:R2:=λx y H Q=>∃i j,x= .str i/\y= .str j/\Q (.bl (!J2k j i)) H
theorem J2l:OpR X (compareOp .In) Jbf:=Yk
theorem J2m{x y:V}{H:Hp}:Jbf x y H Q=∃i j,x= .str i/\y= .str j/\Q (.bl (J2k j i)) H:=rfl
theorem P8{x y:V}{H:Hp}:J5r x y H Q=∃i j,x= .str i/\y= .str j/\Q (.bl (!J2k j i)) H:=rfl
theorem Jch{c:α}{r:List α}:atI (c::r) 0=some c:=Q7 (by decide) rfl
def Gb(xs ys:List V):Bool:=match xs,ys with
 | [],[]=>true
 | x::xs,y::ys=>eqV x y && Gb xs ys
 | _,_=>false
theorem Ea:∀{xs ys:List V},xs.length≠ys.length->Gb xs ys=false
 | [],[],h=>absurd rfl h
 | [],_::_,_=>rfl
 | _::_,[],_=>rfl
 | x::xs,y::ys,h=>by
  unfold Gb;rw[Ea (λe=>h (by simp[e])),Bool.and_false]
theorem Eb:∀{xs ys:List V},xs.length=ys.length->Gb xs ys=(List.range xs.length).all λi=>eqV (xs.getD i .non) (ys.getD i .non)
 | [],[],_=>rfl
 | [],_::_,h=>by cases h
 | _::_,[],h=>by cases h
 | x::xs,y::ys,h=>by
  unfold Gb;rw[Eb (by simpa using h),List.length_cons,List.range_succ_eq_map,List.all_cons,List.all_map];rfl
theorem Qf{x y:Str}:eqV (.str x) (.str y)=decide (x=y):=rfl
theorem Ic:∀{xs ys:List Str},Gb (xs.map V.str) (ys.map V.str)=decide (xs=ys)
 | [],[]=>rfl
 | [],_::_=>rfl
 | _::_,[]=>rfl
 | x::xs,y::ys=>by
  show (eqV (.str x) (.str y) && Gb (xs.map V.str) (ys.map V.str))=_;rw[Ic,Qf]
  by_cases h:x=y
  . subst h;simp
  . simp[h]
def EqQ(K:PySem.W.Frag)(H:Hp)(x y:V)(r:Bool):Prop:=∃a b xs ys,x= .ref a/\y= .ref b/\((SqL K H a xs/\SqL K H b ys)\/(SqT K H a xs/\SqT K H b ys))/\xs.all Ca=true/\ys.all Ca=true/\r=Gb xs ys
section
variable {X:Cx}{pins:List (Addr×Obj)}{σ:St}{H:Hp}{s:Shared}
theorem Gd{ys:List V}{ws:List Value}{A:Around}(rx:Ay xs us)(ry:Ay ys ws)(fx:xs.all Ca=true)(fy:ys.all Ca=true):
 ∀j (h1:j < us.toArray.size) (h2:j < ws.toArray.size),SeqAt.EqAt A s us.toArray[j] ws.toArray[j] (eqV (xs.getD j .non) (ys.getD j .non)):=by
 intro j h1 h2;have lx:=rx.length;have ly:=ry.length;rw[Fi]at h1 h2
 have hx:j < xs.length:=by omega
 have hy:j < ys.length:=by omega
 obtain⟨u,hu,ru⟩:=rx.get (i:=j) (x:=xs[j]) (by simp[hx]);obtain⟨w,hw,rw'⟩:=ry.get (i:=j) (x:=ys[j]) (by simp[hy])
 have eu:us.toArray[j]=u:=by
  have:=Fb h1;rw[this]at hu
  simpa using hu
 have ew:ws.toArray[j]=w:=by
  have:=Fb h2;rw[this]at hw
  simpa using hw
 rw[eu,ew,Fd,Fd,Fb hx,Fb hy];exact V1 ru rw' (FY.mp fx _ (Hj hx)) (FY.mp fy _ (Hj hy))
theorem J9c{x y:V}{v:Value}{r:Bool}{A:Around}(I:Inv X pins σ H s)(rx:Au x u)(ry:Au y v)(h:EqQ X.K H x y r)(hu:A.units < cLine):SeqAt.RcAt A s u v r:=by
 obtain⟨a,b,xs,ys,rfl,rfl,hq,fx,fy,rfl⟩:=h;cases rx;cases ry;rcases hq with ⟨h1,h2⟩ | ⟨h1,h2⟩
 . obtain⟨us,r1,p1,z1⟩:=I.list h1
   obtain⟨ws,r2,p2,z2⟩:=I.list h2;have lx:=r1.length;have ly:=r2.length
   by_cases hl:xs.length=ys.length
   . rw[Eb hl]
     have:=SeqAt.RcAt.lists p1.isList p2.isList (by simp;omega) hu (Gd r1 r2 fx fy);rw[Fi,<- lx]at this;exact this
   . rw[Ea hl]
     exact SeqAt.RcAt.lists_lengths p1.isList p2.isList (by simp;omega) hu
 . obtain⟨us,r1,p1,z1⟩:=I.tuple h1
   obtain⟨ws,r2,p2,z2⟩:=I.tuple h2;have lx:=r1.length;have ly:=r2.length;have:=SeqAt.RcAt.tuples (show s.heap.IsTuple a us.toArray from p1) (show s.heap.IsTuple b ws.toArray from p2) hu (Gd r1 r2 fx fy);rw[Fi,Fi,<- lx,<- ly]at this
   by_cases hl:xs.length=ys.length
   . rw[Eb hl]
     rw[hl,Nat.min_self,R1,Bool.and_true]at this;rw[hl];exact this
   . rw[Ea hl]
     rw[Hh.mpr hl,Bool.and_false]at this;exact this
theorem J9d{x y:V}{v:Value}{r:Bool}{A:Around}(I:Inv X pins σ H s)(rx:Au x u)(ry:Au y v)(h:EqQ X.K H x y r)(hu:A.units < cLine):SeqAt.RcNeAt A s u v (!r):=by
 obtain⟨a,b,xs,ys,rfl,rfl,hq,fx,fy,rfl⟩:=h;cases rx;cases ry;rcases hq with ⟨h1,h2⟩ | ⟨h1,h2⟩
 . obtain⟨us,r1,p1,z1⟩:=I.list h1
   obtain⟨ws,r2,p2,z2⟩:=I.list h2;have lx:=r1.length;have ly:=r2.length
   by_cases hl:xs.length=ys.length
   . rw[Eb hl]
     have:=SeqAt.RcNeAt.lists p1.isList p2.isList (by simp;omega) hu (Gd r1 r2 fx fy);rw[Fi,<- lx]at this;exact this
   . rw[Ea hl]
     exact SeqAt.RcNeAt.lists_lengths p1.isList p2.isList (by simp;omega) hu
 . obtain⟨us,r1,p1,z1⟩:=I.tuple h1
   obtain⟨ws,r2,p2,z2⟩:=I.tuple h2;have lx:=r1.length;have ly:=r2.length;have:=SeqAt.RcNeAt.tuples (show s.heap.IsTuple a us.toArray from p1) (show s.heap.IsTuple b ws.toArray from p2) hu (Gd r1 r2 fx fy);rw[Fi,Fi,<- lx,<- ly]at this
   by_cases hl:xs.length=ys.length
   . rw[Eb hl]
     rw[hl,Nat.min_self,R1,Bool.and_true]at this;rw[hl];exact this
   . rw[Ea hl]
     rw[Hh.mpr hl,Bool.and_false]at this;exact this
def Jbg(K:PySem.W.Frag):R2:=λx y H Q=>∃r,EqQ K H x y r/\Q (.bl r) H
def Jbh(K:PySem.W.Frag):R2:=λx y H Q=>∃r,EqQ K H x y r/\Q (.bl (!r)) H
theorem Qg{k:Nat}(hr:Bt k X.A):OpR X (compareOp .Eq) (Jbg X.K):=by
 intro pins s σ H x y v u Q I rx ry h;obtain⟨r,e,q⟩:=h;exact J9c I rx ry e (Hk (by omega) hr.un) X.prog X.w X.xe _ ⟨.bl r,H,I,rfl,q⟩
theorem Va{k:Nat}(hr:Bt k X.A):OpR X (compareOp .NotEq) (Jbh X.K):=by
 intro pins s σ H x y v u Q I rx ry h;obtain⟨r,e,q⟩:=h;exact J9d I rx ry e (Hk (by omega) hr.un) X.prog X.w X.xe _ ⟨.bl (!r),H,I,rfl,q⟩
end
section
variable {K:PySem.W.Frag}{H:Hp}{Q:VK}{x y:V}
theorem J2n:Jbg K x y H Q=∃r,EqQ K H x y r/\Q (.bl r) H:=rfl
theorem J2o:Jbh K x y H Q=∃r,EqQ K H x y r/\Q (.bl (!r)) H:=rfl
theorem Ie{xs:List Str}:(xs.map V.str).all Ca=true:=by
 rw[List.all_map];exact FY.mpr λ_ _=>rfl
theorem J2p{a b:Addr}{xs:List Str}(h1:SqL K H a (xs.map V.str))(h2:SqL K H b (ys.map V.str)):EqQ K H (.ref a) (.ref b) (decide (xs=ys)):=⟨a,b,_,_,rfl,rfl,.inl ⟨h1,h2⟩,Ie,Ie,Ic.symm⟩
end
structure J5s where
 pn:List (Addr×Obj)
 xe:Value->Shared->Prop
 EE:St->XK
def J7k(tb:J5s->TS)(th:TH):TS:=λD σ H=>∀(pn:List (Addr×Obj)) (xe:Value->Shared->Prop),tb ⟨pn,xe,λσ' cls ox H'=>∃x,ox=some x/\th cls x D σ' H'⟩ D σ H
def Jbi(K:PySem.W.Frag)(c:Value)(ts:Addr->TS)(tr:TH):TH:=λcls x D σ H=>∃b,PySem.W.exmOne K cls c=some b/\if b=true then ts x D σ H else tr cls x D σ H
def Jci(K:PySem.W.Frag)(c:Value)(i:Nat)(ts:Addr->TS)(tr:TH):TH:=λcls x D σ H=>∃b,PySem.W.exmOne K cls c=some b/\if b=true then ts x (Nr i D) (σ.set i (some (.ref x))) (upd H x (J5m x cls)) else tr cls x D σ H
section
variable {σ:St}{H:Hp}{D:Dh}{K:PySem.W.Frag}
theorem X3{tb:J5s->TS}{th:TH}:J7k tb th D σ H=∀(pn:List (Addr×Obj)) (xe:Value->Shared->Prop),tb ⟨pn,xe,λσ' cls ox H'=>∃x,ox=some x/\th cls x D σ' H'⟩ D σ H:=rfl
theorem Sz{c:Value}{x:Addr}{ts:Addr->TS}{tr:TH}:Jbi K c ts tr cls x D σ H=∃b,PySem.W.exmOne K cls c=some b/\if b=true then ts x D σ H else tr cls x D σ H:=rfl
theorem X4{c:Value}{i:Nat}{x:Addr}{ts:Addr->TS}{tr:TH}:Jci K c i ts tr cls x D σ H=∃b,PySem.W.exmOne K cls c=some b/\if b=true then ts x (Nr i D) (σ.set i (some (.ref x))) (upd H x (J5m x cls)) else tr cls x D σ H:=rfl
theorem J2q{pn:List (Addr×Obj)}{xe:Value->Shared->Prop}:(X.tryX pn xe).K=X.K:=rfl
theorem J7l{x:Addr}:(X.sui x).K=X.K:=rfl
end
structure Bn(P:Program)(w:World)(K:PySem.W.Frag)(mg:Str->Option Value)(base:Heap)(CX:CXT)(k:Nat)(C:Addr)(m:Str)(ps:List Str)(sp:Sp):Prop where
 ex:∃(f:Addr) (fd:FuncData),Ai P w K mg base CX k f fd ps sp/\Ym K C m f/\Bl K fd ps []
structure Kj(P:Program)(w:World)(K:PySem.W.Frag)(mg:Str->Option Value)(base:Heap)(CX:CXT)(k:Nat)(x:Str)(C:Addr)(ps:List Str)(sp:Sp):Prop where
 ex:∃(f:Addr) (fd:FuncData),Ai P w K mg base CX k f fd ps sp/\Mk K C f/\mg x=some (.ref C)/\Bl K fd ps []
def Vb(C:Addr)(m:Str)(sp:Sp)(EE:St->XK)(ta:TE)(t:TA):TE:=λσ H Q=>ta σ H λx H1=>∃a dx fs,x= .ref a/\H1 a=some (.ins C dx fs)/\fs.lookup m=none/\t σ H1 λvs H2=>sp (x::vs) H2 Q (EE σ)
def J2r(C:Addr)(sp:Sp)(EE:St->XK)(t:TA):TE:=λσ H Q=>t σ H λvs H1=>∀x dx,H1 x=none->H1 dx=none->dx≠x->sp (.ref x::vs) (upd (upd H1 dx (.own x)) x (.ins C dx [])) (λv H2=>v= .non/\Q (.ref x) H2) (EE σ)
section
variable {X:Cx}{CX:CXT}{k j:Nat}{f C:Addr}{fd:FuncData}{ps:List Str}{sp:Sp}{EE:St->XK}{E:XK}{x m:Str}{p pos apos:Pos}{e o:Expr}{es:List Expr}{ta:TE}{t:TA}
theorem Ap(h:Kh CX X E):Ci CX X λ_=>E:=λpins σ H s e s' I hc=>h pins σ H s e s' I hc
theorem Mn{H:Hp}{s:Shared}{us:List Value}{vs:List V}(F:Ai X.prog X.w X.K X.mg X.base CX k f fd ps sp)(hr:Bt k X.A)(hb:Bl X.K fd ps [])(hx:Ci CX X EE)
 (I:Inv X pins σ H s) (r:Ay vs us) (h:sp vs H Q (EE σ)):wpAny (model X.prog X.w) X.A (call (.ref f) us) (EP X pins σ Q) X.xe s:=by
 have hl:us.length=ps.length:=by rw[<- r.length];exact F.len _ _ _ _ h
 have hb':=hb s us I.kIn (by simpa using hl);rw[Ha]at hb';refine HS (Ht (F.run X.A X.stack s H ⟨us,[]⟩ us vs Q (EE σ) hr I.env0 hb' r h) λr s' hq=>?_)
 cases r with
 | error e=>exact hx pins σ H s e s' I hq
 | ok fl=>
  cases fl with
  | ret u=>exact I.after hq
  | next=>exact False.elim hq
  | brk=>exact False.elim hq
  | cont=>exact False.elim hq
theorem B9{pl:Sem Bool}(D:Bn X.prog X.w X.K X.mg X.base CX j C m ps sp)(c:Cls X.K C)(hr:Bt k X.A)(hx:Ci CX X EE)(he:PE X o ta)(ha:PA X (e::es) t)(hj:j<=k:=by decide)
 (hst:starEach (e::es) X.env=(false,eval e X.env)::starEach es X.env:=by rfl) (hpl:(backTo pos (starEach es X.env)).any (·.1)=false:=by rfl)
 (ht:eval (.Call (.Attribute o m apos) (e::es) [] pos) X.env=(do
  let ov <- eval o X.env
  standAt apos.atName
  let (f,first) <- holding [ov] (getMethod ov m pl)
  callWith pos f first (backTo pos (starEach (e::es) X.env)) (backToKw pos (keywordEach [] X.env))):=by rfl):
 PE X (.Call (.Attribute o m apos) (e::es) [] pos) (Vb C m sp EE ta t):=by
 obtain⟨f,fd,F,hm,hb⟩:=D.ex;intro pins s σ H Q I h;refine HZ (pl:=pl) (thn (he pins s σ H _ I h) λu s1 hq_=>?_) ht;obtain⟨x,H1,I1,rx,a,dx,fs,ex,ea,l,q⟩:=hq_;subst ex;obtain rfl:u=Value.ref a:=rx;refine Kg I1 ea c hm l ?_;refine FW (first:=[.ref a]) (h₀:=X.base) I.ok.mod.kin hm.kp (thn (ha pos pins s1 σ H1 _ I1 q) λus s2 ⟨vs,H2,I2,r,q2⟩=>⟨I2.kIn,?_⟩) hst hpl;exact Mn (us:= .ref a::us) (vs:= .ref a::vs) (F.mono hj) hr hb hx I2 (.cons rfl r) q2
theorem E3{pl:Sem Bool}(D:Bn X.prog X.w X.K X.mg X.base CX j C m ps sp)(c:Cls X.K C)(hr:Bt k X.A)(hx:Ci CX X EE)(he:PE X o ta)(hj:j<=k:=by decide)
 (ht:eval (.Call (.Attribute o m apos) [] [] pos) X.env=(do
  let ov <- eval o X.env
  standAt apos.atName
  let (f,first) <- holding [ov] (getMethod ov m pl)
  callWith pos f first (backTo pos (starEach [] X.env)) (backToKw pos (keywordEach [] X.env))):=by rfl):
 PE X (.Call (.Attribute o m apos) [] [] pos) (Vb C m sp EE ta J8p):=by
 obtain⟨f,fd,F,hm,hb⟩:=D.ex;intro pins s σ H Q I h;refine HZ (pl:=pl) (thn (he pins s σ H _ I h) λu s1 hq_=>?_) ht;obtain⟨x,H1,I1,rx,a,dx,fs,ex,ea,l,q⟩:=hq_;subst ex;obtain rfl:u=Value.ref a:=rx;refine Kg I1 ea c hm l ?_;exact PySem.W.callWith_K0 (first:=[.ref a]) I1.kIn hm.kp (Mn (us:=[.ref a]) (vs:=[.ref a]) (F.mono hj) hr hb hx I1 (.cons rfl .nil) q)
theorem B0(D:Kj X.prog X.w X.K X.mg X.base CX j x C ps sp)(hr:Bt k X.A)(hg:Gl X x)(hx:Ci CX X EE)(ha:PA X (e::es) t)(hj:j+1<=k:=by decide)(hdb:(x==("__debug__":Str))=false:=by decide)
 (he:starEach (e::es) X.env=(false,eval e X.env)::starEach es X.env:=by rfl) (hpl:(backTo pos (starEach es X.env)).any (·.1)=false:=by rfl):
 PE X (.Call (.Name x p) (e::es) [] pos) (J2r C sp EE t):=by
 obtain⟨f,fd,F,M,hm,hb⟩:=D.ex;intro pins s0 σ H0 Q I0 h;refine FV (Ef I0 hg hm ?_ hdb);refine FW (h₀:=X.base) I0.ok.mod.kin M.kp (thn (ha pos pins s0 σ H0 _ I0 h) λus s ⟨vs,H,I,r,q⟩=>⟨I.kIn,?_⟩) he hpl;have hq:=q (s.heap.objs.size+1) s.heap.objs.size (I.hok.fresh (HF _)) (I.hok.fresh (Fg _)) (Fv (R3 _));have I2:=Inv.made (C:=C) I;have r2:Ay (V.ref (s.heap.objs.size+1)::vs) (Value.ref (s.heap.objs.size+1)::us):= .cons rfl r
 have hl:(Value.ref (s.heap.objs.size+1)::us).length=ps.length:=by
  rw[<- r2.length];exact F.len _ _ _ _ hq
 have hb':=λs' (h':X.K.In s'.heap)=>hb s' (Value.ref (s.heap.objs.size+1)::us) h' (by simpa using hl);have hr':Bt (j+1) X.A:=hr.mono hj
 refine HS (J0y (f:=f) I.kIn M.makes M.init (HV.mp M.fn) (Ht (F.run _ X.stack _ _ ⟨Value.ref (s.heap.objs.size+1)::us,[]⟩ (Value.ref (s.heap.objs.size+1)::us) _ _ (EE σ) (hr'.make C us [])
  (I2.env0.make C us []) (by have:=hb' _ I2.kIn;rw[Ha]at this;exact this) r2 hq) λr s' hq'=>?_))
 cases r with
 | error e=>exact hx pins σ _ _ e s' I2 hq'
 | ok fl=>
  cases fl with
  | ret u=>
   obtain⟨v,H',I3,rv,ev,q3⟩:=I2.after hq';subst ev;exact⟨rv,⟨V.ref (s.heap.objs.size+1),H',I3,rfl,q3⟩⟩
  | next=>exact False.elim hq'
  | brk=>exact False.elim hq'
  | cont=>exact False.elim hq'
end
section
variable {σ:St}{H:Hp}{Q:VK}{D:Dh}{K:PySem.W.Frag}
theorem T3{C:Addr}{m:Str}{sp:Sp}{EE:St->XK}{ta:TE}{t:TA}:Vb C m sp EE ta t σ H Q=ta σ H λx H1=>∃a dx fs,x= .ref a/\H1 a=some (.ins C dx fs)/\fs.lookup m=none/\t σ H1 λvs H2=>sp (x::vs) H2 Q (EE σ):=rfl
theorem T5{C:Addr}{sp:Sp}{EE:St->XK}{t:TA}:J2r C sp EE t σ H Q=t σ H λvs H1=>∀x dx,H1 x=none->H1 dx=none->dx≠x->sp (.ref x::vs) (upd (upd H1 dx (.own x)) x (.ins C dx [])) (λv H2=>v= .non/\Q (.ref x) H2) (EE σ):=rfl
theorem J2s{ta:TE}{f:Str}:Jah K ta f σ H Q=ta σ H λx H1=>∃a C dx fs v,x= .ref a/\H1 a=some (.ins C dx fs)/\Cls K C/\An K C f/\fs.lookup f=some v/\Q v H1:=rfl
theorem X5{ta:TE}{f:Str}:Jai K ta tv f D σ H=tv σ H λy H1=>ta σ H1 λx H2=>∃a C dx fs,x= .ref a/\H2 a=some (.ins C dx fs)/\Cls K C/\An K C f/\fs.length < 1000/\D.nx σ (upd H2 a (.ins C dx (Ac f y fs))):=rfl
theorem J2t{ty:TE}:Jax ty td σ H Q=ty σ H λy H1=>td σ H1 λx H2=>∃a o,x= .ref a/\D8 H2 a y o/\Q (.bl o.isSome) H2:=rfl
theorem P9{ty:TE}:Vx ty td σ H Q=ty σ H λy H1=>td σ H1 λx H2=>∃a o,x= .ref a/\D8 H2 a y o/\Q (.bl (!o.isSome)) H2:=rfl
theorem X6{ty:TE}:J74 td ty σ H Q=td σ H λx H1=>ty σ H1 λy H2=>∃a v,x= .ref a/\D8 H2 a y (some v)/\Q v H2:=rfl
theorem X7{ty:TE}:J75 td ty tv D σ H=tv σ H λv H1=>td σ H1 λx H2=>ty σ H2 λy H3=>∃a H4,x= .ref a/\Ke H3 a y v H4/\D.nx σ H4:=rfl
theorem X8{n:Nat}{t:TGs}{v:V}{N:St->Hp->Prop}:J53 K n t v σ H N=∃a xs,v= .ref a/\SqT K H a xs/\xs.length=n/\t xs σ H N:=rfl
end
theorem Pa:Str.empty.length=0:=rfl
theorem J9e{a b:Str}{n:Nat}(h1:a.length<=n / 2)(h2:b.length<=n / 2):(a++b).length<=n:=by
 rw[Bq];omega
open Sem (wp)
section
variable {Pg:Program}{w:World}{A:Around}{E:Value->Shared->Prop}{h:Heap}{g:Array GenState}{d:Drawn}{t:Nat}{os:OsState}
variable {nm q:Str}{C N:Addr}{bs bm bmB:List Value}{hd:Bool}{sn:List Str}{su:List Value}{ab:Bool}{co:Option Bool}{dd:Option Addr}{k0 k1 k2 k3 k5:Option Value}{B nw ni:String}
abbrev X9(h:Heap)(C:Addr):Obj:={cls:= .ref C,data:= .fields #[.ref h.objs.size,.none,.none,.none,.bool false,.none]}
abbrev K1(h:Heap)(C:Addr)(rest:List Value):Heap:=(h.push {cls:= .type "tuple",data:= .seq rest.toArray}).push (X9 h C)
theorem Md{rest:List Value}:∀b o,h.get? b=some o->(K1 h C rest).get? b=some o:=λ_ _ e=>Fe _ (Fe _ e)
theorem T7(F:ExcBaseFacts B nw ni bmB)(T:OwnTail h bmB bm){mN:Str->Option Value}{rest:List Value}{fI:Addr}{oI:Obj}{Q:Fin->Shared->Prop}
 (kC:h.get? C=some (excClassObj nm q C N bs bm hd sn su ab co dd k0 k1 k2 k3 k5 nw)) (hn:h.Ns N mN) (hi:mN "__init__"=some (.ref fI)) (hf:h.get? fI=some oI) (hfc:oI.cls= .type "function")
 (hq:∀h' e,Heap.MadeExcOf h h' e (.ref C) rest->wpAny (model Pg w) A (call (.ref fI) (.ref e::rest)) (λr s'=>r= .none/\Q (.done (.ret (.ref e))) s') E ⟨h',g,d,t,os⟩) (hz:rest.length<=sizeLine):
 wpAny (model Pg w) A (Builtin.«type.__call__» ⟨.ref C::rest,[]⟩) Q E ⟨h,g,d,t,os⟩:=by
 repeat (first | with_reducible refine HX kC ?_ | with_reducible refine wpAny_madeBy_exc kC ?_ | wp_step)
 refine codeAny_call_builtin_code (Code.quiet_builtin _ F.quiet) (wpAny_check_new_subT F T kC (codeAny_exc_new_subT F T kC ?_ hz));show wpAny _ _ _ _ _ _;have c1:(K1 h C rest).get? C=some (excClassObj nm q C N bs bm hd sn su ab co dd k0 k1 k2 k3 k5 nw):=Md _ _ kC;have c2:(K1 h C rest).get? fI=some oI:=Md _ _ hf
 have c3:(K1 h C rest).Ns N mN:=by obtain⟨o,es,ep,e,r⟩:=hn;exact⟨o,es,ep,Md _ _ e,r⟩
 have c4:(K1 h C rest).get? (h.objs.size+1)=some (X9 h C):=by heap_get
 have c5:(Value.ref C::bm).contains (.ref C)=true:=by simp
 have T1:=T.keeps (Md (h:=h) (C:=C) (rest:=rest));unfold isInstance
 repeat (first | with_reducible refine HX c4 ?_ | (with_reducible refine wpAny_isSubtype_exc c1 ?_;rw[c5]) | wp_step)
 show wpAny _ _ (typeLookup (.ref C) _) _ _ _;refine wpAny_typeLookup_tail c1 c3 T1 F.mroIs F.init.lookup ?_;rw[hi];refine HC (Fc ?_);unfold bindSpecial;refine Fc (wpAny_typeOf (T:="function") ⟨_,c2,hfc⟩ ?_);rw[if_pos (by decide)]
 have made:Heap.MadeExcOf h (K1 h C rest) (h.objs.size+1) (.ref C) rest:=⟨Md,R9 (HF _),h.objs.size,c4,R9 (Fg _),Fe _ (Heap.get?_push_at rfl rfl)⟩
 refine Fu (Fc (FN (hq _ _ made) (λr s' hr=>?_) λ_ _ x=>x));obtain⟨rfl,hQ⟩:=hr
 wp_walk
 exact hQ
theorem Vc(F:ExcBaseFacts B nw ni bmB)(T:OwnTail h bmB bm){mN:Str->Option Value}{rest:List Value}{fI:Addr}{oI:Obj}{Q:Value->Shared->Prop}
 (kC:h.get? C=some (excClassObj nm q C N bs bm hd sn su ab co dd k0 k1 k2 k3 k5 nw)) (hn:h.Ns N mN) (hi:mN "__init__"=some (.ref fI)) (hf:h.get? fI=some oI) (hfc:oI.cls= .type "function")
 (hq:∀h' e,Heap.MadeExcOf h h' e (.ref C) rest->wpAny (model Pg w) (A.under (.builtin "type.__call__" ⟨.ref C::rest,[]⟩)) (call (.ref fI) (.ref e::rest)) (λr s'=>r= .none/\Q (.ref e) s') E ⟨h',g,d,t,os⟩) (hz:rest.length<=sizeLine):
 wpAny (model Pg w) A (call (.ref C) rest) Q E ⟨h,g,d,t,os⟩:=by
 have f1:=tc_lookup;have f2:=tc_bind (.ref C)
 have f3:(⟨h,g,d,t,os⟩:Shared).TypeIs (.ref C) "type":=⟨_,kC,rfl⟩
 refine HS (codeAny_of_tree ?_);show wpAny _ _ (callAny (.ref C) _) _ _ _
 repeat (any_goals (first | assumption | with_reducible refine HX kC ?_ | wp_step))
 refine⟨rfl,codeAny_call_builtin_at (Code.quiet_builtin _ (by decide+kernel)) entry_typeCall (wpAny_check_type_call_sub kC (T7 F T kC hn hi hf hfc (λh' e hm=>?_) hz))⟩;exact hq h' e hm
end
section
open PySem.W PySem.Builtin PySem.Builtin.ObjectAttr
variable {Pg:Program}{w:World}{A:Around}{R:Result->Shared->Prop}{s:Shared}{K:Frag}{x C B:Addr}{ox:Obj}{od:Option Obj}{cd:ClassData}{f:Str}{tk:Tok}{v:Value}
abbrev Ig:List Value:=[.type "ValueError",.type "Exception",.type "BaseException",.type "object"]
theorem Xa(X:K.In s.heap)(I:PySem.W.InstAt s.heap x ox C od)(hc:clsIn K C=some cd)(hm0:cd.mro= .ref C:: .ref B::Ig)(ha:findIn K (.ref C) f=some none)
 (h:∀b,wpAny (model Pg w) A.in1 (storeInOwnDict (.ref x) (.ref C) (.str f tk) f v b) (λfin s'=>match fin with | .done r=>R (.ok r) s' | .again c'=>c'.quiet=true/\codeAny (model Pg w) A c' R s') (λe s'=>R (.error e) s') s):
 codeAny (model Pg w) A (.call (.builtin "object.__setattr__") ⟨[.ref x,.str f tk,v],[]⟩) R s:=by
 have F1:=PySem.F.store_object;have sub:Looks (model Pg w) s.heap (isInstance (.ref x) (.type "object")) true:=I.type.andThen (looks_mroIn X (by unfold mroIn;rw[hc,Ri,hm0];rfl));have lm:Looks (model Pg w) s.heap (mroOf (.ref C)) cd.mro:=(looks_clsIn X hc).andThen .now;refine Rz F1.slot.plain F1.entry (@check_slot (model Pg w) _ _ s "object.__setattr__" "object" "__setattr__" (.ref x) [.str f tk,v] [] _ F1.kind F1.split sub (F1.args _ _ _) ?_);rw[osa_eq,refuse_eq];refine Fc (Fc (I.type.here (Fc (lm.here ?_))));rw[hm0,refuseLoop_ref,refuseLoop_ref,PySem.F.store_ValueError.passes];exact Fu (Fc (I.type.here (Fc ((looks_findIn X ha).here (Fc (Fu (h _)))))))
theorem J2u{Q:Unit->Shared->Prop}{vs:Array Value}{sl:Array (Option Value)}(X:K.In s.heap)(hx:s.heap.get? x=some ⟨.ref C,none,.fields vs,sl⟩)(hs:findIn K (.ref C) "__setattr__"=some (some (.builtin "object.__setattr__")))
 (hc:clsIn K C=some cd) (hm0:cd.mro= .ref C:: .ref B::Ig) (hd:cd.hasDict=true) (ha:findIn K (.ref C) f=some none)
 (h:∀h',h'.get? x=some ⟨.ref C,some s.heap.objs.size,.fields vs,sl⟩->h'.Ns1 s.heap.objs.size (λy=>if y=f then some v else none)->(∀b o,b≠x->s.heap.get? b=some o->h'.get? b=some o)->Q () {s with heap:=h',toks:=s.toks+2}):
 wpAny (model Pg w) A (setAttr (.ref x) f v) Q E s:=by
 have J:PySem.W.InstAt s.heap x ⟨.ref C,none,.fields vs,sl⟩ C none:=⟨hx,rfl,rfl,trivial⟩
 refine set_plain X J hs (Xa (s:={s with toks:=s.toks+1}) X J hc hm0 ha λb=>?_);refine Fc (Fu (Fc (Fc (Rx hx (Fc (Looks.here (s:={s with toks:=s.toks+1}) (looks_clsIn X hc) ?_))))));rw[hd];have k1:(s.heap.push {cls:= .type "dict",data:= .dict #[]}).get? x=some ⟨.ref C,none,.fields vs,sl⟩:=Fe _ hx;have nx:x≠s.heap.objs.size:=Fv (Fm hx);refine Fc (wpAny_alloc' (Fc (wpAny_update' k1 (Fu ?_))))
 have k2:((s.heap.push {cls:= .type "dict",data:= .dict #[]}).update x λo=>{cls:=o.cls,dict:=some s.heap.objs.size,data:=o.data,slots:=o.slots}).get? s.heap.objs.size=some {cls:= .type "dict",data:= .dict #[]}:=
  (Heap.get?_update_ne _ _ _ _ nx.symm).trans (Heap.get?_push_at rfl rfl)
 have k3:((s.heap.push {cls:= .type "dict",data:= .dict #[]}).update x λo=>{cls:=o.cls,dict:=some s.heap.objs.size,data:=o.data,slots:=o.slots}).Ns s.heap.objs.size (λ_=>none):=
  ⟨_,#[],_,k2,rfl,λe he=>absurd he (by simp),λ_=>rfl⟩
 show wpAny _ _ (storeInDict s.heap.objs.size (.str f s.toks) f v) _ _ _;unfold storeInDict newKeyGuard;refine Fc (Fu (Fc (wpAny_nsSet1 (Heap.Ns1.of_empty k3) λh' hn2 sb=>?_)));obtain⟨oD,esD,epD,uo,ud,uc⟩:=hn2.count (Within.cons f v Within.nil);refine Fc (RM uo (by rw[ud];exact RN (FE uc (by rw[List.length_cons,List.length_nil,Ry];omega))) ?_);refine Fu (h h' ?_ ?_ λb o nb e=>?_)
 . refine(sb.2 x nx).trans (Rv _ k1 rfl)
 . obtain⟨o',es,ep,e1,e2,e3,eu,e4⟩:=hn2
   exact⟨o',es,ep,e1,e2,e3,eu,λy=>by rw[e4 y]⟩
 . exact(sb.2 b (Fv (Fm e))).trans ((Heap.get?_update_ne _ _ _ _ nb).trans (Fe _ e))
theorem J2v{Q:Unit->Shared->Prop}{vs:Array Value}{sl:Array (Option Value)}{ns:List Str}(X:K.In s.heap)(hx:s.heap.get? x=some ⟨.ref C,some dx,.fields vs,sl⟩)(hn:s.heap.Ns1 dx mA)(hw:Within mA ns)(hz:ns.length<=sizeLine)
 (hs:findIn K (.ref C) "__setattr__"=some (some (.builtin "object.__setattr__"))) (hc:clsIn K C=some cd) (hm0:cd.mro= .ref C:: .ref B::Ig) (hd:cd.hasDict=true) (ha:findIn K (.ref C) f=some none)
 (h:∀h',h'.Ns1 dx (λy=>if y=f then some v else mA y)->(∀b,b≠dx->h'.get? b=s.heap.get? b)->Q () {s with heap:=h',toks:=s.toks+2}):
 wpAny (model Pg w) A (setAttr (.ref x) f v) Q E s:=by
 obtain⟨oo,es,ep,e1,e2⟩:=id hn
 have J:PySem.W.InstAt s.heap x ⟨.ref C,some dx,.fields vs,sl⟩ C (some oo):=⟨hx,rfl,rfl,e1⟩
 refine set_plain X J hs (Xa (s:={s with toks:=s.toks+1}) X J hc hm0 ha λb=>?_);refine Fc (Fu (Fc (Fc (Rx hx (Fc (Looks.here (s:={s with toks:=s.toks+1}) (looks_clsIn X hc) ?_))))));rw[hd];refine Fu (a:=some dx) ?_;show wpAny _ _ (storeInDict dx (.str f s.toks) f v) _ _ _;unfold storeInDict newKeyGuard;refine Fc (Fu (Fc (wpAny_nsSet1 (s:={s with toks:=s.toks+1}) hn λh' hn2 sb=>?_)));obtain⟨oD,esD,epD,uo,ud,uc⟩:=hn2.count (Within.cons f v hw);refine Fc (RM uo (by rw[ud];exact RN (FE uc (by rw[List.length_cons];omega))) ?_);exact Fu (h h' hn2 λb nb=>sb.2 b nb)
theorem J5t{Q:Value->Shared->Prop}{ex:Bool}(X:K.In s.heap)(J:PySem.W.InstAt s.heap x ox C od)(hg:findIn K (.ref C) "__getattribute__"=some (some (.builtin "BaseException.__getattribute__")))
 (hn:findIn K (.ref C) "__getattr__"=some none) (hc:clsIn K C=some cd) (hm0:cd.mro= .ref C:: .ref B::Ig) (hf:findObj K C od f=some (.value v)) (hh:handedIn v=true) (h:Q v {s with toks:=s.toks+1}):
 wpAny (model Pg w) A (getAttr (.ref x) f ex) Q E s:=by
 obtain⟨hp,g,d,t,os⟩:=s;have l0:=J.type (M:=model Pg w);have l1:=looks_findIn (M:=model Pg w) X hg;have l2:=looks_findIn (M:=model Pg w) X hn;have l3:=looks_find (M:=model Pg w) X J hf;unfold getAttr getAttrBy;refine Fc (wpAny_mkText (HC (Fc (l0.at (Fc (l1.at ?_))))));have b1:=PySem.F.excAttr_ValueError.ga.bind (.ref x)
 have b2:(ex && onTheHeap (Value.builtin "BaseException.__getattribute__"))=false:=by cases ex <;> rfl
 have b3:(Value.builtin "BaseException.__getattribute__"==Value.builtin "object.__getattribute__")=false:=by decide+kernel
 have b4:(onTheHeap (Value.ref C) && Value.builtin "BaseException.__getattribute__"==Value.builtin "object.__getattribute__")=false:=by rw[b3];rfl
 have sub:Looks (model Pg w) hp (isInstance (.ref x) (.type "BaseException")) true:=J.type.andThen (looks_mroIn X (by unfold mroIn;rw[hc,Ri,hm0];rfl));show wpAny _ _ (if (onTheHeap (Value.ref C) && Value.builtin "BaseException.__getattribute__"==Value.builtin "object.__getattribute__")=true then _ else _) _ _ _;rw[if_neg (by rw[b4];decide)];unfold getAttrByItsOwn hookBefore;rw[if_pos (show onTheHeap (Value.ref C)=true from rfl)];refine Fc (l2.at ?_)
 (repeat (any_goals (first | assumption | wp_step)));refine Rz PySem.F.excAttr_ValueError.ga.plain PySem.F.entry_bexc_ga (@check_slot (model Pg w) _ _ _ "BaseException.__getattribute__" "BaseException" "__getattribute__" (.ref x) [.str f t] [] _ (by decide+kernel) (by decide+kernel) sub (PySem.F.args_bexc_ga _ _) ?_)
 unfold Builtin.«object.__getattribute__»;repeat (any_goals (first | assumption | with_reducible refine l0.at ?_ | with_reducible refine l3.at ?_ | wp_step))
 show wpAny _ _ (handedOut v) _ _ _;rw[handedOut_of hh];exact Fu h
end
def exO(n:Bool)(x C:Addr)(od:Option Addr):HO:= .ext λh=>∃vs sl,h.get? x=some ⟨.ref C,od,.fields vs,sl⟩/\(n=true->∃t,vs=#[.ref t,.none,.none,.none,.bool false,.none])
def exD(dx:Addr)(fs:List (Str×V)):HO:= .ext λh=>fs.length<=1000/\∃mA,h.Ns1 dx mA/\(∀f,Dv (fs.lookup f) (mA f))/\PySem.Within mA (fs.map (·.1))
section
variable {X:Cx}{pins:List (Addr×Obj)}{σ:St}{H:Hp}{x:Addr}{s:Shared}{h':Heap}{o:HO}{t':Nat}
theorem Inv.born(I:Inv X pins σ H s)(hex:X.ex=[])(k:∀b u,s.heap.get? b=some u->h'.get? b=some u)(hn:s.heap.get? x=none)(new:Bk X.prog X.w (upd H x o) h' x o):Inv X pins σ (upd H x o) {s with heap:=h',toks:=t'}:=by
 have J:Inv X pins σ H {s with heap:=h',toks:=t'}:=I.kept k
 have hx:H x=none:=by
  cases q:H x with
  | none=>rfl
  | some v=>obtain⟨o1,e1⟩:=I.hok.there q;rw[hn]at e1;cases e1
 have n0:X.s₀.heap.get? x=none:=by
  cases q:X.s₀.heap.get? x with
  | none=>rfl
  | some v=>obtain⟨o1,e1⟩:=I.base.there x v q (by rw[hex];simp);rw[hn]at e1;cases e1
 have nl:x≠X.env.locals:=by
  rintro rfl;obtain⟨m,⟨o1,es,ep,e,_⟩,_⟩:=I.loc;rw[hn]at e;cases e
 have nc:∀y c,X.env.cells.lookup y=some c->c≠x:=by
  rintro y c hc rfl;obtain⟨v,o1,e,_⟩:=I.cell y c hc;rw[hn]at e;cases e
 have np:∀p∈X.pn++pins,p.1≠x:=λp hp z=>by
  have e:=(I.pin p hp).1;rw[z,hn]at e;cases e
 refine⟨J.ok,J.os,J.bare,⟨J.base.keep,J.base.slot,λb o e n hb=>?_,J.base.there,λb xs e=>?_,λb o v e=>?_,λb ps e=>?_⟩,J.loc,J.cell,?_,λy c hc=>?_,λp hp=>?_,λb u e=>?_,J.len⟩
 . rw[A5 (by rintro rfl;rw[n0]at e;cases e)];exact J.base.free b o e n hb
 . have e1:=J.base.tups b xs e;rw[A5 (Ab e1 hx)];exact e1
 . have e1:=J.base.frzs b o v e;rw[A5 (Ab e1 hx)];exact e1
 . obtain⟨m,e1⟩:=J.base.tbls b ps e;exact⟨m,by rw[A5 (Ab e1 hx)];exact e1⟩
 . rw[A5 nl.symm];exact J.free
 . rw[A5 (nc y c hc)];exact J.freeC y c hc
 . obtain⟨a1,a2,a3,a4,a5⟩:=J.pin p hp
   exact⟨a1,by rw[A5 (np p hp)];exact a2,a3,a4,a5⟩
 . by_cases hb:b=x
   . subst hb
     rw[A1]at e;cases e;exact new
   . rw[A5 hb]at e
     exact(J.hok b u e).stay (λ_ _ _ q=>q) (λc q=>by rw[A5 (Ab q hx)];exact q) λc xs q=>by rw[A5 (Ab q hx)];exact q
theorem Qh{w:World}{n:Bool}{C:Addr}{vs:Array Value}{sl:Array (Option Value)}(e:h'.get? x=some ⟨.ref C,od,.fields vs,sl⟩)(hv:n=true->∃t,vs=#[.ref t,.none,.none,.none,.bool false,.none]):Bk P w H h' x (exO n x C od):=
 ⟨⟨vs,sl,e,hv⟩,⟨_,e⟩,λ_ _ ⟨v1,s1,e1,q1⟩ k=>⟨v1,s1,k _ e1,q1⟩⟩
end
def J2w(C:Addr)(t:TA):TE:=λσ H Q=>t σ H λvs H1=>vs.length<=sizeLine/\∀x,H1 x=none->Q (.ref x) (upd H1 x (exO true x C none))
section
variable {X:Cx}{C:Addr}{x:Str}{p pos:Pos}{e:Expr}{es:List Expr}{t:TA}
theorem J9f(M:V3 X.K C)(hex:X.ex=[])(kp:PySem.W.keepIn X.K (.ref C)=true)(hg:Gl X x)(hm:X.mg x=some (.ref C))(ha:PA X (e::es) t)(hdb:(x==("__debug__":Str))=false:=by decide)
 (he:starEach (e::es) X.env=(false,eval e X.env)::starEach es X.env:=by rfl) (hpl:(backTo pos (starEach es X.env)).any (·.1)=false:=by rfl):
 PE X (.Call (.Name x p) (e::es) [] pos) (J2w C t):=by
 intro pins s0 σ H0 Q I0 h;refine FV (Ef I0 hg hm ?_ hdb);refine FW (h₀:=X.base) I0.ok.mod.kin kp (thn (ha pos pins s0 σ H0 _ I0 h) λus s ⟨vs,H,I,r,z,q⟩=>⟨I.kIn,?_⟩) he hpl;obtain⟨nm,qn,N,bs,bm,hd,sn,su,ab,co,dd,k0,k1,k2,k3,k5,mN,c1,c2,c3,c4⟩:=M.at_ s.heap I.kIn;obtain⟨hp,gn,dr,tk,os⟩:=s;refine wpAny_call_exc_subT PySem.F.excBase_ValueError c4 c1 c2 c3 (λh' y hy=>?_) (by show us.length<=sizeLine;rw[<- r.length];exact z);obtain⟨t0,e1,_,_⟩:=hy.there
 have nv:true=true->∃t,(#[.ref t0,.none,.none,.none,.bool false,.none]:Array Value)=#[.ref t,.none,.none,.none,.bool false,.none]:=λ_=>⟨t0,rfl⟩
 have hy0:H y=none:=by
  cases w':H y with
  | none=>rfl
  | some v=>obtain⟨o1,e2⟩:=I.hok.there w';rw[hy.new]at e2;cases e2
 exact⟨.ref y,_,I.born hex hy.keeps hy.new (Qh e1 nv),rfl,q y hy0⟩
end
structure J2x(K:PySem.W.Frag)(C:Addr):Prop where
 ga:PySem.W.findIn K (.ref C) "__getattribute__"=some (some (.builtin "BaseException.__getattribute__"))
 gh:PySem.W.findIn K (.ref C) "__getattr__"=some none
structure Mh(K:PySem.W.Frag)(C B:Addr):Prop extends J2x K C where
 cd:∃cd:ClassData,PySem.W.clsIn K C=some cd/\cd.mro= .ref C:: .ref B::Ig/\cd.hasDict=true
 sa:PySem.W.findIn K (.ref C) "__setattr__"=some (some (.builtin "object.__setattr__"))
section
variable {X:Cx}{pins:List (Addr×Obj)}{σ:St}{H:Hp}{s:Shared}{nw:Bool}{a dx C B:Addr}{fs:List (Str×V)}{f:Str}{v:V}{A:Around}{E:Value->Shared->Prop}
theorem Mh.hd{K:PySem.W.Frag}(q:Mh K C B):PySem.W.hasDictIn K C=true:=by
 obtain⟨cd,c1,_,c3⟩:=q.cd;unfold PySem.W.hasDictIn;rw[c1];exact c3
theorem J5u{ex:Bool}{Q:Value->Shared->Prop}(I:Inv X pins σ H s)(q:Mh X.K C B)(hx:H a=some (exO nw a C (some dx)))(hd:H dx=some (exD dx fs))(n:PySem.W.findIn X.K (.ref C) f=some none)(l:fs.lookup f=some v)
 (h:∀u s',Inv X pins σ H s'->Au v u->Q u s'):wpAny (model X.prog X.w) A (getAttr (.ref a) f ex) Q E s:=by
 obtain⟨vs,sl,e1,nv⟩:=(I.hok a _ hx).1;obtain⟨_,mA,hn,r,wi⟩:=(I.hok dx _ hd).1;obtain⟨od,ho,hlk⟩:=Oq hn;obtain⟨u,hu,ru⟩:=Dv.some_of (v:=v) (o:=mA f) (by rw[<- l];exact r f);obtain⟨cd,c1,c2,c3⟩:=q.cd;exact J5t I.kIn ⟨e1,rfl,rfl,ho⟩ q.ga q.gh c1 c2 (PySem.W.findObj_own q.hd n rfl (by rw[hlk,hu])) (Os ru) (h u _ (I.tok _) ru)
end
section
variable {X:Cx}{pins:List (Addr×Obj)}{σ:St}{H H1:Hp}{s s1:Shared}{x:Addr}{o:HO}
theorem Inv.track(I:Inv X pins σ H1 s1)(hex:X.ex=[])(hn:s1.heap.get? x=none)(J:Inv X pins σ H s)(hx:H x=none)(new:Bk X.prog X.w (upd H x o) s.heap x o):Inv X pins σ (upd H x o) s:=by
 have n0:X.s₀.heap.get? x=none:=by
  cases q:X.s₀.heap.get? x with
  | none=>rfl
  | some v=>obtain⟨o1,e1⟩:=I.base.there x v q (by rw[hex];simp);rw[hn]at e1;cases e1
 have nl:x≠X.env.locals:=by
  rintro rfl;obtain⟨m,⟨o1,es,ep,e,_⟩,_⟩:=I.loc;rw[hn]at e;cases e
 have nc:∀y c,X.env.cells.lookup y=some c->c≠x:=by
  rintro y c hc rfl;obtain⟨v,o1,e,_⟩:=I.cell y c hc;rw[hn]at e;cases e
 have np:∀p∈X.pn++pins,p.1≠x:=λp hp z=>by
  have e:=(I.pin p hp).1;rw[z,hn]at e;cases e
 refine⟨J.ok,J.os,J.bare,⟨J.base.keep,J.base.slot,λb o e n hb=>?_,J.base.there,λb xs e=>?_,λb o v e=>?_,λb ps e=>?_⟩,J.loc,J.cell,?_,λy c hc=>?_,λp hp=>?_,λb u e=>?_,J.len⟩
 . rw[A5 (by rintro rfl;rw[n0]at e;cases e)];exact J.base.free b o e n hb
 . have e1:=J.base.tups b xs e;rw[A5 (Ab e1 hx)];exact e1
 . have e1:=J.base.frzs b o v e;rw[A5 (Ab e1 hx)];exact e1
 . obtain⟨m,e1⟩:=J.base.tbls b ps e;exact⟨m,by rw[A5 (Ab e1 hx)];exact e1⟩
 . rw[A5 nl.symm];exact J.free
 . rw[A5 (nc y c hc)];exact J.freeC y c hc
 . obtain⟨a1,a2,a3,a4,a5⟩:=J.pin p hp
   exact⟨a1,by rw[A5 (np p hp)];exact a2,a3,a4,a5⟩
 . by_cases hb:b=x
   . subst hb
     rw[A1]at e;cases e;exact new
   . rw[A5 hb]at e
     exact(J.hok b u e).stay (λ_ _ _ q=>q) (λc q=>by rw[A5 (Ab q hx)];exact q) λc xs q=>by rw[A5 (Ab q hx)];exact q
theorem Pb{fs:List (Str×V)}{mA:Str->Option Value}{f:Str}{y:V}(r:∀g,Dv (fs.lookup g) (mA g))(wi:PySem.Within mA (fs.map (·.1)))(ry:Au y u):
 (∀g,Dv ((Ac f y fs).lookup g) (if g=f then some u else mA g))/\PySem.Within (λg=>if g=f then some u else mA g) ((Ac f y fs).map (·.1)):=by
 refine⟨λg=>?_,λg hg=>?_⟩
 . rw[Ao]
   by_cases e:g=f
   . rw[if_pos e,if_pos e];exact ry
   . rw[if_neg e,if_neg e];exact r g
 . by_cases e:g=f
   . subst e;exact(Er g y fs).1
   . exact(Er f y fs).2 g (wi g λz=>hg (by show (if g=f then some u else mA g)=none;rw[if_neg e,z]))
theorem J2y{w:World}{fs:List (Str×V)}{mA:Str->Option Value}(hl:fs.length<=1000)(hn:h'.Ns1 dx mA)(r:∀g,Dv (fs.lookup g) (mA g))(wi:PySem.Within mA (fs.map (·.1))):Bk P w H h' dx (exD dx fs):=by
 refine⟨⟨hl,mA,hn,r,wi⟩,?_,λh1 h2 ⟨b1,mB,b2,b3,b4⟩ k=>?_⟩
 . obtain⟨o1,es,ep,e2,_⟩:=id hn;exact⟨o1,e2⟩
 . obtain⟨o1,es,ep,e2,e3⟩:=id b2
   exact⟨b1,mB,⟨o1,es,ep,k _ e2,e3⟩,b3,b4⟩
theorem J2z{nw:Bool}{a C B:Addr}{f:Str}{y:V}{A:Around}{Q:Unit->Shared->Prop}(I:Inv X pins σ H s)(hex:X.ex=[])(q:Mh X.K C B)(hx:H a=some (exO nw a C none))(n:PySem.W.findIn X.K (.ref C) f=some none)(ry:Au y u)
 (h:∀dx s',H dx=none->Inv X pins σ (upd (upd H a (exO nw a C (some dx))) dx (exD dx (Ac f y []))) s'->Q () s'):wpAny (model X.prog X.w) A (setAttr (.ref a) f u) Q E s:=by
 obtain⟨vs,sl,e1,nv⟩:=(I.hok a _ hx).1;obtain⟨cd,c1,c2,c3⟩:=q.cd;refine J2u I.kIn e1 q.sa c1 c2 c3 n λh' k1 k2 k3=>?_;have hd0:H s.heap.objs.size=none:=I.hok.fresh (Fg _)
 have nda:s.heap.objs.size≠a:=λe=>by rw[e,hx]at hd0;cases hd0
 have J:Inv X pins σ (upd H a (exO nw a C (some s.heap.objs.size))) {s with heap:=h',toks:=s.toks+2}:=
  I.write (x:=a) (e:=a) (by rw[hx];exact True.intro) (.inl rfl) k3 ⟨_,k1⟩ (Qh k1 nv)
 refine h _ _ hd0 (Inv.track I hex (R9 (Fg _)) J (by rw[A5 nda];exact hd0) ?_);have pn:=Pb (fs:=[]) (mA:=λ_=>none) (f:=f) (λ_=>trivial) (λg hg=>absurd rfl hg) ry;exact J2y (by simp[Ac]) k2 pn.1 pn.2
theorem J30{nw:Bool}{a C B:Addr}{fs:List (Str×V)}{f:Str}{y:V}{A:Around}{Q:Unit->Shared->Prop}(I:Inv X pins σ H s)(q:Mh X.K C B)(hx:H a=some (exO nw a C (some dx)))(hd:H dx=some (exD dx fs))(hl:fs.length < 1000)(n:PySem.W.findIn X.K (.ref C) f=some none)(ry:Au y u)
 (h:∀s',Inv X pins σ (upd H dx (exD dx (Ac f y fs))) s'->Q () s'):wpAny (model X.prog X.w) A (setAttr (.ref a) f u) Q E s:=by
 obtain⟨vs,sl,e1,nv⟩:=(I.hok a _ hx).1;obtain⟨_,mA,hn,r,wi⟩:=(I.hok dx _ hd).1;obtain⟨cd,c1,c2,c3⟩:=q.cd;refine J2v I.kIn e1 hn wi (by rw[Fa,Ry];omega) q.sa c1 c2 c3 n λh' k1 k2=>h _ ?_;have pn:=Pb (f:=f) r wi ry;have:=C6 f y fs;obtain⟨o1,es,ep,e2,_⟩:=id k1;exact I.write (x:=dx) (e:=dx) (by rw[hd];exact True.intro) (.inl rfl) (λb v nb z=>(k2 b nb).trans z) ⟨_,e2⟩ (J2y (by omega) k1 pn.1 pn.2)
end
def J7m(K:PySem.W.Frag)(ta:TE)(f:Str):TE:=λσ H Q=>ta σ H λx H1=>∃nw a C B dx fs v,x= .ref a/\H1 a=some (exO nw a C (some dx))/\H1 dx=some (exD dx fs)/\Mh K C B/\PySem.W.findIn K (.ref C) f=some none/\fs.lookup f=some v/\Q v H1
def J7n(K:PySem.W.Frag)(ta tv:TE)(f:Str):TS:=λD σ H=>tv σ H λy H1=>ta σ H1 λx H2=>∃nw a C B,x= .ref a/\Mh K C B/\PySem.W.findIn K (.ref C) f=some none/\
 ((H2 a=some (exO nw a C none)/\∀dx,H2 dx=none->D.nx σ (upd (upd H2 a (exO nw a C (some dx))) dx (exD dx (Ac f y []))))\/
  ∃dx fs,H2 a=some (exO nw a C (some dx))/\H2 dx=some (exD dx fs)/\fs.length < 1000/\D.nx σ (upd H2 dx (exD dx (Ac f y fs))))
def J9g(C:Addr)(m:Str)(sp:Sp)(EE:St->XK)(ta:TE):TE:=λσ H Q=>ta σ H λx H1=>∃nw a,x= .ref a/\(H1 a=some (exO nw a C none)\/∃dx fs,H1 a=some (exO nw a C (some dx))/\H1 dx=some (exD dx fs)/\fs.lookup m=none)/\sp [x] H1 Q (EE σ)
section
variable {X:Cx}{CX:CXT}{k j:Nat}{C B:Addr}{ps:List Str}{sp:Sp}{EE:St->XK}{f m:Str}{pos pos' apos:Pos}{e o value:Expr}{ta tv:TE}
theorem Eg(he:PE X e ta)(hb:attributeBase e f X.env (eval e X.env)=eval e X.env):PE X (.Attribute e f pos) (J7m X.K ta f):=by
 intro pins s σ H Q I h;refine Pz hb (thn (he pins s σ H _ I h) λu s1 hq_=>?_);obtain⟨x,H1,I1,rx,nw,a,C,B,dx,fs,v,ex,ea,ed,q,n,l,z⟩:=hq_;subst ex;cases (show u=Value.ref a from rx)
 exact J5u I1 q ea ed n l λu' s2 I2 ru=>⟨v,H1,I2,ru,z⟩
theorem Mo(hex:X.ex=[])(ha:PE X o ta)(hv:PE X value tv)(hs:swapsWith value (some (.Attribute o f pos')) pos.line X.env=pure false):PS X (.Assign [.Attribute o f pos'] value pos) (J7n X.K ta tv f):=by
 intro pins s σ H D I h;refine plainObj_wpAny_Assign_Attribute (thn (hv pins s σ H _ I h) λu s1 ⟨y,H1,I1,ry,q⟩=>thn (ha pins s1 σ H1 _ I1 q) λov s2 hq_=>?_) hs;obtain⟨x,H2,I2,rx,nw,a,C,B,ex,c,n,z⟩:=hq_;subst ex;cases (show ov=Value.ref a from rx);rcases z with ⟨ea,z⟩ | ⟨dx,fs,ea,ed,l,z⟩
 . exact J2z I2 hex c ea n ry λdx s3 hd I3=>⟨σ,_,I3,z dx hd⟩
 . exact J30 I2 c ea ed l n ry λs3 I3=>⟨σ,_,I3,z⟩
end
structure MkX(K:PySem.W.Frag)(C f:Addr):Prop where
 at_:∀h:Heap,K.In h->∃(nm q:Str) (N:Addr) (bs bm:List Value) (hd:Bool) (sn:List Str) (su:List Value) (ab:Bool) (co:Option Bool) (dd:Option Addr) (k0 k1 k2 k3 k5:Option Value) (mN:Str->Option Value),
  h.get? C=some (excClassObj nm q C N bs bm hd sn su ab co dd k0 k1 k2 k3 k5 "ValueError.__new__")/\h.Ns N mN/\mN "__init__"=some (.ref f)/\OwnTail h Ig bm
 fn:∃oI:Obj,K.lookup f=some oI/\oI.cls= .type "function"
 kp:PySem.W.keepIn K (.ref C)=true
structure T8(P:Program)(w:World)(K:PySem.W.Frag)(mg:Str->Option Value)(base:Heap)(CX:CXT)(k:Nat)(x:Str)(C:Addr)(ps:List Str)(sp:Sp):Prop where
 ex:∃(f:Addr) (fd:FuncData),Ai P w K mg base CX k f fd ps sp/\MkX K C f/\mg x=some (.ref C)/\Bl K fd ps []
def T9(C:Addr)(sp:Sp)(EE:St->XK)(t:TA):TE:=λσ H Q=>t σ H λvs H1=>vs.length<=sizeLine/\∀x,H1 x=none->sp (.ref x::vs) (upd H1 x (exO true x C none)) (λv H2=>v= .non/\Q (.ref x) H2) (EE σ)
section
variable {X:Cx}{CX:CXT}{k j:Nat}{C:Addr}{ps:List Str}{sp:Sp}{EE:St->XK}{x:Str}{p pos:Pos}{e:Expr}{es:List Expr}{t:TA}
theorem J5v(D:T8 X.prog X.w X.K X.mg X.base CX j x C ps sp)(hex:X.ex=[])(hr:Bt k X.A)(hg:Gl X x)(hx:Ci CX X EE)(ha:PA X (e::es) t)(hj:j+1<=k:=by decide)(hdb:(x==("__debug__":Str))=false:=by decide)
 (he:starEach (e::es) X.env=(false,eval e X.env)::starEach es X.env:=by rfl) (hpl:(backTo pos (starEach es X.env)).any (·.1)=false:=by rfl):
 PE X (.Call (.Name x p) (e::es) [] pos) (T9 C sp EE t):=by
 obtain⟨f,fd,F,M,hm,hb⟩:=D.ex;intro pins s0 σ H0 Q I0 h;refine FV (Ef I0 hg hm ?_ hdb);refine FW (h₀:=X.base) I0.ok.mod.kin M.kp (thn (ha pos pins s0 σ H0 _ I0 h) λus s ⟨vs,H,I,r,z,q⟩=>⟨I.kIn,?_⟩) he hpl;obtain⟨nm,qn,N,bs,bm,hd,sn,su,ab,co,dd,k0,k1,k2,k3,k5,mN,c1,c2,c3,c4⟩:=M.at_ s.heap I.kIn;obtain⟨oI,f1,f2⟩:=M.fn;have f3:=I.kIn _ _ f1;obtain⟨hp,gn,dr,tk,os⟩:=s;refine Vc PySem.F.excBase_ValueError c4 c1 c2 c3 f3 f2 (λh' y hy=>?_) (by show us.length<=sizeLine;rw[<- r.length];exact z);obtain⟨t0,e1,_,_⟩:=hy.there
 have nv:true=true->∃t,(#[.ref t0,.none,.none,.none,.bool false,.none]:Array Value)=#[.ref t,.none,.none,.none,.bool false,.none]:=λ_=>⟨t0,rfl⟩
 have hy0:H y=none:=by
  cases w':H y with
  | none=>rfl
  | some v=>obtain⟨o1,e2⟩:=I.hok.there w';rw[hy.new]at e2;cases e2
 have hq:=q y hy0;have I2:Inv X pins σ (upd H y (exO true y C none)) ⟨h',gn,dr,tk,os⟩:=I.born hex hy.keeps hy.new (Qh e1 nv);have r2:Ay (V.ref y::vs) (Value.ref y::us):= .cons rfl r
 have hl:(Value.ref y::us).length=ps.length:=by rw[<- r2.length];exact F.len _ _ _ _ hq
 have hb':=hb ⟨h',gn,dr,tk,os⟩ (Value.ref y::us) I2.kIn (by simpa using hl);rw[Ha]at hb';have hr':Bt (j+1) X.A:=hr.mono hj;refine HS (Ht (F.run _ X.stack _ _ ⟨Value.ref y::us,[]⟩ (Value.ref y::us) _ _ (EE σ) (hr'.make C us []) (I2.env0.make C us []) hb' r2 hq) λr3 s' hq'=>?_)
 cases r3 with
 | error e=>exact hx pins σ _ _ e s' I2 hq'
 | ok fl=>
  cases fl with
  | ret u=>
   obtain⟨v,H',I3,rv,ev,q3⟩:=I2.after hq';subst ev;exact⟨rv,⟨V.ref y,H',I3,rfl,q3⟩⟩
  | next=>exact False.elim hq'
  | brk=>exact False.elim hq'
  | cont=>exact False.elim hq'
end
open Sem (wp)
def Mi(h:Heap)(x C:Addr)(od:Option Addr):Prop:=∃vs sl,h.get? x=some ⟨.ref C,od,.fields vs,sl⟩
section
variable {M:Model}{A:Around}{E:Value->Shared->Prop}{s:Shared}{base:Heap}{env:Env}{outer l:List Env}{L x C:Addr}{od:Option Addr}{vs:Array Value}{sl:Array (Option Value)}{a0 fl:Value}{Q:Unit->Shared->Prop}
theorem J9h{g1:Heap}{oT:Obj}{ts:Array Value}(tT:oT.data= .fields ts)(t3:ts[3]?=some fl)(ff:s.heap.FunFrames base l)(ex:s.heap.get? x=some ⟨.ref C,od,.fields vs,sl⟩)
 (s1:Heap.SlotsOnly (l.filterMap (·.frame)) s.heap g1) (y1:g1.get? x=some ⟨.ref C,od,.fields vs,sl⟩) (b1:base.StaysIn g1) (bx:base.get? x=none) (z1:1 < vs.size) (z0:vs[0]?=some a0)
 (q:∀h',Heap.NotedW base l x (.ref C) a0 fl s.heap h'->Mi h' x C od->Q () {s with heap:=h'}):
 wpAny M A (setField (.ref x) 1 (.ref g1.objs.size)) Q E {s with heap:=g1.push oT}:=by
 have y2:=Fe oT y1;have nT:g1.objs.size≠x:=Nat.ne_of_gt (Fm y1);have y3:((g1.push oT).update x (Obj.mapFields (·.setIfInBounds 1 (.ref g1.objs.size)))).get? x=some ⟨.ref C,od,.fields (vs.setIfInBounds 1 (.ref g1.objs.size)),sl⟩:=Rv _ y2 rfl;have kp:∀b o,b≠x->g1.get? b=some o->((g1.push oT).update x (Obj.mapFields (·.setIfInBounds 1 (.ref g1.objs.size)))).get? b=some o:=λb o nb e=>(Hy _ _ (Ne.symm nb)).trans (Fe _ e)
 have nr:∀b o,s.heap.get? b=some o->(∀us,o.data≠ .fields us)->b≠x:=λb o e n z=>by rw[z,ex]at e;cases e;exact n vs rfl
 refine wpAny_setField y2 rfl z1 (q _ ⟨λb o e=>kp b o (λz=>by rw[z,bx]at e;cases e) (b1 b o e),ff.of_keeps λb o e n=>?_,?_,λb o e n=>?_⟩ ⟨_,_,y3⟩)
 . obtain⟨r,e1⟩:=s1.2.2 b o e;exact⟨_,kp b _ (nr b o e n) e1,rfl⟩
 . exact⟨_,_,g1.objs.size,oT,ts,y3,⟨rfl,by rw[Array.getElem?_setIfInBounds_ne (by decide)];exact z0⟩,rfl,by simp[z1],b1.fresh,nT,(Hy _ _ (Ne.symm nT)).trans (Fy g1 (Obj.isFreed_of_fields tT)),tT,t3⟩
 . obtain⟨r,e1⟩:=s1.2.2 b o e;exact⟨r,kp b _ (nr b o e n) e1⟩
theorem J31{hv:Value}{nx:Bool}(fr:A.frames=some (env::outer))(ff:s.heap.FunFrames base (env::outer))(el:env.frame=some L)
 (ex:s.heap.get? x=some ⟨.ref C,od,.fields vs,sl⟩) (bs:base.StaysIn s.heap) (bx:base.get? x=none) (z1:1 < vs.size) (z0:vs[0]?=some a0)
 (q:∀h',Heap.NotedW base (env::outer) x (.ref C) a0 (rawInt L) s.heap h'->Mi h' x C od->Q () {s with heap:=h'}):
 wpAny M A (do let a <- frameOf env;let pl <- entryPlaceOf L nx;let b <- EntryCells.newEntry hv a .none (rawInt L) .none pl;setField (.ref x) 1 b) Q E s:=by
 have nf:x∉(env::outer).filterMap (·.frame):=λhm=>by
  obtain⟨_,o1,e1,n1⟩:=ff.mem hm;rw[ex]at e1;cases e1;exact n1 vs rfl
 refine Fc (wpAny_frameOf_fun fr ff el λg1 s1=>Fc (wpAny_entryPlaceOf λpl ip=>?_));unfold EntryCells.newEntry newFields;refine Fc (wpAny_newObj_type ?_ (ip.sizeOk5 _ _ _ _ _));have y1:=(s1.2.1 x nf).trans ex;have b1:base.StaysIn g1:=λb o e=>(s1.2.1 b λhm=>by rw[(ff.mem hm).1]at e;cases e).trans (bs b o e);refine J9h (s:=s) (fl:=rawInt L) rfl ?_ ff ex s1 y1 b1 bx z1 z0 q
 first | (simp;done) | (rcases ip with rfl | ⟨_,_,_,_,_,_,_,rfl⟩ <;> simp)
theorem landD(bs:base.StaysIn s.heap)(ff:s.heap.FunFrames base l)(tr:s.heap.TracedAtW base x (.ref C) a0 fl)(ly:Mi s.heap x C od)
 (q:∀h',base.StaysIn h'->h'.FunFrames base l->h'.TracedW base x (.ref C) a0->s.heap.UpToSlots h'->Mi h' x C od->Q () {s with heap:=h'}):wpAny M A (setFlight (.ref x) none) Q E s:=by
 obtain⟨oe,ws,T,oT,ts,e1,c1,d1,d2,n1,n2,e3,d3,t3⟩:=tr;obtain⟨v2,s2,l1⟩:=ly;have z3:3 < ts.size:=(HI.mp t3).1;unfold setFlight;refine Fc (RS e1 d1 d2 ?_);rw[if_pos (show (Value.ref T !=Value.none)=true from by simp)];have oth:∀b,b≠T->(s.heap.update T (Obj.mapFields (·.setIfInBounds 3 ((none:Option Addr).elim Value.none λf=>rawInt f)))).get? b=s.heap.get? b:=λb nb=>Hy _ _ (Ne.symm nb)
 have nr:∀b o,s.heap.get? b=some o->(∀us,o.data≠ .fields us)->b≠T:=λb o e n z=>by rw[z,e3]at e;cases e;exact n ts d3
 refine wpAny_setField e3 d3 z3 (q _ (λb o e=>(oth b λz=>by rw[z,n1]at e;cases e).trans (bs b o e)) (ff.of_keeps λb o e n=>⟨o,(oth b (nr b o e n)).trans e,rfl⟩) ?_ (λb o e n=>⟨o.slots,(oth b (nr b o e n)).trans e⟩) ⟨v2,s2,(oth x (Ne.symm n2)).trans l1⟩);exact⟨oe,ws,T,_,_,(oth x (Ne.symm n2)).trans e1,c1,d1,d2,n1,n2,Rv _ e3 (Obj.isFreed_of_fields (Obj.data_mapFields d3 _)),Obj.data_mapFields d3 _,by simp[z3]⟩
theorem J7o(fr:A.frames=some (env::outer))(ff:s.heap.FunFrames base (env::outer))(el:env.frame=some L)(tr:s.heap.TracedW base x (.ref C) a0)(bs:base.StaysIn s.heap)(bx:base.get? x=none)(ly:Mi s.heap x C od)
 (q:∀h',Heap.NotedW base (env::outer) x (.ref C) a0 (rawInt L) s.heap h'->Mi h' x C od->Q () {s with heap:=h'}):wpAny M A (noteFrame (.ref x) env) Q E s:=by
 obtain⟨oe,ws,T,oT,ts,e1,⟨c1,c2⟩,d1,d2,n1,n2,e3,d3,t3⟩:=tr;obtain⟨v2,s2,l1⟩:=ly;rw[l1]at e1;cases e1;cases d1;unfold noteFrame;simp only[el];refine Fc (RS l1 rfl d2 ?_);rw[if_pos (show (Value.ref T !=Value.none)=true from by simp)];refine Fc (RS e3 d3 t3 ?_);rw[if_neg (show ¬((Value.none==rawInt L)=true) from by simp[rawInt])];refine Fc (wpAny_setField e3 d3 (HI.mp t3).1 ?_);have oth:∀b,b≠T->(s.heap.update T (Obj.mapFields (·.setIfInBounds 3 Value.none))).get? b=s.heap.get? b:=λb nb=>Hy _ _ (Ne.symm nb)
 have nr:∀b o,s.heap.get? b=some o->(∀us,o.data≠ .fields us)->b≠T:=λb o e n z=>by rw[z,e3]at e;cases e;exact n ts d3
 refine J31 fr (ff.of_keeps λb o e n=>⟨o,(oth b (nr b o e n)).trans e,rfl⟩) el ((oth x (Ne.symm n2)).trans l1) (λb o e=>(oth b λz=>by rw[z,n1]at e;cases e).trans (bs b o e)) bx (HI.mp d2).1 c2 λh' N ly'=>q h' ⟨N.1,N.2.1,N.2.2.1,λb o e n=>N.2.2.2 b o ((oth b (nr b o e n)).trans e) n⟩ ly'
def J5w(base:Heap)(l:List Env)(x C:Addr)(od:Option Addr)(a0:Value)(h:Heap):Prop:=Heap.FlyingW base l x (.ref C) a0 h/\Mi h x C od
theorem J5x(fr:A.frames=some (env::outer))(el:env.frame=some L)(f:J5w base (env::outer) x C od a0 s.heap)(q:∀h',J5w base outer x C od a0 h'->s.heap.UpToSlots h'->Q () {s with heap:=h'}):wpAny M A (leaving env (.ref x)) Q E s:=by
 obtain⟨⟨f1,f2,f3,f4⟩,ly⟩:=f;unfold leaving;refine Fc (J7o fr f3 el f4 f1 f2 ly λh1 N l1=>landD (s:={s with heap:=h1}) N.1 N.2.1 N.2.2.1 l1 λh2 b2 g2 t2 u2 l2=>?_);obtain⟨_,_,g3⟩:=g2;exact q h2 ⟨⟨b2,f2,g3,t2⟩,l2⟩ (Heap.UpToSlots.trans N.2.2.2 u2)
theorem J32{t:Addr}(fr:A.frames=some (env::outer))(el:env.frame=some L)(bs:base.StaysIn s.heap)(ff:s.heap.FunFrames base (env::outer))(bx:base.get? x=none)(ex:s.heap.get? x=some ⟨.ref C,od,.fields #[.ref t,.none,.none,.none,.bool false,.none],sl⟩)
 (q:∀h',J5w base outer x C od (.ref t) h'->s.heap.UpToSlots h'->Q () {s with heap:=h'}):wpAny M A (leaving env (.ref x)) Q E s:=by
 unfold leaving noteFrame;simp only[el];refine Fc (Fc (RS ex rfl (x:= .none) rfl ?_));rw[if_neg (by decide)];refine J31 fr ff el ex bs bx (by simp) rfl λh1 N l1=>landD (s:={s with heap:=h1}) N.1 N.2.1 N.2.2.1 l1 λh2 b2 g2 t2 u2 l2=>?_;obtain⟨_,_,g3⟩:=g2;exact q h2 ⟨⟨b2,bx,g3,t2⟩,l2⟩ (Heap.UpToSlots.trans N.2.2.2 u2)
end
def CXF(P:Program)(w:World):CXT:=λouter H s E e s'=>∃(x C:Addr) (od:Option Addr) (a0:Value) (H':Hp) (B:Heap),e= .ref x/\s'.os=s.os/\AllBare s'.gens/\Un (frs outer) [] H H' s.heap s'.heap/\HOk P w H' s'.heap/\
 J5w B outer x C od a0 s'.heap/\Ki (frs outer) H' s.heap s'.heap B/\H' x=none/\s.heap.get? x=none/\E (.ref C) (some x) (upd H' x (exO false x C od))
def rem(H:Hp)(x:Addr):Hp:=λb=>if b=x then none else H b
theorem Ge{H:Hp}{x b:Addr}(n:b≠x):rem H x b=H b:=if_neg n
theorem Nz{H:Hp}{x:Addr}:rem H x x=none:=if_pos rfl
theorem J5y{H:Hp}{x:Addr}{o:HO}:upd (rem H x) x o=upd H x o:=by
 funext b
 by_cases h:b=x
 . subst h;rw[A1,A1]
 . rw[A5 h,A5 h,Ge h]
section
variable {X:Cx}{pins:List (Addr×Obj)}{σ:St}{H2:Hp}{s2:Shared}{h3:Heap}{n:Bool}{x C:Addr}{od:Option Addr}
theorem J9i(I:Inv X pins σ H2 s2)(hex:X.ex=[])(hx:H2 x=some (exO n x C od))(x0:X.s₀.heap.get? x=none)(st:(PySem.W.hideAll s2.heap (x::frs X.stack)).StaysIn h3)(up:s2.heap.UpToSlots h3):
 Un X.fs [] X.H₀ (rem H2 x) X.s₀.heap h3/\HOk X.prog X.w (rem H2 x) h3/\Ki X.fs (rem H2 x) X.s₀.heap h3 (PySem.W.hideAll s2.heap (x::frs X.stack)):=by
 have bs:=I.base;rw[hex]at bs;have nl:∀b o,X.s₀.heap.get? b=some o->b≠X.env.locals:=λb o e=>Fv (Fl (Fm e) I.ok.above);have ns:∀b o,X.s₀.heap.get? b=some o->b∉X.fs->b∉frs X.stack:=λb o e n hb=>(Ft.mp (I.stkSub b hb)).elim (nl b o e) n
 have nx:∀b o,X.s₀.heap.get? b=some o->b≠x:=λb o e z=>by rw[z,x0]at e;cases e
 have sub:∀b∈X.fs,b∈frs X.stack:=λb hb=>by
  rcases I.ok.stk with e | ⟨e,hf⟩
  . rw[e];exact hb
  . rw[e];unfold frs;rw[HM,hf];exact Fk _ hb
 have hid:∀b o,s2.heap.get? b=some o->b≠x->b∉frs X.stack->(PySem.W.hideAll s2.heap (x::frs X.stack)).get? b=some o:=λb o e n1 n2=>PySem.W.hideAll_get _ e (λz=>(Ft.mp z).elim n1 n2);have kp:∀b o,s2.heap.get? b=some o->b≠x->b∉frs X.stack->h3.get? b=some o:=λb o e n1 n2=>st b o (hid b o e n1 n2)
 have tr:∀b o,H2 b=some o->b∉frs X.stack:=λb o e hb=>by rw[I.stkFree b hb]at e;cases e
 have sl:∀b o,X.s₀.heap.get? b=some o->X.H₀ b=none->b∈X.fs->b∉([]:List Addr)->∃r,h3.get? b=some {o with slots:=r}:=λb o e n hb hx=>by
  obtain⟨r1,e1⟩:=bs.slot b o e n hb hx;obtain⟨o',e',d⟩:=I.frm b (sub b hb);rw[e1]at e';cases e';obtain⟨r2,e2⟩:=up b _ e1 d;exact⟨r2,e2⟩
 have th:∀b o,X.s₀.heap.get? b=some o->∃o',s2.heap.get? b=some o':=λb o e=>bs.there b o e (by simp);refine⟨⟨λb o e n hb hx=>kp b o (bs.keep b o e n hb hx) (nx b o e) (ns b o e hb),sl,λb o e n hx=>?_,λb o e hx=>?_,λb xs e=>?_,λb o v e=>?_,λb ps e=>?_⟩,λa o e=>?_,λb o e hb c=>?_⟩
 . rw[Ge (nx b o e)];exact bs.free b o e n hx
 . obtain⟨o',e1⟩:=th b o e
   by_cases hb:b∈frs X.stack
   . obtain⟨o2,e2,d⟩:=I.frm b hb
     rw[e1]at e2;cases e2;obtain⟨r2,e3⟩:=up b _ e1 d;exact⟨_,e3⟩
   . exact⟨o',kp b o' e1 (nx b o e) hb⟩
 . have e1:=bs.tups b xs e
   rw[Ge (λz=>by rw[z,hx]at e1;cases e1)];exact e1
 . have e1:=bs.frzs b o v e
   rw[Ge (λz=>by rw[z,hx]at e1;cases e1)];exact e1
 . obtain⟨m1,e1⟩:=bs.tbls b ps e
   exact⟨m1,by rw[Ge (λz=>by rw[z,hx]at e1;cases e1)];exact e1⟩
 . have na:a≠x:=λz=>by rw[z,Nz]at e;cases e
   rw[Ge na]at e;refine(I.hok a o e).stay (λb v hc q=>?_) (λb q=>?_) λb xs q=>?_
   . rcases hc with rfl | hc
     . exact kp _ _ q na (tr _ _ e)
     . exact kp _ _ q (λz=>by rw[z,hx]at hc;cases hc) (tr _ _ hc)
   . rw[Ge (λz=>by rw[z,hx]at q;cases q)];exact q
   . rw[Ge (λz=>by rw[z,hx]at q;cases q)];exact q
 . have w:∃o1,s2.heap.get? b=some o1/\b≠x/\b∉frs X.stack:=by
    rcases c with c | ⟨u0,e0⟩
    . cases q:rem H2 x b with
      | none=>exact absurd q c
      | some v=>
       have nb:b≠x:=λz=>by rw[z,Nz]at q;cases q
       rw[Ge nb]at q;obtain⟨o1,e1⟩:=I.hok.there q;exact⟨o1,e1,nb,tr _ _ q⟩
    . obtain⟨o1,e1⟩:=th b u0 e0
      exact⟨o1,e1,nx b u0 e0,ns b u0 e0 hb⟩
   obtain⟨o1,e1,n1,n2⟩:=w;have e2:=kp b o1 e1 n1 n2;rw[e]at e2;cases e2;exact hid b o e1 n1 n2
end
section
variable {P:Program}{w:World}{K:PySem.W.Frag}{mg:Str->Option Value}{base:Heap}{N:List Str}{qual:Str}{scope:Scope}{f:Addr}{cd:Value}{A:Around}{outer:List Env}{s:Shared}{H:Hp}{E:XK}
theorem Vd{s2:Shared}{x C:Addr}(I:Inv (Gy (CXF P w) P w K mg base N qual scope f cd A outer s H E) pins σ H2 s2)
 (hx:H2 x=some (exO true x C od)) (h0:H x=none) (q:E (.ref C) (some x) (upd H2 x (exO false x C od))):(Gy (CXF P w) P w K mg base N qual scope f cd A outer s H E).xe (.ref x) s2:=by
 have x0:s.heap.get? x=none:=by
  cases z:s.heap.get? x with
  | none=>rfl
  | some v=>
   have e:=I.base.free x v z h0 (by intro c;exact absurd (show x∈([]:List Addr) from c) (by simp));rw[hx]at e;cases e
 obtain⟨vs,sl,e1,nv⟩:=(I.hok x _ hx).1;obtain⟨t,rfl⟩:=nv rfl;have hin:∀env∈(Gy (CXF P w) P w K mg base N qual scope f cd A outer s H E).stack,∀a,env.frame=some a->a∈x::frs (Gy (CXF P w) P w K mg base N qual scope f cd A outer s H E).stack:=λenv he a ha=>Fk _ (RF.mpr ⟨env,he,ha⟩);refine J32 (base:=PySem.W.hideAll s2.heap (x::frs (Gy (CXF P w) P w K mg base N qual scope f cd A outer s H E).stack)) I.ok.frames rfl (λb o e=>PySem.W.of_hideAll _ e) (PySem.W.funFrames_hide I.stack hin) (PySem.W.hideAll_none _ (FC ..)) e1 λh3 fl up=>?_;obtain⟨U,ok3,hB3⟩:=J9i I rfl hx x0 fl.1.1 up;exact⟨x,C,od,.ref t,rem H2 x,_,rfl,I.os,I.bare,U,ok3,fl,hB3,Nz,x0,by rw[J5y];exact q⟩
theorem A7:Kh (CXF P w) (Gy (CXF P w) P w K mg base N qual scope f cd A outer s H E) E:=by
 intro pins σ H1 s1 e s2 I h;obtain⟨x,C,od,a0,H2,B,rfl,os,bare,u,ok,fl,hB,hx,hnew,q⟩:=h;refine J5x (base:=B) I.ok.frames rfl fl λh3 fl3 up=>?_;obtain⟨U,ok3,hB3⟩:=J2a I rfl u ok hB fl3.1.1 up;refine⟨x,C,od,a0,H2,B,rfl,os.trans I.os,bare,U,ok3,fl3,hB3,hx,?_,q⟩
 cases z:s.heap.get? x with
 | none=>rfl
 | some v=>
  obtain⟨o1,e1⟩:=I.base.there x v z (by intro c;exact absurd (show x∈([]:List Addr) from c) (by simp));rw[hnew]at e1;cases e1
theorem Ds:PassesOwn (model P w) (A.deeper (envOfC qual scope s.heap.objs.size f cd)) (envOfC qual scope s.heap.objs.size f cd) (Gy (CXF P w) P w K mg base N qual scope f cd A outer s H E).xe:=PassesOwn.leaving
theorem Fun.okF{x:Str}{st:Stmt}{k:Nat}{sp:Sp}(F:Fun K x qual st f fd)(S:A9 N ps (A6 st))(len:∀vs H Q E,sp vs H Q E->vs.length=ps.length)
 (hbody:∀(cdv:Value) (A:Around) (outer:List Env) (s:Shared) (H:Hp) (vs:List V) (Q:VK) (E:XK),Bt k (A.deeper (envOfC qual (A6 st) s.heap.objs.size f cdv))->sp vs H Q E->
  ∃t,PSs (Gy (CXF P w) P w K mg base N qual (A6 st) f cdv A outer s H E) (Ax st) t/\t {nx:=λ_ H'=>Q .non H',rt:=Q} (start N vs) H):Ai P w K mg base (CXF P w) (k+1) f fd ps sp:=by
 obtain⟨oc,od,kV,doc,pm,an,cdv,ct,osl,rfl,lk,hcd⟩:=F.ex;exact J10 lk hcd S len λA outer s H vs Q E hr hsp=>hbody cdv A outer s H vs Q E hr hsp
def Mp(X:Cx)(H₀:Hp)(EE:St->XK):Prop:=∀(pins:List (Addr×Obj)) (σ:St) (H2:Hp) (s2:Shared) (x C:Addr) (od:Option Addr),
 Inv X pins σ H2 s2->H2 x=some (exO true x C od)->H₀ x=none->EE σ (.ref C) (some x) (upd H2 x (exO false x C od))->X.xe (.ref x) s2
theorem Gg:Mp (Gy (CXF P w) P w K mg base N qual scope f cd A outer s H E) H (λ_=>E):=λ_ _ _ _ _ _ _ I hx h0 q=>Vd I hx h0 q
theorem D2{Y:Cx}:Kh (CXF P w) Y λ_ _ _=>False:=λ_ _ _ _ _ _ _ h=>by
 obtain⟨_,_,_,_,_,_,_,_,_,_,_,_,_,_,_,z⟩:=h;exact z.elim
end
structure ExK(K:PySem.W.Frag)(C:Addr):Prop where
 at_:∀h:Heap,K.In h->∃(nm q:Str) (N:Addr) (bs bm:List Value) (hd:Bool) (sn:List Str) (su:List Value) (ab:Bool) (co:Option Bool) (dd:Option Addr) (k0 k1 k2 k3 k5:Option Value) (nw:String),
  h.get? C=some (excClassObj nm q C N bs bm hd sn su ab co dd k0 k1 k2 k3 k5 nw)/\bm.contains (.type "BaseException")=true
theorem V3.k{K:PySem.W.Frag}{C:Addr}(M:V3 K C):ExK K C:=⟨λh X=>by
 obtain⟨nm,q,N,bs,bm,hd,sn,su,ab,co,dd,k0,k1,k2,k3,k5,mN,c1,c2,c3,c4⟩:=M.at_ h X
 exact⟨nm,q,N,bs,bm,hd,sn,su,ab,co,dd,k0,k1,k2,k3,k5,_,c1,c4.hasType (by decide)⟩⟩
theorem MkX.k{K:PySem.W.Frag}{C f:Addr}(M:MkX K C f):ExK K C:=⟨λh X=>by
 obtain⟨nm,q,N,bs,bm,hd,sn,su,ab,co,dd,k0,k1,k2,k3,k5,mN,c1,c2,c3,c4⟩:=M.at_ h X
 exact⟨nm,q,N,bs,bm,hd,sn,su,ab,co,dd,k0,k1,k2,k3,k5,_,c1,c4.hasType (by decide)⟩⟩
def Gh(P:St->Addr->Hp->Prop)(ta:TE):TS:=λ_ σ H=>ta σ H λv H2=>∃x,v= .ref x/\P σ x H2
section
variable {X:Cx}{H₀:Hp}{EE:St->XK}{C:Addr}{e:Expr}{ta:TE}{pos:Pos}
theorem Pc{P:St->Addr->Hp->Prop}(hP:∀σ x H2,P σ x H2->∃od,H2 x=some (exO true x C od)/\H₀ x=none/\EE σ (.ref C) (some x) (upd H2 x (exO false x C od)))(k:ExK X.K C)(hc:X.calm=true)(hx:Mp X H₀ EE)(he:PE X e ta):
 PS X (.Raise (some e) none pos) (Gh P ta):=by
 intro pins s σ H D I h;rw[arm_exec_Raise];refine Fc (Rg ?_);show wpAny _ _ (raiseStmt X.env (some (do let v <- eval e X.env;standAt pos;pure v)) none) _ _ _;unfold raiseStmt;refine Fc (Fc (FN (he pins s σ H _ I h) (λv s1 hv=>Fc (Rg (Fu ?_))) λ_ _ z=>z));obtain⟨v',H2,I2,rx,x,ev,hp⟩:=hv;obtain⟨od,hx2,h0,q⟩:=hP σ x H2 hp;subst ev;cases (show v=Value.ref x from rx);obtain⟨nm,qn,N,bs,bm,hd,sn,su,ab,co,dd,k0,k1,k2,k3,k5,nw,c1,c2⟩:=k.at_ s1.heap I2.kIn;obtain⟨vs,sl,e1,nv⟩:=(I2.hok x _ hx2).1;obtain⟨t,rfl⟩:=nv rfl;have fin:=hx pins σ H2 s1 x C od I2 hx2 h0 q
 have hB:(Value.ref C::bm).contains (.type "BaseException")=true:=by rw[List.contains_cons,c2,Bool.or_true]
 obtain⟨hp',g,d,tk,os⟩:=s1
 repeat (first | with_reducible refine HX e1 ?_ | with_reducible refine HX c1 ?_ | (with_reducible refine wpAny_isSubtype_exc c1 ?_;rw[hB]) | wp_step)
 exact wpAny_raiseNew_none (I.ok.hd hc) fin
end
def pN(C:Addr)(H₀:Hp)(EE:St->XK):St->Addr->Hp->Prop:=λσ x H2=>H2 x=some (exO true x C none)/\H₀ x=none/\EE σ (.ref C) (some x) (upd H2 x (exO false x C none))
def pI(C:Addr)(H₀:Hp)(EE:St->XK):St->Addr->Hp->Prop:=λσ x H2=>∃od,H2 x=some (exO true x C od)/\H₀ x=none/\EE σ (.ref C) (some x) (upd H2 x (exO false x C od))
section
variable {X:Cx}{H₀:Hp}{CX:CXT}{EE:St->XK}{k j:Nat}{C:Addr}{ps:List Str}{sp:Sp}{x:Str}{np cpos pos:Pos}{e:Expr}{es:List Expr}{t:TA}
theorem Eu(M:V3 X.K C)(hex:X.ex=[])(kp:PySem.W.keepIn X.K (.ref C)=true)(hc:X.calm=true)(hg:Gl X x)(hm:X.mg x=some (.ref C))(hx:Mp X H₀ EE)(ha:PA X (e::es) t)(hdb:(x==("__debug__":Str))=false:=by decide)
 (he:starEach (e::es) X.env=(false,eval e X.env)::starEach es X.env:=by rfl) (hpl:(backTo cpos (starEach es X.env)).any (·.1)=false:=by rfl):
 PS X (.Raise (some (.Call (.Name x np) (e::es) [] cpos)) none pos) (Gh (pN C H₀ EE) (J2w C t)):=
 Pc (λ_ _ _ h=>⟨none,h⟩) M.k hc hx (J9f M hex kp hg hm ha hdb he hpl)
theorem T8.exk(D:T8 X.prog X.w X.K X.mg X.base CX j x C ps sp):ExK X.K C:=by
 obtain⟨f,fd,F,M,hm,hb⟩:=D.ex;exact M.k
theorem Pd(D:T8 X.prog X.w X.K X.mg X.base CX j x C ps sp)(hex:X.ex=[])(hr:Bt k X.A)(hc:X.calm=true)(hg:Gl X x)(hp:Ci CX X EE)(hx:Mp X H₀ EE)(ha:PA X (e::es) t)(hj:j+1<=k:=by decide)(hdb:(x==("__debug__":Str))=false:=by decide)
 (he:starEach (e::es) X.env=(false,eval e X.env)::starEach es X.env:=by rfl) (hpl:(backTo cpos (starEach es X.env)).any (·.1)=false:=by rfl):
 PS X (.Raise (some (.Call (.Name x np) (e::es) [] cpos)) none pos) (Gh (pI C H₀ EE) (T9 C sp EE t)):=
 Pc (λ_ _ _ h=>h) D.exk hc hx (J5v D hex hr hg hp ha hj hdb he hpl)
end
section
variable {σ:St}{H H₀:Hp}{Q:VK}{D:Dh}{K:PySem.W.Frag}{C:Addr}{EE:St->XK}{t:TA}{sp:Sp}
theorem Pe:Gh (pN C H₀ EE) (J2w C t) D σ H=t σ H λvs H1=>vs.length<=sizeLine/\∀x,H1 x=none->H₀ x=none/\EE σ (.ref C) (some x) (upd H1 x (exO false x C none)):=by
 unfold Gh pN J2w;simp only[V.ref.injEq,exists_eq_left',A1,Iu,true_and]
theorem Pf:Gh (pI C H₀ EE) (T9 C sp EE t) D σ H=t σ H λvs H1=>vs.length<=sizeLine/\∀x,H1 x=none->sp (.ref x::vs) (upd H1 x (exO true x C none)) (λv H2=>v= .non/\∃od,H2 x=some (exO true x C od)/\H₀ x=none/\EE σ (.ref C) (some x) (upd H2 x (exO false x C od))) (EE σ):=by
 unfold Gh pI T9;simp only[V.ref.injEq,exists_eq_left']
end
section
variable {X:Cx}{pins:List (Addr×Obj)}{σ:St}{H:Hp}{x C:Addr}{od:Option Addr}{s:Shared}
theorem Air.landD(Z:Air X pins σ H x (.ref C) s)(ly:Mi s.heap x C od){M:Model}{A:Around}{Q:Unit->Shared->Prop}(h:∀s',Air X pins σ H x (.ref C) s'->Mi s'.heap x C od->Q () s'):wpAny M A (setFlight (.ref x) none) Q E s:=by
 obtain⟨H0,s0,a0,B,I,os,bare,u,ok,fl,hB,hx,hn⟩:=Z.ex;refine L2.landD fl.1 fl.2.2.1 fl.2.2.2.at ly λh2 b2 g2 t2 u2 l2=>h _ ?_ l2;obtain⟨U,ok3,hB3⟩:=Q8 u ok I.frm I.stkFree hB b2 u2;exact⟨H0,s0,a0,B,I,os,bare,U,ok3,⟨b2,fl.2.1,g2,t2⟩,hB3,hx,hn⟩
theorem Air.trackF(Z:Air X pins σ H x (.ref C) s)(ly:Mi s.heap x C od)(hex:X.ex=[]):Inv X pins σ (upd H x (exO false x C od)) s:=by
 obtain⟨H0,s0,a0,B,I0,os,bare,u,ok,fl,hB,hx,hn⟩:=Z.ex;obtain⟨vs,sl,e⟩:=ly;exact Inv.track (H1:=H0) (s1:=s0) I0 hex hn Z.inv hx (Qh e λz=>by cases z)
end
def PHF(X:Cx)(hs:List ExceptHandler)(th:TH):Prop:=∀(pins:List (Addr×Obj)) (s:Shared) (σ:St) (H:Hp) (x C:Addr) (od:Option Addr) (D:Dh),Air X pins σ H x (.ref C) s->Mi s.heap x C od->th (.ref C) x D σ (upd H x (exO false x C od))->
 wpAny (model X.prog X.w) X.A (handleBy (.ref x) X.env hs) (SP X pins D) X.xe s
def Jbj(K:PySem.W.Frag)(c:Value)(i:Nat)(ts:Addr->TS)(tr:TH):TH:=λcls x D σ H=>∃b,PySem.W.exmOne K cls c=some b/\if b=true then ts x (Nr i D) (σ.set i (some (.ref x))) H else tr cls x D σ H
section
variable {X:Cx}{Cn n:Str}{c:Value}{i:Nat}{np pos:Pos}{b₀:Stmt}{suite:List Stmt}{rest:List ExceptHandler}{ts:Addr->TS}{tr:TH}
theorem Xb:PHF X [] Jb3:=λ_ _ _ _ _ _ _ _ _ _ h=>h.elim
theorem Ih(hex:X.ex=[])(hN:X.N.Nodup)(hi:X.N[i]?=some n)(hl:X.env.kindOf n=some .local)(hg:Gl X Cn)(hm:X.mg Cn=some c)(hs:∀x,PSs (X.sui x) (b₀::suite) (ts x))(hr:PHF X rest tr)(hdb:(Cn==("__debug__":Str))=false:=by decide):
 PHF X (.ExceptHandler (some (.Name Cn np)) (some n) (b₀::suite) pos::rest) (Jbj X.K c i ts tr):=by
 intro pins s σ H x C od D Z ly h;obtain⟨b,e,h⟩:=h;refine wpAny_handleBy_cons (Sm (c:=c) Z (λQ E q=>Ef (X:=X.sui x) (Z.inv.sui x) hg hm q hdb) e ?_) (by intro q;cases q)
 cases b with
 | false=>exact hr pins s σ H x C od D Z ly h
 | true=>
  refine codeAny_handlers_suite_as (Z.landD ly λs' Z' ly'=>?_);refine N7 (X:=X) (Z'.trackF ly' hex) hN hi (.inl hl) (v:= .ref x) rfl (λs2 I2=>?_) (.inr hl);refine FN (hs x pins s2 _ _ _ (I2.sui x) h) (λf s3 q=>?_) λ_ _ q=>False.elim q;have q':=q.unsui Z.inv.ok;show wpAny _ _ _ _ _ _
  cases f with
  | next=>obtain⟨σ',H',I3,q3⟩:=q';exact Iz I3 hN hi hl λs4 I4=>⟨_,H',I4,q3⟩
  | brk=>obtain⟨σ',H',I3,q3⟩:=q';exact Iz I3 hN hi hl λs4 I4=>⟨_,H',I4,q3⟩
  | cont=>obtain⟨σ',H',I3,q3⟩:=q';exact Iz I3 hN hi hl λs4 I4=>⟨_,H',I4,q3⟩
  | ret u=>obtain⟨v,σ',H',I3,r3,q3⟩:=q';exact Iz I3 hN hi hl λs4 I4=>⟨v,_,H',I4,r3,q3⟩
theorem Xc{h₀:ExceptHandler}{hs:List ExceptHandler}{tb:J5s->TS}{th:TH}(hst:X.stack=X.env::X.outer)(hfr:X.env.frame=some X.env.locals)
 (hb:∀t:J5s,Ci (CXF X.prog X.w) (X.tryX t.pn t.xe) t.EE->PSs (X.tryX t.pn t.xe) body (tb t)) (hh:PHF X (h₀::hs) th):
 PS X (.Try body (h₀::hs) [] [] pos) (J7k tb th):=by
 intro pins s σ H D I h;refine wpAny_Try_except ?_
 have P1:Ci (CXF X.prog X.w) (X.tryX (X.pn++pins) (λe s'=>∃σ H' x C od,e= .ref x/\Air X pins σ H' x (.ref C) s'/\Mi s'.heap x C od/\th (.ref C) x D σ (upd H' x (exO false x C od)))) (λσ' cls ox H'=>∃x,ox=some x/\th cls x D σ' H'):=by
  intro pl σ1 H1 s1 e s2 I1 hc;obtain⟨x,C,od,a0,H2,B,rfl,os,bare,u,ok,fl,hB,hx,hn,⟨y,hy,q⟩⟩:=hc;cases hy;exact⟨σ1,H2,x,C,od,rfl,⟨H1,s1,a0,B,I1.tryOut I.ok,os,bare,u,ok,fl.1,hB,hx,hn⟩,fl.2,q⟩
 refine FN (hb ⟨_,_,_⟩ P1 [] s σ H D (I.tryIn _) (h _ _)) (λf s1 q=>?_) λe s1 q=>?_
 . have q':=q.tryOut I.ok
   cases f with
   | next=>exact Ra q'
   | brk=>exact q'
   | cont=>exact q'
   | ret u=>exact q'
 . obtain⟨σ1,H1,x,C,od,rfl,Z,ly,q⟩:=q
   have fr:X.A.frames=some (X.env::X.outer):=by rw[<- hst];exact I.ok.frames
   obtain⟨H0,s0,a0,B,I0,os,bare,u,ok,fl,hB,hx,hn⟩:=Z.ex;have fl':=fl;rw[hst]at fl';obtain⟨f1,f2,f3,f4⟩:=fl';refine J7o fr f3 hfr f4 f1 f2 ly λh1 N1 l1=>landD (s:={s1 with heap:=h1}) N1.1 N1.2.1 N1.2.2.1 l1 λh3 b3 g3 t3 u3 l3=>?_
   have fl3:Heap.FlyingW B X.stack x (.ref C) a0 h3:=by rw[hst];exact⟨b3,f2,g3,t3⟩
   obtain⟨U,ok3,hB3⟩:=Q8 u ok I0.frm I0.stkFree hB b3 (Heap.UpToSlots.trans N1.2.2.2 u3);exact hh pins _ σ1 H1 x C od D ⟨H0,s0,a0,B,I0,os,bare,U,ok3,fl3,hB3,hx,hn⟩ l3 q
end
section
variable {σ:St}{H:Hp}{D:Dh}{K:PySem.W.Frag}
theorem Xd{c:Value}{i:Nat}{x:Addr}{ts:Addr->TS}{tr:TH}:Jbj K c i ts tr cls x D σ H=∃b,PySem.W.exmOne K cls c=some b/\if b=true then ts x (Nr i D) (σ.set i (some (.ref x))) H else tr cls x D σ H:=rfl
theorem Xe{ta:TE}{f:Str}:J7m K ta f σ H Q=ta σ H λx H1=>∃nw a C B dx fs v,x= .ref a/\H1 a=some (exO nw a C (some dx))/\H1 dx=some (exD dx fs)/\Mh K C B/\PySem.W.findIn K (.ref C) f=some none/\fs.lookup f=some v/\Q v H1:=rfl
theorem Ta{ta:TE}{f:Str}:J7n K ta tv f D σ H=tv σ H λy H1=>ta σ H1 λx H2=>∃nw a C B,x= .ref a/\Mh K C B/\PySem.W.findIn K (.ref C) f=some none/\
 ((H2 a=some (exO nw a C none)/\∀dx,H2 dx=none->D.nx σ (upd (upd H2 a (exO nw a C (some dx))) dx (exD dx (Ac f y []))))\/
  ∃dx fs,H2 a=some (exO nw a C (some dx))/\H2 dx=some (exD dx fs)/\fs.length < 1000/\D.nx σ (upd H2 dx (exD dx (Ac f y fs)))):=rfl
theorem Tb{C:Addr}{m:Str}{sp:Sp}{EE:St->XK}{ta:TE}:J9g C m sp EE ta σ H Q=ta σ H λx H1=>∃nw a,x= .ref a/\(H1 a=some (exO nw a C none)\/∃dx fs,H1 a=some (exO nw a C (some dx))/\H1 dx=some (exD dx fs)/\fs.lookup m=none)/\sp [x] H1 Q (EE σ):=rfl
theorem J33{C:Addr}{t:TA}:J2w C t σ H Q=t σ H λvs H1=>vs.length<=sizeLine/\∀x,H1 x=none->Q (.ref x) (upd H1 x (exO true x C none)):=rfl
theorem Xf{C:Addr}{sp:Sp}{EE:St->XK}{t:TA}:T9 C sp EE t σ H Q=t σ H λvs H1=>vs.length<=sizeLine/\∀x,H1 x=none->sp (.ref x::vs) (upd H1 x (exO true x C none)) (λv H2=>v= .non/\Q (.ref x) H2) (EE σ):=rfl
end
section
open PySem.W
theorem Yv{l:PySem.W.OpenLaw}{n k:Nat}{q:Program}{loose:List Str}{XP:(Str->Option Value)->Heap->Prop}{YP:World->Heap->Prop}{d:DefRec}{K:Params->PySem.W.Frag}{sp:PySem.W.Frag->Sp}{x:Str}
 (hn:l.most=some n) (hn2:n<=sizeLine) (hdf:d.params.defaults=[]) (hr:Bt k callerA) (hY:∀(w:World) (h:Heap),YP w h->(K w.params).In h)
 (F:∀(w:World) (mg:Str->Option Value) (fa:Addr) (h:Heap),(K w.params).In h->h.Ns mainGlobals mg->mg d.name=some (.ref fa)->
  ∃fd:FuncData,(∀(s:Shared) (u:Value),BindsTo s fd ⟨[u],[]⟩ [(x,u)])/\∀base:Heap,(K w.params).In base->base.Ns mainGlobals mg->Ai l.prog w (K w.params) mg base (CXF l.prog w) k fa fd [x] (sp (K w.params)))
 (hsp:∀(K:PySem.W.Frag) (H:Hp) (a:Addr) (ns:List Int),ns.length<=n->J5b H->SqL K H a (ns.map V.int)->sp K [.ref a] H (λv _=>v= .bl true) λ_ _ _=>False):
 PySem.W.WalkO q loose XP YP l.row.toRowW d [] (λf vs=>PySem.call f vs):=
 J5c (K:=K) (CX:=λw=>CXF l.prog w) (sp:=λw=>sp (K w.params)) hn hn2 hdf hr hY F (λw H a ns h1 h2 h3=>hsp (K w.params) H a ns h1 h2 h3) λ_ _ _ _ _ ⟨_,_,_,_,_,_,_,_,_,_,_,_,_,_,_,z⟩=>z
end
section
open PySem.W
variable {K:Frag}{C N A f:Addr}{nm q:Str}{bs:List Value}{hdct:Bool}{sn:List Str}{sub:List Value}{ab:Bool}{col:Option Bool}{dd:Option Addr}{k0 k1 k2 k3 k5:Option Value}{oc c0 oc2:Value}{od dA od2:Option Addr}{es es2:Array DictEntry}{ep ep2:Nat}{sl slA sl2:Array (Option Value)}{cdA:ClassData}{nw:String}
theorem J34{fo:Obj}(lC:K.lookup C=some (excClassObj nm q C N bs (.ref A::Ig) hdct sn sub ab col dd k0 k1 k2 k3 k5 "ValueError.__new__"))(lN:K.lookup N=some ⟨oc,od,.dict es ep,sl⟩)(sN:Cm es=true)(iN:nsFind es "__init__"=some (.ref f))
 (lA:K.lookup A=some ⟨c0,dA,.cls cdA,slA⟩) (lNA:K.lookup cdA.ns=some ⟨oc2,od2,.dict es2 ep2,sl2⟩) (sNA:Cm es2=true) (iNA:nsFind es2 "__init__"=none) (lF:K.lookup f=some fo) (cF:fo.cls= .type "function") (kp:keepIn K (.ref C)=true):MkX K C f:=
 ⟨λh X=>⟨nm,q,N,bs,_,hdct,sn,sub,ab,col,dd,k0,k1,k2,k3,k5,nsFind es,X _ _ lC,Wn X lN sN,iN,.own (X _ _ lA) (Wn X lNA sNA) iNA .base⟩,⟨fo,lF,cF⟩,kp⟩
theorem Xg(lC:K.lookup C=some (excClassObj nm q C N bs (.ref A::Ig) true sn sub ab col dd k0 k1 k2 k3 k5 nw))(ga:findIn K (.ref C) "__getattribute__"=some (some (.builtin "BaseException.__getattribute__")))(gh:findIn K (.ref C) "__getattr__"=some none)
 (sa:findIn K (.ref C) "__setattr__"=some (some (.builtin "object.__setattr__"))):Mh K C A:=by
 refine⟨⟨ga,gh⟩,?_,sa⟩;unfold clsIn;rw[lC];exact⟨_,rfl,rfl,rfl⟩
end
theorem Jbk{w:World}{k:Key}(h:(Bb P w).is k u=true):Au (kV k) u:=by
 cases k with
 | inl i=>
  cases u <;> first | (exact absurd h (by intro z;cases z)) | skip
  rename_i j t
  have e:j=i:=by simpa [Bb,M9,Value.isInt] using h
  exact⟨t,by rw[e]⟩
 | inr x=>
  cases u <;> first | (exact absurd h (by intro z;cases z)) | skip
  rename_i j t
  have e:j=x:=by simpa [Bb,M9,Value.isStrOf] using h
  exact⟨t,by rw[e]⟩
theorem Tc:∀{xs:List V}{us:List Value},Ay xs us->∀{i:Nat}{u:Value},us[i]?=some u->∃x,xs[i]?=some x/\Au x u
 | _,_,.cons r t,0,u,e=>by cases e;exact⟨_,rfl,r⟩
 | _,_,.cons r t,i+1,u,e=>Tc t (i:=i) e
theorem Xh:∀{xs:List V}{us:List Value},xs.length=us.length->(∀(j:Nat) (u:Value),us[j]?=some u->∃x,xs[j]?=some x/\Au x u)->Ay xs us
 | [],[],_,_=> .nil
 | x::xs,u::us,hl,h=>by
  obtain⟨y,e,r⟩:=h 0 u rfl;cases e;exact .cons r (Xh (by simpa using hl) λj v e=>h (j+1) v e)
theorem Kk{β:Type}{F:α->β->Prop}:∀{l:List α}{m:List β},Paired F l m->∀{i:Nat}{b:β},m[i]?=some b->∃a,l[i]?=some a/\F a b
 | _,_,.cons r t,0,b,e=>by cases e;exact⟨_,rfl,r⟩
 | _,_,.cons r t,i+1,b,e=>Kk t (i:=i) e
theorem Ph{β:Type}(f:α->β):∀(l:List α) (i:Nat),(l.map f).eraseIdx i=(l.eraseIdx i).map f
 | [],_=>rfl
 | _::_,0=>rfl
 | a::l,i+1=>by rw[List.map_cons,Rk,Rk,List.map_cons,Ph f l i]
theorem Td(z:Str):∀l:List Str,l.eraseIdx (l.idxOf z)=l.erase z
 | []=>rfl
 | a::l=>by
  by_cases h:a=z
  . subst h;simp
  . have e:(a::l).idxOf z=l.idxOf z+1:=by rw[List.idxOf_cons,show (a==z)=false from beq_false_of_ne h];rfl
    rw[e,Rk,Td z l,List.erase_cons_tail (by simpa using h)]
def O0(v d:Addr):HO:= .ext λh=>h.IsValuesView v d
theorem Yw:∀(is:List Int),preSum (λi=>is.getD i 0) is.length=is.sum:=by
 intro is
 have key:∀n,n<=is.length->preSum (λi=>is.getD i 0) n=(is.take n).sum:=by
  intro n
  induction n with
  | zero=>intro _;rfl
  | succ n ih=>
   intro h
   have e:is.take (n+1)=is.take n++[is.getD n 0]:=by
    rw[He,Fd,Fb (by omega)];rfl
   rw[preSum,ih (by omega),e,List.sum_append];simp
 have:=key is.length (Fg _)
 rwa [RP]at this
def J35:List V->Hp->VK->Prop:=λxs H Q=>∃a kvs,xs=[.ref a]/\H a=some (.dK kvs)/\∀l,H l=none->Q (.ref l) (upd H l (.lst (kvs.map λp=>kV p.1)))
def Xi:V->List V->Hp->VK->Prop:=λx vs H Q=>∃a kvs,x= .ref a/\vs=[]/\H a=some (.dK kvs)/\∀v,H v=none->Q (.ref v) (upd H v (O0 v a))
def J7p:List V->Hp->VK->Prop:=λxs H Q=>∃(v d:Addr) (kvs:List (Key×V)) (is:List Int),xs=[.ref v]/\H v=some (O0 v d)/\H d=some (.dK kvs)/\kvs.map (·.2)=is.map V.int/\Q (.int is.sum) H
def Xj:V->List V->Hp->VK->Prop:=λx vs H Q=>∃(l:Addr) (ys:List Str) (z:Str),x= .ref l/\vs=[.str z]/\H l=some (.lst (ys.map V.str))/\z∈ys/\Q .non (upd H l (.lst ((ys.erase z).map V.str)))
section
variable {X:Cx}
theorem Kl(hc:X.calm=true):Ep X (.type "list") J35:=by
 intro pins s σ H xs us Q I r h;obtain⟨a,kvs,rfl,ha,q⟩:=h;obtain⟨u,rfl,rx⟩:=Ma r;cases rx;obtain⟨z,lo,ws,rel,ob,es,ep,e1,e2⟩:=I.hok a _ ha
 have dat:s.heap.DictAt (Bb X.prog X.w) a ws ep:=⟨ob,es,e1,e2⟩
 refine PySem.W.kdl_call (PySem.W.kdl_dict (knd:=Bb X.prog X.w) (kvs:=ws) (ep:=ep) lo) (I.ok.hd hc) dat (by rw[<- rel.length];exact z) λh' tk acc c' kp e hi=>?_
 have hv:Ay (kvs.map λp=>kV p.1) acc.toList:=by
  have h1:=hi.1;have h2:=rel.length;refine Xh (by rw[Fa];exact h2.trans (h1.symm.trans (Re (xs:=acc)).symm)) λj u ej=>?_;obtain⟨k,x,ek,hk⟩:=hi.2 j u (by rw[<- Array.getElem?_toList];exact ej);obtain⟨p,ep',hp⟩:=Kk rel ek;exact⟨kV p.1,by rw[Ff,ep'];rfl,by rw[hp.1];exact Jbk hk⟩
 refine⟨.ref s.heap.objs.size,_,I.laid (t':=tk) kp (Fg _) (show Bk X.prog X.w _ h' _ (.lst (kvs.map λp=>kV p.1)) from ⟨by rw[Fa];exact z,acc.toList,c',hv,?_⟩),rfl,q _ I.fresh⟩;rw[Array.toArray_toList];exact e
theorem Yx:MtM X "dict.values" Xi:=by
 intro pins s σ H x vs v us Q I rx rv h;obtain⟨a,kvs,rfl,rfl,ha,q⟩:=h;cases rx;have hus:=rv.zero;subst hus;obtain⟨z,lo,ws,rel,dd⟩:=I.hok a _ ha;refine RJ PySem.F.slot_dict_values dd.typeIs PySem.F.entry_dict_values (PySem.F.args_dict_values_1 _) (meets_dict_values (Bb X.prog X.w) a lo) ⟨⟨ws,dd⟩,?_⟩;refine⟨.ref s.heap.objs.size,_,I.laid (t':=s.toks) (λb o e=>Fe _ e) (Fg _) (show Bk X.prog X.w _ _ _ (O0 s.heap.objs.size a) from ⟨⟨_,Fy _ rfl,rfl,rfl⟩,⟨_,Fy _ rfl⟩,λh1 h2 ⟨o,e1,e2⟩ k=>⟨o,k _ e1,e2⟩⟩),rfl,q _ I.fresh⟩
theorem Yy(hc:X.calm=true):Ep X (.builtin "sum") J7p:=by
 intro pins s σ H xs us Q I r h;obtain⟨v,d,kvs,is,rfl,hv,hd,hm,q⟩:=h;obtain⟨u,rfl,rx⟩:=Ma r;cases rx;obtain⟨z,lo,ws,rel,ob,es,ep,e1,e2⟩:=I.hok d _ hd
 have dat:s.heap.DictAt (Bb X.prog X.w) d ws ep:=⟨ob,es,e1,e2⟩
 have hvw:s.heap.IsValuesView v d:=(I.hok v _ hv).1;have src:=PySem.W.kdl_values (prog:=X.prog) (w:=X.w) (r:=v) (d:=d) (knd:=Bb X.prog X.w) (kvs:=ws) (ep:=ep)
 have hlen:ws.length=is.length:=by
  have:=congrArg List.length hm;simp only[Fa]at this;rw[<- rel.length];exact this
 refine call_sum_walkAnyS ?_;obtain⟨oI,St,hit,W,st⟩:=src.iter X.A.in1 s (I.ok.hd hc) ⟨hvw,dat⟩;refine hit _ _ ⟨s.heap.objs.size,_,_,_,_,_,_,λi=>is.getD i 0,rfl,W.toS,st,λb hb=>?_,λi u hp=>?_,λs' t' hmv=>?_⟩
 . show b < (s.heap.push oI).objs.size
   rw[size_push'];rcases Ft.mp hb with e | hb
   . rw[e];exact R3 _
   . rw[Fo.mp hb];exact RL (Fm e1)
 . obtain⟨k,ek⟩:=hp
   obtain⟨p,ep',hp'⟩:=Kk rel ek
   have e3:(kvs.map (·.2))[i]?=some p.2:=by rw[Ff,ep'];rfl
   rw[hm,Ff]at e3
   cases hi:is[i]? with
   | none=>rw[hi]at e3;cases e3
   | some n=>
    rw[hi]at e3;have e4:V.int n=p.2:=FG e3;have r2:=hp'.2;rw[<- e4]at r2;show ∃t,u=Value.int (is.getD i 0) t;rw[Fd,hi];exact r2
 . have hk:∀b o,s.heap.get? b=some o->s'.heap.get? b=some o:=λb o e=>
    hmv.heap b o (λhI=>absurd (Fm e) (by rw[Fo.mp hI];exact Hq _)) (Fe _ e)
   rw[Moved.eq_with hmv];refine⟨.int is.sum,H,I.kept (t':=s'.toks) hk,⟨t',?_⟩,q⟩;rw[hlen,Yw]
theorem K2:MtM X "list.remove" Xj:=by
 intro pins s σ H x vs v us Q I rx rv h;obtain⟨l,ys,z,rfl,rfl,hH,hz,q⟩:=h;cases rx;obtain⟨u,rfl,ru⟩:=rv.one;obtain⟨t,rfl⟩:=ru;obtain⟨hs,its,n,r,hl,e⟩:=I.lstM hH;have hj:ys.idxOf z < ys.length:=List.idxOf_lt_length_iff.mpr hz
 have at_:∀(m:Nat) (u:Value),its[m]?=some u->∃y t,ys[m]?=some y/\u= .str y t:=λm u em=>by
  obtain⟨x,ex,rx⟩:=Tc r em;rw[Ff]at ex
  cases hy:ys[m]? with
  | none=>rw[hy]at ex;cases ex
  | some y=>
   rw[hy]at ex;cases ex;obtain⟨t,e⟩:=rx;exact⟨y,t,rfl,e⟩
 have ev:∀y,y∈its.toArray->MeetsSeq.EqGives y (.str z t) (PyProof.Rows.isStrOf z y):=λy hy=>by
  obtain⟨m,hm⟩:=FL.mp (by simpa using hy)
  obtain⟨y',t',_,rfl⟩:=at_ m y hm
  exact eqGives_str y' z t' t
 have hit:∀(m:Nat) (hm:m < its.toArray.size),∃y t,ys[m]?=some y/\its.toArray[m]= .str y t:=λm hm=>at_ m _ (by simp)
 refine Rm F.slot_list_remove ⟨_,e,rfl⟩ F.entry_list_remove (F.args_list_remove_2 _ _) (MeetsSeq.list_remove l its.toArray n (.str z t) (isStrOf z) ev (ys.idxOf z) (by rw[Fi,<- hl,Fa];exact hj) ?_ ?_ (by rw[Fi];omega)) ⟨e,?_⟩
 . obtain⟨y,t',h1,h2⟩:=hit (ys.idxOf z) (by rw[Fi,<- hl,Fa];exact hj)
   rw[h2]
   have e3:ys[ys.idxOf z]?=some z:=by rw[Fb hj,List.getElem_idxOf hj]
   rw[e3]at h1;cases h1;simp[isStrOf]
 . intro m hm hlt
   obtain⟨y,t',h1,h2⟩:=hit m hm;rw[h2];have e3:(ys[m]'(by omega)==z)=false:=List.not_of_lt_findIdx hlt;rw[Fb (by omega)]at h1;cases h1;exact e3
 . refine⟨.non,_,I.lset (its':=its.eraseIdx (ys.idxOf z)) hH e ?_ (ys:=(ys.erase z).map V.str) ?_ ?_,rfl,q⟩
   . rw[List.eraseIdxIfInBounds_toArray]
   . have:=r.eraseIdx (ys.idxOf z)
     have e5:(ys.map V.str).eraseIdx (ys.idxOf z)=(ys.erase z).map V.str:=by
      rw[Ph,Td]
     rw[e5]at this;exact this
   . have:=R7 (a:=z) (l:=ys)
     rw[Fa]at hs ⊢;omega
def Jbl(K:PySem.W.Frag)(n:Nat)(t:TGs):TG:=λv σ H Q=>∃a xs,v= .ref a/\SqL K H a xs/\xs.length=n/\t xs σ H Q
theorem J9j{es:List Expr}{k:Nat}{pos:Pos}{t:TGs}{n:Nat}(hc:X.calm=true)(h:PGs X es t)
 (hn:(assignEach es X.env).length=n:=by rfl) (hst:(assignEach es X.env).findIdx? (·.1)=none:=by rfl):PG X (.Tuple es k pos) (Jbl X.K n t):=by
 intro pins s σ H v u Q I r hw;obtain⟨a,xs,e1,hq,hl,hw⟩:=hw;subst e1;cases r;obtain⟨its,rv,pl,hz⟩:=I.list hq
 have e2:(assignEach es X.env).length=its.toArray.size:=by simp[hn,<- hl,rv.length]
 rw[assign_Tuple];refine Fc (Rg ?_);unfold unpack;rw[e2,hst];refine Fc (HC (PySem.W.kun_itemsOf (I.ok.hd hc) pl.isList λh' hx=>?_));have I1:Inv X pins σ H {s with heap:=h'}:=I.kept (t':=s.toks) λb o e=>hx b o (Fv (Fm e)) e;exact h pins _ σ H xs _ Q I1 (by simpa using rv) hw
def Jcj:R2:=λx y H Q=>∃a b,x= .bl a/\y= .bl b/\Q (.bl (a==b)) H
def Jbm:R2:=λx y H Q=>∃a b,x= .bl a/\y= .bl b/\Q (.bl (!(a==b))) H
end
section
variable {σ:St}{H:Hp}{Q:VK}{xs:List V}{x y:V}
theorem Xk{K:PySem.W.Frag}{n:Nat}{t:TGs}{v:V}{N:St->Hp->Prop}:Jbl K n t v σ H N=∃a xs,v= .ref a/\SqL K H a xs/\xs.length=n/\t xs σ H N:=rfl
theorem Kx{ty:TE}:J1i td ty σ H Q=td σ H λx H1=>∃a,x= .ref a/\IsD H1 a/\ty σ H1 λy H2=>∃kvs k v,H2 a=some (.dK kvs)/\y=kV k/\B1 kvs k=some v/\Q v (upd H2 a (.dK (C7 kvs k))):=rfl
theorem Ky{ty tx:TE}:J1h td ty tx σ H Q=td σ H λx H1=>∃a,x= .ref a/\IsD H1 a/\ty σ H1 λy H2=>tx σ H2 λz H3=>∃o,D8 H3 a y o/\Q (o.getD z) H3:=rfl
theorem Kz:J17 x xs H Q=∃l ys i k y,x= .ref l/\xs=[.int i]/\H l=some (.lst ys)/\-(2 ^ 63)<=i/\i < 2 ^ 63/\seqIndex? i ys.length=some k/\ys[k]?=some y/\Q y (upd H l (.lst (ys.eraseIdx k))):=rfl
theorem L0:J35 xs H Q=∃a kvs,xs=[.ref a]/\H a=some (.dK kvs)/\∀l,H l=none->Q (.ref l) (upd H l (.lst (kvs.map λp=>kV p.1))):=rfl
theorem K3:Xi x xs H Q=∃a kvs,x= .ref a/\xs=[]/\H a=some (.dK kvs)/\∀v,H v=none->Q (.ref v) (upd H v (O0 v a)):=rfl
theorem Mq:J7p xs H Q=∃(v d:Addr) (kvs:List (Key×V)) (is:List Int),xs=[.ref v]/\H v=some (O0 v d)/\H d=some (.dK kvs)/\kvs.map (·.2)=is.map V.int/\Q (.int is.sum) H:=rfl
theorem K4:Xj x xs H Q=∃(l:Addr) (ys:List Str) (z:Str),x= .ref l/\xs=[.str z]/\H l=some (.lst (ys.map V.str))/\z∈ys/\Q .non (upd H l (.lst ((ys.erase z).map V.str))):=rfl
theorem J36:Jcj x y H Q=∃a b,x= .bl a/\y= .bl b/\Q (.bl (a==b)) H:=rfl
theorem Mr:Jbm x y H Q=∃a b,x= .bl a/\y= .bl b/\Q (.bl (!(a==b))) H:=rfl
end
section
variable {i j:Int}{a b:Bool}{x y:Str}
theorem J7q:scal .non .non=true:=rfl
theorem J7r:scal .non (.int j)=true:=rfl
theorem J7s:scal (.int i) .non=true:=rfl
theorem J7t:scal .non (.bl b)=true:=rfl
theorem J7u:scal (.bl a) .non=true:=rfl
theorem J7v:scal .non (.str y)=true:=rfl
theorem J7w:scal (.str x) .non=true:=rfl
theorem J7x:scal (.int i) (.int j)=true:=rfl
theorem J7y:scal (.bl a) (.bl b)=true:=rfl
theorem J7z:scal (.str x) (.str y)=true:=rfl
theorem J80:scal (.int i) (.str y)=true:=rfl
theorem J81:scal (.str x) (.int j)=true:=rfl
theorem J82:scal (.bl a) (.str y)=true:=rfl
theorem J83:scal (.str x) (.bl b)=true:=rfl
end
end L2
namespace N1
open PySem L2
def B7:List Nat:=List.range' 97 26
def Bz:List Nat:=List.range' 48 10
theorem Te:(Str.ofString "abcdefghijklmnopqrstuvwxyz").cps.toList=B7:=by decide+kernel
theorem J37:(Str.ofString "0123456789").cps.toList=Bz:=by decide+kernel
theorem Yz:(Str.ofString "abcdefghijklmnopqrstuvwxyz0123456789").cps.toList=B7++Bz:=by decide+kernel
theorem Tf:(B7++Bz).length=36:=by decide
def Ve(l:List Nat)(s:List Nat):Bool:=match l with
 | []=>false
 | c::_=>decide (c∈s)
def C8(l:List Nat):Bool:=decide (1<=l.length) && decide (l.length<=8) && Ve l B7 && l.all λc=>decide (c∈B7++Bz)
open PySem L2
def tx(l:List Nat):Str:=⟨l.toArray⟩
theorem Gj{l:List Nat}:(tx l).cps.toList=l:=by simp[tx]
theorem Jck{z:Str}:tx z.cps.toList=z:=by cases z;simp[tx]
theorem Jbn{a b:List Nat}(h:tx a=tx b):a=b:=by rw[<- Gj (l:=a),h,Gj]
theorem O1{a b:List Nat}:tx a++tx b=tx (a++b):=by
 have h:=Sx (a:=tx a) (b:=tx b);rw[Gj,Gj]at h;rw[<- Jck (z:=tx a++tx b),h]
theorem Ii{l:List Nat}:(tx l).length=l.length:=by rw[<- Qe,Gj]
theorem Xl{c:Nat}:(⟨#[c]⟩:Str)=tx [c]:=rfl
theorem Jbo:Str.ofString ""=tx []:=by decide+kernel
theorem J5z:Str.empty=tx []:=by decide+kernel
theorem Tg:(Str.ofString "abcdefghijklmnopqrstuvwxyz0123456789").length=36:=by decide+kernel
def bc(i:Int):Nat:=(B7++Bz).getD i.toNat 0
theorem Xm(i:Int){k:Int}(h0:0 < k)(h1:k<=36):atI (Str.ofString "abcdefghijklmnopqrstuvwxyz0123456789").cps.toList (i % k)=some (bc (i % k)):=by
 have h2:=FD i h0;have h3:=FH i (show k≠0 by omega);refine Q7 h3 ?_
 have h4:(i % k).toNat < (B7++Bz).length:=by rw[Tf];omega
 unfold bc;rw[Yz,Fd,Fb h4];rfl
open L2
def Ms(K:PySem.W.Frag):Sp:=λvs H Q _=>∃(a:Addr) (ns:List Int) (k:Int),vs=[.ref a,.int k]/\SqL K H a (ns.map V.int)/\0<=k/\ns.length<=63/\Q (.int (ns.getD k.toNat 0)) H
def Mt:Sp:=λvs H Q _=>∃(z w:Str),vs=[.str z,.str w]/\z.length<=sizeLine/\∀H',Aa H H'->Q (.bl (z.cps.toList.all λc=>decide (c∈w.cps.toList))) H'
def Gk(K:PySem.W.Frag):Sp:=λvs H Q _=>∃(x:V),vs=[x]/\((∃z:Str,x= .str z/\z.length<=sizeLine/\∀H',Aa H H'->Q (.bl (C8 z.cps.toList)) H')\/(Isi K H x "str" false/\Q (.bl false) H))
def O2(K:PySem.W.Frag):Sp:=λvs H Q _=>∃(a:Addr) (ns:List Int),vs=[.ref a]/\SqL K H a (ns.map V.int)/\ns.length<=63/\∀H',Q (.bl true) H'
open L2
inductive StE where
 | noname | twice | nonum | many
def nOk:V->Bool
 | .str z=>C8 z.cps.toList
 | _=>false
def sOf:V->Str
 | .str z=>z
 | _=>Str.empty
def wIn(lo hi:Int):V->Bool
 | .int i=>decide (lo<=i) && decide (i<=hi)
 | _=>false
abbrev Rw:=Addr×V×V×V
def Ti(ks:List Str)(n c r:V):Option StE:=if nOk n=false then some .noname else if sOf n∈ks then some .twice else if wIn 0 (10 ^ 30) c=false then some .nonum else if wIn 1 1000 r=false then some .nonum else none
def Ij(ks:List Str):List Rw->Option StE
 | []=>none
 | t::rs=>match Ti ks t.2.1 t.2.2.1 t.2.2.2 with
  | some e=>some e
  | none=>Ij (ks++[sOf t.2.1]) rs
def Tj(rs:List Rw):Option StE:=if 60 < rs.length then some .many else Ij [] rs
theorem J60{K:PySem.W.Frag}{H:Hp}{v:V}(h:Ca v=true):∃b c,Isi K H v "int" b/\(b=true->Isi K H v "bool" c)/\((b && !c)=true->∃i,v= .int i)/\((b && !c)=false->∀i,v≠ .int i):=by
 cases v with
 | non=>exact⟨false,false,J1r,λh=>by (cases h),λh=>by (cases h),λ_ i h=>by cases h⟩
 | bl b=>exact⟨true,true,J1p,λ_=>J1o,λh=>by (cases h),λ_ i h=>by cases h⟩
 | int i=>exact⟨true,false,J1m,λ_=>J1n,λ_=>⟨i,rfl⟩,λh=>by cases h⟩
 | str z=>exact⟨false,false,J1q,λh=>by (cases h),λh=>by (cases h),λ_ i h=>by cases h⟩
 | _=>cases h
def Eh(K:PySem.W.Frag):Sp:=λvs H Q _=>∃(x:V) (b c:Bool),vs=[x]/\Isi K H x "int" b/\(b=true->Isi K H x "bool" c)/\Q (.bl (b && !c)) H
def Lu(K:PySem.W.Frag):Sp:=λvs H Q _=>∃(v:V) (lo hi:Int),vs=[v,.int lo,.int hi]/\Ca v=true/\Q (.bl (wIn lo hi v)) H
def SameBut(p:Addr)(H H':Hp):Prop:=∀b o,H b=some o->b≠p->H' b=some o
theorem SameBut.trans{p:Addr}{H:Hp}(h1:SameBut p H H1)(h2:SameBut p H1 H2):SameBut p H H2:=λb o e n=>h2 b o (h1 b o e n) n
theorem Tl{p:Addr}{H:Hp}{o:HO}:SameBut p H (upd H p o):=λb u e n=>by rw[A5 n];exact e
abbrev Th:=Str×Int×Int
def flds(d:Addr):List (Str×V):=Ac "things" (.ref d) []
structure Aq(K:PySem.W.Frag)(C:Addr)(H:Hp)(p:Addr)(ts:List Th):Prop where
 ex:∃(dx d:Addr) (kvs:List (Key×V)),H p=some (.ins C dx (flds d))/\H d=some (.dK kvs)/\kvs.map (·.1)=ts.map (λt=>Sum.inr t.1)/\
  ∀(i:Nat) (t:Th),ts[i]?=some t->∃a,kvs[i]?=some (Sum.inr t.1,.ref a)/\SqT K H a [.int i,.int t.2.1,.int t.2.2]
theorem Aq.same{K:PySem.W.Frag}{C:Addr}{H:Hp}{p:Addr}{ts:List Th}(s:Aa H H')(h:Aq K C H p ts):Aq K C H' p ts:=by
 obtain⟨dx,d,kvs,h1,h2,h3,h4⟩:=h.ex;refine⟨dx,d,kvs,s _ _ h1,s _ _ h2,h3,λi t e=>?_⟩;obtain⟨a,e1,e2⟩:=h4 i t e;exact⟨a,e1,s.tup e2⟩
def iOf:V->Int
 | .int i=>i
 | _=>0
def J61(t:Rw):Th:=(sOf t.2.1,iOf t.2.2.1,iOf t.2.2.2)
theorem SqT.but{K:PySem.W.Frag}{H:Hp}{p a C:Addr}{fs:List (Str×V)}{xs:List V}(s:SameBut p H H')(hp:H p=some (.ins C dx fs))(h:SqT K H a xs):SqT K H' a xs:=by
 rcases h with (h | ⟨o,h⟩) | h
 . exact .inl (.inl (s _ _ h (C0 h hp (by intro z;cases z))))
 . exact .inl (.inr ⟨o,s _ _ h (C0 h hp (by intro z;cases z))⟩)
 . exact .inr h
theorem SqL.but{K:PySem.W.Frag}{H:Hp}{p a C:Addr}{fs:List (Str×V)}{xs:List V}(s:SameBut p H H')(hp:H p=some (.ins C dx fs))(h:SqL K H a xs):SqL K H' a xs:=by
 rcases h with (h | ⟨o,h⟩) | h
 . exact .inl (.inl (s _ _ h (C0 h hp (by intro z;cases z))))
 . exact .inl (.inr ⟨o,s _ _ h (C0 h hp (by intro z;cases z))⟩)
 . exact .inr h
theorem L1{ks:List Str}{z:Str}(h:kvs.map (·.1)=ks.map Sum.inr):(B1 kvs (Sum.inr z)).isSome=decide (z∈ks):=by
 have e:(Sum.inr z:Key)∈kvs.map (·.1)↔z∈ks:=by
  rw[h,FK];constructor
  . rintro⟨a,ha,e⟩;injection e with e;subst e;exact ha
  . intro h;exact⟨z,h,rfl⟩
 cases hv:B1 kvs (Sum.inr z:Key) with
 | none=>rw[Fs λq=>J1j hv (e.mpr q)];rfl
 | some v=>rw[Fj (e.mp (J5f hv))];rfl
theorem Cp{d:Addr}:(flds d).lookup ("things":Str)=some (V.ref d):=by
 unfold flds;rw[Ao,if_pos rfl]
theorem Pj{ks:List Str}{n co r:V}(h:Ti ks n co r=none):∃z c q,n= .str z/\co= .int c/\r= .int q/\¬z∈ks/\C8 z.cps.toList=true/\0<=c/\c<=10 ^ 30/\1<=q/\q<=1000:=by
 unfold Ti at h;split at h
 . cases h
 rename_i h1;split at h
 . cases h
 rename_i h2;split at h
 . cases h
 rename_i h3;split at h
 . cases h
 rename_i h4
 cases n with
 | str z=>
  cases co with
  | int c=>
   cases r with
   | int q=>
    simp only[wIn,R0,decide_eq_false_iff_not,not_or,Decidable.not_not]at h3 h4;exact⟨z,c,q,rfl,rfl,rfl,h2,by simpa [nOk] using h1,h3.1,h3.2,h4.1,h4.2⟩
   | _=>exact absurd rfl h4
  | _=>exact absurd rfl h3
 | _=>exact absurd rfl h1
theorem Tn{ks:List Str}{rs:List Rw}{i:Nat}{t:Rw}(h:rs[i]?=some t):Ij ks (rs.drop i)=match Ti ks t.2.1 t.2.2.1 t.2.2.2 with
 | some e=>some e
 | none=>Ij (ks++[sOf t.2.1]) (rs.drop (i+1)):=by
 have e:rs.drop i=t::rs.drop (i+1):=by
  obtain⟨hi,rfl⟩:=Fh.mp h;exact List.drop_eq_getElem_cons hi
 rw[e];rfl
def Gx(rs:List Rw):List Str:=rs.map λt=>sOf t.2.1
structure Xn(K:PySem.W.Frag)(H:Hp)(d:Addr)(rs:List Rw):Prop where
 ex:∃kvs:List (Key×V),H d=some (.dK kvs)/\kvs.map (·.1)=(Gx rs).map Sum.inr/\∀(j:Nat) (t:Rw),rs[j]?=some t->∃a,kvs[j]?=some (Sum.inr (sOf t.2.1),.ref a)/\SqT K H a [.int j,.int (iOf t.2.2.1),.int (iOf t.2.2.2)]
theorem Xn.snoc{K:PySem.W.Frag}{H:Hp}{d a:Addr}{rs:List Rw}{t:Rw}{c q:Int}{z:Str}(h1:H d=some (.dK kvs))(h2:kvs.map (·.1)=(Gx rs).map Sum.inr)
 (h3:∀(j:Nat) (t:Rw),rs[j]?=some t->∃a,kvs[j]?=some (Sum.inr (sOf t.2.1),.ref a)/\SqT K H a [.int j,.int (iOf t.2.2.1),.int (iOf t.2.2.2)])
 (e1:t.2.1= .str z) (e2:t.2.2.1= .int c) (e3:t.2.2.2= .int q) (nz:¬z∈Gx rs) (ha:H a=some (.tup [.int kvs.length,.int c,.int q])):
 Xn K (upd H d (.dK (Cj kvs (Sum.inr z) (.ref a)))) d (rs++[t]):=by
 have hl:kvs.length=rs.length:=by
  have:=congrArg List.length h2
  simpa [Gx] using this
 have hv:B1 kvs (Sum.inr z:Key)=none:=by
  have:=L1 (z:=z) h2;rw[Fs nz]at this
  cases h:B1 kvs (Sum.inr z:Key) with
  | none=>rfl
  | some v=>rw[h]at this;cases this
 have Md:∀{b:Addr}{xs:List V}{o:List (Key×V)},SqT K H b xs->SqT K (upd H d (.dK o)) b xs:=λ{b xs o} h=>by
  rcases h with (h | ⟨o',h⟩) | h
  . exact .inl (.inl (by rw[A5 (C0 h h1 (by intro z;cases z))];exact h))
  . exact .inl (.inr ⟨_,by rw[A5 (C0 h h1 (by intro z;cases z))];exact h⟩)
  . exact .inr h
 refine⟨_,A1,?_,λj t' hj=>?_⟩
 . rw[Kt _ hv,Fz,h2]
   simp[Gx,e1,sOf]
 . rw[Kt _ hv]
   by_cases hlt:j < rs.length
   . rw[FQ hlt]at hj
     obtain⟨b,e,hb⟩:=h3 j t' hj;exact⟨b,by rw[FQ (by omega)];exact e,Md hb⟩
   . rw[FJ (by omega)]at hj
     have hj0:j - rs.length=0:=by
      have:=(Fh.mp hj).1;simp at this;omega
     rw[hj0]at hj;cases hj
     have ej:j=rs.length:=by omega
     subst ej;refine⟨a,?_,?_⟩
     . rw[<- hl,FJ (by omega)];simp[e1,sOf]
     . rw[e2,e3]
       refine Md (SqT.of ?_);rw[ha,hl];rfl
end N1
variable {ts:List N1.Th}
namespace L2
section
variable {X:Cx}{pins:List (Addr×Obj)}{σ:St}{H:Hp}{s:Shared}
theorem Ag{c:Const}{j pos}{es:List Expr}{te:TE}{t:TA}(ha:PE X (.Constant c j pos) te)(hr:PA X es t):PA X (.Constant c j pos::es) (S5 te t):=A0 ha hr rfl
theorem O3{o j}{a b:Expr}{es:List Expr}{te:TE}{t:TA}(ha:PE X (.BinOp a o b j) te)(hr:PA X es t):PA X (.BinOp a o b j::es) (S5 te t):=A0 ha hr rfl
theorem J38{x j}{l es:List Expr}{te:TE}{t:TA}(ha:PE X (.Tuple l x j) te)(hr:PA X es t):PA X (.Tuple l x j::es) (S5 te t):=A0 ha hr rfl
end
theorem Xo{o i v:V}{H:Hp}{Q:Hp->Prop}:Jap o i v H Q=∃p xs k j,o= .ref p/\i= .int k/\H p=some (.lst xs)/\ixN xs.length k=some j/\Q (upd H p (.lst (xs.set j v))):=rfl
end L2
namespace N5
open L2 N1
def md(j:Nat):Int:=if j=0 then 26 else 36
def sgn(F:Nat->Int)(at':Int)(k j:Nat):Nat:=bc ((F j+if (j:Int)=at' then (k:Int) else 0) % md j)
def nmL(F:Nat->Int)(at':Int)(long k:Nat):List Nat:=(List.range long).map (sgn F at' k)
theorem Lv{i:Int}:bc (i % 26)∈B7:=by
 have h1:=FH i (show (26:Int)≠0 by decide);have h2:=FD i (show (0:Int) < 26 by decide);unfold bc;generalize i % 26=x at *
 have h3:x.toNat < B7.length:=by simp[B7];omega
 rw[Fd,FQ h3,Fb h3];exact Hj h3
theorem Xp{i:Int}:bc (i % 36)∈B7++Bz:=by
 have h1:=FH i (show (36:Int)≠0 by decide);have h2:=FD i (show (0:Int) < 36 by decide);unfold bc;generalize i % 36=x at *
 have h3:x.toNat < (B7++Bz).length:=by rw[Tf];omega
 rw[Fd,Fb h3];exact Hj h3
theorem J39{x y:Int}(hx0:0<=x)(hx:x < 36)(hy0:0<=y)(hy:y < 36)(h:bc x=bc y):x=y:=by
 have key:∀a:Fin 36,∀b:Fin 36,(B7++Bz).getD a.val 0=(B7++Bz).getD b.val 0->a=b:=by decide+kernel
 have:=key ⟨x.toNat,by omega⟩ ⟨y.toNat,by omega⟩ h;have:=congrArg Fin.val this;simp at this;omega
def nms(F:Nat->Int)(at':Int)(long m:Nat):List Str:=(List.range m).map λk=>tx (nmL F at' long k)
theorem ne1:Str.ofString "no name"≠Str.ofString "nothing":=by decide+kernel
theorem SqT.butL{K:PySem.W.Frag}{H:Hp}{p a:Addr}{zs:List V}(s:SameBut p H H')(hp:H p=some (.lst zs))(h:SqT K H a xs):SqT K H' a xs:=by
 rcases h with (h | ⟨o,h⟩) | h
 . exact .inl (.inl (s _ _ h (C0 h hp (by intro z;cases z))))
 . exact .inl (.inr ⟨o,s _ _ h (C0 h hp (by intro z;cases z))⟩)
 . exact .inr h
theorem Cu{H:Hp}{x C:Addr}(hx:H x=none)(hd:H dx=none)(s:SameBut x (upd (upd H dx (.own x)) x (.ins C dx [])) H'):Aa H H':=λb o e=>by
 have n1:=Ab e hx;have n2:=Ab e hd;exact s b o (by rw[A5 n1,A5 n2];exact e) n1
theorem J3a{z:Str}(h:C8 z.cps.toList=true):z.length<=8:=by
 unfold C8 at h;simp only[Hs,decide_eq_true_eq]at h;have:=h.1.1.2;rw[Qe]at this;exact this
end N5
namespace L2
open N1 N5
section
variable {K:PySem.W.Frag}{tail:St}{te:Blk->TE}{Q:VK}{H1:Hp}
def J3b(P:V->Hp->Prop):Prop:=∀y H H' l zs,P y H->H l=some (.lst zs)->SameBut l H H'->P y H'
theorem J3c{lo:Int}{n:Nat}(P:Nat->V->Hp->Prop)(hP:∀i,J3b (P i))(hz:n<=sizeLine)(he:∀b (i:Nat) H Q',i < n->Aa H1 H->(∀y H',Aa H H'->P i y H'->Q' y H')->te b (some (.int (lo+i))::tail) H Q')
 (q:∀D ys H',H1 D=none->Aa H1 H'->H' D=some (.lst ys)->ys.length=n->(∀i y,ys[i]?=some y->P i y H')->Q (.ref D) H'):Co (none::tail) (λ_=>Cy 0) (λ_=>Mg) te Q (Itr lo n) H1:=by
 refine Kw n (λb D hD=>⟨λi ys H=>i<=n/\ys.length=i/\H D=some (.lst ys)/\Aa H1 H/\∀j y,ys[j]?=some y->P j y H,⟨FP _,rfl,A1,E8 hD,λj y e=>by simp at e⟩,?_,?_,?_⟩)
 . rintro i ys H ⟨hi,_,h,_⟩
   exact h
 . rintro ys H ⟨_,hl,h,sm,hall⟩
   exact⟨Fg _,q D ys H hD sm h hl hall⟩
 . rintro i ys H hi ⟨_,hl,h,sm,hall⟩
   refine⟨hi,λx H3 ⟨e3,ex⟩=>?_⟩;subst e3 ex;refine he b i _ _ hi sm λy H4 sm4 py=>?_;have h4:=sm4 _ _ h;have sb:SameBut D H4 (upd H4 D (.lst (ys++[y]))):=Tl;refine Ib h4 (by omega) hi ⟨hi,by rw[Fn,hl];rfl,A1,λc o e=>?_,λj y' e=>?_⟩
   . rw[A5 (Ab e hD)];exact sm4 _ _ (sm _ _ e)
   . by_cases hj:j < ys.length
     . rw[FQ hj]at e
       have:=hall j y' e
       exact hP j _ _ _ _ _ this h λc o e n=>by rw[A5 n];exact sm4 _ _ e
     . rw[FJ (by omega)]at e
       have hj0:j=i:=by have:=(Fh.mp e).1;simp at this;omega
       subst hj0;rw[show j - ys.length=0 by omega]at e;cases e;exact hP j _ _ _ _ _ py h4 sb
end
end L2
namespace N4
open L2 N1 N5
def Oj(n p:V):List (Str×V):=Ac "place" p (Ac "name" n [])
theorem L3{n p:V}:(Oj n p).lookup ("name":Str)=some n:=by
 unfold Oj;rw[Ao,if_neg (by decide),Ao,if_pos rfl]
theorem K5{n p:V}:(Oj n p).lookup ("place":Str)=some p:=by
 unfold Oj;rw[Ao,if_pos rfl]
def J00(C:Addr)(H:Hp)(x:Addr)(n p:V):Prop:=∃dx,H x=some (exO false x C (some dx))/\H dx=some (exD dx (Oj n p))
def Ik(C:Addr):Sp:=λvs H Q _=>∃(x:Addr) (n p:V) (nw:Bool),vs=[.ref x,n,p]/\H x=some (exO nw x C none)/\∀dx,H dx=none->Q .non (upd (upd H x (exO nw x C (some dx))) dx (exD dx (Oj n p)))
def K6(K:PySem.W.Frag):Sp:=λvs H Q _=>∃(n co r:V) (e:Addr) (kvs:List (Key×V)) (ks:List Str),vs=[n,co,r,.ref e]/\H e=some (.dK kvs)/\kvs.map (·.1)=ks.map Sum.inr/\Ti ks n co r=none/\∀H',Aa H H'->Q .non H'
def L4(K:PySem.W.Frag)(C:Addr):Sp:=λvs H Q _=>∃(p dx ra:Addr) (rs:List Rw),vs=[.ref p,.ref ra]/\H p=some (.ins C dx [])/\SqL K H ra (rs.map λt=>V.ref t.1)/\(∀t∈rs,SqT K H t.1 [t.2.1,t.2.2.1,t.2.2.2])/\Tj rs=none/\
 ∀H',SameBut p H H'->Aq K C H' p (rs.map J61)->Q .non H'
theorem Vf{rs:List Rw}(h:Tj rs=none):rs.length<=60/\Ij [] rs=none:=by
 unfold Tj at h;split at h
 . cases h
 . exact⟨by omega,h⟩
theorem O4{lo hi c:Int}(h1:lo<=c)(h2:c<=hi):wIn lo hi (.int c)=true:=by
 show (decide (lo<=c) && decide (c<=hi))=true;rw[Fj h1,Fj h2];rfl
theorem Pk:∀(rs:List Rw) (ks:List Str),(∀t∈rs,∃z c q,t.2.1= .str z/\t.2.2.1= .int c/\t.2.2.2= .int q/\C8 z.cps.toList=true/\0<=c/\c<=10 ^ 30/\1<=q/\q<=1000)->(ks++rs.map λt=>sOf t.2.1).Nodup->Ij ks rs=none
 | [],_,_,_=>rfl
 | t::rs,ks,h,nd=>by
  obtain⟨z,c,q,e1,e2,e3,hn,h1,h2,h3,h4⟩:=h t (FC ..)
  have hz:¬z∈ks:=λhz=>by
   rw[List.map_cons,Hf]at nd;exact nd.2.2 z hz (sOf t.2.1) (FC ..) (by rw[e1];rfl)
  have r0:Ti ks t.2.1 t.2.2.1 t.2.2.2=none:=by
   unfold Ti;rw[e1,e2,e3];rw[if_neg (by show ¬C8 z.cps.toList=false;rw[hn];decide),if_neg (show ¬sOf (.str z)∈ks from hz),if_neg (by rw[O4 h1 h2];decide),if_neg (by rw[O4 h3 h4];decide)]
  unfold Ij;rw[r0];refine Pk rs _ (λt' ht=>h t' (Fk _ ht)) ?_;rw[Hg];exact nd
theorem J3d{i:Nat}{k:Key}{v:V}(nd:(kvs.map (·.1)).Nodup)(e:kvs[i]?=some (k,v)):B1 kvs k=some v:=by
 induction kvs generalizing i with
 | nil=>rw[List.getElem?_nil]at e;cases e
 | cons p r ih=>
  cases i with
  | zero=>cases e;exact Cb rfl
  | succ i=>
   rw[List.map_cons,HB]at nd;have hm:(k,v)∈r:=Fq e;rw[Cc (λz=>nd.1 (by rw[z];exact List.mem_map_of_mem (f:=(·.1)) hm))];exact ih nd.2 e
theorem J01{ks:List Str}(h:ks.Nodup):(ks.map (Sum.inr:Str->Key)).Nodup:=by
 unfold List.Nodup at *;rw[List.pairwise_map];exact h.imp λn e=>n (by injection e)
section
variable {K:PySem.W.Frag}{C:Addr}{H H':Hp}{p:Addr}{ts:List Th}{z:Str}
theorem Aq.has(h:Aq K C H p ts):∃dx d kvs,H p=some (.ins C dx (flds d))/\H d=some (.dK kvs)/\(kvs.map λq=>kV q.1)=ts.map (λt=>V.str t.1)/\(∀z,(B1 kvs (Sum.inr z)).isSome=decide (z∈ts.map (·.1)))/\
 ((ts.map (·.1)).Nodup->∀(i:Nat) (t:Th),ts[i]?=some t->∃a,B1 kvs (Sum.inr t.1)=some (.ref a)/\SqT K H a [.int i,.int t.2.1,.int t.2.2]):=by
 obtain⟨dx,d,kvs,h1,h2,h3,h4⟩:=h.ex
 have h3':kvs.map (·.1)=(ts.map (·.1)).map Sum.inr:=by rw[h3,FA];rfl
 refine⟨dx,d,kvs,h1,h2,?_,λz=>L1 h3',λnd i t e=>?_⟩
 . have:=congrArg (List.map kV) h3
   rw[FA,FA]at this;exact this
 . obtain⟨a,e1,e2⟩:=h4 i t e
   exact⟨a,J3d (by rw[h3'];exact J01 nd) e1,e2⟩
end
def Qi(K:PySem.W.Frag)(C:Addr):Sp:=λvs H Q _=>∃(p:Addr) (ts:List Th) (z:Str),vs=[.ref p,.str z]/\Aq K C H p ts/\Q (.bl (decide (z∈ts.map (·.1)))) H
def Qj(K:PySem.W.Frag)(C:Addr):Sp:=λvs H Q _=>∃(p:Addr) (ts:List Th),vs=[.ref p]/\Aq K C H p ts/\∀l,H l=none->Q (.ref l) (upd H l (.lst ((ts.map (·.1)).map V.str)))
theorem Xq{z:Str}(h:z∈ts.map (·.1)):∃(i:Nat) (t:Th),ts[i]?=some t/\t.1=z:=by
 obtain⟨t,ht,e⟩:=FK.mp h;obtain⟨i,hi⟩:=FL.mp ht;exact⟨i,t,hi,e⟩
open L2 N1 N5
def nm1(c:Int)(G:Nat->Int)(k:Nat):List Nat:=bc ((c+k / 8) % 26)::((List.range 7).map λj=>bc (G j % 36)).take (k % 8)
theorem J3e{c:Int}{G:Nat->Int}{k:Nat}:C8 (nm1 c G k)=true:=by
 have hall:∀x∈nm1 c G k,x∈B7++Bz:=by
  intro x hx;rcases Ft.mp hx with rfl | hx
  . exact FX _ Lv
  . obtain⟨j,_,rfl⟩:=FK.mp (R6 hx)
    exact Xp
 have hl:(nm1 c G k).length<=8:=by simp[nm1];omega
 have hl1:1<=(nm1 c G k).length:=by simp[nm1]
 unfold C8;rw[Fj hl1,Fj hl];simp only[Bool.true_and];rw[show Ve (nm1 c G k) B7=true from Fj Lv,Bool.true_and];exact FY.mpr λx hx=>Fj (hall x hx)
theorem J62{c:Int}{G:Nat->Int}{k k':Nat}(hk:k < 61)(hk':k' < 61)(h:nm1 c G k=nm1 c G k'):k=k':=by
 unfold nm1 at h
 injection h with h1 h2
 have e1:=J39 (by omega) (by omega) (by omega) (by omega) h1;have e2:=congrArg List.length h2;simp only[FF,Fa,Hm]at e2;omega
theorem To{f:Nat->List Nat}{m:Nat}(h:∀a b,a < m->b < m->f a=f b->a=b):((List.range m).map λk=>tx (f k)).Nodup:=by
 unfold List.Nodup;rw[List.pairwise_map];refine List.Pairwise.imp_of_mem (R:=λa b=>a≠b) ?_ List.nodup_range;intro a b ha hb ne e;exact ne (h a b (RA.mp ha) (RA.mp hb) (Jbn e))
structure Il(K:PySem.W.Frag)(H:Hp)(r:Addr)(as:List Addr)(ts:List Th):Prop where
 l:SqL K H r (as.map V.ref)
 n:as.length=ts.length
 m:ts.length<=60
 at_:∀(i:Nat) (a:Addr) (t:Th),as[i]?=some a->ts[i]?=some t->SqT K H a [.str t.1,.int t.2.1,.int t.2.2]
 ok:∀t∈ts,C8 t.1.cps.toList=true/\0<=t.2.1/\t.2.1<=10 ^ 30/\1<=t.2.2/\t.2.2<=1000
 nd:(ts.map (·.1)).Nodup
theorem Il.same{K:PySem.W.Frag}{H:Hp}{r:Addr}{ts:List Th}(s:Aa H H')(h:Il K H r as ts):Il K H' r as ts:=
 ⟨s.seq h.l,h.n,h.m,λi a t e1 e2=>s.tup (h.at_ i a t e1 e2),h.ok,h.nd⟩
theorem L6{l:List Nat}{n:Int}(h0:0<=n)(h1:n<=l.length):Txt.slice (tx l) none (some n)=tx (l.take n.toNat):=by
 have h:=slice_closes_toL (x:=tx l) h0 (by rw[Ii];exact h1);rw[HV.mp h,Gj];show tx _=tx _;rw[show (0:Int).toNat=0 from rfl,List.drop_zero,Int.sub_zero]
def J3f(a:Addr)(t:Th):Rw:=(a,.str t.1,.int t.2.1,.int t.2.2)
theorem Il.init{K:PySem.W.Frag}{H:Hp}{r:Addr}(h:Il K H r as ts):∃rs:List Rw,rs.map (λt=>V.ref t.1)=as.map V.ref/\(∀t∈rs,SqT K H t.1 [t.2.1,t.2.2.1,t.2.2.2])/\Tj rs=none/\rs.map J61=ts:=by
 have hn:=h.n
 have gt:∀(i:Nat) (x:Addr×Th),(as.zip ts)[i]?=some x->as[i]?=some x.1/\ts[i]?=some x.2:=λi x e=>by
  rw[List.getElem?_zip_eq_some]at e;exact e
 have e1:((as.zip ts).map λx=>J3f x.1 x.2).map J61=ts:=by
  rw[FA]
  have:(J61∘λx:Addr×Th=>J3f x.1 x.2)=Prod.snd:=by funext x;rfl
  rw[this,List.map_snd_zip (by omega)]
 refine⟨(as.zip ts).map λx=>J3f x.1 x.2,?_,?_,?_,e1⟩
 . rw[FA]
   have:((λt:Rw=>V.ref t.1)∘λx:Addr×Th=>J3f x.1 x.2)=V.ref∘Prod.fst:=by funext x;rfl
   rw[this,<- FA,List.map_fst_zip (by omega)]
 . intro t ht
   obtain⟨x,hx,rfl⟩:=FK.mp ht;obtain⟨i,hi⟩:=FL.mp hx;obtain⟨h1,h2⟩:=gt i x hi;exact h.at_ i x.1 x.2 h1 h2
 . unfold Tj
   rw[if_neg (by rw[Fa,List.length_zip];have:=h.m;omega)];refine Pk _ _ (λt ht=>?_) ?_
   . obtain⟨x,hx,rfl⟩:=FK.mp ht
     obtain⟨i,hi⟩:=FL.mp hx;obtain⟨h1,h2⟩:=gt i x hi;obtain⟨o1,o2,o3,o4,o5⟩:=h.ok x.2 (Fq h2);exact⟨x.2.1,x.2.2.1,x.2.2.2,rfl,rfl,rfl,o1,o2,o3,o4,o5⟩
   . rw[List.nil_append,FA]
     have:((λt:Rw=>sOf t.2.1)∘λx:Addr×Th=>J3f x.1 x.2)=(λt:Th=>t.1)∘Prod.snd:=by funext x;rfl
     rw[this,<- FA,List.map_snd_zip (by omega)];exact h.nd
end N4
namespace N6
open L2 N1 N5 N4
def sfl(p d:Addr)(n:Int):List (Str×V):=Ac "rooms" (.ref d) (Ac "places" (.int n) (Ac "stock" (.ref p) []))
theorem Pl{p d:Addr}{n:Int}:(sfl p d n).lookup ("stock":Str)=some (V.ref p):=by
 unfold sfl;rw[Ao,if_neg (by decide),Ao,if_neg (by decide),Ao,if_pos rfl]
theorem Vg{p d:Addr}{n:Int}:(sfl p d n).lookup ("places":Str)=some (V.int n):=by
 unfold sfl;rw[Ao,if_neg (by decide),Ao,if_pos rfl]
theorem Ew{p d:Addr}{n:Int}:(sfl p d n).lookup ("rooms":Str)=some (V.ref d):=by
 unfold sfl;rw[Ao,if_pos rfl]
abbrev Ly:=List (Str×Int)
def lyK(ls:Ly):List (Key×V):=ls.map λx=>(Sum.inr x.1,.int x.2)
def lyN(ls:Ly):List Str:=ls.map (·.1)
def lyS(ls:Ly):Int:=(ls.map (·.2)).sum
structure Bc(S:Addr)(H:Hp)(q p d:Addr)(n:Int)(ls:Ly):Prop where
 o:∃dx,H q=some (.ins S dx (sfl p d n))
 d:H d=some (.dK (lyK ls))
 nd:(lyN ls).Nodup
theorem Bc.same{S:Addr}{H:Hp}{q p d:Addr}{n:Int}{ls:Ly}(s:Aa H H')(h:Bc S H q p d n ls):Bc S H' q p d n ls:=
 ⟨h.o.imp λ_ e=>s _ _ e,s _ _ h.d,h.nd⟩
structure Eo(K:PySem.W.Frag)(C:Addr)(H:Hp)(p:Addr)(ts:List Th)(d:Addr):Prop where
 ex:∃(dx e:Addr) (kvs:List (Key×V)),e≠d/\H p=some (.ins C dx (flds e))/\H e=some (.dK kvs)/\kvs.map (·.1)=ts.map (λt=>Sum.inr t.1)/\
  ∀(i:Nat) (t:Th),ts[i]?=some t->∃a,kvs[i]?=some (Sum.inr t.1,.ref a)/\SqT K H a [.int i,.int t.2.1,.int t.2.2]
section
variable {K:PySem.W.Frag}{C S:Addr}{H H':Hp}{p q d:Addr}{ts:List Th}{n:Int}{ls:Ly}{z:Str}
theorem Eo.at(h:Eo K C H p ts d):Aq K C H p ts:=by
 obtain⟨dx,e,kvs,_,r⟩:=h.ex;exact⟨dx,e,kvs,r⟩
theorem Eo.of(h:Aq K C H p ts)(hd:H d=none):Eo K C H p ts d:=by
 obtain⟨dx,e,kvs,h1,h2,r⟩:=h.ex;exact⟨dx,e,kvs,Ab h2 hd,h1,h2,r⟩
theorem Eo.same(s:Aa H H')(h:Eo K C H p ts d):Eo K C H' p ts d:=by
 obtain⟨dx,e,kvs,n,h1,h2,h3,h4⟩:=h.ex;refine⟨dx,e,kvs,n,s _ _ h1,s _ _ h2,h3,λi t q=>?_⟩;obtain⟨a,e1,e2⟩:=h4 i t q;exact⟨a,e1,s.tup e2⟩
theorem Bc.butL{l:Addr}{zs:List V}(s:SameBut l H H')(hl:H l=some (.lst zs))(h:Bc S H q p d n ls):Bc S H' q p d n ls:=
 ⟨h.o.imp λ_ e=>s _ _ e (C0 e hl (by intro z;cases z)),s _ _ h.d (C0 h.d hl (by intro z;cases z)),h.nd⟩
theorem J63:(lyK ls).map (·.1)=(lyN ls).map Sum.inr:=by unfold lyK lyN;rw[FA,FA];rfl
theorem J02:((lyK ls).map λx=>kV x.1)=(lyN ls).map V.str:=by unfold lyK lyN;rw[FA,FA];rfl
theorem J3g:(lyK ls).map (·.2)=(ls.map (·.2)).map V.int:=by unfold lyK;rw[FA,FA];rfl
theorem Qk:(B1 (lyK ls) (Sum.inr z)).isSome=decide (z∈lyN ls):=L1 J63
theorem J64{r:Int}(h:¬z∈lyN ls):Cj (lyK ls) (Sum.inr z) (.int r)=lyK (ls++[(z,r)]):=by
 have hv:B1 (lyK ls) (Sum.inr z:Key)=none:=by
  have:=Qk (ls:=ls) (z:=z);rw[Fs h]at this
  cases hv:B1 (lyK ls) (Sum.inr z:Key) with
  | none=>rfl
  | some v=>rw[hv]at this;cases this
 rw[Kt _ hv];unfold lyK;rw[Fz];rfl
def lyD(ls:Ly)(z:Str):Ly:=ls.filter λx=>decide (x.1≠z)
theorem J3h:C7 (lyK ls) (Sum.inr z)=lyK (lyD ls z):=by
 unfold C7 lyK lyD;rw[List.filter_map];congr 1;refine List.filter_congr λx _=>?_;show decide ((Sum.inr x.1:Key)≠Sum.inr z)=decide (x.1≠z);exact decide_eq_decide.mpr ⟨λh e=>h (by rw[e]),λh e=>h (by injection e)⟩
theorem Lw(nd:(lyN ls).Nodup):lyN (lyD ls z)=(lyN ls).erase z:=by
 unfold lyN lyD at *;rw[List.Nodup.erase_eq_filter nd,List.filter_map];congr 1;refine List.filter_congr λx _=>?_
 by_cases h:x.1=z
 . simp[h]
 . simp[h]
end
theorem Bc.put{S:Addr}{H:Hp}{q p d:Addr}{n:Int}{ls:Ly}{z:Str}{r:Int}(h:Bc S H q p d n ls)(s:Aa H H1)(hz:¬z∈lyN ls):Bc S (upd H1 d (.dK (Cj (lyK ls) (Sum.inr z) (.int r)))) q p d n (ls++[(z,r)]):=by
 obtain⟨dx,ho⟩:=h.o;have h1:=s _ _ ho;have h2:=s _ _ h.d;refine⟨⟨dx,by rw[A5 (C0 h1 h2 (by intro z;cases z))];exact h1⟩,by rw[A1,J64 hz],?_⟩
 have e:lyN (ls++[(z,r)])=lyN ls++[z]:=by unfold lyN;rw[Fz];rfl
 rw[e,Hf];exact⟨h.nd,by simp,λa ha b hb e=>hz (by rw[Fo.mp hb]at e;rw[<- e];exact ha)⟩
theorem Bc.cast{S:Addr}{H:Hp}{q p d:Addr}{n:Int}{ls:Ly}{z:Str}(h:Bc S H q p d n ls):Bc S (upd H d (.dK (C7 (lyK ls) (Sum.inr z)))) q p d n (lyD ls z):=by
 obtain⟨dx,ho⟩:=h.o;refine⟨⟨dx,by rw[A5 (C0 ho h.d (by intro z;cases z))];exact ho⟩,by rw[A1,J3h],?_⟩;rw[Lw h.nd];exact h.nd.erase z
def Ql(C:Addr)(H':Hp)(x:Addr):Prop:=H' x=some (exO false x C none)
def L7(S:Addr):Sp:=λvs H Q _=>∃(q dx p:Addr) (n:Int),vs=[.ref q,.ref p,.int n]/\H q=some (.ins S dx [])/\1<=n/\n<=1000000/\∀H' d,SameBut q H H'->H d=none->Bc S H' q p d n []->Q .non H'
def L8(S:Addr):Sp:=λvs H Q _=>∃(q p d:Addr) (n:Int) (ls:Ly),vs=[.ref q]/\Bc S H q p d n ls/\∀l,H l=none->Q (.ref l) (upd H l (.lst ((lyN ls).map V.str)))
def L9(S:Addr):Sp:=λvs H Q _=>∃(q p d:Addr) (n:Int) (ls:Ly) (z:Str),vs=[.ref q,.str z]/\Bc S H q p d n ls/\Q (.bl (decide (z∈lyN ls))) H
def Mu(S:Addr):Sp:=λvs H Q _=>∃(q p d:Addr) (n:Int) (ls:Ly),vs=[.ref q]/\Bc S H q p d n ls/\∀H',Aa H H'->Q (.int (n - lyS ls)) H'
open L2 N1 N5 N4
theorem J3i{z:Str}:inV (.str z) (ys.map V.str)=decide (z∈ys):=by
 unfold inV
 induction ys with
 | nil=>rfl
 | cons y ys ih=>
  rw[List.map_cons,R5,ih,Qf]
  by_cases h:y=z
  . subst h;simp
  . have h':¬z=y:=λe=>h e.symm
    simp[h,h']
theorem O5{K:PySem.W.Frag}{H:Hp}{p:Addr}{z:Str}(h:SqL K H p (ys.map V.str))(q:Q (.bl (decide (z∈ys))) H):rIn K false (.str z) (.ref p) H Q:=by
 refine⟨p,_,rfl,.inl h,rfl,Ie,?_⟩;rw[if_neg (by decide),J3i];exact q
def aOf:V->Addr
 | .ref a=>a
 | _=>0
theorem J9k(ys:List Str)(m:Nat)(h:m<=ys.length):Nk (ys.map V.str) none (some (m:Int))=(ys.take m).map V.str:=by
 unfold Nk;rw[<- List.map_drop,<- List.map_take,Fa];congr 1;unfold HT.sIx;simp only[RO,Option.getD_some]
 first
  | (rw[if_neg (show ¬((m:Int) < 0) by omega)];simp;omega)
  | (rw[if_neg (show ¬((m:Int) < 0) by omega)];simp[Nat.min_eq_left h])
end N6
variable {ls:N6.Ly}
namespace L2
theorem Inv.turned2{H:Hp}{s:Shared}{fp:List Addr}(I:Inv X pins σ H s)(k:∀b o,b∉fp->s.heap.get? b=some o->h'.get? b=some o)(hf:∀it∈fp,Dz X pins H it):
 Inv X pins σ H {s with heap:=h',toks:=t'}:=by
 have nit:∀b u,H b=some u->b∉fp:=λb u e z=>by rw[(hf b z).1]at e;cases e
 refine I.step (g':=s.gens) (d':=s.drawn) (ch:=fp) (λb hb=>?_) (λb o _ _ hc e _=>k b o hc e) (λb o _ _ hc e _=>⟨o.slots,k b o hc e⟩) (λ_ _ _ _ n=>n)
  (λb o hc e=>⟨o,k b o hc e⟩) (λ_ _ e=>e) (λ_ _ _ e=>e) (λb ps e=>⟨#[],by rw[e];simp⟩) (λm hm=>?_) (λb u e=>?_) I.bare
 . obtain⟨_,h1,_,h2,h3,h4⟩:=hf b hb
   exact⟨h2,h1,h3,h4⟩
 . obtain⟨o,es,ep,ho,r⟩:=hm
   exact⟨o,es,ep,k _ o (λz=>(hf _ z).2.1 rfl) ho,r⟩
 . refine(I.hok b u e).stay (λc v hc q=>k c v ?_ q) (λ_ q=>q) λ_ _ q=>q
   rcases hc with z | z
   . rw[z];exact nit b u e
   . exact nit c _ z
def Ite(K:PySem.W.Frag)(a:Addr):It:=
 ⟨λi H=>∃xs x,SqL K H a xs/\xs[i]?=some x,λi H y H'=>∃t x,y= .ref t/\H t=none/\H'=upd H t (.tup [.int i,x])/\∀xs,SqL K H a xs->xs[i]?=some x,λi H=>∃xs,SqL K H a xs/\xs.length<=i⟩
def tnE(e it a:Addr)(i:Nat)(h:Heap):Prop:=(∃old,IsEnum h e it i old)/\h.IsListIter it a i
theorem J03{w:World}{K:PySem.W.Frag}{es:List Expr}{k:Nat}{pos:Pos}(a e it:Addr)(ne:e≠it):J0q P w K (.Tuple es k pos) (Ite K a) [e,it] e (tnE e it a) where
 mem:=by simp
 obj:=λi h st b hb=>by
  obtain⟨⟨old,h1⟩,o,h2,c,d⟩:=st
  have hb:b=e\/b=it:=by simpa using hb
  rcases hb with rfl | rfl
  . exact⟨_,h1,λv z=>by cases z⟩
  . exact⟨o,h2,λv z=>by rw[d]at z;cases z⟩
 keep:=λi h h' st kk=>by
  obtain⟨⟨old,h1⟩,h2⟩:=st;exact⟨⟨old,kk e (by simp) _ h1⟩,h2.at λo q=>kk it (by simp) o q⟩
 item:=by
  intro X hP hw hK hc i pins s σ H E I hf st hg;subst hP hw hK;obtain⟨xs,x,hq,hx⟩:=hg;obtain⟨its,rv,p,hz⟩:=I.list hq;obtain⟨u,hu,ru⟩:=rv.get hx;obtain⟨⟨old,h1⟩,h2⟩:=st;have hlt:e < s.heap.objs.size:=Fm h1
  have hit:it < s.heap.objs.size:=by obtain⟨o,q,_⟩:=id h2;exact Fm q
  refine wpAny_pyNext_enum_item h1 h2 p.isList (x:=u) (by simpa using hu) ne λh' eo it' ht hs hk=>?_;refine⟨_,rfl,wpAny_letOwnedTupleGo_enum (s:={s with heap:=h',toks:=s.toks+1}) eo λh3 e3 sb=>?_⟩;have hf0:H s.heap.objs.size=none:=I.hok.fresh (Fg _)
  have nt:∀b∈[e,it],b≠s.heap.objs.size:=λb hb=>by
   have hb:b=e\/b=it:=by simpa using hb
   rcases hb with rfl | rfl
   . exact Fv hlt
   . exact Fv hit
  have I0:Inv X pins σ (upd H s.heap.objs.size (.tup [.int i,x])) {s with heap:=s.heap.push {cls:= .type "tuple",data:= .seq #[.int i s.toks,u]},toks:=s.toks+1}:=
   I.laid (λb u e=>Fe _ e) (Fg _) ⟨by simp[sizeLine];try decide,[.int i s.toks,u],.cons ⟨_,rfl⟩ (.cons ru .nil),⟨_,Fy _ rfl,rfl,_,rfl⟩⟩
  have hfp:∀b∈[e,it],Dz X pins (upd H s.heap.objs.size (.tup [.int i,x])) b:=λb hb=>by
   obtain⟨f0,f1,f2,f3,f4,f5⟩:=hf b hb;exact⟨by rw[A5 (nt b hb)];exact f0,f1,f2,f3,f4,f5⟩
  have I1:Inv X pins σ (upd H s.heap.objs.size (.tup [.int i,x])) {s with heap:=h3,toks:=s.toks+1}:=by
   refine Inv.turned2 (s:={s with heap:=s.heap.push {cls:= .type "tuple",data:= .seq #[.int i s.toks,u]},toks:=s.toks+1}) (t':=s.toks+1) I0 (λb o hb q=>?_) hfp
   have hb':b≠e/\b≠it:=by simpa using hb
   refine(sb.2 b hb'.1).trans ?_;rcases Heap.get?_push_cases q with ⟨rfl,rfl⟩ | q2
   . exact ht
   . exact hk b o hb'.1 hb'.2 q2
  refine⟨.ref s.heap.objs.size,upd H s.heap.objs.size (.tup [.int i,x]),I1,rfl,⟨_,x,rfl,hf0,rfl,λys hy=>by rw[I.list_inj hy hq];exact hx⟩,⟨⟨u,?_⟩,?_⟩,λb hb=>(hfp b hb).1⟩
  . show IsEnum h3 e it ((i+1:Nat):Int) u
    rw[show ((i+1:Nat):Int)=(i:Int)+1 from rfl];exact e3
  . exact it'.at λo q=>(sb.2 it (Ne.symm ne)).trans q
 done:=by
   intro X hP hw hK hc i pins s σ H E I hf st hg;subst hP hw hK;obtain⟨xs,hq,hx⟩:=hg;obtain⟨its,rv,p,hz⟩:=I.list hq;obtain⟨⟨old,h1⟩,h2⟩:=st;have hl:=rv.length
   exact wpAny_pyNext_enum_end (I.ok.hd hc) h1 h2 p.isList (by simp;omega) λh' eb=>⟨rfl,Inv.turned2 (t':=s.toks) I (λb o hb q=>eb b o (λz=>hb (by simp[z])) q) hf⟩
 self:=λ_ _ _ _ _ st h=>wpAny_pyIter_enum st.1.choose_spec h
section
variable {X:Cx}
def J84(K:PySem.W.Frag)(ta:TA):TI:=λσ H R=>ta σ H λvs H1=>∃a,vs=[.ref a]/\(∃xs,SqL K H1 a xs)/\R (Ite K a) H1
theorem Xr{l:Expr}{ta:TA}{p pos pp:Pos}{es:List Expr}{k:Nat}(hg:Gl X "enumerate")(hm:X.mg "enumerate"=none)(ha:PA X [l] ta)(hs:starEach [l] X.env=[(false,eval l X.env)]:=by rfl):PI X (.Tuple es k pp) (.Call (.Name "enumerate" p) [l] [] pos) (J84 X.K ta):=by
 intro pins s σ H R I h;refine Call_ (Kf I hg hm boot_enumerate (HE (thn (ha pos pins s σ H _ I h) λus s1 hq_=>?_) hs rfl));obtain⟨vs,H1,I1,r1,q1⟩:=hq_;obtain⟨a,e,⟨xs,hq⟩,q⟩:=q1;subst e
 cases r1 with
 | cons r rr=>
  cases rr;cases r;obtain⟨its,rv,p',hz⟩:=I1.list hq;refine call_enumerate_list p'.isList λh' h1 h2 h3 h4=>?_;refine wpAny_pyIter_enum h1 ?_;refine⟨_,[s1.heap.objs.size+1,s1.heap.objs.size],_,_,H1,rfl,I1.kept (t':=s1.toks) h4,J03 a _ _ (Nat.succ_ne_self _),⟨⟨_,h1⟩,h2⟩,λb hb=>?_,q⟩
  have hb:b=s1.heap.objs.size+1\/b=s1.heap.objs.size:=by simpa using hb
  rcases hb with rfl | rfl
  . exact I1.fpOk (HF _) (I1.hok.fresh (HF _))
  . exact I1.fpOk (Fg _) (I1.hok.fresh (Fg _))
end
section
variable {K:PySem.W.Frag}{σ:St}{H:Hp}{D:Dh}
theorem Tp{ta:TA}{R:It->Hp->Prop}:J84 K ta σ H R=ta σ H λvs H1=>∃a,vs=[.ref a]/\(∃xs,SqL K H1 a xs)/\R (Ite K a) H1:=rfl
theorem Xs{a:Addr}{xs:List V}{tb:TS}(Pv:Nat->St->Hp->Prop)(h0:Pv 0 σ H)(hl:∀i σ H,i<=xs.length->Pv i σ H->SqL K H a xs)
 (hs:∀i x σ H t,xs[i]?=some x->Pv i σ H->H t=none->g (.ref t) σ (upd H t (.tup [.int i,x])) λσ2 H2=>tb {D with nx:=Pv (i+1),ct:=Pv (i+1),bk:=D.nx} σ2 H2) (hd:∀σ H,Pv xs.length σ H->D.nx σ H):Mm g tb D σ (Ite K a) H:=by
 refine⟨λi m σ H=>i<=xs.length/\m=xs.length - i/\Pv i σ H,⟨_,FP _,rfl,h0⟩,λi m σ H ⟨hi,hm,hP⟩=>?_⟩;have hq:=hl i σ H hi hP
 cases hx:xs[i]? with
 | none=>
  have hn:xs.length<=i:=by simpa using hx
  have e:i=xs.length:=Nat.le_antisymm hi hn;subst e;exact .inl ⟨⟨xs,hq,Fg _⟩,hd σ H hP⟩
 | some x=>
  have hlt:i < xs.length:=(Fh.mp hx).1;refine .inr ⟨⟨xs,x,hq,hx⟩,Pv (i+1),λσ' H' h=>⟨xs.length - (i+1),by omega,by omega,rfl,h⟩,?_⟩;rintro y H' ⟨t,x',rfl,ht,rfl,hy⟩;have e:=(hy xs hq).symm.trans hx;cases e;exact hs i x σ H t hx hP ht
end
def Itz(K:PySem.W.Frag)(a b:Addr):It:=
 ⟨λi H=>∃xs ys x y,SqL K H a xs/\SqL K H b ys/\xs[i]?=some x/\ys[i]?=some y,λi H v H'=>∃t x y,v= .ref t/\H t=none/\H'=upd H t (.tup [x,y])/\(∀xs,SqL K H a xs->xs[i]?=some x)/\∀ys,SqL K H b ys->ys[i]?=some y,
  λi H=>∃xs ys,SqL K H a xs/\SqL K H b ys/\(xs.length<=i\/ys.length<=i)⟩
section
variable {X:Cx}
def Jcl(K:PySem.W.Frag)(ta:TA):TI:=λσ H R=>ta σ H λvs H1=>∃a b,vs=[.ref a,.ref b]/\(∃xs,SqL K H1 a xs)/\(∃ys,SqL K H1 b ys)/\R (Itz K a b) H1
end
section
variable {K:PySem.W.Frag}{σ:St}{H:Hp}{D:Dh}
theorem Xt{ta:TA}{R:It->Hp->Prop}:Jcl K ta σ H R=ta σ H λvs H1=>∃a b,vs=[.ref a,.ref b]/\(∃xs,SqL K H1 a xs)/\(∃ys,SqL K H1 b ys)/\R (Itz K a b) H1:=rfl
end
abbrev J65(wi:TI)(fs:List Nat)(tt:Blk->TT)(te:Blk->TE):TE:=P5 wi 1 fs (λ_=>Cy 0) tt te
abbrev g2(K:PySem.W.Frag):Blk->TG:=λ_=>J53 K 2 (Nb (Cy 0) (Nb (Cy 1) J52))
abbrev J9l(K:PySem.W.Frag)(wi:TI)(fs:List Nat)(tt:Blk->TT)(te:Blk->TE):TE:=P5 wi 2 fs (g2 K) tt te
section
variable {K:PySem.W.Frag}{tail:St}{tt:Blk->TT}{te:Blk->TE}{Q:VK}{H1:Hp}{σ:St}{H:Hp}
theorem Tq{fs:List Nat}:J65 wi fs tt te σ H Q=wi σ H (Co (none::fs.map λj=>σ.getD j none) (λ_=>Cy 0) tt te Q):=rfl
theorem Tr{fs:List Nat}:J9l K wi fs tt te σ H Q=wi σ H (Co (none::none::fs.map λj=>σ.getD j none) (g2 K) tt te Q):=rfl
end
def Qm(v d:Addr):HO:= .ext λh=>h.IsItemsView v d
def Iti(o:Obj)(d:Addr):It:=
 ⟨λi H=>∃kvs p,H d=some (.frz o (.dK kvs))/\kvs[i]?=some p,λi H v H'=>∃t k x,v= .ref t/\H t=none/\H'=upd H t (.tup [kV k,x])/\∀kvs,H d=some (.frz o (.dK kvs))->kvs[i]?=some (k,x),
  λi H=>∃kvs,H d=some (.frz o (.dK kvs))/\kvs.length<=i⟩
section
variable {X:Cx}
def J9m:V->List V->Hp->VK->Prop:=λx vs H Q=>∃a kvs,x= .ref a/\vs=[]/\H a=some (.dK kvs)/\∀v,H v=none->Q (.ref v) (upd H v (Qm v a))
def Jbp(tv:TE):TI:=λσ H R=>tv σ H λx H1=>∃v d kvs,x= .ref v/\H1 v=some (Qm v d)/\H1 d=some (.dK kvs)/\∀o,R (Iti o d) (upd H1 d (.frz o (.dK kvs)))
end
section
variable {K:PySem.W.Frag}{tail:St}{te:Blk->TE}{Q:VK}{H1:Hp}{σ:St}{H:Hp}
theorem Ts{x:V}{vs:List V}:J9m x vs H Q=∃a kvs,x= .ref a/\vs=[]/\H a=some (.dK kvs)/\∀v,H v=none->Q (.ref v) (upd H v (Qm v a)):=rfl
theorem Tt{R:It->Hp->Prop}:Jbp tv σ H R=tv σ H λx H1=>∃v d kvs,x= .ref v/\H1 v=some (Qm v d)/\H1 d=some (.dK kvs)/\∀o,R (Iti o d) (upd H1 d (.frz o (.dK kvs))):=rfl
end
open N1 N5
theorem J3j{x:V}(h:Ca x=true):eqV x x=true:=by
 cases x with
 | non=>rfl
 | bl b=>cases b <;> rfl
 | int i=>exact R1 i
 | str z=>rw[Qf];simp
 | _=>cases h
abbrev g3(K:PySem.W.Frag):Blk->TG:=λ_=>J53 K 3 (Nb (Cy 0) (Nb (Cy 1) (Nb (Cy 2) J52)))
abbrev J9n(K:PySem.W.Frag)(wi:TI)(fs:List Nat)(te:Blk->TE):TE:=P5 wi 3 fs (g3 K) (λ_=>Mg) te
section
variable {K:PySem.W.Frag}{tail:St}{te:Blk->TE}{Q:VK}{H1:Hp}{σ:St}{H:Hp}
theorem Tu{fs:List Nat}:J9n K wi fs te σ H Q=wi σ H (Co (none::none::none::fs.map λj=>σ.getD j none) (g3 K) (λ_=>Mg) te Q):=rfl
end
end L2
namespace N12
open L2 N1 N5 N4 N6
def Vh(ts:List Th)(z:Str):Int:=match ts.find? (λt=>decide (t.1=z)) with
 | some t=>t.2.2
 | none=>0
end N12
namespace N6
open L2 N1 N5 N4
def Mv(K:PySem.W.Frag)(C S:Addr):Sp:=λvs H Q _=>∃(q p d:Addr) (n:Int) (ls:Ly) (ts:List Th) (z:Str) (r:Int),vs=[.ref q,.str z]/\Bc S H q p d n ls/\Eo K C H p ts d/\(ts.map (·.1)).Nodup/\ls.length<=1000/\
 z∈ts.map (·.1)/\(∀t∈ts,t.1=z->t.2.2=r)/\¬z∈lyN ls/\r<=n - lyS ls/\∀H',SameBut d H H'->Bc S H' q p d n (ls++[(z,r)])->Q .non H'
def La(S:Addr):Sp:=λvs H Q _=>∃(q p d:Addr) (n:Int) (ls:Ly) (z:Str),vs=[.ref q,.str z]/\Bc S H q p d n ls/\z∈lyN ls/\∀H',SameBut d H H'->Bc S H' q p d n (lyD ls z)->Q .non H'
end N6
namespace L2
open PySem.W
def Jbq(K:PySem.W.Frag):List V->Hp->VK->Prop:=λxs H Q=>∃(p:Addr) (is:List Int),xs=[.ref p]/\SqL K H p (is.map V.int)/\Q (.int is.sum) H
section
variable {σ:St}{H:Hp}{Q:VK}{D:Dh}{K:PySem.W.Frag}{xs:List V}{x y:V}
theorem Xu:Jbq K xs H Q=∃(p:Addr) (is:List Int),xs=[.ref p]/\SqL K H p (is.map V.int)/\Q (.int is.sum) H:=rfl
theorem J3k{f:Int->Int->Int}:ipI f x y H Q=∃i j,x= .int i/\y= .int j/\Q (.int (f i j)) H:=rfl
theorem J3l:Jas x y H Q=∃l k xs,x= .ref l/\y= .int k/\H l=some (.lst xs)/\-(2 ^ 63)<=k/\k < 2 ^ 63/\xs.length * k.toNat<=sizeLine/\
 ∀p,H p=none->Q (.ref p) (upd H p (.lst (List.replicate k.toNat xs).flatten)):=rfl
end
end L2
namespace N31
open L2 N1 N5
end N31
namespace N32
open L2 N1 N5 N31
def tl(f:Nat->Int)(b n:Nat):Int:=((List.range' b (n - b)).map f).sum
open L2 N1 N5 N31 N4
def rm(ts:List Th)(z:Str):Int:=((ts.find? λt=>decide (t.1=z)).map (·.2.2)).getD 0
theorem Tv{ts:List Th}(nd:(ts.map (·.1)).Nodup){i:Nat}{t:Th}(h:ts[i]?=some t):rm ts t.1=t.2.2:=by
 induction ts generalizing i with
 | nil=>simp at h
 | cons u r ih=>
  rw[List.map_cons,HB]at nd
  cases i with
  | zero=>
   rw[List.getElem?_cons_zero]at h;cases h;simp[rm]
  | succ i=>
   rw[List.getElem?_cons_succ]at h;have ne:¬u.1=t.1:=λe=>nd.1 (by rw[e];exact FK.mpr ⟨t,Fq h,rfl⟩);have:=ih nd.2 h;unfold rm at this ⊢;rw[List.find?_cons_of_neg (by simpa using ne)];exact this
def Km:Sp:=λvs H Q _=>∃(i:Int),vs=[.int i]/\1<=i/\i<=1000000/\Q .non H
def Gp(K:PySem.W.Frag)(C:Addr):Sp:=λvs H Q _=>∃(p:Addr) (ts:List Th) (z:Str),vs=[.ref p,.str z]/\Aq K C H p ts/\(ts.map (·.1)).Nodup/\z∈ts.map (·.1)/\∀(i:Nat) (t:Th),ts[i]?=some t->t.1=z->∀a,SqT K H a [.int i,.int t.2.1,.int t.2.2]->Q (.ref a) H
def K7(K:PySem.W.Frag)(C:Addr):Sp:=λvs H Q _=>∃(p:Addr) (ts:List Th) (z:Str),vs=[.ref p,.str z]/\Aq K C H p ts/\(ts.map (·.1)).Nodup/\z∈ts.map (·.1)/\Q (.int (rm ts z)) H
section
variable {K:PySem.W.Frag}{σ:L2.St}{H:Hp}{Q:VK}
theorem Tw{ty:TE}:J8v td ty σ H Q=td σ H λx H1=>∃a,x= .ref a/\IsD H1 a/\ty σ H1 λy H2=>∃o,D8 H2 a y o/\Q (o.getD .non) H2:=rfl
theorem Tx{tk:TE}:Jay [(tk,tv)] σ H Q=∀p,H p=none->tk σ (upd H p (.dK [])) λx H1=>tv σ H1 λy H2=>H2 p=some (.dK [])/\∃kvs:List (Key×V),[(x,y)]=kvs.map (λkv=>(kV kv.1,kv.2))/\kvs.length<=15/\Q (.ref p) (upd H2 p (.dK (J1f [] kvs))):=rfl
end
end N32
namespace K03
end K03
open L2 N1 N5 N31 N4 N32
namespace N41
def sm(f:Str->Int)(L:List Str):Int:=(L.map f).sum
theorem J3m(f:Str->Int):sm f []=0:=rfl
theorem J66(f:Str->Int)(x:Str)(L:List Str):sm f (x::L)=f x+sm f L:=by unfold sm;rw[List.map_cons,List.sum_cons]
def Lx(K:PySem.W.Frag)(C:Addr):Sp:=λvs H Q _=>∃(p a:Addr) (pl:Int) (ts:List Th) (ys:List Str),vs=[.ref p,.ref a,.int pl]/\Aq K C H p ts/\(ts.map (·.1)).Nodup/\SqL K H a (ys.map V.str)/\ys.length<=200/\(∀y∈ys,y∈ts.map (·.1))/\(∀y∈ys,rm ts y<=pl)/\1<=pl/\pl<=1000000/\∀H',Aa H H'->Q (.bl true) H'
end N41
namespace L2
open PySem.W
def Jbr(K:PySem.W.Frag):List V->Hp->VK->Prop:=λxs H Q=>∃(p:Addr) (is:List Int),xs=[.ref p]/\SqL K H p (is.map V.int)/\is≠[]/\∀v∈is,(∀x∈is,x<=v)->Q (.int v) H
theorem Qn(val:Nat->Int):∀k,argBest (λi j=>decide (val i < val j)) k<=k/\∀j,j<=k->val (argBest (λi j=>decide (val i < val j)) k)<=val j:=by
 intro k
 induction k with
 | zero=>exact⟨Fg _,λj hj=>by rw[RT.mp hj];exact R8 _⟩
 | succ k ih=>
  unfold argBest;split
  . rename_i h
    have h:=RH h;refine⟨Fg _,λj hj=>?_⟩
    by_cases e:j=k+1
    . rw[e];exact R8 _
    . have:=ih.2 j (by omega);omega
  . rename_i h
    have h:¬(val (k+1) < _):=λz=>h (Fj z);refine⟨Nat.le_succ_of_le ih.1,λj hj=>?_⟩
    by_cases e:j=k+1
    . rw[e];omega
    . exact ih.2 j (by omega)
section
variable {K:PySem.W.Frag}{H:Hp}{Q:VK}{xs:List V}
theorem Xv:Jbr K xs H Q=∃(p:Addr) (is:List Int),xs=[.ref p]/\SqL K H p (is.map V.int)/\is≠[]/\∀v∈is,(∀x∈is,x<=v)->Q (.int v) H:=rfl
end
theorem Xw{H:Hp}{i:Nat}{ti:TIp}:Jcc i te ti D σ H=∃x,σ[i]?=some (some x)/\te σ H λy H1=>ti x y H1 λz H2=>D.nx (σ.set i (some z)) H2:=rfl
end L2
namespace N41
open L2 N1 N5 N31 N4 N32
theorem J3n{ys:List Str}{k:Nat}(h:k < ys.length):ys[k]?=some (ys.getD k Str.empty):=by rw[Fd,Fb h];rfl
end N41
namespace L2
def Cq(K:PySem.W.Frag):Nat->Hp->V->V->Prop
 | 0,_,x,y=>x=y/\Ca x=true
 | n+1,H,x,y=>Cq K n H x y\/∃a b xs ys,x= .ref a/\y= .ref b/\((SqL K H a xs/\SqL K H b ys)\/(SqT K H a xs/\SqT K H b ys))/\xs.length=ys.length/\∀(i:Nat) (x' y':V),xs[i]?=some x'->ys[i]?=some y'->Cq K n H x' y'
def O6(K:PySem.W.Frag)(n:Nat)(H:Hp)(x y:V):Prop:=∃a b xs ys,x= .ref a/\y= .ref b/\((SqL K H a xs/\SqL K H b ys)\/(SqT K H a xs/\SqT K H b ys))/\xs.length=ys.length/\∀(i:Nat) (x' y':V),xs[i]?=some x'->ys[i]?=some y'->Cq K n H x' y'
theorem Cq.up{K:PySem.W.Frag}{H:Hp}{n:Nat}{x y:V}(h:Cq K n H x y):Cq K (n+1) H x y:=by unfold Cq;exact .inl h
theorem Cq.of{K:PySem.W.Frag}{H:Hp}{n:Nat}{x y:V}(h:O6 K n H x y):Cq K (n+1) H x y:=by unfold Cq;exact .inr h
theorem Cq.flat{K:PySem.W.Frag}{H:Hp}{x:V}(h:Ca x=true):∀{n:Nat},Cq K n H x x:=by
 intro n
 induction n with
 | zero=>unfold Cq;exact⟨rfl,h⟩
 | succ n ih=>exact ih.up
section
variable {X:Cx}{pins:List (Addr×Obj)}{σ:St}{H:Hp}{s:Shared}
theorem Tz{ys:List V}{ws:List Value}{P:V->V->Prop}{R:Value->Value->Prop}(rx:Ay xs us)(ry:Ay ys ws)(hl:xs.length=ys.length)(h:∀(i:Nat) (x y:V),xs[i]?=some x->ys[i]?=some y->P x y)(k:∀x y u w,Au x u->Au y w->P x y->R u w):
 ∀j (h1:j < us.toArray.size) (h2:j < ws.toArray.size),R us.toArray[j] ws.toArray[j]:=by
 intro j h1 h2;have lx:=rx.length;have ly:=ry.length;rw[Fi]at h1 h2
 have hx:j < xs.length:=by omega
 have hy:j < ys.length:=by omega
 obtain⟨u,hu,ru⟩:=rx.get (i:=j) (x:=xs[j]) (by simp[hx]);obtain⟨w,hw,rw'⟩:=ry.get (i:=j) (x:=ys[j]) (by simp[hy])
 have eu:us.toArray[j]=u:=by
  have:=Fb h1;rw[this]at hu
  simpa using hu
 have ew:ws.toArray[j]=w:=by
  have:=Fb h2;rw[this]at hw
  simpa using hw
 rw[eu,ew];exact k _ _ _ _ ru rw' (h j _ _ (Fb hx) (Fb hy))
theorem U0{n:Nat}:((List.range n).all λ_=>true)=true:=by rw[FY];intros;rfl
theorem U1{n:Nat}{x y:V}{w:Value}{A:Around}(I:Inv X pins σ H s)(rx:Au x u)(ry:Au y w)(h:O6 X.K n H x y)(hu:A.units < cLine)
 (k:∀x y u w,Au x u->Au y w->Cq X.K n H x y->SeqAt.EqAt A.in1 s u w true):SeqAt.RcAt A s u w true/\SeqAt.RcNeAt A s u w false:=by
 obtain⟨a,b,xs,ys,rfl,rfl,hq,hl,hall⟩:=h;cases rx;cases ry;rcases hq with ⟨h1,h2⟩ | ⟨h1,h2⟩
 . obtain⟨us,r1,p1,z1⟩:=I.list h1
   obtain⟨ws,r2,p2,z2⟩:=I.list h2;have lx:=r1.length;have ly:=r2.length;have he:=Tz r1 r2 hl hall k;have c1:=SeqAt.RcAt.lists (e:=λ_=>true) p1.isList p2.isList (by simp;omega) hu he;have c2:=SeqAt.RcNeAt.lists (e:=λ_=>true) p1.isList p2.isList (by simp;omega) hu he;rw[U0]at c1 c2;exact⟨c1,c2⟩
 . obtain⟨us,r1,p1,z1⟩:=I.tuple h1
   obtain⟨ws,r2,p2,z2⟩:=I.tuple h2;have lx:=r1.length;have ly:=r2.length;have he:=Tz r1 r2 hl hall k
   have hsz:us.toArray.size=ws.toArray.size:=by simp;omega
   have c1:=SeqAt.RcAt.tuples (e:=λ_=>true) (show s.heap.IsTuple a us.toArray from p1) (show s.heap.IsTuple b ws.toArray from p2) hu he;have c2:=SeqAt.RcNeAt.tuples (e:=λ_=>true) (show s.heap.IsTuple a us.toArray from p1) (show s.heap.IsTuple b ws.toArray from p2) hu he;rw[U0,hsz,R1,Bool.and_true]at c1 c2;exact⟨c1,c2⟩
theorem J3o(I:Inv X pins σ H s):∀(n:Nat) (x y:V) (u w:Value) (A:Around),Au x u->Au y w->Cq X.K n H x y->A.units+n < cLine->SeqAt.EqAt A s u w true:=by
 intro n
 induction n with
 | zero=>
  intro x y u w A rx ry h hu;unfold Cq at h;obtain⟨rfl,f⟩:=h;have:=V1 (A:=A) (s:=s) rx ry f f;rw[show eqV x x=true from J3j f]at this;exact this
 | succ n ih=>
  intro x y u w A rx ry h hu;unfold Cq at h;rcases h with h | h
  . exact ih x y u w A rx ry h (by omega)
  . have c:=U1 I rx ry h (by omega) (λx y u w r1 r2 k=>ih x y u w A.in1 r1 r2 k (by show A.units+1+n < cLine;omega))
    obtain⟨a,b,xs,ys,rfl,rfl,_⟩:=h;cases rx;cases ry
    by_cases e:a=b
    . subst e;exact SeqAt.EqAt.same _
    . exact SeqAt.EqAt.of_refs e c.1
def Jbs(K:PySem.W.Frag)(n:Nat):R2:=λx y H Q=>O6 K n H x y/\Q (.bl true) H
def Jcm(K:PySem.W.Frag)(n:Nat):R2:=λx y H Q=>O6 K n H x y/\Q (.bl false) H
theorem J9o{k:Nat}(n:Nat)(hr:Bt k X.A)(hn:n<=100:=by decide):OpR X (compareOp .Eq) (Jbs X.K n):=by
 intro pins s σ H x y v u Q I rx ry h;have hu:X.A.units < cLine:=Hk (by omega) hr.un;exact(U1 I rx ry h.1 hu (λx y u w r1 r2 k=>J3o I n x y u w X.A.in1 r1 r2 k (by have:=hr.un;show X.A.units+1+n < cLine;omega))).1 X.prog X.w X.xe _ ⟨.bl true,H,I,rfl,h.2⟩
theorem J3p{K:PySem.W.Frag}{H:Hp}{x y:V}{n:Nat}:Jbs K n x y H Q=(O6 K n H x y/\Q (.bl true) H):=rfl
theorem J3q{K:PySem.W.Frag}{H:Hp}{x y:V}{n:Nat}:Jcm K n x y H Q=(O6 K n H x y/\Q (.bl false) H):=rfl
end
open PySem.W
def Jbt:List V->Hp->VK->Prop:=λxs H Q=>∃(v d:Addr) (kvs:List (Key×V)) (is:List Int),xs=[.ref v]/\H v=some (O0 v d)/\H d=some (.dK kvs)/\kvs.map (·.2)=is.map V.int/\is≠[]/\∀m∈is,(∀x∈is,x<=m)->Q (.int m) H
section
variable {X:Cx}
theorem Xx{H:Hp}:Jbt xs H Q=∃(v d:Addr) (kvs:List (Key×V)) (is:List Int),xs=[.ref v]/\H v=some (O0 v d)/\H d=some (.dK kvs)/\kvs.map (·.2)=is.map V.int/\is≠[]/\∀m∈is,(∀x∈is,x<=m)->Q (.int m) H:=rfl
end
end L2
namespace N14
open L2 N1 N5 N4 N6 N12 N32
abbrev Row:=Str×Bool×List Str
structure Lz(K:PySem.W.Frag)(H:Hp)(b:Addr)(as gs:List Addr)(rs:List Row):Prop where
 l:SqL K H b (as.map V.ref)
 n:as.length=rs.length
 m:gs.length=rs.length
 t:∀(i:Nat) (a g:Addr) (r:Row),as[i]?=some a->gs[i]?=some g->rs[i]?=some r->SqT K H a [.str r.1,.bl r.2.1,.ref g]/\SqL K H g (r.2.2.map V.str)
theorem Lz.same{K:PySem.W.Frag}{H:Hp}{b:Addr}{gs:List Addr}{rs:List Row}(s:Aa H H')(h:Lz K H b as gs rs):Lz K H' b as gs rs:=
 ⟨s.seq h.l,h.n,h.m,λi a g r e1 e2 e3=>⟨s.tup (h.t i a g r e1 e2 e3).1,s.seq (h.t i a g r e1 e2 e3).2⟩⟩
theorem Jbu{z:Str}{r:Int}(nd:(ts.map (·.1)).Nodup)(hz:z∈ts.map (·.1))(h:∀t∈ts,t.1=z->t.2.2=r):rm ts z=r:=by
 obtain⟨i,t,ht,rfl⟩:=Xq hz;rw[Tv nd ht,h t (Fq ht) rfl]
theorem J67{z u:Str}:u∈lyN (lyD ls z)↔u∈lyN ls/\u≠z:=by
 unfold lyN lyD;simp only[FK,Rb,decide_eq_true_eq];constructor
 . rintro⟨x,⟨h1,h2⟩,rfl⟩;exact⟨⟨x,h1,rfl⟩,h2⟩
 . rintro⟨⟨x,h1,rfl⟩,h2⟩;exact⟨x,⟨h1,h2⟩,rfl⟩
theorem J3r{H:Hp}{x:Addr}{o1 o2:HO}(h1:H x=none)(h2:H dx=none)(sb:SameBut x (upd (upd H dx o1) x o2) H'):Aa H H':=λb o e=>by
 have n1:b≠x:=λh=>by rw[h,h1]at e;cases e
 have n2:b≠dx:=λh=>by rw[h,h2]at e;cases e
 exact sb _ _ (by rw[A5 n1,A5 n2];exact e) n1
theorem C4{H:Hp}{x d:Addr}{o1 o2:HO}(h:upd (upd H dx o1) x o2 d=none):H d=none:=by
 by_cases e1:d=x
 . rw[e1,A1]at h;cases h
 rw[A5 e1]at h
 by_cases e2:d=dx
 . rw[e2,A1]at h;cases h
 rw[A5 e2]at h;exact h
theorem B4{H:Hp}{d:Addr}(s:Aa H H')(h:H' d=none):H d=none:=by
 cases e:H d with
 | none=>rfl
 | some o=>rw[s _ _ e]at h;cases h
theorem U2{H:Hp}{d:Addr}(s:Aa H H')(hd:H d=none)(sb:SameBut d H' H1):Aa H H1:=λb o e=>sb _ _ (s _ _ e) λh=>by rw[h,hd]at e;cases e
structure OkL(R:Str->Int)(ns:List Str)(ls:Ly):Prop where
 nd:(lyN ls).Nodup
 r:∀x∈ls,x.2=R x.1
 s:∀u∈lyN ls,u∈ns
theorem OkL.nil{R:Str->Int}{ns:List Str}:OkL R ns []:=⟨HY,by simp,by simp[lyN]⟩
theorem OkL.drop{R:Str->Int}{ns:List Str}{z:Str}(h:OkL R ns ls):OkL R ns (lyD ls z):=
 ⟨by rw[Lw h.nd];exact h.nd.erase _,λx hx=>h.r x (Rb.mp hx).1,λu hu=>h.s u (J67.mp hu).1⟩
theorem OkL.put{R:Str->Int}{ns:List Str}{z:Str}(h:OkL R ns ls)(hz:z∉lyN ls)(hn:z∈ns):OkL R ns (ls++[(z,R z)]):=by
 have e:lyN (ls++[(z,R z)])=lyN ls++[z]:=by unfold lyN;rw[Fz];rfl
 refine⟨?_,?_,?_⟩
 . rw[e,Hf]
   refine⟨h.nd,by simp,λy hy u hu=>?_⟩;rw[Fo]at hu;rw[hu];exact λe=>hz (e▸hy)
 . intro x hx
   rcases FB.mp hx with h1 | h1
   . exact h.r x h1
   . rw[Fo.mp h1]
 . intro u hu
   rw[e]at hu;rcases FB.mp hu with h1 | h1
   . exact h.s u h1
   . rw[Fo.mp h1];exact hn
def Kp(M:List Addr)(H H':Hp):Prop:=∀b o,b∉M->H b=some o->H' b=some o
theorem Kp.trans{H:Hp}(h1:Kp M H H1)(h2:Kp M H1 H2):Kp M H H2:=λb o n e=>h2 b o n (h1 b o n e)
theorem Kp.of{H:Hp}(h:Aa H H1):Kp M H H1:=λb o _ e=>h b o e
theorem Kp.upd{H:Hp}{p:Addr}{o:HO}(h:Kp M H H1)(hp:p∈M):Kp M H (upd H1 p o):=λb u n e=>by
 have hb:b≠p:=λe2=>n (by rw[e2];exact hp);rw[A5 hb];exact h b u n e
theorem Kp.same{H0 H:Hp}(s:Aa H0 H)(h:Kp M H H1)(hn:∀p∈M,H0 p=none):Aa H0 H1:=λb o e=>h b o (λhb=>by rw[hn b hb]at e;cases e) (s b o e)
theorem Qo{xs:List α}{y z:α}{i:Nat}(h:(xs++[y])[i]?=some z):(i < xs.length/\xs[i]?=some z)\/(i=xs.length/\z=y):=by
 rcases Nat.lt_or_ge i xs.length with h1 | h1
 . rw[FQ h1]at h;exact .inl ⟨h1,h⟩
 . rw[FJ h1]at h
   rcases Nat.eq_zero_or_pos (i - xs.length) with e | e
   . rw[e]at h;cases h;exact .inr ⟨by omega,rfl⟩
   . rw[HD (by simp;omega)]at h;cases h
theorem J04{K:PySem.W.Frag}{H:Hp}{g g2:Addr}{xs:List Str}(h1:SqL K H g (xs.map V.str))(h2:SqL K H g2 (xs.map V.str)):Cq K 1 H (.ref g) (.ref g2):=by
 refine Cq.of ⟨g,g2,_,_,rfl,rfl,.inl ⟨h1,h2⟩,rfl,λi x y e1 e2=>?_⟩;rw[e1]at e2;cases e2;rw[Ff]at e1
 cases e:xs[i]? with
 | none=>rw[e]at e1;cases e1
 | some s=>rw[e]at e1;cases e1;exact Cq.flat rfl
theorem J05{K:PySem.W.Frag}{H:Hp}{b b2:Addr}{gs as2 gs2:List Addr}{rs:List Row}(h1:Lz K H b as gs rs)(h2:Lz K H b2 as2 gs2 rs):O6 K 2 H (.ref b) (.ref b2):=by
 refine⟨b,b2,_,_,rfl,rfl,.inl ⟨h1.l,h2.l⟩,by rw[Fa,Fa,h1.n,h2.n],λi x y e1 e2=>?_⟩;rw[Ff]at e1 e2
 cases ea:as[i]? with
 | none=>rw[ea]at e1;cases e1
 | some p=>
 rw[ea]at e1;cases e1
 cases eb:as2[i]? with
 | none=>rw[eb]at e2;cases e2
 | some p2=>
 rw[eb]at e2;cases e2;have hi:i < as.length:=(Fh.mp ea).1
 have hr:i < rs.length:=by rw[<- h1.n];exact hi
 have er:=Fb hr;have eg:=Fb (show i < gs.length by rw[h1.m];exact hr);have eg2:=Fb (show i < gs2.length by rw[h2.m];exact hr);obtain⟨t1,l1⟩:=h1.t i _ _ _ ea eg er;obtain⟨t2,l2⟩:=h2.t i _ _ _ eb eg2 er;refine Cq.of ⟨p,p2,_,_,rfl,rfl,.inr ⟨t1,t2⟩,rfl,λj x y e1 e2=>?_⟩
 match j with
 | 0=>cases e1;cases e2;exact Cq.flat rfl
 | 1=>cases e1;cases e2;exact Cq.flat rfl
 | 2=>cases e1;cases e2;exact J04 l1 l2
 | j+3=>simp at e1
end N14
namespace L2
structure Ol(P:Program)(w:World)(K:PySem.W.Frag)(mg:Str->Option Value)(base:Heap)(CX:CXT)(k:Nat)(x:Str)(C:Addr)(ps:List Str)(sp:Sp):Prop where
 ex:∃(f:Addr) (fd:FuncData),Ai P w K mg base CX k f fd ps sp/\Mk K C f/\mg x=some (.ref C)/\Bl K fd ps []/\PySem.W.findCls K (.ref C) (.type "type") "__init__"=some (.val (.ref f))/\PySem.W.keepIn K (.ref f)=true
 sp:PySem.W.specialIn K (.ref C) "__getattribute__"=some (some (.builtin "type.__getattribute__"))
 rd:PySem.W.readsIn K C (.type "type")=true
theorem Ol.toI{w:World}{K:PySem.W.Frag}{mg:Str->Option Value}{base:Heap}{k:Nat}{x:Str}{C:Addr}{sp:Sp}(D:Ol P w K mg base CX k x C ps sp):Kj P w K mg base CX k x C ps sp:=
 let ⟨f,fd,a,b,c,d,_⟩:=D.ex;⟨f,fd,a,b,c,d⟩
def J3s(sp:Sp)(EE:St->XK)(t:TA):TE:=λσ H Q=>t σ H λvs H1=>sp vs H1 Q (EE σ)
section
variable {X:Cx}{CX:CXT}{k j:Nat}{C:Addr}{ps:List Str}{sp:Sp}{EE:St->XK}{x:Str}{pos apos:Pos}{e o:Expr}{es:List Expr}{t:TA}
theorem Bx{pl:Sem Bool}(D:Ol X.prog X.w X.K X.mg X.base CX j x C ps sp)(hr:Bt k X.A)(hx:Ci CX X EE)(he:PE X o (tC (.ref C)))(ha:PA X (e::es) t)(hj:j<=k:=by decide)
 (hst:starEach (e::es) X.env=(false,eval e X.env)::starEach es X.env:=by rfl) (hpl:(backTo pos (starEach es X.env)).any (·.1)=false:=by rfl)
 (ht:eval (.Call (.Attribute o "__init__" apos) (e::es) [] pos) X.env=(do
  let ov <- eval o X.env
  standAt apos.atName
  let (f,first) <- holding [ov] (getMethod ov "__init__" pl)
  callWith pos f first (backTo pos (starEach (e::es) X.env)) (backToKw pos (keywordEach [] X.env))):=by rfl):
 PE X (.Call (.Attribute o "__init__" apos) (e::es) [] pos) (J3s sp EE t):=by
 obtain⟨f,fd,F,M,hm,hb,hc,hk⟩:=D.ex;intro pins s σ H Q I h;refine HZ (pl:=pl) (thn (he pins s σ H (λv H1=>v= .ref C/\t σ H1 λvs H2=>sp vs H2 Q (EE σ)) I ⟨rfl,h⟩) λu s1 hq_=>?_) ht;obtain⟨x,H1,I1,rx,q⟩:=hq_;obtain⟨rfl,q⟩:=q;obtain rfl:u=Value.ref C:=rx;refine PySem.W.method_cls I1.kIn D.sp (PySem.W.cls_value I1.kIn D.rd hc rfl ?_);have I2:=I1.tok (s1.toks+1);exact FW (first:=[]) (h₀:=X.base) I.ok.mod.kin hk (thn (ha pos pins _ σ H1 _ I2 q) λus s2 ⟨vs,H2,I3,r,q2⟩=>⟨I3.kIn,Mn (us:=us) (vs:=vs) (F.mono hj) hr hb hx I3 r q2⟩) hst hpl
theorem U3{H:Hp}:J3s sp EE t σ H Q=t σ H λvs H1=>sp vs H1 Q (EE σ):=rfl
end
def ipM:TIp:=λx y H Q=>∃i j,x= .int i/\y= .int j/\Us i j/\Q (.int (i * j)) H
theorem J3t{x y:V}{H:Hp}:ipM x y H Q=∃i j,x= .int i/\y= .int j/\Us i j/\Q (.int (i * j)) H:=rfl
end L2
namespace N20
open L2 N1 N5 N4 N6 N12 N32 N14
theorem Pm:∀(l:List Nat),Str.join (Str.ofString "") (l.map λc=>(⟨#[c]⟩:Str))=tx l
 | []=>J5z
 | [c]=>rfl
 | c::d::r=>by
  have ih:=Pm (d::r);show (⟨#[c]⟩:Str)++Str.ofString ""++Str.join (Str.ofString "") ((d::r).map λc=>(⟨#[c]⟩:Str))=tx (c::d::r);rw[ih,Xl,Jbo,O1,O1];rfl
theorem J06(l:List Nat):Txt.join (Str.ofString "") (l.map λc=>(⟨#[c]⟩:Str))=tx l:=by
 rw[<- Pm];exact StrLaws.glued_eq_join _ _
theorem Vi{l:List Nat}{n:Int}(h0:0<=n)(h1:n<=l.length):Txt.slice (tx l) (some n) none=tx (l.drop n.toNat):=by
 rw[PyProof.Rows.slice_from_eq (b:=((tx l).length:Int)) h0 (by rw[Ii];exact h1) rfl];show tx _=tx _;rw[Gj,Ii,Rp (by rw[Hc];omega)]
def nm3(B:List Nat)(at':Nat)(e:Int)(k:Nat):List Nat:=B.take at'++[bc ((e+k) % 26)]++B.drop (at'+1)++List.replicate (k / 26) 122
theorem Qp{B:List Nat}{e:Int}{k:Nat}(h:at' < B.length):(nm3 B at' e k).length=B.length+k / 26:=by
 unfold nm3;simp only[Fn,FF,Hc,List.length_cons,List.length_nil,Hl];omega
theorem J3u{B:List Nat}{e:Int}{k:Nat}(h:at' < B.length):(nm3 B at' e k)[at']?=some (bc ((e+k) % 26)):=by
 unfold nm3;rw[Hg,Hg,FJ (by rw[FF];omega)];rw[FF,show at' - min at' B.length=0 by omega];rfl
theorem J68{B:List Nat}{e:Int}{k k':Nat}(h:at' < B.length)(he:nm3 B at' e k=nm3 B at' e k'):k=k':=by
 have e1:=congrArg List.length he;rw[Qp h,Qp h]at e1;have e2:=J3u (e:=e) (k:=k) h;rw[he,J3u h]at e2;have e3:=J39 (by omega) (by omega) (by omega) (by omega) (FG e2);omega
theorem J3v{B:List Nat}{e:Int}{k:Nat}(h:at' < B.length)(h6:B.length<=6)(hk:k < 78)(hB:∀c∈B,c∈B7++Bz)(hh:∃c r,B=c::r/\c∈B7):C8 (nm3 B at' e k)=true:=by
 have hall:∀x∈nm3 B at' e k,x∈B7++Bz:=by
  intro x hx;unfold nm3 at hx;rcases FB.mp hx with hx | hx
  . rcases FB.mp hx with hx | hx
    . rcases FB.mp hx with hx | hx
      . exact hB x (R6 hx)
      . rw[Fo.mp hx];exact FX _ Lv
    . exact hB x (List.mem_of_mem_drop hx)
  . rw[List.eq_of_mem_replicate hx];decide
 have hl:=Qp (e:=e) (k:=k) h
 have hl1:1<=(nm3 B at' e k).length:=by omega
 have hl8:(nm3 B at' e k).length<=8:=by omega
 have hhd:Ve (nm3 B at' e k) B7=true:=by
  obtain⟨c,r,rfl,hc⟩:=hh
  cases at' with
  | zero=>exact Fj Lv
  | succ n=>exact Fj hc
 unfold C8;rw[Fj hl1,Fj hl8,hhd];simp only[Bool.true_and];exact FY.mpr λx hx=>Fj (hall x hx)
def Ei:Sp:=λvs H Q _=>∃(c:Int) (m:Nat),vs=[.int c,.int m]/\m<=1000/\∀(p:Addr) (xs:List Int) (H':Hp),H p=none->Aa H H'->H' p=some (.lst (xs.map V.int))->xs.length=m->(∀x∈xs,0<=x)->Q (.ref p) H'
open L2 N1 N5 N4 N6 N12 N32 N14
def th0:Th:=(Str.empty,0,0)
theorem J3w{ts:List Th}{i:Nat}(h:i < ts.length):ts[i]?=some (ts.getD i th0):=by
 rw[Fd,Fb h];rfl
theorem J69{K:PySem.W.Frag}{H:Hp}{D:Addr}{yl:List V}{ts:List Th}(hD:H D=some (.lst yl))(hl:yl.length=ts.length)(hm:ts.length<=60)(nd:(ts.map (·.1)).Nodup)(hn:∀t∈ts,C8 t.1.cps.toList=true/\0<=t.2.1/\t.2.1<=10 ^ 30/\1<=t.2.2/\t.2.2<=1000)
 (hall:∀i y,yl[i]?=some y->∃t,y=V.ref t/\SqT K H t [.str (ts.getD i th0).1,.int (ts.getD i th0).2.1,.int (ts.getD i th0).2.2]):∃as,yl=as.map V.ref/\Il K H D as ts:=by
 have e:yl=(yl.map aOf).map V.ref:=by
  rw[FA];refine(List.map_id yl).symm.trans (HL λy hy=>?_);obtain⟨i,hi⟩:=FL.mp hy;obtain⟨t,rfl,_⟩:=hall i y hi;rfl
 refine⟨yl.map aOf,e,⟨by rw[<- e];exact SqL.of hD,by rw[Fa,hl],hm,λi a t h1 h2=>?_,hn,nd⟩⟩;rw[Ff]at h1;have hi:i < ts.length:=(Fh.mp h2).1;rw[J3w hi]at h2;cases h2
 cases hy':yl[i]? with
 | none=>rw[hy']at h1;cases h1
 | some y=>
  rw[hy']at h1;obtain⟨t,rfl,hs⟩:=hall i y hy';cases h1;exact hs
theorem J3x(a b:List Int):a.map V.int++b.map V.int=(a++b).map V.int:=(Fz ..).symm
theorem J3y(ns:List Int):∃cs:List Int,Nk (ns.map V.int) (some 8) (some 68)=cs.map V.int/\cs.length<=ns.length - 8:=by
 unfold Nk;rw[<- List.map_drop,<- List.map_take];refine⟨_,rfl,?_⟩;rw[FF,Hc,Fa];have e:HT.sIx ns.length 0 (some 8)=min 8 ns.length:=HT.Vv _ _ 8;rw[e];omega
theorem J3z{k:Nat}(h:k < 78):Txt.slice (Str.ofString "zz") none (some ((k:Int) / 26))=tx (List.replicate (k / 26) 122):=by
 have e:Str.ofString "zz"=tx [122,122]:=by decide+kernel
 rw[e,L6 (by omega) (by simp only[List.length_cons,List.length_nil];omega),show ((k:Int) / 26).toNat=k / 26 by omega]
 have hq:k / 26=0\/k / 26=1\/k / 26=2:=by omega
 rcases hq with e | e | e <;> rw[e] <;> rfl
theorem J40{xs:List Int}{i:Nat}(h:i < xs.length):xs[i]?=some (xs.getD i 0):=by
 rw[Fd,Fb h];rfl
end N20
namespace N71
open L2 N1 N5 N4 N6 N12
structure TwA where
 st:Addr
 si:Addr
 ro:Addr
 he:Addr
 la:Addr
 so:Addr
 en:Addr
 fi:Addr
structure TwS where
 zs:List Int
 R:List Str
 kh:List (Key×V)
 kl:List (Key×V)
 ks:List (Key×V)
 es:List V
 ff:List Int
 pd:Int
def own(t:Addr)(x:TwA):List Addr:=[t,x.ro,x.he,x.la,x.so,x.en,x.fi]
end N71
namespace L2
section
variable {K:PySem.W.Frag}{σ:St}{H:Hp}{D:Dh}{Q:VK}
theorem Pn{ta:TE}{rd:V->V->Hp->VK->Prop}{f:Str}:Vu K ta tv rd f D σ H=ta σ H λx H1=>∃a C dx fs v,x= .ref a/\H1 a=some (.ins C dx fs)/\Cls K C/\An K C f/\fs.lookup f=some v/\
 tv σ H1 λy H2=>rd v y H2 λz H3=>∃dx' fs',H3 a=some (.ins C dx' fs')/\fs'.length < 1000/\D.nx σ (upd H3 a (.ins C dx' (Ac f z fs'))):=rfl
end
end L2
namespace N53
open L2 N1 N5
def Ec(K:PySem.W.Frag)(H:Hp)(v:V):Prop:=∃b c,Isi K H v "int" b/\(b=true->Isi K H v "bool" c)/\((b && !c)=true->∃i,v= .int i)/\((b && !c)=false->∀i,v≠ .int i)
theorem Ec.flat{K:PySem.W.Frag}{H:Hp}{v:V}(h:Ca v=true):Ec K H v:=J60 h
theorem Ec.lst{K:PySem.W.Frag}{H:Hp}{a:Addr}{xs:List V}(h:H a=some (.lst xs)):Ec K H (.ref a):=⟨false,false,Se h,λh=>by (cases h),λh=>by (cases h),λ_ i h=>by cases h⟩
theorem Ec.tup{K:PySem.W.Frag}{H:Hp}{a:Addr}{xs:List V}(h:H a=some (.tup xs)):Ec K H (.ref a):=⟨false,false,Sf h,λh=>by (cases h),λh=>by (cases h),λ_ i h=>by cases h⟩
theorem J6a{lo hi:Int}{v:V}(h:wIn lo hi v=true):∃i:Int,v= .int i/\lo<=i/\i<=hi:=by
 cases v with
 | int i=>
  simp only[wIn,Hs,decide_eq_true_eq]at h;exact⟨i,rfl,h.1,h.2⟩
 | _=>cases h
theorem Qq{lo hi i:Int}(h1:lo<=i)(h2:i<=hi):wIn lo hi (.int i)=true:=by
 simp only[wIn,Hs,decide_eq_true_eq];exact⟨h1,h2⟩
def Dt(K:PySem.W.Frag):Sp:=λvs H Q _=>∃(v:V) (lo hi:Int),vs=[v,.int lo,.int hi]/\Ec K H v/\Q (.bl (wIn lo hi v)) H
open L2 N1 N5
theorem J41{ks:List Str}{z:Str}{v:V}(h:kvs.map (·.1)=ks.map Sum.inr):(Cj kvs (Sum.inr z) v).map (·.1)=(if z∈ks then ks else ks++[z]).map Sum.inr:=by
 have hm:=L1 (z:=z) h
 by_cases hz:z∈ks
 . rw[if_pos hz,<- h]
   unfold Cj;rw[D1,hm,Fj hz,if_pos rfl,FA];refine HL λe _=>?_;show (if e.1=Sum.inr z then (e.1,v) else e).1=e.1
   split <;> rfl
 . rw[if_neg hz,Kt v (by rw[Fs hz]at hm;simpa using hm),Fz,Fz,h]
   rfl
end N53
namespace L2
def rOr(r1 r2:R2):R2:=λx y H Q=>r1 x y H Q\/r2 x y H Q
theorem J42{r1 r2:R2}{x y:V}{H:Hp}:rOr r1 r2 x y H Q=(r1 x y H Q\/r2 x y H Q):=rfl
end L2
namespace N18
open L2 N1 N5 N4 N6 N12 N32 N14
end N18
namespace N25
open L2 N1 N5 N4 N6 N12 N32 N14 N20
def hfl(p od md:Addr)(n:Int):List (Str×V):=Ac "marked" (.ref md) (Ac "order" (.ref od) (Ac "places" (.int n) (Ac "stock" (.ref p) [])))
theorem J07{p od md:Addr}{n:Int}:(hfl p od md n).lookup ("stock":Str)=some (V.ref p):=by
 unfold hfl;rw[Ao,if_neg (by decide),Ao,if_neg (by decide),Ao,if_neg (by decide),Ao,if_pos rfl]
theorem Vj{p od md:Addr}{n:Int}:(hfl p od md n).lookup ("places":Str)=some (V.int n):=by
 unfold hfl;rw[Ao,if_neg (by decide),Ao,if_neg (by decide),Ao,if_pos rfl]
theorem Dk{p od md:Addr}{n:Int}:(hfl p od md n).lookup ("order":Str)=some (V.ref od):=by
 unfold hfl;rw[Ao,if_neg (by decide),Ao,if_pos rfl]
theorem Gq{p od md:Addr}{n:Int}:(hfl p od md n).lookup ("marked":Str)=some (V.ref md):=by
 unfold hfl;rw[Ao,if_pos rfl]
theorem J6b{y z:Str}(h:y≠z):(Sum.inr y:Key)≠Sum.inr z:=λe=>h (by injection e)
theorem Xy{R:Str->Int}{ns:List Str}:∀{ls:Ly},(∀x∈ls,x.2=R x.1)->lyS ls=N41.sm R (lyN ls)
 | [],_=>rfl
 | x::r,h=>by
  have ih:=Xy (R:=R) (ns:=ns) (ls:=r) λy hy=>h y (Fk _ hy);have h1:=h x (FC ..);unfold lyS at ih ⊢;unfold lyN at ih ⊢;rw[List.map_cons,List.sum_cons,List.map_cons,N41.J66,ih,h1]
open L2 N1 N5 N4 N6 N12 N32 N14 N20
theorem Po{a:Addr}{H:Hp}(s:SameBut a H H')(h:a∈M):Kp M H H':=λb o n e=>s b o e (λe2=>n (e2▸h))
theorem Mw{H:Hp}{b:Addr}(k:Kp M H H')(hb:b∉M)(h:H' b=none):H b=none:=by
 cases e:H b with
 | none=>rfl
 | some o=>rw[k b o hb e]at h;cases h
theorem J43{H:Hp}{w:Addr}{o:HO}(k:Kp M H H')(hw:H w=none):Kp M H (upd H' w o):=λb u n e=>by
 rw[A5 (λh=>by rw[h,hw]at e;cases e)];exact k b u n e
theorem Qr{L M:List Str}(h:L.Nodup)(hs:∀z∈L,z∈M):L.length<=M.length:=by
 induction L generalizing M with
 | nil=>exact FP _
 | cons x r ih=>
  obtain⟨hx,hr⟩:=HB.mp h;have hm:=hs x (FC ..);have:=ih (M:=M.erase x) hr λz hz=>(List.mem_erase_of_ne (λe=>hx (by rw[<- e];exact hz))).mpr (hs z (Fk _ hz));rw[HQ hm]at this;have hp:0 < M.length:=Hv hm;rw[List.length_cons];omega
end N25
namespace NR
open L2 N1 N5 N4 N6 N12 N32 N14 N20 N18 N25
structure Ar where
 C:Addr
 St:Type
 At:Hp->List Addr->Addr->Addr->Int->St->Prop
 asked:Int->St->Str->St
 pick:Int->St->List Str->St×Str
 gone:Int->St->Str->St
 came:Int->St->Str->St
 inv:List Str->Int->St->List Str->Prop
 mid:List Str->Int->Str->St->List Str->Prop
 dep:∀{H H':Hp}{M:List Addr}{q p:Addr}{n:Int}{s:St},(∀m∈M,∀o,H m=some o->H' m=some o)->At H M q p n s->At H' M q p n s
 live:∀{H:Hp}{M:List Addr}{q p:Addr}{n:Int}{s:St},At H M q p n s->∀m∈M,H m≠none
 obj:∀{H:Hp}{M:List Addr}{q p:Addr}{n:Int}{s:St},At H M q p n s->∃dx fs,H q=some (.ins C dx fs)/\fs.lookup ("stock":Str)=some (.ref p)/\fs.lookup ("places":Str)=some (.int n)/\fs.lookup ("asked":Str)=none/\fs.lookup ("choice":Str)=none/\fs.lookup ("gone":Str)=none/\fs.lookup ("came":Str)=none/\fs.lookup ("nests":Str)=none
 i_hit:∀{ns:List Str}{n:Int}{s:St}{l:List Str}{z:Str},inv ns n s l->z∈ns->z∈l->inv ns n (asked n s z) l
 i_mid:∀{ns:List Str}{n:Int}{s:St}{l:List Str}{z:Str},inv ns n s l->z∈ns->z∉l->mid ns n z (asked n s z) l
 i_pick:∀{ns:List Str}{n:Int}{s:St}{l:List Str}{z:Str},mid ns n z s l->l≠[]->(pick n s l).2∈l/\mid ns n z (gone n (pick n s l).1 (pick n s l).2) (l.erase (pick n s l).2)
 i_came:∀{ns:List Str}{n:Int}{s:St}{l:List Str}{z:Str},mid ns n z s l->z∈ns->z∉l->inv ns n (came n s z) (l++[z])
 cnt:St->Nat:=λ_=>0
 c_ask:∀n s z,cnt (asked n s z)<=cnt s+1:=by exact λ_ _ _=>FP _
 c_pick:∀n s l,cnt (pick n s l).1<=cnt s:=by exact λ_ _ _=>FP _
 c_gone:∀n s z,cnt (gone n s z)<=cnt s:=by exact λ_ _ _=>FP _
 c_came:∀n s z,cnt (came n s z)<=cnt s:=by exact λ_ _ _=>FP _
def gfin(T:Ar)(R:Str->Int)(n need:Int):Nat->T.St->List Str->List Str->T.St×List Str×List Str
 | 0,s,l,w=>(s,l,w)
 | k+1,s,l,w=>if need<=n - N41.sm R l then (s,l,w) else gfin T R n need k (T.gone n (T.pick n s l).1 (T.pick n s l).2) (l.erase (T.pick n s l).2) (w++[(T.pick n s l).2])
def gf(T:Ar)(R:Str->Int)(n need:Int)(s:T.St)(l w:List Str):T.St×List Str×List Str:=gfin T R n need l.length s l w
section
variable {T:Ar}{R:Str->Int}{n need:Int}{s:T.St}{l w ns:List Str}{z:Str}
theorem Vk(h:need<=n - N41.sm R l):gf T R n need s l w=(s,l,w):=by
 unfold gf
 cases hk:l.length with
 | zero=>rfl
 | succ k=>
  show (if _ then _ else _)=_;rw[if_pos h]
theorem J85(h:¬need<=n - N41.sm R l)(hp:(T.pick n s l).2∈l):gf T R n need s l w=gf T R n need (T.gone n (T.pick n s l).1 (T.pick n s l).2) (l.erase (T.pick n s l).2) (w++[(T.pick n s l).2]):=by
 unfold gf;have hl:=HQ hp;have h0:0 < l.length:=Hv hp;rw[show l.length=(l.erase (T.pick n s l).2).length+1 by omega];show (if _ then _ else _)=_;rw[if_neg h]
theorem J44:∀(k:Nat) (s:T.St) (l w:List Str),l.length=k->T.mid ns n z s l->need<=n->T.mid ns n z (gf T R n need s l w).1 (gf T R n need s l w).2.1/\need<=n - N41.sm R (gf T R n need s l w).2.1/\(∀u∈(gf T R n need s l w).2.1,u∈l)/\(l.Nodup->(gf T R n need s l w).2.1.Nodup)/\(gf T R n need s l w).2.1.length<=l.length:=by
 intro k
 induction k with
 | zero=>
  intro s l w hk hm hn;have hL:l=[]:=Rj.mp hk;subst hL
  have he:need<=n - N41.sm R []:=by rw[N41.J3m];omega
  rw[Vk he];exact⟨hm,he,λz hz=>hz,id,Fg _⟩
 | succ k ih=>
  intro s l w hk hm hn
  by_cases he:need<=n - N41.sm R l
  . rw[Vk he]
    exact⟨hm,he,λz hz=>hz,id,Fg _⟩
  . have hne:l≠[]:=λe=>by rw[e]at hk;cases hk
    obtain⟨hp,hm2⟩:=T.i_pick hm hne;rw[J85 he hp];have hl:=HQ hp;obtain⟨a,b,c,d,e⟩:=ih _ _ (w++[(T.pick n s l).2]) (by omega) hm2 hn;exact⟨a,b,λu hu=>Hb (c u hu),λhnd=>d (hnd.erase _),by omega⟩
end
def gask(T:Ar)(R:Str->Int)(n:Int)(s:T.St×List Str)(z:Str):(T.St×List Str)×N14.Row:=
 if z∈s.2 then ((T.asked n s.1 z,s.2),(z,true,[]))
 else ((T.came n (gf T R n (R z) (T.asked n s.1 z) s.2 []).1 z,(gf T R n (R z) (T.asked n s.1 z) s.2 []).2.1++[z]),(z,false,(gf T R n (R z) (T.asked n s.1 z) s.2 []).2.2))
def gst(T:Ar)(R:Str->Int)(n:Int)(s0:T.St)(ys:List Str)(i:Nat):T.St×List Str:=(ys.take i).foldl (λs z=>(gask T R n s z).1) (s0,[])
def grow(T:Ar)(R:Str->Int)(n:Int)(s0:T.St)(ys:List Str)(i:Nat):N14.Row:=(gask T R n (gst T R n s0 ys i) (ys.getD i Str.empty)).2
def grows(T:Ar)(R:Str->Int)(n:Int)(s0:T.St)(ys:List Str)(i:Nat):List N14.Row:=(List.range i).map (grow T R n s0 ys)
section
variable {T:Ar}{R:Str->Int}{n:Int}{s0:T.St}{ys ns:List Str}{i:Nat}{z:Str}
theorem O7(h:ys[i]?=some z):gst T R n s0 ys (i+1)=(gask T R n (gst T R n s0 ys i) z).1:=by
 unfold gst;rw[He,h,List.foldl_append];rfl
theorem J6c(h:ys[i]?=some z):grow T R n s0 ys i=(gask T R n (gst T R n s0 ys i) z).2:=by
 unfold grow;rw[Fd,h];rfl
theorem J08:(grows T R n s0 ys i).length=i:=by unfold grows;rw[Fa,Hm]
theorem J45{u v:Str}{l:List Str}(e:u=v)(h:u∈l):v∈l:=e▸h
structure GI(T:Ar)(ns:List Str)(n:Int)(s:T.St×List Str):Prop where
 i:T.inv ns n s.1 s.2
 nd:s.2.Nodup
 s:∀u∈s.2,u∈ns
theorem GI.ask{s:T.St×List Str}(h:GI T ns n s)(hz:z∈ns)(hR:R z<=n):GI T ns n (gask T R n s z).1:=by
 unfold gask;split
 . rename_i hm
   exact⟨T.i_hit h.i hz hm,h.nd,h.s⟩
 . rename_i hm
   obtain⟨a,b,c,d,e⟩:=J44 (R:=R) _ _ _ [] rfl (T.i_mid h.i hz hm) hR;have hm2:z∉(gf T R n (R z) (T.asked n s.1 z) s.2 []).2.1:=λhh=>hm (c z hh);refine⟨T.i_came a hz hm2,?_,λu hu=>?_⟩
   . show ((gf T R n (R z) (T.asked n s.1 z) s.2 []).2.1++[z]).Nodup
     rw[Hf];refine⟨d h.nd,by simp,λy hy u hu e=>hm2 (J45 (e.trans (Fo.mp hu)) hy)⟩
   . rcases FB.mp hu with hu | hu
     . exact h.s u (c u hu)
     . rw[Fo.mp hu];exact hz
theorem Xz(h0:T.inv ns n s0 [])(hin:∀y∈ys,y∈ns)(hR:∀y∈ys,R y<=n):∀i,i<=ys.length->GI T ns n (gst T R n s0 ys i)
 | 0,_=>⟨h0,HY,by simp[gst]⟩
 | i+1,h=>by
  have hz:=Fb (show i < ys.length by omega);have hm:=Fq hz;rw[O7 hz];exact(Xz h0 hin hR i (by omega)).ask (hin _ hm) (hR _ hm)
end
theorem J46{T:Ar}{R:Str->Int}{n need:Int}:∀(k:Nat) (s:T.St) (l w:List Str),T.cnt (gfin T R n need k s l w).1<=T.cnt s:=by
 intro k
 induction k with
 | zero=>intro s l w;exact Fg _
 | succ k ih=>
  intro s l w;unfold gfin;split
  . exact Fg _
  . exact FE (ih _ _ _) (FE (T.c_gone _ _ _) (T.c_pick _ _ _))
theorem J47{T:Ar}{R:Str->Int}{n:Int}{s:T.St×List Str}{z:Str}:T.cnt (gask T R n s z).1.1<=T.cnt s.1+1:=by
 unfold gask;split
 . exact T.c_ask _ _ _
 . exact FE (T.c_came _ _ _) (FE (J46 _ _ _ _) (T.c_ask _ _ _))
theorem Y0{T:Ar}{R:Str->Int}{n:Int}{s0:T.St}{ys:List Str}:∀i,i<=ys.length->T.cnt (gst T R n s0 ys i).1<=T.cnt s0+i
 | 0,_=>Fg _
 | i+1,h=>by
  have hz:=Fb (show i < ys.length by omega);rw[O7 hz];have:=Y0 (T:=T) (R:=R) (n:=n) (s0:=s0) (ys:=ys) i (by omega);have h2:=J47 (T:=T) (R:=R) (n:=n) (s:=gst T R n s0 ys i) (z:=ys[i]);omega
structure Dw(T:Ar)(K:PySem.W.Frag)(C S:Addr)(H0 H:Hp)(q p sh d:Addr)(M:List Addr)(n:Int)(ts:List Th)(ls:Ly)(s:T.St):Prop where
 h:T.At H M q p n s
 shf:Bc S H sh p d n ls
 st:Aq K C H0 p ts
 sm:Aa H0 H
 n0:∀m∈M,H0 m=none
 nd:H0 d=none
 nsh:sh∉M
 ndm:d∉M
 ok:OkL (rm ts) (ts.map (·.1)) ls
section
variable {T:Ar}{K:PySem.W.Frag}{C S:Addr}{H0 H H' H1 H2:Hp}{q p sh d w:Addr}{M:List Addr}{n:Int}{ts:List Th}{ls:Ly}{s s':T.St}
theorem Ej(e:Aa H H')(h:T.At H M q p n s):T.At H' M q p n s:=T.dep (λm _ o=>e m o) h
theorem J48(e:SameBut d H H')(hd:d∉M)(h:T.At H M q p n s):T.At H' M q p n s:=T.dep (λm hm o e1=>e m o e1 (λe2=>hd (e2▸hm))) h
theorem Dw.same(r:Dw T K C S H0 H q p sh d M n ts ls s)(e:Aa H H'):Dw T K C S H0 H' q p sh d M n ts ls s:=
 ⟨Ej e r.h,r.shf.same e,r.st,r.sm.trans e,r.n0,r.nd,r.nsh,r.ndm,r.ok⟩
theorem Dw.x(r:Dw T K C S H0 H q p sh d M n ts ls s):Eo K C H p ts d:=(Eo.of r.st r.nd).same r.sm
theorem Dw.left(r:Dw T K C S H0 H q p sh d M n ts ls s):n - lyS ls=n - N41.sm (rm ts) (lyN ls):=by rw[Xy (ns:=ts.map (·.1)) r.ok.r]
theorem Dw.rule(r:Dw T K C S H0 H q p sh d M n ts ls s)(k:Kp M H H')(h:T.At H' M q p n s'):Dw T K C S H0 H' q p sh d M n ts ls s':=
 ⟨h,⟨r.shf.o.imp λ_ e=>k _ _ r.nsh e,k _ _ r.ndm r.shf.d,r.shf.nd⟩,r.st,Kp.same r.sm k r.n0,r.n0,r.nd,r.nsh,r.ndm,r.ok⟩
theorem Dw.shelf{ls':Ly}(r:Dw T K C S H0 H q p sh d M n ts ls s)(k:SameBut d H H')(hs:Bc S H' sh p d n ls')(ok:OkL (rm ts) (ts.map (·.1)) ls'):Dw T K C S H0 H' q p sh d M n ts ls' s:=
 ⟨J48 k r.ndm r.h,hs,r.st,U2 r.sm r.nd k,r.n0,r.nd,r.nsh,r.ndm,ok⟩
theorem Dw.lst{zs:List V}(r:Dw T K C S H0 H q p sh d M n ts ls s)(k:SameBut w H H')(hw:H w=some (.lst zs))(hm:w∉M)(h0:H0 w=none):Dw T K C S H0 H' q p sh d M n ts ls s:=
 ⟨J48 k hm r.h,r.shf.butL k hw,r.st,U2 r.sm h0 k,r.n0,r.nd,r.nsh,r.ndm,r.ok⟩
theorem Dw.free{b:Addr}(r:Dw T K C S H0 H q p sh d M n ts ls s)(hb:H b=none):b∉d::M:=λhm=>by
 rcases Ft.mp hm with e | e
 . rw[e,r.shf.d]at hb;cases hb
 . exact T.live r.h b e hb
theorem Lb{d:Addr}{H:Hp}(k:Kp M H H'):Kp (d::M) H H':=λb o n e=>k b o (λh=>n (Fk _ h)) e
theorem J49{a:Addr}(h:SqL K H a xs)(k:Kp M H H')(na:a∉M):SqL K H' a xs:=by
 rcases h with (h | ⟨o,h⟩) | h
 . exact .inl (.inl (k _ _ na h))
 . exact .inl (.inr ⟨o,k _ _ na h⟩)
 . exact .inr h
end
def Ba(T:Ar):Sp:=λvs H Q _=>∃(q p:Addr) (n:Int) (M:List Addr) (s:T.St) (l ns:List Str) (z:Str),vs=[.ref q,.str z]/\T.At H M q p n s/\T.inv ns n s l/\z∈ns/\ns.length<=60/\∀H',Kp M H H'->T.At H' M q p n (T.asked n s z)->Q .non H'
def B5(T:Ar)(K:PySem.W.Frag):Sp:=λvs H Q _=>∃(q p a:Addr) (n:Int) (M:List Addr) (s:T.St) (l ns:List Str) (z:Str),vs=[.ref q,.ref a]/\T.At H M q p n s/\T.mid ns n z s l/\l≠[]/\H a=some (.lst (l.map V.str))/\a∉M/\ns.length<=60/\l.length<=60/\T.cnt s<=300/\∀H',Kp M H H'->T.At H' M q p n (T.pick n s l).1->Q (.str (T.pick n s l).2) H'
def Bi(T:Ar):Sp:=λvs H Q _=>∃(q p:Addr) (n:Int) (M:List Addr) (s:T.St) (l ns:List Str) (z:Str),vs=[.ref q,.str (T.pick n s l).2]/\T.At H M q p n (T.pick n s l).1/\T.mid ns n z s l/\l≠[]/\ns.length<=60/\∀H',Kp M H H'->T.At H' M q p n (T.gone n (T.pick n s l).1 (T.pick n s l).2)->Q .non H'
def Bj(T:Ar):Sp:=λvs H Q _=>∃(q p:Addr) (n:Int) (M:List Addr) (s:T.St) (l ns:List Str) (z:Str),vs=[.ref q,.str z]/\T.At H M q p n s/\T.mid ns n z s l/\z∈ns/\z∉l/\ns.length<=60/\∀H',Kp M H H'->T.At H' M q p n (T.came n s z)->Q .non H'
def Im(T:Ar)(K:PySem.W.Frag)(C S:Addr):Sp:=λvs H Q _=>∃(H0:Hp) (q p sh d:Addr) (M:List Addr) (n need:Int) (ts:List Th) (ls:Ly) (s:T.St) (z:Str),vs=[.ref q,.ref sh,.int need]/\Dw T K C S H0 H q p sh d M n ts ls s/\T.mid (ts.map (·.1)) n z s (lyN ls)/\need<=n/\ls.length<=60/\ts.length<=60/\T.cnt s<=300/\
 ∀(w:Addr) (ls':Ly) (H':Hp),Kp (d::M) H H'->H w=none->H' w=some (.lst ((gf T (rm ts) n need s (lyN ls) []).2.2.map V.str))->lyN ls'=(gf T (rm ts) n need s (lyN ls) []).2.1->Dw T K C S H0 H' q p sh d M n ts ls' (gf T (rm ts) n need s (lyN ls) []).1->Q (.ref w) H'
def Lc(T:Ar)(K:PySem.W.Frag)(C S:Addr):Sp:=λvs H Q _=>∃(H0:Hp) (q p sh d:Addr) (M:List Addr) (n:Int) (ts:List Th) (ls:Ly) (s:T.St) (z:Str),vs=[.ref q,.ref sh,.str z]/\Dw T K C S H0 H q p sh d M n ts ls s/\T.inv (ts.map (·.1)) n s (lyN ls)/\(ts.map (·.1)).Nodup/\ts.length<=60/\z∈ts.map (·.1)/\rm ts z<=n/\T.cnt s<=299/\
 ∀(t g:Addr) (ls':Ly) (H':Hp),Kp (d::M) H H'->H t=none->H g=none->H' t=some (.tup [.str (gask T (rm ts) n (s,lyN ls) z).2.1,.bl (gask T (rm ts) n (s,lyN ls) z).2.2.1,.ref g])->H' g=some (.lst ((gask T (rm ts) n (s,lyN ls) z).2.2.2.map V.str))->lyN ls'=(gask T (rm ts) n (s,lyN ls) z).1.2->Dw T K C S H0 H' q p sh d M n ts ls' (gask T (rm ts) n (s,lyN ls) z).1.1->Q (.ref t) H'
end NR
namespace L2
section
variable {X:Cx}{pins:List (Addr×Obj)}{σ:St}{H:Hp}{s:Shared}{a C dx g:Addr}{fs:List (Str×V)}{m:Str}{A:Around}{E:Value->Shared->Prop}
theorem U4{b:Bool}{Q:Value->Shared->Prop}(I:Inv X pins σ H s)(e:H a=some (.ins C dx fs))(c:Cls X.K C)(k:Ym X.K C m g)(l:fs.lookup m=none)
 (hgf:PySem.W.specialIn X.K (.ref g) "__get__"=some (some (.builtin "function.__get__"))) (ht:PySem.W.takesIn X.K (.ref g)=some false) (hc:PySem.W.copiedNames.contains m=false)
 (h:Q (.ref s.heap.objs.size) {s with heap:=s.heap.push (PySem.W.methodObj (.ref g) (.ref a)),toks:=s.toks+1}):wpAny (model X.prog X.w) A (getAttr (.ref a) m b) Q E s:=by
 obtain⟨mA,O,r,_,_,_⟩:=Kq I.hok e;have hn:mA m=none:=Dv.none_of (by rw[<- l];exact r m);obtain⟨od,J,hl⟩:=O.look;have hK:X.K.In ({s with toks:=s.toks+1}:Shared).heap:=I.kIn
 exact PySem.W.get_bind I.kIn J (HJ (c.get m)).1 (PySem.W.findObj_fn c.hd k.at_ hgf ht hc (by rw[hl,hn])) (HJ (c.get m)).2
  (HS (PySem.W.fn_get (s:={s with toks:=s.toks+1}) hK (HV.mp k.fn) (PySem.W.handed_on rfl h)))
end
section
variable {X:Cx}{k:Nat}{f a q:Addr}{fd:FuncData}{ps:List Str}{sp:Sp}
theorem O8{H:Hp}{s:Shared}{vs:List V}(F:Ai X.prog X.w X.K X.mg X.base CX0 k f fd ps sp)(hr:Bt (k+1) X.A)(hb:Bl X.K fd ps [])
 (I:Inv X pins σ H s) (r:Ay vs us) (hq:s.heap.get? q=some (PySem.W.methodObj (.ref f) (.ref a))) (h:sp (.ref a::vs) H Q E0):wpAny (model X.prog X.w) X.A.in1 (call (.ref q) us) (EP X pins σ Q) E s:=by
 have r':Ay (V.ref a::vs) (Value.ref a::us):= .cons rfl r
 have hl:(Value.ref a::us).length=ps.length:=by rw[<- r'.length];exact F.len _ _ _ _ h
 have hb':=hb s (Value.ref a::us) I.kIn (by simpa using hl);rw[Ha]at hb';refine HS (ks_codeAny_call_bound (a:=⟨us,[]⟩) hq (Ht (F.run X.A.in1 X.stack s H ⟨Value.ref a::us,[]⟩ (Value.ref a::us) (V.ref a::vs) Q E0 hr.in1 (Kr.in1 I.env0) hb' r' h) λr s' hq=>?_))
 cases r with
 | error e=>exact False.elim hq
 | ok fl=>
  cases fl with
  | ret u=>exact I.after hq
  | next=>exact False.elim hq
  | brk=>exact False.elim hq
  | cont=>exact False.elim hq
end
def btK(kf:Nat->List Int):Nat->Nat->Bool:=λi j=>HT.Do (kf i) (kf j)
section
variable {X:Cx}{pins:List (Addr×Obj)}{σ:St}{k:Nat}{g a q mo it S:Addr}{fd:FuncData}{ps:List Str}{sp:Sp}{H0:Hp}{xs:List V}{kf:Nat->List Int}{R:Result->Shared->Prop}
theorem Inv.turn1{H:Hp}{s:Shared}{b:Addr}(I:Inv X pins σ H s)(fp:Dz X pins H b)(hk:∀c o,c≠b->s.heap.get? c=some o->h'.get? c=some o):Inv X pins σ H {s with heap:=h',toks:=t'}:=
 I.turned hk fp.1 fp.2.1 fp.2.2.2.1 fp.2.2.2.2.1 fp.2.2.2.2.2
theorem Dz.at{H:Hp}{b:Addr}(h:Dz X pins H b)(hn:H' b=none):Dz X pins H' b:=⟨hn,h.2⟩
theorem J09(F:Ai X.prog X.w X.K X.mg X.base CX0 k g fd ps sp)(hr:Bt (k+1) X.A)(hb:Bl X.K fd ps [])(hq:SqL X.K H0 a xs)(hai:a≠it)
 (turn:∀i v,xs[i]?=some v->∀H',Aa H0 H'->sp [.ref q,v] H' (λu H''=>Aa H' H''/\∃t,u= .ref t/\H'' t=some (.tup ((kf i).map V.int))) E0)
 (hR:∀v u H' s',Aa H0 H'->Inv X pins σ H' s'->Au v u->xs[argBest (btK kf) (xs.length - 1)]?=some v->R (.ok (.ret u)) s')
 (nmi:mo≠it) (nms:mo≠S) (nis:it≠S):
 ∀(r j:Nat) (s:Shared) (H:Hp) (vb:Value) (t:Addr) (c:Nat) (v0:V),xs.length - (j+1)=r->j+1<=xs.length->Inv X pins σ H s->Aa H0 H->Dz X pins H mo->Dz X pins H it->Dz X pins H S->
   s.heap.get? mo=some (PySem.W.methodObj (.ref g) (.ref q))->s.heap.get? S=some (seqObj "list" #[vb,.ref t] c)->s.heap.IsListIter it a (j+1)->
   xs[argBest (btK kf) j]?=some v0->Au v0 vb->H t=some (.tup ((kf (argBest (btK kf) j)).map V.int))->
   codeAny (model X.prog X.w) X.A (.builtin "min.loop" ⟨[.ref it,.ref mo,.ref S],[]⟩) R s:=by
 have hname:(toString "min"++toString ".loop":String)="min.loop":=by decide
 have hh:X.A.in1.handled=none:=hr.hd;intro r
 induction r with
 | zero=>
  intro j s H vb t c v0 hrr hj I sm fm fi fs gm gS hit hx0 rv0 ht;obtain⟨its,rv,p,hz⟩:=I.list (sm.seq hq);have hln:=rv.length;have W:=Walks.list (prog:=X.prog) (w:=X.w) (A:=X.A.in1) hh it a hai its.toArray
  have hsz:its.toArray.size=xs.length:=by rw[Fi,hln]
  have hin:j+1=xs.length:=by omega
  refine codeAny_builtin Ro ?_;rw[Around.under_plainId FZ _];show wpAny _ X.A.in1 (seqItems? (.ref S) >>=_) _ _ _;refine Fc (wpAny_seqItems gS rfl ?_);show wpAny _ X.A.in1 (tryCatch (pyNext (.ref it)) _ >>=_) _ _ _;refine Fc (HW (W.done _ _ _ ⟨by rw[hsz,<- hin];exact hit,p.isList⟩ λh' tk' hk'=>?_));have hk2:∀b o,b≠it->s.heap.get? b=some o->h'.get? b=some o:=λb o e=>hk' b o (by simpa using e);have I1:Inv X pins σ H {s with heap:=h',toks:=tk'}:=I.turn1 fi hk2;have gS':=hk2 S _ (Ne.symm nis) gS;have s1:=RD h' S (Obj.mapSeq λ_=>(#[]:Array Value));show wpAny _ X.A.in1 (updateSeq S (λ_=>#[]) >>=_) _ _ _;refine Fc ?_;refine wpAny_updateSeq gS' rfl (Fc (RQ (Fu ?_)));refine hR v0 vb H _ sm (I1.turn1 (t':=tk') fs λb o e e2=>(s1.2 b e).trans e2) rv0 ?_;rw[show xs.length - 1=j by omega]
  exact hx0
 | succ r ih=>
  intro j s H vb t c v0 hrr hj I sm fm fi fs gm gS hit hx0 rv0 ht;obtain⟨its,rv,p,hz⟩:=I.list (sm.seq hq);have hln:=rv.length;have W:=Walks.list (prog:=X.prog) (w:=X.w) (A:=X.A.in1) hh it a hai its.toArray
  have hsz:its.toArray.size=xs.length:=by rw[Fi,hln]
  have hlt:j+1 < xs.length:=by omega
  refine codeAny_builtin Ro ?_;rw[Around.under_plainId FZ _];show wpAny _ X.A.in1 (seqItems? (.ref S) >>=_) _ _ _;refine Fc (wpAny_seqItems gS rfl ?_);show wpAny _ X.A.in1 (tryCatch (pyNext (.ref it)) _ >>=_) _ _ _;refine Fc (HW (W.item (j+1) _ _ _ (by rw[hsz];exact hlt) ⟨hit,p.isList⟩ λv h' tk' hP hst' hk'=>?_));have hk2:∀b o,b≠it->s.heap.get? b=some o->h'.get? b=some o:=λb o e=>hk' b o (by simpa using e);have hxj:=Fb hlt;obtain⟨v',hv',rv'⟩:=rv.get hxj
  have hvv:v'=v:=by
   have:its[j+1]?=some v:=by simpa using hP
   rw[hv']at this;exact FG this
  subst hvv;obtain⟨oI',hoI',hoc,hod⟩:=id hst'.1;have I1:Inv X pins σ H {s with heap:=h',toks:=tk'}:=I.turn1 fi hk2;have gS':=hk2 S _ (Ne.symm nis) gS;have gm':=hk2 mo _ nmi gm
  have I1p:Inv X (pins++[(mo,PySem.W.methodObj (.ref g) (.ref q)),(S,seqObj "list" #[vb,.ref t] c),(it,oI')]) σ H {s with heap:=h',toks:=tk'}:=I1.pins_of λp hp=>by
   rcases FB.mp hp with hp | hp
   . exact I1.pin p (Fw _ hp)
   . simp only[Ft,FM,or_false]at hp
     rcases hp with rfl | rfl | rfl
     . exact⟨gm',fm.1,fm.2.1,fm.2.2.1,λv e=>by cases e⟩
     . exact⟨gS',fs.1,fs.2.1,fs.2.2.1,λv e=>by cases e⟩
     . exact⟨hoI',fi.1,fi.2.1,fi.2.2.1,λv e=>by rw[hod]at e;cases e⟩
  show wpAny _ X.A.in1 (tryCatch (holding [v'] (call (.ref mo) [v'])) _ >>=_) _ _ _;refine Fc (HW (HC (thn (O8 (vs:=[xs[j+1]]) F hr hb I1p (.cons rv' .nil) gm' (turn (j+1) _ hxj H sm)) λx s2 he=>?_)));obtain⟨y,H2,I2p,ry,sm2,t2,rfl,ht2⟩:=he;obtain rfl:x=Value.ref t2:=ry;have P2:=λp hp=>I2p.pin p (Fw _ (Fw _ hp));have pm:=P2 (mo,PySem.W.methodObj (.ref g) (.ref q)) (by simp);have pS:=P2 (S,seqObj "list" #[vb,.ref t] c) (by simp);have pI:=P2 (it,oI') (by simp);have I2:Inv X pins σ H2 s2:=I2p.pins_of λp hp=>I2p.pin p (Fw _ (FX _ hp))
  have hit2:s2.heap.IsListIter it a (j+1+1):=⟨oI',pI.1,hoc,hod⟩
  have smx:=sm.trans sm2;have ht':=sm2 _ _ ht;obtain⟨us1,r1,p1,_⟩:=I2.tuple (SqT.of ht2);obtain⟨us2,r2,p2,_⟩:=I2.tuple (SqT.of ht');have hu:X.A.in1.units < cLine:=Hk (by omega) hr.in1.un;show wpAny _ X.A.in1 (tryCatch (holding [v',.ref t2] (richCompare .Lt (.ref t2) (.ref t) >>=_)) _ >>=_) _ _ _;refine Fc (HW (HC (Fc (HT.Uz p1 p2 (Nj r1) (Nj r2) hu ?_))));refine Fc (HC (Hd ?_));refine Fc (RQ (Fu ?_))
  have eB:argBest (btK kf) (j+1)=if HT.Do (kf (j+1)) (kf (argBest (btK kf) j))=true then j+1 else argBest (btK kf) j:=rfl
  by_cases hb':HT.Do (kf (j+1)) (kf (argBest (btK kf) j))=true
  . have s1:=RD s2.heap S (Obj.mapSeq λ_=>#[v',.ref t2])
    obtain⟨c2,hc2⟩:∃c2,(s2.heap.update S (Obj.mapSeq λ_=>#[v',.ref t2])).get? S=some (seqObj "list" #[v',.ref t2] c2):=⟨_,get?_update_seq pS.1 λ_=>#[v',.ref t2]⟩
    rw[if_pos hb']at eB;simp only[hb',if_true];refine Fc ?_;refine wpAny_updateSeq pS.1 rfl (Fc (RQ ?_));rw[hname];have I3:Inv X pins σ H2 {s2 with heap:=s2.heap.update S (Obj.mapSeq λ_=>#[v',.ref t2]),toks:=s2.toks}:=I2.turn1 (fs.at pS.2.1) λb o e e2=>(s1.2 b e).trans e2;exact Fu ⟨RE FZ _,ih (j+1) _ H2 v' t2 c2 _ (by omega) hlt I3 smx (fm.at pm.2.1) (fi.at pI.2.1) (fs.at pS.2.1) ((s1.2 mo nms).trans pm.1) hc2 ⟨oI',(s1.2 it nis).trans pI.1,hoc,hod⟩ (by rw[eB];exact hxj) rv' (by rw[eB];exact ht2)⟩
  . rw[if_neg hb']at eB
    simp only[hb',Bool.false_eq_true,if_false];refine Fc (RQ ?_);rw[hname];exact Fu ⟨RE FZ _,ih (j+1) s2 H2 vb t c v0 (by omega) hlt I2 smx (fm.at pm.2.1) (fi.at pI.2.1) (fs.at pS.2.1) pm.1 pS.1 hit2 (by rw[eB];exact hx0) rv0 (by rw[eB];exact ht')⟩
end
section
variable {X:Cx}{pins:List (Addr×Obj)}{σ:St}{k:Nat}{g a q mo:Addr}{fd:FuncData}{ps:List Str}{sp:Sp}{H:Hp}{s:Shared}{xs:List V}{kf:Nat->List Int}{Q:VK}
theorem J0a(F:Ai X.prog X.w X.K X.mg X.base CX0 k g fd ps sp)(hr:Bt (k+1) X.A)(hb:Bl X.K fd ps [])(I:Inv X pins σ H s)(hq:SqL X.K H a xs)(hne:xs≠[])
 (gm:s.heap.get? mo=some (PySem.W.methodObj (.ref g) (.ref q))) (fm:Dz X pins H mo)
 (turn:∀i v,xs[i]?=some v->∀H',Aa H H'->sp [.ref q,v] H' (λu H''=>Aa H' H''/\∃t,u= .ref t/\H'' t=some (.tup ((kf i).map V.int))) E0)
 (hQ:∀v H',Aa H H'->xs[argBest (btK kf) (xs.length - 1)]?=some v->Q v H'):
 wpAny (model X.prog X.w) X.A (call (.builtin "min") [.ref a] [(Str.ofString "key",.ref mo)]) (EP X pins σ Q) X.xe s:=by
 have hname:(toString "min"++toString ".loop":String)="min.loop":=by decide
 have hh:X.A.in1.handled=none:=hr.hd;obtain⟨its,rv,p,hz⟩:=I.list hq;have hln:=rv.length;have hpos:0 < xs.length:=Hi.mpr hne
 have hla:a < s.heap.objs.size:=by obtain⟨o,n,e,_⟩:=p;exact Fm e
 have hlm:mo < s.heap.objs.size:=Fm gm;refine kmk_tree PySem.F.kind_min PySem.F.plain_min PySem.F.entry_min (kmk_min_key _ _) ?_;show wpAny _ X.A.in1 (Builtin.Builtins.bindParams "min" ["key","default"] 0 ⟨[],[(Str.ofString "key",.ref mo)]⟩ >>=_) _ _ s;refine Fc (wpAny_of_eq (show Builtin.Builtins.bindParams "min" ["key","default"] 0 ⟨[],[(Str.ofString "key",.ref mo)]⟩=pure [some (.ref mo),none] from rfl) ?_);refine Fc (Fu ?_);refine Fc (RG p.isList ?_);refine Fc (wpAny_newList ?_ (FP _));rw[hname];refine Fu ⟨RE FZ _,?_⟩;have hS:(s.heap.push {cls:= .type "list_iterator",data:= .fields #[.ref a,.int 0 0]}).objs.size=s.heap.objs.size+1:=size_push' ..;generalize hSe:(s.heap.push {cls:= .type "list_iterator",data:= .fields #[.ref a,.int 0 0]}).objs.size=S at hS;have hai:a≠s.heap.objs.size:=Fv hla
 have nmi:mo≠s.heap.objs.size:=Fv hlm
 have nms:mo≠S:=by rw[hS];exact Fv (RL hlm)
 have nis:s.heap.objs.size≠S:=by rw[hS];exact Fv (R3 _)
 have k1:∀b o,s.heap.get? b=some o->((s.heap.push {cls:= .type "list_iterator",data:= .fields #[.ref a,.int 0 0]}).push (seqObj "list" #[] 0)).get? b=some o:=λb o e=>Fe _ (Fe _ e);have fi:Dz X pins H s.heap.objs.size:=I.fpOk (Fg _) (I.hok.fresh (Fg _));have fs:Dz X pins H S:=I.fpOk (by rw[hS];exact HF _) (I.hok.fresh (by rw[hS];exact HF _));have gI:((s.heap.push {cls:= .type "list_iterator",data:= .fields #[.ref a,.int 0 0]}).push (seqObj "list" #[] 0)).get? s.heap.objs.size=some {cls:= .type "list_iterator",data:= .fields #[.ref a,.int 0 0]}:=Fe _ (Fy _ rfl)
 have gS:((s.heap.push {cls:= .type "list_iterator",data:= .fields #[.ref a,.int 0 0]}).push (seqObj "list" #[] 0)).get? S=some (seqObj "list" #[] 0):=by rw[<- hSe];exact Fy _ rfl
 have gm1:=k1 _ _ gm;have I1:Inv X pins σ H {s with heap:=(s.heap.push {cls:= .type "list_iterator",data:= .fields #[.ref a,.int 0 0]}).push (seqObj "list" #[] 0),toks:=s.toks}:=I.kept k1;obtain⟨its',rv1,p1,_⟩:=I1.list hq;have hln1:=rv1.length;have W:=Walks.list (prog:=X.prog) (w:=X.w) (A:=X.A.in1) hh s.heap.objs.size a hai its'.toArray
 have hsz:its'.toArray.size=xs.length:=by rw[Fi,hln1]
 refine codeAny_builtin Ro ?_;rw[Around.under_plainId FZ _];show wpAny _ X.A.in1 (seqItems? (.ref S) >>=_) _ _ _;refine Fc (wpAny_seqItems gS rfl ?_);show wpAny _ X.A.in1 (tryCatch (pyNext (.ref s.heap.objs.size)) _ >>=_) _ _ _;refine Fc (HW (W.item 0 _ _ _ (by rw[hsz];exact hpos) ⟨⟨_,gI,rfl,rfl⟩,p1.isList⟩ λv h' tk' hP hst' hk'=>?_));have hk2:∀b o,b≠s.heap.objs.size->((s.heap.push {cls:= .type "list_iterator",data:= .fields #[.ref a,.int 0 0]}).push (seqObj "list" #[] 0)).get? b=some o->h'.get? b=some o:=λb o e=>hk' b o (by simpa using e);have hx0:=Fb hpos;obtain⟨v',hv',rv'⟩:=rv1.get hx0
 have hvv:v'=v:=by
  have:its'[0]?=some v:=by simpa using hP
  rw[hv']at this;exact FG this
 subst hvv;obtain⟨oI',hoI',hoc,hod⟩:=id hst'.1;have I2:Inv X pins σ H {s with heap:=h',toks:=tk'}:=I1.turn1 fi hk2;have gS':=hk2 S _ (Ne.symm nis) gS;have gm':=hk2 mo _ nmi gm1
 have I2p:Inv X (pins++[(mo,PySem.W.methodObj (.ref g) (.ref q)),(S,seqObj "list" #[] 0),(s.heap.objs.size,oI')]) σ H {s with heap:=h',toks:=tk'}:=I2.pins_of λp hp=>by
  rcases FB.mp hp with hp | hp
  . exact I2.pin p (Fw _ hp)
  . simp only[Ft,FM,or_false]at hp
    rcases hp with rfl | rfl | rfl
    . exact⟨gm',fm.1,fm.2.1,fm.2.2.1,λv e=>by cases e⟩
    . exact⟨gS',fs.1,fs.2.1,fs.2.2.1,λv e=>by cases e⟩
    . exact⟨hoI',fi.1,fi.2.1,fi.2.2.1,λv e=>by rw[hod]at e;cases e⟩
 show wpAny _ X.A.in1 (tryCatch (holding [v'] (call (.ref mo) [v'])) _ >>=_) _ _ _;refine Fc (HW (HC (thn (O8 (vs:=[xs[0]]) F hr hb I2p (.cons rv' .nil) gm' (turn 0 _ hx0 H (Aa.refl H))) λx s2 he=>?_)));obtain⟨y,H2,I3p,ry,sm2,t2,rfl,ht2⟩:=he;obtain rfl:x=Value.ref t2:=ry;have P2:=λp hp=>I3p.pin p (Fw _ (Fw _ hp));have pm:=P2 (mo,PySem.W.methodObj (.ref g) (.ref q)) (by simp);have pS:=P2 (S,seqObj "list" #[] 0) (by simp);have pI:=P2 (s.heap.objs.size,oI') (by simp);have I3:Inv X pins σ H2 s2:=I3p.pins_of λp hp=>I3p.pin p (Fw _ (FX _ hp));have s1:=RD s2.heap S (Obj.mapSeq λ_=>#[v',.ref t2])
 obtain⟨c2,hc2⟩:∃c2,(s2.heap.update S (Obj.mapSeq λ_=>#[v',.ref t2])).get? S=some (seqObj "list" #[v',.ref t2] c2):=⟨_,get?_update_seq pS.1 λ_=>#[v',.ref t2]⟩
 show wpAny _ X.A.in1 (updateSeq S (λ_=>#[v',.ref t2]) >>=_) _ _ _;refine Fc ?_;refine wpAny_updateSeq pS.1 rfl ?_;rw[hname];have I4:Inv X pins σ H2 {s2 with heap:=s2.heap.update S (Obj.mapSeq λ_=>#[v',.ref t2]),toks:=s2.toks}:=I3.turn1 (fs.at pS.2.1) λb o e e2=>(s1.2 b e).trans e2;refine Fu ⟨RE FZ _,J09 (H0:=H) (kf:=kf) (xs:=xs) (a:=a) F hr hb hq hai turn (λv u H' s' smH I' ru hv=>?_) nmi nms nis _ 0 _ H2 v' t2 c2 xs[0] rfl hpos I4 sm2 (fm.at pm.2.1) (fi.at pI.2.1) (fs.at pS.2.1) ((s1.2 mo nms).trans pm.1) hc2 ⟨oI',(s1.2 _ nis).trans pI.1,hoc,hod⟩ hx0 rv' ht2⟩;exact⟨v,H',I',ru,hQ v H' smH hv⟩
end
structure Io(P:Program)(w:World)(K:PySem.W.Frag)(mg:Str->Option Value)(base:Heap)(k:Nat)(C:Addr)(m:Str)(ps:List Str)(sp:Sp):Prop where
 ex:∃(f:Addr) (fd:FuncData),Ai P w K mg base CX0 k f fd ps sp/\Ym K C m f/\Bl K fd ps []/\PySem.W.specialIn K (.ref f) "__get__"=some (some (.builtin "function.__get__"))/\PySem.W.takesIn K (.ref f)=some false
theorem Io.toM{w:World}{K:PySem.W.Frag}{mg:Str->Option Value}{base:Heap}{k:Nat}{C:Addr}{m:Str}{sp:Sp}(D:Io P w K mg base k C m ps sp):Bn P w K mg base CX0 k C m ps sp:=
 let ⟨f,fd,a,b,c,_⟩:=D.ex;⟨f,fd,a,b,c⟩
def J86(K:PySem.W.Frag)(C:Addr)(m:Str)(sp:Sp)(ta:TA)(to:TE):TE:=λσ H Q=>ta σ H λvs H1=>to σ H1 λo H2=>∃(a q dx:Addr) (fs:List (Str×V)) (xs:List V) (kf:Nat->List Int),vs=[.ref a]/\o= .ref q/\H2 q=some (.ins C dx fs)/\fs.lookup m=none/\SqL K H2 a xs/\xs≠[]/\
 (∀i v,xs[i]?=some v->∀H',Aa H2 H'->sp [.ref q,v] H' (λu H''=>Aa H' H''/\∃t,u= .ref t/\H'' t=some (.tup ((kf i).map V.int))) E0)/\∀v H',Aa H2 H'->xs[argBest (btK kf) (xs.length - 1)]?=some v->Q v H'
section
variable {X:Cx}{k j:Nat}{C:Addr}{ps:List Str}{sp:Sp}{m:Str}{x:Str}{p pos apos kp:Pos}{e o:Expr}{t:TA}{to:TE}
theorem Mx(D:Io X.prog X.w X.K X.mg X.base j C m ps sp)(c:Cls X.K C)(hr:Bt k X.A)(hg:Gl X x)(hm:X.mg x=none)(hv:bootBuiltins x=some (.builtin "min"))(ha:PA X [e] t)(ho:PE X o to)(hba:attributeBase o m X.env (eval o X.env)=eval o X.env)(hcn:PySem.W.copiedNames.contains m=false:=by decide+kernel)(hj:j+1<=k:=by decide)(hn:x≠"__name__":=by decide)(hdb:(x==("__debug__":Str))=false:=by decide)
 (he:backTo pos (starEach [e] X.env)=(false,eval e X.env)::backTo pos (starEach [] X.env):=by rfl) (hpl:(backTo pos (starEach [e] X.env)).any (·.1)=false:=by rfl):
 PE X (.Call (.Name x p) [e] [⟨some (Str.ofString "key"),.Attribute o m apos,kp⟩] pos) (J86 X.K C m sp t to):=by
 obtain⟨g,fd,F,M,hb,hgf,htk⟩:=D.ex;intro pins s σ H Q I h;refine FV (Kf I hg hm hv ?_ hn hdb);refine callWith_kw (thn (ha pos pins s σ H _ I h) λus s1 hq_=>?_) he hpl;obtain⟨vs,H1,I1,r1,q1⟩:=hq_;refine kws_cons (Pz hba (thn (ho pins s1 σ H1 _ I1 q1) λu s2 hq_=>?_));obtain⟨y,H2,I2,ry,a,q,dx,fs,xs,kf,ev,ey,hq,hl,hx,hne,turn,fin⟩:=hq_;subst ev ey;obtain rfl:u=Value.ref q:=ry;obtain⟨u,rfl,ru⟩:=Ma r1;obtain rfl:u=Value.ref a:=ru;refine U4 I2 hq c M hl hgf htk hcn (kws_nil ?_);have I3:Inv X pins σ H2 {s2 with heap:=s2.heap.push (PySem.W.methodObj (.ref g) (.ref q)),toks:=s2.toks+1}:=I2.kept λb o e=>Fe _ e;exact J0a (q:=q) (g:=g) (F.mono (show j<=j from Fg j)) (hr.mono hj) hb I3 hx hne (Fy _ rfl) (I2.fpOk (Fg _) (I2.hok.fresh (Fg _))) turn fin
theorem Y1{K:PySem.W.Frag}{H:Hp}:J86 K C m sp t to σ H Q=t σ H λvs H1=>to σ H1 λo H2=>∃(a q dx:Addr) (fs:List (Str×V)) (xs:List V) (kf:Nat->List Int),vs=[.ref a]/\o= .ref q/\H2 q=some (.ins C dx fs)/\fs.lookup m=none/\SqL K H2 a xs/\xs≠[]/\
 (∀i v,xs[i]?=some v->∀H',Aa H2 H'->sp [.ref q,v] H' (λu H''=>Aa H' H''/\∃t,u= .ref t/\H'' t=some (.tup ((kf i).map V.int))) E0)/\∀v H',Aa H2 H'->xs[argBest (btK kf) (xs.length - 1)]?=some v->Q v H':=rfl
end
def J9p(C:Bool->Addr)(m:Str)(sp:Bool->Sp)(EE:St->XK)(ta:TE)(t:TA):TE:=λσ H Q=>ta σ H λx H1=>∃b a dx fs,x= .ref a/\H1 a=some (.ins (C b) dx fs)/\fs.lookup m=none/\t σ H1 λvs H2=>sp b (x::vs) H2 Q (EE σ)
section
variable {X:Cx}{CX:CXT}{k j:Nat}{C:Bool->Addr}{ps:List Str}{sp:Bool->Sp}{EE:St->XK}{m:Str}{pos apos:Pos}{e o:Expr}{es:List Expr}{ta:TE}{t:TA}
theorem U5{H:Hp}:J9p C m sp EE ta t σ H Q=ta σ H λx H1=>∃b a dx fs,x= .ref a/\H1 a=some (.ins (C b) dx fs)/\fs.lookup m=none/\t σ H1 λvs H2=>sp b (x::vs) H2 Q (EE σ):=rfl
end
end L2
namespace N22
open L2 N1 N5 N4 N6 N12 N32 N14 N20 N18 N25 NR
def rf0(p:Addr)(n:Int):List (Str×V):=Ac "places" (.int n) (Ac "stock" (.ref p) [])
def rf1(p:Addr)(n k:Int)(la pa:Addr):List (Str×V):=Ac "put_at" (.ref pa) (Ac "last" (.ref la) (Ac "present" (.int k) (rf0 p n)))
theorem Pp{l:List Str}(h:l≠[]):l.headD Str.empty∈l:=by
 cases l with
 | nil=>exact absurd rfl h
 | cons x r=>exact FC ..
def T0(C:Addr):Ar where
 C:=C
 St:=Unit
 At:=λH M q p n _=>M=[q]/\∃dx,H q=some (.ins C dx (rf0 p n))
 asked:=λ_ s _=>s
 pick:=λ_ s l=>(s,l.headD Str.empty)
 gone:=λ_ s _=>s
 came:=λ_ s _=>s
 inv:=λ_ _ _ _=>True
 mid:=λ_ _ _ _ _=>True
 dep:=λe h=>⟨h.1,h.2.imp λ_ ho=>e _ (by rw[h.1];simp) _ ho⟩
 live:=λh m hm e=>by
  obtain⟨dx,ho⟩:=h.2;rw[h.1,Fo]at hm;rw[hm,ho]at e;cases e
 obj:=λh=>h.2.imp λdx ho=>⟨_,ho,by rfl,by rfl,by rfl,by rfl,by rfl,by rfl,by rfl⟩
 i_hit:=λ_ _ _=>trivial
 i_mid:=λ_ _ _=>trivial
 i_pick:=λ_ h=>⟨Pp h,trivial⟩
 i_came:=λ_ _ _=>trivial
structure S1 where
 k:Int
 la:List (Key×V)
 pu:List (Key×V)
def pv(s:S1)(z:Str):Int:=match B1 s.pu (Sum.inr z) with
 | some (.int i)=>i
 | _=>0
def Bu(kvs:List (Key×V))(ns:List Str):Prop:=∃ks:List Str,kvs.map (·.1)=ks.map Sum.inr/\ks.Nodup/\∀z∈ks,z∈ns
theorem Bu.nil{ns:List Str}:Bu [] ns:=⟨[],rfl,HY,by simp⟩
theorem Bu.len{ns:List Str}(h:Bu kvs ns):kvs.length<=ns.length:=by
 obtain⟨ks,e,nd,s⟩:=h;have:=congrArg List.length e;rw[Fa,Fa]at this;have:=Qr nd s;omega
theorem Bu.put{ns:List Str}{z:Str}{v:V}(h:Bu kvs ns)(hz:z∈ns):Bu (Cj kvs (Sum.inr z) v) ns:=by
 obtain⟨ks,e,nd,s⟩:=h;refine⟨if z∈ks then ks else ks++[z],N53.J41 e,?_,?_⟩
 . split
   . exact nd
   . rename_i hn
     rw[Hf];exact⟨nd,by simp,λa ha b hb e2=>hn (J45 (e2.trans (Fo.mp hb)) ha)⟩
 . intro u hu
   split at hu
   . exact s u hu
   . rcases FB.mp hu with hu | hu
     . exact s u hu
     . rw[Fo.mp hu];exact hz
structure FI(ns:List Str)(s:S1)(l:List Str)(B:Int):Prop where
 a:Bu s.la ns
 b:Bu s.pu ns
 v:∀z∈l,∃i,B1 s.pu (Sum.inr z)=some (.int i)/\i<=B
 o:l.Pairwise λx y=>pv s x < pv s y
theorem J4a{s:S1}{z:Str}{i:Int}(h:B1 s.pu (Sum.inr z)=some (.int i)):pv s z=i:=by unfold pv;rw[h]
def J4b(s:S1)(z:Str):S1:=⟨s.k+1,Cj s.la (Sum.inr z) (.int (s.k+1)),s.pu⟩
def M0(s:S1)(z:Str):S1:=⟨s.k,s.la,Cj s.pu (Sum.inr z) (.int s.k)⟩
theorem FI.ask{ns:List Str}{s:S1}{l:List Str}{z:Str}{B:Int}(h:FI ns s l B)(hz:z∈ns):FI ns (J4b s z) l B:=⟨h.a.put hz,h.b,h.v,h.o⟩
theorem FI.mono{ns:List Str}{s:S1}{l:List Str}{B B':Int}(h:FI ns s l B)(hb:B<=B'):FI ns s l B':=⟨h.a,h.b,λz hz=>(h.v z hz).imp λ_ e=>⟨e.1,Int.le_trans e.2 hb⟩,h.o⟩
theorem FI.drop{ns:List Str}{s:S1}{l:List Str}{z:Str}{B:Int}(h:FI ns s l B):FI ns s (l.erase z) B:=
 ⟨h.a,h.b,λu hu=>h.v u (Hb hu),h.o.sublist List.erase_sublist⟩
theorem FI.came{ns:List Str}{s:S1}{l:List Str}{z:Str}(h:FI ns s l (s.k - 1))(hz:z∈ns)(hn:z∉l):FI ns (M0 s z) (l++[z]) s.k:=by
 have hne:∀u∈l,(Sum.inr u:Key)≠Sum.inr z:=λu hu e=>hn (by injection e with e;rw[<- e];exact hu)
 have hold:∀u∈l,B1 (Cj s.pu (Sum.inr z) (.int s.k)) (Sum.inr u)=B1 s.pu (Sum.inr u):=λu hu=>by rw[Dr,if_neg (hne u hu)]
 have hnew:B1 (Cj s.pu (Sum.inr z) (.int s.k)) (Sum.inr z)=some (.int s.k):=by rw[Dr,if_pos rfl]
 have pold:∀u∈l,pv (M0 s z) u=pv s u:=λu hu=>by
  unfold pv M0;simp only;rw[hold u hu]
 refine⟨h.a,h.b.put hz,λu hu=>?_,?_⟩
 . rcases FB.mp hu with hu | hu
   . obtain⟨i,e,hi⟩:=h.v u hu
     exact⟨i,(hold u hu).trans e,by omega⟩
   . rw[Fo.mp hu]
     exact⟨s.k,hnew,R8 _⟩
 . rw[List.pairwise_append]
   refine⟨?_,List.pairwise_singleton ..,λu hu y hy=>?_⟩
   . exact h.o.imp_of_mem λhx hy hxy=>by rw[pold _ hx,pold _ hy];exact hxy
   . rw[Fo]at hy
     rw[hy,pold u hu];obtain⟨i,e,hi⟩:=h.v u hu;rw[J4a e,J4a (s:=M0 s z) hnew];omega
def FAt(C:Addr)(H:Hp)(M:List Addr)(q p:Addr)(n:Int)(s:S1):Prop:=∃la pa,M=[q,la,pa]/\la≠pa/\(∃dx,H q=some (.ins C dx (rf1 p n s.k la pa)))/\H la=some (.dK s.la)/\H pa=some (.dK s.pu)
def T1(C:Addr):Ar where
 C:=C
 St:=S1
 At:=FAt C
 asked:=λ_ s z=>J4b s z
 pick:=λ_ s l=>(s,l.headD Str.empty)
 gone:=λ_ s _=>s
 came:=λ_ s z=>M0 s z
 inv:=λns _ s l=>FI ns s l s.k
 mid:=λns _ _ s l=>FI ns s l (s.k - 1)
 dep:=λe ⟨la,pa,hM,d,⟨dx,ho⟩,h1,h2⟩=>by
  rw[hM]at e;exact⟨la,pa,hM,d,⟨dx,e _ (by simp) _ ho⟩,e _ (by simp) _ h1,e _ (by simp) _ h2⟩
 live:=λ⟨la,pa,hM,d,⟨dx,ho⟩,h1,h2⟩ m hm e=>by
  rw[hM]at hm;simp only[Ft,FM,or_false]at hm;rcases hm with e1 | e1 | e1
  . rw[e1,ho]at e;cases e
  . rw[e1,h1]at e;cases e
  . rw[e1,h2]at e;cases e
 obj:=λ⟨la,pa,hM,d,⟨dx,ho⟩,h1,h2⟩=>⟨dx,_,ho,by rfl,by rfl,by rfl,by rfl,by rfl,by rfl,by rfl⟩
 i_hit:=λ{ns n s l z} h hz _=>(FI.ask h hz).mono (show s.k<=s.k+1 by omega)
 i_mid:=λ{ns n s l z} h hz _=>(FI.ask h hz).mono (show s.k<=s.k+1 - 1 by omega)
 i_pick:=λh hl=>⟨Pp hl,FI.drop h⟩
 i_came:=λh hz hn=>FI.came h hz hn
theorem J0b{kf:Nat->List Int}{v:Nat->Int}{m:Nat}(hk:∀i,i<=m->kf i=[v i])(ho:∀i,i<=m->v 0<=v i):argBest (btK kf) m=0:=by
 have:∀j,j<=m->argBest (btK kf) j=0:=by
  intro j
  induction j with
  | zero=>intro _;rfl
  | succ j ih=>
   intro hj;show (if btK kf (j+1) (argBest (btK kf) j)=true then j+1 else argBest (btK kf) j)=0;rw[ih (by omega)]
   have:btK kf (j+1) 0=false:=by
    unfold btK;rw[hk _ hj,hk 0 (by omega)];show (if v (j+1)=v 0 then false else decide (v (j+1) < v 0))=false;have:=ho (j+1) hj;split
    . rfl
    . exact Fs (by omega)
   rw[this];rfl
 exact this m (Fg _)
def Ex(C:Addr):Sp:=λvs H Q _=>∃(q dx p:Addr) (n:Int),vs=[.ref q,.ref p,.int n]/\H q=some (.ins C dx [])/\1<=n/\n<=1000000/\∀H' la pa,SameBut q H H'->H la=none->H pa=none->FAt C H' [q,la,pa] q p n ⟨0,[],[]⟩->Q .non H'
def Ek(C:Addr):Sp:=λvs H Q _=>∃(q p:Addr) (n:Int) (M:List Addr) (s:S1) (z:Str),vs=[.ref q,.str z]/\FAt C H M q p n s/\s.la.length<=1000/\∀H',Kp M H H'->FAt C H' M q p n (J4b s z)->Q .non H'
def Ey(C:Addr):Sp:=λvs H Q _=>∃(q p:Addr) (n:Int) (M:List Addr) (s:S1) (z:Str) (i:Int),vs=[.ref q,.str z]/\FAt C H M q p n s/\B1 s.pu (Sum.inr z)=some (.int i)/\∀t,H t=none->Q (.ref t) (upd H t (.tup [.int i]))
section
variable {p la pa:Addr}{n k k':Int}
theorem J6d:(rf1 p n k la pa).length=5:=by rfl
theorem Ip:(rf1 p n k la pa).lookup ("present":Str)=some (V.int k):=by rfl
theorem J4c:(rf1 p n k la pa).lookup ("last":Str)=some (V.ref la):=by rfl
theorem Y2:(rf1 p n k la pa).lookup ("put_at":Str)=some (V.ref pa):=by rfl
end
end N22
namespace N21
open L2 N1 N5 N4 N6 N12 N32 N14 N20 N18 N25 NR N22
structure S2 where
 k:Int
 la:List (Key×V)
def lv(s:S2)(z:Str):Int:=match B1 s.la (Sum.inr z) with
 | some (.int i)=>i
 | _=>0
theorem Pq{s:S2}{z:Str}{i:Int}(h:B1 s.la (Sum.inr z)=some (.int i)):lv s z=i:=by unfold lv;rw[h]
def lmin(v:Str->Int)(l:List Str):Str:=l.getD (argBest (λi j=>decide (v (l.getD i Str.empty) < v (l.getD j Str.empty))) (l.length - 1)) Str.empty
theorem J6e{v:Str->Int}{l:List Str}(h:l≠[]):lmin v l∈l/\∀u∈l,v (lmin v l)<=v u:=by
 have hl0:0 < l.length:=Hi.mpr h;have hb:=Qn (λi=>v (l.getD i Str.empty)) (l.length - 1);unfold lmin;generalize argBest (λi j=>decide (v (l.getD i Str.empty) < v (l.getD j Str.empty))) (l.length - 1)=m at hb
 have hm:m < l.length:=by omega
 refine⟨?_,λu hu=>?_⟩
 . rw[Fd,Fb hm];exact Hj hm
 . obtain⟨j,hj⟩:=FL.mp hu
   have hjl:=(Fh.mp hj).1;have:=hb.2 j (by omega);rw[show l.getD j Str.empty=u by rw[Fd,hj];rfl]at this;exact this
structure LI(ns:List Str)(s:S2)(l:List Str):Prop where
 a:Bu s.la ns
 v:∀z∈l,∃i,B1 s.la (Sum.inr z)=some (.int i)/\i<=s.k
 o:l.Pairwise λx y=>lv s x≠lv s y
def Ld(s:S2)(z:Str):S2:=⟨s.k+1,Cj s.la (Sum.inr z) (.int (s.k+1))⟩
theorem Y3{s:S2}{z u:Str}(h:u≠z):B1 (Ld s z).la (Sum.inr u)=B1 s.la (Sum.inr u):=by
 unfold Ld;simp only;rw[Dr,if_neg (J6b h)]
theorem Qs{s:S2}{z:Str}:B1 (Ld s z).la (Sum.inr z)=some (.int (s.k+1)):=by
 unfold Ld;simp only;rw[Dr,if_pos rfl]
theorem O9{s:S2}{z u:Str}(h:u≠z):lv (Ld s z) u=lv s u:=by unfold lv;rw[Y3 h]
theorem J4d{s:S2}{z:Str}:lv (Ld s z) z=s.k+1:=Pq Qs
theorem LI.le{ns:List Str}{s:S2}{l:List Str}(h:LI ns s l):∀z∈l,lv s z<=s.k:=λz hz=>by
 obtain⟨i,e,hi⟩:=h.v z hz;rw[Pq e];exact hi
theorem LI.ask{ns:List Str}{s:S2}{l:List Str}{z:Str}(h:LI ns s l)(hz:z∈ns):LI ns (Ld s z) l:=by
 refine⟨h.a.put hz,λu hu=>?_,h.o.imp_of_mem λ{x y} hx hy hxy=>?_⟩
 . by_cases e:u=z
   . rw[e];exact⟨_,Qs,R8 _⟩
   . obtain⟨i,e1,e2⟩:=h.v u hu
     exact⟨i,(Y3 e).trans e1,by show i<=s.k+1;omega⟩
 . have lx:=h.le x hx
   have ly:=h.le y hy
   by_cases ex:x=z
   . by_cases ey:y=z
     . exact absurd (by rw[ex,ey]) hxy
     . rw[ex,J4d,O9 ey];omega
   . by_cases ey:y=z
     . rw[ey,J4d,O9 ex];omega
     . rw[O9 ex,O9 ey];exact hxy
theorem LI.drop{ns:List Str}{s:S2}{l:List Str}{z:Str}(h:LI ns s l):LI ns s (l.erase z):=
 ⟨h.a,λu hu=>h.v u (Hb hu),h.o.sublist List.erase_sublist⟩
structure LM(ns:List Str)(z:Str)(s:S2)(l:List Str):Prop where
 i:LI ns s l
 z:B1 s.la (Sum.inr z)=some (.int s.k)
 b:∀u∈l,lv s u < s.k
theorem LI.mid{ns:List Str}{s:S2}{l:List Str}{z:Str}(h:LI ns s l)(hz:z∈ns)(hn:z∉l):LM ns z (Ld s z) l:=
 ⟨h.ask hz,Qs,λu hu=>by
  have:=h.le u hu;have e:lv (Ld s z) u=lv s u:=O9 (λe=>hn (by rw[<- e];exact hu));show lv (Ld s z) u < s.k+1
  omega⟩
theorem LM.came{ns:List Str}{s:S2}{l:List Str}{z:Str}(h:LM ns z s l):LI ns s (l++[z]):=by
 refine⟨h.i.a,λu hu=>?_,?_⟩
 . rcases FB.mp hu with hu | hu
   . exact h.i.v u hu
   . rw[Fo.mp hu];exact⟨_,h.z,R8 _⟩
 . rw[List.pairwise_append]
   refine⟨h.i.o,List.pairwise_singleton ..,λu hu y hy=>?_⟩;rw[Fo.mp hy,Pq h.z];have:=h.b u hu;omega
def rf2(p:Addr)(n k:Int)(la:Addr):List (Str×V):=Ac "last" (.ref la) (Ac "present" (.int k) (rf0 p n))
def OAt(C:Addr)(H:Hp)(M:List Addr)(q p:Addr)(n:Int)(s:S2):Prop:=∃la,M=[q,la]/\(∃dx,H q=some (.ins C dx (rf2 p n s.k la)))/\H la=some (.dK s.la)
def T2(C:Addr):Ar where
 C:=C
 St:=S2
 At:=OAt C
 asked:=λ_ s z=>Ld s z
 pick:=λ_ s l=>(s,lmin (lv s) l)
 gone:=λ_ s _=>s
 came:=λ_ s _=>s
 inv:=λns _ s l=>LI ns s l
 mid:=λns _ z s l=>LM ns z s l
 dep:=λe ⟨la,hM,⟨dx,ho⟩,h1⟩=>by
  rw[hM]at e;exact⟨la,hM,⟨dx,e _ (by simp) _ ho⟩,e _ (by simp) _ h1⟩
 live:=λ⟨la,hM,⟨dx,ho⟩,h1⟩ m hm e=>by
  rw[hM]at hm;simp only[Ft,FM,or_false]at hm;rcases hm with e1 | e1
  . rw[e1,ho]at e;cases e
  . rw[e1,h1]at e;cases e
 obj:=λ⟨la,hM,⟨dx,ho⟩,h1⟩=>⟨dx,_,ho,by rfl,by rfl,by rfl,by rfl,by rfl,by rfl,by rfl⟩
 i_hit:=λh hz _=>LI.ask h hz
 i_mid:=λh hz hn=>LI.mid h hz hn
 i_pick:=λh hl=>⟨(J6e hl).1,LI.drop h.i,h.z,λu hu=>h.b u (Hb hu)⟩
 i_came:=λh _ _=>LM.came h
def s20:S2:=⟨0,[]⟩
section
variable {p la:Addr}{n k k':Int}
theorem Qt:(rf2 p n k la).length=4:=by rfl
theorem El:(rf2 p n k la).lookup ("present":Str)=some (V.int k):=by rfl
theorem Le:(rf2 p n k la).lookup ("last":Str)=some (V.ref la):=by rfl
end
def D4(C:Addr):Sp:=λvs H Q _=>∃(q p:Addr) (n:Int) (M:List Addr) (s:S2) (z:Str),vs=[.ref q,.str z]/\OAt C H M q p n s/\s.la.length<=1000/\∀H',Kp M H H'->OAt C H' M q p n (Ld s z)->Q .non H'
def D5(C:Addr):Sp:=λvs H Q _=>∃(q p:Addr) (n:Int) (M:List Addr) (s:S2) (z:Str) (i:Int),vs=[.ref q,.str z]/\OAt C H M q p n s/\B1 s.la (Sum.inr z)=some (.int i)/\Q (.int i) H
def D6(C:Addr):Sp:=λvs H Q _=>∃(q p:Addr) (n:Int) (M:List Addr) (s:S2) (z:Str) (i:Int),vs=[.ref q,.str z]/\OAt C H M q p n s/\B1 s.la (Sum.inr z)=some (.int i)/\∀t,H t=none->Q (.ref t) (upd H t (.tup [.int i]))
theorem J4e{v:Nat->Int}:btK (λi=>[v i])=λi j=>decide (v i < v j):=by
 funext i j;show (if v i=v j then false else decide (v i < v j))=decide (v i < v j);split
 . rename_i e;rw[e];exact(Fs (Int.lt_irrefl _)).symm
 . rfl
def M3(T:Ar)(K:PySem.W.Frag)(C S:Addr):Sp:=λvs H Q _=>∃(H0:Hp) (q p a:Addr) (M:List Addr) (n:Int) (ts:List Th) (ys:List Str) (s0:T.St),vs=[.ref q,.ref a]/\T.At H M q p n s0/\T.inv (ts.map (·.1)) n s0 []/\Aq K C H0 p ts/\Aa H0 H/\(∀m∈M,H0 m=none)/\(ts.map (·.1)).Nodup/\ts.length<=60/\SqL K H a (ys.map V.str)/\a∉M/\ys.length<=200/\(∀y∈ys,y∈ts.map (·.1))/\(∀y∈ys,rm ts y<=n)/\1<=n/\n<=1000000/\T.cnt s0<=50/\
 ∀(b:Addr) (as gs:List Addr) (H':Hp),Kp M H H'->H' b=some (.lst (as.map V.ref))->(∀(i:Nat) a,as[i]?=some a->∃xs,H' a=some (.tup xs))->Lz K H' b as gs (grows T (rm ts) n s0 ys ys.length)->T.At H' M q p n (gst T (rm ts) n s0 ys ys.length).1->H b=none->b∉gs->gs.Nodup->(∀(i:Nat) a g,as[i]?=some a->gs[i]?=some g->H a=none/\H g=none/\g∉M/\H' a=some (.tup [.str (NR.grow T (rm ts) n s0 ys i).1,.bl (NR.grow T (rm ts) n s0 ys i).2.1,.ref g])/\H' g=some (.lst ((NR.grow T (rm ts) n s0 ys i).2.2.map V.str)))->Q (.ref b) H'
end N21
namespace N24
open L2 N1 N5 N4 N6 N12 N32 N14 N20 N18 N25 NR N22 N21
theorem Jcn{a b c d:Int}:HT.Do [a,b] [c,d]=decide (a < c\/(a=c/\b < d)):=by
 show (if a=c then (if b=d then false else decide (b < d)) else decide (a < c))=_
 by_cases h:a=c
 . rw[if_pos h]
   by_cases h2:b=d
   . rw[if_pos h2];symm;exact Fs (by omega)
   . rw[if_neg h2]
     by_cases h3:b < d
     . rw[Fj h3];symm;exact Fj (by omega)
     . rw[Fs h3];symm;exact Fs (by omega)
 . rw[if_neg h]
   by_cases h3:a < c
   . rw[Fj h3];symm;exact Fj (by omega)
   . rw[Fs h3];symm;exact Fs (by omega)
theorem J87(a b:Nat->Int):∀k,argBest (btK λi=>[a i,b i]) k<=k/\∀j,j<=k->¬(a j < a (argBest (btK λi=>[a i,b i]) k)\/(a j=a (argBest (btK λi=>[a i,b i]) k)/\b j < b (argBest (btK λi=>[a i,b i]) k))):=by
 intro k
 induction k with
 | zero=>exact⟨Fg _,λj hj=>by rw[RT.mp hj];show ¬(a 0 < a 0\/(a 0=a 0/\b 0 < b 0));omega⟩
 | succ k ih=>
  have e:argBest (btK λi=>[a i,b i]) (k+1)=if HT.Do [a (k+1),b (k+1)] [a (argBest (btK λi=>[a i,b i]) k),b (argBest (btK λi=>[a i,b i]) k)]=true then k+1 else argBest (btK λi=>[a i,b i]) k:=rfl
  rw[e,Jcn];generalize argBest (btK λi=>[a i,b i]) k=m at ih;split
  . rename_i h
    have h:=RH h;refine⟨Fg _,λj hj=>?_⟩
    by_cases e:j=k+1
    . rw[e];omega
    . have:=ih.2 j (by omega);omega
  . rename_i h
    have h:¬(a (k+1) < a m\/(a (k+1)=a m/\b (k+1) < b m)):=λz=>h (Fj z);refine⟨Nat.le_succ_of_le ih.1,λj hj=>?_⟩
    by_cases e:j=k+1
    . rw[e];exact h
    . exact ih.2 j (by omega)
end N24
namespace L2
def J6f:List V->Hp->VK->Prop:=λxs H Q=>∃a kvs,xs=[.ref a]/\H a=some (.dK kvs)/\∀l,H l=none->Q (.ref l) (upd H l (.dK kvs))
section
variable {H:Hp}{Q:VK}{x:V}{xs:List V}
theorem Pr:J6f xs H Q=∃a kvs,xs=[.ref a]/\H a=some (.dK kvs)/\∀l,H l=none->Q (.ref l) (upd H l (.dK kvs)):=rfl
end
structure M4(K:PySem.W.Frag)(x qual:Str)(st:Stmt)(f:Addr)(fd:FuncData)(dv:List Value):Prop where
 ex:∃(oc:Value) (od:Option Addr) (dT:Addr) (ob:Obj) (n:Nat) (kV doc pm:Value) (an:Option Addr) (cdv ct:Value) (osl:Array (Option Value)),
  fd=PySem.W.fnOf x qual (B2 st) (Ax st) (A6 st) (.ref dT) kV doc pm an cdv ct/\K.lookup f=some ⟨oc,od,.func fd,osl⟩/\PySem.W.codeIn K cdv qual=true/\K.lookup dT=some ob/\ob.data= .seq dv.toArray n
 kp:PySem.W.keepIn K (.ref f)=true
theorem lcD{us:List α}{n:Nat}(h:us.length=n+1):∃u r,us=u::r/\r.length=n:=by
 cases us with
 | nil=>cases h
 | cons u r=>exact⟨u,r,rfl,Nat.succ.inj h⟩
theorem l0D{us:List α}(h:us.length=0):us=[]:=by
 cases us with
 | nil=>rfl
 | cons u r=>cases h
section
variable {P:Program}{w:World}{K:PySem.W.Frag}{mg:Str->Option Value}{base:Heap}{x qual:Str}{st:Stmt}{f:Addr}{fd:FuncData}{dv:List Value}{N ps:List Str}{k:Nat}{sp:Sp}
theorem M4.binds{p1 p2 p3 p4:Str}{d:Value}(F:M4 K x qual st f fd [d])
 (h:∀(dT:Addr) (kV doc pm:Value) (an:Option Addr) (cdv ct a b c:Value),∃k,bindArgs (PySem.W.fnOf x qual (B2 st) (Ax st) (A6 st) (.ref dT) kV doc pm an cdv ct) ⟨[a,b,c],[]⟩=seqItems? (.ref dT) >>=k/\k (some [d].toArray)=pure [(p1,a),(p2,b),(p3,c),(p4,d)]):Bl K fd [p1,p2,p3,p4] [d]:=by
 obtain⟨oc,od,dT,ob,n,kV,doc,pm,an,cdv,ct,osl,rfl,lk,hcd,hT,hs⟩:=F.ex;intro s us X hl
 have hl':us.length=3:=by simpa using hl
 obtain⟨a,us,rfl,k1⟩:=lcD hl';obtain⟨b,us,rfl,k2⟩:=lcD k1;obtain⟨c,us,rfl,k3⟩:=lcD k2;cases l0D k3;obtain⟨k,h1,h2⟩:=h dT kV doc pm an cdv ct a b c;exact PySem.W.binds_K X rfl hT hs h1 h2
def g31:List Value->List Value->List Value
 | [a,b,c],[d]=>[a,b,c,d]
 | _,_=>[]
def J0c:List V->List V->List V
 | [a,b,c],[d]=>[a,b,c,d]
 | _,_=>[]
theorem Y4{a b c d:V}:J0c [a,b,c] [d]=[a,b,c,d]:=rfl
theorem J6g{vs zs:List V}{ws:List Value}(r:Ay vs us)(rz:Ay zs ws):Ay (J0c vs zs) (g31 us ws):=by
 cases r with
 | nil=>exact .nil
 | cons r1 r=>cases r with
  | nil=>exact .nil
  | cons r2 r=>cases r with
   | nil=>exact .nil
   | cons r3 r=>cases r with
    | nil=>cases rz with
     | nil=>exact .nil
     | cons r4 rz=>cases rz with
      | nil=>exact .cons r1 (.cons r2 (.cons r3 (.cons r4 .nil)))
      | cons r5 rz=>exact .nil
    | cons r5 r=>cases rz <;> exact .nil
theorem M4.kbinds{p1 p2 p3 p4:Str}{d0:Value}(F:M4 K x qual st f fd [d0])
 (h:∀(dT:Addr) (kV doc pm:Value) (an:Option Addr) (cdv ct a b c d:Value),∃k,bindArgs (PySem.W.fnOf x qual (B2 st) (Ax st) (A6 st) (.ref dT) kV doc pm an cdv ct) ⟨[a,b,c],[(p4,d)]⟩=seqItems? (.ref dT) >>=k/\k (some [d0].toArray)=pure [(p1,a),(p2,b),(p3,c),(p4,d)]):J0z K fd [p1,p2,p3,p4] [p4] g31 J0c:=by
 obtain⟨oc,od,dT,ob,n,kV,doc,pm,an,cdv,ct,osl,rfl,lk,hcd,hT,hs⟩:=F.ex;refine⟨λs us ws X hl=>?_,J6g⟩
 match us,ws,hl with
 | [a,b,c],[d],_=>
  obtain⟨k,h1,h2⟩:=h dT kV doc pm an cdv ct a b c d;exact PySem.W.binds_K X rfl hT hs h1 h2
theorem M4.full{p1 p2 p3 p4:Str}{d0:Value}(F:M4 K x qual st f fd [d0])
 (h:∀(dT:Addr) (kV doc pm:Value) (an:Option Addr) (cdv ct a b c d:Value),∃k,bindArgs (PySem.W.fnOf x qual (B2 st) (Ax st) (A6 st) (.ref dT) kV doc pm an cdv ct) ⟨[a,b,c,d],[]⟩=seqItems? (.ref dT) >>=k/\k (some [d0].toArray)=pure [(p1,a),(p2,b),(p3,c),(p4,d)]):Bl K fd [p1,p2,p3,p4] []:=by
 obtain⟨oc,od,dT,ob,n,kV,doc,pm,an,cdv,ct,osl,rfl,lk,hcd,hT,hs⟩:=F.ex;intro s us X hl
 have hl':us.length=4:=by simpa using hl
 obtain⟨a,us,rfl,k1⟩:=lcD hl';obtain⟨b,us,rfl,k2⟩:=lcD k1;obtain⟨c,us,rfl,k3⟩:=lcD k2;obtain⟨d,us,rfl,k4⟩:=lcD k3;cases l0D k4;obtain⟨k,h1,h2⟩:=h dT kV doc pm an cdv ct a b c d;exact PySem.W.binds_K X rfl hT hs h1 h2
theorem J6h{osl:Array (Option Value)}{dT:Addr}{kV pm ct:Value}{ob:Obj}{n:Nat}(l:K.lookup f=some ⟨oc,od,.func (PySem.W.fnOf x qual (B2 st) (Ax st) (A6 st) (.ref dT) kV doc pm an cdv ct),osl⟩)
 (c:PySem.W.codeIn K cdv qual=true) (k:PySem.W.keepIn K (.ref f)=true) (hT:K.lookup dT=some ob) (hs:ob.data= .seq dv.toArray n):M4 K x qual st f (PySem.W.fnOf x qual (B2 st) (Ax st) (A6 st) (.ref dT) kV doc pm an cdv ct) dv:=⟨⟨oc,od,dT,ob,n,kV,doc,pm,an,cdv,ct,osl,rfl,l,c,hT,hs⟩,k⟩
end
structure Oa(P:Program)(w:World)(K:PySem.W.Frag)(mg:Str->Option Value)(base:Heap)(CX:CXT)(k:Nat)(x:Str)(C:Addr)(ps:List Str)(kn:Str)(dvs:List V)(sp:Sp):Prop where
 ex:∃(f:Addr) (fd:FuncData) (ds:List Value),Ai P w K mg base CX k f fd ps sp/\Mk K C f/\mg x=some (.ref C)/\Ay dvs ds/\Bl K fd ps ds/\J0z K fd ps [kn] g31 J0c/\Bl K fd ps []
theorem Oa.toI{w:World}{K:PySem.W.Frag}{mg:Str->Option Value}{base:Heap}{k:Nat}{x:Str}{C:Addr}{kn:Str}{dvs:List V}{sp:Sp}(D:Oa P w K mg base CX k x C ps kn dvs sp):Kj P w K mg base CX k x C ps sp:=
 let ⟨f,fd,_,a,b,c,_,_,_,d⟩:=D.ex;⟨f,fd,a,b,c,d⟩
def J9q(C:Addr)(sp:Sp)(dvs:List V)(EE:St->XK)(t:TA):TE:=λσ H Q=>t σ H λvs H1=>∀x dx,H1 x=none->H1 dx=none->dx≠x->sp (.ref x::(vs++dvs)) (upd (upd H1 dx (.own x)) x (.ins C dx [])) (λv H2=>v= .non/\Q (.ref x) H2) (EE σ)
def J9r(C:Addr)(sp:Sp)(EE:St->XK)(t tk:TA):TE:=λσ H Q=>t σ H λvs H1=>tk σ H1 λzs H2=>∀x dx,H2 x=none->H2 dx=none->dx≠x->sp (J0c (.ref x::vs) zs) (upd (upd H2 dx (.own x)) x (.ins C dx [])) (λv H3=>v= .non/\Q (.ref x) H3) (EE σ)
section
variable {X:Cx}{CX:CXT}{k j:Nat}{f C:Addr}{fd:FuncData}{ps:List Str}{sp:Sp}{EE:St->XK}{x kn:Str}{p pos kpos:Pos}{e ke:Expr}{es:List Expr}{kws:List Keyword}{t tk:TA}{te:TE}{dvs:List V}
theorem U6{H:Hp}:J9q C sp dvs EE t σ H Q=t σ H λvs H1=>∀x dx,H1 x=none->H1 dx=none->dx≠x->sp (.ref x::(vs++dvs)) (upd (upd H1 dx (.own x)) x (.ins C dx [])) (λv H2=>v= .non/\Q (.ref x) H2) (EE σ):=rfl
theorem U7{H:Hp}:J9r C sp EE t tk σ H Q=t σ H λvs H1=>tk σ H1 λzs H2=>∀x dx,H2 x=none->H2 dx=none->dx≠x->sp (J0c (.ref x::vs) zs) (upd (upd H2 dx (.own x)) x (.ins C dx [])) (λv H3=>v= .non/\Q (.ref x) H3) (EE σ):=rfl
end
end L2
namespace N23
open L2 N1 N5 N4 N6 N12 N32 N14 N20 N18 N25 NR N22 N21 N24
def tvK(d:List (Key×V))(k:Key):Int:=match B1 d k with
 | some (.int i)=>i
 | _=>0
theorem J4f{d:List (Key×V)}{k:Key}{i:Int}(h:B1 d k=some (.int i)):tvK d k=i:=by unfold tvK;rw[h]
def J4g(d:List (Key×V))(k:Key):List (Key×V):=Cj d k (.int (tvK d k / 2))
def hvi(d:List (Key×V))(i:Nat):List (Key×V):=((d.map (·.1)).take i).foldl J4g d
def hvd(d:List (Key×V)):List (Key×V):=hvi d d.length
theorem U8{d:List (Key×V)}{i:Nat}{k:Key}(h:(d.map (·.1))[i]?=some k):hvi d (i+1)=J4g (hvi d i) k:=by
 unfold hvi;rw[He,h,List.foldl_append];rfl
structure TI(ns:List Str)(d:List (Key×V)):Prop where
 k:Bu d ns
 v:∀k v,B1 d k=some v->∃i:Int,v= .int i
theorem TI.nil{ns:List Str}:TI ns []:=⟨Bu.nil,λk v h=>by cases h⟩
theorem TI.put{ns:List Str}{d:List (Key×V)}{z:Str}{i:Int}(h:TI ns d)(hz:z∈ns):TI ns (Cj d (Sum.inr z) (.int i)):=
 ⟨h.k.put hz,λk v e=>by
  rw[Dr]at e;split at e
  . cases e;exact⟨i,rfl⟩
  . exact h.v k v e⟩
theorem TI.keys{ns:List Str}{d:List (Key×V)}(h:TI ns d):∃ks:List Str,d.map (·.1)=ks.map Sum.inr/\(∀z∈ks,z∈ns):=let ⟨ks,a,_,b⟩:=h.k;⟨ks,a,b⟩
theorem J0d{d:List (Key×V)}{k:Key}(h:k∈d.map (·.1)):∃v,B1 d k=some v:=by
 have:(B1 d k).isSome=true:=by
  rw[<- D1];obtain⟨p,hp,e⟩:=FK.mp h;exact Rl.mpr ⟨p,hp,Fj e⟩
 exact Ho.mp this
theorem Vl{ns:List Str}{d:List (Key×V)}(h:TI ns d):∀i,TI ns (hvi d i)/\∀k,(∃j:Int,B1 d k=some (.int j))->∃j:Int,B1 (hvi d i) k=some (.int j):=by
 obtain⟨ks,e,hin⟩:=h.keys;intro i
 induction i with
 | zero=>exact⟨h,λk hk=>hk⟩
 | succ i ih=>
  cases hk:(d.map (·.1))[i]? with
  | none=>
   have:hvi d (i+1)=hvi d i:=by unfold hvi;rw[He,hk,Option.toList_none,Ha]
   rw[this];exact ih
  | some k=>
   rw[U8 hk]
   obtain⟨z,hz,rfl⟩:∃z,z∈ks/\Sum.inr z=k:=by
    have:=Fq hk;rw[e]at this;exact FK.mp this
   refine⟨ih.1.put (hin z hz),λk hk'=>?_⟩;unfold J4g;rw[Dr];split
   . exact⟨_,rfl⟩
   . exact ih.2 k hk'
theorem TI.at_{ns:List Str}{d:List (Key×V)}{z:Str}(h:TI ns d)(hz:Sum.inr z∈d.map (·.1))(i:Nat):B1 (hvi d i) (Sum.inr z)=some (.int (tvK (hvi d i) (Sum.inr z))):=by
 obtain⟨v,hv⟩:=J0d hz;obtain⟨j,rfl⟩:=h.v _ _ hv;obtain⟨j2,h2⟩:=(Vl h i).2 _ ⟨j,hv⟩;rw[J4f h2];exact h2
theorem TI.get{ns:List Str}{d:List (Key×V)}{k:Key}(h:TI ns d):(B1 d k).getD (V.int 0)=V.int (tvK d k):=by
 unfold tvK
 cases e:B1 d k with
 | none=>rfl
 | some v=>obtain⟨i,rfl⟩:=h.v _ _ e;rfl
theorem J4h{d:List (Key×V)}{ks:List Str}(h:d.map (·.1)=ks.map Sum.inr):d.map (λp=>kV p.1)=ks.map V.str:=by
 have:d.map (λp=>kV p.1)=(d.map (·.1)).map kV:=by rw[FA];rfl
 rw[this,h,FA];rfl
def tbl(e k:Int)(d:List (Key×V)):List (Key×V):=if k % e=0 then hvd d else d
def J0e(e k:Int)(d:List (Key×V))(z:Str):List (Key×V):=Cj (tbl e k d) (Sum.inr z) (.int (tvK (tbl e k d) (Sum.inr z)+1))
theorem J4i{ns:List Str}{d:List (Key×V)}{e k:Int}(h:TI ns d):TI ns (tbl e k d)/\∀q,(∃j:Int,B1 d q=some (.int j))->∃j:Int,B1 (tbl e k d) q=some (.int j):=by
 unfold tbl;split
 . exact Vl h _
 . exact⟨h,λ_ x=>x⟩
theorem Y5{ns:List Str}{d:List (Key×V)}{e k:Int}{z:Str}(h:TI ns d)(hz:z∈ns):TI ns (J0e e k d z)/\(∀u:Str,(∃j:Int,B1 d (Sum.inr u)=some (.int j))->∃j:Int,B1 (J0e e k d z) (Sum.inr u)=some (.int j))/\∃j:Int,B1 (J0e e k d z) (Sum.inr z)=some (.int j):=by
 obtain⟨a,b⟩:=J4i (e:=e) (k:=k) h;refine⟨a.put hz,λu hu=>?_,?_⟩
 . unfold J0e
   rw[Dr];split
   . exact⟨_,rfl⟩
   . exact b _ hu
 . unfold J0e
   rw[Dr,if_pos rfl];exact⟨_,rfl⟩
structure S4 where
 b:S2
 ta:List (Key×V)
 e:Int
def Jbv(s:S4)(z:Str):S4:=⟨Ld s.b z,J0e s.e s.b.k s.ta z,s.e⟩
def rkH(s:S4)(z:Str):List Int:=[tvK s.ta (Sum.inr z),lv s.b z]
def hmin(s:S4)(l:List Str):Str:=l.getD (argBest (btK λi=>rkH s (l.getD i Str.empty)) (l.length - 1)) Str.empty
theorem J6i{s:S4}{l:List Str}(h:l≠[]):hmin s l∈l/\∀u∈l,tvK s.ta (Sum.inr (hmin s l)) < tvK s.ta (Sum.inr u)\/(tvK s.ta (Sum.inr (hmin s l))=tvK s.ta (Sum.inr u)/\lv s.b (hmin s l)<=lv s.b u):=by
 have hl0:0 < l.length:=Hi.mpr h;have hb:=J87 (λi=>tvK s.ta (Sum.inr (l.getD i Str.empty))) (λi=>lv s.b (l.getD i Str.empty)) (l.length - 1);unfold hmin;have e:(λi=>rkH s (l.getD i Str.empty))=λi=>[tvK s.ta (Sum.inr (l.getD i Str.empty)),lv s.b (l.getD i Str.empty)]:=rfl;rw[e];generalize argBest (btK λi=>[tvK s.ta (Sum.inr (l.getD i Str.empty)),lv s.b (l.getD i Str.empty)]) (l.length - 1)=m at hb
 have hm:m < l.length:=by omega
 refine⟨?_,λu hu=>?_⟩
 . rw[Fd,Fb hm];exact Hj hm
 . obtain⟨j,hj⟩:=FL.mp hu
   have hjl:=(Fh.mp hj).1;have:=hb.2 j (by omega);rw[show l.getD j Str.empty=u by rw[Fd,hj];rfl]at this;omega
structure CI(ns:List Str)(s:S4)(l:List Str):Prop where
 t:TI ns s.ta
 v:∀z∈l,∃j:Int,B1 s.ta (Sum.inr z)=some (.int j)
 e1:1<=s.e
 e2:s.e<=200
theorem CI.ask{ns:List Str}{s:S4}{l:List Str}{z:Str}(h:CI ns s l)(hz:z∈ns):CI ns (Jbv s z) l:=
 let c:=Y5 (e:=s.e) (k:=s.b.k) h.t hz
 ⟨c.1,λu hu=>c.2.1 u (h.v u hu),h.e1,h.e2⟩
theorem CI.drop{ns:List Str}{s:S4}{l:List Str}{z:Str}(h:CI ns s l):CI ns s (l.erase z):=⟨h.t,λu hu=>h.v u (Hb hu),h.e1,h.e2⟩
def rf4(p:Addr)(n k:Int)(la:Addr)(e:Int)(ta:Addr):List (Str×V):=Ac "tally" (.ref ta) (Ac "turn" (.int e) (rf2 p n k la))
def GAt(C:Addr)(H:Hp)(M:List Addr)(q p:Addr)(n:Int)(s:S4):Prop:=∃la ta,M=[q,la,ta]/\(∃dx,H q=some (.ins C dx (rf4 p n s.b.k la s.e ta)))/\H la=some (.dK s.b.la)/\H ta=some (.dK s.ta)/\la≠ta
def T4(C:Addr):Ar where
 C:=C
 St:=S4
 At:=GAt C
 asked:=λ_ s z=>Jbv s z
 pick:=λ_ s l=>(s,hmin s l)
 gone:=λ_ s _=>s
 came:=λ_ s _=>s
 inv:=λns _ s l=>LI ns s.b l/\CI ns s l
 mid:=λns _ z s l=>LM ns z s.b l/\CI ns s l/\∃j:Int,B1 s.ta (Sum.inr z)=some (.int j)
 dep:=λe ⟨la,ta,hM,⟨dx,ho⟩,h1,h2,hne⟩=>by
  rw[hM]at e;exact⟨la,ta,hM,⟨dx,e _ (by simp) _ ho⟩,e _ (by simp) _ h1,e _ (by simp) _ h2,hne⟩
 live:=λ⟨la,ta,hM,⟨dx,ho⟩,h1,h2,hne⟩ m hm e=>by
  rw[hM]at hm;simp only[Ft,FM,or_false]at hm;rcases hm with e1 | e1 | e1
  . rw[e1,ho]at e;cases e
  . rw[e1,h1]at e;cases e
  . rw[e1,h2]at e;cases e
 obj:=λ⟨la,ta,hM,⟨dx,ho⟩,h1,h2,hne⟩=>⟨dx,_,ho,by rfl,by rfl,by rfl,by rfl,by rfl,by rfl,by rfl⟩
 i_hit:=λ{ns n s l z} h hz _=>⟨LI.ask h.1 hz,h.2.ask hz⟩
 i_mid:=λ{ns n s l z} h hz hn=>⟨LI.mid h.1 hz hn,h.2.ask hz,(Y5 (e:=s.e) (k:=s.b.k) h.2.t hz).2.2⟩
 i_pick:=λh hl=>⟨(J6i hl).1,⟨LI.drop h.1.i,h.1.z,λu hu=>h.1.b u (Hb hu)⟩,h.2.1.drop,h.2.2⟩
 i_came:=λ{ns n s l z} h _ _=>⟨LM.came h.1,h.2.1.t,λu hu=>(FB.mp hu).elim (h.2.1.v u) (λe=>by rw[Fo.mp e];exact h.2.2),h.2.1.e1,h.2.1.e2⟩
section
variable {p la ta:Addr}{n k k' e:Int}
theorem J6j:(rf4 p n k la e ta).length=6:=by rfl
theorem Iq:(rf4 p n k la e ta).lookup ("present":Str)=some (V.int k):=by rfl
theorem U9:(rf4 p n k la e ta).lookup ("last":Str)=some (V.ref la):=by rfl
theorem J4j:(rf4 p n k la e ta).lookup ("turn":Str)=some (V.int e):=by rfl
theorem E5:(rf4 p n k la e ta).lookup ("tally":Str)=some (V.ref ta):=by rfl
end
def s40(e:Int):S4:=⟨s20,[],e⟩
def E6(C:Addr):Sp:=λvs H Q _=>∃(q dx p:Addr) (n e:Int),vs=[.ref q,.ref p,.int n,.int e]/\H q=some (.ins C dx [])/\1<=n/\n<=1000000/\1<=e/\e<=200/\∀H' la ta,SameBut q H H'->H la=none->H ta=none->GAt C H' [q,la,ta] q p n (s40 e)->Q .non H'
def Gr(C:Addr):Sp:=λvs H Q _=>∃(q p:Addr) (n:Int) (M:List Addr) (s:S4) (ns:List Str),vs=[.ref q]/\GAt C H M q p n s/\TI ns s.ta/\ns.length<=1000/\∀H',Kp M H H'->GAt C H' M q p n ⟨s.b,hvd s.ta,s.e⟩->Q .non H'
def Em(C:Addr):Sp:=λvs H Q _=>∃(q p:Addr) (n:Int) (M:List Addr) (s:S4) (z:Str),vs=[.ref q,.str z]/\GAt C H M q p n s/\s.b.la.length<=1000/\∀H',Kp M H H'->GAt C H' M q p n ⟨Ld s.b z,s.ta,s.e⟩->Q .non H'
def Ez(C:Addr):Sp:=λvs H Q _=>∃(q p:Addr) (n:Int) (M:List Addr) (s:S4) (z:Str) (i:Int),vs=[.ref q,.str z]/\GAt C H M q p n s/\B1 s.b.la (Sum.inr z)=some (.int i)/\Q (.int i) H
def G0(C:Addr):Sp:=λvs H Q _=>∃(q p:Addr) (n:Int) (M:List Addr) (s:S4) (z:Str),vs=[.ref q,.str z]/\GAt C H M q p n s/\(∃i:Int,B1 s.b.la (Sum.inr z)=some (.int i))/\(∃j:Int,B1 s.ta (Sum.inr z)=some (.int j))/\∀t,H t=none->Q (.ref t) (upd H t (.tup ((rkH s z).map V.int)))
theorem Jbw{C:Addr}{ns:List Str}{n e:Int}(h1:1<=e)(h2:e<=200):(T4 C).inv ns n (s40 e) []:=⟨⟨Bu.nil,by simp,List.Pairwise.nil⟩,⟨TI.nil,by simp,h1,h2⟩⟩
end N23
namespace L2
def J4k{ι:Type}(C:ι->Addr)(m:Str)(sp:ι->Sp)(EE:St->XK)(ta:TE)(t:TA):TE:=λσ H Q=>ta σ H λx H1=>∃b a dx fs,x= .ref a/\H1 a=some (.ins (C b) dx fs)/\fs.lookup m=none/\t σ H1 λvs H2=>sp b (x::vs) H2 Q (EE σ)
section
variable {ι:Type}{X:Cx}{CX:CXT}{k j:Nat}{C:ι->Addr}{ps:List Str}{sp:ι->Sp}{EE:St->XK}{m:Str}{pos apos:Pos}{e o:Expr}{es:List Expr}{ta:TE}{t:TA}
theorem Lf{pl:Sem Bool}(D:∀b,Bn X.prog X.w X.K X.mg X.base CX j (C b) m ps (sp b))(c:∀b,Cls X.K (C b))(hr:Bt k X.A)(hx:Ci CX X EE)(he:PE X o ta)(ha:PA X (e::es) t)(hj:j<=k:=by decide)
 (hst:starEach (e::es) X.env=(false,eval e X.env)::starEach es X.env:=by rfl) (hpl:(backTo pos (starEach es X.env)).any (·.1)=false:=by rfl)
 (ht:eval (.Call (.Attribute o m apos) (e::es) [] pos) X.env=(do
  let ov <- eval o X.env
  standAt apos.atName
  let (f,first) <- holding [ov] (getMethod ov m pl)
  callWith pos f first (backTo pos (starEach (e::es) X.env)) (backToKw pos (keywordEach [] X.env))):=by rfl):
 PE X (.Call (.Attribute o m apos) (e::es) [] pos) (J4k C m sp EE ta t):=by
 intro pins s σ H Q I h;refine HZ (pl:=pl) (thn (he pins s σ H _ I h) λu s1 hq_=>?_) ht;obtain⟨x,H1,I1,rx,b,a,dx,fs,ex,ea,l,q⟩:=hq_;obtain⟨f,fd,F,hm,hb⟩:=(D b).ex;subst ex;obtain rfl:u=Value.ref a:=rx;refine Kg I1 ea (c b) hm l ?_;refine FW (first:=[.ref a]) (h₀:=X.base) I.ok.mod.kin hm.kp (thn (ha pos pins s1 σ H1 _ I1 q) λus s2 ⟨vs,H2,I2,r,q2⟩=>⟨I2.kIn,?_⟩) hst hpl;exact Mn (us:= .ref a::us) (vs:= .ref a::vs) (F.mono hj) hr hb hx I2 (.cons rfl r) q2
theorem Ua{H:Hp}:J4k C m sp EE ta t σ H Q=ta σ H λx H1=>∃b a dx fs,x= .ref a/\H1 a=some (.ins (C b) dx fs)/\fs.lookup m=none/\t σ H1 λvs H2=>sp b (x::vs) H2 Q (EE σ):=rfl
end
def Jbx:R2:=λx y H Q=>∃a b kvs,x= .ref a/\y= .ref b/\H a=some (.dK kvs)/\H b=some (.dK kvs)/\(∀p∈kvs,Ca p.2=true)/\Q (.bl false) H
section
variable {X:Cx}
theorem Y6{x y:V}{H:Hp}:Jbx x y H Q=∃a b kvs,x= .ref a/\y= .ref b/\H a=some (.dK kvs)/\H b=some (.dK kvs)/\(∀p∈kvs,Ca p.2=true)/\Q (.bl false) H:=rfl
end
end L2
namespace N29
open L2 N1 N5 N4 N6 N12 N32 N14 N20 N18 N25 NR N22 N21 N24 N23
inductive W5 where
 | ra | ol | fi | ha | fa
structure C5 where
 ra:Addr
 ol:Addr
 fi:Addr
 ha:Addr
 fa:Addr
structure L5 where
 k:Int
 la:List (Key×V)
 pu:List (Key×V)
 ta:List (Key×V)
 e:Int
end N29
namespace N30
open PySem
end N30
namespace L2
def Jco(s:List Str)(y:Str):List Str:=if y∈s then s else s++[y]
def dis(ys:List Str):List Str:=ys.foldl Jco []
section
variable {X:Cx}
def J6k(K:PySem.W.Frag)(t:TA):TE:=λσ H Q=>t σ H λvs H1=>∃a ys,vs=[.ref a]/\SqL K H1 a (ys.map V.str)/\ys.length<=250/\Q (.int (dis ys).length) H1
end
theorem Ps{K:PySem.W.Frag}{H:Hp}{t:TA}:J6k K t σ H Q=t σ H λvs H1=>∃a ys,vs=[.ref a]/\SqL K H1 a (ys.map V.str)/\ys.length<=250/\Q (.int (dis ys).length) H1:=rfl
def J9s(K:PySem.W.Frag):List V->Hp->VK->Prop:=λxs H Q=>∃(p:Addr) (ys:List Str),xs=[.ref p]/\SqL K H p (ys.map V.str)/\ys.length < 64/\∀(q:Addr) (zs:List Str),H q=none->zs.Perm ys->sortedS zs=true->Q (.ref q) (upd H q (.lst (zs.map V.str)))
theorem Ub{K:PySem.W.Frag}{H:Hp}:J9s K xs H Q=∃(p:Addr) (ys:List Str),xs=[.ref p]/\SqL K H p (ys.map V.str)/\ys.length < 64/\∀(q:Addr) (zs:List Str),H q=none->zs.Perm ys->sortedS zs=true->Q (.ref q) (upd H q (.lst (zs.map V.str))):=rfl
open N30
section
variable {K:Type} [DecidableEq K]
def ds1(s:List K)(y:K):List K:=if y∈s then s else s++[y]
def ds(ys:List K):List K:=ys.foldl ds1 []
end
def Itk(o:Obj)(d:Addr):It:=
 ⟨λi H=>∃kvs p,H d=some (.frz o (.dK kvs))/\kvs[i]?=some p,λi H v H'=>H'=H/\∀kvs,H d=some (.frz o (.dK kvs))->∃p,kvs[i]?=some p/\v=kV p.1,
  λi H=>∃kvs,H d=some (.frz o (.dK kvs))/\kvs.length<=i⟩
section
variable {X:Cx}
def Jby(tl:TE):TI:=λσ H R=>tl σ H λx H1=>∃d kvs,x= .ref d/\((H1 d=some (.dK kvs)/\∀o,R (Itk o d) (upd H1 d (.frz o (.dK kvs))))\/∃o,H1 d=some (.frz o (.dK kvs))/\R (Itk o d) H1)
end
section
variable {σ:St}{H:Hp}{D:Dh}
theorem Uc{tl:TE}{R:It->Hp->Prop}:Jby tl σ H R=tl σ H λx H1=>∃d kvs,x= .ref d/\((H1 d=some (.dK kvs)/\∀o,R (Itk o d) (upd H1 d (.frz o (.dK kvs))))\/∃o,H1 d=some (.frz o (.dK kvs))/\R (Itk o d) H1):=rfl
end
end L2
namespace N36
open L2 N1 N5 N4 N6 N12 N32 N14 N20 N18 N25 NR N22 N21 N24 N23 N29
def pos(row:List Str)(z:Str):Nat:=if z∈row then row.idxOf z else row.length
inductive W3 where
 | ol | ha | fa
end N36
namespace N26
open L2 N1 N5 N4 N6 N12 N32 N14 N20 N18 N25 NR
structure R4 where
 a:List Str
 b:List Str
 p:List Str
 q:List Str
 k:Int
 r:Bool
def stp(x y:Nat):Int:=if (x:Int).fdiv (y:Int) > 1 then (x:Int).fdiv (y:Int) else 1
def mn(n x:Int):Int:=if x < n then x else n
def mx(x:Int):Int:=if x > 0 then x else 0
def rpush(n:Int)(L:List Str)(z:Str):List Str:=if ((L++[z]).length:Int) > n then (L++[z]).eraseIdx 0 else L++[z]
def rback(n:Int)(s:R4)(z:Str):R4:=
 if z∈s.p then ⟨s.a,s.b,s.p.erase z,s.q,mn n (s.k+stp s.q.length s.p.length),true⟩
 else if z∈s.q then ⟨s.a,s.b,s.p,s.q.erase z,mx (s.k - stp s.p.length s.q.length),true⟩
 else ⟨s.a,s.b,s.p,s.q,s.k,false⟩
def rask(n:Int)(s:R4)(z:Str):R4:=
 if z∈s.a then ⟨s.a.erase z,s.b++[z],s.p,s.q,s.k,decide (z∈s.p\/z∈s.q)⟩
 else if z∈s.b then ⟨s.a,s.b.erase z++[z],s.p,s.q,s.k,decide (z∈s.p\/z∈s.q)⟩
 else rback n s z
def rpick(s:R4):Str:=if s.b=[]\/s.k < s.a.length then s.a.headD Str.empty else s.b.headD Str.empty
def rgone(n:Int)(s:R4)(z:Str):R4:=
 if z∈s.a then ⟨s.a.erase z,s.b,rpush n s.p z,s.q,s.k,s.r⟩ else ⟨s.a,s.b.erase z,s.p,rpush n s.q z,s.k,s.r⟩
def rcame(s:R4)(z:Str):R4:=if s.r=true then ⟨s.a,s.b++[z],s.p,s.q,s.k,s.r⟩ else ⟨s.a++[z],s.b,s.p,s.q,s.k,s.r⟩
def cnt(s:R4)(u:Str):Nat:=s.a.count u+s.b.count u+s.p.count u+s.q.count u
structure RI(ns:List Str)(n:Int)(s:R4)(l:List Str):Prop where
 c:∀u,cnt s u<=1
 i:∀u,0 < cnt s u->u∈ns
 pm:l.Perm (s.a++s.b)
 k0:0<=s.k
 pn:(s.p.length:Int)<=n
 qn:(s.q.length:Int)<=n
 n1:1<=n
theorem K8{L:List Str}{z u:Str}(h:z∈L):(L.erase z).count u+(if z=u then 1 else 0)=L.count u:=by
 rw[List.count_erase]
 by_cases e:z=u
 . subst e
   have:=Hw.mpr h;rw[if_pos rfl,if_pos (by simp)];omega
 . rw[if_neg e,if_neg (by simp[e])];omega
theorem Ob{L:List Str}{z u:Str}:(L++[z]).count u=L.count u+(if z=u then 1 else 0):=by
 rw[Hn,List.count_singleton]
 by_cases e:z=u
 . rw[if_pos e,if_pos (by simp[e])]
 . rw[if_neg e,if_neg (by simp[e])]
theorem J4l{n:Int}{L:List Str}{z u:Str}:(rpush n L z).count u<=L.count u+(if z=u then 1 else 0):=by
 rw[<- Ob];unfold rpush;split
 . exact(List.eraseIdx_sublist ..).count_le _
 . exact Fg _
theorem Qu{L:List Str}{z:Str}(h:z∉L):L.count z=0:=List.count_eq_zero.mpr h
theorem Ud{n:Int}{L:List Str}{z:Str}(h:(L.length:Int)<=n):((rpush n L z).length:Int)<=n:=by
 unfold rpush
 have e:(L++[z]).length=L.length+1:=by rw[Fn];rfl
 split
 . rw[List.length_eraseIdx]
   split <;> omega
 . omega
theorem Jcp(x y:Nat):1<=stp x y:=by unfold stp;split <;> omega
theorem RI.in_l{ns:List Str}{n:Int}{s:R4}{l:List Str}{z:Str}(h:RI ns n s l):z∈l↔z∈s.a\/z∈s.b:=by rw[h.pm.mem_iff,FB]
theorem RI.hit{ns:List Str}{n:Int}{s:R4}{l:List Str}{z:Str}(h:RI ns n s l)(hz:z∈l):RI ns n (rask n s z) l:=by
 unfold rask;split
 . rename_i ha
   have hc:∀u,cnt ⟨s.a.erase z,s.b++[z],s.p,s.q,s.k,decide (z∈s.p\/z∈s.q)⟩ u=cnt s u:=λu=>by
    have e1:=K8 (u:=u) ha;have e2:=Ob (L:=s.b) (z:=z) (u:=u);unfold cnt;simp only;omega
   refine⟨λu=>by rw[hc];exact h.c u,λu hu=>h.i u (by rw[hc]at hu;exact hu),h.pm.trans ?_,h.k0,h.pn,h.qn,h.n1⟩;have e:=(List.perm_cons_erase ha).append_right s.b;refine e.trans ?_;simp only[<- Hg];exact(HG ..).symm
 . rename_i ha
   have hb:z∈s.b:=((h.in_l).mp hz).resolve_left ha;rw[if_pos hb]
   have hc:∀u,cnt ⟨s.a,s.b.erase z++[z],s.p,s.q,s.k,decide (z∈s.p\/z∈s.q)⟩ u=cnt s u:=λu=>by
    have e1:=K8 (u:=u) hb;have e2:=Ob (L:=s.b.erase z) (z:=z) (u:=u);unfold cnt;simp only;omega
   refine⟨λu=>by rw[hc];exact h.c u,λu hu=>h.i u (by rw[hc]at hu;exact hu),h.pm.trans ?_,h.k0,h.pn,h.qn,h.n1⟩;exact((List.perm_cons_erase hb).trans (HG ..).symm).append_left s.a
theorem RI.miss{ns:List Str}{n:Int}{s:R4}{l:List Str}{z:Str}(h:RI ns n s l)(hz:z∉l):RI ns n (rask n s z) l/\cnt (rask n s z) z=0:=by
 have ha:z∉s.a:=λhh=>hz (h.in_l.mpr (.inl hh));have hb:z∉s.b:=λhh=>hz (h.in_l.mpr (.inr hh));have hc1:=h.c z;have ca:=Qu ha;have cb:=Qu hb;have k0:=h.k0;have n1:=h.n1;unfold rask;rw[if_neg ha,if_neg hb];unfold rback;split
 . rename_i hp
   have hcp:=Hw.mpr hp;have hle:=R7 (a:=z) (l:=s.p);have hpn:=h.pn;have h1:=Jcp s.q.length s.p.length
   have hc:∀u,cnt ⟨s.a,s.b,s.p.erase z,s.q,mn n (s.k+stp s.q.length s.p.length),true⟩ u+(if z=u then 1 else 0)=cnt s u:=λu=>by
    have e1:=K8 (u:=u) hp;unfold cnt;simp only;omega
   refine⟨⟨λu=>by have:=hc u;have:=h.c u;omega,λu hu=>h.i u (by have:=hc u;omega),h.pm,?_,?_,h.qn,n1⟩,?_⟩
   . show 0<=mn n (s.k+stp s.q.length s.p.length)
     unfold mn
     split <;> omega
   . show ((s.p.erase z).length:Int)<=n
     omega
   . have:=hc z
     rw[if_pos rfl]at this;omega
 . rename_i hp
   have cp:=Qu hp;split
   . rename_i hq
     have hcp:=Hw.mpr hq;have hle:=R7 (a:=z) (l:=s.q);have hqn:=h.qn
     have hc:∀u,cnt ⟨s.a,s.b,s.p,s.q.erase z,mx (s.k - stp s.p.length s.q.length),true⟩ u+(if z=u then 1 else 0)=cnt s u:=λu=>by
      have e1:=K8 (u:=u) hq;unfold cnt;simp only;omega
     refine⟨⟨λu=>by have:=hc u;have:=h.c u;omega,λu hu=>h.i u (by have:=hc u;omega),h.pm,?_,h.pn,?_,n1⟩,?_⟩
     . show 0<=mx (s.k - stp s.p.length s.q.length)
       unfold mx
       split <;> omega
     . show ((s.q.erase z).length:Int)<=n
       omega
     . have:=hc z
       rw[if_pos rfl]at this;omega
   . rename_i hq
     have cq:=Qu hq;exact⟨⟨h.c,h.i,h.pm,k0,h.pn,h.qn,n1⟩,by unfold cnt;simp only;omega⟩
theorem RI.pick{ns:List Str}{n:Int}{s:R4}{l:List Str}(h:RI ns n s l)(hl:l≠[]):(rpick s∈s.a/\(s.b=[]\/s.k < s.a.length)/\∃r,s.a=rpick s::r)\/(rpick s∈s.b/\rpick s∉s.a/\¬(s.b=[]\/s.k < s.a.length)/\∃r,s.b=rpick s::r):=by
 have k0:=h.k0;unfold rpick
 by_cases hc:s.b=[]\/s.k < s.a.length
 . rw[if_pos hc]
   left
   cases ha:s.a with
   | nil=>
    exfalso
    rw[ha]at hc;rcases hc with e | e
    . have:=h.pm
      rw[ha,e]at this;exact hl this.eq_nil
    . rw[List.length_nil]at e;omega
   | cons f r=>rw[ha]at hc;exact⟨FC ..,hc,r,rfl⟩
 . rw[if_neg hc]
   right
   cases hb:s.b with
   | nil=>exact absurd (.inl hb) hc
   | cons f r=>
    have hc1:=h.c f;have hcb:0 < s.b.count f:=Hw.mpr (by rw[hb];exact FC ..);refine⟨FC ..,λhm=>?_,by rw[<- hb];exact hc,r,rfl⟩;have:0 < s.a.count f:=Hw.mpr hm;unfold cnt at hc1;omega
theorem RI.goes{ns:List Str}{n:Int}{s:R4}{l:List Str}{z:Str}(h:RI ns n s l)(hz:z∈l):RI ns n (rgone n s z) (l.erase z)/\∀u,cnt (rgone n s z) u<=cnt s u:=by
 have hpe:=h.pm.erase z;unfold rgone;split
 . rename_i ha
   have hc:∀u,cnt ⟨s.a.erase z,s.b,rpush n s.p z,s.q,s.k,s.r⟩ u<=cnt s u:=λu=>by
    have e1:=K8 (u:=u) ha;have e2:=J4l (n:=n) (L:=s.p) (z:=z) (u:=u);unfold cnt;simp only;omega
   refine⟨⟨λu=>FE (hc u) (h.c u),λu hu=>h.i u (Fl hu (hc u)),?_,h.k0,Ud h.pn,h.qn,h.n1⟩,hc⟩;rw[List.erase_append_left _ ha]at hpe;exact hpe
 . rename_i ha
   have hb:z∈s.b:=((h.in_l).mp hz).resolve_left ha
   have hc:∀u,cnt ⟨s.a,s.b.erase z,s.p,rpush n s.q z,s.k,s.r⟩ u<=cnt s u:=λu=>by
    have e1:=K8 (u:=u) hb;have e2:=J4l (n:=n) (L:=s.q) (z:=z) (u:=u);unfold cnt;simp only;omega
   refine⟨⟨λu=>FE (hc u) (h.c u),λu hu=>h.i u (Fl hu (hc u)),?_,h.k0,h.pn,Ud h.qn,h.n1⟩,hc⟩;rw[List.erase_append_right _ ha]at hpe;exact hpe
theorem RI.comes{ns:List Str}{n:Int}{s:R4}{l:List Str}{z:Str}(h:RI ns n s l)(h0:cnt s z=0)(hz:z∈ns):RI ns n (rcame s z) (l++[z]):=by
 unfold rcame
 have hs:∀{s':R4},(∀u,cnt s' u=cnt s u+(if z=u then 1 else 0))->(∀u,cnt s' u<=1)/\(∀u,0 < cnt s' u->u∈ns):=λ{s'} e=>by
  refine⟨λu=>?_,λu hu=>?_⟩
  . rw[e u]
    by_cases hu:z=u
    . rw[if_pos hu,<- hu,h0];omega
    . rw[if_neg hu];exact h.c u
  . by_cases he:z=u
    . rw[<- he];exact hz
    . rw[e u,if_neg he]at hu;exact h.i u hu
 split
 . obtain⟨c1,c2⟩:=hs (s':=⟨s.a,s.b++[z],s.p,s.q,s.k,s.r⟩) λu=>by
    have e2:=Ob (L:=s.b) (z:=z) (u:=u);unfold cnt;simp only;omega
   refine⟨c1,c2,?_,h.k0,h.pn,h.qn,h.n1⟩;show (l++[z]).Perm (s.a++(s.b++[z]));rw[<- Hg];exact h.pm.append_right _
 . obtain⟨c1,c2⟩:=hs (s':=⟨s.a++[z],s.b,s.p,s.q,s.k,s.r⟩) λu=>by
    have e2:=Ob (L:=s.a) (z:=z) (u:=u);unfold cnt;simp only;omega
   refine⟨c1,c2,?_,h.k0,h.pn,h.qn,h.n1⟩;show (l++[z]).Perm (s.a++[z]++s.b);refine(h.pm.append_right _).trans ?_;rw[Hg,Hg];exact List.perm_append_comm.append_left s.a
def rfd(p l1 l2 l3 l4:Addr)(n k:Int)(r:Bool):List (Str×V):=Ac "returns" (.bl r) (Ac "bound" (.int k) (Ac "past_again" (.ref l4) (Ac "past_once" (.ref l3) (Ac "again" (.ref l2) (Ac "once" (.ref l1) (Ac "places" (.int n) (Ac "stock" (.ref p) [])))))))
section
variable {p l1 l2 l3 l4:Addr}{n k k':Int}{r r':Bool}
theorem My:(rfd p l1 l2 l3 l4 n k r).length=8:=by rfl
theorem J0f:(rfd p l1 l2 l3 l4 n k r).lookup ("stock":Str)=some (V.ref p):=by rfl
theorem Kn:(rfd p l1 l2 l3 l4 n k r).lookup ("places":Str)=some (V.int n):=by rfl
theorem Df:(rfd p l1 l2 l3 l4 n k r).lookup ("once":Str)=some (V.ref l1):=by rfl
theorem D7:(rfd p l1 l2 l3 l4 n k r).lookup ("again":Str)=some (V.ref l2):=by rfl
theorem M5:(rfd p l1 l2 l3 l4 n k r).lookup ("past_once":Str)=some (V.ref l3):=by rfl
theorem Oc:(rfd p l1 l2 l3 l4 n k r).lookup ("past_again":Str)=some (V.ref l4):=by rfl
theorem M6:(rfd p l1 l2 l3 l4 n k r).lookup ("bound":Str)=some (V.int k):=by rfl
theorem Me:(rfd p l1 l2 l3 l4 n k r).lookup ("returns":Str)=some (V.bl r):=by rfl
end
structure Dg(C:Addr)(H:Hp)(q p l1 l2 l3 l4:Addr)(n:Int)(s:R4):Prop where
 o:∃dx,H q=some (.ins C dx (rfd p l1 l2 l3 l4 n s.k s.r))
 h1:H l1=some (.lst (s.a.map V.str))
 h2:H l2=some (.lst (s.b.map V.str))
 h3:H l3=some (.lst (s.p.map V.str))
 h4:H l4=some (.lst (s.q.map V.str))
 d12:l1≠l2
 d13:l1≠l3
 d14:l1≠l4
 d23:l2≠l3
 d24:l2≠l4
 d34:l3≠l4
section
variable {C:Addr}{H H':Hp}{q p l1 l2 l3 l4:Addr}{n:Int}{s:R4}{L:List Str}
theorem Dg.nq(h:Dg C H q p l1 l2 l3 l4 n s):q≠l1/\q≠l2/\q≠l3/\q≠l4:=by
 obtain⟨dx,ho⟩:=h.o;refine⟨λe=>?_,λe=>?_,λe=>?_,λe=>?_⟩
 . rw[e,h.h1]at ho;cases ho
 . rw[e,h.h2]at ho;cases ho
 . rw[e,h.h3]at ho;cases ho
 . rw[e,h.h4]at ho;cases ho
theorem Dg.dep(h:Dg C H q p l1 l2 l3 l4 n s)(e:∀m∈[q,l1,l2,l3,l4],∀o,H m=some o->H' m=some o):Dg C H' q p l1 l2 l3 l4 n s:=
 ⟨h.o.imp λ_ e1=>e _ (by simp) _ e1,e _ (by simp) _ h.h1,e _ (by simp) _ h.h2,e _ (by simp) _ h.h3,e _ (by simp) _ h.h4,h.d12,h.d13,h.d14,h.d23,h.d24,h.d34⟩
theorem Dg.setA(h:Dg C H q p l1 l2 l3 l4 n s):Dg C (upd H l1 (.lst (L.map V.str))) q p l1 l2 l3 l4 n ⟨L,s.b,s.p,s.q,s.k,s.r⟩:=
 ⟨h.o.imp λ_ e=>by rw[A5 h.nq.1];exact e,A1,by rw[A5 h.d12.symm];exact h.h2,by rw[A5 h.d13.symm];exact h.h3,by rw[A5 h.d14.symm];exact h.h4,h.d12,h.d13,h.d14,h.d23,h.d24,h.d34⟩
theorem Dg.setB(h:Dg C H q p l1 l2 l3 l4 n s):Dg C (upd H l2 (.lst (L.map V.str))) q p l1 l2 l3 l4 n ⟨s.a,L,s.p,s.q,s.k,s.r⟩:=
 ⟨h.o.imp λ_ e=>by rw[A5 h.nq.2.1];exact e,by rw[A5 h.d12];exact h.h1,A1,by rw[A5 h.d23.symm];exact h.h3,by rw[A5 h.d24.symm];exact h.h4,h.d12,h.d13,h.d14,h.d23,h.d24,h.d34⟩
theorem Dg.setP(h:Dg C H q p l1 l2 l3 l4 n s):Dg C (upd H l3 (.lst (L.map V.str))) q p l1 l2 l3 l4 n ⟨s.a,s.b,L,s.q,s.k,s.r⟩:=
 ⟨h.o.imp λ_ e=>by rw[A5 h.nq.2.2.1];exact e,by rw[A5 h.d13];exact h.h1,by rw[A5 h.d23];exact h.h2,A1,by rw[A5 h.d34.symm];exact h.h4,h.d12,h.d13,h.d14,h.d23,h.d24,h.d34⟩
theorem Dg.setQ(h:Dg C H q p l1 l2 l3 l4 n s):Dg C (upd H l4 (.lst (L.map V.str))) q p l1 l2 l3 l4 n ⟨s.a,s.b,s.p,L,s.k,s.r⟩:=
 ⟨h.o.imp λ_ e=>by rw[A5 h.nq.2.2.2];exact e,by rw[A5 h.d14];exact h.h1,by rw[A5 h.d24];exact h.h2,by rw[A5 h.d34];exact h.h3,A1,h.d12,h.d13,h.d14,h.d23,h.d24,h.d34⟩
theorem Dg.setO{k:Int}{r:Bool}{dx:Addr}(h:Dg C H q p l1 l2 l3 l4 n s):Dg C (upd H q (.ins C dx (rfd p l1 l2 l3 l4 n k r))) q p l1 l2 l3 l4 n ⟨s.a,s.b,s.p,s.q,k,r⟩:=
 ⟨⟨dx,A1⟩,by rw[A5 h.nq.1.symm];exact h.h1,by rw[A5 h.nq.2.1.symm];exact h.h2,by rw[A5 h.nq.2.2.1.symm];exact h.h3,by rw[A5 h.nq.2.2.2.symm];exact h.h4,h.d12,h.d13,h.d14,h.d23,h.d24,h.d34⟩
end
def RAt(C:Addr)(H:Hp)(M:List Addr)(q p:Addr)(n:Int)(s:R4):Prop:=∃l1 l2 l3 l4,M=[q,l1,l2,l3,l4]/\Dg C H q p l1 l2 l3 l4 n s
def T26(C:Addr):Ar where
 C:=C
 St:=R4
 At:=RAt C
 asked:=rask
 pick:=λ_ s _=>(s,rpick s)
 gone:=rgone
 came:=λ_ s z=>rcame s z
 inv:=RI
 mid:=λns n z s l=>RI ns n s l/\cnt s z=0
 dep:=λe ⟨l1,l2,l3,l4,hM,h⟩=>⟨l1,l2,l3,l4,hM,h.dep (by rw[hM]at e;exact e)⟩
 live:=λ⟨l1,l2,l3,l4,hM,h⟩ m hm e=>by
  rw[hM]at hm;obtain⟨dx,ho⟩:=h.o;simp only[Ft,FM,or_false]at hm;rcases hm with e1 | e1 | e1 | e1 | e1
  . rw[e1,ho]at e;cases e
  . rw[e1,h.h1]at e;cases e
  . rw[e1,h.h2]at e;cases e
  . rw[e1,h.h3]at e;cases e
  . rw[e1,h.h4]at e;cases e
 obj:=λ⟨l1,l2,l3,l4,hM,h⟩=>h.o.imp λdx ho=>⟨_,ho,J0f,Kn,by rfl,by rfl,by rfl,by rfl,by rfl⟩
 i_hit:=λh _ hz=>h.hit hz
 i_mid:=λh _ hz=>h.miss hz
 i_pick:=λ{ns n s l z} h hl=>by
  have hm:rpick s∈l:=by
   rcases h.1.pick hl with ⟨a,_⟩ | ⟨a,_⟩
   . exact h.1.in_l.mpr (.inl a)
   . exact h.1.in_l.mpr (.inr a)
  obtain⟨a,b⟩:=h.1.goes hm;exact⟨hm,a,RT.mp (by rw[<- h.2];exact b z)⟩
 i_came:=λh hz _=>h.1.comes h.2 hz
def G1(C:Addr):Sp:=λvs H Q _=>∃(q dx p:Addr) (n:Int),vs=[.ref q,.ref p,.int n]/\H q=some (.ins C dx [])/\1<=n/\n<=1000000/\∀H' l1 l2 l3 l4,SameBut q H H'->H l1=none->H l2=none->H l3=none->H l4=none->Dg C H' q p l1 l2 l3 l4 n ⟨[],[],[],[],0,false⟩->Q .non H'
def K9:Sp:=λvs H Q _=>∃(z:Str) (a b:Addr) (L N:List Str),vs=[.str z,.ref a,.ref b]/\H a=some (.lst (L.map V.str))/\z∈L/\upd H a (.lst ((L.erase z).map V.str)) b=some (.lst (N.map V.str))/\N.length<=1000/\Q .non (upd (upd H a (.lst ((L.erase z).map V.str))) b (.lst ((N++[z]).map V.str)))
def Ka:Sp:=λvs H Q _=>∃(a b:Addr) (L N:List Str),vs=[.ref a,.ref b]/\H a=some (.lst (L.map V.str))/\H b=some (.lst (N.map V.str))/\0 < N.length/\N.length<=1000/\Q (.int (stp L.length N.length)) H
def Kb(C:Addr):Sp:=λvs H Q _=>∃(q p l1 l2 l3 l4:Addr) (n:Int) (s:R4) (z:Str),vs=[.ref q,.str z]/\Dg C H q p l1 l2 l3 l4 n s/\(z∈s.p\/z∈s.q)/\s.p.length<=1000/\s.q.length<=1000/\s.r=true/\∀H',Kp [q,l1,l2,l3,l4] H H'->Dg C H' q p l1 l2 l3 l4 n (rback n s z)->Q .non H'
def Gs(C:Addr):Sp:=λvs H Q _=>∃(q p l1 l2 l3 l4 a b:Addr) (n:Int) (s:R4) (z:Str) (L N:List Str),vs=[.ref q,.str z,.ref a,.ref b]/\Dg C H q p l1 l2 l3 l4 n s/\H a=some (.lst (L.map V.str))/\z∈L/\H b=some (.lst (N.map V.str))/\a≠b/\N.length<=1000/\Q .non (upd (upd H a (.lst ((L.erase z).map V.str))) b (.lst ((rpush n N z).map V.str)))
theorem Dg.same{C:Addr}{H:Hp}{q p l1 l2 l3 l4:Addr}{n:Int}{s:R4}(h:Dg C H q p l1 l2 l3 l4 n s)(e:Aa H H'):Dg C H' q p l1 l2 l3 l4 n s:=h.dep λm _ o=>e m o
theorem eq_nil{K:PySem.W.Frag}{H:Hp}{a p:Addr}{L:List Str}(h:H a=some (.lst (L.map V.str)))(hp:H p=some (.lst [])):EqQ K H (.ref a) (.ref p) (decide (L=[])):=
 ⟨a,p,L.map V.str,([]:List Str).map V.str,rfl,rfl,.inl ⟨SqL.of h,SqL.of hp⟩,Ie,Ie,Ic.symm⟩
theorem RI.lens{ns:List Str}{n:Int}{s:R4}{l:List Str}(h:RI ns n s l):s.a.length+s.b.length+s.p.length+s.q.length<=ns.length:=by
 have hn:(s.a++s.b++s.p++s.q).Nodup:=List.nodup_iff_count.mpr λu=>by
  have:=h.c u;rw[Hn,Hn,Hn];exact this
 have:=Qr hn λu hu=>h.i u (by
  have:=Hw.mpr hu;rw[Hn,Hn,Hn]at this
  exact this)
 rw[Fn,Fn,Fn]at this;exact this
def s00:R4:=⟨[],[],[],[],0,false⟩
theorem Jcq{ns:List Str}{n:Int}(h:1<=n):RI ns n s00 []:=⟨λu=>by simp[cnt,s00],λu hu=>by simp[cnt,s00]at hu,List.Perm.refl _,R8 _,by simp[s00];omega,by simp[s00];omega,h⟩
def l4(s:R4)(j:Nat):List Str:=match j with
 | 0=>s.a
 | 1=>s.b
 | 2=>s.p
 | _=>s.q
end N26
namespace L2
open PySem.W
def Jbz(K:PySem.W.Frag):List V->Hp->VK->Prop:=λxs H Q=>∃(p C dx D:Addr) (fs:List (Str×V)),xs=[.ref p,.ref D]/\H p=some (.ins C dx fs)/\PySem.W.kitOne K (.ref C) (.ref D)=some true/\Q (.bl true) H
theorem Y7{K:PySem.W.Frag}{H:Hp}:Jbz K xs H Q=∃(p C dx D:Addr) (fs:List (Str×V)),xs=[.ref p,.ref D]/\H p=some (.ins C dx fs)/\PySem.W.kitOne K (.ref C) (.ref D)=some true/\Q (.bl true) H:=rfl
end L2
namespace N28
open L2 N1 N5 N4 N6 N12 N32 N14 N20 N18 N25 NR N22 N21 N24 N23 N26
structure H6 where
 L:List Str
 k:List (Key×V)
def hrot:Nat->H6->H6
 | 0,s=>s
 | m+1,s=>match s.L with
  | []=>s
  | f::r=>if (B1 s.k (Sum.inr f)).isSome=true then hrot m ⟨r++[f],C7 s.k (Sum.inr f)⟩ else s
def hpk(s:H6):H6:=hrot s.k.length s
theorem Cv{m:Nat}{f:Str}{r:List Str}{k:List (Key×V)}:hrot (m+1) ⟨f::r,k⟩=if (B1 k (Sum.inr f)).isSome=true then hrot m ⟨r++[f],C7 k (Sum.inr f)⟩ else ⟨f::r,k⟩:=rfl
theorem Od{d:List (Key×V)}{k:Key}(h:(B1 d k).isSome=true):(C7 d k).length < d.length:=by
 rw[<- D1,Rl]at h;obtain⟨p,hp,e⟩:=h
 have:(d.filter λkv=>decide (kv.1≠k)).length < d.length:=by
  refine Nat.lt_of_le_of_ne (List.length_filter_le _ _) λe2=>?_;have:=(List.length_filter_eq_length_iff.mp e2) p hp;simp only[decide_eq_true_eq]at this e;exact this e
 exact this
theorem M7:∀(m1 m2:Nat) (s:H6),s.k.length<=m1->s.k.length<=m2->hrot m1 s=hrot m2 s:=by
 intro m1
 induction m1 with
 | zero=>
  intro m2 s h1 h2;obtain⟨L,k⟩:=s;have:k=[]:=Rj.mp (RT.mp h1);subst this
  cases m2 with
  | zero=>rfl
  | succ m2=>
   cases L with
   | nil=>rfl
   | cons f r=>rw[Cv,if_neg (by simp[B1])];rfl
 | succ m1 ih=>
  intro m2 s h1 h2;obtain⟨L,k⟩:=s
  cases L with
  | nil=>cases m2 <;> rfl
  | cons f r=>
   by_cases hf:(B1 k (Sum.inr f)).isSome=true
   . have hd:=Od hf
     cases m2 with
     | zero=>simp only at h2 hd;omega
     | succ m2=>
      rw[Cv,Cv,if_pos hf,if_pos hf];simp only at h1 h2;exact ih m2 _ (by show (C7 k (Sum.inr f)).length<=m1;omega) (by show (C7 k (Sum.inr f)).length<=m2;omega)
   . cases m2 with
     | zero=>rw[Cv,if_neg hf];rfl
     | succ m2=>rw[Cv,Cv,if_neg hf,if_neg hf]
theorem J9t{f:Str}{r:List Str}{k:List (Key×V)}(h:(B1 k (Sum.inr f)).isSome=true):hpk ⟨f::r,k⟩=hpk ⟨r++[f],C7 k (Sum.inr f)⟩:=by
 have hd:=Od h;unfold hpk;rw[M7 _ (k.length - 1+1) ⟨f::r,k⟩ (Fg _) (by show k.length<=_;omega)];rw[Cv,if_pos h];exact M7 _ _ _ (by show (C7 k (Sum.inr f)).length<=_;omega) (Fg _)
theorem J6l{f:Str}{r:List Str}{k:List (Key×V)}(h:¬(B1 k (Sum.inr f)).isSome=true):hpk ⟨f::r,k⟩=⟨f::r,k⟩:=by
 unfold hpk;rw[M7 _ (k.length+1) ⟨f::r,k⟩ (Fg _) (HF _)];rw[Cv,if_neg h]
theorem Bu.drop{ns:List Str}{z:Str}(h:Bu kvs ns):Bu (C7 kvs (Sum.inr z)) ns:=by
 obtain⟨ks,e,nd,s⟩:=h;refine⟨ks.filter (λu=>decide (u≠z)),?_,nd.filter _,λu hu=>s u (Rb.mp hu).1⟩;unfold C7;clear nd s
 induction kvs generalizing ks with
 | nil=>cases ks with
  | nil=>rfl
  | cons a b=>cases e
 | cons p q ih=>
  cases ks with
  | nil=>cases e
  | cons a b=>
   rw[List.map_cons,List.map_cons]at e;obtain⟨e1,e2⟩:=List.cons.inj e;have:=ih b e2
   by_cases ha:a=z
   . rw[List.filter_cons_of_neg (by rw[e1,ha];simp),List.filter_cons_of_neg (by rw[ha];simp)];exact this
   . rw[List.filter_cons_of_pos (by rw[e1];simp[ha]),List.filter_cons_of_pos (by simp[ha]),List.map_cons,List.map_cons,this,e1]
structure HI6(ns:List Str)(s:H6)(l:List Str):Prop where
 k:Bu s.k ns
 p:s.L.Perm l
 nd:s.L.Nodup
 s:∀u∈s.L,u∈ns
theorem Ue{ns l:List Str}:∀(m:Nat) (s:H6),HI6 ns s l->HI6 ns (hrot m s) l:=by
 intro m
 induction m with
 | zero=>exact λs h=>h
 | succ m ih=>
  intro s h;obtain⟨L,k⟩:=s
  cases L with
  | nil=>exact h
  | cons f r=>
   rw[Cv];split
   . have hp:(r++[f]).Perm (f::r):=HG ..
     exact ih _ ⟨Bu.drop h.k,hp.trans h.p,hp.nodup_iff.mpr h.nd,λu hu=>h.s u (hp.mem_iff.mp hu)⟩
   . exact h
def Oe(C:Addr)(H:Hp)(M:List Addr)(q p:Addr)(n:Int)(s:H6):Prop:=∃od md,M=[q,od,md]/\(∃dx,H q=some (.ins C dx (hfl p od md n)))/\H od=some (.lst (s.L.map V.str))/\H md=some (.dK s.k)
def Om(s:H6)(z:Str):H6:=if z∈s.L then ⟨s.L,Cj s.k (Sum.inr z) (.bl true)⟩ else s
theorem J6m{s:H6}{z:Str}(h:z∈s.L):Om s z=⟨s.L,Cj s.k (Sum.inr z) (.bl true)⟩:=by unfold Om;rw[if_pos h]
theorem J4m{s:H6}{z:Str}(h:z∉s.L):Om s z=s:=by unfold Om;rw[if_neg h]
def T6(C:Addr):Ar where
 C:=C
 St:=H6
 At:=Oe C
 asked:=λ_ s z=>Om s z
 pick:=λ_ s _=>(hpk s,(hpk s).L.headD Str.empty)
 gone:=λ_ s z=>⟨s.L.erase z,s.k⟩
 came:=λ_ s z=>⟨s.L++[z],Cj s.k (Sum.inr z) (.bl true)⟩
 inv:=λns _ s l=>HI6 ns s l
 mid:=λns _ _ s l=>HI6 ns s l
 dep:=λe ⟨od,md,hM,⟨dx,ho⟩,h1,h2⟩=>by
  subst hM;exact⟨od,md,rfl,⟨dx,e _ (by simp) _ ho⟩,e _ (by simp) _ h1,e _ (by simp) _ h2⟩
 live:=λ⟨od,md,hM,⟨dx,ho⟩,h1,h2⟩ m hm e=>by
  subst hM;simp only[Ft,FM,or_false]at hm;rcases hm with e1 | e1 | e1
  . rw[e1,ho]at e;cases e
  . rw[e1,h1]at e;cases e
  . rw[e1,h2]at e;cases e
 obj:=λ⟨od,md,hM,⟨dx,ho⟩,h1,h2⟩=>⟨dx,_,ho,J07,Vj,by rfl,by rfl,by rfl,by rfl,by rfl⟩
 i_hit:=λ{ns n s l z} h hn hz=>by
  show HI6 ns (Om s z) l;unfold Om;split
  . exact⟨h.k.put hn,h.p,h.nd,h.s⟩
  . exact h
 i_mid:=λ{ns n s l z} h hn hz=>by
  show HI6 ns (Om s z) l;unfold Om;split
  . exact⟨h.k.put hn,h.p,h.nd,h.s⟩
  . exact h
 i_pick:=λ{ns n s l z} h hl=>by
  have h2:HI6 ns (hpk s) l:=Ue _ _ h
  have hm:(hpk s).L.headD Str.empty∈(hpk s).L:=by
   cases e:(hpk s).L with
   | nil=>have:=h2.p;rw[e]at this;exact absurd (List.nil_perm.mp this) hl
   | cons f r=>exact FC ..
  exact⟨h2.p.mem_iff.mp hm,h2.k,h2.p.erase _,h2.nd.erase _,λu hu=>h2.s u (Hb hu)⟩
 i_came:=λ{ns n s l z} h hn hz=>by
  refine⟨h.k.put hn,h.p.append_right _,?_,λu hu=>?_⟩
  . show (s.L++[z]).Nodup
    rw[Hf];refine⟨h.nd,by simp,λa ha b hb e=>hz (h.p.mem_iff.mp ?_)⟩;rw[Fo]at hb;rw[<- hb,<- e];exact ha
  . rcases FB.mp hu with hu | hu
    . exact h.s u hu
    . rw[Fo.mp hu];exact hn
def s60:H6:=⟨[],[]⟩
theorem Jcr{ns:List Str}:HI6 ns s60 []:=⟨Bu.nil,List.Perm.refl _,HY,by simp[s60]⟩
def G2{ι:Type}(T:ι->Ar)(K:PySem.W.Frag)(C S:Addr):Sp:=λvs H Q E=>∃b,Im (T b) K C S vs H Q E
def Kc{ι:Type}(T:ι->Ar)(K:PySem.W.Frag)(C S:Addr):Sp:=λvs H Q E=>∃b,Lc (T b) K C S vs H Q E
def Dl(K:PySem.W.Frag):Sp:=λvs H Q _=>∃(X q dx p:Addr) (n:Int),vs=[.ref q,.ref p,.int n]/\H q=some (.ins X dx [])/\Cls K X/\An K X "stock"/\An K X "places"/\1<=n/\n<=1000000/\∀H',SameBut q H H'->H' q=some (.ins X dx (rf0 p n))->Q .non H'
def C9(K:PySem.W.Frag):Sp:=λvs H Q _=>∃(X q dx p:Addr) (n:Int),vs=[.ref q,.ref p,.int n]/\H q=some (.ins X dx [])/\Cls K X/\(An K X "stock"/\An K X "places")/\An K X "present"/\An K X "last"/\1<=n/\n<=1000000/\∀H' la,SameBut q H H'->H la=none->la≠q->H' q=some (.ins X dx (rf2 p n 0 la))->H' la=some (.dK [])->Q .non H'
def Ed(C:Addr):Sp:=λvs H Q _=>∃(q dx p:Addr) (n:Int),vs=[.ref q,.ref p,.int n]/\H q=some (.ins C dx [])/\1<=n/\n<=1000000/\∀H' od md,SameBut q H H'->H od=none->H md=none->Oe C H' [q,od,md] q p n s60->Q .non H'
def G3{ι:Type}(T:ι->Ar)(K:PySem.W.Frag)(C S:Addr):Sp:=λvs H Q E=>∃b,M3 (T b) K C S vs H Q E
end N28
namespace L2
def Jcs:Option V->Option Value->Prop
 | none,o=>o=none
 | some v,o=>∃u,o=some u/\Au v u
structure J6n(P:Params)(K:PySem.W.Frag)(a:Addr)(x:Str)(o:Option V):Prop where
 lo:(a==sysModules)=false
 ex:∃es n,K.lookup a=some ⟨.type "dict",none,.dict es n,#[]⟩/\PySem.W.KeysLit P es.toList/\Jcs o (findBy Value.isStrOf es x)
def Jc0(P:Params)(K:PySem.W.Frag)(td ty:TE):TE:=λσ H Q=>td σ H λx H1=>ty σ H1 λy H2=>∃a w v,x= .ref a/\y= .str w/\J6n P K a w (some v)/\Q v H2
def Jc1(P:Params)(K:PySem.W.Frag)(ty td:TE):TE:=λσ H Q=>ty σ H λy H1=>td σ H1 λx H2=>∃a w o,x= .ref a/\y= .str w/\J6n P K a w o/\Q (.bl (!o.isSome)) H2
section
variable {X:Cx}{o i:Expr}{td ty:TE}{pos:Pos}
theorem Y8{P:Params}{K:PySem.W.Frag}{H:Hp}:Jc0 P K td ty σ H Q=td σ H λx H1=>ty σ H1 λy H2=>∃a w v,x= .ref a/\y= .str w/\J6n P K a w (some v)/\Q v H2:=rfl
theorem Y9{P:Params}{K:PySem.W.Frag}{H:Hp}:Jc1 P K ty td σ H Q=ty σ H λy H1=>td σ H1 λx H2=>∃a w o,x= .ref a/\y= .str w/\J6n P K a w o/\Q (.bl (!o.isSome)) H2:=rfl
end
def J9u{ι:Type}(fa:ι->Addr)(sp:ι->Sp)(E:XK)(tv:TE)(t:TA):TE:=λσ H Q=>tv σ H λx H1=>∃b,x= .ref (fa b)/\t σ H1 λvs H2=>sp b vs H2 Q E
section
variable {ι:Type}{X:Cx}{CX:CXT}{k j:Nat}{fa:ι->Addr}{nm:ι->Str}{ps:List Str}{sp:ι->Sp}{E:XK}{x:Str}{p pos:Pos}{e:Expr}{es:List Expr}{tv:TE}{t:TA}
theorem Ug{H:Hp}:J9u fa sp E tv t σ H Q=tv σ H λx H1=>∃b,x= .ref (fa b)/\t σ H1 λvs H2=>sp b vs H2 Q E:=rfl
end
end L2
namespace N63
open L2 N1 N5 N4 N6 N12 N32 N14 N20 N18 N25 NR N22 N21 N28
end N63
namespace L2
open PySem.W
def unk(H:Hp)(as:List Addr):Hp:=λb=>if b∈as then none else H b
end L2
namespace N64
open L2 N1 N5 N4 N6 N12 N32 N14 N20 N18 N25 NR N22 N21 N24 N23 N28 N63
inductive W2 where
 | ha
 | fa (ys:List Str) (h:ys.length<=1000)
structure C2 where
 ha:Addr
 fa:Addr
end N64
namespace N62
open L2 N1 N5 N4 N6 N12 N32 N14 N20 N18 N25 NR N22 N21 N28 N63 N64 N41
inductive W3 where
 | ol | fi | hd
 deriving DecidableEq
structure C3 where
 ol:Addr
 fi:Addr
 hd:Addr
def TQ(c:C3):W3->Ar
 | .ol=>T2 c.ol
 | .fi=>T1 c.fi
 | .hd=>T6 c.hd
def Jcx(a b:List Str):List Str:=a.filter λu=>decide (u∉b)
def pS(b:List Str):V->Bool
 | .str u=>decide (u∉b)
 | _=>false
end N62
namespace L2
def sgn(z:Str):List Str:=z.cps.toList.map λc=>⟨#[c]⟩
def J9v:List V->Hp->VK->Prop:=λxs H Q=>∃z:Str,xs=[.str z]/\z.cps.size<=sizeLine/\∀p,H p=none->Q (.ref p) (upd H p (.lst ((sgn z).map V.str)))
theorem Uh{H:Hp}:J9v xs H Q=∃z:Str,xs=[.str z]/\z.cps.size<=sizeLine/\∀p,H p=none->Q (.ref p) (upd H p (.lst ((sgn z).map V.str))):=rfl
end L2
namespace N66
open L2 N1 N5 N4 N6 N12 N32 N14 N20 N18 N25 NR N22 N21 N26 N28 N63 N64 N62
def ms(T:Ar)(R:Str->Int)(n:Int)(s0:T.St)(ys:List Str)(i:Nat):Nat:=(List.range i).countP λj=>!(NR.grow T R n s0 ys j).2.1
end N66
namespace L2
def Jc2(K:PySem.W.Frag):R2:=λx y H Q=>∃l b xs zs,x= .ref l/\y= .ref b/\SqL K H l xs/\SqL K H b zs/\xs.length+zs.length<=sizeLine/\∀p,H p=none->Q (.ref p) (upd H p (.lst (xs++zs)))
theorem Ya{K:PySem.W.Frag}{x y:V}{H:Hp}:Jc2 K x y H Q=∃l b xs zs,x= .ref l/\y= .ref b/\SqL K H l xs/\SqL K H b zs/\xs.length+zs.length<=sizeLine/\∀p,H p=none->Q (.ref p) (upd H p (.lst (xs++zs))):=rfl
end L2
namespace N13
open L2 N1 N5 N4 N6 N12
open N53 (Ec)
def bad(ts:List Th)(n:Int):List Str->Nat->Option (Bool×Str×Nat)
 | [],_=>none
 | y::ys,i=>if y∈ts.map (·.1) then (if n < Vh ts y then some (false,y,i) else bad ts n ys (i+1)) else some (true,y,i)
theorem Ui{n:Int}{i:Nat}{y:Str}(h:ys[i]?=some y):bad ts n (ys.drop i) i=if y∈ts.map (·.1) then (if n < Vh ts y then some (false,y,i) else bad ts n (ys.drop (i+1)) (i+1)) else some (true,y,i):=by
 obtain⟨hi,e⟩:=Fh.mp h;rw[List.drop_eq_getElem_cons hi,e];rfl
def D0(ts:List Th)(v:V)(ys:List Str):Str×Option (Str×Nat):=
 if wIn 1 1000000 v=true then
  if 200 < ys.length then (Str.ofString "many",none)
  else match bad ts (iOf v) ys 0 with
   | some (true,z,i)=>(Str.ofString "unknown",some (z,i))
   | some (false,z,i)=>(Str.ofString "wide",some (z,i))
   | none=>(Str.ofString "fine",none)
 else (Str.ofString "number",none)
def Ee(K:PySem.W.Frag)(x:Addr):Sp:=λvs H Q E=>∃(v:V),vs=[v]/\Ec K H v/\(wIn 1 1000000 v=true->Q .non H)/\(wIn 1 1000000 v=false->∀H' y,Aa H H'->H y=none->Ql x H' y->E (.ref x) (some y) H')
def G4(K:PySem.W.Frag)(C xN xM xU xW:Addr):Sp:=λvs H Q E=>∃(p a:Addr) (v:V) (ts:List Th) (ys:List Str),vs=[.ref p,.ref a,v]/\Aq K C H p ts/\(ts.map (·.1)).Nodup/\SqL K H a (ys.map V.str)/\ys.length<=250/\Ec K H v/\
 (D0 ts v ys=(Str.ofString "fine",none)->∀H',Aa H H'->Q (.bl true) H')/\
 (D0 ts v ys=(Str.ofString "number",none)->∀H' y,Aa H H'->H y=none->Ql xN H' y->E (.ref xN) (some y) H')/\
 (D0 ts v ys=(Str.ofString "many",none)->∀H' y,Aa H H'->H y=none->Ql xM H' y->E (.ref xM) (some y) H')/\
 (∀z i,D0 ts v ys=(Str.ofString "unknown",some (z,i))->∀H' y,Aa H H'->H y=none->J00 xU H' y (.str z) (.int i)->E (.ref xU) (some y) H')/\
 (∀z i,D0 ts v ys=(Str.ofString "wide",some (z,i))->∀H' y,Aa H H'->H y=none->J00 xW H' y (.str z) (.int i)->E (.ref xW) (some y) H')
end N13
namespace L2
structure J0g(K:PySem.W.Frag)(C:Addr):Prop where
 ga:PySem.W.findIn K (.ref C) "__getattribute__"=some (some (.builtin "BaseException.__getattribute__"))
 gh:PySem.W.findIn K (.ref C) "__getattr__"=some none
 ca:PySem.W.findIn K (.ref C) "__class__"=some (some (.builtin "object.__class__"))
 gs:PySem.W.specialIn K (.builtin "object.__class__") "__get__"=some (some (.builtin "getset_descriptor.__get__"))
 tk:PySem.W.takesIn K (.builtin "object.__class__")=some true
 mb:PySem.W.mroIn K C (.type "BaseException")=some true
 mo:PySem.W.mroIn K C (.type "object")=some true
 cl:∃cd:ClassData,PySem.W.clsIn K C=some cd
section
open PySem.W PySem.Builtin PySem.Builtin.ObjectAttr
variable {Pg:Program}{w:World}{A:Around}{s:Shared}{K:Frag}{x C:Addr}{ox:Obj}{od:Option Obj}
theorem J0h{Q:Option Value->Shared->Prop}(X:K.In s.heap)(J:PySem.W.InstAt s.heap x ox C od)(q:J0g K C)(h:Q (some (.ref C)) {s with toks:=s.toks+1}):
 wpAny (model Pg w) A (getAttr? (.ref x) "__class__") Q E s:=by
 obtain⟨cd,hc⟩:=q.cl
 have hf:findObj K C od "__class__"=some (.bind (.builtin "getset_descriptor.__get__") (.builtin "object.__class__")):=by
  unfold findObj;rw[hc,q.ca];simp only[Ri];rw[q.gs];simp only[Ri];rw[q.tk];rfl
 obtain⟨hp,g,d,t,os⟩:=s;have l0:=J.type (M:=model Pg w);have l1:=looks_findIn (M:=model Pg w) X q.ga;have l2:=looks_findIn (M:=model Pg w) X q.gh;have l3:=looks_find (M:=model Pg w) X J hf;have sub:Looks (model Pg w) hp (isInstance (.ref x) (.type "BaseException")) true:=J.type.andThen (looks_mroIn X q.mb);unfold getAttr? getAttrBy? getAttrBy;refine Fc (wpAny_mkText (Fc (wpAny_attempt (HC (Fc (l0.at (Fc (l1.at ?_))))))));have b1:=PySem.F.excAttr_ValueError.ga.bind (.ref x)
 have b3:(Value.builtin "BaseException.__getattribute__"==Value.builtin "object.__getattribute__")=false:=by decide+kernel
 have b4:(onTheHeap (Value.ref C) && Value.builtin "BaseException.__getattribute__"==Value.builtin "object.__getattribute__")=false:=by rw[b3];rfl
 show wpAny _ _ (if (onTheHeap (Value.ref C) && Value.builtin "BaseException.__getattribute__"==Value.builtin "object.__getattribute__")=true then _ else _) _ _ _;rw[if_neg (by rw[b4];decide)];unfold getAttrByItsOwn hookBefore;rw[if_pos (show onTheHeap (Value.ref C)=true from rfl)];refine Fc (l2.at ?_)
 (repeat (any_goals (first | assumption | wp_step)));refine Rz PySem.F.excAttr_ValueError.ga.plain PySem.F.entry_bexc_ga (@check_slot (model Pg w) _ _ _ "BaseException.__getattribute__" "BaseException" "__getattribute__" (.ref x) [.str "__class__" t] [] _ (by decide+kernel) (by decide+kernel) sub (PySem.F.args_bexc_ga _ _) ?_)
 unfold Builtin.«object.__getattribute__»;repeat (any_goals (first | assumption | with_reducible refine l0.at ?_ | with_reducible refine l3.at ?_ | wp_step))
 refine class_get X J q.mo ?_;show wpAny _ _ (ret (Value.ref C)) _ _ _;refine Fu ?_;show wpAny _ _ (handedOut (Value.ref C)) _ _ _;rw[handedOut_of rfl];exact Fu (Fu h)
theorem J4n(q:J0g K C):KitX K (.ref x) (.ref C) (λh=>∃ox od,PySem.W.InstAt h x ox C od) where
 ty:=λ_ _ _ ⟨_,_,I⟩=>I.type
 it:=λ_ _ X _=>by
  obtain⟨cd,hc⟩:=q.cl;unfold clsIn at hc;split at hc
  . rename_i c' d' cd' sl' ho
    intro A' Q' E' s' k z;unfold isType loadHead;exact Fc (Rx (k _ _ (X _ _ ho)) (Fu z))
  . cases hc
 ne:=λ_ b0 _ _ _ _ X hb=>by
  obtain⟨cd,hc⟩:=q.cl;refine Bool.eq_false_iff.mpr λzz=>?_;have e:C=b0:=Value.ref.inj (HV.mp zz);subst e;unfold clsIn at hc;split at hc
  . rename_i c' d' cd' sl' ho
    have y0:=(X _ _ ho).symm.trans hb;cases y0
  . cases hc
 ca:=λX ⟨_,_,I⟩ k=>J0h X I q k
end
def J4o(K:PySem.W.Frag):List V->Hp->VK->Prop:=λxs H Q=>∃(n:Bool) (p C:Addr) (od:Option Addr) (c:V) (u:Value) (b:Bool),xs=[.ref p,c]/\Au c u/\(∀u',Au c u'->u'=u)/\H p=some (exO n p C od)/\(∀dx,od=some dx->∃fs,H dx=some (exD dx fs))/\J0g K C/\PySem.W.kitOne K (.ref C) u=some b/\Q (.bl b) H
section
variable {X:Cx}
theorem E7:Ep X (.builtin "isinstance") (J4o X.K):=by
 intro pins s σ H xs us Q I r h;obtain⟨n,p,C,od,c,u,b,rfl,rc,un,hp,hd,q,e,z⟩:=h;obtain⟨v,u2,rfl,r1,r2⟩:=Vt r;cases (show v=Value.ref p from r1);cases un _ r2;obtain⟨vs,sl,e1,_⟩:=(I.hok p _ hp).1
 have J:∃ox od,PySem.W.InstAt s.heap p ox C od:=by
  cases od with
  | none=>exact⟨_,none,e1,rfl,rfl,trivial⟩
  | some dx=>
   obtain⟨fs,hdx⟩:=hd dx rfl;obtain⟨o,ho⟩:=I.hok.there hdx;exact⟨_,some o,e1,rfl,rfl,ho⟩
 exact FU (J4n q) I.kIn J e (by intro z;cases z) λtk=>⟨.bl b,H,I.tok _,rfl,z⟩
end
def J9w(G:Addr->Str->Prop)(sp:Str->Sp)(m:Str)(EE:St->XK)(ta:TE):TE:=λσ H Q=>ta σ H λx H1=>∃nw a C i,G C i/\x= .ref a/\(H1 a=some (exO nw a C none)\/∃dx fs,H1 a=some (exO nw a C (some dx))/\H1 dx=some (exD dx fs)/\fs.lookup m=none)/\sp i [x] H1 Q (EE σ)
section
open PySem.W
variable {K:Frag}{C D:Addr}{cd:ClassData}
theorem J4p:kitOne K (.ref C) (.ref C)=some true:=by
 unfold kitOne;rw[if_pos (by simp)]
theorem Bm{b:Bool}(self:subIn K (.ref C) (.ref C)=some true)(cl:clsIn K D=some cd)(ty:typeIn K (.ref D)=some (.type "type"))(s:subIn K (.ref C) (.ref D)=some b):kitOne K (.ref C) (.ref D)=some b:=by
 by_cases e:C=D
 . subst e
   rw[self]at s;rw[J4p,s]
 . unfold kitOne kitCls
   rw[if_neg (by simp[e])];dsimp only;rw[cl,ty];exact s
end
section
variable {σ:St}{H:Hp}{Q:VK}{K:PySem.W.Frag}
theorem Lg{G:Addr->Str->Prop}{sp:Str->Sp}{m:Str}{EE:St->XK}{ta:TE}:J9w G sp m EE ta σ H Q=ta σ H λx H1=>∃nw a C i,G C i/\x= .ref a/\(H1 a=some (exO nw a C none)\/∃dx fs,H1 a=some (exO nw a C (some dx))/\H1 dx=some (exD dx fs)/\fs.lookup m=none)/\sp i [x] H1 Q (EE σ):=rfl
def J0i(H:Hp)(p C:Addr):Prop:=∃n,H p=some (exO n p C none)\/∃dx fs,H p=some (exO n p C (some dx))/\H dx=some (exD dx fs)/\fs.lookup ("word":Str)=none
theorem J0i.same{H:Hp}{p C:Addr}(s:Aa H H')(h:J0i H p C):J0i H' p C:=by
 obtain⟨n,h | ⟨dx,fs,h1,h2,h3⟩⟩:=h
 . exact⟨n,.inl (s _ _ h)⟩
 . exact⟨n,.inr ⟨dx,fs,s _ _ h1,s _ _ h2,h3⟩⟩
theorem Lh{p C D:Addr}{b:Bool}(h:J0i H p C)(q:J0g K C)(e:PySem.W.kitOne K (.ref C) (.ref D)=some b)(z:Q (.bl b) H):J4o K [.ref p,.ref D] H Q:=by
 obtain⟨n,h | ⟨dx,fs,h1,h2,h3⟩⟩:=h
 . exact⟨n,p,C,none,_,_,b,rfl,rfl,λu r=>r,h,λdx e=>(by cases e),q,e,z⟩
 . exact⟨n,p,C,some dx,_,_,b,rfl,rfl,λu r=>r,h1,λdy e=>by cases e;exact⟨fs,h2⟩,q,e,z⟩
theorem J6o{p C:Addr}{n':String}{b:Bool}(h:J0i H p C)(q:J0g K C)(e:PySem.W.kitOne K (.ref C) (.type n')=some b)(z:Q (.bl b) H):J4o K [.ref p,.ty n'] H Q:=by
 obtain⟨n,h | ⟨dx,fs,h1,h2,h3⟩⟩:=h
 . exact⟨n,p,C,none,_,_,b,rfl,rfl,λu r=>r,h,λdx e=>(by cases e),q,e,z⟩
 . exact⟨n,p,C,some dx,_,_,b,rfl,rfl,λu r=>r,h1,λdy e=>by cases e;exact⟨fs,h2⟩,q,e,z⟩
end
section
open PySem.W
variable {K:Frag}{C N:Addr}{nm q:Str}{bs:List Value}{hdct:Bool}{sn:List Str}{sub:List Value}{ab:Bool}{col:Option Bool}{dd:Option Addr}{k0 k1 k2 k3 k5:Option Value}{oc:Value}{od:Option Addr}{es:Array DictEntry}{ep:Nat}{sl:Array (Option Value)}
def Jc3(K:Frag)(C:Addr)(k:Nat):Nat->List Addr->Prop
 | _,[]=>True
 | i,D::ds=>kitOne K (.ref C) (.ref D)=some (decide (i=k))/\Jc3 K C k (i+1) ds
structure J4q(K:Frag)(ds:List Addr)(CE C:Addr)(k:Nat):Prop where
 q:J0g K C
 ce:kitOne K (.ref C) (.ref CE)=some true
 ve:kitOne K (.ref C) (.type "ValueError")=some true
 row:Jc3 K C k 0 ds
end
end L2
open PySem PySem.W PyProof.Rows
namespace L2
structure Bs(P:Program)(w:World)(K:PySem.W.Frag)(mg:Str->Option Value)(base:Heap):Prop where
 ex:∃h:Heap,K.In h/\h.Ns mainGlobals mg
theorem lc{us:List α}{n:Nat}(h:us.length=n+1):∃u r,us=u::r/\r.length=n:=by
 cases us with
 | nil=>cases h
 | cons u r=>exact⟨u,r,rfl,Nat.succ.inj h⟩
theorem l0{us:List α}(h:us.length=0):us=[]:=by
 cases us with
 | nil=>rfl
 | cons u r=>cases h
section
variable {P:Program}{w:World}{K:PySem.W.Frag}{mg:Str->Option Value}{base:Heap}{CX:CXT}{k:Nat}{sp:Sp}{ps:List Str}{x qual n p1 p2 p3 p4 p5 p6 p7:Str}{st:Stmt}{f C:Addr}{fd:FuncData}
theorem Fun.d(F:Fun K x qual st f fd)(B:Bs P w K mg base)(a:PySem.W.nsIn K mainGlobals x=some (some (.ref f)))(o:Ai P w K mg base CX k f fd ps sp)(b:Bl K fd ps []):Def P w K mg base CX k x ps sp:=
 let ⟨_,X,G⟩:=B.ex;⟨f,fd,o,PySem.W.mg_of X G a,F.kp,b⟩
theorem Fun.m(F:Fun K x qual st f fd)(B:Bs P w K mg base)(M:Ym K C x f)(o:Ai P w K mg base CX k f fd ps sp)(b:Bl K fd ps []):Bn P w K mg base CX k C x ps sp:=
 ⟨f,fd,o,M,b⟩
theorem Fun.i(F:Fun K x qual st f fd)(B:Bs P w K mg base)(M:Mk K C f)(a:PySem.W.nsIn K mainGlobals n=some (some (.ref C)))(o:Ai P w K mg base CX k f fd ps sp)(b:Bl K fd ps []):Kj P w K mg base CX k n C ps sp:=
 let ⟨_,X,G⟩:=B.ex;⟨f,fd,o,M,PySem.W.mg_of X G a,b⟩
theorem Fun.e1(F:Fun K x qual st f fd)(h:∀(kV doc pm:Value) (an:Option Addr) (cdv ct u:Value),bindArgs (PySem.W.fnOf x qual (B2 st) (Ax st) (A6 st) .none kV doc pm an cdv ct) ⟨[u],[]⟩=pure [(p1,u)]):Bl K fd [p1] []:=
 F.binds (ps:=[p1]) λkV doc pm an cdv ct us hl=>by
  obtain⟨u,us,rfl,h1⟩:=lc hl;cases l0 h1;exact h kV doc pm an cdv ct u
theorem Fun.e2(F:Fun K x qual st f fd)(h:∀(kV doc pm:Value) (an:Option Addr) (cdv ct u v:Value),bindArgs (PySem.W.fnOf x qual (B2 st) (Ax st) (A6 st) .none kV doc pm an cdv ct) ⟨[u,v],[]⟩=pure [(p1,u),(p2,v)]):Bl K fd [p1,p2] []:=
 F.binds (ps:=[p1,p2]) λkV doc pm an cdv ct us hl=>by
  obtain⟨u,us,rfl,h1⟩:=lc hl;obtain⟨v,us,rfl,h2⟩:=lc h1;cases l0 h2;exact h kV doc pm an cdv ct u v
theorem Fun.e3(F:Fun K x qual st f fd)(h:∀(kV doc pm:Value) (an:Option Addr) (cdv ct u v w:Value),bindArgs (PySem.W.fnOf x qual (B2 st) (Ax st) (A6 st) .none kV doc pm an cdv ct) ⟨[u,v,w],[]⟩=pure [(p1,u),(p2,v),(p3,w)]):Bl K fd [p1,p2,p3] []:=
 F.binds (ps:=[p1,p2,p3]) λkV doc pm an cdv ct us hl=>by
  obtain⟨u,us,rfl,h1⟩:=lc hl;obtain⟨v,us,rfl,h2⟩:=lc h1;obtain⟨w,us,rfl,h3⟩:=lc h2;cases l0 h3;exact h kV doc pm an cdv ct u v w
theorem Fun.e4(F:Fun K x qual st f fd)(h:∀(kV doc pm:Value) (an:Option Addr) (cdv ct u v w y:Value),bindArgs (PySem.W.fnOf x qual (B2 st) (Ax st) (A6 st) .none kV doc pm an cdv ct) ⟨[u,v,w,y],[]⟩=pure [(p1,u),(p2,v),(p3,w),(p4,y)]):Bl K fd [p1,p2,p3,p4] []:=
 F.binds (ps:=[p1,p2,p3,p4]) λkV doc pm an cdv ct us hl=>by
  obtain⟨u,us,rfl,h1⟩:=lc hl;obtain⟨v,us,rfl,h2⟩:=lc h1;obtain⟨w,us,rfl,h3⟩:=lc h2;obtain⟨y,us,rfl,h4⟩:=lc h3;cases l0 h4;exact h kV doc pm an cdv ct u v w y
theorem Fun.e5(F:Fun K x qual st f fd)(h:∀(kV doc pm:Value) (an:Option Addr) (cdv ct u v w y z:Value),bindArgs (PySem.W.fnOf x qual (B2 st) (Ax st) (A6 st) .none kV doc pm an cdv ct) ⟨[u,v,w,y,z],[]⟩=pure [(p1,u),(p2,v),(p3,w),(p4,y),(p5,z)]):Bl K fd [p1,p2,p3,p4,p5] []:=
 F.binds (ps:=[p1,p2,p3,p4,p5]) λkV doc pm an cdv ct us hl=>by
  obtain⟨u,us,rfl,h1⟩:=lc hl;obtain⟨v,us,rfl,h2⟩:=lc h1;obtain⟨w,us,rfl,h3⟩:=lc h2;obtain⟨y,us,rfl,h4⟩:=lc h3;obtain⟨z,us,rfl,h5⟩:=lc h4;cases l0 h5;exact h kV doc pm an cdv ct u v w y z
theorem Fun.e6(F:Fun K x qual st f fd)(h:∀(kV doc pm:Value) (an:Option Addr) (cdv ct u v w y z a:Value),bindArgs (PySem.W.fnOf x qual (B2 st) (Ax st) (A6 st) .none kV doc pm an cdv ct) ⟨[u,v,w,y,z,a],[]⟩=pure [(p1,u),(p2,v),(p3,w),(p4,y),(p5,z),(p6,a)]):Bl K fd [p1,p2,p3,p4,p5,p6] []:=
 F.binds (ps:=[p1,p2,p3,p4,p5,p6]) λkV doc pm an cdv ct us hl=>by
  obtain⟨u,us,rfl,h1⟩:=lc hl;obtain⟨v,us,rfl,h2⟩:=lc h1;obtain⟨w,us,rfl,h3⟩:=lc h2;obtain⟨y,us,rfl,h4⟩:=lc h3;obtain⟨z,us,rfl,h5⟩:=lc h4;obtain⟨a,us,rfl,h6⟩:=lc h5;cases l0 h6;exact h kV doc pm an cdv ct u v w y z a
end
abbrev Gf(K:PySem.W.Frag)(x:Str)(st:Stmt):Prop:=∃(f:Addr) (fd:FuncData),PySem.W.nsIn K mainGlobals x=some (some (.ref f))/\Fun K x x st f fd
abbrev Gm(K:PySem.W.Frag)(C:Addr)(x q:Str)(st:Stmt):Prop:=∃(f:Addr) (fd:FuncData),Ym K C x f/\Fun K x q st f fd
abbrev Gi(K:PySem.W.Frag)(C:Addr)(q:Str)(st:Stmt):Prop:=∃(f:Addr) (fd:FuncData),Mk K C f/\Fun K "__init__" q st f fd
abbrev Gc(K:PySem.W.Frag)(x:Str)(C:Addr):Prop:=PySem.W.nsIn K mainGlobals x=some (some (.ref C))
abbrev Gn(K:PySem.W.Frag)(C:Addr)(x:Str):Prop:=PySem.W.findIn K (.ref C) x=some none
section
variable {P:Program}{w:World}{K:PySem.W.Frag}{mg:Str->Option Value}{base:Heap}{CX:CXT}{k:Nat}{sp:Sp}{ps:List Str}{x q n:Str}{st:Stmt}{C:Addr}
theorem Gf.d(F:Gf K x st)(B:Bs P w K mg base)(o:∀{f fd},Fun K x x st f fd->Ai P w K mg base CX k f fd ps sp)(b:∀{f fd},Fun K x x st f fd->Bl K fd ps []:=by walk_at "bd"):Def P w K mg base CX k x ps sp:=
 let ⟨_,_,a,G⟩:=F;G.d B a (o G) (b G)
theorem Gm.m(F:Gm K C x q st)(B:Bs P w K mg base)(o:∀{f fd},Fun K x q st f fd->Ai P w K mg base CX k f fd ps sp)(b:∀{f fd},Fun K x q st f fd->Bl K fd ps []:=by walk_at "bd"):Bn P w K mg base CX k C x ps sp:=
 let ⟨_,_,a,G⟩:=F;G.m B a (o G) (b G)
theorem Gi.i(F:Gi K C q st)(B:Bs P w K mg base)(a:Gc K n C)(o:∀{f fd},Fun K "__init__" q st f fd->Ai P w K mg base CX k f fd ps sp)(b:∀{f fd},Fun K "__init__" q st f fd->Bl K fd ps []:=by walk_at "bd"):Kj P w K mg base CX k n C ps sp:=
 let ⟨_,_,M,G⟩:=F;G.i B M a (o G) (b G)
end
theorem Jct{n:Str}{N:List Str}{v:V}{vs:List V}:start (n::N) (v::vs)=some v::start N vs:=by
 simp[start]
theorem Jcu{n:Str}{N:List Str}:start (n::N) []=none::start N []:=rfl
theorem Jcv:start [] []=[]:=rfl
structure Of(k:Nat)(A:Around):Prop where
 dp:A.depth+3 * k+5 < recursionLimit
 un:A.units+16 * k+200 < cLine
theorem Bt.hm{k:Nat}{A:Around}(r:Bt k A)(v:Option Value):Of k (A.mark v):=⟨r.dp,r.un⟩
theorem Of.mono{j k:Nat}{A:Around}(r:Of k A)(h:j<=k):Of j A:=⟨by have:=r.dp;omega,by have:=r.un;omega⟩
structure Pt(P:Program)(w:World)(K:PySem.W.Frag)(mg:Str->Option Value)(base:Heap)(CX:CXT)(k:Nat)(f:Addr)(fd:FuncData)(ps:List Str)(sp:Sp):Prop where
 len:∀vs H Q E,sp vs H Q E->vs.length=ps.length
 run:∀(A:Around) (outer:List Env) (s:Shared) (H:Hp) (args:Args) (us:List Value) (vs:List V) (Q:VK) (E:XK),Of k A->Kr P w K mg base A outer s H->BindsTo s fd args (ps.zip us)->Ay vs us->sp vs H Q E->
  codeAny (model P w) A (.call (.ref f) args) (CR CX outer P w H s Q E) s
abbrev cxH(CX:CXT)(P:Program)(w:World)(K:PySem.W.Frag)(mg:Str->Option Value)(base:Heap)(N:List Str)(qual:Str)(scope:Scope)(f:Addr)(cd:Value)(A:Around)(outer:List Env)(s:Shared)(H:Hp)(E:XK):Cx:={Gy CX P w K mg base N qual scope f cd A outer s H E with calm:=false}
section
variable {CX:CXT}{P:Program}{w:World}{K:PySem.W.Frag}{mg:Str->Option Value}{base:Heap}
theorem Vm{N:List Str}{f:Addr}{cd:Value}{A:Around}{outer:List Env}{s s1:Shared}{H:Hp}{E:XK}{vs:List V}
 (S:A9 N ps scope) (e0:Kr P w K mg base A outer s H) (hl:vs.length=ps.length) (r:Ay vs us)
 (x:InCallC s s.heap.objs.size (bindL (envOfC qual scope s.heap.objs.size f cd).kindOf (ps.zip us) λ_=>none) (cellsFrom (s.heap.objs.size+1) scope.names []) (bindC (envOfC qual scope s.heap.objs.size f cd).kindOf (ps.zip us) λ_=>none) s1):
 Inv (cxH CX P w K mg base N qual scope f cd A outer s H E) [] (start N vs) H s1:=by
 have e1:Kr P w K mg base {A with handled:=none} outer s H:={e0 with frames:=e0.frames}
 have I:=Ox (CX:=CX) (A:={A with handled:=none}) (E:=E) S rfl e1 hl r x;exact⟨⟨I.ok.mod,I.ok.kind,I.ok.glob,I.ok.blt,I.ok.above,I.ok.inj,I.ok.has,I.ok.cab,(λz=>by cases z),Around.frames_deeper e0.frames,I.ok.stk,I.ok.exf,I.ok.bs,I.ok.bsz,I.ok.noex,I.ok.exfs,I.ok.funs,I.ok.frf⟩,I.os,I.bare,I.base,I.loc,I.cell,I.free,I.freeC,I.pin,I.hok,I.len⟩
theorem J9x{k:Nat}{f:Addr}{name:Str}{params:Arguments}{dV kV pm ct:Value}
 {osl:Array (Option Value)}{N ps:List Str}{sp:Sp} (lk:K.lookup f=some ⟨oc,od,.func (PySem.W.fnOf name qual params body scope dV kV doc pm an cdv ct),osl⟩) (hcd:PySem.W.codeIn K cdv qual=true) (S:A9 N ps scope)
 (len:∀vs H Q E,sp vs H Q E->vs.length=ps.length)
 (hbody:∀(A:Around) (outer:List Env) (s:Shared) (H:Hp) (vs:List V) (Q:VK) (E:XK),sp vs H Q E->
  ∃t,PSs (cxH CX P w K mg base N qual scope f cdv A outer s H E) body t/\t {nx:=λ_ H'=>Q .non H',rt:=Q} (start N vs) H):
 Pt P w K mg base CX (k+1) f (PySem.W.fnOf name qual params body scope dV kV doc pm an cdv ct) ps sp:=by
 refine⟨len,λA outer s H args us vs Q E hr e0 hb r hsp=>?_⟩;have hl:=len _ _ _ _ hsp;have KX:K.In s.heap:=e0.mod.kin.keeps λb o e=>(e0.bs b o e).1;have lim:s.heap.NoLimit:=e0.mod.nolimit.keeps λb o e=>(e0.bs b o e).1
 have hkind:∀y∈ps.zip us,scope.names.lookup y.1=some .local\/(scope.names.lookup y.1=some .cell/\((cellsFrom (s.heap.objs.size+1) scope.names []).lookup y.1).isSome=true):=λ⟨n,v⟩ hy=>
  (S.par n (Rt hy).1).imp id λq=>⟨q,Rn _ _ _ (.inl q)⟩
 refine codeAny_call_function (by have:=hr.dp;omega) (KX _ _ lk) rfl S.co S.gen rfl (PySem.W.codeRec_of KX hcd) (hb _ _ _ _ ?_);refine wpAny_newFunctionEnv_cells S.kind hkind λenv he s1 x=>?_;subst he;refine⟨lim.keeps x.toInCall.keep,codeAny_func ?_⟩;obtain⟨t,ht,hq⟩:=hbody A outer s H vs Q E hsp;refine FN (ht [] s1 (start N vs) H _ (Vm S e0 hl r x) hq) (λfl s' hs=>?_) λe s' hs=>hs
 have fin:∀{σ':St}{H':Hp}{v:V}{u:Value},Inv (cxH CX P w K mg base N qual scope f cdv A outer s H E) [] σ' H' s'->Au v u->Q v H'->CE outer P w H s Q u s':=
  λ{σ' H' v u} J rv q=>⟨v,H',J.os,J.bare,J.base,J.hok,rv,q⟩
 cases fl with
 | ret u=>
  obtain⟨v,σ',H',J,rv,q⟩:=hs;exact fin J rv q
 | next=>
  obtain⟨σ',H',J,q⟩:=hs;exact fin (v:=V.non) (u:=Value.none) J rfl q
 | brk=>
  obtain⟨_,_,_,q⟩:=hs;exact False.elim q
 | cont=>
  obtain⟨_,_,_,q⟩:=hs;exact False.elim q
theorem Fun.okH{x:Str}{st:Stmt}{f:Addr}{N:List Str}{k:Nat}{sp:Sp}(F:Fun K x qual st f fd)(S:A9 N ps (A6 st))(len:∀vs H Q E,sp vs H Q E->vs.length=ps.length)
 (hbody:∀(cdv:Value) (A:Around) (outer:List Env) (s:Shared) (H:Hp) (vs:List V) (Q:VK) (E:XK),Unit->sp vs H Q E->
  ∃t,PSs (cxH CX P w K mg base N qual (A6 st) f cdv A outer s H E) (Ax st) t/\t {nx:=λ_ H'=>Q .non H',rt:=Q} (start N vs) H):Pt P w K mg base CX (k+1) f fd ps sp:=by
 obtain⟨oc,od,kV,doc,pm,an,cdv,ct,osl,rfl,lk,hcd⟩:=F.ex;exact J9x lk hcd S len λA outer s H vs Q E hsp=>hbody cdv A outer s H vs Q E () hsp
end
section
variable {X:Cx}{CX:CXT}{k j:Nat}{G:Addr->Str->Prop}{sp:Str->Sp}{ps:List Str}{EE:St->XK}{m:Str}{pos apos:Pos}{o:Expr}{ta:TE}
theorem J4r{H:Hp}{s:Shared}{vs:List V}{f:Addr}{sp:Sp}(F:Pt X.prog X.w X.K X.mg X.base CX k f fd ps sp)(hr:Of k X.A)(hb:Bl X.K fd ps [])(hx:Ci CX X EE)
 (I:Inv X pins σ H s) (r:Ay vs us) (h:sp vs H Q (EE σ)):wpAny (model X.prog X.w) X.A (call (.ref f) us) (EP X pins σ Q) X.xe s:=by
 have hl:us.length=ps.length:=by rw[<- r.length];exact F.len _ _ _ _ h
 have hb':=hb s us I.kIn (by simpa using hl);rw[Ha]at hb';refine HS (Ht (F.run X.A X.stack s H ⟨us,[]⟩ us vs Q (EE σ) hr I.env0 hb' r h) λr s' hq=>?_)
 cases r with
 | error e=>exact hx pins σ H s e s' I hq
 | ok fl=>
  cases fl with
  | ret u=>exact I.after hq
  | next=>exact False.elim hq
  | brk=>exact False.elim hq
  | cont=>exact False.elim hq
end
open N1 N5
section
variable {P:Program}{w:World}{K:PySem.W.Frag}{mg:Str->Option Value}{base:Heap}{CX:CXT}{k:Nat}{C:Addr}{m:Str}{ps:List Str}{sp sp':Sp}
theorem Ai.weaker{f:Addr}(F:Ai P w K mg base CX k f fd ps sp)(h:∀vs H Q E,sp' vs H Q E->sp vs H Q E):Ai P w K mg base CX k f fd ps sp':=F.imp h
theorem Def.weaker{x:Str}(D:Def P w K mg base CX k x ps sp)(h:∀vs H Q E,sp' vs H Q E->sp vs H Q E):Def P w K mg base CX k x ps sp':=by
 obtain⟨f,fd,F,hm⟩:=D;exact⟨f,fd,F.weaker h,hm⟩
end
def Jcw:R2:=λx y H Q=>∃j:Int,y= .int j/\Ca x=true/\Q (.bl (eqV x (.int j))) H
theorem J4s{x y:V}{H:Hp}:Jcw x y H Q=∃j:Int,y= .int j/\Ca x=true/\Q (.bl (eqV x (.int j))) H:=rfl
end L2
namespace N67
open L2 N1 N5 N4 N6 N12 N32 N41 N14 N20 N18 N25 NR N22 N21 N26 N28 N63 N64 N62 N66 N13
open N53 (Ec)
section
variable {ts:List Th}{v u:V}{ys:List Str}
theorem Li{z:Str}:rm ts z=Vh ts z:=by
 unfold rm Vh
 cases ts.find? (λt=>decide (t.1=z)) <;> rfl
theorem J4t{n:Int}:∀{ys:List Str}{i:Nat},bad ts n ys i=none↔(∀y∈ys,y∈ts.map (·.1))/\∀y∈ys,rm ts y<=n:=by
 intro ys
 induction ys with
 | nil=>intro i;exact⟨λ_=>⟨by simp,by simp⟩,λ_=>rfl⟩
 | cons y r ih=>
  intro i;show (if y∈ts.map (·.1) then (if n < Vh ts y then some (false,y,i) else bad ts n r (i+1)) else some (true,y,i))=none↔_;rw[<- Li]
  by_cases h:y∈ts.map (·.1)
  . rw[if_pos h]
    by_cases h2:n < rm ts y
    . rw[if_pos h2]
      exact⟨λe=>(by cases e),λe=>(by have:=e.2 y (by simp);omega)⟩
    . rw[if_neg h2,ih]
      constructor
      . intro ⟨a,b⟩
        exact⟨λx hx=>by rcases Ft.mp hx with e | e;rw[e];exact h;exact a x e,λx hx=>by rcases Ft.mp hx with e | e;rw[e];omega;exact b x e⟩
      . intro ⟨a,b⟩
        exact⟨λx hx=>a x (Fk _ hx),λx hx=>b x (Fk _ hx)⟩
  . rw[if_neg h]
    exact⟨λe=>(by cases e),λe=>absurd (e.1 y (by simp)) h⟩
theorem Uj{n:Int}(h1:1<=n)(h2:n<=1000000)(h3:ys.length<=200)(h4:∀y∈ys,y∈ts.map (·.1))(h5:∀y∈ys,rm ts y<=n):D0 ts (.int n) ys=(Str.ofString "fine",none):=by
 unfold D0;rw[if_pos (N53.Qq h1 h2),if_neg (by omega)];show (match bad ts n ys 0 with | some (true,z,i)=>_ | some (false,z,i)=>_ | none=>_)=_;rw[J4t.mpr ⟨h4,h5⟩]
end
section
variable {K:PySem.W.Frag}{C xN xM xU xW:Addr}{vs:List V}{H:Hp}{Q:VK}{E:XK}
theorem M8:Km vs H Q E->Ee K xN vs H Q E:=λ⟨i,e,h1,h2,q⟩=>⟨.int i,e,Ec.flat rfl,λ_=>q,λh=>by rw[N53.Qq h1 h2]at h;cases h⟩
theorem J0j:Lu K vs H Q E->N53.Dt K vs H Q E:=λ⟨v,lo,hi,e,h,q⟩=>⟨v,lo,hi,e,Ec.flat h,q⟩
theorem Yb:N41.Lx K C vs H Q E->G4 K C xN xM xU xW vs H Q E:=λ⟨p,a,pl,ts,ys,e,h1,h2,h3,h4,h5,h6,h7,h8,q⟩=>by
 have f:=Uj h7 h8 h4 h5 h6;exact⟨p,a,.int pl,ts,ys,e,h1,h2,h3,by omega,Ec.flat rfl,λ_=>q,(λz=>by rw[f]at z;cases z),(λz=>by rw[f]at z;cases z),(λ_ _ z=>by rw[f]at z;cases z),(λ_ _ z=>by rw[f]at z;cases z)⟩
end
abbrev s10:S1:=⟨0,[],[]⟩
end N67
namespace L2
theorem M4.okF{w:World}{K:PySem.W.Frag}{mg:Str->Option Value}{base:Heap}{x:Str}{st:Stmt}{f:Addr}{dv:List Value}{N:List Str}{k:Nat}{sp:Sp}(F:M4 K x qual st f fd dv)(S:A9 N ps (A6 st))(len:∀vs H Q E,sp vs H Q E->vs.length=ps.length)
 (hbody:∀(cdv:Value) (A:Around) (outer:List Env) (s:Shared) (H:Hp) (vs:List V) (Q:VK) (E:XK),Bt k (A.deeper (envOfC qual (A6 st) s.heap.objs.size f cdv))->sp vs H Q E->
  ∃t,PSs (Gy (CXF P w) P w K mg base N qual (A6 st) f cdv A outer s H E) (Ax st) t/\t {nx:=λ_ H'=>Q .non H',rt:=Q} (start N vs) H):Ai P w K mg base (CXF P w) (k+1) f fd ps sp:=by
 obtain⟨oc,od,dT,ob,n,kV,doc,pm,an,cdv,ct,osl,rfl,lk,hcd,_⟩:=F.ex;exact J10 lk hcd S len λA outer s H vs Q E hr hsp=>hbody cdv A outer s H vs Q E hr hsp
end L2
namespace N38
open L2 N1 N5 N4 N6 N12 N32 N14 N20 N18 N25 NR N22 N21 N24 N23 N26 N28 N29 N36 N13 N67
open N53 (Ec)
end N38
namespace L2
def J4u:V->List V->Hp->VK->Prop:=λx vs H Q=>∃(l:Addr) (bs:List Bool),x= .ref l/\vs=[.bl true]/\H l=some (.lst (bs.map V.bl))/\Q (.int (bs.count true:Nat)) H
def Pu:Value->Bool
 | .bool b=>b
 | _=>false
section
variable {X:Cx}
theorem J4v:MtM X "list.count" J4u:=by
 intro pins s σ H x vs v us Q I rx rv h;obtain⟨l,bs,rfl,rfl,hH,q⟩:=h;cases rx;obtain⟨u,rfl,ru⟩:=rv.one;cases ru;obtain⟨hs,its,n,r,hl,e⟩:=I.lstM hH
 have ei:its=bs.map Value.bool:=by
  clear hs hl e hH q
  induction bs generalizing its with
  | nil=>cases r;rfl
  | cons b bs ih=>
   cases r with
   | cons ra rr=>
    cases ra;rw[ih _ rr];rfl
 subst ei
 have ev:∀y,y∈(bs.map Value.bool).toArray->MeetsSeq.EqGives y (.bool true) (Pu y):=λy hy=>by
  obtain⟨b,_,rfl⟩:∃b∈bs,Value.bool b=y:=by simpa using hy
  intro prog w A E s Q hq
  have:(b==true)=Pu (.bool b):=by cases b <;> rfl
  rw[<- this]at hq;exact SeqAt.EqAt.bool_bool b true prog w E Q hq
 have ec:((bs.map Value.bool).toArray.toList.countP Pu:Nat)=bs.count true:=by
  show (bs.map Value.bool).countP Pu=_;rw[List.countP_map];unfold List.count;refine List.countP_congr λb _=>?_
  cases b <;> simp[Pu]
 refine Rm F.slot_list_count ⟨_,e,rfl⟩ F.entry_list_count (F.args_list_count_2 _ _) (MeetsSeq.list_count l _ n (.bool true) Pu ev) ⟨e,?_⟩;rw[ec];exact⟨.int (bs.count true:Nat),H,I.kept (t':=s.toks+1) (λb o e=>e),⟨_,rfl⟩,q⟩
theorem Uk{x:V}{vs:List V}{H:Hp}:J4u x vs H Q=∃(l:Addr) (bs:List Bool),x= .ref l/\vs=[.bl true]/\H l=some (.lst (bs.map V.bl))/\Q (.int (bs.count true:Nat)) H:=rfl
end
end L2
namespace NQ
open K03
def rt(U v:Int):Int×Int:=(v.fdiv (Int.gcd v U:Nat),U.fdiv (Int.gcd v U:Nat))
end NQ
namespace N57
open L2 N1 N5 N4 N6 N12 N32 N14 N20 NQ
structure DuX where
 rp:Addr
 dd:Addr
 rr:Addr
structure DuS where
 r:Int
 ks:List Str
 f:Str->Int
 rs:List Int
end N57
namespace N58
open L2 N1 N5 N4 N6 N12 N32 N14 N20 N18 N25 NR NQ N57
end N58
namespace N56
open L2 N1 N5 N4 N6 N12 N32 N14 N20 N18 N25 NR NQ N57 N58 N13 N53
def J9y(c:Int):List Nat:=[bc (c / 36 % 26)]++((List.range 7).map λj:Nat=>bc ((c / 36+5 * (1+(j:Int)) * (1+(j:Int))) % 36)).take ((1+c / 4 % 6).toNat - 1)
def nmF(c:Int)(k:Nat):Str:=if c % 4=3 then tx (nm1 (c / 4) (λj:Nat=>c / 36+5 * (1+(j:Int)) * (1+(j:Int))) k) else tx (nm3 (J9y c) (c / 24 % (1+c / 4 % 6)).toNat (c / 1296) k)
def nmL(c:Int)(m:Nat):List Str:=(List.range m).map (nmF c)
def Gu:Sp:=λvs H Q _=>∃(c:Int) (m:Nat),vs=[.int c,.int m]/\m<=61/\∀(p:Addr) (H':Hp),H p=none->Aa H H'->H' p=some (.lst ((nmL c m).map V.str))->(nmL c m).Nodup->(∀y∈nmL c m,C8 y.cps.toList=true)->Q (.ref p) H'
theorem Lj{c:Int}{m:Nat}:(nmL c m).length=m:=by unfold nmL;rw[Fa,Hm]
theorem Yc{c:Int}{m:Nat}(nd:(nmL c (m+1)).Nodup):nmF c m∉nmL c m:=by
 unfold nmL at nd ⊢;rw[Rr,Fz,Hf]at nd;exact λh=>nd.2.2 _ h _ (by simp) rfl
end N56
namespace N15
open L2 N1 N5 N4 N6 N12 N32 N14 N18
theorem J4w(ys:List Str)(m:Nat):Nk (ys.map V.str) (some (m:Int)) none=(ys.drop m).map V.str:=by
 unfold Nk;rw[HT.Vv,HT.J13,Fa,List.map_drop]
 by_cases h:m<=ys.length
 . rw[Nat.min_eq_left h,Rp (by rw[Hc,Fa];omega)]
 . rw[Nat.min_eq_right (by omega),List.drop_of_length_le (by rw[Fa];omega),List.drop_of_length_le (by rw[Fa];omega),List.take_nil]
end N15
namespace L2
section
variable {P:Program}{w:World}{K:PySem.W.Frag}{mg:Str->Option Value}{base:Heap}{CX:CXT}{k:Nat}{ps:List Str}{sp sp1 sp2 sp':Sp}{f C:Addr}{fd:FuncData}{x:Str}
theorem Ai.or(a:Ai P w K mg base CX k f fd ps sp1)(b:Ai P w K mg base CX k f fd ps sp2):Ai P w K mg base CX k f fd ps (λvs H Q E=>sp1 vs H Q E\/sp2 vs H Q E):=
 ⟨λvs H Q E h=>h.elim (a.len vs H Q E) (b.len vs H Q E),λA outer s H args us vs Q E hr e0 hb r h=>h.elim (a.run A outer s H args us vs Q E hr e0 hb r) (b.run A outer s H args us vs Q E hr e0 hb r)⟩
theorem Kj.weaker(D:Kj P w K mg base CX k x C ps sp)(h:∀vs H Q E,sp' vs H Q E->sp vs H Q E):Kj P w K mg base CX k x C ps sp':=by
 obtain⟨f,fd,F,a⟩:=D;exact⟨f,fd,F.imp h,a⟩
theorem Oa.weaker{y:Str}{dv:List V}(D:Oa P w K mg base CX k x C ps y dv sp)(h:∀vs H Q E,sp' vs H Q E->sp vs H Q E):Oa P w K mg base CX k x C ps y dv sp':=by
 obtain⟨f,fd,z,F,a⟩:=D;exact⟨f,fd,z,F.imp h,a⟩
theorem Ol.weaker(D:Ol P w K mg base CX k x C ps sp)(h:∀vs H Q E,sp' vs H Q E->sp vs H Q E):Ol P w K mg base CX k x C ps sp':=by
 obtain⟨⟨f,fd,F,a⟩,b,c⟩:=D;exact⟨⟨f,fd,F.imp h,a⟩,b,c⟩
end
end L2
namespace N2R
open L2 N1 N5 N4 N6 N12 N32 N14 N20 N18 N25 NR N22 N21 N24 N23 N26 N28 N29 N36 N13 N67 N38
open N53 (Ec)
open N56 (nmF nmL Lj Yc)
inductive V7 where
 | ru | ra | ol | fi | hd | ro | ha
structure CV where
 ru:Addr
 ra:Addr
 ol:Addr
 fi:Addr
 hd:Addr
 ro:Addr
 ha:Addr
def TV(c:CV):V7->Ar
 | .ru=>T0 c.ru
 | .ra=>T2 c.ra
 | .ol=>T2 c.ol
 | .fi=>T1 c.fi
 | .hd=>T6 c.hd
 | .ro=>T26 c.ro
 | .ha=>T4 c.ha
def sV(c:CV):(w:V7)->(TV c w).St
 | .ru=>()
 | .ra=>s20
 | .ol=>s20
 | .fi=>(⟨0,[],[]⟩:S1)
 | .hd=>s60
 | .ro=>s00
 | .ha=>s40 8
def V7.i:V7->Int
 | .ru=>0
 | .ra=>1
 | .ol=>2
 | .fi=>3
 | .hd=>4
 | .ro=>5
 | .ha=>6
theorem Jc4{c:CV}{ns:List Str}{n:Int}{w:V7}(hn:1<=n):(TV c w).inv ns n (sV c w) []:=by
 have li:LI ns s20 []:=⟨Bu.nil,by simp,List.Pairwise.nil⟩
 cases w with
 | ru=>exact trivial
 | ra=>exact li
 | ol=>exact li
 | fi=>exact⟨Bu.nil,Bu.nil,by simp,List.Pairwise.nil⟩
 | hd=>exact Jcr
 | ro=>exact Jcq hn
 | ha=>exact Jbw (by decide) (by decide)
theorem Jc5{c:CV}{w:V7}:(TV c w).cnt (sV c w)=0:=by cases w <;> rfl
theorem J88{i:Int}(h0:0<=i)(h:i < 7):∃w:V7,w.i=i:=by
 have:i=0\/i=1\/i=2\/i=3\/i=4\/i=5\/i=6:=by omega
 rcases this with e | e | e | e | e | e | e <;> subst e
 . exact⟨.ru,rfl⟩
 . exact⟨.ra,rfl⟩
 . exact⟨.ol,rfl⟩
 . exact⟨.fi,rfl⟩
 . exact⟨.hd,rfl⟩
 . exact⟨.ro,rfl⟩
 . exact⟨.ha,rfl⟩
def G5(H:Hp)(v:V):Prop:=Ca v=true\/∃a xs,v= .ref a/\(H a=some (.lst xs)\/H a=some (.tup xs))
section
variable {K:PySem.W.Frag}{H H':Hp}{v:V}
theorem G5.num(h:G5 H v):Ec K H v:=by
 rcases h with h | ⟨a,xs,rfl,h | h⟩
 . exact Ec.flat h
 . exact Ec.lst h
 . exact Ec.tup h
theorem G5.same(s:Aa H H')(h:G5 H v):G5 H' v:=by
 rcases h with h | ⟨a,xs,rfl,h | h⟩
 . exact .inl h
 . exact .inr ⟨a,xs,rfl,.inl (s _ _ h)⟩
 . exact .inr ⟨a,xs,rfl,.inr (s _ _ h)⟩
theorem G5.but{q C:Addr}{fs:List (Str×V)}(s:SameBut q H H')(hq:H q=some (.ins C dx fs))(h:G5 H v):G5 H' v:=by
 rcases h with h | ⟨a,xs,rfl,h | h⟩
 . exact .inl h
 . exact .inr ⟨a,xs,rfl,.inl (s _ _ h (C0 h hq (by intro z;cases z)))⟩
 . exact .inr ⟨a,xs,rfl,.inr (s _ _ h (C0 h hq (by intro z;cases z)))⟩
end
abbrev NoN(xN:Addr)(H:Hp)(E:XK):Prop:=∀H' y,Aa H H'->H y=none->Ql xN H' y->E (.ref xN) (some y) H'
def Cz(xN:Addr):Sp:=λvs H _ E=>∃(q p:Addr) (u:V),vs=[.ref q,.ref p,u]/\G5 H u/\wIn 1 1000000 u=false/\NoN xN H E
def Pw(xN:Addr):Sp:=λvs H _ E=>∃(q p:Addr) (u v:V),vs=[.ref q,.ref p,u,v]/\G5 H u/\wIn 1 1000000 u=false/\NoN xN H E
def Px(xN C:Addr):Sp:=λvs H _ E=>∃(q dx p:Addr) (n:Int) (v:V),vs=[.ref q,.ref p,.int n,v]/\H q=some (.ins C dx [])/\1<=n/\n<=1000000/\G5 H v/\wIn 1 200 v=false/\∀H' y,SameBut q H H'->H y=none->Ql xN H' y->E (.ref xN) (some y) H'
inductive R4 where
 | num | many | unk (z:Str) (i:Nat) | wide (z:Str) (i:Nat) | no
def R4.d:R4->Str×Option (Str×Nat)
 | .num=>(Str.ofString "number",none)
 | .many=>(Str.ofString "many",none)
 | .unk z i=>(Str.ofString "unknown",some (z,i))
 | .wide z i=>(Str.ofString "wide",some (z,i))
 | .no=>(Str.ofString "fine",none)
structure E4 where
 num:Addr
 many:Addr
 unk:Addr
 wide:Addr
def Tel(X:E4)(H:Hp)(E:XK):R4->Prop
 | .num=>∀H' y,Aa H H'->H y=none->Ql X.num H' y->E (.ref X.num) (some y) H'
 | .many=>∀H' y,Aa H H'->H y=none->Ql X.many H' y->E (.ref X.many) (some y) H'
 | .unk z i=>∀H' y,Aa H H'->H y=none->J00 X.unk H' y (.str z) (.int i)->E (.ref X.unk) (some y) H'
 | .wide z i=>∀H' y,Aa H H'->H y=none->J00 X.wide H' y (.str z) (.int i)->E (.ref X.wide) (some y) H'
 | .no=>False
theorem Tel.sm{X:E4}{H H0:Hp}{E:XK}{r:R4}(s:Aa H H0)(h:Tel X H E r):Tel X H0 E r:=by
 cases r with
 | num=>exact λH' y sm hy=>h H' y (s.trans sm) (B4 s hy)
 | many=>exact λH' y sm hy=>h H' y (s.trans sm) (B4 s hy)
 | unk z i=>exact λH' y sm hy=>h H' y (s.trans sm) (B4 s hy)
 | wide z i=>exact λH' y sm hy=>h H' y (s.trans sm) (B4 s hy)
 | no=>exact h
theorem Ul{v:V}{X:E4}{H:Hp}{G:Hp->Prop}{E:XK}{r:R4}(e:D0 ts v ys=r.d)(h:Tel X H E r):(D0 ts v ys=(Str.ofString "fine",none)->∀H',Aa H H'->G H')/\
 (D0 ts v ys=(Str.ofString "number",none)->∀H' y,Aa H H'->H y=none->Ql X.num H' y->E (.ref X.num) (some y) H')/\
 (D0 ts v ys=(Str.ofString "many",none)->∀H' y,Aa H H'->H y=none->Ql X.many H' y->E (.ref X.many) (some y) H')/\
 (∀z (i:Nat),D0 ts v ys=(Str.ofString "unknown",some (z,i))->∀H' y,Aa H H'->H y=none->J00 X.unk H' y (.str z) (.int i)->E (.ref X.unk) (some y) H')/\
 (∀z (i:Nat),D0 ts v ys=(Str.ofString "wide",some (z,i))->∀H' y,Aa H H'->H y=none->J00 X.wide H' y (.str z) (.int i)->E (.ref X.wide) (some y) H'):=by
 have n1:Str.ofString "many"≠Str.ofString "unknown":=by decide+kernel
 have n2:Str.ofString "many"≠Str.ofString "wide":=by decide+kernel
 have n3:Str.ofString "many"≠Str.ofString "fine":=by decide+kernel
 have n4:Str.ofString "unknown"≠Str.ofString "wide":=by decide+kernel
 have n5:Str.ofString "unknown"≠Str.ofString "fine":=by decide+kernel
 have n7:Str.ofString "number"≠Str.ofString "fine":=by decide+kernel
 have n8:Str.ofString "number"≠Str.ofString "many":=by decide+kernel
 refine⟨λz=>?_,λz=>?_,λz=>?_,λzz i z=>?_,λzz i z=>?_⟩ <;> rw[e]at z <;> cases r <;> simp only[R4.d,Prod.mk.injEq,reduceCtorEq,and_false,and_true,Option.some.injEq,false_and]at z <;> first | exact False.elim h | exact h | exact absurd z n1 | exact absurd z n2 | exact absurd z n3 | exact absurd z n7 | exact absurd z n8 | exact absurd z.symm n8 | exact absurd z.1 n4 | exact absurd z.1 n5 | exact absurd z.1.symm n4 | (obtain⟨_,rfl,rfl⟩:=z;exact h)
def J6p(X:E4)(K:PySem.W.Frag)(S:Addr):Sp:=λvs H _ E=>∃(q p a:Addr) (v:V) (ts:List Th) (ys:List Str) (r:R4),vs=[.ref q,.ref p,v,.ref a]/\Aq K S H p ts/\(ts.map (·.1)).Nodup/\SqL K H a (ys.map V.str)/\ys.length<=250/\G5 H v/\D0 ts v ys=r.d/\Tel X H E r
def Um(c:CV)(X:E4)(K:PySem.W.Frag)(S:Addr):Sp:=λvs H _ E=>∃(w:V7) (q p a:Addr) (M:List Addr) (n:Int) (s:(TV c w).St) (ts:List Th) (ys:List Str) (r:R4),vs=[.ref q,.ref a]/\(TV c w).At H M q p n s/\Aq K S H p ts/\(ts.map (·.1)).Nodup/\SqL K H a (ys.map V.str)/\ys.length<=250/\D0 ts (.int n) ys=r.d/\Tel X H E r
def Kd(K:PySem.W.Frag)(ds:List Addr)(CE:Addr):Sp:=λvs H Q _=>∃(p C:Addr) (k:Nat),vs=[.ref p]/\J0i H p C/\J4q K ds CE C k/\k < 4/\∀H',Aa H H'->Q (.bl true) H'
def R4.vs:R4->List V
 | .num=>[.str (Str.ofString "number"),.bl true,.str (Str.ofString ""),.int 0]
 | .many=>[.str (Str.ofString "many"),.bl true,.str (Str.ofString ""),.int 0]
 | .unk z i=>[.str (Str.ofString "unknown"),.bl true,.str z,.int i]
 | .wide z i=>[.str (Str.ofString "wide"),.bl true,.str z,.int i]
 | .no=>[.str (Str.ofString "none"),.bl true,.str (Str.ofString ""),.int 0]
theorem R4.flat(r:R4):r.vs.all Ca=true:=by cases r <;> rfl
def Lk(c:CV)(K:PySem.W.Frag)(S:Addr):Sp:=λvs H Q _=>∃(w:V7) (q p a:Addr) (M:List Addr) (n:Int) (s:(TV c w).St) (ts:List Th) (ys:List Str) (r:R4),vs=[.ref q,.ref a]/\(TV c w).At H M q p n s/\Aq K S H p ts/\(ts.map (·.1)).Nodup/\SqL K H a (ys.map V.str)/\ys.length<=250/\D0 ts (.int n) ys=r.d/\r≠ .no/\
 ∀(t:Addr) (H':Hp),Aa H H'->H t=none->H' t=some (.tup r.vs)->Q (.ref t) H'
def Ir(c:CV):Sp:=λvs H Q _=>∃(w:V7) (st a:Addr) (n:Int),vs=[.int w.i,.ref st,.int n,.ref a,.int 8]/\1<=n/\n<=1000000/\
 ∀(q:Addr) (M:List Addr) (H':Hp),Aa H H'->(∀m∈M,H m=none)->(TV c w).At H' M q st n (sV c w)->Q (.ref q) H'
def Why(ts:List Th)(ys:List Str)(k:Int)(u v:V)(r:R4):Prop:=(0<=k/\k < 7/\wIn 1 1000000 u=false/\r= .num)\/(k=6/\(∃n:Int,u= .int n/\1<=n/\n<=1000000)/\wIn 1 200 v=false/\r= .num)\/(k=7/\D0 ts u ys=r.d)
def Ll(X:E4)(K:PySem.W.Frag)(S:Addr):Sp:=λvs H _ E=>∃(k:Int) (st a:Addr) (u v:V) (ts:List Th) (ys:List Str) (r:R4),vs=[.int k,.ref st,u,.ref a,v]/\Aq K S H st ts/\(ts.map (·.1)).Nodup/\SqL K H a (ys.map V.str)/\ys.length<=250/\G5 H u/\G5 H v/\((0<=k/\k < 7/\wIn 1 1000000 u=false/\r= .num)\/(k=7/\D0 ts u ys=r.d))/\Tel X H E r
def Lm(xN:Addr):Sp:=λvs H _ E=>∃(st a:Addr) (n:Int) (v:V),vs=[.int 6,.ref st,.int n,.ref a,v]/\1<=n/\n<=1000000/\G5 H v/\wIn 1 200 v=false/\NoN xN H E
def Gv(K:PySem.W.Frag)(S:Addr):Sp:=λvs H Q _=>∃(k:Int) (st a:Addr) (u v:V) (ts:List Th) (ys:List Str) (r:R4),vs=[.int k,.ref st,u,.ref a,v]/\Aq K S H st ts/\(ts.map (·.1)).Nodup/\SqL K H a (ys.map V.str)/\ys.length<=250/\G5 H u/\G5 H v/\Why ts ys k u v r/\r≠ .no/\
 ∀(t:Addr) (H':Hp),Aa H H'->H t=none->H' t=some (.tup r.vs)->Q (.ref t) H'
def thR(ys:List Str)(xs:List Int)(m:Nat)(n:Int)(k:Nat):Th:=(ys.getD k Str.empty,if k < m then (xs.getD k 0 % 1000,1+xs.getD k 0 / 1000 % n) else (7,n+1+xs.getD m 0 % (1000 - n)))
def tR(ys:List Str)(xs:List Int)(m:Nat)(n:Int):List Th:=(List.range (m+1)).map (thR ys xs m n)
section
variable {ys:List Str}{xs:List Int}{m:Nat}{n:Int}
theorem Vn:(tR ys xs m n).length=m+1:=by unfold tR;rw[Fa,Hm]
theorem Vo{k:Nat}(h:k < m+1):(tR ys xs m n)[k]?=some (thR ys xs m n k):=by
 unfold tR;rw[Ff,RC h];rfl
theorem J89{k:Nat}(h:k < m+1):(tR ys xs m n).getD k th0=thR ys xs m n k:=by
 rw[Fd,Vo h];rfl
theorem Uo(h:ys.length=m+1):(tR ys xs m n).map (·.1)=ys:=by
 unfold tR;rw[FA,<- h];refine List.ext_getElem? λi=>?_;rw[Ff]
 by_cases hi:i < ys.length
 . rw[RC hi]
   show some (ys.getD i Str.empty)=_;rw[Fd,Fb hi];rfl
 . rw[HD (by rw[Hm];omega),HD (by omega)];rfl
theorem Jc6(hy:∀y∈ys,C8 y.cps.toList=true)(hl:ys.length=m+1)(h1:1<=n)(h2:n<=900)(hx:∀x∈xs,0<=x):∀t∈tR ys xs m n,C8 t.1.cps.toList=true/\0<=t.2.1/\t.2.1<=10 ^ 30/\1<=t.2.2/\t.2.2<=1000:=λt ht=>by
 have hin:t.1∈ys:=by rw[<- Uo (xs:=xs) (n:=n) hl];exact FK.mpr ⟨t,ht,rfl⟩
 have hn:=hy _ hin;unfold tR at ht;obtain⟨k,_,rfl⟩:=FK.mp ht;refine⟨hn,?_⟩;unfold thR;have f0:=FH (xs.getD k 0 / 1000) (show n≠0 by omega);have f1:=FD (xs.getD k 0 / 1000) (show 0 < n by omega);have f2:=FH (xs.getD m 0) (show 1000 - n≠0 by omega);have f3:=FD (xs.getD m 0) (show 0 < 1000 - n by omega)
 by_cases h:k < m
 . simp only[h,if_true];omega
 . simp only[h,if_false];omega
theorem J9z{k:Nat}{t:Th}(h:k < m)(h1:1<=n)(e:(tR ys xs m n)[k]?=some t):t.2.2<=n:=by
 rw[Vo (by omega)]at e;cases e;have f1:=FD (xs.getD k 0 / 1000) (show 0 < n by omega);unfold thR;simp only[h,if_true];omega
theorem J6q{t:Th}(h2:n<=900)(e:(tR ys xs m n)[m]?=some t):n < t.2.2:=by
 rw[Vo (by omega)]at e;cases e;have f2:=FH (xs.getD m 0) (show 1000 - n≠0 by omega);unfold thR;simp only[Hq,if_false];omega
end
def Ln(K:PySem.W.Frag):Sp:=λvs H Q _=>∃(a:Addr) (ns:List Int) (n:Int),vs=[.ref a,.int n]/\SqL K H a (ns.map V.int)/\ns.length<=63/\1<=n/\n<=900/\
 ∀(r:Addr) (as:List Addr) (ts:List Th) (m:Nat) (H':Hp),Aa H H'->H' r=some (.lst (as.map V.ref))->Il K H' r as ts->ts.length=m+1->1<=m->ts.map (·.1)=nmL (ns.getD 1 0) (m+1)->(∀i t,i < m->ts[i]?=some t->t.2.2<=n)->(∀t,ts[m]?=some t->n < t.2.2)->Q (.ref r) H'
def Mz:Sp:=λvs H Q _=>∃(c mo:Int),vs=[.int c,.int mo]/\(mo=1000000\/mo=200)/\∀v H',Aa H H'->G5 H' v->wIn 1 mo v=false->Q v H'
def N0(K:PySem.W.Frag):Sp:=λvs H Q _=>∃(a:Addr) (z:Str) (c:Int) (ys:List Str),vs=[.ref a,.str z,.int c]/\SqL K H a (ys.map V.str)/\ys.length<=250/\∀(i:Nat) (p:Addr) (H':Hp),i<=ys.length->Aa H H'->H p=none->H' p=some (.lst ((ys.take i++[z]++ys.drop i).map V.str))->Q (.ref p) H'
theorem J4x{n:Int}{xs:List Str}{b:Bool}{z:Str}{i:Nat}(h1:1<=n)(h2:n<=1000000)(hl:xs.length<=200)(h:bad ts n xs 0=some (b,z,i)):D0 ts (.int n) xs=(if b=true then R4.unk z i else R4.wide z i).d:=by
 unfold D0;rw[if_pos (N53.Qq h1 h2),if_neg (by omega)];show (match bad ts n xs 0 with | some (true,z,i)=>(Str.ofString "unknown",some (z,i)) | some (false,z,i)=>(Str.ofString "wide",some (z,i)) | none=>(Str.ofString "fine",none))=_;rw[h]
 cases b <;> rfl
theorem J4y{n:Int}{xs:List Str}(h1:1<=n)(h2:n<=1000000)(hl:200 < xs.length):D0 ts (.int n) xs=R4.many.d:=by
 unfold D0;rw[if_pos (N53.Qq h1 h2),if_pos hl];rfl
def Gw(K:PySem.W.Frag):Sp:=λvs H Q _=>∃(way:Int) (a sc:Addr) (ns:List Int) (ys:List Str) (ts:List Th) (n:Int) (zs zw:Str),vs=[.int way,.ref a,.str zs,.str zw,.ref sc]/\2<=way/\way<=5/\H a=some (.lst (ys.map V.str))/\ys.length<=95/\SqL K H sc (ns.map V.int)/\ns.length<=63/\1<=n/\n<=1000000/\(∀y∈ys,y∈ts.map (·.1)/\¬n < Vh ts y)/\zs∉ts.map (·.1)/\zw∈ts.map (·.1)/\n < Vh ts zw/\
 ∀(l s t:Addr) (xs:List Str) (r:R4) (H':Hp),Aa H H'->H' l=some (.lst [.ref s,.ref t])->H' s=some (.lst (xs.map V.str))->xs.length<=250->H' t=some (.tup r.vs)->D0 ts (.int n) xs=r.d->r≠ .no->Q (.ref l) H'
def N2(c:CV)(K:PySem.W.Frag)(S:Addr):Sp:=λvs H Q _=>∃(w:V7) (st a s t:Addr) (n:Int) (ts:List Th) (ys xs:List Str) (r:R4),vs=[.int w.i,.ref st,.int n,.ref a,.ref s,.ref t]/\Aq K S H st ts/\(ts.map (·.1)).Nodup/\ts.length<=60/\H a=some (.lst (ys.map V.str))/\ys.length<=200/\(∀y∈ys,y∈ts.map (·.1))/\(∀y∈ys,rm ts y<=n)/\1<=n/\n<=1000000/\H s=some (.lst (xs.map V.str))/\xs.length<=250/\H t=some (.tup r.vs)/\D0 ts (.int n) xs=r.d/\r≠ .no/\∀H',Q (.bl true) H'
theorem Qv{K:PySem.W.Frag}{H:Hp}{a b:Addr}{r:R4}(h1:H a=some (.tup r.vs))(h2:H b=some (.tup r.vs)):EqQ K H (.ref a) (.ref b) true:=⟨a,b,_,_,rfl,rfl,.inr ⟨SqT.of h1,SqT.of h2⟩,r.flat,r.flat,by cases r <;> simp[Gb,eqV,R4.vs]⟩
def pkM(ts:List Th)(m:Nat)(c:Int):Str:=(ts.getD (c % (m:Int)).toNat th0).1
def J8a(ts:List Th)(m:Nat):V->V
 | .int c=> .str (pkM ts m c)
 | v=>v
theorem Vp{m:Nat}{ps:List Int}:(ps.map V.int).map (J8a ts m)=(ps.map (pkM ts m)).map V.str:=by rw[FA,FA];rfl
theorem J6r{v:V}(h:wIn 1 1000000 v=false):D0 ts v ys=R4.num.d:=by
 unfold D0;rw[if_neg (by rw[h];decide)];rfl
theorem J6s{k:Int}{u v:V}(k0:0<=k)(k8:k < 8)(h:wIn 1 1000000 u=false):Why ts ys k u v .num:=by
 by_cases e:k=7
 . exact .inr (.inr ⟨e,J6r h⟩)
 . exact .inl ⟨k0,by omega,h,rfl⟩
end N2R
namespace L2
structure Ja0(P:Program)(w:World)(K:PySem.W.Frag)(mg:Str->Option Value)(base:Heap)(CX:CXT)(k:Nat)(x:Str)(ps:List Str)(sp:Sp):Prop where
 ex:∃(f:Addr) (fd:FuncData),Pt P w K mg base CX k f fd ps sp/\mg x=some (.ref f)/\PySem.W.keepIn K (.ref f)=true/\Bl K fd ps []
theorem Gf.dH{w:World}{K:PySem.W.Frag}{mg:Str->Option Value}{base:Heap}{k:Nat}{sp:Sp}{x:Str}{st:Stmt}(F:Gf K x st)(B:Bs P w K mg base)(o:∀{f fd},Fun K x x st f fd->Pt P w K mg base CX k f fd ps sp)(b:∀{f fd},Fun K x x st f fd->Bl K fd ps []:=by walk_at "bd"):Ja0 P w K mg base CX k x ps sp:=
 let ⟨_,_,a,G⟩:=F;let ⟨_,X,Y⟩:=B.ex;⟨_,_,o G,PySem.W.mg_of X Y a,G.kp,b G⟩
section
variable {X:Cx}{CX:CXT}{k j:Nat}{ps:List Str}{sp:Sp}{EE:L2.St->XK}{x:Str}{p pos:Pos}{e:Expr}{es:List Expr}{t:TA}
theorem Du(D:Ja0 X.prog X.w X.K X.mg X.base CX j x ps sp)(hr:Of k X.A)(hg:Gl X x)(hx:Ci CX X EE)(ha:PA X (e::es) t)(hj:j<=k:=by decide)
 (hdb:(x==("__debug__":Str))=false:=by decide) (he:starEach (e::es) X.env=(false,eval e X.env)::starEach es X.env:=by rfl) (hpl:(backTo pos (starEach es X.env)).any (·.1)=false:=by rfl):
 PE X (.Call (.Name x p) (e::es) [] pos) (V4 sp EE t):=by
 obtain⟨f,fd,F,hm,hk,hb⟩:=D.ex;intro pins s σ H Q I h;refine FV (Ef I hg hm ?_ hdb);refine FW (h₀:=X.base) I.ok.mod.kin hk (thn (ha pos pins s σ H _ I h) λus s1 ⟨vs,H1,I1,r,q⟩=>⟨I1.kIn,?_⟩) he hpl;exact J4r F (hr.mono hj) hb hx I1 r q
end
end L2
namespace K20
open L2 N1 N5 N4 N6 N12 N31 N32 N41 N14 N20 N18 N25 NR N22 N21 N24 N23 N26 N28 N29 N13 N67 N38 N2R
def ql:Array Lean.Term:=("J1z J20 Jaz J76 J77 Jb0 Jb1 W4 J21 W6 Jb2 J22 W7 W8 Sg W9 J78 Wa J23 Wb J24 J79 J25 Wc J26 Wd J7a J7b J7c J7d J27 J28 J29 Sh We Si Wf Wg Sj Wh Wi Sk Wj Wk J7q J7r J7s J7t J7u J7v J7w J7x J7y J7z J80 J81 J82 J83 Wt Wu J7h P7 Wv J2f J2g J7i J2h Ww Wx Wy Su J2i Wz X0 Sv X1 J2j X2 Sw true_implies false_implies Bool.false_and Bool.true_and Bool.and_true Bool.and_false Bool.false_or Bool.true_or Bool.or_true Bool.or_false J2n J2o T3 T5 J2s X5 J2t P9 X6 X7 X8 J2m P8 Sy J7j Int.zero_add Int.toNat_natCast Iu List.map_cons List.map_nil List.getD_cons_zero List.getD_cons_succ J1y List.length_cons List.length_nil List.getElem?_cons_zero List.getElem?_cons_succ List.set_cons_zero List.set_cons_succ Option.some.injEq V.int.injEq V.bl.injEq V.str.injEq V.ref.injEq V.ty.injEq exists_eq_left' exists_eq_left exists_and_left exists_eq exists_eq' List.cons.injEq and_true true_and decide_eq_true_eq Bool.not_eq_true' decide_eq_false_iff_not reduceCtorEq exists_const Bool.true_eq_false Bool.false_eq_true if_true if_false ite_true ite_false Bool.not_true Bool.not_false decide_true decide_false Bool.not_not false_and and_false exists_false false_or or_false true_or or_true and_assoc not_true_eq_false not_false_eq_true Int.reduceToNat Nat.reduceAdd Pe Pf Xd Xe Ta Tb J33 Xf L0 K3 Mq K4 J36 Mr Kx Ky Kz Xk Lg X3 Sz X4 J2q J7l Sn Ku Wp Wq Wr exists_eq_right Ms Mt Gk Eh K6 L4 Qi K7 Gp Km N41.Lx Mv La L0 K3 Mq K4 Kx L7 L8 L9 Mu Tp Xt Ts Tt Tu Tq Tr Xv Xx J3q Xo Tw U3 Xu Y1 Ba B5 Bi Bj Im Lc Pn Ky J8o Xw J3k Mr Y7 Ub Ek Ey Ex M3 U6 U7 Y4 Pr Ua Y6 J3t List.cons_append List.nil_append U5 Tx Y8 Y9 Dl C9 Ug Uh Ya J3l Ps Lu N53.Dt Ee G4 Ik O2 Lg J3p J42 Uc J4s Qj Kz Ei Ed D4 D5 D6 E6 Gr Em Ez G0 G1 K9 Ka Kb Gs G2 Kc G3 Cz Pw Px J6p Um N56.Gu Ln Mz N0 Gw N2 Kd Lk Ir Ll Lm Gv Uk Ku".splitOn " ").toArray.map λs=>⟨(Lean.mkIdent s.toName).raw⟩
local macro_rules | `(tactic| walk_at "rq") => `(tactic| simp only[$[$ql:term],*])
local macro_rules | `(tactic| walk_at "rd") => `(tactic| first | (dsimp only[$[$ql:term],*]; try walk_at "rq") | walk_at "rq")
local macro_rules | `(tactic| walk_at "hp") => `(tactic| first | with_reducible assumption | exact A1 | (rw[A5 (by first | with_reducible assumption | exact Ab (by with_reducible assumption) (by with_reducible assumption))]; first | with_reducible assumption | exact A1))
local macro_rules | `(tactic| walk_at "sq") => `(tactic| (repeat' first | with_reducible assumption | exact SqT.of A1 | exact SqL.of A1 | refine' Aa.tup (Aa.new (by with_reducible assumption)) ?_ | refine' Aa.seq (Aa.new (by with_reducible assumption)) ?_))
local macro_rules | `(tactic| walk_at "isi") => `(tactic| first | exact J1m | exact J1n | exact J1o | exact J8w | exact J8y | exact J1q | exact J8z | exact J1p | exact J8x | exact J1r | exact J90 | exact J1v (by walk_at "hp") | exact J1s (by walk_at "hp") | exact J1x (by walk_at "hp") | exact J1u (by walk_at "hp") | exact J1w (by walk_at "hp") | exact J1t (by walk_at "hp") | exact Sf (by walk_at "hp") | exact Se (by walk_at "hp"))
local macro_rules | `(tactic| walk_at "slen") => `(tactic| first | omega | decide +kernel | (refine J9e ?_ ?_ <;> walk_at "slen"))
local macro_rules | `(tactic| walk_at "side") => `(tactic| first | with_reducible assumption | with_reducible exact Iy (by omega) (by omega) | with_reducible exact J5l (by decide) (by decide) (by decide) | with_reducible exact J94 (by omega) (by omega) | with_reducible exact J95 (by omega) (by omega) | omega | decide | decide +kernel | (have := E9; omega) | (simp only[Bq, K0, E9]; omega) | (rw[E9]; walk_at "slen"; done))
local macro_rules | `(tactic| walk_at "go1") => `(tactic| first | walk_at "rd" | ((with_reducible refine And.intro ?_ ?_); (focus (walk_at "side"; done))) | ((with_reducible apply J91); (focus (walk_at "isi"; done))) | ((with_reducible apply V2); (focus (walk_at "sq"; done)); (focus rfl)) | ((with_reducible apply Ck); (focus (walk_at "sq"; done)); (focus rfl)) | ((with_reducible apply J5i); (focus (walk_at "sq"; done))) | ((with_reducible apply J5h); (focus (walk_at "sq"; done))) | ((with_reducible apply Yu); (focus (walk_at "sq"; done)); (focus (assumption; done))) | ((with_reducible apply J5k); (focus (walk_at "sq"; done)); (focus (decide; done)); (focus (assumption; done))) | (intro (_ : List (Addr × PySem.Obj)) (_ : PySem.Value -> PySem.Shared -> Prop)) | with_reducible refine J93 λ_ _ => ?_ | (refine J5j (by with_reducible assumption) ?_; subst_vars))
local macro_rules | `(tactic| walk_at "go") => `(tactic| repeat walk_at "go1")
local macro_rules|`(tactic|ext)=>`(tactic|walk_at "go")
local macro_rules|`(tactic|ext:1)=>`(tactic|walk_at "rs")
local macro_rules|`(tactic|ext:2)=>`(tactic|walk_at "ok")
local macro_rules|`(tactic|ext:3)=>`(tactic|walk_at "sc")
local macro_rules|`(tactic|ext:4)=>`(tactic|walk_at "st")
open N56 hiding nmL Lj
def top(i:Nat):Stmt:=PySem.Challenge.pw_castoff_k20_rules_refused.main.body.getD i (.Pass ⟨0,0,0,0⟩)
structure Txt(K:W.Frag)(mg:Str->Option Value)(Zf Z7 Z8 Z4 Zc Zd Zg Zb Z2 Z3 Z5 Z0 Zn Z9 Z1:Addr):Prop where
 Zfq:mg "Stock"=some (.ref Zd)
 Z0c:Cls K Zd
 Zx:An K Zd "things"
 Zfr:mg "Shelf"=some (.ref Zg)
 Zv:Cls K Zg
 Z23:An K Zg "stock"
 Z2k:An K Zg "places"
 Z0i:An K Zg "rooms"
 Z4n:mg "Rule"=some (.ref Zb)
 Z3e:Cls K Zb
 Z1k:An K Zb "stock"
 Z18:An K Zb "places"
 Z40:mg "Ranked"=some (.ref Z2)
 Z01:Cls K Z2
 Z0x:An K Z2 "stock"
 Z0q:An K Z2 "places"
 Z14:An K Z2 "present"
 Z24:An K Z2 "last"
 Zfp:mg "Oldest"=some (.ref Z3)
 Z02:Cls K Z3
 Z0y:An K Z3 "stock"
 Z0r:An K Z3 "places"
 Z15:An K Z3 "present"
 Z25:An K Z3 "last"
 Zfs:mg "First"=some (.ref Z5)
 Z03:Cls K Z5
 Z19:An K Z5 "stock"
 Z0z:An K Z5 "places"
 Z0s:An K Z5 "present"
 Z3g:An K Z5 "last"
 Z1l:An K Z5 "put_at"
 Zfl:mg "Halving"=some (.ref Z0)
 Zh:Cls K Z0
 Z0f:An K Z0 "stock"
 Z0d:An K Z0 "places"
 Z08:An K Z0 "present"
 Z10:An K Z0 "last"
 Z2l:An K Z0 "turn"
 Z00:An K Z0 "tally"
 Zfj:mg "Farthest"=some (.ref Zn)
 Zfi:Cls K Zn
 Z5o:An K Zn "stock"
 Z57:An K Zn "places"
 Z4o:An K Zn "present"
 Z61:An K Zn "last"
 Z62:An K Zn "asks"
 Zft:mg "Hand"=some (.ref Z9)
 Zy:Cls K Z9
 Z1m:An K Z9 "stock"
 Z1a:An K Z9 "places"
 Z0a:An K Z9 "order"
 Z0t:An K Z9 "marked"
 Zfu:mg "Rows"=some (.ref Z1)
 Ze:Cls K Z1
 Z1n:An K Z1 "stock"
 Z0j:An K Z1 "places"
 Z06:An K Z1 "once"
 Z04:An K Z1 "again"
 Zw:An K Z1 "past_once"
 Zz:An K Z1 "past_again"
 Z0p:An K Z1 "bound"
 Z0l:An K Z1 "returns"
 Zb0:mg "CastError"=some (.ref Zf)
 Z72:mg "Unknown"=some (.ref Z7)
 Z73:mg "TooWide"=some (.ref Z8)
 Z1u:mg "NoNumber"=some (.ref Z4)
 Z5e:V3 K Z4
 k_NoNumber:W.keepIn K (.ref Z4)=true
 Z63:mg "TooMany"=some (.ref Zc)
 Zer:V3 K Zc
 k_TooMany:W.keepIn K (.ref Zc)=true
 Z1s:Mh K Z7 Zf
 Z1o:W.findIn K (.ref Z7) "name"=some none
 Z1e:W.findIn K (.ref Z7) "place"=some none
 Z1t:Mh K Z8 Zf
 Z1p:W.findIn K (.ref Z8) "name"=some none
 Z1f:W.findIn K (.ref Z8) "place"=some none
 Zfk:J2x K Z4
 Zfm:J2x K Zc
 Zfn:J2x K Z7
 Zfo:J2x K Z8
 Z6l:J4q K [Z4,Zc,Z7,Z8] Zf Z4 0
 Z9o:J4q K [Z4,Zc,Z7,Z8] Zf Zc 1
 Z9p:J4q K [Z4,Zc,Z7,Z8] Zf Z7 2
 Z9q:J4q K [Z4,Zc,Z7,Z8] Zf Z8 3
 Z29:W.exmOne K (.ref Z4) (.ref Z4)=some true
 Z4p:W.exmOne K (.ref Zc) (.ref Z4)=some false
 Z58:W.exmOne K (.ref Zc) (.ref Zc)=some true
 Z4q:W.exmOne K (.ref Z7) (.ref Z4)=some false
 Z59:W.exmOne K (.ref Z7) (.ref Zc)=some false
 Z5a:W.exmOne K (.ref Z7) (.ref Z7)=some true
 Z4r:W.exmOne K (.ref Z8) (.ref Z4)=some false
 Z5b:W.exmOne K (.ref Z8) (.ref Zc)=some false
 Z5c:W.exmOne K (.ref Z8) (.ref Z7)=some false
 Z5d:W.exmOne K (.ref Z8) (.ref Z8)=some true
 Z1g:mg "len"=none
 Z05:mg "isinstance"=none
 Zc4:mg "int"=none
 Zac:mg "bool"=none
 Zc5:mg "str"=none
 Z1h:mg "list"=none
 Zc0:mg "tuple"=none
 Zc6:mg "all"=none
 Z41:mg "range"=none
 Zc7:mg "sum"=none
 Z49:mg "enumerate"=none
 Zf8:mg "zip"=none
 Zab:mg "max"=none
 Z6m:mg "min"=none
 Zes:mg "dict"=none
 Zad:mg "sorted"=none
 Zf9:mg "set"=none
 Z5p:mg "ValueError"=none
 Z64:∃t,mg "LETTERS"=some (.str "abcdefghijklmnopqrstuvwxyz" t)
 Z74:∃t,mg "FIGURES"=some (.str "0123456789" t)
 Z5q:∃t,mg "MOST_SIGNS"=some (.int 8 t)
 Z4u:∃t,mg "MOST_THINGS"=some (.int 60 t)
 Z67:∃t,mg "MOST_ROOM"=some (.int 1000 t)
 Z2y:∃t,mg "MOST_PLACES"=some (.int 1000000 t)
 Z4a:∃t,mg "MOST_ASKS"=some (.int 200 t)
 Z0w:∃t,mg "MOST_TURN"=some (.int 200 t)
local macro_rules | `(tactic| walk_at "sc") => `(tactic| exact⟨rfl, rfl, rfl, by decide +kernel, rfl, by decide +kernel, by decide +kernel⟩)
local macro_rules | `(tactic| walk_at "su") => `(tactic| simp only[Jct, Jcu, Jcv])
set_option hygiene false in
local macro_rules | `(tactic| walk_at "st") => `(tactic| (walk_at "su"; have line := E9))
local macro_rules | `(tactic| walk_at "bd") => `(tactic| (intro _ _ F; first | (refine F.e1 ?_; exact λ_ _ _ _ _ _ _ => rfl) | (refine F.e2 ?_; exact λ_ _ _ _ _ _ _ _ => rfl) | (refine F.e3 ?_; exact λ_ _ _ _ _ _ _ _ _ => rfl) | (refine F.e4 ?_; exact λ_ _ _ _ _ _ _ _ _ _ => rfl) | (refine F.e0 ?_; exact λ_ _ _ _ _ _ => rfl) | (refine F.e5 ?_; exact λ_ _ _ _ _ _ _ _ _ _ _ => rfl) | (refine F.e6 ?_; exact λ_ _ _ _ _ _ _ _ _ _ _ _ => rfl)))
section
variable {P:Program}{w:World}{K:W.Frag}{mg:Str->Option Value}{base:Heap}{Zf Z7 Z8 Z4 Zc Zd Zg Zb Z2 Z3 Z5 Z0 Zn Z9 Z1:Addr}
variable {f:Addr}{fd:FuncData} (T:Txt K mg Zf Z7 Z8 Z4 Zc Zd Zg Zb Z2 Z3 Z5 Z0 Zn Z9 Z1)
set_option hygiene false in
local macro_rules | `(tactic| walk_at "ok") => `(tactic| refine F.okF sc (λvs H Q E h_ => ?_) (λcdv A outer s H vs Q E hr h_ => ?_))
set_option hygiene false in
local macro_rules | `(tactic| walk_at "rt") => `(tactic| (rename_i rest hrest; subst hrest))
local macro_rules | `(tactic| walk_at "rs") => `(tactic| (walk_at "rt"; ext))
abbrev Z75:Stmt:=top 25
abbrev Z76:Stmt:=top 26
abbrev Z6n:Stmt:=top 13
abbrev Z68:Stmt:=top 14
abbrev Z4v:Stmt:=top 27
abbrev Z5r:Stmt:=Ah (top 28) 0
abbrev Z11:Stmt:=Ah (top 7) 0
abbrev Z12:Stmt:=Ah (top 8) 0
abbrev Z69:Stmt:=Ah (top 28) 2
abbrev Z3b:Stmt:=Ah (top 28) 3
abbrev Z3h:Stmt:=Ah (top 28) 6
abbrev Z42:Stmt:=top 17
abbrev Z5s:Stmt:=top 31
abbrev Z4w:Stmt:=Ah (top 28) 1
abbrev Z5t:Stmt:=Ah (top 18) 0
abbrev Z4x:Stmt:=Ah (top 18) 1
abbrev Z4y:Stmt:=Ah (top 18) 2
abbrev Z2w:Stmt:=Ah (top 18) 3
abbrev Z6a:Stmt:=Ah (top 18) 4
abbrev Z5u:Stmt:=Ah (top 18) 5
abbrev Z0o:Stmt:=Ah (top 34) 0
abbrev Z0b:Stmt:=Ah (top 35) 0
abbrev Z1b:Stmt:=Ah (top 35) 0
abbrev Z1q:Stmt:=Ah (top 37) 0
abbrev Zt:Stmt:=Ah (top 38) 0
abbrev Z3i:Stmt:=Ah (top 39) 0
abbrev Z27:Stmt:=Ah (top 44) 0
abbrev Z28:Stmt:=Ah (top 47) 0
abbrev Z5v:Stmt:=Ah (top 34) 2
abbrev Z4z:Stmt:=Ah (top 34) 3
abbrev Z6b:Stmt:=Ah (top 34) 4
abbrev Z6c:Stmt:=Ah (top 34) 5
abbrev Z2a:Stmt:=Ah (top 35) 2
abbrev Z0m:Stmt:=Ah (top 35) 3
abbrev Z1c:Stmt:=Ah (top 35) 4
abbrev Z43:Stmt:=Ah (top 35) 1
abbrev Z3j:Stmt:=Ah (top 35) 5
abbrev Z50:Stmt:=Ah (top 34) 4
abbrev Z51:Stmt:=Ah (top 34) 5
abbrev Z2b:Stmt:=Ah (top 35) 2
abbrev Z0n:Stmt:=Ah (top 35) 3
abbrev Z1d:Stmt:=Ah (top 35) 4
abbrev Z44:Stmt:=Ah (top 35) 1
abbrev Z3k:Stmt:=Ah (top 35) 5
abbrev Z52:Stmt:=Ah (top 34) 4
abbrev Z53:Stmt:=Ah (top 34) 5
abbrev Z2g:Stmt:=Ah (top 35) 2
abbrev Z1r:Stmt:=Ah (top 37) 2
abbrev Z54:Stmt:=Ah (top 35) 1
abbrev Z45:Stmt:=Ah (top 35) 5
abbrev Z5w:Stmt:=Ah (top 34) 4
abbrev Z5x:Stmt:=Ah (top 37) 1
abbrev Z5y:Stmt:=Ah (top 44) 1
abbrev Z55:Stmt:=Ah (top 44) 2
abbrev Z6d:Stmt:=Ah (top 44) 3
abbrev Z6e:Stmt:=Ah (top 44) 4
abbrev Zae:Stmt:=top 45
abbrev Z77:Stmt:=top 46
abbrev Z3c:Stmt:=Ah (top 47) 2
abbrev Z5z:Stmt:=Ah (top 47) 5
abbrev Z60:Stmt:=Ah (top 47) 1
abbrev Z56:Stmt:=Ah (top 47) 3
abbrev Z6f:Stmt:=Ah (top 47) 4
abbrev Z6g:Stmt:=Ah (top 47) 6
abbrev Z3l:Stmt:=Ah (top 38) 2
abbrev Z1v:Stmt:=Ah (top 35) 2
abbrev Z0h:Stmt:=Ah (top 35) 3
abbrev Z13:Stmt:=Ah (top 38) 5
abbrev Z3m:Stmt:=Ah (top 38) 3
abbrev Z3d:Stmt:=Ah (top 35) 5
abbrev Z46:Stmt:=Ah (top 34) 4
abbrev Z47:Stmt:=Ah (top 34) 5
abbrev Z6h:Stmt:=top 40
abbrev Z7w:Stmt:=top 41
abbrev Z3f:Stmt:=top 42
abbrev Z7x:Stmt:=top 49
abbrev Z6o:Stmt:=top 50
abbrev Z78:Stmt:=top 51
abbrev Z48:Stmt:=top 52
abbrev Z8y:Stmt:=top 57
abbrev Z8z:Stmt:=top 58
abbrev Z6p:Stmt:=top 59
abbrev Z79:Stmt:=top 54
abbrev Z2h:Stmt:=top 53
abbrev Z7y:Stmt:=top 55
abbrev Z6q:Stmt:=top 56
abbrev Z6r:Stmt:=top 60
abbrev Z5f:Stmt:=top 61
include T in
theorem Zc8(F:Fun K "made_of" "made_of" Z75 f fd):Ai P w K mg base (CXF P w) 1 f fd ["text","signs"] (Mt):=by
 have sc:A9 ["text","signs"] ["text","signs"] (A6 Z75):=by ext:3
 ext:2
 . exact n2 h_ λ_ _=>rfl
 refine x2 h_ λz w e_=>y3 e_ λe0 hz q=>?_;clear e_ h_;subst e0;refine⟨_,(@A4 _ _ _ (@Af _ _ _ _ (Aw (J2d rfl) rfl T.Zc6 (by first | rfl | decide+kernel) (A0 (Ia "sign" [1] rfl rfl (J99 (pv 0)) (λb=>(E1 J2l (pv 0) (pv 1) (by with_unfolding_all rfl)))) A2)))),?_⟩;walk_at "su";ext;refine V8 (λc=>V.bl (decide (c∈w.cps.toList))) hz (λb c H' Q' hc sm q'=>?_) λD hD=>?_
 . ext
   exact q'
 . refine⟨_,rfl,z.cps.toList.map λc=>decide (c∈w.cps.toList),?_,?_⟩
   . rw[FA];exact SqL.of A1
   . rw[List.all_map];exact q _ (Aa.new hD)
variable (Z65:Def P w K mg base (CXF P w) 1 "made_of" ["text","signs"] (Mt))
include T Z65 in
theorem Zc9(F:Fun K "is_name" "is_name" Z76 f fd):Ai P w K mg base (CXF P w) 2 f fd ["thing"] (Gk K):=by
 have sc:A9 ["thing"] ["thing"] (A6 Z76):=by ext:3
 ext:2
 . exact n1 h_ λ_=>rfl
 refine x1 h_ λx e_=>y2 e_ λe0 hx=>?_;clear e_ h_;subst e0
 refine⟨_,(@A3 _ _ _ _ _ (As (En (D9 (Aw Gz rfl T.Z05 (by first | rfl | decide+kernel) (A0 (pv 0) (A0 (Mj (v:= .ty "str") rfl T.Zc5 (by first | rfl | decide+kernel) rfl) A2)))))
  (@A4 _ _ _ (@Af _ _ _ _ Cw))
  Aj)
  (@A3 _ _ _ _ _ (As (PW.pt (Qz (Am J0u (Aw Ks rfl T.Z1g FO (A0 (pv 0) A2)) A8 (nomark _)) (N8 (Am Nc (Aw Ks rfl T.Z1g FO (A0 (pv 0) A2)) (Ct rfl T.Z5q) (nomark _)))))
   (@A4 _ _ _ (@Af _ _ _ _ Cw))
   Aj)
  (@A4 _ _ _ (@Af _ _ _ _ (Na (E1 J2l (@Cf _ _ _ _ _ _ _ Nl (pv 0) A8 (λ_ _=>rfl)) (Qd rfl T.Z64) (by with_unfolding_all rfl)) (N9 (Ae Z65 hr rfl A7 (A0 (pv 0) (A0 (Ak Di (Qd rfl T.Z64) (Qd rfl T.Z74)) A2))))))))),?_⟩
 walk_at "su";rcases hx with ⟨z,rfl,hz,q⟩ | ⟨hi,q⟩
 . ext
   have hl:=Qe (z:=z);split
   . rename_i h1
     have e:C8 z.cps.toList=false:=by unfold C8;rw[Fs (show ¬1<=z.cps.toList.length by omega)];rfl
     rw[e]at q;exact q _ (Aa.refl H)
   . rename_i h1
     refine⟨hz,?_⟩;split
     . have e:C8 z.cps.toList=false:=by unfold C8;rw[Fs (show ¬z.cps.toList.length<=8 by omega),Bool.and_false];rfl
       rw[e]at q;exact q _ (Aa.refl H)
     . rename_i h2
       obtain⟨c,r,hcr⟩:∃c r,z.cps.toList=c::r:=by
        cases h:z.cps.toList with
        | nil=>rw[h]at hl;simp at hl;omega
        | cons c r=>exact⟨c,r,rfl⟩
       have hn:C8 z.cps.toList=(decide (c∈B7) && z.cps.toList.all λc=>decide (c∈B7++Bz)):=by
        unfold C8;rw[Fj (show 1<=z.cps.toList.length by omega),Fj (show z.cps.toList.length<=8 by omega)];rw[hcr];rfl
       rw[hn]at q;ext;refine Ny hz (by rw[hcr];exact Jch) ?_;ext;rw[Te];split
       . rename_i hc
         rw[Fj hc,Bool.true_and]at q;ext;rw[Sx,Te,J37];exact q
       . rename_i hc
         rw[Fs hc,Bool.false_and]at q;exact q _ (Aa.refl H)
 . ext
   refine⟨_,hi,?_⟩;ext;exact q
variable (Z66:Def P w K mg base (CXF P w) 2 "is_name" ["thing"] (Gk K))
include T in
theorem Zb1(F:Fun K "is_whole" "is_whole" Z6n f fd):Ai P w K mg base (CXF P w) 1 f fd ["thing"] (Eh K):=by
 have sc:A9 ["thing"] ["thing"] (A6 Z6n):=by ext:3
 ext:2
 . exact n3 h_ λ_ _ _=>rfl
 refine x3 h_ λx b c e_=>y4 e_ λe0 h1 h2 q=>?_;clear e_ h_;subst e0;refine⟨_,(@A4 _ _ _ (@Af _ _ _ _ (Na (Aw Gz rfl T.Z05 (by first | rfl | decide+kernel) (A0 (pv 0) (A0 (Mj (v:= .ty "int") rfl T.Zc4 (by first | rfl | decide+kernel) rfl) A2))) (N9 (J8j (Aw Gz rfl T.Z05 (by first | rfl | decide+kernel) (A0 (pv 0) (A0 (Mj (v:= .ty "bool") rfl T.Zac (by first | rfl | decide+kernel) rfl) A2)))))))),?_⟩;walk_at "su";ext;refine⟨_,h1,?_⟩;cases b
 . ext
   exact q
 . ext
   refine⟨_,h2 rfl,?_⟩;ext;exact q
variable (Z5g:Def P w K mg base (CXF P w) 1 "is_whole" ["thing"] (Eh K))
include T Z5g in
theorem Zaf(F:Fun K "is_within" "is_within" Z68 f fd):Ai P w K mg base (CXF P w) 2 f fd ["thing","least","most"] (N53.Dt K):=by
 have sc:A9 ["thing","least","most"] ["thing","least","most"] (A6 Z68):=by ext:3
 ext:2
 . exact n3 h_ λ_ _ _=>rfl
 refine x3 h_ λv lo hi e_=>y3 e_ λe0 hv q=>?_;clear e_ h_;subst e0;refine⟨_,(@A4 _ _ _ (@Af _ _ _ _ (Na (Ae Z5g hr rfl A7 (A0 (pv 0) A2)) (N9 (J0w J6z J6z (pv 1) (pv 0) (pv 2)))))),?_⟩;walk_at "su";obtain⟨b,c,h1,h2,h3,h4⟩:=hv;ext;refine⟨b,h1,c,h2,?_⟩;split
 . rename_i h
   obtain⟨i,rfl⟩:=h3 h;simp only[wIn]at q;ext;split
   . rename_i h'
     rw[Fj h',Bool.true_and]at q;exact q
   . rename_i h'
     rw[Fs h',Bool.false_and]at q;exact q
 . rename_i h
   have e:wIn lo hi v=false:=by
    cases v with
    | int i=>exact absurd rfl (h4 (by simpa using h) i)
    | _=>rfl
   rw[e]at q;exact q
variable (Zk:Def P w K mg base (CXF P w) 2 "is_within" ["thing","least","most"] (N53.Dt K))
include T Z66 Zk in
theorem Z90(F:Fun K "check_thing" "check_thing" Z4v f fd):Ai P w K mg base (CXF P w) 3 f fd ["name","cost","room","earlier"] (K6 K):=by
 have sc:A9 ["name","cost","room","earlier"] ["name","cost","room","earlier"] (A6 Z4v):=by ext:3
 ext:2
 . exact n6 h_ λ_ _ _ _ _ _=>rfl
 refine x6 h_ λn co r e kvs ks e_=>y5 e_ λe0 he hk hrow q=>?_;clear e_ h_;subst e0
 refine⟨_,(@A3 _ _ _ _ _ (As (En (D9 (Ae Z66 hr rfl A7 (A0 (pv 0) A2))))
  (@A4 _ _ _ Da)
  Aj)
  (@A3 _ _ _ _ _ (As (Up (Q6 (Cg hr) (pv 0) (pv 3)))
   (@A4 _ _ _ Da)
   Aj)
  (@A3 _ _ _ _ _ (As (En (D9 (Ae Zk hr rfl A7 (A0 (pv 1) (A0 A8 (A0 (Ak Uu A8 A8) A2))))))
   (@A4 _ _ _ Da)
   Aj)
  (@A4 _ _ _ (As (En (D9 (Ae Zk hr rfl A7 (A0 (pv 2) (A0 A8 (A0 (Ct rfl T.Z67) A2))))))
   (@A4 _ _ _ Da)
   Aj))))),?_⟩
 walk_at "su";obtain⟨z,c,w,rfl,rfl,rfl,nz,hb,h1,h2,h3,h4⟩:=Pj hrow;have line:=E9;have hz8:=J3a hb;ext;intro H1 sm1;rw[hb];have he1:=sm1 _ _ he;ext;refine⟨_,D8.k (k:=Sum.inr z) he1,?_⟩;rw[L1 hk,Fs nz];ext;refine⟨N53.Ec.flat rfl,?_⟩;split
 . rename_i h
   exact absurd h (by rw[O4 h1 h2];decide)
 . ext
   refine⟨N53.Ec.flat rfl,?_⟩;split
   . rename_i h
     exact absurd h (by rw[O4 h3 h4];decide)
   . ext
     exact q _ sm1
variable (Z2z:Def P w K mg base (CXF P w) 3 "check_thing" ["name","cost","room","earlier"] (K6 K))
include T Z2z in
theorem Z9y(F:Fun K "__init__" "Stock.__init__" Z5r f fd):Ai P w K mg base (CXF P w) 4 f fd ["self","rows"] (L4 K Zd):=by
 have sc:A9 ["self","rows","name","cost","room"] ["self","rows"] (A6 Z5r):=by ext:3
 ext:2
 . exact n4 h_ λ_ _ _ _=>rfl
 refine x4 h_ λp dx ra rs e_=>y6 e_ λe0 hp hrs hall er q=>?_;clear e_ h_;subst e0
 refine⟨_,(@A3 _ _ _ _ _ (As (Am Nc (Aw B6 rfl T.Z1g FO (A0 (pv 1) A2)) (Ct rfl T.Z4u) (nomark _))
  (@A4 _ _ _ Da)
  Aj)
  (@A3 _ _ _ _ _ (Av (pv 0) C1 rfl)
  (@A4 _ _ _ (Lp Ds rfl (Ko (pv 1)) (Uq rfl (Dc (Cr (i:=2) sc.nd rfl (Or.inl rfl)) (Dc (Cr (i:=3) sc.nd rfl (Or.inl rfl)) (Dc (Cr (i:=4) sc.nd rfl (Or.inl rfl)) Ml))))
   (@A3 _ _ _ _ _ (Al (Ae Z2z hr rfl A7 (A0 (pv 2) (A0 (pv 3) (A0 (pv 4) (A0 (Ad (pv 0) rfl) A2))))))
   (@A4 _ _ _ (Dd (Cg hr) (Ad (pv 0) rfl) (pv 2) (Bh (A0 (Aw Yt rfl T.Z1g FO (A0 (Ad (pv 0) rfl) A2)) (A0 (pv 3) (A0 (pv 4) A2)))) rfl))))))),?_⟩
 ext:4;obtain⟨hl60,hstk⟩:=Vf er;ext;rw[Fa];split
 . rename_i h
   exact absurd h (by omega)
 . rename_i h
   ext;intro d hd;have npd:p≠d:=Ab hp hd;ext;refine⟨Zd,dx,[],by rw[A5 npd];exact hp,T.Z0c,T.Zx,by decide,?_⟩
   have sb0:SameBut p H (upd (upd H d (.dK [])) p (.ins Zd dx (flds d))):=λb o e n=>by rw[A5 n,A5 (Ab e hd)];exact e
   have hp0:upd (upd H d (.dK [])) p (.ins Zd dx (flds d)) p=some (.ins Zd dx (flds d)):=A1
   have hd0:upd (upd H d (.dK [])) p (.ins Zd dx (flds d)) d=some (.dK []):=by rw[A5 npd.symm,A1]
   unfold flds at sb0 hp0 hd0;generalize upd (upd H d (HO.dK [])) p (HO.ins Zd dx (Ac (Str.ofString "things") (V.ref d) []))=H0 at sb0 hp0 hd0 ⊢;ext;refine⟨⟨_,SqL.but sb0 hp hrs⟩,?_⟩;refine Wm (xs:=rs.map λt=>V.ref t.1) (λi σ H'=>∃v1 v2 v3,σ=[some (V.ref p),some (V.ref ra),v1,v2,v3]/\SameBut p H H'/\H' p=some (.ins Zd dx (flds d))/\Xn K H' d (rs.take i)/\Ij (Gx (rs.take i)) (rs.drop i)=none) ⟨none,none,none,rfl,sb0,hp0,⟨[],hd0,rfl,λj t e=>by simp at e⟩,by rw[List.take_zero,List.drop_zero];exact hstk⟩ (λi σ H' _ h_=>by obtain⟨v1,v2,v3,_,sb,_⟩:=h_;exact SqL.but sb hp hrs) ?_ ?_
   . rintro i x σ H' hx ⟨v1,v2,v3,rfl,sb,hp',⟨kvs,hd',hk,hm⟩,hst⟩
     rw[Ff]at hx
     cases ht:rs[i]? with
     | none=>rw[ht]at hx;cases hx
     | some t=>
      rw[ht]at hx;simp only[HA,Option.some.injEq]at hx;subst hx;have hi:i < rs.length:=(Fh.mp ht).1;have r1:=SqT.but sb hp (hall t (Fq ht));rw[Tn ht]at hst
      have hkl:kvs.length=i:=by
       have:=congrArg List.length hk;simp[Gx]at this;omega
      cases hrow:Ti (Gx (rs.take i)) t.2.1 t.2.2.1 t.2.2.2 with
      | some e=>rw[hrow]at hst;cases hst
      | none=>
       rw[hrow]at hst;obtain⟨z,c,q',e1,e2,e3,nz,hb,_⟩:=Pj hrow;ext;refine⟨_,r1,rfl,?_⟩;ext;refine⟨Zd,dx,flds d,hp',T.Z0c,T.Zx,_,Cp,d,rfl,kvs,hd',_,hk,hrow,λH1 sm1=>?_⟩;rw[e1,e2,e3];have hp1:=sm1 _ _ hp';have hd1:=sm1 _ _ hd';ext;refine⟨Zd,dx,flds d,hp1,T.Z0c,T.Zx,_,Cp,?_⟩;ext;refine⟨kvs,hd1,by omega,λt2 ht2=>?_⟩;have np2:p≠t2:=Ab hp1 ht2;have nd2:d≠t2:=Ab hd1 ht2
       have hd2:upd H1 t2 (.tup [.int kvs.length,.int c,.int q']) d=some (.dK kvs):=by rw[A5 nd2];exact hd1
       refine⟨Zd,dx,flds d,by rw[A5 np2];exact hp1,T.Z0c,T.Zx,_,Cp,d,rfl,_,Ke.k (k:=Sum.inr z) hd2 (by omega),?_,?_,?_,?_⟩
       . intro b o eb nb
         have h1:=sm1 _ _ (sb b o eb nb);rw[A5 (Ab eb hd),A5 (Ab h1 ht2)];exact h1
       . rw[A5 npd,A5 np2];exact hp1
       . rw[He,ht]
         refine Xn.snoc hd2 hk (λj t' e=>?_) e1 e2 e3 nz A1;obtain⟨a,q1,q2⟩:=hm j t' e;exact⟨a,q1,(sm1.trans (Aa.new ht2)).tup q2⟩
       . rw[He,ht]
         have e:Gx (rs.take kvs.length++(some t).toList)=Gx (rs.take kvs.length)++[sOf t.2.1]:=by unfold Gx;simp
         rw[e];exact hst
   . rintro σ H' ⟨v1,v2,v3,rfl,sb,hp',⟨kvs,hd',hk,hm⟩,hst⟩
     simp only[Fa,RP,List.drop_length]at hk hm hst;show Q V.non H';refine q _ sb ⟨dx,d,kvs,hp',hd',?_,λi t ht=>?_⟩
     . rw[hk];unfold Gx;rw[FA,FA];rfl
     . rw[Ff]at ht
       cases hr:rs[i]? with
       | none=>rw[hr]at ht;cases ht
       | some t'=>
        rw[hr]at ht;simp only[HA,Option.some.injEq]at ht;subst ht;exact hm i t' hr
variable (Z3n:Kj P w K mg base (CXF P w) 4 "Stock" Zd ["self","rows"] (L4 K Zd))
include T in
theorem Z89(F:Fun K "__init__" "Unknown.__init__" Z11 f fd):Ai P w K mg base (CXF P w) 1 f fd ["self","name","place"] (Ik Z7):=by
 have sc:A9 ["self","name","place"] ["self","name","place"] (A6 Z11):=by ext:3
 ext:2
 . exact n4 h_ λ_ _ _ _=>rfl
 refine x4 h_ λx n p nw e_=>y3 e_ λe0 hx q=>?_;clear e_ h_;subst e0
 refine⟨_,(@A3 _ _ _ _ _ (Mo rfl (pv 0) (pv 1) rfl)
  (@A4 _ _ _ (Mo rfl (pv 0) (pv 2) rfl))),?_⟩
 walk_at "su";ext;refine⟨nw,Z7,Zf,T.Z1s,T.Z1o,.inl ⟨hx,λdx hd=>?_⟩⟩;have nd:x≠dx:=Ab hx hd;ext;refine⟨nw,Z7,Zf,T.Z1s,T.Z1e,.inr ⟨dx,by rw[A5 nd,A1],_,A1,by simp[Ac],?_⟩⟩;ext;exact q dx hd
variable (Z2m:T8 P w K mg base (CXF P w) 1 "Unknown" Z7 ["self","name","place"] (Ik Z7))
include T in
theorem Z8a(F:Fun K "__init__" "TooWide.__init__" Z12 f fd):Ai P w K mg base (CXF P w) 1 f fd ["self","name","place"] (Ik Z8):=by
 have sc:A9 ["self","name","place"] ["self","name","place"] (A6 Z12):=by ext:3
 ext:2
 . exact n4 h_ λ_ _ _ _=>rfl
 refine x4 h_ λx n p nw e_=>y3 e_ λe0 hx q=>?_;clear e_ h_;subst e0
 refine⟨_,(@A3 _ _ _ _ _ (Mo rfl (pv 0) (pv 1) rfl)
  (@A4 _ _ _ (Mo rfl (pv 0) (pv 2) rfl))),?_⟩
 walk_at "su";ext;refine⟨nw,Z8,Zf,T.Z1t,T.Z1p,.inl ⟨hx,λdx hd=>?_⟩⟩;have nd:x≠dx:=Ab hx hd;ext;refine⟨nw,Z8,Zf,T.Z1t,T.Z1f,.inr ⟨dx,by rw[A5 nd,A1],_,A1,by simp[Ac],?_⟩⟩;ext;exact q dx hd
variable (Z2n:T8 P w K mg base (CXF P w) 1 "TooWide" Z8 ["self","name","place"] (Ik Z8))
include T in
theorem Zag(F:Fun K "has" "Stock.has" Z69 f fd):Ai P w K mg base (CXF P w) 1 f fd ["self","name"] (Qi K Zd):=by
 have sc:A9 ["self","name"] ["self","name"] (A6 Z69):=by ext:3
 ext:2
 . exact n3 h_ λ_ _ _=>rfl
 refine x3 h_ λp ts z e_=>y3 e_ λe0 hs q=>?_;clear e_ h_;subst e0;refine⟨_,(@A4 _ _ _ (@Af _ _ _ _ (J0l (Q6 (Cg hr) (pv 1) (Ad (pv 0) rfl))))),?_⟩;walk_at "su";obtain⟨dx,d,kvs,h1,h2,h3,h4,h5⟩:=Aq.has hs;ext;refine⟨Zd,dx,flds d,h1,T.Z0c,T.Zx,_,Cp,d,rfl,_,D8.k (k:=Sum.inr z) h2,?_⟩;rw[h4];exact q
variable (Z4b:Bn P w K mg base (CXF P w) 1 Zd "has" ["self","name"] (Qi K Zd))
include T in
theorem Z7g(F:Fun K "thing_of" "Stock.thing_of" Z3b f fd):Ai P w K mg base (CXF P w) 1 f fd ["self","name"] (Gp K Zd):=by
 have sc:A9 ["self","name"] ["self","name"] (A6 Z3b):=by ext:3
 ext:2
 . exact n3 h_ λ_ _ _=>rfl
 refine x3 h_ λp ts z e_=>y5 e_ λe0 hs nd hz q=>?_;clear e_ h_;subst e0
 refine⟨_,(@A3 _ _ _ _ _ (As (Up (Ys (Cg hr) (pv 1) (Ad (pv 0) rfl)))
  (@A4 _ _ _ Da)
  Aj)
  (@A4 _ _ _ (@Af _ _ _ _ (Vy (Cg hr) (Ad (pv 0) rfl) (pv 1) (λ_ _=>rfl))))),?_⟩
 walk_at "su";obtain⟨dx,d,kvs,h1,h2,h3,h4,h5⟩:=Aq.has hs;have line:=E9;ext;refine⟨Zd,dx,flds d,h1,T.Z0c,T.Zx,_,Cp,d,rfl,_,D8.k (k:=Sum.inr z) h2,?_⟩;rw[h4,Fj hz];obtain⟨i,t,ht,rfl⟩:=Xq hz;obtain⟨a,e1,e2⟩:=h5 nd i t ht;ext;refine⟨Zd,dx,flds d,h1,T.Z0c,T.Zx,_,Cp,?_⟩;ext;refine⟨V.ref a,by rw[<- e1];exact D8.k (k:=Sum.inr t.1) h2,?_⟩;exact q i t ht rfl a e2
variable (Z1w:Bn P w K mg base (CXF P w) 1 Zd "thing_of" ["self","name"] (Gp K Zd))
include T Z1w in
theorem Z7z(F:Fun K "room_of" "Stock.room_of" Z3h f fd):Ai P w K mg base (CXF P w) 2 f fd ["self","name"] (K7 K Zd):=by
 have sc:A9 ["self","name"] ["self","name"] (A6 Z3h):=by ext:3
 ext:2
 . exact n3 h_ λ_ _ _=>rfl
 refine x3 h_ λp ts z e_=>y5 e_ λe0 hs nd hz q=>?_;clear e_ h_;subst e0;refine⟨_,(@A4 _ _ _ (@Af _ _ _ _ (@Cf _ _ _ _ _ _ _ V0 (B9 Z1w T.Z0c hr (Ap A7) (pv 0) (A0 (pv 1) A2)) A8 (λ_ _=>rfl)))),?_⟩;walk_at "su";obtain⟨dx,d,kvs,h1,h2,h3,h4,h5⟩:=Aq.has hs;ext;refine⟨dx,flds d,h1,by rfl,?_⟩;ext;refine⟨ts,hs,nd,hz,λi t ht e a ha=>?_⟩;subst e;refine V2 ha rfl ?_;rw[Tv nd ht]at q;exact q
variable (Zu:Bn P w K mg base (CXF P w) 2 Zd "room_of" ["self","name"] (K7 K Zd))
include T Zk in
theorem Z8b(F:Fun K "check_places" "check_places" Z42 f fd):Ai P w K mg base (CXF P w) 3 f fd ["places"] (Ee K Z4):=by
 have sc:A9 ["places"] ["places"] (A6 Z42):=by ext:3
 ext:2
 . exact n1 h_ λ_=>rfl
 refine x1 h_ λv e_=>y4 e_ λe0 hv q qe=>?_;clear e_ h_;subst e0
 refine⟨_,(@A4 _ _ _ (As (En (D9 (Ae Zk hr rfl A7 (A0 (pv 0) (A0 A8 (A0 (Ct rfl T.Z2y) A2))))))
  (@A4 _ _ _ (Eu T.Z5e rfl T.k_NoNumber rfl rfl T.Z1u Gg (A0 (Kv (De B3 (De (Nw (Ct rfl T.Z2y)) Nv))) A2)))
  Aj)),?_⟩
 ext:4;ext;split
 . rename_i h
   have l1:(Str.ofString "the places of a shelf are not a whole number from 1 to ").length<=100:=by decide+kernel
   have l2:(Str.ofString (toString (1000000:Int))).length<=100:=by decide+kernel
   have l0:=Pa;refine⟨by rw[Bq];omega,by decide,by rw[Bq,Bq];omega,by rw[Bq,Bq];omega,by omega,λx hx=>⟨hx,qe h _ x (Aa.new hx) hx A1⟩⟩
 . rename_i h
   exact q (by simpa using h)
variable (Zi:Def P w K mg base (CXF P w) 3 "check_places" ["places"] (Ee K Z4))
include T Zi Z4b Zu Z2m Z2n in
theorem Z9z(F:Fun K "check_asks" "check_asks" Z5s f fd):Ai P w K mg base (CXF P w) 5 f fd ["stock","asks","places"] (G4 K Zd Z4 Zc Z7 Z8):=by
 have sc:A9 ["stock","asks","places","number","name"] ["stock","asks","places"] (A6 Z5s):=by ext:3
 ext:2
 . exact n5 h_ λ_ _ _ _ _=>rfl
 refine x5 h_ λp a v ts ys e_=>y11 e_ λe0 hs nd hS hl hv q qn qm qu qw=>?_;clear e_ h_;subst e0
 refine⟨_,(@A3 _ _ _ _ _ (Al (Ae Zi hr rfl A7 (A0 (pv 2) A2)))
  (@A3 _ _ _ _ _ (As (Am Nc (Aw B6 rfl T.Z1g FO (A0 (pv 1) A2)) (Ct rfl T.Z4a) (nomark _))
   (@A4 _ _ _ (Eu T.Zer rfl T.k_TooMany rfl rfl T.Z63 Gg (A0 (Kv (De B3 (De (Nw (Ct rfl T.Z4a)) (De B3 Nv)))) A2)))
   Aj)
  (@A3 _ _ _ _ _ (Lp Ds rfl (Xr rfl T.Z49 (A0 (pv 1) A2)) (Uq rfl (Dc (Cr (i:=3) sc.nd rfl (Or.inl rfl)) (Dc (Cr (i:=4) sc.nd rfl (Or.inl rfl)) Ml)))
   (@A3 _ _ _ _ _ (As (En (D9 (B9 Z4b T.Z0c hr (Ap A7) (pv 0) (A0 (pv 4) A2))))
    (@A4 _ _ _ (Pd Z2m rfl hr rfl rfl (Ap A7) Gg (A0 (pv 4) (A0 (pv 3) A2))))
    Aj)
   (@A4 _ _ _ (As (Am Nc (B9 Zu T.Z0c hr (Ap A7) (pv 0) (A0 (pv 4) A2)) (pv 2) (nomark _))
    (@A4 _ _ _ (Pd Z2n rfl hr rfl rfl (Ap A7) Gg (A0 (pv 4) (A0 (pv 3) A2))))
    Aj))))
  (@A4 _ _ _ (@Af _ _ _ _ Cw))))),?_⟩
 ext:4;obtain⟨dx,d,kvs,h1,h2,h3,h4,h5⟩:=Aq.has hs;ext;refine⟨λhw=>?_,λhw H' y sm hy er=>qn (by unfold D0;rw[if_neg (by rw[hw];decide)]) H' y sm hy er⟩;obtain⟨n,rfl,hn1,hn2⟩:=N53.J6a hw;ext;rw[Fa];split
 . rename_i hm
   have e:D0 ts (.int n) ys=(Str.ofString "many",none):=by unfold D0;rw[if_pos hw,if_pos (by omega)]
   have l1:(Str.ofString "a row has at most ").length<=100:=by decide+kernel
   have l3:(Str.ofString " asks").length<=100:=by decide+kernel
   have l2:(Str.ofString (toString (200:Int))).length<=100:=by decide+kernel
   have l0:=Pa;refine⟨by rw[Bq];omega,by decide,by rw[Bq,Bq];omega,by rw[Bq,Bq,Bq];omega,by rw[Bq,Bq,Bq];omega,by omega,λx hx=>⟨hx,qm e _ x (Aa.new hx) hx A1⟩⟩
 . rename_i hm
   have e0:∀r,(match bad ts n ys 0 with | some (true,z,i)=>(Str.ofString "unknown",some (z,i)) | some (false,z,i)=>(Str.ofString "wide",some (z,i)) | none=>(Str.ofString "fine",none))=r->D0 ts (.int n) ys=r:=λr h=>by unfold D0;rw[if_pos hw,if_neg (by omega)];exact h
   ext;refine⟨⟨_,hS⟩,?_⟩;rename_i rest hrest;refine Xs (xs:=ys.map V.str) (λi σ H'=>∃(v3 v4:Option V),σ=[some (V.ref p),some (V.ref a),some (V.int n),v3,v4]/\Aa H H'/\bad ts n ys 0=bad ts n (ys.drop i) i) ⟨none,none,rfl,Aa.refl _,by rw[List.drop_zero]⟩ (λi σ H' _ h_=>by obtain⟨v3,v4,_,sm,_⟩:=h_;exact sm.seq hS) ?_ ?_
   . rintro i x σ H' t hx ⟨v3,v4,rfl,sm,hbd⟩ ht
     rw[Ff]at hx
     cases hy:ys[i]? with
     | none=>rw[hy]at hx;cases hx
     | some y=>
      rw[hy]at hx;cases hx;rw[Ui hy]at hbd;ext;refine⟨_,SqT.of A1,rfl,_,_,rfl,_,_,rfl,rfl,?_⟩;have sm2:=sm.trans (Aa.new (o:= .tup [.int i,.str y]) ht);generalize upd H' t (.tup [.int i,.str y])=H2 at sm2 ⊢;clear sm ht;have hs2:=hs.same sm2;have hp2:=sm2 _ _ h1
      have noneH:∀b,H2 b=none->H b=none:=λb e=>by
       cases q:H b with
       | none=>rfl
       | some o=>rw[sm2 _ _ q]at e;cases e
      ext;refine⟨dx,flds d,hp2,by rfl,ts,hs2,?_⟩
      by_cases hin:y∈ts.map (·.1)
      . rw[if_neg (by simpa using hin)]
        rw[if_pos hin]at hbd;ext;refine⟨dx,flds d,hp2,by rfl,ts,hs2,nd,hin,?_⟩;rw[<- Li]at hbd;split
        . rename_i hwd
          rw[if_pos hwd]at hbd;ext;intro x hx;refine⟨true,A1,λdx' hd'=>?_⟩
          have n1:x≠dx':=λe=>by rw[e,A1]at hd';cases hd'
          have hd2:H2 dx'=none:=by rw[A5 n1.symm]at hd';exact hd'
          ext;refine⟨some dx',by rw[A5 n1,A1],noneH x hx,?_⟩;refine qw y i (e0 _ (by rw[hbd])) _ x (λb o e=>?_) (noneH x hx) ⟨dx',A1,by rw[A5 n1.symm,A1]⟩;have e:=sm2 _ _ e;rw[A5 (Ab e hx),A5 (Ab e hd2),A5 (Ab e hx)];exact e
        . rename_i hwd
          rw[if_neg hwd]at hbd;ext;exact hbd
      . rw[if_pos (by simpa using hin)]
        rw[if_neg hin]at hbd;ext;intro x hx;refine⟨true,A1,λdx' hd'=>?_⟩
        have n1:x≠dx':=λe=>by rw[e,A1]at hd';cases hd'
        have hd2:H2 dx'=none:=by rw[A5 n1.symm]at hd';exact hd'
        ext;refine⟨some dx',by rw[A5 n1,A1],noneH x hx,?_⟩;refine qu y i (e0 _ (by rw[hbd])) _ x (λb o e=>?_) (noneH x hx) ⟨dx',A1,by rw[A5 n1.symm,A1]⟩;have e:=sm2 _ _ e;rw[A5 (Ab e hx),A5 (Ab e hd2),A5 (Ab e hx)];exact e
   . rintro σ H' ⟨v3,v4,rfl,sm,hbd⟩
     rw[Fa,List.drop_length]at hbd;ext;exact q (e0 _ (by rw[hbd];rfl)) _ sm
variable (Zs:Def P w K mg base (CXF P w) 5 "check_asks" ["stock","asks","places"] (G4 K Zd Z4 Zc Z7 Z8))
include T in
theorem Z91(F:Fun K "names" "Stock.names" Z4w f fd):Ai P w K mg base (CXF P w) 1 f fd ["self"] (Qj K Zd):=by
 have sc:A9 ["self"] ["self"] (A6 Z4w):=by ext:3
 ext:2
 . exact n2 h_ λ_ _=>rfl
 refine x2 h_ λp ts e_=>y3 e_ λe0 hs q=>?_;clear e_ h_;subst e0;refine⟨_,(@A4 _ _ _ (@Af _ _ _ _ (Bv (Kl rfl) rfl T.Z1h (by first | rfl | decide+kernel) (A0 (Ad (pv 0) rfl) A2)))),?_⟩;walk_at "su";obtain⟨dx,d,kvs,h1,h2,h3,h4,h5⟩:=Aq.has hs;ext;refine⟨Zd,dx,flds d,h1,T.Z0c,T.Zx,_,Cp,?_⟩;ext;refine⟨_,h2,λl hl=>?_⟩;rw[h3];have:=q l hl;rw[FA]at this;exact this
variable (Z26:Bn P w K mg base (CXF P w) 1 Zd "names" ["self"] (Qj K Zd))
include T Zi in
theorem Za0(F:Fun K "__init__" "Shelf.__init__" Z5t f fd):Ai P w K mg base (CXF P w) 4 f fd ["self","stock","places"] (L7 Zg):=by
 have sc:A9 ["self","stock","places"] ["self","stock","places"] (A6 Z5t):=by ext:3
 ext:2
 . exact n4 h_ λ_ _ _ _=>rfl
 refine x4 h_ λs dx p n e_=>y5 e_ λe0 hs h1 h2 q=>?_;clear e_ h_;subst e0;replace Zi:=Zi.weaker λ_ _ _ _=>M8
 refine⟨_,(@A3 _ _ _ _ _ (Al (Ae Zi hr rfl A7 (A0 (pv 2) A2)))
  (@A3 _ _ _ _ _ (Av (pv 0) (pv 1) rfl)
  (@A3 _ _ _ _ _ (Av (pv 0) (pv 2) rfl)
  (@A4 _ _ _ (Av (pv 0) C1 rfl))))),?_⟩
 walk_at "su";ext;refine⟨Zg,dx,[],hs,T.Zv,T.Z23,by decide,?_⟩;ext;refine⟨Zg,dx,_,A1,T.Zv,T.Z2k,by simp[Ac],?_⟩;ext;intro d hd
 have nd:d≠s:=λe=>by rw[e,A1]at hd;cases hd
 have hd0:H d=none:=by rw[A5 nd]at hd;exact hd
 refine⟨Zg,dx,_,by rw[A5 nd.symm,A1],T.Zv,T.Z0i,by have:=C6 "places" (V.int n) (Ac "stock" (V.ref p) []);have:=C6 "stock" (V.ref p) [];simp at *;omega,?_⟩;refine q _ d (λb o e nb=>?_) hd0 ⟨⟨dx,A1⟩,by rw[A5 nd,A1];rfl,HY⟩;rw[A5 nb,A5 (Ab e hd0),A5 nb];exact e
variable (Z0g:Kj P w K mg base (CXF P w) 4 "Shelf" Zg ["self","stock","places"] (L7 Zg))
include T in
theorem Z92(F:Fun K "lying" "Shelf.lying" Z4x f fd):Ai P w K mg base (CXF P w) 1 f fd ["self"] (L8 Zg):=by
 have sc:A9 ["self"] ["self"] (A6 Z4x):=by ext:3
 ext:2
 . exact n5 h_ λ_ _ _ _ _=>rfl
 refine x5 h_ λs p d n ls e_=>y3 e_ λe0 hs q=>?_;clear e_ h_;subst e0;refine⟨_,(@A4 _ _ _ (@Af _ _ _ _ (Bv (Kl rfl) rfl T.Z1h (by first | rfl | decide+kernel) (A0 (Ad (pv 0) rfl) A2)))),?_⟩;walk_at "su";obtain⟨⟨dx,ho⟩,hd,_⟩:=hs;ext;refine⟨Zg,dx,_,ho,T.Zv,T.Z0i,_,Ew,?_⟩;ext;refine⟨_,hd,λl hl=>?_⟩;rw[J02];exact q l hl
variable (Z30:Bn P w K mg base (CXF P w) 1 Zg "lying" ["self"] (L8 Zg))
include T in
theorem Z93(F:Fun K "holds" "Shelf.holds" Z4y f fd):Ai P w K mg base (CXF P w) 1 f fd ["self","name"] (L9 Zg):=by
 have sc:A9 ["self","name"] ["self","name"] (A6 Z4y):=by ext:3
 ext:2
 . exact n6 h_ λ_ _ _ _ _ _=>rfl
 refine x6 h_ λs p d n ls z e_=>y3 e_ λe0 hs q=>?_;clear e_ h_;subst e0;refine⟨_,(@A4 _ _ _ (@Af _ _ _ _ (J0l (Q6 (Cg hr) (pv 1) (Ad (pv 0) rfl))))),?_⟩;walk_at "su";obtain⟨⟨dx,ho⟩,hd,_⟩:=hs;ext;refine⟨Zg,dx,_,ho,T.Zv,T.Z0i,_,Ew,d,rfl,_,D8.k (k:=Sum.inr z) hd,?_⟩;rw[Qk];exact q
variable (Z07:Bn P w K mg base (CXF P w) 1 Zg "holds" ["self","name"] (L9 Zg))
include T in
theorem Z7a(F:Fun K "room_left" "Shelf.room_left" Z2w f fd):Ai P w K mg base (CXF P w) 1 f fd ["self"] (Mu Zg):=by
 have sc:A9 ["self"] ["self"] (A6 Z2w):=by ext:3
 ext:2
 . exact n5 h_ λ_ _ _ _ _=>rfl
 refine x5 h_ λs p d n ls e_=>y3 e_ λe0 hs q=>?_;clear e_ h_;subst e0;refine⟨_,(@A4 _ _ _ (@Af _ _ _ _ (Ak G7 (Ad (pv 0) rfl) (Aw (Yy rfl) rfl T.Zc7 (by first | rfl | decide+kernel) (A0 (J8s Rh PySem.F.slot_dict_values PySem.F.type_dict_values Yx (Ad (pv 0) rfl)) A2))))),?_⟩;walk_at "su";obtain⟨⟨dx,ho⟩,hd,_⟩:=hs;ext;refine⟨Zg,dx,_,ho,T.Zv,T.Z2k,_,Vg,Zg,dx,_,ho,T.Zv,T.Z0i,_,Ew,?_⟩;refine⟨.inr (.inr (.inl ⟨rfl,.inl ⟨_,hd⟩⟩)),d,rfl,_,hd,λv hv=>⟨d,A1,_,(Aa.new hv) _ _ hd,_,J3g,n,rfl,q _ (Aa.new hv)⟩⟩
variable (Z09:Bn P w K mg base (CXF P w) 1 Zg "room_left" ["self"] (Mu Zg))
include T Zu Z07 Z09 in
theorem Zah(F:Fun K "put" "Shelf.put" Z6a f fd):Ai P w K mg base (CXF P w) 4 f fd ["self","name"] (Mv K Zd Zg):=by
 have sc:A9 ["self","name","room"] ["self","name"] (A6 Z6a):=by ext:3
 ext:2
 . exact n8 h_ λ_ _ _ _ _ _ _ _=>rfl
 refine x8 h_ λs p d n ls ts z r e_=>y10 e_ λe0 hs hx nd hl hz hr' hin hle q=>?_;clear e_ h_;subst e0
 refine⟨_,(@A3 _ _ _ _ _ (Az (i:=2) sc.nd rfl (Or.inl rfl) (B9 Zu T.Z0c hr (Ap A7) (Ad (pv 0) rfl) (A0 (pv 1) A2)))
  (@A3 _ _ _ _ _ (As (D9 (B9 Z07 T.Zv hr (Ap A7) (pv 0) (A0 (pv 1) A2)))
   (@A4 _ _ _ Da)
   Aj)
  (@A3 _ _ _ _ _ (As (Am Nc (pv 2) (E3 Z09 T.Zv hr (Ap A7) (pv 0)) (nomark _))
   (@A4 _ _ _ Da)
   Aj)
  (@A4 _ _ _ (Dd (Cg hr) (Ad (pv 0) rfl) (pv 1) (pv 2) rfl))))),?_⟩
 ext:4;have hsA:=hs;obtain⟨⟨dx,ho⟩,hd,hnd⟩:=hs;obtain⟨dy,e,kvs,h1,h2,h3,h4,h5⟩:=Aq.has hx.at;ext;refine⟨Zg,dx,_,ho,T.Zv,T.Z23,_,Pl,?_⟩;ext;refine⟨dy,flds e,h1,by rfl,ts,hx.at,nd,hz,?_⟩;rw[Jbu nd hz hr'];ext;refine⟨dx,_,ho,by rfl,?_⟩;ext;refine⟨_,_,_,_,hsA,?_⟩;rw[if_neg (by simpa using hin)];ext;refine⟨dx,_,ho,by rfl,_,_,_,_,hsA,λH1 sm1=>?_⟩;rw[if_neg (by omega)];ext;refine⟨Zg,dx,_,sm1 _ _ ho,T.Zv,T.Z0i,_,Ew,?_⟩
 have hll:(lyK ls).length < sizeLine:=by unfold lyK;rw[Fa];omega
 refine⟨d,rfl,_,Ke.k (k:=Sum.inr z) (sm1 _ _ hd) hll,?_⟩;refine q _ (λb o e n=>?_) (hsA.put sm1 hin);rw[A5 n];exact sm1 _ _ e
variable (Z4c:Bn P w K mg base (CXF P w) 4 Zg "put" ["self","name"] (Mv K Zd Zg))
include T Z07 in
theorem Za1(F:Fun K "cast" "Shelf.cast" Z5u f fd):Ai P w K mg base (CXF P w) 2 f fd ["self","name"] (La Zg):=by
 have sc:A9 ["self","name"] ["self","name"] (A6 Z5u):=by ext:3
 ext:2
 . exact n6 h_ λ_ _ _ _ _ _=>rfl
 refine x6 h_ λs p d n ls z e_=>y4 e_ λe0 hs hin q=>?_;clear e_ h_;subst e0
 refine⟨_,(@A3 _ _ _ _ _ (As (En (D9 (B9 Z07 T.Zv hr (Ap A7) (pv 0) (A0 (pv 1) A2))))
  (@A4 _ _ _ Da)
  Aj)
  (@A4 _ _ _ (Al (Sd (Ad (pv 0) rfl) (pv 1) ⟨rfl,rfl,rfl,rfl⟩)))),?_⟩
 ext:4;have hsA:=hs;obtain⟨⟨dx,ho⟩,hd,hnd⟩:=hs;ext;refine⟨dx,_,ho,by rfl,_,_,_,_,hsA,?_⟩;rw[if_neg (λh=>h hin)];ext;have hv:=Qk (ls:=ls) (z:=z);rw[Fj hin]at hv;obtain⟨v,hv⟩:=Ho.mp hv;refine⟨Zg,dx,_,ho,T.Zv,T.Z0i,_,Ew,d,rfl,.inl ⟨_,.inl hd⟩,_,hd,Sum.inr z,rfl,v,hv,?_⟩;exact q _ (λb o e n=>by rw[A5 n];exact e) hsA.cast
variable (Z3o:Bn P w K mg base (CXF P w) 2 Zg "cast" ["self","name"] (La Zg))
include T Zi in
theorem Z94(F:Fun K "__init__" "Rule.__init__" Z0o f fd):Ai P w K mg base (CXF P w) 4 f fd ["self","stock","places"] (Dl K):=by
 have sc:A9 ["self","stock","places"] ["self","stock","places"] (A6 Z0o):=by ext:3
 ext:2
 . exact n5 h_ λ_ _ _ _ _=>rfl
 refine x5 h_ λX q' dx p n e_=>y8 e_ λe0 hq hcl hns hnp h1 h2 q=>?_;clear e_ h_;subst e0;replace Zi:=Zi.weaker λ_ _ _ _=>M8
 refine⟨_,(@A3 _ _ _ _ _ (Al (Ae Zi hr rfl A7 (A0 (pv 2) A2)))
  (@A3 _ _ _ _ _ (Av (pv 0) (pv 1) rfl)
  (@A4 _ _ _ (Av (pv 0) (pv 2) rfl)))),?_⟩
 walk_at "su";ext;refine⟨X,dx,[],hq,hcl,hns,by decide,?_⟩;ext;refine⟨X,dx,_,A1,hcl,hnp,by simp[Ac],?_⟩;ext;exact q _ (λb o e nb=>by rw[A5 nb];exact e) A1
include T Zi in
theorem Z95(F:Fun K "__init__" "Rule.__init__" Z0o f fd):Ai P w K mg base (CXF P w) 4 f fd ["self","stock","places"] (Cz Z4):=by
 have sc:A9 ["self","stock","places"] ["self","stock","places"] (A6 Z0o):=by ext:3
 ext:2
 . exact n3 h_ λ_ _ _=>rfl
 refine x3 h_ λq' p u e_=>y4 e_ λe0 hu hw qe=>?_;clear e_ h_;subst e0
 refine⟨_,(@A3 _ _ _ _ _ (Al (Ae Zi hr rfl A7 (A0 (pv 2) A2)))
  (@A3 _ _ _ _ _ (Av (pv 0) (pv 1) rfl)
  (@A4 _ _ _ (Av (pv 0) (pv 2) rfl)))),?_⟩
 walk_at "su";ext;exact⟨hu.num,λz=>(by rw[hw]at z;cases z),λ_=>qe⟩
include T Zi in
theorem Zai(F:Fun K "__init__" "Rule.__init__" Z0o f fd):Ai P w K mg base (CXF P w) 4 f fd ["self","stock","places"] (λvs H Q E=>(Dl K) vs H Q E\/(Cz Z4) vs H Q E):=(Ai.or (Z94 T Zi F) (Z95 T Zi F))
variable (Z6:Ol P w K mg base (CXF P w) 4 "Rule" Zb ["self","stock","places"] (λvs H Q E=>(Dl K) vs H Q E\/(Cz Z4) vs H Q E))
include T Z6 in
theorem Z80(F:Fun K "__init__" "Ranked.__init__" Z0b f fd):Ai P w K mg base (CXF P w) 5 f fd ["self","stock","places"] (C9 K):=by
 have sc:A9 ["self","stock","places"] ["self","stock","places"] (A6 Z0b):=by ext:3
 ext:2
 . exact n5 h_ λ_ _ _ _ _=>rfl
 refine x5 h_ λX q' dx p n e_=>y9 e_ λe0 hq hcl o8 hpr hla5 h1 h2 q=>?_;clear e_ h_;subst e0;obtain⟨hns,hnp⟩:=o8;replace Z6:=Z6.weaker λ_ _ _ _ h=> .inl h
 refine⟨_,(@A3 _ _ _ _ _ (Al (Bx Z6 hr (Ap A7) (Be (v:= .ref Zb) rfl T.Z4n rfl) (A0 (pv 0) (A0 (pv 1) (A0 (pv 2) A2)))))
  (@A3 _ _ _ _ _ (Av (pv 0) A8 rfl)
  (@A4 _ _ _ (Av (pv 0) C1 rfl)))),?_⟩
 ext:4;ext;refine⟨X,dx,hq,hcl,hns,hnp,h1,h2,λH1 sb1 hq1=>?_⟩;ext:1;refine⟨X,dx,_,hq1,hcl,hpr,by rw[show (rf0 p n).length=2 from rfl];decide,?_⟩
 have sb2:SameBut q' H1 (upd H1 q' (.ins X dx (Ac "present" (V.int 0) (rf0 p n)))):=λb o e nb=>by rw[A5 nb];exact e
 have hq2:upd H1 q' (.ins X dx (Ac "present" (V.int 0) (rf0 p n))) q'=some (.ins X dx (Ac "present" (V.int 0) (rf0 p n))):=A1;generalize upd H1 q' (.ins X dx (Ac "present" (V.int 0) (rf0 p n)))=H2 at sb2 hq2 ⊢;ext:1;intro la hla
 have n1:la≠q':=λe=>by rw[e,hq2]at hla;cases hla
 refine⟨X,dx,_,by rw[A5 n1.symm];exact hq2,hcl,hla5,by rw[show (Ac "present" (V.int 0) (rf0 p n)).length=3 from rfl];decide,?_⟩;have sb12:=sb1.trans sb2
 have hla0:H la=none:=by
  cases e2:H la with
  | none=>rfl
  | some o=>rw[sb12 _ _ e2 n1]at hla;cases hla
 ext;exact q _ la (λb o e nb=>by rw[A5 nb,A5 (λe2=>by rw[e2,hla0]at e;cases e)];exact sb12 _ _ e nb) hla0 n1 A1 (by rw[A5 n1,A1])
include T Z6 in
theorem Z81(F:Fun K "__init__" "Ranked.__init__" Z0b f fd):Ai P w K mg base (CXF P w) 5 f fd ["self","stock","places"] (Cz Z4):=by
 have sc:A9 ["self","stock","places"] ["self","stock","places"] (A6 Z0b):=by ext:3
 ext:2
 . exact n3 h_ λ_ _ _=>rfl
 refine x3 h_ λq' p u e_=>y4 e_ λe0 hu hw qe=>?_;clear e_ h_;subst e0;replace Z6:=Z6.weaker λ_ _ _ _ h=> .inr h
 refine⟨_,(@A3 _ _ _ _ _ (Al (Bx Z6 hr (Ap A7) (Be (v:= .ref Zb) rfl T.Z4n rfl) (A0 (pv 0) (A0 (pv 1) (A0 (pv 2) A2)))))
  (@A3 _ _ _ _ _ (Av (pv 0) A8 rfl)
  (@A4 _ _ _ (Av (pv 0) C1 rfl)))),?_⟩
 walk_at "su";ext;exact qe
include T Z6 in
theorem Z96(F:Fun K "__init__" "Ranked.__init__" Z0b f fd):Ai P w K mg base (CXF P w) 5 f fd ["self","stock","places"] (λvs H Q E=>(C9 K) vs H Q E\/(Cz Z4) vs H Q E):=(Ai.or (Z80 T Z6 F) (Z81 T Z6 F))
variable (Za:Ol P w K mg base (CXF P w) 5 "Ranked" Z2 ["self","stock","places"] (λvs H Q E=>(C9 K) vs H Q E\/(Cz Z4) vs H Q E))
include T Z6 in
theorem Z82(F:Fun K "__init__" "Ranked.__init__" Z1b f fd):Ai P w K mg base (CXF P w) 5 f fd ["self","stock","places"] (C9 K):=by
 have sc:A9 ["self","stock","places"] ["self","stock","places"] (A6 Z1b):=by ext:3
 ext:2
 . exact n5 h_ λ_ _ _ _ _=>rfl
 refine x5 h_ λX q' dx p n e_=>y9 e_ λe0 hq hcl o8 hpr hla5 h1 h2 q=>?_;clear e_ h_;subst e0;obtain⟨hns,hnp⟩:=o8;replace Z6:=Z6.weaker λ_ _ _ _ h=> .inl h
 refine⟨_,(@A3 _ _ _ _ _ (Al (Bx Z6 hr (Ap A7) (Be (v:= .ref Zb) rfl T.Z4n rfl) (A0 (pv 0) (A0 (pv 1) (A0 (pv 2) A2)))))
  (@A3 _ _ _ _ _ (Av (pv 0) A8 rfl)
  (@A4 _ _ _ (Av (pv 0) C1 rfl)))),?_⟩
 ext:4;ext;refine⟨X,dx,hq,hcl,hns,hnp,h1,h2,λH1 sb1 hq1=>?_⟩;ext:1;refine⟨X,dx,_,hq1,hcl,hpr,by rw[show (rf0 p n).length=2 from rfl];decide,?_⟩
 have sb2:SameBut q' H1 (upd H1 q' (.ins X dx (Ac "present" (V.int 0) (rf0 p n)))):=λb o e nb=>by rw[A5 nb];exact e
 have hq2:upd H1 q' (.ins X dx (Ac "present" (V.int 0) (rf0 p n))) q'=some (.ins X dx (Ac "present" (V.int 0) (rf0 p n))):=A1;generalize upd H1 q' (.ins X dx (Ac "present" (V.int 0) (rf0 p n)))=H2 at sb2 hq2 ⊢;ext:1;intro la hla
 have n1:la≠q':=λe=>by rw[e,hq2]at hla;cases hla
 refine⟨X,dx,_,by rw[A5 n1.symm];exact hq2,hcl,hla5,by rw[show (Ac "present" (V.int 0) (rf0 p n)).length=3 from rfl];decide,?_⟩;have sb12:=sb1.trans sb2
 have hla0:H la=none:=by
  cases e2:H la with
  | none=>rfl
  | some o=>rw[sb12 _ _ e2 n1]at hla;cases hla
 ext;exact q _ la (λb o e nb=>by rw[A5 nb,A5 (λe2=>by rw[e2,hla0]at e;cases e)];exact sb12 _ _ e nb) hla0 n1 A1 (by rw[A5 n1,A1])
include T Z6 in
theorem Z83(F:Fun K "__init__" "Ranked.__init__" Z1b f fd):Ai P w K mg base (CXF P w) 5 f fd ["self","stock","places"] (Cz Z4):=by
 have sc:A9 ["self","stock","places"] ["self","stock","places"] (A6 Z1b):=by ext:3
 ext:2
 . exact n3 h_ λ_ _ _=>rfl
 refine x3 h_ λq' p u e_=>y4 e_ λe0 hu hw qe=>?_;clear e_ h_;subst e0;replace Z6:=Z6.weaker λ_ _ _ _ h=> .inr h
 refine⟨_,(@A3 _ _ _ _ _ (Al (Bx Z6 hr (Ap A7) (Be (v:= .ref Zb) rfl T.Z4n rfl) (A0 (pv 0) (A0 (pv 1) (A0 (pv 2) A2)))))
  (@A3 _ _ _ _ _ (Av (pv 0) A8 rfl)
  (@A4 _ _ _ (Av (pv 0) C1 rfl)))),?_⟩
 walk_at "su";ext;exact qe
include T Z6 in
theorem Z97(F:Fun K "__init__" "Ranked.__init__" Z1b f fd):Ai P w K mg base (CXF P w) 5 f fd ["self","stock","places"] (λvs H Q E=>(C9 K) vs H Q E\/(Cz Z4) vs H Q E):=(Ai.or (Z82 T Z6 F) (Z83 T Z6 F))
variable (Zl:Kj P w K mg base (CXF P w) 5 "Oldest" Z3 ["self","stock","places"] (λvs H Q E=>(C9 K) vs H Q E\/(Cz Z4) vs H Q E))
include T Za in
theorem Z8c(F:Fun K "__init__" "First.__init__" Z1q f fd):Ai P w K mg base (CXF P w) 6 f fd ["self","stock","places"] (Ex Z5):=by
 have sc:A9 ["self","stock","places"] ["self","stock","places"] (A6 Z1q):=by ext:3
 ext:2
 . exact n4 h_ λ_ _ _ _=>rfl
 refine x4 h_ λq' dx p n e_=>y5 e_ λe0 hq h1 h2 q=>?_;clear e_ h_;subst e0;replace Za:=Za.weaker λ_ _ _ _ h=> .inl h
 refine⟨_,(@A3 _ _ _ _ _ (Al (Bx Za hr (Ap A7) (Be (v:= .ref Z2) rfl T.Z40 rfl) (A0 (pv 0) (A0 (pv 1) (A0 (pv 2) A2)))))
  (@A4 _ _ _ (Av (pv 0) C1 rfl))),?_⟩
 ext:4;ext;refine⟨Z5,dx,hq,T.Z03,T.Z19,T.Z0z,T.Z0s,T.Z3g,h1,h2,λH1 la sb1 hla n1 hq1' hl1=>?_⟩;have hq1:H1 q'=some (.ins Z5 dx (Ac "last" (V.ref la) (Ac "present" (V.int 0) (rf0 p n)))):=hq1';clear hq1';ext:1;intro pa hpa
 have n2:pa≠q':=λe=>by rw[e,hq1]at hpa;cases hpa
 have n3:la≠pa:=λe=>by rw[<- e,hl1]at hpa;cases hpa
 refine⟨Z5,dx,_,by rw[A5 n2.symm];exact hq1,T.Z03,T.Z1l,by rw[show (Ac "last" (V.ref la) (Ac "present" (V.int 0) (rf0 p n))).length=4 from rfl];decide,?_⟩
 have hpa0:H pa=none:=by
  cases e2:H pa with
  | none=>rfl
  | some o=>rw[sb1 _ _ e2 n2]at hpa;cases hpa
 ext;exact q _ la pa (λb o e nb=>by rw[A5 nb,A5 (λe2=>by rw[e2,hpa0]at e;cases e)];exact sb1 _ _ e nb) hla hpa0 ⟨la,pa,rfl,n3,⟨dx,A1⟩,by rw[A5 n1,A5 n3];exact hl1,by rw[A5 n2,A1]⟩
include T Za in
theorem Z8d(F:Fun K "__init__" "First.__init__" Z1q f fd):Ai P w K mg base (CXF P w) 6 f fd ["self","stock","places"] (Cz Z4):=by
 have sc:A9 ["self","stock","places"] ["self","stock","places"] (A6 Z1q):=by ext:3
 ext:2
 . exact n3 h_ λ_ _ _=>rfl
 refine x3 h_ λq' p u e_=>y4 e_ λe0 hu hw qe=>?_;clear e_ h_;subst e0;replace Za:=Za.weaker λ_ _ _ _ h=> .inr h
 refine⟨_,(@A3 _ _ _ _ _ (Al (Bx Za hr (Ap A7) (Be (v:= .ref Z2) rfl T.Z40 rfl) (A0 (pv 0) (A0 (pv 1) (A0 (pv 2) A2)))))
  (@A4 _ _ _ (Av (pv 0) C1 rfl))),?_⟩
 walk_at "su";ext;exact qe
include T Za in
theorem Za2(F:Fun K "__init__" "First.__init__" Z1q f fd):Ai P w K mg base (CXF P w) 6 f fd ["self","stock","places"] (λvs H Q E=>(Ex Z5) vs H Q E\/(Cz Z4) vs H Q E):=(Ai.or (Z8c T Za F) (Z8d T Za F))
variable (Zm:Kj P w K mg base (CXF P w) 6 "First" Z5 ["self","stock","places"] (λvs H Q E=>(Ex Z5) vs H Q E\/(Cz Z4) vs H Q E))
include T Zk Za in
theorem Z7h{dtk:Tok}(F:M4 K "__init__" "Halving.__init__" Zt f fd [.int 8 dtk]):Ai P w K mg base (CXF P w) 6 f fd ["self","stock","places","turn"] (E6 Z0):=by
 have sc:A9 ["self","stock","places","turn"] ["self","stock","places","turn"] (A6 Zt):=by ext:3
 ext:2
 . exact n5 h_ λ_ _ _ _ _=>rfl
 refine x5 h_ λq' dx p n e e_=>y7 e_ λe0 hq h1 h2 h3 h4 q=>?_;clear e_ h_;subst e0;replace Zk:=Zk.weaker λ_ _ _ _=>J0j;replace Za:=Za.weaker λ_ _ _ _ h=> .inl h
 refine⟨_,(@A3 _ _ _ _ _ (Al (Bx Za hr (Ap A7) (Be (v:= .ref Z2) rfl T.Z40 rfl) (A0 (pv 0) (A0 (pv 1) (A0 (pv 2) A2)))))
  (@A3 _ _ _ _ _ (As (En (D9 (Ae Zk hr rfl A7 (A0 (pv 3) (A0 A8 (A0 (Ct rfl T.Z0w) A2))))))
   (@A4 _ _ _ (Eu T.Z5e rfl T.k_NoNumber rfl rfl T.Z1u Gg (A0 (Kv (De B3 (De (Nw (Ct rfl T.Z0w)) Nv))) A2)))
   Aj)
  (@A3 _ _ _ _ _ (Av (pv 0) (pv 3) rfl)
  (@A4 _ _ _ (Av (pv 0) C1 rfl))))),?_⟩
 ext:4;ext;refine⟨Z0,dx,hq,T.Zh,T.Z0f,T.Z0d,T.Z08,T.Z10,h1,h2,λH1 la sb1 hla n1 hq1 hl1=>?_⟩;have hq1':H1 q'=some (.ins Z0 dx (rf2 p n 0 la)):=hq1;clear hq1;ext:1;rw[if_neg (by rw[O4 h3 h4];decide)];refine⟨rfl,?_⟩;ext;refine⟨Z0,dx,_,hq1',T.Zh,T.Z2l,by rw[Qt];decide,?_⟩
 have sb2:SameBut q' H1 (upd H1 q' (.ins Z0 dx (Ac "turn" (V.int e) (rf2 p n 0 la)))):=λb o e nb=>by rw[A5 nb];exact e
 have hq2:upd H1 q' (.ins Z0 dx (Ac "turn" (V.int e) (rf2 p n 0 la))) q'=some (.ins Z0 dx (Ac "turn" (V.int e) (rf2 p n 0 la))):=A1
 have hl2:upd H1 q' (.ins Z0 dx (Ac "turn" (V.int e) (rf2 p n 0 la))) la=some (.dK []):=by rw[A5 n1];exact hl1
 generalize upd H1 q' (.ins Z0 dx (Ac "turn" (V.int e) (rf2 p n 0 la)))=H2 at sb2 hq2 hl2 ⊢;ext:1;intro ta hta
 have n2:ta≠q':=λe=>by rw[e,hq2]at hta;cases hta
 have n3:la≠ta:=λe=>by rw[<- e,hl2]at hta;cases hta
 refine⟨Z0,dx,_,by rw[A5 n2.symm];exact hq2,T.Zh,T.Z00,by rw[show (Ac "turn" (V.int e) (rf2 p n 0 la)).length=5 from rfl];decide,?_⟩;have sb12:=sb1.trans sb2
 have hta0:H ta=none:=by
  cases e2:H ta with
  | none=>rfl
  | some o=>rw[sb12 _ _ e2 n2]at hta;cases hta
 ext;exact q _ la ta (λb o e nb=>by rw[A5 nb,A5 (λe2=>by rw[e2,hta0]at e;cases e)];exact sb12 _ _ e nb) hla hta0 ⟨la,ta,rfl,⟨dx,A1⟩,by rw[A5 n1,A5 n3];exact hl2,by rw[A5 n2,A1];rfl,n3⟩
include T Zk Za in
theorem Z7i{dtk:Tok}(F:M4 K "__init__" "Halving.__init__" Zt f fd [.int 8 dtk]):Ai P w K mg base (CXF P w) 6 f fd ["self","stock","places","turn"] (Pw Z4):=by
 have sc:A9 ["self","stock","places","turn"] ["self","stock","places","turn"] (A6 Zt):=by ext:3
 ext:2
 . exact n4 h_ λ_ _ _ _=>rfl
 refine x4 h_ λq' p u v e_=>y4 e_ λe0 hu hw qe=>?_;clear e_ h_;subst e0;replace Za:=Za.weaker λ_ _ _ _ h=> .inr h
 refine⟨_,(@A3 _ _ _ _ _ (Al (Bx Za hr (Ap A7) (Be (v:= .ref Z2) rfl T.Z40 rfl) (A0 (pv 0) (A0 (pv 1) (A0 (pv 2) A2)))))
  (@A3 _ _ _ _ _ (As (En (D9 (Ae Zk hr rfl A7 (A0 (pv 3) (A0 A8 (A0 (Ct rfl T.Z0w) A2))))))
   (@A4 _ _ _ (Eu T.Z5e rfl T.k_NoNumber rfl rfl T.Z1u Gg (A0 (Kv (De B3 (De (Nw (Ct rfl T.Z0w)) Nv))) A2)))
   Aj)
  (@A3 _ _ _ _ _ (Av (pv 0) (pv 3) rfl)
  (@A4 _ _ _ (Av (pv 0) C1 rfl))))),?_⟩
 ext:4;ext;exact qe
include T Zk Za in
theorem Z7j{dtk:Tok}(F:M4 K "__init__" "Halving.__init__" Zt f fd [.int 8 dtk]):Ai P w K mg base (CXF P w) 6 f fd ["self","stock","places","turn"] (Px Z4 Z0):=by
 have sc:A9 ["self","stock","places","turn"] ["self","stock","places","turn"] (A6 Zt):=by ext:3
 ext:2
 . exact n5 h_ λ_ _ _ _ _=>rfl
 refine x5 h_ λq' dx p n v e_=>y7 e_ λe0 hq h1 h2 hv hw qe=>?_;clear e_ h_;subst e0;replace Za:=Za.weaker λ_ _ _ _ h=> .inl h
 refine⟨_,(@A3 _ _ _ _ _ (Al (Bx Za hr (Ap A7) (Be (v:= .ref Z2) rfl T.Z40 rfl) (A0 (pv 0) (A0 (pv 1) (A0 (pv 2) A2)))))
  (@A3 _ _ _ _ _ (As (En (D9 (Ae Zk hr rfl A7 (A0 (pv 3) (A0 A8 (A0 (Ct rfl T.Z0w) A2))))))
   (@A4 _ _ _ (Eu T.Z5e rfl T.k_NoNumber rfl rfl T.Z1u Gg (A0 (Kv (De B3 (De (Nw (Ct rfl T.Z0w)) Nv))) A2)))
   Aj)
  (@A3 _ _ _ _ _ (Av (pv 0) (pv 3) rfl)
  (@A4 _ _ _ (Av (pv 0) C1 rfl))))),?_⟩
 ext:4;ext;refine⟨Z0,dx,hq,T.Zh,T.Z0f,T.Z0d,T.Z08,T.Z10,h1,h2,λH1 la sb1 hla n1 hq1 hl1=>?_⟩;have hv1:=hv.but sb1 hq;ext:1;refine⟨hv1.num,?_⟩;rw[if_pos hw];refine⟨by rw[line];decide+kernel,by decide+kernel,by rw[line];decide+kernel,by rw[line];decide+kernel,by rw[line];decide,λx hx=>?_⟩
 have nx:x≠q':=λe=>by rw[e,hq1]at hx;cases hx
 have hx0:H x=none:=by
  cases e2:H x with
  | none=>rfl
  | some o=>rw[sb1 _ _ e2 nx]at hx;cases hx
 exact⟨hx0,qe _ x (λb o e nb=>by rw[A5 (Ab (sb1 _ _ e nb) hx)];exact sb1 _ _ e nb) hx0 A1⟩
include T Zk Za in
theorem Z8e{dtk:Tok}(F:M4 K "__init__" "Halving.__init__" Zt f fd [.int 8 dtk]):Ai P w K mg base (CXF P w) 6 f fd ["self","stock","places","turn"] (λvs H Q E=>(E6 Z0) vs H Q E\/(λvs H Q E=>(Pw Z4) vs H Q E\/(Px Z4 Z0) vs H Q E) vs H Q E):=(Ai.or (Z7h T Zk Za F) (Ai.or (Z7i T Zk Za F) (Z7j T Zk Za F)))
variable (Zj:Oa P w K mg base (CXF P w) 6 "Halving" Z0 ["self","stock","places","turn"] "turn" [V.int 8] (λvs H Q E=>(E6 Z0) vs H Q E\/(λvs H Q E=>(Pw Z4) vs H Q E\/(Px Z4 Z0) vs H Q E) vs H Q E))
include T Zs Za in
theorem Z84(F:Fun K "__init__" "Farthest.__init__" Z3i f fd):Ai P w K mg base (CXF P w) 7 f fd ["self","stock","places","asks"] (J6p (E4.mk Z4 Zc Z7 Z8) K Zd):=by
 have sc:A9 ["self","stock","places","asks"] ["self","stock","places","asks"] (A6 Z3i):=by ext:3
 ext:2
 . exact n7 h_ λ_ _ _ _ _ _ _=>rfl
 refine x7 h_ λq' p a v ts ys r e_=>y8 e_ λe0 hs nd hS hl hv hr' tl=>?_;clear e_ h_;subst e0
 refine⟨_,(@A3 _ _ _ _ _ (Al (Ae Zs hr rfl A7 (A0 (pv 1) (A0 (pv 3) (A0 (pv 2) A2)))))
  (@A3 _ _ _ _ _ (Al (Bx Za hr (Ap A7) (Be (v:= .ref Z2) rfl T.Z40 rfl) (A0 (pv 0) (A0 (pv 1) (A0 (pv 2) A2)))))
  (@A4 _ _ _ (Av (pv 0) (Bv Bp rfl T.Z1h (by first | rfl | decide+kernel) (A0 (pv 3) A2)) rfl)))),?_⟩
 ext:4;ext;exact⟨ts,hs,nd,ys,hS,hl,hv.num,Ul hr' tl⟩
variable (Zo:Kj P w K mg base (CXF P w) 7 "Farthest" Zn ["self","stock","places","asks"] (J6p (E4.mk Z4 Zc Z7 Z8) K Zd))
include T Z6 in
theorem Z98(F:Fun K "__init__" "Hand.__init__" Z27 f fd):Ai P w K mg base (CXF P w) 6 f fd ["self","stock","places"] (Ed Z9):=by
 have sc:A9 ["self","stock","places"] ["self","stock","places"] (A6 Z27):=by ext:3
 ext:2
 . exact n4 h_ λ_ _ _ _=>rfl
 refine x4 h_ λq' dx p n e_=>y5 e_ λe0 hq h1 h2 q=>?_;clear e_ h_;subst e0;replace Z6:=Z6.weaker λ_ _ _ _ h=> .inl h
 refine⟨_,(@A3 _ _ _ _ _ (Al (Bx Z6 hr (Ap A7) (Be (v:= .ref Zb) rfl T.Z4n rfl) (A0 (pv 0) (A0 (pv 1) (A0 (pv 2) A2)))))
  (@A3 _ _ _ _ _ (Av (pv 0) (@Bd _ _ _ _ A2) rfl)
  (@A4 _ _ _ (Av (pv 0) C1 rfl)))),?_⟩
 ext:4;ext;refine⟨Z9,dx,hq,T.Zy,T.Z1m,T.Z1a,h1,h2,λH1 sb1 hq1'=>?_⟩;have hq1:H1 q'=some (.ins Z9 dx (Ac "places" (V.int n) (Ac "stock" (V.ref p) []))):=hq1';clear hq1'
 have back:∀b,b≠q'->H1 b=none->H b=none:=λb nb e=>by
  cases e2:H b with
  | none=>rfl
  | some o=>rw[sb1 _ _ e2 nb]at e;cases e
 ext:1;intro od hod
 have n1:od≠q':=λe=>by rw[e,hq1]at hod;cases hod
 have fl1:(Ac "places" (V.int n) (Ac "stock" (V.ref p) [])).length<=2:=by
  have e1:=C6 "places" (V.int n) (Ac "stock" (V.ref p) []);have e2:=C6 "stock" (V.ref p) [];simp at *;omega
 refine⟨Z9,dx,_,by rw[A5 n1.symm];exact hq1,T.Zy,T.Z0a,by omega,?_⟩;ext:1;intro md hmd
 have n2:md≠q':=λe=>by rw[e,A1]at hmd;cases hmd
 have n3:md≠od:=λe=>by rw[A5 n2,e,A1]at hmd;cases hmd
 have hmd1:H1 md=none:=by rw[A5 n2,A5 n3]at hmd;exact hmd
 have fl2:(Ac "order" (V.ref od) (Ac "places" (V.int n) (Ac "stock" (V.ref p) []))).length<=3:=by
  have e1:=C6 "order" (V.ref od) (Ac "places" (V.int n) (Ac "stock" (V.ref p) []));omega
 refine⟨Z9,dx,_,by rw[A5 n2.symm,A1],T.Zy,T.Z0t,by omega,?_⟩;ext;refine q _ od md (λb o e nb=>?_) (back od n1 hod) (back md n2 hmd1) ⟨od,md,rfl,⟨dx,A1⟩,?_,?_⟩
 . have e1:=sb1 _ _ e nb
   rw[A5 nb,A5 (Ab e1 hmd1),A5 nb,A5 (Ab e1 hod)];exact e1
 . rw[A5 n1,A5 n3.symm,A5 n1,A1];rfl
 . rw[A5 n2,A1];rfl
include T Z6 in
theorem Z99(F:Fun K "__init__" "Hand.__init__" Z27 f fd):Ai P w K mg base (CXF P w) 6 f fd ["self","stock","places"] (Cz Z4):=by
 have sc:A9 ["self","stock","places"] ["self","stock","places"] (A6 Z27):=by ext:3
 ext:2
 . exact n3 h_ λ_ _ _=>rfl
 refine x3 h_ λq' p u e_=>y4 e_ λe0 hu hw qe=>?_;clear e_ h_;subst e0;replace Z6:=Z6.weaker λ_ _ _ _ h=> .inr h
 refine⟨_,(@A3 _ _ _ _ _ (Al (Bx Z6 hr (Ap A7) (Be (v:= .ref Zb) rfl T.Z4n rfl) (A0 (pv 0) (A0 (pv 1) (A0 (pv 2) A2)))))
  (@A3 _ _ _ _ _ (Av (pv 0) (@Bd _ _ _ _ A2) rfl)
  (@A4 _ _ _ (Av (pv 0) C1 rfl)))),?_⟩
 walk_at "su";ext;exact qe
include T Z6 in
theorem Zaj(F:Fun K "__init__" "Hand.__init__" Z27 f fd):Ai P w K mg base (CXF P w) 6 f fd ["self","stock","places"] (λvs H Q E=>(Ed Z9) vs H Q E\/(Cz Z4) vs H Q E):=(Ai.or (Z98 T Z6 F) (Z99 T Z6 F))
variable (Zp:Kj P w K mg base (CXF P w) 6 "Hand" Z9 ["self","stock","places"] (λvs H Q E=>(Ed Z9) vs H Q E\/(Cz Z4) vs H Q E))
include T Z6 in
theorem Z9a(F:Fun K "__init__" "Rows.__init__" Z28 f fd):Ai P w K mg base (CXF P w) 6 f fd ["self","stock","places"] (G1 Z1):=by
 have sc:A9 ["self","stock","places"] ["self","stock","places"] (A6 Z28):=by ext:3
 ext:2
 . exact n4 h_ λ_ _ _ _=>rfl
 refine x4 h_ λq' dx p n e_=>y5 e_ λe0 hq h1 h2 q=>?_;clear e_ h_;subst e0;replace Z6:=Z6.weaker λ_ _ _ _ h=> .inl h
 refine⟨_,(@A3 _ _ _ _ _ (Al (Bx Z6 hr (Ap A7) (Be (v:= .ref Zb) rfl T.Z4n rfl) (A0 (pv 0) (A0 (pv 1) (A0 (pv 2) A2)))))
  (@A3 _ _ _ _ _ (Av (pv 0) (@Bd _ _ _ _ A2) rfl)
  (@A3 _ _ _ _ _ (Av (pv 0) (@Bd _ _ _ _ A2) rfl)
  (@A3 _ _ _ _ _ (Av (pv 0) (@Bd _ _ _ _ A2) rfl)
  (@A3 _ _ _ _ _ (Av (pv 0) (@Bd _ _ _ _ A2) rfl)
  (@A3 _ _ _ _ _ (Av (pv 0) A8 rfl)
  (@A4 _ _ _ (Av (pv 0) Cw rfl)))))))),?_⟩
 ext:4;ext;refine⟨Z1,dx,hq,T.Ze,T.Z1n,T.Z0j,h1,h2,λH1 sb1 hq1'=>?_⟩;have hq1:H1 q'=some (.ins Z1 dx (Ac "places" (V.int n) (Ac "stock" (V.ref p) []))):=hq1';clear hq1'
 have back:∀b,b≠q'->H1 b=none->H b=none:=λb nb e=>by
  cases e2:H b with
  | none=>rfl
  | some o=>rw[sb1 _ _ e2 nb]at e;cases e
 ext:1;intro m1 hm1
 have n1:m1≠q':=λe=>by rw[e,hq1]at hm1;cases hm1
 refine⟨Z1,dx,_,by rw[A5 n1.symm];exact hq1,T.Ze,T.Z06,by rw[show (Ac "places" (V.int n) (Ac "stock" (V.ref p) [])).length=2 from rfl];decide,?_⟩
 have sb2:SameBut q' H1 (upd (upd H1 m1 (.lst [])) q' (.ins Z1 dx (Ac "once" (V.ref m1) (Ac "places" (V.int n) (Ac "stock" (V.ref p) []))))):=λb o e nb=>by
  rw[A5 nb,A5 (Ab e hm1)];exact e
 have hq2:(upd (upd H1 m1 (.lst [])) q' (.ins Z1 dx (Ac "once" (V.ref m1) (Ac "places" (V.int n) (Ac "stock" (V.ref p) []))))) q'=some (.ins Z1 dx (Ac "once" (V.ref m1) (Ac "places" (V.int n) (Ac "stock" (V.ref p) [])))):=A1
 have k1_2:(upd (upd H1 m1 (.lst [])) q' (.ins Z1 dx (Ac "once" (V.ref m1) (Ac "places" (V.int n) (Ac "stock" (V.ref p) []))))) m1=some (.lst []):=by rw[A5 n1,A1]
 generalize upd (upd H1 m1 (.lst [])) q' (.ins Z1 dx (Ac "once" (V.ref m1) (Ac "places" (V.int n) (Ac "stock" (V.ref p) []))))=H2 at sb2 hq2 k1_2 ⊢;ext:1;intro m2 hm2
 have n2:m2≠q':=λe=>by rw[e,hq2]at hm2;cases hm2
 refine⟨Z1,dx,_,by rw[A5 n2.symm];exact hq2,T.Ze,T.Z04,by rw[show (Ac "once" (V.ref m1) (Ac "places" (V.int n) (Ac "stock" (V.ref p) []))).length=3 from rfl];decide,?_⟩
 have sb3:SameBut q' H2 (upd (upd H2 m2 (.lst [])) q' (.ins Z1 dx (Ac "again" (V.ref m2) (Ac "once" (V.ref m1) (Ac "places" (V.int n) (Ac "stock" (V.ref p) [])))))):=λb o e nb=>by
  rw[A5 nb,A5 (Ab e hm2)];exact e
 have hq3:(upd (upd H2 m2 (.lst [])) q' (.ins Z1 dx (Ac "again" (V.ref m2) (Ac "once" (V.ref m1) (Ac "places" (V.int n) (Ac "stock" (V.ref p) [])))))) q'=some (.ins Z1 dx (Ac "again" (V.ref m2) (Ac "once" (V.ref m1) (Ac "places" (V.int n) (Ac "stock" (V.ref p) []))))):=A1
 have k2_3:(upd (upd H2 m2 (.lst [])) q' (.ins Z1 dx (Ac "again" (V.ref m2) (Ac "once" (V.ref m1) (Ac "places" (V.int n) (Ac "stock" (V.ref p) [])))))) m2=some (.lst []):=by rw[A5 n2,A1]
 generalize upd (upd H2 m2 (.lst [])) q' (.ins Z1 dx (Ac "again" (V.ref m2) (Ac "once" (V.ref m1) (Ac "places" (V.int n) (Ac "stock" (V.ref p) [])))))=H3 at sb3 hq3 k2_3 ⊢;have k1_3:=sb3 _ _ k1_2 n1
 have z2:H1 m2=none:=by
  cases e2:H1 m2 with
  | none=>rfl
  | some o=>rw[sb2 _ _ e2 n2]at hm2;cases hm2
 ext:1;intro m3 hm3
 have n3:m3≠q':=λe=>by rw[e,hq3]at hm3;cases hm3
 refine⟨Z1,dx,_,by rw[A5 n3.symm];exact hq3,T.Ze,T.Zw,by rw[show (Ac "again" (V.ref m2) (Ac "once" (V.ref m1) (Ac "places" (V.int n) (Ac "stock" (V.ref p) [])))).length=4 from rfl];decide,?_⟩
 have sb4:SameBut q' H3 (upd (upd H3 m3 (.lst [])) q' (.ins Z1 dx (Ac "past_once" (V.ref m3) (Ac "again" (V.ref m2) (Ac "once" (V.ref m1) (Ac "places" (V.int n) (Ac "stock" (V.ref p) []))))))):=λb o e nb=>by
  rw[A5 nb,A5 (Ab e hm3)];exact e
 have hq4:(upd (upd H3 m3 (.lst [])) q' (.ins Z1 dx (Ac "past_once" (V.ref m3) (Ac "again" (V.ref m2) (Ac "once" (V.ref m1) (Ac "places" (V.int n) (Ac "stock" (V.ref p) []))))))) q'=some (.ins Z1 dx (Ac "past_once" (V.ref m3) (Ac "again" (V.ref m2) (Ac "once" (V.ref m1) (Ac "places" (V.int n) (Ac "stock" (V.ref p) [])))))):=A1
 have k3_4:(upd (upd H3 m3 (.lst [])) q' (.ins Z1 dx (Ac "past_once" (V.ref m3) (Ac "again" (V.ref m2) (Ac "once" (V.ref m1) (Ac "places" (V.int n) (Ac "stock" (V.ref p) []))))))) m3=some (.lst []):=by rw[A5 n3,A1]
 generalize upd (upd H3 m3 (.lst [])) q' (.ins Z1 dx (Ac "past_once" (V.ref m3) (Ac "again" (V.ref m2) (Ac "once" (V.ref m1) (Ac "places" (V.int n) (Ac "stock" (V.ref p) []))))))=H4 at sb4 hq4 k3_4 ⊢;have k1_4:=sb4 _ _ k1_3 n1;have k2_4:=sb4 _ _ k2_3 n2
 have z3:H1 m3=none:=by
  cases e2:H1 m3 with
  | none=>rfl
  | some o=>rw[(sb2.trans sb3) _ _ e2 n3]at hm3;cases hm3
 ext:1;intro m4 hm4
 have n4:m4≠q':=λe=>by rw[e,hq4]at hm4;cases hm4
 refine⟨Z1,dx,_,by rw[A5 n4.symm];exact hq4,T.Ze,T.Zz,by rw[show (Ac "past_once" (V.ref m3) (Ac "again" (V.ref m2) (Ac "once" (V.ref m1) (Ac "places" (V.int n) (Ac "stock" (V.ref p) []))))).length=5 from rfl];decide,?_⟩
 have sb5:SameBut q' H4 (upd (upd H4 m4 (.lst [])) q' (.ins Z1 dx (Ac "past_again" (V.ref m4) (Ac "past_once" (V.ref m3) (Ac "again" (V.ref m2) (Ac "once" (V.ref m1) (Ac "places" (V.int n) (Ac "stock" (V.ref p) [])))))))):=λb o e nb=>by
  rw[A5 nb,A5 (Ab e hm4)];exact e
 have hq5:(upd (upd H4 m4 (.lst [])) q' (.ins Z1 dx (Ac "past_again" (V.ref m4) (Ac "past_once" (V.ref m3) (Ac "again" (V.ref m2) (Ac "once" (V.ref m1) (Ac "places" (V.int n) (Ac "stock" (V.ref p) [])))))))) q'=some (.ins Z1 dx (Ac "past_again" (V.ref m4) (Ac "past_once" (V.ref m3) (Ac "again" (V.ref m2) (Ac "once" (V.ref m1) (Ac "places" (V.int n) (Ac "stock" (V.ref p) []))))))):=A1
 have k4_5:(upd (upd H4 m4 (.lst [])) q' (.ins Z1 dx (Ac "past_again" (V.ref m4) (Ac "past_once" (V.ref m3) (Ac "again" (V.ref m2) (Ac "once" (V.ref m1) (Ac "places" (V.int n) (Ac "stock" (V.ref p) [])))))))) m4=some (.lst []):=by rw[A5 n4,A1]
 generalize upd (upd H4 m4 (.lst [])) q' (.ins Z1 dx (Ac "past_again" (V.ref m4) (Ac "past_once" (V.ref m3) (Ac "again" (V.ref m2) (Ac "once" (V.ref m1) (Ac "places" (V.int n) (Ac "stock" (V.ref p) [])))))))=H5 at sb5 hq5 k4_5 ⊢;have k1_5:=sb5 _ _ k1_4 n1;have k2_5:=sb5 _ _ k2_4 n2;have k3_5:=sb5 _ _ k3_4 n3
 have z4:H1 m4=none:=by
  cases e2:H1 m4 with
  | none=>rfl
  | some o=>rw[((sb2.trans sb3).trans sb4) _ _ e2 n4]at hm4;cases hm4
 ext:1;refine⟨Z1,dx,_,hq5,T.Ze,T.Z0p,by rw[show (Ac "past_again" (V.ref m4) (Ac "past_once" (V.ref m3) (Ac "again" (V.ref m2) (Ac "once" (V.ref m1) (Ac "places" (V.int n) (Ac "stock" (V.ref p) [])))))).length=6 from rfl];decide,?_⟩;ext:1;refine⟨Z1,dx,_,A1,T.Ze,T.Z0l,by rw[show (Ac "bound" (V.int 0) (Ac "past_again" (V.ref m4) (Ac "past_once" (V.ref m3) (Ac "again" (V.ref m2) (Ac "once" (V.ref m1) (Ac "places" (V.int n) (Ac "stock" (V.ref p) []))))))).length=7 from rfl];decide,?_⟩
 have e12:m1≠m2:=λe=>by rw[<- e]at hm2;rw[k1_2]at hm2;cases hm2
 have e13:m1≠m3:=λe=>by rw[<- e]at hm3;rw[k1_3]at hm3;cases hm3
 have e14:m1≠m4:=λe=>by rw[<- e]at hm4;rw[k1_4]at hm4;cases hm4
 have e23:m2≠m3:=λe=>by rw[<- e]at hm3;rw[k2_3]at hm3;cases hm3
 have e24:m2≠m4:=λe=>by rw[<- e]at hm4;rw[k2_4]at hm4;cases hm4
 have e34:m3≠m4:=λe=>by rw[<- e]at hm4;rw[k3_4]at hm4;cases hm4
 have sball:=(((sb1.trans sb2).trans sb3).trans sb4).trans sb5;ext;refine q _ m1 m2 m3 m4 (λb o e nb=>?_) (back _ n1 hm1) (back _ n2 z2) (back _ n3 z3) (back _ n4 z4) ⟨⟨dx,A1⟩,?_,?_,?_,?_,e12,e13,e14,e23,e24,e34⟩
 . rw[A5 nb]
   try rw[A5 nb]
   exact sball _ _ e nb
 . rw[A5 n1]
   try rw[A5 n1]
   exact k1_5
 . rw[A5 n2]
   try rw[A5 n2]
   exact k2_5
 . rw[A5 n3]
   try rw[A5 n3]
   exact k3_5
 . rw[A5 n4]
   try rw[A5 n4]
   exact k4_5
include T Z6 in
theorem Z9b(F:Fun K "__init__" "Rows.__init__" Z28 f fd):Ai P w K mg base (CXF P w) 6 f fd ["self","stock","places"] (Cz Z4):=by
 have sc:A9 ["self","stock","places"] ["self","stock","places"] (A6 Z28):=by ext:3
 ext:2
 . exact n3 h_ λ_ _ _=>rfl
 refine x3 h_ λq' p u e_=>y4 e_ λe0 hu hw qe=>?_;clear e_ h_;subst e0;replace Z6:=Z6.weaker λ_ _ _ _ h=> .inr h
 refine⟨_,(@A3 _ _ _ _ _ (Al (Bx Z6 hr (Ap A7) (Be (v:= .ref Zb) rfl T.Z4n rfl) (A0 (pv 0) (A0 (pv 1) (A0 (pv 2) A2)))))
  (@A3 _ _ _ _ _ (Av (pv 0) (@Bd _ _ _ _ A2) rfl)
  (@A3 _ _ _ _ _ (Av (pv 0) (@Bd _ _ _ _ A2) rfl)
  (@A3 _ _ _ _ _ (Av (pv 0) (@Bd _ _ _ _ A2) rfl)
  (@A3 _ _ _ _ _ (Av (pv 0) (@Bd _ _ _ _ A2) rfl)
  (@A3 _ _ _ _ _ (Av (pv 0) A8 rfl)
  (@A4 _ _ _ (Av (pv 0) Cw rfl)))))))),?_⟩
 walk_at "su";ext;exact qe
include T Z6 in
theorem Zak(F:Fun K "__init__" "Rows.__init__" Z28 f fd):Ai P w K mg base (CXF P w) 6 f fd ["self","stock","places"] (λvs H Q E=>(G1 Z1) vs H Q E\/(Cz Z4) vs H Q E):=(Ai.or (Z9a T Z6 F) (Z9b T Z6 F))
variable (Zq:Kj P w K mg base (CXF P w) 6 "Rows" Z1 ["self","stock","places"] (λvs H Q E=>(G1 Z1) vs H Q E\/(Cz Z4) vs H Q E))
include T in
theorem Za3(F:Fun K "asked" "Rule.asked" Z5v f fd):Ai P w K mg base (CXF P w) 3 f fd ["self","name"] (Ba (T0 Zb)):=by
 have sc:A9 ["self","name"] ["self","name"] (A6 Z5v):=by ext:3
 ext:2
 . exact n8 h_ λ_ _ _ _ _ _ _ _=>rfl
 refine x8 h_ λq' p n M s l ns z e_=>y6 e_ λe0 hh hi hz hns q=>?_;clear e_ h_;subst e0;refine⟨_,(@A4 _ _ _ Dm),?_⟩;walk_at "su";ext;exact q _ (Kp.of (Aa.refl _)) hh
variable (Z3p:Bn P w K mg base (CXF P w) 3 Zb "asked" ["self","name"] (Ba (T0 Zb)))
include T in
theorem Z9c(F:Fun K "choice" "Rule.choice" Z4z f fd):Ai P w K mg base (CXF P w) 4 f fd ["self","lying"] (B5 (T0 Zb) K):=by
 have sc:A9 ["self","lying"] ["self","lying"] (A6 Z4z):=by ext:3
 ext:2
 . exact n9 h_ λ_ _ _ _ _ _ _ _ _=>rfl
 refine x9 h_ λq' p a n M s l ns z e_=>y10 e_ λe0 hh hm hl ha ham hns hll hcn q=>?_;clear e_ h_;subst e0;refine⟨_,(@A4 _ _ _ (@Af _ _ _ _ (@Cf _ _ _ _ _ _ _ By (pv 1) A8 (λ_ _=>rfl)))),?_⟩;walk_at "su";have q2:=q _ (Kp.of (Aa.refl _)) hh;clear q
 cases l with
 | nil=>exact absurd rfl hl
 | cons x r=>
 ext;exact Ck (SqL.of ha) (v:=V.str x) (Ce (j:=0) rfl) q2
variable (Z31:Bn P w K mg base (CXF P w) 4 Zb "choice" ["self","lying"] (B5 (T0 Zb) K))
include T in
theorem Zal(F:Fun K "gone" "Rule.gone" Z6b f fd):Ai P w K mg base (CXF P w) 3 f fd ["self","name"] (Bi (T0 Zb)):=by
 have sc:A9 ["self","name"] ["self","name"] (A6 Z6b):=by ext:3
 ext:2
 . exact n8 h_ λ_ _ _ _ _ _ _ _=>rfl
 refine x8 h_ λq' p n M s l ns z e_=>y6 e_ λe0 hh hm hl hns q=>?_;clear e_ h_;subst e0;refine⟨_,(@A4 _ _ _ Dm),?_⟩;walk_at "su";ext;exact q _ (Kp.of (Aa.refl _)) hh
variable (Z4d:Bn P w K mg base (CXF P w) 3 Zb "gone" ["self","name"] (Bi (T0 Zb)))
include T in
theorem Zam(F:Fun K "came" "Rule.came" Z6c f fd):Ai P w K mg base (CXF P w) 1 f fd ["self","name"] (Bj (T0 Zb)):=by
 have sc:A9 ["self","name"] ["self","name"] (A6 Z6c):=by ext:3
 ext:2
 . exact n8 h_ λ_ _ _ _ _ _ _ _=>rfl
 refine x8 h_ λq' p n M s l ns z e_=>y7 e_ λe0 hh hm hz hzl hns q=>?_;clear e_ h_;subst e0;refine⟨_,(@A4 _ _ _ Dm),?_⟩;walk_at "su";ext;exact q _ (Kp.of (Aa.refl _)) hh
variable (Z4e:Bn P w K mg base (CXF P w) 1 Zb "came" ["self","name"] (Bj (T0 Zb)))
include T in
theorem Z6s(F:Fun K "number_ask" "Ranked.number_ask" Z2a f fd):Ai P w K mg base (CXF P w) 1 f fd ["self","name"] (D4 Z2):=by
 have sc:A9 ["self","name"] ["self","name"] (A6 Z2a):=by ext:3
 ext:2
 . exact n6 h_ λ_ _ _ _ _ _=>rfl
 refine x6 h_ λq' p n M s z e_=>y4 e_ λe0 hh hl q=>?_;clear e_ h_;subst e0
 refine⟨_,(@A3 _ _ _ _ _ (Iw (pv 0) A8 Q0)
  (@A4 _ _ _ (Dd (Cg hr) (Ad (pv 0) rfl) (pv 1) (Ad (pv 0) rfl) rfl))),?_⟩
 ext:4;obtain⟨la,hM,⟨dx,ho⟩,hla⟩:=hh
 have hM2:M=[q',la]/\True:=⟨hM,trivial⟩
 clear hM
 have nq1:q'≠la:=λe=>by rw[e,hla]at ho;cases ho
 ext;refine⟨Z2,dx,_,ho,T.Z01,T.Z14,_,El,s.k,rfl,dx,_,ho,by rw[Qt];decide,?_⟩;have ho1:upd H q' (.ins Z2 dx (rf2 p n (s.k+1) la)) q'=some (.ins Z2 dx (rf2 p n (s.k+1) la)):=A1
 have hla1:upd H q' (.ins Z2 dx (rf2 p n (s.k+1) la)) la=some (.dK s.la):=by rw[A5 nq1.symm];exact hla
 have kp1:Kp M H (upd H q' (.ins Z2 dx (rf2 p n (s.k+1) la))):=(Kp.of (Aa.refl H)).upd (by rw[hM2.1];simp);rename_i rest hrest;show rest _ (upd H q' (.ins Z2 dx (rf2 p n (s.k+1) la)));generalize upd H q' (.ins Z2 dx (rf2 p n (s.k+1) la))=H1 at ho1 hla1 kp1 ⊢;have hlp:=Br s.la (Sum.inr z:Key) (V.int (s.k+1));subst hrest;ext;exact⟨Z2,dx,_,ho1,T.Z01,T.Z14,_,El,Z2,dx,_,ho1,T.Z01,T.Z24,_,Le,la,rfl,_,Ke.k (k:=Sum.inr z) hla1 (by omega),q _ (kp1.upd (by rw[hM2.1];simp)) ⟨la,hM2.1,⟨dx,by rw[A5 nq1];exact ho1⟩,A1⟩⟩
variable (Z16:Bn P w K mg base (CXF P w) 1 Z2 "number_ask" ["self","name"] (D4 Z2))
include T in
theorem Z7k(F:Fun K "last_of" "Ranked.last_of" Z0m f fd):Ai P w K mg base CX0 1 f fd ["self","name"] (D5 Z2):=by
 have sc:A9 ["self","name"] ["self","name"] (A6 Z0m):=by ext:3
 refine F.ok sc (λvs H Q E h_=>?_) (λcdv A outer s H vs Q E hr h_=>?_)
 . exact n7 h_ λ_ _ _ _ _ _ _=>rfl
 refine x7 h_ λq' p n M s z i e_=>y4 e_ λe0 hh hv q=>?_;clear e_ h_;subst e0;refine⟨_,(@A4 _ _ _ (@Af _ _ _ _ (Es (Cg hr) (Ad (pv 0) rfl) (pv 1) A8 ⟨rfl,rfl,rfl,rfl⟩))),?_⟩;ext:4;obtain⟨la,hM,⟨dx,ho⟩,hla⟩:=hh;clear hM;ext;exact⟨Z2,dx,_,ho,T.Z01,T.Z24,_,Le,la,rfl,.inl ⟨_,.inl hla⟩,some (.int i),by rw[<- hv];exact D8.k (k:=Sum.inr z) hla,q⟩
variable (Z1x:Io P w K mg base 1 Z2 "last_of" ["self","name"] (D5 Z2))
include T Z1x in
theorem Z9d(F:Fun K "rank" "Ranked.rank" Z1c f fd):Ai P w K mg base CX0 2 f fd ["self","name"] (D6 Z2):=by
 have sc:A9 ["self","name"] ["self","name"] (A6 Z1c):=by ext:3
 refine F.ok sc (λvs H Q E h_=>?_) (λcdv A outer s H vs Q E hr h_=>?_)
 . exact n7 h_ λ_ _ _ _ _ _ _=>rfl
 refine x7 h_ λq' p n M s z i e_=>y4 e_ λe0 hh hv q=>?_;clear e_ h_;subst e0;refine⟨_,(@A4 _ _ _ (@Af _ _ _ _ (Bh (A0 (B9 Z1x.toM T.Z01 hr (Ap J19) (pv 0) (A0 (pv 1) A2)) A2)))),?_⟩;ext:4;obtain⟨la,hM,⟨dx,ho⟩,hla⟩:=id hh;clear hM;ext;exact⟨dx,_,ho,by rfl,p,n,M,s,hh,i,hv,by omega,λt ht=>q t ht⟩
variable (Z32:Io P w K mg base 2 Z2 "rank" ["self","name"] (D6 Z2))
include T Z16 in
theorem Z8f(F:Fun K "asked" "Ranked.asked" Z43 f fd):Ai P w K mg base (CXF P w) 3 f fd ["self","name"] (Ba (T2 Z2)):=by
 have sc:A9 ["self","name"] ["self","name"] (A6 Z43):=by ext:3
 ext:2
 . exact n8 h_ λ_ _ _ _ _ _ _ _=>rfl
 refine x8 h_ λq' p n M s l ns z e_=>y6 e_ λe0 hh hi hz hns q=>?_;clear e_ h_;subst e0;refine⟨_,(@A4 _ _ _ (Al (B9 Z16 T.Z01 hr (Ap A7) (pv 0) (A0 (pv 1) A2)))),?_⟩;ext:4;have hh':OAt Z2 H M q' p n s:=hh;obtain⟨la,hM,⟨dx,ho⟩,hla⟩:=id hh';have hlen:=hi.a.len;ext;exact⟨dx,_,ho,by rfl,p,n,M,s,hh',by omega,λH1 kp1 h1=>q H1 kp1 h1⟩
variable (Z2o:Bn P w K mg base (CXF P w) 3 Z2 "asked" ["self","name"] (Ba (T2 Z2)))
include T Z32 in
theorem Z85(F:Fun K "choice" "Ranked.choice" Z3j f fd):Ai P w K mg base (CXF P w) 4 f fd ["self","lying"] (B5 (T2 Z2) K):=by
 have sc:A9 ["self","lying"] ["self","lying"] (A6 Z3j):=by ext:3
 ext:2
 . exact n9 h_ λ_ _ _ _ _ _ _ _ _=>rfl
 refine x9 h_ λq' p a n M s l ns z e_=>y10 e_ λe0 hh hm hl ha ham hns hll hcn q=>?_;clear e_ h_;subst e0;refine⟨_,(@A4 _ _ _ (@Af _ _ _ _ (Mx Z32 T.Z01 hr rfl T.Z6m (by first | rfl | decide+kernel) (A0 (pv 1) A2) (pv 0) rfl))),?_⟩;ext:4;have hh':OAt Z2 H M q' p n s:=hh;obtain⟨la,hM,⟨dx,ho⟩,hla⟩:=id hh';clear hM;have hm':LM ns z s l:=hm;have q2:∀H',Kp M H H'->OAt Z2 H' M q' p n s->Q (.str (lmin (lv s) l)) H':=q;clear q hm;ext;refine⟨dx,_,ho,by rfl,l.map V.str,SqL.of ha,by simpa using hl,λi=>[lv s (l.getD i Str.empty)],λi v hv H1 sm1=>?_,λv H1 sm1 hv=>?_⟩
 . rw[Ff]at hv
   cases hz:l[i]? with
   | none=>rw[hz]at hv;cases hv
   | some u=>
   rw[hz]at hv;cases hv;obtain⟨j,hj,_⟩:=hm'.i.v u (Fq hz);refine⟨p,n,M,s,u,rfl,(T2 Z2).dep (λm _ o=>sm1 m o) hh',j,hj,λt ht=>⟨Aa.new ht,?_⟩⟩;rw[A1];show _=some (HO.tup [V.int (lv s (l.getD i Str.empty))]);rw[Fd,hz];show _=some (HO.tup [V.int (lv s u)]);rw[Pq hj]
 . rw[J4e,Fa,Ff]at hv
   have hb:=Qn (λi=>lv s (l.getD i Str.empty)) (l.length - 1);have hl0:0 < l.length:=Hi.mpr hl
   have hlt:argBest (λi j=>decide (lv s (l.getD i Str.empty) < lv s (l.getD j Str.empty))) (l.length - 1) < l.length:=by omega
   have e:v=V.str (lmin (lv s) l):=by
    unfold lmin;rw[Fd,Fb hlt];rw[Fb hlt]at hv;exact(FG hv).symm
   rw[e];exact q2 _ (Kp.of sm1) ((T2 Z2).dep (λm _ o=>sm1 m o) hh')
variable (Z2c:Bn P w K mg base (CXF P w) 4 Z2 "choice" ["self","lying"] (B5 (T2 Z2) K))
include T in
theorem Z9e(F:Fun K "gone" "Rule.gone" Z50 f fd):Ai P w K mg base (CXF P w) 3 f fd ["self","name"] (Bi (T2 Z2)):=by
 have sc:A9 ["self","name"] ["self","name"] (A6 Z50):=by ext:3
 ext:2
 . exact n8 h_ λ_ _ _ _ _ _ _ _=>rfl
 refine x8 h_ λq' p n M s l ns z e_=>y6 e_ λe0 hh hm hl hns q=>?_;clear e_ h_;subst e0;refine⟨_,(@A4 _ _ _ Dm),?_⟩;walk_at "su";ext;exact q _ (Kp.of (Aa.refl _)) hh
variable (Z33:Bn P w K mg base (CXF P w) 3 Z2 "gone" ["self","name"] (Bi (T2 Z2)))
include T in
theorem Z9f(F:Fun K "came" "Rule.came" Z51 f fd):Ai P w K mg base (CXF P w) 1 f fd ["self","name"] (Bj (T2 Z2)):=by
 have sc:A9 ["self","name"] ["self","name"] (A6 Z51):=by ext:3
 ext:2
 . exact n8 h_ λ_ _ _ _ _ _ _ _=>rfl
 refine x8 h_ λq' p n M s l ns z e_=>y7 e_ λe0 hh hm hz hzl hns q=>?_;clear e_ h_;subst e0;refine⟨_,(@A4 _ _ _ Dm),?_⟩;walk_at "su";ext;exact q _ (Kp.of (Aa.refl _)) hh
variable (Z34:Bn P w K mg base (CXF P w) 1 Z2 "came" ["self","name"] (Bj (T2 Z2)))
include T in
theorem Z6t(F:Fun K "number_ask" "Ranked.number_ask" Z2b f fd):Ai P w K mg base (CXF P w) 1 f fd ["self","name"] (D4 Z3):=by
 have sc:A9 ["self","name"] ["self","name"] (A6 Z2b):=by ext:3
 ext:2
 . exact n6 h_ λ_ _ _ _ _ _=>rfl
 refine x6 h_ λq' p n M s z e_=>y4 e_ λe0 hh hl q=>?_;clear e_ h_;subst e0
 refine⟨_,(@A3 _ _ _ _ _ (Iw (pv 0) A8 Q0)
  (@A4 _ _ _ (Dd (Cg hr) (Ad (pv 0) rfl) (pv 1) (Ad (pv 0) rfl) rfl))),?_⟩
 ext:4;obtain⟨la,hM,⟨dx,ho⟩,hla⟩:=hh
 have hM2:M=[q',la]/\True:=⟨hM,trivial⟩
 clear hM
 have nq1:q'≠la:=λe=>by rw[e,hla]at ho;cases ho
 ext;refine⟨Z3,dx,_,ho,T.Z02,T.Z15,_,El,s.k,rfl,dx,_,ho,by rw[Qt];decide,?_⟩;have ho1:upd H q' (.ins Z3 dx (rf2 p n (s.k+1) la)) q'=some (.ins Z3 dx (rf2 p n (s.k+1) la)):=A1
 have hla1:upd H q' (.ins Z3 dx (rf2 p n (s.k+1) la)) la=some (.dK s.la):=by rw[A5 nq1.symm];exact hla
 have kp1:Kp M H (upd H q' (.ins Z3 dx (rf2 p n (s.k+1) la))):=(Kp.of (Aa.refl H)).upd (by rw[hM2.1];simp);rename_i rest hrest;show rest _ (upd H q' (.ins Z3 dx (rf2 p n (s.k+1) la)));generalize upd H q' (.ins Z3 dx (rf2 p n (s.k+1) la))=H1 at ho1 hla1 kp1 ⊢;have hlp:=Br s.la (Sum.inr z:Key) (V.int (s.k+1));subst hrest;ext;exact⟨Z3,dx,_,ho1,T.Z02,T.Z15,_,El,Z3,dx,_,ho1,T.Z02,T.Z25,_,Le,la,rfl,_,Ke.k (k:=Sum.inr z) hla1 (by omega),q _ (kp1.upd (by rw[hM2.1];simp)) ⟨la,hM2.1,⟨dx,by rw[A5 nq1];exact ho1⟩,A1⟩⟩
variable (Z17:Bn P w K mg base (CXF P w) 1 Z3 "number_ask" ["self","name"] (D4 Z3))
include T in
theorem Z7l(F:Fun K "last_of" "Ranked.last_of" Z0n f fd):Ai P w K mg base CX0 1 f fd ["self","name"] (D5 Z3):=by
 have sc:A9 ["self","name"] ["self","name"] (A6 Z0n):=by ext:3
 refine F.ok sc (λvs H Q E h_=>?_) (λcdv A outer s H vs Q E hr h_=>?_)
 . exact n7 h_ λ_ _ _ _ _ _ _=>rfl
 refine x7 h_ λq' p n M s z i e_=>y4 e_ λe0 hh hv q=>?_;clear e_ h_;subst e0;refine⟨_,(@A4 _ _ _ (@Af _ _ _ _ (Es (Cg hr) (Ad (pv 0) rfl) (pv 1) A8 ⟨rfl,rfl,rfl,rfl⟩))),?_⟩;ext:4;obtain⟨la,hM,⟨dx,ho⟩,hla⟩:=hh;clear hM;ext;exact⟨Z3,dx,_,ho,T.Z02,T.Z25,_,Le,la,rfl,.inl ⟨_,.inl hla⟩,some (.int i),by rw[<- hv];exact D8.k (k:=Sum.inr z) hla,q⟩
variable (Z1y:Io P w K mg base 1 Z3 "last_of" ["self","name"] (D5 Z3))
include T Z1y in
theorem Z9g(F:Fun K "rank" "Ranked.rank" Z1d f fd):Ai P w K mg base CX0 2 f fd ["self","name"] (D6 Z3):=by
 have sc:A9 ["self","name"] ["self","name"] (A6 Z1d):=by ext:3
 refine F.ok sc (λvs H Q E h_=>?_) (λcdv A outer s H vs Q E hr h_=>?_)
 . exact n7 h_ λ_ _ _ _ _ _ _=>rfl
 refine x7 h_ λq' p n M s z i e_=>y4 e_ λe0 hh hv q=>?_;clear e_ h_;subst e0;refine⟨_,(@A4 _ _ _ (@Af _ _ _ _ (Bh (A0 (B9 Z1y.toM T.Z02 hr (Ap J19) (pv 0) (A0 (pv 1) A2)) A2)))),?_⟩;ext:4;obtain⟨la,hM,⟨dx,ho⟩,hla⟩:=id hh;clear hM;ext;exact⟨dx,_,ho,by rfl,p,n,M,s,hh,i,hv,by omega,λt ht=>q t ht⟩
variable (Z35:Io P w K mg base 2 Z3 "rank" ["self","name"] (D6 Z3))
include T Z17 in
theorem Z8g(F:Fun K "asked" "Ranked.asked" Z44 f fd):Ai P w K mg base (CXF P w) 3 f fd ["self","name"] (Ba (T2 Z3)):=by
 have sc:A9 ["self","name"] ["self","name"] (A6 Z44):=by ext:3
 ext:2
 . exact n8 h_ λ_ _ _ _ _ _ _ _=>rfl
 refine x8 h_ λq' p n M s l ns z e_=>y6 e_ λe0 hh hi hz hns q=>?_;clear e_ h_;subst e0;refine⟨_,(@A4 _ _ _ (Al (B9 Z17 T.Z02 hr (Ap A7) (pv 0) (A0 (pv 1) A2)))),?_⟩;ext:4;have hh':OAt Z3 H M q' p n s:=hh;obtain⟨la,hM,⟨dx,ho⟩,hla⟩:=id hh';have hlen:=hi.a.len;ext;exact⟨dx,_,ho,by rfl,p,n,M,s,hh',by omega,λH1 kp1 h1=>q H1 kp1 h1⟩
variable (Z2p:Bn P w K mg base (CXF P w) 3 Z3 "asked" ["self","name"] (Ba (T2 Z3)))
include T Z35 in
theorem Z86(F:Fun K "choice" "Ranked.choice" Z3k f fd):Ai P w K mg base (CXF P w) 4 f fd ["self","lying"] (B5 (T2 Z3) K):=by
 have sc:A9 ["self","lying"] ["self","lying"] (A6 Z3k):=by ext:3
 ext:2
 . exact n9 h_ λ_ _ _ _ _ _ _ _ _=>rfl
 refine x9 h_ λq' p a n M s l ns z e_=>y10 e_ λe0 hh hm hl ha ham hns hll hcn q=>?_;clear e_ h_;subst e0;refine⟨_,(@A4 _ _ _ (@Af _ _ _ _ (Mx Z35 T.Z02 hr rfl T.Z6m (by first | rfl | decide+kernel) (A0 (pv 1) A2) (pv 0) rfl))),?_⟩;ext:4;have hh':OAt Z3 H M q' p n s:=hh;obtain⟨la,hM,⟨dx,ho⟩,hla⟩:=id hh';clear hM;have hm':LM ns z s l:=hm;have q2:∀H',Kp M H H'->OAt Z3 H' M q' p n s->Q (.str (lmin (lv s) l)) H':=q;clear q hm;ext;refine⟨dx,_,ho,by rfl,l.map V.str,SqL.of ha,by simpa using hl,λi=>[lv s (l.getD i Str.empty)],λi v hv H1 sm1=>?_,λv H1 sm1 hv=>?_⟩
 . rw[Ff]at hv
   cases hz:l[i]? with
   | none=>rw[hz]at hv;cases hv
   | some u=>
   rw[hz]at hv;cases hv;obtain⟨j,hj,_⟩:=hm'.i.v u (Fq hz);refine⟨p,n,M,s,u,rfl,(T2 Z3).dep (λm _ o=>sm1 m o) hh',j,hj,λt ht=>⟨Aa.new ht,?_⟩⟩;rw[A1];show _=some (HO.tup [V.int (lv s (l.getD i Str.empty))]);rw[Fd,hz];show _=some (HO.tup [V.int (lv s u)]);rw[Pq hj]
 . rw[J4e,Fa,Ff]at hv
   have hb:=Qn (λi=>lv s (l.getD i Str.empty)) (l.length - 1);have hl0:0 < l.length:=Hi.mpr hl
   have hlt:argBest (λi j=>decide (lv s (l.getD i Str.empty) < lv s (l.getD j Str.empty))) (l.length - 1) < l.length:=by omega
   have e:v=V.str (lmin (lv s) l):=by
    unfold lmin;rw[Fd,Fb hlt];rw[Fb hlt]at hv;exact(FG hv).symm
   rw[e];exact q2 _ (Kp.of sm1) ((T2 Z3).dep (λm _ o=>sm1 m o) hh')
variable (Z2d:Bn P w K mg base (CXF P w) 4 Z3 "choice" ["self","lying"] (B5 (T2 Z3) K))
include T in
theorem Z9h(F:Fun K "gone" "Rule.gone" Z52 f fd):Ai P w K mg base (CXF P w) 3 f fd ["self","name"] (Bi (T2 Z3)):=by
 have sc:A9 ["self","name"] ["self","name"] (A6 Z52):=by ext:3
 ext:2
 . exact n8 h_ λ_ _ _ _ _ _ _ _=>rfl
 refine x8 h_ λq' p n M s l ns z e_=>y6 e_ λe0 hh hm hl hns q=>?_;clear e_ h_;subst e0;refine⟨_,(@A4 _ _ _ Dm),?_⟩;walk_at "su";ext;exact q _ (Kp.of (Aa.refl _)) hh
variable (Z36:Bn P w K mg base (CXF P w) 3 Z3 "gone" ["self","name"] (Bi (T2 Z3)))
include T in
theorem Z9i(F:Fun K "came" "Rule.came" Z53 f fd):Ai P w K mg base (CXF P w) 1 f fd ["self","name"] (Bj (T2 Z3)):=by
 have sc:A9 ["self","name"] ["self","name"] (A6 Z53):=by ext:3
 ext:2
 . exact n8 h_ λ_ _ _ _ _ _ _ _=>rfl
 refine x8 h_ λq' p n M s l ns z e_=>y7 e_ λe0 hh hm hz hzl hns q=>?_;clear e_ h_;subst e0;refine⟨_,(@A4 _ _ _ Dm),?_⟩;walk_at "su";ext;exact q _ (Kp.of (Aa.refl _)) hh
variable (Z37:Bn P w K mg base (CXF P w) 1 Z3 "came" ["self","name"] (Bj (T2 Z3)))
include T in
theorem Z70(F:Fun K "number_ask" "Ranked.number_ask" Z2g f fd):Ai P w K mg base (CXF P w) 1 f fd ["self","name"] (Ek Z5):=by
 have sc:A9 ["self","name"] ["self","name"] (A6 Z2g):=by ext:3
 ext:2
 . exact n6 h_ λ_ _ _ _ _ _=>rfl
 refine x6 h_ λq' p n M s z e_=>y4 e_ λe0 hh hl q=>?_;clear e_ h_;subst e0
 refine⟨_,(@A3 _ _ _ _ _ (Iw (pv 0) A8 Q0)
  (@A4 _ _ _ (Dd (Cg hr) (Ad (pv 0) rfl) (pv 1) (Ad (pv 0) rfl) rfl))),?_⟩
 ext:4;obtain⟨la,pa,hM,d,⟨dx,ho⟩,hla,hpa⟩:=hh
 have hM2:M=[q',la,pa]/\True:=⟨hM,trivial⟩
 clear hM
 have nq1:q'≠la:=λe=>by rw[e,hla]at ho;cases ho
 have nq2:q'≠pa:=λe=>by rw[e,hpa]at ho;cases ho
 ext;refine⟨Z5,dx,_,ho,T.Z03,T.Z0s,_,Ip,s.k,rfl,dx,_,ho,by rw[J6d];decide,?_⟩;have ho1:upd H q' (.ins Z5 dx (rf1 p n (s.k+1) la pa)) q'=some (.ins Z5 dx (rf1 p n (s.k+1) la pa)):=A1
 have hla1:upd H q' (.ins Z5 dx (rf1 p n (s.k+1) la pa)) la=some (.dK s.la):=by rw[A5 nq1.symm];exact hla
 have hpa1:upd H q' (.ins Z5 dx (rf1 p n (s.k+1) la pa)) pa=some (.dK s.pu):=by rw[A5 nq2.symm];exact hpa
 have kp1:Kp M H (upd H q' (.ins Z5 dx (rf1 p n (s.k+1) la pa))):=(Kp.of (Aa.refl H)).upd (by rw[hM2.1];simp);rename_i rest hrest;show rest _ (upd H q' (.ins Z5 dx (rf1 p n (s.k+1) la pa)));generalize upd H q' (.ins Z5 dx (rf1 p n (s.k+1) la pa))=H1 at ho1 hla1 hpa1 kp1 ⊢;have hlp:=Br s.la (Sum.inr z:Key) (V.int (s.k+1));subst hrest;ext;exact⟨Z5,dx,_,ho1,T.Z03,T.Z0s,_,Ip,Z5,dx,_,ho1,T.Z03,T.Z3g,_,J4c,la,rfl,_,Ke.k (k:=Sum.inr z) hla1 (by omega),q _ (kp1.upd (by rw[hM2.1];simp)) ⟨la,pa,hM2.1,d,⟨dx,by rw[A5 nq1];exact ho1⟩,A1,by rw[A5 d.symm];exact hpa1⟩⟩
variable (Z1i:Bn P w K mg base (CXF P w) 1 Z5 "number_ask" ["self","name"] (Ek Z5))
include T in
theorem Za4(F:Fun K "rank" "First.rank" Z1r f fd):Ai P w K mg base CX0 1 f fd ["self","name"] (Ey Z5):=by
 have sc:A9 ["self","name"] ["self","name"] (A6 Z1r):=by ext:3
 refine F.ok sc (λvs H Q E h_=>?_) (λcdv A outer s H vs Q E hr h_=>?_)
 . exact n7 h_ λ_ _ _ _ _ _ _=>rfl
 refine x7 h_ λq' p n M s z i e_=>y4 e_ λe0 hh hv q=>?_;clear e_ h_;subst e0;refine⟨_,(@A4 _ _ _ (@Af _ _ _ _ (Bh (A0 (Es (Cg hr) (Ad (pv 0) rfl) (pv 1) A8 ⟨rfl,rfl,rfl,rfl⟩) A2)))),?_⟩;ext:4;obtain⟨la,pa,hM,d,⟨dx,ho⟩,hla,hpa⟩:=hh;clear hM;ext;exact⟨Z5,dx,_,ho,T.Z03,T.Z1l,_,Y2,pa,rfl,.inl ⟨_,.inl hpa⟩,some (.int i),by rw[<- hv];exact D8.k (k:=Sum.inr z) hpa,by omega,λt ht=>q t ht⟩
variable (Z3q:Io P w K mg base 1 Z5 "rank" ["self","name"] (Ey Z5))
include T Z1i in
theorem Z9j(F:Fun K "asked" "Ranked.asked" Z54 f fd):Ai P w K mg base (CXF P w) 3 f fd ["self","name"] (Ba (T1 Z5)):=by
 have sc:A9 ["self","name"] ["self","name"] (A6 Z54):=by ext:3
 ext:2
 . exact n8 h_ λ_ _ _ _ _ _ _ _=>rfl
 refine x8 h_ λq' p n M s l ns z e_=>y6 e_ λe0 hh hi hz hns q=>?_;clear e_ h_;subst e0;refine⟨_,(@A4 _ _ _ (Al (B9 Z1i T.Z03 hr (Ap A7) (pv 0) (A0 (pv 1) A2)))),?_⟩;ext:4;have hh':FAt Z5 H M q' p n s:=hh;obtain⟨la,pa,hM,d,⟨dx,ho⟩,hla,hpa⟩:=id hh';have hlen:=hi.a.len;ext;exact⟨dx,_,ho,by rfl,p,n,M,s,hh',by omega,λH1 kp1 h1=>q H1 kp1 h1⟩
variable (Z38:Bn P w K mg base (CXF P w) 3 Z5 "asked" ["self","name"] (Ba (T1 Z5)))
include T Z3q in
theorem Z8h(F:Fun K "choice" "Ranked.choice" Z45 f fd):Ai P w K mg base (CXF P w) 4 f fd ["self","lying"] (B5 (T1 Z5) K):=by
 have sc:A9 ["self","lying"] ["self","lying"] (A6 Z45):=by ext:3
 ext:2
 . exact n9 h_ λ_ _ _ _ _ _ _ _ _=>rfl
 refine x9 h_ λq' p a n M s l ns z e_=>y10 e_ λe0 hh hm hl ha ham hns hll hcn q=>?_;clear e_ h_;subst e0;refine⟨_,(@A4 _ _ _ (@Af _ _ _ _ (Mx Z3q T.Z03 hr rfl T.Z6m (by first | rfl | decide+kernel) (A0 (pv 1) A2) (pv 0) rfl))),?_⟩;ext:4;have hh':FAt Z5 H M q' p n s:=hh;obtain⟨la,pa,hM,d,⟨dx,ho⟩,hla,hpa⟩:=id hh';clear hM;have hm':FI ns s l (s.k - 1):=hm;have q2:∀H',Kp M H H'->FAt Z5 H' M q' p n s->Q (.str (l.headD Str.empty)) H':=q;clear q hm;ext;refine⟨dx,_,ho,by rfl,l.map V.str,SqL.of ha,by simpa using hl,λi=>[N22.pv s (l.getD i Str.empty)],λi v hv H1 sm1=>?_,λv H1 sm1 hv=>?_⟩
 . rw[Ff]at hv
   cases hz:l[i]? with
   | none=>rw[hz]at hv;cases hv
   | some u=>
   rw[hz]at hv;cases hv;obtain⟨j,hj,_⟩:=hm'.v u (Fq hz);refine⟨p,n,M,s,u,rfl,(T1 Z5).dep (λm _ o=>sm1 m o) hh',j,hj,λt ht=>⟨Aa.new ht,?_⟩⟩;rw[A1];show _=some (HO.tup [V.int (N22.pv s (l.getD i Str.empty))]);rw[Fd,hz];show _=some (HO.tup [V.int (N22.pv s u)]);rw[J4a hj]
 . have hb:argBest (btK λi=>[N22.pv s (l.getD i Str.empty)]) ((l.map V.str).length - 1)=0:=by
    rw[Fa];refine J0b (v:=λi=>N22.pv s (l.getD i Str.empty)) (λi _=>rfl) (λi hi=>?_);have hl0:0 < l.length:=Hi.mpr hl
    by_cases e:i=0
    . rw[e];exact R8 _
    . have:=(List.pairwise_iff_getElem.mp hm'.o) 0 i hl0 (by omega) (by omega)
      rw[Fd,Fd,Fb hl0,Fb (show i < l.length by omega)];exact Int.le_of_lt this
   rw[hb]at hv
   cases l with
   | nil=>exact absurd rfl hl
   | cons x r=>
    cases hv;exact q2 _ (Kp.of sm1) ((T1 Z5).dep (λm _ o=>sm1 m o) hh')
variable (Z2q:Bn P w K mg base (CXF P w) 4 Z5 "choice" ["self","lying"] (B5 (T1 Z5) K))
include T in
theorem Za5(F:Fun K "gone" "Rule.gone" Z5w f fd):Ai P w K mg base (CXF P w) 3 f fd ["self","name"] (Bi (T1 Z5)):=by
 have sc:A9 ["self","name"] ["self","name"] (A6 Z5w):=by ext:3
 ext:2
 . exact n8 h_ λ_ _ _ _ _ _ _ _=>rfl
 refine x8 h_ λq' p n M s l ns z e_=>y6 e_ λe0 hh hm hl hns q=>?_;clear e_ h_;subst e0;refine⟨_,(@A4 _ _ _ Dm),?_⟩;walk_at "su";ext;exact q _ (Kp.of (Aa.refl _)) hh
variable (Z3r:Bn P w K mg base (CXF P w) 3 Z5 "gone" ["self","name"] (Bi (T1 Z5)))
include T in
theorem Za6(F:Fun K "came" "First.came" Z5x f fd):Ai P w K mg base (CXF P w) 1 f fd ["self","name"] (Bj (T1 Z5)):=by
 have sc:A9 ["self","name"] ["self","name"] (A6 Z5x):=by ext:3
 ext:2
 . exact n8 h_ λ_ _ _ _ _ _ _ _=>rfl
 refine x8 h_ λq' p n M s l ns z e_=>y7 e_ λe0 hh hm hz hzl hns q=>?_;clear e_ h_;subst e0;refine⟨_,(@A4 _ _ _ (Dd (Cg hr) (Ad (pv 0) rfl) (pv 1) (Ad (pv 0) rfl) rfl)),?_⟩;ext:4;have hh':FAt Z5 H M q' p n s:=hh;obtain⟨la,pa,hM,d,⟨dx,ho⟩,hla,hpa⟩:=id hh'
 have hM2:M=[q',la,pa]/\True:=⟨hM,trivial⟩
 clear hM;have hlen:=hm.b.len
 have nq2:q'≠pa:=λe=>by rw[e,hpa]at ho;cases ho
 have q2:∀H',Kp M H H'->FAt Z5 H' M q' p n (M0 s z)->Q .non H':=q;clear q;have hlp:=Br s.pu (Sum.inr z:Key) (V.int s.k);ext;refine⟨Z5,dx,_,ho,T.Z03,T.Z0s,_,Ip,Z5,dx,_,ho,T.Z03,T.Z1l,_,Y2,pa,rfl,_,Ke.k (k:=Sum.inr z) hpa (by omega),q2 _ ((Kp.of (Aa.refl H)).upd (by rw[hM2.1];simp)) ⟨la,pa,hM2.1,d,⟨dx,by rw[A5 nq2];exact ho⟩,by rw[A5 d];exact hla,A1⟩⟩
variable (Z3s:Bn P w K mg base (CXF P w) 1 Z5 "came" ["self","name"] (Bj (T1 Z5)))
include T in
theorem Za7(F:Fun K "asked" "Hand.asked" Z5y f fd):Ai P w K mg base (CXF P w) 3 f fd ["self","name"] (Ba (T6 Z9)):=by
 have sc:A9 ["self","name"] ["self","name"] (A6 Z5y):=by ext:3
 ext:2
 . exact n8 h_ λ_ _ _ _ _ _ _ _=>rfl
 refine x8 h_ λq' p n M s l ns z e_=>y6 e_ λe0 hh hi hz hns q=>?_;clear e_ h_;subst e0
 refine⟨_,(@A4 _ _ _ (As (Am Dj (pv 1) (Ad (pv 0) rfl) (by with_unfolding_all rfl))
  (@A4 _ _ _ (Dd (Cg hr) (Ad (pv 0) rfl) (pv 1) Cw rfl))
  Aj)),?_⟩
 ext:4
 obtain⟨s,rfl⟩:∃s':H6,s=s':=⟨s,rfl⟩
 have hh':Oe Z9 H M q' p n s:=hh;obtain⟨od,md,hM,⟨dx,ho⟩,hl,hk⟩:=id hh';have nqo:q'≠od:=C0 ho hl (by intro z;cases z);have nqm:q'≠md:=C0 ho hk (by intro z;cases z);have nom:od≠md:=C0 hl hk (by intro z;cases z);subst hM;have hi':HI6 ns s l:=hi;have hlen:=hi'.k.len;have q2:∀H',Kp [q',od,md] H H'->Oe Z9 H' [q',od,md] q' p n (Om s z)->Q .non H':=q;clear q;ext;refine⟨Z9,dx,_,ho,T.Zy,T.Z0a,_,Dk,O5 (SqL.of hl) ⟨_,rfl,?_⟩⟩
 by_cases hz:z∈s.L
 . rw[if_pos (Fj hz)]
   have hlp:=Br s.k (Sum.inr z:Key) (V.bl true);refine⟨Z9,dx,_,ho,T.Zy,T.Z0t,_,Gq,md,rfl,_,Ke.k (k:=Sum.inr z) hk (by omega),?_⟩;exact q2 _ ((Kp.of (Aa.refl _)).upd (by simp)) (by rw[J6m hz];exact⟨od,md,rfl,⟨dx,by rw[A5 nqm];exact ho⟩,by rw[A5 nom];exact hl,A1⟩)
 . rw[if_neg (by simp[hz])]
   exact q2 H (.of (Aa.refl _)) (by rw[J4m hz];exact hh')
variable (Z3t:Bn P w K mg base (CXF P w) 3 Z9 "asked" ["self","name"] (Ba (T6 Z9)))
include T in
theorem Z9k(F:Fun K "choice" "Hand.choice" Z55 f fd):Ai P w K mg base (CXF P w) 4 f fd ["self","lying"] (B5 (T6 Z9) K):=by
 have sc:A9 ["self","lying","front"] ["self","lying"] (A6 Z55):=by ext:3
 ext:2
 . exact n9 h_ λ_ _ _ _ _ _ _ _ _=>rfl
 refine x9 h_ λq' p a n M s l ns z e_=>y10 e_ λe0 hh hm hl0 ha ham hns hll hcn q=>?_;clear e_ h_;subst e0
 refine⟨_,(@A3 _ _ _ _ _ (S0 Ds (Up (Q6 (Cg hr) (@Cf _ _ _ _ _ _ _ By (Ad (pv 0) rfl) A8 (λ_ _=>rfl)) (Ad (pv 0) rfl)))
  (@A3 _ _ _ _ _ (Az (i:=2) sc.nd rfl (Or.inl rfl) (Dx Fx PySem.F.slot_list_pop PySem.F.type_list_pop S8 (Ad (pv 0) rfl) (A0 A8 A2)))
  (@A3 _ _ _ _ _ (Al (Sd (Ad (pv 0) rfl) (pv 2) ⟨rfl,rfl,rfl,rfl⟩))
  (@A4 _ _ _ (Al (Dx Fx FS FR Cs (Ad (pv 0) rfl) (A0 (pv 2) A2)))))))
  (@A4 _ _ _ (@Af _ _ _ _ (@Cf _ _ _ _ _ _ _ By (Ad (pv 0) rfl) A8 (λ_ _=>rfl))))),?_⟩
 ext:4
 obtain⟨s,rfl⟩:∃s':H6,s=s':=⟨s,rfl⟩
 have hh':Oe Z9 H M q' p n s:=hh;obtain⟨od,md,hM,⟨dx,ho⟩,hl,hk⟩:=id hh';have nqo:q'≠od:=C0 ho hl (by intro z;cases z);have nqm:q'≠md:=C0 ho hk (by intro z;cases z);have nom:od≠md:=C0 hl hk (by intro z;cases z);subst hM;have hi':HI6 ns s l:=hm;have q2:∀H',Kp [q',od,md] H H'->Oe Z9 H' [q',od,md] q' p n (hpk s)->Q (.str ((hpk s).L.headD Str.empty)) H':=q;clear q hm;ext;rename_i rest hrest;refine W1 (m0:=s.k.length) (λm σ H5=>∃(s':H6) (v2:Option V),σ=[some (V.ref q'),some (V.ref a),v2]/\Kp [q',od,md] H H5/\H5 q'=some (.ins Z9 dx (hfl p od md n))/\H5 od=some (.lst (s'.L.map V.str))/\H5 md=some (.dK s'.k)/\HI6 ns s' l/\hpk s'=hpk s/\m=s'.k.length) ⟨s,none,rfl,Kp.of (Aa.refl _),ho,hl,hk,hi',rfl,rfl⟩ ?_;clear ho hl hk;rintro m' σ H5 ⟨⟨L',k'⟩,v2,rfl,kp5,ho,hl,hk,hi5,hf5,rfl⟩;have hpl:=hi5.p.length_eq
 cases L' with
 | nil=>exact absurd (Rj.mp (by simpa using hpl.symm)) hl0
 | cons f r=>
 simp only at ho hl hk hpl;ext;refine⟨Z9,dx,_,ho,T.Zy,T.Z0a,_,Dk,Ck (SqL.of hl) (v:=V.str f) (Ce (j:=0) rfl) ?_⟩;refine⟨Z9,dx,_,ho,T.Zy,T.Z0t,_,Gq,md,rfl,_,D8.k (k:=Sum.inr f) hk,?_⟩
 by_cases hfd:(B1 k' (Sum.inr f)).isSome=true
 . rw[if_pos hfd]
   clear hrest;refine⟨_,λσ' H7 h=>h,?_⟩;ext;refine⟨Z9,dx,_,ho,T.Zy,T.Z0a,_,Dk,.inl ⟨rfl,_,SqL.of hl⟩,od,rfl,_,hl,by decide,by decide,0,by simp[seqIndex?],V.str f,rfl,?_⟩;have kp6:Kp [q',od,md] H (upd H5 od (.lst (r.map V.str))):=kp5.upd (by simp);have ho6:upd H5 od (.lst (r.map V.str)) q'=_:=(A5 nqo).trans ho;have hl6:upd H5 od (.lst (r.map V.str)) od=some (.lst (r.map V.str)):=A1;have hk6:upd H5 od (.lst (r.map V.str)) md=_:=(A5 nom.symm).trans hk;rename_i rest2 hrest2;show rest2 _ (upd H5 od (.lst (r.map V.str)));generalize upd H5 od (.lst (r.map V.str))=H6 at ho6 hl6 hk6 kp6 ⊢;clear ho hl hk kp5;subst hrest2;ext;obtain⟨v,hv⟩:∃v,B1 k' (Sum.inr f)=some v:=Ho.mp hfd;refine⟨Z9,dx,_,ho6,T.Zy,T.Z0t,_,Gq,md,rfl,.inl ⟨_,.inl hk6⟩,k',hk6,Sum.inr f,rfl,v,hv,?_⟩;have kp7:Kp [q',od,md] H (upd H6 md (.dK (C7 k' (Sum.inr f)))):=kp6.upd (by simp);have ho7:upd H6 md (.dK (C7 k' (Sum.inr f))) q'=_:=(A5 nqm).trans ho6
   have hl7:upd H6 md (.dK (C7 k' (Sum.inr f))) od=_:=(A5 nom).trans hl6;have hk7:upd H6 md (.dK (C7 k' (Sum.inr f))) md=some (.dK (C7 k' (Sum.inr f))):=A1;generalize upd H6 md (.dK (C7 k' (Sum.inr f)))=H7 at ho7 hl7 hk7 kp7 ⊢;clear hk6 ho6 hl6 hv kp6;have hdl:=Od hfd;have hpg:=(J9t (r:=r) hfd).symm.trans hf5;clear hf5;ext:1;rw[List.length_cons]at hpl;have hp:(r++[f]).Perm (f::r):=HG ..;refine⟨Z9,dx,_,ho7,T.Zy,T.Z0a,_,Dk,.inl ⟨rfl,_,SqL.of hl7⟩,od,_,_,rfl,rfl,hl7,by rw[Fa];omega,(C7 k' (Sum.inr f)).length,hdl,kp7.upd (by simp),by rw[A5 nqo];exact ho7,⟨r++[f],C7 k' (Sum.inr f)⟩,by rw[A1,Fz];rfl,by rw[A5 nom.symm];exact hk7,⟨Bu.drop hi5.k,hp.trans hi5.p,hp.nodup_iff.mpr hi5.nd,λu hu=>hi5.s u (hp.mem_iff.mp hu)⟩,hpg,rfl⟩
 . rw[if_neg hfd]
   have hpe:hpk s=⟨f::r,k'⟩/\True:=⟨hf5.symm.trans (J6l hfd),trivial⟩
   clear hf5;subst hrest;ext;rw[hpe.1]at q2;exact⟨Z9,dx,_,ho,T.Zy,T.Z0a,_,Dk,Ck (SqL.of hl) (v:=V.str f) (Ce (j:=0) rfl) (q2 H5 kp5 ⟨od,md,rfl,⟨dx,ho⟩,hl,hk⟩)⟩
variable (Z39:Bn P w K mg base (CXF P w) 4 Z9 "choice" ["self","lying"] (B5 (T6 Z9) K))
include T in
theorem Zan(F:Fun K "gone" "Hand.gone" Z6d f fd):Ai P w K mg base (CXF P w) 3 f fd ["self","name"] (Bi (T6 Z9)):=by
 have sc:A9 ["self","name"] ["self","name"] (A6 Z6d):=by ext:3
 ext:2
 . exact n8 h_ λ_ _ _ _ _ _ _ _=>rfl
 refine x8 h_ λq' p n M s l ns z e_=>y6 e_ λe0 hh hm hl0 hns q=>?_;clear e_ h_;subst e0;refine⟨_,(@A4 _ _ _ (Al (Dx Fx HP HN K2 (Ad (pv 0) rfl) (A0 (pv 1) A2)))),?_⟩;walk_at "su";have hi':HI6 ns s l:=hm;have hi2:HI6 ns (hpk s) l:=Ue _ _ hi';have hpm:(hpk s).L.headD Str.empty∈(hpk s).L:=hi2.p.mem_iff.mpr ((Ar.i_pick (T6 Z9) (ns:=ns) (n:=n) (z:=z) hm hl0).1);have q2:∀H',Kp M H H'->Oe Z9 H' M q' p n ⟨(hpk s).L.erase ((hpk s).L.headD Str.empty),(hpk s).k⟩->Q .non H':=q;have hh0:Oe Z9 H M q' p n (hpk s):=hh;show _;rw[show ((T6 Z9).pick n s l).2=(hpk s).L.headD Str.empty from rfl];clear q hh hm;generalize (hpk s).L.headD Str.empty=y at hpm q2 ⊢;generalize hpk s=s at hh0 hpm q2 hi2;have hh:=hh0;have line:=E9
 obtain⟨s,rfl⟩:∃s':H6,s=s':=⟨s,rfl⟩
 have hh':Oe Z9 H M q' p n s:=hh;obtain⟨od,md,hM,⟨dx,ho⟩,hl,hk⟩:=id hh';have nqo:q'≠od:=C0 ho hl (by intro z;cases z);have nqm:q'≠md:=C0 ho hk (by intro z;cases z);have nom:od≠md:=C0 hl hk (by intro z;cases z);subst hM;ext;exact⟨Z9,dx,_,ho,T.Zy,T.Z0a,_,Dk,.inl ⟨rfl,_,SqL.of hl⟩,od,rfl,s.L,hl,hpm,q2 _ ((Kp.of (Aa.refl _)).upd (by simp)) ⟨od,md,rfl,⟨dx,by rw[A5 nqo];exact ho⟩,A1,by rw[A5 nom.symm];exact hk⟩⟩
variable (Z4f:Bn P w K mg base (CXF P w) 3 Z9 "gone" ["self","name"] (Bi (T6 Z9)))
include T in
theorem Zao(F:Fun K "came" "Hand.came" Z6e f fd):Ai P w K mg base (CXF P w) 1 f fd ["self","name"] (Bj (T6 Z9)):=by
 have sc:A9 ["self","name"] ["self","name"] (A6 Z6e):=by ext:3
 ext:2
 . exact n8 h_ λ_ _ _ _ _ _ _ _=>rfl
 refine x8 h_ λq' p n M s l ns z e_=>y7 e_ λe0 hh hm hz hzl hns q=>?_;clear e_ h_;subst e0
 refine⟨_,(@A3 _ _ _ _ _ (Al (Dx Fx FS FR Cs (Ad (pv 0) rfl) (A0 (pv 1) A2)))
  (@A4 _ _ _ (Dd (Cg hr) (Ad (pv 0) rfl) (pv 1) Cw rfl))),?_⟩
 ext:4
 obtain⟨s,rfl⟩:∃s':H6,s=s':=⟨s,rfl⟩
 have hh':Oe Z9 H M q' p n s:=hh;obtain⟨od,md,hM,⟨dx,ho⟩,hl,hk⟩:=id hh';have nqo:q'≠od:=C0 ho hl (by intro z;cases z);have nqm:q'≠md:=C0 ho hk (by intro z;cases z);have nom:od≠md:=C0 hl hk (by intro z;cases z);subst hM;have hi':HI6 ns s l:=hm;have hlen:=hi'.k.len;have hll:=N25.Qr hi'.nd hi'.s;have q2:∀H',Kp [q',od,md] H H'->Oe Z9 H' [q',od,md] q' p n ⟨s.L++[z],Cj s.k (Sum.inr z) (.bl true)⟩->Q .non H':=q;clear q;ext;refine⟨Z9,dx,_,ho,T.Zy,T.Z0a,_,Dk,.inl ⟨rfl,_,SqL.of hl⟩,od,_,_,rfl,rfl,hl,by rw[Fa];omega,?_⟩;rw[show s.L.map V.str++[V.str z]=(s.L++[z]).map V.str by rw[Fz];rfl];have kp1:Kp [q',od,md] H (upd H od (.lst ((s.L++[z]).map V.str))):=(Kp.of (Aa.refl H)).upd (by simp);have ho1:upd H od (.lst ((s.L++[z]).map V.str)) q'=_:=(A5 nqo).trans ho;have hl1:upd H od (.lst ((s.L++[z]).map V.str)) od=some (.lst ((s.L++[z]).map V.str)):=A1;have hk1:upd H od (.lst ((s.L++[z]).map V.str)) md=_:=(A5 nom.symm).trans hk
 generalize upd H od (.lst ((s.L++[z]).map V.str))=H1 at kp1 ho1 hl1 hk1 ⊢;have hlp:=Br s.k (Sum.inr z:Key) (V.bl true);ext:1;refine⟨Z9,dx,_,ho1,T.Zy,T.Z0t,_,Gq,md,rfl,_,Ke.k (k:=Sum.inr z) hk1 (by omega),?_⟩;exact q2 _ (kp1.upd (by simp)) ⟨od,md,rfl,⟨dx,by rw[A5 nqm];exact ho1⟩,by rw[A5 nom];exact hl1,A1⟩
variable (Z4g:Bn P w K mg base (CXF P w) 1 Z9 "came" ["self","name"] (Bj (T6 Z9)))
include T in
theorem Zfa(F:Fun K "move" "move" Zae f fd):Ai P w K mg base (CXF P w) 1 f fd ["name","start","end"] (K9):=by
 have sc:A9 ["name","start","end"] ["name","start","end"] (A6 Zae):=by ext:3
 ext:2
 . exact n5 h_ λ_ _ _ _ _=>rfl
 refine x5 h_ λz a b L N e_=>y6 e_ λe0 ha hz hb hn q=>?_;clear e_ h_;subst e0
 refine⟨_,(@A3 _ _ _ _ _ (Al (Dx Fx HP HN K2 (pv 1) (A0 (pv 0) A2)))
  (@A4 _ _ _ (Al (Dx Fx FS FR Cs (pv 2) (A0 (pv 0) A2))))),?_⟩
 ext:4;ext;refine⟨.inl ⟨rfl,_,SqL.of ha⟩,L,ha,hz,?_⟩;ext:1;rw[Fz]at q;exact⟨.inl ⟨rfl,_,SqL.of hb⟩,b,_,_,rfl,rfl,hb,by rw[Fa];omega,q⟩
variable (Z4s:Def P w K mg base (CXF P w) 1 "move" ["name","start","end"] (K9))
include T in
theorem Zca(F:Fun K "step_of" "step_of" Z77 f fd):Ai P w K mg base (CXF P w) 1 f fd ["other","own"] (Ka):=by
 have sc:A9 ["other","own"] ["other","own"] (A6 Z77):=by ext:3
 ext:2
 . exact n4 h_ λ_ _ _ _=>rfl
 refine x4 h_ λa b L N e_=>y6 e_ λe0 ha hb h0 hn q=>?_;clear e_ h_;subst e0;refine⟨_,(@A4 _ _ _ (@Af _ _ _ _ (Aw (Oo rfl) rfl T.Zab (by first | rfl | decide+kernel) (A0 A8 (A0 (Ak J1l (Aw B6 rfl T.Z1g FO (A0 (pv 0) A2)) (Aw B6 rfl T.Z1g FO (A0 (pv 1) A2))) A2))))),?_⟩;ext:4;ext;refine⟨_,.inl (SqL.of ha),_,.inl (SqL.of hb),by rw[Fa];omega,Hk (m:=1000) (by rw[Fa];omega) (by decide),?_⟩;rw[Fa,Fa];exact q
variable (Z4t:Def P w K mg base (CXF P w) 1 "step_of" ["other","own"] (Ka))
include T Z4t in
theorem Z7m(F:Fun K "take_back" "Rows.take_back" Z3c f fd):Ai P w K mg base (CXF P w) 2 f fd ["self","name"] (Kb Z1):=by
 have sc:A9 ["self","name"] ["self","name"] (A6 Z3c):=by ext:3
 ext:2
 . exact n9 h_ λ_ _ _ _ _ _ _ _ _=>rfl
 refine x9 h_ λq' p l1 l2 l3 l4 n s z e_=>y7 e_ λe0 hh hz hp hq hr_ q=>?_;clear e_ h_;subst e0
 refine⟨_,(@A4 _ _ _ (As (Am Dj (pv 1) (Ad (pv 0) rfl) (by with_unfolding_all rfl))
  (@A3 _ _ _ _ _ (Av (pv 0) (Aw (Yl rfl) rfl T.Z6m (by first | rfl | decide+kernel) (A0 (Ad (pv 0) rfl) (A0 (Ak Bo (Ad (pv 0) rfl) (Ae Z4t hr rfl A7 (A0 (Ad (pv 0) rfl) (A0 (Ad (pv 0) rfl) A2)))) A2))) rfl)
  (@A4 _ _ _ (Al (Dx Fx HP HN K2 (Ad (pv 0) rfl) (A0 (pv 1) A2)))))
  (@A3 _ _ _ _ _ (Av (pv 0) (Aw (Oo rfl) rfl T.Zab (by first | rfl | decide+kernel) (A0 A8 (A0 (Ak G7 (Ad (pv 0) rfl) (Ae Z4t hr rfl A7 (A0 (Ad (pv 0) rfl) (A0 (Ad (pv 0) rfl) A2)))) A2))) rfl)
  (@A4 _ _ _ (Al (Dx Fx HP HN K2 (Ad (pv 0) rfl) (A0 (pv 1) A2))))))),?_⟩
 ext:4;obtain⟨dx,ho⟩:=id hh.o
 have hr2:s.r=true/\True:=⟨hr_,trivial⟩
 clear hr_;ext;refine⟨Z1,dx,_,ho,T.Ze,T.Zw,_,M5,O5 (SqL.of hh.h3) ⟨_,rfl,?_⟩⟩
 by_cases hzp:z∈s.p
 . rw[if_pos (Fj hzp)]
   have hpos:=Hv hzp
   have e:rback n s z=⟨s.a,s.b,s.p.erase z,s.q,mn n (s.k+stp s.q.length s.p.length),true⟩:=by unfold rback;rw[if_pos hzp]
   rw[e]at q;clear e;ext;refine⟨Z1,dx,_,ho,T.Ze,T.Z0j,_,Kn,Z1,dx,_,ho,T.Ze,T.Z0p,_,M6,Z1,dx,_,ho,T.Ze,T.Zz,_,Oc,Z1,dx,_,ho,T.Ze,T.Zw,_,M5,l4,rfl,l3,rfl,s.q,hh.h4,s.p,hh.h3,hpos,hp,?_⟩;refine⟨s.k,rfl,n,rfl,Z1,dx,_,ho,T.Ze,T.Z0p,by rw[My];decide,?_⟩;have hh1:=hh.setO (k:=mn n (s.k+stp s.q.length s.p.length)) (r:=s.r) (dx:=dx);have kp1:Kp [q',l1,l2,l3,l4] H (upd H q' (.ins Z1 dx (rfd p l1 l2 l3 l4 n (mn n (s.k+stp s.q.length s.p.length)) s.r))):=(Kp.of (Aa.refl H)).upd (by simp);rename_i rest hrest;show rest _ (upd H q' (.ins Z1 dx (rfd p l1 l2 l3 l4 n (mn n (s.k+stp s.q.length s.p.length)) s.r)));generalize upd H q' (.ins Z1 dx (rfd p l1 l2 l3 l4 n (mn n (s.k+stp s.q.length s.p.length)) s.r))=H1 at hh1 kp1 ⊢;obtain⟨dx1,ho1⟩:=id hh1.o;subst hrest;ext;refine⟨Z1,dx1,_,ho1,T.Ze,T.Zw,_,M5,.inl ⟨rfl,_,SqL.of hh1.h3⟩,l3,rfl,s.p,hh1.h3,hzp,q _ (kp1.upd (by simp)) ?_⟩;have:=hh1.setP (L:=s.p.erase z)
   rw[hr2.1]at this;exact this
 . rw[if_neg (by simp[hzp])]
   have hzq:=hz.resolve_left hzp;have hpos:=Hv hzq
   have e:rback n s z=⟨s.a,s.b,s.p,s.q.erase z,mx (s.k - stp s.p.length s.q.length),true⟩:=by unfold rback;rw[if_neg hzp,if_pos hzq]
   rw[e]at q;clear e;ext;refine⟨Z1,dx,_,ho,T.Ze,T.Z0p,_,M6,Z1,dx,_,ho,T.Ze,T.Zw,_,M5,Z1,dx,_,ho,T.Ze,T.Zz,_,Oc,l3,rfl,l4,rfl,s.p,hh.h3,s.q,hh.h4,hpos,hq,?_⟩;refine⟨s.k,rfl,Z1,dx,_,ho,T.Ze,T.Z0p,by rw[My];decide,?_⟩;have hh1:=hh.setO (k:=mx (s.k - stp s.p.length s.q.length)) (r:=s.r) (dx:=dx);have kp1:Kp [q',l1,l2,l3,l4] H (upd H q' (.ins Z1 dx (rfd p l1 l2 l3 l4 n (mx (s.k - stp s.p.length s.q.length)) s.r))):=(Kp.of (Aa.refl H)).upd (by simp);rename_i rest hrest;show rest _ (upd H q' (.ins Z1 dx (rfd p l1 l2 l3 l4 n (mx (s.k - stp s.p.length s.q.length)) s.r)));generalize upd H q' (.ins Z1 dx (rfd p l1 l2 l3 l4 n (mx (s.k - stp s.p.length s.q.length)) s.r))=H1 at hh1 kp1 ⊢;obtain⟨dx1,ho1⟩:=id hh1.o;subst hrest;ext;refine⟨Z1,dx1,_,ho1,T.Ze,T.Zz,_,Oc,.inl ⟨rfl,_,SqL.of hh1.h4⟩,l4,rfl,s.q,hh1.h4,hzq,q _ (kp1.upd (by simp)) ?_⟩;have:=hh1.setQ (L:=s.q.erase z);rw[hr2.1]at this
   exact this
variable (Z1z:Bn P w K mg base (CXF P w) 2 Z1 "take_back" ["self","name"] (Kb Z1))
include T Z4s in
theorem Za8(F:Fun K "leave" "Rows.leave" Z5z f fd):Ai P w K mg base (CXF P w) 2 f fd ["self","name","row","past"] (Gs Z1):=by
 have sc:A9 ["self","name","row","past"] ["self","name","row","past"] (A6 Z5z):=by ext:3
 ext:2
 . exact n13 h_ λ_ _ _ _ _ _ _ _ _ _ _ _ _=>rfl
 refine x13 h_ λq' p l1 l2 l3 l4 a b n s z L N e_=>y8 e_ λe0 hh ha hz hb hab hn q=>?_;clear e_ h_;subst e0
 refine⟨_,(@A3 _ _ _ _ _ (Al (Ae Z4s hr rfl A7 (A0 (pv 1) (A0 (pv 2) (A0 (pv 3) A2)))))
  (@A4 _ _ _ (As (Am Nc (Aw B6 rfl T.Z1g FO (A0 (pv 3) A2)) (Ad (pv 0) rfl) (nomark _))
   (@A4 _ _ _ (Al (Dx Fx PySem.F.slot_list_pop PySem.F.type_list_pop S8 (pv 3) (A0 A8 A2))))
   Aj))),?_⟩
 ext:4;obtain⟨dx,ho⟩:=id hh.o
 have nqa:q'≠a:=λe=>by rw[e,ha]at ho;cases ho
 have nqb:q'≠b:=λe=>by rw[e,hb]at ho;cases ho
 ext;refine⟨L,ha,hz,N,by rw[A5 hab.symm];exact hb,hn,?_⟩;have hb2:upd (upd H a (.lst ((L.erase z).map V.str))) b (.lst ((N++[z]).map V.str)) b=some (.lst ((N++[z]).map V.str)):=A1
 have ho2:upd (upd H a (.lst ((L.erase z).map V.str))) b (.lst ((N++[z]).map V.str)) q'=some (.ins Z1 dx (rfd p l1 l2 l3 l4 n s.k s.r)):=by rw[A5 nqb,A5 nqa];exact ho
 have q2:((N++[z]).length:Int) > n->Q .non (upd (upd (upd H a (.lst ((L.erase z).map V.str))) b (.lst ((N++[z]).map V.str))) b (.lst (((N++[z]).map V.str).eraseIdx 0))):=λh=>by
  unfold rpush at q;rw[if_pos h]at q;rw[Iu];rw[List.eraseIdx_zero,<- List.map_tail,<- List.eraseIdx_zero];exact q
 have q3:¬((N++[z]).length:Int) > n->Q .non (upd (upd H a (.lst ((L.erase z).map V.str))) b (.lst ((N++[z]).map V.str))):=λh=>by
  unfold rpush at q;rw[if_neg h]at q;exact q
 clear q;generalize upd (upd H a (.lst ((L.erase z).map V.str))) b (.lst ((N++[z]).map V.str))=H1 at hb2 ho2 q2 q3 ⊢;ext:1;refine⟨_,.inl (SqL.of hb2),Z1,dx,_,ho2,T.Ze,T.Z0j,_,Kn,?_⟩;rw[Fa];refine⟨n,rfl,?_⟩
 by_cases hc:((N++[z]).length:Int) > n
 . rw[if_pos hc]
   cases hN:(N++[z]).map V.str with
   | nil=>exact absurd (congrArg List.length hN) (by simp)
   | cons u us=>
    have q4:=q2 hc;rw[hN]at q4;exact⟨.inl ⟨rfl,_,SqL.of hb2⟩,_,by rw[hN]at hb2;exact hb2,by decide,by decide,0,by simp[seqIndex?],u,rfl,q4⟩
 . rw[if_neg hc]
   exact q3 hc
variable (Z2i:Bn P w K mg base (CXF P w) 2 Z1 "leave" ["self","name","row","past"] (Gs Z1))
include T Z4s Z1z in
theorem Za9(F:Fun K "asked" "Rows.asked" Z60 f fd):Ai P w K mg base (CXF P w) 3 f fd ["self","name"] (Ba (T26 Z1)):=by
 have sc:A9 ["self","name"] ["self","name"] (A6 Z60):=by ext:3
 ext:2
 . exact n8 h_ λ_ _ _ _ _ _ _ _=>rfl
 refine x8 h_ λq' p n M s l ns z e_=>y6 e_ λe0 hh hi hz hns q=>?_;clear e_ h_;subst e0
 refine⟨_,(@A3 _ _ _ _ _ (Av (pv 0) (Ja5 (E1 Dj (pv 1) (Ad (pv 0) rfl) (by with_unfolding_all rfl)) (N9 (E1 Dj (pv 1) (Ad (pv 0) rfl) (by with_unfolding_all rfl)))) rfl)
  (@A4 _ _ _ (As (Am Dj (pv 1) (Ad (pv 0) rfl) (by with_unfolding_all rfl))
   (@A4 _ _ _ (Al (Ae Z4s hr rfl A7 (A0 (pv 1) (A0 (Ad (pv 0) rfl) (A0 (Ad (pv 0) rfl) A2))))))
   (@A4 _ _ _ (As (Am Dj (pv 1) (Ad (pv 0) rfl) (by with_unfolding_all rfl))
    (@A4 _ _ _ (Al (Ae Z4s hr rfl A7 (A0 (pv 1) (A0 (Ad (pv 0) rfl) (A0 (Ad (pv 0) rfl) A2))))))
    (@A4 _ _ _ (As (D9 (Ad (pv 0) rfl))
     (@A4 _ _ _ (Al (B9 Z1z T.Ze hr (Ap A7) (pv 0) (A0 (pv 1) A2))))
     Aj))))))),?_⟩
 ext:4;obtain⟨l1,l2,l3,l4,hM,hh⟩:RAt Z1 H M q' p n s:=hh;obtain⟨dx,ho⟩:=id hh.o
 have hM2:M=[q',l1,l2,l3,l4]/\True:=⟨hM,trivial⟩
 clear hM;ext;rename_i rest hrest
 have key:∀rb:Bool,rb=decide (z∈s.p\/z∈s.q)->rest [some (V.ref q'),some (V.str z)] (upd H q' (.ins Z1 dx (rfd p l1 l2 l3 l4 n s.k rb))):=by
  intro rb hrb;have hh1:=hh.setO (k:=s.k) (r:=rb) (dx:=dx);have kp1:Kp [q',l1,l2,l3,l4] H (upd H q' (.ins Z1 dx (rfd p l1 l2 l3 l4 n s.k rb))):=(Kp.of (Aa.refl H)).upd (by simp);generalize upd H q' (.ins Z1 dx (rfd p l1 l2 l3 l4 n s.k rb))=H1 at hh1 kp1 ⊢;subst hrb;obtain⟨dx1,ho1⟩:=id hh1.o;subst hrest;ext;refine⟨Z1,dx1,_,ho1,T.Ze,T.Z06,_,Df,O5 (SqL.of hh1.h1) ⟨_,rfl,?_⟩⟩;have q2:∀H',Kp M H H'->RAt Z1 H' M q' p n (rask n s z)->Q .non H':=q;have hln:=RI.lens hi
  by_cases hza:z∈s.a
  . rw[if_pos (Fj hza)]
    have e:rask n s z=⟨s.a.erase z,s.b++[z],s.p,s.q,s.k,decide (z∈s.p\/z∈s.q)⟩:=by unfold rask;rw[if_pos hza]
    rw[e]at q2;refine⟨Z1,dx1,_,ho1,T.Ze,T.Z06,_,Df,Z1,dx1,_,ho1,T.Ze,T.Z04,_,D7,l1,rfl,l2,rfl,s.a,hh1.h1,hza,s.b,by rw[A5 hh1.d12.symm];exact hh1.h2,by omega,q2 _ ?_ ⟨l1,l2,l3,l4,hM2.1,?_⟩⟩
    . rw[hM2.1]
      exact(kp1.upd (by simp)).upd (by simp)
    . exact(hh1.setA (L:=s.a.erase z)).setB (L:=s.b++[z])
  rw[if_neg (by simp[hza])];refine⟨Z1,dx1,_,ho1,T.Ze,T.Z04,_,D7,O5 (SqL.of hh1.h2) ⟨_,rfl,?_⟩⟩
  by_cases hzb:z∈s.b
  . rw[if_pos (Fj hzb)]
    have e:rask n s z=⟨s.a,s.b.erase z++[z],s.p,s.q,s.k,decide (z∈s.p\/z∈s.q)⟩:=by unfold rask;rw[if_neg hza,if_pos hzb]
    rw[e]at q2;refine⟨Z1,dx1,_,ho1,T.Ze,T.Z04,_,D7,Z1,dx1,_,ho1,T.Ze,T.Z04,_,D7,l2,rfl,l2,rfl,s.b,hh1.h2,hzb,s.b.erase z,A1,by have:=R7 (a:=z) (l:=s.b);omega,q2 _ ?_ ⟨l1,l2,l3,l4,hM2.1,?_⟩⟩
    . rw[hM2.1]
      exact(kp1.upd (by simp)).upd (by simp)
    . exact(hh1.setB (L:=s.b.erase z)).setB (L:=s.b.erase z++[z])
  rw[if_neg (by simp[hzb])]
  have e:rask n s z=rback n s z:=by unfold rask;rw[if_neg hza,if_neg hzb]
  rw[e]at q2;clear e;refine⟨Z1,dx1,_,ho1,T.Ze,T.Z0l,_,Me,?_⟩;refine⟨decide (z∈s.p\/z∈s.q),rfl,?_⟩
  by_cases hpq:z∈s.p\/z∈s.q
  . rw[if_pos (Fj hpq)]
    refine⟨dx1,_,ho1,by rfl,p,l1,l2,l3,l4,n,_,hh1,hpq,(show s.p.length<=1000 by omega),(show s.q.length<=1000 by omega),Fj hpq,λH2 kp2 hh2=>q2 _ (by rw[hM2.1];exact kp1.trans kp2) ⟨l1,l2,l3,l4,hM2.1,hh2⟩⟩
  . rw[if_neg (by simp only[hpq,decide_false];decide)]
    have e:rback n s z=⟨s.a,s.b,s.p,s.q,s.k,false⟩:=by
     unfold rback;rw[if_neg (λh=>hpq (.inl h)),if_neg (λh=>hpq (.inr h))]
    rw[e]at q2;rw[Fs hpq]at hh1;exact q2 _ (by rw[hM2.1];exact kp1) ⟨l1,l2,l3,l4,hM2.1,hh1⟩
 clear hrest;refine⟨Z1,dx,_,ho,T.Ze,T.Zw,_,M5,O5 (SqL.of hh.h3) ⟨_,rfl,?_⟩⟩
 by_cases hzp:z∈s.p
 . rw[if_pos (Fj hzp)]
   exact⟨Z1,dx,_,ho,T.Ze,T.Z0l,by rw[My];decide,key true (by simp[hzp])⟩
 . rw[if_neg (by simp[hzp])]
   refine⟨Z1,dx,_,ho,T.Ze,T.Zz,_,Oc,O5 (SqL.of hh.h4) ?_⟩;exact⟨Z1,dx,_,ho,T.Ze,T.Z0l,by rw[My];decide,key _ (by simp[hzp])⟩
variable (Z3u:Bn P w K mg base (CXF P w) 3 Z1 "asked" ["self","name"] (Ba (T26 Z1)))
include T in
theorem Z9l(F:Fun K "choice" "Rows.choice" Z56 f fd):Ai P w K mg base (CXF P w) 4 f fd ["self","lying"] (B5 (T26 Z1) K):=by
 have sc:A9 ["self","lying"] ["self","lying"] (A6 Z56):=by ext:3
 ext:2
 . exact n9 h_ λ_ _ _ _ _ _ _ _ _=>rfl
 refine x9 h_ λq' p a n M s l ns z e_=>y10 e_ λe0 hh hm hl ha ham hns hll hcn q=>?_;clear e_ h_;subst e0
 refine⟨_,(@A3 _ _ _ _ _ (As (PW.pt (J8i (Am (Va hr) (Ad (pv 0) rfl) (@Bd _ _ _ _ A2) (nomark _)) (J51 (PW.pt (Qz (Am Nc (Aw B6 rfl T.Z1g FO (A0 (Ad (pv 0) rfl) A2)) (Ad (pv 0) rfl) (nomark _)) (N8 (Am (Qg hr) (Ad (pv 0) rfl) (@Bd _ _ _ _ A2) (nomark _))))))))
  (@A4 _ _ _ (@Af _ _ _ _ (@Cf _ _ _ _ _ _ _ By (Ad (pv 0) rfl) A8 (λ_ _=>rfl))))
  Aj)
  (@A4 _ _ _ (@Af _ _ _ _ (@Cf _ _ _ _ _ _ _ By (Ad (pv 0) rfl) A8 (λ_ _=>rfl))))),?_⟩
 ext:4;obtain⟨l1,l2,l3,l4,hM,hh'⟩:RAt Z1 H M q' p n s:=hh;obtain⟨dx,ho⟩:=id hh'.o
 have hM2:M=[q',l1,l2,l3,l4]/\True:=⟨hM,trivial⟩
 clear hM;have fin:∀Hx,Aa H Hx->Q (.str (rpick s)) Hx:=λHx sm=>q Hx (Kp.of sm) ⟨l1,l2,l3,l4,hM2.1,hh'.same sm⟩;have hpk:=hm.1.pick hl;clear q;ext;refine⟨Z1,dx,_,ho,T.Ze,T.Z06,_,Df,by omega,λp0 hp0=>⟨_,eq_nil (Aa.new hp0 _ _ hh'.h1) A1,?_⟩⟩;have sm1:Aa H (upd H p0 (.lst [])):=Aa.new hp0;generalize upd H p0 (.lst [])=H1 at sm1 ⊢;have hh1:=hh'.same sm1;have ho1:=sm1 _ _ ho;rename_i rest hrest
 have rb:∀Hx,Aa H Hx->¬(s.b=[]\/s.k < s.a.length)->rest [some (V.ref q'),some (V.ref a)] Hx:=by
  intro Hx smx hc;have hhx:=hh'.same smx;have hox:=smx _ _ ho;have hf:=fin Hx smx;rcases hpk with ⟨_,hc2,_⟩ | ⟨_,_,_,r,hr4⟩
  . exact absurd hc2 hc
  have hb2:=hhx.h2;rw[hr4]at hb2;subst hrest;ext;exact⟨Z1,dx,_,hox,T.Ze,T.Z04,_,D7,Ck (SqL.of hb2) (v:=V.str (rpick s)) (Ce (j:=0) rfl) hf⟩
 clear hrest
 by_cases hae:s.a=[]
 . rw[if_neg (by simp[hae])]
   refine rb _ sm1 (λhc=>?_);rcases hpk with ⟨_,hc2,r,hr4⟩ | ⟨_,_,hc2,_⟩
   . rw[hr4]at hae;cases hae
   . exact hc2 hc
 . rw[if_pos (by simp[hae])]
   refine⟨Z1,dx,_,ho1,T.Ze,T.Z06,_,Df,l1,rfl,_,.inl (SqL.of hh1.h1),Z1,dx,_,ho1,T.Ze,T.Z0p,_,M6,?_⟩;rw[Fa];refine⟨s.k,rfl,?_⟩
   have ra:∀Hx,Aa H Hx->(s.b=[]\/s.k < s.a.length)->∃r,s.a=rpick s::r:=λHx smx hc=>by
    rcases hpk with ⟨_,_,hr4⟩ | ⟨_,_,hc2,_⟩
    . exact hr4
    . exact absurd hc hc2
   have once:∀Hx,Aa H Hx->(s.b=[]\/s.k < s.a.length)->J8r K (V.ref l1) (V.int 0) Hx Q:=λHx smx hc=>by
    obtain⟨r,hr4⟩:=ra Hx smx hc;have hb1:=(hh'.same smx).h1;rw[hr4]at hb1;exact Ck (SqL.of hb1) (v:=V.str (rpick s)) (Ce (j:=0) rfl) (fin Hx smx)
   by_cases hlt:s.k < (s.a.length:Int)
   . rw[if_pos hlt]
     exact⟨Z1,dx,_,ho1,T.Ze,T.Z06,_,Df,once _ sm1 (.inr hlt)⟩
   . rw[if_neg hlt]
     refine⟨Z1,dx,_,ho1,T.Ze,T.Z04,_,D7,by omega,λp1 hp1=>⟨_,eq_nil (Aa.new hp1 _ _ hh1.h2) A1,?_⟩⟩;have sm2:Aa H (upd H1 p1 (.lst [])):=sm1.trans (Aa.new hp1);generalize upd H1 p1 (.lst [])=H2 at sm2 ⊢
     by_cases hbe:s.b=[]
     . rw[if_pos (Fj hbe)]
       exact⟨Z1,dx,_,sm2 _ _ ho,T.Ze,T.Z06,_,Df,once _ sm2 (.inl hbe)⟩
     . rw[if_neg (by simp[hbe])]
       exact rb _ sm2 (λhc=>hc.elim hbe hlt)
variable (Z3a:Bn P w K mg base (CXF P w) 4 Z1 "choice" ["self","lying"] (B5 (T26 Z1) K))
include T Z2i in
theorem Zap(F:Fun K "gone" "Rows.gone" Z6f f fd):Ai P w K mg base (CXF P w) 3 f fd ["self","name"] (Bi (T26 Z1)):=by
 have sc:A9 ["self","name"] ["self","name"] (A6 Z6f):=by ext:3
 ext:2
 . exact n8 h_ λ_ _ _ _ _ _ _ _=>rfl
 refine x8 h_ λq' p n M s l ns z e_=>y6 e_ λe0 hh hm hl hns q=>?_;clear e_ h_;subst e0
 refine⟨_,(@A4 _ _ _ (As (Am Dj (pv 1) (Ad (pv 0) rfl) (by with_unfolding_all rfl))
  (@A4 _ _ _ (Al (B9 Z2i T.Ze hr (Ap A7) (pv 0) (A0 (pv 1) (A0 (Ad (pv 0) rfl) (A0 (Ad (pv 0) rfl) A2))))))
  (@A4 _ _ _ (Al (B9 Z2i T.Ze hr (Ap A7) (pv 0) (A0 (pv 1) (A0 (Ad (pv 0) rfl) (A0 (Ad (pv 0) rfl) A2)))))))),?_⟩
 ext:4;obtain⟨l1,l2,l3,l4,hM,hh'⟩:RAt Z1 H M q' p n s:=hh;obtain⟨dx,ho⟩:=id hh'.o
 have hM2:M=[q',l1,l2,l3,l4]/\True:=⟨hM,trivial⟩
 clear hM;have hln:=hm.1.lens;have hpk:=hm.1.pick hl;have q2:∀H',Kp M H H'->RAt Z1 H' M q' p n (rgone n s (rpick s))->Q .non H':=q;clear q;show _;generalize hf:(Ar.pick (T26 Z1) n s l).2=f
 have hf2:rpick s=f/\True:=⟨hf,trivial⟩
 clear hf;rw[hf2.1]at q2 hpk;clear hf2;ext;refine⟨Z1,dx,_,ho,T.Ze,T.Z06,_,Df,O5 (SqL.of hh'.h1) ⟨_,rfl,?_⟩⟩
 by_cases hfa:f∈s.a
 . rw[if_pos (Fj hfa)]
   have e:rgone n s f=⟨s.a.erase f,s.b,rpush n s.p f,s.q,s.k,s.r⟩:=by unfold rgone;rw[if_pos hfa]
   rw[e]at q2;refine⟨dx,_,ho,by rfl,Z1,dx,_,ho,T.Ze,T.Z06,_,Df,Z1,dx,_,ho,T.Ze,T.Zw,_,M5,?_⟩;refine⟨p,l1,l2,l3,l4,l1,rfl,l3,rfl,n,s,hh',s.a,hh'.h1,hfa,s.p,hh'.h3,hh'.d13,by omega,q2 _ (((Kp.of (Aa.refl H)).upd (by rw[hM2.1];simp)).upd (by rw[hM2.1];simp)) ⟨l1,l2,l3,l4,hM2.1,?_⟩⟩;exact(hh'.setA (L:=s.a.erase f)).setP (L:=rpush n s.p f)
 . rw[if_neg (by simp[hfa])]
   have hfb:f∈s.b:=by
    rcases hpk with ⟨a,_⟩ | ⟨a,_⟩
    . exact absurd a hfa
    . exact a
   have e:rgone n s f=⟨s.a,s.b.erase f,s.p,rpush n s.q f,s.k,s.r⟩:=by unfold rgone;rw[if_neg hfa]
   rw[e]at q2;refine⟨dx,_,ho,by rfl,Z1,dx,_,ho,T.Ze,T.Z04,_,D7,Z1,dx,_,ho,T.Ze,T.Zz,_,Oc,?_⟩;refine⟨p,l1,l2,l3,l4,l2,rfl,l4,rfl,n,s,hh',s.b,hh'.h2,hfb,s.q,hh'.h4,hh'.d24,by omega,q2 _ (((Kp.of (Aa.refl H)).upd (by rw[hM2.1];simp)).upd (by rw[hM2.1];simp)) ⟨l1,l2,l3,l4,hM2.1,?_⟩⟩;exact(hh'.setB (L:=s.b.erase f)).setQ (L:=rpush n s.q f)
variable (Z4h:Bn P w K mg base (CXF P w) 3 Z1 "gone" ["self","name"] (Bi (T26 Z1)))
include T in
theorem Zaq(F:Fun K "came" "Rows.came" Z6g f fd):Ai P w K mg base (CXF P w) 1 f fd ["self","name"] (Bj (T26 Z1)):=by
 have sc:A9 ["self","name"] ["self","name"] (A6 Z6g):=by ext:3
 ext:2
 . exact n8 h_ λ_ _ _ _ _ _ _ _=>rfl
 refine x8 h_ λq' p n M s l ns z e_=>y7 e_ λe0 hh hm hz hzl hns q=>?_;clear e_ h_;subst e0
 refine⟨_,(@A4 _ _ _ (As (D9 (Ad (pv 0) rfl))
  (@A4 _ _ _ (Al (Dx Fx FS FR Cs (Ad (pv 0) rfl) (A0 (pv 1) A2))))
  (@A4 _ _ _ (Al (Dx Fx FS FR Cs (Ad (pv 0) rfl) (A0 (pv 1) A2)))))),?_⟩
 ext:4;obtain⟨l1,l2,l3,l4,hM,hh'⟩:RAt Z1 H M q' p n s:=hh;obtain⟨dx,ho⟩:=id hh'.o
 have hM2:M=[q',l1,l2,l3,l4]/\True:=⟨hM,trivial⟩
 clear hM;have hln:=hm.1.lens;have q2:∀H',Kp M H H'->RAt Z1 H' M q' p n (rcame s z)->Q .non H':=q;clear q;ext;refine⟨Z1,dx,_,ho,T.Ze,T.Z0l,_,Me,_,rfl,?_⟩
 cases hsr:s.r with
 | true=>
  have e:rcame s z=⟨s.a,s.b++[z],s.p,s.q,s.k,s.r⟩:=by unfold rcame;rw[if_pos hsr]
  rw[e]at q2;rw[if_pos rfl];have hset:=hh'.setB (L:=s.b++[z]);rw[Fz]at hset;exact⟨Z1,dx,_,ho,T.Ze,T.Z04,_,D7,.inl ⟨rfl,_,SqL.of hh'.h2⟩,l2,_,_,rfl,rfl,hh'.h2,by rw[Fa];omega,q2 _ ((Kp.of (Aa.refl H)).upd (by rw[hM2.1];simp)) ⟨l1,l2,l3,l4,hM2.1,hset⟩⟩
 | false=>
  have e:rcame s z=⟨s.a++[z],s.b,s.p,s.q,s.k,s.r⟩:=by unfold rcame;rw[if_neg (by rw[hsr];decide)]
  rw[e]at q2;rw[if_neg (by decide)];have hset:=hh'.setA (L:=s.a++[z]);rw[Fz]at hset;exact⟨Z1,dx,_,ho,T.Ze,T.Z06,_,Df,.inl ⟨rfl,_,SqL.of hh'.h1⟩,l1,_,_,rfl,rfl,hh'.h1,by rw[Fa];omega,q2 _ ((Kp.of (Aa.refl H)).upd (by rw[hM2.1];simp)) ⟨l1,l2,l3,l4,hM2.1,hset⟩⟩
variable (Z4i:Bn P w K mg base (CXF P w) 1 Z1 "came" ["self","name"] (Bj (T26 Z1)))
include T in
theorem Z87(F:Fun K "halve" "Halving.halve" Z3l f fd):Ai P w K mg base (CXF P w) 1 f fd ["self"] (Gr Z0):=by
 have sc:A9 ["self","name"] ["self"] (A6 Z3l):=by ext:3
 ext:2
 . exact n6 h_ λ_ _ _ _ _ _=>rfl
 refine x6 h_ λq' p n M s ns e_=>y5 e_ λe0 hh ht hns q=>?_;clear e_ h_;subst e0
 refine⟨_,(@A4 _ _ _ (Lp Ds rfl (Ko (Bv (Kl rfl) rfl T.Z1h (by first | rfl | decide+kernel) (A0 (Ad (pv 0) rfl) A2))) (Cr (i:=1) sc.nd rfl (Or.inl rfl))
  (@A4 _ _ _ (Dd (Cg hr) (Ad (pv 0) rfl) (pv 1) (Ak Cd (Vy (Cg hr) (Ad (pv 0) rfl) (pv 1) (λ_ _=>rfl)) A8) rfl)))),?_⟩
 ext:4;obtain⟨la,ta,hM,⟨dx,ho⟩,hla,hta,hne⟩:=hh
 have hM2:M=[q',la,ta]/\True:=⟨hM,trivial⟩
 clear hM
 have nq1:q'≠la:=λe=>by rw[e,hla]at ho;cases ho
 have nq2:q'≠ta:=λe=>by rw[e,hta]at ho;cases ho
 obtain⟨ks,hks,hin⟩:=ht.keys
 have hkl:s.ta.length=ks.length/\True:=⟨by have:=congrArg List.length hks;simpa using this,trivial⟩
 have hlen:=ht.k.len;ext;refine⟨Z0,dx,_,ho,T.Zh,T.Z00,_,E5,ta,rfl,_,hta,λl hl=>?_⟩;rw[J4h hks];have sml:Aa H (upd H l (.lst (ks.map V.str))):=Aa.new hl;have hll:upd H l (.lst (ks.map V.str)) l=some (.lst (ks.map V.str)):=A1;have ho1:=sml _ _ ho;have hla1:=sml _ _ hla;have hta1:=sml _ _ hta
 have nlt:l≠ta:=λe=>by rw[e,hta]at hl;cases hl
 generalize upd H l (.lst (ks.map V.str))=H1 at sml hll ho1 hla1 hta1 ⊢;refine⟨⟨_,SqL.of hll⟩,?_⟩;refine Wm (xs:=ks.map V.str) (λi σ H'=>∃(v1:Option V),σ=[some (V.ref q'),v1]/\Kp M H H'/\H' l=some (.lst (ks.map V.str))/\H' q'=some (.ins Z0 dx (rf4 p n s.b.k la s.e ta))/\H' la=some (.dK s.b.la)/\H' ta=some (.dK (hvi s.ta i))) ⟨none,rfl,Kp.of sml,hll,ho1,hla1,hta1⟩ (λi σ H' _ ⟨_,_,_,h,_⟩=>SqL.of h) ?_ ?_
 . rintro i v σ H' hu ⟨v1,rfl,kp,hL,hO,hLa,hTa⟩
   rw[Ff]at hu
   cases hz:ks[i]? with
   | none=>rw[hz]at hu;cases hu
   | some z=>
   rw[hz]at hu;cases hu
   have hkz:(s.ta.map (·.1))[i]?=some (Sum.inr z):=by rw[hks,Ff,hz];rfl
   have hval:=ht.at_ (Fq hkz) i
   have hsu:hvi s.ta (i+1)=Cj (hvi s.ta i) (Sum.inr z) (.int (tvK (hvi s.ta i) (Sum.inr z) / 2))/\True:=⟨U8 hkz,trivial⟩
   have hln:=(Vl ht i).1.k.len;clear hkz;have nqt:q'≠ta:=nq2;ext;refine⟨Z0,dx,_,hO,T.Zh,T.Z00,_,E5,ta,rfl,_,by rw[<- hval];exact D8.k (k:=Sum.inr z) hTa,_,rfl,Iy (by decide) (by decide),Z0,dx,_,hO,T.Zh,T.Z00,_,E5,ta,rfl,_,Ke.k (k:=Sum.inr z) hTa (by omega),kp.upd (by rw[hM2.1];simp),by rw[A5 nlt];exact hL,by rw[A5 nqt];exact hO,by rw[A5 hne];exact hLa,by rw[A1,hsu.1]⟩
 . rintro σ H' ⟨v1,rfl,kp,hL,hO,hLa,hTa⟩
   rw[Fa,<- hkl.1]at hTa;ext;exact q H' kp ⟨la,ta,hM2.1,⟨dx,hO⟩,hLa,hTa,hne⟩
variable (Z2e:Bn P w K mg base (CXF P w) 1 Z0 "halve" ["self"] (Gr Z0))
include T in
theorem Z6j(F:Fun K "number_ask" "Ranked.number_ask" Z1v f fd):Ai P w K mg base (CXF P w) 1 f fd ["self","name"] (Em Z0):=by
 have sc:A9 ["self","name"] ["self","name"] (A6 Z1v):=by ext:3
 ext:2
 . exact n6 h_ λ_ _ _ _ _ _=>rfl
 refine x6 h_ λq' p n M s z e_=>y4 e_ λe0 hh hl q=>?_;clear e_ h_;subst e0
 refine⟨_,(@A3 _ _ _ _ _ (Iw (pv 0) A8 Q0)
  (@A4 _ _ _ (Dd (Cg hr) (Ad (pv 0) rfl) (pv 1) (Ad (pv 0) rfl) rfl))),?_⟩
 ext:4;obtain⟨la,ta,hM,⟨dx,ho⟩,hla,hta,hne⟩:=hh
 have hM2:M=[q',la,ta]/\True:=⟨hM,trivial⟩
 clear hM
 have nq1:q'≠la:=λe=>by rw[e,hla]at ho;cases ho
 have nq2:q'≠ta:=λe=>by rw[e,hta]at ho;cases ho
 ext;refine⟨Z0,dx,_,ho,T.Zh,T.Z08,_,Iq,s.b.k,rfl,dx,_,ho,by rw[J6j];decide,?_⟩;have ho1:upd H q' (.ins Z0 dx (rf4 p n (s.b.k+1) la s.e ta)) q'=some (.ins Z0 dx (rf4 p n (s.b.k+1) la s.e ta)):=A1
 have hla1:upd H q' (.ins Z0 dx (rf4 p n (s.b.k+1) la s.e ta)) la=some (.dK s.b.la):=by rw[A5 nq1.symm];exact hla
 have hta1:upd H q' (.ins Z0 dx (rf4 p n (s.b.k+1) la s.e ta)) ta=some (.dK s.ta):=by rw[A5 nq2.symm];exact hta
 have kp1:Kp M H (upd H q' (.ins Z0 dx (rf4 p n (s.b.k+1) la s.e ta))):=(Kp.of (Aa.refl H)).upd (by rw[hM2.1];simp);rename_i rest hrest;show rest _ (upd H q' (.ins Z0 dx (rf4 p n (s.b.k+1) la s.e ta)));generalize upd H q' (.ins Z0 dx (rf4 p n (s.b.k+1) la s.e ta))=H1 at ho1 hla1 hta1 kp1 ⊢;have hlp:=Br s.b.la (Sum.inr z:Key) (V.int (s.b.k+1));subst hrest;ext;exact⟨Z0,dx,_,ho1,T.Zh,T.Z08,_,Iq,Z0,dx,_,ho1,T.Zh,T.Z10,_,U9,la,rfl,_,Ke.k (k:=Sum.inr z) hla1 (by omega),q _ (kp1.upd (by rw[hM2.1];simp)) ⟨la,ta,hM2.1,⟨dx,by rw[A5 nq1];exact ho1⟩,A1,by rw[A5 hne.symm];exact hta1,hne⟩⟩
variable (Z0v:Bn P w K mg base (CXF P w) 1 Z0 "number_ask" ["self","name"] (Em Z0))
include T in
theorem Z7b(F:Fun K "last_of" "Ranked.last_of" Z0h f fd):Ai P w K mg base CX0 1 f fd ["self","name"] (Ez Z0):=by
 have sc:A9 ["self","name"] ["self","name"] (A6 Z0h):=by ext:3
 refine F.ok sc (λvs H Q E h_=>?_) (λcdv A outer s H vs Q E hr h_=>?_)
 . exact n7 h_ λ_ _ _ _ _ _ _=>rfl
 refine x7 h_ λq' p n M s z i e_=>y4 e_ λe0 hh hv q=>?_;clear e_ h_;subst e0;refine⟨_,(@A4 _ _ _ (@Af _ _ _ _ (Es (Cg hr) (Ad (pv 0) rfl) (pv 1) A8 ⟨rfl,rfl,rfl,rfl⟩))),?_⟩;ext:4;obtain⟨la,ta,hM,⟨dx,ho⟩,hla,hta,hne⟩:=hh;clear hM;ext;exact⟨Z0,dx,_,ho,T.Zh,T.Z10,_,U9,la,rfl,.inl ⟨_,.inl hla⟩,some (.int i),by rw[<- hv];exact D8.k (k:=Sum.inr z) hla,q⟩
variable (Z1j:Io P w K mg base 1 Z0 "last_of" ["self","name"] (Ez Z0))
include T Z1j in
theorem Z8i(F:Fun K "rank" "Halving.rank" Z13 f fd):Ai P w K mg base CX0 2 f fd ["self","name"] (G0 Z0):=by
 have sc:A9 ["self","name"] ["self","name"] (A6 Z13):=by ext:3
 refine F.ok sc (λvs H Q E h_=>?_) (λcdv A outer s H vs Q E hr h_=>?_)
 . exact n6 h_ λ_ _ _ _ _ _=>rfl
 refine x6 h_ λq' p n M s z e_=>y5 e_ λe0 hh o8 o9 q=>?_;clear e_ h_;subst e0;obtain⟨i,hv⟩:=o8;obtain⟨j,hw⟩:=o9;refine⟨_,(@A4 _ _ _ (@Af _ _ _ _ (Bh (A0 (Es (Cg hr) (Ad (pv 0) rfl) (pv 1) A8 ⟨rfl,rfl,rfl,rfl⟩) (A0 (B9 Z1j.toM T.Zh hr (Ap J19) (pv 0) (A0 (pv 1) A2)) A2))))),?_⟩;ext:4;obtain⟨la,ta,hM,⟨dx,ho⟩,hla,hta,hne⟩:=id hh;clear hM;ext;refine⟨Z0,dx,_,ho,T.Zh,T.Z00,_,E5,ta,rfl,.inl ⟨_,.inl hta⟩,some (.int j),by rw[<- hw];exact D8.k (k:=Sum.inr z) hta,dx,_,ho,by rfl,p,n,M,s,hh,i,hv,by omega,λt ht'=>?_⟩;have hq:=q t ht';unfold rkH at hq;rw[Pq hv,J4f hw]at hq;exact hq
variable (Z2r:Io P w K mg base 2 Z0 "rank" ["self","name"] (G0 Z0))
include T Z2e Z0v in
theorem Z88(F:Fun K "asked" "Halving.asked" Z3m f fd):Ai P w K mg base (CXF P w) 3 f fd ["self","name"] (Ba (T4 Z0)):=by
 have sc:A9 ["self","name"] ["self","name"] (A6 Z3m):=by ext:3
 ext:2
 . exact n8 h_ λ_ _ _ _ _ _ _ _=>rfl
 refine x8 h_ λq' p n M s l ns z e_=>y6 e_ λe0 hh hi hz hns q=>?_;clear e_ h_;subst e0
 refine⟨_,(@A3 _ _ _ _ _ (As (Am Bg (Ak Bf (Ad (pv 0) rfl) (Ad (pv 0) rfl)) A8 (nomark _))
  (@A4 _ _ _ (Al (E3 Z2e T.Zh hr (Ap A7) (pv 0))))
  Aj)
  (@A3 _ _ _ _ _ (Al (B9 Z0v T.Zh hr (Ap A7) (pv 0) (A0 (pv 1) A2)))
  (@A4 _ _ _ (Dd (Cg hr) (Ad (pv 0) rfl) (pv 1) (Ak Bo (Es (Cg hr) (Ad (pv 0) rfl) (pv 1) A8 ⟨rfl,rfl,rfl,rfl⟩) A8) rfl)))),?_⟩
 ext:4;have hh':GAt Z0 H M q' p n s:=hh;obtain⟨la,ta,hM,⟨dx,ho⟩,hla,hta,hne⟩:=id hh'
 have hM2:M=[q',la,ta]/\True:=⟨hM,trivial⟩
 clear hM;have hlen:=hi.1.a.len;have hci:CI ns s l:=hi.2;have he1:=hci.e1;ext;refine⟨Z0,dx,_,ho,T.Zh,T.Z08,_,Iq,Z0,dx,_,ho,T.Zh,T.Z2l,_,J4j,s.b.k,rfl,s.e,rfl,by omega,?_⟩;rename_i rest hrest
 have key:∀H1,Kp M H H1->GAt Z0 H1 M q' p n ⟨s.b,tbl s.e s.b.k s.ta,s.e⟩->rest [some (V.ref q'),some (V.str z)] H1:=by
  intro H1 kp1 h1;have hti:=(J4i (e:=s.e) (k:=s.b.k) hci.t).1;have htl:=hti.k.len;obtain⟨la1,ta1,hM1,⟨dx1,ho1⟩,hla1,hta1,hne1⟩:=id h1;clear hM1 hla1 hta1 hne1;subst hrest;ext;refine⟨dx1,_,ho1,by rfl,p,n,M,_,h1,by show s.b.la.length<=1000;omega,λH2 kp2 h2=>?_⟩;obtain⟨la2,ta2,hM3,⟨dx2,ho2⟩,hla2,hta2,hne2⟩:=id h2
  have hM4:M=[q',la2,ta2]/\True:=⟨hM3,trivial⟩
  clear hM3;walk_at "rt"
  have nq2':q'≠ta2:=λe=>by rw[e,hta2]at ho2;cases ho2
  have hlp:=Br (tbl s.e s.b.k s.ta) (Sum.inr z:Key) (V.int (tvK (tbl s.e s.b.k s.ta) (Sum.inr z)+1));ext;exact⟨Z0,dx2,_,ho2,T.Zh,T.Z00,_,E5,ta2,rfl,.inl ⟨_,.inl hta2⟩,_,D8.k (k:=Sum.inr z) hta2,_,hti.get,Z0,dx2,_,ho2,T.Zh,T.Z00,_,E5,ta2,rfl,_,Ke.k (k:=Sum.inr z) hta2 (by show (tbl s.e s.b.k s.ta).length < _;omega),q _ ((kp1.trans kp2).upd (by rw[hM4.1];simp)) ⟨la2,ta2,hM4.1,⟨dx2,by rw[A5 nq2'];exact ho2⟩,by rw[A5 hne2];exact hla2,A1,hne2⟩⟩
 clear hrest
 by_cases hk:s.b.k % s.e=0
 . rw[if_pos hk]
   refine⟨dx,_,ho,by rfl,p,n,M,s,hh',ns,hci.t,by omega,λH1 kp1 h1=>key H1 kp1 ?_⟩;unfold tbl;rw[if_pos hk];exact h1
 . rw[if_neg hk]
   refine key H (Kp.of (Aa.refl H)) ?_;unfold tbl;rw[if_neg hk];exact hh'
variable (Z2f:Bn P w K mg base (CXF P w) 3 Z0 "asked" ["self","name"] (Ba (T4 Z0)))
include T Z2r in
theorem Z7n(F:Fun K "choice" "Ranked.choice" Z3d f fd):Ai P w K mg base (CXF P w) 4 f fd ["self","lying"] (B5 (T4 Z0) K):=by
 have sc:A9 ["self","lying"] ["self","lying"] (A6 Z3d):=by ext:3
 ext:2
 . exact n9 h_ λ_ _ _ _ _ _ _ _ _=>rfl
 refine x9 h_ λq' p a n M s l ns z e_=>y10 e_ λe0 hh hm hl ha ham hns hll hcn q=>?_;clear e_ h_;subst e0;refine⟨_,(@A4 _ _ _ (@Af _ _ _ _ (Mx Z2r T.Zh hr rfl T.Z6m (by first | rfl | decide+kernel) (A0 (pv 1) A2) (pv 0) rfl))),?_⟩;ext:4;have hh':GAt Z0 H M q' p n s:=hh;obtain⟨la,ta,hM,⟨dx,ho⟩,hla,hta,hne⟩:=id hh';clear hM;have hm':LM ns z s.b l:=hm.1;have hci:CI ns s l:=hm.2.1;have q2:∀H',Kp M H H'->GAt Z0 H' M q' p n s->Q (.str (hmin s l)) H':=q;clear q hm hcn;ext;refine⟨dx,_,ho,by rfl,l.map V.str,SqL.of ha,by simpa using hl,λi=>rkH s (l.getD i Str.empty),λi v hv H1 sm1=>?_,λv H1 sm1 hv=>?_⟩
 . rw[Ff]at hv
   cases hz:l[i]? with
   | none=>rw[hz]at hv;cases hv
   | some u=>
   rw[hz]at hv;cases hv;obtain⟨j,hj,_⟩:=hm'.i.v u (Fq hz);refine⟨p,n,M,s,u,rfl,(T4 Z0).dep (λm _ o=>sm1 m o) hh',⟨j,hj⟩,hci.v u (Fq hz),λt ht=>⟨Aa.new ht,?_⟩⟩;rw[A1];show _=some (HO.tup ((rkH s (l.getD i Str.empty)).map V.int));rw[Fd,hz];rfl
 . rw[Fa,Ff]at hv
   have hl0:0 < l.length:=Hi.mpr hl;have hb:=J87 (λi=>tvK s.ta (Sum.inr (l.getD i Str.empty))) (λi=>lv s.b (l.getD i Str.empty)) (l.length - 1);have hlt:argBest (btK λi=>rkH s (l.getD i Str.empty)) (l.length - 1) < l.length:=Hk hb.1 (by omega)
   have e:v=V.str (hmin s l):=by
    unfold hmin;rw[Fd,Fb hlt];rw[Fb hlt]at hv;exact(FG hv).symm
   rw[e];exact q2 _ (Kp.of sm1) ((T4 Z0).dep (λm _ o=>sm1 m o) hh')
variable (Z20:Bn P w K mg base (CXF P w) 4 Z0 "choice" ["self","lying"] (B5 (T4 Z0) K))
include T in
theorem Z8j(F:Fun K "gone" "Rule.gone" Z46 f fd):Ai P w K mg base (CXF P w) 3 f fd ["self","name"] (Bi (T4 Z0)):=by
 have sc:A9 ["self","name"] ["self","name"] (A6 Z46):=by ext:3
 ext:2
 . exact n8 h_ λ_ _ _ _ _ _ _ _=>rfl
 refine x8 h_ λq' p n M s l ns z e_=>y6 e_ λe0 hh hm hl hns q=>?_;clear e_ h_;subst e0;refine⟨_,(@A4 _ _ _ Dm),?_⟩;walk_at "su";ext;exact q _ (Kp.of (Aa.refl _)) hh
variable (Z2s:Bn P w K mg base (CXF P w) 3 Z0 "gone" ["self","name"] (Bi (T4 Z0)))
include T in
theorem Z8k(F:Fun K "came" "Rule.came" Z47 f fd):Ai P w K mg base (CXF P w) 1 f fd ["self","name"] (Bj (T4 Z0)):=by
 have sc:A9 ["self","name"] ["self","name"] (A6 Z47):=by ext:3
 ext:2
 . exact n8 h_ λ_ _ _ _ _ _ _ _=>rfl
 refine x8 h_ λq' p n M s l ns z e_=>y7 e_ λe0 hh hm hz hzl hns q=>?_;clear e_ h_;subst e0;refine⟨_,(@A4 _ _ _ Dm),?_⟩;walk_at "su";ext;exact q _ (Kp.of (Aa.refl _)) hh
variable (Z2t:Bn P w K mg base (CXF P w) 1 Z0 "came" ["self","name"] (Bj (T4 Z0)))
include T Z09 Z30 Z31 Z2c Z2d Z2q Z39 Z3a Z20 Z3o Z4d Z33 Z36 Z3r Z4f Z4h Z2s in
theorem Zar(F:Fun K "make_room" "make_room" Z6h f fd):Ai P w K mg base (CXF P w) 5 f fd ["rule","shelf","room"] (G2 (TV (CV.mk Zb Z2 Z3 Z5 Z9 Z1 Z0)) K Zd Zg):=by
 have sc:A9 ["rule","shelf","room","went","name"] ["rule","shelf","room"] (A6 Z6h):=by ext:3
 ext:2
 . (dsimp only[G2,Im]at h_;exact x1 h_ λ_ h_=>n12 h_ λ_ _ _ _ _ _ _ _ _ _ _ _=>rfl)
 dsimp only[G2,Im]at h_;refine x1 h_ λw8 h_=>x12 h_ λH0 q' p sh d M n need ts ls s z e_=>y8 e_ λe0 hr' hm hn hll htl hcn q=>?_;clear e_ h_;clear h_;subst e0
 refine⟨_,(@A3 _ _ _ _ _ (Az (i:=3) sc.nd rfl (Or.inl rfl) (@Bd _ _ _ _ A2))
  (@A3 _ _ _ _ _ (S0 Ds (Am J0u (E3 Z09 T.Zv hr (Ap A7) (pv 1)) (pv 2) (nomark _))
   (@A3 _ _ _ _ _ (Az (i:=4) sc.nd rfl (Or.inl rfl) (Lf (C:=λw=>(TV (CV.mk Zb Z2 Z3 Z5 Z9 Z1 Z0) w).C) (sp:=λw=>B5 (TV (CV.mk Zb Z2 Z3 Z5 Z9 Z1 Z0) w) K) (λw=>by cases w;exact Z31;exact Z2c;exact Z2d;exact Z2q;exact Z39;exact Z3a;exact Z20) (λw=>by cases w;exact T.Z3e;exact T.Z01;exact T.Z02;exact T.Z03;exact T.Zy;exact T.Ze;exact T.Zh) hr (Ap A7) (pv 0) (A0 (E3 Z30 T.Zv hr (Ap A7) (pv 1)) A2)))
   (@A3 _ _ _ _ _ (Al (B9 Z3o T.Zv hr (Ap A7) (pv 1) (A0 (pv 4) A2)))
   (@A3 _ _ _ _ _ (Al (Lf (C:=λw=>(TV (CV.mk Zb Z2 Z3 Z5 Z9 Z1 Z0) w).C) (sp:=λw=>Bi (TV (CV.mk Zb Z2 Z3 Z5 Z9 Z1 Z0) w)) (λw=>by cases w;exact Z4d;exact Z33;exact Z36;exact Z3r;exact Z4f;exact Z4h;exact Z2s) (λw=>by cases w;exact T.Z3e;exact T.Z01;exact T.Z02;exact T.Z03;exact T.Zy;exact T.Ze;exact T.Zh) hr (Ap A7) (pv 0) (A0 (pv 4) A2)))
   (@A4 _ _ _ (Al (Dx Fx FS FR Cs (pv 3) (A0 (pv 4) A2))))))))
  (@A4 _ _ _ (@Af _ _ _ _ (pv 3))))),?_⟩
 ext:4;ext;intro w hw;have kp0:Kp (d::M) H (upd H w (.lst [])):=Kp.of (Aa.new hw);have hr0:=hr'.same (Aa.new (o:= .lst []) hw);have hww:upd H w (.lst []) w=some (.lst []):=A1;have nw:=hr'.free hw;have nw0:H0 w=none:=B4 hr'.sm hw;have nwm:w∉M:=λh=>nw (Fk _ h);have nwd:w≠d:=λh=>nw (by rw[h];simp);generalize upd H w (.lst [])=H1 at kp0 hr0 hww ⊢;ext:1;rename_i rest hrest;refine W1 (m0:=ls.length) (λm σ H5=>∃(ls':Ly) (s':((TV (CV.mk Zb Z2 Z3 Z5 Z9 Z1 Z0) w8)).St) (wl:List Str) (v4:Option V),σ=[some (V.ref q'),some (V.ref sh),some (V.int need),some (V.ref w),v4]/\Kp (d::M) H H5/\H5 w=some (.lst (wl.map V.str))/\Dw (TV (CV.mk Zb Z2 Z3 Z5 Z9 Z1 Z0) w8) K Zd Zg H0 H5 q' p sh d M n ts ls' s'/\((TV (CV.mk Zb Z2 Z3 Z5 Z9 Z1 Z0) w8)).mid (ts.map (·.1)) n z s' (lyN ls')/\gf (TV (CV.mk Zb Z2 Z3 Z5 Z9 Z1 Z0) w8) (rm ts) n need s (lyN ls) []=gf (TV (CV.mk Zb Z2 Z3 Z5 Z9 Z1 Z0) w8) (rm ts) n need s' (lyN ls') wl/\wl.length+ls'.length<=60/\((TV (CV.mk Zb Z2 Z3 Z5 Z9 Z1 Z0) w8)).cnt s'<=300/\m=ls'.length) ⟨ls,s,[],none,rfl,kp0,hww,hr0,hm,rfl,by simpa using hll,hcn,rfl⟩ ?_
 clear hr' hr0 hww kp0 hm;rintro m' σ H5 ⟨ls',s',wl,v4,rfl,kp5,hw5,hr5,hm5,hf5,hl5,hcn5,rfl⟩;have hleft:=hr5.left;obtain⟨⟨dx,ho⟩,hd,hnd⟩:=id hr5.shf;ext;refine⟨dx,_,ho,by rfl,_,_,_,_,hr5.shf,λH6 sm6=>?_⟩;have hr6:=hr5.same sm6;have hw6:=sm6 _ _ hw5;have kp6:=kp5.trans (Kp.of sm6)
 by_cases hlt:need<=n - N41.sm (rm ts) (lyN ls')
 . rw[if_neg (by rw[hleft];omega)]
   have e1:gf (TV (CV.mk Zb Z2 Z3 Z5 Z9 Z1 Z0) w8) (rm ts) n need s (lyN ls) []=(s',lyN ls',wl)/\True:=⟨hf5.trans (Vk hlt),trivial⟩
   clear hf5;subst hrest;ext;exact q w ls' H6 kp6 hw (by rw[e1.1];exact hw6) (by rw[e1.1]) (by rw[e1.1];exact hr6)
 . rw[if_pos (by rw[hleft];omega)]
   clear hrest;refine⟨_,λσ' H7 h=>h,?_⟩;have hLne:lyN ls'≠[]:=λe=>hlt (by rw[e,N41.J3m];omega);obtain⟨⟨dx6,ho6⟩,hd6,hnd6⟩:=id hr6.shf;obtain⟨dq,fs,hoq,o1,o2,o3,hec,o4⟩:=Ar.obj _ hr6.h;clear hleft ho hd hnd hr5 hw5 kp5 sm6;ext;refine⟨w8,dq,_,hoq,hec,dx6,_,ho6,by rfl,_,_,_,_,hr6.shf,λl hl=>?_⟩;have sml:Aa H6 (upd H6 l (.lst ((lyN ls').map V.str))):=Aa.new hl;have hl7:upd H6 l (.lst ((lyN ls').map V.str)) l=some (.lst ((lyN ls').map V.str)):=A1;have nl:=hr6.free hl;have hr7:=hr6.same sml;have hw7:=sml _ _ hw6;have kp7:=kp6.trans (Kp.of sml);generalize upd H6 l (.lst ((lyN ls').map V.str))=H7 at hr7 hw7 kp7 hl7 ⊢;clear hr6 hw6 kp6 hoq ho6 hd6 hnd6 sml hl hec;obtain⟨hf,hm8⟩:=Ar.i_pick _ hm5 hLne;have hcn6:=FE (FE (Ar.c_gone (TV (CV.mk Zb Z2 Z3 Z5 Z9 Z1 Z0) w8) n (Ar.pick _ n s' (lyN ls')).1 (Ar.pick _ n s' (lyN ls')).2) (Ar.c_pick (TV (CV.mk Zb Z2 Z3 Z5 Z9 Z1 Z0) w8) n s' (lyN ls'))) hcn5
   have hlen:(lyN ls').length<=60:=by unfold lyN;rw[Fa];omega
   refine⟨p,n,M,s',hr7.h,lyN ls',ts.map (·.1),z,hm5,hLne,hl7,λh=>nl (Fk _ h),by rw[Fa];exact htl,hlen,hcn5,λH8 kp8 hh8=>?_⟩;have hr8:=hr7.rule kp8 hh8;have hw8:=kp8 _ _ nwm hw7;have kp08:=kp7.trans (Lb (d:=d) kp8)
   have hfin':gf (TV (CV.mk Zb Z2 Z3 Z5 Z9 Z1 Z0) w8) (rm ts) n need s (lyN ls) []=gf (TV (CV.mk Zb Z2 Z3 Z5 Z9 Z1 Z0) w8) (rm ts) n need (Ar.gone _ n (Ar.pick _ n s' (lyN ls')).1 (Ar.pick _ n s' (lyN ls')).2) ((lyN ls').erase (Ar.pick _ n s' (lyN ls')).2) (wl++[(Ar.pick _ n s' (lyN ls')).2])/\True:=⟨hf5.trans (J85 hlt hf),trivial⟩
   clear hf5 hr7 hw7 kp7 kp8 hh8 hl7;obtain⟨⟨dx8,ho8⟩,hd8,hnd8⟩:=id hr8.shf;ext:1;refine⟨dx8,_,ho8,by rfl,_,_,_,_,hr8.shf,hf,λH9 sb9 hs9=>?_⟩;have hr9:=hr8.shelf sb9 hs9 hr8.ok.drop;have hw9:=sb9 _ _ hw8 nwd;obtain⟨dq9,fs9,hoq9,o5,o6,o7,o8,heg,o9⟩:=Ar.obj _ hr9.h;have hnames:=Lw (z:=(Ar.pick _ n s' (lyN ls')).2) hr8.ok.nd;ext:1;refine⟨w8,dq9,_,hoq9,heg,p,n,M,s',lyN ls',rfl,hr9.h,ts.map (·.1),z,hm5,hLne,by rw[Fa];exact htl,λH10 kp10 hh10=>?_⟩;have hr10:=hr9.rule kp10 hh10;have hw10:=kp10 _ _ nwm hw9;have kp010:Kp (d::M) H H10:=(kp08.trans (Po sb9 (by simp))).trans (Lb kp10);clear hr8 hs9 hh10 sb9 kp10 hw8 hw9 kp08 hd8 hnd8 ho8 hoq9 hr9 heg;have hel:=HQ hf;have hlp:0 < (lyN ls').length:=Hv hf
   have hll5:(lyN ls').length=ls'.length/\True:=⟨by unfold lyN;rw[Fa],trivial⟩
   have hll6:(lyD ls' (Ar.pick _ n s' (lyN ls')).2).length+1<=ls'.length:=by
    have e:(lyN (lyD ls' (Ar.pick _ n s' (lyN ls')).2)).length=(lyD ls' (Ar.pick _ n s' (lyN ls')).2).length:=by unfold lyN;rw[Fa]
    rw[hnames]at e;omega
   rw[<- hnames]at hm8 hfin';ext:1;generalize hfe:(Ar.pick _ n s' (lyN ls')).2=f at hf hm8 hfin' hnames hel hr10 hll6 hcn6 ⊢
   have hwl:(wl++[f]).length=wl.length+1:=by rw[Fn];rfl
   refine⟨.inl ⟨rfl,_,SqL.of hw10⟩,w,_,_,rfl,rfl,hw10,by rw[Fa];omega,(lyD ls' f).length,by omega,J43 kp010 hw,lyD ls' f,_,wl++[f],by rw[A1,Fz];rfl,hr10.lst (λb o e nb=>by rw[A5 nb];exact e) hw10 nwm nw0,hm8,hfin'.1,by omega,hcn6,rfl⟩
variable (Z4j:Def P w K mg base (CXF P w) 5 "make_room" ["rule","shelf","room"] (G2 (TV (CV.mk Zb Z2 Z3 Z5 Z9 Z1 Z0)) K Zd Zg))
include T Z3p Z2o Z2p Z38 Z3t Z3u Z2f Z07 Zu Z4j Z4c Z4e Z34 Z37 Z3s Z4g Z4i Z2t in
theorem Zet(F:Fun K "row_of" "row_of" Z7w f fd):Ai P w K mg base (CXF P w) 7 f fd ["rule","shelf","name"] (Kc (TV (CV.mk Zb Z2 Z3 Z5 Z9 Z1 Z0)) K Zd Zg):=by
 have sc:A9 ["rule","shelf","name","went"] ["rule","shelf","name"] (A6 Z7w):=by ext:3
 ext:2
 . (dsimp only[Kc,Lc]at h_;exact x1 h_ λ_ h_=>n11 h_ λ_ _ _ _ _ _ _ _ _ _ _=>rfl)
 dsimp only[Kc,Lc]at h_;refine x1 h_ λw8 h_=>x11 h_ λH0 q' p sh d M n ts ls s z e_=>y9 e_ λe0 hr' hi nd htl hz hzn hcn q=>?_;clear e_ h_;clear h_;subst e0
 refine⟨_,(@A3 _ _ _ _ _ (Al (Lf (C:=λw=>(TV (CV.mk Zb Z2 Z3 Z5 Z9 Z1 Z0) w).C) (sp:=λw=>Ba (TV (CV.mk Zb Z2 Z3 Z5 Z9 Z1 Z0) w)) (λw=>by cases w;exact Z3p;exact Z2o;exact Z2p;exact Z38;exact Z3t;exact Z3u;exact Z2f) (λw=>by cases w;exact T.Z3e;exact T.Z01;exact T.Z02;exact T.Z03;exact T.Zy;exact T.Ze;exact T.Zh) hr (Ap A7) (pv 0) (A0 (pv 2) A2)))
  (@A3 _ _ _ _ _ (As (D9 (B9 Z07 T.Zv hr (Ap A7) (pv 1) (A0 (pv 2) A2)))
   (@A4 _ _ _ (@Af _ _ _ _ (Bh (A0 (pv 2) (A0 Cw (A0 (@Bd _ _ _ _ A2) A2))))))
   Aj)
  (@A3 _ _ _ _ _ (Az (i:=3) sc.nd rfl (Or.inl rfl) (Ae Z4j hr rfl A7 (A0 (pv 0) (A0 (pv 1) (A0 (B9 Zu T.Z0c hr (Ap A7) (Ad (pv 1) rfl) (A0 (pv 2) A2)) A2)))))
  (@A3 _ _ _ _ _ (Al (B9 Z4c T.Zv hr (Ap A7) (pv 1) (A0 (pv 2) A2)))
  (@A3 _ _ _ _ _ (Al (Lf (C:=λw=>(TV (CV.mk Zb Z2 Z3 Z5 Z9 Z1 Z0) w).C) (sp:=λw=>Bj (TV (CV.mk Zb Z2 Z3 Z5 Z9 Z1 Z0) w)) (λw=>by cases w;exact Z4e;exact Z34;exact Z37;exact Z3s;exact Z4g;exact Z4i;exact Z2t) (λw=>by cases w;exact T.Z3e;exact T.Z01;exact T.Z02;exact T.Z03;exact T.Zy;exact T.Ze;exact T.Zh) hr (Ap A7) (pv 0) (A0 (pv 2) A2)))
  (@A4 _ _ _ (@Af _ _ _ _ (Bh (A0 (pv 2) (A0 Cw (A0 (pv 3) A2))))))))))),?_⟩
 ext:4;obtain⟨dq,fs,hoq,o1,o2,hea,o3⟩:=Ar.obj _ hr'.h;ext;refine⟨w8,dq,_,hoq,hea,p,n,M,s,hr'.h,lyN ls,ts.map (·.1),hi,hz,by rw[Fa];exact htl,λH1 kp1 hh1=>?_⟩;have hr1:=hr'.rule kp1 hh1;obtain⟨⟨dx,ho⟩,hd,hnd⟩:=id hr1.shf;have fresh:∀b,H1 b=none->H b=none:=λb e=>Mw kp1 (λhm=>hr1.free e (Fk _ hm)) e
 have hlsl:(lyN ls).length<=60:=by
  have:=N25.Qr hr1.ok.nd hr1.ok.s;rw[Fa]at this;omega
 clear hoq hea;ext:1;refine⟨dx,_,ho,by rfl,_,_,_,_,hr1.shf,?_⟩
 by_cases hzL:z∈lyN ls
 . have e:gask (TV (CV.mk Zb Z2 Z3 Z5 Z9 Z1 Z0) w8) (rm ts) n (s,lyN ls) z=((Ar.asked _ n s z,lyN ls),(z,true,[])):=by unfold gask;rw[if_pos hzL]
   rw[if_pos hzL];rw[e]at q;refine⟨by omega,λg hg=>⟨by omega,λt ht=>?_⟩⟩;have s1:Aa H1 (upd H1 g (.lst [])):=Aa.new hg;have k1:upd H1 g (.lst []) g=some (.lst (([]:List Str).map V.str)):=A1;generalize upd H1 g (.lst [])=H2 at s1 k1 ht ⊢;have s2:Aa H2 (upd H2 t (.tup [V.str z,V.bl true,V.ref g])):=Aa.new ht;exact q t g ls _ (Lb (kp1.trans (Kp.of (s1.trans s2)))) (fresh t (B4 s1 ht)) (fresh g hg) A1 (s2 _ _ k1) rfl (hr1.same (s1.trans s2))
 rw[if_neg hzL]
 have eh:gask (TV (CV.mk Zb Z2 Z3 Z5 Z9 Z1 Z0) w8) (rm ts) n (s,lyN ls) z=((Ar.came _ n (gf (TV (CV.mk Zb Z2 Z3 Z5 Z9 Z1 Z0) w8) (rm ts) n (rm ts z) (Ar.asked _ n s z) (lyN ls) []).1 z,(gf (TV (CV.mk Zb Z2 Z3 Z5 Z9 Z1 Z0) w8) (rm ts) n (rm ts z) (Ar.asked _ n s z) (lyN ls) []).2.1++[z]),(z,false,(gf (TV (CV.mk Zb Z2 Z3 Z5 Z9 Z1 Z0) w8) (rm ts) n (rm ts z) (Ar.asked _ n s z) (lyN ls) []).2.2)):=by unfold gask;rw[if_neg hzL]
 rw[eh]at q;clear eh;have hm1:=Ar.i_mid _ hi hz hzL;obtain⟨hI,hne,hsub,hnd2,hwl⟩:=J44 (R:=rm ts) (n:=n) (need:=rm ts z) _ _ _ [] rfl hm1 hzn;obtain⟨dy,e,kvs,h1,h2,h3,h4,h5⟩:=Aq.has hr1.x.at;ext:1;refine⟨Zg,dx,_,ho,T.Zv,T.Z23,_,Pl,_,rfl,dy,flds e,h1,by rfl,_,rfl,ts,hr1.x.at,nd,hz,w8,H0,p,d,M,n,ts,ls,_,hr1,z,hm1,hzn,by unfold lyN at hlsl;rw[Fa]at hlsl;exact hlsl,htl,FE (Ar.c_ask (TV (CV.mk Zb Z2 Z3 Z5 Z9 Z1 Z0) w8) n s z) (by omega),λg ls2 H2 kp2 hg hg2 hln2 hr2=>?_⟩;obtain⟨⟨dx2,ho2⟩,hd2,hnd2'⟩:=id hr2.shf;have kp02:Kp (d::M) H H2:=(Lb kp1).trans kp2;have ngo:=hr1.free hg;have ngd:g≠d:=λh=>ngo (by rw[h];simp);have ngm:g∉M:=λh=>ngo (Fk _ h);have hnl:z∉lyN ls2:=λh=>hzL (hsub z (by rw[<- hln2];exact h))
 have hlen2:ls2.length<=60:=by
  have e1:(lyN ls2).length=ls2.length:=by unfold lyN;rw[Fa]
  rw[hln2]at e1;omega
 have hleft2:=hr2.left;rw[hln2]at hleft2;generalize gf (TV (CV.mk Zb Z2 Z3 Z5 Z9 Z1 Z0) w8) (rm ts) n (rm ts z) (Ar.asked _ n s z) (lyN ls) []=F at hr2 hg2 q hne hI hleft2 hln2;obtain⟨s2,l2,w2⟩:=F;simp only at hr2 hg2 q hne hI hleft2 hln2;clear hr1 hh1 kp1 h1 h2 h3 h4 h5 ho hd hnd hsub hnd2 hwl;ext:1;refine⟨dx2,_,ho2,by rfl,_,_,_,_,hr2.shf,ts,hr2.x,nd,by omega,hz,rm ts z,λt ht e=>?_,hnl,by omega,λH3 sb3 hs3=>?_⟩
 . obtain⟨i,hi'⟩:=List.getElem?_of_mem ht
   rw[<- e,Tv nd hi']
 have hr3:=hr2.shelf sb3 hs3 (hr2.ok.put hnl hz);obtain⟨dq3,fs3,hoq3,o4,o5,o6,o7,o8,hec,o9⟩:=Ar.obj _ hr3.h;have hg3:=sb3 _ _ hg2 ngd
 have hl3:lyN (ls2++[(z,rm ts z)])=l2++[z]/\True:=⟨by unfold lyN at hln2 ⊢;rw[Fz,hln2];rfl,trivial⟩
 rw[hln2]at hnl;ext:1;refine⟨w8,dq3,_,hoq3,hec,p,n,M,s2,hr3.h,l2,ts.map (·.1),hI,hz,hnl,by rw[Fa];exact htl,λH4 kp4 hh4=>?_⟩;have hr4:=hr3.rule kp4 hh4;have hg4:=kp4 _ _ ngm hg3;have kp04:Kp (d::M) H H4:=(kp02.trans (Po sb3 (by simp))).trans (Lb kp4);ext:1;intro t ht;exact q t g _ _ (kp04.trans (Kp.of (Aa.new ht))) (Mw kp04 (hr4.free ht) ht) (fresh g hg) A1 (Aa.new ht _ _ hg4) hl3.1 (hr4.same (Aa.new ht))
variable (Z21:Def P w K mg base (CXF P w) 7 "row_of" ["rule","shelf","name"] (Kc (TV (CV.mk Zb Z2 Z3 Z5 Z9 Z1 Z0)) K Zd Zg))
include T Zs Z0g Z21 in
theorem Zas(F:Fun K "book_of" "book_of" Z3f f fd):Ai P w K mg base (CXF P w) 8 f fd ["rule","asks"] (G3 (TV (CV.mk Zb Z2 Z3 Z5 Z9 Z1 Z0)) K Zd Zg):=by
 have sc:A9 ["rule","asks","shelf"] ["rule","asks"] (A6 Z3f):=by ext:3
 refine F.okF sc (λvs H Q E h=>?_) (λcdv A outer s H vs Q E hr h=>?_)
 . obtain⟨_,_,_,_,_,_,_,_,_,_,rfl,_⟩:=h;rfl
 obtain⟨w8,H0,q',p,a,M,n,ts,ys,s0,rfl,hh,hi0,hsto,sm0,hm0,nd,htl,ha,ham,hlen,hin,hrm,hn1,hn2,hcn,q⟩:=h;replace Zs:=Zs.weaker λ_ _ _ _=>Yb
 refine⟨_,(@A3 _ _ _ _ _ (Al (Ae Zs hr rfl A7 (A0 (Ad (pv 0) rfl) (A0 (pv 1) (A0 (Ad (pv 0) rfl) A2)))))
  (@A3 _ _ _ _ _ (Az (i:=2) sc.nd rfl (Or.inr rfl) (B0 Z0g hr rfl (Ap A7) (A0 (Ad (pv 0) rfl) (A0 (Ad (pv 0) rfl) A2))))
  (@A4 _ _ _ (@Af _ _ _ _ (Ia "name" [0,2] rfl rfl (Ko (pv 1)) (λb=>(Ae Z21 hr rfl D2 (A0 (pv 1) (A0 (pv 2) (A0 (pv 0) A2)))))))))),?_⟩
 ext:4
 have hcl:∀w,Cls K (TV (CV.mk Zb Z2 Z3 Z5 Z9 Z1 Z0) w).C:=λw=>by cases w;exact T.Z3e;exact T.Z01;exact T.Z02;exact T.Z03;exact T.Zy;exact T.Ze;exact T.Zh
 have hns:∀w,An K (TV (CV.mk Zb Z2 Z3 Z5 Z9 Z1 Z0) w).C "stock":=λw=>by cases w;exact T.Z1k;exact T.Z0x;exact T.Z0y;exact T.Z19;exact T.Z1m;exact T.Z1n;exact T.Z0f
 have hnp:∀w,An K (TV (CV.mk Zb Z2 Z3 Z5 Z9 Z1 Z0) w).C "places":=λw=>by cases w;exact T.Z18;exact T.Z0q;exact T.Z0r;exact T.Z0z;exact T.Z1a;exact T.Z0j;exact T.Z0d
 obtain⟨dq,fs,hoq,hst_,hpl_,o1⟩:=Ar.obj _ hh;ext;refine⟨_,dq,_,hoq,hcl w8,hns w8,_,hst_,_,dq,_,hoq,hcl w8,hnp w8,_,hpl_,p,rfl,n,rfl,ts,hsto.same sm0,nd,ys,ha,hlen,hin,hrm,hn1,hn2,λH1 sm1=>?_⟩;have hh1:=Ej sm1 hh;have ha1:=sm1.seq ha;obtain⟨dq1,fs1,hoq1,hst1,hpl1,o2⟩:=Ar.obj _ hh1;clear hoq hst_ hpl_;ext:1;refine⟨_,dq1,_,hoq1,hcl w8,hns w8,_,hst1,_,dq1,_,hoq1,hcl w8,hnp w8,_,hpl1,λsh dx hsh hdx hne=>⟨dx,p,rfl,n,rfl,A1,hn1,hn2,λH2 d sb hdn hs2=>?_⟩⟩;have sm2:=J3r hsh hdx sb;have hd0:=C4 hdn;have hd1:H0 d=none:=B4 (sm0.trans sm1) hd0;have nsh:sh∉M:=λh=>Ar.live _ hh1 _ h hsh;have ndm:d∉M:=λh=>Ar.live _ hh1 _ h hd0
 have hr2:Dw (TV (CV.mk Zb Z2 Z3 Z5 Z9 Z1 Z0) w8) K Zd Zg H0 H2 q' p sh d M n ts [] s0:=⟨Ej sm2 hh1,hs2,hsto,(sm0.trans sm1).trans sm2,hm0,hd1,nsh,ndm,OkL.nil⟩
 have ha2:=sm2.seq ha1;clear hdn sb hdx hsh hne hh1 hoq1 hs2 hst1 hpl1;ext:1;refine⟨⟨_,ha2⟩,?_⟩
 have kpM:∀{H':Hp},Kp (d::M) H2 H'->Kp M H1 H':=λ{H'} k b o nb e=>k b o (λhm=>by
  rcases Ft.mp hm with e1 | e1
  . rw[e1,hd0]at e;cases e
  . exact nb e1) (sm2 _ _ e)
 refine Kw ys.length λb D hD=>⟨λi zs H'=>∃(as gs:List Addr) (ls':Ly),zs=as.map V.ref/\as.length=i/\gs.length=i/\i<=ys.length/\H' D=some (.lst zs)/\Kp (d::M) H2 H'/\lyN ls'=(gst (TV (CV.mk Zb Z2 Z3 Z5 Z9 Z1 Z0) w8) (rm ts) n s0 ys i).2/\Dw (TV (CV.mk Zb Z2 Z3 Z5 Z9 Z1 Z0) w8) K Zd Zg H0 H' q' p sh d M n ts ls' (gst (TV (CV.mk Zb Z2 Z3 Z5 Z9 Z1 Z0) w8) (rm ts) n s0 ys i).1/\gs.Nodup/\∀(j:Nat) a g,as[j]?=some a->gs[j]?=some g->a∉d::M/\g∉d::M/\a≠D/\g≠D/\H' a=some (.tup [.str (NR.grow (TV (CV.mk Zb Z2 Z3 Z5 Z9 Z1 Z0) w8) (rm ts) n s0 ys j).1,.bl (NR.grow (TV (CV.mk Zb Z2 Z3 Z5 Z9 Z1 Z0) w8) (rm ts) n s0 ys j).2.1,.ref g])/\H' g=some (.lst ((NR.grow (TV (CV.mk Zb Z2 Z3 Z5 Z9 Z1 Z0) w8) (rm ts) n s0 ys j).2.2.map V.str))/\H1 a=none/\H1 g=none,⟨[],[],[],rfl,rfl,rfl,FP _,A1,Kp.of (Aa.new hD),rfl,hr2.same (Aa.new hD),HY,by simp⟩,?_,?_,?_⟩
 . rintro i zs H' ⟨as,gs,ls',_,_,_,_,h,_⟩
   exact h
 . rintro zs H' ⟨as,gs,ls',rfl,e1,e2,_,hDD,kp,hln,hr3,hnd,hall⟩
   have ha3:=J49 ha1 (kpM kp) ham;refine⟨⟨_,ha3,by rw[Fa];exact Fg _⟩,?_⟩;have hrl:=J08 (T:=(TV (CV.mk Zb Z2 Z3 Z5 Z9 Z1 Z0) w8)) (R:=rm ts) (n:=n) (s0:=s0) (ys:=ys) (i:=ys.length)
   have hra:∀j,j < ys.length->(grows (TV (CV.mk Zb Z2 Z3 Z5 Z9 Z1 Z0) w8) (rm ts) n s0 ys ys.length)[j]?=some (NR.grow (TV (CV.mk Zb Z2 Z3 Z5 Z9 Z1 Z0) w8) (rm ts) n s0 ys j):=λj hj=>by unfold grows;rw[Ff,RC hj];rfl
   refine q D as gs H' ((Kp.of sm1).trans (kpM kp)) hDD (λi a hi=>?_) ⟨SqL.of hDD,by rw[e1,hrl],by rw[e2,hrl],λi a g r h1 h2 h3=>?_⟩ hr3.h (B4 sm1 (B4 sm2 hD)) (λhm=>?_) hnd (λi a g h1 h2=>?_)
   . have hil:i < as.length:=(Fh.mp hi).1
     obtain⟨_,_,_,_,k1,_⟩:=hall i a _ hi (Fb (show i < gs.length by omega));exact⟨_,k1⟩
   . have hil:i < as.length:=(Fh.mp h1).1
     obtain⟨_,_,_,_,k1,k2,_⟩:=hall i a g h1 h2;rw[hra i (by omega)]at h3;cases h3;exact⟨SqT.of k1,SqL.of k2⟩
   . obtain⟨j,hj⟩:=FL.mp hm
     have hjl:j < gs.length:=(Fh.mp hj).1;obtain⟨_,_,_,h4,_⟩:=hall j _ _ (Fb (show j < as.length by omega)) hj;exact h4 rfl
   . obtain⟨_,h2',_,_,k1,k2,z1,z2⟩:=hall i a g h1 h2
     exact⟨B4 sm1 z1,B4 sm1 z2,λhm=>h2' (Fk _ hm),k1,k2⟩
 . rintro i zs H' hi ⟨as,gs,ls',rfl,e1,e2,_,hDD,kp,hln,hr3,hnd,hall⟩
   have ha3:=J49 ha1 (kpM kp) ham;have hz:=Fb hi;generalize ys[i]'hi=z at hz;refine⟨⟨_,V.str z,ha3,by rw[Ff,hz];rfl⟩,λx H3 ⟨e3,ex⟩=>?_⟩;subst e3;have hx:=ex _ ha3;rw[Ff,hz]at hx;cases hx;have hsi:=Xz (R:=rm ts) hi0 hin hrm i (by omega);have hzm:=Fq hz;have e1':=Hu e1;have e1'':=Hu e1.symm;have e2':=Hu e2;have e2'':=Hu e2.symm;clear e1 e2;have hrowi:=J6c (T:=(TV (CV.mk Zb Z2 Z3 Z5 Z9 Z1 Z0) w8)) (R:=rm ts) (n:=n) (s0:=s0) hz;have hss:=O7 (T:=(TV (CV.mk Zb Z2 Z3 Z5 Z9 Z1 Z0) w8)) (R:=rm ts) (n:=n) (s0:=s0) hz
   have hpair:(gst (TV (CV.mk Zb Z2 Z3 Z5 Z9 Z1 Z0) w8) (rm ts) n s0 ys i)=((gst (TV (CV.mk Zb Z2 Z3 Z5 Z9 Z1 Z0) w8) (rm ts) n s0 ys i).1,lyN ls')/\True:=⟨by rw[hln],trivial⟩
   ext;refine⟨w8,H0,p,d,M,n,ts,ls',_,hr3,by rw[hln];exact hsi.i,nd,htl,hin z hzm,hrm z hzm,FE (Y0 i (by omega)) (by omega),λt g ls2 H4 kp4 ht hg ht4 hg4 hln4 hr4=>?_⟩;rw[<- hpair.1]at ht4 hg4 hln4 hr4;have hD3:D∉d::M:=hr2.free hD;have hDD4:=kp4 _ _ hD3 hDD
   have htD:t≠D:=λe=>by rw[e,hDD]at ht;cases ht
   have hgD:g≠D:=λe=>by rw[e,hDD]at hg;cases hg
   have ht1:H1 t=none:=Mw (kpM kp) (λhm=>hr3.free ht (Fk _ hm)) ht;have hg1:H1 g=none:=Mw (kpM kp) (λhm=>hr3.free hg (Fk _ hm)) hg
   have hndg:(gs++[g]).Nodup:=by
    rw[Hf];refine⟨hnd,by simp,λx hx y hy e=>?_⟩;obtain⟨j,hj⟩:=FL.mp hx;have hjl:j < gs.length:=(Fh.mp hj).1;obtain⟨_,_,_,_,_,k2,_⟩:=hall j _ _ (Fb (show j < as.length by omega)) hj;rw[e,Fo.mp hy,hg]at k2;cases k2
   refine Ib hDD4 (by rw[Fa];omega) hi ⟨as++[t],by rw[Fz];rfl,by rw[Fn];simp only[List.length_cons,List.length_nil];omega,gs++[g],by rw[Fn];simp only[List.length_cons,List.length_nil];omega,hi,A1,J43 (kp.trans kp4) hD,ls2,by rw[hss];exact hln4,?_,hndg,λj a' g' h1 h2=>?_⟩
   . rw[hss]
     exact hr4.lst (λb o e nb=>by rw[A5 nb];exact e) hDD4 (λh=>hD3 (Fk _ h)) (B4 hr2.sm hD)
   . rcases Qo h1 with ⟨l1,c1⟩ | ⟨l1,c1⟩
     . rcases Qo h2 with ⟨l2,c2⟩ | ⟨l2,c2⟩
       . obtain⟨n1,n2,n3,n4,k1,k2,z1,z2⟩:=hall j a' g' c1 c2
         refine⟨n1,n2,n3,n4,?_,?_,z1,z2⟩
         . rw[A5 n3];exact kp4 _ _ n1 k1
         . rw[A5 n4];exact kp4 _ _ n2 k2
       . omega
     . rcases Qo h2 with ⟨l2,c2⟩ | ⟨l2,c2⟩
       . omega
       . rw[c1,c2,show j=i by omega,hrowi]
         refine⟨hr3.free ht,hr3.free hg,htD,hgD,?_,?_,ht1,hg1⟩
         . rw[A5 htD];exact ht4
         . rw[A5 hgD];exact hg4
include T Zs Z0g Z21 in
theorem Zat(F:Fun K "book_of" "book_of" Z3f f fd):Ai P w K mg base (CXF P w) 8 f fd ["rule","asks"] (Um (CV.mk Zb Z2 Z3 Z5 Z9 Z1 Z0) (E4.mk Z4 Zc Z7 Z8) K Zd):=by
 have sc:A9 ["rule","asks","shelf"] ["rule","asks"] (A6 Z3f):=by ext:3
 refine F.okF sc (λvs H Q E h=>?_) (λcdv A outer s H vs Q E hr h=>?_)
 . obtain⟨_,_,_,_,_,_,_,_,_,_,rfl,_⟩:=h;rfl
 obtain⟨w8,q',p,a,M,n,s,ts,ys,r,rfl,hh,hs,nd,hS,hl,hr',tl⟩:=h
 refine⟨_,(@A3 _ _ _ _ _ (Al (Ae Zs hr rfl A7 (A0 (Ad (pv 0) rfl) (A0 (pv 1) (A0 (Ad (pv 0) rfl) A2)))))
  (@A3 _ _ _ _ _ (Az (i:=2) sc.nd rfl (Or.inr rfl) (B0 Z0g hr rfl (Ap A7) (A0 (Ad (pv 0) rfl) (A0 (Ad (pv 0) rfl) A2))))
  (@A4 _ _ _ (@Af _ _ _ _ (Ia "name" [0,2] rfl rfl (Ko (pv 1)) (λb=>(Ae Z21 hr rfl D2 (A0 (pv 1) (A0 (pv 2) (A0 (pv 0) A2)))))))))),?_⟩
 ext:4;obtain⟨dq,fs,hoq,hst_,hpl_,o1⟩:=Ar.obj _ hh
 have hcl:∀w,Cls K (TV (CV.mk Zb Z2 Z3 Z5 Z9 Z1 Z0) w).C:=λw=>by cases w;exact T.Z3e;exact T.Z01;exact T.Z02;exact T.Z03;exact T.Zy;exact T.Ze;exact T.Zh
 have hns:∀w,An K (TV (CV.mk Zb Z2 Z3 Z5 Z9 Z1 Z0) w).C "stock":=λw=>by cases w;exact T.Z1k;exact T.Z0x;exact T.Z0y;exact T.Z19;exact T.Z1m;exact T.Z1n;exact T.Z0f
 have hnp:∀w,An K (TV (CV.mk Zb Z2 Z3 Z5 Z9 Z1 Z0) w).C "places":=λw=>by cases w;exact T.Z18;exact T.Z0q;exact T.Z0r;exact T.Z0z;exact T.Z1a;exact T.Z0j;exact T.Z0d
 ext;exact⟨_,dq,_,hoq,hcl w8,hns w8,_,hst_,_,dq,_,hoq,hcl w8,hnp w8,_,hpl_,p,rfl,ts,hs,nd,ys,hS,hl,N53.Ec.flat rfl,Ul hr' tl⟩
include T Zs Z0g Z21 in
theorem Zcb(F:Fun K "book_of" "book_of" Z3f f fd):Ai P w K mg base (CXF P w) 8 f fd ["rule","asks"] (λvs H Q E=>(G3 (TV (CV.mk Zb Z2 Z3 Z5 Z9 Z1 Z0)) K Zd Zg) vs H Q E\/(Um (CV.mk Zb Z2 Z3 Z5 Z9 Z1 Z0) (E4.mk Z4 Zc Z7 Z8) K Zd) vs H Q E):=(Ai.or (Zas T Zs Z0g Z21 F) (Zat T Zs Z0g Z21 F))
variable (Z0k:Def P w K mg base (CXF P w) 8 "book_of" ["rule","asks"] (λvs H Q E=>(G3 (TV (CV.mk Zb Z2 Z3 Z5 Z9 Z1 Z0)) K Zd Zg) vs H Q E\/(Um (CV.mk Zb Z2 Z3 Z5 Z9 Z1 Z0) (E4.mk Z4 Zc Z7 Z8) K Zd) vs H Q E))
include T in
theorem Zeu(F:Fun K "_law_cell" "_law_cell" Z7x f fd):Ai P w K mg base (CXF P w) 1 f fd ["_law_script","_law_k"] (Ms K):=by
 have sc:A9 ["_law_script","_law_k"] ["_law_script","_law_k"] (A6 Z7x):=by ext:3
 ext:2
 . exact n3 h_ λ_ _ _=>rfl
 refine x3 h_ λa ns k e_=>y5 e_ λe0 hS h0 hl q=>?_;clear e_ h_;subst e0
 refine⟨_,(@A3 _ _ _ _ _ (As (Am J0u (pv 1) (Aw B6 rfl T.Z1g FO (A0 (pv 0) A2)) (nomark _))
  (@A4 _ _ _ (@Af _ _ _ _ (@Cf _ _ _ _ _ _ _ By (pv 0) (pv 1) (λ_ _=>rfl))))
  Aj)
  (@A4 _ _ _ (@Af _ _ _ _ A8))),?_⟩
 walk_at "su";ext;rw[Fa];split
 . rename_i hk
   exact Ck hS (Q7 h0 (J92 (by omega))) q
 . rename_i hk
   rw[Fd,HD (by omega)]at q;ext;exact q
variable (Zr:Def P w K mg base (CXF P w) 1 "_law_cell" ["_law_script","_law_k"] (Ms K))
include T in
theorem Zb2(F:Fun K "_law_stream" "_law_stream" Z6o f fd):Ai P w K mg base (CXF P w) 1 f fd ["_law_cell_here","_law_many"] (Ei):=by
 have sc:A9 ["_law_cell_here","_law_many","_law_found","_law_number","_law_k"] ["_law_cell_here","_law_many"] (A6 Z6o):=by ext:3
 ext:2
 . exact n2 h_ λ_ _=>rfl
 refine x2 h_ λc m e_=>y3 e_ λe0 hm q=>?_;clear e_ h_;subst e0
 refine⟨_,(@A3 _ _ _ _ _ (Az (i:=2) sc.nd rfl (Or.inl rfl) (@Bd _ _ _ _ A2))
  (@A3 _ _ _ _ _ (Az (i:=3) sc.nd rfl (Or.inl rfl) (Ak Bo (Ak Bf (pv 0) A8) A8))
  (@A3 _ _ _ _ _ (Lp Ds rfl (Iv rfl T.Z41 (A0 (pv 1) A2)) (Cr (i:=4) sc.nd rfl (Or.inl rfl))
   (@A3 _ _ _ _ _ (Az (i:=3) sc.nd rfl (Or.inl rfl) (Ak Bf (Ak Bo (Ak Bo (Ak Ut (pv 3) A8) (Ak Ut A8 (pv 4))) A8) A8))
   (@A4 _ _ _ (Al (Dx Fx FS FR Cs (pv 2) (A0 (Ak Cd (pv 3) A8) A2))))))
  (@A4 _ _ _ (@Af _ _ _ _ (pv 2)))))),?_⟩
 ext:4;have hx0:=FH c (show (2147483629:Int)≠0 by decide);have hx1:=FD c (show (0:Int) < 2147483629 by decide);ext;intro p hp;ext:1;refine Wl (λk σ H'=>∃(nu:Int) (v4:Option V) (xs:List Int),σ=[some (V.int c),some (V.int m),some (V.ref p),some (V.int nu),v4]/\0<=nu/\nu < 10 ^ 10/\H'=upd H p (.lst (xs.map V.int))/\xs.length<=k/\k<=xs.length/\∀x∈xs,0<=x) ⟨_,none,[],rfl,by omega,by omega,rfl,Fg _,Fg _,by simp⟩ ?_ ?_
 . rintro k σ H' hk ⟨nu,v4,xs,rfl,h0,h1,rfl,hl1,hl2,hxs⟩
   ext;have hy0:=FH (nu * 48271+7919 * (k:Int)+1) (show (2147483647:Int)≠0 by decide);have hy1:=FD (nu * 48271+7919 * (k:Int)+1) (show (0:Int) < 2147483647 by decide);generalize (nu * 48271+7919 * (k:Int)+1) % 2147483647=u at hy0 hy1 ⊢;refine⟨.inl ⟨rfl,_,SqL.of A1⟩,Iy (by decide) (by decide),p,_,_,rfl,rfl,A1,by rw[Fa];omega,by omega,by omega,xs++[u / 5],?_,by rw[Fn];simp only[List.length_cons,List.length_nil];omega,by rw[Fn];simp only[List.length_cons,List.length_nil];omega,λx hx=>?_⟩
   . rw[Iu,Fz];rfl
   . rcases FB.mp hx with hx | hx
     . exact hxs x hx
     . rw[Fo.mp hx];omega
 . rintro σ H' ⟨nu,v4,xs,rfl,h0,h1,rfl,hl1,hl2,hxs⟩
   ext;exact q p xs _ hp (Aa.new hp) A1 (by omega) hxs
variable (Z22:Def P w K mg base (CXF P w) 1 "_law_stream" ["_law_cell_here","_law_many"] (Ei))
include T in
theorem Zcc(F:Fun K "_law_names" "_law_names" Z78 f fd):Ai P w K mg base (CXF P w) 1 f fd ["_law_cell_here","_law_many"] (Gu):=by
 have sc:A9 ["_law_cell_here","_law_many","_law_signs","_law_tail","_law_size","_law_at","_law_base","_law_names_here","_law_k","_law_sign"] ["_law_cell_here","_law_many"] (A6 Z78):=by ext:3
 ext:2
 . exact n2 h_ λ_ _=>rfl
 refine x2 h_ λc m e_=>y3 e_ λe0 hm q=>?_;clear e_ h_;subst e0
 refine⟨_,(@A3 _ _ _ _ _ (Az (i:=2) sc.nd rfl (Or.inr rfl) B3)
  (@A3 _ _ _ _ _ (Az (i:=3) sc.nd rfl (Or.inr rfl) (Dx PySem.F.plainAttrs_str PySem.F.slot_str_join PySem.F.type_str_join J5q B3 (A0 (Ia "_law_k" [2,0] rfl rfl (Yh rfl T.Z41 (A0 A8 (A0 A8 A2))) (λb=>(@Cf _ _ _ _ _ _ _ Nl (pv 1) (Ak Bf (Ak Bo (Ak Cd (pv 2) A8) (Ak J5g (Ak Ut A8 (pv 0)) (pv 0))) A8) (λ_ _=>rfl)))) A2)))
  (@A3 _ _ _ _ _ (As (Am Bg (Ak Bf (pv 0) A8) A8 (nomark _))
   (@A4 _ _ _ (@Af _ _ _ _ (Ia "_law_k" [2,3,0] rfl rfl (Iv rfl T.Z41 (A0 (pv 1) A2)) (λb=>(Ak Di (@Cf _ _ _ _ _ _ _ Nl (pv 1) (Ak Bf (Ak Bo (Ak Cd (pv 3) A8) (Ak Cd (pv 0) A8)) A8) (λ_ _=>rfl)) (Dq Nt (pv 2) G8 (E2 (Ak Bf (pv 0) A8))))))))
   Aj)
  (@A3 _ _ _ _ _ (Az (i:=4) sc.nd rfl (Or.inl rfl) (Ak Bo A8 (Ak Bf (Ak Cd (pv 0) A8) A8)))
  (@A3 _ _ _ _ _ (Az (i:=5) sc.nd rfl (Or.inl rfl) (Ak Bf (Ak Cd (pv 0) A8) (pv 4)))
  (@A3 _ _ _ _ _ (Az (i:=6) sc.nd rfl (Or.inl rfl) (Ak Di (@Cf _ _ _ _ _ _ _ Nl (pv 2) (Ak Bf (Ak Cd (pv 0) A8) A8) (λ_ _=>rfl)) (Dq Nt (pv 3) G8 (E2 (Ak G7 (pv 4) A8)))))
  (@A3 _ _ _ _ _ (Az (i:=7) sc.nd rfl (Or.inl rfl) (@Bd _ _ _ _ A2))
  (@A3 _ _ _ _ _ (Lp Ds rfl (Iv rfl T.Z41 (A0 (pv 1) A2)) (Cr (i:=8) sc.nd rfl (Or.inl rfl))
   (@A3 _ _ _ _ _ (Az (i:=9) sc.nd rfl (Or.inl rfl) (@Cf _ _ _ _ _ _ _ Nl (pv 2) (Ak Bf (Ak Bo (Ak Cd (pv 0) A8) (pv 8)) A8) (λ_ _=>rfl)))
   (@A4 _ _ _ (Al (Dx Fx FS FR Cs (pv 7) (A0 (Ak Di (Ak Di (Ak Di (Dq Nt (pv 6) G8 (E2 (pv 5))) (pv 9)) (Dq Nt (pv 6) (E2 (Ak Bo (pv 5) A8)) G8)) (Dq Nt B3 G8 (E2 (Ak Cd (pv 8) A8)))) A2))))))
  (@A4 _ _ _ (@Af _ _ _ _ (pv 7))))))))))),?_⟩
 ext:4;have bl:=Tg;ext;refine Nx (n:=7) (λk=>V.str ⟨#[bc ((c / 36+5 * k * k) % 36)]⟩) (by omega) (λb k H' Q' hk sm q'=>?_) λD hD=>?_
 . ext
   refine⟨⟨by omega,by omega⟩,by decide,Ny (by omega) (Xm _ (by decide) (by decide)) q'⟩
 have etl:(List.range 7).map (λi:Nat=>V.str ⟨#[bc ((c / 36+5 * (1+(i:Int)) * (1+(i:Int))) % 36)]⟩)=(((List.range 7).map λj:Nat=>bc ((c / 36+5 * (1+(j:Int)) * (1+(j:Int))) % 36)).map λc=>(⟨#[c]⟩:Str)).map V.str:=by
  rw[FA,FA];rfl
 rw[etl];clear etl
 have htl:((List.range 7).map λj:Nat=>bc ((c / 36+5 * (1+(j:Int)) * (1+(j:Int))) % 36)).length=7/\True:=⟨by rw[Fa,Hm],trivial⟩
 have hnm1:∀k,nm1 (c / 4) (λj:Nat=>c / 36+5 * (1+(j:Int)) * (1+(j:Int))) k=bc ((c / 4+k / 8) % 26)::((List.range 7).map λj:Nat=>bc ((c / 36+5 * (1+(j:Int)) * (1+(j:Int))) % 36)).take (k % 8):=λk=>rfl;have hnd:((List.range m).map λk=>tx (nm1 (c / 4) (λj:Nat=>c / 36+5 * (1+(j:Int)) * (1+(j:Int))) k)).Nodup:=To λa b ha hb e=>J62 (by omega) (by omega) e;have hnn:∀k,C8 (nm1 (c / 4) (λj:Nat=>c / 36+5 * (1+(j:Int)) * (1+(j:Int))) k)=true:=λk=>J3e
 have htc:∀x∈(List.range 7).map (λj:Nat=>bc ((c / 36+5 * (1+(j:Int)) * (1+(j:Int))) % 36)),x∈B7++Bz:=λx hx=>by
  obtain⟨j,_,rfl⟩:=FK.mp hx;exact Xp
 have q1:c % 4=3->∀(p:Addr) (H':Hp),H p=none->Aa H H'->H' p=some (.lst (((List.range m).map λk=>tx (nm1 (c / 4) (λj:Nat=>c / 36+5 * (1+(j:Int)) * (1+(j:Int))) k)).map V.str))->((List.range m).map λk=>tx (nm1 (c / 4) (λj:Nat=>c / 36+5 * (1+(j:Int)) * (1+(j:Int))) k)).Nodup->(∀y∈(List.range m).map λk=>tx (nm1 (c / 4) (λj:Nat=>c / 36+5 * (1+(j:Int)) * (1+(j:Int))) k),C8 y.cps.toList=true)->Q (.ref p) H':=λhc p H' a1 a2 a3 a4 a5=>by
  have e0:N56.nmL c m=(List.range m).map λk=>tx (nm1 (c / 4) (λj:Nat=>c / 36+5 * (1+(j:Int)) * (1+(j:Int))) k):=HL λk _=>if_pos hc;rw[<- e0]at a3 a4 a5;exact q p H' a1 a2 a3 a4 a5
 have q2:¬c % 4=3->∀(B:List Nat) (at' sz:Nat),1+c / 4 % 6=(sz:Int)->(at':Int)=c / 24 % (sz:Int)->B=[bc (c / 36 % 26)]++((List.range 7).map (λj:Nat=>bc ((c / 36+5 * (1+(j:Int)) * (1+(j:Int))) % 36))).take (sz - 1)->∀(p:Addr) (H':Hp),H p=none->Aa H H'->H' p=some (.lst (((List.range m).map λk=>tx (nm3 B at' (c / 1296) k)).map V.str))->((List.range m).map λk=>tx (nm3 B at' (c / 1296) k)).Nodup->(∀y∈(List.range m).map λk=>tx (nm3 B at' (c / 1296) k),C8 y.cps.toList=true)->Q (.ref p) H':=λhc B at' sz e1 e2 e3 p H' a1 a2 a3 a4 a5=>by
  have eB:J9y c=B:=by rw[e3];unfold J9y;rw[e1,Int.toNat_natCast]
  have e0:N56.nmL c m=(List.range m).map λk=>tx (nm3 B at' (c / 1296) k):=HL λk _=>by
   show nmF c k=_;unfold nmF;rw[if_neg hc,eB,e1,<- e2,Int.toNat_natCast]
  rw[<- e0]at a3 a4 a5;exact q p H' a1 a2 a3 a4 a5
 clear q;generalize nm1 (c / 4) (λj:Nat=>c / 36+5 * (1+(j:Int)) * (1+(j:Int)))=N at hnm1 hnd hnn q1;generalize (List.range 7).map (λj:Nat=>bc ((c / 36+5 * (1+(j:Int)) * (1+(j:Int))) % 36))=tl at htl hnm1 htc q2 ⊢
 have hsum:((tl.map λc=>(⟨#[c]⟩:Str)).map (·.length)).sum<=7:=by
  rw[FA,show ((·.length)∘λc=>(⟨#[c]⟩:Str))=λ_=>1 from rfl,List.map_const',htl.1];decide
 refine⟨D,rfl,tl.map λc=>(⟨#[c]⟩:Str),SqL.of A1,?_,?_⟩
 . have e0:(Str.ofString "").length=0:=by decide+kernel
   rw[e0];omega
 rw[N20.J06];have smD:Aa H (upd H D (.lst ((tl.map λc=>(⟨#[c]⟩:Str)).map V.str))):=Aa.new hD;generalize upd H D (.lst ((tl.map λc=>(⟨#[c]⟩:Str)).map V.str))=H1 at smD ⊢;clear hD hsum;ext:1;split
 . rename_i hc3
   have hc3':c % 4=3:=by simpa using hc3
   ext
   have hzl:(tx tl).length=7/\True:=⟨by rw[Ii];exact htl.1,trivial⟩
   refine Nx (λk=>V.str (tx (N k.toNat))) (by omega) (λb k H' Q' hk sm q'=>?_) λD hD=>?_
   . have hl7:=htl.1
     ext;refine Ny (by omega) (Xm _ (by decide) (by decide)) ⟨by decide,by omega,_,rfl,?_⟩;rw[L6 (by omega) (by omega)];refine⟨by rw[K0,Ii,FF];omega,?_⟩;rw[Xl,O1,show ((k:Int) % 8).toNat=k % 8 by omega];rw[Int.zero_add,Int.toNat_natCast,hnm1]at q';exact q'
   . have e:(List.range m).map (λk:Nat=>V.str (tx (N (0+(k:Int)).toNat)))=((List.range m).map λk=>tx (N k)).map V.str:=by
      rw[FA];refine HL λk _=>?_;rw[Int.zero_add,Int.toNat_natCast];rfl
     rw[e];refine q1 hc3' D _ (B4 smD hD) (smD.trans (Aa.new hD)) A1 hnd λy hy=>?_;obtain⟨k,_,rfl⟩:=FK.mp hy;rw[Gj];exact hnn k
 . rename_i hc3
   have hc3':¬c % 4=3:=by simpa using hc3
   clear hnm1 hnd hnn q1 N
   have hs1:1<=(1+c / 4 % 6).toNat:=by omega
   have hs6:(1+c / 4 % 6).toNat<=6:=by omega
   have h8:(1+c / 4 % 6)=((1+c / 4 % 6).toNat:Int):=by omega
   ext;rw[h8];generalize (1+c / 4 % 6).toNat=sz at hs1 hs6 h8 ⊢;have ha0:=FH (c / 24) (show (sz:Int)≠0 by omega);have ha1:=FD (c / 24) (show (0:Int) < sz by omega)
   obtain⟨at',hat⟩:∃at':Nat,(at':Int)=c / 24 % (sz:Int):=⟨(c / 24 % (sz:Int)).toNat,by omega⟩
   rw[<- hat]at ha0 ha1 ⊢;have hl7:=htl.1
   have hzl:(tx tl).length=7/\True:=⟨by rw[Ii];exact htl.1,trivial⟩
   refine Ny (by omega) (Xm _ (by decide) (by decide)) ⟨by omega,_,rfl,?_⟩;rw[L6 (by omega) (by omega),show ((sz:Int) - 1).toNat=sz - 1 by omega];refine⟨by rw[K0,Ii,FF];omega,?_⟩;rw[Xl,O1]
   have hBl:([bc (c / 36 % 26)]++tl.take (sz - 1)).length=sz/\True:=⟨by rw[Fn,FF];simp only[List.length_cons,List.length_nil];omega,trivial⟩
   have hBc:∀x∈[bc (c / 36 % 26)]++tl.take (sz - 1),x∈B7++Bz:=λx hx=>by
    rcases FB.mp hx with hx | hx
    . rw[Fo.mp hx];exact FX _ Lv
    . exact htc x (R6 hx)
   have hBh:∃d r,[bc (c / 36 % 26)]++tl.take (sz - 1)=d::r/\d∈B7:=⟨_,_,rfl,Lv⟩
   have hBE:[bc (c / 36 % 26)]++tl.take (sz - 1)=[bc (c / 36 % 26)]++tl.take (sz - 1)/\True:=⟨rfl,trivial⟩
   generalize hBX:[bc (c / 36 % 26)]++tl.take (sz - 1)=B at hBl hBc hBh ⊢
   have hBY:B=[bc (c / 36 % 26)]++tl.take (sz - 1)/\True:=⟨hBX.symm,trivial⟩
   clear hBX hBE;have hB1:=hBl.1;ext:1;intro p hp;ext:1;rename_i rest hrest;refine Wl (λk σ H'=>∃(v8 v9:Option V),σ=[some (V.int c),some (V.int m),some (V.str (Str.ofString "abcdefghijklmnopqrstuvwxyz0123456789")),some (V.str (tx tl)),some (V.int sz),some (V.int at'),some (V.str (tx B)),some (V.ref p),v8,v9]/\H'=upd H1 p (.lst (((List.range k).map λk=>tx (nm3 B at' (c / 1296) k)).map V.str))) ⟨none,none,rfl,rfl⟩ ?_ ?_
   . clear hrest
     rintro k σ H' hk ⟨v8,v9,rfl,rfl⟩
     have hlen:(((List.range k).map λk=>tx (nm3 B at' (c / 1296) k)).map V.str).length=k/\True:=⟨by simp,trivial⟩
     have hlen1:=hlen.1
     have hBt:(tx B).length=sz/\True:=⟨by rw[Ii];exact hB1,trivial⟩
     have hBt1:=hBt.1;rw[Rr,Fz,Fz];generalize hz:(((List.range k).map λk=>tx (nm3 B at' (c / 1296) k)).map V.str)=zs at hlen1 ⊢;clear hz hlen hBt;ext;refine Ny (by omega) (Xm _ (by decide) (by decide)) ?_;ext:1;have e1:Txt.slice (tx B) none (some (at':Int))=tx (B.take at'):=L6 (by omega) (by omega)
     have e2:Txt.slice (tx B) (some ((at':Int)+1)) none=tx (B.drop (at'+1)):=by
      have:=Vi (l:=B) (n:=(at':Int)+1) (by omega) (by omega);rw[show ((at':Int)+1).toNat=at'+1 by omega]at this;exact this
     have e3:Txt.slice (Str.ofString "zz") none (some ((k:Int) / 26))=tx (List.replicate (k / 26) 122):=J3z (by omega);rw[e1,e2,e3]
     have z2:(Str.ofString "zz").length=2:=by decide+kernel
     have l1:(tx (B.take at')).length<=6:=by rw[Ii,FF];omega
     have l2:(tx (B.drop (at'+1))).length<=6:=by rw[Ii,Hc];omega
     have l3:(tx (List.replicate (k / 26) 122)).length<=6:=by rw[Ii,Hl];omega
     refine⟨.inl ⟨rfl,_,SqL.of A1⟩,by omega,by rw[K0];omega,by omega,by rw[Bq,K0];omega,Iy (by decide) (by decide),by omega,by rw[Bq,Bq,K0];omega,p,_,_,rfl,rfl,A1,by omega,?_⟩;rw[Iu,Xl,O1,O1,O1];rfl
   . rintro σ H' ⟨v8,v9,rfl,rfl⟩
     subst hrest;ext
     exact q2 hc3' B at' sz h8 hat hBY.1 p _ (B4 smD hp) (smD.trans (Aa.new hp)) A1 (To λa b ha hb e=>J68 (by omega) e) (λy hy=>by
      obtain⟨k,hk,rfl⟩:=FK.mp hy;rw[Gj]
      exact J3v (by omega) (by omega) (by have:=RA.mp hk;omega) hBc hBh)
variable (Z2j:Def P w K mg base (CXF P w) 1 "_law_names" ["_law_cell_here","_law_many"] (Gu))
include T Zr Z2j Z22 in
theorem Z8l(F:Fun K "_law_thing_rows" "_law_thing_rows" Z48 f fd):Ai P w K mg base (CXF P w) 2 f fd ["_law_script","_law_places"] (Ln K):=by
 have sc:A9 ["_law_script","_law_places","_law_cell_here","_law_many","_law_names_here","_law_xs","_law_rows"] ["_law_script","_law_places"] (A6 Z48):=by ext:3
 ext:2
 . exact n3 h_ λ_ _ _=>rfl
 refine x3 h_ λa ns n e_=>y6 e_ λe0 hS hl h1 h2 q=>?_;clear e_ h_;subst e0
 refine⟨_,(@A3 _ _ _ _ _ (Az (i:=2) sc.nd rfl (Or.inl rfl) (Ae Zr hr rfl A7 (A0 (pv 0) (A0 A8 A2))))
  (@A3 _ _ _ _ _ (Az (i:=3) sc.nd rfl (Or.inl rfl) (Ak Bo A8 (Ak Bf (pv 2) A8)))
  (@A3 _ _ _ _ _ (As (Am Bg (Ak Bf (Ak Cd (pv 2) A8) A8) A8 (nomark _))
   (@A4 _ _ _ (Az (i:=3) sc.nd rfl (Or.inl rfl) (Ak Bo A8 (Ak Bf (Ak Cd (pv 2) A8) A8))))
   Aj)
  (@A3 _ _ _ _ _ (Az (i:=4) sc.nd rfl (Or.inr rfl) (Ae Z2j hr rfl A7 (A0 (Ae Zr hr rfl A7 (A0 (pv 0) (A0 A8 A2))) (A0 (Ak Bo (pv 3) A8) A2))))
  (@A3 _ _ _ _ _ (Az (i:=5) sc.nd rfl (Or.inr rfl) (Ae Z22 hr rfl A7 (A0 (Ae Zr hr rfl A7 (A0 (pv 0) (A0 A8 A2))) (A0 (Ak Bo (pv 3) A8) A2))))
  (@A3 _ _ _ _ _ (Sr (i:=6) "_law_k" [4,5,1] sc.nd rfl rfl rfl rfl (Iv rfl T.Z41 (A0 (pv 3) A2)) (λb=>(Bh (A0 (@Cf _ _ _ _ _ _ _ By (pv 1) (pv 0) (λ_ _=>rfl)) (A0 (Ak Bf (@Cf _ _ _ _ _ _ _ By (pv 2) (pv 0) (λ_ _=>rfl)) A8) (A0 (Ak Bo A8 (Ak Bf (Ak Cd (@Cf _ _ _ _ _ _ _ By (pv 2) (pv 0) (λ_ _=>rfl)) A8) (pv 3))) A2))))))
  (@A4 _ _ _ (@Af _ _ _ _ (Ak Nn (pv 6) (@Bd _ _ _ _ (A0 (Bh (A0 (@Cf _ _ _ _ _ _ _ By (pv 4) (pv 3) (λ_ _=>rfl)) (A0 A8 (A0 (Ak Bo (Ak Bo (pv 1) A8) (Ak Bf (@Cf _ _ _ _ _ _ _ By (pv 5) (pv 3) (λ_ _=>rfl)) (Ak G7 A8 (pv 1)))) A2)))) A2))))))))))),?_⟩
 ext:4;ext;rename_i rest hrest
 have key:∀m:Nat,1<=m->m<=59->rest [some (V.ref a),some (V.int n),some (V.int (ns.getD 0 0)),some (V.int m),none,none,none] H:=by
  intro m hm1 hm2;subst hrest;ext;refine⟨m+1,by omega,by omega,λnp H1 hnp sm1 hny ynd hyn=>?_⟩;have hyl:=N56.Lj (c:=ns.getD 1 0) (m:=m+1);generalize hys:N56.nmL (ns.getD 1 0) (m+1)=ys at hny ynd hyn hyl
  have hys2:ys=N56.nmL (ns.getD 1 0) (m+1)/\True:=⟨hys.symm,trivial⟩
  clear hys;have hyl1:=Hu hyl;have hyl2:=Hu hyl.symm;have hnames:∀xs,(tR ys xs m n).map (·.1)=ys:=λxs=>Uo hyl;have hoks:∀xs:List Int,(∀x∈xs,0<=x)->∀t∈tR ys xs m n,C8 t.1.cps.toList=true/\0<=t.2.1/\t.2.1<=10 ^ 30/\1<=t.2.2/\t.2.2<=1000:=λxs=>Jc6 hyn hyl h1 h2;clear hyl;have hS1:=sm1.seq hS;ext:1;refine⟨m+1,by omega,by omega,λxp xs H3 hxp sm3 hx3 hxl hx0=>?_⟩;have hxl2:=Hu hxl.symm;clear hxl;have sm03:=sm1.trans sm3;have hny3:=sm3 _ _ hny;ext:1;refine J3c (n:=m) (λi y H=>∃t,y=V.ref t/\SqT K H t [.str ((tR ys xs m n).getD i th0).1,.int ((tR ys xs m n).getD i th0).2.1,.int ((tR ys xs m n).getD i th0).2.2]) (λi y H H' l zs ⟨t,e,h⟩ hl sb=>⟨t,e,SqT.butL sb hl h⟩) (by omega) (λb i H4 Q' hi sm4 q'=>?_) λD yl H4 hD sm4 hD4 hyl4 hall=>?_
  . have hny4:=sm4 _ _ hny3
    have hx4:=sm4 _ _ hx3
    have e1:thR ys xs m n i=(ys.getD i Str.empty,xs.getD i 0 % 1000,1+xs.getD i 0 / 1000 % n):=by unfold thR;rw[if_pos hi]
    rw[J89 (by omega),e1]at q';clear e1;have g1:=N41.J3n (ys:=ys) (k:=i) (by omega);have g2:=J40 (xs:=xs) (i:=i) (by omega);ext;refine Ck (SqL.of hny4) (v:=V.str (ys.getD i Str.empty)) (Ce (by rw[Ff,g1];rfl)) ?_;refine Ck (SqL.of hx4) (v:=V.int (xs.getD i 0)) (Ce (by rw[Ff,g2];rfl)) ⟨_,rfl,by decide,?_⟩;refine Ck (SqL.of hx4) (v:=V.int (xs.getD i 0)) (Ce (by rw[Ff,g2];rfl)) ⟨_,rfl,Iy (by decide) (by decide),by omega,by omega,λp hp=>?_⟩;exact q' _ _ (Aa.new hp) ⟨p,rfl,SqT.of A1⟩
  . have hny4:=sm4 _ _ hny3
    have hx4:=sm4 _ _ hx3;have g1:=N41.J3n (ys:=ys) (k:=m) (by omega);have g2:=J40 (xs:=xs) (i:=m) (by omega);ext:1;refine Ck (SqL.of hny4) (v:=V.str (ys.getD m Str.empty)) (Ce (by rw[Ff,g1];rfl)) ?_;refine Ck (SqL.of hx4) (v:=V.int (xs.getD m 0)) (Ce (by rw[Ff,g2];rfl)) ⟨_,rfl,by omega,by omega,λp hp=>⟨by omega,λp1 hp1=>?_⟩⟩;have sA:=(Aa.new (o:= .tup [V.str (ys.getD m Str.empty),V.int 7,V.int (n+1+xs.getD m 0 % (1000 - n))]) hp).trans (Aa.new (o:= .lst [V.ref p]) hp1);have kp:=Aa.new (o:= .lst [V.ref p]) hp1 _ _ (A1 (H:=H4) (a:=p) (o:= .tup [V.str (ys.getD m Str.empty),V.int 7,V.int (n+1+xs.getD m 0 % (1000 - n))]));have k1:=A1 (H:=upd H4 p (.tup [V.str (ys.getD m Str.empty),V.int 7,V.int (n+1+xs.getD m 0 % (1000 - n))])) (a:=p1) (o:= .lst [V.ref p]);generalize upd (upd H4 p (.tup [V.str (ys.getD m Str.empty),V.int 7,V.int (n+1+xs.getD m 0 % (1000 - n))])) p1 (.lst [V.ref p])=H6 at sA kp k1 ⊢
    refine⟨D,p1,yl,[V.ref p],rfl,rfl,sA _ _ hD4,k1,by rw[hyl4];simp only[List.length_cons,List.length_nil];omega,λp2 hp2=>?_⟩;have sB:=sA.trans (Aa.new (o:= .lst (yl++[V.ref p])) hp2);have k2:=A1 (H:=H6) (a:=p2) (o:= .lst (yl++[V.ref p]));have kp2:=Aa.new (o:= .lst (yl++[V.ref p])) hp2 _ _ kp;generalize upd H6 p2 (.lst (yl++[V.ref p]))=H7 at sB k2 kp2 ⊢
    obtain⟨as,eas,hR⟩:=J69 (K:=K) (ts:=tR ys xs m n) k2 (by rw[Fn,hyl4,Vn];rfl) (by rw[Vn];omega) (by rw[hnames];exact ynd) (hoks xs hx0) (λi y hy=>by
     by_cases hi:i < m
     . rw[FQ (by omega)]at hy
       obtain⟨t,e,h⟩:=hall i y hy;exact⟨t,e,sB.tup h⟩
     . rw[FJ (by omega)]at hy
       have ei:i - yl.length=0:=by
        have:=(Fh.mp hy).1;simp only[List.length_cons,List.length_nil]at this;omega
       rw[ei]at hy;cases hy
       have ei:i=m:=by omega
       rw[ei,J89 (by omega)];refine⟨p,rfl,SqT.of ?_⟩;unfold thR
       rw[if_neg (Hq m)];exact kp2)
    rw[eas]at k2;exact q p2 as _ m _ ((sm03.trans sm4).trans sB) k2 hR Vn hm1 (by rw[hnames];exact hys2.1) (λi t hi e=>J9z hi h1 e) (λt e=>J6q h2 e)
 clear hrest;split
 . have k:=key (20+ns.getD 0 0 / 72 % 40).toNat (by omega) (by omega)
   rw[show (((20+ns.getD 0 0 / 72 % 40).toNat:Nat):Int)=20+ns.getD 0 0 / 72 % 40 by omega]at k;exact⟨Iy (by decide) (by decide),by decide,k⟩
 . have k:=key (1+ns.getD 0 0 % 8).toNat (by omega) (by omega)
   rw[show (((1+ns.getD 0 0 % 8).toNat:Nat):Int)=1+ns.getD 0 0 % 8 by omega]at k;exact k
variable (Z2u:Def P w K mg base (CXF P w) 2 "_law_thing_rows" ["_law_script","_law_places"] (Ln K))
include T in
theorem Zf4(F:Fun K "_law_bad" "_law_bad" Z8y f fd):Ai P w K mg base (CXF P w) 1 f fd ["_law_cell_here","_law_most"] (Mz):=by
 have sc:A9 ["_law_cell_here","_law_most","_law_far","_law_some"] ["_law_cell_here","_law_most"] (A6 Z8y):=by ext:3
 ext:2
 . exact n2 h_ λ_ _=>rfl
 refine x2 h_ λc mo e_=>y3 e_ λe0 hmo q=>?_;clear e_ h_;subst e0
 refine⟨_,(@A3 _ _ _ _ _ (Az (i:=2) sc.nd rfl (Or.inl rfl) (Ak Bf (Ak Cd (pv 0) A8) (Ak Uu A8 A8)))
  (@A3 _ _ _ _ _ (@Az _ _ 3 _ _ _ _ sc.nd rfl (Or.inl rfl) (@Bd _ _ _ _ (@Ag _ _ _ _ _ _ _ A8 (@O3 _ _ _ _ _ _ _ _ (Ak Bo (pv 1) A8) (@Ag _ _ _ _ _ _ _ J8h (@Ag _ _ _ _ _ _ _ Cw (@Ag _ _ _ _ _ _ _ Cw (@Ag _ _ _ _ _ _ _ B3 (A0 (@Bd _ _ _ _ (A0 A8 A2)) (@J38 _ _ _ _ _ _ _ (Bh (A0 A8 A2)) (@O3 _ _ _ _ _ _ _ _ (Ak G7 (Ak G7 A8 A8) (pv 2)) (@O3 _ _ _ _ _ _ _ _ (Ak Bo (Ak Bo (pv 1) A8) (pv 2)) A2))))))))))) (by rfl) (by first | exact .inl rfl | exact .inr rfl))
  (@A4 _ _ _ (@Af _ _ _ _ (@Cf _ _ _ _ _ _ _ By (pv 3) (Ak Bf (pv 0) A8) (λ_ _=>rfl)))))),?_⟩
 ext:4;ext;intro p1 hp1;refine⟨by omega,λp2 hp2=>⟨by omega,λp3 hp3=>?_⟩⟩;have s1:Aa H (upd H p1 (.lst [V.int 3])):=Aa.new hp1;have s2:=Aa.new (o:= .tup [V.int 2]) hp2;have s3:=Aa.new (o:= .lst [V.int 0,V.int (mo+1),V.non,V.bl true,V.bl false,V.str (Str.ofString "7"),V.ref p1,V.ref p2,V.int (0 - 1 - c / 10 % 10 ^ 9),V.int (mo+1+c / 10 % 10 ^ 9)]) hp3;have k1:=(s2.trans s3) _ _ (A1 (H:=H) (a:=p1) (o:= .lst [V.int 3]));have k2:=s3 _ _ (A1 (H:=upd H p1 (.lst [V.int 3])) (a:=p2) (o:= .tup [V.int 2]));have k3:=A1 (H:=upd (upd H p1 (.lst [V.int 3])) p2 (.tup [V.int 2])) (a:=p3) (o:= .lst [V.int 0,V.int (mo+1),V.non,V.bl true,V.bl false,V.str (Str.ofString "7"),V.ref p1,V.ref p2,V.int (0 - 1 - c / 10 % 10 ^ 9),V.int (mo+1+c / 10 % 10 ^ 9)]);have sm:=(s1.trans s2).trans s3;generalize upd (upd (upd H p1 (.lst [V.int 3])) p2 (.tup [V.int 2])) p3 (.lst [V.int 0,V.int (mo+1),V.non,V.bl true,V.bl false,V.str (Str.ofString "7"),V.ref p1,V.ref p2,V.int (0 - 1 - c / 10 % 10 ^ 9),V.int (mo+1+c / 10 % 10 ^ 9)])=H3 at sm k1 k2 k3 ⊢
 clear s1 s2 s3;have f0:0<=c / 10 % 10 ^ 9:=FH _ (by decide);generalize c / 10 % 10 ^ 9=far at k3 f0;ext:1;obtain⟨v,hv,hM⟩:=J9b (xs:=[V.int 0,V.int (mo+1),V.non,V.bl true,V.bl false,V.str (Str.ofString "7"),V.ref p1,V.ref p2,V.int (0 - 1 - far),V.int (mo+1+far)]) (i:=c % 10) (by omega) (by simp;omega);refine Ck (SqL.of k3) hv ?_
 have hw:G5 H3 v/\wIn 1 mo v=false:=by
  simp only[Ft,FM,or_false]at hM;rcases hM with rfl | rfl | rfl | rfl | rfl | rfl | rfl | rfl | rfl | rfl
  . exact⟨.inl rfl,by simp[wIn]⟩
  . exact⟨.inl rfl,by simp only[wIn,R0,decide_eq_false_iff_not];omega⟩
  . exact⟨.inl rfl,rfl⟩
  . exact⟨.inl rfl,rfl⟩
  . exact⟨.inl rfl,rfl⟩
  . exact⟨.inl rfl,rfl⟩
  . exact⟨.inr ⟨_,_,rfl,.inl k1⟩,rfl⟩
  . exact⟨.inr ⟨_,_,rfl,.inr k2⟩,rfl⟩
  . exact⟨.inl rfl,by simp only[wIn,R0,decide_eq_false_iff_not];omega⟩
  . exact⟨.inl rfl,by simp only[wIn,R0,decide_eq_false_iff_not];omega⟩
 exact q v H3 sm hw.1 hw.2
variable (Z6k:Def P w K mg base (CXF P w) 1 "_law_bad" ["_law_cell_here","_law_most"] (Mz))
include T in
theorem Zf5(F:Fun K "_law_put" "_law_put" Z8z f fd):Ai P w K mg base (CXF P w) 1 f fd ["_law_asks","_law_name","_law_cell_here"] (N0 K):=by
 have sc:A9 ["_law_asks","_law_name","_law_cell_here","_law_at"] ["_law_asks","_law_name","_law_cell_here"] (A6 Z8z):=by ext:3
 ext:2
 . exact n4 h_ λ_ _ _ _=>rfl
 refine x4 h_ λa z c ys e_=>y4 e_ λe0 hS hl q=>?_;clear e_ h_;subst e0
 refine⟨_,(@A3 _ _ _ _ _ (Az (i:=3) sc.nd rfl (Or.inl rfl) (Ak Bf (pv 2) (Ak Bo (Aw B6 rfl T.Z1g FO (A0 (pv 0) A2)) A8)))
  (@A4 _ _ _ (@Af _ _ _ _ (Ak Nn (Ak Nn (Dq Q3 (pv 0) G8 (E2 (pv 3))) (@Bd _ _ _ _ (A0 (pv 1) A2))) (Dq Q3 (pv 0) (E2 (pv 3)) G8))))),?_⟩
 ext:4;have f0:=FH c (show ((ys.length:Int)+1)≠0 by omega);have f1:=FD c (show 0 < (ys.length:Int)+1 by omega)
 obtain⟨i,hi⟩:∃i:Nat,c % ((ys.length:Int)+1)=i/\i<=ys.length:=⟨(c % ((ys.length:Int)+1)).toNat,by omega,by omega⟩
 ext;refine⟨_,hS,λp hp=>⟨by omega,λp1 hp1=>?_⟩⟩;rw[Fa,hi.1]at hp1 ⊢;rw[J9k ys i hi.2]at hp1 ⊢;have s1:Aa H (upd H p (.lst ((ys.take i).map V.str))):=Aa.new hp;have s2:=Aa.new (o:= .lst [V.str z]) hp1;have k1:=s2 _ _ (A1 (H:=H) (a:=p) (o:= .lst ((ys.take i).map V.str)));have k2:=A1 (H:=upd H p (.lst ((ys.take i).map V.str))) (a:=p1) (o:= .lst [V.str z]);have sm:=s1.trans s2;generalize upd (upd H p (.lst ((ys.take i).map V.str))) p1 (.lst [V.str z])=H2 at sm k1 k2 ⊢;clear s1 s2 hp hp1
 have hl1:(ys.take i).length<=ys.length:=by rw[FF];omega
 refine⟨p,p1,_,_,rfl,rfl,k1,k2,by rw[Fa];simp only[List.length_cons,List.length_nil];omega,λp2 hp2=>?_⟩;rw[show (ys.take i).map V.str++[V.str z]=(ys.take i++[z]).map V.str by rw[Fz];rfl];have s3:=sm.trans (Aa.new (o:= .lst ((ys.take i++[z]).map V.str)) hp2);have k3:=A1 (H:=H2) (a:=p2) (o:= .lst ((ys.take i++[z]).map V.str));generalize upd H2 p2 (.lst ((ys.take i++[z]).map V.str))=H3 at s3 k3 ⊢;refine⟨_,s3.seq hS,λp4 hp4=>?_⟩;rw[N15.J4w ys i]
 have hl2:(ys.drop i).length<=ys.length:=by rw[Hc];omega
 refine⟨p2,p4,_,_,rfl,rfl,(Aa.new hp4) _ _ k3,A1,by rw[Fa,Fa,Fn];simp only[List.length_cons,List.length_nil];omega,λp5 hp5=>?_⟩;have s5:=s3.trans ((Aa.new (o:= .lst ((ys.drop i).map V.str)) hp4).trans (Aa.new (o:= .lst ((ys.take i++[z]).map V.str++(ys.drop i).map V.str)) hp5));exact q i p5 _ hi.2 s5 (B4 (s3.trans (Aa.new hp4)) hp5) (by rw[A1,<- Fz])
variable (Z5n:Def P w K mg base (CXF P w) 1 "_law_put" ["_law_asks","_law_name","_law_cell_here"] (N0 K))
include T Zr Z5n in
theorem Zb3(F:Fun K "_law_spoilt" "_law_spoilt" Z6p f fd):Ai P w K mg base (CXF P w) 2 f fd ["_law_way","_law_asks","_law_strange","_law_wide","_law_script"] (Gw K):=by
 have sc:A9 ["_law_way","_law_asks","_law_strange","_law_wide","_law_script","_law_many","_law_some","_law_at","_law_name"] ["_law_way","_law_asks","_law_strange","_law_wide","_law_script"] (A6 Z6p):=by ext:3
 ext:2
 . exact n9 h_ λ_ _ _ _ _ _ _ _ _=>rfl
 refine x9 h_ λway a sc5 ns ys ts n zs zw e_=>y14 e_ λe0 w1 w2 ha hyl hS hl h1 h2 hin hzs hzw hwr q=>?_;clear e_ h_;subst e0
 refine⟨_,(@A3 _ _ _ _ _ (As (Am Bg (pv 0) A8 (nomark _))
  (@A3 _ _ _ _ _ (Az (i:=5) sc.nd rfl (Or.inl rfl) (Ak Bo A8 (Ak Bf (Ae Zr hr rfl A7 (A0 (pv 4) (A0 A8 A2))) A8)))
  (@A3 _ _ _ _ _ (Az (i:=6) sc.nd rfl (Or.inl rfl) (Ae Z5n hr rfl A7 (A0 (Ak J8t (@Bd _ _ _ _ (A0 (@Cf _ _ _ _ _ _ _ By (Ak Nn (pv 1) (@Bd _ _ _ _ (A0 (pv 3) A2))) A8 (λ_ _=>rfl)) A2)) (Ak G7 (pv 5) A8)) (A0 (pv 2) (A0 (Ae Zr hr rfl A7 (A0 (pv 4) (A0 A8 A2))) A2)))))
  (@A4 _ _ _ (@Af _ _ _ _ (@Bd _ _ _ _ (A0 (pv 6) (A0 (Bh (@Ag _ _ _ _ _ _ _ B3 (@Ag _ _ _ _ _ _ _ Cw (@Ag _ _ _ _ _ _ _ B3 (@Ag _ _ _ _ _ _ _ A8 A2))))) A2)))))))
  Aj)
  (@A3 _ _ _ _ _ (Az (i:=6) sc.nd rfl (Or.inl rfl) (Bv Bp rfl T.Z1h (by first | rfl | decide+kernel) (A0 (pv 1) A2)))
  (@A3 _ _ _ _ _ (As (PW.pt (Qz (Am Bg (pv 0) A8 (nomark _)) (N8 (Am Bg (pv 0) A8 (nomark _)))))
   (@A4 _ _ _ (Az (i:=6) sc.nd rfl (Or.inl rfl) (Ae Z5n hr rfl A7 (A0 (pv 6) (A0 (pv 2) (A0 (Ae Zr hr rfl A7 (A0 (pv 4) (A0 A8 A2))) A2))))))
   Aj)
  (@A3 _ _ _ _ _ (As (PW.pt (Qz (Am Bg (pv 0) A8 (nomark _)) (N8 (Am Bg (pv 0) A8 (nomark _)))))
   (@A4 _ _ _ (Az (i:=6) sc.nd rfl (Or.inl rfl) (Ae Z5n hr rfl A7 (A0 (pv 6) (A0 (pv 3) (A0 (Ae Zr hr rfl A7 (A0 (pv 4) (A0 A8 A2))) A2))))))
   Aj)
  (@A3 _ _ _ _ _ (Lp Ds rfl (Xr rfl T.Z49 (A0 (pv 6) A2)) (Uq rfl (Dc (Cr (i:=7) sc.nd rfl (Or.inl rfl)) (Dc (Cr (i:=8) sc.nd rfl (Or.inl rfl)) Ml)))
   (@A3 _ _ _ _ _ (As (Am Bg (pv 8) (pv 2) (nomark _))
    (@A4 _ _ _ (@Af _ _ _ _ (@Bd _ _ _ _ (A0 (pv 6) (A0 (Bh (@Ag _ _ _ _ _ _ _ B3 (@Ag _ _ _ _ _ _ _ Cw (A0 (pv 8) (A0 (pv 7) A2))))) A2)))))
    Aj)
   (@A4 _ _ _ (As (Am Bg (pv 8) (pv 3) (nomark _))
    (@A4 _ _ _ (@Af _ _ _ _ (@Bd _ _ _ _ (A0 (pv 6) (A0 (Bh (@Ag _ _ _ _ _ _ _ B3 (@Ag _ _ _ _ _ _ _ Cw (A0 (pv 8) (A0 (pv 7) A2))))) A2)))))
    Aj))))
  (@A4 _ _ _ (@Af _ _ _ _ (@Bd _ _ _ _ (A0 (pv 6) (A0 (Bh (@Ag _ _ _ _ _ _ _ B3 (@Ag _ _ _ _ _ _ _ Cw (@Ag _ _ _ _ _ _ _ B3 (@Ag _ _ _ _ _ _ _ A8 A2))))) A2)))))))))),?_⟩
 ext:4;have fin:∀(r:N2R.R4) (s:Addr) (xs:List Str) (H1:Hp),Aa H H1->H1 s=some (.lst (xs.map V.str))->xs.length<=250->D0 ts (.int n) xs=r.d->r≠ .no->∀t,H1 t=none->∀l,upd H1 t (.tup r.vs) l=none->Q (.ref l) (upd (upd H1 t (.tup r.vs)) l (.lst [.ref s,.ref t])):=λr s xs H1 sm hs hx e hn t ht l hl'=>q l s t xs r _ ((sm.trans (Aa.new ht)).trans (Aa.new hl')) A1 ((Aa.new hl') _ _ ((Aa.new ht) _ _ hs)) hx ((Aa.new hl') _ _ A1) e hn;ext
 by_cases e2:way=2
 . rw[if_pos e2]
   ext;intro p1 hp1;have s1:Aa H (upd H p1 (.lst [V.str zw])):=Aa.new hp1;have k1:=A1 (H:=H) (a:=p1) (o:= .lst [V.str zw]);have ha1:=s1 _ _ ha;generalize upd H p1 (.lst [V.str zw])=H1 at s1 k1 ha1 ⊢;refine⟨a,p1,_,_,rfl,rfl,ha1,k1,by rw[Fa];simp only[List.length_cons,List.length_nil];omega,λp2 hp2=>?_⟩;rw[show ys.map V.str++[V.str zw]=(ys++[zw]).map V.str by rw[Fz];rfl];have s2:=s1.trans (Aa.new (o:= .lst ((ys++[zw]).map V.str)) hp2);have k2:=A1 (H:=H1) (a:=p2) (o:= .lst ((ys++[zw]).map V.str));generalize upd H1 p2 (.lst ((ys++[zw]).map V.str))=H2 at s2 k2 ⊢
   obtain⟨z0,hz0⟩:∃z0,(ys++[zw])[0]?=some z0:=⟨_,Fb (by rw[Fn];simp)⟩
   have hm0:=FH (ns.getD 6 0) (show (20:Int)≠0 by decide);have hm1:=FD (ns.getD 6 0) (show (0:Int) < 20 by decide)
   obtain⟨m,hm⟩:∃m:Nat,(201+ns.getD 6 0 % 20 - 1).toNat=m/\200<=m/\m<=219:=⟨_,rfl,by omega,by omega⟩
   refine Ck (SqL.of k2) (v:=V.str z0) (Ce (j:=0) (by rw[Ff,hz0];rfl)) ⟨by omega,λp3 hp3=>⟨_,A1,by omega,by omega,?_,λp4 hp4=>?_⟩⟩
   . simp only[List.length_cons,List.length_nil];omega
   rw[hm.1];rw[show (List.replicate m [V.str z0]).flatten=(List.replicate m z0).map V.str by rw[List.map_replicate];simp];have s4:=s2.trans ((Aa.new (o:= .lst [V.str z0]) hp3).trans (Aa.new (o:= .lst ((List.replicate m z0).map V.str)) hp4));have k4:=A1 (H:=upd H2 p3 (.lst [V.str z0])) (a:=p4) (o:= .lst ((List.replicate m z0).map V.str));generalize upd (upd H2 p3 (.lst [V.str z0])) p4 (.lst ((List.replicate m z0).map V.str))=H4 at s4 k4 ⊢;refine⟨ns,s4.seq hS,by decide,hl,List.replicate m z0,SqL.of k4,by rw[Hl];omega,λi p5 H5 hi sm5 hp5 hk5=>?_⟩;rw[Hl]at hi
   have hxl:((List.replicate m z0).take i++[zs]++(List.replicate m z0).drop i).length=m+1:=by
    rw[Fn,Fn,FF,Hc,Hl];simp only[List.length_cons,List.length_nil];omega
   have sm:=s4.trans sm5;generalize (List.replicate m z0).take i++[zs]++(List.replicate m z0).drop i=xs at hk5 hxl
   have hxa:xs.length<=250/\200 < xs.length:=by omega
   clear hxl hm;ext:1
   exact λt ht=>⟨by omega,fin .many p5 xs H5 sm hk5 hxa.1 (J4y h1 h2 hxa.2) (by intro z;cases z) t ht⟩
 rw[if_neg e2];ext:1;refine⟨_,.inl (SqL.of ha),λl hl0=>?_⟩;have s1:Aa H (upd H l (.lst (ys.map V.str))):=Aa.new hl0;have k1:=A1 (H:=H) (a:=l) (o:= .lst (ys.map V.str));generalize upd H l (.lst (ys.map V.str))=H1 at s1 k1 ⊢;ext:1
 have put_mem:∀{z:Str}{i:Nat}{l:List Str}{y:Str},y∈l.take i++[z]++l.drop i↔y∈l\/y=z:=λ{z i l y}=>by
  rw[FB,FB,Fo];constructor
  . rintro((h | h) | h)
    . exact .inl (R6 h)
    . exact .inr h
    . exact .inl (List.mem_of_mem_drop h)
  . rintro(h | h)
    . rw[<- List.take_append_drop i l]at h
      rcases FB.mp h with h | h
      . exact .inl (.inl h)
      . exact .inr h
    . exact .inl (.inr h)
 have put_len:∀{z:Str}{i:Nat}{l:List Str},(l.take i++[z]++l.drop i).length=l.length+1:=λ{z i l}=>by
  rw[Fn,Fn,FF,Hc];simp only[List.length_cons,List.length_nil];omega
 rename_i rest hrest
 have key:∀(s:Addr) (xs:List Str) (H2:Hp),Aa H H2->H2 s=some (.lst (xs.map V.str))->xs.length<=97->(∀y∈xs,y∈ys\/y=zs)->(way≠4->zs∈xs)->rest [some (V.int way),some (V.ref a),some (V.str zs),some (V.str zw),some (V.ref sc5),none,some (V.ref s),none,none] H2:=by
  intro s xs H2 sm hs hxl hin2 hz;subst hrest;ext;rename_i rest hrest
  have key2:∀(s:Addr) (xs:List Str) (H2:Hp),Aa H H2->H2 s=some (.lst (xs.map V.str))->xs.length<=98->(∀y∈xs,y∈ys\/y=zs\/y=zw)->(zs∈xs\/zw∈xs)->rest [some (V.int way),some (V.ref a),some (V.str zs),some (V.str zw),some (V.ref sc5),none,some (V.ref s),none,none] H2:=by
   intro s xs H2 sm hs hxl hin2 hz;subst hrest;ext;rename_i rest hrest;refine⟨⟨_,SqL.of hs⟩,Xs (xs:=xs.map V.str) (λi σ H'=>∃v7 v8:Option V,σ=[some (V.int way),some (V.ref a),some (V.str zs),some (V.str zw),some (V.ref sc5),none,some (V.ref s),v7,v8]/\Aa H2 H'/\bad ts n xs 0=bad ts n (xs.drop i) i/\∀j y,j < i->xs[j]?=some y->y≠zs/\y≠zw) ⟨none,none,rfl,Aa.refl H2,rfl,λj y hj=>absurd hj (Nat.not_lt_zero _)⟩ (λi σ H' _ h_=>by obtain⟨_,_,_,sm',_⟩:=h_;exact SqL.of (sm' _ _ hs)) ?_ ?_⟩
   . clear hrest
     rintro i u σ H' t hu ⟨v7,v8,rfl,sm',hb,hno⟩ htn;rw[Ff]at hu
     cases hr0:xs[i]? with
     | none=>rw[hr0]at hu;cases hu
     | some y=>
     rw[hr0]at hu;cases hu;rw[Ui hr0]at hb;have hi:=(Fh.mp hr0).1;have hym:=hin2 y (Fq hr0);ext;refine⟨_,SqT.of A1,rfl,_,_,rfl,_,_,rfl,rfl,?_⟩;have sm4:=sm'.trans (Aa.new (o:= .tup [V.int i,V.str y]) htn);generalize upd H' t (.tup [V.int i,V.str y])=H4 at sm4 ⊢;ext
     by_cases ez:y=zs
     . rw[if_pos ez]
       rw[if_neg (by rw[ez];exact hzs)]at hb;exact⟨by omega,λt2 ht2=>⟨by omega,fin (.unk y i) s xs H4 (sm.trans sm4) (sm4 _ _ hs) (by omega) (J4x h1 h2 (by omega) hb) (by intro z;cases z) t2 ht2⟩⟩
     rw[if_neg ez];ext:1
     by_cases ew:y=zw
     . rw[if_pos ew]
       rw[if_pos (by rw[ew];exact hzw),if_pos (by rw[ew];exact hwr)]at hb;exact⟨by omega,λt2 ht2=>⟨by omega,fin (.wide y i) s xs H4 (sm.trans sm4) (sm4 _ _ hs) (by omega) (J4x h1 h2 (by omega) hb) (by intro z;cases z) t2 ht2⟩⟩
     rw[if_neg ew];have hyy:y∈ys:=hym.elim id λh=>h.elim (λe=>absurd e ez) λe=>absurd e ew;rw[if_pos (hin y hyy).1,if_neg (hin y hyy).2]at hb;refine⟨sm4,hb,λj y' hj e=>?_⟩
     by_cases ej:j=i
     . rw[ej,hr0]at e
       cases e;exact⟨ez,ew⟩
     . exact hno j y' (by omega) e
   . rintro σ H' ⟨v7,v8,rfl,sm',hb,hno⟩
     rw[Fa]at hno;rcases hz with hz | hz
     . obtain⟨j,hj⟩:=FL.mp hz
       exact absurd rfl (hno j zs (Fh.mp hj).1 hj).1
     . obtain⟨j,hj⟩:=FL.mp hz
       exact absurd rfl (hno j zw (Fh.mp hj).1 hj).2
  have step:∃x,SqL K H2 sc5 (List.map V.int x)/\(0:Int)<=7/\x.length<=63/\∃x,SqL K H2 s (List.map V.str x)/\x.length<=250/\∀(i:Nat) (p:Addr) (H':Hp),i<=x.length->Aa H2 H'->H2 p=none->H' p=some (HO.lst (List.map V.str (List.take i x++[zw]++List.drop i x)))->rest [some (V.int way),some (V.ref a),some (V.str zs),some (V.str zw),some (V.ref sc5),none,some (V.ref p),none,none] H':=⟨ns,sm.seq hS,by decide,hl,xs,SqL.of hs,by omega,λi p H' _ sm' _ hp'=>key2 p _ H' (sm.trans sm') hp' (by rw[put_len];omega) (λy hy=>(put_mem.mp hy).elim (λh=>(hin2 y h).elim .inl λe=> .inr (.inl e)) λe=> .inr (.inr e)) (.inr (put_mem.mpr (.inr rfl)))⟩
  by_cases e4:way=4
  . rw[if_pos e4];exact step
  rw[if_neg e4]
  by_cases e5:way=5
  . rw[if_pos e5];exact step
  rw[if_neg e5];exact key2 s xs H2 sm hs (by omega) (λy hy=>(hin2 y hy).elim .inl λe=> .inr (.inl e)) (.inl (hz e4))
 clear hrest
 have step:∃x,SqL K H1 sc5 (List.map V.int x)/\(0:Int)<=6/\x.length<=63/\∃x,SqL K H1 l (List.map V.str x)/\x.length<=250/\∀(i:Nat) (p:Addr) (H':Hp),i<=x.length->Aa H1 H'->H1 p=none->H' p=some (HO.lst (List.map V.str (List.take i x++[zs]++List.drop i x)))->rest [some (V.int way),some (V.ref a),some (V.str zs),some (V.str zw),some (V.ref sc5),none,some (V.ref p),none,none] H':=⟨ns,s1.seq hS,by decide,hl,ys,SqL.of k1,by omega,λi p H' _ sm' _ hp'=>key p _ H' (s1.trans sm') hp' (by rw[put_len];omega) (λy hy=>put_mem.mp hy) (λ_=>put_mem.mpr (.inr rfl))⟩
 by_cases e3:way=3
 . rw[if_pos e3];exact step
 rw[if_neg e3]
 by_cases e5:way=5
 . rw[if_pos e5];exact step
 rw[if_neg e5];exact key l ys H1 s1 k1 (by omega) (λy hy=> .inl hy) (λh=>absurd (show way=4 by omega) h)
variable (Z5h:Def P w K mg base (CXF P w) 2 "_law_spoilt" ["_law_way","_law_asks","_law_strange","_law_wide","_law_script"] (Gw K))
include T in
theorem Zcd(F:Fun K "_law_alone" "_law_alone" Z79 f fd):Pt P w K mg base (CXF P w) 1 f fd ["_law_e"] (Kd K [Z4,Zc,Z7,Z8] Zf):=by
 have sc:A9 ["_law_e","_law_some"] ["_law_e"] (A6 Z79):=by ext:3
 refine F.okH sc (λvs H Q E h_=>?_) (λcdv A outer s H vs Q E hr h_=>?_)
 . exact n3 h_ λ_ _ _=>rfl
 refine x3 h_ λp C k e_=>y5 e_ λe0 hp hr' hk q=>?_;clear e_ h_;subst e0
 refine⟨_,(@A3 _ _ _ _ _ (Az (i:=1) sc.nd rfl (Or.inl rfl) (@Bd _ _ _ _ (A0 (Aw E7 rfl T.Z05 (by first | rfl | decide+kernel) (A0 (pv 0) (A0 (Be (v:= .ref Z4) rfl T.Z1u rfl) A2))) (A0 (Aw E7 rfl T.Z05 (by first | rfl | decide+kernel) (A0 (pv 0) (A0 (Be (v:= .ref Zc) rfl T.Z63 rfl) A2))) (A0 (Aw E7 rfl T.Z05 (by first | rfl | decide+kernel) (A0 (pv 0) (A0 (Be (v:= .ref Z7) rfl T.Z72 rfl) A2))) (A0 (Aw E7 rfl T.Z05 (by first | rfl | decide+kernel) (A0 (pv 0) (A0 (Be (v:= .ref Z8) rfl T.Z73 rfl) A2))) A2))))))
  (@A4 _ _ _ (@Af _ _ _ _ (Na (Aw E7 rfl T.Z05 (by first | rfl | decide+kernel) (A0 (pv 0) (A0 (Be (v:= .ref Zf) rfl T.Zb0 rfl) A2))) (Na (Aw E7 rfl T.Z05 (by first | rfl | decide+kernel) (A0 (pv 0) (A0 (Mj (v:= .ty "ValueError") rfl T.Z5p (by first | rfl | decide+kernel) rfl) A2))) (N9 (E1 Bg (Dx Fx PySem.F.slot_list_count PySem.F.type_list_count J4v (pv 1) (A0 Cw A2)) A8 (nomark _)))))))),?_⟩
 ext:4;obtain⟨qi,ce,ve,f0,f1,f2,f3,_⟩:=hr';ext;refine Lh hp qi f0 (Lh hp qi f1 (Lh hp qi f2 (Lh hp qi f3 ⟨by omega,λl hl=>?_⟩)));have s1:Aa H (upd H l (.lst [V.bl (decide (0=k)),V.bl (decide (1=k)),V.bl (decide (2=k)),V.bl (decide (3=k))])):=Aa.new hl;have e1:upd H l (.lst [V.bl (decide (0=k)),V.bl (decide (1=k)),V.bl (decide (2=k)),V.bl (decide (3=k))]) l=some (.lst ([decide (0=k),decide (1=k),decide (2=k),decide (3=k)].map V.bl)):=A1;generalize upd H l (.lst [V.bl (decide (0=k)),V.bl (decide (1=k)),V.bl (decide (2=k)),V.bl (decide (3=k))])=H1 at s1 e1 ⊢;have hp1:=hp.same s1;ext:1;refine Lh hp1 qi ce ⟨_,rfl,?_⟩;rw[if_pos rfl];refine J6o hp1 qi ve ⟨_,rfl,?_⟩;rw[if_pos rfl];refine⟨.inl ⟨rfl,_,SqL.of e1⟩,_,e1,?_⟩
 have hc:List.count true [decide (0=k),decide (1=k),decide (2=k),decide (3=k)]=1:=by
  have h4:k=0\/k=1\/k=2\/k=3:=by omega
  rcases h4 with e | e | e | e <;> rw[e] <;> rfl
 rw[hc];exact q _ s1
variable (Z0e:Ja0 P w K mg base (CXF P w) 1 "_law_alone" ["_law_e"] (Kd K [Z4,Zc,Z7,Z8] Zf))
include T Z6 Za Zl Zm Zp Zq Zj Zo in
theorem Zb4(F:Fun K "_law_made" "_law_made" Z2h f fd):Ai P w K mg base (CXF P w) 9 f fd ["_law_which","_law_stock","_law_places","_law_asks","_law_turn"] (Ir (CV.mk Zb Z2 Z3 Z5 Z9 Z1 Z0)):=by
 have sc:A9 ["_law_which","_law_stock","_law_places","_law_asks","_law_turn"] ["_law_which","_law_stock","_law_places","_law_asks","_law_turn"] (A6 Z2h):=by ext:3
 ext:2
 . exact n4 h_ λ_ _ _ _=>rfl
 refine x4 h_ λw8 st a n e_=>y4 e_ λe0 h1 h2 q=>?_;clear e_ h_;subst e0;replace Z6:=Z6.weaker λ_ _ _ _ h=> .inl h;replace Za:=Za.weaker λ_ _ _ _ h=> .inl h;replace Zl:=Zl.weaker λ_ _ _ _ h=> .inl h;replace Zm:=Zm.weaker λ_ _ _ _ h=> .inl h;replace Zp:=Zp.weaker λ_ _ _ _ h=> .inl h;replace Zq:=Zq.weaker λ_ _ _ _ h=> .inl h;replace Zj:=Zj.weaker λ_ _ _ _ h=> .inl h
 refine⟨_,(@A3 _ _ _ _ _ (As (Am Bg (pv 0) A8 (nomark _))
  (@A4 _ _ _ (@Af _ _ _ _ (B0 Z6.toI hr rfl (Ap A7) (A0 (pv 1) (A0 (pv 2) A2)))))
  Aj)
  (@A3 _ _ _ _ _ (As (Am Bg (pv 0) A8 (nomark _))
   (@A4 _ _ _ (@Af _ _ _ _ (B0 Za.toI hr rfl (Ap A7) (A0 (pv 1) (A0 (pv 2) A2)))))
   Aj)
  (@A3 _ _ _ _ _ (As (Am Bg (pv 0) A8 (nomark _))
   (@A4 _ _ _ (@Af _ _ _ _ (B0 Zl hr rfl (Ap A7) (A0 (pv 1) (A0 (pv 2) A2)))))
   Aj)
  (@A3 _ _ _ _ _ (As (Am Bg (pv 0) A8 (nomark _))
   (@A4 _ _ _ (@Af _ _ _ _ (B0 Zm hr rfl (Ap A7) (A0 (pv 1) (A0 (pv 2) A2)))))
   Aj)
  (@A3 _ _ _ _ _ (As (Am Bg (pv 0) A8 (nomark _))
   (@A4 _ _ _ (@Af _ _ _ _ (B0 Zp hr rfl (Ap A7) (A0 (pv 1) (A0 (pv 2) A2)))))
   Aj)
  (@A3 _ _ _ _ _ (As (Am Bg (pv 0) A8 (nomark _))
   (@A4 _ _ _ (@Af _ _ _ _ (B0 Zq hr rfl (Ap A7) (A0 (pv 1) (A0 (pv 2) A2)))))
   Aj)
  (@A3 _ _ _ _ _ (As (Am Bg (pv 0) A8 (nomark _))
   (@A4 _ _ _ (@Af _ _ _ _ (B0 Zj.toI hr rfl (Ap A7) (A0 (pv 1) (A0 (pv 2) (A0 (pv 4) A2))))))
   Aj)
  (@A4 _ _ _ (@Af _ _ _ _ (B0 Zo hr rfl (Ap A7) (A0 (pv 1) (A0 (pv 2) (A0 (pv 3) A2))))))))))))),?_⟩
 ext:4
 cases w8 with
 | ru=>
  rw[show V7.ru.i=0 from rfl];ext;intro x dx hx hdx ne;refine⟨Zb,dx,A1,T.Z3e,T.Z1k,T.Z18,h1,h2,λH' sb hq=>?_⟩;exact q x [x] H' (Cu hx hdx sb) (λm hm=>by rw[Fo]at hm;rw[hm];exact hx) ⟨rfl,dx,hq⟩
 | ra=>
  rw[show V7.ra.i=1 from rfl];ext;intro x dx hx hdx ne;refine⟨Z2,dx,A1,T.Z01,T.Z0x,T.Z0q,T.Z14,T.Z24,h1,h2,λH' la sb hla nla hq hl=>?_⟩
  exact q x [x,la] H' (Cu hx hdx sb) (λm hm=>by
   simp only[Ft,FM,or_false]at hm;rcases hm with e | e
   . rw[e];exact hx
   . rw[e];exact C4 hla) ⟨la,rfl,⟨dx,hq⟩,hl⟩
 | ol=>
  rw[show V7.ol.i=2 from rfl];ext;intro x dx hx hdx ne;refine⟨Z3,dx,A1,T.Z02,T.Z0y,T.Z0r,T.Z15,T.Z25,h1,h2,λH' la sb hla nla hq hl=>?_⟩
  exact q x [x,la] H' (Cu hx hdx sb) (λm hm=>by
   simp only[Ft,FM,or_false]at hm;rcases hm with e | e
   . rw[e];exact hx
   . rw[e];exact C4 hla) ⟨la,rfl,⟨dx,hq⟩,hl⟩
 | fi=>
  rw[show V7.fi.i=3 from rfl];ext;intro x dx hx hdx ne;refine⟨dx,A1,h1,h2,λH' la pa sb hla hpa hh=>?_⟩
  exact q x [x,la,pa] H' (Cu hx hdx sb) (λm hm=>by
   simp only[Ft,FM,or_false]at hm;rcases hm with e | e | e
   . rw[e];exact hx
   . rw[e];exact C4 hla
   . rw[e];exact C4 hpa) hh
 | hd=>
  rw[show V7.hd.i=4 from rfl];ext;intro x dx hx hdx ne;refine⟨dx,A1,h1,h2,λH' od md sb hod hmd hh=>?_⟩
  exact q x [x,od,md] H' (Cu hx hdx sb) (λm hm=>by
   simp only[Ft,FM,or_false]at hm;rcases hm with e | e | e
   . rw[e];exact hx
   . rw[e];exact C4 hod
   . rw[e];exact C4 hmd) hh
 | ro=>
  rw[show V7.ro.i=5 from rfl];ext;intro x dx hx hdx ne;refine⟨dx,A1,h1,h2,λH' l1 l2 l3 l4 sb hl1 hl2 hl3 hl4 hh=>?_⟩
  exact q x [x,l1,l2,l3,l4] H' (Cu hx hdx sb) (λm hm=>by
   simp only[Ft,FM,or_false]at hm;rcases hm with e | e | e | e | e
   . rw[e];exact hx
   . rw[e];exact C4 hl1
   . rw[e];exact C4 hl2
   . rw[e];exact C4 hl3
   . rw[e];exact C4 hl4) ⟨l1,l2,l3,l4,rfl,hh⟩
 | ha=>
  rw[show V7.ha.i=6 from rfl];ext;intro x dx hx hdx ne;refine⟨dx,A1,h1,h2,by decide,by decide,λH' la pa sb hla hpa hh=>?_⟩
  exact q x [x,la,pa] H' (Cu hx hdx sb) (λm hm=>by
   simp only[Ft,FM,or_false]at hm;rcases hm with e | e | e
   . rw[e];exact hx
   . rw[e];exact C4 hla
   . rw[e];exact C4 hpa) hh
include T Z6 Za Zl Zm Zp Zq Zj Zo in
theorem Zb5(F:Fun K "_law_made" "_law_made" Z2h f fd):Ai P w K mg base (CXF P w) 9 f fd ["_law_which","_law_stock","_law_places","_law_asks","_law_turn"] (Ll (E4.mk Z4 Zc Z7 Z8) K Zd):=by
 have sc:A9 ["_law_which","_law_stock","_law_places","_law_asks","_law_turn"] ["_law_which","_law_stock","_law_places","_law_asks","_law_turn"] (A6 Z2h):=by ext:3
 ext:2
 . exact n8 h_ λ_ _ _ _ _ _ _ _=>rfl
 refine x8 h_ λk st a u v ts ys r e_=>y9 e_ λe0 hs nd hS hl hu hv hy tl=>?_;clear e_ h_;subst e0;replace Z6:=Z6.weaker λ_ _ _ _ h=> .inr h;replace Za:=Za.weaker λ_ _ _ _ h=> .inr h;replace Zl:=Zl.weaker λ_ _ _ _ h=> .inr h;replace Zm:=Zm.weaker λ_ _ _ _ h=> .inr h;replace Zp:=Zp.weaker λ_ _ _ _ h=> .inr h;replace Zq:=Zq.weaker λ_ _ _ _ h=> .inr h;replace Zj:=Zj.weaker λ_ _ _ _ h=> .inr (.inl h)
 refine⟨_,(@A3 _ _ _ _ _ (As (Am Bg (pv 0) A8 (nomark _))
  (@A4 _ _ _ (@Af _ _ _ _ (B0 Z6.toI hr rfl (Ap A7) (A0 (pv 1) (A0 (pv 2) A2)))))
  Aj)
  (@A3 _ _ _ _ _ (As (Am Bg (pv 0) A8 (nomark _))
   (@A4 _ _ _ (@Af _ _ _ _ (B0 Za.toI hr rfl (Ap A7) (A0 (pv 1) (A0 (pv 2) A2)))))
   Aj)
  (@A3 _ _ _ _ _ (As (Am Bg (pv 0) A8 (nomark _))
   (@A4 _ _ _ (@Af _ _ _ _ (B0 Zl hr rfl (Ap A7) (A0 (pv 1) (A0 (pv 2) A2)))))
   Aj)
  (@A3 _ _ _ _ _ (As (Am Bg (pv 0) A8 (nomark _))
   (@A4 _ _ _ (@Af _ _ _ _ (B0 Zm hr rfl (Ap A7) (A0 (pv 1) (A0 (pv 2) A2)))))
   Aj)
  (@A3 _ _ _ _ _ (As (Am Bg (pv 0) A8 (nomark _))
   (@A4 _ _ _ (@Af _ _ _ _ (B0 Zp hr rfl (Ap A7) (A0 (pv 1) (A0 (pv 2) A2)))))
   Aj)
  (@A3 _ _ _ _ _ (As (Am Bg (pv 0) A8 (nomark _))
   (@A4 _ _ _ (@Af _ _ _ _ (B0 Zq hr rfl (Ap A7) (A0 (pv 1) (A0 (pv 2) A2)))))
   Aj)
  (@A3 _ _ _ _ _ (As (Am Bg (pv 0) A8 (nomark _))
   (@A4 _ _ _ (@Af _ _ _ _ (B0 Zj.toI hr rfl (Ap A7) (A0 (pv 1) (A0 (pv 2) (A0 (pv 4) A2))))))
   Aj)
  (@A4 _ _ _ (@Af _ _ _ _ (B0 Zo hr rfl (Ap A7) (A0 (pv 1) (A0 (pv 2) (A0 (pv 3) A2))))))))))))),?_⟩
 ext:4
 have smx:∀x dx C,H x=none->H dx=none->Aa H (upd (upd H dx (.own x)) x (.ins C dx [])):=λx dx C hx hdx b o e=>by rw[A5 (Ab e hx),A5 (Ab e hdx)];exact e
 rcases hy with ⟨k0,k7,hw,rfl⟩ | ⟨rfl,ha⟩
 . obtain⟨w,rfl⟩:=J88 k0 k7
   have qe:NoN Z4 H E:=tl
   have key:∀x dx C,H x=none->H dx=none->G5 (upd (upd H dx (.own x)) x (.ins C dx [])) u/\wIn 1 1000000 u=false/\NoN Z4 (upd (upd H dx (.own x)) x (.ins C dx [])) E:=λx dx C hx hdx=>⟨hu.same (smx x dx C hx hdx),hw,λH' y s hy=>qe H' y ((smx x dx C hx hdx).trans s) (B4 (smx x dx C hx hdx) hy)⟩
   cases w with
   | ru=>
    rw[show V7.ru.i=0 from rfl];ext;exact λx dx hx hdx _=>key x dx _ hx hdx
   | ra=>
    rw[show V7.ra.i=1 from rfl];ext;exact λx dx hx hdx _=>key x dx _ hx hdx
   | ol=>
    rw[show V7.ol.i=2 from rfl];ext;exact λx dx hx hdx _=>key x dx _ hx hdx
   | fi=>
    rw[show V7.fi.i=3 from rfl];ext;exact λx dx hx hdx _=>key x dx _ hx hdx
   | hd=>
    rw[show V7.hd.i=4 from rfl];ext;exact λx dx hx hdx _=>key x dx _ hx hdx
   | ro=>
    rw[show V7.ro.i=5 from rfl];ext;exact λx dx hx hdx _=>key x dx _ hx hdx
   | ha=>
    rw[show V7.ha.i=6 from rfl];ext;exact λx dx hx hdx _=>key x dx _ hx hdx
 . ext
   intro x dx hx hdx ne;have sm:=smx x dx Zn hx hdx;exact⟨ts,hs.same sm,nd,ys,sm.seq hS,hl,hu.same sm,r,ha,tl.sm sm⟩
include T Z6 Za Zl Zm Zp Zq Zj Zo in
theorem Zb6(F:Fun K "_law_made" "_law_made" Z2h f fd):Ai P w K mg base (CXF P w) 9 f fd ["_law_which","_law_stock","_law_places","_law_asks","_law_turn"] (Lm Z4):=by
 have sc:A9 ["_law_which","_law_stock","_law_places","_law_asks","_law_turn"] ["_law_which","_law_stock","_law_places","_law_asks","_law_turn"] (A6 Z2h):=by ext:3
 ext:2
 . exact n4 h_ λ_ _ _ _=>rfl
 refine x4 h_ λst a n v e_=>y6 e_ λe0 h1 h2 hv hw qe=>?_;clear e_ h_;subst e0;replace Zj:=Zj.weaker λ_ _ _ _ h=> .inr (.inr h)
 refine⟨_,(@A3 _ _ _ _ _ (As (Am Bg (pv 0) A8 (nomark _))
  (@A4 _ _ _ (@Af _ _ _ _ (B0 Z6.toI hr rfl (Ap A7) (A0 (pv 1) (A0 (pv 2) A2)))))
  Aj)
  (@A3 _ _ _ _ _ (As (Am Bg (pv 0) A8 (nomark _))
   (@A4 _ _ _ (@Af _ _ _ _ (B0 Za.toI hr rfl (Ap A7) (A0 (pv 1) (A0 (pv 2) A2)))))
   Aj)
  (@A3 _ _ _ _ _ (As (Am Bg (pv 0) A8 (nomark _))
   (@A4 _ _ _ (@Af _ _ _ _ (B0 Zl hr rfl (Ap A7) (A0 (pv 1) (A0 (pv 2) A2)))))
   Aj)
  (@A3 _ _ _ _ _ (As (Am Bg (pv 0) A8 (nomark _))
   (@A4 _ _ _ (@Af _ _ _ _ (B0 Zm hr rfl (Ap A7) (A0 (pv 1) (A0 (pv 2) A2)))))
   Aj)
  (@A3 _ _ _ _ _ (As (Am Bg (pv 0) A8 (nomark _))
   (@A4 _ _ _ (@Af _ _ _ _ (B0 Zp hr rfl (Ap A7) (A0 (pv 1) (A0 (pv 2) A2)))))
   Aj)
  (@A3 _ _ _ _ _ (As (Am Bg (pv 0) A8 (nomark _))
   (@A4 _ _ _ (@Af _ _ _ _ (B0 Zq hr rfl (Ap A7) (A0 (pv 1) (A0 (pv 2) A2)))))
   Aj)
  (@A3 _ _ _ _ _ (As (Am Bg (pv 0) A8 (nomark _))
   (@A4 _ _ _ (@Af _ _ _ _ (B0 Zj.toI hr rfl (Ap A7) (A0 (pv 1) (A0 (pv 2) (A0 (pv 4) A2))))))
   Aj)
  (@A4 _ _ _ (@Af _ _ _ _ (B0 Zo hr rfl (Ap A7) (A0 (pv 1) (A0 (pv 2) (A0 (pv 3) A2))))))))))))),?_⟩
 ext:4;ext;intro x dx hx hdx ne
 have sm:Aa H (upd (upd H dx (.own x)) x (.ins Z0 dx [])):=λb o e=>by rw[A5 (Ab e hx),A5 (Ab e hdx)];exact e
 exact⟨dx,A1,h1,h2,hv.same sm,hw,λH' y sb hy er=>qe H' y (Cu hx hdx sb) (B4 sm hy) er⟩
include T Z6 Za Zl Zm Zp Zq Zj Zo in
theorem Zev(F:Fun K "_law_made" "_law_made" Z2h f fd):Ai P w K mg base (CXF P w) 9 f fd ["_law_which","_law_stock","_law_places","_law_asks","_law_turn"] (λvs H Q E=>(Ir (CV.mk Zb Z2 Z3 Z5 Z9 Z1 Z0)) vs H Q E\/(λvs H Q E=>(Ll (E4.mk Z4 Zc Z7 Z8) K Zd) vs H Q E\/(Lm Z4) vs H Q E) vs H Q E):=(Ai.or (Zb4 T Z6 Za Zl Zm Zj Zo Zp Zq F) (Ai.or (Zb5 T Z6 Za Zl Zm Zj Zo Zp Zq F) (Zb6 T Z6 Za Zl Zm Zj Zo Zp Zq F)))
variable (Z0u:Def P w K mg base (CXF P w) 9 "_law_made" ["_law_which","_law_stock","_law_places","_law_asks","_law_turn"] (λvs H Q E=>(Ir (CV.mk Zb Z2 Z3 Z5 Z9 Z1 Z0)) vs H Q E\/(λvs H Q E=>(Ll (E4.mk Z4 Zc Z7 Z8) K Zd) vs H Q E\/(Lm Z4) vs H Q E) vs H Q E))
include T Z0k Z0e in
theorem Zew(F:Fun K "_law_told" "_law_told" Z7y f fd):Ai P w K mg base (CXF P w) 10 f fd ["_law_rule","_law_asks"] (Lk (CV.mk Zb Z2 Z3 Z5 Z9 Z1 Z0) K Zd):=by
 have sc:A9 ["_law_rule","_law_asks","_law_e"] ["_law_rule","_law_asks"] (A6 Z7y):=by ext:3
 refine F.okF sc (λvs H Q E h=>?_) (λcdv A outer s H vs Q E hr h=>?_)
 . obtain⟨_,_,_,_,_,_,_,_,_,_,rfl,_⟩:=h;rfl
 obtain⟨w8,q',p,a,M,n,s,ts,ys,r,rfl,hh,hs,nd,hS,hl,hr',hno,q⟩:=h;replace Z0k:=Z0k.weaker λ_ _ _ _ h=> .inr h
 refine⟨_,(@A3 _ _ _ _ _ (Xc rfl rfl (λt hp=>(@A4 _ _ _ (Al (Sl Z0k hr rfl hp (A0 (pv 0) (A0 (pv 1) A2))))))
  (Ih (i:=2) rfl sc.nd rfl rfl rfl T.Z1u (λx=>(@A4 _ _ _ (@Af _ _ _ _ (Bh (@Ag _ _ _ _ _ _ _ B3 (A0 (Du Z0e (hr.hm _) rfl (Ap D2) (A0 (pv 2) A2)) (@Ag _ _ _ _ _ _ _ B3 (@Ag _ _ _ _ _ _ _ A8 A2)))))))) (Ih (i:=2) rfl sc.nd rfl rfl rfl T.Z63 (λx=>(@A4 _ _ _ (@Af _ _ _ _ (Bh (@Ag _ _ _ _ _ _ _ B3 (A0 (Du Z0e (hr.hm _) rfl (Ap D2) (A0 (pv 2) A2)) (@Ag _ _ _ _ _ _ _ B3 (@Ag _ _ _ _ _ _ _ A8 A2)))))))) (Ih (i:=2) rfl sc.nd rfl rfl rfl T.Z72 (λx=>(@A4 _ _ _ (@Af _ _ _ _ (Bh (@Ag _ _ _ _ _ _ _ B3 (A0 (Du Z0e (hr.hm _) rfl (Ap D2) (A0 (pv 2) A2)) (A0 (Eg (pv 2) rfl) (A0 (Eg (pv 2) rfl) A2)))))))) (Ih (i:=2) rfl sc.nd rfl rfl rfl T.Z73 (λx=>(@A4 _ _ _ (@Af _ _ _ _ (Bh (@Ag _ _ _ _ _ _ _ B3 (A0 (Du Z0e (hr.hm _) rfl (Ap D2) (A0 (pv 2) A2)) (A0 (Eg (pv 2) rfl) (A0 (Eg (pv 2) rfl) A2)))))))) Xb)))))
  (@A4 _ _ _ (@Af _ _ _ _ (Bh (@Ag _ _ _ _ _ _ _ B3 (@Ag _ _ _ _ _ _ _ Cw (@Ag _ _ _ _ _ _ _ B3 (@Ag _ _ _ _ _ _ _ A8 A2)))))))),?_⟩
 ext:4;have fin:∀H2,Aa H H2->∀t,H2 t=none->Q (.ref t) (upd H2 t (.tup r.vs)):=λH2 sm t ht=>q t _ (sm.trans (Aa.new ht)) (B4 sm ht) A1
 have uw:∀{x y:V},(Oj x y).lookup ("word":Str)=none:=by intro x y;unfold Oj;rw[Ao,if_neg (by decide),Ao,if_neg (by decide)];rfl
 ext;refine⟨w8,p,M,n,s,hh,ts,hs,nd,ys,hS,hl,r,hr',?_⟩
 cases r with
 | num=>
  intro H' y sm hy er;refine⟨y,rfl,true,T.Z29,?_⟩;rw[if_pos rfl];exact⟨Z4,⟨false,.inl er⟩,0,T.Z6l,by decide,λH2 sm2=>⟨by omega,fin H2 (sm.trans sm2)⟩⟩
 | many=>
  intro H' y sm hy er;refine⟨y,rfl,false,T.Z4p,?_⟩;rw[if_neg (by decide)];refine⟨true,T.Z58,?_⟩;rw[if_pos rfl];exact⟨Zc,⟨false,.inl er⟩,1,T.Z9o,by decide,λH2 sm2=>⟨by omega,fin H2 (sm.trans sm2)⟩⟩
 | unk z i=>
  intro H' y sm hy er;obtain⟨dy,e1,e2⟩:=er;refine⟨y,rfl,false,T.Z4q,?_⟩;rw[if_neg (by decide)];refine⟨false,T.Z59,?_⟩;rw[if_neg (by decide)];refine⟨true,T.Z5a,?_⟩;rw[if_pos rfl];refine⟨Z7,⟨false,.inr ⟨dy,_,e1,e2,uw⟩⟩,2,T.Z9p,by decide,λH2 sm2=>?_⟩;exact⟨false,Z7,Zf,dy,sm2 _ _ e1,_,sm2 _ _ e2,T.Z1s,T.Z1o,_,L3,false,Z7,Zf,dy,sm2 _ _ e1,_,sm2 _ _ e2,T.Z1s,T.Z1e,_,K5,by omega,fin H2 (sm.trans sm2)⟩
 | wide z i=>
  intro H' y sm hy er;obtain⟨dy,e1,e2⟩:=er;refine⟨y,rfl,false,T.Z4r,?_⟩;rw[if_neg (by decide)];refine⟨false,T.Z5b,?_⟩;rw[if_neg (by decide)];refine⟨false,T.Z5c,?_⟩;rw[if_neg (by decide)];refine⟨true,T.Z5d,?_⟩;rw[if_pos rfl];refine⟨Z8,⟨false,.inr ⟨dy,_,e1,e2,uw⟩⟩,3,T.Z9q,by decide,λH2 sm2=>?_⟩;exact⟨false,Z8,Zf,dy,sm2 _ _ e1,_,sm2 _ _ e2,T.Z1t,T.Z1p,_,L3,false,Z8,Zf,dy,sm2 _ _ e1,_,sm2 _ _ e2,T.Z1t,T.Z1f,_,K5,by omega,fin H2 (sm.trans sm2)⟩
 | no=>exact absurd rfl hno
variable (Z6u:Def P w K mg base (CXF P w) 10 "_law_told" ["_law_rule","_law_asks"] (Lk (CV.mk Zb Z2 Z3 Z5 Z9 Z1 Z0) K Zd))
include T Z0u Z0e in
theorem Zb7(F:Fun K "_law_making" "_law_making" Z6q f fd):Ai P w K mg base (CXF P w) 11 f fd ["_law_which","_law_stock","_law_places","_law_asks","_law_turn"] (Gv K Zd):=by
 have sc:A9 ["_law_which","_law_stock","_law_places","_law_asks","_law_turn","_law_e"] ["_law_which","_law_stock","_law_places","_law_asks","_law_turn"] (A6 Z6q):=by ext:3
 ext:2
 . exact n8 h_ λ_ _ _ _ _ _ _ _=>rfl
 refine x8 h_ λk st a u v ts ys r e_=>y10 e_ λe0 hs nd hS hl hu hv hy hno q=>?_;clear e_ h_;subst e0;replace Z0u:=Z0u.weaker λ_ _ _ _ h=> .inr h
 refine⟨_,(@A3 _ _ _ _ _ (Xc rfl rfl (λt hp=>(@A4 _ _ _ (Al (Sl Z0u hr rfl hp (A0 (pv 0) (A0 (pv 1) (A0 (pv 2) (A0 (pv 3) (A0 (pv 4) A2)))))))))
  (Ih (i:=5) rfl sc.nd rfl rfl rfl T.Z1u (λx=>(@A4 _ _ _ (@Af _ _ _ _ (Bh (@Ag _ _ _ _ _ _ _ B3 (A0 (Du Z0e (hr.hm _) rfl (Ap D2) (A0 (pv 5) A2)) (@Ag _ _ _ _ _ _ _ B3 (@Ag _ _ _ _ _ _ _ A8 A2)))))))) (Ih (i:=5) rfl sc.nd rfl rfl rfl T.Z63 (λx=>(@A4 _ _ _ (@Af _ _ _ _ (Bh (@Ag _ _ _ _ _ _ _ B3 (A0 (Du Z0e (hr.hm _) rfl (Ap D2) (A0 (pv 5) A2)) (@Ag _ _ _ _ _ _ _ B3 (@Ag _ _ _ _ _ _ _ A8 A2)))))))) (Ih (i:=5) rfl sc.nd rfl rfl rfl T.Z72 (λx=>(@A4 _ _ _ (@Af _ _ _ _ (Bh (@Ag _ _ _ _ _ _ _ B3 (A0 (Du Z0e (hr.hm _) rfl (Ap D2) (A0 (pv 5) A2)) (A0 (Eg (pv 5) rfl) (A0 (Eg (pv 5) rfl) A2)))))))) (Ih (i:=5) rfl sc.nd rfl rfl rfl T.Z73 (λx=>(@A4 _ _ _ (@Af _ _ _ _ (Bh (@Ag _ _ _ _ _ _ _ B3 (A0 (Du Z0e (hr.hm _) rfl (Ap D2) (A0 (pv 5) A2)) (A0 (Eg (pv 5) rfl) (A0 (Eg (pv 5) rfl) A2)))))))) Xb)))))
  (@A4 _ _ _ (@Af _ _ _ _ (Bh (@Ag _ _ _ _ _ _ _ B3 (@Ag _ _ _ _ _ _ _ Cw (@Ag _ _ _ _ _ _ _ B3 (@Ag _ _ _ _ _ _ _ A8 A2)))))))),?_⟩
 ext:4;have fin:∀H2,Aa H H2->∀t,H2 t=none->Q (.ref t) (upd H2 t (.tup r.vs)):=λH2 sm t ht=>q t _ (sm.trans (Aa.new ht)) (B4 sm ht) A1
 have uw:∀{x y:V},(Oj x y).lookup ("word":Str)=none:=by intro x y;unfold Oj;rw[Ao,if_neg (by decide),Ao,if_neg (by decide)];rfl
 ext
 have hy2:(0<=k/\k < 7/\wIn 1 1000000 u=false/\r=N2R.R4.num\/k=7/\D0 ts u ys=r.d)\/(k=6/\(∃n:Int,u= .int n/\1<=n/\n<=1000000)/\wIn 1 200 v=false/\r= .num):=by
  rcases hy with h | h | h
  . exact .inl (.inl h)
  . exact .inr h
  . exact .inl (.inr h)
 rcases hy2 with hy | ⟨rfl,⟨n,rfl,h1,h2⟩,hw,rfl⟩
 rotate_left
 . refine .inr ⟨rfl,a,n,rfl,rfl,h1,h2,hv,hw,λH' y sm hy er=>⟨y,rfl,true,T.Z29,?_⟩⟩
   rw[if_pos rfl];exact⟨Z4,⟨false,.inl er⟩,0,T.Z6l,by decide,λH2 sm2=>⟨by omega,fin H2 (sm.trans sm2)⟩⟩
 refine .inl ⟨ts,hs,nd,ys,hS,hl,hu,hv,r,hy,?_⟩
 cases r with
 | num=>
  intro H' y sm hy er;refine⟨y,rfl,true,T.Z29,?_⟩;rw[if_pos rfl];exact⟨Z4,⟨false,.inl er⟩,0,T.Z6l,by decide,λH2 sm2=>⟨by omega,fin H2 (sm.trans sm2)⟩⟩
 | many=>
  intro H' y sm hy er;refine⟨y,rfl,false,T.Z4p,?_⟩;rw[if_neg (by decide)];refine⟨true,T.Z58,?_⟩;rw[if_pos rfl];exact⟨Zc,⟨false,.inl er⟩,1,T.Z9o,by decide,λH2 sm2=>⟨by omega,fin H2 (sm.trans sm2)⟩⟩
 | unk z i=>
  intro H' y sm hy er;obtain⟨dy,e1,e2⟩:=er;refine⟨y,rfl,false,T.Z4q,?_⟩;rw[if_neg (by decide)];refine⟨false,T.Z59,?_⟩;rw[if_neg (by decide)];refine⟨true,T.Z5a,?_⟩;rw[if_pos rfl];refine⟨Z7,⟨false,.inr ⟨dy,_,e1,e2,uw⟩⟩,2,T.Z9p,by decide,λH2 sm2=>?_⟩;exact⟨false,Z7,Zf,dy,sm2 _ _ e1,_,sm2 _ _ e2,T.Z1s,T.Z1o,_,L3,false,Z7,Zf,dy,sm2 _ _ e1,_,sm2 _ _ e2,T.Z1s,T.Z1e,_,K5,by omega,fin H2 (sm.trans sm2)⟩
 | wide z i=>
  intro H' y sm hy er;obtain⟨dy,e1,e2⟩:=er;refine⟨y,rfl,false,T.Z4r,?_⟩;rw[if_neg (by decide)];refine⟨false,T.Z5b,?_⟩;rw[if_neg (by decide)];refine⟨false,T.Z5c,?_⟩;rw[if_neg (by decide)];refine⟨true,T.Z5d,?_⟩;rw[if_pos rfl];refine⟨Z8,⟨false,.inr ⟨dy,_,e1,e2,uw⟩⟩,3,T.Z9q,by decide,λH2 sm2=>?_⟩;exact⟨false,Z8,Zf,dy,sm2 _ _ e1,_,sm2 _ _ e2,T.Z1t,T.Z1p,_,L3,false,Z8,Zf,dy,sm2 _ _ e1,_,sm2 _ _ e2,T.Z1t,T.Z1f,_,K5,by omega,fin H2 (sm.trans sm2)⟩
 | no=>exact absurd rfl hno
variable (Z2v:Def P w K mg base (CXF P w) 11 "_law_making" ["_law_which","_law_stock","_law_places","_law_asks","_law_turn"] (Gv K Zd))
include T Z0u Z26 Z6u Z0k in
theorem Zb8(F:Fun K "_law_as_new" "_law_as_new" Z6r f fd):Ai P w K mg base (CXF P w) 11 f fd ["_law_which","_law_stock","_law_places","_law_asks","_law_some","_law_due"] (N2 (CV.mk Zb Z2 Z3 Z5 Z9 Z1 Z0) K Zd):=by
 have sc:A9 ["_law_which","_law_stock","_law_places","_law_asks","_law_some","_law_due","_law_rule"] ["_law_which","_law_stock","_law_places","_law_asks","_law_some","_law_due"] (A6 Z6r):=by ext:3
 ext:2
 . exact n10 h_ λ_ _ _ _ _ _ _ _ _ _=>rfl
 refine x10 h_ λw8 st a s5 t5 n ts ys xs r e_=>y16 e_ λe0 hst nd htl ha hyl hin hrm h1 h2 hs hxl ht hr' hno q=>?_;clear e_ h_;subst e0;replace Z0u:=Z0u.weaker λ_ _ _ _ h=> .inl h;replace Z0k:=Z0k.weaker λ_ _ _ _ h=> .inl h
 refine⟨_,(@A3 _ _ _ _ _ (Az (i:=6) sc.nd rfl (Or.inl rfl) (Ae Z0u hr rfl A7 (A0 (pv 0) (A0 (pv 1) (A0 (pv 2) (A0 (pv 3) (@Ag _ _ _ _ _ _ _ A8 A2)))))))
  (@A3 _ _ _ _ _ (As (PW.pt (Qz (Am Jag (Ad (pv 6) rfl) (pv 2) (nomark _)) (N8 (Am (Va hr) (E3 Z26 T.Z0c hr (Ap A7) (Ad (pv 6) rfl)) (E3 Z26 T.Z0c hr (Ap A7) (pv 1)) (nomark _)))))
   (@A4 _ _ _ (@Af _ _ _ _ Cw))
   Aj)
  (@A3 _ _ _ _ _ (As (Am (Va hr) (Ae Z6u hr rfl A7 (A0 (pv 6) (A0 (Bv Bp rfl T.Z1h (by first | rfl | decide+kernel) (A0 (pv 4) A2)) A2))) (pv 5) (nomark _))
   (@A4 _ _ _ (@Af _ _ _ _ Cw))
   Aj)
  (@A4 _ _ _ (@Af _ _ _ _ (E1 (J9o 2 hr) (Ae Z0k hr rfl A7 (A0 (pv 6) (A0 (Bv Bp rfl T.Z1h (by first | rfl | decide+kernel) (A0 (pv 3) A2)) A2))) (Ae Z0k hr rfl A7 (A0 (Ae Z0u hr rfl A7 (A0 (pv 0) (A0 (pv 1) (A0 (pv 2) (A0 (pv 3) (@Ag _ _ _ _ _ _ _ A8 A2)))))) (A0 (Bv Bp rfl T.Z1h (by first | rfl | decide+kernel) (A0 (pv 3) A2)) A2))) (nomark _))))))),?_⟩
 ext:4
 have hcl:∀w,Cls K (TV (CV.mk Zb Z2 Z3 Z5 Z9 Z1 Z0) w).C:=λw=>by cases w;exact T.Z3e;exact T.Z01;exact T.Z02;exact T.Z03;exact T.Zy;exact T.Ze;exact T.Zh
 have hns:∀w,An K (TV (CV.mk Zb Z2 Z3 Z5 Z9 Z1 Z0) w).C "stock":=λw=>by cases w;exact T.Z1k;exact T.Z0x;exact T.Z0y;exact T.Z19;exact T.Z1m;exact T.Z1n;exact T.Z0f
 have hnp:∀w,An K (TV (CV.mk Zb Z2 Z3 Z5 Z9 Z1 Z0) w).C "places":=λw=>by cases w;exact T.Z18;exact T.Z0q;exact T.Z0r;exact T.Z0z;exact T.Z1a;exact T.Z0j;exact T.Z0d
 ext;refine⟨w8,rfl,h1,h2,λq1 M1 H1 sm1 hM1 hA1=>?_⟩;obtain⟨dq,fs,hoq,hst_,hpl_,o1⟩:=Ar.obj _ hA1;have hst1:=Aq.same sm1 hst;obtain⟨dy,e,kvs,g1,g2,g3,g4,g5⟩:=Aq.has hst1;ext:1;refine⟨_,dq,_,hoq,hcl w8,hnp w8,_,hpl_,rfl,?_⟩;rw[if_neg (by simp)];refine⟨_,dq,_,hoq,hcl w8,hns w8,_,hst_,st,rfl,dy,flds e,g1,by rfl,st,rfl,ts,hst1,λl hl=>?_⟩;have s2:=Aa.new (o:= .lst ((ts.map (·.1)).map V.str)) hl;have k2:=A1 (H:=H1) (a:=l) (o:= .lst ((ts.map (·.1)).map V.str));refine⟨dy,flds e,s2 _ _ g1,by rfl,ts,Aq.same s2 hst1,λl2 hl2=>?_⟩;have s3:=s2.trans (Aa.new (o:= .lst ((ts.map (·.1)).map V.str)) hl2);have k3:=A1 (H:=upd H1 l (.lst ((ts.map (·.1)).map V.str))) (a:=l2) (o:= .lst ((ts.map (·.1)).map V.str));have k4:=(Aa.new (o:= .lst ((ts.map (·.1)).map V.str)) hl2) _ _ k2;generalize upd (upd H1 l (.lst ((ts.map (·.1)).map V.str))) l2 (.lst ((ts.map (·.1)).map V.str))=H3 at s3 k3 k4 ⊢
 refine⟨_,J2p (SqL.of k4) (SqL.of k3),?_⟩;rw[if_neg (by simp)];have sm3:=sm1.trans s3;have hA3:=Ej s3 hA1;have hst3:=Aq.same s3 hst1;have hs3:=sm3 _ _ hs;have ha3:=sm3 _ _ ha;have ht3:=sm3 _ _ ht;clear k2 k3 k4 s2 s3 hl hl2 hoq hst1 g1 g2 g3 g4 g5 hA1 hpl_ hst_ o1;ext:1;refine⟨_,.inl (SqL.of hs3),λp hp=>?_⟩;have s4:=Aa.new (o:= .lst (xs.map V.str)) hp;have k4:=A1 (H:=H3) (a:=p) (o:= .lst (xs.map V.str));have sm4:=sm3.trans s4;have hA4:=Ej s4 hA3;have hst4:=Aq.same s4 hst3;have ha4:=s4 _ _ ha3;have ht4:=s4 _ _ ht3;generalize upd H3 p (.lst (xs.map V.str))=H4 at s4 k4 sm4 hA4 hst4 ha4 ht4 ⊢;clear hA3 hst3 ha3 ht3 hs3 hp s4 sm3;refine⟨w8,st,M1,n,_,hA4,ts,hst4,nd,xs,SqL.of k4,hxl,r,hr',hno,λt H5 sm5 ht5 hk5=>?_⟩;have ht6:=sm5 _ _ ht4;refine⟨_,Qv hk5 ht6,?_⟩;rw[if_neg (by decide)];have sm6:=sm4.trans sm5;have hA5:=Ej sm5 hA4;have hst5:=Aq.same sm5 hst4;have ha5:=sm5 _ _ ha4
 clear hA4 hst4 ha4 ht4 ht6 hk5 ht5 k4 sm4 sm5;ext:1;refine⟨_,.inl (SqL.of ha5),λl hl=>?_⟩;have s6:=Aa.new (o:= .lst (ys.map V.str)) hl;have k6:=A1 (H:=H5) (a:=l) (o:= .lst (ys.map V.str));have hA6:=Ej s6 hA5;have nl:l∉M1:=λhm=>Ar.live _ hA5 _ hm hl;have sm7:=sm6.trans s6;generalize upd H5 l (.lst (ys.map V.str))=H6 at s6 k6 hA6 sm7 ⊢;clear hA5 ha5 hst5 s6 sm6 hl;refine⟨w8,H,st,M1,n,ts,ys,sV _ w8,hA6,Jc4 h1,hst,sm7,hM1,nd,htl,SqL.of k6,nl,hyl,hin,hrm,h1,h2,by rw[Jc5];omega,λb as gs H7 kp7 hb7 hat7 bk7 hA7 hb0 hbg hgd hall7=>?_⟩;have sm8:=Kp.same sm7 kp7 hM1;clear hA7 hb0 hbg hgd hall7 hat7 hb7 kp7 hA6 k6 nl sm7;refine⟨w8,rfl,h1,h2,λq2 M2 H8 sm9 hM2 hA8=>?_⟩;have sm10:=sm8.trans sm9;refine⟨_,.inl (SqL.of (sm10 _ _ ha)),λl hl=>?_⟩;have s6:=Aa.new (o:= .lst (ys.map V.str)) hl;have k6:=A1 (H:=H8) (a:=l) (o:= .lst (ys.map V.str));have hA9:=Ej s6 hA8;have nl:l∉M2:=λhm=>Ar.live _ hA8 _ hm hl
 have sm11:=sm10.trans s6;have sm12:=sm9.trans s6;generalize upd H8 l (.lst (ys.map V.str))=H9 at s6 k6 hA9 sm11 sm12 ⊢;refine⟨w8,H,st,M2,n,ts,ys,sV _ w8,hA9,Jc4 h1,hst,sm11,λm hm=>B4 sm8 (hM2 m hm),nd,htl,SqL.of k6,nl,hyl,hin,hrm,h1,h2,by rw[Jc5];omega,λb2 as2 gs2 H10 kp10 hb10 hat10 bk10 hA10 hb0 hbg hgd hall10=>?_⟩;have bk:=bk7.same (Kp.same sm12 kp10 hM2);exact⟨J05 bk bk10,q _⟩
variable (Z5i:Def P w K mg base (CXF P w) 11 "_law_as_new" ["_law_which","_law_stock","_law_places","_law_asks","_law_some","_law_due"] (N2 (CV.mk Zb Z2 Z3 Z5 Z9 Z1 Z0) K Zd))
include T Zr Z2u Z2j Z3n Z22 Z6k Z2v Z5h Z5i in
theorem Zfe(F:Fun K "law" "law" Z5f f fd):Ai P w K mg base (CXF P w) 12 f fd ["_law_script"] (O2 K):=by
 have sc:A9 ["_law_script","_law_places","_law_rows","_law_wide","_law_strange","_law_stock","_law_picks","_law_asks","_law_way","_law_which","_law_bad_here","_law_some","_law_due"] ["_law_script"] (A6 Z5f):=by ext:3
 ext:2
 . exact n2 h_ λ_ _=>rfl
 refine x2 h_ λa ns e_=>y4 e_ λe0 hS hl q=>?_;clear e_ h_;subst e0
 refine⟨_,(@A3 _ _ _ _ _ (Az (i:=1) sc.nd rfl (Or.inl rfl) (Ak Bo A8 (Ak Bf (Ae Zr hr rfl A7 (A0 (pv 0) (A0 A8 A2))) A8)))
  (@A3 _ _ _ _ _ (Az (i:=2) sc.nd rfl (Or.inr rfl) (Ae Z2u hr rfl A7 (A0 (pv 0) (A0 (pv 1) A2))))
  (@A3 _ _ _ _ _ (Az (i:=3) sc.nd rfl (Or.inl rfl) (@Cf _ _ _ _ _ _ _ V0 (@Cf _ _ _ _ _ _ _ By (pv 2) (Ak G7 (Aw B6 rfl T.Z1g FO (A0 (pv 2) A2)) A8) (λ_ _=>rfl)) A8 (λ_ _=>rfl)))
  (@A3 _ _ _ _ _ (Az (i:=4) sc.nd rfl (Or.inl rfl) (@Cf _ _ _ _ _ _ _ By (Ae Z2j hr rfl A7 (A0 (Ae Zr hr rfl A7 (A0 (pv 0) (A0 A8 A2))) (A0 (Ak Bo (Aw B6 rfl T.Z1g FO (A0 (pv 2) A2)) A8) A2))) (Aw B6 rfl T.Z1g FO (A0 (pv 2) A2)) (λ_ _=>rfl)))
  (@A3 _ _ _ _ _ (Az (i:=5) sc.nd rfl (Or.inl rfl) (B0 Z3n hr rfl (Ap A7) (A0 (Bv Bp rfl T.Z1h (by first | rfl | decide+kernel) (A0 (pv 2) A2)) A2)))
  (@A3 _ _ _ _ _ (Az (i:=6) sc.nd rfl (Or.inl rfl) (Ak Nn (Dq Q3 (pv 0) (E2 A8) (E2 A8)) (Ae Z22 hr rfl A7 (A0 (Ae Zr hr rfl A7 (A0 (pv 0) (A0 A8 A2))) (A0 (Ak Bf (Ae Zr hr rfl A7 (A0 (pv 0) (A0 A8 A2))) A8) A2)))))
  (@A3 _ _ _ _ _ (Sr (i:=7) "_law_pick" [2] sc.nd rfl rfl rfl rfl (Ko (pv 6)) (λb=>(@Cf _ _ _ _ _ _ _ V0 (@Cf _ _ _ _ _ _ _ By (pv 1) (Ak Bf (pv 0) (Ak G7 (Aw B6 rfl T.Z1g FO (A0 (pv 1) A2)) A8)) (λ_ _=>rfl)) A8 (λ_ _=>rfl))))
  (@A3 _ _ _ _ _ (Az (i:=8) sc.nd rfl (Or.inl rfl) (Ak Bf (Ae Zr hr rfl A7 (A0 (pv 0) (A0 A8 A2))) A8))
  (@A3 _ _ _ _ _ (Az (i:=9) sc.nd rfl (Or.inl rfl) (Ak Bf (Ae Zr hr rfl A7 (A0 (pv 0) (A0 A8 A2))) A8))
  (@A3 _ _ _ _ _ (As (Am Bg (pv 8) A8 (nomark _))
   (@A3 _ _ _ _ _ (Az (i:=10) sc.nd rfl (Or.inl rfl) (Ae Z6k hr rfl A7 (A0 (Ae Zr hr rfl A7 (A0 (pv 0) (A0 A8 A2))) (A0 (Ak Uu A8 A8) A2))))
   (@A4 _ _ _ (@Af _ _ _ _ (E1 (Qg hr) (Ae Z2v hr rfl A7 (A0 (pv 9) (A0 (pv 5) (A0 (pv 10) (A0 (Bv Bp rfl T.Z1h (by first | rfl | decide+kernel) (A0 (pv 7) A2)) (@Ag _ _ _ _ _ _ _ A8 A2)))))) (Bh (@Ag _ _ _ _ _ _ _ B3 (@Ag _ _ _ _ _ _ _ Cw (@Ag _ _ _ _ _ _ _ B3 (@Ag _ _ _ _ _ _ _ A8 A2))))) (nomark _)))))
   Aj)
  (@A3 _ _ _ _ _ (As (Am Bg (pv 8) A8 (nomark _))
   (@A3 _ _ _ _ _ (Az (i:=10) sc.nd rfl (Or.inl rfl) (Ae Z6k hr rfl A7 (A0 (Ae Zr hr rfl A7 (A0 (pv 0) (A0 A8 A2))) (A0 A8 A2))))
   (@A4 _ _ _ (@Af _ _ _ _ (E1 (Qg hr) (Ae Z2v hr rfl A7 (@Ag _ _ _ _ _ _ _ A8 (A0 (pv 5) (A0 (pv 1) (A0 (Bv Bp rfl T.Z1h (by first | rfl | decide+kernel) (A0 (pv 7) A2)) (A0 (pv 10) A2)))))) (Bh (@Ag _ _ _ _ _ _ _ B3 (@Ag _ _ _ _ _ _ _ Cw (@Ag _ _ _ _ _ _ _ B3 (@Ag _ _ _ _ _ _ _ A8 A2))))) (nomark _)))))
   Aj)
  (@A3 _ _ _ _ _ (J8l (Ae Z5h hr rfl A7 (A0 (pv 8) (A0 (pv 7) (A0 (pv 4) (A0 (pv 3) (A0 (pv 0) A2)))))) (J9j rfl (Dc (Cr (i:=11) sc.nd rfl (Or.inl rfl)) (Dc (Cr (i:=12) sc.nd rfl (Or.inl rfl)) Ml))))
  (@A3 _ _ _ _ _ (As (Am Bg (pv 9) A8 (nomark _))
   (@A4 _ _ _ (@Af _ _ _ _ (E1 (Qg hr) (Ae Z2v hr rfl A7 (@Ag _ _ _ _ _ _ _ A8 (A0 (pv 5) (A0 (pv 1) (A0 (Bv Bp rfl T.Z1h (by first | rfl | decide+kernel) (A0 (pv 11) A2)) (@Ag _ _ _ _ _ _ _ A8 A2)))))) (pv 12) (nomark _))))
   Aj)
  (@A4 _ _ _ (@Af _ _ _ _ (Ae Z5i hr rfl A7 (A0 (pv 9) (A0 (pv 5) (A0 (pv 1) (A0 (pv 7) (A0 (pv 11) (A0 (pv 12) A2)))))))))))))))))))))),?_⟩
 ext:4;have f0:=FH (ns.getD 3 0) (show (900:Int)≠0 by decide);have f1:=FD (ns.getD 3 0) (show (0:Int) < 900 by decide)
 obtain⟨n,hn⟩:∃n:Int,1+ns.getD 3 0 % 900=n/\1<=n/\n<=900:=⟨_,rfl,by omega,by omega⟩
 ext;rw[hn.1];intro r as ts m H1 sm1 hr1 hR1 hm hm1 hnm hfit hwd;have hS1:=sm1.seq hS
 have hml:m+1<=60:=by rw[<- hm];exact hR1.m
 have han:=hR1.n;have lw:=Fb (show m < ts.length by omega);generalize ts[m]'(by omega)=tw at lw;have hww:=hwd tw lw;ext:1
 obtain⟨pw,hpw⟩:∃pw,as[m]?=some pw:=⟨_,Fb (by omega)⟩
 refine⟨_,.inl (SqL.of hr1),?_⟩;rw[Fa,show ((as.length:Nat):Int) - 1=((m:Nat):Int) by omega];refine Ck (SqL.of hr1) (v:=V.ref pw) (Ce (by rw[Ff,hpw];rfl)) (V2 (hR1.at_ m pw tw hpw lw) rfl ?_);ext:1;refine⟨_,.inl (SqL.of hr1),m+2,by rw[Fa];omega,by omega,λnp H2 hnp sm2 hny ynd hyn=>?_⟩;have hz:=N56.Yc ynd
 have hlz:N56.nmL (ns.getD 1 0) (m+2)=N56.nmL (ns.getD 1 0) (m+1)++[nmF (ns.getD 1 0) (m+1)]:=by unfold N56.nmL;rw[Rr,Fz];rfl
 rw[<- hnm]at hz
 have hgz:((N56.nmL (ns.getD 1 0) (m+2)).map V.str)[m+1]?=some (V.str (nmF (ns.getD 1 0) (m+1))):=by
  rw[Ff,hlz,FJ (by rw[N56.Lj];omega),N56.Lj,Nat.sub_self];rfl
 have hR2:=hR1.same sm2;have hr2:=sm2 _ _ hr1;have hS2:=sm2.seq hS1;refine⟨_,.inl (SqL.of hr2),?_⟩;rw[Fa,show ((as.length:Nat):Int)=((m+1:Nat):Int) by omega];refine Ck (SqL.of hny) (Ce hgz) ?_;generalize nmF (ns.getD 1 0) (m+1)=zs at hz;clear hgz hlz hny ynd hyn hnp hr1 hR1 hS1 sm1 sm2 f0 f1;ext:1;refine⟨_,.inl (SqL.of hr2),λD hD=>?_⟩;have smD:Aa H2 (upd H2 D (.lst (as.map V.ref))):=Aa.new hD;have hDD:upd H2 D (.lst (as.map V.ref)) D=some (.lst (as.map V.ref)):=A1;generalize upd H2 D (.lst (as.map V.ref))=H6 at smD hDD ⊢;have hR6:=hR2.same smD;have hr6:=smD _ _ hr2;have hS6:=smD.seq hS2
 have hRD:Il K H6 D as ts:=⟨SqL.of hDD,hR6.n,hR6.m,hR6.at_,hR6.ok,hR6.nd⟩
 obtain⟨rws,e1,e2,e3,e4⟩:=hRD.init;intro st dx hst hdx ne1
 have smx:Aa H6 (upd (upd H6 dx (.own st)) st (.ins Zd dx [])):=λb o e=>by rw[A5 (Ab e hst),A5 (Ab e hdx)];exact e
 refine⟨dx,A1,rws,by rw[e1];exact smx.seq hRD.l,λt ht=>smx.tup (e2 t ht),e3,λH7 sb7 stk=>?_⟩;rw[e4]at stk;have sm67:Aa H6 H7:=Cu hst hdx sb7;have hR7:=hR6.same sm67;have hr7:=sm67 _ _ hr6;have hS7:=sm67.seq hS6;have nd:=hR7.nd;have hokk:=hR7.ok;clear hRD e1 e2 e3 e4 sm67 sb7 smx hst hdx ne1 hDD smD hD hR6 hr6 hS6 hR2 hr2 hS2;ext:1;obtain⟨cs,hcs,hcl⟩:=J3y ns;refine⟨_,hS7,λp hp=>?_⟩;rw[hcs];have s8:Aa H7 (upd H7 p (.lst (cs.map V.int))):=Aa.new hp;have k8:upd H7 p (.lst (cs.map V.int)) p=some (.lst (cs.map V.int)):=A1;generalize upd H7 p (.lst (cs.map V.int))=H8 at s8 k8 ⊢;refine⟨ns,s8.seq hS7,by decide,hl,ns,s8.seq hS7,by decide,hl,by decide,(ns.getD 5 0 % 30).toNat,by omega,by omega,λp1 xs H9 hp1 s9 k9 hxl hx0=>?_⟩
 have hxl1:xs.length<=29:=by rw[hxl];omega
 clear hxl;refine⟨p,p1,_,_,rfl,rfl,s9 _ _ k8,k9,by rw[Fa,Fa];omega,λp2 hp2=>?_⟩;rw[J3x]
 have hpl:(cs++xs).length<=95:=by rw[Fn];omega
 have s10:=(s8.trans s9).trans (Aa.new (o:= .lst ((cs++xs).map V.int)) hp2);have k10:upd H9 p2 (.lst ((cs++xs).map V.int)) p2=some (.lst ((cs++xs).map V.int)):=A1;generalize upd H9 p2 (.lst ((cs++xs).map V.int))=H10 at s10 k10 ⊢;generalize cs++xs=ps at hpl k10;clear k8 k9 s8 s9 hp2 hp hcs hx0;have hR10:=hR7.same s10;have hr10:=s10 _ _ hr7;have hS10:=s10.seq hS7;have stk10:=Aq.same s10 stk;clear hR7 hr7 hS7 stk s10;ext:1;refine⟨⟨_,SqL.of k10⟩,V9 (J8a ts m) (SqL.of k10) (by rw[Fa];omega) (λb x H11 Q' hx sm11 q'=>?_) λD hD=>?_⟩
 . obtain⟨c,hc,rfl⟩:=FK.mp hx
   have hR11:=hR10.same sm11;have g0:=FH c (show (m:Int)≠0 by omega);have g1:=FD c (show (0:Int) < m by omega);have ht:=J3w (ts:=ts) (i:=(c % (m:Int)).toNat) (by omega);have ha:=Fb (l:=as) (i:=(c % (m:Int)).toNat) (by omega);have hT:=hR11.at_ _ _ _ ha ht;ext;refine⟨_,.inl hR11.l,?_⟩;rw[Fa,show ((as.length:Nat):Int) - 1=(m:Int) by omega];refine⟨by omega,?_⟩;refine Ck hR11.l (v:=V.ref _) (by rw[show c % (m:Int)=(((c % (m:Int)).toNat:Nat):Int) by omega];exact Ce (by rw[Ff,ha];rfl)) ?_;exact⟨_,_,0,_,rfl,rfl,hT,rfl,q'⟩
 rw[Vp]
 have hfin:∀y∈ps.map (pkM ts m),y∈ts.map (·.1)/\rm ts y<=n:=λy hy=>by
  obtain⟨c,hc,rfl⟩:=FK.mp hy;have g0:=FH c (show (m:Int)≠0 by omega);have g1:=FD c (show (0:Int) < m by omega);have ht:=J3w (ts:=ts) (i:=(c % (m:Int)).toNat) (by omega);refine⟨FK.mpr ⟨_,Fq ht,rfl⟩,?_⟩;unfold pkM;rw[Tv nd ht];exact hfit _ _ (by omega) ht
 have hyl:(ps.map (pkM ts m)).length<=95:=by rw[Fa];exact hpl
 generalize ps.map (pkM ts m)=ys at hfin hyl hD ⊢;have s11:Aa H10 (upd H10 D (.lst (ys.map V.str))):=Aa.new hD;have k11:=A1 (H:=H10) (a:=D) (o:= .lst (ys.map V.str));generalize upd H10 D (.lst (ys.map V.str))=H11 at s11 k11 ⊢;have hS11:=s11.seq hS10;have stk11:=Aq.same s11 stk10
 have htl:ts.length<=60:=by omega
 clear k10 hR10 hr10 hS10 stk10 s11 hD hpl hcl hxl1 hpw;ext:1;have v0:=FH (ns.getD 4 0) (show (6:Int)≠0 by decide);have v1:=FD (ns.getD 4 0) (show (0:Int) < 6 by decide);have u0:=FH (ns.getD 2 0) (show (8:Int)≠0 by decide);have u1:=FD (ns.getD 2 0) (show (0:Int) < 8 by decide);generalize ns.getD 4 0 % 6=way at v0 v1 ⊢;generalize ns.getD 2 0 % 8=wh at u0 u1 ⊢
 by_cases e0:way=0
 . rw[if_pos e0]
   ext;intro v H12 sm12 hv hw;rw[show (10:Int) ^ 6=1000000 from rfl]at hw;have k12:=sm12 _ _ k11;have stk12:=Aq.same sm12 stk11;ext:1;refine⟨_,.inl (SqL.of k12),λl hl'=>?_⟩;have s13:=Aa.new (o:= .lst (ys.map V.str)) hl';have k13:=A1 (H:=H12) (a:=l) (o:= .lst (ys.map V.str));generalize upd H12 l (.lst (ys.map V.str))=H13 at s13 k13 ⊢;exact⟨ts,Aq.same s13 stk12,nd,ys,SqL.of k13,by omega,hv.same s13,.inl rfl,.num,J6s u0 u1 hw,(by intro z;cases z),λt H14 sm14 ht hk=>⟨by omega,λp hp=>⟨true,Qv (r:= .num) ((Aa.new hp) _ _ hk) A1,q _⟩⟩⟩
 rw[if_neg e0];ext:1
 by_cases e1:way=1
 . rw[if_pos e1]
   ext;intro v H12 sm12 hv hw;have k12:=sm12 _ _ k11;have stk12:=Aq.same sm12 stk11;ext:1;refine⟨_,.inl (SqL.of k12),λl hl'=>?_⟩;have s13:=Aa.new (o:= .lst (ys.map V.str)) hl';have k13:=A1 (H:=H12) (a:=l) (o:= .lst (ys.map V.str));generalize upd H12 l (.lst (ys.map V.str))=H13 at s13 k13 ⊢;exact⟨ts,Aq.same s13 stk12,nd,ys,SqL.of k13,by omega,.inl rfl,hv.same s13,.num,.inr (.inl ⟨rfl,⟨n,rfl,hn.2.1,by omega⟩,hw,rfl⟩),(by intro z;cases z),λt H14 sm14 ht hk=>⟨by omega,λp hp=>⟨true,Qv (r:= .num) ((Aa.new hp) _ _ hk) A1,q _⟩⟩⟩
 rw[if_neg e1];ext:1;refine⟨ns,ys,k11,hyl,hS11,hl,ts,n,hn.2.1,by omega,λy hy=>⟨(hfin y hy).1,by rw[<- Li];have:=(hfin y hy).2;omega⟩,hz,FK.mpr ⟨tw,Fq lw,rfl⟩,by rw[<- Li,Tv nd lw];exact hww,λl s t xs rr H12 sm12 hl12 hs12 hxl ht12 hr12 hno=>?_⟩;have k12:=sm12 _ _ k11;have stk12:=Aq.same sm12 stk11;refine⟨_,SqL.of hl12,rfl,_,_,rfl,_,_,rfl,rfl,?_⟩;ext:1
 by_cases e7:wh=7
 . rw[if_pos e7]
   refine⟨_,.inl (SqL.of hs12),λl' hl'=>?_⟩;have s13:=Aa.new (o:= .lst (xs.map V.str)) hl';exact⟨ts,Aq.same s13 stk12,nd,xs,SqL.of A1,hxl,.inl rfl,.inl rfl,rr,.inr (.inr ⟨rfl,hr12⟩),hno,λt1 H14 sm14 ht1 hk=>⟨true,Qv hk (sm14 _ _ (s13 _ _ ht12)),q _⟩⟩
 rw[if_neg e7];obtain⟨w8,hw8⟩:=J88 u0 (show wh < 7 by omega);subst hw8;ext:1;exact⟨w8,rfl,ts,stk12,nd,htl,ys,k12,by omega,λy hy=>(hfin y hy).1,λy hy=>(hfin y hy).2,hn.2.1,by omega,xs,hs12,hxl,rr,ht12,hr12,hno,q⟩
end
theorem Ja1{l:W.OpenLaw}{w:World}{K:W.Frag}{h:Heap}{mg:Str->Option Value}{fa f6 f7 f20 f21 f24 f33 f34 f40 f41 f47 f66 f67 f87 Zf Z7 Z8 Z4 Zc Zd Zg Zb Z2 Z3 Z5 Z0 Zn Z9 Z1:Addr}(X:K.In h)(G:h.Ns mainGlobals mg)(hfa:mg "law"=some (.ref fa))
 {od6 an6 od7 an7 od20 an20 od21 an21 od24 an24 od33 an33 od34 an34 od40 an40 od41 an41 od47 an47 od66 an66 od67 an67 od87 an87:Option Addr}{sl6 sl7 sl20 sl21 sl24 sl33 sl34 sl40 sl41 sl47 sl66 sl67 sl87:Array (Option Value)}{oc6 kV6 dc6 pm6 cd6 ct6 oc7 kV7 dc7 pm7 cd7 ct7 oc20 kV20 dc20 pm20 cd20 ct20 oc21 kV21 dc21 pm21 cd21 ct21 oc24 kV24 dc24 pm24 cd24 ct24 oc33 kV33 dc33 pm33 cd33 ct33 oc34 kV34 dc34 pm34 cd34 ct34 oc40 kV40 dc40 pm40 cd40 ct40 oc41 kV41 dc41 pm41 cd41 ct41 oc47 kV47 dc47 pm47 cd47 ct47 oc66 kV66 dc66 pm66 cd66 ct66 oc67 kV67 dc67 pm67 cd67 ct67 oc87 kV87 dc87 pm87 cd87 ct87:Value}
 (Zc1:Gc K "Stock" Zd) (Zfb:Cls K Zd)
 (Zc2:Gc K "Shelf" Zg) (Zfc:Cls K Zg)
 (Zex:Gc K "Rule" Zb) (Zff:Cls K Zb)
 (Zau:Gc K "Ranked" Z2) (Zf6:Cls K Z2)
 (Zav:Gc K "Oldest" Z3) (Zf7:Cls K Z3)
 (Zc3:Gc K "First" Z5) (Zfd:Cls K Z5)
 (Z9r:Gc K "Halving" Z0) (Zey:Cls K Z0)
 (Z8m:Gc K "Farthest" Zn) (Zce:Cls K Zn)
 (Zez:Gc K "Hand" Z9) (Zfg:Cls K Z9)
 (Zf0:Gc K "Rows" Z1) (Zfh:Cls K Z1)
 (Zb9:Gc K "CastError" Zf)
 (Z9s:Gc K "Unknown" Z7)
 (Z9t:Gc K "TooWide" Z8)
 (Zcf:Gc K "NoNumber" Z4)
 (Zf1:Gc K "TooMany" Zc)
 (F0:Gf K "made_of" Z75)
 (F1:Gf K "is_name" Z76)
 (F2:Gf K "is_whole" Z6n)
 (F3:Gf K "is_within" Z68)
 (F4:Gf K "check_thing" Z4v)
 (F5:Gi K Zd "Stock.__init__" Z5r)
 (a6:W.findIn K (.ref Z7) "__init__"=some (some (.ref f6))) (l6:K.lookup f6=some ⟨oc6,od6,.func (W.fnOf "__init__" "Unknown.__init__" (B2 Z11) (Ax Z11) (A6 Z11) .none kV6 dc6 pm6 an6 cd6 ct6),sl6⟩) (c6:W.codeIn K cd6 "Unknown.__init__"=true) (k6:W.keepIn K (.ref Z7)=true) (kf6:W.keepIn K (.ref f6)=true) (hc6:oc6= .type "function")
 (a7:W.findIn K (.ref Z8) "__init__"=some (some (.ref f7))) (l7:K.lookup f7=some ⟨oc7,od7,.func (W.fnOf "__init__" "TooWide.__init__" (B2 Z12) (Ax Z12) (A6 Z12) .none kV7 dc7 pm7 an7 cd7 ct7),sl7⟩) (c7:W.codeIn K cd7 "TooWide.__init__"=true) (k7:W.keepIn K (.ref Z8)=true) (kf7:W.keepIn K (.ref f7)=true) (hc7:oc7= .type "function")
 (F8:Gm K Zd "has" "Stock.has" Z69)
 (F9:Gm K Zd "thing_of" "Stock.thing_of" Z3b)
 (F10:Gm K Zd "room_of" "Stock.room_of" Z3h)
 (F11:Gf K "check_places" Z42)
 (F12:Gf K "check_asks" Z5s)
 (F13:Gm K Zd "names" "Stock.names" Z4w)
 (F14:Gi K Zg "Shelf.__init__" Z5t)
 (F15:Gm K Zg "lying" "Shelf.lying" Z4x)
 (F16:Gm K Zg "holds" "Shelf.holds" Z4y)
 (F17:Gm K Zg "room_left" "Shelf.room_left" Z2w)
 (F18:Gm K Zg "put" "Shelf.put" Z6a)
 (F19:Gm K Zg "cast" "Shelf.cast" Z5u)
 (a20:W.findIn K (.ref Zb) "__init__"=some (some (.ref f20))) (l20:K.lookup f20=some ⟨oc20,od20,.func (W.fnOf "__init__" "Rule.__init__" (B2 Z0o) (Ax Z0o) (A6 Z0o) .none kV20 dc20 pm20 an20 cd20 ct20),sl20⟩) (c20:W.codeIn K cd20 "Rule.__init__"=true) (n20:W.isFn K (.ref f20)=true) (k20:W.keepIn K (.ref Zb)=true) (m20:W.makesIn K Zb=true) (kf20:W.keepIn K (.ref f20)=true)
 (fc20:W.findCls K (.ref Zb) (.type "type") "__init__"=some (.val (.ref f20))) (sc20:W.specialIn K (.ref Zb) "__getattribute__"=some (some (.builtin "type.__getattribute__"))) (rc20:W.readsIn K Zb (.type "type")=true)
 (a21:W.findIn K (.ref Z2) "__init__"=some (some (.ref f21))) (l21:K.lookup f21=some ⟨oc21,od21,.func (W.fnOf "__init__" "Ranked.__init__" (B2 Z0b) (Ax Z0b) (A6 Z0b) .none kV21 dc21 pm21 an21 cd21 ct21),sl21⟩) (c21:W.codeIn K cd21 "Ranked.__init__"=true) (n21:W.isFn K (.ref f21)=true) (k21:W.keepIn K (.ref Z2)=true) (m21:W.makesIn K Z2=true) (kf21:W.keepIn K (.ref f21)=true)
 (fc21:W.findCls K (.ref Z2) (.type "type") "__init__"=some (.val (.ref f21))) (sc21:W.specialIn K (.ref Z2) "__getattribute__"=some (some (.builtin "type.__getattribute__"))) (rc21:W.readsIn K Z2 (.type "type")=true)
 (F22:Gi K Z3 "Ranked.__init__" Z1b)
 (F23:Gi K Z5 "First.__init__" Z1q)
 {dt24:Addr}{dk24:Tok}{dn24:Nat}{dq24:Value}{de24:Option Addr}{ds24:Array (Option Value)}
 (a24:W.findIn K (.ref Z0) "__init__"=some (some (.ref f24))) (l24:K.lookup f24=some ⟨oc24,od24,.func (W.fnOf "__init__" "Halving.__init__" (B2 Zt) (Ax Zt) (A6 Zt) (.ref dt24) kV24 dc24 pm24 an24 cd24 ct24),sl24⟩) (c24:W.codeIn K cd24 "Halving.__init__"=true) (ld24:K.lookup dt24=some ⟨dq24,de24,.seq #[.int 8 dk24] dn24,ds24⟩) (n24:W.isFn K (.ref f24)=true) (k24:W.keepIn K (.ref Z0)=true) (m24:W.makesIn K Z0=true) (kf24:W.keepIn K (.ref f24)=true)
 (F25:Gi K Zn "Farthest.__init__" Z3i)
 (F26:Gi K Z9 "Hand.__init__" Z27)
 (F27:Gi K Z1 "Rows.__init__" Z28)
 (F28:Gm K Zb "asked" "Rule.asked" Z5v)
 (F29:Gm K Zb "choice" "Rule.choice" Z4z)
 (F30:Gm K Zb "gone" "Rule.gone" Z6b)
 (F31:Gm K Zb "came" "Rule.came" Z6c)
 (F32:Gm K Z2 "number_ask" "Ranked.number_ask" Z2a)
 (a33:W.findIn K (.ref Z2) "last_of"=some (some (.ref f33))) (l33:K.lookup f33=some ⟨oc33,od33,.func (W.fnOf "last_of" "Ranked.last_of" (B2 Z0m) (Ax Z0m) (A6 Z0m) .none kV33 dc33 pm33 an33 cd33 ct33),sl33⟩) (c33:W.codeIn K cd33 "Ranked.last_of"=true) (n33:W.isFn K (.ref f33)=true) (k33:W.keepIn K (.ref f33)=true)
 (gv33:W.specialIn K (.ref f33) "__get__"=some (some (.builtin "function.__get__"))) (tv33:W.takesIn K (.ref f33)=some false)
 (a34:W.findIn K (.ref Z2) "rank"=some (some (.ref f34))) (l34:K.lookup f34=some ⟨oc34,od34,.func (W.fnOf "rank" "Ranked.rank" (B2 Z1c) (Ax Z1c) (A6 Z1c) .none kV34 dc34 pm34 an34 cd34 ct34),sl34⟩) (c34:W.codeIn K cd34 "Ranked.rank"=true) (n34:W.isFn K (.ref f34)=true) (k34:W.keepIn K (.ref f34)=true)
 (gv34:W.specialIn K (.ref f34) "__get__"=some (some (.builtin "function.__get__"))) (tv34:W.takesIn K (.ref f34)=some false)
 (F35:Gm K Z2 "asked" "Ranked.asked" Z43)
 (F36:Gm K Z2 "choice" "Ranked.choice" Z3j)
 (F37:Gm K Z2 "gone" "Rule.gone" Z50)
 (F38:Gm K Z2 "came" "Rule.came" Z51)
 (F39:Gm K Z3 "number_ask" "Ranked.number_ask" Z2b)
 (a40:W.findIn K (.ref Z3) "last_of"=some (some (.ref f40))) (l40:K.lookup f40=some ⟨oc40,od40,.func (W.fnOf "last_of" "Ranked.last_of" (B2 Z0n) (Ax Z0n) (A6 Z0n) .none kV40 dc40 pm40 an40 cd40 ct40),sl40⟩) (c40:W.codeIn K cd40 "Ranked.last_of"=true) (n40:W.isFn K (.ref f40)=true) (k40:W.keepIn K (.ref f40)=true)
 (gv40:W.specialIn K (.ref f40) "__get__"=some (some (.builtin "function.__get__"))) (tv40:W.takesIn K (.ref f40)=some false)
 (a41:W.findIn K (.ref Z3) "rank"=some (some (.ref f41))) (l41:K.lookup f41=some ⟨oc41,od41,.func (W.fnOf "rank" "Ranked.rank" (B2 Z1d) (Ax Z1d) (A6 Z1d) .none kV41 dc41 pm41 an41 cd41 ct41),sl41⟩) (c41:W.codeIn K cd41 "Ranked.rank"=true) (n41:W.isFn K (.ref f41)=true) (k41:W.keepIn K (.ref f41)=true)
 (gv41:W.specialIn K (.ref f41) "__get__"=some (some (.builtin "function.__get__"))) (tv41:W.takesIn K (.ref f41)=some false)
 (F42:Gm K Z3 "asked" "Ranked.asked" Z44)
 (F43:Gm K Z3 "choice" "Ranked.choice" Z3k)
 (F44:Gm K Z3 "gone" "Rule.gone" Z52)
 (F45:Gm K Z3 "came" "Rule.came" Z53)
 (F46:Gm K Z5 "number_ask" "Ranked.number_ask" Z2g)
 (a47:W.findIn K (.ref Z5) "rank"=some (some (.ref f47))) (l47:K.lookup f47=some ⟨oc47,od47,.func (W.fnOf "rank" "First.rank" (B2 Z1r) (Ax Z1r) (A6 Z1r) .none kV47 dc47 pm47 an47 cd47 ct47),sl47⟩) (c47:W.codeIn K cd47 "First.rank"=true) (n47:W.isFn K (.ref f47)=true) (k47:W.keepIn K (.ref f47)=true)
 (gv47:W.specialIn K (.ref f47) "__get__"=some (some (.builtin "function.__get__"))) (tv47:W.takesIn K (.ref f47)=some false)
 (F48:Gm K Z5 "asked" "Ranked.asked" Z54)
 (F49:Gm K Z5 "choice" "Ranked.choice" Z45)
 (F50:Gm K Z5 "gone" "Rule.gone" Z5w)
 (F51:Gm K Z5 "came" "First.came" Z5x)
 (F52:Gm K Z9 "asked" "Hand.asked" Z5y)
 (F53:Gm K Z9 "choice" "Hand.choice" Z55)
 (F54:Gm K Z9 "gone" "Hand.gone" Z6d)
 (F55:Gm K Z9 "came" "Hand.came" Z6e)
 (F56:Gf K "move" Zae)
 (F57:Gf K "step_of" Z77)
 (F58:Gm K Z1 "take_back" "Rows.take_back" Z3c)
 (F59:Gm K Z1 "leave" "Rows.leave" Z5z)
 (F60:Gm K Z1 "asked" "Rows.asked" Z60)
 (F61:Gm K Z1 "choice" "Rows.choice" Z56)
 (F62:Gm K Z1 "gone" "Rows.gone" Z6f)
 (F63:Gm K Z1 "came" "Rows.came" Z6g)
 (F64:Gm K Z0 "halve" "Halving.halve" Z3l)
 (F65:Gm K Z0 "number_ask" "Ranked.number_ask" Z1v)
 (a66:W.findIn K (.ref Z0) "last_of"=some (some (.ref f66))) (l66:K.lookup f66=some ⟨oc66,od66,.func (W.fnOf "last_of" "Ranked.last_of" (B2 Z0h) (Ax Z0h) (A6 Z0h) .none kV66 dc66 pm66 an66 cd66 ct66),sl66⟩) (c66:W.codeIn K cd66 "Ranked.last_of"=true) (n66:W.isFn K (.ref f66)=true) (k66:W.keepIn K (.ref f66)=true)
 (gv66:W.specialIn K (.ref f66) "__get__"=some (some (.builtin "function.__get__"))) (tv66:W.takesIn K (.ref f66)=some false)
 (a67:W.findIn K (.ref Z0) "rank"=some (some (.ref f67))) (l67:K.lookup f67=some ⟨oc67,od67,.func (W.fnOf "rank" "Halving.rank" (B2 Z13) (Ax Z13) (A6 Z13) .none kV67 dc67 pm67 an67 cd67 ct67),sl67⟩) (c67:W.codeIn K cd67 "Halving.rank"=true) (n67:W.isFn K (.ref f67)=true) (k67:W.keepIn K (.ref f67)=true)
 (gv67:W.specialIn K (.ref f67) "__get__"=some (some (.builtin "function.__get__"))) (tv67:W.takesIn K (.ref f67)=some false)
 (F68:Gm K Z0 "asked" "Halving.asked" Z3m)
 (F69:Gm K Z0 "choice" "Ranked.choice" Z3d)
 (F70:Gm K Z0 "gone" "Rule.gone" Z46)
 (F71:Gm K Z0 "came" "Rule.came" Z47)
 (F72:Gf K "make_room" Z6h)
 (F73:Gf K "row_of" Z7w)
 (F74:Gf K "book_of" Z3f)
 (F75:Gf K "_law_cell" Z7x)
 (F76:Gf K "_law_stream" Z6o)
 (F77:Gf K "_law_names" Z78)
 (F78:Gf K "_law_thing_rows" Z48)
 (F79:Gf K "_law_bad" Z8y)
 (F80:Gf K "_law_put" Z8z)
 (F81:Gf K "_law_spoilt" Z6p)
 (F82:Gf K "_law_alone" Z79)
 (F83:Gf K "_law_made" Z2h)
 (F84:Gf K "_law_told" Z7y)
 (F85:Gf K "_law_making" Z6q)
 (F86:Gf K "_law_as_new" Z6r)
 (a87:Gc K "law" f87) (l87:K.lookup f87=some ⟨oc87,od87,.func (W.fnOf "law" "law" (B2 Z5f) (Ax Z5f) (A6 Z5f) .none kV87 dc87 pm87 an87 cd87 ct87),sl87⟩) (c87:W.codeIn K cd87 "law"=true) (k87:W.keepIn K (.ref f87)=true)
 (Z1g:W.nsIn K mainGlobals "len"=some none)
 (Z05:W.nsIn K mainGlobals "isinstance"=some none)
 (Zc4:W.nsIn K mainGlobals "int"=some none)
 (Zac:W.nsIn K mainGlobals "bool"=some none)
 (Zc5:W.nsIn K mainGlobals "str"=some none)
 (Z1h:W.nsIn K mainGlobals "list"=some none)
 (Zc0:W.nsIn K mainGlobals "tuple"=some none)
 (Zc6:W.nsIn K mainGlobals "all"=some none)
 (Z41:W.nsIn K mainGlobals "range"=some none)
 (Zc7:W.nsIn K mainGlobals "sum"=some none)
 (Z49:W.nsIn K mainGlobals "enumerate"=some none)
 (Zf8:W.nsIn K mainGlobals "zip"=some none)
 (Zab:W.nsIn K mainGlobals "max"=some none)
 (Z6m:W.nsIn K mainGlobals "min"=some none)
 (Zes:W.nsIn K mainGlobals "dict"=some none)
 (Zad:W.nsIn K mainGlobals "sorted"=some none)
 (Zf9:W.nsIn K mainGlobals "set"=some none)
 (Z5p:W.nsIn K mainGlobals "ValueError"=some none)
 {Zcg:Tok} (Z64:W.nsIn K mainGlobals "LETTERS"=some (some (.str "abcdefghijklmnopqrstuvwxyz" Zcg)))
 {Zch:Tok} (Z74:W.nsIn K mainGlobals "FIGURES"=some (some (.str "0123456789" Zch)))
 {Zaa:Tok} (Z5q:W.nsIn K mainGlobals "MOST_SIGNS"=some (some (.int 8 Zaa)))
 {Z9m:Tok} (Z4u:W.nsIn K mainGlobals "MOST_THINGS"=some (some (.int 60 Z9m)))
 {Zaw:Tok} (Z67:W.nsIn K mainGlobals "MOST_ROOM"=some (some (.int 1000 Zaw)))
 {Z9n:Tok} (Z2y:W.nsIn K mainGlobals "MOST_PLACES"=some (some (.int 1000000 Z9n)))
 {Zax:Tok} (Z4a:W.nsIn K mainGlobals "MOST_ASKS"=some (some (.int 200 Zax)))
 {Zay:Tok} (Z0w:W.nsIn K mainGlobals "MOST_TURN"=some (some (.int 200 Zay)))
 (Zx:Gn K Zd "things")
 (Z23:Gn K Zg "stock")
 (Z2k:Gn K Zg "places")
 (Z0i:Gn K Zg "rooms")
 (Z1k:Gn K Zb "stock")
 (Z18:Gn K Zb "places")
 (Z0x:Gn K Z2 "stock")
 (Z0q:Gn K Z2 "places")
 (Z14:Gn K Z2 "present")
 (Z24:Gn K Z2 "last")
 (Z0y:Gn K Z3 "stock")
 (Z0r:Gn K Z3 "places")
 (Z15:Gn K Z3 "present")
 (Z25:Gn K Z3 "last")
 (Z19:Gn K Z5 "stock")
 (Z0z:Gn K Z5 "places")
 (Z0s:Gn K Z5 "present")
 (Z3g:Gn K Z5 "last")
 (Z1l:Gn K Z5 "put_at")
 (Z0f:Gn K Z0 "stock")
 (Z0d:Gn K Z0 "places")
 (Z08:Gn K Z0 "present")
 (Z10:Gn K Z0 "last")
 (Z2l:Gn K Z0 "turn")
 (Z00:Gn K Z0 "tally")
 (Z5o:Gn K Zn "stock")
 (Z57:Gn K Zn "places")
 (Z4o:Gn K Zn "present")
 (Z61:Gn K Zn "last")
 (Z62:Gn K Zn "asks")
 (Z1m:Gn K Z9 "stock")
 (Z1a:Gn K Z9 "places")
 (Z0a:Gn K Z9 "order")
 (Z0t:Gn K Z9 "marked")
 (Z1n:Gn K Z1 "stock")
 (Z0j:Gn K Z1 "places")
 (Z06:Gn K Z1 "once")
 (Z04:Gn K Z1 "again")
 (Zw:Gn K Z1 "past_once")
 (Zz:Gn K Z1 "past_again")
 (Z0p:Gn K Z1 "bound")
 (Z0l:Gn K Z1 "returns")
 {cA oA:Value}{dA eA:Option Addr}{cdA:ClassData}{slA smA:Array (Option Value)}{esA:Array DictEntry}{epA:Nat} (lA:K.lookup Zf=some ⟨cA,dA,.cls cdA,slA⟩) (lNA:K.lookup cdA.ns=some ⟨oA,eA,.dict esA epA,smA⟩) (sNA:Cm esA=true) (iNA:nsFind esA "__init__"=none)
 {Zba Zci:Str}{Z8n:Addr}{Zbb:List Value}{Zbc:Bool}{Zbd:List Str}{Zbe:List Value}{Zbf:Bool}{Zbg:Option Bool}{Zbh:Option Addr}{Zbi Zbj Zbk Zbl Zbm:Option Value}{Zbn:Value}{Zbo:Option Addr}{Z6i:Array DictEntry}{Zbp:Nat}{Zbq:Array (Option Value)}
 (Zbr:K.lookup Z4=some (excClassObj Zba Zci Z4 Z8n Zbb [.ref Zf,.type "ValueError",.type "Exception",.type "BaseException",.type "object"] Zbc Zbd Zbe Zbf Zbg Zbh Zbi Zbj Zbk Zbl Zbm "ValueError.__new__")) (Zbs:K.lookup Z8n=some ⟨Zbn,Zbo,.dict Z6i Zbp,Zbq⟩) (Zbt:Cm Z6i=true) (Zbu:nsFind Z6i "__init__"=none)
 (Zbv:W.keepIn K (.ref Z4)=true)
 {Zcj Zf2:Str}{Z9u:Addr}{Zck:List Value}{Zcl:Bool}{Zcm:List Str}{Zcn:List Value}{Zco:Bool}{Zcp:Option Bool}{Zcq:Option Addr}{Zcr Zcs Zct Zcu Zcv:Option Value}{Zcw:Value}{Zcx:Option Addr}{Z6v:Array DictEntry}{Zcy:Nat}{Zcz:Array (Option Value)}
 (Zd0:K.lookup Zc=some (excClassObj Zcj Zf2 Zc Z9u Zck [.ref Zf,.type "ValueError",.type "Exception",.type "BaseException",.type "object"] Zcl Zcm Zcn Zco Zcp Zcq Zcr Zcs Zct Zcu Zcv "ValueError.__new__")) (Zd1:K.lookup Z9u=some ⟨Zcw,Zcx,.dict Z6v Zcy,Zcz⟩) (Zd2:Cm Z6v=true) (Zd3:nsFind Z6v "__init__"=none)
 (Zd4:W.keepIn K (.ref Zc)=true)
 {Zd5 Z1s:Str}{Z9v:Addr}{Zd6:List Value}{Zd7:List Str}{Zd8:List Value}{Zd9:Bool}{Zda:Option Bool}{Zdb:Option Addr}{Zdc Zdd Zde Zdf Zdg:Option Value}{Zdh:Value}{Zdi:Option Addr}{Z6w:Array DictEntry}{Zdj:Nat}{Zdk:Array (Option Value)}
 (Z8o:K.lookup Z7=some (excClassObj Zd5 Z1s Z7 Z9v Zd6 [.ref Zf,.type "ValueError",.type "Exception",.type "BaseException",.type "object"] true Zd7 Zd8 Zd9 Zda Zdb Zdc Zdd Zde Zdf Zdg "ValueError.__new__")) (Zdl:K.lookup Z9v=some ⟨Zdh,Zdi,.dict Z6w Zdj,Zdk⟩) (Zdm:Cm Z6w=true) (Zdn:nsFind Z6w "__init__"=some (.ref f6))
 (Zdo:W.findIn K (.ref Z7) "__getattribute__"=some (some (.builtin "BaseException.__getattribute__"))) (Zdp:Gn K Z7 "__getattr__") (Zdq:W.findIn K (.ref Z7) "__setattr__"=some (some (.builtin "object.__setattr__")))
 (Z1o:Gn K Z7 "name")
 (Z1e:Gn K Z7 "place")
 {Zdr Z1t:Str}{Z9w:Addr}{Zds:List Value}{Zdt:List Str}{Zdu:List Value}{Zdv:Bool}{Zdw:Option Bool}{Zdx:Option Addr}{Zdy Zdz Ze0 Ze1 Ze2:Option Value}{Ze3:Value}{Ze4:Option Addr}{Z6x:Array DictEntry}{Ze5:Nat}{Ze6:Array (Option Value)}
 (Z8p:K.lookup Z8=some (excClassObj Zdr Z1t Z8 Z9w Zds [.ref Zf,.type "ValueError",.type "Exception",.type "BaseException",.type "object"] true Zdt Zdu Zdv Zdw Zdx Zdy Zdz Ze0 Ze1 Ze2 "ValueError.__new__")) (Ze7:K.lookup Z9w=some ⟨Ze3,Ze4,.dict Z6x Ze5,Ze6⟩) (Ze8:Cm Z6x=true) (Ze9:nsFind Z6x "__init__"=some (.ref f7))
 (Zea:W.findIn K (.ref Z8) "__getattribute__"=some (some (.builtin "BaseException.__getattribute__"))) (Zeb:Gn K Z8 "__getattr__") (Zec:W.findIn K (.ref Z8) "__setattr__"=some (some (.builtin "object.__setattr__")))
 (Z1p:Gn K Z8 "name")
 (Z1f:Gn K Z8 "place")
 (Z7u:W.findIn K (.ref Z4) "__getattribute__"=some (some (.builtin "BaseException.__getattribute__"))) (Z7v:Gn K Z4 "__getattr__")
 (Z8q:W.findIn K (.ref Zc) "__getattribute__"=some (some (.builtin "BaseException.__getattribute__"))) (Z8r:Gn K Zc "__getattr__")
 (Z8s:W.findIn K (.ref Z7) "__getattribute__"=some (some (.builtin "BaseException.__getattribute__"))) (Z8t:Gn K Z7 "__getattr__")
 (Z8u:W.findIn K (.ref Z8) "__getattribute__"=some (some (.builtin "BaseException.__getattribute__"))) (Z8v:Gn K Z8 "__getattr__")
 (gs_:W.specialIn K (.builtin "object.__class__") "__get__"=some (some (.builtin "getset_descriptor.__get__"))) (tk_:W.takesIn K (.builtin "object.__class__")=some true)
 {Zbw:ClassData} (Z2x:W.clsIn K Z4=some Zbw) (Z4k:W.typeIn K (.ref Z4)=some (.type "type"))
 {Zed:ClassData} (Z3v:W.clsIn K Zc=some Zed) (Z5j:W.typeIn K (.ref Zc)=some (.type "type"))
 {Zee:ClassData} (Z3w:W.clsIn K Z7=some Zee) (Z5k:W.typeIn K (.ref Z7)=some (.type "type"))
 {Zef:ClassData} (Z3x:W.clsIn K Z8=some Zef) (Z5l:W.typeIn K (.ref Z8)=some (.type "type"))
 {Zaz:ClassData} (Z3y:W.clsIn K Zf=some Zaz) (Z3z:W.typeIn K (.ref Zf)=some (.type "type"))
 (Zbx:W.findIn K (.ref Z4) "__class__"=some (some (.builtin "object.__class__"))) (wb_NoNumber:W.mroIn K Z4 (.type "BaseException")=some true) (Zby:W.mroIn K Z4 (.type "object")=some true) (ws_NoNumber:W.subIn K (.ref Z4) (.ref Z4)=some true) (wv_NoNumber:W.subIn K (.ref Z4) (.type "ValueError")=some true) (we_NoNumber:W.subIn K (.ref Z4) (.ref Zf)=some true)
 (w_NoNumber_NoNumber:W.subIn K (.ref Z4) (.ref Z4)=some true)
 (w_NoNumber_TooMany:W.subIn K (.ref Z4) (.ref Zc)=some false)
 (w_NoNumber_Unknown:W.subIn K (.ref Z4) (.ref Z7)=some false)
 (w_NoNumber_TooWide:W.subIn K (.ref Z4) (.ref Z8)=some false)
 (Zeg:W.findIn K (.ref Zc) "__class__"=some (some (.builtin "object.__class__"))) (wb_TooMany:W.mroIn K Zc (.type "BaseException")=some true) (Zeh:W.mroIn K Zc (.type "object")=some true) (ws_TooMany:W.subIn K (.ref Zc) (.ref Zc)=some true) (wv_TooMany:W.subIn K (.ref Zc) (.type "ValueError")=some true) (we_TooMany:W.subIn K (.ref Zc) (.ref Zf)=some true)
 (w_TooMany_NoNumber:W.subIn K (.ref Zc) (.ref Z4)=some false)
 (w_TooMany_TooMany:W.subIn K (.ref Zc) (.ref Zc)=some true)
 (w_TooMany_Unknown:W.subIn K (.ref Zc) (.ref Z7)=some false)
 (w_TooMany_TooWide:W.subIn K (.ref Zc) (.ref Z8)=some false)
 (Zei:W.findIn K (.ref Z7) "__class__"=some (some (.builtin "object.__class__"))) (wb_Unknown:W.mroIn K Z7 (.type "BaseException")=some true) (Zej:W.mroIn K Z7 (.type "object")=some true) (ws_Unknown:W.subIn K (.ref Z7) (.ref Z7)=some true) (wv_Unknown:W.subIn K (.ref Z7) (.type "ValueError")=some true) (we_Unknown:W.subIn K (.ref Z7) (.ref Zf)=some true)
 (w_Unknown_NoNumber:W.subIn K (.ref Z7) (.ref Z4)=some false)
 (w_Unknown_TooMany:W.subIn K (.ref Z7) (.ref Zc)=some false)
 (w_Unknown_Unknown:W.subIn K (.ref Z7) (.ref Z7)=some true)
 (w_Unknown_TooWide:W.subIn K (.ref Z7) (.ref Z8)=some false)
 (Zek:W.findIn K (.ref Z8) "__class__"=some (some (.builtin "object.__class__"))) (wb_TooWide:W.mroIn K Z8 (.type "BaseException")=some true) (Zel:W.mroIn K Z8 (.type "object")=some true) (ws_TooWide:W.subIn K (.ref Z8) (.ref Z8)=some true) (wv_TooWide:W.subIn K (.ref Z8) (.type "ValueError")=some true) (we_TooWide:W.subIn K (.ref Z8) (.ref Zf)=some true)
 (w_TooWide_NoNumber:W.subIn K (.ref Z8) (.ref Z4)=some false)
 (w_TooWide_TooMany:W.subIn K (.ref Z8) (.ref Zc)=some false)
 (w_TooWide_Unknown:W.subIn K (.ref Z8) (.ref Z7)=some false)
 (w_TooWide_TooWide:W.subIn K (.ref Z8) (.ref Z8)=some true)
 {Zbz:ClassData} (Z5m:W.subIn K (.ref Z4) (.type "BaseException")=some true) (Z4l:W.clsIn K Z4=some Zbz) (Z4m:W.typeIn K (.ref Z4)=some (.type "type"))
 {Zem:ClassData} (Z7c:W.subIn K (.ref Zc) (.type "BaseException")=some true) (Z6y:W.clsIn K Zc=some Zem) (Z6z:W.typeIn K (.ref Zc)=some (.type "type"))
 {Zen:ClassData} (Zf3:W.subIn K (.ref Z8) (.type "BaseException")=some true) (Zeo:W.clsIn K Z8=some Zen) (Zep:W.typeIn K (.ref Z8)=some (.type "type"))
 {Zeq:ClassData} (Z9x:W.subIn K (.ref Z7) (.type "BaseException")=some true) (Z8w:W.clsIn K Z7=some Zeq) (Z8x:W.typeIn K (.ref Z7)=some (.type "type"))
 (Z71:W.subIn K (.ref Z4) (.ref Z4)=some true)
 (Z7d:W.subIn K (.ref Zc) (.ref Z4)=some false)
 (Z7o:W.subIn K (.ref Zc) (.ref Zc)=some true)
 (Z7e:W.subIn K (.ref Z7) (.ref Z4)=some false)
 (Z7p:W.subIn K (.ref Z7) (.ref Zc)=some false)
 (Z7q:W.subIn K (.ref Z7) (.ref Z7)=some true)
 (Z7f:W.subIn K (.ref Z8) (.ref Z4)=some false)
 (Z7r:W.subIn K (.ref Z8) (.ref Zc)=some false)
 (Z7s:W.subIn K (.ref Z8) (.ref Z7)=some false)
 (Z7t:W.subIn K (.ref Z8) (.ref Z8)=some true)
 :∃fd:FuncData,(∀(s:Shared) (v:Value),BindsTo s fd ⟨[v],[]⟩ [("_law_script",v)])/\∀base:Heap,K.In base->base.Ns mainGlobals mg->Ai l.prog w K mg base (CXF l.prog w) 12 fa fd ["_law_script"] (O2 K):=by
 have e:=hfa.symm.trans (W.mg_of X G a87);cases e
 have T:Txt K mg Zf Z7 Z8 Z4 Zc Zd Zg Zb Z2 Z3 Z5 Z0 Zn Z9 Z1:=⟨W.mg_of X G Zc1,Zfb,Zx,W.mg_of X G Zc2,Zfc,Z23,Z2k,Z0i,W.mg_of X G Zex,Zff,Z1k,Z18,W.mg_of X G Zau,Zf6,Z0x,Z0q,Z14,Z24,W.mg_of X G Zav,Zf7,Z0y,Z0r,Z15,Z25,W.mg_of X G Zc3,Zfd,Z19,Z0z,Z0s,Z3g,Z1l,W.mg_of X G Z9r,Zey,Z0f,Z0d,Z08,Z10,Z2l,Z00,W.mg_of X G Z8m,Zce,Z5o,Z57,Z4o,Z61,Z62,W.mg_of X G Zez,Zfg,Z1m,Z1a,Z0a,Z0t,W.mg_of X G Zf0,Zfh,Z1n,Z0j,Z06,Z04,Zw,Zz,Z0p,Z0l,W.mg_of X G Zb9,W.mg_of X G Z9s,W.mg_of X G Z9t,W.mg_of X G Zcf,Wo Zbr Zbs Zbt Zbu lA lNA sNA iNA,Zbv,W.mg_of X G Zf1,Wo Zd0 Zd1 Zd2 Zd3 lA lNA sNA iNA,Zd4,Xg Z8o Zdo Zdp Zdq,Z1o,Z1e,Xg Z8p Zea Zeb Zec,Z1p,Z1f,⟨Z7u,Z7v⟩,⟨Z8q,Z8r⟩,⟨Z8s,Z8t⟩,⟨Z8u,Z8v⟩,⟨⟨Z7u,Z7v,Zbx,gs_,tk_,wb_NoNumber,Zby,⟨_,Z2x⟩⟩,Bm ws_NoNumber Z3y Z3z we_NoNumber,Q9 wv_NoNumber,Bm ws_NoNumber Z2x Z4k w_NoNumber_NoNumber,Bm ws_NoNumber Z3v Z5j w_NoNumber_TooMany,Bm ws_NoNumber Z3w Z5k w_NoNumber_Unknown,Bm ws_NoNumber Z3x Z5l w_NoNumber_TooWide,trivial⟩,⟨⟨Z8q,Z8r,Zeg,gs_,tk_,wb_TooMany,Zeh,⟨_,Z3v⟩⟩,Bm ws_TooMany Z3y Z3z we_TooMany,Q9 wv_TooMany,Bm ws_TooMany Z2x Z4k w_TooMany_NoNumber,Bm ws_TooMany Z3v Z5j w_TooMany_TooMany,Bm ws_TooMany Z3w Z5k w_TooMany_Unknown,Bm ws_TooMany Z3x Z5l w_TooMany_TooWide,trivial⟩,⟨⟨Z8s,Z8t,Zei,gs_,tk_,wb_Unknown,Zej,⟨_,Z3w⟩⟩,Bm ws_Unknown Z3y Z3z we_Unknown,Q9 wv_Unknown,Bm ws_Unknown Z2x Z4k w_Unknown_NoNumber,Bm ws_Unknown Z3v Z5j w_Unknown_TooMany,Bm ws_Unknown Z3w Z5k w_Unknown_Unknown,Bm ws_Unknown Z3x Z5l w_Unknown_TooWide,trivial⟩,⟨⟨Z8u,Z8v,Zek,gs_,tk_,wb_TooWide,Zel,⟨_,Z3x⟩⟩,Bm ws_TooWide Z3y Z3z we_TooWide,Q9 wv_TooWide,Bm ws_TooWide Z2x Z4k w_TooWide_NoNumber,Bm ws_TooWide Z3v Z5j w_TooWide_TooMany,Bm ws_TooWide Z3w Z5k w_TooWide_Unknown,Bm ws_TooWide Z3x Z5l w_TooWide_TooWide,trivial⟩,Dn Z5m Z4l Z4m Z71,Dn Z5m Z4l Z4m Z7d,Dn Z7c Z6y Z6z Z7o,Dn Z5m Z4l Z4m Z7e,Dn Z7c Z6y Z6z Z7p,Dn Z9x Z8w Z8x Z7q,Dn Z5m Z4l Z4m Z7f,Dn Z7c Z6y Z6z Z7r,Dn Z9x Z8w Z8x Z7s,Dn Zf3 Zeo Zep Z7t,W.mg_none_of X G Z1g,W.mg_none_of X G Z05,W.mg_none_of X G Zc4,W.mg_none_of X G Zac,W.mg_none_of X G Zc5,W.mg_none_of X G Z1h,W.mg_none_of X G Zc0,W.mg_none_of X G Zc6,W.mg_none_of X G Z41,W.mg_none_of X G Zc7,W.mg_none_of X G Z49,W.mg_none_of X G Zf8,W.mg_none_of X G Zab,W.mg_none_of X G Z6m,W.mg_none_of X G Zes,W.mg_none_of X G Zad,W.mg_none_of X G Zf9,W.mg_none_of X G Z5p,⟨_,W.mg_of X G Z64⟩,⟨_,W.mg_of X G Z74⟩,⟨_,W.mg_of X G Z5q⟩,⟨_,W.mg_of X G Z4u⟩,⟨_,W.mg_of X G Z67⟩,⟨_,W.mg_of X G Z2y⟩,⟨_,W.mg_of X G Z4a⟩,⟨_,W.mg_of X G Z0w⟩⟩
 have F6:=D3 (st:=Z11) l6 c6 kf6;have F7:=D3 (st:=Z12) l7 c7 kf7;have F20:=D3 (st:=Z0o) l20 c20 kf20;have F21:=D3 (st:=Z0b) l21 c21 kf21;have F24:=J6h (st:=Zt) (dv:=[.int 8 dk24]) l24 c24 kf24 ld24 rfl;have F33:=D3 (st:=Z0m) l33 c33 k33;have F34:=D3 (st:=Z1c) l34 c34 k34;have F40:=D3 (st:=Z0n) l40 c40 k40;have F41:=D3 (st:=Z1d) l41 c41 k41;have F47:=D3 (st:=Z1r) l47 c47 k47;have F66:=D3 (st:=Z0h) l66 c66 k66;have F67:=D3 (st:=Z13) l67 c67 k67;have F87:=D3 (st:=Z5f) l87 c87 k87;refine⟨W.fnOf "law" "law" (B2 Z5f) (Ax Z5f) (A6 Z5f) .none kV87 dc87 pm87 an87 cd87 ct87,λs v=> .of_eq rfl,λbase _ _=>?_⟩
 have B:Bs l.prog w K mg base:=⟨h,X,G⟩
 have Z65:=F0.d B (Zc8 T);have Z66:=F1.d B (Zc9 T Z65);have Z5g:=F2.d B (Zb1 T);have Zk:=F3.d B (Zaf T Z5g);have Z2z:=F4.d B (Z90 T Z66 Zk);have Z3n:=F5.i B Zc1 (Z9y T Z2z)
 have Z2m:T8 l.prog w K mg base (CXF l.prog w) 1 "Unknown" Z7 ["self","name","place"] (Ik Z7):=⟨⟨f6,_,Z89 T F6,J34 Z8o Zdl Zdm Zdn lA lNA sNA iNA l6 hc6 k6,W.mg_of X G Z9s,F6.e3 λ_ _ _ _ _ _ _ _ _=>rfl⟩⟩
 have Z2n:T8 l.prog w K mg base (CXF l.prog w) 1 "TooWide" Z8 ["self","name","place"] (Ik Z8):=⟨⟨f7,_,Z8a T F7,J34 Z8p Ze7 Ze8 Ze9 lA lNA sNA iNA l7 hc7 k7,W.mg_of X G Z9t,F7.e3 λ_ _ _ _ _ _ _ _ _=>rfl⟩⟩
 have Z4b:=F8.m B (Zag T);have Z1w:=F9.m B (Z7g T);have Zu:=F10.m B (Z7z T Z1w);have Zi:=F11.d B (Z8b T Zk);have Zs:=F12.d B (Z9z T Z2m Z2n Z4b Zu Zi);have Z26:=F13.m B (Z91 T);have Z0g:=F14.i B Zc2 (Za0 T Zi);have Z30:=F15.m B (Z92 T);have Z07:=F16.m B (Z93 T);have Z09:=F17.m B (Z7a T);have Z4c:=F18.m B (Zah T Zu Z07 Z09);have Z3o:=F19.m B (Za1 T Z07)
 have Z6:Ol l.prog w K mg base (CXF l.prog w) 4 "Rule" Zb ["self","stock","places"] (λvs H Q E=>(Dl K) vs H Q E\/(Cz Z4) vs H Q E):=⟨⟨f20,_,Zai T Zi F20,⟨m20,a20,n20,k20⟩,W.mg_of X G Zex,F20.e3 λ_ _ _ _ _ _ _ _ _=>rfl,fc20,kf20⟩,sc20,rc20⟩
 have Za:Ol l.prog w K mg base (CXF l.prog w) 5 "Ranked" Z2 ["self","stock","places"] (λvs H Q E=>(C9 K) vs H Q E\/(Cz Z4) vs H Q E):=⟨⟨f21,_,Z96 T Z6 F21,⟨m21,a21,n21,k21⟩,W.mg_of X G Zau,F21.e3 λ_ _ _ _ _ _ _ _ _=>rfl,fc21,kf21⟩,sc21,rc21⟩
 have Zl:=F22.i B Zav (Z97 T Z6);have Zm:=F23.i B Zc3 (Za2 T Za)
 have Zj:Oa l.prog w K mg base (CXF l.prog w) 6 "Halving" Z0 ["self","stock","places","turn"] "turn" [V.int 8] (λvs H Q E=>(E6 Z0) vs H Q E\/(λvs H Q E=>(Pw Z4) vs H Q E\/(Px Z4 Z0) vs H Q E) vs H Q E):=⟨⟨f24,_,_,Z8e T Zk Za F24,⟨m24,a24,n24,k24⟩,W.mg_of X G Z9r,.cons ⟨_,rfl⟩ .nil,F24.binds λ_ _ _ _ _ _ _ _ _ _=>⟨_,rfl,rfl⟩,F24.kbinds λ_ _ _ _ _ _ _ _ _ _ _=>⟨_,rfl,rfl⟩,F24.full λ_ _ _ _ _ _ _ _ _ _ _=>⟨_,rfl,rfl⟩⟩⟩
 have Zo:=F25.i B Z8m (Z84 T Zs Za);have Zp:=F26.i B Zez (Zaj T Z6);have Zq:=F27.i B Zf0 (Zak T Z6);have Z3p:=F28.m B (Za3 T);have Z31:=F29.m B (Z9c T);have Z4d:=F30.m B (Zal T);have Z4e:=F31.m B (Zam T);have Z16:=F32.m B (Z6s T)
 have Z1x:Io l.prog w K mg base 1 Z2 "last_of" ["self","name"] (D5 Z2):=⟨⟨f33,_,Z7k T F33,⟨a33,n33,k33⟩,F33.e2 λ_ _ _ _ _ _ _ _=>rfl,gv33,tv33⟩⟩
 have Z32:Io l.prog w K mg base 2 Z2 "rank" ["self","name"] (D6 Z2):=⟨⟨f34,_,Z9d T Z1x F34,⟨a34,n34,k34⟩,F34.e2 λ_ _ _ _ _ _ _ _=>rfl,gv34,tv34⟩⟩
 have Z2o:=F35.m B (Z8f T Z16);have Z2c:=F36.m B (Z85 T Z32);have Z33:=F37.m B (Z9e T);have Z34:=F38.m B (Z9f T);have Z17:=F39.m B (Z6t T)
 have Z1y:Io l.prog w K mg base 1 Z3 "last_of" ["self","name"] (D5 Z3):=⟨⟨f40,_,Z7l T F40,⟨a40,n40,k40⟩,F40.e2 λ_ _ _ _ _ _ _ _=>rfl,gv40,tv40⟩⟩
 have Z35:Io l.prog w K mg base 2 Z3 "rank" ["self","name"] (D6 Z3):=⟨⟨f41,_,Z9g T Z1y F41,⟨a41,n41,k41⟩,F41.e2 λ_ _ _ _ _ _ _ _=>rfl,gv41,tv41⟩⟩
 have Z2p:=F42.m B (Z8g T Z17);have Z2d:=F43.m B (Z86 T Z35);have Z36:=F44.m B (Z9h T);have Z37:=F45.m B (Z9i T);have Z1i:=F46.m B (Z70 T)
 have Z3q:Io l.prog w K mg base 1 Z5 "rank" ["self","name"] (Ey Z5):=⟨⟨f47,_,Za4 T F47,⟨a47,n47,k47⟩,F47.e2 λ_ _ _ _ _ _ _ _=>rfl,gv47,tv47⟩⟩
 have Z38:=F48.m B (Z9j T Z1i);have Z2q:=F49.m B (Z8h T Z3q);have Z3r:=F50.m B (Za5 T);have Z3s:=F51.m B (Za6 T);have Z3t:=F52.m B (Za7 T);have Z39:=F53.m B (Z9k T);have Z4f:=F54.m B (Zan T);have Z4g:=F55.m B (Zao T);have Z4s:=F56.d B (Zfa T);have Z4t:=F57.d B (Zca T);have Z1z:=F58.m B (Z7m T Z4t);have Z2i:=F59.m B (Za8 T Z4s);have Z3u:=F60.m B (Za9 T Z4s Z1z);have Z3a:=F61.m B (Z9l T);have Z4h:=F62.m B (Zap T Z2i);have Z4i:=F63.m B (Zaq T);have Z2e:=F64.m B (Z87 T);have Z0v:=F65.m B (Z6j T)
 have Z1j:Io l.prog w K mg base 1 Z0 "last_of" ["self","name"] (Ez Z0):=⟨⟨f66,_,Z7b T F66,⟨a66,n66,k66⟩,F66.e2 λ_ _ _ _ _ _ _ _=>rfl,gv66,tv66⟩⟩
 have Z2r:Io l.prog w K mg base 2 Z0 "rank" ["self","name"] (G0 Z0):=⟨⟨f67,_,Z8i T Z1j F67,⟨a67,n67,k67⟩,F67.e2 λ_ _ _ _ _ _ _ _=>rfl,gv67,tv67⟩⟩
 have Z2f:=F68.m B (Z88 T Z2e Z0v);have Z20:=F69.m B (Z7n T Z2r);have Z2s:=F70.m B (Z8j T);have Z2t:=F71.m B (Z8k T);have Z4j:=F72.d B (Zar T Z30 Z09 Z3o Z31 Z4d Z2c Z33 Z2d Z36 Z2q Z3r Z39 Z4f Z3a Z4h Z20 Z2s);have Z21:=F73.d B (Zet T Zu Z07 Z4c Z3p Z4e Z2o Z34 Z2p Z37 Z38 Z3s Z3t Z4g Z3u Z4i Z2f Z2t Z4j);have Z0k:=F74.d B (Zcb T Zs Z0g Z21);have Zr:=F75.d B (Zeu T);have Z22:=F76.d B (Zb2 T);have Z2j:=F77.d B (Zcc T);have Z2u:=F78.d B (Z8l T Zr Z22 Z2j);have Z6k:=F79.d B (Zf4 T);have Z5n:=F80.d B (Zf5 T);have Z5h:=F81.d B (Zb3 T Zr Z5n);have Z0e:=F82.dH B (Zcd T);have Z0u:=F83.d B (Zev T Z6 Za Zl Zm Zj Zo Zp Zq);have Z6u:=F84.d B (Zew T Z0k Z0e);have Z2v:=F85.d B (Zb7 T Z0e Z0u);have Z5i:=F86.d B (Zb8 T Z26 Z0k Z0u Z6u);exact Zfe T Z3n Zr Z22 Z2j Z2u Z6k Z5h Z2v Z5i F87
end K20
open PySem PySem.W PyProof.Rows
set_option maxRecDepth 100000 in
set_option maxHeartbeats 0 in
theorem PySem.Challenge.cw_castoff_k20_rules_refused_holds : PySem.Challenge.rw_castoff_k20_rules_refused.Holds := by
 refine hd20 ?_
 k_fill
 refine L2.Yv (l:=PySem.Challenge.rw_castoff_k20_rules_refused) (n:=63) (k:=12) (x:="_law_script") (sp:=N1.O2) rfl (by decide) rfl ⟨rfl,by decide,by decide⟩ (λw h Y=>PySem.W.kIn_of Y) ?F ?S
 case F=>
  intro w mg fa h KX G hmg;refine' K20.Ja1 KX G hmg ..
  any_goals first | k_is | (refine'⟨_,_,?j,L2.D3 ?l ?c ?k⟩;(case j=>k_is);case l|c|k=>k_is) | (refine'⟨_,_,⟨?j,?m,?n⟩,L2.D3 ?l ?c ?k⟩;(case j|m|n=>k_is);case l|c|k=>k_is) | (refine'⟨_,_,⟨?i,?j,?m,?n⟩,L2.D3 ?l ?c ?k⟩;(case i|j|m|n=>k_is);case l|c|k=>k_is) | (refine'⟨?i,?j,?m,?n⟩;case i|j|m|n=>k_is) | rfl | kernel_rfl
 case S=>exact λK H a ns hl hO hS=>⟨a,ns,rfl,hS,hl,λ_=>rfl⟩
